import PyProof.Rows.All
import Wide.All
import OpenK.AllK
import Wide.FinOn
import Lean
import PyProof.EqAt
import PyProof.EqKinds
import PyProof.TupleCall
import KE.KRevIter
import KE.KIntText
import KE.KMinKey
import PySem.Challenge.RW_nearposts_k61_what_a_desk_refuses
set_option linter.all false
noncomputable section
open Array renaming append_assoc → F6,find?_toList → F7,getElem?_eq_getElem → z_,getElem?_toList → u0,length_toList → gC,toList_extract → u6
open Bool renaming and_eq_true → cq,eq_iff_iff → AI,false_eq_true → AJ,false_ne_true → dH,not_eq_true → vg,not_eq_true' → lI,or_eq_true → AK
open Char renaming toNat → ku
open False renaming elim → cV
open ForIn renaming forIn → jW
open LawfulBEq renaming eq_of_beq → sQ
open List renaming all_cons → kG,all_eq_true → pd,any_cons → kH,any_eq_false → Hc,append_assoc → nr,append_nil → e6,cons_append → vO,contains_cons → He,dropLast_eq_take → Hf,drop_eq_getElem_cons → Hg,ext_getElem? → rR,extract_eq_take_drop → vP,filterMap_cons → A8,find?_cons → pe,findIdx?_cons → Hh,forIn_cons → vQ,getD_eq_getElem?_getD → pf,getElem?_append_left → jE,getElem?_append_right → lY,getElem?_cons_succ → vR,getElem?_eq_getElem → ph,getElem?_map → e7,getElem?_nil → vS,getElem?_replicate → nt,getElem?_set_ne → eh,getElem?_set_self → iC,getLast?_eq_getElem? → Hi,getLast?_eq_some_getLast → Hj,getLast?_map → Hk,length → rS,length_append → eN,length_cons → dB,length_dropLast → iE,length_map → cm,length_nil → vT,length_range → Hl,length_replicate → pj,length_reverse → Hm,length_singleton → nu,lookup → lZ,lookup_cons → fJ,map_append → jF,map_cons → bV,map_dropLast → Hn,map_nil → rT,mem_append → fK,mem_append_left → cy,mem_append_right → bB,mem_cons → nv,mem_cons_of_mem → bP,mem_cons_self → bQ,mem_of_getElem? → pk,ne_nil_of_length_pos → A9,not_mem_nil → dC,of_mem_zip → vU,range → iF,replicate → cO,reverse_cons → vV,size_toArray → e_,take_of_length_le → Ho,zip → b_
open List.cons renaming inj → kI
open Nat renaming add_le_add_left → Ba,add_sub_cancel_left → Hq,le_of_lt → ny,le_of_not_lt → pz,le_refl → cj,le_succ → nz,le_trans → dn,log2_lt → vX,lt_irrefl → jG,lt_of_le_of_lt → kJ,lt_of_lt_of_le → dI,lt_succ_self → vY,lt_trans → Bb,ne_of_gt → pA,ne_of_lt → cJ,toDigits → kK,zero_le → kL
open Ne renaming symm → cn
open Option renaming bind_some → bW,filter_some → Hr,isSome_map → Hs,map → Bd,map_some → l5
open Option.some renaming inj → aE
open Pure renaming pure → aN
open PyProof.Rows renaming AllBare → iS,IntsAre → o9,Subscript_ → BF,boot_isinstance → Bh,callWith_type1 → pH,envOfC → dW,joinParts_cons → tm,recsOf → t8,seqObj → uu,sortedHeap → E_,subscriptTail → Fq,subscriptTail_builtinR → QM
open PySem renaming Addr → af,Arguments → uY,Around → bw,BindsTo → jz,Builtin → kq,CmpOp → gh,DictEntry → ri,ExcBaseFacts → mZ,FuncData → aY,Heap → az,IsRangeIter → vJ,Keyword → df,Model → pw,NameKind → iZ,OwnTail → l6,Paired → nE,Params → r6,PassesOwn → pF,Program → aQ,PyData → ae,Result → nO,Shared → ar,Stmt → aG,Value → ah,Within → BA,World → aM,again → pO,assign → kW,assignEach → i9,atKey → kX,attributeBase → dR,backTo → a0,backToKw → dS,behindInMarks → jP,binaryOp → i_,bindArgs → bO,bindC → mj,bindL → ml,bootBuiltins → dJ,builtinLookup_eq_fast → IH,builtinsNs → sv,call → BB,callWith → jT,call_meets → gO,callerA → nU,cellsFrom → wZ,codeAny → gm,codeAny_call_builtin → Cf,codeAny_call_function → Jj,codeAny_mono → mq,compareOp → fC,comprehension → Ck,eval → aB,excClassObj → gQ,foldedSetIterable → k7,getAttr → sW,getItem → p6,getMethod → jk,holding → jm,intText? → xJ,isInstance → C5,keywordEach → dY,letOwnedTupleGo → xS,limitOf → tD,mainGlobals → a_,mem_of_lookup → kR,model → aF,ofString_length → HL,plainObj_wpAny_Assign_Attribute → Oc,rawInt → j6,reprText → yu,revObj → t_,setAttr → zw,sizeLine_eq → E6,sliceBounds → oy,standAt → jv,starEach → ax,strLen_append → uy,subscripted → zF,swapsWith → dF,sysModules → jw,tupleKind → uL,tupleKind_room_in1 → FH,typeIs_str → kh,typeLookup → uO,unbindBehindTheSuite → R5,valueAt → oG,wpAny → aI,wpAny_Call_Name_kw → mV,wpAny_Name → FW,wpAny_assign_Name → Sm,wpAny_bind → aU,wpAny_call → mW,wpAny_execs_cons → zU,wpAny_execs_nil → qX,wpAny_field → FX,wpAny_holding → oH,wpAny_isSubtype_exc → Sn,wpAny_isTrue_Compare1 → So,wpAny_is_other → lE,wpAny_ite_split → zV,wpAny_loadPart → FY,wpAny_loadPart_at → uS,wpAny_mono → cT,wpAny_newFunctionEnv_cells → Sq,wpAny_newObj_type → Sr,wpAny_passesOwn → oJ,wpAny_pure → bU,wpAny_pyIter_enum → Ss,wpAny_pyIter_list → Su,wpAny_pyIter_range → Sv,wpAny_pyIter_rangeiter → Sw,wpAny_pyNext_range_end → Sx,wpAny_setField → FZ,wpAny_setFlight_none → Sy,wpAny_specialOf → F0,wpAny_standAt → uT,wpAny_truthy_bool → mX,wpAny_updateSeq → F1
open PySem.Around renaming under → uZ
open PySem.Builtin.Int renaming intBits → F8
open PySem.Builtin.List renaming listExtendWith → AL,listItems → F9,listLengthHint → F_,listSameRef → Ga,listTooLong → AM
open PySem.Builtin.ObjectAttr renaming bindTo → Gb,storeInDict → Ge
open PySem.Builtin.Range renaming rangeSize → vh,small → Gf
open PySem.Builtin.Str renaming glued → eW,occurrences → iy,partsBetween → AN,strKind → iT,strSliceIndices → Gg,strSub → kr,subAt → iz,tooLong → vi
open PySem.Calls renaming Name_function_global → Gr,callWith_builtin → vk,evalArgs_plain → vm,spliced_cons → AO,spliced_nil → AQ
open PySem.Code renaming isFrame → AS,quiet_builtin → Gs
open PySem.EntryCells renaming newEntry → GF
open PySem.F renaming args_list_index_2 → Ht,args_str_split_2 → Bi,args_str_split_3 → Bj,entry_list_index → Hu,entry_str_split → pI,excBase_ValueError → vt,plainAttrs_list → nI,plainAttrs_str → wc,plain_extend_loop → GG,slot_dict_get → Hv,slot_list_count → Hw,slot_list_index → wd,slot_list_pop → Hx,slot_str_ascii_iterator_iter → Hy,slot_str_join → Hz,slot_str_split → l7,slot_str_startswith → HA,type_list_index → HB,type_list_pop → HC,type_str_split → HD
open PySem.Heap renaming MadeExcOf → A4,SameBut → lU,get?_none_of_le → A5,get?_push_at → G8,get?_push_of_some → cL,get?_push_size → fA,get?_update_ne → G9,get?_update_other → lV,get?_update_self → nj,lt_size → bA,size_push → A6,update_setField_same → G_
open PySem.Heap.Ns1 renaming of_empty → G7
open PySem.Obj renaming cls_mapFields → vZ,data_mapFields → jI,isFreed_of_fields → Bc,mapFields → pB,mapSeq → kM
open PySem.Paired renaming length → Bg
open PySem.PassesOwn renaming never → v9
open PySem.PyData renaming canLay0 → i5,canLayAll0 → pG,depth → r9,depthAll → wb,eqv → i6,eqvAll → nG
open PySem.SeqAt renaming canLay_of_shaped → wy,list_indexAt → HQ,shaped → fW
open PySem.SeqAt.EqAt renaming int_str → HM,same → BC,str_int → HN,tuple_none → HP
open PySem.Str renaming empty → sg,join → nP,ofString → aj
open PySem.StrLaws renaming glued_eq_join → wA,occBody → md,subAt_one → HS
open PySem.W renaming Frag → ao,InstAt → jK,Looks → r_,OpenLaw → Bk,any_some → sd,callWith_K → nJ,cellsFrom_some → Bl,clsIn → Bm,codeIn → we,codeRec_of → HF,emptyDict → kP,exmOne → Bo,findCls → Bp,findIn → cK,findObj → wg,findObj_own → HG,fnOf → fU,handedIn → Bq,hasDictIn → l8,instObj → l9,isFn → nK,isNs_of_in → Br,keepIn → gK,kia_one → l_,kitOne → i7,kitx_none → HH,lookIn → wj,looks_clsIn → Bs,looks_find → HI,looks_findIn → wk,looks_mroIn → HJ,makesIn → wm,methodCall_KW → Bt,methodObj → Bu,mg_of → fV,mroIn → pK,notCls → se,nsIn → bG,nsOkIn → wo,plainGet → nM,plainGet_of → Bv,plainOver → sf,readsIn → Bw,set_plain → HK,specialIn → nN,tabIn → kQ,tabObj → wq,tailIn → wu,tail_of_in → wx,takerIn → Bx,takesIn → By,typeIn → Bz
open PySem.W.KIN renaming val_back → HE
open PySem.W.Looks renaming here → pJ
open Sum.inr renaming inj → nQ
open ToString renaming toString → jx
namespace L2
theorem bp {α:Type _}{a:α}{G:Prop}(h:none=some a):G:=nomatch h
theorem Mu {α:Type _}{a:α}{G:Prop}(h:some a=none):G:=nomatch h
theorem fj {G:Prop}(h:false=true):G:=nomatch h
end L2
set_option Elab.async false
set_option maxRecDepth 100000
open PySem PySem.Spec PyProof.Rows
namespace L2
abbrev bt:=Sum Int Str
def mE:bt->ah->Bool
 | .inl k,v=>Value.isInt k v
 | .inr x,v=>Value.isStrOf x v
def Ll (w:aM):bt->Int
 | .inl k=>hashInt k
 | .inr x=>hashStr w x
theorem jr:∀ {k:bt} {v:ah},mE k v=true->(∃ i t,k=Sum.inl i∧v=Value.int i t)∨(∃ x t,k=Sum.inr x∧v=Value.str x t)
 | .inl i,v,h=>by
  obtain⟨t,e⟩:=Value.isInt_shape (k:=i) (v:=v) h
  exact .inl ⟨i,t,rfl,e⟩
 | .inr x,v,h=>by
  obtain⟨t,e⟩:=Value.isStrOf_shape (x:=x) (v:=v) h
  exact .inr ⟨x,t,rfl,e⟩
theorem Lm (i:Int)(t:Tok):mE (.inl i) (.int i t)=true:=by simp[mE,Value.isInt]
theorem Ln (x:Str)(t:Tok):mE (.inr x) (.str x t)=true:=by simp[mE,Value.isStrOf]
theorem Lo (a b:Int):decide ((Sum.inl a:bt)=Sum.inl b)=(a==b):=by
 by_cases e:a=b
 ·subst e;simp
 ·have h:¬ (Sum.inl a:bt)=Sum.inl b:=fun q=>e (Sum.inl.inj q)
  rw[decide_eq_false h]
  exact (beq_eq_false_iff_ne.mpr e).symm
theorem Lr (a b:Str):decide ((Sum.inr a:bt)=Sum.inr b)=decide (a=b):=by
 by_cases e:a=b
 ·subst e;simp
 ·have h:¬ (Sum.inr a:bt)=Sum.inr b:=fun q=>e (nQ q)
  rw[decide_eq_false h,decide_eq_false e]
theorem Lp (a:Int)(b:Str):decide ((Sum.inl a:bt)=Sum.inr b)=false:=decide_eq_false (fun q=>nomatch q)
theorem Lq (a:Str)(b:Int):decide ((Sum.inr a:bt)=Sum.inl b)=false:=decide_eq_false (fun q=>nomatch q)
def eI (prog:aQ)(w:aM):PySem.KeyKind prog w bt where
 is:=mE
 hash:=Ll w
 inj:=fun v a b ha hb=>by
  rcases jr ha with ⟨i,t,rfl,rfl⟩ | ⟨x,t,rfl,rfl⟩
  ·rcases jr hb with ⟨j,u,rfl,e⟩ | ⟨y,u,rfl,e⟩
   ·injection e with e1 _;rw[e1]
   ·exact nomatch e
  ·rcases jr hb with ⟨j,u,rfl,e⟩ | ⟨y,u,rfl,e⟩
   ·exact nomatch e
   ·injection e with e1 _;rw[e1]
 byValue:=fun k v h=>by
  rcases jr h with ⟨i,t,rfl,rfl⟩ | ⟨x,t,rfl,rfl⟩ <;> rfl
 pyHash:=fun hv h=>by
  rcases jr hv with ⟨i,t,rfl,rfl⟩ | ⟨x,t,rfl,rfl⟩
  ·exact wpAny_pyHash_int h
  ·exact wpAny_pyHash_str h
 eqBool:=fun hu hv h=>by
  rcases jr hu with ⟨i,t,rfl,rfl⟩ | ⟨x,t,rfl,rfl⟩
  ·rcases jr hv with ⟨j,u,rfl,rfl⟩ | ⟨y,u,rfl,rfl⟩
   ·rw[Lo] at h;exact wpAny_eqBool_int h
   ·rw[Lp] at h;exact HM i t y u _ _ _ _ h
  ·rcases jr hv with ⟨j,u,rfl,rfl⟩ | ⟨y,u,rfl,rfl⟩
   ·rw[Lq] at h;exact HN x t j u _ _ _ _ h
   ·rw[Lr] at h;exact wpAny_eqBool_str h
 «strs»:=fun k x t v h=>by
  rcases jr h with ⟨i,u,rfl,e⟩ | ⟨y,u,rfl,e⟩
  ·exact nomatch e
  ·injection e with e1 _
   subst e1
   cases v <;> rfl
theorem L5 (prog:aQ)(w:aM)(i:Int)(t:Tok):(eI prog w).is (.inl i) (.int i t)=true:=Lm i t
theorem xX (prog:aQ)(w:aM)(x:Str)(t:Tok):(eI prog w).is (.inr x) (.str x t)=true:=Ln x t
end L2
namespace L2
inductive V where
 | non | bl (b:Bool) | int (i:Int) | str (x:Str) | byt (b:Array UInt8) | flt (b:UInt64) | ref (a:af) | ty (n:String)
 deriving DecidableEq
def RelV:V->ah->Prop
 | .non,u=>u=Value.none
 | .bl b,u=>u=Value.bool b
 | .int i,u=>∃ t,u=Value.int i t
 | .str x,u=>∃ t,u=Value.str x t
 | .byt b,u=>∃ t,u=Value.bytes b t
 | .flt b,u=>∃ t,u=Value.float b t
 | .ref a,u=>u=Value.ref a
 | .ty n,u=>u=Value.type n
abbrev aV:List V->List ah->Prop:=nE RelV
theorem aV.length {xs:List V}{us:List ah}(r:aV xs us):xs.length=us.length:=Bg r
theorem aV.get:∀ {xs:List V} {us:List ah} {i:Nat} {x:V},aV xs us->xs[i]?=some x->∃ u,us[i]?=some u∧RelV x u
 | _,_,_,_,.nil,e=>by simp at e
 | _,_,0,_,.cons r _,e=>by simp at e;subst e;exact⟨_,rfl,r⟩
 | _,_,i+1,x,.cons _ t,e=>by
  obtain⟨u,h1,h2⟩:=aV.get (i:=i) (x:=x) t (by simpa using e)
  exact⟨u,by simpa using h1,h2⟩
theorem aV.set {x:V}{u:ah}(r:RelV x u):∀ {xs:List V} {us:List ah} (i:Nat),aV xs us->aV (xs.set i x) (us.set i u)
 | _,_,_,.nil=>.nil
 | _,_,0,.cons _ t=>.cons r t
 | _,_,i+1,.cons q t=>.cons q (aV.set r i t)
theorem aV.append {xs ys:List V}{us ws:List ah}(h:aV xs us)(s:aV ys ws):aV (xs++ys) (us++ws):=by
 induction h with
 | nil=>exact s
 | cons r t ih=>exact .cons r ih
theorem aV.take:∀ {xs:List V} {us:List ah} (n:Nat),aV xs us->aV (xs.take n) (us.take n)
 | _,_,0,_=>.nil
 | _,_,_+1,.nil=>.nil
 | _,_,n+1,.cons r t=>.cons r (aV.take n t)
theorem aV.drop:∀ {xs:List V} {us:List ah} (n:Nat),aV xs us->aV (xs.drop n) (us.drop n)
 | _,_,0,r=>r
 | _,_,_+1,.nil=>.nil
 | _,_,n+1,.cons _ t=>aV.drop n t
theorem aV.none_of:∀ {xs:List V} {us:List ah} {i:Nat},aV xs us->xs[i]?=none->us[i]?=none:=fun {xs us i} r e=>by
 have h1:=r.length
 have h2:xs.length≤i:=List.getElem?_eq_none_iff.mp e
 exact List.getElem?_eq_none_iff.mpr (by omega)
def ek:Option V->Option ah->Prop
 | some v,some u=>RelV v u
 | none,none=>True
 | _,_=>False
def KV {κ:Type}:List (κ×V)->List (κ×ah)->Prop:=nE fun (p:κ×V) (q:κ×ah)=>p.1=q.1∧RelV p.2 q.2
def kV:bt->V
 | .inl i=>.int i
 | .inr x=>.str x
inductive HO where
 /-- a list -/
 | lst (xs:List V)
 /-- a tuple (never changes) -/
 | tup (xs:List V)
 /-- a dict whose keys are ints and texts;one whose keys are tuples of ints and texts (the empty one is both) -/
 | dK (kvs:List (bt×V)) | dT (kvs:List (List bt×V))
 /-- a set of ints: its members,its size -/
 | set (S:Int->Bool) (n:Nat)
 /-- an instance of the class at C,its dict at dx,its attributes -/
 | ins (C dx:af) (fs:List (Str×V))
 /-- the dict of the instance at x -/
 | own (x:af)
 /-- the dict of an exception -/
 | xd (fs:List (Str×V))
 /-- a bound method,f of x -/
 | met (f x:af)
 /-- a range object lo,lo+1,.. below hi -/
 | rng (lo hi:Int)
 /-- a thing that is known to the object (the script;a dict while a loop walks it): read,never written while it is so -/
 | frz (o:Obj) (u:HO)
 /-- a code object's table -/
 | tbl (ps:Array ah)
 | tab
 /-- any other thing,by what is true of its one object (a def of one's own: SetO a S n:=HO.ext fun h=>..) -/
 | ext (φ:az->Prop)
abbrev Hp:=af->Option HO
def upd (H:Hp)(a:af)(o:HO):Hp:=fun b=>if b=a then some o else H b
theorem cD {H:Hp}{a:af}{o:HO}:upd H a o a=some o:=by unfold upd;rw[if_pos rfl]
theorem ba {H:Hp}{a b:af}{o:HO}(h:b≠a):upd H a o b=H b:=by unfold upd;rw[if_neg h]
theorem Ms {H:Hp}{a b:af}{o u:HO}(h:H a=some o)(h':H b=some u)(d:o≠u):a≠b:=by
 intro e;subst e;rw[h] at h';exact d (aE h')
theorem dh {H:Hp}{a b:af}{o:HO}(h:H a=some o)(h':H b=none):a≠b:=by
 intro e;subst e;rw[h] at h';cases h'
section
variable (P:aQ)(w:aM)
def cP (H:Hp)(h:az)(a:af):HO->Prop
 | .lst xs=>xs.length≤sizeLine∧∃ (its:List ah) (n:Nat),aV xs its∧h.get? a=some {cls:=.type "list",data:=.seq its.toArray n}
 | .tup xs=>xs.length≤sizeLine∧∃ its:List ah,aV xs its∧IsTup h a its.toArray
 | .dK kvs=>kvs.length≤sizeLine∧(a==jw)=false∧∃ vs,KV kvs vs∧h.DictOf (eI P w) a vs
 | .dT kvs=>kvs.length≤sizeLine∧(a==jw)=false∧∃ xs:List (List bt×af×ah),
  nE (fun (p:List bt×V) (q:List bt×af×ah)=>p.1=q.1∧H q.2.1=some (.tup (p.1.map kV))∧RelV p.2 q.2.2) kvs xs ∧
  ∃ o es ep,h.get? a=some o∧o.ExactDict∧o.data=.dict es ep∧es.toList=xs.map (entryOfKey (uL (eI P w)))∧(xs.map (·.1)).Nodup
 | .set S n=>h.SetOf (intKind P w) a S n
 | .ins C dx fs=>H dx=some (.own a)∧fs.length≤1000∧dx≠a∧h.get? a=some (l9 C dx) ∧
  ∃ mA,h.Ns1 dx mA∧(∀ f,ek (fs.lookup f) (mA f))∧BA mA (fs.map (·.1))
 | .own _=>∃ o,h.get? a=some o
 | .xd fs=>∃ mA,h.Ns1 a mA∧∀ f,ek (fs.lookup f) (mA f)
 | .rng lo hi=>∃ t u v,h.get? a=some {cls:=.type "range",data:=.fields #[.int lo t,.int hi u,.int 1 v]}
 | .frz o u=>h.get? a=some o∧cP H h a u
 | .tbl ps=>h.get? a=some {cls:=.none,data:=.fields ps}
 | .met f x=>h.get? a=some (Bu (.ref f) (.ref x))
 | .tab=>∃ ps:Array ah,h.get? a=some (wq ps)∧TriplesOk ps.toList∧∀ pos c,codeAmong pos ps.toList=some c->∃ c' oc vs q t φ,c=Value.ref c'∧H c'=some (.frz oc φ)∧oc.data=.fields vs∧vs[1]?=some (Value.str q t)
 | .ext φ=>φ h∧(∃ o,h.get? a=some o)∧∀ h1 h2:az,φ h1->(∀ o,h1.get? a=some o->h2.get? a=some o)->φ h2
def cI (H:Hp)(h:az):Prop:=∀ a o,H a=some o->cP P w H h a o
end
section
variable {P:aQ}{w:aM}{H H':Hp}{h h':az}{a:af}{o:HO}
theorem cP.lt (x:cP P w H h a o):a<h.objs.size:=by
 cases o with
 | lst xs=>obtain⟨_,_,_,_,e⟩:=x;exact bA e
 | tup xs=>obtain⟨_,_,_,p⟩:=x;exact p.lt
 | dK kvs=>obtain⟨_,_,_,_,o,_,_,e,_⟩:=x;exact bA e
 | dT kvs=>obtain⟨_,_,_,_,o,_,_,e,_⟩:=x;exact bA e
 | set S n=>obtain⟨o,_,_,_,e,_⟩:=x;exact bA e
 | ins C dx fs=>obtain⟨_,_,_,e,_⟩:=x;exact bA e
 | own y=>obtain⟨_,e⟩:=x;exact bA e
 | xd fs=>obtain⟨_,⟨_,_,_,e,_⟩,_⟩:=x;exact bA e
 | rng lo hi=>obtain⟨_,_,_,e⟩:=x;exact bA e
 | frz ob u=>obtain⟨e,_⟩:=x;exact bA e
 | tbl ps=>exact bA (show h.get? a=some _ from x)
 | met f y=>exact bA (show h.get? a=some _ from x)
 | tab=>obtain⟨_,e,_⟩:=x;exact bA e
 | ext φ=>obtain⟨_,⟨_,e⟩,_⟩:=x;exact bA e
theorem Paired.mapP {α β:Type}{F G:α->β->Prop}{l₁:List α}{l₂:List β}(h:nE F l₁ l₂)(f:∀ a b,F a b->G a b):nE G l₁ l₂:=by
 induction h with
 | nil=>exact .nil
 | cons r t ih=>exact .cons (f _ _ r) ih
theorem cP.stay (x:cP P w H h a o)(k:∀ b u,(b=a∨H b=some (.own a))->h.get? b=some u->h'.get? b=some u)
  (ho:∀ b,H b=some (.own a)->H' b=some (.own a)) (ht:∀ b xs,H b=some (.tup xs)->H' b=some (.tup xs)) (hz:∀ b o u vs,o.data=.fields vs->H b=some (.frz o u)->H' b=some (.frz o u):=by exact fun _ _ _ _ _ q=>q):cP P w H' h' a o:=by
 induction o with
 | lst xs=>obtain⟨z,its,n,r,e⟩:=x;exact⟨z,its,n,r,k _ _ (.inl rfl) e⟩
 | tup xs=>obtain⟨z,its,r,ob,e,c⟩:=x;exact⟨z,its,r,ob,k _ _ (.inl rfl) e,c⟩
 | dK kvs=>obtain⟨z,y,vs,r,ob,es,ep,e,c⟩:=x;exact⟨z,y,vs,r,ob,es,ep,k _ _ (.inl rfl) e,c⟩
 | dT kvs=>
  obtain⟨z,y,xs,r,ob,es,ep,e,c⟩:=id x
  exact ⟨z,y,xs,(Paired.mapP r fun p q z=>⟨z.1,ht _ _ z.2.1,z.2.2⟩),ob,es,ep,k _ _ (.inl rfl) e,c⟩
 | set S n=>obtain⟨ob,es,ep,t,e,c⟩:=x;exact⟨ob,es,ep,t,k _ _ (.inl rfl) e,c⟩
 | ins C dx fs=>
  obtain⟨d,z,ne,e,mA,⟨od,es,ep,e2,c⟩,r⟩:=x
  exact⟨ho _ d,z,ne,k _ _ (.inl rfl) e,mA,⟨od,es,ep,k _ _ (.inr d) e2,c⟩,r⟩
 | own y=>obtain⟨ob,e⟩:=x;exact⟨ob,k _ _ (.inl rfl) e⟩
 | xd fs=>obtain⟨mA,⟨od,es,ep,e,c⟩,r⟩:=x;exact⟨mA,⟨od,es,ep,k _ _ (.inl rfl) e,c⟩,r⟩
 | rng lo hi=>obtain⟨t,u,v,e⟩:=x;exact⟨t,u,v,k _ _ (.inl rfl) e⟩
 | frz ob u ih=>obtain⟨e,q⟩:=x;exact⟨k _ _ (.inl rfl) e,ih q⟩
 | tbl ps=>
  have e:h.get? a=some {cls:=.none,data:=.fields ps}:=x
  show h'.get? a=some {cls:=.none,data:=.fields ps}
  exact k a _ (.inl rfl) e
 | met f y=>
  have e:h.get? a=some (Bu (.ref f) (.ref y)):=x
  show h'.get? a=some (Bu (.ref f) (.ref y))
  exact k a _ (.inl rfl) e
 | ext φ=>obtain⟨p,⟨o,e⟩,st⟩:=x;exact⟨st _ _ p fun o q=>k _ _ (.inl rfl) q,⟨o,k _ _ (.inl rfl) e⟩,st⟩
 | tab=>
  obtain⟨ps,e,tr,co⟩:=id x
  exact⟨ps,k _ _ (.inl rfl) e,tr,fun pos c z=>let ⟨c',oc,vs,q,t,φ,h1,h2,h3,h4⟩:=co pos c z;⟨c',oc,vs,q,t,φ,h1,hz _ _ _ _ h3 h2,h3,h4⟩⟩
theorem cI.lt (x:cI P w H h)(e:H a=some o):a<h.objs.size:=(x a o e).lt
theorem cI.fresh (x:cI P w H h)(e:h.objs.size≤a):H a=none:=by
 cases q:H a with
 | none=>rfl
 | some u=>exact absurd (dI (x.lt q) e) (jG _)
theorem cI.kept (x:cI P w H h)(k:∀ b u,h.get? b=some u->h'.get? b=some u):cI P w H h':=fun a o e=>
 (x a o e).stay (fun b u _ q=>k b u q) (fun _ q=>q) fun _ _ q=>q
theorem cI.laid (x:cI P w H h)(k:∀ b u,h.get? b=some u->h'.get? b=some u)(hp:h.objs.size≤a)(new:cP P w (upd H a o) h' a o):cI P w (upd H a o) h':=fun b u e=>by
 have hn:=x.fresh hp
 by_cases hb:b=a
 ·subst hb;rw[cD] at e;cases e;exact new
 ·rw[ba hb] at e
  exact (x b u e).stay (fun c v _ q=>k c v q) (fun c q=>by rw[ba (dh q hn)];exact q) (fun c xs q=>by rw[ba (dh q hn)];exact q) fun c ob xs _ _ q=>by rw[ba (dh q hn)];exact q
end
def Rd (H:Hp)(a:af)(u:HO):Prop:=H a=some u∨∃ o,H a=some (.frz o u)
theorem Rd.of {H:Hp}{a:af}{u:HO}(h:H a=some u):Rd H a u:=.inl h
theorem Rd.ok {P:aQ}{w:aM}{H:Hp}{h:az}{a:af}{u:HO}(r:Rd H a u)(x:cI P w H h):cP P w H h a u:=by
 rcases r with r | ⟨o,r⟩
 ·exact x a u r
 ·obtain⟨_,q⟩:=x a _ r
  exact q
def px:Option HO->Prop
 | some (.lst _)=>True
 | some (.dK _)=>True
 | some (.dT _)=>True
 | some (.set _ _)=>True
 | some (.ins _ _ _)=>True
 | some (.ext _)=>True
 | _=>False
section
variable {P:aQ}{w:aM}{H:Hp}{h h':az}{x e:af}{o':HO}
theorem cI.write (ok:cI P w H h)(mu:px (H x))(he:e=x∨H e=some (.own x))(k:∀ b u,b≠e->h.get? b=some u->h'.get? b=some u)(heo:∃ u,h'.get? e=some u)
  (new:cP P w (upd H x o') h' x o'):cI P w (upd H x o') h':=fun b u q=>by
 have nown:∀ c y,H c=some (.own y)->c≠x:=fun c y r z=>by subst z;rw[r] at mu;exact mu
 have ntup:∀ c xs,H c=some (.tup xs)->c≠x:=fun c xs r z=>by subst z;rw[r] at mu;exact mu
 have nfrz:∀ c ob xs,H c=some (.frz ob xs)->c≠x:=fun c ob xs r z=>by subst z;rw[r] at mu;exact mu
 by_cases hb:b=x
 ·subst hb;rw[cD] at q;cases q;exact new
 ·rw[ba hb] at q
  by_cases hbe:b=e
  ·have q':H b=some (.own x):=by
    rcases he with z | z
    ·exact absurd (hbe.trans z) hb
    ·rw[hbe];exact z
   rw[q] at q';cases q'
   obtain⟨v,hv⟩:=id heo
   exact⟨v,by rw[hbe];exact hv⟩
  ·refine (ok b u q).stay (fun c v hc r=>k c v ?_ r) (fun c r=>by rw[ba (nown c b r)];exact r) (fun c xs r=>by rw[ba (ntup c xs r)];exact r) fun c ob xs _ _ r=>by rw[ba (nfrz c ob xs r)];exact r
   rcases hc with rfl | hc
   ·exact hbe
   ·rintro rfl
    rcases he with z | z
    ·exact nown c b hc z
    ·rw[hc] at z;cases z;exact hb rfl
end
structure Un (fs ex:List af)(H H':Hp)(h h':az):Prop where
 keep:∀ b o,h.get? b=some o->H b=none->b∉fs->b∉ex->h'.get? b=some o
 slot:∀ b o,h.get? b=some o->H b=none->b∈fs->b∉ex->∃ sl,h'.get? b=some {o with slots:=sl}
 free:∀ b o,h.get? b=some o->H b=none->b∉ex->H' b=none
 there:∀ b o,h.get? b=some o->b∉ex->∃ o',h'.get? b=some o'
 tups:∀ b xs,H b=some (.tup xs)->H' b=some (.tup xs)
 frzs:∀ b o u,H b=some (.frz o u)->H' b=some (.frz o u)
 tbls:∀ b ps,H b=some (.tbl ps)->∃ more,H' b=some (.tbl (ps++more))
 tabs:∀ b,H b=some .tab->H' b=some .tab
section
variable {fs fs' ex ex':List af}{H H1 H2:Hp}{h h1 h2 h':az}{a x e:af}{o:HO}
theorem Un.any (u:Un fs ex H H1 h h1){b:af}{ob:Obj}(q:h.get? b=some ob)(n:H b=none)(hx:b∉ex):∃ sl,h1.get? b=some {ob with slots:=sl}:=by
 by_cases hb:b∈fs
 ·exact u.slot b ob q n hb hx
 ·exact⟨ob.slots,u.keep b ob q n hb hx⟩
theorem Un.trans (a:Un fs ex H H1 h h1)(b:Un fs ex H1 H2 h1 h2):Un fs ex H H2 h h2 where
 keep:=fun c ob q n hc hx=>b.keep c ob (a.keep c ob q n hc hx) (a.free c ob q n hx) hc hx
 slot:=fun c ob q n hc hx=>by
  obtain⟨sl,e1⟩:=a.slot c ob q n hc hx
  obtain⟨sl',e2⟩:=b.slot c _ e1 (a.free c ob q n hx) hc hx
  exact⟨sl',e2⟩
 free:=fun c ob q n hx=>by
  obtain⟨o',e1⟩:=a.there c ob q hx
  exact b.free c o' e1 (a.free c ob q n hx) hx
 there:=fun c ob q hx=>by
  obtain⟨o',e1⟩:=a.there c ob q hx
  exact b.there c o' e1 hx
 tups:=fun c xs q=>b.tups c xs (a.tups c xs q)
 frzs:=fun c ob xs q=>b.frzs c ob xs (a.frzs c ob xs q)
 tabs:=fun c q=>b.tabs c (a.tabs c q)
 tbls:=fun c ps q=>by
  obtain⟨m1,e1⟩:=a.tbls c ps q
  obtain⟨m2,e2⟩:=b.tbls c _ e1
  exact⟨m1++m2,by rw[e2,F6]⟩
theorem Un.kept (k:∀ b u,h.get? b=some u->h'.get? b=some u):Un fs ex H H h h':=
 ⟨fun b ob q _ _ _=>k b ob q,fun b ob q _ _ _=>⟨ob.slots,k b ob q⟩,fun _ _ _ n _=>n,fun b ob q _=>⟨ob,k b ob q⟩,fun _ _ q=>q,fun _ _ _ q=>q,fun _ ps q=>⟨#[],by rw[q];simp⟩,fun _ q=>q⟩
theorem Un.refl:Un fs ex H H h h:=Un.kept fun _ _ q=>q
theorem Un.laid (k:∀ b u,h.get? b=some u->h'.get? b=some u)(hp:h.objs.size≤a)(hn:H a=none):Un fs ex H (upd H a o) h h' where
 keep:=fun b u q _ _ _=>k b u q
 slot:=fun b u q _ _ _=>⟨u.slots,k b u q⟩
 free:=fun b u q n _=>by rw[ba (cJ (dI (bA q) hp))];exact n
 there:=fun b u q _=>⟨u,k b u q⟩
 tups:=fun b xs q=>by rw[ba (dh q hn)];exact q
 frzs:=fun b u xs q=>by rw[ba (dh q hn)];exact q
 tbls:=fun b ps q=>⟨#[],by rw[ba (dh q hn),q];simp⟩
 tabs:=fun b q=>by rw[ba (dh q hn)];exact q
theorem Un.write (mu:px (H x))(he:e=x∨H e=some (.own x))(k:∀ b u,b≠e->h.get? b=some u->h'.get? b=some u)(heo:∃ u,h'.get? e=some u):Un fs ex H (upd H x o) h h':=by
 have hx:∀ b,H b=none->b≠x:=fun b n z=>by subst z;rw[n] at mu;exact mu
 have hb:∀ b,H b=none->b≠e:=fun b n z=>by
  subst z
  rcases he with r | r
  ·exact hx b n r
  ·rw[n] at r;cases r
 have hm:∀ b u,H b=some u->¬ px (some u)->b≠x:=fun b u q nm z=>by subst z;rw[q] at mu;exact nm mu
 refine⟨fun b u q n _ _=>k b u (hb b n) q,fun b u q n _ _=>⟨u.slots,k b u (hb b n) q⟩,fun b u q n _=>by rw[ba (hx b n)];exact n,fun b u q _=>?_,
  fun b xs q=>by rw[ba (hm b _ q fun z=>z)];exact q,fun b u xs q=>by rw[ba (hm b _ q fun z=>z)];exact q,fun b ps q=>⟨#[],by rw[ba (hm b _ q fun z=>z),q];simp⟩,fun b q=>by rw[ba (hm b _ q fun z=>z)];exact q⟩
 by_cases hbe:b=e
 ·subst hbe;exact heo
 ·exact⟨u,k b u hbe q⟩
theorem Un.mono (u:Un fs ex H H1 h h1)(hs:∀ b∈fs,b∈fs')(hx:∀ b∈ex,b∈ex'):Un fs' ex' H H1 h h1:=
 ⟨fun b ob q n hb he=>u.keep b ob q n (fun z=>hb (hs b z)) fun z=>he (hx b z),fun _ _ q n _ he=>u.any q n fun z=>he (hx _ z),fun b ob q n he=>u.free b ob q n fun z=>he (hx b z),fun b ob q he=>u.there b ob q fun z=>he (hx b z),u.tups,u.frzs,u.tbls,u.tabs⟩
end
def uK (h:az)(H:Hp):List af:=(iF h.objs.size).filter fun a=>(H a).isSome
def jl (h:az)(H:Hp):az:=PySem.W.hideAll h (uK h H)
theorem KC (h:az)(H:Hp):(jl h H).objs.size=h.objs.size:=PySem.W.hideAll_size _ _
theorem KA {h:az}{H:Hp}{b:af}{o:Obj}(e:h.get? b=some o)(n:H b=none):(jl h H).get? b=some o:=
 PySem.W.hideAll_get _ e fun hm=>by
  have q:(H b).isSome=true:=(List.mem_filter.mp hm).2
  rw[n] at q;simp at q
theorem MA {h:az}{H:Hp}{b:af}{o:Obj}(e:(jl h H).get? b=some o):h.get? b=some o∧H b=none:=by
 have e':h.get? b=some o:=PySem.W.of_hideAll (uK h H) e
 refine⟨e',?_⟩
 cases q:H b with
 | none=>rfl
 | some x=>
  have hm:b∈uK h H:=List.mem_filter.mpr ⟨List.mem_range.mpr (bA e'),by simp[q]⟩
  have z:(jl h H).get? b=none:=PySem.W.hideAll_none (uK h H) hm
  rw[z] at e;cases e
def HY (g h:az)(L:af):List (af×Obj):=(iF h.objs.size).filterMap fun a=>if a=L∨(g.get? a).isSome=true then none else (h.get? a).map fun o=>(a,o)
def rest (g h:az)(L d:af):List (af×Obj):=(HY g h L).filter fun p=>decide (p.1≠d)
end L2
namespace L2
structure Mod (K:ao)(mg:Str->Option ah)(base:az):Prop where
 kin:K.In base
 glob:base.Ns a_ mg
 blt:∃ mb,base.Ns sv mb∧∀ x:Str,x≠"__name__"->mb x=dJ x
 nolimit:base.NoLimit
def gu (P:aQ):List Str:=((t8 P).filter fun d=>(freeInTheComprehensionsStmts d.body).isNone).map (·.name)
def wB (P:aQ)(K:ao)(mg:Str->Option ah)(base:az)(H:Hp):Prop:=∀ x c p,x∈gu P->kQ K x=some (c,p)->H p=some .tab∧PySem.W.CodeHd base c p∧base.BuiltinsAt mg p
structure Cx where
 prog:aQ
 w:aM
 K:ao
 mg:Str->Option ah
 base:az
 A:bw
 N:List Str
 s₀:ar
 H₀:Hp
 env:Env
 outer:List Env
 stack:List Env
 ex:List af
 fn:Str->Bool
 calm:Bool
 pn:List (af×Obj)
 xe:ah->ar->Prop
def dQ (l:List Env):List af:=l.filterMap (·.frame)
abbrev Cx.fs (X:Cx):List af:=dQ X.outer
def nR (sc:Scope)(x:Str):Prop:=sc.names.lookup x=some .local∨sc.names.lookup x=some .cell∨sc.names.lookup x=some .free
def Loc (sc:Scope)(x:Str):Prop:=sc.names.lookup x=some .local∨sc.names.lookup x=some .cell
def Look (env:Env)(h:az)(m:Str->Option ah)(x:Str)(u:ah):Prop:=
 (env.kindOf x=some .local∧m x=some u)∨((env.kindOf x=some .cell∨env.kindOf x=some .free)∧∃ c,env.cells.lookup x=some c∧h.IsCell c (some u))
structure Cx.Ok (X:Cx):Prop where
 mod:Mod X.K X.mg X.base
 kind:X.env.scope.kind=.function
 glob:X.env.globals=a_
 blt:X.env.builtins=sv
 above:X.s₀.heap.objs.size≤X.env.locals
 inj:∀ x y c,X.env.cells.lookup x=some c->X.env.cells.lookup y=some c->x=y
 has:∀ x,(X.env.kindOf x=some .cell∨X.env.kindOf x=some .free)->∃ c,X.env.cells.lookup x=some c
 cab:∀ x c,X.fn x=true->X.env.cells.lookup x=some c->X.s₀.heap.objs.size≤c
 hd:X.calm=true->X.A.handled=none
 frames:X.A.frames=some X.stack
 stk:X.stack=X.outer∨(X.stack=X.env::X.outer∧X.env.frame=some X.env.locals)
 exf:∀ b∈X.ex,b≠X.env.locals∧∀ x c,X.env.cells.lookup x=some c->c≠b
 bs:∀ b o,X.base.get? b=some o->X.s₀.heap.get? b=some o∧X.H₀ b=none
 bsz:X.base.objs.size≤X.s₀.heap.objs.size
 noex:∀ b o,X.base.get? b=some o->b∉X.ex
 exfs:∀ b∈X.ex,b∉X.fs
 funs:X.s₀.heap.FunFrames X.base X.outer
 frf:∀ b∈X.fs,X.H₀ b=none
 tabs:wB X.prog X.K X.mg X.base X.H₀
structure Inv (X:Cx)(pins:List (af×Obj))(σ:List (Option V))(H:Hp)(s:ar):Prop where
 ok:X.Ok
 os:s.os=X.s₀.os
 bare:iS s.gens
 base:Un X.fs X.ex X.H₀ H X.s₀.heap s.heap
 loc:∃ m,s.heap.Ns X.env.locals m∧∀ (i:Nat) (x:Str) (v:V),X.N[i]?=some x->σ[i]?=some (some v)->nR X.env.scope x->∃ u,RelV v u∧Look X.env s.heap m x u
 cell:∀ x c,X.env.cells.lookup x=some c->∃ v,s.heap.IsCell c v
 free:H X.env.locals=none
 freeC:∀ x c,X.env.cells.lookup x=some c->H c=none∨(X.fn x=false∧∃ o u,H c=some (.frz o u))
 pin:∀ p∈X.pn++pins,s.heap.get? p.1=some p.2∧H p.1=none∧p.1≠X.env.locals∧p.1∉X.fs∧∀ v,p.2.data≠.cell v
 hok:cI X.prog X.w H s.heap
 len:σ.length=X.N.length
section
variable {X:Cx}{pins:List (af×Obj)}{σ:List (Option V)}{H H':Hp}{s:ar}{h':az}
theorem Cx.Ok.nofr (ok:X.Ok){b:af}{o:Obj}(e:X.base.get? b=some o):b∉X.fs:=fun hb=>by
 have:=(ok.funs.mem hb).1
 rw[e] at this;cases this
theorem Inv.bs (I:Inv X pins σ H s):∀ b o,X.base.get? b=some o->s.heap.get? b=some o∧H b=none:=fun b o e=>
 ⟨I.base.keep b o (I.ok.bs b o e).1 (I.ok.bs b o e).2 (I.ok.nofr e) (I.ok.noex b o e),I.base.free b o (I.ok.bs b o e).1 (I.ok.bs b o e).2 (I.ok.noex b o e)⟩
theorem Inv.bk (I:Inv X pins σ H s):∀ b o,X.base.get? b=some o->s.heap.get? b=some o:=fun b o e=>(I.bs b o e).1
theorem Inv.mod (I:Inv X pins σ H s):Mod X.K X.mg X.base:=I.ok.mod
theorem Inv.kIn (I:Inv X pins σ H s):X.K.In s.heap:=I.ok.mod.kin.keeps I.bk
theorem Inv.nolimit (I:Inv X pins σ H s):s.heap.NoLimit:=I.ok.mod.nolimit.keeps I.bk
theorem Inv.fr (I:Inv X pins σ H s):∃ m,Fr X.base X.env.locals s.heap m:=
 let ⟨m,hn,_⟩:=I.loc
 ⟨m,hn,I.bk,dn I.ok.bsz I.ok.above⟩
theorem Inv.lt (I:Inv X pins σ H s):X.env.locals<s.heap.objs.size:=let ⟨_,hn,_⟩:=I.loc;hn.lt
theorem Inv.sz (I:Inv X pins σ H s):X.s₀.heap.objs.size≤s.heap.objs.size:=dn I.ok.above (ny I.lt)
theorem Inv.nofs (I:Inv X pins σ H s){a:af}(h:s.heap.objs.size≤a):a∉X.fs:=fun hb=>by
 obtain⟨_,o,ho,_⟩:=I.ok.funs.mem hb
 exact absurd (dI (bA ho) (dn I.sz h)) (jG _)
theorem Inv.cne (I:Inv X pins σ H s):∀ x c,X.env.cells.lookup x=some c->c≠X.env.locals:=fun x c e z=>by
 obtain⟨v,o,ho,hd⟩:=I.cell x c e
 obtain⟨m,⟨o',es,ep,ho',hd',_⟩,_⟩:=I.loc
 rw[z,ho'] at ho;cases ho;rw[hd'] at hd;cases hd
theorem Inv.funs (I:Inv X pins σ H s):s.heap.FunFrames X.base X.outer:=by
 have all:∀ (l:List Env),(∀ b∈dQ l,b∈X.fs)->X.s₀.heap.FunFrames X.base l->s.heap.FunFrames X.base l:=by
  intro l
  induction l with
  | nil=>intro _ _;trivial
  | cons env r ih=>
   intro hs hl
   obtain⟨hk,⟨L,o,hf,hn,ho,hd⟩,hr⟩:=hl
   have hL:L∈X.fs:=hs L (by unfold dQ;rw[A8,hf];exact bQ)
   obtain⟨sl,e⟩:=I.base.slot L o ho (I.ok.frf L hL) hL fun z=>I.ok.exfs L z hL
   exact⟨hk,⟨L,_,hf,hn,e,hd⟩,ih (fun b hb=>hs b (by unfold dQ;rw[A8,hf];exact bP _ hb)) hr⟩
 exact all X.outer (fun _ hb=>hb) I.ok.funs
theorem Inv.stack (I:Inv X pins σ H s):s.heap.FunFrames X.base X.stack:=by
 rcases I.ok.stk with e | ⟨e,hf⟩
 ·rw[e];exact I.funs
 ·rw[e]
  obtain⟨m,hn,_⟩:=I.loc
  refine .cons (by rw[I.ok.kind];decide) hf hn ?_ I.funs
  exact A5 (dn I.ok.bsz I.ok.above)
theorem Inv.stkSub (I:Inv X pins σ H s):∀ b∈dQ X.stack,b∈X.env.locals::X.fs:=fun b hb=>by
 rcases I.ok.stk with e | ⟨e,hf⟩
 ·rw[e] at hb;exact bP _ hb
 ·rw[e] at hb
  unfold dQ at hb
  rw[A8,hf] at hb
  exact hb
theorem Inv.stkFree (I:Inv X pins σ H s):∀ b∈dQ X.stack,H b=none:=fun b hb=>by
 rcases List.mem_cons.mp (I.stkSub b hb) with e | hb
 ·rw[e];exact I.free
 ·obtain⟨_,o,ho,_⟩:=I.ok.funs.mem hb
  exact I.base.free b o ho (I.ok.frf b hb) fun z=>I.ok.exfs b z hb
theorem Inv.step {g':Array GenState}{t':Nat}{d':Drawn}{ch:List af}(I:Inv X pins σ H s)
  (hch:∀ b∈ch,(b∈X.ex∨X.s₀.heap.objs.size≤b)∧b≠X.env.locals∧(∀ x c,X.env.cells.lookup x=some c->c≠b)∧∀ p∈X.pn++pins,p.1≠b)
  (keep:∀ b o,b≠X.env.locals->b∉X.fs->b∉ch->s.heap.get? b=some o->H b=none->h'.get? b=some o)
  (slot:∀ b o,b≠X.env.locals->b∈X.fs->b∉ch->s.heap.get? b=some o->H b=none->∃ sl,h'.get? b=some {o with slots:=sl}) (free:∀ b o,b∉ch->s.heap.get? b=some o->H b=none->H' b=none)
  (there:∀ b o,b∉ch->s.heap.get? b=some o->∃ o',h'.get? b=some o')
  (tups:∀ b xs,H b=some (.tup xs)->H' b=some (.tup xs)) (frzs:∀ b o u,H b=some (.frz o u)->H' b=some (.frz o u)) (tbls:∀ b ps,H b=some (.tbl ps)->∃ more,H' b=some (.tbl (ps++more))) (tabs:∀ b,H b=some .tab->H' b=some .tab)
  (ns:∀ m,s.heap.Ns X.env.locals m->h'.Ns X.env.locals m) (hok:cI X.prog X.w H' h') (hg:iS g') :
  Inv X pins σ H' {s with heap:=h',gens:=g',drawn:=d',toks:=t' }:=by
 have neL:∀ b o,X.s₀.heap.get? b=some o->b≠X.env.locals:=fun b o e=>cJ (dI (bA e) I.ok.above)
 have neC:∀ b o,X.s₀.heap.get? b=some o->b∉X.ex->b∉ch:=fun b o e hx hb=>by
  rcases (hch b hb).1 with z | z
  ·exact hx z
  ·exact absurd (dI (bA e) z) (jG _)
 have cellK:∀ x c,X.env.cells.lookup x=some c->∀ v,s.heap.IsCell c v->h'.IsCell c v:=fun x c e v zpat=>by
  obtain⟨o,ho,hd⟩:=zpat
  have nch:c∉ch:=fun z=>(hch c z).2.2.1 x c e rfl
  rcases I.freeC x c e with fc | ⟨_,ob,ub,fc⟩
  ·by_cases hc:c∈X.fs
   ·obtain⟨sl,q⟩:=slot c o (I.cne x c e) hc nch ho fc
    exact⟨_,q,hd⟩
   ·exact⟨o,keep c o (I.cne x c e) hc nch ho fc,hd⟩
  ·have q1:=(I.hok c _ fc).1
   have q2:=(hok c _ (frzs c ob ub fc)).1
   rw[ho] at q1
   obtain rfl:=aE q1
   exact⟨o,q2,hd⟩
 refine⟨I.ok,I.os,hg,⟨fun b o e n hb hx=>?_,fun b o e n hb hx=>?_,fun b o e n hx=>?_,fun b o e hx=>?_,fun b xs e=>tups b xs (I.base.tups b xs e),fun b o xs e=>frzs b o xs (I.base.frzs b o xs e),fun b ps e=>?_,fun b e=>tabs b (I.base.tabs b e)⟩,?_,fun x c e=>?_,?_,fun x c e=>?_,fun p hp=>?_,hok,I.len⟩
 ·exact keep b o (neL b o e) hb (neC b o e hx) (I.base.keep b o e n hb hx) (I.base.free b o e n hx)
 ·obtain⟨sl,e1⟩:=I.base.slot b o e n hb hx
  obtain⟨sl',e2⟩:=slot b _ (neL b o e) hb (neC b o e hx) e1 (I.base.free b o e n hx)
  exact⟨sl',e2⟩
 ·obtain⟨o',e1⟩:=I.base.there b o e hx
  exact free b o' (neC b o e hx) e1 (I.base.free b o e n hx)
 ·obtain⟨o',e1⟩:=I.base.there b o e hx
  exact there b o' (neC b o e hx) e1
 ·obtain⟨m1,e1⟩:=I.base.tbls b ps e
  obtain⟨m2,e2⟩:=tbls b _ e1
  exact⟨m1++m2,by rw[e2,F6]⟩
 ·obtain⟨m,hn,hl⟩:=I.loc
  refine⟨m,ns m hn,fun i x v e1 e2 e3=>?_⟩
  obtain⟨u,r,l⟩:=hl i x v e1 e2 e3
  refine⟨u,r,?_⟩
  rcases l with l | ⟨k,c,e,z⟩
  ·exact .inl l
  ·exact .inr ⟨k,c,e,cellK x c e _ z⟩
 ·obtain⟨v,z⟩:=I.cell x c e
  exact⟨v,cellK x c e v z⟩
 ·obtain⟨m,⟨o,_,_,ho,_⟩,_⟩:=I.loc
  exact free _ o (fun z=>(hch _ z).2.1 rfl) ho I.free
 ·obtain⟨v,o,ho,hd⟩:=I.cell x c e
  rcases I.freeC x c e with fc | ⟨hfn,ob,ub,fc⟩
  ·exact .inl (free c o (fun z=>(hch c z).2.2.1 x c e rfl) ho fc)
  ·exact .inr ⟨hfn,ob,ub,frzs c ob ub fc⟩
 ·obtain⟨e,n,ne,nf,d⟩:=I.pin p hp
  have nch:p.1∉ch:=fun z=>(hch p.1 z).2.2.2 p hp rfl
  exact⟨keep p.1 p.2 ne nf nch e n,free p.1 p.2 nch e n,ne,nf,d⟩
theorem Inv.un {t':Nat}(I:Inv X pins σ H s)(u:Un X.fs [] H H' s.heap h')(hok:cI X.prog X.w H' h'):Inv X pins σ H' {s with heap:=h',toks:=t' }:=by
 obtain⟨m,⟨o,es,ep,ho,r⟩,_⟩:=id I.loc
 obtain⟨sl,hL⟩:=u.any ho I.free (by simp)
 exact I.step (g':=s.gens) (d':=s.drawn) (ch:=[]) (fun _ z=>nomatch z) (fun b o _ hb _ e n=>u.keep b o e n hb (by simp)) (fun b o _ hb _ e n=>u.slot b o e n hb (by simp)) (fun b o _ e n=>u.free b o e n (by simp)) (fun b o _ e=>u.there b o e (by simp)) u.tups u.frzs u.tbls u.tabs (fun m' hm=>by
  obtain⟨o',es',ep',ho',r'⟩:=id hm
  rw[ho] at ho';cases ho'
  exact⟨_,es',ep',hL,r'⟩) hok I.bare
theorem Inv.call {g':Array GenState}{t':Nat}{d':Drawn}{ch:List af}(I:Inv X pins σ H s)(u:Un (dQ X.stack) ch H H' s.heap h')(hok:cI X.prog X.w H' h')(hg:iS g')
  (hch:∀ b∈ch,(b∈X.ex∨X.s₀.heap.objs.size≤b)∧b≠X.env.locals∧(∀ x c,X.env.cells.lookup x=some c->c≠b)∧∀ p∈X.pn++pins,p.1≠b) :
  Inv X pins σ H' {s with heap:=h',gens:=g',drawn:=d',toks:=t' }:=by
 obtain⟨m,⟨o,es,ep,ho,r⟩,_⟩:=id I.loc
 obtain⟨sl,hL⟩:=u.any ho I.free fun z=>(hch _ z).2.1 rfl
 exact I.step (ch:=ch) hch (fun b o hL hb hc e n=>u.keep b o e n (fun z=>(List.mem_cons.mp (I.stkSub b z)).elim hL hb) hc) (fun b o _ _ hc e n=>u.any e n hc) (fun b o hc e n=>u.free b o e n hc) (fun b o hc e=>u.there b o e hc) u.tups u.frzs u.tbls u.tabs (fun m' hm=>by
  obtain⟨o',es',ep',ho',r'⟩:=id hm
  rw[ho] at ho';cases ho'
  exact⟨_,es',ep',hL,r'⟩) hok hg
theorem Inv.turned {t':Nat}{it:af}(I:Inv X pins σ H s)(k:∀ b o,b≠it->s.heap.get? b=some o->h'.get? b=some o)(hn:H it=none)(hL:it≠X.env.locals)
  (h1:it∈X.ex∨X.s₀.heap.objs.size≤it) (h2:∀ x c,X.env.cells.lookup x=some c->c≠it) (h3:∀ p∈X.pn++pins,p.1≠it):Inv X pins σ H {s with heap:=h',toks:=t' }:=by
 have nit:∀ b u,H b=some u->b≠it:=fun b u e z=>by rw[z,hn] at e;cases e
 refine I.step (g':=s.gens) (d':=s.drawn) (ch:=[it]) (fun b hb=>?_) (fun b o _ _ hc e _=>k b o (fun z=>hc (by simp[z])) e) (fun b o _ _ hc e _=>⟨o.slots,k b o (fun z=>hc (by simp[z])) e⟩) (fun _ _ _ _ n=>n)
  (fun b o hc e=>⟨o,k b o (fun z=>hc (by simp[z])) e⟩) (fun _ _ e=>e) (fun _ _ _ e=>e) (fun b ps e=>⟨#[],by rw[e];simp⟩) (fun _ e=>e) (fun m hm=>?_) (fun b u e=>?_) I.bare
 ·have e:b=it:=by simpa using hb
  subst e
  exact⟨h1,hL,h2,h3⟩
 ·obtain⟨o,es,ep,ho,r⟩:=id hm
  exact ⟨o,es,ep,k _ o (cn hL) ho,r⟩
 ·refine (I.hok b u e).stay (fun c v hc q=>k c v ?_ q) (fun _ q=>q) fun _ _ q=>q
  rcases hc with z | z
  ·rw[z];exact nit b u e
  ·exact nit c _ z
theorem Inv.tok (I:Inv X pins σ H s)(t:Nat):Inv X pins σ H {s with toks:=t}:=I.un (h':=s.heap) (t':=t) Un.refl I.hok
theorem Inv.kept {t':Nat}(I:Inv X pins σ H s)(k:∀ b u,s.heap.get? b=some u->h'.get? b=some u):Inv X pins σ H {s with heap:=h',toks:=t' }:=I.un (Un.kept k) (I.hok.kept k)
theorem Inv.laid {a:af}{o:HO}{t':Nat}(I:Inv X pins σ H s)(k:∀ b u,s.heap.get? b=some u->h'.get? b=some u)(hp:s.heap.objs.size≤a)(new:cP X.prog X.w (upd H a o) h' a o) :
 Inv X pins σ (upd H a o) {s with heap:=h',toks:=t' }:=I.un (Un.laid k hp (I.hok.fresh hp)) (I.hok.laid k hp new)
theorem Inv.write {x e:af}{o:HO}{t':Nat}(I:Inv X pins σ H s)(mu:px (H x))(he:e=x∨H e=some (.own x))(k:∀ b u,b≠e->s.heap.get? b=some u->h'.get? b=some u)(heo:∃ u,h'.get? e=some u)
 (new:cP X.prog X.w (upd H x o) h' x o):Inv X pins σ (upd H x o) {s with heap:=h',toks:=t' }:=I.un (Un.write mu he k heo) (I.hok.write mu he k heo new)
theorem Inv.weak {σ':List (Option V)}(I:Inv X pins σ H s)(hl:σ'.length=σ.length)(w:∀ (i:Nat) v,σ'[i]?=some (some v)->σ[i]?=some (some v)):Inv X pins σ' H s:=
 ⟨I.ok,I.os,I.bare,I.base,let ⟨m,hn,hl'⟩:=I.loc;⟨m,hn,fun i x v e1 e2 e3=>hl' i x v e1 (w i v e2) e3⟩,I.cell,I.free,I.freeC,I.pin,I.hok,hl.trans I.len⟩
theorem Inv.pins_of {pins':List (af×Obj)}(I:Inv X pins σ H s)(h:∀ p∈pins',s.heap.get? p.1=some p.2∧H p.1=none∧p.1≠X.env.locals∧p.1∉X.fs∧∀ v,p.2.data≠.cell v):Inv X pins' σ H s:=
 ⟨I.ok,I.os,I.bare,I.base,I.loc,I.cell,I.free,I.freeC,fun p hp=>(List.mem_append.mp hp).elim (fun z=>I.pin p (cy _ z)) (h p),I.hok,I.len⟩
theorem xZ {N:List Str}(hN:N.Nodup){i j:Nat}{x:Str}(a:N[i]?=some x)(b:N[j]?=some x):i=j:=by
 obtain⟨h1,e1⟩:=List.getElem?_eq_some_iff.mp a
 obtain⟨h2,e2⟩:=List.getElem?_eq_some_iff.mp b
 exact (List.getElem_inj hN).mp (e1.trans e2.symm)
theorem Fo {M:pw}{A:bw}{E:ah->ar->Prop}{i:Nat}{x:Str}{v:V}{u:ah}{Q:Unit->ar->Prop}(I:Inv X pins σ H s)(hN:X.N.Nodup)(hi:X.N[i]?=some x)(hx:Loc X.env.scope x)(r:RelV v u)
  (h:∀ s',Inv X pins (σ.set i (some v)) H s'->(∃ a,lU a s.heap s'.heap∧(a=X.env.locals∨X.env.cells.lookup x=some a))->Q () s') (hf:X.fn x=true∨X.env.scope.names.lookup x=some .local:=by first | exact .inl rfl | exact .inr rfl | assumption):aI M A (storeName X.env x u) Q E s:=by
 obtain⟨m,hn,hl⟩:=id I.loc
 have hcls:(X.env.scope.kind==.class||(X.env.scope.kind==.module&&X.env.locals != X.env.globals))=false:=by rw[I.ok.kind];rfl
 have hiσ:i<σ.length:=by rw[I.len];exact (List.getElem?_eq_some_iff.mp hi).1
 have cne:=I.cne
 have tracked:∀ {a:af} {h':az},(∃ o,s.heap.get? a=some o∧H a=none)->lU a s.heap h'->cI X.prog X.w H h':=fun {a h'} ha hs b ob e=>by
  obtain⟨_,_,hfree⟩:=id ha
  refine (I.hok b ob e).stay (fun c w' hc q=>(hs.2 c ?_).trans q) (fun _ q=>q) fun _ _ q=>q
  rintro rfl
  rcases hc with rfl | hc
  ·rw[hfree] at e;cases e
  ·rw[hfree] at hc;cases hc
 rcases hx with hk | hk
 ·refine wpAny_storeName_local hk hn (fun h' hn' hs=>?_) hcls
  obtain⟨oL,_,_,hoL,_⟩:=id hn
  refine h _ ⟨I.ok,I.os,I.bare,⟨fun b o e n hb hx=>?_,fun b o e n hb hx=>?_,I.base.free,fun b o e hx=>?_,I.base.tups,I.base.frzs,I.base.tbls,I.base.tabs⟩,⟨_,hn',fun j y v' e1 e2 e3=>?_⟩,fun y c e=>?_,I.free,I.freeC,fun p hp=>?_,tracked ⟨oL,hoL,I.free⟩ hs,by simpa using I.len⟩ ⟨_,hs,.inl rfl⟩
  ·exact (hs.2 b (cJ (dI (bA e) I.ok.above))).trans (I.base.keep b o e n hb hx)
  ·obtain⟨sl,e1⟩:=I.base.slot b o e n hb hx
   exact⟨sl,(hs.2 b (cJ (dI (bA e) I.ok.above))).trans e1⟩
  ·obtain⟨o',e1⟩:=I.base.there b o e hx
   exact⟨o',(hs.2 b (cJ (dI (bA e) I.ok.above))).trans e1⟩
  ·by_cases hj:j=i
   ·subst hj
    rw[hi] at e1;cases e1
    rw[iC hiσ] at e2
    cases e2
    exact⟨u,r,.inl ⟨hk,by simp⟩⟩
   ·rw[eh (cn hj)] at e2
    obtain⟨u',r',q⟩:=hl j y v' e1 e2 e3
    refine⟨u',r',?_⟩
    rcases q with ⟨k,e⟩ | ⟨k,c,e,z⟩
    ·refine .inl ⟨k,?_⟩
     have:y≠x:=fun e=>hj (xZ hN e1 (e▸hi))
     simp[this,e]
    ·exact .inr ⟨k,c,e,z.sameBut hs (cne y c e)⟩
  ·obtain⟨w',z⟩:=I.cell y c e
   exact⟨w',z.sameBut hs (cne y c e)⟩
  ·obtain⟨e,n,ne,nf,d⟩:=I.pin p hp
   exact⟨(hs.2 p.1 ne).trans e,n,ne,nf,d⟩
 ·have hfn:X.fn x=true:=by
   rcases hf with z | z
   ·exact z
   ·rw[z] at hk;cases hk
  obtain⟨c,hc⟩:=I.ok.has x (.inl hk)
  obtain⟨w',z⟩:=I.cell x c hc
  refine wpAny_storeName_cell I.ok.kind hk hc z (fun h' hc' hs=>?_)
  obtain⟨oc,hoc,hocd⟩:=id z
  refine h {s with heap:=h' } ⟨I.ok,I.os,I.bare,⟨fun b o e n hb hx=>?_,fun b o e n hb hx=>?_,I.base.free,fun b o e hx=>?_,I.base.tups,I.base.frzs,I.base.tbls,I.base.tabs⟩,⟨m,hn.sameBut hs (cn (cne x c hc)),fun j y v' e1 e2 e3=>?_⟩,fun y c' e=>?_,I.free,I.freeC,fun p hp=>?_,tracked ⟨oc,hoc,(I.freeC x c hc).resolve_right fun z=>by have z1:=z.1;rw[hfn] at z1;cases z1⟩ hs,by simpa using I.len⟩ ⟨c,hs,.inr hc⟩
  ·exact (hs.2 b (cJ (dI (bA e) (I.ok.cab x c hfn hc)))).trans (I.base.keep b o e n hb hx)
  ·obtain⟨sl,e1⟩:=I.base.slot b o e n hb hx
   exact⟨sl,(hs.2 b (cJ (dI (bA e) (I.ok.cab x c hfn hc)))).trans e1⟩
  ·obtain⟨o',e1⟩:=I.base.there b o e hx
   exact⟨o',(hs.2 b (cJ (dI (bA e) (I.ok.cab x c hfn hc)))).trans e1⟩
  ·by_cases hj:j=i
   ·subst hj
    rw[hi] at e1;cases e1
    rw[iC hiσ] at e2
    cases e2
    exact⟨u,r,.inr ⟨.inl hk,c,hc,hc'⟩⟩
   ·rw[eh (cn hj)] at e2
    obtain⟨u',r',q⟩:=hl j y v' e1 e2 e3
    refine⟨u',r',?_⟩
    rcases q with q | ⟨k,c',e,z'⟩
    ·exact .inl q
    ·refine .inr ⟨k,c',e,z'.sameBut hs ?_⟩
     rintro rfl
     exact hj (xZ hN e1 (I.ok.inj _ _ _ e hc▸hi))
  ·by_cases hcc:c'=c
   ·subst hcc;exact⟨_,hc'⟩
   ·obtain⟨w2,z2⟩:=I.cell y c' e
    exact⟨w2,z2.sameBut hs hcc⟩
  ·obtain⟨e,n,ne,nf,d⟩:=I.pin p hp
   refine⟨(hs.2 p.1 ?_).trans e,n,ne,nf,d⟩
   intro q
   rw[q,hoc] at e
   have q':oc=p.2:=aE e
   exact d w' (by rw[← q'];exact hocd)
theorem zC {M:pw}{A:bw}{E:ah->ar->Prop}{i:Nat}{x:Str}{v:V}{u:ah}{Q:Unit->ar->Prop}(I:Inv X pins σ H s)(hN:X.N.Nodup)(hi:X.N[i]?=some x)(hx:Loc X.env.scope x)(r:RelV v u)
  (h:∀ s',Inv X pins (σ.set i (some v)) H s'->Q () s') (hf:X.fn x=true∨X.env.scope.names.lookup x=some .local:=by first | exact .inl rfl | exact .inr rfl | assumption):aI M A (storeName X.env x u) Q E s:=
 Fo I hN hi hx r (fun s' I' _=>h s' I') hf
theorem Inv.call' {s':ar}{ch:List af}(I:Inv X pins σ H s)(ho:s'.os=s.os)(u:Un (dQ X.stack) ch H H' s.heap s'.heap)(hok:cI X.prog X.w H' s'.heap)(hg:iS s'.gens)
  (hch:∀ b∈ch,(b∈X.ex∨X.s₀.heap.objs.size≤b)∧b≠X.env.locals∧(∀ x c,X.env.cells.lookup x=some c->c≠b)∧∀ p∈X.pn++pins,p.1≠b):Inv X pins σ H' s':=by
 obtain⟨h',g',d',t',o'⟩:=s'
 have e:o'=s.os:=ho
 subst e
 exact I.call (g':=g') (t':=t') (d':=d') u hok hg hch
end
abbrev XK:=ah->Option af->Hp->Prop
abbrev St:=List (Option V)
abbrev VK:=V->Hp->Prop
abbrev TE:=St->Hp->VK->Prop
abbrev TT:=St->Hp->(Bool->Hp->Prop)->Prop
abbrev TA:=St->Hp->(List V->Hp->Prop)->Prop
structure fw where
 nx:St->Hp->Prop
 rt:VK
 bk:St->Hp->Prop:=fun _ _=>False
 ct:St->Hp->Prop:=fun _ _=>False
abbrev TS:=fw->St->Hp->Prop
inductive EP (X:Cx)(pins:List (af×Obj))(σ:St)(Q:VK)(u:ah)(s':ar):Prop
 | mk (v:V) (H':Hp) (I:Inv X pins σ H' s') (r:RelV v u) (q:Q v H'):EP X pins σ Q u s'
inductive TP (X:Cx)(pins:List (af×Obj))(σ:St)(Q:Bool->Hp->Prop)(b:Bool)(s':ar):Prop
 | mk (H':Hp) (I:Inv X pins σ H' s') (q:Q b H'):TP X pins σ Q b s'
theorem TP.elim {X:Cx}{pins:List (af×Obj)}{σ:St}{Q:Bool->Hp->Prop}{b:Bool}{s':ar}{P:Prop}(h:TP X pins σ Q b s')(k:∀ H',Inv X pins σ H' s'->Q b H'->P):P:=by cases h with | mk H' I q=>exact k H' I q
inductive AP (X:Cx)(pins:List (af×Obj))(σ:St)(Q:List V->Hp->Prop)(us:List ah)(s':ar):Prop
 | mk (vs:List V) (H':Hp) (I:Inv X pins σ H' s') (r:aV vs us) (q:Q vs H'):AP X pins σ Q us s'
def SP (X:Cx)(pins:List (af×Obj))(D:fw)(f:Flow)(s':ar):Prop:=
 match f with
 | .next=>∃ σ' H',Inv X pins σ' H' s'∧D.nx σ' H'
 | .brk=>∃ σ' H',Inv X pins σ' H' s'∧D.bk σ' H'
 | .cont=>∃ σ' H',Inv X pins σ' H' s'∧D.ct σ' H'
 | .ret u=>∃ v σ' H',Inv X pins σ' H' s'∧RelV v u∧D.rt v H'
def PE (X:Cx)(e:Expr)(t:TE):Prop:=
 ∀ (pins:List (af×Obj)) (s:ar) (σ:St) (H:Hp) (Q:VK),Inv X pins σ H s->t σ H Q->aI (aF X.prog X.w) X.A (aB e X.env) (EP X pins σ Q) X.xe s
def PT (X:Cx)(e:Expr)(t:TT):Prop:=
 ∀ (pins:List (af×Obj)) (s:ar) (σ:St) (H:Hp) (Q:Bool->Hp->Prop),Inv X pins σ H s->t σ H Q->aI (aF X.prog X.w) X.A (isTrue e X.env (aB e X.env)) (TP X pins σ Q) X.xe s
def PW (X:Cx)(e:Expr)(t:TT):Prop:=
 ∀ (whole:Sem ah) (pins:List (af×Obj)) (s:ar) (σ:St) (H:Hp) (Q:Bool->Hp->Prop),Inv X pins σ H s->t σ H Q->aI (aF X.prog X.w) X.A (isTrue e X.env whole) (TP X pins σ Q) X.xe s
theorem PW.pt {X:Cx}{e:Expr}{t:TT}(h:PW X e t):PT X e t:=h _
def PA (X:Cx)(es:List Expr)(t:TA):Prop:=
 ∀ (pos:Pos) (pins:List (af×Obj)) (s:ar) (σ:St) (H:Hp) (Q:List V->Hp->Prop),Inv X pins σ H s->t σ H Q->aI (aF X.prog X.w) X.A (spliced (a0 pos (ax es X.env))) (AP X pins σ Q) X.xe s
def PS (X:Cx)(st:aG)(t:TS):Prop:=
 ∀ (pins:List (af×Obj)) (s:ar) (σ:St) (H:Hp) (D:fw),Inv X pins σ H s->t D σ H->aI (aF X.prog X.w) X.A (exec st X.env) (SP X pins D) X.xe s
def dw (X:Cx)(st:List aG)(t:TS):Prop:=
 ∀ (pins:List (af×Obj)) (s:ar) (σ:St) (H:Hp) (D:fw),Inv X pins σ H s->t D σ H->aI (aF X.prog X.w) X.A (execs st X.env) (SP X pins D) X.xe s
theorem aP {α:Type}{t:Sem α}{Q Q':α->ar->Prop}{M:pw}{A:bw}{E:ah->ar->Prop}{s:ar}(h:aI M A t Q E s)(hQ:∀ a s,Q a s->Q' a s):aI M A t Q' E s:=cT h hQ fun _ _ x=>x
end L2
namespace L2
section
variable {X:Cx}
def dG (i:Nat):TE:=fun σ H Q=>∃ v,σ[i]?=some (some v)∧Q v H
def tC (v:V):TE:=fun _ H Q=>Q v H
theorem N2 {i:Nat}{x:Str}{pos:Pos}(hN:X.N[i]?=some x)(hv:nR X.env.scope x)(hd:(x==("__debug__":Str))=false:=by decide)(hcd:(x==("__classdict__":Str))=false:=by decide):PE X (.Name x pos) (dG i):=by
 intro pins s σ H Q I h
 revert h
 refine fun zqq=>?_;obtain⟨v,e,h⟩:=zqq
 obtain⟨m,hn,hl⟩:=I.loc
 obtain⟨u,r,l⟩:=hl i x v hN e hv
 have fin:EP X pins σ Q u s:=⟨v,H,I,r,h⟩
 rcases l with ⟨hk,hm⟩ | ⟨hk,c,hc,hcell⟩
 ·exact FW (wpAny_loadName_local I.ok.kind hk hn hm fin) hd
 ·rcases hk with hk | hk
  ·exact FW (wpAny_loadName_cell I.ok.kind hk hc hcell fin) hd
  ·exact FW (wpAny_loadName_free I.ok.kind hk hc hcell fin hcd) hd
theorem yi {i j pos}:PE X (.Constant (.int i) j pos) (tC (.int i)):=fun _ _ _ H _ I h=>wpAny_Constant_int ⟨.int i,H,I.tok _,⟨_,rfl⟩,h⟩
theorem NO {b j pos}:PE X (.Constant (.bool b) j pos) (tC (.bl b)):=fun _ _ _ H _ I h=>Constant_bool ⟨.bl b,H,I,rfl,h⟩
theorem NV {j pos}:PE X (.Constant .none j pos) (tC .non):=fun _ _ _ H _ I h=>Constant_none ⟨.non,H,I,rfl,h⟩
theorem oj {x j pos}:PE X (.Constant (.str x) j pos) (tC (.str x)):=fun _ _ _ H _ I h=>Calls.Constant_str ⟨.str x,H,I.tok _,⟨_,rfl⟩,h⟩
def Gl (X:Cx)(x:Str):Prop:=X.env.kindOf x=some .globalImplicit
theorem lj {E:ah->ar->Prop}{pins:List (af×Obj)}{s:ar}{σ:St}{H:Hp}{x:Str}{u:ah}{pos:Pos}{Q:ah->ar->Prop}(I:Inv X pins σ H s)(hg:Gl X x)(hm:X.mg x=some u)(h:Q u s)
  (hd:(x==("__debug__":Str))=false:=by decide):aI (aF X.prog X.w) X.A (aB (.Name x pos) X.env) Q E s:=
 Gr I.ok.kind hg (Calls.loadGlobal_global (by rw[I.ok.glob];exact I.mod.glob.keeps I.bk) hm h) hd
theorem lh {E:ah->ar->Prop}{pins:List (af×Obj)}{s:ar}{σ:St}{H:Hp}{x:Str}{u:ah}{pos:Pos}{Q:ah->ar->Prop}(I:Inv X pins σ H s)(hg:Gl X x)(hm:X.mg x=none)(hv:dJ x=some u)(h:Q u s)
  (hn:x≠"__name__":=by decide) (hd:(x==("__debug__":Str))=false:=by decide):aI (aF X.prog X.w) X.A (aB (.Name x pos) X.env) Q E s:=by
 obtain⟨mb,h1,h2⟩:=I.mod.blt
 exact Gr I.ok.kind hg (Calls.loadGlobal_builtin (by rw[I.ok.glob];exact I.mod.glob.keeps I.bk) hm (by rw[I.ok.blt];exact h1.keeps I.bk) ((h2 x hn).trans hv) h) hd
theorem tW {x:Str}{v:V}{u:ah}{pos:Pos}(hg:Gl X x)(hm:X.mg x=some u)(r:RelV v u)(hd:(x==("__debug__":Str))=false:=by decide):PE X (.Name x pos) (tC v):=
 fun _ _ _ H _ I h=>lj I hg hm ⟨v,H,I,r,h⟩ hd
theorem D8 {x:Str}{v:V}{u:ah}{pos:Pos}(hg:Gl X x)(hm:X.mg x=none)(hv:dJ x=some u)(r:RelV v u)(hn:x≠"__name__":=by decide)(hd:(x==("__debug__":Str))=false:=by decide):PE X (.Name x pos) (tC v):=
 fun _ _ _ H _ I h=>lh I hg hm hv ⟨v,H,I,r,h⟩ hn hd
def QO (ta tb:TE)(k:Int->Int->Hp->Prop):St->Hp->Prop:=fun σ H=>ta σ H fun x H1=>tb σ H1 fun y H2=>∃ i j,x=.int i∧y=.int j∧k i j H2
variable {a b:Expr}{ta tb:TE}{pos:Pos}
def PC (X:Cx)(op:gh)(a b:Expr)(t:TE):Prop:=
 ∀ (pins:List (af×Obj)) (s:ar) (σ:St) (H:Hp) (Q:VK),Inv X pins σ H s->t σ H Q ->
  aI (aF X.prog X.w) X.A (aB a X.env) (fun v s₁=>aI (aF X.prog X.w) X.A (aB b X.env) (fun u s₂=>aI (aF X.prog X.w) X.A (fC op v u) (EP X pins σ Q) X.xe s₂) X.xe s₁) X.xe s
theorem Mv (b:Expr){op:gh}(h:op≠.In)(h2:op≠.NotIn):jP op b=false:=by
 have e1:(op==CmpOp.In)=false:=by cases op <;> first | rfl | exact absurd rfl h
 have e2:(op==CmpOp.NotIn)=false:=by cases op <;> first | rfl | exact absurd rfl h2
 cases b <;> simp[jP,e1,e2]
def oA (p:Int->Int->Bool)(ta tb:TE):TE:=fun σ H Q=>QO ta tb (fun i j H2=>Q (.bl (p i j)) H2) σ H
abbrev To:TE->TE->TE:=oA fun i j=>decide (i<j)
abbrev Tn:TE->TE->TE:=oA fun i j=>decide (i≤j)
abbrev Tj:TE->TE->TE:=oA fun i j=>decide (j<i)
abbrev Ti:TE->TE->TE:=oA fun i j=>decide (j≤i)
abbrev Th:TE->TE->TE:=oA fun i j=>decide (i=j)
abbrev Tp:TE->TE->TE:=oA fun i j=>!decide (i=j)
def tB (t:TE):TT:=fun σ H Q=>t σ H fun x H1=>∃ c,x=.bl c∧Q c H1
theorem Ot {op:gh}{t:TE}(h:PC X op a b t)(h1:jP op b=false:=by first | exact Mv _ (by decide) (by decide) | rfl):PT X (.Compare a [op] [b] pos) (tB t):=by
 intro pins s σ H Q I hw
 refine So (aP (h pins s σ H _ I hw) fun v s1 h1=>aP h1 fun u s2 h2=>aP h2 fun c s3 ⟨x,H1,I1,r1,q1⟩=>?_) h1
 revert q1
 refine fun zqq=>?_;obtain⟨d,zq1,q⟩:=zqq
 subst zq1
 cases r1
 exact mX ⟨H1,I1,q⟩
theorem Ov {e:Expr}{t:TE}(h:PE X e t)(he:∀ whole,isTrue e X.env whole=(do let v ← whole;jv e.pos;jm [v] (truthy v)):=by intro _;rfl):PT X e (tB t):=by
 intro pins s σ H Q I hw
 refine isTrue_plain (aP (h pins s σ H _ I hw) fun v s1 ⟨x,H1,I1,r1,q1⟩=>?_) (he _)
 revert q1
 refine fun zqq=>?_;obtain⟨d,zq1,q⟩:=zqq
 subst zq1
 cases r1
 exact mX ⟨H1,I1,q⟩
variable {tA tB':TT}{rest:List Expr}
def Rl (t u:TT):TT:=fun σ H Q=>t σ H fun c H1=>if c=true then Q true H1 else u σ H1 Q
def Ri (t:TT):TT:=fun σ H Q=>t σ H fun c H1=>Q (!c) H1
theorem Em (ha:PT X a tA):PW X (.BoolOp .Or [a] pos) tA:=by
 intro wh pins s σ H Q I h
 refine isTrue_or (aP (ha pins s σ H Q I h) fun c s1 e=>?_)
 cases c with
 | false=>exact isTrue_or_nil e
 | true=>exact e
theorem El (ha:PT X a tA)(hb:PW X (.BoolOp .Or (b::rest) pos) tB'):PW X (.BoolOp .Or (a::b::rest) pos) (Rl tA tB'):=by
 intro wh pins s σ H Q I h
 refine isTrue_or (aP (ha pins s σ H _ I h) fun c s1 zpat=>?_)
 obtain⟨H1,I1,q1⟩:=zpat
 cases c with
 | true=>exact⟨H1,I1,q1⟩
 | false=>exact hb wh pins s1 σ H1 Q I1 q1
theorem Ou (ha:PT X a tA):PT X (.UnaryOp .Not a pos) (Ri tA):=by
 intro pins s σ H Q I h
 exact isTrue_not (cT (ha pins s σ H (fun c H1=>Q (!c) H1) I h) (fun c s' q=>q.elim fun H' I' q'=>⟨H',I',q'⟩) fun _ _ z=>z)
def QT (ta tb:TE):TE:=fun σ H Q=>ta σ H fun x H1=>∃ c,x=.bl c∧if c=true then tb σ H1 Q else Q (.bl false) H1
def Rm (ta tb:TE):TE:=fun σ H Q=>ta σ H fun x H1=>∃ c,x=.bl c∧if c=true then Q (.bl true) H1 else tb σ H1 Q
def Rj (ta:TE):TE:=fun σ H Q=>ta σ H fun x H1=>∃ c,x=.bl c∧Q (.bl (!c)) H1
theorem Eb {op}{t:TE}(h:PE X a t):PE X (.BoolOp op [a] pos) t:=fun pins s σ H Q I hw=>BoolOp_one (h pins s σ H Q I hw)
theorem D7 (ha:PE X a ta)(hb:PE X (.BoolOp .And (b::rest) pos) tb):PE X (.BoolOp .And (a::b::rest) pos) (QT ta tb):=by
 intro pins s σ H Q I h
 refine BoolOp_and (aP (ha pins s σ H _ I h) fun v s1 zpat=>?_)
 obtain⟨x,H1,I1,r1,q1⟩:=zpat
 revert q1
 refine fun zqq=>?_;obtain⟨c,zq1,q1⟩:=zqq
 subst zq1
 cases r1
 refine mX ?_
 cases c with
 | true=>exact hb pins s1 σ H1 Q I1 q1
 | false=>exact⟨.bl false,H1,I1,rfl,q1⟩
theorem NZ (ha:PE X a ta)(hb:PE X (.BoolOp .Or (b::rest) pos) tb):PE X (.BoolOp .Or (a::b::rest) pos) (Rm ta tb):=by
 intro pins s σ H Q I h
 refine BoolOp_or (aP (ha pins s σ H _ I h) fun v s1 zpat=>?_)
 obtain⟨x,H1,I1,r1,q1⟩:=zpat
 revert q1
 refine fun zqq=>?_;obtain⟨c,zq1,q1⟩:=zqq
 subst zq1
 cases r1
 refine mX ?_
 cases c with
 | false=>exact hb pins s1 σ H1 Q I1 q1
 | true=>exact⟨.bl true,H1,I1,rfl,q1⟩
theorem NY (ha:PE X a ta):PE X (.UnaryOp .Not a pos) (Rj ta):=by
 intro pins s σ H Q I h
 refine UnaryOp_ (aP (ha pins s σ H _ I h) fun v s1 zpat=>?_)
 obtain⟨x,H1,I1,r1,q1⟩:=zpat
 revert q1
 refine fun zqq=>?_;obtain⟨c,zq1,q1⟩:=zqq
 subst zq1
 cases r1
 exact not_of (mX ⟨.bl (!c),H1,I1,rfl,q1⟩)
def Q8 (t:TT)(ta tb:TE):TE:=fun σ H Q=>t σ H fun c H1=>if c=true then ta σ H1 Q else tb σ H1 Q
theorem NS {c:Expr}(hc:PT X c tA)(ha:PE X a ta)(hb:PE X b tb):PE X (.IfExp c a b pos) (Q8 tA ta tb):=by
 intro pins s σ H Q I h
 refine wpAny_IfExp (aP (hc pins s σ H _ I h) fun d s1 zpat=>?_)
 obtain⟨H1,I1,q1⟩:=zpat
 cases d with
 | true=>exact ha pins s1 σ H1 Q I1 q1
 | false=>exact hb pins s1 σ H1 Q I1 q1
end
end L2
namespace L2
def bD (K:ao)(H:Hp)(a:af)(xs:List V):Prop:=
 Rd H a (.lst xs) ∨
  ∃ (o:Obj) (its:Array ah) (n:Nat),K.lookup a=some o∧o.cls=.type "list"∧o.dict=none∧o.data=.seq its n∧its.size≤sizeLine∧aV xs its.toList
def cF (K:ao)(H:Hp)(a:af)(xs:List V):Prop:=
 Rd H a (.tup xs) ∨
  ∃ (o:Obj) (its:Array ah) (n:Nat),K.lookup a=some o∧o.cls=.type "tuple"∧o.data=.seq its n∧its.size≤sizeLine∧aV xs its.toList
def HV:ah->Option V
 | .none=>some .non
 | .bool b=>some (.bl b)
 | .int i _=>some (.int i)
 | .str x _=>some (.str x)
 | .bytes b _=>some (.byt b)
 | .float b _=>some (.flt b)
 | .ref a=>some (.ref a)
 | .type n=>some (.ty n)
 | _=>none
theorem RelV.abs {x:V}{u:ah}(r:RelV x u):HV u=some x:=by
 cases x with
 | non=>cases r;rfl
 | bl _=>cases r;rfl
 | int _=>obtain⟨t,rfl⟩:=r;rfl
 | str _=>obtain⟨t,rfl⟩:=r;rfl
 | byt _=>obtain⟨t,rfl⟩:=r;rfl
 | flt _=>obtain⟨t,rfl⟩:=r;rfl
 | ref _=>cases r;rfl
 | ty _=>cases r;rfl
theorem RelV.inj {x y:V}{u:ah}(r:RelV x u)(q:RelV y u):x=y:=aE (r.abs.symm.trans q.abs)
theorem aV.inj {xs ys:List V}{us:List ah}(h:aV xs us)(h':aV ys us):xs=ys:=by
 induction h generalizing ys with
 | nil=>cases h';rfl
 | cons r t ih=>
  cases h' with
  | cons r' t'=>rw[r.inj r',ih t']
section
variable {X:Cx}{pins:List (af×Obj)}{σ:St}{H:Hp}{s:ar}{a:af}{xs ys:List V}
theorem bD.of {K:ao}(h:H a=some (.lst xs)):bD K H a xs:=.inl (.inl h)
theorem cF.of {K:ao}(h:H a=some (.tup xs)):cF K H a xs:=.inl (.inl h)
theorem Inv.list (I:Inv X pins σ H s)(h:bD X.K H a xs):∃ its:List ah,aV xs its∧PlainL s.heap a its.toArray∧xs.length≤sizeLine:=by
 rcases h with h | ⟨o,its,n,hk,hc,hd,hs,hz,r⟩
 ·obtain⟨z,its,n,r,e⟩:=h.ok I.hok
  exact⟨its,r,⟨_,n,e,rfl,rfl,rfl⟩,z⟩
 ·refine⟨its.toList,r,⟨o,n,I.kIn a o hk,hc,hd,by simpa using hs⟩,?_⟩
  have e:=r.length
  simp only[gC] at e
  omega
theorem Inv.tuple (I:Inv X pins σ H s)(h:cF X.K H a xs):∃ its:List ah,aV xs its∧IsTup s.heap a its.toArray∧xs.length≤sizeLine:=by
 rcases h with h | ⟨o,its,n,hk,hc,hs,hz,r⟩
 ·obtain⟨z,its,r,p⟩:=h.ok I.hok
  exact⟨its,r,p,z⟩
 ·refine⟨its.toList,r,⟨o,I.kIn a o hk,hc,n,by simpa using hs⟩,?_⟩
  have e:=r.length
  simp only[gC] at e
  omega
theorem Inv.list_inj (I:Inv X pins σ H s)(h:bD X.K H a xs)(h':bD X.K H a ys):xs=ys:=by
 obtain⟨its,r,⟨o,n,e,_,_,d⟩,_⟩:=I.list h
 obtain⟨its',r',⟨o',n',e',_,_,d'⟩,_⟩:=I.list h'
 rw[e] at e';cases e'
 rw[d] at d'
 injection d' with d1 _
 have:its=its':=by simpa using congrArg Array.toList d1
 subst this
 exact r.inj r'
end
abbrev Cx.wish (X:Cx)(E:ah->ar->Prop):Cx:={X with xe:=E}
abbrev Cx.nox (X:Cx):Cx:=X.wish fun _ _=>False
theorem Cx.Ok.wish {X:Cx}(ok:X.Ok)(E:ah->ar->Prop):(X.wish E).Ok:=
 ⟨ok.mod,ok.kind,ok.glob,ok.blt,ok.above,ok.inj,ok.has,ok.cab,ok.hd,ok.frames,ok.stk,ok.exf,ok.bs,ok.bsz,ok.noex,ok.exfs,ok.funs,ok.frf,ok.tabs⟩
theorem Cx.Ok.unwish {X:Cx}{E:ah->ar->Prop}(ok:(X.wish E).Ok):X.Ok:=
 ⟨ok.mod,ok.kind,ok.glob,ok.blt,ok.above,ok.inj,ok.has,ok.cab,ok.hd,ok.frames,ok.stk,ok.exf,ok.bs,ok.bsz,ok.noex,ok.exfs,ok.funs,ok.frf,ok.tabs⟩
section
variable {X:Cx}{pins:List (af×Obj)}{σ:St}{H:Hp}{s:ar}{E:ah->ar->Prop}
theorem Inv.wish (I:Inv X pins σ H s)(E:ah->ar->Prop):Inv (X.wish E) pins σ H s:=⟨I.ok.wish E,I.os,I.bare,I.base,I.loc,I.cell,I.free,I.freeC,I.pin,I.hok,I.len⟩
theorem Inv.unwish (I:Inv (X.wish E) pins σ H s):Inv X pins σ H s:=⟨I.ok.unwish,I.os,I.bare,I.base,I.loc,I.cell,I.free,I.freeC,I.pin,I.hok,I.len⟩
theorem SP.unwish {D:fw}{f:Flow}{s':ar}(h:SP (X.wish E) pins D f s'):SP X pins D f s':=by
 cases f with
 | next=>obtain⟨σ',H',I,q⟩:=h;exact⟨σ',H',I.unwish,q⟩
 | brk=>obtain⟨σ',H',I,q⟩:=h;exact⟨σ',H',I.unwish,q⟩
 | cont=>obtain⟨σ',H',I,q⟩:=h;exact⟨σ',H',I.unwish,q⟩
 | ret u=>obtain⟨v,σ',H',I,r,q⟩:=h;exact⟨v,σ',H',I.unwish,r,q⟩
theorem PE.nox {e:Expr}{t:TE}(h:PE X.nox e t):PE X e t:=fun pins s σ H Q I hw=>
 cT (h pins s σ H Q (I.wish _) hw) (fun _ _ ⟨v,H',I',r,q⟩=>⟨v,H',I'.unwish,r,q⟩) fun _ _ z=>cV z
theorem PT.nox {e:Expr}{t:TT}(h:PT X.nox e t):PT X e t:=fun pins s σ H Q I hw=>
 cT (h pins s σ H Q (I.wish _) hw) (fun _ _ ⟨H',I',q⟩=>⟨H',I'.unwish,q⟩) fun _ _ z=>cV z
theorem dw.nox {st:List aG}{t:TS}(h:dw X.nox st t):dw X st t:=fun pins s σ H D I hw=>
 cT (h pins s σ H D (I.wish _) hw) (fun _ _ q=>q.unwish) fun _ _ z=>cV z
end
section
variable {X:Cx}{st:aG}{rest:List aG}{t u:TS}{e:Expr}{te:TE}{pos:Pos}
def Rg:TS:=fun D σ H=>D.nx σ H
def Ru (t u:TS):TS:=fun D σ H=>t {D with nx:=u D} σ H
theorem qy:dw X [] Rg:=fun _ _ σ H _ I h=>qX ⟨σ,H,I,h⟩
theorem mL (h1:PS X st t)(h2:dw X rest u):dw X (st::rest) (Ru t u):=by
 intro pins s σ H D I h
 refine zU (aP (h1 pins s σ H {D with nx:=u D} I h) fun f s1 q=>?_)
 cases f with
 | next=>
  revert q
  refine fun zqq=>?_;obtain⟨σ',H',I',q⟩:=zqq
  exact h2 pins s1 σ' H' D I' q
 | ret v=>exact q
 | brk=>exact q
 | cont=>exact q
theorem qz (h1:PS X st t):dw X [st] t:=by
 intro pins s σ H D I h
 refine zU (aP (h1 pins s σ H D I h) fun f s1 q=>?_)
 cases f with
 | next=>exact qX q
 | ret v=>exact q
 | brk=>exact q
 | cont=>exact q
theorem Inv.quiet {pins:List (af×Obj)}{σ:St}{H:Hp}{s:ar}(I:Inv X pins σ H s):interactive X.env=false:=by simp[interactive,I.ok.kind]
def Q2 (te:TE):TS:=fun D σ H=>te σ H fun _ H1=>D.nx σ H1
theorem qv (he:PE X e te)(hs:dF e none pos.line X.env=aN false:=by rfl):PS X (.Expr e pos) (Q2 te):=by
 intro pins s σ H D I h
 exact wpAny_Expr_any (aP (he pins s σ H _ I h) fun v s1 ⟨x,H1,I1,r1,q1⟩=>⟨σ,H1,I1,q1⟩) I.quiet hs
def Rr (te:TE):TS:=fun D σ H=>te σ H D.rt
theorem mK (he:PE X e te):PS X (.Return (some e) pos) (Rr te):=by
 intro pins s σ H D I h
 exact wpAny_Return_some (aP (he pins s σ H _ I h) fun v s1 ⟨x,H1,I1,r1,q1⟩=>⟨x,σ,H1,I1,r1,q1⟩)
def Q9 (c:TT)(t u:TS):TS:=fun D σ H=>c σ H fun b H1=>if b=true then t D σ H1 else u D σ H1
theorem qw {c:Expr}{a b:List aG}{tc:TT}(hc:PT X c tc)(ha:dw X a t)(hb:dw X b u):PS X (.If c a b pos) (Q9 tc t u):=by
 intro pins s σ H D I h
 refine wpAny_If (aP (hc pins s σ H _ I h) fun d s1 zpat=>?_)
 obtain⟨H1,I1,q1⟩:=zpat
 cases d with
 | true=>exact ha pins s1 σ H1 D I1 q1
 | false=>exact hb pins s1 σ H1 D I1 q1
def Rf:TS:=fun _ _ _=>False
theorem Ef {sts:List aG}:dw X sts Rf:=fun _ _ _ _ _ _ h=>h.elim
end
abbrev TG:=V->St->Hp->(St->Hp->Prop)->Prop
abbrev jL:=List V->St->Hp->(St->Hp->Prop)->Prop
def PG (X:Cx)(target:Expr)(t:TG):Prop:=
 ∀ (pins:List (af×Obj)) (s:ar) (σ:St) (H:Hp) (v:V) (u:ah) (Q:St->Hp->Prop),Inv X pins σ H s->RelV v u->t v σ H Q ->
  aI (aF X.prog X.w) X.A (kW target X.env u) (fun _ s'=>∃ σ' H',Inv X pins σ' H' s'∧Q σ' H') X.xe s
def kN (X:Cx)(ts:List Expr)(t:jL):Prop:=
 ∀ (pins:List (af×Obj)) (s:ar) (σ:St) (H:Hp) (vs:List V) (us:List ah) (Q:St->Hp->Prop),Inv X pins σ H s->aV vs us->t vs σ H Q ->
  aI (aF X.prog X.w) X.A (assignInOrder ((i9 ts X.env).map (·.2)) us) (fun _ s'=>∃ σ' H',Inv X pins σ' H' s'∧Q σ' H') X.xe s
abbrev Tb:=V->V->V->Hp->(Hp->Prop)->Prop
abbrev Ta:=V->V->Hp->VK->Prop
section
variable {X:Cx}{pos:Pos}
def sV (i:Nat):TG:=fun v σ H Q=>Q (σ.set i (some v)) H
theorem N3 {i:Nat}{x:Str}(hN:X.N.Nodup)(hi:X.N[i]?=some x)(hx:Loc X.env.scope x)(hf:X.fn x=true∨X.env.scope.names.lookup x=some .local:=by first | exact .inl rfl | exact .inr rfl | assumption):PG X (.Name x pos) (sV i):=by
 intro pins s σ H v u Q I r h
 exact Sm (zC I hN hi hx r (fun s' I'=>⟨_,H,I',h⟩) hf)
def Kn:jL:=fun vs σ H Q=>vs=[]∧Q σ H
def Kl (t:TG)(u:jL):jL:=fun vs σ H Q=>∃ v r,vs=v::r∧t v σ H fun σ' H'=>u r σ' H' Q
theorem N6:kN X [] Kn:=by
 intro pins s σ H vs us Q I r h
 revert h
 refine fun zqq=>?_;obtain⟨e,h⟩:=zqq
 subst e
 cases r
 exact assignInOrder_nil ⟨σ,H,I,h⟩
theorem N5 {e:Expr}{es:List Expr}{t:TG}{u:jL}(h1:PG X e t)(h2:kN X es u)
  (hs:(i9 (e::es) X.env).map (·.2)=kW e X.env::(i9 es X.env).map (·.2):=by rfl):kN X (e::es) (Kl t u):=by
 intro pins s σ H vs us Q I r h
 revert h
 refine fun zqq=>?_;obtain⟨v,vr,e1,h⟩:=zqq
 subst e1
 cases r with
 | cons r rr=>
  rw[hs]
  refine assignInOrder_cons (aP (h1 pins s σ H _ _ _ I r h) fun _ s1 zpat=>?_)
  obtain⟨σ1,H1,I1,q1⟩:=zpat
  exact h2 pins s1 σ1 H1 _ _ Q I1 rr q1
def Ko (K:ao)(n:Nat)(t:jL):TG:=fun v σ H Q=>∃ a xs,v=.ref a∧cF K H a xs∧xs.length=n∧t xs σ H Q
theorem N4 {es:List Expr}{k:Nat}{t:jL}{n:Nat}(hc:X.calm=true)(h:kN X es t)
  (hn:(i9 es X.env).length=n:=by rfl) (hst:(i9 es X.env).findIdx? (·.1)=none:=by rfl):PG X (.Tuple es k pos) (Ko X.K n t):=by
 intro pins s σ H v u Q I r hw
 revert hw
 refine fun zqq=>?_;obtain⟨a,xs,e1,hq,hl,hw⟩:=zqq
 subst e1
 cases r
 obtain⟨its,rv,ht,hz⟩:=I.tuple hq
 refine assign_Tuple_tuple (I.ok.hd hc) ht (by simp[hn,← hl,rv.length]) hst fun h' hx=>?_
 have I1:Inv X pins σ H {s with heap:=h' }:=I.kept (t':=s.toks) fun b o e=>hx b o (cJ (bA e)) e
 exact h pins _ σ H xs _ Q I1 (by simpa using rv) hw
def uD (te:TE)(g:TG):TS:=fun D σ H=>te σ H fun x H1=>g x σ H1 D.nx
theorem Oi {tg e:Expr}{te:TE}{g:TG}(he:PE X e te)(hg:PG X tg g)(hs:swapsWithSole [tg] e pos.line X.env=aN false:=by rfl)(hw:swappedStores [tg] e X.env=aN none:=by rfl)
  (h1:(i9 [tg] X.env).map (·.2)=[kW tg X.env]:=by rfl):PS X (.Assign [tg] e pos) (uD te g):=by
 intro pins s σ H D I h
 refine wpAny_Assign_stores (aP (he pins s σ H _ I h) fun v s1 ⟨x,H1,I1,r1,q1⟩=>?_) hs hw
 rw[h1]
 exact aP (hg pins s1 σ H1 x v _ I1 r1 q1) fun _ s2 q=>q
theorem t5 {i:Nat}{x:Str}{e:Expr}{te:TE}{pos':Pos}(hN:X.N.Nodup)(hi:X.N[i]?=some x)(hx:Loc X.env.scope x)(he:PE X e te)(hs:dF e (some (.Name x pos')) pos.line X.env=aN false:=by rfl)(hf:X.fn x=true∨X.env.scope.names.lookup x=some .local:=by first | exact .inl rfl | exact .inr rfl | assumption) :
  PS X (.Assign [.Name x pos'] e pos) (uD te (sV i)):=by
 intro pins s σ H D I h
 refine wpAny_Assign_Name (aP (he pins s σ H _ I h) fun v s1 ⟨y,H1,I1,r1,q1⟩=>?_) hs
 exact zC I1 hN hi hx r1 (fun s2 I2=>⟨_,H1,I2,q1⟩) hf
end
section
variable {X:Cx}{pos:Pos}
def RA (c:TT)(tb:TS):TS:=fun D σ H=>∃ W:Nat->St->Hp->Prop,(∃ m,W m σ H)∧∀ m σ H,W m σ H ->
 c σ H fun b H1=>if b=true then ∃ N:St->Hp->Prop,(∀ σ' H',N σ' H'->∃ m',m'<m∧W m' σ' H')∧tb {D with nx:=N,ct:=N,bk:=D.nx} σ H1 else D.nx σ H1
theorem Oq {c:Expr}{body:List aG}{tc:TT}{tb:TS}(hp:pF (aF X.prog X.w) X.A X.env X.xe)(hc:PT X c tc)(hb:dw X body tb):PS X (.While c body [] pos) (RA tc tb):=by
 intro pins s σ H D I h
 obtain⟨W,⟨m0,w0⟩,turn⟩:=h
 refine wpAny_While (codeAny_whileLoop (fun n s'=>∃ σ' H',Inv X pins σ' H' s'∧W n σ' H') ?_ m0 ⟨σ,H,I,w0⟩)
 rintro n s1 ⟨σ1,H1,I1,w1⟩
 refine oJ hp (aP (hc pins s1 σ1 H1 _ I1 (turn n σ1 H1 w1)) fun b s2 zpat=>?_)
 obtain⟨H2,I2,q2⟩:=zpat
 cases b with
 | true=>
  revert q2
  refine fun zqq=>?_;obtain⟨N,hN,q2⟩:=zqq
  rw[if_pos rfl]
  refine oJ hp (aP (hb pins s2 σ1 H2 _ I2 q2) fun f s3 q3=>?_)
  cases f with
  | next=>
   obtain⟨σ3,H3,I3,n3⟩:=id q3
   obtain⟨m',hm,w3⟩:=hN σ3 H3 n3
   exact ⟨m',hm,σ3,H3,I3,w3⟩
  | cont=>
   obtain⟨σ3,H3,I3,n3⟩:=id q3
   obtain⟨m',hm,w3⟩:=hN σ3 H3 n3
   exact ⟨m',hm,σ3,H3,I3,w3⟩
  | brk=>exact q3
  | ret v=>exact q3
 | false=>
  rw[if_neg dH]
  exact qX ⟨σ1,H2,I2,q2⟩
end
structure It where
 go:Nat->Hp->Prop
 yld:Nat->Hp->V->Hp->Prop
 stop:Nat->Hp->Prop
def eg (X:Cx)(pins:List (af×Obj))(H:Hp)(b:af):Prop:=
 H b=none∧b≠X.env.locals∧b∉X.fs∧(b∈X.ex∨X.s₀.heap.objs.size≤b)∧(∀ x c,X.env.cells.lookup x=some c->c≠b)∧∀ p∈X.pn++pins,p.1≠b
theorem Inv.fpOk {X:Cx}{pins:List (af×Obj)}{σ:St}{H H':Hp}{s:ar}{b:af}(I:Inv X pins σ H s)(hb:s.heap.objs.size≤b)(hn:H' b=none):eg X pins H' b:=by
 refine⟨hn,pA (dI I.lt hb),I.nofs hb,.inr (dn I.sz hb),fun x c e z=>?_,fun p hp z=>?_⟩
 ·obtain⟨v,q⟩:=I.cell x c e
  exact absurd (dI q.lt (by rw[z];exact hb)) (jG _)
 ·exact absurd (dI (bA (I.pin p hp).1) (by rw[z];exact hb)) (jG _)
structure mf (P:aQ)(w:aM)(K:ao)(tg:Expr)(J:It)(fp:List af)(it:af)(tn:Nat->az->Prop):Prop where
 mem:it∈fp
 obj:∀ i h,tn i h->∀ b∈fp,∃ o,h.get? b=some o∧∀ v,o.data≠.cell v
 keep:∀ i h h',tn i h->(∀ b∈fp,∀ o,h.get? b=some o->h'.get? b=some o)->tn i h'
 item:∀ (X:Cx),X.prog=P->X.w=w->X.K=K->X.calm=true->∀ (i:Nat) (pins:List (af×Obj)) (s:ar) (σ:St) (H:Hp) (E:ah->ar->Prop),Inv X pins σ H s->(∀ b∈fp,eg X pins H b)->tn i s.heap->J.go i H ->
  aI (aF P w) X.A (pyNext (.ref it)) (fun r s1=>∃ u,r=some u ∧
   aI (aF P w) X.A (xS tg (.ref it) u) (fun _ s2=>∃ x H',Inv X pins σ H' s2∧RelV x u∧J.yld i H x H'∧tn (i+1) s2.heap∧∀ b∈fp,H' b=none) E s1) E s
 done:∀ (X:Cx),X.prog=P->X.w=w->X.K=K->X.calm=true->∀ (i:Nat) (pins:List (af×Obj)) (s:ar) (σ:St) (H:Hp) (E:ah->ar->Prop),Inv X pins σ H s->(∀ b∈fp,eg X pins H b)->tn i s.heap->J.stop i H ->
  aI (aF P w) X.A (pyNext (.ref it)) (fun r s1=>r=none∧Inv X pins σ H s1) E s
 self:∀ (A:bw) (i:Nat) (s:ar) (Q:ah->ar->Prop) (E:ah->ar->Prop),tn i s.heap->Q (.ref it) s->aI (aF P w) A (pyIter (.ref it)) Q E s
abbrev TI:=St->Hp->(It->Hp->Prop)->Prop
def v7 (X:Cx)(pins:List (af×Obj))(σ:St)(tg:Expr)(R:It->Hp->Prop)(itv:ah)(s2:ar):Prop:=
 ∃ (it:af) (fp:List af) (tn:Nat->az->Prop) (J:It) (H':Hp),itv=.ref it∧Inv X pins σ H' s2∧mf X.prog X.w X.K tg J fp it tn∧tn 0 s2.heap∧(∀ b∈fp,eg X pins H' b)∧R J H'
def PI (X:Cx)(tg iter:Expr)(wi:TI):Prop:=
 ∀ (pins:List (af×Obj)) (s:ar) (σ:St) (H:Hp) (R:It->Hp->Prop),Inv X pins σ H s->wi σ H R ->
  aI (aF X.prog X.w) X.A (aB iter X.env) (fun v s1=>aI (aF X.prog X.w) X.A (pyIter v) (v7 X pins σ tg R) X.xe s1) X.xe s
theorem sX {M:pw}{A:bw}{E:ah->ar->Prop}{s:ar}{tg:Expr}{it:af}{u:ah}{o:Obj}{n:String}{vs:Array ah}{Q:Unit->ar->Prop}(ho:s.heap.get? it=some o)(hc:o.cls=.type n)(hd:o.data=.fields vs)
  (hn:["enumerate","zip","dict_itemiterator","dict_reverseitemiterator","odict_iterator","itertools.zip_longest","itertools.pairwise"].contains n=false) (hQ:Q () s):aI M A (xS tg (.ref it) u) Q E s:=by
 unfold xS
 cases tg <;> first
  | exact bU hQ
  | (cases u <;> first
   | exact bU hQ
   | (
    refine aU (wpAny_load ho ?_)
    rw[hc,hd]
    show aI M A (if (["enumerate","zip","dict_itemiterator","dict_reverseitemiterator","odict_iterator","itertools.zip_longest","itertools.pairwise"].contains n&&vs[0]?==some (j6 _))=true then _ else _) Q E s
    rw[if_neg (by intro h;rw[hn,Bool.false_and] at h;cases h)]
    exact bU hQ))
def vK (K:ao)(a:af):It:=
 ⟨fun i H=>∃ xs x,bD K H a xs∧xs[i]?=some x,fun i H x H'=>H'=H∧∀ xs,bD K H a xs->xs[i]?=some x,fun i H=>∃ xs,bD K H a xs∧xs.length≤i⟩
def o_ (lo:Int)(n:Nat):It:=⟨fun i _=>i<n,fun i H x H'=>H'=H∧x=.int (lo+i),fun i _=>n≤i⟩
theorem RS {P:aQ}{w:aM}{K:ao}{tg:Expr}(a it:af):mf P w K tg (vK K a) [it] it (fun i h=>h.IsListIter it a i) where
 mem:=by simp
 obj:=fun i h st b hb=>by
  have e:b=it:=by simpa using hb
  subst e
  obtain⟨o,e,c,d⟩:=id st
  exact⟨o,e,fun v z=>by rw[d] at z;cases z⟩
 keep:=fun i h h' st k=>st.at fun o e=>k it (by simp) o e
 item:=by
  intro X hP hw hK hc i pins s σ H E I hf st hg
  subst hP hw hK
  obtain⟨xs,x,hq,hx⟩:=id hg
  obtain⟨its,rv,p,hz⟩:=I.list hq
  obtain⟨u,hu,ru⟩:=rv.get hx
  obtain⟨f0,f1,f2,f3,f4,f5⟩:=hf it (by simp)
  refine wpAny_pyNext_list_item st p.isList (x:=u) (by simpa using hu) fun h' st' sb=>?_
  have I1:Inv X pins σ H {s with heap:=h' }:=I.turned (t':=s.toks) (fun b o hb e=>(sb.2 b hb).trans e) f0 f1 f3 f4 f5
  obtain⟨o,e,c,d⟩:=id st'
  exact⟨u,rfl,sX (s:={s with heap:=h' }) e c d (by decide) ⟨x,H,I1,ru,⟨rfl,fun ys hy=>by rw[I.list_inj hy hq];exact hx⟩,st',fun b hb=>(hf b hb).1⟩⟩
 done:=by
  intro X hP hw hK hc i pins s σ H E I hf st hg
  subst hP hw hK
  obtain⟨xs,hq,hx⟩:=id hg
  obtain⟨its,rv,p,hz⟩:=I.list hq
  obtain⟨f0,f1,f2,f3,f4,f5⟩:=hf it (by simp)
  have hl:=rv.length
  exact wpAny_pyNext_list_end (I.ok.hd hc) st p.isList (by simp;omega) fun h' eb=>⟨rfl,I.turned (t':=s.toks) (fun b o hb e=>eb b o hb e) f0 f1 f3 f4 f5⟩
 self:=fun _ _ _ _ _ st h=>wpAny_pyIter_listiter st h
theorem RT {P:aQ}{w:aM}{K:ao}{tg:Expr}(it:af)(lo:Int)(n:Nat):mf P w K tg (o_ lo n) [it] it (fun i h=>vJ h it (lo+(i:Nat)*1) ((n:Int) - (i:Nat)) 1) where
 mem:=by simp
 obj:=fun i h st b hb=>by
  have e:b=it:=by simpa using hb
  subst e
  exact⟨_,st,fun v z=>by
   have z':Data.fields _=Data.cell v:=z
   cases z'⟩
 keep:=fun i h h' st k=>k it (by simp) _ st
 item:=by
  intro X hP hw hK hc i pins s σ H E I hf st hg
  subst hP hw hK
  obtain⟨f0,f1,f2,f3,f4,f5⟩:=hf it (by simp)
  have W:=Walks.range (prog:=X.prog) (w:=X.w) (I.ok.hd hc) it lo 1 n
  refine W.item i s _ _ hg st fun v h' tk hv st' kk=>?_
  revert hv
  refine fun zqq=>?_;obtain⟨t,zq1⟩:=zqq
  subst zq1
  have I1:Inv X pins σ H {s with heap:=h',toks:=tk}:=I.turned (fun b o hb e=>kk b o (by simpa using hb) e) f0 f1 f3 f4 f5
  refine⟨_,rfl,sX (s:={s with heap:=h',toks:=tk}) (n:="range_iterator") st' rfl rfl (by decide) ⟨.int (lo+i),H,I1,⟨t,?_⟩,⟨rfl,rfl⟩,st',fun b hb=>(hf b hb).1⟩⟩
  rw[Int.mul_one]
 done:=by
  intro X hP hw hK hc i pins s σ H E I hf st hg
  subst hP hw hK
  obtain⟨f0,f1,f2,f3,f4,f5⟩:=hf it (by simp)
  exact Sx (I.ok.hd hc) st (by have:n≤i:=hg;omega) fun h' eb=>⟨rfl,I.turned (t':=s.toks) (fun b o hb e=>eb b o hb e) f0 f1 f3 f4 f5⟩
 self:=fun _ _ _ _ _ st h=>Sw st h
end L2
namespace L2
section
variable {X:Cx}{tg:Expr}
def KH (K:ao)(tl:TE):TI:=fun σ H R=>tl σ H fun x H1=>∃ a,x=.ref a∧(∃ xs,bD K H1 a xs)∧R (vK K a) H1
theorem N8 {l:Expr}{tl:TE}(hl:PE X l tl):PI X tg l (KH X.K tl):=by
 intro pins s σ H R I h
 refine aP (hl pins s σ H _ I h) fun v s1 zpat=>?_
 obtain⟨x,H1,I1,r1,q1⟩:=zpat
 obtain⟨a,e,⟨xs,hq⟩,q⟩:=q1
 subst e
 cases r1
 obtain⟨its,rv,p,hz⟩:=I1.list hq
 refine Su p.isList ?_
 refine ⟨s1.heap.objs.size,[s1.heap.objs.size],_,_,H1,rfl,(I1.kept (t':=s1.toks) fun b o e=>cL _ e),RS a _,(⟨_,fA _ rfl,rfl,rfl⟩),(fun b hb=>?_),q⟩
 have e:b=s1.heap.objs.size:=by simpa using hb
 subst e
 exact I1.fpOk (cj _) (I1.hok.fresh (cj _))
theorem OR {pins:List (af×Obj)}{σ:St}{H:Hp}{s:ar}{R:It->Hp->Prop}{E:ah->ar->Prop}{lo hi:Int}{t u v:Tok}{tk:Nat}(I:Inv X pins σ H s)(h1:-(2 ^ 62)≤lo)(h2:lo<2 ^ 62)(h3:-(2 ^ 62)≤hi)(h4:hi<2 ^ 62)
  (q:R (o_ lo (hi - lo).toNat) H):aI (aF X.prog X.w) X.A (pyIter (.ref s.heap.objs.size)) (v7 X pins σ tg R) E {s with heap:=s.heap.push {cls:=.type "range",data:=.fields #[.int lo t,.int hi u,.int 1 v]},toks:=tk}:=by
 refine Sv (IsRange.new ..) (small_one h1 h2 h3 h4) ?_
 have I1:Inv X pins σ H {s with heap:=s.heap.push {cls:=.type "range",data:=.fields #[.int lo t,.int hi u,.int 1 v]},toks:=tk}:=I.kept fun b o e=>cL _ e
 refine⟨(s.heap.push {cls:=.type "range",data:=.fields #[.int lo t,.int hi u,.int 1 v]}).objs.size,[(s.heap.push {cls:=.type "range",data:=.fields #[.int lo t,.int hi u,.int 1 v]}).objs.size],_,_,H,rfl,
  I1.kept (t':=tk) fun b o e=>cL _ e,RT _ lo (hi - lo).toNat,?_,fun b hb=>?_,q⟩
 ·have e1:lo+((0:Nat):Int)*1=lo:=by simp
  have e2:(((hi - lo).toNat:Nat):Int) - ((0:Nat):Int)=vh lo hi 1:=by rw[rangeSize_one];split <;> omega
  show vJ _ _ (lo+((0:Nat):Int)*1) ((((hi - lo).toNat:Nat):Int) - ((0:Nat):Int)) 1
  rw[e1,e2]
  exact fA _ rfl
 ·have e:b=(s.heap.push {cls:=.type "range",data:=.fields #[.int lo t,.int hi u,.int 1 v]}).objs.size:=by simpa using hb
  subst e
  exact I1.fpOk (cj _) (I1.hok.fresh (cj _))
def KI (ta:TA):TI:=fun σ H R=>ta σ H fun vs H1=>∃ j:Int,vs=[.int j]∧-(2 ^ 62)≤j∧j<2 ^ 62∧R (o_ 0 j.toNat) H1
theorem Ed {a:Expr}{ta:TA}{p pos:Pos}(hg:Gl X "range")(hm:X.mg "range"=none)(ha:PA X [a] ta)(hs:ax [a] X.env=[(false,aB a X.env)]:=by rfl):PI X tg (.Call (.Name "range" p) [a] [] pos) (KI ta):=by
 intro pins s σ H R I h
 refine Call_ (lh I hg hm boot_range (pH (aP (ha pos pins s σ H _ I h) fun us s1 ⟨vs,H1,I1,r1,q1⟩=>?_) hs rfl))
 revert q1
 refine fun zqq=>?_;obtain⟨j,e,q1,q2,q⟩:=zqq
 subst e
 cases r1 with
 | cons r rr=>
  cases rr
  revert r
  refine fun zqq=>?_;obtain⟨t,zq1⟩:=zqq
  subst zq1
  exact call_range_1 (OR I1 (by omega) (by omega) q1 q2 (by simpa using q))
def Q5 (wi:TI)(g:TG)(tb:TS):TS:=fun D σ H=>wi σ H fun J H1=>∃ W:Nat->Nat->St->Hp->Prop,(∃ m,W 0 m σ H1)∧∀ i m σ H,W i m σ H ->
 (J.stop i H∧D.nx σ H)∨(J.go i H∧∃ N:St->Hp->Prop,(∀ σ' H',N σ' H'->∃ m',m'<m∧W (i+1) m' σ' H')∧∀ x H',J.yld i H x H'->g x σ H' fun σ2 H2=>tb {D with nx:=N,ct:=N,bk:=D.nx} σ2 H2)
def qu (fp:List af)(h:az):List (af×Obj):=fp.filterMap fun b=>(h.get? b).map fun o=>(b,o)
theorem tJ {fp:List af}{h:az}{b:af}{o:Obj}(hb:b∈fp)(e:h.get? b=some o):(b,o)∈qu fp h:=List.mem_filterMap.mpr ⟨b,hb,by rw[e];rfl⟩
theorem MB {fp:List af}{h:az}{p:af×Obj}(hp:p∈qu fp h):p.1∈fp∧h.get? p.1=some p.2:=by
 obtain⟨b,hb,e⟩:=List.mem_filterMap.mp hp
 cases q:h.get? b with
 | none=>rw[q] at e;cases e
 | some o=>
  rw[q] at e
  have e':(b,o)=p:=aE e
  subst e'
  exact⟨hb,q⟩
theorem Inv.pinned {pins:List (af×Obj)}{σ:St}{H:Hp}{s:ar}{fp:List af}(I:Inv X pins σ H s)(hf:∀ b∈fp,eg X pins H b)(ho:∀ b∈fp,∃ o,s.heap.get? b=some o∧∀ v,o.data≠.cell v):Inv X (pins++qu fp s.heap) σ H s:=
 I.pins_of fun p hp=>(List.mem_append.mp hp).elim (fun z=>I.pin p (bB _ z)) fun z=>by
  obtain⟨hb,e⟩:=MB z
  obtain⟨f0,f1,f2,_⟩:=hf p.1 hb
  obtain⟨o,e',d⟩:=ho p.1 hb
  rw[e] at e';cases e'
  exact⟨e,f0,f1,f2,d⟩
theorem Inv.unpinned {pins pl:List (af×Obj)}{σ:St}{H:Hp}{s:ar}(I:Inv X (pins++pl) σ H s):Inv X pins σ H s:=I.pins_of fun p hp=>I.pin p (bB _ (cy _ hp))
theorem yo {iter:Expr}{body:List aG}{wi:TI}{g:TG}{tb:TS}{pos:Pos}(hp:pF (aF X.prog X.w) X.A X.env X.xe)(hc:X.calm=true)(hi:PI X tg iter wi)(hg:PG X tg g)(hb:dw X body tb)
  (hs:∀ x,k7 iter X.env x=aN x:=by intro _;rfl):PS X (.For tg iter body [] pos) (Q5 wi g tb):=by
 intro pins s σ H D I h
 refine wpAny_For (aP (hi pins s σ H _ I h) fun v s1 h1=>aP h1 fun itv s2 h2=>?_) hs
 obtain⟨it,fp,tn,J,H2,e,I2,T,st2,f2,W,⟨m0,w0⟩,turn⟩:=h2
 subst e
 -- what stays true of the iterator's objects through the loop
 have stat:∀ {H':Hp},(∀ b∈fp,H' b=none)->∀ b∈fp,eg X pins H' b:=fun hn b hb=>⟨hn b hb,(f2 b hb).2⟩
 refine codeAny_forLoop_any (fun n s'=>∃ i σ' H',Inv X pins σ' H' s'∧tn i s'.heap∧(∀ b∈fp,H' b=none)∧W i n σ' H') ?_ m0 ⟨0,σ,H2,I2,st2,fun b hb=>(f2 b hb).1,w0⟩
 rintro n s3 ⟨i,σ3,H3,I3,st3,fr3,w3⟩
 rcases turn i n σ3 H3 w3 with ⟨stop,qn⟩ | ⟨go,N,hN,step⟩
 ·refine oJ hp (aP (T.done X rfl rfl rfl hc i pins s3 σ3 H3 X.xe I3 (stat fr3) st3 stop) fun r s4 zpat=>?_)
  obtain⟨hr,I4⟩:=zpat
  subst hr
  exact qX ⟨σ3,H3,I4,qn⟩
 ·refine oJ hp (aP (T.item X rfl rfl rfl hc i pins s3 σ3 H3 X.xe I3 (stat fr3) st3 go) fun r s4 zpat=>?_)
  obtain⟨u,hr,h4⟩:=zpat
  subst hr
  refine oJ hp (aP h4 fun _ s5 zpat=>?_)
  obtain⟨x,H5,I5,r5,y5,st5,fr5⟩:=zpat
  have I5':=I5.pinned (stat fr5) (T.obj _ _ st5)
  refine oJ hp (aP (hg _ s5 σ3 H5 x u _ I5' r5 (step x H5 y5)) fun _ s6 zpat=>?_)
  obtain⟨σ6,H6,I6,q6⟩:=zpat
  refine oJ hp (aP (hb _ s6 σ6 H6 _ I6 q6) fun f s7 q7=>?_)
  have pO:∀ {σ7:St} {H7:Hp},Inv X (pins++qu fp s5.heap) σ7 H7 s7->N σ7 H7->∃ m,m<n∧∃ i σ' H',Inv X pins σ' H' s7∧tn i s7.heap∧(∀ b∈fp,H' b=none)∧W i m σ' H':=fun {σ7 H7} I7 n7=>by
   obtain⟨m',hm,w7⟩:=hN σ7 H7 n7
   refine ⟨m',hm,i+1,σ7,H7,I7.unpinned,(T.keep _ _ _ st5 fun b hb o e=>(I7.pin (b,o) (bB _ (bB _ (tJ hb e)))).1),(fun b hb=>?_),w7⟩
   obtain⟨o,e,d⟩:=T.obj _ _ st5 b hb
   exact (I7.pin (b,o) (bB _ (bB _ (tJ hb e)))).2.1
  cases f with
  | next=>obtain⟨σ7,H7,I7,n7⟩:=q7;exact pO I7 n7
  | cont=>obtain⟨σ7,H7,I7,n7⟩:=q7;exact pO I7 n7
  | brk=>obtain⟨σ7,H7,I7,q7⟩:=q7;exact⟨σ7,H7,I7.unpinned,q7⟩
  | ret v=>obtain⟨x7,σ7,H7,I7,r7,q7⟩:=q7;exact⟨x7,σ7,H7,I7.unpinned,r7,q7⟩
end
end L2
namespace L2
abbrev R2:=V->V->Hp->VK->Prop
def cE (X:Cx)(f:ah->ah->Sem ah)(r:R2):Prop:=
 ∀ (pins:List (af×Obj)) (s:ar) (σ:St) (H:Hp) (x y:V) (v u:ah) (Q:VK),Inv X pins σ H s->RelV x v->RelV y u->r x y H Q ->
  aI (aF X.prog X.w) X.A (f v u) (EP X pins σ Q) X.xe s
def wC (X:Cx)(f:ah->Sem ah)(r:V->Hp->VK->Prop):Prop:=
 ∀ (pins:List (af×Obj)) (s:ar) (σ:St) (H:Hp) (x:V) (v:ah) (Q:VK),Inv X pins σ H s->RelV x v->r x H Q ->
  aI (aF X.prog X.w) X.A (f v) (EP X pins σ Q) X.xe s
def eY (X:Cx)(f:ah)(r:List V->Hp->VK->Prop):Prop:=
 ∀ (pins:List (af×Obj)) (s:ar) (σ:St) (H:Hp) (xs:List V) (us:List ah) (Q:VK),Inv X pins σ H s->aV xs us->r xs H Q ->
  aI (aF X.prog X.w) X.A (call f us) (EP X pins σ Q) X.xe s
def oB (r:R2)(ta tb:TE):TE:=fun σ H Q=>ta σ H fun x H1=>tb σ H1 fun y H2=>r x y H2 Q
def Rz (r:V->Hp->VK->Prop)(ta:TE):TE:=fun σ H Q=>ta σ H fun x H1=>r x H1 Q
def rI (C:Int->Int->Prop)(g:Int->Int->V):R2:=fun x y H Q=>∃ i j,x=.int i∧y=.int j∧C i j∧Q (g i j) H
def j4 (g:Int->Int->V):R2:=fun x y H Q=>∃ i j,x=.int i∧y=.int j∧Q (g i j) H
def rU (g:Int->V):V->Hp->VK->Prop:=fun x H Q=>∃ i,x=.int i∧Q (g i) H
section
variable {X:Cx}{a b c:Expr}{ta tb tc:TE}{pos:Pos}
theorem wO (ha:PE X a ta)(hb:PE X b tb){pins:List (af×Obj)}{s:ar}{σ:St}{H:Hp}{R:V->V->Hp->Prop}(I:Inv X pins σ H s)
  (h:ta σ H fun x H1=>tb σ H1 fun y H2=>R x y H2) {Q:ah->ar->Prop} {f:ah->ah->Sem ah}
  (hf:∀ v u s2 x y H2,Inv X pins σ H2 s2->RelV x v->RelV y u->R x y H2->aI (aF X.prog X.w) X.A (f v u) Q X.xe s2) :
  aI (aF X.prog X.w) X.A (aB a X.env) (fun v s₁=>aI (aF X.prog X.w) X.A (aB b X.env) (fun u s₂=>aI (aF X.prog X.w) X.A (f v u) Q X.xe s₂) X.xe s₁) X.xe s:=by
 refine aP (ha pins s σ H _ I h) fun v s1 zpat=>?_
 obtain⟨x,H1,I1,r1,q1⟩:=zpat
 refine aP (hb pins s1 σ H1 _ I1 q1) fun u s2 zpat=>?_
 obtain⟨y,H2,I2,r2,q2⟩:=zpat
 exact hf v u s2 x y H2 I2 r1 r2 q2
theorem il {op:Operator}{r:R2}(ho:cE X (i_ op) r)(ha:PE X a ta)(hb:PE X b tb):PE X (.BinOp a op b pos) (oB r ta tb):=by
 intro pins s σ H Q I h
 exact wpAny_BinOp (wO ha hb I h fun v u s2 x y H2 I2 rx ry q=>ho pins s2 σ H2 x y v u Q I2 rx ry q)
theorem N1 {op:UnaryOp}{r:V->Hp->VK->Prop}(ho:wC X (unaryOp op) r)(ha:PE X a ta):PE X (.UnaryOp op a pos) (Rz r ta):=by
 intro pins s σ H Q I h
 exact UnaryOp_ (aP (ha pins s σ H _ I h) fun v s1 ⟨x,H1,I1,r1,q1⟩=>ho pins s1 σ H1 x v Q I1 r1 q1)
theorem tS {f:ah->ah->Sem ah}{C:Int->Int->Prop}{g:Int->Int->Int}
  (rule:∀ (i j:Int) (t u:Tok) (s:ar) (Q:ah->ar->Prop) (E:ah->ar->Prop),C i j->Q (.int (g i j) s.toks) {s with toks:=s.toks+1}->aI (aF X.prog X.w) X.A (f (.int i t) (.int j u)) Q E s) :
  cE X f (rI C fun i j=>.int (g i j)):=by
 intro pins s σ H x y v u Q I rx ry h
 revert h
 refine fun zqq=>?_;obtain⟨i,j,zq2,zq3,hc,q⟩:=zqq
 subst zq2
 subst zq3
 revert rx
 refine fun zqq=>?_;obtain⟨t,zq1⟩:=zqq
 subst zq1
 revert ry
 refine fun zqq=>?_;obtain⟨t',zq1⟩:=zqq
 subst zq1
 exact rule i j t t' s _ _ hc ⟨.int (g i j),H,I.tok _,⟨_,rfl⟩,q⟩
theorem DX {f:ah->ah->Sem ah}{g:Int->Int->Int}
  (rule:∀ (i j:Int) (t u:Tok) (s:ar) (Q:ah->ar->Prop) (E:ah->ar->Prop),Q (.int (g i j) s.toks) {s with toks:=s.toks+1}->aI (aF X.prog X.w) X.A (f (.int i t) (.int j u)) Q E s) :
  cE X f (j4 fun i j=>.int (g i j)):=by
 intro pins s σ H x y v u Q I rx ry h
 revert h
 refine fun zqq=>?_;obtain⟨i,j,zq2,zq3,q⟩:=zqq
 subst zq2
 subst zq3
 revert rx
 refine fun zqq=>?_;obtain⟨t,zq1⟩:=zqq
 subst zq1
 revert ry
 refine fun zqq=>?_;obtain⟨t',zq1⟩:=zqq
 subst zq1
 exact rule i j t t' s _ _ ⟨.int (g i j),H,I.tok _,⟨_,rfl⟩,q⟩
theorem tQ {f:ah->ah->Sem ah}{g:Int->Int->Bool}
  (rule:∀ (i j:Int) (t u:Tok) (s:ar) (Q:ah->ar->Prop) (E:ah->ar->Prop),Q (.bool (g i j)) s->aI (aF X.prog X.w) X.A (f (.int i t) (.int j u)) Q E s) :
  cE X f (j4 fun i j=>.bl (g i j)):=by
 intro pins s σ H x y v u Q I rx ry h
 revert h
 refine fun zqq=>?_;obtain⟨i,j,zq2,zq3,q⟩:=zqq
 subst zq2
 subst zq3
 revert rx
 refine fun zqq=>?_;obtain⟨t,zq1⟩:=zqq
 subst zq1
 revert ry
 refine fun zqq=>?_;obtain⟨t',zq1⟩:=zqq
 subst zq1
 exact rule i j t t' s _ _ ⟨.bl (g i j),H,I,rfl,q⟩
def Gm (i j:Int):Prop:=0≤j∧j≤1000000∧i.natAbs<2 ^ 64
def q_ (i j:Int):Prop:=(-(2 ^ 64)<i∧i<2 ^ 64)∨(-(2 ^ 64)<j∧j<2 ^ 64)
theorem q_.ok {i j:Int}(h:q_ i j):IntMulOk i j:=by
 rcases h with ⟨h1,h2⟩ | ⟨h1,h2⟩
 ·exact .of_left (intBits_le_64 h1 h2)
 ·exact .of_right (intBits_le_64 h1 h2)
theorem DY:cE X (i_ .Add) (j4 fun i j=>.int (i+j)):=DX fun _ _ _ _ _ _ _ q=>add_int q
theorem NG:cE X (i_ .Sub) (j4 fun i j=>.int (i - j)):=DX fun _ _ _ _ _ _ _ q=>sub_int q
theorem DZ:cE X (i_ .Mod) (rI (fun _ j=>j≠0) fun i j=>.int (i.fmod j)):=tS fun _ _ _ _ _ _ _ hc q=>mod_int' hc q
theorem NF:cE X (i_ .Pow) (rI Gm fun i j=>.int (i ^ j.toNat)):=tS fun _ _ _ _ _ _ _ hc q=>pow_int_small hc.1 hc.2.1 hc.2.2 q
theorem R3 {f:ah->Sem ah}{g:Int->Int}
  (rule:∀ (i:Int) (t:Tok) (s:ar) (Q:ah->ar->Prop) (E:ah->ar->Prop),Q (.int (g i) s.toks) {s with toks:=s.toks+1}->aI (aF X.prog X.w) X.A (f (.int i t)) Q E s) :
  wC X f (rU fun i=>.int (g i)):=by
 intro pins s σ H x v Q I rx h
 revert h
 refine fun zqq=>?_;obtain⟨i,zq1,q⟩:=zqq
 subst zq1
 revert rx
 refine fun zqq=>?_;obtain⟨t,zq1⟩:=zqq
 subst zq1
 exact rule i t s _ _ ⟨.int (g i),H,I.tok _,⟨_,rfl⟩,q⟩
theorem R4:wC X (unaryOp .USub) (rU fun i=>.int (-i)):=R3 fun _ _ _ _ _ q=>neg_int q
end
section
variable {X:Cx}{a b c:Expr}{ta tb tc:TE}{pos:Pos}
theorem xm {pins:List (af×Obj)}{σ:St}{H:Hp}{s:ar}{Q:VK}{k k':Bool}(I:Inv X pins σ H s)(q:Q (.bl k) H)(e:k=k'):EP X pins σ Q (.bool k') s:=by
 subst e
 exact⟨.bl k,H,I,rfl,q⟩
theorem NA:cE X (fC .Lt) (j4 fun i j=>.bl (decide (i<j))):=tQ fun _ _ _ _ _ _ _ q=>lt_int q
theorem Nz:cE X (fC .LtE) (j4 fun i j=>.bl (decide (i≤j))):=tQ fun _ _ _ _ _ _ _ q=>le_int q
theorem Nt:cE X (fC .Gt) (j4 fun i j=>.bl (decide (j<i))):=tQ fun _ _ _ _ _ _ _ q=>gt_int q
theorem Nr:cE X (fC .GtE) (j4 fun i j=>.bl (decide (j≤i))):=tQ fun _ _ _ _ _ _ _ q=>ge_int q
theorem Nw:cE X (fC .In) (fun x y H Q=>∃ i j,x=.str i∧y=.str j∧Q (.bl (!(iy j i 0 j.length 1).isEmpty)) H):=by
 intro pins s σ H x y v u Q I rx ry h
 revert h
 refine fun zqq=>?_;obtain⟨i,j,zq2,zq3,q⟩:=zqq
 subst zq2
 subst zq3
 revert rx
 refine fun zqq=>?_;obtain⟨t,zq1⟩:=zqq
 subst zq1
 revert ry
 refine fun zqq=>?_;obtain⟨t',zq1⟩:=zqq
 subst zq1
 exact in_str (xm I q rfl)
theorem cE.or {f:ah->ah->Sem ah}{r r':R2}(h:cE X f r)(h':cE X f r'):cE X f (fun x y H Q=>r x y H Q∨r' x y H Q):=by
 intro pins s σ H x y v u Q I rx ry q
 rcases q with q | q
 ·exact h pins s σ H x y v u Q I rx ry q
 ·exact h' pins s σ H x y v u Q I rx ry q
theorem tM (b:Expr){op:gh}(h:op≠.In:=by decide)(h2:op≠.NotIn:=by decide):jP op b=false:=by
 have e1:(op==CmpOp.In)=false:=by cases op <;> first | rfl | exact absurd rfl h
 have e2:(op==CmpOp.NotIn)=false:=by cases op <;> first | rfl | exact absurd rfl h2
 cases b <;> simp[jP,e1,e2]
theorem yf {op:gh}{r:R2}(ho:cE X (fC op) r)(ha:PE X a ta)(hb:PE X b tb)(hm:jP op b=false):PE X (.Compare a [op] [b] pos) (oB r ta tb):=by
 intro pins s σ H Q I h
 exact wpAny_Compare1 (wO ha hb I h fun v u s2 x y H2 I2 rx ry q=>ho pins s2 σ H2 x y v u Q I2 rx ry q) hm
def Rw (t:TE):TT:=fun σ H Q=>t σ H fun x H'=>∃ k,x=.bl k∧Q k H'
theorem yp {op:gh}{r:R2}(ho:cE X (fC op) r)(ha:PE X a ta)(hb:PE X b tb)(hm:jP op b=false):PT X (.Compare a [op] [b] pos) (Rw (oB r ta tb)):=by
 intro pins s σ H Q I h
 refine So (aP (ha pins s σ H _ I h) fun v s1 ⟨x,H1,I1,r1,q1⟩=>aP (hb pins s1 σ H1 _ I1 q1) fun u s2 ⟨y,H2,I2,r2,q2⟩=>
  aP (ho pins s2 σ H2 x y v u _ I2 r1 r2 q2) fun c s3 ⟨z,H3,I3,r3,k,e,q3⟩=>?_) hm
 subst e
 cases r3
 exact mX ⟨H3,I3,q3⟩
def QY (r r':R2)(ta tb tc:TE):TE:=fun σ H Q=>ta σ H fun x H1=>tb σ H1 fun y H2=>r x y H2 fun z H3=>∃ k,z=.bl k ∧
 (if k=true then tc σ H3 fun w' H4=>r' y w' H4 Q else Q (.bl false) H3)
theorem NP {op op':gh}{r r':R2}(ho:cE X (fC op) r)(ho':cE X (fC op') r')(ha:PE X a ta)(hb:PE X b tb)(hc:PE X c tc)
  (hm:lastMarks [op,op'] [b,c]=false:=by with_unfolding_all rfl):PE X (.Compare a [op,op'] [b,c] pos) (QY r r' ta tb tc):=by
 intro pins s σ H Q I h
 refine Compare_chain (aP (ha pins s σ H _ I h) fun v s1 ⟨x,H1,I1,r1,q1⟩=>chain_link (aP (hb pins s1 σ H1 _ I1 q1) fun u s2 ⟨y,H2,I2,r2,q2⟩=>
  aP (ho pins s2 σ H2 x y v u _ I2 r1 r2 q2) fun d s3 ⟨z,H3,I3,r3,k,e,q3⟩=>?_)) hm
 subst e
 cases r3
 refine mX ?_
 cases k with
 | false=>exact ite_ff ⟨.bl false,H3,I3,rfl,q3⟩
 | true=>exact ite_tt (chain_last (aP (hc pins s3 σ H3 _ I3 q3) fun w' s4 ⟨z',H4,I4,r4,q4⟩=>ho' pins s4 σ H4 y z' u w' Q I4 r2 r4 q4))
theorem tE:(sizeLine:Nat)<2 ^ 63:=by rw[E6];decide
theorem Nn:cE X (i_ .Add) (fun x y H Q=>∃ i j,x=.str i∧y=.str j∧i.length+j.length≤sizeLine∧Q (.str (i++j)) H):=by
 intro pins s σ H x y v u Q I rx ry h
 revert h
 refine fun zqq=>?_;obtain⟨i,j,zq2,zq3,hz,q⟩:=zqq
 subst zq2
 subst zq3
 revert rx
 refine fun zqq=>?_;obtain⟨t,zq1⟩:=zqq
 subst zq1
 revert ry
 refine fun zqq=>?_;obtain⟨t',zq1⟩:=zqq
 subst zq1
 exact add_str (fun t' tk=>⟨.str (i++j),H,I.tok _,⟨_,rfl⟩,q⟩) hz
theorem vals1 {x:V}{us:List ah}(r:aV [x] us):∃ u,us=[u]∧RelV x u:=by
 cases r with
 | cons r1 r2=>cases r2;exact⟨_,rfl,r1⟩
theorem vals2 {x y:V}{us:List ah}(r:aV [x,y] us):∃ u w',us=[u,w']∧RelV x u∧RelV y w':=by
 cases r with
 | cons r1 r2=>
  cases r2 with
  | cons r3 r4=>cases r4;exact⟨_,_,rfl,r1,r3⟩
theorem IW (hc:X.calm=true):eY X (.builtin "min") (fun xs H Q=>∃ i j,xs=[.int i,.int j]∧Q (.int (if j<i then j else i)) H):=by
 intro pins s σ H xs us Q I r h
 revert h
 refine fun zqq=>?_;obtain⟨i,j,zq2,q⟩:=zqq
 subst zq2
 obtain⟨u,w',rfl,⟨t,rfl⟩,⟨t',rfl⟩⟩:=vals2 r
 refine min_two_ints (I.ok.hd hc) fun h' tk k=>⟨_,H,I.kept k,?_,q⟩
 by_cases hj:j<i
 ·rw[if_pos hj,if_pos hj];exact⟨_,rfl⟩
 ·rw[if_neg hj,if_neg hj];exact⟨_,rfl⟩
theorem IM:eY X (.type "int") (fun xs H Q=>(∃ i,xs=[.int i]∧Q (.int i) H)∨∃ k,xs=[.bl k]∧Q (.int (if k then 1 else 0)) H):=by
 intro pins s σ H xs us Q I r h
 rcases h with ⟨i,rfl,q⟩ | ⟨k,rfl,q⟩
 ·obtain⟨u,zq1,t,zq3⟩:=vals1 r
  subst zq1
  subst zq3
  exact call_int_int ⟨.int i,H,I,⟨_,rfl⟩,q⟩
 ·obtain⟨u,zq1,r1⟩:=vals1 r
  subst zq1
  cases r1
  exact call_int_bool ⟨.int (if k then 1 else 0),H,I.tok _,⟨_,rfl⟩,q⟩
theorem IZ:eY X (.type "str") (fun xs H Q=>∃ i,xs=[.int i]∧i.natAbs.log2<1920∧Q (.str (jx i)) H):=by
 intro pins s σ H xs us Q I r h
 revert h
 refine fun zqq=>?_;obtain⟨i,zq1,hz,q⟩:=zqq
 subst zq1
 obtain⟨u,zq1,t,zq3⟩:=vals1 r
 subst zq1
 subst zq3
 exact PySem.P.str_of_int hz ⟨.str _,H,I.tok _,⟨_,rfl⟩,q⟩
end
end L2
namespace L2
structure l4 (h:az)(x dx C:af)(mA:Str->Option ah):Prop where
 obj:h.get? x=some (l9 C dx)
 ns:h.Ns1 dx mA
 ne:dx≠x
theorem Dr {h:az}{dx:af}{mA:Str->Option ah}(n:h.Ns1 dx mA):∃ od,h.get? dx=some od∧∀ name,wj name od=some (mA name):=by
 obtain⟨o,es,ep,ho,hd,hk,_,hm⟩:=id n
 refine⟨o,ho,fun name=>?_⟩
 have e:=hm name
 unfold nsFind findBy at e
 rw[← F7] at e
 unfold wj
 rw[hd]
 dsimp only
 split
 ·rename_i y q
  rw[q] at e
  exact congrArg some e
 ·rename_i q
  rw[q] at e
  have a:es.toList.any (·.refKey)=false:=by
   rw[Hc]
   intro y hy
   obtain⟨z,t,hkey⟩:=hk y (Array.mem_toList_iff.mp hy)
   simp[DictEntry.refKey,hkey]
  have a':¬ es.toList.any (·.refKey)=true:=by rw[a];exact dH
  rw[if_neg a']
  exact congrArg some e
theorem l4.look {h:az}{x dx C:af}{mA:Str->Option ah}(I:l4 h x dx C mA):∃ od,jK h x (l9 C dx) C (some od)∧∀ name,wj name od=some (mA name):=
 let ⟨od,ho,hl⟩:=Dr I.ns
 ⟨od,⟨I.obj,rfl,rfl,ho⟩,hl⟩
section
variable {prog:aQ}{w:aM}{A:bw}{E:ah->ar->Prop}{s:ar}{K:ao}{x dx C f:af}{mA:Str->Option ah}{name:Str}{v:ah}
theorem Ks {expr:Bool}{Q:ah->ar->Prop}(X:K.In s.heap)(I:l4 s.heap x dx C mA)(hg:nM K C name=true)(hh:l8 K C=true)
  (ha:cK K (.ref C) name=some none) (hv:mA name=some v) (hv':Bq v=true) (h:Q v {s with toks:=s.toks+1}) :
  aI (aF prog w) A (sW (.ref x) name expr) Q E s:=by
 obtain⟨od,J,hl⟩:=I.look
 exact PySem.W.get_value X J (Bv hg).1 (HG hh ha rfl (by rw[hl,hv])) hv' h
theorem Kt {pl:Sem Bool}{Q:ah×List ah->ar->Prop}(X:K.In s.heap)(I:l4 s.heap x dx C mA)(hg:nM K C name=true)
  (hf:cK K (.ref C) name=some (some (.ref f))) (ht:nK K (.ref f)=true) (hv:mA name=none) (h:Q (.ref f,[.ref x]) s) :
  aI (aF prog w) A (jk (.ref x) name pl) Q E s:=by
 obtain⟨od,J,hl⟩:=I.look
 exact PySem.W.method_fn X J (Bv hg).1 (Bv hg).2 hf (beq_iff_eq.mp ht) (by show (wj name od).map (·.isSome)=some false;rw[hl,hv];rfl) h
theorem P_ {ns:List Str}{Q:Unit->ar->Prop}(X:K.In s.heap)(I:l4 s.heap x dx C mA)
  (hs:cK K (.ref C) "__setattr__"=some (some (.builtin "object.__setattr__"))) (hp:sf K C=true) (ht:Bx K C name=some none) (hh:l8 K C=true)
  (hw:BA mA ns) (hsz:ns.length≤sizeLine)
  (h:∀ h',l4 h' x dx C (fun y=>if y=name then some v else mA y)->lU dx s.heap h'->Q () {s with heap:=h',toks:=s.toks+2}) :
  aI (aF prog w) A (zw (.ref x) name v) Q E s:=by
 obtain⟨od,J,hl⟩:=I.look
 refine HK X J hs (PySem.W.osa_open (s:={s with toks:=s.toks+1}) (r:=none) X J hp ht fun b=>?_)
 obtain⟨cd,hc,hd'⟩:=sd hh
 have hx:s.heap.get? x=some ⟨.ref C,some dx,.plain,#[]⟩:=I.obj
 refine aU (bU (aU (aU (FY hx (aU (pJ (s:={s with toks:=s.toks+1}) (Bs X hc) ?_))))))
 rw[hd']
 refine bU (a:=some dx) (aU (bU (aU ?_)))
 refine wpAny_nsSet1 (s:={s with toks:=s.toks+1}) I.ns fun h' hn2 hs2=>?_
 obtain⟨oD,esD,epD,hoD,hdD,hcD⟩:=hn2.count (PySem.Within.cons name v hw)
 refine aU (wpAny_lookBehind hoD (by rw[hdD];exact pastItsLine_dict (dn hcD (by rw[dB];omega))) ?_)
 exact bU (h _ ⟨(hs2.2 _ (cn I.ne)).trans I.obj,hn2,I.ne⟩ hs2)
theorem LY {R:nO->ar->Prop}{vs:List ah}{kw:List (Str×ah)}(X:K.In s.heap)(hm:wm K C=true)
  (hi:cK K (.ref C) "__init__"=some (some (.ref f))) (hf:Bz K (.ref f)=some (.type "function"))
  (h:gm (aF prog w) (A.under (.builtin "type.__call__" ⟨.ref C::vs,kw⟩)) (.call (.ref f) ⟨.ref (s.heap.objs.size+1)::vs,kw⟩) (PySem.W.InitBack (s.heap.objs.size+1) R)
   {s with heap:=(s.heap.push kP).push (l9 C s.heap.objs.size)}) :
  gm (aF prog w) A (.call (.ref C) ⟨vs,kw⟩) R s:=by
 obtain⟨hh,g,d,t,os⟩:=s
 exact PySem.W.make_core (PySem.W.makes_of X hm) (wk X hi) (fun self=>PySem.W.bind_fn X self hf) (.inl rfl) h
end
def fE (f:Str)(v:V):List (Str×V)->List (Str×V)
 | []=>[(f,v)]
 | (g,x)::r=>if g=f then (g,v)::r else (g,x)::fE f v r
theorem Ds (f g:Str)(v:V):∀ fs:List (Str×V),(fE f v fs).lookup g=if g=f then some v else fs.lookup g
 | []=>by
  show lZ g [(f,v)]=_
  by_cases h:g=f
  ·have hb:(g==f)=true:=beq_iff_eq.mpr h
   simp only[lZ,hb,if_pos h]
  ·have hb:(g==f)=false:=beq_eq_false_iff_ne.mpr h
   simp only[lZ,hb,if_neg h]
 | (k,x)::r=>by
  have ih:=Ds f g v r
  rw[show fE f v ((k,x)::r)=(if k=f then (k,v)::r else (k,x)::fE f v r) from rfl]
  by_cases hk:k=f
  ·rw[if_pos hk]
   by_cases h:g=k
   ·have hb:(g==k)=true:=beq_iff_eq.mpr h
    simp only[lZ,hb,if_pos (h.trans hk)]
   ·have hb:(g==k)=false:=beq_eq_false_iff_ne.mpr h
    simp only[lZ,hb,if_neg (fun e:g=f=>h (e.trans hk.symm))]
  ·rw[if_neg hk]
   by_cases h:g=k
   ·have hb:(g==k)=true:=beq_iff_eq.mpr h
    simp only[lZ,hb,if_neg (fun e:g=f=>hk (h.symm.trans e))]
   ·have hb:(g==k)=false:=beq_eq_false_iff_ne.mpr h
    simp only[lZ,hb]
    exact ih
theorem xP (f:Str)(v:V):∀ fs:List (Str×V),f∈(fE f v fs).map (·.1)∧∀ g,g∈fs.map (·.1)->g∈(fE f v fs).map (·.1)
 | []=>⟨by simp[fE],fun g h=>by simp at h⟩
 | (k,x)::r=>by
  obtain⟨i1,i2⟩:=xP f v r
  rw[show fE f v ((k,x)::r)=(if k=f then (k,v)::r else (k,x)::fE f v r) from rfl]
  by_cases hk:k=f
  ·rw[if_pos hk]
   subst hk
   exact⟨by simp,fun g h=>by simpa using h⟩
  ·rw[if_neg hk]
   refine⟨?_,fun g h=>?_⟩
   ·rw[bV]
    exact bP _ i1
   ·rw[bV] at h ⊢
    rcases List.mem_cons.mp h with e | e
    ·exact List.mem_cons.mpr (.inl e)
    ·exact bP _ (i2 g e)
theorem Dm (f:Str)(v:V):∀ fs:List (Str×V),(fE f v fs).length≤fs.length+1
 | []=>by simp[fE]
 | (k,x)::r=>by
  have ih:=Dm f v r
  rw[show fE f v ((k,x)::r)=(if k=f then (k,v)::r else (k,x)::fE f v r) from rfl]
  by_cases hk:k=f
  ·rw[if_pos hk,dB,dB];omega
  ·rw[if_neg hk,dB,dB];omega
theorem ek.some_of {v:V}{o:Option ah}(r:ek (some v) o):∃ u,o=some u∧RelV v u:=by
 cases o with
 | none=>exact (show False from r).elim
 | some u=>exact⟨u,rfl,r⟩
theorem ek.none_of {o:Option ah}(r:ek none o):o=none:=by
 cases o with
 | none=>rfl
 | some u=>exact (show False from r).elim
theorem CV {v:V}{u:ah}(r:RelV v u):Bq u=true:=by
 cases v with
 | non=>cases (show u=Value.none from r);rfl
 | bl b=>cases (show u=Value.bool b from r);rfl
 | int i=>obtain⟨t,e⟩:=(show ∃ t,u=Value.int i t from r);cases e;rfl
 | str x=>obtain⟨t,e⟩:=(show ∃ t,u=Value.str x t from r);cases e;rfl
 | byt b=>obtain⟨t,e⟩:=(show ∃ t,u=Value.bytes b t from r);cases e;rfl
 | flt b=>obtain⟨t,e⟩:=(show ∃ t,u=Value.float b t from r);cases e;rfl
 | ref a=>cases (show u=Value.ref a from r);rfl
 | ty n=>cases (show u=Value.type n from r);rfl
section
variable {P:aQ}{w:aM}{H H':Hp}{h h':az}{a C dx:af}{fs fs':List (Str×V)}
theorem xI (hok:cI P w H h)(e:H a=some (.ins C dx fs)):∃ mA,l4 h a dx C mA∧(∀ f,ek (fs.lookup f) (mA f))∧BA mA (fs.map (·.1))∧fs.length≤1000∧H dx=some (.own a):=by
 obtain⟨d,z,ne,ob,mA,n,r,q⟩:=(show cP P w H h a (.ins C dx fs) from hok a _ e)
 exact⟨mA,⟨ob,n,ne⟩,r,q,z,d⟩
end
structure gg (K:ao)(C:af):Prop where
 pg:nM K C sg=true
 hd:l8 K C=true
 po:sf K C=true
 sa:cK K (.ref C) "__setattr__"=some (some (.builtin "object.__setattr__"))
theorem gg.get {K:ao}{C:af}(c:gg K C)(f:Str):nM K C f=true:=c.pg
def jH (K:ao)(C:af)(f:Str):Prop:=cK K (.ref C) f=some none
theorem jH.taker {K:ao}{C:af}{f:Str}(n:jH K C f):Bx K C f=some none:=by
 unfold Bx
 rw[show cK K (.ref C) f=some none from n]
 rfl
structure S4 (K:ao)(C:af)(f:Str)(v:V)(u:ah):Prop where
 at_:cK K (.ref C) f=some (some u)
 rel:RelV v u
 get:nN K u "__get__"=some none
 cp:PySem.W.copiedNames.contains f=false
structure pq (K:ao)(C:af)(m:Str)(f:af):Prop where
 at_:cK K (.ref C) m=some (some (.ref f))
 fn:nK K (.ref f)=true
 kp:gK K (.ref f)=true
section
variable {X:Cx}{pins:List (af×Obj)}{σ:St}{H:Hp}{s:ar}{a C dx:af}{fs:List (Str×V)}{f:Str}{v:V}{A:bw}{E:ah->ar->Prop}
theorem Ku {b:Bool}{Q:ah->ar->Prop}(I:Inv X pins σ H s)(e:H a=some (.ins C dx fs))(c:gg X.K C)(n:jH X.K C f)(l:fs.lookup f=some v)
  (h:∀ u s',Inv X pins σ H s'->RelV v u->Q u s'):aI (aF X.prog X.w) A (sW (.ref a) f b) Q E s:=by
 obtain⟨mA,O,r,_,_,_⟩:=xI I.hok e
 obtain⟨u,hu,ru⟩:=ek.some_of (v:=v) (o:=mA f) (by rw[← l];exact r f)
 exact Ks I.kIn O (c.get f) c.hd n hu (CV ru) (h u _ (I.tok _) ru)
theorem CS {m:Str}{g:af}{pl:Sem Bool}{Q:ah×List ah->ar->Prop}(I:Inv X pins σ H s)(e:H a=some (.ins C dx fs))(c:gg X.K C)(k:pq X.K C m g)(l:fs.lookup m=none)
  (h:Q (.ref g,[.ref a]) s):aI (aF X.prog X.w) A (jk (.ref a) m pl) Q E s:=by
 obtain⟨mA,O,r,_,_,_⟩:=xI I.hok e
 have hn:mA m=none:=ek.none_of (by rw[← l];exact r m)
 exact Kt I.kIn O (c.get m) k.at_ k.fn hn h
theorem Qb {y:V}{u:ah}{Q:Unit->ar->Prop}(I:Inv X pins σ H s)(e:H a=some (.ins C dx fs))(c:gg X.K C)(n:jH X.K C f)(hl:fs.length<1000)(ry:RelV y u)
  (h:∀ s',Inv X pins σ (upd H a (.ins C dx (fE f y fs))) s'->Q () s'):aI (aF X.prog X.w) A (zw (.ref a) f u) Q E s:=by
 obtain⟨mA,O,r,wi,_,ho⟩:=xI I.hok e
 have hz:(fs.map (·.1)).length≤sizeLine:=by rw[cm,E6];omega
 refine P_ I.kIn O c.sa c.po n.taker c.hd wi hz fun h' O' sb=>h _ ?_
 have hd:∃ o,h'.get? dx=some o:=let ⟨o,_,_,e',_⟩:=O'.ns;⟨o,e'⟩
 refine I.write (x:=a) (e:=dx) (by rw[e];exact True.intro) (.inr ho) (fun b q hb z=>(sb.2 b hb).trans z) hd ?_
 refine⟨by rw[ba O.ne];exact ho,?_,O.ne,O'.obj,_,O'.ns,fun g=>?_,fun g hg=>?_⟩
 ·have:=Dm f y fs;omega
 ·show ek ((fE f y fs).lookup g) (if g=f then some u else mA g)
  rw[Ds]
  by_cases q:g=f
  ·rw[if_pos q,if_pos q];exact ry
  ·rw[if_neg q,if_neg q];exact r g
 ·by_cases q:g=f
  ·rw[q];exact (xP f y fs).1
  ·refine (xP f y fs).2 g (wi g fun z=>hg ?_)
   show (if g=f then some u else mA g)=none
   rw[if_neg q];exact z
theorem Inv.made (I:Inv X pins σ H s):Inv X pins σ (upd (upd H s.heap.objs.size (.own (s.heap.objs.size+1))) (s.heap.objs.size+1) (.ins C s.heap.objs.size []))
  {s with heap:=(s.heap.push kP).push (l9 C s.heap.objs.size)}:=by
 have e1:(s.heap.push kP).get? s.heap.objs.size=some kP:=fA s.heap rfl
 have e2:((s.heap.push kP).push (l9 C s.heap.objs.size)).get? (s.heap.objs.size+1)=some (l9 C s.heap.objs.size):=by
  have:=fA (s.heap.push kP) (o:=l9 C s.heap.objs.size) rfl
  rwa [A6] at this
 have e3:(s.heap.push kP).Ns s.heap.objs.size (fun _=>none):=⟨kP,#[],_,e1,rfl,(fun e he=>absurd he (by simp)),fun _=>rfl⟩
 have I1:=I.laid (a:=s.heap.objs.size) (o:=.own (s.heap.objs.size+1)) (h':=s.heap.push kP) (t':=s.toks) (fun b u q=>cL _ q) (cj _) ⟨_,e1⟩
 refine I1.laid (a:=s.heap.objs.size+1) (o:=.ins C s.heap.objs.size []) (t':=s.toks) (fun b u q=>cL _ q) (Nat.le_of_eq (A6 _ _)) ?_
 have ne:s.heap.objs.size≠s.heap.objs.size+1:=cJ (vY _)
 refine⟨by rw[ba ne,cD],kL _,ne,e2,fun _=>none,(G7 e3).at fun o q=>cL _ q,fun _=>True.intro,fun y hy=>absurd rfl hy⟩
theorem BS {prog:aQ}{w:aM}{env:Env}{e:Expr}{f:Str}{pos:Pos}{s:ar}{Q:ah->ar->Prop}(hb:dR e f env (aB e env)=aB e env)
  (h:aI (aF prog w) A (aB e env) (fun o s₁=>aI (aF prog w) A (sW o f true) Q E s₁) E s):aI (aF prog w) A (aB (.Attribute e f pos) env) Q E s:=
 Attribute_any_ h (by rw[arm_eval_Attribute,hb])
end
def Q4 (K:ao)(ta:TE)(f:Str):TE:=fun σ H Q=>ta σ H fun x H1=>∃ a C dx fs v,x=.ref a∧H1 a=some (.ins C dx fs)∧gg K C∧jH K C f∧fs.lookup f=some v∧Q v H1
def O7 (K:ao)(ta tv:TE)(f:Str):TS:=fun D σ H=>tv σ H fun y H1=>ta σ H1 fun x H2=>∃ a C dx fs,x=.ref a∧H2 a=some (.ins C dx fs)∧gg K C∧jH K C f∧fs.length<1000 ∧
 D.nx σ (upd H2 a (.ins C dx (fE f y fs)))
section
variable {X:Cx}{o e value:Expr}{f:Str}{pos pos' tpos:Pos}{ta tv:TE}
theorem yg (he:PE X e ta)(hb:dR e f X.env (aB e X.env)=aB e X.env):PE X (.Attribute e f pos) (Q4 X.K ta f):=by
 intro pins s σ H Q I h
 refine BS hb (aP (he pins s σ H _ I h) fun u s1 zpat=>?_)
 obtain⟨x,H1,I1,rx,a,C,dx,fs,v,ex,ea,c,n,l,q⟩:=zpat
 subst ex
 obtain rfl:u=Value.ref a:=rx
 exact Ku I1 ea c n l fun u' s2 I2 ru=>⟨v,H1,I2,ru,q⟩
theorem Ol (ha:PE X o ta)(hv:PE X value tv)(hs:dF value (some (.Attribute o f pos')) pos.line X.env=aN false):PS X (.Assign [.Attribute o f pos'] value pos) (O7 X.K ta tv f):=by
 intro pins s σ H D I h
 refine Oc (aP (hv pins s σ H _ I h) fun u s1 ⟨y,H1,I1,ry,q⟩=>aP (ha pins s1 σ H1 _ I1 q) fun ov s2 ⟨x,H2,I2,rx,a,C,dx,fs,ex,ea,c,n,l,q2⟩=>?_) hs
 subst ex
 obtain rfl:ov=Value.ref a:=rx
 exact Qb I2 ea c n l ry fun s3 I3=>⟨σ,_,I3,q2⟩
end
section
variable {X:Cx}{pins:List (af×Obj)}{σ:St}{H:Hp}{s:ar}{A:bw}{E Q:ah->ar->Prop}{c:ah}{b:Bool}
inductive iH (K:ao)(H:Hp):V->ah->Prop where
 | non:iH K H .non (.type "NoneType")
 | bl (x:Bool):iH K H (.bl x) (.type "bool")
 | int (i:Int):iH K H (.int i) (.type "int")
 | str (x:Str):iH K H (.str x) (.type "str")
 | flt (x:UInt64):iH K H (.flt x) (.type "float")
 | lst {a:af} {xs:List V} (e:H a=some (.lst xs)):iH K H (.ref a) (.type "list")
 | frz {a:af} {o:Obj} {xs:List V} (e:H a=some (.frz o (.lst xs))):iH K H (.ref a) (.type "list")
 | tup {a:af} {xs:List V} (e:H a=some (.tup xs)):iH K H (.ref a) (.type "tuple")
 | dK {a:af} {kvs:List (bt×V)} (e:H a=some (.dK kvs)):iH K H (.ref a) (.type "dict")
 | dT {a:af} {kvs:List (List bt×V)} (e:H a=some (.dT kvs)):iH K H (.ref a) (.type "dict")
 | ins {a C dx:af} {fs:List (Str×V)} (e:H a=some (.ins C dx fs)) (cl:gg K C) (ha:cK K (.ref C) "__class__"=some (some (.builtin "object.__class__")))
  (hn:nN K (.builtin "object.__class__") "__get__"=some (some (.builtin "getset_descriptor.__get__"))) (htk:By K (.builtin "object.__class__")=some true)
  (hm:pK K C (.type "object")=some true):iH K H (.ref a) (.ref C)
end
end L2
namespace L2
structure bC (k:Nat)(A:bw):Prop where
 hd:A.handled=none
 dp:A.depth+3*k+5<recursionLimit
 un:A.units+16*k+200<cLine
 gd:A.guards=some []
theorem bC.mono {j k:Nat}{A:bw}(r:bC k A)(h:j≤k):bC j A:=⟨r.hd,by have:=r.dp;omega,by have:=r.un;omega,r.gd⟩
theorem bC.deeper {k:Nat}{A:bw}(r:bC (k+1) A)(env:Env):bC k (A.deeper env):=
 ⟨r.hd,by have:=r.dp;show A.depth+1+3*k+5<_;omega,by have:=r.un;show A.units+3+16*k+200<_;omega,r.gd⟩
theorem bC.in1 {k:Nat}{A:bw}(r:bC (k+1) A):bC k A.in1:=
 ⟨r.hd,by have:=r.dp;show A.depth+3*k+5<_;omega,by have:=r.un;show A.units+1+16*k+200<_;omega,r.gd⟩
theorem LW {A:bw}{C:af}{us:List ah}{kw:List (Str×ah)}:(A.under (.builtin "type.__call__" ⟨.ref C::us,kw⟩)).depth=A.depth+1:=by
 first | rfl | simp[uZ,Code.weight,Code.isCreation,Code.isGuard,Code.isCaller,Code.frames,AS,guardIds]
theorem LZ {A:bw}{C:af}{us:List ah}{kw:List (Str×ah)}:(A.under (.builtin "type.__call__" ⟨.ref C::us,kw⟩)).units=A.units+1:=by
 first | rfl | simp[uZ,Code.cUnits,Code.frames,AS]
theorem LX {A:bw}{C:af}{us:List ah}{kw:List (Str×ah)}(h:A.guards=some []):(A.under (.builtin "type.__call__" ⟨.ref C::us,kw⟩)).guards=some []:=by
 simp[uZ,Code.guards,Code.isGuard,guardIds,pushGuards,h]
theorem bC.make {k:Nat}{A:bw}(r:bC (k+1) A)(C:af)(us:List ah)(kw:List (Str×ah)):bC k (A.under (.builtin "type.__call__" ⟨.ref C::us,kw⟩)):=
 ⟨r.hd,by have:=r.dp;rw[LW];omega,by have:=r.un;rw[LZ];omega,LX r.gd⟩
theorem bC.depth {k:Nat}{A:bw}(r:bC k A):A.depth<recursionLimit:=by have:=r.dp;omega
theorem bC.units {k:Nat}{A:bw}(r:bC k A):A.units+64<cLine:=by have:=r.un;omega
def uG:TA:=fun _ H Q=>Q [] H
def uF (ta:TE)(tr:TA):TA:=fun σ H Q=>ta σ H fun x H1=>tr σ H1 fun xs H2=>Q (x::xs) H2
section
variable {X:Cx}{e:Expr}{es:List Expr}{te:TE}{t:TA}{pos:Pos}
theorem pa_nil:PA X [] uG:=fun _ _ _ _ H Q I h=>AQ ⟨[],H,I,.nil,h⟩
theorem pa_cons (ha:PE X e te)(hr:PA X es t)(hs:ax (e::es) X.env=(false,aB e X.env)::ax es X.env:=by rfl):PA X (e::es) (uF te t):=by
 intro pos pins s σ H Q I h
 rw[hs]
 show aI _ _ (spliced ((false,aB e X.env)::a0 pos (ax es X.env))) _ _ s
 refine AO (aP (ha pins s σ H _ I h) fun u s1 zpat=>?_)
 obtain⟨x,H1,I1,r1,q1⟩:=zpat
 exact aP (hr pos pins s1 σ H1 _ I1 q1) fun us s2 ⟨xs,H2,I2,r2,q2⟩=>⟨x::xs,H2,I2,.cons r1 r2,q2⟩
def Ry (t:TA):TE:=fun σ H Q=>t σ H fun xs H1=>xs.length≤sizeLine∧∀ p,H1 p=none->Q (.ref p) (upd H1 p (.tup xs))
def Ra (t:TA):TE:=fun σ H Q=>t σ H fun xs H1=>xs.length≤sizeLine∧∀ p,H1 p=none->Q (.ref p) (upd H1 p (.lst xs))
theorem tZ {x1}(h:PA X es t):PE X (.Tuple es x1 pos) (Ry t):=by
 intro pins s σ H Q I hq
 refine wpAny_Tuple_spliced (aP (h pos pins s σ H _ I hq) fun us s1 ⟨xs,H1,I1,r,z,q⟩=>⟨by rw[← r.length];exact z,?_⟩)
 have hf:H1 s1.heap.objs.size=none:=I1.hok.fresh (cj _)
 refine⟨.ref s1.heap.objs.size,upd H1 s1.heap.objs.size (.tup xs),I1.laid (t':=s1.toks) (fun b u e=>cL _ e) (cj _) ?_,rfl,q _ hf⟩
 exact⟨z,us,r,⟨_,fA _ rfl,rfl,_,rfl⟩⟩
theorem yl (h:PA X es t):PE X (.List es pos) (Ra t):=by
 intro pins s σ H Q I hq
 refine wpAny_List_spliced (aP (h pos pins s σ H _ I hq) fun us s1 ⟨xs,H1,I1,r,z,q⟩=>⟨by rw[← r.length];exact z,?_⟩)
 have hf:H1 s1.heap.objs.size=none:=I1.hok.fresh (cj _)
 refine⟨.ref s1.heap.objs.size,upd H1 s1.heap.objs.size (.lst xs),I1.laid (t':=s1.toks) (fun b u e=>cL _ e) (cj _) ?_,rfl,q _ hf⟩
 exact ⟨z,us,0,r,fA _ rfl⟩
end
abbrev Sp:=List V->Hp->VK->XK->Prop
abbrev fH:=List Env->Hp->ar->XK->ah->ar->Prop
structure gi (P:aQ)(w:aM)(K:ao)(mg:Str->Option ah)(base:az)(A:bw)(outer:List Env)(s:ar)(H:Hp):Prop where
 frames:A.frames=some outer
 mod:Mod K mg base
 bs:∀ b o,base.get? b=some o->s.heap.get? b=some o∧H b=none
 bsz:base.objs.size≤s.heap.objs.size
 funs:s.heap.FunFrames base outer
 frf:∀ b∈dQ outer,H b=none
 hok:cI P w H s.heap
 bare:iS s.gens
 tabs:wB P K mg base H
def CE (outer:List Env)(P:aQ)(w:aM)(H:Hp)(s:ar)(Q:VK)(u:ah)(s':ar):Prop:=
 ∃ v H',s'.os=s.os∧iS s'.gens∧Un (dQ outer) [] H H' s.heap s'.heap∧cI P w H' s'.heap∧RelV v u∧Q v H'
def CR (CX:fH)(outer:List Env)(P:aQ)(w:aM)(H:Hp)(s:ar)(Q:VK)(E:XK)(r:nO)(s':ar):Prop:=
 match r with
 | .ok (.ret u)=>CE outer P w H s Q u s'
 | .ok _=>False
 | .error e=>CX outer H s E e s'
structure aW (P:aQ)(w:aM)(K:ao)(mg:Str->Option ah)(base:az)(CX:fH)(k:Nat)(f:af)(fd:aY)(ps:List Str)(sp:Sp):Prop where
 len:∀ vs H Q E,sp vs H Q E->vs.length=ps.length
 run:∀ (A:bw) (outer:List Env) (s:ar) (H:Hp) (args:Args) (us:List ah) (vs:List V) (Q:VK) (E:XK),bC k A->gi P w K mg base A outer s H->jz s fd args (ps.zip us)->aV vs us->sp vs H Q E ->
  gm (aF P w) A (.call (.ref f) args) (CR CX outer P w H s Q E) s
theorem aW.mono {P:aQ}{w:aM}{K:ao}{mg:Str->Option ah}{base:az}{CX:fH}{j k:Nat}{f:af}{fd:aY}{ps:List Str}{sp:Sp}(F:aW P w K mg base CX j f fd ps sp)(h:j≤k) :
 aW P w K mg base CX k f fd ps sp:=⟨F.len,fun A outer s H args us vs Q E hr=>F.run A outer s H args us vs Q E (hr.mono h)⟩
theorem aW.imp {P:aQ}{w:aM}{K:ao}{mg:Str->Option ah}{base:az}{CX:fH}{k:Nat}{f:af}{fd:aY}{ps:List Str}{sp sp':Sp}(F:aW P w K mg base CX k f fd ps sp)
  (h:∀ vs H Q E,sp' vs H Q E->sp vs H Q E):aW P w K mg base CX k f fd ps sp':=
 ⟨fun vs H Q E q=>F.len vs H Q E (h _ _ _ _ q),fun A outer s H args us vs Q E hr he hb hv hs=>F.run A outer s H args us vs Q E hr he hb hv (h _ _ _ _ hs)⟩
theorem gi.make {P:aQ}{w:aM}{K:ao}{mg:Str->Option ah}{base:az}{A:bw}{outer:List Env}{s:ar}{H:Hp}(e:gi P w K mg base A outer s H)(C:af)(us:List ah)(kw:List (Str×ah)) :
 gi P w K mg base (A.under (.builtin "type.__call__" ⟨.ref C::us,kw⟩)) outer s H:=⟨by first | exact e.frames | (simpa [uZ,Code.envs,AS,pushEnvs] using e.frames),e.mod,e.bs,e.bsz,e.funs,e.frf,e.hok,e.bare,e.tabs⟩
theorem gi.in1 {P:aQ}{w:aM}{K:ao}{mg:Str->Option ah}{base:az}{A:bw}{outer:List Env}{s:ar}{H:Hp}(e:gi P w K mg base A outer s H) :
 gi P w K mg base A.in1 outer s H:=⟨e.frames,e.mod,e.bs,e.bsz,e.funs,e.frf,e.hok,e.bare,e.tabs⟩
section
variable {X:Cx}{pins:List (af×Obj)}{σ:St}{H:Hp}{s s':ar}
theorem Inv.env0 (I:Inv X pins σ H s):gi X.prog X.w X.K X.mg X.base X.A X.stack s H:=
 ⟨I.ok.frames,I.ok.mod,I.bs,dn I.ok.bsz I.sz,I.stack,I.stkFree,I.hok,I.bare,fun x c p h1 h2=>let z:=I.ok.tabs x c p h1 h2;⟨I.base.tabs p z.1,z.2⟩⟩
theorem Inv.after {Q:VK}{u:ah}(I:Inv X pins σ H s)(h:CE X.stack X.prog X.w H s Q u s'):EP X pins σ Q u s':=by
 obtain⟨v,H',os,bare,un,hok,r,q⟩:=id h
 obtain⟨hh,g,d,t,os'⟩:=s'
 obtain rfl:os'=s.os:=os
 exact⟨v,H',I.call (h':=hh) (g':=g) (d':=d) (t':=t) (ch:=[]) un hok bare (fun b z=>absurd z (by simp)),r,q⟩
end
def QX (sp:Sp)(dvs:List V)(E:XK)(t:TA):TE:=fun σ H Q=>t σ H fun vs H1=>sp (vs++dvs) H1 Q E
def Rc (C:af)(m:Str)(sp:Sp)(dvs:List V)(E:XK)(ta:TE)(t:TA):TE:=fun σ H Q=>ta σ H fun x H1=>∃ a dx fs,x=.ref a∧H1 a=some (.ins C dx fs)∧fs.lookup m=none ∧
 t σ H1 fun vs H2=>sp (x::(vs++dvs)) H2 Q E
def Rb (C:af)(sp:Sp)(dvs:List V)(E:XK)(t:TA):TE:=fun σ H Q=>t σ H fun vs H1=>∀ x dx,H1 x=none->H1 dx=none->dx≠x ->
 sp (.ref x::(vs++dvs)) (upd (upd H1 dx (.own x)) x (.ins C dx [])) (fun v H2=>v=.non∧Q (.ref x) H2) E
def Binds (K:ao)(fd:aY)(ps:List Str)(ds:List ah):Prop:=
 ∀ (s:ar) (us:List ah),K.In s.heap->(us++ds).length=ps.length->jz s fd ⟨us,[]⟩ (ps.zip (us++ds))
theorem Binds.all {K:ao}{fd:aY}{ps:List Str}(h:∀ us:List ah,us.length=ps.length->bO fd ⟨us,[]⟩=aN (ps.zip us)):Binds K fd ps []:=fun s us _ hl=>by
 rw[e6] at hl ⊢
 exact .of_eq (h us hl)
def nF (CX:fH)(X:Cx)(E:XK):Prop:=∀ (pins:List (af×Obj)) (σ:St) (H:Hp) (s:ar) (e:ah) (s':ar),Inv X pins σ H s->CX X.stack H s E e s'->X.xe e s'
section
variable {X:Cx}{CX:fH}{k:Nat}{f C:af}{fd:aY}{ps:List Str}{sp:Sp}{dvs:List V}{ds:List ah}{E:XK}{x m:Str}{p pos apos:Pos}{e o:Expr}{es:List Expr}{ta:TE}{t:TA}
theorem EJ {pins:List (af×Obj)}{σ:St}{H:Hp}{s:ar}{Q:VK}{us:List ah}{vs:List V}(F:aW X.prog X.w X.K X.mg X.base CX k f fd ps sp)(hr:bC k X.A)(hb:Binds X.K fd ps ds)(hd:aV dvs ds)(hx:nF CX X E)
  (I:Inv X pins σ H s) (r:aV vs us) (h:sp (vs++dvs) H Q E):aI (aF X.prog X.w) X.A (call (.ref f) us) (EP X pins σ Q) X.xe s:=by
 have r2:aV (vs++dvs) (us++ds):=r.append hd
 have hl:(us++ds).length=ps.length:=by rw[← r2.length];exact F.len _ _ _ _ h
 refine mW (mq (F.run X.A X.stack s H ⟨us,[]⟩ (us++ds) (vs++dvs) Q E hr I.env0 (hb s us I.kIn hl) r2 h) fun r s' hq=>?_)
 cases r with
 | error e=>exact hx pins σ H s e s' I hq
 | ok fl=>
  cases fl with
  | ret u=>exact I.after hq
  | next=>exact cV hq
  | brk=>exact cV hq
  | cont=>exact cV hq
theorem qt (F:aW X.prog X.w X.K X.mg X.base CX k f fd ps sp)(hr:bC k X.A)(hg:Gl X x)(hm:X.mg x=some (.ref f))(hk:gK X.K (.ref f)=true)(hb:Binds X.K fd ps ds)(hd:aV dvs ds)(hx:nF CX X E)
  (ha:PA X (e::es) t) (hdb:(x==("__debug__":Str))=false:=by decide) (he:ax (e::es) X.env=(false,aB e X.env)::ax es X.env:=by rfl) (hpl:(a0 pos (ax es X.env)).any (·.1)=false:=by rfl) :
  PE X (.Call (.Name x p) (e::es) [] pos) (QX sp dvs E t):=by
 intro pins s σ H Q I h
 refine mV (lj I hg hm ?_ hdb)
 refine nJ (h₀:=X.base) I.ok.mod.kin hk (aP (ha pos pins s σ H _ I h) fun us s1 ⟨vs,H1,I1,r,q⟩=>⟨I1.kIn,?_⟩) he hpl
 exact EJ F hr hb hd hx I1 r q
theorem tY {pl:Sem Bool}(he:PE X o ta)(c:gg X.K C)(hm:pq X.K C m f)(F:aW X.prog X.w X.K X.mg X.base CX k f fd ps sp)(hr:bC k X.A)(hb:Binds X.K fd ps ds)(hd:aV dvs ds)(hx:nF CX X E)(ha:PA X (e::es) t)
  (hst:ax (e::es) X.env=(false,aB e X.env)::ax es X.env:=by rfl) (hpl:(a0 pos (ax es X.env)).any (·.1)=false:=by rfl)
  (ht:aB (.Call (.Attribute o m apos) (e::es) [] pos) X.env=(do
   let ov ← aB o X.env
   jv apos.atName
   let (f,first) ← jm [ov] (jk ov m pl)
   jT pos f first (a0 pos (ax (e::es) X.env)) (dS pos (dY [] X.env))):=by rfl) :
  PE X (.Call (.Attribute o m apos) (e::es) [] pos) (Rc C m sp dvs E ta t):=by
 intro pins s σ H Q I h
 refine Bt (pl:=pl) (aP (he pins s σ H _ I h) fun u s1 ⟨x,H1,I1,rx,a,dx,fs,ex,ea,l,q⟩=>?_) ht
 subst ex
 obtain rfl:u=Value.ref a:=rx
 refine CS I1 ea c hm l ?_
 refine nJ (first:=[.ref a]) (h₀:=X.base) I.ok.mod.kin hm.kp (aP (ha pos pins s1 σ H1 _ I1 q) fun us s2 ⟨vs,H2,I2,r,q2⟩=>⟨I2.kIn,?_⟩) hst hpl
 exact EJ (us:=.ref a::us) (vs:=.ref a::vs) F hr hb hd hx I2 (.cons rfl r) q2
structure Mk (K:ao)(C f:af):Prop where
 makes:wm K C=true
 init:cK K (.ref C) "__init__"=some (some (.ref f))
 fn:nK K (.ref f)=true
 kp:gK K (.ref C)=true
theorem O5 {pins:List (af×Obj)}{σ:St}{H:Hp}{s:ar}{Q:VK}{us:List ah}{vs:List V}(M:Mk X.K C f)(F:aW X.prog X.w X.K X.mg X.base CX k f fd ps sp)(hr:bC (k+1) X.A)(hb:Binds X.K fd ps ds)(hd:aV dvs ds)
  (hx:nF CX X E) (I:Inv X pins σ H s) (r:aV vs us)
  (h:∀ x dx,H x=none->H dx=none->dx≠x->sp (.ref x::(vs++dvs)) (upd (upd H dx (.own x)) x (.ins C dx [])) (fun v H2=>v=.non∧Q (.ref x) H2) E) :
  aI (aF X.prog X.w) X.A (call (.ref C) us) (EP X pins σ Q) X.xe s:=by
 have hq:=h (s.heap.objs.size+1) s.heap.objs.size (I.hok.fresh (nz _)) (I.hok.fresh (cj _)) (cJ (vY _))
 have I2:=Inv.made (C:=C) I
 have r2:aV (V.ref (s.heap.objs.size+1)::(vs++dvs)) (Value.ref (s.heap.objs.size+1)::(us++ds)):=.cons rfl (r.append hd)
 have hl:(Value.ref (s.heap.objs.size+1)::us++ds).length=ps.length:=by
  have e:=r2.length
  rw[F.len _ _ _ _ hq] at e
  exact e.symm
 refine mW (LY (f:=f) I.kIn M.makes M.init (beq_iff_eq.mp M.fn) (mq (F.run _ X.stack _ _ ⟨Value.ref (s.heap.objs.size+1)::us,[]⟩ (Value.ref (s.heap.objs.size+1)::(us++ds)) _ _ E (hr.make C us [])
  (I2.env0.make C us []) (hb _ (Value.ref (s.heap.objs.size+1)::us) I2.kIn hl) r2 hq) fun r s' hq'=>?_))
 cases r with
 | error e=>exact hx pins σ _ _ e s' I2 hq'
 | ok fl=>
  cases fl with
  | ret u=>
   obtain⟨v,H',I3,rv,ev,q3⟩:=I2.after hq'
   subst ev
   exact⟨rv,⟨V.ref (s.heap.objs.size+1),H',I3,rfl,q3⟩⟩
  | next=>exact cV hq'
  | brk=>exact cV hq'
  | cont=>exact cV hq'
theorem NU (M:Mk X.K C f)(F:aW X.prog X.w X.K X.mg X.base CX k f fd ps sp)(hr:bC (k+1) X.A)(hg:Gl X x)(hm:X.mg x=some (.ref C))(hb:Binds X.K fd ps ds)(hd:aV dvs ds)(hx:nF CX X E)
  (hdb:(x==("__debug__":Str))=false:=by decide):PE X (.Call (.Name x p) [] [] pos) (Rb C sp dvs E uG):=by
 intro pins s σ H Q I h
 refine mV (lj I hg hm ?_ hdb)
 exact PySem.W.callWith_K0 I.kIn M.kp (O5 (us:=[]) M F hr hb hd hx I .nil h)
end
section
variable {X:Cx}{CX:fH}{k:Nat}{f C:af}{fd:aY}{ps ks:List Str}{sp:Sp}{E:XK}{x m:Str}{p pos apos kpos:Pos}{e o:Expr}{es:List Expr}{kws:List df}{te ta:TE}{t tk:TA}{nm:Option Str}
structure S6 (K:ao)(fd:aY)(ps ks:List Str)(g:List ah->List ah->List ah)(gV:List V->List V->List V):Prop where
 to:∀ (s:ar) (us ws:List ah),K.In s.heap->(g us ws).length=ps.length->jz s fd ⟨us,ks.zip ws⟩ (ps.zip (g us ws))
 rel:∀ {vs:List V} {us:List ah} {zs:List V} {ws:List ah},aV vs us->aV zs ws->aV (gV vs zs) (g us ws)
variable {g:List ah->List ah->List ah}{gV:List V->List V->List V}
end
structure bF (N P:List Str)(sc:Scope):Prop where
 kind:sc.kind=.function
 co:sc.isCoroutine=false
 gen:sc.isGenerator=false
 nd:N.Nodup
 pre:N.take P.length=P
 par:∀ x∈P,sc.names.lookup x=some .local∨sc.names.lookup x=some .cell
 nofree:∀ y∈sc.names,y.2≠.free
theorem BZ {kindOf:Str->Option iZ}{x:Str}:∀ {binds:List (Str×ah)} {m:Str->Option ah},(∀ v,(x,v)∉binds)->ml kindOf binds m x=m x
 | [],_,_=>rfl
 | (n,v)::r,m,h=>by
  unfold ml
  rw[BZ fun w hw=>h w (bP _ hw)]
  split
  ·have:x≠n:=by rintro rfl;exact h v bQ
   simp[this]
  ·rfl
theorem BX {kindOf:Str->Option iZ}{x:Str}:∀ {binds:List (Str×ah)} {m:Str->Option ah},(∀ v,(x,v)∉binds)->mj kindOf binds m x=m x
 | [],_,_=>rfl
 | (n,v)::r,m,h=>by
  unfold mj
  rw[BX fun w hw=>h w (bP _ hw)]
  split
  ·rfl
  ·have:x≠n:=by rintro rfl;exact h v bQ
   simp[this]
theorem BY {kindOf:Str->Option iZ}{x:Str}{v:ah}:∀ {P:List Str} {vs:List ah} {i:Nat} {m:Str->Option ah},P.Nodup->P[i]?=some x->vs[i]?=some v->kindOf x=some .local ->
  ml kindOf (P.zip vs) m x=some v
 | [],_,_,_,_,h,_,_=>by simp at h
 | _::_,[],_,_,_,_,h,_=>by simp at h
 | p::P,w::vs,0,m,nd,h1,h2,hk=>by
  simp at h1 h2;subst h1;subst h2
  show ml kindOf ((p,w)::P.zip vs) m p=_
  unfold ml
  rw[BZ fun v hv=>(List.nodup_cons.mp nd).1 (vU hv).1,if_pos hk]
  simp
 | p::P,w::vs,i+1,m,nd,h1,h2,hk=>by
  show ml kindOf ((p,w)::P.zip vs) m x=_
  unfold ml
  exact BY (i:=i) (List.nodup_cons.mp nd).2 (by simpa using h1) (by simpa using h2) hk
theorem BW {kindOf:Str->Option iZ}{x:Str}{v:ah}:∀ {P:List Str} {vs:List ah} {i:Nat} {m:Str->Option ah},P.Nodup->P[i]?=some x->vs[i]?=some v->kindOf x≠some .local ->
  mj kindOf (P.zip vs) m x=some v
 | [],_,_,_,_,h,_,_=>by simp at h
 | _::_,[],_,_,_,_,h,_=>by simp at h
 | p::P,w::vs,0,m,nd,h1,h2,hk=>by
  simp at h1 h2;subst h1;subst h2
  show mj kindOf ((p,w)::P.zip vs) m p=_
  unfold mj
  rw[BX fun v hv=>(List.nodup_cons.mp nd).1 (vU hv).1,if_neg hk]
  simp
 | p::P,w::vs,i+1,m,nd,h1,h2,hk=>by
  show mj kindOf ((p,w)::P.zip vs) m x=_
  unfold mj
  exact BW (i:=i) (List.nodup_cons.mp nd).2 (by simpa using h1) (by simpa using h2) hk
def start (N:List Str)(vs:List V):St:=vs.map some++cO (N.length - vs.length) none
def dN (CX:fH)(P:aQ)(w:aM)(K:ao)(mg:Str->Option ah)(base:az)(N:List Str)(qual:Str)(scope:Scope)(f:af)(cd:ah)(A:bw)(outer:List Env)(s:ar)(H:Hp)(E:XK):Cx where
 prog:=P
 w:=w
 K:=K
 mg:=mg
 base:=base
 A:=A.deeper (dW qual scope s.heap.objs.size f cd)
 N:=N
 s₀:=s
 H₀:=H
 env:=dW qual scope s.heap.objs.size f cd
 outer:=outer
 stack:=dW qual scope s.heap.objs.size f cd::outer
 ex:=[]
 calm:=true
 fn:=fun _=>true
 pn:=[]
 xe:=fun e s'=>aI (aF P w) (A.deeper (dW qual scope s.heap.objs.size f cd)) (leaving (dW qual scope s.heap.objs.size f cd) e) (fun _ s''=>CX outer H s E e s'') (fun e' s''=>CX outer H s E e' s'') s'
theorem B8 {sc:Scope}{n:Nat}{x:Str}(h:sc.names.lookup x=some .cell):∃ c,(wZ n sc.names []).lookup x=some c:=by
 have q:=Bl sc.names n [] (.inl h)
 exact Option.isSome_iff_exists.mp q
theorem C2 {CX:fH}{P:aQ}{w:aM}{K:ao}{mg:Str->Option ah}{base:az}{N ps:List Str}{qual:Str}{scope:Scope}{f:af}{cd:ah}{A:bw}{outer:List Env}{s s1:ar}{H:Hp}{E:XK}{us:List ah}{vs:List V}
  (S:bF N ps scope) (hd:A.handled=none) (e0:gi P w K mg base A outer s H) (hl:vs.length=ps.length) (r:aV vs us)
  (x:InCallC s s.heap.objs.size (ml (dW qual scope s.heap.objs.size f cd).kindOf (ps.zip us) fun _=>none) (wZ (s.heap.objs.size+1) scope.names []) (mj (dW qual scope s.heap.objs.size f cd).kindOf (ps.zip us) fun _=>none) s1) :
  Inv (dN CX P w K mg base N qual scope f cd A outer s H E) [] (start N vs) H s1:=by
 have hpl:ps.length≤N.length:=by have:=congrArg rS S.pre;rw[List.length_take] at this;omega
 obtain⟨h1,tk,zq2,hk⟩:=x.done
 subst zq2
 have noA:∀ b:af,b∉(dN CX P w K mg base N qual scope f cd A outer s H E).ex:=fun b z=>absurd (show b∈([]:List af) from z) (by simp)
 refine⟨⟨e0.mod,S.kind,rfl,rfl,cj _,fun y z c h1 h2=>?_,fun y hy=>?_,fun y c _ h=>?_,fun _=>hd,Around.frames_deeper e0.frames,.inr ⟨rfl,rfl⟩,fun b z=>absurd z (noA b),e0.bs,e0.bsz,fun b _ _=>noA b,fun b z=>absurd z (noA b),e0.funs,e0.frf,e0.tabs⟩,
  rfl,e0.bare,Un.kept hk,⟨_,x.toInCall.ns,fun i y v h1 h2 h3=>?_⟩,fun y c h=>⟨_,x.cell y c h⟩,e0.hok.fresh (cj _),fun y c h=>?_,fun p hp=>absurd (show p∈([]:List (af×Obj)) from hp) (by simp),e0.hok.kept hk,?_⟩
 ·exact name_of_addr x.apart (kR h1) (kR h2)
 ·have hy:scope.names.lookup y=some .cell∨scope.names.lookup y=some .free:=hy
  rcases hy with hy | hy
  ·exact B8 hy
  ·exact absurd rfl (S.nofree _ (kR hy))
 ·exact ny (x.above y c (kR h))
 ·have hi:i<vs.length:=by
   unfold start at h2
   by_cases hi:i<vs.length
   ·exact hi
   ·rw[lY (by simpa using hi)] at h2
    rw[nt] at h2
    split at h2 <;> cases h2
  have ha:vs[i]?=some v:=by
   unfold start at h2
   rw[jE (by simpa using hi),e7] at h2
   cases e:vs[i]? with
   | none=>rw[e] at h2;cases h2
   | some a=>rw[e] at h2;cases h2;rfl
  obtain⟨u,hu,rv⟩:=r.get ha
  have hp:ps[i]?=some y:=by
   rw[← S.pre,List.getElem?_take_of_lt (by omega)];exact h1
  have ndP:ps.Nodup:=by rw[← S.pre];exact S.nd.sublist (List.take_sublist _ _)
  refine⟨u,rv,?_⟩
  rcases S.par y (pk hp) with k | k
  ·exact .inl ⟨k,BY ndP hp hu k⟩
  ·obtain⟨c,e⟩:=B8 (n:=s.heap.objs.size+1) k
   refine .inr ⟨.inl k,c,e,?_⟩
   have q:=x.cell y c e
   rw[BW ndP hp hu (by show scope.names.lookup y≠_;rw[k];decide)] at q
   exact q
 ·exact .inl (e0.hok.fresh (ny (x.above y c (kR h))))
 ·unfold start
  show _=N.length
  rw[eN,cm,pj]
  omega
theorem xu {CX:fH}{P:aQ}{w:aM}{K:ao}{mg:Str->Option ah}{base:az}{k:Nat}{f:af}{name qual:Str}{params:uY}{body:List aG}{scope:Scope}{dV kV doc pm cdv ct oc:ah}{an od:Option af}
  {osl:Array (Option ah)} {N ps:List Str} {sp:Sp} (lk:K.lookup f=some ⟨oc,od,.func (fU name qual params body scope dV kV doc pm an cdv ct),osl⟩) (hcd:we K cdv qual=true) (S:bF N ps scope)
  (len:∀ vs H Q E,sp vs H Q E->vs.length=ps.length)
  (hbody:∀ (A:bw) (outer:List Env) (s:ar) (H:Hp) (vs:List V) (Q:VK) (E:XK),bC k (A.deeper (dW qual scope s.heap.objs.size f cdv))->sp vs H Q E ->
   ∃ t,dw (dN CX P w K mg base N qual scope f cdv A outer s H E) body t∧t {nx:=fun _ H'=>Q .non H',rt:=Q} (start N vs) H) :
  aW P w K mg base CX (k+1) f (fU name qual params body scope dV kV doc pm an cdv ct) ps sp:=by
 refine⟨len,fun A outer s H args us vs Q E hr e0 hb r hsp=>?_⟩
 have hl:=len _ _ _ _ hsp
 have KX:K.In s.heap:=e0.mod.kin.keeps fun b o e=>(e0.bs b o e).1
 have lim:s.heap.NoLimit:=e0.mod.nolimit.keeps fun b o e=>(e0.bs b o e).1
 have hkind:∀ y∈ps.zip us,scope.names.lookup y.1=some .local∨(scope.names.lookup y.1=some .cell∧((wZ (s.heap.objs.size+1) scope.names []).lookup y.1).isSome=true):=fun ⟨n,v⟩ hy=>by
  rcases S.par n (vU hy).1 with q | q
  ·exact .inl q
  ·exact .inr ⟨q,Bl _ _ _ (.inl q)⟩
 refine Jj hr.depth (KX _ _ lk) rfl S.co S.gen rfl (HF KX hcd) (hb _ _ _ _ ?_)
 refine Sq S.kind hkind fun env he s1 x=>?_
 subst he
 refine⟨lim.keeps x.toInCall.keep,codeAny_func ?_⟩
 obtain⟨t,ht,hq⟩:=hbody A outer s H vs Q E (hr.deeper _) hsp
 have I:Inv (dN CX P w K mg base N qual scope f cdv A outer s H E) [] (start N vs) H s1:=C2 S hr.hd e0 hl r x
 refine cT (ht [] s1 (start N vs) H _ I hq) (fun fl s' hs=>?_) fun e s' hs=>hs
 have fin:∀ {σ':St} {H':Hp} {v:V} {u:ah},Inv (dN CX P w K mg base N qual scope f cdv A outer s H E) [] σ' H' s'->RelV v u->Q v H'->CE outer P w H s Q u s':=
  fun {σ' H' v u} J rv q=>⟨v,H',J.os,J.bare,J.base,J.hok,rv,q⟩
 cases fl with
 | ret u=>
  obtain⟨v,σ',H',J,rv,q⟩:=id hs
  exact fin J rv q
 | next=>
  obtain⟨σ',H',J,q⟩:=id hs
  exact fin (v:=V.non) (u:=Value.none) J rfl q
 | brk=>
  obtain⟨_,_,_,q⟩:=id hs
  exact cV q
 | cont=>
  obtain⟨_,_,_,q⟩:=id hs
  exact cV q
end L2
namespace L2
section
variable {X:Cx}{x:Str}{p pos:Pos}{e:Expr}{es:List Expr}{t:TA}{id T:String}{r:List V->Hp->VK->Prop}
def zH (r:List V->Hp->VK->Prop)(t:TA):TE:=fun σ H Q=>t σ H fun vs H1=>r vs H1 Q
theorem lq (hc:eY X (.builtin id) r)(hg:Gl X x)(hm:X.mg x=none)(hv:dJ x=some (.builtin id))(ha:PA X (e::es) t)(hn:x≠"__name__":=by decide)(hdb:(x==("__debug__":Str))=false:=by decide)
  (he:ax (e::es) X.env=(false,aB e X.env)::ax es X.env:=by rfl) (hpl:(a0 pos (ax es X.env)).any (·.1)=false:=by rfl):PE X (.Call (.Name x p) (e::es) [] pos) (zH r t):=by
 intro pins s σ H Q I h
 refine mV (lh I hg hm hv ?_ hn hdb)
 exact PyProof.Rows.callWith_builtin1 (aP (ha pos pins s σ H _ I h) fun us s1 ⟨vs,H1,I1,r1,q1⟩=>hc pins s1 σ H1 vs us Q I1 r1 q1) he hpl
theorem D_ (hc:eY X (.type T) r)(hg:Gl X x)(hm:X.mg x=none)(hv:dJ x=some (.type T))(ha:PA X (e::es) t)(hn:x≠"__name__":=by decide)(hdb:(x==("__debug__":Str))=false:=by decide)
  (he:ax (e::es) X.env=(false,aB e X.env)::ax es X.env:=by rfl) (hpl:(a0 pos (ax es X.env)).any (·.1)=false:=by rfl):PE X (.Call (.Name x p) (e::es) [] pos) (zH r t):=by
 intro pins s σ H Q I h
 refine mV (lh I hg hm hv ?_ hn hdb)
 exact pH (aP (ha pos pins s σ H _ I h) fun us s1 ⟨vs,H1,I1,r1,q1⟩=>hc pins s1 σ H1 vs us Q I1 r1 q1) he hpl
end
end L2
namespace HT
open PySem PyProof.Rows
section
open PySem.SeqAt
open PySem.AutoSeq1 (wpAny_loadPart')
open PySem.MeetsSeq PySem.MeetsSeq2 PySem.MeetsSeq3
end
section
variable {prog:aQ}{w:aM}{A:bw}{E:ah->ar->Prop}{s:ar}
def sIx (n d:Nat):Option Int->Nat
 | none=>d
 | some v=>if v<0 then (v+(n:Int)).toNat else min v.toNat n
end
end HT
namespace L2
abbrev TO:=St->Hp->(Option Int->Hp->Prop)->Prop
def PO (X:Cx)(e:Option Expr)(t:TO):Prop:=
 ∀ (pins:List (af×Obj)) (s:ar) (σ:St) (H:Hp) (Q:Option Int->Hp->Prop),Inv X pins σ H s->t σ H Q ->
  aI (aF X.prog X.w) X.A (evalPart e X.env) (fun u s'=>∃ o H',Inv X pins σ H' s'∧IsPart u o∧Q o H') X.xe s
def Rh:TO:=fun _ H Q=>Q none H
def Rn (t:TE):TO:=fun σ H Q=>t σ H fun x H1=>∃ i,x=.int i∧Q (some i) H1
theorem intsAre_of {ns:List Int}:∀ {us:List ah},aV (ns.map V.int) us->o9 us ns:=by
 induction ns with
 | nil=>intro us r;rw[rT] at r;cases r;exact .nil
 | cons n ns ih=>
  intro us r
  rw[bV] at r
  cases r with
  | cons r1 r2=>
   obtain⟨t,e⟩:=id r1
   subst e
   exact .cons n t (ih r2)
section
variable {X:Cx}{e:Expr}{te:TE}{lo hi:Option Expr}{tl th:TO}{pos p2:Pos}
theorem Od:PO X none Rh:=by
 intro pins s σ H Q I h
 rw[evalPart_none]
 exact bU ⟨none,H,I,.none,h⟩
theorem Oe (h:PE X e te):PO X (some e) (Rn te):=by
 intro pins s σ H Q I hw
 rw[evalPart_some]
 refine aP (h pins s σ H _ I hw) fun u s1 zpat=>?_
 obtain⟨x,H1,I1,r1,q1⟩:=zpat
 revert q1
 refine fun zqq=>?_;obtain⟨i,zq1,q⟩:=zqq
 subst zq1
 revert r1
 refine fun zqq=>?_;obtain⟨t,zq1⟩:=zqq
 subst zq1
 exact ⟨some i,H1,I1,.int i t,q⟩
def ma (X:Cx)(r:V->Option Int->Option Int->Hp->VK->Prop):Prop:=
 ∀ (pins:List (af×Obj)) (s:ar) (σ:St) (H:Hp) (x:V) (v vl vu:ah) (lo hi:Option Int) (sl:af) (Q:VK),Inv X pins σ H s->RelV x v->s.heap.IsSliceOf sl vl vu .none->IsPart vl lo->IsPart vu hi->r x lo hi H Q ->
  ∃ T id,uO (.type T) "__getitem__"=aN (some (.builtin id))∧s.TypeIs v T∧aI (aF X.prog X.w) X.A (p6 v (.ref sl)) (EP X pins σ Q) X.xe s
theorem ma.or {r r':V->Option Int->Option Int->Hp->VK->Prop}(h:ma X r)(h':ma X r'):ma X (fun x lo hi H Q=>r x lo hi H Q∨r' x lo hi H Q):=by
 intro pins s σ H x v vl vu lo hi sl Q I rx hs pl pu q
 rcases q with q | q
 ·exact h pins s σ H x v vl vu lo hi sl Q I rx hs pl pu q
 ·exact h' pins s σ H x v vl vu lo hi sl Q I rx hs pl pu q
def Rv (r:V->Option Int->Option Int->Hp->VK->Prop)(te:TE)(tl th:TO):TE:=fun σ H Q=>te σ H fun x H1=>tl σ H1 fun l H2=>th σ H2 fun u H3=>r x l u H3 Q
theorem Ec {r:V->Option Int->Option Int->Hp->VK->Prop}(hr:ma X r)(he:PE X e te)(hl:PO X lo tl)(hu:PO X hi th):PE X (.Subscript e (.Slice lo hi none p2) pos) (Rv r te tl th):=by
 intro pins s σ H Q I h
 refine BF (aP (he pins s σ H _ I h) fun v s1 zpat=>?_)
 obtain⟨x,H1,I1,r1,q1⟩:=zpat
 refine wpAny_Slice (aP (hl pins s1 σ H1 _ I1 q1) fun vl s2 ⟨l,H2,I2,pl,q2⟩=>aP (hu pins s2 σ H2 _ I2 q2) fun vu s3 zpat=>?_)
 obtain⟨u,H3,I3,pu,q3⟩:=zpat
 rw[evalPart_none]
 refine bU ?_
 have I4:Inv X pins σ H3 {s3 with heap:=s3.heap.push {cls:=.type "slice",data:=.fields #[vl,vu,.none]}}:=I3.kept (t':=s3.toks) fun b ob q=>cL _ q
 obtain⟨T,id,hT,ht,hg⟩:=hr pins {s3 with heap:=s3.heap.push {cls:=.type "slice",data:=.fields #[vl,vu,.none]}} σ H3 x v vl vu l u s3.heap.objs.size Q I4 r1 (Heap.IsSliceOf.new ..) pl pu q3
 show aI (aF X.prog X.w) X.A (Fq e (.Slice lo hi none p2) v (.ref s3.heap.objs.size)) (EP X pins σ Q) X.xe {s3 with heap:=s3.heap.push {cls:=.type "slice",data:=.fields #[vl,vu,.none]}}
 exact tail_any (ops:=[.ref s3.heap.objs.size,v]) ht hT hg (by with_unfolding_all rfl)
def pR (xs:List V)(lo hi:Option Int):List V:=(xs.drop (HT.sIx xs.length 0 lo)).take (HT.sIx xs.length xs.length hi - HT.sIx xs.length 0 lo)
theorem Jt (xs:List V)(lo hi:Option Int):(pR xs lo hi).length≤xs.length:=by
 unfold pR
 rw[List.length_take,List.length_drop]
 omega
end
end L2
namespace L2
def f6 (n:Nat)(i:Int):Option Nat:=if 0≤i then (if i<n then some i.toNat else none) else if -(n:Int)≤i then some (i+n).toNat else none
def atI {α:Type}(xs:List α)(i:Int):Option α:=(f6 xs.length i).bind fun j=>xs[j]?
theorem Lg {n:Nat}{i:Int}{j:Nat}(h:f6 n i=some j):seqIndex? i n=some j∧j<n∧-(n:Int)≤i∧i<n:=by
 unfold f6 at h
 by_cases h0:0≤i
 ·rw[if_pos h0] at h
  by_cases h1:i<n
  ·rw[if_pos h1] at h
   have e:i.toNat=j:=aE h
   exact⟨by rw[seqIndex_of h0 h1,e],by omega,by omega,h1⟩
  ·rw[if_neg h1] at h;cases h
 ·rw[if_neg h0] at h
  by_cases h1:-(n:Int)≤i
  ·rw[if_pos h1] at h
   have e:(i+n).toNat=j:=aE h
   exact⟨by rw[seqIndex_neg (by omega) h1,e],by omega,h1,by omega⟩
  ·rw[if_neg h1] at h;cases h
theorem BQ {α:Type}{xs:List α}{i:Int}{v:α}(h:atI xs i=some v):∃ j,seqIndex? i xs.length=some j∧xs[j]?=some v∧j<xs.length∧-(xs.length:Int)≤i∧i<xs.length:=by
 unfold atI at h
 cases e:f6 xs.length i with
 | none=>rw[e] at h;cases h
 | some j=>
  rw[e] at h
  obtain⟨h1,h2,h3,h4⟩:=Lg e
  exact⟨j,h1,h,h2,h3,h4⟩
theorem BR {α:Type}{xs:List α}{j:Nat}{v:α}(h:xs[j]?=some v):atI xs (j:Int)=some v:=by
 have hj:j<xs.length:=(List.getElem?_eq_some_iff.mp h).1
 have e:f6 xs.length (j:Int)=some j:=by
  unfold f6
  rw[if_pos (by omega),if_pos (by omega)];simp
 unfold atI;rw[e];exact h
def r8 (b:Expr):Prop:=∀ o i,zF b false o i=operate [o,i] (p6 o i)
def lX (X:Cx)(r:R2):Prop:=
 ∀ (value slice:Expr) (pins:List (af×Obj)) (s:ar) (σ:St) (H:Hp) (x y:V) (v u:ah) (Q:VK),Inv X pins σ H s->RelV x v->RelV y u->r x y H Q ->
  zF slice false v u=operate [v,u] (p6 v u)->aI (aF X.prog X.w) X.A (Fq value slice v u) (EP X pins σ Q) X.xe s
def gJ (X:Cx)(id:String)(r:V->List V->Hp->VK->Prop):Prop:=
 ∀ (pins:List (af×Obj)) (s:ar) (σ:St) (H:Hp) (x:V) (xs:List V) (v:ah) (us:List ah) (Q:VK),Inv X pins σ H s->RelV x v->aV xs us->r x xs H Q ->
  aI (aF X.prog X.w) X.A (call (.builtin id) (v::us)) (EP X pins σ Q) X.xe s
section
variable {X:Cx}{a b:Expr}{ta tb:TE}{pos:Pos}
theorem lX.or {r r':R2}(h:lX X r)(h':lX X r'):lX X (fun x y H Q=>r x y H Q∨r' x y H Q):=by
 intro value slice pins s σ H x y v u Q I rx ry q hs
 rcases q with q | q
 ·exact h value slice pins s σ H x y v u Q I rx ry q hs
 ·exact h' value slice pins s σ H x y v u Q I rx ry q hs
theorem gJ.or {id:String}{r r':V->List V->Hp->VK->Prop}(h:gJ X id r)(h':gJ X id r'):gJ X id (fun x xs H Q=>r x xs H Q∨r' x xs H Q):=by
 intro pins s σ H x xs v us Q I rx rs q
 rcases q with q | q
 ·exact h pins s σ H x xs v us Q I rx rs q
 ·exact h' pins s σ H x xs v us Q I rx rs q
theorem yj {r:R2}(hr:lX X r)(ha:PE X a ta)(hb:PE X b tb)(hs:r8 b):PE X (.Subscript a b pos) (oB r ta tb):=by
 intro pins s σ H Q I h
 exact BF (wO ha hb I h fun v u s2 x y H2 I2 rx ry q=>hr a b pins s2 σ H2 x y v u Q I2 rx ry q (hs _ _))
def Er (K:ao):R2:=fun x y H Q=>∃ p xs i v,x=.ref p∧y=.int i∧bD K H p xs∧atI xs i=some v∧Q v H
def Et (K:ao):R2:=fun x y H Q=>∃ p xs i v,x=.ref p∧y=.int i∧cF K H p xs∧atI xs i=some v∧Q v H
theorem xN:lX X (Er X.K):=by
 intro value slice pins s σ H x y v u Q I rx ry h hs
 revert h
 refine fun zqq=>?_;obtain⟨p,xs,i,z,zq4,zq5,hq,he,q⟩:=zqq
 subst zq4
 subst zq5
 cases rx
 revert ry
 refine fun zqq=>?_;obtain⟨t,zq1⟩:=zqq
 subst zq1
 obtain⟨its,r,pl,hz⟩:=I.list hq
 obtain⟨j,h1,h2,h3,h4,h5⟩:=BQ he
 obtain⟨w,ew,rw'⟩:=r.get h2
 have hl:=r.length
 have hn:=tE
 have fin:EP X pins σ Q w s:=⟨z,H,I,rw',q⟩
 by_cases h0:0≤i
 ·have hj:i.toNat=j:=by
   rw[seqIndex_of h0 h5] at h1
   exact aE h1
  exact item_listR pl.isList h0 (by omega) (by rw[hj];simpa using ew) fin hs
 ·have hj:(i+(its.toArray.size:Int)).toNat=j:=by
   rw[seqIndex_neg (by omega) h4] at h1
   rw[e_,← hl]
   exact aE h1
  exact QM (x:=w) pl.isList.typeIs slot_list_getitem.lookup
   (wpAny_getItem_list_neg (Q:=fun r s'=>r=w∧EP X pins σ Q r s') pl.isList (by omega) (by rw[e_] <;> omega) (by omega) (by rw[hj];simpa using ew) ⟨rfl,fin⟩) hs
theorem xO:lX X (Et X.K):=by
 intro value slice pins s σ H x y v u Q I rx ry h hs
 revert h
 refine fun zqq=>?_;obtain⟨p,xs,i,z,zq4,zq5,hq,he,q⟩:=zqq
 subst zq4
 subst zq5
 cases rx
 revert ry
 refine fun zqq=>?_;obtain⟨t,zq1⟩:=zqq
 subst zq1
 obtain⟨its,r,pl,hz⟩:=I.tuple hq
 obtain⟨j,h1,h2,h3,h4,h5⟩:=BQ he
 obtain⟨w,ew,rw'⟩:=r.get h2
 have hl:=r.length
 have hn:=tE
 have fin:EP X pins σ Q w s:=⟨z,H,I,rw',q⟩
 exact QM (x:=w) pl.typeIs slot_tuple_getitem.lookup
  (getItem_tuple (j:=j) (Q:=fun r s'=>r=w∧EP X pins σ Q r s') pl (by omega) (by omega) (by rw[e_,← hl];exact h1) (by simpa using ew) ⟨rfl,fin⟩) hs
theorem Inv.lst {pins:List (af×Obj)}{σ:St}{H:Hp}{s:ar}{p:af}{xs:List V}(I:Inv X pins σ H s)(h:H p=some (.lst xs)) :
  ∃ (its:List ah) (n:Nat),aV xs its∧s.heap.get? p=some {cls:=.type "list",data:=.seq its.toArray n}∧xs.length≤sizeLine:=by
 obtain⟨z,its,n,r,e⟩:=I.hok p _ h
 exact ⟨its,n,r,e,z⟩
theorem Qp (lo hi:Option Int)(n:Nat):(oy lo hi none n).1=((HT.sIx n 0 lo:Nat):Int)∧(oy lo hi none n).2.1=((HT.sIx n n hi:Nat):Int)∧(oy lo hi none n).2.2=1:=by
 refine⟨?_,?_,rfl⟩
 ·cases lo with
  | none=>simp[oy,HT.sIx]
  | some i=>
   simp only[oy,HT.sIx,Option.getD_none,show (1:Int)>0 by decide,if_true]
   by_cases h:i<0
   ·simp only[h,if_true] <;> omega
   ·simp only[h,if_false] <;> omega
 ·cases hi with
  | none=>simp[oy,HT.sIx]
  | some i=>
   simp only[oy,HT.sIx,Option.getD_none,show (1:Int)>0 by decide,if_true]
   by_cases h:i<0
   ·simp only[h,if_true] <;> omega
   ·simp only[h,if_false] <;> omega
theorem Qo (its:List ah)(lo hi:Option Int):slicePick its.toArray lo hi none=((its.drop (HT.sIx its.length 0 lo)).take (HT.sIx its.length its.length hi - HT.sIx its.length 0 lo)).toArray:=by
 obtain⟨h1,h2,h3⟩:=Qp lo hi its.toArray.size
 unfold slicePick
 rw[h1,h2,h3]
 simp only[sliceRange_one,pick_run,e_] <;> rfl
def OK (K:ao):V->Option Int->Option Int->Hp->VK->Prop:=fun x lo hi H Q=>∃ a xs,x=.ref a∧bD K H a xs∧∀ p,H p=none->Q (.ref p) (upd H p (.lst (pR xs lo hi)))
theorem Qm:ma X (OK X.K):=by
 intro pins s σ H x v vl vu lo hi sl Q I rx hs pl pu h
 revert h
 refine fun zqq=>?_;obtain⟨a,xs,zq2,hx,q⟩:=zqq
 subst zq2
 cases rx
 obtain⟨its,r,ht,hz⟩:=I.list hx
 have hlen:=r.length
 refine ⟨"list",_,slot_list_getitem.lookup,ht.isList.typeIs,?_⟩
 refine wpAny_getItem_list_slice ht.isList hs pl pu .none (by simp) ?_ (by rw[e_] <;> omega)
 rw[Qo,← hlen]
 refine⟨.ref s.heap.objs.size,_,I.laid (t':=s.toks) (o:=.lst (pR xs lo hi)) (fun b ob q=>cL _ q) (cj _) ?_,rfl,q _ (I.hok.fresh (cj _))⟩
 exact ⟨dn (Jt xs lo hi) hz,_,0,(r.drop (HT.sIx xs.length 0 lo)).take (HT.sIx xs.length xs.length hi - HT.sIx xs.length 0 lo),fA _ rfl⟩
def fO:V->Bool
 | .non=>true
 | .bl _=>true
 | .int _=>true
 | .str _=>true
 | _=>false
def gq:V->V->Bool
 | .non,.non=>true
 | .bl a,.bl b=>a==b
 | .bl a,.int b=>(if a then 1 else 0)==b
 | .int a,.bl b=>a==(if b then 1 else 0)
 | .int a,.int b=>a==b
 | .str a,.str b=>a==b
 | _,_=>false
theorem JP {A:bw}{s:ar}{y x:V}{u v:ah}(ry:RelV y u)(rx:RelV x v)(fy:fO y=true)(fx:fO x=true):SeqAt.EqAt A s u v (gq y x):=by
 cases y with
 | non=>
  cases ry
  cases x with
  | non=>cases rx;exact BC _
  | bl b=>cases rx;exact SeqAt.EqAt.none_bool b
  | int b=>obtain⟨t,rfl⟩:=rx;exact SeqAt.EqAt.none_int b t
  | str b=>obtain⟨t,rfl⟩:=rx;exact SeqAt.EqAt.none_str b t
  | _=>exact absurd (show false=true from fx) dH
 | bl a=>
  cases ry
  cases x with
  | non=>cases rx;exact SeqAt.EqAt.bool_none a
  | bl b=>cases rx;exact SeqAt.EqAt.bool_bool a b
  | int b=>obtain⟨t,rfl⟩:=rx;exact SeqAt.EqAt.bool_int a b t
  | str b=>obtain⟨t,rfl⟩:=rx;exact SeqAt.EqAt.bool_str a b t
  | _=>exact absurd (show false=true from fx) dH
 | int a=>
  revert ry
  refine fun zqq=>?_;obtain⟨t',zq1⟩:=zqq
  subst zq1
  cases x with
  | non=>cases rx;exact SeqAt.EqAt.int_none a t'
  | bl b=>cases rx;exact SeqAt.EqAt.int_bool a t' b
  | int b=>obtain⟨t,rfl⟩:=rx;exact SeqAt.EqAt.int_int a t' b t
  | str b=>obtain⟨t,rfl⟩:=rx;exact HM a t' b t
  | _=>exact absurd (show false=true from fx) dH
 | str a=>
  revert ry
  refine fun zqq=>?_;obtain⟨t',zq1⟩:=zqq
  subst zq1
  cases x with
  | non=>cases rx;exact SeqAt.EqAt.str_none a t'
  | bl b=>cases rx;exact SeqAt.EqAt.str_bool a t' b
  | int b=>obtain⟨t,rfl⟩:=rx;exact HN a t' b t
  | str b=>obtain⟨t,rfl⟩:=rx;exact SeqAt.EqAt.str_str a t' b t
  | _=>exact absurd (show false=true from fx) dH
 | _=>exact absurd (show false=true from fy) dH
def ff (x:V)(u:ah):Bool:=match u with
 | .none=>gq .non x
 | .bool b=>gq (.bl b) x
 | .int i _=>gq (.int i) x
 | .str z _=>gq (.str z) x
 | _=>false
theorem xj {x y:V}{u:ah}(r:RelV y u)(f:fO y=true):ff x u=gq y x:=by
 cases y with
 | non=>cases r;rfl
 | bl b=>cases r;rfl
 | int i=>obtain⟨t,rfl⟩:=r;rfl
 | str z=>obtain⟨t,rfl⟩:=r;rfl
 | _=>exact absurd (show false=true from f) dH
theorem pP {x:V}:∀ {xs:List V} {us:List ah},aV xs us->xs.all fO=true->us.any (ff x)=xs.any fun y=>gq y x
 | _,_,.nil,_=>rfl
 | y::xs,u::us,.cons r t,f=>by
  rw[kG,cq] at f
  rw[kH,kH,xj r f.1,pP t f.2]
theorem n_ {A:bw}{s:ar}{x:V}{v:ah}(rx:RelV x v)(fx:fO x=true):∀ {xs:List V} {us:List ah},aV xs us->xs.all fO=true->∀ u∈us,SeqAt.EqAt A s u v (ff x u):=by
 intro xs us h
 induction h with
 | nil=>exact fun _ u hu=>by cases hu
 | cons r t ih=>
  intro f u' hu
  rw[kG,cq] at f
  rcases List.mem_cons.mp hu with rfl | hu
  ·rw[xj r f.1];exact JP r rx f.1 fx
  ·exact ih f.2 u' hu
def sY (x:V)(xs:List V):Bool:=xs.any fun y=>gq y x
def yq (K:ao)(neg:Bool):R2:=fun x y H Q=>∃ p xs,y=.ref p∧(bD K H p xs∨cF K H p xs)∧fO x=true∧xs.all fO=true∧Q (.bl (if neg then !sY x xs else sY x xs)) H
theorem Nv:cE X (fC .In) (yq X.K false):=by
 intro pins s σ H x y v u Q I rx ry h
 revert h
 refine fun zqq=>?_;obtain⟨p,xs,zq2,hq,fx,fs,q⟩:=zqq
 subst zq2
 cases ry
 rcases hq with hq | hq
 ·obtain⟨its,r,pl,hz⟩:=I.list hq
  refine SeqAt.in_listAt (ff x) pl.isList (fun w hw=>n_ rx fx r fs w (by simpa using hw)) ⟨.bl _,H,I,rfl,?_⟩
  rw[show its.toArray.any (ff x)=its.any (ff x) by simp,pP r fs]
  exact q
 ·obtain⟨its,r,pl,hz⟩:=I.tuple hq
  refine SeqAt.in_tupleAt (ff x) pl (fun w hw=>n_ rx fx r fs w (by simpa using hw)) ⟨.bl _,H,I,rfl,?_⟩
  rw[show its.toArray.any (ff x)=its.any (ff x) by simp,pP r fs]
  exact q
theorem ND:cE X (fC .NotIn) (yq X.K true):=by
 intro pins s σ H x y v u Q I rx ry h
 revert h
 refine fun zqq=>?_;obtain⟨p,xs,zq2,hq,fx,fs,q⟩:=zqq
 subst zq2
 cases ry
 rcases hq with hq | hq
 ·obtain⟨its,r,pl,hz⟩:=I.list hq
  refine SeqAt.notIn_listAt (ff x) pl.isList (fun w hw=>n_ rx fx r fs w (by simpa using hw)) ⟨.bl _,H,I,rfl,?_⟩
  rw[show its.toArray.any (ff x)=its.any (ff x) by simp,pP r fs]
  exact q
 ·obtain⟨its,r,pl,hz⟩:=I.tuple hq
  refine SeqAt.notIn_tupleAt (ff x) pl (fun w hw=>n_ rx fx r fs w (by simpa using hw)) ⟨.bl _,H,I,rfl,?_⟩
  rw[show its.toArray.any (ff x)=its.any (ff x) by simp,pP r fs]
  exact q
theorem IS:eY X (.builtin "len") (fun xs H Q=>∃ p ys,xs=[.ref p]∧(bD X.K H p ys∨cF X.K H p ys)∧Q (.int ys.length) H):=by
 intro pins s σ H xs us Q I r h
 revert h
 refine fun zqq=>?_;obtain⟨p,ys,zq2,hq,q⟩:=zqq
 subst zq2
 obtain⟨u,zq1,rx⟩:=vals1 r
 subst zq1
 cases rx
 have hn:=tE
 rcases hq with hq | hq
 ·obtain⟨its,r',pl,hz⟩:=I.list hq
  have hlen:=r'.length
  exact Calls.call_len_list pl.isList (by simp only[e_] <;> omega) ⟨.int ys.length,H,I.tok _,⟨s.toks+1,by rw[e_,hlen]⟩,q⟩
 ·obtain⟨its,r',pl,hz⟩:=I.tuple hq
  have hlen:=r'.length
  exact len_tuple pl (by simp only[e_] <;> omega) ⟨.int ys.length,H,I.tok _,⟨s.toks+1,by rw[e_,hlen]⟩,q⟩
theorem IT:eY X (.builtin "len") (fun xs H Q=>∃ z,xs=[.str z]∧z.length≤sizeLine∧Q (.int z.length) H):=by
 intro pins s σ H xs us Q I r h
 revert h
 refine fun zqq=>?_;obtain⟨z,zq1,hz,q⟩:=zqq
 subst zq1
 obtain⟨u,zq1,t,zq3⟩:=vals1 r
 subst zq1
 subst zq3
 have hn:=tE
 exact len_str (by omega) ⟨.int z.length,H,I.tok _,⟨_,rfl⟩,q⟩
theorem eY.or {f:ah}{r r':List V->Hp->VK->Prop}(h:eY X f r)(h':eY X f r'):eY X f (fun xs H Q=>r xs H Q∨r' xs H Q):=by
 intro pins s σ H xs us Q I rs q
 rcases q with q | q
 ·exact h pins s σ H xs us Q I rs q
 ·exact h' pins s σ H xs us Q I rs q
def zO (K:ao)(T:String)(x:V)(H:Hp):Prop:=match x with
 | .str _=>T="str"
 | .int _=>T="int"
 | .ref p=>(T="list"∧∃ xs,bD K H p xs)∨(T="tuple"∧∃ o,K.lookup p=some o∧o.cls=.type "tuple"∧o.dict=none) ∨
  (T="dict"∧((∃ kvs,H p=some (.dK kvs))∨∃ kvs,H p=some (.dT kvs)))∨(T="set"∧∃ S n,H p=some (.set S n))
 | _=>False
theorem FK {pins:List (af×Obj)}{σ:St}{H:Hp}{s:ar}{T:String}{x:V}{v:ah}(I:Inv X pins σ H s)(r:RelV x v)(ty:zO X.K T x H) :
  s.TypeIs v T∧∀ a,v=.ref a->∃ ob,s.heap.get? a=some ob∧ob.dict=none:=by
 cases x with
 | str z=>
  revert r
  refine fun zqq=>?_;obtain⟨t,zq1⟩:=zqq
  subst zq1
  cases (show T="str" from ty)
  exact⟨kh s z t,fun _ e=>nomatch e⟩
 | int i=>
  revert r
  refine fun zqq=>?_;obtain⟨t,zq1⟩:=zqq
  subst zq1
  cases (show T="int" from ty)
  exact⟨typeIs_int s i t,fun _ e=>nomatch e⟩
 | ref p=>
  cases r
  rcases ty with ⟨rfl,xs,hq⟩ | ⟨rfl,o,hk,hc,hd⟩ | ⟨rfl,hk⟩ | ⟨rfl,S,n,hk⟩
  ·obtain⟨its,_,pl,_⟩:=I.list hq
   refine⟨pl.isList.typeIs,fun a e=>?_⟩
   cases e
   obtain⟨o,n,e,c,hd,_⟩:=id pl
   exact⟨o,e,hd⟩
  ·refine⟨⟨o,I.kIn p o hk,hc⟩,fun a e=>?_⟩
   cases e
   exact⟨o,I.kIn _ o hk,hd⟩
  ·have z:∃ o,s.heap.get? p=some o∧o.ExactDict:=by
    rcases hk with ⟨kvs,hk⟩ | ⟨kvs,hk⟩
    ·obtain⟨_,_,_,_,o,_,_,e,ex,_⟩:=I.hok p _ hk
     exact⟨o,e,ex⟩
    ·obtain⟨_,_,_,_,o,_,_,e,ex,_⟩:=I.hok p _ hk
     exact⟨o,e,ex⟩
   obtain⟨o,e,ex⟩:=id z
   refine⟨⟨o,e,ex.1⟩,fun a e2=>?_⟩
   cases e2
   exact⟨o,e,ex.2.1⟩
  ·obtain⟨o,_,_,_,e,ex,_⟩:=I.hok p _ hk
   refine⟨⟨o,e,ex.1⟩,fun a e2=>?_⟩
   cases e2
   exact⟨o,e,ex.2.1⟩
 | _=>exact cV ty
def QW (K:ao)(T:String)(r:V->List V->Hp->VK->Prop)(to:TE):TE:=fun σ H Q=>to σ H fun x H1=>zO K T x H1∧r x [] H1 Q
def QV (K:ao)(T:String)(r:V->List V->Hp->VK->Prop)(to:TE)(t:TA):TE:=fun σ H Q=>to σ H fun x H1=>zO K T x H1∧t σ H1 fun xs H2=>r x xs H2 Q
variable {o e:Expr}{es:List Expr}{to:TE}{t:TA}{name:Str}{apos cpos:Pos}{T id:String}{r:V->List V->Hp->VK->Prop}
theorem D9 (pa:PlainAttrs T)(slot:Slot T name id)(hty:typeOf (.builtin id)=aN (.type "method_descriptor"))(hm:gJ X id r)(ho:PE X o to)
  (hbase:dR o name X.env (aB o X.env)=aB o X.env:=by rfl) (hline:(apos.endLine==cpos.line)=true:=by rfl):PE X (.Call (.Attribute o name apos) [] [] cpos) (QW X.K T r to):=by
 intro pins s σ H Q I h
 refine wpAny_Call_method0_late hbase hline (aP (ho pins s σ H _ I h) fun v s1 zpat=>?_)
 obtain⟨x,H1,I1,r1,ty,q1⟩:=zpat
 obtain⟨h1,h2⟩:=FK I1 r1 ty
 exact ⟨T,id,pa,slot,hty,h1,h2,vk rfl (PySem.evalArgs_none (hm pins s1 σ H1 x [] v [] Q I1 r1 .nil q1))⟩
theorem j3 (pa:PlainAttrs T)(slot:Slot T name id)(hty:typeOf (.builtin id)=aN (.type "method_descriptor"))(hm:gJ X id r)(ho:PE X o to)(ha:PA X (e::es) t)
  (hbase:dR o name X.env (aB o X.env)=aB o X.env:=by rfl)
  (hfew:((a0 cpos (ax (e::es) X.env)).all (fun x=>!x.1)&&(dS cpos (dY [] X.env)).all (fun x=>x.1.isSome)
   &&decide ((e::es).length+([]:List df).length+(if ([]:List df).isEmpty then 0 else 1)<30))=true:=by rfl)
  (hline:(apos.endLine==cpos.line)=true:=by rfl) (hs:ax (e::es) X.env=(false,aB e X.env)::ax es X.env:=by rfl) (hplain:(a0 cpos (ax es X.env)).any (·.1)=false:=by rfl) :
  PE X (.Call (.Attribute o name apos) (e::es) [] cpos) (QV X.K T r to t):=by
 intro pins s σ H Q I h
 refine wpAny_Call_method_late hbase hfew hline rfl (aP (ho pins s σ H _ I h) fun v s1 zpat=>?_)
 obtain⟨x,H1,I1,r1,ty,q1⟩:=zpat
 obtain⟨h1,h2⟩:=FK I1 r1 ty
 refine ⟨T,id,pa,slot,hty,h1,h2,?_⟩
 have hA:=ha cpos pins s1 σ H1 _ I1 q1
 rw[hs] at hA ⊢
 refine vk (by show (false||(a0 cpos (ax es X.env)).any (·.1))=false;rw[hplain] <;> rfl) (vm ?_)
 exact aP hA fun us s2 ⟨vs,H2,I2,r2,q2⟩=>hm pins s2 σ H2 x vs v us Q I2 r1 r2 q2
end
end L2
namespace L2
def vW (X:Cx)(id:String)(r:V->List V->Hp->VK->Prop):Prop:=
 ∀ (pins:List (af×Obj)) (s:ar) (σ:St) (H:Hp) (x:V) (xs:List V) (v:ah) (us:List ah) (Q:VK),Inv X pins σ H s->RelV x v->aV xs us->r x xs H Q ->
  aI (aF X.prog X.w) X.A (call (.builtin id) (v::us)) (EP X pins σ Q) X.xe s
theorem aV.one {x:V}{us:List ah}(h:aV [x] us):∃ u,us=[u]∧RelV x u:=by
 cases h with
 | cons r t=>cases t;exact⟨_,rfl,r⟩
theorem aV.two {x y:V}{us:List ah}(h:aV [x,y] us):∃ u v,us=[u,v]∧RelV x u∧RelV y v:=by
 cases h with
 | cons r t=>
  obtain⟨u,zq1,q⟩:=aV.one t
  subst zq1
  exact ⟨_,_,rfl,r,q⟩
theorem aV.zero:∀ {us:List ah},aV [] us->us=[]
 | _,.nil=>rfl
theorem aV.dropLast {xs:List V}{us:List ah}(h:aV xs us):aV xs.dropLast us.dropLast:=by
 induction h with
 | nil=>exact .nil
 | cons r t ih=>
  cases t with
  | nil=>exact .nil
  | cons q t'=>exact .cons r ih
theorem aV.eraseIdx:∀ {xs:List V} {us:List ah} (i:Nat),aV xs us->aV (xs.eraseIdx i) (us.eraseIdx i)
 | _,_,_,.nil=>.nil
 | _,_,0,.cons _ t=>t
 | _,_,i+1,.cons r t=>.cons r (aV.eraseIdx i t)
theorem aV.reverse {xs:List V}{us:List ah}(h:aV xs us):aV xs.reverse us.reverse:=by
 induction h with
 | nil=>exact .nil
 | cons r t ih=>rw[vV,vV];exact aV.append ih (.cons r .nil)
theorem JT {α:Type}(l:List α):l.eraseIdx (l.length - 1)=l.dropLast:=by
 induction l with
 | nil=>rfl
 | cons a r ih=>
  cases r with
  | nil=>rfl
  | cons b r=>
   have e:(a::b::r).length - 1=((b::r).length - 1)+1:=rfl
   rw[e,List.eraseIdx_cons_succ,ih]
   all_goals rfl
section
variable {X:Cx}{pins:List (af×Obj)}{σ:St}{H:Hp}{s:ar}{l b:af}{xs ys zs:List V}
theorem Inv.lset {its its':List ah}{n:Nat}{f:Array ah->Array ah}{t':Nat}(I:Inv X pins σ H s)(hH:H l=some (.lst xs))
  (e:s.heap.get? l=some {cls:=.type "list",data:=.seq its.toArray n}) (hf:f its.toArray=its'.toArray) (hv:aV ys its') (hz:ys.length≤sizeLine) :
  Inv X pins σ (upd H l (.lst ys)) {s with heap:=s.heap.update l (kM f),toks:=t' }:=by
 have q:=PySem.IsL.update e f
 rw[hf] at q
 refine I.write (x:=l) (e:=l) (by rw[hH];exact trivial) (.inl rfl) (fun b' u hb hu=>(lV s.heap (kM f) (cn hb)).trans hu) ⟨_,q⟩ ?_
 exact ⟨hz,its',_,hv,q⟩
theorem Inv.lnew {its:List ah}{t':Nat}(I:Inv X pins σ H s)(hv:aV ys its)(hz:ys.length≤sizeLine) :
  Inv X pins σ (upd H s.heap.objs.size (.lst ys)) {s with heap:=s.heap.push {cls:=.type "list",data:=.seq its.toArray},toks:=t' }:=
 I.laid (fun _ _ q=>cL _ q) (cj _) ⟨hz,its,0,hv,fA _ rfl⟩
theorem Inv.fresh (I:Inv X pins σ H s):H s.heap.objs.size=none:=I.hok.fresh (cj _)
theorem Inv.lstM (I:Inv X pins σ H s)(hH:H l=some (.lst xs)):xs.length≤sizeLine∧∃ (its:List ah) (n:Nat),aV xs its∧xs.length=its.length∧s.heap.get? l=some {cls:=.type "list",data:=.seq its.toArray n}:=by
 obtain⟨z,its,n,r,e⟩:=I.hok l _ hH
 exact ⟨z,its,n,r,r.length,e⟩
theorem Mw {n:Nat}(h:n≤sizeLine):AM n=false:=by
 unfold AM
 exact decide_eq_false (by omega)
end
section
variable {X:Cx}
def OA:V->List V->Hp->VK->Prop:=fun x vs H Q=>∃ l xs y,x=.ref l∧vs=[y]∧H l=some (.lst xs)∧xs.length<sizeLine∧Q .non (upd H l (.lst (xs++[y])))
theorem DC:vW X "list.append" OA:=by
 intro pins s σ H x vs v us Q I rx rv h
 revert h
 refine fun zqq=>?_;obtain⟨l,xs,y,zq3,zq4,hH,hz,q⟩:=zqq
 subst zq3
 subst zq4
 cases rx
 obtain⟨u,zq1,ru⟩:=rv.one
 subst zq1
 obtain⟨z,its,n,r,hl,e⟩:=I.lstM hH
 refine gO F.slot_list_append ⟨_,e,rfl⟩ F.entry_list_append (F.args_list_append_2 _ _) (PySem.list_append l its.toArray n u (by rw[e_];omega)) ⟨e,?_⟩
 refine⟨.non,_,I.lset (its':=its++[u]) hH e (by simp) (r.append (.cons ru .nil)) ?_,rfl,q⟩
 rw[eN,nu]
 omega
def OD:V->List V->Hp->VK->Prop:=fun x vs H Q=>∃ l b xs zs,x=.ref l∧vs=[.ref b]∧H l=some (.lst xs)∧H b=some (.lst zs)∧xs.length+zs.length≤sizeLine∧Q .non (upd H l (.lst (xs++zs)))
theorem L7:vW X "list.extend" OD:=by
 intro pins s σ H x vs v us Q I rx rv h
 revert h
 refine fun zqq=>?_;obtain⟨l,b,xs,zs,zq4,zq5,hH,hB,hz,q⟩:=zqq
 subst zq4
 subst zq5
 cases rx
 obtain⟨u,zq1,ru⟩:=rv.one
 subst zq1
 cases ru
 obtain⟨z,its,n,r,hl,e⟩:=I.lstM hH
 obtain⟨z2,its2,n2,r2,hl2,e2⟩:=I.lstM hB
 have hsz:its.toArray.size+its2.toArray.size≤sizeLine:=by rw[e_,e_];omega
 have hlong:¬ (!its.toArray.isEmpty&&AM (its.toArray.size+its2.toArray.size))=true:=by
  rw[Mw hsz,Bool.and_false]
  exact dH
 refine gO F.slot_list_extend ⟨_,e,rfl⟩ F.entry_list_extend (F.args_list_extend_2 _ _)
  (AutoSeq1.list_extend_list_list_0 l its.toArray n b its2.toArray n2 hlong (by rw[e_];omega) (by omega)) ⟨e,e2,?_⟩
 refine⟨.non,_,I.lset (its':=its++its2) hH e (by simp) (r.append r2) ?_,rfl,q⟩
 rw[eN]
 omega
def OI:V->List V->Hp->VK->Prop:=fun x vs H Q=>∃ l xs y,x=.ref l∧vs=[]∧H l=some (.lst xs)∧xs[xs.length - 1]?=some y∧Q y (upd H l (.lst xs.dropLast))
theorem DD:vW X "list.pop" OI:=by
 intro pins s σ H x vs v us Q I rx rv h
 revert h
 refine fun zqq=>?_;obtain⟨l,xs,y,zq3,zq4,hH,hy,q⟩:=zqq
 subst zq3
 subst zq4
 cases rx
 have hus:=rv.zero
 subst hus
 obtain⟨z,its,n,r,hl,e⟩:=I.lstM hH
 obtain⟨u,hu,ru⟩:=r.get hy
 have hy':its.toArray[its.toArray.size - 1]?=some u:=by
  show its.toArray[its.length - 1]?=some u
  rw[← u0,← hl]
  exact hu
 refine gO F.slot_list_pop ⟨_,e,rfl⟩ F.entry_list_pop (F.args_list_pop_1 _) (MeetsSeq.list_pop_last l its.toArray n u hy' (by rw[e_];omega)) ⟨e,?_⟩
 refine⟨y,_,I.lset (its':=its.dropLast) hH e ?_ r.dropLast ?_,ru,q⟩
 ·show its.toArray.eraseIdxIfInBounds (its.toArray.size - 1)=its.dropLast.toArray
  rw[e_,List.eraseIdxIfInBounds_toArray,JT]
 ·rw[iE]
  omega
end
section
variable {prog:aQ}{w:aM}{A:bw}{E:ah->ar->Prop}{s:ar}
end
section
variable {X:Cx}
end
end L2
namespace Att
open PySem PySem.W PySem.Calls PyProof.Rows
theorem K2 {P:r6}{h:az}:∀ (ns:List Int) (vs:List ah),WellAll P h vs (ns.map WData.int)->o9 vs ns:=by
 intro ns
 induction ns with
 | nil=>
  intro vs w
  rw[rT] at w
  cases w
  exact .nil
 | cons n ns ih=>
  intro vs w
  rw[bV] at w
  cases w with
  | cons a b=>
   cases a
   exact .cons _ _ (ih _ b)
theorem PZ {l:OpenLaw}{n:Nat}(hn:l.most=some n){P:r6}{h:az}{args:List WData}{vals:List ah}
  (hpre:l.row.toRowW.claim.pre args=true) (hwl:WellAll P h vals args) :
  ∃ a vs ns,vals=[Value.ref a]∧args=[WData.list (ns.map WData.int)]∧h.get? a=some {cls:=.type "list",data:=.seq vs.toArray}∧o9 vs ns∧ns.length≤n:=by
 have hsh:WShape.hasAll [] args [.list .int]=true:=(pre_splitW hpre).1
 have hc:l.pre.holds [] {args:=args}=true:=(pre_splitW hpre).2
 obtain⟨d,r,zq2,h1,h2⟩:=hasAllW_cons hsh
 subst zq2
 obtain rfl:=hasAllW_nil h2
 obtain⟨xs,zq1,h3⟩:=hasW_list h1
 subst zq1
 obtain⟨ns,zq1⟩:=items_int h3
 subst zq1
 have hlen:ns.length≤n:=by
  unfold OpenLaw.pre at hc
  have h4:(WTm.not (.lt (.lit (.int (n:Int))) (.len (.arg 0)))).holds [] {args:=[.list (ns.map .int)]}=true:=by
   have h4:=(holds_andW hc).1
   rw[hn] at h4
   exact h4
  have h5:=condW_of h4 (w_not (w_lt w_lit (w_len_list (w_arg rfl))))
  rw[cm] at h5
  refine pz fun q=>?_
  have q':(n:Int)<((ns.length:Nat):Int):=by omega
  first
   | (rw[decide_eq_true q'] at h5;exact absurd h5 (by decide))
   | (simp at h5;omega)
 cases hwl with
 | cons w1 w2=>
  cases w2
  cases w1 with
  | list ho hall=>exact⟨_,_,ns,rfl,rfl,ho,K2 ns _ hall,hlen⟩
theorem Oh (l:OpenLaw)(args:List WData):l.row.toRowW.claim.post args (.bool true) args=true:=
 postW_of (r:=l.row.toRowW) (X:=(true==true))
  (show WShape.has [] (.bool true) .bool=true by first | rfl | decide | simp[WShape.has,WShape.arms,WShape.armsAll])
  (show (WTm.eq .res (.lit (.bool true))).value [] {args:=args,res:=some (.bool true),after:=args}=some (.bool (true==true)) from w_eq_bool (w_res rfl) w_lit) rfl
theorem attach_call {l:OpenLaw}{n:Nat}{q:aQ}{loose:List Str}{XP:(Str->Option ah)->az->Prop}{YP:aM->az->Prop}{d:DefRec}
  (hn:l.most=some n) (hdf:d.params.defaults=[])
  (call:∀ (w:aM) (s₀ s₁:ar) (mg mb:Str->Option ah) (fa:af) (o:Obj) (pm cd doc:ah) (a:af) (vs:List ah) (ns:List Int),
   Ground q loose [] XP w s₀ mg mb s₁.heap->YP w s₁.heap ->
   s₁.heap.get? fa=some o->o.data=.func (docDef d.name d.params d.body d.scope pm cd doc)->s₁.heap.CodeRec cd d.name->mg d.name=some (.ref fa) ->
   s₁.heap.get? a=some {cls:=.type "list",data:=.seq vs.toArray}->o9 vs ns->ns.length≤n->s₁.gens=#[] ->
   gm (aF l.prog w) nU (.call (.ref fa) ⟨[.ref a],[]⟩) (fun r s'=>r=.ok (.ret (.bool true))∧OldK s₁.heap s'.heap∧s'.os=s₁.os∧iS s'.gens) s₁) :
  WalkO q loose XP YP l.row.toRowW d [] (fun f vs=>BB f vs):=by
 intro w s₀ s₁ mg mb G Y fa o pm cd doc dV kV ho hd hcd hD hmg hg args vals as hpre hlay hrd hwl hlo
 obtain rfl:dV=.none:=Dflts.none hD hdf
 obtain rfl:kV=.none:=Dflts.noKw hD
 obtain⟨a,vs,ns,zq3,zq4,hobj,hints,hlen⟩:=PZ hn hpre hwl
 subst zq3
 subst zq4
 refine enter_call (mq (call w s₀ s₁ mg mb fa o pm cd doc a vs ns G Y ho (fd_plain hd) hcd hmg hobj hints hlen hg) fun r s' hq=>?_)
 revert hq
 refine fun zqq=>?_;obtain⟨zq0,h2,h3,h4⟩:=zqq
 subst zq0
 exact⟨.inl ⟨.bool true,.bool true,[],rfl,fun _=>rfl,.bool true,Oh l _,fun _=>⟨List.Pairwise.nil,fun _ hm=>(nomatch hm)⟩⟩,h2,h3,h4⟩
section
variable {prog:aQ}{w:aM}{A:bw}{E:ah->ar->Prop}{s:ar}{K:Frag}
end
end Att
namespace L2
theorem Sh {vs:List ah}{ns:List Int}(h:o9 vs ns):aV (ns.map V.int) vs:=by
 induction h with
 | nil=>exact .nil
 | cons n t h ih=>exact .cons ⟨t,rfl⟩ ih
end L2
namespace L2
abbrev S7 {K:ao}{h:az}(_:K.In h):ao:=K
end L2
namespace L2
def ij (s:aG):uY:=match s with
 | .FunctionDef _ a _ _ _ _ _ _ _ _=>a
 | _=>{posonlyargs:=[],args:=[],vararg:=none,kwonlyargs:=[],kw_defaults:=[],kwarg:=none,defaults:=[]}
def eA (s:aG):List aG:=match s with
 | .FunctionDef _ _ b _ _ _ _ _ _ _=>b
 | _=>[]
def aS (s:aG):Scope:=match s with
 | .FunctionDef _ _ _ _ _ _ sc _ _ _=>sc
 | _=>{kind:=.function,names:=[],isGenerator:=false,isCoroutine:=false}
abbrev bx:fH:=fun _ _ _ _ _ _=>False
abbrev E0:XK:=fun _ _ _=>False
theorem js {X:Cx}:nF bx X E0:=fun _ _ _ _ _ _ _ h=>h.elim
structure bh (K:ao)(x qual:Str)(st:aG)(f:af)(fd:aY):Prop where
 ex:∃ (oc:ah) (od:Option af) (kV doc pm:ah) (an:Option af) (cdv ct:ah) (osl:Array (Option ah)),
  fd=fU x qual (ij st) (eA st) (aS st) .none kV doc pm an cdv ct∧K.lookup f=some ⟨oc,od,.func fd,osl⟩∧we K cdv qual=true
 kp:gK K (.ref f)=true
section
variable {P:aQ}{w:aM}{K:ao}{mg:Str->Option ah}{base:az}
theorem bh.ok {x qual:Str}{st:aG}{f:af}{fd:aY}{N ps:List Str}{k:Nat}{sp:Sp}(F:bh K x qual st f fd)(S:bF N ps (aS st))(len:∀ vs H Q E,sp vs H Q E->vs.length=ps.length)
  (hbody:∀ (cdv:ah) (A:bw) (outer:List Env) (s:ar) (H:Hp) (vs:List V) (Q:VK) (E:XK),bC k (A.deeper (dW qual (aS st) s.heap.objs.size f cdv))->sp vs H Q E ->
   ∃ t,dw (dN bx P w K mg base N qual (aS st) f cdv A outer s H E).nox (eA st) t∧t {nx:=fun _ H'=>Q .non H',rt:=Q} (start N vs) H):aW P w K mg base bx (k+1) f fd ps sp:=by
 obtain⟨oc,od,kV,doc,pm,an,cdv,ct,osl,zq9,lk,hcd⟩:=F.ex
 subst zq9
 refine xu lk hcd S len fun A outer s H vs Q E hr hsp=>?_
 obtain⟨t,h,q⟩:=hbody cdv A outer s H vs Q E hr hsp
 exact⟨t,h.nox,q⟩
theorem bh.binds {x qual:Str}{st:aG}{f:af}{fd:aY}{ps:List Str}(F:bh K x qual st f fd)
  (h:∀ (kV doc pm:ah) (an:Option af) (cdv ct:ah) (us:List ah),us.length=ps.length->bO (fU x qual (ij st) (eA st) (aS st) .none kV doc pm an cdv ct) ⟨us,[]⟩=aN (ps.zip us)):Binds K fd ps []:=by
 obtain⟨oc,od,kV,doc,pm,an,cdv,ct,osl,zq9,lk,hcd⟩:=F.ex
 subst zq9
 exact .all (h kV doc pm an cdv ct)
theorem Tc {x qual:Str}{st:aG}{f:af}{oc:ah}{od an:Option af}{osl:Array (Option ah)}{kV doc pm cdv ct:ah}(l:K.lookup f=some ⟨oc,od,.func (fU x qual (ij st) (eA st) (aS st) .none kV doc pm an cdv ct),osl⟩)
 (c:we K cdv qual=true) (k:gK K (.ref f)=true):bh K x qual st f (fU x qual (ij st) (eA st) (aS st) .none kV doc pm an cdv ct):=⟨⟨oc,od,kV,doc,pm,an,cdv,ct,osl,rfl,l,c⟩,k⟩
end
theorem E9 {n:Nat}(h:n≤1000):n<sizeLine:=kJ h (by decide)
section
variable {X:Cx}
theorem pv (i:Nat){x:Str}{pos:Pos}(hN:X.N[i]?=some x:=by rfl)(hv:nR X.env.scope x:=by first | exact Or.inl rfl | exact Or.inr (Or.inl rfl) | exact Or.inr (Or.inr rfl))(hd:(x==("__debug__":Str))=false:=by decide)
 (hcd:(x==("__classdict__":Str))=false:=by decide):PE X (.Name x pos) (dG i):=N2 hN hv hd hcd
end
def ay (H H':Hp):Prop:=∀ b o,H b=some o->H' b=some o
theorem ay.refl (H:Hp):ay H H:=fun _ _ h=>h
theorem ay.trans {H H1 H2:Hp}(a:ay H H1)(b:ay H1 H2):ay H H2:=fun c o h=>b c o (a c o h)
theorem ay.free {H H':Hp}(e:ay H H'){l:af}(h:H' l=Option.none):H l=Option.none:=by
 cases q:H l with
 | none=>rfl
 | some o=>
  rw[e l o q] at h
  exact L2.Mu h
theorem ay.seq {K:ao}{H H':Hp}{a:af}{xs:List V}(e:ay H H')(h:bD K H a xs):bD K H' a xs:=by
 rcases h with (h | ⟨o,h⟩) | h
 ·exact .inl (.inl (e _ _ h))
 ·exact .inl (.inr ⟨o,e _ _ h⟩)
 ·exact .inr h
end L2
set_option maxHeartbeats 4000000
namespace L2
def TabAt (P:aQ)(K:ao)(p:af):Prop:=∃ x c,x∈gu P∧kQ K x=some (c,p)
open Classical in
theorem Ly {P:aQ}{w:aM}{K:ao}{mg mb:Str->Option ah}{CX:fH}{k:Nat}{fa a:af}{fd:aY}{x:Str}{sp:Sp}{s₁:ar}{vs:List ah}{ns:List Int}
  (KX:K.In s₁.heap) (hns:s₁.heap.Ns a_ mg) (hb:s₁.heap.Ns sv mb) (hbb:∀ x:Str,x≠"__name__"->mb x=dJ x) (hlim:s₁.heap.NoLimit) (hg:s₁.gens=#[])
  (ha:s₁.heap.get? a=some {cls:=.type "list",data:=.seq vs.toArray}) (hi:o9 vs ns) (hl:ns.length≤sizeLine) (hr:bC k nU)
  (hT:∀ x c p,x∈gu P->kQ K x=some (c,p)->PySem.W.CodeHd s₁.heap c p∧s₁.heap.get? p=some (wq #[])) (hTK:∀ x c p,x∈gu P->kQ K x=some (c,p)->K.lookup p=none)
  (hBm:∃ bm ob,mg "__builtins__"=some (.ref bm)∧bm≠sv∧s₁.heap.get? bm=some ob∧ob.cls=.type "module"∧ob.dict=some sv∧ob.data=.plain)
  (F:∀ base:az,K.In base->base.Ns a_ mg->aW P w K mg base CX k fa fd [x] sp) (hbind:∀ (s:ar) (u:ah),jz s fd ⟨[u],[]⟩ [(x,u)])
  (hsp:∀ H:Hp,bD K H a (ns.map V.int)->sp [.ref a] H (fun v _=>v=.bl true) fun _ _ _=>False)
  (hCX:∀ H e s',CX [] H s₁ (fun _ _ _=>False) e s'->False) :
  gm (aF P w) nU (.call (.ref fa) ⟨[.ref a],[]⟩) (fun r s'=>r=.ok (.ret (.bool true))∧OldK s₁.heap s'.heap∧s'.os=s₁.os∧iS s'.gens) s₁:=by
 have rv:=Sh hi
 have lenV:=hi.length
 have objT:∀ {b:af},TabAt P K b->s₁.heap.get? b=some (wq #[]):=fun {b} ⟨y,c,h1,h2⟩=>(hT y c b h1 h2).2
 have aT:¬ TabAt P K a:=fun z=>by have q:=objT z;rw[ha] at q;cases q
 have core:∀ H:Hp,bD K H a (ns.map V.int)->cI P w H s₁.heap->(∀ b u,H b=some u->(b=a∧∃ o xs,u=.frz o (.lst xs))∨(u=.tab∧TabAt P K b))->(∀ b,TabAt P K b->H b=some .tab)->(H a≠none->K.lookup a=none) ->
   gm (aF P w) nU (.call (.ref fa) ⟨[.ref a],[]⟩) (fun r s'=>r=.ok (.ret (.bool true))∧OldK s₁.heap s'.heap∧s'.os=s₁.os∧iS s'.gens) s₁:=by
  intro H hS hok hA hTt hK
  have base_of:∀ {b:af} {o:Obj},s₁.heap.get? b=some o->H b=none->(jl s₁.heap H).get? b=some o:=fun e n=>KA e n
  have free_of:∀ {b:af} {o:Obj},s₁.heap.get? b=some o->o≠{cls:=.type "list",data:=.seq vs.toArray}->o≠wq #[]->H b=none:=fun {b o} e n1 n2=>by
   cases q:H b with
   | none=>rfl
   | some u=>
    rcases hA b u q with ⟨rfl,_⟩ | ⟨_,z⟩
    ·rw[ha] at e;exact absurd (aE e).symm n1
    ·have:=objT z;rw[e] at this;exact absurd (aE this) n2
  have noA:∀ {b:af} {o:Obj} {es:Array ri} {ep:Nat},s₁.heap.get? b=some o->o.data=.dict es ep->H b=none:=fun {b o es ep} e d=>free_of e (fun z=>by rw[z] at d;cases d) (fun z=>by rw[z] at d;cases d)
  have nsK:∀ {b:af} {m:Str->Option ah},s₁.heap.Ns b m->(jl s₁.heap H).Ns b m:=fun {b m} ⟨o,es,ep,e,d,r⟩=>⟨o,es,ep,base_of e (noA e d),d,r⟩
  have hKb:K.In (jl s₁.heap H):=fun b o e=>base_of (KX b o e) (by
   cases q:H b with
   | none=>rfl
   | some u=>
    rcases hA b u q with ⟨rfl,_⟩ | ⟨_,y,c,h1,h2⟩
    ·rw[hK (by rw[q];simp)] at e;cases e
    ·rw[hTK y c b h1 h2] at e;cases e)
  have hM:Mod K mg (jl s₁.heap H):=⟨hKb,nsK hns,⟨mb,nsK hb,hbb⟩,let ⟨mc,h1,h2⟩:=hlim;⟨mc,nsK h1,h2⟩⟩
  have hTb:wB P K mg (jl s₁.heap H) H:=fun y c p h1 h2=>by
   have hp:=(hT y c p h1 h2).2
   refine⟨hTt p ⟨y,c,h1,h2⟩,?_,?_⟩
   ·obtain⟨o,vs',file,tf,flags,tg,inF,text,tt,e1,e2,r⟩:=(hT y c p h1 h2).1
    exact ⟨o,vs',file,tf,flags,tg,inF,text,tt,base_of e1 (free_of e1 (fun z=>by rw[z] at e2;exact absurd e2 (by simp)) fun z=>by rw[z] at e2;exact absurd e2 (by simp)),e2,r⟩
   ·obtain⟨bm,ob,b1,b2,b3,b4,b5,b6⟩:=id hBm
    refine ⟨bm,ob,b1,b2,(fun q=>?_),(fun q=>?_),base_of b3 (free_of b3 (fun z=>by rw[z] at b4;exact absurd b4 (by simp)) fun z=>by rw[z] at b4;exact absurd b4 (by simp)),b4,b5,b6⟩
    ·obtain⟨o,es,ep,e,hd,_⟩:=id hns
     rw[q,e] at b3;cases b3;rw[hd] at b6;cases b6
    ·rw[q,hp] at b3;cases b3;cases b4
  have e0:gi P w K mg (jl s₁.heap H) nU [] s₁ H:=⟨rfl,hM,fun b o e=>MA e,Nat.le_of_eq (KC _ _),trivial,fun b hb=>absurd (show b∈([]:List af) from hb) (by simp),hok,.of_eq hg,hTb⟩
  refine mq ((F _ hKb (nsK hns)).run nU [] s₁ H ⟨[.ref a],[]⟩ [.ref a] [.ref a] _ _ hr e0 (hbind s₁ (.ref a)) (.cons rfl .nil) (hsp H hS)) fun r s' h=>?_
  cases r with
  | error e=>exact (hCX H e s' h).elim
  | ok fl=>
   cases fl with
   | next=>exact cV h
   | brk=>exact cV h
   | cont=>exact cV h
   | ret u=>
    obtain⟨v,H',os,bare,un,hok',r',q⟩:=id h
    have q':v=.bl true:=q
    subst q'
    obtain rfl:u=Value.bool true:=r'
    have all:∀ b o,s₁.heap.get? b=some o->asItWas s₁.heap s'.heap b o∧∃ o',s'.heap.get? b=some o':=fun b o e=>by
     cases q:H b with
     | none=>
      have z:=un.keep b o e q (by intro z;exact absurd (show b∈([]:List af) from z) (by simp)) (by simp)
      exact⟨.inl z,o,z⟩
     | some u=>
      rcases hA b u q with ⟨_,ob,xs,rfl⟩ | ⟨rfl,y,c,h1,h2⟩
      ·have z2:=un.frzs b ob _ q
       obtain⟨e1,_⟩:=hok b _ q
       obtain⟨e2,_⟩:=hok' b _ z2
       rw[e] at e1;cases e1
       exact⟨.inl e2,o,e2⟩
      ·obtain⟨ps,e2,_⟩:=hok' b _ (un.tabs b q)
       obtain⟨hc,hp⟩:=hT y c b h1 h2
       rw[hp] at e;cases e
       exact⟨.inr (.inl ⟨(hc.tab hp).isCodeTable,rfl,#[],ps,rfl,by rw[e2];simp⟩),_,e2⟩
    exact⟨rfl,⟨fun b o e=>(all b o e).1,fun b o e=>(all b o e).2⟩,os,bare⟩
 have okT:∀ (H:Hp) (b:af),TabAt P K b->cP P w H s₁.heap b .tab:=fun H b z=>⟨#[],objT z,trivial,fun pos c q=>by cases q⟩
 cases hk:K.lookup a with
 | some o=>
  have e:=KX a o hk
  rw[ha] at e
  obtain rfl:=aE e
  refine core (fun b=>if TabAt P K b then some .tab else none) (.inr ⟨_,vs.toArray,_,hk,rfl,rfl,rfl,by rw[e_,lenV];exact hl,by simpa using rv⟩) (fun b u z=>?_) (fun b u z=>?_) (fun b z=>if_pos z) fun z=>absurd (if_neg aT) z
  ·by_cases hb:TabAt P K b
   ·have z':=(if_pos hb).symm.trans z
    obtain rfl:=aE z'
    exact okT _ b hb
   ·have z':=(if_neg hb).symm.trans z
    exact L2.bp z'
  ·by_cases hb:TabAt P K b
   ·have z':=(if_pos hb).symm.trans z
    obtain rfl:=aE z'
    exact .inr ⟨rfl,hb⟩
   ·have z':=(if_neg hb).symm.trans z
    exact L2.bp z'
 | none=>
  refine core (fun b=>if b=a then some (.frz {cls:=.type "list",data:=.seq vs.toArray} (.lst (ns.map V.int))) else if TabAt P K b then some .tab else none) (.inl (.inr ⟨{cls:=.type "list",data:=.seq vs.toArray},if_pos rfl⟩)) (fun b u z=>?_) (fun b u z=>?_) (fun b z=>?_) fun _=>hk
  ·by_cases hb:b=a
   ·have z':=(if_pos hb).symm.trans z
    obtain rfl:=aE z'
    subst hb
    exact ⟨ha,(by rw[cm];exact hl),vs,_,rv,ha⟩
   ·have z':=(if_neg hb).symm.trans z
    by_cases hb2:TabAt P K b
    ·have z2:=(if_pos hb2).symm.trans z'
     obtain rfl:=aE z2
     exact okT _ b hb2
    ·have z2:=(if_neg hb2).symm.trans z'
     exact L2.bp z2
  ·by_cases hb:b=a
   ·have z':=(if_pos hb).symm.trans z
    obtain rfl:=aE z'
    exact .inl ⟨hb,_,_,rfl⟩
   ·have z':=(if_neg hb).symm.trans z
    by_cases hb2:TabAt P K b
    ·have z2:=(if_pos hb2).symm.trans z'
     obtain rfl:=aE z2
     exact .inr ⟨rfl,hb2⟩
    ·have z2:=(if_neg hb2).symm.trans z'
     exact L2.bp z2
  ·have hb:b≠a:=fun e=>aT (e▸z)
   rw[if_neg hb,if_pos z]
theorem Sj {l:Bk}{n k:Nat}{q:aQ}{loose:List Str}{XP:(Str->Option ah)->az->Prop}{YP:aM->az->Prop}{d:DefRec}{K:r6->ao}{CX:aM->fH}{sp:aM->Sp}{x:Str}
  (hn:l.most=some n) (hn2:n≤sizeLine) (hdf:d.params.defaults=[]) (hr:bC k nU)
  (hY:∀ (w:aM) (h:az),YP w h->(K w.params).In h)
  (hq:∀ y∈gu l.prog,((t8 q).find? fun e=>e.name==y).isSome=true) (hTK:∀ (w:aM) (y:Str) (c p:af),y∈gu l.prog->kQ (K w.params) y=some (c,p)->(K w.params).lookup p=none)
  (F:∀ (w:aM) (mg:Str->Option ah) (fa:af) (h:az),(K w.params).In h->h.Ns a_ mg->mg d.name=some (.ref fa) ->
   ∃ fd:aY,(∀ (s:ar) (u:ah),jz s fd ⟨[u],[]⟩ [(x,u)]) ∧
    ∀ base:az,(K w.params).In base->base.Ns a_ mg->aW l.prog w (K w.params) mg base (CX w) k fa fd [x] (sp w))
  (hsp:∀ (w:aM) (H:Hp) (a:af) (ns:List Int),ns.length≤n->bD (K w.params) H a (ns.map V.int)->sp w [.ref a] H (fun v _=>v=.bl true) fun _ _ _=>False)
  (hCX:∀ (w:aM) (H:Hp) (s:ar) (e:ah) (s':ar),CX w [] H s (fun _ _ _=>False) e s'->False) :
  PySem.W.WalkO q loose XP YP l.row.toRowW d [] (fun f vs=>BB f vs):=by
 refine Att.attach_call hn hdf fun w s₀ s₁ mg mb fa o pm cd doc a vs ns G Y ho hd hcd hmg hobj hints hlen hg=>?_
 have KX:=hY w _ Y
 obtain⟨fd,hb,hF⟩:=F w mg fa _ KX G.T.g hmg
 refine Ly KX G.T.g G.T.b G.T.builtins G.T.nolimit hg hobj hints (dn hlen hn2) hr (fun y c p h1 h2=>?_) (hTK w) G.T.bmain hF hb (fun H hS=>hsp w H a ns hlen hS) fun H e s'=>hCX w H s₁ e s'
 obtain⟨r,hr'⟩:=Option.isSome_iff_exists.mp (hq y h1)
 exact PySem.W.tab_of G.T KX hr' h2
end L2
namespace L2
end L2
namespace L2
theorem CO {α β:Type}{f:α->β->Sem (ForInStep β)}{g:β->α->β}:∀ (l:List α) (b:β),(∀ x∈l,∀ b,f x b=aN (ForInStep.yield (g b x)))->jW l b f=(aN (l.foldl g b):Sem β)
 | [],b,_=>rfl
 | x::r,b,h=>by
  rw[vQ,h x bQ b]
  simp only[pure_bind,List.foldl_cons]
  exact CO r (g b x) fun y hy=>h y (bP _ hy)
def jb (env:Env)(b:List (Str×af))(x:Str×iZ):List (Str×af):=if x.2==.free then (x.1,(env.cells.lookup x.1).getD 0)::b else b
def kZ (scope:Scope)(env:Env):List (Str×af):=scope.names.foldl (jb env) []
theorem Ji {scope:Scope}{env:Env}(h:∀ x∈scope.names,x.2=.free->∃ c,env.cells.lookup x.1=some c):closureFor scope env=aN (kZ scope env):=by
 simp only[closureFor]
 rw[CO (g:=jb env) scope.names [] ?_]
 ·rfl
 ·rintro⟨n,k⟩ hx b
  unfold jb
  by_cases hk:(k==NameKind.free)=true
  ·obtain⟨c,hc⟩:=h (n,k) hx (by simpa using hk)
   simp only[hk,if_true,cellOf,hc,Option.getD_some,pure_bind]
  ·simp only[hk,AJ,if_false]
theorem Cd {env:Env}:∀ (l:List (Str×iZ)) (b:List (Str×af)) (p:Str×af),p∈l.foldl (jb env) b->p∈b∨∃ x∈l,x.2=.free∧p=(x.1,(env.cells.lookup x.1).getD 0)
 | [],b,p,h=>.inl h
 | x::r,b,p,h=>by
  rcases Cd r (jb env b x) p h with q | ⟨y,hy,e⟩
  ·unfold jb at q
   by_cases hk:(x.2==NameKind.free)=true
   ·rw[if_pos hk] at q
    rcases List.mem_cons.mp q with q | q
    ·exact .inr ⟨x,bQ,by simpa using hk,q⟩
    ·exact .inl q
   ·rw[if_neg hk] at q
    exact .inl q
  ·exact .inr ⟨y,bP _ hy,e⟩
theorem Ce {env:Env}:∀ (l:List (Str×iZ)) (b:List (Str×af)) (p:Str×af),p∈b->p∈l.foldl (jb env) b
 | [],b,p,h=>h
 | x::r,b,p,h=>Ce r _ p (by unfold jb;split;exact bP _ h;exact h)
theorem Jh {env:Env}(l:List (Str×iZ)):∀ (b:List (Str×af)) (x:Str×iZ),x∈l->x.2=.free->(x.1,(env.cells.lookup x.1).getD 0)∈l.foldl (jb env) b:=by
 induction l with
 | nil=>exact fun b x h=>absurd h dC
 | cons y r ih=>
  intro b x h e
  rcases List.mem_cons.mp h with rfl | h
  ·refine Ce r _ _ ?_
   unfold jb
   rw[if_pos (by rw[e];rfl)]
   exact bQ
  ·exact ih _ x h e
theorem LV {l:List (Str×af)}{n:Str}{c:af}(h:(n,c)∈l):∃ d,l.lookup n=some d:=by
 induction l with
 | nil=>cases h
 | cons p r ih=>
  obtain⟨m,d⟩:=p
  by_cases e:n=m
  ·subst e
   exact⟨d,by simp[fJ]⟩
  ·rcases List.mem_cons.mp h with q | q
   ·cases q
    exact absurd rfl e
   ·obtain⟨d',q'⟩:=ih q
    exact⟨d',by rw[fJ,show (n==m)=false by simpa using e];exact q'⟩
theorem mm {scope:Scope}{env:Env}(h:∀ x∈scope.names,x.2=.free->∃ c,env.cells.lookup x.1=some c){n:Str}{c:af}(e:(kZ scope env).lookup n=some c):env.cells.lookup n=some c:=by
 rcases Cd scope.names [] (n,c) (kR e) with q | ⟨x,hx,hf,q⟩
 ·cases q
 ·obtain⟨d,hd⟩:=h x hx hf
  cases q
  rw[hd]
  rfl
theorem Cc {scope:Scope}{env:Env}{n:Str}(h:(n,NameKind.free)∈scope.names):∃ c,(kZ scope env).lookup n=some c:=
 LV (Jh scope.names [] (n,.free) h rfl)
structure kx (sc:Scope)(XN:List Str)(scope:Scope)(k:Nat)(N:List Str)(ix:List Nat):Prop where
 kind:scope.kind=.function
 okind:sc.kind=.function
 nocell:∀ y∈scope.names,y.2≠.cell
 loc:∀ y∈scope.names,y.2=.local->scope.names.lookup y.1=some .local
 fr:∀ y∈scope.names,y.2=.free->sc.names.lookup y.1=some .cell
 sl:ix.map (fun i=>XN[i]?)=(N.drop k).map some
 frl:∀ x∈N.drop k,scope.names.lookup x=some .free
 len:N.length=k+ix.length
def dM (X:Cx)(N:List Str)(scope:Scope)(cl:List (Str×af))(C:af)(s3:ar)(H3:Hp)(fp:List af)(pins:List (af×Obj)):Cx:=
 {X with N:=N,s₀:=s3,H₀:=H3,env:=compEnvC scope cl C X.env,outer:=X.stack,stack:=X.stack,ex:=fp,fn:=fun _=>false,pn:=X.pn++pins}
theorem OV {scope:Scope}{env:Env}{x:Str}(hk:env.scope.kind=.function)(he:env.kindOf x=some .cell)(h:scope.names.lookup x=some .free):(relabel scope env).names.lookup x=some .cell:=by
 have go:∀ names:List (Str×iZ),names.lookup x=some .free ->
   (names.map fun (n,k)=>if (k==NameKind.free&&env.scope.kind==.function&&env.kindOf n==some .cell) then (n,NameKind.cell) else (n,k)).lookup x=some .cell:=by
  intro names
  induction names with
  | nil=>intro h;cases h
  | cons p r ih=>
   obtain⟨n,k⟩:=p
   intro h
   rw[bV]
   by_cases e:x=n
   ·subst e
    have hkf:k=.free:=by simpa [fJ] using h
    subst hkf
    simp[fJ,hk,he]
   ·have e':(x==n)=false:=by simpa using e
    rw[fJ,e'] at h
    have q:=ih h
    dsimp only
    split
    ·rw[fJ,e']
     exact q
    ·rw[fJ,e']
     exact q
 exact go _ h
theorem ED {scope:Scope}{env:Env}{x:Str}{k:iZ}(hc:∀ y∈scope.names,y.2≠.cell)(h:(relabel scope env).names.lookup x=some k)(hk:k=.cell∨k=.free):(x,NameKind.free)∈scope.names:=by
 obtain⟨⟨n,k'⟩,hm,e⟩:=List.mem_map.mp (kR h)
 dsimp only at e
 split at e
 ·rename_i hq
  cases e
  have:k'=.free:=by
   have:=(Bool.and_eq_true_iff.mp (Bool.and_eq_true_iff.mp hq).1).1
   simpa using this
  subst this
  exact hm
 ·cases e
  rcases hk with rfl | rfl
  ·exact absurd rfl (hc _ hm)
  ·exact hm
section
variable {X:Cx}{pins:List (af×Obj)}{σ:St}{H:Hp}{s:ar}{scope:Scope}{k:Nat}{N:List Str}{ix:List Nat}{sc:Scope}{fp:List af}
theorem sF (I:Inv X pins σ H s)(hsc:X.env.scope=sc)(S:kx sc X.N scope k N ix):∀ x∈scope.names,x.2=.free->∃ c,X.env.cells.lookup x.1=some c:=fun x hx hf=>
 I.ok.has x.1 (.inl (by show X.env.scope.names.lookup x.1=_;rw[hsc];exact S.fr x hx hf))
theorem xA (I:Inv X pins σ H s){b:af}(h1:b≠X.env.locals)(h2:b∉X.fs):b∉dQ X.stack:=fun hb=>by
 rcases List.mem_cons.mp (I.stkSub b hb) with e | e
 ·exact h1 e
 ·exact h2 e
theorem Jm (I:Inv X pins σ H s)(hsc:X.env.scope=sc)(S:kx sc X.N scope k N ix)(hf:∀ b∈fp,eg X pins H b)(hlt:∀ b∈fp,b<s.heap.objs.size) :
  (dM X N scope (kZ scope X.env) s.heap.objs.size s H fp pins).Ok:=by
 have hcl:=sF I hsc S
 refine⟨I.ok.mod,S.kind,I.ok.glob,I.ok.blt,cj _,fun x y c h1 h2=>I.ok.inj x y c (mm hcl h1) (mm hcl h2),fun x hx=>?_,fun x c h=>(by cases (show false=true from h)),I.ok.hd,I.ok.frames,.inl rfl,fun b hb=>⟨cJ (hlt b hb),fun x c e=>?_⟩,
  I.bs,dn I.ok.bsz I.sz,fun b o e hb=>?_,fun b hb=>xA I (hf b hb).2.1 (hf b hb).2.2.1,I.stack,I.stkFree,fun x c p h1 h2=>let z:=I.ok.tabs x c p h1 h2;⟨I.base.tabs p z.1,z.2⟩⟩
 ·have hx':(x,NameKind.free)∈scope.names:=by
   rcases hx with hx | hx
   ·exact ED S.nocell hx (.inl rfl)
   ·exact ED S.nocell hx (.inr rfl)
  exact Cc hx'
 ·exact (hf b hb).2.2.2.2.1 x c (mm hcl e)
 ·rcases (hf b hb).2.2.2.1 with z | z
  ·exact I.ok.noex b o e z
  ·exact absurd (dI (bA (I.ok.bs b o e).1) z) (jG _)
def ju (k:Nat)(ix:List Nat)(σ:St):St:=cO k none++ix.map fun i=>(σ[i]?).getD none
theorem Jo (I:Inv X pins σ H s)(hsc:X.env.scope=sc)(S:kx sc X.N scope k N ix)(hf:∀ b∈fp,eg X pins H b)(hlt:∀ b∈fp,b<s.heap.objs.size){h':az}{t:Nat}{m:Str->Option ah}
  (hns:h'.Ns s.heap.objs.size m) (hk:∀ b o,s.heap.get? b=some o->h'.get? b=some o) :
  Inv (dM X N scope (kZ scope X.env) s.heap.objs.size s H fp pins) [] (ju k ix σ) H {s with heap:=h',toks:=t}:=by
 have hcl:=sF I hsc S
 have hkind:X.env.scope.kind=.function:=by rw[hsc];exact S.okind
 have cellK:∀ c v,s.heap.IsCell c v->h'.IsCell c v:=fun c v ⟨o,e,d⟩=>⟨o,hk c o e,d⟩
 refine⟨Jm I hsc S hf hlt,rfl,I.bare,Un.kept hk,⟨m,hns,fun i x v e1 e2 e3=>?_⟩,fun x c e=>?_,I.hok.fresh (cj _),fun x c e=>(I.freeC x c (mm hcl e)).imp id fun z=>⟨rfl,z.2⟩,fun p hp=>?_,I.hok.kept hk,?_⟩
 ·unfold ju at e2
  by_cases hi:i<k
  ·rw[jE (by simpa using hi),nt,if_pos hi] at e2
   cases e2
  ·have hj:k≤i:=pz hi
   rw[lY (by simpa using hj),e7] at e2
   simp only[pj] at e2
   cases hix:ix[i - k]? with
   | none=>rw[hix] at e2;cases e2
   | some j=>
    rw[hix] at e2
    have e2':(σ[j]?).getD none=some v:=aE e2
    have hσ:σ[j]?=some (some v):=by
     cases q:σ[j]? with
     | none=>rw[q] at e2';cases e2'
     | some w=>rw[q] at e2';exact congrArg some e2'
    have hd:(N.drop k)[i - k]?=some x:=by
     rw[List.getElem?_drop]
     have:k+(i - k)=i:=by omega
     rw[this]
     exact e1
    have hXN:X.N[j]?=some x:=by
     have q:=congrArg (fun l=>l[i - k]?) S.sl
     simp only[e7,hix,hd,l5] at q
     exact aE q
    have hfree:=S.frl x (pk hd)
    have hmem:=kR hfree
    have hout:X.env.kindOf x=some .cell:=by
     show X.env.scope.names.lookup x=_
     rw[hsc]
     exact S.fr _ hmem rfl
    obtain⟨m0,hn0,hl0⟩:=I.loc
    obtain⟨u,r,l⟩:=hl0 j x v hXN hσ (.inr (.inl hout))
    refine⟨u,r,.inr ⟨.inl (OV hkind hout hfree),?_⟩⟩
    rcases l with ⟨q,_⟩ | ⟨_,c,hc,z⟩
    ·rw[hout] at q;cases q
    ·obtain⟨c',hc'⟩:=Cc (env:=X.env) hmem
     have e':=mm hcl hc'
     rw[hc] at e'
     obtain rfl:=aE e'
     exact⟨c,hc',cellK c _ z⟩
 ·obtain⟨v,z⟩:=I.cell x c (mm hcl e)
  exact⟨v,cellK c v z⟩
 ·have hp':p∈X.pn++pins:=by simpa [dM] using hp
  obtain⟨e,n,ne,nf,d⟩:=I.pin p hp'
  exact⟨hk _ _ e,n,cJ (bA e),xA I ne nf,d⟩
 ·unfold ju
  show _=N.length
  rw[S.len,eN,pj,cm]
theorem Un.other {fs ex:List af}{H H':Hp}{h h1 h2:az}(u:Un fs ex H H' h h1)(e:∀ b,b<h.objs.size->h2.get? b=h1.get? b):Un fs ex H H' h h2 where
 keep:=fun b o q n hb hx=>(e b (bA q)).trans (u.keep b o q n hb hx)
 slot:=fun b o q n hb hx=>by obtain⟨sl,z⟩:=u.slot b o q n hb hx;exact⟨sl,(e b (bA q)).trans z⟩
 free:=u.free
 there:=fun b o q hx=>by obtain⟨o',z⟩:=u.there b o q hx;exact⟨o',(e b (bA q)).trans z⟩
 tups:=u.tups
 frzs:=u.frzs
 tbls:=u.tbls
 tabs:=u.tabs
theorem Jk {σ':St}{H':Hp}{s':ar}{h':az}{scope:Scope}{cl:List (Str×af)}(I:Inv X pins σ H s)(hf:∀ b∈fp,eg X pins H b)
  (J:Inv (dM X N scope cl s.heap.objs.size s H fp pins) [] σ' H' s') (hs:lU s.heap.objs.size s'.heap h'):Inv X pins σ H' {s' with heap:=h' }:=by
 have un:Un (dQ X.stack) fp H H' s.heap s'.heap:=J.base
 have fr:H' s.heap.objs.size=none:=J.free
 refine I.call' (s':={s' with heap:=h' }) (ch:=fp) J.os (un.other fun b hb=>hs.2 b (cJ hb)) (fun b o e=>?_) J.bare fun b hb=>⟨(hf b hb).2.2.2.1,(hf b hb).2.1,(hf b hb).2.2.2.2.1,(hf b hb).2.2.2.2.2⟩
 refine (J.hok b o e).stay (fun c u hc q=>(hs.2 c ?_).trans q) (fun _ q=>q) fun _ _ q=>q
 rcases hc with hc | hc
 ·rw[hc];exact dh e fr
 ·exact dh hc fr
end
def Rx:TT:=fun _ H Q=>Q true H
def nA (X:Cx)(ifs:List Expr)(t:TT):Prop:=
 ∀ (pins:List (af×Obj)) (s:ar) (σ:St) (H:Hp) (Q:Bool->Hp->Prop),Inv X pins σ H s->t σ H Q ->
  aI (aF X.prog X.w) X.A (jW ifs true fun c r=>if r=true then do let ok ← isTrue c X.env (aB c X.env);aN (ForInStep.yield ok) else aN (ForInStep.yield r)) (TP X pins σ Q) X.xe s
theorem Oa {X:Cx}:nA X [] Rx:=fun pins s σ H Q I h=>wpAny_tests_nil ⟨H,I,h⟩
theorem Jl {prog:aQ}{w:aM}{A:bw}{R:nO->ar->Prop}{s:ar}{elt target iter:Expr}{ifs:List Expr}{scope:Scope}{pos:Pos}{it acc:ah}{env:Env}(J:Nat->ar->Prop)
  (turn:∀ n s,J n s->aI (aF prog w) A (pyNext it) (fun r s1=>match r with
   | none=>R (.ok .next) s1
   | some v=>aI (aF prog w) A (xS target it v) (fun _ s1'=>aI (aF prog w) A (kW target env v) (fun _ s2=>
    aI (aF prog w) A (jW ifs true fun c r=>if r=true then do let ok ← isTrue c env (aB c env);aN (ForInStep.yield ok) else aN (ForInStep.yield r)) (fun ok s3=>
     if ok=true then aI (aF prog w) A (aB elt env) (fun x s4=>
      aI (aF prog w) A (call (.builtin "list.append") [acc,x]) (fun _ s5=>∃ m,m<n∧J m s5) (fun _ _=>False) s4) (fun _ _=>False) s3
     else ∃ m,m<n∧J m s3) (fun _ _=>False) s2) (fun _ _=>False) s1') (fun _ _=>False) s1) (fun _ _=>False) s)
  (n:Nat) (h:J n s):gm (aF prog w) A (.compLoop (.ListComp elt [⟨target,iter,ifs,0⟩] scope pos) 0 it acc env) R s:=by
 refine codeAny_loop rfl J (fun n s hJ=>?_) n h
 show aI _ A ((compTurn (.ListComp elt [⟨target,iter,ifs,0⟩] scope pos) 0 it acc env).onRaise _) _ _ s
 refine wpAny_noted ?_
 rw[compTurn_list]
 refine aU (uT (aU (cT (turn n s hJ) (fun r s1 h1=>?_) fun _ _ z=>cV z)))
 cases r with
 | none=>exact bU h1
 | some v=>
  refine aU (cT h1 (fun _ s1' h1'=>aU (cT h1' (fun _ s2 h2=>aU (cT h2 (fun ok s3 h3=>?_) fun _ _ z=>cV z)) fun _ _ z=>cV z)) fun _ _ z=>cV z)
  cases ok with
  | false=>exact bU ⟨rfl,h3⟩
  | true=>
   refine aU (aU (cT h3 (fun x s4 h4=>aU (cT h4 (fun _ s5 h5=>?_) fun _ _ z=>cV z)) fun _ _ z=>cV z))
   exact bU (bU ⟨rfl,h5⟩)
def uE (wi:TI)(g:TG)(tc:TT)(te:TE)(st:St->St):TE:=fun σ H Q=>wi σ H fun J H1=>∀ D,H1 D=none->∃ W:Nat->Nat->St->Hp->Prop,(∃ m,W 0 m (st σ) (upd H1 D (.lst [])))∧∀ i m τ H2,W i m τ H2 ->
 (J.stop i H2∧Q (.ref D) H2)∨(J.go i H2∧∃ N:St->Hp->Prop,(∀ τ' H',N τ' H'->∃ m',m'<m∧W (i+1) m' τ' H')∧∀ x H3,J.yld i H2 x H3->g x τ H3 fun τ2 H4=>tc τ2 H4 fun b H5=>
  if b=true then te τ2 H5 fun y H6=>∃ ys,H6 D=some (.lst ys)∧ys.length<sizeLine∧N τ2 (upd H6 D (.lst (ys++[y]))) else N τ2 H5)
theorem Jn {Y:Cx}{elt tg iter:Expr}{ifs:List Expr}{scope:Scope}{pos:Pos}{g:TG}{tc:TT}{te:TE}{R:nO->ar->Prop}{it D:af}{fp:List af}{tn:Nat->az->Prop}{J:It}{W:Nat->Nat->St->Hp->Prop}{Q:VK}
  (hx:Y.xe=fun _ _=>False) (hc:Y.calm=true) (hg:PG Y tg g) (ht:nA Y ifs tc) (he:PE Y elt te) (T:mf Y.prog Y.w Y.K tg J fp it tn) (fok:∀ {H':Hp},(∀ b∈fp,H' b=none)->∀ b∈fp,eg Y [] H' b)
  (turn:∀ i m τ H2,W i m τ H2->(J.stop i H2∧Q (.ref D) H2)∨(J.go i H2∧∃ N:St->Hp->Prop,(∀ τ' H',N τ' H'->∃ m',m'<m∧W (i+1) m' τ' H')∧∀ x H3,J.yld i H2 x H3->g x τ H3 fun τ2 H4=>tc τ2 H4 fun b H5=>
   if b=true then te τ2 H5 fun y H6=>∃ ys,H6 D=some (.lst ys)∧ys.length<sizeLine∧N τ2 (upd H6 D (.lst (ys++[y]))) else N τ2 H5))
  (fin:∀ τ H5 s6,Inv Y [] τ H5 s6->Q (.ref D) H5->R (.ok .next) s6) {m0:Nat} {τ0:St} {H0:Hp} {s4:ar} (I4:Inv Y [] τ0 H0 s4) (st4:tn 0 s4.heap) (fr4:∀ b∈fp,H0 b=none) (w0:W 0 m0 τ0 H0) :
  gm (aF Y.prog Y.w) Y.A (.compLoop (.ListComp elt [⟨tg,iter,ifs,0⟩] scope pos) 0 (.ref it) (.ref D) Y.env) R s4:=by
 refine Jl (fun n s'=>∃ i τ H',Inv Y [] τ H' s'∧tn i s'.heap∧(∀ b∈fp,H' b=none)∧W i n τ H') ?_ m0 (⟨0,_,_,I4,st4,fr4,w0⟩)
 intro n s5 zpat
 obtain⟨i,τ,H5,I5,st5,fr5,w5⟩:=zpat
 rcases turn i n τ H5 w5 with ⟨stop,qn⟩ | ⟨go,NX,hN,step⟩
 ·refine aP (T.done Y rfl rfl rfl hc i [] s5 τ H5 _ I5 (fok fr5) st5 stop) fun r s6 zpat=>?_
  obtain⟨hr,I6⟩:=zpat
  subst hr
  exact fin τ H5 s6 I6 qn
 ·refine aP (T.item Y rfl rfl rfl hc i [] s5 τ H5 _ I5 (fok fr5) st5 go) fun r s6 zpat=>?_
  obtain⟨u,hr,h6⟩:=zpat
  subst hr
  refine aP h6 fun _ s7 zpat=>?_
  obtain⟨x,H7,I7,r7,y7,st7,fr7⟩:=zpat
  have pO:∀ {τ9:St} {H9:Hp} {s9:ar},Inv Y ([]++qu fp s7.heap) τ9 H9 s9->NX τ9 H9->∃ m,m<n∧∃ i τ H',Inv Y [] τ H' s9∧tn i s9.heap∧(∀ b∈fp,H' b=none)∧W i m τ H':=fun {τ9 H9 s9} I9 n9=>by
   obtain⟨m',hm,w9⟩:=hN τ9 H9 n9
   refine ⟨m',hm,i+1,τ9,H9,I9.unpinned,(T.keep _ _ _ st7 fun b hb o q=>(I9.pin (b,o) (bB _ (bB _ (tJ hb q)))).1),(fun b hb=>?_),w9⟩
   obtain⟨o,q,_⟩:=T.obj _ _ st7 b hb
   exact (I9.pin (b,o) (bB _ (bB _ (tJ hb q)))).2.1
  have G:=hg _ s7 τ H7 x u _ (I7.pinned (fok fr7) (T.obj _ _ st7)) r7 (step x H7 y7)
  rw[hx] at G
  refine aP G fun _ s8 zpat=>?_
  obtain⟨τ8,H8,I8,q8⟩:=zpat
  have Tt:=ht _ s8 τ8 H8 _ I8 q8
  rw[hx] at Tt
  refine aP Tt fun b s9 zpat=>?_
  obtain⟨H9,I9,q9⟩:=zpat
  cases b with
  | false=>
   rw[if_neg dH] at q9 ⊢
   exact pO I9 q9
  | true=>
   rw[if_pos rfl] at q9 ⊢
   have Te:=he _ s9 τ8 H9 _ I9 q9
   rw[hx] at Te
   refine aP Te fun xv s10 zpat=>?_
   obtain⟨y,H10,I10,r10,ys,hy,hz,n10⟩:=zpat
   have Ap:=DC (X:=Y) _ s10 τ8 H10 (.ref D) [y] (.ref D) [xv] (fun _ H'=>NX τ8 H') I10 rfl (.cons r10 .nil) ⟨D,ys,y,rfl,rfl,hy,hz,n10⟩
   rw[hx] at Ap
   refine aP Ap fun _ s11 zpat=>?_
   obtain⟨_,H11,I11,_,n11⟩:=zpat
   exact pO I11 n11
theorem Ci {X:Cx}{elt tg iter:Expr}{ifs:List Expr}{scope:Scope}{pos cpos:Pos}{wi:TI}{g:TG}{tc:TT}{te:TE}{k:Nat}{N:List Str}{ix:List Nat}(sc:Scope)(hsc:X.env.scope=sc)(S:kx sc X.N scope k N ix)
  (hx:X.xe=fun _ _=>False) (hc:X.calm=true) (hi:PI X tg iter wi)
  (hg:∀ cl C s3 H3 fp pins,PG (dM X N scope cl C s3 H3 fp pins) tg g) (ht:∀ cl C s3 H3 fp pins,nA (dM X N scope cl C s3 H3 fp pins) ifs tc) (he:∀ cl C s3 H3 fp pins,PE (dM X N scope cl C s3 H3 fp pins) elt te)
  {use:Option (ah->Sem Unit)} {QQ:ah->ar->Prop} (pins:List (af×Obj)) (s:ar) (σ:St) (H:Hp) (Q:VK) (I:Inv X pins σ H s) (h:uE wi g tc te (ju k ix) σ H Q)
  (hend:∀ (D C:af) (H5:Hp) (s6:ar),(∀ h',lU C s6.heap h'->Inv X pins σ H5 {s6 with heap:=h' })->(∃ m6,s6.heap.Ns C m6)->eg X pins H5 C->Q (.ref D) H5->compPost (aF X.prog X.w) X.A X.xe use QQ (.ref D) C (.ok .next) s6)
  (hs:∀ x,k7 iter X.env x=aN x:=by intro _;rfl):aI (aF X.prog X.w) X.A (Ck (.ListComp elt [⟨tg,iter,ifs,0⟩] scope pos) scope X.env cpos (newList []) false (aB iter X.env) use) QQ X.xe s:=by
 refine wpAny_comprehension_free (use:=use) rfl hs (Ji (sF I hsc S)) S.kind S.loc (aP (hi pins s σ H _ I h) fun v s1 h1=>aP h1 fun itv s2 h2=>?_)
 obtain⟨it,fp,tn,J,H2,e,I2,T,st2,f2,q2⟩:=id h2
 subst e
 refine Sr ?_ (by show 0≤sizeLine;exact kL _)
 have hDn:H2 s2.heap.objs.size=none:=I2.hok.fresh (cj _)
 obtain⟨W,⟨m0,w0⟩,turn⟩:=q2 s2.heap.objs.size hDn
 have kp3:∀ b o,s2.heap.get? b=some o->(s2.heap.push {cls:=.type "list",data:=.seq ([]:List ah).toArray}).get? b=some o:=fun b o q=>cL _ q
 have I3:Inv X pins σ (upd H2 s2.heap.objs.size (.lst [])) {s2 with heap:=s2.heap.push {cls:=.type "list",data:=.seq ([]:List ah).toArray}}:=
  I2.laid (t':=s2.toks) kp3 (cj _) ⟨kL _,[],0,.nil,fA _ rfl⟩
 have hlt2:∀ b∈fp,b<s2.heap.objs.size:=fun b hb=>by obtain⟨o,q,_⟩:=T.obj _ _ st2 b hb;exact bA q
 have f3:∀ b∈fp,eg X pins (upd H2 s2.heap.objs.size (.lst [])) b:=fun b hb=>⟨by rw[ba (cJ (hlt2 b hb))];exact (f2 b hb).1,(f2 b hb).2⟩
 generalize hs3:({s2 with heap:=s2.heap.push {cls:=.type "list",data:=.seq ([]:List ah).toArray}}:ar)=s3 at I3
 have st3:tn 0 s3.heap:=by rw[← hs3];exact T.keep _ _ _ st2 fun b hb o q=>kp3 b o q
 have hlt3:∀ b∈fp,b<s3.heap.objs.size:=fun b hb=>by obtain⟨o,q,_⟩:=T.obj _ _ st3 b hb;exact bA q
 generalize s2.heap.objs.size=D at w0 turn I3 f3 hDn
 generalize upd H2 D (.lst [])=H3 at w0 I3 f3
 refine wpAny_newFunctionEnv S.nocell (by intro y hy;cases hy) (fun h4 hns hsb=>?_) S.kind
 have kp4:∀ b o,s3.heap.get? b=some o->h4.get? b=some o:=fun b o q=>hsb.extBut b o (cJ (bA q)) (cL _ q)
 have I4:=Jo (t:=s3.toks+([]:List (Str×ah)).length) I3 hsc S f3 hlt3 hns kp4
 have st4:tn 0 h4:=T.keep _ _ _ st3 fun b hb o q=>kp4 b o q
 -- the context of the block
 have loop:∀ s4:ar,s4={s3 with heap:=h4,toks:=s3.toks+([]:List (Str×ah)).length} ->
   gm (aF X.prog X.w) X.A (.compLoop (.ListComp elt [⟨tg,iter,ifs,0⟩] scope pos) 0 (.ref it) (.ref D) (compEnvC scope (kZ scope X.env) s3.heap.objs.size X.env))
    (compPost (aF X.prog X.w) X.A X.xe use QQ (.ref D) s3.heap.objs.size) s4:=by
  rintro s4 rfl
  have fok:∀ {H':Hp},(∀ b∈fp,H' b=none)->∀ b∈fp,eg (dM X N scope (kZ scope X.env) s3.heap.objs.size s3 H3 fp pins) [] H' b:=fun {H'} hn b hb=>
   ⟨hn b hb,cJ (hlt3 b hb),xA I3 (f3 b hb).2.1 (f3 b hb).2.2.1,.inl hb,fun x c e=>(f3 b hb).2.2.2.2.1 x c (mm (sF I3 hsc S) e),fun p hp=>(f3 b hb).2.2.2.2.2 p (by simpa [dM] using hp)⟩
  exact Jn (Y:=dM X N scope (kZ scope X.env) s3.heap.objs.size s3 H3 fp pins) hx hc (hg _ _ _ _ _ _) (ht _ _ _ _ _ _) (he _ _ _ _ _ _) T fok turn (fun τ H5 s6 I6 qn=>by
   obtain⟨m6,hn6,_⟩:=I6.loc
   exact hend D _ H5 s6 (fun h' hs'=>Jk I3 f3 I6 hs') ⟨m6,hn6⟩ (I3.fpOk (cj _) I6.free) qn) I4 st4 (fun b hb=>(f3 b hb).1) w0
 subst hs3
 exact codeAny_compStart_list (loop _ rfl) (T.self _ 0 _ _ _ st4 (loop _ rfl))
theorem NQ {X:Cx}{elt tg iter:Expr}{ifs:List Expr}{scope:Scope}{pos:Pos}{wi:TI}{g:TG}{tc:TT}{te:TE}{k:Nat}{N:List Str}{ix:List Nat}(sc:Scope)(hsc:X.env.scope=sc)(S:kx sc X.N scope k N ix)
  (hx:X.xe=fun _ _=>False) (hc:X.calm=true) (hi:PI X tg iter wi)
  (hg:∀ cl C s3 H3 fp pins,PG (dM X N scope cl C s3 H3 fp pins) tg g) (ht:∀ cl C s3 H3 fp pins,nA (dM X N scope cl C s3 H3 fp pins) ifs tc) (he:∀ cl C s3 H3 fp pins,PE (dM X N scope cl C s3 H3 fp pins) elt te)
  (hs:∀ x,k7 iter X.env x=aN x:=by intro _;rfl):PE X (.ListComp elt [⟨tg,iter,ifs,0⟩] scope pos) (uE wi g tc te (ju k ix)):=by
 intro pins s σ H Q I h
 rw[eval_ListComp]
 show aI _ X.A (Ck (.ListComp elt [⟨tg,iter,ifs,0⟩] scope pos) scope X.env _ (newList []) false (aB iter X.env) none) _ _ s
 refine Ci sc hsc S hx hc hi hg ht he (use:=none) (QQ:=EP X pins σ Q) pins s σ H Q I h (fun D C H5 s6 hI hm hf q=>?_) hs
 obtain⟨m6,hn6⟩:=id hm
 exact⟨m6,hn6,fun h' hs'=>⟨.ref D,H5,hI h' hs',rfl,q⟩⟩
theorem Oo {X:Cx}{i:Nat}{x:Str}{pos' spos:Pos}{elt tg iter:Expr}{ifs:List Expr}{scope:Scope}{pos:Pos}{wi:TI}{g:TG}{tc:TT}{te:TE}{k:Nat}{N:List Str}{ix:List Nat}(hN:X.N.Nodup)(hi':X.N[i]?=some x)(hx':Loc X.env.scope x)(sc:Scope)(hsc:X.env.scope=sc)(S:kx sc X.N scope k N ix)
  (hx:X.xe=fun _ _=>False) (hc:X.calm=true) (hi:PI X tg iter wi)
  (hg:∀ cl C s3 H3 fp pins,PG (dM X N scope cl C s3 H3 fp pins) tg g) (ht:∀ cl C s3 H3 fp pins,nA (dM X N scope cl C s3 H3 fp pins) ifs tc) (he:∀ cl C s3 H3 fp pins,PE (dM X N scope cl C s3 H3 fp pins) elt te)
  (hsw:dF (.ListComp elt [⟨tg,iter,ifs,0⟩] scope pos) (some (.Name x pos')) spos.line X.env=aN true:=by rfl) (hf:X.fn x=true∨X.env.scope.names.lookup x=some .local:=by first | exact .inl rfl | exact .inr rfl | assumption)
  (hs:∀ x,k7 iter X.env x=aN x:=by intro _;rfl):PS X (.Assign [.Name x pos'] (.ListComp elt [⟨tg,iter,ifs,0⟩] scope pos) spos) (uD (uE wi g tc te (ju k ix)) (sV i)):=by
 intro pins s σ H D I h
 rw[exec_Assign_Name_used _ _ _ _ hsw]
 refine aU (uT (aU ?_))
 show aI _ X.A (do let _ ← Ck (.ListComp elt [⟨tg,iter,ifs,0⟩] scope pos) scope X.env _ (newList []) false (aB iter X.env) (some (kW (.Name x pos') X.env))) _ _ s
 refine aU (cT (Ci sc hsc S hx hc hi hg ht he (use:=some (kW (.Name x pos') X.env)) (QQ:=fun _ s'=>SP X pins D .next s') pins s σ H _ I h (fun D' C H5 s6 hI hm hfp q=>?_) hs) (fun _ s' hq=>bU (bU hq)) fun _ _ e=>e)
 obtain⟨m6,hn6⟩:=id hm
 have I6:Inv X pins σ H5 s6:=hI s6.heap (Heap.SameBut.refl _ _)
 show aI _ X.A (kW (.Name x pos') X.env (.ref D')) _ _ s6
 refine Sm (Fo I6 hN hi' hx' (v:=.ref D') rfl (fun s7 I7 hs7=>?_) hf)
 obtain⟨a,hsb,ha⟩:=id hs7
 have hne:C≠a:=by
  rcases ha with rfl | ha
  ·exact hfp.2.1
  ·exact fun z=>hfp.2.2.2.2.1 x a ha z.symm
 refine⟨m6,hn6.sameBut hsb hne,fun h' hs'=>⟨_,H5,?_,q⟩⟩
 have:=Inv.turned (t':=s7.toks) (it:=C) (h':=h') I7 (fun b o hb e=>(hs'.2 b hb).trans e) hfp.1 hfp.2.1 hfp.2.2.2.1 hfp.2.2.2.2.1 hfp.2.2.2.2.2
 exact this
end L2
namespace L2
theorem ay.tup {K:ao}{H H':Hp}{a:af}{xs:List V}(e:ay H H')(h:cF K H a xs):cF K H' a xs:=by
 rcases h with (h | ⟨o,h⟩) | h
 ·exact .inl (.inl (e _ _ h))
 ·exact .inl (.inr ⟨o,e _ _ h⟩)
 ·exact .inr h
def OB (K:ao):R2:=fun x y H Q=>∃ l b xs zs,x=.ref l∧y=.ref b∧bD K H l xs∧bD K H b zs∧xs.length+zs.length≤sizeLine∧∀ p,H p=none->Q (.ref p) (upd H p (.lst (xs++zs)))
theorem yc {X:Cx}:cE X (i_ .Add) (OB X.K):=by
 intro pins s σ H x y v u Q I rx ry h
 revert h
 refine fun zqq=>?_;obtain⟨l,b,xs,zs,zq4,zq5,hH,hB,hz,q⟩:=zqq
 subst zq4
 subst zq5
 cases rx
 cases ry
 obtain⟨its,r,pl,hz1⟩:=I.list hH
 obtain⟨its2,r2,pl2,hz2⟩:=I.list hB
 have l1:=r.length
 have l2:=r2.length
 obtain⟨⟨cls,dd,data,sl⟩,ho,hc,n,hd⟩:=pl.isList
 obtain⟨⟨cls2,dd2,data2,sl2⟩,ho2,hc2,n2,hd2⟩:=pl2.isList
 simp only at hc hd hc2 hd2
 subst hc hd hc2 hd2
 have ea:its.toArray++its2.toArray=(its++its2).toArray:=by simp
 refine concat_meets ⟨_,ho,rfl⟩ ⟨_,ho2,rfl⟩ noFill_list_add seq_list_add PySem.F.slot_list_add PySem.F.entry_list_add (PySem.F.args_list_add_2 _ _) (list_addW l b its.toArray its2.toArray n n2 dd dd2 sl sl2 (by simp only[e_];omega)) ⟨ho,ho2,?_⟩
 rw[ea]
 exact⟨.ref _,_,I.lnew (t':=s.toks) (r.append r2) (by rw[eN];exact hz),rfl,q _ I.fresh⟩
def big:Nat:=2 ^ 1000
theorem B1 {a:Int}(h:a.natAbs<big):F8 a≤2 ^ 20:=by
 unfold F8
 by_cases h0:a=0
 ·subst h0;simp
 ·have h1:a.natAbs≠0:=by omega
  have h2:a.natAbs.log2<1000:=(vX h1).mpr h
  have h3:(a==0)=false:=by simpa using h0
  rw[h3]
  simp only[AJ,if_false]
  have:(2:Nat) ^ 20=1048576:=by decide
  omega
theorem LS {a:Int}(h:a.natAbs<big):a.natAbs.log2<9000:=by
 by_cases h0:a.natAbs=0
 ·rw[h0];decide +kernel
 ·have h2:a.natAbs.log2<1000:=(vX h0).mpr h
  omega
def Gk (i j:Int):Prop:=(i.natAbs<big∧j.natAbs<big)∨q_ i j
def Gh (_ j:Int):Prop:=j≠0∧j.natAbs<big
theorem NB {X:Cx}:cE X (i_ .Mult) (rI Gk fun i j=>.int (i*j)):=tS fun _ _ _ _ _ _ _ hc q=>mul_int q (hc.elim (fun z=>.of_bits (B1 z.1) (B1 z.2)) q_.ok)
theorem Nq {X:Cx}:cE X (i_ .FloorDiv) (rI Gh fun i j=>.int (i.fdiv j)):=tS fun _ _ _ _ _ _ _ hc q=>floordiv_int hc.1 q (.inl (PyProof.noPylong_of_log2 (LS hc.2)))
structure jD where
 qual:Str
 params:uY
 body:Expr
 scope:Scope
 ps:List Str
 free:List Str
class Reg where
 reg:Str->Option jD
variable [Reg]
def fz (a:af)(o:Obj):HO:=.frz o (.ext fun h=>h.get? a=some o)
def rQ (H:Hp)(g:af)(L:jD)(cv:List V):Prop:=
 ∃ (clos:List (Str×af)) (pm:ah) (c':af) (ctv:ah) (oc:Obj) (vs:Array ah) (q:Str) (t:Tok) (φ:HO),H g=some (fz g (PySem.W.kla_obj "<lambda>" L.qual L.params L.body L.scope clos pm c' ctv))∧H c'=some (.frz oc φ)∧oc.data=.fields vs∧vs[1]?=some (.str q t)∧cv.length=clos.length ∧
  clos.map (fun z=>z.1)=L.free∧(clos.map (fun z=>z.2)).Nodup∧∀ (i:Nat) (z:Str×af) (v:V),clos[i]?=some z->cv[i]?=some v->∃ u o,H z.2=some (fz z.2 o)∧o.data=.cell (some u)∧RelV v u
def ni (K:ao)(H:Hp)(g:af)(tag:Str)(cv:List V):Prop:=
 (Reg.reg tag=none∧cv=[]∧bG K a_ tag=some (some (.ref g)))∨∃ L,Reg.reg tag=some L∧rQ H g L cv
theorem rQ.mono {H H':Hp}{g:af}{L:jD}{cv:List V}(e:ay H H')(h:rQ H g L cv):rQ H' g L cv:=by
 obtain⟨clos,pm,c',ctv,oc,vs,q,t,φ,h1,h2,h3,h4,h5,h6,h7,h8⟩:=id h
 exact ⟨clos,pm,c',ctv,oc,vs,q,t,φ,e _ _ h1,e _ _ h2,h3,h4,h5,h6,h7,(fun i q v a b=>let ⟨u,o,x,y⟩:=h8 i q v a b;⟨u,o,e _ _ x,y⟩)⟩
theorem ni.mono {K:ao}{H H':Hp}{g:af}{tag:Str}{cv:List V}(e:ay H H')(h:ni K H g tag cv):ni K H' g tag cv:=by
 rcases h with h | ⟨L,h1,h2⟩
 ·exact .inl h
 ·exact .inr ⟨L,h1,h2.mono e⟩
def lM (K:ao)(H:Hp)(e:af)(cls:Str)(fv:List (Str×V)):Prop:=
 ∃ (oe:Obj) (C:af) (vs:Array ah),H e=some (fz e oe)∧oe.cls=.ref C∧oe.data=.fields vs∧bG K a_ cls=some (some (.ref C))∧((fv=[]∧oe.dict=none)∨∃ dx,oe.dict=some dx∧H dx=some (.xd fv))
theorem lM.mono {K:ao}{H H':Hp}{e:af}{cls:Str}{fv:List (Str×V)}(s:ay H H')(h:lM K H e cls fv):lM K H' e cls fv:=by
 obtain⟨oe,C,vs,h1,h2,h3,h4,h5⟩:=id h
 refine ⟨oe,C,vs,s _ _ h1,h2,h3,h4,?_⟩
 rcases h5 with h5 | ⟨dx,h5,h6⟩
 ·exact .inl h5
 ·exact .inr ⟨dx,h5,s _ _ h6⟩
def jj (cls:Str)(fd:List ae):ae:=.dict [(.bool true,.str cls),(.none,.tuple fd)]
def og (fv:List (Str×V)):List ae:=fv.map fun p=>.str p.1
def rL (K:ao)(H:Hp)(a:af)(cls:Str)(fs:List (Str×V)):Prop:=∃ C dx,H a=some (.ins C dx fs)∧bG K a_ cls=some (some (.ref C))
theorem rL.mono {K:ao}{H H':Hp}{a:af}{cls:Str}{fs:List (Str×V)}(s:ay H H')(h:rL K H a cls fs):rL K H' a cls fs:=by
 obtain⟨C,dx,h1,h2⟩:=id h
 exact ⟨C,dx,s _ _ h1,h2⟩
def gw (cls:Str)(ns:List Str)(fd:List ae):ae:=.dict [(.bool false,.str cls),(.none,.tuple (ns.map .str)),(.none,.tuple fd)]
def lK (H:Hp)(a:af)(kvs:List (bt×V))(ks:List Str):Prop:=H a=some (.dK kvs)∧kvs.map (·.1)=ks.map Sum.inr
theorem lK.mono {H H':Hp}{a:af}{kvs:List (bt×V)}{ks:List Str}(s:ay H H')(h:lK H a kvs ks):lK H' a kvs ks:=⟨s _ _ h.1,h.2⟩
def mv (ks:List Str)(ds:List ae):ae:=.dict [(.int 0,.tuple (ks.map .str)),(.none,.tuple ds)]
mutual
inductive aJ (K:ao)(H:Hp):V->ae->Prop
 | non:aJ K H .non .none
 | bl (b:Bool):aJ K H (.bl b) (.bool b)
 | int (i:Int):aJ K H (.int i) (.int i)
 | str (x:Str):aJ K H (.str x) (.str x)
 | tup {a:af} {vs:List V} {ds:List ae}:cF K H a vs->aD K H vs ds->aJ K H (.ref a) (.tuple ds)
 | lst {a:af} {vs:List V} {ds:List ae}:bD K H a vs->aD K H vs ds->aJ K H (.ref a) (.list ds)
 | fn {g:af} {tag:Str} {cv:List V} {caps:List ae}:ni K H g tag cv->aD K H cv caps->aJ K H (.ref g) (.dict [(.none,.str tag),(.none,.tuple caps)])
 | exc {e:af} {cls:Str} {fv:List (Str×V)} {fd:List ae}:lM K H e cls fv->aD K H (fv.map (·.2)) fd->aJ K H (.ref e) (.dict [(.bool true,.str cls),(.none,.tuple (og fv++fd))])
 | obj {a:af} {cls:Str} {fs:List (Str×V)} {fd:List ae}:rL K H a cls fs->aD K H (fs.map (·.2)) fd->aJ K H (.ref a) (.dict [(.bool false,.str cls),(.none,.tuple ((fs.map (·.1)).map .str)),(.none,.tuple fd)])
 | dct {a:af} {kvs:List (bt×V)} {ks:List Str} {ds:List ae}:lK H a kvs ks->aD K H (kvs.map (·.2)) ds->aJ K H (.ref a) (.dict [(.int 0,.tuple (ks.map .str)),(.none,.tuple ds)])
inductive aD (K:ao)(H:Hp):List V->List ae->Prop
 | nil:aD K H [] []
 | cons {v:V} {d:ae} {vs:List V} {ds:List ae}:aJ K H v d->aD K H vs ds->aD K H (v::vs) (d::ds)
end
section
variable {K:ao}{H H':Hp}
theorem aJ.mono (e:ay H H'){v:V}{d:ae}(h:aJ K H v d):aJ K H' v d:=
 aJ.rec (motive_1:=fun v d _=>aJ K H' v d) (motive_2:=fun vs ds _=>aD K H' vs ds) .non .bl .int .str (fun h _ r=>.tup (e.tup h) r) (fun h _ r=>.lst (e.seq h) r) (fun h _ r=>.fn (h.mono e) r) (fun h _ r=>.exc (h.mono e) r) (fun h _ r=>.obj (h.mono e) r) (fun h _ r=>.dct (h.mono e) r) .nil (fun _ _ a b=>.cons a b) h
theorem aD.mono (e:ay H H'){vs:List V}{ds:List ae}(h:aD K H vs ds):aD K H' vs ds:=
 aD.rec (motive_1:=fun v d _=>aJ K H' v d) (motive_2:=fun vs ds _=>aD K H' vs ds) .non .bl .int .str (fun h _ r=>.tup (e.tup h) r) (fun h _ r=>.lst (e.seq h) r) (fun h _ r=>.fn (h.mono e) r) (fun h _ r=>.exc (h.mono e) r) (fun h _ r=>.obj (h.mono e) r) (fun h _ r=>.dct (h.mono e) r) .nil (fun _ _ a b=>.cons a b) h
theorem aD.ind {M:List V->List ae->Prop}(n:M [] [])(c:∀ {v d vs ds},aJ K H v d->aD K H vs ds->M vs ds->M (v::vs) (d::ds)){vs:List V}{ds:List ae}(h:aD K H vs ds):M vs ds:=
 aD.rec (motive_1:=fun _ _ _=>True) (motive_2:=fun vs ds _=>M vs ds) trivial (fun _=>trivial) (fun _=>trivial) (fun _=>trivial) (fun _ _ _=>trivial) (fun _ _ _=>trivial) (fun _ _ _=>trivial) (fun _ _ _=>trivial) (fun _ _ _=>trivial) (fun _ _ _=>trivial) n (fun h r _ ih=>c h r ih) h
theorem aD.length {vs:List V}{ds:List ae}(h:aD K H vs ds):vs.length=ds.length:=h.ind (M:=fun vs ds=>vs.length=ds.length) rfl fun _ _ ih=>congrArg (·+1) ih
theorem aD.get {vs:List V}{ds:List ae}{i:Nat}{d:ae}(h:aD K H vs ds):ds[i]?=some d->∃ v,vs[i]?=some v∧aJ K H v d:=
 h.ind (M:=fun vs ds=>∀ i,ds[i]?=some d->∃ v,vs[i]?=some v∧aJ K H v d) (fun _ e=>by rw[vS] at e;cases e) (fun h _ ih i=>by
  cases i with
  | zero=>intro e;cases e;exact⟨_,rfl,h⟩
  | succ i=>exact ih i) i
theorem aD.append {vs ws:List V}{ds es:List ae}(h:aD K H vs ds)(s:aD K H ws es):aD K H (vs++ws) (ds++es):=h.ind (M:=fun vs ds=>aD K H (vs++ws) (ds++es)) s fun h _ ih=>.cons h ih
theorem aD.set {v:V}{d:ae}(h:aJ K H v d):∀ {vs:List V} {ds:List ae} (i:Nat),aD K H vs ds->aD K H (vs.set i v) (ds.set i d)
 | _,_,_,.nil=>.nil
 | _,_,0,.cons _ r=>.cons h r
 | _,_,i+1,.cons q r=>.cons q (aD.set h i r)
theorem aD.take:∀ {vs:List V} {ds:List ae} (n:Nat),aD K H vs ds->aD K H (vs.take n) (ds.take n)
 | _,_,0,_=>.nil
 | _,_,_+1,.nil=>.nil
 | _,_,n+1,.cons h r=>.cons h (aD.take n r)
theorem aD.drop:∀ {vs:List V} {ds:List ae} (n:Nat),aD K H vs ds->aD K H (vs.drop n) (ds.drop n)
 | _,_,0,r=>r
 | _,_,_+1,.nil=>.nil
 | _,_,n+1,.cons _ r=>aD.drop n r
theorem aD.ints:∀ ns:List Int,aD K H (ns.map V.int) (ns.map PyData.int)
 | []=>.nil
 | n::r=>.cons (.int n) (aD.ints r)
theorem aD.atI {vs:List V}{ds:List ae}{i:Int}{d:ae}(r:aD K H vs ds)(h:atI ds i=some d):∃ v,L2.atI vs i=some v∧aJ K H v d:=by
 unfold L2.atI at h ⊢
 rw[← r.length] at h
 cases e:f6 vs.length i with
 | none=>rw[e] at h;cases h
 | some j=>
  rw[e] at h
  obtain⟨v,h1,h2⟩:=r.get h
  exact⟨v,h1,h2⟩
inductive Sc:V->ae->Prop
 | non:Sc .non .none
 | bl (b:Bool):Sc (.bl b) (.bool b)
 | int (i:Int):Sc (.int i) (.int i)
 | str (x:Str):Sc (.str x) (.str x)
theorem Sc.den {v:V}{d:ae}(h:Sc v d):aJ K H v d:=by
 cases h with
 | non=>exact .non
 | bl b=>exact .bl b
 | int i=>exact .int i
 | str x=>exact .str x
theorem eD {v:V}{i:Int}(h:aJ K H v (.int i)):v=.int i:=by cases h;rfl
theorem iK {v:V}{b:Bool}(h:aJ K H v (.bool b)):v=.bl b:=by cases h;rfl
theorem dr {v:V}{x:Str}(h:aJ K H v (.str x)):v=.str x:=by cases h;rfl
inductive AU (K:ao)(H:Hp)(v:V)(ds:List ae):Prop
 | mk (a:af) (vs:List V) (e:v=.ref a) (q:bD K H a vs) (r:aD K H vs ds):AU K H v ds
inductive AV (K:ao)(H:Hp)(v:V)(ds:List ae):Prop
 | mk (a:af) (vs:List V) (e:v=.ref a) (q:cF K H a vs) (r:aD K H vs ds):AV K H v ds
theorem dU {v:V}{ds:List ae}(h:aJ K H v (.list ds)):AU K H v ds:=by cases h with | lst q r=>exact⟨_,_,rfl,q,r⟩
theorem pT {v:V}{ds:List ae}(h:aJ K H v (.tuple ds)):AV K H v ds:=by cases h with | tup q r=>exact⟨_,_,rfl,q,r⟩
theorem mw {vs:List V}{d:ae}{ds:List ae}(h:aD K H vs (d::ds)):∃ v ws,vs=v::ws∧aJ K H v d∧aD K H ws ds:=by cases h with | cons q r=>exact⟨_,_,rfl,q,r⟩
theorem sI {vs:List V}(h:aD K H vs []):vs=[]:=by cases h;rfl
def lf:ae->Bool
 | .list _=>false
 | .dict _=>false
 | .tuple ds=>go ds
 | _=>true
where go:List ae->Bool
 | []=>true
 | d::r=>lf d&&go r
end
section
variable {X:Cx}{pins:List (af×Obj)}{σ:St}{H:Hp}{s:ar}
theorem aJ.reads (I:Inv X pins σ H s){v:V}{d:ae}{u:ah}(h:aJ X.K H v d)(z:d.canLay0=true)(r:RelV v u):∃ as,Reads s.heap u d as:=by
 refine aJ.rec (motive_1:=fun v d _=>d.canLay0=true->∀ u,RelV v u->∃ as,Reads s.heap u d as) (motive_2:=fun vs ds _=>pG ds=true->∀ us,aV vs us->∃ as,ReadsAll s.heap us ds as) ?_ ?_ ?_ ?_ ?_ ?_ (fun _ _ _ z=>by simp[i5] at z) (fun _ _ _ z=>by simp[i5] at z) (fun _ _ _ z=>by simp[i5] at z) (fun _ _ _ z=>by simp[i5] at z) ?_ ?_ h z u r
 ·intro _ u r;cases r;exact⟨_,Reads.none⟩
 ·intro b _ u r;cases r;exact⟨_,Reads.bool b⟩
 ·intro i _ u r;obtain⟨t,rfl⟩:=r;exact⟨_,Reads.int i t⟩
 ·intro x _ u r;obtain⟨t,rfl⟩:=r;exact⟨_,Reads.str x t⟩
 ·intro _ _ _ h _ ih z u r
  cases r
  obtain⟨its,rv,⟨o,e,c,n,d⟩,_⟩:=I.tuple h
  obtain⟨as,z⟩:=ih (by simpa [i5] using z) its rv
  exact⟨as,reads_tuple_at e c d (by simpa using z)⟩
 ·intro _ _ _ h _ ih z u r
  cases r
  obtain⟨its,rv,⟨o,n,e,c,_,d⟩,_⟩:=I.list h
  obtain⟨as,z⟩:=ih (by simpa [i5] using z) its rv
  exact⟨_,reads_list_at e c d (by simpa using z)⟩
 ·intro _ us r;cases r;exact⟨_,ReadsAll.nil⟩
 ·intro _ _ _ _ _ _ ih1 ih2 z us r
  rw[pG,cq] at z
  cases r with
  | cons r1 r2=>
   obtain⟨as,z1⟩:=ih1 z.1 _ r1
   obtain⟨bs,y⟩:=ih2 z.2 _ r2
   exact⟨_,ReadsAll.cons z1 y⟩
def En (K:ao):R2:=fun x y H Q=>∃ da db,aJ K H x da∧aJ K H y db∧fW da=true∧fW db=true∧Q (.bl (i6 da db)) H
def Eu (K:ao):R2:=fun x y H Q=>∃ da db,aJ K H x da∧aJ K H y db∧fW da=true∧fW db=true∧Q (.bl (!i6 da db)) H
theorem Np (hu:X.A.units+64<cLine):cE X (fC .Eq) (En X.K):=by
 intro pins s σ H x y v u Q I rx ry h
 obtain⟨da,db,ha,hb,sa,sb,q⟩:=id h
 obtain⟨as,ra⟩:=ha.reads I (wy sa) rx
 obtain⟨bs,rb⟩:=hb.reads I (wy sb) ry
 exact eq_dataH ra rb sa sb hu (xm I q rfl)
theorem NC (hu:X.A.units+64<cLine):cE X (fC .NotEq) (Eu X.K):=by
 intro pins s σ H x y v u Q I rx ry h
 obtain⟨da,db,ha,hb,sa,sb,q⟩:=id h
 obtain⟨as,ra⟩:=ha.reads I (wy sa) rx
 obtain⟨bs,rb⟩:=hb.reads I (wy sb) ry
 exact ne_dataH ra rb sa sb hu (xm I q rfl)
end
inductive cM where
 | l (vs:List V) | i (C dx:af) (fs:List (Str×V)) | d (kvs:List (bt×V))
def cM.ho:cM->HO
 | .l vs=>.lst vs
 | .i C dx fs=>.ins C dx fs
 | .d kvs=>.dK kvs
open Classical in
def av (H:Hp)(P:af->Prop):Hp:=fun b=>if P b then none else H b
def uni (hid:af->Prop)(ow:List af):af->Prop:=fun b=>hid b∨b∈ow
theorem dy {H:Hp}{P:af->Prop}{b:af}(h:P b):av H P b=none:=by unfold av;rw[if_pos h]
theorem bE {H:Hp}{P:af->Prop}{b:af}(h:¬ P b):av H P b=H b:=by unfold av;rw[if_neg h]
theorem bH (H:Hp)(P:af->Prop):ay (av H P) H:=fun b o e=>by
 by_cases h:P b
 ·rw[dy h] at e;cases e
 ·rw[bE h] at e;exact e
theorem aZ {H H':Hp}(e:ay H H')(P:af->Prop):ay (av H P) (av H' P):=fun b o q=>by
 by_cases h:P b
 ·rw[dy h] at q;cases q
 ·rw[bE h] at q ⊢;exact e b o q
theorem cN {H:Hp}{P Q:af->Prop}(h:∀ b,P b->Q b):ay (av H Q) (av H P):=fun b o q=>by
 by_cases hq:Q b
 ·rw[dy hq] at q;cases q
 ·rw[bE hq] at q
  rw[bE fun z=>hq (h b z)]
  exact q
theorem JB (H:Hp):av H (fun _=>False)=H:=by funext b;exact bE (fun z=>z)
theorem lC (hid:af->Prop):uni hid []=hid:=by
 funext b
 unfold uni
 simp
theorem lB {hid:af->Prop}{ow:List af}{b:af}(h:b∈ow):uni hid ow b:=.inr h
theorem iJ (H:Hp)(hid:af->Prop)(ow:List af):ay (av H (uni hid ow)) (av H hid):=cN fun _ z=>.inl z
theorem gp {H:Hp}{l:af}{P:af->Prop}{o:HO}(h:P l):av (upd H l o) P=av H P:=by
 funext b
 by_cases hb:P b
 ·rw[dy hb,dy hb]
 ·rw[bE hb,bE hb,ba]
  rintro rfl
  exact hb h
theorem cb {H:Hp}{p:af}{o:HO}(h:H p=none):ay H (upd H p o):=fun b u e=>by rw[ba (dh e h)];exact e
theorem k4 {H H':Hp}{p:af}{P Q:af->Prop}(s:ay H H')(h:H p=none)(hq:∀ b,Q b->P b∨b=p):ay (av H P) (av H' Q):=fun b u e=>by
 by_cases hb:P b
 ·rw[dy hb] at e;cases e
 ·rw[bE hb] at e
  have hne:b≠p:=dh e h
  rw[bE fun z=>(hq b z).elim hb hne]
  exact s b u e
section
variable {K:ao}{H:Hp}{hid:af->Prop}{ow:List af}
theorem Cp (hi:∀ l∈ow,∃ vs:cM,H l=some vs.ho){a:af}{o:HO}(e:av H hid a=some o)(n:∀ vs:cM,o≠vs.ho):av H (uni hid ow) a=some o:=by
 have e':=bH _ _ a o e
 have nh:¬ hid a:=fun z=>by rw[dy z] at e;cases e
 rw[bE]
 ·exact e'
 ·rintro (z | z)
  ·exact nh z
  ·obtain⟨vs,e2⟩:=hi a z
   rw[e'] at e2
   exact n vs (aE e2)
theorem cF.clean (hi:∀ l∈ow,∃ vs:cM,H l=some vs.ho){a:af}{vs:List V}(q:cF K (av H hid) a vs):cF K (av H (uni hid ow)) a vs:=by
 rcases q with (q | ⟨o,q⟩) | q
 ·exact .inl (.inl (Cp hi q fun w z=>by cases w <;> cases z))
 ·exact .inl (.inr ⟨o,Cp hi q fun w z=>by cases w <;> cases z⟩)
 ·exact .inr q
theorem aJ.clean (hi:∀ l∈ow,∃ vs:cM,H l=some vs.ho){v:V}{d:ae}(z:aJ K (av H hid) v d):lf d=true->aJ K (av H (uni hid ow)) v d:=
 aJ.rec (motive_1:=fun v d _=>lf d=true->aJ K (av H (uni hid ow)) v d) (motive_2:=fun vs ds _=>lf.go ds=true->aD K (av H (uni hid ow)) vs ds) (fun _=>.non) (fun b _=>.bl b) (fun i _=>.int i) (fun x _=>.str x) (fun q _ r h=>.tup (q.clean hi) (r h)) (fun _ _ _ h=>by cases h) (fun _ _ _ h=>by cases h) (fun _ _ _ h=>by cases h) (fun _ _ _ h=>by cases h) (fun _ _ _ h=>by cases h) (fun _=>.nil) (fun _ _ a b h=>by rw[lf.go,cq] at h;exact .cons (a h.1) (b h.2)) z
theorem aD.clean (hi:∀ l∈ow,∃ vs:cM,H l=some vs.ho){vs:List V}{ds:List ae}(z:aD K (av H hid) vs ds):lf.go ds=true->aD K (av H (uni hid ow)) vs ds:=
 aD.rec (motive_1:=fun v d _=>lf d=true->aJ K (av H (uni hid ow)) v d) (motive_2:=fun vs ds _=>lf.go ds=true->aD K (av H (uni hid ow)) vs ds) (fun _=>.non) (fun b _=>.bl b) (fun i _=>.int i) (fun x _=>.str x) (fun q _ r h=>.tup (q.clean hi) (r h)) (fun _ _ _ h=>by cases h) (fun _ _ _ h=>by cases h) (fun _ _ _ h=>by cases h) (fun _ _ _ h=>by cases h) (fun _ _ _ h=>by cases h) (fun _=>.nil) (fun _ _ a b h=>by rw[lf.go,cq] at h;exact .cons (a h.1) (b h.2)) z
end
abbrev ag:=List (Option ae)
inductive Ty where
 | cl:Ty
 | lst:Ty->Ty
 | tup:List Ty->Ty
 | io:af->Ty
 | rc:Option af->Str->List Str->List Ty->Ty
 | dc:Option af->List Str->Ty
 | nw:Ty
mutual
inductive bg (K:ao)(H C:Hp):Ty->V->ae->List af->Prop
 | cl {v:V} {d:ae}:aJ K C v d->bg K H C .cl v d []
 | non {t:Ty}:bg K H C t .non .none []
 | lst {t:Ty} {a:af} {vs:List V} {ds:List ae} {as:List af}:H a=some (.lst vs)->b9 K H C t vs ds as->a∉as->bg K H C (.lst t) (.ref a) (.list ds) (a::as)
 | tup {ts:List Ty} {a:af} {vs:List V} {ds:List ae} {as:List af}:cF K C a vs->ck K H C ts vs ds as->bg K H C (.tup ts) (.ref a) (.tuple ds) as
 | io {l:af} {vs:List V} {ds:List ae}:H l=some (.lst vs)->aD K C vs ds->bg K H C (.io l) (.ref l) (.list ds) [l]
 | rc {oa:Option af} {cls:Str} {ns:List Str} {ts:List Ty} {a D dx:af} {fs:List (Str×V)} {ds:List ae} {as:List af}:(∀ b,oa=some b->b=a)->H a=some (.ins D dx fs)->bG K a_ cls=some (some (.ref D))->fs.map (·.1)=ns->ck K H C ts (fs.map (·.2)) ds as->a∉as->bg K H C (.rc oa cls ns ts) (.ref a) (gw cls ns ds) (a::as)
 | nw {v:V} {d:ae} {as:List af}:(∀ p∈as,∃ vs:cM,H p=some vs.ho)->aJ K (av H fun b=>b∉as) v d->bg K H C .nw v d as
 | dc {oa:Option af} {ns ks:List Str} {a:af} {kvs:List (bt×V)} {ds:List ae}:(∀ b,oa=some b->b=a)->lK H a kvs ks->aD K C (kvs.map (·.2)) ds->bg K H C (.dc oa ns) (.ref a) (mv ks ds) [a]
inductive b9 (K:ao)(H C:Hp):Ty->List V->List ae->List af->Prop
 | nil {t:Ty}:b9 K H C t [] [] []
 | cons {t:Ty} {v:V} {d:ae} {vs:List V} {ds:List ae} {as bs:List af}:bg K H C t v d as->b9 K H C t vs ds bs->(∀ p∈as,p∉bs)->b9 K H C t (v::vs) (d::ds) (as++bs)
inductive ck (K:ao)(H C:Hp):List Ty->List V->List ae->List af->Prop
 | nil:ck K H C [] [] [] []
 | cons {t:Ty} {ts:List Ty} {v:V} {d:ae} {vs:List V} {ds:List ae} {as bs:List af}:bg K H C t v d as->ck K H C ts vs ds bs->(∀ p∈as,p∉bs)->ck K H C (t::ts) (v::vs) (d::ds) (as++bs)
end
section
variable {K:ao}{H H' C C' G:Hp}
theorem zl {G:Hp}{as:List af}(k:∀ p∈as,∀ o,H p=some o->G p=some o):ay (av H fun b=>b∉as) G:=fun b o e=>by
 by_cases h:b∈as
 ·rw[bE (fun z=>z h)] at e
  exact k b h o e
 ·rw[dy h] at e
  cases e
theorem zm {G:Hp}{as:List af}(k:∀ p∈as,∀ o,H p=some o->G p=some o):ay (av H fun b=>b∉as) (av G fun b=>b∉as):=fun b o e=>by
 by_cases h:b∈as
 ·rw[bE (fun z=>z h)] at e ⊢
  exact k b h o e
 ·rw[dy h] at e
  cases e
theorem bg.mono (c:ay C C'){t:Ty}{v:V}{d:ae}{as:List af}(h:bg K H C t v d as):(∀ p∈as,∀ o,H p=some o->H' p=some o)->bg K H' C' t v d as:=
 bg.rec (motive_1:=fun t v d as _=>(∀ p∈as,∀ o,H p=some o->H' p=some o)->bg K H' C' t v d as) (motive_2:=fun t v d as _=>(∀ p∈as,∀ o,H p=some o->H' p=some o)->b9 K H' C' t v d as) (motive_3:=fun t v d as _=>(∀ p∈as,∀ o,H p=some o->H' p=some o)->ck K H' C' t v d as) (fun h _=>.cl (h.mono c)) (fun _=>.non) (fun h _ n r k=>.lst (k _ bQ _ h) (r fun p hp=>k p (bP _ hp)) n) (fun h _ r k=>.tup (c.tup h) (r k)) (fun h q k=>.io (k _ (List.mem_singleton.mpr rfl) _ h) (q.mono c)) (fun ho h hn e _ n r k=>.rc ho (k _ bQ _ h) hn e (r fun p hp=>k p (bP _ hp)) n) (fun l q k=>.nw (fun p hp=>(l p hp).imp fun o e=>k p hp _ e) (q.mono (zm k))) (fun ho h q k=>.dc ho ⟨k _ (List.mem_singleton.mpr rfl) _ h.1,h.2⟩ (q.mono c)) (fun _=>.nil) (fun _ _ n h r k=>.cons (h fun p hp=>k p (cy _ hp)) (r fun p hp=>k p (bB _ hp)) n) (fun _=>.nil) (fun _ _ n h r k=>.cons (h fun p hp=>k p (cy _ hp)) (r fun p hp=>k p (bB _ hp)) n) h
theorem b9.mono (c:ay C C'){t:Ty}{v:List V}{d:List ae}{as:List af}(h:b9 K H C t v d as):(∀ p∈as,∀ o,H p=some o->H' p=some o)->b9 K H' C' t v d as:=
 b9.rec (motive_1:=fun t v d as _=>(∀ p∈as,∀ o,H p=some o->H' p=some o)->bg K H' C' t v d as) (motive_2:=fun t v d as _=>(∀ p∈as,∀ o,H p=some o->H' p=some o)->b9 K H' C' t v d as) (motive_3:=fun t v d as _=>(∀ p∈as,∀ o,H p=some o->H' p=some o)->ck K H' C' t v d as) (fun h _=>.cl (h.mono c)) (fun _=>.non) (fun h _ n r k=>.lst (k _ bQ _ h) (r fun p hp=>k p (bP _ hp)) n) (fun h _ r k=>.tup (c.tup h) (r k)) (fun h q k=>.io (k _ (List.mem_singleton.mpr rfl) _ h) (q.mono c)) (fun ho h hn e _ n r k=>.rc ho (k _ bQ _ h) hn e (r fun p hp=>k p (bP _ hp)) n) (fun l q k=>.nw (fun p hp=>(l p hp).imp fun o e=>k p hp _ e) (q.mono (zm k))) (fun ho h q k=>.dc ho ⟨k _ (List.mem_singleton.mpr rfl) _ h.1,h.2⟩ (q.mono c)) (fun _=>.nil) (fun _ _ n h r k=>.cons (h fun p hp=>k p (cy _ hp)) (r fun p hp=>k p (bB _ hp)) n) (fun _=>.nil) (fun _ _ n h r k=>.cons (h fun p hp=>k p (cy _ hp)) (r fun p hp=>k p (bB _ hp)) n) h
theorem ck.mono (c:ay C C'){t:List Ty}{v:List V}{d:List ae}{as:List af}(h:ck K H C t v d as):(∀ p∈as,∀ o,H p=some o->H' p=some o)->ck K H' C' t v d as:=
 ck.rec (motive_1:=fun t v d as _=>(∀ p∈as,∀ o,H p=some o->H' p=some o)->bg K H' C' t v d as) (motive_2:=fun t v d as _=>(∀ p∈as,∀ o,H p=some o->H' p=some o)->b9 K H' C' t v d as) (motive_3:=fun t v d as _=>(∀ p∈as,∀ o,H p=some o->H' p=some o)->ck K H' C' t v d as) (fun h _=>.cl (h.mono c)) (fun _=>.non) (fun h _ n r k=>.lst (k _ bQ _ h) (r fun p hp=>k p (bP _ hp)) n) (fun h _ r k=>.tup (c.tup h) (r k)) (fun h q k=>.io (k _ (List.mem_singleton.mpr rfl) _ h) (q.mono c)) (fun ho h hn e _ n r k=>.rc ho (k _ bQ _ h) hn e (r fun p hp=>k p (bP _ hp)) n) (fun l q k=>.nw (fun p hp=>(l p hp).imp fun o e=>k p hp _ e) (q.mono (zm k))) (fun ho h q k=>.dc ho ⟨k _ (List.mem_singleton.mpr rfl) _ h.1,h.2⟩ (q.mono c)) (fun _=>.nil) (fun _ _ n h r k=>.cons (h fun p hp=>k p (cy _ hp)) (r fun p hp=>k p (bB _ hp)) n) (fun _=>.nil) (fun _ _ n h r k=>.cons (h fun p hp=>k p (cy _ hp)) (r fun p hp=>k p (bB _ hp)) n) h
theorem bg.raw (c:ay C G){t:Ty}{v:V}{d:ae}{as:List af}(h:bg K H C t v d as):(∀ p∈as,∀ o,H p=some o->G p=some o)->aJ K G v d:=
 bg.rec (motive_1:=fun t v d as _=>(∀ p∈as,∀ o,H p=some o->G p=some o)->aJ K G v d) (motive_2:=fun t v d as _=>(∀ p∈as,∀ o,H p=some o->G p=some o)->aD K G v d) (motive_3:=fun t v d as _=>(∀ p∈as,∀ o,H p=some o->G p=some o)->aD K G v d) (fun h _=>h.mono c) (fun _=>.non) (fun h _ n r k=>.lst (bD.of (k _ bQ _ h)) (r fun p hp=>k p (bP _ hp))) (fun h _ r k=>.tup (c.tup h) (r k)) (fun h q k=>.lst (bD.of (k _ (List.mem_singleton.mpr rfl) _ h)) (q.mono c)) (fun ho h hn e _ n r k=>e▸aJ.obj ⟨_,_,k _ bQ _ h,hn⟩ (r fun p hp=>k p (bP _ hp))) (fun _ q k=>q.mono (zl k)) (fun _ h q k=>.dct ⟨k _ (List.mem_singleton.mpr rfl) _ h.1,h.2⟩ (q.mono c)) (fun _=>.nil) (fun _ _ n h r k=>.cons (h fun p hp=>k p (cy _ hp)) (r fun p hp=>k p (bB _ hp))) (fun _=>.nil) (fun _ _ n h r k=>.cons (h fun p hp=>k p (cy _ hp)) (r fun p hp=>k p (bB _ hp))) h
theorem b9.raw (c:ay C G){t:Ty}{v:List V}{d:List ae}{as:List af}(h:b9 K H C t v d as):(∀ p∈as,∀ o,H p=some o->G p=some o)->aD K G v d:=
 b9.rec (motive_1:=fun t v d as _=>(∀ p∈as,∀ o,H p=some o->G p=some o)->aJ K G v d) (motive_2:=fun t v d as _=>(∀ p∈as,∀ o,H p=some o->G p=some o)->aD K G v d) (motive_3:=fun t v d as _=>(∀ p∈as,∀ o,H p=some o->G p=some o)->aD K G v d) (fun h _=>h.mono c) (fun _=>.non) (fun h _ n r k=>.lst (bD.of (k _ bQ _ h)) (r fun p hp=>k p (bP _ hp))) (fun h _ r k=>.tup (c.tup h) (r k)) (fun h q k=>.lst (bD.of (k _ (List.mem_singleton.mpr rfl) _ h)) (q.mono c)) (fun ho h hn e _ n r k=>e▸aJ.obj ⟨_,_,k _ bQ _ h,hn⟩ (r fun p hp=>k p (bP _ hp))) (fun _ q k=>q.mono (zl k)) (fun _ h q k=>.dct ⟨k _ (List.mem_singleton.mpr rfl) _ h.1,h.2⟩ (q.mono c)) (fun _=>.nil) (fun _ _ n h r k=>.cons (h fun p hp=>k p (cy _ hp)) (r fun p hp=>k p (bB _ hp))) (fun _=>.nil) (fun _ _ n h r k=>.cons (h fun p hp=>k p (cy _ hp)) (r fun p hp=>k p (bB _ hp))) h
theorem ck.raw (c:ay C G){t:List Ty}{v:List V}{d:List ae}{as:List af}(h:ck K H C t v d as):(∀ p∈as,∀ o,H p=some o->G p=some o)->aD K G v d:=
 ck.rec (motive_1:=fun t v d as _=>(∀ p∈as,∀ o,H p=some o->G p=some o)->aJ K G v d) (motive_2:=fun t v d as _=>(∀ p∈as,∀ o,H p=some o->G p=some o)->aD K G v d) (motive_3:=fun t v d as _=>(∀ p∈as,∀ o,H p=some o->G p=some o)->aD K G v d) (fun h _=>h.mono c) (fun _=>.non) (fun h _ n r k=>.lst (bD.of (k _ bQ _ h)) (r fun p hp=>k p (bP _ hp))) (fun h _ r k=>.tup (c.tup h) (r k)) (fun h q k=>.lst (bD.of (k _ (List.mem_singleton.mpr rfl) _ h)) (q.mono c)) (fun ho h hn e _ n r k=>e▸aJ.obj ⟨_,_,k _ bQ _ h,hn⟩ (r fun p hp=>k p (bP _ hp))) (fun _ q k=>q.mono (zl k)) (fun _ h q k=>.dct ⟨k _ (List.mem_singleton.mpr rfl) _ h.1,h.2⟩ (q.mono c)) (fun _=>.nil) (fun _ _ n h r k=>.cons (h fun p hp=>k p (cy _ hp)) (r fun p hp=>k p (bB _ hp))) (fun _=>.nil) (fun _ _ n h r k=>.cons (h fun p hp=>k p (cy _ hp)) (r fun p hp=>k p (bB _ hp))) h
theorem bg.lists {t:Ty}{v:V}{d:ae}{as:List af}(h:bg K H C t v d as):∀ p∈as,∃ vs:cM,H p=some vs.ho:=
 bg.rec (motive_1:=fun t v d as _=>∀ p∈as,∃ vs:cM,H p=some vs.ho) (motive_2:=fun t v d as _=>∀ p∈as,∃ vs:cM,H p=some vs.ho) (motive_3:=fun t v d as _=>∀ p∈as,∃ vs:cM,H p=some vs.ho) (fun _ p hp=>absurd hp dC) (fun p hp=>absurd hp dC) (fun h _ n r p hp=>(List.mem_cons.mp hp).elim (fun z=>⟨.l _,z▸h⟩) (r p)) (fun _ _ r p hp=>r p hp) (fun h _ p hp=>⟨.l _,(List.mem_singleton.mp hp)▸h⟩) (fun _ h _ _ _ n r p hp=>(List.mem_cons.mp hp).elim (fun z=>⟨.i _ _ _,z▸h⟩) (r p)) (fun l _ p hp=>l p hp) (fun _ h _ p hp=>⟨.d _,(List.mem_singleton.mp hp)▸h.1⟩) (fun p hp=>absurd hp dC) (fun _ _ n h r p hp=>(List.mem_append.mp hp).elim (h p) (r p)) (fun p hp=>absurd hp dC) (fun _ _ n h r p hp=>(List.mem_append.mp hp).elim (h p) (r p)) h
theorem b9.lists {t:Ty}{v:List V}{d:List ae}{as:List af}(h:b9 K H C t v d as):∀ p∈as,∃ vs:cM,H p=some vs.ho:=
 b9.rec (motive_1:=fun t v d as _=>∀ p∈as,∃ vs:cM,H p=some vs.ho) (motive_2:=fun t v d as _=>∀ p∈as,∃ vs:cM,H p=some vs.ho) (motive_3:=fun t v d as _=>∀ p∈as,∃ vs:cM,H p=some vs.ho) (fun _ p hp=>absurd hp dC) (fun p hp=>absurd hp dC) (fun h _ n r p hp=>(List.mem_cons.mp hp).elim (fun z=>⟨.l _,z▸h⟩) (r p)) (fun _ _ r p hp=>r p hp) (fun h _ p hp=>⟨.l _,(List.mem_singleton.mp hp)▸h⟩) (fun _ h _ _ _ n r p hp=>(List.mem_cons.mp hp).elim (fun z=>⟨.i _ _ _,z▸h⟩) (r p)) (fun l _ p hp=>l p hp) (fun _ h _ p hp=>⟨.d _,(List.mem_singleton.mp hp)▸h.1⟩) (fun p hp=>absurd hp dC) (fun _ _ n h r p hp=>(List.mem_append.mp hp).elim (h p) (r p)) (fun p hp=>absurd hp dC) (fun _ _ n h r p hp=>(List.mem_append.mp hp).elim (h p) (r p)) h
theorem ck.lists {t:List Ty}{v:List V}{d:List ae}{as:List af}(h:ck K H C t v d as):∀ p∈as,∃ vs:cM,H p=some vs.ho:=
 ck.rec (motive_1:=fun t v d as _=>∀ p∈as,∃ vs:cM,H p=some vs.ho) (motive_2:=fun t v d as _=>∀ p∈as,∃ vs:cM,H p=some vs.ho) (motive_3:=fun t v d as _=>∀ p∈as,∃ vs:cM,H p=some vs.ho) (fun _ p hp=>absurd hp dC) (fun p hp=>absurd hp dC) (fun h _ n r p hp=>(List.mem_cons.mp hp).elim (fun z=>⟨.l _,z▸h⟩) (r p)) (fun _ _ r p hp=>r p hp) (fun h _ p hp=>⟨.l _,(List.mem_singleton.mp hp)▸h⟩) (fun _ h _ _ _ n r p hp=>(List.mem_cons.mp hp).elim (fun z=>⟨.i _ _ _,z▸h⟩) (r p)) (fun l _ p hp=>l p hp) (fun _ h _ p hp=>⟨.d _,(List.mem_singleton.mp hp)▸h.1⟩) (fun p hp=>absurd hp dC) (fun _ _ n h r p hp=>(List.mem_append.mp hp).elim (h p) (r p)) (fun p hp=>absurd hp dC) (fun _ _ n h r p hp=>(List.mem_append.mp hp).elim (h p) (r p)) h
theorem aD.os {vs:List V}{ds:List ae}(h:aD K C vs ds):b9 K H C .cl vs ds []:=
 aD.ind (M:=fun vs ds=>b9 K H C .cl vs ds []) .nil (fun h _ ih=>.cons (as:=[]) (.cl h) ih (fun p hp=>absurd hp dC)) h
theorem b9.ind {t:Ty}{P:List V->List ae->List af->Prop}(h0:P [] [] [])(h1:∀ {v:V} {d:ae} {vs:List V} {ds:List ae} {as bs:List af},bg K H C t v d as->b9 K H C t vs ds bs->(∀ p∈as,p∉bs)->P vs ds bs->P (v::vs) (d::ds) (as++bs)){vs:List V}{ds:List ae}{as:List af}(h:b9 K H C t vs ds as):P vs ds as:=
 b9.rec (motive_1:=fun _ _ _ _ _=>True) (motive_2:=fun t' vs ds as _=>t'=t->P vs ds as) (motive_3:=fun _ _ _ _ _=>True) (fun _=>trivial) trivial (fun _ _ _ _=>trivial) (fun _ _ _=>trivial) (fun _ _=>trivial) (fun _ _ _ _ _ _ _=>trivial) (fun _ _=>trivial) (fun _ _ _=>trivial) (fun _=>h0) (fun hx r n _ ih e=>by subst e;exact h1 hx r n (ih rfl)) trivial (fun _ _ _ _ _=>trivial) h rfl
theorem ck.ind {P:List Ty->List V->List ae->List af->Prop}(h0:P [] [] [] [])(h1:∀ {t:Ty} {ts:List Ty} {v:V} {d:ae} {vs:List V} {ds:List ae} {as bs:List af},bg K H C t v d as->ck K H C ts vs ds bs->(∀ p∈as,p∉bs)->P ts vs ds bs->P (t::ts) (v::vs) (d::ds) (as++bs)){ts:List Ty}{vs:List V}{ds:List ae}{as:List af}(h:ck K H C ts vs ds as):P ts vs ds as:=
 ck.rec (motive_1:=fun _ _ _ _ _=>True) (motive_2:=fun _ _ _ _ _=>True) (motive_3:=fun ts vs ds as _=>P ts vs ds as) (fun _=>trivial) trivial (fun _ _ _ _=>trivial) (fun _ _ _=>trivial) (fun _ _=>trivial) (fun _ _ _ _ _ _ _=>trivial) (fun _ _=>trivial) (fun _ _ _=>trivial) trivial (fun _ _ _ _ _=>trivial) h0 (fun h r n _ ih=>h1 h r n ih) h
theorem b9.dl {vs:List V}{ds:List ae}{as:List af}(h:b9 K H C .cl vs ds as):aD K C vs ds∧as=[]:=
 b9.rec (motive_1:=fun t v d as _=>t=.cl->aJ K C v d∧as=[]) (motive_2:=fun t vs ds as _=>t=.cl->aD K C vs ds∧as=[]) (motive_3:=fun _ _ _ _ _=>True) (fun h _=>⟨h,rfl⟩) (fun _=>⟨.non,rfl⟩) (fun _ _ _ _ e=>Ty.noConfusion e) (fun _ _ _ e=>Ty.noConfusion e) (fun _ _ e=>Ty.noConfusion e) (fun _ _ _ _ _ _ _ e=>Ty.noConfusion e) (fun _ _ e=>Ty.noConfusion e) (fun _ _ _ e=>Ty.noConfusion e) (fun _=>⟨.nil,rfl⟩) (fun _ _ n h r e=>⟨.cons (h e).1 (r e).1,by rw[(h e).2,(r e).2];rfl⟩) trivial (fun _ _ _ _ _=>trivial) h rfl
theorem bg.den {v:V}{d:ae}{as:List af}(h:bg K H C .cl v d as):aJ K C v d:=by
 cases h with
 | cl h=>exact h
 | non=>exact .non
theorem b9.length {t:Ty}{vs:List V}{ds:List ae}{as:List af}(h:b9 K H C t vs ds as):vs.length=ds.length:=
 b9.rec (motive_1:=fun _ _ _ _ _=>True) (motive_2:=fun _ vs ds _ _=>vs.length=ds.length) (motive_3:=fun _ _ _ _ _=>True) (fun _=>trivial) trivial (fun _ _ _ _=>trivial) (fun _ _ _=>trivial) (fun _ _=>trivial) (fun _ _ _ _ _ _ _=>trivial) (fun _ _=>trivial) (fun _ _ _=>trivial) rfl (fun _ _ _ _ r=>congrArg (·+1) r) trivial (fun _ _ _ _ _=>trivial) h
theorem ck.length {ts:List Ty}{vs:List V}{ds:List ae}{as:List af}(h:ck K H C ts vs ds as):vs.length=ds.length:=
 ck.rec (motive_1:=fun _ _ _ _ _=>True) (motive_2:=fun _ _ _ _ _=>True) (motive_3:=fun _ vs ds _ _=>vs.length=ds.length) (fun _=>trivial) trivial (fun _ _ _ _=>trivial) (fun _ _ _=>trivial) (fun _ _=>trivial) (fun _ _ _ _ _ _ _=>trivial) (fun _ _=>trivial) (fun _ _ _=>trivial) trivial (fun _ _ _ _ _=>trivial) rfl (fun _ _ _ _ r=>congrArg (·+1) r) h
theorem b9.item {t:Ty}{vs:List V}{ds:List ae}{as:List af}(h:b9 K H C t vs ds as):∀ {j:Nat} {d:ae},ds[j]?=some d ->
  ∃ v bs,vs[j]?=some v∧bg K H C t v d bs∧(∀ p∈bs,p∈as)∧∀ (H' C':Hp) (e:ae),ay C C'->bg K H' C' t v e bs->(∀ p∈as,p∉bs->∀ o,H p=some o->H' p=some o)->b9 K H' C' t vs (ds.set j e) as:=
 b9.ind (P:=fun vs ds as=>∀ {j:Nat} {d:ae},ds[j]?=some d->∃ v bs,vs[j]?=some v∧bg K H C t v d bs∧(∀ p∈bs,p∈as)∧∀ (H' C':Hp) (e:ae),ay C C'->bg K H' C' t v e bs->(∀ p∈as,p∉bs->∀ o,H p=some o->H' p=some o)->b9 K H' C' t vs (ds.set j e) as)
  (fun e=>L2.bp e) (fun {v d0 vs ds as bs} h r n ih {j d} e=>by
   cases j with
   | zero=>
    obtain rfl:=aE e
    exact ⟨v,as,rfl,h,(fun p hp=>cy _ hp),(fun H' C' e c h' k=>.cons h' (r.mono c fun p hp o q=>k p (bB _ hp) (fun z=>n p z hp) o q) n)⟩
   | succ j=>
    obtain⟨w,cs,h1,h2,h3,h4⟩:=ih (j:=j) (d:=d) e
    exact ⟨w,cs,h1,h2,(fun p hp=>bB _ (h3 p hp)),(fun H' C' e c h' k=>.cons (h.mono c fun p hp o q=>k p (cy _ hp) (fun z=>n p hp (h3 p z)) o q) (h4 H' C' e c h' fun p hp hn o q=>k p (bB _ hp) hn o q) n)⟩) h
theorem ck.item {ts:List Ty}{vs:List V}{ds:List ae}{as:List af}(h:ck K H C ts vs ds as):∀ {j:Nat} {d:ae},ds[j]?=some d ->
  ∃ t v bs,ts[j]?=some t∧vs[j]?=some v∧bg K H C t v d bs∧(∀ p∈bs,p∈as)∧∀ (H' C':Hp) (e:ae),ay C C'->bg K H' C' t v e bs->(∀ p∈as,p∉bs->∀ o,H p=some o->H' p=some o)->ck K H' C' ts vs (ds.set j e) as:=
 ck.ind (P:=fun ts vs ds as=>∀ {j:Nat} {d:ae},ds[j]?=some d->∃ t v bs,ts[j]?=some t∧vs[j]?=some v∧bg K H C t v d bs∧(∀ p∈bs,p∈as)∧∀ (H' C':Hp) (e:ae),ay C C'->bg K H' C' t v e bs->(∀ p∈as,p∉bs->∀ o,H p=some o->H' p=some o)->ck K H' C' ts vs (ds.set j e) as)
  (fun e=>L2.bp e) (fun {t ts v d0 vs ds as bs} h r n ih {j d} e=>by
   cases j with
   | zero=>
    obtain rfl:=aE e
    exact ⟨t,v,as,rfl,rfl,h,(fun p hp=>cy _ hp),(fun H' C' e c h' k=>.cons h' (r.mono c fun p hp o q=>k p (bB _ hp) (fun z=>n p z hp) o q) n)⟩
   | succ j=>
    obtain⟨t',w,cs,h0,h1,h2,h3,h4⟩:=ih (j:=j) (d:=d) e
    exact ⟨t',w,cs,h0,h1,h2,(fun p hp=>bB _ (h3 p hp)),(fun H' C' e c h' k=>.cons (h.mono c fun p hp o q=>k p (cy _ hp) (fun z=>n p hp (h3 p z)) o q) (h4 H' C' e c h' fun p hp hn o q=>k p (bB _ hp) hn o q) n)⟩) h
def qe:ae->Option (List ae)
 | .list ds=>some ds
 | _=>none
def ti:ae->Option (List ae)
 | .tuple ds=>some ds
 | _=>none
def Lb:ae->List ae
 | .list ds=>ds
 | .tuple ds=>ds
 | _=>[]
def n6 (ds:List ae)(k:Int):Option ae:=(f6 ds.length k).bind fun j=>ds[j]?
def nY:ae->List Int->Option (List ae)
 | d,[]=>qe d
 | d,k::r=>(n6 (Lb d) k).bind fun e=>nY e r
def sE (ds:List ae)(k:Int)(f:ae->ae):List ae:=(f6 ds.length k).elim ds fun j=>ds.set j (f (ds.getD j .none))
def Jd (d:ae)(k:Int)(f:ae->ae):ae:=match d with
 | .list ds=>.list (sE ds k f)
 | .tuple ds=>.tuple (sE ds k f)
 | d=>d
def P5 (d:ae)(es:List ae):ae:=match d with
 | .list _=>.list es
 | d=>d
def j9:ae->List Int->List ae->ae
 | d,[],es=>P5 d es
 | d,k::r,es=>Jd d k fun e=>j9 e r es
def Ty.isCl:Ty->Bool
 | .cl=>true
 | _=>false
def Ty.leaf:Ty->Bool
 | .lst t=>t.isCl
 | .io _=>true
 | _=>false
def zN (T:Ty)(d:ae)(k:Int):Option (Ty×ae):=match T with
 | .lst t=>(qe d).bind fun ds=>(n6 ds k).map fun e=>(t,e)
 | .tup ts=>(ti d).bind fun ds=>(f6 ds.length k).bind fun j=>(ds[j]?).map fun e=>(ts.getD j .cl,e)
 | _=>none
def kg:Ty->ae->List Int->Bool
 | T,d,[]=>T.leaf&&(qe d).isSome
 | T,d,k::r=>(zN T d k).any fun q=>kg q.1 q.2 r
theorem Dh {ds:List ae}{k:Int}{β:Type}{g:ae->Option β}{r:β}(h:(n6 ds k).bind g=some r):∃ j d,f6 ds.length k=some j∧ds[j]?=some d∧g d=some r:=by
 unfold n6 at h
 cases hj:f6 ds.length k with
 | none=>rw[hj] at h;exact L2.bp h
 | some j=>
  rw[hj,bW] at h
  cases hd:ds[j]? with
  | none=>rw[hd] at h;exact L2.bp h
  | some d=>rw[hd] at h;exact⟨j,d,rfl,hd,h⟩
theorem Ls {ds:List ae}{k:Int}{j:Nat}{d:ae}(h1:f6 ds.length k=some j)(h2:ds[j]?=some d):n6 ds k=some d:=by
 unfold n6
 rw[h1,bW,h2]
inductive lH (K:ao)(H C:Hp):V->List Int->af->Prop
 | here {l:af}:lH K H C (.ref l) [] l
 | inL {a:af} {vs:List V} {k:Int} {r:List Int} {w:V} {l:af}:H a=some (.lst vs)->atI vs k=some w->lH K H C w r l->lH K H C (.ref a) (k::r) l
 | inT {a:af} {vs:List V} {k:Int} {r:List Int} {w:V} {l:af}:cF K C a vs->atI vs k=some w->lH K H C w r l->lH K H C (.ref a) (k::r) l
theorem getD_some {ds:List ae}{j:Nat}{d:ae}(h:ds[j]?=some d):ds.getD j .none=d:=by
 rw[pf,h];rfl
theorem B_ {ds:List ae}{k:Int}{j:Nat}{d:ae}{f:ae->ae}(h1:f6 ds.length k=some j)(h2:ds[j]?=some d):sE ds k f=ds.set j (f d):=by
 unfold sE
 rw[h1,Option.elim_some,getD_some h2]
theorem bg.focus (path:List Int):∀ {T:Ty} {v:V} {d:ae} {as:List af} {ds:List ae},bg K H C T v d as->kg T d path=true->nY d path=some ds ->
  ∃ l vs,lH K H C v path l∧H l=some (.lst vs)∧aD K C vs ds∧l∈as∧∀ (H' C':Hp) (ws:List V) (es:List ae),ay C C'->H' l=some (.lst ws)->(∀ p∈as,p≠l->∀ o,H p=some o->H' p=some o)->aD K C' ws es->bg K H' C' T v (j9 d path es) as:=by
 induction path with
 | nil=>
  intro T v d as ds h ht hg
  cases h with
  | cl h=>exact L2.fj ht
  | non=>exact L2.bp hg
  | tup h r=>exact L2.bp hg
  | @lst t a vs ds' as h r n=>
   have htc:t=.cl:=by cases t <;> first | rfl | exact L2.fj ht
   subst htc
   obtain rfl:=aE hg
   obtain⟨h1,zq1⟩:=r.dl
   subst zq1
   exact ⟨a,vs,.here,h,h1,bQ,(fun H' C' ws es c hw k he=>.lst hw he.os n)⟩
  | @io l vs ds' h q=>
   obtain rfl:=aE hg
   exact ⟨l,vs,.here,h,q,List.mem_singleton.mpr rfl,(fun H' C' ws es c hw k he=>.io hw he)⟩
  | rc _ _ _ _ _ _=>exact L2.fj ht
  | nw _ _=>exact L2.fj ht
  | dc _ _ _=>exact L2.fj ht
 | cons k r ih=>
  intro T v d as ds h ht hg
  cases h with
  | cl h=>exact L2.fj ht
  | io h q=>exact L2.fj ht
  | rc _ _ _ _ _ _=>exact L2.fj ht
  | nw _ _=>exact L2.fj ht
  | dc _ _ _=>exact L2.fj ht
  | non=>cases T <;> exact L2.fj ht
  | @lst t a vs ds' as h q n=>
   obtain⟨j,d',hj,hd,hg⟩:=Dh (ds:=ds') hg
   have ht':kg t d' r=true:=by
    have e:zN (.lst t) (.list ds') k=some (t,d'):=congrArg (Bd fun e=>(t,e)) (Ls hj hd)
    rw[kg,e] at ht
    exact ht
   obtain⟨w,bs,h1,h2,h3,h4⟩:=q.item hd
   obtain⟨l,us,g1,g2,g3,g4,g5⟩:=ih h2 ht' hg
   have hat:atI vs k=some w:=by
    unfold atI
    rw[q.length,hj]
    exact h1
   refine ⟨l,us,.inL h hat g1,g2,g3,bP _ (h3 l g4),(fun H' C' ws es c hw kk he=>?_)⟩
   have hal:a≠l:=fun z=>n (z▸h3 l g4)
   rw[show j9 (.list ds') (k::r) es=.list (ds'.set j (j9 d' r es)) from congrArg PyData.list (B_ hj hd)]
   exact .lst (kk a bQ hal _ h) (h4 H' C' _ c (g5 H' C' ws es c hw (fun p hp hne o qq=>kk p (bP _ (h3 p hp)) hne o qq) he) fun p hp hn o qq=>kk p (bP _ hp) (fun z=>hn (z▸g4)) o qq) n
  | @tup ts a vs ds' as h q=>
   obtain⟨j,d',hj,hd,hg⟩:=Dh (ds:=ds') hg
   obtain⟨t,w,bs,h0,h1,h2,h3,h4⟩:=q.item hd
   have ht':kg t d' r=true:=by
    have e:zN (.tup ts) (.tuple ds') k=some (t,d'):=by
     show ((f6 ds'.length k).bind fun j=>(ds'[j]?).map fun e=>(ts.getD j .cl,e))=_
     rw[hj,bW,hd,pf,h0]
     rfl
    rw[kg,e] at ht
    exact ht
   obtain⟨l,us,g1,g2,g3,g4,g5⟩:=ih h2 ht' hg
   have hat:atI vs k=some w:=by
    unfold atI
    rw[q.length,hj]
    exact h1
   refine ⟨l,us,.inT h hat g1,g2,g3,h3 l g4,(fun H' C' ws es c hw kk he=>?_)⟩
   rw[show j9 (.tuple ds') (k::r) es=.tuple (ds'.set j (j9 d' r es)) from congrArg PyData.tuple (B_ hj hd)]
   exact .tup (c.tup h) (h4 H' C' _ c (g5 H' C' ws es c hw (fun p hp hne o qq=>kk p (h3 p hp) hne o qq) he) fun p hp hn o qq=>kk p hp (fun z=>hn (z▸g4)) o qq)
end
structure Ow where
 s:List (Nat×Ty)
 r:Ty:=.cl
def i0 (K:ao)(O:Ow)(hid:af->Prop)(σ:St)(H:Hp)(ρ:ag)(ow:List af)(A:Nat->List af):Prop:=
 (∀ i t d,O.s.lookup i=some t->ρ[i]?=some (some d)->∃ v,σ[i]?=some (some v)∧bg K H (av H (uni hid ow)) t v d (A i))∧(∀ i j p,i≠j->p∈A i->p∉A j)∧(∀ i p,p∈A i->p∈ow)
structure aK (K:ao)(O:Ow)(hid:af->Prop)(H0:Hp)(σ:St)(H:Hp)(ρ:ag)(ow:List af):Prop where
 len:ρ.length=σ.length
 base:ay H0 (av H fun b=>b∈ow)
 val:∀ i d,O.s.lookup i=none->ρ[i]?=some (some d)->∃ v,σ[i]?=some (some v)∧aJ K (av H (uni hid ow)) v d
 own:∃ A,i0 K O hid σ H ρ ow A
 isl:∀ l∈ow,(∃ vs:cM,H l=some vs.ho)∧¬ hid l
 ishL:∀ b,hid b->∃ vs:cM,H b=some vs.ho
 emp:O.s=[]->ow=[]
section
variable {K:ao}{O:Ow}{hid:af->Prop}{H0 H H':Hp}{σ:St}{ρ:ag}{ow:List af}{A:Nat->List af}
theorem i0.mono (a:i0 K O hid σ H ρ ow A)(h:ay H H'):i0 K O hid σ H' ρ ow A:=
 ⟨fun i t d hi hd=>let ⟨v,q,r⟩:=a.1 i t d hi hd;⟨v,q,r.mono (aZ h _) fun p _ o e=>h p o e⟩,a.2⟩
theorem aK.mono (e:aK K O hid H0 σ H ρ ow)(h:ay H H'):aK K O hid H0 σ H' ρ ow:=
 ⟨e.len,e.base.trans (aZ h _),fun i d hi hd=>let ⟨v,a,b⟩:=e.val i d hi hd;⟨v,a,b.mono (aZ h _)⟩,
  let ⟨A,a⟩:=e.own;⟨A,a.mono h⟩,fun l hl=>let ⟨⟨vs,q⟩,n⟩:=e.isl l hl;⟨⟨vs,h _ _ q⟩,n⟩,
  fun b hb=>let ⟨vs,q⟩:=e.ishL b hb;⟨vs,h _ _ q⟩,e.emp⟩
theorem aK.ish (e:aK K O hid H0 σ H ρ ow):∀ b,hid b->H b≠none:=fun b hb z=>by
 obtain⟨vs,q⟩:=e.ishL b hb
 rw[z] at q;cases q
theorem aK.uniL (e:aK K O hid H0 σ H ρ ow):∀ b,uni hid ow b->∃ vs:cM,H b=some vs.ho:=fun b hb=>by
 rcases hb with hb | hb
 ·exact e.ishL b hb
 ·exact (e.isl b hb).1
theorem aK.fresh (e:aK K O hid H0 σ H ρ ow){p:af}(h:H p=none):¬ uni hid ow p:=by
 rintro (z | z)
 ·exact e.ish p z h
 ·obtain⟨⟨vs,q⟩,_⟩:=e.isl p z
  rw[h] at q;cases q
theorem aK.lists (e:aK K O hid H0 σ H ρ ow):∀ l∈ow,∃ vs:cM,H l=some vs.ho:=fun l h=>(e.isl l h).1
theorem aK.ow0 (e:aK K O hid H0 σ H ρ ow){p:af}(h:p∈ow):H0 p=none:=by
 cases q:H0 p with
 | none=>rfl
 | some o=>
  have:=e.base p o q
  rw[dy h] at this
  exact L2.bp this
theorem aK.raw (e:aK K O hid H0 σ H ρ ow){i:Nat}{d:ae}(h:ρ[i]?=some (some d)):∃ v,σ[i]?=some (some v)∧aJ K (av H hid) v d:=by
 cases hi:O.s.lookup i with
 | some t=>
  obtain⟨A,a1,a2,a3⟩:=e.own
  obtain⟨v,q,r⟩:=a1 i t d hi h
  exact⟨v,q,r.raw (iJ _ _ _) fun p hp o q=>by rw[bE (e.isl p (a3 i p hp)).2];exact q⟩
 | none=>
  obtain⟨v,a,b⟩:=e.val i d hi h
  exact⟨v,a,b.mono (iJ _ _ _)⟩
theorem aK.newAt (e:aK K O hid H0 σ H ρ ow){p:af}{o:HO}(h:H p=none):av (upd H p o) (uni hid ow) p=some o:=by rw[bE (e.fresh h),cD]
theorem aK.newAtR (e:aK K O hid H0 σ H ρ ow){p:af}{o:HO}(h:H p=none):av (upd H p o) hid p=some o:=by rw[bE fun z=>e.fresh h (.inl z),cD]
theorem qK {ρ:ag}{i j:Nat}{d:ae}{x:Option ae}(q:(ρ.set i (some d))[j]?=some x):(j=i∧x=some d∧i<ρ.length)∨(j≠i∧ρ[j]?=some x):=by
 by_cases hj:j=i
 ·subst hj
  have hl:j<ρ.length:=by have:=(List.getElem?_eq_some_iff.mp q).1;simpa using this
  rw[iC hl] at q
  exact .inl ⟨rfl,(aE q).symm,hl⟩
 ·rw[eh (cn hj)] at q
  exact .inr ⟨hj,q⟩
theorem aK.set (e:aK K O hid H0 σ H ρ ow){i:Nat}{v:V}{d:ae}(hi:O.s.lookup i=none)(h:aJ K (av H (uni hid ow)) v d):aK K O hid H0 (σ.set i (some v)) H (ρ.set i (some d)) ow:=by
 refine⟨by simpa using e.len,e.base,fun j x hj q=>?_,?_,e.isl,e.ishL,e.emp⟩
 ·rcases qK q with ⟨rfl,z,hl⟩ | ⟨hne,z⟩
  ·obtain rfl:=aE z
   exact⟨v,iC (by rw[← e.len];exact hl),h⟩
  ·obtain⟨w,a,b⟩:=e.val j x hj z
   exact⟨w,by rw[eh (cn hne)];exact a,b⟩
 ·obtain⟨A,a1,a2,a3⟩:=e.own
  refine⟨A,fun j t x hj q=>?_,a2,a3⟩
  have hne:j≠i:=fun z=>by rw[z,hi] at hj;cases hj
  rw[eh (cn hne)] at q
  obtain⟨w,a,b⟩:=a1 j t x hj q
  exact⟨w,by rw[eh (cn hne)];exact a,b⟩
theorem aK.setT (e:aK K O hid H0 σ H ρ ow)(s:ay H H'){i:Nat}{t:Ty}{v:V}{d:ae}{as:List af}(hi:O.s.lookup i=some t)(hl:∀ p∈as,H p=none)(h:bg K H' (av H' (uni hid (as++ow))) t v d as) :
  aK K O hid H0 (σ.set i (some v)) H' (ρ.set i (some d)) (as++ow):=by
 have nl:∀ p∈as,¬ uni hid ow p:=fun p hp=>e.fresh (hl p hp)
 have gen:∀ P Q:af->Prop,(∀ b,Q b->P b∨b∈as)->ay (av H P) (av H' Q):=fun P Q hq b u z=>by
  by_cases hb:P b
  ·rw[dy hb] at z;cases z
  ·rw[bE hb] at z
   rw[bE fun y=>?_]
   ·exact s b u z
   ·rcases hq b y with y | y
    ·exact hb y
    ·rw[hl b y] at z;cases z
 have sub:ay (av H (uni hid ow)) (av H' (uni hid (as++ow))):=gen _ _ fun b z=>by
  rcases z with z | z
  ·exact .inl (.inl z)
  ·rcases List.mem_append.mp z with z | z
   ·exact .inr z
   ·exact .inl (.inr z)
 have subO:ay (av H fun b=>b∈ow) (av H' fun b=>b∈as++ow):=gen _ _ fun b z=>by
  rcases List.mem_append.mp z with z | z
  ·exact .inr z
  ·exact .inl z
 refine⟨by simpa using e.len,e.base.trans subO,fun j x hj q=>?_,?_,fun l2 h2=>?_,fun b hb=>let ⟨vs,q⟩:=e.ishL b hb;⟨vs,s _ _ q⟩,fun z=>by rw[z] at hi;cases hi⟩
 ·have hne:j≠i:=fun z=>by rw[z,hi] at hj;cases hj
  rw[eh (cn hne)] at q
  obtain⟨w,a,b⟩:=e.val j x hj q
  exact⟨w,by rw[eh (cn hne)];exact a,b.mono sub⟩
 ·obtain⟨A,a1,a2,a3⟩:=e.own
  refine⟨fun j=>if j=i then as else A j,fun j t' x hj q=>?_,fun j k p hjk hp hk=>?_,fun j p hp=>?_⟩
  ·rcases qK q with ⟨rfl,z,hz⟩ | ⟨hne,z⟩
   ·obtain rfl:=aE z
    rw[hi] at hj
    obtain rfl:=aE hj
    exact⟨v,iC (by rw[← e.len];exact hz),by dsimp only;rw[if_pos rfl];exact h⟩
   ·obtain⟨w,a,b⟩:=a1 j t' x hj z
    refine⟨w,by rw[eh (cn hne)];exact a,?_⟩
    dsimp only
    rw[if_neg hne]
    exact b.mono sub fun p _ o q=>s p o q
  ·dsimp only at hp hk
   split at hp
   ·split at hk
    ·subst_vars;exact hjk rfl
    ·exact nl p hp (.inr (a3 k p hk))
   ·split at hk
    ·exact nl p hk (.inr (a3 j p hp))
    ·exact a2 j k p hjk hp hk
  ·dsimp only at hp
   split at hp
   ·exact cy _ hp
   ·exact bB _ (a3 j p hp)
 ·rcases List.mem_append.mp h2 with h2 | h2
  ·exact⟨h.lists l2 h2,fun z=>nl l2 h2 (.inl z)⟩
  ·obtain⟨⟨ws,q⟩,n⟩:=e.isl l2 h2
   exact⟨⟨ws,s _ _ q⟩,n⟩
theorem aK.at0 (e:aK K O hid H0 σ H ρ ow){i:Nat}{ds:List ae}(hi:O.s.lookup i=some (.lst .cl))(hρ:ρ[i]?=some (some (.list ds))) :
  ∃ l vs,σ[i]?=some (some (.ref l))∧H l=some (.lst vs)∧aD K (av H (uni hid ow)) vs ds∧l∈ow ∧
   ∀ H',ay H H'->∀ ws es,aD K (av H' (uni hid ow)) ws es->aK K O hid H0 σ (upd H' l (.lst ws)) (ρ.set i (some (.list es))) ow:=by
 obtain⟨A,a1,a2,a3⟩:=e.own
 obtain⟨v,hv,D⟩:=a1 i _ _ hi hρ
 generalize hA:A i=Ai at D
 cases D with
 | @lst _ l vs _ as q r n=>
  obtain⟨dl,zq1⟩:=r.dl
  subst zq1
  have hA':l∈A i:=by rw[hA];exact List.mem_singleton.mpr rfl
  have hl:=a3 i l hA'
  refine ⟨l,vs,hv,q,dl,hl,(fun H' s ws es he=>?_)⟩
  have e':=e.mono s
  have ed:av (upd H' l (.lst ws)) (uni hid ow)=av H' (uni hid ow):=gp (lB hl)
  have eo:av (upd H' l (.lst ws)) (fun b=>b∈ow)=av H' (fun b=>b∈ow):=gp hl
  refine⟨by simpa using e.len,by rw[eo];exact e'.base,fun j x hj q=>?_,⟨A,fun j t' x hj q=>?_,a2,a3⟩,fun l2 h2=>?_,fun b hb=>?_,e.emp⟩
  ·have hne:j≠i:=fun z=>by rw[z,hi] at hj;cases hj
   rw[eh (cn hne)] at q
   rw[ed]
   exact e'.val j x hj q
  ·rw[ed]
   rcases qK q with ⟨rfl,z,hz⟩ | ⟨hne,z⟩
   ·obtain rfl:=aE z
    rw[hi] at hj
    obtain rfl:=aE hj
    refine⟨.ref l,hv,?_⟩
    rw[hA]
    exact .lst cD he.os (by simp)
   ·obtain⟨w,a,b⟩:=a1 j t' x hj z
    exact⟨w,a,b.mono (aZ s _) fun p hp o q=>by rw[ba (show p≠l from fun y=>a2 j i p hne hp (by rw[y];exact hA'))];exact s _ _ q⟩
  ·obtain⟨⟨vs2,q⟩,n⟩:=e'.isl l2 h2
   refine⟨?_,n⟩
   by_cases hne:l2=l
   ·subst hne;exact⟨.l ws,cD⟩
   ·exact⟨vs2,by rw[ba hne];exact q⟩
  ·have hne:b≠l:=fun z2=>(e.isl l hl).2 (z2▸hb)
   rw[ba hne]
   exact e'.ishL b hb
theorem Kq {d:ae}{ds:List ae}(h:nY d []=some ds):d=.list ds:=by
 cases d <;> first | (cases h;rfl) | cases h
theorem aK.at (e:aK K O hid H0 σ H ρ ow){i:Nat}{t:Ty}{d:ae}{path:List Int}{ds:List ae}(hi:O.s.lookup i=some t)(hρ:ρ[i]?=some (some d))(ht:kg t d path=true)(hg:nY d path=some ds) :
  ∃ v l vs,σ[i]?=some (some v)∧lH K H (av H (uni hid ow)) v path l∧H l=some (.lst vs)∧aD K (av H (uni hid ow)) vs ds∧l∈ow ∧
   ∀ H',ay H H'->∀ ws es,aD K (av H' (uni hid ow)) ws es->aK K O hid H0 σ (upd H' l (.lst ws)) (ρ.set i (some (j9 d path es))) ow:=by
 obtain⟨A,a1,a2,a3⟩:=e.own
 obtain⟨v,hv,D⟩:=a1 i t d hi hρ
 obtain⟨l,vs,g1,g2,g3,g4,g5⟩:=D.focus path ht hg
 have hl:=a3 i l g4
 refine ⟨v,l,vs,hv,g1,g2,g3,hl,(fun H' s ws es he=>?_)⟩
 have e':=e.mono s
 have ed:av (upd H' l (.lst ws)) (uni hid ow)=av H' (uni hid ow):=gp (lB hl)
 have eo:av (upd H' l (.lst ws)) (fun b=>b∈ow)=av H' (fun b=>b∈ow):=gp hl
 have hil:i<ρ.length:=(List.getElem?_eq_some_iff.mp hρ).1
 refine⟨by simpa using e.len,by rw[eo];exact e'.base,fun j x hj q=>?_,⟨A,fun j t' x hj q=>?_,a2,a3⟩,fun l2 h2=>?_,fun b hb=>?_,e.emp⟩
 ·have hne:j≠i:=fun z=>by rw[z,hi] at hj;cases hj
  rw[eh (cn hne)] at q
  rw[ed]
  exact e'.val j x hj q
 ·rw[ed]
  rcases qK q with ⟨rfl,z,hz⟩ | ⟨hne,z⟩
  ·obtain rfl:=aE z
   rw[hi] at hj
   obtain rfl:=aE hj
   exact⟨v,hv,g5 _ _ ws es (aZ s _) cD (fun p _ hne o q=>by rw[ba hne];exact s _ _ q) he⟩
  ·obtain⟨w,a,b⟩:=a1 j t' x hj z
   exact⟨w,a,b.mono (aZ s _) fun p hp o q=>by rw[ba (show p≠l from fun y=>a2 j i p hne hp (by rw[y];exact g4))];exact s _ _ q⟩
 ·obtain⟨⟨vs2,q⟩,n⟩:=e'.isl l2 h2
  refine⟨?_,n⟩
  by_cases hne:l2=l
  ·subst hne;exact⟨.l ws,cD⟩
  ·exact⟨vs2,by rw[ba hne];exact q⟩
 ·have hne:b≠l:=fun z2=>(e.isl l hl).2 (z2▸hb)
  rw[ba hne]
  exact e'.ishL b hb
end
end L2
namespace L2
variable [Reg]
inductive dA {α:Type}(K:ao)(O:Ow)(f:ag->Option α)(σ:St)(H:Hp)(R:(af->Prop)->Hp->ag->List af->α->Prop):Prop
 | mk (hid:af->Prop) (H0:Hp) (ρ:ag) (ow:List af) (d:α) (E:aK K O hid H0 σ H ρ ow) (hf:f ρ=some d) (k:R hid H0 ρ ow d):dA K O f σ H R
section
variable (K:ao)(O:Ow)
def tR (f:ag->Option ae):TE:=fun σ H Q=>dA K O f σ H fun hid H0 ρ ow d=>∀ v H',ay H H'->aJ K (av H' hid) v d->Q v H'
def tV (f:ag->Option ae):TE:=fun σ H Q=>dA K O f σ H fun hid H0 ρ ow d=>∀ v H',ay H H'->aJ K (av H' (uni hid ow)) v d->Q v H'
def zI (f:ag->Option (List ae)):TE:=fun σ H Q=>dA K O f σ H fun hid H0 ρ ow ds=>∀ l vs H',ay H H'->H l=none->H' l=some (.lst vs)->aD K (av H' (uni hid [l])) vs ds->Q (.ref l) H'
def Q3 (f:ag->Option (List ae)):TE:=fun σ H Q=>dA K O f σ H fun hid H0 ρ ow ds=>∀ l vs H',ay H H'->H l=none->H' l=some (.lst vs)->aD K (av H' (uni hid (l::ow))) vs ds->Q (.ref l) H'
def tT (f:ag->Option Bool):TT:=fun σ H Q=>dA K O f σ H fun hid H0 ρ ow b=>∀ H',ay H H'->Q b H'
def QP (f:ag->Option (List ae)):TA:=fun σ H Q=>dA K O f σ H fun hid H0 ρ ow ds=>∀ vs H',ay H H'->aD K (av H' hid) vs ds->Q vs H'
def QR (f:ag->Option (List ae)):TA:=fun σ H Q=>dA K O f σ H fun hid H0 ρ ow ds=>∀ vs H',ay H H'->aD K (av H' (uni hid ow)) vs ds->Q vs H'
end
abbrev PR (X:Cx)(O:Ow)(e:Expr)(f:ag->Option ae):Prop:=PE X e (tR X.K O f)
abbrev PV (X:Cx)(O:Ow)(e:Expr)(f:ag->Option ae):Prop:=PE X e (tV X.K O f)
abbrev bL (X:Cx)(O:Ow)(e:Expr)(f:ag->Option (List ae)):Prop:=PE X e (zI X.K O f)
abbrev bR (X:Cx)(O:Ow)(e:Expr)(f:ag->Option (List ae)):Prop:=PE X e (Q3 X.K O f)
abbrev fT (X:Cx)(O:Ow)(e:Expr)(f:ag->Option Bool):Prop:=PT X e (tT X.K O f)
abbrev rZ (X:Cx)(O:Ow)(e:Expr)(f:ag->Option Bool):Prop:=PW X e (tT X.K O f)
abbrev hV (X:Cx)(O:Ow)(es:List Expr)(f:ag->Option (List ae)):Prop:=PA X es (QP X.K O f)
abbrev fS (X:Cx)(O:Ow)(es:List Expr)(f:ag->Option (List ae)):Prop:=PA X es (QR X.K O f)
theorem PE.imp {X:Cx}{e:Expr}{t t':TE}(h:PE X e t)(hi:∀ σ H Q,t' σ H Q->t σ H Q):PE X e t':=fun pins s σ H Q I q=>h pins s σ H Q I (hi σ H Q q)
theorem PT.imp {X:Cx}{e:Expr}{t t':TT}(h:PT X e t)(hi:∀ σ H Q,t' σ H Q->t σ H Q):PT X e t':=fun pins s σ H Q I q=>h pins s σ H Q I (hi σ H Q q)
theorem PW.imp {X:Cx}{e:Expr}{t t':TT}(h:PW X e t)(hi:∀ σ H Q,t' σ H Q->t σ H Q):PW X e t':=fun wh pins s σ H Q I q=>h wh pins s σ H Q I (hi σ H Q q)
theorem PA.imp {X:Cx}{es:List Expr}{t t':TA}(h:PA X es t)(hi:∀ σ H Q,t' σ H Q->t σ H Q):PA X es t':=fun pos pins s σ H Q I q=>h pos pins s σ H Q I (hi σ H Q q)
theorem PS.imp {X:Cx}{st:aG}{t t':TS}(h:PS X st t)(hi:∀ D σ H,t' D σ H->t D σ H):PS X st t':=fun pins s σ H D I q=>h pins s σ H D I (hi D σ H q)
theorem dw.imp {X:Cx}{st:List aG}{t t':TS}(h:dw X st t)(hi:∀ D σ H,t' D σ H->t D σ H):dw X st t':=fun pins s σ H D I q=>h pins s σ H D I (hi D σ H q)
theorem PG.imp {X:Cx}{tg:Expr}{t t':TG}(h:PG X tg t)(hi:∀ v σ H Q,t' v σ H Q->t v σ H Q):PG X tg t':=fun pins s σ H v u Q I r q=>h pins s σ H v u Q I r (hi v σ H Q q)
theorem kN.imp {X:Cx}{tg:List Expr}{t t':jL}(h:kN X tg t)(hi:∀ v σ H Q,t' v σ H Q->t v σ H Q):kN X tg t':=fun pins s σ H v u Q I r q=>h pins s σ H v u Q I r (hi v σ H Q q)
theorem PI.imp {X:Cx}{tg iter:Expr}{t t':TI}(h:PI X tg iter t)(hi:∀ σ H R,t' σ H R->t σ H R):PI X tg iter t':=fun pins s σ H R I q=>h pins s σ H R I (hi σ H R q)
def ja:ae->Option Bool
 | .bool b=>some b
 | _=>none
def cH:ae->Option (List ae)
 | .list ds=>some ds
 | _=>none
def RO:ae->Option (List ae)
 | .tuple ds=>some ds
 | _=>none
def au (a b:Option ae)(g:ae->ae->Option ae):Option ae:=a.bind fun x=>b.bind fun y=>g x y
inductive AH (a b:Option ae)(g:ae->ae->Option ae)(r:ae):Prop
 | mk (x y:ae) (h1:a=some x) (h2:b=some y) (h3:g x y=some r):AH a b g r
inductive AG {α β:Type}(a:Option α)(g:α->Option β)(r:β):Prop
 | mk (x:α) (h1:a=some x) (h2:g x=some r):AG a g r
inductive A_ {α β:Type}(a:Option α)(g:α->β)(r:β):Prop
 | mk (x:α) (h1:a=some x) (h2:g x=r):A_ a g r
theorem mi {a b:Option ae}{g:ae->ae->Option ae}{r:ae}(h:au a b g=some r):AH a b g r:=by
 unfold au at h
 cases a with
 | none=>exact L2.bp h
 | some x=>
  cases b with
  | none=>exact L2.bp h
  | some y=>exact⟨x,y,rfl,rfl,h⟩
def ai (x:Option ae)(r:Option (List ae)):Option (List ae):=x.bind fun d=>r.map (d::·)
def bq (x:Option ae):Option Bool:=x.bind ja
def bu {α:Type}(c:Option Bool)(a b:Option α):Option α:=c.bind fun k=>if k=true then a else b
def BM (x y:Option Bool):Option Bool:=x.bind fun c=>if c=true then y else some false
def mJ (x y:Option Bool):Option Bool:=x.bind fun c=>if c=true then some true else y
def jO (x y:Option ae):Option ae:=(x.bind ja).bind fun c=>if c=true then y else some (.bool false)
def qr (x y:Option ae):Option ae:=(x.bind ja).bind fun c=>if c=true then some (.bool true) else y
def x9 (x:Option ae):Option ae:=(x.bind ja).map fun c=>.bool (!c)
theorem bind_some {α β:Type}{a:Option α}{g:α->Option β}{r:β}(h:a.bind g=some r):AG a g r:=by
 cases a with
 | none=>exact L2.bp h
 | some x=>exact⟨x,rfl,h⟩
theorem map_some {α β:Type}{a:Option α}{g:α->β}{r:β}(h:a.map g=some r):A_ a g r:=by
 cases a with
 | none=>exact L2.bp h
 | some x=>exact⟨x,rfl,aE h⟩
section
variable {X:Cx}{O:Ow}{e a b c:Expr}{f fa fb fc:ag->Option ae}{pos:Pos}
theorem PV.r (h:PV X O e f):PR X O e f:=h.imp fun σ H Q ⟨hid,H0,ρ,ow,d,E,hf,k⟩=>⟨hid,H0,ρ,ow,d,E,hf,fun v H' s D=>k v H' s (D.mono (iJ _ _ _))⟩
theorem PR.cl0 (h:PR X O e f)(h0:O.s=[]:=by rfl):PV X O e f:=h.imp fun σ H Q ⟨hid,H0,ρ,ow,d,E,hf,k⟩=>⟨hid,H0,ρ,ow,d,E,hf,fun v H' s D=>k v H' s (by rw[E.emp h0,lC];exact D)⟩
theorem PR.clf (h:PR X O e f):PV X O e (fun ρ=>(f ρ).filter lf):=h.imp fun σ H Q zpat=>by
 obtain⟨hid,H0,ρ,ow,d,E,hf,k⟩:=zpat
 obtain⟨h1,h2⟩:=Option.filter_eq_some_iff.mp hf
 exact⟨hid,H0,ρ,ow,d,E,h1,fun v H' s D=>k v H' s (D.clean (E.mono s).lists h2)⟩
theorem bL.r {f:ag->Option (List ae)}(h:bL X O e f):PR X O e (fun ρ=>(f ρ).map .list):=h.imp fun σ H Q zpat=>by
 obtain⟨hid,H0,ρ,ow,d,E,hf,k⟩:=zpat
 obtain⟨ds,h1,rfl⟩:=map_some hf
 exact⟨hid,H0,ρ,ow,ds,E,h1,fun l vs H' s n q D=>k (.ref l) H' s (.lst (bD.of (by rw[bE fun z=>E.fresh n (.inl z)];exact q)) (D.mono (iJ _ _ _)))⟩
theorem bR.fr {f:ag->Option (List ae)}(h:bR X O e f):bL X O e f:=h.imp fun σ H Q ⟨hid,H0,ρ,ow,d,E,hf,k⟩=>⟨hid,H0,ρ,ow,d,E,hf,fun l vs H' s n q D=>k l vs H' s n q (D.mono (cN fun b z=>by rcases z with z | z;exact .inl z;exact .inr (by simp at z;simp[z])))⟩
theorem bR.v {f:ag->Option (List ae)}(h:bR X O e f):PV X O e (fun ρ=>(f ρ).map .list):=h.imp fun σ H Q zpat=>by
 obtain⟨hid,H0,ρ,ow,d,E,hf,k⟩:=zpat
 obtain⟨ds,h1,rfl⟩:=map_some hf
 refine⟨hid,H0,ρ,ow,ds,E,h1,fun l vs H' s n q D=>k (.ref l) H' s (.lst (bD.of ?_) (D.mono (cN fun b z=>by rcases z with z | z;exact .inl z;exact .inr (bP _ z))))⟩
 rw[bE (E.fresh n)]
 exact q
theorem bL.cf {f:ag->Option (List ae)}(h:bL X O e f):bR X O e (fun ρ=>(f ρ).filter lf.go):=h.imp fun σ H Q zpat=>by
 obtain⟨hid,H0,ρ,ow,d,E,hf,k⟩:=zpat
 obtain⟨h1,h2⟩:=Option.filter_eq_some_iff.mp hf
 refine⟨hid,H0,ρ,ow,d,E,h1,fun l vs H' s n q D=>k l vs H' s n q ((D.mono (iJ _ _ _)).clean (fun l2 h2=>?_) h2)⟩
 rcases List.mem_cons.mp h2 with rfl | h2
 ·exact⟨.l vs,q⟩
 ·exact (E.mono s).lists l2 h2
theorem bL.cz {f:ag->Option (List ae)}(h:bL X O e f)(h0:O.s=[]:=by rfl):bR X O e f:=h.imp fun σ H Q ⟨hid,H0,ρ,ow,d,E,hf,k⟩=>⟨hid,H0,ρ,ow,d,E,hf,fun l vs H' s n q D=>k l vs H' s n q (by rw[E.emp h0];exact D)⟩
theorem join_some {ρ:ag}{i:Nat}{d:ae}(h:(ρ[i]?).join=some d):ρ[i]?=some (some d):=by
 cases q:ρ[i]? with
 | none=>rw[q] at h;cases h
 | some x=>rw[q] at h;exact congrArg some h
theorem lr {i:Nat}(h:PE X e (dG i)):PR X O e (fun ρ=>(ρ[i]?).join):=h.imp fun σ H Q zpat=>by
 obtain⟨hid,H0,ρ,ow,d,E,hf,k⟩:=zpat
 obtain⟨v,h1,h2⟩:=E.raw (join_some hf)
 exact⟨v,h1,k v H (ay.refl H) h2⟩
theorem Ek {i:Nat}(h:PE X e (dG i))(hi:O.s.lookup i=none:=by rfl):PV X O e (fun ρ=>(ρ[i]?).join):=h.imp fun σ H Q zpat=>by
 obtain⟨hid,H0,ρ,ow,d,E,hf,k⟩:=zpat
 obtain⟨v,h1,h2⟩:=E.val i d hi (join_some hf)
 exact⟨v,h1,k v H (ay.refl H) h2⟩
theorem t6 {v:V}{d:ae}(h:PE X e (tC v))(s:Sc v d):PV X O e (fun _=>some d):=h.imp fun σ H Q zpat=>by
 obtain⟨hid,H0,ρ,ow,d',E,hf,k⟩:=zpat
 obtain rfl:=aE hf
 exact k v H (ay.refl H) s.den
theorem bK {i:Int}{j:Nat}:PV X O (.Constant (.int i) j pos) (fun _=>some (.int i)):=t6 yi (.int i)
theorem om {i:Bool}{j:Nat}:PV X O (.Constant (.bool i) j pos) (fun _=>some (.bool i)):=t6 NO (.bl i)
theorem fu {j:Nat}:PV X O (.Constant .none j pos) (fun _=>some .none):=t6 NV .non
theorem aC {x:Str}{j:Nat}:PV X O (.Constant (.str x) j pos) (fun _=>some (.str x)):=t6 oj (.str x)
def iG (K:ao)(rd:R2)(g:ae->ae->Option ae):Prop:=∀ x y H d e r Q,aJ K H x d->aJ K H y e->g d e=some r->(∀ v,Sc v r->Q v H)->rd x y H Q
def BE (K:ao)(rd:R2)(g:ae->ae->Option ae):Prop:=∀ x y H G d e r Q,ay G H->aJ K G x d->aJ K G y e->g d e=some r->(∀ v,aJ K G v r->Q v H)->rd x y H Q
theorem iR {K:ao}{rd:R2}{g:ae->ae->Option ae}(hg:iG K rd g):∀ σ H Q,tV K O (fun ρ=>au (fa ρ) (fb ρ) g) σ H Q->oB rd (tR K O fa) (tR K O fb) σ H Q:=fun σ H Q zpat=>by
 obtain⟨hid,H0,ρ,ow,r,E,hf,k⟩:=zpat
 obtain⟨d,e,h1,h2,h3⟩:=mi hf
 exact⟨hid,H0,ρ,ow,d,E,h1,fun x H1 s1 D1=>⟨hid,H0,ρ,ow,e,E.mono s1,h2,fun y H2 s2 D2=>hg x y H2 d e r Q ((D1.mono (aZ s2 _)).mono (bH _ _)) (D2.mono (bH _ _)) h3 fun v S=>k v H2 (s1.trans s2) S.den⟩⟩
theorem Rk {K:ao}{rd:R2}{g:ae->ae->Option ae}(hg:BE K rd g):∀ σ H Q,tR K O (fun ρ=>au (fa ρ) (fb ρ) g) σ H Q->oB rd (tR K O fa) (tR K O fb) σ H Q:=fun σ H Q zpat=>by
 obtain⟨hid,H0,ρ,ow,r,E,hf,k⟩:=zpat
 obtain⟨d,e,h1,h2,h3⟩:=mi hf
 exact⟨hid,H0,ρ,ow,d,E,h1,fun x H1 s1 D1=>⟨hid,H0,ρ,ow,e,E.mono s1,h2,fun y H2 s2 D2=>hg x y H2 _ d e r Q (bH _ hid) (D1.mono (aZ s2 _)) D2 h3 fun v S=>k v H2 (s1.trans s2) S⟩⟩
def eO:ae->Option Int
 | .int i=>some i
 | _=>none
theorem iO {d:ae}{i:Int}(h:eO d=some i):d=.int i:=by
 cases d with
 | int j=>rw[aE h]
 | _=>exact L2.bp h
def ur:ae->Option (List ae)
 | .list ds=>some ds
 | .tuple ds=>some ds
 | _=>none
theorem zv {d:ae}{ds:List ae}(h:ur d=some ds):d=.list ds∨d=.tuple ds:=by
 cases d with
 | list es=>exact .inl (by rw[aE h])
 | tuple es=>exact .inr (by rw[aE h])
 | _=>exact L2.bp h
def jn (h:Int->Int->ae)(d e:ae):Option ae:=(eO d).bind fun i=>(eO e).map fun j=>h i j
def jo (c:Int->Int->Bool)(h:Int->Int->ae)(d e:ae):Option ae:=(eO d).bind fun i=>(eO e).bind fun j=>if c i j=true then some (h i j) else none
theorem CZ {h:Int->Int->ae}{d e r:ae}(q:jn h d e=some r):∃ i j,d=.int i∧e=.int j∧r=h i j:=by
 obtain⟨i,h1,q⟩:=bind_some q
 obtain⟨j,h2,q⟩:=map_some q
 exact ⟨i,j,iO h1,iO h2,q.symm⟩
theorem KW {c:Int->Int->Bool}{h:Int->Int->ae}{d e r:ae}(q:jo c h d e=some r):∃ i j,d=.int i∧e=.int j∧c i j=true∧r=h i j:=by
 obtain⟨i,h1,q⟩:=bind_some q
 obtain⟨j,h2,q⟩:=bind_some q
 by_cases hc:c i j=true
 ·rw[if_pos hc] at q
  exact ⟨i,j,iO h1,iO h2,hc,(aE q).symm⟩
 ·rw[if_neg hc] at q;exact L2.bp q
def one:List ae->Option ae
 | [d]=>some d
 | _=>none
theorem ya {ds:List ae}{d:ae}(h:one ds=some d):ds=[d]:=by
 cases ds with
 | nil=>exact L2.bp h
 | cons a r=>
  cases r with
  | nil=>rw[aE h]
  | cons b r=>exact L2.bp h
def two:List ae->Option (ae×ae)
 | [d,e]=>some (d,e)
 | _=>none
theorem zL {ds:List ae}{p:ae×ae}(h:two ds=some p):ds=[p.1,p.2]:=by
 cases ds with
 | nil=>exact L2.bp h
 | cons a r=>
  cases r with
  | nil=>exact L2.bp h
  | cons b r=>
   cases r with
   | nil=>rw[← aE h]
   | cons c r=>exact L2.bp h
theorem mQ {K:ao}{g:Int->Int->V}{h:Int->Int->ae}(hs:∀ i j,Sc (g i j) (h i j)):iG K (j4 g) (jn h):=fun x y H d e r Q D1 D2 q k=>by
 obtain⟨i,j,zq2,zq3,zq4⟩:=CZ q
 subst zq2
 subst zq3
 subst zq4
 exact ⟨i,j,eD D1,eD D2,k _ (hs i j)⟩
theorem qM {K:ao}{C:Int->Int->Prop}{c:Int->Int->Bool}{g:Int->Int->V}{h:Int->Int->ae}(hs:∀ i j,Sc (g i j) (h i j))(hc:∀ i j,c i j=true->C i j):iG K (rI C g) (jo c h):=fun x y H d e r Q D1 D2 q k=>by
 obtain⟨i,j,zq2,zq3,hcc,zq5⟩:=KW q
 subst zq2
 subst zq3
 subst zq5
 exact ⟨i,j,eD D1,eD D2,hc i j hcc,k _ (hs i j)⟩
def lb (i:Int):Bool:=decide (i.natAbs<big)
def ez:=jn fun i j=>.int (i+j)
def iw:=jn fun i j=>.int (i - j)
def s_ (i:Int):Bool:=decide (i.natAbs<2 ^ 63)
def d7:=jo (fun i j=>(lb i&&lb j)||(s_ i||s_ j)) fun i j=>.int (i*j)
def dz:=jo (fun _ j=>decide (j≠0)&&lb j) fun i j=>.int (i.fdiv j)
def cu:=jo (fun _ j=>decide (j≠0)) fun i j=>.int (i.fmod j)
def f7:=jo (fun i j=>decide (0≤j)&&decide (j≤1000000)&&decide (i.natAbs<2 ^ 64)) fun i j=>.int (i ^ j.toNat)
def mG:=jn fun i j=>.bool (decide (i<j))
def tu:=jn fun i j=>.bool (decide (i≤j))
def p7:=jn fun i j=>.bool (decide (j<i))
def xC:=jn fun i j=>.bool (decide (j≤i))
def cc (d e:ae):Option ae:=if (fW d&&fW e)=true then some (.bool (i6 d e)) else none
def eJ (d e:ae):Option ae:=if (fW d&&fW e)=true then some (.bool (!i6 d e)) else none
theorem Qu {K:ao}:iG K (En K) cc:=fun x y H d e r Q D1 D2 q k=>by
 unfold cc at q
 split at q
 ·rename_i h
  rw[cq] at h
  obtain rfl:=aE q
  exact ⟨d,e,D1,D2,h.1,h.2,k _ (.bl _)⟩
 ·exact L2.bp q
theorem Qx {K:ao}:iG K (Eu K) eJ:=fun x y H d e r Q D1 D2 q k=>by
 unfold eJ at q
 split at q
 ·rename_i h
  rw[cq] at h
  obtain rfl:=aE q
  exact ⟨d,e,D1,D2,h.1,h.2,k _ (.bl _)⟩
 ·exact L2.bp q
theorem v_add (ha:PR X O a fa)(hb:PR X O b fb):PV X O (.BinOp a .Add b pos) (fun ρ=>au (fa ρ) (fb ρ) ez):=(il DY ha hb).imp (iR (mQ fun _ _=>.int _))
theorem v_sub (ha:PR X O a fa)(hb:PR X O b fb):PV X O (.BinOp a .Sub b pos) (fun ρ=>au (fa ρ) (fb ρ) iw):=(il NG ha hb).imp (iR (mQ fun _ _=>.int _))
theorem v_mul (ha:PR X O a fa)(hb:PR X O b fb):PV X O (.BinOp a .Mult b pos) (fun ρ=>au (fa ρ) (fb ρ) d7):=(il NB ha hb).imp (iR (qM (fun _ _=>.int _) fun i j h=>by
 rw[AK,AK,cq] at h
 rcases h with h | h | h
 ·exact .inl ⟨of_decide_eq_true h.1,of_decide_eq_true h.2⟩
 ·have:=of_decide_eq_true h
  exact .inr (.inl (by omega))
 ·have:=of_decide_eq_true h
  exact .inr (.inr (by omega))))
theorem lD (ha:PR X O a fa)(hb:PR X O b fb):PV X O (.BinOp a .FloorDiv b pos) (fun ρ=>au (fa ρ) (fb ρ) dz):=(il Nq ha hb).imp (iR (qM (fun _ _=>.int _) fun i j h=>by
 rw[cq] at h;exact⟨of_decide_eq_true h.1,of_decide_eq_true h.2⟩))
theorem v_mod (ha:PR X O a fa)(hb:PR X O b fb):PV X O (.BinOp a .Mod b pos) (fun ρ=>au (fa ρ) (fb ρ) cu):=(il DZ ha hb).imp (iR (qM (fun _ _=>.int _) fun i j h=>of_decide_eq_true h))
theorem v_pow (ha:PR X O a fa)(hb:PR X O b fb):PV X O (.BinOp a .Pow b pos) (fun ρ=>au (fa ρ) (fb ρ) f7):=(il NF ha hb).imp (iR (qM (fun _ _=>.int _) fun i j h=>by
 rw[cq,cq] at h;exact⟨of_decide_eq_true h.1.1,of_decide_eq_true h.1.2,of_decide_eq_true h.2⟩))
structure eM (X:Cx)(op:gh)(g:ae->ae->Option ae):Prop where
 ex:∃ rd,cE X (fC op) rd∧iG X.K rd g
theorem sx:eM X .Lt mG:=⟨_,NA,mQ fun _ _=>.bl _⟩
theorem B4:eM X .LtE tu:=⟨_,Nz,mQ fun _ _=>.bl _⟩
theorem wR:eM X .Gt p7:=⟨_,Nt,mQ fun _ _=>.bl _⟩
theorem II:eM X .GtE xC:=⟨_,Nr,mQ fun _ _=>.bl _⟩
theorem cY (hu:X.A.units+64<cLine):eM X .Eq cc:=⟨_,Np hu,Qu⟩
theorem jS (hu:X.A.units+64<cLine):eM X .NotEq eJ:=⟨_,NC hu,Qx⟩
theorem qV {op:gh}{g:ae->ae->Option ae}(C:eM X op g)(ha:PR X O a fa)(hb:PR X O b fb)(h1:op≠.In:=by decide)(h2:op≠.NotIn:=by decide):PV X O (.Compare a [op] [b] pos) (fun ρ=>au (fa ρ) (fb ρ) g):=by
 obtain⟨rd,ho,hs⟩:=C.ex
 exact (yf ho ha hb (tM b h1 h2)).imp (iR hs)
theorem jQ {d:ae}{b:Bool}(h:ja d=some b):d=.bool b:=by
 unfold ja at h
 split at h
 ·cases h;rfl
 ·exact L2.bp h
theorem cw {op:gh}{g:ae->ae->Option ae}(C:eM X op g)(ha:PR X O a fa)(hb:PR X O b fb)(h1:op≠.In:=by decide)(h2:op≠.NotIn:=by decide):fT X O (.Compare a [op] [b] pos) (fun ρ=>bq (au (fa ρ) (fb ρ) g)):=by
 obtain⟨rd,ho,hs⟩:=C.ex
 refine (yp ho ha hb (tM b h1 h2)).imp fun σ H Q zpat=>?_
 obtain⟨hid,H0,ρ,ow,k,E,hf,q⟩:=zpat
 obtain⟨d,h3,h4⟩:=bind_some hf
 refine iR hs σ H _ ⟨hid,H0,ρ,ow,d,E,h3,fun v H' s D=>?_⟩
 rw[jQ h4] at D
 exact⟨k,iK D,q H' s⟩
theorem mS (h:PR X O e f)(he:∀ whole,isTrue e X.env whole=(do let v ← whole;jv e.pos;jm [v] (truthy v)):=by intro _;rfl):fT X O e (fun ρ=>bq (f ρ)):=
 (Ov h he).imp fun σ H Q zpat=>by
  obtain⟨hid,H0,ρ,ow,k,E,hf,q⟩:=zpat
  obtain⟨d,h3,h4⟩:=bind_some hf
  refine⟨hid,H0,ρ,ow,d,E,h3,fun v H' s D=>?_⟩
  rw[jQ h4] at D
  exact⟨k,iK D,q H' s⟩
variable {ga gb:ag->Option Bool}{rest:List Expr}
theorem uR (ha:fT X O a ga):rZ X O (.BoolOp .Or [a] pos) ga:=Em ha
theorem w_or (ha:fT X O a ga)(hb:rZ X O (.BoolOp .Or (b::rest) pos) gb):rZ X O (.BoolOp .Or (a::b::rest) pos) (fun ρ=>mJ (ga ρ) (gb ρ)):=
 (El ha hb).imp fun σ H Q zpat=>by
  obtain⟨hid,H0,ρ,ow,k,E,hf,q⟩:=zpat
  obtain⟨c,h1,h2⟩:=bind_some hf
  refine⟨hid,H0,ρ,ow,c,E,h1,fun H1 s1=>?_⟩
  cases c with
  | true=>rw[if_pos rfl] at h2 ⊢;cases h2;exact q H1 s1
  | false=>rw[if_neg dH] at h2 ⊢;exact⟨hid,H0,ρ,ow,k,E.mono s1,h2,fun H2 s2=>q H2 (s1.trans s2)⟩
theorem uI (h:rZ X O e ga):fT X O e ga:=h.pt
theorem qQ (ha:fT X O a ga):fT X O (.UnaryOp .Not a pos) (fun ρ=>(ga ρ).map not):=(Ou ha).imp fun σ H Q zpat=>by
 obtain⟨hid,H0,ρ,ow,k,E,hf,q⟩:=zpat
 obtain⟨c,h1,h2⟩:=map_some hf
 subst h2
 exact⟨hid,H0,ρ,ow,c,E,h1,fun H1 s1=>q H1 s1⟩
theorem oq {op:BoolOp}(h:PR X O a fa):PR X O (.BoolOp op [a] pos) fa:=Eb h
theorem qB (ha:PR X O a fa)(hb:PR X O (.BoolOp .And (b::rest) pos) fb):PR X O (.BoolOp .And (a::b::rest) pos) (fun ρ=>jO (fa ρ) (fb ρ)):=
 (D7 ha hb).imp fun σ H Q zpat=>by
  obtain⟨hid,H0,ρ,ow,k,E,hf,q⟩:=zpat
  obtain⟨c,h1,h2⟩:=bind_some hf
  obtain⟨d,h3,h4⟩:=bind_some h1
  refine⟨hid,H0,ρ,ow,d,E,h3,fun v H1 s1 D=>?_⟩
  rw[jQ h4] at D
  refine⟨c,iK D,?_⟩
  cases c with
  | true=>rw[if_pos rfl] at h2 ⊢;exact⟨hid,H0,ρ,ow,k,E.mono s1,h2,fun w H2 s2 D2=>q w H2 (s1.trans s2) D2⟩
  | false=>rw[if_neg dH] at h2 ⊢;cases h2;exact q _ H1 s1 (.bl false)
theorem Ex (ha:PR X O a fa)(hb:PR X O (.BoolOp .Or (b::rest) pos) fb):PR X O (.BoolOp .Or (a::b::rest) pos) (fun ρ=>qr (fa ρ) (fb ρ)):=
 (NZ ha hb).imp fun σ H Q zpat=>by
  obtain⟨hid,H0,ρ,ow,k,E,hf,q⟩:=zpat
  obtain⟨c,h1,h2⟩:=bind_some hf
  obtain⟨d,h3,h4⟩:=bind_some h1
  refine⟨hid,H0,ρ,ow,d,E,h3,fun v H1 s1 D=>?_⟩
  rw[jQ h4] at D
  refine⟨c,iK D,?_⟩
  cases c with
  | true=>rw[if_pos rfl] at h2 ⊢;cases h2;exact q _ H1 s1 (.bl true)
  | false=>rw[if_neg dH] at h2 ⊢;exact⟨hid,H0,ρ,ow,k,E.mono s1,h2,fun w H2 s2 D2=>q w H2 (s1.trans s2) D2⟩
theorem v_not (ha:PR X O a fa):PV X O (.UnaryOp .Not a pos) (fun ρ=>x9 (fa ρ)):=(NY ha).imp fun σ H Q zpat=>by
 obtain⟨hid,H0,ρ,ow,k,E,hf,q⟩:=zpat
 obtain⟨c,h1,h2⟩:=map_some hf
 obtain⟨d,h3,h4⟩:=bind_some h1
 subst h2
 refine⟨hid,H0,ρ,ow,d,E,h3,fun v H1 s1 D=>?_⟩
 rw[jQ h4] at D
 exact⟨c,iK D,q _ H1 s1 (.bl _)⟩
def tL:ae->Option ae
 | .int i=>some (.int (-i))
 | _=>none
theorem Sf (ha:PR X O a fa):PV X O (.UnaryOp .USub a pos) (fun ρ=>(fa ρ).bind tL):=(N1 R4 ha).imp fun σ H Q zpat=>by
 obtain⟨hid,H0,ρ,ow,k,E,hf,q⟩:=zpat
 obtain⟨d,h1,h2⟩:=bind_some hf
 unfold tL at h2
 split at h2
 ·obtain rfl:=aE h2
  exact⟨hid,H0,ρ,ow,_,E,h1,fun v H1 s1 D=>⟨_,eD D,q _ H1 s1 (.int _)⟩⟩
 ·exact L2.bp h2
def B9 (x y:Option ae)(g g':ae->ae->Option ae)(z:Option ae):Option ae:=x.bind fun d=>y.bind fun e=>((g d e).bind ja).bind fun k=>if k=true then z.bind fun h=>g' e h else some (.bool false)
theorem R8 {op op':gh}{g g':ae->ae->Option ae}(C:eM X op g)(C':eM X op' g')(ha:PR X O a fa)(hb:PR X O b fb)(hc:PR X O c fc)(hm:lastMarks [op,op'] [b,c]=false:=by with_unfolding_all rfl) :
  PV X O (.Compare a [op,op'] [b,c] pos) (fun ρ=>B9 (fa ρ) (fb ρ) g g' (fc ρ)):=by
 obtain⟨rd,ho,hs⟩:=C.ex
 obtain⟨rd',ho',hs'⟩:=C'.ex
 refine (NP ho ho' ha hb hc hm).imp fun σ H Q zpat=>?_
 obtain⟨hid,H0,ρ,ow,r,E,hf,q⟩:=zpat
 obtain⟨d,h1,hf⟩:=bind_some hf
 obtain⟨e,h2,hf⟩:=bind_some hf
 obtain⟨k,h3,hf⟩:=bind_some hf
 obtain⟨z,h4,h5⟩:=bind_some h3
 have hz:=jQ h5
 subst hz
 refine⟨hid,H0,ρ,ow,d,E,h1,fun x H1 s1 D1=>⟨hid,H0,ρ,ow,e,E.mono s1,h2,fun y H2 s2 D2=>hs x y H2 d e _ _ ((D1.mono (aZ s2 _)).mono (bH _ _)) (D2.mono (bH _ _)) h4 fun v S=>?_⟩⟩
 cases S
 refine⟨k,rfl,?_⟩
 cases k with
 | true=>
  rw[if_pos rfl] at hf ⊢
  obtain⟨h,h6,h7⟩:=bind_some hf
  exact⟨hid,H0,ρ,ow,h,(E.mono s1).mono s2,h6,fun w H3 s3 D3=>hs' y w H3 e h r Q ((D2.mono (aZ s3 _)).mono (bH _ _)) (D3.mono (bH _ _)) h7 fun v S=>q v H3 ((s1.trans s2).trans s3) S.den⟩
 | false=>
  rw[if_neg dH] at hf ⊢
  obtain rfl:=aE hf
  exact q _ H2 (s1.trans s2) (.bl false)
theorem qD {t:Expr}(ht:fT X O t ga)(ha:PR X O a fa)(hb:PR X O b fb):PR X O (.IfExp t a b pos) (fun ρ=>bu (ga ρ) (fa ρ) (fb ρ)):=
 (NS ht ha hb).imp fun σ H Q zpat=>by
  obtain⟨hid,H0,ρ,ow,k,E,hf,q⟩:=zpat
  obtain⟨c,h1,h2⟩:=bind_some hf
  refine⟨hid,H0,ρ,ow,c,E,h1,fun H1 s1=>?_⟩
  cases c with
  | true=>rw[if_pos rfl] at h2 ⊢;exact⟨hid,H0,ρ,ow,k,E.mono s1,h2,fun w H2 s2 D2=>q w H2 (s1.trans s2) D2⟩
  | false=>rw[if_neg dH] at h2 ⊢;exact⟨hid,H0,ρ,ow,k,E.mono s1,h2,fun w H2 s2 D2=>q w H2 (s1.trans s2) D2⟩
def bz (d e:ae):Option ae:=(ur d).bind fun ds=>(eO e).bind fun i=>atI ds i
theorem Fc {K:ao}:BE K (fun x y H Q=>Er K x y H Q∨Et K x y H Q) bz:=fun x y H G d e r Q s D1 D2 q k=>by
 obtain⟨ds,h1,q⟩:=bind_some q
 obtain⟨i,h2,q⟩:=bind_some q
 obtain rfl:=iO h2
 rcases zv h1 with rfl | rfl
 ·obtain⟨p,vs,rfl,h1,h2⟩:=dU D1
  obtain⟨v,h3,h4⟩:=h2.atI q
  exact .inl ⟨p,vs,_,v,rfl,eD D2,s.seq h1,h3,k v h4⟩
 ·obtain⟨p,vs,rfl,h1,h2⟩:=pT D1
  obtain⟨v,h3,h4⟩:=h2.atI q
  exact .inr ⟨p,vs,_,v,rfl,eD D2,s.tup h1,h3,k v h4⟩
theorem cA (ha:PR X O a fa)(hb:PR X O b fb)(hs:r8 b:=by intro _ _;rfl):PR X O (.Subscript a b pos) (fun ρ=>au (fa ρ) (fb ρ) bz):=(yj (xN.or xO) ha hb hs).imp (Rk Fc)
variable {es:List Expr}{fs:ag->Option (List ae)}
theorem bc:hV X O [] (fun _=>some []):=pa_nil.imp fun σ H Q ⟨hid,H0,ρ,ow,ds,E,hf,k⟩=>by cases hf;exact k [] H (ay.refl H) .nil
theorem aH (ha:PR X O a fa)(hr:hV X O es fs)(hs:ax (a::es) X.env=(false,aB a X.env)::ax es X.env:=by rfl):hV X O (a::es) (fun ρ=>ai (fa ρ) (fs ρ)):=
 (pa_cons ha hr hs).imp fun σ H Q zpat=>by
  obtain⟨hid,H0,ρ,ow,ds,E,hf,k⟩:=zpat
  obtain⟨d,h1,hf⟩:=bind_some hf
  obtain⟨r,h2,rfl⟩:=map_some hf
  exact⟨hid,H0,ρ,ow,d,E,h1,fun x H1 s1 D1=>⟨hid,H0,ρ,ow,r,E.mono s1,h2,fun xs H2 s2 D2=>k (x::xs) H2 (s1.trans s2) (.cons (D1.mono (aZ s2 _)) D2)⟩⟩
theorem aL:fS X O [] (fun _=>some []):=pa_nil.imp fun σ H Q ⟨hid,H0,ρ,ow,ds,E,hf,k⟩=>by cases hf;exact k [] H (ay.refl H) .nil
theorem aq (ha:PV X O a fa)(hr:fS X O es fs)(hs:ax (a::es) X.env=(false,aB a X.env)::ax es X.env:=by rfl):fS X O (a::es) (fun ρ=>ai (fa ρ) (fs ρ)):=
 (pa_cons ha hr hs).imp fun σ H Q zpat=>by
  obtain⟨hid,H0,ρ,ow,ds,E,hf,k⟩:=zpat
  obtain⟨d,h1,hf⟩:=bind_some hf
  obtain⟨r,h2,rfl⟩:=map_some hf
  exact⟨hid,H0,ρ,ow,d,E,h1,fun x H1 s1 D1=>⟨hid,H0,ρ,ow,r,E.mono s1,h2,fun xs H2 s2 D2=>k (x::xs) H2 (s1.trans s2) (.cons (D1.mono (aZ s2 _)) D2)⟩⟩
theorem xR {n:Nat}(h:decide (n≤1000)=true):n≤sizeLine:=dn (of_decide_eq_true h) (by decide)
def bo (f:List ae->ae)(o:Option (List ae)):Option ae:=o.bind fun ds=>if decide (ds.length≤1000)=true then some (f ds) else none
theorem zy {f:List ae->ae}{o:Option (List ae)}{r:ae}(h:bo f o=some r):∃ ds,o=some ds∧ds.length≤sizeLine∧r=f ds:=by
 obtain⟨ds,h1,h2⟩:=bind_some h
 split at h2
 ·rename_i hc
  exact⟨ds,h1,xR hc,(aE h2).symm⟩
 ·exact L2.bp h2
theorem bJ {x1}(h:fS X O es fs):PV X O (.Tuple es x1 pos) (fun ρ=>bo .tuple (fs ρ)):=(tZ h).imp fun σ H Q zpat=>by
 obtain⟨hid,H0,ρ,ow,r,E,hf,k⟩:=zpat
 obtain⟨ds,h1,h2,zq3⟩:=zy hf
 subst zq3
 refine⟨hid,H0,ρ,ow,ds,E,h1,fun vs H1 s1 D1=>⟨by rw[D1.length];exact h2,fun p hp=>?_⟩⟩
 refine k _ _ (s1.trans (cb hp)) (.tup (cF.of ((E.mono s1).newAt hp)) (D1.mono (aZ (cb hp) _)))
theorem j5 {x1}(h:hV X O es fs):PR X O (.Tuple es x1 pos) (fun ρ=>bo .tuple (fs ρ)):=(tZ h).imp fun σ H Q zpat=>by
 obtain⟨hid,H0,ρ,ow,r,E,hf,k⟩:=zpat
 obtain⟨ds,h1,h2,zq3⟩:=zy hf
 subst zq3
 refine⟨hid,H0,ρ,ow,ds,E,h1,fun vs H1 s1 D1=>⟨by rw[D1.length];exact h2,fun p hp=>?_⟩⟩
 exact k _ _ (s1.trans (cb hp)) (.tup (cF.of ((E.mono s1).newAtR hp)) (D1.mono (aZ (cb hp) _)))
def bX (o:Option (List ae)):Option (List ae):=o.bind fun ds=>if decide (ds.length≤1000)=true then some ds else none
theorem E5 {o:Option (List ae)}{r:List ae}(h:bX o=some r):o=some r∧r.length≤sizeLine:=by
 obtain⟨ds,h1,h2⟩:=bind_some h
 split at h2
 ·rename_i hc
  obtain rfl:=aE h2
  exact⟨h1,xR hc⟩
 ·exact L2.bp h2
theorem dO (h:fS X O es fs):bR X O (.List es pos) (fun ρ=>bX (fs ρ)):=(yl h).imp fun σ H Q zpat=>by
 obtain⟨hid,H0,ρ,ow,r,E,hf,k⟩:=zpat
 obtain⟨h1,h2⟩:=E5 hf
 refine⟨hid,H0,ρ,ow,r,E,h1,fun vs H1 s1 D1=>⟨by rw[D1.length];exact h2,fun p hp=>?_⟩⟩
 exact k _ vs _ (s1.trans (cb hp)) (s1.free hp) cD (D1.mono (k4 (cb hp) hp fun b z=>by rcases z with z | z;exact .inl (.inl z);rcases List.mem_cons.mp z with z | z;exact .inr z;exact .inl (.inr z)))
theorem gR (h:hV X O es fs):bL X O (.List es pos) (fun ρ=>bX (fs ρ)):=(yl h).imp fun σ H Q zpat=>by
 obtain⟨hid,H0,ρ,ow,r,E,hf,k⟩:=zpat
 obtain⟨h1,h2⟩:=E5 hf
 refine⟨hid,H0,ρ,ow,r,E,h1,fun vs H1 s1 D1=>⟨by rw[D1.length];exact h2,fun p hp=>?_⟩⟩
 exact k _ vs _ (s1.trans (cb hp)) (s1.free hp) cD (D1.mono (k4 (cb hp) hp fun b z=>by rcases z with z | z;exact .inl z;exact .inr (by simpa using z)))
def cZ (x y:Option ae):Option (List ae):=(x.bind cH).bind fun ds=>(y.bind cH).bind fun es=>if decide ((ds++es).length≤1000)=true then some (ds++es) else none
theorem fQ {d:ae}{ds:List ae}(h:cH d=some ds):d=.list ds:=by
 cases d with
 | list es=>rw[aE h]
 | _=>exact L2.bp h
theorem wY {x y:Option ae}{r:List ae}(h:cZ x y=some r):∃ ds es,x=some (.list ds)∧y=some (.list es)∧r=ds++es∧ds.length+es.length≤sizeLine:=by
 obtain⟨ds,h1,h⟩:=bind_some h
 obtain⟨es,h2,h⟩:=bind_some h
 obtain⟨d,h3,h4⟩:=bind_some h1
 obtain⟨e,h5,h6⟩:=bind_some h2
 rw[fQ h4] at h3
 rw[fQ h6] at h5
 split at h
 ·rename_i hc
  obtain rfl:=aE h
  exact ⟨ds,es,h3,h5,rfl,(by rw[← eN];exact xR hc)⟩
 ·exact L2.bp h
theorem fX (ha:PV X O a fa)(hb:PV X O b fb):bR X O (.BinOp a .Add b pos) (fun ρ=>cZ (fa ρ) (fb ρ)):=(il yc ha hb).imp fun σ H Q zpat=>by
 obtain⟨hid,H0,ρ,ow,r,E,hf,k⟩:=zpat
 obtain⟨ds,es,h1,h2,zq4,hl⟩:=wY hf
 subst zq4
 refine⟨hid,H0,ρ,ow,_,E,h1,fun x H1 s1 D1=>⟨hid,H0,ρ,ow,_,E.mono s1,h2,fun y H2 s2 D2=>?_⟩⟩
 obtain⟨l,xs,rfl,q1,r1⟩:=dU D1
 obtain⟨m,ys,rfl,q2,r2⟩:=dU D2
 refine ⟨l,m,xs,ys,rfl,rfl,s2.seq ((bH _ _).seq q1),(bH _ _).seq q2,(by rw[r1.length,r2.length];exact hl),(fun p hp=>?_)⟩
 exact k _ _ _ ((s1.trans s2).trans (cb hp)) ((s1.trans s2).free hp) cD (((r1.mono (aZ s2 _)).append r2).mono (k4 (cb hp) hp fun b z=>by rcases z with z | z;exact .inl (.inl z);rcases List.mem_cons.mp z with z | z;exact .inr z;exact .inl (.inr z)))
theorem p5 (ha:PR X O a fa)(hb:PR X O b fb):bL X O (.BinOp a .Add b pos) (fun ρ=>cZ (fa ρ) (fb ρ)):=(il yc ha hb).imp fun σ H Q zpat=>by
 obtain⟨hid,H0,ρ,ow,r,E,hf,k⟩:=zpat
 obtain⟨ds,es,h1,h2,zq4,hl⟩:=wY hf
 subst zq4
 refine⟨hid,H0,ρ,ow,_,E,h1,fun x H1 s1 D1=>⟨hid,H0,ρ,ow,_,E.mono s1,h2,fun y H2 s2 D2=>?_⟩⟩
 obtain⟨l,xs,rfl,q1,r1⟩:=dU D1
 obtain⟨m,ys,rfl,q2,r2⟩:=dU D2
 refine ⟨l,m,xs,ys,rfl,rfl,s2.seq ((bH _ _).seq q1),(bH _ _).seq q2,(by rw[r1.length,r2.length];exact hl),(fun p hp=>?_)⟩
 exact k _ _ _ ((s1.trans s2).trans (cb hp)) ((s1.trans s2).free hp) cD (((r1.mono (aZ s2 _)).append r2).mono (k4 (cb hp) hp fun b z=>by rcases z with z | z;exact .inl z;exact .inr (by simpa using z)))
def cx (K:ao)(T:Ty)(F:List ae->Option ae):Sp:=fun vs H Q _=>∃ (hid:af->Prop) (ds:List ae) (r:ae),(∀ b,hid b->∃ vs:cM,H b=some vs.ho)∧aD K (av H hid) vs ds∧F ds=some r∧∀ v as H',ay H H'->(∀ p∈as,H p=none)->bg K H' (av H' (uni hid as)) T v r as->Q v H'
def zJ (K:ao)(O:Ow)(T:Ty)(f:ag->Option ae):TE:=fun σ H Q=>dA K O f σ H fun hid H0 ρ ow d=>∀ v as H',ay H H'->(∀ p∈as,H p=none)->bg K H' (av H' (uni hid (as++ow))) T v d as->Q v H'
abbrev fB (X:Cx)(O:Ow)(T:Ty)(e:Expr)(f:ag->Option ae):Prop:=PE X e (zJ X.K O T f)
theorem jy {hid:af->Prop}{as bs:List af}(h:∀ p∈as,p∈bs)(b:af)(z:uni hid as b):uni hid bs b:=by
 rcases z with z | z
 ·exact .inl z
 ·exact .inr (h b z)
theorem bR.ft {f:ag->Option (List ae)}(h:bR X O e f):fB X O (.lst .cl) e (fun ρ=>(f ρ).map .list):=h.imp fun σ H Q zpat=>by
 obtain⟨hid,H0,ρ,ow,d,E,hf,k⟩:=zpat
 obtain⟨ds,h1,rfl⟩:=map_some hf
 refine⟨hid,H0,ρ,ow,ds,E,h1,fun l vs H' s n q D=>k (.ref l) [l] H' s (fun p hp=>by rw[List.mem_singleton.mp hp];exact n) (.lst q D.os (by simp))⟩
theorem PV.ft (h:PV X O e f):fB X O .cl e f:=h.imp fun σ H Q ⟨hid,H0,ρ,ow,d,E,hf,k⟩=>⟨hid,H0,ρ,ow,d,E,hf,fun v H' s D=>k v [] H' s (fun p hp=>by cases hp) (.cl D)⟩
theorem OO {k:Nat}{g:af}{fd:aY}{ps:List Str}{x:Str}{p:Pos}{T:Ty}{F:List ae->Option ae}(G:aW X.prog X.w X.K X.mg X.base bx k g fd ps (cx X.K T F))(hr:bC k X.A)(hg:Gl X x)(hm:X.mg x=some (.ref g))(hk:gK X.K (.ref g)=true)(hb:Binds X.K fd ps [])
  (ha:hV X O (a::es) fs) (hdb:(x==("__debug__":Str))=false:=by decide) (he:ax (a::es) X.env=(false,aB a X.env)::ax es X.env:=by rfl) (hpl:(a0 pos (ax es X.env)).any (·.1)=false:=by rfl) :
  PR X O (.Call (.Name x p) (a::es) [] pos) (fun ρ=>(fs ρ).bind F):=
 (qt G hr hg hm hk hb .nil js ha hdb he hpl).imp fun σ H Q zpat=>by
  obtain⟨hid,H0,ρ,ow,r,E,hf,q⟩:=zpat
  obtain⟨ds,h1,h2⟩:=bind_some hf
  refine⟨hid,H0,ρ,ow,ds,E,h1,fun vs H1 s1 D1=>⟨hid,ds,r,(E.mono s1).ishL,by rw[e6];exact D1,h2,fun v as H2 s2 n2 D2=>q v H2 (s1.trans s2) ?_⟩⟩
  exact D2.raw (iJ _ _ _) fun p hp o e=>by rw[bE fun z=>(E.mono s1).ish p z (n2 p hp)];exact e
theorem Kg {k:Nat}{g:af}{fd:aY}{ps:List Str}{x:Str}{p:Pos}{T:Ty}{F:List ae->Option ae}(G:aW X.prog X.w X.K X.mg X.base bx k g fd ps (cx X.K T F))(hr:bC k X.A)(hg:Gl X x)(hm:X.mg x=some (.ref g))(hk:gK X.K (.ref g)=true)(hb:Binds X.K fd ps [])
  (ha:fS X O (a::es) fs) (hdb:(x==("__debug__":Str))=false:=by decide) (he:ax (a::es) X.env=(false,aB a X.env)::ax es X.env:=by rfl) (hpl:(a0 pos (ax es X.env)).any (·.1)=false:=by rfl) :
  fB X O T (.Call (.Name x p) (a::es) [] pos) (fun ρ=>(fs ρ).bind F):=
 (qt G hr hg hm hk hb .nil js ha hdb he hpl).imp fun σ H Q zpat=>by
  obtain⟨hid,H0,ρ,ow,r,E,hf,q⟩:=zpat
  obtain⟨ds,h1,h2⟩:=bind_some hf
  refine⟨hid,H0,ρ,ow,ds,E,h1,fun vs H1 s1 D1=>⟨uni hid ow,ds,r,(E.mono s1).uniL,by rw[e6];exact D1,h2,fun v as H2 s2 n2 D2=>q v as H2 (s1.trans s2) (fun p hp=>s1.free (n2 p hp)) ?_⟩⟩
  refine D2.mono (cN fun b z=>?_) fun p _ o e=>e
  rcases z with z | z
  ·exact .inl (.inl z)
  ·rcases List.mem_append.mp z with z | z
   ·exact .inr z
   ·exact .inl (.inr z)
theorem R7 {k:Nat}{g:af}{fd:aY}{ps:List Str}{x:Str}{p:Pos}{T:Ty}{F:List ae->Option ae}(G:aW X.prog X.w X.K X.mg X.base bx k g fd ps (cx X.K T F))(hr:bC k X.A)(hg:Gl X x)(hm:X.mg x=some (.ref g))(hk:gK X.K (.ref g)=true)(hb:Binds X.K fd ps [])
  (ha:fS X O (a::es) fs) (hdb:(x==("__debug__":Str))=false:=by decide) (he:ax (a::es) X.env=(false,aB a X.env)::ax es X.env:=by rfl) (hpl:(a0 pos (ax es X.env)).any (·.1)=false:=by rfl) :
  PV X O (.Call (.Name x p) (a::es) [] pos) (fun ρ=>(fs ρ).bind F):=
 (qt G hr hg hm hk hb .nil js ha hdb he hpl).imp fun σ H Q zpat=>by
  obtain⟨hid,H0,ρ,ow,r,E,hf,q⟩:=zpat
  obtain⟨ds,h1,h2⟩:=bind_some hf
  refine⟨hid,H0,ρ,ow,ds,E,h1,fun vs H1 s1 D1=>⟨uni hid ow,ds,r,(E.mono s1).uniL,by rw[e6];exact D1,h2,fun v as H2 s2 n2 D2=>q v H2 (s1.trans s2) ?_⟩⟩
  exact D2.raw (iJ _ _ _) fun p hp o e=>by rw[bE fun z=>(E.mono s1).fresh (n2 p hp) z];exact e
def Rt (K:ao)(O:Ow)(U:List Nat)(T:Ty)(f:ag->Option ae):TE:=fun σ H Q=>∃ hid H0 ρ ow d A,aK K O hid H0 σ H ρ ow∧i0 K O hid σ H ρ ow A∧f ρ=some d∧∀ v as H',ay H H'->(∀ p∈as,H p=none∨∃ i∈U,p∈A i)->bg K H' (av H' (uni hid (as++ow))) T v d as->Q v H'
def Ro (K:ao)(O:Ow)(U:List Nat)(Ts:List Ty)(f:ag->Option (List ae)):TA:=fun σ H Q=>∃ hid H0 ρ ow ds A,aK K O hid H0 σ H ρ ow∧i0 K O hid σ H ρ ow A∧f ρ=some ds∧∀ vs as H',ay H H'->(∀ p∈as,H p=none∨∃ i∈U,p∈A i)->ck K H' (av H' (uni hid (as++ow))) Ts vs ds as->Q vs H'
abbrev rX (X:Cx)(O:Ow)(U:List Nat)(T:Ty)(e:Expr)(f:ag->Option ae):Prop:=PE X e (Rt X.K O U T f)
abbrev S_ (X:Cx)(O:Ow)(U:List Nat)(Ts:List Ty)(es:List Expr)(f:ag->Option (List ae)):Prop:=PA X es (Ro X.K O U Ts f)
variable {T:Ty}{Ts:List Ty}{U U':List Nat}
theorem fB.rt (h:fB X O T e f):rX X O [] T e f:=h.imp fun σ H Q zpat=>by
 obtain⟨hid,H0,ρ,ow,d,A,E,EA,hf,k⟩:=zpat
 exact⟨hid,H0,ρ,ow,d,E,hf,fun v as H' s n D=>k v as H' s (fun p hp=>.inl (n p hp)) D⟩
theorem O4 {i:Nat}(h:PE X e (dG i))(hi:O.s.lookup i=some T:=by rfl):rX X O [i] T e (fun ρ=>(ρ[i]?).join):=h.imp fun σ H Q zpat=>by
 obtain⟨hid,H0,ρ,ow,d,A,E,EA,hf,k⟩:=zpat
 obtain⟨v,h1,h2⟩:=EA.1 i T d hi (join_some hf)
 refine⟨v,h1,k v (A i) H (ay.refl H) (fun p hp=>.inr ⟨i,List.mem_singleton.mpr rfl,hp⟩) (h2.mono (cN fun b z=>?_) fun p _ o e=>e)⟩
 rcases z with z | z
 ·exact .inl z
 ·rcases List.mem_append.mp z with z | z
  ·exact .inr (EA.2.2 i b z)
  ·exact .inr z
def HR (K:ao)(r:List V->Hp->VK->Prop)(g:List ae->Option ae):Prop:=∀ xs H ds d Q,aD K H xs ds->g ds=some d->(∀ v,Sc v d->Q v H)->r xs H Q
structure iU (X:Cx)(u:ah)(g:List ae->Option ae):Prop where
 ex:∃ r,eY X u r∧HR X.K r g
theorem gA {x:Str}{p:Pos}{id:String}{g:List ae->Option ae}(C:iU X (.builtin id) g)(hg:Gl X x)(hm:X.mg x=none)(hv:dJ x=some (.builtin id))(ha:hV X O (a::es) fs)(hn:x≠"__name__":=by decide)(hdb:(x==("__debug__":Str))=false:=by decide)
  (he:ax (a::es) X.env=(false,aB a X.env)::ax es X.env:=by rfl) (hpl:(a0 pos (ax es X.env)).any (·.1)=false:=by rfl):PV X O (.Call (.Name x p) (a::es) [] pos) (fun ρ=>(fs ρ).bind g):=by
 obtain⟨r,hc,hs⟩:=C.ex
 refine (lq hc hg hm hv ha hn hdb he hpl).imp fun σ H Q zpat=>?_
 obtain⟨hid,H0,ρ,ow,d,E,hf,q⟩:=zpat
 obtain⟨ds,h1,h2⟩:=bind_some hf
 exact⟨hid,H0,ρ,ow,ds,E,h1,fun vs H1 s1 D1=>hs vs H1 ds d Q (D1.mono (bH _ _)) h2 fun v S=>q v H1 s1 S.den⟩
theorem ki {x:Str}{p:Pos}{T:String}{g:List ae->Option ae}(C:iU X (.type T) g)(hg:Gl X x)(hm:X.mg x=none)(hv:dJ x=some (.type T))(ha:hV X O (a::es) fs)(hn:x≠"__name__":=by decide)(hdb:(x==("__debug__":Str))=false:=by decide)
  (he:ax (a::es) X.env=(false,aB a X.env)::ax es X.env:=by rfl) (hpl:(a0 pos (ax es X.env)).any (·.1)=false:=by rfl):PV X O (.Call (.Name x p) (a::es) [] pos) (fun ρ=>(fs ρ).bind g):=by
 obtain⟨r,hc,hs⟩:=C.ex
 refine (D_ hc hg hm hv ha hn hdb he hpl).imp fun σ H Q zpat=>?_
 obtain⟨hid,H0,ρ,ow,d,E,hf,q⟩:=zpat
 obtain⟨ds,h1,h2⟩:=bind_some hf
 exact⟨hid,H0,ρ,ow,ds,E,h1,fun vs H1 s1 D1=>hs vs H1 ds d Q (D1.mono (bH _ _)) h2 fun v S=>q v H1 s1 S.den⟩
def eG (ds:List ae):Option ae:=(one ds).bind fun d=>(ur d).map fun es=>.int es.length
def xW (ds:List ae):Option ae:=(two ds).bind fun p=>jn (fun i j=>.int (if j<i then j else i)) p.1 p.2
def KY:ae->Option ae
 | .int i=>some (.int i)
 | .bool b=>some (.int (if b then 1 else 0))
 | _=>none
def intD (ds:List ae):Option ae:=(one ds).bind KY
theorem mI {K:ao}{H:Hp}{vs:List V}{d:ae}(h:aD K H vs [d]):∃ v,vs=[v]∧aJ K H v d:=by
 obtain⟨v,ws,zq2,h1,h2⟩:=mw h
 subst zq2
 rw[sI h2]
 exact⟨v,rfl,h1⟩
theorem RZ {K:ao}{H:Hp}{vs:List V}{d e:ae}(h:aD K H vs [d,e]):∃ v w,vs=[v,w]∧aJ K H v d∧aJ K H w e:=by
 obtain⟨v,ws,zq2,h1,h2⟩:=mw h
 subst zq2
 obtain⟨w,zq1,h3⟩:=mI h2
 subst zq1
 exact ⟨v,w,rfl,h1,h3⟩
theorem ib:iU X (.builtin "len") eG:=⟨_,IS,fun xs H ds d Q D h k=>by
 obtain⟨e,h1,h⟩:=bind_some h
 obtain⟨es,h2,rfl⟩:=map_some h
 obtain rfl:=ya h1
 obtain⟨v,zq1,D1⟩:=mI D
 subst zq1
 rcases zv h2 with rfl | rfl
 ·obtain⟨p,vs,rfl,q,r⟩:=dU D1
  exact ⟨p,vs,rfl,.inl q,(by rw[r.length];exact k _ (.int _))⟩
 ·obtain⟨p,vs,rfl,q,r⟩:=pT D1
  exact ⟨p,vs,rfl,.inr q,(by rw[r.length];exact k _ (.int _))⟩⟩
theorem R0 {K:ao}{H:Hp}{vs:List V}{ds:List ae}{g:Int->Int->ae}{r:ae}(D:aD K H vs ds)(h:((two ds).bind fun p=>jn g p.1 p.2)=some r):∃ i j,vs=[.int i,.int j]∧r=g i j:=by
 obtain⟨p,h1,h⟩:=bind_some h
 obtain⟨i,j,h2,h3,h4⟩:=CZ h
 obtain rfl:=zL h1
 rw[h2,h3] at D
 obtain⟨v,w,zq2,D1,D2⟩:=RZ D
 subst zq2
 exact ⟨i,j,(by rw[eD D1,eD D2]),h4⟩
theorem Iu (hc:X.calm=true):iU X (.builtin "min") xW:=⟨_,IW hc,fun xs H ds d Q D h k=>by
 obtain⟨i,j,h1,h2⟩:=R0 D h
 subst h2
 exact ⟨i,j,h1,k _ (.int _)⟩⟩
theorem Iq:iU X (.type "int") intD:=⟨_,IM,fun xs H ds d Q D h k=>by
 obtain⟨e,h1,h⟩:=bind_some h
 obtain rfl:=ya h1
 obtain⟨v,zq1,D1⟩:=mI D
 subst zq1
 cases e with
 | int i=>
  obtain rfl:=aE h
  exact .inl ⟨_,by rw[eD D1],k _ (.int _)⟩
 | bool b=>
  obtain rfl:=aE h
  exact .inr ⟨_,by rw[iK D1],k _ (.int _)⟩
 | _=>exact L2.bp h⟩
end
end L2
namespace L2
variable [Reg]
inductive BG (K:ao)(O:Ow)(S:ae->ag->Option ag)(v:V)(σ:St)(H:Hp)(Q:St->Hp->Prop):Prop
 | mk (hid:af->Prop) (H0:Hp) (ρ:ag) (ow:List af) (d:ae) (ρ':ag) (E:aK K O hid H0 σ H ρ ow) (D:aJ K (av H (uni hid ow)) v d) (hs:S d ρ=some ρ') (k:∀ σ',aK K O hid H0 σ' H ρ' ow->Q σ' H):BG K O S v σ H Q
def tG (K:ao)(O:Ow)(S:ae->ag->Option ag):TG:=fun v σ H Q=>BG K O S v σ H Q
inductive BH (K:ao)(O:Ow)(S:List ae->ag->Option ag)(vs:List V)(σ:St)(H:Hp)(Q:St->Hp->Prop):Prop
 | mk (hid:af->Prop) (H0:Hp) (ρ:ag) (ow:List af) (ds:List ae) (ρ':ag) (E:aK K O hid H0 σ H ρ ow) (D:aD K (av H (uni hid ow)) vs ds) (hs:S ds ρ=some ρ') (k:∀ σ',aK K O hid H0 σ' H ρ' ow->Q σ' H):BH K O S vs σ H Q
def Q7 (K:ao)(O:Ow)(S:List ae->ag->Option ag):jL:=fun vs σ H Q=>BH K O S vs σ H Q
abbrev jJ (X:Cx)(O:Ow)(tg:Expr)(S:ae->ag->Option ag):Prop:=PG X tg (tG X.K O S)
abbrev rW (X:Cx)(O:Ow)(tg:List Expr)(S:List ae->ag->Option ag):Prop:=kN X tg (Q7 X.K O S)
def bS (i:Nat)(d:ae)(ρ:ag):Option ag:=some (ρ.set i (some d))
def dg (S:ae->ag->Option ag)(T:List ae->ag->Option ag):List ae->ag->Option ag
 | d::r,ρ=>(S d ρ).bind (T r)
 | [],_=>none
def gU:List ae->ag->Option ag
 | [],ρ=>some ρ
 | _::_,_=>none
def gz (n:Nat)(T:List ae->ag->Option ag):ae->ag->Option ag
 | .tuple ds,ρ=>if ds.length=n then T ds ρ else none
 | _,_=>none
section
variable {X:Cx}{O:Ow}{pos:Pos}
theorem cS {i:Nat}{x:Str}(hN:X.N.Nodup)(hi:X.N[i]?=some x)(hx:Loc X.env.scope x)(hO:O.s.lookup i=none:=by rfl)(hf:X.fn x=true∨X.env.scope.names.lookup x=some .local:=by first | exact .inl rfl | exact .inr rfl | assumption):jJ X O (.Name x pos) (bS i):=
 (N3 hN hi hx hf).imp fun v σ H Q zpat=>by
  obtain⟨hid,H0,ρ,ow,d,ρ',E,D,hS,k⟩:=zpat
  obtain rfl:=aE hS
  exact k _ (E.set hO D)
theorem mC:rW X O [] gU:=N6.imp fun vs σ H Q zpat=>by
 obtain⟨hid,H0,ρ,ow,ds,ρ',E,D,hS,k⟩:=zpat
 cases ds with
 | nil=>cases hS;exact⟨sI D,k _ E⟩
 | cons d r=>exact L2.bp hS
theorem fY {e:Expr}{es:List Expr}{S:ae->ag->Option ag}{T:List ae->ag->Option ag}(h1:jJ X O e S)(h2:rW X O es T)(hs:(i9 (e::es) X.env).map (·.2)=kW e X.env::(i9 es X.env).map (·.2):=by rfl):rW X O (e::es) (dg S T):=
 (N5 h1 h2 hs).imp fun vs σ H Q zpat=>by
  obtain⟨hid,H0,ρ,ow,ds,ρ',E,D,hS,k⟩:=zpat
  cases ds with
  | nil=>exact L2.bp hS
  | cons d r=>
   obtain⟨v,ws,zq2,D1,D2⟩:=mw D
   subst zq2
   obtain⟨ρ1,h3,h4⟩:=bind_some hS
   exact⟨v,ws,rfl,hid,H0,ρ,ow,d,ρ1,E,D1,h3,fun σ1 E1=>⟨hid,H0,ρ1,ow,r,ρ',E1,D2,h4,k⟩⟩
theorem mB {es:List Expr}{k n:Nat}{T:List ae->ag->Option ag}(hc:X.calm=true)(h:rW X O es T)(hn:(i9 es X.env).length=n:=by rfl)(hst:(i9 es X.env).findIdx? (·.1)=none:=by rfl):jJ X O (.Tuple es k pos) (gz n T):=
 (N4 hc h hn hst).imp fun v σ H Q zpat=>by
  obtain⟨hid,H0,ρ,ow,d,ρ',E,D,hS,k⟩:=zpat
  cases d with
  | tuple ds=>
   rw[gz] at hS
   split at hS
   ·rename_i hl
    obtain⟨a,vs,rfl,q,r⟩:=pT D
    exact⟨a,vs,rfl,(bH _ _).tup q,by rw[r.length];exact hl,hid,H0,ρ,ow,ds,ρ',E,r,hS,k⟩
   ·exact L2.bp hS
  | _=>exact L2.bp hS
end
structure gI (K:ao)(J:It)(G:Hp)(ds:List ae):Prop where
 go:∀ H2 i,ay G H2->i<ds.length->J.go i H2
 yld:∀ H2 i x H3 d,ay G H2->ds[i]?=some d->J.yld i H2 x H3->(H3=H2∧aJ K G x d)∨∃ p vs es,H2 p=none∧H3=upd H2 p (.tup vs)∧x=.ref p∧d=.tuple es∧aD K G vs es
 stop:∀ H2,ay G H2->J.stop ds.length H2
def Fu (K:ao)(O:Ow)(f:ag->Option (List ae)):TI:=fun σ H R=>dA K O f σ H fun hid H0 ρ ow ds=>∀ J H',ay H H'->gI K J (av H' hid) ds->R J H'
def Q_ (K:ao)(O:Ow)(f:ag->Option (List ae)):TI:=fun σ H R=>dA K O f σ H fun hid H0 ρ ow ds=>∀ J H',ay H H'->gI K J (av H' (uni hid ow)) ds->R J H'
abbrev pD (X:Cx)(O:Ow)(tg iter:Expr)(f:ag->Option (List ae)):Prop:=PI X tg iter (Fu X.K O f)
abbrev kO (X:Cx)(O:Ow)(tg iter:Expr)(f:ag->Option (List ae)):Prop:=PI X tg iter (Q_ X.K O f)
theorem Kw {K:ao}{G:Hp}{a:af}{xs:List V}{ds:List ae}(q:bD K G a xs)(r:aD K G xs ds):gI K (vK K a) G ds where
 go:=fun H2 i s h=>by
  have hl:i<xs.length:=by rw[r.length];exact h
  exact ⟨xs,xs[i],s.seq q,(by simp[hl])⟩
 yld:=fun H2 i x H3 d s h y=>by
  revert y
  refine fun zqq=>?_;obtain⟨zq0,y⟩:=zqq
  subst zq0
  obtain⟨v,h1,h2⟩:=r.get h
  have:=y xs (s.seq q)
  rw[h1] at this
  obtain rfl:=aE this
  exact .inl ⟨rfl,h2⟩
 stop:=fun H2 s=>⟨xs,s.seq q,by rw[r.length];exact cj _⟩
def eT (lo:Int)(n:Nat):List ae:=(iF n).map fun i=>.int (lo+(i:Nat))
theorem CU {K:ao}{G:Hp}(lo:Int)(n:Nat):gI K (o_ lo n) G (eT lo n) where
 go:=fun H2 i s h=>by
  have:i<n:=by simpa [eT] using h
  exact this
 yld:=fun H2 i x H3 d s h y=>by
  revert y
  refine fun zqq=>?_;obtain⟨zq0,zq1⟩:=zqq
  subst zq0
  subst zq1
  have:i<n∧PyData.int (lo+i)=d:=by
   unfold eT at h
   rw[e7] at h
   cases e:(iF n)[i]? with
   | none=>rw[e] at h;cases h
   | some j=>
    rw[e] at h
    obtain⟨h1,h2⟩:=List.getElem?_eq_some_iff.mp e
    have h3:i=j:=by simpa using h2
    subst h3
    exact⟨by simpa using h1,aE h⟩
  rw[← this.2]
  exact .inl ⟨rfl,.int _⟩
 stop:=fun H2 s=>by
  show n≤(eT lo n).length
  simp[eT]
section
variable {X:Cx}{O:Ow}{pos p:Pos}{tg e:Expr}{f:ag->Option ae}
theorem ik (h:PR X O e f):pD X O tg e (fun ρ=>(f ρ).bind cH):=(N8 h).imp fun σ H R zpat=>by
 obtain⟨hid,H0,ρ,ow,ds,E,hf,k⟩:=zpat
 obtain⟨d,h1,h2⟩:=bind_some hf
 rw[fQ h2] at h1
 refine⟨hid,H0,ρ,ow,_,E,h1,fun v H' s D=>?_⟩
 obtain⟨a,xs,rfl,q,r⟩:=dU D
 exact⟨a,rfl,⟨xs,(bH _ _).seq q⟩,k _ H' s (Kw q r)⟩
def lu (ds:List ae):Option (List ae):=(one ds).bind fun d=>(eO d).bind fun j=>if decide (j.natAbs<2 ^ 61)=true then some (eT 0 j.toNat) else none
theorem Me {j:Int}(h:j.natAbs<2 ^ 61):-(2 ^ 62)≤j∧j<2 ^ 62:=by omega
variable {a b:Expr}{fs:ag->Option (List ae)}
theorem EF {ds es:List ae}(h:lu ds=some es):∃ j,ds=[.int j]∧-(2 ^ 62)≤j∧j<2 ^ 62∧es=eT 0 j.toNat:=by
 obtain⟨d,h1,g1⟩:=bind_some h
 obtain⟨j,h2,g2⟩:=bind_some g1
 obtain rfl:=ya h1
 obtain rfl:=iO h2
 split at g2
 ·rename_i hc
  have hc':=Me (of_decide_eq_true hc)
  exact⟨j,rfl,hc'.1,hc'.2,(aE g2).symm⟩
 ·exact L2.bp g2
theorem Df (hg:Gl X "range")(hm:X.mg "range"=none)(ha:hV X O [a] fs)(hs:ax [a] X.env=[(false,aB a X.env)]:=by rfl):kO X O tg (.Call (.Name "range" p) [a] [] pos) (fun ρ=>(fs ρ).bind lu):=
 (Ed hg hm ha hs).imp fun σ H R zpat=>by
  obtain⟨hid,H0,ρ,ow,ds,E,hf,k⟩:=zpat
  obtain⟨es,h1,h2⟩:=bind_some hf
  obtain⟨j,zq1,h3,h4,zq4⟩:=EF h2
  subst zq1
  subst zq4
  refine⟨hid,H0,ρ,ow,_,E,h1,fun vs H' s D=>?_⟩
  obtain⟨v,zq1,D1⟩:=mI D
  subst zq1
  exact⟨j,by rw[eD D1],h3,h4,k _ H' s (CU 0 j.toNat)⟩
end
theorem gI.mono {K:ao}{J:It}{G G':Hp}{ds:List ae}(h:gI K J G ds)(s:ay G G'):gI K J G' ds where
 go:=fun H2 i e hi=>h.go H2 i (s.trans e) hi
 yld:=fun H2 i x H3 d e hd y=>by
  rcases h.yld H2 i x H3 d (s.trans e) hd y with ⟨a,b⟩ | ⟨p,vs,es,a,b,c,d',e'⟩
  ·exact .inl ⟨a,b.mono s⟩
  ·exact .inr ⟨p,vs,es,a,b,c,d',e'.mono s⟩
 stop:=fun H2 e=>h.stop H2 (s.trans e)
theorem gI.step {K:ao}{J:It}{G H2 H3:Hp}{ds:List ae}{P:af->Prop}{i:Nat}{x:V}{d:ae}(Gd:gI K J G ds)(into:ay G (av H2 P))(np:∀ p,H2 p=none->¬ P p)(hd:ds[i]?=some d)(y:J.yld i H2 x H3):ay H2 H3∧aJ K (av H3 P) x d:=by
 rcases Gd.yld H2 i x H3 d (into.trans (bH _ _)) hd y with ⟨rfl,Dx⟩ | ⟨p,vs,es,hp,rfl,rfl,hde,De⟩
 ·exact⟨ay.refl _,Dx.mono into⟩
 ·refine⟨cb hp,?_⟩
  rw[hde]
  exact .tup (cF.of (by rw[bE (np p hp),cD])) ((De.mono into).mono (aZ (cb hp) _))
inductive hR (ds:List ae)(i m:Nat)(rest:List ae):Prop
 | mk (pre:List ae) (e:ds=pre++rest) (hi:pre.length=i) (hm:rest.length=m):hR ds i m rest
theorem hR.start (ds:List ae):hR ds 0 ds.length ds:=⟨[],rfl,rfl,rfl⟩
theorem hR.fin {ds:List ae}{i m:Nat}(h:hR ds i m []):i=ds.length:=by
 cases h with
 | mk pre e hi hm=>rw[e,e6,hi]
theorem hR.cut {ds:List ae}{i m:Nat}{d:ae}{r:List ae}(h:hR ds i m (d::r)):i<ds.length∧ds[i]?=some d∧∃ m',m'<m∧hR ds (i+1) m' r:=by
 cases h with
 | mk pre e hi hm=>
  subst e hi hm
  refine⟨by rw[eN];exact Nat.lt_add_of_pos_right (Nat.zero_lt_succ _),by rw[lY (cj _),Nat.sub_self];rfl,r.length,vY _,pre++[d],by rw[nr];rfl,by rw[eN];rfl,rfl⟩
theorem kO.raw {X:Cx}{O:Ow}{tg e:Expr}{f:ag->Option (List ae)}(h:kO X O tg e f):pD X O tg e f:=h.imp fun σ H R ⟨hid,H0,ρ,ow,ds,E,hf,k⟩=>⟨hid,H0,ρ,ow,ds,E,hf,fun J H' s G=>k J H' s (G.mono (iJ _ _ _))⟩
abbrev O0:Ow:=⟨[],.cl⟩
def jc (S:ae->ag->Option ag)(ft:ag->Option Bool)(fe:ag->Option ae):List ae->ag->Option (List ae)
 | [],_=>some []
 | d::r,ρ=>(S d ρ).bind fun ρ1=>(ft ρ1).bind fun c=>if c=true then (fe ρ1).bind fun y=>(jc S ft fe r ρ1).map (y::·) else jc S ft fe r ρ1
def c_ (S:ae->ag->Option ag)(ft:ag->Option Bool)(fe:ag->Option ae)(x:Option (List ae))(ρ:ag):Option (List ae):=x.bind fun ds=>if decide (ds.length≤1000)=true then jc S ft fe ds ρ else none
abbrev v8 (X:Cx)(ifs:List Expr)(ft:ag->Option Bool):Prop:=nA X ifs (tT X.K O0 ft)
theorem fZ {X:Cx}:v8 X [] (fun _=>some true):=fun pins s σ H Q I zpat=>by
 obtain⟨hid,H0,ρ,ow,b,E,hf,k⟩:=zpat
 obtain rfl:=aE hf
 exact Oa pins s σ H Q I (k H (ay.refl H))
def frees (k:Nat)(ix:List Nat)(ρ:ag):ag:=cO k none++ix.map fun i=>(ρ[i]?).join
theorem Kf {K:ao}{O:Ow}{hid hid':af->Prop}{H0 H H':Hp}{σ:St}{ρ:ag}{ow:List af}(E:aK K O hid H0 σ H ρ ow)(s:ay H H')(hs:ay (av H hid) (av H' hid'))(hh:∀ b,hid' b->∃ vs:cM,H' b=some vs.ho)(k:Nat)(ix:List Nat):aK K O0 hid' H (ju k ix σ) H' (frees k ix ρ) []:=by
 refine⟨?_,fun b o e=>(by rw[bE (by simp)];exact s b o e),fun i d _ h=>?_,⟨fun _=>[],fun i t d h=>(by cases h),fun i j p _ h=>(by cases h),fun i p h=>(by cases h)⟩,fun l h=>(by cases h),hh,fun _=>rfl⟩
 ·unfold frees ju
  simp
 ·rw[lC]
  unfold frees at h
  unfold ju
  by_cases hi:i<k
  ·rw[jE (by simpa using hi),nt,if_pos hi] at h
   cases h
  ·have hj:k≤i:=pz hi
   rw[lY (by simpa using hj),e7] at h
   rw[lY (by simpa using hj),e7]
   simp only[pj] at h ⊢
   cases q:ix[i - k]? with
   | none=>rw[q] at h;cases h
   | some j=>
    rw[q] at h
    have h':(ρ[j]?).join=some d:=aE h
    obtain⟨v,h1,h2⟩:=E.raw (join_some h')
    exact⟨v,by simp[h1],h2.mono hs⟩
theorem aK.updHid {K:ao}{O:Ow}{hid:af->Prop}{H0 H:Hp}{σ:St}{ρ:ag}{ow:List af}(E:aK K O hid H0 σ H ρ ow){l:af}{ws:List V}(hl:hid l)(h0:H0 l=none):aK K O hid H0 σ (upd H l (.lst ws)) ρ ow:=by
 have ed:av (upd H l (.lst ws)) (uni hid ow)=av H (uni hid ow):=gp (.inl hl)
 have nl:∀ l'∈ow,l'≠l:=fun l' h z=>(E.isl l' h).2 (z▸hl)
 refine⟨E.len,fun b u e=>?_,fun i d hi h=>by rw[ed];exact E.val i d hi h,?_,fun l' h=>?_,fun b hb=>?_,E.emp⟩
 ·have hne:b≠l:=dh e h0
  have q:=E.base b u e
  by_cases hb:b∈ow
  ·rw[dy hb] at q;cases q
  ·rw[bE hb] at q ⊢
   rw[ba hne]
   exact q
 ·obtain⟨A,a1,a2,a3⟩:=E.own
  refine⟨A,fun i t d hi h=>?_,a2,a3⟩
  obtain⟨v,q,r⟩:=a1 i t d hi h
  exact⟨v,q,by rw[ed];exact r.mono (ay.refl _) fun p hp o e=>by rw[ba (nl p (a3 i p hp))];exact e⟩
 ·obtain⟨⟨vs,q⟩,n⟩:=E.isl l' h
  exact⟨⟨vs,by rw[ba (nl l' h)];exact q⟩,n⟩
 ·by_cases hne:b=l
  ·subst hne;rw[cD];exact⟨.l _,rfl⟩
  ·rw[ba hne];exact E.ishL b hb
inductive vj (K:ao)(hid:af->Prop)(H H1:Hp)(D:af)(S:ae->ag->Option ag)(ft:ag->Option Bool)(fe:ag->Option ae)(ds out:List ae)(i m:Nat)(τ:St)(H2:Hp):Prop
 | mk (ρ2:ag) (ys:List V) (done rest left:List ae) (hM:hR ds i m left) (E2:aK K O0 (uni hid [D]) H τ H2 ρ2 []) (s2:ay H1 H2) (hy:H2 D=some (.lst ys)) (hd:aD K (av H2 (uni hid [D])) ys done) (hr:jc S ft fe left ρ2=some rest) (ho:out=done++rest) (hl:done.length≤i):vj K hid H H1 D S ft fe ds out i m τ H2
theorem zP {hid:af->Prop}{D b:af}(z:uni hid [D] b):hid b∨b=D:=z.imp id List.mem_singleton.mp
theorem Cj {K:ao}{O:Ow}{fi:ag->Option (List ae)}{S:ae->ag->Option ag}{ft:ag->Option Bool}{fe:ag->Option ae}{k:Nat}{ix:List Nat}:∀ σ H Q,zI K O (fun ρ=>c_ S ft fe (fi ρ) (frees k ix ρ)) σ H Q->uE (Fu K O fi) (tG K O0 S) (tT K O0 ft) (tR K O0 fe) (ju k ix) σ H Q:=fun σ H Q zpat=>by
 obtain⟨hid,H0,ρ,ow,out,E,hf,q⟩:=zpat
 obtain⟨ds,h1,h2⟩:=bind_some hf
 split at h2
 case isFalse=>cases h2
 rename_i hlen
 have hz:ds.length≤1000:=of_decide_eq_true hlen
 clear hf hlen
 refine⟨hid,H0,ρ,ow,ds,E,h1,fun J H1 s1 G D hD=>?_⟩
 clear h1
 have hDH:H D=none:=s1.free hD
 have hDh:uni hid [D] D:=.inr bQ
 refine⟨vj K hid H H1 D S ft fe ds out,⟨ds.length,.mk (frees k ix ρ) [] [] out ds (.start ds) ?_ (cb hD) cD .nil h2 rfl (cj _)⟩,fun i m τ H2 zp=>?_⟩
 ·refine Kf E (s1.trans (cb hD)) (k4 (s1.trans (cb hD)) hDH fun b z=>zP z) (fun b z=>?_) k ix
  rcases zP z with z | z
  ·obtain⟨vs,e⟩:=E.ishL b z
   exact⟨vs,(s1.trans (cb hD)) _ _ e⟩
  ·rw[z,cD]
   exact⟨.l _,rfl⟩
 ·obtain⟨ρ2,ys,done,rest,left,hM,E2,s2,hy,hd,hr,ho,hdl⟩:=zp
  have into:ay (av H1 hid) (av H2 (uni hid [D])):=k4 s2 hD fun b z=>zP z
  have keep:ay (av H1 hid) H2:=into.trans (bH _ _)
  cases left with
  | nil=>
   obtain rfl:=hM.fin
   rw[jc] at hr
   obtain rfl:=aE hr
   rw[e6] at ho
   subst ho
   exact .inl ⟨G.stop H2 keep,q D ys H2 (s1.trans s2) hDH hy hd⟩
  | cons d r=>
   obtain⟨hlt,hdi,m',hm',hM'⟩:=hM.cut
   rw[jc] at hr
   obtain⟨ρ3,g1,hr⟩:=bind_some hr
   obtain⟨c,g2,hr⟩:=bind_some hr
   refine .inr ⟨G.go H2 i keep hlt,vj K hid H H1 D S ft fe ds out (i+1) m',fun τ' H' z=>⟨m',hm',z⟩,fun x H3 y=>?_⟩
   obtain⟨s23,Dx⟩:=G.step into (fun p hp z=>E2.fresh hp (.inl z)) hdi y
   rw[← lC (uni hid [D])] at Dx
   refine⟨uni hid [D],H,ρ2,[],d,ρ3,E2.mono s23,Dx,g1,fun τ3 E3=>⟨uni hid [D],H,ρ3,[],c,E3,g2,fun H5 s5=>?_⟩⟩
   have sA:ay H2 H5:=s23.trans s5
   clear Dx g1 g2 y
   cases c with
   | false=>
    dsimp only
    rw[if_neg dH] at hr ⊢
    exact .mk ρ3 ys done rest r hM' (E3.mono s5) (s2.trans sA) (sA _ _ hy) (hd.mono (aZ sA _)) hr ho (Nat.le_succ_of_le hdl)
   | true=>
    dsimp only
    rw[if_pos rfl] at hr ⊢
    obtain⟨yv,g3,hr⟩:=bind_some hr
    obtain⟨rest2,g4,rfl⟩:=map_some hr
    refine⟨uni hid [D],H,ρ3,[],yv,E3.mono s5,g3,fun y H6 s6 Dy=>?_⟩
    have sB:ay H2 H6:=sA.trans s6
    refine⟨ys,sB _ _ hy,?_,.mk ρ3 (ys++[y]) (done++[yv]) rest2 r hM' (((E3.mono s5).mono s6).updHid hDh hDH) (fun b o e=>?_) cD ?_ g4 ?_ ?_⟩
    ·rw[hd.length]
     exact kJ hdl (dI hlt (dn hz (by decide)))
    ·rw[ba (dh e hD)]
     exact sB b o (s2 b o e)
    ·rw[gp hDh]
     exact (hd.mono (aZ sB _)).append (.cons Dy .nil)
    ·rw[ho,nr];rfl
    ·rw[eN]
     exact Nat.succ_le_succ hdl
theorem gr {X:Cx}{O:Ow}{elt tg iter:Expr}{ifs:List Expr}{scope:Scope}{pos:Pos}{fi:ag->Option (List ae)}{S:ae->ag->Option ag}{ft:ag->Option Bool}{fe:ag->Option ae}{k:Nat}{N:List Str}{ix:List Nat}(sc:Scope)(hsc:X.env.scope=sc)(C:kx sc X.N scope k N ix)
  (hx:X.xe=fun _ _=>False) (hc:X.calm=true) (hi:pD X O tg iter fi)
  (hg:∀ cl C s3 H3 fp pins,jJ (dM X N scope cl C s3 H3 fp pins) O0 tg S) (ht:∀ cl C s3 H3 fp pins,v8 (dM X N scope cl C s3 H3 fp pins) ifs ft) (he:∀ cl C s3 H3 fp pins,PR (dM X N scope cl C s3 H3 fp pins) O0 elt fe)
  (hs:∀ x,k7 iter X.env x=aN x:=by intro _;rfl) :
  bL X O (.ListComp elt [⟨tg,iter,ifs,0⟩] scope pos) (fun ρ=>c_ S ft fe (fi ρ) (frees k ix ρ)):=by
 exact (NQ (g:=tG X.K O0 S) (tc:=tT X.K O0 ft) (te:=tR X.K O0 fe) sc hsc C hx hc hi hg ht he hs).imp Cj
inductive aA where
 | nx (ρ:ag) | rt (d:ae) | bk (ρ:ag) | ct (ρ:ag)
def me (K:ao)(O:Ow)(hid:af->Prop)(H0 G:Hp)(D:fw):aA->Prop
 | .nx ρ'=>∀ σ' H' ow',ay G (av H' (uni hid ow'))->aK K O hid H0 σ' H' ρ' ow'->D.nx σ' H'
 | .bk ρ'=>∀ σ' H' ow',ay G (av H' (uni hid ow'))->aK K O hid H0 σ' H' ρ' ow'->D.bk σ' H'
 | .ct ρ'=>∀ σ' H' ow',ay G (av H' (uni hid ow'))->aK K O hid H0 σ' H' ρ' ow'->D.ct σ' H'
 | .rt d=>∀ v as H',ay H0 H'->(∀ p∈as,H0 p=none)->bg K H' (av H' (uni hid as)) O.r v d as->D.rt v H'
def tP (K:ao)(O:Ow)(F:ag->Option aA):TS:=fun D σ H=>dA K O F σ H fun hid H0 ρ ow o=>me K O hid H0 (av H (uni hid ow)) D o
abbrev cR (X:Cx)(O:Ow)(st:aG)(F:ag->Option aA):Prop:=PS X st (tP X.K O F)
abbrev fL (X:Cx)(O:Ow)(st:List aG)(F:ag->Option aA):Prop:=dw X st (tP X.K O F)
theorem me.weak {K:ao}{O:Ow}{hid:af->Prop}{H0 G G':Hp}{D:fw}{o:aA}(s:ay G G')(h:me K O hid H0 G D o):me K O hid H0 G' D o:=by
 cases o with
 | nx ρ=>exact fun σ' H' ow' s' E=>h σ' H' ow' (s.trans s') E
 | bk ρ=>exact fun σ' H' ow' s' E=>h σ' H' ow' (s.trans s') E
 | ct ρ=>exact fun σ' H' ow' s' E=>h σ' H' ow' (s.trans s') E
 | rt d=>exact h
theorem aK.baseS {K:ao}{O:Ow}{hid:af->Prop}{H0 H:Hp}{σ:St}{ρ:ag}{ow:List af}(E:aK K O hid H0 σ H ρ ow):ay H0 H:=E.base.trans (bH _ _)
def aX (F G:ag->Option aA)(ρ:ag):Option aA:=(F ρ).bind fun o=>match o with
 | .nx ρ'=>G ρ'
 | .rt d=>some (.rt d)
 | .bk ρ'=>some (.bk ρ')
 | .ct ρ'=>some (.ct ρ')
def fD (S:ae->ag->Option ag)(F:ag->Option aA):List ae->ag->Option aA
 | [],ρ=>some (.nx ρ)
 | d::r,ρ=>(S d ρ).bind fun ρ1=>(F ρ1).bind fun o=>match o with
  | .nx ρ2=>fD S F r ρ2
  | .ct ρ2=>fD S F r ρ2
  | .bk ρ2=>some (.nx ρ2)
  | .rt v=>some (.rt v)
def bj (i:Nat)(ρ:ag)(x:Option ae):Option aA:=x.map fun d=>.nx (ρ.set i (some d))
def qJ (i:Nat)(ρ:ag)(x:Option (List ae)):Option aA:=x.map fun ds=>.nx (ρ.set i (some (.list ds)))
def pU (ρ:ag)(x:Option ae):Option aA:=x.map fun _=>.nx ρ
def Il (S:ae->ag->Option ag)(ρ:ag)(x:Option ae):Option aA:=x.bind fun d=>(S d ρ).map .nx
def sU (S:ae->ag->Option ag)(F:ag->Option aA)(x:Option (List ae))(ρ:ag):Option aA:=x.bind fun ds=>fD S F ds ρ
def mU (t:ag->Option Bool)(F:ag->Option aA):Nat->ag->Option aA
 | 0,_=>none
 | n+1,ρ=>(t ρ).bind fun c=>if c=true then (F ρ).bind fun o=>match o with
  | .nx ρ2=>mU t F n ρ2
  | .ct ρ2=>mU t F n ρ2
  | .bk ρ2=>some (.nx ρ2)
  | .rt v=>some (.rt v) else some (.nx ρ)
section
variable {X:Cx}{O:Ow}{st:aG}{rest:List aG}{F G:ag->Option aA}{e:Expr}{f:ag->Option ae}{pos:Pos}
theorem ef:fL X O [] (fun ρ=>some (.nx ρ)):=qy.imp fun D σ H zpat=>by
 obtain⟨hid,H0,ρ,ow,o,E,hf,k⟩:=zpat
 obtain rfl:=aE hf
 exact k σ H ow (ay.refl _) E
theorem bf (h1:cR X O st F)(h2:fL X O rest G):fL X O (st::rest) (aX F G):=(mL h1 h2).imp fun D σ H zpat=>by
 obtain⟨hid,H0,ρ,ow,o,E,hf,k⟩:=zpat
 obtain⟨o1,g1,g2⟩:=bind_some hf
 refine⟨hid,H0,ρ,ow,o1,E,g1,?_⟩
 cases o1 with
 | nx ρ1=>exact fun σ' H' ow' s' E'=>⟨hid,H0,ρ1,ow',o,E',g2,by cases o <;> exact k.weak s'⟩
 | rt d=>cases g2;exact k
 | bk ρ1=>cases g2;exact k
 | ct ρ1=>cases g2;exact k
theorem bT (h1:cR X O st F):fL X O [st] F:=qz h1
theorem qN {sts:List aG}:fL X O sts (fun _=>none):=Ef.imp fun D σ H ⟨hid,H0,ρ,ow,o,E,hf,k⟩=>by cases hf
theorem EK (h:PR X O e f)(hs:dF e none pos.line X.env=aN false:=by rfl):cR X O (.Expr e pos) (fun ρ=>pU ρ (f ρ)):=(qv h hs).imp fun D σ H zpat=>by
 obtain⟨hid,H0,ρ,ow,o,E,hf,k⟩:=zpat
 obtain⟨d,g1,rfl⟩:=map_some hf
 exact⟨hid,H0,ρ,ow,d,E,g1,fun v H' s _=>k σ H' ow (aZ s _) (E.mono s)⟩
theorem b8 (h:PR X O e f)(hr:O.r=.cl:=by rfl):cR X O (.Return (some e) pos) (fun ρ=>(f ρ).map .rt):=(mK h).imp fun D σ H zpat=>by
 obtain⟨hid,H0,ρ,ow,o,E,hf,k⟩:=zpat
 obtain⟨d,g1,rfl⟩:=map_some hf
 exact⟨hid,H0,ρ,ow,d,E,g1,fun v H' s Dv=>k v [] H' (E.baseS.trans s) (fun p hp=>by cases hp) (by rw[hr,lC];exact .cl Dv)⟩
theorem Pe {U:List Nat}(h:rX X O U O.r e f):cR X O (.Return (some e) pos) (fun ρ=>(f ρ).map .rt):=(mK h).imp fun D σ H zpat=>by
 obtain⟨hid,H0,ρ,ow,o,E,hf,k⟩:=zpat
 obtain⟨d,g1,rfl⟩:=map_some hf
 obtain⟨A,EA⟩:=E.own
 refine ⟨hid,H0,ρ,ow,d,A,E,EA,g1,(fun v as H' s n Dv=>k v as H' (E.baseS.trans s) (fun p hp=>?_) (Dv.mono (cN (jy fun p hp=>cy _ hp)) fun p _ o e=>e))⟩
 rcases n p hp with z | ⟨i,_,z⟩
 ·exact E.baseS.free z
 ·exact E.ow0 (EA.2.2 i p z)
theorem d_ {c:Expr}{a b:List aG}{ft:ag->Option Bool}(hc:fT X O c ft)(ha:fL X O a F)(hb:fL X O b G):cR X O (.If c a b pos) (fun ρ=>bu (ft ρ) (F ρ) (G ρ)):=(qw hc ha hb).imp fun D σ H zpat=>by
 obtain⟨hid,H0,ρ,ow,o,E,hf,k⟩:=zpat
 obtain⟨c,g1,g2⟩:=bind_some hf
 refine⟨hid,H0,ρ,ow,c,E,g1,fun H' s=>?_⟩
 cases c with
 | true=>rw[if_pos rfl] at g2 ⊢;exact⟨hid,H0,ρ,ow,o,E.mono s,g2,k.weak (aZ s _)⟩
 | false=>rw[if_neg dH] at g2 ⊢;exact⟨hid,H0,ρ,ow,o,E.mono s,g2,k.weak (aZ s _)⟩
theorem eV {i:Nat}{x:Str}{pos':Pos}(hN:X.N.Nodup)(hi:X.N[i]?=some x)(hx:Loc X.env.scope x)(he:PV X O e f)(hO:O.s.lookup i=none:=by rfl)(hs:dF e (some (.Name x pos')) pos.line X.env=aN false:=by rfl)(hf:X.fn x=true∨X.env.scope.names.lookup x=some .local:=by first | exact .inl rfl | exact .inr rfl | assumption) :
  cR X O (.Assign [.Name x pos'] e pos) (fun ρ=>bj i ρ (f ρ)):=(t5 hN hi hx he hs hf).imp fun D σ H zpat=>by
 obtain⟨hid,H0,ρ,ow,o,E,hf,k⟩:=zpat
 obtain⟨d,g1,rfl⟩:=map_some hf
 exact⟨hid,H0,ρ,ow,d,E,g1,fun v H' s Dv=>k _ H' ow (aZ s _) ((E.mono s).set hO Dv)⟩
theorem y0 {i:Nat}{x:Str}{pos':Pos}{T:Ty}(hN:X.N.Nodup)(hi:X.N[i]?=some x)(hx:Loc X.env.scope x)(he:fB X O T e f)(hO:O.s.lookup i=some T:=by rfl)(hs:dF e (some (.Name x pos')) pos.line X.env=aN false:=by rfl)(hf:X.fn x=true∨X.env.scope.names.lookup x=some .local:=by first | exact .inl rfl | exact .inr rfl | assumption) :
  cR X O (.Assign [.Name x pos'] e pos) (fun ρ=>bj i ρ (f ρ)):=(t5 hN hi hx he hs hf).imp fun D σ H zpat=>by
 obtain⟨hid,H0,ρ,ow,o,E,hf,k⟩:=zpat
 obtain⟨d,g1,rfl⟩:=map_some hf
 refine⟨hid,H0,ρ,ow,d,E,g1,fun v as H' s n Dv=>k _ H' (as++ow) ?_ (E.setT s hO n Dv)⟩
 intro b u z
 by_cases hb:uni hid ow b
 ·rw[dy hb] at z;cases z
 ·rw[bE hb] at z
  rw[bE fun y=>?_]
  ·exact s b u z
  ·rcases y with y | y
   ·exact hb (.inl y)
   ·rcases List.mem_append.mp y with y | y
    ·rw[n b y] at z;cases z
    ·exact hb (.inr y)
theorem yZ {i:Nat}{x:Str}{pos':Pos}{f:ag->Option (List ae)}(hN:X.N.Nodup)(hi:X.N[i]?=some x)(hx:Loc X.env.scope x)(he:bR X O e f)(hO:O.s.lookup i=some (.lst .cl):=by rfl)(hs:dF e (some (.Name x pos')) pos.line X.env=aN false:=by rfl)(hf:X.fn x=true∨X.env.scope.names.lookup x=some .local:=by first | exact .inl rfl | exact .inr rfl | assumption) :
  cR X O (.Assign [.Name x pos'] e pos) (fun ρ=>qJ i ρ (f ρ)):=(y0 hN hi hx he.ft hO hs hf).imp fun D σ H zpat=>by
 obtain⟨hid,H0,ρ,ow,o,E,hf,k⟩:=zpat
 refine⟨hid,H0,ρ,ow,o,E,?_,k⟩
 obtain⟨d,g1,rfl⟩:=map_some hf
 show bj i ρ ((f ρ).map .list)=_
 rw[g1]
 rfl
inductive vv (K:ao)(O:Ow)(hid:af->Prop)(H0 G1:Hp)(S:ae->ag->Option ag)(F:ag->Option aA)(ds:List ae)(out:aA)(i m:Nat)(τ:St)(H2:Hp):Prop
 | mk (ρ2:ag) (ow2:List af) (left:List ae) (hM:hR ds i m left) (E2:aK K O hid H0 τ H2 ρ2 ow2) (s2:ay G1 (av H2 (uni hid ow2))) (hr:fD S F left ρ2=some out):vv K O hid H0 G1 S F ds out i m τ H2
theorem EL {tg iter:Expr}{body:List aG}{fi:ag->Option (List ae)}{S:ae->ag->Option ag}(hc:X.calm=true)(hi:kO X O tg iter fi)(hg:jJ X O tg S)(hb:fL X O body F)(hp:pF (aF X.prog X.w) X.A X.env X.xe)
  (hs:∀ x,k7 iter X.env x=aN x:=by intro _;rfl):cR X O (.For tg iter body [] pos) (fun ρ=>sU S F (fi ρ) ρ):=(yo hp hc hi hg hb hs).imp fun D σ H zpat=>by
 obtain⟨hid,H0,ρ,ow,out,E,hf,k⟩:=zpat
 obtain⟨ds,g1,g2⟩:=bind_some hf
 refine⟨hid,H0,ρ,ow,ds,E,g1,fun J H1 s1 Gd=>?_⟩
 have k1:=k.weak (aZ s1 (uni hid ow))
 clear k hf g1
 refine⟨vv X.K O hid H0 (av H1 (uni hid ow)) S F ds out,⟨ds.length,.mk ρ ow ds (.start ds) (E.mono s1) (ay.refl _) g2⟩,fun i m τ H2 zp=>?_⟩
 obtain⟨ρ2,ow2,left,hM,E2,s2,hr⟩:=zp
 have keep:ay (av H1 (uni hid ow)) H2:=s2.trans (bH _ _)
 cases left with
 | nil=>
  obtain rfl:=hM.fin
  rw[fD] at hr
  obtain rfl:=aE hr
  exact .inl ⟨Gd.stop H2 keep,k1 τ H2 ow2 s2 E2⟩
 | cons d r=>
  obtain⟨hlt,hdi,m',hm',hM'⟩:=hM.cut
  rw[fD] at hr
  obtain⟨ρ3,g3,hr⟩:=bind_some hr
  obtain⟨o3,g4,hr⟩:=bind_some hr
  refine .inr ⟨Gd.go H2 i keep hlt,vv X.K O hid H0 (av H1 (uni hid ow)) S F ds out (i+1) m',fun τ' H' z=>⟨m',hm',z⟩,fun x H3 y=>?_⟩
  obtain⟨s23,Dx⟩:=Gd.step s2 (fun p hp=>E2.fresh hp) hdi y
  refine⟨hid,H0,ρ2,ow2,d,ρ3,E2.mono s23,Dx,g3,fun τ3 E3=>⟨hid,H0,ρ3,ow2,o3,E3,g4,?_⟩⟩
  have s13:ay (av H1 (uni hid ow)) (av H3 (uni hid ow2)):=s2.trans (aZ s23 _)
  cases o3 with
  | nx ρ4=>exact fun σ' H' ow' s' E'=>.mk ρ4 ow' r hM' E' (s13.trans s') hr
  | ct ρ4=>exact fun σ' H' ow' s' E'=>.mk ρ4 ow' r hM' E' (s13.trans s') hr
  | bk ρ4=>
   obtain rfl:=aE hr
   exact fun σ' H' ow' s' E'=>k1 σ' H' ow' (s13.trans s') E'
  | rt d=>
   obtain rfl:=aE hr
   exact k1
theorem Ph {c:Expr}{body:List aG}{ft:ag->Option Bool}(μ:ag->Nat)(hc:fT X O c ft)(hb:fL X O body F)(hp:pF (aF X.prog X.w) X.A X.env X.xe):cR X O (.While c body [] pos) (fun ρ=>mU ft F (μ ρ) ρ):=(Oq hp hc hb).imp fun D σ H zpat=>by
 obtain⟨hid,H0,ρ,ow,out,E,hf,k⟩:=zpat
 refine⟨fun m τ H2=>∃ ρ2 ow2,aK X.K O hid H0 τ H2 ρ2 ow2∧ay (av H (uni hid ow)) (av H2 (uni hid ow2))∧mU ft F m ρ2=some out,⟨_,ρ,ow,E,ay.refl _,hf⟩,?_⟩
 rintro m τ H2 ⟨ρ2,ow2,E2,s2,hr⟩
 cases m with
 | zero=>exact L2.bp hr
 | succ m=>
  rw[mU] at hr
  obtain⟨b,g1,hr⟩:=bind_some hr
  refine⟨hid,H0,ρ2,ow2,b,E2,g1,fun H3 s3=>?_⟩
  have s13:ay (av H (uni hid ow)) (av H3 (uni hid ow2)):=s2.trans (aZ s3 _)
  cases b with
  | false=>
   dsimp only
   rw[if_neg dH] at hr ⊢
   obtain rfl:=aE hr
   exact k τ H3 ow2 s13 (E2.mono s3)
  | true=>
   dsimp only
   rw[if_pos rfl] at hr ⊢
   obtain⟨o3,g4,hr⟩:=bind_some hr
   refine⟨fun τ' H'=>∃ ρ2 ow2,aK X.K O hid H0 τ' H' ρ2 ow2∧ay (av H (uni hid ow)) (av H' (uni hid ow2))∧mU ft F m ρ2=some out,fun τ' H' z=>⟨m,vY m,z⟩,hid,H0,ρ2,ow2,o3,E2.mono s3,g4,?_⟩
   cases o3 with
   | nx ρ4=>exact fun σ' H' ow' s' E'=>⟨ρ4,ow',E',s13.trans s',hr⟩
   | ct ρ4=>exact fun σ' H' ow' s' E'=>⟨ρ4,ow',E',s13.trans s',hr⟩
   | bk ρ4=>
    obtain rfl:=aE hr
    exact fun σ' H' ow' s' E'=>k σ' H' ow' (s13.trans s') E'
   | rt d=>
    obtain rfl:=aE hr
    exact k
def QU (K:ao)(O:Ow)(i:Nat)(T:Ty)(fp:ag->Option (List Int)):TE:=fun σ H Q=>∃ hid H0 ρ ow d path ds,aK K O hid H0 σ H ρ ow∧ρ[i]?=some (some d)∧fp ρ=some path∧kg T d path=true∧nY d path=some ds ∧
 ∀ H1 l vs,ay H H1->H1 l=some (.lst vs)->aD K (av H1 (uni hid ow)) vs ds->l∈ow ->
  (∀ H2,ay H1 H2->∀ ws es,aD K (av H2 (uni hid ow)) ws es->aK K O hid H0 σ (upd H2 l (.lst ws)) (ρ.set i (some (j9 d path es))) ow)->Q (.ref l) H1
abbrev v5 (X:Cx)(O:Ow)(i:Nat)(T:Ty)(e:Expr)(fp:ag->Option (List Int)):Prop:=PE X e (QU X.K O i T fp)
theorem wM {i:Nat}(h:PE X e (dG i))(hi:O.s.lookup i=some (.lst .cl):=by rfl):v5 X O i (.lst .cl) e (fun _=>some []):=h.imp fun σ H Q zpat=>by
 obtain⟨hid,H0,ρ,ow,d,path,ds,E,hρ,hp,ht,hg,k⟩:=zpat
 obtain rfl:=aE hp
 obtain rfl:=Kq hg
 obtain⟨l,vs,h1,h3,h4,h5,h6⟩:=E.at0 hi hρ
 exact⟨.ref l,h1,k H l vs (ay.refl H) h3 h4 h5 h6⟩
def BO (i:Nat)(T:Ty)(ρ:ag)(path:Option (List Int))(d:ae):Option aA:=path.bind fun p=>((ρ[i]?).join).bind fun t=>if kg T t p=true then (nY t p).bind fun ds=>if decide (ds.length<1000)=true then some (.nx (ρ.set i (some (j9 t p (ds++[d]))))) else none else none
theorem O8 {i:Nat}{T:Ty}{x:Expr}{fp:ag->Option (List Int)}{apos cpos:Pos}(hx:v5 X O i T x fp)(he:PV X O e f)
  (hbase:dR x "append" X.env (aB x X.env)=aB x X.env:=by rfl)
  (hfew:((a0 cpos (ax [e] X.env)).all (fun x=>!x.1)&&(dS cpos (dY [] X.env)).all (fun x=>x.1.isSome)&&decide ([e].length+([]:List df).length+(if ([]:List df).isEmpty then 0 else 1)<30))=true:=by rfl)
  (hline:(apos.endLine==cpos.line)=true:=by rfl) (hst:ax [e] X.env=(false,aB e X.env)::ax [] X.env:=by rfl) (hplain:(a0 cpos (ax [] X.env)).any (·.1)=false:=by rfl)
  (hs:dF (.Call (.Attribute x "append" apos) [e] [] cpos) none pos.line X.env=aN false:=by rfl) :
  cR X O (.Expr (.Call (.Attribute x "append" apos) [e] [] cpos) pos) (fun ρ=>(f ρ).bind (BO i T ρ (fp ρ))):=
 (qv (j3 nI PySem.F.slot_list_append PySem.F.type_list_append DC hx (pa_cons he pa_nil hst) hbase hfew hline hst hplain) hs).imp fun D σ H zpat=>by
  obtain⟨hid,H0,ρ,ow,o,E,hf,k⟩:=zpat
  obtain⟨d,g1,g2⟩:=bind_some hf
  obtain⟨path,g3,g4⟩:=bind_some g2
  obtain⟨t,g5,g6⟩:=bind_some g4
  split at g6
  case isFalse=>cases g6
  rename_i hty
  obtain⟨ds,g7,g8⟩:=bind_some g6
  split at g8
  case isFalse=>cases g8
  rename_i hlt
  obtain rfl:=aE g8
  refine ⟨hid,H0,ρ,ow,t,path,ds,E,join_some g5,g3,hty,g7,(fun H1 l vs s1 hH hD hl hE=>⟨.inl ⟨rfl,vs,bD.of hH⟩,hid,H0,ρ,ow,d,E.mono s1,g1,fun v H2 s2 Dv=>?_⟩)⟩
  have hz:1000<sizeLine:=by decide
  have hlt':=of_decide_eq_true hlt
  refine ⟨l,vs,v,rfl,rfl,s2 _ _ hH,(by rw[hD.length];omega),k _ _ ow ?_ (hE H2 s2 _ _ ((hD.mono (aZ s2 _)).append (.cons Dv .nil)))⟩
  rw[gp (lB hl)]
  exact (aZ s1 _).trans (aZ s2 _)
def kU (i:Nat)(ρ:ag)(d:ae):Option aA:=((ρ[i]?).join.bind cH).bind fun ds=>if decide (ds.length<1000)=true then some (.nx (ρ.set i (some (.list (ds++[d]))))) else none
theorem yz {i:Nat}{x:Str}{p apos cpos:Pos}(hx:PE X (.Name x p) (dG i))(he:PV X O e f)(hO:O.s.lookup i=some (.lst .cl):=by rfl)
  (hbase:dR (.Name x p) "append" X.env (aB (.Name x p) X.env)=aB (.Name x p) X.env:=by rfl)
  (hfew:((a0 cpos (ax [e] X.env)).all (fun x=>!x.1)&&(dS cpos (dY [] X.env)).all (fun x=>x.1.isSome)&&decide ([e].length+([]:List df).length+(if ([]:List df).isEmpty then 0 else 1)<30))=true:=by rfl)
  (hline:(apos.endLine==cpos.line)=true:=by rfl) (hst:ax [e] X.env=(false,aB e X.env)::ax [] X.env:=by rfl) (hplain:(a0 cpos (ax [] X.env)).any (·.1)=false:=by rfl)
  (hs:dF (.Call (.Attribute (.Name x p) "append" apos) [e] [] cpos) none pos.line X.env=aN false:=by rfl) :
  cR X O (.Expr (.Call (.Attribute (.Name x p) "append" apos) [e] [] cpos) pos) (fun ρ=>(f ρ).bind (kU i ρ)):=
 (O8 (wM hx hO) he hbase hfew hline hst hplain hs).imp fun D σ H zpat=>by
  obtain⟨hid,H0,ρ,ow,o,E,hf,k⟩:=zpat
  refine⟨hid,H0,ρ,ow,o,E,?_,k⟩
  obtain⟨d,g1,g2⟩:=bind_some hf
  obtain⟨ds,g3,g4⟩:=bind_some g2
  obtain⟨dl,g5,g6⟩:=bind_some g3
  rw[fQ g6] at g5
  try dsimp only
  rw[g1,bW]
  unfold BO
  rw[bW,g5,bW]
  exact g4
end
theorem tF:∀ {l:List (Nat×Ty)} {i:Nat} {t:Ty},l.lookup i=some t->i∈l.map (·.1)
 | [],_,_,h=>by cases h
 | (j,u)::r,i,t,h=>by
  rw[fJ] at h
  by_cases hj:(i==j)=true
  ·rw[beq_iff_eq] at hj;subst hj;exact bQ
  ·rw[vg] at hj
   rw[hj] at h
   exact bP _ (tF h)
def mY (K:ao)(f:af)(cdv:ah):Prop:=∃ oc od fd osl,K.lookup f=some ⟨oc,od,.func fd,osl⟩∧fd.code=cdv
theorem xx {P:aQ}{w:aM}{K:ao}{mg:Str->Option ah}{base:az}{x qual:Str}{st:aG}{f:af}{fd:aY}{N ps:List Str}{k:Nat}{sp:Sp}(F:bh K x qual st f fd)(S:bF N ps (aS st))(len:∀ vs H Q E,sp vs H Q E->vs.length=ps.length)
  (body:∀ cdv,mY K f cdv->∀ A outer s H vs Q E,bC k (A.deeper (dW qual (aS st) s.heap.objs.size f cdv))->sp vs H Q E->∃ t,dw (dN bx P w K mg base N qual (aS st) f cdv A outer s H E).nox (eA st) t∧t {nx:=fun _ H'=>Q .non H',rt:=Q} (start N vs) H):aW P w K mg base bx (k+1) f fd ps sp:=by
 obtain⟨a1,a2,a3,a4,a5,a6,cdv,a7,a8,e,lk,hc⟩:=F.ex
 subst e
 exact xu lk hc S len fun A outer s H vs Q E hr hs=>by
  obtain⟨t,h1,h2⟩:=body cdv ⟨_,_,_,_,lk,rfl⟩ A outer s H vs Q E hr hs
  exact⟨t,h1.nox,h2⟩
theorem Fm {K:ao}{H:Hp}{hid:af->Prop}{N:List Str}{vs:List V}{ds:List ae}(D:aD K (av H hid) vs ds){i:Nat}{d:ae}(e:(ds.map some++cO (N.length - ds.length) none)[i]?=some (some d)):i<ds.length∧∃ v,(start N vs)[i]?=some (some v)∧aJ K (av H hid) v d:=by
 by_cases hi:i<ds.length
 ·rw[jE (by rw[cm];exact hi),e7] at e
  obtain⟨d',q,e⟩:=Option.map_eq_some_iff.mp e
  obtain rfl:=aE e
  obtain⟨v,h1,h2⟩:=D.get q
  refine⟨hi,v,?_,h2⟩
  unfold start
  rw[jE (by rw[cm,D.length];exact hi),e7,h1]
  rfl
 ·rw[lY (by rw[cm];exact pz hi),nt] at e
  split at e <;> cases e
theorem Fl {K:ao}{O:Ow}{H:Hp}{hid:af->Prop}{N:List Str}{vs:List V}{ds:List ae}{n:Nat}(D:aD K (av H hid) vs ds)(hn:ds.length=n)(hO:∀ i∈O.s.map (·.1),n≤i)(hh:∀ b,hid b->∃ vs:cM,H b=some vs.ho):aK K O hid H (start N vs) H (ds.map some++cO (N.length - ds.length) none) []:=by
 refine⟨by unfold start;rw[eN,eN,cm,cm,pj,pj,D.length],fun b o e=>by rw[bE dC];exact e,fun i d hi e=>?_,⟨fun _=>[],fun i t d hi e=>?_,fun i j p _ z=>absurd z dC,fun i p z=>absurd z dC⟩,fun l z=>absurd z dC,hh,fun _=>rfl⟩
 ·obtain⟨_,v,h1,h2⟩:=Fm D e
  exact⟨v,h1,by rw[lC];exact h2⟩
 ·exact absurd (hn▸(Fm D e).1) (Nat.not_lt.mpr (hO i (tF hi)))
theorem J6 {P:aQ}{w:aM}{K:ao}{mg:Str->Option ah}{base:az}{x qual:Str}{st:aG}{f:af}{fd:aY}{N ps:List Str}{k:Nat}{Fs:List ae->Option ae}(O:Ow)(F:bh K x qual st f fd)(S:bF N ps (aS st))
  (hl:∀ ds r,Fs ds=some r->ds.length=ps.length)
  (hO:∀ i∈O.s.map (·.1),ps.length≤i) (B:ag->Option aA)
  (hbody:∀ (cdv:ah),mY K f cdv->∀ (A:bw) (outer:List Env) (s:ar) (H:Hp) (E:XK),bC k (A.deeper (dW qual (aS st) s.heap.objs.size f cdv)) ->
   fL (dN bx P w K mg base N qual (aS st) f cdv A outer s H E).nox O (eA st) B)
  (hs:∀ ds r,Fs ds=some r->B (ds.map some++cO (N.length - ds.length) none)=some (.rt r)∨(r=.none∧∃ ρ,B (ds.map some++cO (N.length - ds.length) none)=some (.nx ρ))) :
  aW P w K mg base bx (k+1) f fd ps (cx K O.r Fs):=by
 refine xx F S (fun vs H Q E h=>?_) (fun cdv hk A outer s H vs Q E hr h=>?_)
 ·obtain⟨hid,ds,r,_,D,hf,_⟩:=id h
  rw[D.length]
  exact hl ds r hf
 ·obtain⟨hid,ds,r,hh,D,hf,q⟩:=id h
  refine⟨_,hbody cdv hk A outer s H E hr,?_⟩
  have hdl:=D.length
  have hpl:=hl ds r hf
  have E0:aK K O hid H (start N vs) H (ds.map some++cO (N.length - ds.length) none) []:=Fl D hpl hO hh
  rcases hs ds r hf with h | ⟨rfl,ρ,h⟩
  ·exact⟨hid,H,_,[],_,E0,h,fun v as H' s' n Dv=>q v as H' s' n Dv⟩
  ·exact⟨hid,H,_,[],_,E0,h,fun σ' H' ow' s' E'=>q .non [] H' E'.baseS (fun p hp=>by cases hp) .non⟩
end L2
namespace L2
variable [Reg]
def uN:ae->String
 | .none=>"NoneType"
 | .bool _=>"bool"
 | .int _=>"int"
 | .str _=>"str"
 | .list _=>"list"
 | .tuple _=>"tuple"
 | .dict _=>"dict"
def qO (t T:String):Bool:=t==T||(t=="bool"&&T=="int")
theorem n8 (K:ao):∀ t∈["NoneType","bool","int","str","list","tuple"],∀ T∈["bool","int","str","list","tuple"],i7 K (.type t) (.type T)=some (qO t T):=by
 intro t ht T hT
 simp only[nv,dC,or_false] at ht hT
 rcases ht with rfl | rfl | rfl | rfl | rfl | rfl <;> rcases hT with rfl | rfl | rfl | rfl | rfl <;> rfl
def n4 (T:String):ae->Option ae
 | .dict _=>none
 | d=>some (.bool (qO (uN d) T))
theorem K5 {T:String}{d r:ae}(h:n4 T d=some r):r=.bool (qO (uN d) T):=by
 cases d <;> first | (cases h;rfl) | cases h
def OG (K:ao)(T:String):List V->Hp->VK->Prop:=fun xs H Q=>∃ x d,xs=[x,.ty T]∧aJ K H x d∧n4 T d≠none∧Q (.bl (qO (uN d) T)) H
theorem IQ {X:Cx}{T:String}(hT:T∈["bool","int","str","list","tuple"]):eY X (.builtin "isinstance") (OG X.K T):=by
 intro pins s σ H xs us Q I r h
 revert h
 refine fun zqq=>?_;obtain⟨x,d,zq2,D,hnd,q⟩:=zqq
 subst zq2
 obtain⟨u,c,zq2,rx,rc⟩:=r.two
 subst zq2
 cases (show c=Value.type T from rc)
 have fin:∀ tk,EP X pins σ Q (.bool (qO (uN d) T)) {s with toks:=tk}:=fun tk=>⟨.bl _,H,I.tok tk,rfl,q⟩
 cases D with
 | non=>cases (show u=Value.none from rx);exact l_ HH I.kIn True.intro (n8 X.K "NoneType" (by simp) T hT) (fun z=>nomatch z) fin
 | bl b=>cases (show u=Value.bool b from rx);exact l_ PySem.W.kitx_bool I.kIn True.intro (n8 X.K "bool" (by simp) T hT) (fun z=>nomatch z) fin
 | int i=>obtain⟨t,q⟩:=(show ∃ t,u=Value.int i t from rx);cases q;exact l_ PySem.W.kitx_int I.kIn True.intro (n8 X.K "int" (by simp) T hT) (fun z=>nomatch z) fin
 | str y=>obtain⟨t,q⟩:=(show ∃ t,u=Value.str y t from rx);cases q;exact l_ PySem.W.kitx_str I.kIn True.intro (n8 X.K "str" (by simp) T hT) (fun z=>nomatch z) fin
 | @lst a vs ds hq hr=>
  cases (show u=Value.ref a from rx)
  obtain⟨its,_,⟨o,n,e,c,_⟩,_⟩:=I.list hq
  exact l_ PySem.W.kitx_list I.kIn ⟨o,e,c⟩ (n8 X.K "list" (by simp) T hT) (fun z=>nomatch z) fin
 | fn _ _=>exact absurd rfl hnd
 | exc _ _=>exact absurd rfl hnd
 | obj _ _=>exact absurd rfl hnd
 | dct _ _=>exact absurd rfl hnd
 | @tup a vs ds hq hr=>
  cases (show u=Value.ref a from rx)
  obtain⟨its,_,⟨o,e,c,_⟩,_⟩:=I.tuple hq
  exact l_ PySem.W.kitx_tuple I.kIn ⟨o,e,c⟩ (n8 X.K "tuple" (by simp) T hT) (fun z=>nomatch z) fin
theorem zS {X:Cx}{O:Ow}{e:Expr}{f:ag->Option ae}{p p2 pos:Pos}{T:Str}(Ts:String)(he:PR X O e f)(hT:Ts∈["bool","int","str","list","tuple"])(hg:Gl X "isinstance")(hm:X.mg "isinstance"=none)(hgT:Gl X T)(hmT:X.mg T=none)(hvT:dJ T=some (.type Ts))
  (hn:T≠"__name__":=by decide) (hd:(T==("__debug__":Str))=false:=by decide) (h1:ax [e,.Name T p2] X.env=(false,aB e X.env)::ax [.Name T p2] X.env:=by rfl) (h2:ax [.Name T p2] X.env=(false,aB (.Name T p2) X.env)::ax [] X.env:=by rfl)
  (hpl:(a0 pos (ax [.Name T p2] X.env)).any (·.1)=false:=by rfl):PV X O (.Call (.Name "isinstance" p) [e,.Name T p2] [] pos) (fun ρ=>(f ρ).bind (n4 Ts)):=
 (lq (IQ hT) hg hm Bh (pa_cons he (pa_cons (D8 (v:=.ty Ts) hgT hmT hvT rfl hn hd) pa_nil h2) h1) (by decide) (by decide) h1 hpl).imp fun σ H Q zpat=>by
  obtain⟨hid,H0,ρ,ow,r,E,hf,k⟩:=zpat
  obtain⟨d,g1,g2⟩:=bind_some hf
  refine⟨hid,H0,ρ,ow,d,E,g1,fun v H' s D=>⟨v,d,rfl,D.mono (bH _ _),(fun z=>by rw[z] at g2;cases g2),?_⟩⟩
  have:=K5 g2
  subst this
  exact k _ H' s (.bl _)
def lW (K:ao)(a:af):It:=
 ⟨fun i H=>∃ xs x,bD K H a xs∧xs[i]?=some x,fun i H x H'=>∃ p v,H p=none∧H'=upd H p (.tup [.int i,v])∧x=.ref p∧∀ xs,bD K H a xs->xs[i]?=some v,fun i H=>∃ xs,bD K H a xs∧xs.length≤i⟩
theorem RR {P:aQ}{w:aM}{K:ao}{es:List Expr}{x1}{tpos:Pos}(a e it:af)(hne:e≠it):mf P w K (.Tuple es x1 tpos) (lW K a) [e,it] e (fun i h=>(∃ old,IsEnum h e it ((i:Nat):Int) old)∧h.IsListIter it a i) where
 mem:=by simp
 obj:=fun i h st b hb=>by
  obtain⟨⟨old,h1⟩,o,e2,c,d⟩:=st
  rcases List.mem_cons.mp hb with rfl | hb
  ·exact⟨_,h1,fun v z=>by cases (show Data.fields _=Data.cell v from z)⟩
  ·have:b=it:=by simpa using hb
   subst this
   exact⟨o,e2,fun v z=>by rw[d] at z;cases z⟩
 keep:=fun i h h' st k=>by
  obtain⟨⟨old,h1⟩,h2⟩:=st
  exact⟨⟨old,k e (by simp) _ h1⟩,h2.at fun o q=>k it (by simp) o q⟩
 item:=by
  intro X hP hw hK hc i pins s σ H E I hf st hg
  subst hP hw hK
  obtain⟨xs,x,hq,hx⟩:=id hg
  obtain⟨its,rv,p,hz⟩:=I.list hq
  obtain⟨u,hu,ru⟩:=rv.get hx
  obtain⟨⟨old,h1⟩,h2⟩:=st
  obtain⟨f0,f1,f2,f3,f4,f5⟩:=hf e (by simp)
  obtain⟨g0,g1,g2,g3,g4,g5⟩:=hf it (by simp)
  have he:e<s.heap.objs.size:=bA h1
  have hi:it<s.heap.objs.size:=by obtain⟨o,q,_⟩:=id h2;exact bA q
  refine wpAny_pyNext_enum_item h1 h2 p.isList (x:=u) (by simpa using hu) hne fun h' ho hit' hT hsz hk=>?_
  refine⟨_,rfl,wpAny_letOwnedTupleGo_enum (s:={s with heap:=h',toks:=s.toks+1}) ho fun h3 he3 hs3=>?_⟩
  have hs3':lU e h' h3:=hs3
  have hT3:h3.get? s.heap.objs.size=some {cls:=.type "tuple",data:=.seq #[.int i s.toks,u]}:=(hs3'.2 _ (pA he)).trans hT
  have hk3:∀ b o,b∉[e,it]->s.heap.get? b=some o->h3.get? b=some o:=fun b o hb q=>(hs3'.2 b (fun z=>hb (by simp[z]))).trans (hk b o (fun z=>hb (by simp[z])) (fun z=>hb (by simp[z])) q)
  have hfr:H s.heap.objs.size=none:=I.hok.fresh (cj _)
  have nin:∀ b o,H b=some o->b∉[e,it]:=fun b o q hb=>by
   rcases List.mem_cons.mp hb with z | hb
   ·rw[z,f0] at q;cases q
   ·have z:b=it:=by simpa using hb
    rw[z,g0] at q;cases q
  have I3:Inv X pins σ (upd H s.heap.objs.size (.tup [.int i,x])) {s with heap:=h3,toks:=s.toks+1}:=by
   refine I.step (g':=s.gens) (d':=s.drawn) (ch:=[e,it]) (fun b hb=>?_) (fun b o _ _ hb q _=>hk3 b o hb q) (fun b o _ _ hb q _=>⟨o.slots,hk3 b o hb q⟩) (fun b o hb q n=>?_) (fun b o hb q=>⟨o,hk3 b o hb q⟩)
    (fun b ys q=>by rw[ba (dh q hfr)];exact q) (fun b o ys q=>by rw[ba (dh q hfr)];exact q) (fun b ps q=>⟨#[],by rw[ba (dh q hfr),q];simp⟩) (fun b q=>by rw[ba (dh q hfr)];exact q) (fun m hm=>?_) (fun b o q=>?_) I.bare
   ·rcases List.mem_cons.mp hb with rfl | hb
    ·exact⟨f3,f1,f4,f5⟩
    ·have z:b=it:=by simpa using hb
     subst z
     exact⟨g3,g1,g4,g5⟩
   ·rw[ba (cJ (bA q))]
    exact n
   ·obtain⟨o,es',ep,ho',r⟩:=id hm
    exact ⟨o,es',ep,(hk3 _ o (by simp[cn f1,cn g1]) ho'),r⟩
   ·by_cases hb:b=s.heap.objs.size
    ·subst hb
     rw[cD] at q
     obtain rfl:=aE q
     exact⟨(by show 2≤sizeLine;decide),[.int i s.toks,u],.cons ⟨_,rfl⟩ (.cons ru .nil),⟨_,hT3,rfl,_,rfl⟩⟩
    ·rw[ba hb] at q
     refine (I.hok b o q).stay (fun c v hc q'=>hk3 c v ?_ q') (fun c q'=>by rw[ba (dh q' hfr)];exact q') (fun c ys q'=>by rw[ba (dh q' hfr)];exact q') fun c ob ys _ _ q'=>by rw[ba (dh q' hfr)];exact q'
     rcases hc with hc | hc
     ·rw[hc];exact nin b o q
     ·exact nin c _ hc
  refine ⟨.ref s.heap.objs.size,_,I3,rfl,(⟨_,x,hfr,rfl,rfl,fun ys hy=>by rw[I.list_inj hy hq];exact hx⟩),(⟨⟨u,?_⟩,hit'.at fun o q=>(hs3'.2 it (cn hne)).trans q⟩),(fun b hb=>?_)⟩
  ·have:((i+1:Nat):Int)=(i:Int)+1:=by push_cast;rfl
   rw[this]
   exact he3
  ·rcases List.mem_cons.mp hb with rfl | hb
   ·rw[ba (cJ he)];exact f0
   ·have z:b=it:=by simpa using hb
    subst z
    rw[ba (cJ hi)];exact g0
 done:=by
  intro X hP hw hK hc i pins s σ H E I hf st hg
  subst hP hw hK
  obtain⟨xs,hq,hx⟩:=id hg
  obtain⟨its,rv,p,hz⟩:=I.list hq
  obtain⟨⟨old,h1⟩,h2⟩:=st
  obtain⟨g0,g1,g2,g3,g4,g5⟩:=hf it (by simp)
  have hl:=rv.length
  exact wpAny_pyNext_enum_end (I.ok.hd hc) h1 h2 p.isList (by simp;omega) fun h' eb=>⟨rfl,I.turned (t':=s.toks) (fun b o hb q=>eb b o hb q) g0 g1 g3 g4 g5⟩
 self:=fun _ _ _ _ _ st h=>Ss st.1.choose_spec h
def KG (K:ao)(tl:TE):TI:=fun σ H R=>tl σ H fun x H1=>∃ a,x=.ref a∧(∃ xs,bD K H1 a xs)∧R (lW K a) H1
theorem N7 {X:Cx}{es:List Expr}{x1}{tpos p pos:Pos}{l:Expr}{tl:TE}(hg:Gl X "enumerate")(hm:X.mg "enumerate"=none)(hl:PE X l tl)(hs:ax [l] X.env=[(false,aB l X.env)]:=by rfl) :
  PI X (.Tuple es x1 tpos) (.Call (.Name "enumerate" p) [l] [] pos) (KG X.K tl):=by
 intro pins s σ H R I h
 have ha:=pa_cons (X:=X) hl pa_nil hs
 refine Call_ (lh I hg hm PyProof.Rows.boot_enumerate (pH (aP (ha pos pins s σ H (fun vs H1=>∃ a,vs=[.ref a]∧(∃ xs,bD X.K H1 a xs)∧R (lW X.K a) H1) I ?_) fun us s1 ⟨vs,H1,I1,r1,q1⟩=>?_) hs rfl))
 ·have mono:∀ (Q Q':VK),True:=fun _ _=>True.intro
  show tl σ H fun x H1=>∃ a,[x]=[.ref a]∧(∃ xs,bD X.K H1 a xs)∧R (lW X.K a) H1
  have e:(fun (x:V) (H1:Hp)=>∃ a,[x]=[V.ref a]∧(∃ xs,bD X.K H1 a xs)∧R (lW X.K a) H1)=fun x H1=>∃ a,x=.ref a∧(∃ xs,bD X.K H1 a xs)∧R (lW X.K a) H1:=by
   funext x H1
   simp
  rw[e]
  exact h
 ·obtain⟨a,rfl,⟨xs,hq⟩,q⟩:=q1
  obtain⟨u,zq1,ru⟩:=r1.one
  subst zq1
  cases ru
  obtain⟨its,rv,pl,hz⟩:=I1.list hq
  refine call_enumerate_list pl.isList fun h' he hit hsz hk=>?_
  refine Ss he ?_
  have I2:Inv X pins σ H1 {s1 with heap:=h' }:=I1.kept (t':=s1.toks) hk
  refine ⟨s1.heap.objs.size+1,([s1.heap.objs.size+1,s1.heap.objs.size]),_,_,H1,rfl,I2,RR a _ _ (Nat.succ_ne_self _),(⟨⟨_,he⟩,hit⟩),(fun b hb=>?_),q⟩
  have hb':s1.heap.objs.size≤b:=by
   rcases List.mem_cons.mp hb with rfl | hb
   ·exact nz _
   ·have:b=s1.heap.objs.size:=by simpa using hb
    rw[this]
    exact cj _
  exact I1.fpOk hb' (I1.hok.fresh hb')
def jh (ds:List ae):List ae:=(iF ds.length).zipWith (fun i d=>.tuple [.int (i:Nat),d]) ds
theorem JN {ds:List ae}{i:Nat}{d:ae}(h:(jh ds)[i]?=some d):∃ e,ds[i]?=some e∧d=.tuple [.int (i:Nat),e]:=by
 unfold jh at h
 rw[List.getElem?_zipWith] at h
 cases q:ds[i]? with
 | none=>rw[q] at h;cases z:(iF ds.length)[i]? <;> rw[z] at h <;> cases h
 | some e=>
  have hl:=(List.getElem?_eq_some_iff.mp q).1
  rw[q,List.getElem?_range hl] at h
  exact⟨e,rfl,(aE h).symm⟩
theorem Cy (ds:List ae):(jh ds).length=ds.length:=by simp[jh]
theorem Kv {K:ao}{G:Hp}{a:af}{xs:List V}{ds:List ae}(q:bD K G a xs)(r:aD K G xs ds):gI K (lW K a) G (jh ds) where
 go:=fun H2 i s h=>by
  rw[Cy] at h
  have hl:i<xs.length:=by rw[r.length];exact h
  exact ⟨xs,xs[i],s.seq q,(by simp[hl])⟩
 yld:=fun H2 i x H3 d s h y=>by
  obtain⟨e,h1,zq2⟩:=JN h
  subst zq2
  revert y
  refine fun zqq=>?_;obtain⟨p,v,hp,zq3,zq4,y⟩:=zqq
  subst zq3
  subst zq4
  obtain⟨v',h2,h3⟩:=r.get h1
  have:=y xs (s.seq q)
  rw[h2] at this
  obtain rfl:=aE this
  exact .inr ⟨p,_,_,hp,rfl,rfl,rfl,.cons (.int _) (.cons h3 .nil)⟩
 stop:=fun H2 s=>⟨xs,s.seq q,by rw[r.length,Cy];exact cj _⟩
theorem Lc {X:Cx}{O:Ow}{es:List Expr}{x1}{tpos p pos:Pos}{e:Expr}{f:ag->Option ae}(hg:Gl X "enumerate")(hm:X.mg "enumerate"=none)(h:PV X O e f)(hs:ax [e] X.env=[(false,aB e X.env)]:=by rfl) :
  kO X O (.Tuple es x1 tpos) (.Call (.Name "enumerate" p) [e] [] pos) (fun ρ=>((f ρ).bind cH).map jh):=(N7 hg hm h hs).imp fun σ H R zpat=>by
 obtain⟨hid,H0,ρ,ow,ds,E,hf,k⟩:=zpat
 obtain⟨ds',g1,rfl⟩:=map_some hf
 obtain⟨d,h1,h2⟩:=bind_some g1
 rw[fQ h2] at h1
 refine⟨hid,H0,ρ,ow,_,E,h1,fun v H' s D=>?_⟩
 obtain⟨a,xs,rfl,q,r⟩:=dU D
 exact⟨a,rfl,⟨xs,(bH _ _).seq q⟩,k _ H' s (Kv q r)⟩
end L2
namespace L2
variable [Reg]
section
variable {X:Cx}{O:Ow}{i:Nat}{x:Str}{pos' spos:Pos}{elt tg iter:Expr}{ifs:List Expr}{scope:Scope}{pos:Pos}{fi:ag->Option (List ae)}{S:ae->ag->Option ag}{ft:ag->Option Bool}{fe:ag->Option ae}{k:Nat}{N:List Str}{ix:List Nat}
theorem O9 {st:aG}{T:Ty}{f:ag->Option ae}(h:PS X st (uD (zJ X.K O T f) (sV i)))(hO:O.s.lookup i=some T∨(O.s.lookup i=none∧T=.cl)):cR X O st (fun ρ=>bj i ρ (f ρ)):=h.imp fun D σ H zpat=>by
 obtain⟨hid,H0,ρ,ow,o,E,hf,k⟩:=zpat
 obtain⟨d,g1,rfl⟩:=map_some hf
 rcases hO with hO | ⟨hO,rfl⟩
 ·refine⟨hid,H0,ρ,ow,d,E,g1,fun v as H' s n Dv=>k _ H' (as++ow) ?_ (E.setT s hO n Dv)⟩
  intro b u z
  by_cases hb:uni hid ow b
  ·rw[dy hb] at z;cases z
  ·rw[bE hb] at z
   rw[bE fun y=>?_]
   ·exact s b u z
   ·rcases y with y | y
    ·exact hb (.inl y)
    ·rcases List.mem_append.mp y with y | y
     ·rw[n b y] at z;cases z
     ·exact hb (.inr y)
 ·refine⟨hid,H0,ρ,ow,d,E,g1,fun v as H' s n Dv=>k _ H' ow (aZ s _) ((E.mono s).set hO (Dv.den.mono (cN (jy fun p hp=>bB _ hp))))⟩
theorem Q6 {K:ao}{f:ag->Option (List ae)}(h0:O.s=[]):∀ σ H Q,zJ K O .cl (fun ρ=>(f ρ).map .list) σ H Q->zI K O f σ H Q:=fun σ H Q zpat=>by
 obtain⟨hid,H0,ρ,ow,d,E,hf,k⟩:=zpat
 obtain⟨ds,h1,rfl⟩:=map_some hf
 refine⟨hid,H0,ρ,ow,ds,E,h1,fun l vs H' s n q D=>k (.ref l) [] H' s (fun p hp=>by cases hp) (.cl ?_)⟩
 rw[E.emp h0,e6,lC]
 exact .lst (bD.of (by rw[bE fun z=>E.fresh n (.inl z)];exact q)) (D.mono (iJ _ _ _))
theorem Pf (hN:X.N.Nodup)(hi':X.N[i]?=some x)(hx':Loc X.env.scope x)(sc:Scope)(hsc:X.env.scope=sc)(C:kx sc X.N scope k N ix)
  (hx:X.xe=fun _ _=>False) (hc:X.calm=true) (hi:pD X O tg iter fi)
  (hg:∀ cl C s3 H3 fp pins,jJ (dM X N scope cl C s3 H3 fp pins) O0 tg S) (ht:∀ cl C s3 H3 fp pins,v8 (dM X N scope cl C s3 H3 fp pins) ifs ft) (he:∀ cl C s3 H3 fp pins,PR (dM X N scope cl C s3 H3 fp pins) O0 elt fe) (h0:O.s=[]:=by rfl)
  (hsw:dF (.ListComp elt [⟨tg,iter,ifs,0⟩] scope pos) (some (.Name x pos')) spos.line X.env=aN true:=by rfl) (hf:X.fn x=true∨X.env.scope.names.lookup x=some .local:=by first | exact .inl rfl | exact .inr rfl | assumption)
  (hs:∀ x,k7 iter X.env x=aN x:=by intro _;rfl):cR X O (.Assign [.Name x pos'] (.ListComp elt [⟨tg,iter,ifs,0⟩] scope pos) spos) (fun ρ=>bj i ρ ((c_ S ft fe (fi ρ) (frees k ix ρ)).map .list)):=
 O9 ((Oo (g:=tG X.K O0 S) (tc:=tT X.K O0 ft) (te:=tR X.K O0 fe) hN hi' hx' sc hsc C hx hc hi hg ht he hsw hf hs).imp fun D σ H h=>Cj σ H _ (Q6 h0 σ H _ h)) (.inr ⟨by rw[h0];rfl,rfl⟩)
end
section
variable {X:Cx}{O:Ow}{i:Nat}{e a:Expr}{f fa:ag->Option ae}{pos p:Pos}
def tO (K:ao)(O:Ow)(f:ag->Option (Option Int)):TO:=fun σ H Q=>dA K O f σ H fun hid H0 ρ ow o=>∀ H',ay H H'->Q o H'
abbrev nB (X:Cx)(O:Ow)(e:Option Expr)(f:ag->Option (Option Int)):Prop:=PO X e (tO X.K O f)
theorem PO.imp {e:Option Expr}{t t':TO}(h:PO X e t)(hi:∀ σ H Q,t' σ H Q->t σ H Q):PO X e t':=fun pins s σ H Q I q=>h pins s σ H Q I (hi σ H Q q)
theorem DT:nB X O none (fun _=>some none):=PO.imp Od fun σ H Q ⟨hid,H0,ρ,ow,o,E,hf,k⟩=>by cases hf;exact k H (ay.refl H)
theorem DU (h:PR X O e f):nB X O (some e) (fun ρ=>((f ρ).bind eO).map some):=PO.imp (Oe h) fun σ H Q zpat=>by
 obtain⟨hid,H0,ρ,ow,o,E,hf,k⟩:=zpat
 obtain⟨i,g1,rfl⟩:=map_some hf
 obtain⟨d,g2,g3⟩:=bind_some g1
 rw[iO g3] at g2
 exact⟨hid,H0,ρ,ow,_,E,g2,fun v H' s D=>⟨i,eD D,k H' s⟩⟩
def Cn (ds:List ae)(lo hi:Option Int):List ae:=(ds.drop (HT.sIx ds.length 0 lo)).take (HT.sIx ds.length ds.length hi - HT.sIx ds.length 0 lo)
def cutD (x:Option ae)(lo hi:Option (Option Int)):Option (List ae):=(x.bind cH).bind fun ds=>lo.bind fun l=>hi.map fun h=>Cn ds l h
theorem Kc {lo hi:Option Expr}{fl fh:ag->Option (Option Int)}{p2:Pos}(ha:PR X O a fa)(hl:nB X O lo fl)(hh:nB X O hi fh):bL X O (.Subscript a (.Slice lo hi none p2) pos) (fun ρ=>cutD (fa ρ) (fl ρ) (fh ρ)):=(Ec Qm ha hl hh).imp fun σ H Q zpat=>by
 obtain⟨hid,H0,ρ,ow,ds,E,hf,k⟩:=zpat
 obtain⟨es,g1,g2⟩:=bind_some hf
 obtain⟨d,g3,g4⟩:=bind_some g1
 rw[fQ g4] at g3
 obtain⟨l,g5,g6⟩:=bind_some g2
 obtain⟨h,g7,rfl⟩:=map_some g6
 refine⟨hid,H0,ρ,ow,_,E,g3,fun x H1 s1 D1=>⟨hid,H0,ρ,ow,l,E.mono s1,g5,fun H2 s2=>⟨hid,H0,ρ,ow,h,(E.mono s1).mono s2,g7,fun H3 s3=>?_⟩⟩⟩
 obtain⟨q,vs,rfl,q1,r1⟩:=dU D1
 have s23:=s2.trans s3
 refine ⟨q,vs,rfl,s23.seq ((bH _ _).seq q1),(fun n hn=>k n _ _ ((s1.trans s23).trans (cb hn)) ((s1.trans s23).free hn) cD ?_)⟩
 unfold pR Cn
 rw[r1.length]
 exact (((r1.mono (aZ s23 _)).drop _).take _).mono (k4 (cb hn) hn fun b z=>by rcases z with z | z;exact .inl z;exact .inr (by simpa using z))
def la:List ae->Option (List Int)
 | []=>some []
 | .int i::r=>(la r).map (i::·)
 | _::_=>none
theorem C0:∀ (ns:List Int),la (ns.map .int)=some ns
 | []=>rfl
 | n::r=>by rw[bV,la,C0 r];rfl
theorem C1:∀ {ds:List ae} {ns:List Int},la ds=some ns->ds=ns.map .int
 | [],ns,h=>by cases h;rfl
 | d::r,ns,h=>by
  cases d with
  | int i=>
   rw[la] at h
   obtain⟨ms,h1,rfl⟩:=map_some h
   rw[bV,← C1 h1]
  | _=>exact L2.bp h
theorem aD.isInts {K:ao}{H:Hp}:∀ {vs:List V} {ns:List Int},aD K H vs (ns.map .int)->vs=ns.map .int
 | _,[],h=>sI h
 | vs,n::r,h=>by
  obtain⟨v,ws,zq2,h1,h2⟩:=mw h
  subst zq2
  rw[eD h1,aD.isInts h2]
  rfl
theorem aD.rev {K:ao}{H:Hp}:∀ {vs:List V} {ds:List ae},aD K H vs ds->aD K H vs.reverse ds.reverse
 | _,_,.nil=>.nil
 | _,_,.cons h r=>by
  rw[vV,vV]
  exact (aD.rev r).append (.cons h .nil)
theorem Si:∀ {vs:List V} {us:List ah},aV vs us->aV vs.reverse us.reverse:=fun r=>r.reverse
def t9:ae->Option (List ae)
 | .list ds=>some ds.reverse
 | _=>none
def qf (d e:ae):Option ae:=match e with
 | .none=>some (.bool (match d with | .none=>true | _=>false))
 | _=>none
theorem Ny:cE X (fC .Is) (fun x y H Q=>∃ d,aJ X.K H x d∧y=.non∧Q (.bl (match d with | .none=>true | _=>false)) H):=by
 intro pins s σ H x y v u Q I rx ry h
 revert h
 refine fun zqq=>?_;obtain⟨d,D,zq2,q⟩:=zqq
 subst zq2
 cases ry
 cases D with
 | non=>cases rx;exact wpAny_is_self rfl ⟨.bl _,H,I,rfl,q⟩
 | bl b=>cases rx;exact lE rfl (fun z=>by cases z) ⟨.bl _,H,I,rfl,q⟩
 | int i=>obtain⟨t,rfl⟩:=rx;exact lE rfl (fun z=>by cases z) ⟨.bl _,H,I,rfl,q⟩
 | str i=>obtain⟨t,rfl⟩:=rx;exact lE rfl (fun z=>by cases z) ⟨.bl _,H,I,rfl,q⟩
 | tup _ _=>cases rx;exact lE rfl (fun z=>by cases z) ⟨.bl _,H,I,rfl,q⟩
 | lst _ _=>cases rx;exact lE rfl (fun z=>by cases z) ⟨.bl _,H,I,rfl,q⟩
 | fn _ _=>cases rx;exact lE rfl (fun z=>by cases z) ⟨.bl _,H,I,rfl,q⟩
 | exc _ _=>cases rx;exact lE rfl (fun z=>by cases z) ⟨.bl _,H,I,rfl,q⟩
 | obj _ _=>cases rx;exact lE rfl (fun z=>by cases z) ⟨.bl _,H,I,rfl,q⟩
 | dct _ _=>cases rx;exact lE rfl (fun z=>by cases z) ⟨.bl _,H,I,rfl,q⟩
theorem JD {K:ao}{H:Hp}{v:V}(h:aJ K H v .none):v=.non:=by cases h;rfl
theorem wV:eM X .Is qf:=⟨_,Ny,fun x y H d e r Q D1 D2 q k=>by
 unfold qf at q
 split at q
 ·cases q;exact⟨d,D1,JD D2,k _ (.bl _)⟩
 ·cases q⟩
end
end L2
namespace L2
variable [Reg]
def DG (ρ:ag)(i:Nat):Nat:=match (ρ[i]?).join with
 | some (.int k)=>k.natAbs
 | some (.list ds)=>ds.length
 | _=>0
theorem gj:dJ "len"=some (.builtin "len"):=by decide +kernel
theorem IF:dJ "min"=some (.builtin "min"):=by decide +kernel
theorem wQ:dJ "int"=some (.type "int"):=by decide +kernel
theorem IC:dJ "bool"=some (.type "bool"):=by decide +kernel
theorem jR:dJ "str"=some (.type "str"):=by decide +kernel
def lp:Option aA->Option ae
 | some (.rt r)=>some r
 | some (.nx _)=>some .none
 | _=>none
def dm (n m:Nat)(B:ag->Option aA)(ds:List ae):Option ae:=if ds.length=n then lp (B (ds.map some++cO m none)) else none
theorem EG {n m:Nat}{B:ag->Option aA}{ds:List ae}{r:ae}(h:dm n m B ds=some r):ds.length=n∧lp (B (ds.map some++cO m none))=some r:=by
 unfold dm at h
 split at h
 ·exact⟨by assumption,h⟩
 ·exact L2.bp h
theorem dP {P:aQ}{w:aM}{K:ao}{mg:Str->Option ah}{base:az}{x qual:Str}{st:aG}{f:af}{fd:aY}{N ps:List Str}{k:Nat}(O:Ow)(F:bh K x qual st f fd)(S:bF N ps (aS st))
  (hO:∀ i∈O.s.map (·.1),ps.length≤i) (B:ag->Option aA)
  (hbody:∀ (cdv:ah),mY K f cdv->∀ (A:bw) (outer:List Env) (s:ar) (H:Hp) (E:XK),bC k (A.deeper (dW qual (aS st) s.heap.objs.size f cdv)) ->
   fL (dN bx P w K mg base N qual (aS st) f cdv A outer s H E).nox O (eA st) B) :
  aW P w K mg base bx (k+1) f fd ps (cx K O.r (dm ps.length (N.length - ps.length) B)):=by
 refine J6 O F S (fun ds r h=>(EG h).1) hO B hbody fun ds r h=>?_
 obtain⟨h1,h2⟩:=EG h
 rw[h1]
 unfold lp at h2
 split at h2
 ·rename_i q
  obtain rfl:=aE h2
  exact .inl q
 ·rename_i ρ q
  obtain rfl:=aE h2
  exact .inr ⟨rfl,ρ,q⟩
 ·exact L2.bp h2
def bN (P:aQ)(w:aM)(K:ao)(mg:Str->Option ah)(base:az)(k:Nat)(x:Str)(ps:List Str)(T:Ty)(F:List ae->Option ae):Prop:=
 ∃ f fd,aW P w K mg base bx k f fd ps (cx K T F)∧mg x=some (.ref f)∧gK K (.ref f)=true∧Binds K fd ps []∧bG K a_ x=some (some (.ref f))
section
variable {X:Cx}{O:Ow}{a:Expr}{es:List Expr}{pos p:Pos}{fs:ag->Option (List ae)}{k:Nat}{ps:List Str}{x:Str}{T:Ty}{F:List ae->Option ae}
theorem du (G:bN X.prog X.w X.K X.mg X.base k x ps T F)(hr:bC k X.A)(hg:Gl X x)(ha:hV X O (a::es) fs)(hdb:(x==("__debug__":Str))=false:=by decide)(he:ax (a::es) X.env=(false,aB a X.env)::ax es X.env:=by rfl)(hpl:(a0 pos (ax es X.env)).any (·.1)=false:=by rfl) :
  PR X O (.Call (.Name x p) (a::es) [] pos) (fun ρ=>(fs ρ).bind F):=by
 obtain⟨f,fd,h1,h2,h3,h4,_⟩:=id G
 exact OO h1 hr hg h2 h3 h4 ha hdb he hpl
theorem qU (G:bN X.prog X.w X.K X.mg X.base k x ps T F)(hr:bC k X.A)(hg:Gl X x)(ha:fS X O (a::es) fs)(hdb:(x==("__debug__":Str))=false:=by decide)(he:ax (a::es) X.env=(false,aB a X.env)::ax es X.env:=by rfl)(hpl:(a0 pos (ax es X.env)).any (·.1)=false:=by rfl) :
  PV X O (.Call (.Name x p) (a::es) [] pos) (fun ρ=>(fs ρ).bind F):=by
 obtain⟨f,fd,h1,h2,h3,h4,_⟩:=id G
 exact R7 h1 hr hg h2 h3 h4 ha hdb he hpl
theorem Kh (G:bN X.prog X.w X.K X.mg X.base k x ps T F)(hr:bC k X.A)(hg:Gl X x)(ha:fS X O (a::es) fs)(hdb:(x==("__debug__":Str))=false:=by decide)(he:ax (a::es) X.env=(false,aB a X.env)::ax es X.env:=by rfl)(hpl:(a0 pos (ax es X.env)).any (·.1)=false:=by rfl) :
  fB X O T (.Call (.Name x p) (a::es) [] pos) (fun ρ=>(fs ρ).bind F):=by
 obtain⟨f,fd,h1,h2,h3,h4,_⟩:=id G
 exact Kg h1 hr hg h2 h3 h4 ha hdb he hpl
end
theorem LC {P:List ah->Prop}{us:List ah}(h:us.length=0)(k:P []):P us:=by
 cases us with
 | nil=>exact k
 | cons a r=>cases h
theorem tw {P:List ah->Prop}{us:List ah}{n:Nat}(h:us.length=n+1)(k:∀ a r,r.length=n->P (a::r)):P us:=by
 cases us with
 | nil=>cases h
 | cons a r=>exact k a r (Nat.succ.inj h)
theorem dZ {P:List ah->Prop}{us:List ah}(h:us.length=1)(k:∀ a,P [a]):P us:=tw h fun a r h=>LC (P:=fun r=>P (a::r)) h (k a)
theorem eE {P:List ah->Prop}{us:List ah}(h:us.length=2)(k:∀ a b,P [a,b]):P us:=tw h fun a r h=>dZ (P:=fun r=>P (a::r)) h (k a)
theorem mF {P:List ah->Prop}{us:List ah}(h:us.length=3)(k:∀ a b c,P [a,b,c]):P us:=tw h fun a r h=>eE (P:=fun r=>P (a::r)) h (k a)
theorem LD {P:List ah->Prop}{us:List ah}(h:us.length=4)(k:∀ a b c d,P [a,b,c,d]):P us:=tw h fun a r h=>mF (P:=fun r=>P (a::r)) h (k a)
end L2
namespace L2
variable [Reg]
def Keeps (P:aQ)(w:aM)(h:az)(g:af):Prop:=∃ k,(k=Keeper.frame∨k=Keeper.machine∨k=Keeper.boundFrame)∧r_ (aF P w) h (keeperOf (.ref g)) k
structure vy (P:aQ)(w:aM)(K:ao)(mg:Str->Option ah)(base:az)(k:Nat)(tag:Str)(F:List ae->Option ae):Prop where
 keep:∀ (A:bw) (outer:List Env) (s:ar) (H:Hp) (g:af) (cv:List V),gi P w K mg base A outer s H->ni K H g tag cv->Keeps P w s.heap g
 run:∀ (A:bw) (outer:List Env) (s:ar) (H:Hp) (g:af) (cv:List V) (us:List ah) (vs:List V) (Q:VK) (E:XK),bC k A->gi P w K mg base A outer s H->ni K H g tag cv->aV vs us->cx K .cl F (vs++cv) H Q E ->
  gm (aF P w) A (.call (.ref g) ⟨us,[]⟩) (CR bx outer P w H s Q E) s
theorem vy.mono {P:aQ}{w:aM}{K:ao}{mg:Str->Option ah}{base:az}{j k:Nat}{tag:Str}{F:List ae->Option ae}(h:vy P w K mg base j tag F)(hk:j≤k):vy P w K mg base k tag F:=
 ⟨h.keep,fun A outer s H g cv us vs Q E hr=>h.run A outer s H g cv us vs Q E (hr.mono hk)⟩
abbrev GH:=List (Str×(List ae->Option ae))
section
variable {X:Cx}{O:Ow}{a:Expr}{es:List Expr}{pos p:Pos}{fs:ag->Option (List ae)}{fx:ag->Option ae}{k:Nat}{ps:List Str}{x:Str}{T:GH}{T':Ty}{F:List ae->Option ae}
end
end L2
namespace L2
variable [Reg]
theorem Tg {P q:aQ}(h:((gu P).all fun y=>((t8 q).find? fun e=>e.name==y).isSome)=true):∀ y∈gu P,((t8 q).find? fun e=>e.name==y).isSome=true:=List.all_eq_true.mp h
theorem Tf {P:aQ}{K:ao}(h:((gu P).all fun y=>match kQ K y with | some z=>(K.lookup z.2).isNone | none=>true)=true)(y:Str)(c p:af)(hy:y∈gu P)(e:kQ K y=some (c,p)):K.lookup p=none:=by
 have:=List.all_eq_true.mp h y hy
 rw[e] at this
 simpa using this
structure S9 (L:jD):Prop where
 kind:L.scope.kind=.function
 co:L.scope.isCoroutine=false
 gen:L.scope.isGenerator=false
 nocell:∀ y∈L.scope.names,y.2≠.cell
 par:∀ x∈L.ps,L.scope.names.lookup x=some .local
 fr:((L.scope.names.filter fun x=>x.2==.free).map (fun z=>z.1)).reverse=L.free
 frl:∀ x∈L.free,L.scope.names.lookup x=some .free
 nd:L.ps.Nodup
 ndf:L.free.Nodup
section
variable {P:aQ}{w:aM}{K:ao}{mg:Str->Option ah}{base:az}{L:jD}{clos:List (Str×af)}{g c':af}{q:Str}{A:bw}{outer:List Env}{s:ar}{H:Hp}
end
section
variable {X:Cx}
def Made (H:Hp)(L:jD)(clos:List (Str×af))(g:af):Prop:=
 ∃ (pm:ah) (c':af) (ctv:ah) (oc:Obj) (vs:Array ah) (q:Str) (t:Tok) (φ:HO),H g=some (fz g (PySem.W.kla_obj "<lambda>" L.qual L.params L.body L.scope clos pm c' ctv))∧H c'=some (.frz oc φ)∧oc.data=.fields vs∧vs[1]?=some (.str q t)
theorem Made.mono {H H':Hp}{L:jD}{clos:List (Str×af)}{g:af}(e:ay H H')(h:Made H L clos g):Made H' L clos g:=by
 obtain⟨pm,c',ctv,oc,vs,q,t,φ,h1,h2,h3⟩:=id h
 exact ⟨pm,c',ctv,oc,vs,q,t,φ,e _ _ h1,e _ _ h2,h3⟩
theorem Kk {P:aQ}{w:aM}{H:Hp}{h:az}{a:af}{o:Obj}(e:h.get? a=some o):cP P w H h a (fz a o):=⟨e,e,⟨o,e⟩,fun h1 h2 z k=>k o z⟩
end
section
variable {X:Cx}{O:Ow}
def nf:ae->Bool
 | .dict _=>false
 | .list ds=>go ds
 | .tuple ds=>go ds
 | _=>true
where go:List ae->Bool
 | []=>true
 | d::r=>nf d&&go r
theorem cF.sub {K:ao}{G G':Hp}(e:∀ a o,G a=some o->(∀ ob φ,o≠.frz ob (.ext φ))->G' a=some o){a:af}{vs:List V}(q:cF K G a vs):cF K G' a vs:=by
 rcases q with (q | ⟨o,q⟩) | q
 ·exact .inl (.inl (e _ _ q fun _ _ z=>by cases z))
 ·exact .inl (.inr ⟨o,e _ _ q fun _ _ z=>by cases z⟩)
 ·exact .inr q
theorem bD.sub {K:ao}{G G':Hp}(e:∀ a o,G a=some o->(∀ ob φ,o≠.frz ob (.ext φ))->G' a=some o){a:af}{vs:List V}(q:bD K G a vs):bD K G' a vs:=by
 rcases q with (q | ⟨o,q⟩) | q
 ·exact .inl (.inl (e _ _ q fun _ _ z=>by cases z))
 ·exact .inl (.inr ⟨o,e _ _ q fun _ _ z=>by cases z⟩)
 ·exact .inr q
theorem aJ.sub {K:ao}{G G':Hp}(e:∀ a o,G a=some o->(∀ ob φ,o≠.frz ob (.ext φ))->G' a=some o){v:V}{d:ae}(z:aJ K G v d):nf d=true->aJ K G' v d:=
 aJ.rec (motive_1:=fun v d _=>nf d=true->aJ K G' v d) (motive_2:=fun vs ds _=>nf.go ds=true->aD K G' vs ds) (fun _=>.non) (fun b _=>.bl b) (fun i _=>.int i) (fun x _=>.str x) (fun q _ r h=>.tup (q.sub e) (r h)) (fun q _ r h=>.lst (q.sub e) (r h)) (fun _ _ _ h=>by cases h) (fun _ _ _ h=>by cases h) (fun _ _ _ h=>by cases h) (fun _ _ _ h=>by cases h) (fun _=>.nil) (fun _ _ a b h=>by rw[nf.go,cq] at h;exact .cons (a h.1) (b h.2)) z
theorem aD.sub {K:ao}{G G':Hp}(e:∀ a o,G a=some o->(∀ ob φ,o≠.frz ob (.ext φ))->G' a=some o){vs:List V}{ds:List ae}(z:aD K G vs ds):nf.go ds=true->aD K G' vs ds:=
 aD.rec (motive_1:=fun v d _=>nf d=true->aJ K G' v d) (motive_2:=fun vs ds _=>nf.go ds=true->aD K G' vs ds) (fun _=>.non) (fun b _=>.bl b) (fun i _=>.int i) (fun x _=>.str x) (fun q _ r h=>.tup (q.sub e) (r h)) (fun q _ r h=>.lst (q.sub e) (r h)) (fun _ _ _ h=>by cases h) (fun _ _ _ h=>by cases h) (fun _ _ _ h=>by cases h) (fun _ _ _ h=>by cases h) (fun _=>.nil) (fun _ _ a b h=>by rw[nf.go,cq] at h;exact .cons (a h.1) (b h.2)) z
structure S8 (X:Cx)(L:jD)(ix:List Nat):Prop where
 tab:∃ y c p,y∈gu X.prog∧kQ X.K y=some (c,p)∧X.env.code=.ref c
 qual:X.env.qual++"<lambda>"=L.qual
 dfl:defaultsOf L.params X.env=([],[])
 cell:∀ x∈L.free,X.env.scope.names.lookup x=some .cell
 fn:∀ x∈L.free,X.fn x=true
 sl:ix.map (fun i=>X.N[i]?)=L.free.map some
end
end L2
namespace L2
open Sem (wp)
variable [Reg]
section
variable {M:pw}{A:bw}{E:ah->ar->Prop}{s:ar}{env:Env}{outer:List Env}{base:az}{L e:af}{oe:Obj}{vs:Array ah}{Q:Unit->ar->Prop}
structure l3 (fs:List af)(e:af)(oe:Obj)(fl:ah)(h h':az):Prop where
 exc:h'.get? e=some (oe.mapFields (·.setIfInBounds 1 (.ref h.objs.size)))
 tb:∃ oT ts,h'.get? h.objs.size=some oT∧oT.data=.fields ts∧ts[3]?=some fl
 keep:∀ b o,b≠e->b∉fs->h.get? b=some o->h'.get? b=some o
 slot:∀ b o,b≠e->h.get? b=some o->∃ sl,h'.get? b=some {o with slots:=sl}
theorem FC {head:ah}{hadNext:Bool}(hfr:A.frames=some (env::outer))(hl:s.heap.FunFrames base (env::outer))(hf:env.frame=some L)
  (he:s.heap.get? e=some oe) (hd:oe.data=.fields vs) (hsz:1<vs.size)
  (h:∀ h',l3 ((env::outer).filterMap (·.frame)) e oe (j6 L) s.heap h'->Q () {s with heap:=h' }) :
  aI M A (do let a ← frameOf env;let pl ← entryPlaceOf L hadNext;let b ← GF head a .none (j6 L) .none pl;setField (.ref e) 1 b) Q E s:=by
 have hene:e∉(env::outer).filterMap (·.frame):=fun hm=>by
  obtain⟨_,o,ho,hnf⟩:=hl.mem hm
  rw[he] at ho;injection ho with ho;subst ho;exact hnf vs hd
 refine aU (wpAny_frameOf_fun hfr hl hf fun h₁ hs₁=>?_)
 refine aU (wpAny_entryPlaceOf fun pl hpl=>?_)
 unfold GF newFields
 refine aU (Sr ?_ (hpl.sizeOk5 _ _ _ _ _))
 have he₁:h₁.get? e=some oe:=(hs₁.2.1 e hene).trans he
 have he₂:=cL (h:=h₁) {cls:=.type "traceback",dict:=none,data:=.fields ([head,.ref L,.none,j6 L,.none]++(if pl.isEmpty then cO 6 Value.none else pl)).toArray} he₁
 refine FZ he₂ hd hsz (h _ ?_)
 have hTe:h₁.objs.size≠e:=pA (bA he₁)
 have hd₃:=jI hd (·.setIfInBounds 1 (Value.ref h₁.objs.size))
 have he₃:=nj (pB (·.setIfInBounds 1 (Value.ref h₁.objs.size))) he₂ (Bc hd₃)
 have hT₃:=(lV (h₁.push {cls:=.type "traceback",dict:=none,data:=.fields ([head,.ref L,.none,j6 L,.none]++(if pl.isEmpty then cO 6 Value.none else pl)).toArray})
  (pB (·.setIfInBounds 1 (Value.ref h₁.objs.size))) (cn hTe)).trans (fA h₁ rfl)
 have keep:∀ b o,b≠e->h₁.get? b=some o ->
   ((h₁.push {cls:=.type "traceback",dict:=none,data:=.fields ([head,.ref L,.none,j6 L,.none]++(if pl.isEmpty then cO 6 Value.none else pl)).toArray}).update e (pB (·.setIfInBounds 1 (Value.ref h₁.objs.size)))).get? b=some o:=
  fun b o hbe hb=>by
   rw[lV _ _ (cn hbe)]
   exact cL _ hb
 refine⟨by rw[← hs₁.1];exact he₃,⟨_,_,by rw[← hs₁.1];exact hT₃,rfl,by first | (simp;done) | (rcases hpl with rfl | ⟨_,_,_,_,_,_,_,rfl⟩ <;> simp)⟩,fun b o h1 h2 h3=>keep b o h1 ((hs₁.2.1 b h2).trans h3),fun b o h1 h3=>?_⟩
 obtain⟨sl,hs⟩:=hs₁.2.2 b o h3
 exact⟨sl,keep b _ h1 hs⟩
def Tr (h:az)(vs:Array ah):Prop:=vs[1]?=some .none∨∃ T oT ts,vs[1]?=some (.ref T)∧h.get? T=some oT∧oT.data=.fields ts∧ts[3]?=some .none
theorem DQ (hfr:A.frames=some (env::outer))(hl:s.heap.FunFrames base (env::outer))(hf:env.frame=some L)
  (he:s.heap.get? e=some oe) (hd:oe.data=.fields vs) (h1:Tr s.heap vs)
  (h:∀ h',l3 ((env::outer).filterMap (·.frame)) e oe (j6 L) s.heap h'->Q () {s with heap:=h' }) :
  aI M A (noteFrame (.ref e) env) Q E s:=by
 unfold noteFrame
 simp only[hf]
 rcases h1 with h1 | ⟨T,oT,ts,h1,hT,hdT,h3⟩
 ·refine aU (FX he hd h1 ?_)
  rw[if_neg (by decide)]
  exact FC hfr hl hf he hd (Array.getElem?_eq_some_iff.mp h1).1 h
 ·refine aU (FX he hd h1 ?_)
  rw[if_pos (show (Value.ref T != Value.none)=true from by simp)]
  refine aU (FX hT hdT h3 ?_)
  rw[if_neg (show ¬ ((Value.none==j6 L)=true) from by simp[j6])]
  refine aU (FZ hT hdT (Array.getElem?_eq_some_iff.mp h3).1 ?_)
  rw[G_ s.heap T oT ts 3 .none hT hdT h3]
  exact FC hfr hl hf he hd (Array.getElem?_eq_some_iff.mp h1).1 h
theorem Ct {L:af}{fs:List af}{s:ar}{h0:az}(hne:e<h0.objs.size)(hd:oe.data=.fields vs)(hsz:1<vs.size)(n:l3 fs e oe (j6 L) h0 s.heap)(hfs:∀ b∈fs,b<h0.objs.size)
  (h:∀ h',l3 fs e oe .none h0 h'->Q () {s with heap:=h' }):aI M A (setFlight (.ref e) none) Q E s:=by
 obtain⟨oT,ts,h2,h3,h4⟩:=n.tb
 have hTe:h0.objs.size≠e:=pA hne
 have hz:3<ts.size:=(Array.getElem?_eq_some_iff.mp h4).1
 have hd':=jI hd (·.setIfInBounds 1 (Value.ref h0.objs.size))
 refine Sy n.exc hd' (by simp[hsz]) h2 h3 hz (h _ ?_)
 have other:∀ b,b≠h0.objs.size->(s.heap.update h0.objs.size (pB (·.setIfInBounds 3 Value.none))).get? b=s.heap.get? b:=fun b hb=>lV _ _ (cn hb)
 refine⟨(other e (cn hTe)).trans n.exc,⟨_,_,nj _ h2 (Bc (jI h3 _)),jI h3 _,by simp[hz]⟩,fun b o x1 x2 x3=>?_,fun b o x1 x3=>?_⟩
 ·exact (other b (cJ (bA x3))).trans (n.keep b o x1 x2 x3)
 ·obtain⟨sl,q⟩:=n.slot b o x1 x3
  exact⟨sl,(other b (cJ (bA x3))).trans q⟩
end
structure vx (H:Hp)(h G:az)(e C:af)(od:Option af):Prop where
 ex:∃ oe vs,h.get? e=some oe∧oe.cls=.ref C∧oe.dict=od∧oe.data=.fields vs∧Tr h vs
 fre:H e=none
 new:G.get? e=none
structure jC (X:Cx)(pins:List (af×Obj))(H:Hp)(s:ar)(e C:af)(od:Option af):Prop where
 c:vx H s.heap X.s₀.heap e C od
 pin:∀ p∈X.pn++pins,p.1≠e
theorem Obj.dict_mapFields (o:Obj)(f:Array ah->Array ah):(o.mapFields f).dict=o.dict:=by
 obtain⟨c,d,dt,sl⟩:=o
 cases dt <;> rfl
def de (P:aQ)(w:aM):fH:=fun outer H s E e s'=>∃ H' a C od,e=.ref a∧s'.os=s.os∧iS s'.gens∧Un (dQ outer) [] H H' s.heap s'.heap∧cI P w H' s'.heap∧vx H' s'.heap s.heap a C od∧E (.ref C) od H'
theorem Tr.of_noted {fs:List af}{e:af}{oe:Obj}{h0 h:az}{vs:Array ah}(hsz:1<vs.size)(n:l3 fs e oe .none h0 h):Tr h (vs.setIfInBounds 1 (.ref h0.objs.size)):=by
 obtain⟨oT,ts,h2,h3,h4⟩:=n.tb
 exact .inr ⟨_,oT,ts,by simp[hsz],h2,h3,h4⟩
theorem Tr.sz {h:az}{vs:Array ah}(t:Tr h vs):1<vs.size:=by
 rcases t with t | ⟨_,_,_,t,_⟩
 ·exact (Array.getElem?_eq_some_iff.mp t).1
 ·exact (Array.getElem?_eq_some_iff.mp t).1
section
variable {P:aQ}{w:aM}{K:ao}{mg:Str->Option ah}{base:az}{N:List Str}{qual:Str}{scope:Scope}{f:af}{cd:ah}{A:bw}{outer:List Env}{s s':ar}{H H':Hp}{E:XK}{pins:List (af×Obj)}{σ:St}{a C:af}{od:Option af}
theorem Jw (I:Inv (dN (de P w) P w K mg base N qual scope f cd A outer s H E) pins σ H' s')(F:vx H' s'.heap s.heap a C od)(q:E (.ref C) od H'):(dN (de P w) P w K mg base N qual scope f cd A outer s H E).xe (.ref a) s':=by
 obtain⟨oe,vs,he,hc,hdi,hd,tr⟩:=F.ex
 show aI (aF P w) _ (leaving _ (.ref a)) _ _ s'
 unfold leaving
 have hst:=I.stack
 refine aU (DQ (L:=s.heap.objs.size) I.ok.frames hst rfl he hd tr fun h1 n1=>?_)
 have hfs:∀ b∈((dW qual scope s.heap.objs.size f cd)::outer).filterMap (·.frame),b<s'.heap.objs.size:=fun b hb=>by
  obtain⟨_,o,ho,_⟩:=hst.mem hb
  exact bA ho
 refine Ct (bA he) hd tr.sz n1 hfs fun h2 n2=>?_
 have hLs:s.heap.objs.size≤(dN (de P w) P w K mg base N qual scope f cd A outer s H E).env.locals:=I.ok.above
 have nfr:∀ b o,s.heap.get? b=some o->b∉dQ outer->b∉((dW qual scope s.heap.objs.size f cd)::outer).filterMap (·.frame):=fun b o e hb z=>by
  rcases List.mem_cons.mp (I.stkSub b z) with z | z
  ·exact absurd (bA e) (by rw[z];exact Nat.not_lt.mpr hLs)
  ·exact hb z
 have na:∀ b o,s.heap.get? b=some o->b≠a:=fun b o e z=>by rw[z,F.new] at e;cases e
 refine ⟨H',a,C,od,rfl,I.os,I.bare,(⟨fun b o e n hb hx=>?_,fun b o e n hb hx=>?_,I.base.free,fun b o e hx=>?_,I.base.tups,I.base.frzs,I.base.tbls,I.base.tabs⟩),(fun b u e=>?_),(⟨⟨_,_,n2.exc,by rw[vZ];exact hc,by rw[Obj.dict_mapFields];exact hdi,jI hd _,Tr.of_noted tr.sz n2⟩,F.fre,F.new⟩),q⟩
 ·exact n2.keep b o (na b o e) (nfr b o e hb) (I.base.keep b o e n hb hx)
 ·obtain⟨sl,e1⟩:=I.base.slot b o e n hb hx
  obtain⟨sl',e2⟩:=n2.slot b _ (na b o e) e1
  exact⟨sl',e2⟩
 ·obtain⟨o',e1⟩:=I.base.there b o e hx
  obtain⟨sl',e2⟩:=n2.slot b _ (na b o e) e1
  exact⟨_,e2⟩
 ·have keepT:∀ c v,s'.heap.get? c=some v->H' c≠none->h2.get? c=some v:=fun c v q1 q2=>
   n2.keep c v (fun z=>q2 (by rw[z];exact F.fre)) (fun z=>q2 (I.stkFree c z)) q1
  refine (I.hok b u e).stay (fun c v hc q1=>keepT c v q1 ?_) (fun _ q=>q) fun _ _ q=>q
  rcases hc with rfl | hc
  ·rw[e];simp
  ·rw[hc];simp
end
section
variable {X:Cx}{k:Nat}{f:af}{fd:aY}{ps:List Str}{sp:Sp}{pins:List (af×Obj)}{σ:St}{H:Hp}{s:ar}{Q:VK}{E:XK}{us:List ah}{vs:List V}
theorem yy (F:aW X.prog X.w X.K X.mg X.base (de X.prog X.w) k f fd ps sp)(hr:bC k X.A)(hb:Binds X.K fd ps [])(hex:X.ex=[])(I:Inv X pins σ H s)(r:aV vs us)(h:sp vs H Q E)
  (hx:∀ s' H' a C od,Inv X pins σ H' s'->jC X pins H' s' a C od->E (.ref C) od H'->X.xe (.ref a) s'):aI (aF X.prog X.w) X.A (call (.ref f) us) (EP X pins σ Q) X.xe s:=by
 have hl:us.length=ps.length:=by rw[← r.length];exact F.len _ _ _ _ h
 have hb':=hb s us I.kIn (by rw[e6];exact hl)
 rw[e6] at hb'
 refine mW (mq (F.run X.A X.stack s H ⟨us,[]⟩ us vs Q E hr I.env0 hb' r h) fun r s' hq=>?_)
 cases r with
 | error e=>
  revert hq
  refine fun zqq=>?_;obtain⟨H',a,C,od,zq4,ho,hg,un,hok,fl,q⟩:=zqq
  subst zq4
  refine hx s' H' a C od (I.call' ho un hok hg fun b z=>absurd z (by simp)) ⟨⟨fl.ex,fl.fre,?_⟩,fun p hp z=>?_⟩ q
  rotate_left
  ·have:=(I.pin p hp).1
   rw[z,fl.new] at this;cases this
  cases e0:X.s₀.heap.get? a with
  | none=>rfl
  | some o=>
   obtain⟨o',e1⟩:=I.base.there a o e0 (by rw[hex];simp)
   rw[fl.new] at e1;cases e1
 | ok fl=>
  cases fl with
  | ret u=>exact I.after hq
  | next=>exact cV hq
  | brk=>exact cV hq
  | cont=>exact cV hq
end
theorem cP.there {P:aQ}{w:aM}{H:Hp}{h:az}{a:af}{o:HO}(x:cP P w H h a o):∃ u,h.get? a=some u:=by
 cases o with
 | lst xs=>obtain⟨_,_,_,_,e⟩:=x;exact⟨_,e⟩
 | tup xs=>obtain⟨_,_,_,o,e,_⟩:=x;exact⟨_,e⟩
 | dK kvs=>obtain⟨_,_,_,_,o,_,_,e,_⟩:=x;exact⟨_,e⟩
 | dT kvs=>obtain⟨_,_,_,_,o,_,_,e,_⟩:=x;exact⟨_,e⟩
 | set S n=>obtain⟨o,_,_,_,e,_⟩:=x;exact⟨_,e⟩
 | ins C dx fs=>obtain⟨_,_,_,e,_⟩:=x;exact⟨_,e⟩
 | own y=>obtain⟨_,e⟩:=x;exact⟨_,e⟩
 | xd fs=>obtain⟨_,⟨_,_,_,e,_⟩,_⟩:=x;exact⟨_,e⟩
 | rng lo hi=>obtain⟨_,_,_,e⟩:=x;exact⟨_,e⟩
 | frz ob u=>obtain⟨e,_⟩:=x;exact⟨_,e⟩
 | tbl ps=>exact⟨_,x⟩
 | tab=>obtain⟨_,e,_⟩:=x;exact⟨_,e⟩
 | met f y=>exact⟨_,x⟩
 | ext φ=>obtain⟨_,⟨_,e⟩,_⟩:=x;exact⟨_,e⟩
theorem Inv.none_of {X:Cx}{pins:List (af×Obj)}{σ:St}{H:Hp}{s:ar}{a:af}(I:Inv X pins σ H s)(hex:X.ex=[])(e:s.heap.get? a=none):H a=none∧X.s₀.heap.get? a=none∧∀ p∈X.pn++pins,p.1≠a:=by
 refine⟨?_,?_,fun p hp z=>?_⟩
 ·cases q:H a with
  | none=>rfl
  | some u=>
   obtain⟨o,r⟩:=(I.hok a u q).there
   rw[e] at r;cases r
 ·cases q:X.s₀.heap.get? a with
  | none=>rfl
  | some o=>
   obtain⟨o',r⟩:=I.base.there a o q (by rw[hex];simp)
   rw[e] at r;cases r
 ·have:=(I.pin p hp).1
  rw[z,e] at this;cases this
end L2
namespace L2
variable [Reg]
def i8 (K:ao)(H:Hp)(C:af)(od:Option af)(x:ae):Prop:=
 ∃ cls fv fd,x=jj cls (og fv++fd)∧bG K a_ cls=some (some (.ref C))∧((fv=[]∧od=none)∨∃ dx,od=some dx∧H dx=some (.xd fv))∧aD K H (fv.map (·.2)) fd
theorem i8.mono {K:ao}{H H':Hp}{C:af}{od:Option af}{x:ae}(s:ay H H')(h:i8 K H C od x):i8 K H' C od x:=by
 obtain⟨cls,fv,fd,h1,h2,h3,h4⟩:=id h
 refine ⟨cls,fv,fd,h1,h2,?_,h4.mono s⟩
 rcases h3 with h3 | ⟨dx,h3,h5⟩
 ·exact .inl h3
 ·exact .inr ⟨dx,h3,s _ _ h5⟩
inductive RX where
 | ret (d:ae) | exc (x:ae)
def dE (K:ao)(T:Ty)(F:List ae->Option RX):Sp:=fun vs H Q E=>∃ (hid:af->Prop) (ds:List ae) (r:RX),(∀ b,hid b->∃ vs:cM,H b=some vs.ho)∧aD K (av H hid) vs ds∧F ds=some r ∧
 match r with
 | .ret d=>∀ v as H',ay H H'->(∀ p∈as,H p=none)->bg K H' (av H' (uni hid as)) T v d as->Q v H'
 | .exc x=>∀ C od H',ay H H'->i8 K (av H' hid) C od x->E (.ref C) od H'
def RC (X:Cx)(O:Ow)(T:Ty)(f:ag->Option RX):TE:=fun σ H Q=>dA X.K O f σ H fun hid H0 ρ ow r=>
 match r with
 | .ret d=>∀ v as H',ay H H'->(∀ p∈as,H p=none)->bg X.K H' (av H' (uni hid (as++ow))) T v d as->Q v H'
 | .exc x=>∀ pins s' H' a C od,Inv X pins σ H' s'->ay H H'->jC X pins H' s' a C od->i8 X.K (av H' (uni hid ow)) C od x->X.xe (.ref a) s'
abbrev fM (X:Cx)(O:Ow)(T:Ty)(e:Expr)(f:ag->Option RX):Prop:=PE X e (RC X O T f)
def cg (P:aQ)(w:aM)(K:ao)(mg:Str->Option ah)(base:az)(k:Nat)(x:Str)(ps:List Str)(T:Ty)(F:List ae->Option RX):Prop:=
 ∃ f fd,aW P w K mg base (de P w) k f fd ps (dE K T F)∧mg x=some (.ref f)∧gK K (.ref f)=true∧Binds K fd ps []∧bG K a_ x=some (some (.ref f))
def gW (F:List ae->Option RX)(ds:List ae):Option ae:=(F ds).bind fun r=>match r with
 | .ret d=>some d
 | .exc _=>none
theorem cg.ok {P:aQ}{w:aM}{K:ao}{mg:Str->Option ah}{base:az}{k:Nat}{x:Str}{ps:List Str}{T:Ty}{F:List ae->Option RX}(G:cg P w K mg base k x ps T F):bN P w K mg base k x ps T (gW F):=by
 obtain⟨f,fd,h1,h2,h3,h4,h5⟩:=id G
 have imp:∀ vs H Q E,cx K T (gW F) vs H Q E->dE K T F vs H Q E0:=fun vs H Q E zpat=>by
  obtain⟨hid,ds,r,a1,a2,a3,a4⟩:=zpat
  obtain⟨q,b1,b2⟩:=bind_some a3
  cases q with
  | ret d=>cases b2;exact⟨hid,ds,.ret r,a1,a2,b1,a4⟩
  | exc x=>exact L2.bp b2
 refine ⟨f,fd,(⟨fun vs H Q E h=>h1.len vs H Q E0 (imp vs H Q E h),fun A outer s H args us vs Q E hr he hb hv hs=>?_⟩),h2,h3,h4,h5⟩
 refine mq (h1.run A outer s H args us vs Q E0 hr he hb hv (imp vs H Q E hs)) fun r s' hq=>?_
 cases r with
 | error e=>
  obtain⟨H',a,C,od,_,_,_,_,_,_,q⟩:=id hq
  exact q.elim
 | ok fl=>cases fl <;> exact hq
section
variable {X:Cx}{O:Ow}{a:Expr}{es:List Expr}{pos p:Pos}{fs:ag->Option (List ae)}{k:Nat}{ps:List Str}{x:Str}{T:Ty}{F:List ae->Option RX}
theorem f_ (G:cg X.prog X.w X.K X.mg X.base k x ps T F)(hr:bC k X.A)(hg:Gl X x)(hex:X.ex=[])(ha:fS X O (a::es) fs)(hdb:(x==("__debug__":Str))=false:=by decide)(he:ax (a::es) X.env=(false,aB a X.env)::ax es X.env:=by rfl)(hpl:(a0 pos (ax es X.env)).any (·.1)=false:=by rfl) :
  fM X O T (.Call (.Name x p) (a::es) [] pos) (fun ρ=>(fs ρ).bind F):=by
 obtain⟨f,fd,h1,h2,h3,h4,_⟩:=id G
 intro pins s σ H Q I h
 obtain⟨hid,H0,ρ,ow,r,E,hf,q⟩:=h
 obtain⟨ds,g1,g2⟩:=bind_some hf
 refine mV (lj I hg h2 ?_ hdb)
 refine nJ (h₀:=X.base) I.ok.mod.kin h3 (aP (ha pos pins s σ H (fun vs H1=>ay H H1∧aD X.K (av H1 (uni hid ow)) vs ds) I ⟨hid,H0,ρ,ow,ds,E,g1,fun vs H1 s1 D1=>⟨s1,D1⟩⟩) fun us s1 ⟨vs,H1,I1,r1,sm,D1⟩=>⟨I1.kIn,?_⟩) he hpl
 refine yy (E:=fun cv od H'=>∃ x C,r=.exc x∧cv=.ref C∧ay H1 H'∧i8 X.K (av H' (uni hid ow)) C od x) h1 hr h4 hex I1 r1 ⟨uni hid ow,ds,r,(E.mono sm).uniL,D1,g2,?_⟩ fun s2 H2 a C od I2 fl ⟨x,C',hrx,hC,sm2,hx⟩=>?_
 ·cases r with
  | ret d=>
   intro v as H2 s2 n2 D2
   refine q v as H2 (sm.trans s2) (fun p hp=>sm.free (n2 p hp)) (D2.mono (cN fun b z=>?_) fun p _ o e=>e)
   rcases z with z | z
   ·exact .inl (.inl z)
   ·rcases List.mem_append.mp z with z | z
    ·exact .inr z
    ·exact .inl (.inr z)
  | exc x=>exact fun C od H2 s2 hx=>⟨x,C,rfl,rfl,s2,hx⟩
 ·cases hC
  subst hrx
  exact q pins s2 H2 a C od I2 (sm.trans sm2) fl hx
end
inductive b7 where
 | nx (ρ:ag) | rt (d:ae) | bk (ρ:ag) | ct (ρ:ag) | ex (x:ae) (ρ:ag)
def si (X:Cx)(O:Ow)(hid:af->Prop)(H0 G:Hp)(D:fw):b7->Prop
 | .nx ρ'=>∀ σ' H' ow',ay G (av H' (uni hid ow'))->aK X.K O hid H0 σ' H' ρ' ow'->D.nx σ' H'
 | .bk ρ'=>∀ σ' H' ow',ay G (av H' (uni hid ow'))->aK X.K O hid H0 σ' H' ρ' ow'->D.bk σ' H'
 | .ct ρ'=>∀ σ' H' ow',ay G (av H' (uni hid ow'))->aK X.K O hid H0 σ' H' ρ' ow'->D.ct σ' H'
 | .rt d=>∀ v as H',ay H0 H'->(∀ p∈as,H0 p=none)->bg X.K H' (av H' (uni hid as)) O.r v d as->D.rt v H'
 | .ex x ρ'=>∀ pins s' σ' H' ow' a C od,Inv X pins σ' H' s'->ay G (av H' (uni hid ow'))->aK X.K O hid H0 σ' H' ρ' ow'->jC X pins H' s' a C od->i8 X.K (av H' (uni hid ow')) C od x->X.xe (.ref a) s'
def Fx (X:Cx)(O:Ow)(F:ag->Option b7):TS:=fun D σ H=>dA X.K O F σ H fun hid H0 ρ ow o=>si X O hid H0 (av H (uni hid ow)) D o
abbrev hX (X:Cx)(O:Ow)(st:aG)(F:ag->Option b7):Prop:=PS X st (Fx X O F)
abbrev i3 (X:Cx)(O:Ow)(st:List aG)(F:ag->Option b7):Prop:=dw X st (Fx X O F)
theorem si.weak {X:Cx}{O:Ow}{hid:af->Prop}{H0 G G':Hp}{D:fw}{o:b7}(s:ay G G')(h:si X O hid H0 G D o):si X O hid H0 G' D o:=by
 cases o with
 | nx ρ=>exact fun σ' H' ow' s' E=>h σ' H' ow' (s.trans s') E
 | bk ρ=>exact fun σ' H' ow' s' E=>h σ' H' ow' (s.trans s') E
 | ct ρ=>exact fun σ' H' ow' s' E=>h σ' H' ow' (s.trans s') E
 | rt d=>exact h
 | ex x ρ=>exact fun pins s1 σ' H' ow' a C od I s' E f q=>h pins s1 σ' H' ow' a C od I (s.trans s') E f q
def aA.x:aA->b7
 | .nx ρ=>.nx ρ
 | .rt d=>.rt d
 | .bk ρ=>.bk ρ
 | .ct ρ=>.ct ρ
def cB (F G:ag->Option b7)(ρ:ag):Option b7:=(F ρ).bind fun o=>match o with
 | .nx ρ'=>G ρ'
 | o=>some o
def k8 (S:ae->ag->Option ag)(F:ag->Option b7):List ae->ag->Option b7
 | [],ρ=>some (.nx ρ)
 | d::r,ρ=>(S d ρ).bind fun ρ1=>(F ρ1).bind fun o=>match o with
  | .nx ρ2=>k8 S F r ρ2
  | .ct ρ2=>k8 S F r ρ2
  | .bk ρ2=>some (.nx ρ2)
  | .rt v=>some (.rt v)
  | .ex x ρ2=>some (.ex x ρ2)
def xy (S:ae->ag->Option ag)(F:ag->Option b7)(x:Option (List ae))(ρ:ag):Option b7:=x.bind fun ds=>k8 S F ds ρ
def zx (i:Nat)(ρ:ag)(x:Option RX):Option b7:=x.map fun r=>match r with
 | .ret d=>.nx (ρ.set i (some d))
 | .exc x=>.ex x ρ
def gP (ρ:ag)(x:Option RX):Option b7:=x.map fun r=>match r with
 | .ret _=>.nx ρ
 | .exc x=>.ex x ρ
def iq (ρ:ag)(x:Option RX):Option b7:=x.map fun r=>match r with
 | .ret d=>.rt d
 | .exc x=>.ex x ρ
section
variable {X:Cx}{O:Ow}{st:aG}{rest:List aG}{F G:ag->Option b7}{e:Expr}{f:ag->Option RX}{pos:Pos}{T:Ty}
theorem gB {F:ag->Option aA}(h:cR X.nox O st F):hX X O st (fun ρ=>(F ρ).map aA.x):=fun pins s σ H D I zpat=>by
 obtain⟨hid,H0,ρ,ow,o,E,hf,k⟩:=zpat
 obtain⟨o',g1,rfl⟩:=map_some hf
 refine cT (h pins s σ H D (I.wish _) ⟨hid,H0,ρ,ow,o',E,g1,?_⟩) (fun _ _ q=>q.unwish) fun _ _ z=>cV z
 cases o' <;> exact k
theorem qZ {sts:List aG}{F:ag->Option aA}(h:fL X.nox O sts F):i3 X O sts (fun ρ=>(F ρ).map aA.x):=fun pins s σ H D I zpat=>by
 obtain⟨hid,H0,ρ,ow,o,E,hf,k⟩:=zpat
 obtain⟨o',g1,rfl⟩:=map_some hf
 refine cT (h pins s σ H D (I.wish _) ⟨hid,H0,ρ,ow,o',E,g1,?_⟩) (fun _ _ q=>q.unwish) fun _ _ z=>cV z
 cases o' <;> exact k
theorem gf:i3 X O [] (fun ρ=>some (.nx ρ)):=qy.imp fun D σ H zpat=>by
 obtain⟨hid,H0,ρ,ow,o,E,hf,k⟩:=zpat
 obtain rfl:=aE hf
 exact k σ H ow (ay.refl _) E
theorem cQ (h1:hX X O st F)(h2:i3 X O rest G):i3 X O (st::rest) (cB F G):=(mL h1 h2).imp fun D σ H zpat=>by
 obtain⟨hid,H0,ρ,ow,o,E,hf,k⟩:=zpat
 obtain⟨o1,g1,g2⟩:=bind_some hf
 refine⟨hid,H0,ρ,ow,o1,E,g1,?_⟩
 cases o1 with
 | nx ρ1=>exact fun σ' H' ow' s' E'=>⟨hid,H0,ρ1,ow',o,E',g2,by cases o <;> exact k.weak s'⟩
 | rt d=>cases g2;exact k
 | bk ρ1=>cases g2;exact k
 | ct ρ1=>cases g2;exact k
 | ex x ρ1=>cases g2;exact k
theorem cU (h1:hX X O st F):i3 X O [st] F:=qz h1
theorem gc {c:Expr}{a b:List aG}{ft:ag->Option Bool}(hc:fT X.nox O c ft)(ha:i3 X O a F)(hb:i3 X O b G):hX X O (.If c a b pos) (fun ρ=>bu (ft ρ) (F ρ) (G ρ)):=(qw hc.nox ha hb).imp fun D σ H zpat=>by
 obtain⟨hid,H0,ρ,ow,o,E,hf,k⟩:=zpat
 obtain⟨c,g1,g2⟩:=bind_some hf
 refine⟨hid,H0,ρ,ow,c,E,g1,fun H' s=>?_⟩
 cases c with
 | true=>rw[if_pos rfl] at g2 ⊢;exact⟨hid,H0,ρ,ow,o,E.mono s,g2,k.weak (aZ s _)⟩
 | false=>rw[if_neg dH] at g2 ⊢;exact⟨hid,H0,ρ,ow,o,E.mono s,g2,k.weak (aZ s _)⟩
theorem lG (h:fM X O T e f)(hs:dF e none pos.line X.env=aN false:=by rfl):hX X O (.Expr e pos) (fun ρ=>gP ρ (f ρ)):=(qv h hs).imp fun D σ H zpat=>by
 obtain⟨hid,H0,ρ,ow,o,E,hf,k⟩:=zpat
 obtain⟨r,g1,rfl⟩:=map_some hf
 refine⟨hid,H0,ρ,ow,r,E,g1,?_⟩
 cases r with
 | ret d=>exact fun v as H' s n _=>k σ H' ow (aZ s _) (E.mono s)
 | exc x=>exact fun pins s' H' a C od I s fl hx=>k pins s' σ H' ow a C od I (aZ s _) (E.mono s) fl hx
theorem kj (h:fM X O O.r e f):hX X O (.Return (some e) pos) (fun ρ=>iq ρ (f ρ)):=(mK h).imp fun D σ H zpat=>by
 obtain⟨hid,H0,ρ,ow,o,E,hf,k⟩:=zpat
 obtain⟨r,g1,rfl⟩:=map_some hf
 refine⟨hid,H0,ρ,ow,r,E,g1,?_⟩
 cases r with
 | ret d=>exact fun v as H' s n Dv=>k v as H' (E.baseS.trans s) (fun p hp=>E.baseS.free (n p hp)) (Dv.mono (cN (jy fun p hp=>cy _ hp)) fun p _ o e=>e)
 | exc x=>exact fun pins s' H' a C od I s fl hx=>k pins s' σ H' ow a C od I (aZ s _) (E.mono s) fl hx
theorem SY {i:Nat}{x:Str}{pos':Pos}(hN:X.N.Nodup)(hi:X.N[i]?=some x)(hx:Loc X.env.scope x)(he:fM X O .cl e f)(hO:O.s.lookup i=none:=by rfl)(hs:dF e (some (.Name x pos')) pos.line X.env=aN false:=by rfl)(hf:X.fn x=true∨X.env.scope.names.lookup x=some .local:=by first | exact .inl rfl | exact .inr rfl | assumption) :
  hX X O (.Assign [.Name x pos'] e pos) (fun ρ=>zx i ρ (f ρ)):=(t5 hN hi hx he hs hf).imp fun D σ H zpat=>by
 obtain⟨hid,H0,ρ,ow,o,E,hf,k⟩:=zpat
 obtain⟨r,g1,rfl⟩:=map_some hf
 refine⟨hid,H0,ρ,ow,r,E,g1,?_⟩
 cases r with
 | ret d=>exact fun v as H' s n Dv=>k _ H' ow (aZ s _) ((E.mono s).set hO (Dv.den.mono (cN (jy fun p hp=>bB _ hp))))
 | exc x=>exact fun pins s' H' a C od I s fl hx=>k pins s' σ H' ow a C od I (aZ s _) (E.mono s) fl hx
end
end L2
namespace L2
variable [Reg]
section
variable {X:Cx}{O:Ow}{st:aG}{rest:List aG}{F G:ag->Option b7}{e:Expr}{f:ag->Option RX}{pos:Pos}{T:Ty}
inductive vw (K:ao)(O:Ow)(hid:af->Prop)(H0 G1:Hp)(S:ae->ag->Option ag)(F:ag->Option b7)(ds:List ae)(out:b7)(i m:Nat)(τ:St)(H2:Hp):Prop
 | mk (ρ2:ag) (ow2:List af) (left:List ae) (hM:hR ds i m left) (E2:aK K O hid H0 τ H2 ρ2 ow2) (s2:ay G1 (av H2 (uni hid ow2))) (hr:k8 S F left ρ2=some out):vw K O hid H0 G1 S F ds out i m τ H2
theorem SV {tg iter:Expr}{body:List aG}{fi:ag->Option (List ae)}{S:ae->ag->Option ag}(hc:X.calm=true)(hi:kO X O tg iter fi)(hg:jJ X O tg S)(hb:i3 X O body F)(hp:pF (aF X.prog X.w) X.A X.env X.xe)
  (hs:∀ x,k7 iter X.env x=aN x:=by intro _;rfl):hX X O (.For tg iter body [] pos) (fun ρ=>xy S F (fi ρ) ρ):=(yo hp hc hi hg hb hs).imp fun D σ H zpat=>by
 obtain⟨hid,H0,ρ,ow,out,E,hf,k⟩:=zpat
 obtain⟨ds,g1,g2⟩:=bind_some hf
 refine⟨hid,H0,ρ,ow,ds,E,g1,fun J H1 s1 Gd=>?_⟩
 have k1:=k.weak (aZ s1 (uni hid ow))
 clear k hf g1
 refine⟨vw X.K O hid H0 (av H1 (uni hid ow)) S F ds out,⟨ds.length,.mk ρ ow ds (.start ds) (E.mono s1) (ay.refl _) g2⟩,fun i m τ H2 zp=>?_⟩
 obtain⟨ρ2,ow2,left,hM,E2,s2,hr⟩:=zp
 have keep:ay (av H1 (uni hid ow)) H2:=s2.trans (bH _ _)
 cases left with
 | nil=>
  obtain rfl:=hM.fin
  rw[k8] at hr
  obtain rfl:=aE hr
  exact .inl ⟨Gd.stop H2 keep,k1 τ H2 ow2 s2 E2⟩
 | cons d r=>
  obtain⟨hlt,hdi,m',hm',hM'⟩:=hM.cut
  rw[k8] at hr
  obtain⟨ρ3,g3,hr⟩:=bind_some hr
  obtain⟨o3,g4,hr⟩:=bind_some hr
  refine .inr ⟨Gd.go H2 i keep hlt,vw X.K O hid H0 (av H1 (uni hid ow)) S F ds out (i+1) m',fun τ' H' z=>⟨m',hm',z⟩,fun x H3 y=>?_⟩
  obtain⟨s23,Dx⟩:=Gd.step s2 (fun p hp=>E2.fresh hp) hdi y
  refine⟨hid,H0,ρ2,ow2,d,ρ3,E2.mono s23,Dx,g3,fun τ3 E3=>⟨hid,H0,ρ3,ow2,o3,E3,g4,?_⟩⟩
  have s13:ay (av H1 (uni hid ow)) (av H3 (uni hid ow2)):=s2.trans (aZ s23 _)
  cases o3 with
  | nx ρ4=>exact fun σ' H' ow' s' E'=>.mk ρ4 ow' r hM' E' (s13.trans s') hr
  | ct ρ4=>exact fun σ' H' ow' s' E'=>.mk ρ4 ow' r hM' E' (s13.trans s') hr
  | bk ρ4=>
   obtain rfl:=aE hr
   exact fun σ' H' ow' s' E'=>k1 σ' H' ow' (s13.trans s') E'
  | rt d=>
   obtain rfl:=aE hr
   exact k1
  | ex x ρ4=>
   obtain rfl:=aE hr
   exact fun pins s' σ' H' ow' a C od I s E' fl hx=>k1 pins s' σ' H' ow' a C od I (s13.trans s) E' fl hx
def ic:List ah:=[.type "ValueError",.type "Exception",.type "BaseException",.type "object"]
inductive mh (K:ao)(C:af):Prop
 | mk (nm q:Str) (N:af) (bs bm:List ah) (hdct:Bool) (sn:List Str) (sub:List ah) (ab:Bool) (col:Option Bool) (dd:Option af) (k0 k1 k2 k3 k5:Option ah) (ob:Obj) (l:K.lookup C=some ob) (eo:ob=gQ nm q C N bs bm hdct sn sub ab col dd k0 k1 k2 k3 k5 "ValueError.__new__") (t:wu K ic bm=true) (o:wo K N=true) (i:bG K N "__init__"=some none):mh K C
theorem mh.of {K:ao}{C:af}{nm q:Str}{N:af}{bs bm:List ah}{hdct:Bool}{sn:List Str}{sub:List ah}{ab:Bool}{col:Option Bool}{dd:Option af}{k0 k1 k2 k3 k5:Option ah}{ob:Obj}(l:K.lookup C=some ob)(eo:ob=gQ nm q C N bs bm hdct sn sub ab col dd k0 k1 k2 k3 k5 "ValueError.__new__")(t:wu K ic bm=true)(o:wo K N=true)(i:bG K N "__init__"=some none):mh K C:=⟨nm,q,N,bs,bm,hdct,sn,sub,ab,col,dd,k0,k1,k2,k3,k5,ob,l,eo,t,o,i⟩
structure wD (X:Cx)(x:Str)(C:af):Prop where
 gl:Gl X x
 mg:X.mg x=some (.ref C)
 ns:bG X.K a_ x=some (some (.ref C))
 ex:mh X.K C
inductive AZ (h:az)(C:af):Prop
 | mk (nm q:Str) (N:af) (bs bm:List ah) (hdct:Bool) (sn:List Str) (sub:List ah) (ab:Bool) (col:Option Bool) (dd:Option af) (k0 k1 k2 k3 k5:Option ah) (mN:Str->Option ah) (hC:h.get? C=some (gQ nm q C N bs bm hdct sn sub ab col dd k0 k1 k2 k3 k5 "ValueError.__new__")) (hN:h.Ns N mN) (hi:mN "__init__"=none) (T:l6 h ic bm):AZ h C
theorem J0 {K:ao}{h:az}{C:af}(Xk:K.In h)(q:mh K C):AZ h C:=by
 obtain⟨nm,q,N,bs,bm,hdct,sn,sub,ab,col,dd,k0,k1,k2,k3,k5,ob,l,rfl,t,o,i⟩:=q
 exact⟨nm,q,N,bs,bm,hdct,sn,sub,ab,col,dd,k0,k1,k2,k3,k5,_,Xk _ _ l,.of_isNs (Br Xk o),PySem.W.nsMap_none_of_in Xk o i,wx Xk t⟩
theorem Om {x:Str}{C:af}{np cpos:Pos}(hc:X.calm=true)(hex:X.ex=[])(c:wD X x C)(hdb:(x==("__debug__":Str))=false:=by decide) :
  PS X (.Raise (some (.Call (.Name x np) [] [] cpos)) none pos) (fun D σ H=>∀ pins s' a,Inv X pins σ H s'->jC X pins H s' a C none->X.xe (.ref a) s'):=by
 intro pins s σ H D I h
 obtain⟨nm,q,N,bs,bm,hdct,sn,sub,ab,col,dd,k0,k1,k2,k3,k5,mN,hC,hN,hni,T⟩:=J0 I.kIn c.ex
 refine wpAny_Raise_call_subU (C:=C) (nm:=nm) (q:=q) (N:=N) (bs:=bs) (bm:=bm) (hdct:=hdct) (sn:=sn) (sub:=sub) (ab:=ab) (col:=col) (dd:=dd) (k0:=k0) (k1:=k1) (k2:=k2) (k3:=k3) (k5:=k5)
  vt (by decide) vt (mN:=mN) (T.hasType F.excBase_ValueError.hasBase) (I.ok.hd hc) rfl hni (lj I c.gl c.mg ⟨rfl,?_⟩ hdb)
 refine evalArgs_empty ⟨rfl,kL _,hC,hN,T,fun h' a hm=>?_⟩
 have I':Inv X pins σ H {s with heap:=h' }:=I.kept (t':=s.toks) hm.keeps
 obtain⟨t,ht,_,_⟩:=hm.there
 obtain⟨n1,n2,n3⟩:=I.none_of hex hm.new
 exact h pins _ a I' ⟨⟨⟨_,_,ht,rfl,rfl,rfl,.inl rfl⟩,n1,n2⟩,n3⟩
theorem uW {x:Str}{C:af}{np cpos:Pos}(hc:X.calm=true)(hex:X.ex=[])(c:wD X x C)(hdb:(x==("__debug__":Str))=false:=by decide) :
  hX X O (.Raise (some (.Call (.Name x np) [] [] cpos)) none pos) (fun ρ=>some (.ex (jj x []) ρ)):=(Om hc hex c hdb).imp fun D σ H ⟨hid,H0,ρ,ow,o,E,hf,k⟩ pins s' a I fl=>by
 cases hf
 exact k pins s' σ H ow a C none I (ay.refl _) E fl ⟨x,[],[],rfl,c.ns,.inl ⟨rfl,rfl⟩,.nil⟩
end
def j2:Option b7->Option RX
 | some (.rt r)=>some (.ret r)
 | some (.nx _)=>some (.ret .none)
 | some (.ex x _)=>some (.exc x)
 | _=>none
def eU (n m:Nat)(B:ag->Option b7)(ds:List ae):Option RX:=if ds.length=n then j2 (B (ds.map some++cO m none)) else none
theorem fP {P:aQ}{w:aM}{K:ao}{mg:Str->Option ah}{base:az}{x qual:Str}{st:aG}{f:af}{fd:aY}{N ps:List Str}{k:Nat}(O:Ow)(F:bh K x qual st f fd)(S:bF N ps (aS st))
  (hO:∀ i∈O.s.map (·.1),ps.length≤i) (B:ag->Option b7)
  (hbody:∀ (cdv:ah),mY K f cdv->∀ (A:bw) (outer:List Env) (s:ar) (H:Hp) (E:XK),bC k (A.deeper (dW qual (aS st) s.heap.objs.size f cdv)) ->
   i3 (dN (de P w) P w K mg base N qual (aS st) f cdv A outer s H E) O (eA st) B) :
  aW P w K mg base (de P w) (k+1) f fd ps (dE K O.r (eU ps.length (N.length - ps.length) B)):=by
 obtain⟨a1,a2,a3,a4,a5,a6,cdv,a7,a8,e,lk,hcd⟩:=F.ex
 subst e
 refine xu lk hcd S (fun vs H Q E h=>?_) (fun A outer s H vs Q E hr h=>?_)
 ·obtain⟨hid,ds,r,_,D,hf,_⟩:=id h
  rw[D.length]
  unfold eU at hf
  split at hf
  ·assumption
  ·cases hf
 ·obtain⟨hid,ds,r,hh,D,hf,q⟩:=id h
  refine⟨_,hbody cdv ⟨_,_,_,_,lk,rfl⟩ A outer s H E hr,?_⟩
  have hdl:=D.length
  unfold eU at hf
  split at hf
  case isFalse=>cases hf
  rename_i hpl
  rw[← hpl] at hf
  have E0:aK K O hid H (start N vs) H (ds.map some++cO (N.length - ds.length) none) []:=Fl D hpl hO hh
  cases hB:B (ds.map some++cO (N.length - ds.length) none) with
  | none=>rw[hB] at hf;cases hf
  | some o=>
   rw[hB] at hf
   refine⟨hid,H,_,[],o,E0,hB,?_⟩
   cases o with
   | rt d=>cases hf;exact fun v as H' s' n Dv=>q v as H' s' n Dv
   | nx ρ'=>cases hf;exact fun σ' H' ow' s' E'=>q .non [] H' E'.baseS (fun p hp=>by cases hp) .non
   | bk ρ'=>cases hf
   | ct ρ'=>cases hf
   | ex x ρ'=>
    cases hf
    exact fun pins s' σ' H' ow' a C od I s2 E' fl hx=>Jw I fl.c (q C od H' E'.baseS (hx.mono (iJ _ _ _)))
end L2
namespace L2
variable [Reg]
abbrev Cx.wp (X:Cx)(pn:List (af×Obj))(W:ah->ar->Prop):Cx:={X with pn:=pn,xe:=W}
abbrev Cx.mark (X:Cx)(pn:List (af×Obj))(a:af):Cx:={X with A:=X.A.mark (some (.ref a)),calm:=false,pn:=pn,xe:=fun _ _=>False}
section
variable {X:Cx}{pins pins':List (af×Obj)}{σ:St}{H:Hp}{s:ar}{W:ah->ar->Prop}{a:af}
theorem Inv.wp (I:Inv X pins σ H s)(W:ah->ar->Prop):Inv (X.wp (X.pn++pins) W) [] σ H s:=
 ⟨⟨I.ok.mod,I.ok.kind,I.ok.glob,I.ok.blt,I.ok.above,I.ok.inj,I.ok.has,I.ok.cab,I.ok.hd,I.ok.frames,I.ok.stk,I.ok.exf,I.ok.bs,I.ok.bsz,I.ok.noex,I.ok.exfs,I.ok.funs,I.ok.frf,I.ok.tabs⟩,I.os,I.bare,I.base,I.loc,I.cell,I.free,I.freeC,fun p hp=>I.pin p (by simpa using hp),I.hok,I.len⟩
theorem Inv.unwp (I:Inv (X.wp (X.pn++pins) W) pins' σ H s):Inv X pins σ H s:=
 ⟨⟨I.ok.mod,I.ok.kind,I.ok.glob,I.ok.blt,I.ok.above,I.ok.inj,I.ok.has,I.ok.cab,I.ok.hd,I.ok.frames,I.ok.stk,I.ok.exf,I.ok.bs,I.ok.bsz,I.ok.noex,I.ok.exfs,I.ok.funs,I.ok.frf,I.ok.tabs⟩,I.os,I.bare,I.base,I.loc,I.cell,I.free,I.freeC,fun p hp=>I.pin p (cy _ hp),I.hok,I.len⟩
theorem Inv.mark (I:Inv X pins σ H s)(a:af):Inv (X.mark (X.pn++pins) a) [] σ H s:=
 ⟨⟨I.ok.mod,I.ok.kind,I.ok.glob,I.ok.blt,I.ok.above,I.ok.inj,I.ok.has,I.ok.cab,(fun z=>nomatch z),I.ok.frames,I.ok.stk,I.ok.exf,I.ok.bs,I.ok.bsz,I.ok.noex,I.ok.exfs,I.ok.funs,I.ok.frf,I.ok.tabs⟩,I.os,I.bare,I.base,I.loc,I.cell,I.free,I.freeC,fun p hp=>I.pin p (by simpa using hp),I.hok,I.len⟩
theorem Inv.unmark (hc:X.calm=true->X.A.handled=none)(I:Inv (X.mark (X.pn++pins) a) pins' σ H s):Inv X pins σ H s:=
 ⟨⟨I.ok.mod,I.ok.kind,I.ok.glob,I.ok.blt,I.ok.above,I.ok.inj,I.ok.has,I.ok.cab,hc,I.ok.frames,I.ok.stk,I.ok.exf,I.ok.bs,I.ok.bsz,I.ok.noex,I.ok.exfs,I.ok.funs,I.ok.frf,I.ok.tabs⟩,I.os,I.bare,I.base,I.loc,I.cell,I.free,I.freeC,fun p hp=>I.pin p (cy _ hp),I.hok,I.len⟩
theorem SP.unwp {D:fw}{f:Flow}{s':ar}(h:SP (X.wp (X.pn++pins) W) pins' D f s'):SP X pins D f s':=by
 cases f with
 | next=>obtain⟨σ',H',I,q⟩:=h;exact⟨σ',H',I.unwp,q⟩
 | brk=>obtain⟨σ',H',I,q⟩:=h;exact⟨σ',H',I.unwp,q⟩
 | cont=>obtain⟨σ',H',I,q⟩:=h;exact⟨σ',H',I.unwp,q⟩
 | ret u=>obtain⟨v,σ',H',I,r,q⟩:=h;exact⟨v,σ',H',I.unwp,r,q⟩
theorem Inv.land {oe:Obj}{vs:Array ah}{h':az}{C:af}{od:Option af}{fl:ah}(I:Inv X pins σ H s)(F:jC X pins H s a C od)(he:s.heap.get? a=some oe)(hd:oe.data=.fields vs)(n:l3 (dQ X.stack) a oe fl s.heap h') :
  Inv X pins σ (upd H a (fz a (oe.mapFields (·.setIfInBounds 1 (.ref s.heap.objs.size))))) {s with heap:=h' }:=by
 have nL:X.env.locals≠a:=fun z=>by
  obtain⟨m,⟨o,es,ep,ho,hd',_⟩,_⟩:=I.loc
  rw[z,he] at ho;cases ho;rw[hd'] at hd;cases hd
 have nC:∀ x c,X.env.cells.lookup x=some c->c≠a:=fun x c e z=>by
  obtain⟨v,o,ho,hd'⟩:=I.cell x c e
  rw[z,he] at ho;cases ho;rw[hd'] at hd;cases hd
 have n0:∀ b o,X.s₀.heap.get? b=some o->b≠a:=fun b o e z=>by rw[z,F.c.new] at e;cases e
 have nH:∀ b u,H b=some u->b≠a:=fun b u e z=>by rw[z,F.c.fre] at e;cases e
 have nfs:∀ b,b≠X.env.locals->b∉X.fs->b∉dQ X.stack:=fun b h1 h2 z=>(List.mem_cons.mp (I.stkSub b z)).elim h1 h2
 have keepT:∀ c v,s.heap.get? c=some v->H c≠none->h'.get? c=some v:=fun c v q1 q2=>n.keep c v (fun z=>q2 (by rw[z];exact F.c.fre)) (fun z=>q2 (I.stkFree c z)) q1
 have cellK:∀ x c,X.env.cells.lookup x=some c->∀ v,s.heap.IsCell c v->h'.IsCell c v:=fun x c e v zpat=>by
  obtain⟨o,ho,hd⟩:=zpat
  obtain⟨sl,q⟩:=n.slot c o (nC x c e) ho
  exact⟨_,q,hd⟩
 refine⟨I.ok,I.os,I.bare,⟨fun b o e nn hb hx=>?_,fun b o e nn hb hx=>?_,fun b o e nn hx=>?_,fun b o e hx=>?_,fun b xs e=>?_,fun b o xs e=>?_,fun b ps e=>?_,fun b e=>?_⟩,?_,fun x c e=>?_,?_,fun x c e=>?_,fun p hp=>?_,fun b u e=>?_,I.len⟩
 ·have neL:b≠X.env.locals:=cJ (dI (bA e) I.ok.above)
  exact n.keep b o (n0 b o e) (nfs b neL hb) (I.base.keep b o e nn hb hx)
 ·obtain⟨sl,e1⟩:=I.base.slot b o e nn hb hx
  obtain⟨sl',e2⟩:=n.slot b _ (n0 b o e) e1
  exact⟨sl',e2⟩
 ·rw[ba (n0 b o e)];exact I.base.free b o e nn hx
 ·obtain⟨o',e1⟩:=I.base.there b o e hx
  obtain⟨sl',e2⟩:=n.slot b _ (n0 b o e) e1
  exact⟨_,e2⟩
 ·have q:=I.base.tups b xs e;rw[ba (nH b _ q)];exact q
 ·have q:=I.base.frzs b o xs e;rw[ba (nH b _ q)];exact q
 ·obtain⟨more,q⟩:=I.base.tbls b ps e
  exact⟨more,by rw[ba (nH b _ q)];exact q⟩
 ·have q:=I.base.tabs b e;rw[ba (nH b _ q)];exact q
 ·obtain⟨m,hn,hl⟩:=I.loc
  obtain⟨o,es,ep,ho,r⟩:=id hn
  obtain⟨sl,q⟩:=n.slot _ o nL ho
  refine⟨m,⟨_,es,ep,q,r⟩,fun i x v e1 e2 e3=>?_⟩
  obtain⟨u,ru,l⟩:=hl i x v e1 e2 e3
  refine⟨u,ru,?_⟩
  rcases l with l | ⟨k,c,e,z⟩
  ·exact .inl l
  ·exact .inr ⟨k,c,e,cellK x c e _ z⟩
 ·obtain⟨v,z⟩:=I.cell x c e
  exact⟨v,cellK x c e v z⟩
 ·rw[ba nL];exact I.free
 ·rw[ba (nC x c e)];exact I.freeC x c e
 ·obtain⟨e,nn,ne,nf,d⟩:=I.pin p hp
  have npa:=F.pin p hp
  exact⟨n.keep p.1 p.2 npa (nfs p.1 ne nf) e,by rw[ba npa];exact nn,ne,nf,d⟩
 ·by_cases hb:b=a
  ·subst hb
   rw[cD] at e;cases e
   exact Kk n.exc
  ·rw[ba hb] at e
   refine (I.hok b u e).stay (fun c v hc q1=>keepT c v q1 ?_) (fun c q=>?_) (fun c xs q=>?_) fun c o u vs hdv q=>?_
   ·rcases hc with rfl | hc
    ·rw[e];simp
    ·rw[hc];simp
   ·rw[ba (nH c _ q)];exact q
   ·rw[ba (nH c _ q)];exact q
   ·rw[ba (nH c _ q)];exact q
theorem Inv.gone {i:Nat}{n:Str}{h':az}{v:Option ah}{m:Str->Option ah}{t:Nat}(I:Inv X pins σ H s)(hN:X.N.Nodup)(hi:X.N[i]?=some n)(hk:X.env.kindOf n=some .local)
  (hm:s.heap.Ns X.env.locals m) (hl:∀ (j:Nat) (x:Str) (w:V),X.N[j]?=some x->σ[j]?=some (some w)->nR X.env.scope x->∃ u,RelV w u∧Look X.env s.heap m x u)
  (hn:h'.Ns X.env.locals (fun x=>if x=n then v else m x)) (hs:lU X.env.locals s.heap h'):Inv X pins (σ.set i none) H {s with heap:=h',toks:=t}:=by
 obtain⟨oL,_,_,hoL,_⟩:=id hm
 have kp:∀ b o,b≠X.env.locals->s.heap.get? b=some o->h'.get? b=some o:=fun b o hb q=>(hs.2 b hb).trans q
 refine⟨I.ok,I.os,I.bare,⟨fun b o e nn hb hx=>?_,fun b o e nn hb hx=>?_,I.base.free,fun b o e hx=>?_,I.base.tups,I.base.frzs,I.base.tbls,I.base.tabs⟩,⟨_,hn,fun j y w e1 e2 e3=>?_⟩,fun x c e=>?_,I.free,I.freeC,fun p hp=>?_,fun b u e=>?_,by simpa using I.len⟩
 ·exact kp b o (cJ (dI (bA e) I.ok.above)) (I.base.keep b o e nn hb hx)
 ·obtain⟨sl,e1⟩:=I.base.slot b o e nn hb hx
  exact⟨sl,kp b _ (cJ (dI (bA e) I.ok.above)) e1⟩
 ·obtain⟨o',e1⟩:=I.base.there b o e hx
  exact⟨o',kp b _ (cJ (dI (bA e) I.ok.above)) e1⟩
 ·have hji:j≠i:=fun z=>by
   subst z
   have hlt:j<σ.length:=by have:=(List.getElem?_eq_some_iff.mp e2).1;simpa using this
   rw[iC hlt] at e2
   cases e2
  rw[eh (cn hji)] at e2
  obtain⟨u,r,q⟩:=hl j y w e1 e2 e3
  refine⟨u,r,?_⟩
  have hne:y≠n:=fun e=>hji (xZ hN e1 (e▸hi))
  rcases q with ⟨k,e⟩ | ⟨k,c,e,z⟩
  ·exact .inl ⟨k,by simp[hne,e]⟩
  ·exact .inr ⟨k,c,e,z.sameBut hs (I.cne y c e)⟩
 ·obtain⟨w',z⟩:=I.cell x c e
  exact⟨w',z.sameBut hs (I.cne x c e)⟩
 ·obtain⟨e,nn,ne,nf,d⟩:=I.pin p hp
  exact⟨kp p.1 p.2 ne e,nn,ne,nf,d⟩
 ·have nbl:∀ c u,H c=some u->c≠X.env.locals:=fun c u q z=>by rw[z,I.free] at q;cases q
  refine (I.hok b u e).stay (fun c v hc q1=>kp c v ?_ q1) (fun _ q=>q) fun _ _ q=>q
  rcases hc with rfl | hc
  ·exact nbl _ _ e
  ·exact nbl _ _ hc
end
theorem aK.unset {K:ao}{O:Ow}{hid:af->Prop}{H0 H:Hp}{σ:St}{ρ:ag}{ow:List af}(e:aK K O hid H0 σ H ρ ow)(i:Nat):aK K O hid H0 (σ.set i none) H (ρ.set i none) ow:=by
 have two:∀ {j:Nat} {d:ae},(ρ.set i none)[j]?=some (some d)->j≠i∧ρ[j]?=some (some d):=fun {j d} q=>by
  by_cases hj:j=i
  ·subst hj
   have hl:j<ρ.length:=by have:=(List.getElem?_eq_some_iff.mp q).1;simpa using this
   rw[iC hl] at q
   cases q
  ·rw[eh (cn hj)] at q
   exact⟨hj,q⟩
 refine⟨by simpa using e.len,e.base,fun j x hj q=>?_,?_,e.isl,e.ishL,e.emp⟩
 ·obtain⟨hne,z⟩:=two q
  obtain⟨w,a,b⟩:=e.val j x hj z
  exact⟨w,by rw[eh (cn hne)];exact a,b⟩
 ·obtain⟨A,a1,a2,a3⟩:=e.own
  refine⟨A,fun j t x hj q=>?_,a2,a3⟩
  obtain⟨hne,z⟩:=two q
  obtain⟨w,a,b⟩:=a1 j t x hj z
  exact⟨w,by rw[eh (cn hne)];exact a,b⟩
def aA.unset (i:Nat):aA->aA
 | .nx ρ=>.nx (ρ.set i none)
 | .bk ρ=>.bk (ρ.set i none)
 | .ct ρ=>.ct (ρ.set i none)
 | .rt d=>.rt d
def w4:ae->Str
 | .dict [(.bool true,.str c),_]=>c
 | _=>""
def qS (ie:Nat)(caught:List Str)(Hd:ag->Option aA)(o:Option b7):Option aA:=o.bind fun o=>match o with
 | .nx ρ=>some (.nx ρ)
 | .rt d=>some (.rt d)
 | .bk ρ=>some (.bk ρ)
 | .ct ρ=>some (.ct ρ)
 | .ex x ρ=>if caught.contains (w4 x)=true then (Hd (ρ.set ie (some x))).map (aA.unset ie) else none
section
variable {X:Cx}{O:Ow}{body suite:List aG}{b₀:aG}{n tn:Str}{ie:Nat}{np hpos pos:Pos}{F:ag->Option b7}{Hd:ag->Option aA}{PC:af}{caught:List Str}
theorem Pg (hc:X.calm=true)(hex:X.ex=[])(hst:X.stack=X.env::X.outer)(hfr:X.env.frame=some X.env.locals)(hN:X.N.Nodup)(hi:X.N[ie]?=some n)(hk:X.env.kindOf n=some .local)(hfn:X.fn n=true∨X.env.scope.names.lookup n=some .local)(hO:O.s.lookup ie=none)
  (hg:Gl X tn) (hm:X.mg tn=some (.ref PC)) (hcl:∀ cls∈caught,∀ C,bG X.K a_ cls=some (some (.ref C))->Bo X.K (.ref C) (.ref PC)=some true)
  (hb:∀ pn W,i3 (X.wp pn W) O body F) (hh:∀ pn a,fL (X.mark pn a) O (b₀::suite) Hd) (hdb:(tn==("__debug__":Str))=false:=by decide) :
  cR X O (.Try body [.ExceptHandler (some (.Name tn np)) (some n) (b₀::suite) hpos] [] [] pos) (fun ρ=>qS ie caught Hd (F ρ)):=by
 intro pins s σ H D I h
 obtain⟨hid,H0,ρ,ow,out,E,hf,k⟩:=h
 obtain⟨o,g1,g2⟩:=bind_some hf
 have hcls:(X.env.scope.kind==.class||(X.env.scope.kind==.module&&X.env.locals != X.env.globals))=false:=by rw[I.ok.kind];rfl
 refine wpAny_Try_except ?_
 have key:∀ f s',SP X pins D f s'->(match f with | .next=>aI (aF X.prog X.w) X.A (execs [] X.env) (SP X pins D) X.xe s' | f=>SP X pins D f s'):=fun f s' q=>by
  cases f with
  | next=>exact qX q
  | _=>exact q
 refine cT (hb (X.pn++pins) _ [] s σ H D (I.wp _) ⟨hid,H0,ρ,ow,o,E,g1,?_⟩) (fun f s' q=>key f s' q.unwp) fun _ _ z=>z
 cases o with
 | nx ρ1=>cases g2;exact k
 | rt d=>cases g2;exact k
 | bk ρ1=>cases g2;exact k
 | ct ρ1=>cases g2;exact k
 | ex x ρ1=>
  simp only at g2
  split at g2
  case isFalse=>cases g2
  rename_i hca
  obtain⟨oh,g3,rfl⟩:=map_some g2
  intro pins' s1 σ1 H1 ow1 a C od I1w sm E1 fl hx
  have I1:Inv X pins σ1 H1 s1:=I1w.unwp
  have fl1:jC X pins H1 s1 a C od:=⟨fl.c,fun p hp=>fl.pin p (cy _ hp)⟩
  obtain⟨oe,vs,he,hcl',hdi,hd,tr⟩:=fl1.c.ex
  revert hx
  refine fun zqq=>?_;obtain⟨cls,fv,fd,zq3,hns,hfv,hDf⟩:=zqq
  subst zq3
  have hst1:=I1.stack
  rw[hst] at hst1
  have hfrm:=I1.ok.frames
  rw[hst] at hfrm
  refine DQ (L:=X.env.locals) hfrm hst1 hfr he hd tr fun h1 n1=>?_
  have hfs:∀ b∈(X.env::X.outer).filterMap (·.frame),b<s1.heap.objs.size:=fun b hb=>by
   obtain⟨_,o,ho,_⟩:=hst1.mem hb
   exact bA ho
  refine Ct (bA he) hd tr.sz n1 hfs fun h2 n2=>?_
  have n2':l3 (dQ X.stack) a oe .none s1.heap h2:=by rw[hst];exact n2
  have I2:=I1.land fl1 he hd n2'
  have hfresh:H1 a=none:=fl1.c.fre
  have E2:=E1.mono (cb (o:=fz a (oe.mapFields (·.setIfInBounds 1 (.ref s1.heap.objs.size)))) hfresh)
  have Im:=I2.mark a
  -- the class
  have hmem:cls∈caught:=by
   have:caught.contains cls=true:=hca
   exact List.contains_iff_mem.mp this
  have hxm:=hcl cls hmem C hns
  have hty:r_ (aF X.prog X.w) h2 (typeOf (.ref a)) (.ref C):=by
   have hc2:(oe.mapFields (·.setIfInBounds 1 (.ref s1.heap.objs.size))).cls=.ref C:=by rw[vZ];exact hcl'
   exact hc2▸(PySem.W.Looks.ld n2.exc).andThen .now
  have hmat:=PySem.W.exm_one I2.kIn hty hxm
  refine wpAny_handleBy_cons (codeAny_handlers_test (lj (pos:=np) Im hg hm ?_ hdb)) (by intro q;cases q)
  refine hmat.at ?_
  show gm _ _ (.handlers (.ref a) [.ExceptHandler none (some n) (b₀::suite) hpos] X.env) _ _
  refine codeAny_handlers_suite_as ?_
  obtain⟨oT,ts,t2,t3,t4⟩:=n2.tb
  refine Sy n2.exc (jI hd _) (by simp[tr.sz]) t2 t3 (Array.getElem?_eq_some_iff.mp t4).1 ?_
  rw[show ({s1 with heap:=h2}:ar).heap.update s1.heap.objs.size (pB (·.setIfInBounds 3 Value.none))=h2 from G_ h2 _ oT ts 3 .none t2 t3 t4]
  refine zC (X:=X.mark (X.pn++pins) a) Im hN hi (.inl hk) (v:=.ref a) rfl (fun s3 I3=>?_) hfn
  have Dx:aJ X.K (av (upd H1 a (fz a (oe.mapFields (·.setIfInBounds 1 (.ref s1.heap.objs.size))))) (uni hid ow1)) (.ref a) (jj cls (og fv++fd)):=by
   refine .exc ⟨_,C,_,E1.newAt hfresh,by rw[vZ];exact hcl',jI hd _,hns,?_⟩ (hDf.mono (aZ (cb hfresh) _))
   rcases hfv with ⟨hfv,h5⟩ | ⟨dx,h5,h6⟩
   ·exact .inl ⟨hfv,by rw[Obj.dict_mapFields,hdi];exact h5⟩
   ·exact .inr ⟨dx,by rw[Obj.dict_mapFields,hdi];exact h5,aZ (cb hfresh) _ _ _ h6⟩
  have Es:=E2.set hO Dx
  let D':fw:={nx:=fun σ' H'=>D.nx (σ'.set ie none) H',rt:=D.rt,bk:=fun σ' H'=>D.bk (σ'.set ie none) H',ct:=fun σ' H'=>D.ct (σ'.set ie none) H' }
  have sm2:ay (av H (uni hid ow)) (av (upd H1 a (fz a (oe.mapFields (·.setIfInBounds 1 (.ref s1.heap.objs.size))))) (uni hid ow1)):=sm.trans (aZ (cb hfresh) _)
  refine cT (hh (X.pn++pins) a [] s3 _ _ D' I3 ⟨hid,H0,_,ow1,oh,Es,g3,?_⟩) (fun f s4 q=>?_) fun _ _ z=>cV z
  ·cases oh with
   | nx ρ'=>exact fun σ' H' ow' s' E'=>k _ H' ow' (sm2.trans s') (E'.unset ie)
   | bk ρ'=>exact fun σ' H' ow' s' E'=>k _ H' ow' (sm2.trans s') (E'.unset ie)
   | ct ρ'=>exact fun σ' H' ow' s' E'=>k _ H' ow' (sm2.trans s') (E'.unset ie)
   | rt d=>exact k
  ·have fin:∀ {σ4:St} {H4:Hp},Inv (X.mark (X.pn++pins) a) [] σ4 H4 s4->∀ (P:ar->Prop),(∀ s5,Inv X pins (σ4.set ie none) H4 s5->P s5)->aI (aF X.prog X.w) X.A (do bindName X.env n .none;R5 X.env n hpos) (fun _ s5=>P s5) X.xe s4:=fun {σ4 H4} I4 P hP=>by
    have I5:Inv X pins σ4 H4 s4:=Inv.unmark I.ok.hd I4
    obtain⟨m,hm4,hl4⟩:=I5.loc
    exact wpAny_nameGoes_keeps hk hm4 hcls fun h' v hn hs=>hP _ (I5.gone hN hi hk hm4 hl4 hn hs)
   show aI (aF X.prog X.w) X.A (do bindName X.env n .none;R5 X.env n hpos) (fun _ s5=>SP X pins D f s5) X.xe s4
   cases f with
   | next=>obtain⟨σ4,H4,I4,q4⟩:=q;exact fin I4 _ fun s5 I5=>⟨_,H4,I5,q4⟩
   | brk=>obtain⟨σ4,H4,I4,q4⟩:=q;exact fin I4 _ fun s5 I5=>⟨_,H4,I5,q4⟩
   | cont=>obtain⟨σ4,H4,I4,q4⟩:=q;exact fin I4 _ fun s5 I5=>⟨_,H4,I5,q4⟩
   | ret u=>obtain⟨v4,σ4,H4,I4,r4,q4⟩:=q;exact fin I4 _ fun s5 I5=>⟨v4,_,H4,I5,r4,q4⟩
end
end L2
namespace L2
variable [Reg]
structure jM (K:ao)(mg:Str->Option ah)(x:Str)(C:af):Prop where
 mg:mg x=some (.ref C)
 ns:bG K a_ x=some (some (.ref C))
 ex:mh K C
theorem jM.at {X:Cx}{x:Str}{C:af}(c:jM X.K X.mg x C)(hg:Gl X x):wD X x C:=⟨hg,c.mg,c.ns,c.ex⟩
def AR (K:ao)(exs:List Str)(D:af):Prop:=∀ cls∈exs,∀ C,bG K a_ cls=some (some (.ref C))->Bo K (.ref C) (.ref D)=some true
def k6 (K:ao)(C:af):Bool:=
 cK K (.ref C) "__getattribute__"==some (some (.builtin "BaseException.__getattribute__"))&&cK K (.ref C) "__getattr__"==some none&&pK K C (.type "BaseException")==some true &&
 cK K (.ref C) "__class__"==some (some (.builtin "object.__class__"))&&nN K (.builtin "object.__class__") "__get__"==some (some (.builtin "getset_descriptor.__get__"))&&By K (.builtin "object.__class__")==some true&&pK K C (.type "object")==some true&&l8 K C
structure lL (K:ao)(C:af):Prop where
 ga:cK K (.ref C) "__getattribute__"=some (some (.builtin "BaseException.__getattribute__"))
 gn:cK K (.ref C) "__getattr__"=some none
 be:pK K C (.type "BaseException")=some true
 cl:cK K (.ref C) "__class__"=some (some (.builtin "object.__class__"))
 sp:nN K (.builtin "object.__class__") "__get__"=some (some (.builtin "getset_descriptor.__get__"))
 tk:By K (.builtin "object.__class__")=some true
 ob:pK K C (.type "object")=some true
 hd:l8 K C=true
theorem CD {K:ao}{C:af}(h:k6 K C=true):lL K C:=by
 unfold k6 at h
 simp only[cq,beq_iff_eq] at h
 obtain⟨⟨⟨⟨⟨⟨⟨h1,h2⟩,h3⟩,h4⟩,h5⟩,h6⟩,h7⟩,h8⟩:=h
 exact⟨h1,h2,h3,h4,h5,h6,h7,h8⟩
section
variable {prog:aQ}{w:aM}{A:bw}{E:ah->ar->Prop}{s:ar}{K:ao}{x D:af}{ox:Obj}{od:Option Obj}{name:Str}{R:nO->ar->Prop}{Q:ah->ar->Prop}
theorem JZ {tk:Tok}{v:ah}{P:Fin->ar->Prop}(X:K.In s.heap)(I:jK s.heap x ox D od)(hf:wg K D od name=some (.value v))(h:P (.done (.ret v)) s) :
  aI (aF prog w) A (kq.«object.__getattribute__» ⟨[.ref x,.str name tk],[]⟩) P E s:=by
 obtain⟨hh,g,d,t,os⟩:=s
 have L0:=I.type (M:=aF prog w)
 have L1:=HI (M:=aF prog w) X I hf
 unfold kq.«object.__getattribute__»
 refine aU (bU ?_)
 refine aU (bU ?_)
 refine aU (L0.at (aU (L1.at ?_)))
 exact bU h
theorem JY {tk:Tok}{P:Fin->ar->Prop}(X:K.In s.heap)(I:jK s.heap x ox D od)(k:lL K D)(h:P (.done (.ret (.ref D))) s) :
  aI (aF prog w) A (kq.«object.__getattribute__» ⟨[.ref x,.str "__class__" tk],[]⟩) P E s:=by
 have hf:wg K D od "__class__"=some (.bind (.builtin "getset_descriptor.__get__") (.builtin "object.__class__")):=by
  obtain⟨cd,hc,_⟩:=sd k.hd
  unfold wg
  rw[hc,bW,k.cl,bW]
  dsimp only
  rw[k.sp,bW]
  dsimp only
  rw[k.tk,bW]
 obtain⟨hh,g,d,t,os⟩:=s
 have L0:=I.type (M:=aF prog w)
 have L1:=HI (M:=aF prog w) X I hf
 unfold kq.«object.__getattribute__»
 refine aU (bU ?_)
 refine aU (bU ?_)
 refine aU (L0.at (aU (L1.at ?_)))
 show aI _ _ (Gb _ _ _ _) _ _ _
 unfold Gb
 refine aU (mW (PySem.W.class_get (s:=⟨hh,g,d,t,os⟩) X I k.ob ?_))
 exact bU h
theorem JX {nameV:ah}{P:Unit->ar->Prop}(X:K.In s.heap)(I:jK s.heap x ox D od)(k:lL K D)(h:P () s) :
  aI (aF prog w) A (checkBuiltinCall "BaseException.__getattribute__" ⟨[.ref x,nameV],[]⟩) P E s:=by
 have hk:builtinKind "BaseException.__getattribute__"=some .slot:=by decide +kernel
 have hsplit:splitId "BaseException.__getattribute__"=some ("BaseException","__getattribute__"):=by decide +kernel
 have ha:=F.args_bexc_ga (.ref x) nameV
 have LI:r_ (aF prog w) s.heap (C5 (.ref x) (.type "BaseException")) true:=(I.type (M:=aF prog w)).andThen (HJ X k.be)
 obtain⟨hh,g,d,t,os⟩:=s
 simp only[checkBuiltinCall,hk,hsplit]
 refine aU (LI.at ?_)
 repeat (any_goals (first | assumption | wp_step))
theorem JW {tk:Tok}{v:ah}(X:K.In s.heap)(I:jK s.heap x ox D od)(k:lL K D)
  (hent:∀ {A':bw} {E':ah->ar->Prop} {P:Fin->ar->Prop},P (.done (.ret v)) s->aI (aF prog w) A' (kq.«object.__getattribute__» ⟨[.ref x,.str name tk],[]⟩) P E' s) (h:R (.ok (.ret v)) s) :
  gm (aF prog w) A (.call (.builtin "BaseException.__getattribute__") ⟨[.ref x,.str name tk],[]⟩) R s:=by
 refine Cf F.attr_ValueError.ga.plain F.entry_bexc_ga (JX X I k ?_)
 refine hent ?_
 exact h
theorem CF {tk:Tok}{v:ah}{fill expr:Bool}(X:K.In s.heap)(I:jK s.heap x ox D od)(k:lL K D)(hv:Bq v=true)
  (hent:∀ {A':bw} {E':ah->ar->Prop} {P:Fin->ar->Prop},P (.done (.ret v)) s->aI (aF prog w) A' (kq.«object.__getattribute__» ⟨[.ref x,.str name tk],[]⟩) P E' s) (h:Q v s) :
  aI (aF prog w) A (getAttrBy (.ref x) (.str name tk) fill expr) Q E s:=by
 have FB:=F.attr_ValueError
 have f3:=FB.ga.bind (.ref x)
 have L0:=I.type (M:=aF prog w)
 have L1:=wk (M:=aF prog w) X k.ga
 have L2:=wk (M:=aF prog w) X k.gn
 unfold getAttrBy
 refine oH (aU (L0.at (aU (L1.at ?_))))
 show aI _ _ (getAttrByItsOwn _ _ _ _ _ _) _ _ _
 unfold getAttrByItsOwn
 refine aU (L2.at ?_)
 refine aU (wpAny_attempt (oH ?_))
 have hx0:(expr&&onTheHeap (Value.builtin "BaseException.__getattribute__"))=false:=by cases expr <;> rfl
 unfold callGetattribute
 rw[hx0,if_neg dH]
 unfold boundAndCalled
 rw[f3]
 refine aU (bU ?_)
 refine mW (JW X I k hent ?_)
 show aI _ _ (handedOut v) _ _ _
 rw[PySem.W.handedOut_of hv]
 exact bU h
theorem Lv (k:lL K D):PySem.W.KitX K (.ref x) (.ref D) (fun h=>jK h x ox D od) where
 ty:=fun _ _ _ I=>I.type
 it:=fun _ _ X _=>by
  obtain⟨cdD,hcD,_⟩:=sd k.hd
  unfold Bm at hcD
  split at hcD
  ·rename_i c' d' cd' sl' ho
   intro A' Q' E' s' k q
   unfold isType loadHead
   exact aU (FY (k _ _ (X _ _ ho)) (bU q))
  ·exact L2.bp hcD
 ne:=fun h tp dd its n sl X htp=>by
  obtain⟨cdD,hcD,_⟩:=sd k.hd
  refine Bool.eq_false_iff.mpr fun q=>?_
  have e:D=tp:=Value.ref.inj (beq_iff_eq.mp q)
  subst e
  unfold Bm at hcD
  split at hcD
  ·rename_i c' d' cd' sl' ho
   have z:=(X _ _ ho).symm.trans htp
   cases z
  ·exact L2.bp hcD
 ca:=fun {prog w A E Q s} X I h=>by
  unfold getAttr? getAttrBy?
  refine aU (wpAny_mkText (aU (wpAny_attempt (CF (s:={s with toks:=s.toks+1}) X I k rfl (fun {A' E' P} hp=>JY (s:={s with toks:=s.toks+1}) X I k hp) ?_))))
  exact bU h
end
def oz (cls T:Str):Bool:=cls==T||T=="PostError"||T=="ValueError"
def QH:ae->Option Str
 | .str c=>some c
 | _=>none
def isTrue:ae->Bool
 | .bool b=>b
 | _=>false
def JV:List (ae×ae)->Option Str
 | [p,_]=>if isTrue p.1=true then QH p.2 else none
 | _=>none
def K3 (exs:List Str)(T:Str):ae->Option Bool
 | .none=>some false
 | .dict l=>(JV l).bind fun c=>if exs.contains c=true then some (oz c T) else none
 | _=>none
def eP (exs:List Str)(T:Str)(d:ae):Option ae:=(K3 exs T d).map .bool
structure IsT (K:ao)(mg:Str->Option ah)(exs:List Str)(T:Str)(D:af):Prop where
 mg:mg T=some (.ref D)
 ex:∀ cls∈exs,∀ C,bG K a_ cls=some (some (.ref C))->k6 K C=true∧i7 K (.ref C) (.ref D)=some (oz cls T)
 no:i7 K (.type "NoneType") (.ref D)=some false
structure rM (K:ao)(exs:List Str):Prop where
 ex:∀ cls∈exs,∀ C,bG K a_ cls=some (some (.ref C))->k6 K C=true∧i7 K (.ref C) (.type "ValueError")=some true
 no:i7 K (.type "NoneType") (.type "ValueError")=some false
def Ep (K:ao)(exs:List Str)(T:Str)(c:V):List V->Hp->VK->Prop:=fun xs H Q=>∃ x d r,xs=[x,c]∧aJ K H x d∧eP exs T d=some (.bool r)∧Q (.bl r) H
theorem KU {X:Cx}{pins:List (af×Obj)}{σ:St}{H:Hp}{s:ar}{e:af}{cls:Str}{fv:List (Str×V)}(I:Inv X pins σ H s)(h:lM X.K H e cls fv) :
  ∃ C ox od,jK s.heap e ox C od∧bG X.K a_ cls=some (some (.ref C)):=by
 obtain⟨oe,C,vs,h1,h2,h3,h4,h5⟩:=id h
 obtain⟨q,_⟩:=(show cP X.prog X.w H s.heap e (.frz oe _) from I.hok e _ h1)
 have hn:se oe=true:=by unfold se;rw[h3]
 rcases h5 with ⟨_,h5⟩ | ⟨dx,h5,h6⟩
 ·exact ⟨C,oe,none,(⟨q,h2,hn,by rw[h5];trivial⟩),h4⟩
 ·obtain⟨o,ho⟩:=(I.hok dx _ h6).there
  exact ⟨C,oe,some o,(⟨q,h2,hn,by rw[h5];exact ho⟩),h4⟩
theorem B5 {X:Cx}{exs:List Str}{T:Str}{c:V}{cv:ah}(rc:RelV c cv)(rc1:∀ u,RelV c u->u=cv)
  (hx:∀ cls∈exs,∀ C,bG X.K a_ cls=some (some (.ref C))->k6 X.K C=true∧i7 X.K (.ref C) cv=some (oz cls T)) (hno:i7 X.K (.type "NoneType") cv=some false) :
  eY X (.builtin "isinstance") (Ep X.K exs T c):=by
 intro pins s σ H xs us Q I r h
 revert h
 refine fun zqq=>?_;obtain⟨x,d,r1,zq3,D,hd,q⟩:=zqq
 subst zq3
 obtain⟨u,c',zq2,rx,rc'⟩:=r.two
 subst zq2
 cases rc1 c' rc'
 cases D with
 | non=>
  cases hd
  cases (show u=Value.none from rx)
  exact l_ HH I.kIn True.intro hno (fun z=>nomatch z) fun tk=>⟨.bl _,H,I.tok tk,rfl,q⟩
 | @exc e cls fv fd hv hr=>
  have hd:(if exs.contains cls=true then some (oz cls T) else none).map PyData.bool=some (.bool r1):=hd
  by_cases hm:exs.contains cls=true
  case neg=>rw[if_neg hm] at hd;exact L2.bp hd
  rw[if_pos hm] at hd
  cases hd
  cases (show u=Value.ref e from rx)
  obtain⟨C,ox,od,ia,hn⟩:=KU I hv
  obtain⟨k1,k2⟩:=hx cls (List.contains_iff_mem.mp hm) C hn
  exact l_ (Lv (CD k1)) I.kIn ia k2 (fun z=>nomatch z) fun tk=>⟨.bl _,H,I.tok tk,rfl,q⟩
 | _=>exact L2.bp hd
section
variable {X:Cx}{O:Ow}{e:Expr}{f:ag->Option ae}{p p2 pos:Pos}{exs:List Str}{T:Str}{D:af}
theorem K4 {d r:ae}(h:eP exs T d=some r):∃ b,r=.bool b:=by
 obtain⟨b,_,rfl⟩:=map_some h
 exact⟨b,rfl⟩
theorem C_ {c:V}(hc:True):∀ σ H Q,tV X.K O (fun ρ=>(f ρ).bind (eP exs T)) σ H Q->zH (Ep X.K exs T c) (uF (tR X.K O f) (uF (tC c) uG)) σ H Q:=fun σ H Q zpat=>by
 obtain⟨hid,H0,ρ,ow,r,E,hf,k⟩:=zpat
 obtain⟨d,g1,g2⟩:=bind_some hf
 obtain⟨b,zq1⟩:=K4 g2
 subst zq1
 exact⟨hid,H0,ρ,ow,d,E,g1,fun v H' s D=>⟨v,d,b,rfl,D.mono (bH _ _),g2,k _ H' s (.bl _)⟩⟩
theorem gZ (I:IsT X.K X.mg exs T D)(he:PR X O e f)(hg:Gl X "isinstance")(hm:X.mg "isinstance"=none)(hgT:Gl X T)(hd:(T==("__debug__":Str))=false:=by decide)
  (h1:ax [e,.Name T p2] X.env=(false,aB e X.env)::ax [.Name T p2] X.env:=by rfl) (h2:ax [.Name T p2] X.env=(false,aB (.Name T p2) X.env)::ax [] X.env:=by rfl)
  (hpl:(a0 pos (ax [.Name T p2] X.env)).any (·.1)=false:=by rfl):PV X O (.Call (.Name "isinstance" p) [e,.Name T p2] [] pos) (fun ρ=>(f ρ).bind (eP exs T)):=
 (lq (B5 (c:=.ref D) (cv:=.ref D) rfl (fun u r=>r) I.ex I.no) hg hm Bh (pa_cons he (pa_cons (tW (v:=.ref D) hgT I.mg rfl hd) pa_nil h2) h1) (by decide) (by decide) h1 hpl).imp (C_ trivial)
theorem IB:dJ "ValueError"=some (.type "ValueError"):=by decide +kernel
theorem Sb (I:rM X.K exs)(he:PR X O e f)(hg:Gl X "isinstance")(hm:X.mg "isinstance"=none)(hgT:Gl X "ValueError")(hmT:X.mg "ValueError"=none)(hvT:dJ "ValueError"=some (.type "ValueError"))
  (h1:ax [e,.Name "ValueError" p2] X.env=(false,aB e X.env)::ax [.Name "ValueError" p2] X.env:=by rfl) (h2:ax [.Name "ValueError" p2] X.env=(false,aB (.Name "ValueError" p2) X.env)::ax [] X.env:=by rfl)
  (hpl:(a0 pos (ax [.Name "ValueError" p2] X.env)).any (·.1)=false:=by rfl):PV X O (.Call (.Name "isinstance" p) [e,.Name "ValueError" p2] [] pos) (fun ρ=>(f ρ).bind (eP exs "ValueError")):=
 (lq (B5 (T:="ValueError") (c:=.ty "ValueError") (cv:=.type "ValueError") rfl (fun u r=>r) (fun cls h C hC=>⟨(I.ex cls h C hC).1,by rw[(I.ex cls h C hC).2];simp[oz]⟩) I.no) hg hm Bh (pa_cons he (pa_cons (D8 (v:=.ty "ValueError") hgT hmT hvT rfl (by decide) (by decide)) pa_nil h2) h1) (by decide) (by decide) h1 hpl).imp (C_ trivial)
end
end L2
namespace L2
variable [Reg]
def iM:ae->Bool
 | .none=>true
 | .bool _=>true
 | .int _=>true
 | .str _=>true
 | _=>false
def mz:ae->ae->Bool
 | .none,.none=>true
 | .bool a,.bool b=>a==b
 | .bool a,.int b=>(if a then 1 else 0)==b
 | .int a,.bool b=>a==(if b then 1 else 0)
 | .int a,.int b=>a==b
 | .str a,.str b=>a==b
 | _,_=>false
theorem pZ {K:ao}{H:Hp}{v:V}{d:ae}(h:aJ K H v d)(f:iM d=true):fO v=true∧Sc v d:=by
 cases h with
 | non=>exact⟨rfl,.non⟩
 | bl b=>exact⟨rfl,.bl b⟩
 | int i=>exact⟨rfl,.int i⟩
 | str x=>exact⟨rfl,.str x⟩
 | _=>exact L2.fj f
theorem JR {v w:V}{d e:ae}(h:Sc v d)(k:Sc w e):gq v w=mz d e:=by
 cases h <;> cases k <;> rfl
theorem sR {K:ao}{H:Hp}{w:V}{e:ae}(k:Sc w e):∀ {vs:List V} {ds:List ae},aD K H vs ds->ds.all iM=true->vs.all fO=true∧vs.map (fun v=>gq v w)=ds.map (fun d=>mz d e):=by
 intro vs ds h
 refine h.ind (M:=fun vs ds=>ds.all iM=true->vs.all fO=true∧vs.map (fun v=>gq v w)=ds.map (fun d=>mz d e)) (fun _=>⟨rfl,rfl⟩) ?_
 ·intro v d vs ds h _ ih f
  rw[kG,cq] at f
  obtain⟨a1,a2⟩:=pZ h f.1
  obtain⟨b1,b2⟩:=ih f.2
  exact⟨by rw[kG,a1,b1];rfl,by rw[bV,bV,b2,JR a2 k]⟩
theorem DB {x:V}{xs:List V}{us:List ah}(h:aV xs us):xs.all fO=true->us.map (ff x)=xs.map fun y=>gq y x:=by
 induction h with
 | nil=>exact fun _=>rfl
 | cons r t ih=>
  intro f
  rw[kG,cq] at f
  rw[bV,bV,xj r f.1,ih f.2]
theorem findIdx_map {α:Type}(p:α->Bool):∀ xs:List α,(xs.map p).findIdx? id=xs.findIdx? p
 | []=>rfl
 | x::r=>by
  rw[bV,Hh,Hh,findIdx_map p r]
  rfl
theorem Js {α:Type}(p:α->Bool)(xs:List α):(xs.map p).countP id=xs.countP p:=by
 rw[List.countP_map];rfl
section
variable {X:Cx}{O:Ow}{a b:Expr}{fa fb:ag->Option ae}{apos cpos pos p:Pos}
def OE (K:ao):V->List V->Hp->VK->Prop:=fun x vs H Q=>∃ l y xs j,x=.ref l∧vs=[y]∧bD K H l xs∧fO y=true∧xs.all fO=true∧(xs.map fun z=>gq z y).findIdx? id=some j∧Q (.int (j:Nat)) H
theorem L8:gJ X "list.index" (OE X.K):=by
 intro pins s σ H x vs v us Q I rx rv h
 revert h
 refine fun zqq=>?_;obtain⟨l,y,xs,j,zq4,zq5,hq,fy,fs,hj,q⟩:=zqq
 subst zq4
 subst zq5
 cases rx
 obtain⟨u,zq1,ru⟩:=rv.one
 subst zq1
 obtain⟨its,r,pl,hz⟩:=I.list hq
 obtain⟨⟨cls,dd,data,sl⟩,ho,hc,n,hd⟩:=pl.isList
 simp only at hc hd
 subst hc hd
 rw[← DB r fs,findIdx_map] at hj
 have hjl:j<its.length:=(List.findIdx?_eq_some_iff_findIdx_eq.mp hj).1
 have hl:=r.length
 have hz':sizeLine<2 ^ 62:=by decide
 obtain⟨h1,h2⟩:=List.findIdx?_eq_some_iff_getElem.mp hj
 refine gO wd ⟨_,ho,rfl⟩ Hu (Ht _ _)
  (HQ l its.toArray n dd sl u (ff y) j (by simpa using hjl) (by omega) (by simpa using h2.1) (fun m hm hlt=>by
   have:=h2.2 m hlt
   simpa using this)) ⟨ho,fun w hw=>n_ ru fy r fs w (by simpa using hw),⟨.int (j:Nat),H,I.tok _,⟨_,rfl⟩,q⟩⟩
def xF:ae->ae->Option ae
 | .list ds,e=>if (ds.all iM&&iM e)=true then ((ds.map fun d=>mz d e).findIdx? id).map fun j=>.int (j:Nat) else none
 | _,_=>none
theorem R_ (ha:PR X O a fa)(hb:PR X O b fb)(hbase:dR a "index" X.env (aB a X.env)=aB a X.env:=by rfl)
  (hfew:((a0 cpos (ax [b] X.env)).all (fun x=>!x.1)&&(dS cpos (dY [] X.env)).all (fun x=>x.1.isSome)&&decide ([b].length+([]:List df).length+(if ([]:List df).isEmpty then 0 else 1)<30))=true:=by rfl)
  (hline:(apos.endLine==cpos.line)=true:=by rfl) (hst:ax [b] X.env=(false,aB b X.env)::ax [] X.env:=by rfl) (hplain:(a0 cpos (ax [] X.env)).any (·.1)=false:=by rfl) :
  PV X O (.Call (.Attribute a "index" apos) [b] [] cpos) (fun ρ=>au (fa ρ) (fb ρ) xF):=
 (j3 nI wd HB L8 ha (pa_cons hb pa_nil hst) hbase hfew hline hst hplain).imp fun σ H Q zpat=>by
  obtain⟨hid,H0,ρ,ow,r,E,hf,k⟩:=zpat
  obtain⟨d,e,h1,h2,h3⟩:=mi hf
  unfold xF at h3
  split at h3
  case h_2=>cases h3
  split at h3
  case isFalse=>cases h3
  rename_i ds hfl
  rw[cq] at hfl
  obtain⟨j,h4,rfl⟩:=map_some h3
  refine⟨hid,H0,ρ,ow,_,E,h1,fun x H1 s1 D1=>?_⟩
  obtain⟨l,xs,rfl,q1,r1⟩:=dU D1
  refine⟨.inl ⟨rfl,xs,(bH _ _).seq q1⟩,hid,H0,ρ,ow,e,E.mono s1,h2,fun y H2 s2 D2=>?_⟩
  obtain⟨f1,f2⟩:=pZ D2 hfl.2
  obtain⟨g1,g2⟩:=sR f2 r1 hfl.1
  exact ⟨l,y,xs,j,rfl,rfl,s2.seq ((bH _ _).seq q1),f1,g1,(by rw[g2];exact h4),k _ H2 (s1.trans s2) (.int _)⟩
def OC (K:ao):V->List V->Hp->VK->Prop:=fun x vs H Q=>∃ l y xs,x=.ref l∧vs=[y]∧bD K H l xs∧fO y=true∧xs.all fO=true∧Q (.int ((xs.map fun z=>gq z y).countP id:Nat)) H
theorem L6:gJ X "list.count" (OC X.K):=by
 intro pins s σ H x vs v us Q I rx rv h
 revert h
 refine fun zqq=>?_;obtain⟨l,y,xs,zq3,zq4,hq,fy,fs,q⟩:=zqq
 subst zq3
 subst zq4
 cases rx
 obtain⟨u,zq1,ru⟩:=rv.one
 subst zq1
 obtain⟨its,r,pl,hz⟩:=I.list hq
 obtain⟨⟨cls,dd,data,sl⟩,ho,hc,n,hd⟩:=pl.isList
 simp only at hc hd
 subst hc hd
 refine gO Hw ⟨_,ho,rfl⟩ PySem.F.entry_list_count (PySem.F.args_list_count_2 _ _) (SeqAt.list_countAt l its.toArray n dd sl u (ff y)) ⟨ho,fun w hw=>n_ ru fy r fs w (by simpa using hw),?_⟩
 rw[show its.toArray.toList=its from rfl,← Js,DB r fs]
 exact⟨.int _,H,I.tok _,⟨_,rfl⟩,q⟩
def w8:ae->ae->Option ae
 | .list ds,e=>if (ds.all iM&&iM e)=true then some (.int ((ds.map fun d=>mz d e).countP id:Nat)) else none
 | _,_=>none
theorem v_count (ha:PR X O a fa)(hb:PR X O b fb)(hbase:dR a "count" X.env (aB a X.env)=aB a X.env:=by rfl)
  (hfew:((a0 cpos (ax [b] X.env)).all (fun x=>!x.1)&&(dS cpos (dY [] X.env)).all (fun x=>x.1.isSome)&&decide ([b].length+([]:List df).length+(if ([]:List df).isEmpty then 0 else 1)<30))=true:=by rfl)
  (hline:(apos.endLine==cpos.line)=true:=by rfl) (hst:ax [b] X.env=(false,aB b X.env)::ax [] X.env:=by rfl) (hplain:(a0 cpos (ax [] X.env)).any (·.1)=false:=by rfl) :
  PV X O (.Call (.Attribute a "count" apos) [b] [] cpos) (fun ρ=>au (fa ρ) (fb ρ) w8):=
 (j3 nI Hw PySem.F.type_list_count L6 ha (pa_cons hb pa_nil hst) hbase hfew hline hst hplain).imp fun σ H Q zpat=>by
  obtain⟨hid,H0,ρ,ow,r,E,hf,k⟩:=zpat
  obtain⟨d,e,h1,h2,h3⟩:=mi hf
  unfold w8 at h3
  split at h3
  case h_2=>cases h3
  split at h3
  case isFalse=>cases h3
  rename_i ds hfl
  rw[cq] at hfl
  obtain rfl:=aE h3
  refine⟨hid,H0,ρ,ow,_,E,h1,fun x H1 s1 D1=>?_⟩
  obtain⟨l,xs,rfl,q1,r1⟩:=dU D1
  refine⟨.inl ⟨rfl,xs,(bH _ _).seq q1⟩,hid,H0,ρ,ow,e,E.mono s1,h2,fun y H2 s2 D2=>?_⟩
  obtain⟨f1,f2⟩:=pZ D2 hfl.2
  obtain⟨g1,g2⟩:=sR f2 r1 hfl.1
  exact ⟨l,y,xs,rfl,rfl,s2.seq ((bH _ _).seq q1),f1,g1,(by rw[g2];exact k _ H2 (s1.trans s2) (.int _))⟩
def k_:ae->ae->Option ae
 | e,.list ds=>if (ds.all iM&&iM e)=true then some (.bool ((ds.map fun d=>mz d e).any id)) else none
 | e,.tuple ds=>if (ds.all iM&&iM e)=true then some (.bool ((ds.map fun d=>mz d e).any id)) else none
 | _,_=>none
def DR (e d:ae):Option ae:=(k_ e d).bind fun r=>match r with
 | .bool b=>some (.bool !b)
 | _=>none
theorem BN {α:Type}(p:α->Bool)(xs:List α):(xs.map p).any id=xs.any p:=by
 rw[List.any_map];rfl
theorem CY {K:ao}{neg:Bool}{x y:V}{H:Hp}{e d r:ae}(D1:aJ K H x e)(D2:aJ K H y d)(h:k_ e d=some r):∃ b,r=.bool b∧∀ Q:VK,Q (.bl (if neg then !b else b)) H->yq K neg x y H Q:=by
 unfold k_ at h
 split at h
 case h_3=>cases h
 ·split at h
  case isFalse=>cases h
  rename_i hfl
  rw[cq] at hfl
  obtain rfl:=aE h
  obtain⟨l,xs,rfl,q1,r1⟩:=dU D2
  obtain⟨f1,f2⟩:=pZ D1 hfl.2
  obtain⟨g1,g2⟩:=sR f2 r1 hfl.1
  refine⟨_,rfl,fun Q q=>⟨l,xs,rfl,.inl q1,f1,g1,?_⟩⟩
  unfold sY
  rw[← BN,g2]
  exact q
 ·split at h
  case isFalse=>cases h
  rename_i hfl
  rw[cq] at hfl
  obtain rfl:=aE h
  obtain⟨l,xs,rfl,q1,r1⟩:=pT D2
  obtain⟨f1,f2⟩:=pZ D1 hfl.2
  obtain⟨g1,g2⟩:=sR f2 r1 hfl.1
  refine⟨_,rfl,fun Q q=>⟨l,xs,rfl,.inr q1,f1,g1,?_⟩⟩
  unfold sY
  rw[← BN,g2]
  exact q
theorem wU:eM X .In k_:=⟨_,Nv,fun x y H d e r Q D1 D2 h k=>by
 obtain⟨b,zq1,q⟩:=CY (neg:=false) D1 D2 h
 subst zq1
 exact q Q (k _ (.bl _))⟩
theorem IK:eM X .NotIn DR:=⟨_,ND,fun x y H d e r Q D1 D2 h k=>by
 obtain⟨r1,h1,h2⟩:=bind_some h
 obtain⟨b,zq1,q⟩:=CY (neg:=true) D1 D2 h1
 subst zq1
 obtain rfl:=aE h2
 exact q Q (k _ (.bl _))⟩
theorem I_ (hc:X.calm=true):eY X (.builtin "sum") (fun xs H Q=>∃ (a:af) (ns:List Int),xs=[.ref a]∧bD X.K H a (ns.map V.int)∧Q (.int ns.sum) H):=by
 intro pins s σ H xs us Q I r h
 revert h
 refine fun zqq=>?_;obtain⟨q,ns,zq2,hq,k⟩:=zqq
 subst zq2
 obtain⟨u,zq1,rx⟩:=vals1 r
 subst zq1
 cases rx
 obtain⟨its,r',pl,hz⟩:=I.list hq
 have hI:=intsAre_of r'
 have hl:=pl.isList
 obtain⟨xs,hx⟩:=hI.allInts.items
 have hn:numsOf its.toArray.toList=ns:=by rw[show its.toArray.toList=its from rfl,hI.numsOf]
 rw[hx] at hl hn
 rw[nums_intItems] at hn
 refine sum_intListG (I.ok.hd hc) hl fun h' tk t' hk=>?_
 rw[preSum_eq,Ho (by simp),hn]
 exact⟨.int _,H,I.kept (t':=tk) hk,⟨t',rfl⟩,k⟩
def uC:ae->Option ae
 | .list ds=>(la ds).map fun ns=>.int ns.sum
 | _=>none
theorem v_sum (hc:X.calm=true)(hg:Gl X "sum")(hm:X.mg "sum"=none)(ha:PR X O a fa)(he:ax [a] X.env=(false,aB a X.env)::ax [] X.env:=by rfl)(hpl:(a0 pos (ax [] X.env)).any (·.1)=false:=by rfl)
  (hv:dJ "sum"=some (.builtin "sum"):=by decide +kernel):PV X O (.Call (.Name "sum" p) [a] [] pos) (fun ρ=>(fa ρ).bind uC):=
 (lq (I_ hc) hg hm hv (pa_cons ha pa_nil he) (by decide) (by decide) he hpl).imp fun σ H Q zpat=>by
  obtain⟨hid,H0,ρ,ow,r,E,hf,k⟩:=zpat
  obtain⟨d,h1,h2⟩:=bind_some hf
  refine⟨hid,H0,ρ,ow,d,E,h1,fun x H1 s1 D1=>?_⟩
  unfold uC at h2
  split at h2
  case h_2=>cases h2
  obtain⟨ns,h3,rfl⟩:=map_some h2
  have e:=C1 h3
  subst e
  obtain⟨q,vs,rfl,q1,r1⟩:=dU D1
  have e2:=r1.isInts
  subst e2
  exact ⟨q,ns,rfl,(bH _ _).seq q1,k _ H1 s1 (.int _)⟩
end
end L2
namespace L2
variable [Reg]
section
variable {K:ao}{O O':Ow}{hid:af->Prop}{H0 H H':Hp}{σ:St}{ρ:ag}{ow:List af}
end
section
variable {X:Cx}{O O':Ow}{st:aG}{rest:List aG}{F G:ag->Option aA}{e:Expr}{f:ag->Option ae}{pos:Pos}
theorem aK.free {K:ao}{O:Ow}{hid:af->Prop}{H0 H:Hp}{σ:St}{ρ:ag}{ow:List af}(E:aK K O hid H0 σ H ρ ow)(r:Ty):aK K ⟨[],r⟩ hid H0 σ H ρ []:=by
 refine⟨E.len,E.baseS.trans (fun b o q=>(by rw[bE (by simp)];exact q)),fun i d _ q=>?_,⟨fun _=>[],(fun i t d h=>(by cases h)),(fun i j p _ h=>(by cases h)),(fun i p h=>(by cases h))⟩,(fun l h=>(by cases h)),E.ishL,fun _=>rfl⟩
 obtain⟨v,a,b⟩:=E.raw q
 exact⟨v,a,b.mono (cN fun b z=>by
  rcases z with z | z
  ·exact z
  ·cases z)⟩
end
section
variable {X:Cx}{O:Ow}{i:Nat}{x:Str}{pos' spos:Pos}{elt tg iter:Expr}{ifs:List Expr}{scope:Scope}{pos:Pos}{fi:ag->Option (List ae)}{S:ae->ag->Option ag}{ft:ag->Option Bool}{fe:ag->Option ae}{k:Nat}{N:List Str}{ix:List Nat}
end
section
variable {X:Cx}{O:Ow}{i:Nat}
end
end L2
namespace L2
variable [Reg]
section
variable {K:ao}{O:Ow}{hid:af->Prop}{H0 H H' C C':Hp}{σ:St}{ρ:ag}{ow:List af}
theorem b9.snoc {t:Ty}{v:V}{d:ae}{bs:List af}(h2:bg K H C t v d bs){vs:List V}{ds:List ae}{as:List af}(h:b9 K H C t vs ds as):(∀ p∈as,p∉bs)->b9 K H C t (vs++[v]) (ds++[d]) (as++bs):=
 b9.ind (P:=fun vs ds as=>(∀ p∈as,p∉bs)->b9 K H C t (vs++[v]) (ds++[d]) (as++bs)) (fun _=>by
  have:=b9.cons h2 (.nil (K:=K) (H:=H) (C:=C) (t:=t)) (fun p _ z=>absurd z dC)
  rw[e6] at this
  exact this) (fun h r n ih q=>by
  rw[nr]
  exact .cons h (ih fun p hp=>q p (bB _ hp)) fun p hp z=>(List.mem_append.mp z).elim (n p hp) (q p (cy _ hp))) h
inductive Gi (K:ao)(hid:af->Prop)(H H1:Hp)(D:af)(T:Ty)(S:ae->ag->Option ag)(ft:ag->Option Bool)(fe:ag->Option ae)(ds out:List ae)(i m:Nat)(τ:St)(H2:Hp):Prop
 | mk (ρ2:ag) (ys:List V) (done rest left:List ae) (as:List af) (hM:hR ds i m left) (E2:aK K O0 (uni hid (D::as)) H τ H2 ρ2 []) (s2:ay H1 H2) (hy:H2 D=some (.lst ys)) (hd:b9 K H2 (av H2 (uni hid (D::as))) T ys done as) (hn:∀ p∈as,H1 p=none∧p≠D) (hr:jc S ft fe left ρ2=some rest) (ho:out=done++rest) (hl:done.length≤i):Gi K hid H H1 D T S ft fe ds out i m τ H2
end
section
variable {K:ao}{O:Ow}{hid:af->Prop}{H0 H H':Hp}{σ:St}{ρ:ag}{ow:List af}
end
section
variable {X:Cx}{O:Ow}{i:Nat}{pos:Pos}
end
end L2
namespace L2
variable [Reg]
def tX (K:ao)(O:Ow)(f:ag->Option (ae×ag)):TE:=fun σ H Q=>dA K O f σ H fun hid H0 ρ ow r=>∀ v H',aK K O hid H0 σ H' r.2 ow->ay (av H (uni hid ow)) (av H' (uni hid ow))->aJ K (av H' (uni hid ow)) v r.1->Q v H'
abbrev PX (X:Cx)(O:Ow)(e:Expr)(f:ag->Option (ae×ag)):Prop:=PE X e (tX X.K O f)
def fk (i:Nat)(ρ:ag):Option (ae×ag):=((ρ[i]?).join.bind cH).bind fun ds=>ds.getLast?.map fun d=>(d,ρ.set i (some (.list ds.dropLast)))
def di (g:ae->ae->Option ae)(fa:ag->Option (ae×ag))(fb:ag->Option ae)(ρ:ag):Option (ae×ag):=(fa ρ).bind fun r=>(fb r.2).bind fun e=>(g r.1 e).map fun d=>(d,r.2)
def j1 (g:ae->ae->Option ae)(fa:ag->Option ae)(fb:ag->Option (ae×ag))(ρ:ag):Option (ae×ag):=(fa ρ).bind fun d=>(fb ρ).bind fun r=>(g d r.1).map fun e=>(e,r.2)
def uv (i:Nat)(x:Option (ae×ag)):Option aA:=x.map fun r=>.nx (r.2.set i (some r.1))
section
variable {X:Cx}{O:Ow}{a b e:Expr}{fa fb:ag->Option ae}{pos:Pos}
theorem aD.dropLast {K:ao}{H:Hp}{vs:List V}{ds:List ae}(h:aD K H vs ds):aD K H vs.dropLast ds.dropLast:=by
 rw[Hf,Hf,h.length]
 exact h.take _
theorem zW {i:Nat}{x:Str}{p apos cpos:Pos}(hx:PE X (.Name x p) (dG i))(hO:O.s.lookup i=some (.lst .cl):=by rfl)
  (hbase:dR (.Name x p) "pop" X.env (aB (.Name x p) X.env)=aB (.Name x p) X.env:=by rfl) (hline:(apos.endLine==cpos.line)=true:=by rfl) :
  PX X O (.Call (.Attribute (.Name x p) "pop" apos) [] [] cpos) (fk i):=
 (D9 nI Hx HC DD (wM hx hO) hbase hline).imp fun σ H Q zpat=>by
  obtain⟨hid,H0,ρ,ow,r,E,hf,k⟩:=zpat
  obtain⟨ds,g1,g2⟩:=bind_some hf
  obtain⟨d,g3,rfl⟩:=map_some g2
  obtain⟨dl,g4,g5⟩:=bind_some g1
  rw[fQ g5] at g4
  refine ⟨hid,H0,ρ,ow,.list ds,[],ds,E,join_some g4,rfl,rfl,rfl,(fun H1 l vs s1 hH hD hl hE=>?_)⟩
  rw[Hi] at g3
  obtain⟨y,h1,h2⟩:=hD.get g3
  rw[← hD.length] at h1
  refine ⟨(.inl ⟨rfl,vs,bD.of hH⟩),l,vs,y,rfl,rfl,hH,h1,k y _ (hE H1 (ay.refl _) _ _ hD.dropLast) ?_ ?_⟩
  ·rw[gp (lB hl)];exact aZ s1 _
  ·rw[gp (lB hl)];exact h2
theorem SH {op:Operator}{rd:R2}{g:ae->ae->Option ae}{fa:ag->Option (ae×ag)}(ho:cE X (i_ op) rd)(hg:iG X.K rd g)(ha:PX X O a fa)(hb:PR X O b fb):PX X O (.BinOp a op b pos) (di g fa fb):=
 (il ho ha hb).imp fun σ H Q zpat=>by
  obtain⟨hid,H0,ρ,ow,r,E,hf,k⟩:=zpat
  obtain⟨r1,h1,h2⟩:=bind_some hf
  obtain⟨y1,h3,h4⟩:=bind_some h2
  obtain⟨d,h5,rfl⟩:=map_some h4
  exact⟨hid,H0,ρ,ow,r1,E,h1,fun x H1 E1 s1 D1=>⟨hid,H0,r1.2,ow,y1,E1,h3,fun y H2 s2 D2=>hg x y H2 _ _ _ Q ((D1.mono (aZ s2 _)).mono (bH _ _)) (D2.mono (bH _ _)) h5 fun v S=>k v H2 (E1.mono s2) (s1.trans (aZ s2 _)) S.den⟩⟩
theorem SI {op:Operator}{rd:R2}{g:ae->ae->Option ae}{fb:ag->Option (ae×ag)}(ho:cE X (i_ op) rd)(hg:iG X.K rd g)(ha:PV X O a fa)(hb:PX X O b fb):PX X O (.BinOp a op b pos) (j1 g fa fb):=
 (il ho ha hb).imp fun σ H Q zpat=>by
  obtain⟨hid,H0,ρ,ow,r,E,hf,k⟩:=zpat
  obtain⟨d,h1,h2⟩:=bind_some hf
  obtain⟨r1,h3,h4⟩:=bind_some h2
  obtain⟨d2,h5,rfl⟩:=map_some h4
  exact⟨hid,H0,ρ,ow,d,E,h1,fun x H1 s1 D1=>⟨hid,H0,ρ,ow,r1,E.mono s1,h3,fun y H2 E2 s2 D2=>hg x y H2 _ _ _ Q ((D1.mono s2).mono (bH _ _)) (D2.mono (bH _ _)) h5 fun v S=>k v H2 E2 ((aZ s1 _).trans s2) S.den⟩⟩
theorem SE {fb:ag->Option (ae×ag)}(ha:PV X O a fa)(hb:PX X O b fb)(hs:r8 b:=by intro _ _;rfl):PX X O (.Subscript a b pos) (j1 bz fa fb):=
 (yj (xN.or xO) ha hb hs).imp fun σ H Q zpat=>by
  obtain⟨hid,H0,ρ,ow,r,E,hf,k⟩:=zpat
  obtain⟨d,h1,h2⟩:=bind_some hf
  obtain⟨r1,h3,h4⟩:=bind_some h2
  obtain⟨d2,h5,rfl⟩:=map_some h4
  exact⟨hid,H0,ρ,ow,d,E,h1,fun x H1 s1 D1=>⟨hid,H0,ρ,ow,r1,E.mono s1,h3,fun y H2 E2 s2 D2=>Fc x y H2 (av H2 (uni hid ow)) _ _ _ Q (bH _ _) (D1.mono s2) D2 h5 fun v S=>k v H2 E2 ((aZ s1 _).trans s2) S⟩⟩
theorem PV.x (h:PV X O e fa):PX X O e (fun ρ=>(fa ρ).map fun d=>(d,ρ)):=h.imp fun σ H Q zpat=>by
 obtain⟨hid,H0,ρ,ow,r,E,hf,k⟩:=zpat
 obtain⟨d,h1,rfl⟩:=map_some hf
 exact⟨hid,H0,ρ,ow,d,E,h1,fun v H' s D=>k v H' (E.mono s) (aZ s _) D⟩
theorem y9 {i:Nat}{x:Str}{pos':Pos}{f:ag->Option (ae×ag)}(hN:X.N.Nodup)(hi:X.N[i]?=some x)(hx:Loc X.env.scope x)(he:PX X O e f)(hO:O.s.lookup i=none:=by rfl)(hs:dF e (some (.Name x pos')) pos.line X.env=aN false:=by rfl)(hf:X.fn x=true∨X.env.scope.names.lookup x=some .local:=by first | exact .inl rfl | exact .inr rfl | assumption) :
  cR X O (.Assign [.Name x pos'] e pos) (fun ρ=>uv i (f ρ)):=(t5 hN hi hx he hs hf).imp fun D σ H zpat=>by
 obtain⟨hid,H0,ρ,ow,o,E,hf,k⟩:=zpat
 obtain⟨d,g1,rfl⟩:=map_some hf
 exact⟨hid,H0,ρ,ow,d,E,g1,fun v H' E' s Dv=>k _ H' ow s (E'.set hO Dv)⟩
theorem uU {fa:ag->Option (ae×ag)}(ha:PX X O a fa)(hb:PR X O b fb):PX X O (.BinOp a .Mod b pos) (di cu fa fb):=SH DZ (qM (fun _ _=>.int _) fun i j h=>of_decide_eq_true h) ha hb
theorem Sz {fb:ag->Option (ae×ag)}(ha:PV X O a fa)(hb:PX X O b fb):PX X O (.BinOp a .Add b pos) (j1 ez fa fb):=SI DY (mQ fun _ _=>.int _) ha hb
end
end L2
namespace L2
variable [Reg]
section
variable {X:Cx}{O:Ow}{a b e:Expr}{fa fb:ag->Option ae}{pos:Pos}{l:af}
theorem Ip {i:Nat}(h:PE X e (dG i))(hi:O.s.lookup i=some (.io l):=by rfl):v5 X O i (.io l) e (fun _=>some []):=h.imp fun σ H Q zpat=>by
 obtain⟨hid,H0,ρ,ow,d,path,ds,E,hρ,hp,ht,hg,k⟩:=zpat
 obtain rfl:=aE hp
 obtain⟨v,m,vs,h1,h2,h3,h4,h5,h6⟩:=E.at hi hρ ht hg
 cases h2
 exact⟨.ref m,h1,k H m vs (ay.refl H) h3 h4 h5 h6⟩
theorem zX {i:Nat}{x:Str}{p apos cpos:Pos}(hx:PE X (.Name x p) (dG i))(hO:O.s.lookup i=some (.io l):=by rfl)
  (hbase:dR (.Name x p) "pop" X.env (aB (.Name x p) X.env)=aB (.Name x p) X.env:=by rfl) (hline:(apos.endLine==cpos.line)=true:=by rfl) :
  PX X O (.Call (.Attribute (.Name x p) "pop" apos) [] [] cpos) (fk i):=
 (D9 nI Hx HC DD (Ip hx hO) hbase hline).imp fun σ H Q zpat=>by
  obtain⟨hid,H0,ρ,ow,r,E,hf,k⟩:=zpat
  obtain⟨ds,g1,g2⟩:=bind_some hf
  obtain⟨d,g3,rfl⟩:=map_some g2
  obtain⟨dl,g4,g5⟩:=bind_some g1
  rw[fQ g5] at g4
  refine ⟨hid,H0,ρ,ow,.list ds,[],ds,E,join_some g4,rfl,rfl,rfl,(fun H1 l vs s1 hH hD hl hE=>?_)⟩
  rw[Hi] at g3
  obtain⟨y,h1,h2⟩:=hD.get g3
  rw[← hD.length] at h1
  refine ⟨(.inl ⟨rfl,vs,bD.of hH⟩),l,vs,y,rfl,rfl,hH,h1,k y _ (hE H1 (ay.refl _) _ _ hD.dropLast) ?_ ?_⟩
  ·rw[gp (lB hl)];exact aZ s1 _
  ·rw[gp (lB hl)];exact h2
end
theorem JA {H:Hp}{l:af}:av H (fun b=>b=l) l=none:=dy (P:=fun b=>b=l) rfl
theorem sH {H:Hp}{l b:af}(h:b≠l):av H (fun b=>b=l) b=H b:=bE (P:=fun b=>b=l) h
inductive wz (K:ao)(j:Nat)(T:Ty)(F:List ae->Option (ae×List ae))(vs:List V)(H:Hp)(Q:VK):Prop
 | mk (hid:af->Prop) (l:af) (ws:List V) (es0 ds:List ae) (r:ae×List ae) (h1:∀ b,hid b->∃ vs:cM,H b=some vs.ho) (h2:¬ hid l) (h3:vs[j]?=some (.ref l)) (h4:H l=some (.lst ws)) (h5:aD K (av H (uni hid [l])) ws es0)
  (h6:ds.length=vs.length) (h7:ds[j]?=some (.list es0)) (h8:∀ (i:Nat) (v:V) (d:ae),i≠j->vs[i]?=some v->ds[i]?=some d->aJ K (av H (uni hid [l])) v d) (h9:F ds=some r)
  (k:∀ v as H' ws',ay (av H fun b=>b=l) H'->H' l=some (.lst ws')->aD K (av H' (uni hid (l::as))) ws' r.2->(∀ p∈as,H p=none)->bg K H' (av H' (uni hid (l::as))) T v r.1 as->Q v H'):wz K j T F vs H Q
def uw (K:ao)(j:Nat)(T:Ty)(F:List ae->Option (ae×List ae)):Sp:=fun vs H Q _=>wz K j T F vs H Q
inductive BI (K:ao)(O:Ow)(l:af)(hid:af->Prop)(H0:Hp)(D:fw)(o:aA):Prop
 | mk (d:ae) (es:List ae) (e:o=.rt (.tuple [d,.list es]))
  (k:∀ v as H' ws',ay H0 H'->H' l=some (.lst ws')->aD K (av H' (uni hid (l::as))) ws' es->(∀ p∈as,H0 p=none∧p≠l)->bg K H' (av H' (uni hid (l::as))) O.r v d as->D.rt v H'):BI K O l hid H0 D o
def tI (K:ao)(O:Ow)(l:af)(F:ag->Option aA):TS:=fun D σ H=>dA K O F σ H fun hid H0 ρ ow o=>BI K O l hid H0 D o
abbrev rY (X:Cx)(O:Ow)(l:af)(sts:List aG)(F:ag->Option aA):Prop:=dw X sts (tI X.K O l F)
def f9 (F G:ag->Option aA)(ρ:ag):Option aA:=(F ρ).bind fun o=>match o with
 | .nx ρ'=>G ρ'
 | _=>none
def EE (j:Nat)(f:ag->Option ae)(ρ:ag):Option aA:=(f ρ).bind fun d=>((ρ[j]?).join.bind cH).map fun es=>.rt (.tuple [d,.list es])
section
variable {X:Cx}{O:Ow}{st:aG}{rest:List aG}{F G:ag->Option aA}{e:Expr}{f:ag->Option ae}{pos:Pos}{l:af}{j:Nat}
theorem Ff (h1:cR X O st F)(h2:rY X O l rest G):rY X O l (st::rest) (f9 F G):=(mL h1 h2).imp fun D σ H zpat=>by
 obtain⟨hid,H0,ρ,ow,o,E,hf,d,es,rfl,k⟩:=zpat
 obtain⟨o1,g1,g2⟩:=bind_some hf
 refine⟨hid,H0,ρ,ow,o1,E,g1,?_⟩
 cases o1 with
 | nx ρ1=>exact fun σ' H' ow' s' E'=>⟨hid,H0,ρ1,ow',_,E',g2,d,es,rfl,k⟩
 | rt d=>exact L2.bp g2
 | bk ρ1=>exact L2.bp g2
 | ct ρ1=>exact L2.bp g2
theorem QD {U:List Nat}(h:rX X O U O.r e f)(hj:O.s.lookup j=some (.io l):=by rfl)(hU:j∉U:=by decide):rY X O l [.Return (some e) pos] (EE j f):=(qz (mK h)).imp fun D σ H zpat=>by
 obtain⟨hid,H0,ρ,ow,o,E,hf,d,es,e1,k⟩:=zpat
 obtain⟨d',g1,g2⟩:=bind_some hf
 obtain⟨es',g3,g4⟩:=map_some g2
 rw[← g4] at e1
 injection e1 with e1
 injection e1 with e1
 injection e1 with e1 e2
 injection e2 with e2 _
 injection e2 with e2
 subst e1 e2
 obtain⟨dl,g5,g6⟩:=bind_some g3
 rw[fQ g6] at g5
 obtain⟨A,EA⟩:=E.own
 obtain⟨v0,hv,D0⟩:=EA.1 j _ _ hj (join_some g5)
 generalize hA:A j=Aj at D0
 cases D0 with
 | @io _ ws _ hl q=>
  have hlA:l∈A j:=by rw[hA];exact List.mem_singleton.mpr rfl
  have hlo:=EA.2.2 j l hlA
  refine ⟨hid,H0,ρ,ow,d',A,E,EA,g1,(fun v as H' s n Dv=>k v as H' ws (E.baseS.trans s) (s _ _ hl) (q.mono fun b o z=>?_) (fun p hp=>⟨?_,?_⟩) (Dv.mono (cN fun b z=>?_) fun p _ o e=>e))⟩
  ·by_cases hb:uni hid ow b
   ·rw[dy hb] at z;cases z
   ·rw[bE hb] at z
    rw[bE fun y=>?_]
    ·exact s b o z
    ·rcases y with y | y
     ·exact hb (.inl y)
     ·rcases List.mem_cons.mp y with rfl | y
      ·exact hb (.inr hlo)
      ·rcases n b y with w | ⟨i,_,w⟩
       ·rw[w] at z;cases z
       ·exact hb (.inr (EA.2.2 i b w))
  ·rcases n p hp with w | ⟨i,_,w⟩
   ·exact E.baseS.free w
   ·exact E.ow0 (EA.2.2 i p w)
  ·rintro rfl
   rcases n p hp with w | ⟨i,hi,w⟩
   ·rw[hl] at w;cases w
   ·exact EA.2.1 i j p (fun z=>hU (z▸hi)) w hlA
  ·rcases z with z | z
   ·exact .inl z
   ·rcases List.mem_cons.mp z with rfl | z
    ·exact .inr (bB _ hlo)
    ·exact .inr (cy _ z)
end
theorem K6 {d:ae}{ds:List ae}(h:qe d=some ds):d=.list ds:=by
 cases d with
 | list es=>rw[aE h]
 | _=>exact L2.bp h
theorem C8 {d:ae}{ds:List ae}(h:ti d=some ds):d=.tuple ds:=by
 cases d with
 | tuple es=>rw[aE h]
 | _=>exact L2.bp h
def D6:aA->Option ae
 | .rt d=>some d
 | _=>none
def D5 (o:Option aA):Option (ae×List ae):=(o.bind D6).bind fun d=>(ti d).bind fun ds=>(two ds).bind fun p=>(qe p.2).map fun es=>(p.1,es)
def ua (n m:Nat)(B:ag->Option aA)(ds:List ae):Option (ae×List ae):=if ds.length=n then D5 (B (ds.map some++cO m none)) else none
theorem EH {n m:Nat}{B:ag->Option aA}{ds:List ae}{r:ae×List ae}(h:ua n m B ds=some r):ds.length=n∧B (ds.map some++cO m none)=some (.rt (.tuple [r.1,.list r.2])):=by
 unfold ua at h
 split at h
 ·refine⟨by assumption,?_⟩
  obtain⟨d,h0,h⟩:=bind_some h
  obtain⟨o,h1,h2⟩:=bind_some h0
  obtain⟨es,h3,h⟩:=bind_some h
  obtain⟨p,h4,h⟩:=bind_some h
  obtain⟨ls,h5,rfl⟩:=map_some h
  rw[h1]
  cases o with
  | rt e=>
   obtain rfl:=aE h2
   rw[C8 h3,zL h4,K6 h5]
  | _=>exact L2.bp h2
 ·exact L2.bp h
theorem J5 {P:aQ}{w:aM}{K:ao}{mg:Str->Option ah}{base:az}{x qual:Str}{st:aG}{f:af}{fd:aY}{N ps:List Str}{k j:Nat}{T:Ty}(O:af->Ow)(F:bh K x qual st f fd)(S:bF N ps (aS st))
  (hj:∀ l,(O l).s.lookup j=some (.io l)) (hr':∀ l,(O l).r=T) (idx:List Nat) (hix:∀ l,(O l).s.map (·.1)=idx) (hO:∀ i∈idx,i=j∨ps.length≤i) (B:ag->Option aA)
  (hbody:∀ (l:af) (cdv:ah),mY K f cdv->∀ (A:bw) (outer:List Env) (s:ar) (H:Hp) (E:XK),bC k (A.deeper (dW qual (aS st) s.heap.objs.size f cdv)) ->
   rY (dN bx P w K mg base N qual (aS st) f cdv A outer s H E).nox (O l) l (eA st) B) :
  aW P w K mg base bx (k+1) f fd ps (uw K j T (ua ps.length (N.length - ps.length) B)):=by
 refine xx F S (fun vs H Q E h=>?_) (fun cdv hk A outer s H vs Q E hr h=>?_)
 ·obtain⟨hid,l,ws,es0,ds,r,h1,h2,h3,h4,h5,h6,h7,h8,h9,q⟩:=h
  rw[← h6]
  exact (EH h9).1
 ·obtain⟨hid,l,ws,es0,ds,r,h1,h2,h3,h4,h5,h6,h7,h8,h9,q⟩:=h
  obtain⟨hl,hB⟩:=EH h9
  refine⟨_,hbody l cdv hk A outer s H E hr,?_⟩
  have E0:aK K (O l) hid (av H fun b=>b=l) (start N vs) H (ds.map some++cO (N.length - ps.length) none) [l]:=by
   have get:∀ (i:Nat) (d:ae),(ds.map some++cO (N.length - ps.length) none)[i]?=some (some d)->ds[i]?=some d∧∃ v,vs[i]?=some v∧(start N vs)[i]?=some (some v):=fun i d e=>by
    by_cases hi:i<ds.length
    ·rw[jE (by simpa using hi),e7] at e
     obtain⟨d',e1,e2⟩:=Option.map_eq_some_iff.mp e
     obtain rfl:=aE e2
     have hv:i<vs.length:=by omega
     refine⟨e1,vs[i],ph hv,?_⟩
     unfold start
     rw[jE (by simpa using hv),e7,ph hv]
     rfl
    ·rw[lY (by simpa using pz hi),nt] at e
     split at e <;> cases e
   refine⟨by unfold start;simp[h6,hl];omega,fun b o e=>?_,fun i d hi e=>?_,⟨fun i=>if i=j then [l] else [],fun i t d hi e=>?_,fun i m p him hp hm=>?_,fun i p hp=>?_⟩,fun m hm=>?_,h1,fun z=>?_⟩
   ·by_cases hb:b=l
    ·rw[hb,JA] at e;cases e
    ·rw[sH hb] at e
     rw[bE fun z=>hb (List.mem_singleton.mp z)]
     exact e
   ·obtain⟨e1,v,e2,e3⟩:=get i d e
    refine⟨v,e3,h8 i v d (fun z=>?_) e2 e1⟩
    rw[z,hj l] at hi;cases hi
   ·obtain⟨e1,v,e2,e3⟩:=get i d e
    rcases hO i (hix l▸tF hi) with rfl | z
    ·rw[hj l] at hi
     obtain rfl:=aE hi
     rw[h3] at e2
     obtain rfl:=aE e2
     rw[h7] at e1
     obtain rfl:=aE e1
     dsimp only
     rw[if_pos rfl]
     exact⟨_,e3,.io h4 h5⟩
    ·have:=(List.getElem?_eq_some_iff.mp e1).1
     omega
   ·dsimp only at hp hm
    split at hp
    ·split at hm
     ·subst_vars;exact him rfl
     ·cases hm
    ·cases hp
   ·dsimp only at hp
    split at hp
    ·exact hp
    ·cases hp
   ·rw[List.mem_singleton.mp hm]
    exact⟨⟨.l ws,h4⟩,h2⟩
   ·have:=hj l
    rw[z] at this
    exact L2.bp this
  refine⟨hid,_,_,[l],_,E0,hB,r.1,r.2,rfl,fun v as H' ws' s' hl' hD n Dv=>q v as H' ws' s' hl' hD (fun p hp=>?_) (by rw[← hr' l];exact Dv)⟩
  have:=(n p hp).1
  rw[sH (n p hp).2] at this
  exact this
end L2
namespace L2
variable [Reg]
def rg (P:aQ)(w:aM)(K:ao)(mg:Str->Option ah)(base:az)(k:Nat)(x:Str)(ps:List Str)(j:Nat)(T:Ty)(F:List ae->Option (ae×List ae)):Prop:=
 ∃ f fd,aW P w K mg base bx k f fd ps (uw K j T F)∧mg x=some (.ref f)∧gK K (.ref f)=true∧Binds K fd ps []∧bG K a_ x=some (some (.ref f))
section
variable {X:Cx}{O:Ow}{a:Expr}{es:List Expr}{pos p:Pos}{fa fs:ag->Option (List ae)}{k:Nat}{ps:List Str}{x:Str}{T:Ty}{F:List ae->Option (ae×List ae)}
end
end L2
namespace L2
variable [Reg]
section
variable {X:Cx}{O:Ow}{a b e:Expr}{fa fb f:ag->Option ae}{pos p:Pos}
end
section
variable {K:ao}{O:Ow}{hid:af->Prop}{H0 H H':Hp}{σ:St}{ρ:ag}{ow:List af}
end
section
variable {X:Cx}{O:Ow}{e:Expr}{f:ag->Option ae}{pos:Pos}{T:Ty}
end
end L2
namespace L2
variable [Reg]
def jY (f:Str):List ae->List ae->Option ae
 | .str n::ns,d::ds=>if n=f then some d else jY f ns ds
 | _,_=>none
def iN (cls f:Str):ae->Option ae
 | .dict [(.bool false,.str c),(.none,.tuple ns),(.none,.tuple fd)]=>if c=cls then jY f ns fd else none
 | _=>none
theorem Dq {K:ao}{H:Hp}{f:Str}{r:ae}:∀ {fs:List (Str×V)} {fd:List ae},aD K H (fs.map (·.2)) fd->jY f ((fs.map (·.1)).map .str) fd=some r->∃ w,fs.lookup f=some w∧aJ K H w r
 | [],fd,_,h=>by cases h
 | (n,v)::fs,fd,D,h=>by
  cases D with
  | cons D1 D2=>
   rename_i d ds
   have h':(if n=f then some d else jY f ((fs.map (·.1)).map .str) ds)=some r:=h
   by_cases e:n=f
   ·rw[if_pos e] at h'
    cases h'
    exact⟨v,by rw[fJ,e,beq_self_eq_true],D1⟩
   ·rw[if_neg e] at h'
    obtain⟨w,h1,h2⟩:=Dq D2 h'
    refine⟨w,?_,h2⟩
    rw[fJ,show (f==n)=false from beq_eq_false_iff_ne.mpr (cn e)]
    exact h1
theorem JC {K:ao}{H:Hp}{v:V}{d r:ae}{cls f:Str}(h:aJ K H v d)(q:iN cls f d=some r):∃ a C dx fs w,v=.ref a∧H a=some (.ins C dx fs)∧bG K a_ cls=some (some (.ref C))∧fs.lookup f=some w∧aJ K H w r:=by
 cases h with
 | @obj a c fs fd h D=>
  have q':(if c=cls then jY f ((fs.map (·.1)).map .str) fd else none)=some r:=q
  by_cases e:c=cls
  ·rw[if_pos e] at q'
   subst e
   obtain⟨C,dx,h1,h2⟩:=id h
   obtain⟨w,h3,h4⟩:=Dq D q'
   exact ⟨a,C,dx,fs,w,rfl,h1,h2,h3,h4⟩
  ·rw[if_neg e] at q';cases q'
 | _=>cases q
def iB (K:ao)(cls f:Str):Prop:=∀ C,bG K a_ cls=some (some (.ref C))->gg K C∧jH K C f
section
variable {X:Cx}{O:Ow}{a e:Expr}{fa f:ag->Option ae}{pos p:Pos}{cls fld:Str}
theorem qC (hC:iB X.K cls fld)(ha:PR X O a fa)(hb:dR a fld X.env (aB a X.env)=aB a X.env:=by rfl):PR X O (.Attribute a fld pos) (fun ρ=>(fa ρ).bind (iN cls fld)):=
 (yg ha hb).imp fun σ H Q zpat=>by
  obtain⟨hid,H0,ρ,ow,r,E,hf,k⟩:=zpat
  obtain⟨d,h1,h2⟩:=bind_some hf
  refine⟨hid,H0,ρ,ow,d,E,h1,fun x H1 s1 D1=>?_⟩
  obtain⟨a',C,dx,fs,w,zq5,g1,g2,g3,g4⟩:=JC D1 h2
  subst zq5
  exact ⟨a',C,dx,fs,w,rfl,bH _ _ _ _ g1,(hC C g2).1,(hC C g2).2,g3,k w H1 s1 g4⟩
end
theorem cF.cut {K:ao}{G G':Hp}(e:∀ a o,G a=some o->(∀ C dx fs,o≠.ins C dx fs)->G' a=some o){a:af}{vs:List V}(q:cF K G a vs):cF K G' a vs:=by
 rcases q with (q | ⟨o,q⟩) | q
 ·exact .inl (.inl (e _ _ q fun _ _ _ z=>by cases z))
 ·exact .inl (.inr ⟨o,e _ _ q fun _ _ _ z=>by cases z⟩)
 ·exact .inr q
theorem aJ.cut {K:ao}{G G':Hp}(e:∀ a o,G a=some o->(∀ C dx fs,o≠.ins C dx fs)->G' a=some o){v:V}{d:ae}(z:aJ K G v d):lf d=true->aJ K G' v d:=
 aJ.rec (motive_1:=fun v d _=>lf d=true->aJ K G' v d) (motive_2:=fun vs ds _=>lf.go ds=true->aD K G' vs ds) (fun _=>.non) (fun b _=>.bl b) (fun i _=>.int i) (fun x _=>.str x) (fun q _ r h=>.tup (q.cut e) (r h)) (fun _ _ _ h=>by cases h) (fun _ _ _ h=>by cases h) (fun _ _ _ h=>by cases h) (fun _ _ _ h=>by cases h) (fun _ _ _ h=>by cases h) (fun _=>.nil) (fun _ _ a b h=>by rw[lf.go,cq] at h;exact .cons (a h.1) (b h.2)) z
inductive KB (K:ao)(x:af)(f1 f2:Str)(B:ag->Option (ae×ae))(D:fw)(σ:St)(H:Hp):Prop
 | mk (hid:af->Prop) (H0:Hp) (ρ:ag) (r:ae×ae) (C dx:af) (E:aK K O0 hid H0 σ H ρ []) (hx:σ[0]?=some (some (.ref x))) (hH:H x=some (.ins C dx [])) (hc:gg K C) (n1:jH K C f1) (n2:jH K C f2) (hB:B ρ=some r) (l1:lf r.1=true) (l2:lf r.2=true)
  (k:∀ σ' H' v1 v2,ay (av H fun b=>b=x) H'->H' x=some (.ins C dx [(f1,v1),(f2,v2)])->aJ K (av H' fun b=>hid b∨b=x) v1 r.1->aJ K (av H' fun b=>hid b∨b=x) v2 r.2->D.nx σ' H'):KB K x f1 f2 B D σ H
section
variable {X:Cx}{e:Expr}{st:aG}{rest:List aG}{f:ag->Option ae}{pos:Pos}{x:af}{f1 f2:Str}{B:ag->Option (ae×ae)}
end
inductive BD (K:ao)(cls f1 f2:Str)(F:List ae->Option (ae×ae))(vs:List V)(H:Hp)(Q:VK):Prop
 | mk (hid:af->Prop) (x dx C:af) (us:List V) (ds:List ae) (r:ae×ae) (e:vs=.ref x::us) (hH:H x=some (.ins C dx [])) (hn:bG K a_ cls=some (some (.ref C))) (h1:∀ b,hid b->∃ vs:cM,H b=some vs.ho) (D:aD K (av H hid) us ds) (hF:F ds=some r)
  (k:∀ H' v1 v2,ay (av H fun b=>b=x) H'->H' x=some (.ins C dx [(f1,v1),(f2,v2)])->aJ K (av H' fun b=>hid b∨b=x) v1 r.1->aJ K (av H' fun b=>hid b∨b=x) v2 r.2->Q .non H'):BD K cls f1 f2 F vs H Q
def Fb (K:ao)(cls f1 f2:Str)(F:List ae->Option (ae×ae)):Sp:=fun vs H Q _=>BD K cls f1 f2 F vs H Q
def Gu (P:aQ)(w:aM)(K:ao)(mg:Str->Option ah)(base:az)(k:Nat)(cls:Str)(ps:List Str)(f1 f2:Str)(F:List ae->Option (ae×ae)):Prop:=
 ∃ C f fd,Mk K C f∧aW P w K mg base bx k f fd ps (Fb K cls f1 f2 F)∧mg cls=some (.ref C)∧bG K a_ cls=some (some (.ref C))∧Binds K fd ps []
section
variable {X:Cx}{O:Ow}{a:Expr}{es:List Expr}{pos p:Pos}{fs:ag->Option (List ae)}{k:Nat}{ps:List Str}{cls f1 f2:Str}{F:List ae->Option (ae×ae)}
end
end L2
namespace L2
variable [Reg]
section
variable {X:Cx}{O:Ow}{e:Expr}{f:ag->Option ae}{T:Ty}
theorem fB.v (h:fB X O T e f):PV X O e f:=h.imp fun σ H Q zpat=>by
 obtain⟨hid,H0,ρ,ow,d,E,hf,k⟩:=zpat
 refine⟨hid,H0,ρ,ow,d,E,hf,fun v as H' s n D=>k v H' s (D.raw (cN fun b z=>?_) fun p hp o q=>?_)⟩
 ·rcases z with z | z
  ·exact .inl z
  ·exact .inr (bB _ z)
 ·rw[bE (E.fresh (n p hp))]
  exact q
theorem fB.fc (h:fB X O (.lst .cl) e f):bR X O e (fun ρ=>(f ρ).bind cH):=h.imp fun σ H Q zpat=>by
 obtain⟨hid,H0,ρ,ow,ds,E,hf,k⟩:=zpat
 obtain⟨d,h1,h2⟩:=bind_some hf
 rw[fQ h2] at h1
 refine⟨hid,H0,ρ,ow,_,E,h1,fun v as H' s n D=>?_⟩
 cases D with
 | @lst _ l vs _ as q r m=>
  obtain⟨dl,zq1⟩:=r.dl
  subst zq1
  exact k l vs H' s (n l bQ) q dl
end
section
variable {X:Cx}{O:Ow}{i:Nat}{x:Str}{pos' spos:Pos}{elt tg iter:Expr}{ifs:List Expr}{scope:Scope}{pos:Pos}{fi:ag->Option (List ae)}{S:ae->ag->Option ag}{ft:ag->Option Bool}{fe:ag->Option ae}{k:Nat}{N:List Str}{ix:List Nat}{T:Ty}
end
def ig (s:aG):List aG:=match s with
 | .ClassDef _ _ _ b _ _ _ _ _ _ _=>b
 | _=>[]
inductive ClsAt (K:ao)(cls:Str)(st:aG)(f1 f2:Str):Prop
 | mk (C f:af) (fd:aY) (a:bG K a_ cls=some (some (.ref C))) (m1:wm K C=true) (m2:cK K (.ref C) "__init__"=some (some (.ref f))) (m3:nK K (.ref f)=true) (m4:gK K (.ref C)=true)
  (c1:nM K C sg=true) (c2:l8 K C=true) (c3:sf K C=true) (c4:cK K (.ref C) "__setattr__"=some (some (.builtin "object.__setattr__"))) (n1:cK K (.ref C) f1=some none) (n2:cK K (.ref C) f2=some none)
  (F:bh K "__init__" (cls++".__init__") st f fd):ClsAt K cls st f1 f2
section
variable {P:aQ}{w:aM}{K:ao}{h:az}{mg:Str->Option ah}{base:az}{cls f1 f2:Str}{st:aG}{k:Nat}{ps:List Str}
theorem ClsAt.ok {F:List ae->Option (ae×ae)}(d:ClsAt K cls st f1 f2)(X:K.In h)(G:h.Ns a_ mg)
  (hb:∀ (kV doc pm:ah) (an:Option af) (cdv ct:ah) (us:List ah),us.length=ps.length->bO (fU "__init__" (cls++".__init__") (ij st) (eA st) (aS st) .none kV doc pm an cdv ct) ⟨us,[]⟩=aN (ps.zip us))
  (ok:∀ f fd,bh K "__init__" (cls++".__init__") st f fd->aW P w K mg base bx k f fd ps (Fb K cls f1 f2 F)):Gu P w K mg base k cls ps f1 f2 F:=by
 cases d with
 | mk C f fd a m1 m2 m3 m4 c1 c2 c3 c4 n1 n2 D=>exact⟨C,f,fd,⟨m1,m2,m3,m4⟩,ok f fd D,fV X G a,a,D.binds hb⟩
end
end L2
namespace L2
variable [Reg]
inductive FnAt (K:ao)(x:Str)(st:aG):Prop
 | mk (f:af) (fd:aY) (a:bG K a_ x=some (some (.ref f))) (F:bh K x x st f fd):FnAt K x st
section
variable {P:aQ}{w:aM}{K:ao}{h:az}{mg:Str->Option ah}{base:az}{x:Str}{st:aG}{k:Nat}{ps:List Str}{T:Ty}
theorem FnAt.ok {F:List ae->Option ae}(d:FnAt K x st)(X:K.In h)(G:h.Ns a_ mg)
  (hb:∀ (kV doc pm:ah) (an:Option af) (cdv ct:ah) (us:List ah),us.length=ps.length->bO (fU x x (ij st) (eA st) (aS st) .none kV doc pm an cdv ct) ⟨us,[]⟩=aN (ps.zip us))
  (ok:∀ f fd,bG K a_ x=some (some (.ref f))->bh K x x st f fd->aW P w K mg base bx k f fd ps (cx K T F)):bN P w K mg base k x ps T F:=by
 cases d with
 | mk f fd a D=>exact⟨f,fd,ok f fd a D,fV X G a,D.kp,D.binds hb,a⟩
theorem FnAt.law {F:List ae->Option ae}{fa:af}{v0:Str}(d:FnAt K x st)(X:K.In h)(G:h.Ns a_ mg)(hfa:mg x=some (.ref fa))
  (hb:∀ (kV doc pm:ah) (an:Option af) (cdv ct:ah) (s:ar) (v:ah),jz s (fU x x (ij st) (eA st) (aS st) .none kV doc pm an cdv ct) ⟨[v],[]⟩ [(v0,v)])
  (ok:∀ base f fd,bh K x x st f fd->aW P w K mg base bx k f fd ps (cx K T F)) :
  ∃ fd:aY,(∀ (s:ar) (v:ah),jz s fd ⟨[v],[]⟩ [(v0,v)])∧∀ base:az,K.In base->base.Ns a_ mg->aW P w K mg base bx k fa fd ps (cx K T F):=by
 cases d with
 | mk f fd a D=>
  cases hfa.symm.trans (fV X G a)
  refine⟨fd,?_,fun base _ _=>ok base _ fd D⟩
  obtain⟨oc,od,kV,doc,pm,an,cdv,ct,osl,e,_,_⟩:=D.ex
  subst e
  exact hb kV doc pm an cdv ct
end
def DO (K:ao)(x:Str):Bool:=match bG K a_ x with
 | some none=>true
 | _=>false
def DP (K:ao)(xs:List Str):Bool:=xs.all (DO K)
theorem gv {K:ao}{h:az}{mg:Str->Option ah}{xs:List Str}{x:Str}(X:K.In h)(G:h.Ns a_ mg)(q:DP K xs=true)(i:Nat)(hi:xs[i]?=some x):mg x=none:=by
 have h1:=List.all_eq_true.mp q x (pk hi)
 refine PySem.W.mg_none_of X G ?_
 unfold DO at h1
 generalize bG K a_ x=o at h1 ⊢
 cases o with
 | none=>exact L2.fj h1
 | some v=>cases v with
  | none=>rfl
  | some v=>exact L2.fj h1
end L2
namespace L2
def bd (a:Int)(n:Nat):Prop:=a.natAbs<2 ^ n
theorem bd.mono {a:Int}{m n:Nat}(h:bd a m)(hn:m≤n):bd a n:=dI h (Nat.pow_le_pow_right (by decide) hn)
theorem bd.add {a b:Int}{n:Nat}(h:bd a n)(h':bd b n):bd (a+b) (n+1):=kJ (Int.natAbs_add_le a b) (by rw[Nat.pow_succ,Nat.mul_two];exact Nat.add_lt_add h h')
theorem bd.sub {a b:Int}{n:Nat}(h:bd a n)(h':bd b n):bd (a - b) (n+1):=by
 rw[Int.sub_eq_add_neg]
 exact bd.add h (show (-b).natAbs<2 ^ n from by rw[Int.natAbs_neg];exact h')
theorem bd.neg {a:Int}{n:Nat}(h:bd a n):bd (-a) n:=show (-a).natAbs<2 ^ n from by rw[Int.natAbs_neg];exact h
theorem bd.big {a:Int}{n:Nat}(h:bd a n)(hn:n≤1000):lb a=true:=by
 unfold lb L2.big
 exact decide_eq_true (h.mono hn)
theorem Cm (d:ae)(r:List ae):ai (some d) (some r)=some (d::r):=rfl
theorem FE (b:Bool):bq (some (.bool b))=some b:=rfl
theorem Jq {α:Type}(a b:Option α):bu (some true) a b=a:=rfl
theorem Jp {α:Type}(a b:Option α):bu (some false) a b=b:=rfl
theorem Ib (y:Option Bool):BM (some true) y=y:=rfl
theorem Ia (y:Option Bool):BM (some false) y=some false:=rfl
theorem NI (y:Option Bool):mJ (some true) y=some true:=rfl
theorem NH (y:Option Bool):mJ (some false) y=y:=rfl
theorem Ie (y:Option ae):jO (some (.bool true)) y=y:=rfl
theorem Ic (y:Option ae):jO (some (.bool false)) y=some (.bool false):=rfl
theorem NK (y:Option ae):qr (some (.bool true)) y=some (.bool true):=rfl
theorem NJ (y:Option ae):qr (some (.bool false)) y=y:=rfl
theorem Mx (b:Bool):x9 (some (.bool b))=some (.bool (!b)):=rfl
theorem P7 (i:Nat)(ρ:ag)(d:ae):bj i ρ (some d)=some (.nx (ρ.set i (some d))):=rfl
theorem P6 (i:Nat)(ρ:ag)(d:List ae):qJ i ρ (some d)=some (.nx (ρ.set i (some (.list d)))):=rfl
theorem JK (ρ:ag)(d:ae):pU ρ (some d)=some (.nx ρ):=rfl
theorem J_ (S:ae->ag->Option ag)(F:ag->Option aA)(ds:List ae)(ρ:ag):sU S F (some ds) ρ=fD S F ds ρ:=rfl
theorem nV {S:ae->ag->Option ag}{ft:ag->Option Bool}{fe:ag->Option ae}{ds:List ae}{ρ:ag}(h:ds.length≤1000):c_ S ft fe (some ds) ρ=jc S ft fe ds ρ:=by
 unfold c_
 rw[bW,if_pos (decide_eq_true h)]
theorem Io (S:ae->ag->Option ag)(ρ:ag)(d:ae):Il S ρ (some d)=(S d ρ).map .nx:=rfl
def oC (o:Option aA)(G:ag->Option aA):Option aA:=o.bind fun o=>match o with
 | .nx ρ'=>G ρ'
 | .rt d=>some (.rt d)
 | .bk ρ'=>some (.bk ρ')
 | .ct ρ'=>some (.ct ρ')
theorem qI (F G:ag->Option aA)(ρ:ag):aX F G ρ=oC (F ρ) G:=rfl
theorem qR (ρ:ag)(G:ag->Option aA):oC (some (.nx ρ)) G=G ρ:=rfl
theorem RK (d:ae)(G:ag->Option aA):oC (some (.rt d)) G=some (.rt d):=rfl
theorem Qd {f:List ae->ae}(a b:ae):bo f (some [a,b])=some (f [a,b]):=rfl
theorem Qe:bX (some [])=some []:=rfl
theorem Qf (a:ae):bX (some [a])=some [a]:=rfl
theorem Qg (a b:ae):bX (some [a,b])=some [a,b]:=rfl
theorem Qh (a b c:ae):bX (some [a,b,c])=some [a,b,c]:=rfl
theorem Qi (a b c d:ae):bX (some [a,b,c,d])=some [a,b,c,d]:=rfl
theorem LF (ds:List ae):eG [.list ds]=some (.int ds.length):=rfl
theorem LG (ds:List ae):eG [.tuple ds]=some (.int ds.length):=rfl
theorem LR (ds:List ae):cH (.list ds)=some ds:=rfl
theorem RP (ds:List ae):RO (.tuple ds)=some ds:=rfl
theorem P0 (ds:List ae):ur (.list ds)=some ds:=rfl
theorem NM (d:ae):lp (some (.rt d))=some d:=rfl
theorem NL (ρ:ag):lp (some (.nx ρ))=some .none:=rfl
theorem cW (x y:ae)(g:ae->ae->Option ae):au (some x) (some y) g=g x y:=rfl
theorem CI {a b:Int}(h0:0<b)(hb:lb b=true):dz (.int a) (.int b)=some (.int (a / b)):=by
 have:b≠0:=by omega
 simp[dz,jo,eO,hb,this,Int.fdiv_eq_ediv_of_nonneg a (by omega:0≤b)]
theorem gT {a b:Int}(h0:0<b):cu (.int a) (.int b)=some (.int (a % b)):=by
 have:b≠0:=by omega
 simp[cu,jo,eO,this,Int.fmod_eq_emod_of_nonneg a (by omega:0≤b)]
theorem pN (a b:Int):ez (.int a) (.int b)=some (.int (a+b)):=rfl
theorem uB (a b:Int):iw (.int a) (.int b)=some (.int (a - b)):=rfl
theorem Dt (a b:Int):mG (.int a) (.int b)=some (.bool (decide (a<b))):=rfl
theorem LB (a b:Int):tu (.int a) (.int b)=some (.bool (decide (a≤b))):=rfl
theorem Ky (a b:Int):p7 (.int a) (.int b)=some (.bool (decide (b<a))):=rfl
theorem Kp (a b:Int):xC (.int a) (.int b)=some (.bool (decide (b≤a))):=rfl
theorem EZ (a:Int):fW (.int a)=true:=by simp[fW,i5,r9]
theorem Cz (a b:Int):cc (.int a) (.int b)=some (.bool (a==b)):=by simp[cc,EZ,i6]
theorem Mr (a b:Int):eJ (.int a) (.int b)=some (.bool (!(a==b))):=by simp[eJ,EZ,i6]
theorem J1 {α:Type}{p:α->Bool}{x:α}(h:p x=true):(some x).filter p=some x:=by rw[Hr,if_pos h]
def bM (p:Int×Int):ae:=.tuple [.int p.1,.int p.2]
def aR (ps:List (Int×Int)):ae:=.list (ps.map bM)
theorem Lh (a b:ae):bz (.tuple [a,b]) (.int 0)=some a:=rfl
theorem Li (a b:ae):bz (.tuple [a,b]) (.int 1)=some b:=rfl
theorem B6:∀ ps:List (Int×Int),pG (ps.map bM)=true∧wb (ps.map bM)≤1
 | []=>by simp[pG,wb]
 | p::r=>by
  obtain⟨h1,h2⟩:=B6 r
  simp[pG,wb,bM,i5,r9,h1]
  exact Nat.max_le.mpr ⟨cj _,h2⟩
theorem Qc (ps:List (Int×Int)):fW (aR ps)=true:=by
 obtain⟨h1,h2⟩:=B6 ps
 simp[fW,aR,i5,r9,h1]
 omega
theorem JS (p q:Int×Int):i6 (bM p) (bM q)=decide (p=q):=by
 obtain⟨a,b⟩:=p
 obtain⟨c,d⟩:=q
 rw[AI]
 simp[bM,i6,nG]
theorem CB:∀ ps qs:List (Int×Int),nG (ps.map bM) (qs.map bM)=decide (ps=qs)
 | [],[]=>by simp[nG]
 | [],_::_=>by simp[nG]
 | _::_,[]=>by simp[nG]
 | p::r,q::t=>by
  rw[bV,bV,nG,JS,CB r t,AI]
  simp
theorem Ih {i:Nat}{ρ:ag}{ds:List ae}{d:ae}(h:ρ[i]?=some (some (.list ds)))(hl:ds.length<1000):kU i ρ d=some (.nx (ρ.set i (some (.list (ds++[d]))))):=by
 unfold kU
 rw[h]
 simp only[Option.join_some,bW,cH]
 rw[if_pos (decide_eq_true hl)]
theorem O3 {n i:Nat}{d:ae}(h:(eT 0 n)[i]?=some d):i<n∧d=.int (i:Nat):=by
 unfold eT at h
 rw[e7] at h
 cases e:(iF n)[i]? with
 | none=>rw[e] at h;cases h
 | some j=>
  rw[e] at h
  obtain⟨h1,h2⟩:=List.getElem?_eq_some_iff.mp e
  have h3:i=j:=by simpa using h2
  subst h3
  have h4:PyData.int (0+(i:Nat))=d:=aE h
  exact⟨by simpa using h1,by rw[← h4,Int.zero_add]⟩
theorem CM {S:ae->ag->Option ag}{F:ag->Option aA}(I:Nat->ag->Prop):∀ (ds:List ae) (k:Nat) (ρ:ag),I k ρ ->
  (∀ (i:Nat) (d:ae) (ρ:ag),ds[i]?=some d->I (k+i) ρ->∃ ρ1 ρ2,S d ρ=some ρ1∧F ρ1=some (.nx ρ2)∧I (k+i+1) ρ2)->∃ ρ',fD S F ds ρ=some (.nx ρ')∧I (k+ds.length) ρ'
 | [],k,ρ,h,_=>⟨ρ,rfl,h⟩
 | d::r,k,ρ,h,step=>by
  obtain⟨ρ1,ρ2,h1,h2,h3⟩:=step 0 d ρ rfl h
  obtain⟨ρ',h4,h5⟩:=CM I r (k+1) ρ2 h3 fun i d' ρ' hd hi=>by
   have:=step (i+1) d' ρ' (by simpa using hd) (by rw[show k+(i+1)=k+1+i by omega];exact hi)
   rwa [show k+(i+1)+1=k+1+i+1 by omega] at this
  refine⟨ρ',?_,?_⟩
  ·rw[fD,h1,bW,h2,bW]
   exact h4
  ·rw[dB,show k+(r.length+1)=k+1+r.length by omega]
   exact h5
theorem mr {α β:Type}{S:ae->ag->Option ag}{fe:ag->Option ae}(ea:α->ae)(eb:β->ae)(g:α->β)(R:ag->Prop)(ok:α->Prop)
  (hS:∀ x ρ,ok x->R ρ->∃ ρ1,S (ea x) ρ=some ρ1∧R ρ1∧fe ρ1=some (eb (g x))):∀ (xs:List α) (ρ:ag),R ρ->(∀ x∈xs,ok x)->jc S (fun _=>some true) fe (xs.map ea) ρ=some ((xs.map g).map eb)
 | [],ρ,_,_=>rfl
 | x::r,ρ,h,ho=>by
  obtain⟨ρ1,h1,h2,h3⟩:=hS x ρ (ho x bQ) h
  rw[bV,jc,h1]
  simp only[bW,if_true,h3]
  rw[mr ea eb g R ok hS r ρ1 h2 fun y hy=>ho y (bP _ hy)]
  rfl
structure S5 (p:Int×Int):Prop where
 pos:0<p.2
 co:Int.gcd p.1 p.2=1
end L2
namespace L2
theorem RN {i:Nat}{c:List Str}{H:ag->Option aA}{ρ ρ':ag}{x:ae}(h:c.contains (w4 x)=true)(hh:H (ρ.set i (some x))=some (.nx ρ')):qS i c H (some (.ex x ρ))=some (.nx (ρ'.set i none)):=by
 show (if c.contains (w4 x)=true then (H (ρ.set i (some x))).map (aA.unset i) else none)=_
 rw[if_pos h,hh]
 rfl
def qg:Option Bool->Bool
 | some true=>true
 | _=>false
def qb:Option Bool->Bool
 | some false=>true
 | _=>false
theorem xM {x:Option Bool}(h:qg x=true):x=some true:=by
 unfold qg at h
 split at h
 ·rfl
 ·exact L2.fj h
theorem xK {x:Option Bool}(h:qb x=true):x=some false:=by
 unfold qb at h
 split at h
 ·rfl
 ·exact L2.fj h
theorem h_ {a b:Bool}(h:(a&&b)=true):a=true∧b=true:=by
 rw[cq] at h
 exact h
end L2
namespace L2
variable [Reg]
section
variable {P:aQ}{w:aM}{K:ao}{h:az}{mg:Str->Option ah}{base:az}{x:Str}{st:aG}{k:Nat}{ps:List Str}{T:Ty}
theorem FnAt.okX {F:List ae->Option RX}(d:FnAt K x st)(X:K.In h)(G:h.Ns a_ mg)
  (hb:∀ (kV doc pm:ah) (an:Option af) (cdv ct:ah) (us:List ah),us.length=ps.length->bO (fU x x (ij st) (eA st) (aS st) .none kV doc pm an cdv ct) ⟨us,[]⟩=aN (ps.zip us))
  (ok:∀ f fd,bG K a_ x=some (some (.ref f))->bh K x x st f fd->aW P w K mg base (de P w) k f fd ps (dE K T F)):cg P w K mg base k x ps T F:=by
 cases d with
 | mk f fd a D=>exact⟨f,fd,ok f fd a D,fV X G a,D.kp,D.binds hb,a⟩
end
def yt:Option (Option ah)->Option af
 | some (some (.ref C))=>some C
 | _=>none
theorem OU {o:Option (Option ah)}{C:af}(h:yt o=some C):o=some (some (.ref C)):=by
 cases o with
 | none=>exact L2.bp h
 | some v=>cases v with
  | none=>exact L2.bp h
  | some v=>cases v with
   | ref a=>cases h;rfl
   | _=>exact L2.bp h
def fN (K:ao)(x:Str):af:=(yt (bG K a_ x)).getD 0
def p9 (K:ao)(x:Str):Bool:=(yt (bG K a_ x)).isSome
variable {K:ao}{h:az}{mg:Str->Option ah}{exs:List Str}{x T:Str}
theorem pQ {C:af}(e:bG K a_ x=some (some (.ref C))):fN K x=C:=by unfold fN;rw[e];rfl
theorem C4 (q:p9 K x=true):bG K a_ x=some (some (.ref (fN K x))):=by
 unfold p9 at q
 obtain⟨C,e⟩:=Option.isSome_iff_exists.mp q
 have e2:=OU e
 rw[pQ e2]
 exact e2
def EN (o:Option Bool)(b:Bool):Bool:=bif b then qg o else qb o
theorem Pj {o:Option Bool}{b:Bool}(q:EN o b=true):o=some b:=by
 cases b with
 | true=>exact xM q
 | false=>exact xK q
def C7 (K:ao)(exs:List Str)(T:Str):Bool:=p9 K T&&(exs.all (fun c=>k6 K (fN K c)&&EN (i7 K (.ref (fN K c)) (.ref (fN K T))) (oz c T))&&qb (i7 K (.type "NoneType") (.ref (fN K T))))
def C9 (K:ao)(exs:List Str):Bool:=exs.all (fun c=>k6 K (fN K c)&&qg (i7 K (.ref (fN K c)) (.type "ValueError")))&&qb (i7 K (.type "NoneType") (.type "ValueError"))
def CC (K:ao)(exs:List Str)(D:af):Bool:=exs.all fun c=>qg (Bo K (.ref (fN K c)) (.ref D))
theorem gS (X:K.In h)(G:h.Ns a_ mg){Ts:List Str}(q:Ts.all (C7 K exs)=true)(i:Nat)(hi:Ts[i]?=some T):IsT K mg exs T (fN K T):=by
 have q1:=List.all_eq_true.mp q T (pk hi)
 obtain⟨a,q1⟩:=h_ q1
 obtain⟨b,c⟩:=h_ q1
 refine⟨fV X G (C4 a),fun cls hc C hC=>?_,xK c⟩
 obtain⟨b1,b2⟩:=h_ (List.all_eq_true.mp b cls hc)
 rw[pQ hC] at b1 b2
 exact⟨b1,Pj b2⟩
theorem K8 (q:C9 K exs=true):rM K exs:=by
 obtain⟨b,c⟩:=h_ q
 refine⟨fun cls hc C hC=>?_,xK c⟩
 obtain⟨b1,b2⟩:=h_ (List.all_eq_true.mp b cls hc)
 rw[pQ hC] at b1 b2
 exact⟨b1,xM b2⟩
inductive o2 (K:ao)(x:Str):Prop
 | mk (C:af) (ns:bG K a_ x=some (some (.ref C))) (e:mh K C):o2 K x
theorem zY (X:K.In h)(G:h.Ns a_ mg)(q:o2 K x):jM K mg x (fN K x):=by
 obtain⟨C,ns,e⟩:=q
 rw[pQ ns]
 exact⟨fV X G ns,ns,e⟩
theorem Jc (X:K.In h)(G:h.Ns a_ mg)(a:p9 K x=true)(q:CC K exs (fN K x)=true):mg x=some (.ref (fN K x))∧AR K exs (fN K x):=
 ⟨fV X G (C4 a),fun cls hc C hC=>by
  have b:=List.all_eq_true.mp q cls hc
  rw[pQ hC] at b
  exact xM b⟩
end L2
namespace L2
variable [Reg]
def rN (lo:Int)(n:Nat):It:=⟨fun i _=>i<n,fun i H x H'=>H'=H∧x=.int (lo+(i:Nat)*2),fun i _=>n≤i⟩
theorem RV {P:aQ}{w:aM}{K:ao}{tg:Expr}(it:af)(lo:Int)(n:Nat):mf P w K tg (rN lo n) [it] it (fun i h=>vJ h it (lo+(i:Nat)*2) ((n:Int) - (i:Nat)) 2) where
 mem:=by simp
 obj:=fun i h st b hb=>by
  obtain rfl:b=it:=by simpa using hb
  exact⟨_,st,fun v z=>by cases (show Data.fields _=Data.cell v from z)⟩
 keep:=fun i h h' st k=>k it (by simp) _ st
 item:=by
  intro X hP hw hK hc i pins s σ H E I hf st hg
  subst hP hw hK
  obtain⟨f0,f1,f2,f3,f4,f5⟩:=hf it (by simp)
  refine (Walks.range (prog:=X.prog) (w:=X.w) (I.ok.hd hc) it lo 2 n).item i s _ _ hg st fun v h' tk hv st' kk=>?_
  revert hv
  refine fun zqq=>?_;obtain⟨t,zq1⟩:=zqq
  subst zq1
  have I1:Inv X pins σ H {s with heap:=h',toks:=tk}:=I.turned (fun b o hb e=>kk b o (by simpa using hb) e) f0 f1 f3 f4 f5
  exact⟨_,rfl,sX (s:={s with heap:=h',toks:=tk}) (n:="range_iterator") st' rfl rfl (by decide) ⟨.int (lo+(i:Nat)*2),H,I1,⟨t,rfl⟩,⟨rfl,rfl⟩,st',fun b hb=>(hf b hb).1⟩⟩
 done:=by
  intro X hP hw hK hc i pins s σ H E I hf st hg
  subst hP hw hK
  obtain⟨f0,f1,f2,f3,f4,f5⟩:=hf it (by simp)
  exact Sx (I.ok.hd hc) st (by have:n≤i:=hg;omega) fun h' eb=>⟨rfl,I.turned (t':=s.toks) (fun b o hb e=>eb b o hb e) f0 f1 f3 f4 f5⟩
 self:=fun _ _ _ _ _ st h=>Sw st h
theorem E7 (a b:Int):vh a b 2=(((b - a+1) / 2).toNat:Int):=by
 unfold vh
 rw[if_pos (by decide)]
 split <;> omega
theorem Qr {a b:Int}(ha:-(2 ^ 61)≤a)(ha':a<2 ^ 61)(hb:-(2 ^ 61)≤b)(hb':b<2 ^ 61):Gf a b 2=true:=by
 have h:((((b - a+1) / 2).toNat:Nat):Int)≤2 ^ 62:=by omega
 have h0:=Int.natCast_nonneg ((b - a+1) / 2).toNat
 unfold Gf
 rw[E7]
 generalize ((((b - a+1) / 2).toNat:Nat):Int)=k at h h0
 simp only[Builtin.Range.rangeFitsLong,cq,AK,decide_eq_true_eq,beq_iff_eq,show (2:Int)>0 by decide,if_true]
 omega
section
variable {X:Cx}{tg:Expr}
def KJ (ta:TA):TI:=fun σ H R=>ta σ H fun vs H1=>∃ i j:Int,vs=[.int i,.int j,.int 2]∧(-(2 ^ 61)≤i∧i<2 ^ 61∧-(2 ^ 61)≤j∧j<2 ^ 61)∧R (rN i ((j - i+1) / 2).toNat) H1
theorem OS {pins:List (af×Obj)}{σ:St}{H:Hp}{s:ar}{R:It->Hp->Prop}{E:ah->ar->Prop}{lo hi:Int}{t u v:Tok}{tk:Nat}(I:Inv X pins σ H s)(h1:-(2 ^ 61)≤lo)(h2:lo<2 ^ 61)(h3:-(2 ^ 61)≤hi)(h4:hi<2 ^ 61)
  (q:R (rN lo ((hi - lo+1) / 2).toNat) H):aI (aF X.prog X.w) X.A (pyIter (.ref s.heap.objs.size)) (v7 X pins σ tg R) E {s with heap:=s.heap.push {cls:=.type "range",data:=.fields #[.int lo t,.int hi u,.int 2 v]},toks:=tk}:=by
 refine Sv (IsRange.new ..) (Qr h1 h2 h3 h4) ?_
 have I1:Inv X pins σ H {s with heap:=s.heap.push {cls:=.type "range",data:=.fields #[.int lo t,.int hi u,.int 2 v]},toks:=tk}:=I.kept fun b o e=>cL _ e
 refine ⟨_,([(s.heap.push {cls:=.type "range",data:=.fields #[.int lo t,.int hi u,.int 2 v]}).objs.size]),_,_,H,rfl,(I1.kept (t':=tk) fun b o e=>cL _ e),RV _ lo ((hi - lo+1) / 2).toNat,?_,(fun b hb=>?_),q⟩
 ·show vJ _ _ (lo+((0:Nat):Int)*2) (((((hi - lo+1) / 2).toNat:Nat):Int) - ((0:Nat):Int)) 2
  rw[show lo+((0:Nat):Int)*2=lo by simp,show (((((hi - lo+1) / 2).toNat:Nat):Int) - ((0:Nat):Int))=vh lo hi 2 by rw[E7];omega]
  exact fA _ rfl
 ·obtain rfl:b=(s.heap.push {cls:=.type "range",data:=.fields #[.int lo t,.int hi u,.int 2 v]}).objs.size:=by simpa using hb
  exact I1.fpOk (cj _) (I1.hok.fresh (cj _))
theorem N9 {a b c:Expr}{ta:TA}{p pos:Pos}(hg:Gl X "range")(hm:X.mg "range"=none)(ha:PA X [a,b,c] ta)(hs:ax [a,b,c] X.env=[(false,aB a X.env),(false,aB b X.env),(false,aB c X.env)]:=by rfl)(hs2:ax [b,c] X.env=[(false,aB b X.env),(false,aB c X.env)]:=by rfl) :
  PI X tg (.Call (.Name "range" p) [a,b,c] [] pos) (KJ ta):=by
 intro pins s σ H R I h
 refine Call_ (lh I hg hm boot_range (pH (aP (ha pos pins s σ H _ I h) fun us s1 ⟨vs,H1,I1,r1,q1⟩=>?_) (by rw[hs,hs2]) (by rw[hs2];rfl)))
 obtain⟨i,j,e,⟨q1,q2,q3,q4⟩,q⟩:=q1
 subst e
 cases r1 with
 | cons r rr=>
  cases rr with
  | cons r' rr=>
   cases rr with
   | cons r'' rr=>
    cases rr
    revert r
    refine fun zqq=>?_;obtain⟨t,zq1⟩:=zqq
    subst zq1
    revert r'
    refine fun zqq=>?_;obtain⟨t',zq1⟩:=zqq
    subst zq1
    revert r''
    refine fun zqq=>?_;obtain⟨t'',zq1⟩:=zqq
    subst zq1
    exact call_range_3 (by decide) (OS I1 q1 q2 q3 q4 q) (.inl (PyProof.noPylong_small (by decide)))
def FG:List ae->Option (ae×ae×ae)
 | [d,e,f]=>some (d,e,f)
 | _=>none
theorem RL {ds:List ae}{p:ae×ae×ae}(h:FG ds=some p):ds=[p.1,p.2.1,p.2.2]:=by
 cases ds with
 | nil=>exact L2.bp h
 | cons a r=>
  cases r with
  | nil=>exact L2.bp h
  | cons b r=>
   cases r with
   | nil=>exact L2.bp h
   | cons c r=>
    cases r with
    | nil=>rw[← aE h]
    | cons d r=>exact L2.bp h
def ir (lo:Int)(n:Nat):List ae:=(iF n).map fun i=>.int (lo+(i:Nat)*2)
def qE (ds:List ae):Option (List ae):=(FG ds).bind fun p=>(eO p.1).bind fun i=>(eO p.2.1).bind fun j=>(eO p.2.2).bind fun k=>if (decide (i.natAbs<2 ^ 60)&&(decide (j.natAbs<2 ^ 60)&&decide (k=2)))=true then some (ir i ((j - i+1) / 2).toNat) else none
theorem DH {j:Int}(h:j.natAbs<2 ^ 60):-(2 ^ 61)≤j∧j<2 ^ 61:=by omega
theorem OZ {ds es:List ae}(h:qE ds=some es):∃ i j,ds=[.int i,.int j,.int 2]∧(-(2 ^ 61)≤i∧i<2 ^ 61∧-(2 ^ 61)≤j∧j<2 ^ 61)∧es=ir i ((j - i+1) / 2).toNat:=by
 obtain⟨p,h1,g1⟩:=bind_some h
 obtain⟨i,h2,g2⟩:=bind_some g1
 obtain⟨j,h3,g3⟩:=bind_some g2
 obtain⟨k,h4,g4⟩:=bind_some g3
 obtain rfl:=RL h1
 rw[iO h2,iO h3,iO h4]
 split at g4
 ·rename_i hc
  rw[cq,cq] at hc
  have hc1:=DH (of_decide_eq_true hc.1)
  have hc2:=DH (of_decide_eq_true hc.2.1)
  rw[of_decide_eq_true hc.2.2]
  exact ⟨i,j,rfl,(⟨hc1.1,hc1.2,hc2.1,hc2.2⟩),(aE g4).symm⟩
 ·exact L2.bp g4
theorem Kx {K:ao}{G:Hp}(lo:Int)(n:Nat):gI K (rN lo n) G (ir lo n) where
 go:=fun H2 i s h=>by
  have:i<n:=by simpa [ir] using h
  exact this
 yld:=fun H2 i x H3 d s h y=>by
  revert y
  refine fun zqq=>?_;obtain⟨zq0,zq1⟩:=zqq
  subst zq0
  subst zq1
  unfold ir at h
  rw[e7] at h
  obtain⟨j,hj,zq2⟩:=Option.map_eq_some_iff.mp h
  subst zq2
  obtain⟨h1,h2⟩:=List.getElem?_eq_some_iff.mp hj
  rw[List.getElem_range] at h2
  subst h2
  exact .inl ⟨rfl,.int _⟩
 stop:=fun H2 s=>by
  show n≤(ir lo n).length
  simp[ir]
variable {O:Ow}{a b c:Expr}{p pos:Pos}{fs:ag->Option (List ae)}
theorem Ld (hg:Gl X "range")(hm:X.mg "range"=none)(ha:hV X O [a,b,c] fs)(hs:ax [a,b,c] X.env=[(false,aB a X.env),(false,aB b X.env),(false,aB c X.env)]:=by rfl)(hs2:ax [b,c] X.env=[(false,aB b X.env),(false,aB c X.env)]:=by rfl) :
  kO X O tg (.Call (.Name "range" p) [a,b,c] [] pos) (fun ρ=>(fs ρ).bind qE):=
 (N9 hg hm ha hs hs2).imp fun σ H R zpat=>by
  obtain⟨hid,H0,ρ,ow,ds,E,hf,k⟩:=zpat
  obtain⟨es,h1,h2⟩:=bind_some hf
  obtain⟨i,j,zq2,h3,zq4⟩:=OZ h2
  subst zq2
  subst zq4
  refine⟨hid,H0,ρ,ow,_,E,h1,fun vs H' s D=>?_⟩
  obtain⟨v,ws,zq2,D1,D'⟩:=mw D
  subst zq2
  obtain⟨v2,ws2,zq2,D2,D''⟩:=mw D'
  subst zq2
  obtain⟨v3,ws3,zq2,D3,D4⟩:=mw D''
  subst zq2
  exact ⟨i,j,(by rw[eD D1,eD D2,eD D3,sI D4]),h3,k _ H' s (Kx i _)⟩
end
end L2
namespace L2
theorem OX:uO (.type "list_reverseiterator") "__len__"=aN none:=by rw[typeLookup_type,IH];kernel_rfl
theorem OW:uO (.type "list_reverseiterator") "__length_hint__"=aN (some (.builtin "list_reverseiterator.__length_hint__")):=by rw[typeLookup_type,IH];kernel_rfl
theorem OY:isSubtype (.type "list_reverseiterator") (.type "list_reverseiterator")=aN true:=by rw[isSubtype_type];kernel_rfl
section
variable {P:aQ}{w:aM}{A:bw}{E:ah->ar->Prop}{s:ar}
theorem KD {J:af}{Q:Bool->ar->Prop}(ty:s.TypeIs (.ref J) "list_reverseiterator")(h:Q false s):aI (aF P w) A (F_ (.ref J)) Q E s:=by
 unfold F_
 refine aU (F0 ty OX ?_)
 refine aU (F0 ty OW ?_)
 generalize e0:("list_reverseiterator.__length_hint__":String)=nm
 wp_delta
 rw[show splitId nm=some ("list_reverseiterator","__length_hint__") from by subst e0;decide +kernel]
 subst e0
 refine aU (wpAny_isInstance (T:="list_reverseiterator") (b:=true) ty OY (zV (fun z=>absurd z (by decide)) fun _=>zV (fun _=>?_) fun z=>absurd (by decide +kernel) z))
 exact zV (fun z=>absurd z (by decide +kernel)) fun _=>bU h
theorem La {items acc:Array ah}(h:ItemsOf (fun i v=>items[items.size - 1 - i]?=some v) acc items.size):acc=items.toList.reverse.toArray:=by
 obtain⟨h1,h2⟩:=id h
 apply Array.ext
 ·rw[h1];simp
 ·intro i h3 h4
  have h5:items[items.size - 1 - i]?=some acc[i]:=h2 i acc[i] (z_ h3)
  have h6:i<items.size:=by omega
  rw[z_ (by omega)] at h5
  rw[← aE h5]
  simp
theorem IU {Q:ah->ar->Prop}(hh:A.handled=none){J l:af}{items:Array ah}(hJ:s.heap.IsRevIter J l ((items.size:Int) - 1))(hl:s.heap.IsList l items)(hne:l≠J)(hz:items.size≤sizeLine)
  (hQ:∀ h' tk c',(∀ b o,b≠J->s.heap.get? b=some o->h'.get? b=some o)->h'.get? s.heap.objs.size=some {cls:=.type "list",dict:=none,data:=.seq items.toList.reverse.toArray c',slots:=#[]}->Q (.ref s.heap.objs.size) {s with heap:=h',toks:=tk}) :
  aI (aF P w) A (call (.type "list") [.ref J]) Q E s:=by
 have hJl:J<s.heap.objs.size:=bA hJ.choose_spec.1
 have hll:l<s.heap.objs.size:=bA hl.choose_spec.1
 refine callType_codes (Q₁:=fun obj s₁=>obj=.ref s.heap.objs.size∧s₁={s with heap:=s.heap.push {cls:=.type "list",data:=.seq #[]}}) F.called_list (F.typeCall_list_1 _) F.entry_list_init
  (code_list_new _ ⟨rfl,rfl⟩) fun obj s₁ h₁=>?_
 revert h₁
 refine fun zqq=>?_;obtain⟨zq0,zq1⟩:=zqq
 subst zq0
 subst zq1
 have hSJ:s.heap.objs.size≠J:=pA hJl
 have hSl:s.heap.objs.size≠l:=pA hll
 generalize hS0:s.heap.objs.size=S at hSJ hSl hQ ⊢
 have hS:(s.heap.push {cls:=.type "list",data:=.seq #[]}).get? S=some {cls:=.type "list",data:=.seq #[]}:=by rw[← hS0];exact fA _ rfl
 refine⟨⟨_,hS,rfl⟩,F.args_list_init_2 _ _,?_⟩
 show aI _ A.in1.in1 (do let old ← F9 (.ref S);Builtin.List.listUpdate (.ref S) (fun _=>#[]);letGo old.toList.reverse;AL (.ref S) (.ref J) .none) _ _ _
 refine aU ?_
 unfold F9
 refine aU (wpAny_seqItems hS rfl (bU ?_))
 show aI _ _ (updateSeq S (fun _=>#[]) >>= fun _=>letGo (#[]:Array ah).toList.reverse >>= fun _=>AL (.ref S) (.ref J) .none) _ _ _
 refine aU (F1 hS rfl ?_)
 have hS2:=nj (kM (fun _=>(#[]:Array ah))) hS rfl
 have oth1:∀ b o,b≠S->s.heap.get? b=some o->((s.heap.push {cls:=.type "list",data:=.seq #[]}).update S (kM (fun _=>(#[]:Array ah)))).get? b=some o:=fun b o hb e=>(lV _ _ (cn hb)).trans (cL _ e)
 refine aU (wpAny_letGo ?_)
 generalize (s.heap.push {cls:=.type "list",data:=.seq #[]}).update S (kM (fun _=>(#[]:Array ah)))=h1 at hS2 oth1
 have hJ1:h1.IsRevIter J l ((items.size:Int) - 1):=hJ.at fun o e=>oth1 J o (cn hSJ) e
 have hl1:h1.IsList l items:=hl.at fun o e=>oth1 l o (cn hSl) e
 have W:=(Walks.listRev (prog:=P) (w:=w) (A:=A.in1.in1) hh J l hne items).toS
 have key:∀ (h:az) (c1 tk:Nat),(items.size:Nat)=items.size->h.IsRevIter J l ((items.size:Int) - 1)->h.IsList l items->(∀ b o,b≠S->s.heap.get? b=some o->h.get? b=some o)->h.get? S=some {cls:=.type "list",data:=.seq #[] c1} ->
   gm (aF P w) A.in1 (.builtin "list.extend.loop" ⟨[.ref S,.ref J,.none],[]⟩) (wants (fun r s₂=>r=.none∧Q (.ref S) s₂) E) {s with heap:=h,toks:=tk}:=by
  intro h c1 tk _ hj hlh hk hSh
  refine codeAny_extend_loopS W hz S (by simp[hSJ,hSl]) .none items.size 0 _ #[] c1 rfl (kL _) ⟨kL _,by simpa using hj,hlh⟩ hSh (ItemsOf.nil _) fun s' acc' c' hm hS' hacc=>?_
  rw[Moved.eq_with hm]
  refine⟨rfl,?_⟩
  rw[La hacc] at hS'
  refine hQ s'.heap s'.toks c' (fun b o hb e=>hm.heap b o (fun hmem=>?_) (hk b o (fun z=>?_) e)) hS'
  ·rcases List.mem_cons.mp hmem with e' | hmem
   ·rw[e',← hS0] at e;exact absurd (bA e) (jG _)
   ·exact hb (List.mem_singleton.mp hmem)
  ·rw[z,← hS0] at e;exact absurd (bA e) (jG _)
 unfold AL
 refine aU (wpAny_typeOf (s:={s with heap:=h1}) hJ1.typeIs ?_)
 have n1:Ga (.ref S) (.ref J)=false:=by simp[Ga,hSJ]
 simp only[n1,show (Value.type "list_reverseiterator"==Value.type "list")=false by decide,show (Value.type "list_reverseiterator"==Value.type "tuple")=false by decide,Bool.or_false,AJ,if_false]
 refine aU (wpAny_pyIter_revIter hJ1 ?_)
 refine aU (oH (KD (s:={s with heap:=h1}) hJ1.typeIs ?_))
 refine zV (fun _=>?_) (fun _=>bU ⟨plainId_quiet GG _,key _ _ _ rfl hJ1 hl1 oth1 hS2⟩)
 refine aU (wpAny_rule ?_)
 refine aU ?_
 show aI _ _ (updateSeq S (·.push .none) >>= fun _=>updateSeq S (·.pop)) _ _ _
 refine aU (F1 hS2 rfl ?_)
 have u1:=nj (kM (·.push Value.none)) hS2 rfl
 refine F1 (hz:=by seq_fits) u1 rfl ?_
 have u2:=nj (kM (·.pop)) u1 rfl
 have oth:∀ b o,b≠S->h1.get? b=some o->((h1.update S (kM (·.push Value.none))).update S (kM (·.pop))).get? b=some o:=fun b o hb e=>(lV _ _ (cn hb)).trans ((lV _ _ (cn hb)).trans e)
 exact bU ⟨plainId_quiet GG _,key _ _ _ rfl (hJ1.at fun o e=>oth J o (cn hSJ) e) (hl1.at fun o e=>oth l o (cn hSl) e) (fun b o hb e=>oth b o hb (oth1 b o hb e)) u2⟩
end
theorem ID:dJ "list"=some (.type "list"):=by decide +kernel
theorem IG:dJ "reversed"=some (.type "reversed"):=by decide +kernel
section
variable [Reg]{X:Cx}{O:Ow}{a:Expr}{fa:ag->Option ae}{p p2 pos pos2:Pos}
theorem Kb (hc:X.calm=true)(hg:Gl X "list")(hm:X.mg "list"=none)(hg2:Gl X "reversed")(hm2:X.mg "reversed"=none)(ha:PR X O a fa)
  (he:ax [.Call (.Name "reversed" p2) [a] [] pos2] X.env=(false,aB (.Call (.Name "reversed" p2) [a] [] pos2) X.env)::ax [] X.env:=by rfl) (hpl:(a0 pos (ax [] X.env)).any (·.1)=false:=by rfl)
  (he2:ax [a] X.env=(false,aB a X.env)::ax [] X.env:=by rfl) (hpl2:(a0 pos2 (ax [] X.env)).any (·.1)=false:=by rfl) (hn:(a0 pos (ax [] X.env))=[]:=by rfl) :
  bL X O (.Call (.Name "list" p) [.Call (.Name "reversed" p2) [a] [] pos2] [] pos) (fun ρ=>(fa ρ).bind t9):=by
 intro pins s σ H Q I h
 obtain⟨hid,H0,ρ,ow,out,E,hf,k⟩:=h
 obtain⟨d,g1,g2⟩:=bind_some hf
 unfold t9 at g2
 split at g2
 case h_2=>cases g2
 rename_i ds
 obtain rfl:=aE g2
 refine mV (lh I hg hm ID ?_)
 refine pH ?_ he hpl
 rw[he]
 show aI _ _ (spliced ((false,aB (.Call (.Name "reversed" p2) [a] [] pos2) X.env)::a0 pos (ax [] X.env))) _ _ s
 rw[hn]
 refine AO ?_
 refine mV (lh I hg2 hm2 IG ?_)
 refine pH (aP (pa_cons ha pa_nil he2 pos2 pins s σ H (fun vs H'=>∃ v,vs=[v]∧ay H H'∧aJ X.K (av H' hid) v (.list ds)) I ⟨hid,H0,ρ,ow,_,E,g1,fun v H' s' D=>⟨v,rfl,s',D⟩⟩) fun us s1 zpat=>?_) he2 hpl2
 obtain⟨vs,H1,I1,r1,v,rfl,s01,D1⟩:=zpat
 obtain⟨u,zq1,rx⟩:=vals1 r1
 subst zq1
 obtain⟨q,xs,rfl,q1,r3⟩:=dU D1
 cases rx
 obtain⟨its,r,pl,hz⟩:=I1.list ((bH _ _).seq q1)
 have hlen:=r.length
 have hL:=pl.isList
 refine call_reversed_list hL ?_
 have hql:q<s1.heap.objs.size:=bA hL.choose_spec.1
 refine AQ ?_
 have hrev:Heap.IsRevIter (s1.heap.push (t_ q ((its.toArray.size:Int) - 1))) s1.heap.objs.size q ((its.toArray.size:Int) - 1):=⟨_,fA _ rfl,rfl,rfl⟩
 refine IU (I.ok.hd hc) (s:={s1 with heap:=s1.heap.push (t_ q ((its.toArray.size:Int) - 1))}) hrev (hL.at fun o e=>cL _ e) (cJ hql) (by simp only[e_];omega) fun h' tk c' hk hnew=>?_
 have szp:(s1.heap.push (t_ q ((its.toArray.size:Int) - 1))).objs.size=s1.heap.objs.size+1:=A6 _ _
 have hkeep:∀ b o,s1.heap.get? b=some o->h'.get? b=some o:=fun b o e=>hk b o (fun z=>by rw[z] at e;exact absurd (bA e) (jG _)) (cL _ e)
 have hfr:=I1.hok.fresh (a:=s1.heap.objs.size+1) (nz _)
 have hnew':h'.get? (s1.heap.objs.size+1)=some {cls:=.type "list",dict:=none,data:=.seq its.reverse.toArray c',slots:=#[]}:=by
  have:=hnew
  rw[show (Shared.heap {s1 with heap:=s1.heap.push (t_ q ((its.toArray.size:Int) - 1))}).objs.size=s1.heap.objs.size+1 from szp] at this
  exact this
 rw[show (Shared.heap {s1 with heap:=s1.heap.push (t_ q ((its.toArray.size:Int) - 1))}).objs.size=s1.heap.objs.size+1 from szp]
 refine⟨.ref (s1.heap.objs.size+1),_,I1.laid (a:=s1.heap.objs.size+1) (t':=tk) (o:=.lst xs.reverse) hkeep (nz _) ⟨by rw[Hm];exact hz,its.reverse,c',Si r,hnew'⟩,rfl,?_⟩
 exact k _ _ _ (s01.trans (cb hfr)) (s01.free hfr) cD ((r3.rev).mono (k4 (cb hfr) hfr fun b z=>by rcases z with z | z;exact .inl z;exact .inr (by simpa using z)))
end
end L2
namespace L2
section
variable {P:aQ}{w:aM}{A:bw}{E:ah->ar->Prop}{s:ar}
end
variable [Reg]
end L2
namespace L2
variable [Reg]
theorem aK.lend {K:ao}{O:Ow}{hid:af->Prop}{H0 H:Hp}{σ:St}{ρ:ag}{ow:List af}(E:aK K O hid H0 σ H ρ ow){i:Nat}{es0:List ae}(hi:O.s.lookup i=some (.lst .cl))(hρ:ρ[i]?=some (some (.list es0))) :
  ∃ l,σ[i]?=some (some (.ref l))∧∀ (j:Nat) (us:List V) (ds:List ae) (T:Ty) (F:List ae->Option (ae×List ae)) (r:ae×List ae) (Q:VK),us[j]?=some (.ref l)->ds.length=us.length->ds[j]?=some (.list es0) ->
   (∀ (m:Nat) (v:V) (d:ae),m≠j->us[m]?=some v->ds[m]?=some d->aJ K (av H (uni hid ow)) v d)->F ds=some r ->
   (∀ v H',aK K O hid H0 σ H' (ρ.set i (some (.list r.2))) ow->ay (av H (uni hid ow)) (av H' (uni hid ow))->aJ K (av H' (uni hid ow)) v r.1->Q v H')->wz K j T F us H Q:=by
 obtain⟨l,vs,h1,h2,h3,h4,h5⟩:=E.at0 hi hρ
 refine⟨l,h1,fun j us ds T F r Q g1 g2 g3 g4 g5 k=>?_⟩
 have hlo:uni hid ow l:=.inr h4
 have hu:uni (fun b=>uni hid ow b∧b≠l) [l]=uni hid ow:=by
  funext b
  apply propext
  constructor
  ·rintro (z | z)
   ·exact z.1
   ·rw[List.mem_singleton.mp z];exact hlo
  ·intro z
   by_cases e:b=l
   ·exact .inr (List.mem_singleton.mpr e)
   ·exact .inl ⟨z,e⟩
 have big:∀ (as:List af) (b:af),uni hid ow b->uni (fun b=>uni hid ow b∧b≠l) (l::as) b:=fun as b z=>by
  by_cases e:b=l
  ·exact .inr (by rw[e];exact bQ)
  ·exact .inl ⟨z,e⟩
 refine⟨fun b=>uni hid ow b∧b≠l,l,vs,es0,ds,r,fun b z=>E.uniL b z.1,fun z=>z.2 rfl,g1,h2,by rw[hu];exact h3,g2,g3,fun m v d hm a b=>by rw[hu];exact g4 m v d hm a b,g5,fun v as H' ws' s' hl' hD n Dv=>?_⟩
 have s2:ay H (upd H' l (.lst vs)):=fun b o e=>by
  by_cases hb:b=l
  ·rw[hb,cD];rw[hb] at e;rw[h2] at e;exact e
  ·rw[ba hb];exact s' b o (by rw[sH hb];exact e)
 have e2:upd (upd H' l (.lst vs)) l (.lst ws')=H':=by
  funext b
  by_cases hb:b=l
  ·rw[hb,cD];exact hl'.symm
  ·rw[ba hb,ba hb]
 have q:=h5 _ s2 ws' r.2 (by rw[gp hlo];exact hD.mono (cN (big as)))
 rw[e2] at q
 refine k v H' q (fun b o z=>?_) (Dv.raw (cN (big as)) fun p hp o z=>?_)
 ·by_cases hb:uni hid ow b
  ·rw[dy hb] at z;cases z
  ·rw[bE hb] at z ⊢
   exact s' b o (by rw[sH fun e=>hb (by rw[e];exact hlo)];exact z)
 ·rw[bE (E.fresh (n p hp))]
  exact z
section
variable {X:Cx}{O:Ow}{a b e:Expr}{es:List Expr}{pos p:Pos}{k:Nat}{ps:List Str}{x:Str}{T:Ty}
def uJ (x:Option (ae×ag)):Option (Bool×ag):=x.bind fun r=>(ja r.1).map fun b=>(b,r.2)
variable {ga:ag->Option (Bool×ag)}{gb:ag->Option Bool}{rest:List Expr}
def CW (x:Option (Bool×ag))(F G:ag->Option aA):Option aA:=x.bind fun r=>if r.1=true then F r.2 else G r.2
end
end L2
namespace L2
section
variable {X:Cx}
end
variable [Reg]
section
variable {X:Cx}{O:Ow}{a b e:Expr}{pos:Pos}{f:ag->Option ae}
end
end L2
namespace L2
variable [Reg]
section
variable {X:Cx}{O:Ow}{e:Expr}{pos:Pos}{f:ag->Option ae}{T:Ty}
end
end L2
namespace L2
variable [Reg]
end L2
namespace L2
structure BL (z TI TO i1 i2:af)(f1 f2:List af):Prop where
 nd:[z,TI,TO,i1,i2].Nodup
 a1:z∉f1∧TO∉f1∧i2∉f1
 a2:z∉f2∧TO∉f2∧i1∉f2
theorem BL.ne {z TI TO i1 i2:af}{f1 f2:List af}(ap:BL z TI TO i1 i2 f1 f2):(z≠TI∧z≠TO∧z≠i1∧z≠i2)∧(TI≠TO∧TI≠i1∧TI≠i2)∧(TO≠i1∧TO≠i2)∧i1≠i2:=by
 have nd:=ap.nd
 simp only[List.nodup_cons,nv,dC,or_false,not_or,List.nodup_nil,and_true,not_false_eq_true] at nd
 exact nd
section
variable {P:aQ}{w:aM}{A:bw}{E:ah->ar->Prop}{s:ar}{z TI TO i1 i2:af}{f1 f2:List af}{n1 n2 k1 k2:Nat}{P1 P2:Nat->ah->Prop}{S1 S2:Nat->az->Prop}{a b:ah}
theorem stay {it c:af}{f:List af}{n k:Nat}{Pv:Nat->ah->Prop}{S:Nat->az->Prop}(D:Draws P w A it f n Pv S){h h':az}(st:S k h)(x:Heap.ExtBut c h h')(hc:c∉f):S k h':=D.frame k h h' st fun b hb o e=>x b o (fun y=>hc (y▸hb)) e
end
abbrev F3 (h:az)(l1 l2:af):az:=h.push {cls:=.type "list_iterator",data:=.fields #[.ref l1,.int 0 0]}
abbrev F4 (h:az)(l1 l2:af):az:=(F3 h l1 l2).push {cls:=.type "tuple_iterator",data:=.fields #[.ref l2,.int 0 0]}
abbrev F5 (h:az)(l1 l2:af):az:=(F4 h l1 l2).push {cls:=.type "tuple",data:=.seq #[.ref h.objs.size,.ref (F3 h l1 l2).objs.size]}
abbrev S0 (h:az)(l1 l2:af):az:=(F5 h l1 l2).push {cls:=.type "tuple",data:=.seq #[.none,.none]}
abbrev Tq (h:az)(l1 l2:af):az:=(S0 h l1 l2).push {cls:=.type "zip",data:=.fields #[.none,.bool false,.bool false,.ref (F4 h l1 l2).objs.size,.ref (F5 h l1 l2).objs.size]}
section
variable {P:aQ}{w:aM}{A:bw}{E:ah->ar->Prop}{s:ar}
end
variable [Reg]
end L2
namespace L2
structure S3 (sc:Scope)(XN:List Str)(scope:Scope)(k:Nat)(N:List Str)(ix:List Nat)(x0:Str):Prop where
 kind:scope.kind=.function
 okind:sc.kind=.function
 onec:(scope.names.filter fun y=>y.2==.cell)=[(x0,.cell)]
 x0c:scope.names.lookup x0=some .cell
 loc:∀ y∈scope.names,y.2=.local->scope.names.lookup y.1=some .local
 fr:∀ y∈scope.names,y.2=.free->sc.names.lookup y.1=some .cell
 sl:ix.map (fun i=>XN[i]?)=(N.drop k).map some
 frl:∀ x∈N.drop k,scope.names.lookup x=some .free
 len:N.length=k+ix.length
section
variable {X:Cx}{pins:List (af×Obj)}{σ:St}{H:Hp}{s:ar}{scope:Scope}{k:Nat}{N:List Str}{ix:List Nat}{sc:Scope}{fp:List af}{x0:Str}
end
variable [Reg]
end L2
namespace L2
variable [Reg]
section
variable {P:aQ}{w:aM}{K:ao}{h:az}{mg:Str->Option ah}{base:az}{x:Str}{st:aG}{k j:Nat}{ps:List Str}{T:Ty}
theorem FnAt.okI {F:List ae->Option (ae×List ae)}(d:FnAt K x st)(X:K.In h)(G:h.Ns a_ mg)
  (hb:∀ (kV doc pm:ah) (an:Option af) (cdv ct:ah) (us:List ah),us.length=ps.length->bO (fU x x (ij st) (eA st) (aS st) .none kV doc pm an cdv ct) ⟨us,[]⟩=aN (ps.zip us))
  (ok:∀ f fd,bG K a_ x=some (some (.ref f))->bh K x x st f fd->aW P w K mg base bx k f fd ps (uw K j T F)):rg P w K mg base k x ps j T F:=by
 cases d with
 | mk f fd a D=>exact⟨f,fd,ok f fd a D,fV X G a,D.kp,D.binds hb,a⟩
end
end L2
namespace L2
variable [Reg]
section
variable {X:Cx}{O:Ow}{b:Expr}{es:List Expr}{pos p:Pos}{k:Nat}{ps:List Str}{x:Str}{T:Ty}
def sy (i:Nat)(F:List ae->Option (ae×List ae))(fs:ag->Option (List ae))(ρ:ag):Option (ae×ag):=(fs ρ).bind fun ds=>((ρ[i]?).join.bind cH).bind fun xs=>(F (.list xs::ds)).map fun z=>(z.1,ρ.set i (some (.list z.2)))
theorem SA {i:Nat}{fs:ag->Option (List ae)}{F:List ae->Option (ae×List ae)}(G:rg X.prog X.w X.K X.mg X.base k x ps 0 T F)(hr:bC k X.A)(hg:Gl X x)(hb:PE X b (dG i))(hes:fS X O es fs)(hO:O.s.lookup i=some (.lst .cl):=by rfl)(hdb:(x==("__debug__":Str))=false:=by decide)(he:ax (b::es) X.env=(false,aB b X.env)::ax es X.env:=by rfl)(hpl:(a0 pos (ax es X.env)).any (·.1)=false:=by rfl) :
  PX X O (.Call (.Name x p) (b::es) [] pos) (sy i F fs):=by
 obtain⟨f,fd,g1,g2,g3,g4,_⟩:=G
 exact (qt g1 hr hg g2 g3 g4 .nil js (pa_cons hb hes he) hdb he hpl).imp fun σ H Q zpat=>by
  obtain⟨hid,H0,ρ,ow,r,E,hf,k⟩:=zpat
  obtain⟨ds,e1,hf⟩:=bind_some hf
  obtain⟨xs,e2,hf⟩:=bind_some hf
  obtain⟨z,e3,rfl⟩:=map_some hf
  obtain⟨dl,e4,e5⟩:=bind_some e2
  rw[fQ e5] at e4
  obtain⟨l,h1,_⟩:=E.lend hO (join_some e4)
  refine⟨.ref l,h1,hid,H0,ρ,ow,ds,E,e1,fun us H1 s1 D1=>?_⟩
  obtain⟨l',h1',h2⟩:=(E.mono s1).lend hO (join_some e4)
  rw[h1] at h1'
  cases h1'
  rw[e6]
  refine h2 0 _ (.list xs::ds) T F z Q rfl (by rw[dB,dB,D1.length]) rfl (fun m w dd hm hv hd=>?_) e3 fun v' H' E' s' D'=>k v' H' E' ((aZ s1 _).trans s') D'
  cases m with
  | zero=>exact absurd rfl hm
  | succ m=>
   obtain⟨w',q1,q2⟩:=D1.get (by simpa using hd)
   rw[vR] at hv
   rw[q1] at hv
   obtain rfl:=aE hv
   exact q2
end
end L2
namespace L2
variable [Reg]
def QS (K:ao)(O:Ow)(f:ag->Option (List ae×ag)):TA:=fun σ H Q=>dA K O f σ H fun hid H0 ρ ow r=>∀ vs H',aK K O hid H0 σ H' r.2 ow->ay (av H (uni hid ow)) (av H' (uni hid ow))->aD K (av H' (uni hid ow)) vs r.1->Q vs H'
abbrev pC (X:Cx)(O:Ow)(es:List Expr)(f:ag->Option (List ae×ag)):Prop:=PA X es (QS X.K O f)
def iI (fa:ag->Option (ae×ag))(fs:ag->Option (List ae×ag))(ρ:ag):Option (List ae×ag):=(fa ρ).bind fun r=>(fs r.2).map fun q=>(r.1::q.1,q.2)
section
variable {X:Cx}{O:Ow}{a b e:Expr}{es:List Expr}{fa fb:ag->Option ae}{pos p pos':Pos}
theorem BU:pC X O [] (fun ρ=>some ([],ρ)):=pa_nil.imp fun σ H Q zpat=>by
 obtain⟨hid,H0,ρ,ow,r,E,hf,k⟩:=zpat
 cases hf
 exact k [] H E (ay.refl _) .nil
theorem wN {fa:ag->Option (ae×ag)}{fs:ag->Option (List ae×ag)}(ha:PX X O a fa)(hr:pC X O es fs)(hs:ax (a::es) X.env=(false,aB a X.env)::ax es X.env:=by rfl):pC X O (a::es) (iI fa fs):=(pa_cons ha hr hs).imp fun σ H Q zpat=>by
 obtain⟨hid,H0,ρ,ow,r,E,hf,k⟩:=zpat
 obtain⟨r1,h1,h2⟩:=bind_some hf
 obtain⟨q1,h3,rfl⟩:=map_some h2
 exact⟨hid,H0,ρ,ow,r1,E,h1,fun x H1 E1 s1 D1=>⟨hid,H0,r1.2,ow,q1,E1,h3,fun vs H2 E2 s2 D2=>k _ H2 E2 (s1.trans s2) (.cons (D1.mono s2) D2)⟩⟩
def qo (fs:ag->Option (List ae×ag))(ρ:ag):Option (ae×ag):=(fs ρ).bind fun r=>if decide (r.1.length≤1000)=true then some (.list r.1,r.2) else none
def qT (fs:ag->Option (List ae×ag))(ρ:ag):Option (ae×ag):=(fs ρ).bind fun r=>if decide (r.1.length≤1000)=true then some (.tuple r.1,r.2) else none
theorem SG {fs:ag->Option (List ae×ag)}(h:pC X O es fs):PX X O (.List es pos) (qo fs):=(yl h).imp fun σ H Q zpat=>by
 obtain⟨hid,H0,ρ,ow,r,E,hf,k⟩:=zpat
 obtain⟨r1,h1,h2⟩:=bind_some hf
 split at h2
 case isFalse=>cases h2
 rename_i hc
 cases h2
 refine⟨hid,H0,ρ,ow,r1,E,h1,fun vs H1 E1 s1 D1=>⟨?_,fun q hq=>?_⟩⟩
 ·rw[D1.length]
  exact ny (E9 (of_decide_eq_true hc))
 ·exact k _ _ (E1.mono (cb hq)) (s1.trans (aZ (cb hq) _)) (.lst (bD.of (E1.newAt hq)) (D1.mono (aZ (cb hq) _)))
theorem SJ {x1}{fs:ag->Option (List ae×ag)}(h:pC X O es fs):PX X O (.Tuple es x1 pos) (qT fs):=(tZ h).imp fun σ H Q zpat=>by
 obtain⟨hid,H0,ρ,ow,r,E,hf,k⟩:=zpat
 obtain⟨r1,h1,h2⟩:=bind_some hf
 split at h2
 case isFalse=>cases h2
 rename_i hc
 cases h2
 refine⟨hid,H0,ρ,ow,r1,E,h1,fun vs H1 E1 s1 D1=>⟨?_,fun q hq=>?_⟩⟩
 ·rw[D1.length]
  exact ny (E9 (of_decide_eq_true hc))
 ·exact k _ _ (E1.mono (cb hq)) (s1.trans (aZ (cb hq) _)) (.tup (cF.of (E1.newAt hq)) (D1.mono (aZ (cb hq) _)))
def CN (S:ae->ag->Option ag)(F:ag->Option aA)(x:Option (ae×ag)):Option aA:=x.bind fun r=>(lu [r.1]).bind fun ds=>fD S F ds r.2
theorem Pa {tg:Expr}{body:List aG}{fx:ag->Option (ae×ag)}{S:ae->ag->Option ag}{F:ag->Option aA}(hc:X.calm=true)(hg1:Gl X "range")(hm:X.mg "range"=none)(ha:PX X O a fx)(hg:jJ X O tg S)(hb:fL X O body F)(hp:pF (aF X.prog X.w) X.A X.env X.xe)
  (he:ax [a] X.env=[(false,aB a X.env)]:=by rfl) (hs:∀ x,k7 (.Call (.Name "range" p) [a] [] pos') X.env x=aN x:=by intro _;rfl):cR X O (.For tg (.Call (.Name "range" p) [a] [] pos') body [] pos) (fun ρ=>CN S F (fx ρ)):=(yo hp hc (Ed hg1 hm (pa_cons ha pa_nil he) he) hg hb hs).imp fun D σ H zpat=>by
 obtain⟨hid,H0,ρ,ow,out,E,hf,k⟩:=zpat
 obtain⟨r,g0,hf⟩:=bind_some hf
 obtain⟨ds,g1,g2⟩:=bind_some hf
 obtain⟨j,e1,h3,h4,rfl⟩:=EF g1
 refine⟨hid,H0,ρ,ow,r,E,g0,fun v H1 E1 s1 D1=>⟨j,?_,h3,h4,?_⟩⟩
 ·have e2:r.1=.int j:=(kI e1).1
  rw[e2] at D1
  rw[eD D1]
 have Gd:gI X.K (o_ 0 j.toNat) (av H1 (uni hid ow)) _:=CU 0 j.toNat
 generalize eT 0 j.toNat=ds at Gd g2
 have k1:=k.weak s1
 refine⟨fun i m τ H2=>m=ds.length - i∧i≤ds.length∧∃ ρ2 ow2,aK X.K O hid H0 τ H2 ρ2 ow2∧ay (av H1 (uni hid ow)) (av H2 (uni hid ow2))∧fD S F (ds.drop i) ρ2=some out,⟨ds.length,by simp,kL _,r.2,ow,E1,ay.refl _,by simpa using g2⟩,?_⟩
 rintro i m τ H2 ⟨rfl,hi',ρ2,ow2,E2,s2,hr⟩
 have keep:ay (av H1 (uni hid ow)) H2:=s2.trans (bH _ _)
 by_cases hlt:i<ds.length
 ·have hdr:ds.drop i=ds[i]::ds.drop (i+1):=Hg hlt
  rw[hdr,fD] at hr
  obtain⟨ρ3,g3,hr⟩:=bind_some hr
  obtain⟨o3,g4,hr⟩:=bind_some hr
  refine .inr ⟨Gd.go H2 i keep hlt,fun τ' H'=>∃ ρ2 ow2,aK X.K O hid H0 τ' H' ρ2 ow2∧ay (av H1 (uni hid ow)) (av H' (uni hid ow2))∧fD S F (ds.drop (i+1)) ρ2=some out,fun τ' H' z=>⟨ds.length - (i+1),by omega,rfl,hlt,z⟩,fun x H3 y=>?_⟩
  have step:∃ s23:ay H2 H3,aJ X.K (av H3 (uni hid ow2)) x ds[i]:=by
   rcases Gd.yld H2 i x H3 ds[i] keep (by simp[hlt]) y with ⟨rfl,Dx⟩ | ⟨p,vs,es,hp,rfl,rfl,hde,De⟩
   ·exact⟨ay.refl _,Dx.mono s2⟩
   ·refine⟨cb hp,?_⟩
    rw[hde]
    exact .tup (cF.of (E2.newAt hp)) ((De.mono s2).mono (aZ (cb hp) _))
  obtain⟨s23,Dx⟩:=step
  refine⟨hid,H0,ρ2,ow2,ds[i],ρ3,E2.mono s23,Dx,g3,fun τ3 E3=>⟨hid,H0,ρ3,ow2,o3,E3,g4,?_⟩⟩
  have s13:ay (av H1 (uni hid ow)) (av H3 (uni hid ow2)):=s2.trans (aZ s23 _)
  cases o3 with
  | nx ρ4=>exact fun σ' H' ow' s' E'=>⟨ρ4,ow',E',s13.trans s',hr⟩
  | ct ρ4=>exact fun σ' H' ow' s' E'=>⟨ρ4,ow',E',s13.trans s',hr⟩
  | bk ρ4=>
   cases hr
   exact fun σ' H' ow' s' E'=>k1 σ' H' ow' (s13.trans s') E'
  | rt d=>
   cases hr
   exact k1
 ·have e:i=ds.length:=by omega
  subst e
  rw[List.drop_length,fD] at hr
  cases hr
  exact .inl ⟨Gd.stop H2 keep,k1 τ H2 ow2 s2 E2⟩
end
end L2
namespace L2
variable [Reg]
structure Ab (O:Ow)(i:Nat)(O':af->Ow):Prop where
 at_:O.s.lookup i=some (.lst .cl)
 io:∀ l,(O' l).s.lookup i=some (.io l)
 ot:∀ l j,j≠i->(O' l).s.lookup j=O.s.lookup j
 r:∀ l,(O' l).r=O.r
 ne:∀ l,(O' l).s≠[]
section
variable {K:ao}{O:Ow}{O':af->Ow}{i:Nat}{hid:af->Prop}{H0 H:Hp}{σ:St}{ρ:ag}{ow:List af}
theorem aK.ofIo (a:Ab O i O'){l:af}(e:aK K (O' l) hid H0 σ H ρ ow):aK K O hid H0 σ H ρ ow:=by
 obtain⟨A,a1,a2,a3⟩:=e.own
 refine⟨e.len,e.base,fun j d hj hd=>?_,⟨A,fun j t d hj hd=>?_,a2,a3⟩,e.isl,e.ishL,fun z=>?_⟩
 ·have ji:j≠i:=fun z=>by rw[z,a.at_] at hj;cases hj
  exact e.val j d (by rw[a.ot l j ji];exact hj) hd
 ·by_cases ji:j=i
  ·subst ji
   rw[a.at_] at hj
   cases hj
   obtain⟨v,hv,D⟩:=a1 j _ d (a.io l) hd
   refine⟨v,hv,?_⟩
   generalize A j=Aj at D
   cases D with
   | io q dl=>exact .lst q dl.os (by simp)
   | non=>exact .non
  ·exact a1 j t d (by rw[a.ot l j ji];exact hj) hd
 ·have:=a.at_
  rw[z] at this
  cases this
end
section
variable {X:Cx}{O:Ow}{O':af->Ow}{i:Nat}{x:Str}{p pos:Pos}{tg:Expr}{body:List aG}{S:ae->ag->Option ag}{F:ag->Option aA}
theorem me.io (a:Ab O i O'){l:af}{hid:af->Prop}{H0 G:Hp}{D:fw}{o:aA}(h:me X.K O hid H0 G D o):me X.K (O' l) hid H0 G D o:=by
 cases o with
 | nx ρ=>exact fun σ' H' ow' s E=>h σ' H' ow' s (E.ofIo a)
 | bk ρ=>exact fun σ' H' ow' s E=>h σ' H' ow' s (E.ofIo a)
 | ct ρ=>exact fun σ' H' ow' s E=>h σ' H' ow' s (E.ofIo a)
 | rt d=>exact fun v as H' s n Dv=>h v as H' s n (by rw[a.r l] at Dv;exact Dv)
end
end L2
namespace L2
variable [Reg]
def Cg (S:ae->ag->Option ag)(fe:ag->Option (ae×ag)):Nat->Nat->ag->Option (List ae×ag)
 | 0,_,ρ=>some ([],ρ)
 | n+1,i,ρ=>(S (.int (i:Nat)) ρ).bind fun ρ1=>(fe ρ1).bind fun y=>(Cg S fe n (i+1) y.2).map fun z=>(y.1::z.1,z.2)
def O1 (m:Nat)(l:af):Ow:=⟨[(m,.io l)],.cl⟩
section
variable {K:ao}{O:Ow}{hid:af->Prop}{H0 H H':Hp}{σ:St}{ρ:ag}{ow:List af}{l D:af}
inductive Gj (K:ao)(m:Nat)(l:af)(hx:af->Prop)(H1:Hp)(D:af)(S:ae->ag->Option ag)(fe:ag->Option (ae×ag))(n:Nat)(out:List ae×ag)(i r:Nat)(τ:St)(H2:Hp):Prop
 | mk (hn:i+r=n) (ρ2:ag) (ys:List V) (done:List ae) (rest:List ae×ag) (E2:aK K (O1 m l) hx (fun _=>none) τ H2 ρ2 [l]) (s2:ay (av H1 fun b=>b=l) H2) (hy:H2 D=some (.lst ys)) (hd:aD K (av H2 (uni hx [l])) ys done) (hr:Cg S fe r i ρ2=some rest) (ho:out=(done++rest.1,rest.2)) (hl:done.length=i):Gj K m l hx H1 D S fe n out i r τ H2
theorem aK.io (E:aK K O hid H0 σ H ρ ow){i:Nat}{es:List ae}(hi:O.s.lookup i=some (.io l))(hρ:ρ[i]?=some (some (.list es))) :
  ∃ vs,σ[i]?=some (some (.ref l))∧H l=some (.lst vs)∧aD K (av H (uni hid ow)) vs es∧l∈ow:=by
 obtain⟨A,EA⟩:=E.own
 obtain⟨v,b1,b2⟩:=EA.1 i (.io l) _ hi hρ
 have b3:=EA.2.2 i
 generalize A i=Ai at b2 b3
 cases b2 with
 | io h q=>exact⟨_,b1,h,q,b3 l (List.mem_singleton.mpr rfl)⟩
end
section
variable {X:Cx}{O:Ow}{e:Expr}{f:ag->Option (ae×ag)}{pos p:Pos}{tg:Expr}{l:af}
end
end L2
namespace L2
variable [Reg]
section
variable {X:Cx}{O:Ow}{e c:Expr}{f:ag->Option ae}{a rest:List aG}{F G:ag->Option aA}{ft:ag->Option Bool}{l:af}{pos:Pos}
end
end L2
namespace L2
variable [Reg]
section
variable {K:ao}{H C:Hp}
inductive v_ (K:ao)(H C:Hp)(ts:List Ty)(vs:List V)(ds:List ae)(as:List af)(k:Nat)(t:Ty):Prop
 | mk (w:V) (d:ae) (bs cs:List af) (hw:vs[k]?=some w) (hd:ds[k]?=some d) (D:bg K H C t w d bs) (sp:∀ p,p∈as↔p∈bs∨p∈cs) (dj:∀ p∈bs,p∉cs)
  (put:∀ (H' C':Hp) (t':Ty) (w':V) (d':ae) (bs':List af),ay C C'->(∀ p∈cs,∀ o,H p=some o->H' p=some o)->bg K H' C' t' w' d' bs'->(∀ p∈bs',p∉cs) ->
   ∃ as',ck K H' C' (ts.set k t') (vs.set k w') (ds.set k d') as'∧∀ p,p∈as'↔p∈bs'∨p∈cs):v_ K H C ts vs ds as k t
theorem ck.put {ts:List Ty}{vs:List V}{ds:List ae}{as:List af}(h:ck K H C ts vs ds as):∀ {k:Nat} {t:Ty},ts[k]?=some t->v_ K H C ts vs ds as k t:=
 h.ind (P:=fun ts vs ds as=>∀ {k:Nat} {t:Ty},ts[k]?=some t->v_ K H C ts vs ds as k t) (fun e=>by rw[vS] at e;cases e) fun {t0 ts v d vs ds as bs} h0 r n ih {k t} e=>by
  cases k with
  | zero=>
   obtain rfl:=aE e
   refine⟨v,d,as,bs,rfl,rfl,h0,fun p=>fK,n,fun H' C' t' w' d' bs' c kp D dj=>⟨bs'++bs,.cons D (r.mono c fun p hp o=>kp p hp o) dj,fun p=>fK⟩⟩
  | succ k=>
   obtain⟨w,d0,b1,c1,hw,hd,D,sp,dj,put⟩:=ih (k:=k) (by simpa using e)
   refine⟨w,d0,b1,as++c1,by simpa using hw,by simpa using hd,D,fun p=>?_,fun p hp z=>?_,fun H' C' t' w' d' bs' c kp D' dj'=>?_⟩
   ·rw[fK,fK,sp]
    constructor
    ·rintro (z | z | z)
     ·exact .inr (.inl z)
     ·exact .inl z
     ·exact .inr (.inr z)
    ·rintro (z | z | z)
     ·exact .inr (.inl z)
     ·exact .inl z
     ·exact .inr (.inr z)
   ·rcases List.mem_append.mp z with z | z
    ·exact n p z ((sp p).mpr (.inl hp))
    ·exact dj p hp z
   ·obtain⟨as',q1,q2⟩:=put H' C' t' w' d' bs' c (fun p hp=>kp p (bB _ hp)) D' fun p hp z=>dj' p hp (bB _ z)
    refine⟨as++as',.cons (h0.mono c fun p hp o=>kp p (cy _ hp) o) q1 fun p hp z=>?_,fun p=>?_⟩
    ·rcases (q2 p).mp z with z | z
     ·exact dj' p z (cy _ hp)
     ·exact n p hp ((sp p).mpr (.inr z))
    ·rw[fK,fK,q2]
     constructor
     ·rintro (z | z | z)
      ·exact .inr (.inl z)
      ·exact .inl z
      ·exact .inr (.inr z)
     ·rintro (z | z | z)
      ·exact .inr (.inl z)
      ·exact .inl z
      ·exact .inr (.inr z)
end
section
variable {K:ao}{O:Ow}{hid:af->Prop}{H0 H H2:Hp}{σ:St}{ρ:ag}{ow:List af}{A:Nat->List af}
def dD (ow as:List af):List af:=ow.filter fun b=>!as.contains b
theorem iP {ow as:List af}{b:af}:b∈dD ow as↔b∈ow∧b∉as:=by
 unfold dD
 rw[List.mem_filter,lI,← vg,List.contains_iff_mem]
theorem aK.treeO {O':Ow}(E:aK K O hid H0 σ H ρ ow)(EA:i0 K O hid σ H ρ ow A){i:Nat}{t t':Ty}{v:V}{d2:ae}{as2:List af}(hi:O.s.lookup i=some t)(hi2:O'.s.lookup i=some t')(hoth:∀ j,j≠i->O'.s.lookup j=O.s.lookup j)(hl:i<ρ.length)(hv:σ[i]?=some (some v))
  (s:∀ b o,b∉A i->H b=some o->H2 b=some o) (hn:∀ p∈as2,p∈A i∨H p=none) (hD:bg K H2 (av H2 (uni hid (as2++dD ow (A i)))) t' v d2 as2) :
  aK K O' hid H0 σ H2 (ρ.set i (some d2)) (as2++dD ow (A i))∧ay (av H (uni hid ow)) (av H2 (uni hid (as2++dD ow (A i)))):=by
 obtain⟨a1,a2,a3⟩:=EA
 have nw:∀ p∈as2,p∈ow∨H p=none:=fun p hp=>(hn p hp).imp (a3 i p) id
 have back:∀ b,b∈as2++dD ow (A i)->b∈ow∨H b=none:=fun b z=>by
  rcases List.mem_append.mp z with z | z
  ·exact nw b z
  ·exact .inl (iP.mp z).1
 have sub:ay (av H (uni hid ow)) (av H2 (uni hid (as2++dD ow (A i)))):=fun b o z=>by
  by_cases hb:uni hid ow b
  ·rw[dy hb] at z;cases z
  ·rw[bE hb] at z
   rw[bE fun y=>?_]
   ·exact s b o (fun y=>hb (.inr (a3 i b y))) z
   ·rcases y with y | y
    ·exact hb (.inl y)
    ·rcases back b y with y | y
     ·exact hb (.inr y)
     ·rw[y] at z;cases z
 refine⟨⟨by rw[List.length_set];exact E.len,fun b o z=>?_,fun j x hj q=>?_,⟨fun j=>if j=i then as2 else A j,fun j t2 x hj q=>?_,fun j k p hjk hp hk=>?_,fun j p hp=>?_⟩,fun l hl=>?_,fun b hb=>?_,fun z=>by rw[z] at hi2;cases hi2⟩,sub⟩
 ·have y:=E.base b o z
  by_cases hb:b∈ow
  ·rw[dy hb] at y;cases y
  ·rw[bE hb] at y
   rw[bE fun w=>?_]
   ·exact s b o (fun w=>hb (a3 i b w)) y
   ·rcases back b w with w | w
    ·exact hb w
    ·rw[w] at y;cases y
 ·have hne:j≠i:=fun z=>by rw[z,hi2] at hj;cases hj
  rw[eh (cn hne)] at q
  obtain⟨w,b1,b2⟩:=E.val j x (by rw[← hoth j hne];exact hj) q
  exact⟨w,b1,b2.mono sub⟩
 ·rcases qK q with ⟨rfl,z,hz⟩ | ⟨hne,z⟩
  ·obtain rfl:=aE z
   rw[hi2] at hj
   obtain rfl:=aE hj
   exact⟨v,hv,by dsimp only;rw[if_pos rfl];exact hD⟩
  ·obtain⟨w,b1,b2⟩:=a1 j t2 x (by rw[← hoth j hne];exact hj) z
   refine⟨w,b1,?_⟩
   dsimp only
   rw[if_neg hne]
   exact b2.mono sub fun p hp o q=>s p o (a2 j i p hne hp) q
 ·dsimp only at hp hk
  split at hp
  ·split at hk
   ·subst_vars;exact hjk rfl
   ·rename_i hji hki
    rcases hn p hp with z | z
    ·exact a2 i k p (fun y=>hki y.symm) z hk
    ·obtain⟨⟨vs,q⟩,_⟩:=E.isl p (a3 k p hk)
     rw[z] at q;cases q
  ·split at hk
   ·rename_i hji hki
    rcases hn p hk with z | z
    ·exact a2 i j p (fun y=>hji y.symm) z hp
    ·obtain⟨⟨vs,q⟩,_⟩:=E.isl p (a3 j p hp)
     rw[z] at q;cases q
   ·exact a2 j k p hjk hp hk
 ·dsimp only at hp
  split at hp
  ·exact cy _ hp
  ·rename_i hji
   exact bB _ (iP.mpr ⟨a3 j p hp,fun z=>a2 j i p hji hp z⟩)
 ·rcases List.mem_append.mp hl with z | z
  ·refine⟨hD.lists l z,fun y=>?_⟩
   rcases hn l z with w | w
   ·exact (E.isl l (a3 i l w)).2 y
   ·exact E.ish l y w
  ·obtain⟨z1,z2⟩:=iP.mp z
   obtain⟨⟨vs,q⟩,n⟩:=E.isl l z1
   exact⟨⟨vs,s l _ z2 q⟩,n⟩
 ·obtain⟨vs,q⟩:=E.ishL b hb
  exact⟨vs,s b _ (fun z=>(E.isl b (a3 i b z)).2 hb) q⟩
theorem aK.tree (E:aK K O hid H0 σ H ρ ow)(EA:i0 K O hid σ H ρ ow A){i:Nat}{t:Ty}{v:V}{d2:ae}{as2:List af}(hi:O.s.lookup i=some t)(hl:i<ρ.length)(hv:σ[i]?=some (some v))
 (s:∀ b o,b∉A i->H b=some o->H2 b=some o) (hn:∀ p∈as2,p∈A i∨H p=none) (hD:bg K H2 (av H2 (uni hid (as2++dD ow (A i)))) t v d2 as2) :
 aK K O hid H0 σ H2 (ρ.set i (some d2)) (as2++dD ow (A i))∧ay (av H (uni hid ow)) (av H2 (uni hid (as2++dD ow (A i)))):=E.treeO EA hi hi (fun _ _=>rfl) hl hv s hn hD
end
def fg:ae->Option (List ae)
 | .dict [_,_,(_,.tuple fd)]=>some fd
 | _=>none
section
variable {K:ao}{O:Ow}{hid:af->Prop}{H0 H:Hp}{σ:St}{ρ:ag}{ow:List af}
inductive RecAt (K:ao)(O:Ow)(hid:af->Prop)(H0:Hp)(σ:St)(H:Hp)(ρ:ag)(ow:List af)(i:Nat)(oa:Option af)(cls:Str)(ns:List Str)(ts:List Ty)(ds:List ae):Prop
 | mk (A:Nat->List af) (EA:i0 K O hid σ H ρ ow A) (a D dx:af) (fs:List (Str×V)) (as:List af) (hv:σ[i]?=some (some (.ref a))) (ho:∀ b,oa=some b->b=a) (hA:A i=a::as) (hH:H a=some (.ins D dx fs)) (hn:bG K a_ cls=some (some (.ref D))) (hf:fs.map (·.1)=ns)
  (q:ck K H (av H (uni hid ow)) ts (fs.map (·.2)) ds as) (na:a∉as) (hl:i<ρ.length):RecAt K O hid H0 σ H ρ ow i oa cls ns ts ds
theorem aK.recAt (E:aK K O hid H0 σ H ρ ow){i:Nat}{oa:Option af}{cls:Str}{ns:List Str}{ts:List Ty}{ds:List ae}(hi:O.s.lookup i=some (.rc oa cls ns ts))(hd:(ρ[i]?).join.bind fg=some ds):RecAt K O hid H0 σ H ρ ow i oa cls ns ts ds:=by
 obtain⟨d,h1,h2⟩:=bind_some hd
 have h1:=join_some h1
 obtain⟨A,EA⟩:=E.own
 obtain⟨v,hv,D⟩:=EA.1 i _ d hi h1
 have hl:=(List.getElem?_eq_some_iff.mp h1).1
 generalize hA:A i=Ai at D
 cases D with
 | non=>cases h2
 | @rc _ _ _ _ a D dx fs ds' as ho hH hn hf q na=>
  obtain rfl:ds'=ds:=aE h2
  exact⟨A,EA,a,D,dx,fs,as,hv,ho,hA,hH,hn,hf,q,na,hl⟩
theorem L3 {fs:List (Str×V)}{k:Nat}{f:Str}{y:V}(h:(fs.map (·.1))[k]?=some f):(fs.set k (f,y)).map (·.1)=fs.map (·.1):=by
 rw[List.map_set]
 apply rR
 intro j
 by_cases e:j=k
 ·subst e
  rw[iC (List.getElem?_eq_some_iff.mp h).1,h]
 ·rw[eh (cn e)]
theorem sT {f:Str}:∀ {fs:List (Str×V)} {k:Nat} {w:V},(fs.map (·.1))[k]?=some f->(fs.map (·.1)).Nodup->(fs.map (·.2))[k]?=some w->fs.lookup f=some w
 | [],k,w,h,_,_=>by rw[rT,vS] at h;cases h
 | (g,x)::r,0,w,h,_,hw=>by
  have e:g=f:=by simpa using h
  have e2:x=w:=by simpa using hw
  subst e e2
  rw[fJ,beq_self_eq_true]
 | (g,x)::r,k+1,w,h,n,hw=>by
  have hne:f≠g:=fun e=>by
   have:=(List.nodup_cons.mp n).1
   subst e
   exact this (pk (by simpa using h))
  rw[fJ,beq_eq_false_iff_ne.mpr hne]
  exact sT (k:=k) (by simpa using h) (List.nodup_cons.mp n).2 (by simpa using hw)
theorem EY {fs:List (Str×V)}{k:Nat}{f:Str}{w:V}(h1:(fs.map (·.1))[k]?=some f)(h2:(fs.map (·.2))[k]?=some w):fs.set k (f,w)=fs:=by
 apply rR
 intro j
 by_cases ej:j=k
 ·subst ej
  rw[e7] at h1 h2
  cases hj:fs[j]? with
  | none=>rw[hj] at h1;cases h1
  | some pr=>
   rw[hj] at h1 h2
   rw[iC (List.getElem?_eq_some_iff.mp hj).1]
   obtain⟨p1,p2⟩:=pr
   have e1:p1=f:=by simpa using h1
   have e2:p2=w:=by simpa using h2
   rw[e1,e2]
 ·rw[eh (cn ej)]
theorem aK.putFldO {O':Ow}(E:aK K O hid H0 σ H ρ ow){i k:Nat}{oa:Option af}{cls f:Str}{ns:List Str}{ts:List Ty}{ds:List ae}{t t':Ty}(hi:O.s.lookup i=some (.rc oa cls ns ts))(hi2:O'.s.lookup i=some (.rc oa cls ns (ts.set k t')))(hoth:∀ j,j≠i->O'.s.lookup j=O.s.lookup j)(hd:(ρ[i]?).join.bind fg=some ds)(hk:ts[k]?=some t)(hf:ns[k]?=some f)(hnd:ns.Nodup) :
  ∃ a D dx fs w d bs,σ[i]?=some (some (.ref a))∧H a=some (.ins D dx fs)∧bG K a_ cls=some (some (.ref D))∧fs.lookup f=some w∧fs.length=ns.length∧a∈ow∧ds[k]?=some d∧bg K H (av H (uni hid ow)) t w d bs∧(∀ p∈bs,p∈ow∧p≠a) ∧
   ∀ (H1:Hp) (bs':List af) (w':V) (d':ae),(∀ b o,b∉bs->b≠a->H b=some o->H1 b=some o)->(∀ p∈bs',p∈bs∨H p=none)->H1 a=some (.ins D dx (fs.set k (f,w'))) ->
    (∀ ow',(∀ b,b∈ow'->b∈ow∨b∈bs')->(∀ b,b∈ow->b∉bs->b∈ow')->(∀ b∈bs',b∈ow')->(∀ b∈bs,b∉bs'->b∉ow')->bg K H1 (av H1 (uni hid ow')) t' w' d' bs') ->
    ∃ ow',aK K O' hid H0 σ H1 (ρ.set i (some (gw cls ns (ds.set k d')))) ow'∧ay (av H (uni hid ow)) (av H1 (uni hid ow')):=by
 obtain⟨A,EA,a,D,dx,fs,as,hv,ho,hA,hH,hn,hfs,q,na,hl⟩:=E.recAt hi hd
 obtain⟨w,d,bs,cs,hw,hd',Dw,sp,dj,put⟩:=q.put hk
 subst hfs
 have aow:a∈ow:=EA.2.2 i a (by rw[hA];exact bQ)
 have asow:∀ p∈as,p∈ow:=fun p hp=>EA.2.2 i p (by rw[hA];exact bP _ hp)
 refine⟨a,D,dx,fs,w,d,bs,hv,hH,hn,sT hf hnd hw,by rw[cm],aow,hd',Dw,fun p hp=>⟨asow p ((sp p).mpr (.inl hp)),fun z=>na (z▸(sp p).mpr (.inl hp))⟩,fun H1 bs' w' d' s hb ha hD=>?_⟩
 have nbs':∀ p∈bs',p∉cs:=fun p hp z=>by
  rcases hb p hp with y | y
  ·exact dj p y z
  ·obtain⟨vs,e⟩:=q.lists p ((sp p).mpr (.inr z))
   rw[y] at e;cases e
 have nba:a∉bs':=fun z=>by
  rcases hb a z with y | y
  ·exact na ((sp a).mpr (.inl y))
  ·rw[y] at hH;cases hH
 -- the new tree's addresses: first with any clean part,to know them
 have hsame:∀ p∈cs,∀ o,H p=some o->H1 p=some o:=fun p hp o e=>s p o (fun z=>dj p z hp) (fun z=>na (z▸(sp p).mpr (.inr hp))) e
 have u1:ay (av H (uni hid ow)) (av H1 (uni hid (bs'++(a::cs)++dD ow (A i)))):=fun b o z=>by
  by_cases hb':uni hid ow b
  ·rw[dy hb'] at z;cases z
  ·rw[bE hb'] at z
   rw[bE fun y=>?_]
   ·exact s b o (fun y=>hb' (.inr (asow b ((sp b).mpr (.inl y))))) (fun y=>hb' (.inr (y▸aow))) z
   ·rcases y with y | y
    ·exact hb' (.inl y)
    ·rcases List.mem_append.mp y with y | y
     ·rcases List.mem_append.mp y with y | y
      ·rcases hb b y with x | x
       ·exact hb' (.inr (asow b ((sp b).mpr (.inl x))))
       ·rw[x] at z;cases z
      ·rcases List.mem_cons.mp y with x | x
       ·exact hb' (.inr (x▸aow))
       ·exact hb' (.inr (asow b ((sp b).mpr (.inr x))))
     ·exact hb' (.inr (iP.mp y).1)
 have u2:∀ b,b∈bs'++(a::cs)++dD ow (A i)->b∈ow∨b∈bs':=fun b z=>by
  rcases List.mem_append.mp z with z | z
  ·rcases List.mem_append.mp z with z | z
   ·exact .inr z
   ·rcases List.mem_cons.mp z with x | x
    ·exact .inl (x▸aow)
    ·exact .inl (asow b ((sp b).mpr (.inr x)))
  ·exact .inl (iP.mp z).1
 have u3:∀ b,b∈ow->b∉bs->b∈bs'++(a::cs)++dD ow (A i):=fun b z1 z2=>by
  by_cases hb':b∈A i
  ·rw[hA] at hb'
   rcases List.mem_cons.mp hb' with x | x
   ·exact cy _ (bB _ (x▸bQ))
   ·rcases (sp b).mp x with x | x
    ·exact absurd x z2
    ·exact cy _ (bB _ (bP _ x))
  ·exact bB _ (iP.mpr ⟨z1,hb'⟩)
 have u4:∀ b∈bs',b∈bs'++(a::cs)++dD ow (A i):=fun b z=>by
  exact cy _ (cy _ z)
 have u5:∀ b∈bs,b∉bs'->b∉bs'++(a::cs)++dD ow (A i):=fun b z1 z2 z=>by
  rcases List.mem_append.mp z with z | z
  ·rcases List.mem_append.mp z with z | z
   ·exact z2 z
   ·rcases List.mem_cons.mp z with x | x
    ·exact na (x▸(sp b).mpr (.inl z1))
    ·exact dj b z1 x
  ·exact (iP.mp z).2 (by rw[hA];exact bP _ ((sp b).mpr (.inl z1)))
 obtain⟨as',hq0,hm0⟩:=put H1 (av H1 (uni hid (bs'++(a::cs)++dD ow (A i)))) t' w' d' bs' u1 hsame (hD _ u2 u3 u4 u5) nbs'
 have nas':a∉as':=fun z=>by
  rcases (hm0 a).mp z with y | y
  ·exact nba y
  ·exact na ((sp a).mpr (.inr y))
 have eu:uni hid (bs'++(a::cs)++dD ow (A i))=uni hid ((a::as')++dD ow (A i)):=by
  funext b
  apply propext
  unfold uni
  simp only[fK,nv,hm0]
  constructor
  ·rintro (z | (z | z | z) | z)
   ·exact .inl z
   ·exact .inr (.inl (.inr (.inl z)))
   ·exact .inr (.inl (.inl z))
   ·exact .inr (.inl (.inr (.inr z)))
   ·exact .inr (.inr z)
  ·rintro (z | (z | z | z) | z)
   ·exact .inl z
   ·exact .inr (.inl (.inr (.inl z)))
   ·exact .inr (.inl (.inl z))
   ·exact .inr (.inl (.inr (.inr z)))
   ·exact .inr (.inr z)
 rw[eu] at hq0
 have ew:(fs.map (·.2)).set k w'=(fs.set k (f,w')).map (·.2):=by rw[List.map_set]
 rw[ew] at hq0
 refine⟨_,E.treeO EA (as2:=a::as') hi hi2 hoth hl hv (fun b o z e=>s b o (fun y=>z ?_) (fun y=>z ?_) e) (fun p hp=>?_) (.rc ho ha hn (L3 hf) hq0 nas')⟩
 ·rw[hA];exact bP _ ((sp b).mpr (.inl y))
 ·rw[hA,y];exact bQ
 ·rw[hA]
  rcases List.mem_cons.mp hp with y | y
  ·exact .inl (y▸bQ)
  ·rcases (hm0 p).mp y with y | y
   ·rcases hb p y with x | x
    ·exact .inl (bP _ ((sp p).mpr (.inl x)))
    ·exact .inr x
   ·exact .inl (bP _ ((sp p).mpr (.inr y)))
theorem Qa {ts:List Ty}{k:Nat}{t:Ty}(hk:ts[k]?=some t):ts.set k t=ts:=by
 apply rR
 intro j
 by_cases e:j=k
 ·subst e;rw[iC (List.getElem?_eq_some_iff.mp hk).1,hk]
 ·rw[eh (cn e)]
theorem aK.putFld (E:aK K O hid H0 σ H ρ ow){i k:Nat}{oa:Option af}{cls f:Str}{ns:List Str}{ts:List Ty}{ds:List ae}{t:Ty}(hi:O.s.lookup i=some (.rc oa cls ns ts))(hd:(ρ[i]?).join.bind fg=some ds)(hk:ts[k]?=some t)(hf:ns[k]?=some f)(hnd:ns.Nodup) :
 ∃ a D dx fs w d bs,σ[i]?=some (some (.ref a))∧H a=some (.ins D dx fs)∧bG K a_ cls=some (some (.ref D))∧fs.lookup f=some w∧fs.length=ns.length∧a∈ow∧ds[k]?=some d∧bg K H (av H (uni hid ow)) t w d bs∧(∀ p∈bs,p∈ow∧p≠a) ∧
  ∀ (H1:Hp) (bs':List af) (w':V) (d':ae),(∀ b o,b∉bs->b≠a->H b=some o->H1 b=some o)->(∀ p∈bs',p∈bs∨H p=none)->H1 a=some (.ins D dx (fs.set k (f,w'))) ->
   (∀ ow',(∀ b,b∈ow'->b∈ow∨b∈bs')->(∀ b,b∈ow->b∉bs->b∈ow')->(∀ b∈bs',b∈ow')->(∀ b∈bs,b∉bs'->b∉ow')->bg K H1 (av H1 (uni hid ow')) t w' d' bs') ->
   ∃ ow',aK K O hid H0 σ H1 (ρ.set i (some (gw cls ns (ds.set k d')))) ow'∧ay (av H (uni hid ow)) (av H1 (uni hid ow')):=E.putFldO hi (by rw[Qa hk];exact hi) (fun _ _=>rfl) hd hk hf hnd
end
section
variable {X:Cx}{O:Ow}{e:Expr}{fe:ag->Option ae}{i k:Nat}{x f cls:Str}{ns:List Str}{ts:List Ty}{oa:Option af}{p ap apos cpos pos pos':Pos}
theorem bg.cl0 {K:ao}{H C:Hp}{v:V}{d:ae}{as:List af}(h:bg K H C .cl v d as):as=[]:=by
 cases h <;> rfl
end
end L2
namespace L2
variable [Reg]
theorem bg.rcTo {K:ao}{H C:Hp}{oa ob:Option af}{cls:Str}{ns:List Str}{ts:List Ty}{a:af}{d:ae}{as:List af}(h:bg K H C (.rc oa cls ns ts) (.ref a) d as)(ho:∀ b,ob=some b->b=a):bg K H C (.rc ob cls ns ts) (.ref a) d as:=by
 cases h with
 | rc h0 hH hn hf q na=>exact .rc ho hH hn hf q na
inductive pL (K:ao)(cls:Str)(ns0:List Str)(ts0:List Ty)(ns:List Str)(ts:List Ty)(F:List ae->Option (ae×ae))(vs:List V)(H:Hp)(Q:VK):Prop
 | mk (hid:af->Prop) (a:af) (as:List af) (us:List V) (d0:ae) (ds:List ae) (r:ae×ae) (e:vs=.ref a::us) (h1:∀ b,hid b->∃ vs:cM,H b=some vs.ho) (h2:∀ p∈as,¬ hid p) (D0:bg K H (av H (uni hid as)) (.rc none cls ns0 ts0) (.ref a) d0 as) (Du:aD K (av H (uni hid as)) us ds) (hF:F (d0::ds)=some r)
  (k:∀ v as' H',(∀ b o,b∉as->H b=some o->H' b=some o)->(∀ p∈as',p∈as∨H p=none)->bg K H' (av H' (uni hid as')) (.rc none cls ns ts) (.ref a) r.2 as'->aJ K (av H' (uni hid as')) v r.1->Q v H'):pL K cls ns0 ts0 ns ts F vs H Q
def jt (K:ao)(cls:Str)(ns0:List Str)(ts0:List Ty)(ns:List Str)(ts:List Ty)(F:List ae->Option (ae×ae)):Sp:=fun vs H Q _=>pL K cls ns0 ts0 ns ts F vs H Q
inductive BJ (K:ao)(a:af)(cls:Str)(ns:List Str)(ts:List Ty)(hid:af->Prop)(H0:Hp)(D:fw)(o:aA):Prop
 | mk (d s:ae) (e:o=.rt (.tuple [d,s])) (k:∀ v as H',ay H0 H'->(∀ p∈as,H0 p=none)->bg K H' (av H' (uni hid as)) (.rc none cls ns ts) (.ref a) s as->aJ K (av H' (uni hid as)) v d->D.rt v H'∧(v=.non->∀ σ',D.nx σ' H')):BJ K a cls ns ts hid H0 D o
def Rp (K:ao)(O:Ow)(a:af)(cls:Str)(ns:List Str)(ts:List Ty)(F:ag->Option aA):TS:=fun D σ H=>dA K O F σ H fun hid H0 ρ ow o=>BJ K a cls ns ts hid H0 D o
abbrev hW (X:Cx)(O:Ow)(a:af)(cls:Str)(ns:List Str)(ts:List Ty)(sts:List aG)(F:ag->Option aA):Prop:=dw X sts (Rp X.K O a cls ns ts F)
def mP (d:ae)(ρ:ag):Option aA:=((ρ[0]?).join).bind fun s=>(fg s).map fun _=>.rt (.tuple [d,s])
section
variable {X:Cx}{O:Ow}{a:af}{cls:Str}{ns:List Str}{ts:List Ty}{st:aG}{rest:List aG}{F G:ag->Option aA}{e:Expr}{f:ag->Option ae}{pos:Pos}
theorem lz (h1:cR X O st F)(h2:hW X O a cls ns ts rest G):hW X O a cls ns ts (st::rest) (f9 F G):=(mL h1 h2).imp fun D σ H zpat=>by
 obtain⟨hid,H0,ρ,ow,o,E,hf,d,s,rfl,k⟩:=zpat
 obtain⟨o1,g1,g2⟩:=bind_some hf
 refine⟨hid,H0,ρ,ow,o1,E,g1,?_⟩
 cases o1 with
 | nx ρ1=>exact fun σ' H' ow' s' E'=>⟨hid,H0,ρ1,ow',_,E',g2,d,s,rfl,k⟩
 | rt d=>exact L2.bp g2
 | bk ρ1=>exact L2.bp g2
 | ct ρ1=>exact L2.bp g2
theorem aK.selfAt {K:ao}{hid:af->Prop}{H0 H:Hp}{σ:St}{ρ:ag}{ow:List af}(E:aK K O hid H0 σ H ρ ow){d s:ae}{o:aA}(hO:O.s.lookup 0=some (.rc (some a) cls ns ts))(h:mP d ρ=some o) :
  ∃ s as,o=.rt (.tuple [d,s])∧(∀ p∈as,p∈ow)∧bg K H (av H (uni hid ow)) (.rc none cls ns ts) (.ref a) s as:=by
 obtain⟨s,h1,h⟩:=bind_some h
 obtain⟨ds,h2,rfl⟩:=map_some h
 obtain⟨A,EA⟩:=E.own
 obtain⟨v,hv,D⟩:=EA.1 0 _ s hO (join_some h1)
 have a3:=EA.2.2 0
 generalize A 0=A0 at D a3
 cases D with
 | non=>cases h2
 | rc ho hH hn hf q na=>
  have:=ho a rfl
  subst this
  exact⟨_,_,rfl,a3,.rc (fun b z=>by cases z) hH hn hf q na⟩
def yx (f:ag->Option ae)(ρ:ag):Option aA:=(f ρ).bind fun d=>mP d ρ
theorem Fj (h:PV X O e f)(hO:O.s.lookup 0=some (.rc (some a) cls ns ts):=by rfl):hW X O a cls ns ts [.Return (some e) pos] (yx f):=(qz (mK h)).imp fun D σ H zpat=>by
 obtain⟨hid,H0,ρ,ow,o,E,hf,d,s,e1,k⟩:=zpat
 obtain⟨d',g1,g2⟩:=bind_some hf
 obtain⟨s',as,e2,ha,D0⟩:=E.selfAt (s:=s) hO g2
 rw[e2] at e1
 injection e1 with e1
 injection e1 with e1
 injection e1 with e1 e3
 injection e3 with e3 _
 subst e1 e3
 refine⟨hid,H0,ρ,ow,d',E,g1,fun v H' sm Dv=>(k v as H' (E.baseS.trans sm) (fun p hp=>E.ow0 (ha p hp)) (D0.mono (fun b o z=>?_) fun p _ o z=>sm p o z) (Dv.mono (cN fun b z=>z.imp id fun y=>ha b y))).1⟩
 exact (aZ sm _).trans (cN fun b z=>z.imp id fun y=>ha b y) b o z
theorem Fg (hO:O.s.lookup 0=some (.rc (some a) cls ns ts):=by rfl):hW X O a cls ns ts [] (mP .none):=qy.imp fun D σ H zpat=>by
 obtain⟨hid,H0,ρ,ow,o,E,hf,d,s,e1,k⟩:=zpat
 obtain⟨s',as,e2,ha,D0⟩:=E.selfAt (s:=s) hO hf
 rw[e2] at e1
 injection e1 with e1
 injection e1 with e1
 injection e1 with e1 e3
 injection e3 with e3 _
 subst e1 e3
 exact (k .non as H E.baseS (fun p hp=>E.ow0 (ha p hp)) (D0.mono (cN fun b z=>z.imp id fun y=>ha b y) fun p _ o z=>z) .non).2 rfl σ
end
def tU (o:Option aA):Option (ae×ae):=(o.bind D6).bind fun d=>(ti d).bind two
def lx (n m:Nat)(B:ag->Option aA)(ds:List ae):Option (ae×ae):=if ds.length=n then tU (B (ds.map some++cO m none)) else none
theorem EI {n m:Nat}{B:ag->Option aA}{ds:List ae}{r:ae×ae}(h:lx n m B ds=some r):ds.length=n∧B (ds.map some++cO m none)=some (.rt (.tuple [r.1,r.2])):=by
 unfold lx at h
 split at h
 ·refine⟨by assumption,?_⟩
  obtain⟨d,h0,h⟩:=bind_some h
  obtain⟨o,h1,h2⟩:=bind_some h0
  obtain⟨es,h3,h4⟩:=bind_some h
  rw[h1]
  cases o with
  | rt e=>
   obtain rfl:=aE h2
   rw[C8 h3,zL h4]
  | _=>exact L2.bp h2
 ·exact L2.bp h
theorem p4 {P:aQ}{w:aM}{K:ao}{mg:Str->Option ah}{base:az}{x qual:Str}{st:aG}{f:af}{fd:aY}{N ps:List Str}{k:Nat}{cls:Str}{ns0 ns:List Str}{ts0 ts:List Ty}(O:af->Ow)(F:bh K x qual st f fd)(S:bF N ps (aS st))
  (h0:∀ a,(O a).s.lookup 0=some (.rc (some a) cls ns0 ts0)) (idx:List Nat) (hix:∀ a,(O a).s.map (·.1)=idx) (hO:∀ i∈idx,i=0∨ps.length≤i) (B:ag->Option aA)
  (hbody:∀ (a:af) (cdv:ah),mY K f cdv->∀ (A:bw) (outer:List Env) (s:ar) (H:Hp) (E:XK),bC k (A.deeper (dW qual (aS st) s.heap.objs.size f cdv)) ->
   hW (dN bx P w K mg base N qual (aS st) f cdv A outer s H E).nox (O a) a cls ns ts (eA st) B) :
  aW P w K mg base bx (k+1) f fd ps (jt K cls ns0 ts0 ns ts (lx ps.length (N.length - ps.length) B)):=by
 refine xx F S (fun vs H Q E h=>?_) (fun cdv hk A outer s H vs Q E hr h=>?_)
 ·obtain⟨hid,a,as,us,d0,ds,r,rfl,h1,h2,D0,Du,hF,q⟩:=h
  have:=(EI hF).1
  rw[dB] at this ⊢
  rw[Du.length]
  exact this
 ·obtain⟨hid,a,as,us,d0,ds,r,rfl,h1,h2,D0,Du,hF,q⟩:=h
  obtain⟨hl,hB⟩:=EI hF
  refine⟨_,hbody a cdv hk A outer s H E hr,?_⟩
  have get:∀ (i:Nat) (d:ae),((d0::ds).map some++cO (N.length - ps.length) none)[i]?=some (some d)->(i=0∧d=d0)∨(0<i∧i<ps.length∧∃ v,(start N (.ref a::us))[i]?=some (some v)∧aJ K (av H (uni hid as)) v d):=fun i d e=>by
   cases i with
   | zero=>exact .inl ⟨rfl,(aE (aE e)).symm⟩
   | succ i=>
    refine .inr ⟨Nat.zero_lt_succ _,?_⟩
    rw[bV,vO,vR] at e
    by_cases hi:i<ds.length
    ·rw[jE (by simpa using hi),e7] at e
     obtain⟨d',e1,e2⟩:=Option.map_eq_some_iff.mp e
     obtain rfl:=aE e2
     obtain⟨v,e3,e4⟩:=Du.get e1
     refine⟨by rw[← hl,dB];omega,v,?_,e4⟩
     unfold start
     rw[bV,vO,vR,jE (by rw[cm,Du.length];exact hi),e7,e3]
     rfl
    ·rw[lY (by simpa using pz hi),nt] at e
     split at e <;> cases e
  have E0:aK K (O a) hid (av H fun b=>b∈as) (start N (.ref a::us)) H ((d0::ds).map some++cO (N.length - ps.length) none) as:=by
   refine⟨by unfold start;have:=Du.length;simp[this,← hl],fun b o e=>e,fun i d hi e=>?_,⟨fun i=>if i=0 then as else [],fun i t d hi e=>?_,fun i m p him hp hm=>?_,fun i p hp=>?_⟩,fun m hm=>⟨D0.lists m hm,h2 m hm⟩,h1,fun z=>?_⟩
   ·rcases get i d e with ⟨z,_⟩ | ⟨_,_,v,e1,e2⟩
    ·rw[z,h0 a] at hi;cases hi
    ·exact⟨v,e1,e2⟩
   ·rcases hO i (hix a▸tF hi) with z | z
    ·subst z
     rw[h0 a] at hi
     obtain rfl:=aE hi
     rcases get 0 d e with ⟨_,rfl⟩ | ⟨z,_⟩
     ·refine⟨.ref a,rfl,?_⟩
      dsimp only
      rw[if_pos rfl]
      exact D0.rcTo fun b z=>(aE z).symm
     ·cases z
    ·rcases get i d e with ⟨y,_⟩ | ⟨_,y,_⟩
     ·have:0<ps.length:=by rw[← hl,dB];omega
      omega
     ·omega
   ·dsimp only at hp hm
    split at hp
    ·split at hm
     ·subst_vars;exact him rfl
     ·cases hm
    ·cases hp
   ·dsimp only at hp
    split at hp
    ·exact hp
    ·cases hp
   ·have:=h0 a
    rw[z] at this
    exact L2.bp this
  refine⟨hid,_,_,as,_,E0,hB,r.1,r.2,rfl,fun v as' H' s' n D' Dv=>?_⟩
  have qq:Q v H':=q v as' H' (fun b o hb z=>s' b o (by rw[bE hb];exact z)) (fun p hp=>?_) D' Dv
  ·exact⟨qq,fun z σ'=>by rw[z] at qq;exact qq⟩
  ·have z:=n p hp
   by_cases hb:p∈as
   ·exact .inl hb
   ·rw[bE hb] at z
    exact .inr z
def gD (P:aQ)(w:aM)(K:ao)(mg:Str->Option ah)(base:az)(k:Nat)(cls m:Str)(ps:List Str)(ns:List Str)(ts:List Ty)(F:List ae->Option (ae×ae)):Prop:=
 ∃ C f fd,gg K C∧pq K C m f∧aW P w K mg base bx k f fd ps (jt K cls ns ts ns ts F)∧bG K a_ cls=some (some (.ref C))∧Binds K fd ps []
theorem tH {m:Str}:∀ {fs:List (Str×V)},(fs.map (·.1)).contains m=false->fs.lookup m=none
 | [],_=>rfl
 | (g,v)::r,h=>by
  rw[bV,He,Bool.or_eq_false_iff] at h
  rw[fJ,h.1]
  exact tH h.2
section
variable {X:Cx}{O:Ow}{a:Expr}{es:List Expr}{fs:ag->Option (List ae)}{i k:Nat}{x m cls:Str}{ns ps:List Str}{ts:List Ty}{oa:Option af}{F:List ae->Option (ae×ae)}{p apos cpos pos:Pos}{pl:Sem Bool}
def xV (i:Nat)(F:List ae->Option (ae×ae))(fs:ag->Option (List ae))(ρ:ag):Option aA:=((ρ[i]?).join.bind fg).bind fun _=>((ρ[i]?).join).bind fun d0=>(fs ρ).bind fun ds=>(F (d0::ds)).map fun r=>.nx (ρ.set i (some r.2))
theorem aK.lendR {K:ao}{hid:af->Prop}{H0 H:Hp}{σ:St}{ρ:ag}{ow:List af}(E:aK K O hid H0 σ H ρ ow){d0:ae}{ds:List ae}{us:List V}{r:ae×ae}{D:fw}{b:af}(hO:O.s.lookup i=some (.rc oa cls ns ts))(hρ:(ρ[i]?).join=some d0)(hd:(fg d0).isSome=true)(hb:σ[i]?=some (some (.ref b)))(Du:aD K (av H (uni hid ow)) us ds)(hF:F (d0::ds)=some r){Q:VK}
  (k:∀ v H' ow',ay (av H (uni hid ow)) (av H' (uni hid ow'))->aK K O hid H0 σ H' (ρ.set i (some r.2)) ow'->Q v H'):pL K cls ns ts ns ts F (.ref b::us) H Q:=by
 obtain⟨A,EA⟩:=E.own
 have hj:=join_some hρ
 obtain⟨v,hv,D0⟩:=EA.1 i _ d0 hO hj
 rw[hb] at hv
 obtain rfl:=aE (aE hv)
 have a3:=EA.2.2 i
 have ho:∀ c,oa=some c->c=b:=by
  generalize A i=Ai at D0
  cases D0 with
  | rc ho _ _ _ _ _=>exact ho
 have nh:∀ q,hid q->q∉A i:=fun q z y=>(E.isl q (a3 q y)).2 z
 have eu:uni (fun q=>uni hid ow q∧q∉A i) (A i)=uni hid ow:=by
  funext q
  apply propext
  constructor
  ·rintro (z | z)
   ·exact z.1
   ·exact .inr (a3 q z)
  ·intro z
   by_cases y:q∈A i
   ·exact .inr y
   ·exact .inl ⟨z,y⟩
 refine⟨fun q=>uni hid ow q∧q∉A i,b,A i,us,d0,ds,r,rfl,fun q z=>E.uniL q z.1,fun q z y=>y.2 z,by rw[eu];exact D0.rcTo (fun c z=>nomatch z),by rw[eu];exact Du,hF,fun v as' H' s n D' Dv=>?_⟩
 have eu2:uni (fun q=>uni hid ow q∧q∉A i) as'=uni hid (as'++dD ow (A i)):=by
  funext q
  apply propext
  unfold uni
  simp only[fK,iP]
  constructor
  ·rintro (⟨z | z,y⟩ | z)
   ·exact .inl z
   ·exact .inr (.inr ⟨z,y⟩)
   ·exact .inr (.inl z)
  ·rintro (z | z | ⟨z,y⟩)
   ·exact .inl ⟨.inl z,nh q z⟩
   ·exact .inr z
   ·exact .inl ⟨.inr z,y⟩
 rw[eu2] at D'
 obtain⟨e1,e2⟩:=E.tree EA hO (List.getElem?_eq_some_iff.mp hj).1 hb s n (D'.rcTo ho)
 exact k v H' _ e2 e1
theorem EM (G:gD X.prog X.w X.K X.mg X.base k cls m ps ns ts F)(hr:bC k X.A)(hx:PE X (.Name x p) (dG i))(ha:fS X O (a::es) fs)(hO:O.s.lookup i=some (.rc oa cls ns ts):=by rfl)(hm:ns.contains m=false:=by decide +kernel)
  (hst:ax (a::es) X.env=(false,aB a X.env)::ax es X.env:=by rfl) (hpl:(a0 cpos (ax es X.env)).any (·.1)=false:=by rfl)
  (ht:aB (.Call (.Attribute (.Name x p) m apos) (a::es) [] cpos) X.env=(do
   let ov ← aB (.Name x p) X.env
   jv apos.atName
   let (f,first) ← jm [ov] (jk ov m pl)
   jT cpos f first (a0 cpos (ax (a::es) X.env)) (dS cpos (dY [] X.env))):=by rfl)
  (hs:dF (.Call (.Attribute (.Name x p) m apos) (a::es) [] cpos) none pos.line X.env=aN false:=by rfl) :
  cR X O (.Expr (.Call (.Attribute (.Name x p) m apos) (a::es) [] cpos) pos) (xV i F fs):=by
 obtain⟨C,f,fd,c,hm',g1,g2,g3⟩:=G
 exact (qv (tY (pl:=pl) hx c hm' g1 hr g3 .nil js ha hst hpl ht) hs).imp fun D σ H zpat=>by
  obtain⟨hid,H0,ρ,ow,o,E,hf,q⟩:=zpat
  obtain⟨fd0,e0,hf⟩:=bind_some hf
  obtain⟨d0,e1,hf⟩:=bind_some hf
  obtain⟨ds,e2,hf⟩:=bind_some hf
  obtain⟨r,e3,rfl⟩:=map_some hf
  obtain⟨A,EA,b,D',dx,fs',as,hv,ho,hA,hH,hn,hfs,_,_,_⟩:=E.recAt hO e0
  rw[g2] at hn
  obtain rfl:C=D':=by injection hn with z;injection z with z;injection z
  refine⟨.ref b,hv,b,dx,fs',rfl,hH,tH (by rw[hfs];exact hm),hid,H0,ρ,ow,ds,E,e2,fun us H1 s1 D1=>?_⟩
  dsimp only
  rw[e6]
  have hd:(fg d0).isSome=true:=by
   rw[e1,bW] at e0
   rw[e0]
   rfl
  exact (E.mono s1).lendR (D:=D) hO e1 hd hv D1 e3 fun v H' ow' s2 E2=>q σ H' ow' ((aZ s1 _).trans s2) E2
end
def AX (P:aQ)(w:aM)(K:ao)(mg:Str->Option ah)(base:az)(k:Nat)(cls m:Str)(ps:List Str)(T:Ty)(F:List ae->Option ae):Prop:=
 ∃ C f fd,gg K C∧pq K C m f∧aW P w K mg base bx k f fd ps (cx K T F)∧bG K a_ cls=some (some (.ref C))∧Binds K fd ps []
def jX (cls m:Str):ae->Bool
 | .dict [(.bool false,.str c),(.none,.tuple nn),(_,_)]=>decide (c=cls)&&nn.all fun n=>match n with | .str g=>decide (g≠m) | _=>false
 | _=>false
theorem C6 {K:ao}{H:Hp}{v:V}{d:ae}{cls m:Str}(h:aJ K H v d)(q:jX cls m d=true):∃ a C dx fs,v=.ref a∧H a=some (.ins C dx fs)∧bG K a_ cls=some (some (.ref C))∧fs.lookup m=none:=by
 cases h with
 | @obj a c fs fd h D=>
  have q':(decide (c=cls)&&((fs.map (·.1)).map PyData.str).all fun n=>match n with | .str g=>decide (g≠m) | _=>false)=true:=q
  rw[cq,decide_eq_true_iff] at q'
  obtain⟨rfl,q2⟩:=q'
  obtain⟨C,dx,h1,h2⟩:=h
  refine⟨a,C,dx,fs,rfl,h1,h2,?_⟩
  clear h1 D q
  induction fs with
  | nil=>rfl
  | cons pr r ih=>
   obtain⟨g,x⟩:=pr
   rw[bV,bV,kG,cq] at q2
   rw[fJ,beq_eq_false_iff_ne.mpr fun z=>(of_decide_eq_true q2.1) z.symm]
   exact ih q2.2
 | _=>cases q
section
variable {X:Cx}{O:Ow}{o a:Expr}{es:List Expr}{fo:ag->Option ae}{fs:ag->Option (List ae)}{k:Nat}{m cls:Str}{ps:List Str}{T:Ty}{F:List ae->Option ae}{apos cpos:Pos}{pl:Sem Bool}
def gN (cls m:Str)(F:List ae->Option ae)(fo:ag->Option ae)(fs:ag->Option (List ae))(ρ:ag):Option ae:=(fo ρ).bind fun d=>if jX cls m d=true then (fs ρ).bind fun ds=>F (d::ds) else none
theorem t7 (G:AX X.prog X.w X.K X.mg X.base k cls m ps T F)(hr:bC k X.A)(ho:PR X O o fo)(ha:hV X O (a::es) fs)(hst:ax (a::es) X.env=(false,aB a X.env)::ax es X.env:=by rfl)(hpl:(a0 cpos (ax es X.env)).any (·.1)=false:=by rfl)
  (ht:aB (.Call (.Attribute o m apos) (a::es) [] cpos) X.env=(do
   let ov ← aB o X.env
   jv apos.atName
   let (f,first) ← jm [ov] (jk ov m pl)
   jT cpos f first (a0 cpos (ax (a::es) X.env)) (dS cpos (dY [] X.env))):=by rfl) :
  PR X O (.Call (.Attribute o m apos) (a::es) [] cpos) (gN cls m F fo fs):=by
 obtain⟨C,f,fd,c,hm',g1,g2,g3⟩:=G
 exact (tY (pl:=pl) ho c hm' g1 hr g3 .nil js ha hst hpl ht).imp fun σ H Q zpat=>by
  obtain⟨hid,H0,ρ,ow,r,E,hf,q⟩:=zpat
  obtain⟨d,e1,hf⟩:=bind_some hf
  split at hf
  case isFalse=>cases hf
  rename_i hob
  obtain⟨ds,e2,e3⟩:=bind_some hf
  refine⟨hid,H0,ρ,ow,d,E,e1,fun v H1 s1 D1=>?_⟩
  obtain⟨b,C',dx,fs',rfl,h1,h2,h3⟩:=C6 D1 hob
  rw[g2] at h2
  obtain rfl:C=C':=by injection h2 with z;injection z with z;injection z
  refine⟨b,dx,fs',rfl,bH _ _ _ _ h1,h3,hid,H0,ρ,ow,ds,E.mono s1,e2,fun us H2 s2 D2=>?_⟩
  dsimp only
  rw[e6]
  refine⟨hid,d::ds,r,(E.mono (s1.trans s2)).ishL,.cons (D1.mono (aZ s2 _)) D2,e3,fun v as H3 s3 n3 D3=>q v H3 ((s1.trans s2).trans s3) (D3.raw (iJ _ _ _) fun p hp o e=>?_)⟩
  rw[bE fun z=>(E.mono (s1.trans s2)).ish p z (n3 p hp)]
  exact e
end
end L2
namespace L2
variable [Reg]
theorem Eg {f:Str}{y:V}:∀ {fs:List (Str×V)},f∉fs.map (·.1)->fE f y fs=fs++[(f,y)]
 | [],_=>rfl
 | (g,x)::r,h=>by
  rw[bV] at h
  show (if g=f then _ else _)=_
  rw[if_neg (fun z:g=f=>h (by rw[← z];exact bQ)),Eg fun z=>h (bP _ z)]
  rfl
theorem ck.snoc {K:ao}{H C:Hp}{t:Ty}{v:V}{d:ae}{bs:List af}(h:bg K H C t v d bs){ts:List Ty}{vs:List V}{ds:List ae}{as:List af}(q:ck K H C ts vs ds as):(∀ p∈as,p∉bs)->ck K H C (ts++[t]) (vs++[v]) (ds++[d]) (as++bs):=
 q.ind (P:=fun ts vs ds as=>(∀ p∈as,p∉bs)->ck K H C (ts++[t]) (vs++[v]) (ds++[d]) (as++bs)) (fun _=>by
  have:=ck.cons h .nil (fun p _ z=>by cases z)
  rw[e6] at this
  exact this) fun {t0 ts v0 d0 vs ds as cs} h0 r n ih hb=>by
  rw[nr]
  refine .cons h0 (ih fun p hp=>hb p (bB _ hp)) fun p hp z=>?_
  rcases List.mem_append.mp z with z | z
  ·exact n p hp z
  ·exact hb p (cy _ hp) z
section
variable {X:Cx}{O O':Ow}{e:Expr}{fe:ag->Option ae}{a:af}{x f cls:Str}{ns0 ns:List Str}{ts0 ts:List Ty}{T:Ty}{p pos pos':Pos}{rest:List aG}{G:ag->Option aA}
def DN (cls:Str)(ns:List Str)(fe:ag->Option ae)(G:ag->Option aA)(ρ:ag):Option aA:=(fe ρ).bind fun d'=>((ρ[0]?).join.bind fg).bind fun ds=>G (ρ.set 0 (some (gw cls ns (ds++[d']))))
theorem QC (hC:iB X.K cls f)(hx:PE X (.Name x p) (dG 0))(he:fB X O T e fe)(hr:hW X O' a cls ns ts rest G)(hO:O.s.lookup 0=some (.rc (some a) cls ns0 ts0):=by rfl)(hO2:O'.s.lookup 0=some (.rc (some a) cls (ns0++[f]) (ts0++[T])):=by rfl)(hoth:∀ j,j≠0->O'.s.lookup j=O.s.lookup j:=by intro j hj;cases j with | zero=>exact absurd rfl hj | succ j=>rfl)
  (hf:ns0.contains f=false:=by decide +kernel) (hlen:ns0.length<1000:=by decide) (hs:dF e (some (.Attribute (.Name x p) f pos')) pos.line X.env=aN false:=by rfl) :
  hW X O a cls ns ts (.Assign [.Attribute (.Name x p) f pos'] e pos::rest) (DN cls (ns0++[f]) fe G):=(mL (Ol hx he hs) hr).imp fun D σ H zpat=>by
 obtain⟨hid,H0,ρ,ow,o,E,hf',dd,ss,rfl,q⟩:=zpat
 obtain⟨d',g1,hf'⟩:=bind_some hf'
 obtain⟨ds,g2,g3⟩:=bind_some hf'
 refine⟨hid,H0,ρ,ow,d',E,g1,fun y bs H1 s1 n1 Dy=>?_⟩
 obtain⟨A,EA,b,D',dx,fs,as,hv,ho,hA,hH,hn,hfs,qq,na,hl⟩:=E.recAt hO g2
 obtain⟨c1,c2⟩:=hC D' hn
 have hlf:fs.length=ns0.length:=by rw[← hfs,cm]
 refine⟨.ref b,hv,b,D',dx,fs,rfl,s1 _ _ hH,c1,c2,by omega,?_⟩
 have hfn:f∉fs.map (·.1):=fun z=>by
  rw[hfs] at z
  rw[List.contains_iff_mem.mpr z] at hf
  cases hf
 rw[Eg hfn]
 have bow:b∈ow:=EA.2.2 0 b (by rw[hA];exact bQ)
 have asow:∀ p∈as,p∈ow:=fun p hp=>EA.2.2 0 p (by rw[hA];exact bP _ hp)
 have now:∀ p∈bs,p∉ow:=fun p hp z=>by
  obtain⟨⟨w,e⟩,_⟩:=E.isl p z
  rw[n1 p hp] at e;cases e
 have eu:uni hid (bs++ow)=uni hid ((b::(as++bs))++dD ow (A 0)):=by
  funext q
  apply propext
  unfold uni
  simp only[fK,nv,iP,hA]
  constructor
  ·rintro (z | z | z)
   ·exact .inl z
   ·exact .inr (.inl (.inr (.inr z)))
   ·by_cases h1:q=b
    ·exact .inr (.inl (.inl h1))
    ·by_cases h2:q∈as
     ·exact .inr (.inl (.inr (.inl h2)))
     ·exact .inr (.inr ⟨z,fun y=>y.elim h1 h2⟩)
  ·rintro (z | (z | z | z) | z)
   ·exact .inl z
   ·exact .inr (.inr (z▸bow))
   ·exact .inr (.inr (asow q z))
   ·exact .inr (.inl z)
   ·exact .inr (.inr z.1)
 have hub:uni hid (bs++ow) b:=.inr (bB _ bow)
 have ed:av (upd H1 b (.ins D' dx (fs++[(f,y)]))) (uni hid (bs++ow))=av H1 (uni hid (bs++ow)):=gp hub
 have cl0:ay (av H (uni hid ow)) (av H1 (uni hid (bs++ow))):=fun q o z=>by
  by_cases hq:uni hid ow q
  ·rw[dy hq] at z;cases z
  ·rw[bE hq] at z
   rw[bE fun w=>?_]
   ·exact s1 q o z
   ·rcases w with w | w
    ·exact hq (.inl w)
    ·rcases List.mem_append.mp w with w | w
     ·rw[n1 q w] at z;cases z
     ·exact hq (.inr w)
 have hD:bg X.K (upd H1 b (.ins D' dx (fs++[(f,y)]))) (av (upd H1 b (.ins D' dx (fs++[(f,y)]))) (uni hid ((b::(as++bs))++dD ow (A 0)))) (.rc (some a) cls (ns0++[f]) (ts0++[T])) (.ref b) (gw cls (ns0++[f]) (ds++[d'])) (b::(as++bs)):=by
  rw[← eu,ed]
  have m1:ck X.K (upd H1 b (.ins D' dx (fs++[(f,y)]))) (av H1 (uni hid (bs++ow))) ts0 (fs.map (·.2)) ds as:=qq.mono cl0 fun p hp o z=>by
   rw[ba (show p≠b from fun w=>na (w▸hp))]
   exact s1 p o z
  have m2:bg X.K (upd H1 b (.ins D' dx (fs++[(f,y)]))) (av H1 (uni hid (bs++ow))) T y d' bs:=Dy.mono (ay.refl _) fun p hp o z=>by
   rw[ba (show p≠b from fun w=>now p hp (w▸bow))]
   exact z
  have m3:=ck.snoc m2 m1 fun p hp z=>now p z (asow p hp)
  refine .rc ho cD hn (by rw[jF,hfs];rfl) ?_ fun z=>?_
  ·rw[jF]
   exact m3
  ·rcases List.mem_append.mp z with z | z
   ·exact na z
   ·exact now b z bow
 obtain⟨e1,e2⟩:=E.treeO EA hO hO2 hoth hl hv (fun q o hq z=>by
  rw[ba (show q≠b from fun w=>hq (by rw[hA,w];exact bQ))]
  exact s1 q o z) (fun p hp=>by
  rcases List.mem_cons.mp hp with z | z
  ·exact .inl (by rw[hA,z];exact bQ)
  ·rcases List.mem_append.mp z with z | z
   ·exact .inl (by rw[hA];exact bP _ z)
   ·exact .inr (n1 p z)) hD
 exact⟨hid,H0,_,_,_,e1,g3,dd,ss,rfl,q⟩
end
def rh (P:aQ)(w:aM)(K:ao)(mg:Str->Option ah)(base:az)(k:Nat)(cls:Str)(ps:List Str)(ns:List Str)(ts:List Ty)(F:List ae->Option (ae×ae)):Prop:=
 ∃ C f fd,Mk K C f∧aW P w K mg base bx k f fd ps (jt K cls [] [] ns ts F)∧mg cls=some (.ref C)∧bG K a_ cls=some (some (.ref C))∧Binds K fd ps []
section
variable {X:Cx}{O:Ow}{a:Expr}{es:List Expr}{pos p:Pos}{fs:ag->Option (List ae)}{k:Nat}{ps:List Str}{cls:Str}{ns:List Str}{ts:List Ty}{F:List ae->Option (ae×ae)}
def xY (cls:Str)(F:List ae->Option (ae×ae))(x:Option (List ae)):Option ae:=x.bind fun ds=>(F (gw cls [] []::ds)).bind fun r=>match r.1 with
 | .none=>some r.2
 | _=>none
end
section
variable {K:ao}{O O':Ow}{hid:af->Prop}{H0 H:Hp}{σ:St}{ρ:ag}{ow:List af}
theorem aK.loose (E:aK K O hid H0 σ H ρ ow){i k:Nat}{oa:Option af}{cls f:Str}{ns:List Str}{ts:List Ty}{ds es:List ae}(hi:O.s.lookup i=some (.rc oa cls ns ts))(hi2:O'.s.lookup i=some (.rc oa cls ns (ts.set k .cl)))(hoth:∀ j,j≠i->O'.s.lookup j=O.s.lookup j)(hd:(ρ[i]?).join=some (gw cls ns ds))(hk:ts[k]?=some (.lst .cl))(hf:ns[k]?=some f)(hnd:ns.Nodup)(hes:ds[k]?=some (.list es)) :
  ∃ ow',aK K O' hid H0 σ H ρ ow'∧ay (av H (uni hid ow)) (av H (uni hid ow')):=by
 have hd':(ρ[i]?).join.bind fg=some ds:=by rw[hd];rfl
 obtain⟨a,D,dx,fs,w,d,bs,h1,h2,h3,h4,h5,h6,h7,h8,h9,put⟩:=E.putFldO hi hi2 hoth hd' hk hf hnd
 rw[hes] at h7
 obtain rfl:=aE h7
 cases h8 with
 | @lst _ l vs _ as hl r n=>
  obtain⟨dl,rfl⟩:=r.dl
  have hfs:(fs.map (·.1))[k]?=some f∧(fs.map (·.2))[k]?=some (.ref l):=by
   obtain⟨A,EA,a',D2,dx2,fs2,as,hv,ho,hA,hH,hn,hfs,qq,_⟩:=E.recAt hi hd'
   rw[h1] at hv
   cases hv
   rw[h2] at hH
   cases hH
   refine⟨by rw[hfs];exact hf,?_⟩
   obtain⟨w2,d2,_,_,hw2,_,_,_⟩:=qq.put hk
   have:=sT (by rw[hfs];exact hf) (by rw[hfs];exact hnd) hw2
   rw[h4] at this
   rw[hw2,← aE this]
  obtain⟨ow',e1,e2⟩:=put H [] (.ref l) (.list es) (fun b o _ _ z=>z) (fun _ z=>absurd z dC) (by rw[EY hfs.1 hfs.2];exact h2) fun ow' z1 z2 z3 z4=>.cl (.lst (bD.of (by
   rw[bE fun y=>?_]
   ·exact hl
   ·rcases y with y | y
    ·exact (E.isl l (h9 l bQ).1).2 y
    ·exact z4 l bQ dC y)) (dl.mono (cN fun b z=>by
     rcases z with z | z
     ·exact .inl z
     ·rcases z1 b z with z | z
      ·exact .inr z
      ·cases z)))
  have ed:ds.set k (.list es)=ds:=by
   apply rR
   intro j
   by_cases ej:j=k
   ·subst ej;rw[iC (List.getElem?_eq_some_iff.mp hes).1,hes]
   ·rw[eh (cn ej)]
  have er:ρ.set i (some (gw cls ns (ds.set k (.list es))))=ρ:=by
   rw[ed]
   have hj:=join_some hd
   apply rR
   intro j
   by_cases ej:j=i
   ·subst ej;rw[iC (List.getElem?_eq_some_iff.mp hj).1,hj]
   ·rw[eh (cn ej)]
  rw[er] at e1
  exact⟨ow',e1,e2⟩
end
section
variable {X:Cx}{O O':Ow}{e:Expr}{i j k:Nat}{a:af}{x y f cls:Str}{ns:List Str}{ts:List Ty}{oa:Option af}{p p2 pos pos':Pos}{sts:List aG}{F:ag->Option aA}
def CK (i k:Nat)(ρ:ag):Option ae:=((ρ[i]?).join.bind fg).bind fun ds=>ds[k]?
end
end L2
namespace L2
variable [Reg]
inductive MethAt (K:ao)(cls m:Str)(st:aG):Prop
 | mk (C f:af) (fd:aY) (a:bG K a_ cls=some (some (.ref C))) (c1:nM K C sg=true) (c2:l8 K C=true) (c3:sf K C=true) (c4:cK K (.ref C) "__setattr__"=some (some (.builtin "object.__setattr__")))
  (m1:cK K (.ref C) m=some (some (.ref f))) (m2:nK K (.ref f)=true) (m3:gK K (.ref f)=true) (F:bh K m (cls++"."++m) st f fd):MethAt K cls m st
inductive rf (K:ao)(cls:Str)(st:aG):Prop
 | mk (C f:af) (fd:aY) (a:bG K a_ cls=some (some (.ref C))) (m1:wm K C=true) (m2:cK K (.ref C) "__init__"=some (some (.ref f))) (m3:nK K (.ref f)=true) (m4:gK K (.ref C)=true) (F:bh K "__init__" (cls++".__init__") st f fd):rf K cls st
inductive rK (K:ao)(cls f:Str):Prop
 | mk (C:af) (a:bG K a_ cls=some (some (.ref C))) (c1:nM K C sg=true) (c2:l8 K C=true) (c3:sf K C=true) (c4:cK K (.ref C) "__setattr__"=some (some (.builtin "object.__setattr__"))) (n:cK K (.ref C) f=some none):rK K cls f
theorem rK.ok {K:ao}{cls f:Str}(h:rK K cls f):iB K cls f:=fun D hD=>by
 cases h with
 | mk C a c1 c2 c3 c4 n=>
  rw[a] at hD
  cases hD
  exact⟨⟨c1,c2,c3,c4⟩,n⟩
section
variable {P:aQ}{w:aM}{K:ao}{h:az}{mg:Str->Option ah}{base:az}{cls m:Str}{st:aG}{k:Nat}{ps ns:List Str}{ts:List Ty}{T:Ty}
theorem MethAt.okR {F:List ae->Option (ae×ae)}(d:MethAt K cls m st)
  (hb:∀ (kV doc pm:ah) (an:Option af) (cdv ct:ah) (us:List ah),us.length=ps.length->bO (fU m (cls++"."++m) (ij st) (eA st) (aS st) .none kV doc pm an cdv ct) ⟨us,[]⟩=aN (ps.zip us))
  (ok:∀ f fd,bh K m (cls++"."++m) st f fd->aW P w K mg base bx k f fd ps (jt K cls ns ts ns ts F)):gD P w K mg base k cls m ps ns ts F:=by
 cases d with
 | mk C f fd a c1 c2 c3 c4 m1 m2 m3 D=>exact⟨C,f,fd,⟨c1,c2,c3,c4⟩,⟨m1,m2,m3⟩,ok f fd D,a,D.binds hb⟩
theorem rf.ok {F:List ae->Option (ae×ae)}(d:rf K cls st)(X:K.In h)(G:h.Ns a_ mg)
  (hb:∀ (kV doc pm:ah) (an:Option af) (cdv ct:ah) (us:List ah),us.length=ps.length->bO (fU "__init__" (cls++".__init__") (ij st) (eA st) (aS st) .none kV doc pm an cdv ct) ⟨us,[]⟩=aN (ps.zip us))
  (ok:∀ f fd,bh K "__init__" (cls++".__init__") st f fd->aW P w K mg base bx k f fd ps (jt K cls [] [] ns ts F)):rh P w K mg base k cls ps ns ts F:=by
 cases d with
 | mk C f fd a m1 m2 m3 m4 D=>exact⟨C,f,fd,⟨m1,m2,m3,m4⟩,ok f fd D,fV X G a,a,D.binds hb⟩
end
section
variable {X:Cx}{O:Ow}{e tg:Expr}{pos:Pos}{fx:ag->Option (ae×ag)}{S:ae->ag->Option ag}
def wL (S:ae->ag->Option ag)(x:Option (ae×ag)):Option aA:=x.bind fun r=>(S r.1 r.2).map .nx
theorem O_ (he:PX X O e fx)(hg:jJ X O tg S)(hs:swapsWithSole [tg] e pos.line X.env=aN false:=by rfl)(hw:swappedStores [tg] e X.env=aN none:=by rfl)(h1:(i9 [tg] X.env).map (·.2)=[kW tg X.env]:=by rfl) :
  cR X O (.Assign [tg] e pos) (fun ρ=>wL S (fx ρ)):=(Oi he hg hs hw h1).imp fun D σ H zpat=>by
 obtain⟨hid,H0,ρ,ow,o,E,hf,k⟩:=zpat
 obtain⟨r,g1,g2⟩:=bind_some hf
 obtain⟨ρ',g3,rfl⟩:=map_some g2
 exact⟨hid,H0,ρ,ow,r,E,g1,fun v H' E' s Dv=>⟨hid,H0,r.2,ow,r.1,ρ',E',Dv,g3,fun σ' E2=>k σ' H' ow s E2⟩⟩
end
end L2
namespace L2
section
variable {P:aQ}{w:aM}{A:bw}{E:ah->ar->Prop}{h:az}{g:Array GenState}{d:Drawn}{t:Nat}{os:OsState}
variable {C N:af}{nm q:Str}{bs bm bmB:List ah}{hdct:Bool}{sn:List Str}{sub:List ah}{ab:Bool}{col:Option Bool}{dd:Option af}{k0 k1 k2 k3 k5:Option ah}{B Bn newId nid initId inN:String}{bmN:List ah}
theorem R1 (Fn:mZ Bn newId inN bmN)(hBn:bmB.contains (.type Bn)=true)(F:mZ B nid initId bmB)(T:l6 h bmB bm){mN:Str->Option ah}{rest:List ah}{fI:af}{oI:Obj}{Q:Fin->ar->Prop}
  (hCl:h.get? C=some (gQ nm q C N bs bm hdct sn sub ab col dd k0 k1 k2 k3 k5 newId)) (hn:h.Ns N mN) (hi:mN "__init__"=some (.ref fI)) (hfI:h.get? fI=some oI) (hfc:oI.cls=.type "function")
  (hq:∀ h' e,A4 h h' e (.ref C) rest->h.objs.size≤e->aI (aF P w) A (call (.ref fI) (.ref e::rest)) (fun r s'=>r=.none∧Q (.done (.ret (.ref e))) s') E ⟨h',g,d,t,os⟩) (hrest:rest.length≤sizeLine) :
  aI (aF P w) A (kq.«type.__call__» ⟨.ref C::rest,[]⟩) Q E ⟨h,g,d,t,os⟩:=by
 repeat (first | with_reducible refine uS hCl ?_ | with_reducible refine wpAny_madeBy_exc hCl ?_ | wp_step)
 refine codeAny_call_builtin_code (Gs _ Fn.quiet) (wpAny_check_new_subU Fn hBn T hCl (codeAny_exc_new_subU Fn hBn F T hCl ?_ hrest))
 show aI _ _ _ _ _ _
 generalize e2:(h.push {cls:=.type "tuple",data:=.seq rest.toArray}).push {cls:=.ref C,data:=.fields #[.ref h.objs.size,.none,.none,.none,.bool false,.none]}=h2
 have up:∀ b o,h.get? b=some o->h2.get? b=some o:=fun b o e=>by rw[← e2];exact cL _ (cL _ e)
 have hnew:h2.get? (h.objs.size+1)=some {cls:=.ref C,data:=.fields #[.ref h.objs.size,.none,.none,.none,.bool false,.none]}:=by rw[← e2];heap_get
 have hself:(Value.ref C::bm).contains (.ref C)=true:=by simp
 unfold C5
 repeat (first | with_reducible refine uS hnew ?_ | (with_reducible refine Sn (up _ _ hCl) ?_;rw[hself]) | wp_step)
 refine (show aI _ _ (uO (.ref C) _) _ _ _ from wpAny_typeLookup_tail (up _ _ hCl) (hn.keeps up) (T.keeps up) F.mroIs F.init.lookup ?_)
 rw[hi]
 refine oH (aU ?_)
 unfold bindSpecial
 refine aU (wpAny_typeOf (T:="function") ⟨_,up _ _ hfI,hfc⟩ ?_)
 rw[if_pos (by decide)]
 refine bU (aU (cT (hq h2 (h.objs.size+1) ⟨up,A5 (nz _),h.objs.size,hnew,A5 (cj _),?_⟩ (nz _)) (fun r s' hr=>?_) fun _ _ x=>x))
 ·rw[← e2];exact cL _ (G8 rfl rfl)
 ·revert hr
  refine fun zqq=>?_;obtain⟨zq0,hQ⟩:=zqq
  subst zq0
  wp_walk
  exact hQ
theorem IX (Fn:mZ Bn newId inN bmN)(hBn:bmB.contains (.type Bn)=true)(F:mZ B nid initId bmB)(T:l6 h bmB bm){mN:Str->Option ah}{rest:List ah}{fI:af}{oI:Obj}{Q:ah->ar->Prop}
  (hCl:h.get? C=some (gQ nm q C N bs bm hdct sn sub ab col dd k0 k1 k2 k3 k5 newId)) (hn:h.Ns N mN) (hi:mN "__init__"=some (.ref fI)) (hfI:h.get? fI=some oI) (hfc:oI.cls=.type "function")
  (hq:∀ h' e,A4 h h' e (.ref C) rest->h.objs.size≤e->aI (aF P w) (A.under (.builtin "type.__call__" ⟨.ref C::rest,[]⟩)) (call (.ref fI) (.ref e::rest)) (fun r s'=>r=.none∧Q (.ref e) s') E ⟨h',g,d,t,os⟩) (hrest:rest.length≤sizeLine) :
  aI (aF P w) A (call (.ref C) rest) Q E ⟨h,g,d,t,os⟩:=by
 have f1:=tc_lookup
 have f2:=tc_bind (.ref C)
 have hT:(⟨h,g,d,t,os⟩:ar).TypeIs (.ref C) "type":=⟨_,hCl,rfl⟩
 refine mW (codeAny_of_tree ?_)
 refine (show aI _ _ (callAny (.ref C) _) _ _ _ from ?_)
 repeat (any_goals (first | assumption | with_reducible refine uS hCl ?_ | wp_step))
 exact⟨rfl,codeAny_call_builtin_at (Gs _ (by decide +kernel)) entry_typeCall (wpAny_check_type_call_sub hCl (R1 Fn hBn F T hCl hn hi hfI hfc hq hrest))⟩
end
section
variable {P:aQ}{w:aM}{A:bw}{E:ah->ar->Prop}{s:ar}
variable {nm q:Str}{C N e:af}{bs bm bmB:List ah}{hdct:Bool}{sn:List Str}{sub:List ah}{ab:Bool}{col:Option Bool}{dd:Option af}{k0 k1 k2 k3 k5:Option ah}{B newId nid initId:String}
theorem Iv (F:mZ B nid initId bmB)(T:l6 s.heap bmB bm)(hCl:s.heap.get? C=some (gQ nm q C N bs bm hdct sn sub ab col dd k0 k1 k2 k3 k5 newId)){oe:Obj}{vs:Array ah}(he:s.heap.get? e=some oe)(hc:oe.cls=.ref C)(hd:oe.data=.fields vs)(hz:0<vs.size){v:ah}{Q:ah->ar->Prop}
  (hq:∀ h',h'.get? e=some (oe.mapFields (·.setIfInBounds 0 (.ref s.heap.objs.size)))->(∀ b o,b≠e->s.heap.get? b=some o->h'.get? b=some o)->Q .none {s with heap:=h' }) :
  aI (aF P w) A (call (.builtin initId) [.ref e,v]) Q E s:=by
 obtain⟨hp,g,d,tk,os⟩:=s
 refine mW (Cf F.init.plain F.initEntry (wpAny_check_init_subU F T hCl he hc ?_))
 wp_walk
 rw[hd]
 obtain⟨x,hx⟩:∃ x,vs[0]?=some x:=⟨vs[0],by simp[hz]⟩
 refine bU ?_
 rw[hx]
 have he1:(hp.push {cls:=.type "tuple",data:=.seq #[v]}).get? e=some oe:=cL _ he
 refine bU (aU (FZ he1 hd hz ?_))
 have fin:Q .none ⟨(hp.push {cls:=.type "tuple",data:=.seq #[v]}).update e (pB (·.setIfInBounds 0 (.ref hp.objs.size))),g,d,tk,os⟩:=by
  refine hq _ (nj _ he1 (Bc (jI hd _))) fun b o hb e'=>?_
  rw[lV _ _ (cn hb)]
  exact cL _ e'
 cases x <;> first
  | exact bU (bU fin)
  | exact wpAny_letGo (bU fin)
end
end L2
namespace L2
def yb:List ah->Bool
 | .ref _::r=>yb r
 | l=>l==ic
theorem Nm {l:List ah}(h:yb l=true):∃ rs:List af,l=rs.map Value.ref++ic:=by
 induction l with
 | nil=>exact absurd h (by decide)
 | cons a r ih=>
  cases a with
  | ref c=>
   obtain⟨rs,e⟩:=ih h
   exact⟨c::rs,by rw[e];rfl⟩
  | _=>exact⟨[],sQ h⟩
theorem EC (self:ah):∀ rs:List af,refuseLoop self "__setattr__" (rs.map Value.ref++ic)=aN ()
 | []=>PySem.F.store_ValueError.passes self
 | c::rs=>by rw[bV,vO,refuseLoop_ref];exact EC self rs
def ye (K:ao)(C:af):Bool:=(Bm K C).any fun cd=>yb cd.mro&&cd.hasDict
section
variable {P:aQ}{w:aM}{A:bw}{E:ah->ar->Prop}{s:ar}{K:ao}{e C:af}{oe:Obj}{vs:Array ah}{name:Str}{v:ah}
theorem P8 {Q:Unit->ar->Prop}(X:K.In s.heap)(he:s.heap.get? e=some oe)(hc:oe.cls=.ref C)(hd0:oe.dict=none)(hdat:oe.data=.fields vs)
  (hs:cK K (.ref C) "__setattr__"=some (some (.builtin "object.__setattr__"))) (hp:ye K C=true) (hf:cK K (.ref C) name=some none)
  (hq:∀ h' tk',h'.get? e=some {oe with dict:=some s.heap.objs.size}->h'.Ns1 s.heap.objs.size (fun y=>if y=name then some v else none)->(∀ b o,b≠e->s.heap.get? b=some o->h'.get? b=some o)->Q () {s with heap:=h',toks:=tk' }) :
  aI (aF P w) A (zw (.ref e) name v) Q E s:=by
 have I:jK s.heap e oe C none:=⟨he,hc,by unfold se;rw[hdat],by rw[hd0];trivial⟩
 obtain⟨cd,hcd,ho⟩:=sd hp
 rw[cq] at ho
 obtain⟨rs,hm⟩:=Nm ho.1
 have SF:=PySem.F.store_object
 refine HK X I hs ?_
 have ne:cd.mro.isEmpty=false:=by rw[hm];cases rs <;> rfl
 have sub:r_ (aF P w) s.heap (C5 (.ref e) (.type "object")) true:=I.type.andThen (HJ X (by
  unfold pK
  rw[hcd,bW,if_neg (by rw[ne];decide),hm]
  congr 1
  rw[List.contains_eq_any_beq,List.any_append]
  have:ic.any (fun x=>Value.type "object"==x)=true:=by decide
  rw[this,Bool.or_true]))
 refine Cf SF.slot.plain SF.entry (@PySem.W.check_slot (aF P w) _ _ {s with toks:=s.toks+1} "object.__setattr__" "object" "__setattr__" (.ref e) [.str name s.toks,v] [] _ SF.kind SF.split sub (SF.args (.ref e) (.str name s.toks) v) ?_)
 rw[PySem.W.osa_eq,refuse_eq]
 have hmro:r_ (aF P w) s.heap (mroOf (.ref C)) cd.mro:=(Bs X hcd).andThen .now
 refine aU (aU (pJ (s:={s with toks:=s.toks+1}) I.type (aU (pJ (s:={s with toks:=s.toks+1}) hmro ?_))))
 rw[hm,EC]
 refine bU (aU (pJ (s:={s with toks:=s.toks+1}) I.type (aU (pJ (s:={s with toks:=s.toks+1}) (wk X hf) (aU (bU ?_))))))
 have hx0:s.heap.get? e=some ⟨.ref C,none,.fields vs,oe.slots⟩:=by
  obtain⟨oc,od,oda,osl⟩:=oe
  dsimp only at hc hd0 hdat
  subst hc hd0 hdat
  exact he
 refine aU (bU (aU (aU (FY hx0 (aU (pJ (s:={s with toks:=s.toks+1}) (Bs X hcd) ?_))))))
 rw[ho.2,if_neg (by decide)]
 dsimp only
 rw[if_neg (by simp[typeHasDict])]
 generalize hn:s.heap.objs.size=n at hq
 have hx1:(s.heap.push {cls:=.type "dict",data:=.dict #[]}).get? e=some ⟨.ref C,none,.fields vs,oe.slots⟩:=cL _ hx0
 have hne:e≠n:=by rw[← hn];exact cJ (bA he)
 refine aU (wpAny_alloc' (aU (wpAny_update' hx1 (bU ?_))))
 have hgd:((s.heap.push {cls:=.type "dict",data:=.dict #[]}).update e fun o=>{cls:=o.cls,dict:=some s.heap.objs.size,data:=o.data,slots:=o.slots}).get? s.heap.objs.size=some {cls:=.type "dict",data:=.dict #[]}:=
  (G9 _ _ _ _ (by rw[hn];exact hne.symm)).trans (G8 rfl rfl)
 have hnd:((s.heap.push {cls:=.type "dict",data:=.dict #[]}).update e fun o=>{cls:=o.cls,dict:=some s.heap.objs.size,data:=o.data,slots:=o.slots}).Ns s.heap.objs.size (fun _=>none):=⟨_,#[],_,hgd,rfl,fun x hx=>absurd hx (by simp),fun _=>rfl⟩
 refine (show aI _ _ (Ge s.heap.objs.size (.str name s.toks) name v) _ _ _ from ?_)
 unfold Ge Builtin.ObjectAttr.newKeyGuard
 refine aU (bU (aU (wpAny_nsSet1 (G7 hnd) fun h' hn' hs'=>?_)))
 obtain⟨oX,eX,pX,gX,dX,cX⟩:=hn'.count (Within.cons name v Within.nil)
 refine aU (wpAny_lookBehind gX (by rw[dX];exact pastItsLine_dict (dn cX (by rw[dB,vT,E6];omega))) ?_)
 wp_walk
 refine (show Q () {s with heap:=h',toks:=s.toks+1+1} from hq h' _ ?_ ?_ fun b o hb q=>?_)
 ·refine (hs'.2 e (by rw[hn];exact hne)).trans ((nj _ hx1 rfl).trans ?_)
  rw[hn,hc,hdat]
 ·rw[← hn];exact hn'
 ·exact (hs'.2 b (cJ (bA q))).trans ((G9 _ _ _ _ hb).trans (cL _ q))
end
end L2
namespace L2
section
variable {X:Cx}{a b c:Expr}{pos:Pos}{ta tb tc:TE}
def Ft (t:TE):TE:=fun σ H Q=>t σ H fun x H1=>∃ i:Int,x=.int i∧i.natAbs.log2<1920∧Q (.str (jx i)) H1
theorem yh (ha:PE X a ta):PE X (.FormattedValue a (-1) none pos) (Ft ta):=by
 intro pins s σ H Q I h
 refine FormattedValue_plain (aP (ha pins s σ H _ I h) fun v s1 zpat=>?_)
 obtain⟨x,H1,I1,r1,i,rfl,hd,q⟩:=zpat
 revert r1
 refine fun zqq=>?_;obtain⟨t,zq1⟩:=zqq
 subst zq1
 exact formatField_int_small hd ⟨.str _,H1,I1.tok _,⟨_,rfl⟩,q⟩
def Fv (ta tb:TE):TE:=fun σ H Q=>ta σ H fun x H1=>∃ i:Str,x=.str i∧i.length≤10000∧tb σ H1 fun y H2=>∃ j:Str,y=.str j∧j.length≤10000∧Q (.str (i++j)) H2
def Fw (ta tb tc:TE):TE:=fun σ H Q=>ta σ H fun x H1=>∃ i:Str,x=.str i∧i.length≤10000∧tb σ H1 fun y H2=>∃ j:Str,y=.str j∧j.length≤10000∧tc σ H2 fun z H3=>∃ k:Str,z=.str k∧k.length≤10000∧Q (.str (i++j++k)) H3
theorem sP (i:Str):sg++i=i:=by
 obtain⟨c⟩:=i
 show (⟨#[]++c⟩:Str)=⟨c⟩
 rw[Array.empty_append]
theorem Dl {i j:Str}(hi:i.length≤10000)(hj:j.length≤10000):(i++j).length≤20000:=by rw[uy];omega
theorem NT (ha:PE X a ta)(hb:PE X b tb):PE X (.JoinedStr [a,b] pos) (Fv ta tb):=by
 intro pins s σ H Q I h
 have hz:100000<sizeLine:=by decide
 refine JoinedStr_many ?_
 rw[show evalEach ([]:List Expr) X.env=[] from rfl]
 refine tm (aP (ha pins s σ H _ I h) fun v s1 zpat=>?_)
 obtain⟨x,H1,I1,r1,i,rfl,hi,q⟩:=zpat
 revert r1
 refine fun zqq=>?_;obtain⟨t,zq1⟩:=zqq
 subst zq1
 refine⟨by rw[sP];omega,tm (aP (hb pins s1 σ H1 _ I1 q) fun v s2 zpat=>?_)⟩
 obtain⟨y,H2,I2,r2,j,rfl,hj,q⟩:=zpat
 revert r2
 refine fun zqq=>?_;obtain⟨t2,zq1⟩:=zqq
 subst zq1
 have hl:=Dl hi hj
 dsimp only
 rw[sP]
 exact⟨by omega,joinParts_nil ⟨.str _,H2,I2.tok _,⟨_,rfl⟩,q⟩ (by omega)⟩
theorem yk (ha:PE X a ta)(hb:PE X b tb)(hc:PE X c tc):PE X (.JoinedStr [a,b,c] pos) (Fw ta tb tc):=by
 intro pins s σ H Q I h
 have hz:100000<sizeLine:=by decide
 refine JoinedStr_many ?_
 rw[show evalEach [c] X.env=[aB c X.env] from rfl]
 refine tm (aP (ha pins s σ H _ I h) fun v s1 zpat=>?_)
 obtain⟨x,H1,I1,r1,i,rfl,hi,q⟩:=zpat
 revert r1
 refine fun zqq=>?_;obtain⟨t,zq1⟩:=zqq
 subst zq1
 refine⟨by rw[sP];omega,tm (aP (hb pins s1 σ H1 _ I1 q) fun v s2 zpat=>?_)⟩
 obtain⟨y,H2,I2,r2,j,rfl,hj,q⟩:=zpat
 revert r2
 refine fun zqq=>?_;obtain⟨t2,zq1⟩:=zqq
 subst zq1
 have hl:=Dl hi hj
 dsimp only
 rw[sP]
 refine⟨by omega,tm (aP (hc pins s2 σ H2 _ I2 q) fun v s3 zpat=>?_)⟩
 obtain⟨z,H3,I3,r3,k,rfl,hk,q⟩:=zpat
 revert r3
 refine fun zqq=>?_;obtain⟨t3,zq1⟩:=zqq
 subst zq1
 have hl3:(i++j++k).length≤30000:=by rw[uy];omega
 exact⟨by omega,joinParts_nil ⟨.str _,H3,I3.tok _,⟨_,rfl⟩,q⟩ (by omega)⟩
end
end L2
namespace L2
variable [Reg]
def cG (x:Str):Bool:=decide (x.length≤10000)
def uM (h:Str->Str->Option ae):ae->ae->Option ae
 | .str x,.str y=>h x y
 | _,_=>none
theorem zM {h:Str->Str->Option ae}{d e r:ae}(q:uM h d e=some r):∃ x y,d=.str x∧e=.str y∧h x y=some r:=by
 cases d with
 | str x=>
  cases e with
  | str y=>exact⟨x,y,rfl,rfl,q⟩
  | _=>cases q
 | _=>cases q
def hZ:=uM fun x y=>if (cG x&&cG y)=true then some (.str (x++y)) else none
def p8:=uM fun x y=>some (.bool (!(iy y x 0 y.length 1).isEmpty))
section
variable {X:Cx}{O:Ow}{a b c:Expr}{es:List Expr}{pos apos cpos:Pos}{fa fb fc:ag->Option ae}
theorem Qt {K:ao}:iG K (fun x y H Q=>∃ i j,x=.str i∧y=.str j∧i.length+j.length≤sizeLine∧Q (.str (i++j)) H) hZ:=fun x y H d e r Q D1 D2 q k=>by
 obtain⟨i,j,rfl,rfl,q'⟩:=zM q
 split at q'
 ·rename_i h
  rw[cq] at h
  have h1:=of_decide_eq_true h.1
  have h2:=of_decide_eq_true h.2
  have hz:100000<sizeLine:=by decide
  cases q'
  exact⟨i,j,dr D1,dr D2,by omega,k _ (.str _)⟩
 ·cases q'
theorem zQ (ha:PR X O a fa)(hb:PR X O b fb):PV X O (.BinOp a .Add b pos) (fun ρ=>au (fa ρ) (fb ρ) hZ):=(il Nn ha hb).imp (iR Qt)
theorem Qw {K:ao}:iG K (fun x y H Q=>∃ i j,x=.str i∧y=.str j∧Q (.bl (!(iy j i 0 j.length 1).isEmpty)) H) p8:=fun x y H d e r Q D1 D2 q k=>by
 obtain⟨i,j,rfl,rfl,q'⟩:=zM q
 cases q'
 exact⟨i,j,dr D1,dr D2,k _ (.bl _)⟩
def gY:List ae->Option ae
 | [.int i]=>if i.natAbs.log2<1920 then some (.str (jx i)) else none
 | _=>none
theorem kY:iU X (.type "str") gY:=⟨_,IZ,fun xs H ds d Q D h k=>by
 unfold gY at h
 split at h
 ·obtain⟨v,rfl,D1⟩:=mI D
  split at h
  ·rename_i hi
   cases h
   exact⟨_,by rw[eD D1],hi,k _ (.str _)⟩
  ·cases h
 ·cases h⟩
def qj:List ae->Option ae
 | [.str x]=>if cG x=true then some (.int x.length) else none
 | _=>none
theorem BV:iU X (.builtin "len") qj:=⟨_,IT,fun xs H ds d Q D h k=>by
 unfold qj at h
 split at h
 ·obtain⟨v,rfl,D1⟩:=mI D
  split at h
  ·rename_i hi
   cases h
   have:=of_decide_eq_true hi
   have hz:100000<sizeLine:=by decide
   exact⟨_,by rw[dr D1],by omega,k _ (.int _)⟩
  ·cases h
 ·cases h⟩
theorem IP:eY X (.type "int") (fun xs H Q=>∃ x n,xs=[.str x]∧xJ x=some n∧x.length≤640∧Q (.int n) H):=by
 intro pins s σ H xs us Q I r h
 obtain⟨x,n,rfl,hn,hl,q⟩:=h
 obtain⟨u,rfl,t,rfl⟩:=vals1 r
 exact PySem.W.KIN.call_text hn hl ⟨.int n,H,I.tok _,⟨_,rfl⟩,q⟩
def sZ:List ae->Option ae
 | [.str x]=>if x.length≤640 then (xJ x).map .int else none
 | _=>none
theorem Ir:iU X (.type "int") sZ:=⟨_,IP,fun xs H ds d Q D h k=>by
 unfold sZ at h
 split at h
 ·obtain⟨v,rfl,D1⟩:=mI D
  split at h
  ·rename_i hi
   obtain⟨n,hn,rfl⟩:=map_some h
   exact⟨_,n,by rw[dr D1],hn,hi,k _ (.int _)⟩
  ·cases h
 ·cases h⟩
theorem FL {x v:Str}{t:Tok}(hg:Gl X x)(hm:X.mg x=some (.str v t))(hd:(x==("__debug__":Str))=false:=by decide):PV X O (.Name x pos) (fun _=>some (.str v)):=(tW (v:=.str v) hg hm ⟨t,rfl⟩ hd).imp fun σ H Q zpat=>by
 obtain⟨hid,H0,ρ,ow,d,E,hf,k⟩:=zpat
 cases hf
 exact k _ H (ay.refl H) (.str v)
def jV:ae->Option ae
 | .int i=>if i.natAbs.log2<1920 then some (.str (jx i)) else none
 | _=>none
theorem J4 {d r:ae}(h:jV d=some r):∃ i:Int,d=.int i∧i.natAbs.log2<1920∧r=.str (jx i):=by
 cases d with
 | int i=>
  have h':(if i.natAbs.log2<1920 then some (PyData.str (jx i)) else none)=some r:=h
  by_cases q:i.natAbs.log2<1920
  ·rw[if_pos q] at h';cases h';exact⟨i,rfl,q,rfl⟩
  ·rw[if_neg q] at h';cases h'
 | _=>cases h
theorem uQ (ha:PR X O a fa):PV X O (.FormattedValue a (-1) none pos) (fun ρ=>(fa ρ).bind jV):=(yh ha).imp fun σ H Q zpat=>by
 obtain⟨hid,H0,ρ,ow,d,E,hf,k⟩:=zpat
 obtain⟨e,h1,h2⟩:=bind_some hf
 obtain⟨i,rfl,hi,rfl⟩:=J4 h2
 exact⟨hid,H0,ρ,ow,_,E,h1,fun x H1 s1 D1=>⟨i,eD D1,hi,k _ H1 s1 (.str _)⟩⟩
def wX:ae->ae->ae->Option ae
 | .str i,.str j,.str k=>if (cG i&&cG j&&cG k)=true then some (.str (i++j++k)) else none
 | _,_,_=>none
theorem Jb {x y z r:ae}(h:wX x y z=some r):∃ i j k,x=.str i∧y=.str j∧z=.str k∧i.length≤10000∧j.length≤10000∧k.length≤10000∧r=.str (i++j++k):=by
 cases x with
 | str i=>
  cases y with
  | str j=>
   cases z with
   | str k=>
    have h':(if (cG i&&cG j&&cG k)=true then some (PyData.str (i++j++k)) else none)=some r:=h
    by_cases q:(cG i&&cG j&&cG k)=true
    ·rw[if_pos q] at h'
     rw[cq,cq] at q
     cases h'
     exact⟨i,j,k,rfl,rfl,rfl,of_decide_eq_true q.1.1,of_decide_eq_true q.1.2,of_decide_eq_true q.2,rfl⟩
    ·rw[if_neg q] at h';cases h'
   | _=>cases h
  | _=>cases h
 | _=>cases h
def tj (a b c:Option ae):Option ae:=a.bind fun x=>b.bind fun y=>c.bind fun z=>wX x y z
theorem FN (ha:PV X O a fa)(hb:PV X O b fb)(hc:PV X O c fc):PV X O (.JoinedStr [a,b,c] pos) (fun ρ=>tj (fa ρ) (fb ρ) (fc ρ)):=(yk ha hb hc).imp fun σ H Q zpat=>by
 obtain⟨hid,H0,ρ,ow,d,E,hf,k⟩:=zpat
 obtain⟨x,h1,hf⟩:=bind_some hf
 obtain⟨y,h2,hf⟩:=bind_some hf
 obtain⟨z,h3,hf⟩:=bind_some hf
 obtain⟨i,j,l,rfl,rfl,rfl,q1,q2,q3,rfl⟩:=Jb hf
 exact⟨hid,H0,ρ,ow,_,E,h1,fun x H1 s1 D1=>⟨i,dr D1,q1,hid,H0,ρ,ow,_,E.mono s1,h2,fun y H2 s2 D2=>⟨j,dr D2,q2,hid,H0,ρ,ow,_,(E.mono s1).mono s2,h3,fun z H3 s3 D3=>⟨l,dr D3,q3,k _ H3 ((s1.trans s2).trans s3) (.str _)⟩⟩⟩⟩
def OJ:V->List V->Hp->VK->Prop:=fun x vs H Q=>∃ i j,x=.str i∧vs=[.str j]∧Q (.bl (0+j.length≤i.length&&iz i j 0)) H
theorem Mc:gJ X "str.startswith" OJ:=by
 intro pins s σ H x vs v us Q I rx rv h
 obtain⟨i,j,rfl,rfl,q⟩:=h
 obtain⟨t,rfl⟩:=rx
 obtain⟨u,rfl,t',rfl⟩:=vals1 rv
 exact gO HA (kh _ _ _) PySem.F.entry_str_startswith (PySem.F.args_str_startswith_2 _ _) (PySem.gives_str_startswith i j t t').meets ⟨.bl _,H,I,rfl,q⟩
def j_:=uM fun x y=>some (.bool (0+y.length≤x.length&&iz x y 0))
theorem FO (ha:PR X O a fa)(hb:PR X O b fb)(hbase:dR a "startswith" X.env (aB a X.env)=aB a X.env:=by rfl)
  (hfew:((a0 cpos (ax [b] X.env)).all (fun x=>!x.1)&&(dS cpos (dY [] X.env)).all (fun x=>x.1.isSome)&&decide ([b].length+([]:List df).length+(if ([]:List df).isEmpty then 0 else 1)<30))=true:=by rfl)
  (hline:(apos.endLine==cpos.line)=true:=by rfl) (hst:ax [b] X.env=(false,aB b X.env)::ax [] X.env:=by rfl) (hplain:(a0 cpos (ax [] X.env)).any (·.1)=false:=by rfl) :
  PV X O (.Call (.Attribute a "startswith" apos) [b] [] cpos) (fun ρ=>au (fa ρ) (fb ρ) j_):=
 (j3 wc HA PySem.F.type_str_startswith Mc ha (pa_cons hb pa_nil hst) hbase hfew hline hst hplain).imp fun σ H Q zpat=>by
  obtain⟨hid,H0,ρ,ow,r,E,hf,k⟩:=zpat
  obtain⟨d,e,h1,h2,h3⟩:=mi hf
  obtain⟨i,j,rfl,rfl,h4⟩:=zM h3
  cases h4
  refine⟨hid,H0,ρ,ow,_,E,h1,fun x H1 s1 D1=>?_⟩
  rw[dr D1]
  exact⟨rfl,hid,H0,ρ,ow,_,E.mono s1,h2,fun y H2 s2 D2=>⟨i,j,rfl,by rw[dr D2],k _ H2 (s1.trans s2) (.bl _)⟩⟩
theorem QJ {ss:List Str}:∀ {its:List ah},aV (ss.map V.str) its->∃ l:List (Str×Tok),its=strValues l∧l.map (·.1)=ss:=by
 induction ss with
 | nil=>intro its h;cases h;exact⟨[],rfl,rfl⟩
 | cons x r ih=>
  intro its h
  cases h with
  | cons h1 h2=>
   obtain⟨t,rfl⟩:=h1
   obtain⟨l,rfl,h4⟩:=ih h2
   exact⟨(x,t)::l,rfl,by rw[bV,h4]⟩
def OH (K:ao):V->List V->Hp->VK->Prop:=fun x vs H Q=>∃ sep l ss,x=.str sep∧vs=[.ref l]∧bD K H l (ss.map .str)∧vi (ss.toArray.foldl (·+·.length+sep.length) 0)=false∧(eW sep ss).length≤100000∧Q (.str (eW sep ss)) H
theorem L_:gJ X "str.join" (OH X.K):=by
 intro pins s σ H x vs v us Q I rx rv h
 obtain⟨sep,l,ss,rfl,rfl,hq,hl,hg,q⟩:=h
 obtain⟨t,rfl⟩:=rx
 obtain⟨u,rfl,ru⟩:=vals1 rv
 obtain rfl:u=Value.ref l:=ru
 obtain⟨its,r,pl,hz⟩:=I.list hq
 obtain⟨l',rfl,e2⟩:=QJ r
 refine gO Hz (kh _ _ _) PySem.F.entry_str_join (PySem.F.args_str_join_2 _ _) (meets_str_join_list sep t l l' (by rw[e2];exact hl)) ⟨pl.isList,?_⟩
 have hz2:100000<sizeLine:=by decide
 have fin:∀ (tk:Tok) (s':ar),Inv X pins σ H s'->EP X pins σ Q (.str (eW sep ss) tk) s':=fun tk s' J=>⟨.str _,H,J,⟨tk,rfl⟩,q⟩
 rcases l' with _ | ⟨p,_ | ⟨p2,l'⟩⟩
 ·refine⟨by rw[e2];omega,?_⟩
  show EP X pins σ Q (.str (eW sep (([]:List (Str×Tok)).map (·.1))) s.toks) _
  rw[e2];exact fin _ _ (I.tok _)
 ·show EP X pins σ Q (.str p.1 p.2) s
  have e:eW sep ss=p.1:=by rw[← e2];rfl
  have:=fin p.2 s I
  rwa [e] at this
 ·refine⟨by rw[e2];omega,?_⟩
  show EP X pins σ Q (.str (eW sep ((p::p2::l').map (·.1))) s.toks) _
  rw[e2];exact fin _ _ (I.tok _)
def gx:ae->Option Str
 | .str x=>some x
 | _=>none
def kb:List ae->Option (List Str)
 | []=>some []
 | d::r=>(gx d).bind fun x=>(kb r).map fun xs=>x::xs
theorem gy {d:ae}{x:Str}(h:gx d=some x):d=.str x:=by
 cases d with
 | str y=>cases h;rfl
 | _=>cases h
theorem QI {K:ao}{H:Hp}:∀ {ds:List ae} {ss:List Str} {vs:List V},kb ds=some ss->aD K H vs ds->vs=ss.map V.str:=by
 intro ds
 induction ds with
 | nil=>intro ss vs h D;cases h;cases D;rfl
 | cons d r ih=>
  intro ss vs h D
  obtain⟨x,h1,h2⟩:=bind_some h
  obtain⟨xs,h3,rfl⟩:=map_some h2
  cases D with
  | cons D1 D2=>
   rw[gy h1] at D1
   rw[dr D1,ih h3 D2]
   rfl
def mD (d e:ae):Option ae:=(gx d).bind fun sep=>((cH e).bind kb).bind fun ss=>if (!(vi (ss.toArray.foldl (·+·.length+sep.length) 0))&&decide ((eW sep ss).length≤100000))=true then some (.str (eW sep ss)) else none
theorem qW (ha:PR X O a fa)(hb:PR X O b fb)(hbase:dR a "join" X.env (aB a X.env)=aB a X.env:=by rfl)
  (hfew:((a0 cpos (ax [b] X.env)).all (fun x=>!x.1)&&(dS cpos (dY [] X.env)).all (fun x=>x.1.isSome)&&decide ([b].length+([]:List df).length+(if ([]:List df).isEmpty then 0 else 1)<30))=true:=by rfl)
  (hline:(apos.endLine==cpos.line)=true:=by rfl) (hst:ax [b] X.env=(false,aB b X.env)::ax [] X.env:=by rfl) (hplain:(a0 cpos (ax [] X.env)).any (·.1)=false:=by rfl) :
  PV X O (.Call (.Attribute a "join" apos) [b] [] cpos) (fun ρ=>au (fa ρ) (fb ρ) mD):=
 (j3 wc Hz PySem.F.type_str_join L_ ha (pa_cons hb pa_nil hst) hbase hfew hline hst hplain).imp fun σ H Q zpat=>by
  obtain⟨hid,H0,ρ,ow,r,E,hf,k⟩:=zpat
  obtain⟨d,e,h1,h2,h3⟩:=mi hf
  obtain⟨sep,h4,h5⟩:=bind_some h3
  obtain⟨ss,h6,h7⟩:=bind_some h5
  obtain⟨ds,h8,h9⟩:=bind_some h6
  split at h7
  case isFalse=>cases h7
  rename_i hc
  rw[cq,lI] at hc
  cases h7
  rw[gy h4] at h1
  rw[fQ h8] at h2
  refine⟨hid,H0,ρ,ow,_,E,h1,fun x H1 s1 D1=>?_⟩
  rw[dr D1]
  refine⟨rfl,hid,H0,ρ,ow,_,E.mono s1,h2,fun y H2 s2 D2=>?_⟩
  obtain⟨l,vs,rfl,q1,r1⟩:=dU D2
  rw[QI h9 r1] at q1
  exact⟨sep,l,ss,rfl,rfl,(bH _ _).seq q1,hc.1,of_decide_eq_true hc.2,k _ H2 (s1.trans s2) (.str _)⟩
theorem FQ:∀ (tk:Nat) (xs:List Str),aV (xs.map V.str) (strsFrom tk xs):=by
 intro tk xs
 induction xs generalizing tk with
 | nil=>exact .nil
 | cons x r ih=>exact .cons ⟨tk,rfl⟩ (ih (tk+1))
def OM:V->List V->Hp->VK->Prop:=fun x vs H Q=>∃ i j,x=.str i∧vs=[.str j]∧(j.length==0)=false∧i.length≤10000∧∀ l,H l=none->Q (.ref l) (upd H l (.lst ((Txt.split i j).map .str)))
theorem Ma:gJ X "str.split" OM:=by
 intro pins s σ H x vs v us Q I rx rv h
 obtain⟨i,j,rfl,rfl,hj,hi,q⟩:=h
 obtain⟨t,rfl⟩:=rx
 obtain⟨u,rfl,t',rfl⟩:=vals1 rv
 have hz:100000<sizeLine:=by decide
 have hlen:=split_le i j
 have fin:∀ (its:List ah) (tk:Nat),aV ((Txt.split i j).map V.str) its->EP X pins σ Q (.ref s.heap.objs.size) {s with toks:=tk,heap:=s.heap.push {cls:=.type "list",data:=.seq its.toArray}}:=fun its tk r=>
  ⟨.ref s.heap.objs.size,_,I.laid (t':=tk) (fun b o e=>cL _ e) (cj _) (show cP X.prog X.w _ _ _ (.lst ((Txt.split i j).map .str)) from ⟨by rw[cm];omega,its,_,r,fA _ rfl⟩),rfl,q _ (I.hok.fresh (cj _))⟩
 have one:Txt.split i j=[i]->EP X pins σ Q (.ref s.heap.objs.size) {s with heap:=s.heap.push {cls:=.type "list",data:=.seq [Value.str i t].toArray}}:=fun e=>fin [.str i t] s.toks (by rw[e];exact .cons ⟨t,rfl⟩ .nil)
 by_cases h1:(decide (i.length<j.length)||decide (iT i<iT j))=true
 ·exact gO l7 (kh _ _ _) pI (Bi _ _) (meets_str_split_cannot_occur i j t t' h1) (one (by unfold Txt.split;rw[if_pos h1]))
 ·by_cases h2:(iy i j 0 i.length (i.length+1)).isEmpty=true
  ·exact gO l7 (kh _ _ _) pI (Bi _ _) (meets_str_split_not_found i j t t' (vg _▸h1) hj h2) (one (by unfold Txt.split;rw[if_neg h1,if_pos h2]))
  ·have e:Txt.split i j=AN i (iy i j 0 i.length (i.length+1)) j.length:=by unfold Txt.split;rw[if_neg h1,if_neg h2]
   refine gO l7 (kh _ _ _) pI (Bi _ _) (meets_str_split_sep i j t t' (Bool.eq_false_iff.mpr h1) hj (Bool.eq_false_iff.mpr h2) (by omega) (by rw[← e];omega)) ?_
   refine fin _ _ ?_
   rw[e]
   exact FQ _ _
def mR (d e:ae):Option (List ae):=(gx d).bind fun i=>(gx e).bind fun j=>if (!(j.length==0)&&cG i)=true then some ((Txt.split i j).map .str) else none
theorem xa {K:ao}{H:Hp}(ss:List Str):aD K H (ss.map V.str) (ss.map .str):=by
 induction ss with
 | nil=>exact .nil
 | cons x r ih=>exact .cons (.str x) ih
theorem xB (ha:PR X O a fa)(hb:PR X O b fb)(hbase:dR a "split" X.env (aB a X.env)=aB a X.env:=by rfl)
  (hfew:((a0 cpos (ax [b] X.env)).all (fun x=>!x.1)&&(dS cpos (dY [] X.env)).all (fun x=>x.1.isSome)&&decide ([b].length+([]:List df).length+(if ([]:List df).isEmpty then 0 else 1)<30))=true:=by rfl)
  (hline:(apos.endLine==cpos.line)=true:=by rfl) (hst:ax [b] X.env=(false,aB b X.env)::ax [] X.env:=by rfl) (hplain:(a0 cpos (ax [] X.env)).any (·.1)=false:=by rfl) :
  bL X O (.Call (.Attribute a "split" apos) [b] [] cpos) (fun ρ=>(fa ρ).bind fun d=>(fb ρ).bind fun e=>mR d e):=
 (j3 wc l7 HD Ma ha (pa_cons hb pa_nil hst) hbase hfew hline hst hplain).imp fun σ H Q zpat=>by
  obtain⟨hid,H0,ρ,ow,r,E,hf,k⟩:=zpat
  obtain⟨d,h1,hf⟩:=bind_some hf
  obtain⟨e,h2,hf⟩:=bind_some hf
  obtain⟨i,h4,hf⟩:=bind_some hf
  obtain⟨j,h5,h7⟩:=bind_some hf
  split at h7
  case isFalse=>cases h7
  rename_i hc
  rw[cq,lI] at hc
  cases h7
  rw[gy h4] at h1
  rw[gy h5] at h2
  refine⟨hid,H0,ρ,ow,_,E,h1,fun x H1 s1 D1=>?_⟩
  rw[dr D1]
  refine⟨rfl,hid,H0,ρ,ow,_,E.mono s1,h2,fun y H2 s2 D2=>⟨i,j,rfl,by rw[dr D2],hc.1,of_decide_eq_true hc.2,fun l hl=>?_⟩⟩
  exact k l _ _ ((s1.trans s2).trans (cb hl)) ((s1.trans s2).free hl) cD (xa _)
end
end L2
namespace L2
variable [Reg]
section
variable {X:Cx}{O:Ow}{a b c:Expr}{es:List Expr}{pos apos cpos p2:Pos}{fa fb fc:ag->Option ae}
def OL:V->Option Int->Option Int->Hp->VK->Prop:=fun x lo hi H Q=>∃ i,x=.str i∧i.length≤10000∧Q (.str (Txt.slice i lo hi)) H
theorem part_of {v:ah}{o:Option Int}(h:IsPart v o):∃ p:Option (Int×Tok),v=partValue p∧p.map (·.1)=o:=by
 cases h with
 | none=>exact⟨none,rfl,rfl⟩
 | int i t=>exact⟨some (i,t),rfl,rfl⟩
theorem Qn:ma X OL:=by
 intro pins s σ H x v vl vu lo hi sl Q I rx hs pl pu h
 obtain⟨i,rfl,hi',q⟩:=h
 obtain⟨t,rfl⟩:=rx
 obtain⟨l,rfl,rfl⟩:=part_of pl
 obtain⟨u,rfl,rfl⟩:=part_of pu
 have hz:100000<sizeLine:=by decide
 refine⟨"str",_,PySem.F.slot_str_getitem.lookup,kh _ _ _,wpAny_getItem_str_slice (l:=l) (u:=u) (st:=none) hs rfl ?_⟩
 have hle:=PyProof.Txt.length_slice_le i (l.map (·.1)) (u.map (·.1))
 have fin:∀ (tk:Tok) (s':ar),Inv X pins σ H s'->EP X pins σ Q (.str (Txt.slice i (l.map (·.1)) (u.map (·.1))) tk) s':=fun tk s' J=>⟨.str _,H,J,⟨tk,rfl⟩,q⟩
 unfold Txt.slice at fin hle
 unfold sliceMade slicePicked
 rw[show (Bd (fun x:Int×Tok=>x.fst) none).getD 1=(1:Int) from rfl]
 by_cases e:((1:Int)==1&&(Gg (l.map (·.1)) (u.map (·.1)) 1 i.length).length==i.length)=true
 ·rw[if_pos e] at fin hle
  rw[if_pos e]
  exact fin t s I
 ·rw[if_neg e] at fin hle
  rw[if_neg e]
  have hln:(⟨((Gg (l.map (·.1)) (u.map (·.1)) 1 i.length).filterMap (i.cps[·]?)).toArray⟩:Str).length≤sizeLine:=by omega
  exact⟨hln,fin _ _ (I.tok _)⟩
def sG (d:Option ae)(lo hi:Option (Option Int)):Option ae:=(d.bind gx).bind fun i=>lo.bind fun l=>hi.bind fun h=>if cG i=true then some (.str (Txt.slice i l h)) else none
theorem Sg {lo hi:Option Expr}{fl fh:ag->Option (Option Int)}(ha:PR X O a fa)(hl:nB X O lo fl)(hh:nB X O hi fh):PV X O (.Subscript a (.Slice lo hi none p2) pos) (fun ρ=>sG (fa ρ) (fl ρ) (fh ρ)):=(Ec Qn ha hl hh).imp fun σ H Q zpat=>by
 obtain⟨hid,H0,ρ,ow,ds,E,hf,k⟩:=zpat
 obtain⟨i,g1,g2⟩:=bind_some hf
 obtain⟨d,g3,g4⟩:=bind_some g1
 rw[gy g4] at g3
 obtain⟨l,g5,g6⟩:=bind_some g2
 obtain⟨h,g7,g8⟩:=bind_some g6
 split at g8
 case isFalse=>cases g8
 rename_i hc
 cases g8
 exact⟨hid,H0,ρ,ow,_,E,g3,fun x H1 s1 D1=>⟨hid,H0,ρ,ow,l,E.mono s1,g5,fun H2 s2=>⟨hid,H0,ρ,ow,h,(E.mono s1).mono s2,g7,fun H3 s3=>⟨i,dr D1,of_decide_eq_true hc,k _ H3 (s1.trans (s2.trans s3)) (.str _)⟩⟩⟩⟩
theorem B3:eM X .In p8:=⟨_,Nw,Qw⟩
theorem IA {bs:List Bool}:∀ {its:List ah},aV (bs.map V.bl) its->its=bs.map Value.bool:=by
 induction bs with
 | nil=>intro its h;cases h;rfl
 | cons x r ih=>
  intro its h
  cases h with
  | cons h1 h2=>
   rw[ih h2]
   cases h1
   rfl
theorem IL (hc:X.calm=true):eY X (.builtin "all") (fun xs H Q=>∃ (p:af) (bs:List Bool),xs=[.ref p]∧bD X.K H p (bs.map V.bl)∧Q (.bl (bs.all id)) H):=by
 intro pins s σ H xs us Q I r h
 obtain⟨p,bs,rfl,hq,k⟩:=h
 obtain⟨u,rfl,rx⟩:=vals1 r
 obtain rfl:u=Value.ref p:=rx
 obtain⟨its,r',pl,hz⟩:=I.list hq
 obtain rfl:=IA r'
 have hl:=pl.isList
 have hlt:p<s.heap.objs.size:=bA hl.choose_spec.1
 refine call_all_walk (Su hl ?_)
 refine⟨_,_,_,_,_,_,fun i=>bs.getD i true,rfl,Walks.list (A:=X.A.in1) (I.ok.hd hc) _ p (cJ hlt) (bs.map Value.bool).toArray,⟨⟨_,fA _ rfl,rfl,rfl⟩,hl.push _⟩,fun i v s' Q' E' hv hQ=>?_,fun h' tk hk=>?_⟩
 ·have hv':(bs.map Value.bool)[i]?=some v:=by simpa using hv
  rw[e7] at hv'
  obtain⟨b,hb,rfl⟩:=Option.map_eq_some_iff.mp hv'
  refine mX ?_
  have:bs.getD i true=b:=by rw[pf,hb];rfl
  exact this▸(show Q' (bs.getD i true) s' from hQ)
 ·have hall:(iF (bs.map Value.bool).toArray.size).all (fun i=>bs.getD i true)=bs.all id:=by
   rw[e_,cm,AI,pd,pd]
   constructor
   ·intro h x hx
    obtain⟨i,hi,rfl⟩:=List.getElem_of_mem hx
    have:=h i (List.mem_range.mpr hi)
    rwa [pf,ph hi] at this
   ·intro h i hi
    have hi:=List.mem_range.mp hi
    rw[pf,ph hi]
    exact h _ (List.getElem_mem hi)
  rw[hall]
  exact⟨.bl _,H,I.kept (t':=tk) (old_kept hk),rfl,k⟩
def B2:ae->Option Bool
 | .bool b=>some b
 | _=>none
def nS:List ae->Option (List Bool)
 | []=>some []
 | d::r=>(B2 d).bind fun x=>(nS r).map fun xs=>x::xs
theorem Iw {d:ae}{x:Bool}(h:B2 d=some x):d=.bool x:=by
 cases d with
 | bool y=>cases h;rfl
 | _=>cases h
theorem Iy {K:ao}{H:Hp}:∀ {ds:List ae} {ss:List Bool} {vs:List V},nS ds=some ss->aD K H vs ds->vs=ss.map V.bl:=by
 intro ds
 induction ds with
 | nil=>intro ss vs h D;cases h;cases D;rfl
 | cons d r ih=>
  intro ss vs h D
  obtain⟨x,h1,h2⟩:=bind_some h
  obtain⟨xs,h3,rfl⟩:=map_some h2
  cases D with
  | cons D1 D2=>
   rw[Iw h1] at D1
   rw[iK D1,ih h3 D2]
   rfl
def sr (d:ae):Option ae:=((cH d).bind nS).map fun bs=>.bool (bs.all id)
theorem v_all {p:Pos}(hc:X.calm=true)(hg:Gl X "all")(hm:X.mg "all"=none)(ha:PR X O a fa)(he:ax [a] X.env=(false,aB a X.env)::ax [] X.env:=by rfl)(hpl:(a0 pos (ax [] X.env)).any (·.1)=false:=by rfl)
  (hv:dJ "all"=some (.builtin "all"):=by decide +kernel):PV X O (.Call (.Name "all" p) [a] [] pos) (fun ρ=>(fa ρ).bind sr):=
 (lq (IL hc) hg hm hv (pa_cons ha pa_nil he) (by decide) (by decide) he hpl).imp fun σ H Q zpat=>by
  obtain⟨hid,H0,ρ,ow,r,E,hf,k⟩:=zpat
  obtain⟨d,h1,h2⟩:=bind_some hf
  obtain⟨bs,h3,rfl⟩:=map_some h2
  obtain⟨ds,h4,h5⟩:=bind_some h3
  rw[fQ h4] at h1
  refine⟨hid,H0,ρ,ow,_,E,h1,fun x H1 s1 D1=>?_⟩
  obtain⟨q,vs,rfl,q1,r1⟩:=dU D1
  rw[Iy h5 r1] at q1
  exact⟨q,bs,rfl,(bH _ _).seq q1,k _ H1 s1 (.bl _)⟩
end
end L2
namespace L2
theorem JM:entryFor table "str_ascii_iterator.__iter__"=some kq.«dict_keyiterator.__iter__»:=
 entryFor_alias (id':="dict_keyiterator.__iter__") (by kernel_rfl) (by first | rfl | decide +kernel) (by decide +kernel) (by kernel_rfl)
def vL (x:Str):It:=⟨fun i _=>∃ c,x.cps[i]?=some c,fun i H v H'=>H'=H∧∃ c,x.cps[i]?=some c∧v=.str ⟨#[c]⟩,fun i _=>x.cps[i]?=none⟩
theorem RU {P:aQ}{w:aM}{K:ao}{tg:Expr}(x:Str)(t:Tok)(it:af):mf P w K tg (vL x) [it] it (fun i h=>h.IsStrIter it "str_ascii_iterator" x t i) where
 mem:=by simp
 obj:=fun i h st b hb=>by
  have e:b=it:=by simpa using hb
  subst e
  obtain⟨o,e,c,d⟩:=st
  exact⟨o,e,fun v z=>by rw[d] at z;cases z⟩
 keep:=fun i h h' st k=>by
  obtain⟨o,e,c,d⟩:=st
  exact⟨o,k it (by simp) o e,c,d⟩
 item:=by
  intro X hP hw hK hc i pins s σ H E I hf st hg
  subst hP hw hK
  obtain⟨c,hx⟩:=hg
  obtain⟨f0,f1,f2,f3,f4,f5⟩:=hf it (by simp)
  refine wpAny_pyNext_ascii_item st hx fun h' st' sb=>?_
  have I1:Inv X pins σ H {s with heap:=h',toks:=s.toks+1}:=I.turned (t':=s.toks+1) (fun b o hb e=>(sb.2 b hb).trans e) f0 f1 f3 f4 f5
  obtain⟨o,e,c',d⟩:=id st'
  exact⟨_,rfl,sX (s:={s with heap:=h',toks:=s.toks+1}) e c' d (by decide) ⟨.str ⟨#[c]⟩,H,I1,⟨_,rfl⟩,⟨rfl,c,hx,rfl⟩,st',fun b hb=>(hf b hb).1⟩⟩
 done:=by
  intro X hP hw hK hc i pins s σ H E I hf st hg
  subst hP hw hK
  obtain⟨f0,f1,f2,f3,f4,f5⟩:=hf it (by simp)
  exact wpAny_pyNext_ascii_end (I.ok.hd hc) st hg fun h' eb=>⟨rfl,I.turned (t':=s.toks) (fun b o hb e=>eb b o hb e) f0 f1 f3 f4 f5⟩
 self:=fun _ _ s Q E st h=>by
  have hT:s.TypeIs (.ref it) "str_ascii_iterator":=st.typeIs
  refine wpAny_pyIter_slot hT Hy (wpAny_call_entry Hy hT JM ?_ (PySem.F.args_str_ascii_iterator_iter_1 _))
  show aI _ _ (ret (.ref it)) _ _ s
  exact bU ⟨_,rfl,"str_ascii_iterator",_,hT,PySem.F.slot_str_ascii_iterator_next.lookup,h⟩
section
variable [Reg]{X:Cx}{O:Ow}{tg e:Expr}{f:ag->Option ae}
def KL (tl:TE):TI:=fun σ H R=>tl σ H fun x H1=>∃ z,x=.str z∧z.cps.all (·<128)=true∧R (vL z) H1
theorem N_ {l:Expr}{tl:TE}(hl:PE X l tl):PI X tg l (KL tl):=by
 intro pins s σ H R I h
 refine aP (hl pins s σ H _ I h) fun v s1 zpat=>?_
 obtain⟨x,H1,I1,r1,z,rfl,ha,q⟩:=zpat
 obtain⟨t,rfl⟩:=r1
 refine wpAny_pyIter_ascii ha ?_
 refine⟨s1.heap.objs.size,[s1.heap.objs.size],_,_,H1,rfl,I1.kept (t':=s1.toks) (fun b o e=>cL _ e),RU z t _,⟨_,fA _ rfl,rfl,rfl⟩,fun b hb=>?_,q⟩
 have e:b=s1.heap.objs.size:=by simpa using hb
 subst e
 exact I1.fpOk (cj _) (I1.hok.fresh (cj _))
def sD (d:ae):Option (List ae):=(gx d).bind fun z=>if z.cps.all (·<128)=true then some (z.cps.toList.map fun c=>.str ⟨#[c]⟩) else none
theorem good_str {K:ao}{G:Hp}(z:Str):gI K (vL z) G (z.cps.toList.map fun c=>.str ⟨#[c]⟩) where
 go:=fun H2 i s h=>by
  rw[cm,gC] at h
  exact⟨z.cps[i],z_ h⟩
 yld:=fun H2 i x H3 d s h y=>by
  obtain⟨rfl,c,hc,rfl⟩:=y
  rw[e7,u0,hc] at h
  cases h
  exact .inl ⟨rfl,.str _⟩
 stop:=fun H2 s=>by
  show z.cps[(z.cps.toList.map fun c=>PyData.str ⟨#[c]⟩).length]?=none
  rw[cm,gC]
  exact Array.getElem?_eq_none (cj _)
theorem C3 (h:PR X O e f):pD X O tg e (fun ρ=>(f ρ).bind sD):=(N_ h).imp fun σ H R zpat=>by
 obtain⟨hid,H0,ρ,ow,ds,E,hf,k⟩:=zpat
 obtain⟨d,h1,h2⟩:=bind_some hf
 obtain⟨z,h3,h4⟩:=bind_some h2
 rw[gy h3] at h1
 split at h4
 case isFalse=>cases h4
 rename_i ha
 cases h4
 exact⟨hid,H0,ρ,ow,_,E,h1,fun v H' s D=>⟨z,dr D,ha,k _ H' s (good_str z)⟩⟩
def n5:ah->Bool
 | .none=>true
 | _=>false
def lg:V->Bool
 | .non=>true
 | _=>false
def Eo (K:ao):R2:=fun x y H Q=>x=.non∧∃ p xs,y=.ref p∧bD K H p xs∧(∀ v∈xs,v=.non∨∃ a ys,v=.ref a∧cF K H a ys)∧Q (.bl (xs.any lg)) H
theorem Ig {xs:List V}{its:List ah}(h:aV xs its)(hx:∀ v∈xs,v=.non∨∃ a:af,v=.ref a):its.any n5=xs.any lg:=by
 induction h with
 | nil=>rfl
 | cons r t ih=>
  rw[kH,kH,ih fun v hv=>hx v (bP _ hv)]
  congr 1
  rcases hx _ (bQ ..) with rfl | ⟨a,rfl⟩
  ·cases r;rfl
  ·cases r;rfl
theorem FP {xs:List V}{its:List ah}(h:aV xs its){u:ah}(hu:u∈its):∃ v∈xs,RelV v u:=by
 induction h with
 | nil=>cases hu
 | cons r t ih=>
  rcases List.mem_cons.mp hu with rfl | hu
  ·exact⟨_,bQ ..,r⟩
  ·obtain⟨v,h1,h2⟩:=ih hu
   exact⟨v,bP _ h1,h2⟩
theorem Nu (hu:X.A.units+1<cLine):cE X (fC .In) (Eo X.K):=by
 intro pins s σ H x y v u Q I rx ry h
 obtain⟨rfl,p,xs,rfl,hq,hx,q⟩:=h
 cases ry
 cases rx
 obtain⟨its,r,pl,hz⟩:=I.list hq
 refine SeqAt.in_listAt n5 pl.isList (fun w hw=>?_) ⟨.bl _,H,I,rfl,?_⟩
 ·obtain⟨v,hv,rv⟩:=FP r (by simpa using hw)
  rcases hx v hv with rfl | ⟨a,ys,rfl,ha⟩
  ·cases rv
   exact BC .none
  ·cases rv
   obtain⟨its',r',pl',_⟩:=I.tuple ha
   exact HP pl' hu
 ·rw[show its.toArray.any n5=its.any n5 by simp,Ig r fun v hv=>(hx v hv).imp id fun ⟨a,_,e,_⟩=>⟨a,e⟩]
  exact q
def mT:ae->Bool
 | .none=>true
 | .tuple _=>true
 | _=>false
def jq:ae->Bool
 | .none=>true
 | _=>false
def nZ (d e:ae):Option ae:=if jq d=true then (cH e).bind fun ds=>if ds.all mT=true then some (.bool (ds.any jq)) else none else none
theorem Qv {K:ao}:iG K (Eo K) nZ:=fun x y H d e r Q D1 D2 q k=>by
 unfold nZ at q
 split at q
 case isFalse=>cases q
 rename_i hd
 obtain⟨ds,h1,h2⟩:=bind_some q
 split at h2
 case isFalse=>cases h2
 rename_i ha
 cases h2
 have hx:x=.non:=by
  cases D1 with
  | non=>rfl
  | _=>cases hd
 rw[fQ h1] at D2
 obtain⟨p,vs,rfl,q1,r1⟩:=dU D2
 have key:(∀ v∈vs,v=.non∨∃ a ys,v=.ref a∧cF K H a ys)∧vs.any lg=ds.any jq:=by
  clear q h1 D2 k q1
  refine r1.ind (M:=fun vs ds=>ds.all mT=true->(∀ v∈vs,v=.non∨∃ a ys,v=.ref a∧cF K H a ys)∧vs.any lg=ds.any jq) (fun _=>⟨(fun v hv=>by cases hv),rfl⟩) ?_ ha
  intro v d vs ds h _ ih ha
  rw[kG,cq] at ha
  obtain⟨i1,i2⟩:=ih ha.2
  rw[kH,kH,i2]
  cases h with
  | non=>exact⟨fun w hw=>(List.mem_cons.mp hw).elim (fun e=>.inl e) (i1 w),rfl⟩
  | tup h _=>exact⟨fun w hw=>(List.mem_cons.mp hw).elim (fun e=>.inr ⟨_,_,e,h⟩) (i1 w),rfl⟩
  | _=>cases ha.1
 exact⟨hx,p,vs,rfl,q1,key.1,by rw[key.2];exact k _ (.bl _)⟩
theorem IJ (hu:X.A.units+64<cLine):eM X .In nZ:=⟨_,Nu (kJ (Ba (by decide:1≤64) _) hu),Qv⟩
end
section
variable {X:Cx}{O:Ow}{a b:Expr}{pos:Pos}{fa fb:ag->Option ae}
theorem zR [Reg]{op:gh}{g:ae->ae->Option ae}(C:eM X op g)(ha:PR X O a fa)(hb:PR X O b fb)(hm:jP op b=false:=by rfl):PV X O (.Compare a [op] [b] pos) (fun ρ=>au (fa ρ) (fb ρ) g):=by
 obtain⟨rd,ho,hs⟩:=C.ex
 exact (yf ho ha hb hm).imp (iR hs)
theorem uH [Reg]{op:gh}{g:ae->ae->Option ae}(C:eM X op g)(ha:PR X O a fa)(hb:PR X O b fb)(hm:jP op b=false:=by rfl):fT X O (.Compare a [op] [b] pos) (fun ρ=>bq (au (fa ρ) (fb ρ) g)):=by
 obtain⟨rd,ho,hs⟩:=C.ex
 refine (yp ho ha hb hm).imp fun σ H Q zpat=>?_
 obtain⟨hid,H0,ρ,ow,k,E,hf,q⟩:=zpat
 obtain⟨d,h3,h4⟩:=bind_some hf
 refine iR hs σ H _ ⟨hid,H0,ρ,ow,d,E,h3,fun v H' s D=>?_⟩
 rw[jQ h4] at D
 exact⟨k,iK D,q H' s⟩
end
inductive pM (K:ao)(x v:Str):Prop
 | mk (t:Tok) (e:bG K a_ x=some (some (.str v t))):pM K x v
theorem pM.of {K:ao}{x v:Str}{t:Tok}(e:bG K a_ x=some (some (.str v t))):pM K x v:=⟨t,e⟩
end L2
namespace L2
theorem jd (x y:Str):(x++y).cps.toList=x.cps.toList++y.cps.toList:=by
 obtain⟨a⟩:=x
 obtain⟨b⟩:=y
 show (a++b).toList=_
 rw[Array.toList_append]
theorem uz {x y:Str}(h:x.cps.toList=y.cps.toList):x=y:=Str.ext' (Array.toList_inj.mp h)
theorem Ju {c:Nat}:∀ {p q r t:List Nat},c∉p->c∉q->p++c::r=q++c::t->p=q∧r=t:=by
 intro p
 induction p with
 | nil=>
  intro q r t _ hq h
  cases q with
  | nil=>exact⟨rfl,(kI h).2⟩
  | cons a q=>exact absurd (List.mem_cons.mpr (.inl (kI h).1)) hq
 | cons a p ih=>
  intro q r t hp hq h
  cases q with
  | nil=>exact absurd (List.mem_cons.mpr (.inl (kI h).1.symm)) hp
  | cons b q=>
   obtain⟨h1,h2⟩:=kI h
   obtain⟨h3,h4⟩:=ih (fun z=>hp (bP _ z)) (fun z=>hq (bP _ z)) h2
   exact⟨by rw[h1,h3],h4⟩
theorem Lk {c:Nat}:∀ {ps qs:List Str},ps≠[]->qs≠[]->(∀ p∈ps,c∉p.cps.toList)->(∀ q∈qs,c∉q.cps.toList)->nP ⟨#[c]⟩ ps=nP ⟨#[c]⟩ qs->ps=qs:=by
 intro ps
 induction ps with
 | nil=>intro qs h;exact absurd rfl h
 | cons p ps ih=>
  intro qs _ hq fp fq h
  cases qs with
  | nil=>exact absurd rfl hq
  | cons q qs=>
   have hp1:=fp p (bQ ..)
   have hq1:=fq q (bQ ..)
   have e:∀ (x y:Str) (r:List Str),(nP ⟨#[c]⟩ (x::y::r)).cps.toList=x.cps.toList++c::(nP ⟨#[c]⟩ (y::r)).cps.toList:=fun x y r=>by
    show (x++⟨#[c]⟩++nP ⟨#[c]⟩ (y::r)).cps.toList=_
    rw[jd,jd,nr]
    rfl
   cases ps with
   | nil=>
    cases qs with
    | nil=>rw[show p=q from h]
    | cons q2 qs=>
     have h':=congrArg (fun z:Str=>z.cps.toList) h
     rw[e] at h'
     exact absurd (show c∈p.cps.toList from by rw[show p.cps.toList=_ from h'];simp) hp1
   | cons p2 ps=>
    cases qs with
    | nil=>
     have h':=congrArg (fun z:Str=>z.cps.toList) h
     rw[e] at h'
     exact absurd (show c∈q.cps.toList from by rw[show q.cps.toList=_ from h'.symm];simp) hq1
    | cons q2 qs=>
     have h':=congrArg (fun z:Str=>z.cps.toList) h
     rw[e,e] at h'
     obtain⟨h1,h2⟩:=Ju hp1 hq1 h'
     rw[uz h1,ih (by simp) (by simp) (fun z hz=>fp z (bP _ hz)) (fun z hz=>fq z (bP _ hz)) (uz h2)]
theorem Fe {c:Nat}{ts:List Str}(hne:ts≠[])(hc:∀ t∈ts,c∉t.cps.toList):Txt.split (eW ⟨#[c]⟩ ts) ⟨#[c]⟩=ts:=by
 refine Lk (fun z=>?_) hne (StrLaws.split_free _ c) hc ?_
 ·have:=split_pos (eW ⟨#[c]⟩ ts) ⟨#[c]⟩
  rw[z] at this
  exact absurd this (by decide)
 ·rw[StrLaws.join_split,wA]
theorem QA {c:Nat}{x y:Str}(hx:c∉x.cps.toList)(hy:c∉y.cps.toList):Txt.split (x++⟨#[c]⟩++y) ⟨#[c]⟩=[x,y]:=by
 have:=Fe (c:=c) (ts:=[x,y]) (by simp) (fun t ht=>by
  rcases List.mem_cons.mp ht with rfl | ht
  ·exact hx
  ·rw[List.mem_singleton.mp ht];exact hy)
 rw[wA] at this
 exact this
open PySem.NumText in
theorem mH (m:Nat):(aj (jx ((m:Nat):Int))).cps.toList=(kK 10 m).map ku:=PySem.W.KIN.signs_num m
theorem tN (m:Nat):(aj (jx (Int.negSucc m))).cps.toList=45::(kK 10 (m+1)).map ku:=by
 have e:jx (Int.negSucc m)="-"++Nat.repr (m+1):=rfl
 rw[e,signs_ofString,String.toList_append,jF,Nat.toList_repr]
 rfl
open PySem.NumText in
theorem mx (m:Nat):AllDigits ((kK 10 m).map ku):=by
 intro c hc
 obtain⟨ch,hch,e⟩:=List.mem_map.mp hc
 rw[← e]
 exact digit_range (Nat.isDigit_of_mem_toDigits (by decide) (by decide) hch)
theorem sL (m:Nat):(kK 10 m).map ku≠[]:=by
 intro e
 have h:=toDigits_len_ge 10 m
 rw[List.map_eq_nil_iff.mp e] at h
 exact absurd h (by decide)
def nT (n:Int):Str:=aj (jx n)
theorem ll {n:Int}(h:n.natAbs<10 ^ 60):(nT n).length≤61:=by
 have e:=int_text_length_le10 (k:=60) (by decide) h
 unfold nT
 rw[HL]
 exact e
open PySem.NumText in
theorem Md {n:Int}(h:n.natAbs<10 ^ 60):xJ (nT n)=some n:=by
 have hl:=ll h
 cases n with
 | ofNat m=>
  have e:=intText_digits (x:=nT (m:Int)) (by unfold nT;rw[mH];exact mx m) (by unfold nT;rw[mH];exact sL m) (dn hl (by decide))
  unfold nT at e ⊢
  rw[mH,HE] at e
  exact e
 | negSucc m=>
  have e:=intText_neg (x:=nT (Int.negSucc m)) (tN m) (mx _) (sL _) (dn hl (by decide))
  rw[HE] at e
  rw[e]
  rfl
theorem tK (n:Int):∀ c∈(nT n).cps.toList,c=45∨(48≤c∧c≤57):=by
 intro c hc
 unfold nT at hc
 cases n with
 | ofNat m=>
  have hc':c∈(kK 10 m).map ku:=by rw[← mH];exact hc
  exact .inr (mx m c hc')
 | negSucc m=>
  rw[tN] at hc
  rcases List.mem_cons.mp hc with z | z
  ·exact .inl z
  ·exact .inr (mx _ c z)
theorem DF {c:Nat}(h1:c≠45)(h2:¬ (48≤c∧c≤57))(n:Int):c∉(nT n).cps.toList:=fun z=>(tK n c z).elim h1 h2
end L2
namespace L2
variable [Reg]
section
variable {X:Cx}{O:Ow}{a b e tg:Expr}{f fa fb:ag->Option ae}{pos p:Pos}
end
section
variable {X:Cx}{O:Ow}{a b:Expr}{fa fb:ag->Option ae}{apos cpos:Pos}
theorem L4 {xs:List V}{its:List ah}(h:aV xs its)(hx:∀ v∈xs,v=.non∨∃ a:af,v=.ref a):its.map n5=xs.map lg:=by
 induction h with
 | nil=>rfl
 | cons r t ih=>
  rw[bV,bV,ih fun v hv=>hx v (bP _ hv)]
  congr 1
  rcases hx _ (bQ ..) with rfl | ⟨a,rfl⟩
  ·cases r;rfl
  ·cases r;rfl
def OF (K:ao):V->List V->Hp->VK->Prop:=fun x vs H Q=>∃ l xs j,x=.ref l∧vs=[.non]∧bD K H l xs∧(∀ v∈xs,v=.non∨∃ a ys,v=.ref a∧cF K H a ys)∧(xs.map lg).findIdx? id=some j∧Q (.int (j:Nat)) H
theorem L9 (hu:X.A.units+64<cLine):gJ X "list.index" (OF X.K):=by
 intro pins s σ H x vs v us Q I rx rv h
 obtain⟨l,xs,j,rfl,rfl,hq,hx,hj,q⟩:=h
 cases rx
 obtain⟨u,zq1,ru⟩:=rv.one
 subst zq1
 cases ru
 obtain⟨its,r,pl,hz⟩:=I.list hq
 obtain⟨⟨cls,dd,data,sl⟩,ho,hc,n,hd⟩:=pl.isList
 simp only at hc hd
 subst hc hd
 rw[← L4 r fun v hv=>(hx v hv).imp (fun e=>e) fun ⟨a,_,e,_⟩=>⟨a,e⟩,findIdx_map] at hj
 have hjl:j<its.length:=(List.findIdx?_eq_some_iff_findIdx_eq.mp hj).1
 have hl:=r.length
 have hz':sizeLine<2 ^ 62:=by decide
 obtain⟨h1,h2⟩:=List.findIdx?_eq_some_iff_getElem.mp hj
 refine gO wd ⟨_,ho,rfl⟩ Hu (Ht _ _)
  (HQ l its.toArray n dd sl .none n5 j (by simpa using hjl) (by omega) (by simpa using h2.1) (fun m hm hlt=>by
   have:=h2.2 m hlt
   simpa using this)) ⟨ho,fun w hw=>?_,⟨.int (j:Nat),H,I.tok _,⟨_,rfl⟩,q⟩⟩
 obtain⟨v,hv,rv⟩:=FP r (by simpa using hw)
 rcases hx v hv with rfl | ⟨a,ys,rfl,ha⟩
 ·cases rv
  exact BC .none
 ·cases rv
  obtain⟨its',r',pl',_⟩:=I.tuple ha
  exact HP pl' (kJ (Ba (by decide:1≤64) _) hu)
def xG (d e:ae):Option ae:=if jq e=true then (cH d).bind fun ds=>if ds.all mT=true then ((ds.map jq).findIdx? id).map fun j=>.int (j:Nat) else none else none
theorem RQ {K:ao}{H:Hp}{vs:List V}{ds:List ae}(r1:aD K H vs ds)(ha:ds.all mT=true):(∀ v∈vs,v=.non∨∃ a ys,v=.ref a∧cF K H a ys)∧vs.map lg=ds.map jq:=by
 refine r1.ind (M:=fun vs ds=>ds.all mT=true->(∀ v∈vs,v=.non∨∃ a ys,v=.ref a∧cF K H a ys)∧vs.map lg=ds.map jq) (fun _=>⟨(fun v hv=>by cases hv),rfl⟩) ?_ ha
 intro v d vs ds h _ ih ha
 rw[kG,cq] at ha
 obtain⟨i1,i2⟩:=ih ha.2
 rw[bV,bV,i2]
 cases h with
 | non=>exact⟨fun w hw=>(List.mem_cons.mp hw).elim (fun e=>.inl e) (i1 w),rfl⟩
 | tup h _=>exact⟨fun w hw=>(List.mem_cons.mp hw).elim (fun e=>.inr ⟨_,_,e,h⟩) (i1 w),rfl⟩
 | _=>cases ha.1
theorem Sa (hu:X.A.units+64<cLine)(ha:PR X O a fa)(hb:PR X O b fb)(hbase:dR a "index" X.env (aB a X.env)=aB a X.env:=by rfl)
  (hfew:((a0 cpos (ax [b] X.env)).all (fun x=>!x.1)&&(dS cpos (dY [] X.env)).all (fun x=>x.1.isSome)&&decide ([b].length+([]:List df).length+(if ([]:List df).isEmpty then 0 else 1)<30))=true:=by rfl)
  (hline:(apos.endLine==cpos.line)=true:=by rfl) (hst:ax [b] X.env=(false,aB b X.env)::ax [] X.env:=by rfl) (hplain:(a0 cpos (ax [] X.env)).any (·.1)=false:=by rfl) :
  PV X O (.Call (.Attribute a "index" apos) [b] [] cpos) (fun ρ=>au (fa ρ) (fb ρ) xG):=
 (j3 nI wd HB (L9 hu) ha (pa_cons hb pa_nil hst) hbase hfew hline hst hplain).imp fun σ H Q zpat=>by
  obtain⟨hid,H0,ρ,ow,r,E,hf,k⟩:=zpat
  obtain⟨d,e,h1,h2,h3⟩:=mi hf
  unfold xG at h3
  split at h3
  case isFalse=>cases h3
  rename_i he
  obtain⟨ds,h4,h3⟩:=bind_some h3
  split at h3
  case isFalse=>cases h3
  rename_i hfl
  obtain⟨j,h5,rfl⟩:=map_some h3
  rw[fQ h4] at h1
  refine⟨hid,H0,ρ,ow,_,E,h1,fun x H1 s1 D1=>?_⟩
  obtain⟨l,xs,rfl,q1,r1⟩:=dU D1
  refine⟨.inl ⟨rfl,xs,(bH _ _).seq q1⟩,hid,H0,ρ,ow,e,E.mono s1,h2,fun y H2 s2 D2=>?_⟩
  have hy:y=.non:=by
   cases D2 with
   | non=>rfl
   | _=>cases he
  subst hy
  obtain⟨g1,g2⟩:=RQ (r1.mono ((bH _ _).trans s2)) hfl
  exact⟨l,xs,j,rfl,rfl,s2.seq ((bH _ _).seq q1),g1,by rw[g2];exact h5,k _ H2 (s1.trans s2) (.int _)⟩
end
section
variable {X:Cx}{O:Ow}{e:Expr}{f:ag->Option (ae×ag)}{pos:Pos}{l:af}{j:Nat}
end
end L2
namespace L2
variable [Reg]
inductive dq where
 | ret (ds:List ae) | exc (x:ae)
def RB (X:Cx)(O:Ow)(f:ag->Option dq):TA:=fun σ H Q=>dA X.K O f σ H fun hid H0 ρ ow r=>
 match r with
 | .ret ds=>∀ vs H',ay H H'->aD X.K (av H' (uni hid ow)) vs ds->Q vs H'
 | .exc x=>∀ pins s' H' a C od,Inv X pins σ H' s'->ay H H'->jC X pins H' s' a C od->i8 X.K (av H' (uni hid ow)) C od x->X.xe (.ref a) s'
abbrev i4 (X:Cx)(O:Ow)(es:List Expr)(f:ag->Option dq):Prop:=PA X es (RB X O f)
def RX.one:RX->dq
 | .ret d=>.ret [d]
 | .exc x=>.exc x
def dq.cons (d:ae):dq->dq
 | .ret ds=>.ret (d::ds)
 | .exc x=>.exc x
def dq.then (r:dq)(F:List ae->Option RX):Option RX:=match r with
 | .ret ds=>F ds
 | .exc x=>some (.exc x)
def RX.ix (k:Int)(r:RX):Option RX:=match r with
 | .ret d=>(bz d (.int k)).map .ret
 | .exc x=>some (.exc x)
section
variable {X:Cx}{O:Ow}{e a b:Expr}{es:List Expr}{pos p:Pos}{f:ag->Option RX}{fs:ag->Option dq}{fa:ag->Option ae}{k:Nat}{ps:List Str}{x:Str}{T:Ty}{F:List ae->Option RX}
theorem lF (h:fM X O .cl e f)(hs:ax [e] X.env=(false,aB e X.env)::ax [] X.env:=by rfl):i4 X O [e] (fun ρ=>(f ρ).map RX.one):=(pa_cons h pa_nil hs).imp fun σ H Q zpat=>by
 obtain⟨hid,H0,ρ,ow,o,E,hf,k⟩:=zpat
 obtain⟨r,g1,rfl⟩:=map_some hf
 refine⟨hid,H0,ρ,ow,r,E,g1,?_⟩
 cases r with
 | ret d=>exact fun v as H' s n Dv=>k [v] H' s (.cons (Dv.den.mono (cN (jy fun p hp=>bB _ hp))) .nil)
 | exc x=>exact fun pins s' H' a C od I s fl hx=>k pins s' H' a C od I s fl hx
theorem qY (ha:PV X O a fa)(hr:i4 X O es fs)(hs:ax (a::es) X.env=(false,aB a X.env)::ax es X.env:=by rfl):i4 X O (a::es) (fun ρ=>(fa ρ).bind fun d=>(fs ρ).map (dq.cons d)):=(pa_cons ha hr hs).imp fun σ H Q zpat=>by
 obtain⟨hid,H0,ρ,ow,o,E,hf,k⟩:=zpat
 obtain⟨d,h1,hf⟩:=bind_some hf
 obtain⟨r,h2,rfl⟩:=map_some hf
 refine⟨hid,H0,ρ,ow,d,E,h1,fun v H1 s1 D1=>⟨hid,H0,ρ,ow,r,E.mono s1,h2,?_⟩⟩
 cases r with
 | ret ds=>exact fun vs H2 s2 D2=>k (v::vs) H2 (s1.trans s2) (.cons (D1.mono (aZ s2 _)) D2)
 | exc x=>exact fun pins s' H' a C od I s fl hx=>k pins s' H' a C od I (s1.trans s) fl hx
theorem zZ (G:cg X.prog X.w X.K X.mg X.base k x ps T F)(hr:bC k X.A)(hg:Gl X x)(hex:X.ex=[])(ha:i4 X O (a::es) fs)(hdb:(x==("__debug__":Str))=false:=by decide)(he:ax (a::es) X.env=(false,aB a X.env)::ax es X.env:=by rfl)(hpl:(a0 pos (ax es X.env)).any (·.1)=false:=by rfl) :
  fM X O T (.Call (.Name x p) (a::es) [] pos) (fun ρ=>(fs ρ).bind fun r=>r.then F):=by
 obtain⟨f,fd,h1,h2,h3,h4,_⟩:=id G
 intro pins s σ H Q I h
 obtain⟨hid,H0,ρ,ow,r,E,hf,q⟩:=h
 obtain⟨rs,g1,g2⟩:=bind_some hf
 refine mV (lj I hg h2 ?_ hdb)
 cases rs with
 | exc y=>
  cases g2
  exact nJ (h₀:=X.base) I.ok.mod.kin h3 (aP (ha pos pins s σ H (fun _ _=>False) I ⟨hid,H0,ρ,ow,.exc y,E,g1,q⟩) fun us s1 ⟨vs,H1,I1,r1,z⟩=>z.elim) he hpl
 | ret ds=>
 replace g2:F ds=some r:=g2
 refine nJ (h₀:=X.base) I.ok.mod.kin h3 (aP (ha pos pins s σ H (fun vs H1=>ay H H1∧aD X.K (av H1 (uni hid ow)) vs ds) I ⟨hid,H0,ρ,ow,.ret ds,E,g1,fun vs H1 s1 D1=>⟨s1,D1⟩⟩) fun us s1 ⟨vs,H1,I1,r1,sm,D1⟩=>⟨I1.kIn,?_⟩) he hpl
 refine yy (E:=fun cv od H'=>∃ x C,r=.exc x∧cv=.ref C∧ay H1 H'∧i8 X.K (av H' (uni hid ow)) C od x) h1 hr h4 hex I1 r1 ⟨uni hid ow,ds,r,(E.mono sm).uniL,D1,g2,?_⟩ fun s2 H2 a C od I2 fl ⟨x,C',hrx,hC,sm2,hx⟩=>?_
 ·cases r with
  | ret d=>
   intro v as H2 s2 n2 D2
   refine q v as H2 (sm.trans s2) (fun p hp=>sm.free (n2 p hp)) (D2.mono (cN fun b z=>?_) fun p _ o e=>e)
   rcases z with z | z
   ·exact .inl (.inl z)
   ·rcases List.mem_append.mp z with z | z
    ·exact .inr z
    ·exact .inl (.inr z)
  | exc x=>exact fun C od H2 s2 hx=>⟨x,C,rfl,rfl,s2,hx⟩
 ·cases hC
  subst hrx
  exact q pins s2 H2 a C od I2 (sm.trans sm2) fl hx
theorem F2 {k:Int}(h:fM X O .cl e f)(hb:PE X b (tC (.int k)))(hs:r8 b:=by intro _ _;rfl):fM X O .cl (.Subscript e b pos) (fun ρ=>(f ρ).bind (RX.ix k)):=(yj (xN.or xO) h hb hs).imp fun σ H Q zpat=>by
 obtain⟨hid,H0,ρ,ow,o,E,hf,k'⟩:=zpat
 obtain⟨r,g1,g2⟩:=bind_some hf
 refine⟨hid,H0,ρ,ow,r,E,g1,?_⟩
 cases r with
 | exc x=>cases g2;exact k'
 | ret d=>
  obtain⟨z,g3,rfl⟩:=map_some g2
  refine fun v as H' s n Dv=>?_
  have D:=Dv.den.mono (cN (jy fun p hp=>bB as hp))
  obtain⟨ds,q1,q⟩:=bind_some g3
  have q:atI ds k=some z:=q
  rcases zv q1 with rfl | rfl
  ·obtain⟨p,vs,rfl,z1,z2⟩:=dU D
   obtain⟨v,h3,h4⟩:=z2.atI q
   exact .inl ⟨p,vs,_,v,rfl,rfl,(bH _ _).seq z1,h3,k' v [] H' s (fun p hp=>by cases hp) (.cl h4)⟩
  ·obtain⟨p,vs,rfl,z1,z2⟩:=pT D
   obtain⟨v,h3,h4⟩:=z2.atI q
   exact .inr ⟨p,vs,_,v,rfl,rfl,(bH _ _).tup z1,h3,k' v [] H' s (fun p hp=>by cases hp) (.cl h4)⟩
end
end L2
namespace L2
variable [Reg]
end L2
namespace L2
variable [Reg]
def eZ (P:aQ)(w:aM)(K:ao)(mg:Str->Option ah)(base:az)(k:Nat)(cls m:Str)(ps:List Str)(T:Ty)(F:List ae->Option RX):Prop:=
 ∃ C f fd,gg K C∧pq K C m f∧aW P w K mg base (de P w) k f fd ps (dE K T F)∧bG K a_ cls=some (some (.ref C))∧Binds K fd ps []
theorem MethAt.okMX {P:aQ}{w:aM}{K:ao}{mg:Str->Option ah}{base:az}{cls m:Str}{st:aG}{k:Nat}{ps:List Str}{T:Ty}{F:List ae->Option RX}(d:MethAt K cls m st)
  (hb:∀ (kV doc pm:ah) (an:Option af) (cdv ct:ah) (us:List ah),us.length=ps.length->bO (fU m (cls++"."++m) (ij st) (eA st) (aS st) .none kV doc pm an cdv ct) ⟨us,[]⟩=aN (ps.zip us))
  (ok:∀ f fd,bh K m (cls++"."++m) st f fd->aW P w K mg base (de P w) k f fd ps (dE K T F)):eZ P w K mg base k cls m ps T F:=by
 cases d with
 | mk C f fd a c1 c2 c3 c4 m1 m2 m3 D=>exact⟨C,f,fd,⟨c1,c2,c3,c4⟩,⟨m1,m2,m3⟩,ok f fd D,a,D.binds hb⟩
def gk (cls m:Str)(F:List ae->Option RX)(fo:ag->Option ae)(fs:ag->Option dq)(ρ:ag):Option RX:=(fo ρ).bind fun d=>if jX cls m d=true then (fs ρ).bind fun r=>r.then fun ds=>F (d::ds) else none
def RX.b (g:List ae->Option ae)(r:RX):Option RX:=match r with
 | .ret d=>(g [d]).map .ret
 | .exc x=>some (.exc x)
def RX.cons (r:RX)(fs:Option dq):Option dq:=match r with
 | .ret d=>fs.map (dq.cons d)
 | .exc x=>some (.exc x)
def dq.tup (r:dq):Option RX:=match r with
 | .ret ds=>(bo .tuple (some ds)).map .ret
 | .exc x=>some (.exc x)
section
variable {X:Cx}{O:Ow}{o e a b:Expr}{es:List Expr}{pos p apos cpos:Pos}{f:ag->Option RX}{fs:ag->Option dq}{fo fa:ag->Option ae}{k:Nat}{ps:List Str}{x cls m:Str}{T:Ty}{F:List ae->Option RX}{pl:Sem Bool}
theorem uV {gs:ag->Option (List ae)}(h:fS X O es gs):i4 X O es (fun ρ=>(gs ρ).map .ret):=PA.imp h fun σ H Q zpat=>by
 obtain⟨hid,H0,ρ,ow,o,E,hf,q⟩:=zpat
 obtain⟨ds,g1,rfl⟩:=map_some hf
 exact⟨hid,H0,ρ,ow,ds,E,g1,fun vs H' s D=>q vs H' s D⟩
theorem SK (ha:fM X O .cl a f)(hr:i4 X O es fs)(hs:ax (a::es) X.env=(false,aB a X.env)::ax es X.env:=by rfl):i4 X O (a::es) (fun ρ=>(f ρ).bind fun r=>r.cons (fs ρ)):=(pa_cons ha hr hs).imp fun σ H Q zpat=>by
 obtain⟨hid,H0,ρ,ow,o,E,hf,q⟩:=zpat
 obtain⟨r,h1,hf⟩:=bind_some hf
 refine⟨hid,H0,ρ,ow,r,E,h1,?_⟩
 cases r with
 | exc x=>
  cases hf
  exact fun pins s' H' a C od I s fl hx=>q pins s' H' a C od I s fl hx
 | ret d=>
  obtain⟨rs,h2,rfl⟩:=map_some hf
  refine fun v as H1 s1 n1 Dv=>⟨hid,H0,ρ,ow,rs,E.mono s1,h2,?_⟩
  have D1:=Dv.den.mono (cN (jy fun p hp=>bB as hp))
  cases rs with
  | ret ds=>exact fun vs H2 s2 D2=>q (v::vs) H2 (s1.trans s2) (.cons (D1.mono (aZ s2 _)) D2)
  | exc x=>exact fun pins s' H' a C od I s fl hx=>q pins s' H' a C od I (s1.trans s) fl hx
theorem q0 (G:eZ X.prog X.w X.K X.mg X.base k cls m ps T F)(hr:bC k X.A)(hex:X.ex=[])(ho:PV X O o fo)(ha:i4 X O (a::es) fs)(hst:ax (a::es) X.env=(false,aB a X.env)::ax es X.env:=by rfl)(hpl:(a0 cpos (ax es X.env)).any (·.1)=false:=by rfl)
  (ht:aB (.Call (.Attribute o m apos) (a::es) [] cpos) X.env=(do
   let ov ← aB o X.env
   jv apos.atName
   let (f,first) ← jm [ov] (jk ov m pl)
   jT cpos f first (a0 cpos (ax (a::es) X.env)) (dS cpos (dY [] X.env))):=by rfl) :
  fM X O T (.Call (.Attribute o m apos) (a::es) [] cpos) (gk cls m F fo fs):=by
 obtain⟨C,f,fd,c,hm,g1,g2,g3⟩:=G
 intro pins s σ H Q I h
 obtain⟨hid,H0,ρ,ow,r,E,hf,q⟩:=h
 obtain⟨d,e1,hf⟩:=bind_some hf
 split at hf
 case isFalse=>cases hf
 rename_i hob
 obtain⟨rs,e2,e3⟩:=bind_some hf
 refine Bt (pl:=pl) (aP (ho pins s σ H (fun v H1=>ay H H1∧aJ X.K (av H1 (uni hid ow)) v d) I ⟨hid,H0,ρ,ow,d,E,e1,fun v H1 s1 D1=>⟨s1,D1⟩⟩) fun u s1 ⟨x,H1,I1,rx,s1',D1⟩=>?_) ht
 obtain⟨b,C',dx,fs',rfl,h1,h2,h3⟩:=C6 D1 hob
 rw[g2] at h2
 obtain rfl:C=C':=by injection h2 with z;injection z with z;injection z
 obtain rfl:u=Value.ref b:=rx
 refine CS I1 (bH _ _ _ _ h1) c hm h3 ?_
 cases rs with
 | exc y=>
  cases e3
  exact nJ (first:=[.ref b]) (h₀:=X.base) I.ok.mod.kin hm.kp (aP (ha cpos pins s1 σ H1 (fun _ _=>False) I1 ⟨hid,H0,ρ,ow,.exc y,E.mono s1',e2,fun pins s' H' a C od I s2 fl hx=>q pins s' H' a C od I (s1'.trans s2) fl hx⟩) fun us s2 ⟨vs,H2,I2,r1,z⟩=>z.elim) hst hpl
 | ret ds=>
 replace e3:F (d::ds)=some r:=e3
 refine nJ (first:=[.ref b]) (h₀:=X.base) I.ok.mod.kin hm.kp (aP (ha cpos pins s1 σ H1 (fun vs H2=>ay H1 H2∧aD X.K (av H2 (uni hid ow)) vs ds) I1 ⟨hid,H0,ρ,ow,.ret ds,E.mono s1',e2,fun vs H2 s2 D2=>⟨s2,D2⟩⟩) fun us s2 ⟨vs,H2,I2,r1,sm2,D2⟩=>⟨I2.kIn,?_⟩) hst hpl
 have sm:ay H H2:=s1'.trans sm2
 refine yy (us:=.ref b::us) (vs:=.ref b::vs) (E:=fun cv od H'=>∃ x C,r=.exc x∧cv=.ref C∧ay H2 H'∧i8 X.K (av H' (uni hid ow)) C od x) g1 hr g3 hex I2 (.cons rfl r1) ⟨uni hid ow,d::ds,r,(E.mono sm).uniL,.cons (D1.mono (aZ sm2 _)) D2,e3,?_⟩ fun s3 H3 a C od I3 fl ⟨x,C',hrx,hC,sm3,hx⟩=>?_
 ·cases r with
  | ret d=>
   intro v as H3 s3 n3 D3
   refine q v as H3 (sm.trans s3) (fun p hp=>sm.free (n3 p hp)) (D3.mono (cN fun b z=>?_) fun p _ o e=>e)
   rcases z with z | z
   ·exact .inl (.inl z)
   ·rcases List.mem_append.mp z with z | z
    ·exact .inr z
    ·exact .inl (.inr z)
  | exc x=>exact fun C od H3 s3 hx=>⟨x,C,rfl,rfl,s3,hx⟩
 ·cases hC
  subst hrx
  exact q pins s3 H3 a C od I3 (sm.trans sm3) fl hx
theorem SS {x1}(h:i4 X O es fs):fM X O .cl (.Tuple es x1 pos) (fun ρ=>(fs ρ).bind dq.tup):=(tZ h).imp fun σ H Q zpat=>by
 obtain⟨hid,H0,ρ,ow,o,E,hf,q⟩:=zpat
 obtain⟨r,g1,g2⟩:=bind_some hf
 refine⟨hid,H0,ρ,ow,r,E,g1,?_⟩
 cases r with
 | exc x=>cases g2;exact q
 | ret ds=>
  obtain⟨z,g3,rfl⟩:=map_some g2
  obtain⟨ds',h1,h2,rfl⟩:=zy g3
  obtain rfl:=aE h1
  refine fun vs H' s D=>⟨by rw[D.length];exact h2,fun p hp=>?_⟩
  refine q (.ref p) [] _ (s.trans (cb hp)) (fun p hp=>by cases hp) (.cl (.tup (cF.of ?_) (D.mono (aZ (cb hp) _))))
  exact (bE (P:=uni hid ow) ((E.mono s).fresh hp)).trans cD
theorem SQ {id:String}{g:List ae->Option ae}(C:iU X (.builtin id) g)(hg:Gl X x)(hm:X.mg x=none)(hv:dJ x=some (.builtin id))(h:fM X O .cl e f)(hn:x≠"__name__":=by decide)(hdb:(x==("__debug__":Str))=false:=by decide)(he:ax [e] X.env=(false,aB e X.env)::ax [] X.env:=by rfl) :
  fM X O .cl (.Call (.Name x p) [e] [] pos) (fun ρ=>(f ρ).bind (RX.b g)):=by
 obtain⟨r,hc,hs⟩:=C.ex
 refine (lq hc hg hm hv (pa_cons h pa_nil he) hn hdb he rfl).imp fun σ H Q zpat=>?_
 obtain⟨hid,H0,ρ,ow,o,E,hf,q⟩:=zpat
 obtain⟨r,g1,g2⟩:=bind_some hf
 refine⟨hid,H0,ρ,ow,r,E,g1,?_⟩
 cases r with
 | exc x=>cases g2;exact q
 | ret d=>
  obtain⟨z,g3,rfl⟩:=map_some g2
  refine fun v as H1 s1 n1 Dv=>?_
  have D1:=Dv.den.mono (cN (jy fun p hp=>bB as hp))
  exact hs [v] H1 [d] z Q (.cons (D1.mono (bH _ _)) .nil) g3 fun v S=>q v [] H1 s1 (fun p hp=>by cases hp) (.cl S.den)
theorem SR {id:String}{g:List ae->Option ae}(C:iU X (.type id) g)(hg:Gl X x)(hm:X.mg x=none)(hv:dJ x=some (.type id))(h:fM X O .cl e f)(hn:x≠"__name__":=by decide)(hdb:(x==("__debug__":Str))=false:=by decide)(he:ax [e] X.env=(false,aB e X.env)::ax [] X.env:=by rfl) :
  fM X O .cl (.Call (.Name x p) [e] [] pos) (fun ρ=>(f ρ).bind (RX.b g)):=by
 obtain⟨r,hc,hs⟩:=C.ex
 refine (D_ hc hg hm hv (pa_cons h pa_nil he) hn hdb he rfl).imp fun σ H Q zpat=>?_
 obtain⟨hid,H0,ρ,ow,o,E,hf,q⟩:=zpat
 obtain⟨r,g1,g2⟩:=bind_some hf
 refine⟨hid,H0,ρ,ow,r,E,g1,?_⟩
 cases r with
 | exc x=>cases g2;exact q
 | ret d=>
  obtain⟨z,g3,rfl⟩:=map_some g2
  refine fun v as H1 s1 n1 Dv=>?_
  have D1:=Dv.den.mono (cN (jy fun p hp=>bB as hp))
  exact hs [v] H1 [d] z Q (.cons (D1.mono (bH _ _)) .nil) g3 fun v S=>q v [] H1 s1 (fun p hp=>by cases hp) (.cl S.den)
theorem z0 {F:List ae->Option ae}(G:bN X.prog X.w X.K X.mg X.base k x ps .cl F)(hr:bC k X.A)(hg:Gl X x)(ha:i4 X O (a::es) fs)(hdb:(x==("__debug__":Str))=false:=by decide)(he:ax (a::es) X.env=(false,aB a X.env)::ax es X.env:=by rfl)(hpl:(a0 pos (ax es X.env)).any (·.1)=false:=by rfl) :
  fM X O .cl (.Call (.Name x p) (a::es) [] pos) (fun ρ=>(fs ρ).bind fun r=>r.then fun ds=>(F ds).map .ret):=by
 obtain⟨g,fd,g1,g2,g3,g4,_⟩:=G
 exact (qt g1 hr hg g2 g3 g4 .nil js ha hdb he hpl).imp fun σ H Q zpat=>by
  obtain⟨hid,H0,ρ,ow,o,E,hf,q⟩:=zpat
  obtain⟨r,h1,h2⟩:=bind_some hf
  refine⟨hid,H0,ρ,ow,r,E,h1,?_⟩
  cases r with
  | exc x=>cases h2;exact q
  | ret ds=>
   obtain⟨z,h3,rfl⟩:=map_some h2
   refine fun vs H1 s1 D1=>⟨uni hid ow,ds,z,(E.mono s1).uniL,by rw[e6];exact D1,h3,fun v as H2 s2 n2 D2=>q v as H2 (s1.trans s2) (fun p hp=>s1.free (n2 p hp)) (D2.mono (cN fun b z=>?_) fun p _ o e=>e)⟩
   rcases z with z | z
   ·exact .inl (.inl z)
   ·rcases List.mem_append.mp z with z | z
    ·exact .inr z
    ·exact .inl (.inr z)
end
end L2
namespace L2
variable [Reg]
section
variable {K:ao}{H C:Hp}
inductive wa (K:ao)(H C:Hp)(t:Ty)(vs:List V)(ds:List ae)(as:List af)(k:Nat)(d:ae):Prop
 | mk (w:V) (bs cs:List af) (hw:vs[k]?=some w) (D:bg K H C t w d bs) (sp:∀ p,p∈as↔p∈bs∨p∈cs) (dj:∀ p∈bs,p∉cs)
  (put:∀ (H' C':Hp) (d':ae) (bs':List af),ay C C'->(∀ p∈cs,∀ o,H p=some o->H' p=some o)->bg K H' C' t w d' bs'->(∀ p∈bs',p∉cs) ->
   ∃ as',b9 K H' C' t vs (ds.set k d') as'∧∀ p,p∈as'↔p∈bs'∨p∈cs):wa K H C t vs ds as k d
theorem b9.put {t:Ty}{vs:List V}{ds:List ae}{as:List af}(h:b9 K H C t vs ds as):∀ {k:Nat} {d:ae},ds[k]?=some d->wa K H C t vs ds as k d:=
 h.ind (P:=fun vs ds as=>∀ {k:Nat} {d:ae},ds[k]?=some d->wa K H C t vs ds as k d) (fun e=>by rw[vS] at e;cases e) fun {v d0 vs ds as bs} h0 r n ih {k d} e=>by
  cases k with
  | zero=>
   obtain rfl:d0=d:=by simpa using e
   refine⟨v,as,bs,rfl,h0,fun p=>fK,n,fun H' C' d' bs' c kp D dj=>⟨bs'++bs,.cons D (r.mono c fun p hp o=>kp p hp o) dj,fun p=>fK⟩⟩
  | succ k=>
   obtain⟨w,b1,c1,hw,D,sp,dj,put⟩:=ih (k:=k) (d:=d) (by simpa using e)
   refine⟨w,b1,as++c1,by simpa using hw,D,fun p=>?_,fun p hp z=>?_,fun H' C' d' bs' c kp D' dj'=>?_⟩
   ·rw[fK,fK,sp]
    constructor
    ·rintro (z | z | z)
     ·exact .inr (.inl z)
     ·exact .inl z
     ·exact .inr (.inr z)
    ·rintro (z | z | z)
     ·exact .inr (.inl z)
     ·exact .inl z
     ·exact .inr (.inr z)
   ·rcases List.mem_append.mp z with z | z
    ·exact n p z ((sp p).mpr (.inl hp))
    ·exact dj p hp z
   ·obtain⟨as',q1,q2⟩:=put H' C' d' bs' c (fun p hp=>kp p (bB _ hp)) D' fun p hp z=>dj' p hp (bB _ z)
    refine⟨as++as',.cons (h0.mono c fun p hp o=>kp p (cy _ hp) o) q1 fun p hp z=>?_,fun p=>?_⟩
    ·rcases (q2 p).mp z with z | z
     ·exact dj' p z (cy _ hp)
     ·exact n p hp ((sp p).mpr (.inr z))
    ·rw[fK,fK,q2]
     constructor
     ·rintro (z | z | z)
      ·exact .inr (.inl z)
      ·exact .inl z
      ·exact .inr (.inr z)
     ·rintro (z | z | z)
      ·exact .inr (.inl z)
      ·exact .inl z
      ·exact .inr (.inr z)
end
inductive vM (K:ao)(O:Ow)(hid:af->Prop)(σ:St)(H:Hp)(ρ:ag)(ow:List af)(i j:Nat)(cls:Str)(ns:List Str)(ts:List Ty)(ls:List ae)(d0:ae):Prop
 | mk (A:Nat->List af) (EA:i0 K O hid σ H ρ ow A) (a b D dx:af) (vs:List V) (fs:List (Str×V)) (as bs cs:List af) (hl:i<ρ.length) (hv:σ[i]?=some (some (.ref a))) (hA:A i=a::as) (na:a∉as) (hH:H a=some (.lst vs)) (hj:vs[j]?=some (.ref b)) (hlen:vs.length=ls.length) (hb:H b=some (.ins D dx fs)) (hn:bG K a_ cls=some (some (.ref D))) (hf:fs.map (·.1)=ns)
  (D0:bg K H (av H (uni hid ow)) (.rc none cls ns ts) (.ref b) d0 bs) (sp:∀ p,p∈as↔p∈bs∨p∈cs) (dj:∀ p∈bs,p∉cs)
  (put:∀ (H' C':Hp) (d':ae) (bs':List af),ay (av H (uni hid ow)) C'->(∀ p∈cs,∀ o,H p=some o->H' p=some o)->bg K H' C' (.rc none cls ns ts) (.ref b) d' bs'->(∀ p∈bs',p∉cs) ->
   ∃ as',b9 K H' C' (.rc none cls ns ts) vs (ls.set j d') as'∧∀ p,p∈as'↔p∈bs'∨p∈cs):vM K O hid σ H ρ ow i j cls ns ts ls d0
section
variable {X:Cx}{O:Ow}{a b:Expr}{es:List Expr}{fb:ag->Option ae}{fs:ag->Option (List ae)}{i k:Nat}{x m cls:Str}{ns ps:List Str}{ts:List Ty}{F:List ae->Option (ae×ae)}{p ip apos cpos pos:Pos}{pl:Sem Bool}
theorem vM.lend {K:ao}{hid:af->Prop}{H0 H:Hp}{σ:St}{ρ:ag}{ow:List af}{j:Nat}{ls:List ae}{d0:ae}(Z:vM K O hid σ H ρ ow i j cls ns ts ls d0)(E:aK K O hid H0 σ H ρ ow){ds:List ae}{us:List V}{r:ae×ae}{b':af}{vs':List V}{a':af}(hO:O.s.lookup i=some (.lst (.rc none cls ns ts)))(ha':σ[i]?=some (some (.ref a')))(hvs':H a'=some (.lst vs'))(hb':vs'[j]?=some (.ref b'))(Du:aD K (av H (uni hid ow)) us ds)(hF:F (d0::ds)=some r){Q:VK}
  (k:∀ v H' ow',ay (av H (uni hid ow)) (av H' (uni hid ow'))->aK K O hid H0 σ H' (ρ.set i (some (.list (ls.set j r.2)))) ow'->aJ K (av H' (uni hid ow')) v r.1->Q v H'):pL K cls ns ts ns ts F (.ref b'::us) H Q:=by
 obtain⟨A,EA,a,b,D,dx,vs,fs,as,bs,cs,hl,hv,hA,na,hH,hj,hlen,hb,hn,hf,D0,sp,dj,put⟩:=Z
 rw[ha'] at hv
 obtain rfl:a'=a:=by injection hv with z;injection z with z;injection z
 rw[hvs'] at hH
 obtain rfl:vs'=vs:=by injection hH with z;injection z
 rw[hb'] at hj
 obtain rfl:b'=b:=by injection hj with z;injection z
 have a3:∀ q,q=a'∨q∈bs∨q∈cs->q∈ow:=fun q z=>EA.2.2 i q (by
  rw[hA]
  rcases z with z | z
  ·rw[z];exact bQ
  ·exact bP _ ((sp q).mpr z))
 have nh:∀ q,q∈ow->¬ hid q:=fun q y z=>(E.isl q y).2 z
 have nab:a'∉bs:=fun z=>na ((sp a').mpr (.inl z))
 have nac:a'∉cs:=fun z=>na ((sp a').mpr (.inr z))
 have eu:uni (fun q=>uni hid ow q∧q∉bs) bs=uni hid ow:=by
  funext q
  apply propext
  constructor
  ·rintro (z | z)
   ·exact z.1
   ·exact .inr (a3 q (.inr (.inl z)))
  ·intro z
   by_cases y:q∈bs
   ·exact .inr y
   ·exact .inl ⟨z,y⟩
 refine⟨fun q=>uni hid ow q∧q∉bs,b',bs,us,d0,ds,r,rfl,fun q z=>E.uniL q z.1,fun q z y=>y.2 z,by rw[eu];exact D0,by rw[eu];exact Du,hF,fun v as' H' s n D' Dv=>?_⟩
 have live:∀ q,q∈ow->H q≠none:=fun q y z=>by
  obtain⟨⟨o,e⟩,_⟩:=E.isl q y
  rw[z] at e
  cases e
 have dc:∀ q∈as',q∉cs:=fun q hq z=>by
  rcases n q hq with y | y
  ·exact dj q y z
  ·exact live q (a3 q (.inr (.inr z))) y
 have da:a'∉as':=fun hq=>by
  rcases n a' hq with y | y
  ·exact nab y
  ·exact live a' (a3 a' (.inl rfl)) y
 have eu2:∀ as2:List af,(∀ q,q∈as2↔q=a'∨q∈as'∨q∈cs)->uni (fun q=>uni hid ow q∧q∉bs) as'=uni hid (as2++dD ow (A i)):=fun as2 h2=>by
  funext q
  apply propext
  unfold uni
  simp only[fK,iP,h2,hA,nv,sp]
  constructor
  ·rintro (⟨z | z,y⟩ | z)
   ·exact .inl z
   ·by_cases y1:q=a'
    ·exact .inr (.inl (.inl y1))
    ·by_cases y2:q∈cs
     ·exact .inr (.inl (.inr (.inr y2)))
     ·exact .inr (.inr ⟨z,fun w=>by rcases w with w | w | w;exact y1 w;exact y w;exact y2 w⟩)
   ·exact .inr (.inl (.inr (.inl z)))
  ·rintro (z | (z | z | z) | ⟨z,y⟩)
   ·exact .inl ⟨.inl z,fun w=>nh q (a3 q (.inr (.inl w))) z⟩
   ·exact .inl ⟨.inr (a3 q (.inl z)),fun w=>nab (z▸w)⟩
   ·exact .inr z
   ·exact .inl ⟨.inr (a3 q (.inr (.inr z))),fun w=>dj q w z⟩
   ·exact .inl ⟨.inr z,fun w=>y (.inr (.inl w))⟩
 have sm:ay (av H (uni hid ow)) (av H' (uni (fun q=>uni hid ow q∧q∉bs) as')):=fun q o e=>by
  by_cases hq:uni hid ow q
  ·rw[dy hq] at e;cases e
  ·rw[bE hq] at e
   rw[bE fun z=>?_]
   ·exact s q o (fun z=>hq (.inr (a3 q (.inr (.inl z))))) e
   ·rcases z with z | z
    ·exact hq z.1
    ·rcases n q z with y | y
     ·exact hq (.inr (a3 q (.inr (.inl y))))
     ·rw[y] at e;cases e
 obtain⟨as2,q1,q2⟩:=put H' _ r.2 as' sm (fun q hq o e=>s q o (fun z=>dj q z hq) e) D' dc
 have hmem:∀ q,q∈a'::as2↔q=a'∨q∈as'∨q∈cs:=fun q=>by rw[nv,q2]
 rw[eu2 _ hmem] at q1
 have na2:a'∉as2:=fun z=>by
  rcases (q2 a').mp z with z | z
  ·exact da z
  ·exact nac z
 obtain⟨e1,e2⟩:=E.tree EA hO hl ha' (as2:=a'::as2) (d2:=.list (ls.set j r.2)) (H2:=H') (fun q o z e=>s q o (fun y=>z (by rw[hA];exact bP _ ((sp q).mpr (.inl y)))) e) (fun q hq=>by
  rcases (hmem q).mp hq with z | z | z
  ·exact .inl (by rw[hA,z];exact bQ)
  ·rcases n q z with y | y
   ·exact .inl (by rw[hA];exact bP _ ((sp q).mpr (.inl y)))
   ·exact .inr y
  ·exact .inl (by rw[hA];exact bP _ ((sp q).mpr (.inr z)))) (.lst (s a' _ nab hvs') q1 na2)
 exact k v H' _ e2 e1 (by rw[← eu2 _ hmem];exact Dv)
end
end L2
namespace L2
end L2
namespace L2
end L2
namespace L2
section
variable {X:Cx}{pins:List (af×Obj)}{σ:List (Option V)}{H H':Hp}{s:ar}{h':az}
end
end L2
namespace L2
section
variable {X:Cx}
variable {a b:Expr}{ta tb:TE}{pos:Pos}
variable {tA tB':TT}{rest:List Expr}
end
end L2
namespace L2
end L2
namespace L2
end L2
namespace L2
section
variable {X:Cx}{a b c:Expr}{ta tb tc:TE}{pos:Pos}
end
end L2
namespace L2
section
variable {prog:aQ}{w:aM}{A:bw}{E:ah->ar->Prop}{s:ar}{K:ao}{x dx C f:af}{mA:Str->Option ah}{name:Str}{v:ah}
end
section
variable {X:Cx}{pins:List (af×Obj)}{σ:St}{H:Hp}{s:ar}{a C dx:af}{fs:List (Str×V)}{f:Str}{v:V}{A:bw}{E:ah->ar->Prop}
end
end L2
namespace L2
section
variable {X:Cx}{CX:fH}{k:Nat}{f C:af}{fd:aY}{ps:List Str}{sp:Sp}{dvs:List V}{ds:List ah}{E:XK}{x m:Str}{p pos apos:Pos}{e o:Expr}{es:List Expr}{ta:TE}{t:TA}
end
end L2
namespace L2
section
variable {X:Cx}{x:Str}{p pos:Pos}{e:Expr}{es:List Expr}{t:TA}{id T:String}{r:List V->Hp->VK->Prop}
end
end L2
namespace L2
section
variable {κ:Type}[DecidableEq κ]
def fG (kvs:List (κ×V))(k:κ):Option V:=(kvs.find? fun kv=>decide (kv.1=k)).map (·.2)
def fm (kvs:List (κ×V))(k:κ)(v:V):List (κ×V):=
 if (kvs.any fun kv=>decide (kv.1=k))=true then kvs.map (fun kv=>if kv.1=k then (kv.1,v) else kv) else kvs++[(k,v)]
theorem oF {p:κ×V}{r:List (κ×V)}{k:κ}(e:p.1=k):fG (p::r) k=some p.2:=by simp[fG,pe,e]
theorem oE {p:κ×V}{r:List (κ×V)}{k:κ}(e:¬ p.1=k):fG (p::r) k=fG r k:=by simp[fG,pe,e]
theorem zT (k:κ):∀ kvs:List (κ×V),(kvs.any fun kv=>decide (kv.1=k))=(fG kvs k).isSome
 | []=>rfl
 | p::r=>by
  rw[kH]
  by_cases e:p.1=k
  ·simp only[oF e,decide_eq_true e,Bool.true_or,Option.isSome_some]
  ·rw[oE e,decide_eq_false e,Bool.false_or];exact zT k r
theorem Dn (kvs:List (κ×V))(k:κ)(v:V):(fm kvs k v).length≤kvs.length+1:=by
 unfold fm
 split
 ·rw[cm];omega
 ·rw[eN,dB,vT];omega
theorem ek.isSome_eq {o:Option V}{u:Option ah}(r:ek o u):o.isSome=u.isSome:=by
 cases o with
 | none=>cases u with
  | none=>rfl
  | some _=>exact (show False from r).elim
 | some _=>cases u with
  | none=>exact (show False from r).elim
  | some _=>rfl
theorem ek.getD {o:Option V}{u:Option ah}{d:V}{d':ah}(r:ek o u)(rd:RelV d d'):RelV (o.getD d) (u.getD d'):=by
 cases o with
 | none=>cases u with
  | none=>exact rd
  | some _=>exact (show False from r).elim
 | some _=>cases u with
  | none=>exact (show False from r).elim
  | some _=>exact r
theorem KV.val {kvs:List (κ×V)}{vs:List (κ×ah)}(r:KV kvs vs)(k:κ):ek (fG kvs k) (oG vs k):=by
 unfold KV at r
 induction r with
 | nil=>exact True.intro
 | @cons p q ps qs h t ih=>
  obtain⟨h1,h2⟩:=h
  by_cases e:p.1=k
  ·have e':q.1=k:=h1.symm.trans e
   have b:oG (q::qs) k=some q.2:=by simp[oG,pe,e']
   rw[oF e,b];exact h2
  ·have e':¬ q.1=k:=fun z=>e (h1.trans z)
   have b:oG (q::qs) k=oG qs k:=by simp[oG,pe,e']
   rw[oE e,b];exact ih
theorem KV.any {kvs:List (κ×V)}{vs:List (κ×ah)}(r:KV kvs vs)(k:κ):(kvs.any fun kv=>decide (kv.1=k))=vs.any fun kv=>decide (kv.1=k):=by
 unfold KV at r
 induction r with
 | nil=>rfl
 | cons h t ih=>rw[kH,kH,ih,h.1]
theorem KV.repl {kvs:List (κ×V)}{vs:List (κ×ah)}(r:KV kvs vs)(k:κ){y:V}{u:ah}(ry:RelV y u) :
  KV (kvs.map fun kv=>if kv.1=k then (kv.1,y) else kv) (vs.map fun kv=>if kv.1=k then (kv.1,u) else kv):=by
 unfold KV at r ⊢
 induction r with
 | nil=>exact .nil
 | @cons p q ps qs h t ih=>
  rw[bV,bV]
  refine .cons ?_ ih
  obtain⟨h1,h2⟩:=h
  by_cases e:p.1=k
  ·rw[if_pos e,if_pos (h1.symm.trans e)];exact⟨h1,ry⟩
  ·rw[if_neg e,if_neg (fun z=>e (h1.trans z))];exact⟨h1,h2⟩
theorem KV.put {kvs:List (κ×V)}{vs:List (κ×ah)}(r:KV kvs vs)(k:κ){y:V}{u:ah}(ry:RelV y u):KV (fm kvs k y) (stored vs k u):=by
 unfold fm stored
 rw[r.any k]
 by_cases e:(vs.any fun kv=>decide (kv.1=k))=true
 ·rw[if_pos e,if_pos e];exact r.repl k ry
 ·rw[if_neg e,if_neg e];exact Paired.snoc r ⟨rfl,ry⟩
theorem KV.keys {kvs:List (κ×V)}{vs:List (κ×ah)}(r:KV kvs vs):kvs.map (·.1)=vs.map (·.1):=by
 unfold KV at r
 induction r with
 | nil=>rfl
 | cons h t ih=>rw[bV,bV,ih,h.1]
theorem KV.length {kvs:List (κ×V)}{vs:List (κ×ah)}(r:KV kvs vs):kvs.length=vs.length:=Bg r
end
theorem qh {P:aQ}{w:aM}{k:bt}{u:ah}(r:RelV (kV k) u):(eI P w).is k u=true:=by
 cases k with
 | inl i=>obtain⟨t,e⟩:=(show ∃ t,u=Value.int i t from r);subst e;exact L5 P w i t
 | inr x=>obtain⟨t,e⟩:=(show ∃ t,u=Value.str x t from r);subst e;exact xX P w x t
theorem Dc {P:aQ}{w:aM}:∀ {ks:List bt} {us:List ah},aV (ks.map kV) us->ItemsAre (eI P w) ks us
 | [],_,r=>by rw[rT] at r;cases r;exact .nil
 | k::ks,_,r=>by
  rw[bV] at r
  cases r with
  | cons h t=>exact .cons (qh h) (Dc t)
abbrev KT (H:Hp):List (List bt×V)->List (List bt×af×ah)->Prop:=nE fun p q=>p.1=q.1∧H q.2.1=some (.tup (p.1.map kV))∧RelV p.2 q.2.2
theorem KT.val {H:Hp}{kvs:List (List bt×V)}{xs:List (List bt×af×ah)}(r:KT H kvs xs)(k:List bt):ek (fG kvs k) ((kX xs k).map (·.2)):=by
 induction r with
 | nil=>exact True.intro
 | @cons p q ps qs h t ih=>
  obtain⟨h1,_,h2⟩:=h
  by_cases e:p.1=k
  ·have e':q.1=k:=h1.symm.trans e
   have b:kX (q::qs) k=some q.2:=by simp[kX,pe,e']
   rw[oF e,b];exact h2
  ·have e':¬ q.1=k:=fun z=>e (h1.trans z)
   have b:kX (q::qs) k=kX qs k:=by simp[kX,pe,e']
   rw[oE e,b];exact ih
theorem KT.repl {H:Hp}{kvs:List (List bt×V)}{xs:List (List bt×af×ah)}(r:KT H kvs xs)(k:List bt){y:V}{u:ah}(ry:RelV y u) :
  KT H (kvs.map fun kv=>if kv.1=k then (kv.1,y) else kv) (xs.map (putAt k u)):=by
 induction r with
 | nil=>exact .nil
 | @cons p q ps qs h t ih=>
  rw[bV,bV]
  refine .cons ?_ ih
  obtain⟨h1,h2,h3⟩:=h
  unfold putAt
  by_cases e:p.1=k
  ·rw[if_pos e,if_pos (h1.symm.trans e)];exact⟨h1,h2,ry⟩
  ·rw[if_neg e,if_neg (fun z=>e (h1.trans z))];exact⟨h1,h2,h3⟩
theorem KT.put {H:Hp}{kvs:List (List bt×V)}{xs:List (List bt×af×ah)}(r:KT H kvs xs)(k:List bt){b:af}{y:V}{u:ah}(hb:H b=some (.tup (k.map kV)))(ry:RelV y u) :
  KT H (fm kvs k y) (storedH xs k b u):=by
 have e:(kvs.any fun kv=>decide (kv.1=k))=(kX xs k).isSome:=by
  rw[zT,(r.val k).isSome_eq,Hs]
 unfold fm storedH
 rw[e]
 by_cases q:(kX xs k).isSome=true
 ·rw[if_pos q,if_pos q];exact r.repl k ry
 ·rw[if_neg q,if_neg q];exact Paired.snoc r ⟨rfl,hb,ry⟩
theorem KT.keeps {H H':Hp}{kvs:List (List bt×V)}{xs:List (List bt×af×ah)}(r:KT H kvs xs)(ht:∀ b ys,H b=some (.tup ys)->H' b=some (.tup ys)):KT H' kvs xs:=
 Paired.mapP r fun _ _ z=>⟨z.1,ht _ _ z.2.1,z.2.2⟩
section
variable {P:aQ}{w:aM}{H:Hp}{h:az}{a:af}
theorem Ez {u:HO}(ok:cI P w H h)(e:Rd H a u):cP P w H h a u:=e.ok ok
theorem sM {kvs:List (bt×V)}(ok:cI P w H h)(e:Rd H a (.dK kvs)):kvs.length≤sizeLine∧(a==jw)=false∧∃ vs,KV kvs vs∧h.DictOf (eI P w) a vs:=
 show cP P w H h a (.dK kvs) from Ez ok e
theorem Cs {kvs:List (bt×V)}(ok:cI P w H h)(e:H a=some (.dK kvs)):kvs.length≤sizeLine∧(a==jw)=false∧∃ vs,KV kvs vs∧h.DictOf (eI P w) a vs:=sM ok (.inl e)
theorem tq {ks:List bt}(ok:cI P w H h)(e:H a=some (.tup (ks.map kV))):(uL (eI P w)).is h ks a:=by
 obtain⟨_,its,r,o,h1,h2,n,h3⟩:=(show cP P w H h a (.tup (ks.map kV)) from ok a _ e)
 exact⟨o,its.toArray,n,h1,h2,h3,by simpa using Dc r⟩
theorem sO {kvs:List (List bt×V)}(ok:cI P w H h)(e:Rd H a (.dT kvs)):kvs.length≤sizeLine∧(a==jw)=false ∧
  ∃ xs,KT H kvs xs∧h.DictOfH (uL (eI P w)) a xs:=by
 obtain⟨z,y,xs,r,o,es,ep,h1,h2,h3,h4,h5⟩:=(show cP P w H h a (.dT kvs) from Ez ok e)
 refine⟨z,y,xs,r,o,es,ep,h1,h2,h3,h4,fun x hx=>?_,h5⟩
 have all:∀ {l:List (List bt×V)} {m:List (List bt×af×ah)},KT H l m->∀ x∈m,(uL (eI P w)).is h x.1 x.2.1:=by
  intro l m q
  induction q with
  | nil=>intro x hx;exact nomatch hx
  | @cons p q ps qs hq t ih=>
   intro x hx
   rcases List.mem_cons.mp hx with e | hx
   ·subst e
    exact tq ok (by rw[← hq.1];exact hq.2.1)
   ·exact ih x hx
 exact all r x hx
theorem JL {kvs:List (List bt×V)}(ok:cI P w H h)(e:H a=some (.dT kvs)):kvs.length≤sizeLine∧(a==jw)=false ∧
 ∃ xs,KT H kvs xs∧h.DictOfH (uL (eI P w)) a xs:=sO ok (.inl e)
end
def g9 (H:Hp)(a:af)(y:V)(r:Option V):Prop:=
 (∃ kvs k,Rd H a (.dK kvs)∧y=kV k∧r=fG kvs k)∨∃ kvs k b,Rd H a (.dT kvs)∧y=.ref b∧H b=some (.tup (k.map kV))∧r=fG kvs k
def lJ (H:Hp)(a:af)(y v:V)(H':Hp):Prop:=
 (∃ kvs k,H a=some (.dK kvs)∧y=kV k∧kvs.length<sizeLine∧H'=upd H a (.dK (fm kvs k v))) ∨
 ∃ kvs k b,H a=some (.dT kvs)∧y=.ref b∧H b=some (.tup (k.map kV))∧kvs.length<sizeLine∧H'=upd H a (.dT (fm kvs k v))
theorem g9.k {H:Hp}{a:af}{kvs:List (bt×V)}{k:bt}(e:H a=some (.dK kvs)):g9 H a (kV k) (fG kvs k):=.inl ⟨kvs,k,.inl e,rfl,rfl⟩
theorem g9.t {H:Hp}{a b:af}{kvs:List (List bt×V)}{k:List bt}(e:H a=some (.dT kvs))(eb:H b=some (.tup (k.map kV))):g9 H a (.ref b) (fG kvs k):=.inr ⟨kvs,k,b,.inl e,rfl,eb,rfl⟩
theorem lJ.k {H:Hp}{a:af}{kvs:List (bt×V)}{k:bt}{v:V}(e:H a=some (.dK kvs))(hl:kvs.length<sizeLine):lJ H a (kV k) v (upd H a (.dK (fm kvs k v))):=.inl ⟨kvs,k,e,rfl,hl,rfl⟩
theorem lJ.t {H:Hp}{a b:af}{kvs:List (List bt×V)}{k:List bt}{v:V}(e:H a=some (.dT kvs))(eb:H b=some (.tup (k.map kV)))(hl:kvs.length<sizeLine) :
 lJ H a (.ref b) v (upd H a (.dT (fm kvs k v))):=.inr ⟨kvs,k,b,e,rfl,eb,hl,rfl⟩
section
variable {X:Cx}{pins:List (af×Obj)}{σ:St}{H:Hp}{s:ar}{a:af}{y v:V}{u r:ah}{o:Option V}{A:bw}{E:ah->ar->Prop}
theorem Inv.big (I:Inv X pins σ H s):jw<s.heap.objs.size:=by
 have h:a_<s.heap.objs.size:=(I.mod.glob.keeps I.bk).lt
 exact Bb (by decide) h
theorem Jx {Q:ah->ar->Prop}(hu:A.units+1<cLine)(I:Inv X pins σ H s)(g:g9 H a y (some v))(ry:RelV y u)(h:∀ w' s',Inv X pins σ H s'->RelV v w'->Q w' s') :
  aI (aF X.prog X.w) A (p6 (.ref a) u) Q E s:=by
 rcases g with ⟨kvs,k,e,ey,l⟩ | ⟨kvs,k,b,e,ey,eb,l⟩
 ·subst ey
  obtain⟨z,hd,vs,rel,dd⟩:=sM I.hok e
  obtain⟨w',hw,rw'⟩:=ek.some_of (v:=v) (o:=oG vs k) (by rw[l];exact rel.val k)
  exact wpAny_getItem_of (qh ry) dd.mapOf hw (h w' _ (I.tok _) rw')
 ·subst ey
  cases (show u=Value.ref b from ry)
  obtain⟨z,hd,xs,rel,dd⟩:=sO I.hok e
  obtain⟨w',hw,rw'⟩:=ek.some_of (v:=v) (o:=(kX xs k).map (·.2)) (by rw[l];exact rel.val k)
  obtain⟨p,hp,hp2⟩:=Option.map_eq_some_iff.mp hw
  refine wpAny_getItem_heap (FH hu) (tq I.hok eb) dd hp ?_
  rw[hp2]
  exact h w' _ (I.tok _) rw'
theorem Jy {Q:ah->ar->Prop}(hu:A.units+1<cLine)(I:Inv X pins σ H s)(g:g9 H a y o)(ry:RelV y u)(h:∀ s',Inv X pins σ H s'->Q (.bool (!o.isSome)) s') :
  aI (aF X.prog X.w) A (fC .NotIn u (.ref a)) Q E s:=by
 rcases g with ⟨kvs,k,e,ey,l⟩ | ⟨kvs,k,b,e,ey,eb,l⟩
 ·subst ey
  obtain⟨z,hd,vs,rel,dd⟩:=sM I.hok e
  refine wpAny_notIn_of (qh ry) hd dd.mapOf ?_
  rw[← (rel.val k).isSome_eq,← l]
  exact h _ (I.tok _)
 ·subst ey
  cases (show u=Value.ref b from ry)
  obtain⟨z,hd,xs,rel,dd⟩:=sO I.hok e
  refine wpAny_notIn_heap (FH hu) (tq I.hok eb) hd dd ?_
  have q:=(rel.val k).isSome_eq
  rw[Hs] at q
  rw[← q,← l]
  exact h _ (I.tok _)
theorem Co {h':az}{t':Nat}{ob:HO}(I:Inv X pins σ H s)(mu:px (H a))(hs:lU a s.heap h')(he:∃ q,h'.get? a=some q)(new:cP X.prog X.w (upd H a ob) h' a ob) :
  Inv X pins σ (upd H a ob) {s with heap:=h',toks:=t' }:=
 I.write (x:=a) (e:=a) mu (.inl rfl) (fun b q hb z=>(hs.2 b hb).trans z) he new
theorem JJ {P:aQ}{w:aM}{H':Hp}{h':az}{kvs:List (bt×V)}{vs:List (bt×ah)}(z:kvs.length≤sizeLine)(hd:(a==jw)=false)(rel:KV kvs vs)(dd:h'.DictOf (eI P w) a vs) :
 cP P w H' h' a (.dK kvs):=⟨z,hd,vs,rel,dd⟩
theorem Jz {H':Hp}{Q:Unit->ar->Prop}(hu:A.units+1<cLine)(I:Inv X pins σ H s)(g:lJ H a y v H')(ry:RelV y u)(rv:RelV v r)(h:∀ s',Inv X pins σ H' s'->Q () s') :
  aI (aF X.prog X.w) A (setItem (.ref a) u r) Q E s:=by
 rcases g with ⟨kvs,k,e,ey,l,eH⟩ | ⟨kvs,k,b,e,ey,eb,l,eH⟩
 ·subst ey eH
  obtain⟨z,hd,vs,rel,dd⟩:=Cs I.hok e
  have hz:vs.length≤sizeLine:=by rw[← rel.length];exact z
  have hl:(fm kvs k v).length≤sizeLine:=by have:=Dn kvs k v;omega
  refine wpAny_setItem_pairs (hsz:=hz) (qh ry) dd fun h' dd' hs=>h _ ?_
  have he:∃ q,h'.get? a=some q:=let ⟨q,_,_,hq,_⟩:=dd';⟨q,hq⟩
  exact Co I (by rw[e];exact True.intro) hs he (JJ hl hd (rel.put k rv) dd')
 ·subst ey eH
  cases (show u=Value.ref b from ry)
  obtain⟨z,hd,xs,rel,dd⟩:=JL I.hok e
  have hz:xs.length≤sizeLine:=by rw[← Bg rel];exact z
  have hl:(fm kvs k v).length≤sizeLine:=by have:=Dn kvs k v;omega
  refine wpAny_setItem_heap (hsz:=hz) (FH hu) (tq I.hok eb) dd fun h' dd' hs=>h _ ?_
  obtain⟨q,es,ep,hq,h2,h3,h4,_,h5⟩:=dd'
  refine Co I (by rw[e];exact True.intro) hs ⟨q,hq⟩ ⟨hl,hd,_,(rel.put k eb rv).keeps fun c ys ec=>?_,q,es,ep,hq,h2,h3,h4,h5⟩
  rw[ba (Ms ec e (fun z=>nomatch z))]
  exact ec
end
def rV (i:Expr):Prop:=∀ ov iv,zF i false ov iv=operate [ov,iv] (p6 ov iv)
theorem QK {prog:aQ}{w:aM}{A:bw}{E:ah->ar->Prop}{s:ar}{env:Env}{value slice:Expr}{pos:Pos}{T id:String}{Q:ah->ar->Prop}
  (hl:uO (.type T) "__getitem__"=aN (some (.builtin id))) (hs:rV slice)
  (h:aI (aF prog w) A (aB value env) (fun o s₁=>aI (aF prog w) A (aB slice env) (fun i s₂=>s₂.TypeIs o T∧aI (aF prog w) A (p6 o i) Q E s₂) E s₁) E s) :
  aI (aF prog w) A (aB (.Subscript value slice pos) env) Q E s:=by
 refine BF (cT h (fun o s₁ h₁=>cT h₁ (fun i s₂ h₂=>?_) fun _ _ x=>x) fun _ _ x=>x)
 obtain⟨hT,h₂⟩:=h₂
 unfold Fq
 refine aU ?_
 rw[getitemInPython_of_ne hT.not_modules]
 refine aU (F0 hT hl ?_)
 have fin:aI (aF prog w) A (zF slice false o i) (fun r s₃=>aI (aF prog w) A (letTemporaryGo value o r >>= fun _=>aN r) Q E s₃) E s₂:=by
  rw[hs o i]
  exact wpAny_operating (cT h₂ (fun r s₃ h₃=>aU (wpAny_letTemporaryGo (bU h₃))) fun _ _ x=>x)
 first
  | exact bU (aU fin)
  | exact aU (bU (aU fin))
  | exact aU fin
theorem JE {X:Cx}{pins:List (af×Obj)}{σ:St}{H:Hp}{s:ar}{a:af}{y:V}{o:Option V}(I:Inv X pins σ H s)(g:g9 H a y o):s.TypeIs (.ref a) "dict":=by
 rcases g with ⟨kvs,k,e,_,_⟩ | ⟨kvs,k,b,e,_,_,_⟩
 ·obtain⟨_,_,vs,_,dd⟩:=sM I.hok e
  exact dd.typeIs
 ·obtain⟨_,_,xs,_,dd⟩:=sO I.hok e
  exact dd.typeIs
def QZ (td ty:TE):TE:=fun σ H Q=>td σ H fun x H1=>ty σ H1 fun y H2=>∃ a v,x=.ref a∧g9 H2 a y (some v)∧Q v H2
def Q1 (ty td:TE):TE:=fun σ H Q=>ty σ H fun y H1=>td σ H1 fun x H2=>∃ a o,x=.ref a∧g9 H2 a y o∧Q (.bl (!o.isSome)) H2
def O6 (td ty tv:TE):TS:=fun D σ H=>tv σ H fun v H1=>td σ H1 fun x H2=>ty σ H2 fun y H3=>∃ a H4,x=.ref a∧lJ H3 a y v H4∧D.nx σ H4
section
variable {X:Cx}{o i e value:Expr}{pos pos' tpos:Pos}{td ty tv:TE}
theorem Ea (hu:X.A.units+1<cLine)(ho:PE X o td)(hi:PE X i ty)(hs:rV i):PE X (.Subscript o i pos) (QZ td ty):=by
 intro pins s σ H Q I h
 refine QK PySem.F.slot_dict_getitem.lookup hs (aP (ho pins s σ H _ I h) fun u s1 ⟨x,H1,I1,rx,q1⟩=>aP (hi pins s1 σ H1 _ I1 q1) fun iv s2 ⟨y,H2,I2,ry,a,v,ex,g,q2⟩=>?_)
 subst ex
 obtain rfl:u=Value.ref a:=rx
 exact⟨JE I2 g,Jx hu I2 g ry fun w' s3 I3 rw'=>⟨v,H2,I3,rw',q2⟩⟩
theorem NN (hu:X.A.units+1<cLine)(hi:PE X i ty)(ho:PE X o td):PC X .NotIn i o (Q1 ty td):=by
 intro pins s σ H Q I h
 refine aP (hi pins s σ H _ I h) fun iv s1 ⟨y,H1,I1,ry,q1⟩=>aP (ho pins s1 σ H1 _ I1 q1) fun u s2 ⟨x,H2,I2,rx,a,ov,ex,g,q2⟩=>?_
 subst ex
 obtain rfl:u=Value.ref a:=rx
 exact Jy hu I2 g ry fun s3 I3=>⟨.bl (!ov.isSome),H2,I3,rfl,q2⟩
theorem Oj (hu:X.A.units+1<cLine)(ho:PE X o td)(hi:PE X i ty)(hv:PE X value tv)(hs:dF value (some (.Subscript o i pos')) pos.line X.env=aN false) :
  PS X (.Assign [.Subscript o i pos'] value pos) (O6 td ty tv):=by
 intro pins s σ H D I h
 refine wpAny_Assign_Subscript (aP (hv pins s σ H _ I h) fun r s1 ⟨v,H1,I1,rv,q1⟩=>aP (ho pins s1 σ H1 _ I1 q1) fun u s2 ⟨x,H2,I2,rx,q2⟩=>aP (hi pins s2 σ H2 _ I2 q2) fun iv s3 ⟨y,H3,I3,ry,a,H4,ex,g,q3⟩=>?_) hs
 subst ex
 obtain rfl:u=Value.ref a:=rx
 exact Jz hu I3 g ry rv fun s4 I4=>⟨σ,H4,I4,q3⟩
end
theorem JI {P:aQ}{w:aM}{H:Hp}(h:az)(hb:jw<h.objs.size):cP P w H (h.push {cls:=.type "dict",data:=.dict #[]}) h.objs.size (.dK []):=
 ⟨kL _,beq_eq_false_iff_ne.mpr (cn (cJ hb)),[],.nil,Heap.DictOf.new h⟩
def Q0:TE:=fun _ H Q=>∀ p,H p=none->Q (.ref p) (upd H p (.dK []))
section
variable {X:Cx}{pos:Pos}
theorem NR:PE X (.Dict [] [] pos) Q0:=fun pins s σ H Q I h=>
 wpAny_Dict_empty ⟨.ref s.heap.objs.size,_,I.laid (a:=s.heap.objs.size) (o:=.dK []) (t':=s.toks) (fun _ _ q=>cL _ q) (cj _) (JI s.heap I.big),rfl,h _ (I.hok.fresh (cj _))⟩
end
abbrev VV:List (V×V)->List (ah×ah)->Prop:=nE fun p q=>RelV p.1 q.1∧RelV p.2 q.2
end L2
namespace Att
open PySem PySem.W PySem.Calls PyProof.Rows
section
variable {prog:aQ}{w:aM}{A:bw}{E:ah->ar->Prop}{s:ar}{K:Frag}
end
end Att
namespace L2
end L2
namespace L2
end L2
namespace L2
variable [Reg]
def nW:ae->List (ae×ae)
 | .dict l=>l
 | _=>[]
def zK:ae->List ae
 | .tuple l=>l
 | _=>[]
def isStr (f:Str):ae->Bool
 | .str n=>n==f
 | _=>false
def FJ (f:Str):List ae->Option ae
 | [n,d]=>if isStr f n=true then some d else none
 | _=>none
def J3 (f:Str)(d:ae):Option ae:=FJ f (zK ((nW d).getD 1 (.none,.none)).2)
theorem K7 {f:Str}{n:ae}(h:isStr f n=true):n=.str f:=by
 cases n with
 | str x=>rw[show x=f from sQ h]
 | _=>exact L2.fj h
theorem RY {f:Str}{l:List ae}{r:ae}(h:FJ f l=some r):l=[.str f,r]:=by
 rcases l with _ | ⟨a,_ | ⟨b,_ | ⟨c,l⟩⟩⟩
 ·exact L2.bp h
 ·exact L2.bp h
 ·have h':(if isStr f a=true then some b else none)=some r:=h
  by_cases q:isStr f a=true
  ·rw[if_pos q] at h';cases h';rw[K7 q]
  ·rw[if_neg q] at h';cases h'
 ·exact L2.bp h
def ng (K:ao)(exs:List Str)(f:Str):Prop:=∀ cls∈exs,∀ C,bG K a_ cls=some (some (.ref C))->lL K C∧cK K (.ref C) f=some none
def sS (K:ao)(exs:List Str)(f:Str):Bool:=exs.all fun cls=>match bG K a_ cls with
 | some (some (.ref C))=>k6 K C&&cK K (.ref C) f==some none
 | _=>true
theorem xq {K:ao}{exs:List Str}{f:Str}(h:sS K exs f=true):ng K exs f:=by
 intro cls hc C hn
 have:=List.all_eq_true.mp h cls hc
 rw[hn] at this
 dsimp only at this
 rw[cq] at this
 exact⟨CD this.1,sQ this.2⟩
def K9:ae->Bool
 | .bool b=>b
 | _=>false
def isIn (exs:List Str):ae->Bool
 | .str c=>exs.contains c
 | _=>false
def KP (exs:List Str)(d:ae):Bool:=K9 ((nW d).getD 0 (.none,.none)).1&&isIn exs ((nW d).getD 0 (.none,.none)).2
theorem Mt {fv:List (Str×V)}{K:ao}{H:Hp}{fd:List ae}{n d:ae}(e:og fv++fd=[n,d])(D:aD K H (fv.map (·.2)) fd):∃ m w,fv=[(m,w)]∧n=.str m∧aJ K H w d:=by
 rcases fv with _ | ⟨⟨m,w⟩,_ | ⟨p2,fv⟩⟩
 ·cases D;cases e
 ·cases D with
  | cons D1 D2=>cases D2;cases e;exact⟨m,w,rfl,rfl,D1⟩
 ·have h1:=congrArg rS e
  have h2:=D.length
  rw[eN,show (og ((m,w)::p2::fv)).length=fv.length+2 from cm _] at h1
  rw[cm] at h2
  have h2':fv.length+2=fd.length:=h2
  have h1':fv.length+2+fd.length=2:=h1
  omega
section
variable {X:Cx}{O:Ow}{a:Expr}{fa:ag->Option ae}{pos:Pos}{f:Str}{exs:List Str}
theorem Kr {pins:List (af×Obj)}{σ:St}{H:Hp}{s:ar}{e:af}{cls:Str}{v:V}{b:Bool}{A:bw}{E Q:ah->ar->Prop}(I:Inv X pins σ H s)(h:lM X.K H e cls [(f,v)])(c:ng X.K exs f)(hc:cls∈exs)
  (hq:∀ u s',Inv X pins σ H s'->RelV v u->Q u s'):aI (aF X.prog X.w) A (sW (.ref e) f b) Q E s:=by
 obtain⟨oe,C,vs,h1,h2,h3,h4,h5⟩:=h
 obtain⟨q,_⟩:=(show cP X.prog X.w H s.heap e (.frz oe _) from I.hok e _ h1)
 have hn:se oe=true:=by unfold se;rw[h3]
 rcases h5 with ⟨h5,_⟩ | ⟨dx,h5,h6⟩
 ·cases h5
 obtain⟨mA,hns,hl⟩:=(show ∃ mA,s.heap.Ns1 dx mA∧∀ g,ek (lZ g [(f,v)]) (mA g) from I.hok dx _ h6)
 obtain⟨od,ho,hlo⟩:=Dr hns
 have J:jK s.heap e oe C (some od):=⟨q,h2,hn,by rw[h5];exact ho⟩
 obtain⟨k,hf⟩:=c cls hc C h4
 obtain⟨u,hu,ru⟩:=ek.some_of (v:=v) (o:=mA f) (by have:=hl f;rwa [fJ,beq_self_eq_true] at this)
 have hfo:wg X.K C (some od) f=some (.value u):=HG k.hd hf rfl (by rw[hlo,hu])
 unfold sW
 exact aU (wpAny_mkText (CF (s:={s with toks:=s.toks+1}) I.kIn J k (CV ru) (fun {A' E' P} hp=>JZ (s:={s with toks:=s.toks+1}) I.kIn J hfo hp) (hq u _ (I.tok _) ru)))
def p0 (exs:List Str)(f:Str)(d:ae):Option ae:=if KP exs d=true then J3 f d else none
theorem yr (c:ng X.K exs f)(ha:PR X O a fa)(hb:dR a f X.env (aB a X.env)=aB a X.env:=by rfl):PR X O (.Attribute a f pos) (fun ρ=>(fa ρ).bind (p0 exs f)):=by
 intro pins s σ H Q I zpat
 obtain⟨hid,H0,ρ,ow,r,E,hf,k⟩:=zpat
 obtain⟨d,h1,h2⟩:=bind_some hf
 refine BS hb (aP (ha pins s σ H (fun x H1=>ay H H1∧aJ X.K (av H1 hid) x d) I ⟨hid,H0,ρ,ow,d,E,h1,fun x H1 s1 D1=>⟨s1,D1⟩⟩) fun u s1 zpat=>?_)
 obtain⟨x,H1,I1,rx,sm,D1⟩:=zpat
 unfold p0 at h2
 split at h2
 case isFalse=>cases h2
 rename_i hin
 have key:∃ e cls w,x=.ref e∧lM X.K (av H1 hid) e cls [(f,w)]∧cls∈exs∧aJ X.K (av H1 hid) w r:=by
  cases D1 with
  | @exc e cls fv fd hv hr=>
   have hm:cls∈exs:=List.contains_iff_mem.mp hin
   have e2:og fv++fd=[.str f,r]:=RY h2
   obtain⟨m,w,rfl,e3,Dw⟩:=Mt e2 hr
   cases e3
   exact⟨e,cls,w,rfl,hv,hm,Dw⟩
  | _=>exact L2.fj hin
 obtain⟨e,cls,w,rfl,hv,hm,Dw⟩:=key
 obtain rfl:u=Value.ref e:=rx
 exact Kr I1 (hv.mono (bH _ _)) c hm fun u s2 I2 ru=>⟨w,H1,I2,ru,k w H1 sm Dw⟩
end
end L2
namespace L2
variable [Reg]
def K_:ae->Bool
 | .int _=>true
 | _=>false
def p_ (d:ae):Bool:=K_ ((nW d).getD 0 (.none,.none)).1
def jf (d:ae):List ae:=zK ((nW d).getD 0 (.none,.none)).2
def pS (d:ae):List ae:=zK ((nW d).getD 1 (.none,.none)).2
def iQ (ks ds:List ae):ae:=.dict [(.int 0,.tuple ks),(.none,.tuple ds)]
def xh (key:Str)(d:ae):Option ae:=if p_ d=true then jY key (jf d) (pS d) else none
def k9 (key:Str):List ae->Bool
 | .str n::ns=>if n=key then true else k9 key ns
 | _=>false
inductive AW (K:ao)(H:Hp)(v:V)(d:ae):Prop
 | mk (a:af) (kvs:List (bt×V)) (ks:List Str) (e:v=.ref a) (h:lK H a kvs ks) (hk:jf d=ks.map .str) (hd:aD K H (kvs.map (·.2)) (pS d)) (e2:d=mv ks (pS d)):AW K H v d
theorem w_ {K:ao}{H:Hp}{v:V}{d:ae}(h:aJ K H v d)(q:p_ d=true):AW K H v d:=by
 cases h with
 | dct h r=>exact⟨_,_,_,rfl,h,rfl,r,rfl⟩
 | _=>cases q
theorem xT {K:ao}{H:Hp}{key:Str}{r:ae}:∀ {kvs:List (bt×V)} {ks:List Str} {ds:List ae},kvs.map (·.1)=ks.map Sum.inr->aD K H (kvs.map (·.2)) ds->jY key (ks.map .str) ds=some r->∃ w,fG kvs (Sum.inr key)=some w∧aJ K H w r
 | [],[],_,_,_,e=>by cases e
 | [],_::_,_,h,_,_=>by cases h
 | _::_,[],_,h,_,_=>by cases h
 | (k,v)::kvs,n::ks,[],_,D,_=>by cases D
 | (k,v)::kvs,n::ks,d::ds,h,D,e=>by
  rw[bV,bV] at h
  obtain⟨h1,h2⟩:=kI h
  have h1':k=Sum.inr n:=h1
  subst h1'
  rw[bV] at D
  cases D with
  | cons D1 D2=>
   have e':(if n=key then some d else jY key (ks.map .str) ds)=some r:=e
   by_cases hn:n=key
   ·rw[if_pos hn] at e'
    obtain rfl:=aE e'
    subst hn
    exact⟨v,oF rfl,D1⟩
   ·rw[if_neg hn] at e'
    obtain⟨w,w1,w2⟩:=xT h2 D2 e'
    exact⟨w,by rw[oE fun z=>hn (nQ z)];exact w1,w2⟩
theorem xE {key:Str}:∀ {kvs:List (bt×V)} {ks:List Str},kvs.map (·.1)=ks.map Sum.inr->(fG kvs (Sum.inr key)).isSome=k9 key (ks.map .str)
 | [],[],_=>rfl
 | [],_::_,h=>by cases h
 | _::_,[],h=>by cases h
 | (k,v)::kvs,n::ks,h=>by
  obtain⟨h1,h2⟩:=kI h
  have h1':k=Sum.inr n:=h1
  subst h1'
  show _=if n=key then true else k9 key (ks.map .str)
  by_cases hn:n=key
  ·rw[if_pos hn,oF (by rw[hn])]
   rfl
  ·rw[if_neg hn,oE fun z=>hn (nQ z)]
   exact xE h2
section
variable {X:Cx}{O:Ow}{e k:Expr}{f g:ag->Option ae}{pos:Pos}
theorem uP (hu:X.A.units+64<cLine):X.A.units+1<cLine:=kJ (Ba (by decide:1≤64) _) hu
def jU (d k:ae):Option ae:=(gx k).bind fun s=>xh s d
theorem Ew (hu:X.A.units+64<cLine)(h:PR X O e f)(hk:PR X O k g)(hs:rV k:=by intro _ _;rfl):PR X O (.Subscript e k pos) (fun ρ=>au (f ρ) (g ρ) jU):=(Ea (uP hu) h hk hs).imp fun σ H Q zpat=>by
 obtain⟨hid,H0,ρ,ow,r,E,hf,q⟩:=zpat
 obtain⟨d,h1,hf⟩:=bind_some hf
 obtain⟨kd,h2,hf⟩:=bind_some hf
 obtain⟨s,h3,h4⟩:=bind_some hf
 refine⟨hid,H0,ρ,ow,d,E,h1,fun v H1 s1 D=>⟨hid,H0,ρ,ow,kd,E.mono s1,h2,fun y H2 s2 Dk=>?_⟩⟩
 unfold xh at h4
 split at h4
 case isFalse=>cases h4
 rename_i hd
 obtain⟨a,kvs,ks,rfl,hv,hk,hD,_⟩:=w_ (D.mono (aZ s2 _)) hd
 rw[hk] at h4
 obtain⟨w,w1,w2⟩:=xT hv.2 hD h4
 rw[gy h3] at Dk
 refine⟨a,w,rfl,?_,q w H2 (s1.trans s2) w2⟩
 rw[dr Dk,← w1]
 exact g9.k (k:=Sum.inr s) (bH _ _ _ _ hv.1)
def Kz (d k:ae):Option Bool:=(gx k).bind fun s=>if p_ d=true then some (k9 s (jf d)) else none
def x_ (k d:ae):Option ae:=(Kz d k).map fun b=>.bool (!b)
theorem FA (hu:X.A.units+64<cLine)(hk:PR X O k g)(h:PR X O e f)(hm:jP .NotIn e=false:=by rfl):fT X O (.Compare k [.NotIn] [e] pos) (fun ρ=>bq (au (g ρ) (f ρ) x_)):=(Ot (NN (uP hu) hk h) hm).imp fun σ H Q zpat=>by
 obtain⟨hid,H0,ρ,ow,r,E,hf,q⟩:=zpat
 obtain⟨bd,hf1,hb⟩:=bind_some hf
 obtain⟨kd,h2,hf2⟩:=bind_some hf1
 obtain⟨d,h1,hf3⟩:=bind_some hf2
 obtain⟨b,hf4,e5⟩:=map_some hf3
 subst e5
 obtain⟨s,h3,h4⟩:=bind_some hf4
 obtain rfl:=aE hb
 refine⟨hid,H0,ρ,ow,kd,E,h2,fun y H1 s1 Dk=>⟨hid,H0,ρ,ow,d,E.mono s1,h1,fun v H2 s2 D=>?_⟩⟩
 split at h4
 case isFalse=>cases h4
 rename_i hd
 obtain rfl:=aE h4
 obtain⟨a,kvs,ks,rfl,hv,hk,hD,_⟩:=w_ D hd
 rw[gy h3] at Dk
 refine⟨a,fG kvs (Sum.inr s),rfl,?_,_,rfl,?_⟩
 ·rw[dr Dk]
  exact g9.k (k:=Sum.inr s) (bH _ _ _ _ hv.1)
 ·rw[xE hv.2,← hk]
  exact q H2 (s1.trans s2)
end
end L2
namespace L2
def Txt.splitM (i j:Str)(k:Int):List Str:=if (decide (i.length<j.length)||decide (iT i<iT j))=true then [i] else
 if (iy i j 0 i.length (tD i k)).isEmpty=true then [i] else AN i (iy i j 0 i.length (tD i k)) j.length
section
variable [Reg]{X:Cx}
def ON:V->List V->Hp->VK->Prop:=fun x vs H Q=>∃ i j k,x=.str i∧vs=[.str j,.int k]∧(j.length==0)=false∧i.length≤10000∧(decide (k< -2 ^ 63)||decide (k≥2 ^ 63))=false∧(Txt.splitM i j k).length≤1000∧∀ l,H l=none->Q (.ref l) (upd H l (.lst ((Txt.splitM i j k).map .str)))
theorem Mb:gJ X "str.split" ON:=by
 intro pins s σ H x vs v us Q I rx rv h
 obtain⟨i,j,k,rfl,rfl,hj,hi,hk,hlen,q⟩:=h
 obtain⟨t,rfl⟩:=rx
 cases rv with
 | cons r1 rv=>
 cases rv with
 | cons r2 rv=>
 cases rv
 obtain⟨t',rfl⟩:=r1
 obtain⟨t2,rfl⟩:=r2
 have hz:100000<sizeLine:=by decide
 have fin:∀ (its:List ah) (tk:Nat),aV ((Txt.splitM i j k).map V.str) its->EP X pins σ Q (.ref s.heap.objs.size) {s with toks:=tk,heap:=s.heap.push {cls:=.type "list",data:=.seq its.toArray}}:=fun its tk r=>
  ⟨.ref s.heap.objs.size,_,I.laid (t':=tk) (fun b o e=>cL _ e) (cj _) (show cP X.prog X.w _ _ _ (.lst ((Txt.splitM i j k).map .str)) from ⟨by rw[cm];omega,its,_,r,fA _ rfl⟩),rfl,q _ (I.hok.fresh (cj _))⟩
 have one:Txt.splitM i j k=[i]->EP X pins σ Q (.ref s.heap.objs.size) {s with heap:=s.heap.push {cls:=.type "list",data:=.seq [Value.str i t].toArray}}:=fun e=>fin [.str i t] s.toks (by rw[e];exact .cons ⟨t,rfl⟩ .nil)
 by_cases h1:(decide (i.length<j.length)||decide (iT i<iT j))=true
 ·exact gO l7 (kh _ _ _) pI (Bj _ _ _) (meets_str_split_max_cannot_occur i j k t t' t2 hk h1) (one (by unfold Txt.splitM;rw[if_pos h1]))
 ·by_cases h2:(iy i j 0 i.length (tD i k)).isEmpty=true
  ·exact gO l7 (kh _ _ _) pI (Bj _ _ _) (meets_str_split_max_not_found i j k t t' t2 hk (vg _▸h1) hj h2) (one (by unfold Txt.splitM;rw[if_neg h1,if_pos h2]))
  ·have e:Txt.splitM i j k=AN i (iy i j 0 i.length (tD i k)) j.length:=by unfold Txt.splitM;rw[if_neg h1,if_neg h2]
   refine gO l7 (kh _ _ _) pI (Bj _ _ _) (meets_str_split_sep_max i j k t t' t2 hk (Bool.eq_false_iff.mpr h1) hj (Bool.eq_false_iff.mpr h2) (by omega) (by rw[← e];omega)) ?_
   refine fin _ _ ?_
   rw[e]
   exact FQ _ _
variable {O:Ow}{a b c:Expr}{fa fb fc:ag->Option ae}{apos cpos:Pos}
def Fd (d e k:ae):Option (List ae):=(gx d).bind fun i=>(gx e).bind fun j=>(eO k).bind fun k=>if (!(j.length==0)&&(cG i&&(!(decide (k< -2 ^ 63)||decide (k≥2 ^ 63))&&decide ((Txt.splitM i j k).length≤1000))))=true then some ((Txt.splitM i j k).map .str) else none
theorem Ke (ha:PR X O a fa)(hb:PR X O b fb)(hc:PR X O c fc)(hbase:dR a "split" X.env (aB a X.env)=aB a X.env:=by rfl)
  (hfew:((a0 cpos (ax [b,c] X.env)).all (fun x=>!x.1)&&(dS cpos (dY [] X.env)).all (fun x=>x.1.isSome)&&decide ([b,c].length+([]:List df).length+(if ([]:List df).isEmpty then 0 else 1)<30))=true:=by rfl)
  (hline:(apos.endLine==cpos.line)=true:=by rfl) (hst:ax [b,c] X.env=(false,aB b X.env)::ax [c] X.env:=by rfl) (hst2:ax [c] X.env=(false,aB c X.env)::ax [] X.env:=by rfl) (hplain:(a0 cpos (ax [c] X.env)).any (·.1)=false:=by rfl) :
  bL X O (.Call (.Attribute a "split" apos) [b,c] [] cpos) (fun ρ=>(fa ρ).bind fun d=>(fb ρ).bind fun e=>(fc ρ).bind fun k=>Fd d e k):=
 (j3 wc l7 HD Mb ha (pa_cons hb (pa_cons hc pa_nil hst2) hst) hbase hfew hline hst hplain).imp fun σ H Q zpat=>by
  obtain⟨hid,H0,ρ,ow,r,E,hf,q⟩:=zpat
  obtain⟨d,h1,hf⟩:=bind_some hf
  obtain⟨e,h2,hf⟩:=bind_some hf
  obtain⟨kd,h3,hf⟩:=bind_some hf
  obtain⟨i,h4,hf⟩:=bind_some hf
  obtain⟨j,h5,hf⟩:=bind_some hf
  obtain⟨k,h6,h7⟩:=bind_some hf
  split at h7
  case isFalse=>cases h7
  rename_i hc
  simp only[cq,lI] at hc
  cases h7
  rw[gy h4] at h1
  rw[gy h5] at h2
  rw[iO h6] at h3
  refine⟨hid,H0,ρ,ow,_,E,h1,fun x H1 s1 D1=>?_⟩
  rw[dr D1]
  refine⟨rfl,hid,H0,ρ,ow,_,E.mono s1,h2,fun y H2 s2 D2=>⟨hid,H0,ρ,ow,_,(E.mono s1).mono s2,h3,fun z H3 s3 D3=>⟨i,j,k,rfl,by rw[dr D2,eD D3],hc.1,of_decide_eq_true hc.2.1,hc.2.2.1,of_decide_eq_true hc.2.2.2,fun l hl=>?_⟩⟩⟩
  exact q l _ _ (((s1.trans s2).trans s3).trans (cb hl)) (((s1.trans s2).trans s3).free hl) cD (xa _)
end
end L2
namespace L2
def rk (P:r6):List ri->List (Str×Int)->Prop
 | [],[]=>True
 | e::es,kv::kvs=>e.hash=PyData.keyHash P kv.1∧(∃ t,e.key=.str kv.1 t)∧(∃ t,e.val=.int kv.2 t)∧rk P es kvs
 | _,_=>False
inductive kF (K:ao)(w:aM)(x:Str)(kvs:List (Str×Int)):Prop
 | mk (a:af) (o:Obj) (es:Array ri) (ep:Nat) (e:bG K a_ x=some (some (.ref a))) (l:K.lookup a=some o) (c:o.cls=.type "dict") (d:o.dict=none) (s:o.slots=#[]) (dt:o.data=.dict es ep) (en:rk w.params es.toList kvs) (nd:(kvs.map (·.1)).Nodup) (na:(a==jw)=false):kF K w x kvs
theorem kF.of {K:ao}{w:aM}{x:Str}{kvs:List (Str×Int)}(a:af){o:Obj}{es:Array ri}{ep:Nat}(e:bG K a_ x=some (some (.ref a)))(l:K.lookup a=some o)(c:o.cls=.type "dict")(d:o.dict=none)(s:o.slots=#[])(dt:o.data=.dict es ep)(en:rk w.params es.toList kvs)(nd:(kvs.map (·.1)).Nodup)(na:(a==jw)=false):kF K w x kvs:=⟨a,o,es,ep,e,l,c,d,s,dt,en,nd,na⟩
def qi (kvs:List (Str×Int)):List (bt×V):=kvs.map fun kv=>(Sum.inr kv.1,V.int kv.2)
theorem Cw {P:aQ}{w:aM}:∀ {es:List ri} {kvs:List (Str×Int)},rk w.params es kvs->∃ vs,KV (qi kvs) vs∧Pairs (eI P w) es vs∧∀ e∈es,∃ k,(eI P w).is k e.key=true∧e.hash=(eI P w).hash k
 | [],[],_=>⟨[],.nil,.nil,fun _ h=>nomatch h⟩
 | [],_::_,h=>h.elim
 | _::_,[],h=>h.elim
 | e::es,kv::kvs,⟨h1,⟨t,h2⟩,⟨u,h3⟩,h4⟩=>by
  obtain⟨vs,g1,g2,g3⟩:=Cw (P:=P) h4
  refine⟨(Sum.inr kv.1,.int kv.2 u)::vs,.cons ⟨rfl,u,rfl⟩ g1,.cons (by rw[h2];exact xX P w kv.1 t) h3 g2,fun e' h=>?_⟩
  rcases List.mem_cons.mp h with rfl | h
  ·exact⟨Sum.inr kv.1,by rw[h2];exact xX P w kv.1 t,h1⟩
  ·exact g3 e' h
theorem Lw {kvs:List (Str×Int)}(h:(kvs.map (·.1)).Nodup):((qi kvs).map (·.1)).Nodup:=by
 unfold qi
 rw[List.map_map]
 unfold List.Nodup at h ⊢
 rw[List.pairwise_map] at h ⊢
 exact h.imp fun z y=>z (nQ y)
theorem Di (s:Str):∀ kvs:List (Str×Int),fG (qi kvs) (Sum.inr s)=(kvs.lookup s).map V.int
 | []=>rfl
 | (k,i)::kvs=>by
  rw[fJ]
  show fG ((Sum.inr k,V.int i)::qi kvs) (Sum.inr s)=_
  by_cases h:s=k
  ·subst h
   rw[oF rfl,beq_self_eq_true]
   rfl
  ·rw[oE fun z=>h (nQ z).symm,Di s kvs,beq_eq_false_iff_ne.mpr h]
def xQ (kvs:List (Str×Int))(k:ae):Option ae:=(gx k).map fun s=>match kvs.lookup s with
 | some i=>.int i
 | none=>.none
section
variable [Reg]{X:Cx}{O:Ow}{e:Expr}{g:ag->Option ae}{pos p apos cpos:Pos}{x:Str}{kvs:List (Str×Int)}
theorem Sd (D:kF X.K X.w x kvs){a:af}(hm:X.mg x=some (.ref a))(ha:bG X.K a_ x=some (some (.ref a)))(hg:Gl X x)(he:PR X O e g)(hd:(x==("__debug__":Str))=false:=by decide)
  (hbase:dR (.Name x p) "get" X.env (aB (.Name x p) X.env)=aB (.Name x p) X.env:=by rfl)
  (hfew:((a0 cpos (ax [e] X.env)).all (fun x=>!x.1)&&(dS cpos (dY [] X.env)).all (fun x=>x.1.isSome)&&decide (([e]:List Expr).length+([]:List df).length+(if ([]:List df).isEmpty then 0 else 1)<30))=true:=by rfl)
  (hline:(apos.endLine==cpos.line)=true:=by rfl) (htr:a0 cpos (ax [e] X.env)=[(false,aB e X.env)]:=by rfl) :
  PV X O (.Call (.Attribute (.Name x p) "get" apos) [e] [] cpos) (fun ρ=>(g ρ).bind (xQ kvs)):=by
 intro pins s σ H Q I h
 obtain⟨hid,H0,ρ,ow,r,E,hf,q⟩:=h
 obtain⟨kd,h1,hf⟩:=bind_some hf
 obtain⟨ks,h2,rfl⟩:=map_some hf
 obtain⟨a',o,es,ep,e1,l,c,d,sl,dt,en,nd,na⟩:=D
 rw[ha] at e1
 obtain rfl:a=a':=by injection e1 with z;injection z with z;injection z
 obtain⟨vs,v1,v2,v3⟩:=Cw (P:=X.prog) en
 have dd:∀ {s':ar} {H':Hp} {σ':St},Inv X pins σ' H' s'->s'.heap.DictOf (eI X.prog X.w) a vs:=fun {s' H' σ'} I'=>
  ⟨o,es,ep,I'.kIn _ _ l,⟨c,d,sl⟩,dt,fun e he=>v3 e (Array.mem_toList_iff.mpr he),v2,by rw[← v1.keys];exact Lw nd⟩
 refine wpAny_Call_method hbase hfew hline PySem.F.plainAttrs_dict Hv PySem.F.type_dict_get (aP (tW (v:=.ref a) hg hm rfl hd pins s σ H (fun v H'=>v=.ref a∧H'=H) I ⟨rfl,rfl⟩) fun u s1 ⟨y,H1,I1,ry,ey,eH⟩=>?_)
 subst ey eH
 obtain rfl:u=Value.ref a:=ry
 refine⟨(dd I1).typeIs,fun b q=>?_,?_⟩
 ·cases q
  exact⟨o,I1.kIn _ _ l,d⟩
 rw[htr]
 refine vk rfl (vm (AO (aP (he pins s1 σ H1 (fun v H2=>ay H1 H2∧aJ X.K (av H2 hid) v kd) I1 ⟨hid,H0,ρ,ow,kd,E,h1,fun v H2 s2 D2=>⟨s2,D2⟩⟩) fun iv s2 ⟨y,H2,I2,ry,s2',D2⟩=>AQ ?_)))
 rw[gy h2] at D2
 obtain rfl:=dr D2
 have ry':RelV (kV (Sum.inr ks)) iv:=ry
 refine call_meetsIn Hv (dd I2).typeIs PySem.F.entry_dict_get (PySem.F.args_dict_get_2 _ _) (meets_dict_get (eI X.prog X.w) a (qh ry') na) ⟨_,(dd I2).mapOf,?_⟩
 have rel:=(v1.val (Sum.inr ks)).getD (d:=.non) (d':=.none) rfl
 rw[Di] at rel
 refine⟨_,H2,I2.tok _,rel,q _ H2 s2' ?_⟩
 cases kvs.lookup ks with
 | some i=>exact .int i
 | none=>exact .non
end
end L2
namespace L2
variable [Reg]
def qA (key:Str)(x:ae):List ae->List ae->List ae
 | .str n::ns,d::ds=>(if n=key then x else d)::qA key x ns ds
 | _,_=>[]
def Cu (key:Str)(x d:ae):Option ae:=if (p_ d&&decide ((jf d).length≤15))=true then some (if k9 key (jf d)=true then iQ (jf d) (qA key x (jf d) (pS d)) else iQ (jf d++[.str key]) (pS d++[x])) else none
theorem has_any {key:Str}:∀ {kvs:List (bt×V)} {ks:List Str},kvs.map (·.1)=ks.map Sum.inr->(kvs.any fun kv=>decide (kv.1=(Sum.inr key:bt)))=k9 key (ks.map .str):=fun {kvs ks} h=>by
 rw[zT]
 exact xE h
theorem Ei {K:ao}{H:Hp}{key:Str}{x:ae}{v:V}(Dv:aJ K H v x):∀ {kvs:List (bt×V)} {ks:List Str} {ds:List ae},kvs.map (·.1)=ks.map Sum.inr->aD K H (kvs.map (·.2)) ds ->
  (kvs.map (fun kv=>if kv.1=(Sum.inr key:bt) then (kv.1,v) else kv)).map (·.1)=ks.map Sum.inr∧aD K H ((kvs.map (fun kv=>if kv.1=(Sum.inr key:bt) then (kv.1,v) else kv)).map (·.2)) (qA key x (ks.map .str) ds)
 | [],[],_,_,_=>⟨rfl,.nil⟩
 | [],_::_,_,h,_=>by cases h
 | _::_,[],_,h,_=>by cases h
 | (k,w)::kvs,n::ks,[],_,D=>by cases D
 | (k,w)::kvs,n::ks,d::ds,h,D=>by
  obtain⟨h1,h2⟩:=kI h
  have h1':k=Sum.inr n:=h1
  subst h1'
  rw[bV] at D
  cases D with
  | cons D1 D2=>
   obtain⟨a,b⟩:=Ei (key:=key) Dv h2 D2
   show _∧aD K H _ ((if n=key then x else d)::qA key x (ks.map .str) ds)
   rw[bV]
   by_cases hn:n=key
   ·subst hn
    rw[if_pos rfl,if_pos rfl]
    exact⟨by rw[bV,bV,a],.cons Dv b⟩
   ·rw[if_neg hn,if_neg fun z=>hn (nQ z)]
    exact⟨by rw[bV,bV,a],.cons D1 b⟩
theorem Oz {K:ao}{H:Hp}{key:Str}{x:ae}{v:V}(Dv:aJ K H v x){kvs:List (bt×V)}{ks:List Str}{ds:List ae}(h:kvs.map (·.1)=ks.map Sum.inr)(D:aD K H (kvs.map (·.2)) ds) :
  ∃ ks' ds',(fm kvs (Sum.inr key) v).map (·.1)=ks'.map Sum.inr∧aD K H ((fm kvs (Sum.inr key) v).map (·.2)) ds'∧(if k9 key (ks.map .str)=true then iQ (ks.map .str) (qA key x (ks.map .str) ds) else iQ (ks.map .str++[.str key]) (ds++[x]))=mv ks' ds':=by
 unfold fm
 rw[has_any h]
 by_cases hh:k9 key (ks.map .str)=true
 ·rw[if_pos hh,if_pos hh]
  obtain⟨a,b⟩:=Ei (key:=key) Dv h D
  exact⟨ks,_,a,b,rfl⟩
 ·rw[if_neg hh,if_neg hh]
  refine⟨ks++[key],ds++[x],by rw[jF,jF,h];rfl,by rw[jF];exact D.append (.cons Dv .nil),?_⟩
  unfold iQ mv
  rw[jF]
  rfl
section
variable {X:Cx}{O:Ow}{e b:Expr}{fe fb:ag->Option ae}{i k:Nat}{x f cls:Str}{ns:List Str}{ts:List Ty}{oa:Option af}{p ap pos pos':Pos}
def Eh (i k:Nat)(cls:Str)(ns:List Str)(fb fe:ag->Option ae)(ρ:ag):Option aA:=(fe ρ).bind fun d'=>((ρ[i]?).join.bind fg).bind fun ds=>((fb ρ).bind gx).bind fun key=>(ds[k]?.bind (Cu key d')).map fun d2=>.nx (ρ.set i (some (gw cls ns (ds.set k d2))))
theorem Pc {ms:List Str}(hu:X.A.units+64<cLine)(hC:iB X.K cls f)(hx:PE X (.Name x p) (dG i))(hb:PR X O b fb)(he:PV X O e fe)(hO:O.s.lookup i=some (.rc oa cls ns ts):=by rfl)(hk:ts[k]?=some (.dc none ms):=by rfl)(hf:ns[k]?=some f:=by rfl)(hnd:ns.Nodup:=by decide +kernel)
  (hb1:dR (.Name x p) f X.env (aB (.Name x p) X.env)=aB (.Name x p) X.env:=by rfl)
  (hs:dF e (some (.Subscript (.Attribute (.Name x p) f ap) b pos')) pos.line X.env=aN false:=by rfl) :
  cR X O (.Assign [.Subscript (.Attribute (.Name x p) f ap) b pos'] e pos) (Eh i k cls ns fb fe):=(Oj (uP hu) (yg hx hb1) hb he hs).imp fun D σ H zpat=>by
 obtain⟨hid,H0,ρ,ow,o,E0,hf',q⟩:=zpat
 obtain⟨d',g1,hf'⟩:=bind_some hf'
 obtain⟨ds,g2,hf'⟩:=bind_some hf'
 obtain⟨key,g3,hf'⟩:=bind_some hf'
 obtain⟨d2,g4,rfl⟩:=map_some hf'
 obtain⟨kd,g5,g6⟩:=bind_some g3
 obtain⟨d0,g7,g8⟩:=bind_some g4
 refine⟨hid,H0,ρ,ow,d',E0,g1,fun y H1 s1 Dy=>?_⟩
 have E:=E0.mono s1
 obtain⟨a,D',dx,fs,w,d,bs,h1,h2,h3,h4,h5,h6,h7,h8,h9,put⟩:=E.putFld hO g2 hk hf hnd
 rw[g7] at h7
 obtain rfl:=aE h7
 obtain⟨c1,c2⟩:=hC D' h3
 unfold Cu at g8
 split at g8
 case isFalse=>cases g8
 rename_i hdc
 rw[cq] at hdc
 cases h8 with
 | non=>cases hdc.1
 | @dc _ _ ks l kvs es ho hl qd=>
  have hlen:ks.length≤15:=by
   have:=of_decide_eq_true hdc.2
   rw[show jf (mv ks es)=ks.map .str from rfl,cm] at this
   exact this
  refine⟨.ref a,h1,a,D',dx,fs,.ref l,rfl,h2,c1,c2,h4,hid,H0,ρ,ow,kd,E,g5,fun z H2 s2 Dk=>?_⟩
  rw[gy g6] at Dk
  obtain rfl:=dr Dk
  have hkl:kvs.length<sizeLine:=by
   have e:=congrArg rS hl.2
   rw[cm,cm] at e
   rw[e]
   exact kJ hlen (by decide)
  have hl2:H2 l=some (.dK kvs):=s2 _ _ hl.1
  refine⟨l,_,rfl,lJ.k (k:=Sum.inr key) hl2 hkl,?_⟩
  have hla:l≠a:=(h9 l bQ).2
  have hlo:l∈ow:=(h9 l bQ).1
  obtain⟨ks',ds',p1,p2,p3⟩:=Oz (key:=key) (Dy.mono (aZ s2 _)) hl.2 (qd.mono (aZ s2 _))
  have e8:d2=mv ks' ds':=by
   have:=aE g8
   rw[← this,← p3]
   rfl
  subst e8
  have cln:∀ ow':List af,(∀ b,b∈ow'->b∈ow∨b∈[l])->ay (av H2 (uni hid ow)) (av (upd H2 l (.dK (fm kvs (Sum.inr key) y))) (uni hid ow')):=fun ow' z1 b o z=>by
   by_cases hb:uni hid ow b
   ·rw[dy hb] at z;cases z
   ·rw[bE hb] at z
    have hbl:b≠l:=fun y=>hb (.inr (y▸hlo))
    rw[bE fun y=>?_,ba hbl]
    ·exact z
    ·rcases y with y | y
     ·exact hb (.inl y)
     ·rcases z1 b y with y | y
      ·exact hb (.inr y)
      ·exact hbl (List.mem_singleton.mp y)
  have hfs:(fs.map (·.1))[k]?=some f∧(fs.map (·.2))[k]?=some (.ref l):=by
   obtain⟨A,EA,a',D2,dx2,fs2,as,hv,ho,hA,hH,hn,hfs,qq,_⟩:=E.recAt hO g2
   rw[h1] at hv
   cases hv
   rw[h2] at hH
   cases hH
   refine⟨by rw[hfs];exact hf,?_⟩
   obtain⟨w2,d2,_,_,hw2,_,_,_⟩:=qq.put hk
   have:=sT (by rw[hfs];exact hf) (by rw[hfs];exact hnd) hw2
   rw[h4] at this
   rw[hw2,← aE this]
  have hA1:upd H2 l (.dK (fm kvs (Sum.inr key) y)) a=some (.ins D' dx (fs.set k (f,.ref l))):=by
   rw[ba (cn hla),EY hfs.1 hfs.2]
   exact s2 _ _ h2
  obtain⟨ow',e1,e2⟩:=put (upd H2 l (.dK (fm kvs (Sum.inr key) y))) [l] (.ref l) (mv ks' ds') (fun b o hb _ z=>by rw[ba fun y=>hb (List.mem_singleton.mpr y)];exact s2 b o z) (fun _ z=>.inl z) hA1 fun ow' z1 _ _ _=>.dc (fun b z=>nomatch z) ⟨cD,p1⟩ (p2.mono (cln ow' z1))
  exact q σ _ ow' ((aZ s1 _).trans e2) e1
theorem Ki {ms:List Str}:fB X O (.dc none ms) (.Dict [] [] pos) (fun _=>some (iQ [] [])):=NR.imp fun σ H Q zpat=>by
 obtain⟨hid,H0,ρ,ow,r,E,hf,q⟩:=zpat
 obtain rfl:=aE hf
 intro l hl
 exact q (.ref l) [l] _ (cb hl) (fun p hp=>by rw[List.mem_singleton.mp hp];exact hl) (.dc (ks:=[]) (kvs:=[]) (fun b z=>nomatch z) ⟨cD,rfl⟩ .nil)
end
section
variable {X:Cx}{O:Ow}{a:Expr}{es:List Expr}{fs:ag->Option (List ae)}{i k:Nat}{x m cls:Str}{ns ps:List Str}{ts:List Ty}{oa:Option af}{F:List ae->Option (ae×ae)}{p apos cpos pos:Pos}{pl:Sem Bool}
theorem aK.lendRv {K:ao}{hid:af->Prop}{H0 H:Hp}{σ:St}{ρ:ag}{ow:List af}(E:aK K O hid H0 σ H ρ ow){d0:ae}{ds:List ae}{us:List V}{r:ae×ae}{b:af}(hO:O.s.lookup i=some (.rc oa cls ns ts))(hρ:(ρ[i]?).join=some d0)(hd:(fg d0).isSome=true)(hb:σ[i]?=some (some (.ref b)))(Du:aD K (av H (uni hid ow)) us ds)(hF:F (d0::ds)=some r){Q:VK}
  (k:∀ v H' ow',ay (av H (uni hid ow)) (av H' (uni hid ow'))->aK K O hid H0 σ H' (ρ.set i (some r.2)) ow'->aJ K (av H' (uni hid ow')) v r.1->Q v H'):pL K cls ns ts ns ts F (.ref b::us) H Q:=by
 obtain⟨A,EA⟩:=E.own
 have hj:=join_some hρ
 obtain⟨v,hv,D0⟩:=EA.1 i _ d0 hO hj
 rw[hb] at hv
 obtain rfl:=aE (aE hv)
 have a3:=EA.2.2 i
 have ho:∀ c,oa=some c->c=b:=by
  generalize A i=Ai at D0
  cases D0 with
  | rc ho _ _ _ _ _=>exact ho
 have nh:∀ q,hid q->q∉A i:=fun q z y=>(E.isl q (a3 q y)).2 z
 have eu:uni (fun q=>uni hid ow q∧q∉A i) (A i)=uni hid ow:=by
  funext q
  apply propext
  constructor
  ·rintro (z | z)
   ·exact z.1
   ·exact .inr (a3 q z)
  ·intro z
   by_cases y:q∈A i
   ·exact .inr y
   ·exact .inl ⟨z,y⟩
 refine⟨fun q=>uni hid ow q∧q∉A i,b,A i,us,d0,ds,r,rfl,fun q z=>E.uniL q z.1,fun q z y=>y.2 z,by rw[eu];exact D0.rcTo (fun c z=>nomatch z),by rw[eu];exact Du,hF,fun v as' H' s n D' Dv=>?_⟩
 have eu2:uni (fun q=>uni hid ow q∧q∉A i) as'=uni hid (as'++dD ow (A i)):=by
  funext q
  apply propext
  unfold uni
  simp only[fK,iP]
  constructor
  ·rintro (⟨z | z,y⟩ | z)
   ·exact .inl z
   ·exact .inr (.inr ⟨z,y⟩)
   ·exact .inr (.inl z)
  ·rintro (z | z | ⟨z,y⟩)
   ·exact .inl ⟨.inl z,nh q z⟩
   ·exact .inr z
   ·exact .inl ⟨.inr z,y⟩
 rw[eu2] at D' Dv
 obtain⟨e1,e2⟩:=E.tree EA hO (List.getElem?_eq_some_iff.mp hj).1 hb s n (D'.rcTo ho)
 exact k v H' _ e2 e1 Dv
end
section
variable {X:Cx}{O:Ow}{l:af}{cls:Str}{ns:List Str}{ts:List Ty}{c:Expr}{body rest:List aG}{F G:ag->Option aA}{ft:ag->Option Bool}{pos p apos cpos:Pos}{a:Expr}{es:List Expr}{fs:ag->Option (List ae)}{k:Nat}{x m:Str}{ps:List Str}{FR:List ae->Option (ae×ae)}{pl:Sem Bool}
theorem ux (hc:fT X O c ft)(hr:hW X O l cls ns ts rest G):hW X O l cls ns ts (.If c body [] pos::rest) (fun ρ=>bu (ft ρ) none (G ρ)):=by
 have hb:dw X body (fun _ _ _=>False):=fun pins s σ H D I h=>cV h
 refine (mL (qw hc hb qy) hr).imp fun D σ H zpat=>?_
 obtain⟨hid,H0,ρ,ow,o,E,hf,d,s,rfl,k⟩:=zpat
 obtain⟨b,g1,g2⟩:=bind_some hf
 refine⟨hid,H0,ρ,ow,b,E,g1,fun H' s'=>?_⟩
 cases b with
 | true=>rw[if_pos rfl] at g2;cases g2
 | false=>rw[if_neg dH] at g2 ⊢;exact⟨hid,H0,ρ,ow,_,E.mono s',g2,d,s,rfl,k⟩
inductive BK (K:ao)(a:af)(cls:Str)(ns:List Str)(ts:List Ty)(hid:af->Prop)(H0:Hp)(D:fw)(o:aA):Prop
 | mk (d s:ae) (e:o=.rt (.tuple [d,s])) (k:∀ v as H',ay H0 H'->(∀ p∈as,H0 p=none)->bg K H' (av H' (uni hid as)) (.rc none cls ns ts) (.ref a) s as->aJ K (av H' (uni hid as)) v d->D.rt v H'):BK K a cls ns ts hid H0 D o
def Rq (K:ao)(O:Ow)(a:af)(cls:Str)(ns:List Str)(ts:List Ty)(F:ag->Option aA):TS:=fun D σ H=>dA K O F σ H fun hid H0 ρ ow o=>BK K a cls ns ts hid H0 D o
abbrev Bf (X:Cx)(O:Ow)(a:af)(cls:Str)(ns:List Str)(ts:List Ty)(sts:List aG)(F:ag->Option aA):Prop:=dw X sts (Rq X.K O a cls ns ts F)
theorem Fh (hc:fT X O c ft)(ha:Bf X O l cls ns ts body F)(hr:hW X O l cls ns ts rest G):hW X O l cls ns ts (.If c body [] pos::rest) (fun ρ=>bu (ft ρ) (F ρ) (G ρ)):=(mL (qw hc ha qy) hr).imp fun D σ H zpat=>by
 obtain⟨hid,H0,ρ,ow,o,E,hf,d,s,rfl,k⟩:=zpat
 obtain⟨b,g1,g2⟩:=bind_some hf
 refine⟨hid,H0,ρ,ow,b,E,g1,fun H' s'=>?_⟩
 cases b with
 | true=>
  rw[if_pos rfl] at g2 ⊢
  exact⟨hid,H0,ρ,ow,_,E.mono s',g2,d,s,rfl,fun v as H2 z1 z2 z3 z4=>(k v as H2 z1 z2 z3 z4).1⟩
 | false=>rw[if_neg dH] at g2 ⊢;exact⟨hid,H0,ρ,ow,_,E.mono s',g2,d,s,rfl,k⟩
def yw (F:List ae->Option (ae×ae))(fs:ag->Option (List ae))(ρ:ag):Option aA:=((ρ[0]?).join.bind fg).bind fun _=>((ρ[0]?).join).bind fun d0=>(fs ρ).bind fun ds=>(F (d0::ds)).bind fun r=>mP r.1 (ρ.set 0 (some r.2))
theorem Fi (G:gD X.prog X.w X.K X.mg X.base k cls m ps ns ts FR)(hr:bC k X.A)(hx:PE X (.Name x p) (dG 0))(ha:fS X O (a::es) fs)(hO:O.s.lookup 0=some (.rc (some l) cls ns ts):=by rfl)(hm:ns.contains m=false:=by decide +kernel)
  (hst:ax (a::es) X.env=(false,aB a X.env)::ax es X.env:=by rfl) (hpl:(a0 cpos (ax es X.env)).any (·.1)=false:=by rfl)
  (ht:aB (.Call (.Attribute (.Name x p) m apos) (a::es) [] cpos) X.env=(do
   let ov ← aB (.Name x p) X.env
   jv apos.atName
   let (f,first) ← jm [ov] (jk ov m pl)
   jT cpos f first (a0 cpos (ax (a::es) X.env)) (dS cpos (dY [] X.env))):=by rfl) :
  Bf X O l cls ns ts [.Return (some (.Call (.Attribute (.Name x p) m apos) (a::es) [] cpos)) pos] (yw FR fs):=by
 obtain⟨C,f,fd,c,hm',g1,g2,g3⟩:=G
 exact (qz (mK (tY (pl:=pl) hx c hm' g1 hr g3 .nil js ha hst hpl ht))).imp fun D σ H zpat=>by
  obtain⟨hid,H0,ρ,ow,o,E,hf,d,s,e9,q⟩:=zpat
  obtain⟨fd0,e0,hf⟩:=bind_some hf
  obtain⟨d0,e1,hf⟩:=bind_some hf
  obtain⟨ds,e2,hf⟩:=bind_some hf
  obtain⟨r,e3,e4⟩:=bind_some hf
  obtain⟨A,EA,b,D',dx,fs',as,hv,ho,hA,hH,hn,hfs,_,_,_⟩:=E.recAt hO e0
  rw[g2] at hn
  obtain rfl:C=D':=by injection hn with z;injection z with z;injection z
  refine⟨.ref b,hv,b,dx,fs',rfl,hH,tH (by rw[hfs];exact hm),hid,H0,ρ,ow,ds,E,e2,fun us H1 s1 D1=>?_⟩
  dsimp only
  rw[e6]
  have hd:(fg d0).isSome=true:=by
   rw[e1,bW] at e0
   rw[e0]
   rfl
  refine (E.mono s1).lendRv hO e1 hd hv D1 e3 fun v H' ow' s2 E2 Dv=>?_
  obtain⟨s',as',e5,ha',D0⟩:=E2.selfAt (s:=s) hO e4
  rw[e5] at e9
  injection e9 with e9
  injection e9 with e9
  injection e9 with e9 e8
  injection e8 with e8 _
  subst e9 e8
  exact q v as' H' E2.baseS (fun p hp=>E2.ow0 (ha' p hp)) (D0.mono (cN fun b z=>z.imp id fun y=>ha' b y) fun p _ o z=>z) (Dv.mono (cN fun b z=>z.imp id fun y=>ha' b y))
end
end L2
namespace L2
variable [Reg]
def RD (K:ao)(O:Ow)(f:ag->Option (ae×ag)):TE:=fun σ H Q=>dA K O f σ H fun hid H0 ρ ow r=>∀ v H' ow',aK K O hid H0 σ H' r.2 ow'->ay (av H (uni hid ow)) (av H' (uni hid ow'))->aJ K (av H' (uni hid ow')) v r.1->Q v H'
abbrev pE (X:Cx)(O:Ow)(e:Expr)(f:ag->Option (ae×ag)):Prop:=PE X e (RD X.K O f)
def qP (K:ao)(O:Ow)(f:ag->Option (Bool×ag)):TT:=fun σ H Q=>dA K O f σ H fun hid H0 ρ ow r=>∀ H' ow',aK K O hid H0 σ H' r.2 ow'->ay (av H (uni hid ow)) (av H' (uni hid ow'))->Q r.1 H'
section
variable {X:Cx}{O:Ow}{a b c:Expr}{es:List Expr}{fs:ag->Option (List ae)}{i k:Nat}{x m cls:Str}{ns ps:List Str}{ts:List Ty}{oa:Option af}{F:List ae->Option (ae×ae)}{p apos cpos pos:Pos}{pl:Sem Bool}{fb:ag->Option ae}
def j0 (i:Nat)(F:List ae->Option (ae×ae))(fs:ag->Option (List ae))(ρ:ag):Option (ae×ag):=((ρ[i]?).join.bind fg).bind fun _=>((ρ[i]?).join).bind fun d0=>(fs ρ).bind fun ds=>(F (d0::ds)).map fun r=>(r.1,ρ.set i (some r.2))
theorem z9 (G:gD X.prog X.w X.K X.mg X.base k cls m ps ns ts F)(hr:bC k X.A)(hx:PE X (.Name x p) (dG i))(ha:fS X O (a::es) fs)(hO:O.s.lookup i=some (.rc oa cls ns ts):=by rfl)(hm:ns.contains m=false:=by decide +kernel)
  (hst:ax (a::es) X.env=(false,aB a X.env)::ax es X.env:=by rfl) (hpl:(a0 cpos (ax es X.env)).any (·.1)=false:=by rfl)
  (ht:aB (.Call (.Attribute (.Name x p) m apos) (a::es) [] cpos) X.env=(do
   let ov ← aB (.Name x p) X.env
   jv apos.atName
   let (f,first) ← jm [ov] (jk ov m pl)
   jT cpos f first (a0 cpos (ax (a::es) X.env)) (dS cpos (dY [] X.env))):=by rfl) :
  pE X O (.Call (.Attribute (.Name x p) m apos) (a::es) [] cpos) (j0 i F fs):=by
 obtain⟨C,f,fd,c,hm',g1,g2,g3⟩:=G
 exact (tY (pl:=pl) hx c hm' g1 hr g3 .nil js ha hst hpl ht).imp fun σ H Q zpat=>by
  obtain⟨hid,H0,ρ,ow,o,E,hf,q⟩:=zpat
  obtain⟨fd0,e0,hf⟩:=bind_some hf
  obtain⟨d0,e1,hf⟩:=bind_some hf
  obtain⟨ds,e2,hf⟩:=bind_some hf
  obtain⟨r,e3,rfl⟩:=map_some hf
  obtain⟨A,EA,b,D',dx,fs',as,hv,ho,hA,hH,hn,hfs,_,_,_⟩:=E.recAt hO e0
  rw[g2] at hn
  obtain rfl:C=D':=by injection hn with z;injection z with z;injection z
  refine⟨.ref b,hv,b,dx,fs',rfl,hH,tH (by rw[hfs];exact hm),hid,H0,ρ,ow,ds,E,e2,fun us H1 s1 D1=>?_⟩
  dsimp only
  rw[e6]
  have hd:(fg d0).isSome=true:=by
   rw[e1,bW] at e0
   rw[e0]
   rfl
  exact (E.mono s1).lendRv hO e1 hd hv D1 e3 fun v H' ow' s2 E2 Dv=>q v H' ow' E2 ((aZ s1 _).trans s2) Dv
theorem SU {op:gh}{g:ae->ae->Option ae}{fa:ag->Option (ae×ag)}(C:eM X op g)(ha:pE X O a fa)(hb:PR X O b fb)(h1:op≠.In:=by decide)(h2:op≠.NotIn:=by decide):pE X O (.Compare a [op] [b] pos) (di g fa fb):=by
 obtain⟨rd,ho,hs⟩:=C.ex
 exact (yf ho ha hb (tM b h1 h2)).imp fun σ H Q zpat=>by
  obtain⟨hid,H0,ρ,ow,r,E,hf,k⟩:=zpat
  obtain⟨r1,h1,h2⟩:=bind_some hf
  obtain⟨y1,h3,h4⟩:=bind_some h2
  obtain⟨d,h5,rfl⟩:=map_some h4
  exact⟨hid,H0,ρ,ow,r1,E,h1,fun x H1 ow1 E1 s1 D1=>⟨hid,H0,r1.2,ow1,y1,E1,h3,fun y H2 s2 D2=>hs x y H2 _ _ _ Q ((D1.mono (aZ s2 _)).mono (bH _ _)) (D2.mono (bH _ _)) h5 fun v S=>k v H2 ow1 (E1.mono s2) (s1.trans (aZ s2 _)) S.den⟩⟩
theorem FI {op:gh}{g:ae->ae->Option ae}{fa:ag->Option (ae×ag)}(C:eM X op g)(ha:pE X O a fa)(hb:PR X O b fb)(h1:op≠.In:=by decide)(h2:op≠.NotIn:=by decide):PT X (.Compare a [op] [b] pos) (qP X.K O (fun ρ=>uJ (di g fa fb ρ))):=by
 obtain⟨rd,ho,hs⟩:=C.ex
 refine (yp ho ha hb (tM b h1 h2)).imp fun σ H Q zpat=>?_
 obtain⟨hid,H0,ρ,ow,r,E,hf,q⟩:=zpat
 obtain⟨r0,hf,h4⟩:=bind_some hf
 obtain⟨r1,h1,h2⟩:=bind_some hf
 obtain⟨y1,h3,h50⟩:=bind_some h2
 obtain⟨d,h5,rfl⟩:=map_some h50
 obtain⟨c,h6,rfl⟩:=map_some h4
 refine⟨hid,H0,ρ,ow,r1,E,h1,fun x H1 ow1 E1 s1 D1=>⟨hid,H0,r1.2,ow1,y1,E1,h3,fun y H2 s2 D2=>hs x y H2 _ _ _ _ ((D1.mono (aZ s2 _)).mono (bH _ _)) (D2.mono (bH _ _)) h5 fun v S=>?_⟩⟩
 have D:=S.den (K:=X.K) (H:=H2)
 rw[show d=.bool c from jQ h6] at D
 exact⟨c,iK D,q H2 ow1 (E1.mono s2) (s1.trans (aZ s2 _))⟩
def yd (x:Option (Bool×ag))(gb:ag->Option (Bool×ag)):Option (Bool×ag):=x.bind fun r=>if r.1=true then some (true,r.2) else gb r.2
theorem RW {ga gb:ag->Option (Bool×ag)}(ha:PT X a (qP X.K O ga))(hb:PT X b (qP X.K O gb)):PT X (.BoolOp .Or [a,b] pos) (qP X.K O (fun ρ=>yd (ga ρ) gb)):=
 ((El ha (Em hb)).pt).imp fun σ H Q zpat=>by
  obtain⟨hid,H0,ρ,ow,k,E,hf,q⟩:=zpat
  obtain⟨c,h1,h2⟩:=bind_some hf
  refine⟨hid,H0,ρ,ow,c,E,h1,fun H1 ow1 E1 s1=>?_⟩
  by_cases hc:c.1=true
  ·rw[if_pos hc] at h2 ⊢;cases h2;exact q H1 ow1 E1 s1
  ·rw[if_neg hc] at h2 ⊢
   exact⟨hid,H0,c.2,ow1,k,E1,h2,fun H2 ow2 E2 s2=>q H2 ow2 E2 (s1.trans s2)⟩
theorem Pb {sa sb:List aG}{ga:ag->Option (Bool×ag)}{G1 G2:ag->Option aA}(hc:PT X c (qP X.K O ga))(ha:fL X O sa G1)(hb:fL X O sb G2):cR X O (.If c sa sb pos) (fun ρ=>CW (ga ρ) G1 G2):=(qw hc ha hb).imp fun D σ H zpat=>by
 obtain⟨hid,H0,ρ,ow,o,E,hf,k⟩:=zpat
 obtain⟨c,g1,g2⟩:=bind_some hf
 refine⟨hid,H0,ρ,ow,c,E,g1,fun H' ow' E' s=>?_⟩
 by_cases hc:c.1=true
 ·rw[if_pos hc] at g2 ⊢;exact⟨hid,H0,c.2,ow',o,E',g2,k.weak s⟩
 ·rw[if_neg hc] at g2 ⊢;exact⟨hid,H0,c.2,ow',o,E',g2,k.weak s⟩
def wJ (x:Option (ae×ag))(fb:ag->Option ae):Option ae:=x.bind fun r=>(ja r.1).bind fun c=>if c=true then fb r.2 else some (.bool false)
theorem Pd {fa:ag->Option (ae×ag)}{apos:Pos}(ha:pE X O a fa)(hb:PR X O b fb)(hr:O.r=.cl:=by rfl):cR X O (.Return (some (.BoolOp .And [a,b] apos)) pos) (fun ρ=>(wJ (fa ρ) fb).map .rt):=(mK (D7 ha (Eb hb))).imp fun D σ H zpat=>by
 obtain⟨hid,H0,ρ,ow,o,E,hf,k⟩:=zpat
 obtain⟨d,g1,rfl⟩:=map_some hf
 obtain⟨r,g2,g3⟩:=bind_some g1
 obtain⟨c,g4,g5⟩:=bind_some g3
 refine⟨hid,H0,ρ,ow,r,E,g2,fun v H' ow' E' s Dv=>?_⟩
 rw[show r.1=.bool c from jQ g4] at Dv
 refine⟨c,iK Dv,?_⟩
 by_cases hc:c=true
 ·rw[if_pos hc] at g5 ⊢
  exact⟨hid,H0,r.2,ow',d,E',g5,fun v H2 s2 D2=>k v [] H2 (E'.baseS.trans s2) (fun p hp=>by cases hp) (by rw[hr,lC];exact .cl D2)⟩
 ·rw[if_neg hc] at g5 ⊢
  obtain rfl:=aE g5
  exact k _ [] H' E'.baseS (fun p hp=>by cases hp) (by rw[hr,lC];exact .cl (.bl false))
end
end L2
namespace L2
variable [Reg]
def jZ (a b:Str):Bool:=ltCps a.cps.toList b.cps.toList
def zA:List Str->Option (List Str)
 | []=>some []
 | [a]=>some [a]
 | [a,b]=>if (jZ a b&&!jZ b a)=true then some [a,b] else if (jZ b a&&!jZ a b)=true then some [b,a] else none
 | _=>none
theorem Qs {ss ss' r:List Str}(h:zA ss=some r)(p:ss'.Perm ss)(q:sortedS ss'=true):ss'=r:=by
 have hl:=p.length_eq
 match ss,h with
 | [],h=>
  cases h
  exact List.perm_nil.mp p
 | [a],h=>
  cases h
  exact List.perm_singleton.mp p
 | [a,b],h=>
  match ss',hl with
  | [x,y],_=>
  have q':jZ y x=false:=by
   have:sortedS [x,y]=!(ltCps y.cps.toList x.cps.toList):=by simp[sortedS,risingS]
   rw[this] at q
   exact (lI _).mp q
  have m1:x∈[a,b]:=p.subset bQ
  have m2:y∈[a,b]:=p.subset (bP _ bQ)
  have m3:a∈[x,y]:=p.symm.subset bQ
  have m4:b∈[x,y]:=p.symm.subset (bP _ bQ)
  have hxy:(x=a∧y=b)∨(x=b∧y=a):=by
   simp only[nv,dC,or_false] at m1 m2 m3 m4
   rcases m1 with z | z <;> rcases m2 with z2 | z2 <;> rcases m3 with z3 | z3 <;> rcases m4 with z4 | z4 <;> subst_vars <;> simp
  have h:(if (jZ a b&&!jZ b a)=true then some [a,b] else if (jZ b a&&!jZ a b)=true then some [b,a] else none)=some r:=h
  split at h
  ·rename_i hc
   rw[cq,lI] at hc
   cases h
   rcases hxy with ⟨rfl,rfl⟩ | ⟨rfl,rfl⟩
   ·rfl
   ·rw[hc.1] at q';cases q'
  ·split at h
   ·rename_i hc
    rw[cq,lI] at hc
    cases h
    rcases hxy with ⟨rfl,rfl⟩ | ⟨rfl,rfl⟩
    ·rw[hc.1] at q';cases q'
    ·rfl
   ·cases h
theorem Fp:∀ {vs:List ah} {ss:List Str},StrsAre vs ss->aV (ss.map V.str) vs
 | _,_,.nil=>.nil
 | _,_,.cons y t h=>.cons ⟨t,rfl⟩ (Fp h)
section
variable {X:Cx}{O:Ow}{e:Expr}{f:ag->Option ae}{pos p:Pos}
theorem Dd {P:aQ}{w:aM}:∀ {kvs:List (bt×ah)} {acc:List ah} {ks:List Str},kvs.map (·.1)=ks.map Sum.inr->acc.length=kvs.length->(∀ (j:Nat) (v:ah),acc[j]?=some v->∃ k x,kvs[j]?=some (k,x)∧(eI P w).is k v=true)->StrsAre acc ks
 | [],[],[],_,_,_=>.nil
 | [],_::_,_,_,h,_=>by cases h
 | _::_,[],_,_,h,_=>by cases h
 | [],_,_::_,h,_,_=>by cases h
 | _::_,_,[],h,_,_=>by cases h
 | (k,x)::kvs,v::acc,n::ks,h,hl,hi=>by
  obtain⟨h1,h2⟩:=kI h
  have h1':k=Sum.inr n:=h1
  subst h1'
  obtain⟨k',x',e1,e2⟩:=hi 0 v rfl
  have e1:(Sum.inr n,x)=(k',x'):=aE e1
  injection e1 with e1 e3
  subst e1
  have e2:mE (Sum.inr n) v=true:=e2
  rcases jr e2 with ⟨i,t,z,_⟩ | ⟨y,t,z,rfl⟩
  ·cases z
  ·obtain rfl:=nQ z
   exact .cons n t (Dd h2 (Nat.succ.inj hl) fun j v' hv=>hi (j+1) v' hv)
theorem IY (hc:X.calm=true):eY X (.builtin "sorted") (fun xs H Q=>∃ (a:af) (kvs:List (bt×V)) (ks r:List Str),xs=[.ref a]∧lK H a kvs ks∧zA ks=some r∧∀ l,H l=none->Q (.ref l) (upd H l (.lst (r.map V.str)))):=by
 intro pins s σ H xs us Q I r h
 obtain⟨a,kvs,ks,rs,rfl,hv,hs,k⟩:=h
 obtain⟨u,rfl,rx⟩:=vals1 r
 obtain rfl:u=Value.ref a:=rx
 obtain⟨z,hd,vs,rel,dd⟩:=Cs I.hok hv.1
 obtain⟨ep,da⟩:=dd.dictAt
 have hlen2:ks.length≤2:=by
  match ks,hs with
  | [],_=>decide
  | [_],_=>exact nz 1
  | [_,_],_=>exact cj 2
 have hkeys:vs.map (·.1)=ks.map Sum.inr:=by rw[← rel.keys];exact hv.2
 have hvl:vs.length=ks.length:=by have:=congrArg rS hkeys;rw[cm,cm] at this;exact this
 refine Calls.call_function_entry kind_sorted plain_sorted entry_sorted (args_sorted1 _) ?_
 unfold kq.«sorted»
 have hz:(64:Nat)≤sizeLine:=by decide
 refine aU (m:=checkCount "sorted" 1 1 _) (bU (aU (PySem.W.kdu_collect (PySem.W.kdl_dict (knd:=eI X.prog X.w) (kvs:=vs) hd) (I.ok.hd hc) da (by omega) fun h' tk acc hk hi=>?_)))
 obtain⟨i1,i2⟩:=hi
 have hst:StrsAre acc.toList ks:=Dd (P:=X.prog) (w:=X.w) hkeys (by rw[gC];exact i1) fun j v hj=>i2 j v (by rw[← u0];exact hj)
 have hal:acc.toList.length<64:=by rw[gC,i1];omega
 refine aU (wpAny_newList ?_ (by omega))
 have g:(h'.push (uu "list" acc.toList.toArray 0)).get? h'.objs.size=some (uu "list" acc.toList.toArray 0):=fA _ rfl
 refine aU (oH (wpAny_call_entry slot_list_sort ⟨_,g,rfl⟩ entry_list_sort (list_sort_treeK strKind_oneLt g hst.keysOf (fun v1 v2 rest e=>keyKind_strs (by rw[← e];exact hst)) hal fun st' p1 p2=>⟨_,rfl,?_⟩) (args_list_sort _)))
 obtain⟨ss',a1,a2,a3⟩:=sorted_out_str hst p1 p2
 obtain rfl:=Qs hs a2 a3
 generalize Array.map (fun x=>x.snd) (arrOf st')=out at a1 ⊢
 obtain⟨ep2,g2⟩:=sortedHeap_at (vs:=acc.toList) (out:=out) g
 have nD:∀ b o,s.heap.get? b=some o->b≠h'.objs.size:=fun b o e=>cJ (bA (hk b o e))
 have hfr:H h'.objs.size=none:=by
  cases q:H h'.objs.size with
  | none=>rfl
  | some u=>
   obtain⟨o,e⟩:=(I.hok _ _ q).there
   exact absurd rfl (nD _ o e)
 have hkk:∀ b o,s.heap.get? b=some o->(E_ (h'.push (uu "list" acc.toList.toArray 0)) h'.objs.size acc.toList out).get? b=some o:=fun b o e=>(sortedHeap_old (cJ (bA (hk b o e))) (bA (cL _ (hk b o e)))).trans (cL _ (hk b o e))
 have sm:ay H (upd H h'.objs.size (.lst (ss'.map V.str))):=cb hfr
 have hpl:=a2.length_eq
 have hok:cI X.prog X.w (upd H h'.objs.size (.lst (ss'.map V.str))) (E_ (h'.push (uu "list" acc.toList.toArray 0)) h'.objs.size acc.toList out):=fun b u e=>by
  by_cases hb:b=h'.objs.size
  ·subst hb;rw[cD] at e;cases e
   exact⟨by rw[cm];omega,out.toList,ep2,Fp a1,by rw[g2]⟩
  ·rw[ba hb] at e
   exact (I.hok b u e).stay (fun c v _ q=>hkk c v q) (fun c q=>by rw[ba (dh q hfr)];exact q) (fun c xs q=>by rw[ba (dh q hfr)];exact q) fun c ob xs _ _ q=>by rw[ba (dh q hfr)];exact q
 have IV:Inv X pins σ (upd H h'.objs.size (.lst (ss'.map V.str))) {s with heap:=E_ (h'.push (uu "list" acc.toList.toArray 0)) h'.objs.size acc.toList out,gens:=s.gens,drawn:=s.drawn,toks:=tk}:=I.step (s:=s) (ch:=[]) (fun _ z=>nomatch z) (fun b o _ _ _ e _=>hkk b o e) (fun b o _ _ _ e _=>⟨o.slots,hkk b o e⟩) (fun b o _ e n=>by rw[ba (nD b o e)];exact n) (fun b o _ e=>⟨o,hkk b o e⟩)
  (fun b ys e=>sm _ _ e) (fun b o ys e=>sm _ _ e) (fun b ys e=>⟨#[],by rw[sm _ _ e];simp⟩) (fun b e=>sm _ _ e) (fun m hm=>hm.keeps hkk) hok I.bare
 exact bU ⟨_,rfl,⟨.ref h'.objs.size,_,IV,rfl,k _ hfr⟩⟩
def zB (d:ae):Option (List ae):=if p_ d=true then (kb (jf d)).bind fun ks=>(zA ks).map fun r=>r.map .str else none
theorem uA:∀ {ks ss:List Str},kb (ks.map .str)=some ss->ss=ks
 | [],ss,h=>(aE h).symm
 | k::ks,ss,h=>by
  have h:((kb (ks.map .str)).map fun xs=>k::xs)=some ss:=h
  obtain⟨r,r1,rfl⟩:=map_some h
  rw[uA r1]
theorem Kd (hc:X.calm=true)(hg:Gl X "sorted")(hm:X.mg "sorted"=none)(ha:PR X O e f)(he:ax [e] X.env=(false,aB e X.env)::ax [] X.env:=by rfl)(hpl:(a0 pos (ax [] X.env)).any (·.1)=false:=by rfl)
  (hv:dJ "sorted"=some (.builtin "sorted"):=by decide +kernel):bL X O (.Call (.Name "sorted" p) [e] [] pos) (fun ρ=>(f ρ).bind zB):=
 (lq (IY hc) hg hm hv (pa_cons ha pa_nil he) (by decide) (by decide) he hpl).imp fun σ H Q zpat=>by
  obtain⟨hid,H0,ρ,ow,r,E,hf,k⟩:=zpat
  obtain⟨d,h1,h2⟩:=bind_some hf
  refine⟨hid,H0,ρ,ow,d,E,h1,fun x H1 s1 D1=>?_⟩
  unfold zB at h2
  split at h2
  case isFalse=>cases h2
  rename_i hd
  obtain⟨ks0,h3,h2⟩:=bind_some h2
  obtain⟨rs,h4,rfl⟩:=map_some h2
  obtain⟨a,kvs,ks,rfl,hv,hk,hD,_⟩:=w_ D1 hd
  rw[hk] at h3
  obtain rfl:=uA h3
  exact⟨a,kvs,_,rs,rfl,⟨bH _ _ _ _ hv.1,hv.2⟩,h4,fun l hl=>k l _ _ (s1.trans (cb hl)) (s1.free hl) cD (xa _)⟩
end
end L2
namespace L2
variable [Reg]
section
variable {X:Cx}{O:Ow}
theorem Inv.swap {pins pl pl':List (af×Obj)}{σ:St}{H:Hp}{s:ar}{a:af}{h':az}{t':Nat}(I:Inv X (pins++pl) σ H s)(f:eg X pins H a)(k:∀ b o,b≠a->s.heap.get? b=some o->h'.get? b=some o)
  (hp:∀ p∈pl',(p∈pl∧p.1≠a)∨(p.1=a∧h'.get? a=some p.2∧∀ v,p.2.data≠.cell v)):Inv X (pins++pl') σ H {s with heap:=h',toks:=t' }:=by
 obtain⟨f0,f1,f2,f3,f4,f5⟩:=id f
 have I1:Inv X pins σ H {s with heap:=h',toks:=t' }:=I.unpinned.turned (t':=t') k f0 f1 f3 f4 f5
 refine I1.pins_of fun p hm=>?_
 rcases List.mem_append.mp hm with hm | hm
 ·exact I1.pin p (bB _ hm)
 ·rcases hp p hm with ⟨h1,h2⟩ | ⟨h1,h2,h3⟩
  ·obtain⟨g1,g2⟩:=I.pin p (bB _ (bB _ h1))
   exact⟨k _ _ h2 g1,g2⟩
  ·exact⟨by rw[h1];exact h2,by rw[h1];exact f0,by rw[h1];exact f1,by rw[h1];exact f2,h3⟩
section
variable {a:Expr}{fa:ag->Option ae}{pos p:Pos}
end
end
end L2
namespace L2
structure vf (X:Cx)(b:Str)(CP:af):Prop where
 gl:Gl X b
 mg:X.mg b=some (.ref CP)
 rd:Bw X.K CP (.type "type")=true
 fc:Bp X.K (.ref CP) (.type "type") "__init__"=some (.val (.builtin "ValueError.__init__"))
 sp:nN X.K (.ref CP) "__getattribute__"=some (some (.builtin "type.__getattribute__"))
section
variable [Reg]{X:Cx}{a b:Expr}{ta:TA}{B:Str}{CP C e:af}{np apos cpos:Pos}{pins:List (af×Obj)}{oe:Obj}{vs:Array ah}
theorem JU (c:vf X B CP)(ha:PA X [a,b] ta){s:ar}{σ:St}{H:Hp}{Q:Hp->Prop}(I:Inv X (pins++[(e,oe)]) σ H s)
  (hx:∀ {s':ar} {H':Hp},Inv X (pins++[(e,oe)]) σ H' s'->∃ (nm q:Str) (N:af) (bs bm:List ah) (hdct:Bool) (sn:List Str) (sub:List ah) (ab:Bool) (col:Option Bool) (dd:Option af) (k0 k1 k2 k3 k5:Option ah) (newId:String),s'.heap.get? C=some (gQ nm q C N bs bm hdct sn sub ab col dd k0 k1 k2 k3 k5 newId)∧l6 s'.heap ic bm)
  (hc:oe.cls=.ref C) (hd:oe.data=.fields vs) (hz:0<vs.size) (hfp:∀ H',H' e=none->eg X pins H' e)
  (h:ta σ H fun ws H1=>∃ txt,ws=[.ref e,.str txt]∧Q H1)
  (hst:ax [a,b] X.env=(false,aB a X.env)::ax [b] X.env:=by rfl) (hpl:(a0 cpos (ax [b] X.env)).any (·.1)=false:=by rfl) (hdb:(B==("__debug__":Str))=false:=by decide)
  (pl:Sem Bool) (ht:aB (.Call (.Attribute (.Name B np) "__init__" apos) [a,b] [] cpos) X.env=(do
   let ov ← aB (.Name B np) X.env
   jv apos.atName
   let (f,first) ← jm [ov] (jk ov "__init__" pl)
   jT cpos f first (a0 cpos (ax [a,b] X.env)) (dS cpos (dY [] X.env)))) :
  aI (aF X.prog X.w) X.A (aB (.Call (.Attribute (.Name B np) "__init__" apos) [a,b] [] cpos) X.env) (fun v s'=>v=.none∧∃ H1 t,Inv X (pins++[(e,oe.mapFields (·.setIfInBounds 0 (.ref t)))]) σ H1 s'∧Q H1) X.xe s:=by
 refine Bt (pl:=pl) (aP (tW (v:=.ref CP) c.gl c.mg rfl hdb _ s σ H (fun x H1=>x=.ref CP∧H1=H) I ⟨rfl,rfl⟩) fun u s1 zpat=>?_) ht
 obtain⟨x,H1,I1,rx,rfl,rfl⟩:=zpat
 obtain rfl:u=Value.ref CP:=rx
 refine PySem.W.method_cls I1.kIn c.sp (PySem.W.cls_value I1.kIn c.rd c.fc (by decide +kernel) ?_)
 have I1':Inv X (pins++[(e,oe)]) σ H1 {s1 with toks:=s1.toks+1}:=I1.tok _
 have hA:=ha cpos _ _ σ H1 _ I1' h
 rw[hst] at hA ⊢
 refine vk (by show (false||(a0 cpos (ax [b] X.env)).any (·.1))=false;rw[hpl] <;> rfl) (vm (aP hA fun us s2 zpat=>?_))
 obtain⟨ws,H2,I2,r2,txt,rfl,q⟩:=zpat
 obtain⟨u1,u2,zq2,ru1,ru2⟩:=r2.two
 subst zq2
 obtain rfl:u1=Value.ref e:=ru1
 obtain⟨nm,qn,N,bs,bm,hdct,sn,sub,ab,col,dd,k0,k1,k2,k3,k5,newId,hCl,T⟩:=hx I2
 obtain⟨he,hn,hne,hnf,hdc⟩:=I2.pin (e,oe) (bB _ (bB _ (List.mem_singleton.mpr rfl)))
 refine Iv PySem.F.excBase_ValueError T hCl he hc hd hz fun h' g1 g2=>⟨rfl,H2,s2.heap.objs.size,?_,q⟩
 refine Inv.swap (t':=s2.toks) (a:=e) (h':=h') I2 (hfp H2 hn) (fun b o hb q'=>g2 b o hb q') fun p hp=>.inr ?_
 rw[List.mem_singleton.mp hp]
 refine⟨rfl,g1,fun v z=>?_⟩
 rw[jI hd] at z
 cases z
theorem Inv.adopt1 {pins:List (af×Obj)}{σ:St}{H:Hp}{s:ar}{a:af}{o:HO}(I:Inv X pins σ H s)(f:eg X pins H a)(new:cP X.prog X.w (upd H a o) s.heap a o):Inv X pins σ (upd H a o) s:=by
 obtain⟨f0,f1,f2,f3,f4,f5⟩:=id f
 have sm:ay H (upd H a o):=cb f0
 exact I.step (g':=s.gens) (t':=s.toks) (d':=s.drawn) (ch:=[a]) (h':=s.heap) (H':=upd H a o) (fun b hb=>by
   obtain rfl:b=a:=List.mem_singleton.mp hb
   exact⟨f3,f1,f4,f5⟩) (fun b u _ _ _ e _=>e) (fun b u _ _ _ e _=>⟨u.slots,e⟩) (fun b u hb e n=>by rw[ba fun z=>hb (List.mem_singleton.mpr z)];exact n) (fun b u _ e=>⟨u,e⟩)
  (fun b ys e=>sm _ _ e) (fun b u ys e=>sm _ _ e) (fun b ys e=>⟨#[],by rw[sm _ _ e];simp⟩) (fun b e=>sm _ _ e) (fun m hm=>hm) (fun b u e=>by
   by_cases hb:b=a
   ·subst hb
    rw[cD] at e
    obtain rfl:=aE e
    exact new
   ·rw[ba hb] at e
    exact (I.hok b u e).stay (fun c v _ q=>q) (fun c q=>sm _ _ q) (fun c ys q=>sm _ _ q) fun c ob ys _ _ q=>sm _ _ q) I.bare
theorem P9 {f:Str}{y:V}{u:ah}{A:bw}{E:ah->ar->Prop}{σ:St}{H:Hp}{s:ar}{Q:Unit->ar->Prop}(I:Inv X (pins++[(e,oe)]) σ H s)(hc:oe.cls=.ref C)(hd0:oe.dict=none)(hd:oe.data=.fields vs)
  (hs:cK X.K (.ref C) "__setattr__"=some (some (.builtin "object.__setattr__"))) (hp:ye X.K C=true) (hf:cK X.K (.ref C) f=some none) (hfp:∀ H',H' e=none->eg X pins H' e) (ry:RelV y u)
  (h:∀ s' n,H n=none->Inv X (pins++[(e,{oe with dict:=some n})]) σ (upd H n (.xd [(f,y)])) s'->Q () s'):aI (aF X.prog X.w) A (zw (.ref e) f u) Q E s:=by
 obtain⟨he,hn,hne,hnf,hdc⟩:=I.pin (e,oe) (bB _ (bB _ (List.mem_singleton.mpr rfl)))
 refine P8 I.kIn he hc hd0 hd hs hp hf fun h' tk' g1 g2 g3=>?_
 have fresh:H s.heap.objs.size=none:=I.hok.fresh (cj _)
 have I1:=Inv.swap (pl':=[(e,{oe with dict:=some s.heap.objs.size})]) (t':=tk') (a:=e) (h':=h') I (hfp H hn) g3 fun p hp=>.inr (by
  rw[List.mem_singleton.mp hp]
  exact⟨rfl,g1,fun v z=>hdc v z⟩)
 obtain⟨f0,f1,f2,f3,f4,f5⟩:=I.fpOk (cj _) fresh
 refine h _ s.heap.objs.size fresh (Inv.adopt1 I1 ⟨f0,f1,f2,f3,f4,fun p hp=>?_⟩ ⟨_,g2,fun g=>?_⟩)
 ·rcases List.mem_append.mp hp with z | z
  ·exact f5 p (cy _ z)
  ·rcases List.mem_append.mp z with z | z
   ·exact f5 p (bB _ (cy _ z))
   ·rw[List.mem_singleton.mp z]
    exact f5 (e,oe) (bB _ (bB _ (List.mem_singleton.mpr rfl)))
 ·rw[fJ]
  by_cases q:g=f
  ·rw[if_pos q,show (g==f)=true from beq_iff_eq.mpr q];exact ry
  ·rw[if_neg q,show (g==f)=false from beq_eq_false_iff_ne.mpr q];exact trivial
end
end L2
namespace L2
section
variable [Reg]{X:Cx}{a b ov vl:Expr}{ta:TA}{to tv:TE}{B f:Str}{CP C e:af}{np apos cpos pos1 pos2 fpos:Pos}{pins:List (af×Obj)}{oe:Obj}{vs:Array ah}
structure kE (K:ao)(C:af)(f:Str):Prop where
 sa:cK K (.ref C) "__setattr__"=some (some (.builtin "object.__setattr__"))
 ov:ye K C=true
 no:cK K (.ref C) f=some none
theorem KQ (c:vf X B CP)(k:kE X.K C f)(ha:PA X [a,b] ta)(ho:PE X ov to)(hv:PE X vl tv){s:ar}{σ:St}{H:Hp}{y:V}{Q:af->Hp->Prop}(I:Inv X (pins++[(e,oe)]) σ H s)
  (hx:∀ {s':ar} {H':Hp} {oe':Obj},Inv X (pins++[(e,oe')]) σ H' s'->∃ (nm q:Str) (N:af) (bs bm:List ah) (hdct:Bool) (sn:List Str) (sub:List ah) (ab:Bool) (col:Option Bool) (dd:Option af) (k0 k1 k2 k3 k5:Option ah) (newId:String),s'.heap.get? C=some (gQ nm q C N bs bm hdct sn sub ab col dd k0 k1 k2 k3 k5 newId)∧l6 s'.heap ic bm)
  (hc:oe.cls=.ref C) (hd0:oe.dict=none) (hd:oe.data=.fields vs) (hz:0<vs.size) (hfp:∀ H',H' e=none->eg X pins H' e)
  (h:ta σ H fun ws H1=>∃ txt,ws=[.ref e,.str txt]∧tv σ H1 fun y' H2=>y'=y∧to σ H2 fun x H3=>x=.ref e∧∀ n,H3 n=none->Q n (upd H3 n (.xd [(f,y)])))
  (hst:ax [a,b] X.env=(false,aB a X.env)::ax [b] X.env) (hpl:(a0 cpos (ax [b] X.env)).any (·.1)=false) (hdb:(B==("__debug__":Str))=false)
  (hsw1:dF (.Call (.Attribute (.Name B np) "__init__" apos) [a,b] [] cpos) none pos1.line X.env=aN false) (hsw2:dF vl (some (.Attribute ov f fpos)) pos2.line X.env=aN false)
  (pl:Sem Bool) (ht:aB (.Call (.Attribute (.Name B np) "__init__" apos) [a,b] [] cpos) X.env=(do
   let ov ← aB (.Name B np) X.env
   jv apos.atName
   let (f,first) ← jm [ov] (jk ov "__init__" pl)
   jT cpos f first (a0 cpos (ax [a,b] X.env)) (dS cpos (dY [] X.env)))) :
  aI (aF X.prog X.w) X.A (execs [.Expr (.Call (.Attribute (.Name B np) "__init__" apos) [a,b] [] cpos) pos1,.Assign [.Attribute ov f fpos] vl pos2] X.env)
   (fun fl s'=>fl=.next∧∃ H1 t n,Inv X (pins++[(e,{ (oe.mapFields (·.setIfInBounds 0 (.ref t))) with dict:=some n})]) σ H1 s'∧Q n H1) X.xe s:=by
 refine zU (wpAny_Expr_any (aP (JU c ha I (fun J=>hx J) hc hd hz hfp h hst hpl hdb pl ht) fun v s1 zpat=>?_) I.quiet hsw1)
 revert zpat
 refine fun zqq=>?_;obtain⟨zq0,H1,t,I1,q⟩:=zqq
 subst zq0
 refine zU (Oc (aP (hv _ s1 σ H1 _ I1 q) fun u s2 zpat=>?_) hsw2)
 obtain⟨y',H2,I2,ry,rfl,q2⟩:=zpat
 refine aP (ho _ s2 σ H2 _ I2 q2) fun ov s3 zpat=>?_
 obtain⟨x,H3,I3,rx,rfl,q3⟩:=zpat
 obtain rfl:ov=Value.ref e:=rx
 exact P9 I3 ((vZ ..).trans hc) ((Obj.dict_mapFields _ _).trans hd0) (jI hd _) k.sa k.ov k.no hfp ry fun s4 n hn I4=>qX ⟨rfl,_,t,n,I4,q3 n hn⟩
end
end L2
namespace L2
def je (X:Cx)(e:af):Cx:={X with ex:=[e]}
section
variable {X:Cx}{e:af}{oe:Obj}{σ:St}{H:Hp}{s:ar}
theorem Inv.addEx (I:Inv X [] σ H s)(hpn:X.pn=[])(hex:X.ex=[])(he:s.heap.get? e=some oe)(hn:H e=none)(hne:e≠X.env.locals)(hcl:∀ x c,X.env.cells.lookup x=some c->c≠e)(hb:X.base.get? e=none)(hfs:e∉X.fs)(hnc:∀ v,oe.data≠.cell v):Inv (je X e) ([]++[(e,oe)]) σ H s:=by
 have one:∀ {b:af},b∈(je X e).ex->b=e:=fun z=>List.mem_singleton.mp z
 refine⟨⟨I.ok.mod,I.ok.kind,I.ok.glob,I.ok.blt,I.ok.above,I.ok.inj,I.ok.has,I.ok.cab,I.ok.hd,I.ok.frames,I.ok.stk,fun b z=>?_,I.ok.bs,I.ok.bsz,fun b o q z=>?_,fun b z=>?_,I.ok.funs,I.ok.frf,I.ok.tabs⟩,
  I.os,I.bare,?_,I.loc,I.cell,I.free,I.freeC,fun p hp=>?_,I.hok,I.len⟩
 ·rw[one z];exact⟨hne,hcl⟩
 ·rw[one z] at q;exact absurd (hb.symm.trans q) (by simp)
 ·rw[one z];exact hfs
 ·have u:Un X.fs X.ex X.H₀ H X.s₀.heap s.heap:=I.base
  rw[hex] at u
  exact⟨fun b o q n hb hx=>u.keep b o q n hb (by simp),fun b o q n hb hx=>u.slot b o q n hb (by simp),fun b o q n hx=>u.free b o q n (by simp),fun b o q hx=>u.there b o q (by simp),u.tups,u.frzs,u.tbls,u.tabs⟩
 ·have:p=(e,oe):=by
   rcases List.mem_append.mp hp with z | z
   ·rw[show (je X e).pn=[] from hpn] at z;cases z
   ·simpa using z
  rw[this]
  exact⟨he,hn,hne,hfs,hnc⟩
theorem Ka (hpn:X.pn=[])(hne:e≠X.env.locals)(hcl:∀ x c,X.env.cells.lookup x=some c->c≠e)(hfs:e∉X.fs):∀ H',H' e=none->eg (je X e) [] H' e:=fun H' h=>⟨h,hne,hfs,.inl (List.mem_singleton.mpr rfl),hcl,fun p hp=>by
 rcases List.mem_append.mp hp with z | z
 ·rw[show (je X e).pn=[] from hpn] at z;cases z
 ·cases z⟩
end
theorem KS {CX:fH}{P:aQ}{w:aM}{K:ao}{mg:Str->Option ah}{base:az}{k:Nat}{f:af}{name qual:Str}{params:uY}{body:List aG}{scope:Scope}{dV kV doc pm cdv ct oc:ah}{an od:Option af}
  {osl:Array (Option ah)} {N ps:List Str} (lk:K.lookup f=some ⟨oc,od,.func (fU name qual params body scope dV kV doc pm an cdv ct),osl⟩) (hcd:we K cdv qual=true) (S:bF N ps scope)
  {A:bw} {outer:List Env} {s:ar} {H:Hp} {E:XK} {us:List ah} {vs:List V} {R:nO->ar->Prop} {e:af} {oe:Obj} (hr:bC (k+1) A) (e0:gi P w K mg base A outer s H)
  (hb:jz s (fU name qual params body scope dV kV doc pm an cdv ct) ⟨us,[]⟩ (ps.zip us)) (r:aV vs us) (hl:vs.length=ps.length)
  (he:s.heap.get? e=some oe) (hn:H e=none) (hbe:base.get? e=none) (hfs:e∉dQ outer) (hnc:∀ v,oe.data≠.cell v)
  (hbody:∀ s1,Inv (je (dN CX P w K mg base N qual scope f cdv A outer s H E) e) ([]++[(e,oe)]) (start N vs) H s1->(∀ H',H' e=none->eg (je (dN CX P w K mg base N qual scope f cdv A outer s H E) e) [] H' e) ->
   aI (aF P w) (A.deeper (dW qual scope s.heap.objs.size f cdv)) (execs body (dW qual scope s.heap.objs.size f cdv)) (fun fl s'=>fl=.next∧R (.ok (.ret .none)) s') (je (dN CX P w K mg base N qual scope f cdv A outer s H E) e).xe s1)
  (hxe:∀ e' s',(je (dN CX P w K mg base N qual scope f cdv A outer s H E) e).xe e' s'->aI (aF P w) (A.deeper (dW qual scope s.heap.objs.size f cdv)) (leaving (dW qual scope s.heap.objs.size f cdv) e') (fun _ s''=>R (.error e') s'') (fun e'' s''=>R (.error e'') s'') s') :
  gm (aF P w) A (.call (.ref f) ⟨us,[]⟩) R s:=by
 have base_kept:∀ b o,base.get? b=some o->s.heap.get? b=some o:=fun b o q=>(e0.bs b o q).1
 have KX:=e0.mod.kin.keeps base_kept
 have kinds:∀ y∈ps.zip us,_:=fun y hy=>(S.par y.1 (vU hy).1).elim (fun q=>Or.inl (b:=scope.names.lookup y.1=some .cell∧((wZ (s.heap.objs.size+1) scope.names []).lookup y.1).isSome=true) q) fun q=>.inr ⟨q,Bl _ _ _ (.inl q)⟩
 refine Jj hr.depth (KX _ _ lk) rfl S.co S.gen rfl (HF KX hcd) (hb _ _ _ _ (Sq S.kind kinds fun env same s1 x=>?_))
 subst same
 refine⟨(e0.mod.nolimit.keeps base_kept).keeps x.toInCall.keep,codeAny_func ?_⟩
 have I0:=C2 (CX:=CX) (E:=E) S hr.hd e0 hl r x
 have hlt:e<s.heap.objs.size:=bA he
 have hne:e≠(dN CX P w K mg base N qual scope f cdv A outer s H E).env.locals:=cJ hlt
 have hcl:∀ y c,(dN CX P w K mg base N qual scope f cdv A outer s H E).env.cells.lookup y=some c->c≠e:=fun y c q z=>by
  have:=x.above y c (kR q)
  rw[z] at this
  exact absurd (Bb hlt this) (jG _)
 have IE:=Inv.addEx I0 rfl rfl (x.toInCall.keep _ _ he) hn hne hcl hbe hfs hnc
 refine cT (hbody s1 IE (Ka rfl hne hcl hfs)) (fun fl s' hs=>?_) fun e' s' hs=>hxe e' s' hs
 revert hs
 refine fun zqq=>?_;obtain⟨zq0,hs⟩:=zqq
 subst zq0
 exact hs
end L2
namespace L2
section
variable {env:Env}{M:pw}{A:bw}{E:ah->ar->Prop}
variable {C N:af}{nm q:Str}{bs bm:List ah}{hdct:Bool}{sn:List Str}{sub:List ah}{ab:Bool}{col:Option Bool}{dd:Option af}{k0 k1 k2 k3 k5:Option ah}{newId:String}
theorem OP {s:ar}{x:Sem ah}{Q:Flow->ar->Prop}(hbase:bm.contains (.type "BaseException")=true)(hh:A.handled=none)
  (h:aI M A x (fun v s1=>∃ e oc od vs osl,v=.ref e∧s1.heap.get? C=some (gQ nm q C N bs bm hdct sn sub ab col dd k0 k1 k2 k3 k5 newId)∧s1.heap.get? e=some ⟨oc,od,.fields vs,osl⟩∧vs[1]?=some .none∧oc=.ref C∧E (.ref e) s1) E s) :
  aI M A (raiseStmt env (some x) none) Q E s:=by
 have known:(Value.ref C::bm).contains (.type "BaseException")=true:=by rw[He,hbase,Bool.or_true]
 unfold raiseStmt
 refine aU (cT h (fun v s1 z=>?_) fun _ _ y=>y)
 revert z
 refine fun zqq=>?_;obtain⟨e,oc,od,vs,osl,zq5,hCl,he,hv,zq9,hE⟩:=zqq
 subst zq5
 subst zq9
 obtain⟨hp,g,d,tk,os⟩:=s1
 repeat (first | with_reducible refine uS he ?_ | with_reducible refine uS hCl ?_ | (with_reducible refine Sn hCl ?_;rw[known]) | wp_step)
 rw[hv]
 refine bU ?_
 rw[if_neg (by decide)]
 exact bU (wpAny_raiseNew_none hh hE)
end
section
variable {P:aQ}{w:aM}{A:bw}{E:ah->ar->Prop}{s:ar}{env:Env}
variable {C N:af}{nm q:Str}{bs bm bmB:List ah}{hdct:Bool}{sn:List Str}{sub:List ah}{ab:Bool}{col:Option Bool}{dd:Option af}{k0 k1 k2 k3 k5:Option ah}{B Bn newId nid initId inN:String}{bmN:List ah}
theorem OQ (Fn:mZ Bn newId inN bmN)(hBn:bmB.contains (.type Bn)=true)(F:mZ B nid initId bmB){x:Str}{np cpos pos:Pos}{args:List Expr}{fI:af}{oI:Obj}{Q:Flow->ar->Prop}
  (hbase:bm.contains (.type "BaseException")=true) (hh:A.handled=none) (hplain:(a0 cpos (ax args env)).any (·.1)=false) (hfc:oI.cls=.type "function")
  (h:aI (aF P w) A (aB (.Name x np) env) (fun f s1=>f=.ref C∧aI (aF P w) A (evalArgs (.ref C) true (a0 cpos (ax args env)) []) (fun a s2=>a.kw=[]∧a.pos.length≤sizeLine∧s2.heap.get? C=some (gQ nm q C N bs bm hdct sn sub ab col dd k0 k1 k2 k3 k5 newId)∧(∃ mN,s2.heap.Ns N mN∧mN "__init__"=some (.ref fI))∧l6 s2.heap bmB bm∧s2.heap.get? fI=some oI ∧
   ∀ h' e,A4 s2.heap h' e (.ref C) a.pos->s2.heap.objs.size≤e->aI (aF P w) (A.under (.builtin "type.__call__" ⟨.ref C::a.pos,[]⟩)) (call (.ref fI) (.ref e::a.pos)) (fun r s3=>r=.none∧s3.heap.get? C=some (gQ nm q C N bs bm hdct sn sub ab col dd k0 k1 k2 k3 k5 newId)∧(∃ od vs osl,s3.heap.get? e=some ⟨.ref C,od,.fields vs,osl⟩∧vs[1]?=some .none)∧E (.ref e) s3) E {s2 with heap:=h' }) E s1) E s) :
  aI (aF P w) A (exec (.Raise (some (.Call (.Name x np) args [] cpos)) none pos) env) Q E s:=by
 rw[arm_exec_Raise]
 refine aU (uT (OP (C:=C) (nm:=nm) (q:=q) (N:=N) (bs:=bs) (bm:=bm) (hdct:=hdct) (sn:=sn) (sub:=sub) (ab:=ab) (col:=col) (dd:=dd) (k0:=k0) (k1:=k1) (k2:=k2) (k3:=k3) (k5:=k5) (newId:=newId) hbase hh (aU (cT (wpAny_Call_ofName (cT h (fun f s1 z=>?_) fun _ _ y=>y)) (fun v s3 z=>aU (uT (bU z))) fun _ _ y=>y))))
 revert z
 refine fun zqq=>?_;obtain⟨zq0,z⟩:=zqq
 subst zq0
 unfold jT
 refine aU (oH (cT z (fun a s2 z=>aU (uT ?_)) fun _ _ y=>y))
 obtain⟨ap,ak⟩:=a
 obtain⟨hkw,hlen,hCl,⟨mN,hn,hi⟩,T,hfI,z⟩:=z
 obtain rfl:ak=[]:=hkw
 obtain⟨hp,g,d,tk,os⟩:=s2
 simp only[hplain]
 refine aU (wpAny_keeperOf_exc hCl (aU (IX Fn hBn F T hCl hn hi hfI hfc (fun h' e hm hz=>cT (z h' e hm hz) (fun r s3 y=>⟨y.1,aU (oH (wpAny_point (bU ?_)))⟩) fun _ _ y=>y) hlen)))
 obtain⟨_,y1,⟨od,vs,osl,y2,y4⟩,y3⟩:=y
 exact ⟨e,_,od,vs,osl,rfl,y1,y2,y4,rfl,y3⟩
end
end L2
namespace L2
variable [Reg]
inductive sj (K:ao)(C fI:af):Prop
 | mk (nm q:Str) (N:af) (bs bm:List ah) (hdct:Bool) (sn:List Str) (sub:List ah) (ab:Bool) (col:Option Bool) (dd:Option af) (k0 k1 k2 k3 k5:Option ah) (ob:Obj) (l:K.lookup C=some ob) (eo:ob=gQ nm q C N bs bm hdct sn sub ab col dd k0 k1 k2 k3 k5 "ValueError.__new__") (t:wu K ic bm=true) (o:wo K N=true) (i:bG K N "__init__"=some (some (.ref fI))):sj K C fI
theorem sj.of {K:ao}{C fI:af}{nm q:Str}{N:af}{bs bm:List ah}{hdct:Bool}{sn:List Str}{sub:List ah}{ab:Bool}{col:Option Bool}{dd:Option af}{k0 k1 k2 k3 k5:Option ah}{ob:Obj}(l:K.lookup C=some ob)(eo:ob=gQ nm q C N bs bm hdct sn sub ab col dd k0 k1 k2 k3 k5 "ValueError.__new__")(t:wu K ic bm=true)(o:wo K N=true)(i:bG K N "__init__"=some (some (.ref fI))):sj K C fI:=⟨nm,q,N,bs,bm,hdct,sn,sub,ab,col,dd,k0,k1,k2,k3,k5,ob,l,eo,t,o,i⟩
structure gL (K:ao)(x:Str)(C fI:af):Prop where
 ns:bG K a_ x=some (some (.ref C))
 ex:sj K C fI
inductive Be (h:az)(C fI:af):Prop
 | mk (nm q:Str) (N:af) (bs bm:List ah) (hdct:Bool) (sn:List Str) (sub:List ah) (ab:Bool) (col:Option Bool) (dd:Option af) (k0 k1 k2 k3 k5:Option ah) (mN:Str->Option ah) (hC:h.get? C=some (gQ nm q C N bs bm hdct sn sub ab col dd k0 k1 k2 k3 k5 "ValueError.__new__")) (hN:h.Ns N mN) (hi:mN "__init__"=some (.ref fI)) (T:l6 h ic bm):Be h C fI
theorem DS {K:ao}{h:az}{N:af}{m:Str->Option ah}{x:Str}{v:ah}(Xk:K.In h)(G:h.Ns N m)(e:bG K N x=some (some v)):m x=some v:=by
 obtain⟨o,es,ep,ho,hd,_,hf⟩:=G
 unfold bG at e
 split at e
 ·rename_i o' ho'
  have:=Xk _ _ ho'
  rw[ho] at this
  cases this
  cases hd
  split at e
  ·rename_i en he
   cases e
   have:=hf x
   unfold nsFind findBy at this
   rw[← F7,he] at this
   exact this.symm
  ·split at e <;> cases e
 ·cases e
theorem gL.obj {K:ao}{h:az}{x:Str}{C fI:af}(o:gL K x C fI)(Xk:K.In h):Be h C fI:=by
 obtain⟨nm,q,N,bs,bm,hdct,sn,sub,ab,col,dd,k0,k1,k2,k3,k5,ob,h1,rfl,h2,h3,h4⟩:=o.ex
 have hN:h.Ns N _:=.of_isNs (Br Xk h3)
 exact⟨nm,q,N,bs,bm,hdct,sn,sub,ab,col,dd,k0,k1,k2,k3,k5,_,Xk _ _ h1,hN,DS Xk hN h4,wx Xk h2⟩
inductive A7 (P:aQ)(w:aM)(outer:List Env)(e:af)(oe:Obj)(f:Str)(v:V)(H:Hp)(s:ar)(r:nO)(s':ar):Prop
 | mk (t n:af) (H':Hp) (hr:r=.ok (.ret .none)) (os:s'.os=s.os) (bare:iS s'.gens) (un:Un (dQ outer) [e] H H' s.heap s'.heap) (hok:cI P w H' s'.heap) (sm:ay H H') (new:H n=none) (dx:H' n=some (.xd [(f,v)])) (fre:H' e=none)
  (he:s'.heap.get? e=some { (oe.mapFields (·.setIfInBounds 0 (.ref t))) with dict:=some n}):A7 P w outer e oe f v H s r s'
def iY (P:aQ)(w:aM)(K:ao)(mg:Str->Option ah)(base:az)(k:Nat)(fI C:af)(f:Str)(G:V->Hp->Prop):Prop:=
 ∀ (A:bw) (outer:List Env) (s:ar) (H:Hp) (e:af) (oe:Obj) (vs:Array ah) (v:V) (u:ah),bC k A->gi P w K mg base A outer s H->s.heap.get? e=some oe->oe.cls=.ref C->oe.dict=none->oe.data=.fields vs->0<vs.size->H e=none->base.get? e=none->e∉dQ outer->RelV v u->G v H ->
  gm (aF P w) A (.call (.ref fI) ⟨[.ref e,u],[]⟩) (A7 P w outer e oe f v H s) s
def nk (v:V)(_:Hp):Prop:=∃ i:Int,v=.int i∧i.natAbs.log2<1920
structure Ha (X:Cx)(B self y:Str)(CP:af)(b:Expr)(tb:TE)(np apos cpos ap sp vp:Pos):Prop where
 bi:vf X B CP
 tx:PE X b tb
 s1:PE X (.Name self ap) (dG 0)
 s2:PE X (.Name self sp) (dG 0)
 va:PE X (.Name y vp) (dG 1)
 st:ax [.Name self ap,b] X.env=(false,aB (.Name self ap) X.env)::ax [b] X.env
 st2:ax [b] X.env=(false,aB b X.env)::ax [] X.env
 pl:(a0 cpos (ax [b] X.env)).any (·.1)=false
 ev:∃ pl:Sem Bool,aB (.Call (.Attribute (.Name B np) "__init__" apos) [.Name self ap,b] [] cpos) X.env=(do
  let ov ← aB (.Name B np) X.env
  jv apos.atName
  let (f,first) ← jm [ov] (jk ov "__init__" pl)
  jT cpos f first (a0 cpos (ax [.Name self ap,b] X.env)) (dS cpos (dY [] X.env)))
section
variable {P:aQ}{w:aM}{K:ao}{mg:Str->Option ah}{base:az}{k:Nat}{C CP fI:af}{fd:aY}{x B f qual self y:Str}{st:aG}{np apos cpos pos1 pos2 fpos ap sp vp:Pos}
theorem xH {b:Expr}{tb:TE}{G:V->Hp->Prop}(o:gL K x C fI)(F:bh K "__init__" qual st fI fd)(S:bF [self,y] [self,y] (aS st))(hb:Binds K fd [self,y] [])(kf:kE K C f)
  (hst:eA st=[.Expr (.Call (.Attribute (.Name B np) "__init__" apos) [.Name self ap,b] [] cpos) pos1,.Assign [.Attribute (.Name self sp) f fpos] (.Name y vp) pos2])
  (hsw:∀ env,dF (.Call (.Attribute (.Name B np) "__init__" apos) [.Name self ap,b] [] cpos) none pos1.line env=aN false) (hsw2:∀ env,dF (.Name y vp) (some (.Attribute (.Name self sp) f fpos)) pos2.line env=aN false)
  (hbody:∀ (e:af) (cdv:ah) (A:bw) (outer:List Env) (s:ar) (H:Hp),bC k (A.deeper (dW qual (aS st) s.heap.objs.size fI cdv))->Ha (je (dN bx P w K mg base [self,y] qual (aS st) fI cdv A outer s H E0) e) B self y CP b tb np apos cpos ap sp vp)
  (htb:∀ (e:af) (v:V) (H:Hp),G v H->∀ Q:VK,(∀ txt H',ay H H'->Q (.str txt) H')->tb [some (.ref e),some v] H Q) (hdb:(B==("__debug__":Str))=false:=by decide):iY P w K mg base (k+1) fI C f G:=by
 intro A outer s H e oe vs v u hr e0 he hcl hdi hdat hz hn hbe hfs rv hG
 obtain⟨oc,od,kV,doc,pm,an,cdv,ct,osl,rfl,lk,hcd⟩:=F.ex
 refine KS (CX:=bx) (E:=E0) (vs:=[.ref e,v]) lk hcd S hr e0 ?_ (.cons rfl (.cons rv .nil)) rfl he hn hbe hfs (fun z q=>by rw[hdat] at q;cases q) (fun s1 I1 fp=>?_) fun e' s' z=>cT z (fun _ _ y=>y.elim) fun _ _ y=>y.elim
 ·have:=hb s [.ref e,u] (e0.mod.kin.keeps fun b q z=>(e0.bs b q z).1) rfl
  rwa [e6] at this
 rw[hst]
 have B0:=hbody e cdv A outer s H (hr.deeper _)
 obtain⟨bbi,btx,bs1,bs2,bva,bst,bst2,bpl,pl,hev⟩:=B0
 refine cT (KQ (pins:=[]) (oe:=oe) (y:=v) (Q:=fun n H1=>ay H H1∧H n=none∧H1 n=some (.xd [(f,v)])) bbi kf (pa_cons bs1 (pa_cons btx pa_nil bst2) bst) bs2 bva I1 (fun {s' H' oe'} J=>?_) hcl hdi hdat hz fp ?_ bst bpl hdb (hsw _) (hsw2 _) pl hev) (fun fl s' q=>?_) fun _ _ z=>z
 ·obtain⟨nm,q,N,bs,bm,hdct,sn,sub,ab,col,dd,k0,k1,k2,k3,k5,mN,hC,hN,hi,T⟩:=o.obj J.kIn
  exact⟨nm,q,N,bs,bm,hdct,sn,sub,ab,col,dd,k0,k1,k2,k3,k5,_,hC,T⟩
 ·refine⟨.ref e,rfl,htb e v H hG _ fun txt H1 sm1=>⟨txt,rfl,v,rfl,rfl,.ref e,rfl,rfl,fun n hn1=>⟨fun a oo q=>?_,sm1.free hn1,cD⟩⟩⟩
  rw[ba (dh (sm1 _ _ q) hn1)];exact sm1 _ _ q
 ·obtain⟨rfl,H1,t,n,I2,sm,hn',hx'⟩:=q
  obtain⟨p1,p2,_⟩:=I2.pin (e,_) (bB _ (bB _ (List.mem_singleton.mpr rfl)))
  exact⟨rfl,t,n,H1,rfl,I2.os,I2.bare,I2.base,I2.hok,sm,hn',hx',p2,p1⟩
end
section
variable {X:Cx}{O:Ow}{x f:Str}{C fI:af}{np cpos pos:Pos}{a:Expr}{ta:TE}{k:Nat}{G:V->Hp->Prop}
theorem Ee {oI:Obj}(hc:X.calm=true)(hex:X.ex=[])(hg:Gl X x)(hm:X.mg x=some (.ref C))(o:gL X.K x C fI)(lk:X.K.lookup fI=some oI)(hfc:oI.cls=.type "function")(hI:iY X.prog X.w X.K X.mg X.base k fI C f G)(hr:bC (k+1) X.A)(ha:PE X a ta)
  (hdb:(x==("__debug__":Str))=false:=by decide) (he:ax [a] X.env=(false,aB a X.env)::ax [] X.env:=by rfl) (hpl:(a0 cpos (ax [a] X.env)).any (·.1)=false:=by rfl) :
  PS X (.Raise (some (.Call (.Name x np) [a] [] cpos)) none pos) (fun D σ H=>ta σ H fun v H1=>G v H1∧∀ pins s' e n H2,Inv X pins σ H2 s'->ay H1 H2->H1 n=none->H2 n=some (.xd [(f,v)])->jC X pins H2 s' e C (some n)->X.xe (.ref e) s'):=by
 intro pins s σ H D I h
 obtain⟨nmx,qx,Nx,bsx,bmx,hdctx,snx,subx,abx,colx,ddx,x0,x1,x2,x3,x5,ob,e1,rfl,e2,e3,e4⟩:=o.ex
 refine OQ (C:=C) (nm:=nmx) (q:=qx) (N:=Nx) (bs:=bsx) (bm:=bmx) (hdct:=hdctx) (sn:=snx) (sub:=subx) (ab:=abx) (col:=colx) (dd:=ddx) (k0:=x0) (k1:=x1) (k2:=x2) (k3:=x3) (k5:=x5) (fI:=fI) (oI:=oI)
  vt (by decide) vt ((wx I.kIn e2).hasType F.excBase_ValueError.hasBase) (I.ok.hd hc) hpl hfc (lj I hg hm ⟨rfl,?_⟩ hdb)
 have hA:=(pa_cons ha pa_nil he:PA X [a] (uF ta uG)) cpos pins s σ H (fun ws H1=>match ws with
  | [v]=>G v H1∧∀ pins s' e n H2,Inv X pins σ H2 s'->ay H1 H2->H1 n=none->H2 n=some (.xd [(f,v)])->jC X pins H2 s' e C (some n)->X.xe (.ref e) s'
  | _=>False) I h
 rw[he] at hA ⊢
 refine vm (aP hA fun us s2 zpat=>?_)
 obtain⟨ws,H2,I2,r2,hG⟩:=zpat
 cases r2 with
 | nil=>exact hG.elim
 | cons rv r2=>
  cases r2 with
  | cons _ _=>exact hG.elim
  | nil=>?_
  obtain⟨hG,kk⟩:=hG
  rename_i u
  have hNs:s2.heap.Ns Nx _:=.of_isNs (Br I2.kIn e3)
  refine⟨rfl,by show 1≤sizeLine;decide,I2.kIn _ _ e1,⟨_,hNs,DS I2.kIn hNs e4⟩,wx I2.kIn e2,I2.kIn _ _ lk,fun h' e hmd hsz=>?_⟩
  have I3:Inv X pins σ H2 {s2 with heap:=h' }:=I2.kept (t':=s2.toks) hmd.keeps
  obtain⟨t,ht,_,_⟩:=hmd.there
  obtain⟨n1,n2,n3⟩:=I2.none_of hex hmd.new
  have nb:X.base.get? e=none:=by
   cases q:X.base.get? e with
   | none=>rfl
   | some oo=>exact absurd (hmd.new.symm.trans (I2.bs e oo q).1) (by simp)
  have nf:e∉dQ X.stack:=fun z=>by
   obtain⟨_,oo,ho,_⟩:=I2.stack.mem z
   exact absurd (hmd.new.symm.trans ho) (by simp)
  refine mW (mq (hI _ X.stack _ H2 e _ _ _ u (hr.make C _ _) (I3.env0.make C _ _) ht rfl rfl rfl (by show 0<6;decide) n1 nb nf rv hG) fun r s4 zpat=>?_)
  obtain⟨t',n,H4,rfl,os,bare,un,hok,sm,hn,hdx,hfre,he4⟩:=zpat
  have hloc:e≠X.env.locals:=fun z=>by
   obtain⟨m,⟨oo,_,_,ho,_⟩,_⟩:=I2.loc
   rw[← z] at ho
   exact absurd (hmd.new.symm.trans ho) (by simp)
  have hcel:∀ y c,X.env.cells.lookup y=some c->c≠e:=fun y c q z=>by
   obtain⟨_,oo,ho,_⟩:=I2.cell y c q
   rw[z] at ho
   exact absurd (hmd.new.symm.trans ho) (by simp)
  have I4:Inv X pins σ H4 s4:=I3.call' os un hok bare fun b hb=>by
   rw[List.mem_singleton.mp hb]
   exact⟨.inr (dn I2.sz hsz),hloc,hcel,n3⟩
  refine⟨rfl,I4.kIn _ _ e1,⟨_,_,_,he4,rfl⟩,kk pins s4 e n H4 I4 sm hn hdx ⟨⟨⟨_,_,he4,rfl,rfl,rfl,.inl rfl⟩,hfre,n2⟩,n3⟩⟩
def mM (cls f:Str)(ρ:ag)(d:Option ae):Option b7:=d.bind fun d=>match d with
 | .int i=>if i.natAbs.log2<1920 then some (.ex (jj cls [.str f,.int i]) ρ) else none
 | _=>none
theorem SW {oI:Obj}{fa:ag->Option ae}(hc:X.calm=true)(hex:X.ex=[])(hg:Gl X x)(hm:X.mg x=some (.ref C))(o:gL X.K x C fI)(lk:X.K.lookup fI=some oI)(hfc:oI.cls=.type "function")(hI:iY X.prog X.w X.K X.mg X.base k fI C f nk)(hr:bC (k+1) X.A)(ha:PV X O a fa)
  (hdb:(x==("__debug__":Str))=false:=by decide) (he:ax [a] X.env=(false,aB a X.env)::ax [] X.env:=by rfl) (hpl:(a0 cpos (ax [a] X.env)).any (·.1)=false:=by rfl) :
  hX X O (.Raise (some (.Call (.Name x np) [a] [] cpos)) none pos) (fun ρ=>mM x f ρ (fa ρ)):=(Ee hc hex hg hm o lk hfc hI hr ha hdb he hpl).imp fun D σ H zpat=>by
 obtain⟨hid,H0,ρ,ow,out,E,hf,kk⟩:=zpat
 obtain⟨d,g1,g2⟩:=bind_some hf
 refine⟨hid,H0,ρ,ow,d,E,g1,fun v H1 s1 Dv=>?_⟩
 cases d with
 | int i=>
  dsimp only at g2
  split at g2
  case isFalse=>cases g2
  rename_i hlog
  cases g2
  obtain rfl:v=.int i:=by cases Dv;rfl
  refine⟨⟨i,rfl,hlog⟩,fun pins s' e n H2 I2 sm hn hdx fl=>?_⟩
  have E2:=(E.mono s1).mono sm
  refine kk pins s' σ H2 ow e C (some n) I2 (aZ (s1.trans sm) _) E2 fl ⟨x,[(f,.int i)],[.int i],rfl,o.ns,.inr ⟨n,rfl,?_⟩,.cons (.int i) .nil⟩
  rw[bE ((E.mono s1).fresh hn)]
  exact hdx
 | _=>cases g2
end
end L2
namespace L2
variable [Reg]
def kT (P:aQ)(w:aM)(K:ao)(mg:Str->Option ah)(base:az)(k:Nat)(x f:Str):Prop:=
 ∃ C fI oI,mg x=some (.ref C)∧gL K x C fI∧K.lookup fI=some oI∧oI.cls=.type "function"∧iY P w K mg base k fI C f nk
theorem uX {X:Cx}{O:Ow}{x f:Str}{np cpos pos:Pos}{a:Expr}{k:Nat}{fa:ag->Option ae}(hc:X.calm=true)(hex:X.ex=[])(hg:Gl X x)(G:kT X.prog X.w X.K X.mg X.base k x f)(hr:bC (k+1) X.A)(ha:PV X O a fa)
  (hdb:(x==("__debug__":Str))=false:=by decide) (he:ax [a] X.env=(false,aB a X.env)::ax [] X.env:=by rfl) (hpl:(a0 cpos (ax [a] X.env)).any (·.1)=false:=by rfl) :
  hX X O (.Raise (some (.Call (.Name x np) [a] [] cpos)) none pos) (fun ρ=>mM x f ρ (fa ρ)):=by
 obtain⟨C,fI,oI,h1,h2,h3,h4,h5⟩:=G
 exact SW hc hex hg h1 h2 h3 h4 h5 hr ha hdb he hpl
theorem K0 {a:Int}(h:a.natAbs.log2<1920):(aj (jx a)).length≤10000:=by
 have e:=int_text_length_le (k:=1920) (by decide) h
 rw[HL];omega
theorem FF {t1 t2:Str}(h1:t1.length≤10000)(h2:t2.length≤10000)(e:af)(v:V)(H:Hp)(hG:nk v H)(Q:VK)(q:∀ txt H',ay H H'->Q (.str txt) H'):Fw (tC (.str t1)) (Ft (dG 1)) (tC (.str t2)) [some (.ref e),some v] H Q:=by
 obtain⟨i,rfl,hi⟩:=hG
 exact⟨t1,rfl,h1,.int i,rfl,i,rfl,hi,_,rfl,K0 hi,t2,rfl,h2,q _ H (ay.refl H)⟩
structure oY (K:ao)(mg:Str->Option ah)(b:Str)(CP:af):Prop where
 mg:mg b=some (.ref CP)
 rd:Bw K CP (.type "type")=true
 fc:Bp K (.ref CP) (.type "type") "__init__"=some (.val (.builtin "ValueError.__init__"))
 sp:nN K (.ref CP) "__getattribute__"=some (some (.builtin "type.__getattribute__"))
inductive kS (K:ao)(x b f:Str)(st:aG):Prop
 | mk (C fI CP:af) (fd:aY) (o:gL K x C fI) (F:bh K "__init__" (x++".__init__") st fI fd) (fn:nK K (.ref fI)=true) (fl:kE K C f) (nb:bG K a_ b=some (some (.ref CP))) (rd:Bw K CP (.type "type")=true)
  (fc:Bp K (.ref CP) (.type "type") "__init__"=some (.val (.builtin "ValueError.__init__"))) (sp:nN K (.ref CP) "__getattribute__"=some (some (.builtin "type.__getattribute__"))):kS K x b f st
theorem kS.ok {P:aQ}{w:aM}{K:ao}{mg:Str->Option ah}{h base:az}{x b f:Str}{st:aG}{k:Nat}(a:kS K x b f st)(X:K.In h)(G:h.Ns a_ mg)
  (q:∀ (C fI CP:af) (fd:aY),gL K x C fI->bh K "__init__" (x++".__init__") st fI fd->kE K C f->oY K mg b CP->iY P w K mg base k fI C f nk):kT P w K mg base k x f:=by
 obtain⟨C,fI,CP,fd,o,F,fn,fl,nb,rd,fc,sp⟩:=a
 have F':=F
 obtain⟨oc,od,kV,doc,pm,an,cdv,ct,osl,rfl,lk,hcd⟩:=F.ex
 have hfn:Bz K (.ref fI)=some (.type "function"):=sQ fn
 have hoc:oc=.type "function":=by
  have:(K.lookup fI).map (·.cls)=some (.type "function"):=hfn
  rw[lk] at this
  exact aE this
 exact⟨C,fI,_,fV X G o.ns,o,lk,hoc,q C fI CP _ o F' fl ⟨fV X G nb,rd,fc,sp⟩⟩
end L2
namespace L2
section
variable {X:Cx}{a:Expr}{pos:Pos}{ta:TE}
def Fy (t:TE):TE:=fun σ H Q=>t σ H fun x H1=>∃ y:Str,x=.str y∧(yu y).length≤10000∧Q (.str (yu y)) H1
theorem N0 (ha:PE X a ta):PE X (.FormattedValue a 114 none pos) (Fy ta):=by
 intro pins s σ H Q I h
 refine wpAny_FormattedValue_repr (aP (ha pins s σ H _ I h) fun v s1 zpat=>?_)
 obtain⟨x,H1,I1,r1,y,rfl,hl,q⟩:=zpat
 obtain⟨t,rfl⟩:=r1
 have hz:(10000:Nat)<sizeLine:=by decide
 refine wpAny_pyReprObj_str ?_ (ny (kJ hl hz))
 exact formatField_str (fun t' tk'=>⟨.str _,H1,I1.tok _,⟨_,rfl⟩,q⟩) (ny (kJ hl hz))
end
def sh (v:V)(_:Hp):Prop:=∃ y:Str,v=.str y∧(yu y).length≤10000
theorem RI {t1:Str}(h1:t1.length≤10000)(e:af)(v:V)(H:Hp)(hG:sh v H)(Q:VK)(q:∀ txt H',ay H H'->Q (.str txt) H'):Fv (tC (.str t1)) (Fy (dG 1)) [some (.ref e),some v] H Q:=by
 obtain⟨y,rfl,hl⟩:=hG
 exact⟨t1,rfl,h1,.str y,rfl,y,rfl,hl,_,rfl,hl,q _ H (ay.refl H)⟩
variable [Reg]
def sk (P:aQ)(w:aM)(K:ao)(mg:Str->Option ah)(base:az)(k:Nat)(x f:Str):Prop:=
 ∃ C fI oI,mg x=some (.ref C)∧gL K x C fI∧K.lookup fI=some oI∧oI.cls=.type "function"∧iY P w K mg base k fI C f sh
theorem kS.okS {P:aQ}{w:aM}{K:ao}{mg:Str->Option ah}{h base:az}{x b f:Str}{st:aG}{k:Nat}(a:kS K x b f st)(X:K.In h)(G:h.Ns a_ mg)
  (q:∀ (C fI CP:af) (fd:aY),gL K x C fI->bh K "__init__" (x++".__init__") st fI fd->kE K C f->oY K mg b CP->iY P w K mg base k fI C f sh):sk P w K mg base k x f:=by
 obtain⟨C,fI,CP,fd,o,F,fn,fl,nb,rd,fc,sp⟩:=a
 have F':=F
 obtain⟨oc,od,kV,doc,pm,an,cdv,ct,osl,rfl,lk,hcd⟩:=F.ex
 have hfn:Bz K (.ref fI)=some (.type "function"):=sQ fn
 have hoc:oc=.type "function":=by
  have:(K.lookup fI).map (·.cls)=some (.type "function"):=hfn
  rw[lk] at this
  exact aE this
 exact⟨C,fI,_,fV X G o.ns,o,lk,hoc,q C fI CP _ o F' fl ⟨fV X G nb,rd,fc,sp⟩⟩
def Ey (cls f:Str)(ρ:ag)(d:Option ae):Option b7:=d.bind fun d=>(gx d).bind fun y=>if decide ((yu y).length≤10000)=true then some (.ex (jj cls [.str f,.str y]) ρ) else none
theorem SX {X:Cx}{O:Ow}{x f:Str}{np cpos pos:Pos}{a:Expr}{k:Nat}{fa:ag->Option ae}(hc:X.calm=true)(hex:X.ex=[])(hg:Gl X x)(G:sk X.prog X.w X.K X.mg X.base k x f)(hr:bC (k+1) X.A)(ha:PV X O a fa)
  (hdb:(x==("__debug__":Str))=false:=by decide) (he:ax [a] X.env=(false,aB a X.env)::ax [] X.env:=by rfl) (hpl:(a0 cpos (ax [a] X.env)).any (·.1)=false:=by rfl) :
  hX X O (.Raise (some (.Call (.Name x np) [a] [] cpos)) none pos) (fun ρ=>Ey x f ρ (fa ρ)):=by
 obtain⟨C,fI,oI,h1,o,h3,h4,h5⟩:=G
 refine (Ee hc hex hg h1 o h3 h4 h5 hr ha hdb he hpl).imp fun D σ H zpat=>?_
 obtain⟨hid,H0,ρ,ow,out,E,hf,kk⟩:=zpat
 obtain⟨d,g1,hf⟩:=bind_some hf
 obtain⟨y,g2,hf⟩:=bind_some hf
 split at hf
 case isFalse=>cases hf
 rename_i hl
 obtain rfl:=aE hf
 rw[gy g2] at g1
 refine⟨hid,H0,ρ,ow,_,E,g1,fun v H1 s1 Dv=>?_⟩
 obtain rfl:=dr Dv
 refine⟨⟨y,rfl,of_decide_eq_true hl⟩,fun pins s' e n H2 I2 sm hn hdx fl=>?_⟩
 have E2:=(E.mono s1).mono sm
 refine kk pins s' σ H2 ow e C (some n) I2 (aZ (s1.trans sm) _) E2 fl ⟨x,[(f,.str y)],[_],rfl,o.ns,.inr ⟨n,rfl,?_⟩,.cons (.str y) .nil⟩
 rw[bE ((E.mono s1).fresh hn)]
 exact hdx
end L2
namespace L2
variable [Reg]
section
variable {X:Cx}{O:Ow}{k:Nat}{ps:List Str}{cls:Str}{ns:List Str}{ts:List Ty}{F:List ae->Option (ae×ae)}{pos p:Pos}
theorem Kj (G:rh X.prog X.w X.K X.mg X.base k cls ps ns ts F)(hr:bC (k+1) X.A)(hg:Gl X cls)(hdb:(cls==("__debug__":Str))=false:=by decide) :
  fB X O (.rc none cls ns ts) (.Call (.Name cls p) [] [] pos) (fun _=>xY cls F (some [])):=by
 obtain⟨C,f,fd,M,g1,g2,g3,g4⟩:=G
 exact (NU M g1 hr hg g2 g4 .nil js hdb).imp fun σ H Q zpat=>by
  obtain⟨hid,H0,ρ,ow,d,E,hf,q⟩:=zpat
  obtain⟨ds,h1,hf⟩:=bind_some hf
  obtain⟨r,h2,h3⟩:=bind_some hf
  obtain⟨r1,r2⟩:=r
  have hr1:r1=.none∧d=r2:=by
   cases r1 with
   | none=>exact⟨rfl,(aE h3).symm⟩
   | _=>cases h3
  obtain⟨rfl,rfl⟩:=hr1
  obtain rfl:=aE h1
  intro x dx nx ndx hne
  have E1:=E
  have s1:ay H H:=ay.refl H
  have sN:ay H (upd (upd H dx (.own x)) x (.ins C dx [])):=fun b o z=>by
   rw[ba (dh z nx),ba (dh z ndx)]
   exact z
  have c0:ay (av H (uni hid ow)) (av (upd (upd H dx (.own x)) x (.ins C dx [])) (uni (uni hid ow) [x])):=fun b o z=>by
   by_cases hb:uni hid ow b
   ·rw[dy hb] at z;cases z
   ·rw[bE hb] at z
    rw[bE fun w=>?_]
    ·exact sN b o z
    ·rcases w with w | w
     ·exact hb w
     ·rw[List.mem_singleton.mp w,nx] at z;cases z
  refine⟨uni hid ow,x,[x],[],gw cls [] [],[],(.none,d),rfl,fun b hb=>?_,fun q hq=>?_,.rc (fs:=[]) (fun b z=>nomatch z) cD g3 rfl .nil (by simp),.nil,h2,fun v as' H' s n D' Dv=>⟨?_,?_⟩⟩
  ·obtain⟨w,z⟩:=E1.uniL b hb
   exact⟨w,sN _ _ z⟩
  ·rw[List.mem_singleton.mp hq]
   exact E1.fresh nx
  ·cases Dv;rfl
  ·have s2:ay H H':=fun b o z=>s b o (fun w=>by rw[List.mem_singleton.mp w,nx] at z;cases z) (sN b o z)
   refine q (.ref x) as' H' (s1.trans s2) (fun b hb=>?_) (D'.mono (cN fun b z=>?_) fun p _ o z=>z)
   ·have hn:H b=none:=by
     rcases n b hb with z | z
     ·rw[List.mem_singleton.mp z];exact nx
     ·cases e:H b with
      | none=>rfl
      | some o=>rw[sN b o e] at z;cases z
    exact s1.free hn
   ·rcases z with z | z
    ·exact .inl (.inl z)
    ·rcases List.mem_append.mp z with z | z
     ·exact .inr z
     ·exact .inl (.inr z)
end
theorem eZ.ok {P:aQ}{w:aM}{K:ao}{mg:Str->Option ah}{base:az}{k:Nat}{cls m:Str}{ps:List Str}{T:Ty}{F:List ae->Option RX}(G:eZ P w K mg base k cls m ps T F):AX P w K mg base k cls m ps T (gW F):=by
 obtain⟨C,f,fd,c,hm,h1,g2,g3⟩:=G
 have imp:∀ vs H Q E,cx K T (gW F) vs H Q E->dE K T F vs H Q E0:=fun vs H Q E zpat=>by
  obtain⟨hid,ds,r,a1,a2,a3,a4⟩:=zpat
  obtain⟨q,b1,b2⟩:=bind_some a3
  cases q with
  | ret d=>cases b2;exact⟨hid,ds,.ret r,a1,a2,b1,a4⟩
  | exc x=>exact L2.bp b2
 refine⟨C,f,fd,c,hm,⟨fun vs H Q E h=>h1.len vs H Q E0 (imp vs H Q E h),fun A outer s H args us vs Q E hr he hb hv hs=>?_⟩,g2,g3⟩
 refine mq (h1.run A outer s H args us vs Q E0 hr he hb hv (imp vs H Q E hs)) fun r s' hq=>?_
 cases r with
 | error e=>
  obtain⟨H',a,C,od,_,_,_,_,_,_,q⟩:=id hq
  exact q.elim
 | ok fl=>cases fl <;> exact hq
theorem QB {X:Cx}{O:Ow}{l:af}{cls:Str}{ns:List Str}{ts:List Ty}{sts:List aG}:hW X O l cls ns ts sts (fun _=>none):=Ef.imp fun D σ H ⟨hid,H0,ρ,ow,o,E,hf,k⟩=>by cases hf
def vN (K:ao)(w:aM)(mg:Str->Option ah)(x:Str)(kvs:List (Str×Int)):Prop:=kF K w x kvs∧∃ a,mg x=some (.ref a)∧bG K a_ x=some (some (.ref a))
theorem kF.ok {K:ao}{w:aM}{h:az}{mg:Str->Option ah}{x:Str}{kvs:List (Str×Int)}(d:kF K w x kvs)(X:K.In h)(G:h.Ns a_ mg):vN K w mg x kvs:=by
 refine⟨d,?_⟩
 obtain⟨a,o,es,ep,e,_⟩:=d
 exact⟨a,fV X G e,e⟩
theorem Se {X:Cx}{O:Ow}{e:Expr}{g:ag->Option ae}{p apos cpos:Pos}{x:Str}{kvs:List (Str×Int)}(D:vN X.K X.w X.mg x kvs)(hg:Gl X x)(he:PR X O e g)(hd:(x==("__debug__":Str))=false:=by decide)
  (hbase:dR (.Name x p) "get" X.env (aB (.Name x p) X.env)=aB (.Name x p) X.env:=by rfl)
  (hfew:((a0 cpos (ax [e] X.env)).all (fun x=>!x.1)&&(dS cpos (dY [] X.env)).all (fun x=>x.1.isSome)&&decide (([e]:List Expr).length+([]:List df).length+(if ([]:List df).isEmpty then 0 else 1)<30))=true:=by rfl)
  (hline:(apos.endLine==cpos.line)=true:=by rfl) (htr:a0 cpos (ax [e] X.env)=[(false,aB e X.env)]:=by rfl) :
  PV X O (.Call (.Attribute (.Name x p) "get" apos) [e] [] cpos) (fun ρ=>(g ρ).bind (xQ kvs)):=by
 obtain⟨d,a,h1,h2⟩:=D
 exact Sd d h1 h2 hg he hd hbase hfew hline htr
end L2
namespace L2
variable [Reg]
section
variable {X:Cx}{O:Ow}{a b:Expr}{pos:Pos}{fa fb:ag->Option (ae×ag)}
def sC (fa fb:ag->Option (ae×ag))(ρ:ag):Option (ae×ag):=(fa ρ).bind fun r=>(fb r.2).bind fun q=>(cZ (some r.1) (some q.1)).map fun ds=>(.list ds,q.2)
theorem SD (ha:PX X O a fa)(hb:PX X O b fb):PX X O (.BinOp a .Add b pos) (sC fa fb):=(il yc ha hb).imp fun σ H Q zpat=>by
 obtain⟨hid,H0,ρ,ow,r,E,hf,k⟩:=zpat
 obtain⟨r1,h1,hf⟩:=bind_some hf
 obtain⟨r2,h2,hf⟩:=bind_some hf
 obtain⟨ds,h3,rfl⟩:=map_some hf
 obtain⟨xs,ys,e1,e2,rfl,hl⟩:=wY h3
 have e1:=aE e1
 have e2:=aE e2
 refine⟨hid,H0,ρ,ow,r1,E,h1,fun x H1 E1 s1 D1=>⟨hid,H0,r1.2,ow,r2,E1,h2,fun y H2 E2 s2 D2=>?_⟩⟩
 rw[e1] at D1
 rw[e2] at D2
 obtain⟨l,vs,rfl,q1,r1'⟩:=dU (D1.mono s2)
 obtain⟨m,ws,rfl,q2,r2'⟩:=dU D2
 refine ⟨l,m,vs,ws,rfl,rfl,(bH _ _).seq q1,(bH _ _).seq q2,(by rw[r1'.length,r2'.length];exact hl),(fun p hp=>?_)⟩
 exact k _ _ (E2.mono (cb hp)) ((s1.trans s2).trans (aZ (cb hp) _)) (.lst (bD.of (E2.newAt hp)) ((r1'.append r2').mono (aZ (cb hp) _)))
end
section
variable {X:Cx}{O:Ow}{b:Expr}{fb:ag->Option ae}{i k:Nat}{x f cls:Str}{ns:List Str}{ts:List Ty}{oa:Option af}{p ap pos:Pos}
theorem R9 {ms:List Str}(hu:X.A.units+64<cLine)(hC:iB X.K cls f)(hx:PE X (.Name x p) (dG i))(hb:PR X O b fb)(hO:O.s.lookup i=some (.rc oa cls ns ts):=by rfl)(hk:ts[k]?=some (.dc none ms):=by rfl)(hf:ns[k]?=some f:=by rfl)(hnd:ns.Nodup:=by decide +kernel)
  (hb1:dR (.Name x p) f X.env (aB (.Name x p) X.env)=aB (.Name x p) X.env:=by rfl) (hs:rV b:=by intro _ _;rfl) :
  PV X O (.Subscript (.Attribute (.Name x p) f ap) b pos) (fun ρ=>au (CK i k ρ) (fb ρ) jU):=(Ea (uP hu) (yg hx hb1) hb hs).imp fun σ H Q zpat=>by
 obtain⟨hid,H0,ρ,ow,r,E,hf',q⟩:=zpat
 obtain⟨d0,g1,hf'⟩:=bind_some hf'
 obtain⟨kd,g2,hf'⟩:=bind_some hf'
 obtain⟨key,g3,g4⟩:=bind_some hf'
 obtain⟨ds,g5,g6⟩:=bind_some g1
 obtain⟨a,D',dx,fs,w,d,bs,h1,h2,h3,h4,h5,h6,h7,h8,h9,put⟩:=E.putFld hO g5 hk hf hnd
 rw[g6] at h7
 obtain rfl:=aE h7
 obtain⟨c1,c2⟩:=hC D' h3
 unfold xh at g4
 split at g4
 case isFalse=>cases g4
 rename_i hdc
 cases h8 with
 | non=>cases hdc
 | @dc _ _ ks l kvs es ho hl qd=>
  refine⟨.ref a,h1,a,D',dx,fs,.ref l,rfl,h2,c1,c2,h4,hid,H0,ρ,ow,kd,E,g2,fun z H2 s2 Dk=>?_⟩
  rw[gy g3] at Dk
  obtain rfl:=dr Dk
  obtain⟨v,v1,v2⟩:=xT hl.2 qd (show jY key (ks.map .str) es=some r from g4)
  exact⟨l,v,rfl,by rw[← v1];exact g9.k (k:=Sum.inr key) (s2 _ _ hl.1),q v H2 s2 (v2.mono (aZ s2 _))⟩
end
end L2
namespace L2
variable [Reg]
def um:ae->Bool
 | .none=>true
 | .bool _=>true
 | .int _=>true
 | .str _=>true
 | _=>false
theorem Cr {K:ao}{H:Hp}{v:V}{d:ae}(h:aJ K H v d)(q:um d=true):Sc v d:=by
 cases h with
 | non=>exact .non
 | bl b=>exact .bl b
 | int i=>exact .int i
 | str x=>exact .str x
 | _=>cases q
theorem Cq {K:ao}{H G:Hp}:∀ {vs:List V} {ds:List ae},aD K H vs ds->ds.all um=true->aD K G vs ds
 | [],[],_,_=>.nil
 | _::_,_::_,.cons h r,q=>by
  rw[kG,cq] at q
  exact .cons (Cr h q.1).den (Cq r q.2)
section
variable {X:Cx}{O:Ow}{e a b o:Expr}{es:List Expr}{f fa fb fo:ag->Option ae}{fs:ag->Option (List ae)}{k:Nat}{m x cls:Str}{ps:List Str}{T:Ty}{Ts:List Ty}{U:List Nat}{F:List ae->Option ae}{p pos apos cpos:Pos}{pl:Sem Bool}
theorem bL.nw (h:bL X O e fs):fB X O .nw e (fun ρ=>((fs ρ).filter (·.all um)).map .list):=h.imp fun σ H Q zpat=>by
 obtain⟨hid,H0,ρ,ow,d,E,hf,k⟩:=zpat
 obtain⟨ds,h1,rfl⟩:=map_some hf
 obtain⟨h1,h2⟩:=Option.filter_eq_some_iff.mp h1
 refine⟨hid,H0,ρ,ow,ds,E,h1,fun l vs H' s n q D=>k (.ref l) [l] H' s (fun p hp=>by rw[List.mem_singleton.mp hp];exact n) (.nw (fun p hp=>⟨.l vs,by rw[List.mem_singleton.mp hp];exact q⟩) (.lst (bD.of ?_) (Cq D h2)))⟩
 rw[bE fun z=>z (List.mem_singleton.mpr rfl)]
 exact q
theorem PR.nw (h:PR X O e f):fB X O .nw e (fun ρ=>(f ρ).filter um):=h.imp fun σ H Q zpat=>by
 obtain⟨hid,H0,ρ,ow,d,E,hf,k⟩:=zpat
 obtain⟨h1,h2⟩:=Option.filter_eq_some_iff.mp hf
 exact⟨hid,H0,ρ,ow,d,E,h1,fun v H' s D=>k v [] H' s (fun p hp=>by cases hp) (.nw (fun p hp=>by cases hp) (Cr D h2).den)⟩
end
end L2
namespace L2
variable [Reg]
section
variable {X:Cx}{O:Ow}{e:Expr}{pos:Pos}
def nX (i:Nat)(ρ:ag)(zs:List ae):Option aA:=((ρ[i]?).join.bind cH).bind fun ds=>if decide (ds.length+zs.length<1000)=true then some (.nx (ρ.set i (some (.list (ds++zs))))) else none
theorem qF {i:Nat}{x:Str}{p apos cpos:Pos}{f:ag->Option (List ae)}(hx:PE X (.Name x p) (dG i))(he:bR X O e f)(hO:O.s.lookup i=some (.lst .cl):=by rfl)
  (hbase:dR (.Name x p) "extend" X.env (aB (.Name x p) X.env)=aB (.Name x p) X.env:=by rfl)
  (hfew:((a0 cpos (ax [e] X.env)).all (fun x=>!x.1)&&(dS cpos (dY [] X.env)).all (fun x=>x.1.isSome)&&decide ([e].length+([]:List df).length+(if ([]:List df).isEmpty then 0 else 1)<30))=true:=by rfl)
  (hline:(apos.endLine==cpos.line)=true:=by rfl) (hst:ax [e] X.env=(false,aB e X.env)::ax [] X.env:=by rfl) (hplain:(a0 cpos (ax [] X.env)).any (·.1)=false:=by rfl)
  (hs:dF (.Call (.Attribute (.Name x p) "extend" apos) [e] [] cpos) none pos.line X.env=aN false:=by rfl) :
  cR X O (.Expr (.Call (.Attribute (.Name x p) "extend" apos) [e] [] cpos) pos) (fun ρ=>(f ρ).bind (nX i ρ)):=
 (qv (j3 nI PySem.F.slot_list_extend PySem.F.type_list_extend L7 (wM hx hO) (pa_cons he pa_nil hst) hbase hfew hline hst hplain) hs).imp fun D σ H zpat=>by
  obtain⟨hid,H0,ρ,ow,o,E,hf,k⟩:=zpat
  obtain⟨zs,g1,g2⟩:=bind_some hf
  obtain⟨ds,g3,g4⟩:=bind_some g2
  obtain⟨dl,g5,g6⟩:=bind_some g3
  rw[fQ g6] at g5
  split at g4
  case isFalse=>cases g4
  rename_i hlt
  obtain rfl:=aE g4
  refine ⟨hid,H0,ρ,ow,.list ds,[],ds,E,join_some g5,rfl,rfl,rfl,(fun H1 l vs s1 hH hD hl hE=>⟨.inl ⟨rfl,vs,bD.of hH⟩,hid,H0,ρ,ow,zs,E.mono s1,g1,fun b ws H2 s2 nb hb Dz=>?_⟩)⟩
  have hz:1000<sizeLine:=by decide
  have hlt':=of_decide_eq_true hlt
  refine ⟨l,b,vs,ws,rfl,rfl,s2 _ _ hH,hb,(by rw[hD.length,Dz.length];omega),k _ _ ow ?_ (hE H2 s2 _ _ ((hD.mono (aZ s2 _)).append (Dz.mono (cN (jy fun p hp=>bP _ hp)))))⟩
  rw[gp (lB hl)]
  exact (aZ s1 _).trans (aZ s2 _)
end
end L2
namespace L2
section
variable [Reg]{X:Cx}{O:Ow}{e:Expr}{f:ag->Option ae}{pos:Pos}
theorem br (i:Nat){x:Str}(hN:X.N[i]?=some x:=by rfl)(hv:nR X.env.scope x:=by first | exact Or.inl rfl | exact Or.inr (Or.inl rfl) | exact Or.inr (Or.inr rfl))(hd:(x==("__debug__":Str))=false:=by decide)(hcd:(x==("__classdict__":Str))=false:=by decide)(hi:O.s.lookup i=none:=by rfl):PV X O (.Name x pos) (fun ρ=>(ρ[i]?).join):=Ek (pv i hN hv hd hcd) hi
theorem aw (i:Nat){x:Str}(hN:X.N[i]?=some x:=by rfl)(hv:nR X.env.scope x:=by first | exact Or.inl rfl | exact Or.inr (Or.inl rfl) | exact Or.inr (Or.inr rfl))(hd:(x==("__debug__":Str))=false:=by decide)(hcd:(x==("__classdict__":Str))=false:=by decide)(hi:O.s.lookup i=none:=by rfl):PR X O (.Name x pos) (fun ρ=>(ρ[i]?).join):=(Ek (pv i hN hv hd hcd) hi).r
theorem aO {i:Int}{j:Nat}:PR X O (.Constant (.int i) j pos) (fun _=>some (.int i)):=bK.r
theorem cC (i:Nat){x:Str}{pos':Pos}(hN:X.N.Nodup)(he:PV X O e f)(hi:X.N[i]?=some x:=by rfl)(hx:Loc X.env.scope x:=by exact Or.inl rfl)(hO:O.s.lookup i=none:=by rfl)(hs:dF e (some (.Name x pos')) pos.line X.env=aN false:=by rfl)(hf:X.fn x=true∨X.env.scope.names.lookup x=some .local:=by first | exact .inl rfl | exact .inr rfl | assumption):cR X O (.Assign [.Name x pos'] e pos) (fun ρ=>bj i ρ (f ρ)):=eV hN hi hx he hO hs hf
theorem bY {N P:List Str}{sc:Scope}(a:sc.kind=.function:=by rfl)(b:sc.isCoroutine=false:=by rfl)(c:sc.isGenerator=false:=by rfl)(d:N.Nodup:=by decide +kernel)(e:N.take P.length=P:=by rfl)(f:∀ x∈P,sc.names.lookup x=some .local∨sc.names.lookup x=some .cell:=by decide +kernel)(g:∀ y∈sc.names,y.2≠.free:=by decide +kernel):bF N P sc:=⟨a,b,c,d,e,f,g⟩
end
theorem bC.mn {a b:Nat}{A:bw}(h:bC a A)(k:b≤a:=by decide):bC b A:=h.mono k
end L2
namespace NW
open L2
def bZ (i:Nat):aG:=PySem.Challenge.pw_nearposts_k61_what_a_desk_refuses.main.body.getD i (.Pass ⟨0,0,0,0⟩)
abbrev zi:aG:=(ig (bZ 8)).getD 0 (.Pass ⟨0,0,0,0⟩)
abbrev zk:aG:=(ig (bZ 13)).getD 0 (.Pass ⟨0,0,0,0⟩)
abbrev zj:aG:=(ig (bZ 14)).getD 0 (.Pass ⟨0,0,0,0⟩)
abbrev uc:aG:=bZ 63
abbrev zd:aG:=(ig (bZ 60)).getD 0 (.Pass ⟨0,0,0,0⟩)
abbrev j7:aG:=bZ 68
abbrev yC:aG:=bZ 64
abbrev yY:aG:=bZ 51
abbrev yM:aG:=bZ 52
abbrev yK:aG:=bZ 27
abbrev ze:aG:=(ig (bZ 60)).getD 1 (.Pass ⟨0,0,0,0⟩)
abbrev ug:aG:=bZ 53
abbrev ue:aG:=bZ 42
abbrev yT:aG:=bZ 43
abbrev uh:aG:=bZ 44
abbrev yU:aG:=bZ 46
abbrev uk:aG:=bZ 47
abbrev zg:aG:=(ig (bZ 60)).getD 2 (.Pass ⟨0,0,0,0⟩)
abbrev yS:aG:=bZ 54
abbrev zh:aG:=(ig (bZ 60)).getD 3 (.Pass ⟨0,0,0,0⟩)
abbrev zf:aG:=(ig (bZ 60)).getD 5 (.Pass ⟨0,0,0,0⟩)
abbrev yB:aG:=bZ 69
abbrev ui:aG:=bZ 57
abbrev yQ:aG:=bZ 41
abbrev uj:aG:=bZ 56
abbrev yL:aG:=bZ 24
abbrev yX:aG:=bZ 37
abbrev yR:aG:=bZ 35
abbrev yO:aG:=bZ 31
abbrev yJ:aG:=bZ 36
abbrev yI:aG:=bZ 58
abbrev uf:aG:=bZ 40
abbrev yN:aG:=bZ 16
abbrev yP:aG:=bZ 17
abbrev yW:aG:=bZ 45
abbrev yV:aG:=bZ 55
abbrev yH:aG:=bZ 59
abbrev y_:aG:=(ig (bZ 60)).getD 1 (.Pass ⟨0,0,0,0⟩)
abbrev zb:aG:=(ig (bZ 60)).getD 2 (.Pass ⟨0,0,0,0⟩)
abbrev zc:aG:=(ig (bZ 60)).getD 3 (.Pass ⟨0,0,0,0⟩)
abbrev za:aG:=(ig (bZ 60)).getD 5 (.Pass ⟨0,0,0,0⟩)
abbrev yA:aG:=bZ 66
abbrev yE:aG:=bZ 67
abbrev yF:aG:=bZ 62
abbrev yD:aG:=bZ 70
abbrev ud:aG:=bZ 65
abbrev yG:aG:=bZ 71
def Lx:List (Str×jD):=[]
instance:Reg:=⟨fun t=>Lx.lookup t⟩
def bI:List Str:=["NoMany","NoLine","NoWord","NoFolk","NoText","NoName"]
def rj:ag->Option ae:=fun ρ=>au ((ρ[1]?).join) ((ρ[0]?).join) bz
def rO:ag->Option aA:=aX (fun ρ=>bj 5 ρ (au (au (au (au ((ρ[5]?).join) ((ρ[5]?).join) d7) ((ρ[3]?).join) ez) (au (some (.int 7919)) ((ρ[7]?).join) d7) ez) (some (.int 2147483629)) cu)) (aX (fun ρ=>bu (bq (au ((ρ[6]?).join) (some (.int 0)) p7)) ((au ((ρ[6]?).join) (some (.int 1000003)) cu).bind (kU 4 ρ)) ((au (au (au ((ρ[5]?).join) ((ρ[5]?).join) d7) (some (.int 2147483587)) cu) (some (.int 1000003)) cu).bind (kU 4 ρ))) (fun ρ=>bj 6 ρ (au ((ρ[6]?).join) (some (.int 1000003)) dz)))
def u7:ag->Option aA:=aX (fun ρ=>bj 3 ρ (((c_ (bS 0) (fun _=>some true) rj ((ai ((ρ[1]?).join) (ai ((ai ((ai ((ρ[0]?).join) (some [])).bind eG) (ai (some (.int 63)) (some []))).bind xW) (ai ((ρ[2]?).join) (some [])))).bind qE) (frees 1 [0] ρ)).map .list).bind uC)) (aX (fun ρ=>qJ 4 ρ (bX (some []))) (aX (fun ρ=>bj 5 ρ (au (au (au ((ρ[3]?).join) (some (.int 48271)) d7) (some (.int 40503)) ez) (some (.int 2147483629)) cu)) (aX (fun ρ=>bj 6 ρ (au ((ρ[3]?).join) ((ai (au ((ρ[3]?).join) (au (some (.int 10)) (some (.int 18)) f7) xC) (some [])).bind intD) d7)) (aX (fun ρ=>sU (bS 7) rO ((ai (some (.int 120)) (some [])).bind lu) ρ) (fun ρ=>(((((ρ[4]?).join).bind t9).filter lf.go).map .list).map .rt)))))
def lP:List ae->Option ae:=dm 3 5 u7
def AE:ag->Option aA:=DN "Desk" ["fields"] (fun ρ=>some (iQ [] [])) (mP .none)
def o4:List ae->Option (ae×ae):=lx 1 0 AE
def Gv:ag->Option ae:=fun ρ=>bo .tuple (ai ((ρ[0]?).join) (ai (some (.int 4)) (ai (some .none) (some []))))
def Gw:ag->Option ae:=fun ρ=>bo .tuple (ai ((ρ[0]?).join) (ai (some (.int 5)) (ai (some .none) (some []))))
def Gx:ag->Option ae:=fun ρ=>bo .tuple (ai ((ρ[0]?).join) (ai (some (.int 12)) (ai ((ρ[1]?).join) (some []))))
def Gy:ag->Option ae:=fun ρ=>bo .tuple (ai ((ρ[0]?).join) (ai (some (.int 11)) (ai ((ρ[1]?).join) (some []))))
def Gz:ag->Option ae:=fun ρ=>bo .tuple (ai ((ρ[0]?).join) (ai (some (.int 0)) (ai (some .none) (some []))))
def GA:ag->Option ae:=fun ρ=>bo .tuple (ai ((ρ[0]?).join) (ai (some (.int 6)) (ai ((ρ[1]?).join) (some []))))
def As:ag->Option aA:=aX (fun ρ=>qJ 1 ρ (bX (some []))) (aX (fun ρ=>bj 2 ρ ((bX (ai (some (.str (aj ""))) (ai (some (.str (aj " "))) (ai (some (.str (aj "line"))) (ai (some (.str (aj "line aa"))) (ai (some (.str (aj "put aa 1"))) (ai (some (.str (aj "put aa 1 2 3"))) (ai (some (.str (aj "drop"))) (ai (some (.str (aj "drop aa b"))) (ai (some (.str (aj "show"))) (ai (some (.str (aj "show aa 1"))) (some [])))))))))))).map .list)) (aX (fun ρ=>bj 2 ρ ((cZ ((ρ[2]?).join) ((bX (ai (some (.str (aj "least aa"))) (ai (some (.str (aj "least aa 1 2"))) (ai (some (.str (aj "posts aa"))) (ai (some (.str (aj "apart"))) (ai (some (.str (aj "fewest aa"))) (ai (some (.str (aj "all aa"))) (ai (some (.str (aj "Line aa 1*1"))) (some []))))))))).map .list)).map .list)) (aX (fun ρ=>bj 2 ρ ((cZ ((ρ[2]?).join) ((bX (ai (some (.str (aj "lines aa 1*1"))) (ai (some (.str (aj "put aa  1"))) (ai (some (.str (aj " show aa"))) (ai (some (.str (aj "show aa "))) (ai (some (.str (aj "all "))) (ai (some (.str (aj "line  1*1"))) (ai (some (.str (aj "least  1"))) (ai (some (.str (aj "show  "))) (some [])))))))))).map .list)).map .list)) (aX (fun ρ=>bj 2 ρ ((cZ ((ρ[2]?).join) ((bX (ai (some (.str (aj "put aa 1 "))) (ai (some (.str (aj "fewest aa "))) (ai (some (.str (aj "drop zz "))) (some []))))).map .list)).map .list)) (aX (fun ρ=>((c_ (bS 0) (fun _=>some true) Gv (((ρ[2]?).join).bind cH) (frees 1 [] ρ)).filter lf.go).bind (nX 1 ρ)) (aX (fun ρ=>((c_ (bS 0) (fun _=>some true) Gw (((bX (ai (some (.str (aj "line Aa 1*1"))) (ai (some (.str (aj "line abcdefghi 1*1"))) (ai (some (.str (aj "line a1 x"))) (ai (some (.str (aj "line a-b 1*0"))) (some [])))))).map .list).bind cH) (frees 1 [] ρ)).filter lf.go).bind (nX 1 ρ)) (aX (fun ρ=>bj 2 ρ ((bX (ai (bo .tuple (ai (some (.str (aj "drop zz"))) (ai (some (.str (aj "zz"))) (some [])))) (ai (bo .tuple (ai (some (.str (aj "show Aa"))) (ai (some (.str (aj "Aa"))) (some [])))) (ai (bo .tuple (ai (some (.str (aj "put zz x y"))) (ai (some (.str (aj "zz"))) (some [])))) (ai (bo .tuple (ai (some (.str (aj "least zz 0"))) (ai (some (.str (aj "zz"))) (some [])))) (ai (bo .tuple (ai (some (.str (aj "fewest zz -1"))) (ai (some (.str (aj "zz"))) (some [])))) (some []))))))).map .list)) (aX (fun ρ=>bj 2 ρ ((cZ ((ρ[2]?).join) ((bX (ai (bo .tuple (ai (some (.str (aj "posts abcdefghi 1"))) (ai (some (.str (aj "abcdefghi"))) (some [])))) (ai (bo .tuple (ai (some (.str (aj "apart q 0"))) (ai (some (.str (aj "q"))) (some [])))) (ai (bo .tuple (ai (some (.str (aj "put a 1 0"))) (ai (some (.str (aj "a"))) (some [])))) (ai (bo .tuple (ai (some (.str (aj "show bb"))) (ai (some (.str (aj "bb"))) (some [])))) (some [])))))).map .list)).map .list)) (aX (fun ρ=>((c_ (gz 2 (dg (bS 0) (dg (bS 1) gU))) (fun _=>some true) Gx (((ρ[2]?).join).bind cH) (frees 2 [] ρ)).filter lf.go).bind (nX 1 ρ)) (aX (fun ρ=>bj 2 ρ ((bX (ai (bo .tuple (ai (some (.str (aj "line aa x"))) (ai (some (.int 0)) (some [])))) (ai (bo .tuple (ai (some (.str (aj "line aa 1*1  2*2"))) (ai (some (.int 1)) (some [])))) (ai (bo .tuple (ai (some (.str (aj "line aa "))) (ai (some (.int 0)) (some [])))) (ai (bo .tuple (ai (some (.str (aj "line aa 1*1 nobody"))) (ai (some (.int 1)) (some [])))) (ai (bo .tuple (ai (some (.str (aj "line b 1*0 x"))) (ai (some (.int 1)) (some [])))) (some []))))))).map .list)) (aX (fun ρ=>bj 2 ρ ((cZ ((ρ[2]?).join) ((bX (ai (bo .tuple (ai (some (.str (aj "line b nobody 1*1"))) (ai (some (.int 0)) (some [])))) (ai (bo .tuple (ai (some (.str (aj "line aa 1*1 "))) (ai (some (.int 1)) (some [])))) (ai (bo .tuple (ai (some (.str (aj "line b 1*1 2*2 3"))) (ai (some (.int 2)) (some [])))) (ai (bo .tuple (ai (some (.str (aj "line zz 1*01"))) (ai (some (.int 0)) (some [])))) (some [])))))).map .list)).map .list)) (aX (fun ρ=>bj 2 ρ ((cZ ((ρ[2]?).join) ((bX (ai (bo .tuple (ai (some (.str (aj "put aa x 1"))) (ai (some (.int 2)) (some [])))) (ai (bo .tuple (ai (some (.str (aj "put aa 1 x"))) (ai (some (.int 3)) (some [])))) (ai (bo .tuple (ai (some (.str (aj "put aa x y"))) (ai (some (.int 2)) (some [])))) (ai (bo .tuple (ai (some (.str (aj "put aa 01 1"))) (ai (some (.int 2)) (some [])))) (ai (bo .tuple (ai (some (.str (aj "put aa 1 -0"))) (ai (some (.int 3)) (some [])))) (some []))))))).map .list)).map .list)) (aX (fun ρ=>bj 2 ρ ((cZ ((ρ[2]?).join) ((bX (ai (bo .tuple (ai (some (.str (aj "put b x 0"))) (ai (some (.int 2)) (some [])))) (ai (bo .tuple (ai (some (.str (aj "least aa x"))) (ai (some (.int 2)) (some [])))) (ai (bo .tuple (ai (some (.str (aj "least b 01"))) (ai (some (.int 2)) (some [])))) (ai (bo .tuple (ai (some (.str (aj "posts aa 1.5"))) (ai (some (.int 2)) (some [])))) (ai (bo .tuple (ai (some (.str (aj "apart aa +1"))) (ai (some (.int 2)) (some [])))) (some []))))))).map .list)).map .list)) (aX (fun ρ=>bj 2 ρ ((cZ ((ρ[2]?).join) ((bX (ai (bo .tuple (ai (some (.str (aj "fewest aa -1"))) (ai (some (.int 2)) (some [])))) (ai (bo .tuple (ai (some (.str (aj "fewest aa 2/4"))) (ai (some (.int 2)) (some [])))) (ai (bo .tuple (ai (some (.str (aj "fewest b 3/1"))) (ai (some (.int 2)) (some [])))) (ai (bo .tuple (ai (some (.str (aj "fewest aa 1/0"))) (ai (some (.int 2)) (some [])))) (some [])))))).map .list)).map .list)) (aX (fun ρ=>bj 2 ρ ((cZ ((ρ[2]?).join) ((bX (ai (bo .tuple (ai (some (.str (aj "fewest aa 1/-2"))) (ai (some (.int 2)) (some [])))) (ai (bo .tuple (ai (some (.str (aj "fewest aa /2"))) (ai (some (.int 2)) (some [])))) (ai (bo .tuple (ai (some (.str (aj "fewest aa 1/2/3"))) (ai (some (.int 2)) (some [])))) (ai (bo .tuple (ai (some (.str (aj "fewest b 0/5"))) (ai (some (.int 2)) (some [])))) (some [])))))).map .list)).map .list)) (aX (fun ρ=>bj 2 ρ ((cZ ((ρ[2]?).join) ((bX (ai (bo .tuple (ai (some (.str (aj "fewest aa -1/2"))) (ai (some (.int 2)) (some [])))) (ai (bo .tuple (ai (some (.str (aj "fewest aa 01/2"))) (ai (some (.int 2)) (some [])))) (ai (bo .tuple (ai (some (.str (aj "fewest aa 1/"))) (ai (some (.int 2)) (some [])))) (ai (bo .tuple (ai (some (.str (aj "fewest b 1/02"))) (ai (some (.int 2)) (some [])))) (some [])))))).map .list)).map .list)) (aX (fun ρ=>bj 2 ρ ((cZ ((ρ[2]?).join) ((bX (ai (bo .tuple (ai (some (.str (aj "line aa 1_0*2"))) (ai (some (.int 0)) (some [])))) (ai (bo .tuple (ai (some (.str (aj "line b 1*1 1*1_0"))) (ai (some (.int 1)) (some [])))) (ai (bo .tuple (ai (some (.str (aj "put aa 1_0 1"))) (ai (some (.int 2)) (some [])))) (ai (bo .tuple (ai (some (.str (aj "put aa 1 1_0"))) (ai (some (.int 3)) (some [])))) (some [])))))).map .list)).map .list)) (aX (fun ρ=>bj 2 ρ ((cZ ((ρ[2]?).join) ((bX (ai (bo .tuple (ai (some (.str (aj "least aa 1_0"))) (ai (some (.int 2)) (some [])))) (ai (bo .tuple (ai (some (.str (aj "posts b 1_0"))) (ai (some (.int 2)) (some [])))) (ai (bo .tuple (ai (some (.str (aj "apart aa 1_0"))) (ai (some (.int 2)) (some [])))) (ai (bo .tuple (ai (some (.str (aj "fewest b 1_0"))) (ai (some (.int 2)) (some [])))) (some [])))))).map .list)).map .list)) (aX (fun ρ=>bj 2 ρ ((cZ ((ρ[2]?).join) ((bX (ai (bo .tuple (ai (some (.str (aj "fewest aa 1_0/3"))) (ai (some (.int 2)) (some [])))) (ai (bo .tuple (ai (some (.str (aj "fewest aa 1/1_0"))) (ai (some (.int 2)) (some [])))) (some [])))).map .list)).map .list)) (aX (fun ρ=>((c_ (gz 2 (dg (bS 0) (dg (bS 1) gU))) (fun _=>some true) Gy (((ρ[2]?).join).bind cH) (frees 2 [] ρ)).filter lf.go).bind (nX 1 ρ)) (aX (fun ρ=>((c_ (bS 0) (fun _=>some true) Gz (((bX (ai (some (.str (aj "least aa 0"))) (ai (some (.str (aj "posts aa -3"))) (ai (some (.str (aj "apart b 0"))) (ai (some (.str (aj "least b -1"))) (ai (some (.str (aj "apart aa -12"))) (some []))))))).map .list).bind cH) (frees 1 [] ρ)).filter lf.go).bind (nX 1 ρ)) (aX (fun ρ=>bj 2 ρ ((bX (ai (bo .tuple (ai (some (.str (aj "line aa 1*0"))) (ai (some (.int 0)) (some [])))) (ai (bo .tuple (ai (some (.str (aj "line aa 1*1 2*-1 3*0"))) (ai (some (.int 1)) (some [])))) (ai (bo .tuple (ai (some (.str (aj "put aa 5 0"))) (ai ((ρ[0]?).join) (some [])))) (ai (bo .tuple (ai (some (.str (aj "put b 1 -2"))) (ai (some (.int 0)) (some [])))) (some [])))))).map .list)) (aX (fun ρ=>bj 2 ρ ((cZ ((ρ[2]?).join) ((bX (ai (bo .tuple (ai (some (.str (aj "line zz 1*1 2*2 3*0"))) (ai (some (.int 2)) (some [])))) (ai (bo .tuple (ai (some (.str (aj "put aa -7 -1"))) (ai ((ρ[0]?).join) (some [])))) (ai (bo .tuple (ai (some (.str (aj "line b 0*-4"))) (ai (some (.int 0)) (some [])))) (some []))))).map .list)).map .list)) (fun ρ=>((cZ ((ρ[1]?).join) ((c_ (gz 2 (dg (bS 0) (dg (bS 1) gU))) (fun _=>some true) GA (((ρ[2]?).join).bind cH) (frees 2 [] ρ)).map .list)).map .list).map .rt))))))))))))))))))))))))
def lQ:List ae->Option ae:=dm 1 2 As
def rP:ag->Option aA:=aX (fun ρ=>uv 4 ((fk 0) ρ)) (aX (fun ρ=>uv 5 ((fk 0) ρ)) (aX (fun ρ=>bj 6 ρ ((au ((bX (ai (au (au ((ρ[5]?).join) (some (.int 21)) cu) (some (.int 10)) iw) (ai (au (au ((ρ[5]?).join) (some (.int 2001)) cu) (some (.int 1000)) iw) (ai (au (au ((ρ[5]?).join) (au (some (.int 10)) (some (.int 30)) f7) d7) (au (some (.int 5)) (au (some (.int 10)) (some (.int 35)) f7) d7) iw) (some []))))).map .list) (au (au ((ρ[4]?).join) (some (.int 8)) cu) (some (.int 3)) dz) bz).filter lf)) (aX (fun ρ=>bj 7 ρ ((au ((bX (ai (some (.int 1)) (ai (au (some (.int 1)) (au (au ((ρ[4]?).join) (some (.int 8)) dz) (some (.int 9)) cu) ez) (ai (au (some (.int 1)) (au (au ((ρ[4]?).join) (some (.int 8)) dz) (some (.int 99)) cu) ez) (ai (au (au (some (.int 10)) (some (.int 30)) f7) ((ρ[4]?).join) ez) (some [])))))).map .list) (au (au (au ((ρ[4]?).join) (some (.int 1024)) dz) (some (.int 16)) cu) (some (.int 4)) dz) bz).filter lf)) (fun ρ=>(bo .tuple (ai ((ρ[6]?).join) (ai ((ρ[7]?).join) (some [])))).bind (kU 2 ρ)))))
def oP:ag->Option aA:=f9 (fun ρ=>qJ 2 ρ (bX (some []))) (f9 (fun ρ=>CN (bS 3) rP ((di cu (fk 0) (fun ρ=>au ((ρ[1]?).join) (some (.int 1)) ez)) ρ)) (EE 0 (fun ρ=>(ρ[2]?).join)))
def ky:List ae->Option (ae×List ae):=ua 2 6 oP
def oS:ag->Option aA:=aX (fun ρ=>bu (bq (au ((ρ[0]?).join) (some (.str (aj "line "))) j_)) (((((ρ[0]?).join).bind fun d=>(some (.str (aj " "))).bind fun e=>(some (.int 2)).bind fun k=>Fd d e k).map .list).map .rt) (some (.nx ρ))) (fun ρ=>((((ρ[0]?).join).bind fun d=>(some (.str (aj " "))).bind fun e=>mR d e).map .list).map .rt)
def iX:List ae->Option ae:=dm 1 0 oS
def Ag:ag->Option b7:=cB (fun ρ=>bu (bq (au ((au ((ρ[0]?).join) (some (.int 0)) bz).bind (xQ [("line",3),("put",4),("drop",2),("show",2),("least",3),("posts",3),("apart",3),("fewest",3),("all",1)])) ((ai ((ρ[0]?).join) (some [])).bind eG) eJ)) (some (.ex (jj "NoLine" []) ρ)) (some (.nx ρ))) (cB (fun ρ=>(bj 1 ρ (bu (bq (au (au ((ρ[0]?).join) (some (.int 0)) bz) (some (.str (aj "line"))) cc)) ((cutD ((ρ[0]?).join) (some none) (((some (.int 2)).bind eO).map some)).map .list) ((ρ[0]?).join))).map aA.x) (fun ρ=>bu (bq (au (some (.str (aj ""))) ((ρ[1]?).join) k_)) (some (.ex (jj "NoLine" []) ρ)) (some (.nx ρ))))
def kz:List ae->Option RX:=eU 1 1 Ag
def GI:List ae->Option ae:=gW kz
def nq:ag->Option b7:=fun ρ=>bu (bq (au (au ((ρ[2]?).join) (some (.int 1)) bz) (some (.int 1)) mG)) (mM "NoFolk" "number" ρ ((ρ[1]?).join)) (some (.nx ρ))
def Ae:ag->Option b7:=fun ρ=>xy (gz 2 (dg (bS 1) (dg (bS 2) gU))) nq ((((ρ[0]?).join).bind cH).map jh) ρ
def g_:List ae->Option RX:=eU 1 2 Ae
def rC:List ae->Option ae:=gW g_
def oU:ag->Option aA:=f9 (fun ρ=>pU ρ ((ai ((ρ[2]?).join) (some [])).bind rC)) (f9 (Eh 0 0 "Desk" ["fields"] (fun ρ=>(ρ[1]?).join) (fun ρ=>(ρ[2]?).join)) (mP .none))
def jA:List ae->Option (ae×ae):=lx 3 0 oU
def GB:ag->Option ae:=fun ρ=>au ((ρ[0]?).join) (some (.str (aj "abcdefghijklmnopqrstuvwxyz"))) p8
def Az:ag->Option aA:=fun ρ=>(jO (B9 (some (.int 1)) ((ai ((ρ[0]?).join) (some [])).bind qj) tu tu (some (.int 8))) (((c_ (bS 0) (fun _=>some true) GB (((ρ[0]?).join).bind sD) (frees 1 [] ρ)).map .list).bind sr)).map .rt
def kC:List ae->Option ae:=dm 1 0 Az
def vo:ag->Option ae:=fun ρ=>au ((ρ[0]?).join) (some (.str (aj "0123456789"))) p8
def u_:ag->Option aA:=fun ρ=>(jO (au ((ai ((ρ[0]?).join) (some [])).bind qj) (some (.int 0)) p7) (((c_ (bS 0) (fun _=>some true) vo (((ρ[0]?).join).bind sD) (frees 1 [] ρ)).map .list).bind sr)).map .rt
def lR:List ae->Option ae:=dm 1 0 u_
def vc:ag->Option aA:=aX (fun ρ=>bj 1 ρ (bu (bq (au ((ρ[0]?).join) (some (.str (aj "-"))) j_)) (sG ((ρ[0]?).join) (((some (.int 1)).bind eO).map some) (some none)) ((ρ[0]?).join))) (aX (fun ρ=>bu ((bq ((ai ((ρ[1]?).join) (some [])).bind lR)).map not) ((some .none).map .rt) (some (.nx ρ))) (aX (fun ρ=>bj 2 ρ ((ai ((ρ[0]?).join) (some [])).bind sZ)) (fun ρ=>(bu (bq (au ((ai ((ρ[2]?).join) (some [])).bind gY) ((ρ[0]?).join) cc)) ((ρ[2]?).join) (some .none)).map .rt)))
def jB:List ae->Option ae:=dm 1 2 vc
def AY:ag->Option ae:=fun ρ=>(ai ((ρ[0]?).join) (some [])).bind jB
def vd:ag->Option aA:=fun ρ=>((c_ (bS 0) (fun _=>some true) AY (((((ρ[0]?).join).bind fun d=>((ρ[1]?).join).bind fun e=>mR d e).map .list).bind cH) (frees 1 [] ρ)).map .list).map .rt
def kD:List ae->Option ae:=dm 2 0 vd
def ve:ag->Option aA:=aX (fun ρ=>bj 1 ρ ((ai ((ρ[0]?).join) (ai (some (.str (aj "*"))) (some []))).bind kD)) (aX (fun ρ=>bu (mJ (bq (au ((ai ((ρ[1]?).join) (some [])).bind eG) (some (.int 2)) eJ)) (bq (au (some .none) ((ρ[1]?).join) k_))) ((some .none).map .rt) (some (.nx ρ))) (fun ρ=>(bo .tuple (ai (au ((ρ[1]?).join) (some (.int 0)) bz) (ai (au ((ρ[1]?).join) (some (.int 1)) bz) (some [])))).map .rt))
def nc:List ae->Option ae:=dm 1 1 ve
def oZ:ag->Option ae:=fun ρ=>(ai ((ρ[0]?).join) (some [])).bind nc
def oM:ag->Option b7:=cB (fun ρ=>(bu (bq (au ((ρ[0]?).join) (some (.str (aj "nobody"))) cc)) (((bX (some [])).map .list).map .rt) (some (.nx ρ))).map aA.x) (cB (fun ρ=>(bj 1 ρ ((c_ (bS 0) (fun _=>some true) oZ (((((ρ[0]?).join).bind fun d=>(some (.str (aj " "))).bind fun e=>mR d e).map .list).bind cH) (frees 1 [] ρ)).map .list)).map aA.x) (cB (fun ρ=>bu (bq (au (some .none) ((ρ[1]?).join) nZ)) (mM "NoText" "at" ρ (au ((ρ[1]?).join) (some .none) xG)) (some (.nx ρ))) (fun ρ=>(((ρ[1]?).join).map .rt).map aA.x)))
def lO:List ae->Option RX:=eU 1 1 oM
def rJ:List ae->Option ae:=gW lO
def oW:ag->Option aA:=fun ρ=>bu ((bq ((ai ((ρ[1]?).join) (some [])).bind kC)).map not) none ((f9 (xV 0 jA (fun ρ=>ai ((ρ[1]?).join) (ai ((ai ((ρ[2]?).join) (some [])).bind rJ) (some [])))) (yx (fun ρ=>(ρ[1]?).join))) ρ)
def m5:List ae->Option (ae×ae):=lx 3 0 oW
def Al:ag->Option b7:=cB (fun ρ=>(bj 2 ρ ((ai (au ((ρ[0]?).join) ((ρ[1]?).join) bz) (some [])).bind jB)).map aA.x) (cB (fun ρ=>bu (bq (au ((ρ[2]?).join) (some .none) qf)) (mM "NoText" "at" ρ ((ρ[1]?).join)) (some (.nx ρ))) (fun ρ=>(((ρ[2]?).join).map .rt).map aA.x))
def iA:List ae->Option RX:=eU 2 1 Al
def A1:List ae->Option ae:=gW iA
def AF:ag->Option aA:=f9 (fun ρ=>bj 2 ρ (bo .tuple (ai ((ai ((ρ[1]?).join) (ai (some (.int 2)) (some []))).bind A1) (ai ((ai ((ρ[1]?).join) (ai (some (.int 3)) (some []))).bind A1) (some []))))) (f9 (fun ρ=>bj 3 ρ ((cZ (au (CK 0 0 ρ) (au ((ρ[1]?).join) (some (.int 1)) bz) jU) ((bX (ai ((ρ[2]?).join) (some []))).map .list)).map .list)) (f9 (xV 0 jA (fun ρ=>ai ((au ((ρ[1]?).join) (some (.int 1)) bz).filter lf) (ai ((ρ[3]?).join) (some [])))) (yx (fun ρ=>(ai ((ai ((ρ[3]?).join) (some [])).bind eG) (some [])).bind gY))))
def rl:List ae->Option (ae×ae):=lx 2 2 AF
def oV:ag->Option aA:=f9 (fun ρ=>bj 2 ρ ((ai ((ρ[1]?).join) (some [])).bind iX)) (f9 (fun ρ=>pU ρ ((ai ((ρ[2]?).join) (some [])).bind GI)) (fun ρ=>bu (bq (au (au ((ρ[2]?).join) (some (.int 0)) bz) (some (.str (aj "all"))) cc)) none ((fun ρ=>bu (bq (au (au ((ρ[2]?).join) (some (.int 0)) bz) (some (.str (aj "line"))) cc)) (yw m5 (fun ρ=>ai ((au ((ρ[2]?).join) (some (.int 1)) bz).filter lf) (ai ((au ((ρ[2]?).join) (some (.int 2)) bz).filter lf) (some []))) ρ) ((fun ρ=>bu (bq (au (au ((ρ[2]?).join) (some (.int 1)) bz) (((ρ[0]?).join).bind (iN "Desk" "fields")) x_)) none ((fun ρ=>bu (bq (au (au ((ρ[2]?).join) (some (.int 0)) bz) (some (.str (aj "put"))) cc)) (yw rl (fun ρ=>ai ((ρ[2]?).join) (some [])) ρ) ((fun ρ=>bu (bq (au (au ((ρ[2]?).join) (some (.int 0)) bz) (some (.str (aj "drop"))) cc)) none ((fun _=>none) ρ)) ρ)) ρ)) ρ)) ρ)))
def fR:List ae->Option (ae×ae):=lx 2 1 oV
def Ar:ag->Option aA:=aX (fun ρ=>bu (bq (au ((ρ[1]?).join) (some (.int 12)) cc)) ((((ρ[0]?).join).bind (p0 bI "name")).map .rt) (some (.nx ρ))) (aX (fun ρ=>bu (bq (au ((ρ[1]?).join) (some (.int 11)) cc)) ((((ρ[0]?).join).bind (p0 bI "at")).map .rt) (some (.nx ρ))) (aX (fun ρ=>bu (bq (au ((ρ[1]?).join) (some (.int 6)) cc)) ((((ρ[0]?).join).bind (p0 bI "number")).map .rt) (some (.nx ρ))) (fun ρ=>(some .none).map .rt)))
def rz:List ae->Option ae:=dm 2 0 Ar
def GC:ag->Option ae:=fun ρ=>(ai ((ρ[0]?).join) (some [])).bind gY
def AA:ag->Option aA:=aX (fun ρ=>bu (bq (au ((ρ[0]?).join) (some .none) qf)) ((some (.str (aj "nobody"))).map .rt) (some (.nx ρ))) (fun ρ=>(au (some (.str (aj " "))) ((c_ (bS 0) (fun _=>some true) GC (((ρ[0]?).join).bind cH) (frees 1 [] ρ)).map .list) mD).map .rt)
def rF:List ae->Option ae:=dm 1 0 AA
def Ay:ag->Option aA:=aX (fun ρ=>bj 1 ρ (au ((ρ[0]?).join) (some (.int 0)) bz)) (aX (fun ρ=>bj 2 ρ (au ((ρ[0]?).join) (some (.int 1)) bz)) (aX (fun ρ=>bu (bq (au ((ρ[2]?).join) (some (.int 1)) cc)) (((ai ((ρ[1]?).join) (some [])).bind gY).map .rt) (some (.nx ρ))) (fun ρ=>(tj (((ρ[1]?).join).bind jV) (some (.str (aj "/"))) (((ρ[2]?).join).bind jV)).map .rt)))
def kB:List ae->Option ae:=dm 1 2 Ay
def GD:ag->Option ae:=fun ρ=>(ai ((ρ[0]?).join) (some [])).bind kB
def AB:ag->Option aA:=aX (fun ρ=>bu (bq (au ((ai ((ρ[0]?).join) (some [])).bind eG) (some (.int 0)) cc)) ((some (.str (aj "none"))).map .rt) (some (.nx ρ))) (fun ρ=>(au (some (.str (aj " "))) ((c_ (bS 0) (fun _=>some true) GD (((ρ[0]?).join).bind cH) (frees 1 [] ρ)).map .list) mD).map .rt)
def rG:List ae->Option ae:=dm 1 0 AB
def Af:ag->Option b7:=fun ρ=>bu (bq (au ((ρ[0]?).join) (some (.int 1)) mG)) (some (.ex (jj "NoMany" []) ρ)) (some (.nx ρ))
def m8:List ae->Option RX:=eU 1 0 Af
def An:ag->Option b7:=cB (fun ρ=>gP ρ ((ai ((ρ[1]?).join) (some [])).bind m8)) (fun ρ=>((fun _=>none:ag->Option aA) ρ).map aA.x)
def rp:List ae->Option RX:=eU 2 2 An
def Ak:ag->Option b7:=cB (fun ρ=>gP ρ ((ai ((ρ[1]?).join) (some [])).bind m8)) (fun ρ=>((fun _=>none:ag->Option aA) ρ).map aA.x)
def m_:List ae->Option RX:=eU 2 1 Ak
def Ah:ag->Option b7:=cB (fun ρ=>gP ρ ((ai ((ρ[0]?).join) (some [])).bind g_)) (fun ρ=>((fun _=>none:ag->Option aA) ρ).map aA.x)
def m9:List ae->Option RX:=eU 2 4 Ah
def Ad:ag->Option b7:=fun ρ=>iq ρ (((((ρ[0]?).join).bind fun d=>(((ai ((ρ[0]?).join) (ai ((ρ[1]?).join) (some []))).bind m_).map RX.one).map (dq.cons d)).bind fun r=>r.then m9).bind (RX.ix 0))
def rn:List ae->Option RX:=eU 2 0 Ad
def Ac:ag->Option b7:=cB (fun ρ=>bu (bq (au ((ρ[0]?).join) (some (.str (aj "least"))) cc)) (iq ρ ((((ai ((ρ[1]?).join) (ai ((ρ[2]?).join) (some []))).bind m_).map RX.one).bind fun r=>r.then fun ds=>(kB ds).map .ret)) (some (.nx ρ))) (cB (fun ρ=>bu (bq (au ((ρ[0]?).join) (some (.str (aj "posts"))) cc)) (iq ρ ((((ai ((ρ[1]?).join) (ai ((ρ[2]?).join) (some []))).bind rn).map RX.one).bind fun r=>r.then fun ds=>(rG ds).map .ret)) (some (.nx ρ))) (fun ρ=>iq ρ ((((ai ((ρ[1]?).join) (ai ((ρ[2]?).join) (some []))).bind rp).map RX.one).bind fun r=>r.then fun ds=>(rF ds).map .ret)))
def rm:List ae->Option RX:=eU 3 0 Ac
def vq:ag->Option ae:=fun ρ=>tj (((ρ[0]?).join).bind jV) (some (.str (aj "*"))) (((ρ[1]?).join).bind jV)
def vb:ag->Option aA:=aX (fun ρ=>bu (bq (au ((ai ((ρ[0]?).join) (some [])).bind eG) (some (.int 0)) cc)) ((some (.str (aj "nobody"))).map .rt) (some (.nx ρ))) (fun ρ=>(au (some (.str (aj " "))) ((c_ (gz 2 (dg (bS 0) (dg (bS 1) gU))) (fun _=>some true) vq (((ρ[0]?).join).bind cH) (frees 2 [] ρ)).map .list) mD).map .rt)
def lS:List ae->Option ae:=dm 1 0 vb
def HU:ag->Option Bool:=fun ρ=>bq (au ((ρ[1]?).join) (some (.int 0)) eJ)
def Hb:ag->Option aA:=aX (fun ρ=>bj 2 ρ (au ((ρ[0]?).join) ((ρ[1]?).join) cu)) (aX (fun ρ=>bj 0 ρ ((ρ[1]?).join)) (fun ρ=>bj 1 ρ ((ρ[2]?).join)))
def Aw:ag->Option aA:=aX (fun ρ=>mU HU Hb ((fun ρ=>DG ρ 1+1) ρ) ρ) (fun ρ=>((ρ[0]?).join).map .rt)
def rD:List ae->Option ae:=dm 2 1 Aw
def Ax:ag->Option aA:=aX (fun ρ=>bj 2 ρ ((ai ((ρ[0]?).join) (ai ((ρ[1]?).join) (some []))).bind rD)) (fun ρ=>(bo .tuple (ai (au ((ρ[0]?).join) ((ρ[2]?).join) dz) (ai (au ((ρ[1]?).join) ((ρ[2]?).join) dz) (some [])))).map .rt)
def rE:List ae->Option ae:=dm 2 1 Ax
def AD:ag->Option aA:=aX (fun ρ=>bj 1 ρ ((ai ((ρ[0]?).join) (ai (some (.str (aj "/"))) (some []))).bind kD)) (aX (fun ρ=>bu (mJ (bq (au ((ai ((ρ[1]?).join) (some [])).bind eG) (some (.int 2)) p7)) (bq (au (some .none) ((ρ[1]?).join) k_))) ((some .none).map .rt) (some (.nx ρ))) (aX (fun ρ=>bj 2 ρ (au ((ρ[1]?).join) (some (.int 0)) bz)) (aX (fun ρ=>bj 3 ρ (bu (bq (au ((ai ((ρ[1]?).join) (some [])).bind eG) (some (.int 2)) cc)) (au ((ρ[1]?).join) (some (.int 1)) bz) (some (.int 1)))) (aX (fun ρ=>bu (mJ (bq (au ((ρ[2]?).join) (some (.int 0)) mG)) (bq (au ((ρ[3]?).join) (some (.int 1)) mG))) ((some .none).map .rt) (some (.nx ρ))) (aX (fun ρ=>bj 4 ρ ((ai ((ρ[2]?).join) (ai ((ρ[3]?).join) (some []))).bind rE)) (fun ρ=>(bu (bq (au ((ai ((ρ[4]?).join) (some [])).bind kB) ((ρ[0]?).join) cc)) ((ρ[4]?).join) (some .none)).map .rt))))))
def rH:List ae->Option ae:=dm 1 4 AD
def Am:ag->Option b7:=cB (fun ρ=>(bj 2 ρ ((ai (au ((ρ[0]?).join) ((ρ[1]?).join) bz) (some [])).bind rH)).map aA.x) (cB (fun ρ=>bu (bq (au ((ρ[2]?).join) (some .none) qf)) (mM "NoText" "at" ρ ((ρ[1]?).join)) (some (.nx ρ))) (fun ρ=>(((ρ[2]?).join).map .rt).map aA.x))
def ro:List ae->Option RX:=eU 2 1 Am
def oK:ag->Option b7:=cB (fun ρ=>(bu (bq (au (au ((ρ[0]?).join) (some (.int 0)) bz) (some (.str (aj "show"))) cc)) (((ai ((ρ[1]?).join) (some [])).bind lS).map .rt) (some (.nx ρ))).map aA.x) (cB (fun ρ=>bu (bq (au (au ((ρ[0]?).join) (some (.int 0)) bz) (some (.str (aj "fewest"))) cc)) (iq ρ (((((((ρ[1]?).join).bind fun d=>(((ai ((ρ[0]?).join) (ai (some (.int 2)) (some []))).bind ro).map RX.one).map (dq.cons d)).bind fun r=>r.then m9).bind (RX.ix 0)).bind (RX.b eG)).bind (RX.b gY))) (some (.nx ρ))) (fun ρ=>iq ρ (((au ((ρ[0]?).join) (some (.int 0)) bz).bind fun d=>(((ρ[1]?).join).bind fun d=>(((ai ((ρ[0]?).join) (ai (some (.int 2)) (some []))).bind iA).map RX.one).map (dq.cons d)).map (dq.cons d)).bind fun r=>r.then rm)))
def lN:List ae->Option RX:=eU 2 0 oK
def oN:ag->Option b7:=cB (fun ρ=>gP ρ ((ai ((ρ[2]?).join) (some [])).bind g_)) (fun ρ=>((fun _=>none:ag->Option aA) ρ).map aA.x)
def iV:List ae->Option RX:=eU 3 0 oN
def Ao:ag->Option b7:=cB (fun ρ=>bu ((bq ((ai ((ρ[1]?).join) (some [])).bind kC)).map not) (some (.ex (jj "NoWord" []) ρ)) (some (.nx ρ))) (cB (fun ρ=>gP ρ (gk "Desk" "lay" iV (fun ρ=>(ρ[0]?).join) (fun ρ=>((ρ[1]?).join).bind fun d=>(((ai ((ρ[2]?).join) (some [])).bind lO).map RX.one).map (dq.cons d)) ρ)) (fun ρ=>(((ρ[1]?).join).map .rt).map aA.x))
def rq:List ae->Option RX:=eU 3 0 Ao
def oO:ag->Option b7:=cB (fun ρ=>zx 2 ρ ((((ai ((ρ[1]?).join) (ai (some (.int 2)) (some []))).bind iA).bind fun r=>r.cons (((ai ((ρ[1]?).join) (ai (some (.int 3)) (some []))).bind iA).map RX.one)).bind dq.tup)) (cB (fun ρ=>(bj 3 ρ ((cZ (au (((ρ[0]?).join).bind (iN "Desk" "fields")) (au ((ρ[1]?).join) (some (.int 1)) bz) jU) ((bX (ai ((ρ[2]?).join) (some []))).map .list)).map .list)).map aA.x) (cB (fun ρ=>gP ρ (gk "Desk" "lay" iV (fun ρ=>(ρ[0]?).join) (fun ρ=>(ai (au ((ρ[1]?).join) (some (.int 1)) bz) (ai ((ρ[3]?).join) (some []))).map .ret) ρ)) (fun ρ=>(((ai ((ai ((ρ[3]?).join) (some [])).bind eG) (some [])).bind gY).map .rt).map aA.x)))
def kA:List ae->Option RX:=eU 2 2 oO
def ko:ag->Option b7:=cB (fun ρ=>(bj 2 ρ ((ai ((ρ[1]?).join) (some [])).bind iX)).map aA.x) (cB (fun ρ=>gP ρ ((ai ((ρ[2]?).join) (some [])).bind kz)) (cB (fun ρ=>(bu (bq (au (au ((ρ[2]?).join) (some (.int 0)) bz) (some (.str (aj "all"))) cc)) ((au (some (.str (aj " "))) (((((ρ[0]?).join).bind (iN "Desk" "fields")).bind zB).map .list) mD).map .rt) (some (.nx ρ))).map aA.x) (cB (fun ρ=>bu (bq (au (au ((ρ[2]?).join) (some (.int 0)) bz) (some (.str (aj "line"))) cc)) (iq ρ (gk "Desk" "tell_line" rq (fun ρ=>(ρ[0]?).join) (fun ρ=>(ai (au ((ρ[2]?).join) (some (.int 1)) bz) (ai (au ((ρ[2]?).join) (some (.int 2)) bz) (some []))).map .ret) ρ)) (some (.nx ρ))) (cB (fun ρ=>bu (bq (au (au ((ρ[2]?).join) (some (.int 1)) bz) (((ρ[0]?).join).bind (iN "Desk" "fields")) x_)) (Ey "NoName" "name" ρ (au ((ρ[2]?).join) (some (.int 1)) bz)) (some (.nx ρ))) (cB (fun ρ=>bu (bq (au (au ((ρ[2]?).join) (some (.int 0)) bz) (some (.str (aj "put"))) cc)) (iq ρ (gk "Desk" "tell_put" kA (fun ρ=>(ρ[0]?).join) (fun ρ=>(ai ((ρ[2]?).join) (some [])).map .ret) ρ)) (some (.nx ρ))) (cB (fun ρ=>bu (bq (au (au ((ρ[2]?).join) (some (.int 0)) bz) (some (.str (aj "drop"))) cc)) none (some (.nx ρ))) (fun ρ=>iq ρ ((ai ((ρ[2]?).join) (ai (au (((ρ[0]?).join).bind (iN "Desk" "fields")) (au ((ρ[2]?).join) (some (.int 1)) bz) jU) (some []))).bind lN))))))))
def gF:List ae->Option RX:=eU 2 1 ko
def gH:List ae->Option ae:=gW gF
def Aq:ag->Option aA:=aX (fun ρ=>bj 1 ρ ((bX (ai (((ρ[0]?).join).bind (eP bI "NoMany")) (ai (((ρ[0]?).join).bind (eP bI "NoPosts")) (ai (((ρ[0]?).join).bind (eP bI "NoReach")) (ai (((ρ[0]?).join).bind (eP bI "NoRing")) (some [])))))).map .list)) (aX (fun ρ=>bj 1 ρ ((cZ ((ρ[1]?).join) ((bX (ai (((ρ[0]?).join).bind (eP bI "NoLine")) (ai (((ρ[0]?).join).bind (eP bI "NoWord")) (ai (((ρ[0]?).join).bind (eP bI "NoFolk")) (some []))))).map .list)).map .list)) (aX (fun ρ=>bj 1 ρ ((cZ ((ρ[1]?).join) ((bX (ai (((ρ[0]?).join).bind (eP bI "NoPost")) (ai (((ρ[0]?).join).bind (eP bI "NoTable")) (ai (((ρ[0]?).join).bind (eP bI "NoWay")) (some []))))).map .list)).map .list)) (fun ρ=>((cZ ((ρ[1]?).join) ((bX (ai (((ρ[0]?).join).bind (eP bI "NoThing")) (ai (((ρ[0]?).join).bind (eP bI "NoText")) (ai (((ρ[0]?).join).bind (eP bI "NoName")) (some []))))).map .list)).map .list).map .rt)))
def o5:List ae->Option ae:=dm 1 1 Aq
def Au:ag->Option aA:=aX (fun ρ=>bu (mJ ((bq (((ρ[0]?).join).bind (eP bI "ValueError"))).map not) (bq (au (au ((ai ((ρ[0]?).join) (some [])).bind o5) (some (.bool true)) w8) (some (.int 1)) eJ))) (((some (.int 1)).bind tL).map .rt) (some (.nx ρ))) (fun ρ=>(au ((ai ((ρ[0]?).join) (some [])).bind o5) (some (.bool true)) xF).map .rt)
def rA:List ae->Option ae:=dm 1 0 Au
def Av:ag->Option aA:=fun ρ=>(jO (((ρ[0]?).join).bind (n4 "int")) (x9 (((ρ[0]?).join).bind (n4 "bool")))).map .rt
def rB:List ae->Option ae:=dm 1 0 Av
def vI:ag->Option aA:=fun ρ=>bj 4 ρ ((ρ[5]?).join)
def oQ:ag->Option aA:=aX (fun ρ=>bj 4 ρ (some .none)) (aX (fun ρ=>qS 5 bI vI (gP ρ (gk "Desk" "tell" gF (fun ρ=>(ρ[0]?).join) (fun ρ=>(ai ((ρ[1]?).join) (some [])).map .ret) ρ))) (aX (fun ρ=>bu (bq (au ((ai ((ρ[4]?).join) (some [])).bind rA) ((ρ[2]?).join) eJ)) ((some (.bool false)).map .rt) (some (.nx ρ))) (aX (fun ρ=>bj 6 ρ ((ai ((ρ[4]?).join) (ai ((ρ[2]?).join) (some []))).bind rz)) (fun ρ=>(jO (au ((ρ[6]?).join) ((ρ[3]?).join) cc) (jO (qr (au ((ρ[2]?).join) (bo .tuple (ai (some (.int 6)) (ai (some (.int 11)) (some [])))) DR) ((ai ((ρ[6]?).join) (some [])).bind rB)) (qr (au ((ρ[2]?).join) (some (.int 12)) eJ) (((ρ[6]?).join).bind (n4 "str"))))).map .rt))))
def gG:List ae->Option ae:=dm 4 3 oQ
def vn:ag->Option ae:=fun ρ=>au (au ((ai ((ρ[0]?).join) (some [])).bind gY) (some (.str (aj "*"))) hZ) ((ai ((ρ[1]?).join) (some [])).bind gY) hZ
def u9:ag->Option aA:=aX (fun ρ=>bu (bq (au ((ρ[0]?).join) ((bX (some [])).map .list) cc)) ((some (.str (aj "nobody"))).map .rt) (some (.nx ρ))) (fun ρ=>(au (some (.str (aj " "))) ((c_ (gz 2 (dg (bS 0) (dg (bS 1) gU))) (fun _=>some true) vn (((ρ[0]?).join).bind cH) (frees 2 [] ρ)).map .list) mD).map .rt)
def iW:List ae->Option ae:=dm 1 0 u9
def pb:ag->Option aA:=aX (fun ρ=>wL (gz 3 (dg (bS 6) (dg (bS 7) (dg (bS 8) gU)))) ((j1 bz (fun ρ=>(ρ[4]?).join) (di cu (fk 1) (fun ρ=>(ai ((ρ[4]?).join) (some [])).bind eG))) ρ)) (aX (fun ρ=>bu ((bq ((ai ((ρ[3]?).join) (ai ((ρ[6]?).join) (ai ((ρ[7]?).join) (ai ((ρ[8]?).join) (some []))))).bind gG)).map not) ((some (.bool false)).map .rt) (some (.nx ρ))) (fun ρ=>bu (bq (au ((bX (ai (gN "Desk" "tell" gH (fun ρ=>(ρ[3]?).join) (fun ρ=>ai (some (.str (aj "all"))) (some [])) ρ) (ai (gN "Desk" "tell" gH (fun ρ=>(ρ[3]?).join) (fun ρ=>ai (some (.str (aj "show aa"))) (some [])) ρ) (ai (gN "Desk" "tell" gH (fun ρ=>(ρ[3]?).join) (fun ρ=>ai (some (.str (aj "show b"))) (some [])) ρ) (some []))))).map .list) ((bX (ai (some (.str (aj "aa b"))) (ai ((ai ((ρ[2]?).join) (some [])).bind iW) (ai (some (.str (aj "nobody"))) (some []))))).map .list) eJ)) ((some (.bool false)).map .rt) (some (.nx ρ))))
def oR:ag->Option aA:=aX (fun ρ=>bj 1 ρ ((ai ((ρ[0]?).join) (ai (some (.int 0)) (ai (some (.int 2)) (some [])))).bind lP)) (aX (fun ρ=>uv 2 ((sC (sy 1 ky (fun ρ=>ai (some (.int 4)) (some []))) (qo (iI (qT (iI (di cu (fk 1) (fun ρ=>some (.int 9))) (iI (j1 ez (fun ρ=>some (.int 1)) (di cu (fk 1) (fun ρ=>some (.int 9)))) (fun ρ=>some ([],ρ))))) (fun ρ=>some ([],ρ))))) ρ)) (aX (fun ρ=>bj 3 ρ (xY "Desk" o4 (some []))) (aX (fun ρ=>CW (yd (uJ (di eJ (j0 3 fR (fun ρ=>ai (au (some (.str (aj "line aa "))) ((ai ((ρ[2]?).join) (some [])).bind iW) hZ) (some []))) (fun ρ=>some (.str (aj "aa"))) ρ)) (fun ρ=>uJ (di eJ (j0 3 fR (fun ρ=>ai (some (.str (aj "line b nobody"))) (some []))) (fun ρ=>some (.str (aj "b"))) ρ))) (fun ρ=>(some (.bool false)).map .rt) (fun ρ=>some (.nx ρ))) (aX (fun ρ=>bj 4 ρ ((ai ((ai ((ρ[2]?).join) (some [])).bind eG) (some [])).bind lQ)) (aX (fun ρ=>sU (bS 5) pb ((ai (some (.int 20)) (some [])).bind lu) ρ) (fun ρ=>(wJ (di cc (j0 3 fR (fun ρ=>ai (some (.str (aj "put b 4 2"))) (some []))) (fun ρ=>some (.str (aj "1"))) ρ) (fun ρ=>au (gN "Desk" "tell" gH (fun ρ=>(ρ[3]?).join) (fun ρ=>ai (some (.str (aj "show b"))) (some [])) ρ) (some (.str (aj "4*2"))) cc)).map .rt))))))
def o6:List ae->Option ae:=dm 1 8 oR
end NW
namespace NW
open L2
local macro_rules | `(tactic| walk_at "ev")=>`(tactic| try simp only[dm,qI,qR,RK,dB,vT,Nat.reduceAdd,reduceIte,bV,rT,List.reduceReplicate,e6,List.nil_append,vO,List.getElem?_cons_zero,vR,List.set_cons_zero,List.set_cons_succ,Option.join_some,bW,l5,Hr,Cm,FE,Jq,Jp,Ib,Ia,NI,NH,Ie,Ic,NK,NJ,Mx,P7,P6,JK,J_,Io,cW,pN,uB,Dt,LB,Ky,Kp,Cz,Mr,Lh,Li,bS,tL,LF,LG,LR,RP,P0,Qd,Qe,Qf,Qg,Qh,Qi,NM,NL,Bool.not_true,Bool.not_false])
theorem Dp:∀ zs:List Int,lf.go (zs.map PyData.int)=true
 | []=>rfl
 | z::r=>by rw[bV,lf.go,Dp r];rfl
theorem DE {a b:Int}(hb:b.natAbs<2 ^ 63):d7 (.int a) (.int b)=some (.int (a*b)):=by
 have:s_ b=true:=decide_eq_true hb
 simp[d7,jo,eO,this]
theorem qp {a b:Int}(ha:a.natAbs<2 ^ 63):d7 (.int a) (.int b)=some (.int (a*b)):=by
 have:s_ a=true:=decide_eq_true ha
 simp[d7,jo,eO,this]
theorem O2 {i j:Int}(h1:i.natAbs<2 ^ 60)(h2:j.natAbs<2 ^ 60):qE [.int i,.int j,.int 2]=some (ir i ((j - i+1) / 2).toNat):=by
 refine (show (if (decide (i.natAbs<2 ^ 60)&&(decide (j.natAbs<2 ^ 60)&&decide ((2:Int)=2)))=true then some (ir i ((j - i+1) / 2).toNat) else none)=_ from if_pos ?_)
 rw[decide_eq_true h1,decide_eq_true h2]
 rfl
def iL (ds:List Int):Prop:=∀ d∈ds,0≤d∧d<1000003
theorem K1 (ns:List Int):la (ns.map .int)=some ns:=C0 ns
theorem R6 (ns:List Int)(a:Nat)(hl:ns.length≤63)(ha:a≤1) :
  ∃ S:Int,((c_ (bS 0) (fun _=>some true) rj ((qE [.int (a:Nat),.int (if (63:Int)<(ns.length:Nat) then 63 else (ns.length:Nat)),.int 2])) [none,some (.list (ns.map .int))]).map .list).bind uC=some (.int S):=by
 have hm:(if (63:Int)<(ns.length:Nat) then 63 else ((ns.length:Nat):Int))=(ns.length:Nat):=if_neg (by omega)
 rw[hm,O2 (by omega) (by omega)]
 generalize hn:((((ns.length:Nat):Int) - (a:Nat)+1) / 2).toNat=n
 have hlt:∀ i,i<n->a+2*i<ns.length:=fun i hi=>by omega
 have e:=mr (S:=bS 0) (fe:=rj) (fun i:Nat=>PyData.int ((a:Nat)+(i:Nat)*2)) PyData.int (fun i:Nat=>ns.getD (a+2*i) 0) (fun ρ=>∃ c,ρ=[c,some (.list (ns.map .int))]) (fun i=>a+2*i<ns.length) (fun i ρ hi ⟨c,e⟩=>⟨[some (.int ((a:Nat)+(i:Nat)*2)),some (.list (ns.map .int))],by rw[e];rfl,⟨_,rfl⟩,by
  simp only[rj]
  walk_at "ev"
  rw[show (((a:Nat):Int)+(i:Nat)*2)=((a+2*i:Nat):Int) by omega]
  rw[bz]
  refine BR ?_
  rw[e7,ph hi,pf,ph hi]
  rfl⟩) (iF n) [none,some (.list (ns.map .int))] ⟨_,rfl⟩ (fun i hi=>hlt i (List.mem_range.mp hi))
 have hlen:(ir (a:Nat) n).length≤1000:=by unfold ir;rw[cm,Hl];omega
 refine⟨((iF n).map fun i=>ns.getD (a+2*i) 0).sum,?_⟩
 rw[nV hlen,show ir (a:Nat) n=(iF n).map (fun i:Nat=>PyData.int ((a:Nat)+(i:Nat)*2)) from rfl,e]
 show (la _).map _=_
 rw[K1]
 rfl
theorem JG (s a p:Option ae)(S first rest:Int)(ds:List Int)(k:Nat)(hf:0≤first∧first<2147483629)(hd:iL ds)(hl:ds.length<900)(hk:k<900) :
  ∃ first' rest' d,0≤first'∧first'<2147483629∧0≤d∧d<1000003 ∧
   rO [s,a,p,some (.int S),some (.list (ds.map .int)),some (.int first),some (.int rest),some (.int (k:Nat))]=some (.nx [s,a,p,some (.int S),some (.list ((ds++[d]).map .int)),some (.int first'),some (.int rest'),some (.int (k:Nat))]):=by
 have m1:d7 (.int first) (.int first)=some (.int (first*first)):=qp (by omega)
 have m2:d7 (.int 7919) (.int (k:Nat))=some (.int (7919*(k:Nat))):=qp (by decide)
 have fd:dz (.int rest) (.int 1000003)=some (.int (rest / 1000003)):=CI (by decide) rfl
 have ap:∀ (d:Int) (x5 x6:Option ae),kU 4 [s,a,p,some (.int S),some (.list (ds.map .int)),x5,x6,some (.int (k:Nat))] (.int d)=some (.nx [s,a,p,some (.int S),some (.list ((ds++[d]).map .int)),x5,x6,some (.int (k:Nat))]):=fun d x5 x6=>by
  show (if decide ((ds.map PyData.int).length<1000)=true then some (aA.nx [s,a,p,some (.int S),some (.list (ds.map PyData.int++[.int d])),x5,x6,some (.int (k:Nat))]) else none)=_
  rw[if_pos (decide_eq_true (by rw[cm];omega)),jF]
  rfl
 generalize hf':(first*first+S+7919*(k:Nat)) % 2147483629=first'
 have b':0≤first'∧first'<2147483629:=by omega
 have m3:d7 (.int first') (.int first')=some (.int (first'*first')):=qp (by omega)
 simp only[rO]
 walk_at "ev"
 rw[m1,m2]
 walk_at "ev"
 rw[gT (by decide),hf']
 walk_at "ev"
 by_cases h:0<rest
 ·rw[decide_eq_true h]
  walk_at "ev"
  rw[gT (by decide)]
  walk_at "ev"
  rw[ap]
  walk_at "ev"
  rw[fd]
  walk_at "ev"
  exact⟨first',rest / 1000003,rest % 1000003,b'.1,b'.2,by omega,by omega,rfl⟩
 ·rw[decide_eq_false h]
  walk_at "ev"
  rw[m3]
  walk_at "ev"
  rw[gT (by decide)]
  walk_at "ev"
  rw[gT (by decide)]
  walk_at "ev"
  rw[ap]
  walk_at "ev"
  rw[fd]
  walk_at "ev"
  exact⟨first',rest / 1000003,first'*first' % 2147483587 % 1000003,b'.1,b'.2,by omega,by omega,rfl⟩
theorem JH (ns:List Int)(a:Nat)(hl:ns.length≤63)(ha:a≤1):∃ ds:List Int,ds.length=120∧iL ds∧lP [.list (ns.map .int),.int (a:Nat),.int 2]=some (.list (ds.map .int)):=by
 obtain⟨S,eS⟩:=R6 ns a hl ha
 have m1:d7 (.int S) (.int 48271)=some (.int (S*48271)):=DE (by decide)
 obtain⟨R,eR⟩:∃ R,d7 (.int S) (.int (if (10 ^ 18:Int)≤S then 1 else 0))=some (.int R):=⟨_,DE (by split <;> decide)⟩
 generalize hf0:(S*48271+40503) % 2147483629=f0
 have b0:0≤f0∧f0<2147483629:=by omega
 obtain⟨ρ',e,ds,f',r',c7,h1,h2,h3,rfl⟩:=CM (S:=bS 7) (F:=rO) (fun i ρ=>∃ (ds:List Int) (f r:Int) (c7:Option ae),ds.length=i∧iL ds∧(0≤f∧f<2147483629)∧ρ=[some (.list (ns.map .int)),some (.int (a:Nat)),some (.int 2),some (.int S),some (.list (ds.map .int)),some (.int f),some (.int r),c7])
  (eT 0 120) 0 [some (.list (ns.map .int)),some (.int (a:Nat)),some (.int 2),some (.int S),some (.list []),some (.int f0),some (.int R),none] ⟨[],f0,R,none,rfl,fun d hd=>(by cases hd),b0,rfl⟩ (by
   rintro i d ρ hd ⟨ds,f,r,c7,h1,h2,h3,rfl⟩
   obtain⟨hi,rfl⟩:=O3 hd
   obtain⟨f',r',x,a1,a2,a3,a4,es⟩:=JG (some (.list (ns.map .int))) (some (.int (a:Nat))) (some (.int 2)) S f r ds i h3 h2 (by omega) (by omega)
   refine⟨_,_,rfl,es,ds++[x],f',r',_,by rw[eN,nu];omega,fun y hy=>?_,⟨a1,a2⟩,rfl⟩
   rcases List.mem_append.mp hy with hy | hy
   ·exact h2 y hy
   ·rw[List.mem_singleton.mp hy];exact⟨a3,a4⟩)
 refine⟨ds.reverse,?_,fun d hd=>h2 d (List.mem_reverse.mp hd),?_⟩
 ·rw[Hm,h1]
  unfold eT
  rw[cm,Hl]
 ·have iD:L2.intD [.bool (decide ((10 ^ 18:Int)≤S))]=some (.int (if (10 ^ 18:Int)≤S then 1 else 0)):=by
   by_cases h:(10 ^ 18:Int)≤S
   ·rw[decide_eq_true h,if_pos h];rfl
   ·rw[decide_eq_false h,if_neg h];rfl
  rw[lP]
  walk_at "ev"
  simp only[u7]
  walk_at "ev"
  rw[cm,show xW [.int ((ns.length:Nat):Int),.int 63]=some (.int (if (63:Int)<(ns.length:Nat) then 63 else (ns.length:Nat))) from rfl]
  walk_at "ev"
  rw[show frees 1 [0] [some (.list (ns.map .int)),some (.int (a:Nat)),some (.int 2),none,none,none,none,none]=[none,some (.list (ns.map .int))] from rfl,eS]
  walk_at "ev"
  rw[m1]
  walk_at "ev"
  rw[gT (by decide),hf0]
  walk_at "ev"
  rw[show f7 (.int 10) (.int 18)=some (.int (10 ^ 18)) from rfl]
  walk_at "ev"
  rw[iD]
  walk_at "ev"
  rw[eR]
  walk_at "ev"
  rw[show lu [.int 120]=some (eT 0 120) from rfl]
  walk_at "ev"
  rw[e]
  walk_at "ev"
  rw[show t9 (.list (ds.map .int))=some (ds.map .int).reverse from rfl,← List.map_reverse]
  rw[J1 (Dp _)]
  walk_at "ev"
theorem yn {ps:List Int}(h:ps≠[]){ρ:ag}(hρ:(ρ[0]?).join=some (.list (ps.map .int))):∃ x,x∈ps∧fk 0 ρ=some (.int x,ρ.set 0 (some (.list (ps.dropLast.map .int)))):=by
 refine⟨ps.getLast h,List.getLast_mem h,?_⟩
 unfold fk
 rw[hρ,bW]
 show (some (ps.map PyData.int)).bind _=_
 rw[bW,Hk,Hj h,l5,l5,Hn]
theorem sJ {ps:List Int}(h:iL ps):iL ps.dropLast:=fun d hd=>h d (List.dropLast_subset _ hd)
theorem ou {F G:ag->Option aA}{ρ ρ':ag}(h:F ρ=some (.nx ρ')):f9 F G ρ=G ρ':=by
 unfold f9
 rw[h]
 rfl
theorem Og {ps:List Int}(h:ps≠[])(hd:iL ps){m:Int}(hm:0<m){g:ag->Option ae}{r:ag}(hg:g (some (.list (ps.dropLast.map .int))::r)=some (.int m)) :
  ∃ x,(0≤x∧x<m)∧di cu (fk 0) g (some (.list (ps.map .int))::r)=some (.int x,some (.list (ps.dropLast.map .int))::r):=by
 obtain⟨x,hx,e⟩:=yn h (ρ:=some (.list (ps.map .int))::r) rfl
 refine⟨x % m,⟨Int.emod_nonneg _ (by omega),Int.emod_lt_of_pos _ hm⟩,?_⟩
 unfold di
 rw[e,bW]
 show (g (some (.list (ps.dropLast.map .int))::r)).bind _=_
 rw[hg,bW,gT hm]
 rfl
def sm (n:Int):Prop:=n.natAbs<10 ^ 60
theorem E8 {n:Int}(h:sm n):n.natAbs.log2<1920:=by
 by_cases z:n.natAbs=0
 ·rw[z];decide
 ·exact (vX z).mpr (dI h (by decide +kernel))
theorem zD {n:Int}(h:sm n):gY [.int n]=some (.str (nT n)):=if_pos (E8 h)
theorem CL {n:Int}(h:sm n):jV (.int n)=some (.str (nT n)):=if_pos (E8 h)
theorem pY {n:Int}(h:sm n):cG (nT n)=true:=decide_eq_true (dn (ll h) (by decide))
theorem JF:∀ d,d<10->(iy (aj "0123456789") ⟨#[48+d]⟩ 0 10 1).isEmpty=false:=by decide +kernel
theorem KO {c:Nat}(h:48≤c∧c≤57):p8 (.str ⟨#[c]⟩) (.str (aj "0123456789"))=some (.bool true):=by
 have:=JF (c - 48) (by omega)
 rw[show 48+(c - 48)=c by omega] at this
 show some (PyData.bool (!(iy (aj "0123456789") ⟨#[c]⟩ 0 10 1).isEmpty))=_
 rw[this]
 rfl
theorem Iz:∀ n:Nat,nS (cO n (.bool true))=some (cO n true):=by
 intro n
 induction n with
 | zero=>rfl
 | succ n ih=>rw[List.replicate_succ,nS,ih];rfl
theorem CJ {x:Str}(hd:∀ c∈x.cps.toList,48≤c∧c≤57)(hn:x.cps.toList≠[])(hl:x.length≤100):lR [.str x]=some (.bool true):=by
 have e1:qj [.str x]=some (.int x.length):=if_pos (decide_eq_true (dn hl (by decide)))
 have hlen:x.cps.toList.length=x.length:=gC
 have e2:sD (.str x)=some (x.cps.toList.map fun c=>.str ⟨#[c]⟩):=by
  show (if x.cps.all (·<128)=true then some (x.cps.toList.map fun c=>PyData.str ⟨#[c]⟩) else none)=_
  rw[if_pos]
  rw[← Array.all_toList,pd]
  intro c hc
  have:=hd c hc
  exact decide_eq_true (by omega)
 have e3:c_ (bS 0) (fun _=>some true) vo (some (x.cps.toList.map fun c=>PyData.str ⟨#[c]⟩)) [none]=some ((x.cps.toList.map fun _=>true).map PyData.bool):=by
  rw[nV (by rw[cm];omega)]
  exact mr (S:=bS 0) (fe:=vo) (fun c:Nat=>PyData.str ⟨#[c]⟩) PyData.bool (fun _=>true) (fun ρ=>∃ y,ρ=[y]) (fun c=>48≤c∧c≤57) (fun c ρ hc hρ=>by
   obtain⟨y,rfl⟩:=hρ
   exact⟨[some (.str ⟨#[c]⟩)],rfl,⟨_,rfl⟩,KO hc⟩) _ _ ⟨_,rfl⟩ hd
 have e4:sr (.list ((x.cps.toList.map fun _=>true).map PyData.bool))=some (.bool true):=by
  have h0:(x.cps.toList.map fun _=>true)=cO x.cps.toList.length true:=List.map_const'
  have h1:((x.cps.toList.map fun _=>true).map PyData.bool)=cO x.cps.toList.length (.bool true):=by rw[h0,List.map_replicate]
  show ((nS ((x.cps.toList.map fun _=>true).map PyData.bool)).map fun bs=>PyData.bool (bs.all id))=_
  rw[h1,Iz,l5]
  congr 2
  rw[pd]
  intro b hb
  rw[List.eq_of_mem_replicate hb]
  rfl
 have hp:0<x.length:=by
  rw[← hlen]
  exact List.length_pos_iff.mpr hn
 rw[lR]
 walk_at "ev"
 simp only[u_]
 walk_at "ev"
 rw[e1,e2,show frees 1 [] [some (PyData.str x)]=[none] from rfl,e3]
 walk_at "ev"
 rw[e4]
 walk_at "ev"
 rw[decide_eq_true (show (0:Int)<(x.length:Nat) by omega)]
 rfl
theorem QG {n:Int}(h:0≤n):j_ (.str (nT n)) (.str (aj "-"))=some (.bool false):=by
 show some (PyData.bool (0+1≤(nT n).length&&iz (nT n) ⟨#[45]⟩ 0))=_
 obtain⟨m,rfl⟩:=Int.eq_ofNat_of_zero_le h
 have hs:iz (nT (m:Int)) ⟨#[45]⟩ 0=false:=by
  by_cases z:iz (nT (m:Int)) ⟨#[45]⟩ 0=true
  ·have hz:=(HS (nT (m:Int)) 45 0).mp ⟨by have:=StrLaws.subAt_zero_le z;omega,z⟩
   unfold nT at hz
   rw[mH] at hz
   have:=mx m 45 (pk hz)
   omega
  ·exact Bool.eq_false_iff.mpr z
 rw[hs,Bool.and_false]
theorem QF (m:Nat):j_ (.str (nT (Int.negSucc m))) (.str (aj "-"))=some (.bool true):=by
 show some (PyData.bool (0+1≤(nT (Int.negSucc m)).length&&iz (nT (Int.negSucc m)) ⟨#[45]⟩ 0))=_
 obtain⟨h1,h2⟩:=(HS (nT (Int.negSucc m)) 45 0).mpr (by unfold nT;rw[tN];rfl)
 rw[h2,Bool.and_true]
 exact congrArg (fun b=>some (PyData.bool b)) (decide_eq_true h1)
theorem Jv {m:Nat}(h:sm (Int.negSucc m)):∃ y:Str,sG (some (.str (nT (Int.negSucc m)))) (some (some 1)) (some none)=some (.str y)∧y.cps.toList=(kK 10 (m+1)).map ku∧y.length≤100:=by
 have hl:=ll h
 have hc:(nT (Int.negSucc m)).cps.toList=45::(kK 10 (m+1)).map ku:=tN m
 have hlen:(nT (Int.negSucc m)).cps.toList.length=(nT (Int.negSucc m)).length:=gC
 have h1:1≤(nT (Int.negSucc m)).length:=by rw[← hlen,hc,dB];omega
 have e:=slice_from_eq (x:=nT (Int.negSucc m)) (i:=1) (by decide) (by omega) rfl
 have ec:(Txt.slice (nT (Int.negSucc m)) (some 1) none).cps.toList=(kK 10 (m+1)).map ku:=by
  rw[e]
  show List.take _ (List.drop (1:Int).toNat _)=_
  rw[hc]
  show List.take _ ((kK 10 (m+1)).map ku)=_
  refine Ho ?_
  rw[hc,dB] at hlen
  omega
 refine⟨Txt.slice (nT (Int.negSucc m)) (some 1) none,?_,ec,?_⟩
 ·show (if cG (nT (Int.negSucc m))=true then some (PyData.str (Txt.slice (nT (Int.negSucc m)) (some 1) none)) else none)=_
  rw[if_pos (pY h)]
 ·exact dn (PyProof.Txt.length_slice_le _ _ _) (by omega)
theorem KZ {n:Int}(h:sm n):sZ [.str (nT n)]=some (.int n):=by
 show (if (nT n).length≤640 then (xJ (nT n)).map PyData.int else none)=_
 rw[if_pos (dn (ll h) (by decide)),Md h]
 rfl
def gM (x:Str):Prop:=∀ c∈x.cps.toList,c<128
theorem su {x:Str}(h:gM x):PyData.strOk x=true:=by
 unfold PyData.strOk
 rw[← Array.all_toList,pd]
 intro c hc
 have:=h c hc
 exact decide_eq_true (by omega)
theorem E4 {x:Str}(h:gM x):fW (.str x)=true:=by
 unfold fW
 simp[i5,r9,su h]
theorem CA {x y:Str}(h:gM x)(h':gM y):cc (.str x) (.str y)=some (.bool (x==y)):=by
 unfold cc
 rw[if_pos (by rw[E4 h,E4 h'];rfl)]
 rfl
theorem JQ {x:Str}(h:gM x):cc (.str x) (.str x)=some (.bool true):=by
 rw[CA h h,beq_self_eq_true]
theorem Ik (n:Int):gM (nT n):=fun c hc=>by
 have:=tK n c hc
 omega
theorem My {n:Int}(h:sm n):jB [.str (nT n)]=some (.int n):=by
 have key:∀ (y:Str),lR [.str y]=some (.bool true) ->
   (bu (bq (j_ (.str (nT n)) (.str (aj "-")))) (sG (some (.str (nT n))) (some (some 1)) (some none)) (some (.str (nT n))))=some (.str y)->jB [.str (nT n)]=some (.int n):=fun y hf hy=>by
  rw[jB]
  walk_at "ev"
  simp only[vc]
  walk_at "ev"
  rw[show Bd some (eO (PyData.int 1))=some (some 1) from rfl,hy]
  walk_at "ev"
  rw[hf]
  walk_at "ev"
  rw[KZ h]
  walk_at "ev"
  rw[zD h]
  walk_at "ev"
  rw[JQ (Ik n)]
  walk_at "ev"
 cases n with
 | ofNat m=>
  refine key (nT (m:Int)) (CJ ?_ ?_ (dn (ll h) (by decide))) ?_
  ·unfold nT;rw[mH];exact mx m
  ·unfold nT;rw[mH];exact sL m
  ·show bu (bq (j_ (.str (nT (m:Int))) (.str (aj "-")))) _ _=_
   rw[QG (by omega)]
   rfl
 | negSucc m=>
  obtain⟨y,h1,h2,h3⟩:=Jv h
  refine key y (CJ (by rw[h2];exact mx _) (by rw[h2];exact sL _) h3) ?_
  rw[QF,h1]
  rfl
def wT (p:Int×Int):Str:=nT p.1++⟨#[42]⟩++nT p.2
def dv (p:Int×Int):Prop:=sm p.1∧sm p.2
def tT (ps:List (Int×Int)):Str:=if ps=[] then aj "nobody" else eW ⟨#[32]⟩ (ps.map wT)
theorem FT {p:Int×Int}(h:dv p):(wT p).length≤123:=by
 unfold wT
 rw[uy,uy]
 have:=ll h.1
 have:=ll h.2
 show (nT p.1).length+1+_≤_
 omega
theorem FU (p:Int×Int):∀ c∈(wT p).cps.toList,c=42∨c=45∨(48≤c∧c≤57):=by
 intro c hc
 unfold wT at hc
 rw[jd,jd,nr] at hc
 rcases List.mem_append.mp hc with z | z
 ·exact .inr (tK _ c z)
 ·rcases List.mem_append.mp z with z | z
  ·exact .inl (List.mem_singleton.mp z)
  ·exact .inr (tK _ c z)
theorem Lj {c s:Nat}:∀ {ts:List Str},c∈(nP ⟨#[s]⟩ ts).cps.toList->c=s∨∃ t∈ts,c∈t.cps.toList:=by
 intro ts
 induction ts with
 | nil=>intro h;cases h
 | cons t ts ih=>
  intro h
  cases ts with
  | nil=>exact .inr ⟨t,bQ ..,h⟩
  | cons t2 ts=>
   have h':c∈(t++⟨#[s]⟩++nP ⟨#[s]⟩ (t2::ts)).cps.toList:=h
   rw[jd,jd,nr] at h'
   rcases List.mem_append.mp h' with z | z
   ·exact .inr ⟨t,bQ ..,z⟩
   ·rcases List.mem_append.mp z with z | z
    ·exact .inl (List.mem_singleton.mp z)
    ·rcases ih z with z | ⟨u,h1,h2⟩
     ·exact .inl z
     ·exact .inr ⟨u,bP _ h1,h2⟩
theorem CT (ps:List (Int×Int)):∀ c∈(eW ⟨#[32]⟩ (ps.map wT)).cps.toList,c=32∨c=42∨c=45∨(48≤c∧c≤57):=by
 intro c hc
 rw[wA] at hc
 rcases Lj hc with z | ⟨t,h1,h2⟩
 ·exact .inl z
 ·obtain⟨p,_,rfl⟩:=List.mem_map.mp h1
  exact .inr (FU p c h2)
theorem wK:gM (aj "nobody"):=by
 have:∀ c∈(aj "nobody").cps.toList,c<128:=by decide +kernel
 exact this
theorem Ii (ps:List (Int×Int)):gM (eW ⟨#[32]⟩ (ps.map wT)):=fun c hc=>by
 have:=CT ps c hc
 omega
theorem BP (ps:List (Int×Int)):gM (tT ps):=by
 unfold tT
 split
 ·exact wK
 ·exact Ii ps
theorem FV:∀ {ps:List (Int×Int)},(∀ p∈ps,dv p)->((ps.map wT).map (·.length)).sum≤123*ps.length:=by
 intro ps
 induction ps with
 | nil=>intro _;exact kL _
 | cons p r ih=>
  intro h
  have h1:=FT (h p (bQ ..))
  have h2:=ih fun q hq=>h q (bP _ hq)
  rw[bV,bV,List.sum_cons,dB]
  omega
theorem uA:∀ ts:List Str,kb (ts.map .str)=some ts:=by
 intro ts
 induction ts with
 | nil=>rfl
 | cons t r ih=>rw[bV,kb,ih];rfl
theorem xD {ps:List (Int×Int)}(h:∀ p∈ps,dv p)(hl:ps.length≤10):(eW ⟨#[32]⟩ (ps.map wT)).length≤2000:=by
 rw[wA]
 have h1:=StrLaws.join_length_le ⟨#[32]⟩ (ps.map wT)
 have h2:=FV h
 rw[cm,show (⟨#[32]⟩:Str).length=1 from rfl] at h1
 omega
theorem Dg {ps:List (Int×Int)}(h:∀ p∈ps,dv p)(hl:ps.length≤10):mD (.str (aj " ")) (.list ((ps.map wT).map .str))=some (.str (eW ⟨#[32]⟩ (ps.map wT))):=by
 show (((kb ((ps.map wT).map .str)).bind fun ss=>if (!(vi (ss.toArray.foldl (·+·.length+(aj " ").length) 0))&&decide ((eW (aj " ") ss).length≤100000))=true then some (PyData.str (eW (aj " ") ss)) else none))=_
 rw[uA,bW,if_pos]
 ·rfl
 ·rw[cq,lI]
  refine⟨?_,decide_eq_true (dn (xD h hl) (by decide))⟩
  rw[StrLaws.joinTotal]
  have h2:=FV h
  have hz:100000<sizeLine:=by decide
  rw[cm,show (aj " ").length=1 from rfl]
  unfold vi
  exact decide_eq_false (by omega)
theorem Ja {p:Int×Int}(h:dv p):wX (.str (nT p.1)) (.str (aj "*")) (.str (nT p.2))=some (.str (wT p)):=by
 show (if (cG (nT p.1)&&cG (aj "*")&&cG (nT p.2))=true then some (PyData.str (nT p.1++aj "*"++nT p.2)) else none)=_
 rw[pY h.1,pY h.2]
 rfl
theorem RJ {ps:List (Int×Int)}(h:∀ p∈ps,dv p)(hl:ps.length≤10):lS [aR ps]=some (.str (tT ps)):=by
 have ec:c_ (gz 2 (dg (bS 0) (dg (bS 1) gU))) (fun _=>some true) vq (some (ps.map bM)) [none,none]=some ((ps.map wT).map .str):=by
  rw[nV (by rw[cm];omega)]
  exact mr (S:=gz 2 (dg (bS 0) (dg (bS 1) gU))) (fe:=vq) bM PyData.str wT (fun ρ=>∃ y z,ρ=[y,z]) dv (fun p ρ hp hρ=>by
   obtain⟨y,z,rfl⟩:=hρ
   refine⟨[some (.int p.1),some (.int p.2)],rfl,⟨_,_,rfl⟩,?_⟩
   show tj ((some (PyData.int p.1)).bind jV) _ ((some (PyData.int p.2)).bind jV)=_
   rw[bW,bW,CL hp.1,CL hp.2]
   exact Ja hp) ps _ ⟨_,_,rfl⟩ h
 rw[lS]
 walk_at "ev"
 simp only[vb]
 walk_at "ev"
 rw[show eG [aR ps]=some (.int (ps.length:Nat)) from by show some (PyData.int ((ps.map bM).length:Nat))=_;rw[cm]]
 walk_at "ev"
 by_cases hp:ps=[]
 ·subst hp;rfl
 ·have hlen:=List.length_pos_iff.mpr hp
  rw[show (((ps.length:Nat):Int)==0)=false from beq_eq_false_iff_ne.mpr (by omega)]
  walk_at "ev"
  rw[show frees 2 [] [some (aR ps)]=[none,none] from rfl,show cH (aR ps)=some (ps.map bM) from rfl,ec]
  walk_at "ev"
  rw[Dg h hl]
  unfold tT
  rw[if_neg hp]
  rfl
theorem HW {n:Int}(h:sm n):hZ (.str (nT n)) (.str (aj "*"))=some (.str (nT n++⟨#[42]⟩)):=by
 show (if (cG (nT n)&&cG (aj "*"))=true then some (PyData.str (nT n++aj "*")) else none)=_
 rw[pY h]
 rfl
theorem HX {p:Int×Int}(h:dv p):hZ (.str (nT p.1++⟨#[42]⟩)) (.str (nT p.2))=some (.str (wT p)):=by
 have hl:(nT p.1++⟨#[42]⟩:Str).length≤10000:=by
  rw[uy]
  have:=ll h.1
  show (nT p.1).length+1≤_
  omega
 show (if (cG (nT p.1++⟨#[42]⟩)&&cG (nT p.2))=true then some (PyData.str (nT p.1++⟨#[42]⟩++nT p.2)) else none)=_
 rw[pY h.2,show cG (nT p.1++⟨#[42]⟩)=true from decide_eq_true hl]
 rfl
theorem DA {ps:List (Int×Int)}(h:∀ p∈ps,dv p)(hl:ps.length≤10):iW [aR ps]=some (.str (tT ps)):=by
 have ec:c_ (gz 2 (dg (bS 0) (dg (bS 1) gU))) (fun _=>some true) vn (some (ps.map bM)) [none,none]=some ((ps.map wT).map .str):=by
  rw[nV (by rw[cm];omega)]
  exact mr (S:=gz 2 (dg (bS 0) (dg (bS 1) gU))) (fe:=vn) bM PyData.str wT (fun ρ=>∃ y z,ρ=[y,z]) dv (fun p ρ hp hρ=>by
   obtain⟨y,z,rfl⟩:=hρ
   refine⟨[some (.int p.1),some (.int p.2)],rfl,⟨_,_,rfl⟩,?_⟩
   show au (au (gY [.int p.1]) _ hZ) (gY [.int p.2]) hZ=_
   rw[zD hp.1,zD hp.2,cW,HW hp.1,cW,HX hp]) ps _ ⟨_,_,rfl⟩ h
 rw[iW]
 walk_at "ev"
 simp only[u9]
 walk_at "ev"
 rw[show cc (aR ps) (.list [])=some (.bool (decide (ps=[]))) from by
  have:i6 (aR ps) (aR [])=decide (ps=[]):=by rw[aR,aR,i6];exact CB ps []
  show cc (aR ps) (aR [])=_
  simp[cc,Qc,this]]
 walk_at "ev"
 by_cases hp:ps=[]
 ·subst hp;rfl
 ·rw[decide_eq_false hp]
  walk_at "ev"
  rw[show frees 2 [] [some (aR ps)]=[none,none] from rfl,show cH (aR ps)=some (ps.map bM) from rfl,ec]
  walk_at "ev"
  rw[Dg h hl]
  unfold tT
  rw[if_neg hp]
  rfl
theorem Qz {p:Int×Int}(h:dv p):mR (.str (wT p)) (.str (aj "*"))=some [.str (nT p.1),.str (nT p.2)]:=by
 show (if (!((⟨#[42]⟩:Str).length==0)&&cG (wT p))=true then some ((Txt.split (wT p) ⟨#[42]⟩).map PyData.str) else none)=_
 rw[if_pos]
 ·unfold wT
  rw[QA (DF (by decide) (by decide) _) (DF (by decide) (by decide) _)]
  rfl
 ·rw[show cG (wT p)=true from decide_eq_true (dn (FT h) (by decide))]
  rfl
theorem Nl {p:Int×Int}(h:dv p):nc [.str (wT p)]=some (bM p):=by
 have e1:kD [.str (wT p),.str (aj "*")]=some (.list [.int p.1,.int p.2]):=by
  rw[kD]
  walk_at "ev"
  simp only[vd]
  walk_at "ev"
  rw[Qz h,show frees 1 [] [some (PyData.str (wT p)),some (PyData.str (aj "*"))]=[none] from rfl]
  walk_at "ev"
  rw[nV (ds:=[PyData.str (nT p.1),PyData.str (nT p.2)]) (show 2≤1000 by decide)]
  have ec:=mr (S:=bS 0) (fe:=AY) (fun n:Int=>PyData.str (nT n)) PyData.int (fun n=>n) (fun ρ=>∃ y,ρ=[y]) sm (fun n ρ hn hρ=>by
   obtain⟨y,rfl⟩:=hρ
   exact⟨[some (.str (nT n))],rfl,⟨_,rfl⟩,My hn⟩) [p.1,p.2] [none] ⟨_,rfl⟩ (fun n hn=>by
    rcases List.mem_cons.mp hn with rfl | hn
    ·exact h.1
    ·rw[List.mem_singleton.mp hn];exact h.2)
  rw[show [PyData.str (nT p.1),PyData.str (nT p.2)]=[p.1,p.2].map (fun n:Int=>PyData.str (nT n)) from rfl,ec]
  rfl
 rw[nc]
 walk_at "ev"
 simp only[ve]
 walk_at "ev"
 rw[e1]
 walk_at "ev"
 rw[show k_ .none (.list [.int p.1,.int p.2])=some (.bool false) from rfl]
 walk_at "ev"
 rfl
theorem KN (ps:List (Int×Int)):nZ .none (aR ps)=some (.bool false):=by
 have h1:(ps.map bM).all mT=true:=by
  rw[pd]
  intro d hd
  obtain⟨p,_,rfl⟩:=List.mem_map.mp hd
  rfl
 have h2:(ps.map bM).any jq=false:=by
  rw[Hc]
  intro d hd
  obtain⟨p,_,rfl⟩:=List.mem_map.mp hd
  exact dH
 show (if (ps.map bM).all mT=true then some (PyData.bool ((ps.map bM).any jq)) else none)=_
 rw[if_pos h1,h2]
theorem Le (a b c:Int){j:Int}(h0:0≤j)(h1:j<3):∃ x,(x=a∨x=b∨x=c)∧bz (.list [.int a,.int b,.int c]) (.int j)=some (.int x):=by
 have:j=0∨j=1∨j=2:=by omega
 rcases this with rfl | rfl | rfl
 ·exact⟨a,.inl rfl,rfl⟩
 ·exact⟨b,.inr (.inl rfl),rfl⟩
 ·exact⟨c,.inr (.inr rfl),rfl⟩
theorem Lf (a b c d:Int){j:Int}(h0:0≤j)(h1:j<4):∃ x,(x=a∨x=b∨x=c∨x=d)∧bz (.list [.int a,.int b,.int c,.int d]) (.int j)=some (.int x):=by
 have:j=0∨j=1∨j=2∨j=3:=by omega
 rcases this with rfl | rfl | rfl | rfl
 ·exact⟨a,.inl rfl,rfl⟩
 ·exact⟨b,.inr (.inl rfl),rfl⟩
 ·exact⟨c,.inr (.inr (.inl rfl)),rfl⟩
 ·exact⟨d,.inr (.inr (.inr rfl)),rfl⟩
theorem qL {n m:Int}(h1:-m≤n)(h2:n≤m)(hm:m<10 ^ 60):sm n:=by
 unfold sm
 have:((n.natAbs:Nat):Int)<10 ^ 60:=by omega
 exact Int.ofNat_lt.mp (by simpa using this)
theorem Qq {n:Int}(h:sm n):lb n=true:=by
 unfold lb L2.big
 exact decide_eq_true (dI h (by decide +kernel))
theorem pW {a b:Int}(h0:0<b)(h1:b<10 ^ 9):dz (.int a) (.int b)=some (.int (a / b)):=CI h0 (Qq (qL (m:=10 ^ 9) (by omega) (by omega) (by decide)))
theorem Ob {d n:Int}(hd:0≤d)(hn:0≤n∧n<1000003):∃ pl,sm pl∧(au ((bX (ai (au (au (some (.int n)) (some (.int 21)) cu) (some (.int 10)) iw) (ai (au (au (some (.int n)) (some (.int 2001)) cu) (some (.int 1000)) iw) (ai (au (au (some (.int n)) (au (some (.int 10)) (some (.int 30)) f7) d7) (au (some (.int 5)) (au (some (.int 10)) (some (.int 35)) f7) d7) iw) (some []))))).map .list) (au (au (some (.int d)) (some (.int 8)) cu) (some (.int 3)) dz) bz).filter lf=some (.int pl):=by
 obtain⟨x,hx,ex⟩:=Le (n % 21 - 10) (n % 2001 - 1000) (n*10 ^ 30 - 5*10 ^ 35) (j:=d % 8 / 3) (by omega) (by omega)
 refine⟨x,?_,?_⟩
 ·have h10:(10:Int) ^ 30=1000000000000000000000000000000:=by decide
  have h35:(10:Int) ^ 35=100000000000000000000000000000000000:=by decide
  rw[h10,h35] at hx
  refine qL (m:=10 ^ 40) ?_ ?_ (by decide)
  ·have h40:(10:Int) ^ 40=10000000000000000000000000000000000000000:=by decide
   rw[h40]
   omega
  ·have h40:(10:Int) ^ 40=10000000000000000000000000000000000000000:=by decide
   rw[h40]
   omega
 ·have hA:au (au (some (.int n)) (some (.int 21)) cu) (some (.int 10)) iw=some (.int (n % 21 - 10)):=by rw[cW,gT (by decide),cW,uB]
  have hB:au (au (some (.int n)) (some (.int 2001)) cu) (some (.int 1000)) iw=some (.int (n % 2001 - 1000)):=by rw[cW,gT (by decide),cW,uB]
  have hC:au (au (some (.int n)) (au (some (.int 10)) (some (.int 30)) f7) d7) (au (some (.int 5)) (au (some (.int 10)) (some (.int 35)) f7) d7) iw=some (.int (n*10 ^ 30 - 5*10 ^ 35)):=by
   rw[show au (some (.int 10)) (some (.int 30)) f7=some (.int (10 ^ 30)) from rfl,show au (some (.int 10)) (some (.int 35)) f7=some (.int (10 ^ 35)) from rfl,cW,cW,qp (a:=n) (by omega),qp (a:=5) (by decide),cW,uB]
  have hI:au (au (some (.int d)) (some (.int 8)) cu) (some (.int 3)) dz=some (.int (d % 8 / 3)):=by rw[cW,gT (by decide),cW,pW (by decide) (by decide)]
  rw[hA,hB,hC,hI]
  show (au (some (PyData.list [.int (n % 21 - 10),.int (n % 2001 - 1000),.int (n*10 ^ 30 - 5*10 ^ 35)])) (some (.int (d % 8 / 3))) bz).filter lf=_
  rw[cW,ex]
  rfl
theorem Sk {d:Int}(hd:0≤d∧d<1000003):∃ wt,sm wt∧1≤wt∧(au ((bX (ai (some (.int 1)) (ai (au (some (.int 1)) (au (au (some (.int d)) (some (.int 8)) dz) (some (.int 9)) cu) ez) (ai (au (some (.int 1)) (au (au (some (.int d)) (some (.int 8)) dz) (some (.int 99)) cu) ez) (ai (au (au (some (.int 10)) (some (.int 30)) f7) (some (.int d)) ez) (some [])))))).map .list) (au (au (au (some (.int d)) (some (.int 1024)) dz) (some (.int 16)) cu) (some (.int 4)) dz) bz).filter lf=some (.int wt):=by
 obtain⟨x,hx,ex⟩:=Lf 1 (1+d / 8 % 9) (1+d / 8 % 99) (10 ^ 30+d) (j:=d / 1024 % 16 / 4) (by omega) (by omega)
 refine⟨x,?_,by omega,?_⟩
 ·have h10:(10:Int) ^ 30=1000000000000000000000000000000:=by decide
  rw[h10] at hx
  have h40:(10:Int) ^ 40=10000000000000000000000000000000000000000:=by decide
  refine qL (m:=10 ^ 40) ?_ ?_ (by decide)
  ·rw[h40];omega
  ·rw[h40];omega
 ·have hA:au (some (.int 1)) (au (au (some (.int d)) (some (.int 8)) dz) (some (.int 9)) cu) ez=some (.int (1+d / 8 % 9)):=by rw[cW,pW (by decide) (by decide),cW,gT (by decide),cW,pN]
  have hB:au (some (.int 1)) (au (au (some (.int d)) (some (.int 8)) dz) (some (.int 99)) cu) ez=some (.int (1+d / 8 % 99)):=by rw[cW,pW (by decide) (by decide),cW,gT (by decide),cW,pN]
  have hC:au (au (some (.int 10)) (some (.int 30)) f7) (some (.int d)) ez=some (.int (10 ^ 30+d)):=by rw[show au (some (.int 10)) (some (.int 30)) f7=some (.int (10 ^ 30)) from rfl,cW,pN]
  have hI:au (au (au (some (.int d)) (some (.int 1024)) dz) (some (.int 16)) cu) (some (.int 4)) dz=some (.int (d / 1024 % 16 / 4)):=by rw[cW,pW (by decide) (by decide),cW,gT (by decide),cW,pW (by decide) (by decide)]
  rw[hA,hB,hC,hI]
  show (au (some (PyData.list [.int 1,.int (1+d / 8 % 9),.int (1+d / 8 % 99),.int (10 ^ 30+d)])) (some (.int (d / 1024 % 16 / 4))) bz).filter lf=_
  rw[cW,ex]
  rfl
theorem J9 {ps:List Int}(hd:iL ps)(hl:2≤ps.length){f:List (Int×Int)}(hf:f.length<100)(x1 x3 x4 x5 x6 x7:Option ae):∃ p y4 y5 y6 y7,(dv p∧1≤p.2)∧rP [some (.list (ps.map .int)),x1,some (aR f),x3,x4,x5,x6,x7]=some (.nx [some (.list (ps.dropLast.dropLast.map .int)),x1,some (aR (f++[p])),x3,y4,y5,y6,y7]):=by
 have ne1:ps≠[]:=fun z=>by rw[z] at hl;exact absurd hl (by decide)
 have ne2:ps.dropLast≠[]:=fun z=>by have:=congrArg rS z;rw[iE,vT] at this;omega
 obtain⟨d,hdm,e1⟩:=yn ne1 (ρ:=[some (.list (ps.map .int)),x1,some (aR f),x3,x4,x5,x6,x7]) rfl
 obtain⟨n,hnm,e2⟩:=yn ne2 (ρ:=[some (.list (ps.dropLast.map .int)),x1,some (aR f),x3,some (.int d),x5,x6,x7]) rfl
 have bd:=hd d hdm
 have bn:=sJ hd n hnm
 obtain⟨pl,hp,ep⟩:=Ob bd.1 bn
 obtain⟨wt,hw,hw1,ew⟩:=Sk bd
 refine⟨(pl,wt),some (.int d),some (.int n),some (.int pl),some (.int wt),⟨⟨hp,hw⟩,hw1⟩,?_⟩
 unfold rP
 rw[qI,e1]
 show oC (some (.nx [some (.list (ps.dropLast.map .int)),x1,some (aR f),x3,some (.int d),x5,x6,x7])) _=_
 rw[qR,qI,e2]
 show oC (some (.nx [some (.list (ps.dropLast.dropLast.map .int)),x1,some (aR f),x3,some (.int d),some (.int n),x6,x7])) _=_
 rw[qR,qI]
 show oC (bj 6 _ ((au ((bX (ai (au (au (some (.int n)) (some (.int 21)) cu) (some (.int 10)) iw) _)).map .list) (au (au (some (.int d)) (some (.int 8)) cu) (some (.int 3)) dz) bz).filter lf)) _=_
 rw[show ∀ z,z=some (PyData.int pl)->bj 6 [some (PyData.list (ps.dropLast.dropLast.map .int)),x1,some (aR f),x3,some (.int d),some (.int n),x6,x7] z=some (.nx [some (PyData.list (ps.dropLast.dropLast.map .int)),x1,some (aR f),x3,some (.int d),some (.int n),some (.int pl),x7]) from fun z hz=>by rw[hz];rfl]
 rotate_left
 ·exact ep
 rw[qR,qI]
 rw[show ∀ z,z=some (PyData.int wt)->bj 7 [some (PyData.list (ps.dropLast.dropLast.map .int)),x1,some (aR f),x3,some (.int d),some (.int n),some (.int pl),x7] z=some (.nx [some (PyData.list (ps.dropLast.dropLast.map .int)),x1,some (aR f),x3,some (.int d),some (.int n),some (.int pl),some (.int wt)]) from fun z hz=>by rw[hz];rfl]
 rotate_left
 ·exact ew
 rw[qR]
 show (some (PyData.tuple [.int pl,.int wt])).bind (kU 2 _)=_
 rw[bW]
 rw[Ih (i:=2) (ds:=f.map bM) rfl (by rw[cm];omega)]
 show some (aA.nx [some (PyData.list (ps.dropLast.dropLast.map .int)),x1,some (.list (f.map bM++[bM (pl,wt)])),x3,some (.int d),some (.int n),some (.int pl),some (.int wt)])=_
 rw[show f.map bM++[bM (pl,wt)]=(f++[(pl,wt)]).map bM from by rw[jF];rfl]
 rfl
theorem J8:∀ (ks:List ae) {ps:List Int} (_:iL ps) (_:2*ks.length≤ps.length) {f:List (Int×Int)} (_:f.length+ks.length≤50) (_:∀ p∈f,dv p∧1≤p.2) (x1 x3 x4 x5 x6 x7:Option ae),∃ g qs y3 y4 y5 y6 y7,(∀ p∈g,dv p∧1≤p.2)∧g.length=f.length+ks.length∧iL qs∧qs.length=ps.length - 2*ks.length ∧
  fD (bS 3) rP ks [some (.list (ps.map .int)),x1,some (aR f),x3,x4,x5,x6,x7]=some (.nx [some (.list (qs.map .int)),x1,some (aR g),y3,y4,y5,y6,y7]):=by
 intro ks
 induction ks with
 | nil=>
  intro ps hd hl f hf hs x1 x3 x4 x5 x6 x7
  exact⟨f,ps,x3,x4,x5,x6,x7,hs,rfl,hd,rfl,rfl⟩
 | cons k r ih=>
  intro ps hd hl f hf hs x1 x3 x4 x5 x6 x7
  rw[dB] at hl hf
  obtain⟨p,y4,y5,y6,y7,hp,e⟩:=J9 hd (by omega) (f:=f) (by omega) x1 (some k) x4 x5 x6 x7
  obtain⟨g,qs,z3,z4,z5,z6,z7,g1,g2,g3,g4,g5⟩:=ih (sJ (sJ hd)) (by rw[iE,iE];omega) (f:=f++[p]) (by rw[eN,nu];omega) (fun q hq=>by
   rcases List.mem_append.mp hq with z | z
   ·exact hs q z
   ·rw[List.mem_singleton.mp z];exact hp) x1 (some k) y4 y5 y6 y7
  refine⟨g,qs,z3,z4,z5,z6,z7,g1,?_,g3,?_,?_⟩
  ·rw[g2,eN,nu,dB];omega
  ·rw[g4,iE,iE,dB];omega
  ·rw[fD]
   show (some [some (PyData.list (ps.map .int)),x1,some (aR f),some k,x4,x5,x6,x7]).bind _=_
   rw[bW,e]
   exact g5
theorem J7 {ps:List Int}(hd:iL ps)(hl:ps.length=120):∃ g qs,(∀ p∈g,dv p∧1≤p.2)∧g.length≤4∧iL qs∧111≤qs.length∧ky [.list (ps.map .int),.int 4]=some (aR g,qs.map .int):=by
 have ne1:ps≠[]:=fun z=>by rw[z] at hl;cases hl
 obtain⟨x1,b1,e1⟩:=Og ne1 hd (m:=4+1) (by decide) (g:=fun ρ=>au ((ρ[1]?).join) (some (.int 1)) ez) (r:=[some (.int 4),some (.list []),none,none,none,none,none]) rfl
 obtain⟨n,hn⟩:∃ n:Nat,x1=(n:Int):=⟨x1.toNat,by omega⟩
 subst hn
 have er:lu [.int (n:Int)]=some (eT 0 n):=by
  have:n≤4:=by omega
  rcases n with _ | _ | _ | _ | _ | n
  ·rfl
  ·rfl
  ·rfl
  ·rfl
  ·rfl
  ·omega
 have hlen:(eT 0 n).length=n:=by simp[eT]
 obtain⟨g,qs,y3,y4,y5,y6,y7,g1,g2,g3,g4,g5⟩:=J8 (eT 0 n) (sJ hd) (by rw[hlen,iE];omega) (f:=[]) (by rw[hlen];simp;omega) (fun p hp=>by cases hp) (some (.int 4)) none none none none none
 refine⟨g,qs,g1,by rw[g2,hlen];simp;omega,g3,by rw[g4,hlen,iE];omega,?_⟩
 have eB:oP [some (.list (ps.map .int)),some (.int 4),none,none,none,none,none,none]=some (.rt (.tuple [aR g,.list (qs.map .int)])):=by
  unfold oP
  rw[ou (ρ':=[some (.list (ps.map .int)),some (.int 4),some (.list []),none,none,none,none,none]) rfl]
  rw[ou (ρ':=[some (.list (qs.map .int)),some (.int 4),some (aR g),y3,y4,y5,y6,y7]) ?s2]
  case s2=>
   rw[e1]
   show (lu [PyData.int (n:Int)]).bind _=_
   rw[er]
   exact g5
  rfl
 show D5 (oP [some (.list (ps.map .int)),some (.int 4),none,none,none,none,none,none])=_
 rw[eB]
 rfl
theorem DV (x:Str)(hi:Nat):∀ l:List Nat,(jW (m:=Id) l ((#[4,7]:Array Nat),8) (md x ⟨#[32]⟩ hi 2)).run=((#[4,7]:Array Nat),8)
 | []=>rfl
 | i::l=>by
  rw[vQ]
  show (jW (m:=Id) l ((#[4,7]:Array Nat),8) (md x ⟨#[32]⟩ hi 2)).run=_
  exact DV x hi l
theorem DW {x y:Str}{hi lim i:Nat}{l:List Nat}{st:Array Nat×Nat}(h:((st.1.size<lim∧st.2≤i)∧i+y.length≤hi)∧iz x y i=true):(jW (m:=Id) (i::l) st (md x y hi lim)).run=(jW (m:=Id) l (st.1.push i,i+y.length) (md x y hi lim)).run:=by
 rw[vQ]
 unfold md
 rw[if_pos h]
 rfl
theorem oi {x y:Str}{hi lim i:Nat}{l:List Nat}{st:Array Nat×Nat}(h:iz x y i=false):(jW (m:=Id) (i::l) st (md x y hi lim)).run=(jW (m:=Id) l st (md x y hi lim)).run:=by
 rw[vQ]
 unfold md
 rw[if_neg (fun z=>by rw[h] at z;exact absurd z.2 (by decide))]
 rfl
theorem lA {x:Str}{c d i:Nat}(h:x.cps.toList[i]?=some d):iz x ⟨#[c]⟩ i=(d==c):=by
 unfold iz
 have e:x.cps.extract i (i+1)=#[d]:=by
  apply Array.toList_inj.mp
  rw[u6]
  rw[u0] at h
  obtain⟨hi,rfl⟩:=Array.getElem?_eq_some_iff.mp h
  rw[vP,Hq,Hg (by simpa using hi)]
  simp
 show (x.cps.extract i (i+1)==#[c])=_
 rw[e]
 simp
theorem qm (x y:Str):(x++y).length=x.length+y.length:=by
 show (x++y).cps.size=x.cps.size+y.cps.size
 rw[← gC,jd,eN,gC,gC]
theorem Mz (t:Str):iy (aj "line aa "++t) ⟨#[32]⟩ 0 (aj "line aa "++t).length 2=[4,7]:=by
 have hl:(aj "line aa "++t).length=8+t.length:=qm _ _
 have hg:∀ i d,i<8->(aj "line aa ").cps.toList[i]?=some d->(aj "line aa "++t).cps.toList[i]?=some d:=fun i d hi h=>by
  rw[jd,jE (by show i<8;exact hi)]
  exact h
 rw[StrLaws.occ_eq,hl,show 8+t.length+1 - 0=t.length+1+1+1+1+1+1+1+1+1 by omega]
 generalize aj "line aa "++t=x at hg
 simp only[List.range'_succ]
 rw[oi (lA (hg 0 108 (by decide) rfl))]
 rw[oi (lA (hg 1 105 (by decide) rfl))]
 rw[oi (lA (hg 2 110 (by decide) rfl))]
 rw[oi (lA (hg 3 101 (by decide) rfl))]
 rw[DW ⟨⟨⟨by decide,by decide⟩,by show 4+1≤_;omega⟩,lA (hg 4 32 (by decide) rfl)⟩]
 rw[oi (lA (hg 5 97 (by decide) rfl))]
 rw[oi (lA (hg 6 97 (by decide) rfl))]
 rw[DW ⟨⟨⟨by decide,by decide⟩,by show 7+1≤_;omega⟩,lA (hg 7 32 (by decide) rfl)⟩]
 show (jW (m:=Id) _ ((#[4,7]:Array Nat),8) _).run.1.toList=_
 rw[DV]
theorem zE (x y:Str)(i j:Nat)(h:j≤x.length):kr (x++y) i j=kr x i j:=by
 apply uz
 show ((x++y).cps.extract i j).toList=(x.cps.extract i j).toList
 rw[u6,u6,jd,vP,vP]
 have hx:x.length=x.cps.toList.length:=(gC).symm
 rw[hx] at h
 by_cases hi:i≤x.cps.toList.length
 ·rw[List.drop_append_of_le_length hi,List.take_append_of_le_length (by rw[List.length_drop];omega)]
 ·rw[show j - i=0 by omega,List.take_zero,List.take_zero]
theorem QL (x y:Str):kr (x++y) x.length (x++y).length=y:=by
 apply uz
 show ((x++y).cps.extract x.length (x++y).length).toList=_
 have hx:x.length=x.cps.toList.length:=(gC).symm
 have hy:y.length=y.cps.toList.length:=(gC).symm
 rw[u6,jd,vP,qm,Hq,hx,List.drop_left,hy,List.take_length]
theorem Lu (x:Str):1≤iT x:=by
 unfold iT
 split
 ·exact cj _
 ·split <;> decide
theorem Qy (t:Str):Txt.splitM (aj "line aa "++t) ⟨#[32]⟩ 2=[aj "line",aj "aa",t]:=by
 have hl:(aj "line aa "++t).length=8+t.length:=qm _ _
 have ho:=Mz t
 unfold Txt.splitM
 rw[show tD (aj "line aa "++t) 2=2 from rfl,ho]
 have hk:(decide ((aj "line aa "++t).length<(⟨#[32]⟩:Str).length)||decide (iT (aj "line aa "++t)<iT ⟨#[32]⟩))=false:=by
  have h1:=Lu (aj "line aa "++t)
  have h2:iT ⟨#[32]⟩=1:=by decide +kernel
  have h3:(⟨#[32]⟩:Str).length=1:=rfl
  rw[h2,h3,hl,decide_eq_false (by omega),decide_eq_false (by omega)]
  rfl
 rw[hk,if_neg (by decide),if_neg (by decide)]
 show [kr (aj "line aa "++t) 0 4,kr (aj "line aa "++t) 5 7,kr (aj "line aa "++t) (aj "line aa ").length (aj "line aa "++t).length]=_
 rw[zE _ _ _ _ (by decide),zE _ _ _ _ (by decide),QL,show kr (aj "line aa ") 0 4=aj "line" by decide +kernel,show kr (aj "line aa ") 5 7=aj "aa" by decide +kernel]
theorem QE (t:Str):j_ (.str (aj "line aa "++t)) (.str (aj "line "))=some (.bool true):=by
 show some (PyData.bool (decide (0+5≤(aj "line aa "++t).length)&&iz (aj "line aa "++t) (aj "line ") 0))=_
 have e:iz (aj "line aa "++t) (aj "line ") 0=true:=by
  show ((kr (aj "line aa "++t) 0 5).cps==(aj "line ").cps)=true
  rw[zE _ _ _ _ (by decide)]
  decide +kernel
 rw[e,qm,show (aj "line aa ").length=8 from rfl,decide_eq_true (by omega)]
 rfl
theorem Jr {α:Type}{b:Option Bool}{x y:Option α}(h:b=some false):bu b x y=y:=by rw[h];rfl
theorem w6 {α:Type}{b:Option Bool}{x y:Option α}(h:b=some true):bu b x y=x:=by rw[h];rfl
theorem fF {F G:ag->Option b7}{ρ ρ':ag}(h:F ρ=some (.nx ρ')):cB F G ρ=G ρ':=by
 unfold cB
 rw[h]
 rfl
theorem QN {F G:ag->Option b7}{ρ:ag}{d:ae}(h:F ρ=some (.rt d)):cB F G ρ=some (.rt d):=by
 unfold cB
 rw[h]
 rfl
theorem zG {F G:ag->Option b7}{ρ ρ':ag}{d:ae}(h:F ρ=some (.ex d ρ')):cB F G ρ=some (.ex d ρ'):=by
 unfold cB
 rw[h]
 rfl
def dk0:ae:=gw "Desk" ["fields"] [iQ [] []]
def jg (f:ae):ae:=gw "Desk" ["fields"] [iQ [.str (aj "aa")] [f]]
def dk (f:ae):ae:=gw "Desk" ["fields"] [iQ [.str (aj "aa"),.str (aj "b")] [f,.list []]]
def my (f:ae):ae:=gw "Desk" ["fields"] [iQ [.str (aj "aa"),.str (aj "b")] [f,.list [.tuple [.int 4,.int 2]]]]
theorem iu {F G:ag->Option aA}{ρ ρ':ag}(h:F ρ=some (.nx ρ')):aX F G ρ=G ρ':=by
 unfold aX
 rw[h]
 rfl
theorem P4 {F G:ag->Option aA}{ρ:ag}{d:ae}(h:F ρ=some (.rt d)):aX F G ρ=some (.rt d):=by
 unfold aX
 rw[h]
 rfl
theorem LU {f:Int}(h:f.natAbs<2 ^ 200):f.natAbs.log2<1920:=by
 by_cases h0:f.natAbs=0
 ·rw[h0];decide
 ·exact Bb ((vX h0).mpr h) (by decide)
def pV:Nat->List (Int×Int)->List ae
 | _,[]=>[]
 | k,o::r=>.tuple [.int (k:Nat),bM o]::pV (k+1) r
theorem JO (P:List (Int×Int)):jh (P.map bM)=pV 0 P:=by
 have h:∀ (P:List (Int×Int)) (k:Nat),(List.range' k (P.map bM).length).zipWith (fun i d=>PyData.tuple [.int ((i:Nat):Int),d]) (P.map bM)=pV k P:=fun P=>by
  induction P with
  | nil=>exact fun _=>rfl
  | cons p r ih=>
   intro k
   have:=ih (k+1)
   rw[bV,dB,List.range'_succ,List.zipWith_cons_cons,this]
   rfl
 unfold jh
 rw[List.range_eq_range']
 exact h P 0
def fb:Nat->List (Int×Int)->Option Nat
 | _,[]=>none
 | k,o::r=>if o.2<1 then some k else fb (k+1) r
abbrev eQ (i:Nat):ae:=jj "NoFolk" [.str "number",.int (i:Nat)]
theorem Jf (x0:Option ae)(k:Nat)(o:Int×Int)(hk:k<1000) :
  nq [x0,some (.int (k:Nat)),some (bM o)]=if o.2<1 then some (.ex (eQ k) [x0,some (.int (k:Nat)),some (bM o)]) else some (.nx [x0,some (.int (k:Nat)),some (bM o)]):=by
 show bu (bq (au (bz (bM o) (.int 1)) (some (.int 1)) mG)) (mM "NoFolk" "number" _ (some (.int (k:Nat)))) _=_
 rw[show bz (bM o) (.int 1)=some (.int o.2) from rfl,cW,Dt,FE]
 by_cases h:o.2<1
 ·rw[decide_eq_true h,if_pos h]
  show (if (((k:Nat):Int)).natAbs.log2<1920 then _ else none)=_
  rw[if_pos (LU (by omega))]
 ·rw[decide_eq_false h,if_neg h]
  rfl
theorem Cb (x0:Option ae):∀ (P:List (Int×Int)) (k:Nat) (x1 x2:Option ae),k+P.length<1000 ->
  ∃ o,k8 (gz 2 (dg (bS 1) (dg (bS 2) gU))) nq (pV k P) [x0,x1,x2]=some o ∧
   match fb k P with
   | none=>∃ y1 y2,o=.nx [x0,y1,y2]
   | some j=>∃ ρ',o=.ex (eQ j) ρ'
 | [],k,x1,x2,_=>⟨_,rfl,_,_,rfl⟩
 | p::r,k,x1,x2,h=>by
  rw[dB] at h
  have e:=Jf x0 k p (by omega)
  have ih:=Cb x0 r (k+1) (some (.int (k:Nat))) (some (bM p)) (by omega)
  show ∃ o,(nq [x0,some (.int (k:Nat)),some (bM p)]).bind _=some o∧_
  rw[e]
  by_cases hb:p.2<1
  ·rw[if_pos hb]
   refine⟨_,rfl,?_⟩
   rw[fb,if_pos hb]
   exact⟨_,rfl⟩
  ·rw[if_neg hb,fb,if_neg hb]
   exact ih
theorem Ca (P:List (Int×Int))(h:P.length<900):g_ [aR P]=match fb 0 P with
  | none=>some (.ret .none)
  | some j=>some (.exc (eQ j)):=by
 show j2 (xy _ nq (some (jh (P.map bM))) [some (aR P),none,none])=_
 rw[JO]
 obtain⟨o,e1,e2⟩:=Cb (some (aR P)) P 0 none none (by omega)
 show j2 (k8 _ nq (pV 0 P) [some (aR P),none,none])=_
 rw[e1]
 cases q:fb 0 P with
 | none=>
  rw[q] at e2
  obtain⟨y1,y2,rfl⟩:=e2
  rfl
 | some j=>
  rw[q] at e2
  obtain⟨ρ',rfl⟩:=e2
  rfl
theorem OT {ps:List (Int×Int)}(h:∀ p∈ps,dv p)(hl:ps.length≤10):lO [.str (tT ps)]=some (.ret (aR ps)):=by
 have q:oM [some (.str (tT ps)),none]=some (.rt (aR ps)):=by
  unfold oM
  by_cases hp:ps=[]
  ·subst hp
   rw[show tT []=aj "nobody" from if_pos rfl]
   kernel_rfl
  have et:tT ps=eW ⟨#[32]⟩ (ps.map wT):=if_neg hp
  have hne:(tT ps==aj "nobody")=false:=by
   refine beq_eq_false_iff_ne.mpr fun z=>?_
   rw[et] at z
   have:=CT ps 110 (by rw[z];decide +kernel)
   omega
  have es:mR (.str (tT ps)) (.str (aj " "))=some ((ps.map wT).map .str):=by
   show (if (!((⟨#[32]⟩:Str).length==0)&&cG (tT ps))=true then some ((Txt.split (tT ps) ⟨#[32]⟩).map PyData.str) else none)=_
   rw[et,if_pos]
   ·rw[Fe (by simpa using hp) fun t ht=>?_]
    obtain⟨q,_,rfl⟩:=List.mem_map.mp ht
    intro z
    have:=FU q 32 z
    omega
   ·rw[show cG (eW ⟨#[32]⟩ (ps.map wT))=true from decide_eq_true (dn (xD h hl) (by decide))]
    rfl
  have ec:c_ (bS 0) (fun _=>some true) oZ (some ((ps.map wT).map .str)) [none]=some (ps.map bM):=by
   rw[nV (by rw[cm,cm];omega),List.map_map]
   have:=mr (S:=bS 0) (fe:=oZ) (fun q:Int×Int=>PyData.str (wT q)) bM (fun q=>q) (fun ρ=>∃ y,ρ=[y]) dv (fun q ρ hq hρ=>by
    obtain⟨y,rfl⟩:=hρ
    exact⟨[some (.str (wT q))],rfl,⟨_,rfl⟩,Nl hq⟩) ps [none] ⟨_,rfl⟩ h
   rw[List.map_id'] at this
   exact this
  rw[fF (ρ':=[some (.str (tT ps)),none]) ?s1]
  case s1=>
   show (bu (bq (cc (.str (tT ps)) (.str (aj "nobody")))) _ _).map aA.x=_
   rw[CA (BP ps) wK,hne]
   rfl
  rw[fF (ρ':=[some (.str (tT ps)),some (aR ps)]) ?s2]
  case s2=>
   show (bj 1 _ ((c_ (bS 0) (fun _=>some true) oZ (((mR (.str (tT ps)) (.str (aj " "))).map .list).bind cH) [none]).map .list)).map aA.x=_
   rw[es]
   show (bj 1 _ ((c_ (bS 0) (fun _=>some true) oZ (some ((ps.map wT).map .str)) [none]).map .list)).map aA.x=_
   rw[ec]
   rfl
  rw[fF (ρ':=[some (.str (tT ps)),some (aR ps)]) ?s3]
  case s3=>
   show bu (bq (nZ .none (aR ps))) _ _=_
   rw[KN]
   rfl
  rfl
 show j2 (oM [some (.str (tT ps)),none])=_
 rw[q]
 rfl
theorem CG:∀ (P:List (Int×Int)) (k:Nat),(∀ p∈P,1≤p.2)->fb k P=none
 | [],_,_=>rfl
 | p::r,k,h=>by
  rw[fb,if_neg (by have:=h p bQ;omega)]
  exact CG r (k+1) fun q hq=>h q (bP _ hq)
theorem CH:∀ (P:List (Int×Int)) (k:Nat) (q:Int×Int),(∀ p∈P,1≤p.2)->q.2<1->fb k (P++[q])=some (k+P.length)
 | [],k,q,_,hq=>by
  show (if q.2<1 then some k else fb (k+1) [])=_
  rw[if_pos hq]
  rfl
 | p::r,k,q,h,hq=>by
  show (if p.2<1 then some k else fb (k+1) (r++[q]))=_
  rw[if_neg (by have:=h p bQ;omega),CH r (k+1) q (fun z hz=>h z (bP _ hz)) hq,dB]
  congr 1
  omega
theorem Jg {P:List (Int×Int)}(hl:P.length<900)(h:∀ p∈P,1≤p.2):rC [aR P]=some .none:=by
 unfold rC gW
 rw[Ca P hl,CG P 0 h]
 rfl
theorem Je {P:List (Int×Int)}{q:Int×Int}(hl:P.length<800)(h:∀ p∈P,1≤p.2)(hq:q.2<1):g_ [aR (P++[q])]=some (.exc (eQ P.length)):=by
 rw[Ca _ (by rw[eN,nu];omega),CH P 0 q h hq,Nat.zero_add]
theorem KR:xY "Desk" o4 (some [])=some dk0:=by kernel_rfl
theorem J2 {t:Str}(h:t.length≤5000):cG (aj "line aa "++t)=true:=decide_eq_true (by rw[qm];show 8+t.length≤10000;omega)
theorem Sl {t:Str}(h:t.length≤5000):iX [.str (aj "line aa "++t)]=some (.list [.str (aj "line"),.str (aj "aa"),.str t]):=by
 have q:oS [some (.str (aj "line aa "++t))]=some (.rt (.list [.str (aj "line"),.str (aj "aa"),.str t])):=by
  unfold oS
  refine P4 ?_
  show bu (bq (j_ (.str (aj "line aa "++t)) (.str (aj "line ")))) (((if (!((⟨#[32]⟩:Str).length==0)&&(cG (aj "line aa "++t)&&(!(decide ((2:Int)< -2 ^ 63)||decide ((2:Int)≥2 ^ 63))&&decide ((Txt.splitM (aj "line aa "++t) ⟨#[32]⟩ 2).length≤1000))))=true then some ((Txt.splitM (aj "line aa "++t) ⟨#[32]⟩ 2).map PyData.str) else none).map PyData.list).map aA.rt) _=_
  rw[QE,Qy,J2 h]
  rfl
 show lp (oS [some (.str (aj "line aa "++t))])=_
 rw[q]
 rfl
theorem LA {ps:List (Int×Int)}(hl:ps.length<900)(h:∀ p∈ps,1≤p.2):jA [dk0,.str (aj "aa"),aR ps]=some (.none,jg (aR ps)):=by
 have q:oU [some dk0,some (.str (aj "aa")),some (aR ps)]=some (.rt (.tuple [.none,jg (aR ps)])):=by
  unfold oU
  rw[ou (ρ':=[some dk0,some (.str (aj "aa")),some (aR ps)]) ?s1]
  case s1=>
   show pU _ (rC [aR ps])=_
   rw[Jg hl h]
   rfl
  generalize aR ps=f
  kernel_rfl
 show tU (oU [some dk0,some (.str (aj "aa")),some (aR ps)])=_
 rw[q]
 rfl
theorem RM {ps:List (Int×Int)}(h:∀ p∈ps,dv p∧1≤p.2)(hl:ps.length≤10):m5 [dk0,.str (aj "aa"),.str (tT ps)]=some (.str (aj "aa"),jg (aR ps)):=by
 have q:oW [some dk0,some (.str (aj "aa")),some (.str (tT ps))]=some (.rt (.tuple [.str (aj "aa"),jg (aR ps)])):=by
  unfold oW
  rw[show (bq ((ai (([some dk0,some (.str (aj "aa")),some (.str (tT ps))]:ag)[1]?.join) (some [])).bind kC)).map not=some false from (show (bq (kC [.str (aj "aa")])).map not=some false by kernel_rfl)]
  show f9 _ _ [some dk0,some (.str (aj "aa")),some (.str (tT ps))]=_
  rw[ou (ρ':=[some (jg (aR ps)),some (.str (aj "aa")),some (.str (tT ps))]) ?s1]
  case s1=>
   show (ai (some (.str (aj "aa"))) (ai (rJ [.str (tT ps)]) (some []))).bind (fun ds=>(jA (dk0::ds)).map fun r=>aA.nx [some r.2,some (.str (aj "aa")),some (.str (tT ps))])=_
   rw[show rJ [.str (tT ps)]=some (aR ps) by unfold rJ gW;rw[OT (fun p hp=>(h p hp).1) hl];rfl]
   show (jA [dk0,.str (aj "aa"),aR ps]).map _=_
   rw[LA (by omega) fun p hp=>(h p hp).2]
   rfl
  rfl
 show tU (oW [some dk0,some (.str (aj "aa")),some (.str (tT ps))])=_
 rw[q]
 rfl
theorem Fz {ps:List (Int×Int)}(h:∀ p∈ps,dv p)(hl:ps.length≤10):(tT ps).length≤5000:=by
 unfold tT
 split
 ·decide
 ·exact dn (xD h hl) (by decide)
theorem RG {ps:List (Int×Int)}(h:∀ p∈ps,dv p∧1≤p.2)(hl:ps.length≤10):fR [dk0,.str (aj "line aa "++tT ps)]=some (.str (aj "aa"),jg (aR ps)):=by
 have ht:=Fz (fun p hp=>(h p hp).1) hl
 have e:=RM h hl
 have q:oV [some dk0,some (.str (aj "line aa "++tT ps)),none]=some (.rt (.tuple [.str (aj "aa"),jg (aR ps)])):=by
  unfold oV
  rw[ou (ρ':=[some dk0,some (.str (aj "line aa "++tT ps)),some (.list [.str (aj "line"),.str (aj "aa"),.str (tT ps)])]) ?s1]
  case s1=>
   show bj 2 _ (iX [.str (aj "line aa "++tT ps)])=_
   rw[Sl ht]
   rfl
  generalize tT ps=t at e
  rw[ou (ρ':=[some dk0,some (.str (aj "line aa "++t)),some (.list [.str (aj "line"),.str (aj "aa"),.str t])]) (by kernel_rfl)]
  refine (Jr ?h1).trans ?_
  case h1=>kernel_rfl
  refine (w6 ?h2).trans ?_
  case h2=>kernel_rfl
  show (m5 [dk0,.str (aj "aa"),.str t]).bind (fun r=>mP r.1 [some r.2,some (.str (aj "line aa "++t)),some (.list [.str (aj "line"),.str (aj "aa"),.str t])])=_
  rw[e]
  rfl
 show tU (oV [some dk0,some (.str (aj "line aa "++tT ps)),none])=_
 rw[q]
 rfl
theorem RF (f:ae):fR [jg f,.str (aj "line b nobody")]=some (.str (aj "b"),dk f):=by kernel_rfl
theorem RH (f:ae):fR [dk f,.str (aj "put b 4 2")]=some (.str (aj "1"),my f):=by kernel_rfl
theorem Ql (f:ae):gH [my f,.str (aj "show b")]=some (.str (aj "4*2")):=by kernel_rfl
theorem RE (f:ae):gH [dk f,.str (aj "all")]=some (.str (aj "aa b")):=by kernel_rfl
theorem Qk (f:ae):gH [dk f,.str (aj "show b")]=some (.str (aj "nobody")):=by kernel_rfl
def gE (f:ae)(e:ae):Option ae:=match e with
 | .tuple [l,d,x]=>gG [dk f,l,d,x]
 | _=>none
def LL (m:ae):List ae:=match lQ [m] with
 | some (.list l)=>l
 | _=>[]
theorem LP (m:ae):lQ [m]=some (.list (LL m)):=by kernel_rfl
theorem LQ (m:ae):(LL m).length=94:=by kernel_rfl
theorem LO (m f:ae):((LL m).take 89).map (gE f)=cO 89 (some (.bool true)):=by kernel_rfl
theorem LJ (m f:ae):((LL m)[90]?).bind (gE f)=some (.bool true):=by kernel_rfl
theorem LK (m f:ae):((LL m)[91]?).bind (gE f)=some (.bool true):=by kernel_rfl
theorem LN (m f:ae):((LL m)[93]?).bind (gE f)=some (.bool true):=by kernel_rfl
theorem LH (m:ae):(LL m)[89]?=some (.tuple [.str (aj "put aa 5 0"),.int 6,m]):=by kernel_rfl
theorem LM (m:ae):(LL m)[92]?=some (.tuple [.str (aj "put aa -7 -1"),.int 6,m]):=by kernel_rfl
theorem B7 (ds:List ae)(d:ae)(h:ds.length≤900):(cZ (some (.list ds)) (some (.list [d]))).map PyData.list=some (.list (ds++[d])):=by
 show (if decide ((ds++[d]).length≤1000)=true then some (ds++[d]) else none).map PyData.list=_
 rw[if_pos (decide_eq_true (by rw[eN,nu];omega))]
 rfl
theorem Cv (ps:List (Int×Int))(q:Int×Int):PyData.list (ps.map bM++[bM q])=aR (ps++[q]):=by
 unfold aR
 rw[jF]
 rfl
theorem Lz {f g:ae}{n:Nat}(h:g_ [g]=some (.exc (eQ n))):iV [dk f,.str (aj "aa"),g]=some (.exc (eQ n)):=by
 have q:oN [some (dk f),some (.str (aj "aa")),some g]=some (.ex (eQ n) [some (dk f),some (.str (aj "aa")),some g]):=by
  unfold oN
  refine zG ?_
  show gP _ (g_ [g])=_
  rw[h]
  rfl
 show j2 (oN [some (dk f),some (.str (aj "aa")),some g])=_
 rw[q]
 rfl
theorem Ej {ps:List (Int×Int)}(hl:ps.length≤10)(h:∀ p∈ps,1≤p.2){a b:Str}{q:Int×Int}(hq:q.2<1)
  (h1:∀ f:ae,zx 2 [some (dk f),some (.list [.str (aj "put"),.str (aj "aa"),.str a,.str b]),none,none] ((((ai (some (.list [.str (aj "put"),.str (aj "aa"),.str a,.str b])) (ai (some (.int 2)) (some []))).bind iA).bind fun r=>r.cons (((ai (some (.list [.str (aj "put"),.str (aj "aa"),.str a,.str b])) (ai (some (.int 3)) (some []))).bind iA).map RX.one)).bind dq.tup)=some (.nx [some (dk f),some (.list [.str (aj "put"),.str (aj "aa"),.str a,.str b]),some (bM q),none])) :
  kA [dk (aR ps),.list [.str (aj "put"),.str (aj "aa"),.str a,.str b]]=some (.exc (eQ ps.length)):=by
 have hlay:=Lz (f:=aR ps) (Je (q:=q) (by omega) h hq)
 have q':∃ ρ',oO [some (dk (aR ps)),some (.list [.str (aj "put"),.str (aj "aa"),.str a,.str b]),none,none]=some (.ex (eQ ps.length) ρ'):=by
  unfold oO
  refine⟨[some (dk (aR ps)),some (.list [.str (aj "put"),.str (aj "aa"),.str a,.str b]),some (bM q),some (aR (ps++[q]))],?_⟩
  rw[fF (ρ':=[some (dk (aR ps)),some (.list [.str (aj "put"),.str (aj "aa"),.str a,.str b]),some (bM q),none]) (h1 (aR ps))]
  rw[fF (ρ':=[some (dk (aR ps)),some (.list [.str (aj "put"),.str (aj "aa"),.str a,.str b]),some (bM q),some (aR (ps++[q]))]) ?s2]
  case s2=>
   have hd:∀ f:ae,au ((some (dk f)).bind (iN "Desk" "fields")) (au (some (.list [.str (aj "put"),.str (aj "aa"),.str a,.str b])) (some (.int 1)) bz) jU=some f:=fun f=>by kernel_rfl
   show (bj 3 _ ((cZ (au ((some (dk (aR ps))).bind (iN "Desk" "fields")) (au (some (.list [.str (aj "put"),.str (aj "aa"),.str a,.str b])) (some (.int 1)) bz) jU) (some (.list [bM q]))).map .list)).map aA.x=_
   rw[hd,show aR ps=.list (ps.map bM) from rfl,B7 _ _ (by rw[cm];omega),Cv]
   rfl
  refine zG ?_
  show gP _ (gk "Desk" "lay" iV _ _ _)=_
  have hc:gk "Desk" "lay" iV (fun ρ=>(ρ[0]?).join) (fun ρ=>(ai (au ((ρ[1]?).join) (some (.int 1)) bz) (ai ((ρ[3]?).join) (some []))).map .ret) [some (dk (aR ps)),some (.list [.str (aj "put"),.str (aj "aa"),.str a,.str b]),some (bM q),some (aR (ps++[q]))]=iV [dk (aR ps),.str (aj "aa"),aR (ps++[q])]:=by
   generalize aR ps=f
   generalize aR (ps++[q])=g
   unfold gk
   show (some (dk f)).bind _=_
   rw[bW,if_pos (show jX "Desk" "lay" (dk f)=true by kernel_rfl)]
   rfl
  rw[hc,hlay]
  rfl
 obtain⟨ρ',q'⟩:=q'
 show j2 (oO [some (dk (aR ps)),some (.list [.str (aj "put"),.str (aj "aa"),.str a,.str b]),none,none])=_
 rw[q']
 rfl
theorem FD {f:ae}{n:Nat}{line a b:Str}(h:kA [dk f,.list [.str (aj "put"),.str (aj "aa"),.str a,.str b]]=some (.exc (eQ n)))
  (hw:iX [.str line]=some (.list [.str (aj "put"),.str (aj "aa"),.str a,.str b])) (hc:kz [.list [.str (aj "put"),.str (aj "aa"),.str a,.str b]]=some (.ret .none)):gF [dk f,.str line]=some (.exc (eQ n)):=by
 have q:∃ ρ',ko [some (dk f),some (.str line),none]=some (.ex (eQ n) ρ'):=by
  unfold ko
  refine⟨[some (dk f),some (.str line),some (.list [.str (aj "put"),.str (aj "aa"),.str a,.str b])],?_⟩
  rw[fF (ρ':=[some (dk f),some (.str line),some (.list [.str (aj "put"),.str (aj "aa"),.str a,.str b])]) ?s1]
  case s1=>
   show (bj 2 _ (iX [.str line])).map aA.x=_
   rw[hw]
   rfl
  rw[fF (ρ':=[some (dk f),some (.str line),some (.list [.str (aj "put"),.str (aj "aa"),.str a,.str b])]) ?s2]
  case s2=>
   show gP _ (kz [.list [.str (aj "put"),.str (aj "aa"),.str a,.str b]])=_
   rw[hc]
   rfl
  rw[fF (ρ':=[some (dk f),some (.str line),some (.list [.str (aj "put"),.str (aj "aa"),.str a,.str b])]) (by kernel_rfl)]
  rw[fF (ρ':=[some (dk f),some (.str line),some (.list [.str (aj "put"),.str (aj "aa"),.str a,.str b])]) (by kernel_rfl)]
  rw[fF (ρ':=[some (dk f),some (.str line),some (.list [.str (aj "put"),.str (aj "aa"),.str a,.str b])]) (by kernel_rfl)]
  refine zG ?_
  refine (w6 ?h1).trans ?_
  case h1=>kernel_rfl
  have hm:gk "Desk" "tell_put" kA (fun ρ=>(ρ[0]?).join) (fun ρ=>(ai ((ρ[2]?).join) (some [])).map .ret) [some (dk f),some (.str line),some (.list [.str (aj "put"),.str (aj "aa"),.str a,.str b])]=kA [dk f,.list [.str (aj "put"),.str (aj "aa"),.str a,.str b]]:=by
   unfold gk
   show (some (dk f)).bind _=_
   rw[bW,if_pos (show jX "Desk" "tell_put" (dk f)=true by kernel_rfl)]
   rfl
  rw[hm,h]
  rfl
 obtain⟨ρ',q⟩:=q
 show j2 (ko [some (dk f),some (.str line),none])=_
 rw[q]
 rfl
theorem EB {f:ae}{n:Nat}{line:Str}(h:gF [dk f,.str line]=some (.exc (eQ n))):gG [dk f,.str line,.int 6,.int (n:Nat)]=some (.bool true):=by
 have q:oQ [some (dk f),some (.str line),some (.int 6),some (.int (n:Nat)),none,none,none]=some (.rt (.bool true)):=by
  unfold oQ
  rw[iu (ρ':=[some (dk f),some (.str line),some (.int 6),some (.int (n:Nat)),some .none,none,none]) rfl]
  rw[iu (ρ':=[some (dk f),some (.str line),some (.int 6),some (.int (n:Nat)),some (eQ n),none,none]) ?s2]
  case s2=>
   have hm:gk "Desk" "tell" gF (fun ρ=>(ρ[0]?).join) (fun ρ=>(ai ((ρ[1]?).join) (some [])).map .ret) [some (dk f),some (.str line),some (.int 6),some (.int (n:Nat)),some .none,none,none]=gF [dk f,.str line]:=by
    unfold gk
    show (some (dk f)).bind _=_
    rw[bW,if_pos (show jX "Desk" "tell" (dk f)=true by kernel_rfl)]
    rfl
   show qS 5 bI vI (gP _ (gk "Desk" "tell" gF _ _ _))=_
   rw[hm,h]
   show qS 5 bI vI (some (.ex (eQ n) [some (dk f),some (.str line),some (.int 6),some (.int (n:Nat)),some .none,none,none]))=_
   rw[RN (ρ':=[some (dk f),some (.str line),some (.int 6),some (.int (n:Nat)),some (eQ n),some (eQ n),none]) (by show bI.contains ("NoFolk":Str)=true;decide +kernel) rfl]
   rfl
  rw[iu (ρ':=[some (dk f),some (.str line),some (.int 6),some (.int (n:Nat)),some (eQ n),none,none]) (by kernel_rfl)]
  rw[iu (ρ':=[some (dk f),some (.str line),some (.int 6),some (.int (n:Nat)),some (eQ n),none,some (.int (n:Nat))]) (by kernel_rfl)]
  show (jO (cc (.int (n:Nat)) (.int (n:Nat))) _).map aA.rt=_
  rw[Cz,beq_self_eq_true]
  kernel_rfl
 show lp (oQ [some (dk f),some (.str line),some (.int 6),some (.int (n:Nat)),none,none,none])=_
 rw[q]
 rfl
theorem Ox {ps:List (Int×Int)}(hl:ps.length≤10)(h:∀ p∈ps,1≤p.2):gG [dk (aR ps),.str (aj "put aa 5 0"),.int 6,.int (ps.length:Nat)]=some (.bool true):=
 EB (FD (a:=aj "5") (b:=aj "0") (Ej (q:=(5,0)) hl h (by decide) fun f=>by kernel_rfl) (by kernel_rfl) (by kernel_rfl))
theorem Oy {ps:List (Int×Int)}(hl:ps.length≤10)(h:∀ p∈ps,1≤p.2):gG [dk (aR ps),.str (aj "put aa -7 -1"),.int 6,.int (ps.length:Nat)]=some (.bool true):=
 EB (FD (a:=aj "-7") (b:=aj "-1") (Ej (q:=(-7,-1)) hl h (by decide) fun f=>by kernel_rfl) (by kernel_rfl) (by kernel_rfl))
theorem Km {f e:ae}(h:gE f e=some (.bool true)):∃ l d x,e=.tuple [l,d,x]∧gG [dk f,l,d,x]=some (.bool true):=by
 unfold gE at h
 split at h
 ·exact⟨_,_,_,rfl,h⟩
 ·cases h
theorem H_ {L:List ae}{f e1 e2:ae}(hA:(L.take 89).map (gE f)=cO 89 (some (.bool true)))(h89:L[89]?=some e1)(g89:gE f e1=some (.bool true))(h90:(L[90]?).bind (gE f)=some (.bool true))(h91:(L[91]?).bind (gE f)=some (.bool true))(h92:L[92]?=some e2)(g92:gE f e2=some (.bool true))(h93:(L[93]?).bind (gE f)=some (.bool true))(i:Nat)(hi:i<94) :
  ∃ l d x,L[i]?=some (.tuple [l,d,x])∧gG [dk f,l,d,x]=some (.bool true):=by
 have z:(L[i]?).bind (gE f)=some (.bool true):=by
  by_cases h:i<89
  ·have:=congrArg (fun l=>l[i]?) hA
   simp only[e7,List.getElem?_take] at this
   rw[if_pos h,nt,if_pos h] at this
   generalize L[i]?=v at this
   cases v with
   | none=>cases this
   | some v=>exact aE this
  ·obtain rfl | rfl | rfl | rfl | rfl:i=89∨i=90∨i=91∨i=92∨i=93:=by omega
   ·rw[h89];exact g89
   ·exact h90
   ·exact h91
   ·rw[h92];exact g92
   ·exact h93
 obtain⟨e,z1,z2⟩:=bind_some z
 obtain⟨l,d,x,rfl,z3⟩:=Km z2
 exact⟨l,d,x,z1,z3⟩
theorem CQ {f l d x r:ae}(h:gG [dk f,l,d,x]=some r):gE f (.tuple [l,d,x])=some r:=h
theorem HZ {ps:List (Int×Int)}(hl:ps.length≤10)(h:∀ p∈ps,1≤p.2):∀ (i:Nat),i<94->∃ l d x,(LL (.int (ps.length:Nat)))[i]?=some (.tuple [l,d,x])∧gG [dk (aR ps),l,d,x]=some (.bool true):=
 H_ (LO _ _) (LH _) (CQ (Ox hl h)) (LJ _ _) (LK _ _) (LM _) (CQ (Oy hl h)) (LN _ _)
theorem Qj {ps:List (Int×Int)}(h:∀ p∈ps,dv p)(hl:ps.length≤10):gH [dk (aR ps),.str (aj "show aa")]=some (.str (tT ps)):=by
 have ht:=RJ h hl
 generalize aR ps=f at ht
 generalize PyData.str (tT ps)=t at ht
 have ea:lN [.list [.str (aj "show"),.str (aj "aa")],f]=some (.ret t):=by
  have q:oK [some (.list [.str (aj "show"),.str (aj "aa")]),some f]=some (.rt t):=by
   unfold oK
   refine QN ?_
   show (bu (bq (au (au (some (.list [.str (aj "show"),.str (aj "aa")])) (some (.int 0)) bz) (some (.str (aj "show"))) cc)) ((lS [f]).map .rt) _).map aA.x=_
   rw[ht,w6 (show bq (au (au (some (.list [.str (aj "show"),.str (aj "aa")])) (some (.int 0)) bz) (some (.str (aj "show"))) cc)=some true by kernel_rfl)]
   rfl
  show j2 (oK [some (.list [.str (aj "show"),.str (aj "aa")]),some f])=_
  rw[q]
  rfl
 have q:ko [some (dk f),some (.str (aj "show aa")),none]=some (.rt t):=by
  unfold ko
  rw[fF (ρ':=[some (dk f),some (.str (aj "show aa")),some (.list [.str (aj "show"),.str (aj "aa")])]) (by kernel_rfl)]
  rw[fF (ρ':=[some (dk f),some (.str (aj "show aa")),some (.list [.str (aj "show"),.str (aj "aa")])]) (by kernel_rfl)]
  rw[fF (ρ':=[some (dk f),some (.str (aj "show aa")),some (.list [.str (aj "show"),.str (aj "aa")])]) (by kernel_rfl)]
  rw[fF (ρ':=[some (dk f),some (.str (aj "show aa")),some (.list [.str (aj "show"),.str (aj "aa")])]) (by kernel_rfl)]
  rw[fF (ρ':=[some (dk f),some (.str (aj "show aa")),some (.list [.str (aj "show"),.str (aj "aa")])]) (by kernel_rfl)]
  rw[fF (ρ':=[some (dk f),some (.str (aj "show aa")),some (.list [.str (aj "show"),.str (aj "aa")])]) (by kernel_rfl)]
  rw[fF (ρ':=[some (dk f),some (.str (aj "show aa")),some (.list [.str (aj "show"),.str (aj "aa")])]) (by kernel_rfl)]
  have hd:au ((some (dk f)).bind (iN "Desk" "fields")) (au (some (.list [.str (aj "show"),.str (aj "aa")])) (some (.int 1)) bz) jU=some f:=by kernel_rfl
  show iq _ ((ai (some (.list [.str (aj "show"),.str (aj "aa")])) (ai (au ((some (dk f)).bind (iN "Desk" "fields")) (au (some (.list [.str (aj "show"),.str (aj "aa")])) (some (.int 1)) bz) jU) (some []))).bind lN)=_
  rw[hd]
  show iq _ (lN [.list [.str (aj "show"),.str (aj "aa")],f])=_
  rw[ea]
  rfl
 show gW gF [dk f,.str (aj "show aa")]=_
 unfold gW
 rw[show gF [dk f,.str (aj "show aa")]=j2 (ko [some (dk f),some (.str (aj "show aa")),none]) from rfl,q]
 rfl
theorem Of {ps:List Int}(h:ps≠[]){x0:Option ae}{r:ag}:fk 1 (x0::some (.list (ps.map .int))::r)=some (.int (ps.getLast h),x0::some (.list (ps.dropLast.map .int))::r):=by
 show (some (ps.map PyData.int)).bind _=_
 rw[bW,Hk,Hj h,l5,l5,Hn]
 rfl
theorem ym {ps:List Int}(h:ps≠[]){m:Int}(hm:0<m){g:ag->Option ae}{x0:Option ae}{r:ag}(hg:g (x0::some (.list (ps.dropLast.map .int))::r)=some (.int m)) :
  di cu (fk 1) g (x0::some (.list (ps.map .int))::r)=some (.int (ps.getLast h % m),x0::some (.list (ps.dropLast.map .int))::r):=by
 unfold di
 rw[Of h,bW]
 show (g (x0::some (.list (ps.dropLast.map .int))::r)).bind _=_
 rw[hg,bW,gT hm]
 rfl
theorem Mq {a b c:Str}(ha:gM a)(hb:gM b)(hc:gM c):eJ (.list [.str a,.str b,.str c]) (.list [.str a,.str b,.str c])=some (.bool false):=by
 have hs:fW (.list [.str a,.str b,.str c])=true:=by
  unfold fW
  simp[i5,pG,r9,wb,su ha,su hb,su hc]
 unfold eJ
 rw[if_pos (by rw[hs];rfl)]
 simp[i6,nG]
theorem Ij {x:Str}(h:x.cps.toList.all (·<128)=true):gM x:=fun c hc=>by
 have:=List.all_eq_true.mp h c hc
 exact of_decide_eq_true this
theorem wW (m:Str)(F:List ae->Option ae)(f d:ae)(x0 x1 x2 x4 x5 x6 x7 x8:Option ae)(h:jX "Desk" m (dk f)=true):gN "Desk" m F (fun ρ=>(ρ[3]?).join) (fun ρ=>ai (some d) (some [])) [x0,x1,x2,some (dk f),x4,x5,x6,x7,x8]=F [dk f,d]:=by
 unfold gN
 show (some (dk f)).bind _=_
 rw[bW,if_pos h]
 rfl
theorem l0 {ps:List Int}(hp:ps≠[]){g:List (Int×Int)}(hl:g.length≤10)(h:∀ p∈g,dv p∧1≤p.2)(x0 x5 x6 x7 x8:Option ae) :
  ∃ y6 y7 y8,pb [x0,some (.list (ps.map .int)),some (aR g),some (dk (aR g)),some (.list (LL (.int (g.length:Nat)))),x5,x6,x7,x8]=some (.nx [x0,some (.list (ps.dropLast.map .int)),some (aR g),some (dk (aR g)),some (.list (LL (.int (g.length:Nat)))),x5,y6,y7,y8]):=by
 obtain⟨k,k1,k2⟩:∃ k:Nat,k<94∧ps.getLast hp % 94=(k:Nat):=⟨(ps.getLast hp % 94).toNat,by omega,by omega⟩
 obtain⟨l,d,x,e1,e2⟩:=HZ hl (fun p hp=>(h p hp).2) k k1
 have ht:=DA (fun p hp=>(h p hp).1) hl
 have hs:=Qj (fun p hp=>(h p hp).1) hl
 have ha:=BP g
 generalize aR g=f at *
 generalize tT g=t at *
 have hlen:=LQ (.int (g.length:Nat))
 generalize LL (.int (g.length:Nat))=L at *
 refine⟨some l,some d,some x,?_⟩
 unfold pb
 rw[iu (ρ':=[x0,some (.list (ps.dropLast.map .int)),some f,some (dk f),some (.list L),x5,some l,some d,some x]) ?s1]
 case s1=>
  have q:di cu (fk 1) (fun ρ=>(ai ((ρ[4]?).join) (some [])).bind eG) [x0,some (.list (ps.map .int)),some f,some (dk f),some (.list L),x5,x6,x7,x8]=some (.int (k:Nat),[x0,some (.list (ps.dropLast.map .int)),some f,some (dk f),some (.list L),x5,x6,x7,x8]):=by
   rw[ym hp (m:=94) (by decide) (by show eG [.list L]=_;show some (PyData.int (L.length:Nat))=_;rw[hlen];rfl),k2]
  unfold j1
  rw[q]
  show wL _ ((bz (.list L) (.int (k:Nat))).map fun e=>(e,_))=_
  rw[show bz (.list L) (.int (k:Nat))=some (.tuple [l,d,x]) from by
   show atI L ((k:Nat):Int)=_
   exact BR e1]
  rfl
 rw[iu (ρ':=[x0,some (.list (ps.dropLast.map .int)),some f,some (dk f),some (.list L),x5,some l,some d,some x]) ?s2]
 case s2=>
  show bu ((bq (gG [dk f,l,d,x])).map not) _ _=_
  rw[e2]
  rfl
 show bu (bq (au ((bX (ai (gN "Desk" "tell" gH (fun ρ=>(ρ[3]?).join) (fun ρ=>ai (some (.str (aj "all"))) (some [])) [x0,some (.list (ps.dropLast.map .int)),some f,some (dk f),some (.list L),x5,some l,some d,some x]) (ai (gN "Desk" "tell" gH (fun ρ=>(ρ[3]?).join) (fun ρ=>ai (some (.str (aj "show aa"))) (some [])) [x0,some (.list (ps.dropLast.map .int)),some f,some (dk f),some (.list L),x5,some l,some d,some x]) (ai (gN "Desk" "tell" gH (fun ρ=>(ρ[3]?).join) (fun ρ=>ai (some (.str (aj "show b"))) (some [])) [x0,some (.list (ps.dropLast.map .int)),some f,some (dk f),some (.list L),x5,some l,some d,some x]) (some []))))).map .list) ((bX (ai (some (.str (aj "aa b"))) (ai (iW [f]) (ai (some (.str (aj "nobody"))) (some []))))).map .list) eJ)) _ _=_
 have ho:jX "Desk" "tell" (dk f)=true:=by kernel_rfl
 rw[wW _ _ _ _ _ _ _ _ _ _ _ _ ho,wW _ _ _ _ _ _ _ _ _ _ _ _ ho,wW _ _ _ _ _ _ _ _ _ _ _ _ ho,RE,hs,Qk,ht]
 show bu (bq (eJ (.list [.str (aj "aa b"),.str t,.str (aj "nobody")]) (.list [.str (aj "aa b"),.str t,.str (aj "nobody")]))) _ _=_
 rw[Mq (Ij (by decide +kernel)) ha wK]
 rfl
theorem Dj {g:List (Int×Int)}(hl:g.length≤10)(h:∀ p∈g,dv p∧1≤p.2)(x0:Option ae):∀ (ks:List ae) {ps:List Int} (_:ks.length≤ps.length) (x5 x6 x7 x8:Option ae),
  ∃ rs y5 y6 y7 y8,fD (bS 5) pb ks [x0,some (.list (ps.map .int)),some (aR g),some (dk (aR g)),some (.list (LL (.int (g.length:Nat)))),x5,x6,x7,x8]=some (.nx [x0,some (.list rs),some (aR g),some (dk (aR g)),some (.list (LL (.int (g.length:Nat)))),y5,y6,y7,y8])
 | [],ps,_,x5,x6,x7,x8=>⟨_,_,_,_,_,rfl⟩
 | k::ks,ps,hk,x5,x6,x7,x8=>by
  rw[dB] at hk
  have hp:ps≠[]:=A9 (by omega)
  obtain⟨y6,y7,y8,e⟩:=l0 hp hl h x0 (some k) x6 x7 x8
  obtain⟨rs,z5,z6,z7,z8,e'⟩:=Dj hl h x0 ks (ps:=ps.dropLast) (by rw[iE];omega) (some k) y6 y7 y8
  refine⟨rs,z5,z6,z7,z8,?_⟩
  show (pb [x0,some (.list (ps.map .int)),some (aR g),some (dk (aR g)),some (.list (LL (.int (g.length:Nat)))),some k,x6,x7,x8]).bind _=_
  rw[e]
  exact e'
theorem xU (F:List ae->Option (ae×ae)){f d r f':ae}{x0 x1 x2 x4 x5 x6 x7 x8:Option ae}{fs:ag->Option (List ae)}(hs:∀ x3,fs [x0,x1,x2,x3,x4,x5,x6,x7,x8]=some [d])(ho:(fg f).isSome=true)(h:F [f,d]=some (r,f')) :
  j0 3 F fs [x0,x1,x2,some f,x4,x5,x6,x7,x8]=some (r,[x0,x1,x2,some f',x4,x5,x6,x7,x8]):=by
 unfold j0
 show (fg f).bind _=_
 obtain⟨z,hz⟩:=Option.isSome_iff_exists.mp ho
 rw[hz,bW]
 show (some f).bind _=_
 rw[bW,hs,bW,h]
 rfl
theorem main (ns:List Int)(hl:ns.length≤63):o6 [.list (ns.map .int)]=some (.bool true):=by
 obtain⟨ds,a1,a2,e0⟩:=JH ns 0 hl (by decide)
 obtain⟨g0,qs,g1,g2,g3,g4,eF⟩:=J7 a2 a1
 have hq:qs≠[]:=A9 (by omega)
 have hq2:qs.dropLast≠[]:=A9 (by rw[iE];omega)
 obtain⟨q,hq1⟩:∃ q:Int×Int,q=(qs.getLast hq % 9,1+qs.dropLast.getLast hq2 % 9):=⟨_,rfl⟩
 have hs1:∀ p∈g0++[q],dv p∧1≤p.2:=fun p hp=>by
  rcases List.mem_append.mp hp with z | z
  ·exact g1 p z
  ·rw[List.mem_singleton.mp z,hq1]
   exact⟨⟨qL (m:=9) (by show -9≤qs.getLast hq % 9;omega) (by show qs.getLast hq % 9≤9;omega) (by decide),qL (m:=9) (by show -9≤1+qs.dropLast.getLast hq2 % 9;omega) (by show 1+qs.dropLast.getLast hq2 % 9≤9;omega) (by decide)⟩,by show 1≤1+qs.dropLast.getLast hq2 % 9;omega⟩
 have hl1:(g0++[q]).length≤10:=by rw[eN,nu];omega
 have eC:(sC (sy 1 ky (fun ρ=>ai (some (.int 4)) (some []))) (qo (iI (qT (iI (di cu (fk 1) (fun ρ=>some (.int 9))) (iI (j1 ez (fun ρ=>some (.int 1)) (di cu (fk 1) (fun ρ=>some (.int 9)))) (fun ρ=>some ([],ρ))))) (fun ρ=>some ([],ρ))))) [some (.list (ns.map .int)),some (.list (ds.map .int)),none,none,none,none,none,none,none]=some (aR (g0++[q]),[some (.list (ns.map .int)),some (.list (qs.dropLast.dropLast.map .int)),none,none,none,none,none,none,none]):=by
  have c1:sy 1 ky (fun ρ=>ai (some (.int 4)) (some [])) [some (.list (ns.map .int)),some (.list (ds.map .int)),none,none,none,none,none,none,none]=some (aR g0,[some (.list (ns.map .int)),some (.list (qs.map .int)),none,none,none,none,none,none,none]):=by
   show (ky [.list (ds.map .int),.int 4]).map _=_
   rw[eF]
   rfl
  have c2:(qo (iI (qT (iI (di cu (fk 1) (fun ρ=>some (.int 9))) (iI (j1 ez (fun ρ=>some (.int 1)) (di cu (fk 1) (fun ρ=>some (.int 9)))) (fun ρ=>some ([],ρ))))) (fun ρ=>some ([],ρ)))) [some (.list (ns.map .int)),some (.list (qs.map .int)),none,none,none,none,none,none,none]=some (.list [bM q],[some (.list (ns.map .int)),some (.list (qs.dropLast.dropLast.map .int)),none,none,none,none,none,none,none]):=by
   have p1:=ym hq (m:=9) (by decide) (g:=fun _=>some (.int 9)) (x0:=some (.list (ns.map .int))) (r:=[none,none,none,none,none,none,none]) rfl
   have p2:=ym hq2 (m:=9) (by decide) (g:=fun _=>some (.int 9)) (x0:=some (.list (ns.map .int))) (r:=[none,none,none,none,none,none,none]) rfl
   unfold qo iI qT j1
   dsimp only
   rw[p1,bW]
   dsimp only
   rw[bW,p2,bW]
   dsimp only
   rw[pN,hq1]
   rfl
  unfold sC
  rw[c1,bW,c2,bW]
  have:=B7 (g0.map bM) (bM q) (by rw[cm];omega)
  obtain⟨zs,z1,z2⟩:=map_some this
  show (cZ (some (.list (g0.map bM))) (some (.list [bM q]))).map _=_
  rw[z1,← Cv,← z2]
  rfl
 generalize g0++[q]=g at hs1 hl1 eC
 have et:=DA (fun p hp=>(hs1 p hp).1) hl1
 have eL:=RG hs1 hl1
 obtain⟨rs,y5,y6,y7,y8,el⟩:=Dj hl1 hs1 (some (.list (ns.map .int))) (eT 0 20) (ps:=qs.dropLast.dropLast) (by rw[show (eT 0 20).length=20 from rfl,iE,iE];omega) none none none none
 have elen:eG [aR g]=some (.int (g.length:Nat)):=by show some (PyData.int ((g.map bM).length:Nat))=_;rw[cm]
 have ead:hZ (.str (aj "line aa ")) (.str (tT g))=some (.str (aj "line aa "++tT g)):=by
  show (if (cG (aj "line aa ")&&cG (tT g))=true then some (PyData.str (aj "line aa "++tT g)) else none)=_
  rw[show cG (tT g)=true from decide_eq_true (dn (Fz (fun p hp=>(hs1 p hp).1) hl1) (by decide))]
  rfl
 have q:oR [some (.list (ns.map .int)),none,none,none,none,none,none,none,none]=some (.rt (.bool true)):=by
  generalize aR g=f at *
  unfold oR
  rw[iu (ρ':=[some (.list (ns.map .int)),some (.list (ds.map .int)),none,none,none,none,none,none,none]) ?a1]
  case a1=>
   show bj 1 _ (lP [.list (ns.map .int),.int ((0:Nat):Int),.int 2])=_
   rw[e0]
   rfl
  rw[iu (ρ':=[some (.list (ns.map .int)),some (.list (qs.dropLast.dropLast.map .int)),some f,none,none,none,none,none,none]) ?a2]
  case a2=>
   rw[eC]
   rfl
  rw[iu (ρ':=[some (.list (ns.map .int)),some (.list (qs.dropLast.dropLast.map .int)),some f,some dk0,none,none,none,none,none]) ?a3]
  case a3=>
   rw[KR]
   rfl
  rw[iu (ρ':=[some (.list (ns.map .int)),some (.list (qs.dropLast.dropLast.map .int)),some f,some (dk f),none,none,none,none,none]) ?a4]
  case a4=>
   have b1:di eJ (j0 3 fR (fun ρ=>ai (au (some (.str (aj "line aa "))) ((ai ((ρ[2]?).join) (some [])).bind iW) hZ) (some []))) (fun ρ=>some (.str (aj "aa"))) [some (.list (ns.map .int)),some (.list (qs.dropLast.dropLast.map .int)),some f,some dk0,none,none,none,none,none]=some (.bool false,[some (.list (ns.map .int)),some (.list (qs.dropLast.dropLast.map .int)),some f,some (jg f),none,none,none,none,none]):=by
    unfold di
    rw[xU (d:=.str (aj "line aa "++tT g)) fR (fun x3=>by
     show ai (au (some (.str (aj "line aa "))) (iW [f]) hZ) (some [])=_
     rw[et,cW,ead]
     rfl) (by kernel_rfl) eL]
    kernel_rfl
   have b2:di eJ (j0 3 fR (fun ρ=>ai (some (.str (aj "line b nobody"))) (some []))) (fun ρ=>some (.str (aj "b"))) [some (.list (ns.map .int)),some (.list (qs.dropLast.dropLast.map .int)),some f,some (jg f),none,none,none,none,none]=some (.bool false,[some (.list (ns.map .int)),some (.list (qs.dropLast.dropLast.map .int)),some f,some (dk f),none,none,none,none,none]):=by
    unfold di
    rw[xU (d:=.str (aj "line b nobody")) fR (fun x3=>rfl) (by kernel_rfl) (RF f)]
    kernel_rfl
   unfold yd uJ
   rw[b1,bW,show ja (.bool false)=some false from rfl,l5,bW]
   dsimp only
   rw[if_neg (by decide),b2]
   rfl
  rw[iu (ρ':=[some (.list (ns.map .int)),some (.list (qs.dropLast.dropLast.map .int)),some f,some (dk f),some (.list (LL (.int (g.length:Nat)))),none,none,none,none]) ?a5]
  case a5=>
   show bj 4 _ ((ai (eG [f]) (some [])).bind lQ)=_
   rw[elen,Cm,bW,LP]
   rfl
  rw[iu (ρ':=[some (.list (ns.map .int)),some (.list rs),some f,some (dk f),some (.list (LL (.int (g.length:Nat)))),y5,y6,y7,y8]) ?a6]
  case a6=>exact el
  have b3:di cc (j0 3 fR (fun ρ=>ai (some (.str (aj "put b 4 2"))) (some []))) (fun ρ=>some (.str (aj "1"))) [some (.list (ns.map .int)),some (.list rs),some f,some (dk f),some (.list (LL (.int (g.length:Nat)))),y5,y6,y7,y8]=some (.bool true,[some (.list (ns.map .int)),some (.list rs),some f,some (my f),some (.list (LL (.int (g.length:Nat)))),y5,y6,y7,y8]):=by
   generalize LL (.int (g.length:Nat))=L
   unfold di
   rw[xU (d:=.str (aj "put b 4 2")) fR (fun x3=>rfl) (by kernel_rfl) (RH f)]
   kernel_rfl
  unfold wJ
  rw[b3,bW]
  have b4:gN "Desk" "tell" gH (fun ρ=>(ρ[3]?).join) (fun ρ=>ai (some (.str (aj "show b"))) (some [])) [some (.list (ns.map .int)),some (.list rs),some f,some (my f),some (.list (LL (.int (g.length:Nat)))),y5,y6,y7,y8]=some (.str (aj "4*2")):=by
   unfold gN
   show (some (my f)).bind _=_
   rw[bW,if_pos (show jX "Desk" "tell" (my f)=true by kernel_rfl)]
   exact Ql f
  show (au (gN "Desk" "tell" gH (fun ρ=>(ρ[3]?).join) (fun ρ=>ai (some (.str (aj "show b"))) (some [])) [some (.list (ns.map .int)),some (.list rs),some f,some (my f),some (.list (LL (.int (g.length:Nat)))),y5,y6,y7,y8]) (some (.str (aj "4*2"))) cc).map aA.rt=_
  rw[b4,cW]
  kernel_rfl
 show lp (oR [some (.list (ns.map .int)),none,none,none,none,none,none,none,none])=_
 rw[q]
 rfl
end NW
namespace NW
open L2
structure Txt (mg:Str->Option ah):Prop where
 m_ValueError:mg "ValueError"=none
 m_all:mg "all"=none
 m_bool:mg "bool"=none
 m_enumerate:mg "enumerate"=none
 m_int:mg "int"=none
 m_isinstance:mg "isinstance"=none
 m_len:mg "len"=none
 m_list:mg "list"=none
 m_min:mg "min"=none
 m_range:mg "range"=none
 m_reversed:mg "reversed"=none
 m_sorted:mg "sorted"=none
 m_str:mg "str"=none
 m_sum:mg "sum"=none
section
variable {P:aQ}{w:aM}{K:ao}{mg:Str->Option ah}{base:az}
theorem ly:bF ["_law_script","_law_at","_law_parts","_law_unit","_law_found","_law_first","_law_rest","_law_k"] ["_law_script","_law_at","_law_parts"] (aS uc):=bY
theorem Mf:(["_law_k","_law_script"]:List Str).Nodup:=by decide +kernel
theorem MD {f:af}{fd:aY}(F:bh K "_law_digits" ("_law_digits") uc f fd)(T:Txt mg) :aW P w K mg base bx 1 f fd ["_law_script","_law_at","_law_parts"] (cx K (.lst .cl) lP):=
 dP (k:=0) ⟨[(4,.lst .cl)],.lst .cl⟩ F ly (by decide) u7 (fun cdv hk A outer s H E hr=>bf (cC 3 ly.nd (v_sum rfl rfl T.m_sum (bL.r (gr (k:=1) (N:=["_law_k","_law_script"]) (ix:=[0])  (aS uc) rfl ⟨rfl,rfl,by decide +kernel,by decide +kernel,by decide +kernel,rfl,by decide +kernel,rfl⟩ rfl rfl (kO.raw (Ld rfl T.m_range (aH (aw 1) (aH (PV.r (gA (Iu rfl) rfl T.m_min IF (aH (PV.r (gA ib rfl T.m_len gj (aH (aw 0) bc))) (aH aO bc)))) (aH (aw 2) bc))))) (fun _ _ _ _ _ _=>cS (i:=0) Mf rfl (Or.inl rfl)) (fun _ _ _ _ _ _=>fZ) (fun _ _ _ _ _ _=>cA (aw 1) (aw 0)))))) (bf (yZ (i:=4) ly.nd rfl (Or.inl rfl) (dO aL)) (bf (cC 5 ly.nd (v_mod (PV.r (v_add (PV.r (v_mul (aw 3) aO)) aO)) aO)) (bf (cC 6 ly.nd (v_mul (aw 3) (PV.r (ki (Iq) rfl T.m_int wQ (aH (PV.r (qV II (aw 3) (PV.r (v_pow aO aO)))) bc))))) (bf (EL rfl (Df rfl T.m_range (aH aO bc)) (cS (i:=7) ly.nd rfl (Or.inl rfl)) (bf (cC 5 ly.nd (v_mod (PV.r (v_add (PV.r (v_add (PV.r (v_mul (aw 5) (aw 5))) (aw 3))) (PV.r (v_mul aO (aw 7))))) aO)) (bf (d_ (cw wR (aw 6) aO) (bT (yz (pv 4) (v_mod (aw 6) aO))) (bT (yz (pv 4) (v_mod (PV.r (v_mod (PV.r (v_mul (aw 5) (aw 5))) aO)) aO)))) (bT (cC 6 ly.nd (lD (aw 6) aO))))) v9) (bT (Pe (fB.rt (bR.ft (bL.cf (Kb rfl rfl T.m_list rfl T.m_reversed (lr (pv 4)))))))))))))
theorem PL:bF ["self"] ["self"] (aS zd):=bY
theorem Ng {f:af}{fd:aY}(F:bh K "__init__" ("Desk"++".__init__") zd f fd)(T:Txt mg)(FO_fields:iB K "Desk" "fields"):aW P w K mg base bx 1 f fd ["self"] (jt K "Desk" [] [] ["fields"] [.dc none []] o4):=
 p4 (k:=0) (fun l=>⟨[(0,.rc (some l) "Desk" [] [])],.cl⟩) F PL (fun _=>rfl) [0] (fun _=>rfl) (by decide) AE (fun l cdv hk A outer s H E hr=>QC (ns0:=[]) (ts0:=[]) (T:=.dc none []) (O':=⟨[(0,.rc (some l) "Desk" ["fields"] [.dc none []])],.cl⟩) FO_fields (pv 0) (Ki) (Fg))
theorem eK:bF ["_law_many","_law_found","_law_some"] ["_law_many"] (aS j7):=bY
theorem Mg:(["_law_line"]:List Str).Nodup:=by decide +kernel
theorem Mh:(["_law_line"]:List Str).Nodup:=by decide +kernel
theorem DI:(["_law_line","_law_name"]:List Str).Nodup:=by decide +kernel
theorem DJ:(["_law_line","_law_at"]:List Str).Nodup:=by decide +kernel
theorem Mi:(["_law_line"]:List Str).Nodup:=by decide +kernel
theorem DK:(["_law_line","_law_number"]:List Str).Nodup:=by decide +kernel
theorem MG {f:af}{fd:aY}(F:bh K "_law_lines" ("_law_lines") j7 f fd)(T:Txt mg) :aW P w K mg base bx 1 f fd ["_law_many"] (cx K .cl lQ):=
 dP (k:=0) ⟨[(1,.lst .cl)],.cl⟩ F eK (by decide) As (fun cdv hk A outer s H E hr=>by refine bf ?_ ?_;exact yZ (i:=1) eK.nd rfl (Or.inl rfl) (dO aL);refine bf ?_ ?_;refine @eV _ _ _ _ _ _ 2 _ _ eK.nd rfl (Or.inl rfl) ?_ rfl rfl (by first | exact .inl rfl | exact .inr rfl | assumption);refine bR.v ?_;refine dO ?_;refine aq ?a1 ?b1 ?c1;(case a1=>exact aC);(case c1=>rfl);refine aq ?a2 ?b2 ?c2;(case a2=>exact aC);(case c2=>rfl);refine aq ?a3 ?b3 ?c3;(case a3=>exact aC);(case c3=>rfl);refine aq ?a4 ?b4 ?c4;(case a4=>exact aC);(case c4=>rfl);refine aq ?a5 ?b5 ?c5;(case a5=>exact aC);(case c5=>rfl);refine aq ?a6 ?b6 ?c6;(case a6=>exact aC);(case c6=>rfl);refine aq ?a7 ?b7 ?c7;(case a7=>exact aC);(case c7=>rfl);refine aq ?a8 ?b8 ?c8;(case a8=>exact aC);(case c8=>rfl);refine aq ?a9 ?b9 ?c9;(case a9=>exact aC);(case c9=>rfl);refine aq ?a10 ?b10 ?c10;(case a10=>exact aC);(case c10=>rfl);exact aL;refine bf ?_ ?_;refine @eV _ _ _ _ _ _ 2 _ _ eK.nd rfl (Or.inl rfl) ?_ rfl rfl (by first | exact .inl rfl | exact .inr rfl | assumption);refine bR.v ?_;refine fX (br 2) ?_;refine bR.v ?_;refine dO ?_;refine aq ?a11 ?b11 ?c11;(case a11=>exact aC);(case c11=>rfl);refine aq ?a12 ?b12 ?c12;(case a12=>exact aC);(case c12=>rfl);refine aq ?a13 ?b13 ?c13;(case a13=>exact aC);(case c13=>rfl);refine aq ?a14 ?b14 ?c14;(case a14=>exact aC);(case c14=>rfl);refine aq ?a15 ?b15 ?c15;(case a15=>exact aC);(case c15=>rfl);refine aq ?a16 ?b16 ?c16;(case a16=>exact aC);(case c16=>rfl);refine aq ?a17 ?b17 ?c17;(case a17=>exact aC);(case c17=>rfl);exact aL;refine bf ?_ ?_;refine @eV _ _ _ _ _ _ 2 _ _ eK.nd rfl (Or.inl rfl) ?_ rfl rfl (by first | exact .inl rfl | exact .inr rfl | assumption);refine bR.v ?_;refine fX (br 2) ?_;refine bR.v ?_;refine dO ?_;refine aq ?a18 ?b18 ?c18;(case a18=>exact aC);(case c18=>rfl);refine aq ?a19 ?b19 ?c19;(case a19=>exact aC);(case c19=>rfl);refine aq ?a20 ?b20 ?c20;(case a20=>exact aC);(case c20=>rfl);refine aq ?a21 ?b21 ?c21;(case a21=>exact aC);(case c21=>rfl);refine aq ?a22 ?b22 ?c22;(case a22=>exact aC);(case c22=>rfl);refine aq ?a23 ?b23 ?c23;(case a23=>exact aC);(case c23=>rfl);refine aq ?a24 ?b24 ?c24;(case a24=>exact aC);(case c24=>rfl);refine aq ?a25 ?b25 ?c25;(case a25=>exact aC);(case c25=>rfl);exact aL;refine bf ?_ ?_;exact @eV _ _ _ _ _ _ 2 _ _ eK.nd rfl (Or.inl rfl) (bR.v (fX (br 2) (bR.v (dO (aq aC (aq aC (aq aC aL))))))) rfl rfl (by first | exact .inl rfl | exact .inr rfl | assumption);refine bf ?_ ?_;exact qF (pv 1) (bL.cf (gr (k:=1) (N:=["_law_line"]) (ix:=[])  (aS j7) rfl ⟨rfl,rfl,by decide +kernel,by decide +kernel,by decide +kernel,rfl,by decide +kernel,rfl⟩ rfl rfl (ik (aw 2)) (fun _ _ _ _ _ _=>cS (i:=0) Mg rfl (Or.inl rfl)) (fun _ _ _ _ _ _=>fZ) (fun _ _ _ _ _ _=>j5 (aH (aw 0) (aH aO (aH (PV.r fu) bc))))));refine bf ?_ ?_;exact qF (pv 1) (bL.cf (gr (k:=1) (N:=["_law_line"]) (ix:=[])  (aS j7) rfl ⟨rfl,rfl,by decide +kernel,by decide +kernel,by decide +kernel,rfl,by decide +kernel,rfl⟩ rfl rfl (ik (bL.r (gR (aH (PV.r aC) (aH (PV.r aC) (aH (PV.r aC) (aH (PV.r aC) bc))))))) (fun _ _ _ _ _ _=>cS (i:=0) Mh rfl (Or.inl rfl)) (fun _ _ _ _ _ _=>fZ) (fun _ _ _ _ _ _=>j5 (aH (aw 0) (aH aO (aH (PV.r fu) bc))))));refine bf ?_ ?_;refine @eV _ _ _ _ _ _ 2 _ _ eK.nd rfl (Or.inl rfl) ?_ rfl rfl (by first | exact .inl rfl | exact .inr rfl | assumption);refine bR.v ?_;refine dO ?_;refine aq ?a26 ?b26 ?c26;(case a26=>exact bJ (aq aC (aq aC aL)));(case c26=>rfl);refine aq ?a27 ?b27 ?c27;(case a27=>exact bJ (aq aC (aq aC aL)));(case c27=>rfl);refine aq ?a28 ?b28 ?c28;(case a28=>exact bJ (aq aC (aq aC aL)));(case c28=>rfl);refine aq ?a29 ?b29 ?c29;(case a29=>exact bJ (aq aC (aq aC aL)));(case c29=>rfl);refine aq ?a30 ?b30 ?c30;(case a30=>exact bJ (aq aC (aq aC aL)));(case c30=>rfl);exact aL;refine bf ?_ ?_;refine @eV _ _ _ _ _ _ 2 _ _ eK.nd rfl (Or.inl rfl) ?_ rfl rfl (by first | exact .inl rfl | exact .inr rfl | assumption);refine bR.v ?_;refine fX (br 2) ?_;refine bR.v ?_;refine dO ?_;refine aq ?a31 ?b31 ?c31;(case a31=>exact bJ (aq aC (aq aC aL)));(case c31=>rfl);refine aq ?a32 ?b32 ?c32;(case a32=>exact bJ (aq aC (aq aC aL)));(case c32=>rfl);refine aq ?a33 ?b33 ?c33;(case a33=>exact bJ (aq aC (aq aC aL)));(case c33=>rfl);refine aq ?a34 ?b34 ?c34;(case a34=>exact bJ (aq aC (aq aC aL)));(case c34=>rfl);exact aL;refine bf ?_ ?_;exact qF (pv 1) (bL.cf (gr (k:=2) (N:=["_law_line","_law_name"]) (ix:=[])  (aS j7) rfl ⟨rfl,rfl,by decide +kernel,by decide +kernel,by decide +kernel,rfl,by decide +kernel,rfl⟩ rfl rfl (ik (aw 2)) (fun _ _ _ _ _ _=>mB rfl (fY (cS (i:=0) DI rfl (Or.inl rfl)) (fY (cS (i:=1) DI rfl (Or.inl rfl)) mC))) (fun _ _ _ _ _ _=>fZ) (fun _ _ _ _ _ _=>j5 (aH (aw 0) (aH aO (aH (aw 1) bc))))));refine bf ?_ ?_;refine @eV _ _ _ _ _ _ 2 _ _ eK.nd rfl (Or.inl rfl) ?_ rfl rfl (by first | exact .inl rfl | exact .inr rfl | assumption);refine bR.v ?_;refine dO ?_;refine aq ?a35 ?b35 ?c35;(case a35=>exact bJ (aq aC (aq bK aL)));(case c35=>rfl);refine aq ?a36 ?b36 ?c36;(case a36=>exact bJ (aq aC (aq bK aL)));(case c36=>rfl);refine aq ?a37 ?b37 ?c37;(case a37=>exact bJ (aq aC (aq bK aL)));(case c37=>rfl);refine aq ?a38 ?b38 ?c38;(case a38=>exact bJ (aq aC (aq bK aL)));(case c38=>rfl);refine aq ?a39 ?b39 ?c39;(case a39=>exact bJ (aq aC (aq bK aL)));(case c39=>rfl);exact aL;refine bf ?_ ?_;refine @eV _ _ _ _ _ _ 2 _ _ eK.nd rfl (Or.inl rfl) ?_ rfl rfl (by first | exact .inl rfl | exact .inr rfl | assumption);refine bR.v ?_;refine fX (br 2) ?_;refine bR.v ?_;refine dO ?_;refine aq ?a40 ?b40 ?c40;(case a40=>exact bJ (aq aC (aq bK aL)));(case c40=>rfl);refine aq ?a41 ?b41 ?c41;(case a41=>exact bJ (aq aC (aq bK aL)));(case c41=>rfl);refine aq ?a42 ?b42 ?c42;(case a42=>exact bJ (aq aC (aq bK aL)));(case c42=>rfl);refine aq ?a43 ?b43 ?c43;(case a43=>exact bJ (aq aC (aq bK aL)));(case c43=>rfl);exact aL;refine bf ?_ ?_;refine @eV _ _ _ _ _ _ 2 _ _ eK.nd rfl (Or.inl rfl) ?_ rfl rfl (by first | exact .inl rfl | exact .inr rfl | assumption);refine bR.v ?_;refine fX (br 2) ?_;refine bR.v ?_;refine dO ?_;refine aq ?a44 ?b44 ?c44;(case a44=>exact bJ (aq aC (aq bK aL)));(case c44=>rfl);refine aq ?a45 ?b45 ?c45;(case a45=>exact bJ (aq aC (aq bK aL)));(case c45=>rfl);refine aq ?a46 ?b46 ?c46;(case a46=>exact bJ (aq aC (aq bK aL)));(case c46=>rfl);refine aq ?a47 ?b47 ?c47;(case a47=>exact bJ (aq aC (aq bK aL)));(case c47=>rfl);refine aq ?a48 ?b48 ?c48;(case a48=>exact bJ (aq aC (aq bK aL)));(case c48=>rfl);exact aL;refine bf ?_ ?_;refine @eV _ _ _ _ _ _ 2 _ _ eK.nd rfl (Or.inl rfl) ?_ rfl rfl (by first | exact .inl rfl | exact .inr rfl | assumption);refine bR.v ?_;refine fX (br 2) ?_;refine bR.v ?_;refine dO ?_;refine aq ?a49 ?b49 ?c49;(case a49=>exact bJ (aq aC (aq bK aL)));(case c49=>rfl);refine aq ?a50 ?b50 ?c50;(case a50=>exact bJ (aq aC (aq bK aL)));(case c50=>rfl);refine aq ?a51 ?b51 ?c51;(case a51=>exact bJ (aq aC (aq bK aL)));(case c51=>rfl);refine aq ?a52 ?b52 ?c52;(case a52=>exact bJ (aq aC (aq bK aL)));(case c52=>rfl);refine aq ?a53 ?b53 ?c53;(case a53=>exact bJ (aq aC (aq bK aL)));(case c53=>rfl);exact aL;refine bf ?_ ?_;refine @eV _ _ _ _ _ _ 2 _ _ eK.nd rfl (Or.inl rfl) ?_ rfl rfl (by first | exact .inl rfl | exact .inr rfl | assumption);refine bR.v ?_;refine fX (br 2) ?_;refine bR.v ?_;refine dO ?_;refine aq ?a54 ?b54 ?c54;(case a54=>exact bJ (aq aC (aq bK aL)));(case c54=>rfl);refine aq ?a55 ?b55 ?c55;(case a55=>exact bJ (aq aC (aq bK aL)));(case c55=>rfl);refine aq ?a56 ?b56 ?c56;(case a56=>exact bJ (aq aC (aq bK aL)));(case c56=>rfl);refine aq ?a57 ?b57 ?c57;(case a57=>exact bJ (aq aC (aq bK aL)));(case c57=>rfl);exact aL;refine bf ?_ ?_;refine @eV _ _ _ _ _ _ 2 _ _ eK.nd rfl (Or.inl rfl) ?_ rfl rfl (by first | exact .inl rfl | exact .inr rfl | assumption);refine bR.v ?_;refine fX (br 2) ?_;refine bR.v ?_;refine dO ?_;refine aq ?a58 ?b58 ?c58;(case a58=>exact bJ (aq aC (aq bK aL)));(case c58=>rfl);refine aq ?a59 ?b59 ?c59;(case a59=>exact bJ (aq aC (aq bK aL)));(case c59=>rfl);refine aq ?a60 ?b60 ?c60;(case a60=>exact bJ (aq aC (aq bK aL)));(case c60=>rfl);refine aq ?a61 ?b61 ?c61;(case a61=>exact bJ (aq aC (aq bK aL)));(case c61=>rfl);exact aL;refine bf ?_ ?_;refine @eV _ _ _ _ _ _ 2 _ _ eK.nd rfl (Or.inl rfl) ?_ rfl rfl (by first | exact .inl rfl | exact .inr rfl | assumption);refine bR.v ?_;refine fX (br 2) ?_;refine bR.v ?_;refine dO ?_;refine aq ?a62 ?b62 ?c62;(case a62=>exact bJ (aq aC (aq bK aL)));(case c62=>rfl);refine aq ?a63 ?b63 ?c63;(case a63=>exact bJ (aq aC (aq bK aL)));(case c63=>rfl);refine aq ?a64 ?b64 ?c64;(case a64=>exact bJ (aq aC (aq bK aL)));(case c64=>rfl);refine aq ?a65 ?b65 ?c65;(case a65=>exact bJ (aq aC (aq bK aL)));(case c65=>rfl);exact aL;refine bf ?_ ?_;refine @eV _ _ _ _ _ _ 2 _ _ eK.nd rfl (Or.inl rfl) ?_ rfl rfl (by first | exact .inl rfl | exact .inr rfl | assumption);refine bR.v ?_;refine fX (br 2) ?_;refine bR.v ?_;refine dO ?_;refine aq ?a66 ?b66 ?c66;(case a66=>exact bJ (aq aC (aq bK aL)));(case c66=>rfl);refine aq ?a67 ?b67 ?c67;(case a67=>exact bJ (aq aC (aq bK aL)));(case c67=>rfl);refine aq ?a68 ?b68 ?c68;(case a68=>exact bJ (aq aC (aq bK aL)));(case c68=>rfl);refine aq ?a69 ?b69 ?c69;(case a69=>exact bJ (aq aC (aq bK aL)));(case c69=>rfl);exact aL;refine bf ?_ ?_;refine @eV _ _ _ _ _ _ 2 _ _ eK.nd rfl (Or.inl rfl) ?_ rfl rfl (by first | exact .inl rfl | exact .inr rfl | assumption);refine bR.v ?_;refine fX (br 2) ?_;refine bR.v ?_;refine dO ?_;refine aq ?a70 ?b70 ?c70;(case a70=>exact bJ (aq aC (aq bK aL)));(case c70=>rfl);refine aq ?a71 ?b71 ?c71;(case a71=>exact bJ (aq aC (aq bK aL)));(case c71=>rfl);refine aq ?a72 ?b72 ?c72;(case a72=>exact bJ (aq aC (aq bK aL)));(case c72=>rfl);refine aq ?a73 ?b73 ?c73;(case a73=>exact bJ (aq aC (aq bK aL)));(case c73=>rfl);exact aL;refine bf ?_ ?_;refine @eV _ _ _ _ _ _ 2 _ _ eK.nd rfl (Or.inl rfl) ?_ rfl rfl (by first | exact .inl rfl | exact .inr rfl | assumption);refine bR.v ?_;refine fX (br 2) ?_;refine bR.v ?_;refine dO ?_;refine aq ?a74 ?b74 ?c74;(case a74=>exact bJ (aq aC (aq bK aL)));(case c74=>rfl);refine aq ?a75 ?b75 ?c75;(case a75=>exact bJ (aq aC (aq bK aL)));(case c75=>rfl);exact aL;refine bf ?_ ?_;exact qF (pv 1) (bL.cf (gr (k:=2) (N:=["_law_line","_law_at"]) (ix:=[])  (aS j7) rfl ⟨rfl,rfl,by decide +kernel,by decide +kernel,by decide +kernel,rfl,by decide +kernel,rfl⟩ rfl rfl (ik (aw 2)) (fun _ _ _ _ _ _=>mB rfl (fY (cS (i:=0) DJ rfl (Or.inl rfl)) (fY (cS (i:=1) DJ rfl (Or.inl rfl)) mC))) (fun _ _ _ _ _ _=>fZ) (fun _ _ _ _ _ _=>j5 (aH (aw 0) (aH aO (aH (aw 1) bc))))));refine bf ?_ ?_;exact qF (pv 1) (bL.cf (gr (k:=1) (N:=["_law_line"]) (ix:=[])  (aS j7) rfl ⟨rfl,rfl,by decide +kernel,by decide +kernel,by decide +kernel,rfl,by decide +kernel,rfl⟩ rfl rfl (ik (bL.r (gR (aH (PV.r aC) (aH (PV.r aC) (aH (PV.r aC) (aH (PV.r aC) (aH (PV.r aC) bc)))))))) (fun _ _ _ _ _ _=>cS (i:=0) Mi rfl (Or.inl rfl)) (fun _ _ _ _ _ _=>fZ) (fun _ _ _ _ _ _=>j5 (aH (aw 0) (aH aO (aH (PV.r fu) bc))))));refine bf ?_ ?_;refine @eV _ _ _ _ _ _ 2 _ _ eK.nd rfl (Or.inl rfl) ?_ rfl rfl (by first | exact .inl rfl | exact .inr rfl | assumption);refine bR.v ?_;refine dO ?_;refine aq ?a76 ?b76 ?c76;(case a76=>exact bJ (aq aC (aq bK aL)));(case c76=>rfl);refine aq ?a77 ?b77 ?c77;(case a77=>exact bJ (aq aC (aq bK aL)));(case c77=>rfl);refine aq ?a78 ?b78 ?c78;(case a78=>exact bJ (aq aC (aq (br 0) aL)));(case c78=>rfl);refine aq ?a79 ?b79 ?c79;(case a79=>exact bJ (aq aC (aq bK aL)));(case c79=>rfl);exact aL;refine bf ?_ ?_;refine @eV _ _ _ _ _ _ 2 _ _ eK.nd rfl (Or.inl rfl) ?_ rfl rfl (by first | exact .inl rfl | exact .inr rfl | assumption);refine bR.v ?_;refine fX (br 2) ?_;refine bR.v ?_;refine dO ?_;refine aq ?a80 ?b80 ?c80;(case a80=>exact bJ (aq aC (aq bK aL)));(case c80=>rfl);refine aq ?a81 ?b81 ?c81;(case a81=>exact bJ (aq aC (aq (br 0) aL)));(case c81=>rfl);refine aq ?a82 ?b82 ?c82;(case a82=>exact bJ (aq aC (aq bK aL)));(case c82=>rfl);exact aL;exact bT (b8 (bL.r (p5 (lr (pv 1)) (bL.r (gr (k:=2) (N:=["_law_line","_law_number"]) (ix:=[])  (aS j7) rfl ⟨rfl,rfl,by decide +kernel,by decide +kernel,by decide +kernel,rfl,by decide +kernel,rfl⟩ rfl rfl (ik (aw 2)) (fun _ _ _ _ _ _=>mB rfl (fY (cS (i:=0) DK rfl (Or.inl rfl)) (fY (cS (i:=1) DK rfl (Or.inl rfl)) mC))) (fun _ _ _ _ _ _=>fZ) (fun _ _ _ _ _ _=>j5 (aH (aw 0) (aH aO (aH (aw 1) bc))))))))))
theorem mO:bF ["_law_purse","_law_most","_law_found","_law_k","_law_digit","_law_number","_law_place","_law_weight"] ["_law_purse","_law_most"] (aS yC):=bY
theorem MF {f:af}{fd:aY}(F:bh K "_law_folk" "_law_folk" yC f fd)(T:Txt mg) :aW P w K mg base bx 1 f fd ["_law_purse","_law_most"] (uw K 0 (.lst .cl) ky):=
 J5 (k:=0) (fun l=>⟨[(0,.io l),(2,.lst .cl)],.lst .cl⟩) F mO (fun _=>rfl) (fun _=>rfl) [0,2] (fun _=>rfl) (by decide) oP (fun l cdv hk A outer s H E hr=>Ff (yZ (i:=2) mO.nd rfl (Or.inl rfl) (dO aL)) (Ff (Pa rfl rfl T.m_range (uU (zX (pv 0)) (PV.r (v_add (aw 1) aO))) (cS (i:=3) mO.nd rfl (Or.inl rfl)) (bf (y9 (i:=4) mO.nd rfl (Or.inl rfl) (zX (pv 0))) (bf (y9 (i:=5) mO.nd rfl (Or.inl rfl) (zX (pv 0))) (bf (cC 6 mO.nd (PR.clf (cA (bL.r (gR (aH (PV.r (v_sub (PV.r (v_mod (aw 5) aO)) aO)) (aH (PV.r (v_sub (PV.r (v_mod (aw 5) aO)) aO)) (aH (PV.r (v_sub (PV.r (v_mul (aw 5) (PV.r (v_pow aO aO)))) (PV.r (v_mul aO (PV.r (v_pow aO aO)))))) bc))))) (PV.r (lD (PV.r (v_mod (aw 4) aO)) aO))))) (bf (cC 7 mO.nd (PR.clf (cA (bL.r (gR (aH aO (aH (PV.r (v_add aO (PV.r (v_mod (PV.r (lD (aw 4) aO)) aO)))) (aH (PV.r (v_add aO (PV.r (v_mod (PV.r (lD (aw 4) aO)) aO)))) (aH (PV.r (v_add (PV.r (v_pow aO aO)) (aw 4))) bc)))))) (PV.r (lD (PV.r (v_mod (PV.r (lD (aw 4) aO)) aO)) aO))))) (bT (yz (pv 2) (bJ (aq (br 6) (aq (br 7) aL))))))))) v9) (QD (j:=0) (O4 (pv 2)))))
theorem PH:bF ["line"] ["line"] (aS yY):=bY
theorem Na {f:af}{fd:aY}(F:bh K "words_of" ("words_of") yY f fd)(T:Txt mg) :aW P w K mg base bx 1 f fd ["line"] (cx K .cl iX):=
 dP (k:=0) ⟨[],.cl⟩ F PH (by decide) oS (fun cdv hk A outer s H E hr=>bf (d_ (mS (PV.r (FO (aw 0) (PV.r aC)))) (bT (b8 (bL.r (Ke (aw 0) (PV.r aC) aO)))) ef) (bT (b8 (bL.r (xB (aw 0) (PV.r aC))))))
theorem EO:bF ["words","ahead_of_folk"] ["words"] (aS yM):=bY
theorem MS {f:af}{fd:aY}(F:bh K "check_words" ("check_words") yM f fd)(T:Txt mg){Gn:af}(sq:jM K mg "NoLine" Gn)(KD_WORD_COUNTS:vN K w mg "WORD_COUNTS" [("line",3),("put",4),("drop",2),("show",2),("least",3),("posts",3),("apart",3),("fewest",3),("all",1)]):aW P w K mg base (de P w) 1 f fd ["words"] (dE K .cl kz):=
 fP (k:=0) ⟨[],.cl⟩ F EO (by decide) Ag (fun cdv hk A outer s H E hr=>cQ (gc (cw (jS hr.units) (PV.r (Se KD_WORD_COUNTS rfl (cA (aw 0) aO))) (PV.r (gA ib rfl T.m_len gj (aH (aw 0) bc)))) (cU (uW rfl rfl (sq.at rfl))) gf) (cQ (gB (cC 1 EO.nd (PR.cl0 (qD (cw (cY hr.units) (cA (aw 0) aO) (PV.r aC)) (bL.r (Kc (aw 0) (DT) (DU aO))) (aw 0))))) (cU (gc (uH wU (PV.r aC) (aw 1)) (cU (uW rfl rfl (sq.at rfl))) gf))))
theorem zo:bF ["folk","number","one"] ["folk"] (aS yK):=bY
theorem MQ {f:af}{fd:aY}(F:bh K "check_folk" ("check_folk") yK f fd)(T:Txt mg)(wF:kT P w K mg base 1 "NoFolk" "number"):aW P w K mg base (de P w) 3 f fd ["folk"] (dE K .cl g_):=
 fP (k:=2) ⟨[],.cl⟩ F zo (by decide) Ae (fun cdv hk A outer s H E hr=>cU (SV rfl (Lc rfl T.m_enumerate (br 0)) (mB rfl (fY (cS (i:=1) zo.nd rfl (Or.inl rfl)) (fY (cS (i:=2) zo.nd rfl (Or.inl rfl)) mC))) (cU (gc (cw sx (cA (aw 2) aO) aO) (cU (uX rfl rfl rfl wF hr.mn (br 1))) gf)) PassesOwn.leaving))
theorem PM:bF ["self","name","folk"] ["self","name","folk"] (aS ze):=bY
theorem Nh {f:af}{fd:aY}(F:bh K "lay" ("Desk"++"."++"lay") ze f fd)(T:Txt mg)(o7:cg P w K mg base 3 "check_folk" ["folk"] .cl g_)(FO_fields:iB K "Desk" "fields"):aW P w K mg base bx 4 f fd ["self","name","folk"] (jt K "Desk" ["fields"] [.dc none []] ["fields"] [.dc none []] jA):=
 p4 (k:=3) (fun l=>⟨[(0,.rc (some l) "Desk" ["fields"] [.dc none []])],.cl⟩) F PM (fun _=>rfl) [0] (fun _=>rfl) (by decide) oU (fun l cdv hk A outer s H E hr=>lz (EK (du (cg.ok o7) hr.mn rfl (aH (aw 2) bc))) (lz (Pc (k:=0) hr.units FO_fields (pv 0) (aw 1) (br 2)) (Fg)))
theorem Px:bF ["word"] ["word"] (aS ug):=bY
theorem Ml:(["sign"]:List Str).Nodup:=by decide +kernel
theorem MY {f:af}{fd:aY}(F:bh K "is_name" ("is_name") ug f fd)(T:Txt mg){tk_LETTERS:Tok}(C_LETTERS:mg "LETTERS"=some (.str (aj "abcdefghijklmnopqrstuvwxyz") tk_LETTERS)):aW P w K mg base bx 1 f fd ["word"] (cx K .cl kC):=
 dP (k:=0) ⟨[],.cl⟩ F Px (by decide) Az (fun cdv hk A outer s H E hr=>bT (b8 (qB (PV.r (R8 B4 B4 aO (PV.r (gA (BV) rfl T.m_len gj (aH (aw 0) bc))) aO)) (oq (PV.r (v_all rfl rfl T.m_all (bL.r (gr (k:=1) (N:=["sign"]) (ix:=[])  (aS ug) rfl ⟨rfl,rfl,by decide +kernel,by decide +kernel,by decide +kernel,rfl,by decide +kernel,rfl⟩ rfl rfl (C3 (aw 0)) (fun _ _ _ _ _ _=>cS (i:=0) Ml rfl (Or.inl rfl)) (fun _ _ _ _ _ _=>fZ) (fun _ _ _ _ _ _=>PV.r (zR B3 (aw 0) (PV.r (FL rfl C_LETTERS))))))))))))
theorem Pq:bF ["text"] ["text"] (aS ue):=bY
theorem Mj:(["sign"]:List Str).Nodup:=by decide +kernel
theorem MO {f:af}{fd:aY}(F:bh K "are_figures" ("are_figures") ue f fd)(T:Txt mg){tk_FIGURES:Tok}(C_FIGURES:mg "FIGURES"=some (.str (aj "0123456789") tk_FIGURES)):aW P w K mg base bx 1 f fd ["text"] (cx K .cl lR):=
 dP (k:=0) ⟨[],.cl⟩ F Pq (by decide) u_ (fun cdv hk A outer s H E hr=>bT (b8 (qB (PV.r (qV wR (PV.r (gA (BV) rfl T.m_len gj (aH (aw 0) bc))) aO)) (oq (PV.r (v_all rfl rfl T.m_all (bL.r (gr (k:=1) (N:=["sign"]) (ix:=[])  (aS ue) rfl ⟨rfl,rfl,by decide +kernel,by decide +kernel,by decide +kernel,rfl,by decide +kernel,rfl⟩ rfl rfl (C3 (aw 0)) (fun _ _ _ _ _ _=>cS (i:=0) Mj rfl (Or.inl rfl)) (fun _ _ _ _ _ _=>fZ) (fun _ _ _ _ _ _=>PV.r (zR B3 (aw 0) (PV.r (FL rfl C_FIGURES))))))))))))
theorem zr:bF ["word","figures","number"] ["word"] (aS yT):=bY
theorem M1 {f:af}{fd:aY}(F:bh K "number_in" ("number_in") yT f fd)(T:Txt mg)(GU:bN P w K mg base 1 "are_figures" ["text"] .cl lR):aW P w K mg base bx 2 f fd ["word"] (cx K .cl jB):=
 dP (k:=1) ⟨[],.cl⟩ F zr (by decide) vc (fun cdv hk A outer s H E hr=>bf (cC 1 zr.nd (PR.cl0 (qD (mS (PV.r (FO (aw 0) (PV.r aC)))) (PV.r (Sg (aw 0) (DU aO) (DT))) (aw 0)))) (bf (d_ (qQ (mS (du GU hr.mn rfl (aH (aw 1) bc)))) (bT (b8 (PV.r fu))) ef) (bf (cC 2 zr.nd (ki (Ir) rfl T.m_int wQ (aH (aw 0) bc))) (bT (b8 (qD (cw (cY hr.units) (PV.r (ki (kY) rfl T.m_str jR (aH (aw 2) bc))) (aw 0)) (aw 2) (PV.r fu)))))))
theorem Pz:bF ["word","sign"] ["word","sign"] (aS uh):=bY
theorem Mm:(["part"]:List Str).Nodup:=by decide +kernel
theorem M3 {f:af}{fd:aY}(F:bh K "numbers_in" ("numbers_in") uh f fd)(T:Txt mg)(vE:bN P w K mg base 2 "number_in" ["word"] .cl jB):aW P w K mg base bx 3 f fd ["word","sign"] (cx K .cl kD):=
 dP (k:=2) ⟨[],.cl⟩ F Pz (by decide) vd (fun cdv hk A outer s H E hr=>bT (b8 (bL.r (gr (k:=1) (N:=["part"]) (ix:=[])  (aS uh) rfl ⟨rfl,rfl,by decide +kernel,by decide +kernel,by decide +kernel,rfl,by decide +kernel,rfl⟩ rfl rfl (ik (bL.r (xB (aw 0) (aw 1)))) (fun _ _ _ _ _ _=>cS (i:=0) Mm rfl (Or.inl rfl)) (fun _ _ _ _ _ _=>fZ) (fun _ _ _ _ _ _=>du vE hr.mn rfl (aH (aw 0) bc))))))
theorem ET:bF ["word","numbers"] ["word"] (aS yU):=bY
theorem M5 {f:af}{fd:aY}(F:bh K "one_in" ("one_in") yU f fd)(T:Txt mg)(vF:bN P w K mg base 3 "numbers_in" ["word","sign"] .cl kD):aW P w K mg base bx 4 f fd ["word"] (cx K .cl nc):=
 dP (k:=3) ⟨[],.cl⟩ F ET (by decide) ve (fun cdv hk A outer s H E hr=>bf (cC 1 ET.nd (PR.cl0 (du vF hr.mn rfl (aH (aw 0) (aH (PV.r aC) bc))))) (bf (d_ (uI (w_or (cw (jS hr.units) (PV.r (gA ib rfl T.m_len gj (aH (aw 1) bc))) aO) (uR (uH wU (PV.r fu) (aw 1))))) (bT (b8 (PV.r fu))) ef) (bT (b8 (j5 (aH (cA (aw 1) aO) (aH (cA (aw 1) aO) bc)))))))
theorem EV:bF ["text","folk"] ["text"] (aS uk):=bY
theorem Mp:(["word"]:List Str).Nodup:=by decide +kernel
theorem M9 {f:af}{fd:aY}(F:bh K "read_folk" ("read_folk") uk f fd)(T:Txt mg)(G0:bN P w K mg base 4 "one_in" ["word"] .cl nc)(jN:kT P w K mg base 1 "NoText" "at"):aW P w K mg base (de P w) 5 f fd ["text"] (dE K .cl lO):=
 fP (k:=4) ⟨[],.cl⟩ F EV (by decide) oM (fun cdv hk A outer s H E hr=>cQ (gB (d_ (cw (cY hr.units) (aw 0) (PV.r aC)) (bT (b8 (bL.r (gR bc)))) ef)) (cQ (gB (Pf (i:=1)  (k:=1) (N:=["word"]) (ix:=[]) EV.nd rfl (Or.inl rfl) (aS uk) rfl ⟨rfl,rfl,by decide +kernel,by decide +kernel,by decide +kernel,rfl,by decide +kernel,rfl⟩ rfl rfl (ik (bL.r (xB (aw 0) (PV.r aC)))) (fun _ _ _ _ _ _=>cS (i:=0) Mp rfl (Or.inl rfl)) (fun _ _ _ _ _ _=>fZ) (fun _ _ _ _ _ _=>du G0 hr.mn rfl (aH (aw 0) bc)))) (cQ (gc (uH (IJ hr.units) (PV.r fu) (aw 1)) (cU (uX rfl rfl rfl jN hr.mn (Sa hr.units (aw 1) (PV.r fu)))) gf) (cU (gB (b8 (aw 1)))))))
theorem PN:bF ["self","name","text"] ["self","name","text"] (aS zg):=bY
theorem Nj {f:af}{fd:aY}(F:bh K "tell_line" ("Desk"++"."++"tell_line") zg f fd)(T:Txt mg)(G_w_lay:gD P w K mg base 4 "Desk" "lay" ["self","name","folk"] ["fields"] [.dc none []] jA)(vC:bN P w K mg base 1 "is_name" ["word"] .cl kC)(vG:cg P w K mg base 5 "read_folk" ["text"] .cl lO):aW P w K mg base bx 6 f fd ["self","name","text"] (jt K "Desk" ["fields"] [.dc none []] ["fields"] [.dc none []] m5):=
 p4 (k:=5) (fun l=>⟨[(0,.rc (some l) "Desk" ["fields"] [.dc none []])],.cl⟩) F PN (fun _=>rfl) [0] (fun _=>rfl) (by decide) oW (fun l cdv hk A outer s H E hr=>ux (qQ (mS (du vC hr.mn rfl (aH (aw 1) bc)))) (lz (EM G_w_lay hr.mn (pv 0) (aq (br 1) (aq (qU (cg.ok vG) hr.mn rfl (aq (br 2) aL)) aL))) (Fj (br 1))))
theorem ES:bF ["words","at","number"] ["words","at"] (aS yS):=bY
theorem M0 {f:af}{fd:aY}(F:bh K "number_at" ("number_at") yS f fd)(T:Txt mg)(vE:bN P w K mg base 2 "number_in" ["word"] .cl jB)(jN:kT P w K mg base 1 "NoText" "at"):aW P w K mg base (de P w) 3 f fd ["words","at"] (dE K .cl iA):=
 fP (k:=2) ⟨[],.cl⟩ F ES (by decide) Al (fun cdv hk A outer s H E hr=>cQ (gB (cC 2 ES.nd (PR.cl0 (du vE hr.mn rfl (aH (cA (aw 0) (aw 1)) bc))))) (cQ (gc (cw wV (aw 2) (PV.r fu)) (cU (uX rfl rfl rfl jN hr.mn (br 1))) gf) (cU (gB (b8 (aw 2))))))
theorem zu:bF ["self","words","one","folk"] ["self","words"] (aS zh):=bY
theorem Nk {f:af}{fd:aY}(F:bh K "tell_put" ("Desk"++"."++"tell_put") zh f fd)(T:Txt mg)(G_w_lay:gD P w K mg base 4 "Desk" "lay" ["self","name","folk"] ["fields"] [.dc none []] jA)(lT:cg P w K mg base 3 "number_at" ["words","at"] .cl iA)(FO_fields:iB K "Desk" "fields"):aW P w K mg base bx 5 f fd ["self","words"] (jt K "Desk" ["fields"] [.dc none []] ["fields"] [.dc none []] rl):=
 p4 (k:=4) (fun l=>⟨[(0,.rc (some l) "Desk" ["fields"] [.dc none []])],.cl⟩) F zu (fun _=>rfl) [0] (fun _=>rfl) (by decide) AF (fun l cdv hk A outer s H E hr=>lz (cC 2 zu.nd (bJ (aq (qU (cg.ok lT) hr.mn rfl (aq (br 1) (aq bK aL))) (aq (qU (cg.ok lT) hr.mn rfl (aq (br 1) (aq bK aL))) aL)))) (lz (cC 3 zu.nd (bR.v (fX (R9 (k:=0) hr.units FO_fields (pv 0) (cA (aw 1) aO)) (bR.v (dO (aq (br 2) aL)))))) (lz (EM G_w_lay hr.mn (pv 0) (aq (PR.clf (cA (aw 1) aO)) (aq (br 3) aL))) (Fj (ki (kY) rfl T.m_str jR (aH (PV.r (gA ib rfl T.m_len gj (aH (aw 3) bc))) bc))))))
theorem EX:bF ["self","line","words"] ["self","line"] (aS zf):=bY
theorem Ni {f:af}{fd:aY}(F:bh K "tell" ("Desk"++"."++"tell") zf f fd)(T:Txt mg)(vH:bN P w K mg base 1 "words_of" ["line"] .cl iX)(vA:cg P w K mg base 1 "check_words" ["words"] .cl kz)(G_w_tell_line:gD P w K mg base 6 "Desk" "tell_line" ["self","name","text"] ["fields"] [.dc none []] m5)(G_w_tell_put:gD P w K mg base 5 "Desk" "tell_put" ["self","words"] ["fields"] [.dc none []] rl)(FO_fields:iB K "Desk" "fields"):aW P w K mg base bx 7 f fd ["self","line"] (jt K "Desk" ["fields"] [.dc none []] ["fields"] [.dc none []] fR):=
 p4 (k:=6) (fun l=>⟨[(0,.rc (some l) "Desk" ["fields"] [.dc none []])],.cl⟩) F EX (fun _=>rfl) [0] (fun _=>rfl) (by decide) oV (fun l cdv hk A outer s H E hr=>lz (cC 2 EX.nd (qU vH hr.mn rfl (aq (br 1) aL))) (lz (EK (du (cg.ok vA) hr.mn rfl (aH (aw 2) bc))) (ux (cw (cY hr.units) (cA (aw 2) aO) (PV.r aC)) (Fh (cw (cY hr.units) (cA (aw 2) aO) (PV.r aC)) (Fi G_w_tell_line hr.mn (pv 0) (aq (PR.clf (cA (aw 2) aO)) (aq (PR.clf (cA (aw 2) aO)) aL))) (ux (FA hr.units (cA (aw 2) aO) (qC (cls:="Desk") FO_fields (lr (pv 0)))) (Fh (cw (cY hr.units) (cA (aw 2) aO) (PV.r aC)) (Fi G_w_tell_put hr.mn (pv 0) (aq (br 2) aL)) (ux (cw (cY hr.units) (cA (aw 2) aO) (PV.r aC)) (QB))))))))
theorem Pk:bF ["_law_kept","_law_due"] ["_law_kept","_law_due"] (aS yB):=bY
theorem ME {f:af}{fd:aY}(F:bh K "_law_field" ("_law_field") yB f fd)(T:Txt mg)(FE_name:ng K bI "name")(FE_at:ng K bI "at")(FE_number:ng K bI "number"):aW P w K mg base bx 1 f fd ["_law_kept","_law_due"] (cx K .cl rz):=
 dP (k:=0) ⟨[],.cl⟩ F Pk (by decide) Ar (fun cdv hk A outer s H E hr=>bf (d_ (cw (cY hr.units) (aw 1) aO) (bT (b8 (yr FE_name (aw 0)))) ef) (bf (d_ (cw (cY hr.units) (aw 1) aO) (bT (b8 (yr FE_at (aw 0)))) ef) (bf (d_ (cw (cY hr.units) (aw 1) aO) (bT (b8 (yr FE_number (aw 0)))) ef) (bT (b8 (PV.r fu))))))
theorem PB:bF ["numbers"] ["numbers"] (aS ui):=bY
theorem Mn:(["number"]:List Str).Nodup:=by decide +kernel
theorem M4 {f:af}{fd:aY}(F:bh K "numbers_text" ("numbers_text") ui f fd)(T:Txt mg) :aW P w K mg base bx 1 f fd ["numbers"] (cx K .cl rF):=
 dP (k:=0) ⟨[],.cl⟩ F PB (by decide) AA (fun cdv hk A outer s H E hr=>bf (d_ (cw wV (aw 0) (PV.r fu)) (bT (b8 (PV.r aC))) ef) (bT (b8 (PV.r (qW (PV.r aC) (bL.r (gr (k:=1) (N:=["number"]) (ix:=[])  (aS ui) rfl ⟨rfl,rfl,by decide +kernel,by decide +kernel,by decide +kernel,rfl,by decide +kernel,rfl⟩ rfl rfl (ik (aw 0)) (fun _ _ _ _ _ _=>cS (i:=0) Mn rfl (Or.inl rfl)) (fun _ _ _ _ _ _=>fZ) (fun _ _ _ _ _ _=>PV.r (ki (kY) rfl T.m_str jR (aH (aw 0) bc))))))))))
theorem zq:bF ["fraction","top","bottom"] ["fraction"] (aS yQ):=bY
theorem MX {f:af}{fd:aY}(F:bh K "fraction_text" ("fraction_text") yQ f fd)(T:Txt mg) :aW P w K mg base bx 1 f fd ["fraction"] (cx K .cl kB):=
 dP (k:=0) ⟨[],.cl⟩ F zq (by decide) Ay (fun cdv hk A outer s H E hr=>bf (cC 1 zq.nd (PR.cl0 (cA (aw 0) aO))) (bf (cC 2 zq.nd (PR.cl0 (cA (aw 0) aO))) (bf (d_ (cw (cY hr.units) (aw 2) aO) (bT (b8 (PV.r (ki (kY) rfl T.m_str jR (aH (aw 1) bc))))) ef) (bT (b8 (PV.r (FN (uQ (aw 1)) aC (uQ (aw 2)))))))))
theorem PD:bF ["posts"] ["posts"] (aS uj):=bY
theorem Mo:(["post"]:List Str).Nodup:=by decide +kernel
theorem M6 {f:af}{fd:aY}(F:bh K "posts_text" ("posts_text") uj f fd)(T:Txt mg)(o8:bN P w K mg base 1 "fraction_text" ["fraction"] .cl kB):aW P w K mg base bx 2 f fd ["posts"] (cx K .cl rG):=
 dP (k:=1) ⟨[],.cl⟩ F PD (by decide) AB (fun cdv hk A outer s H E hr=>bf (d_ (cw (cY hr.units) (PV.r (gA ib rfl T.m_len gj (aH (aw 0) bc))) aO) (bT (b8 (PV.r aC))) ef) (bT (b8 (PV.r (qW (PV.r aC) (bL.r (gr (k:=1) (N:=["post"]) (ix:=[])  (aS uj) rfl ⟨rfl,rfl,by decide +kernel,by decide +kernel,by decide +kernel,rfl,by decide +kernel,rfl⟩ rfl rfl (ik (aw 0)) (fun _ _ _ _ _ _=>cS (i:=0) Mo rfl (Or.inl rfl)) (fun _ _ _ _ _ _=>fZ) (fun _ _ _ _ _ _=>du o8 hr.mn rfl (aH (aw 0) bc)))))))))
theorem Pt:bF ["many"] ["many"] (aS yL):=bY
theorem MR {f:af}{fd:aY}(F:bh K "check_many" ("check_many") yL f fd)(T:Txt mg){Gp:af}(wH:jM K mg "NoMany" Gp):aW P w K mg base (de P w) 1 f fd ["many"] (dE K .cl m8):=
 fP (k:=0) ⟨[],.cl⟩ F Pt (by decide) Af (fun cdv hk A outer s H E hr=>cU (gc (cw sx (aw 0) aO) (cU (uW rfl rfl (wH.at rfl))) gf))
theorem PF:bF ["folk","many","reaches","place"] ["folk","many"] (aS yX):=bY
theorem M_ {f:af}{fd:aY}(F:bh K "shown" ("shown") yX f fd)(T:Txt mg)(vz:cg P w K mg base 1 "check_many" ["many"] .cl m8):aW P w K mg base (de P w) 2 f fd ["folk","many"] (dE K .cl rp):=
 fP (k:=1) ⟨[],.cl⟩ F PF (by decide) An (fun cdv hk A outer s H E hr=>cQ (lG (f_ vz hr.mn rfl rfl (aq (br 1) aL))) (qZ qN))
theorem Py:bF ["folk","many","reaches"] ["folk","many"] (aS yR):=bY
theorem MZ {f:af}{fd:aY}(F:bh K "least_reach" ("least_reach") yR f fd)(T:Txt mg)(vz:cg P w K mg base 1 "check_many" ["many"] .cl m8):aW P w K mg base (de P w) 2 f fd ["folk","many"] (dE K .cl m_):=
 fP (k:=1) ⟨[],.cl⟩ F Py (by decide) Ak (fun cdv hk A outer s H E hr=>cQ (lG (f_ vz hr.mn rfl rfl (aq (br 1) aL))) (qZ qN))
theorem Pu:bF ["folk","reach","ends","posts","apart","number"] ["folk","reach"] (aS yO):=bY
theorem MU {f:af}{fd:aY}(F:bh K "fewest" ("fewest") yO f fd)(T:Txt mg)(o7:cg P w K mg base 3 "check_folk" ["folk"] .cl g_):aW P w K mg base (de P w) 4 f fd ["folk","reach"] (dE K .cl m9):=
 fP (k:=3) ⟨[],.cl⟩ F Pu (by decide) Ah (fun cdv hk A outer s H E hr=>cQ (lG (f_ o7 hr.mn rfl rfl (aq (br 0) aL))) (qZ qN))
theorem Pr:bF ["folk","many"] ["folk","many"] (aS yJ):=bY
theorem MP {f:af}{fd:aY}(F:bh K "best_posts" ("best_posts") yJ f fd)(T:Txt mg)(vB:cg P w K mg base 4 "fewest" ["folk","reach"] .cl m9)(vD:cg P w K mg base 2 "least_reach" ["folk","many"] .cl m_):aW P w K mg base (de P w) 5 f fd ["folk","many"] (dE K .cl rn):=
 fP (k:=4) ⟨[],.cl⟩ F Pr (by decide) Ad (fun cdv hk A outer s H E hr=>cU (kj (F2 (k:=0) (zZ vB hr.mn rfl rfl (qY (br 0) (lF (f_ vD hr.mn rfl rfl (aq (br 0) (aq (br 1) aL)))))) yi)))
theorem Pp:bF ["word","folk","many"] ["word","folk","many"] (aS yI):=bY
theorem MN {f:af}{fd:aY}(F:bh K "answer_of_many" ("answer_of_many") yI f fd)(T:Txt mg)(GZ:bN P w K mg base 1 "numbers_text" ["numbers"] .cl rF)(o8:bN P w K mg base 1 "fraction_text" ["fraction"] .cl kB)(G3:bN P w K mg base 2 "posts_text" ["posts"] .cl rG)(G6:cg P w K mg base 2 "shown" ["folk","many"] .cl rp)(vD:cg P w K mg base 2 "least_reach" ["folk","many"] .cl m_)(GV:cg P w K mg base 5 "best_posts" ["folk","many"] .cl rn):aW P w K mg base (de P w) 6 f fd ["word","folk","many"] (dE K .cl rm):=
 fP (k:=5) ⟨[],.cl⟩ F Pp (by decide) Ac (fun cdv hk A outer s H E hr=>cQ (gc (cw (cY hr.units) (aw 0) (PV.r aC)) (cU (kj (z0 o8 hr.mn rfl (lF (f_ vD hr.mn rfl rfl (aq (br 1) (aq (br 2) aL))))))) gf) (cQ (gc (cw (cY hr.units) (aw 0) (PV.r aC)) (cU (kj (z0 G3 hr.mn rfl (lF (f_ GV hr.mn rfl rfl (aq (br 1) (aq (br 2) aL))))))) gf) (cU (kj (z0 GZ hr.mn rfl (lF (f_ G6 hr.mn rfl rfl (aq (br 1) (aq (br 2) aL)))))))))
theorem Pw:bF ["folk"] ["folk"] (aS uf):=bY
theorem DM:(["place","weight"]:List Str).Nodup:=by decide +kernel
theorem MV {f:af}{fd:aY}(F:bh K "folk_text" ("folk_text") uf f fd)(T:Txt mg) :aW P w K mg base bx 1 f fd ["folk"] (cx K .cl lS):=
 dP (k:=0) ⟨[],.cl⟩ F Pw (by decide) vb (fun cdv hk A outer s H E hr=>bf (d_ (cw (cY hr.units) (PV.r (gA ib rfl T.m_len gj (aH (aw 0) bc))) aO) (bT (b8 (PV.r aC))) ef) (bT (b8 (PV.r (qW (PV.r aC) (bL.r (gr (k:=2) (N:=["place","weight"]) (ix:=[])  (aS uf) rfl ⟨rfl,rfl,by decide +kernel,by decide +kernel,by decide +kernel,rfl,by decide +kernel,rfl⟩ rfl rfl (ik (aw 0)) (fun _ _ _ _ _ _=>mB rfl (fY (cS (i:=0) DM rfl (Or.inl rfl)) (fY (cS (i:=1) DM rfl (Or.inl rfl)) mC))) (fun _ _ _ _ _ _=>fZ) (fun _ _ _ _ _ _=>PV.r (FN (uQ (aw 0)) aC (uQ (aw 1)))))))))))
theorem uq:bF ["one","other","rest"] ["one","other"] (aS yN):=bY
theorem MT {f:af}{fd:aY}(F:bh K "common_divisor" ("common_divisor") yN f fd)(T:Txt mg) :aW P w K mg base bx 1 f fd ["one","other"] (cx K .cl rD):=
 dP (k:=0) ⟨[],.cl⟩ F uq (by decide) Aw (fun cdv hk A outer s H E hr=>bf (Ph (fun ρ=>DG ρ 1+1) (cw (jS hr.units) (aw 1) aO) (bf (cC 2 uq.nd (v_mod (aw 0) (aw 1))) (bf (cC 0 uq.nd (br 1)) (bT (cC 1 uq.nd (br 2))))) v9) (bT (b8 (aw 0))))
theorem ER:bF ["top","bottom","divisor"] ["top","bottom"] (aS yP):=bY
theorem MW {f:af}{fd:aY}(F:bh K "fraction_of" ("fraction_of") yP f fd)(T:Txt mg)(GW:bN P w K mg base 1 "common_divisor" ["one","other"] .cl rD):aW P w K mg base bx 2 f fd ["top","bottom"] (cx K .cl rE):=
 dP (k:=1) ⟨[],.cl⟩ F ER (by decide) Ax (fun cdv hk A outer s H E hr=>bf (cC 2 ER.nd (PR.cl0 (du GW hr.mn rfl (aH (aw 0) (aH (aw 1) bc))))) (bT (b8 (j5 (aH (PV.r (lD (aw 0) (aw 2))) (aH (PV.r (lD (aw 1) (aw 2))) bc))))))
theorem qH:bF ["word","numbers","top","bottom","fraction"] ["word"] (aS yW):=bY
theorem M8 {f:af}{fd:aY}(F:bh K "reach_in" ("reach_in") yW f fd)(T:Txt mg)(vF:bN P w K mg base 3 "numbers_in" ["word","sign"] .cl kD)(GY:bN P w K mg base 2 "fraction_of" ["top","bottom"] .cl rE)(o8:bN P w K mg base 1 "fraction_text" ["fraction"] .cl kB):aW P w K mg base bx 4 f fd ["word"] (cx K .cl rH):=
 dP (k:=3) ⟨[],.cl⟩ F qH (by decide) AD (fun cdv hk A outer s H E hr=>bf (cC 1 qH.nd (PR.cl0 (du vF hr.mn rfl (aH (aw 0) (aH (PV.r aC) bc))))) (bf (d_ (uI (w_or (cw wR (PV.r (gA ib rfl T.m_len gj (aH (aw 1) bc))) aO) (uR (uH wU (PV.r fu) (aw 1))))) (bT (b8 (PV.r fu))) ef) (bf (cC 2 qH.nd (PR.cl0 (cA (aw 1) aO))) (bf (cC 3 qH.nd (PR.cl0 (qD (cw (cY hr.units) (PV.r (gA ib rfl T.m_len gj (aH (aw 1) bc))) aO) (cA (aw 1) aO) aO))) (bf (d_ (uI (w_or (cw sx (aw 2) aO) (uR (cw sx (aw 3) aO)))) (bT (b8 (PV.r fu))) ef) (bf (cC 4 qH.nd (PR.cl0 (du GY hr.mn rfl (aH (aw 2) (aH (aw 3) bc))))) (bT (b8 (qD (cw (cY hr.units) (du o8 hr.mn rfl (aH (aw 4) bc)) (aw 0)) (aw 4) (PV.r fu))))))))))
theorem EU:bF ["words","at","reach"] ["words","at"] (aS yV):=bY
theorem M7 {f:af}{fd:aY}(F:bh K "reach_at" ("reach_at") yV f fd)(T:Txt mg)(G5:bN P w K mg base 4 "reach_in" ["word"] .cl rH)(jN:kT P w K mg base 1 "NoText" "at"):aW P w K mg base (de P w) 5 f fd ["words","at"] (dE K .cl ro):=
 fP (k:=4) ⟨[],.cl⟩ F EU (by decide) Am (fun cdv hk A outer s H E hr=>cQ (gB (cC 2 EU.nd (PR.cl0 (du G5 hr.mn rfl (aH (cA (aw 0) (aw 1)) bc))))) (cQ (gc (cw wV (aw 2) (PV.r fu)) (cU (uX rfl rfl rfl jN hr.mn (br 1))) gf) (cU (gB (b8 (aw 2))))))
theorem Po:bF ["words","folk"] ["words","folk"] (aS yH):=bY
theorem MM {f:af}{fd:aY}(F:bh K "answer_of_folk" ("answer_of_folk") yH f fd)(T:Txt mg)(GS:cg P w K mg base 6 "answer_of_many" ["word","folk","many"] .cl rm)(GX:bN P w K mg base 1 "folk_text" ["folk"] .cl lS)(lT:cg P w K mg base 3 "number_at" ["words","at"] .cl iA)(vB:cg P w K mg base 4 "fewest" ["folk","reach"] .cl m9)(G4:cg P w K mg base 5 "reach_at" ["words","at"] .cl ro):aW P w K mg base (de P w) 7 f fd ["words","folk"] (dE K .cl lN):=
 fP (k:=6) ⟨[],.cl⟩ F Po (by decide) oK (fun cdv hk A outer s H E hr=>cQ (gB (d_ (cw (cY hr.units) (cA (aw 0) aO) (PV.r aC)) (bT (b8 (du GX hr.mn rfl (aH (aw 1) bc)))) ef)) (cQ (gc (cw (cY hr.units) (cA (aw 0) aO) (PV.r aC)) (cU (kj (SR (kY) rfl T.m_str jR (SQ ib rfl T.m_len gj (F2 (k:=0) (zZ vB hr.mn rfl rfl (qY (br 1) (lF (f_ G4 hr.mn rfl rfl (aq (br 0) (aq bK aL)))))) yi))))) gf) (cU (kj (zZ GS hr.mn rfl rfl (qY (PR.cl0 (cA (aw 0) aO)) (qY (br 1) (lF (f_ lT hr.mn rfl rfl (aq (br 0) (aq bK aL)))))))))))
theorem PJ:bF ["self","name","folk"] ["self","name","folk"] (aS y_):=bY
theorem Nb {f:af}{fd:aY}(F:bh K "lay" ("Desk"++"."++"lay") y_ f fd)(T:Txt mg)(o7:cg P w K mg base 3 "check_folk" ["folk"] .cl g_):aW P w K mg base (de P w) 4 f fd ["self","name","folk"] (dE K .cl iV):=
 fP (k:=3) ⟨[],.cl⟩ F PJ (by decide) oN (fun cdv hk A outer s H E hr=>cQ (lG (f_ o7 hr.mn rfl rfl (aq (br 2) aL))) (qZ qN))
theorem PK:bF ["self","name","text"] ["self","name","text"] (aS zb):=bY
theorem Nd {f:af}{fd:aY}(F:bh K "tell_line" ("Desk"++"."++"tell_line") zb f fd)(T:Txt mg)(G_v_lay:eZ P w K mg base 4 "Desk" "lay" ["self","name","folk"] .cl iV)(vC:bN P w K mg base 1 "is_name" ["word"] .cl kC)(vG:cg P w K mg base 5 "read_folk" ["text"] .cl lO){Gq:af}(wI:jM K mg "NoWord" Gq):aW P w K mg base (de P w) 6 f fd ["self","name","text"] (dE K .cl rq):=
 fP (k:=5) ⟨[],.cl⟩ F PK (by decide) Ao (fun cdv hk A outer s H E hr=>cQ (gc (qQ (mS (du vC hr.mn rfl (aH (aw 1) bc)))) (cU (uW rfl rfl (wI.at rfl))) gf) (cQ (lG (q0 G_v_lay hr.mn rfl (br 0) (qY (br 1) (lF (f_ vG hr.mn rfl rfl (aq (br 2) aL)))))) (cU (gB (b8 (aw 1))))))
theorem zt:bF ["self","words","one","folk"] ["self","words"] (aS zc):=bY
theorem Nf {f:af}{fd:aY}(F:bh K "tell_put" ("Desk"++"."++"tell_put") zc f fd)(T:Txt mg)(G_v_lay:eZ P w K mg base 4 "Desk" "lay" ["self","name","folk"] .cl iV)(lT:cg P w K mg base 3 "number_at" ["words","at"] .cl iA)(FO_fields:iB K "Desk" "fields"):aW P w K mg base (de P w) 5 f fd ["self","words"] (dE K .cl kA):=
 fP (k:=4) ⟨[],.cl⟩ F zt (by decide) oO (fun cdv hk A outer s H E hr=>cQ (SY (i:=2) zt.nd rfl (Or.inl rfl) (SS (SK (f_ lT hr.mn rfl rfl (aq (br 1) (aq bK aL))) (lF (f_ lT hr.mn rfl rfl (aq (br 1) (aq bK aL))))))) (cQ (gB (cC 3 zt.nd (bR.v (bL.cz (p5 (Ew hr.units (qC (cls:="Desk") FO_fields (aw 0)) (cA (aw 1) aO)) (bL.r (gR (aH (aw 2) bc)))))))) (cQ (lG (q0 G_v_lay hr.mn rfl (br 0) (uV (aq (PR.cl0 (cA (aw 1) aO)) (aq (br 3) aL))))) (cU (gB (b8 (PV.r (ki (kY) rfl T.m_str jR (aH (PV.r (gA ib rfl T.m_len gj (aH (aw 3) bc))) bc)))))))))
theorem EW:bF ["self","line","words"] ["self","line"] (aS za):=bY
theorem Nc {f:af}{fd:aY}(F:bh K "tell" ("Desk"++"."++"tell") za f fd)(T:Txt mg)(vH:bN P w K mg base 1 "words_of" ["line"] .cl iX)(vA:cg P w K mg base 1 "check_words" ["words"] .cl kz)(GR:cg P w K mg base 7 "answer_of_folk" ["words","folk"] .cl lN)(G_v_tell_line:eZ P w K mg base 6 "Desk" "tell_line" ["self","name","text"] .cl rq)(G_v_tell_put:eZ P w K mg base 5 "Desk" "tell_put" ["self","words"] .cl kA)(FO_fields:iB K "Desk" "fields")(wG:sk P w K mg base 1 "NoName" "name"):aW P w K mg base (de P w) 8 f fd ["self","line"] (dE K .cl gF):=
 fP (k:=7) ⟨[],.cl⟩ F EW (by decide) ko (fun cdv hk A outer s H E hr=>cQ (gB (cC 2 EW.nd (PR.cl0 (du vH hr.mn rfl (aH (aw 1) bc))))) (cQ (lG (f_ vA hr.mn rfl rfl (aq (br 2) aL))) (cQ (gB (d_ (cw (cY hr.units) (cA (aw 2) aO) (PV.r aC)) (bT (b8 (PV.r (qW (PV.r aC) (bL.r (Kd rfl rfl T.m_sorted (qC (cls:="Desk") FO_fields (aw 0)))))))) ef)) (cQ (gc (cw (cY hr.units) (cA (aw 2) aO) (PV.r aC)) (cU (kj (q0 G_v_tell_line hr.mn rfl (br 0) (uV (aq (PR.cl0 (cA (aw 2) aO)) (aq (PR.cl0 (cA (aw 2) aO)) aL)))))) gf) (cQ (gc (FA hr.units (cA (aw 2) aO) (qC (cls:="Desk") FO_fields (aw 0))) (cU (SX rfl rfl rfl wG hr.mn (PR.cl0 (cA (aw 2) aO)))) gf) (cQ (gc (cw (cY hr.units) (cA (aw 2) aO) (PV.r aC)) (cU (kj (q0 G_v_tell_put hr.mn rfl (br 0) (uV (aq (br 2) aL))))) gf) (cQ (gc (cw (cY hr.units) (cA (aw 2) aO) (PV.r aC)) (qZ qN) gf) (cU (kj (f_ GR hr.mn rfl rfl (aq (br 2) (aq (PR.cl0 (Ew hr.units (qC (cls:="Desk") FO_fields (aw 0)) (cA (aw 2) aO))) aL))))))))))))
theorem uo:bF ["_law_kept","_law_found"] ["_law_kept"] (aS yA):=bY
theorem MC {f:af}{fd:aY}(F:bh K "_law_classes" ("_law_classes") yA f fd)(T:Txt mg){D_NoRing:af}(I_NoRing:IsT K mg bI "NoRing" D_NoRing){D_NoReach:af}(I_NoReach:IsT K mg bI "NoReach" D_NoReach){D_NoPosts:af}(I_NoPosts:IsT K mg bI "NoPosts" D_NoPosts){D_NoMany:af}(I_NoMany:IsT K mg bI "NoMany" D_NoMany){D_NoFolk:af}(I_NoFolk:IsT K mg bI "NoFolk" D_NoFolk){D_NoWord:af}(I_NoWord:IsT K mg bI "NoWord" D_NoWord){D_NoLine:af}(I_NoLine:IsT K mg bI "NoLine" D_NoLine){D_NoWay:af}(I_NoWay:IsT K mg bI "NoWay" D_NoWay){D_NoTable:af}(I_NoTable:IsT K mg bI "NoTable" D_NoTable){D_NoPost:af}(I_NoPost:IsT K mg bI "NoPost" D_NoPost){D_NoName:af}(I_NoName:IsT K mg bI "NoName" D_NoName){D_NoText:af}(I_NoText:IsT K mg bI "NoText" D_NoText){D_NoThing:af}(I_NoThing:IsT K mg bI "NoThing" D_NoThing):aW P w K mg base bx 1 f fd ["_law_kept"] (cx K .cl o5):=
 dP (k:=0) ⟨[],.cl⟩ F uo (by decide) Aq (fun cdv hk A outer s H E hr=>bf (cC 1 uo.nd (bR.v (bL.cz (gR (aH (PV.r (gZ I_NoMany (aw 0) rfl T.m_isinstance rfl)) (aH (PV.r (gZ I_NoPosts (aw 0) rfl T.m_isinstance rfl)) (aH (PV.r (gZ I_NoReach (aw 0) rfl T.m_isinstance rfl)) (aH (PV.r (gZ I_NoRing (aw 0) rfl T.m_isinstance rfl)) bc)))))))) (bf (cC 1 uo.nd (bR.v (bL.cz (p5 (aw 1) (bL.r (gR (aH (PV.r (gZ I_NoLine (aw 0) rfl T.m_isinstance rfl)) (aH (PV.r (gZ I_NoWord (aw 0) rfl T.m_isinstance rfl)) (aH (PV.r (gZ I_NoFolk (aw 0) rfl T.m_isinstance rfl)) bc))))))))) (bf (cC 1 uo.nd (bR.v (bL.cz (p5 (aw 1) (bL.r (gR (aH (PV.r (gZ I_NoPost (aw 0) rfl T.m_isinstance rfl)) (aH (PV.r (gZ I_NoTable (aw 0) rfl T.m_isinstance rfl)) (aH (PV.r (gZ I_NoWay (aw 0) rfl T.m_isinstance rfl)) bc))))))))) (bT (b8 (bL.r (p5 (aw 1) (bL.r (gR (aH (PV.r (gZ I_NoThing (aw 0) rfl T.m_isinstance rfl)) (aH (PV.r (gZ I_NoText (aw 0) rfl T.m_isinstance rfl)) (aH (PV.r (gZ I_NoName (aw 0) rfl T.m_isinstance rfl)) bc))))))))))))
theorem Pm:bF ["_law_kept"] ["_law_kept"] (aS yE):=bY
theorem MJ {f:af}{fd:aY}(F:bh K "_law_which" ("_law_which") yE f fd)(T:Txt mg)(A2:bN P w K mg base 1 "_law_classes" ["_law_kept"] .cl o5)(I_ValueError:rM K bI):aW P w K mg base bx 2 f fd ["_law_kept"] (cx K .cl rA):=
 dP (k:=1) ⟨[],.cl⟩ F Pm (by decide) Au (fun cdv hk A outer s H E hr=>bf (d_ (uI (w_or (qQ (mS (PV.r (Sb I_ValueError (aw 0) rfl T.m_isinstance rfl T.m_ValueError IB)))) (uR (cw (jS hr.units) (PV.r (v_count (du A2 hr.mn rfl (aH (aw 0) bc)) (PV.r om))) aO)))) (bT (b8 (PV.r (Sf aO)))) ef) (bT (b8 (PV.r (R_ (du A2 hr.mn rfl (aH (aw 0) bc)) (PV.r om))))))
theorem Pn:bF ["_law_found"] ["_law_found"] (aS yF):=bY
theorem MK {f:af}{fd:aY}(F:bh K "_law_whole" ("_law_whole") yF f fd)(T:Txt mg) :aW P w K mg base bx 1 f fd ["_law_found"] (cx K .cl rB):=
 dP (k:=0) ⟨[],.cl⟩ F Pn (by decide) Av (fun cdv hk A outer s H E hr=>bT (b8 (qB (PV.r (zS "int" (aw 0) (by simp) rfl T.m_isinstance rfl T.m_int wQ)) (oq (PV.r (v_not (PV.r (zS "bool" (aw 0) (by simp) rfl T.m_isinstance rfl T.m_bool IC))))))))
theorem qG:bF ["_law_desk","_law_line","_law_due","_law_field_here","_law_kept","e","_law_found"] ["_law_desk","_law_line","_law_due","_law_field_here"] (aS yD):=bY
theorem MH {f:af}{fd:aY}(F:bh K "_law_refused" ("_law_refused") yD f fd)(T:Txt mg)(GK:bN P w K mg base 1 "_law_field" ["_law_kept","_law_due"] .cl rz)(G_v_tell:eZ P w K mg base 8 "Desk" "tell" ["self","line"] .cl gF)(GP:bN P w K mg base 2 "_law_which" ["_law_kept"] .cl rA)(GQ:bN P w K mg base 1 "_law_whole" ["_law_found"] .cl rB){D_PostError:af}(P_PostError:mg "PostError"=some (.ref D_PostError)∧AR K bI D_PostError):aW P w K mg base bx 9 f fd ["_law_desk","_law_line","_law_due","_law_field_here"] (cx K .cl gG):=
 dP (k:=8) ⟨[],.cl⟩ F qG (by decide) oQ (fun cdv hk A outer s H E hr=>bf (cC 4 qG.nd fu) (bf (Pg (ie:=5) rfl rfl rfl rfl qG.nd rfl rfl (.inl rfl) rfl rfl P_PostError.1 P_PostError.2 (fun pn W=>cU (lG (q0 G_v_tell hr.mn rfl (br 0) (uV (aq (br 1) aL))))) (fun pn a=>bT (cC 4 qG.nd (br 5)))) (bf (d_ (cw (jS hr.units) (du GP hr.mn rfl (aH (aw 4) bc)) (aw 2)) (bT (b8 (PV.r om))) ef) (bf (cC 6 qG.nd (PR.cl0 (du GK hr.mn rfl (aH (aw 4) (aH (aw 2) bc))))) (bT (b8 (qB (PV.r (qV (cY hr.units) (aw 6) (aw 3))) (qB (Ex (PV.r (zR IK (aw 2) (j5 (aH aO (aH aO bc))))) (oq (du GQ hr.mn rfl (aH (aw 6) bc)))) (oq (Ex (PV.r (qV (jS hr.units) (aw 2) aO)) (oq (PV.r (zS "str" (aw 6) (by simp) rfl T.m_isinstance rfl T.m_str jR)))))))))))))
theorem Pl:bF ["_law_folk_here"] ["_law_folk_here"] (aS ud):=bY
theorem DL:(["_law_place","_law_weight"]:List Str).Nodup:=by decide +kernel
theorem MI {f:af}{fd:aY}(F:bh K "_law_text" ("_law_text") ud f fd)(T:Txt mg) :aW P w K mg base bx 1 f fd ["_law_folk_here"] (cx K .cl iW):=
 dP (k:=0) ⟨[],.cl⟩ F Pl (by decide) u9 (fun cdv hk A outer s H E hr=>bf (d_ (cw (cY hr.units) (aw 0) (bL.r (gR bc))) (bT (b8 (PV.r aC))) ef) (bT (b8 (PV.r (qW (PV.r aC) (bL.r (gr (k:=2) (N:=["_law_place","_law_weight"]) (ix:=[])  (aS ud) rfl ⟨rfl,rfl,by decide +kernel,by decide +kernel,by decide +kernel,rfl,by decide +kernel,rfl⟩ rfl rfl (ik (aw 0)) (fun _ _ _ _ _ _=>mB rfl (fY (cS (i:=0) DL rfl (Or.inl rfl)) (fY (cS (i:=1) DL rfl (Or.inl rfl)) mC))) (fun _ _ _ _ _ _=>fZ) (fun _ _ _ _ _ _=>PV.r (zQ (PV.r (zQ (PV.r (ki (kY) rfl T.m_str jR (aH (aw 0) bc))) (PV.r aC))) (PV.r (ki (kY) rfl T.m_str jR (aH (aw 1) bc))))))))))))
theorem j8:bF ["_law_script","_law_purse","_law_folk_here","_law_desk","_law_lines_here","_law_turn","_law_line","_law_due","_law_field_here"] ["_law_script"] (aS yG):=bY
theorem ML {f:af}{fd:aY}(F:bh K "law" ("law") yG f fd)(T:Txt mg)(GJ:bN P w K mg base 1 "_law_digits" ["_law_script","_law_at","_law_parts"] (.lst .cl) lP)(G_w_init:rh P w K mg base 1 "Desk" ["self"] ["fields"] [.dc none []] o4)(GN:bN P w K mg base 1 "_law_lines" ["_law_many"] .cl lQ)(GL:rg P w K mg base 1 "_law_folk" ["_law_purse","_law_most"] 0 (.lst .cl) ky)(G_w_tell:gD P w K mg base 7 "Desk" "tell" ["self","line"] ["fields"] [.dc none []] fR)(GO:bN P w K mg base 9 "_law_refused" ["_law_desk","_law_line","_law_due","_law_field_here"] .cl gG)(G_v_tell:eZ P w K mg base 8 "Desk" "tell" ["self","line"] .cl gF)(A3:bN P w K mg base 1 "_law_text" ["_law_folk_here"] .cl iW):aW P w K mg base bx 10 f fd ["_law_script"] (cx K .cl o6):=
 dP (k:=9) ⟨[(1,.lst .cl),(3,.rc none "Desk" ["fields"] [.dc none []])],.cl⟩ F j8 (by decide) oR (fun cdv hk A outer s H E hr=>bf (y0 (i:=1) j8.nd rfl (Or.inl rfl) (Kh GJ hr.mn rfl (aq (br 0) (aq bK (aq bK aL))))) (bf (y9 (i:=2) j8.nd rfl (Or.inl rfl) (SD (SA GL hr.mn rfl (pv 1) (aq bK aL)) (SG (wN (SJ (wN (uU (zW (pv 1)) aO) (wN (Sz bK (uU (zW (pv 1)) aO)) (BU)))) (BU))))) (bf (y0 (i:=3) j8.nd rfl (Or.inl rfl) (Kj G_w_init hr.mn rfl)) (bf (Pb (RW (FI (jS hr.units) (z9 G_w_tell hr.mn (pv 3) (aq (zQ (PV.r aC) (du A3 hr.mn rfl (aH (aw 2) bc))) aL)) (PV.r aC)) (FI (jS hr.units) (z9 G_w_tell hr.mn (pv 3) (aq aC aL)) (PV.r aC))) (bT (b8 (PV.r om))) ef) (bf (cC 4 j8.nd (qU GN hr.mn rfl (aq (gA ib rfl T.m_len gj (aH (aw 2) bc)) aL))) (bf (EL rfl (Df rfl T.m_range (aH aO bc)) (cS (i:=5) j8.nd rfl (Or.inl rfl)) (bf (O_ (SE (br 4) (uU (zW (pv 1)) (PV.r (gA ib rfl T.m_len gj (aH (aw 4) bc))))) (mB rfl (fY (cS (i:=6) j8.nd rfl (Or.inl rfl)) (fY (cS (i:=7) j8.nd rfl (Or.inl rfl)) (fY (cS (i:=8) j8.nd rfl (Or.inl rfl)) mC))))) (bf (d_ (qQ (mS (du GO hr.mn rfl (aH (lr (pv 3)) (aH (aw 6) (aH (aw 7) (aH (aw 8) bc))))))) (bT (b8 (PV.r om))) ef) (bT (d_ (cw (jS hr.units) (bL.r (gR (aH (t7 (eZ.ok G_v_tell) hr.mn (lr (pv 3)) (aH (PV.r aC) bc)) (aH (t7 (eZ.ok G_v_tell) hr.mn (lr (pv 3)) (aH (PV.r aC) bc)) (aH (t7 (eZ.ok G_v_tell) hr.mn (lr (pv 3)) (aH (PV.r aC) bc)) bc))))) (bL.r (gR (aH (PV.r aC) (aH (du A3 hr.mn rfl (aH (aw 2) bc)) (aH (PV.r aC) bc)))))) (bT (b8 (PV.r om))) ef)))) v9) (bT (Pd (SU (cY hr.units) (z9 G_w_tell hr.mn (pv 3) (aq aC aL)) (PV.r aC)) (PV.r (qV (cY hr.units) (t7 (eZ.ok G_v_tell) hr.mn (lr (pv 3)) (aH (PV.r aC) bc)) (PV.r aC)))))))))))
theorem PQ:bF ["self","number"] ["self","number"] (aS zi):=bY
theorem SM {C fI CP:af}{fd:aY}(o:gL K "NoFolk" C fI)(F:bh K "__init__" ("NoFolk"++".__init__") zi fI fd)(fl:kE K C "number")(b:oY K mg "PostError" CP):iY P w K mg base 1 fI C "number" nk:=
 xH (k:=0) o F PQ (F.binds fun _ _ _ _ _ _ us hl=>eE (P:=fun us=>bO _ ⟨us,[]⟩=aN (b_ _ us)) hl fun _ _=>rfl) fl rfl (fun _=>rfl) (fun _=>rfl) (fun e cdv A outer s H hr=>⟨⟨rfl,b.mg,b.rd,b.fc,b.sp⟩,yk oj (yh (pv 1)) oj,pv 0,pv 0,pv 1,rfl,rfl,rfl,_,rfl⟩) (FF (by decide) (by decide))
theorem PY:bF ["self","at"] ["self","at"] (aS zk):=bY
theorem SO {C fI CP:af}{fd:aY}(o:gL K "NoText" C fI)(F:bh K "__init__" ("NoText"++".__init__") zk fI fd)(fl:kE K C "at")(b:oY K mg "PostError" CP):iY P w K mg base 1 fI C "at" nk:=
 xH (k:=0) o F PY (F.binds fun _ _ _ _ _ _ us hl=>eE (P:=fun us=>bO _ ⟨us,[]⟩=aN (b_ _ us)) hl fun _ _=>rfl) fl rfl (fun _=>rfl) (fun _=>rfl) (fun e cdv A outer s H hr=>⟨⟨rfl,b.mg,b.rd,b.fc,b.sp⟩,yk oj (yh (pv 1)) oj,pv 0,pv 0,pv 1,rfl,rfl,rfl,_,rfl⟩) (FF (by decide) (by decide))
theorem PU:bF ["self","name"] ["self","name"] (aS zj):=bY
theorem SN {C fI CP:af}{fd:aY}(o:gL K "NoName" C fI)(F:bh K "__init__" ("NoName"++".__init__") zj fI fd)(fl:kE K C "name")(b:oY K mg "PostError" CP):iY P w K mg base 1 fI C "name" sh:=
 xH (k:=0) o F PU (F.binds fun _ _ _ _ _ _ us hl=>eE (P:=fun us=>bO _ ⟨us,[]⟩=aN (b_ _ us)) hl fun _ _=>rfl) fl rfl (fun _=>rfl) (fun _=>rfl) (fun e cdv A outer s H hr=>⟨⟨rfl,b.mg,b.rd,b.fc,b.sp⟩,NT oj (N0 (pv 1)),pv 0,pv 0,pv 1,rfl,rfl,rfl,_,rfl⟩) (RI (by decide))
end
theorem all_mk {l:Bk}{w:aM}{K:ao}{h:az}{mg:Str->Option ah}{fa:af}(X:K.In h)(G:h.Ns a_ mg)(hfa:mg "law"=some (.ref fa))
   (e_NoLine:o2 K "NoLine")
   (e_NoMany:o2 K "NoMany")
   (e_NoWord:o2 K "NoWord")
   (c_LETTERS:pM K "LETTERS" (aj "abcdefghijklmnopqrstuvwxyz"))
   (c_FIGURES:pM K "FIGURES" (aj "0123456789"))
   (kd_WORD_COUNTS:kF K w "WORD_COUNTS" [("line",3),("put",4),("drop",2),("show",2),("least",3),("posts",3),("apart",3),("fewest",3),("all",1)])
   (xa_NoFolk:kS K "NoFolk" "PostError" "number" zi)
   (xa_NoText:kS K "NoText" "PostError" "at" zk)
   (xa_NoName:kS K "NoName" "PostError" "name" zj)
   (x_all:(p9 K "PostError"&&(CC K bI (fN K "PostError")&&((["NoRing","NoReach","NoPosts","NoMany","NoFolk","NoWord","NoLine","NoWay","NoTable","NoPost","NoName","NoText","NoThing"]:List Str).all (C7 K bI)&&(C9 K bI&&(sS K bI "name"&&(sS K bI "at"&&(sS K bI "number"&&true)))))))=true)
   (fw_fields:rK K "Desk" "fields")
   (d0:FnAt K "_law_digits" uc)
   (w1:rf K "Desk" zd)
   (d2:FnAt K "_law_lines" j7)
   (d3:FnAt K "_law_folk" yC)
   (d4:FnAt K "words_of" yY)
   (d5:FnAt K "check_words" yM)
   (d6:FnAt K "check_folk" yK)
   (m7:MethAt K "Desk" "lay" ze)
   (d8:FnAt K "is_name" ug)
   (d9:FnAt K "are_figures" ue)
   (d10:FnAt K "number_in" yT)
   (d11:FnAt K "numbers_in" uh)
   (d12:FnAt K "one_in" yU)
   (d13:FnAt K "read_folk" uk)
   (m14:MethAt K "Desk" "tell_line" zg)
   (d15:FnAt K "number_at" yS)
   (m16:MethAt K "Desk" "tell_put" zh)
   (m17:MethAt K "Desk" "tell" zf)
   (d18:FnAt K "_law_field" yB)
   (d19:FnAt K "numbers_text" ui)
   (d20:FnAt K "fraction_text" yQ)
   (d21:FnAt K "posts_text" uj)
   (d22:FnAt K "check_many" yL)
   (d23:FnAt K "shown" yX)
   (d24:FnAt K "least_reach" yR)
   (d25:FnAt K "fewest" yO)
   (d26:FnAt K "best_posts" yJ)
   (d27:FnAt K "answer_of_many" yI)
   (d28:FnAt K "folk_text" uf)
   (d29:FnAt K "common_divisor" yN)
   (d30:FnAt K "fraction_of" yP)
   (d31:FnAt K "reach_in" yW)
   (d32:FnAt K "reach_at" yV)
   (d33:FnAt K "answer_of_folk" yH)
   (m34:MethAt K "Desk" "lay" y_)
   (m35:MethAt K "Desk" "tell_line" zb)
   (m36:MethAt K "Desk" "tell_put" zc)
   (m37:MethAt K "Desk" "tell" za)
   (d38:FnAt K "_law_classes" yA)
   (d39:FnAt K "_law_which" yE)
   (d40:FnAt K "_law_whole" yF)
   (d41:FnAt K "_law_refused" yD)
   (d42:FnAt K "_law_text" ud)
   (d43:FnAt K "law" yG)
   (z_all:DP K ["ValueError","all","bool","enumerate","int","isinstance","len","list","min","range","reversed","sorted","str","sum"]=true)
  :∃ fd:aY,(∀ (s:ar) (v:ah),jz s fd ⟨[v],[]⟩ [("_law_script",v)])∧∀ base:az,K.In base->base.Ns a_ mg->aW l.prog w K mg base bx 10 fa fd ["_law_script"] (cx K .cl o6):=by
 have T:Txt mg:=⟨gv X G z_all 0 rfl,gv X G z_all 1 rfl,gv X G z_all 2 rfl,gv X G z_all 3 rfl,gv X G z_all 4 rfl,gv X G z_all 5 rfl,gv X G z_all 6 rfl,gv X G z_all 7 rfl,gv X G z_all 8 rfl,gv X G z_all 9 rfl,gv X G z_all 10 rfl,gv X G z_all 11 rfl,gv X G z_all 12 rfl,gv X G z_all 13 rfl⟩
 obtain⟨c_PostError,x_all⟩:=h_ x_all
 obtain⟨q_PostError,x_all⟩:=h_ x_all
 obtain⟨i_all,x_all⟩:=h_ x_all
 obtain⟨v_all,x_all⟩:=h_ x_all
 obtain⟨fe_name,x_all⟩:=h_ x_all
 obtain⟨fe_at,x_all⟩:=h_ x_all
 obtain⟨fe_number,x_all⟩:=h_ x_all
 have sq:jM K mg "NoLine" _:=zY X G e_NoLine
 have wH:jM K mg "NoMany" _:=zY X G e_NoMany
 have wI:jM K mg "NoWord" _:=zY X G e_NoWord
 have P_PostError:=Jc X G c_PostError q_PostError
 have I_NoRing:IsT K mg bI "NoRing" _:=gS X G i_all 0 rfl
 have I_NoReach:IsT K mg bI "NoReach" _:=gS X G i_all 1 rfl
 have I_NoPosts:IsT K mg bI "NoPosts" _:=gS X G i_all 2 rfl
 have I_NoMany:IsT K mg bI "NoMany" _:=gS X G i_all 3 rfl
 have I_NoFolk:IsT K mg bI "NoFolk" _:=gS X G i_all 4 rfl
 have I_NoWord:IsT K mg bI "NoWord" _:=gS X G i_all 5 rfl
 have I_NoLine:IsT K mg bI "NoLine" _:=gS X G i_all 6 rfl
 have I_NoWay:IsT K mg bI "NoWay" _:=gS X G i_all 7 rfl
 have I_NoTable:IsT K mg bI "NoTable" _:=gS X G i_all 8 rfl
 have I_NoPost:IsT K mg bI "NoPost" _:=gS X G i_all 9 rfl
 have I_NoName:IsT K mg bI "NoName" _:=gS X G i_all 10 rfl
 have I_NoText:IsT K mg bI "NoText" _:=gS X G i_all 11 rfl
 have I_NoThing:IsT K mg bI "NoThing" _:=gS X G i_all 12 rfl
 have I_ValueError:rM K bI:=K8 v_all
 have FE_name:=xq fe_name
 have FE_at:=xq fe_at
 have FE_number:=xq fe_number
 obtain⟨tk_LETTERS,c_LETTERS⟩:=c_LETTERS
 have C_LETTERS:=fV X G c_LETTERS
 obtain⟨tk_FIGURES,c_FIGURES⟩:=c_FIGURES
 have C_FIGURES:=fV X G c_FIGURES
 have KD_WORD_COUNTS:=kd_WORD_COUNTS.ok X G
 have wF:∀ base:az,kT l.prog w K mg base 1 "NoFolk" "number":=fun base=>xa_NoFolk.ok X G fun C fI CP fd o F fl b=>SM o F fl b
 have jN:∀ base:az,kT l.prog w K mg base 1 "NoText" "at":=fun base=>xa_NoText.ok X G fun C fI CP fd o F fl b=>SO o F fl b
 have wG:∀ base:az,sk l.prog w K mg base 1 "NoName" "name":=fun base=>xa_NoName.okS X G fun C fI CP fd o F fl b=>SN o F fl b
 have FO_fields:=fw_fields.ok
 have H_l_digits:∀ base:az,bN l.prog w K mg base 1 "_law_digits" ["_law_script","_law_at","_law_parts"] (.lst .cl) lP:=fun base=>d0.ok X G (fun _ _ _ _ _ _ us hl=>mF (P:=fun us=>bO _ ⟨us,[]⟩=aN (b_ _ us)) hl fun _ _ _=>rfl) fun f fd a F=>MD F T 
 have H_w_init:∀ base:az,rh l.prog w K mg base 1 "Desk" ["self"] ["fields"] [.dc none []] o4:=fun base=>w1.ok X G (fun _ _ _ _ _ _ us hl=>dZ (P:=fun us=>bO _ ⟨us,[]⟩=aN (b_ _ us)) hl fun _=>rfl) fun f fd F=>Ng F T  FO_fields
 have H_l_lines:∀ base:az,bN l.prog w K mg base 1 "_law_lines" ["_law_many"] .cl lQ:=fun base=>d2.ok X G (fun _ _ _ _ _ _ us hl=>dZ (P:=fun us=>bO _ ⟨us,[]⟩=aN (b_ _ us)) hl fun _=>rfl) fun f fd a F=>MG F T 
 have H_l_folk:∀ base:az,rg l.prog w K mg base 1 "_law_folk" ["_law_purse","_law_most"] 0 (.lst .cl) ky:=fun base=>d3.okI X G (fun _ _ _ _ _ _ us hl=>eE (P:=fun us=>bO _ ⟨us,[]⟩=aN (b_ _ us)) hl fun _ _=>rfl) fun f fd a F=>MF F T 
 have H_p_words_of:∀ base:az,bN l.prog w K mg base 1 "words_of" ["line"] .cl iX:=fun base=>d4.ok X G (fun _ _ _ _ _ _ us hl=>dZ (P:=fun us=>bO _ ⟨us,[]⟩=aN (b_ _ us)) hl fun _=>rfl) fun f fd a F=>Na F T 
 have H_p_check_words:∀ base:az,cg l.prog w K mg base 1 "check_words" ["words"] .cl kz:=fun base=>d5.okX X G (fun _ _ _ _ _ _ us hl=>dZ (P:=fun us=>bO _ ⟨us,[]⟩=aN (b_ _ us)) hl fun _=>rfl) fun f fd a F=>MS F T  sq KD_WORD_COUNTS
 have H_p_check_folk:∀ base:az,cg l.prog w K mg base 3 "check_folk" ["folk"] .cl g_:=fun base=>d6.okX X G (fun _ _ _ _ _ _ us hl=>dZ (P:=fun us=>bO _ ⟨us,[]⟩=aN (b_ _ us)) hl fun _=>rfl) fun f fd a F=>MQ F T  (wF base)
 have H_w_lay:∀ base:az,gD l.prog w K mg base 4 "Desk" "lay" ["self","name","folk"] ["fields"] [.dc none []] jA:=fun base=>m7.okR (fun _ _ _ _ _ _ us hl=>mF (P:=fun us=>bO _ ⟨us,[]⟩=aN (b_ _ us)) hl fun _ _ _=>rfl) fun f fd F=>Nh F T (H_p_check_folk base) FO_fields
 have H_p_is_name:∀ base:az,bN l.prog w K mg base 1 "is_name" ["word"] .cl kC:=fun base=>d8.ok X G (fun _ _ _ _ _ _ us hl=>dZ (P:=fun us=>bO _ ⟨us,[]⟩=aN (b_ _ us)) hl fun _=>rfl) fun f fd a F=>MY F T  C_LETTERS
 have H_p_are_figures:∀ base:az,bN l.prog w K mg base 1 "are_figures" ["text"] .cl lR:=fun base=>d9.ok X G (fun _ _ _ _ _ _ us hl=>dZ (P:=fun us=>bO _ ⟨us,[]⟩=aN (b_ _ us)) hl fun _=>rfl) fun f fd a F=>MO F T  C_FIGURES
 have H_p_number_in:∀ base:az,bN l.prog w K mg base 2 "number_in" ["word"] .cl jB:=fun base=>d10.ok X G (fun _ _ _ _ _ _ us hl=>dZ (P:=fun us=>bO _ ⟨us,[]⟩=aN (b_ _ us)) hl fun _=>rfl) fun f fd a F=>M1 F T (H_p_are_figures base)
 have H_p_numbers_in:∀ base:az,bN l.prog w K mg base 3 "numbers_in" ["word","sign"] .cl kD:=fun base=>d11.ok X G (fun _ _ _ _ _ _ us hl=>eE (P:=fun us=>bO _ ⟨us,[]⟩=aN (b_ _ us)) hl fun _ _=>rfl) fun f fd a F=>M3 F T (H_p_number_in base)
 have H_p_one_in:∀ base:az,bN l.prog w K mg base 4 "one_in" ["word"] .cl nc:=fun base=>d12.ok X G (fun _ _ _ _ _ _ us hl=>dZ (P:=fun us=>bO _ ⟨us,[]⟩=aN (b_ _ us)) hl fun _=>rfl) fun f fd a F=>M5 F T (H_p_numbers_in base)
 have H_p_read_folk:∀ base:az,cg l.prog w K mg base 5 "read_folk" ["text"] .cl lO:=fun base=>d13.okX X G (fun _ _ _ _ _ _ us hl=>dZ (P:=fun us=>bO _ ⟨us,[]⟩=aN (b_ _ us)) hl fun _=>rfl) fun f fd a F=>M9 F T (H_p_one_in base) (jN base)
 have H_w_tell_line:∀ base:az,gD l.prog w K mg base 6 "Desk" "tell_line" ["self","name","text"] ["fields"] [.dc none []] m5:=fun base=>m14.okR (fun _ _ _ _ _ _ us hl=>mF (P:=fun us=>bO _ ⟨us,[]⟩=aN (b_ _ us)) hl fun _ _ _=>rfl) fun f fd F=>Nj F T (H_w_lay base) (H_p_is_name base) (H_p_read_folk base)
 have H_p_number_at:∀ base:az,cg l.prog w K mg base 3 "number_at" ["words","at"] .cl iA:=fun base=>d15.okX X G (fun _ _ _ _ _ _ us hl=>eE (P:=fun us=>bO _ ⟨us,[]⟩=aN (b_ _ us)) hl fun _ _=>rfl) fun f fd a F=>M0 F T (H_p_number_in base) (jN base)
 have H_w_tell_put:∀ base:az,gD l.prog w K mg base 5 "Desk" "tell_put" ["self","words"] ["fields"] [.dc none []] rl:=fun base=>m16.okR (fun _ _ _ _ _ _ us hl=>eE (P:=fun us=>bO _ ⟨us,[]⟩=aN (b_ _ us)) hl fun _ _=>rfl) fun f fd F=>Nk F T (H_w_lay base) (H_p_number_at base) FO_fields
 have H_w_tell:∀ base:az,gD l.prog w K mg base 7 "Desk" "tell" ["self","line"] ["fields"] [.dc none []] fR:=fun base=>m17.okR (fun _ _ _ _ _ _ us hl=>eE (P:=fun us=>bO _ ⟨us,[]⟩=aN (b_ _ us)) hl fun _ _=>rfl) fun f fd F=>Ni F T (H_p_words_of base) (H_p_check_words base) (H_w_tell_line base) (H_w_tell_put base) FO_fields
 have H_l_field:∀ base:az,bN l.prog w K mg base 1 "_law_field" ["_law_kept","_law_due"] .cl rz:=fun base=>d18.ok X G (fun _ _ _ _ _ _ us hl=>eE (P:=fun us=>bO _ ⟨us,[]⟩=aN (b_ _ us)) hl fun _ _=>rfl) fun f fd a F=>ME F T  FE_name FE_at FE_number
 have H_p_numbers_text:∀ base:az,bN l.prog w K mg base 1 "numbers_text" ["numbers"] .cl rF:=fun base=>d19.ok X G (fun _ _ _ _ _ _ us hl=>dZ (P:=fun us=>bO _ ⟨us,[]⟩=aN (b_ _ us)) hl fun _=>rfl) fun f fd a F=>M4 F T 
 have H_p_fraction_text:∀ base:az,bN l.prog w K mg base 1 "fraction_text" ["fraction"] .cl kB:=fun base=>d20.ok X G (fun _ _ _ _ _ _ us hl=>dZ (P:=fun us=>bO _ ⟨us,[]⟩=aN (b_ _ us)) hl fun _=>rfl) fun f fd a F=>MX F T 
 have H_p_posts_text:∀ base:az,bN l.prog w K mg base 2 "posts_text" ["posts"] .cl rG:=fun base=>d21.ok X G (fun _ _ _ _ _ _ us hl=>dZ (P:=fun us=>bO _ ⟨us,[]⟩=aN (b_ _ us)) hl fun _=>rfl) fun f fd a F=>M6 F T (H_p_fraction_text base)
 have H_p_check_many:∀ base:az,cg l.prog w K mg base 1 "check_many" ["many"] .cl m8:=fun base=>d22.okX X G (fun _ _ _ _ _ _ us hl=>dZ (P:=fun us=>bO _ ⟨us,[]⟩=aN (b_ _ us)) hl fun _=>rfl) fun f fd a F=>MR F T  wH
 have H_p_shown:∀ base:az,cg l.prog w K mg base 2 "shown" ["folk","many"] .cl rp:=fun base=>d23.okX X G (fun _ _ _ _ _ _ us hl=>eE (P:=fun us=>bO _ ⟨us,[]⟩=aN (b_ _ us)) hl fun _ _=>rfl) fun f fd a F=>M_ F T (H_p_check_many base)
 have H_p_least_reach:∀ base:az,cg l.prog w K mg base 2 "least_reach" ["folk","many"] .cl m_:=fun base=>d24.okX X G (fun _ _ _ _ _ _ us hl=>eE (P:=fun us=>bO _ ⟨us,[]⟩=aN (b_ _ us)) hl fun _ _=>rfl) fun f fd a F=>MZ F T (H_p_check_many base)
 have H_p_fewest:∀ base:az,cg l.prog w K mg base 4 "fewest" ["folk","reach"] .cl m9:=fun base=>d25.okX X G (fun _ _ _ _ _ _ us hl=>eE (P:=fun us=>bO _ ⟨us,[]⟩=aN (b_ _ us)) hl fun _ _=>rfl) fun f fd a F=>MU F T (H_p_check_folk base)
 have H_p_best_posts:∀ base:az,cg l.prog w K mg base 5 "best_posts" ["folk","many"] .cl rn:=fun base=>d26.okX X G (fun _ _ _ _ _ _ us hl=>eE (P:=fun us=>bO _ ⟨us,[]⟩=aN (b_ _ us)) hl fun _ _=>rfl) fun f fd a F=>MP F T (H_p_fewest base) (H_p_least_reach base)
 have H_p_answer_of_many:∀ base:az,cg l.prog w K mg base 6 "answer_of_many" ["word","folk","many"] .cl rm:=fun base=>d27.okX X G (fun _ _ _ _ _ _ us hl=>mF (P:=fun us=>bO _ ⟨us,[]⟩=aN (b_ _ us)) hl fun _ _ _=>rfl) fun f fd a F=>MN F T (H_p_numbers_text base) (H_p_fraction_text base) (H_p_posts_text base) (H_p_shown base) (H_p_least_reach base) (H_p_best_posts base)
 have H_p_folk_text:∀ base:az,bN l.prog w K mg base 1 "folk_text" ["folk"] .cl lS:=fun base=>d28.ok X G (fun _ _ _ _ _ _ us hl=>dZ (P:=fun us=>bO _ ⟨us,[]⟩=aN (b_ _ us)) hl fun _=>rfl) fun f fd a F=>MV F T 
 have H_p_common_divisor:∀ base:az,bN l.prog w K mg base 1 "common_divisor" ["one","other"] .cl rD:=fun base=>d29.ok X G (fun _ _ _ _ _ _ us hl=>eE (P:=fun us=>bO _ ⟨us,[]⟩=aN (b_ _ us)) hl fun _ _=>rfl) fun f fd a F=>MT F T 
 have H_p_fraction_of:∀ base:az,bN l.prog w K mg base 2 "fraction_of" ["top","bottom"] .cl rE:=fun base=>d30.ok X G (fun _ _ _ _ _ _ us hl=>eE (P:=fun us=>bO _ ⟨us,[]⟩=aN (b_ _ us)) hl fun _ _=>rfl) fun f fd a F=>MW F T (H_p_common_divisor base)
 have H_p_reach_in:∀ base:az,bN l.prog w K mg base 4 "reach_in" ["word"] .cl rH:=fun base=>d31.ok X G (fun _ _ _ _ _ _ us hl=>dZ (P:=fun us=>bO _ ⟨us,[]⟩=aN (b_ _ us)) hl fun _=>rfl) fun f fd a F=>M8 F T (H_p_numbers_in base) (H_p_fraction_of base) (H_p_fraction_text base)
 have H_p_reach_at:∀ base:az,cg l.prog w K mg base 5 "reach_at" ["words","at"] .cl ro:=fun base=>d32.okX X G (fun _ _ _ _ _ _ us hl=>eE (P:=fun us=>bO _ ⟨us,[]⟩=aN (b_ _ us)) hl fun _ _=>rfl) fun f fd a F=>M7 F T (H_p_reach_in base) (jN base)
 have H_p_answer_of_folk:∀ base:az,cg l.prog w K mg base 7 "answer_of_folk" ["words","folk"] .cl lN:=fun base=>d33.okX X G (fun _ _ _ _ _ _ us hl=>eE (P:=fun us=>bO _ ⟨us,[]⟩=aN (b_ _ us)) hl fun _ _=>rfl) fun f fd a F=>MM F T (H_p_answer_of_many base) (H_p_folk_text base) (H_p_number_at base) (H_p_fewest base) (H_p_reach_at base)
 have H_v_lay:∀ base:az,eZ l.prog w K mg base 4 "Desk" "lay" ["self","name","folk"] .cl iV:=fun base=>m34.okMX (fun _ _ _ _ _ _ us hl=>mF (P:=fun us=>bO _ ⟨us,[]⟩=aN (b_ _ us)) hl fun _ _ _=>rfl) fun f fd F=>Nb F T (H_p_check_folk base)
 have H_v_tell_line:∀ base:az,eZ l.prog w K mg base 6 "Desk" "tell_line" ["self","name","text"] .cl rq:=fun base=>m35.okMX (fun _ _ _ _ _ _ us hl=>mF (P:=fun us=>bO _ ⟨us,[]⟩=aN (b_ _ us)) hl fun _ _ _=>rfl) fun f fd F=>Nd F T (H_v_lay base) (H_p_is_name base) (H_p_read_folk base) wI
 have H_v_tell_put:∀ base:az,eZ l.prog w K mg base 5 "Desk" "tell_put" ["self","words"] .cl kA:=fun base=>m36.okMX (fun _ _ _ _ _ _ us hl=>eE (P:=fun us=>bO _ ⟨us,[]⟩=aN (b_ _ us)) hl fun _ _=>rfl) fun f fd F=>Nf F T (H_v_lay base) (H_p_number_at base) FO_fields
 have H_v_tell:∀ base:az,eZ l.prog w K mg base 8 "Desk" "tell" ["self","line"] .cl gF:=fun base=>m37.okMX (fun _ _ _ _ _ _ us hl=>eE (P:=fun us=>bO _ ⟨us,[]⟩=aN (b_ _ us)) hl fun _ _=>rfl) fun f fd F=>Nc F T (H_p_words_of base) (H_p_check_words base) (H_p_answer_of_folk base) (H_v_tell_line base) (H_v_tell_put base) FO_fields (wG base)
 have H_l_classes:∀ base:az,bN l.prog w K mg base 1 "_law_classes" ["_law_kept"] .cl o5:=fun base=>d38.ok X G (fun _ _ _ _ _ _ us hl=>dZ (P:=fun us=>bO _ ⟨us,[]⟩=aN (b_ _ us)) hl fun _=>rfl) fun f fd a F=>MC F T  I_NoRing I_NoReach I_NoPosts I_NoMany I_NoFolk I_NoWord I_NoLine I_NoWay I_NoTable I_NoPost I_NoName I_NoText I_NoThing
 have H_l_which:∀ base:az,bN l.prog w K mg base 2 "_law_which" ["_law_kept"] .cl rA:=fun base=>d39.ok X G (fun _ _ _ _ _ _ us hl=>dZ (P:=fun us=>bO _ ⟨us,[]⟩=aN (b_ _ us)) hl fun _=>rfl) fun f fd a F=>MJ F T (H_l_classes base) I_ValueError
 have H_l_whole:∀ base:az,bN l.prog w K mg base 1 "_law_whole" ["_law_found"] .cl rB:=fun base=>d40.ok X G (fun _ _ _ _ _ _ us hl=>dZ (P:=fun us=>bO _ ⟨us,[]⟩=aN (b_ _ us)) hl fun _=>rfl) fun f fd a F=>MK F T 
 have H_l_refused:∀ base:az,bN l.prog w K mg base 9 "_law_refused" ["_law_desk","_law_line","_law_due","_law_field_here"] .cl gG:=fun base=>d41.ok X G (fun _ _ _ _ _ _ us hl=>LD (P:=fun us=>bO _ ⟨us,[]⟩=aN (b_ _ us)) hl fun _ _ _ _=>rfl) fun f fd a F=>MH F T (H_l_field base) (H_v_tell base) (H_l_which base) (H_l_whole base) P_PostError
 have H_l_text:∀ base:az,bN l.prog w K mg base 1 "_law_text" ["_law_folk_here"] .cl iW:=fun base=>d42.ok X G (fun _ _ _ _ _ _ us hl=>dZ (P:=fun us=>bO _ ⟨us,[]⟩=aN (b_ _ us)) hl fun _=>rfl) fun f fd a F=>MI F T 
 exact d43.law X G hfa (fun _ _ _ _ _ _ s v=>.of_eq rfl) fun base f fd F=>ML F T (H_l_digits base) (H_w_init base) (H_l_lines base) (H_l_folk base) (H_w_tell base) (H_l_refused base) (H_v_tell base) (H_l_text base)
theorem Td:gu PySem.Challenge.rw_nearposts_k61_what_a_desk_refuses.prog=(["rising_unlike","places_by_size","place_of_least"]:List Str):=by decide +kernel
theorem walk {l:Bk}{q:aQ}{loose:List Str}{XP:(Str->Option ah)->az->Prop}{YP:aM->az->Prop}{d:DefRec}{K:r6->ao}(hn:l.most=some 63)(hdf:d.params.defaults=[])(hq:∀ y∈gu l.prog,((t8 q).find? fun e=>e.name==y).isSome=true)(hTK:∀ (w:aM) (y:Str) (c p:af),y∈gu l.prog->kQ (K w.params) y=some (c,p)->(K w.params).lookup p=none)
  (hY:∀ (w:aM) (h:az),YP w h->(K w.params).In h)
  (F:∀ (w:aM) (mg:Str->Option ah) (fa:af) (h:az),(K w.params).In h->h.Ns a_ mg->mg d.name=some (.ref fa) ->
   ∃ fd:aY,(∀ (s:ar) (u:ah),jz s fd ⟨[u],[]⟩ [("_law_script",u)])∧∀ base:az,(K w.params).In base->base.Ns a_ mg->aW l.prog w (K w.params) mg base bx 10 fa fd ["_law_script"] (cx (K w.params) .cl o6)) :
  PySem.W.WalkO q loose XP YP l.row.toRowW d [] (fun f vs=>BB f vs):=
 L2.Sj (n:=63) (k:=10) (x:="_law_script") (CX:=fun _=>bx) (sp:=fun w=>cx (K w.params) .cl o6) hn (by decide) hdf ⟨rfl,by decide,by decide,rfl⟩ hY hq hTK F (fun _ H a ns hl hS=>⟨fun _=>False,[.list (ns.map .int)],.bool true,fun _ z=>z.elim,by rw[JB];exact .cons (.lst hS (aD.ints ns)) .nil,main ns hl,fun v as H' _ _ D=>iK D.den⟩) fun _ _ _ _ _ z=>z
end NW
open PySem PySem.W PyProof.Rows
theorem PySem.W.Fast.tw14800742558084070295:True:=trivial
theorem PySem.W.Fast.tw3303799433080456422:True:=trivial
theorem PySem.W.Fast.tw4255824490374003348:True:=trivial
theorem PySem.W.Fast.tw1577464118169253330:True:=trivial
theorem PySem.W.Fast.tw6271213448148916300:True:=trivial
theorem PySem.W.Fast.tw4694568987401649544:True:=trivial
theorem PySem.W.Fast.tw10287488341384310635:True:=trivial
theorem PySem.W.Fast.tw6218170845263726459:True:=trivial
theorem PySem.W.Fast.tw7920528185093438022:True:=trivial
theorem PySem.W.Fast.tw1170235580573888441:True:=trivial
theorem PySem.W.Fast.tw6605487254982241585:True:=trivial
theorem PySem.W.Fast.tw15151422158531729565:True:=trivial
theorem PySem.W.Fast.tw1361107651640318236:True:=trivial
theorem PySem.W.Fast.tw8728712760080847905:True:=trivial
theorem PySem.W.Fast.tw7239082760695361396:True:=trivial
theorem PySem.W.Fast.tw853804787376757778:True:=trivial
theorem PySem.W.Fast.tw2638809233251521440:True:=trivial
theorem PySem.W.Fast.tw16518402765293456072:True:=trivial
theorem PySem.W.Fast.tw15951491216461055768:True:=trivial
theorem PySem.W.Fast.tw8337384100823157850:True:=trivial
theorem PySem.W.Fast.tw11203131821174525198:True:=trivial
theorem PySem.W.Fast.tw12283426379963847277:True:=trivial
theorem PySem.W.Fast.tw15766266836742038759:True:=trivial
theorem PySem.W.Fast.tw9906743853106883473:True:=trivial
theorem PySem.W.Fast.tw3927731078703365710:True:=trivial
theorem PySem.W.Fast.tw4215279490036160668:True:=trivial
set_option maxRecDepth 100000 in
set_option maxHeartbeats 0 in
theorem PySem.Challenge.cw_nearposts_k61_what_a_desk_refuses_holds : PySem.Challenge.rw_nearposts_k61_what_a_desk_refuses.Holds := by
  w_on; o_law; k_head; (case hw=>w_witness2)
  k_fill
  refine NW.walk (l:=PySem.Challenge.rw_nearposts_k61_what_a_desk_refuses) rfl rfl ?Q ?K (fun w h Y=>PySem.W.km_in_of Y) ?F
  case Q=>exact L2.Tg (by rw [NW.Td]; kernel_rfl)
  case K=>exact fun w=>L2.Tf (by rw [NW.Td]; kernel_rfl)
  case F=>
    intro w mg fa h KX G hmg
    refine' NW.all_mk KX G hmg ?e_NoLine ?e_NoMany ?e_NoWord ?c_LETTERS ?c_FIGURES ?kd_WORD_COUNTS ?xa_NoFolk ?xa_NoText ?xa_NoName ?x_all ?fw_fields ?d0 ?w1 ?d2 ?d3 ?d4 ?d5 ?d6 ?m7 ?d8 ?d9 ?d10 ?d11 ?d12 ?d13 ?m14 ?d15 ?m16 ?m17 ?d18 ?d19 ?d20 ?d21 ?d22 ?d23 ?d24 ?d25 ?d26 ?d27 ?d28 ?d29 ?d30 ?d31 ?d32 ?d33 ?m34 ?m35 ?m36 ?m37 ?d38 ?d39 ?d40 ?d41 ?d42 ?d43 ?z_all
    (case e_NoLine=>refine' L2.o2.mk _ ?en (L2.mh.of ?el ?ee ?et ?eo ?ei); (case en=>k_is); (case el=>k_is); (case ee=>rfl); (case et=>kernel_rfl); (case eo=>kernel_rfl); (case ei=>kernel_rfl))
    (case e_NoMany=>refine' L2.o2.mk _ ?en (L2.mh.of ?el ?ee ?et ?eo ?ei); (case en=>k_is); (case el=>k_is); (case ee=>rfl); (case et=>kernel_rfl); (case eo=>kernel_rfl); (case ei=>kernel_rfl))
    (case e_NoWord=>refine' L2.o2.mk _ ?en (L2.mh.of ?el ?ee ?et ?eo ?ei); (case en=>k_is); (case el=>k_is); (case ee=>rfl); (case et=>kernel_rfl); (case eo=>kernel_rfl); (case ei=>kernel_rfl))
    (case c_LETTERS=>refine' L2.pM.of ?ct; (case ct=>k_is))
    (case c_FIGURES=>refine' L2.pM.of ?ct; (case ct=>k_is))
    (case kd_WORD_COUNTS=>refine' L2.kF.of 408 ?ka ?kl ?kc ?kd ?ks ?kt ?ke ?kn ?km; (case ka=>k_is); (case kl=>k_is); (case kc=>rfl); (case kd=>rfl); (case ks=>rfl); (case kt=>rfl); (case ke=>exact ⟨rfl,⟨_,rfl⟩,⟨_,rfl⟩,rfl,⟨_,rfl⟩,⟨_,rfl⟩,rfl,⟨_,rfl⟩,⟨_,rfl⟩,rfl,⟨_,rfl⟩,⟨_,rfl⟩,rfl,⟨_,rfl⟩,⟨_,rfl⟩,rfl,⟨_,rfl⟩,⟨_,rfl⟩,rfl,⟨_,rfl⟩,⟨_,rfl⟩,rfl,⟨_,rfl⟩,⟨_,rfl⟩,rfl,⟨_,rfl⟩,⟨_,rfl⟩,trivial⟩); (case kn=>decide +kernel); (case km=>decide))
    (case xa_NoFolk=>refine' L2.kS.mk 116 113 24 _ ⟨?xn,L2.sj.of ?xl ?xe ?xt ?xo ?xi⟩ (L2.Tc ?xf ?xc ?xk) ?xg ⟨?xs,?xv,?xw⟩ ?xb ?xr ?xd ?xp; (case xn=>k_is); (case xl=>k_is); (case xe=>rfl); (case xt=>kernel_rfl); (case xo=>kernel_rfl); (case xi=>k_is); (case xf=>k_is); (case xc=>k_is); (case xk=>k_is); (case xg=>kernel_rfl); (case xs=>kernel_rfl); (case xv=>kernel_rfl); (case xw=>kernel_rfl); (case xb=>k_is); (case xr=>kernel_rfl); (case xd=>kernel_rfl); (case xp=>kernel_rfl))
    (case xa_NoText=>refine' L2.kS.mk 211 208 24 _ ⟨?xn,L2.sj.of ?xl ?xe ?xt ?xo ?xi⟩ (L2.Tc ?xf ?xc ?xk) ?xg ⟨?xs,?xv,?xw⟩ ?xb ?xr ?xd ?xp; (case xn=>k_is); (case xl=>k_is); (case xe=>rfl); (case xt=>kernel_rfl); (case xo=>kernel_rfl); (case xi=>k_is); (case xf=>k_is); (case xc=>k_is); (case xk=>k_is); (case xg=>kernel_rfl); (case xs=>kernel_rfl); (case xv=>kernel_rfl); (case xw=>kernel_rfl); (case xb=>k_is); (case xr=>kernel_rfl); (case xd=>kernel_rfl); (case xp=>kernel_rfl))
    (case xa_NoName=>refine' L2.kS.mk 230 227 24 _ ⟨?xn,L2.sj.of ?xl ?xe ?xt ?xo ?xi⟩ (L2.Tc ?xf ?xc ?xk) ?xg ⟨?xs,?xv,?xw⟩ ?xb ?xr ?xd ?xp; (case xn=>k_is); (case xl=>k_is); (case xe=>rfl); (case xt=>kernel_rfl); (case xo=>kernel_rfl); (case xi=>k_is); (case xf=>k_is); (case xc=>k_is); (case xk=>k_is); (case xg=>kernel_rfl); (case xs=>kernel_rfl); (case xv=>kernel_rfl); (case xw=>kernel_rfl); (case xb=>k_is); (case xr=>kernel_rfl); (case xd=>kernel_rfl); (case xp=>kernel_rfl))
    (case x_all=>kernel_rfl)
    (case fw_fields=>refine' L2.rK.mk 517 ?qa ?q5 ?q6 ?q7 ?q8 ?q9; (case qa=>k_is); (case q5=>kernel_rfl); (case q6=>kernel_rfl); (case q7=>kernel_rfl); (case q8=>k_is); (case q9=>k_is))
    (case d0=>refine' L2.FnAt.mk _ _ ?a (L2.Tc ?l ?c ?k); (case a=>k_is); (case l=>k_is); (case c=>k_is); (case k=>k_is))
    (case w1=>refine' L2.rf.mk 517 479 _ ?qa ?q1 ?q2 ?q3 ?q4 (L2.Tc ?ql ?qc ?qk); (case qa=>k_is); (case q1=>kernel_rfl); (case q2=>k_is); (case q3=>kernel_rfl); (case q4=>kernel_rfl); (case ql=>k_is); (case qc=>k_is); (case qk=>k_is))
    (case d2=>refine' L2.FnAt.mk _ _ ?a (L2.Tc ?l ?c ?k); (case a=>k_is); (case l=>k_is); (case c=>k_is); (case k=>k_is))
    (case d3=>refine' L2.FnAt.mk _ _ ?a (L2.Tc ?l ?c ?k); (case a=>k_is); (case l=>k_is); (case c=>k_is); (case k=>k_is))
    (case d4=>refine' L2.FnAt.mk _ _ ?a (L2.Tc ?l ?c ?k); (case a=>k_is); (case l=>k_is); (case c=>k_is); (case k=>k_is))
    (case d5=>refine' L2.FnAt.mk _ _ ?a (L2.Tc ?l ?c ?k); (case a=>k_is); (case l=>k_is); (case c=>k_is); (case k=>k_is))
    (case d6=>refine' L2.FnAt.mk _ _ ?a (L2.Tc ?l ?c ?k); (case a=>k_is); (case l=>k_is); (case c=>k_is); (case k=>k_is))
    (case m7=>refine' L2.MethAt.mk 517 486 _ ?qa ?q5 ?q6 ?q7 ?q8 ?m1 ?m2 ?m3 (L2.Tc ?ql ?qc ?qk); (case qa=>k_is); (case q5=>kernel_rfl); (case q6=>kernel_rfl); (case q7=>kernel_rfl); (case q8=>k_is); (case m1=>k_is); (case m2=>kernel_rfl); (case m3=>kernel_rfl); (case ql=>k_is); (case qc=>k_is); (case qk=>k_is))
    (case d8=>refine' L2.FnAt.mk _ _ ?a (L2.Tc ?l ?c ?k); (case a=>k_is); (case l=>k_is); (case c=>k_is); (case k=>k_is))
    (case d9=>refine' L2.FnAt.mk _ _ ?a (L2.Tc ?l ?c ?k); (case a=>k_is); (case l=>k_is); (case c=>k_is); (case k=>k_is))
    (case d10=>refine' L2.FnAt.mk _ _ ?a (L2.Tc ?l ?c ?k); (case a=>k_is); (case l=>k_is); (case c=>k_is); (case k=>k_is))
    (case d11=>refine' L2.FnAt.mk _ _ ?a (L2.Tc ?l ?c ?k); (case a=>k_is); (case l=>k_is); (case c=>k_is); (case k=>k_is))
    (case d12=>refine' L2.FnAt.mk _ _ ?a (L2.Tc ?l ?c ?k); (case a=>k_is); (case l=>k_is); (case c=>k_is); (case k=>k_is))
    (case d13=>refine' L2.FnAt.mk _ _ ?a (L2.Tc ?l ?c ?k); (case a=>k_is); (case l=>k_is); (case c=>k_is); (case k=>k_is))
    (case m14=>refine' L2.MethAt.mk 517 493 _ ?qa ?q5 ?q6 ?q7 ?q8 ?m1 ?m2 ?m3 (L2.Tc ?ql ?qc ?qk); (case qa=>k_is); (case q5=>kernel_rfl); (case q6=>kernel_rfl); (case q7=>kernel_rfl); (case q8=>k_is); (case m1=>k_is); (case m2=>kernel_rfl); (case m3=>kernel_rfl); (case ql=>k_is); (case qc=>k_is); (case qk=>k_is))
    (case d15=>refine' L2.FnAt.mk _ _ ?a (L2.Tc ?l ?c ?k); (case a=>k_is); (case l=>k_is); (case c=>k_is); (case k=>k_is))
    (case m16=>refine' L2.MethAt.mk 517 500 _ ?qa ?q5 ?q6 ?q7 ?q8 ?m1 ?m2 ?m3 (L2.Tc ?ql ?qc ?qk); (case qa=>k_is); (case q5=>kernel_rfl); (case q6=>kernel_rfl); (case q7=>kernel_rfl); (case q8=>k_is); (case m1=>k_is); (case m2=>kernel_rfl); (case m3=>kernel_rfl); (case ql=>k_is); (case qc=>k_is); (case qk=>k_is))
    (case m17=>refine' L2.MethAt.mk 517 514 _ ?qa ?q5 ?q6 ?q7 ?q8 ?m1 ?m2 ?m3 (L2.Tc ?ql ?qc ?qk); (case qa=>k_is); (case q5=>kernel_rfl); (case q6=>kernel_rfl); (case q7=>kernel_rfl); (case q8=>k_is); (case m1=>k_is); (case m2=>kernel_rfl); (case m3=>kernel_rfl); (case ql=>k_is); (case qc=>k_is); (case qk=>k_is))
    (case d18=>refine' L2.FnAt.mk _ _ ?a (L2.Tc ?l ?c ?k); (case a=>k_is); (case l=>k_is); (case c=>k_is); (case k=>k_is))
    (case d19=>refine' L2.FnAt.mk _ _ ?a (L2.Tc ?l ?c ?k); (case a=>k_is); (case l=>k_is); (case c=>k_is); (case k=>k_is))
    (case d20=>refine' L2.FnAt.mk _ _ ?a (L2.Tc ?l ?c ?k); (case a=>k_is); (case l=>k_is); (case c=>k_is); (case k=>k_is))
    (case d21=>refine' L2.FnAt.mk _ _ ?a (L2.Tc ?l ?c ?k); (case a=>k_is); (case l=>k_is); (case c=>k_is); (case k=>k_is))
    (case d22=>refine' L2.FnAt.mk _ _ ?a (L2.Tc ?l ?c ?k); (case a=>k_is); (case l=>k_is); (case c=>k_is); (case k=>k_is))
    (case d23=>refine' L2.FnAt.mk _ _ ?a (L2.Tc ?l ?c ?k); (case a=>k_is); (case l=>k_is); (case c=>k_is); (case k=>k_is))
    (case d24=>refine' L2.FnAt.mk _ _ ?a (L2.Tc ?l ?c ?k); (case a=>k_is); (case l=>k_is); (case c=>k_is); (case k=>k_is))
    (case d25=>refine' L2.FnAt.mk _ _ ?a (L2.Tc ?l ?c ?k); (case a=>k_is); (case l=>k_is); (case c=>k_is); (case k=>k_is))
    (case d26=>refine' L2.FnAt.mk _ _ ?a (L2.Tc ?l ?c ?k); (case a=>k_is); (case l=>k_is); (case c=>k_is); (case k=>k_is))
    (case d27=>refine' L2.FnAt.mk _ _ ?a (L2.Tc ?l ?c ?k); (case a=>k_is); (case l=>k_is); (case c=>k_is); (case k=>k_is))
    (case d28=>refine' L2.FnAt.mk _ _ ?a (L2.Tc ?l ?c ?k); (case a=>k_is); (case l=>k_is); (case c=>k_is); (case k=>k_is))
    (case d29=>refine' L2.FnAt.mk _ _ ?a (L2.Tc ?l ?c ?k); (case a=>k_is); (case l=>k_is); (case c=>k_is); (case k=>k_is))
    (case d30=>refine' L2.FnAt.mk _ _ ?a (L2.Tc ?l ?c ?k); (case a=>k_is); (case l=>k_is); (case c=>k_is); (case k=>k_is))
    (case d31=>refine' L2.FnAt.mk _ _ ?a (L2.Tc ?l ?c ?k); (case a=>k_is); (case l=>k_is); (case c=>k_is); (case k=>k_is))
    (case d32=>refine' L2.FnAt.mk _ _ ?a (L2.Tc ?l ?c ?k); (case a=>k_is); (case l=>k_is); (case c=>k_is); (case k=>k_is))
    (case d33=>refine' L2.FnAt.mk _ _ ?a (L2.Tc ?l ?c ?k); (case a=>k_is); (case l=>k_is); (case c=>k_is); (case k=>k_is))
    (case m34=>refine' L2.MethAt.mk 517 486 _ ?qa ?q5 ?q6 ?q7 ?q8 ?m1 ?m2 ?m3 (L2.Tc ?ql ?qc ?qk); (case qa=>k_is); (case q5=>kernel_rfl); (case q6=>kernel_rfl); (case q7=>kernel_rfl); (case q8=>k_is); (case m1=>k_is); (case m2=>kernel_rfl); (case m3=>kernel_rfl); (case ql=>k_is); (case qc=>k_is); (case qk=>k_is))
    (case m35=>refine' L2.MethAt.mk 517 493 _ ?qa ?q5 ?q6 ?q7 ?q8 ?m1 ?m2 ?m3 (L2.Tc ?ql ?qc ?qk); (case qa=>k_is); (case q5=>kernel_rfl); (case q6=>kernel_rfl); (case q7=>kernel_rfl); (case q8=>k_is); (case m1=>k_is); (case m2=>kernel_rfl); (case m3=>kernel_rfl); (case ql=>k_is); (case qc=>k_is); (case qk=>k_is))
    (case m36=>refine' L2.MethAt.mk 517 500 _ ?qa ?q5 ?q6 ?q7 ?q8 ?m1 ?m2 ?m3 (L2.Tc ?ql ?qc ?qk); (case qa=>k_is); (case q5=>kernel_rfl); (case q6=>kernel_rfl); (case q7=>kernel_rfl); (case q8=>k_is); (case m1=>k_is); (case m2=>kernel_rfl); (case m3=>kernel_rfl); (case ql=>k_is); (case qc=>k_is); (case qk=>k_is))
    (case m37=>refine' L2.MethAt.mk 517 514 _ ?qa ?q5 ?q6 ?q7 ?q8 ?m1 ?m2 ?m3 (L2.Tc ?ql ?qc ?qk); (case qa=>k_is); (case q5=>kernel_rfl); (case q6=>kernel_rfl); (case q7=>kernel_rfl); (case q8=>k_is); (case m1=>k_is); (case m2=>kernel_rfl); (case m3=>kernel_rfl); (case ql=>k_is); (case qc=>k_is); (case qk=>k_is))
    (case d38=>refine' L2.FnAt.mk _ _ ?a (L2.Tc ?l ?c ?k); (case a=>k_is); (case l=>k_is); (case c=>k_is); (case k=>k_is))
    (case d39=>refine' L2.FnAt.mk _ _ ?a (L2.Tc ?l ?c ?k); (case a=>k_is); (case l=>k_is); (case c=>k_is); (case k=>k_is))
    (case d40=>refine' L2.FnAt.mk _ _ ?a (L2.Tc ?l ?c ?k); (case a=>k_is); (case l=>k_is); (case c=>k_is); (case k=>k_is))
    (case d41=>refine' L2.FnAt.mk _ _ ?a (L2.Tc ?l ?c ?k); (case a=>k_is); (case l=>k_is); (case c=>k_is); (case k=>k_is))
    (case d42=>refine' L2.FnAt.mk _ _ ?a (L2.Tc ?l ?c ?k); (case a=>k_is); (case l=>k_is); (case c=>k_is); (case k=>k_is))
    (case d43=>refine' L2.FnAt.mk _ _ ?a (L2.Tc ?l ?c ?k); (case a=>k_is); (case l=>k_is); (case c=>k_is); (case k=>k_is))
    (case z_all=>kernel_rfl)

