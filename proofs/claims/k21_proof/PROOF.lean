import PyProof.Rows.All
import Wide.All
import OpenK.AllK
import Wide.FinOn
import Lean
import PyProof.EqAt
import PyProof.EqKinds
import PyProof.TupleCall
import KE.KRevIter
import PyProof.SumWalkG
import PySem.Challenge.RW_twinshelves_k21_parcels_opened
open Array renaming length_toList → W08
open Bool renaming and_eq_true → WU, false_ne_true → WX, eq_iff_iff → VV, false_and → W0j
open Int renaming reduceToNat → W8, reduceNeg → Wc, reducePow → Wd, reduceLT → Wg, reduceLE → Wh, emod_lt_of_pos → Vr, emod_nonneg → VE, toNat_of_nonneg → VM, toNat_natCast → W0p
open List renaming map_cons → W5, map_nil → We, size_toArray → Wl, getElem?_eq_some_iff → Wn, length_map → Wp, getElem?_eq_getElem → Wq, length_append → Wx, mem_cons → Wy, not_mem_nil → WA, mem_append_right → WB, getElem?_append_left → WE, getElem?_concat_length → WF, mem_cons_of_mem → WG, getElem?_append_right → WI, mem_cons_self → WJ, length_cons → WP, getElem?_map → WS, length_take → WW, range → WY, getElem?_take_of_lt → WZ, lookup_cons → V3, mem_append → V6, length → V7, mem_of_getElem? → V9, all_eq_true → Vd, getElem?_set_ne → Ve, getElem?_replicate → Vf, replicate → Vg, find?_cons → Vj, getElem?_set_self → Vk, length_drop → Vn, length_replicate → Vo, zip_cons_cons → Vq, getD → Vv, map_map → Vx, length_zip → VD, append_assoc → VG, sum_cons → VH, append_nil → VP, all_cons → VU, mem_singleton → VW, take_of_length_le → VY, mem_range → W00, mem_append_left → W03, filterMap_cons → W07, nodup_cons → W09, mem_map → W0i
open Nat renaming reduceLeDiff → W6, reduceAdd → Wa, reduceSub → Wb, reduceLT → Wf, le_refl → Wu, lt_of_lt_of_le → Wv, le_trans → Wz, ne_of_lt → WD, lt_irrefl → Vb, le_of_not_lt → VA, ne_of_gt → W02, lt_succ_of_lt → W0q
open Option renaming bind_eq_some_iff → W0, map_some → W7, map_eq_some_iff → Wi, bind_some → V4, isSome_iff_exists → W0o
open Option.some renaming inj → WM
open PyProof.Rows renaming slot_tuple_getitem → WV, callWith_type1 → VC
open PySem renaming wpAny_bind → W9, sizeLine → Wk, wpAny_pure → Wm, starEach → Wr, mainGlobals → Wt, bootBuiltins → Ww, wpAny_callSpecial?_slot → V0, wpAny_field → V8, mem_of_lookup → Va, wpAny_newObj_type → Vi, wpAny_mono → Vm, wpAny_setField_rec → Vp, wpAny_seqItems → Vt, wpAny_getItem_str_slice → Vy, wpAny_call_entry → Vz, wpAny_pyIter_tuple → VB, wpAny_pyIter_list → VF, wpAny_passesOwn → VO, wpAny_Call_Name_kw → VQ, wpAny_callSpecial?_none → VT, sizeLine_eq → VZ, wpAny_updateSeq_pair → W04, post_val_or_str → W0d, wpAny_truthy_bool → W0l
open PySem.Builtin.Slice renaming slicePlaces → Vs, sliceAdjust → VI, sliceApplied → W0g
open PySem.Builtin.SmallTypes renaming nextOf → V2, ownedTupleIsFree → V5, ownedTupleHandOut → VJ
open PySem.Builtin.Tuple renaming tupleExact → Vu, tupleItemsOf → W0h
open PySem.Calls renaming Name_function_global → W0f
open PySem.F renaming slot_tuple_iterator_next → Vl, args_tuple_add_2 → VN, entry_tuple_add → VR, slot_dict_len → VS, slot_tuple_add → VX, args_tuple_iterator_next_1 → W06, entry_tuple_iterator_next → W0a, slot_zip_next → W0b
open PySem.Heap renaming get?_push_of_some → Wj, lt_size → Wo, get?_push_size → Ws, size_push → Vh, SameBut → Vw
open PySem.Heap.IsTuple renaming extBut → W0e
open PySem.Paired renaming length → W05
open PySem.SeqAt renaming RcNeAt → WH, EqAt → WK, RcAt → WR
open PySem.Str renaming ofString → W3
open PySem.Txt renaming slice → VL, join → W01, mul → W0c
open PySem.W renaming Frag → W4, nsIn → WC, keepIn → WL, fnOf → WN, codeIn → WO, mg_none_of → WQ, mg_of → WT, kia_one → V1, kitOne → Vc, methodObj → W0k, kitx_list → W0m, kitx_dict → W0n
noncomputable section
theorem Ua {a b:Prop}(x:a)(y:b):a∧b:=⟨x,y⟩
set_option Elab.async false
set_option linter.all false
set_option maxRecDepth 100000
namespace L2
open PySem PySem.Spec PyProof.Rows
abbrev Key:=Sum Int Str
def UI:Key->Value->Bool
 | .inl k,v=>Value.isInt k v
 | .inr x,v=>Value.isStrOf x v
def Hs (w:World):Key->Int
 | .inl k=>hashInt k
 | .inr x=>hashStr w x
theorem Zq:∀{k:Key} {v:Value},UI k v=true->(∃i t,k=Sum.inl i/\v=Value.int i t)\/(∃x t,k=Sum.inr x/\v=Value.str x t)
 | .inl i,v,h=>by
  obtain⟨t,e⟩:=Value.isInt_shape (k:=i) (v:=v) h
  exact .inl ⟨i,t,rfl,e⟩
 | .inr x,v,h=>by
  obtain⟨t,e⟩:=Value.isStrOf_shape (x:=x) (v:=v) h
  exact .inr ⟨x,t,rfl,e⟩
theorem Bd (i:Int)(t:Tok):UI (.inl i) (.int i t)=true:=by simp [UI,Value.isInt]
theorem Bc (x:Str)(t:Tok):UI (.inr x) (.str x t)=true:=by simp [UI,Value.isStrOf]
theorem F1 (a b:Int):decide ((Sum.inl a:Key)=Sum.inl b)=(a == b):=by
 by_cases e:a=b
 ·subst e;simp
 ·have h:¬(Sum.inl a:Key)=Sum.inl b:=λq=>e (Sum.inl.inj q)
  rw [decide_eq_false h]
  exact (beq_eq_false_iff_ne.mpr e).symm
theorem LY (a b:Str):decide ((Sum.inr a:Key)=Sum.inr b)=decide (a=b):=by
 by_cases e:a=b
 ·subst e;simp
 ·have h:¬(Sum.inr a:Key)=Sum.inr b:=λq=>e (Sum.inr.inj q)
  rw [decide_eq_false h,decide_eq_false e]
theorem F0 (a:Int)(b:Str):decide ((Sum.inl a:Key)=Sum.inr b)=false:=decide_eq_false (λq=>nomatch q)
theorem LZ (a:Str)(b:Int):decide ((Sum.inr a:Key)=Sum.inl b)=false:=decide_eq_false (λq=>nomatch q)
def ZX (prog:Program)(w:World):PySem.KeyKind prog w Key where
 is:=UI
 hash:=Hs w
 inj:=λv a b ha hb=>by
  rcases Zq ha with ⟨i,t,rfl,rfl⟩|⟨x,t,rfl,rfl⟩
  ·rcases Zq hb with ⟨j,u,rfl,e⟩|⟨y,u,rfl,e⟩
   ·injection e with e1 _;rw [e1]
   ·exact nomatch e
  ·rcases Zq hb with ⟨j,u,rfl,e⟩|⟨y,u,rfl,e⟩
   ·exact nomatch e
   ·injection e with e1 _;rw [e1]
 byValue:=λk v h=>by
  rcases Zq h with ⟨i,t,rfl,rfl⟩|⟨x,t,rfl,rfl⟩<;>rfl
 pyHash:=λhv h=>by
  rcases Zq hv with ⟨i,t,rfl,rfl⟩|⟨x,t,rfl,rfl⟩
  ·exact wpAny_pyHash_int h
  ·exact wpAny_pyHash_str h
 eqBool:=λhu hv h=>by
  rcases Zq hu with ⟨i,t,rfl,rfl⟩|⟨x,t,rfl,rfl⟩
  ·rcases Zq hv with ⟨j,u,rfl,rfl⟩|⟨y,u,rfl,rfl⟩
   ·rw [F1] at h;exact wpAny_eqBool_int h
   ·rw [F0] at h;exact WK.int_str i t y u _ _ _ _ h
  ·rcases Zq hv with ⟨j,u,rfl,rfl⟩|⟨y,u,rfl,rfl⟩
   ·rw [LZ] at h;exact WK.str_int x t j u _ _ _ _ h
   ·rw [LY] at h;exact wpAny_eqBool_str h
 «strs»:=λk x t v h=>by
  rcases Zq h with ⟨i,u,rfl,e⟩|⟨y,u,rfl,e⟩
  ·exact nomatch e
  ·injection e with e1 _
   subst e1
   cases v<;>rfl
theorem UC (prog:Program)(w:World)(i:Int)(t:Tok):(ZX prog w).is (.inl i) (.int i t)=true:=Bd i t
theorem UB (prog:Program)(w:World)(x:Str)(t:Tok):(ZX prog w).is (.inr x) (.str x t)=true:=Bc x t
end L2
namespace L2
open PySem PySem.Spec PyProof.Rows
inductive V where
 |non|bl (b:Bool)|int (i:Int)|str (x:Str)|byt (b:Array UInt8)|flt (b:UInt64)|ref (a:Addr)|ty (n:String)
 deriving DecidableEq
def ZS:V->Value->Prop
 | .non,u=>u=Value.none
 | .bl b,u=>u=Value.bool b
 | .int i,u=>∃t,u=Value.int i t
 | .str x,u=>∃t,u=Value.str x t
 | .byt b,u=>∃t,u=Value.bytes b t
 | .flt b,u=>∃t,u=Value.float b t
 | .ref a,u=>u=Value.ref a
 | .ty n,u=>u=Value.type n
abbrev ZQ:List V->List Value->Prop:=Paired ZS
theorem ZQ.length {xs:List V}{us:List Value}(r:ZQ xs us):xs.length=us.length:=W05 r
theorem ZQ.get:∀{xs:List V} {us:List Value} {i:Nat} {x:V},ZQ xs us->xs[i]? = some x->∃u,us[i]? = some u/\ZS x u
 |_,_,_,_,.nil,e=>by simp at e
 |_,_,0,_,.cons r _,e=>by simp at e;subst e;exact⟨_,rfl,r⟩
 |_,_,i+1,x,.cons _ t,e=>by
  obtain⟨u,h1,h2⟩:=ZQ.get (i:=i) (x:=x) t (by simpa using e)
  exact⟨u,by simpa using h1,h2⟩
theorem ZQ.append:∀{xs ys:List V} {us ws:List Value},ZQ xs us->ZQ ys ws->ZQ (xs++ys) (us++ws)
 |_,_,_,_,.nil,s=>s
 |_,_,_,_,.cons r t,s=>.cons r (ZQ.append t s)
theorem ZQ.take:∀{xs:List V} {us:List Value} (n:Nat),ZQ xs us->ZQ (xs.take n) (us.take n)
 |_,_,0,_=>.nil
 |_,_,_+1,.nil=>.nil
 |_,_,n+1,.cons r t=>.cons r (ZQ.take n t)
theorem ZQ.drop:∀{xs:List V} {us:List Value} (n:Nat),ZQ xs us->ZQ (xs.drop n) (us.drop n)
 |_,_,0,r=>r
 |_,_,_+1,.nil=>.nil
 |_,_,n+1,.cons _ t=>ZQ.drop n t
def NX:Option V->Option Value->Prop
 |some v,some u=>ZS v u
 |none,none=>True
 |_,_=>False
def KV {κ:Type}:List (κ×V)->List (κ×Value)->Prop:=Paired λ(p:κ×V) (q:κ×Value)=>p.1=q.1/\ZS p.2 q.2
def kV:Key->V
 | .inl i=>.int i
 | .inr x=>.str x
inductive HO where
 /-- a list -/
 |lst (xs:List V)
 /-- a tuple (never changes) -/
 |tup (xs:List V)
 /-- a dict whose keys are ints and texts;one whose keys are tuples of ints and texts (the empty one is both) -/
 |dK (kvs:List (Key×V))|dT (kvs:List (List Key×V))
 /-- a set of ints: its members,its size -/
 |set (S:Int->Bool) (n:Nat)
 /-- an instance of the class at C,its dict at dx,its attributes -/
 |ins (C dx:Addr) (fs:List (Str×V))
 /-- the dict of the instance at x -/
 |own (x:Addr)
 /-- the dict of an exception -/
 |xd (fs:List (Str×V))
 /-- a bound method,f of x -/
 |met (f x:Addr)
 /-- a range object lo,lo+1,.. below hi -/
 |rng (lo hi:Int)
 /-- a thing that is known to the object (the script;a dict while a loop walks it): read,never written while it is so -/
 |frz (o:Obj) (u:HO)
 /-- a code object's table -/
 |tbl (ps:Array Value)
 /-- any other thing,by what is true of its one object (a def of one's own: SetO a S n:=HO.ext λh=>..) -/
 |ext (φ:Heap->Prop)
abbrev Hp:=Addr->Option HO
def upd (H:Hp)(a:Addr)(o:HO):Hp:=λb=>if b=a then some o else H b
theorem Zg {H:Hp}{a:Addr}{o:HO}:upd H a o a=some o:=by unfold upd;rw [if_pos rfl]
theorem Zf {H:Hp}{a b:Addr}{o:HO}(h:b≠a):upd H a o b=H b:=by unfold upd;rw [if_neg h]
theorem KU {H:Hp}{a:Addr}{o u:HO}:upd (upd H a o) a u=upd H a u:=by
 funext b;unfold upd;split<;>rfl
theorem Jn {H:Hp}{a b:Addr}{o u:HO}(h:H a=some o)(h':H b=some u)(d:o≠u):a≠b:=by
 intro e;subst e;rw [h] at h';exact d (WM h')
theorem Zj {H:Hp}{a b:Addr}{o:HO}(h:H a=some o)(h':H b=none):a≠b:=by
 intro e;subst e;rw [h] at h';cases h'
def Pv (h:Heap)(a:Addr)(items:Array Value):Prop:=IsTup h a items/\∃o,h.get? a=some o/\o.dict=none
theorem Pv.new (h:Heap)(items:Array Value):Pv (h.push { cls:=.type "tuple",data:=.seq items }) h.objs.size items:=⟨IsTup.new h items,_,Ws _ rfl,rfl⟩
section
variable (P:Program) (w:World)
def ZE (H:Hp)(h:Heap)(a:Addr):HO->Prop
 | .lst xs=>xs.length≤Wk/\∃(its:List Value) (n:Nat),ZQ xs its/\h.get? a=some { cls:=.type "list",data:=.seq its.toArray n }
 | .tup xs=>xs.length≤Wk/\∃its:List Value,ZQ xs its/\Pv h a its.toArray
 | .dK kvs=>kvs.length≤Wk/\(a == sysModules)=false/\∃vs,KV kvs vs/\h.DictOf (ZX P w) a vs
 | .dT kvs=>kvs.length≤Wk/\(a == sysModules)=false/\∃xs:List (List Key×Addr×Value),
   Paired (λ(p:List Key×V) (q:List Key×Addr×Value)=>p.1=q.1/\H q.2.1=some (.tup (p.1.map kV))/\ZS p.2 q.2.2) kvs xs/\
   ∃o es ep,h.get? a=some o/\o.ExactDict/\o.data = .dict es ep/\es.toList=xs.map (entryOfKey (tupleKind (ZX P w)))/\(xs.map (·.1)).Nodup
 | .set S n=>h.SetOf (intKind P w) a S n
 | .ins C dx fs=>H dx=some (.own a)/\fs.length≤1000/\dx≠a/\h.get? a=some (PySem.W.instObj C dx)/\
   ∃mA,h.Ns1 dx mA/\(∀f,NX (fs.lookup f) (mA f))/\PySem.Within mA (fs.map (·.1))
 | .own _=>∃o,h.get? a=some o
 | .xd fs=>∃mA,h.Ns1 a mA/\∀f,NX (fs.lookup f) (mA f)
 | .rng lo hi=>∃t u v,h.get? a=some { cls:=.type "range",data:=.fields #[.int lo t,.int hi u,.int 1 v] }
 | .frz o u=>h.get? a=some o/\ZE H h a u
 | .tbl ps=>h.get? a=some { cls:=.none,data:=.fields ps }
 | .met f x=>h.get? a=some (W0k (.ref f) (.ref x))
 | .ext φ=>φ h/\(∃o,h.get? a=some o)/\∀h1 h2:Heap,φ h1->(∀o,h1.get? a=some o->h2.get? a=some o)->φ h2
def HOk (H:Hp)(h:Heap):Prop:=∀a o,H a=some o->ZE P w H h a o
end
section
variable {P:Program} {w:World} {H H':Hp} {h h':Heap} {a:Addr} {o:HO}
theorem ZE.lt (x:ZE P w H h a o):a<h.objs.size:=by
 cases o with
 |lst xs=>obtain⟨_,_,_,_,e⟩:=x;exact Wo e
 |tup xs=>obtain⟨_,_,_,p⟩:=x;exact p.1.lt
 |dK kvs=>obtain⟨_,_,_,_,o,_,_,e,_⟩:=x;exact Wo e
 |dT kvs=>obtain⟨_,_,_,_,o,_,_,e,_⟩:=x;exact Wo e
 |set S n=>obtain⟨o,_,_,_,e,_⟩:=x;exact Wo e
 |ins C dx fs=>obtain⟨_,_,_,e,_⟩:=x;exact Wo e
 |own y=>obtain⟨_,e⟩:=x;exact Wo e
 |xd fs=>obtain⟨_,⟨_,_,_,e,_⟩,_⟩:=x;exact Wo e
 |rng lo hi=>obtain⟨_,_,_,e⟩:=x;exact Wo e
 |frz ob u=>obtain⟨e,_⟩:=x;exact Wo e
 |tbl ps=>exact Wo (show h.get? a=some _ from x)
 |met f y=>exact Wo (show h.get? a=some _ from x)
 |ext φ=>obtain⟨_,⟨_,e⟩,_⟩:=x;exact Wo e
theorem Paired.mapP {α β:Type}{F G:α->β->Prop}:∀{l₁:List α} {l₂:List β},Paired F l₁ l₂->(∀a b,F a b->G a b)->Paired G l₁ l₂
 |_,_,.nil,_=>.nil
 |_,_,.cons r t,f=>.cons (f _ _ r) (Paired.mapP t f)
theorem ZE.stay (x:ZE P w H h a o)(k:∀b u,(b=a\/H b=some (.own a))->h.get? b=some u->h'.get? b=some u)
  (ho:∀b,H b=some (.own a)->H' b=some (.own a)) (ht:∀b xs,H b=some (.tup xs)->H' b=some (.tup xs)):ZE P w H' h' a o:=by
 induction o with
 |lst xs=>obtain⟨z,its,n,r,e⟩:=x;exact⟨z,its,n,r,k _ _ (.inl rfl) e⟩
 |tup xs=>obtain⟨z,its,r,⟨ob,e,c⟩,ob2,e2,c2⟩:=x;exact⟨z,its,r,⟨ob,k _ _ (.inl rfl) e,c⟩,ob2,k _ _ (.inl rfl) e2,c2⟩
 |dK kvs=>obtain⟨z,y,vs,r,ob,es,ep,e,c⟩:=x;exact⟨z,y,vs,r,ob,es,ep,k _ _ (.inl rfl) e,c⟩
 |dT kvs=>
  obtain⟨z,y,xs,r,ob,es,ep,e,c⟩:=x
  exact⟨z,y,xs,Paired.mapP r λp q z=>⟨z.1,ht _ _ z.2.1,z.2.2⟩,ob,es,ep,k _ _ (.inl rfl) e,c⟩
 |set S n=>obtain⟨ob,es,ep,t,e,c⟩:=x;exact⟨ob,es,ep,t,k _ _ (.inl rfl) e,c⟩
 |ins C dx fs=>
  obtain⟨d,z,ne,e,mA,⟨od,es,ep,e2,c⟩,r⟩:=x
  exact⟨ho _ d,z,ne,k _ _ (.inl rfl) e,mA,⟨od,es,ep,k _ _ (.inr d) e2,c⟩,r⟩
 |own y=>obtain⟨ob,e⟩:=x;exact⟨ob,k _ _ (.inl rfl) e⟩
 |xd fs=>obtain⟨mA,⟨od,es,ep,e,c⟩,r⟩:=x;exact⟨mA,⟨od,es,ep,k _ _ (.inl rfl) e,c⟩,r⟩
 |rng lo hi=>obtain⟨t,u,v,e⟩:=x;exact⟨t,u,v,k _ _ (.inl rfl) e⟩
 |frz ob u ih=>obtain⟨e,q⟩:=x;exact⟨k _ _ (.inl rfl) e,ih q⟩
 |tbl ps=>
  have e:h.get? a=some { cls:=.none,data:=.fields ps }:=x
  show h'.get? a=some { cls:=.none,data:=.fields ps }
  exact k a _ (.inl rfl) e
 |met f y=>
  have e:h.get? a=some (W0k (.ref f) (.ref y)):=x
  show h'.get? a=some (W0k (.ref f) (.ref y))
  exact k a _ (.inl rfl) e
 |ext φ=>obtain⟨p,⟨o,e⟩,st⟩:=x;exact⟨st _ _ p λo q=>k _ _ (.inl rfl) q,⟨o,k _ _ (.inl rfl) e⟩,st⟩
theorem HOk.lt (x:HOk P w H h)(e:H a=some o):a<h.objs.size:=(x a o e).lt
theorem HOk.fresh (x:HOk P w H h)(e:h.objs.size≤a):H a=none:=by
 cases q:H a with
 |none=>rfl
 |some u=>exact absurd (Wv (x.lt q) e) (Vb _)
theorem HOk.kept (x:HOk P w H h)(k:∀b u,h.get? b=some u->h'.get? b=some u):HOk P w H h':=λa o e=>
 (x a o e).stay (λb u _ q=>k b u q) (λ_ q=>q) λ_ _ q=>q
theorem HOk.laid (x:HOk P w H h)(k:∀b u,h.get? b=some u->h'.get? b=some u)(hp:h.objs.size≤a)(new:ZE P w (upd H a o) h' a o):HOk P w (upd H a o) h':=λb u e=>by
 have hn:=x.fresh hp
 by_cases hb:b=a
 ·subst hb;rw [Zg] at e;cases e;exact new
 ·rw [Zf hb] at e
  exact (x b u e).stay (λc v _ q=>k c v q) (λc q=>by rw [Zf (Zj q hn)];exact q) λc xs q=>by rw [Zf (Zj q hn)];exact q
end
def Rd (H:Hp)(a:Addr)(u:HO):Prop:=H a=some u\/∃o,H a=some (.frz o u)
theorem Rd.ok {P:Program}{w:World}{H:Hp}{h:Heap}{a:Addr}{u:HO}(r:Rd H a u)(x:HOk P w H h):ZE P w H h a u:=by
 rcases r with r|⟨o,r⟩
 ·exact x a u r
 ·obtain⟨_,q⟩:=x a _ r
  exact q
def Mut:Option HO->Prop
 |some (.lst _)=>True
 |some (.dK _)=>True
 |some (.dT _)=>True
 |some (.set _ _)=>True
 |some (.ins _ _ _)=>True
 |some (.ext _)=>True
 |_=>False
section
variable {P:Program} {w:World} {H:Hp} {h h':Heap} {x e:Addr} {o':HO}
theorem HOk.write (ok:HOk P w H h)(mu:Mut (H x))(he:e=x\/H e=some (.own x))(k:∀b u,b≠e->h.get? b=some u->h'.get? b=some u)(heo:∃u,h'.get? e=some u)
  (new:ZE P w (upd H x o') h' x o'):HOk P w (upd H x o') h':=λb u q=>by
 have nown:∀c y,H c=some (.own y)->c≠x:=λc y r z=>by subst z;rw [r] at mu;exact mu
 have ntup:∀c xs,H c=some (.tup xs)->c≠x:=λc xs r z=>by subst z;rw [r] at mu;exact mu
 by_cases hb:b=x
 ·subst hb;rw [Zg] at q;cases q;exact new
 ·rw [Zf hb] at q
  by_cases hbe:b=e
  ·have q':H b=some (.own x):=by
    rcases he with z|z
    ·exact absurd (hbe.trans z) hb
    ·rw [hbe];exact z
   rw [q] at q';cases q'
   obtain⟨v,hv⟩:=heo
   exact⟨v,by rw [hbe];exact hv⟩
  ·refine (ok b u q).stay (λc v hc r=>k c v ?_ r) (λc r=>by rw [Zf (nown c b r)];exact r) λc xs r=>by rw [Zf (ntup c xs r)];exact r
   rcases hc with rfl|hc
   ·exact hbe
   ·rintro rfl
    rcases he with z|z
    ·exact nown c b hc z
    ·rw [hc] at z;cases z;exact hb rfl
end
structure Un (fs ex:List Addr) (H H':Hp) (h h':Heap):Prop where
 keep:∀b o,h.get? b=some o->H b=none->b∉fs->b∉ex->h'.get? b=some o
 slot:∀b o,h.get? b=some o->H b=none->b∈fs->b∉ex->∃sl,h'.get? b=some { o with slots:=sl }
 free:∀b o,h.get? b=some o->H b=none->b∉ex->H' b=none
 there:∀b o,h.get? b=some o->b∉ex->∃o',h'.get? b=some o'
 tups:∀b xs,H b=some (.tup xs)->H' b=some (.tup xs)
 frzs:∀b o u,H b=some (.frz o u)->H' b=some (.frz o u)
 tbls:∀b ps,H b=some (.tbl ps)->∃more,H' b=some (.tbl (ps++more))
section
variable {fs fs' ex ex':List Addr} {H H1 H2:Hp} {h h1 h2 h':Heap} {a x e:Addr} {o:HO}
theorem Un.any (u:Un fs ex H H1 h h1){b:Addr}{ob:Obj}(q:h.get? b=some ob)(n:H b=none)(hx:b∉ex):∃sl,h1.get? b=some { ob with slots:=sl }:=by
 by_cases hb:b∈fs
 ·exact u.slot b ob q n hb hx
 ·exact⟨ob.slots,u.keep b ob q n hb hx⟩
theorem Un.kept (k:∀b u,h.get? b=some u->h'.get? b=some u):Un fs ex H H h h':=
 ⟨λb ob q _ _ _=>k b ob q,λb ob q _ _ _=>⟨ob.slots,k b ob q⟩,λ_ _ _ n _=>n,λb ob q _=>⟨ob,k b ob q⟩,λ_ _ q=>q,λ_ _ _ q=>q,λ_ ps q=>⟨#[],by rw [q];simp⟩⟩
theorem Un.refl:Un fs ex H H h h:=Un.kept λ_ _ q=>q
theorem Un.laid (k:∀b u,h.get? b=some u->h'.get? b=some u)(hp:h.objs.size≤a)(hn:H a=none):Un fs ex H (upd H a o) h h' where
 keep:=λb u q _ _ _=>k b u q
 slot:=λb u q _ _ _=>⟨u.slots,k b u q⟩
 free:=λb u q n _=>by rw [Zf (WD (Wv (Wo q) hp))];exact n
 there:=λb u q _=>⟨u,k b u q⟩
 tups:=λb xs q=>by rw [Zf (Zj q hn)];exact q
 frzs:=λb u xs q=>by rw [Zf (Zj q hn)];exact q
 tbls:=λb ps q=>⟨#[],by rw [Zf (Zj q hn),q];simp⟩
theorem Un.write (mu:Mut (H x))(he:e=x\/H e=some (.own x))(k:∀b u,b≠e->h.get? b=some u->h'.get? b=some u)(heo:∃u,h'.get? e=some u):Un fs ex H (upd H x o) h h':=by
 have hx:∀b,H b=none->b≠x:=λb n z=>by subst z;rw [n] at mu;exact mu
 have hb:∀b,H b=none->b≠e:=λb n z=>by
  subst z
  rcases he with r|r
  ·exact hx b n r
  ·rw [n] at r;cases r
 have hm:∀b u,H b=some u->¬Mut (some u)->b≠x:=λb u q nm z=>by subst z;rw [q] at mu;exact nm mu
 refine⟨λb u q n _ _=>k b u (hb b n) q,λb u q n _ _=>⟨u.slots,k b u (hb b n) q⟩,λb u q n _=>by rw [Zf (hx b n)];exact n,λb u q _=>?_,
  λb xs q=>by rw [Zf (hm b _ q λz=>z)];exact q,λb u xs q=>by rw [Zf (hm b _ q λz=>z)];exact q,λb ps q=>⟨#[],by rw [Zf (hm b _ q λz=>z),q];simp⟩⟩
 by_cases hbe:b=e
 ·subst hbe;exact heo
 ·exact⟨u,k b u hbe q⟩
end
def trk (h:Heap)(H:Hp):List Addr:=(WY h.objs.size).filter λa=>(H a).isSome
def NP (h:Heap)(H:Hp):Heap:=PySem.W.hideAll h (trk h H)
theorem BK (h:Heap)(H:Hp):(NP h H).objs.size=h.objs.size:=PySem.W.hideAll_size _ _
theorem NO {h:Heap}{H:Hp}{b:Addr}{o:Obj}(e:h.get? b=some o)(n:H b=none):(NP h H).get? b=some o:=
 PySem.W.hideAll_get _ e λhm=>by
  have q:(H b).isSome=true:=(List.mem_filter.mp hm).2
  rw [n] at q;simp at q
theorem RD {h:Heap}{H:Hp}{b:Addr}{o:Obj}(e:(NP h H).get? b=some o):h.get? b=some o/\H b=none:=by
 have e':h.get? b=some o:=PySem.W.of_hideAll (trk h H) e
 refine⟨e',?_⟩
 cases q:H b with
 |none=>rfl
 |some x=>
  have hm:b∈trk h H:=List.mem_filter.mpr ⟨W00.mpr (Wo e'),by simp [q]⟩
  have z:(NP h H).get? b=none:=PySem.W.hideAll_none (trk h H) hm
  rw [z] at e;cases e
def Pt (g h:Heap)(L:Addr):List (Addr×Obj):=(WY h.objs.size).filterMap λa=>if a=L\/(g.get? a).isSome=true then none else (h.get? a).map λo=>(a,o)
def Qi (g h:Heap)(L d:Addr):List (Addr×Obj):=(Pt g h L).filter λp=>decide (p.1≠d)
end L2
namespace L2
open PySem PySem.Spec PyProof.Rows
structure Mod (K:W4) (mg:Str->Option Value) (base:Heap):Prop where
 kin:K.In base
 glob:base.Ns Wt mg
 blt:∃mb,base.Ns builtinsNs mb/\∀x:Str,x≠"__name__"->mb x=Ww x
 nolimit:base.NoLimit
structure Cx where
 prog:Program
 w:World
 K:W4
 mg:Str->Option Value
 base:Heap
 A:Around
 N:List Str
 s₀:Shared
 H₀:Hp
 env:Env
 outer:List Env
 stack:List Env
 ex:List Addr
 fn:Str->Bool
 calm:Bool
 pn:List (Addr×Obj)
 xe:Value->Shared->Prop
def frs (l:List Env):List Addr:=l.filterMap (·.frame)
abbrev Cx.fs (X:Cx):List Addr:=frs X.outer
def Vis (sc:Scope)(x:Str):Prop:=sc.names.lookup x=some .local\/sc.names.lookup x=some .cell\/sc.names.lookup x=some .free
def Loc (sc:Scope)(x:Str):Prop:=sc.names.lookup x=some .local\/sc.names.lookup x=some .cell
def HL (env:Env)(h:Heap)(m:Str->Option Value)(x:Str)(u:Value):Prop:=
 (env.kindOf x=some .local/\m x=some u)\/((env.kindOf x=some .cell\/env.kindOf x=some .free)/\∃c,env.cells.lookup x=some c/\h.IsCell c (some u))
structure Cx.Ok (X:Cx):Prop where
 mod:Mod X.K X.mg X.base
 kind:X.env.scope.kind = .function
 glob:X.env.globals=Wt
 blt:X.env.builtins=builtinsNs
 above:X.s₀.heap.objs.size≤X.env.locals
 inj:∀x y c,X.env.cells.lookup x=some c->X.env.cells.lookup y=some c->x=y
 has:∀x,(X.env.kindOf x=some .cell\/X.env.kindOf x=some .free)->∃c,X.env.cells.lookup x=some c
 cab:∀x c,X.fn x=true->X.env.cells.lookup x=some c->X.s₀.heap.objs.size≤c
 hd:X.calm=true->X.A.handled=none
 frames:X.A.frames=some X.stack
 stk:X.stack=X.outer\/(X.stack=X.env :: X.outer/\X.env.frame=some X.env.locals)
 exf:∀b∈X.ex,b≠X.env.locals/\∀x c,X.env.cells.lookup x=some c->c≠b
 bs:∀b o,X.base.get? b=some o->X.s₀.heap.get? b=some o/\X.H₀ b=none
 bsz:X.base.objs.size≤X.s₀.heap.objs.size
 noex:∀b o,X.base.get? b=some o->b∉X.ex
 exfs:∀b∈X.ex,b∉X.fs
 funs:X.s₀.heap.FunFrames X.base X.outer
 frf:∀b∈X.fs,X.H₀ b=none
structure Inv (X:Cx) (pins:List (Addr×Obj)) (σ:List (Option V)) (H:Hp) (s:Shared):Prop where
 ok:X.Ok
 os:s.os=X.s₀.os
 bare:AllBare s.gens
 base:Un X.fs X.ex X.H₀ H X.s₀.heap s.heap
 loc:∃m,s.heap.Ns X.env.locals m/\∀(i:Nat) (x:Str) (v:V),X.N[i]? = some x->σ[i]? = some (some v)->Vis X.env.scope x->∃u,ZS v u/\HL X.env s.heap m x u
 cell:∀x c,X.env.cells.lookup x=some c->∃v,s.heap.IsCell c v
 free:H X.env.locals=none
 freeC:∀x c,X.env.cells.lookup x=some c->H c=none
 pin:∀p∈X.pn++pins,s.heap.get? p.1=some p.2/\H p.1=none/\p.1≠X.env.locals/\p.1∉X.fs/\∀v,p.2.data≠.cell v
 hok:HOk X.prog X.w H s.heap
 len:σ.length=X.N.length
section
variable {X:Cx} {pins:List (Addr×Obj)} {σ:List (Option V)} {H H':Hp} {s:Shared} {h':Heap}
theorem Cx.Ok.nofr (ok:X.Ok){b:Addr}{o:Obj}(e:X.base.get? b=some o):b∉X.fs:=λhb=>by
 have:=(ok.funs.mem hb).1
 rw [e] at this;cases this
theorem Inv.bs (I:Inv X pins σ H s):∀b o,X.base.get? b=some o->s.heap.get? b=some o/\H b=none:=λb o e=>
 ⟨I.base.keep b o (I.ok.bs b o e).1 (I.ok.bs b o e).2 (I.ok.nofr e) (I.ok.noex b o e),I.base.free b o (I.ok.bs b o e).1 (I.ok.bs b o e).2 (I.ok.noex b o e)⟩
theorem Inv.bk (I:Inv X pins σ H s):∀b o,X.base.get? b=some o->s.heap.get? b=some o:=λb o e=>(I.bs b o e).1
theorem Inv.mod (I:Inv X pins σ H s):Mod X.K X.mg X.base:=I.ok.mod
theorem Inv.kIn (I:Inv X pins σ H s):X.K.In s.heap:=I.ok.mod.kin.keeps I.bk
theorem Inv.lt (I:Inv X pins σ H s):X.env.locals<s.heap.objs.size:=let ⟨_,hn,_⟩:=I.loc;hn.lt
theorem Inv.sz (I:Inv X pins σ H s):X.s₀.heap.objs.size≤s.heap.objs.size:=Wz I.ok.above (Nat.le_of_lt I.lt)
theorem Inv.nofs (I:Inv X pins σ H s){a:Addr}(h:s.heap.objs.size≤a):a∉X.fs:=λhb=>by
 obtain⟨_,o,ho,_⟩:=I.ok.funs.mem hb
 exact absurd (Wv (Wo ho) (Wz I.sz h)) (Vb _)
theorem Inv.cne (I:Inv X pins σ H s):∀x c,X.env.cells.lookup x=some c->c≠X.env.locals:=λx c e z=>by
 obtain⟨v,o,ho,hd⟩:=I.cell x c e
 obtain⟨m,⟨o',es,ep,ho',hd',_⟩,_⟩:=I.loc
 rw [z,ho'] at ho;cases ho;rw [hd'] at hd;cases hd
theorem Inv.funs (I:Inv X pins σ H s):s.heap.FunFrames X.base X.outer:=by
 have all:∀(l:List Env),(∀b∈frs l,b∈X.fs)->X.s₀.heap.FunFrames X.base l->s.heap.FunFrames X.base l:=by
  intro l
  induction l with
  |nil=>intro _ _;trivial
  |cons env r ih=>
   intro hs hl
   obtain⟨hk,⟨L,o,hf,hn,ho,hd⟩,hr⟩:=hl
   have hL:L∈X.fs:=hs L (by unfold frs;rw [W07,hf];exact WJ)
   obtain⟨sl,e⟩:=I.base.slot L o ho (I.ok.frf L hL) hL λz=>I.ok.exfs L z hL
   exact⟨hk,⟨L,_,hf,hn,e,hd⟩,ih (λb hb=>hs b (by unfold frs;rw [W07,hf];exact WG _ hb)) hr⟩
 exact all X.outer (λ_ hb=>hb) I.ok.funs
theorem Inv.stack (I:Inv X pins σ H s):s.heap.FunFrames X.base X.stack:=by
 rcases I.ok.stk with e|⟨e,hf⟩
 ·rw [e];exact I.funs
 ·rw [e]
  obtain⟨m,hn,_⟩:=I.loc
  refine .cons (by rw [I.ok.kind];decide) hf hn ?_ I.funs
  exact Heap.get?_none_of_le (Wz I.ok.bsz I.ok.above)
theorem Inv.stkSub (I:Inv X pins σ H s):∀b∈frs X.stack,b∈X.env.locals :: X.fs:=λb hb=>by
 rcases I.ok.stk with e|⟨e,hf⟩
 ·rw [e] at hb;exact WG _ hb
 ·rw [e] at hb
  unfold frs at hb
  rw [W07,hf] at hb
  exact hb
theorem Inv.stkFree (I:Inv X pins σ H s):∀b∈frs X.stack,H b=none:=λb hb=>by
 rcases Wy.mp (I.stkSub b hb) with e|hb
 ·rw [e];exact I.free
 ·obtain⟨_,o,ho,_⟩:=I.ok.funs.mem hb
  exact I.base.free b o ho (I.ok.frf b hb) λz=>I.ok.exfs b z hb
theorem Inv.step {g':Array GenState}{t':Nat}{d':Drawn}{ch:List Addr}(I:Inv X pins σ H s)
  (hch:∀b∈ch,(b∈X.ex\/X.s₀.heap.objs.size≤b)/\b≠X.env.locals/\(∀x c,X.env.cells.lookup x=some c->c≠b)/\∀p∈X.pn++pins,p.1≠b)
  (keep:∀b o,b≠X.env.locals->b∉X.fs->b∉ch->s.heap.get? b=some o->H b=none->h'.get? b=some o)
  (slot:∀b o,b≠X.env.locals->b∈X.fs->b∉ch->s.heap.get? b=some o->H b=none->∃sl,h'.get? b=some { o with slots:=sl }) (free:∀b o,b∉ch->s.heap.get? b=some o->H b=none->H' b=none)
  (there:∀b o,b∉ch->s.heap.get? b=some o->∃o',h'.get? b=some o')
  (tups:∀b xs,H b=some (.tup xs)->H' b=some (.tup xs)) (frzs:∀b o u,H b=some (.frz o u)->H' b=some (.frz o u)) (tbls:∀b ps,H b=some (.tbl ps)->∃more,H' b=some (.tbl (ps++more)))
  (ns:∀m,s.heap.Ns X.env.locals m->h'.Ns X.env.locals m) (hok:HOk X.prog X.w H' h') (hg:AllBare g') :
  Inv X pins σ H' { s with heap:=h',gens:=g',drawn:=d',toks:=t' }:=by
 have neL:∀b o,X.s₀.heap.get? b=some o->b≠X.env.locals:=λb o e=>WD (Wv (Wo e) I.ok.above)
 have neC:∀b o,X.s₀.heap.get? b=some o->b∉X.ex->b∉ch:=λb o e hx hb=>by
  rcases (hch b hb).1 with z|z
  ·exact hx z
  ·exact absurd (Wv (Wo e) z) (Vb _)
 have cellK:∀x c,X.env.cells.lookup x=some c->∀v,s.heap.IsCell c v->h'.IsCell c v:=λx c e v ⟨o,ho,hd⟩=>by
  have nch:c∉ch:=λz=>(hch c z).2.2.1 x c e rfl
  by_cases hc:c∈X.fs
  ·obtain⟨sl,q⟩:=slot c o (I.cne x c e) hc nch ho (I.freeC x c e)
   exact⟨_,q,hd⟩
  ·exact⟨o,keep c o (I.cne x c e) hc nch ho (I.freeC x c e),hd⟩
 refine⟨I.ok,I.os,hg,⟨λb o e n hb hx=>?_,λb o e n hb hx=>?_,λb o e n hx=>?_,λb o e hx=>?_,λb xs e=>tups b xs (I.base.tups b xs e),λb o xs e=>frzs b o xs (I.base.frzs b o xs e),λb ps e=>?_⟩,?_,λx c e=>?_,?_,λx c e=>?_,λp hp=>?_,hok,I.len⟩
 ·exact keep b o (neL b o e) hb (neC b o e hx) (I.base.keep b o e n hb hx) (I.base.free b o e n hx)
 ·obtain⟨sl,e1⟩:=I.base.slot b o e n hb hx
  obtain⟨sl',e2⟩:=slot b _ (neL b o e) hb (neC b o e hx) e1 (I.base.free b o e n hx)
  exact⟨sl',e2⟩
 ·obtain⟨o',e1⟩:=I.base.there b o e hx
  exact free b o' (neC b o e hx) e1 (I.base.free b o e n hx)
 ·obtain⟨o',e1⟩:=I.base.there b o e hx
  exact there b o' (neC b o e hx) e1
 ·obtain⟨m1,e1⟩:=I.base.tbls b ps e
  obtain⟨m2,e2⟩:=tbls b _ e1
  exact⟨m1++m2,by rw [e2,Array.append_assoc]⟩
 ·obtain⟨m,hn,hl⟩:=I.loc
  refine⟨m,ns m hn,λi x v e1 e2 e3=>?_⟩
  obtain⟨u,r,l⟩:=hl i x v e1 e2 e3
  refine⟨u,r,?_⟩
  rcases l with l|⟨k,c,e,z⟩
  ·exact .inl l
  ·exact .inr ⟨k,c,e,cellK x c e _ z⟩
 ·obtain⟨v,z⟩:=I.cell x c e
  exact⟨v,cellK x c e v z⟩
 ·obtain⟨m,⟨o,_,_,ho,_⟩,_⟩:=I.loc
  exact free _ o (λz=>(hch _ z).2.1 rfl) ho I.free
 ·obtain⟨v,o,ho,hd⟩:=I.cell x c e
  exact free c o (λz=>(hch c z).2.2.1 x c e rfl) ho (I.freeC x c e)
 ·obtain⟨e,n,ne,nf,d⟩:=I.pin p hp
  have nch:p.1∉ch:=λz=>(hch p.1 z).2.2.2 p hp rfl
  exact⟨keep p.1 p.2 ne nf nch e n,free p.1 p.2 nch e n,ne,nf,d⟩
theorem Inv.un {t':Nat}(I:Inv X pins σ H s)(u:Un X.fs [] H H' s.heap h')(hok:HOk X.prog X.w H' h'):Inv X pins σ H' { s with heap:=h',toks:=t' }:=by
 obtain⟨m,⟨o,es,ep,ho,r⟩,_⟩:=id I.loc
 obtain⟨sl,hL⟩:=u.any ho I.free (by simp)
 exact I.step (g':=s.gens) (d':=s.drawn) (ch:=[]) (λ_ z=>nomatch z) (λb o _ hb _ e n=>u.keep b o e n hb (by simp)) (λb o _ hb _ e n=>u.slot b o e n hb (by simp)) (λb o _ e n=>u.free b o e n (by simp)) (λb o _ e=>u.there b o e (by simp)) u.tups u.frzs u.tbls (λm' hm=>by
  obtain⟨o',es',ep',ho',r'⟩:=hm
  rw [ho] at ho';cases ho'
  exact⟨_,es',ep',hL,r'⟩) hok I.bare
theorem Inv.call {g':Array GenState}{t':Nat}{d':Drawn}{ch:List Addr}(I:Inv X pins σ H s)(u:Un (frs X.stack) ch H H' s.heap h')(hok:HOk X.prog X.w H' h')(hg:AllBare g')
  (hch:∀b∈ch,(b∈X.ex\/X.s₀.heap.objs.size≤b)/\b≠X.env.locals/\(∀x c,X.env.cells.lookup x=some c->c≠b)/\∀p∈X.pn++pins,p.1≠b) :
  Inv X pins σ H' { s with heap:=h',gens:=g',drawn:=d',toks:=t' }:=by
 obtain⟨m,⟨o,es,ep,ho,r⟩,_⟩:=id I.loc
 obtain⟨sl,hL⟩:=u.any ho I.free λz=>(hch _ z).2.1 rfl
 exact I.step (ch:=ch) hch (λb o hL hb hc e n=>u.keep b o e n (λz=>(Wy.mp (I.stkSub b z)).elim hL hb) hc) (λb o _ _ hc e n=>u.any e n hc) (λb o hc e n=>u.free b o e n hc) (λb o hc e=>u.there b o e hc) u.tups u.frzs u.tbls (λm' hm=>by
  obtain⟨o',es',ep',ho',r'⟩:=hm
  rw [ho] at ho';cases ho'
  exact⟨_,es',ep',hL,r'⟩) hok hg
theorem Inv.turned {t':Nat}{it:Addr}(I:Inv X pins σ H s)(k:∀b o,b≠it->s.heap.get? b=some o->h'.get? b=some o)(hn:H it=none)(hL:it≠X.env.locals)
  (h1:it∈X.ex\/X.s₀.heap.objs.size≤it) (h2:∀x c,X.env.cells.lookup x=some c->c≠it) (h3:∀p∈X.pn++pins,p.1≠it):Inv X pins σ H { s with heap:=h',toks:=t' }:=by
 have nit:∀b u,H b=some u->b≠it:=λb u e z=>by rw [z,hn] at e;cases e
 refine I.step (g':=s.gens) (d':=s.drawn) (ch:=[it]) (λb hb=>?_) (λb o _ _ hc e _=>k b o (λz=>hc (by simp [z])) e) (λb o _ _ hc e _=>⟨o.slots,k b o (λz=>hc (by simp [z])) e⟩) (λ_ _ _ _ n=>n)
  (λb o hc e=>⟨o,k b o (λz=>hc (by simp [z])) e⟩) (λ_ _ e=>e) (λ_ _ _ e=>e) (λb ps e=>⟨#[],by rw [e];simp⟩) (λm hm=>?_) (λb u e=>?_) I.bare
 ·have e:b=it:=by simpa using hb
  subst e
  exact⟨h1,hL,h2,h3⟩
 ·obtain⟨o,es,ep,ho,r⟩:=hm
  exact⟨o,es,ep,k _ o (Ne.symm hL) ho,r⟩
 ·refine (I.hok b u e).stay (λc v hc q=>k c v ?_ q) (λ_ q=>q) λ_ _ q=>q
  rcases hc with z|z
  ·rw [z];exact nit b u e
  ·exact nit c _ z
theorem Inv.tok (I:Inv X pins σ H s)(t:Nat):Inv X pins σ H { s with toks:=t }:=I.un (h':=s.heap) (t':=t) Un.refl I.hok
theorem Inv.kept {t':Nat}(I:Inv X pins σ H s)(k:∀b u,s.heap.get? b=some u->h'.get? b=some u):Inv X pins σ H { s with heap:=h',toks:=t' }:=I.un (Un.kept k) (I.hok.kept k)
theorem Inv.laid {a:Addr}{o:HO}{t':Nat}(I:Inv X pins σ H s)(k:∀b u,s.heap.get? b=some u->h'.get? b=some u)(hp:s.heap.objs.size≤a)(new:ZE X.prog X.w (upd H a o) h' a o) :
  Inv X pins σ (upd H a o) { s with heap:=h',toks:=t' }:=I.un (Un.laid k hp (I.hok.fresh hp)) (I.hok.laid k hp new)
theorem Inv.write {x e:Addr}{o:HO}{t':Nat}(I:Inv X pins σ H s)(mu:Mut (H x))(he:e=x\/H e=some (.own x))(k:∀b u,b≠e->s.heap.get? b=some u->h'.get? b=some u)(heo:∃u,h'.get? e=some u)
  (new:ZE X.prog X.w (upd H x o) h' x o):Inv X pins σ (upd H x o) { s with heap:=h',toks:=t' }:=I.un (Un.write mu he k heo) (I.hok.write mu he k heo new)
theorem Inv.weak {σ':List (Option V)}(I:Inv X pins σ H s)(hl:σ'.length=σ.length)(w:∀(i:Nat) v,σ'[i]? = some (some v)->σ[i]? = some (some v)):Inv X pins σ' H s:=
 ⟨I.ok,I.os,I.bare,I.base,let ⟨m,hn,hl'⟩:=I.loc;⟨m,hn,λi x v e1 e2 e3=>hl' i x v e1 (w i v e2) e3⟩,I.cell,I.free,I.freeC,I.pin,I.hok,hl.trans I.len⟩
theorem Inv.pins_of {pins':List (Addr×Obj)}(I:Inv X pins σ H s)(h:∀p∈pins',s.heap.get? p.1=some p.2/\H p.1=none/\p.1≠X.env.locals/\p.1∉X.fs/\∀v,p.2.data≠.cell v):Inv X pins' σ H s:=
 ⟨I.ok,I.os,I.bare,I.base,I.loc,I.cell,I.free,I.freeC,λp hp=>(V6.mp hp).elim (λz=>I.pin p (W03 _ z)) (h p),I.hok,I.len⟩
theorem Ta {N:List Str}(hN:N.Nodup){i j:Nat}{x:Str}(a:N[i]? = some x)(b:N[j]? = some x):i=j:=by
 obtain⟨h1,e1⟩:=Wn.mp a
 obtain⟨h2,e2⟩:=Wn.mp b
 exact (List.getElem_inj hN).mp (e1.trans e2.symm)
theorem JH {M:Model}{A:Around}{E:Value->Shared->Prop}{i:Nat}{x:Str}{v:V}{u:Value}{Q:Unit->Shared->Prop}(I:Inv X pins σ H s)(hN:X.N.Nodup)(hi:X.N[i]? = some x)(hx:Loc X.env.scope x)(r:ZS v u)
  (h:∀s',Inv X pins (σ.set i (some v)) H s'->(∃a,Vw a s.heap s'.heap/\(a=X.env.locals\/X.env.cells.lookup x=some a))->Q () s') (hf:X.fn x=true\/X.env.scope.names.lookup x=some .local:=by first|exact .inl rfl|exact .inr rfl|assumption):wpAny M A (storeName X.env x u) Q E s:=by
 obtain⟨m,hn,hl⟩:=id I.loc
 have hcls:(X.env.scope.kind == .class||(X.env.scope.kind == .module&&X.env.locals != X.env.globals))=false:=by rw [I.ok.kind];rfl
 have hiσ:i<σ.length:=by rw [I.len];exact (Wn.mp hi).1
 have cne:=I.cne
 have tracked:∀{a:Addr} {h':Heap},(∃o,s.heap.get? a=some o/\H a=none)->Vw a s.heap h'->HOk X.prog X.w H h':=λ{a h'} ha hs b ob e=>by
  obtain⟨_,_,hfree⟩:=ha
  refine (I.hok b ob e).stay (λc w' hc q=>(hs.2 c ?_).trans q) (λ_ q=>q) λ_ _ q=>q
  rintro rfl
  rcases hc with rfl|hc
  ·rw [hfree] at e;cases e
  ·rw [hfree] at hc;cases hc
 rcases hx with hk|hk
 ·refine wpAny_storeName_local hk hn (λh' hn' hs=>?_) hcls
  obtain⟨oL,_,_,hoL,_⟩:=id hn
  refine h _ ⟨I.ok,I.os,I.bare,⟨λb o e n hb hx=>?_,λb o e n hb hx=>?_,I.base.free,λb o e hx=>?_,I.base.tups,I.base.frzs,I.base.tbls⟩,⟨_,hn',λj y v' e1 e2 e3=>?_⟩,λy c e=>?_,I.free,I.freeC,λp hp=>?_,tracked ⟨oL,hoL,I.free⟩ hs,by simpa using I.len⟩ ⟨_,hs,.inl rfl⟩
  ·exact (hs.2 b (WD (Wv (Wo e) I.ok.above))).trans (I.base.keep b o e n hb hx)
  ·obtain⟨sl,e1⟩:=I.base.slot b o e n hb hx
   exact⟨sl,(hs.2 b (WD (Wv (Wo e) I.ok.above))).trans e1⟩
  ·obtain⟨o',e1⟩:=I.base.there b o e hx
   exact⟨o',(hs.2 b (WD (Wv (Wo e) I.ok.above))).trans e1⟩
  ·by_cases hj:j=i
   ·subst hj
    rw [hi] at e1;cases e1
    rw [Vk hiσ] at e2
    cases e2
    exact⟨u,r,.inl ⟨hk,by simp⟩⟩
   ·rw [Ve (Ne.symm hj)] at e2
    obtain⟨u',r',q⟩:=hl j y v' e1 e2 e3
    refine⟨u',r',?_⟩
    rcases q with ⟨k,e⟩|⟨k,c,e,z⟩
    ·refine .inl ⟨k,?_⟩
     have:y≠x:=λe=>hj (Ta hN e1 (e ▸ hi))
     simp [this,e]
    ·exact .inr ⟨k,c,e,z.sameBut hs (cne y c e)⟩
  ·obtain⟨w',z⟩:=I.cell y c e
   exact⟨w',z.sameBut hs (cne y c e)⟩
  ·obtain⟨e,n,ne,nf,d⟩:=I.pin p hp
   exact⟨(hs.2 p.1 ne).trans e,n,ne,nf,d⟩
 ·have hfn:X.fn x=true:=by
   rcases hf with z|z
   ·exact z
   ·rw [z] at hk;cases hk
  obtain⟨c,hc⟩:=I.ok.has x (.inl hk)
  obtain⟨w',z⟩:=I.cell x c hc
  refine wpAny_storeName_cell I.ok.kind hk hc z (λh' hc' hs=>?_)
  obtain⟨oc,hoc,hocd⟩:=id z
  refine h { s with heap:=h' } ⟨I.ok,I.os,I.bare,⟨λb o e n hb hx=>?_,λb o e n hb hx=>?_,I.base.free,λb o e hx=>?_,I.base.tups,I.base.frzs,I.base.tbls⟩,⟨m,hn.sameBut hs (Ne.symm (cne x c hc)),λj y v' e1 e2 e3=>?_⟩,λy c' e=>?_,I.free,I.freeC,λp hp=>?_,tracked ⟨oc,hoc,I.freeC x c hc⟩ hs,by simpa using I.len⟩ ⟨c,hs,.inr hc⟩
  ·exact (hs.2 b (WD (Wv (Wo e) (I.ok.cab x c hfn hc)))).trans (I.base.keep b o e n hb hx)
  ·obtain⟨sl,e1⟩:=I.base.slot b o e n hb hx
   exact⟨sl,(hs.2 b (WD (Wv (Wo e) (I.ok.cab x c hfn hc)))).trans e1⟩
  ·obtain⟨o',e1⟩:=I.base.there b o e hx
   exact⟨o',(hs.2 b (WD (Wv (Wo e) (I.ok.cab x c hfn hc)))).trans e1⟩
  ·by_cases hj:j=i
   ·subst hj
    rw [hi] at e1;cases e1
    rw [Vk hiσ] at e2
    cases e2
    exact⟨u,r,.inr ⟨.inl hk,c,hc,hc'⟩⟩
   ·rw [Ve (Ne.symm hj)] at e2
    obtain⟨u',r',q⟩:=hl j y v' e1 e2 e3
    refine⟨u',r',?_⟩
    rcases q with q|⟨k,c',e,z'⟩
    ·exact .inl q
    ·refine .inr ⟨k,c',e,z'.sameBut hs ?_⟩
     rintro rfl
     exact hj (Ta hN e1 (I.ok.inj _ _ _ e hc ▸ hi))
  ·by_cases hcc:c'=c
   ·subst hcc;exact⟨_,hc'⟩
   ·obtain⟨w2,z2⟩:=I.cell y c' e
    exact⟨w2,z2.sameBut hs hcc⟩
  ·obtain⟨e,n,ne,nf,d⟩:=I.pin p hp
   refine⟨(hs.2 p.1 ?_).trans e,n,ne,nf,d⟩
   intro q
   rw [q,hoc] at e
   have q':oc=p.2:=WM e
   exact d w' (by rw [←q'];exact hocd)
theorem T2 {M:Model}{A:Around}{E:Value->Shared->Prop}{i:Nat}{x:Str}{v:V}{u:Value}{Q:Unit->Shared->Prop}(I:Inv X pins σ H s)(hN:X.N.Nodup)(hi:X.N[i]? = some x)(hx:Loc X.env.scope x)(r:ZS v u)
  (h:∀s',Inv X pins (σ.set i (some v)) H s'->Q () s') (hf:X.fn x=true\/X.env.scope.names.lookup x=some .local:=by first|exact .inl rfl|exact .inr rfl|assumption):wpAny M A (storeName X.env x u) Q E s:=
 JH I hN hi hx r (λs' I' _=>h s' I') hf
theorem Inv.call' {s':Shared}{ch:List Addr}(I:Inv X pins σ H s)(ho:s'.os=s.os)(u:Un (frs X.stack) ch H H' s.heap s'.heap)(hok:HOk X.prog X.w H' s'.heap)(hg:AllBare s'.gens)
  (hch:∀b∈ch,(b∈X.ex\/X.s₀.heap.objs.size≤b)/\b≠X.env.locals/\(∀x c,X.env.cells.lookup x=some c->c≠b)/\∀p∈X.pn++pins,p.1≠b):Inv X pins σ H' s':=by
 obtain⟨h',g',d',t',o'⟩:=s'
 have e:o'=s.os:=ho
 subst e
 exact I.call (g':=g') (t':=t') (d':=d') u hok hg hch
end
abbrev XK:=Value->Option Addr->Hp->Prop
abbrev St:=List (Option V)
abbrev VK:=V->Hp->Prop
abbrev TE:=St->Hp->VK->Prop
abbrev TT:=St->Hp->(Bool->Hp->Prop)->Prop
abbrev TA:=St->Hp->(List V->Hp->Prop)->Prop
structure Ends where
 nx:St->Hp->Prop
 rt:VK
 bk:St->Hp->Prop:=λ_ _=>False
 ct:St->Hp->Prop:=λ_ _=>False
abbrev TS:=Ends->St->Hp->Prop
def EP (X:Cx)(pins:List (Addr×Obj))(σ:St)(Q:VK)(u:Value)(s':Shared):Prop:=∃v H',Inv X pins σ H' s'/\ZS v u/\Q v H'
def TP (X:Cx)(pins:List (Addr×Obj))(σ:St)(Q:Bool->Hp->Prop)(b:Bool)(s':Shared):Prop:=∃H',Inv X pins σ H' s'/\Q b H'
def AP (X:Cx)(pins:List (Addr×Obj))(σ:St)(Q:List V->Hp->Prop)(us:List Value)(s':Shared):Prop:=∃vs H',Inv X pins σ H' s'/\ZQ vs us/\Q vs H'
def SP (X:Cx)(pins:List (Addr×Obj))(D:Ends)(f:Flow)(s':Shared):Prop:=
 match f with
 | .next=>∃σ' H',Inv X pins σ' H' s'/\D.nx σ' H'
 | .brk=>∃σ' H',Inv X pins σ' H' s'/\D.bk σ' H'
 | .cont=>∃σ' H',Inv X pins σ' H' s'/\D.ct σ' H'
 | .ret u=>∃v σ' H',Inv X pins σ' H' s'/\ZS v u/\D.rt v H'
def PE (X:Cx)(e:Expr)(t:TE):Prop:=
 ∀(pins:List (Addr×Obj)) (s:Shared) (σ:St) (H:Hp) (Q:VK),Inv X pins σ H s->t σ H Q->wpAny (model X.prog X.w) X.A (eval e X.env) (EP X pins σ Q) X.xe s
def PT (X:Cx)(e:Expr)(t:TT):Prop:=
 ∀(pins:List (Addr×Obj)) (s:Shared) (σ:St) (H:Hp) (Q:Bool->Hp->Prop),Inv X pins σ H s->t σ H Q->wpAny (model X.prog X.w) X.A (isTrue e X.env (eval e X.env)) (TP X pins σ Q) X.xe s
def PW (X:Cx)(e:Expr)(t:TT):Prop:=
 ∀(whole:Sem Value) (pins:List (Addr×Obj)) (s:Shared) (σ:St) (H:Hp) (Q:Bool->Hp->Prop),Inv X pins σ H s->t σ H Q->wpAny (model X.prog X.w) X.A (isTrue e X.env whole) (TP X pins σ Q) X.xe s
theorem PW.pt {X:Cx}{e:Expr}{t:TT}(h:PW X e t):PT X e t:=h _
def PA (X:Cx)(es:List Expr)(t:TA):Prop:=
 ∀(pos:Pos) (pins:List (Addr×Obj)) (s:Shared) (σ:St) (H:Hp) (Q:List V->Hp->Prop),Inv X pins σ H s->t σ H Q->wpAny (model X.prog X.w) X.A (spliced (backTo pos (Wr es X.env))) (AP X pins σ Q) X.xe s
def PS (X:Cx)(st:Stmt)(t:TS):Prop:=
 ∀(pins:List (Addr×Obj)) (s:Shared) (σ:St) (H:Hp) (D:Ends),Inv X pins σ H s->t D σ H->wpAny (model X.prog X.w) X.A (exec st X.env) (SP X pins D) X.xe s
def PSs (X:Cx)(st:List Stmt)(t:TS):Prop:=
 ∀(pins:List (Addr×Obj)) (s:Shared) (σ:St) (H:Hp) (D:Ends),Inv X pins σ H s->t D σ H->wpAny (model X.prog X.w) X.A (execs st X.env) (SP X pins D) X.xe s
theorem thn {α:Type}{t:Sem α}{Q Q':α->Shared->Prop}{M:Model}{A:Around}{E:Value->Shared->Prop}{s:Shared}(h:wpAny M A t Q E s)(hQ:∀a s,Q a s->Q' a s):wpAny M A t Q' E s:=Vm h hQ λ_ _ x=>x
end L2
namespace L2
open PySem PySem.Spec PyProof.Rows
section
variable {X:Cx}
def EG (i:Nat):TE:=λσ H Q=>∃v,σ[i]? = some (some v)/\Q v H
def tC (v:V):TE:=λ_ H Q=>Q v H
theorem Ln {i:Nat}{x:Str}{pos:Pos}(hN:X.N[i]? = some x)(hv:Vis X.env.scope x)(hd:(x == ("__debug__" : Str))=false:=by decide)(hcd:(x == ("__classdict__" : Str))=false:=by decide):PE X (.Name x pos) (EG i):=by
 intro pins s σ H Q I h
 obtain⟨v,e,h⟩:=h
 obtain⟨m,hn,hl⟩:=I.loc
 obtain⟨u,r,l⟩:=hl i x v hN e hv
 have fin:EP X pins σ Q u s:=⟨v,H,I,r,h⟩
 rcases l with ⟨hk,hm⟩|⟨hk,c,hc,hcell⟩
 ·exact wpAny_Name (wpAny_loadName_local I.ok.kind hk hn hm fin) hd
 ·rcases hk with hk|hk
  ·exact wpAny_Name (wpAny_loadName_cell I.ok.kind hk hc hcell fin) hd
  ·exact wpAny_Name (wpAny_loadName_free I.ok.kind hk hc hcell fin hcd) hd
theorem M3 {i j pos}:PE X (.Constant (.int i) j pos) (tC (.int i)):=λ_ _ _ H _ I h=>wpAny_Constant_int ⟨.int i,H,I.tok _,⟨_,rfl⟩,h⟩
theorem E7 {b j pos}:PE X (.Constant (.bool b) j pos) (tC (.bl b)):=λ_ _ _ H _ I h=>Constant_bool ⟨.bl b,H,I,rfl,h⟩
theorem Lr {j pos}:PE X (.Constant .none j pos) (tC .non):=λ_ _ _ H _ I h=>Constant_none ⟨.non,H,I,rfl,h⟩
theorem Lo {x j pos}:PE X (.Constant (.str x) j pos) (tC (.str x)):=λ_ _ _ H _ I h=>Calls.Constant_str ⟨.str x,H,I.tok _,⟨_,rfl⟩,h⟩
def Gl (X:Cx)(x:Str):Prop:=X.env.kindOf x=some .globalImplicit
theorem Ba {E:Value->Shared->Prop}{pins:List (Addr×Obj)}{s:Shared}{σ:St}{H:Hp}{x:Str}{u:Value}{pos:Pos}{Q:Value->Shared->Prop}(I:Inv X pins σ H s)(hg:Gl X x)(hm:X.mg x=some u)(h:Q u s)
  (hd:(x == ("__debug__" : Str))=false:=by decide):wpAny (model X.prog X.w) X.A (eval (.Name x pos) X.env) Q E s:=
 W0f I.ok.kind hg (Calls.loadGlobal_global (by rw [I.ok.glob];exact I.mod.glob.keeps I.bk) hm h) hd
theorem JW {E:Value->Shared->Prop}{pins:List (Addr×Obj)}{s:Shared}{σ:St}{H:Hp}{x:Str}{u:Value}{pos:Pos}{Q:Value->Shared->Prop}(I:Inv X pins σ H s)(hg:Gl X x)(hm:X.mg x=none)(hv:Ww x=some u)(h:Q u s)
  (hn:x≠"__name__":=by decide) (hd:(x == ("__debug__" : Str))=false:=by decide):wpAny (model X.prog X.w) X.A (eval (.Name x pos) X.env) Q E s:=by
 obtain⟨mb,h1,h2⟩:=I.mod.blt
 exact W0f I.ok.kind hg (Calls.loadGlobal_builtin (by rw [I.ok.glob];exact I.mod.glob.keeps I.bk) hm (by rw [I.ok.blt];exact h1.keeps I.bk) ((h2 x hn).trans hv) h) hd
theorem Rt {x:Str}{v:V}{u:Value}{pos:Pos}(hg:Gl X x)(hm:X.mg x=some u)(r:ZS v u)(hd:(x == ("__debug__" : Str))=false:=by decide):PE X (.Name x pos) (tC v):=
 λ_ _ _ H _ I h=>Ba I hg hm ⟨v,H,I,r,h⟩ hd
theorem Uz {x:Str}{v:V}{u:Value}{pos:Pos}(hg:Gl X x)(hm:X.mg x=none)(hv:Ww x=some u)(r:ZS v u)(hn:x≠"__name__":=by decide)(hd:(x == ("__debug__" : Str))=false:=by decide):PE X (.Name x pos) (tC v):=
 λ_ _ _ H _ I h=>JW I hg hm hv ⟨v,H,I,r,h⟩ hn hd
variable {a b:Expr} {ta tb:TE} {pos:Pos}
variable {tA tB':TT} {Qi:List Expr}
def tOr (t u:TT):TT:=λσ H Q=>t σ H λc H1=>if c=true then Q true H1 else u σ H1 Q
def CI (t:TT):TT:=λσ H Q=>t σ H λc H1=>Q (!c) H1
theorem Lc (ha:PT X a tA):PW X (.BoolOp .Or [a] pos) tA:=by
 intro wh pins s σ H Q I h
 refine isTrue_or (thn (ha pins s σ H Q I h) λc s1 e=>?_)
 cases c with
 |false=>exact isTrue_or_nil e
 |true=>exact e
theorem AX (ha:PT X a tA)(hb:PW X (.BoolOp .Or (b :: Qi) pos) tB'):PW X (.BoolOp .Or (a :: b :: Qi) pos) (tOr tA tB'):=by
 intro wh pins s σ H Q I h
 refine isTrue_or (thn (ha pins s σ H _ I h) λc s1 ⟨H1,I1,q1⟩=>?_)
 cases c with
 |true=>exact⟨H1,I1,q1⟩
 |false=>exact hb wh pins s1 σ H1 Q I1 q1
theorem Le (ha:PT X a tA):PT X (.UnaryOp .Not a pos) (CI tA):=by
 intro pins s σ H Q I h
 exact isTrue_not (ha pins s σ H (λc H1=>Q (!c) H1) I h)
theorem Lq {op}{t:TE}(h:PE X a t):PE X (.BoolOp op [a] pos) t:=λpins s σ H Q I hw=>BoolOp_one (h pins s σ H Q I hw)
def tIf (t:TT)(ta tb:TE):TE:=λσ H Q=>t σ H λc H1=>if c=true then ta σ H1 Q else tb σ H1 Q
theorem NA {c:Expr}(hc:PT X c tA)(ha:PE X a ta)(hb:PE X b tb):PE X (.IfExp c a b pos) (tIf tA ta tb):=by
 intro pins s σ H Q I h
 refine wpAny_IfExp (thn (hc pins s σ H _ I h) λd s1 ⟨H1,I1,q1⟩=>?_)
 cases d with
 |true=>exact ha pins s1 σ H1 Q I1 q1
 |false=>exact hb pins s1 σ H1 Q I1 q1
end
end L2
namespace L2
open PySem PySem.Spec PyProof.Rows
def SqL (K:W4)(H:Hp)(a:Addr)(xs:List V):Prop:=
 Rd H a (.lst xs)\/
  ∃(o:Obj) (its:Array Value) (n:Nat),K.lookup a=some o/\o.cls = .type "list"/\o.dict=none/\o.data = .seq its n/\its.size≤Wk/\ZQ xs its.toList
def SqT (K:W4)(H:Hp)(a:Addr)(xs:List V):Prop:=
 Rd H a (.tup xs)\/
  ∃(o:Obj) (its:Array Value) (n:Nat),K.lookup a=some o/\o.cls = .type "tuple"/\o.data = .seq its n/\its.size≤Wk/\ZQ xs its.toList
def HJ:Value->Option V
 | .none=>some .non
 | .bool b=>some (.bl b)
 | .int i _=>some (.int i)
 | .str x _=>some (.str x)
 | .bytes b _=>some (.byt b)
 | .float b _=>some (.flt b)
 | .ref a=>some (.ref a)
 | .type n=>some (.ty n)
 |_=>none
theorem ZS.abs {x:V}{u:Value}(r:ZS x u):HJ u=some x:=by
 cases x with
 |non=>cases r;rfl
 |bl _=>cases r;rfl
 |int _=>obtain⟨t,rfl⟩:=r;rfl
 |str _=>obtain⟨t,rfl⟩:=r;rfl
 |byt _=>obtain⟨t,rfl⟩:=r;rfl
 |flt _=>obtain⟨t,rfl⟩:=r;rfl
 |ref _=>cases r;rfl
 |ty _=>cases r;rfl
theorem ZS.inj {x y:V}{u:Value}(r:ZS x u)(q:ZS y u):x=y:=WM (r.abs.symm.trans q.abs)
theorem ZQ.inj:∀{xs ys:List V} {us:List Value},ZQ xs us->ZQ ys us->xs=ys
 |_,_,_,.nil,.nil=>rfl
 |_,_,_,.cons r t,.cons r' t'=>by rw [r.inj r',ZQ.inj t t']
section
variable {X:Cx} {pins:List (Addr×Obj)} {σ:St} {H:Hp} {s:Shared} {a:Addr} {xs ys:List V}
theorem SqL.of {K:W4}(h:H a=some (.lst xs)):SqL K H a xs:=.inl (.inl h)
theorem SqT.of {K:W4}(h:H a=some (.tup xs)):SqT K H a xs:=.inl (.inl h)
theorem Inv.list (I:Inv X pins σ H s)(h:SqL X.K H a xs):∃its:List Value,ZQ xs its/\PlainL s.heap a its.toArray/\xs.length≤Wk:=by
 rcases h with h|⟨o,its,n,hk,hc,hd,hs,hz,r⟩
 ·obtain⟨z,its,n,r,e⟩:=h.ok I.hok
  exact⟨its,r,⟨_,n,e,rfl,rfl,rfl⟩,z⟩
 ·refine⟨its.toList,r,⟨o,n,I.kIn a o hk,hc,hd,by simpa using hs⟩,?_⟩
  have e:=r.length
  simp only [W08] at e
  omega
theorem Inv.tuple (I:Inv X pins σ H s)(h:SqT X.K H a xs):∃its:List Value,ZQ xs its/\IsTup s.heap a its.toArray/\xs.length≤Wk:=by
 rcases h with h|⟨o,its,n,hk,hc,hs,hz,r⟩
 ·obtain⟨z,its,r,p⟩:=h.ok I.hok
  exact⟨its,r,p.1,z⟩
 ·refine⟨its.toList,r,⟨o,I.kIn a o hk,hc,n,by simpa using hs⟩,?_⟩
  have e:=r.length
  simp only [W08] at e
  omega
theorem Inv.list_inj (I:Inv X pins σ H s)(h:SqL X.K H a xs)(h':SqL X.K H a ys):xs=ys:=by
 obtain⟨its,r,⟨o,n,e,_,_,d⟩,_⟩:=I.list h
 obtain⟨its',r',⟨o',n',e',_,_,d'⟩,_⟩:=I.list h'
 rw [e] at e';cases e'
 rw [d] at d'
 injection d' with d1 _
 have:its=its':=by simpa using congrArg Array.toList d1
 subst this
 exact r.inj r'
theorem Inv.tuple_inj (I:Inv X pins σ H s)(h:SqT X.K H a xs)(h':SqT X.K H a ys):xs=ys:=by
 obtain⟨its,r,⟨o,e,_,n,d⟩,_⟩:=I.tuple h
 obtain⟨its',r',⟨o',e',_,n',d'⟩,_⟩:=I.tuple h'
 rw [e] at e';cases e'
 rw [d] at d'
 injection d' with d1 _
 have:its=its':=by simpa using congrArg Array.toList d1
 subst this
 exact r.inj r'
end
abbrev Cx.wish (X:Cx)(E:Value->Shared->Prop):Cx:={ X with xe:=E }
abbrev Cx.nox (X:Cx):Cx:=X.wish λ_ _=>False
theorem Cx.Ok.wish {X:Cx}(ok:X.Ok)(E:Value->Shared->Prop):(X.wish E).Ok:=
 ⟨ok.mod,ok.kind,ok.glob,ok.blt,ok.above,ok.inj,ok.has,ok.cab,ok.hd,ok.frames,ok.stk,ok.exf,ok.bs,ok.bsz,ok.noex,ok.exfs,ok.funs,ok.frf⟩
theorem Cx.Ok.unwish {X:Cx}{E:Value->Shared->Prop}(ok:(X.wish E).Ok):X.Ok:=
 ⟨ok.mod,ok.kind,ok.glob,ok.blt,ok.above,ok.inj,ok.has,ok.cab,ok.hd,ok.frames,ok.stk,ok.exf,ok.bs,ok.bsz,ok.noex,ok.exfs,ok.funs,ok.frf⟩
section
variable {X:Cx} {pins:List (Addr×Obj)} {σ:St} {H:Hp} {s:Shared} {E:Value->Shared->Prop}
theorem Inv.wish (I:Inv X pins σ H s)(E:Value->Shared->Prop):Inv (X.wish E) pins σ H s:=⟨I.ok.wish E,I.os,I.bare,I.base,I.loc,I.cell,I.free,I.freeC,I.pin,I.hok,I.len⟩
theorem Inv.unwish (I:Inv (X.wish E) pins σ H s):Inv X pins σ H s:=⟨I.ok.unwish,I.os,I.bare,I.base,I.loc,I.cell,I.free,I.freeC,I.pin,I.hok,I.len⟩
theorem SP.unwish {D:Ends}{f:Flow}{s':Shared}(h:SP (X.wish E) pins D f s'):SP X pins D f s':=by
 cases f with
 |next=>obtain⟨σ',H',I,q⟩:=h;exact⟨σ',H',I.unwish,q⟩
 |brk=>obtain⟨σ',H',I,q⟩:=h;exact⟨σ',H',I.unwish,q⟩
 |cont=>obtain⟨σ',H',I,q⟩:=h;exact⟨σ',H',I.unwish,q⟩
 |ret u=>obtain⟨v,σ',H',I,r,q⟩:=h;exact⟨v,σ',H',I.unwish,r,q⟩
theorem PSs.nox {st:List Stmt}{t:TS}(h:PSs X.nox st t):PSs X st t:=λpins s σ H D I hw=>
 Vm (h pins s σ H D (I.wish _) hw) (λ_ _ q=>q.unwish) λ_ _ z=>False.elim z
end
section
variable {X:Cx} {st:Stmt} {Qi:List Stmt} {t u:TS} {e:Expr} {te:TE} {pos:Pos}
def AM:TS:=λD σ H=>D.nx σ H
def CG (t u:TS):TS:=λD σ H=>t { D with nx:=u D } σ H
theorem Rj:PSs X [] AM:=λ_ _ σ H _ I h=>wpAny_execs_nil ⟨σ,H,I,h⟩
theorem Nw (h1:PS X st t)(h2:PSs X Qi u):PSs X (st :: Qi) (CG t u):=by
 intro pins s σ H D I h
 refine wpAny_execs_cons (thn (h1 pins s σ H { D with nx:=u D } I h) λf s1 q=>?_)
 cases f with
 |next=>
  obtain⟨σ',H',I',q⟩:=q
  exact h2 pins s1 σ' H' D I' q
 |ret v=>exact q
 |brk=>exact q
 |cont=>exact q
theorem Ri (h1:PS X st t):PSs X [st] t:=by
 intro pins s σ H D I h
 refine wpAny_execs_cons (thn (h1 pins s σ H D I h) λf s1 q=>?_)
 cases f with
 |next=>exact wpAny_execs_nil q
 |ret v=>exact q
 |brk=>exact q
 |cont=>exact q
theorem Inv.quiet {pins:List (Addr×Obj)}{σ:St}{H:Hp}{s:Shared}(I:Inv X pins σ H s):interactive X.env=false:=by simp [interactive,I.ok.kind]
def AN (te:TE):TS:=λD σ H=>te σ H λ_ H1=>D.nx σ H1
theorem Rl (he:PE X e te)(hs:swapsWith e none pos.line X.env=pure false:=by rfl):PS X (.Expr e pos) (AN te):=by
 intro pins s σ H D I h
 exact wpAny_Expr_any (thn (he pins s σ H _ I h) λv s1 ⟨x,H1,I1,r1,q1⟩=>⟨σ,H1,I1,q1⟩) I.quiet hs
def CH (te:TE):TS:=λD σ H=>te σ H D.rt
theorem Lg (he:PE X e te):PS X (.Return (some e) pos) (CH te):=by
 intro pins s σ H D I h
 exact wpAny_Return_some (thn (he pins s σ H _ I h) λv s1 ⟨x,H1,I1,r1,q1⟩=>⟨x,σ,H1,I1,r1,q1⟩)
def CK (c:TT)(t u:TS):TS:=λD σ H=>c σ H λb H1=>if b=true then t D σ H1 else u D σ H1
theorem AY {c:Expr}{a b:List Stmt}{tc:TT}(hc:PT X c tc)(ha:PSs X a t)(hb:PSs X b u):PS X (.If c a b pos) (CK tc t u):=by
 intro pins s σ H D I h
 refine wpAny_If (thn (hc pins s σ H _ I h) λd s1 ⟨H1,I1,q1⟩=>?_)
 cases d with
 |true=>exact ha pins s1 σ H1 D I1 q1
 |false=>exact hb pins s1 σ H1 D I1 q1
end
abbrev TG:=V->St->Hp->(St->Hp->Prop)->Prop
abbrev TGs:=List V->St->Hp->(St->Hp->Prop)->Prop
def PG (X:Cx)(target:Expr)(t:TG):Prop:=
 ∀(pins:List (Addr×Obj)) (s:Shared) (σ:St) (H:Hp) (v:V) (u:Value) (Q:St->Hp->Prop),Inv X pins σ H s->ZS v u->t v σ H Q->
  wpAny (model X.prog X.w) X.A (assign target X.env u) (λ_ s'=>∃σ' H',Inv X pins σ' H' s'/\Q σ' H') X.xe s
def PGs (X:Cx)(ts:List Expr)(t:TGs):Prop:=
 ∀(pins:List (Addr×Obj)) (s:Shared) (σ:St) (H:Hp) (vs:List V) (us:List Value) (Q:St->Hp->Prop),Inv X pins σ H s->ZQ vs us->t vs σ H Q->
  wpAny (model X.prog X.w) X.A (assignInOrder ((assignEach ts X.env).map (·.2)) us) (λ_ s'=>∃σ' H',Inv X pins σ' H' s'/\Q σ' H') X.xe s
abbrev HK:=V->V->V->Hp->(Hp->Prop)->Prop
section
variable {X:Cx} {pos:Pos}
def Ub (i:Nat):TG:=λv σ H Q=>Q (σ.set i (some v)) H
theorem ZL {i:Nat}{x:Str}(hN:X.N.Nodup)(hi:X.N[i]? = some x)(hx:Loc X.env.scope x)(hf:X.fn x=true\/X.env.scope.names.lookup x=some .local:=by first|exact .inl rfl|exact .inr rfl|assumption):PG X (.Name x pos) (Ub i):=by
 intro pins s σ H v u Q I r h
 exact wpAny_assign_Name (T2 I hN hi hx r (λs' I'=>⟨_,H,I',h⟩) hf)
def A0:TGs:=λvs σ H Q=>vs=[]/\Q σ H
def BO (t:TG)(u:TGs):TGs:=λvs σ H Q=>∃v r,vs=v :: r/\t v σ H λσ' H'=>u r σ' H' Q
theorem Uy:PGs X [] A0:=by
 intro pins s σ H vs us Q I r h
 obtain⟨e,h⟩:=h
 subst e
 cases r
 exact assignInOrder_nil ⟨σ,H,I,h⟩
theorem YI {e:Expr}{es:List Expr}{t:TG}{u:TGs}(h1:PG X e t)(h2:PGs X es u)
  (hs:(assignEach (e :: es) X.env).map (·.2)=assign e X.env :: (assignEach es X.env).map (·.2):=by rfl):PGs X (e :: es) (BO t u):=by
 intro pins s σ H vs us Q I r h
 obtain⟨v,vr,e1,h⟩:=h
 subst e1
 cases r with
 |cons r rr=>
  rw [hs]
  refine assignInOrder_cons (thn (h1 pins s σ H _ _ _ I r h) λ_ s1 ⟨σ1,H1,I1,q1⟩=>?_)
  exact h2 pins s1 σ1 H1 _ _ Q I1 rr q1
def Ey (K:W4)(n:Nat)(t:TGs):TG:=λv σ H Q=>∃a xs,v = .ref a/\SqT K H a xs/\xs.length=n/\t xs σ H Q
theorem GU {es:List Expr}{k:Nat}{t:TGs}{n:Nat}(hc:X.calm=true)(h:PGs X es t)
  (hn:(assignEach es X.env).length=n:=by rfl) (hst:(assignEach es X.env).findIdx? (·.1)=none:=by rfl):PG X (.Tuple es k pos) (Ey X.K n t):=by
 intro pins s σ H v u Q I r hw
 obtain⟨a,xs,e1,hq,hl,hw⟩:=hw
 subst e1
 cases r
 obtain⟨its,rv,ht,hz⟩:=I.tuple hq
 refine assign_Tuple_tuple (I.ok.hd hc) ht (by simp [hn,←hl,rv.length]) hst λh' hx=>?_
 have I1:Inv X pins σ H { s with heap:=h' }:=I.kept (t':=s.toks) λb o e=>hx b o (WD (Wo e)) e
 exact h pins _ σ H xs _ Q I1 (by simpa using rv) hw
def Kl (to ti:TE)(t:HK):TG:=λv σ H Q=>to σ H λo H1=>ti σ H1 λi H2=>t o i v H2 λH3=>Q σ H3
def AE (te:TE)(g:TG):TS:=λD σ H=>te σ H λx H1=>g x σ H1 D.nx
theorem Li {tg e:Expr}{te:TE}{g:TG}(he:PE X e te)(hg:PG X tg g)(hs:swapsWithSole [tg] e pos.line X.env=pure false:=by rfl)(hw:swappedStores [tg] e X.env=pure none:=by rfl)
  (h1:(assignEach [tg] X.env).map (·.2)=[assign tg X.env]:=by rfl):PS X (.Assign [tg] e pos) (AE te g):=by
 intro pins s σ H D I h
 refine wpAny_Assign_stores (thn (he pins s σ H _ I h) λv s1 ⟨x,H1,I1,r1,q1⟩=>?_) hs hw
 rw [h1]
 exact thn (hg pins s1 σ H1 x v _ I1 r1 q1) λ_ s2 q=>q
theorem Lf {i:Nat}{x:Str}{e:Expr}{te:TE}{pos':Pos}(hN:X.N.Nodup)(hi:X.N[i]? = some x)(hx:Loc X.env.scope x)(he:PE X e te)(hs:swapsWith e (some (.Name x pos')) pos.line X.env=pure false:=by rfl)(hf:X.fn x=true\/X.env.scope.names.lookup x=some .local:=by first|exact .inl rfl|exact .inr rfl|assumption) :
  PS X (.Assign [.Name x pos'] e pos) (AE te (Ub i)):=by
 intro pins s σ H D I h
 refine wpAny_Assign_Name (thn (he pins s σ H _ I h) λv s1 ⟨y,H1,I1,r1,q1⟩=>?_) hs
 exact T2 I1 hN hi hx r1 (λs2 I2=>⟨_,H1,I2,q1⟩) hf
end
section
variable {X:Cx} {pos:Pos}
end
structure It where
 go:Nat->Hp->Prop
 yld:Nat->Hp->V->Hp->Prop
 stop:Nat->Hp->Prop
def Nh (X:Cx)(pins:List (Addr×Obj))(H:Hp)(b:Addr):Prop:=
 H b=none/\b≠X.env.locals/\b∉X.fs/\(b∈X.ex\/X.s₀.heap.objs.size≤b)/\(∀x c,X.env.cells.lookup x=some c->c≠b)/\∀p∈X.pn++pins,p.1≠b
theorem Inv.fpOk {X:Cx}{pins:List (Addr×Obj)}{σ:St}{H H':Hp}{s:Shared}{b:Addr}(I:Inv X pins σ H s)(hb:s.heap.objs.size≤b)(hn:H' b=none):Nh X pins H' b:=by
 refine⟨hn,W02 (Wv I.lt hb),I.nofs hb,.inr (Wz I.sz hb),λx c e z=>?_,λp hp z=>?_⟩
 ·obtain⟨v,q⟩:=I.cell x c e
  exact absurd (Wv q.lt (by rw [z];exact hb)) (Vb _)
 ·exact absurd (Wv (Wo (I.pin p hp).1) (by rw [z];exact hb)) (Vb _)
structure Turn (P:Program) (w:World) (K:W4) (tg:Expr) (J:It) (fp:List Addr) (it:Addr) (tn:Nat->Heap->Prop):Prop where
 mem:it∈fp
 obj:∀i h,tn i h->∀b∈fp,∃o,h.get? b=some o/\∀v,o.data≠.cell v
 keep:∀i h h',tn i h->(∀b∈fp,∀o,h.get? b=some o->h'.get? b=some o)->tn i h'
 item:∀(X:Cx),X.prog=P->X.w=w->X.K=K->X.calm=true->∀(i:Nat) (pins:List (Addr×Obj)) (s:Shared) (σ:St) (H:Hp) (E:Value->Shared->Prop),Inv X pins σ H s->(∀b∈fp,Nh X pins H b)->tn i s.heap->J.go i H->
  wpAny (model P w) X.A (pyNext (.ref it)) (λr s1=>∃u,r=some u/\
   wpAny (model P w) X.A (letOwnedTupleGo tg (.ref it) u) (λ_ s2=>∃x H',Inv X pins σ H' s2/\ZS x u/\J.yld i H x H'/\tn (i+1) s2.heap/\∀b∈fp,H' b=none) E s1) E s
 done:∀(X:Cx),X.prog=P->X.w=w->X.K=K->X.calm=true->∀(i:Nat) (pins:List (Addr×Obj)) (s:Shared) (σ:St) (H:Hp) (E:Value->Shared->Prop),Inv X pins σ H s->(∀b∈fp,Nh X pins H b)->tn i s.heap->J.stop i H->
  wpAny (model P w) X.A (pyNext (.ref it)) (λr s1=>r=none/\Inv X pins σ H s1) E s
 self:∀(A:Around) (i:Nat) (s:Shared) (Q:Value->Shared->Prop) (E:Value->Shared->Prop),tn i s.heap->Q (.ref it) s->wpAny (model P w) A (pyIter (.ref it)) Q E s
abbrev TI:=St->Hp->(It->Hp->Prop)->Prop
def PIE (X:Cx)(pins:List (Addr×Obj))(σ:St)(tg:Expr)(R:It->Hp->Prop)(itv:Value)(s2:Shared):Prop:=
 ∃(it:Addr) (fp:List Addr) (tn:Nat->Heap->Prop) (J:It) (H':Hp),itv = .ref it/\Inv X pins σ H' s2/\Turn X.prog X.w X.K tg J fp it tn/\tn 0 s2.heap/\(∀b∈fp,Nh X pins H' b)/\R J H'
def PI (X:Cx)(tg iter:Expr)(wi:TI):Prop:=
 ∀(pins:List (Addr×Obj)) (s:Shared) (σ:St) (H:Hp) (R:It->Hp->Prop),Inv X pins σ H s->wi σ H R->
  wpAny (model X.prog X.w) X.A (eval iter X.env) (λv s1=>wpAny (model X.prog X.w) X.A (pyIter v) (PIE X pins σ tg R) X.xe s1) X.xe s
theorem NQ {M:Model}{A:Around}{E:Value->Shared->Prop}{s:Shared}{tg:Expr}{it:Addr}{u:Value}{o:Obj}{n:String}{vs:Array Value}{Q:Unit->Shared->Prop}(ho:s.heap.get? it=some o)(hc:o.cls = .type n)(hd:o.data = .fields vs)
  (hn:["enumerate", "zip", "dict_itemiterator", "dict_reverseitemiterator", "odict_iterator", "itertools.zip_longest", "itertools.pairwise"].contains n=false) (hQ:Q () s):wpAny M A (letOwnedTupleGo tg (.ref it) u) Q E s:=by
 unfold letOwnedTupleGo
 cases tg<;>first
  |exact Wm hQ
  | (cases u<;>first
     |exact Wm hQ
     | (refine W9 (wpAny_load ho ?_)
        rw [hc,hd]
        show wpAny M A (if (["enumerate", "zip", "dict_itemiterator", "dict_reverseitemiterator", "odict_iterator", "itertools.zip_longest", "itertools.pairwise"].contains n&&vs[0]? == some (rawInt _))=true then _ else _) Q E s
        rw [if_neg (by intro h;rw [hn,W0j] at h;cases h)]
        exact Wm hQ))
def Itl (K:W4)(a:Addr):It:=
 ⟨λi H=>∃xs x,SqL K H a xs/\xs[i]? = some x,λi H x H'=>H'=H/\∀xs,SqL K H a xs->xs[i]? = some x,λi H=>∃xs,SqL K H a xs/\xs.length≤i⟩
def Itt (K:W4)(a:Addr):It:=
 ⟨λi H=>∃xs x,SqT K H a xs/\xs[i]? = some x,λi H x H'=>H'=H/\∀xs,SqT K H a xs->xs[i]? = some x,λi H=>∃xs,SqT K H a xs/\xs.length≤i⟩
def Itr (lo:Int)(n:Nat):It:=⟨λi _=>i<n,λi H x H'=>H'=H/\x = .int (lo+i),λi _=>n≤i⟩
theorem Gu {P:Program}{w:World}{K:W4}{tg:Expr}(a it:Addr):Turn P w K tg (Itl K a) [it] it (λi h=>h.IsListIter it a i) where
 mem:=by simp
 obj:=λi h st b hb=>by
  have e:b=it:=by simpa using hb
  subst e
  obtain⟨o,e,c,d⟩:=st
  exact⟨o,e,λv z=>by rw [d] at z;cases z⟩
 keep:=λi h h' st k=>st.at λo e=>k it (by simp) o e
 item:=by
  intro X hP hw hK hc i pins s σ H E I hf st hg
  subst hP hw hK
  obtain⟨xs,x,hq,hx⟩:=hg
  obtain⟨its,rv,p,hz⟩:=I.list hq
  obtain⟨u,hu,ru⟩:=rv.get hx
  obtain⟨f0,f1,f2,f3,f4,f5⟩:=hf it (by simp)
  refine wpAny_pyNext_list_item st p.isList (x:=u) (by simpa using hu) λh' st' sb=>?_
  have I1:Inv X pins σ H { s with heap:=h' }:=I.turned (t':=s.toks) (λb o hb e=>(sb.2 b hb).trans e) f0 f1 f3 f4 f5
  obtain⟨o,e,c,d⟩:=id st'
  exact⟨u,rfl,NQ (s:={ s with heap:=h' }) e c d (by decide) ⟨x,H,I1,ru,⟨rfl,λys hy=>by rw [I.list_inj hy hq];exact hx⟩,st',λb hb=>(hf b hb).1⟩⟩
 done:=by
  intro X hP hw hK hc i pins s σ H E I hf st hg
  subst hP hw hK
  obtain⟨xs,hq,hx⟩:=hg
  obtain⟨its,rv,p,hz⟩:=I.list hq
  obtain⟨f0,f1,f2,f3,f4,f5⟩:=hf it (by simp)
  have hl:=rv.length
  exact wpAny_pyNext_list_end (I.ok.hd hc) st p.isList (by simp;omega) λh' eb=>⟨rfl,I.turned (t':=s.toks) (λb o hb e=>eb b o hb e) f0 f1 f3 f4 f5⟩
 self:=λ_ _ _ _ _ st h=>wpAny_pyIter_listiter st h
theorem TN {P:Program}{w:World}{K:W4}{tg:Expr}(a it:Addr):Turn P w K tg (Itt K a) [it] it (λi h=>h.IsTupleIter it a i) where
 mem:=by simp
 obj:=λi h st b hb=>by
  have e:b=it:=by simpa using hb
  subst e
  obtain⟨o,e,c,d⟩:=st
  exact⟨o,e,λv z=>by rw [d] at z;cases z⟩
 keep:=λi h h' st k=>st.at λo e=>k it (by simp) o e
 item:=by
  intro X hP hw hK hc i pins s σ H E I hf st hg
  subst hP hw hK
  obtain⟨xs,x,hq,hx⟩:=hg
  obtain⟨its,rv,p,hz⟩:=I.tuple hq
  obtain⟨u,hu,ru⟩:=rv.get hx
  obtain⟨f0,f1,f2,f3,f4,f5⟩:=hf it (by simp)
  refine wpAny_pyNext_tuple_item st (show s.heap.IsTuple a its.toArray from p) (x:=u) (by simpa using hu) λh' st' sb=>?_
  have I1:Inv X pins σ H { s with heap:=h' }:=I.turned (t':=s.toks) (λb o hb e=>(sb.2 b hb).trans e) f0 f1 f3 f4 f5
  obtain⟨o,e,c,d⟩:=id st'
  exact⟨u,rfl,NQ (s:={ s with heap:=h' }) e c d (by decide) ⟨x,H,I1,ru,⟨rfl,λys hy=>by rw [I.tuple_inj hy hq];exact hx⟩,st',λb hb=>(hf b hb).1⟩⟩
 done:=by
  intro X hP hw hK hc i pins s σ H E I hf st hg
  subst hP hw hK
  obtain⟨xs,hq,hx⟩:=hg
  obtain⟨its,rv,p,hz⟩:=I.tuple hq
  obtain⟨f0,f1,f2,f3,f4,f5⟩:=hf it (by simp)
  have hl:=rv.length
  exact wpAny_pyNext_tuple_end (I.ok.hd hc) st (show s.heap.IsTuple a its.toArray from p) (by simp;omega) λh' eb=>⟨rfl,I.turned (t':=s.toks) (λb o hb e=>eb b o hb e) f0 f1 f3 f4 f5⟩
 self:=λ_ _ _ _ _ st h=>wpAny_pyIter_tupleiter st h
theorem TQ {P:Program}{w:World}{K:W4}{tg:Expr}(it:Addr)(lo:Int)(n:Nat):Turn P w K tg (Itr lo n) [it] it (λi h=>IsRangeIter h it (lo+(i:Nat)*1) ((n:Int)-(i:Nat)) 1) where
 mem:=by simp
 obj:=λi h st b hb=>by
  have e:b=it:=by simpa using hb
  subst e
  exact⟨_,st,λv z=>by
   have z':Data.fields _=Data.cell v:=z
   cases z'⟩
 keep:=λi h h' st k=>k it (by simp) _ st
 item:=by
  intro X hP hw hK hc i pins s σ H E I hf st hg
  subst hP hw hK
  obtain⟨f0,f1,f2,f3,f4,f5⟩:=hf it (by simp)
  have W:=Walks.range (prog:=X.prog) (w:=X.w) (I.ok.hd hc) it lo 1 n
  refine W.item i s _ _ hg st λv h' tk hv st' kk=>?_
  obtain⟨t,rfl⟩:=hv
  have I1:Inv X pins σ H { s with heap:=h',toks:=tk }:=I.turned (λb o hb e=>kk b o (by simpa using hb) e) f0 f1 f3 f4 f5
  refine⟨_,rfl,NQ (s:={ s with heap:=h',toks:=tk }) (n:="range_iterator") st' rfl rfl (by decide) ⟨.int (lo+i),H,I1,⟨t,?_⟩,⟨rfl,rfl⟩,st',λb hb=>(hf b hb).1⟩⟩
  rw [Int.mul_one]
 done:=by
  intro X hP hw hK hc i pins s σ H E I hf st hg
  subst hP hw hK
  obtain⟨f0,f1,f2,f3,f4,f5⟩:=hf it (by simp)
  exact wpAny_pyNext_range_end (I.ok.hd hc) st (by have:n≤i:=hg;omega) λh' eb=>⟨rfl,I.turned (t':=s.toks) (λb o hb e=>eb b o hb e) f0 f1 f3 f4 f5⟩
 self:=λ_ _ _ _ _ st h=>wpAny_pyIter_rangeiter st h
end L2
namespace L2
open PySem PySem.Spec PyProof.Rows
section
variable {X:Cx} {tg:Expr}
theorem Nu {pins:List (Addr×Obj)}{σ:St}{H:Hp}{s:Shared}{R:It->Hp->Prop}{E:Value->Shared->Prop}{lo hi:Int}{t u v:Tok}{tk:Nat}(I:Inv X pins σ H s)(h1 : -(2 ^ 62)≤lo)(h2:lo<2 ^ 62)(h3 : -(2 ^ 62)≤hi)(h4:hi<2 ^ 62)
  (q:R (Itr lo (hi-lo).toNat) H):wpAny (model X.prog X.w) X.A (pyIter (.ref s.heap.objs.size)) (PIE X pins σ tg R) E { s with heap:=s.heap.push { cls:=.type "range",data:=.fields #[.int lo t,.int hi u,.int 1 v] },toks:=tk }:=by
 refine wpAny_pyIter_range (IsRange.new ..) (small_one h1 h2 h3 h4) ?_
 have I1:Inv X pins σ H { s with heap:=s.heap.push { cls:=.type "range",data:=.fields #[.int lo t,.int hi u,.int 1 v] },toks:=tk }:=I.kept λb o e=>Wj _ e
 refine⟨(s.heap.push { cls:=.type "range",data:=.fields #[.int lo t,.int hi u,.int 1 v] }).objs.size,[(s.heap.push { cls:=.type "range",data:=.fields #[.int lo t,.int hi u,.int 1 v] }).objs.size],_,_,H,rfl,
  I1.kept (t':=tk) λb o e=>Wj _ e,TQ _ lo (hi-lo).toNat,?_,λb hb=>?_,q⟩
 ·have e1:lo+((0:Nat):Int)*1=lo:=by simp
  have e2:(((hi-lo).toNat:Nat):Int)-((0:Nat):Int)=Builtin.Range.rangeSize lo hi 1:=by rw [rangeSize_one];split<;>omega
  show IsRangeIter _ _ (lo+((0:Nat):Int)*1) ((((hi-lo).toNat:Nat):Int)-((0:Nat):Int)) 1
  rw [e1,e2]
  exact Ws _ rfl
 ·have e:b=(s.heap.push { cls:=.type "range",data:=.fields #[.int lo t,.int hi u,.int 1 v] }).objs.size:=by simpa using hb
  subst e
  exact I1.fpOk (Wu _) (I1.hok.fresh (Wu _))
def Ew (ta:TA):TI:=λσ H R=>ta σ H λvs H1=>∃j:Int,vs=[.int j]/\-(2 ^ 62)≤j/\j<2 ^ 62/\R (Itr 0 j.toNat) H1
theorem GS {a:Expr}{ta:TA}{p pos:Pos}(hg:Gl X "range")(hm:X.mg "range" = none)(ha:PA X [a] ta)(hs:Wr [a] X.env=[(false,eval a X.env)]:=by rfl):PI X tg (.Call (.Name "range" p) [a] [] pos) (Ew ta):=by
 intro pins s σ H R I h
 refine Call_ (JW I hg hm boot_range (VC (thn (ha pos pins s σ H _ I h) λus s1 ⟨vs,H1,I1,r1,q1⟩=>?_) hs rfl))
 obtain⟨j,e,q1,q2,q⟩:=q1
 subst e
 cases r1 with
 |cons r rr=>
  cases rr
  obtain⟨t,rfl⟩:=r
  exact call_range_1 (Nu I1 (by omega) (by omega) q1 q2 (by simpa using q))
def CL (wi:TI)(g:TG)(tb:TS):TS:=λD σ H=>wi σ H λJ H1=>∃W:Nat->Nat->St->Hp->Prop,(∃m,W 0 m σ H1)/\∀i m σ H,W i m σ H->
 (J.stop i H/\D.nx σ H)\/(J.go i H/\∃N:St->Hp->Prop,(∀σ' H',N σ' H'->∃m',m'<m/\W (i+1) m' σ' H')/\∀x H',J.yld i H x H'->g x σ H' λσ2 H2=>tb { D with nx:=N,ct:=N,bk:=D.nx } σ2 H2)
def JP (fp:List Addr)(h:Heap):List (Addr×Obj):=fp.filterMap λb=>(h.get? b).map λo=>(b,o)
theorem YJ {fp:List Addr}{h:Heap}{b:Addr}{o:Obj}(hb:b∈fp)(e:h.get? b=some o):(b,o)∈JP fp h:=List.mem_filterMap.mpr ⟨b,hb,by rw [e];rfl⟩
theorem GZ {fp:List Addr}{h:Heap}{p:Addr×Obj}(hp:p∈JP fp h):p.1∈fp/\h.get? p.1=some p.2:=by
 obtain⟨b,hb,e⟩:=List.mem_filterMap.mp hp
 cases q:h.get? b with
 |none=>rw [q] at e;cases e
 |some o=>
  rw [q] at e
  have e':(b,o)=p:=WM e
  subst e'
  exact⟨hb,q⟩
theorem Inv.pinned {pins:List (Addr×Obj)}{σ:St}{H:Hp}{s:Shared}{fp:List Addr}(I:Inv X pins σ H s)(hf:∀b∈fp,Nh X pins H b)(ho:∀b∈fp,∃o,s.heap.get? b=some o/\∀v,o.data≠.cell v):Inv X (pins++JP fp s.heap) σ H s:=
 I.pins_of λp hp=>(V6.mp hp).elim (λz=>I.pin p (WB _ z)) λz=>by
  obtain⟨hb,e⟩:=GZ z
  obtain⟨f0,f1,f2,_⟩:=hf p.1 hb
  obtain⟨o,e',d⟩:=ho p.1 hb
  rw [e] at e';cases e'
  exact⟨e,f0,f1,f2,d⟩
theorem Inv.unpinned {pins pl:List (Addr×Obj)}{σ:St}{H:Hp}{s:Shared}(I:Inv X (pins++pl) σ H s):Inv X pins σ H s:=I.pins_of λp hp=>I.pin p (WB _ (W03 _ hp))
theorem Lh {iter:Expr}{body:List Stmt}{wi:TI}{g:TG}{tb:TS}{pos:Pos}(hp:PassesOwn (model X.prog X.w) X.A X.env X.xe)(hc:X.calm=true)(hi:PI X tg iter wi)(hg:PG X tg g)(hb:PSs X body tb)
  (hs:∀x,foldedSetIterable iter X.env x=pure x:=by intro _;rfl):PS X (.For tg iter body [] pos) (CL wi g tb):=by
 intro pins s σ H D I h
 refine wpAny_For (thn (hi pins s σ H _ I h) λv s1 h1=>thn h1 λitv s2 h2=>?_) hs
 obtain⟨it,fp,tn,J,H2,e,I2,T,st2,f2,W,⟨m0,w0⟩,turn⟩:=h2
 subst e
 -- what stays true of the iterator's objects through the loop
 have stat:∀{H':Hp},(∀b∈fp,H' b=none)->∀b∈fp,Nh X pins H' b:=λhn b hb=>⟨hn b hb,(f2 b hb).2⟩
 refine codeAny_forLoop_any (λn s'=>∃i σ' H',Inv X pins σ' H' s'/\tn i s'.heap/\(∀b∈fp,H' b=none)/\W i n σ' H') ?_ m0 ⟨0,σ,H2,I2,st2,λb hb=>(f2 b hb).1,w0⟩
 rintro n s3 ⟨i,σ3,H3,I3,st3,fr3,w3⟩
 rcases turn i n σ3 H3 w3 with ⟨stop,qn⟩|⟨go,N,hN,step⟩
 ·refine VO hp (thn (T.done X rfl rfl rfl hc i pins s3 σ3 H3 X.xe I3 (stat fr3) st3 stop) λr s4 ⟨hr,I4⟩=>?_)
  subst hr
  exact wpAny_execs_nil ⟨σ3,H3,I4,qn⟩
 ·refine VO hp (thn (T.item X rfl rfl rfl hc i pins s3 σ3 H3 X.xe I3 (stat fr3) st3 go) λr s4 ⟨u,hr,h4⟩=>?_)
  subst hr
  refine VO hp (thn h4 λ_ s5 ⟨x,H5,I5,r5,y5,st5,fr5⟩=>?_)
  have I5':=I5.pinned (stat fr5) (T.obj _ _ st5)
  refine VO hp (thn (hg _ s5 σ3 H5 x u _ I5' r5 (step x H5 y5)) λ_ s6 ⟨σ6,H6,I6,q6⟩=>?_)
  refine VO hp (thn (hb _ s6 σ6 H6 _ I6 q6) λf s7 q7=>?_)
  have again:∀{σ7:St} {H7:Hp},Inv X (pins++JP fp s5.heap) σ7 H7 s7->N σ7 H7->∃m,m<n/\∃i σ' H',Inv X pins σ' H' s7/\tn i s7.heap/\(∀b∈fp,H' b=none)/\W i m σ' H':=λ{σ7 H7} I7 n7=>by
   obtain⟨m',hm,w7⟩:=hN σ7 H7 n7
   refine⟨m',hm,i+1,σ7,H7,I7.unpinned,T.keep _ _ _ st5 λb hb o e=>(I7.pin (b,o) (WB _ (WB _ (YJ hb e)))).1,λb hb=>?_,w7⟩
   obtain⟨o,e,d⟩:=T.obj _ _ st5 b hb
   exact (I7.pin (b,o) (WB _ (WB _ (YJ hb e)))).2.1
  cases f with
  |next=>obtain⟨σ7,H7,I7,n7⟩:=q7;exact again I7 n7
  |cont=>obtain⟨σ7,H7,I7,n7⟩:=q7;exact again I7 n7
  |brk=>obtain⟨σ7,H7,I7,q7⟩:=q7;exact⟨σ7,H7,I7.unpinned,q7⟩
  |ret v=>obtain⟨x7,σ7,H7,I7,r7,q7⟩:=q7;exact⟨x7,σ7,H7,I7.unpinned,r7,q7⟩
end
end L2
namespace L2
open PySem PySem.Spec PyProof.Rows
abbrev R2:=V->V->Hp->VK->Prop
def OpR (X:Cx)(f:Value->Value->Sem Value)(r:R2):Prop:=
 ∀(pins:List (Addr×Obj)) (s:Shared) (σ:St) (H:Hp) (x y:V) (v u:Value) (Q:VK),Inv X pins σ H s->ZS x v->ZS y u->r x y H Q->
  wpAny (model X.prog X.w) X.A (f v u) (EP X pins σ Q) X.xe s
def UnR (X:Cx)(f:Value->Sem Value)(r:V->Hp->VK->Prop):Prop:=
 ∀(pins:List (Addr×Obj)) (s:Shared) (σ:St) (H:Hp) (x:V) (v:Value) (Q:VK),Inv X pins σ H s->ZS x v->r x H Q->
  wpAny (model X.prog X.w) X.A (f v) (EP X pins σ Q) X.xe s
def YH (X:Cx)(f:Value)(r:List V->Hp->VK->Prop):Prop:=
 ∀(pins:List (Addr×Obj)) (s:Shared) (σ:St) (H:Hp) (xs:List V) (us:List Value) (Q:VK),Inv X pins σ H s->ZQ xs us->r xs H Q->
  wpAny (model X.prog X.w) X.A (call f us) (EP X pins σ Q) X.xe s
def CC (X:Cx)(r:V->Hp->(Bool->Hp->Prop)->Prop):Prop:=
 ∀(pins:List (Addr×Obj)) (s:Shared) (σ:St) (H:Hp) (x:V) (v:Value) (Q:Bool->Hp->Prop),Inv X pins σ H s->ZS x v->r x H Q->
  wpAny (model X.prog X.w) X.A (truthy v) (TP X pins σ Q) X.xe s
def tOp (r:R2)(ta tb:TE):TE:=λσ H Q=>ta σ H λx H1=>tb σ H1 λy H2=>r x y H2 Q
def tUn (r:V->Hp->VK->Prop)(ta:TE):TE:=λσ H Q=>ta σ H λx H1=>r x H1 Q
def rI (C:Int->Int->Prop)(g:Int->Int->V):R2:=λx y H Q=>∃i j,x = .int i/\y = .int j/\C i j/\Q (g i j) H
def rI0 (g:Int->Int->V):R2:=λx y H Q=>∃i j,x = .int i/\y = .int j/\Q (g i j) H
def rU (g:Int->V):V->Hp->VK->Prop:=λx H Q=>∃i,x = .int i/\Q (g i) H
section
variable {X:Cx} {a b c:Expr} {ta tb tc:TE} {pos:Pos}
theorem EC (ha:PE X a ta)(hb:PE X b tb){pins:List (Addr×Obj)}{s:Shared}{σ:St}{H:Hp}{R:V->V->Hp->Prop}(I:Inv X pins σ H s)
  (h:ta σ H λx H1=>tb σ H1 λy H2=>R x y H2) {Q:Value->Shared->Prop} {f:Value->Value->Sem Value}
  (hf:∀v u s2 x y H2,Inv X pins σ H2 s2->ZS x v->ZS y u->R x y H2->wpAny (model X.prog X.w) X.A (f v u) Q X.xe s2) :
  wpAny (model X.prog X.w) X.A (eval a X.env) (λv s₁=>wpAny (model X.prog X.w) X.A (eval b X.env) (λu s₂=>wpAny (model X.prog X.w) X.A (f v u) Q X.xe s₂) X.xe s₁) X.xe s:=by
 refine thn (ha pins s σ H _ I h) λv s1 ⟨x,H1,I1,r1,q1⟩=>?_
 refine thn (hb pins s1 σ H1 _ I1 q1) λu s2 ⟨y,H2,I2,r2,q2⟩=>?_
 exact hf v u s2 x y H2 I2 r1 r2 q2
theorem E5 {op:Operator}{r:R2}(ho:OpR X (binaryOp op) r)(ha:PE X a ta)(hb:PE X b tb):PE X (.BinOp a op b pos) (tOp r ta tb):=by
 intro pins s σ H Q I h
 exact wpAny_BinOp (EC ha hb I h λv u s2 x y H2 I2 rx ry q=>ho pins s2 σ H2 x y v u Q I2 rx ry q)
theorem AZ {op:UnaryOp}{r:V->Hp->VK->Prop}(ho:UnR X (unaryOp op) r)(ha:PE X a ta):PE X (.UnaryOp op a pos) (tUn r ta):=by
 intro pins s σ H Q I h
 exact UnaryOp_ (thn (ha pins s σ H _ I h) λv s1 ⟨x,H1,I1,r1,q1⟩=>ho pins s1 σ H1 x v Q I1 r1 q1)
theorem opI {f:Value->Value->Sem Value}{C:Int->Int->Prop}{g:Int->Int->Int}
  (rule:∀(i j:Int) (t u:Tok) (s:Shared) (Q:Value->Shared->Prop) (E:Value->Shared->Prop),C i j->Q (.int (g i j) s.toks) { s with toks:=s.toks+1 }->wpAny (model X.prog X.w) X.A (f (.int i t) (.int j u)) Q E s) :
  OpR X f (rI C λi j=>.int (g i j)):=by
 intro pins s σ H x y v u Q I rx ry h
 obtain⟨i,j,rfl,rfl,hc,q⟩:=h
 obtain⟨t,rfl⟩:=rx
 obtain⟨t',rfl⟩:=ry
 exact rule i j t t' s _ _ hc ⟨.int (g i j),H,I.tok _,⟨_,rfl⟩,q⟩
theorem EO {f:Value->Value->Sem Value}{g:Int->Int->Int}
  (rule:∀(i j:Int) (t u:Tok) (s:Shared) (Q:Value->Shared->Prop) (E:Value->Shared->Prop),Q (.int (g i j) s.toks) { s with toks:=s.toks+1 }->wpAny (model X.prog X.w) X.A (f (.int i t) (.int j u)) Q E s) :
  OpR X f (rI0 λi j=>.int (g i j)):=by
 intro pins s σ H x y v u Q I rx ry h
 obtain⟨i,j,rfl,rfl,q⟩:=h
 obtain⟨t,rfl⟩:=rx
 obtain⟨t',rfl⟩:=ry
 exact rule i j t t' s _ _ ⟨.int (g i j),H,I.tok _,⟨_,rfl⟩,q⟩
theorem Ec {f:Value->Value->Sem Value}{g:Int->Int->Bool}
  (rule:∀(i j:Int) (t u:Tok) (s:Shared) (Q:Value->Shared->Prop) (E:Value->Shared->Prop),Q (.bool (g i j)) s->wpAny (model X.prog X.w) X.A (f (.int i t) (.int j u)) Q E s) :
  OpR X f (rI0 λi j=>.bl (g i j)):=by
 intro pins s σ H x y v u Q I rx ry h
 obtain⟨i,j,rfl,rfl,q⟩:=h
 obtain⟨t,rfl⟩:=rx
 obtain⟨t',rfl⟩:=ry
 exact rule i j t t' s _ _ ⟨.bl (g i j),H,I,rfl,q⟩
def EF (i j:Int):Prop:=(-(2 ^ 64)<i/\i<2 ^ 64)\/(-(2 ^ 64)<j/\j<2 ^ 64)
theorem EF.ok {i j:Int}(h:EF i j):IntMulOk i j:=by
 rcases h with ⟨h1,h2⟩|⟨h1,h2⟩
 ·exact .of_left (intBits_le_64 h1 h2)
 ·exact .of_right (intBits_le_64 h1 h2)
theorem LE:OpR X (binaryOp .Add) (rI0 λi j=>.int (i+j)):=EO λ_ _ _ _ _ _ _ q=>add_int q
theorem Ly:OpR X (binaryOp .Sub) (rI0 λi j=>.int (i-j)):=EO λ_ _ _ _ _ _ _ q=>sub_int q
theorem Lz:OpR X (binaryOp .Mult) (rI EF λi j=>.int (i*j)):=opI λ_ _ _ _ _ _ _ hc q=>mul_int q hc.ok
theorem LA:OpR X (binaryOp .Mod) (rI (λ_ j=>0<j) λi j=>.int (i%j)):=opI λi j _ _ _ _ _ hc q=>by
 have h1:(0:Int)<j:=hc
 exact mod_int' (by omega) (by rw [Int.fmod_eq_emod_of_nonneg i (by omega)];exact q)
theorem unI {f:Value->Sem Value}{g:Int->Int}
  (rule:∀(i:Int) (t:Tok) (s:Shared) (Q:Value->Shared->Prop) (E:Value->Shared->Prop),Q (.int (g i) s.toks) { s with toks:=s.toks+1 }->wpAny (model X.prog X.w) X.A (f (.int i t)) Q E s) :
  UnR X f (rU λi=>.int (g i)):=by
 intro pins s σ H x v Q I rx h
 obtain⟨i,rfl,q⟩:=h
 obtain⟨t,rfl⟩:=rx
 exact rule i t s _ _ ⟨.int (g i),H,I.tok _,⟨_,rfl⟩,q⟩
theorem PD:UnR X (unaryOp .USub) (rU λi=>.int (-i)):=unI λ_ _ _ _ _ q=>neg_int q
end
section
variable {X:Cx} {a b c:Expr} {ta tb tc:TE} {pos:Pos}
theorem ZV {pins:List (Addr×Obj)}{σ:St}{H:Hp}{s:Shared}{Q:VK}{k k':Bool}(I:Inv X pins σ H s)(q:Q (.bl k) H)(e:k=k'):EP X pins σ Q (.bool k') s:=by
 subst e
 exact⟨.bl k,H,I,rfl,q⟩
theorem E9:OpR X (compareOp .LtE) (rI0 λi j=>.bl (decide (i≤j))):=Ec λ_ _ _ _ _ _ _ q=>le_int q
theorem Ea:OpR X (compareOp .Gt) (rI0 λi j=>.bl (decide (j<i))):=Ec λ_ _ _ _ _ _ _ q=>gt_int q
theorem Eb:OpR X (compareOp .GtE) (rI0 λi j=>.bl (decide (j≤i))):=Ec λ_ _ _ _ _ _ _ q=>ge_int q
theorem LB:OpR X (compareOp .Is) (λx y H Q=>y = .non/\Q (.bl (decide (x = .non))) H):=by
 intro pins s σ H x y v u Q I rx ry h
 obtain⟨rfl,q⟩:=h
 cases ry
 refine is_none_gen (ZV I q ?_)
 cases x<;>first
  | (cases rx;rfl)
  | (obtain⟨t,rfl⟩:=rx;rfl)
theorem RB:OpR X (compareOp .IsNot) (λx y H Q=>y = .non/\Q (.bl (!decide (x = .non))) H):=by
 intro pins s σ H x y v u Q I rx ry h
 obtain⟨rfl,q⟩:=h
 cases ry
 refine isnot_none_gen (ZV I q ?_)
 cases x<;>first
  | (cases rx;rfl)
  | (obtain⟨t,rfl⟩:=rx;rfl)
theorem OpR.or {f:Value->Value->Sem Value}{r r':R2}(h:OpR X f r)(h':OpR X f r'):OpR X f (λx y H Q=>r x y H Q\/r' x y H Q):=by
 intro pins s σ H x y v u Q I rx ry q
 rcases q with q|q
 ·exact h pins s σ H x y v u Q I rx ry q
 ·exact h' pins s σ H x y v u Q I rx ry q
theorem Zx (b:Expr){op:CmpOp}(h:op≠.In:=by decide)(h2:op≠.NotIn:=by decide):behindInMarks op b=false:=by
 have e1:(op == CmpOp.In)=false:=by cases op<;>first|rfl|exact absurd rfl h
 have e2:(op == CmpOp.NotIn)=false:=by cases op<;>first|rfl|exact absurd rfl h2
 cases b<;>simp [behindInMarks,e1,e2]
theorem Rv {op:CmpOp}{r:R2}(ho:OpR X (compareOp op) r)(ha:PE X a ta)(hb:PE X b tb)(hm:behindInMarks op b=false):PE X (.Compare a [op] [b] pos) (tOp r ta tb):=by
 intro pins s σ H Q I h
 exact wpAny_Compare1 (EC ha hb I h λv u s2 x y H2 I2 rx ry q=>ho pins s2 σ H2 x y v u Q I2 rx ry q) hm
def PR (t:TE):TT:=λσ H Q=>t σ H λx H'=>∃k,x = .bl k/\Q k H'
theorem Rh {op:CmpOp}{r:R2}(ho:OpR X (compareOp op) r)(ha:PE X a ta)(hb:PE X b tb)(hm:behindInMarks op b=false):PT X (.Compare a [op] [b] pos) (PR (tOp r ta tb)):=by
 intro pins s σ H Q I h
 refine wpAny_isTrue_Compare1 (thn (ha pins s σ H _ I h) λv s1 ⟨x,H1,I1,r1,q1⟩=>thn (hb pins s1 σ H1 _ I1 q1) λu s2 ⟨y,H2,I2,r2,q2⟩=>
  thn (ho pins s2 σ H2 x y v u _ I2 r1 r2 q2) λc s3 ⟨z,H3,I3,r3,k,e,q3⟩=>?_) hm
 subst e
 cases r3
 exact W0l ⟨H3,I3,q3⟩
def CB (K:W4)(x:V)(H:Hp)(k:Bool):Prop:=
 match x with
 | .non=>k=false
 | .bl b=>k=b
 | .int i=>k=(i != 0)
 | .str y=>y.length≤Wk/\k=((y.length:Int) != 0)
 | .byt y=>y.size≤Wk/\k=((y.size:Int) != 0)
 | .ref p=>(∃xs,SqL K H p xs/\k = !xs.isEmpty)\/(∃xs,SqT K H p xs/\k = !xs.isEmpty)\/∃kvs,H p=some (.dK kvs)/\k = !kvs.isEmpty
 |_=>False
theorem G6 {κ:Type}{kvs:List (κ×V)}{vs:List (κ×Value)}(r:KV kvs vs):(!vs.isEmpty) = !kvs.isEmpty:=by
 cases r<;>rfl
theorem J0 {xs:List V}{its:List Value}(r:ZQ xs its):(!its.toArray.isEmpty) = !xs.isEmpty:=by
 cases r<;>simp
theorem QX:(Wk:Nat)<2 ^ 63:=by rw [VZ];decide
theorem PK:CC X (λx H Q=>∃k,CB X.K x H k/\Q k H):=by
 intro pins s σ H x v Q I rx h
 obtain⟨k,e,q⟩:=h
 have hl:=QX
 have hs:Wk=16777216:=VZ
 cases x with
 |non=>
  cases rx
  have e':k=false:=e
  subst e'
  exact truthy_none ⟨H,I,q⟩
 |bl b=>
  cases rx
  have e':k=b:=e
  subst e'
  exact W0l ⟨H,I,q⟩
 |int i=>
  obtain⟨t,rfl⟩:=rx
  have e':k=(i != 0):=e
  subst e'
  exact PySem.P.truthy_int ⟨H,I,q⟩
 |str y=>
  obtain⟨t,rfl⟩:=rx
  obtain⟨hy,e'⟩:y.length≤Wk/\k=((y.length:Int) != 0):=e
  subst e'
  exact PySem.P.truthy_str (by omega) ⟨H,I.tok _,q⟩
 |byt y=>
  obtain⟨t,rfl⟩:=rx
  obtain⟨hy,e'⟩:y.size≤Wk/\k=((y.size:Int) != 0):=e
  subst e'
  exact PySem.W.truthy_bytes (by omega) ⟨H,I.tok _,q⟩
 |ref p=>
  cases rx
  have e':(∃xs,SqL X.K H p xs/\k = !xs.isEmpty)\/(∃xs,SqT X.K H p xs/\k = !xs.isEmpty)\/∃kvs,H p=some (.dK kvs)/\k = !kvs.isEmpty:=e
  rcases e' with ⟨xs,hx,e'⟩|⟨xs,hx,e'⟩|⟨kvs,hx,e'⟩
  ·subst e'
   obtain⟨its,r,pl,hz⟩:=I.list hx
   have hlen:=r.length
   exact wpAny_truthy_list pl.isList (by simp only [Wl];omega) ⟨H,I.tok _,by rw [J0 r];exact q⟩
  ·subst e'
   obtain⟨its,r,pl,hz⟩:=I.tuple hx
   have hlen:=r.length
   exact truthy_tuple pl (by simp only [Wl];omega) ⟨H,I.tok _,by rw [J0 r];exact q⟩
  ·subst e'
   obtain⟨hz,hS,vs,r,m⟩:kvs.length≤Wk/\(p == sysModules)=false/\∃vs,KV kvs vs/\s.heap.DictOf (ZX X.prog X.w) p vs:=I.hok p _ hx
   have hlen:kvs.length=vs.length:=W05 r
   exact wpAny_truthy_dict hS m (by omega) ⟨H,I.tok _,by rw [G6 r];exact q⟩
 |_=>exact (show False from e).elim
theorem TY:OpR X (binaryOp .Add) (λx y H Q=>∃i j,x = .str i/\y = .str j/\i.length+j.length≤Wk/\Q (.str (i++j)) H):=by
 intro pins s σ H x y v u Q I rx ry h
 obtain⟨i,j,rfl,rfl,hz,q⟩:=h
 obtain⟨t,rfl⟩:=rx
 obtain⟨t',rfl⟩:=ry
 exact add_str (λt' tk=>⟨.str (i++j),H,I.tok _,⟨_,rfl⟩,q⟩) hz
theorem JD {x:V}{us:List Value}(r:ZQ [x] us):∃u,us=[u]/\ZS x u:=by
 cases r with
 |cons r1 r2=>cases r2;exact⟨_,rfl,r1⟩
theorem Gn {x y:V}{us:List Value}(r:ZQ [x,y] us):∃u w',us=[u,w']/\ZS x u/\ZS y w':=by
 cases r with
 |cons r1 r2=>
  cases r2 with
  |cons r3 r4=>cases r4;exact⟨_,_,rfl,r1,r3⟩
theorem N3 (hc:X.calm=true):YH X (.builtin "min") (λxs H Q=>∃i j,xs=[.int i,.int j]/\Q (.int (if j<i then j else i)) H):=by
 intro pins s σ H xs us Q I r h
 obtain⟨i,j,rfl,q⟩:=h
 obtain⟨u,w',rfl,⟨t,rfl⟩,⟨t',rfl⟩⟩:=Gn r
 refine min_two_ints (I.ok.hd hc) λh' tk k=>⟨_,H,I.kept k,?_,q⟩
 by_cases hj:j<i
 ·rw [if_pos hj,if_pos hj];exact⟨_,rfl⟩
 ·rw [if_neg hj,if_neg hj];exact⟨_,rfl⟩
end
end L2
namespace L2
open PySem PySem.Spec PyProof.Rows
structure ObjM (h:Heap) (x dx C:Addr) (mA:Str->Option Value):Prop where
 obj:h.get? x=some (PySem.W.instObj C dx)
 ns:h.Ns1 dx mA
 ne:dx≠x
theorem B9 {h:Heap}{dx:Addr}{mA:Str->Option Value}(n:h.Ns1 dx mA):∃od,h.get? dx=some od/\∀name,PySem.W.lookIn name od=some (mA name):=by
 obtain⟨o,es,ep,ho,hd,hk,_,hm⟩:=n
 refine⟨o,ho,λname=>?_⟩
 have e:=hm name
 unfold nsFind findBy at e
 rw [←Array.find?_toList] at e
 unfold PySem.W.lookIn
 rw [hd]
 dsimp only
 split
 ·rename_i y q
  rw [q] at e
  exact congrArg some e
 ·rename_i q
  rw [q] at e
  have a:es.toList.any (·.refKey)=false:=by
   rw [List.any_eq_false]
   intro y hy
   obtain⟨z,t,hkey⟩:=hk y (Array.mem_toList_iff.mp hy)
   simp [DictEntry.refKey,hkey]
  have a':¬es.toList.any (·.refKey)=true:=by rw [a];exact WX
  rw [if_neg a']
  exact congrArg some e
theorem ObjM.look {h:Heap}{x dx C:Addr}{mA:Str->Option Value}(I:ObjM h x dx C mA):∃od,PySem.W.InstAt h x (PySem.W.instObj C dx) C (some od)/\∀name,PySem.W.lookIn name od=some (mA name):=
 let ⟨od,ho,hl⟩:=B9 I.ns
 ⟨od,⟨I.obj,rfl,rfl,ho⟩,hl⟩
section
variable {prog:Program} {w:World} {A:Around} {E:Value->Shared->Prop} {s:Shared} {K:W4} {x dx C f:Addr} {mA:Str->Option Value} {name:Str} {v:Value}
end
theorem NX.some_of {v:V}{o:Option Value}(r:NX (some v) o):∃u,o=some u/\ZS v u:=by
 cases o with
 |none=>exact (show False from r).elim
 |some u=>exact⟨u,rfl,r⟩
section
variable {P:Program} {w:World} {H H':Hp} {h h':Heap} {a C dx:Addr} {fs fs':List (Str×V)}
theorem Pd (hok:HOk P w H h)(e:H a=some (.ins C dx fs)):∃mA,ObjM h a dx C mA/\(∀f,NX (fs.lookup f) (mA f))/\PySem.Within mA (fs.map (·.1))/\fs.length≤1000/\H dx=some (.own a):=by
 obtain⟨d,z,ne,ob,mA,n,r,q⟩:=(show ZE P w H h a (.ins C dx fs) from hok a _ e)
 exact⟨mA,⟨ob,n,ne⟩,r,q,z,d⟩
end
structure Cls (K:W4) (C:Addr):Prop where
 pg:PySem.W.plainGet K C Str.empty=true
 hd:PySem.W.hasDictIn K C=true
 po:PySem.W.plainOver K C=true
 sa:PySem.W.findIn K (.ref C) "__setattr__" = some (some (.builtin "object.__setattr__"))
theorem Cls.get {K:W4}{C:Addr}(c:Cls K C)(f:Str):PySem.W.plainGet K C f=true:=c.pg
section
variable {X:Cx} {pins:List (Addr×Obj)} {σ:St} {H:Hp} {s:Shared} {a C dx:Addr} {fs:List (Str×V)} {f:Str} {v:V} {A:Around} {E:Value->Shared->Prop}
end
section
variable {X:Cx} {o e value:Expr} {f:Str} {pos pos' tpos:Pos} {ta tv:TE}
end
section
variable {X:Cx} {pins:List (Addr×Obj)} {σ:St} {H:Hp} {s:Shared} {A:Around} {E:Value->Shared->Prop} {Q:Value->Shared->Prop} {c:Value} {b:Bool}
inductive TyOf (K:W4) (H:Hp):V->Value->Prop where
 |non:TyOf K H .non (.type "NoneType")
 |bl (x:Bool):TyOf K H (.bl x) (.type "bool")
 |int (i:Int):TyOf K H (.int i) (.type "int")
 |str (x:Str):TyOf K H (.str x) (.type "str")
 |flt (x:UInt64):TyOf K H (.flt x) (.type "float")
 |lst {a:Addr} {xs:List V} (e:H a=some (.lst xs)):TyOf K H (.ref a) (.type "list")
 |frz {a:Addr} {o:Obj} {xs:List V} (e:H a=some (.frz o (.lst xs))):TyOf K H (.ref a) (.type "list")
 |tup {a:Addr} {xs:List V} (e:H a=some (.tup xs)):TyOf K H (.ref a) (.type "tuple")
 |dK {a:Addr} {kvs:List (Key×V)} (e:H a=some (.dK kvs)):TyOf K H (.ref a) (.type "dict")
 |dT {a:Addr} {kvs:List (List Key×V)} (e:H a=some (.dT kvs)):TyOf K H (.ref a) (.type "dict")
 |ins {a C dx:Addr} {fs:List (Str×V)} (e:H a=some (.ins C dx fs)) (cl:Cls K C) (ha:PySem.W.findIn K (.ref C) "__class__" = some (some (.builtin "object.__class__")))
   (hn:PySem.W.specialIn K (.builtin "object.__class__") "__get__" = some (some (.builtin "getset_descriptor.__get__"))) (htk:PySem.W.takesIn K (.builtin "object.__class__")=some true)
   (hm:PySem.W.mroIn K C (.type "object")=some true):TyOf K H (.ref a) (.ref C)
theorem BF {x:V}{u t:Value}(I:Inv X pins σ H s)(rx:ZS x u)(ty:TyOf X.K H x t)(e:Vc X.K t c=some b)(h:∀tk,Q (.bool b) { s with toks:=tk }) :
  wpAny (model X.prog X.w) A (call (.builtin "isinstance") [u,c]) Q E s:=by
 cases ty with
 |non=>cases (show u=Value.none from rx);exact V1 PySem.W.kitx_none I.kIn True.intro e (λz=>nomatch z) h
 |bl y=>cases (show u=Value.bool y from rx);exact V1 PySem.W.kitx_bool I.kIn True.intro e (λz=>nomatch z) h
 |int i=>obtain⟨t,q⟩:=(show ∃t,u=Value.int i t from rx);cases q;exact V1 PySem.W.kitx_int I.kIn True.intro e (λz=>nomatch z) h
 |str y=>obtain⟨t,q⟩:=(show ∃t,u=Value.str y t from rx);cases q;exact V1 PySem.W.kitx_str I.kIn True.intro e (λz=>nomatch z) h
 |flt y=>obtain⟨t,q⟩:=(show ∃t,u=Value.float y t from rx);cases q;exact V1 PySem.W.kitx_float I.kIn True.intro e (λz=>nomatch z) h
 | @lst a xs ea=>
  cases (show u=Value.ref a from rx)
  obtain⟨_,_,n,_,h1⟩:=(show ZE X.prog X.w H s.heap a (.lst xs) from I.hok a _ ea)
  exact V1 W0m I.kIn ⟨_,h1,rfl⟩ e (λz=>nomatch z) h
 | @frz a ob xs ea=>
  cases (show u=Value.ref a from rx)
  obtain⟨_,_,_,n,_,h1⟩:=(show ZE X.prog X.w H s.heap a (.frz ob (.lst xs)) from I.hok a _ ea)
  exact V1 W0m I.kIn ⟨_,h1,rfl⟩ e (λz=>nomatch z) h
 | @tup a xs ea=>
  cases (show u=Value.ref a from rx)
  obtain⟨_,_,_,p⟩:=(show ZE X.prog X.w H s.heap a (.tup xs) from I.hok a _ ea)
  obtain⟨⟨o,h1,h2,_⟩,_⟩:=p
  exact V1 PySem.W.kitx_tuple I.kIn ⟨o,h1,h2⟩ e (λz=>nomatch z) h
 | @dK a kvs ea=>
  cases (show u=Value.ref a from rx)
  obtain⟨_,_,vs,_,p⟩:=(show ZE X.prog X.w H s.heap a (.dK kvs) from I.hok a _ ea)
  obtain⟨o,es,ep,h1,h2,_⟩:=p
  exact V1 W0n I.kIn ⟨o,h1,h2.1⟩ e (λz=>nomatch z) h
 | @dT a kvs ea=>
  cases (show u=Value.ref a from rx)
  obtain⟨_,_,xs,_,o,es,ep,h1,h2,_⟩:=(show ZE X.prog X.w H s.heap a (.dT kvs) from I.hok a _ ea)
  exact V1 W0n I.kIn ⟨o,h1,h2.1⟩ e (λz=>nomatch z) h
 | @ins a C dx fs ea cl ha hn htk hm=>
  cases (show u=Value.ref a from rx)
  obtain⟨mA,O,_⟩:=Pd I.hok ea
  obtain⟨od,J,_⟩:=O.look
  exact V1 (PySem.W.kitx_own (cl.get _) cl.hd ha hn htk hm) I.kIn J e (λz=>nomatch z) h
end
end L2
namespace L2
open PySem PySem.Spec PyProof.Rows
structure Room (k:Nat) (A:Around):Prop where
 hd:A.handled=none
 dp:A.depth+3*k+5<recursionLimit
 un:A.units+16*k+200<cLine
theorem Room.mono {j k:Nat}{A:Around}(r:Room k A)(h:j≤k):Room j A:=⟨r.hd,by have:=r.dp;omega,by have:=r.un;omega⟩
theorem Room.deeper {k:Nat}{A:Around}(r:Room (k+1) A)(env:Env):Room k (A.deeper env):=
 ⟨r.hd,by have:=r.dp;show A.depth+1+3*k+5<_;omega,by have:=r.un;show A.units+3+16*k+200<_;omega⟩
theorem Room.depth {k:Nat}{A:Around}(r:Room k A):A.depth<recursionLimit:=by have:=r.dp;omega
def AD:TA:=λ_ H Q=>Q [] H
def Gz (ta:TE)(tr:TA):TA:=λσ H Q=>ta σ H λx H1=>tr σ H1 λxs H2=>Q (x :: xs) H2
section
variable {X:Cx} {e:Expr} {es:List Expr} {te:TE} {t:TA} {pos:Pos}
theorem Y5:PA X [] AD:=λ_ _ _ _ H Q I h=>Calls.spliced_nil ⟨[],H,I,.nil,h⟩
theorem Zr (ha:PE X e te)(hr:PA X es t)(hs:Wr (e :: es) X.env=(false,eval e X.env) :: Wr es X.env:=by rfl):PA X (e :: es) (Gz te t):=by
 intro pos pins s σ H Q I h
 rw [hs]
 show wpAny _ _ (spliced ((false,eval e X.env) :: backTo pos (Wr es X.env))) _ _ s
 refine Calls.spliced_cons (thn (ha pins s σ H _ I h) λu s1 ⟨x,H1,I1,r1,q1⟩=>?_)
 exact thn (hr pos pins s1 σ H1 _ I1 q1) λus s2 ⟨xs,H2,I2,r2,q2⟩=>⟨x :: xs,H2,I2,.cons r1 r2,q2⟩
def CF (t:TA):TE:=λσ H Q=>t σ H λxs H1=>xs.length≤Wk/\∀p,H1 p=none->Q (.ref p) (upd H1 p (.tup xs))
def CJ (t:TA):TE:=λσ H Q=>t σ H λxs H1=>xs.length≤Wk/\∀p,H1 p=none->Q (.ref p) (upd H1 p (.lst xs))
theorem M2 {x1}(h:PA X es t):PE X (.Tuple es x1 pos) (CF t):=by
 intro pins s σ H Q I hq
 refine wpAny_Tuple_spliced (thn (h pos pins s σ H _ I hq) λus s1 ⟨xs,H1,I1,r,z,q⟩=>⟨by rw [←r.length];exact z,?_⟩)
 have hf:H1 s1.heap.objs.size=none:=I1.hok.fresh (Wu _)
 refine⟨.ref s1.heap.objs.size,upd H1 s1.heap.objs.size (.tup xs),I1.laid (t':=s1.toks) (λb u e=>Wj _ e) (Wu _) ?_,rfl,q _ hf⟩
 exact⟨z,us,r,Pv.new _ _⟩
theorem Ls (h:PA X es t):PE X (.List es pos) (CJ t):=by
 intro pins s σ H Q I hq
 refine wpAny_List_spliced (thn (h pos pins s σ H _ I hq) λus s1 ⟨xs,H1,I1,r,z,q⟩=>⟨by rw [←r.length];exact z,?_⟩)
 have hf:H1 s1.heap.objs.size=none:=I1.hok.fresh (Wu _)
 refine⟨.ref s1.heap.objs.size,upd H1 s1.heap.objs.size (.lst xs),I1.laid (t':=s1.toks) (λb u e=>Wj _ e) (Wu _) ?_,rfl,q _ hf⟩
 exact⟨z,us,0,r,Ws _ rfl⟩
end
abbrev Sp:=List V->Hp->VK->XK->Prop
abbrev CXT:=List Env->Hp->Shared->XK->Value->Shared->Prop
structure Env0 (P:Program) (w:World) (K:W4) (mg:Str->Option Value) (base:Heap) (A:Around) (outer:List Env) (s:Shared) (H:Hp):Prop where
 frames:A.frames=some outer
 mod:Mod K mg base
 bs:∀b o,base.get? b=some o->s.heap.get? b=some o/\H b=none
 bsz:base.objs.size≤s.heap.objs.size
 funs:s.heap.FunFrames base outer
 frf:∀b∈frs outer,H b=none
 hok:HOk P w H s.heap
 bare:AllBare s.gens
def CE (outer:List Env)(P:Program)(w:World)(H:Hp)(s:Shared)(Q:VK)(u:Value)(s':Shared):Prop:=
 ∃v H',s'.os=s.os/\AllBare s'.gens/\Un (frs outer) [] H H' s.heap s'.heap/\HOk P w H' s'.heap/\ZS v u/\Q v H'
def CR (CX:CXT)(outer:List Env)(P:Program)(w:World)(H:Hp)(s:Shared)(Q:VK)(E:XK)(r:Result)(s':Shared):Prop:=
 match r with
 | .ok (.ret u)=>CE outer P w H s Q u s'
 | .ok _=>False
 | .error e=>CX outer H s E e s'
structure FnOk (P:Program) (w:World) (K:W4) (mg:Str->Option Value) (base:Heap) (CX:CXT) (k:Nat) (f:Addr) (fd:FuncData) (ps:List Str) (sp:Sp):Prop where
 len:∀vs H Q E,sp vs H Q E->vs.length=ps.length
 run:∀(A:Around) (outer:List Env) (s:Shared) (H:Hp) (args:Args) (us:List Value) (vs:List V) (Q:VK) (E:XK),Room k A->Env0 P w K mg base A outer s H->BindsTo s fd args (ps.zip us)->ZQ vs us->sp vs H Q E->
  codeAny (model P w) A (.call (.ref f) args) (CR CX outer P w H s Q E) s
section
variable {X:Cx} {pins:List (Addr×Obj)} {σ:St} {H:Hp} {s s':Shared}
theorem Inv.env0 (I:Inv X pins σ H s):Env0 X.prog X.w X.K X.mg X.base X.A X.stack s H:=
 ⟨I.ok.frames,I.ok.mod,I.bs,Wz I.ok.bsz I.sz,I.stack,I.stkFree,I.hok,I.bare⟩
theorem Inv.after {Q:VK}{u:Value}(I:Inv X pins σ H s)(h:CE X.stack X.prog X.w H s Q u s'):EP X pins σ Q u s':=by
 obtain⟨v,H',os,bare,un,hok,r,q⟩:=h
 obtain⟨hh,g,d,t,os'⟩:=s'
 obtain rfl:os'=s.os:=os
 exact⟨v,H',I.call (h':=hh) (g':=g) (d':=d) (t':=t) (ch:=[]) un hok bare (λb z=>absurd z (by simp)),r,q⟩
end
def AO (sp:Sp)(dvs:List V)(E:XK)(t:TA):TE:=λσ H Q=>t σ H λvs H1=>sp (vs++dvs) H1 Q E
def UZ (K:W4)(fd:FuncData)(ps:List Str)(ds:List Value):Prop:=
 ∀(s:Shared) (us:List Value),K.In s.heap->(us++ds).length=ps.length->BindsTo s fd ⟨us,[]⟩ (ps.zip (us++ds))
theorem UZ.all {K:W4}{fd:FuncData}{ps:List Str}(h:∀us:List Value,us.length=ps.length->bindArgs fd ⟨us,[]⟩=pure (ps.zip us)):UZ K fd ps []:=λs us _ hl=>by
 rw [VP] at hl ⊢
 exact .of_eq (h us hl)
def Nf (CX:CXT)(X:Cx)(E:XK):Prop:=∀(pins:List (Addr×Obj)) (σ:St) (H:Hp) (s:Shared) (e:Value) (s':Shared),Inv X pins σ H s->CX X.stack H s E e s'->X.xe e s'
section
variable {X:Cx} {CX:CXT} {k:Nat} {f C:Addr} {fd:FuncData} {ps:List Str} {sp:Sp} {dvs:List V} {ds:List Value} {E:XK} {x m:Str} {p pos apos:Pos} {e o:Expr} {es:List Expr} {ta:TE} {t:TA}
theorem L8 {pins:List (Addr×Obj)}{σ:St}{H:Hp}{s:Shared}{Q:VK}{us:List Value}{vs:List V}(F:FnOk X.prog X.w X.K X.mg X.base CX k f fd ps sp)(hr:Room k X.A)(hb:UZ X.K fd ps ds)(hd:ZQ dvs ds)(hx:Nf CX X E)
  (I:Inv X pins σ H s) (r:ZQ vs us) (h:sp (vs++dvs) H Q E):wpAny (model X.prog X.w) X.A (call (.ref f) us) (EP X pins σ Q) X.xe s:=by
 have r2:ZQ (vs++dvs) (us++ds):=r.append hd
 have hl:(us++ds).length=ps.length:=by rw [←r2.length];exact F.len _ _ _ _ h
 refine wpAny_call (codeAny_mono (F.run X.A X.stack s H ⟨us,[]⟩ (us++ds) (vs++dvs) Q E hr I.env0 (hb s us I.kIn hl) r2 h) λr s' hq=>?_)
 cases r with
 |error e=>exact hx pins σ H s e s' I hq
 |ok fl=>
  cases fl with
  |ret u=>exact I.after hq
  |next=>exact False.elim hq
  |brk=>exact False.elim hq
  |cont=>exact False.elim hq
theorem Rw (F:FnOk X.prog X.w X.K X.mg X.base CX k f fd ps sp)(hr:Room k X.A)(hg:Gl X x)(hm:X.mg x=some (.ref f))(hk:WL X.K (.ref f)=true)(hb:UZ X.K fd ps ds)(hd:ZQ dvs ds)(hx:Nf CX X E)
  (ha:PA X (e :: es) t) (hdb:(x == ("__debug__" : Str))=false:=by decide) (he:Wr (e :: es) X.env=(false,eval e X.env) :: Wr es X.env:=by rfl) (hpl:(backTo pos (Wr es X.env)).any (·.1)=false:=by rfl) :
  PE X (.Call (.Name x p) (e :: es) [] pos) (AO sp dvs E t):=by
 intro pins s σ H Q I h
 refine VQ (Ba I hg hm ?_ hdb)
 refine PySem.W.callWith_K (h₀:=X.base) I.ok.mod.kin hk (thn (ha pos pins s σ H _ I h) λus s1 ⟨vs,H1,I1,r,q⟩=>⟨I1.kIn,?_⟩) he hpl
 exact L8 F hr hb hd hx I1 r q
end
section
variable {X:Cx} {CX:CXT} {k:Nat} {f C:Addr} {fd:FuncData} {ps ks:List Str} {sp:Sp} {E:XK} {x m:Str} {p pos apos kpos:Pos} {e o:Expr} {es:List Expr} {kws:List Keyword} {te ta:TE} {t tk:TA} {nm:Option Str}
variable {g:List Value->List Value->List Value} {gV:List V->List V->List V}
end
structure FnScope (N P:List Str) (sc:Scope):Prop where
 kind:sc.kind = .function
 co:sc.isCoroutine=false
 gen:sc.isGenerator=false
 nd:N.Nodup
 pre:N.take P.length=P
 par:∀x∈P,sc.names.lookup x=some .local\/sc.names.lookup x=some .cell
 nofree:∀y∈sc.names,y.2≠.free
theorem Um {kindOf:Str->Option NameKind}{x:Str}:∀{binds:List (Str×Value)} {m:Str->Option Value},(∀v,(x,v)∉binds)->bindL kindOf binds m x=m x
 |[],_,_=>rfl
 | (n,v) :: r,m,h=>by
  unfold bindL
  rw [Um λw hw=>h w (WG _ hw)]
  split
  ·have:x≠n:=by rintro rfl;exact h v WJ
   simp [this]
  ·rfl
theorem Up {kindOf:Str->Option NameKind}{x:Str}:∀{binds:List (Str×Value)} {m:Str->Option Value},(∀v,(x,v)∉binds)->bindC kindOf binds m x=m x
 |[],_,_=>rfl
 | (n,v) :: r,m,h=>by
  unfold bindC
  rw [Up λw hw=>h w (WG _ hw)]
  split
  ·rfl
  ·have:x≠n:=by rintro rfl;exact h v WJ
   simp [this]
theorem Uo {kindOf:Str->Option NameKind}{x:Str}{v:Value}:∀{P:List Str} {vs:List Value} {i:Nat} {m:Str->Option Value},P.Nodup->P[i]? = some x->vs[i]? = some v->kindOf x=some .local->
  bindL kindOf (P.zip vs) m x=some v
 |[],_,_,_,_,h,_,_=>by simp at h
 |_ :: _,[],_,_,_,_,h,_=>by simp at h
 |p :: P,w :: vs,0,m,nd,h1,h2,hk=>by
  simp at h1 h2;subst h1;subst h2
  show bindL kindOf ((p,w) :: P.zip vs) m p=_
  unfold bindL
  rw [Um λv hv=>(W09.mp nd).1 (List.of_mem_zip hv).1,if_pos hk]
  simp
 |p :: P,w :: vs,i+1,m,nd,h1,h2,hk=>by
  show bindL kindOf ((p,w) :: P.zip vs) m x=_
  unfold bindL
  exact Uo (i:=i) (W09.mp nd).2 (by simpa using h1) (by simpa using h2) hk
theorem Uq {kindOf:Str->Option NameKind}{x:Str}{v:Value}:∀{P:List Str} {vs:List Value} {i:Nat} {m:Str->Option Value},P.Nodup->P[i]? = some x->vs[i]? = some v->kindOf x≠some .local->
  bindC kindOf (P.zip vs) m x=some v
 |[],_,_,_,_,h,_,_=>by simp at h
 |_ :: _,[],_,_,_,_,h,_=>by simp at h
 |p :: P,w :: vs,0,m,nd,h1,h2,hk=>by
  simp at h1 h2;subst h1;subst h2
  show bindC kindOf ((p,w) :: P.zip vs) m p=_
  unfold bindC
  rw [Up λv hv=>(W09.mp nd).1 (List.of_mem_zip hv).1,if_neg hk]
  simp
 |p :: P,w :: vs,i+1,m,nd,h1,h2,hk=>by
  show bindC kindOf ((p,w) :: P.zip vs) m x=_
  unfold bindC
  exact Uq (i:=i) (W09.mp nd).2 (by simpa using h1) (by simpa using h2) hk
def start (N:List Str)(vs:List V):St:=vs.map some++Vg (N.length-vs.length) none
def Pm (CX:CXT)(P:Program)(w:World)(K:W4)(mg:Str->Option Value)(base:Heap)(N:List Str)(qual:Str)(scope:Scope)(f:Addr)(cd:Value)(A:Around)(outer:List Env)(s:Shared)(H:Hp)(E:XK):Cx where
 prog:=P
 w:=w
 K:=K
 mg:=mg
 base:=base
 A:=A.deeper (envOfC qual scope s.heap.objs.size f cd)
 N:=N
 s₀:=s
 H₀:=H
 env:=envOfC qual scope s.heap.objs.size f cd
 outer:=outer
 stack:=envOfC qual scope s.heap.objs.size f cd :: outer
 ex:=[]
 calm:=true
 fn:=λ_=>true
 pn:=[]
 xe:=λe s'=>wpAny (model P w) (A.deeper (envOfC qual scope s.heap.objs.size f cd)) (leaving (envOfC qual scope s.heap.objs.size f cd) e) (λ_ s''=>CX outer H s E e s'') (λe' s''=>CX outer H s E e' s'') s'
theorem TD {sc:Scope}{n:Nat}{x:Str}(h:sc.names.lookup x=some .cell):∃c,(cellsFrom n sc.names []).lookup x=some c:=by
 have q:=PySem.W.cellsFrom_some sc.names n [] (.inl h)
 exact W0o.mp q
theorem BJ {CX:CXT}{P:Program}{w:World}{K:W4}{mg:Str->Option Value}{base:Heap}{N ps:List Str}{qual:Str}{scope:Scope}{f:Addr}{cd:Value}{A:Around}{outer:List Env}{s s1:Shared}{H:Hp}{E:XK}{us:List Value}{vs:List V}
  (S:FnScope N ps scope) (hd:A.handled=none) (e0:Env0 P w K mg base A outer s H) (hl:vs.length=ps.length) (r:ZQ vs us)
  (x:InCallC s s.heap.objs.size (bindL (envOfC qual scope s.heap.objs.size f cd).kindOf (ps.zip us) λ_=>none) (cellsFrom (s.heap.objs.size+1) scope.names []) (bindC (envOfC qual scope s.heap.objs.size f cd).kindOf (ps.zip us) λ_=>none) s1) :
  Inv (Pm CX P w K mg base N qual scope f cd A outer s H E) [] (start N vs) H s1:=by
 have hpl:ps.length≤N.length:=by have:=congrArg V7 S.pre;rw [WW] at this;omega
 obtain⟨h1,tk,rfl,hk⟩:=x.done
 have noA:∀b:Addr,b∉(Pm CX P w K mg base N qual scope f cd A outer s H E).ex:=λb z=>absurd (show b∈([]:List Addr) from z) (by simp)
 refine⟨⟨e0.mod,S.kind,rfl,rfl,Wu _,λy z c h1 h2=>?_,λy hy=>?_,λy c _ h=>?_,λ_=>hd,Around.frames_deeper e0.frames,.inr ⟨rfl,rfl⟩,λb z=>absurd z (noA b),e0.bs,e0.bsz,λb _ _=>noA b,λb z=>absurd z (noA b),e0.funs,e0.frf⟩,
  rfl,e0.bare,Un.kept hk,⟨_,x.toInCall.ns,λi y v h1 h2 h3=>?_⟩,λy c h=>⟨_,x.cell y c h⟩,e0.hok.fresh (Wu _),λy c h=>?_,λp hp=>absurd (show p∈([]:List (Addr×Obj)) from hp) (by simp),e0.hok.kept hk,?_⟩
 ·exact name_of_addr x.apart (Va h1) (Va h2)
 ·have hy:scope.names.lookup y=some .cell\/scope.names.lookup y=some .free:=hy
  rcases hy with hy|hy
  ·exact TD hy
  ·exact absurd rfl (S.nofree _ (Va hy))
 ·exact Nat.le_of_lt (x.above y c (Va h))
 ·have hi:i<vs.length:=by
   unfold start at h2
   by_cases hi:i<vs.length
   ·exact hi
   ·rw [WI (by simpa using hi)] at h2
    rw [Vf] at h2
    split at h2<;>cases h2
  have ha:vs[i]? = some v:=by
   unfold start at h2
   rw [WE (by simpa using hi),WS] at h2
   cases e:vs[i]? with
   |none=>rw [e] at h2;cases h2
   |some a=>rw [e] at h2;cases h2;rfl
  obtain⟨u,hu,rv⟩:=r.get ha
  have hp:ps[i]? = some y:=by
   rw [←S.pre,WZ (by omega)];exact h1
  have ndP:ps.Nodup:=by rw [←S.pre];exact S.nd.sublist (List.take_sublist _ _)
  refine⟨u,rv,?_⟩
  rcases S.par y (V9 hp) with k|k
  ·exact .inl ⟨k,Uo ndP hp hu k⟩
  ·obtain⟨c,e⟩:=TD (n:=s.heap.objs.size+1) k
   refine .inr ⟨.inl k,c,e,?_⟩
   have q:=x.cell y c e
   rw [Uq ndP hp hu (by show scope.names.lookup y≠_;rw [k];decide)] at q
   exact q
 ·exact e0.hok.fresh (Nat.le_of_lt (x.above y c (Va h)))
 ·unfold start
  show _=N.length
  rw [Wx,Wp,Vo]
  omega
theorem Ez {CX:CXT}{P:Program}{w:World}{K:W4}{mg:Str->Option Value}{base:Heap}{k:Nat}{f:Addr}{name qual:Str}{params:Arguments}{body:List Stmt}{scope:Scope}{dV kV doc pm cdv ct oc:Value}{an od:Option Addr}
  {osl:Array (Option Value)} {N ps:List Str} {sp:Sp} (lk:K.lookup f=some ⟨oc,od,.func (WN name qual params body scope dV kV doc pm an cdv ct),osl⟩) (hcd:WO K cdv qual=true) (S:FnScope N ps scope)
  (len:∀vs H Q E,sp vs H Q E->vs.length=ps.length)
  (hbody:∀(A:Around) (outer:List Env) (s:Shared) (H:Hp) (vs:List V) (Q:VK) (E:XK),Room k (A.deeper (envOfC qual scope s.heap.objs.size f cdv))->sp vs H Q E->
   ∃t,PSs (Pm CX P w K mg base N qual scope f cdv A outer s H E) body t/\t { nx:=λ_ H'=>Q .non H',rt:=Q } (start N vs) H) :
  FnOk P w K mg base CX (k+1) f (WN name qual params body scope dV kV doc pm an cdv ct) ps sp:=by
 refine⟨len,λA outer s H args us vs Q E hr e0 hb r hsp=>?_⟩
 have hl:=len _ _ _ _ hsp
 have KX:K.In s.heap:=e0.mod.kin.keeps λb o e=>(e0.bs b o e).1
 have lim:s.heap.NoLimit:=e0.mod.nolimit.keeps λb o e=>(e0.bs b o e).1
 have hkind:∀y∈ps.zip us,scope.names.lookup y.1=some .local\/(scope.names.lookup y.1=some .cell/\((cellsFrom (s.heap.objs.size+1) scope.names []).lookup y.1).isSome=true):=λ⟨n,v⟩ hy=>by
  rcases S.par n (List.of_mem_zip hy).1 with q|q
  ·exact .inl q
  ·exact .inr ⟨q,PySem.W.cellsFrom_some _ _ _ (.inl q)⟩
 refine codeAny_call_function hr.depth (KX _ _ lk) rfl S.co S.gen rfl (PySem.W.codeRec_of KX hcd) (hb _ _ _ _ ?_)
 refine wpAny_newFunctionEnv_cells S.kind hkind λenv he s1 x=>?_
 subst he
 refine⟨lim.keeps x.toInCall.keep,codeAny_func ?_⟩
 obtain⟨t,ht,hq⟩:=hbody A outer s H vs Q E (hr.deeper _) hsp
 have I:Inv (Pm CX P w K mg base N qual scope f cdv A outer s H E) [] (start N vs) H s1:=BJ S hr.hd e0 hl r x
 refine Vm (ht [] s1 (start N vs) H _ I hq) (λfl s' hs=>?_) λe s' hs=>hs
 have fin:∀{σ':St} {H':Hp} {v:V} {u:Value},Inv (Pm CX P w K mg base N qual scope f cdv A outer s H E) [] σ' H' s'->ZS v u->Q v H'->CE outer P w H s Q u s':=
  λ{σ' H' v u} J rv q=>⟨v,H',J.os,J.bare,J.base,J.hok,rv,q⟩
 cases fl with
 |ret u=>
  obtain⟨v,σ',H',J,rv,q⟩:=hs
  exact fin J rv q
 |next=>
  obtain⟨σ',H',J,q⟩:=hs
  exact fin (v:=V.non) (u:=Value.none) J rfl q
 |brk=>
  obtain⟨_,_,_,q⟩:=hs
  exact False.elim q
 |cont=>
  obtain⟨_,_,_,q⟩:=hs
  exact False.elim q
end L2
namespace L2
open PySem PySem.Spec PyProof.Rows
section
variable {X:Cx} {x:Str} {p pos:Pos} {e:Expr} {es:List Expr} {t:TA} {id T:String} {r:List V->Hp->VK->Prop}
def tCB (r:List V->Hp->VK->Prop)(t:TA):TE:=λσ H Q=>t σ H λvs H1=>r vs H1 Q
theorem Yr (hc:YH X (.builtin id) r)(hg:Gl X x)(hm:X.mg x=none)(hv:Ww x=some (.builtin id))(ha:PA X (e :: es) t)(hn:x≠"__name__":=by decide)(hdb:(x == ("__debug__" : Str))=false:=by decide)
  (he:Wr (e :: es) X.env=(false,eval e X.env) :: Wr es X.env:=by rfl) (hpl:(backTo pos (Wr es X.env)).any (·.1)=false:=by rfl):PE X (.Call (.Name x p) (e :: es) [] pos) (tCB r t):=by
 intro pins s σ H Q I h
 refine VQ (JW I hg hm hv ?_ hn hdb)
 exact PyProof.Rows.callWith_builtin1 (thn (ha pos pins s σ H _ I h) λus s1 ⟨vs,H1,I1,r1,q1⟩=>hc pins s1 σ H1 vs us Q I1 r1 q1) he hpl
theorem JQ (hc:YH X (.type T) r)(hg:Gl X x)(hm:X.mg x=none)(hv:Ww x=some (.type T))(ha:PA X (e :: es) t)(hn:x≠"__name__":=by decide)(hdb:(x == ("__debug__" : Str))=false:=by decide)
  (he:Wr (e :: es) X.env=(false,eval e X.env) :: Wr es X.env:=by rfl) (hpl:(backTo pos (Wr es X.env)).any (·.1)=false:=by rfl):PE X (.Call (.Name x p) (e :: es) [] pos) (tCB r t):=by
 intro pins s σ H Q I h
 refine VQ (JW I hg hm hv ?_ hn hdb)
 exact VC (thn (ha pos pins s σ H _ I h) λus s1 ⟨vs,H1,I1,r1,q1⟩=>hc pins s1 σ H1 vs us Q I1 r1 q1) he hpl
end
end L2
namespace HT
open PySem PyProof.Rows
section
open PySem.SeqAt
open PySem.AutoSeq1 (wpAny_loadPart')
open PySem.MeetsSeq PySem.MeetsSeq2 PySem.MeetsSeq3
end
section
variable {prog:Program} {w:World} {A:Around} {E:Value->Shared->Prop} {s:Shared}
theorem cat_tup {t b:Addr}{vs ws:List Value}{Q:Value->Shared->Prop}(ht:IsTup s.heap t vs.toArray)(hb:IsTup s.heap b ws.toArray)(hv:vs≠[])
  (h1:ws=[]->Q (.ref t) s) (h2:ws≠[]->Q (.ref s.heap.objs.size) { s with heap:=s.heap.push { cls:=.type "tuple",data:=.seq (vs++ws).toArray } })
  (hsz:vs.length+ws.length≤Wk):wpAny (model prog w) A (binaryOp .Add (.ref t) (.ref b)) Q E s:=by
 obtain⟨⟨cls,dd,data,sl⟩,ho,hc,n,hd⟩:=id ht
 obtain⟨⟨cls2,dd2,data2,sl2⟩,ho2,hc2,n2,hd2⟩:=id hb
 simp only at hc hd hc2 hd2
 subst hc hd hc2 hd2
 have e:vs.toArray++ws.toArray=(vs++ws).toArray:=by simp
 by_cases hw:ws=[]
 ·exact concat_meets ⟨_,ho,rfl⟩ ⟨_,ho2,rfl⟩ noFill_tuple_add seq_tuple_add VX VR (VN _ _)
   (tuple_addW1 t b vs.toArray ws.toArray n n2 dd dd2 sl sl2 (by simpa using hv) (by simp [hw])) ⟨ho,ho2,h1 hw⟩
 ·refine concat_meets ⟨_,ho,rfl⟩ ⟨_,ho2,rfl⟩ noFill_tuple_add seq_tuple_add VX VR (VN _ _)
   (tuple_addW2 t b vs.toArray ws.toArray n n2 dd dd2 sl sl2 (by simpa using hv) (by simpa using hw) (by rw [Wl,Wl];exact hsz)) ⟨ho,ho2,?_⟩
  rw [e]
  exact h2 hw
def sIx (n d:Nat):Option Int->Nat
 |none=>d
 |some v=>if v<0 then (v+(n:Int)).toNat else min v.toNat n
theorem sIx_none (n d:Nat):sIx n d none=d:=rfl
theorem sIx_nat (n d k:Nat):sIx n d (some (k:Int))=min k n:=by
 show (if (k:Int)<0 then ((k:Int)+(n:Int)).toNat else min (k:Int).toNat n)=min k n
 rw [if_neg (by omega),W0p]
theorem L7 (n d:Nat)(hd:d≤n)(o:Option Int):sIx n d o≤n:=by
 cases o with
 |none=>exact hd
 |some v=>
  show (if v<0 then (v+(n:Int)).toNat else min v.toNat n)≤n
  by_cases hv:v<0
  ·rw [if_pos hv];omega
  ·rw [if_neg hv];exact Nat.min_le_right _ _
theorem BY (v:Int)(n d:Nat):(if v<0 then max (v+(n:Int)) 0 else min v (n:Int))=((sIx n d (some v):Nat):Int):=by
 show (if v<0 then max (v+(n:Int)) 0 else min v (n:Int))=(((if v<0 then (v+(n:Int)).toNat else min v.toNat n):Nat):Int)
 by_cases hv:v<0
 ·simp only [if_pos hv];omega
 ·simp only [if_neg hv];omega
theorem Ga (lo hi:Option Int)(n:Nat):VI lo hi 1 (n:Int)=(((sIx n 0 lo:Nat):Int),((sIx n n hi:Nat):Int)):=by
 have h1:¬((1:Int)<0):=by omega
 unfold VI
 simp only [h1,if_false]
 refine Prod.ext ?_ ?_
 ·cases lo with
  |none=>rfl
  |some v=>exact BY v n 0
 ·cases hi with
  |none=>rfl
  |some v=>exact BY v n n
theorem TW (i j:Nat):Vs (i:Int) (j:Int) 1=j-i:=by
 unfold Vs
 have h1:(1:Int)>0:=by omega
 simp only [h1,if_true,Int.ediv_one]
 split<;>omega
theorem QU {v:Value}{o:Option Int}{Q:Option Int->Shared->Prop}(p:IsPart v o)(h:Q o s):wpAny (model prog w) A (Builtin.Slice.slicePartIndex v) Q E s:=by
 cases p with
 |none=>exact slicePart_none h
 |int i t=>exact slicePart_int h
theorem Yx {sl:Addr}{vl vu:Value}{lo hi:Option Int}{n:Nat}{Q:Int×Int×Nat->Shared->Prop}(hs:s.heap.IsSliceOf sl vl vu .none)(pl:IsPart vl lo)(pu:IsPart vu hi)
  (h:Q (((sIx n 0 lo:Nat):Int),1,sIx n n hi-sIx n 0 lo) s):wpAny (model prog w) A (W0g (.ref sl) (pure (n:Int))) Q E s:=by
 obtain⟨os,hos,hcs,hds⟩:=id hs
 unfold W0g Builtin.Slice.sliceFields
 refine W9 (W9 (V8 hos hds (x:=vl) rfl (W9 (V8 hos hds (x:=vu) rfl (W9 (V8 hos hds (x:=.none) rfl (Wm ?_)))))))
 refine W9 (slicePart_none ?_)
 show wpAny _ _ (if ((1:Int) == 0)=true then _ else _) _ _ s
 rw [if_neg (by decide)]
 refine W9 (QU pl (W9 (QU pu (W9 (Wm ?_)))))
 show wpAny _ _ (match VI lo hi 1 (n:Int) with|(lo,hi)=>pure (lo,(1:Int),Vs lo hi 1)) _ _ s
 rw [Ga lo hi n]
 show wpAny _ _ (pure (((sIx n 0 lo:Nat):Int),(1:Int),Vs ((sIx n 0 lo:Nat):Int) ((sIx n n hi:Nat):Int) 1)) _ _ s
 rw [TW]
 exact Wm h
theorem Ny (xs:Array Value)(i k:Nat):((WY k).filterMap λ(m:Nat)=>xs[((i:Int)+(m:Int)*1).toNat]?).toArray=((xs.toList.drop i).take k).toArray:=by
 have e:(λ(m:Nat)=>xs[((i:Int)+(m:Int)*1).toNat]?)=λm=>xs[i+m]?:=by
  funext m
  have:((i:Int)+(m:Int)*1).toNat=i+m:=by omega
  rw [this]
 rw [e]
 have:=pick_run xs i k
 rw [List.filterMap_map] at this
 have e2:((λx=>xs[x]?) ∘ λx=>i+x)=λm=>xs[i+m]?:=rfl
 rw [e2] at this
 rw [this]
theorem getItem_tuple_cut {t sl:Addr}{items:Array Value}{vl vu:Value}{lo hi:Option Int}{Q:Value->Shared->Prop}(ht:IsTup s.heap t items)(hs:s.heap.IsSliceOf sl vl vu .none)(pl:IsPart vl lo)(pu:IsPart vu hi)
  (hw:¬(sIx items.size 0 lo=0/\sIx items.size items.size hi=items.size))
  (h:Q (.ref s.heap.objs.size) { s with heap:=s.heap.push { cls:=.type "tuple",data:=.seq ((items.toList.drop (sIx items.size 0 lo)).take (sIx items.size items.size hi-sIx items.size 0 lo)).toArray } })
  (hsz:items.size≤Wk):wpAny (model prog w) A (getItem (.ref t) (.ref sl)) Q E s:=by
 have htake:sizeOk (.seq ((items.toList.drop (sIx items.size 0 lo)).take (sIx items.size items.size hi-sIx items.size 0 lo)).toArray):=by
  show ((items.toList.drop (sIx items.size 0 lo)).take (sIx items.size items.size hi-sIx items.size 0 lo)).toArray.size≤Wk
  rw [Wl,WW,Vn,W08]
  omega
 have hj:sIx items.size items.size hi≤items.size:=L7 _ _ (Wu _) hi
 obtain⟨os,hos,hcs,hds⟩:=id hs
 have hTs:s.TypeIs (.ref sl) "slice":=⟨os,hos,hcs⟩
 unfold getItem
 try with_reducible refine wpAny_holding ?_
 first|refine W9 (Wm ?_)|skip
 refine W9 (wpAny_sequenceKey ht.typeIs (by decide) ?_)
 refine W9 (V0 (name:=W3 "__getitem__") ht.typeIs WV
  (Vz WV ht.typeIs entry_tuple_getitem ?_ (args_tuple_getitem _ _)))
 show wpAny _ _ (W0h (.ref t) >>= _) _ _ s
 refine W9 (tupleItemsOf_ ht ?_)
 refine W9 (wpAny_typeOf hTs ?_)
 rw [if_pos (by decide)]
 refine W9 (Yx hs pl pu ?_)
 have hno:¬((((sIx items.size 0 lo:Nat):Int) == 0&&(1:Int) == 1&&(sIx items.size items.size hi-sIx items.size 0 lo) == items.size)=true):=by
  intro q
  rw [WU,WU] at q
  have q1:((sIx items.size 0 lo:Nat):Int)=0:=eq_of_beq q.1.1
  have q2:sIx items.size items.size hi-sIx items.size 0 lo=items.size:=eq_of_beq q.2
  exact hw ⟨by omega,by omega⟩
 show wpAny _ _ (if (((sIx items.size 0 lo:Nat):Int) == 0&&(1:Int) == 1&&(sIx items.size items.size hi-sIx items.size 0 lo) == items.size)=true then _ else _) _ _ s
 rw [if_neg hno,Ny]
 first
  |exact W9 (m:=Vu _) (Vi (Wm ⟨_,rfl,Wm h⟩) htake)
  |exact W9 (m:=Vu _) (Vi (W9 (Wm (Wm ⟨_,rfl,Wm h⟩))) htake)
  |exact W9 (W9 (m:=Vu _) (Vi (Wm (Wm ⟨_,rfl,Wm h⟩)) htake))
  |exact W9 (W9 (m:=Vu _) (Vi (Wm ⟨_,rfl,Wm h⟩) htake))
end
end HT
namespace L2
open PySem PySem.Spec PyProof.Rows
abbrev TO:=St->Hp->(Option Int->Hp->Prop)->Prop
def PO (X:Cx)(e:Option Expr)(t:TO):Prop:=
 ∀(pins:List (Addr×Obj)) (s:Shared) (σ:St) (H:Hp) (Q:Option Int->Hp->Prop),Inv X pins σ H s->t σ H Q->
  wpAny (model X.prog X.w) X.A (evalPart e X.env) (λu s'=>∃o H',Inv X pins σ H' s'/\IsPart u o/\Q o H') X.xe s
def R6:TO:=λ_ H Q=>Q none H
def AL (t:TE):TO:=λσ H Q=>t σ H λx H1=>∃i,x = .int i/\Q (some i) H1
section
variable {X:Cx} {e:Expr} {te:TE} {lo hi:Option Expr} {tl th:TO} {pos p2:Pos}
theorem Rn:PO X none R6:=by
 intro pins s σ H Q I h
 rw [evalPart_none]
 exact Wm ⟨none,H,I,.none,h⟩
theorem Rm (h:PE X e te):PO X (some e) (AL te):=by
 intro pins s σ H Q I hw
 rw [evalPart_some]
 refine thn (h pins s σ H _ I hw) λu s1 ⟨x,H1,I1,r1,q1⟩=>?_
 obtain⟨i,rfl,q⟩:=q1
 obtain⟨t,rfl⟩:=r1
 exact⟨some i,H1,I1,.int i t,q⟩
def SlR (X:Cx)(r:V->Option Int->Option Int->Hp->VK->Prop):Prop:=
 ∀(pins:List (Addr×Obj)) (s:Shared) (σ:St) (H:Hp) (x:V) (v vl vu:Value) (lo hi:Option Int) (sl:Addr) (Q:VK),Inv X pins σ H s->ZS x v->s.heap.IsSliceOf sl vl vu .none->IsPart vl lo->IsPart vu hi->r x lo hi H Q->
  ∃T id,typeLookup (.type T) "__getitem__" = pure (some (.builtin id))/\s.TypeIs v T/\wpAny (model X.prog X.w) X.A (getItem v (.ref sl)) (EP X pins σ Q) X.xe s
theorem SlR.or {r r':V->Option Int->Option Int->Hp->VK->Prop}(h:SlR X r)(h':SlR X r'):SlR X (λx lo hi H Q=>r x lo hi H Q\/r' x lo hi H Q):=by
 intro pins s σ H x v vl vu lo hi sl Q I rx hs pl pu q
 rcases q with q|q
 ·exact h pins s σ H x v vl vu lo hi sl Q I rx hs pl pu q
 ·exact h' pins s σ H x v vl vu lo hi sl Q I rx hs pl pu q
def tSl (r:V->Option Int->Option Int->Hp->VK->Prop)(te:TE)(tl th:TO):TE:=λσ H Q=>te σ H λx H1=>tl σ H1 λl H2=>th σ H2 λu H3=>r x l u H3 Q
theorem Nz {r:V->Option Int->Option Int->Hp->VK->Prop}(hr:SlR X r)(he:PE X e te)(hl:PO X lo tl)(hu:PO X hi th):PE X (.Subscript e (.Slice lo hi none p2) pos) (tSl r te tl th):=by
 intro pins s σ H Q I h
 refine Subscript_ (thn (he pins s σ H _ I h) λv s1 ⟨x,H1,I1,r1,q1⟩=>?_)
 refine wpAny_Slice (thn (hl pins s1 σ H1 _ I1 q1) λvl s2 ⟨l,H2,I2,pl,q2⟩=>thn (hu pins s2 σ H2 _ I2 q2) λvu s3 ⟨u,H3,I3,pu,q3⟩=>?_)
 rw [evalPart_none]
 refine Wm ?_
 have I4:Inv X pins σ H3 { s3 with heap:=s3.heap.push { cls:=.type "slice",data:=.fields #[vl,vu,.none] } }:=I3.kept (t':=s3.toks) λb ob q=>Wj _ q
 obtain⟨T,id,hT,ht,hg⟩:=hr pins { s3 with heap:=s3.heap.push { cls:=.type "slice",data:=.fields #[vl,vu,.none] } } σ H3 x v vl vu l u s3.heap.objs.size Q I4 r1 (Heap.IsSliceOf.new ..) pl pu q3
 show wpAny (model X.prog X.w) X.A (subscriptTail e (.Slice lo hi none p2) v (.ref s3.heap.objs.size)) (EP X pins σ Q) X.xe { s3 with heap:=s3.heap.push { cls:=.type "slice",data:=.fields #[vl,vu,.none] } }
 exact tail_any (ops:=[.ref s3.heap.objs.size,v]) ht hT hg (by with_unfolding_all rfl)
def Nj (xs:List V)(lo hi:Option Int):List V:=(xs.drop (HT.sIx xs.length 0 lo)).take (HT.sIx xs.length xs.length hi-HT.sIx xs.length 0 lo)
theorem QJ (xs:List V)(lo hi:Option Int):(Nj xs lo hi).length≤xs.length:=by
 unfold Nj
 rw [WW,Vn]
 omega
def Hb (K:W4):V->Option Int->Option Int->Hp->VK->Prop:=λx lo hi H Q=>∃a xs,x = .ref a/\SqT K H a xs/\
 ¬(HT.sIx xs.length 0 lo=0/\HT.sIx xs.length xs.length hi=xs.length)/\∀p,H p=none->Q (.ref p) (upd H p (.tup (Nj xs lo hi)))
theorem PY:SlR X (Hb X.K):=by
 intro pins s σ H x v vl vu lo hi sl Q I rx hs pl pu h
 obtain⟨a,xs,rfl,hx,hw,q⟩:=h
 cases rx
 obtain⟨its,r,ht,hz⟩:=I.tuple hx
 have hlen:its.toArray.size=xs.length:=by rw [Wl];exact r.length.symm
 refine⟨"tuple",_,WV.lookup,ht.typeIs,?_⟩
 refine HT.getItem_tuple_cut ht hs pl pu (by rw [hlen];exact hw) ?_ (by rw [hlen];exact hz)
 rw [hlen]
 refine⟨.ref s.heap.objs.size,_,I.laid (t':=s.toks) (o:=.tup (Nj xs lo hi)) (λb ob q=>Wj _ q) (Wu _) ?_,rfl,q _ (I.hok.fresh (Wu _))⟩
 exact⟨Wz (QJ xs lo hi) hz,_,(r.drop (HT.sIx xs.length 0 lo)).take (HT.sIx xs.length xs.length hi-HT.sIx xs.length 0 lo),Pv.new _ _⟩
def AW (K:W4):R2:=λx y H Q=>∃a b xs ys,x = .ref a/\y = .ref b/\SqT K H a xs/\SqT K H b ys/\xs≠[]/\xs.length+ys.length≤Wk/\
 (ys=[]->Q (.ref a) H)/\(ys≠[]->∀p,H p=none->Q (.ref p) (upd H p (.tup (xs++ys))))
theorem ZQ.nil_iff {xs:List V}{us:List Value}(r:ZQ xs us):us=[]↔xs=[]:=by
 cases r with
 |nil=>simp
 |cons _ _=>simp
theorem RC:OpR X (binaryOp .Add) (AW X.K):=by
 intro pins s σ H x y v u Q I rx ry h
 obtain⟨a,b,xs,ys,rfl,rfl,ha,hb,hx,hz,q1,q2⟩:=h
 cases rx
 cases ry
 obtain⟨its,r1,p1,_⟩:=I.tuple ha
 obtain⟨its2,r2,p2,_⟩:=I.tuple hb
 refine HT.cat_tup p1 p2 (λz=>hx (r1.nil_iff.mp z)) (λz=>⟨.ref a,H,I,rfl,q1 (r2.nil_iff.mp z)⟩) (λz=>?_) (by rw [←r1.length,←r2.length];exact hz)
 refine⟨.ref s.heap.objs.size,_,I.laid (t':=s.toks) (o:=.tup (xs++ys)) (λb ob q=>Wj _ q) (Wu _) ?_,rfl,q2 (λw=>z (r2.nil_iff.mpr w)) _ (I.hok.fresh (Wu _))⟩
 exact⟨by rw [Wx];exact hz,_,r1.append r2,Pv.new _ _⟩
end
end L2
namespace L2
open PySem PySem.Spec PyProof.Rows
def ixN (n:Nat)(i:Int):Option Nat:=if 0≤i then (if i<n then some i.toNat else none) else if -(n:Int)≤i then some (i+n).toNat else none
def atI {α:Type}(xs:List α)(i:Int):Option α:=(ixN xs.length i).bind λj=>xs[j]?
theorem P4 {n:Nat}{i:Int}{j:Nat}(h:ixN n i=some j):seqIndex? i n=some j/\j<n/\-(n:Int)≤i/\i<n:=by
 unfold ixN at h
 by_cases h0:0≤i
 ·rw [if_pos h0] at h
  by_cases h1:i<n
  ·rw [if_pos h1] at h
   have e:i.toNat=j:=WM h
   exact⟨by rw [seqIndex_of h0 h1,e],by omega,by omega,h1⟩
  ·rw [if_neg h1] at h;cases h
 ·rw [if_neg h0] at h
  by_cases h1 : -(n:Int)≤i
  ·rw [if_pos h1] at h
   have e:(i+n).toNat=j:=WM h
   exact⟨by rw [seqIndex_neg (by omega) h1,e],by omega,h1,by omega⟩
  ·rw [if_neg h1] at h;cases h
theorem UW {α:Type}{xs:List α}{i:Int}{v:α}(h:atI xs i=some v):∃j,seqIndex? i xs.length=some j/\xs[j]? = some v/\j<xs.length/\-(xs.length:Int)≤i/\i<xs.length:=by
 unfold atI at h
 cases e:ixN xs.length i with
 |none=>rw [e] at h;cases h
 |some j=>
  rw [e] at h
  obtain⟨h1,h2,h3,h4⟩:=P4 e
  exact⟨j,h1,h,h2,h3,h4⟩
theorem UV {α:Type}{xs:List α}{j:Nat}{v:α}(h:xs[j]? = some v):atI xs (j:Int)=some v:=by
 have hj:j<xs.length:=(Wn.mp h).1
 have e:ixN xs.length (j:Int)=some j:=by
  unfold ixN
  rw [if_pos (by omega),if_pos (by omega)];simp
 unfold atI;rw [e];exact h
def Nd (b:Expr):Prop:=∀o i,subscripted b false o i=operate [o,i] (getItem o i)
def IxR (X:Cx)(r:R2):Prop:=
 ∀(value slice:Expr) (pins:List (Addr×Obj)) (s:Shared) (σ:St) (H:Hp) (x y:V) (v u:Value) (Q:VK),Inv X pins σ H s->ZS x v->ZS y u->r x y H Q->
  subscripted slice false v u=operate [v,u] (getItem v u)->wpAny (model X.prog X.w) X.A (subscriptTail value slice v u) (EP X pins σ Q) X.xe s
def MtR (X:Cx)(id:String)(r:V->List V->Hp->VK->Prop):Prop:=
 ∀(pins:List (Addr×Obj)) (s:Shared) (σ:St) (H:Hp) (x:V) (xs:List V) (v:Value) (us:List Value) (Q:VK),Inv X pins σ H s->ZS x v->ZQ xs us->r x xs H Q->
  wpAny (model X.prog X.w) X.A (call (.builtin id) (v :: us)) (EP X pins σ Q) X.xe s
section
variable {X:Cx} {a b:Expr} {ta tb:TE} {pos:Pos}
theorem IxR.or {r r':R2}(h:IxR X r)(h':IxR X r'):IxR X (λx y H Q=>r x y H Q\/r' x y H Q):=by
 intro value slice pins s σ H x y v u Q I rx ry q hs
 rcases q with q|q
 ·exact h value slice pins s σ H x y v u Q I rx ry q hs
 ·exact h' value slice pins s σ H x y v u Q I rx ry q hs
theorem E6 {r:R2}(hr:IxR X r)(ha:PE X a ta)(hb:PE X b tb)(hs:Nd b):PE X (.Subscript a b pos) (tOp r ta tb):=by
 intro pins s σ H Q I h
 exact Subscript_ (EC ha hb I h λv u s2 x y H2 I2 rx ry q=>hr a b pins s2 σ H2 x y v u Q I2 rx ry q (hs _ _))
def EM (K:W4):R2:=λx y H Q=>∃p xs i v,x = .ref p/\y = .int i/\SqL K H p xs/\atI xs i=some v/\Q v H
def EK (K:W4):R2:=λx y H Q=>∃p xs i v,x = .ref p/\y = .int i/\SqT K H p xs/\atI xs i=some v/\Q v H
def EL:R2:=λx y H Q=>∃z i c,x = .str z/\y = .int i/\z.length≤Wk/\atI z.cps.toList i=some c/\Q (.str ⟨#[c]⟩) H
theorem P0:IxR X (EM X.K):=by
 intro value slice pins s σ H x y v u Q I rx ry h hs
 obtain⟨p,xs,i,z,rfl,rfl,hq,he,q⟩:=h
 cases rx
 obtain⟨t,rfl⟩:=ry
 obtain⟨its,r,pl,hz⟩:=I.list hq
 obtain⟨j,h1,h2,h3,h4,h5⟩:=UW he
 obtain⟨w,ew,rw'⟩:=r.get h2
 have hl:=r.length
 have hn:=QX
 have fin:EP X pins σ Q w s:=⟨z,H,I,rw',q⟩
 by_cases h0:0≤i
 ·have hj:i.toNat=j:=by
   rw [seqIndex_of h0 h5] at h1
   exact WM h1
  exact item_listR pl.isList h0 (by omega) (by rw [hj];simpa using ew) fin hs
 ·have hj:(i+(its.toArray.size:Int)).toNat=j:=by
   rw [seqIndex_neg (by omega) h4] at h1
   rw [Wl,←hl]
   exact WM h1
  exact subscriptTail_builtinR (x:=w) pl.isList.typeIs slot_list_getitem.lookup
   (wpAny_getItem_list_neg (Q:=λr s'=>r=w/\EP X pins σ Q r s') pl.isList (by omega) (by rw [Wl]<;>omega) (by omega) (by rw [hj];simpa using ew) ⟨rfl,fin⟩) hs
theorem FE:IxR X (EK X.K):=by
 intro value slice pins s σ H x y v u Q I rx ry h hs
 obtain⟨p,xs,i,z,rfl,rfl,hq,he,q⟩:=h
 cases rx
 obtain⟨t,rfl⟩:=ry
 obtain⟨its,r,pl,hz⟩:=I.tuple hq
 obtain⟨j,h1,h2,h3,h4,h5⟩:=UW he
 obtain⟨w,ew,rw'⟩:=r.get h2
 have hl:=r.length
 have hn:=QX
 have fin:EP X pins σ Q w s:=⟨z,H,I,rw',q⟩
 exact subscriptTail_builtinR (x:=w) pl.typeIs slot_tuple_getitem.lookup
  (getItem_tuple (j:=j) (Q:=λr s'=>r=w/\EP X pins σ Q r s') pl (by omega) (by omega) (by rw [Wl,←hl];exact h1) (by simpa using ew) ⟨rfl,fin⟩) hs
theorem FF:IxR X EL:=by
 intro value slice pins s σ H x y v u Q I rx ry h hs
 obtain⟨z,i,c,rfl,rfl,hz,he,q⟩:=h
 obtain⟨t,rfl⟩:=rx
 obtain⟨t',rfl⟩:=ry
 obtain⟨j,h1,h2,h3,h4,h5⟩:=UW he
 have hl:z.cps.toList.length=z.length:=by simp [Str.length]
 rw [hl] at h1 h4 h5
 have hn:=QX
 exact tail_any (typeIs_str s z t) slot_str_getitem.lookup (getItem_str (c:=c) (by
  have e1:decide (i < -(2 ^ 63:Int))=false:=decide_eq_false (by omega)
  have e2:decide (i≥2 ^ 63)=false:=decide_eq_false (by omega)
  rw [e1,e2,Bool.or_false]) (by rw [h1];simpa using h2) ⟨.str ⟨#[c]⟩,H,I.tok _,⟨_,rfl⟩,q⟩) hs
def rIx (K:W4):R2:=λx y H Q=>EM K x y H Q\/EK K x y H Q\/EL x y H Q
theorem FG:IxR X (rIx X.K):=P0.or (FE.or FF)
theorem JI (lo hi:Option Int)(n:Nat):(sliceBounds lo hi none n).1=((HT.sIx n 0 lo:Nat):Int)/\(sliceBounds lo hi none n).2.1=((HT.sIx n n hi:Nat):Int)/\(sliceBounds lo hi none n).2.2=1:=by
 refine⟨?_,?_,rfl⟩
 ·cases lo with
  |none=>simp [sliceBounds,HT.sIx]
  |some i=>
   simp only [sliceBounds,HT.sIx,Option.getD_none,show (1:Int)>0 by decide,if_true]
   by_cases h:i<0
   ·simp only [h,if_true]<;>omega
   ·simp only [h,if_false]<;>omega
 ·cases hi with
  |none=>simp [sliceBounds,HT.sIx]
  |some i=>
   simp only [sliceBounds,HT.sIx,Option.getD_none,show (1:Int)>0 by decide,if_true]
   by_cases h:i<0
   ·simp only [h,if_true]<;>omega
   ·simp only [h,if_false]<;>omega
theorem Jg (its:List Value)(lo hi:Option Int):slicePick its.toArray lo hi none=((its.drop (HT.sIx its.length 0 lo)).take (HT.sIx its.length its.length hi-HT.sIx its.length 0 lo)).toArray:=by
 obtain⟨h1,h2,h3⟩:=JI lo hi its.toArray.size
 unfold slicePick
 rw [h1,h2,h3]
 simp only [sliceRange_one,pick_run,Wl]<;>rfl
def Hc (K:W4):V->Option Int->Option Int->Hp->VK->Prop:=λx lo hi H Q=>∃a xs,x = .ref a/\SqL K H a xs/\∀p,H p=none->Q (.ref p) (upd H p (.lst (Nj xs lo hi)))
theorem Jh:SlR X (Hc X.K):=by
 intro pins s σ H x v vl vu lo hi sl Q I rx hs pl pu h
 obtain⟨a,xs,rfl,hx,q⟩:=h
 cases rx
 obtain⟨its,r,ht,hz⟩:=I.list hx
 have hlen:=r.length
 refine⟨"list",_,slot_list_getitem.lookup,ht.isList.typeIs,?_⟩
 refine wpAny_getItem_list_slice ht.isList hs pl pu .none (by simp) ?_ (by rw [Wl]<;>omega)
 rw [Jg,←hlen]
 refine⟨.ref s.heap.objs.size,_,I.laid (t':=s.toks) (o:=.lst (Nj xs lo hi)) (λb ob q=>Wj _ q) (Wu _) ?_,rfl,q _ (I.hok.fresh (Wu _))⟩
 exact⟨Wz (QJ xs lo hi) hz,_,0,(r.drop (HT.sIx xs.length 0 lo)).take (HT.sIx xs.length xs.length hi-HT.sIx xs.length 0 lo),Ws _ rfl⟩
theorem Ug:YH X (.builtin "len") (λxs H Q=>∃p ys,xs=[.ref p]/\(SqL X.K H p ys\/SqT X.K H p ys)/\Q (.int ys.length) H):=by
 intro pins s σ H xs us Q I r h
 obtain⟨p,ys,rfl,hq,q⟩:=h
 obtain⟨u,rfl,rx⟩:=JD r
 cases rx
 have hn:=QX
 rcases hq with hq|hq
 ·obtain⟨its,r',pl,hz⟩:=I.list hq
  have hlen:=r'.length
  exact Calls.call_len_list pl.isList (by simp only [Wl]<;>omega) ⟨.int ys.length,H,I.tok _,⟨s.toks+1,by rw [Wl,hlen]⟩,q⟩
 ·obtain⟨its,r',pl,hz⟩:=I.tuple hq
  have hlen:=r'.length
  exact len_tuple pl (by simp only [Wl]<;>omega) ⟨.int ys.length,H,I.tok _,⟨s.toks+1,by rw [Wl,hlen]⟩,q⟩
theorem Uf:YH X (.builtin "len") (λxs H Q=>∃z,xs=[.str z]/\z.length≤Wk/\Q (.int z.length) H):=by
 intro pins s σ H xs us Q I r h
 obtain⟨z,rfl,hz,q⟩:=h
 obtain⟨u,rfl,t,rfl⟩:=JD r
 have hn:=QX
 exact len_str (by omega) ⟨.int z.length,H,I.tok _,⟨_,rfl⟩,q⟩
theorem YH.or {f:Value}{r r':List V->Hp->VK->Prop}(h:YH X f r)(h':YH X f r'):YH X f (λxs H Q=>r xs H Q\/r' xs H Q):=by
 intro pins s σ H xs us Q I rs q
 rcases q with q|q
 ·exact h pins s σ H xs us Q I rs q
 ·exact h' pins s σ H xs us Q I rs q
theorem Ue:YH X (.type "list") (λxs H Q=>∃p ys,xs=[.ref p]/\(SqL X.K H p ys\/SqT X.K H p ys)/\∀l,H l=none->Q (.ref l) (upd H l (.lst ys))):=by
 intro pins s σ H xs us Q I r h
 obtain⟨p,ys,rfl,hq,q⟩:=h
 obtain⟨u,rfl,rx⟩:=JD r
 cases rx
 have fin:∀(its:List Value),ZQ ys its->ys.length≤Wk->∀(h':Heap) (c':Nat),(∀b o',s.heap.get? b=some o'->h'.get? b=some o')->
   h'.get? s.heap.objs.size=some { cls:=.type "list",dict:=none,data:=.seq its.toArray c',slots:=#[] }->EP X pins σ Q (.ref s.heap.objs.size) { s with heap:=h' }:=λits r' hz h' c' kp e=>
  ⟨.ref s.heap.objs.size,_,I.laid (t':=s.toks) kp (Wu _) (show ZE X.prog X.w _ h' _ (.lst ys) from ⟨hz,its,c',r',e⟩),rfl,q _ (I.hok.fresh (Wu _))⟩
 rcases hq with hq|hq
 ·obtain⟨its,r',pl,hz⟩:=I.list hq
  have hlen:=r'.length
  obtain⟨o,ho,hc,n,hd⟩:=pl.isList
  exact call_list_seq p (.inl rfl) ho hc hd (λh' c' kp e=>fin its r' hz h' c' kp e) (by simp only [Wl]<;>omega)
 ·obtain⟨its,r',pl,hz⟩:=I.tuple hq
  have hlen:=r'.length
  obtain⟨o,ho,hc,n,hd⟩:=pl
  exact call_list_seq p (.inr rfl) ho hc hd (λh' c' kp e=>fin its r' hz h' c' kp e) (by simp only [Wl]<;>omega)
theorem Jt:YH X (.type "tuple") (λxs H Q=>∃p ys,xs=[.ref p]/\((SqL X.K H p ys/\∀l,H l=none->Q (.ref l) (upd H l (.tup ys)))\/(SqT X.K H p ys/\Q (.ref p) H))):=by
 intro pins s σ H xs us Q I r h
 obtain⟨p,ys,rfl,h⟩:=h
 obtain⟨u,rfl,rx⟩:=JD r
 cases rx
 rcases h with ⟨hq,q⟩|⟨hq,q⟩
 ·obtain⟨its,r',pl,hz⟩:=I.list hq
  have hlen:=r'.length
  refine call_tuple_list pl.isList (λh' kp=>?_) (by simp only [Wl]<;>omega)
  have I1:Inv X pins σ H { s with heap:=h' }:=I.kept (t':=s.toks) kp
  have I2:Inv X pins σ (upd H h'.objs.size (.tup ys)) { s with heap:=h'.push { cls:=.type "tuple",data:=.seq its.toArray } }:=
   I1.laid (t':=s.toks) (λb o e=>Wj _ e) (Wu _) (show ZE X.prog X.w _ _ _ (.tup ys) from ⟨hz,its,r',Pv.new _ _⟩)
  exact⟨.ref h'.objs.size,_,I2,rfl,q _ (I1.hok.fresh (Wu _))⟩
 ·obtain⟨its,r',pl,hz⟩:=I.tuple hq
  exact call_tuple_same pl ⟨.ref p,H,I,rfl,q⟩
def tyV (K:W4)(T:String)(x:V)(H:Hp):Prop:=match x with
 | .str _=>T = "str"
 | .int _=>T = "int"
 | .ref p=>(T = "list"/\∃xs,SqL K H p xs)\/(T = "tuple"/\∃o,K.lookup p=some o/\o.cls = .type "tuple"/\o.dict=none)\/
   (T = "dict"/\((∃kvs,H p=some (.dK kvs))\/∃kvs,H p=some (.dT kvs)))\/(T = "set"/\∃S n,H p=some (.set S n))
 |_=>False
theorem PH {pins:List (Addr×Obj)}{σ:St}{H:Hp}{s:Shared}{T:String}{x:V}{v:Value}(I:Inv X pins σ H s)(r:ZS x v)(ty:tyV X.K T x H) :
  s.TypeIs v T/\∀a,v = .ref a->∃ob,s.heap.get? a=some ob/\ob.dict=none:=by
 cases x with
 |str z=>
  obtain⟨t,rfl⟩:=r
  cases (show T = "str" from ty)
  exact⟨typeIs_str s z t,λ_ e=>nomatch e⟩
 |int i=>
  obtain⟨t,rfl⟩:=r
  cases (show T = "int" from ty)
  exact⟨typeIs_int s i t,λ_ e=>nomatch e⟩
 |ref p=>
  cases r
  rcases ty with ⟨rfl,xs,hq⟩|⟨rfl,o,hk,hc,hd⟩|⟨rfl,hk⟩|⟨rfl,S,n,hk⟩
  ·obtain⟨its,_,pl,_⟩:=I.list hq
   refine⟨pl.isList.typeIs,λa e=>?_⟩
   cases e
   obtain⟨o,n,e,c,hd,_⟩:=pl
   exact⟨o,e,hd⟩
  ·refine⟨⟨o,I.kIn p o hk,hc⟩,λa e=>?_⟩
   cases e
   exact⟨o,I.kIn _ o hk,hd⟩
  ·have z:∃o,s.heap.get? p=some o/\o.ExactDict:=by
    rcases hk with ⟨kvs,hk⟩|⟨kvs,hk⟩
    ·obtain⟨_,_,_,_,o,_,_,e,ex,_⟩:=I.hok p _ hk
     exact⟨o,e,ex⟩
    ·obtain⟨_,_,_,_,o,_,_,e,ex,_⟩:=I.hok p _ hk
     exact⟨o,e,ex⟩
   obtain⟨o,e,ex⟩:=z
   refine⟨⟨o,e,ex.1⟩,λa e2=>?_⟩
   cases e2
   exact⟨o,e,ex.2.1⟩
  ·obtain⟨o,_,_,_,e,ex,_⟩:=I.hok p _ hk
   refine⟨⟨o,e,ex.1⟩,λa e2=>?_⟩
   cases e2
   exact⟨o,e,ex.2.1⟩
 |_=>exact False.elim ty
def tBM (K:W4)(T:String)(r:V->List V->Hp->VK->Prop)(to:TE)(t:TA):TE:=λσ H Q=>to σ H λx H1=>tyV K T x H1/\t σ H1 λxs H2=>r x xs H2 Q
variable {o e:Expr} {es:List Expr} {to:TE} {t:TA} {name:Str} {apos cpos:Pos} {T id:String} {r:V->List V->Hp->VK->Prop}
theorem Lu (pa:PlainAttrs T)(slot:Slot T name id)(hty:typeOf (.builtin id)=pure (.type "method_descriptor"))(hm:MtR X id r)(ho:PE X o to)(ha:PA X (e :: es) t)
  (hbase:attributeBase o name X.env (eval o X.env)=eval o X.env:=by rfl)
  (hfew:((backTo cpos (Wr (e :: es) X.env)).all (λx=>!x.1)&&(backToKw cpos (keywordEach [] X.env)).all (λx=>x.1.isSome)
   && decide ((e :: es).length+([]:List Keyword).length+(if ([]:List Keyword).isEmpty then 0 else 1)<30))=true:=by rfl)
  (hline:(apos.endLine == cpos.line)=true:=by rfl) (hs:Wr (e :: es) X.env=(false,eval e X.env) :: Wr es X.env:=by rfl) (hplain:(backTo cpos (Wr es X.env)).any (·.1)=false:=by rfl) :
  PE X (.Call (.Attribute o name apos) (e :: es) [] cpos) (tBM X.K T r to t):=by
 intro pins s σ H Q I h
 refine wpAny_Call_method_late hbase hfew hline rfl (thn (ho pins s σ H _ I h) λv s1 ⟨x,H1,I1,r1,ty,q1⟩=>?_)
 obtain⟨h1,h2⟩:=PH I1 r1 ty
 refine⟨T,id,pa,slot,hty,h1,h2,?_⟩
 have hA:=ha cpos pins s1 σ H1 _ I1 q1
 rw [hs] at hA ⊢
 refine Calls.callWith_builtin (by show (false||(backTo cpos (Wr es X.env)).any (·.1))=false;rw [hplain]<;>rfl) (Calls.evalArgs_plain ?_)
 exact thn hA λus s2 ⟨vs,H2,I2,r2,q2⟩=>hm pins s2 σ H2 x vs v us Q I2 r1 r2 q2
/- xs.append(e),list.index on a module's tuple .. are MtR facts of 06m -/
end
end L2
namespace L2
open PySem PySem.Spec PyProof.Rows
def MtM (X:Cx)(id:String)(r:V->List V->Hp->VK->Prop):Prop:=
 ∀(pins:List (Addr×Obj)) (s:Shared) (σ:St) (H:Hp) (x:V) (xs:List V) (v:Value) (us:List Value) (Q:VK),Inv X pins σ H s->ZS x v->ZQ xs us->r x xs H Q->
  wpAny (model X.prog X.w) X.A (call (.builtin id) (v :: us)) (EP X pins σ Q) X.xe s
theorem ZQ.one:∀{x:V} {us:List Value},ZQ [x] us->∃u,us=[u]/\ZS x u
 |_,_,.cons r .nil=>⟨_,rfl,r⟩
section
variable {X:Cx} {pins:List (Addr×Obj)} {σ:St} {H:Hp} {s:Shared} {l b:Addr} {xs ys zs:List V}
theorem Inv.lset {its its':List Value}{n:Nat}{f:Array Value->Array Value}{t':Nat}(I:Inv X pins σ H s)(hH:H l=some (.lst xs))
  (e:s.heap.get? l=some { cls:=.type "list",data:=.seq its.toArray n }) (hf:f its.toArray=its'.toArray) (hv:ZQ ys its') (hz:ys.length≤Wk) :
  Inv X pins σ (upd H l (.lst ys)) { s with heap:=s.heap.update l (Obj.mapSeq f),toks:=t' }:=by
 have q:=PySem.IsL.update e f
 rw [hf] at q
 refine I.write (x:=l) (e:=l) (by rw [hH];exact trivial) (.inl rfl) (λb' u hb hu=>(Heap.get?_update_other s.heap (Obj.mapSeq f) (Ne.symm hb)).trans hu) ⟨_,q⟩ ?_
 exact⟨hz,its',_,hv,q⟩
theorem Inv.lnew {its:List Value}{t':Nat}(I:Inv X pins σ H s)(hv:ZQ ys its)(hz:ys.length≤Wk) :
  Inv X pins σ (upd H s.heap.objs.size (.lst ys)) { s with heap:=s.heap.push { cls:=.type "list",data:=.seq its.toArray },toks:=t' }:=
 I.laid (λ_ _ q=>Wj _ q) (Wu _) ⟨hz,its,0,hv,Ws _ rfl⟩
theorem Inv.fresh (I:Inv X pins σ H s):H s.heap.objs.size=none:=I.hok.fresh (Wu _)
theorem Inv.lstM (I:Inv X pins σ H s)(hH:H l=some (.lst xs)):xs.length≤Wk/\∃(its:List Value) (n:Nat),ZQ xs its/\xs.length=its.length/\s.heap.get? l=some { cls:=.type "list",data:=.seq its.toArray n }:=by
 obtain⟨z,its,n,r,e⟩:=I.hok l _ hH
 exact⟨z,its,n,r,r.length,e⟩
end
section
variable {X:Cx}
def Rg:V->List V->Hp->VK->Prop:=λx vs H Q=>∃l xs y,x = .ref l/\vs=[y]/\H l=some (.lst xs)/\xs.length<Wk/\Q .non (upd H l (.lst (xs++[y])))
theorem B2:MtM X "list.append" Rg:=by
 intro pins s σ H x vs v us Q I rx rv h
 obtain⟨l,xs,y,rfl,rfl,hH,hz,q⟩:=h
 cases rx
 obtain⟨u,rfl,ru⟩:=rv.one
 obtain⟨z,its,n,r,hl,e⟩:=I.lstM hH
 refine call_meets F.slot_list_append ⟨_,e,rfl⟩ F.entry_list_append (F.args_list_append_2 _ _) (PySem.list_append l its.toArray n u (by rw [Wl];omega)) ⟨e,?_⟩
 refine⟨.non,_,I.lset (its':=its++[u]) hH e (by simp) (r.append (.cons ru .nil)) ?_,rfl,q⟩
 rw [Wx,List.length_singleton]
 omega
def He:R2:=λx y H Q=>∃l b xs zs,x = .ref l/\y = .ref b/\H l=some (.lst xs)/\H b=some (.lst zs)/\xs.length+zs.length≤Wk/\∀p,H p=none->Q (.ref p) (upd H p (.lst (xs++zs)))
theorem LD:OpR X (binaryOp .Add) He:=by
 intro pins s σ H x y v u Q I rx ry h
 obtain⟨l,b,xs,zs,rfl,rfl,hH,hB,hz,q⟩:=h
 cases rx
 cases ry
 obtain⟨z,its,n,r,hl,e⟩:=I.lstM hH
 obtain⟨z2,its2,n2,r2,hl2,e2⟩:=I.lstM hB
 refine PySem.P.add_list e e2 ?_ (by rw [Wl,Wl];omega)
 have ea:its.toArray++its2.toArray=(its++its2).toArray:=by simp
 rw [ea]
 exact⟨.ref _,_,I.lnew (t':=s.toks) (r.append r2) (by rw [Wx];omega),rfl,q _ I.fresh⟩
end
section
variable {prog:Program} {w:World} {A:Around} {E:Value->Shared->Prop} {s:Shared}
end
section
variable {X:Cx}
end
end L2
namespace L2
open PySem PySem.Spec PyProof.Rows
section
variable {κ:Type} [DecidableEq κ]
def Go (kvs:List (κ×V))(k:κ):Option V:=(kvs.find? λkv=>decide (kv.1=k)).map (·.2)
theorem J9 {p:κ×V}{r:List (κ×V)}{k:κ}(e:p.1=k):Go (p :: r) k=some p.2:=by simp [Go,Vj,e]
theorem Ja {p:κ×V}{r:List (κ×V)}{k:κ}(e:¬p.1=k):Go (p :: r) k=Go r k:=by simp [Go,Vj,e]
theorem KV.val {kvs:List (κ×V)}{vs:List (κ×Value)}(r:KV kvs vs)(k:κ):NX (Go kvs k) (valueAt vs k):=by
 unfold KV at r
 induction r with
 |nil=>exact True.intro
 | @cons p q ps qs h t ih=>
  obtain⟨h1,h2⟩:=h
  by_cases e:p.1=k
  ·have e':q.1=k:=h1.symm.trans e
   have b:valueAt (q :: qs) k=some q.2:=by simp [valueAt,Vj,e']
   rw [J9 e,b];exact h2
  ·have e':¬q.1=k:=λz=>e (h1.trans z)
   have b:valueAt (q :: qs) k=valueAt qs k:=by simp [valueAt,Vj,e']
   rw [Ja e,b];exact ih
theorem KV.length {kvs:List (κ×V)}{vs:List (κ×Value)}(r:KV kvs vs):kvs.length=vs.length:=W05 r
end
theorem RV {P:Program}{w:World}{k:Key}{u:Value}(r:ZS (kV k) u):(ZX P w).is k u=true:=by
 cases k with
 |inl i=>obtain⟨t,e⟩:=(show ∃t,u=Value.int i t from r);subst e;exact UC P w i t
 |inr x=>obtain⟨t,e⟩:=(show ∃t,u=Value.str x t from r);subst e;exact UB P w x t
theorem U5 {P:Program}{w:World}:∀{ks:List Key} {us:List Value},ZQ (ks.map kV) us->ItemsAre (ZX P w) ks us
 |[],_,r=>by rw [We] at r;cases r;exact .nil
 |k :: ks,_,r=>by
  rw [W5] at r
  cases r with
  |cons h t=>exact .cons (RV h) (U5 t)
abbrev KT (H:Hp):List (List Key×V)->List (List Key×Addr×Value)->Prop:=Paired λp q=>p.1=q.1/\H q.2.1=some (.tup (p.1.map kV))/\ZS p.2 q.2.2
theorem KT.val {H:Hp}{kvs:List (List Key×V)}{xs:List (List Key×Addr×Value)}(r:KT H kvs xs)(k:List Key):NX (Go kvs k) ((atKey xs k).map (·.2)):=by
 induction r with
 |nil=>exact True.intro
 | @cons p q ps qs h t ih=>
  obtain⟨h1,_,h2⟩:=h
  by_cases e:p.1=k
  ·have e':q.1=k:=h1.symm.trans e
   have b:atKey (q :: qs) k=some q.2:=by simp [atKey,Vj,e']
   rw [J9 e,b];exact h2
  ·have e':¬q.1=k:=λz=>e (h1.trans z)
   have b:atKey (q :: qs) k=atKey qs k:=by simp [atKey,Vj,e']
   rw [Ja e,b];exact ih
section
variable {P:Program} {w:World} {H:Hp} {h:Heap} {a:Addr}
theorem L9 {u:HO}(ok:HOk P w H h)(e:Rd H a u):ZE P w H h a u:=e.ok ok
theorem BW {kvs:List (Key×V)}(ok:HOk P w H h)(e:Rd H a (.dK kvs)):kvs.length≤Wk/\(a == sysModules)=false/\∃vs,KV kvs vs/\h.DictOf (ZX P w) a vs:=
 show ZE P w H h a (.dK kvs) from L9 ok e
theorem Mx {ks:List Key}(ok:HOk P w H h)(e:H a=some (.tup (ks.map kV))):(tupleKind (ZX P w)).is h ks a:=by
 obtain⟨_,its,r,⟨o,h1,h2,n,h3⟩,_⟩:=(show ZE P w H h a (.tup (ks.map kV)) from ok a _ e)
 exact⟨o,its.toArray,n,h1,h2,h3,by simpa using U5 r⟩
theorem BU {kvs:List (List Key×V)}(ok:HOk P w H h)(e:Rd H a (.dT kvs)):kvs.length≤Wk/\(a == sysModules)=false/\
  ∃xs,KT H kvs xs/\h.DictOfH (tupleKind (ZX P w)) a xs:=by
 obtain⟨z,y,xs,r,o,es,ep,h1,h2,h3,h4,h5⟩:=(show ZE P w H h a (.dT kvs) from L9 ok e)
 refine⟨z,y,xs,r,o,es,ep,h1,h2,h3,h4,λx hx=>?_,h5⟩
 have all:∀{l:List (List Key×V)} {m:List (List Key×Addr×Value)},KT H l m->∀x∈m,(tupleKind (ZX P w)).is h x.1 x.2.1:=by
  intro l m q
  induction q with
  |nil=>intro x hx;exact nomatch hx
  | @cons p q ps qs hq t ih=>
   intro x hx
   rcases Wy.mp hx with e|hx
   ·subst e
    exact Mx ok (by rw [←hq.1];exact hq.2.1)
   ·exact ih x hx
 exact all r x hx
end
def AJ (H:Hp)(a:Addr)(y:V)(r:Option V):Prop:=
 (∃kvs k,Rd H a (.dK kvs)/\y=kV k/\r=Go kvs k)\/∃kvs k b,Rd H a (.dT kvs)/\y = .ref b/\H b=some (.tup (k.map kV))/\r=Go kvs k
section
variable {X:Cx} {pins:List (Addr×Obj)} {σ:St} {H:Hp} {s:Shared} {a:Addr} {y v:V} {u r:Value} {o:Option V} {A:Around} {E:Value->Shared->Prop}
theorem BX {Q:Value->Shared->Prop}(hu:A.units+1<cLine)(I:Inv X pins σ H s)(g:AJ H a y (some v))(ry:ZS y u)(h:∀w' s',Inv X pins σ H s'->ZS v w'->Q w' s') :
  wpAny (model X.prog X.w) A (getItem (.ref a) u) Q E s:=by
 rcases g with ⟨kvs,k,e,ey,l⟩|⟨kvs,k,b,e,ey,eb,l⟩
 ·subst ey
  obtain⟨z,hd,vs,rel,dd⟩:=BW I.hok e
  obtain⟨w',hw,rw'⟩:=NX.some_of (v:=v) (o:=valueAt vs k) (by rw [l];exact rel.val k)
  exact wpAny_getItem_of (RV ry) dd.mapOf hw (h w' _ (I.tok _) rw')
 ·subst ey
  cases (show u=Value.ref b from ry)
  obtain⟨z,hd,xs,rel,dd⟩:=BU I.hok e
  obtain⟨w',hw,rw'⟩:=NX.some_of (v:=v) (o:=(atKey xs k).map (·.2)) (by rw [l];exact rel.val k)
  obtain⟨p,hp,hp2⟩:=Wi.mp hw
  refine wpAny_getItem_heap (tupleKind_room_in1 hu) (Mx I.hok eb) dd hp ?_
  rw [hp2]
  exact h w' _ (I.tok _) rw'
theorem Pk {h':Heap}{t':Nat}{ob:HO}(I:Inv X pins σ H s)(mu:Mut (H a))(hs:Vw a s.heap h')(he:∃q,h'.get? a=some q)(new:ZE X.prog X.w (upd H a ob) h' a ob) :
  Inv X pins σ (upd H a ob) { s with heap:=h',toks:=t' }:=
 I.write (x:=a) (e:=a) mu (.inl rfl) (λb q hb z=>(hs.2 b hb).trans z) he new
end
section
variable {X:Cx} {pins:List (Addr×Obj)} {σ:St} {H:Hp} {s:Shared} {a:Addr} {kvs:List (Key×V)} {k:Key} {u:Value} {A:Around} {E:Value->Shared->Prop}
theorem EB {Q:Value->Shared->Prop}(I:Inv X pins σ H s)(e:Rd H a (.dK kvs))(h:∀t s',Inv X pins σ H s'->Q (.int kvs.length t) s'):wpAny (model X.prog X.w) A (call (.builtin "len") [.ref a]) Q E s:=by
 obtain⟨z,hd,vs,rel,dd⟩:=BW I.hok e
 refine call_len_dict hd dd (by rw [←rel.length];rw [VZ] at z;omega) ?_
 rw [←rel.length]
 exact h _ _ (I.tok _)
theorem Pl {Q:Bool->Shared->Prop}(I:Inv X pins σ H s)(e:Rd H a (.dK kvs))(h:∀s',Inv X pins σ H s'->Q (!kvs.isEmpty) s'):wpAny (model X.prog X.w) A (truthy (.ref a)) Q E s:=by
 obtain⟨z,hd,vs,rel,dd⟩:=BW I.hok e
 refine wpAny_truthy_dict hd dd (by rw [←rel.length];rw [VZ] at z;omega) ?_
 have q:kvs.isEmpty=vs.isEmpty:=by cases rel<;>rfl
 rw [←q]
 exact h _ (I.tok _)
end
theorem UR {X:Cx}{pins:List (Addr×Obj)}{σ:St}{H:Hp}{s:Shared}{a:Addr}{y:V}{o:Option V}(I:Inv X pins σ H s)(g:AJ H a y o):s.TypeIs (.ref a) "dict":=by
 rcases g with ⟨kvs,k,e,_,_⟩|⟨kvs,k,b,e,_,_,_⟩
 ·obtain⟨_,_,vs,_,dd⟩:=BW I.hok e
  exact dd.typeIs
 ·obtain⟨_,_,xs,_,dd⟩:=BU I.hok e
  exact dd.typeIs
section
variable {X:Cx} {o i e value:Expr} {pos pos' tpos:Pos} {td ty tv:TE}
end
section
variable {X:Cx} {pos:Pos}
end
def IsD (H:Hp)(a:Addr):Prop:=(∃kvs,Rd H a (.dK kvs))\/∃kvs,Rd H a (.dT kvs)
theorem FI {X:Cx}{pins:List (Addr×Obj)}{σ:St}{H:Hp}{s:Shared}{a:Addr}(I:Inv X pins σ H s)(d:IsD H a) :
  s.TypeIs (.ref a) "dict"/\(∀b,Value.ref a = .ref b->∃ob,s.heap.get? b=some ob/\ob.dict=none)/\(a == sysModules)=false:=by
 rcases d with ⟨kvs,e⟩|⟨kvs,e⟩
 ·obtain⟨_,hd,vs,_,dd⟩:=BW I.hok e
  refine⟨dd.typeIs,λb q=>?_,hd⟩
  cases q
  obtain⟨ob,_,_,h1,h2,_⟩:=dd
  exact⟨ob,h1,h2.2.1⟩
 ·obtain⟨_,hd,xs,_,dd⟩:=BU I.hok e
  refine⟨dd.typeIs,λb q=>?_,hd⟩
  cases q
  obtain⟨ob,_,_,h1,h2,_⟩:=dd
  exact⟨ob,h1,h2.2.1⟩
section
variable {X:Cx} {pins:List (Addr×Obj)} {σ:St} {H:Hp} {s:Shared} {a:Addr} {y d:V} {u r:Value} {o:Option V} {A:Around} {E:Value->Shared->Prop}
end
section
variable {X:Cx} {o e f:Expr} {apos cpos:Pos} {td ty tx:TE}
end
section
variable {X:Cx} {pins:List (Addr×Obj)} {σ:St} {H:Hp} {s:Shared} {a:Addr} {kvs:List (Key×V)} {A:Around} {E:Value->Shared->Prop}
end
section
variable {X:Cx} {pins:List (Addr×Obj)} {σ:St} {H:Hp} {s:Shared} {a:Addr} {y:V} {u:Value} {A:Around} {E:Value->Shared->Prop}
end
end L2
namespace Att
open PySem PySem.W PySem.Calls PyProof.Rows
theorem QG {P:Params}{h:Heap}:∀(ns:List Int) (vs:List Value),WellAll P h vs (ns.map WData.int)->IntsAre vs ns:=by
 intro ns
 induction ns with
 |nil=>
  intro vs w
  rw [We] at w
  cases w
  exact .nil
 |cons n ns ih=>
  intro vs w
  rw [W5] at w
  cases w with
  |cons a b=>
   cases a
   exact .cons _ _ (ih _ b)
theorem GK {l:OpenLaw}{n:Nat}(hn:l.most=some n){P:Params}{h:Heap}{args:List WData}{vals:List Value}
  (hpre:l.row.toRowW.claim.pre args=true) (hwl:WellAll P h vals args) :
  ∃a vs ns,vals=[Value.ref a]/\args=[WData.list (ns.map WData.int)]/\h.get? a=some { cls:=.type "list",data:=.seq vs.toArray }/\IntsAre vs ns/\ns.length≤n:=by
 have hsh:WShape.hasAll [] args [.list .int]=true:=(pre_splitW hpre).1
 have hc:l.pre.holds [] { args:=args }=true:=(pre_splitW hpre).2
 obtain⟨d,r,rfl,h1,h2⟩:=hasAllW_cons hsh
 obtain rfl:=hasAllW_nil h2
 obtain⟨xs,rfl,h3⟩:=hasW_list h1
 obtain⟨ns,rfl⟩:=items_int h3
 have hlen:ns.length≤n:=by
  unfold OpenLaw.pre at hc
  have h4:(WTm.not (.lt (.lit (.int (n:Int))) (.len (.arg 0)))).holds [] { args:=[.list (ns.map .int)] }=true:=by
   have h4:=(holds_andW hc).1
   rw [hn] at h4
   exact h4
  have h5:=condW_of h4 (w_not (w_lt w_lit (w_len_list (w_arg rfl))))
  rw [Wp] at h5
  refine VA λq=>?_
  have q':(n:Int)<((ns.length:Nat):Int):=by omega
  first
   | (rw [decide_eq_true q'] at h5;exact absurd h5 (by decide))
   | (simp at h5;omega)
 cases hwl with
 |cons w1 w2=>
  cases w2
  cases w1 with
  |list ho hall=>exact⟨_,_,ns,rfl,rfl,ho,QG ns _ hall,hlen⟩
theorem GQ (l:OpenLaw)(args:List WData):l.row.toRowW.claim.post args (.bool true) args=true:=
 postW_of (r:=l.row.toRowW) (X:=(true == true))
  (show WShape.has [] (.bool true) .bool=true by first|rfl|decide|simp [WShape.has,WShape.arms,WShape.armsAll])
  (show (WTm.eq .res (.lit (.bool true))).value [] { args:=args,res:=some (.bool true),after:=args }=some (.bool (true == true)) from w_eq_bool (w_res rfl) w_lit) rfl
theorem attach_call {l:OpenLaw}{n:Nat}{q:Program}{loose:List Str}{XP:(Str->Option Value)->Heap->Prop}{YP:World->Heap->Prop}{d:DefRec}
  (hn:l.most=some n) (hdf:d.params.defaults=[])
  (call:∀(w:World) (s₀ s₁:Shared) (mg mb:Str->Option Value) (fa:Addr) (o:Obj) (pm cd doc:Value) (a:Addr) (vs:List Value) (ns:List Int),
   Ground q loose [] XP w s₀ mg mb s₁.heap->YP w s₁.heap->
   s₁.heap.get? fa=some o->o.data = .func (docDef d.name d.params d.body d.scope pm cd doc)->s₁.heap.CodeRec cd d.name->mg d.name=some (.ref fa)->
   s₁.heap.get? a=some { cls:=.type "list",data:=.seq vs.toArray }->IntsAre vs ns->ns.length≤n->s₁.gens = #[]->
   codeAny (model l.prog w) callerA (.call (.ref fa) ⟨[.ref a],[]⟩) (λr s'=>r = .ok (.ret (.bool true))/\OldK s₁.heap s'.heap/\s'.os=s₁.os/\AllBare s'.gens) s₁) :
  WalkO q loose XP YP l.row.toRowW d [] (λf vs=>PySem.call f vs):=by
 intro w s₀ s₁ mg mb G Y fa o pm cd doc dV kV ho hd hcd hD hmg hg args vals as hpre hlay hrd hwl hlo
 obtain rfl:dV = .none:=Dflts.none hD hdf
 obtain rfl:kV = .none:=Dflts.noKw hD
 obtain⟨a,vs,ns,rfl,rfl,hobj,hints,hlen⟩:=GK hn hpre hwl
 refine enter_call (codeAny_mono (call w s₀ s₁ mg mb fa o pm cd doc a vs ns G Y ho (fd_plain hd) hcd hmg hobj hints hlen hg) λr s' hq=>?_)
 obtain⟨rfl,h2,h3,h4⟩:=hq
 exact⟨.inl ⟨.bool true,.bool true,[],rfl,λ_=>rfl,.bool true,GQ l _,λ_=>⟨List.Pairwise.nil,λ_ hm=>(nomatch hm)⟩⟩,h2,h3,h4⟩
section
variable {prog:Program} {w:World} {A:Around} {E:Value->Shared->Prop} {s:Shared} {K:Frag}
end
end Att
namespace L2
open PySem PySem.Spec PyProof.Rows
theorem JC:∀{vs:List Value} {ns:List Int},IntsAre vs ns->ZQ (ns.map V.int) vs
 |_,_,.nil=>.nil
 |_,_,.cons n t h=>.cons ⟨t,rfl⟩ (JC h)
def EE (H:Hp):Prop:=∀b,H b=none\/∃o xs,H b=some (.frz o (.lst xs))
theorem NH {P:Program}{w:World}{K:W4}{mg mb:Str->Option Value}{CX:CXT}{k:Nat}{fa a:Addr}{fd:FuncData}{x:Str}{sp:Sp}{s₁:Shared}{vs:List Value}{ns:List Int}
  (KX:K.In s₁.heap) (hns:s₁.heap.Ns Wt mg) (hb:s₁.heap.Ns builtinsNs mb) (hbb:∀x:Str,x≠"__name__"->mb x=Ww x) (hlim:s₁.heap.NoLimit) (hg:s₁.gens = #[])
  (ha:s₁.heap.get? a=some { cls:=.type "list",data:=.seq vs.toArray }) (hi:IntsAre vs ns) (hl:ns.length≤Wk) (hr:Room k callerA)
  (F:∀base:Heap,K.In base->base.Ns Wt mg->FnOk P w K mg base CX k fa fd [x] sp) (hbind:∀(s:Shared) (u:Value),BindsTo s fd ⟨[u],[]⟩ [(x,u)])
  (hsp:∀H:Hp,EE H->SqL K H a (ns.map V.int)->sp [.ref a] H (λv _=>v = .bl true) λ_ _ _=>False)
  (hCX:∀H e s',CX [] H s₁ (λ_ _ _=>False) e s'->False) :
  codeAny (model P w) callerA (.call (.ref fa) ⟨[.ref a],[]⟩) (λr s'=>r = .ok (.ret (.bool true))/\OldK s₁.heap s'.heap/\s'.os=s₁.os/\AllBare s'.gens) s₁:=by
 have rv:=JC hi
 have lenV:=hi.length
 -- from an abstract heap in which nothing but the script may be tracked
 have core:∀H:Hp,EE H->SqL K H a (ns.map V.int)->HOk P w H s₁.heap->(∀b,H b≠none->b=a)->(H a≠none->K.lookup a=none)->
   codeAny (model P w) callerA (.call (.ref fa) ⟨[.ref a],[]⟩) (λr s'=>r = .ok (.ret (.bool true))/\OldK s₁.heap s'.heap/\s'.os=s₁.os/\AllBare s'.gens) s₁:=by
  intro H hO hS hok hA hK
  have base_of:∀{b:Addr} {o:Obj},s₁.heap.get? b=some o->H b=none->(NP s₁.heap H).get? b=some o:=λe n=>NO e n
  have noA:∀{b:Addr} {o:Obj} {es:Array DictEntry} {ep:Nat},s₁.heap.get? b=some o->o.data = .dict es ep->H b=none:=λ{b o es ep} e d=>by
   cases q:H b with
   |none=>rfl
   |some u=>
    have e':b=a:=hA b (by rw [q];simp)
    subst e'
    rw [ha] at e;cases e
    have d':Data.seq vs.toArray _=Data.dict es ep:=d
    cases d'
  have nsK:∀{b:Addr} {m:Str->Option Value},s₁.heap.Ns b m->(NP s₁.heap H).Ns b m:=λ{b m} ⟨o,es,ep,e,d,r⟩=>⟨o,es,ep,base_of e (noA e d),d,r⟩
  have hKb:K.In (NP s₁.heap H):=λb o e=>base_of (KX b o e) (by
   cases q:H b with
   |none=>rfl
   |some u=>
    have e':b=a:=hA b (by rw [q];simp)
    subst e'
    rw [hK (by rw [q];simp)] at e;cases e)
  have hM:Mod K mg (NP s₁.heap H):=⟨hKb,nsK hns,⟨mb,nsK hb,hbb⟩,let ⟨mc,h1,h2⟩:=hlim;⟨mc,nsK h1,h2⟩⟩
  have e0:Env0 P w K mg (NP s₁.heap H) callerA [] s₁ H:=⟨rfl,hM,λb o e=>RD e,Nat.le_of_eq (BK _ _),trivial,λb hb=>absurd (show b∈([]:List Addr) from hb) (by simp),hok,.of_eq hg⟩
  refine codeAny_mono ((F _ hKb (nsK hns)).run callerA [] s₁ H ⟨[.ref a],[]⟩ [.ref a] [.ref a] _ _ hr e0 (hbind s₁ (.ref a)) (.cons rfl .nil) (hsp H hO hS)) λr s' h=>?_
  cases r with
  |error e=>exact (hCX H e s' h).elim
  |ok fl=>
   cases fl with
   |next=>exact False.elim h
   |brk=>exact False.elim h
   |cont=>exact False.elim h
   |ret u=>
    obtain⟨v,H',os,bare,un,hok',r',q⟩:=h
    have q':v = .bl true:=q
    subst q'
    obtain rfl:u=Value.bool true:=r'
    refine⟨rfl,OldK.of_keep λb o e=>?_,os,bare⟩
    cases q:H b with
    |none=>exact un.keep b o e q (by intro z;exact absurd (show b∈([]:List Addr) from z) (by simp)) (by simp)
    |some u=>
     rcases hO b with z|⟨ob,xs,z⟩
     ·rw [q] at z;cases z
     ·have z2:=un.frzs b ob _ z
      obtain⟨e1,_⟩:=hok b _ z
      obtain⟨e2,_⟩:=hok' b _ z2
      rw [e] at e1;cases e1
      exact e2
 cases hk:K.lookup a with
 |some o=>
  -- the script is one of the module's own objects
  have e:=KX a o hk
  rw [ha] at e
  cases e
  refine core (λ_=>none) (λ_=>.inl rfl) (.inr ⟨_,vs.toArray,_,hk,rfl,rfl,rfl,by rw [Wl,lenV];exact hl,by simpa using rv⟩) (λb u z=>by have z':(none:Option HO)=some u:=z;cases z') (λb z=>absurd rfl z) λz=>absurd rfl z
 |none=>
  refine core (λb=>if b=a then some (.frz { cls:=.type "list",data:=.seq vs.toArray } (.lst (ns.map V.int))) else none) (λb=>?_) (.inl (.inr ⟨{ cls:=.type "list",data:=.seq vs.toArray },if_pos rfl⟩)) (λb u z=>?_) (λb z=>?_) λ_=>hk
  ·by_cases hb:b=a
   ·exact .inr ⟨_,_,if_pos hb⟩
   ·exact .inl (if_neg hb)
  ·by_cases hb:b=a
   ·have z':=(if_pos hb).symm.trans z
    cases z'
    subst hb
    exact⟨ha,by rw [Wp];exact hl,vs,_,rv,ha⟩
   ·have z':=(if_neg hb).symm.trans z
    cases z'
  ·by_cases hb:b=a
   ·exact hb
   ·exact absurd (if_neg hb) z
end L2
namespace L2
open PySem PySem.Spec PyProof.Rows
theorem walk_of {l:PySem.W.OpenLaw}{n k:Nat}{q:Program}{loose:List Str}{XP:(Str->Option Value)->Heap->Prop}{YP:World->Heap->Prop}{d:DefRec}{K:Params->W4}{CX:World->CXT}{sp:World->Sp}{x:Str}
  (hn:l.most=some n) (hn2:n≤Wk) (hdf:d.params.defaults=[]) (hr:Room k callerA)
  (hY:∀(w:World) (h:Heap),YP w h->(K w.params).In h)
  (F:∀(w:World) (mg:Str->Option Value) (fa:Addr) (h:Heap),(K w.params).In h->h.Ns Wt mg->mg d.name=some (.ref fa)->
   ∃fd:FuncData,(∀(s:Shared) (u:Value),BindsTo s fd ⟨[u],[]⟩ [(x,u)])/\
    ∀base:Heap,(K w.params).In base->base.Ns Wt mg->FnOk l.prog w (K w.params) mg base (CX w) k fa fd [x] (sp w))
  (hsp:∀(w:World) (H:Hp) (a:Addr) (ns:List Int),ns.length≤n->EE H->SqL (K w.params) H a (ns.map V.int)->sp w [.ref a] H (λv _=>v = .bl true) λ_ _ _=>False)
  (hCX:∀(w:World) (H:Hp) (s:Shared) (e:Value) (s':Shared),CX w [] H s (λ_ _ _=>False) e s'->False) :
  PySem.W.WalkO q loose XP YP l.row.toRowW d [] (λf vs=>PySem.call f vs):=by
 refine Att.attach_call hn hdf λw s₀ s₁ mg mb fa o pm cd doc a vs ns G Y ho hd hcd hmg hobj hints hlen hg=>?_
 have KX:=hY w _ Y
 obtain⟨fd,hb,hF⟩:=F w mg fa _ KX G.T.g hmg
 exact NH KX G.T.g G.T.b G.T.builtins G.T.nolimit hg hobj hints (Wz hlen hn2) hr hF hb (λH hO hS=>hsp w H a ns hlen hO hS) λH e s'=>hCX w H s₁ e s'
end L2
/- THE LAST THEOREM (shape;LID,My.* are yours):
 My.Adr: a structure of the addresses that your layer names (classes,functions);My.Txt K t: a structure (Prop) of the equations over K;
 My.txt_mk:{K} {implicit addresses ..} (e1:nsIn K Wt "law" = some (some (.ref f))) (e2:K.lookup f=some ⟨oc,od,.func (fnOf "law" "law" params body scope dV kV doc pm an cdv ct),sl⟩) (e3:codeIn K cdv "law" = true) .. : ∃t,My.Txt K t
set_option maxRecDepth 100000 in
set_option maxHeartbeats 0 in
(the tactic k_is has no namespace: write k_is) -/
namespace L2
open PySem PySem.Spec PyProof.Rows
def Zz (s:Stmt):Arguments:=match s with
 | .FunctionDef _ a _ _ _ _ _ _ _ _=>a
 |_=>{ posonlyargs:=[],args:=[],vararg:=none,kwonlyargs:=[],kw_defaults:=[],kwarg:=none,defaults:=[] }
def Zs (s:Stmt):List Stmt:=match s with
 | .FunctionDef _ _ b _ _ _ _ _ _ _=>b
 |_=>[]
def Z4 (s:Stmt):Scope:=match s with
 | .FunctionDef _ _ _ _ _ _ sc _ _ _=>sc
 |_=>{ kind:=.function,names:=[],isGenerator:=false,isCoroutine:=false }
abbrev CX0:CXT:=λ_ _ _ _ _ _=>False
abbrev E0:XK:=λ_ _ _=>False
theorem E8 {X:Cx}:Nf CX0 X E0:=λ_ _ _ _ _ _ _ h=>h.elim
structure Fun (K:W4) (x qual:Str) (st:Stmt) (f:Addr) (fd:FuncData):Prop where
 ex:∃(oc:Value) (od:Option Addr) (kV doc pm:Value) (an:Option Addr) (cdv ct:Value) (osl:Array (Option Value)),
  fd=WN x qual (Zz st) (Zs st) (Z4 st) .none kV doc pm an cdv ct/\K.lookup f=some ⟨oc,od,.func fd,osl⟩/\WO K cdv qual=true
 kp:WL K (.ref f)=true
section
variable {P:Program} {w:World} {K:W4} {mg:Str->Option Value} {base:Heap}
theorem Fun.ok {x qual:Str}{st:Stmt}{f:Addr}{fd:FuncData}{N ps:List Str}{k:Nat}{sp:Sp}(F:Fun K x qual st f fd)(S:FnScope N ps (Z4 st))(len:∀vs H Q E,sp vs H Q E->vs.length=ps.length)
  (hbody:∀(cdv:Value) (A:Around) (outer:List Env) (s:Shared) (H:Hp) (vs:List V) (Q:VK) (E:XK),Room k (A.deeper (envOfC qual (Z4 st) s.heap.objs.size f cdv))->sp vs H Q E->
   ∃t,PSs (Pm CX0 P w K mg base N qual (Z4 st) f cdv A outer s H E).nox (Zs st) t/\t { nx:=λ_ H'=>Q .non H',rt:=Q } (start N vs) H):FnOk P w K mg base CX0 (k+1) f fd ps sp:=by
 obtain⟨oc,od,kV,doc,pm,an,cdv,ct,osl,rfl,lk,hcd⟩:=F.ex
 refine Ez lk hcd S len λA outer s H vs Q E hr hsp=>?_
 obtain⟨t,h,q⟩:=hbody cdv A outer s H vs Q E hr hsp
 exact⟨t,h.nox,q⟩
theorem Fun.binds {x qual:Str}{st:Stmt}{f:Addr}{fd:FuncData}{ps:List Str}(F:Fun K x qual st f fd)
  (h:∀(kV doc pm:Value) (an:Option Addr) (cdv ct:Value) (us:List Value),us.length=ps.length->bindArgs (WN x qual (Zz st) (Zs st) (Z4 st) .none kV doc pm an cdv ct) ⟨us,[]⟩=pure (ps.zip us)):UZ K fd ps []:=by
 obtain⟨oc,od,kV,doc,pm,an,cdv,ct,osl,rfl,lk,hcd⟩:=F.ex
 exact .all (h kV doc pm an cdv ct)
theorem Yh {x qual:Str}{st:Stmt}{f:Addr}{oc:Value}{od an:Option Addr}{osl:Array (Option Value)}{kV doc pm cdv ct:Value}(l:K.lookup f=some ⟨oc,od,.func (WN x qual (Zz st) (Zs st) (Z4 st) .none kV doc pm an cdv ct),osl⟩)
  (c:WO K cdv qual=true) (k:WL K (.ref f)=true):Fun K x qual st f (WN x qual (Zz st) (Zs st) (Z4 st) .none kV doc pm an cdv ct):=⟨⟨oc,od,kV,doc,pm,an,cdv,ct,osl,rfl,l,c⟩,k⟩
end
section
variable {X:Cx}
end
end L2
set_option maxHeartbeats 4000000
namespace L2
open PySem PySem.Spec PyProof.Rows
theorem Qe {α β:Type}{f:α->β->Sem (ForInStep β)}(g:α->β->β):∀(l:List α) (c:β),(∀x∈l,∀c,f x c=pure (.yield (g x c)))->
  forIn l c f=pure (l.foldl (λc x=>g x c) c)
 |[],_,_=>rfl
 |x :: l,c,h=>by
  rw [List.forIn_cons,h x WJ,pure_bind]
  exact Qe g l _ λy hy=>h y (WG _ hy)
def Yz (env:Env)(cs:List (Str×Addr))(p:Str×NameKind):List (Str×Addr):=
 if p.2 == .free then (p.1,(env.cells.lookup p.1).getD 0) :: cs else cs
def Pn (scope:Scope)(env:Env):List (Str×Addr):=scope.names.foldl (Yz env) []
theorem KO {env:Env}{x:Str}{c:Addr}:∀(l:List (Str×NameKind)) (acc:List (Str×Addr)),(x,c)∈l.foldl (Yz env) acc->
  (x,c)∈acc\/((x,NameKind.free)∈l/\c=(env.cells.lookup x).getD 0)
 |[],_,h=>.inl h
 |p :: l,acc,h=>by
  rcases KO l _ h with q|⟨q,e⟩
  ·unfold Yz at q
   by_cases hp:p.2 == .free
   ·rw [if_pos hp] at q
    rcases Wy.mp q with q|q
    ·have e1:x=p.1:=congrArg Prod.fst q
     have e2:c=(env.cells.lookup p.1).getD 0:=congrArg Prod.snd q
     have e3:p.2 = .free:=by simpa using hp
     refine .inr ⟨?_,by rw [e1];exact e2⟩
     have e4:p=(x,NameKind.free):=by rw [e1,←e3]
     rw [e4]
     exact WJ
    ·exact .inl q
   ·rw [if_neg hp] at q
    exact .inl q
  ·exact .inr ⟨WG _ q,e⟩
theorem TC {env:Env}{p:Str×Addr}:∀(l:List (Str×NameKind)) (acc:List (Str×Addr)),p∈acc->p∈l.foldl (Yz env) acc
 |[],_,h=>h
 |q :: l,acc,h=>by
  refine TC l _ ?_
  unfold Yz
  split
  ·exact WG _ h
  ·exact h
theorem KP {env:Env}{x:Str}:∀(l:List (Str×NameKind)) (acc:List (Str×Addr)),(x,NameKind.free)∈l->∃c,(x,c)∈l.foldl (Yz env) acc
 |[],_,h=>by cases h
 |p :: l,acc,h=>by
  rcases Wy.mp h with h|h
  ·subst h
   refine⟨(env.cells.lookup x).getD 0,TC l _ ?_⟩
   unfold Yz
   rw [if_pos (by rfl)]
   exact WJ
  ·exact KP l _ h
theorem Q8 {x:Str}{c:Addr}:∀{l:List (Str×Addr)},(x,c)∈l->∃c',l.lookup x=some c'
 |[],h=>by cases h
 |p :: l,h=>by
  obtain⟨n,a⟩:=p
  rw [V3]
  cases hx:x == n with
  |true=>exact⟨a,rfl⟩
  |false=>
   rcases Wy.mp h with h|h
   ·have e:x=n:=congrArg Prod.fst h
    rw [e] at hx
    simp at hx
   ·exact Q8 h
def Ge (scope:Scope)(env:Env):Prop:=∀x,(x,NameKind.free)∈scope.names->∃c,env.cells.lookup x=some c
theorem Y7 {scope:Scope}{env:Env}(h:Ge scope env){x:Str}{c:Addr}(e:(Pn scope env).lookup x=some c):(x,NameKind.free)∈scope.names/\env.cells.lookup x=some c:=by
 rcases KO scope.names [] (Va e) with q|⟨q,r⟩
 ·cases q
 ·obtain⟨c',hc⟩:=h x q
  rw [hc] at r
  exact⟨q,by rw [hc,r];rfl⟩
theorem BZ {scope:Scope}{env:Env}(h:Ge scope env){x:Str}(q:(x,NameKind.free)∈scope.names):∃c,(Pn scope env).lookup x=some c/\env.cells.lookup x=some c:=by
 obtain⟨c,hc⟩:=KP (env:=env) scope.names [] q
 obtain⟨c',h'⟩:=Q8 hc
 exact⟨c',h',(Y7 h h').2⟩
theorem J6 {scope:Scope}{env:Env}(h:Ge scope env):closureFor scope env=pure (Pn scope env):=by
 unfold closureFor Pn
 dsimp only
 rw [Qe (λp cs=>Yz env cs p) scope.names [] (λp hp cs=>by
  obtain⟨n,k⟩:=p
  show (if (k == NameKind.free)=true then _ else _)=_
  by_cases hk:(k == NameKind.free)=true
  ·have e:k = .free:=by simpa using hk
   obtain⟨c,hc⟩:=h n (e ▸ hp)
   have e2:cellOf env n=pure c:=by unfold cellOf;rw [hc]
   rw [if_pos hk,e2]
   show _=pure (ForInStep.yield (Yz env cs (n,k)))
   unfold Yz
   rw [if_pos hk,hc]
   rfl
  ·rw [if_neg hk]
   show _=pure (ForInStep.yield (Yz env cs (n,k)))
   unfold Yz
   rw [if_neg hk])]
 rfl
theorem Qp {env:Env}:∀{names:List (Str×NameKind)} {x:Str},names.lookup x=some .free->
  (names.map λ(n,k)=>if (k == NameKind.free&&env.scope.kind == .function&&env.kindOf n == some .cell) then (n,NameKind.cell) else (n,k)).lookup x=some .free\/
  (names.map λ(n,k)=>if (k == NameKind.free&&env.scope.kind == .function&&env.kindOf n == some .cell) then (n,NameKind.cell) else (n,k)).lookup x=some .cell
 |[],_,h=>by simp at h
 | (n,k) :: r,x,h=>by
  have ih:=@Qp env r x
  rw [W5]
  dsimp only
  cases hx:x == n with
  |true=>
   simp only [V3,hx] at h
   cases h
   by_cases hc:(NameKind.free == NameKind.free&&env.scope.kind == .function&&env.kindOf n == some .cell)=true
   ·right
    show List.lookup x ((if _ then _ else _) :: _)=_
    rw [if_pos hc];simp only [V3,hx]
   ·left
    show List.lookup x ((if _ then _ else _) :: _)=_
    rw [if_neg hc];simp only [V3,hx]
  |false=>
   simp only [V3,hx] at h
   by_cases hc:(k == NameKind.free&&env.scope.kind == .function&&env.kindOf n == some .cell)=true
   ·have e:(if (k == NameKind.free&&env.scope.kind == .function&&env.kindOf n == some .cell)=true then (n,NameKind.cell) else (n,k))=(n,NameKind.cell):=if_pos hc
    rw [e];simp only [V3,hx];exact ih h
   ·have e:(if (k == NameKind.free&&env.scope.kind == .function&&env.kindOf n == some .cell)=true then (n,NameKind.cell) else (n,k))=(n,k):=if_neg hc
    rw [e];simp only [V3,hx];exact ih h
theorem Qq {env:Env}:∀{names:List (Str×NameKind)} {x:Str},(∀p∈names,p.2≠.cell)->
  ((names.map λ(n,k)=>if (k == NameKind.free&&env.scope.kind == .function&&env.kindOf n == some .cell) then (n,NameKind.cell) else (n,k)).lookup x=some .cell\/
  (names.map λ(n,k)=>if (k == NameKind.free&&env.scope.kind == .function&&env.kindOf n == some .cell) then (n,NameKind.cell) else (n,k)).lookup x=some .free)->(x,NameKind.free)∈names
 |[],_,_,h=>by simp at h
 | (n,k) :: r,x,hc0,h=>by
  have ih:=@Qq env r x (λp hp=>hc0 p (WG _ hp))
  rw [W5] at h
  dsimp only at h
  have key:∀K2:NameKind,(K2 = .cell\/K2 = .free)->List.lookup x ((if (k == NameKind.free&&env.scope.kind == .function&&env.kindOf n == some .cell)=true then (n,NameKind.cell) else (n,k)) ::
    (r.map λ(n,k)=>if (k == NameKind.free&&env.scope.kind == .function&&env.kindOf n == some .cell) then (n,NameKind.cell) else (n,k)))=some K2->(x,NameKind.free)∈(n,k) :: r:=by
   intro K2 hK2 hl
   cases hx:x == n with
   |true=>
    have exn:x=n:=by simpa using hx
    by_cases hc:(k == NameKind.free&&env.scope.kind == .function&&env.kindOf n == some .cell)=true
    ·have hk:k = .free:=by
      have:=(WU _ _ ▸ (WU _ _ ▸ hc).1).1
      simpa using this
     rw [exn,hk];exact WJ
    ·rw [if_neg hc] at hl
     simp only [V3,hx] at hl
     have hk:k=K2:=WM hl
     rcases hK2 with q|q
     ·exact absurd (hk.trans q) (hc0 (n,k) WJ)
     ·rw [exn,hk.trans q];exact WJ
   |false=>
    refine WG _ (ih ?_)
    by_cases hc:(k == NameKind.free&&env.scope.kind == .function&&env.kindOf n == some .cell)=true
    ·rw [if_pos hc] at hl
     simp only [V3,hx] at hl
     rcases hK2 with q|q
     ·exact .inl (q ▸ hl)
     ·exact .inr (q ▸ hl)
    ·rw [if_neg hc] at hl
     simp only [V3,hx] at hl
     rcases hK2 with q|q
     ·exact .inl (q ▸ hl)
     ·exact .inr (q ▸ hl)
  rcases h with h|h
  ·exact key .cell (.inl rfl) h
  ·exact key .free (.inr rfl) h
def Zu (X:Cx)(scope:Scope)(N:List Str)(fp:List Addr)(s₂:Shared)(H₂:Hp)(C:Addr):Cx where
 prog:=X.prog
 w:=X.w
 K:=X.K
 mg:=X.mg
 base:=X.base
 A:=X.A
 N:=N
 s₀:=s₂
 H₀:=H₂
 env:=compEnvC scope (Pn scope X.env) C X.env
 outer:=X.stack
 stack:=X.stack
 ex:=fp
 fn:=λ_=>false
 calm:=X.calm
 pn:=[]
 xe:=λ_ _=>False
def QN (X:Cx)(scope:Scope):List Str->List Nat->Prop
 |[],[]=>True
 |x :: xs,j :: js=>(X.N[j]? = some x/\(X.env.scope.names.lookup x=some .cell\/X.env.scope.names.lookup x=some .free)/\scope.names.lookup x=some .free)/\QN X scope xs js
 |_,_=>False
def YU (nT:Nat)(caps:List Nat)(σ:St):St:=Vg nT none++caps.map λj=>(σ[j]?).getD none
theorem QN.len {X:Cx}{scope:Scope}:∀{xs:List Str} {js:List Nat},QN X scope xs js->xs.length=js.length
 |[],[],_=>rfl
 |_ :: _,_ :: _,h=>by simp only [WP];rw [QN.len h.2]
 |[],_ :: _,h=>h.elim
 |_ :: _,[],h=>h.elim
theorem QN.get {X:Cx}{scope:Scope}:∀{xs:List Str} {js:List Nat} {k:Nat} {x:Str} {j:Nat},QN X scope xs js->xs[k]? = some x->js[k]? = some j->
  X.N[j]? = some x/\(X.env.scope.names.lookup x=some .cell\/X.env.scope.names.lookup x=some .free)/\scope.names.lookup x=some .free
 |[],_,_,_,_,_,h,_=>by simp at h
 |_ :: _,[],_,_,_,h,_,_=>h.elim
 |_ :: _,_ :: _,0,_,_,h,h1,h2=>by
  simp at h1 h2;subst h1;subst h2;exact h.1
 |_ :: _,_ :: _,k+1,_,_,h,h1,h2=>QN.get (k:=k) h.2 (by simpa using h1) (by simpa using h2)
def PF (X:Cx)(ifs:List Expr)(t:TT):Prop:=
 ∀(pins:List (Addr×Obj)) (s:Shared) (σ:St) (H:Hp) (Q:Bool->Hp->Prop),Inv X pins σ H s->t σ H Q->
  wpAny (model X.prog X.w) X.A (forIn ifs true λc r=>if r=true then do let ok ←isTrue c X.env (eval c X.env);pure (ForInStep.yield ok) else pure (ForInStep.yield r)) (TP X pins σ Q) X.xe s
def AK:TT:=λ_ H Q=>Q true H
theorem Lm {X:Cx}:PF X [] AK:=λ_ _ _ H _ I h=>wpAny_tests_nil ⟨H,I,h⟩
theorem Ll {X:Cx}{c:Expr}{t:TT}(h:PT X c t):PF X [c] t:=λpins s σ H Q I q=>wpAny_tests_one (h pins s σ H Q I q)
theorem YT {prog:Program}{w:World}{A:Around}{R:Result->Shared->Prop}{s:Shared}{elt target iter:Expr}{ifs:List Expr}{scope:Scope}{pos:Pos}{it acc:Value}{env:Env}(I:Nat->Shared->Prop)
  (turn:∀n s,I n s->wpAny (model prog w) A (pyNext it) (λr s₁=>match r with
   |none=>R (.ok .next) s₁
   |some v=>wpAny (model prog w) A (letOwnedTupleGo target it v) (λ_ s₀=>wpAny (model prog w) A (assign target env v) (λ_ s₂=>
     wpAny (model prog w) A (forIn ifs true λc r=>if r=true then do let ok ←isTrue c env (eval c env);pure (ForInStep.yield ok) else pure (ForInStep.yield r)) (λok s₃=>
      if ok=true then wpAny (model prog w) A (eval elt env) (λx s₄=>
       wpAny (model prog w) A (call (.builtin "list.append") [acc,x]) (λ_ s₅=>∃m,m<n/\I m s₅) (λ_ _=>False) s₄) (λ_ _=>False) s₃
      else ∃m,m<n/\I m s₃) (λ_ _=>False) s₂) (λ_ _=>False) s₀) (λ_ _=>False) s₁) (λ_ _=>False) s)
  (n:Nat) (h:I n s) :
  codeAny (model prog w) A (.compLoop (.ListComp elt [⟨target,iter,ifs,0⟩] scope pos) 0 it acc env) R s:=by
 refine codeAny_loop rfl I (λn s hI=>?_) n h
 show wpAny _ A ((compTurn (.ListComp elt [⟨target,iter,ifs,0⟩] scope pos) 0 it acc env).onRaise (λx=>do noteFrame x env;theTreesLotGoes x)) _ _ s
 refine wpAny_noted ?_
 rw [compTurn_list]
 refine W9 (wpAny_standAt (W9 (Vm (turn n s hI) (λr s₁ h₁=>?_) λ_ _ h'=>h'.elim)))
 cases r with
 |none=>exact Wm h₁
 |some v=>
  refine W9 (Vm h₁ (λ_ s₀ h₀=>?_) λ_ _ h'=>h'.elim)
  refine W9 (Vm h₀ (λ_ s₂ h₂=>W9 (Vm h₂ (λok s₃ h₃=>?_) λ_ _ h'=>h'.elim)) λ_ _ h'=>h'.elim)
  cases ok with
  |false=>exact Wm ⟨rfl,h₃⟩
  |true=>
   exact W9 (W9 (Vm h₃ (λx s₄ h₄=>W9 (Vm h₄ (λ_ s₅ h₅=>Wm (Wm ⟨rfl,h₅⟩)) λ_ _ h'=>h'.elim)) λ_ _ h'=>h'.elim))
theorem HOk.track {P:Program}{w:World}{H:Hp}{h:Heap}{a:Addr}{o:HO}(x:HOk P w H h)(hn:H a=none)(new:ZE P w (upd H a o) h a o):HOk P w (upd H a o) h:=λb u e=>by
 by_cases hb:b=a
 ·subst hb;rw [Zg] at e;cases e;exact new
 ·rw [Zf hb] at e
  exact (x b u e).stay (λc v _ q=>q) (λc q=>by rw [Zf (Zj q hn)];exact q) λc xs q=>by rw [Zf (Zj q hn)];exact q
theorem HOk.but {P:Program}{w:World}{H:Hp}{h h':Heap}{a:Addr}(x:HOk P w H h)(hn:H a=none)(k:∀b o,b≠a->h.get? b=some o->h'.get? b=some o):HOk P w H h':=λb u e=>by
 refine (x b u e).stay (λc v hc q=>k c v ?_ q) (λ_ q=>q) λ_ _ q=>q
 rintro rfl
 rcases hc with z|z
 ·rw [←z,hn] at e;cases e
 ·rw [hn] at z;cases z
abbrev QW (its:List Value)(n:Nat):Obj:={ cls:=.type "list",data:=.seq its.toArray n }
def AC (J:It)(cap:St)(g:TG)(tt:TT)(te:TE)(Fin:List V->Hp->Prop)(H:Hp):Prop:=
 ∃W:Nat->Nat->List V->Hp->Prop,(∃m,W 0 m [] H)/\∀i m ys H,W i m ys H->
  (J.stop i H/\ys.length≤Wk/\Fin ys H)\/(J.go i H/\ys.length≤Wk/\∀x H',J.yld i H x H'->g x cap H' λσ2 H2=>tt σ2 H2 λb H3=>
   if b=true then te σ2 H3 λv H4=>∃m',m'<m/\W (i+1) m' (ys++[v]) H4 else ∃m',m'<m/\W (i+1) m' ys H3)
def KQ (n:Nat)(g:TG):Prop:=∀v σ H Q,g v σ H Q->g v σ H λσ' H'=>(∀j,n≤j->σ'[j]? = σ[j]?)/\Q σ' H'
def NY (n:Nat)(g:TGs):Prop:=∀v σ H Q,g v σ H Q->g v σ H λσ' H'=>(∀j,n≤j->σ'[j]? = σ[j]?)/\Q σ' H'
theorem ZG {n i:Nat}(h:i<n):KQ n (Ub i):=λv σ H Q q=>⟨λj hj=>Ve (by omega),q⟩
theorem U8 {n:Nat}:NY n A0:=λvs σ H Q q=>⟨q.1,λ_ _=>rfl,q.2⟩
theorem YL {n:Nat}{t:TG}{u:TGs}(h1:KQ n t)(h2:NY n u)(mono:∀v σ H Q Q',(∀σ' H',Q σ' H'->Q' σ' H')->t v σ H Q->t v σ H Q')(mono2:∀v σ H Q Q',(∀σ' H',Q σ' H'->Q' σ' H')->u v σ H Q->u v σ H Q'):NY n (BO t u):=λvs σ H Q q=>by
 obtain⟨v,r,e,q⟩:=q
 refine⟨v,r,e,mono v σ H _ _ (λσ' H' z=>?_) (h1 v σ H _ q)⟩
 exact mono2 r σ' H' _ _ (λσ2 H2 y=>⟨λj hj=>(y.1 j hj).trans (z.1 j hj),y.2⟩) (h2 r σ' H' _ z.2)
theorem Tv {K:W4}{n k:Nat}{t:TGs}(h:NY n t):KQ n (Ey K k t):=λv σ H Q q=>by
 obtain⟨a,xs,e,h1,h2,q⟩:=q
 exact⟨a,xs,e,h1,h2,h xs σ H Q q⟩
theorem Ye {i:Nat}:∀v σ H Q Q',(∀σ' H',Q σ' H'->Q' σ' H')->Ub i v σ H Q->Ub i v σ H Q':=λ_ _ _ _ _ h q=>h _ _ q
theorem Qd:∀v σ H Q Q',(∀σ' H',Q σ' H'->Q' σ' H')->A0 v σ H Q->A0 v σ H Q':=λ_ _ _ _ _ h q=>⟨q.1,h _ _ q.2⟩
theorem J1 {t:TG}{u:TGs}(mono:∀v σ H Q Q',(∀σ' H',Q σ' H'->Q' σ' H')->t v σ H Q->t v σ H Q')(mono2:∀v σ H Q Q',(∀σ' H',Q σ' H'->Q' σ' H')->u v σ H Q->u v σ H Q') :
  ∀v σ H Q Q',(∀σ' H',Q σ' H'->Q' σ' H')->BO t u v σ H Q->BO t u v σ H Q':=λvs σ H Q Q' h q=>by
 obtain⟨v,r,e,q⟩:=q
 exact⟨v,r,e,mono v σ H _ _ (λσ' H' z=>mono2 r σ' H' _ _ h z) q⟩
section
variable {X:Cx} {pins:List (Addr×Obj)} {σ:St} {H₂:Hp} {s₂:Shared} {scope:Scope} {tg iter elt:Expr} {ifs:List Expr} {pos:Pos} {nT:Nat} {tgs caps_n:List Str} {caps:List Nat}
theorem J5 (I:Inv X pins σ H₂ s₂){it:Addr}{fp:List Addr}{tn:Nat->Heap->Prop}{J:It}(T:Turn X.prog X.w X.K tg J fp it tn)(st0:tn 0 s₂.heap)(hfp:∀b∈fp,Nh X pins H₂ b)
  (hc:X.calm=true) (hcell:∀y∈scope.names,y.2≠.cell) (hkind:scope.kind = .function) (hcl:Ge scope X.env) (hcap:QN X scope caps_n caps)
  {g:TG} {tt:TT} {te:TE} (hlow:KQ tgs.length g) (hg:∀s H C,PG (Zu X scope (tgs++caps_n) fp s H C) tg g) (hf:∀s H C,PF (Zu X scope (tgs++caps_n) fp s H C) ifs tt) (he:∀s H C,PE (Zu X scope (tgs++caps_n) fp s H C) elt te)
  {Fin:List V->Hp->Prop} (hw:AC J (YU tgs.length caps σ) g tt te Fin H₂) {RR:Value->Addr->Result->Shared->Prop}
  (hRR:∀(D C:Addr) (ys:List V) (its:List Value) (n:Nat) (H3:Hp) (s3:Shared),s₂.heap.objs.size≤D->s₂.heap.objs.size≤C->D≠C->Inv (Zu X scope (tgs++caps_n) fp s₂ H₂ C) [(D,QW its n)] (YU tgs.length caps σ) H3 s3->ZQ ys its->ys.length≤Wk->Fin ys H3->RR (.ref D) C (.ok .next) s3)
  {E:Value->Shared->Prop} :
  wpAny (model X.prog X.w) X.A (newList []) (λacc s₃=>wpAny (model X.prog X.w) X.A (newFunctionEnv scope X.env.globals (Pn scope X.env) [] X.env.qual none .none (some X.env)) (λcenv s₄=>
   codeAny (model X.prog X.w) X.A (.compStart (.ListComp elt [⟨tg,iter,ifs,0⟩] scope pos) 0 (.ref it) acc { cenv with scope:=relabel scope X.env }) (RR acc cenv.locals) s₄) E s₃) E s₂:=by
 refine Vi (wpAny_newFunctionEnv hcell (by intro y hy;simp at hy) (λh₁ hns₁ hsb₁=>?_) hkind)
 dsimp only at hns₁ hsb₁ ⊢
 generalize hH2:s₂.heap.push { cls:=.type "list",dict:=none,data:=.seq ([]:List Value).toArray }=HP at hns₁ hsb₁ ⊢
 have hC:HP.objs.size=s₂.heap.objs.size+1:=by rw [←hH2,Vh]
 have hDC:s₂.heap.objs.size≠HP.objs.size:=by rw [hC];exact WD (Nat.lt_succ_self _)
 have hCle:s₂.heap.objs.size≤HP.objs.size:=by rw [hC];exact Nat.le_succ _
 have below:∀b,b<s₂.heap.objs.size->b≠HP.objs.size/\b≠s₂.heap.objs.size:=λb hb=>⟨by rw [hC];exact WD (W0q hb),WD hb⟩
 have old:∀b o,s₂.heap.get? b=some o->h₁.get? b=some o:=λb o e=>hsb₁.extBut b o (below b (Wo e)).1 (Wj _ (hH2 ▸ Wj _ e))
 have hacc:h₁.get? s₂.heap.objs.size=some (QW [] 0):=hsb₁.extBut _ _ hDC (Wj _ (hH2 ▸ Ws _ rfl))
 have fpl:∀b∈fp,b<s₂.heap.objs.size:=λb hb=>by
  obtain⟨o,e,_⟩:=T.obj 0 _ st0 b hb
  exact Wo e
 have stkl:∀b∈frs X.stack,b<s₂.heap.objs.size:=λb hb=>by
  obtain⟨_,o,ho,_⟩:=I.stack.mem hb
  exact Wo ho
 -- the block's context
 have ok:(Zu X scope (tgs++caps_n) fp s₂ H₂ HP.objs.size).Ok:=by
  refine⟨I.ok.mod,hkind,I.ok.glob,I.ok.blt,hCle,λx y c h1 h2=>I.ok.inj x y c (Y7 hcl h1).2 (Y7 hcl h2).2,λx hx=>?_,λx c h _=>(nomatch h),I.ok.hd,I.ok.frames,.inl rfl,
   λb hb=>⟨(below b (fpl b hb)).1,λx c h=>(hfp b hb).2.2.2.2.1 x c (Y7 hcl h).2⟩,I.bs,Wz I.ok.bsz I.sz,λb o e hb=>?_,λb hb z=>?_,I.stack,I.stkFree⟩
  ·obtain⟨c,h1,_⟩:=BZ hcl (Qq (env:=X.env) hcell hx)
   exact⟨c,h1⟩
  ·obtain⟨_,_,_,h4,_⟩:=hfp b hb
   rcases h4 with h4|h4
   ·exact I.ok.noex b o e h4
   ·exact absurd (Wv (Wo (I.ok.bs b o e).1) h4) (Vb _)
  ·obtain⟨_,h2,h3,_⟩:=hfp b hb
   rcases Wy.mp (I.stkSub b z) with q|q
   ·exact h2 q
   ·exact h3 q
 have I0:∀tk,Inv (Zu X scope (tgs++caps_n) fp s₂ H₂ HP.objs.size) [(s₂.heap.objs.size,QW [] 0)] (YU tgs.length caps σ) H₂ { s₂ with heap:=h₁,toks:=tk }:=by
  intro tk
  refine⟨ok,rfl,I.bare,Un.kept old,⟨_,hns₁,λi x v e1 e2 e3=>?_⟩,λx c h=>?_,I.hok.fresh hCle,λx c h=>I.freeC x c (Y7 hcl h).2,λp hp=>?_,I.hok.kept old,?_⟩
  ·unfold YU at e2
   have hi:tgs.length≤i:=by
    by_cases hi:i<tgs.length
    ·rw [WE (by simpa using hi),Vf] at e2
     split at e2<;>cases e2
    ·exact VA hi
   rw [WI (by simpa using hi),Vo,WS] at e2
   have e1':caps_n[i-tgs.length]? = some x:=by
    have e1'':(tgs++caps_n)[i]? = some x:=e1
    rw [WI hi] at e1''
    exact e1''
   cases ej:caps[i-tgs.length]? with
   |none=>rw [ej] at e2;cases e2
   |some j=>
    rw [ej] at e2
    obtain⟨n1,n2,n3⟩:=hcap.get e1' ej
    have es:σ[j]? = some (some v):=by
     have e2':(σ[j]?).getD none=some v:=WM e2
     cases q:σ[j]? with
     |none=>rw [q] at e2';cases e2'
     |some z=>rw [q] at e2';rw [show z=some v from e2']
    obtain⟨m,hn,hl⟩:=I.loc
    obtain⟨u,ru,lk⟩:=hl j x v n1 es (.inr n2)
    refine⟨u,ru,?_⟩
    rcases lk with ⟨k1,_⟩|⟨_,c,k1,k2⟩
    ·have k1':X.env.scope.names.lookup x=some .local:=k1
     rcases n2 with n2|n2
     ·rw [n2] at k1';cases k1'
     ·rw [n2] at k1';cases k1'
    ·obtain⟨c',h1,h2⟩:=BZ hcl (Va n3)
     rw [k1] at h2;cases h2
     refine .inr ⟨?_,c,h1,k2.keeps old⟩
     rcases Qp (env:=X.env) n3 with q|q
     ·exact .inr q
     ·exact .inl q
  ·obtain⟨v,z⟩:=I.cell x c (Y7 hcl h).2
   exact⟨v,z.keeps old⟩
  ·have e:p=(s₂.heap.objs.size,QW [] 0):=by simpa [Zu] using hp
   subst e
   exact⟨hacc,I.hok.fresh (Wu _),hDC,λz=>Vb _ (stkl _ z),λv z=>(nomatch z)⟩
  ·unfold YU
   show _=(tgs++caps_n).length
   rw [Wx,Vo,Wp,Wx,hcap.len]
 obtain⟨W,⟨m0,w0⟩,turn⟩:=hw
 have st1:tn 0 h₁:=T.keep 0 _ _ st0 λb _ o e=>old b o e
 have loop:∀tk,codeAny (model X.prog X.w) X.A (.compLoop (.ListComp elt [⟨tg,iter,ifs,0⟩] scope pos) 0 (.ref it) (.ref s₂.heap.objs.size) (compEnvC scope (Pn scope X.env) HP.objs.size X.env))
   (RR (.ref s₂.heap.objs.size) HP.objs.size) { s₂ with heap:=h₁,toks:=tk }:=by
  intro tk
  have stat:∀{pins':List (Addr×Obj)} {H':Hp},(∀p∈pins',p.1∉fp)->(∀b∈fp,H' b=none)->∀b∈fp,Nh (Zu X scope (tgs++caps_n) fp s₂ H₂ HP.objs.size) pins' H' b:=λ{pins' H'} hp hn b hb=>
   ⟨hn b hb,(below b (fpl b hb)).1,ok.exfs b hb,.inl hb,λx c h=>(hfp b hb).2.2.2.2.1 x c (Y7 hcl h).2,λp hp' z=>hp p (by simpa [Zu] using hp') (z ▸ hb)⟩
  have offD:∀(its:List Value) (n:Nat),∀p∈[(s₂.heap.objs.size,QW its n)],p.1∉fp:=λits n p hp z=>by
   have e:p=(s₂.heap.objs.size,QW its n):=by simpa using hp
   rw [e] at z
   exact Vb _ (fpl _ z)
  refine YT (λn s'=>∃i ys its k H',Inv (Zu X scope (tgs++caps_n) fp s₂ H₂ HP.objs.size) [(s₂.heap.objs.size,QW its k)] (YU tgs.length caps σ) H' s'/\ZQ ys its/\tn i s'.heap/\(∀b∈fp,H' b=none)/\W i n ys H') ?_ m0
   ⟨0,[],[],0,H₂,I0 tk,.nil,st1,λb hb=>(hfp b hb).1,w0⟩
  rintro n s3 ⟨i,ys,its,k,H3,I3,rv,st3,fr3,w3⟩
  rcases turn i n ys H3 w3 with ⟨stop,hz,fin⟩|⟨go,hz,step⟩
  ·refine thn (T.done (Zu X scope (tgs++caps_n) fp s₂ H₂ HP.objs.size) rfl rfl rfl hc i _ s3 _ H3 (λ_ _=>False) I3 (stat (offD _ _) fr3) st3 stop) λr s4 ⟨hr,I4⟩=>?_
   subst hr
   exact hRR _ _ ys its k H3 s4 (Wu _) hCle hDC I4 rv hz fin
  ·refine thn (T.item (Zu X scope (tgs++caps_n) fp s₂ H₂ HP.objs.size) rfl rfl rfl hc i _ s3 _ H3 (λ_ _=>False) I3 (stat (offD _ _) fr3) st3 go) λr s4 ⟨u,hr,h4⟩=>?_
   subst hr
   refine thn h4 λ_ s5 ⟨x,H5,I5,r5,y5,st5,fr5⟩=>?_
   have I5':=I5.pinned (stat (offD _ _) fr5) (T.obj _ _ st5)
   refine thn (hg s₂ H₂ HP.objs.size _ s5 _ H5 x u _ I5' r5 (hlow _ _ _ _ (step x H5 y5))) λ_ s6 ⟨σ6,H6,I6,keep6,q6⟩=>?_
   refine thn (hf s₂ H₂ HP.objs.size _ s6 σ6 H6 _ I6 q6) λb s7 ⟨H7,I7,q7⟩=>?_
   have len6:σ6.length=(YU tgs.length caps σ).length:=I6.len.trans I5.len.symm
   -- what stays of the iterator's objects
   have itk:∀{σ':St} {H':Hp} {s':Shared},Inv (Zu X scope (tgs++caps_n) fp s₂ H₂ HP.objs.size) ([(s₂.heap.objs.size,QW its k)]++JP fp s5.heap) σ' H' s'->tn (i+1) s'.heap/\∀b∈fp,H' b=none:=λ{σ' H' s'} I'=>by
    refine⟨T.keep _ _ _ st5 λb hb o e=>(I'.pin (b,o) (WB _ (WB _ (YJ hb e)))).1,λb hb=>?_⟩
    obtain⟨o,e,d⟩:=T.obj _ _ st5 b hb
    exact (I'.pin (b,o) (WB _ (WB _ (YJ hb e)))).2.1
   -- the captured names' slots
   have slots:∀(j:Nat) v,(YU tgs.length caps σ)[j]? = some (some v)->σ6[j]? = some (some v):=λj v e=>by
    by_cases hj:tgs.length≤j
    ·rw [keep6 j hj];exact e
    ·unfold YU at e
     rw [WE (by simpa using hj),Vf] at e
     split at e<;>cases e
   cases b with
   |false=>
    rw [if_neg WX]
    rw [if_neg WX] at q7
    obtain⟨m',hm,w7⟩:=q7
    obtain⟨t7,f7⟩:=itk I7
    exact⟨m',hm,i+1,ys,its,k,H7,(I7.unpinned (pins:=[(s₂.heap.objs.size,QW its k)])).weak len6.symm slots,rv,t7,f7,w7⟩
   |true=>
    rw [if_pos rfl]
    rw [if_pos rfl] at q7
    refine thn (he s₂ H₂ HP.objs.size _ s7 σ6 H7 _ I7 q7) λxv s8 ⟨y,H8,I8,r8,m',hm,w8⟩=>?_
    obtain⟨t8,f8⟩:=itk I8
    have I8':Inv (Zu X scope (tgs++caps_n) fp s₂ H₂ HP.objs.size) [(s₂.heap.objs.size,QW its k)] (YU tgs.length caps σ) H8 s8:=(I8.unpinned (pins:=[(s₂.heap.objs.size,QW its k)])).weak len6.symm slots
    obtain⟨eD,nD,neD,nfD,dD⟩:=I8'.pin (s₂.heap.objs.size,QW its k) (WB _ (by simp))
    have hlen:its.toArray.size≤Wk:=by rw [Wl,←rv.length];exact hz
    refine append_at (its:=its.toArray) (n:=k) eD (λh9 sb9 e9=>?_) hlen
    have I9:Inv (Zu X scope (tgs++caps_n) fp s₂ H₂ HP.objs.size) [] (YU tgs.length caps σ) H8 { s8 with heap:=h9 }:=
     (I8'.pins_of (pins':=[]) (λp hp=>by cases hp)).turned (t':=s8.toks) (it:=s₂.heap.objs.size) (λb o hb e=>sb9.extBut b o hb e) nD neD (.inr (Wu _)) (λx c h z=>by
      obtain⟨v,q⟩:=I.cell x c (Y7 hcl h).2
      exact absurd q.lt (by rw [z];exact Vb _)) (λp hp=>by
       have hp':p∈([]:List (Addr×Obj)):=by simpa [Zu] using hp
       cases hp')
    have e9':h9.get? s₂.heap.objs.size=some (QW (its++[xv]) (k+1)):=by
     rw [e9];simp [QW]
    refine⟨m',hm,i+1,ys++[y],its++[xv],k+1,H8,I9.pins_of (λp hp=>?_),rv.append (.cons r8 .nil),T.keep _ _ _ t8 λb hb o e=>sb9.extBut b o (WD (fpl b hb)) e,f8,w8⟩
    have ep:p=(s₂.heap.objs.size,QW (its++[xv]) (k+1)):=by simpa using hp
    subst ep
    exact⟨e9',nD,neD,nfD,λv z=>(nomatch z)⟩
 exact codeAny_compStart_list (loop _) (T.self X.A 0 _ _ _ st1 (loop _))
theorem TB (I:Inv X pins σ H₂ s₂){fp:List Addr}(hfp:∀b∈fp,Nh X pins H₂ b){D C:Addr}{ys:List V}{its:List Value}{n:Nat}{H3:Hp}{s3:Shared}{N':List Str}{σ':St}{h4:Heap}(hD:s₂.heap.objs.size≤D)(hC:s₂.heap.objs.size≤C)(hDC:D≠C)
  (I3:Inv (Zu X scope N' fp s₂ H₂ C) [(D,QW its n)] σ' H3 s3) (rv:ZQ ys its) (hz:ys.length≤Wk) (hs:Vw C s3.heap h4):Inv X pins σ (upd H3 D (.lst ys)) { s3 with heap:=h4 }:=by
 obtain⟨eD,nD,neD,nfD,dD⟩:=I3.pin (D,QW its n) (WB _ (by simp))
 have eD4:h4.get? D=some (QW its n):=hs.extBut D _ hDC eD
 have lt:∀b o,s₂.heap.get? b=some o->b≠C/\b≠D:=λb o e=>⟨WD (Wv (Wo e) hC),WD (Wv (Wo e) hD)⟩
 refine I.call' (ch:=fp) I3.os ?_ ?_ I3.bare (λb hb=>⟨(hfp b hb).2.2.2.1,(hfp b hb).2.1,(hfp b hb).2.2.2.2.1,(hfp b hb).2.2.2.2.2⟩)
 ·have u:=I3.base
  refine⟨λb o e nb hb hx=>hs.extBut b o (lt b o e).1 (u.keep b o e nb hb hx),λb o e nb hb hx=>?_,λb o e nb hx=>?_,λb o e hx=>?_,λb xs e=>?_,λb o xs e=>?_,λb ps e=>?_⟩
  ·obtain⟨sl,q⟩:=u.slot b o e nb hb hx
   exact⟨sl,hs.extBut b _ (lt b o e).1 q⟩
  ·rw [Zf (lt b o e).2];exact u.free b o e nb hx
  ·obtain⟨o',q⟩:=u.there b o e hx
   exact⟨o',hs.extBut b _ (lt b o e).1 q⟩
  ·have q:=u.tups b xs e
   rw [Zf (Zj q nD)];exact q
  ·have q:=u.frzs b o xs e
   rw [Zf (Zj q nD)];exact q
  ·obtain⟨more,q⟩:=u.tbls b ps e
   exact⟨more,by rw [Zf (Zj q nD)];exact q⟩
 ·refine HOk.track (I3.hok.but I3.free λb o hb e=>hs.extBut b o hb e) nD ?_
  exact⟨hz,its,n,rv,eD4⟩
def R7 (wi:TI)(nT:Nat)(caps:List Nat)(g:TG)(tt:TT)(te:TE):TE:=λσ H Q=>wi σ H λJ H1=>AC J (YU nT caps σ) g tt te (λys H3=>∀D,H3 D=none->Q (.ref D) (upd H3 D (.lst ys))) H1
theorem Ru {wi:TI}{g:TG}{tt:TT}{te:TE}(hc:X.calm=true)(hcell:∀y∈scope.names,y.2≠.cell)(hkind:scope.kind = .function)(hnames:∀y∈scope.names,y.2 = .local->scope.names.lookup y.1=some .local)
  (hfree:∀y∈scope.names,y.2 = .free->X.env.scope.names.lookup y.1=some .cell\/X.env.scope.names.lookup y.1=some .free) (hcap:QN X scope caps_n caps) (hi:PI X tg iter wi) (hlow:KQ tgs.length g)
  (hg:∀fp s H C,PG (Zu X scope (tgs++caps_n) fp s H C) tg g) (hf:∀fp s H C,PF (Zu X scope (tgs++caps_n) fp s H C) ifs tt) (he:∀fp s H C,PE (Zu X scope (tgs++caps_n) fp s H C) elt te)
  (hs:∀x,foldedSetIterable iter X.env x=pure x:=by intro _;rfl):PE X (.ListComp elt [⟨tg,iter,ifs,0⟩] scope pos) (R7 wi tgs.length caps g tt te):=by
 intro pins s σ H Q I h
 have hcl:Ge scope X.env:=λx hx=>I.ok.has x (hfree _ hx rfl)
 rw [eval_ListComp]
 refine wpAny_comprehension_free (use:=none) rfl hs (J6 hcl) hkind hnames (thn (hi pins s σ H _ I h) λv s1 h1=>thn h1 λitv s2 h2=>?_)
 obtain⟨it,fp,tn,J,H2,e,I2,T,st2,f2,hw⟩:=h2
 subst e
 refine J5 I2 T st2 f2 hc hcell hkind hcl hcap hlow (hg fp) (hf fp) (he fp) hw (RR:=λacc C=>compPost (model X.prog X.w) X.A X.xe none (EP X pins σ Q) acc C) ?_
 intro D C ys its n H3 s3 hD hC hDC I3 rv hz fin
 obtain⟨m,hn,_⟩:=I3.loc
 refine⟨m,hn,λh' hs'=>?_⟩
 obtain⟨eD,nD,_⟩:=I3.pin (D,QW its n) (WB _ (by simp))
 exact⟨.ref D,_,TB I2 f2 hD hC hDC I3 rv hz hs',rfl,fin D nD⟩
theorem Rk {wi:TI}{g:TG}{tt:TT}{te:TE}{i:Nat}{y:Str}{py spos:Pos}(hsw:swapsWith (.ListComp elt [⟨tg,iter,ifs,0⟩] scope pos) (some (.Name y py)) spos.line X.env=pure true)
  (hN:X.N.Nodup) (hy:X.N[i]? = some y) (hx:X.env.scope.names.lookup y=some .local)
  (hc:X.calm=true) (hcell:∀y∈scope.names,y.2≠.cell) (hkind:scope.kind = .function) (hnames:∀y∈scope.names,y.2 = .local->scope.names.lookup y.1=some .local)
  (hfree:∀y∈scope.names,y.2 = .free->X.env.scope.names.lookup y.1=some .cell\/X.env.scope.names.lookup y.1=some .free) (hcap:QN X scope caps_n caps) (hi:PI X tg iter wi) (hlow:KQ tgs.length g)
  (hg:∀fp s H C,PG (Zu X scope (tgs++caps_n) fp s H C) tg g) (hf:∀fp s H C,PF (Zu X scope (tgs++caps_n) fp s H C) ifs tt) (he:∀fp s H C,PE (Zu X scope (tgs++caps_n) fp s H C) elt te)
  (hs:∀x,foldedSetIterable iter X.env x=pure x:=by intro _;rfl):PS X (.Assign [.Name y py] (.ListComp elt [⟨tg,iter,ifs,0⟩] scope pos) spos) (AE (R7 wi tgs.length caps g tt te) (Ub i)):=by
 intro pins s σ H D I h
 have hcl:Ge scope X.env:=λx hx=>I.ok.has x (hfree _ hx rfl)
 rw [exec_Assign_Name_used _ _ _ _ hsw]
 refine W9 (wpAny_standAt (W9 ?_))
 show wpAny _ X.A (do let _ ←comprehension (.ListComp elt [⟨tg,iter,ifs,0⟩] scope pos) scope X.env _ (newList []) false (eval iter X.env) (some (assign (.Name y py) X.env))) _ _ s
 refine W9 (Vm (wpAny_comprehension_free (use:=some (assign (.Name y py) X.env)) (Q:=λ_ s'=>SP X pins D .next s') rfl hs (J6 hcl) hkind hnames
  (thn (hi pins s σ H _ I h) λv s1 h1=>thn h1 λitv s2 h2=>?_)) (λ_ s' hq=>Wm (Wm hq)) λ_ _ e=>e)
 obtain⟨it,fp,tn,J,H2,e,I2,T,st2,f2,hw⟩:=h2
 subst e
 refine J5 I2 T st2 f2 hc hcell hkind hcl hcap hlow (hg fp) (hf fp) (he fp) hw (RR:=λacc C=>compPost (model X.prog X.w) X.A X.xe (some (assign (.Name y py) X.env)) (λ_ s'=>SP X pins D .next s') acc C) ?_
 intro Da C ys its n H3 s3 hD hC hDC I3 rv hz fin
 obtain⟨m,hn,_⟩:=I3.loc
 obtain⟨eD,nD,_⟩:=I3.pin (Da,QW its n) (WB _ (by simp))
 have I4:Inv X pins σ (upd H3 Da (.lst ys)) s3:=TB I2 f2 hD hC hDC I3 rv hz (h4:=s3.heap) (Vw.refl ..)
 have hLC:C≠X.env.locals:=W02 (Wv I2.lt hC)
 show wpAny _ X.A (assign (.Name y py) X.env (.ref Da)) _ _ s3
 refine wpAny_assign_Name (JH I4 hN hy (.inl hx) (show ZS (.ref Da) (.ref Da) from rfl) (λs5 I5 hs5=>?_) (.inr hx))
 obtain⟨b5,sb5,hb5⟩:=hs5
 have hbC:C≠b5:=by
  rcases hb5 with z|z
  ·rw [z];exact hLC
  ·obtain⟨v,q⟩:=I2.cell y b5 z
   exact W02 (Wv q.lt hC)
 refine⟨m,hn.sameBut sb5 hbC,λh6 sb6=>?_⟩
 have fC:upd H3 Da (.lst ys) C=none:=by rw [Zf (Ne.symm hDC)];exact I3.free
 refine⟨_,_,I5.turned (t':=s5.toks) (it:=C) (λb o hb e=>sb6.extBut b o hb e) fC hLC (.inr (Wz I2.sz hC)) (λx c e z=>?_) (λp hp z=>?_),fin Da nD⟩
 ·obtain⟨v,q⟩:=I2.cell x c e
  exact absurd (Wv q.lt hC) (by rw [z];exact Vb _)
 ·exact absurd (Wv (Wo (I2.pin p hp).1) hC) (by rw [z];exact Vb _)
end
end L2
namespace L2
open PySem PySem.Spec PyProof.Rows
section
variable {prog:Program} {w:World} {κ:Type} [DecidableEq κ] {kd:HeapKind prog w κ} {A:Around} {E:Value->Shared->Prop} {s:Shared} {a:Addr} {tab:List (κ×Addr×Value)}
theorem G5 (ns:(a == sysModules)=false):MeetsIn prog w (Builtin.«dict.__len__» ⟨[.ref a],[]⟩) (λ_ R s=>∃tab,s.heap.DictOfH kd a tab/\R (.ok (.ret (.int tab.length s.toks))) { s with toks:=s.toks+1 }):=
 .of_wp λ_ R s ⟨tab,⟨o,es,ep,ho,_,hdat,he,_,_⟩,h⟩=>by
  have hz:es.size=tab.length:=by simpa using congrArg V7 he
  refine W9 (m:=dictSize a) (W9 (wpAny_dictEntries ho hdat (Wm (W9 (m:=Builtin.Dict.pendingCount a) (wpAny_pendingCount_other ns (wpAny_ret_mkInt ?_))))))
  rw [Nat.add_zero,hz];exact h
theorem JV {Q:Value->Shared->Prop}(ns:(a == sysModules)=false)(hm:s.heap.DictOfH kd a tab)(fit:(tab.length:Int)<2 ^ 63)(h:Q (.int tab.length (s.toks+1)) { s with toks:=s.toks+1+1 }) :
  wpAny (model prog w) A (Builtin.«len» ⟨[.ref a],[]⟩) (λfin s'=>∃r,fin = .done (.ret r)/\Q r s') E s:=by
 unfold Builtin.«len»
 refine W9 (m:=oneArg "len" _) (Wm (W9 (m:=callSpecial? (.ref a) (W3 "__len__")) (V0 (name:=W3 "__len__") hm.typeIs VS ?_)))
 refine call_meetsIn VS hm.typeIs F.entry_dict_len (F.args_dict_len_1 _) (G5 ns) ⟨tab,hm,W9 (wpAny_holding (Wm (W9 (wpAny_letGo ?_))))⟩
 have n1:¬((tab.length:Nat):Int)<0:=by omega
 have n2:¬((tab.length:Nat):Int)≥2 ^ 63:=by omega
 show wpAny _ _ (if ((tab.length:Nat):Int)<0 then _ else _) _ _ _
 rw [if_neg n1]
 show wpAny _ _ (if ((tab.length:Nat):Int)≥2 ^ 63 then _ else _) _ _ _
 rw [if_neg n2]
 exact W9 (wpAny_mkInt (Wm (show ∃r,_ from ⟨_,rfl,h⟩)))
theorem Jv {Q:Value->Shared->Prop}(ns:(a == sysModules)=false)(hm:s.heap.DictOfH kd a tab)(fit:(tab.length:Int)<2 ^ 63)(h:Q (.int tab.length (s.toks+1)) { s with toks:=s.toks+1+1 }) :
  wpAny (model prog w) A (call (.builtin "len") [.ref a]) Q E s:=Calls.call_function_entry kind_len plain_len entry_len (args_len1 _) (JV ns hm fit h)
theorem Uv {Q:Bool->Shared->Prop}(ns:(a == sysModules)=false)(hm:s.heap.DictOfH kd a tab)(fit:(tab.length:Int)<2 ^ 63)(h:Q (!tab.isEmpty) { s with toks:=s.toks+1+1 }) :
  wpAny (model prog w) A (truthy (.ref a)) Q E s:=by
 have ne:((tab.length:Int) != 0) = !tab.isEmpty:=by cases tab<;>simp<;>omega
 have run:wpAny (model prog w) A (runValue (.builtin "len" ⟨[.ref a],[]⟩)) (λr s'=>r = .int tab.length (s.toks+1)/\Q (!tab.isEmpty) s') E s:=by
  refine wpAny_runValue (codeAny_builtin entry_len (by
   rw [Around.under_plainId plain_len _]
   exact Vm (JV (Q:=λr s'=>r = .int tab.length (s.toks+1)/\Q (!tab.isEmpty) s') ns hm fit ⟨rfl,h⟩) (λ_ _ q=>by obtain⟨_,e,q⟩:=q;subst e;exact q) λ_ _ z=>z))
 unfold truthy
 first
  |refine W9 (VT (name:=W3 "__bool__") hm.typeIs noBool_dict (W9 (wpAny_specialOf (name:=W3 "__len__") hm.typeIs VS.lookup ?_)))
  |refine W9 (Wm (W9 (VT (name:=W3 "__bool__") hm.typeIs noBool_dict (W9 (wpAny_specialOf (name:=W3 "__len__") hm.typeIs VS.lookup ?_)))))
  |refine W9 (Wm (W9 (VT (name:=W3 "__bool__") hm.typeIs noBool_dict (W9 (Wm (W9 (wpAny_specialOf (name:=W3 "__len__") hm.typeIs VS.lookup ?_)))))))
 first
  |exact W9 (Vm run (λ_ _ q=>by rw [q.1];exact Wm (ne ▸ q.2)) λ_ _ z=>z)
  |exact W9 (Wm (W9 (Vm run (λ_ _ q=>by rw [q.1];exact Wm (ne ▸ q.2)) λ_ _ z=>z)))
end
section
variable {X:Cx}
def Gb (K:W4)(x:V)(H:Hp)(k:Bool):Prop:=CB K x H k\/(∃p kvs,x = .ref p/\Rd H p (.dT kvs)/\k = !kvs.isEmpty)\/∃p kvs,x = .ref p/\Rd H p (.dK kvs)/\k = !kvs.isEmpty
theorem Jb:CC X (λx H Q=>∃k,Gb X.K x H k/\Q k H):=by
 intro pins s σ H x v Q I rx h
 obtain⟨k,e,q⟩:=h
 rcases e with e|⟨p,kvs,rfl,hx,rfl⟩|⟨p,kvs,rfl,hx,rfl⟩
 ·exact PK pins s σ H x v Q I rx ⟨k,e,q⟩
 ·cases rx
  obtain⟨hz,hS,xs,r,m⟩:=BU I.hok hx
  have hlen:kvs.length=xs.length:=W05 r
  have hs:Wk=16777216:=VZ
  refine Uv hS m (by omega) ⟨H,I.tok _,?_⟩
  have:(!xs.isEmpty) = !kvs.isEmpty:=by cases r<;>rfl
  rw [this];exact q
 ·cases rx
  exact Pl I hx λs' I'=>⟨H,I',q⟩
theorem GM {a:Expr}{ta:TE}(ha:PE X a ta)(he:∀whole,isTrue a X.env whole=(do let v ←whole;standAt a.pos;holding [v] (truthy v))) :
  PT X a (λσ H Q=>ta σ H λx H'=>∃k,Gb X.K x H' k/\Q k H'):=by
 intro pins s σ H Q I h
 exact isTrue_plain (thn (ha pins s σ H _ I h) λv s1 ⟨x,H1,I1,r1,q1⟩=>Jb pins s1 σ H1 x v Q I1 r1 q1) (he _)
end
end L2
namespace L2
open PySem PySem.Spec PyProof.Rows
section
variable {P:Program} {w:World} {H:Hp} {h:Heap} {a:Addr}
theorem NR (x:ZE P w H h a (.dT [])):ZE P w H h a (.dK []):=by
 obtain⟨z,hd,xs,rel,o,es,ep,h1,h2,h3,h4,h5⟩:=x
 cases rel
 have he:es.toList=[]:=by rw [h4];rfl
 refine⟨Nat.zero_le _,hd,[],.nil,o,es,ep,h1,h2,h3,λe hm=>?_,?_,List.nodup_nil⟩
 ·have:e∈es.toList:=Array.mem_toList_iff.mpr hm
  rw [he] at this
  cases this
 ·rw [he];exact .nil
end
section
variable {X:Cx} {pins:List (Addr×Obj)} {σ:St} {H:Hp} {s:Shared} {a:Addr} {y v:V} {u r:Value} {o:Option V} {A:Around} {E:Value->Shared->Prop}
theorem Inv.view {o':HO}(I:Inv X pins σ H s)(mu:Mut (H a))(he:∃q,s.heap.get? a=some q)(f:ZE X.prog X.w (upd H a o') s.heap a o'):Inv X pins σ (upd H a o') s:=
 Pk (h':=s.heap) (t':=s.toks) (ob:=o') I mu ⟨rfl,λ_ _=>rfl⟩ he f
theorem Av {P:Program}{w:World}{H:Hp}{h:Heap}{a:Addr}{kvs:List (List Key×V)}(x:ZE P w H h a (.dT kvs)):∃q,h.get? a=some q:=by
 obtain⟨_,_,xs,_,o,_,_,h1,_⟩:=x
 exact⟨o,h1⟩
theorem Inv.asK (I:Inv X pins σ H s)(e:H a=some (.dT [])):Inv X pins σ (upd H a (.dK [])) s:=by
 have ok:=I.hok a _ e
 refine I.view (by rw [e];exact True.intro) (Av ok) ?_
 obtain⟨z,hd,vs,r⟩:=NR ok
 exact⟨z,hd,vs,r⟩
def UY (H:Hp)(a:Addr)(y:V)(r:Option V):Prop:=AJ H a y r\/
 ((H a=some (.dK [])/\∃(k:List Key) (b:Addr),y = .ref b/\H b=some (.tup (k.map kV))/\r=none)\/(H a=some (.dT [])/\∃k:Key,y=kV k/\r=none))
theorem UY.ofSome {x:V}(g:UY H a y (some x)):AJ H a y (some x):=by
 rcases g with g|⟨_,_,_,_,_,h⟩|⟨_,_,_,h⟩
 ·exact g
 ·cases h
 ·cases h
end
end L2
namespace L2
open PySem PySem.Spec PyProof.Rows
section
variable {X:Cx} {pins:List (Addr×Obj)} {σ:St} {H:Hp} {s:Shared}
theorem Inv.turnedL {h':Heap}{t':Nat}{ch:List Addr}(I:Inv X pins σ H s)(hf:∀b∈ch,Nh X pins H b)(k:∀b o,b∉ch->s.heap.get? b=some o->h'.get? b=some o):Inv X pins σ H { s with heap:=h',toks:=t' }:=by
 have nit:∀b u,H b=some u->b∉ch:=λb u e z=>by rw [(hf b z).1] at e;cases e
 have nL:X.env.locals∉ch:=λz=>(hf _ z).2.1 rfl
 refine I.step (g':=s.gens) (d':=s.drawn) (ch:=ch) (λb hb=>?_) (λb o _ _ hc e _=>k b o hc e) (λb o _ _ hc e _=>⟨o.slots,k b o hc e⟩) (λ_ _ _ _ n=>n)
  (λb o hc e=>⟨o,k b o hc e⟩) (λ_ _ e=>e) (λ_ _ _ e=>e) (λb ps e=>⟨#[],by rw [e];simp⟩) (λm hm=>?_) (λb u e=>?_) I.bare
 ·obtain⟨_,f1,_,f3,f4,f5⟩:=hf b hb
  exact⟨f3,f1,f4,f5⟩
 ·obtain⟨o,es,ep,ho,r⟩:=hm
  exact⟨o,es,ep,k _ o nL ho,r⟩
 ·refine (I.hok b u e).stay (λc v hc q=>k c v ?_ q) (λ_ q=>q) λ_ _ q=>q
  rcases hc with z|z
  ·rw [z];exact nit b u e
  ·exact nit c _ z
end
section
variable {prog:Program} {w:World} {A:Around} {E:Value->Shared->Prop} {s:Shared}
theorem G7 (hh:A.handled=none)(it l:Addr)(hne:l≠it)(items:Array Value) :
  Draws prog w A it [it,l] items.size (λi v=>items[i]? = some v) (λi h=>h.IsTupleIter it l i/\h.IsTuple l items) where
 live:=λ_ _ ⟨⟨o,ho,_⟩,_⟩=>⟨o,ho⟩
 frame:=λ_ _ _ ⟨⟨o,ho,r⟩,⟨ol,hol,r'⟩⟩ hk=>⟨⟨o,hk it WJ o ho,r⟩,⟨ol,hk l (WG _ WJ) ol hol,r'⟩⟩
 item:=λi s Q E hi st hQ=>by
  obtain⟨it1,ht⟩:=st
  obtain⟨o,ho,hc,hd⟩:=id it1
  obtain⟨ol,hol,hcl,nl,hdl⟩:=id ht
  have hx:items[i]? = some items[i]:=Array.getElem?_eq_getElem hi
  unfold V2
  refine W9 (V0 (name:=W3 "__next__") it1.typeIs Vl (Vz Vl it1.typeIs W0a ?_ (W06 _)))
  refine W9 (m:=field (.ref it) 0) (V8 ho hd (x:=.ref l) rfl ?_)
  dsimp only
  rw [if_neg (show ¬(Value.ref l == Value.none)=true from WX)]
  refine W9 (m:=field (.ref it) 1) (V8 ho hd (x:=.int i 0) rfl (W9 (m:=seqItems? (.ref l)) (Vt hol hdl ?_)))
  simp only [W0p,hx]
  refine W9 (wpAny_setField ho hd (by simp) (Wm ⟨_,rfl,Wm ?_⟩))
  have sb:=Vw.update s.heap it (Obj.mapFields (·.setIfInBounds 1 (rawInt ((i:Int)+1))))
  refine hQ _ _ s.toks hx ⟨⟨_,Heap.get?_update_self _ ho (Obj.isFreed_of_fields (Obj.data_mapFields hd _)),(Obj.cls_mapFields ..).trans hc,by rw [Obj.data_mapFields hd];simp [rawInt]⟩,?_⟩ sb
  exact ht.extBut sb.extBut hne
 done:=λs Q E st hE=>by
  obtain⟨it1,ht⟩:=st
  obtain⟨o,ho,hc,hd⟩:=id it1
  obtain⟨ol,hol,hcl,nl,hdl⟩:=id ht
  have hx:items[items.size]? = none:=by simp
  unfold V2
  refine W9 (V0 (name:=W3 "__next__") it1.typeIs Vl (Vz Vl it1.typeIs W0a ?_ (W06 _)))
  refine W9 (m:=field (.ref it) 0) (V8 ho hd (x:=.ref l) rfl ?_)
  dsimp only
  rw [if_neg (show ¬(Value.ref l == Value.none)=true from WX)]
  refine W9 (m:=field (.ref it) 1) (V8 ho hd (x:=.int items.size 0) rfl (W9 (m:=seqItems? (.ref l)) (Vt hol hdl ?_)))
  simp only [W0p,hx]
  refine W9 (wpAny_rule (W9 (wpAny_setField ho hd (by simp) (W9 (m:=newExc (.type "StopIteration") []) ?_))))
  unfold newExc newTuple
  refine W9 (Vi (W9 (m:=firstArgMember _ _) (wpAny_of_eq (a:=Value.none) (by first|rfl|(simp only [firstArgMember];rfl)) (Vi ?_ (by size_fits)))) (by size_fits))
  unfold raiseNew
  refine W9 (wpAny_handled ?_)
  first|rw [show A.in1.handled=none from hh]|rw [hh]
  exact W9 (Wm (wpAny_throw (hE _ _ (((Vw.update ..).extBut.push _).push _) ⟨_,Ws _ rfl,rfl⟩)))
structure ZAp (z TI TO i1 i2:Addr) (fp1 fp2:List Addr):Prop where
 a1:TI≠z
 a2:TO≠z
 a3:i1≠z
 a4:i2≠z
 a5:TI≠TO
 a6:TI≠i1
 a7:TI≠i2
 a8:TO≠i1
 a9:TO≠i2
 b1:i1≠i2
 b2:z∉fp1
 b3:z∉fp2
 b4:TO∉fp1
 b5:TO∉fp2
 b6:i1∉fp2
 b7:i2∉fp1
theorem Jm {b:Addr}{fp:List Addr}(h:b∉fp):∀c∈fp,c≠b:=λc hc z=>h (z ▸ hc)
theorem Qk {it:Addr}{fp:List Addr}{n i:Nat}{P:Nat->Value->Prop}{St:Nat->Heap->Prop}{b:Addr}{h h':Heap}(D:Draws prog w A it fp n P St)(st:St i h)(sb:Vw b h h')(hb:b∉fp):St i h':=
 D.frame i h h' st λc hc o e=>sb.extBut c o (Jm hb c hc) e
section
variable {z TI TO i1 i2:Addr} {fp1 fp2:List Addr} {n1 n2 k:Nat} {P1 P2:Nat->Value->Prop} {St1 St2:Nat->Heap->Prop} {a b:Value}
theorem Gk {Q:Value->Shared->Prop}(D1:Draws prog w A i1 fp1 n1 P1 St1)(D2:Draws prog w A i2 fp2 n2 P2 St2)(Z:ZAp z TI TO i1 i2 fp1 fp2)(hz:IsZip s.heap z TI TO .none)(hTI:IsPair s.heap TI (.ref i1) (.ref i2))(hTO:IsPair s.heap TO a b)
  (st1:St1 k s.heap) (st2:St2 k s.heap) (k1:k<n1) (k2:k<n2)
  (hQ:∀x y h' tk,P1 k x->P2 k y->IsZip h' z TI TO (rawInt s.heap.objs.size)->IsPair h' TO x y->St1 (k+1) h'->St2 (k+1) h'->IsPair h' s.heap.objs.size x y->h'.objs.size=s.heap.objs.size+1->
   (∀c o,c∉[z,TO,i1,i2]->s.heap.get? c=some o->h'.get? c=some o)->Q (.ref s.heap.objs.size) { s with heap:=h',toks:=tk }) :
  wpAny (model prog w) A (Builtin.«zip.__next__» ⟨[.ref z],[]⟩) (λfin s'=>∃v,fin = .done (.ret v)/\Q v s') E s:=by
 refine W9 (m:=field (.ref z) 2) (V8 hz rfl (x:=.bool false) rfl (W9 (m:=field (.ref z) 3) (V8 hz rfl (x:=.ref TI) rfl (W9 (Vt hTI rfl ?_)))))
 refine W9 (m:=V5 (.ref z)) ?_
 unfold V5
 refine W9 (V8 hz rfl (x:=.none) rfl (Wm ?_))
 simp only [if_true]
 refine W9 (wpAny_rule (W9 (V8 hz rfl (x:=.ref TO) rfl (W9 (Vp hz (by simp) λg1 hz1 sb1=>W9 ?_)))))
 have hz1':IsZip g1 z TI TO .ellipsis:=hz1
 simp only [List.zipIdx_cons,List.zipIdx_nil,List.forIn_cons,List.forIn_nil]
 refine W9 (W9 (wpAny_onRaise (W9 (m:=V2 (.ref i1)) ?_)))
 refine D1.item k _ _ _ k1 (Qk D1 st1 sb1 Z.b2) λx g2 t2 hx st1' sb2=>Wm ?_
 have to2:IsPair g2 TO a b:=sb2.extBut _ _ Z.a8 (sb1.extBut _ _ Z.a2 hTO)
 refine W9 (Vt to2 rfl (W9 (W04 to2 λg3 to3 sb3=>W9 (wpAny_letGo (Wm ?_)))))
 have to3':IsPair g3 TO x b:=to3
 refine W9 (W9 (wpAny_onRaise (W9 (m:=V2 (.ref i2)) ?_)))
 refine D2.item k _ _ _ k2 (Qk D2 (Qk D2 (Qk D2 st2 sb1 Z.b3) sb2 Z.b6) sb3 Z.b5) λy g4 t4 hy st2' sb4=>Wm ?_
 have to4:IsPair g4 TO x b:=sb4.extBut _ _ Z.a9 to3'
 refine W9 (Vt to4 rfl (W9 (W04 to4 λg5 to5 sb5=>W9 (wpAny_letGo (Wm (Wm ?_))))))
 have to5':IsPair g5 TO x y:=to5
 refine W9 (Vt to5' rfl (W9 (wpAny_newTuple ?_)))
 have size5:g5.objs.size=s.heap.objs.size:=by rw [sb5.1,sb4.1,sb3.1,sb2.1,sb1.1]
 have z5:IsZip g5 z TI TO .ellipsis:=sb5.extBut _ _ Z.a2.symm (sb4.extBut _ _ Z.a4.symm (sb3.extBut _ _ Z.a2.symm (sb2.extBut _ _ Z.a3.symm hz1')))
 have kept5:∀c o,c∉[z,TO,i1,i2]->s.heap.get? c=some o->g5.get? c=some o:=λc o hc e=>by
  simp only [Wy,WA,or_false,not_or] at hc
  exact sb5.extBut _ _ hc.2.1 (sb4.extBut _ _ hc.2.2.2 (sb3.extBut _ _ hc.2.1 (sb2.extBut _ _ hc.2.2.1 (sb1.extBut _ _ hc.1 e))))
 have s15:St1 (k+1) g5:=Qk D1 (Qk D1 (Qk D1 st1' sb3 Z.b4) sb4 Z.b7) sb5 Z.b4
 have s25:St2 (k+1) g5:=Qk D2 st2' sb5 Z.b5
 have ltz:z<g5.objs.size:=Wo z5
 refine W9 (m:=VJ (.ref z) (.ref g5.objs.size)) ?_
 unfold VJ
 have z6:IsZip (g5.push { cls:=.type "tuple",data:=.seq #[x,y] }) z TI TO .ellipsis:=Wj _ z5
 refine W9 (Vp z6 (by simp) λg7 z7 sb7=>?_)
 have z7':IsZip g7 z TI TO (rawInt g5.objs.size):=z7
 refine Vp z7' (by simp) λg8 z8 sb8=>?_
 have z8':IsZip g8 z TI TO (rawInt g5.objs.size):=z8
 have up8:∀c o,c≠z->g5.get? c=some o->g8.get? c=some o:=λc o hc e=>sb8.extBut _ _ hc (sb7.extBut _ _ hc (Wj _ e))
 have new8:IsPair g8 g5.objs.size x y:=sb8.extBut _ _ (W02 ltz) (sb7.extBut _ _ (W02 ltz) (Ws _ rfl))
 have size8:g8.objs.size=g5.objs.size+1:=by rw [sb8.1,sb7.1,Vh]
 rw [size5] at z8' new8 size8
 refine Wm ⟨_,rfl,?_⟩
 show Q (.ref g5.objs.size) _
 rw [size5]
 exact hQ x y g8 _ hx hy z8' (up8 _ _ Z.a2 to5') (D1.frame _ _ _ s15 λc hc o e=>up8 c o (Jm Z.b2 c hc) e) (D2.frame _ _ _ s25 λc hc o e=>up8 c o (Jm Z.b3 c hc) e) new8 size8
  λc o hc e=>up8 c o (λq=>hc (by simp [q])) (kept5 c o hc e)
theorem Nl {Q:PySem.Fin->Shared->Prop}(D1:Draws prog w A i1 fp1 n1 P1 St1)(D2:Draws prog w A i2 fp2 n2 P2 St2)(Z:ZAp z TI TO i1 i2 fp1 fp2)(hz:IsZip s.heap z TI TO .none)(hTI:IsPair s.heap TI (.ref i1) (.ref i2))(hTO:IsPair s.heap TO a b)
  (st1:St1 k s.heap) (st2:St2 k s.heap) (hk:k=n1\/(k<n1/\k=n2))
  (hE:∀h' e tk,(∀c o,c∉[z,TO,i1,i2]->s.heap.get? c=some o->h'.get? c=some o)->(∃o,h'.get? e=some o/\o.cls = .type "StopIteration")->E (.ref e) { s with heap:=h',toks:=tk }) :
  wpAny (model prog w) A (Builtin.«zip.__next__» ⟨[.ref z],[]⟩) Q E s:=by
 refine W9 (m:=field (.ref z) 2) (V8 hz rfl (x:=.bool false) rfl (W9 (m:=field (.ref z) 3) (V8 hz rfl (x:=.ref TI) rfl (W9 (Vt hTI rfl ?_)))))
 refine W9 (m:=V5 (.ref z)) ?_
 unfold V5
 refine W9 (V8 hz rfl (x:=.none) rfl (Wm ?_))
 simp only [if_true]
 refine W9 (wpAny_rule (W9 (V8 hz rfl (x:=.ref TO) rfl (W9 (Vp hz (by simp) λg1 hz1 sb1=>W9 ?_)))))
 have hz1':IsZip g1 z TI TO .ellipsis:=hz1
 simp only [List.zipIdx_cons,List.zipIdx_nil,List.forIn_cons,List.forIn_nil]
 refine W9 (W9 (wpAny_onRaise (W9 (m:=V2 (.ref i1)) ?_)))
 have fin:∀{g:Heap} {e:Addr} {tk:Nat},IsZip g z TI TO .ellipsis->(∀c o,c∉[z,TO,i1,i2]->s.heap.get? c=some o->g.get? c=some o)->(∃o,g.get? e=some o/\o.cls = .type "StopIteration")->
   ∀(h':Heap),Vw z g h'->E (.ref e) { s with heap:=h',toks:=tk }:=by
  intro g e tk gz gk ⟨oe,he,ce⟩ h' sb
  have ez:e≠z:=λq=>by subst q;rw [gz] at he;cases he;simp at ce
  exact hE h' e tk (λc o hc q=>sb.extBut _ _ (λr=>hc (by simp [r])) (gk c o hc q)) ⟨oe,sb.extBut _ _ ez he,ce⟩
 rcases hk with rfl|⟨k1,rfl⟩
 ·refine D1.done _ _ _ (Qk D1 st1 sb1 Z.b2) λg2 e sb2 he=>?_
  have z2:IsZip g2 z TI TO .ellipsis:=sb2 _ _ Z.a3.symm hz1'
  refine Vp z2 (by simp) λg3 _ sb3=>fin z2 (λc o hc q=>?_) he g3 sb3
  simp only [Wy,WA,or_false,not_or] at hc
  exact sb2 _ _ hc.2.2.1 (sb1.extBut _ _ hc.1 q)
 ·refine D1.item k _ _ _ k1 (Qk D1 st1 sb1 Z.b2) λx g2 t2 hx st1' sb2=>Wm ?_
  have to2:IsPair g2 TO a b:=sb2.extBut _ _ Z.a8 (sb1.extBut _ _ Z.a2 hTO)
  refine W9 (Vt to2 rfl (W9 (W04 to2 λg3 to3 sb3=>W9 (wpAny_letGo (Wm ?_)))))
  refine W9 (W9 (wpAny_onRaise (W9 (m:=V2 (.ref i2)) ?_)))
  refine D2.done _ _ _ (Qk D2 (Qk D2 (Qk D2 st2 sb1 Z.b3) sb2 Z.b6) sb3 Z.b5) λg4 e sb4 he=>?_
  have z4:IsZip g4 z TI TO .ellipsis:=sb4 _ _ Z.a4.symm (sb3.extBut _ _ Z.a2.symm (sb2.extBut _ _ Z.a3.symm hz1'))
  refine Vp z4 (by simp) λg5 _ sb5=>fin z4 (λc o hc q=>?_) he g5 sb5
  simp only [Wy,WA,or_false,not_or] at hc
  exact sb4 _ _ hc.2.2.2 (sb3.extBut _ _ hc.2.1 (sb2.extBut _ _ hc.2.2.1 (sb1.extBut _ _ hc.1 q)))
theorem TZ {Q:Option Value->Shared->Prop}(D1:Draws prog w A.in1 i1 fp1 n1 P1 St1)(D2:Draws prog w A.in1 i2 fp2 n2 P2 St2)(Z:ZAp z TI TO i1 i2 fp1 fp2)(hz:IsZip s.heap z TI TO .none)(hTI:IsPair s.heap TI (.ref i1) (.ref i2))(hTO:IsPair s.heap TO a b)
  (st1:St1 k s.heap) (st2:St2 k s.heap) (k1:k<n1) (k2:k<n2)
  (hQ:∀x y h' tk,P1 k x->P2 k y->IsZip h' z TI TO (rawInt s.heap.objs.size)->IsPair h' TO x y->St1 (k+1) h'->St2 (k+1) h'->IsPair h' s.heap.objs.size x y->h'.objs.size=s.heap.objs.size+1->
   (∀c o,c∉[z,TO,i1,i2]->s.heap.get? c=some o->h'.get? c=some o)->Q (some (.ref s.heap.objs.size)) { s with heap:=h',toks:=tk }) :
  wpAny (model prog w) A (pyNext (.ref z)) Q E s:=by
 have hT:s.TypeIs (.ref z) "zip":=⟨_,hz,rfl⟩
 unfold pyNext
 refine W9 (wpAny_attempt (V0 (name:=W3 "__next__") hT W0b (Vz W0b hT F.entry_zip_next ?_ (F.args_zip_next_1 _))))
 exact Gk D1 D2 Z hz hTI hTO st1 st2 k1 k2 λx y h' tk c1 c2 c3 c4 c5 c6 c7 c8 c9=>Wm (hQ x y h' tk c1 c2 c3 c4 c5 c6 c7 c8 c9)
theorem B0 {Q:Option Value->Shared->Prop}(D1:Draws prog w A.in1 i1 fp1 n1 P1 St1)(D2:Draws prog w A.in1 i2 fp2 n2 P2 St2)(Z:ZAp z TI TO i1 i2 fp1 fp2)(hz:IsZip s.heap z TI TO .none)(hTI:IsPair s.heap TI (.ref i1) (.ref i2))(hTO:IsPair s.heap TO a b)
  (st1:St1 k s.heap) (st2:St2 k s.heap) (hk:k=n1\/(k<n1/\k=n2)) (hQ:∀h' tk,(∀c o,c∉[z,TO,i1,i2]->s.heap.get? c=some o->h'.get? c=some o)->Q none { s with heap:=h',toks:=tk }) :
  wpAny (model prog w) A (pyNext (.ref z)) Q E s:=by
 have hT:s.TypeIs (.ref z) "zip":=⟨_,hz,rfl⟩
 unfold pyNext
 refine W9 (wpAny_attempt (V0 (name:=W3 "__next__") hT W0b (Vz W0b hT F.entry_zip_next ?_ (F.args_zip_next_1 _))))
 refine Nl D1 D2 Z hz hTI hTO st1 st2 hk λh' e tk kp ⟨o,ho,hc⟩=>?_
 exact W9 (wpAny_isInstance (T:="StopIteration") (b:=true) ⟨o,ho,hc⟩ isSubtype_stop (Wm (hQ h' tk kp)))
end
def Qx:Bool->String
 |true=>"list_iterator"
 |false=>"tuple_iterator"
def Nc (sk:Bool)(h:Heap)(it l:Addr)(k:Nat):Prop:=match sk with|true=>h.IsListIter it l k|false=>h.IsTupleIter it l k
def Gc (sk:Bool)(h:Heap)(l:Addr)(items:Array Value):Prop:=match sk with|true=>h.IsList l items|false=>h.IsTuple l items
theorem Qv (sk:Bool)(hh:A.handled=none)(it l:Addr)(hne:l≠it)(items:Array Value):Draws prog w A it [it,l] items.size (λi v=>items[i]? = some v) (λi h=>Nc sk h it l i/\Gc sk h l items):=by
 cases sk
 ·exact G7 hh it l hne items
 ·exact PySem.Draws.list hh it l hne items
theorem Tq (sk:Bool){l:Addr}{items:Array Value}{Q:Value->Shared->Prop}(hl:Gc sk s.heap l items)(hQ:Q (.ref s.heap.objs.size) { s with heap:=s.heap.push { cls:=.type (Qx sk),data:=.fields #[.ref l,.int 0 0] } }) :
  wpAny (model prog w) A (pyIter (.ref l)) Q E s:=by
 cases sk
 ·exact VB hl hQ
 ·exact VF hl hQ
theorem Gc.push {sk:Bool}{h:Heap}{l:Addr}{items:Array Value}(x:Gc sk h l items)(o:Obj):Gc sk (h.push o) l items:=by
 cases sk
 ·obtain⟨q,e,r⟩:=x
  exact⟨q,Wj _ e,r⟩
 ·exact Heap.IsList.push x _
theorem Nc.new {sk:Bool}{h:Heap}{it l:Addr}(e:h.get? it=some { cls:=.type (Qx sk),data:=.fields #[.ref l,.int 0 0] }):Nc sk h it l 0:=by
 cases sk
 ·exact⟨_,e,rfl,rfl⟩
 ·exact⟨_,e,rfl,rfl⟩
def zh (h:Heap)(c1 c2:Bool)(l1 l2:Addr):Heap:=
 ((((h.push { cls:=.type (Qx c1),data:=.fields #[.ref l1,.int 0 0] }).push { cls:=.type (Qx c2),data:=.fields #[.ref l2,.int 0 0] }).push { cls:=.type "tuple",data:=.seq #[.ref h.objs.size,.ref (h.objs.size+1)] }).push
  { cls:=.type "tuple",data:=.seq #[.none,.none] }).push { cls:=.type "zip",data:=.fields #[.none,.bool false,.bool false,.ref (h.objs.size+2),.ref (h.objs.size+3)] }
theorem Pz (c1 c2:Bool)(l1 l2:Addr)(xs ys:Array Value) :
  Meets (Builtin.«zip.__new__» ⟨[.type "zip",.ref l1,.ref l2],[]⟩) (λ_ R s=>Gc c1 s.heap l1 xs/\Gc c2 s.heap l2 ys/\R (.ok (.ret (.ref (s.heap.objs.size+4)))) { s with heap:=zh s.heap c1 c2 l1 l2 }):=
 .of_wp λprog w A R s h=>by
  obtain⟨hp,g,d,tk,os⟩:=s
  obtain⟨q1,q2,h⟩:=h
  have hsub:=PySem.sub_zip
  have q1':Gc c1 (Shared.heap ⟨hp,g,d,tk,os⟩) l1 xs:=q1
  have q2':Gc c2 (Shared.heap ⟨hp.push { cls:=.type (Qx c1),data:=.fields #[.ref l1,.int 0 0] },g,d,tk,os⟩) l2 ys:=Gc.push q2 _
  wp_walk using Tq c1 q1',Tq c2 q2'
  refine⟨_,rfl,?_⟩
  simp only [Vh] at h ⊢
  unfold zh at h
  exact h
end
end L2
namespace L2
open PySem PySem.Spec PyProof.Rows
theorem Qz {h:Heap}{o:Obj}{n:Nat}(e:h.objs.size=n)(f:o.isFreed=false):(h.push o).get? n=some o:=by rw [←e];exact Ws _ f
theorem PB (h:Heap)(c1 c2:Bool)(l1 l2:Addr):IsZip (zh h c1 c2 l1 l2) (h.objs.size+4) (h.objs.size+2) (h.objs.size+3) .none/\IsPair (zh h c1 c2 l1 l2) (h.objs.size+2) (.ref h.objs.size) (.ref (h.objs.size+1))/\
  IsPair (zh h c1 c2 l1 l2) (h.objs.size+3) .none .none/\(zh h c1 c2 l1 l2).get? h.objs.size=some { cls:=.type (Qx c1),data:=.fields #[.ref l1,.int 0 0] }/\(zh h c1 c2 l1 l2).get? (h.objs.size+1)=some { cls:=.type (Qx c2),data:=.fields #[.ref l2,.int 0 0] }/\
  ∀b o,h.get? b=some o->(zh h c1 c2 l1 l2).get? b=some o:=by
 unfold zh
 have up:∀{h:Heap} {o p:Obj} {b:Addr},h.get? b=some o->(h.push p).get? b=some o:=λe=>Wj _ e
 exact⟨Qz (by simp [Vh]) rfl,up (up (Qz (by simp [Vh]) rfl)),up (Qz (by simp [Vh]) rfl),up (up (up (up (Qz rfl rfl)))),up (up (up (Qz (by simp [Vh]) rfl))),λb o e=>up (up (up (up (up e))))⟩
section
variable {prog:Program} {w:World} {A:Around} {E:Value->Shared->Prop} {s:Shared}
theorem N0 {c1 c2:Bool}{l1 l2:Addr}{xs ys:Array Value}{Q:Value->Shared->Prop}(h1:Gc c1 s.heap l1 xs)(h2:Gc c2 s.heap l2 ys)
  (h:Q (.ref (s.heap.objs.size+4)) { s with heap:=zh s.heap c1 c2 l1 l2 }):wpAny (model prog w) A (call (.type "zip") [.ref l1,.ref l2]) Q E s:=by
 refine callType_new F.called_zip (by decide) (F.typeCall_zip_2 _ _) (F.newCall_zip_2 _ _) (λobj=>F.args_object_init_3 obj _ _) F.entry_zip_new (Pz c1 c2 l1 l2 xs ys) ⟨h1,h2,?_⟩
 exact⟨⟨_,(PB s.heap c1 c2 l1 l2).1,rfl⟩,h⟩
end
def TrS (c:Bool)(H:Hp)(l:Addr)(xs:List V):Prop:=match c with|true=>H l=some (.lst xs)|false=>H l=some (.tup xs)
theorem TrS.one {c:Bool}{H:Hp}{l:Addr}{xs ys:List V}(h:TrS c H l xs)(h':TrS c H l ys):xs=ys:=by
 cases c
 ·have h1:H l=some (.tup xs):=h
  have h2:H l=some (.tup ys):=h'
  rw [h1] at h2;cases h2;rfl
 ·have h1:H l=some (.lst xs):=h
  have h2:H l=some (.lst ys):=h'
  rw [h1] at h2;cases h2;rfl
theorem TrS.ne {c:Bool}{H:Hp}{l b:Addr}{xs:List V}(h:TrS c H l xs)(hb:H b=none):l≠b:=by
 cases c
 ·exact Zj (show H l=some (.tup xs) from h) hb
 ·exact Zj (show H l=some (.lst xs) from h) hb
theorem TrS.so {X:Cx}{pins:List (Addr×Obj)}{σ:St}{H:Hp}{s:Shared}{c:Bool}{l:Addr}{xs:List V}(I:Inv X pins σ H s)(h:TrS c H l xs):∃its:List Value,ZQ xs its/\Gc c s.heap l its.toArray/\xs.length≤Wk:=by
 cases c
 ·exact I.tuple (.of h)
 ·obtain⟨its,r,pl,z⟩:=I.list (.of h)
  exact⟨its,r,pl.isList,z⟩
def Itz (c1:Bool)(l1:Addr)(c2:Bool)(l2:Addr):It:=
 ⟨λi H=>∃xs ys x y,TrS c1 H l1 xs/\TrS c2 H l2 ys/\xs[i]? = some x/\ys[i]? = some y,
 λi H v H'=>∃p x y,v = .ref p/\H p=none/\H'=upd H p (.tup [x,y])/\(∀xs,TrS c1 H l1 xs->xs[i]? = some x)/\(∀ys,TrS c2 H l2 ys->ys[i]? = some y),
 λi H=>∃xs ys,TrS c1 H l1 xs/\TrS c2 H l2 ys/\(i=xs.length\/(i<xs.length/\i=ys.length))⟩
structure ZD (z TI TO i1 i2:Addr):Prop where
 a1:TI≠z
 a2:TO≠z
 a3:i1≠z
 a4:i2≠z
 a5:TI≠TO
 a6:TI≠i1
 a7:TI≠i2
 a8:TO≠i1
 a9:TO≠i2
 b1:i1≠i2
theorem ZD.ap {z TI TO i1 i2 l1 l2:Addr}(d:ZD z TI TO i1 i2)(h1:∀b∈[z,TI,TO,i1,i2],l1≠b)(h2:∀b∈[z,TI,TO,i1,i2],l2≠b):ZAp z TI TO i1 i2 [i1,l1] [i2,l2]:=by
 simp only [Wy,WA,or_false,forall_eq_or_imp,forall_eq] at h1 h2
 obtain⟨p1,p2,p3,p4,p5⟩:=h1
 obtain⟨q1,q2,q3,q4,q5⟩:=h2
 have no:∀{a b c:Addr},a≠b->a≠c->a∉[b,c]:=λx y z=>by
  simp only [Wy,WA,or_false] at z
  rcases z with z|z
  ·exact x z
  ·exact y z
 exact⟨d.a1,d.a2,d.a3,d.a4,d.a5,d.a6,d.a7,d.a8,d.a9,d.b1,no d.a3.symm p1.symm,no d.a4.symm q1.symm,no d.a8 p3.symm,no d.a9 q3.symm,no d.b1 q4.symm,no d.b1.symm p5.symm⟩
theorem Lv {P:Program}{w:World}{H:Hp}{h:Heap}{p:Addr}{x y:V}{u v:Value}(e:IsPair h p u v)(rx:ZS x u)(ry:ZS y v):ZE P w H h p (.tup [x,y]):=
 ⟨by show 2≤Wk;decide,[u,v],.cons rx (.cons ry .nil),⟨⟨_,e,rfl,_,rfl⟩,_,e,rfl⟩⟩
theorem Nn {P:Program}{w:World}{K:W4}{elts:List Expr}{kt:Nat}{pt:Pos}{c1 c2:Bool}{l1 l2 z TI TO i1 i2:Addr}(d:ZD z TI TO i1 i2) :
  Turn P w K (.Tuple elts kt pt) (Itz c1 l1 c2 l2) [z,TI,TO,i1,i2] z (λi h=>IsZip h z TI TO .none/\IsPair h TI (.ref i1) (.ref i2)/\(∃a b,IsPair h TO a b)/\Nc c1 h i1 l1 i/\Nc c2 h i2 l2 i) where
 mem:=by simp
 obj:=λi h st b hb=>by
  obtain⟨hz,hTI,⟨a,b',hTO⟩,s1,s2⟩:=st
  have seq:∀{c:Bool} {it l:Addr} {k:Nat},Nc c h it l k->∃o,h.get? it=some o/\∀v,o.data≠.cell v:=λ{c it l k} q=>by
   cases c
   ·obtain⟨o,e,_,q⟩:=q
    exact⟨o,e,λv z=>by rw [q] at z;cases z⟩
   ·obtain⟨o,e,_,q⟩:=q
    exact⟨o,e,λv z=>by rw [q] at z;cases z⟩
  simp only [Wy,WA,or_false] at hb
  rcases hb with rfl|rfl|rfl|rfl|rfl
  ·exact⟨_,hz,λv q=>nomatch q⟩
  ·exact⟨_,hTI,λv q=>nomatch q⟩
  ·exact⟨_,hTO,λv q=>nomatch q⟩
  ·exact seq s1
  ·exact seq s2
 keep:=λi h h' st k=>by
  obtain⟨hz,hTI,⟨a,b',hTO⟩,s1,s2⟩:=st
  have seq:∀{c:Bool} {it l:Addr} {k:Nat},(∀o,h.get? it=some o->h'.get? it=some o)->Nc c h it l k->Nc c h' it l k:=λ{c it l k} kp q=>by
   cases c
   ·obtain⟨o,e,q⟩:=q
    exact⟨o,kp o e,q⟩
   ·obtain⟨o,e,q⟩:=q
    exact⟨o,kp o e,q⟩
  exact⟨k z (by simp) _ hz,k TI (by simp) _ hTI,⟨a,b',k TO (by simp) _ hTO⟩,seq (k i1 (by simp)) s1,seq (k i2 (by simp)) s2⟩
 item:=by
  intro X hP hw hK hc i pins s σ H E I hf st hg
  subst hP hw hK
  obtain⟨xs,ys,x,y,t1,t2,hx,hy⟩:=hg
  obtain⟨hz,hTI,⟨a,b',hTO⟩,s1,s2⟩:=st
  obtain⟨its1,r1,o1,_⟩:=t1.so I
  obtain⟨its2,r2,o2,_⟩:=t2.so I
  have n1:∀b∈[z,TI,TO,i1,i2],l1≠b:=λb hb=>t1.ne (hf b hb).1
  have n2:∀b∈[z,TI,TO,i1,i2],l2≠b:=λb hb=>t2.ne (hf b hb).1
  have hh:X.A.in1.handled=none:=I.ok.hd hc
  have D1:=Qv (prog:=X.prog) (w:=X.w) c1 hh i1 l1 (n1 i1 (by simp)) its1.toArray
  have D2:=Qv (prog:=X.prog) (w:=X.w) c2 hh i2 l2 (n2 i2 (by simp)) its2.toArray
  have lx:i<its1.toArray.size:=by rw [Wl,←r1.length];exact (Wn.mp hx).1
  have ly:i<its2.toArray.size:=by rw [Wl,←r2.length];exact (Wn.mp hy).1
  refine TZ D1 D2 (d.ap n1 n2) hz hTI hTO ⟨s1,o1⟩ ⟨s2,o2⟩ lx ly λu v h' tk p1 p2 z' to' st1 st2 new size kept=>?_
  obtain⟨u',eu,ru⟩:=r1.get hx
  obtain⟨v',ev,rv⟩:=r2.get hy
  have hu:u=u':=by
   have:its1.toArray[i]? = some u:=p1
   rw [List.getElem?_toArray,eu] at this
   exact (WM this).symm
  have hv:v=v':=by
   have:its2.toArray[i]? = some v:=p2
   rw [List.getElem?_toArray,ev] at this
   exact (WM this).symm
  subst hu hv
  refine⟨_,rfl,wpAny_letOwnedTupleGo_zip (s:={ s with heap:=h',toks:=tk }) z' λh'' z'' sb=>?_⟩
  have kp:∀b o,b∉[z,TI,TO,i1,i2]->s.heap.get? b=some o->h''.get? b=some o:=λb o hb e=>by
   simp only [Wy,WA,or_false,not_or] at hb
   exact sb.extBut b o hb.1 (kept b o (by simp only [Wy,WA,or_false,not_or];exact⟨hb.1,hb.2.2.1,hb.2.2.2.1,hb.2.2.2.2⟩) e)
  have hn:H s.heap.objs.size=none:=I.hok.fresh (Wu _)
  have zlt:z<s.heap.objs.size:=Wo hz
  have lt:∀b∈[z,TI,TO,i1,i2],b<s.heap.objs.size:=λb hb=>by
   have seq:∀{c:Bool} {it l:Addr} {k:Nat},Nc c s.heap it l k->it<s.heap.objs.size:=λ{c it l k} q=>by
    cases c
    ·obtain⟨o,e,_⟩:=q;exact Wo e
    ·obtain⟨o,e,_⟩:=q;exact Wo e
   simp only [Wy,WA,or_false] at hb
   rcases hb with rfl|rfl|rfl|rfl|rfl
   ·exact zlt
   ·exact Wo hTI
   ·exact Wo hTO
   ·exact seq s1
   ·exact seq s2
  have new':IsPair h'' s.heap.objs.size u v:=sb.extBut _ _ (W02 zlt) new
  have keepTI:IsPair h'' TI (.ref i1) (.ref i2):=sb.extBut _ _ d.a1 (kept TI _ (by simp only [Wy,WA,or_false,not_or];exact⟨d.a1,d.a5,d.a6,d.a7⟩) hTI)
  have seq:∀{c:Bool} {it l:Addr} {k:Nat},it≠z->Nc c h' it l k->Nc c h'' it l k:=λ{c it l k} ne q=>by
   cases c
   ·obtain⟨o,e,q⟩:=q
    exact⟨o,sb.extBut _ _ ne e,q⟩
   ·obtain⟨o,e,q⟩:=q
    exact⟨o,sb.extBut _ _ ne e,q⟩
  refine⟨.ref s.heap.objs.size,upd H s.heap.objs.size (.tup [x,y]),?_,rfl,⟨_,x,y,rfl,hn,rfl,λws h=>?_,λws h=>?_⟩,⟨z'',keepTI,⟨_,_,sb.extBut _ _ d.a2 to'⟩,seq d.a3 st1.1,seq d.a4 st2.1⟩,λb hb=>?_⟩
  ·have I1:Inv X pins σ (upd H s.heap.objs.size (.tup [x,y])) { s with heap:=s.heap.push { cls:=.type "tuple",data:=.seq #[u,v] } }:=
    I.laid (t':=s.toks) (λb o e=>Wj _ e) (Wu _) (Lv (Ws _ rfl) ru rv)
   have fin:(∀b∈[z,TI,TO,i1,i2],Nh X pins (upd H s.heap.objs.size (.tup [x,y])) b)->(∀b o,b∉[z,TI,TO,i1,i2]->(s.heap.push { cls:=.type "tuple",data:=.seq #[u,v] }).get? b=some o->h''.get? b=some o)->
     Inv X pins σ (upd H s.heap.objs.size (.tup [x,y])) { s with heap:=h'',toks:=tk }:=λa1 a2=>Inv.turnedL (s:={ s with heap:=s.heap.push { cls:=.type "tuple",data:=.seq #[u,v] } }) (h':=h'') (t':=tk) (ch:=[z,TI,TO,i1,i2]) I1 a1 a2
   refine fin (λb hb=>?_) λb o hb e=>?_
   ·obtain⟨f0,f⟩:=hf b hb
    exact⟨by rw [Zf (WD (lt b hb))];exact f0,f⟩
   ·by_cases q:b=s.heap.objs.size
    ·subst q
     rw [Ws _ rfl] at e
     cases e
     exact new'
    ·rw [Heap.get?_push_ne _ _ _ q] at e
     exact kp b o hb e
  ·rw [h.one t1];exact hx
  ·rw [h.one t2];exact hy
  ·rw [Zf (WD (lt b hb))];exact (hf b hb).1
 done:=by
  intro X hP hw hK hc i pins s σ H E I hf st hg
  subst hP hw hK
  obtain⟨xs,ys,t1,t2,hend⟩:=hg
  obtain⟨hz,hTI,⟨a,b',hTO⟩,s1,s2⟩:=st
  obtain⟨its1,r1,o1,_⟩:=t1.so I
  obtain⟨its2,r2,o2,_⟩:=t2.so I
  have n1:∀b∈[z,TI,TO,i1,i2],l1≠b:=λb hb=>t1.ne (hf b hb).1
  have n2:∀b∈[z,TI,TO,i1,i2],l2≠b:=λb hb=>t2.ne (hf b hb).1
  have hh:X.A.in1.handled=none:=I.ok.hd hc
  have D1:=Qv (prog:=X.prog) (w:=X.w) c1 hh i1 l1 (n1 i1 (by simp)) its1.toArray
  have D2:=Qv (prog:=X.prog) (w:=X.w) c2 hh i2 l2 (n2 i2 (by simp)) its2.toArray
  refine B0 D1 D2 (d.ap n1 n2) hz hTI hTO ⟨s1,o1⟩ ⟨s2,o2⟩ (by rw [Wl,Wl,←r1.length,←r2.length];exact hend) λh' tk kept=>⟨rfl,I.turnedL hf λb o hb e=>?_⟩
  simp only [Wy,WA,or_false,not_or] at hb
  exact kept b o (by simp only [Wy,WA,or_false,not_or];exact⟨hb.1,hb.2.2.1,hb.2.2.2.1,hb.2.2.2.2⟩) e
 self:=λ_ _ _ _ _ st h=>wpAny_pyIter_zip st.1 h
section
variable {X:Cx} {e1 e2:Expr} {te1 te2:TE} {p pos:Pos}
def HC (ta:TA):TI:=λσ H R=>ta σ H λvs H1=>∃c1 l1 xs c2 l2 ys,vs=[.ref l1,.ref l2]/\TrS c1 H1 l1 xs/\TrS c2 H1 l2 ys/\R (Itz c1 l1 c2 l2) H1
theorem Lj {elts:List Expr}{kt:Nat}{pt:Pos}{ta:TA}(hg:Gl X "zip")(hm:X.mg "zip" = none)(hv:Ww "zip" = some (.type "zip"))(ha:PA X [e1,e2] ta)
  (he:Wr [e1,e2] X.env=(false,eval e1 X.env) :: Wr [e2] X.env:=by rfl) (hpl:(backTo pos (Wr [e2] X.env)).any (·.1)=false:=by rfl) :
  PI X (.Tuple elts kt pt) (.Call (.Name "zip" p) [e1,e2] [] pos) (HC ta):=by
 intro pins s σ H R I h
 refine VQ (JW I hg hm hv ?_ (by decide) (by decide))
 refine VC (thn (ha pos pins s σ H _ I h) λus s1 ⟨vs,H1,I1,r1,c1,l1,xs,c2,l2,ys,ev,t1,t2,q⟩=>?_) he hpl
 subst ev
 obtain⟨u1,u2,rfl,ru1,ru2⟩:=Gn r1
 cases ru1
 cases ru2
 obtain⟨its1,_,o1,_⟩:=t1.so I1
 obtain⟨its2,_,o2,_⟩:=t2.so I1
 refine N0 o1 o2 ?_
 obtain⟨z1,z2,z3,z4,z5,z6⟩:=PB s1.heap c1 c2 l1 l2
 refine wpAny_pyIter_zip (s:={ s1 with heap:=zh s1.heap c1 c2 l1 l2 }) z1 ?_
 have ne:∀{a b:Nat},a≠b->s1.heap.objs.size+a≠s1.heap.objs.size+b:=λh q=>h (Nat.add_left_cancel q)
 refine⟨_,_,_,_,H1,rfl,I1.kept (t':=s1.toks) z6,Nn (c1:=c1) (l1:=l1) (c2:=c2) (l2:=l2) ⟨ne (by decide),ne (by decide),ne (a:=0) (by decide),ne (by decide),ne (by decide),ne (b:=0) (by decide),ne (by decide),ne (b:=0) (by decide),ne (by decide),ne (a:=0) (by decide)⟩,⟨z1,z2,⟨_,_,z3⟩,.new z4,.new z5⟩,λb hb=>?_,q⟩
 have hb':s1.heap.objs.size≤b:=by
  simp only [Wy,WA,or_false] at hb
  rcases hb with rfl|rfl|rfl|rfl|rfl<;>omega
 exact I1.fpOk hb' (I1.hok.fresh hb')
end
end L2
namespace L2
open PySem PySem.Spec PyProof.Rows
theorem Fo {k:Key}{u:Value}(h:UI k u=true):ZS (kV k) u:=by
 rcases Zq h with ⟨i,t,rfl,rfl⟩|⟨x,t,rfl,rfl⟩
 ·exact⟨t,rfl⟩
 ·exact⟨t,rfl⟩
def Itk (a:Addr)(o:Obj):It:=
 ⟨λi H=>∃(kvs:List (Key×V)) (k:Key) (v:V),H a=some (.frz o (.dK kvs))/\kvs[i]? = some (k,v),
 λi H x H'=>H'=H/\∀kvs:List (Key×V),H a=some (.frz o (.dK kvs))->∃k v,kvs[i]? = some (k,v)/\x=kV k,
 λi H=>∃kvs:List (Key×V),H a=some (.frz o (.dK kvs))/\i=kvs.length⟩
theorem BP {X:Cx}{pins:List (Addr×Obj)}{σ:St}{H:Hp}{s:Shared}{a:Addr}{o:Obj}{kvs:List (Key×V)}(I:Inv X pins σ H s)(e:H a=some (.frz o (.dK kvs))){es:Array DictEntry}{ep:Nat}(hd:o.data = .dict es ep) :
  ∃vs:List (Key×Value),KV kvs vs/\s.heap.DictAt (ZX X.prog X.w) a vs ep/\es.size=vs.length:=by
 obtain⟨h1,_,_,vs,r,o',es',ep',h2,h3,h4,h5,h6,h7⟩:=(show ZE X.prog X.w H s.heap a (.frz o (.dK kvs)) from I.hok a _ e)
 rw [h1] at h2
 cases h2
 rw [hd] at h4
 cases h4
 exact⟨vs,r,⟨o,es,h1,h3,hd,h5,h6,h7⟩,by rw [←h6.length];simp⟩
theorem KV.get {κ:Type}{kvs:List (κ×V)}{vs:List (κ×Value)}(r:KV kvs vs):∀{i:Nat} {k:κ} {v:V},kvs[i]? = some (k,v)->∃u,vs[i]? = some (k,u)/\ZS v u:=by
 unfold KV at r
 induction r with
 |nil=>intro i k v e;simp at e
 | @cons p q ps qs h t ih=>
  intro i k v e
  cases i with
  |zero=>
   simp at e
   subst e
   have h1:k=q.1:=h.1
   exact⟨q.2,by rw [h1];rfl,h.2⟩
  |succ i=>simpa using ih (by simpa using e)
theorem Gv {P:Program}{w:World}{K:W4}{tg:Expr}{a it:Addr}{o:Obj}{es:Array DictEntry}{ep:Nat}(hd:o.data = .dict es ep):Turn P w K tg (Itk a o) [it] it (λi h=>h.IsKeyIter it a i es.size ep) where
 mem:=by simp
 obj:=λi h st b hb=>by
  have e:b=it:=by simpa using hb
  subst e
  obtain⟨q,e,_,d⟩:=st
  exact⟨q,e,λv z=>by rw [d] at z;cases z⟩
 keep:=λi h h' st k=>st.at λq e=>k it (by simp) q e
 item:=by
  intro X hP hw hK hc i pins s σ H E I hf st hg
  subst hP hw hK
  obtain⟨kvs,k,v,e,hx⟩:=hg
  obtain⟨vs,r,hm,hz⟩:=BP I e hd
  obtain⟨u,hu,_⟩:=r.get hx
  obtain⟨f0,f1,f2,f3,f4,f5⟩:=hf it (by simp)
  rw [hz] at st
  refine wpAny_pyNext_dict_item st hm hu λkey h' hk st' sb=>?_
  have I1:Inv X pins σ H { s with heap:=h' }:=I.turned (t':=s.toks) (λb q hb e=>(sb.2 b hb).trans e) f0 f1 f3 f4 f5
  obtain⟨q,eq,c,d⟩:=id st'
  refine⟨key,rfl,NQ (s:={ s with heap:=h' }) eq c d (by decide) ⟨kV k,H,I1,Fo hk,⟨rfl,λkvs' e'=>?_⟩,by rw [hz];exact st',λb hb=>(hf b hb).1⟩⟩
  rw [e] at e'
  cases e'
  exact⟨k,v,hx,rfl⟩
 done:=by
  intro X hP hw hK hc i pins s σ H E I hf st hg
  subst hP hw hK
  obtain⟨kvs,e,hx⟩:=hg
  obtain⟨vs,r,hm,hz⟩:=BP I e hd
  obtain⟨f0,f1,f2,f3,f4,f5⟩:=hf it (by simp)
  rw [hz] at st
  exact wpAny_pyNext_dict_end (I.ok.hd hc) st hm (by rw [hx,r.length];simp) λh' eb=>⟨rfl,I.turned (t':=s.toks) (λb q hb e=>eb b q hb e) f0 f1 f3 f4 f5⟩
 self:=λ_ _ _ _ _ st h=>wpAny_pyIter_keyiter st h
section
variable {X:Cx} {pins:List (Addr×Obj)} {σ:St} {H:Hp} {s:Shared} {a:Addr} {kvs:List (Key×V)} {tg:Expr} {E:Value->Shared->Prop} {R:It->Hp->Prop}
theorem Inv.freeze (I:Inv X pins σ H s)(e:H a=some (.dK kvs)):∃(o:Obj) (es:Array DictEntry) (ep:Nat),o.data = .dict es ep/\Inv X pins σ (upd H a (.frz o (.dK kvs))) s:=by
 obtain⟨z,hS,vs,r,o,es,ep,h1,h2,h3,h4⟩:=(show ZE X.prog X.w H s.heap a (.dK kvs) from I.hok a _ e)
 refine⟨o,es,ep,h3,I.view (by rw [e];exact True.intro) ⟨o,h1⟩ ⟨h1,z,hS,vs,r,o,es,ep,h1,h2,h3,h4⟩⟩
theorem GR {o:Obj}(I:Inv X pins σ H s)(e:H a=some (.frz o (.dK kvs)))(q:R (Itk a o) H):wpAny (model X.prog X.w) X.A (pyIter (.ref a)) (PIE X pins σ tg R) E s:=by
 obtain⟨h1,_,hS,_,_,o',es,ep,h2,_,hd,_⟩:=(show ZE X.prog X.w H s.heap a (.frz o (.dK kvs)) from I.hok a _ e)
 rw [h1] at h2
 cases h2
 obtain⟨vs,r,hm,hz⟩:=BP I e hd
 refine wpAny_pyIter_dict hS hm ?_
 refine⟨s.heap.objs.size,[s.heap.objs.size],_,_,H,rfl,I.kept (t':=s.toks) λb o e=>Wj _ e,Gv (a:=a) hd,⟨_,Ws _ rfl,rfl,by rw [hz];rfl⟩,λb hb=>?_,q⟩
 have eb:b=s.heap.objs.size:=by simpa using hb
 subst eb
 exact I.fpOk (Wu _) (I.hok.fresh (Wu _))
theorem Inv.notFrz (I:Inv X pins σ H s)(e:H a=some (.dK kvs)):∀o u,X.H₀ a≠some (.frz o u):=λo u z=>by
 have:=I.base.frzs a o u z
 rw [e] at this
 cases this
theorem T9 (I:Inv X pins σ H s)(e:H a=some (.dK kvs))(q:∀o,(∀o u,X.H₀ a≠some (.frz o u))->R (Itk a o) (upd H a (.frz o (.dK kvs)))):wpAny (model X.prog X.w) X.A (pyIter (.ref a)) (PIE X pins σ tg R) E s:=by
 obtain⟨o,es,ep,hd,I'⟩:=I.freeze e
 exact GR I' Zg (q o (I.notFrz e))
end
end L2
namespace L2
open PySem PySem.Spec PyProof.Rows
section
variable {prog:Program} {w:World} {A:Around} {E:Value->Shared->Prop} {s:Shared}
end
namespace DP
end DP
section
variable {X:Cx} {pins:List (Addr×Obj)} {σ:St} {A:Around}
end
end L2
namespace KS
open PySem PySem.W PyProof.Rows
section
variable {n:Nat} (hn:0<n)
include hn
end
structure Ord (lt:Nat->Nat->Bool):Prop where
 irr:∀i,lt i i=false
 tr:∀i j k,lt j i=false->lt k j=false->lt k i=false
 as:∀i j,lt i j=true->lt j i=false
section
variable {lt:Nat->Nat->Bool} (O:Ord lt) {p q:Array Nat}
include O
omit O in
omit O in
omit O in
omit O in
end
end KS
namespace L2
open PySem PySem.Spec PyProof.Rows
section
variable {prog:Program} {w:World} {A:Around} {E:Value->Shared->Prop} {s:Shared} {it d:Addr} {es:Array DictEntry} {ep i:Nat}
end
section
variable {X:Cx} {pins:List (Addr×Obj)} {σ:St} {H:Hp} {s:Shared} {a:Addr}
end
end L2
namespace HT
open PySem PySem.Spec PyProof.Rows L2
section
variable {prog:Program} {w:World} {A:Around} {E:Value->Shared->Prop} {s:Shared}
theorem getItem_tuple_all {t sl:Addr}{items:Array Value}{vl vu:Value}{lo hi:Option Int}{Q:Value->Shared->Prop}(ht:IsTup s.heap t items)(hs:s.heap.IsSliceOf sl vl vu .none)(pl:IsPart vl lo)(pu:IsPart vu hi)
  (hw:sIx items.size 0 lo=0/\sIx items.size items.size hi=items.size) (h:Q (.ref t) s):wpAny (model prog w) A (getItem (.ref t) (.ref sl)) Q E s:=by
 obtain⟨os,hos,hcs,hds⟩:=id hs
 have hTs:s.TypeIs (.ref sl) "slice":=⟨os,hos,hcs⟩
 unfold getItem
 try with_reducible refine wpAny_holding ?_
 first|refine W9 (Wm ?_)|skip
 refine W9 (wpAny_sequenceKey ht.typeIs (by decide) ?_)
 refine W9 (V0 (name:=W3 "__getitem__") ht.typeIs WV
  (Vz WV ht.typeIs entry_tuple_getitem ?_ (args_tuple_getitem _ _)))
 show wpAny _ _ (W0h (.ref t) >>= _) _ _ s
 refine W9 (tupleItemsOf_ ht ?_)
 refine W9 (wpAny_typeOf hTs ?_)
 rw [if_pos (by decide)]
 refine W9 (Yx hs pl pu ?_)
 have hyes:(((sIx items.size 0 lo:Nat):Int) == 0&&(1:Int) == 1&&(sIx items.size items.size hi-sIx items.size 0 lo) == items.size)=true:=by
  rw [hw.1,hw.2];simp
 show wpAny _ _ (if (((sIx items.size 0 lo:Nat):Int) == 0&&(1:Int) == 1&&(sIx items.size items.size hi-sIx items.size 0 lo) == items.size)=true then _ else _) _ _ s
 rw [if_pos hyes]
 refine W9 (m:=Builtin.Tuple.tupleIsExact (.ref t)) (W9 (wpAny_typeOf ht.typeIs (Wm ?_)))
 rw [if_pos (by decide)]
 first
  |exact W9 (wpAny_rule (W9 (Wm (Wm ⟨_,rfl,Wm h⟩))))
  |exact W9 (wpAny_rule (Wm ⟨_,rfl,Wm h⟩))
end
end HT
namespace L2
open PySem PySem.Spec PyProof.Rows
section
variable {X:Cx}
def Hd (K:W4):V->Option Int->Option Int->Hp->VK->Prop:=λx lo hi H Q=>∃a xs,x = .ref a/\SqT K H a xs/\
 (HT.sIx xs.length 0 lo=0/\HT.sIx xs.length xs.length hi=xs.length)/\Q (.ref a) H
theorem R9:SlR X (Hd X.K):=by
 intro pins s σ H x v vl vu lo hi sl Q I rx hs pl pu h
 obtain⟨a,xs,rfl,hx,hw,q⟩:=h
 cases rx
 obtain⟨its,r,ht,hz⟩:=I.tuple hx
 have hlen:its.toArray.size=xs.length:=by rw [Wl];exact r.length.symm
 refine⟨"tuple",_,WV.lookup,ht.typeIs,?_⟩
 exact HT.getItem_tuple_all ht hs pl pu (by rw [hlen];exact hw) ⟨.ref a,H,I,rfl,q⟩
end
end L2
namespace L2
open PySem PySem.Spec PyProof.Rows
section
variable {prog:Program} {w:World} {A:Around} {d:Value}
end
end L2
namespace L2
open PySem PySem.Spec PyProof.Rows
section
variable {prog:Program} {w:World} {A:Around} {d:Value}
end
end L2
namespace L2
open PySem PySem.Spec PyProof.Rows
section
variable {prog:Program} {w:World} {A:Around} {J:Nat->Heap->Prop}
end
end L2
namespace L2
open PySem PySem.Spec PyProof.Rows
section
variable {prog:Program} {w:World} {B:Around} {K:Type} [DecidableEq K]
end
end L2
namespace L2
open PySem
def pth (t:SetTable)(h:Int):Nat->SetTable.Probe
 |0=>t.probeStart h
 |k+1=>t.advance (pth t h k)
end L2
namespace L2
open PySem
end L2
namespace L2
open PySem
end L2
namespace L2
open PySem
structure Own (t:SetTable) (hs:List Int) (ow:Array (Option Nat)) (c:Nat):Prop where
 sz:ow.size=t.mask+1
 has:∀k,k<c->∃j:Nat,ow[j]? = some (some k)
 inj:∀(j j' k:Nat),ow[j]? = some (some k)->ow[j']? = some (some k)->j=j'
 path:∀(j k:Nat),ow[j]? = some (some k)->k<c/\∃h,hs[k]? = some h/\∃q,(pth t h q).j=j/\∀q',q'<q->∃k',ow[(pth t h q').j]? = some (some k')
end L2
namespace L2
open PySem
end L2
namespace L2
open PySem PySem.Spec PyProof.Rows
section
variable {prog:Program} {w:World} {h0:Heap} {U:Nat} {K:Type} [DecidableEq K] {A:Around} {E:Value->Shared->Prop} {s:Shared}
end
end L2
namespace L2
open PySem PySem.Spec PyProof.Rows
section
variable {prog:Program} {w:World} {h0:Heap} {U:Nat} {K:Type} [DecidableEq K] {A:Around} {E:Value->Shared->Prop} {s:Shared}
end
end L2
namespace L2
open PySem PySem.Spec PyProof.Rows
section
variable {prog:Program} {w:World} {A:Around} {E:Value->Shared->Prop} {s:Shared}
end
end L2
namespace L2
open PySem PySem.Spec PyProof.Rows
section
variable {prog:Program} {w:World} {A:Around}
end
end L2
namespace DL
open PySem PySem.Spec PyProof.Rows L2
inductive D where
 |non
 |bl (b:Bool)
 |int (i:Int)
 |str (x:Str)
 |tup (xs:List D)
 |ref (n:Nat)
 |scr (ns:List Int)
 deriving Inhabited
inductive Ob where
 |lst (xs:List D)
 |dct (kvs:List (D×D))
 |fdct (kvs:List (D×D))
 |ins (C:Str) (fs:List (Str×D))
 deriving Inhabited
abbrev Sto:=List Ob
abbrev En:=List (Option D)
abbrev M (α:Type):=En->Sto->Option (α×Sto)
inductive Fl where
 |nx|rt (d:D)|bk|ct
abbrev MS:=En->Sto->Option (Fl×En×Sto)
def NW (K:W4)(H:Hp)(a:Addr)(ns:List Int):Prop:=
 (∃o,H a=some (.frz o (.lst (ns.map V.int))))\/
  ∃(o:Obj) (its:Array Value) (n:Nat),K.lookup a=some o/\o.cls = .type "list"/\o.dict=none/\o.data = .seq its n/\its.size≤Wk/\ZQ (ns.map V.int) its.toList
theorem NW.seq {K:W4}{H:Hp}{a:Addr}{ns:List Int}(h:NW K H a ns):SqL K H a (ns.map V.int):=by
 rcases h with ⟨o,h⟩|h
 ·exact .inl (.inr ⟨o,h⟩)
 ·exact .inr h
mutual
def DR (K:W4)(ρ:List Addr)(H:Hp):D->V->Prop
 | .non,v=>v = .non
 | .bl b,v=>v = .bl b
 | .int i,v=>v = .int i
 | .str x,v=>v = .str x
 | .tup ds,v=>∃a xs,v = .ref a/\H a=some (.tup xs)/\DsR K ρ H ds xs
 | .ref n,v=>∃a,ρ[n]? = some a/\v = .ref a
 | .scr ns,v=>∃a,v = .ref a/\NW K H a ns
def DsR (K:W4)(ρ:List Addr)(H:Hp):List D->List V->Prop
 |[],xs=>xs=[]
 |d :: ds,xs=>∃x r,xs=x :: r/\DR K ρ H d x/\DsR K ρ H ds r
end
structure Ext (ρ:List Addr) (H:Hp) (ρ':List Addr) (H':Hp):Prop where
 pre:∀(n:Nat) a,ρ[n]? = some a->ρ'[n]? = some a
 tup:∀a xs,H a=some (.tup xs)->H' a=some (.tup xs)
 frz:∀a o u,H a=some (.frz o u)->H' a=some (.frz o u)
theorem Ext.refl {ρ:List Addr}{H:Hp}:Ext ρ H ρ H:=⟨λ_ _ h=>h,λ_ _ h=>h,λ_ _ _ h=>h⟩
theorem Ext.trans {ρ ρ1 ρ2:List Addr}{H H1 H2:Hp}(a:Ext ρ H ρ1 H1)(b:Ext ρ1 H1 ρ2 H2):Ext ρ H ρ2 H2:=
 ⟨λn x h=>b.pre n x (a.pre n x h),λx xs h=>b.tup x xs (a.tup x xs h),λx o u h=>b.frz x o u (a.frz x o u h)⟩
theorem Ext.new {ρ:List Addr}{H:Hp}{p:Addr}{o:HO}(hp:H p=none):Ext ρ H ρ (upd H p o):=
 ⟨λ_ _ h=>h,λa xs h=>by rw [Zf (Zj h hp)];exact h,λa u xs h=>by rw [Zf (Zj h hp)];exact h⟩
theorem Ext.newRef {ρ:List Addr}{H:Hp}{p:Addr}{o:HO}(hp:H p=none):Ext ρ H (ρ++[p]) (upd H p o):=
 ⟨λn a h=>by rw [WE (Wn.mp h).1];exact h,(Ext.new (ρ:=ρ) hp).tup,(Ext.new (ρ:=ρ) hp).frz⟩
theorem Ext.upd {ρ:List Addr}{H:Hp}{p:Addr}{o o':HO}(hp:H p=some o)(h1:∀xs,o≠.tup xs)(h2:∀ob u,o≠.frz ob u):Ext ρ H ρ (L2.upd H p o'):=
 ⟨λ_ _ h=>h,λa xs h=>by rw [Zf (Jn h hp (Ne.symm (h1 xs)))];exact h,λa ob u h=>by rw [Zf (Jn h hp (Ne.symm (h2 ob u)))];exact h⟩
structure Ext0 (ρ:List Addr) (H:Hp) (ρ':List Addr) (H':Hp):Prop where
 pre:∀(n:Nat) a,ρ[n]? = some a->ρ'[n]? = some a
 tup:∀a xs,H a=some (.tup xs)->H' a=some (.tup xs)
 lst:∀a o xs,H a=some (.frz o (.lst xs))->H' a=some (.frz o (.lst xs))
theorem Ext.weak {ρ ρ':List Addr}{H H':Hp}(e:Ext ρ H ρ' H'):Ext0 ρ H ρ' H':=⟨e.pre,e.tup,λa o xs h=>e.frz a o _ h⟩
section
variable {K:W4} {ρ ρ':List Addr} {H H':Hp}
theorem NW.mono {a:Addr}{ns:List Int}(e:Ext0 ρ H ρ' H')(h:NW K H a ns):NW K H' a ns:=by
 rcases h with ⟨o,h⟩|h
 ·exact .inl ⟨o,e.lst _ _ _ h⟩
 ·exact .inr h
mutual
theorem DR.mono (e:Ext0 ρ H ρ' H'):∀(d:D) (v:V),DR K ρ H d v->DR K ρ' H' d v
 | .non,v,h=>by unfold DR at h ⊢;exact h
 | .bl b,v,h=>by unfold DR at h ⊢;exact h
 | .int i,v,h=>by unfold DR at h ⊢;exact h
 | .str x,v,h=>by unfold DR at h ⊢;exact h
 | .tup ds,v,h=>by
  unfold DR at h ⊢
  obtain⟨a,xs,h1,h2,h3⟩:=h
  exact⟨a,xs,h1,e.tup a xs h2,DsR.mono e ds xs h3⟩
 | .ref n,v,h=>by
  unfold DR at h ⊢
  obtain⟨a,h1,h2⟩:=h
  exact⟨a,e.pre n a h1,h2⟩
 | .scr ns,v,h=>by
  unfold DR at h ⊢
  obtain⟨a,h1,h2⟩:=h
  exact⟨a,h1,h2.mono e⟩
theorem DsR.mono (e:Ext0 ρ H ρ' H'):∀(ds:List D) (xs:List V),DsR K ρ H ds xs->DsR K ρ' H' ds xs
 |[],xs,h=>by unfold DsR at h ⊢;exact h
 |d :: ds,xs,h=>by
  unfold DsR at h ⊢
  obtain⟨x,r,h1,h2,h3⟩:=h
  exact⟨x,r,h1,DR.mono e d x h2,DsR.mono e ds r h3⟩
end
theorem DR.up {d:D}{v:V}(h:DR K ρ H d v)(e:Ext ρ H ρ' H'):DR K ρ' H' d v:=DR.mono e.weak d v h
theorem DsR.up {ds:List D}{xs:List V}(h:DsR K ρ H ds xs)(e:Ext ρ H ρ' H'):DsR K ρ' H' ds xs:=DsR.mono e.weak ds xs h
theorem DsR.nil:DsR K ρ H [] []:=by unfold DsR;rfl
theorem DsR.cons {d:D}{ds:List D}{x:V}{xs:List V}(h:DR K ρ H d x)(t:DsR K ρ H ds xs):DsR K ρ H (d :: ds) (x :: xs):=by
 unfold DsR;exact⟨x,xs,rfl,h,t⟩
theorem DsR.length:∀{ds:List D} {xs:List V},DsR K ρ H ds xs->ds.length=xs.length
 |[],xs,h=>by unfold DsR at h;subst h;rfl
 |d :: ds,xs,h=>by
  unfold DsR at h
  obtain⟨x,r,h1,_,h3⟩:=h
  rw [h1,WP,WP,DsR.length h3]
theorem DsR.get:∀{ds:List D} {xs:List V} {i:Nat} {d:D},DsR K ρ H ds xs->ds[i]? = some d->∃x,xs[i]? = some x/\DR K ρ H d x
 |[],_,_,_,_,e=>by simp at e
 |c :: ds,xs,i,d,h,e=>by
  unfold DsR at h
  obtain⟨x,r,h1,h2,h3⟩:=h
  subst h1
  cases i with
  |zero=>simp at e;subst e;exact⟨x,rfl,h2⟩
  |succ i=>
   obtain⟨y,e1,e2⟩:=DsR.get (i:=i) h3 (by simpa using e)
   exact⟨y,by simpa using e1,e2⟩
theorem DsR.append:∀{ds es:List D} {xs ys:List V},DsR K ρ H ds xs->DsR K ρ H es ys->DsR K ρ H (ds++es) (xs++ys)
 |[],_,xs,_,h,t=>by unfold DsR at h;subst h;exact t
 |d :: ds,_,xs,_,h,t=>by
  unfold DsR at h
  obtain⟨x,r,h1,h2,h3⟩:=h
  subst h1
  exact .cons h2 (DsR.append h3 t)
theorem DsR.drop:∀{ds:List D} {xs:List V} (n:Nat),DsR K ρ H ds xs->DsR K ρ H (ds.drop n) (xs.drop n)
 |[],xs,n,h=>by
  have e:xs=[]:=by unfold DsR at h;exact h
  subst e;simpa using h
 |d :: ds,xs,0,h=>by simpa using h
 |d :: ds,xs,n+1,h=>by
  unfold DsR at h
  obtain⟨x,r,h1,h2,h3⟩:=h
  subst h1
  exact DsR.drop n h3
theorem DsR.take:∀{ds:List D} {xs:List V} (n:Nat),DsR K ρ H ds xs->DsR K ρ H (ds.take n) (xs.take n)
 |[],xs,n,h=>by
  have e:xs=[]:=by unfold DsR at h;exact h
  subst e;simpa using h
 |d :: ds,xs,0,h=>by simpa using DsR.nil
 |d :: ds,xs,n+1,h=>by
  unfold DsR at h
  obtain⟨x,r,h1,h2,h3⟩:=h
  subst h1
  exact .cons h2 (DsR.take n h3)
theorem DsR.ints:∀(ns:List Int),DsR K ρ H (ns.map D.int) (ns.map V.int)
 |[]=>.nil
 |n :: ns=>.cons (by unfold DR;rfl) (DsR.ints ns)
theorem DR.flat_int {i:Int}:DR K ρ H (.int i) (.int i):=by unfold DR;rfl
theorem DR.flat_bl {b:Bool}:DR K ρ H (.bl b) (.bl b):=by unfold DR;rfl
theorem DR.flat_str {x:Str}:DR K ρ H (.str x) (.str x):=by unfold DR;rfl
theorem DR.flat_non:DR K ρ H .non .non:=by unfold DR;rfl
theorem DR.of_int {i:Int}{v:V}(h:DR K ρ H (.int i) v):v = .int i:=by unfold DR at h;exact h
theorem DR.of_bl {b:Bool}{v:V}(h:DR K ρ H (.bl b) v):v = .bl b:=by unfold DR at h;exact h
theorem DR.of_str {x:Str}{v:V}(h:DR K ρ H (.str x) v):v = .str x:=by unfold DR at h;exact h
theorem DR.of_non {v:V}(h:DR K ρ H .non v):v = .non:=by unfold DR at h;exact h
theorem DR.of_tup {ds:List D}{v:V}(h:DR K ρ H (.tup ds) v):∃a xs,v = .ref a/\H a=some (.tup xs)/\DsR K ρ H ds xs:=by unfold DR at h;exact h
theorem DR.tup {ds:List D}{a:Addr}{xs:List V}(h:H a=some (.tup xs))(t:DsR K ρ H ds xs):DR K ρ H (.tup ds) (.ref a):=by unfold DR;exact⟨a,xs,rfl,h,t⟩
theorem DR.of_ref {n:Nat}{v:V}(h:DR K ρ H (.ref n) v):∃a,ρ[n]? = some a/\v = .ref a:=by unfold DR at h;exact h
theorem DR.ref {n:Nat}{a:Addr}(h:ρ[n]? = some a):DR K ρ H (.ref n) (.ref a):=by unfold DR;exact⟨a,h,rfl⟩
theorem DR.of_scr {ns:List Int}{v:V}(h:DR K ρ H (.scr ns) v):∃a,v = .ref a/\NW K H a ns:=by unfold DR at h;exact h
end
def Qu:D->Option Key
 | .int i=>some (.inl i)
 | .str x=>some (.inr x)
 |_=>none
def RN:List D->Option (List Key)
 |[]=>some []
 |d :: ds=>(Qu d).bind λk=>(RN ds).map λks=>k :: ks
def Q9:D->Option (List Key)
 | .tup ds=>RN ds
 |_=>none
def kEq (a b:D):Bool:=match Qu a,Qu b with
 |some x,some y=>decide (x=y)
 |_,_=>match Q9 a,Q9 b with
  |some x,some y=>decide (x=y)
  |_,_=>false
def Gi (kvs:List (D×D))(k:D):Option D:=(kvs.find? λp=>kEq p.1 k).map (·.2)
def HH (kvs:List (D×D))(k v:D):List (D×D):=if (kvs.any λp=>kEq p.1 k)=true then kvs.map (λp=>if kEq p.1 k=true then (p.1,v) else p) else kvs++[(k,v)]
def Ji (kvs:List (D×D))(k:D):Bool:=match Qu k with
 |some _=>kvs.all λp=>(Qu p.1).isSome
 |none=>match Q9 k with
  |some _=>kvs.all λp=>(Q9 p.1).isSome
  |none=>false
def Pj (S:Sto)(n:Nat)(k:D):Option (List (D×D)):=match S[n]? with
 |some (.dct kvs)=>if Ji kvs k=true then some kvs else none
 |some (.fdct kvs)=>if (Qu k).isSome=true then some kvs else none
 |_=>none
def Pb (S:Sto)(n:Nat):Bool:=match S[n]? with
 |some (.dct _)=>true
 |some (.fdct _)=>true
 |_=>false
def ObR (K:W4)(ρ:List Addr)(H:Hp)(a:Addr):Ob->Prop
 | .lst ds=>∃xs,H a=some (.lst xs)/\DsR K ρ H ds xs
 | .dct kvs=>(∃(ks:List Key) (xs:List V),H a=some (.dK (ks.zip xs))/\ks.length=xs.length/\kvs.map (λp=>Qu p.1)=ks.map some/\DsR K ρ H (kvs.map (·.2)) xs)\/
   ∃(ks:List (List Key)) (xs:List V),H a=some (.dT (ks.zip xs))/\ks.length=xs.length/\kvs.map (λp=>Q9 p.1)=ks.map some/\DsR K ρ H (kvs.map (·.2)) xs
 | .fdct kvs=>∃(o:Obj) (ks:List Key) (xs:List V),H a=some (.frz o (.dK (ks.zip xs)))/\ks.length=xs.length/\kvs.map (λp=>Qu p.1)=ks.map some/\DsR K ρ H (kvs.map (·.2)) xs
 | .ins C fs=>∃(Ca dx:Addr) (xs:List V),WC K Wt C=some (some (.ref Ca))/\H a=some (.ins Ca dx ((fs.map (·.1)).zip xs))/\DsR K ρ H (fs.map (·.2)) xs
structure StR (K:W4) (ρ:List Addr) (H:Hp) (S:Sto):Prop where
 len:ρ.length=S.length
 inj:∀(i j:Nat) a,ρ[i]? = some a->ρ[j]? = some a->i=j
 ob:∀(n:Nat) ob,S[n]? = some ob->∃a,ρ[n]? = some a/\ObR K ρ H a ob
structure EnR (K:W4) (ρ:List Addr) (H:Hp) (en:En) (σ:L2.St):Prop where
 len:en.length=σ.length
 get:∀(i:Nat) d,en[i]? = some (some d)->∃x,σ[i]? = some (some x)/\DR K ρ H d x
section
variable {K:W4} {ρ ρ':List Addr} {H H':Hp} {S:Sto} {en:En} {σ:L2.St}
theorem ObR.mono {a:Addr}{ob:Ob}(h:ObR K ρ H a ob)(e:Ext0 ρ H ρ' H')(he:H' a=H a):ObR K ρ' H' a ob:=by
 cases ob with
 |lst ds=>
  obtain⟨xs,h1,h2⟩:=h
  exact⟨xs,he.trans h1,DsR.mono e _ _ h2⟩
 |dct kvs=>
  rcases h with ⟨ks,xs,h1,h2,h3,h4⟩|⟨ks,xs,h1,h2,h3,h4⟩
  ·exact .inl ⟨ks,xs,he.trans h1,h2,h3,DsR.mono e _ _ h4⟩
  ·exact .inr ⟨ks,xs,he.trans h1,h2,h3,DsR.mono e _ _ h4⟩
 |fdct kvs=>
  obtain⟨o,ks,xs,h1,h2,h3,h4⟩:=h
  exact⟨o,ks,xs,he.trans h1,h2,h3,DsR.mono e _ _ h4⟩
 |ins C fs=>
  obtain⟨Ca,dx,xs,h1,h2,h3⟩:=h
  exact⟨Ca,dx,xs,h1,he.trans h2,DsR.mono e _ _ h3⟩
theorem ObR.there {a:Addr}{ob:Ob}(h:ObR K ρ H a ob):∃o,H a=some o:=by
 cases ob with
 |lst ds=>obtain⟨xs,h1,_⟩:=h;exact⟨_,h1⟩
 |dct kvs=>rcases h with ⟨ks,xs,h1,_⟩|⟨ks,xs,h1,_⟩<;>exact⟨_,h1⟩
 |fdct kvs=>obtain⟨o,ks,xs,h1,_⟩:=h;exact⟨_,h1⟩
 |ins C fs=>obtain⟨Ca,dx,xs,_,h1,_⟩:=h;exact⟨_,h1⟩
theorem ObR.tracked {a:Addr}{ob:Ob}(h:ObR K ρ H a ob)(hf:∀kvs,ob≠.fdct kvs):∃o,H a=some o/\(∀xs,o≠.tup xs)/\∀ob u,o≠.frz ob u:=by
 cases ob with
 |lst ds=>
  obtain⟨xs,h1,_⟩:=h
  exact⟨_,h1,λ_ z=>(nomatch z),λ_ _ z=>(nomatch z)⟩
 |dct kvs=>
  rcases h with ⟨ks,xs,h1,_⟩|⟨ks,xs,h1,_⟩
  ·exact⟨_,h1,λ_ z=>(nomatch z),λ_ _ z=>(nomatch z)⟩
  ·exact⟨_,h1,λ_ z=>(nomatch z),λ_ _ z=>(nomatch z)⟩
 |fdct kvs=>exact absurd rfl (hf kvs)
 |ins C fs=>
  obtain⟨Ca,dx,xs,_,h1,_⟩:=h
  exact⟨_,h1,λ_ z=>(nomatch z),λ_ _ z=>(nomatch z)⟩
theorem StR.obj (R:StR K ρ H S){n:Nat}{a:Addr}(h:ρ[n]? = some a):∃ob,S[n]? = some ob/\ObR K ρ H a ob:=by
 have hl:n<S.length:=by rw [←R.len];exact (Wn.mp h).1
 obtain⟨a',h1,h2⟩:=R.ob n S[n] (Wn.mpr ⟨hl,rfl⟩)
 rw [h] at h1;cases h1
 exact⟨S[n],Wn.mpr ⟨hl,rfl⟩,h2⟩
theorem StR.mono (R:StR K ρ H S)(e:Ext0 ρ H ρ H')(he:∀(n:Nat) a,ρ[n]? = some a->H' a=H a):StR K ρ H' S:=
 ⟨R.len,R.inj,λn ob h=>by
  obtain⟨a,h1,h2⟩:=R.ob n ob h
  exact⟨a,h1,h2.mono e (he n a h1)⟩⟩
theorem StR.fresh (R:StR K ρ H S){p:Addr}(hp:H p=none):∀(n:Nat) a,ρ[n]? = some a->a≠p:=λn a h z=>by
 obtain⟨ob,_,h2⟩:=R.obj h
 obtain⟨o,h3⟩:=h2.there
 rw [z,hp] at h3;cases h3
theorem StR.new (R:StR K ρ H S){p:Addr}{o:HO}(hp:H p=none):StR K ρ (upd H p o) S:=
 R.mono (Ext.new hp).weak λn a h=>Zf (R.fresh hp n a h)
theorem StR.push (R:StR K ρ H S){p:Addr}{o:HO}{ob:Ob}(hp:H p=none)(h:ObR K (ρ++[p]) (upd H p o) p ob):StR K (ρ++[p]) (upd H p o) (S++[ob]):=by
 refine⟨by simp [R.len],λi j a h1 h2=>?_,λn ob' e=>?_⟩
 ·have key:∀(i:Nat),(ρ++[p])[i]? = some a->(i<ρ.length/\ρ[i]? = some a)\/(i=ρ.length/\a=p):=λi e=>by
   by_cases hi:i<ρ.length
   ·rw [WE hi] at e;exact .inl ⟨hi,e⟩
   ·rw [WI (VA hi)] at e
    have hl:=(Wn.mp e).1
    simp at hl
    have e0:i-ρ.length=0:=by omega
    rw [e0] at e;simp at e
    exact .inr ⟨by omega,e.symm⟩
  rcases key i h1 with ⟨_,q1⟩|⟨q1,r1⟩<;>rcases key j h2 with ⟨_,q2⟩|⟨q2,r2⟩
  ·exact R.inj i j a q1 q2
  ·exact absurd r2 (R.fresh hp i a q1)
  ·exact absurd r1 (R.fresh hp j a q2)
  ·rw [q1,q2]
 ·by_cases hn:n<S.length
  ·rw [WE hn] at e
   obtain⟨a,h1,h2⟩:=R.ob n ob' e
   exact⟨a,by rw [WE (by rw [R.len];exact hn)];exact h1,h2.mono (Ext.newRef hp).weak (Zf (R.fresh hp n a h1))⟩
  ·rw [WI (VA hn)] at e
   have hl:=(Wn.mp e).1
   simp at hl
   have e0:n-S.length=0:=by omega
   rw [e0] at e;simp at e
   subst e
   refine⟨p,?_,h⟩
   rw [WI (by rw [R.len];omega),R.len,e0]
   rfl
theorem StR.set0 (R:StR K ρ H S){n:Nat}{p:Addr}{o:HO}{ob:Ob}(hn:ρ[n]? = some p)(X:Ext0 ρ H ρ (upd H p o))(h:ObR K ρ (upd H p o) p ob):StR K ρ (upd H p o) (S.set n ob):=by
 obtain⟨ob0,e0,r0⟩:=R.obj hn
 refine⟨by simpa using R.len,R.inj,λm ob' e=>?_⟩
 by_cases hm:m=n
 ·subst hm
  rw [Vk (Wn.mp e0).1] at e
  cases e
  exact⟨p,hn,h⟩
 ·rw [Ve (Ne.symm hm)] at e
  obtain⟨a,h1,h2⟩:=R.ob m ob' e
  refine⟨a,h1,h2.mono X (Zf ?_)⟩
  rintro rfl
  exact hm (R.inj m n _ h1 hn)
theorem StR.set (R:StR K ρ H S){n:Nat}{p:Addr}{o:HO}{ob:Ob}(hn:ρ[n]? = some p)(hf:∀kvs,S[n]?≠some (.fdct kvs))(h:ObR K ρ (upd H p o) p ob):StR K ρ (upd H p o) (S.set n ob)/\Ext ρ H ρ (upd H p o):=by
 obtain⟨ob0,e0,r0⟩:=R.obj hn
 obtain⟨o0,t1,t2,t3⟩:=r0.tracked λkvs z=>hf kvs (by rw [e0,z])
 have X:Ext ρ H ρ (upd H p o):=Ext.upd t1 t2 t3
 exact⟨R.set0 hn X.weak h,X⟩
theorem StR.thaw (R:StR K ρ H S){n:Nat}{a:Addr}{kvs:List (D×D)}(hn:ρ[n]? = some a)(e:S[n]? = some (.fdct kvs)):∃(o:Obj) (tab:List (Key×V)),H a=some (.frz o (.dK tab))/\StR K ρ (upd H a (.dK tab)) (S.set n (.dct kvs))/\Ext0 ρ H ρ (upd H a (.dK tab)):=by
 obtain⟨ob,e1,r⟩:=R.obj hn
 rw [e] at e1
 cases e1
 obtain⟨o,ks,xs,h1,h2,h3,h4⟩:=r
 have X:Ext0 ρ H ρ (upd H a (.dK (ks.zip xs))):=⟨λ_ _ h=>h,λb ys hb=>by rw [Zf (Jn hb h1 (λz=>nomatch z))];exact hb,λb o' ys hb=>by rw [Zf (Jn hb h1 (λz=>by injection z with _ z2;cases z2))];exact hb⟩
 exact⟨o,_,h1,R.set0 hn X (.inl ⟨ks,xs,Zg,h2,h3,DsR.mono X _ _ h4⟩),X⟩
theorem EnR.up0 (E:EnR K ρ H en σ)(e:Ext0 ρ H ρ' H'):EnR K ρ' H' en σ:=⟨E.len,λi d h=>by
 obtain⟨x,h1,h2⟩:=E.get i d h
 exact⟨x,h1,DR.mono e _ _ h2⟩⟩
theorem EnR.up (E:EnR K ρ H en σ)(e:Ext ρ H ρ' H'):EnR K ρ' H' en σ:=⟨E.len,λi d h=>by
 obtain⟨x,h1,h2⟩:=E.get i d h
 exact⟨x,h1,h2.up e⟩⟩
theorem EnR.set (E:EnR K ρ H en σ){i:Nat}{d:D}{x:V}(h:DR K ρ H d x):EnR K ρ H (en.set i (some d)) (σ.set i (some x)):=⟨by simpa using E.len,λj c e=>by
 by_cases hj:j=i
 ·subst hj
  have hl:j<en.length:=by
   have:=(Wn.mp e).1
   simpa using this
  rw [Vk hl] at e
  cases e
  exact⟨x,by rw [Vk (by rw [←E.len];exact hl)],h⟩
 ·rw [Ve (Ne.symm hj)] at e
  obtain⟨y,h1,h2⟩:=E.get j c e
  exact⟨y,by rw [Ve (Ne.symm hj)];exact h1,h2⟩⟩
end
inductive TM (K:W4) (m:M D) (σ:L2.St) (H:Hp) (Q:VK):Prop
 |mk (ρ:List Addr) (en:En) (S:Sto) (v:D) (S':Sto) (E:EnR K ρ H en σ) (R:StR K ρ H S) (e:m en S=some (v,S')) (k:∀x ρ' H',Ext ρ H ρ' H'->StR K ρ' H' S'->DR K ρ' H' v x->Q x H'):TM K m σ H Q
def tM (K:W4)(m:M D):TE:=λσ H Q=>TM K m σ H Q
def tMT (K:W4)(m:M Bool):TT:=λσ H Q=>∃ρ en S b S',EnR K ρ H en σ/\StR K ρ H S/\m en S=some (b,S')/\∀ρ' H',Ext ρ H ρ' H'->StR K ρ' H' S'->Q b H'
inductive TMA (K:W4) (m:M (List D)) (σ:L2.St) (H:Hp) (Q:List V->Hp->Prop):Prop
 |mk (ρ:List Addr) (en:En) (S:Sto) (ds:List D) (S':Sto) (E:EnR K ρ H en σ) (R:StR K ρ H S) (e:m en S=some (ds,S')) (k:∀xs ρ' H',Ext ρ H ρ' H'->StR K ρ' H' S'->DsR K ρ' H' ds xs->Q xs H'):TMA K m σ H Q
def tMA (K:W4)(m:M (List D)):TA:=λσ H Q=>TMA K m σ H Q
def tMQ (K:W4)(m:M (List D)):TE:=λσ H Q=>∃ρ en S ds S',EnR K ρ H en σ/\StR K ρ H S/\m en S=some (ds,S')/\
 ∀a xs ρ' H',Ext ρ H ρ' H'->StR K ρ' H' S'->(SqL K H' a xs\/SqT K H' a xs)->DsR K ρ' H' ds xs->Q (.ref a) H'
def tMS (K:W4)(m:MS):TS:=λD σ H=>∃ρ en S f en' S',EnR K ρ H en σ/\StR K ρ H S/\m en S=some (f,en',S')/\∀ρ' H' σ',Ext ρ H ρ' H'->StR K ρ' H' S'->EnR K ρ' H' en' σ'->
 match f with
 | .nx=>D.nx σ' H'
 | .rt d=>∀x,DR K ρ' H' d x->D.rt x H'
 | .bk=>D.bk σ' H'
 | .ct=>D.ct σ' H'
def rD (K:W4)(g:D->D->Sto->Option (D×Sto)):R2:=λx y H Q=>∃ρ S d1 d2 v S',StR K ρ H S/\DR K ρ H d1 x/\DR K ρ H d2 y/\g d1 d2 S=some (v,S')/\
 ∀z ρ' H',Ext ρ H ρ' H'->StR K ρ' H' S'->DR K ρ' H' v z->Q z H'
def rDs (K:W4)(g:List D->Sto->Option (D×Sto)):List V->Hp->VK->Prop:=λxs H Q=>∃ρ S ds v S',StR K ρ H S/\DsR K ρ H ds xs/\g ds S=some (v,S')/\
 ∀z ρ' H',Ext ρ H ρ' H'->StR K ρ' H' S'->DR K ρ' H' v z->Q z H'
def SE (X:Cx)(e:Expr)(m:M D):Prop:=PE X e (tM X.K m)
def ST (X:Cx)(e:Expr)(m:M Bool):Prop:=PT X e (tMT X.K m)
def SW (X:Cx)(e:Expr)(m:M Bool):Prop:=PW X e (tMT X.K m)
def SA (X:Cx)(es:List Expr)(m:M (List D)):Prop:=PA X es (tMA X.K m)
def SQ (X:Cx)(e:Expr)(m:M (List D)):Prop:=PE X e (tMQ X.K m)
def SS (X:Cx)(st:Stmt)(m:MS):Prop:=PS X st (tMS X.K m)
def SB (X:Cx)(st:List Stmt)(m:MS):Prop:=PSs X st (tMS X.K m)
def OpD (X:Cx)(f:Value->Value->Sem Value)(g:D->D->Sto->Option (D×Sto)):Prop:=OpR X f (rD X.K g)
section
variable {X:Cx} {e a b c:Expr} {es:List Expr} {pos:Pos}
theorem Zw {t t':TE}(h:PE X e t)(i:∀σ H Q,t' σ H Q->t σ H Q):PE X e t':=λpins s σ H Q I q=>h pins s σ H Q I (i σ H Q q)
theorem GN {t t':TT}(h:PT X e t)(i:∀σ H Q,t' σ H Q->t σ H Q):PT X e t':=λpins s σ H Q I q=>h pins s σ H Q I (i σ H Q q)
theorem Ld {t t':TT}(h:PW X e t)(i:∀σ H Q,t' σ H Q->t σ H Q):PW X e t':=λwhole pins s σ H Q I q=>h whole pins s σ H Q I (i σ H Q q)
theorem M4 {t t':TA}(h:PA X es t)(i:∀σ H Q,t' σ H Q->t σ H Q):PA X es t':=λp pins s σ H Q I q=>h p pins s σ H Q I (i σ H Q q)
theorem QA {st:Stmt}{t t':TS}(h:PS X st t)(i:∀D σ H,t' D σ H->t D σ H):PS X st t':=λpins s σ H D I q=>h pins s σ H D I (i D σ H q)
theorem GO {st:List Stmt}{t t':TS}(h:PSs X st t)(i:∀D σ H,t' D σ H->t D σ H):PSs X st t':=λpins s σ H D I q=>h pins s σ H D I (i D σ H q)
theorem YZ {f:Value->Value->Sem Value}{r r':R2}(h:OpR X f r)(i:∀x y H Q,r' x y H Q->r x y H Q):OpR X f r':=λpins s σ H x y v u Q I rx ry q=>h pins s σ H x y v u Q I rx ry (i x y H Q q)
def Z7 (i:Nat):M D:=λen S=>(en[i]?.getD none).map λd=>(d,S)
def Z8 (d:D):M D:=λ_ S=>some (d,S)
theorem L3 {x:Str}(i:Nat)(h:PE X (.Name x pos) (EG i)):SE X (.Name x pos) (Z7 i):=by
 refine Zw h ?_
 rintro σ H Q ⟨ρ,en,S,v,S',E,R,e,k⟩
 have e':en[i]? = some (some v)/\S=S':=by
  unfold Z7 at e
  cases q:en[i]? with
  |none=>rw [q] at e;cases e
  |some o=>
   rw [q] at e
   cases o with
   |none=>cases e
   |some d=>cases e;exact⟨rfl,rfl⟩
 obtain⟨x,h1,h2⟩:=E.get i v e'.1
 exact⟨x,h1,k x ρ H Ext.refl (e'.2 ▸ R) h2⟩
theorem JL {d:D}{v:V}(h:PE X e (tC v))(hd:∀ρ H,DR X.K ρ H d v):SE X e (Z8 d):=by
 refine Zw h ?_
 rintro σ H Q ⟨ρ,en,S,v',S',E,R,e,k⟩
 cases e
 exact k v ρ H Ext.refl R (hd ρ H)
theorem Z5 {i j}:SE X (.Constant (.int i) j pos) (Z8 (.int i)):=JL M3 λ_ _=>.flat_int
theorem Yj {i j}:SE X (.Constant (.bool i) j pos) (Z8 (.bl i)):=JL E7 λ_ _=>.flat_bl
theorem Zi {i j}:SE X (.Constant (.str i) j pos) (Z8 (.str i)):=JL Lo λ_ _=>.flat_str
theorem T5 {j}:SE X (.Constant .none j pos) (Z8 .non):=JL Lr λ_ _=>.flat_non
theorem GJ {x:Str}{i:Int}(hg:Gl X x)(hm:∃t,X.mg x=some (.int i t))(hd:(x == ("__debug__" : Str))=false:=by decide):SE X (.Name x pos) (Z8 (.int i)):=by
 obtain⟨t,hm⟩:=hm
 exact JL (Rt (v:=V.int i) hg hm ⟨t,rfl⟩ hd) λ_ _=>.flat_int
def mOp (g:D->D->Sto->Option (D×Sto))(a b:M D):M D:=λen S=>(a en S).bind λp=>(b en p.2).bind λq=>g p.1 q.1 q.2
theorem Jl {K:W4}{g:D->D->Sto->Option (D×Sto)}{ma mb:M D}{σ:L2.St}{H:Hp}{Q:VK}(h:tM K (mOp g ma mb) σ H Q):tOp (rD K g) (tM K ma) (tM K mb) σ H Q:=by
 obtain⟨ρ,en,S,v,S',E,R,e,k⟩:=h
 unfold mOp at e
 obtain⟨p,e1,e⟩:=W0.mp e
 obtain⟨q,e2,e3⟩:=W0.mp e
 refine⟨ρ,en,S,p.1,p.2,E,R,e1,λx ρ1 H1 X1 R1 d1=>⟨ρ1,en,p.2,q.1,q.2,E.up X1,R1,e2,λy ρ2 H2 X2 R2 d2=>⟨ρ2,q.2,p.1,q.1,v,S',R2,d1.up X2,d2,e3,λz ρ3 H3 X3 R3 d3=>?_⟩⟩⟩
 exact k z ρ3 H3 ((X1.trans X2).trans X3) R3 d3
theorem Zt {op:Operator}{g:D->D->Sto->Option (D×Sto)}{ma mb:M D}(ho:OpD X (binaryOp op) g)(ha:SE X a ma)(hb:SE X b mb):SE X (.BinOp a op b pos) (mOp g ma mb):=Zw (E5 ho ha hb) λ_ _ _=>Jl
theorem YE {op:CmpOp}{g:D->D->Sto->Option (D×Sto)}{ma mb:M D}(ho:OpD X (compareOp op) g)(ha:SE X a ma)(hb:SE X b mb)(hm:behindInMarks op b=false):SE X (.Compare a [op] [b] pos) (mOp g ma mb):=
 Zw (Rv ho ha hb hm) λ_ _ _=>Jl
def mT (m:M D):M Bool:=λen S=>(m en S).bind λp=>match p.1 with | .bl b=>some (b,p.2)|_=>none
theorem RH {m:M D}{en:En}{S S':Sto}{b:Bool}(h:mT m en S=some (b,S')):m en S=some (.bl b,S'):=by
 unfold mT at h
 obtain⟨p,e1,e2⟩:=W0.mp h
 obtain⟨d,S1⟩:=p
 cases d<;>first|cases e2;exact e1|cases e2
theorem Gy {K:W4}{m:M D}{t:TE}(i:∀σ H Q,tM K m σ H Q->t σ H Q){σ:L2.St}{H:Hp}{Q:Bool->Hp->Prop}(h:tMT K (mT m) σ H Q):PR t σ H Q:=by
 obtain⟨ρ,en,S,b,S',E,R,e,k⟩:=h
 refine i σ H _ ⟨ρ,en,S,.bl b,S',E,R,RH e,λx ρ' H' X1 R1 d1=>⟨b,d1.of_bl,k ρ' H' X1 R1⟩⟩
theorem Y1 {op:CmpOp}{g:D->D->Sto->Option (D×Sto)}{ma mb:M D}(ho:OpD X (compareOp op) g)(ha:SE X a ma)(hb:SE X b mb)(hm:behindInMarks op b=false):ST X (.Compare a [op] [b] pos) (mT (mOp g ma mb)):=
 GN (Rh ho ha hb hm) λ_ _ _ h=>Gy (λ_ _ _=>Jl) h
def Ma (g g':D->D->Sto->Option (D×Sto))(a b c:M D):M D:=λen S=>(a en S).bind λp=>(b en p.2).bind λq=>(g p.1 q.1 q.2).bind λr=>match r.1 with
 | .bl true=>(c en r.2).bind λw=>g' q.1 w.1 w.2
 | .bl false=>some (.bl false,r.2)
 |_=>none
def EW (a b:M Bool):M Bool:=λen S=>(a en S).bind λp=>if p.1 then b en p.2 else some (false,p.2)
def mOr (a b:M Bool):M Bool:=λen S=>(a en S).bind λp=>if p.1 then some (true,p.2) else b en p.2
def G2 (a:M Bool):M Bool:=λen S=>(a en S).map λp=>(!p.1,p.2)
theorem Ry {K:W4}{ma mb:M Bool}{σ:L2.St}{H:Hp}{Q:Bool->Hp->Prop}(h:tMT K (mOr ma mb) σ H Q):tOr (tMT K ma) (tMT K mb) σ H Q:=by
 obtain⟨ρ,en,S,v,S',E,R,e,k⟩:=h
 unfold mOr at e
 obtain⟨p,e1,e⟩:=W0.mp e
 refine⟨ρ,en,S,p.1,p.2,E,R,e1,λρ1 H1 X1 R1=>?_⟩
 by_cases hp:p.1=true
 ·rw [if_pos hp] at e ⊢
  cases e
  exact k ρ1 H1 X1 R1
 ·rw [if_neg hp] at e ⊢
  exact⟨ρ1,en,p.2,v,S',E.up X1,R1,e,λρ2 H2 X2 R2=>k ρ2 H2 (X1.trans X2) R2⟩
theorem Q2 {ma:M Bool}(ha:ST X a ma):SW X (.BoolOp .Or [a] pos) ma:=Lc ha
theorem Qw {Qi:List Expr}{ma mb:M Bool}(ha:ST X a ma)(hb:SW X (.BoolOp .Or (b :: Qi) pos) mb):SW X (.BoolOp .Or (a :: b :: Qi) pos) (mOr ma mb):=Ld (AX ha hb) λ_ _ _=>Ry
theorem Nt {m:M Bool}(h:SW X e m):ST X e m:=PW.pt h
theorem Q4 {ma:M Bool}(ha:ST X a ma):ST X (.UnaryOp .Not a pos) (G2 ma):=by
 refine GN (Le ha) ?_
 rintro σ H Q ⟨ρ,en,S,v,S',E,R,e,k⟩
 unfold G2 at e
 obtain⟨p,e1,e2⟩:=Wi.mp e
 cases e2
 exact⟨ρ,en,S,p.1,p.2,E,R,e1,λρ1 H1 X1 R1=>k ρ1 H1 X1 R1⟩
def TU:D->Sto->Option Bool
 | .non,_=>some false
 | .bl b,_=>some b
 | .int i,_=>some (i != 0)
 | .str x,_=>if x.length≤Wk then some ((x.length:Int) != 0) else none
 | .tup ds,_=>some (!ds.isEmpty)
 | .ref n,S=>match S[n]? with
  |some (.lst ds)=>some (!ds.isEmpty)
  |some (.dct kvs)=>some (!kvs.isEmpty)
  |some (.fdct kvs)=>some (!kvs.isEmpty)
  |_=>none
 | .scr ns,_=>some (!ns.isEmpty)
theorem Jc {K:W4}{ρ:List Addr}{H:Hp}{S:Sto}{d:D}{x:V}{b:Bool}(R:StR K ρ H S)(h:DR K ρ H d x)(e:TU d S=some b):Gb K x H b:=by
 cases d with
 |non=>rw [h.of_non];cases e;exact .inl rfl
 |bl t=>rw [h.of_bl];cases e;exact .inl rfl
 |int i=>rw [h.of_int];cases e;exact .inl rfl
 |str y=>
  rw [h.of_str]
  dsimp only [TU] at e
  split at e
  ·cases e;exact .inl ⟨by assumption,rfl⟩
  ·cases e
 |tup ds=>
  obtain⟨a,xs,rfl,h1,h2⟩:=h.of_tup
  cases e
  refine .inl (.inr (.inl ⟨xs,.of h1,?_⟩))
  cases ds<;>cases xs<;>first|rfl|(have:=h2.length;simp at this)
 |ref n=>
  obtain⟨a,h1,rfl⟩:=h.of_ref
  obtain⟨ob,e1,r⟩:=R.obj h1
  dsimp only [TU] at e
  rw [e1] at e
  cases ob with
  |lst ds=>
   cases e
   obtain⟨xs,h2,h3⟩:=r
   refine .inl (.inl ⟨xs,.of h2,?_⟩)
   cases ds<;>cases xs<;>first|rfl|(have:=h3.length;simp at this)
  |dct kvs=>
   cases e
   rcases r with ⟨ks,xs,h2,h3,h4,h5⟩|⟨ks,xs,h2,h3,h4,h5⟩
   ·refine .inl (.inr (.inr ⟨_,h2,?_⟩))
    have l1:=congrArg V7 h4
    rw [Wp,Wp] at l1
    cases kvs<;>cases ks<;>cases xs<;>simp_all
   ·refine .inr (.inl ⟨a,_,rfl,.inl h2,?_⟩)
    have l1:=congrArg V7 h4
    rw [Wp,Wp] at l1
    cases kvs<;>cases ks<;>cases xs<;>simp_all
  |fdct kvs=>
   cases e
   obtain⟨o,ks,xs,h2,h3,h4,h5⟩:=r
   refine .inr (.inr ⟨a,_,rfl,.inr ⟨o,h2⟩,?_⟩)
   have l1:=congrArg V7 h4
   rw [Wp,Wp] at l1
   cases kvs<;>cases ks<;>cases xs<;>simp_all
  |ins C fs=>cases e
 |scr ns=>
  obtain⟨a,rfl,h1⟩:=h.of_scr
  cases e
  refine .inl (.inl ⟨_,h1.seq,?_⟩)
  cases ns<;>rfl
theorem Rx {Qi:List Expr}{ta tb:TE}(ha:PE X a ta)(hb:PE X (.BoolOp .And (b :: Qi) pos) tb):PE X (.BoolOp .And (a :: b :: Qi) pos) (λσ H Q=>ta σ H λx H1=>∃k,Gb X.K x H1 k/\if k=true then tb σ H1 Q else Q x H1):=by
 intro pins s σ H Q I h
 refine BoolOp_and (thn (ha pins s σ H _ I h) λv s1 ⟨x,H1,I1,r1,k,t1,q1⟩=>thn (Jb pins s1 σ H1 x v (λc H2=>H2=H1/\c=k) I1 r1 ⟨k,t1,rfl,rfl⟩) λc s2 ⟨H2,I2,e1,e2⟩=>?_)
 subst e1 e2
 cases c with
 |true=>exact hb pins s2 σ H2 Q I2 q1
 |false=>exact⟨x,H2,I2,r1,q1⟩
theorem Lp {Qi:List Expr}{ta tb:TE}(ha:PE X a ta)(hb:PE X (.BoolOp .Or (b :: Qi) pos) tb):PE X (.BoolOp .Or (a :: b :: Qi) pos) (λσ H Q=>ta σ H λx H1=>∃k,Gb X.K x H1 k/\if k=true then Q x H1 else tb σ H1 Q):=by
 intro pins s σ H Q I h
 refine BoolOp_or (thn (ha pins s σ H _ I h) λv s1 ⟨x,H1,I1,r1,k,t1,q1⟩=>thn (Jb pins s1 σ H1 x v (λc H2=>H2=H1/\c=k) I1 r1 ⟨k,t1,rfl,rfl⟩) λc s2 ⟨H2,I2,e1,e2⟩=>?_)
 subst e1 e2
 cases c with
 |false=>exact hb pins s2 σ H2 Q I2 q1
 |true=>exact⟨x,H2,I2,r1,q1⟩
theorem Rs {ta:TE}(ha:PE X a ta):PE X (.UnaryOp .Not a pos) (λσ H Q=>ta σ H λx H1=>∃k,Gb X.K x H1 k/\Q (.bl (!k)) H1):=by
 intro pins s σ H Q I h
 refine UnaryOp_ (thn (ha pins s σ H _ I h) λv s1 ⟨x,H1,I1,r1,k,t1,q1⟩=>not_of (thn (Jb pins s1 σ H1 x v (λc H2=>H2=H1/\c=k) I1 r1 ⟨k,t1,rfl,rfl⟩) λc s2 ⟨H2,I2,e1,e2⟩=>?_))
 subst e1 e2
 exact⟨.bl (!c),H2,I2,rfl,q1⟩
def T0 (a b:M D):M D:=λen S=>(a en S).bind λp=>(TU p.1 p.2).bind λt=>if t then b en p.2 else some (p.1,p.2)
def vOr (a b:M D):M D:=λen S=>(a en S).bind λp=>(TU p.1 p.2).bind λt=>if t then some (p.1,p.2) else b en p.2
def PC (a:M D):M D:=λen S=>(a en S).bind λp=>(TU p.1 p.2).map λt=>(.bl (!t),p.2)
theorem Qy {op}{m:M D}(h:SE X a m):SE X (.BoolOp op [a] pos) m:=Lq h
theorem YW {Qi:List Expr}{ma mb:M D}(ha:SE X a ma)(hb:SE X (.BoolOp .And (b :: Qi) pos) mb):SE X (.BoolOp .And (a :: b :: Qi) pos) (T0 ma mb):=by
 refine Zw (Rx ha hb) ?_
 rintro σ H Q ⟨ρ,en,S,v,S',E,R,e,k⟩
 unfold T0 at e
 obtain⟨p,e1,e⟩:=W0.mp e
 obtain⟨t,e2,e⟩:=W0.mp e
 refine⟨ρ,en,S,p.1,p.2,E,R,e1,λx ρ1 H1 X1 R1 d1=>⟨t,Jc R1 d1 e2,?_⟩⟩
 cases t with
 |true=>
  rw [if_pos rfl] at e ⊢
  exact⟨ρ1,en,p.2,v,S',E.up X1,R1,e,λy ρ2 H2 X2 R2 d2=>k y ρ2 H2 (X1.trans X2) R2 d2⟩
 |false=>
  rw [if_neg WX] at e ⊢
  cases e
  exact k _ ρ1 H1 X1 R1 d1
theorem AQ {Qi:List Expr}{ma mb:M D}(ha:SE X a ma)(hb:SE X (.BoolOp .Or (b :: Qi) pos) mb):SE X (.BoolOp .Or (a :: b :: Qi) pos) (vOr ma mb):=by
 refine Zw (Lp ha hb) ?_
 rintro σ H Q ⟨ρ,en,S,v,S',E,R,e,k⟩
 unfold vOr at e
 obtain⟨p,e1,e⟩:=W0.mp e
 obtain⟨t,e2,e⟩:=W0.mp e
 refine⟨ρ,en,S,p.1,p.2,E,R,e1,λx ρ1 H1 X1 R1 d1=>⟨t,Jc R1 d1 e2,?_⟩⟩
 cases t with
 |false=>
  rw [if_neg WX] at e ⊢
  exact⟨ρ1,en,p.2,v,S',E.up X1,R1,e,λy ρ2 H2 X2 R2 d2=>k y ρ2 H2 (X1.trans X2) R2 d2⟩
 |true=>
  rw [if_pos rfl] at e ⊢
  cases e
  exact k _ ρ1 H1 X1 R1 d1
theorem L4 {ma:M D}(ha:SE X a ma):SE X (.UnaryOp .Not a pos) (PC ma):=by
 refine Zw (Rs ha) ?_
 rintro σ H Q ⟨ρ,en,S,v,S',E,R,e,k⟩
 unfold PC at e
 obtain⟨p,e1,e⟩:=W0.mp e
 obtain⟨t,e2,e3⟩:=Wi.mp e
 cases e3
 exact⟨ρ,en,S,p.1,p.2,E,R,e1,λx ρ1 H1 X1 R1 d1=>⟨t,Jc R1 d1 e2,k _ ρ1 H1 X1 R1 .flat_bl⟩⟩
def mIf (c:M Bool)(a b:M D):M D:=λen S=>(c en S).bind λp=>if p.1 then a en p.2 else b en p.2
theorem L5 {mc:M Bool}{ma mb:M D}(hc:ST X c mc)(ha:SE X a ma)(hb:SE X b mb):SE X (.IfExp c a b pos) (mIf mc ma mb):=by
 refine Zw (NA hc ha hb) ?_
 rintro σ H Q ⟨ρ,en,S,v,S',E,R,e,k⟩
 unfold mIf at e
 obtain⟨p,e1,e⟩:=W0.mp e
 refine⟨ρ,en,S,p.1,p.2,E,R,e1,λρ1 H1 X1 R1=>?_⟩
 by_cases hp:p.1=true
 ·rw [if_pos hp] at e ⊢
  exact⟨ρ1,en,p.2,v,S',E.up X1,R1,e,λx ρ2 H2 X2 R2=>k x ρ2 H2 (X1.trans X2) R2⟩
 ·rw [if_neg hp] at e ⊢
  exact⟨ρ1,en,p.2,v,S',E.up X1,R1,e,λx ρ2 H2 X2 R2=>k x ρ2 H2 (X1.trans X2) R2⟩
def JT (m:M D):M Bool:=λen S=>(m en S).bind λp=>(TU p.1 p.2).map λb=>(b,p.2)
theorem ZJ {m:M D}(h:SE X a m)(he:∀whole,isTrue a X.env whole=(do let v ←whole;standAt a.pos;holding [v] (truthy v)):=by intro _;rfl):ST X a (JT m):=by
 refine GN (GM h he) ?_
 rintro σ H Q ⟨ρ,en,S,v,S',E,R,e,k⟩
 unfold JT at e
 obtain⟨p,e1,e⟩:=W0.mp e
 obtain⟨b,e2,e3⟩:=Wi.mp e
 cases e3
 exact⟨ρ,en,S,p.1,p.2,E,R,e1,λx ρ1 H1 X1 R1 d1=>⟨v,Jc R1 d1 e2,k ρ1 H1 X1 R1⟩⟩
def Zp:M (List D):=λ_ S=>some ([],S)
def Z1 (a:M D)(r:M (List D)):M (List D):=λen S=>(a en S).bind λp=>(r en p.2).map λq=>(p.1 :: q.1,q.2)
theorem Z6:SA X [] Zp:=by
 refine M4 Y5 ?_
 rintro σ H Q ⟨ρ,en,S,ds,S',E,R,e,k⟩
 cases e
 exact k [] ρ H Ext.refl R .nil
theorem Z0 {ma:M D}{mr:M (List D)}(ha:SE X a ma)(hr:SA X es mr)(hs:Wr (a :: es) X.env=(false,eval a X.env) :: Wr es X.env:=by rfl):SA X (a :: es) (Z1 ma mr):=by
 refine M4 (Zr ha hr hs) ?_
 rintro σ H Q ⟨ρ,en,S,ds,S',E,R,e,k⟩
 unfold Z1 at e
 obtain⟨p,e1,e⟩:=W0.mp e
 obtain⟨q,e2,e3⟩:=Wi.mp e
 cases e3
 refine⟨ρ,en,S,p.1,p.2,E,R,e1,λx ρ1 H1 X1 R1 d1=>⟨ρ1,en,p.2,q.1,q.2,E.up X1,R1,e2,λxs ρ2 H2 X2 R2 d2=>?_⟩⟩
 exact k (x :: xs) ρ2 H2 (X1.trans X2) R2 (.cons (d1.up X2) d2)
def Y8 (m:M (List D)):M D:=λen S=>(m en S).bind λp=>if p.1.length≤Wk then some (.tup p.1,p.2) else none
def Gg (m:M (List D)):M D:=λen S=>(m en S).bind λp=>if p.1.length≤Wk then some (.ref p.2.length,p.2++[.lst p.1]) else none
theorem Zl {k0}{m:M (List D)}(h:SA X es m):SE X (.Tuple es k0 pos) (Y8 m):=by
 refine Zw (M2 h) ?_
 rintro σ H Q ⟨ρ,en,S,v,S',E,R,e,k⟩
 unfold Y8 at e
 obtain⟨p,e1,e⟩:=W0.mp e
 split at e
 ·cases e
  refine⟨ρ,en,S,p.1,p.2,E,R,e1,λxs ρ1 H1 X1 R1 d1=>⟨by rw [←d1.length];assumption,λa ha=>?_⟩⟩
  exact k _ ρ1 _ (X1.trans (Ext.new ha)) (R1.new ha) (.tup Zg (d1.up (Ext.new ha)))
 ·cases e
theorem JK {m:M (List D)}(h:SA X es m):SE X (.List es pos) (Gg m):=by
 refine Zw (Ls h) ?_
 rintro σ H Q ⟨ρ,en,S,v,S',E,R,e,k⟩
 unfold Gg at e
 obtain⟨p,e1,e⟩:=W0.mp e
 split at e
 ·cases e
  refine⟨ρ,en,S,p.1,p.2,E,R,e1,λxs ρ1 H1 X1 R1 d1=>⟨by rw [←d1.length];assumption,λa ha=>?_⟩⟩
  refine k _ (ρ1++[a]) _ (X1.trans (Ext.newRef ha)) (R1.push ha ⟨xs,Zg,d1.up (Ext.newRef ha)⟩) (.ref ?_)
  rw [←R1.len];simp
 ·cases e
end
end DL
namespace DL
open PySem PySem.Spec PyProof.Rows L2
section
variable {K:W4} {ρ:List Addr} {H:Hp}
theorem Be {d:D}{k:Key}{x:V}(e:Qu d=some k)(h:DR K ρ H d x):x=kV k:=by
 cases d with
 |int i=>cases e;exact h.of_int
 |str z=>cases e;exact h.of_str
 |_=>cases e
theorem Bb:∀{ds:List D} {ks:List Key} {xs:List V},RN ds=some ks->DsR K ρ H ds xs->xs=ks.map kV
 |[],_,xs,e,h=>by
  cases e
  unfold DsR at h
  exact h
 |d :: ds,ks,xs,e,h=>by
  obtain⟨k,e1,e⟩:=W0.mp e
  obtain⟨ks',e2,e3⟩:=Wi.mp e
  subst e3
  unfold DsR at h
  obtain⟨x,r,rfl,h1,h2⟩:=h
  rw [W5,Be e1 h1,Bb e2 h2]
theorem RM {d:D}{ks:List Key}{x:V}(e:Q9 d=some ks)(h:DR K ρ H d x):∃b,x = .ref b/\H b=some (.tup (ks.map kV)):=by
 cases d with
 |tup ds=>
  obtain⟨a,xs,rfl,h1,h2⟩:=h.of_tup
  rw [Bb e h2] at h1
  exact⟨a,rfl,h1⟩
 |_=>cases e
theorem QZ {d:D}{k:Key}(e:Qu d=some k):Q9 d=none:=by
 cases d<;>first|rfl|cases e
theorem Eu {a b:D}{x y:Key}(ea:Qu a=some x)(eb:Qu b=some y):kEq a b=decide (x=y):=by
 unfold kEq
 rw [ea,eb]
theorem Et {a b:D}{x y:List Key}(ea:Q9 a=some x)(eb:Q9 b=some y):kEq a b=decide (x=y):=by
 have na:Qu a=none:=by
  cases h:Qu a with
  |none=>rfl
  |some k=>rw [QZ h] at ea;cases ea
 unfold kEq
 rw [na,ea,eb]
theorem Je {κ:Type}[DecidableEq κ](f:D->Option κ){k:D}{k':κ}(hk:∀a x,f a=some x->kEq a k=decide (x=k')):∀{kvs:List (D×D)} {ks:List κ} {xs:List V},kvs.map (λp=>f p.1)=ks.map some->DsR K ρ H (kvs.map (·.2)) xs->
  (∀v,Gi kvs k=some v->∃x,Go (ks.zip xs) k'=some x/\DR K ρ H v x)/\(Gi kvs k=none->Go (ks.zip xs) k'=none)
 |[],ks,xs,e,h=>by
  cases ks with
  |nil=>exact⟨λv z=>(by cases z),λ_=>rfl⟩
  |cons _ _=>cases e
 |p :: kvs,ks,xs,e,h=>by
  cases ks with
  |nil=>cases e
  |cons k0 ks=>
   rw [W5,W5] at e
   injection e with e1 e2
   rw [W5] at h
   unfold DsR at h
   obtain⟨x,r,rfl,h1,h2⟩:=h
   have ih:=Je f hk e2 h2
   have hq:=hk p.1 k0 e1
   rw [Vq]
   by_cases hc:k0=k'
   ·have hp:kEq p.1 k=true:=by rw [hq];exact decide_eq_true hc
    have hd:Gi (p :: kvs) k=some p.2:=by simp [Gi,Vj,hp]
    rw [hd,J9 (p:=(k0,x)) hc]
    exact⟨λv z=>by cases z;exact⟨x,rfl,h1⟩,λz=>by cases z⟩
   ·have hp:kEq p.1 k=false:=by rw [hq];exact decide_eq_false hc
    have hd:Gi (p :: kvs) k=Gi kvs k:=by simp [Gi,Vj,hp]
    rw [hd,Ja (p:=(k0,x)) hc]
    exact ih
theorem Cm {k:D}{k':Key}(h:Qu k=some k'):∀a x,Qu a=some x->kEq a k=decide (x=k'):=λ_ _ e=>Eu e h
theorem HE {k:D}{k':List Key}(h:Q9 k=some k'):∀a x,Q9 a=some x->kEq a k=decide (x=k'):=λ_ _ e=>Et e h
theorem UX {α:Type}{f:D->Option α}{kvs:List (D×D)}{β:Type}{g:D->Option β}{ks:List β}(e:kvs.map (λp=>g p.1)=ks.map some)(h:(kvs.all λp=>(f p.1).isSome)=true)(hd:∀d x,g d=some x->f d=none):kvs=[]:=by
 cases kvs with
 |nil=>rfl
 |cons p r=>
  cases ks with
  |nil=>cases e
  |cons k ks=>
   rw [W5,W5] at e
   injection e with e1 _
   rw [VU,hd _ _ e1] at h
   simp at h
theorem QY {d:D}{k:List Key}(e:Q9 d=some k):Qu d=none:=by
 cases d<;>first|rfl|cases e
theorem NT {S:Sto}{n:Nat}{a:Addr}{kvs:List (D×D)}{k:D}{y:V}(R:StR K ρ H S)(ha:ρ[n]? = some a)(e:S[n]? = some (.dct kvs))(hs:Ji kvs k=true)(hk:DR K ρ H k y) :
  (∀v,Gi kvs k=some v->∃x,UY H a y (some x)/\DR K ρ H v x)/\(Gi kvs k=none->UY H a y none):=by
 obtain⟨ob,e1,r⟩:=R.obj ha
 rw [e] at e1
 cases e1
 unfold Ji at hs
 cases h1:Qu k with
 |some k'=>
  rw [h1] at hs
  have ey:=Be h1 hk
  rcases r with ⟨ks,xs,q1,q2,q3,q4⟩|⟨ks,xs,q1,q2,q3,q4⟩
  ·obtain⟨g1,g2⟩:=Je Qu (Cm h1) q3 q4
   refine⟨λv hv=>?_,λhv=>?_⟩
   ·obtain⟨x,x1,x2⟩:=g1 v hv
    exact⟨x,.inl (.inl ⟨_,k',.inl q1,ey,x1.symm⟩),x2⟩
   ·exact .inl (.inl ⟨_,k',.inl q1,ey,(g2 hv).symm⟩)
  ·have hn:=UX q3 hs (λ_ _=>QY)
   subst hn
   cases ks with
   |nil=>exact⟨λv hv=>(by cases hv),λ_=>.inr (.inr ⟨q1,k',ey,rfl⟩)⟩
   |cons _ _=>cases q3
 |none=>
  rw [h1] at hs
  cases h2:Q9 k with
  |none=>rw [h2] at hs;cases hs
  |some k'=>
   rw [h2] at hs
   obtain⟨b,ey,eb⟩:=RM h2 hk
   rcases r with ⟨ks,xs,q1,q2,q3,q4⟩|⟨ks,xs,q1,q2,q3,q4⟩
   ·have hn:=UX q3 hs (λ_ _=>QZ)
    subst hn
    cases ks with
    |nil=>exact⟨λv hv=>(by cases hv),λ_=>.inr (.inl ⟨q1,k',b,ey,eb,rfl⟩)⟩
    |cons _ _=>cases q3
   ·obtain⟨g1,g2⟩:=Je Q9 (HE h2) q3 q4
    refine⟨λv hv=>?_,λhv=>?_⟩
    ·obtain⟨x,x1,x2⟩:=g1 v hv
     exact⟨x,.inl (.inr ⟨_,k',b,.inl q1,ey,eb,x1.symm⟩),x2⟩
    ·exact .inl (.inr ⟨_,k',b,.inl q1,ey,eb,(g2 hv).symm⟩)
theorem Pi {S:Sto}{n:Nat}{a:Addr}{kvs:List (D×D)}{k:D}{y:V}(R:StR K ρ H S)(ha:ρ[n]? = some a)(e:Pj S n k=some kvs)(hk:DR K ρ H k y) :
  (∀v,Gi kvs k=some v->∃x,UY H a y (some x)/\DR K ρ H v x)/\(Gi kvs k=none->UY H a y none):=by
 unfold Pj at e
 split at e
 ·rename_i kvs' hn
  split at e
  ·rename_i hs
   cases e
   exact NT R ha hn hs hk
  ·cases e
 ·rename_i kvs' hn
  split at e
  ·rename_i hs
   cases e
   obtain⟨ob,e1,r⟩:=R.obj ha
   rw [hn] at e1
   cases e1
   obtain⟨o,ks,xs,q1,q2,q3,q4⟩:=r
   obtain⟨k',h1⟩:=W0o.mp hs
   have ey:=Be h1 hk
   obtain⟨g1,g2⟩:=Je Qu (Cm h1) q3 q4
   refine⟨λv hv=>?_,λhv=>?_⟩
   ·obtain⟨x,x1,x2⟩:=g1 v hv
    exact⟨x,.inl (.inl ⟨_,k',.inr ⟨o,q1⟩,ey,x1.symm⟩),x2⟩
   ·exact .inl (.inl ⟨_,k',.inr ⟨o,q1⟩,ey,(g2 hv).symm⟩)
  ·cases e
 ·cases e
theorem FH {S:Sto}{n:Nat}{a:Addr}(R:StR K ρ H S)(ha:ρ[n]? = some a)(e:Pb S n=true):IsD H a:=by
 unfold Pb at e
 obtain⟨ob,e1,r⟩:=R.obj ha
 rw [e1] at e
 cases ob with
 |dct kvs=>
  rcases r with ⟨ks,xs,q,_⟩|⟨ks,xs,q,_⟩
  ·exact .inl ⟨_,.inl q⟩
  ·exact .inr ⟨_,.inl q⟩
 |fdct kvs=>
  obtain⟨o,ks,xs,q,_⟩:=r
  exact .inl ⟨_,.inr ⟨o,q⟩⟩
 |_=>cases e
end
end DL
namespace DL
open PySem PySem.Spec PyProof.Rows L2
mutual
def eqD:D->D->Bool
 | .non,b=>match b with | .non=>true|_=>false
 | .bl a,b=>match b with | .bl c=>a == c | .int c=>(if a then 1 else 0) == c|_=>false
 | .int a,b=>match b with | .bl c=>a == (if c then 1 else 0) | .int c=>a == c|_=>false
 | .str a,b=>match b with | .str c=>a == c|_=>false
 | .tup as,b=>match b with | .tup bs=>eqDs as bs|_=>false
 | .ref _,_=>false
 | .scr _,_=>false
def eqDs:List D->List D->Bool
 |[],b=>match b with|[]=>true|_ :: _=>false
 |a :: as,b=>match b with|[]=>false|b :: bs=>eqD a b&&eqDs as bs
end
def pln:Nat->D->Bool
 |_,.non=>true
 |_,.bl _=>true
 |_,.int _=>true
 |_,.str _=>true
 |0,.tup _=>false
 |n+1,.tup ds=>ds.all (pln n)
 |_,.ref _=>false
 |_,.scr _=>false
theorem UP (as bs:List D):eqD (.tup as) (.tup bs)=eqDs as bs:=by unfold eqD;rfl
theorem YN:∀(as bs:List D),eqDs as bs=((WY (min as.length bs.length)).all (λj=>eqD (as.getD j .non) (bs.getD j .non))&&as.length == bs.length)
 |[],[]=>by simp [eqDs]
 |[],_ :: _=>by simp [eqDs]
 |_ :: _,[]=>by simp [eqDs]
 |a :: as,b :: bs=>by
  unfold eqDs
  dsimp only
  rw [YN as bs,WP,WP,Nat.succ_min_succ,List.range_succ_eq_map,VU,List.all_map]
  have h1:((as.length+1) == (bs.length+1))=(as.length == bs.length):=by
   rw [VV];simp
  rw [h1,Bool.and_assoc]
  rfl
mutual
theorem Tw:∀(n:Nat) (d:D),pln n d=true->eqD d d=true
 |_,.non,_=>by unfold eqD;rfl
 |_,.bl b,_=>by unfold eqD;simp
 |_,.int i,_=>by unfold eqD;simp
 |_,.str x,_=>by unfold eqD;simp
 |0,.tup _,h=>by cases h
 |n+1,.tup ds,h=>by unfold eqD;exact eqDs_refl n ds (by unfold pln at h;exact h)
 |n,.ref _,h=>by cases n<;>cases h
 |n,.scr _,h=>by cases n<;>cases h
theorem eqDs_refl:∀(n:Nat) (ds:List D),ds.all (pln n)=true->eqDs ds ds=true
 |_,[],_=>by unfold eqDs;rfl
 |n,d :: ds,h=>by
  rw [VU,WU] at h
  unfold eqDs
  dsimp only
  rw [Tw n d h.1,eqDs_refl n ds h.2];rfl
end
section
variable {K:W4} {ρ ρ':List Addr} {H:Hp}
mutual
theorem DR.one:∀(n:Nat) (d d':D) (x:V),pln n d=true->pln n d'=true->DR K ρ H d x->DR K ρ' H d' x->d=d'
 |n,d,d',x,p,p',h,h'=>by
  cases d with
  |non=>
   rw [h.of_non] at h'
   cases d' with
   |non=>rfl
   |bl _=>cases h'.of_bl
   |int _=>cases h'.of_int
   |str _=>cases h'.of_str
   |tup _=>obtain⟨_,_,z,_⟩:=h'.of_tup;cases z
   |ref _=>cases n<;>cases p'
   |scr _=>cases n<;>cases p'
  |bl b=>
   rw [h.of_bl] at h'
   cases d' with
   |non=>cases h'.of_non
   |bl _=>cases h'.of_bl;rfl
   |int _=>cases h'.of_int
   |str _=>cases h'.of_str
   |tup _=>obtain⟨_,_,z,_⟩:=h'.of_tup;cases z
   |ref _=>cases n<;>cases p'
   |scr _=>cases n<;>cases p'
  |int b=>
   rw [h.of_int] at h'
   cases d' with
   |non=>cases h'.of_non
   |bl _=>cases h'.of_bl
   |int _=>cases h'.of_int;rfl
   |str _=>cases h'.of_str
   |tup _=>obtain⟨_,_,z,_⟩:=h'.of_tup;cases z
   |ref _=>cases n<;>cases p'
   |scr _=>cases n<;>cases p'
  |str b=>
   rw [h.of_str] at h'
   cases d' with
   |non=>cases h'.of_non
   |bl _=>cases h'.of_bl
   |int _=>cases h'.of_int
   |str _=>cases h'.of_str;rfl
   |tup _=>obtain⟨_,_,z,_⟩:=h'.of_tup;cases z
   |ref _=>cases n<;>cases p'
   |scr _=>cases n<;>cases p'
  |tup ds=>
   obtain⟨a,xs,rfl,h1,h2⟩:=h.of_tup
   cases d' with
   |non=>cases h'.of_non
   |bl _=>cases h'.of_bl
   |int _=>cases h'.of_int
   |str _=>cases h'.of_str
   |tup es=>
    obtain⟨a',xs',z,h3,h4⟩:=h'.of_tup
    cases z
    rw [h1] at h3
    cases h3
    cases n with
    |zero=>cases p
    |succ n=>
     unfold pln at p p'
     rw [DsR.one n ds es xs p p' h2 h4]
   |ref _=>cases n<;>cases p'
   |scr _=>cases n<;>cases p'
  |ref _=>cases n<;>cases p
  |scr _=>cases n<;>cases p
termination_by n=>(n,0)
theorem DsR.one:∀(n:Nat) (ds ds':List D) (xs:List V),ds.all (pln n)=true->ds'.all (pln n)=true->DsR K ρ H ds xs->DsR K ρ' H ds' xs->ds=ds'
 |n,[],ds',xs,_,_,h,h'=>by
  unfold DsR at h
  subst h
  cases ds' with
  |nil=>rfl
  |cons _ _=>unfold DsR at h';obtain⟨_,_,z,_⟩:=h';cases z
 |n,d :: ds,ds',xs,p,p',h,h'=>by
  unfold DsR at h
  obtain⟨x,r,rfl,h1,h2⟩:=h
  cases ds' with
  |nil=>unfold DsR at h';cases h'
  |cons d' ds'=>
   unfold DsR at h'
   obtain⟨x',r',z,h3,h4⟩:=h'
   cases z
   rw [VU,WU] at p p'
   rw [DR.one n d d' x p.1 p'.1 h1 h3,DsR.one n ds ds' r p.2 p'.2 h2 h4]
termination_by n ds=>(n,ds.length+1)
end
end
section
variable {X:Cx} {pins:List (Addr×Obj)} {σ:L2.St} {H:Hp} {s:Shared} {ρ:List Addr} (I:Inv X pins σ H s)
theorem YF {A:Around}:A.in1.units=A.units+1:=rfl
include I in
theorem Tx:∀(n:Nat) {A:Around} {d1 d2:D} {x y:V} {u v:Value},A.units+n<cLine->pln n d1=true->pln n d2=true->DR X.K ρ H d1 x->DR X.K ρ H d2 y->ZS x u->ZS y v->WK A s u v (eqD d1 d2):=by
 intro n A d1 d2 x y u v hu p1 p2 h1 h2 ru rv
 cases d1 with
 |non=>
  rw [h1.of_non] at ru
  cases ru
  cases d2 with
  |non=>rw [h2.of_non] at rv;cases rv;exact WK.same _
  |bl c=>rw [h2.of_bl] at rv;cases rv;exact WK.none_bool c
  |int c=>rw [h2.of_int] at rv;obtain⟨t',rfl⟩:=rv;exact WK.none_int c t'
  |str c=>rw [h2.of_str] at rv;obtain⟨t',rfl⟩:=rv;exact WK.none_str c t'
  |tup bs=>
   obtain⟨b,ys,rfl,b1,b2⟩:=h2.of_tup
   cases rv
   obtain⟨its,_,pl,_⟩:=I.tuple (.of b1)
   exact WK.none_tuple pl (by omega)
  |ref _=>cases n<;>cases p2
  |scr _=>cases n<;>cases p2
 |bl a=>
  rw [h1.of_bl] at ru
  cases ru
  cases d2 with
  |non=>rw [h2.of_non] at rv;cases rv;exact WK.bool_none a
  |bl c=>rw [h2.of_bl] at rv;cases rv;exact WK.bool_bool a c
  |int c=>rw [h2.of_int] at rv;obtain⟨t',rfl⟩:=rv;exact WK.bool_int a c t'
  |str c=>rw [h2.of_str] at rv;obtain⟨t',rfl⟩:=rv;exact WK.bool_str a c t'
  |tup bs=>
   obtain⟨b,ys,rfl,b1,b2⟩:=h2.of_tup
   cases rv
   obtain⟨its,_,pl,_⟩:=I.tuple (.of b1)
   exact WK.bool_tuple a pl (by omega)
  |ref _=>cases n<;>cases p2
  |scr _=>cases n<;>cases p2
 |int a=>
  rw [h1.of_int] at ru
  obtain⟨t,rfl⟩:=ru
  cases d2 with
  |non=>rw [h2.of_non] at rv;cases rv;exact WK.int_none a t
  |bl c=>rw [h2.of_bl] at rv;cases rv;exact WK.int_bool a t c
  |int c=>rw [h2.of_int] at rv;obtain⟨t',rfl⟩:=rv;exact WK.int_int a t c t'
  |str c=>rw [h2.of_str] at rv;obtain⟨t',rfl⟩:=rv;exact WK.int_str a t c t'
  |tup bs=>
   obtain⟨b,ys,rfl,b1,b2⟩:=h2.of_tup
   cases rv
   obtain⟨its,_,pl,_⟩:=I.tuple (.of b1)
   exact WK.int_tuple a t pl (by omega)
  |ref _=>cases n<;>cases p2
  |scr _=>cases n<;>cases p2
 |str a=>
  rw [h1.of_str] at ru
  obtain⟨t,rfl⟩:=ru
  cases d2 with
  |non=>rw [h2.of_non] at rv;cases rv;exact WK.str_none a t
  |bl c=>rw [h2.of_bl] at rv;cases rv;exact WK.str_bool a t c
  |int c=>rw [h2.of_int] at rv;obtain⟨t',rfl⟩:=rv;exact WK.str_int a t c t'
  |str c=>rw [h2.of_str] at rv;obtain⟨t',rfl⟩:=rv;exact WK.str_str a t c t'
  |tup bs=>
   obtain⟨b,ys,rfl,b1,b2⟩:=h2.of_tup
   cases rv
   obtain⟨its,_,pl,_⟩:=I.tuple (.of b1)
   exact WK.str_tuple a t pl (by omega)
  |ref _=>cases n<;>cases p2
  |scr _=>cases n<;>cases p2
 |tup as=>
  obtain⟨a,xs,rfl,a1,a2⟩:=h1.of_tup
  cases ru
  cases d2 with
  |non=>
   rw [h2.of_non] at rv
   cases rv
   obtain⟨its,_,pl,_⟩:=I.tuple (.of a1)
   exact WK.tuple_none pl (by omega)
  |bl c=>
   rw [h2.of_bl] at rv
   cases rv
   obtain⟨its,_,pl,_⟩:=I.tuple (.of a1)
   exact WK.tuple_bool c pl (by omega)
  |int c=>
   rw [h2.of_int] at rv
   obtain⟨t',rfl⟩:=rv
   obtain⟨its,_,pl,_⟩:=I.tuple (.of a1)
   exact WK.tuple_int c t' pl (by omega)
  |str c=>
   rw [h2.of_str] at rv
   obtain⟨t',rfl⟩:=rv
   obtain⟨its,_,pl,_⟩:=I.tuple (.of a1)
   exact WK.tuple_str c t' pl (by omega)
  |tup bs=>
   obtain⟨b,ys,rfl,b1,b2⟩:=h2.of_tup
   cases rv
   cases n with
   |zero=>cases p1
   |succ n=>
    unfold pln at p1 p2
    obtain⟨its,r1,pl1,_⟩:=I.tuple (.of a1)
    obtain⟨its2,r2,pl2,_⟩:=I.tuple (.of b1)
    have he:eqD (.tup as) (.tup bs)=((WY (min its.toArray.size its2.toArray.size)).all (λj=>eqD (as.getD j .non) (bs.getD j .non))&&its.toArray.size == its2.toArray.size):=by
     rw [UP,YN,Wl,Wl,←r1.length,←r2.length,←a2.length,←b2.length]
    have hj:∀j (h1:j<its.toArray.size) (h2:j<its2.toArray.size),WK A.in1 s its.toArray[j] its2.toArray[j] (eqD (as.getD j .non) (bs.getD j .non)):=by
     intro j j1 j2
     rw [Wl] at j1 j2
     have l1:j<as.length:=by rw [a2.length,r1.length];exact j1
     have l2:j<bs.length:=by rw [b2.length,r2.length];exact j2
     have g1:as[j]? = some (as.getD j .non):=by simp [Vv,Wq l1]
     have g2:bs[j]? = some (bs.getD j .non):=by simp [Vv,Wq l2]
     obtain⟨x,x1,x2⟩:=a2.get g1
     obtain⟨y,y1,y2⟩:=b2.get g2
     obtain⟨u,u1,u2⟩:=r1.get x1
     obtain⟨v,v1,v2⟩:=r2.get y1
     have e1:its.toArray[j]=u:=by rw [Wq j1] at u1;simpa using u1
     have e2:its2.toArray[j]=v:=by rw [Wq j2] at v1;simpa using v1
     rw [e1,e2]
     exact Tx n (by rw [YF];omega) (Vd.mp p1 _ (V9 g1)) (Vd.mp p2 _ (V9 g2)) x2 y2 u2 v2
    by_cases hab:a=b
    ·subst hab
     have hsame:as=bs:=by
      rw [a1] at b1
      cases b1
      exact DsR.one n as bs xs p1 p2 a2 b2
     rw [hsame,Tw (n+1) (.tup bs) (by unfold pln;exact p2)]
     exact WK.same _
    ·rw [he]
     exact WK.of_refs hab (WR.tuples pl1 pl2 (by omega) hj)
  |ref _=>cases n<;>cases p2
  |scr _=>cases n<;>cases p2
 |ref _=>cases n<;>cases p1
 |scr _=>cases n<;>cases p1
include I in
theorem Lb:∀(n:Nat) {A:Around} {d1 d2:D} {x y:V} {u v:Value},A.units+n<cLine->pln n d1=true->pln n d2=true->DR X.K ρ H d1 x->DR X.K ρ H d2 y->ZS x u->ZS y v->WR A s u v (eqD d1 d2):=by
 intro n A d1 d2 x y u v hu p1 p2 h1 h2 ru rv
 cases d1 with
 |non=>
  rw [h1.of_non] at ru
  cases ru
  cases d2 with
  |non=>rw [h2.of_non] at rv;cases rv;exact WR.none_none
  |bl c=>rw [h2.of_bl] at rv;cases rv;exact WR.none_bool c
  |int c=>rw [h2.of_int] at rv;obtain⟨t',rfl⟩:=rv;exact WR.none_int c t'
  |str c=>rw [h2.of_str] at rv;obtain⟨t',rfl⟩:=rv;exact WR.none_str c t'
  |tup bs=>
   obtain⟨b,ys,rfl,b1,b2⟩:=h2.of_tup
   cases rv
   obtain⟨its,_,pl,_⟩:=I.tuple (.of b1)
   exact WR.none_tuple pl (by omega)
  |ref _=>cases n<;>cases p2
  |scr _=>cases n<;>cases p2
 |bl a=>
  rw [h1.of_bl] at ru
  cases ru
  cases d2 with
  |non=>rw [h2.of_non] at rv;cases rv;exact WR.bool_none a
  |bl c=>rw [h2.of_bl] at rv;cases rv;exact WR.bool_bool a c
  |int c=>rw [h2.of_int] at rv;obtain⟨t',rfl⟩:=rv;exact WR.bool_int a c t'
  |str c=>rw [h2.of_str] at rv;obtain⟨t',rfl⟩:=rv;exact WR.bool_str a c t'
  |tup bs=>
   obtain⟨b,ys,rfl,b1,b2⟩:=h2.of_tup
   cases rv
   obtain⟨its,_,pl,_⟩:=I.tuple (.of b1)
   exact WR.bool_tuple a pl (by omega)
  |ref _=>cases n<;>cases p2
  |scr _=>cases n<;>cases p2
 |int a=>
  rw [h1.of_int] at ru
  obtain⟨t,rfl⟩:=ru
  cases d2 with
  |non=>rw [h2.of_non] at rv;cases rv;exact WR.int_none a t
  |bl c=>rw [h2.of_bl] at rv;cases rv;exact WR.int_bool a t c
  |int c=>rw [h2.of_int] at rv;obtain⟨t',rfl⟩:=rv;exact WR.int_int a t c t'
  |str c=>rw [h2.of_str] at rv;obtain⟨t',rfl⟩:=rv;exact WR.int_str a t c t'
  |tup bs=>
   obtain⟨b,ys,rfl,b1,b2⟩:=h2.of_tup
   cases rv
   obtain⟨its,_,pl,_⟩:=I.tuple (.of b1)
   exact WR.int_tuple a t pl (by omega)
  |ref _=>cases n<;>cases p2
  |scr _=>cases n<;>cases p2
 |str a=>
  rw [h1.of_str] at ru
  obtain⟨t,rfl⟩:=ru
  cases d2 with
  |non=>rw [h2.of_non] at rv;cases rv;exact WR.str_none a t
  |bl c=>rw [h2.of_bl] at rv;cases rv;exact WR.str_bool a t c
  |int c=>rw [h2.of_int] at rv;obtain⟨t',rfl⟩:=rv;exact WR.str_int a t c t'
  |str c=>rw [h2.of_str] at rv;obtain⟨t',rfl⟩:=rv;exact WR.str_str a t c t'
  |tup bs=>
   obtain⟨b,ys,rfl,b1,b2⟩:=h2.of_tup
   cases rv
   obtain⟨its,_,pl,_⟩:=I.tuple (.of b1)
   exact WR.str_tuple a t pl (by omega)
  |ref _=>cases n<;>cases p2
  |scr _=>cases n<;>cases p2
 |tup as=>
  obtain⟨a,xs,rfl,a1,a2⟩:=h1.of_tup
  cases ru
  cases d2 with
  |non=>
   rw [h2.of_non] at rv
   cases rv
   obtain⟨its,_,pl,_⟩:=I.tuple (.of a1)
   exact WR.tuple_none pl (by omega)
  |bl c=>
   rw [h2.of_bl] at rv
   cases rv
   obtain⟨its,_,pl,_⟩:=I.tuple (.of a1)
   exact WR.tuple_bool c pl (by omega)
  |int c=>
   rw [h2.of_int] at rv
   obtain⟨t',rfl⟩:=rv
   obtain⟨its,_,pl,_⟩:=I.tuple (.of a1)
   exact WR.tuple_int c t' pl (by omega)
  |str c=>
   rw [h2.of_str] at rv
   obtain⟨t',rfl⟩:=rv
   obtain⟨its,_,pl,_⟩:=I.tuple (.of a1)
   exact WR.tuple_str c t' pl (by omega)
  |tup bs=>
   obtain⟨b,ys,rfl,b1,b2⟩:=h2.of_tup
   cases rv
   cases n with
   |zero=>cases p1
   |succ n=>
    unfold pln at p1 p2
    obtain⟨its,r1,pl1,_⟩:=I.tuple (.of a1)
    obtain⟨its2,r2,pl2,_⟩:=I.tuple (.of b1)
    have he:eqD (.tup as) (.tup bs)=((WY (min its.toArray.size its2.toArray.size)).all (λj=>eqD (as.getD j .non) (bs.getD j .non))&&its.toArray.size == its2.toArray.size):=by
     rw [UP,YN,Wl,Wl,←r1.length,←r2.length,←a2.length,←b2.length]
    have hj:∀j (h1:j<its.toArray.size) (h2:j<its2.toArray.size),WK A.in1 s its.toArray[j] its2.toArray[j] (eqD (as.getD j .non) (bs.getD j .non)):=by
     intro j j1 j2
     rw [Wl] at j1 j2
     have l1:j<as.length:=by rw [a2.length,r1.length];exact j1
     have l2:j<bs.length:=by rw [b2.length,r2.length];exact j2
     have g1:as[j]? = some (as.getD j .non):=by simp [Vv,Wq l1]
     have g2:bs[j]? = some (bs.getD j .non):=by simp [Vv,Wq l2]
     obtain⟨x,x1,x2⟩:=a2.get g1
     obtain⟨y,y1,y2⟩:=b2.get g2
     obtain⟨u,u1,u2⟩:=r1.get x1
     obtain⟨v,v1,v2⟩:=r2.get y1
     have e1:its.toArray[j]=u:=by rw [Wq j1] at u1;simpa using u1
     have e2:its2.toArray[j]=v:=by rw [Wq j2] at v1;simpa using v1
     rw [e1,e2]
     exact Tx I n (by rw [YF];omega) (Vd.mp p1 _ (V9 g1)) (Vd.mp p2 _ (V9 g2)) x2 y2 u2 v2
    rw [he]
    exact WR.tuples pl1 pl2 (by omega) hj
  |ref _=>cases n<;>cases p2
  |scr _=>cases n<;>cases p2
 |ref _=>cases n<;>cases p1
 |scr _=>cases n<;>cases p1
include I in
theorem La:∀(n:Nat) {A:Around} {d1 d2:D} {x y:V} {u v:Value},A.units+n<cLine->pln n d1=true->pln n d2=true->DR X.K ρ H d1 x->DR X.K ρ H d2 y->ZS x u->ZS y v->WH A s u v (!eqD d1 d2):=by
 intro n A d1 d2 x y u v hu p1 p2 h1 h2 ru rv
 cases d1 with
 |non=>
  rw [h1.of_non] at ru
  cases ru
  cases d2 with
  |non=>rw [h2.of_non] at rv;cases rv;exact WH.none_none
  |bl c=>rw [h2.of_bl] at rv;cases rv;exact WH.none_bool c
  |int c=>rw [h2.of_int] at rv;obtain⟨t',rfl⟩:=rv;exact WH.none_int c t'
  |str c=>rw [h2.of_str] at rv;obtain⟨t',rfl⟩:=rv;exact WH.none_str c t'
  |tup bs=>
   obtain⟨b,ys,rfl,b1,b2⟩:=h2.of_tup
   cases rv
   obtain⟨its,_,pl,_⟩:=I.tuple (.of b1)
   exact WH.none_tuple pl (by omega)
  |ref _=>cases n<;>cases p2
  |scr _=>cases n<;>cases p2
 |bl a=>
  rw [h1.of_bl] at ru
  cases ru
  cases d2 with
  |non=>rw [h2.of_non] at rv;cases rv;exact WH.bool_none a
  |bl c=>rw [h2.of_bl] at rv;cases rv;exact WH.bool_bool a c
  |int c=>rw [h2.of_int] at rv;obtain⟨t',rfl⟩:=rv;exact WH.bool_int a c t'
  |str c=>rw [h2.of_str] at rv;obtain⟨t',rfl⟩:=rv;exact WH.bool_str a c t'
  |tup bs=>
   obtain⟨b,ys,rfl,b1,b2⟩:=h2.of_tup
   cases rv
   obtain⟨its,_,pl,_⟩:=I.tuple (.of b1)
   exact WH.bool_tuple a pl (by omega)
  |ref _=>cases n<;>cases p2
  |scr _=>cases n<;>cases p2
 |int a=>
  rw [h1.of_int] at ru
  obtain⟨t,rfl⟩:=ru
  cases d2 with
  |non=>rw [h2.of_non] at rv;cases rv;exact WH.int_none a t
  |bl c=>rw [h2.of_bl] at rv;cases rv;exact WH.int_bool a t c
  |int c=>rw [h2.of_int] at rv;obtain⟨t',rfl⟩:=rv;exact WH.int_int a t c t'
  |str c=>rw [h2.of_str] at rv;obtain⟨t',rfl⟩:=rv;exact WH.int_str a t c t'
  |tup bs=>
   obtain⟨b,ys,rfl,b1,b2⟩:=h2.of_tup
   cases rv
   obtain⟨its,_,pl,_⟩:=I.tuple (.of b1)
   exact WH.int_tuple a t pl (by omega)
  |ref _=>cases n<;>cases p2
  |scr _=>cases n<;>cases p2
 |str a=>
  rw [h1.of_str] at ru
  obtain⟨t,rfl⟩:=ru
  cases d2 with
  |non=>rw [h2.of_non] at rv;cases rv;exact WH.str_none a t
  |bl c=>rw [h2.of_bl] at rv;cases rv;exact WH.str_bool a t c
  |int c=>rw [h2.of_int] at rv;obtain⟨t',rfl⟩:=rv;exact WH.str_int a t c t'
  |str c=>rw [h2.of_str] at rv;obtain⟨t',rfl⟩:=rv;exact WH.str_str a t c t'
  |tup bs=>
   obtain⟨b,ys,rfl,b1,b2⟩:=h2.of_tup
   cases rv
   obtain⟨its,_,pl,_⟩:=I.tuple (.of b1)
   exact WH.str_tuple a t pl (by omega)
  |ref _=>cases n<;>cases p2
  |scr _=>cases n<;>cases p2
 |tup as=>
  obtain⟨a,xs,rfl,a1,a2⟩:=h1.of_tup
  cases ru
  cases d2 with
  |non=>
   rw [h2.of_non] at rv
   cases rv
   obtain⟨its,_,pl,_⟩:=I.tuple (.of a1)
   exact WH.tuple_none pl (by omega)
  |bl c=>
   rw [h2.of_bl] at rv
   cases rv
   obtain⟨its,_,pl,_⟩:=I.tuple (.of a1)
   exact WH.tuple_bool c pl (by omega)
  |int c=>
   rw [h2.of_int] at rv
   obtain⟨t',rfl⟩:=rv
   obtain⟨its,_,pl,_⟩:=I.tuple (.of a1)
   exact WH.tuple_int c t' pl (by omega)
  |str c=>
   rw [h2.of_str] at rv
   obtain⟨t',rfl⟩:=rv
   obtain⟨its,_,pl,_⟩:=I.tuple (.of a1)
   exact WH.tuple_str c t' pl (by omega)
  |tup bs=>
   obtain⟨b,ys,rfl,b1,b2⟩:=h2.of_tup
   cases rv
   cases n with
   |zero=>cases p1
   |succ n=>
    unfold pln at p1 p2
    obtain⟨its,r1,pl1,_⟩:=I.tuple (.of a1)
    obtain⟨its2,r2,pl2,_⟩:=I.tuple (.of b1)
    have he:eqD (.tup as) (.tup bs)=((WY (min its.toArray.size its2.toArray.size)).all (λj=>eqD (as.getD j .non) (bs.getD j .non))&&its.toArray.size == its2.toArray.size):=by
     rw [UP,YN,Wl,Wl,←r1.length,←r2.length,←a2.length,←b2.length]
    have hj:∀j (h1:j<its.toArray.size) (h2:j<its2.toArray.size),WK A.in1 s its.toArray[j] its2.toArray[j] (eqD (as.getD j .non) (bs.getD j .non)):=by
     intro j j1 j2
     rw [Wl] at j1 j2
     have l1:j<as.length:=by rw [a2.length,r1.length];exact j1
     have l2:j<bs.length:=by rw [b2.length,r2.length];exact j2
     have g1:as[j]? = some (as.getD j .non):=by simp [Vv,Wq l1]
     have g2:bs[j]? = some (bs.getD j .non):=by simp [Vv,Wq l2]
     obtain⟨x,x1,x2⟩:=a2.get g1
     obtain⟨y,y1,y2⟩:=b2.get g2
     obtain⟨u,u1,u2⟩:=r1.get x1
     obtain⟨v,v1,v2⟩:=r2.get y1
     have e1:its.toArray[j]=u:=by rw [Wq j1] at u1;simpa using u1
     have e2:its2.toArray[j]=v:=by rw [Wq j2] at v1;simpa using v1
     rw [e1,e2]
     exact Tx I n (by rw [YF];omega) (Vd.mp p1 _ (V9 g1)) (Vd.mp p2 _ (V9 g2)) x2 y2 u2 v2
    rw [he]
    exact WH.tuples pl1 pl2 (by omega) hj
  |ref _=>cases n<;>cases p2
  |scr _=>cases n<;>cases p2
 |ref _=>cases n<;>cases p1
 |scr _=>cases n<;>cases p1
end
end DL
namespace DL
open PySem PySem.Spec PyProof.Rows L2
def AB (A:Around)(s:Shared)(y x:Value)(b:Bool):Prop:=
 ∀(prog:Program) (w:World) (E:Value->Shared->Prop) (Q:Value->Shared->Prop),Q (.bool b) s->wpAny (model prog w) A (compareOp .Lt y x) Q E s
def G4:List (Bool×Bool)->Bool->Bool
 |[],fin=>fin
 |p :: r,fin=>if p.1=true then G4 r fin else p.2
section
open PySem.SeqAt
open PySem.AutoSeq1 (wpAny_loadPart')
open PySem.MeetsSeq PySem.MeetsSeq2 PySem.MeetsSeq3
def TK (A:Around)(s:Shared)(q:Value×Value)(p:Bool×Bool):Prop:=EqAt A s q.1 q.2 p.1/\(p.1=false->AB A s q.1 q.2 p.2)
theorem TR (l b:Addr)(items items2:Array Value)(n n2:Nat)(dd dd2:Option Addr)(sl sl2:Array (Option Value))(ps:List (Bool×Bool)) :
  Meets (Builtin.«tuple.__lt__» ⟨[.ref l,.ref b],[]⟩)
   (λA R s=>s.heap.get? l=some { cls:=.type "tuple",dict:=dd,data:=.seq items n,slots:=sl }/\s.heap.get? b=some { cls:=.type "tuple",dict:=dd2,data:=.seq items2 n2,slots:=sl2 }/\
    Paired (TK A.in1 s) (items.toList.zip items2.toList) ps/\R (.ok (.ret (.bool (G4 ps (decide (items.size<items2.size)))))) s):=
 .of_wp λprog w A R s h=>by
  obtain⟨hp,g,d,tk,os⟩:=s;obtain⟨hl,hb,hps,h⟩:=h
  have f2:=AutoSeq1.sub_tuple_tuple
  wp_walk using wpAny_loadPart' hl,wpAny_loadPart' hb,wpAny_forIn_list _ (λQi b s'=>b.1=none/\s'=⟨hp,g,d,tk,os⟩/\∃(qs:List (Bool×Bool)),Paired (TK A.in1 ⟨hp,g,d,tk,os⟩) Qi qs/\
   R (.ok (.ret (.bool (G4 qs (decide (items.size<items2.size)))))) ⟨hp,g,d,tk,os⟩) _
  case turn=>
   rintro⟨y,x⟩ Qi b s' ⟨hb',rfl,qs,hq,hR⟩
   cases hq with
   | @cons _ p _ qs' hp1 hq'=>
    obtain⟨he,hlt⟩:=hp1
    refine W9 (he prog w _ _ ?_)
    obtain⟨pe,pl⟩:=p
    unfold G4 at hR
    cases pe with
    |true=>
     rw [if_pos rfl] at hR
     wp_walk
     exact⟨rfl,rfl,qs',hq',hR⟩
    |false=>
     rw [if_neg WX] at hR
     have hri:∀(E:Value->Shared->Prop) (Q:Value->Shared->Prop),Q (.bool pl) ⟨hp,g,d,tk,os⟩->wpAny (model prog w) A.in1 (richCompare .Lt y x) Q E ⟨hp,g,d,tk,os⟩:=hlt rfl prog w
     wp_walk using hri
     exact⟨_,rfl,by simpa using hR⟩
  case fin=>
   rintro⟨b1,b2⟩ s' ⟨hb',rfl,qs,hq,hR⟩
   simp only at hb'
   subst hb'
   cases hq
   unfold G4 at hR
   wp_walk
   exact⟨_,rfl,by simpa [Builtin.Tuple.tupleCompareSizes] using hR⟩
  case h=>
   exact⟨rfl,rfl,ps,hps,h⟩
theorem AB.tuples {A:Around}{s:Shared}{l b:Addr}{items items2:Array Value}{ps:List (Bool×Bool)}(hl:s.heap.IsTuple l items)(hb:s.heap.IsTuple b items2)(hu:A.units<cLine)(hp:Paired (TK A.in1 s) (items.toList.zip items2.toList) ps) :
  AB A s (.ref l) (.ref b) (G4 ps (decide (items.size<items2.size))):=λprog w E Q h=>by
 obtain⟨⟨cls,dd,data,sl⟩,ho,hc,n,hd⟩:=id hl
 obtain⟨⟨cls2,dd2,data2,sl2⟩,ho2,hc2,n2,hd2⟩:=id hb
 simp only at hc hd hc2 hd2
 subst hc hd hc2 hd2
 exact richCompare_meets_room (op:=.Lt) ⟨_,ho,rfl⟩ ⟨_,ho2,rfl⟩ PySem.F.slot_tuple_lt PySem.F.entry_tuple_lt (PySem.F.args_tuple_lt_2 _ _) (TR l b items items2 n n2 dd dd2 sl sl2 ps)
  ⟨ho,ho2,hp,show Value.bool (G4 ps (decide (items.size<items2.size)))≠Value.notImplemented/\Q (.bool (G4 ps (decide (items.size<items2.size)))) s from ⟨(λx=>nomatch x),h⟩⟩ hu
end
mutual
def ltD:D->D->Bool
 | .int a,b=>match b with | .int c=>decide (a<c)|_=>false
 | .str a,b=>match b with | .str c=>decide (a.cps.toList<c.cps.toList)|_=>false
 | .tup as,b=>match b with | .tup bs=>ltDs as bs|_=>false
 | .non,_=>false
 | .bl _,_=>false
 | .ref _,_=>false
 | .scr _,_=>false
def ltDs:List D->List D->Bool
 |[],b=>match b with|[]=>false|_ :: _=>true
 |a :: as,b=>match b with|[]=>false|b :: bs=>if eqD a b=true then ltDs as bs else ltD a b
end
def US:Nat->D->D->Bool
 |_,.int _,.int _=>true
 |_,.str _,.str _=>true
 |n+1,.tup as,.tup bs=>(as.zip bs).all λp=>US n p.1 p.2
 |_,_,_=>false
theorem RJ (as bs:List D):ltD (.tup as) (.tup bs)=ltDs as bs:=by unfold ltD;rfl
theorem B7 (a b:D)(as bs:List D):ltDs (a :: as) (b :: bs)=if eqD a b=true then ltDs as bs else ltD a b:=by conv=>lhs;unfold ltDs
theorem Tb:∀(as bs:List D),ltDs as bs=G4 ((as.zip bs).map λp=>(eqD p.1 p.2,ltD p.1 p.2)) (decide (as.length<bs.length))
 |[],[]=>by simp [ltDs,G4]
 |[],_ :: _=>by simp [ltDs,G4]
 |_ :: _,[]=>by simp [ltDs,G4]
 |a :: as,b :: bs=>by
  rw [B7,Tb as bs,Vq,W5,WP,WP]
  conv=>rhs;unfold G4
  have:decide (as.length+1<bs.length+1)=decide (as.length<bs.length):=by
   rw [VV];simp
  rw [this]
section
variable {X:Cx} {pins:List (Addr×Obj)} {σ:L2.St} {H:Hp} {s:Shared} {ρ:List Addr} (I:Inv X pins σ H s)
include I in
theorem LU:∀(n:Nat) {A:Around} {d1 d2:D} {x y:V} {u v:Value},A.units+n<cLine->US n d1 d2=true->pln n d1=true->pln n d2=true->DR X.K ρ H d1 x->DR X.K ρ H d2 y->ZS x u->ZS y v->AB A s u v (ltD d1 d2):=by
 intro n
 induction n with
 |zero=>
  intro A d1 d2 x y u v hu hc p1 p2 h1 h2 ru rv
  cases d1 with
  |int a=>
   cases d2 with
   |int c=>
    rw [h1.of_int] at ru;rw [h2.of_int] at rv
    obtain⟨t,rfl⟩:=ru;obtain⟨t',rfl⟩:=rv
    exact λprog w E Q h=>lt_int (by unfold ltD at h;exact h)
   |_=>cases hc
  |str a=>
   cases d2 with
   |str c=>
    rw [h1.of_str] at ru;rw [h2.of_str] at rv
    obtain⟨t,rfl⟩:=ru;obtain⟨t',rfl⟩:=rv
    exact λprog w E Q h=>PySem.P.lt_str (by unfold ltD at h;exact h)
   |_=>cases hc
  |tup _=>cases p1
  |_=>cases hc
 |succ n ih=>
  intro A d1 d2 x y u v hu hc p1 p2 h1 h2 ru rv
  cases d1 with
  |int a=>
   cases d2 with
   |int c=>
    rw [h1.of_int] at ru;rw [h2.of_int] at rv
    obtain⟨t,rfl⟩:=ru;obtain⟨t',rfl⟩:=rv
    exact λprog w E Q h=>lt_int (by unfold ltD at h;exact h)
   |_=>cases hc
  |str a=>
   cases d2 with
   |str c=>
    rw [h1.of_str] at ru;rw [h2.of_str] at rv
    obtain⟨t,rfl⟩:=ru;obtain⟨t',rfl⟩:=rv
    exact λprog w E Q h=>PySem.P.lt_str (by unfold ltD at h;exact h)
   |_=>cases hc
  |tup as=>
   cases d2 with
   |tup bs=>
    obtain⟨a,xs,rfl,a1,a2⟩:=h1.of_tup
    obtain⟨b,ys,rfl,b1,b2⟩:=h2.of_tup
    cases ru
    cases rv
    unfold pln at p1 p2
    unfold US at hc
    obtain⟨its,r1,pl1,_⟩:=I.tuple (.of a1)
    obtain⟨its2,r2,pl2,_⟩:=I.tuple (.of b1)
    have key:∀{as bs:List D} {xs ys:List V} {its its2:List Value},as.all (pln n)=true->bs.all (pln n)=true->((as.zip bs).all λp=>US n p.1 p.2)=true->DsR X.K ρ H as xs->DsR X.K ρ H bs ys->ZQ xs its->ZQ ys its2->
      Paired (TK A.in1 s) (its.zip its2) ((as.zip bs).map λp=>(eqD p.1 p.2,ltD p.1 p.2)):=by
     intro as
     induction as with
     |nil=>
      intro bs xs ys its its2 _ _ _ q1 _ q3 _
      unfold DsR at q1
      subst q1
      cases q3
      exact .nil
     |cons d as ih2=>
      intro bs xs ys its its2 z1 z2 z3 q1 q2 q3 q4
      unfold DsR at q1
      obtain⟨x,r,rfl,h1,h2⟩:=q1
      cases q3 with
      |cons r1 r2=>
       cases bs with
       |nil=>
        unfold DsR at q2
        subst q2
        cases q4
        exact .nil
       |cons e bs=>
        unfold DsR at q2
        obtain⟨y,r',rfl,h3,h4⟩:=q2
        cases q4 with
        |cons r3 r4=>
         rw [VU,WU] at z1 z2
         rw [Vq,VU,WU] at z3
         rw [Vq,Vq,W5]
         refine .cons ⟨Tx I n (by rw [YF];omega) z1.1 z2.1 h1 h3 r1 r3,λ_=>ih (by rw [YF];omega) z3.1 z1.1 z2.1 h1 h3 r1 r3⟩ (ih2 z1.2 z2.2 z3.2 h2 h4 r2 r4)
    have hl:=AB.tuples (A:=A) pl1 pl2 (by omega) (key p1 p2 hc a2 b2 r1 r2)
    rw [RJ,Tb,a2.length,b2.length,r1.length,r2.length]
    simpa using hl
   |_=>cases hc
  |_=>cases hc
end
end DL
namespace DL
open PySem L2
def Cl (x:D):List D->List D
 |[]=>[x]
 |y :: r=>if ltD y x=true then y :: Cl x r else x :: y :: r
def GE:List D->List D
 |[]=>[]
 |x :: r=>Cl x (GE r)
end DL
namespace DL
open PySem PySem.Spec PyProof.Rows L2
section
variable {X:Cx} {e a b c:Expr} {es:List Expr} {pos:Pos} {st:Stmt} {Qi:List Stmt}
def mNx:MS:=λen S=>some (.nx,en,S)
def Yn (a b:MS):MS:=λen S=>(a en S).bind λp=>match p.1 with | .nx=>b p.2.1 p.2.2|f=>some (f,p.2.1,p.2.2)
theorem Yg:SB X [] mNx:=by
 refine GO Rj ?_
 rintro D σ H ⟨ρ,en,S,f,en',S',E,R,e,k⟩
 cases e
 exact k ρ H σ Ext.refl R E
theorem Zk {m:MS}(h:SS X st m):SB X [st] m:=Ri h
theorem Zd {m n:MS}(h:SS X st m)(t:SB X Qi n):SB X (st :: Qi) (Yn m n):=by
 refine GO (Nw h t) ?_
 rintro D σ H ⟨ρ,en,S,f,en',S',E,R,e,k⟩
 unfold Yn at e
 obtain⟨p,e1,e⟩:=W0.mp e
 obtain⟨fa,en1,S1⟩:=p
 refine⟨ρ,en,S,fa,en1,S1,E,R,e1,λρ1 H1 σ1 X1 R1 E1=>?_⟩
 cases fa with
 |nx=>exact⟨ρ1,en1,S1,f,en',S',E1,R1,e,λρ2 H2 σ2 X2 R2 E2=>k ρ2 H2 σ2 (X1.trans X2) R2 E2⟩
 |rt d=>cases e;exact k ρ1 H1 σ1 X1 R1 E1
 |bk=>cases e;exact k ρ1 H1 σ1 X1 R1 E1
 |ct=>cases e;exact k ρ1 H1 σ1 X1 R1 E1
def YX (m:M D):MS:=λen S=>(m en S).map λp=>(.rt p.1,en,p.2)
theorem Zv {m:M D}(h:SE X e m):SS X (.Return (some e) pos) (YX m):=by
 refine QA (Lg h) ?_
 rintro D σ H ⟨ρ,en,S,f,en',S',E,R,e,k⟩
 unfold YX at e
 obtain⟨p,e1,e2⟩:=Wi.mp e
 cases e2
 exact⟨ρ,en,S,p.1,p.2,E,R,e1,λx ρ1 H1 X1 R1 d1=>k ρ1 H1 σ X1 R1 (E.up X1) x d1⟩
def El:MS:=λen S=>some (.rt .non,en,S)
def mBk:MS:=λen S=>some (.bk,en,S)
def mCt:MS:=λen S=>some (.ct,en,S)
def G3 (m:M D):MS:=λen S=>(m en S).map λp=>(.nx,en,p.2)
theorem GC {m:M D}(h:SE X e m)(hs:swapsWith e none pos.line X.env=pure false:=by rfl):SS X (.Expr e pos) (G3 m):=by
 refine QA (Rl h hs) ?_
 rintro D σ H ⟨ρ,en,S,f,en',S',E,R,e,k⟩
 unfold G3 at e
 obtain⟨p,e1,e2⟩:=Wi.mp e
 cases e2
 exact⟨ρ,en,S,p.1,p.2,E,R,e1,λx ρ1 H1 X1 R1 d1=>k ρ1 H1 σ X1 R1 (E.up X1)⟩
def QS (c:M Bool)(a b:MS):MS:=λen S=>(c en S).bind λp=>if p.1 then a en p.2 else b en p.2
theorem YO {c:Expr}{A B:List Stmt}{mc:M Bool}{ma mb:MS}(hc:ST X c mc)(ha:SB X A ma)(hb:SB X B mb):SS X (.If c A B pos) (QS mc ma mb):=by
 refine QA (AY hc ha hb) ?_
 rintro D σ H ⟨ρ,en,S,f,en',S',E,R,e,k⟩
 unfold QS at e
 obtain⟨p,e1,e⟩:=W0.mp e
 refine⟨ρ,en,S,p.1,p.2,E,R,e1,λρ1 H1 X1 R1=>?_⟩
 by_cases hp:p.1=true
 ·rw [if_pos hp] at e ⊢
  exact⟨ρ1,en,p.2,f,en',S',E.up X1,R1,e,λρ2 H2 σ2 X2 R2 E2=>k ρ2 H2 σ2 (X1.trans X2) R2 E2⟩
 ·rw [if_neg hp] at e ⊢
  exact⟨ρ1,en,p.2,f,en',S',E.up X1,R1,e,λρ2 H2 σ2 X2 R2 E2=>k ρ2 H2 σ2 (X1.trans X2) R2 E2⟩
def GD (K:W4)(g:TG)(gd:D->En->Option En):Prop:=
 ∀ρ H en σ d v en',EnR K ρ H en σ->DR K ρ H d v->gd d en=some en'->∃σ',EnR K ρ H en' σ'/\∀Q:L2.St->Hp->Prop,Q σ' H->g v σ H Q
def GsD (K:W4)(g:TGs)(gd:List D->En->Option En):Prop:=
 ∀ρ H en σ ds vs en',EnR K ρ H en σ->DsR K ρ H ds vs->gd ds en=some en'->∃σ',EnR K ρ H en' σ'/\∀Q:L2.St->Hp->Prop,Q σ' H->g vs σ H Q
def gN (i:Nat):D->En->Option En:=λd en=>some (en.set i (some d))
def UM:List D->En->Option En:=λds en=>match ds with|[]=>some en|_=>none
def Yy (g:D->En->Option En)(r:List D->En->Option En):List D->En->Option En:=λds en=>match ds with|[]=>none|d :: ds=>(g d en).bind (r ds)
def gT (n:Nat)(gs:List D->En->Option En):D->En->Option En:=λd en=>match d with | .tup ds=>if ds.length=n then gs ds en else none|_=>none
theorem ZH {K:W4}{i:Nat}:GD K (Ub i) (gN i):=by
 intro ρ H en σ d v en' E h e
 cases e
 exact⟨_,E.set h,λQ q=>q⟩
theorem UL {K:W4}:GsD K A0 UM:=by
 intro ρ H en σ ds vs en' E h e
 cases ds with
 |nil=>
  cases e
  have hv:vs=[]:=by unfold DsR at h;exact h
  exact⟨σ,E,λQ q=>⟨hv,q⟩⟩
 |cons d ds=>cases e
theorem YM {K:W4}{t:TG}{u:TGs}{g:D->En->Option En}{r:List D->En->Option En}(h1:GD K t g)(h2:GsD K u r):GsD K (BO t u) (Yy g r):=by
 intro ρ H en σ ds vs en' E h e
 cases ds with
 |nil=>cases e
 |cons d ds=>
  obtain⟨en1,e1,e2⟩:=W0.mp e
  unfold DsR at h
  obtain⟨x,xs,rfl,d1,d2⟩:=h
  obtain⟨σ1,E1,k1⟩:=h1 ρ H en σ d x en1 E d1 e1
  obtain⟨σ2,E2,k2⟩:=h2 ρ H en1 σ1 ds xs en' E1 d2 e2
  exact⟨σ2,E2,λQ q=>⟨x,xs,rfl,k1 _ (k2 Q q)⟩⟩
theorem BL {K:W4}{n:Nat}{t:TGs}{gs:List D->En->Option En}(h:GsD K t gs):GD K (Ey K n t) (gT n gs):=by
 intro ρ H en σ d v en' E hd e
 cases d with
 |tup ds=>
  obtain⟨a,xs,rfl,h1,h2⟩:=hd.of_tup
  dsimp only [gT] at e
  split at e
  ·obtain⟨σ',E',k⟩:=h ρ H en σ ds xs en' E h2 e
   exact⟨σ',E',λQ q=>⟨a,xs,rfl,.of h1,by rw [←h2.length];assumption,k Q q⟩⟩
  ·cases e
 |_=>cases e
def YK (m:M D)(g:D->En->Option En):MS:=λen S=>(m en S).bind λp=>(g p.1 en).map λen'=>(.nx,en',p.2)
theorem TJ {K:W4}{m:M D}{g:TG}{gd:D->En->Option En}(hg:GD K g gd){D:Ends}{σ:L2.St}{H:Hp}(h:tMS K (YK m gd) D σ H):AE (tM K m) g D σ H:=by
 obtain⟨ρ,en,S,f,en',S',E,R,e,k⟩:=h
 unfold YK at e
 obtain⟨p,e1,e⟩:=W0.mp e
 obtain⟨en1,e2,e3⟩:=Wi.mp e
 cases e3
 refine⟨ρ,en,S,p.1,p.2,E,R,e1,λx ρ1 H1 X1 R1 d1=>?_⟩
 obtain⟨σ',E',q⟩:=hg ρ1 H1 en σ p.1 x _ (E.up X1) d1 e2
 exact q _ (k ρ1 H1 σ' X1 R1 E')
theorem PV {tg:Expr}{m:M D}{g:TG}{gd:D->En->Option En}(he:SE X e m)(hp:PG X tg g)(hg:GD X.K g gd)(hs:swapsWithSole [tg] e pos.line X.env=pure false:=by rfl)(hw:swappedStores [tg] e X.env=pure none:=by rfl)
  (h1:(assignEach [tg] X.env).map (·.2)=[assign tg X.env]:=by rfl):SS X (.Assign [tg] e pos) (YK m gd):=QA (Li he hp hs hw h1) λ_ _ _=>TJ hg
theorem ZM {i:Nat}{x:Str}{m:M D}{pos':Pos}(hN:X.N.Nodup)(hi:X.N[i]? = some x)(hx:Loc X.env.scope x)(he:SE X e m)(hs:swapsWith e (some (.Name x pos')) pos.line X.env=pure false:=by rfl)
  (hf:X.fn x=true\/X.env.scope.names.lookup x=some .local:=by first|exact .inl rfl|exact .inr rfl|assumption):SS X (.Assign [.Name x pos'] e pos) (YK m (gN i)):=
 QA (Lf hN hi hx he hs hf) λ_ _ _=>TJ ZH
inductive Gd where
 |no
 |lst (n:Nat)
 |zl (gs:List (Nat×List D))
 |fr (n:Nat) (kvs:List (D×D)) (th:Bool)
def Ng (gd:Gd)(ds:List D)(S:Sto):Prop:=match gd with | .no=>True | .lst n=>S[n]? = some (.lst ds) | .zl gs=>∀p∈gs,S[p.1]? = some (.lst p.2) | .fr n kvs _=>S[n]? = some (.fdct kvs)
def Nq (gd:Gd)(S:Sto):Option Sto:=match gd with
 | .fr n _ true=>match S[n]? with|some (.fdct kvs)=>some (S.set n (.dct kvs))|_=>none
 |_=>some S
def ItR (K:W4)(ρ0:List Addr)(H0:Hp)(J:It)(ds:List D)(gd:Gd):Prop:=∀ρ H S,Ext ρ0 H0 ρ H->StR K ρ H S->Ng gd ds S->
 (∀(i:Nat) d,ds[i]? = some d->J.go i H/\∀x H',J.yld i H x H'->Ext ρ H ρ H'/\StR K ρ H' S/\DR K ρ H' d x)/\J.stop ds.length H
abbrev ItD:=List D×Gd
def GF (X:Cx)(gd:Gd)(ρ:List Addr)(H:Hp):Prop:=match gd with
 | .fr n _ true=>∃a,ρ[n]? = some a/\(∀o u,H a≠some (.frz o u))/\(∀xs,H a≠some (.tup xs))/\∀o u,X.H₀ a≠some (.frz o u)
 |_=>True
def tMI (X:Cx)(mi:M ItD):TI:=λσ H R=>∃ρ en S r S',EnR X.K ρ H en σ/\StR X.K ρ H S/\mi en S=some (r,S')/\∀J ρ' H',Ext ρ H ρ' H'->StR X.K ρ' H' S'->ItR X.K ρ' H' J r.1 r.2->GF X r.2 ρ' H->R J H'
def SI (X:Cx)(tg iter:Expr)(mi:M ItD):Prop:=PI X tg iter (tMI X mi)
def Gj (X:Cx)(H H':Hp):Prop:=∀pins σ s,Inv X pins σ H s->Inv X pins σ H' s
theorem Gj.refl {X:Cx}{H:Hp}:Gj X H H:=λ_ _ _ h=>h
theorem Rr {t:TE}(h:PE X e t):PE X e (λσ H Q=>t σ H λv H'=>∃H'',Gj X H' H''/\Q v H''):=by
 intro pins s σ H Q I q
 exact thn (h pins s σ H _ I q) λv s1 ⟨x,H1,I1,r1,H2,th,q1⟩=>⟨x,H2,th _ _ _ I1,r1,q1⟩
theorem GP {st:Stmt}{t:TS}(h:PS X st t):PS X st (λD σ H=>t ⟨λσ H'=>∃H'',Gj X H' H''/\D.nx σ H'',λv H'=>∃H'',Gj X H' H''/\D.rt v H'',λσ H'=>∃H'',Gj X H' H''/\D.bk σ H'',λσ H'=>∃H'',Gj X H' H''/\D.ct σ H''⟩ σ H):=by
 intro pins s σ H D I q
 refine thn (h pins s σ H _ I q) λf s1 z=>?_
 cases f with
 |next=>obtain⟨σ1,H1,I1,H2,th,q1⟩:=z;exact⟨σ1,H2,th _ _ _ I1,q1⟩
 |brk=>obtain⟨σ1,H1,I1,H2,th,q1⟩:=z;exact⟨σ1,H2,th _ _ _ I1,q1⟩
 |cont=>obtain⟨σ1,H1,I1,H2,th,q1⟩:=z;exact⟨σ1,H2,th _ _ _ I1,q1⟩
 |ret u=>obtain⟨v,σ1,H1,I1,r1,H2,th,q1⟩:=z;exact⟨v,σ1,H2,th _ _ _ I1,r1,q1⟩
theorem Tt {pins:List (Addr×Obj)}{σ:L2.St}{H:Hp}{s:Shared}{a:Addr}{o:Obj}{tab:List (Key×V)}(I:Inv X pins σ H s)(e:H a=some (.frz o (.dK tab)))(hn:∀o u,X.H₀ a≠some (.frz o u)):Inv X pins σ (upd H a (.dK tab)) s:=by
 have ho:ZE X.prog X.w H s.heap a (.frz o (.dK tab)):=I.hok a _ e
 have ok':HOk X.prog X.w (upd H a (.dK tab)) s.heap:=λb u hb=>by
  by_cases q:b=a
  ·subst q
   rw [Zg] at hb
   cases hb
   obtain⟨_,z,hd,vs,r⟩:=ho
   exact⟨z,hd,vs,r⟩
  ·rw [Zf q] at hb
   refine (I.hok b u hb).stay (λ_ _ _ h=>h) (λc h=>?_) λc xs h=>?_
   ·rw [Zf (Jn h e (λz=>nomatch z))];exact h
   ·rw [Zf (Jn h e (λz=>nomatch z))];exact h
 have ne0:∀{b:Addr},H b=none->upd H a (.dK tab) b=none:=λ{b} h=>by rw [Zf (Ne.symm (Zj e h))];exact h
 refine⟨I.ok,I.os,I.bare,⟨I.base.keep,I.base.slot,λb u h1 h2 h3=>ne0 (I.base.free b u h1 h2 h3),I.base.there,λb xs h=>?_,λb u v h=>?_,λb ps h=>?_⟩,I.loc,I.cell,ne0 I.free,λx c h=>ne0 (I.freeC x c h),λp hp=>?_,ok',I.len⟩
 ·have:=I.base.tups b xs h
  rw [Zf (Jn this e (λz=>nomatch z))];exact this
 ·have:=I.base.frzs b u v h
  by_cases q:b=a
  ·subst q;exact absurd h (hn _ _)
  ·rw [Zf q];exact this
 ·obtain⟨more,this⟩:=I.base.tbls b ps h
  exact⟨more,by rw [Zf (Jn this e (λz=>nomatch z))];exact this⟩
 ·obtain⟨p1,p2,p3⟩:=I.pin p hp
  exact⟨p1,ne0 p2,p3⟩
theorem Jd {gd:Gd}{ρ ρ' ρ1:List Addr}{H H1 H':Hp}{S' S'':Sto}(X1:Ext ρ H ρ1 H1)(F:GF X gd ρ1 H)(X2:Ext ρ1 H1 ρ' H')(R:StR X.K ρ' H' S')(e:Nq gd S'=some S'') :
  ∃H'',Gj X H' H''/\Ext ρ H ρ' H''/\StR X.K ρ' H'' S''/\Ext0 ρ' H' ρ' H''/\∀p o,H' p=none->H'' p=none/\Gj X (upd H' p o) (upd H'' p o):=by
 have triv:some S'=some S''->∃H'',Gj X H' H''/\Ext ρ H ρ' H''/\StR X.K ρ' H'' S''/\Ext0 ρ' H' ρ' H''/\∀p o,H' p=none->H'' p=none/\Gj X (upd H' p o) (upd H'' p o):=λz=>by
  cases z
  exact⟨H',.refl,X1.trans X2,R,Ext.refl.weak,λp o h=>⟨h,.refl⟩⟩
 cases gd with
 |no=>exact triv e
 |lst n=>exact triv e
 |zl gs=>exact triv e
 |fr n kvs th=>
  cases th with
  |false=>exact triv e
  |true=>
   obtain⟨a,h1,h2,h3,h4⟩:=F
   dsimp only [Nq] at e
   split at e
   ·rename_i kvs' hn
    cases e
    obtain⟨o,tab,t1,t2,t3⟩:=R.thaw (X2.pre n a h1) hn
    refine⟨_,λpins σ s I=>Tt I t1 h4,⟨λm b hb=>X2.pre m b (X1.pre m b hb),λb xs hb=>?_,λb o u hb=>?_⟩,t2,t3,λp ob hp=>?_⟩
    ·have:=(X1.trans X2).tup b xs hb
     rw [Zf (Jn this t1 (λz=>nomatch z))];exact this
    ·have:=(X1.trans X2).frz b o u hb
     by_cases q:b=a
     ·subst q;exact absurd hb (h2 _ _)
     ·rw [Zf q];exact this
    ·have hpa:a≠p:=Zj t1 hp
     refine⟨by rw [Zf (Ne.symm hpa)];exact hp,λpins σ s I=>?_⟩
     have:=Tt (a:=a) (o:=o) (tab:=tab) I (by rw [Zf hpa];exact t1) h4
     have eq:upd (upd H' p ob) a (.dK tab)=upd (upd H' a (.dK tab)) p ob:=by
      funext b
      unfold upd
      by_cases q1:b=a
      ·rw [if_pos q1]
       by_cases q2:b=p
       ·exact absurd (q1.symm.trans q2) hpa
       ·rw [if_neg q2,if_pos q1]
      ·rw [if_neg q1]
       by_cases q2:b=p
       ·rw [if_pos q2,if_pos q2]
       ·rw [if_neg q2,if_neg q2,if_neg q1]
     rw [eq] at this
     exact this
   ·cases e
theorem GT {tg iter:Expr}{w w':TI}(h:PI X tg iter w)(i:∀σ H R,w' σ H R->w σ H R):PI X tg iter w':=λpins s σ H R I q=>h pins s σ H R I (i σ H R q)
open Classical in
def Yb (ds:List D)(gd:Gd)(g:D->En->Option En)(body:MS):List D->En->Sto->Option (Fl×En×Sto)
 |[],en,S=>if Ng gd ds S then some (.nx,en,S) else none
 |d :: r,en,S=>if Ng gd ds S then (g d en).bind λen1=>(body en1 S).bind λp=>match p.1 with
   | .nx=>Yb ds gd g body r p.2.1 p.2.2
   | .ct=>Yb ds gd g body r p.2.1 p.2.2
   | .bk=>some (.nx,p.2.1,p.2.2)
   | .rt v=>some (.rt v,p.2.1,p.2.2)
  else none
def thF (gd:Gd)(r:Option (Fl×En×Sto)):Option (Fl×En×Sto):=r.bind λq=>(Nq gd q.2.2).map λS'=>(q.1,q.2.1,S')
def M8 (mi:M ItD)(g:D->En->Option En)(body:MS):MS:=λen S=>(mi en S).bind λp=>thF p.1.2 (Yb p.1.1 p.1.2 g body p.1.1 en p.2)
theorem GB {tg iter:Expr}{body:List Stmt}{mi:M ItD}{g:TG}{gd:D->En->Option En}{mb:MS}(hp:PassesOwn (model X.prog X.w) X.A X.env X.xe)(hc:X.calm=true)(hi:SI X tg iter mi)(hg:PG X tg g)(hgd:GD X.K g gd)(hb:SB X body mb)
  (hs:∀x,foldedSetIterable iter X.env x=pure x:=by intro _;rfl):SS X (.For tg iter body [] pos) (M8 mi gd mb):=by
 refine QA (GP (Lh hp hc hi hg hb hs)) ?_
 rintro D σ H ⟨ρ,en,S,f,enF,SF,E,R,e,k⟩
 unfold M8 at e
 obtain⟨p,e1,e⟩:=W0.mp e
 obtain⟨⟨ds,gdn⟩,S1⟩:=p
 refine⟨ρ,en,S,(ds,gdn),S1,E,R,e1,λJ ρ1 H1 X1 R1 IT GG=>?_⟩
 dsimp only at e IT GG
 unfold thF at e
 obtain⟨⟨f0,en0,S0⟩,eg,e0⟩:=W0.mp e
 obtain⟨SF',e00,e0⟩:=Wi.mp e0
 injection e0 with z1 z2
 injection z2 with z2 z3
 dsimp only at z1 z2 z3 e00
 subst z1 z2 z3
 refine⟨λi m σ' H'=>m+i=ds.length/\∃ρ' en' S',Ext ρ1 H1 ρ' H'/\StR X.K ρ' H' S'/\EnR X.K ρ' H' en' σ'/\Yb ds gdn gd mb (ds.drop i) en' S'=some (f0,en0,S0),⟨ds.length,by omega,ρ1,en,S1,Ext.refl,R1,E.up X1,by simpa using eg⟩,?_⟩
 rintro i m σ' H' ⟨hm,ρ',en1,S2,X2,R2,E2,e2⟩
 cases hd:ds.drop i with
 |nil=>
  rw [hd] at e2
  unfold Yb at e2
  split at e2
  ·rename_i hg0
   cases e2
   have hi:i=ds.length:=by
    have:=congrArg V7 hd
    simp at this
    omega
   subst hi
   obtain⟨H9,t1,t2,t3,t4,t5⟩:=Jd X1 GG X2 R2 e00
   exact .inl ⟨(IT ρ' H' _ X2 R2 hg0).2,H9,t1,k ρ' H9 σ' t2 t3 (E2.up0 t4)⟩
  ·cases e2
 |cons d r=>
  rw [hd] at e2
  unfold Yb at e2
  split at e2
  ·rename_i hg0
   obtain⟨en3,e3,e2⟩:=W0.mp e2
   obtain⟨q,e4,e2⟩:=W0.mp e2
   obtain⟨fq,en4,S4⟩:=q
   have hlt:i<ds.length:=by
    have:=congrArg V7 hd
    simp at this
    omega
   have hdi:ds[i]? = some d:=by
    have:=congrArg (λl=>l[0]?) hd
    simpa using this
   have hr:ds.drop (i+1)=r:=by
    have:=congrArg List.tail hd
    simpa using this
   obtain⟨go,yl⟩:=(IT ρ' H' _ X2 R2 hg0).1 i d hdi
   refine .inr ⟨go,λσ'' H''=>∃ρ'' en'' S'',Ext ρ1 H1 ρ'' H''/\StR X.K ρ'' H'' S''/\EnR X.K ρ'' H'' en'' σ''/\Yb ds gdn gd mb r en'' S''=some (f0,en0,S0),λσ'' H'' ⟨ρ'',en'',S'',a1,a2,a3,a4⟩=>⟨m-1,by omega,by omega,ρ'',en'',S'',a1,a2,a3,by rw [hr];exact a4⟩,λx H3 y=>?_⟩
   obtain⟨X3,R3,d3⟩:=yl x H3 y
   obtain⟨σ3,E3,gq⟩:=hgd ρ' H3 en1 σ' d x en3 (E2.up X3) d3 e3
   refine gq _ ⟨ρ',en3,S2,fq,en4,S4,E3,R3,e4,λρ4 H4 σ4 X4 R4 E4=>?_⟩
   cases fq with
   |nx=>exact⟨ρ4,en4,S4,(X2.trans X3).trans X4,R4,E4,e2⟩
   |ct=>exact⟨ρ4,en4,S4,(X2.trans X3).trans X4,R4,E4,e2⟩
   |bk=>
    cases e2
    obtain⟨H9,t1,t2,t3,t4,t5⟩:=Jd X1 GG ((X2.trans X3).trans X4) R4 e00
    exact⟨H9,t1,k ρ4 H9 σ4 t2 t3 (E4.up0 t4)⟩
   |rt v=>
    cases e2
    obtain⟨H9,t1,t2,t3,t4,t5⟩:=Jd X1 GG ((X2.trans X3).trans X4) R4 e00
    exact λx dx=>⟨H9,t1,k ρ4 H9 σ4 t2 t3 (E4.up0 t4) x (DR.mono t4 _ _ dx)⟩
  ·cases e2
open Classical in
def ZN (ds:List D)(gd:Gd)(cap:En)(g:D->En->Option En)(c:M Bool)(m:M D):List D->List D->Sto->Option (List D×Sto)
 |[],acc,S=>if Ng gd ds S/\acc.length≤Wk then some (acc,S) else none
 |d :: r,acc,S=>if Ng gd ds S/\acc.length≤Wk then (g d cap).bind λen=>(c en S).bind λp=>
   if p.1 then (m en p.2).bind λq=>ZN ds gd cap g c m r (acc++[q.1]) q.2 else ZN ds gd cap g c m r acc p.2
  else none
def YV (nT:Nat)(caps:List Nat)(en:En):En:=Vg nT none++caps.map λj=>(en[j]?).getD none
def thC (gd:Gd)(r:Option (List D×Sto)):Option (List D×Sto):=r.bind λq=>(Nq gd q.2).map λS'=>(q.1,S')
def Q0 (mi:M ItD)(nT:Nat)(caps:List Nat)(g:D->En->Option En)(c:M Bool)(m:M D):M (List D):=λen S=>(mi en S).bind λp=>thC p.1.2 (ZN p.1.1 p.1.2 (YV nT caps en) g c m p.1.1 [] p.2)
theorem Ax {K:W4}{ρ:List Addr}{H:Hp}{en:En}{σ:L2.St}{nT:Nat}{caps:List Nat}(E:EnR K ρ H en σ):EnR K ρ H (YV nT caps en) (YU nT caps σ):=by
 refine⟨by simp [YV,YU],λi d e=>?_⟩
 unfold YV at e
 have hi:nT≤i:=by
  by_cases hi:i<nT
  ·rw [WE (by simpa using hi),Vf] at e
   split at e<;>cases e
  ·exact VA hi
 rw [WI (by simpa using hi),Vo,WS] at e
 unfold YU
 rw [WI (by simpa using hi),Vo,WS]
 cases ej:caps[i-nT]? with
 |none=>rw [ej] at e;cases e
 |some j=>
  rw [ej] at e
  have e':(en[j]?).getD none=some d:=WM e
  have e2:en[j]? = some (some d):=by
   cases q:en[j]? with
   |none=>rw [q] at e';cases e'
   |some z=>rw [q] at e';rw [show z=some d from e']
  obtain⟨x,h1,h2⟩:=E.get j d e2
  exact⟨x,by rw [W7,h1];rfl,h2⟩
def YR:M Bool:=λ_ S=>some (true,S)
theorem Ud {mi:M ItD}{nT:Nat}{caps:List Nat}{g:TG}{gd:D->En->Option En}{tt:TT}{c:M Bool}{m:M D}(hgd:GD X.K g gd)(htt:∀σ H Q,tMT X.K c σ H Q->tt σ H Q){σ:L2.St}{H:Hp}{Q:VK}
  {ρ:List Addr} {en:En} {S S':Sto} {ds:List D} (E:EnR X.K ρ H en σ) (R:StR X.K ρ H S) (e:Q0 mi nT caps gd c m en S=some (ds,S'))
  (k:∀a xs ρ' H',Ext ρ H ρ' H'->StR X.K ρ' H' S'->H' a=none->DsR X.K ρ' H' ds xs->Q (.ref a) (upd H' a (.lst xs))):R7 (tMI X mi) nT caps g tt (tM X.K m) σ H (λv H'=>∃H'',Gj X H' H''/\Q v H''):=by
 unfold Q0 at e
 obtain⟨p,e1,e⟩:=W0.mp e
 obtain⟨⟨is,gdn⟩,S1⟩:=p
 refine⟨ρ,en,S,(is,gdn),S1,E,R,e1,λJ ρ1 H1 X1 R1 IT GG=>?_⟩
 dsimp only at e IT GG
 unfold thC at e
 obtain⟨⟨ds0,S0⟩,eg,e0⟩:=W0.mp e
 obtain⟨SF',e00,e0⟩:=Wi.mp e0
 injection e0 with z1 z2
 dsimp only at z1 z2 e00
 subst z1 z2
 refine⟨λi m0 ys H'=>m0+i=is.length/\∃ρ' S2 acc,Ext ρ1 H1 ρ' H'/\StR X.K ρ' H' S2/\DsR X.K ρ' H' acc ys/\ZN is gdn (YV nT caps en) gd c m (is.drop i) acc S2=some (ds0,S0),⟨is.length,by omega,ρ1,S1,[],Ext.refl,R1,.nil,by simpa using eg⟩,?_⟩
 rintro i m0 ys H' ⟨hm,ρ',S2,acc,X2,R2,D2,e2⟩
 cases hd:is.drop i with
 |nil=>
  rw [hd] at e2
  unfold ZN at e2
  split at e2
  ·rename_i hg0
   cases e2
   have hi:i=is.length:=by
    have:=congrArg V7 hd
    simp at this
    omega
   subst hi
   refine .inl ⟨(IT ρ' H' _ X2 R2 hg0.1).2,by rw [←D2.length];exact hg0.2,λa ha=>?_⟩
   obtain⟨H9,t1,t2,t3,t4,t5⟩:=Jd X1 GG X2 R2 e00
   obtain⟨h9,t6⟩:=t5 a (.lst ys) ha
   exact⟨upd H9 a (.lst ys),t6,k a ys ρ' H9 t2 t3 h9 (DsR.mono t4 _ _ D2)⟩
  ·cases e2
 |cons d r=>
  rw [hd] at e2
  unfold ZN at e2
  split at e2
  ·rename_i hg0
   obtain⟨en3,e3,e2⟩:=W0.mp e2
   obtain⟨q,e4,e2⟩:=W0.mp e2
   have hlt:i<is.length:=by
    have:=congrArg V7 hd
    simp at this
    omega
   have hdi:is[i]? = some d:=by
    have:=congrArg (λl=>l[0]?) hd
    simpa using this
   have hr:is.drop (i+1)=r:=by
    have:=congrArg List.tail hd
    simpa using this
   obtain⟨go,yl⟩:=(IT ρ' H' _ X2 R2 hg0.1).1 i d hdi
   refine .inr ⟨go,by rw [←D2.length];exact hg0.2,λx H3 y=>?_⟩
   obtain⟨X3,R3,d3⟩:=yl x H3 y
   obtain⟨σ3,E3,gq⟩:=hgd ρ' H3 (YV nT caps en) (YU nT caps σ) d x en3 (((Ax E).up X1).up X2 |>.up X3) d3 e3
   refine gq _ (htt _ _ _ ⟨ρ',en3,S2,q.1,q.2,E3,R3,e4,λρ4 H4 X4 R4=>?_⟩)
   by_cases hq:q.1=true
   ·rw [if_pos hq] at e2 ⊢
    obtain⟨w,e5,e2⟩:=W0.mp e2
    refine⟨ρ4,en3,q.2,w.1,w.2,E3.up X4,R4,e5,λv ρ5 H5 X5 R5 d5=>⟨m0-1,by omega,by omega,ρ5,w.2,acc++[w.1],((X2.trans X3).trans X4).trans X5,R5,?_,by rw [hr];exact e2⟩⟩
    exact (((D2.up X3).up X4).up X5).append (.cons d5 .nil)
   ·rw [if_neg hq] at e2 ⊢
    exact⟨m0-1,by omega,by omega,ρ4,q.2,acc,(X2.trans X3).trans X4,R4,(D2.up X3).up X4,by rw [hr];exact e2⟩
  ·cases e2
structure CompSc (X:Cx) (scope:Scope) (cn:List Str) (caps:List Nat):Prop where
 cell:∀y∈scope.names,y.2≠.cell
 kind:scope.kind = .function
 names:∀y∈scope.names,y.2 = .local->scope.names.lookup y.1=some .local
 free:∀y∈scope.names,y.2 = .free->X.env.scope.names.lookup y.1=some .cell\/X.env.scope.names.lookup y.1=some .free
 cap:QN X scope cn caps
section
variable {tg iter elt:Expr} {ifs:List Expr} {scope:Scope} {tgs cn:List Str} {caps:List Nat} {mi:M ItD} {g:TG} {gd:D->En->Option En} {mc:M Bool} {m:M D}
def SF (X:Cx)(ifs:List Expr)(m:M Bool):Prop:=PF X ifs (tMT X.K m)
theorem Qo:SF X [] YR:=by
 intro pins s σ H Q I q
 obtain⟨ρ,en,S,b,S',E,R,e,k⟩:=q
 cases e
 exact Lm pins s σ H Q I (k ρ H Ext.refl R)
theorem L1 {c:Expr}(h:ST X c mc):SF X [c] mc:=Ll h
theorem YA (hc:X.calm=true)(sc:CompSc X scope cn caps)(hi:SI X tg iter mi)(hlow:KQ tgs.length g)(hgd:GD X.K g gd)
  (hg:∀fp s H C,PG (Zu X scope (tgs++cn) fp s H C) tg g) (hf:∀fp s H C,SF (Zu X scope (tgs++cn) fp s H C) ifs mc) (he:∀fp s H C,SE (Zu X scope (tgs++cn) fp s H C) elt m)
  (hs:∀x,foldedSetIterable iter X.env x=pure x:=by intro _;rfl):SQ X (.ListComp elt [⟨tg,iter,ifs,0⟩] scope pos) (Q0 mi tgs.length caps gd mc m):=by
 refine Zw (Rr (Ru (tt:=tMT X.K mc) (te:=tM X.K m) hc sc.cell sc.kind sc.names sc.free sc.cap hi hlow hg hf he hs)) ?_
 rintro σ H Q ⟨ρ,en,S,ds,S',E,R,e,k⟩
 exact Ud hgd (λ_ _ _ h=>h) E R e λa xs ρ' H' X1 R1 ha d1=>k a xs ρ' _ (X1.trans (Ext.new ha)) (R1.new ha) (.inl (.of Zg)) (d1.up (Ext.new ha))
def QR (m:M (List D)):M D:=λen S=>(m en S).map λp=>(.ref p.2.length,p.2++[.lst p.1])
end
theorem R8 {tg iter elt:Expr}{ifs:List Expr}{scope:Scope}{tgs cn:List Str}{caps:List Nat}{mi:M ItD}{g:TG}{gd:D->En->Option En}{mc:M Bool}{m:M D}{i:Nat}{y:Str}{py spos:Pos}
  (hN:X.N.Nodup) (hy:X.N[i]? = some y) (hx:X.env.scope.names.lookup y=some .local)
  (hc:X.calm=true) (sc:CompSc X scope cn caps) (hi:SI X tg iter mi) (hlow:KQ tgs.length g) (hgd:GD X.K g gd)
  (hg:∀fp s H C,PG (Zu X scope (tgs++cn) fp s H C) tg g) (hf:∀fp s H C,SF (Zu X scope (tgs++cn) fp s H C) ifs mc) (he:∀fp s H C,SE (Zu X scope (tgs++cn) fp s H C) elt m)
  (hsw:swapsWith (.ListComp elt [⟨tg,iter,ifs,0⟩] scope pos) (some (.Name y py)) spos.line X.env=pure true:=by rfl)
  (hs:∀x,foldedSetIterable iter X.env x=pure x:=by intro _;rfl):SS X (.Assign [.Name y py] (.ListComp elt [⟨tg,iter,ifs,0⟩] scope pos) spos) (YK (QR (Q0 mi tgs.length caps gd mc m)) (gN i)):=by
 refine QA (GP (Rk (tt:=tMT X.K mc) (te:=tM X.K m) hsw hN hy hx hc sc.cell sc.kind sc.names sc.free sc.cap hi hlow hg hf he hs)) ?_
 rintro D σ H ⟨ρ,en,S,f,en',S',E,R,e,k⟩
 unfold YK QR at e
 obtain⟨p,e1,e⟩:=W0.mp e
 obtain⟨q,e2,e3⟩:=Wi.mp e1
 obtain⟨en1,e4,e5⟩:=Wi.mp e
 cases e3
 cases e4
 cases e5
 refine Ud (Q:=λv H''=>D.nx (σ.set i (some v)) H'') hgd (λ_ _ _ h=>h) E R e2 λa xs ρ' H' X1 R1 ha d1=>?_
 have d2:DR X.K (ρ'++[a]) (upd H' a (.lst xs)) (.ref q.2.length) (.ref a):=.ref (by rw [←R1.len];simp)
 exact k (ρ'++[a]) _ _ (X1.trans (Ext.newRef ha)) (R1.push ha ⟨xs,Zg,d1.up (Ext.newRef ha)⟩) ((E.up (X1.trans (Ext.newRef ha))).set d2)
def AF:D->Sto->Option (List D)
 | .tup ds,_=>some ds
 | .ref n,S=>match S[n]? with|some (.lst ds)=>some ds|_=>none
 | .scr ns,_=>some (ns.map D.int)
 |_,_=>none
theorem Ra {K:W4}{ρ:List Addr}{H:Hp}{S:Sto}{d:D}{x:V}{ds:List D}(R:StR K ρ H S)(h:DR K ρ H d x)(e:AF d S=some ds):∃a xs,x = .ref a/\(SqL K H a xs\/SqT K H a xs)/\DsR K ρ H ds xs:=by
 cases d with
 |tup es=>
  obtain⟨a,xs,rfl,h1,h2⟩:=h.of_tup
  cases e
  exact⟨a,xs,rfl,.inr (.of h1),h2⟩
 |ref n=>
  obtain⟨a,h1,rfl⟩:=h.of_ref
  obtain⟨ob,e1,r⟩:=R.obj h1
  dsimp only [AF] at e
  rw [e1] at e
  cases ob with
  |lst es=>
   cases e
   obtain⟨xs,h2,h3⟩:=r
   exact⟨a,xs,rfl,.inl (.of h2),h3⟩
  |dct kvs=>cases e
  |fdct kvs=>cases e
  |ins C fs=>cases e
 |scr ns=>
  obtain⟨a,rfl,h1⟩:=h.of_scr
  cases e
  exact⟨a,_,rfl,.inl h1.seq,.ints ns⟩
 |_=>cases e
def mSq (m:M D):M (List D):=λen S=>(m en S).bind λp=>(AF p.1 p.2).map λds=>(ds,p.2)
theorem PX {m:M D}(h:SE X e m):SQ X e (mSq m):=by
 refine Zw h ?_
 rintro σ H Q ⟨ρ,en,S,ds,S',E,R,e,k⟩
 unfold mSq at e
 obtain⟨p,e1,e⟩:=W0.mp e
 obtain⟨es,e2,e3⟩:=Wi.mp e
 cases e3
 refine⟨ρ,en,S,p.1,p.2,E,R,e1,λx ρ1 H1 X1 R1 d1=>?_⟩
 obtain⟨a,xs,rfl,h1,h2⟩:=Ra R1 d1 e2
 exact k a xs ρ1 H1 X1 R1 h1 h2
def spD (K:W4)(n:Nat)(F:List D->Sto->Option (D×Sto)):Sp:=λvs H Q _=>vs.length=n/\rDs K F vs H Q
def Zy (F:List D->Sto->Option (D×Sto))(m:M (List D)):M D:=λen S=>(m en S).bind λp=>F p.1 p.2
theorem Zc {x:Str}{p:Pos}{k n:Nat}{f:Addr}{fd:FuncData}{ps:List Str}{F:List D->Sto->Option (D×Sto)}{m:M (List D)}(hF:FnOk X.prog X.w X.K X.mg X.base CX0 k f fd ps (spD X.K n F))(hr:Room k X.A)(hg:Gl X x)(hm:X.mg x=some (.ref f))
  (hk:WL X.K (.ref f)=true) (hb:UZ X.K fd ps []) (ha:SA X (a :: es) m)
  (hlen:∀en S r,m en S=some r->r.1.length=n)
  (hdb:(x == ("__debug__" : Str))=false:=by decide) (he:Wr (a :: es) X.env=(false,eval a X.env) :: Wr es X.env:=by rfl) (hpl:(backTo pos (Wr es X.env)).any (·.1)=false:=by rfl) :
  SE X (.Call (.Name x p) (a :: es) [] pos) (Zy F m):=by
 refine Zw (Rw hF hr hg hm hk hb .nil E8 ha hdb he hpl) ?_
 rintro σ H Q ⟨ρ,en,S,v,S',E,R,e,k⟩
 unfold Zy at e
 obtain⟨r,e1,e2⟩:=W0.mp e
 refine⟨ρ,en,S,r.1,r.2,E,R,e1,λxs ρ1 H1 X1 R1 d1=>?_⟩
 show spD X.K n F (xs++[]) H1 Q E0
 rw [VP]
 exact⟨by rw [←d1.length];exact hlen _ _ _ e1,ρ1,r.2,r.1,v,S',R1,d1,e2,λz ρ2 H2 X2 R2 d2=>k z ρ2 H2 (X1.trans X2) R2 d2⟩
theorem Ze:∀en S r,Zp en S=some r->r.1.length=0:=by
 intro en S r e;cases e;rfl
theorem Z2 {ma:M D}{mr:M (List D)}{n:Nat}(h:∀en S r,mr en S=some r->r.1.length=n):∀en S r,Z1 ma mr en S=some r->r.1.length=n+1:=by
 intro en S r e
 unfold Z1 at e
 obtain⟨p,e1,e⟩:=W0.mp e
 obtain⟨q,e2,e3⟩:=Wi.mp e
 cases e3
 rw [WP,h _ _ _ e2]
mutual
def Jy (n:Nat):D->Bool
 | .tup ds=>lowDs n ds
 | .ref k=>decide (k<n)
 |_=>true
def lowDs (n:Nat):List D->Bool
 |[]=>true
 |d :: ds=>Jy n d&&lowDs n ds
end
section
variable {K:W4} {ρ:List Addr} {H:Hp}
mutual
theorem LV:∀(d:D) (x:V),DR K ρ H d x->Jy ρ.length d=true
 | .non,_,_=>by unfold Jy;rfl
 | .bl _,_,_=>by unfold Jy;rfl
 | .int _,_,_=>by unfold Jy;rfl
 | .str _,_,_=>by unfold Jy;rfl
 | .scr _,_,_=>by unfold Jy;rfl
 | .tup ds,x,h=>by
  obtain⟨a,xs,_,_,h3⟩:=h.of_tup
  unfold Jy
  exact lows_of ds xs h3
 | .ref n,x,h=>by
  obtain⟨a,h1,_⟩:=h.of_ref
  unfold Jy
  exact decide_eq_true (Wn.mp h1).1
theorem lows_of:∀(ds:List D) (xs:List V),DsR K ρ H ds xs->lowDs ρ.length ds=true
 |[],_,_=>by unfold lowDs;rfl
 |d :: ds,xs,h=>by
  unfold DsR at h
  obtain⟨x,r,_,h1,h2⟩:=h
  unfold lowDs
  rw [LV d x h1,lows_of ds r h2];rfl
end
mutual
theorem KL (n:Nat):∀(d:D) (x:V),DR K ρ H d x->Jy n d=true->DR K (ρ.take n) H d x
 | .non,_,h,_=>by unfold DR at h ⊢;exact h
 | .bl _,_,h,_=>by unfold DR at h ⊢;exact h
 | .int _,_,h,_=>by unfold DR at h ⊢;exact h
 | .str _,_,h,_=>by unfold DR at h ⊢;exact h
 | .scr _,_,h,_=>by unfold DR at h ⊢;exact h
 | .tup ds,x,h,l=>by
  obtain⟨a,xs,rfl,h2,h3⟩:=h.of_tup
  unfold Jy at l
  exact .tup h2 (cuts_of n ds xs h3 l)
 | .ref k,x,h,l=>by
  obtain⟨a,h1,rfl⟩:=h.of_ref
  unfold Jy at l
  exact .ref (by rw [WZ (of_decide_eq_true l)];exact h1)
theorem cuts_of (n:Nat):∀(ds:List D) (xs:List V),DsR K ρ H ds xs->lowDs n ds=true->DsR K (ρ.take n) H ds xs
 |[],_,h,_=>by unfold DsR at h ⊢;exact h
 |d :: ds,xs,h,l=>by
  unfold DsR at h
  obtain⟨x,r,rfl,h1,h2⟩:=h
  unfold lowDs at l
  rw [WU] at l
  exact .cons (KL n d x h1 l.1) (cuts_of n ds r h2 l.2)
end
end
theorem AA {K:W4}{ρ ρ1:List Addr}{H H1:Hp}{S S1:Sto}(R:StR K ρ H S)(X:Ext ρ H ρ1 H1)(R1:StR K ρ1 H1 S1)(e:S1.take S.length=S):StR K (ρ1.take S.length) H1 S/\Ext ρ H (ρ1.take S.length) H1:=by
 have hl:S.length≤S1.length:=by
  have:=congrArg V7 e
  rw [WW] at this
  omega
 have low:∀(n:Nat) ob,S[n]? = some ob->n<S.length:=λn ob h=>(Wn.mp h).1
 refine⟨⟨by rw [WW,R1.len];omega,λi j a h1 h2=>?_,λn ob h=>?_⟩,⟨λn a h=>?_,X.tup,X.frz⟩⟩
 ·have hi:i<S.length:=by
   have:=(Wn.mp h1).1
   rw [WW] at this;omega
  have hj:j<S.length:=by
   have:=(Wn.mp h2).1
   rw [WW] at this;omega
  rw [WZ hi] at h1
  rw [WZ hj] at h2
  exact R1.inj i j a h1 h2
 ·have hn:=low n ob h
  have h1:S1[n]? = some ob:=by rw [←WZ hn,e];exact h
  obtain⟨a,e1,r1⟩:=R1.ob n ob h1
  obtain⟨a0,e0,r0⟩:=R.ob n ob h
  refine⟨a,by rw [WZ hn];exact e1,?_⟩
  cases ob with
  |lst ds=>
   obtain⟨xs,q1,q2⟩:=r1
   obtain⟨ys,p1,p2⟩:=r0
   have l:=lows_of ds ys p2
   rw [R.len] at l
   exact⟨xs,q1,cuts_of _ ds xs q2 l⟩
  |dct kvs=>
   have l:lowDs S.length (kvs.map (·.2))=true:=by
    rcases r0 with ⟨ks0,ys,p1,p2,p3,p4⟩|⟨ks0,ys,p1,p2,p3,p4⟩
    ·have l:=lows_of _ ys p4
     rw [R.len] at l;exact l
    ·have l:=lows_of _ ys p4
     rw [R.len] at l;exact l
   rcases r1 with ⟨ks,xs,q1,q2,q3,q4⟩|⟨ks,xs,q1,q2,q3,q4⟩
   ·exact .inl ⟨ks,xs,q1,q2,q3,cuts_of _ _ xs q4 l⟩
   ·exact .inr ⟨ks,xs,q1,q2,q3,cuts_of _ _ xs q4 l⟩
  |fdct kvs=>
   obtain⟨o,ks,xs,q1,q2,q3,q4⟩:=r1
   obtain⟨o',ks0,ys,p1,p2,p3,p4⟩:=r0
   have l:=lows_of _ ys p4
   rw [R.len] at l
   exact⟨o,ks,xs,q1,q2,q3,cuts_of _ _ xs q4 l⟩
  |ins C fs=>
   obtain⟨Ca,dx,xs,q0,q1,q2⟩:=r1
   obtain⟨Ca0,dx0,ys,p0,p1,p2⟩:=r0
   have l:=lows_of _ ys p2
   rw [R.len] at l
   exact⟨Ca,dx,xs,q0,q1,cuts_of _ _ xs q2 l⟩
 ·have hn:n<S.length:=by rw [←R.len];exact (Wn.mp h).1
  rw [WZ hn]
  exact X.pre n a h
open Classical in
def Gf (S:Sto)(r:D×Sto):D×Sto:=if r.2.take S.length=S/\Jy S.length r.1=true then (r.1,S) else r
def Q3 (nN:Nat)(ds:List D):En:=ds.map some++Vg (nN-ds.length) none
def QO (nN n:Nat)(m:MS):List D->Sto->Option (D×Sto):=λds S=>if ds.length=n then (m (Q3 nN ds) S).bind λp=>match p.1 with
 | .rt v=>some (Gf S (v,p.2.2))
 | .nx=>some (Gf S (.non,p.2.2))
 |_=>none
 else none
theorem Gx {K:W4}{ρ ρ1:List Addr}{H H1:Hp}{S S1 S':Sto}{v v':D}{x:V}{Q:VK}(R:StR K ρ H S)(X:Ext ρ H ρ1 H1)(R1:StR K ρ1 H1 S1)(d:DR K ρ1 H1 v x)(e:Gf S (v,S1)=(v',S'))
  (k:∀z ρ' H',Ext ρ H ρ' H'->StR K ρ' H' S'->DR K ρ' H' v' z->Q z H'):Q x H1:=by
 unfold Gf at e
 split at e
 ·rename_i h
  cases e
  obtain⟨R2,X2⟩:=AA R X R1 h.1
  exact k x _ H1 X2 R2 (KL _ v x d h.2)
 ·cases e
  exact k x ρ1 H1 X R1 d
theorem Nr {K:W4}{ρ:List Addr}{H:Hp}{ds:List D}{vs:List V}{N:List Str}(h:DsR K ρ H ds vs):EnR K ρ H (Q3 N.length ds) (L2.start N vs):=by
 unfold Q3 L2.start
 refine⟨by simp [h.length],λi d e=>?_⟩
 by_cases hi:i<ds.length
 ·rw [WE (by simpa using hi),WS] at e
  rw [WE (by rw [Wp,←h.length];exact hi),WS]
  cases q:ds[i]? with
  |none=>rw [q] at e;cases e
  |some c=>
   rw [q] at e;cases e
   obtain⟨x,h1,h2⟩:=h.get q
   exact⟨x,by rw [h1];rfl,h2⟩
 ·rw [WI (by simpa using hi),Vf] at e
  split at e<;>cases e
theorem UO {P:Program}{w:World}{K:W4}{mg:Str->Option Value}{base:Heap}{x qual:Str}{st:Stmt}{f:Addr}{fd:FuncData}{N ps:List Str}{k n nN:Nat}{m:MS}(F:Fun K x qual st f fd)(S:FnScope N ps (Z4 st))(hn:ps.length=n)(hN:N.length=nN)
  (hb:∀(cdv:Value) (A:Around) (outer:List Env) (s:Shared) (H:Hp) (E:XK),Room k (A.deeper (envOfC qual (Z4 st) s.heap.objs.size f cdv))->SB (Pm CX0 P w K mg base N qual (Z4 st) f cdv A outer s H E).nox (Zs st) m) :
  FnOk P w K mg base CX0 (k+1) f fd ps (spD K n (QO nN n m)):=by
 refine F.ok S (λvs H Q E h=>by rw [h.1,hn]) (λcdv A outer s H vs Q E hr h=>?_)
 obtain⟨hl,ρ,S0,ds,v,S',R,d1,e,q⟩:=h
 refine⟨_,hb cdv A outer s H E hr,?_⟩
 unfold QO at e
 split at e
 ·obtain⟨p,e1,e2⟩:=W0.mp e
  obtain⟨fl,en',S1⟩:=p
  refine⟨ρ,_,S0,fl,en',S1,hN ▸ Nr d1,R,e1,λρ1 H1 σ1 X1 R1 E1=>?_⟩
  cases fl with
  |rt u=>exact λz dz=>Gx R X1 R1 dz (WM e2) q
  |nx=>exact Gx R X1 R1 .flat_non (WM e2) q
  |bk=>cases e2
  |ct=>cases e2
 ·cases e
end
end DL
namespace DL
open PySem PySem.Spec PyProof.Rows L2
theorem Yt {k:Nat}{A:Around}(hr:Room k A):A.units+64<cLine:=by have:=hr.un;omega
section
variable {X:Cx}
def gLt:D->D->Sto->Option (D×Sto)
 | .int i,.int j,S=>some (.bl (decide (i<j)),S)
 | .str i,.str j,S=>some (.bl (decide (i.cps.toList<j.cps.toList)),S)
 | .tup as,.tup bs,S=>if (US 30 (.tup as) (.tup bs)&&(pln 30 (.tup as)&&pln 30 (.tup bs)))=true then some (.bl (ltD (.tup as) (.tup bs)),S) else none
 |_,_,_=>none
theorem A2 {a b:D}{S S':Sto}{v:D}(e:gLt a b S=some (v,S')):v = .bl (ltD a b)/\S=S'/\US 30 a b=true/\pln 30 a=true/\pln 30 b=true:=by
 cases a with
 |int i=>
  cases b with
  |int j=>cases e;exact⟨by unfold ltD;rfl,rfl,rfl,rfl,rfl⟩
  |_=>cases e
 |str i=>
  cases b with
  |str j=>cases e;exact⟨by unfold ltD;rfl,rfl,rfl,rfl,rfl⟩
  |_=>cases e
 |tup as=>
  cases b with
  |tup bs=>
   dsimp only [gLt] at e
   split at e
   ·rename_i hc
    cases e
    rw [WU,WU] at hc
    exact⟨rfl,rfl,hc.1,hc.2.1,hc.2.2⟩
   ·cases e
  |_=>cases e
 |_=>cases e
theorem Lw (hu:X.A.units+64<cLine):OpD X (compareOp .Lt) gLt:=by
 intro pins s σ H x y v u Q I rx ry h
 obtain⟨ρ,S,d1,d2,z,S',R,h1,h2,e,k⟩:=h
 obtain⟨rfl,rfl,hc,p1,p2⟩:=A2 e
 exact LU I 30 (by omega) hc p1 p2 h1 h2 rx ry _ _ _ _ ⟨.bl _,H,I,rfl,k _ ρ H Ext.refl R .flat_bl⟩
def AI (a b:D):Bool:=pln 30 a&&pln 30 b
def gEq:D->D->Sto->Option (D×Sto)
 | .int i,.int j,S=>some (.bl (decide (i=j)),S)
 | .str i,.str j,S=>some (.bl (decide (i=j)),S)
 | .bl i,.bl j,S=>some (.bl (decide (i=j)),S)
 |a,b,S=>if AI a b=true then some (.bl (eqD a b),S) else none
def gNe:D->D->Sto->Option (D×Sto)
 | .int i,.int j,S=>some (.bl (!decide (i=j)),S)
 | .str i,.str j,S=>some (.bl (!decide (i=j)),S)
 | .bl i,.bl j,S=>some (.bl (!decide (i=j)),S)
 |a,b,S=>if AI a b=true then some (.bl (!eqD a b),S) else none
theorem Qm {α:Type}[BEq α][LawfulBEq α][DecidableEq α](a b:α):(a == b)=decide (a=b):=by
 rw [VV];simp
theorem A3 {a b:D}{S S':Sto}{v:D}(e:gEq a b S=some (v,S')):v = .bl (eqD a b)/\S=S'/\pln 30 a=true/\pln 30 b=true:=by
 unfold gEq at e
 split at e
 ·cases e;exact⟨by unfold eqD;dsimp only;rw [Qm],rfl,rfl,rfl⟩
 ·cases e;exact⟨by unfold eqD;dsimp only;rw [Qm],rfl,rfl,rfl⟩
 ·cases e;exact⟨by unfold eqD;dsimp only;rw [Qm],rfl,rfl,rfl⟩
 ·split at e
  ·rename_i hc
   cases e
   unfold AI at hc
   rw [WU] at hc
   exact⟨rfl,rfl,hc.1,hc.2⟩
  ·cases e
theorem A1 {a b:D}{S S':Sto}{v:D}(e:gNe a b S=some (v,S')):v = .bl (!eqD a b)/\S=S'/\pln 30 a=true/\pln 30 b=true:=by
 unfold gNe at e
 split at e
 ·cases e;exact⟨by unfold eqD;dsimp only;rw [Qm],rfl,rfl,rfl⟩
 ·cases e;exact⟨by unfold eqD;dsimp only;rw [Qm],rfl,rfl,rfl⟩
 ·cases e;exact⟨by unfold eqD;dsimp only;rw [Qm],rfl,rfl,rfl⟩
 ·split at e
  ·rename_i hc
   cases e
   unfold AI at hc
   rw [WU] at hc
   exact⟨rfl,rfl,hc.1,hc.2⟩
  ·cases e
theorem Q7 (hu:X.A.units+64<cLine):OpD X (compareOp .Eq) gEq:=by
 intro pins s σ H x y v u Q I rx ry h
 obtain⟨ρ,S,d1,d2,z,S',R,h1,h2,e,k⟩:=h
 obtain⟨rfl,rfl,p1,p2⟩:=A3 e
 exact Lb I 30 (by omega) p1 p2 h1 h2 rx ry _ _ _ _ ⟨.bl _,H,I,rfl,k _ ρ H Ext.refl R .flat_bl⟩
theorem GW (hu:X.A.units+64<cLine):OpD X (compareOp .NotEq) gNe:=by
 intro pins s σ H x y v u Q I rx ry h
 obtain⟨ρ,S,d1,d2,z,S',R,h1,h2,e,k⟩:=h
 obtain⟨rfl,rfl,p1,p2⟩:=A1 e
 exact La I 30 (by omega) p1 p2 h1 h2 rx ry _ _ _ _ ⟨.bl _,H,I,rfl,k _ ρ H Ext.refl R .flat_bl⟩
end
end DL
namespace DL
open PySem PySem.Spec PyProof.Rows PySem.W L2
section
variable {X:Cx} {pins:List (Addr×Obj)} {σ:L2.St} {H:Hp} {s:Shared} {ρ:List Addr}
def skD:D->Option Nat
 | .int _=>some 0
 | .str _=>some 1
 | .tup (.int _ :: _)=>some 2
 | .tup (.str _ :: _)=>some 3
 | .tup (.tup _ :: _)=>some 4
 |_=>none
def CO (ds:List D):Bool:=[0,1,2,3,4].any λc=>ds.all λd=>skD d == some c
def HI (ds:List D):Bool:=ds.all (pln 30)&&ds.all λa=>ds.all λb=>US 30 a b
def T3 (ds:List D):Bool:=decide (ds.length<64)&&(decide (ds.length<2)||(CO ds&&HI ds))
end
end DL
namespace DL
open PySem PySem.Spec PyProof.Rows PySem.W L2
section
variable {X:Cx} {pins:List (Addr×Obj)} {σ:L2.St} {H:Hp} {s:Shared} {ρ:List Addr}
end
end DL
namespace L2
open PySem PySem.Spec PyProof.Rows
section
variable {X:Cx}
theorem LC:OpR X (compareOp .Is) (λx y H Q=>∃c,y = .bl c/\Q (.bl (decide (x = .bl c))) H):=by
 intro pins s σ H x y v u Q I rx ry h
 obtain⟨c,rfl,q⟩:=h
 cases ry
 cases x with
 |bl b=>cases rx;exact is_bool (ZV I q (by cases b<;>cases c<;>decide))
 |non=>cases rx;exact Wm (ZV I q (by cases c<;>decide))
 |int i=>obtain⟨t,rfl⟩:=rx;exact Wm (ZV I q (by cases c<;>rfl))
 |str i=>obtain⟨t,rfl⟩:=rx;exact Wm (ZV I q (by cases c<;>rfl))
 |byt i=>obtain⟨t,rfl⟩:=rx;exact Wm (ZV I q (by cases c<;>rfl))
 |flt i=>obtain⟨t,rfl⟩:=rx;exact Wm (ZV I q (by cases c<;>rfl))
 |ref a=>cases rx;exact Wm (ZV I q (by cases c<;>rfl))
 |ty n=>cases rx;exact Wm (ZV I q (by cases c<;>rfl))
theorem GY:OpR X (compareOp .IsNot) (λx y H Q=>∃c,y = .bl c/\Q (.bl (!decide (x = .bl c))) H):=by
 intro pins s σ H x y v u Q I rx ry h
 obtain⟨c,rfl,q⟩:=h
 cases ry
 cases x with
 |bl b=>cases rx;exact isnot_bool (ZV I q (by cases b<;>cases c<;>decide))
 |non=>cases rx;exact Wm (ZV I q (by cases c<;>decide))
 |int i=>obtain⟨t,rfl⟩:=rx;exact Wm (ZV I q (by cases c<;>rfl))
 |str i=>obtain⟨t,rfl⟩:=rx;exact Wm (ZV I q (by cases c<;>rfl))
 |byt i=>obtain⟨t,rfl⟩:=rx;exact Wm (ZV I q (by cases c<;>rfl))
 |flt i=>obtain⟨t,rfl⟩:=rx;exact Wm (ZV I q (by cases c<;>rfl))
 |ref a=>cases rx;exact Wm (ZV I q (by cases c<;>rfl))
 |ty n=>cases rx;exact Wm (ZV I q (by cases c<;>rfl))
theorem GX:OpR X (compareOp .LtE) (λx y H Q=>∃i j,x = .str i/\y = .str j/\Q (.bl (!decide (j.cps.toList<i.cps.toList))) H):=by
 intro pins s σ H x y v u Q I rx ry h
 obtain⟨i,j,rfl,rfl,q⟩:=h
 obtain⟨t,rfl⟩:=rx
 obtain⟨t',rfl⟩:=ry
 exact PySem.P.le_str (ZV I q rfl)
theorem NB:OpR X (binaryOp .Add) (λx y H Q=>∃a b ys,x = .ref a/\y = .ref b/\SqT X.K H a []/\SqT X.K H b ys/\Q (.ref b) H):=by
 intro pins s σ H x y v u Q I rx ry h
 obtain⟨a,b,ys,rfl,rfl,ha,hb,q⟩:=h
 cases rx
 cases ry
 obtain⟨its,r1,p1,_⟩:=I.tuple ha
 obtain⟨its2,r2,p2,_⟩:=I.tuple hb
 have hv:its=[]:=r1.nil_iff.mpr rfl
 subst hv
 obtain⟨⟨cls,dd,data,sl⟩,ho,hc,n,hd⟩:=id p1
 obtain⟨⟨cls2,dd2,data2,sl2⟩,ho2,hc2,n2,hd2⟩:=id p2
 simp only at hc hd hc2 hd2
 subst hc hd hc2 hd2
 exact concat_meets ⟨_,ho,rfl⟩ ⟨_,ho2,rfl⟩ noFill_tuple_add seq_tuple_add VX VR (VN _ _)
  (tuple_addW0 a b _ _ n n2 dd dd2 sl sl2 (by simp)) ⟨ho,ho2,⟨.ref b,H,I,rfl,q⟩⟩
theorem TX:OpR X (binaryOp .Mult) (λx y H Q=>∃z n,x = .str z/\y = .int n/\MulOk z n/\Q (.str (W0c z n)) H):=by
 intro pins s σ H x y v u Q I rx ry h
 obtain⟨z,n,rfl,rfl,hok,q⟩:=h
 obtain⟨t,rfl⟩:=rx
 obtain⟨t',rfl⟩:=ry
 exact SB.mul hok λt'' k=>⟨.str (W0c z n),H,I.tok k,⟨t'',rfl⟩,q⟩
theorem PZ:SlR X (λx lo hi H Q=>∃z,x = .str z/\z.length≤Wk/\Q (.str (VL z lo hi)) H):=by
 intro pins s σ H x v vl vu lo hi sl Q I rx hs pl pu h
 obtain⟨z,rfl,hz,q⟩:=h
 obtain⟨t,rfl⟩:=rx
 refine⟨"str",_,F.slot_str_getitem.lookup,typeIs_str _ _ _,?_⟩
 have fin:∀t' k,EP X pins σ Q (.str (VL z lo hi) t') { s with toks:=k }:=λt' k=>⟨.str (VL z lo hi),H,I.tok k,⟨t',rfl⟩,q⟩
 obtain⟨o,e1,e2,e3⟩:=hs
 cases pl with
 |none=>
  cases pu with
  |none=>exact Vy (l:=none) (u:=none) (st:=none) ⟨o,e1,e2,e3⟩ rfl (W0d ⟨Wz (Txt.slice_le z _ _) hz,λt' k=>fin t' k⟩)
  |int j tj=>exact Vy (l:=none) (u:=some (j,tj)) (st:=none) ⟨o,e1,e2,e3⟩ rfl (W0d ⟨Wz (Txt.slice_le z _ _) hz,λt' k=>fin t' k⟩)
 |int i ti=>
  cases pu with
  |none=>exact Vy (l:=some (i,ti)) (u:=none) (st:=none) ⟨o,e1,e2,e3⟩ rfl (W0d ⟨Wz (Txt.slice_le z _ _) hz,λt' k=>fin t' k⟩)
  |int j tj=>exact Vy (l:=some (i,ti)) (u:=some (j,tj)) (st:=none) ⟨o,e1,e2,e3⟩ rfl (W0d ⟨Wz (Txt.slice_le z _ _) hz,λt' k=>fin t' k⟩)
theorem Q1:∀{bs:List Bool} {us:List Value},ZQ (bs.map V.bl) us->us=bs.map Value.bool
 |[],_,h=>by cases h;rfl
 |b :: bs,_,h=>by
  cases h with
  |cons r t=>
   have e:=Q1 t
   rw [W5,←e,show _=Value.bool b from r]
theorem JO (bs:List Bool):((WY bs.length).all λi=>bs.getD i true)=bs.all id:=by
 rw [VV,Vd,Vd]
 constructor
 ·intro h b hb
  obtain⟨i,hi,rfl⟩:=List.mem_iff_getElem.mp hb
  have:=h i (W00.mpr hi)
  simpa [Vv,hi] using this
 ·intro h i hi
  have hi':=W00.mp hi
  have:=h bs[i] (List.getElem_mem hi')
  simpa [Vv,hi'] using this
theorem JN (bs:List Bool):((WY bs.length).any λi=>bs.getD i true)=bs.any id:=by
 rw [VV,List.any_eq_true,List.any_eq_true]
 constructor
 ·rintro⟨i,hi,h⟩
  have hi':=W00.mp hi
  exact⟨bs[i],List.getElem_mem hi',by simpa [Vv,hi'] using h⟩
 ·rintro⟨b,hb,h⟩
  obtain⟨i,hi,rfl⟩:=List.mem_iff_getElem.mp hb
  exact⟨i,W00.mpr hi,by simpa [Vv,hi] using h⟩
theorem Yp (prog:Program)(w:World)(A:Around)(bs:List Bool):TruthOf prog w A (λi v=>((bs.map Value.bool).toArray)[i]? = some v) (λi=>bs.getD i true):=by
 intro i v s Q E h q
 have h':bs[i]?.map Value.bool=some v:=by simpa using h
 cases e:bs[i]? with
 |none=>rw [e] at h';cases h'
 |some b=>
  rw [e] at h'
  cases h'
  have:bs.getD i true=b:=by simp [Vv,e]
  have q':Q (bs.getD i true) s:=q
  rw [this] at q'
  exact W0l q'
theorem Ui (hc:X.calm=true):YH X (.builtin "all") (λxs H Q=>∃(a:Addr) (bs:List Bool),xs=[.ref a]/\(SqL X.K H a (bs.map V.bl)\/SqT X.K H a (bs.map V.bl))/\Q (.bl (bs.all id)) H):=by
 intro pins s σ H xs us Q I r h
 obtain⟨a,bs,rfl,hq,q⟩:=h
 obtain⟨u,rfl,ru⟩:=JD r
 cases ru
 refine call_all_walk ?_
 rcases hq with hq|hq
 ·obtain⟨its,rv,p,hz⟩:=I.list hq
  have e:=Q1 rv
  subst e
  refine VF p.isList ?_
  have ne:a≠s.heap.objs.size:=by
   obtain⟨o,e,_⟩:=p.isList
   exact WD (Wo e)
  refine⟨_,_,_,_,_,_,λi=>bs.getD i true,rfl,Walks.list (A:=X.A.in1) (show X.A.in1.handled=none from I.ok.hd hc) _ a ne (bs.map Value.bool).toArray,⟨⟨_,Ws _ rfl,rfl,rfl⟩,p.isList.extBut (λb o _ e=>Wj _ e) ne⟩,Yp _ _ _ bs,λh' tk k=>?_⟩
  have e2:(List.map Value.bool bs).toArray.size=bs.length:=by simp
  rw [e2,JO]
  exact⟨.bl (bs.all id),H,I.kept (h':=h') (t':=tk) (λb o e=>k b o (by simp [WD (Wo e)]) (Wj _ e)),rfl,q⟩
 ·obtain⟨its,rv,p,hz⟩:=I.tuple hq
  have e:=Q1 rv
  subst e
  refine VB (show s.heap.IsTuple a (bs.map Value.bool).toArray from p) ?_
  have ne:a≠s.heap.objs.size:=WD p.lt
  refine⟨_,_,_,_,_,_,λi=>bs.getD i true,rfl,Walks.tuple (A:=X.A.in1) (show X.A.in1.handled=none from I.ok.hd hc) _ a ne (bs.map Value.bool).toArray,⟨⟨_,Ws _ rfl,rfl,rfl⟩,W0e (show s.heap.IsTuple a (bs.map Value.bool).toArray from p) (λb o _ e=>Wj _ e) ne⟩,Yp _ _ _ bs,λh' tk k=>?_⟩
  have e2:(List.map Value.bool bs).toArray.size=bs.length:=by simp
  rw [e2,JO]
  exact⟨.bl (bs.all id),H,I.kept (h':=h') (t':=tk) (λb o e=>k b o (by simp [WD (Wo e)]) (Wj _ e)),rfl,q⟩
theorem Uh (hc:X.calm=true):YH X (.builtin "any") (λxs H Q=>∃(a:Addr) (bs:List Bool),xs=[.ref a]/\(SqL X.K H a (bs.map V.bl)\/SqT X.K H a (bs.map V.bl))/\Q (.bl (bs.any id)) H):=by
 intro pins s σ H xs us Q I r h
 obtain⟨a,bs,rfl,hq,q⟩:=h
 obtain⟨u,rfl,ru⟩:=JD r
 cases ru
 refine call_any_walk ?_
 rcases hq with hq|hq
 ·obtain⟨its,rv,p,hz⟩:=I.list hq
  have e:=Q1 rv
  subst e
  refine VF p.isList ?_
  have ne:a≠s.heap.objs.size:=by
   obtain⟨o,e,_⟩:=p.isList
   exact WD (Wo e)
  refine⟨_,_,_,_,_,_,λi=>bs.getD i true,rfl,Walks.list (A:=X.A.in1) (show X.A.in1.handled=none from I.ok.hd hc) _ a ne (bs.map Value.bool).toArray,⟨⟨_,Ws _ rfl,rfl,rfl⟩,p.isList.extBut (λb o _ e=>Wj _ e) ne⟩,Yp _ _ _ bs,λh' tk k=>?_⟩
  have e2:(List.map Value.bool bs).toArray.size=bs.length:=by simp
  rw [e2,JN]
  exact⟨.bl (bs.any id),H,I.kept (h':=h') (t':=tk) (λb o e=>k b o (by simp [WD (Wo e)]) (Wj _ e)),rfl,q⟩
 ·obtain⟨its,rv,p,hz⟩:=I.tuple hq
  have e:=Q1 rv
  subst e
  refine VB (show s.heap.IsTuple a (bs.map Value.bool).toArray from p) ?_
  have ne:a≠s.heap.objs.size:=WD p.lt
  refine⟨_,_,_,_,_,_,λi=>bs.getD i true,rfl,Walks.tuple (A:=X.A.in1) (show X.A.in1.handled=none from I.ok.hd hc) _ a ne (bs.map Value.bool).toArray,⟨⟨_,Ws _ rfl,rfl,rfl⟩,W0e (show s.heap.IsTuple a (bs.map Value.bool).toArray from p) (λb o _ e=>Wj _ e) ne⟩,Yp _ _ _ bs,λh' tk k=>?_⟩
  have e2:(List.map Value.bool bs).toArray.size=bs.length:=by simp
  rw [e2,JN]
  exact⟨.bl (bs.any id),H,I.kept (h':=h') (t':=tk) (λb o e=>k b o (by simp [WD (Wo e)]) (Wj _ e)),rfl,q⟩
theorem Qh:∀{ys:List Str} {us:List Value},ZQ (ys.map V.str) us->StrsAre us ys
 |[],_,h=>by cases h;exact .nil
 |y :: ys,_,h=>by
  cases h with
  |cons r t=>
   obtain⟨tk,rfl⟩:=r
   exact .cons y tk (Qh t)
theorem RE:MtR X "str.join" (λx xs H Q=>∃(sep:Str) (a:Addr) (ys:List Str),x = .str sep/\xs=[.ref a]/\(SqL X.K H a (ys.map V.str)\/SqT X.K H a (ys.map V.str))/\(ys.map (·.length)).sum+ys.length*sep.length≤16777216/\Q (.str (W01 sep ys)) H):=by
 intro pins s σ H x xs v us Q I rx rs h
 obtain⟨sep,a,ys,rfl,rfl,hq,hz,q⟩:=h
 obtain⟨t,rfl⟩:=rx
 obtain⟨u,rfl,ru⟩:=JD rs
 cases ru
 rcases hq with hq|hq
 ·obtain⟨its,rv,p,_⟩:=I.list hq
  exact join_list p.isList (by simpa using Qh rv) hz λt' k=>⟨.str (W01 sep ys),H,I.tok k,⟨t',rfl⟩,q⟩
 ·obtain⟨its,rv,p,_⟩:=I.tuple hq
  exact join_tuple p (by simpa using Qh rv) hz λt' k=>⟨.str (W01 sep ys),H,I.tok k,⟨t',rfl⟩,q⟩
section
variable {tg:Expr} {pins:List (Addr×Obj)} {σ:St} {H1:Hp} {s1:Shared} {R:It->Hp->Prop} {E:Value->Shared->Prop} {a:Addr} {xs:List V}
theorem Nx (I1:Inv X pins σ H1 s1)(hq:SqL X.K H1 a xs)(q:R (Itl X.K a) H1):wpAny (model X.prog X.w) X.A (pyIter (.ref a)) (PIE X pins σ tg R) E s1:=by
 obtain⟨its,rv,p,hz⟩:=I1.list hq
 refine VF p.isList ?_
 refine⟨s1.heap.objs.size,[s1.heap.objs.size],_,_,H1,rfl,I1.kept (t':=s1.toks) λb o e=>Wj _ e,Gu a _,⟨_,Ws _ rfl,rfl,rfl⟩,λb hb=>?_,q⟩
 have e:b=s1.heap.objs.size:=by simpa using hb
 subst e
 exact I1.fpOk (Wu _) (I1.hok.fresh (Wu _))
theorem Rp (I1:Inv X pins σ H1 s1)(hq:SqT X.K H1 a xs)(q:R (Itt X.K a) H1):wpAny (model X.prog X.w) X.A (pyIter (.ref a)) (PIE X pins σ tg R) E s1:=by
 obtain⟨its,rv,p,hz⟩:=I1.tuple hq
 refine VB (show s1.heap.IsTuple a its.toArray from p) ?_
 refine⟨s1.heap.objs.size,[s1.heap.objs.size],_,_,H1,rfl,I1.kept (t':=s1.toks) λb o e=>Wj _ e,TN a _,⟨_,Ws _ rfl,rfl,rfl⟩,λb hb=>?_,q⟩
 have e:b=s1.heap.objs.size:=by simpa using hb
 subst e
 exact I1.fpOk (Wu _) (I1.hok.fresh (Wu _))
def Its (x:Str):It:=⟨λi _=>i<x.cps.size,λi H v H'=>H'=H/\∃c,x.cps[i]? = some c/\v = .str ⟨#[c]⟩,λi _=>i=x.cps.size⟩
theorem JB (P:Program)(w:World){A:Around}(hh:A.handled=none)(it:Addr)(x:Str)(t:Tok):Walks P w A it [it] [it] x.cps.size (SignAt x) (λi h=>h.IsStrIter it (strIterType x) x t i):=by
 cases ha:x.cps.all (· < 128)
 ·have e:strIterType x = "str_iterator":=by simp [strIterType,ha]
  rw [e];exact Walks.strWide hh it x t
 ·have e:strIterType x = "str_ascii_iterator":=by simp [strIterType,ha]
  rw [e];exact Walks.strAscii hh it x t
theorem No {P:Program}{w:World}{K:W4}(x:Str)(t:Tok)(it:Addr):Turn P w K tg (Its x) [it] it (λi h=>h.IsStrIter it (strIterType x) x t i) where
 mem:=by simp
 obj:=λi h st b hb=>by
  have e:b=it:=by simpa using hb
  subst e
  obtain⟨o,e,c,d⟩:=st
  exact⟨o,e,λv z=>by rw [d] at z;cases z⟩
 keep:=λi h h' st k=>let ⟨o,e,r⟩:=st;⟨o,k it (by simp) o e,r⟩
 item:=by
  intro X hP hw hK hc i pins s σ H E I hf st hg
  subst hP hw hK
  obtain⟨f0,f1,f2,f3,f4,f5⟩:=hf it (by simp)
  refine (JB X.prog X.w (I.ok.hd hc) it x t).item i s _ _ hg st λv h' tk hv st' kk=>?_
  obtain⟨c,u,hc',rfl⟩:=hv
  have I1:Inv X pins σ H { s with heap:=h',toks:=tk }:=I.turned (λb o hb e=>kk b o (by simpa using hb) e) f0 f1 f3 f4 f5
  obtain⟨o,e1,e2,e3⟩:=id st'
  refine⟨_,rfl,?_⟩
  have fin:∃y H',Inv X pins σ H' { s with heap:=h',toks:=tk }/\ZS y (.str ⟨#[c]⟩ u)/\(Its x).yld i H y H'/\Heap.IsStrIter h' it (strIterType x) x t (i+1)/\∀b∈[it],H' b=none:=⟨.str ⟨#[c]⟩,H,I1,⟨u,rfl⟩,⟨rfl,c,hc',rfl⟩,st',λb hb=>(hf b hb).1⟩
  unfold letOwnedTupleGo
  cases tg<;>exact Wm fin
 done:=by
  intro X hP hw hK hc i pins s σ H E I hf st hg
  subst hP hw hK
  obtain⟨f0,f1,f2,f3,f4,f5⟩:=hf it (by simp)
  have hi:i=x.cps.size:=hg
  subst hi
  exact (JB X.prog X.w (I.ok.hd hc) it x t).done s _ _ st λh' tk kk=>⟨rfl,I.turned (λb o hb e=>kk b o (by simpa using hb) e) f0 f1 f3 f4 f5⟩
 self:=λA i s Q E st h=>by
  cases ha:x.cps.all (· < 128)
  ·have e:strIterType x = "str_iterator":=by simp [strIterType,ha]
   rw [e] at st;exact wpAny_pyIter_striter_wide st h
  ·have e:strIterType x = "str_ascii_iterator":=by simp [strIterType,ha]
   rw [e] at st;exact wpAny_pyIter_striter_ascii st h
theorem Rq {x:Str}{t:Tok}(I1:Inv X pins σ H1 s1)(q:R (Its x) H1):wpAny (model X.prog X.w) X.A (pyIter (.str x t)) (PIE X pins σ tg R) E s1:=by
 refine wpAny_pyIter_strU ?_
 refine⟨s1.heap.objs.size,[s1.heap.objs.size],_,_,H1,rfl,I1.kept (t':=s1.toks) λb o e=>Wj _ e,No x t _,⟨_,Ws _ rfl,rfl,rfl⟩,λb hb=>?_,q⟩
 have e:b=s1.heap.objs.size:=by simpa using hb
 subst e
 exact I1.fpOk (Wu _) (I1.hok.fresh (Wu _))
end
def HD (X:Cx)(tl:TE):TI:=λσ H R=>tl σ H λx H1=>(∃a xs,x = .ref a/\SqL X.K H1 a xs/\R (Itl X.K a) H1)\/(∃a xs,x = .ref a/\SqT X.K H1 a xs/\R (Itt X.K a) H1)\/(∃z,x = .str z/\R (Its z) H1)\/
 (∃a kvs,x = .ref a/\H1 a=some (.dK kvs)/\∀o,(∀o u,X.H₀ a≠some (.frz o u))->R (Itk a o) (upd H1 a (.frz o (.dK kvs))))\/(∃a o kvs,x = .ref a/\H1 a=some (.frz o (.dK kvs))/\R (Itk a o) H1)\/
 ∃a,x = .ref a/\H1 a=some (.dT [])/\∀o,(∀o u,X.H₀ a≠some (.frz o u))->R (Itk a o) (upd H1 a (.frz o (.dK [])))
theorem Lk {tg l:Expr}{tl:TE}(hl:PE X l tl):PI X tg l (HD X tl):=by
 intro pins s σ H R I h
 refine thn (hl pins s σ H _ I h) λv s1 ⟨x,H1,I1,r1,q1⟩=>?_
 rcases q1 with ⟨a,xs,rfl,hq,q⟩|⟨a,xs,rfl,hq,q⟩|⟨z,rfl,q⟩|⟨a,kvs,rfl,hq,q⟩|⟨a,o,kvs,rfl,hq,q⟩|⟨a,rfl,hq,q⟩
 ·cases r1;exact Nx I1 hq q
 ·cases r1;exact Rp I1 hq q
 ·obtain⟨t,rfl⟩:=r1;exact Rq I1 q
 ·cases r1;exact T9 I1 hq q
 ·cases r1;exact GR I1 hq q
 ·cases r1
  refine T9 (I1.asK hq) Zg λo hn=>?_
  rw [KU]
  exact q o hn
end
end L2
namespace DL
open PySem PySem.Spec PyProof.Rows L2
section
variable {X:Cx} {e a b c:Expr} {es:List Expr} {pos:Pos}
def ZW:D->D->Sto->Option (D×Sto)
 | .int i,.int j,S=>some (.int (i+j),S)
 | .str x,.str y,S=>if x.length+y.length≤Wk then some (.str (x++y),S) else none
 | .tup xs,.tup ys,S=>if xs.length+ys.length≤Wk then some (.tup (xs++ys),S) else none
 | .ref n,.ref m,S=>match S[n]?,S[m]? with
  |some (.lst xs),some (.lst ys)=>if xs.length+ys.length≤Wk then some (.ref S.length,S++[.lst (xs++ys)]) else none
  |_,_=>none
 |_,_,_=>none
theorem Zh:OpD X (binaryOp .Add) ZW:=by
 refine YZ (LE.or (TY.or (NB.or (RC.or LD)))) ?_
 rintro x y H Q ⟨ρ,S,d1,d2,v,S',R,h1,h2,e,k⟩
 cases d1 with
 |int i=>
  cases d2 with
  |int j=>
   cases e
   exact .inl ⟨i,j,h1.of_int,h2.of_int,k _ ρ H Ext.refl R .flat_int⟩
  |_=>cases e
 |str i=>
  cases d2 with
  |str j=>
   dsimp only [ZW] at e
   split at e
   ·cases e
    exact .inr (.inl ⟨i,j,h1.of_str,h2.of_str,by assumption,k _ ρ H Ext.refl R .flat_str⟩)
   ·cases e
  |_=>cases e
 |tup xs=>
  cases d2 with
  |tup ys=>
   dsimp only [ZW] at e
   split at e
   ·rename_i hz
    cases e
    obtain⟨a,us,rfl,a1,a2⟩:=h1.of_tup
    obtain⟨b,ws,rfl,b1,b2⟩:=h2.of_tup
    cases xs with
    |nil=>
     have:us=[]:=by unfold DsR at a2;exact a2
     subst this
     exact .inr (.inr (.inl ⟨a,b,ws,rfl,rfl,.of a1,.of b1,k _ ρ H Ext.refl R (.tup b1 b2)⟩))
    |cons x0 xs=>
     refine .inr (.inr (.inr (.inl ⟨a,b,us,ws,rfl,rfl,.of a1,.of b1,?_,by rw [←a2.length,←b2.length];exact hz,λhw=>?_,λhw p hp=>?_⟩)))
     ·intro z
      rw [z] at a2
      have:=a2.length
      simp at this
     ·subst hw
      have:ys=[]:=by
       have:=b2.length
       simpa using this
      subst this
      rw [VP] at k
      exact k _ ρ H Ext.refl R (.tup a1 a2)
     ·exact k _ ρ _ (Ext.new hp) (R.new hp) (.tup Zg ((a2.append b2).up (Ext.new hp)))
   ·cases e
  |_=>cases e
 |ref n=>
  cases d2 with
  |ref m=>
   obtain⟨a,a1,rfl⟩:=h1.of_ref
   obtain⟨b,b1,rfl⟩:=h2.of_ref
   obtain⟨oa,ea,ra⟩:=R.obj a1
   obtain⟨ob,eb,rb⟩:=R.obj b1
   dsimp only [ZW] at e
   rw [ea,eb] at e
   cases oa with
   |lst xs=>
    cases ob with
    |lst ys=>
     dsimp only at e
     split at e
     ·rename_i hz
      cases e
      obtain⟨us,u1,u2⟩:=ra
      obtain⟨ws,w1,w2⟩:=rb
      refine .inr (.inr (.inr (.inr ⟨a,b,us,ws,rfl,rfl,u1,w1,by rw [←u2.length,←w2.length];exact hz,λp hp=>?_⟩)))
      refine k _ (ρ++[p]) _ (Ext.newRef hp) (R.push hp ⟨_,Zg,(u2.append w2).up (Ext.newRef hp)⟩) (.ref ?_)
      rw [←R.len];simp
     ·cases e
    |dct _=>cases e
    |fdct _=>cases e
    |ins _ _=>cases e
   |dct _=>cases e
   |fdct _=>cases e
   |ins _ _=>cases e
  |_=>cases e
 |_=>cases e
def Pf (C:Int->Int->Bool)(f:Int->Int->D):D->D->Sto->Option (D×Sto)
 | .int i,.int j,S=>if C i j then some (f i j,S) else none
 |_,_,_=>none
theorem RA {f:Value->Value->Sem Value}{C:Int->Int->Prop}{Cb:Int->Int->Bool}{g:Int->Int->V}{gd:Int->Int->D}(h:OpR X f (rI C g))(hC:∀i j,Cb i j=true->C i j)(hg:∀ρ H i j,DR X.K ρ H (gd i j) (g i j)):OpD X f (Pf Cb gd):=by
 refine YZ h ?_
 rintro x y H Q ⟨ρ,S,d1,d2,v,S',R,h1,h2,e,k⟩
 cases d1 with
 |int i=>
  cases d2 with
  |int j=>
   dsimp only [Pf] at e
   split at e
   ·cases e
    exact⟨i,j,h1.of_int,h2.of_int,hC i j (by assumption),k _ ρ H Ext.refl R (hg ρ H i j)⟩
   ·cases e
  |_=>cases e
 |_=>cases e
theorem Jk {f:Value->Value->Sem Value}{g:Int->Int->V}{gd:Int->Int->D}(h:OpR X f (rI0 g))(hg:∀ρ H i j,DR X.K ρ H (gd i j) (g i j)):OpD X f (Pf (λ_ _=>true) gd):=by
 refine YZ h ?_
 rintro x y H Q ⟨ρ,S,d1,d2,v,S',R,h1,h2,e,k⟩
 cases d1 with
 |int i=>
  cases d2 with
  |int j=>
   cases e
   exact⟨i,j,h1.of_int,h2.of_int,k _ ρ H Ext.refl R (hg ρ H i j)⟩
  |_=>cases e
 |_=>cases e
def Kl:D->D->Sto->Option (D×Sto):=Pf (λ_ _=>true) λi j=>.int (i-j)
theorem UA:OpD X (binaryOp .Sub) Kl:=Jk Ly λ_ _ _ _=>.flat_int
def Pe:D->D->Sto->Option (D×Sto):=Pf (λ_ j=>decide (0<j)) λi j=>.int (i%j)
theorem QE:OpD X (binaryOp .Mod) Pe:=RA LA (λ_ _ h=>of_decide_eq_true h) λ_ _ _ _=>.flat_int
def LI (z:Str)(n:Int):Bool:=decide (0≤n/\n≤1000/\z.length≤1000)
def Gh:D->D->Sto->Option (D×Sto)
 | .int i,.int j,S=>if (-(2 ^ 64)<i/\i<2 ^ 64)\/(-(2 ^ 64)<j/\j<2 ^ 64) then some (.int (i*j),S) else none
 | .str z,.int n,S=>if LI z n then some (.str (W0c z n),S) else none
 |_,_,_=>none
theorem NC {z:Str}{n:Int}(h:LI z n=true):MulOk z n:=by
 obtain⟨h1,h2,h3⟩:=of_decide_eq_true h
 refine⟨?_,λa b=>?_,λa b=>?_⟩
 ·have e1:decide (n < -(2 ^ 63:Int))=false:=decide_eq_false (by omega)
  have e2:decide (n≥2 ^ 63)=false:=decide_eq_false (by omega)
  rw [e1,e2];rfl
 ·intro q
  have hb:(1000:Int)≤(2 ^ 63-1) / n:=by
   rw [Int.le_ediv_iff_mul_le (by omega)]
   omega
  omega
 ·have hm:z.length*n.toNat≤1000*1000:=Nat.mul_le_mul h3 (by omega)
  unfold Builtin.Str.tooLong
  have hs:Wk=16777216:=VZ
  first
   | (rw [decide_eq_false];omega)
   | (simp;omega)
theorem QD:OpD X (binaryOp .Mult) Gh:=by
 refine YZ (Lz.or TX) ?_
 rintro x y H Q ⟨ρ,S,d1,d2,v,S',R,h1,h2,e,k⟩
 cases d1 with
 |int i=>
  cases d2 with
  |int j=>
   dsimp only [Gh] at e
   split at e
   ·cases e
    exact .inl ⟨i,j,h1.of_int,h2.of_int,by assumption,k _ ρ H Ext.refl R .flat_int⟩
   ·cases e
  |_=>cases e
 |str z=>
  cases d2 with
  |int j=>
   dsimp only [Gh] at e
   split at e
   ·cases e
    exact .inr ⟨z,j,h1.of_str,h2.of_int,NC (by assumption),k _ ρ H Ext.refl R .flat_str⟩
   ·cases e
  |_=>cases e
 |_=>cases e
def gGt:D->D->Sto->Option (D×Sto):=Pf (λ_ _=>true) λi j=>.bl (decide (j<i))
theorem M6:OpD X (compareOp .Gt) gGt:=Jk Ea λ_ _ _ _=>.flat_bl
def gGe:D->D->Sto->Option (D×Sto):=Pf (λ_ _=>true) λi j=>.bl (decide (j≤i))
theorem M7:OpD X (compareOp .GtE) gGe:=Jk Eb λ_ _ _ _=>.flat_bl
def gLe:D->D->Sto->Option (D×Sto)
 | .int i,.int j,S=>some (.bl (decide (i≤j)),S)
 | .str i,.str j,S=>some (.bl (!decide (j.cps.toList<i.cps.toList)),S)
 |_,_,_=>none
theorem Lx:OpD X (compareOp .LtE) gLe:=by
 refine YZ (E9.or GX) ?_
 rintro x y H Q ⟨ρ,S,d1,d2,v,S',R,h1,h2,e,k⟩
 cases d1 with
 |int i=>
  cases d2 with
  |int j=>cases e;exact .inl ⟨i,j,h1.of_int,h2.of_int,k _ ρ H Ext.refl R .flat_bl⟩
  |_=>cases e
 |str i=>
  cases d2 with
  |str j=>cases e;exact .inr ⟨i,j,h1.of_str,h2.of_str,k _ ρ H Ext.refl R .flat_bl⟩
  |_=>cases e
 |_=>cases e
def isD:D->D->Option Bool
 | .bl b,.bl c=>some (b == c)
 |_,.bl _=>some false
 | .non,.non=>some true
 |_,.non=>some false
 |_,_=>none
def gIs:D->D->Sto->Option (D×Sto):=λa b S=>(isD a b).map λr=>(.bl r,S)
def YY:D->D->Sto->Option (D×Sto):=λa b S=>(isD a b).map λr=>(.bl (!r),S)
theorem Kd {K:W4}{ρ:List Addr}{H:Hp}{d:D}{x:V}{c r:Bool}(h:DR K ρ H d x)(e:isD d (.bl c)=some r):decide (x = .bl c)=r:=by
 cases d with
 |bl b=>rw [h.of_bl];cases e;cases b<;>cases c<;>rfl
 |non=>rw [h.of_non];cases e;rfl
 |int i=>rw [h.of_int];cases e;rfl
 |str i=>rw [h.of_str];cases e;rfl
 |tup xs=>obtain⟨a,us,rfl,_⟩:=h.of_tup;cases e;rfl
 |ref n=>obtain⟨a,_,rfl⟩:=h.of_ref;cases e;rfl
 |scr ns=>obtain⟨a,rfl,_⟩:=h.of_scr;cases e;rfl
theorem BI {K:W4}{ρ:List Addr}{H:Hp}{d:D}{x:V}{r:Bool}(h:DR K ρ H d x)(e:isD d .non=some r):decide (x = .non)=r:=by
 cases d with
 |bl b=>rw [h.of_bl];cases e;rfl
 |non=>rw [h.of_non];cases e;rfl
 |int i=>rw [h.of_int];cases e;rfl
 |str i=>rw [h.of_str];cases e;rfl
 |tup xs=>obtain⟨a,us,rfl,_⟩:=h.of_tup;cases e;rfl
 |ref n=>obtain⟨a,_,rfl⟩:=h.of_ref;cases e;rfl
 |scr ns=>obtain⟨a,rfl,_⟩:=h.of_scr;cases e;rfl
theorem U6 {d1 d2:D}{r:Bool}(e:isD d1 d2=some r):(∃c,d2 = .bl c)\/d2 = .non:=by
 cases d2 with
 |bl c=>exact .inl ⟨c,rfl⟩
 |non=>exact .inr rfl
 |_=>cases d1<;>cases e
theorem M5:OpD X (compareOp .Is) gIs:=by
 refine YZ (LC.or LB) ?_
 rintro x y H Q ⟨ρ,S,d1,d2,v,S',R,h1,h2,e,k⟩
 obtain⟨r,e1,e2⟩:=Wi.mp e
 cases e2
 rcases U6 e1 with ⟨c,rfl⟩|rfl
 ·exact .inl ⟨c,h2.of_bl,by rw [Kd h1 e1];exact k _ ρ H Ext.refl R .flat_bl⟩
 ·exact .inr ⟨h2.of_non,by rw [BI h1 e1];exact k _ ρ H Ext.refl R .flat_bl⟩
theorem Y6:OpD X (compareOp .IsNot) YY:=by
 refine YZ (GY.or RB) ?_
 rintro x y H Q ⟨ρ,S,d1,d2,v,S',R,h1,h2,e,k⟩
 obtain⟨r,e1,e2⟩:=Wi.mp e
 cases e2
 rcases U6 e1 with ⟨c,rfl⟩|rfl
 ·exact .inl ⟨c,h2.of_bl,by rw [Kd h1 e1];exact k _ ρ H Ext.refl R .flat_bl⟩
 ·exact .inr ⟨h2.of_non,by rw [BI h1 e1];exact k _ ρ H Ext.refl R .flat_bl⟩
def gIx:D->D->Sto->Option (D×Sto)
 | .tup xs,.int i,S=>(atI xs i).map λd=>(d,S)
 | .str z,.int i,S=>if z.length≤Wk then (atI z.cps.toList i).map λc=>(.str ⟨#[c]⟩,S) else none
 | .scr ns,.int i,S=>(atI ns i).map λn=>(.int n,S)
 | .ref n,k,S=>match S[n]? with
  |some (.lst xs)=>(match k with | .int i=>(atI xs i).map λd=>(d,S)|_=>none)
  |_=>(Pj S n k).bind λkvs=>(Gi kvs k).map λd=>(d,S)
 |_,_,_=>none
theorem Pr {K:W4}{ρ:List Addr}{H:Hp}{ds:List D}{xs:List V}{i:Int}{d:D}(h:DsR K ρ H ds xs)(e:atI ds i=some d):∃x,atI xs i=some x/\DR K ρ H d x:=by
 unfold atI at e ⊢
 rw [h.length] at e
 obtain⟨j,e1,e2⟩:=W0.mp e
 obtain⟨x,h1,h2⟩:=h.get e2
 exact⟨x,by rw [e1];exact h1,h2⟩
theorem Ps {α β:Type}{f:α->β}{xs:List α}{i:Int}{a:α}(h:atI xs i=some a):atI (xs.map f) i=some (f a):=by
 unfold atI at h ⊢
 rw [Wp]
 obtain⟨j,e1,e2⟩:=W0.mp h
 rw [e1]
 show (xs.map f)[j]? = _
 rw [WS,e2];rfl
def EN:R2:=λx y H Q=>∃a v,x = .ref a/\UY H a y (some v)/\Q v H
theorem P3 (hu:X.A.units+64<cLine):IxR X EN:=by
 intro value slice pins s σ H x y v u Q I rx ry h hs
 obtain⟨a,z,rfl,g,q⟩:=h
 cases rx
 have g':=g.ofSome
 exact tail_any (UR I g') PySem.F.slot_dict_getitem.lookup (BX (by omega) I g' ry λw' s3 I3 rw'=>⟨z,H,I3,rw',q⟩) hs
theorem RZ {K:W4}{x y:V}{H:Hp}{Q:VK}(h:rD K gIx x y H Q):rIx K x y H Q\/EN x y H Q:=by
 obtain⟨ρ,S,d1,d2,v,S',R,h1,h2,e,k⟩:=h
 have seq:∀{a:Addr} {xs:List V} {ds:List D} {i:Int},x = .ref a->d2 = .int i->(SqL K H a xs\/SqT K H a xs)->DsR K ρ H ds xs->(atI ds i).map (λd=>(d,S))=some (v,S')->rIx K x y H Q:=by
  intro a xs ds i ex ei hs hd em
  subst ex ei
  obtain⟨d,e1,e2⟩:=Wi.mp em
  cases e2
  obtain⟨z,z1,z2⟩:=Pr hd e1
  rcases hs with hs|hs
  ·exact .inl ⟨a,xs,i,z,rfl,h2.of_int,hs,z1,k _ ρ H Ext.refl R z2⟩
  ·exact .inr (.inl ⟨a,xs,i,z,rfl,h2.of_int,hs,z1,k _ ρ H Ext.refl R z2⟩)
 cases d1 with
 |tup ds=>
  cases d2 with
  |int i=>
   obtain⟨a,xs,rfl,a1,a2⟩:=h1.of_tup
   exact .inl (seq rfl rfl (.inr (.of a1)) a2 e)
  |_=>cases e
 |str z=>
  cases d2 with
  |int i=>
   dsimp only [gIx] at e
   split at e
   ·rename_i hz
    obtain⟨c,e1,e2⟩:=Wi.mp e
    cases e2
    exact .inl (.inr (.inr ⟨z,i,c,h1.of_str,h2.of_int,hz,e1,k _ ρ H Ext.refl R .flat_str⟩))
   ·cases e
  |_=>cases e
 |scr ns=>
  cases d2 with
  |int i=>
   obtain⟨d,e1,e2⟩:=Wi.mp e
   cases e2
   obtain⟨a,rfl,a1⟩:=h1.of_scr
   exact .inl (.inl ⟨a,_,i,_,rfl,h2.of_int,a1.seq,Ps e1,k _ ρ H Ext.refl R .flat_int⟩)
  |_=>cases e
 |ref n=>
  obtain⟨a,a1,rfl⟩:=h1.of_ref
  dsimp only [gIx] at e
  split at e
  ·rename_i xs hn
   obtain⟨ob,eo,ro⟩:=R.obj a1
   rw [hn] at eo
   cases eo
   obtain⟨ys,y1,y2⟩:=ro
   cases d2 with
   |int i=>exact .inl (seq rfl rfl (.inl (.of y1)) y2 e)
   |_=>cases e
  ·obtain⟨kvs,e3,e⟩:=W0.mp e
   obtain⟨d,e1,e2⟩:=Wi.mp e
   cases e2
   obtain⟨g1,_⟩:=Pi R a1 e3 h2
   obtain⟨z,z1,z2⟩:=g1 _ e1
   exact .inr ⟨a,z,rfl,z1,k _ ρ H Ext.refl R z2⟩
 |_=>cases d2<;>cases e
theorem Y2 {ma mb:M D}(hu:X.A.units+64<cLine)(ha:SE X a ma)(hb:SE X b mb)(hs:Nd b:=by intro _ _;rfl):SE X (.Subscript a b pos) (mOp gIx ma mb):=by
 refine Zw (E6 (FG.or (P3 hu)) ha hb hs) ?_
 intro σ H Q h
 obtain⟨ρ,en,S,v,S',E,R,e,k⟩:=Jl h
 exact⟨ρ,en,S,v,S',E,R,e,λx ρ1 H1 X1 R1 d1=>by
  obtain⟨ρ2,en2,S2,v2,S2',E2,R2,e2,k2⟩:=k x ρ1 H1 X1 R1 d1
  exact⟨ρ2,en2,S2,v2,S2',E2,R2,e2,λy ρ3 H3 X3 R3 d3=>RZ (k2 y ρ3 H3 X3 R3 d3)⟩⟩
def Nk {α:Type}(xs:List α)(lo hi:Option Int):List α:=(xs.drop (HT.sIx xs.length 0 lo)).take (HT.sIx xs.length xs.length hi-HT.sIx xs.length 0 lo)
def slD:D->Option Int->Option Int->Sto->Option (D×Sto)
 | .str z,lo,hi,S=>if z.length≤Wk then some (.str (VL z lo hi),S) else none
 | .tup ds,lo,hi,S=>some (.tup (Nk ds lo hi),S)
 | .ref n,lo,hi,S=>match S[n]? with|some (.lst ds)=>some (.ref S.length,S++[.lst (Nk ds lo hi)])|_=>none
 |_,_,_,_=>none
def Qt (m:M D):M (Option Int):=λen S=>(m en S).bind λp=>match p.1 with | .int i=>some (some i,p.2)|_=>none
def Jo:M (Option Int):=λ_ S=>some (none,S)
def tMO (K:W4)(m:M (Option Int)):TO:=λσ H Q=>∃ρ en S o S',EnR K ρ H en σ/\StR K ρ H S/\m en S=some (o,S')/\∀ρ' H',Ext ρ H ρ' H'->StR K ρ' H' S'->Q o H'
def SO (X:Cx)(e:Option Expr)(m:M (Option Int)):Prop:=PO X e (tMO X.K m)
theorem GH:SO X none Jo:=by
 intro pins s σ H Q I q
 obtain⟨ρ,en,S,o,S',E,R,e,k⟩:=q
 cases e
 exact Rn pins s σ H Q I (k ρ H Ext.refl R)
theorem YB {m:M D}(h:SE X e m):SO X (some e) (Qt m):=by
 intro pins s σ H Q I q
 refine Rm h pins s σ H Q I ?_
 obtain⟨ρ,en,S,o,S',E,R,e,k⟩:=q
 unfold Qt at e
 obtain⟨p,e1,e⟩:=W0.mp e
 obtain⟨d,S1⟩:=p
 cases d with
 |int i=>
  cases e
  exact⟨ρ,en,S,.int i,_,E,R,e1,λx ρ1 H1 X1 R1 d1=>⟨i,d1.of_int,k ρ1 H1 X1 R1⟩⟩
 |_=>cases e
def mSl (m:M D)(lo hi:M (Option Int)):M D:=λen S=>(m en S).bind λp=>(lo en p.2).bind λl=>(hi en l.2).bind λu=>slD p.1 l.1 u.1 u.2
theorem Q5 {lo hi:Option Expr}{p2:Pos}{m:M D}{ml mh:M (Option Int)}(he:SE X e m)(hl:SO X lo ml)(hh:SO X hi mh):SE X (.Subscript e (.Slice lo hi none p2) pos) (mSl m ml mh):=by
 refine Zw (Nz (PZ.or ((PY.or R9).or Jh)) he hl hh) ?_
 rintro σ H Q ⟨ρ,en,S,v,S',E,R,e,k⟩
 unfold mSl at e
 obtain⟨p,e1,e⟩:=W0.mp e
 obtain⟨l,e2,e⟩:=W0.mp e
 obtain⟨u,e3,e⟩:=W0.mp e
 refine⟨ρ,en,S,p.1,p.2,E,R,e1,λx ρ1 H1 X1 R1 d1=>⟨ρ1,en,p.2,l.1,l.2,E.up X1,R1,e2,λρ2 H2 X2 R2=>⟨ρ2,en,l.2,u.1,u.2,(E.up X1).up X2,R2,e3,λρ3 H3 X3 R3=>?_⟩⟩⟩
 have d3:=(d1.up X2).up X3
 have XX:=(X1.trans X2).trans X3
 obtain⟨d,S1⟩:=p
 dsimp only at d3 e
 cases d with
 |str z=>
  dsimp only [slD] at e
  split at e
  ·cases e
   exact .inl ⟨z,d3.of_str,by assumption,k _ ρ3 H3 XX R3 .flat_str⟩
  ·cases e
 |tup ds=>
  dsimp only [slD] at e
  cases e
  obtain⟨a,xs,rfl,a1,a2⟩:=d3.of_tup
  have cut:DsR X.K ρ3 H3 (Nk ds l.1 u.1) (Nj xs l.1 u.1):=by
   unfold Nk Nj
   rw [a2.length]
   exact (a2.drop _).take _
  by_cases hw:HT.sIx xs.length 0 l.1=0/\HT.sIx xs.length xs.length u.1=xs.length
  ·refine .inr (.inl (.inr ⟨a,xs,rfl,.of a1,hw,?_⟩))
   have e4:Nk ds l.1 u.1=ds:=by
    unfold Nk
    rw [a2.length,hw.1,hw.2,←a2.length]
    simp
   rw [e4] at k
   exact k _ ρ3 H3 XX R3 (.tup a1 a2)
  ·exact .inr (.inl (.inl ⟨a,xs,rfl,.of a1,hw,λq hq=>k _ ρ3 _ (XX.trans (Ext.new hq)) (R3.new hq) (.tup Zg (cut.up (Ext.new hq)))⟩))
 |ref n=>
  obtain⟨a,a1,rfl⟩:=d3.of_ref
  obtain⟨ob,eo,ro⟩:=R3.obj a1
  dsimp only [slD] at e
  rw [eo] at e
  cases ob with
  |lst ds=>
   cases e
   obtain⟨xs,x1,x2⟩:=ro
   have cut:DsR X.K ρ3 H3 (Nk ds l.1 u.1) (Nj xs l.1 u.1):=by
    unfold Nk Nj
    rw [x2.length]
    exact (x2.drop _).take _
   refine .inr (.inr ⟨a,xs,rfl,.of x1,λq hq=>?_⟩)
   refine k _ (ρ3++[q]) _ (XX.trans (Ext.newRef hq)) (R3.push hq ⟨_,Zg,cut.up (Ext.newRef hq)⟩) (.ref ?_)
   rw [←R3.len];simp
  |dct _=>cases e
  |fdct _=>cases e
  |ins _ _=>cases e
 |_=>cases e
def Qg:List D->Option (List Bool)
 |[]=>some []
 | .bl b :: r=>(Qg r).map λbs=>b :: bs
 |_=>none
theorem QL {K:W4}{ρ:List Addr}{H:Hp}:∀{ds:List D} {xs:List V} {bs:List Bool},DsR K ρ H ds xs->Qg ds=some bs->xs=bs.map V.bl
 |[],xs,bs,h,e=>by
  cases e
  unfold DsR at h;rw [h];rfl
 |d :: ds,xs,bs,h,e=>by
  unfold DsR at h
  obtain⟨x,r,rfl,h1,h2⟩:=h
  cases d with
  |bl b=>
   obtain⟨cs,e1,e2⟩:=Wi.mp e
   cases e2
   rw [W5,h1.of_bl,QL h2 e1]
  |_=>cases e
def JG:List D->Option (List Str)
 |[]=>some []
 | .str b :: r=>(JG r).map λbs=>b :: bs
 |_=>none
theorem T1 {K:W4}{ρ:List Addr}{H:Hp}:∀{ds:List D} {xs:List V} {bs:List Str},DsR K ρ H ds xs->JG ds=some bs->xs=bs.map V.str
 |[],xs,bs,h,e=>by
  cases e
  unfold DsR at h;rw [h];rfl
 |d :: ds,xs,bs,h,e=>by
  unfold DsR at h
  obtain⟨x,r,rfl,h1,h2⟩:=h
  cases d with
  |str b=>
   obtain⟨cs,e1,e2⟩:=Wi.mp e
   cases e2
   rw [W5,h1.of_str,T1 h2 e1]
  |_=>cases e
def Py (m:M (List D)):M D:=λen S=>(m en S).bind λp=>(Qg p.1).map λbs=>(.bl (bs.all id),p.2)
def LT (m:M (List D)):M D:=λen S=>(m en S).bind λp=>(Qg p.1).map λbs=>(.bl (bs.any id),p.2)
theorem M0 {p:Pos}{m:M (List D)}(hc:X.calm=true)(h:SQ X e m)(hg:Gl X "all")(hm:X.mg "all" = none)(hv:Ww "all" = some (.builtin "all"))
  (he:Wr [e] X.env=(false,eval e X.env) :: Wr [] X.env:=by rfl):SE X (.Call (.Name "all" p) [e] [] pos) (Py m):=by
 refine Zw (Yr (Ui hc) hg hm hv (Zr h Y5 he) (by decide) (by decide) he (by rfl)) ?_
 rintro σ H Q ⟨ρ,en,S,v,S',E,R,e,k⟩
 unfold Py at e
 obtain⟨r,e1,e⟩:=W0.mp e
 obtain⟨bs,e2,e3⟩:=Wi.mp e
 cases e3
 refine⟨ρ,en,S,r.1,r.2,E,R,e1,λa xs ρ1 H1 X1 R1 sq d1=>⟨a,bs,rfl,?_,k _ ρ1 H1 X1 R1 .flat_bl⟩⟩
 rw [←QL d1 e2];exact sq
theorem L6 {p:Pos}{m:M (List D)}(hc:X.calm=true)(h:SQ X e m)(hg:Gl X "any")(hm:X.mg "any" = none)(hv:Ww "any" = some (.builtin "any"))
  (he:Wr [e] X.env=(false,eval e X.env) :: Wr [] X.env:=by rfl):SE X (.Call (.Name "any" p) [e] [] pos) (LT m):=by
 refine Zw (Yr (Uh hc) hg hm hv (Zr h Y5 he) (by decide) (by decide) he (by rfl)) ?_
 rintro σ H Q ⟨ρ,en,S,v,S',E,R,e,k⟩
 unfold LT at e
 obtain⟨r,e1,e⟩:=W0.mp e
 obtain⟨bs,e2,e3⟩:=Wi.mp e
 cases e3
 refine⟨ρ,en,S,r.1,r.2,E,R,e1,λa xs ρ1 H1 X1 R1 sq d1=>⟨a,bs,rfl,?_,k _ ρ1 H1 X1 R1 .flat_bl⟩⟩
 rw [←QL d1 e2];exact sq
def Mb:D->Sto->Option Nat
 | .str x,_=>if x.length≤Wk then some x.length else none
 | .tup ds,_=>some ds.length
 | .ref n,S=>match S[n]? with|some (.lst ds)=>some ds.length|some (.dct kvs)=>some kvs.length|some (.fdct kvs)=>some kvs.length|_=>none
 | .scr ns,_=>some ns.length
 |_,_=>none
def UF (m:M D):M D:=λen S=>(m en S).bind λp=>(Mb p.1 p.2).map λn=>(.int n,p.2)
theorem QT:YH X (.builtin "len") (λxs H Q=>∃a,xs=[V.ref a]/\((∃kvs,Rd H a (.dK kvs)/\Q (.int kvs.length) H)\/∃kvs,Rd H a (.dT kvs)/\Q (.int kvs.length) H)):=by
 intro pins s σ H xs us Q I rx h
 obtain⟨a,rfl,h⟩:=h
 obtain⟨u,rfl,ru⟩:=ZQ.one rx
 cases ru
 rcases h with ⟨kvs,h1,q⟩|⟨kvs,h1,q⟩
 ·exact EB I h1 λt s' I'=>⟨.int kvs.length,H,I',⟨t,rfl⟩,q⟩
 ·obtain⟨hz,hS,xs,r,m⟩:=BU I.hok h1
  have hlen:kvs.length=xs.length:=W05 r
  have hs:Wk=16777216:=VZ
  refine Jv hS m (by omega) ?_
  rw [←hlen]
  exact⟨.int kvs.length,H,I.tok _,⟨_,rfl⟩,q⟩
theorem YC {p:Pos}{m:M D}(h:SE X e m)(hg:Gl X "len")(hm:X.mg "len" = none)(hv:Ww "len" = some (.builtin "len"))
  (he:Wr [e] X.env=(false,eval e X.env) :: Wr [] X.env:=by rfl):SE X (.Call (.Name "len" p) [e] [] pos) (UF m):=by
 refine Zw (Yr (Ug.or (Uf.or QT)) hg hm hv (Zr h Y5 he) (by decide) (by decide) he (by rfl)) ?_
 rintro σ H Q ⟨ρ,en,S,v,S',E,R,e,k⟩
 unfold UF at e
 obtain⟨r,e1,e⟩:=W0.mp e
 obtain⟨n,e2,e3⟩:=Wi.mp e
 cases e3
 refine⟨ρ,en,S,r.1,r.2,E,R,e1,λx ρ1 H1 X1 R1 d1=>?_⟩
 obtain⟨d,S1⟩:=r
 dsimp only at e2 d1 R1 k
 cases d with
 |str z=>
  dsimp only [Mb] at e2
  split at e2
  ·cases e2
   exact .inr (.inl ⟨z,by rw [d1.of_str],by assumption,k _ ρ1 H1 X1 R1 .flat_int⟩)
  ·cases e2
 |tup ds=>
  cases e2
  obtain⟨a,xs,rfl,a1,a2⟩:=d1.of_tup
  exact .inl ⟨a,xs,rfl,.inr (.of a1),by rw [←a2.length];exact k _ ρ1 H1 X1 R1 .flat_int⟩
 |ref m0=>
  obtain⟨a,a1,rfl⟩:=d1.of_ref
  obtain⟨ob,eo,ro⟩:=R1.obj a1
  dsimp only [Mb] at e2
  rw [eo] at e2
  cases ob with
  |lst ds=>
   cases e2
   obtain⟨xs,x1,x2⟩:=ro
   exact .inl ⟨a,xs,rfl,.inl (.of x1),by rw [←x2.length];exact k _ ρ1 H1 X1 R1 .flat_int⟩
  |dct kvs=>
   cases e2
   rcases ro with ⟨ks,xs,x1,x2,x3,x4⟩|⟨ks,xs,x1,x2,x3,x4⟩
   ·have l1:=congrArg V7 x3
    rw [Wp,Wp] at l1
    refine .inr (.inr ⟨a,rfl,.inl ⟨_,.inl x1,?_⟩⟩)
    rw [VD,←x2,Nat.min_self,←l1]
    exact k _ ρ1 H1 X1 R1 .flat_int
   ·have l1:=congrArg V7 x3
    rw [Wp,Wp] at l1
    refine .inr (.inr ⟨a,rfl,.inr ⟨_,.inl x1,?_⟩⟩)
    rw [VD,←x2,Nat.min_self,←l1]
    exact k _ ρ1 H1 X1 R1 .flat_int
  |fdct kvs=>
   cases e2
   obtain⟨o,ks,xs,x1,x2,x3,x4⟩:=ro
   have l1:=congrArg V7 x3
   rw [Wp,Wp] at l1
   refine .inr (.inr ⟨a,rfl,.inl ⟨_,.inr ⟨o,x1⟩,?_⟩⟩)
   rw [VD,←x2,Nat.min_self,←l1]
   exact k _ ρ1 H1 X1 R1 .flat_int
  |ins _ _=>cases e2
 |scr ns=>
  cases e2
  obtain⟨a,rfl,a1⟩:=d1.of_scr
  exact .inl ⟨a,_,rfl,.inl a1.seq,by rw [Wp];exact k _ ρ1 H1 X1 R1 .flat_int⟩
 |_=>cases e2
def tyD:D->Sto->Option String
 | .non,_=>some "NoneType"
 | .bl _,_=>some "bool"
 | .int _,_=>some "int"
 | .str _,_=>some "str"
 | .tup _,_=>some "tuple"
 | .ref n,S=>match S[n]? with|some (.lst _)=>some "list" |some (.dct _)=>some "dict" |_=>none
 | .scr _,_=>none
theorem PJ {K:W4}{ρ:List Addr}{H:Hp}{S:Sto}{d:D}{x:V}{T:String}(R:StR K ρ H S)(h:DR K ρ H d x)(e:tyD d S=some T):TyOf K H x (.type T):=by
 cases d with
 |non=>rw [h.of_non];cases e;exact .non
 |bl b=>rw [h.of_bl];cases e;exact .bl b
 |int i=>rw [h.of_int];cases e;exact .int i
 |str z=>rw [h.of_str];cases e;exact .str z
 |tup ds=>
  obtain⟨a,xs,rfl,a1,_⟩:=h.of_tup
  cases e;exact .tup a1
 |ref n=>
  obtain⟨a,a1,rfl⟩:=h.of_ref
  obtain⟨ob,eo,ro⟩:=R.obj a1
  dsimp only [tyD] at e
  rw [eo] at e
  cases ob with
  |lst ds=>
   cases e
   obtain⟨xs,x1,_⟩:=ro
   exact .lst x1
  |dct kvs=>
   cases e
   rcases ro with ⟨ks,xs,x1,_⟩|⟨ks,xs,x1,_⟩
   ·exact .dK x1
   ·exact .dT x1
  |fdct _=>cases e
  |ins _ _=>cases e
 |scr ns=>cases e
def Qs (T C:String):Bool:=T == C||(T == "bool" && C == "int")
def Isi (K:W4)(C:String):Prop:=∀T∈["NoneType", "bool", "int", "str", "tuple", "list", "dict"],Vc K (.type T) (.type C)=some (Qs T C)
theorem Gp {d:D}{S:Sto}{T:String}(e:tyD d S=some T):T∈["NoneType", "bool", "int", "str", "tuple", "list", "dict"]:=by
 cases d with
 |ref n=>
  dsimp only [tyD] at e
  split at e<;>cases e<;>simp
 |_=>cases e<;>simp
def UH (C:String)(m:M D):M D:=λen S=>(m en S).bind λp=>(tyD p.1 p.2).map λT=>(.bl (Qs T C),p.2)
theorem NU {C:String}:YH X (.builtin "isinstance") (λxs H Q=>∃x t b,xs=[x,.ty C]/\TyOf X.K H x t/\Vc X.K t (.type C)=some b/\Q (.bl b) H):=by
 intro pins s σ H xs us Q I r h
 obtain⟨x,t,b,rfl,ty,e,q⟩:=h
 obtain⟨u,w',rfl,ru,rw'⟩:=Gn r
 cases rw'
 exact BF I ru ty e λtk=>⟨.bl b,H,I.tok tk,rfl,q⟩
theorem YD {p p2:Pos}{C:String}{x:Str}{m:M D}(hi:Isi X.K C)(h:SE X a m)(hg:Gl X "isinstance")(hm:X.mg "isinstance" = none)(hv:Ww "isinstance" = some (.builtin "isinstance"))
  (hg2:Gl X x) (hm2:X.mg x=none) (hv2:Ww x=some (.type C)) (hn2:x≠"__name__":=by decide) (hd2:(x == ("__debug__" : Str))=false:=by decide)
  (he:Wr [a,.Name x p2] X.env=(false,eval a X.env) :: Wr [.Name x p2] X.env:=by rfl) (he2:Wr [.Name x p2] X.env=(false,eval (.Name x p2) X.env) :: Wr [] X.env:=by rfl) :
  SE X (.Call (.Name "isinstance" p) [a,.Name x p2] [] pos) (UH C m):=by
 refine Zw (Yr (NU (C:=C)) hg hm hv (Zr h (Zr (Uz hg2 hm2 hv2 (show ZS (.ty C) (.type C) from rfl) hn2 hd2) Y5 he2) he) (by decide) (by decide) he (by rw [he2];rfl)) ?_
 rintro σ H Q ⟨ρ,en,S,v,S',E,R,e,k⟩
 unfold UH at e
 obtain⟨r,e1,e⟩:=W0.mp e
 obtain⟨T,e2,e3⟩:=Wi.mp e
 cases e3
 exact⟨ρ,en,S,r.1,r.2,E,R,e1,λx ρ1 H1 X1 R1 d1=>⟨x,_,_,rfl,PJ R1 d1 e2,hi T (Gp e2),k _ ρ1 H1 X1 R1 .flat_bl⟩⟩
def UG (sep:M D)(m:M (List D)):M D:=λen S=>(sep en S).bind λq=>match q.1 with
 | .str x=>(m en q.2).bind λp=>(JG p.1).bind λys=>if (ys.map (·.length)).sum+ys.length*x.length≤16777216 then some (.str (W01 x ys),p.2) else none
 |_=>none
theorem Re {p:Pos}{sep:M D}{m:M (List D)}(hs:SE X a sep)(h:SQ X e m)(he:PA X [e] (Gz (tMQ X.K m) AD):=by exact Zr h Y5)
  (hb:PE X (.Call (.Attribute a "join" p) [e] [] pos) (tBM X.K "str" (λx xs H Q=>∃(sep:Str) (a:Addr) (ys:List Str),x = .str sep/\xs=[.ref a]/\(SqL X.K H a (ys.map V.str)\/SqT X.K H a (ys.map V.str))/\(ys.map (·.length)).sum+ys.length*sep.length≤16777216/\Q (.str (W01 sep ys)) H) (tM X.K sep) (Gz (tMQ X.K m) AD))) :
  SE X (.Call (.Attribute a "join" p) [e] [] pos) (UG sep m):=by
 refine Zw hb ?_
 rintro σ H Q ⟨ρ,en,S,v,S',E,R,e,k⟩
 unfold UG at e
 obtain⟨q,e0,e⟩:=W0.mp e
 obtain⟨d,S0⟩:=q
 cases d with
 |str x=>
  dsimp only at e
  obtain⟨r,e1,e⟩:=W0.mp e
  obtain⟨ys,e2,e⟩:=W0.mp e
  split at e
  ·rename_i hz
   cases e
   refine⟨ρ,en,S,.str x,S0,E,R,e0,λz ρ0 H0 X0 R0 d0=>?_⟩
   rw [d0.of_str]
   refine⟨rfl,ρ0,en,S0,r.1,r.2,E.up X0,R0,e1,λa xs ρ1 H1 X1 R1 sq d1=>⟨x,a,ys,rfl,rfl,?_,hz,k _ ρ1 H1 (X0.trans X1) R1 .flat_str⟩⟩
   rw [←T1 d1 e2];exact sq
  ·cases e
 |_=>cases e
def BE:D->Sto->Option (ItD×Sto)
 | .tup ds,S=>some ((ds,.no),S)
 | .ref n,S=>match S[n]? with
  |some (.lst ds)=>some ((ds,.lst n),S)
  |some (.dct kvs)=>if (kvs.all λp=>(Qu p.1).isSome)=true then some ((kvs.map (·.1),.fr n kvs true),S.set n (.fdct kvs)) else none
  |some (.fdct kvs)=>some ((kvs.map (·.1),.fr n kvs false),S)
  |_=>none
 | .scr ns,S=>some ((ns.map D.int,.no),S)
 | .str x,S=>some ((x.cps.toList.map λc=>D.str ⟨#[c]⟩,.no),S)
 |_,_=>none
def Qj (m:M D):M ItD:=λen S=>(m en S).bind λp=>BE p.1 p.2
theorem NM {K:W4}{ρ0:List Addr}{H0:Hp}{n:Nat}{a:Addr}{ds:List D}(ha:ρ0[n]? = some a):ItR K ρ0 H0 (Itl K a) ds (.lst n):=by
 intro ρ H S X R g
 have g':S[n]? = some (.lst ds):=g
 obtain⟨a',h1,xs,h2,h3⟩:=R.ob n _ g'
 have e:a'=a:=by
  have:=X.pre n a ha
  rw [this] at h1
  exact (WM h1).symm
 subst e
 refine⟨λi d hd=>?_,xs,.of h2,by rw [←h3.length];exact Wu _⟩
 obtain⟨x,x1,x2⟩:=h3.get hd
 refine⟨⟨xs,x,.of h2,x1⟩,λy H' hy=>?_⟩
 obtain⟨rfl,hy⟩:=hy
 have:=hy xs (.of h2)
 rw [x1] at this
 cases this
 exact⟨Ext.refl,R,x2⟩
theorem P6 {K:W4}{ρ0:List Addr}{H0:Hp}{a:Addr}{ds:List D}{xs:List V}(ha:H0 a=some (.tup xs))(h3:DsR K ρ0 H0 ds xs):ItR K ρ0 H0 (Itt K a) ds .no:=by
 intro ρ H S X R g
 have h2:=X.tup a xs ha
 have h3:=h3.up X
 refine⟨λi d hd=>?_,xs,.of h2,by rw [←h3.length];exact Wu _⟩
 obtain⟨x,x1,x2⟩:=h3.get hd
 refine⟨⟨xs,x,.of h2,x1⟩,λy H' hy=>?_⟩
 obtain⟨rfl,hy⟩:=hy
 have:=hy xs (.of h2)
 rw [x1] at this
 cases this
 exact⟨Ext.refl,R,x2⟩
theorem P8 {K:W4}{ρ0:List Addr}{H0:Hp}{a:Addr}{ns:List Int}(ha:NW K H0 a ns):ItR K ρ0 H0 (Itl K a) (ns.map D.int) .no:=by
 intro ρ H S X R g
 have h2:=(ha.mono X.weak).seq
 have h3:DsR K ρ H (ns.map D.int) (ns.map V.int):=.ints ns
 refine⟨λi d hd=>?_,_,h2,by rw [←h3.length];exact Wu _⟩
 obtain⟨x,x1,x2⟩:=h3.get hd
 refine⟨⟨_,x,h2,x1⟩,λy H' hy=>?_⟩
 obtain⟨rfl,hy⟩:=hy
 have:=hy _ h2
 rw [x1] at this
 cases this
 exact⟨Ext.refl,R,x2⟩
theorem P7 {K:W4}{ρ0:List Addr}{H0:Hp}{x:Str}:ItR K ρ0 H0 (Its x) (x.cps.toList.map λc=>D.str ⟨#[c]⟩) .no:=by
 intro ρ H S X R g
 refine⟨λi d hd=>?_,by show _=x.cps.size;simp⟩
 rw [WS] at hd
 have hd':∃c,x.cps[i]? = some c/\d=D.str ⟨#[c]⟩:=by
  cases q:x.cps.toList[i]? with
  |none=>rw [q] at hd;cases hd
  |some c=>rw [q] at hd;cases hd;exact⟨c,by simpa using q,rfl⟩
 obtain⟨c,hc,rfl⟩:=hd'
 refine⟨(Array.getElem?_eq_some_iff.mp hc).1,λy H' hy=>?_⟩
 obtain⟨rfl,c',h1,rfl⟩:=hy
 rw [hc] at h1
 cases h1
 exact⟨Ext.refl,R,.flat_str⟩
theorem RO {K:W4}{ρ:List Addr}{H:Hp}{d:D}{k:Key}(e:Qu d=some k):DR K ρ H d (kV k):=by
 cases d with
 |int i=>cases e;exact .flat_int
 |str x=>cases e;exact .flat_str
 |_=>cases e
theorem Jp {K:W4}{ρ0:List Addr}{H0:Hp}{n:Nat}{a:Addr}{o:Obj}{tab:List (Key×V)}{kvs:List (D×D)}{th:Bool}(ha:ρ0[n]? = some a)(h0:H0 a=some (.frz o (.dK tab))):ItR K ρ0 H0 (Itk a o) (kvs.map (·.1)) (.fr n kvs th):=by
 intro ρ H S X1 R hg
 have hH:=X1.frz a o _ h0
 obtain⟨ob,e1,r⟩:=R.obj (X1.pre n a ha)
 have hg':S[n]? = some (.fdct kvs):=hg
 rw [hg'] at e1
 cases e1
 obtain⟨o',ks,xs,q1,q2,q3,q4⟩:=r
 rw [hH] at q1
 cases q1
 have l1:=congrArg V7 q3
 rw [Wp,Wp] at l1
 refine⟨λi d hd=>?_,⟨_,hH,by rw [Wp,VD,←q2,Nat.min_self,l1]⟩⟩
 rw [WS] at hd
 obtain⟨p,p1,p2⟩:=Wi.mp hd
 have li:i<ks.length:=by rw [←l1];exact (Wn.mp p1).1
 have hk:Qu d=some ks[i]:=by
  have:=congrArg (λl=>l[i]?) q3
  simp only [WS,p1,W7,Wq li] at this
  rw [←p2]
  exact WM this
 have hz:(ks.zip xs)[i]? = some (ks[i],xs[i]'(by omega)):=by
  rw [Wq (by rw [VD];omega),List.getElem_zip]
 refine⟨⟨_,ks[i],xs[i]'(by omega),hH,hz⟩,λx H' y=>?_⟩
 obtain⟨rfl,y2⟩:=y
 obtain⟨k,v,y3,rfl⟩:=y2 _ hH
 rw [hz] at y3
 cases y3
 exact⟨Ext.refl,R,RO hk⟩
theorem JJ {tg:Expr}{m:M D}(h:SE X e m):SI X tg e (Qj m):=by
 refine GT (Lk h) ?_
 rintro σ H Q ⟨ρ,en,S,r,S',E,R,e,k⟩
 unfold Qj at e
 obtain⟨p,e1,e2⟩:=W0.mp e
 refine⟨ρ,en,S,p.1,p.2,E,R,e1,λx ρ1 H1 X1 R1 d1=>?_⟩
 obtain⟨d,S1⟩:=p
 dsimp only at e2 d1 R1 k
 cases d with
 |tup ds=>
  cases e2
  obtain⟨a,xs,rfl,a1,a2⟩:=d1.of_tup
  exact .inr (.inl ⟨a,xs,rfl,.of a1,k _ ρ1 H1 X1 R1 (P6 a1 a2) trivial⟩)
 |ref n=>
  obtain⟨a,a1,rfl⟩:=d1.of_ref
  obtain⟨ob,eo,ro⟩:=R1.obj a1
  dsimp only [BE] at e2
  rw [eo] at e2
  cases ob with
  |lst ds=>
   cases e2
   obtain⟨xs,x1,x2⟩:=ro
   exact .inl ⟨a,xs,rfl,.of x1,k _ ρ1 H1 X1 R1 (NM a1) trivial⟩
  |dct kvs=>
   dsimp only at e2
   split at e2
   ·rename_i hk
    cases e2
    have ro':∃(ks:List Key) (xs:List V),(H1 a=some (.dK (ks.zip xs))\/(H1 a=some (.dT [])/\ks=[]/\xs=[]))/\ks.length=xs.length/\kvs.map (λp=>Qu p.1)=ks.map some/\DsR X.K ρ1 H1 (kvs.map (·.2)) xs:=by
     rcases ro with ⟨ks,xs,q1,q2,q3,q4⟩|⟨ks,xs,q1,q2,q3,q4⟩
     ·exact⟨ks,xs,.inl q1,q2,q3,q4⟩
     ·have hn:=UX q3 hk (λ_ _=>QY)
      subst hn
      cases ks with
      |nil=>exact⟨[],[],.inr ⟨q1,rfl,rfl⟩,rfl,rfl,.nil⟩
      |cons _ _=>cases q3
    obtain⟨ks,xs,q1,q2,q3,q4⟩:=ro'
    have goK:∀o,(∀o u,X.H₀ a≠some (.frz o u))->H1 a=some (.dK (ks.zip xs))->Q (Itk a o) (upd H1 a (.frz o (.dK (ks.zip xs)))):=λo hn hq=>by
     have hE:Ext ρ1 H1 ρ1 (upd H1 a (.frz o (.dK (ks.zip xs)))):=Ext.upd hq (λ_ z=>nomatch z) λ_ _ z=>nomatch z
     obtain⟨R2,X2⟩:=R1.set (o:=.frz o (.dK (ks.zip xs))) (ob:=.fdct kvs) a1 (λ_ z=>by rw [eo] at z;cases z) ⟨o,ks,xs,Zg,q2,q3,q4.up hE⟩
     have hX:∀o u,H a≠some (.frz o u):=λo u z=>by have:=X1.frz a o u z;rw [hq] at this;cases this
     have hT:∀ys,H a≠some (.tup ys):=λys z=>by have:=X1.tup a ys z;rw [hq] at this;cases this
     exact k _ ρ1 _ (X1.trans X2) R2 (Jp a1 Zg) ⟨a,a1,hX,hT,hn⟩
    have goT:∀o,(∀o u,X.H₀ a≠some (.frz o u))->H1 a=some (.dT [])->kvs=[]->Q (Itk a o) (upd H1 a (.frz o (.dK []))):=λo hn hq hk=>by
     subst hk
     obtain⟨R2,X2⟩:=R1.set (o:=.frz o (.dK [])) (ob:=.fdct []) a1 (λ_ z=>by rw [eo] at z;cases z) ⟨o,[],[],Zg,rfl,rfl,.nil⟩
     have hX:∀o u,H a≠some (.frz o u):=λo u z=>by have:=X1.frz a o u z;rw [hq] at this;cases this
     have hT:∀ys,H a≠some (.tup ys):=λys z=>by have:=X1.tup a ys z;rw [hq] at this;cases this
     exact k _ ρ1 _ (X1.trans X2) R2 (Jp a1 Zg) ⟨a,a1,hX,hT,hn⟩
    rcases q1 with q1|⟨q1,rfl,rfl⟩
    ·exact .inr (.inr (.inr (.inl ⟨a,_,rfl,q1,λo hn=>goK o hn q1⟩)))
    ·cases kvs with
     |nil=>exact .inr (.inr (.inr (.inr (.inr ⟨a,rfl,q1,λo hn=>goT o hn q1 rfl⟩))))
     |cons _ _=>cases q3
   ·cases e2
  |fdct kvs=>
   cases e2
   obtain⟨o,ks,xs,q1,q2,q3,q4⟩:=ro
   exact .inr (.inr (.inr (.inr (.inl ⟨a,o,_,rfl,q1,k _ ρ1 H1 X1 R1 (Jp a1 q1) trivial⟩))))
  |ins _ _=>cases e2
 |scr ns=>
  cases e2
  obtain⟨a,rfl,a1⟩:=d1.of_scr
  exact .inl ⟨a,_,rfl,a1.seq,k _ ρ1 H1 X1 R1 (P8 a1) trivial⟩
 |str z=>
  cases e2
  exact .inr (.inr (.inl ⟨z,d1.of_str,k _ ρ1 H1 X1 R1 P7 trivial⟩))
 |_=>cases e2
def T8 (lo:Int)(n:Nat):List D:=(WY n).map λi=>D.int (lo+(i:Nat))
def UE (m:M D):M ItD:=λen S=>(m en S).bind λp=>match p.1 with | .int j=>if -(2 ^ 62)≤j/\j<2 ^ 62 then some ((T8 0 j.toNat,.no),p.2) else none|_=>none
theorem P9 {K:W4}{ρ0:List Addr}{H0:Hp}{lo:Int}{n:Nat}:ItR K ρ0 H0 (Itr lo n) (T8 lo n) .no:=by
 intro ρ H S X R g
 refine⟨λi d hd=>?_,by show n≤_;simp [T8]⟩
 unfold T8 at hd
 rw [WS] at hd
 cases q:(WY n)[i]? with
 |none=>rw [q] at hd;cases hd
 |some c=>
  rw [q] at hd
  cases hd
  obtain⟨h1,h2⟩:=Wn.mp q
  simp at h1 h2
  subst h2
  refine⟨h1,λy H' hy=>?_⟩
  obtain⟨rfl,rfl⟩:=hy
  exact⟨Ext.refl,R,.flat_int⟩
theorem Uw {tg:Expr}{p:Pos}{m:M D}(h:SE X a m)(hg:Gl X "range")(hm:X.mg "range" = none)(hs:Wr [a] X.env=[(false,eval a X.env)]:=by rfl):SI X tg (.Call (.Name "range" p) [a] [] pos) (UE m):=by
 refine GT (GS hg hm (Zr h Y5 (by rw [hs];rfl)) hs) ?_
 rintro σ H Q ⟨ρ,en,S,r,S',E,R,e,k⟩
 unfold UE at e
 obtain⟨q,e1,e⟩:=W0.mp e
 obtain⟨d,S1⟩:=q
 cases d with
 |int j=>
  dsimp only at e
  split at e
  ·rename_i hj
   cases e
   exact⟨ρ,en,S,.int j,_,E,R,e1,λx ρ1 H1 X1 R1 d1=>⟨j,by rw [d1.of_int],hj.1,hj.2,k _ ρ1 H1 X1 R1 P9 trivial⟩⟩
  ·cases e
 |_=>cases e
end
end DL
namespace DL
open PySem PySem.Spec PyProof.Rows L2
section
variable {X:Cx} {e a b c:Expr} {es:List Expr} {pos:Pos}
def tML (K:W4)(m:M (List D)):TE:=λσ H Q=>∃ρ en S ds S',EnR K ρ H en σ/\StR K ρ H S/\m en S=some (ds,S')/\
 ∀a xs ρ' H',Ext ρ H ρ' H'->StR K ρ' H' S'->H' a=none->DsR K ρ' H' ds xs->Q (.ref a) (upd H' a (.lst xs))
def SL (X:Cx)(e:Expr)(m:M (List D)):Prop:=PE X e (tML X.K m)
theorem EI {m:M (List D)}(h:SL X e m):SE X e (QR m):=by
 refine Zw h ?_
 rintro σ H Q ⟨ρ,en,S,v,S',E,R,e,k⟩
 unfold QR at e
 obtain⟨p,e1,e2⟩:=Wi.mp e
 cases e2
 refine⟨ρ,en,S,p.1,p.2,E,R,e1,λa xs ρ' H' X1 R1 ha d1=>?_⟩
 refine k _ (ρ'++[a]) _ (X1.trans (Ext.newRef ha)) (R1.push ha ⟨xs,Zg,d1.up (Ext.newRef ha)⟩) (.ref ?_)
 rw [←R1.len];simp
section
variable {tg iter elt:Expr} {ifs:List Expr} {scope:Scope} {tgs cn:List Str} {caps:List Nat} {mi:M ItD} {g:TG} {gd:D->En->Option En} {mc:M Bool} {m:M D}
end
def Px (a b:M D):M D:=λen S=>(a en S).bind λp=>(b en p.2).bind λq=>match p.1 with
 | .ref n=>match p.2[n]?,q.2[n]? with
  |some (.lst _),some (.lst ds)=>if ds.length<Wk then some (.non,q.2.set n (.lst (ds++[q.1]))) else none
  |_,_=>none
 |_=>none
theorem JU {K:W4}{ρ:List Addr}{H:Hp}{S:Sto}{n:Nat}{a:Addr}{ds:List D}(R:StR K ρ H S)(h:ρ[n]? = some a)(e:S[n]? = some (.lst ds)):∃xs,H a=some (.lst xs)/\DsR K ρ H ds xs:=by
 obtain⟨ob,e1,r⟩:=R.obj h
 rw [e] at e1
 cases e1
 exact r
theorem JM {p:Pos}{ma mb:M D}(ha:SE X a ma)(hb:SE X b mb)(hs:Wr [b] X.env=(false,eval b X.env) :: Wr [] X.env:=by rfl)
  (hbase:attributeBase a ("append" : Str) X.env (eval a X.env)=eval a X.env:=by rfl)
  (hfew:((backTo pos (Wr [b] X.env)).all (λx=>!x.1)&&(backToKw pos (keywordEach [] X.env)).all (λx=>x.1.isSome)
   && decide ([b].length+([]:List Keyword).length+(if ([]:List Keyword).isEmpty then 0 else 1)<30))=true:=by rfl)
  (hline:(p.endLine == pos.line)=true:=by rfl) (hplain:(backTo pos (Wr [] X.env)).any (·.1)=false:=by rfl) :
  SE X (.Call (.Attribute a "append" p) [b] [] pos) (Px ma mb):=by
 refine Zw (Lu PySem.F.plainAttrs_list PySem.F.slot_list_append PySem.F.type_list_append B2 ha (Zr hb Y5 hs) hbase hfew hline hs hplain) ?_
 rintro σ H Q ⟨ρ,en,S,v,S',E,R,e,k⟩
 unfold Px at e
 obtain⟨p,e1,e⟩:=W0.mp e
 obtain⟨q,e2,e⟩:=W0.mp e
 obtain⟨d,S1⟩:=p
 obtain⟨d2,S2⟩:=q
 refine⟨ρ,en,S,d,S1,E,R,e1,λx ρ1 H1 X1 R1 d1=>?_⟩
 cases d with
 |ref n=>
  dsimp only at e
  split at e
  ·rename_i ds0 ds hn0 hn
   split at e
   ·rename_i hz
    cases e
    obtain⟨l,a1,rfl⟩:=d1.of_ref
    obtain⟨xs0,hx0,_⟩:=JU R1 a1 hn0
    refine⟨.inl ⟨rfl,xs0,.of hx0⟩,ρ1,en,S1,d2,S2,E.up X1,R1,e2,λy ρ2 H2 X2 R2 dy=>?_⟩
    have a2:=X2.pre n l a1
    obtain⟨xs,h1,h2⟩:=JU R2 a2 hn
    refine⟨l,xs,y,rfl,rfl,h1,by rw [←h2.length];exact hz,?_⟩
    have hd:DsR X.K ρ2 H2 (ds++[d2]) (xs++[y]):=h2.append (.cons dy .nil)
    have hE:Ext ρ2 H2 ρ2 (upd H2 l (.lst (xs++[y]))):=Ext.upd h1 (λ_ z=>nomatch z) λ_ _ z=>nomatch z
    obtain⟨R3,X3⟩:=R2.set (o:=.lst (xs++[y])) (ob:=.lst (ds++[d2])) a2 (λ_ z=>by rw [hn] at z;cases z) ⟨xs++[y],Zg,hd.up hE⟩
    exact k _ ρ2 _ ((X1.trans X2).trans X3) R3 .flat_non
   ·cases e
  ·cases e
 |_=>cases e
def Em:M D:=λ_ S=>some (.ref S.length,S++[.dct []])
def KW:D->Sto->Option (List D)
 | .tup ds,_=>some ds
 | .ref n,S=>match S[n]? with|some (.lst ds)=>some ds|_=>none
 | .scr ns,_=>some (ns.map D.int)
 |_,_=>none
def B5 (m:M D):M D:=λen S=>(m en S).bind λp=>(KW p.1 p.2).map λds=>(.tup ds,p.2)
theorem Rb {p:Pos}{m:M D}(h:SE X e m)(hg:Gl X "tuple")(hm:X.mg "tuple" = none)(hv:Ww "tuple" = some (.type "tuple"))
  (he:Wr [e] X.env=(false,eval e X.env) :: Wr [] X.env:=by rfl):SE X (.Call (.Name "tuple" p) [e] [] pos) (B5 m):=by
 refine Zw (JQ Jt hg hm hv (Zr h Y5 he) (by decide) (by decide) he (by rfl)) ?_
 rintro σ H Q ⟨ρ,en,S,v,S',E,R,e,k⟩
 unfold B5 at e
 obtain⟨q,e1,e⟩:=W0.mp e
 obtain⟨ds,e2,e3⟩:=Wi.mp e
 cases e3
 refine⟨ρ,en,S,q.1,q.2,E,R,e1,λx ρ1 H1 X1 R1 d1=>?_⟩
 obtain⟨d,S1⟩:=q
 dsimp only at e2 d1 R1 k
 cases d with
 |tup es=>
  cases e2
  obtain⟨a,xs,rfl,a1,a2⟩:=d1.of_tup
  exact⟨a,xs,rfl,.inr ⟨.of a1,k _ ρ1 H1 X1 R1 d1⟩⟩
 |ref n=>
  obtain⟨a,a1,rfl⟩:=d1.of_ref
  dsimp only [KW] at e2
  split at e2
  ·rename_i es hn
   cases e2
   obtain⟨xs,h1,h2⟩:=JU R1 a1 hn
   exact⟨a,xs,rfl,.inl ⟨.of h1,λl hl=>k _ ρ1 _ (X1.trans (Ext.new hl)) (R1.new hl) (.tup Zg (h2.up (Ext.new hl)))⟩⟩
  ·cases e2
 |scr ns=>
  cases e2
  obtain⟨a,rfl,a1⟩:=d1.of_scr
  exact⟨a,_,rfl,.inl ⟨a1.seq,λl hl=>k _ ρ1 _ (X1.trans (Ext.new hl)) (R1.new hl) (.tup Zg ((DsR.ints ns).up (Ext.new hl)))⟩⟩
 |_=>cases e2
def LN (m:M (List D)):M D:=λen S=>(m en S).map λp=>(.tup p.1,p.2)
theorem Jh {p:Pos}{m:M (List D)}(h:SQ X e m)(hg:Gl X "list")(hm:X.mg "list" = none)(hv:Ww "list" = some (.type "list"))
  (he:Wr [e] X.env=(false,eval e X.env) :: Wr [] X.env:=by rfl):SL X (.Call (.Name "list" p) [e] [] pos) m:=by
 refine Zw (JQ Ue hg hm hv (Zr h Y5 he) (by decide) (by decide) he (by rfl)) ?_
 rintro σ H Q ⟨ρ,en,S,ds,S',E,R,e,k⟩
 refine⟨ρ,en,S,ds,S',E,R,e,λa xs ρ1 H1 X1 R1 hq d1=>⟨a,xs,rfl,hq,λl hl=>k l xs ρ1 H1 X1 R1 hl d1⟩⟩
def EU (m:M (List D)):M (List D):=λen S=>(m en S).bind λp=>if T3 p.1=true then some (GE p.1,p.2) else none
def EH:D->Sto->Option (List D)
 | .tup ds,_=>some ds
 | .ref n,S=>match S[n]? with
  |some (.lst ds)=>some ds
  |some (.dct kvs)=>some (kvs.map (·.1))
  |some (.fdct kvs)=>some (kvs.map (·.1))
  |_=>none
 | .scr ns,_=>some (ns.map D.int)
 |_,_=>none
def LO (m:M D):M (List D):=λen S=>(m en S).bind λp=>(EH p.1 p.2).bind λds=>if T3 ds=true then some (GE ds,p.2) else none
end
end DL
namespace DL
open PySem PySem.Spec PyProof.Rows L2
section
variable {X:Cx} {e a b c:Expr} {es:List Expr} {pos:Pos}
def NZ (xs ys:List D):List D:=(xs.zip ys).map λp=>.tup [p.1,p.2]
def TV:D->Sto->Option (List D×List (Nat×List D))
 | .tup ds,_=>some (ds,[])
 | .ref n,S=>match S[n]? with|some (.lst ds)=>some (ds,[(n,ds)])|_=>none
 |_,_=>none
def gdZ:List (Nat×List D)->Gd
 |[]=>.no
 |g=>.zl g
def LM (ma mb:M D):M ItD:=λen S=>(ma en S).bind λp=>(mb en p.2).bind λq=>(TV p.1 q.2).bind λx=>(TV q.1 q.2).map λy=>((NZ x.1 y.1,gdZ (x.2++y.2)),q.2)
theorem Kg {gs:List (Nat×List D)}{ds:List D}{S:Sto}(h:Ng (gdZ gs) ds S):∀p∈gs,S[p.1]? = some (.lst p.2):=by
 cases gs with
 |nil=>intro p hp;cases hp
 |cons _ _=>exact h
def SdR (K:W4)(ρ:List Addr)(H:Hp)(c:Bool)(l:Addr)(ds:List D)(gs:List (Nat×List D)):Prop:=(c=false/\∃vs,H l=some (.tup vs)/\DsR K ρ H ds vs)\/(c=true/\∃n,ρ[n]? = some l/\(n,ds)∈gs)
theorem T4 {K:W4}{ρ:List Addr}{H:Hp}{S:Sto}{d:D}{x:V}{r:List D×List (Nat×List D)}(R:StR K ρ H S)(h:DR K ρ H d x)(e:TV d S=some r):∃c l vs,x = .ref l/\TrS c H l vs/\SdR K ρ H c l r.1 r.2:=by
 cases d with
 |tup ds=>
  cases e
  obtain⟨a,xs,rfl,a1,a2⟩:=h.of_tup
  exact⟨false,a,xs,rfl,a1,.inl ⟨rfl,xs,a1,a2⟩⟩
 |ref n=>
  obtain⟨a,a1,rfl⟩:=h.of_ref
  dsimp only [TV] at e
  split at e
  ·rename_i ds hn
   cases e
   obtain⟨xs,x1,x2⟩:=JU R a1 hn
   exact⟨true,a,xs,rfl,x1,.inr ⟨rfl,n,a1,WJ⟩⟩
  ·cases e
 |_=>cases e
theorem SdR.mono {K:W4}{ρ:List Addr}{H:Hp}{c:Bool}{l:Addr}{ds:List D}{gs gs':List (Nat×List D)}(h:SdR K ρ H c l ds gs)(hs:∀p∈gs,p∈gs'):SdR K ρ H c l ds gs':=by
 rcases h with h|⟨h1,n,h2,h3⟩
 ·exact .inl h
 ·exact .inr ⟨h1,n,h2,hs _ h3⟩
theorem SdR.at {K:W4}{ρ0 ρ:List Addr}{H0 H:Hp}{S:Sto}{c:Bool}{l:Addr}{ds:List D}{gs:List (Nat×List D)}(h:SdR K ρ0 H0 c l ds gs)(X1:Ext ρ0 H0 ρ H)(R:StR K ρ H S)(g:∀p∈gs,S[p.1]? = some (.lst p.2)):∃vs,TrS c H l vs/\DsR K ρ H ds vs:=by
 rcases h with ⟨rfl,vs,h1,h2⟩|⟨rfl,n,h1,h2⟩
 ·exact⟨vs,X1.tup _ _ h1,h2.up X1⟩
 ·obtain⟨xs,x1,x2⟩:=JU R (X1.pre n l h1) (g _ h2)
  exact⟨xs,x1,x2⟩
theorem P5 {K:W4}{ρ0:List Addr}{H0:Hp}{c1 c2:Bool}{l1 l2:Addr}{xs ys:List D}{gs:List (Nat×List D)}(s1:SdR K ρ0 H0 c1 l1 xs gs)(s2:SdR K ρ0 H0 c2 l2 ys gs) :
  ItR K ρ0 H0 (Itz c1 l1 c2 l2) (NZ xs ys) (gdZ gs):=by
 intro ρ H S X1 R g
 obtain⟨vs,t1,d1⟩:=s1.at X1 R (Kg g)
 obtain⟨ws,t2,d2⟩:=s2.at X1 R (Kg g)
 refine⟨λi d hd=>?_,vs,ws,t1,t2,?_⟩
 ·unfold NZ at hd
  rw [WS] at hd
  obtain⟨q,q1,q2⟩:=Wi.mp hd
  obtain⟨z1,z2⟩:=List.getElem?_zip_eq_some.mp q1
  obtain⟨x,x1,x2⟩:=d1.get z1
  obtain⟨y,y1,y2⟩:=d2.get z2
  refine⟨⟨vs,ws,x,y,t1,t2,x1,y1⟩,λv H' hy=>?_⟩
  obtain⟨p,x',y',rfl,hn,rfl,e1,e2⟩:=hy
  have e1:=e1 _ t1
  have e2:=e2 _ t2
  rw [x1] at e1
  rw [y1] at e2
  cases e1
  cases e2
  subst q2
  exact⟨Ext.new hn,R.new hn,.tup Zg ((DsR.cons x2 (.cons y2 .nil)).up (Ext.new hn))⟩
 ·have l1:=d1.length
  have l2:=d2.length
  unfold NZ
  rw [Wp,VD]
  omega
theorem L0 {elts:List Expr}{kt:Nat}{pt p:Pos}{ma mb:M D}(ha:SE X a ma)(hb:SE X b mb)(hg:Gl X "zip")(hm:X.mg "zip" = none)(hv:Ww "zip" = some (.type "zip"))
  (he:Wr [a,b] X.env=(false,eval a X.env) :: Wr [b] X.env:=by rfl) (he2:Wr [b] X.env=(false,eval b X.env) :: Wr [] X.env:=by rfl) :
  SI X (.Tuple elts kt pt) (.Call (.Name "zip" p) [a,b] [] pos) (LM ma mb):=by
 refine GT (Lj hg hm hv (Zr ha (Zr hb Y5 he2) he) he (by rw [he2];rfl)) ?_
 rintro σ H Q ⟨ρ,en,S,r,S',E,R,e,k⟩
 unfold LM at e
 obtain⟨p,e1,e⟩:=W0.mp e
 obtain⟨q,e2,e⟩:=W0.mp e
 obtain⟨x,e3,e⟩:=W0.mp e
 obtain⟨y,e4,e⟩:=Wi.mp e
 cases e
 refine⟨ρ,en,S,p.1,p.2,E,R,e1,λu ρ1 H1 X1 R1 d1=>⟨ρ1,en,p.2,q.1,q.2,E.up X1,R1,e2,λv ρ2 H2 X2 R2 d2=>?_⟩⟩
 obtain⟨c1,l1,vs,rfl,t1,s1⟩:=T4 R2 (d1.up X2) e3
 obtain⟨c2,l2,ws,rfl,t2,s2⟩:=T4 R2 d2 e4
 refine⟨c1,l1,vs,c2,l2,ws,rfl,t1,t2,k _ ρ2 H2 (X1.trans X2) R2 (P5 (s1.mono λp hp=>W03 _ hp) (s2.mono λp hp=>WB _ hp)) ?_⟩
 show GF X (gdZ (x.2++y.2)) ρ2 H
 cases x.2++y.2<;>trivial
theorem Ux {n:Int}{j:Nat}{p2:Pos}:SE X (.UnaryOp .USub (.Constant (.int n) j p2) pos) (Z8 (.int (-n))):=by
 refine Zw (AZ PD M3) ?_
 rintro σ H Q ⟨ρ,en,S,v,S',E,R,e,k⟩
 cases e
 exact⟨n,rfl,k _ ρ H Ext.refl R .flat_int⟩
def Pw (f:Int->Int->Int)(a b:M D):M D:=λen S=>(a en S).bind λp=>(b en p.2).bind λq=>match p.1,q.1 with | .int i,.int j=>some (.int (f i j),q.2)|_,_=>none
def Ke (i j:Int):Int:=if j<i then j else i
theorem Nm {f:Int->Int->Int}{ma mb:M D}{σ:L2.St}{H:Hp}{Q:VK}(h:tM X.K (Pw f ma mb) σ H Q):Gz (tM X.K ma) (Gz (tM X.K mb) AD) σ H (λxs H'=>∃i j,xs=[.int i,.int j]/\Q (.int (f i j)) H'):=by
 obtain⟨ρ,en,S,v,S',E,R,e,k⟩:=h
 unfold Pw at e
 obtain⟨p,e1,e⟩:=W0.mp e
 obtain⟨q,e2,e⟩:=W0.mp e
 obtain⟨d,S1⟩:=p
 obtain⟨d',S2⟩:=q
 refine⟨ρ,en,S,d,S1,E,R,e1,λx ρ1 H1 X1 R1 d1=>⟨ρ1,en,S1,d',S2,E.up X1,R1,e2,λy ρ2 H2 X2 R2 d2=>?_⟩⟩
 cases d with
 |int i=>
  cases d' with
  |int j=>
   cases e
   exact⟨i,j,by rw [d1.of_int,d2.of_int],k _ ρ2 H2 (X1.trans X2) R2 .flat_int⟩
  |_=>cases e
 |_=>cases e
theorem Rc {p:Pos}{ma mb:M D}(hc:X.calm=true)(ha:SE X a ma)(hb:SE X b mb)(hg:Gl X "min")(hm:X.mg "min" = none)(hv:Ww "min" = some (.builtin "min"))
  (he:Wr [a,b] X.env=(false,eval a X.env) :: Wr [b] X.env:=by rfl) (he2:Wr [b] X.env=(false,eval b X.env) :: Wr [] X.env:=by rfl):SE X (.Call (.Name "min" p) [a,b] [] pos) (Pw Ke ma mb):=
 Zw (Yr (N3 hc) hg hm hv (Zr ha (Zr hb Y5 he2) he) (by decide) (by decide) he (by rw [he2];rfl)) λ_ _ _ h=>Nm h
def LR (a:M D):M D:=λen S=>(a en S).bind λp=>match p.1 with | .int i=>some (.int i,p.2) | .bl c=>some (.int (if c then 1 else 0),p.2)|_=>none
theorem LX {pins:List (Addr×Obj)}{σ:L2.St}{H:Hp}{s:Shared}{ρ:List Addr}{S:Sto}{d:D}{x:V}{u:Value}{T:String}(I:Inv X pins σ H s)(R:StR X.K ρ H S)(h:DR X.K ρ H d x)(rx:ZS x u)(e:tyD d S=some T) :
  ∃Z,PySem.W.KitX X.K u (.type T) Z/\Z s.heap/\u≠.builtin "__main__.__loader__#opaque":=by
 cases d with
 |non=>rw [h.of_non] at rx;cases e;cases (show u=Value.none from rx);exact⟨_,PySem.W.kitx_none,True.intro,λz=>nomatch z⟩
 |bl b=>rw [h.of_bl] at rx;cases e;cases (show u=Value.bool b from rx);exact⟨_,PySem.W.kitx_bool,True.intro,λz=>nomatch z⟩
 |int i=>rw [h.of_int] at rx;cases e;obtain⟨t,q⟩:=(show ∃t,u=Value.int i t from rx);cases q;exact⟨_,PySem.W.kitx_int,True.intro,λz=>nomatch z⟩
 |str i=>rw [h.of_str] at rx;cases e;obtain⟨t,q⟩:=(show ∃t,u=Value.str i t from rx);cases q;exact⟨_,PySem.W.kitx_str,True.intro,λz=>nomatch z⟩
 |tup ds=>
  obtain⟨a,xs,rfl,a1,_⟩:=h.of_tup
  cases e
  cases (show u=Value.ref a from rx)
  obtain⟨its,rv,⟨o,ho,hc,_⟩,_⟩:=I.tuple (.of a1)
  exact⟨_,PySem.W.kitx_tuple,⟨o,ho,hc⟩,λz=>nomatch z⟩
 |ref n=>
  obtain⟨a,a1,rfl⟩:=h.of_ref
  cases (show u=Value.ref a from rx)
  obtain⟨ob,eo,ro⟩:=R.obj a1
  dsimp only [tyD] at e
  rw [eo] at e
  cases ob with
  |lst ds=>
   cases e
   obtain⟨xs,x1,_⟩:=ro
   obtain⟨_,_,n,_,h1⟩:=(show ZE X.prog X.w H s.heap a (.lst xs) from I.hok a _ x1)
   exact⟨_,W0m,⟨_,h1,rfl⟩,λz=>nomatch z⟩
  |dct kvs=>
   cases e
   have:IsD H a:=FH R a1 (by unfold Pb;rw [eo])
   obtain⟨t1,_⟩:=FI I this
   obtain⟨o,ho,hc⟩:=t1
   exact⟨_,W0n,⟨o,ho,hc⟩,λz=>nomatch z⟩
  |fdct _=>cases e
  |ins _ _=>cases e
 |scr ns=>cases e
def B6 (C1 C2:String)(m:M D):M D:=λen S=>(m en S).bind λp=>(tyD p.1 p.2).map λT=>(.bl (Qs T C1||Qs T C2),p.2)
theorem N4 {C1 C2:String}(h1:Isi X.K C1)(h2:Isi X.K C2):YH X (.builtin "isinstance") (λxs H Q=>∃x p ρ S d T,xs=[x,.ref p]/\H p=some (.tup [.ty C1,.ty C2])/\StR X.K ρ H S/\DR X.K ρ H d x/\tyD d S=some T/\Q (.bl (Qs T C1||Qs T C2)) H):=by
 intro pins s σ H xs us Q I r h
 obtain⟨x,p,ρ,S,d,T,rfl,hp,R,dx,ty,q⟩:=h
 obtain⟨u,w',rfl,ru,rw'⟩:=Gn r
 cases rw'
 obtain⟨Z,z1,z2,z3⟩:=LX I R dx ru ty
 obtain⟨its,rv,⟨o,ho,hc,n,hd⟩,_⟩:=I.tuple (.of hp)
 obtain⟨v1,v2,rfl,r1,r2⟩:=Gn rv
 cases (show v1=Value.type C1 from r1)
 cases (show v2=Value.type C2 from r2)
 obtain⟨oc,od,odt,osl⟩:=o
 dsimp only at hc hd
 subst hc hd
 refine PySem.W.kia_tup z1 I.kIn z2 ho (b:=Qs T C1||Qs T C2) ?_ z3 λtk=>⟨.bl _,H,I.tok tk,rfl,q⟩
 unfold PySem.W.kitAny
 rw [h1 T (Gp ty)]
 cases Qs T C1 with
 |true=>rfl
 |false=>
  dsimp only
  unfold PySem.W.kitAny
  rw [h2 T (Gp ty)]
  cases Qs T C2<;>rfl
theorem Rf {p p1 p2 p3:Pos}{k3:Nat}{C1 C2:String}{x1 x2:Str}{m:M D}(hi1:Isi X.K C1)(hi2:Isi X.K C2)(h:SE X a m)(hg:Gl X "isinstance")(hm:X.mg "isinstance" = none)(hv:Ww "isinstance" = some (.builtin "isinstance"))
  (hg1:Gl X x1) (hm1:X.mg x1=none) (hv1:Ww x1=some (.type C1)) (hg2:Gl X x2) (hm2:X.mg x2=none) (hv2:Ww x2=some (.type C2))
  (hn1:x1≠"__name__":=by decide) (hd1:(x1 == ("__debug__" : Str))=false:=by decide) (hn2:x2≠"__name__":=by decide) (hd2:(x2 == ("__debug__" : Str))=false:=by decide)
  (he:Wr [a,.Tuple [.Name x1 p1,.Name x2 p2] k3 p3] X.env=(false,eval a X.env) :: Wr [.Tuple [.Name x1 p1,.Name x2 p2] k3 p3] X.env:=by rfl)
  (he2:Wr [.Tuple [.Name x1 p1,.Name x2 p2] k3 p3] X.env=(false,eval (.Tuple [.Name x1 p1,.Name x2 p2] k3 p3) X.env) :: Wr [] X.env:=by rfl)
  (hf1:Wr [.Name x1 p1,.Name x2 p2] X.env=(false,eval (.Name x1 p1) X.env) :: Wr [.Name x2 p2] X.env:=by rfl) (hf2:Wr [.Name x2 p2] X.env=(false,eval (.Name x2 p2) X.env) :: Wr [] X.env:=by rfl) :
  SE X (.Call (.Name "isinstance" p) [a,.Tuple [.Name x1 p1,.Name x2 p2] k3 p3] [] pos) (B6 C1 C2 m):=by
 refine Zw (Yr (N4 (C1:=C1) (C2:=C2) hi1 hi2) hg hm hv (Zr h (Zr (M2 (Zr (Uz hg1 hm1 hv1 (show ZS (.ty C1) (.type C1) from rfl) hn1 hd1) (Zr (Uz hg2 hm2 hv2 (show ZS (.ty C2) (.type C2) from rfl) hn2 hd2) Y5 hf2) hf1)) Y5 he2) he) (by decide) (by decide) he (by rw [he2];rfl)) ?_
 rintro σ H Q ⟨ρ,en,S,v,S',E,R,e,k⟩
 unfold B6 at e
 obtain⟨r,e1,e⟩:=W0.mp e
 obtain⟨T,e2,e3⟩:=Wi.mp e
 cases e3
 refine⟨ρ,en,S,r.1,r.2,E,R,e1,λx ρ1 H1 X1 R1 d1=>⟨by show 2≤Wk;decide,λq hq=>⟨x,q,ρ1,r.2,r.1,T,rfl,Zg,R1.new hq,d1.up (Ext.new hq),e2,k _ ρ1 _ (X1.trans (Ext.new hq)) (R1.new hq) .flat_bl⟩⟩⟩
def GV:List D->Option (List (D×D))
 |[]=>some []
 | .tup [k,v] :: r=>if (Qu k).isSome=true then (GV r).map λps=>(k,v) :: ps else none
 |_=>none
def KK (kvs:List (D×D))(ps:List (D×D)):List (D×D):=ps.foldl (λacc p=>HH acc p.1 p.2) kvs
def M9 (m:M D):M D:=λen S=>(m en S).bind λp=>match p.1 with
 | .tup ds=>if ds.length≤Wk then (GV ds).map λps=>(.ref p.2.length,p.2++[.dct (KK [] ps)]) else none
 |_=>none
end
end DL
namespace DL
open PySem L2 PySem.Spec PyProof.Rows
section
variable {X:Cx} {e a d:Expr} {pos:Pos}
end
end DL
namespace DL
open PySem L2 PySem.Spec PyProof.Rows
mutual
def IsD (h:Heap):D->Value->Prop
 | .int i,v=>∃t,v = .int i t
 | .str x,v=>∃t,v = .str x t
 | .tup ds,v=>∃a its,v = .ref a/\h.IsTuple a its/\IsDs h ds its.toList
 | .non,_=>False
 | .bl _,_=>False
 | .ref _,_=>False
 | .scr _,_=>False
def IsDs (h:Heap):List D->List Value->Prop
 |[],vs=>vs=[]
 |d :: ds,vs=>∃v r,vs=v :: r/\IsD h d v/\IsDs h ds r
end
end DL
namespace DL
open PySem L2 PySem.Spec PyProof.Rows
section
variable {prog:Program} {w:World}
end
end DL
namespace DL
open PySem L2 PySem.Spec PyProof.Rows
section
variable {prog:Program} {w:World}
end
end DL
namespace DL
open PySem L2 PySem.Spec PyProof.Rows
section
variable {X:Cx} {e:Expr} {pos:Pos}
end
end DL
namespace DL
open PySem L2 PySem.Spec PyProof.Rows
section
variable {X:Cx} {pins:List (Addr×Obj)} {σ:L2.St} {H:Hp} {s:Shared}
end
theorem RV {P:Program}{w:World}{k:Key}{v:Value}(h:(ZX P w).is k v=true):ZS (kV k) v:=by
 rcases Zq (k:=k) (v:=v) h with ⟨i,t,rfl,rfl⟩|⟨x,t,rfl,rfl⟩
 ·exact⟨t,rfl⟩
 ·exact⟨t,rfl⟩
section
variable {X:Cx} {o:Expr} {pos:Pos}
end
end DL
namespace DL
open PySem L2 PySem.Spec PyProof.Rows
section
variable {X:Cx} {e a d o:Expr} {pos:Pos}
def UK:List D->Option (List Int)
 |[]=>some []
 | .int b :: r=>(UK r).map λbs=>b :: bs
 |_=>none
theorem Tu {K:W4}{ρ:List Addr}{H:Hp}:∀{ds:List D} {xs:List V} {bs:List Int},DsR K ρ H ds xs->UK ds=some bs->xs=bs.map V.int
 |[],xs,bs,h,e=>by
  cases e
  unfold DsR at h;rw [h];rfl
 |d :: ds,xs,bs,h,e=>by
  unfold DsR at h
  obtain⟨x,r,rfl,h1,h2⟩:=h
  cases d with
  |int b=>
   obtain⟨cs,e1,e2⟩:=Wi.mp e
   cases e2
   rw [W5,h1.of_int,Tu h2 e1]
  |_=>cases e
theorem Jq:∀{ss:List Int} {vs:List Value},ZQ (ss.map V.int) vs->∀(i:Nat) v,vs[i]? = some v->∃t,v = .int (ss.getD i default) t
 |[],_,r,i,v,h=>by cases r;cases h
 |s :: ss,_,r,i,v,h=>by
  rw [W5] at r
  cases r with
  |cons r1 r2=>
   cases i with
   |zero=>cases h;exact r1
   |succ i=>exact Jq r2 i v h
end
end DL
namespace DL
open PySem L2 PySem.Spec PyProof.Rows
section
variable {X:Cx} {e a b:Expr} {pos:Pos}
end
end DL
namespace DL
open PySem L2 PySem.Spec PyProof.Rows
section
variable {X:Cx} {e o value:Expr} {pos pos' tpos:Pos} {cn f:Str} {Ca:Addr}
end
end DL
namespace DL
open PySem L2 PySem.Spec PyProof.Rows
section
variable {X:Cx} {a o:Expr} {es:List Expr} {pos apos:Pos} {cn m:Str} {Ca:Addr}
variable {k n:Nat} {f:Addr} {fd:FuncData} {ps:List Str} {F:List D->Sto->Option (D×Sto)} {mo:M D} {ma:M (List D)}
end
end DL
namespace DL
open PySem L2 PySem.Spec PyProof.Rows
section
variable {X:Cx} {o value:Expr} {pos tpos:Pos} {cn f:Str} {Ca:Addr}
end
end DL
namespace DL
open PySem L2 PySem.Spec PyProof.Rows
section
variable {X:Cx} {a b:Expr} {pos:Pos}
end
end DL
namespace DL
open PySem L2 PySem.Spec PyProof.Rows
section
variable {X:Cx} {e:Expr} {pos:Pos}
theorem QB (ss:List Int):∀k:Nat,preSum (λi=>ss.getD i default) k=(ss.take k).sum
 |0=>by simp [preSum]
 |k+1=>by
  show preSum _ k+_=_
  rw [QB ss k]
  by_cases h:k<ss.length
  ·rw [List.take_succ_eq_append_getElem h,List.sum_append,List.sum_singleton]
   congr 1
   simp [Vv,h]
  ·rw [VY (by omega),VY (by omega)]
   simp [Vv,List.getElem?_eq_none (VA h)]
theorem Ju (hc:X.calm=true):YH X (.builtin "sum") (λxs H Q=>∃(a:Addr) (ss:List Int),xs=[.ref a]/\(SqL X.K H a (ss.map V.int)\/SqT X.K H a (ss.map V.int))/\Q (.int ss.sum) H):=by
 intro pins s σ H xs us Q I r h
 obtain⟨a,ss,rfl,hq,q⟩:=h
 obtain⟨u,rfl,ru⟩:=JD r
 cases ru
 refine call_sum_walkG ?_
 rcases hq with hq|hq
 ·obtain⟨its,rv,p,hz⟩:=I.list hq
  refine VF p.isList ?_
  have hlt:a<s.heap.objs.size:=by
   obtain⟨o,e,_⟩:=p.isList
   exact Wo e
  have ne:a≠s.heap.objs.size:=WD hlt
  refine⟨_,_,_,_,_,_,λi=>ss.getD i default,rfl,Walks.list (A:=X.A.in1) (show X.A.in1.handled=none from I.ok.hd hc) _ a ne its.toArray,⟨⟨_,Ws _ rfl,rfl,rfl⟩,p.isList.extBut (λb o _ e=>Wj _ e) ne⟩,?_,λi v h=>Jq rv i v (by simpa using h),λh' tk t' k=>?_⟩
  ·intro b hb
   simp only [Wy,WA,or_false] at hb
   rw [Vh]
   rcases hb with rfl|rfl
   ·exact Nat.lt_succ_self _
   ·exact W0q hlt
  ·have e2:its.toArray.size=ss.length:=by rw [Wl,←rv.length,Wp]
   rw [e2,QB,List.take_length]
   exact⟨.int ss.sum,H,I.kept (h':=h') (t':=tk) (λb o e=>k b o (by simp [WD (Wo e)]) (Wj _ e)),⟨t',rfl⟩,q⟩
 ·obtain⟨its,rv,p,hz⟩:=I.tuple hq
  refine VB (show s.heap.IsTuple a its.toArray from p) ?_
  have hlt:a<s.heap.objs.size:=p.lt
  have ne:a≠s.heap.objs.size:=WD hlt
  refine⟨_,_,_,_,_,_,λi=>ss.getD i default,rfl,Walks.tuple (A:=X.A.in1) (show X.A.in1.handled=none from I.ok.hd hc) _ a ne its.toArray,⟨⟨_,Ws _ rfl,rfl,rfl⟩,W0e (show s.heap.IsTuple a its.toArray from p) (λb o _ e=>Wj _ e) ne⟩,?_,λi v h=>Jq rv i v (by simpa using h),λh' tk t' k=>?_⟩
  ·intro b hb
   simp only [Wy,WA,or_false] at hb
   rw [Vh]
   rcases hb with rfl|rfl
   ·exact Nat.lt_succ_self _
   ·exact W0q hlt
  ·have e2:its.toArray.size=ss.length:=by rw [Wl,←rv.length,Wp]
   rw [e2,QB,List.take_length]
   exact⟨.int ss.sum,H,I.kept (h':=h') (t':=tk) (λb o e=>k b o (by simp [WD (Wo e)]) (Wj _ e)),⟨t',rfl⟩,q⟩
def RI (m:M (List D)):M D:=λen S=>(m en S).bind λp=>(UK p.1).map λss=>(.int ss.sum,p.2)
theorem GI {p:Pos}{m:M (List D)}(hc:X.calm=true)(h:SQ X e m)(hg:Gl X "sum")(hm:X.mg "sum" = none)(hv:Ww "sum" = some (.builtin "sum"))
  (he:Wr [e] X.env=(false,eval e X.env) :: Wr [] X.env:=by rfl):SE X (.Call (.Name "sum" p) [e] [] pos) (RI m):=by
 refine Zw (Yr (Ju hc) hg hm hv (Zr h Y5 he) (by decide) (by decide) he (by rfl)) ?_
 rintro σ H Q ⟨ρ,en,S,v,S',E,R,e,k⟩
 unfold RI at e
 obtain⟨r,e1,e⟩:=W0.mp e
 obtain⟨bs,e2,e3⟩:=Wi.mp e
 cases e3
 refine⟨ρ,en,S,r.1,r.2,E,R,e1,λa xs ρ1 H1 X1 R1 sq d1=>⟨a,bs,rfl,?_,k _ ρ1 H1 X1 R1 .flat_int⟩⟩
 rw [←Tu d1 e2];exact sq
end
end DL
namespace DL
open PySem PySem.Spec PyProof.Rows L2
section
open PySem.SeqAt
open PySem.AutoSeq1 (wpAny_loadPart')
open PySem.MeetsSeq PySem.MeetsSeq2 PySem.MeetsSeq3
end
def LW (f:D->D->Bool):List D->List D->Bool
 |a :: as,b :: bs=>if eqD a b=true then LW f as bs else f a b
 |_,_=>true
def Cv:Nat->D->D->Bool
 |_,.int _,.int _=>true
 |_,.str _,.str _=>true
 |n+1,.tup as,.tup bs=>LW (Cv n) as bs
 |_,_,_=>false
section
variable {X:Cx} {pins:List (Addr×Obj)} {σ:L2.St} {H:Hp} {s:Shared} {ρ:List Addr} (I:Inv X pins σ H s)
include I in
include I in
end
end DL
namespace L2
open PySem PySem.Spec PyProof.Rows
section
variable {prog:Program} {w:World} {A:Around}
end
section
variable {prog:Program} {w:World} {A:Around} {E:Value->Shared->Prop} {s:Shared}
end
end L2
namespace DL
open PySem L2 PySem.Spec PyProof.Rows
section
variable {X:Cx} {e a b:Expr} {es:List Expr} {pos:Pos}
def LP (ma mb:M D):M ItD:=λen S=>(ma en S).bind λp=>(mb en p.2).bind λq=>match p.1,q.1 with
 | .int i,.int j=>if -(2 ^ 62)≤i/\i<2 ^ 62/\-(2 ^ 62)≤j/\j<2 ^ 62 then some ((T8 i (j-i).toNat,.no),q.2) else none
 |_,_=>none
def EJ (n:Nat):List D:=(WY n).map λi=>D.int ((n:Int)-1+(i:Nat)*(-1))
def EV (m:M D):M ItD:=λen S=>(m en S).bind λp=>match p.1 with | .int j=>if -(2 ^ 62)≤j/\j<2 ^ 62 then some ((EJ j.toNat,.no),p.2) else none|_=>none
def LS (ma mb:M D):M D:=λen S=>(ma en S).bind λp=>match p.1 with
 | .str y=>(mb en p.2).bind λq=>match q.1 with
  | .str z=>some (.int (Txt.find y z),q.2)
  |_=>none
 |_=>none
def ltG (ds:List D)(i j:Nat):Bool:=ltD (ds.getD i .non) (ds.getD j .non)
def LL (ds:List D):D:=ds.getD (argBest (ltG ds) (ds.length-1)) .non
def LK (ds:List D):Bool:=decide (0<ds.length)&&((ds.all λd=>pln 30 d)&&ds.all λd=>ds.all λd'=>Cv 30 d d')
def LQ (m:M (List D)):M D:=λen S=>(m en S).bind λp=>if LK p.1=true then some (LL p.1,p.2) else none
end
end DL
namespace DL
open PySem L2
theorem JE (S:Sto)(v:D):Gf S (v,S)=(v,S):=by unfold Gf;split<;>rfl
theorem Gw (S G:Sto)(v:D)(h:Jy S.length v=true):Gf S (v,S++G)=(v,S):=by
 unfold Gf
 rw [if_pos ⟨by simp,h⟩]
theorem Ay {α:Type}{xs:List α}{i:Int}(h0:0≤i)(h1:i<xs.length):∃a,a∈xs/\xs[i.toNat]? = some a/\atI xs i=some a:=by
 obtain⟨n,rfl⟩:=Int.eq_ofNat_of_zero_le h0
 have hn:n<xs.length:=by omega
 refine⟨xs[n],List.getElem_mem hn,by simp [hn],UV (by simp [hn])⟩
def cs (x:Str):List Nat:=x.cps.toList
theorem ZF (x:Str):x.length=(cs x).length:=by simp [Str.length,cs]
theorem Uc (x y:Str):cs (x++y)=cs x++cs y:=by
 show (Str.append x y).cps.toList=_
 unfold Str.append
 simp [cs]
theorem Qf (ys:List Str):cs (W01 (W3 "") ys)=ys.flatMap cs:=by
 have e:(W3 "").cps = #[]:=by decide +kernel
 have key:∀(l:List Str) (acc:Array Nat),(l.foldl (λacc p=>acc++(W3 "").cps++p.cps) acc).toList=acc.toList++l.flatMap cs:=by
  intro l
  induction l with
  |nil=>intro acc;simp
  |cons p l ih=>intro acc;rw [List.foldl_cons,ih,e];simp [cs]
 unfold W01 Builtin.Str.glued
 cases ys with
 |nil=>rfl
 |cons y ys=>exact key ys y.cps
theorem Aw (x:Str)(n:Nat)(hn:1≤n):cs (W0c x (n:Int))=(Vg n (cs x)).flatten:=by
 have key:∀(l:List (Array Nat)) (acc:Array Nat),(l.foldl (· ++ ·) acc).toList=acc.toList++(l.map Array.toList).flatten:=by
  intro l
  induction l with
  |nil=>intro acc;simp
  |cons p l ih=>intro acc;rw [List.foldl_cons,ih];simp
 unfold W0c
 rw [if_neg (by omega)]
 by_cases h:((n:Int) == 1||x.length == 0)=true
 ·rw [if_pos h]
  rcases Bool.or_eq_true _ _ ▸ h with h|h
  ·have:n=1:=by have:=eq_of_beq h;omega
   subst this;simp
  ·have h0:cs x=[]:=by
    have:=eq_of_beq h
    rw [ZF] at this
    exact List.length_eq_zero_iff.mp this
   rw [h0];simp
 ·rw [if_neg h]
  exact (key _ _).trans (by simp [cs])
end DL
namespace DL
open PySem PySem.Spec PyProof.Rows L2
section
variable {X:Cx} {e a b c:Expr} {es:List Expr} {pos:Pos}
theorem sv (i:Nat){x:Str}{pos:Pos}(hN:X.N[i]? = some x:=by rfl)(hv:Vis X.env.scope x:=by first|exact Or.inl rfl|exact Or.inr (Or.inl rfl)|exact Or.inr (Or.inr rfl))(hd:(x == ("__debug__" : Str))=false:=by decide)
  (hcd:(x == ("__classdict__" : Str))=false:=by decide):SE X (.Name x pos) (Z7 i):=L3 i (Ln hN hv hd hcd)
theorem Yu {scope:Scope}(names0:List (Str×NameKind))(h0:X.env.scope.names=names0)(h:∀y∈scope.names,y.2 = .free->names0.lookup y.1=some .cell\/names0.lookup y.1=some .free) :
  ∀y∈scope.names,y.2 = .free->X.env.scope.names.lookup y.1=some .cell\/X.env.scope.names.lookup y.1=some .free:=by rw [h0];exact h
theorem Ts {K:W4}{C:String}(h1:Vc K (.type "NoneType") (.type C)=some (Qs "NoneType" C))(h2:Vc K (.type "bool") (.type C)=some (Qs "bool" C))(h3:Vc K (.type "int") (.type C)=some (Qs "int" C))
  (h4:Vc K (.type "str") (.type C)=some (Qs "str" C)) (h5:Vc K (.type "tuple") (.type C)=some (Qs "tuple" C)) (h6:Vc K (.type "list") (.type C)=some (Qs "list" C)) (h7:Vc K (.type "dict") (.type C)=some (Qs "dict" C)):Isi K C:=by
 intro T hT
 simp only [Wy,WA,or_false] at hT
 rcases hT with rfl|rfl|rfl|rfl|rfl|rfl|rfl
 ·exact h1
 ·exact h2
 ·exact h3
 ·exact h4
 ·exact h5
 ·exact h6
 ·exact h7
theorem BG (K:W4):Isi K "str":=Ts (by kernel_rfl) (by kernel_rfl) (by kernel_rfl) (by kernel_rfl) (by kernel_rfl) (by kernel_rfl) (by kernel_rfl)
theorem BH (K:W4):Isi K "int":=Ts (by kernel_rfl) (by kernel_rfl) (by kernel_rfl) (by kernel_rfl) (by kernel_rfl) (by kernel_rfl) (by kernel_rfl)
theorem Qc (K:W4):Isi K "bool":=Ts (by kernel_rfl) (by kernel_rfl) (by kernel_rfl) (by kernel_rfl) (by kernel_rfl) (by kernel_rfl) (by kernel_rfl)
theorem Qb (K:W4):Isi K "tuple":=Ts (by kernel_rfl) (by kernel_rfl) (by kernel_rfl) (by kernel_rfl) (by kernel_rfl) (by kernel_rfl) (by kernel_rfl)
theorem T6 {p:Pos}{sep:M D}{m:M (List D)}(hs:SE X a sep)(h:SQ X e m)(he:Wr [e] X.env=(false,eval e X.env) :: Wr [] X.env:=by rfl)
  (hbase:attributeBase a ("join" : Str) X.env (eval a X.env)=eval a X.env:=by rfl)
  (hfew:((backTo pos (Wr [e] X.env)).all (λx=>!x.1)&&(backToKw pos (keywordEach [] X.env)).all (λx=>x.1.isSome)
   && decide ([e].length+([]:List Keyword).length+(if ([]:List Keyword).isEmpty then 0 else 1)<30))=true:=by rfl)
  (hline:(p.endLine == pos.line)=true:=by rfl) (hplain:(backTo pos (Wr [] X.env)).any (·.1)=false:=by rfl) :
  SE X (.Call (.Attribute a "join" p) [e] [] pos) (UG sep m):=
 Re hs h (Zr h Y5 he) (Lu PySem.F.plainAttrs_str PySem.F.slot_str_join PySem.F.type_str_join RE hs (Zr h Y5 he) hbase hfew hline he hplain)
end
structure Own (K:W4) (mg:Str->Option Value) (x:Str) (st:Stmt) (f:Addr) (fd:FuncData) (ps:List Str):Prop where
 fn:Fun K x x st f fd
 mgf:mg x=some (.ref f)
 b:UZ K fd ps []
theorem Pg {P:Program}{w:World}{K:W4}{mg:Str->Option Value}{base:Heap}{k n:Nat}{f:Addr}{fd:FuncData}{ps:List Str}(hn:ps.length=n):FnOk P w K mg base CX0 k f fd ps (spD K n λ_ _=>none):=
 ⟨λvs H Q E h=>by rw [h.1,hn],λA outer s H args us vs Q E _ _ _ _ h=>by
  obtain⟨_,ρ,S,ds,v,S',_,_,e,_⟩:=h
  cases e⟩
theorem walk_d {l:PySem.W.OpenLaw}{k:Nat}{q:Program}{loose:List Str}{XP:(Str->Option Value)->Heap->Prop}{YP:World->Heap->Prop}{d:DefRec}{K:Params->W4}{x:Str}{F:List D->Sto->Option (D×Sto)}
  (hn:l.most=some 63) (hdf:d.params.defaults=[]) (hr:Room k callerA)
  (hY:∀(w:World) (h:Heap),YP w h->(K w.params).In h)
  (hF:∀(w:World) (mg:Str->Option Value) (fa:Addr) (h:Heap),(K w.params).In h->h.Ns Wt mg->mg d.name=some (.ref fa)->
   ∃fd:FuncData,(∀(s:Shared) (u:Value),BindsTo s fd ⟨[u],[]⟩ [(x,u)])/\
    ∀base:Heap,(K w.params).In base->base.Ns Wt mg->FnOk l.prog w (K w.params) mg base CX0 k fa fd [x] (spD (K w.params) 1 F))
  (hl:∀ns:List Int,ns.length≤63->∃S',F [.scr ns] []=some (.bl true,S')) :
  PySem.W.WalkO q loose XP YP l.row.toRowW d [] (λf vs=>PySem.call f vs):=by
 refine L2.walk_of (n:=63) (k:=k) (x:=x) (CX:=λ_=>CX0) (sp:=λw=>spD (K w.params) 1 F) hn (by decide) hdf hr hY hF (λw H a ns hlen hO hS=>?_) λ_ _ _ _ _ z=>z
 obtain⟨S',e⟩:=hl ns hlen
 have hs:NW (K w.params) H a ns:=by
  rcases hS with (h|⟨o,h⟩)|h
  ·rcases hO a with z|⟨o,xs,z⟩
   ·rw [h] at z;cases z
   ·rw [h] at z;cases z
  ·exact .inl ⟨o,h⟩
  ·exact .inr h
 refine⟨rfl,[],[],[.scr ns],.bl true,S',⟨rfl,λi j a h=>by simp at h,λn ob h=>by simp at h⟩,.cons (by unfold DR;exact⟨a,rfl,hs⟩) .nil,e,λz ρ' H' _ _ dz=>dz.of_bl⟩
end DL
namespace DL
open PySem L2
section
variable {a b c:M D} {ba bb:M Bool} {sa sb:MS} {ms:M (List D)} {en en':En} {S S':Sto} {x y v:D} {g g':D->D->Sto->Option (D×Sto)} {F:List D->Sto->Option (D×Sto)}
def Fs (b:MS):Option (Fl×En×Sto)->Option (Fl×En×Sto)
 |some (.nx,en,S)=>b en S
 |r=>r
theorem Ph:Yn sa sb en S=Fs sb (sa en S):=by
 unfold Yn
 cases sa en S with
 |none=>rfl
 |some p=>obtain⟨f,e,s⟩:=p;cases f<;>rfl
theorem RT:Fs sb (some (.nx,en,S))=sb en S:=rfl
theorem Te:Fs sb (some (.rt v,en,S))=some (.rt v,en,S):=rfl
theorem Tg:Fs sb (some (.bk,en,S))=some (.bk,en,S):=rfl
theorem Tf:Fs sb (some (.ct,en,S))=some (.ct,en,S):=rfl
theorem Cr:mNx en S=some (.nx,en,S):=rfl
theorem Cu:mBk en S=some (.bk,en,S):=rfl
theorem Ct:mCt en S=some (.ct,en,S):=rfl
def Ev (g:D->En->Option En)(en:En):Option (D×Sto)->Option (Fl×En×Sto)
 |some (v,S)=>(g v en).map λen'=>(.nx,en',S)
 |none=>none
theorem Ap {g:D->En->Option En}:YK a g en S=Ev g en (a en S):=by
 unfold YK
 cases a en S<;>rfl
theorem Fm {i:Nat}:Ev (gN i) en (some (v,S))=some (.nx,en.set i (some v),S):=rfl
theorem K8 {n:Nat}{gs:List D->En->Option En}:Ev (gT n gs) en (some (v,S))=(gT n gs v en).map λen'=>(.nx,en',S):=rfl
theorem EA {n:Nat}{gs:List D->En->Option En}{ds:List D}(h:ds.length=n):gT n gs (.tup ds) en=gs ds en:=if_pos h
theorem Am {i:Nat}{gs:List D->En->Option En}{ds:List D}:Yy (gN i) gs (v :: ds) en=gs ds (en.set i (some v)):=rfl
theorem Al:UM [] en=some en:=rfl
def Cc (en:En):Option (D×Sto)->Option (Fl×En×Sto)
 |some (v,S)=>some (.rt v,en,S)
 |none=>none
theorem Ae:YX a en S=Cc en (a en S):=by
 unfold YX
 cases a en S<;>rfl
theorem Fb:Cc en (some (v,S))=some (.rt v,en,S):=rfl
theorem Kt:El en S=some (.rt .non,en,S):=rfl
def FA (en:En):Option (D×Sto)->Option (Fl×En×Sto)
 |some (_,S)=>some (.nx,en,S)
 |none=>none
theorem KG:G3 a en S=FA en (a en S):=by
 unfold G3
 cases a en S<;>rfl
theorem K5:FA en (some (v,S))=some (.nx,en,S):=rfl
def Cf (sa sb:MS)(en:En):Option (Bool×Sto)->Option (Fl×En×Sto)
 |some (c,S)=>if c=true then sa en S else sb en S
 |none=>none
theorem Ak:QS ba sa sb en S=Cf sa sb en (ba en S):=by
 unfold QS
 cases ba en S<;>rfl
theorem Fh {c:Bool}:Cf sa sb en (some (c,S))=if c=true then sa en S else sb en S:=rfl
def kV1 (S:Sto):Option D->Option (D×Sto)
 |some d=>some (d,S)
 |none=>none
theorem A6 {i:Nat}:Z7 i en S=kV1 S (en[i]?.getD none):=by
 unfold Z7
 cases en[i]?.getD none<;>rfl
theorem EX:kV1 S (some x)=some (x,S):=rfl
theorem Ao:Z8 x en S=some (x,S):=rfl
def Cd (g:D->D->Sto->Option (D×Sto))(b:M D)(en:En):Option (D×Sto)->Option (D×Sto)
 |some (x,S)=>(b en S).bind λq=>g x q.1 q.2
 |none=>none
def Fv (g:D->D->Sto->Option (D×Sto))(x:D):Option (D×Sto)->Option (D×Sto)
 |some (y,S)=>g x y S
 |none=>none
theorem Cq:mOp g a b en S=Cd g b en (a en S):=by
 unfold mOp
 cases a en S<;>rfl
theorem Fd:Cd g b en (some (x,S))=Fv g x (b en S):=by
 show (b en S).bind _=_
 cases b en S<;>rfl
theorem Fc:Fv g x (some (y,S))=g x y S:=rfl
def kT:Option (D×Sto)->Option (Bool×Sto)
 |some (.bl b,S)=>some (b,S)
 |_=>none
theorem e_T:mT a en S=kT (a en S):=by
 unfold mT
 cases a en S with
 |none=>rfl
 |some p=>obtain⟨d,s⟩:=p;cases d<;>rfl
theorem k_T {t:Bool}:kT (some (.bl t,S))=some (t,S):=rfl
def C5:Option (D×Sto)->Option (Bool×Sto)
 |some (d,S)=>(TU d S).map λb=>(b,S)
 |none=>none
theorem Au:JT a en S=C5 (a en S):=by
 unfold JT
 cases a en S<;>rfl
theorem Ka {t:Bool}:C5 (some (.bl t,S))=some (t,S):=rfl
def Ck (b:M Bool)(en:En):Option (Bool×Sto)->Option (Bool×Sto)
 |some (c,S)=>if c=true then b en S else some (false,S)
 |none=>none
def kOr (b:M Bool)(en:En):Option (Bool×Sto)->Option (Bool×Sto)
 |some (c,S)=>if c=true then some (true,S) else b en S
 |none=>none
def Ce:Option (Bool×Sto)->Option (Bool×Sto)
 |some (c,S)=>some (!c,S)
 |none=>none
theorem As:EW ba bb en S=Ck bb en (ba en S):=by
 unfold EW
 cases ba en S<;>rfl
theorem Cp:mOr ba bb en S=kOr bb en (ba en S):=by
 unfold mOr
 cases ba en S<;>rfl
theorem Af:G2 ba en S=Ce (ba en S):=by
 unfold G2
 cases ba en S<;>rfl
theorem Fn {c:Bool}:Ck bb en (some (c,S))=if c=true then bb en S else some (false,S):=rfl
theorem EY {c:Bool}:kOr bb en (some (c,S))=if c=true then some (true,S) else bb en S:=rfl
theorem Fe {c:Bool}:Ce (some (c,S))=some (!c,S):=rfl
def Fp (b:M D)(en:En):Option (D×Sto)->Option (D×Sto)
 |some (d,S)=>(TU d S).bind λc=>if c=true then b en S else some (d,S)
 |none=>none
def C3 (b:M D)(en:En):Option (D×Sto)->Option (D×Sto)
 |some (d,S)=>(TU d S).bind λc=>if c=true then some (d,S) else b en S
 |none=>none
def RW:Option (D×Sto)->Option (D×Sto)
 |some (d,S)=>(TU d S).map λc=>(.bl (!c),S)
 |none=>none
theorem Kn:T0 a b en S=Fp b en (a en S):=by
 unfold T0
 cases a en S<;>rfl
theorem A5:vOr a b en S=C3 b en (a en S):=by
 unfold vOr
 cases a en S<;>rfl
theorem Km:PC a en S=RW (a en S):=by
 unfold PC
 cases a en S<;>rfl
theorem MB {c:Bool}:Fp b en (some (.bl c,S))=if c=true then b en S else some (.bl false,S):=by cases c<;>rfl
theorem F5 {c:Bool}:C3 b en (some (.bl c,S))=if c=true then some (.bl true,S) else b en S:=by cases c<;>rfl
theorem MA {c:Bool}:RW (some (.bl c,S))=some (.bl (!c),S):=rfl
theorem Bf {ds:List D}{n:Nat}(h:S[n]? = some (.lst ds)):RW (some (.ref n,S))=some (.bl ds.isEmpty,S):=by
 show (TU (.ref n) S).map _=_
 dsimp only [TU]
 rw [h]
 simp
def kIf (a b:M D)(en:En):Option (Bool×Sto)->Option (D×Sto)
 |some (c,S)=>if c=true then a en S else b en S
 |none=>none
theorem Cs:mIf ba a b en S=kIf a b en (ba en S):=by
 unfold mIf
 cases ba en S<;>rfl
theorem EZ {c:Bool}:kIf a b en (some (c,S))=if c=true then a en S else b en S:=rfl
def Ci (g g':D->D->Sto->Option (D×Sto))(b c:M D)(en:En):Option (D×Sto)->Option (D×Sto)
 |some (x,S)=>(b en S).bind λq=>(g x q.1 q.2).bind λr=>match r.1 with
  | .bl true=>(c en r.2).bind λw=>g' q.1 w.1 w.2
  | .bl false=>some (.bl false,r.2)
  |_=>none
 |none=>none
def Ch (g g':D->D->Sto->Option (D×Sto))(x:D)(c:M D)(en:En):Option (D×Sto)->Option (D×Sto)
 |some (y,S)=>(g x y S).bind λr=>match r.1 with
  | .bl true=>(c en r.2).bind λw=>g' y w.1 w.2
  | .bl false=>some (.bl false,r.2)
  |_=>none
 |none=>none
def Cg (g':D->D->Sto->Option (D×Sto))(y:D)(c:M D)(en:En):Option (D×Sto)->Option (D×Sto)
 |some (.bl t,S)=>if t=true then Fv g' y (c en S) else some (.bl false,S)
 |_=>none
theorem BS:Ma g g' a b c en S=Ci g g' b c en (a en S):=by
 unfold Ma
 cases a en S<;>rfl
theorem Fk:Ci g g' b c en (some (x,S))=Ch g g' x c en (b en S):=by
 show (b en S).bind _=_
 cases b en S<;>rfl
theorem Fj:Ch g g' x c en (some (y,S))=Cg g' y c en (g x y S):=by
 show (g x y S).bind _=_
 cases g x y S with
 |none=>rfl
 |some r=>
  obtain⟨d,s⟩:=r
  cases d with
  |bl t=>
   cases t
   ·rfl
   ·show (c en s).bind _=Fv g' y (c en s)
    cases c en s<;>rfl
  |_=>rfl
theorem Fi {t:Bool}:Cg g' y c en (some (.bl t,S))=if t=true then Fv g' y (c en S) else some (.bl false,S):=rfl
theorem Ag:Zp en S=some ([],S):=rfl
def FC (r:M (List D))(en:En):Option (D×Sto)->Option (List D×Sto)
 |some (x,S)=>(r en S).map λq=>(x :: q.1,q.2)
 |none=>none
def Kc (x:D):Option (List D×Sto)->Option (List D×Sto)
 |some (xs,S)=>some (x :: xs,S)
 |none=>none
theorem KH:Z1 a ms en S=FC ms en (a en S):=by
 unfold Z1
 cases a en S<;>rfl
theorem K6:FC ms en (some (x,S))=Kc x (ms en S):=by
 show (ms en S).map _=_
 cases ms en S<;>rfl
theorem By {xs:List D}:Kc x (some (xs,S))=some (x :: xs,S):=rfl
def FD (F:List D->Sto->Option (D×Sto)):Option (List D×Sto)->Option (D×Sto)
 |some (xs,S)=>F xs S
 |none=>none
theorem KJ:Zy F ms en S=FD F (ms en S):=by
 unfold Zy
 cases ms en S<;>rfl
theorem K7 {xs:List D}:FD F (some (xs,S))=F xs S:=rfl
def Us:Option (List D×Sto)->Option (D×Sto)
 |some (xs,S)=>if xs.length≤Wk then some (.tup xs,S) else none
 |none=>none
theorem A8:Y8 ms en S=Us (ms en S):=by
 unfold Y8
 cases ms en S<;>rfl
theorem Qa {xs:List D}(h:xs.length≤Wk):Us (some (xs,S))=some (.tup xs,S):=if_pos h
def Jz:Option (List D×Sto)->Option (D×Sto)
 |some (xs,S)=>if xs.length≤Wk then some (.ref S.length,S++[.lst xs]) else none
 |none=>none
theorem Ah:Gg ms en S=Jz (ms en S):=by
 unfold Gg
 cases ms en S<;>rfl
theorem YS {xs:List D}(h:xs.length≤Wk):Jz (some (xs,S))=some (.ref S.length,S++[.lst xs]):=if_pos h
def Er (S0:Sto):Option (Fl×En×Sto)->Option (D×Sto)
 |some (.rt v,_,S)=>some (Gf S0 (v,S))
 |some (.nx,_,S)=>some (Gf S0 (.non,S))
 |_=>none
theorem Ab {nN n:Nat}{m:MS}{ds:List D}(h:ds.length=n):QO nN n m ds S=Er S (m (Q3 nN ds) S):=by
 unfold QO
 rw [if_pos h]
 cases m (Q3 nN ds) S with
 |none=>rfl
 |some p=>obtain⟨f,e,s⟩:=p;cases f<;>rfl
theorem Th:Er S (some (.rt v,en,S'))=some (Gf S (v,S')):=rfl
theorem Ti:Er S (some (.nx,en,S'))=some (Gf S (.non,S')):=rfl
def Fw:Option (D×Sto)->Option (D×Sto)
 |some (d,S)=>(Mb d S).map λ(n:Nat)=>(.int n,S)
 |none=>none
theorem Ai:UF a en S=Fw (a en S):=by
 unfold UF Fw
 cases a en S with
 |none=>rfl
 |some p=>
  obtain⟨d,s⟩:=p
  dsimp only [V4]
  cases Mb d s<;>rfl
theorem Ff:Fw (some (x,S))=(Mb x S).map λ(n:Nat)=>(.int n,S):=rfl
theorem Qr {z:Str}(h:z.length≤Wk):Fw (some (.str z,S))=some (.int z.length,S):=by
 show (if z.length≤Wk then some z.length else none).map _=_
 rw [if_pos h];rfl
theorem K1 {ds:List D}:Fw (some (.tup ds,S))=some (.int ds.length,S):=rfl
def Ut (C:String):Option (D×Sto)->Option (D×Sto)
 |some (d,S)=>(tyD d S).map λT=>(.bl (Qs T C),S)
 |none=>none
theorem Aj {C:String}:UH C a en S=Ut C (a en S):=by
 unfold UH
 cases a en S<;>rfl
theorem Fg {C:String}:Ut C (some (x,S))=(tyD x S).map λT=>(.bl (Qs T C),S):=rfl
def kBs (f:List Bool->Bool):Option (List D×Sto)->Option (D×Sto)
 |some (ds,S)=>(Qg ds).map λbs=>(.bl (f bs),S)
 |none=>none
theorem At:Py ms en S=kBs (λbs=>bs.all id) (ms en S):=by
 unfold Py
 cases ms en S<;>rfl
theorem Ar:LT ms en S=kBs (λbs=>bs.any id) (ms en S):=by
 unfold LT
 cases ms en S<;>rfl
theorem Ql:∀(bs:List Bool),Qg (bs.map D.bl)=some bs
 |[]=>rfl
 |b :: bs=>by
  show (Qg (bs.map D.bl)).map _=_
  rw [Ql bs];rfl
theorem RU {bs:List Bool}:kBs (λbs=>bs.all id) (some (bs.map D.bl,S))=some (.bl (bs.all id),S):=by
 show (Qg (bs.map D.bl)).map _=_
 rw [Ql];rfl
theorem Eo {bs:List Bool}:kBs (λbs=>bs.any id) (some (bs.map D.bl,S))=some (.bl (bs.any id),S):=by
 show (Qg (bs.map D.bl)).map _=_
 rw [Ql];rfl
def BB:Option (D×Sto)->Option (ItD×Sto)
 |some (d,S)=>BE d S
 |none=>none
theorem Kz:Qj a en S=BB (a en S):=by
 unfold Qj
 cases a en S<;>rfl
theorem JY {ns:List Int}:BB (some (.scr ns,S))=some ((ns.map D.int,.no),S):=rfl
theorem Bq {ds:List D}:BB (some (.tup ds,S))=some ((ds,.no),S):=rfl
theorem Br {z:Str}:BB (some (.str z,S))=some (((cs z).map λc=>D.str ⟨#[c]⟩,.no),S):=rfl
def C9:Option (D×Sto)->Option (ItD×Sto)
 |some (.int j,S)=>if -(2 ^ 62)≤j/\j<2 ^ 62 then some ((T8 0 j.toNat,.no),S) else none
 |_=>none
theorem Ac:UE a en S=C9 (a en S):=by
 unfold UE
 cases a en S with
 |none=>rfl
 |some p=>obtain⟨d,s⟩:=p;cases d<;>rfl
theorem NI {j:Int}(h : -(2 ^ 62)≤j/\j<2 ^ 62):C9 (some (.int j,S))=some ((T8 0 j.toNat,.no),S):=if_pos h
def Fy (g:D->En->Option En)(body:MS)(en:En):Option (ItD×Sto)->Option (Fl×En×Sto)
 |some (r,S)=>thF r.2 (Yb r.1 r.2 g body r.1 en S)
 |none=>none
theorem An {mi:M ItD}{g:D->En->Option En}:M8 mi g sa en S=Fy g sa en (mi en S):=by
 unfold M8
 cases mi en S<;>rfl
theorem PN {r:Option (Fl×En×Sto)}:thF .no r=r:=by cases r<;>rfl
theorem KY {n:Nat}{r:Option (Fl×En×Sto)}:thF (.lst n) r=r:=by cases r<;>rfl
theorem PQ {r:Option (List D×Sto)}:thC .no r=r:=by cases r<;>rfl
theorem KZ {n:Nat}{r:Option (List D×Sto)}:thC (.lst n) r=r:=by cases r<;>rfl
theorem Bv {ds:List D}{g:D->En->Option En}:Fy g sa en (some ((ds,.no),S))=Yb ds .no g sa ds en S:=PN
theorem Tj {ds:List D}{n:Nat}{g:D->En->Option En}:Fy g sa en (some ((ds,.lst n),S))=Yb ds (.lst n) g sa ds en S:=KY
theorem Bw {ds:List D}{n:Nat}{kvs:List (D×D)}{th:Bool}{g:D->En->Option En}:Fy g sa en (some ((ds,.fr n kvs th),S))=thF (.fr n kvs th) (Yb ds (.fr n kvs th) g sa ds en S):=rfl
def BD (nT:Nat)(caps:List Nat)(g:D->En->Option En)(c:M Bool)(m:M D)(en:En):Option (ItD×Sto)->Option (List D×Sto)
 |some (r,S)=>thC r.2 (ZN r.1 r.2 (YV nT caps en) g c m r.1 [] S)
 |none=>none
theorem KI {mi:M ItD}{nT:Nat}{caps:List Nat}{g:D->En->Option En}:Q0 mi nT caps g ba a en S=BD nT caps g ba a en (mi en S):=by
 unfold Q0
 cases mi en S<;>rfl
theorem Tl {ds:List D}{nT:Nat}{caps:List Nat}{g:D->En->Option En}:BD nT caps g ba a en (some ((ds,.no),S))=ZN ds .no (YV nT caps en) g ba a ds [] S:=PQ
theorem U3 {ds:List D}{n:Nat}{nT:Nat}{caps:List Nat}{g:D->En->Option En}:BD nT caps g ba a en (some ((ds,.lst n),S))=ZN ds (.lst n) (YV nT caps en) g ba a ds [] S:=KZ
theorem PM {gs:List (Nat×List D)}{r:Option (Fl×En×Sto)}:thF (.zl gs) r=r:=by cases r<;>rfl
theorem PP {gs:List (Nat×List D)}{r:Option (List D×Sto)}:thC (.zl gs) r=r:=by cases r<;>rfl
theorem Bu {ds:List D}{gs:List (Nat×List D)}{g:D->En->Option En}:Fy g sa en (some ((ds,.zl gs),S))=Yb ds (.zl gs) g sa ds en S:=PM
theorem Tk {ds:List D}{gs:List (Nat×List D)}{nT:Nat}{caps:List Nat}{g:D->En->Option En}:BD nT caps g ba a en (some ((ds,.zl gs),S))=ZN ds (.zl gs) (YV nT caps en) g ba a ds [] S:=PP
theorem Tn {ds:List D}{n:Nat}{kvs:List (D×D)}{th:Bool}{nT:Nat}{caps:List Nat}{g:D->En->Option En}:BD nT caps g ba a en (some ((ds,.fr n kvs th),S))=thC (.fr n kvs th) (ZN ds (.fr n kvs th) (YV nT caps en) g ba a ds [] S):=rfl
def Fx:Option (List D×Sto)->Option (D×Sto)
 |some (ds,S)=>some (.ref S.length,S++[.lst ds])
 |none=>none
theorem Kx:QR ms en S=Fx (ms en S):=by
 unfold QR
 cases ms en S<;>rfl
theorem K3 {ds:List D}:Fx (some (ds,S))=some (.ref S.length,S++[.lst ds]):=rfl
def Kb (ms:M (List D))(en:En):Option (D×Sto)->Option (D×Sto)
 |some (.str x,S)=>(ms en S).bind λp=>(JG p.1).bind λys=>if (ys.map (·.length)).sum+ys.length*x.length≤16777216 then some (.str (W01 x ys),p.2) else none
 |_=>none
def BA (x:Str):Option (List D×Sto)->Option (D×Sto)
 |some (ds,S)=>(JG ds).bind λys=>if (ys.map (·.length)).sum+ys.length*x.length≤16777216 then some (.str (W01 x ys),S) else none
 |none=>none
theorem Ky:UG a ms en S=Kb ms en (a en S):=by
 unfold UG
 cases a en S with
 |none=>rfl
 |some p=>obtain⟨d,s⟩:=p;cases d<;>rfl
theorem Bp {z:Str}:Kb ms en (some (.str z,S))=BA z (ms en S):=by
 show (ms en S).bind _=_
 cases ms en S<;>rfl
theorem JF:∀(ys:List Str),JG (ys.map D.str)=some ys
 |[]=>rfl
 |y :: ys=>by
  show (JG (ys.map D.str)).map _=_
  rw [JF ys];rfl
theorem Bo {z:Str}{ys:List Str}(h:(ys.map (·.length)).sum+ys.length*z.length≤16777216):BA z (some (ys.map D.str,S))=some (.str (W01 z ys),S):=by
 show (JG (ys.map D.str)).bind _=_
 rw [JF,V4,if_pos h]
def C8 (lo hi:M (Option Int))(en:En):Option (D×Sto)->Option (D×Sto)
 |some (x,S)=>(lo en S).bind λl=>(hi en l.2).bind λu=>slD x l.1 u.1 u.2
 |none=>none
def C7 (x:D)(hi:M (Option Int))(en:En):Option (Option Int×Sto)->Option (D×Sto)
 |some (l,S)=>(hi en S).bind λu=>slD x l u.1 u.2
 |none=>none
def C6 (x:D)(l:Option Int):Option (Option Int×Sto)->Option (D×Sto)
 |some (u,S)=>slD x l u S
 |none=>none
theorem Co {lo hi:M (Option Int)}:mSl a lo hi en S=C8 lo hi en (a en S):=by
 unfold mSl
 cases a en S<;>rfl
theorem Fa {lo hi:M (Option Int)}:C8 lo hi en (some (x,S))=C7 x hi en (lo en S):=by
 show (lo en S).bind _=_
 cases lo en S<;>rfl
theorem F9 {hi:M (Option Int)}{l:Option Int}:C7 x hi en (some (l,S))=C6 x l (hi en S):=by
 show (hi en S).bind _=_
 cases hi en S<;>rfl
theorem F8 {l u:Option Int}:C6 x l (some (u,S))=slD x l u S:=rfl
def Fu:Option (D×Sto)->Option (Option Int×Sto)
 |some (.int i,S)=>some (some i,S)
 |_=>none
theorem Ku:Qt a en S=Fu (a en S):=by
 unfold Qt
 cases a en S with
 |none=>rfl
 |some p=>obtain⟨d,s⟩:=p;cases d<;>rfl
theorem MP {i:Int}:Fu (some (.int i,S))=some (some i,S):=rfl
theorem Ty:Jo en S=some (none,S):=rfl
theorem Kq:YR en S=some (true,S):=rfl
end
section
variable {S:Sto} {i j:Int} {x y:Str} {p q:Bool}
theorem Kk:ZW (.int i) (.int j) S=some (.int (i+j),S):=rfl
theorem J2 (h:x.length+y.length≤Wk):ZW (.str x) (.str y) S=some (.str (x++y),S):=if_pos h
theorem BN {xs ys:List D}(h:xs.length+ys.length≤Wk):ZW (.tup xs) (.tup ys) S=some (.tup (xs++ys),S):=if_pos h
theorem Kh:Kl (.int i) (.int j) S=some (.int (i-j),S):=rfl
theorem FM (h : -(2 ^ 64)<j/\j<2 ^ 64):Gh (.int i) (.int j) S=some (.int (i*j),S):=if_pos (Or.inr h)
theorem BM (h : -(2 ^ 64)<i/\i<2 ^ 64):Gh (.int i) (.int j) S=some (.int (i*j),S):=if_pos (Or.inl h)
theorem FL {n:Int}(h:0≤n/\n≤1000/\x.length≤1000):Gh (.str x) (.int n) S=some (.str (W0c x n),S):=if_pos (decide_eq_true h)
theorem Ki (h:0<j):Pe (.int i) (.int j) S=some (.int (i%j),S):=if_pos (decide_eq_true h)
theorem FN:gLt (.int i) (.int j) S=some (.bl (decide (i<j)),S):=rfl
theorem FO:gLe (.int i) (.int j) S=some (.bl (decide (i≤j)),S):=rfl
theorem FV:gGt (.int i) (.int j) S=some (.bl (decide (j<i)),S):=rfl
theorem FW:gGe (.int i) (.int j) S=some (.bl (decide (j≤i)),S):=rfl
theorem FY:gEq (.int i) (.int j) S=some (.bl (decide (i=j)),S):=rfl
theorem FX:gEq (.str x) (.str y) S=some (.bl (decide (x=y)),S):=rfl
theorem FZ:gEq (.bl p) (.bl q) S=some (.bl (decide (p=q)),S):=rfl
theorem FK:gNe (.int i) (.int j) S=some (.bl (!decide (i=j)),S):=rfl
theorem FJ:gNe (.str x) (.str y) S=some (.bl (!decide (x=y)),S):=rfl
theorem U9:YY (.bl p) (.bl q) S=some (.bl (!(p == q)),S):=rfl
theorem Kj:gIs (.bl p) (.bl q) S=some (.bl (p == q),S):=rfl
theorem UN {ds:List D}{k:Nat}{d:D}(h:ds[k]? = some d):gIx (.tup ds) (.int (k:Nat)) S=some (d,S):=by
 show (atI ds (k:Int)).map _=_
 rw [UV h];rfl
section
variable {a b c d e f:D} {l:List D}
theorem FU:gIx (.tup (a :: l)) (.int 0) S=some (a,S):=UN (k:=0) rfl
theorem FT:gIx (.tup (a :: b :: l)) (.int 1) S=some (b,S):=UN (k:=1) rfl
theorem FS:gIx (.tup (a :: b :: c :: l)) (.int 2) S=some (c,S):=UN (k:=2) rfl
theorem FR:gIx (.tup (a :: b :: c :: d :: l)) (.int 3) S=some (d,S):=UN (k:=3) rfl
theorem FQ:gIx (.tup (a :: b :: c :: d :: e :: l)) (.int 4) S=some (e,S):=UN (k:=4) rfl
theorem FP:gIx (.tup (a :: b :: c :: d :: e :: f :: l)) (.int 5) S=some (f,S):=UN (k:=5) rfl
end
end
section
variable {ds0 r:List D} {g:D->En->Option En} {body:MS} {en:En} {S:Sto} {d v:D}
def BC (ds0:List D)(g:D->En->Option En)(body:MS)(r:List D):Option (Fl×En×Sto)->Option (Fl×En×Sto)
 |some (.nx,en,S)=>Yb ds0 .no g body r en S
 |some (.ct,en,S)=>Yb ds0 .no g body r en S
 |some (.bk,en,S)=>some (.nx,en,S)
 |some (.rt v,en,S)=>some (.rt v,en,S)
 |none=>none
theorem KC:Yb ds0 .no g body [] en S=some (.nx,en,S):=by
 unfold Yb
 exact if_pos trivial
theorem KD {i:Nat}:Yb ds0 .no (gN i) body (d :: r) en S=BC ds0 (gN i) body r (body (en.set i (some d)) S):=by
 rw [Yb]
 rw [if_pos (show Ng .no ds0 S from trivial)]
 show (body (en.set i (some d)) S).bind _=_
 cases body (en.set i (some d)) S with
 |none=>rfl
 |some p=>obtain⟨f,e,s⟩:=p;cases f<;>rfl
theorem U0:BC ds0 g body r (some (.nx,en,S))=Yb ds0 .no g body r en S:=rfl
theorem U1:BC ds0 g body r (some (.ct,en,S))=Yb ds0 .no g body r en S:=rfl
theorem U2:BC ds0 g body r (some (.bk,en,S))=some (.nx,en,S):=rfl
theorem JZ:BC ds0 g body r (some (.rt v,en,S))=some (.rt v,en,S):=rfl
end
section
variable {a b c d e f g h i j k l:D} {S:Sto}
theorem MN:Us (some (([]:List D),S))=some (.tup [],S):=Qa (show 0≤Wk by decide)
theorem K0:Jz (some (([]:List D),S))=some (.ref S.length,S++[.lst []]):=YS (show 0≤Wk by decide)
theorem MM:Us (some ([a],S))=some (.tup [a],S):=Qa (show 1≤Wk by decide)
theorem MZ:Jz (some ([a],S))=some (.ref S.length,S++[.lst [a]]):=YS (show 1≤Wk by decide)
theorem ML:Us (some ([a,b],S))=some (.tup [a,b],S):=Qa (show 2≤Wk by decide)
theorem MY:Jz (some ([a,b],S))=some (.ref S.length,S++[.lst [a,b]]):=YS (show 2≤Wk by decide)
theorem MK:Us (some ([a,b,c],S))=some (.tup [a,b,c],S):=Qa (show 3≤Wk by decide)
theorem MX:Jz (some ([a,b,c],S))=some (.ref S.length,S++[.lst [a,b,c]]):=YS (show 3≤Wk by decide)
theorem MJ:Us (some ([a,b,c,d],S))=some (.tup [a,b,c,d],S):=Qa (show 4≤Wk by decide)
theorem MW:Jz (some ([a,b,c,d],S))=some (.ref S.length,S++[.lst [a,b,c,d]]):=YS (show 4≤Wk by decide)
theorem MI:Us (some ([a,b,c,d,e],S))=some (.tup [a,b,c,d,e],S):=Qa (show 5≤Wk by decide)
theorem MV:Jz (some ([a,b,c,d,e],S))=some (.ref S.length,S++[.lst [a,b,c,d,e]]):=YS (show 5≤Wk by decide)
theorem MH:Us (some ([a,b,c,d,e,f],S))=some (.tup [a,b,c,d,e,f],S):=Qa (show 6≤Wk by decide)
theorem MU:Jz (some ([a,b,c,d,e,f],S))=some (.ref S.length,S++[.lst [a,b,c,d,e,f]]):=YS (show 6≤Wk by decide)
theorem MG:Us (some ([a,b,c,d,e,f,g],S))=some (.tup [a,b,c,d,e,f,g],S):=Qa (show 7≤Wk by decide)
theorem MT:Jz (some ([a,b,c,d,e,f,g],S))=some (.ref S.length,S++[.lst [a,b,c,d,e,f,g]]):=YS (show 7≤Wk by decide)
theorem MF:Us (some ([a,b,c,d,e,f,g,h],S))=some (.tup [a,b,c,d,e,f,g,h],S):=Qa (show 8≤Wk by decide)
theorem MR:Jz (some ([a,b,c,d,e,f,g,h],S))=some (.ref S.length,S++[.lst [a,b,c,d,e,f,g,h]]):=YS (show 8≤Wk by decide)
theorem ME:Us (some ([a,b,c,d,e,f,g,h,i],S))=some (.tup [a,b,c,d,e,f,g,h,i],S):=Qa (show 9≤Wk by decide)
theorem MQ:Jz (some ([a,b,c,d,e,f,g,h,i],S))=some (.ref S.length,S++[.lst [a,b,c,d,e,f,g,h,i]]):=YS (show 9≤Wk by decide)
theorem Bk:Us (some ([a,b,c,d,e,f,g,h,i,j],S))=some (.tup [a,b,c,d,e,f,g,h,i,j],S):=Qa (show 10≤Wk by decide)
theorem Bn:Jz (some ([a,b,c,d,e,f,g,h,i,j],S))=some (.ref S.length,S++[.lst [a,b,c,d,e,f,g,h,i,j]]):=YS (show 10≤Wk by decide)
theorem Bj:Us (some ([a,b,c,d,e,f,g,h,i,j,k],S))=some (.tup [a,b,c,d,e,f,g,h,i,j,k],S):=Qa (show 11≤Wk by decide)
theorem Bm:Jz (some ([a,b,c,d,e,f,g,h,i,j,k],S))=some (.ref S.length,S++[.lst [a,b,c,d,e,f,g,h,i,j,k]]):=YS (show 11≤Wk by decide)
theorem Bi:Us (some ([a,b,c,d,e,f,g,h,i,j,k,l],S))=some (.tup [a,b,c,d,e,f,g,h,i,j,k,l],S):=Qa (show 12≤Wk by decide)
theorem Bl:Jz (some ([a,b,c,d,e,f,g,h,i,j,k,l],S))=some (.ref S.length,S++[.lst [a,b,c,d,e,f,g,h,i,j,k,l]]):=YS (show 12≤Wk by decide)
end
theorem Cy:(true == false)=false:=rfl
theorem Cz:(false == true)=false:=rfl
theorem Cw:(true == true)=true:=rfl
theorem CA:(false == false)=true:=rfl
section
variable {a b:Option D} {l m:En} {d e:D} {ds es:List D} {n:Nat} {x y:Option (Fl×En×Sto)} {u v:Option (D×Sto)} {p q:Option (Bool×Sto)}
theorem Md:(a :: l).set 0 b=b :: l:=rfl
theorem Mc:(a :: l).set (n+1) b=a :: l.set n b:=rfl
theorem Mq:(a :: l)[0]? = some a:=rfl
theorem Mo:(a :: l)[n+1]? = l[n]?:=List.getElem?_cons_succ
theorem Mp:(some a).getD none=a:=rfl
theorem Mh:([]:List D).length=0:=rfl
theorem Mg:(d :: ds).length=ds.length+1:=rfl
theorem Mw:([]:List D)++ds=ds:=rfl
theorem Mu:(d :: ds)++es=d :: (ds++es):=rfl
theorem Mv:ds++[]=ds:=VP ds
theorem Td:Q3 n []=Vg n none:=rfl
theorem Tc:Q3 (n+1) (d :: ds)=some d :: Q3 n ds:=by
 unfold Q3
 simp
theorem Mr {caps:List Nat}:YV (n+1) caps l=none :: YV n caps l:=rfl
theorem Mt {j:Nat}{caps:List Nat}:YV 0 (j :: caps) l=(l[j]?.getD none) :: YV 0 caps l:=rfl
theorem Ms:YV 0 [] l=[]:=rfl
theorem Mf:Vg 0 (none:Option D)=[]:=rfl
theorem Me:Vg (n+1) (none:Option D)=none :: Vg n none:=rfl
theorem Mk:(if True then x else y)=x:=if_pos trivial
theorem Ml:(if False then x else y)=y:=if_neg id
theorem Mi:(if True then u else v)=u:=if_pos trivial
theorem Mj:(if False then u else v)=v:=if_neg id
theorem Mm:(if True then p else q)=p:=if_pos trivial
theorem Mn:(if False then p else q)=q:=if_neg id
end
end DL
namespace DL
open PySem L2
section
variable {a b c:M D} {ms:M (List D)} {en:En} {S:Sto} {x v:D} {ds:List D} {n:Nat}
def UJ (n:Nat):Option (D×Sto)->Option (D×Sto)
 |some (v,S)=>match S[n]? with|some (Ob.lst ds)=>if ds.length<Wk then some (.non,S.set n (Ob.lst (ds++[v]))) else none|_=>none
 |none=>none
def Cj (b:M D)(en:En):Option (D×Sto)->Option (D×Sto)
 |some (.ref n,S)=>match S[n]? with|some (Ob.lst _)=>UJ n (b en S)|_=>(b en S).bind λ_=>none
 |some (_,S)=>(b en S).bind λ_=>none
 |none=>none
theorem Aq:Px a b en S=Cj b en (a en S):=by
 unfold Px
 cases a en S with
 |none=>rfl
 |some p=>
  obtain⟨d,S1⟩:=p
  cases d with
  |ref n=>
   show ((b en S1).bind λq=>match S1[n]?,q.2[n]? with|some (Ob.lst _),some (Ob.lst ds)=>if ds.length<Wk then some (D.non,q.2.set n (Ob.lst (ds++[q.1]))) else none|_,_=>none)=_
   cases h:S1[n]? with
   |none=>show _=(match S1[n]? with|some (Ob.lst _)=>UJ n (b en S1)|_=>(b en S1).bind λ_=>none);rw [h]
   |some ob=>
    show _=(match S1[n]? with|some (Ob.lst _)=>UJ n (b en S1)|_=>(b en S1).bind λ_=>none)
    rw [h]
    cases ob with
    |lst l=>
     dsimp only
     cases b en S1 with
     |none=>rfl
     |some q=>
      obtain⟨w,s⟩:=q
      rw [V4]
      unfold UJ
      dsimp only
      cases s[n]? with
      |none=>rfl
      |some o=>cases o<;>rfl
    |_=>rfl
  |_=>rfl
theorem K9 {ds:List D}:Cj b en (some (.ref S.length,S++[Ob.lst ds]))=UJ S.length (b en (S++[Ob.lst ds])):=by
 show (match (S++[Ob.lst ds])[S.length]? with|some (Ob.lst _)=>UJ S.length (b en (S++[Ob.lst ds]))|_=>(b en (S++[Ob.lst ds])).bind λ_=>none)=_
 rw [WF]
theorem N5 (h:ds.length<Wk):UJ S.length (some (v,S++[Ob.lst ds]))=some (.non,S++[Ob.lst (ds++[v])]):=by
 show (match (S++[Ob.lst ds])[S.length]? with|some (Ob.lst ds')=>if ds'.length<Wk then some (D.non,(S++[Ob.lst ds]).set S.length (Ob.lst (ds'++[v]))) else none|_=>none)=_
 rw [WF]
 dsimp only
 rw [if_pos h]
 simp
def NL:Option (D×Sto)->Option (D×Sto)
 |some (d,S)=>(KW d S).map λds=>(.tup ds,S)
 |none=>none
theorem Ko:B5 a en S=NL (a en S):=by
 unfold B5
 cases a en S<;>rfl
theorem Bg:NL (some (.tup ds,S))=some (.tup ds,S):=rfl
theorem Po (h:S[n]? = some (Ob.lst ds)):NL (some (.ref n,S))=some (.tup ds,S):=by
 show ((match S[n]? with|some (Ob.lst ds)=>some ds|_=>none).map λds=>(D.tup ds,S))=_
 rw [h];rfl
theorem Bh:NL (some (.ref S.length,S++[Ob.lst ds]))=some (.tup ds,S++[Ob.lst ds]):=Po (WF ..)
def Fq:Option (List D×Sto)->Option (D×Sto)
 |some (ds,S)=>some (.tup ds,S)
 |none=>none
theorem Kp:LN ms en S=Fq (ms en S):=by
 unfold LN
 cases ms en S<;>rfl
theorem MD:Fq (some (ds,S))=some (.tup ds,S):=rfl
theorem Kv:Em en S=some (.ref S.length,S++[Ob.dct []]):=rfl
def FB:Option (D×Sto)->Option (D×Sto)
 |some (.tup ds,S)=>if ds.length≤Wk then (GV ds).map λps=>(.ref S.length,S++[Ob.dct (KK [] ps)]) else none
 |_=>none
theorem BR:M9 a en S=FB (a en S):=by
 unfold M9
 cases a en S with
 |none=>rfl
 |some p=>obtain⟨d,s⟩:=p;cases d<;>rfl
def RX (C1 C2:String):Option (D×Sto)->Option (D×Sto)
 |some (d,S)=>(tyD d S).map λT=>(.bl (Qs T C1||Qs T C2),S)
 |none=>none
theorem KA {C1 C2:String}:B6 C1 C2 a en S=RX C1 C2 (a en S):=by
 unfold B6
 cases a en S<;>rfl
def NJ (d:D):Option (D×Sto)->Option (ItD×Sto)
 |some (d',S)=>(TV d S).bind λx=>(TV d' S).map λy=>((NZ x.1 y.1,gdZ (x.2++y.2)),S)
 |none=>none
def C0 (b:M D)(en:En):Option (D×Sto)->Option (ItD×Sto)
 |some (d,S)=>NJ d (b en S)
 |none=>none
theorem A4:LM a b en S=C0 b en (a en S):=by
 unfold LM
 cases a en S with
 |none=>rfl
 |some p=>
  obtain⟨d,S1⟩:=p
  show ((b en S1).bind _)=NJ d (b en S1)
  cases b en S1 with
  |none=>rfl
  |some q=>rfl
theorem F4 {d:D}:C0 b en (some (d,S))=NJ d (b en S):=rfl
theorem Mz {xs ys:List D}:NJ (.tup xs) (some (.tup ys,S))=some ((NZ xs ys,.no),S):=rfl
def NK (f:Int->Int->Int)(d:D):Option (D×Sto)->Option (D×Sto)
 |some (d',S)=>match d,d' with | .int i,.int j=>some (.int (f i j),S)|_,_=>none
 |none=>none
def C4 (f:Int->Int->Int)(b:M D)(en:En):Option (D×Sto)->Option (D×Sto)
 |some (d,S)=>NK f d (b en S)
 |none=>none
theorem A7 {f:Int->Int->Int}:Pw f a b en S=C4 f b en (a en S):=by
 unfold Pw
 cases a en S with
 |none=>rfl
 |some p=>
  obtain⟨d,S1⟩:=p
  show ((b en S1).bind _)=NK f d (b en S1)
  cases b en S1 with
  |none=>rfl
  |some q=>rfl
theorem F6 {f:Int->Int->Int}{d:D}:C4 f b en (some (d,S))=NK f d (b en S):=rfl
theorem MC {f:Int->Int->Int}{i j:Int}:NK f (.int i) (some (.int j,S))=some (.int (f i j),S):=rfl
def RY:Option (D×Sto)->Option (D×Sto)
 |some (.int i,S)=>some (.int i,S)
 |some (.bl c,S)=>some (.int (if c then 1 else 0),S)
 |_=>none
theorem KB:LR a en S=RY (a en S):=by
 unfold LR
 cases a en S with
 |none=>rfl
 |some p=>obtain⟨d,s⟩:=p;cases d<;>rfl
theorem Bs {i:Int}:RY (some (.int i,S))=some (.int i,S):=rfl
theorem Bt {t:Bool}:RY (some (.bl t,S))=some (.int (if t then 1 else 0),S):=rfl
def Ht:Option (List D×Sto)->Option (List D×Sto)
 |some (ds,S)=>if T3 ds=true then some (GE ds,S) else none
 |none=>none
theorem Aa:EU ms en S=Ht (ms en S):=by
 unfold EU
 cases ms en S<;>rfl
def Ep:Option (D×Sto)->Option (List D×Sto)
 |some (d,S)=>(EH d S).bind λds=>if T3 ds=true then some (GE ds,S) else none
 |none=>none
theorem Kr:LO a en S=Ep (a en S):=by
 unfold LO
 cases a en S<;>rfl
end
section
variable {a:M D} {en:En} {S:Sto} {ds:List D} {n:Nat}
def kSq:Option (D×Sto)->Option (List D×Sto)
 |some (d,S)=>(AF d S).map λds=>(ds,S)
 |none=>none
theorem Cn:mSq a en S=kSq (a en S):=by
 unfold mSq
 cases a en S<;>rfl
theorem F7:kSq (some (.tup ds,S))=some (ds,S):=rfl
end
section
variable {ms:M (List D)} {en:En} {S:Sto}
def AH:Option (List D×Sto)->Option (D×Sto)
 |some (ds,S)=>(UK ds).map λss=>(.int ss.sum,S)
 |none=>none
theorem A9:RI ms en S=AH (ms en S):=by
 unfold RI
 cases ms en S<;>rfl
theorem U7:∀(ss:List Int),UK (ss.map D.int)=some ss
 |[]=>rfl
 |b :: bs=>by
  show (UK (bs.map D.int)).map _=_
  rw [U7 bs];rfl
theorem Pp {ss:List Int}:AH (some (ss.map D.int,S))=some (.int ss.sum,S):=by
 show (UK (ss.map D.int)).map _=_
 rw [U7];rfl
end
section
variable {a b c:M D} {ms:M (List D)} {en:En} {S:Sto} {x y v:D} {ds:List D} {n:Nat}
def Bz (x:D):Option (D×Sto)->Option (ItD×Sto)
 |some (y,S)=>match x,y with
  | .int i,.int j=>if -(2 ^ 62)≤i/\i<2 ^ 62/\-(2 ^ 62)≤j/\j<2 ^ 62 then some ((T8 i (j-i).toNat,.no),S) else none
  |_,_=>none
 |none=>none
def Ft (b:M D)(en:En):Option (D×Sto)->Option (ItD×Sto)
 |some (x,S)=>Bz x (b en S)
 |none=>none
theorem Ks:LP a b en S=Ft b en (a en S):=by
 unfold LP
 cases a en S with
 |none=>rfl
 |some p=>
  obtain⟨d,S1⟩:=p
  show ((b en S1).bind _)=Bz d (b en S1)
  cases b en S1 with
  |none=>rfl
  |some q=>rfl
theorem MO {d:D}:Ft b en (some (d,S))=Bz d (b en S):=rfl
def Hu:Option (D×Sto)->Option (ItD×Sto)
 |some (.int j,S)=>if -(2 ^ 62)≤j/\j<2 ^ 62 then some ((EJ j.toNat,.no),S) else none
 |_=>none
theorem Ad:EV a en S=Hu (a en S):=by
 unfold EV
 cases a en S with
 |none=>rfl
 |some p=>obtain⟨d,s⟩:=p;cases d<;>rfl
def To (y:Str):Option (D×Sto)->Option (D×Sto)
 |some (.str z,S)=>some (.int (Txt.find y z),S)
 |_=>none
def Fz (b:M D)(en:En):Option (D×Sto)->Option (D×Sto)
 |some (.str y,S)=>To y (b en S)
 |_=>none
theorem KF:LS a b en S=Fz b en (a en S):=by
 unfold LS
 cases a en S with
 |none=>rfl
 |some p=>
  obtain⟨d,S1⟩:=p
  cases d with
  |str y=>
   show ((b en S1).bind _)=To y (b en S1)
   cases b en S1 with
   |none=>rfl
   |some q=>obtain⟨d2,S2⟩:=q;cases d2<;>rfl
  |_=>rfl
theorem K4 {y:Str}:Fz b en (some (.str y,S))=To y (b en S):=rfl
theorem Bx {y z:Str}:To y (some (.str z,S))=some (.int (Txt.find y z),S):=rfl
def Es:Option (List D×Sto)->Option (D×Sto)
 |some (ds,S)=>if LK ds=true then some (LL ds,S) else none
 |none=>none
theorem Kw:LQ ms en S=Es (ms en S):=by
 unfold LQ
 cases ms en S<;>rfl
end
end DL
namespace DL
open PySem L2
theorem EVS:type_of% (Ua @Ph (Ua @RT (Ua @Te (Ua @Tg (Ua @Tf (Ua @Cr (Ua @Cu (Ua @Ct (Ua @Ap (Ua @Fm (Ua @K8 (Ua @EA (Ua @Am (Ua @Al (Ua @Ae (Ua @Fb (Ua @Kt (Ua @KG (Ua @K5 (Ua @Ak (Ua @Fh (Ua @A6 (Ua @EX (Ua @Ao (Ua @Cq (Ua @Fd (Ua @Fc (Ua @e_T (Ua @k_T (Ua @Au (Ua @Ka (Ua @As (Ua @Cp (Ua @Af (Ua @Fn (Ua @EY (Ua @Fe (Ua @Kn (Ua @A5 (Ua @Km (Ua @MB (Ua @F5 (Ua @MA (Ua @Bf (Ua @Cs (Ua @EZ (Ua @BS (Ua @Fk (Ua @Fj (Ua @Fi (Ua @Ag (Ua @KH (Ua @K6 (Ua @By (Ua @KJ (Ua @K7 (Ua @A8 (Ua @Ah (Ua @Ab (Ua @Th (Ua @Ti (Ua @Ai (Ua @K1 (Ua @Aj (Ua @At (Ua @Ar (Ua @Kz (Ua @JY (Ua @Bq (Ua @Br (Ua @Ac (Ua @An (Ua @Bv (Ua @Tj (Ua @Bw (Ua @KI (Ua @Tl (Ua @U3 (Ua @Bu (Ua @Tk (Ua @Tn (Ua @Kx (Ua @K3 (Ua @Ky (Ua @Bp (Ua @Co (Ua @Fa (Ua @F9 (Ua @F8 (Ua @Ku (Ua @MP (Ua @Ty (Ua @Kq (Ua @Kk (Ua @Kh (Ua @FN (Ua @FO (Ua @FV (Ua @FW (Ua @FY (Ua @FX (Ua @FZ (Ua @FK (Ua @FJ (Ua @U9 (Ua @Kj (Ua @FU (Ua @FT (Ua @FS (Ua @FR (Ua @FQ (Ua @FP (Ua @KC (Ua @KD (Ua @U0 (Ua @U1 (Ua @U2 (Ua @JZ (Ua @MN (Ua @K0 (Ua @MM (Ua @MZ (Ua @ML (Ua @MY (Ua @MK (Ua @MX (Ua @MJ (Ua @MW (Ua @MI (Ua @MV (Ua @MH (Ua @MU (Ua @MG (Ua @MT (Ua @MF (Ua @MR (Ua @ME (Ua @MQ (Ua @Bk (Ua @Bn (Ua @Bj (Ua @Bm (Ua @Bi (Ua @Bl (Ua @Cy (Ua @Cz (Ua @Cw (Ua @CA (Ua @Md (Ua @Mc (Ua @Mq (Ua @Mo (Ua @Mp (Ua @Mh (Ua @Mg (Ua @Mw (Ua @Mu (Ua @Mv (Ua @Td (Ua @Tc (Ua @Mr (Ua @Mt (Ua @Ms (Ua @Mf (Ua @Me (Ua @Mk (Ua @Ml (Ua @Mi (Ua @Mj (Ua @Mm (Ua @Mn (Ua @Aq (Ua @K9 (Ua @Ko (Ua @Bg (Ua @Bh (Ua @Kp (Ua @MD (Ua @Kv (Ua @BR (Ua @KA (Ua @A4 (Ua @F4 (Ua @Mz (Ua @A7 (Ua @F6 (Ua @MC (Ua @KB (Ua @Bs (Ua @Bt (Ua @Aa (Ua @Kr (Ua @Cn (Ua @F7 (Ua @A9 (Ua @Ks (Ua @MO (Ua @Ad (Ua @KF (Ua @K4 (Ua @Bx (Ua @Kw (Ua @JE (Ua @and_true (Ua @true_and (Ua @decide_true (Ua @decide_false (Ua @Bool.not_true (Ua @Bool.not_false (Ua @Bool.false_eq_true (Ua @Nat.add_zero (Ua @Nat.zero_add @Nat.sub_zero)))))))))))))))))))))))))))))))))))))))))))))))))))))))))))))))))))))))))))))))))))))))))))))))))))))))))))))))))))))))))))))))))))))))))))))))))))))))))))))))))))))))))))))))))))))))))))))))))))))))))))))))))))):=(Ua @Ph (Ua @RT (Ua @Te (Ua @Tg (Ua @Tf (Ua @Cr (Ua @Cu (Ua @Ct (Ua @Ap (Ua @Fm (Ua @K8 (Ua @EA (Ua @Am (Ua @Al (Ua @Ae (Ua @Fb (Ua @Kt (Ua @KG (Ua @K5 (Ua @Ak (Ua @Fh (Ua @A6 (Ua @EX (Ua @Ao (Ua @Cq (Ua @Fd (Ua @Fc (Ua @e_T (Ua @k_T (Ua @Au (Ua @Ka (Ua @As (Ua @Cp (Ua @Af (Ua @Fn (Ua @EY (Ua @Fe (Ua @Kn (Ua @A5 (Ua @Km (Ua @MB (Ua @F5 (Ua @MA (Ua @Bf (Ua @Cs (Ua @EZ (Ua @BS (Ua @Fk (Ua @Fj (Ua @Fi (Ua @Ag (Ua @KH (Ua @K6 (Ua @By (Ua @KJ (Ua @K7 (Ua @A8 (Ua @Ah (Ua @Ab (Ua @Th (Ua @Ti (Ua @Ai (Ua @K1 (Ua @Aj (Ua @At (Ua @Ar (Ua @Kz (Ua @JY (Ua @Bq (Ua @Br (Ua @Ac (Ua @An (Ua @Bv (Ua @Tj (Ua @Bw (Ua @KI (Ua @Tl (Ua @U3 (Ua @Bu (Ua @Tk (Ua @Tn (Ua @Kx (Ua @K3 (Ua @Ky (Ua @Bp (Ua @Co (Ua @Fa (Ua @F9 (Ua @F8 (Ua @Ku (Ua @MP (Ua @Ty (Ua @Kq (Ua @Kk (Ua @Kh (Ua @FN (Ua @FO (Ua @FV (Ua @FW (Ua @FY (Ua @FX (Ua @FZ (Ua @FK (Ua @FJ (Ua @U9 (Ua @Kj (Ua @FU (Ua @FT (Ua @FS (Ua @FR (Ua @FQ (Ua @FP (Ua @KC (Ua @KD (Ua @U0 (Ua @U1 (Ua @U2 (Ua @JZ (Ua @MN (Ua @K0 (Ua @MM (Ua @MZ (Ua @ML (Ua @MY (Ua @MK (Ua @MX (Ua @MJ (Ua @MW (Ua @MI (Ua @MV (Ua @MH (Ua @MU (Ua @MG (Ua @MT (Ua @MF (Ua @MR (Ua @ME (Ua @MQ (Ua @Bk (Ua @Bn (Ua @Bj (Ua @Bm (Ua @Bi (Ua @Bl (Ua @Cy (Ua @Cz (Ua @Cw (Ua @CA (Ua @Md (Ua @Mc (Ua @Mq (Ua @Mo (Ua @Mp (Ua @Mh (Ua @Mg (Ua @Mw (Ua @Mu (Ua @Mv (Ua @Td (Ua @Tc (Ua @Mr (Ua @Mt (Ua @Ms (Ua @Mf (Ua @Me (Ua @Mk (Ua @Ml (Ua @Mi (Ua @Mj (Ua @Mm (Ua @Mn (Ua @Aq (Ua @K9 (Ua @Ko (Ua @Bg (Ua @Bh (Ua @Kp (Ua @MD (Ua @Kv (Ua @BR (Ua @KA (Ua @A4 (Ua @F4 (Ua @Mz (Ua @A7 (Ua @F6 (Ua @MC (Ua @KB (Ua @Bs (Ua @Bt (Ua @Aa (Ua @Kr (Ua @Cn (Ua @F7 (Ua @A9 (Ua @Ks (Ua @MO (Ua @Ad (Ua @KF (Ua @K4 (Ua @Bx (Ua @Kw (Ua @JE (Ua @and_true (Ua @true_and (Ua @decide_true (Ua @decide_false (Ua @Bool.not_true (Ua @Bool.not_false (Ua @Bool.false_eq_true (Ua @Nat.add_zero (Ua @Nat.zero_add @Nat.sub_zero))))))))))))))))))))))))))))))))))))))))))))))))))))))))))))))))))))))))))))))))))))))))))))))))))))))))))))))))))))))))))))))))))))))))))))))))))))))))))))))))))))))))))))))))))))))))))))))))))))))))))))))))))))
end DL
namespace DL
open PySem L2
section
variable {α:Type} {ds0:List D} {gd:Gd} {cap:En} {g:D->En->Option En} {c:M Bool} {m:M D} {S:Sto}
theorem Tz (xs:List α)(enc:α->D)(p:α->Bool)(f:α->D)(hg:Ng gd ds0 S)(hl:xs.length≤Wk)(h:∀a∈xs,∃en,g (enc a) cap=some en/\c en S=some (p a,S)/\(p a=true->m en S=some (f a,S))) :
  ZN ds0 gd cap g c m (xs.map enc) [] S=some ((xs.filter p).map f,S):=by
 have key:∀(l:List α) (acc:List D),acc.length+l.length≤Wk->(∀a∈l,∃en,g (enc a) cap=some en/\c en S=some (p a,S)/\(p a=true->m en S=some (f a,S)))->
   ZN ds0 gd cap g c m (l.map enc) acc S=some (acc++(l.filter p).map f,S):=by
  intro l
  induction l with
  |nil=>
   intro acc hl _
   unfold ZN
   simp only [We]
   rw [if_pos ⟨hg,by simpa using hl⟩]
   simp
  |cons a l ih=>
   intro acc hl h
   obtain⟨en,h1,h2,h3⟩:=h a WJ
   rw [WP] at hl
   rw [W5]
   unfold ZN
   rw [if_pos ⟨hg,by omega⟩,h1,V4,h2,V4]
   dsimp only
   cases hp:p a with
   |true=>
    rw [if_pos rfl,h3 hp,V4,ih (acc++[f a]) (by rw [Wx,List.length_singleton];omega) λd' hd'=>h d' (WG _ hd')]
    rw [List.filter_cons_of_pos hp,W5,VG]
    rfl
   |false=>
    rw [if_neg WX,ih acc (by omega) λd' hd'=>h d' (WG _ hd')]
    rw [List.filter_cons_of_neg (by simp [hp])]
 simpa using key xs [] (by simpa using hl) h
theorem Yc (xs:List α)(enc:α->D)(f:α->D)(hg:Ng gd ds0 S)(hl:xs.length≤Wk)(h:∀a∈xs,∃en,g (enc a) cap=some en/\m en S=some (f a,S)) :
  ZN ds0 gd cap g YR m (xs.map enc) [] S=some (xs.map f,S):=by
 have:=Tz (c:=YR) xs enc (λ_=>true) f hg hl (λa ha=>by
  obtain⟨en,h1,h2⟩:=h a ha
  exact⟨en,h1,rfl,λ_=>h2⟩)
 rw [List.filter_eq_self.mpr λ_ _=>rfl] at this
 exact this
theorem ZU {ds:List D}{S:Sto}:Ng .no ds S:=trivial
theorem Jj (n:Nat):T8 0 n=(WY n).map λi=>D.int (i:Nat):=by
 unfold T8
 simp
theorem QH {body:MS}(xs:List α)(enc:α->D)(P:List α->En->Sto->Prop)(h:∀pre a post en S,xs=pre++a :: post->P pre en S->∃en1,g (enc a) en=some en1/\∃en2 S2,body en1 S=some (.nx,en2,S2)/\P (pre++[a]) en2 S2)
  (hg:∀pre en S,P pre en S->Ng gd ds0 S) {en:En} {S:Sto} (h0:P [] en S):∃en' S',Yb ds0 gd g body (xs.map enc) en S=some (.nx,en',S')/\P xs en' S':=by
 have key:∀(post pre:List α) en S,xs=pre++post->P pre en S->∃en' S',Yb ds0 gd g body (post.map enc) en S=some (.nx,en',S')/\P xs en' S':=by
  intro post
  induction post with
  |nil=>
   intro pre en S e hp
   unfold Yb
   simp only [We]
   rw [if_pos (hg pre en S hp)]
   rw [VP] at e
   exact⟨en,S,rfl,e ▸ hp⟩
  |cons a post ih=>
   intro pre en S e hp
   obtain⟨en1,h1,en2,S2,h2,h3⟩:=h pre a post en S e hp
   rw [W5]
   unfold Yb
   rw [if_pos (hg pre en S hp),h1,V4,h2,V4]
   exact ih (pre++[a]) en2 S2 (by rw [e,VG];rfl) h3
 exact key xs [] en S rfl h0
end
theorem G8 (l:List Nat):cs ⟨l.toArray⟩=l:=by simp [cs]
theorem LJ (x:Str):(⟨(cs x).toArray⟩:Str)=x:=by cases x;simp [cs]
theorem Jf {x y:Str}(h:cs x=cs y):x=y:=by rw [←LJ x,←LJ y,h]
end DL
namespace K21
open PySem PySem.Spec PyProof.Rows L2 DL
def top (i:Nat):Stmt:=PySem.Challenge.pw_twinshelves_k21_parcels_opened.main.body.getD i (.Pass ⟨0,0,0,0⟩)
abbrev ZR:Stmt:=top 1
abbrev Za:Stmt:=top 2
abbrev Y3:Stmt:=top 5
abbrev Yk:Stmt:=top 6
abbrev Zo:Stmt:=top 8
abbrev ZZ:Stmt:=top 9
abbrev ZA:Stmt:=top 7
abbrev Zn:Stmt:=top 10
abbrev Y9:Stmt:=top 11
abbrev Yl:Stmt:=top 13
abbrev Ym:Stmt:=top 14
abbrev Ya:Stmt:=top 15
abbrev Yq:Stmt:=top 16
abbrev Y4:Stmt:=top 17
abbrev Q6:Stmt:=top 18
theorem nd0:(["thing"]:List Str).Nodup:=by decide +kernel
theorem nd1:(["thing", "length"]:List Str).Nodup:=by decide +kernel
theorem nd2:(["thing", "old"]:List Str).Nodup:=by decide +kernel
theorem nd3:(["piece", "old"]:List Str).Nodup:=by decide +kernel
theorem nd4:(["parcel", "old"]:List Str).Nodup:=by decide +kernel
theorem nd5:(["thing", "text", "old"]:List Str).Nodup:=by decide +kernel
theorem nd6:(["piece"]:List Str).Nodup:=by decide +kernel
theorem nd7:(["parcel"]:List Str).Nodup:=by decide +kernel
theorem nd8:(["_law_script", "_law_k"]:List Str).Nodup:=by decide +kernel
theorem nd9:(["_law_cell_here", "_law_prime", "_law_many"]:List Str).Nodup:=by decide +kernel
theorem Hr:(["_law_found", "_law_due"]:List Str).Nodup:=by decide +kernel
theorem ET:(["_law_one", "_law_other"]:List Str).Nodup:=by decide +kernel
theorem AG:(["_law_cell_here", "_law_signs", "_law_many"]:List Str).Nodup:=by decide +kernel
theorem Hq:(["_law_k", "_law_cell_here", "_law_signs"]:List Str).Nodup:=by decide +kernel
theorem Ni:(["_law_cell_here", "_law_old_here", "_law_signs", "_law_pieces", "_law_text", "_law_k", "_law_one", "_law_many", "_law_words"]:List Str).Nodup:=by decide +kernel
theorem Ur:(["_law_script", "_law_k", "_law_cell_here", "_law_old_here", "_law_pieces", "_law_text", "_law_due", "_law_at", "_law_size", "_law_wrong", "_law_piece", "_law_some", "_law_more"]:List Str).Nodup:=by decide +kernel
theorem ES:(["_law_piece"]:List Str).Nodup:=by decide +kernel
theorem Ho:(["_law_piece", "_law_text"]:List Str).Nodup:=by decide +kernel
theorem ER:(["_law_words", "_law_piece", "_law_old_here", "_law_pieces"]:List Str).Nodup:=by decide +kernel
theorem Ul:Ww "all" = some (.builtin "all"):=by decide +kernel
theorem N8:Ww "any" = some (.builtin "any"):=by decide +kernel
theorem Yo:Ww "bool" = some (.type "bool"):=by decide +kernel
theorem Uk:Ww "int" = some (.type "int"):=by decide +kernel
theorem Zb:Ww "isinstance" = some (.builtin "isinstance"):=by decide +kernel
theorem ZI:Ww "len" = some (.builtin "len"):=by decide +kernel
theorem J7:Ww "list" = some (.type "list"):=by decide +kernel
theorem N7:Ww "min" = some (.builtin "min"):=by decide +kernel
theorem Uj:Ww "str" = some (.type "str"):=by decide +kernel
theorem QK:Ww "sum" = some (.builtin "sum"):=by decide +kernel
theorem Yi:Ww "tuple" = some (.type "tuple"):=by decide +kernel
theorem N6:Ww "zip" = some (.type "zip"):=by decide +kernel
structure Txt (K:W4) (mg:Str->Option Value):Prop where
 n_all:mg "all" = none
 n_any:mg "any" = none
 n_bool:mg "bool" = none
 n_int:mg "int" = none
 n_isinstance:mg "isinstance" = none
 n_len:mg "len" = none
 n_list:mg "list" = none
 n_min:mg "min" = none
 n_range:mg "range" = none
 n_str:mg "str" = none
 n_sum:mg "sum" = none
 n_tuple:mg "tuple" = none
 n_zip:mg "zip" = none
 c_PIECE_WEIGHT:∃t,mg "PIECE_WEIGHT" = some (.int 2 t)
abbrev G1:MS:=(YX (T0 (UH "int" (Z7 0)) (PC (UH "bool" (Z7 0)))))
def ZT:List D->Sto->Option (D×Sto):=QO 1 1 G1
abbrev YQ:MS:=(YX (T0 (UH "tuple" (Z7 0)) (mOp gEq (UF (Z7 0)) (Z7 1))))
def Z3:List D->Sto->Option (D×Sto):=QO 2 2 YQ
abbrev B3:MS:=(Yn (QS (mOr (G2 (JT (Zy Z3 (Z1 (Z7 0) (Z1 (Z8 (D.int (3))) Zp))))) (mOr (mT (mOp gNe (mOp gIx (Z7 0) (Z8 (D.int (0)))) (Z8 (D.str (W3 "keep"))))) (mOr (G2 (JT (Zy ZT (Z1 (mOp gIx (Z7 0) (Z8 (D.int (1)))) Zp)))) (G2 (JT (Zy ZT (Z1 (mOp gIx (Z7 0) (Z8 (D.int (2)))) Zp))))))) (YX (Z8 (D.bl false))) mNx) (YX (T0 (mOp gGe (mOp gIx (Z7 0) (Z8 (D.int (1)))) (Z8 (D.int (0)))) (T0 (mOp gGe (mOp gIx (Z7 0) (Z8 (D.int (2)))) (Z8 (D.int (1)))) (mOp gLe (mOp ZW (mOp gIx (Z7 0) (Z8 (D.int (1)))) (mOp gIx (Z7 0) (Z8 (D.int (2))))) (UF (Z7 1)))))))
def Zm:List D->Sto->Option (D×Sto):=QO 2 2 B3
abbrev NF:MS:=(YX (T0 (Zy Z3 (Z1 (Z7 0) (Z1 (Z8 (D.int (2))) Zp))) (T0 (mOp gEq (mOp gIx (Z7 0) (Z8 (D.int (0)))) (Z8 (D.str (W3 "new")))) (T0 (UH "str" (mOp gIx (Z7 0) (Z8 (D.int (1))))) (mOp gNe (mOp gIx (Z7 0) (Z8 (D.int (1)))) (Z8 (D.str (W3 ""))))))))
def ZC:List D->Sto->Option (D×Sto):=QO 1 1 NF
abbrev QQ:MS:=(YX (mIf (mT (mOp gEq (mOp gIx (Z7 0) (Z8 (D.int (0)))) (Z8 (D.str (W3 "new"))))) (mOp gIx (Z7 0) (Z8 (D.int (1)))) (mSl (Z7 1) (Qt (mOp gIx (Z7 0) (Z8 (D.int (1))))) (Qt (mOp ZW (mOp gIx (Z7 0) (Z8 (D.int (1)))) (mOp gIx (Z7 0) (Z8 (D.int (2)))))))))
def ZP:List D->Sto->Option (D×Sto):=QO 2 2 QQ
def J4:M D:=(Zy ZP (Z1 (Z7 0) (Z1 (Z7 1) Zp)))
abbrev NE:MS:=(YX (UG (Z8 (D.str (W3 ""))) (Q0 (Qj (Z7 0)) 1 [1] (gN 0) YR J4)))
def Yd:List D->Sto->Option (D×Sto):=QO 2 2 NE
def ZB:M D:=(vOr (Zy Zm (Z1 (Z7 0) (Z1 (Z7 1) Zp))) (Zy ZC (Z1 (Z7 0) Zp)))
abbrev UD:MS:=(Yn (QS (mOr (G2 (JT (UH "tuple" (Z7 0)))) (G2 (JT (Py (Q0 (Qj (Z7 0)) 1 [2] (gN 0) YR ZB))))) (YX (Z8 (D.bl false))) mNx) (YX (mOp gEq (Zy Yd (Z1 (Z7 0) (Z1 (Z7 2) Zp))) (Z7 1))))
def Z9:List D->Sto->Option (D×Sto):=QO 3 3 UD
abbrev QP:MS:=(YX (mIf (mT (mOp gEq (mOp gIx (Z7 0) (Z8 (D.int (0)))) (Z8 (D.str (W3 "new"))))) (mOp ZW (Z8 (D.int 2)) (UF (mOp gIx (Z7 0) (Z8 (D.int (1)))))) (Z8 (D.int 2))))
def ZO:List D->Sto->Option (D×Sto):=QO 1 1 QP
def J3:M D:=(Zy ZO (Z1 (Z7 0) Zp))
abbrev ND:MS:=(YX (RI (Q0 (Qj (Z7 0)) 1 [] (gN 0) YR J3)))
def Yw:List D->Sto->Option (D×Sto):=QO 1 1 ND
abbrev NG:MS:=(Yn (QS (mT (mOp gLt (Z7 1) (UF (Z7 0)))) (YX (mOp gIx (Z7 0) (Z7 1))) mNx) (YX (Z8 (D.int (0)))))
def Y0:List D->Sto->Option (D×Sto):=QO 2 2 NG
abbrev RG:MS:=(YX (mOp Pe (mOp Pe (mOp Gh (Z7 0) (Z8 (D.int (48271)))) (Z7 1)) (Z7 2)))
def ZY:List D->Sto->Option (D×Sto):=QO 3 3 RG
abbrev Ys (Fr:List D->Sto->Option (D×Sto)):MS:=(Yn (QS (JT (UH "tuple" (Z7 1))) (Yn (QS (mOr (G2 (JT (UH "tuple" (Z7 0)))) (mT (mOp gNe (UF (Z7 0)) (UF (Z7 1))))) (YX (Z8 (D.bl false))) mNx) (YX (Py (Q0 (LM (Z7 0) (Z7 1)) 2 [] (gT 2 (Yy (gN 0) (Yy (gN 1) UM))) YR (Zy Fr (Z1 (Z7 0) (Z1 (Z7 1) Zp))))))) mNx) (Yn (QS (mT (mOp gIs (Z7 1) (Z8 D.non))) (YX (mOp gIs (Z7 0) (Z8 D.non))) mNx) (Yn (QS (mOr (JT (UH "bool" (Z7 1))) (JT (UH "bool" (Z7 0)))) (YX (T0 (UH "bool" (Z7 1)) (T0 (UH "bool" (Z7 0)) (mOp gEq (Z7 0) (Z7 1))))) mNx) (YX (T0 (B6 "int" "str" (Z7 0)) (mOp gEq (Z7 0) (Z7 1)))))))
def ZK:Nat->List D->Sto->Option (D×Sto)
 |0=>λ_ _=>none
 |k+1=>QO 2 2 (Ys (ZK k))
def QI:M D:=(mOp gIx (Z7 2) (Zy ZY (Z1 (mOp ZW (Z7 1) (mOp Gh (Z8 (D.int (13))) (Z7 0))) (Z1 (Z8 (D.int (9749))) (Z1 (Z8 (D.int (5))) Zp)))))
abbrev RF:MS:=(Yn (YK (Z8 (D.str (W3 "abc; "))) (gN 1)) (Yn (YK (Zy ZY (Z1 (Z7 0) (Z1 (Z8 (D.int (9769))) (Z1 (Z8 (D.int (14))) Zp)))) (gN 2)) (Yn (QS (mT (mOp gEq (Zy ZY (Z1 (Z7 0) (Z1 (Z8 (D.int (9767))) (Z1 (Z8 (D.int (8))) Zp)))) (Z8 (D.int (0))))) (YK (Z8 (D.int (60))) (gN 2)) mNx) (YX (UG (Z8 (D.str (W3 ""))) (Q0 (UE (Z7 2)) 1 [0,1] (gN 0) YR QI))))))
def Qn:List D->Sto->Option (D×Sto):=QO 3 1 RF
def Yv:MS:=(Yn (YK (Zy ZY (Z1 (mOp ZW (Z7 0) (mOp Gh (Z8 (D.int (7))) (Z7 5))) (Z1 (Z8 (D.int (9739))) (Z1 (mOp ZW (UF (Z7 1)) (Z8 (D.int (1)))) Zp)))) (gN 6)) (Yn (YK (Zy ZY (Z1 (mOp ZW (Z7 0) (mOp Gh (Z8 (D.int (11))) (Z7 5))) (Z1 (Z8 (D.int (9733))) (Z1 (mOp ZW (Pw Ke (mOp Kl (UF (Z7 1)) (Z7 6)) (Z8 (D.int (11)))) (Z8 (D.int (1)))) Zp)))) (gN 7)) (QS (mT (mOp gGt (Z7 7) (Z8 (D.int (0))))) (Yn (G3 (Px (Z7 3) (Y8 (Z1 (Z8 (D.str (W3 "keep"))) (Z1 (Z7 6) (Z1 (Z7 7) Zp)))))) (YK (mOp ZW (Z7 4) (mSl (Z7 1) (Qt (Z7 6)) (Qt (mOp ZW (Z7 6) (Z7 7))))) (gN 4))) (Yn (YK (mSl (mOp Gh (Z7 2) (Z8 (D.int (2)))) (Qt (mOp Pe (Z7 6) (Z8 (D.int (5))))) (Qt (mOp ZW (mOp ZW (mOp Pe (Z7 6) (Z8 (D.int (5)))) (Z8 (D.int (1)))) (mOp Pe (Z7 6) (Z8 (D.int (3))))))) (gN 8)) (Yn (G3 (Px (Z7 3) (Y8 (Z1 (Z8 (D.str (W3 "new"))) (Z1 (Z7 8) Zp))))) (YK (mOp ZW (Z7 4) (Z7 8)) (gN 4)))))))
abbrev B4:MS:=(Yn (YK (Z8 (D.str (W3 "xyz;0"))) (gN 2)) (Yn (YK (Gg Zp) (gN 3)) (Yn (YK (Z8 (D.str (W3 ""))) (gN 4)) (Yn (M8 (UE (mOp ZW (Z8 (D.int (1))) (Zy ZY (Z1 (Z7 0) (Z1 (Z8 (D.int (9743))) (Z1 (Z8 (D.int (5))) Zp)))))) (gN 5) Yv) (YX (Y8 (Z1 (B5 (Z7 3)) (Z1 (Z7 4) Zp))))))))
def YG:List D->Sto->Option (D×Sto):=QO 9 2 B4
def BQ:M D:=(Z8 (D.int (2)))
def Jw:M Bool:=(mT (mOp gEq (mOp gIx (Z7 0) (Z8 (D.int (0)))) (Z8 (D.str (W3 "new")))))
def UQ:M D:=(UF (mOp gIx (Z7 0) (Z8 (D.int (1)))))
def QM:MS:=(Yn (YK (mOp ZW (mOp ZW (mSl (Z7 4) Jo (Qt (Z7 7))) (Y8 (Z1 (Z7 10) Zp))) (mSl (Z7 4) (Qt (mOp ZW (Z7 7) (Z8 (D.int (1))))) Jo)) (gN 11)) (QS (mOr (mT (mOp YY (Zy Z9 (Z1 (Z7 11) (Z1 (Z7 5) (Z1 (Z7 3) Zp)))) (Z8 (D.bl false)))) (mT (mOp YY (Zy Z9 (Z1 (Z7 11) (Z1 (mOp ZW (Z7 5) (Z8 (D.str (W3 "a")))) (Z1 (Z7 3) Zp)))) (Z8 (D.bl false))))) (YX (Z8 (D.bl false))) mNx))
def Js:M D:=(Y8 (Z1 (Z7 1) (Z1 (Z7 0) Zp)))
def Jr:M D:=(mOp YY (Zy Z9 (Z1 (mOp ZW (Z7 3) (Y8 (Z1 (Z7 1) Zp))) (Z1 (Z7 0) (Z1 (Z7 2) Zp)))) (Z8 (D.bl false)))
def Jx:MS:=(Yn (YK (Zy Y0 (Z1 (Z7 0) (Z1 (Z7 1) Zp))) (gN 2)) (Yn (YK (Zy Qn (Z1 (Z7 2) Zp)) (gN 3)) (Yn (YK (Zy YG (Z1 (mOp ZW (Zy Y0 (Z1 (Z7 0) (Z1 (mOp ZW (Z7 1) (Z8 (D.int (1)))) Zp))) (Z7 1)) (Z1 (Z7 3) Zp))) (gT 2 (Yy (gN 4) (Yy (gN 5) UM)))) (Yn (YK (mOp ZW (RI (Q0 (Qj (Z7 4)) 1 [] (gN 0) YR BQ)) (RI (Q0 (Qj (Z7 4)) 1 [] (gN 0) Jw UQ))) (gN 6)) (Yn (QS (mOr (G2 (JT (Zy (ZK 12) (Z1 (Zy Yd (Z1 (Z7 4) (Z1 (Z7 3) Zp))) (Z1 (Z7 5) Zp))))) (G2 (JT (Zy (ZK 12) (Z1 (Zy Yw (Z1 (Z7 4) Zp)) (Z1 (Z7 6) Zp)))))) (YX (Z8 (D.bl false))) mNx) (Yn (QS (mOr (mT (mOp YY (Zy Z9 (Z1 (Z7 4) (Z1 (Z7 5) (Z1 (Z7 3) Zp)))) (Z8 (D.bl true)))) (mT (mOp YY (Zy Z9 (Z1 (Z7 4) (Z1 (mOp ZW (Z7 5) (Z8 (D.str (W3 "a")))) (Z1 (Z7 3) Zp)))) (Z8 (D.bl false))))) (YX (Z8 (D.bl false))) mNx) (Yn (QS (mOr (G2 (JT (Zy (ZK 12) (Z1 (Y8 (Z1 (Zy Yd (Z1 (Y8 Zp) (Z1 (Z7 3) Zp))) (Z1 (Zy Yw (Z1 (Y8 Zp) Zp)) Zp))) (Z1 (Y8 (Z1 (Z8 (D.str (W3 ""))) (Z1 (Z8 (D.int (0))) Zp))) Zp))))) (mT (mOp YY (Zy Z9 (Z1 (Y8 Zp) (Z1 (Z8 (D.str (W3 ""))) (Z1 (Z7 3) Zp)))) (Z8 (D.bl true))))) (YX (Z8 (D.bl false))) mNx) (Yn (YK (Zy ZY (Z1 (Zy Y0 (Z1 (Z7 0) (Z1 (Z8 (D.int (4))) Zp))) (Z1 (Z8 (D.int (9721))) (Z1 (UF (Z7 4)) Zp)))) (gN 7)) (Yn (YK (UF (Z7 3)) (gN 8)) (Yn (YK (Gg (Z1 (Y8 (Z1 (Z8 (D.str (W3 "keep"))) (Z1 (Z7 8) (Z1 (Z8 (D.int (1))) Zp)))) (Z1 (Y8 (Z1 (Z8 (D.str (W3 "keep"))) (Z1 (Z8 (D.int (-1))) (Z1 (Z8 (D.int (1))) Zp)))) (Z1 (Y8 (Z1 (Z8 (D.str (W3 "keep"))) (Z1 (Z8 (D.int (0))) (Z1 (Z8 (D.int (0))) Zp)))) (Z1 (Y8 (Z1 (Z8 (D.str (W3 "keep"))) (Z1 (Z8 (D.int (0))) (Z1 (mOp ZW (Z7 8) (Z8 (D.int (1)))) Zp)))) (Z1 (Y8 (Z1 (Z8 (D.str (W3 "keep"))) (Z1 (Z8 (D.bl false)) (Z1 (Z8 (D.bl true)) Zp)))) Zp)))))) (gN 9)) (Yn (YK (mOp ZW (Z7 9) (Gg (Z1 (Y8 (Z1 (Z8 (D.str (W3 "new"))) (Z1 (Z8 (D.str (W3 ""))) Zp))) (Z1 (Y8 (Z1 (Z8 (D.str (W3 "new"))) (Z1 (Z7 7) Zp))) (Z1 (Y8 (Z1 (Z8 (D.str (W3 "new"))) (Z1 (Z8 (D.str (W3 "a"))) (Z1 (Z8 (D.str (W3 "b"))) Zp)))) (Z1 (Y8 (Z1 (Z8 (D.str (W3 "keep"))) (Z1 (Z8 (D.int (0))) Zp))) (Z1 (QR (mSq (mOp gIx (Z7 4) (Z7 7)))) (Z1 (Y8 Zp) (Z1 (Z8 D.non) Zp))))))))) (gN 9)) (Yn (M8 (Qj (Z7 9)) (gN 10) QM) (Yn (YK (QR (Q0 (Qj (Y8 (Z1 (Y8 (Z1 (Z8 (D.str (W3 "keep"))) (Z1 (Z8 (D.int (0))) (Z1 (Z8 (D.int (0))) Zp)))) (Z1 (Y8 (Z1 (Z8 (D.str (W3 "new"))) (Z1 (Z8 (D.str (W3 ""))) Zp))) (Z1 (Y8 Zp) (Z1 (Y8 (Z1 (Z8 (D.str (W3 "new"))) (Z1 (Z8 (D.str (W3 ""))) (Z1 (Z8 (D.str (W3 ""))) Zp)))) (Z1 (Z8 D.non) Zp))))))) 1 [5] (gN 0) YR Js)) (gN 12)) (Yn (QS (mT (mOp gGt (Z7 8) (Z8 (D.int (0))))) (Yn (YK (mOp ZW (Z7 12) (Gg (Z1 (Y8 (Z1 (mOp ZW (Z7 5) (mOp gIx (Z7 3) (Z8 (D.int (-1))))) (Z1 (Y8 (Z1 (Z8 (D.str (W3 "keep"))) (Z1 (mOp Kl (Z7 8) (Z8 (D.int (1)))) (Z1 (Z8 (D.int (2))) Zp)))) Zp))) (Z1 (Y8 (Z1 (mOp ZW (Z7 5) (mOp gIx (Z7 3) (Z8 (D.int (-1))))) (Z1 (Y8 (Z1 (Z8 (D.str (W3 "keep"))) (Z1 (mOp Kl (Z7 8) (Z8 (D.int (1)))) (Z1 (Z8 (D.bl true)) Zp)))) Zp))) Zp)))) (gN 12)) (YK (mOp ZW (Z7 12) (Gg (Z1 (Y8 (Z1 (mOp ZW (Z7 5) (mOp gIx (Z7 3) (Z8 (D.int (0))))) (Z1 (Y8 (Z1 (Z8 (D.str (W3 "keep"))) (Z1 (Z8 (D.bl false)) (Z1 (Z8 (D.int (1))) Zp)))) Zp))) (Z1 (Y8 (Z1 (mOp ZW (Z7 5) (mOp gIx (Z7 3) (Z8 (D.int (0))))) (Z1 (Y8 (Z1 (Z8 (D.str (W3 "keep"))) (Z1 (Z8 (D.int (0))) (Z1 (Z8 (D.int (1))) (Z1 (Z8 (D.int (0))) Zp))))) Zp))) Zp)))) (gN 12))) mNx) (Yn (QS (JT (LT (Q0 (Qj (Z7 12)) 2 [3,4] (gT 2 (Yy (gN 0) (Yy (gN 1) UM))) YR Jr))) (YX (Z8 (D.bl false))) mNx) (QS (mOr (mT (mOp YY (Zy Z9 (Z1 (QR (mSq (Z7 4))) (Z1 (Z7 5) (Z1 (Z7 3) Zp)))) (Z8 (D.bl false)))) (mT (mOp YY (Zy Z9 (Z1 (Z7 5) (Z1 (Z7 5) (Z1 (Z7 3) Zp)))) (Z8 (D.bl false))))) (YX (Z8 (D.bl false))) mNx))))))))))))))))
abbrev Ek:MS:=(Yn (M8 (UE (Z8 (D.int (3)))) (gN 1) Jx) (YX (Z8 (D.bl true))))
def F_law:List D->Sto->Option (D×Sto):=QO 13 1 Ek
section
variable {P:Program} {w:World} {K:W4} {mg:Str->Option Value} {base:Heap}
theorem CP:FnScope ["thing"] ["thing"] (Z4 ZR):=⟨rfl,rfl,rfl,nd0,rfl,by decide +kernel,by decide +kernel⟩
theorem Hf {f_9:Addr}{fd_9:FuncData}(T:Txt K mg)(O_9:Own K mg "is_whole" ZR f_9 fd_9 ["thing"]):FnOk P w K mg base CX0 1 f_9 fd_9 ["thing"] (spD K 1 ZT):=
 UO (k:=0) O_9.fn CP rfl rfl λcdv A outer s H E hr=>(Zk (Zv (YW (YD (BH _) (sv 0) rfl T.n_isinstance Zb rfl T.n_int Uk) (Qy (L4 (YD (Qc _) (sv 0) rfl T.n_isinstance Zb rfl T.n_bool Yo))))))
theorem CQ:FnScope ["thing", "length"] ["thing", "length"] (Z4 Za):=⟨rfl,rfl,rfl,nd1,rfl,by decide +kernel,by decide +kernel⟩
theorem Hg {f_8:Addr}{fd_8:FuncData}(T:Txt K mg)(O_8:Own K mg "is_tuple_of_length" Za f_8 fd_8 ["thing", "length"]):FnOk P w K mg base CX0 1 f_8 fd_8 ["thing", "length"] (spD K 2 Z3):=
 UO (k:=0) O_8.fn CQ rfl rfl λcdv A outer s H E hr=>(Zk (Zv (YW (YD (Qb _) (sv 0) rfl T.n_isinstance Zb rfl T.n_tuple Yi) (Qy (YE (Q7 (Yt hr)) (YC (sv 0) rfl T.n_len ZI) (sv 1) (Zx _))))))
theorem CU:FnScope ["thing", "old"] ["thing", "old"] (Z4 Y3):=⟨rfl,rfl,rfl,nd2,rfl,by decide +kernel,by decide +kernel⟩
theorem Hj {f_5:Addr}{fd_5:FuncData}(T:Txt K mg)(O_5:Own K mg "is_keep" Y3 f_5 fd_5 ["thing", "old"]){f_9:Addr}{fd_9:FuncData}(O_9:Own K mg "is_whole" ZR f_9 fd_9 ["thing"])(G_9:FnOk P w K mg base CX0 1 f_9 fd_9 ["thing"] (spD K 1 ZT)){f_8:Addr}{fd_8:FuncData}(O_8:Own K mg "is_tuple_of_length" Za f_8 fd_8 ["thing", "length"])(G_8:FnOk P w K mg base CX0 1 f_8 fd_8 ["thing", "length"] (spD K 2 Z3)):FnOk P w K mg base CX0 2 f_5 fd_5 ["thing", "old"] (spD K 2 Zm):=
 UO (k:=1) O_5.fn CU rfl rfl λcdv A outer s H E hr=>(Zd (YO (Nt (Qw (Q4 (ZJ (Zc G_8 (hr.mono (by omega)) rfl O_8.mgf O_8.fn.kp O_8.b (Z0 (sv 0) (Z0 Z5 Z6)) (Z2 (Z2 Ze))))) (Qw (Y1 (GW (Yt hr)) (Y2 (Yt hr) (sv 0) Z5) Zi (Zx _)) (Qw (Q4 (ZJ (Zc G_9 (hr.mono (by omega)) rfl O_9.mgf O_9.fn.kp O_9.b (Z0 (Y2 (Yt hr) (sv 0) Z5) Z6) (Z2 Ze)))) (Q2 (Q4 (ZJ (Zc G_9 (hr.mono (by omega)) rfl O_9.mgf O_9.fn.kp O_9.b (Z0 (Y2 (Yt hr) (sv 0) Z5) Z6) (Z2 Ze))))))))) (Zk (Zv Yj)) Yg)
   (Zk (Zv (YW (YE M7 (Y2 (Yt hr) (sv 0) Z5) Z5 (Zx _)) (YW (YE M7 (Y2 (Yt hr) (sv 0) Z5) Z5 (Zx _)) (Qy (YE Lx (Zt Zh (Y2 (Yt hr) (sv 0) Z5) (Y2 (Yt hr) (sv 0) Z5)) (YC (sv 1) rfl T.n_len ZI) (Zx _))))))))
theorem CT:FnScope ["thing"] ["thing"] (Z4 Yk):=⟨rfl,rfl,rfl,nd0,rfl,by decide +kernel,by decide +kernel⟩
theorem Hi {f_6:Addr}{fd_6:FuncData}(T:Txt K mg)(O_6:Own K mg "is_new" Yk f_6 fd_6 ["thing"]){f_8:Addr}{fd_8:FuncData}(O_8:Own K mg "is_tuple_of_length" Za f_8 fd_8 ["thing", "length"])(G_8:FnOk P w K mg base CX0 1 f_8 fd_8 ["thing", "length"] (spD K 2 Z3)):FnOk P w K mg base CX0 2 f_6 fd_6 ["thing"] (spD K 1 ZC):=
 UO (k:=1) O_6.fn CT rfl rfl λcdv A outer s H E hr=>(Zk (Zv (YW (Zc G_8 (hr.mono (by omega)) rfl O_8.mgf O_8.fn.kp O_8.b (Z0 (sv 0) (Z0 Z5 Z6)) (Z2 (Z2 Ze))) (YW (YE (Q7 (Yt hr)) (Y2 (Yt hr) (sv 0) Z5) Zi (Zx _)) (YW (YD (BG _) (Y2 (Yt hr) (sv 0) Z5) rfl T.n_isinstance Zb rfl T.n_str Uj) (Qy (YE (GW (Yt hr)) (Y2 (Yt hr) (sv 0) Z5) Zi (Zx _))))))))
theorem AT:FnScope ["piece", "old"] ["piece", "old"] (Z4 Zo):=⟨rfl,rfl,rfl,nd3,rfl,by decide +kernel,by decide +kernel⟩
theorem Ef {f_12:Addr}{fd_12:FuncData}(T:Txt K mg)(O_12:Own K mg "piece_opened" Zo f_12 fd_12 ["piece", "old"]):FnOk P w K mg base CX0 1 f_12 fd_12 ["piece", "old"] (spD K 2 ZP):=
 UO (k:=0) O_12.fn AT rfl rfl λcdv A outer s H E hr=>(Zk (Zv (L5 (Y1 (Q7 (Yt hr)) (Y2 (Yt hr) (sv 0) Z5) Zi (Zx _)) (Y2 (Yt hr) (sv 0) Z5) (Q5 (sv 1) (YB (Y2 (Yt hr) (sv 0) Z5)) (YB (Zt Zh (Y2 (Yt hr) (sv 0) Z5) (Y2 (Yt hr) (sv 0) Z5)))))))
theorem AU:FnScope ["parcel", "old"] ["parcel", "old"] (Z4 ZZ):=⟨rfl,rfl,rfl,nd4,rfl,by decide +kernel,by decide +kernel⟩
theorem Eg {f_11:Addr}{fd_11:FuncData}(T:Txt K mg)(O_11:Own K mg "opened" ZZ f_11 fd_11 ["parcel", "old"]){f_12:Addr}{fd_12:FuncData}(O_12:Own K mg "piece_opened" Zo f_12 fd_12 ["piece", "old"])(G_12:FnOk P w K mg base CX0 1 f_12 fd_12 ["piece", "old"] (spD K 2 ZP)):FnOk P w K mg base CX0 2 f_11 fd_11 ["parcel", "old"] (spD K 2 Yd):=
 UO (k:=1) O_11.fn AU rfl rfl λcdv A outer s H E hr=>(Zk (Zv (T6 Zi (YA (tgs:=["piece"]) (cn:=["old"]) (caps:=[1]) rfl ⟨by decide +kernel,rfl,by decide +kernel,Yu (Z4 ZZ).names rfl (by decide +kernel),⟨⟨rfl,.inl rfl,rfl⟩,trivial⟩⟩ (JJ (sv 0)) (ZG (by decide)) ZH (λ_ _ _ _=>(ZL (i:=0) nd3 rfl (Or.inl rfl))) (λ_ _ _ _=>Qo) (λ_ _ _ _=>(Zc G_12 (hr.mono (by omega)) rfl O_12.mgf O_12.fn.kp O_12.b (Z0 (sv 0) (Z0 (sv 1) Z6)) (Z2 (Z2 Ze))))))))
theorem CS:FnScope ["thing", "text", "old"] ["thing", "text", "old"] (Z4 ZA):=⟨rfl,rfl,rfl,nd5,rfl,by decide +kernel,by decide +kernel⟩
theorem Hh {f_7:Addr}{fd_7:FuncData}(T:Txt K mg)(O_7:Own K mg "is_parcel" ZA f_7 fd_7 ["thing", "text", "old"]){f_5:Addr}{fd_5:FuncData}(O_5:Own K mg "is_keep" Y3 f_5 fd_5 ["thing", "old"])(G_5:FnOk P w K mg base CX0 2 f_5 fd_5 ["thing", "old"] (spD K 2 Zm)){f_6:Addr}{fd_6:FuncData}(O_6:Own K mg "is_new" Yk f_6 fd_6 ["thing"])(G_6:FnOk P w K mg base CX0 2 f_6 fd_6 ["thing"] (spD K 1 ZC)){f_11:Addr}{fd_11:FuncData}(O_11:Own K mg "opened" ZZ f_11 fd_11 ["parcel", "old"])(G_11:FnOk P w K mg base CX0 2 f_11 fd_11 ["parcel", "old"] (spD K 2 Yd)):FnOk P w K mg base CX0 3 f_7 fd_7 ["thing", "text", "old"] (spD K 3 Z9):=
 UO (k:=2) O_7.fn CS rfl rfl λcdv A outer s H E hr=>(Zd (YO (Nt (Qw (Q4 (ZJ (YD (Qb _) (sv 0) rfl T.n_isinstance Zb rfl T.n_tuple Yi))) (Q2 (Q4 (ZJ (M0 rfl (YA (tgs:=["piece"]) (cn:=["old"]) (caps:=[2]) rfl ⟨by decide +kernel,rfl,by decide +kernel,Yu (Z4 ZA).names rfl (by decide +kernel),⟨⟨rfl,.inl rfl,rfl⟩,trivial⟩⟩ (JJ (sv 0)) (ZG (by decide)) ZH (λ_ _ _ _=>(ZL (i:=0) nd3 rfl (Or.inl rfl))) (λ_ _ _ _=>Qo) (λ_ _ _ _=>(AQ (Zc G_5 (hr.mono (by omega)) rfl O_5.mgf O_5.fn.kp O_5.b (Z0 (sv 0) (Z0 (sv 1) Z6)) (Z2 (Z2 Ze))) (Qy (Zc G_6 (hr.mono (by omega)) rfl O_6.mgf O_6.fn.kp O_6.b (Z0 (sv 0) Z6) (Z2 Ze)))))) rfl T.n_all Ul)))))) (Zk (Zv Yj)) Yg)
   (Zk (Zv (YE (Q7 (Yt hr)) (Zc G_11 (hr.mono (by omega)) rfl O_11.mgf O_11.fn.kp O_11.b (Z0 (sv 0) (Z0 (sv 2) Z6)) (Z2 (Z2 Ze))) (sv 1) (Zx _)))))
theorem AS:FnScope ["piece"] ["piece"] (Z4 Zn):=⟨rfl,rfl,rfl,nd6,rfl,by decide +kernel,by decide +kernel⟩
theorem Ee {f_13:Addr}{fd_13:FuncData}(T:Txt K mg)(O_13:Own K mg "piece_weight" Zn f_13 fd_13 ["piece"]):FnOk P w K mg base CX0 1 f_13 fd_13 ["piece"] (spD K 1 ZO):=
 UO (k:=0) O_13.fn AS rfl rfl λcdv A outer s H E hr=>(Zk (Zv (L5 (Y1 (Q7 (Yt hr)) (Y2 (Yt hr) (sv 0) Z5) Zi (Zx _)) (Zt Zh (GJ rfl T.c_PIECE_WEIGHT) (YC (Y2 (Yt hr) (sv 0) Z5) rfl T.n_len ZI)) (GJ rfl T.c_PIECE_WEIGHT))))
theorem AR:FnScope ["parcel"] ["parcel"] (Z4 Y9):=⟨rfl,rfl,rfl,nd7,rfl,by decide +kernel,by decide +kernel⟩
theorem Ed {f_14:Addr}{fd_14:FuncData}(T:Txt K mg)(O_14:Own K mg "weight" Y9 f_14 fd_14 ["parcel"]){f_13:Addr}{fd_13:FuncData}(O_13:Own K mg "piece_weight" Zn f_13 fd_13 ["piece"])(G_13:FnOk P w K mg base CX0 1 f_13 fd_13 ["piece"] (spD K 1 ZO)):FnOk P w K mg base CX0 2 f_14 fd_14 ["parcel"] (spD K 1 Yw):=
 UO (k:=1) O_14.fn AR rfl rfl λcdv A outer s H E hr=>(Zk (Zv (GI rfl (YA (tgs:=["piece"]) (cn:=[]) (caps:=[]) rfl ⟨by decide +kernel,rfl,by decide +kernel,Yu (Z4 Y9).names rfl (by decide +kernel),trivial⟩ (JJ (sv 0)) (ZG (by decide)) ZH (λ_ _ _ _=>(ZL (i:=0) nd6 rfl (Or.inl rfl))) (λ_ _ _ _=>Qo) (λ_ _ _ _=>(Zc G_13 (hr.mono (by omega)) rfl O_13.mgf O_13.fn.kp O_13.b (Z0 (sv 0) Z6) (Z2 Ze)))) rfl T.n_sum QK)))
theorem Ha:FnScope ["_law_script", "_law_k"] ["_law_script", "_law_k"] (Z4 Yl):=⟨rfl,rfl,rfl,nd8,rfl,by decide +kernel,by decide +kernel⟩
theorem Hn {f_0:Addr}{fd_0:FuncData}(T:Txt K mg)(O_0:Own K mg "_law_cell" Yl f_0 fd_0 ["_law_script", "_law_k"]):FnOk P w K mg base CX0 1 f_0 fd_0 ["_law_script", "_law_k"] (spD K 2 Y0):=
 UO (k:=0) O_0.fn Ha rfl rfl λcdv A outer s H E hr=>(Zd (YO (Y1 (Lw (Yt hr)) (sv 1) (YC (sv 0) rfl T.n_len ZI) (Zx _)) (Zk (Zv (Y2 (Yt hr) (sv 0) (sv 1)))) Yg)
   (Zk (Zv Z5)))
theorem CY:FnScope ["_law_cell_here", "_law_prime", "_law_many"] ["_law_cell_here", "_law_prime", "_law_many"] (Z4 Ym):=⟨rfl,rfl,rfl,nd9,rfl,by decide +kernel,by decide +kernel⟩
theorem Hl {f_2:Addr}{fd_2:FuncData}(T:Txt K mg)(O_2:Own K mg "_law_mix" Ym f_2 fd_2 ["_law_cell_here", "_law_prime", "_law_many"]):FnOk P w K mg base CX0 1 f_2 fd_2 ["_law_cell_here", "_law_prime", "_law_many"] (spD K 3 ZY):=
 UO (k:=0) O_2.fn CY rfl rfl λcdv A outer s H E hr=>(Zk (Zv (Zt QE (Zt QE (Zt QD (sv 0) Z5) (sv 1)) (sv 2))))
theorem CV:FnScope ["_law_found", "_law_due"] ["_law_found", "_law_due"] (Z4 Ya):=⟨rfl,rfl,rfl,Hr,rfl,by decide +kernel,by decide +kernel⟩
theorem EQ {f_4:Addr}{fd_4:FuncData}(T:Txt K mg)(O_4:Own K mg "_law_same" Ya f_4 fd_4 ["_law_found", "_law_due"]):∀k:Nat,FnOk P w K mg base CX0 (k+1) f_4 fd_4 ["_law_found", "_law_due"] (spD K 2 (ZK k))
 |0=>Pg rfl
 |k+1=>by
  have Gr:=EQ T O_4 k
  exact UO O_4.fn CV rfl rfl λcdv A outer s H E hr=>(Zd (YO (ZJ (YD (Qb _) (sv 1) rfl T.n_isinstance Zb rfl T.n_tuple Yi)) (Zd (YO (Nt (Qw (Q4 (ZJ (YD (Qb _) (sv 0) rfl T.n_isinstance Zb rfl T.n_tuple Yi))) (Q2 (Y1 (GW (Yt hr)) (YC (sv 0) rfl T.n_len ZI) (YC (sv 1) rfl T.n_len ZI) (Zx _))))) (Zk (Zv Yj)) Yg)
   (Zk (Zv (M0 rfl (YA (tgs:=["_law_one", "_law_other"]) (cn:=[]) (caps:=[]) rfl ⟨by decide +kernel,rfl,by decide +kernel,Yu (Z4 Ya).names rfl (by decide +kernel),trivial⟩ (L0 (sv 0) (sv 1) rfl T.n_zip N6) (Tv (YL (ZG (by decide)) (YL (ZG (by decide)) U8 Ye Qd) Ye (J1 Ye Qd))) (BL (YM ZH (YM ZH UL))) (λ_ _ _ _=>(GU rfl (YI (ZL (i:=0) ET rfl (Or.inl rfl)) (YI (ZL (i:=1) ET rfl (Or.inl rfl)) Uy)))) (λ_ _ _ _=>Qo) (λ_ _ _ _=>(Zc Gr (hr.mono (by omega)) rfl O_4.mgf O_4.fn.kp O_4.b (Z0 (sv 0) (Z0 (sv 1) Z6)) (Z2 (Z2 Ze))))) rfl T.n_all Ul)))) Yg)
   (Zd (YO (Y1 M5 (sv 1) T5 (Zx _)) (Zk (Zv (YE M5 (sv 0) T5 (Zx _)))) Yg)
   (Zd (YO (Nt (Qw (ZJ (YD (Qc _) (sv 1) rfl T.n_isinstance Zb rfl T.n_bool Yo)) (Q2 (ZJ (YD (Qc _) (sv 0) rfl T.n_isinstance Zb rfl T.n_bool Yo))))) (Zk (Zv (YW (YD (Qc _) (sv 1) rfl T.n_isinstance Zb rfl T.n_bool Yo) (YW (YD (Qc _) (sv 0) rfl T.n_isinstance Zb rfl T.n_bool Yo) (Qy (YE (Q7 (Yt hr)) (sv 0) (sv 1) (Zx _))))))) Yg)
   (Zk (Zv (YW (Rf (BH _) (BG _) (sv 0) rfl T.n_isinstance Zb rfl T.n_int Uk rfl T.n_str Uj) (Qy (YE (Q7 (Yt hr)) (sv 0) (sv 1) (Zx _)))))))))
theorem CW:FnScope ["_law_cell_here", "_law_signs", "_law_many"] ["_law_cell_here"] (Z4 Yq):=⟨rfl,rfl,rfl,AG,rfl,by decide +kernel,by decide +kernel⟩
theorem Hk {f_3:Addr}{fd_3:FuncData}(T:Txt K mg)(O_3:Own K mg "_law_old" Yq f_3 fd_3 ["_law_cell_here"]){f_2:Addr}{fd_2:FuncData}(O_2:Own K mg "_law_mix" Ym f_2 fd_2 ["_law_cell_here", "_law_prime", "_law_many"])(G_2:FnOk P w K mg base CX0 1 f_2 fd_2 ["_law_cell_here", "_law_prime", "_law_many"] (spD K 3 ZY)):FnOk P w K mg base CX0 2 f_3 fd_3 ["_law_cell_here"] (spD K 1 Qn):=
 UO (k:=1) O_3.fn CW rfl rfl λcdv A outer s H E hr=>(Zd (ZM (i:=1) AG rfl (Or.inr rfl) Zi)
   (Zd (ZM (i:=2) AG rfl (Or.inl rfl) (Zc G_2 (hr.mono (by omega)) rfl O_2.mgf O_2.fn.kp O_2.b (Z0 (sv 0) (Z0 Z5 (Z0 Z5 Z6))) (Z2 (Z2 (Z2 Ze)))))
   (Zd (YO (Y1 (Q7 (Yt hr)) (Zc G_2 (hr.mono (by omega)) rfl O_2.mgf O_2.fn.kp O_2.b (Z0 (sv 0) (Z0 Z5 (Z0 Z5 Z6))) (Z2 (Z2 (Z2 Ze)))) Z5 (Zx _)) (Zk (ZM (i:=2) AG rfl (Or.inl rfl) Z5)) Yg)
   (Zk (Zv (T6 Zi (YA (tgs:=["_law_k"]) (cn:=["_law_cell_here", "_law_signs"]) (caps:=[0,1]) rfl ⟨by decide +kernel,rfl,by decide +kernel,Yu (Z4 Yq).names rfl (by decide +kernel),⟨⟨rfl,.inl rfl,rfl⟩,⟨⟨rfl,.inl rfl,rfl⟩,trivial⟩⟩⟩ (Uw (sv 2) rfl T.n_range) (ZG (by decide)) ZH (λ_ _ _ _=>(ZL (i:=0) Hq rfl (Or.inl rfl))) (λ_ _ _ _=>Qo) (λ_ _ _ _=>(Y2 (Yt hr) (sv 2) (Zc G_2 (hr.mono (by omega)) rfl O_2.mgf O_2.fn.kp O_2.b (Z0 (Zt Zh (sv 1) (Zt QD Z5 (sv 0))) (Z0 Z5 (Z0 Z5 Z6))) (Z2 (Z2 (Z2 Ze)))))))))))))
theorem CZ:FnScope ["_law_cell_here", "_law_old_here", "_law_signs", "_law_pieces", "_law_text", "_law_k", "_law_one", "_law_many", "_law_words"] ["_law_cell_here", "_law_old_here"] (Z4 Y4):=⟨rfl,rfl,rfl,Ni,rfl,by decide +kernel,by decide +kernel⟩
theorem Hm {f_1:Addr}{fd_1:FuncData}(T:Txt K mg)(O_1:Own K mg "_law_drawn" Y4 f_1 fd_1 ["_law_cell_here", "_law_old_here"]){f_2:Addr}{fd_2:FuncData}(O_2:Own K mg "_law_mix" Ym f_2 fd_2 ["_law_cell_here", "_law_prime", "_law_many"])(G_2:FnOk P w K mg base CX0 1 f_2 fd_2 ["_law_cell_here", "_law_prime", "_law_many"] (spD K 3 ZY)):FnOk P w K mg base CX0 2 f_1 fd_1 ["_law_cell_here", "_law_old_here"] (spD K 2 YG):=
 UO (k:=1) O_1.fn CZ rfl rfl λcdv A outer s H E hr=>(Zd (ZM (i:=2) Ni rfl (Or.inl rfl) Zi)
   (Zd (ZM (i:=3) Ni rfl (Or.inl rfl) (JK Z6))
   (Zd (ZM (i:=4) Ni rfl (Or.inl rfl) Zi)
   (Zd (GB PassesOwn.never rfl (Uw (Zt Zh Z5 (Zc G_2 (hr.mono (by omega)) rfl O_2.mgf O_2.fn.kp O_2.b (Z0 (sv 0) (Z0 Z5 (Z0 Z5 Z6))) (Z2 (Z2 (Z2 Ze))))) rfl T.n_range) (ZL (i:=5) Ni rfl (Or.inl rfl)) ZH (Zd (ZM (i:=6) Ni rfl (Or.inl rfl) (Zc G_2 (hr.mono (by omega)) rfl O_2.mgf O_2.fn.kp O_2.b (Z0 (Zt Zh (sv 0) (Zt QD Z5 (sv 5))) (Z0 Z5 (Z0 (Zt Zh (YC (sv 1) rfl T.n_len ZI) Z5) Z6))) (Z2 (Z2 (Z2 Ze)))))
   (Zd (ZM (i:=7) Ni rfl (Or.inl rfl) (Zc G_2 (hr.mono (by omega)) rfl O_2.mgf O_2.fn.kp O_2.b (Z0 (Zt Zh (sv 0) (Zt QD Z5 (sv 5))) (Z0 Z5 (Z0 (Zt Zh (Rc rfl (Zt UA (YC (sv 1) rfl T.n_len ZI) (sv 6)) Z5 rfl T.n_min N7) Z5) Z6))) (Z2 (Z2 (Z2 Ze)))))
   (Zk (YO (Y1 M6 (sv 7) Z5 (Zx _)) (Zd (GC (JM (sv 3) (Zl (Z0 Zi (Z0 (sv 6) (Z0 (sv 7) Z6))))))
   (Zk (ZM (i:=4) Ni rfl (Or.inl rfl) (Zt Zh (sv 4) (Q5 (sv 1) (YB (sv 6)) (YB (Zt Zh (sv 6) (sv 7)))))))) (Zd (ZM (i:=8) Ni rfl (Or.inl rfl) (Q5 (Zt QD (sv 2) Z5) (YB (Zt QE (sv 6) Z5)) (YB (Zt Zh (Zt Zh (Zt QE (sv 6) Z5) Z5) (Zt QE (sv 6) Z5)))))
   (Zd (GC (JM (sv 3) (Zl (Z0 Zi (Z0 (sv 8) Z6)))))
   (Zk (ZM (i:=4) Ni rfl (Or.inl rfl) (Zt Zh (sv 4) (sv 8)))))))))))
   (Zk (Zv (Zl (Z0 (Rb (sv 3) rfl T.n_tuple Yi) (Z0 (sv 4) Z6)))))))))
theorem AV:FnScope ["_law_script", "_law_k", "_law_cell_here", "_law_old_here", "_law_pieces", "_law_text", "_law_due", "_law_at", "_law_size", "_law_wrong", "_law_piece", "_law_some", "_law_more"] ["_law_script"] (Z4 Q6):=⟨rfl,rfl,rfl,Ur,rfl,by decide +kernel,by decide +kernel⟩
theorem Eh {f_10:Addr}{fd_10:FuncData}(T:Txt K mg)(O_10:Own K mg "law" Q6 f_10 fd_10 ["_law_script"]){f_7:Addr}{fd_7:FuncData}(O_7:Own K mg "is_parcel" ZA f_7 fd_7 ["thing", "text", "old"])(G_7:FnOk P w K mg base CX0 3 f_7 fd_7 ["thing", "text", "old"] (spD K 3 Z9)){f_11:Addr}{fd_11:FuncData}(O_11:Own K mg "opened" ZZ f_11 fd_11 ["parcel", "old"])(G_11:FnOk P w K mg base CX0 2 f_11 fd_11 ["parcel", "old"] (spD K 2 Yd)){f_14:Addr}{fd_14:FuncData}(O_14:Own K mg "weight" Y9 f_14 fd_14 ["parcel"])(G_14:FnOk P w K mg base CX0 2 f_14 fd_14 ["parcel"] (spD K 1 Yw)){f_0:Addr}{fd_0:FuncData}(O_0:Own K mg "_law_cell" Yl f_0 fd_0 ["_law_script", "_law_k"])(G_0:FnOk P w K mg base CX0 1 f_0 fd_0 ["_law_script", "_law_k"] (spD K 2 Y0)){f_2:Addr}{fd_2:FuncData}(O_2:Own K mg "_law_mix" Ym f_2 fd_2 ["_law_cell_here", "_law_prime", "_law_many"])(G_2:FnOk P w K mg base CX0 1 f_2 fd_2 ["_law_cell_here", "_law_prime", "_law_many"] (spD K 3 ZY)){f_4:Addr}{fd_4:FuncData}(O_4:Own K mg "_law_same" Ya f_4 fd_4 ["_law_found", "_law_due"])(G_4:FnOk P w K mg base CX0 13 f_4 fd_4 ["_law_found", "_law_due"] (spD K 2 (ZK 12))){f_3:Addr}{fd_3:FuncData}(O_3:Own K mg "_law_old" Yq f_3 fd_3 ["_law_cell_here"])(G_3:FnOk P w K mg base CX0 2 f_3 fd_3 ["_law_cell_here"] (spD K 1 Qn)){f_1:Addr}{fd_1:FuncData}(O_1:Own K mg "_law_drawn" Y4 f_1 fd_1 ["_law_cell_here", "_law_old_here"])(G_1:FnOk P w K mg base CX0 2 f_1 fd_1 ["_law_cell_here", "_law_old_here"] (spD K 2 YG)):FnOk P w K mg base CX0 14 f_10 fd_10 ["_law_script"] (spD K 1 F_law):=
 UO (k:=13) O_10.fn AV rfl rfl λcdv A outer s H E hr=>(Zd (GB PassesOwn.never rfl (Uw Z5 rfl T.n_range) (ZL (i:=1) Ur rfl (Or.inl rfl)) ZH (by
    refine Zd ?_ ?_
    ·exact (ZM (i:=2) Ur rfl (Or.inl rfl) (Zc G_0 (hr.mono (by omega)) rfl O_0.mgf O_0.fn.kp O_0.b (Z0 (sv 0) (Z0 (sv 1) Z6)) (Z2 (Z2 Ze))))
    refine Zd ?_ ?_
    ·exact (ZM (i:=3) Ur rfl (Or.inr rfl) (Zc G_3 (hr.mono (by omega)) rfl O_3.mgf O_3.fn.kp O_3.b (Z0 (sv 2) Z6) (Z2 Ze)))
    refine Zd ?_ ?_
    ·exact (PV (Zc G_1 (hr.mono (by omega)) rfl O_1.mgf O_1.fn.kp O_1.b (Z0 (Zt Zh (Zc G_0 (hr.mono (by omega)) rfl O_0.mgf O_0.fn.kp O_0.b (Z0 (sv 0) (Z0 (Zt Zh (sv 1) Z5) Z6)) (Z2 (Z2 Ze))) (sv 1)) (Z0 (sv 3) Z6)) (Z2 (Z2 Ze))) (GU rfl (YI (ZL (i:=4) Ur rfl (Or.inr rfl)) (YI (ZL (i:=5) Ur rfl (Or.inr rfl)) Uy))) (BL (YM ZH (YM ZH UL))))
    refine Zd ?_ ?_
    ·exact (ZM (i:=6) Ur rfl (Or.inl rfl) (Zt Zh (GI rfl (YA (tgs:=["_law_piece"]) (cn:=[]) (caps:=[]) rfl ⟨by decide +kernel,rfl,by decide +kernel,Yu (Z4 Q6).names rfl (by decide +kernel),trivial⟩ (JJ (sv 4)) (ZG (by decide)) ZH (λ_ _ _ _=>(ZL (i:=0) ES rfl (Or.inl rfl))) (λ_ _ _ _=>Qo) (λ_ _ _ _=>Z5)) rfl T.n_sum QK) (GI rfl (YA (tgs:=["_law_piece"]) (cn:=[]) (caps:=[]) rfl ⟨by decide +kernel,rfl,by decide +kernel,Yu (Z4 Q6).names rfl (by decide +kernel),trivial⟩ (JJ (sv 4)) (ZG (by decide)) ZH (λ_ _ _ _=>(ZL (i:=0) ES rfl (Or.inl rfl))) (λ_ _ _ _=>L1 (Y1 (Q7 (Yt hr)) (Y2 (Yt hr) (sv 0) Z5) Zi (Zx _))) (λ_ _ _ _=>(YC (Y2 (Yt hr) (sv 0) Z5) rfl T.n_len ZI))) rfl T.n_sum QK)))
    refine Zd ?_ ?_
    ·exact (YO (Nt (Qw (Q4 (ZJ (Zc G_4 (hr.mono (by omega)) rfl O_4.mgf O_4.fn.kp O_4.b (Z0 (Zc G_11 (hr.mono (by omega)) rfl O_11.mgf O_11.fn.kp O_11.b (Z0 (sv 4) (Z0 (sv 3) Z6)) (Z2 (Z2 Ze))) (Z0 (sv 5) Z6)) (Z2 (Z2 Ze))))) (Q2 (Q4 (ZJ (Zc G_4 (hr.mono (by omega)) rfl O_4.mgf O_4.fn.kp O_4.b (Z0 (Zc G_14 (hr.mono (by omega)) rfl O_14.mgf O_14.fn.kp O_14.b (Z0 (sv 4) Z6) (Z2 Ze)) (Z0 (sv 6) Z6)) (Z2 (Z2 Ze)))))))) (Zk (Zv Yj)) Yg)
    refine Zd ?_ ?_
    ·exact (YO (Nt (Qw (Y1 Y6 (Zc G_7 (hr.mono (by omega)) rfl O_7.mgf O_7.fn.kp O_7.b (Z0 (sv 4) (Z0 (sv 5) (Z0 (sv 3) Z6))) (Z2 (Z2 (Z2 Ze)))) Yj (Zx _)) (Q2 (Y1 Y6 (Zc G_7 (hr.mono (by omega)) rfl O_7.mgf O_7.fn.kp O_7.b (Z0 (sv 4) (Z0 (Zt Zh (sv 5) Zi) (Z0 (sv 3) Z6))) (Z2 (Z2 (Z2 Ze)))) Yj (Zx _))))) (Zk (Zv Yj)) Yg)
    refine Zd ?_ ?_
    ·exact (YO (Nt (Qw (Q4 (ZJ (Zc G_4 (hr.mono (by omega)) rfl O_4.mgf O_4.fn.kp O_4.b (Z0 (Zl (Z0 (Zc G_11 (hr.mono (by omega)) rfl O_11.mgf O_11.fn.kp O_11.b (Z0 (Zl Z6) (Z0 (sv 3) Z6)) (Z2 (Z2 Ze))) (Z0 (Zc G_14 (hr.mono (by omega)) rfl O_14.mgf O_14.fn.kp O_14.b (Z0 (Zl Z6) Z6) (Z2 Ze)) Z6))) (Z0 (Zl (Z0 Zi (Z0 Z5 Z6))) Z6)) (Z2 (Z2 Ze))))) (Q2 (Y1 Y6 (Zc G_7 (hr.mono (by omega)) rfl O_7.mgf O_7.fn.kp O_7.b (Z0 (Zl Z6) (Z0 Zi (Z0 (sv 3) Z6))) (Z2 (Z2 (Z2 Ze)))) Yj (Zx _))))) (Zk (Zv Yj)) Yg)
    refine Zd ?_ ?_
    ·exact (ZM (i:=7) Ur rfl (Or.inl rfl) (Zc G_2 (hr.mono (by omega)) rfl O_2.mgf O_2.fn.kp O_2.b (Z0 (Zc G_0 (hr.mono (by omega)) rfl O_0.mgf O_0.fn.kp O_0.b (Z0 (sv 0) (Z0 Z5 Z6)) (Z2 (Z2 Ze))) (Z0 Z5 (Z0 (YC (sv 4) rfl T.n_len ZI) Z6))) (Z2 (Z2 (Z2 Ze)))))
    refine Zd ?_ ?_
    ·exact (ZM (i:=8) Ur rfl (Or.inl rfl) (YC (sv 3) rfl T.n_len ZI))
    refine Zd ?_ ?_
    ·exact (ZM (i:=9) Ur rfl (Or.inl rfl) (JK (Z0 (Zl (Z0 Zi (Z0 (sv 8) (Z0 Z5 Z6)))) (Z0 (Zl (Z0 Zi (Z0 Ux (Z0 Z5 Z6)))) (Z0 (Zl (Z0 Zi (Z0 Z5 (Z0 Z5 Z6)))) (Z0 (Zl (Z0 Zi (Z0 Z5 (Z0 (Zt Zh (sv 8) Z5) Z6)))) (Z0 (Zl (Z0 Zi (Z0 Yj (Z0 Yj Z6)))) Z6)))))))
    refine Zd ?_ ?_
    ·exact (ZM (i:=9) Ur rfl (Or.inl rfl) (Zt Zh (sv 9) (JK (Z0 (Zl (Z0 Zi (Z0 Zi Z6))) (Z0 (Zl (Z0 Zi (Z0 (sv 7) Z6))) (Z0 (Zl (Z0 Zi (Z0 Zi (Z0 Zi Z6)))) (Z0 (Zl (Z0 Zi (Z0 Z5 Z6))) (Z0 (EI (Jh (PX (Y2 (Yt hr) (sv 4) (sv 7))) rfl T.n_list J7)) (Z0 (Zl Z6) (Z0 T5 Z6))))))))))
    refine Zd ?_ ?_
    ·exact (GB PassesOwn.never rfl (JJ (sv 9)) (ZL (i:=10) Ur rfl (Or.inl rfl)) ZH (Zd (ZM (i:=11) Ur rfl (Or.inl rfl) (Zt Zh (Zt Zh (Q5 (sv 4) GH (YB (sv 7))) (Zl (Z0 (sv 10) Z6))) (Q5 (sv 4) (YB (Zt Zh (sv 7) Z5)) GH)))       (Zk (YO (Nt (Qw (Y1 Y6 (Zc G_7 (hr.mono (by omega)) rfl O_7.mgf O_7.fn.kp O_7.b (Z0 (sv 11) (Z0 (sv 5) (Z0 (sv 3) Z6))) (Z2 (Z2 (Z2 Ze)))) Yj (Zx _)) (Q2 (Y1 Y6 (Zc G_7 (hr.mono (by omega)) rfl O_7.mgf O_7.fn.kp O_7.b (Z0 (sv 11) (Z0 (Zt Zh (sv 5) Zi) (Z0 (sv 3) Z6))) (Z2 (Z2 (Z2 Ze)))) Yj (Zx _))))) (Zk (Zv Yj)) Yg))))
    refine Zd ?_ ?_
    ·exact (by refine R8 (i:=12) (tgs:=["_law_piece"]) (cn:=["_law_text"]) (caps:=[5]) (g:=Ub 0) (hsw:=?h1) (hs:=?h2) ?a1 ?a2 ?a3 ?a4 ?a5 ?a6 ?a7 ?a8 ?a9 ?a10 ?a11;(case a1=>exact Ur);(case a2=>exact rfl);(case a3=>exact rfl);(case a4=>exact rfl);(case a5=>exact⟨by decide +kernel,rfl,by decide +kernel,Yu (Z4 Q6).names rfl (by decide +kernel),⟨⟨rfl,.inl rfl,rfl⟩,trivial⟩⟩);(case a6=>exact (JJ (Zl (Z0 (Zl (Z0 Zi (Z0 Z5 (Z0 Z5 Z6)))) (Z0 (Zl (Z0 Zi (Z0 Zi Z6))) (Z0 (Zl Z6) (Z0 (Zl (Z0 Zi (Z0 Zi (Z0 Zi Z6)))) (Z0 T5 Z6))))))));(case a7=>exact (ZG (by decide)));(case a8=>exact ZH);(case a9=>exact (λ_ _ _ _=>(ZL (i:=0) Ho rfl (Or.inl rfl))));(case a10=>exact (λ_ _ _ _=>Qo));(case a11=>exact (λ_ _ _ _=>(Zl (Z0 (sv 1) (Z0 (sv 0) Z6)))));(case h1=>rfl);(case h2=>(intro _;rfl)))
    refine Zd ?_ ?_
    ·exact (YO (Y1 M6 (sv 8) Z5 (Zx _)) (Zd (ZM (i:=12) Ur rfl (Or.inl rfl) (Zt Zh (sv 12) (JK (Z0 (Zl (Z0 (Zt Zh (sv 5) (Y2 (Yt hr) (sv 3) Ux)) (Z0 (Zl (Z0 Zi (Z0 (Zt UA (sv 8) Z5) (Z0 Z5 Z6)))) Z6))) (Z0 (Zl (Z0 (Zt Zh (sv 5) (Y2 (Yt hr) (sv 3) Ux)) (Z0 (Zl (Z0 Zi (Z0 (Zt UA (sv 8) Z5) (Z0 Yj Z6)))) Z6))) Z6)))))       (Zk (ZM (i:=12) Ur rfl (Or.inl rfl) (Zt Zh (sv 12) (JK (Z0 (Zl (Z0 (Zt Zh (sv 5) (Y2 (Yt hr) (sv 3) Z5)) (Z0 (Zl (Z0 Zi (Z0 Yj (Z0 Z5 Z6)))) Z6))) (Z0 (Zl (Z0 (Zt Zh (sv 5) (Y2 (Yt hr) (sv 3) Z5)) (Z0 (Zl (Z0 Zi (Z0 Z5 (Z0 Z5 (Z0 Z5 Z6))))) Z6))) Z6))))))) Yg)
    refine Zd ?_ ?_
    ·exact (YO (ZJ (L6 rfl (YA (tgs:=["_law_words", "_law_piece"]) (cn:=["_law_old_here", "_law_pieces"]) (caps:=[3,4]) rfl ⟨by decide +kernel,rfl,by decide +kernel,Yu (Z4 Q6).names rfl (by decide +kernel),⟨⟨rfl,.inl rfl,rfl⟩,⟨⟨rfl,.inl rfl,rfl⟩,trivial⟩⟩⟩ (JJ (sv 12)) (Tv (YL (ZG (by decide)) (YL (ZG (by decide)) U8 Ye Qd) Ye (J1 Ye Qd))) (BL (YM ZH (YM ZH UL))) (λ_ _ _ _=>(GU rfl (YI (ZL (i:=0) ER rfl (Or.inl rfl)) (YI (ZL (i:=1) ER rfl (Or.inl rfl)) Uy)))) (λ_ _ _ _=>Qo) (λ_ _ _ _=>(YE Y6 (Zc G_7 (hr.mono (by omega)) rfl O_7.mgf O_7.fn.kp O_7.b (Z0 (Zt Zh (sv 3) (Zl (Z0 (sv 1) Z6))) (Z0 (sv 0) (Z0 (sv 2) Z6))) (Z2 (Z2 (Z2 Ze)))) Yj (Zx _)))) rfl T.n_any N8)) (Zk (Zv Yj)) Yg)
    exact Zk (YO (Nt (Qw (Y1 Y6 (Zc G_7 (hr.mono (by omega)) rfl O_7.mgf O_7.fn.kp O_7.b (Z0 (EI (Jh (PX (sv 4)) rfl T.n_list J7)) (Z0 (sv 5) (Z0 (sv 3) Z6))) (Z2 (Z2 (Z2 Ze)))) Yj (Zx _)) (Q2 (Y1 Y6 (Zc G_7 (hr.mono (by omega)) rfl O_7.mgf O_7.fn.kp O_7.b (Z0 (sv 5) (Z0 (sv 5) (Z0 (sv 3) Z6))) (Z2 (Z2 (Z2 Ze)))) Yj (Zx _))))) (Zk (Zv Yj)) Yg)))
   (Zk (Zv Yj)))
end
theorem all_mk {l:PySem.W.OpenLaw}{w:World}{K:W4}{h:Heap}{mg:Str->Option Value}{fa:Addr}(X:K.In h)(G:h.Ns Wt mg)(hfa:mg "law" = some (.ref fa))
  {od0 an0:Option Addr} {sl0:Array (Option Value)} {oc0 kV0 dc0 pm0 cd0 ct0:Value} {f0:Addr}
  {od1 an1:Option Addr} {sl1:Array (Option Value)} {oc1 kV1 dc1 pm1 cd1 ct1:Value} {f1:Addr}
  {od2 an2:Option Addr} {sl2:Array (Option Value)} {oc2 kV2 dc2 pm2 cd2 ct2:Value} {f2:Addr}
  {od3 an3:Option Addr} {sl3:Array (Option Value)} {oc3 kV3 dc3 pm3 cd3 ct3:Value} {f3:Addr}
  {od4 an4:Option Addr} {sl4:Array (Option Value)} {oc4 kV4 dc4 pm4 cd4 ct4:Value} {f4:Addr}
  {od5 an5:Option Addr} {sl5:Array (Option Value)} {oc5 kV5 dc5 pm5 cd5 ct5:Value} {f5:Addr}
  {od6 an6:Option Addr} {sl6:Array (Option Value)} {oc6 kV6 dc6 pm6 cd6 ct6:Value} {f6:Addr}
  {od7 an7:Option Addr} {sl7:Array (Option Value)} {oc7 kV7 dc7 pm7 cd7 ct7:Value} {f7:Addr}
  {od8 an8:Option Addr} {sl8:Array (Option Value)} {oc8 kV8 dc8 pm8 cd8 ct8:Value} {f8:Addr}
  {od9 an9:Option Addr} {sl9:Array (Option Value)} {oc9 kV9 dc9 pm9 cd9 ct9:Value} {f9:Addr}
  {od10 an10:Option Addr} {sl10:Array (Option Value)} {oc10 kV10 dc10 pm10 cd10 ct10:Value} {f10:Addr}
  {od11 an11:Option Addr} {sl11:Array (Option Value)} {oc11 kV11 dc11 pm11 cd11 ct11:Value} {f11:Addr}
  {od12 an12:Option Addr} {sl12:Array (Option Value)} {oc12 kV12 dc12 pm12 cd12 ct12:Value} {f12:Addr}
  {od13 an13:Option Addr} {sl13:Array (Option Value)} {oc13 kV13 dc13 pm13 cd13 ct13:Value} {f13:Addr}
  {od14 an14:Option Addr} {sl14:Array (Option Value)} {oc14 kV14 dc14 pm14 cd14 ct14:Value} {f14:Addr}
  (a0:WC K Wt "is_whole" = some (some (.ref f0))) (l0:K.lookup f0=some ⟨oc0,od0,.func (WN "is_whole" "is_whole" (Zz ZR) (Zs ZR) (Z4 ZR) .none kV0 dc0 pm0 an0 cd0 ct0),sl0⟩) (c0:WO K cd0 "is_whole" = true) (k0:WL K (.ref f0)=true)
  (a1:WC K Wt "is_tuple_of_length" = some (some (.ref f1))) (l1:K.lookup f1=some ⟨oc1,od1,.func (WN "is_tuple_of_length" "is_tuple_of_length" (Zz Za) (Zs Za) (Z4 Za) .none kV1 dc1 pm1 an1 cd1 ct1),sl1⟩) (c1:WO K cd1 "is_tuple_of_length" = true) (k1:WL K (.ref f1)=true)
  (a2:WC K Wt "is_keep" = some (some (.ref f2))) (l2:K.lookup f2=some ⟨oc2,od2,.func (WN "is_keep" "is_keep" (Zz Y3) (Zs Y3) (Z4 Y3) .none kV2 dc2 pm2 an2 cd2 ct2),sl2⟩) (c2:WO K cd2 "is_keep" = true) (k2:WL K (.ref f2)=true)
  (a3:WC K Wt "is_new" = some (some (.ref f3))) (l3:K.lookup f3=some ⟨oc3,od3,.func (WN "is_new" "is_new" (Zz Yk) (Zs Yk) (Z4 Yk) .none kV3 dc3 pm3 an3 cd3 ct3),sl3⟩) (c3:WO K cd3 "is_new" = true) (k3:WL K (.ref f3)=true)
  (a4:WC K Wt "piece_opened" = some (some (.ref f4))) (l4:K.lookup f4=some ⟨oc4,od4,.func (WN "piece_opened" "piece_opened" (Zz Zo) (Zs Zo) (Z4 Zo) .none kV4 dc4 pm4 an4 cd4 ct4),sl4⟩) (c4:WO K cd4 "piece_opened" = true) (k4:WL K (.ref f4)=true)
  (a5:WC K Wt "opened" = some (some (.ref f5))) (l5:K.lookup f5=some ⟨oc5,od5,.func (WN "opened" "opened" (Zz ZZ) (Zs ZZ) (Z4 ZZ) .none kV5 dc5 pm5 an5 cd5 ct5),sl5⟩) (c5:WO K cd5 "opened" = true) (k5:WL K (.ref f5)=true)
  (a6:WC K Wt "is_parcel" = some (some (.ref f6))) (l6:K.lookup f6=some ⟨oc6,od6,.func (WN "is_parcel" "is_parcel" (Zz ZA) (Zs ZA) (Z4 ZA) .none kV6 dc6 pm6 an6 cd6 ct6),sl6⟩) (c6:WO K cd6 "is_parcel" = true) (k6:WL K (.ref f6)=true)
  (a7:WC K Wt "piece_weight" = some (some (.ref f7))) (l7:K.lookup f7=some ⟨oc7,od7,.func (WN "piece_weight" "piece_weight" (Zz Zn) (Zs Zn) (Z4 Zn) .none kV7 dc7 pm7 an7 cd7 ct7),sl7⟩) (c7:WO K cd7 "piece_weight" = true) (k7:WL K (.ref f7)=true)
  (a8:WC K Wt "weight" = some (some (.ref f8))) (l8:K.lookup f8=some ⟨oc8,od8,.func (WN "weight" "weight" (Zz Y9) (Zs Y9) (Z4 Y9) .none kV8 dc8 pm8 an8 cd8 ct8),sl8⟩) (c8:WO K cd8 "weight" = true) (k8:WL K (.ref f8)=true)
  (a9:WC K Wt "_law_cell" = some (some (.ref f9))) (l9:K.lookup f9=some ⟨oc9,od9,.func (WN "_law_cell" "_law_cell" (Zz Yl) (Zs Yl) (Z4 Yl) .none kV9 dc9 pm9 an9 cd9 ct9),sl9⟩) (c9:WO K cd9 "_law_cell" = true) (k9:WL K (.ref f9)=true)
  (a10:WC K Wt "_law_mix" = some (some (.ref f10))) (l10:K.lookup f10=some ⟨oc10,od10,.func (WN "_law_mix" "_law_mix" (Zz Ym) (Zs Ym) (Z4 Ym) .none kV10 dc10 pm10 an10 cd10 ct10),sl10⟩) (c10:WO K cd10 "_law_mix" = true) (k10:WL K (.ref f10)=true)
  (a11:WC K Wt "_law_same" = some (some (.ref f11))) (l11:K.lookup f11=some ⟨oc11,od11,.func (WN "_law_same" "_law_same" (Zz Ya) (Zs Ya) (Z4 Ya) .none kV11 dc11 pm11 an11 cd11 ct11),sl11⟩) (c11:WO K cd11 "_law_same" = true) (k11:WL K (.ref f11)=true)
  (a12:WC K Wt "_law_old" = some (some (.ref f12))) (l12:K.lookup f12=some ⟨oc12,od12,.func (WN "_law_old" "_law_old" (Zz Yq) (Zs Yq) (Z4 Yq) .none kV12 dc12 pm12 an12 cd12 ct12),sl12⟩) (c12:WO K cd12 "_law_old" = true) (k12:WL K (.ref f12)=true)
  (a13:WC K Wt "_law_drawn" = some (some (.ref f13))) (l13:K.lookup f13=some ⟨oc13,od13,.func (WN "_law_drawn" "_law_drawn" (Zz Y4) (Zs Y4) (Z4 Y4) .none kV13 dc13 pm13 an13 cd13 ct13),sl13⟩) (c13:WO K cd13 "_law_drawn" = true) (k13:WL K (.ref f13)=true)
  (a14:WC K Wt "law" = some (some (.ref f14))) (l14:K.lookup f14=some ⟨oc14,od14,.func (WN "law" "law" (Zz Q6) (Zs Q6) (Z4 Q6) .none kV14 dc14 pm14 an14 cd14 ct14),sl14⟩) (c14:WO K cd14 "law" = true) (k14:WL K (.ref f14)=true)
  (z_all:WC K Wt "all" = some none)
  (z_any:WC K Wt "any" = some none)
  (z_bool:WC K Wt "bool" = some none)
  (z_int:WC K Wt "int" = some none)
  (z_isinstance:WC K Wt "isinstance" = some none)
  (z_len:WC K Wt "len" = some none)
  (z_list:WC K Wt "list" = some none)
  (z_min:WC K Wt "min" = some none)
  (z_range:WC K Wt "range" = some none)
  (z_str:WC K Wt "str" = some none)
  (z_sum:WC K Wt "sum" = some none)
  (z_tuple:WC K Wt "tuple" = some none)
  (z_zip:WC K Wt "zip" = some none)
  {t_PIECE_WEIGHT:Tok} (y_PIECE_WEIGHT:WC K Wt "PIECE_WEIGHT" = some (some (.int 2 t_PIECE_WEIGHT))) :
  ∃fd:FuncData,(∀(s:Shared) (v:Value),BindsTo s fd ⟨[v],[]⟩ [("_law_script",v)])/\∀base:Heap,K.In base->base.Ns Wt mg->FnOk l.prog w K mg base CX0 14 fa fd ["_law_script"] (spD K 1 F_law):=by
 have e:=hfa.symm.trans (WT X G a14)
 cases e
 have T:Txt K mg:=⟨WQ X G z_all,WQ X G z_any,WQ X G z_bool,WQ X G z_int,WQ X G z_isinstance,WQ X G z_len,WQ X G z_list,WQ X G z_min,WQ X G z_range,WQ X G z_str,WQ X G z_sum,WQ X G z_tuple,WQ X G z_zip,⟨_,WT X G y_PIECE_WEIGHT⟩⟩
 have Fn0:=Yh (st:=ZR) l0 c0 k0
 have O_9:Own K mg "is_whole" ZR _ _ ["thing"]:=⟨Fn0,WT X G a0,Fn0.binds (ps:=["thing"]) λ_ _ _ _ _ _ us hl=>match us,hl with|[_],_=>rfl⟩
 have Fn1:=Yh (st:=Za) l1 c1 k1
 have O_8:Own K mg "is_tuple_of_length" Za _ _ ["thing", "length"]:=⟨Fn1,WT X G a1,Fn1.binds (ps:=["thing", "length"]) λ_ _ _ _ _ _ us hl=>match us,hl with|[_,_],_=>rfl⟩
 have Fn2:=Yh (st:=Y3) l2 c2 k2
 have O_5:Own K mg "is_keep" Y3 _ _ ["thing", "old"]:=⟨Fn2,WT X G a2,Fn2.binds (ps:=["thing", "old"]) λ_ _ _ _ _ _ us hl=>match us,hl with|[_,_],_=>rfl⟩
 have Fn3:=Yh (st:=Yk) l3 c3 k3
 have O_6:Own K mg "is_new" Yk _ _ ["thing"]:=⟨Fn3,WT X G a3,Fn3.binds (ps:=["thing"]) λ_ _ _ _ _ _ us hl=>match us,hl with|[_],_=>rfl⟩
 have Fn4:=Yh (st:=Zo) l4 c4 k4
 have O_12:Own K mg "piece_opened" Zo _ _ ["piece", "old"]:=⟨Fn4,WT X G a4,Fn4.binds (ps:=["piece", "old"]) λ_ _ _ _ _ _ us hl=>match us,hl with|[_,_],_=>rfl⟩
 have Fn5:=Yh (st:=ZZ) l5 c5 k5
 have O_11:Own K mg "opened" ZZ _ _ ["parcel", "old"]:=⟨Fn5,WT X G a5,Fn5.binds (ps:=["parcel", "old"]) λ_ _ _ _ _ _ us hl=>match us,hl with|[_,_],_=>rfl⟩
 have Fn6:=Yh (st:=ZA) l6 c6 k6
 have O_7:Own K mg "is_parcel" ZA _ _ ["thing", "text", "old"]:=⟨Fn6,WT X G a6,Fn6.binds (ps:=["thing", "text", "old"]) λ_ _ _ _ _ _ us hl=>match us,hl with|[_,_,_],_=>rfl⟩
 have Fn7:=Yh (st:=Zn) l7 c7 k7
 have O_13:Own K mg "piece_weight" Zn _ _ ["piece"]:=⟨Fn7,WT X G a7,Fn7.binds (ps:=["piece"]) λ_ _ _ _ _ _ us hl=>match us,hl with|[_],_=>rfl⟩
 have Fn8:=Yh (st:=Y9) l8 c8 k8
 have O_14:Own K mg "weight" Y9 _ _ ["parcel"]:=⟨Fn8,WT X G a8,Fn8.binds (ps:=["parcel"]) λ_ _ _ _ _ _ us hl=>match us,hl with|[_],_=>rfl⟩
 have Fn9:=Yh (st:=Yl) l9 c9 k9
 have O_0:Own K mg "_law_cell" Yl _ _ ["_law_script", "_law_k"]:=⟨Fn9,WT X G a9,Fn9.binds (ps:=["_law_script", "_law_k"]) λ_ _ _ _ _ _ us hl=>match us,hl with|[_,_],_=>rfl⟩
 have Fn10:=Yh (st:=Ym) l10 c10 k10
 have O_2:Own K mg "_law_mix" Ym _ _ ["_law_cell_here", "_law_prime", "_law_many"]:=⟨Fn10,WT X G a10,Fn10.binds (ps:=["_law_cell_here", "_law_prime", "_law_many"]) λ_ _ _ _ _ _ us hl=>match us,hl with|[_,_,_],_=>rfl⟩
 have Fn11:=Yh (st:=Ya) l11 c11 k11
 have O_4:Own K mg "_law_same" Ya _ _ ["_law_found", "_law_due"]:=⟨Fn11,WT X G a11,Fn11.binds (ps:=["_law_found", "_law_due"]) λ_ _ _ _ _ _ us hl=>match us,hl with|[_,_],_=>rfl⟩
 have Fn12:=Yh (st:=Yq) l12 c12 k12
 have O_3:Own K mg "_law_old" Yq _ _ ["_law_cell_here"]:=⟨Fn12,WT X G a12,Fn12.binds (ps:=["_law_cell_here"]) λ_ _ _ _ _ _ us hl=>match us,hl with|[_],_=>rfl⟩
 have Fn13:=Yh (st:=Y4) l13 c13 k13
 have O_1:Own K mg "_law_drawn" Y4 _ _ ["_law_cell_here", "_law_old_here"]:=⟨Fn13,WT X G a13,Fn13.binds (ps:=["_law_cell_here", "_law_old_here"]) λ_ _ _ _ _ _ us hl=>match us,hl with|[_,_],_=>rfl⟩
 have Fn14:=Yh (st:=Q6) l14 c14 k14
 have O_10:Own K mg "law" Q6 _ _ ["_law_script"]:=⟨Fn14,WT X G a14,Fn14.binds (ps:=["_law_script"]) λ_ _ _ _ _ _ us hl=>match us,hl with|[_],_=>rfl⟩
 refine⟨WN "law" "law" (Zz Q6) (Zs Q6) (Z4 Q6) .none kV14 dc14 pm14 an14 cd14 ct14,λs v=>.of_eq rfl,λbase _ _=>?_⟩
 have G_9:=Hf (P:=l.prog) (w:=w) (base:=base) T O_9
 have G_8:=Hg (P:=l.prog) (w:=w) (base:=base) T O_8
 have G_5:=Hj (P:=l.prog) (w:=w) (base:=base) T O_5 O_9 G_9 O_8 G_8
 have G_6:=Hi (P:=l.prog) (w:=w) (base:=base) T O_6 O_8 G_8
 have G_12:=Ef (P:=l.prog) (w:=w) (base:=base) T O_12
 have G_11:=Eg (P:=l.prog) (w:=w) (base:=base) T O_11 O_12 G_12
 have G_7:=Hh (P:=l.prog) (w:=w) (base:=base) T O_7 O_5 G_5 O_6 G_6 O_11 G_11
 have G_13:=Ee (P:=l.prog) (w:=w) (base:=base) T O_13
 have G_14:=Ed (P:=l.prog) (w:=w) (base:=base) T O_14 O_13 G_13
 have G_0:=Hn (P:=l.prog) (w:=w) (base:=base) T O_0
 have G_2:=Hl (P:=l.prog) (w:=w) (base:=base) T O_2
 have G_4:=EQ (P:=l.prog) (w:=w) (base:=base) T O_4 12
 have G_3:=Hk (P:=l.prog) (w:=w) (base:=base) T O_3 O_2 G_2
 have G_1:=Hm (P:=l.prog) (w:=w) (base:=base) T O_1 O_2 G_2
 exact Eh T O_10 O_7 G_7 O_11 G_11 O_14 G_14 O_0 G_0 O_2 G_2 O_4 G_4 O_3 G_3 O_1 G_1
end K21
namespace K21
open PySem L2 DL
theorem QF {c p m:Int}{S:Sto}(hp:0<p)(hm:0<m):ZY [.int c,.int p,.int m] S=some (.int (c*48271%p%m),S):=by
 unfold ZY
 simp only [EVS,Wa,Wb,Wf,W6,Wg,Wh,Wc,Wd,W8,↓reduceIte,reduceCtorEq,W5,We,W7,FM,Ki,hp,hm]
theorem UT (ns:List Int)(k:Nat):∃c:Int,∀S,Y0 [.scr ns,.int k] S=some (.int c,S):=by
 by_cases h:k<ns.length
 ·refine⟨ns[k],λS=>?_⟩
  unfold Y0
  simp only [EVS,Wa,Wb,Wf,W6,Wg,Wh,Wc,Wd,W8,↓reduceIte,reduceCtorEq,W5,We,W7,Ff,Mb,Int.ofNat_lt,h,gIx,UV (Wq h)]
 ·refine⟨0,λS=>?_⟩
  unfold Y0
  simp only [EVS,Wa,Wb,Wf,W6,Wg,Wh,Wc,Wd,W8,↓reduceIte,reduceCtorEq,W5,We,W7,Ff,Mb,Int.ofNat_lt,h]
theorem GA:1000≤Wk:=by decide
theorem ixS {z:Str}{i:Int}{S:Sto}(hz:z.length≤Wk)(h0:0≤i)(h1:i<(cs z).length):gIx (.str z) (.int i) S=some (.str ⟨#[(cs z).getD i.toNat 0]⟩,S):=by
 obtain⟨a,ha,e1,e2⟩:=Ay (xs:=cs z) h0 h1
 show (if z.length≤Wk then (atI (cs z) i).map λc=>(D.str ⟨#[c]⟩,S) else none)=_
 rw [if_pos hz,e2]
 have:(cs z).getD i.toNat 0=a:=by simp [Vv,e1]
 rw [this]
 rfl
theorem slS {z:Str}{lo hi:Option Int}{S:Sto}(hz:z.length≤Wk):slD (.str z) lo hi S=some (.str (VL z lo hi),S):=if_pos hz
theorem KN (x:Str)(a n:Nat)(hb:a+n≤(cs x).length):cs (VL x (some (a:Int)) (some ((a:Int)+(n:Int))))=((cs x).drop a).take n:=by
 have h2:=StrLaws.sliceText_nat x (a:=a) (b:=a+n) (by omega) (by rw [ZF];exact hb)
 have e2:VL x (some (a:Int)) (some ((a:Int)+(n:Int)))=StrLaws.sliceText x (some (a:Int)) (some ((a+n:Nat):Int)):=rfl
 rw [e2,h2,show a+n-a=n by omega]
 simp [cs]
theorem Tp (f:Nat->Nat):∀l:List Nat,((l.map λk=>(⟨#[f k]⟩:Str)).map (·.length)).sum=l.length
 |[]=>rfl
 |a :: l=>by rw [W5,W5,VH,Tp f l,WP];show 1+_=_;omega
theorem U4 (f:Nat->Nat):∀l:List Nat,(l.map λk=>(⟨#[f k]⟩:Str)).flatMap cs=l.map f
 |[]=>rfl
 |a :: l=>by rw [W5,List.flatMap_cons,U4 f l];rfl
theorem LF (c:Int):∃x:Str,(cs x).length≤60/\∀S,Qn [.int c] S=some (.str x,S):=by
 have key:∀(n:Int),0≤n->n≤60->∃x:Str,(cs x).length≤60/\∀S,BA (W3 "") (ZN (T8 0 n.toNat) .no [none,some (.int c),some (.str (W3 "abc; "))] (gN 0) YR QI (T8 0 n.toNat) [] S)=some (.str x,S):=by
  intro n h0 h1
  have hz:(cs (W3 "abc; ")).length=5:=by decide +kernel
  let f:Nat->Nat:=λk=>(cs (W3 "abc; ")).getD ((c+13*(k:Int))*48271%9749%5).toNat 0
  have hn:n.toNat≤60:=by omega
  refine⟨⟨((WY n.toNat).map f).toArray⟩,by rw [G8];simp;omega,λS=>?_⟩
  rw [Jj,Yc (WY n.toNat) (λk=>D.int (k:Nat)) (λk=>D.str ⟨#[f k]⟩) ZU (by rw [List.length_range];exact Wz hn (by decide)) λk hk=>⟨_,rfl,?_⟩]
  ·have e:(WY n.toNat).map (λk=>D.str ⟨#[f k]⟩)=((WY n.toNat).map λk=>(⟨#[f k]⟩:Str)).map D.str:=by rw [Vx];rfl
   have he:(W3 "").length=0:=by decide +kernel
   rw [e,Bo (by rw [Tp,he];simp;omega)]
   congr 2
   congr 1
   apply Jf
   rw [Qf,G8,U4]
  ·have m0:=VE ((c+13*(k:Int))*48271%9749) (b:=5) (by decide)
   have m1:=Vr ((c+13*(k:Int))*48271%9749) (b:=5) (by decide)
   simp only [QI,EVS,Wa,Wb,Wf,W6,Wg,Wh,Wc,Wd,W8,↓reduceIte,reduceCtorEq,W5,We,W7,BM,QF]
   rw [ixS (by decide +kernel) m0 (by rw [hz];exact m1)]
 have m0:=VE (c*48271%9769) (b:=14) (by decide)
 have m1:=Vr (c*48271%9769) (b:=14) (by decide)
 by_cases h:c*48271%9767%8=0
 ·obtain⟨x,hx,e⟩:=key 60 (by decide) (by decide)
  refine⟨x,hx,λS=>?_⟩
  unfold Qn
  simp only [EVS,Wa,Wb,Wf,W6,Wg,Wh,Wc,Wd,W8,↓reduceIte,reduceCtorEq,W5,We,W7,QF,h,NI (show -(2 ^ 62)≤(60:Int)/\(60:Int)<2 ^ 62 by decide)]
  rw [show (60:Nat)=Int.toNat 60 from rfl,e S]
  simp only [EVS,Wa,Wb,Wf,W6,Wg,Wh,Wc,Wd,W8,↓reduceIte,reduceCtorEq,W5,We,W7]
 ·obtain⟨x,hx,e⟩:=key (c*48271%9769%14) m0 (by omega)
  refine⟨x,hx,λS=>?_⟩
  unfold Qn
  simp only [EVS,Wa,Wb,Wf,W6,Wg,Wh,Wc,Wd,W8,↓reduceIte,reduceCtorEq,W5,We,W7,QF,h,NI (show -(2 ^ 62)≤c*48271%9769%14/\c*48271%9769%14<2 ^ 62 by omega),e S]
inductive Pc where
 |keep (b n:Nat)
 |new (w:Str)
abbrev sK:Str:=W3 "keep"
abbrev sN:Str:=W3 "new"
def enc:Pc->D
 | .keep b n=>.tup [.str sK,.int b,.int n]
 | .new w=>.tup [.str sN,.str w]
def po (old:Str):Pc->Str
 | .keep b n=>VL old (some (b:Int)) (some ((b:Int)+(n:Int)))
 | .new w=>w
def okP (old:Str):Pc->Prop
 | .keep b n=>1≤n/\b+n≤(cs old).length
 | .new w=>1≤(cs w).length/\(cs w).length≤60
def wtP:Pc->Int
 | .keep _ _=>2
 | .new w=>2+(cs w).length
theorem kn:(sK=sN)=False:=eq_false (by decide +kernel)
theorem nk:(sN=sK)=False:=eq_false (by decide +kernel)
theorem Ro {old:Str}(ho:(cs old).length≤60){p:Pc}(h:okP old p):(cs (po old p)).length≤60:=by
 cases p with
 |keep b n=>
  obtain⟨h1,h2⟩:=h
  unfold po
  rw [KN _ _ _ h2,WW,Vn]
  omega
 |new w=>exact h.2
theorem Rz {old:Str}(ho:(cs old).length≤60)(p:Pc)(S:Sto):ZP [enc p,.str old] S=some (.str (po old p),S):=by
 have hl:old.length≤Wk:=by rw [ZF];exact Wz ho (by decide)
 unfold ZP
 cases p with
 |keep b n=>
  unfold enc
  simp only [EVS,Wa,Wb,Wf,W6,Wg,Wh,Wc,Wd,W8,↓reduceIte,reduceCtorEq,W5,We,W7,kn,slS hl]
  rfl
 |new w=>
  unfold enc
  simp only [EVS,Wa,Wb,Wf,W6,Wg,Wh,Wc,Wd,W8,↓reduceIte,reduceCtorEq,W5,We,W7]
  rfl
theorem PU (l:List Str)(h:∀x∈l,x.length≤60):(l.map (·.length)).sum≤60*l.length:=by
 induction l with
 |nil=>exact Wu 0
 |cons a l ih=>
  have h1:=h a WJ
  have h2:=ih λx hx=>h x (WG _ hx)
  rw [W5,VH,WP]
  omega
def txt (old:Str)(ps:List Pc):Str:=⟨(ps.flatMap λp=>cs (po old p)).toArray⟩
theorem QC {old:Str}(ho:(cs old).length≤60){ps:List Pc}(hp:∀p∈ps,okP old p)(hl:ps.length≤100)(S:Sto):Yd [.tup (ps.map enc),.str old] S=some (.str (txt old ps),S):=by
 unfold Yd
 simp only [EVS,Wa,Wb,Wf,W6,Wg,Wh,Wc,Wd,W8,↓reduceIte,reduceCtorEq,W5,We,W7]
 rw [Yc ps enc (λp=>D.str (po old p)) ZU (Wz hl (by decide)) λp hq=>⟨_,rfl,by simp only [J4,EVS,Wa,Wb,Wf,W6,Wg,Wh,Wc,Wd,W8,↓reduceIte,reduceCtorEq,W5,We,W7,Rz ho]⟩]
 have e:ps.map (λp=>D.str (po old p))=(ps.map (po old)).map D.str:=by rw [Vx];rfl
 have he:(W3 "").length=0:=by decide +kernel
 have hs:=PU (ps.map (po old)) λx hx=>by
  obtain⟨p,hq,rfl⟩:=W0i.mp hx
  rw [ZF];exact Ro ho (hp p hq)
 rw [Wp] at hs
 rw [e,Bo (by rw [he];omega)]
 have:W01 (W3 "") (ps.map (po old))=txt old ps:=by
  apply Jf
  unfold txt
  rw [Qf,G8,List.flatMap_map]
 rw [this]
 simp only [EVS,Wa,Wb,Wf,W6,Wg,Wh,Wc,Wd,W8,↓reduceIte,reduceCtorEq,W5,We,W7]
def wts (ps:List Pc):Int:=(ps.map wtP).sum
theorem KR {old:Str}{p:Pc}(h:okP old p)(S:Sto):ZO [enc p] S=some (.int (wtP p),S):=by
 unfold ZO
 cases p with
 |keep b n=>
  unfold enc
  simp only [EVS,Wa,Wb,Wf,W6,Wg,Wh,Wc,Wd,W8,↓reduceIte,reduceCtorEq,W5,We,W7,kn]
  rfl
 |new w=>
  unfold enc
  have hl:w.length≤Wk:=by rw [ZF];exact Wz h.2 (by decide)
  simp only [EVS,Wa,Wb,Wf,W6,Wg,Wh,Wc,Wd,W8,↓reduceIte,reduceCtorEq,W5,We,W7,Qr hl]
  rw [ZF]
  rfl
theorem JA {old:Str}{ps:List Pc}(hp:∀p∈ps,okP old p)(hl:ps.length≤100)(S:Sto):Yw [.tup (ps.map enc)] S=some (.int (wts ps),S):=by
 unfold Yw
 simp only [EVS,Wa,Wb,Wf,W6,Wg,Wh,Wc,Wd,W8,↓reduceIte,reduceCtorEq,W5,We,W7]
 rw [Yc ps enc (λp=>D.int (wtP p)) ZU (Wz hl (by decide)) λp hq=>⟨_,rfl,by simp only [J3,EVS,Wa,Wb,Wf,W6,Wg,Wh,Wc,Wd,W8,↓reduceIte,reduceCtorEq,W5,We,W7,KR (hp p hq)]⟩]
 have e:ps.map (λp=>D.int (wtP p))=(ps.map wtP).map D.int:=by rw [Vx];rfl
 rw [e,Pp]
 simp only [EVS,Wa,Wb,Wf,W6,Wg,Wh,Wc,Wd,W8,↓reduceIte,reduceCtorEq,W5,We,W7]
 rfl
theorem J8 (i:Int)(S:Sto):ZT [.int i] S=some (.bl true,S):=by
 unfold ZT
 have h1:Ut "int" (some (D.int i,S))=some (.bl true,S):=rfl
 have h2:Ut "bool" (some (D.int i,S))=some (.bl false,S):=rfl
 simp only [EVS,Wa,Wb,Wf,W6,Wg,Wh,Wc,Wd,W8,↓reduceIte,reduceCtorEq,W5,We,W7,h1,h2]
theorem Gm (b:Bool)(S:Sto):ZT [.bl b] S=some (.bl false,S):=by
 unfold ZT
 have h1:Ut "int" (some (D.bl b,S))=some (.bl true,S):=rfl
 have h2:Ut "bool" (some (D.bl b,S))=some (.bl true,S):=rfl
 simp only [EVS,Wa,Wb,Wf,W6,Wg,Wh,Wc,Wd,W8,↓reduceIte,reduceCtorEq,W5,We,W7,h1,h2]
theorem Np (ds:List D)(n:Int)(S:Sto):Z3 [.tup ds,.int n] S=some (.bl (decide ((ds.length:Int)=n)),S):=by
 unfold Z3
 have h1:Ut "tuple" (some (D.tup ds,S))=some (.bl true,S):=rfl
 simp only [EVS,Wa,Wb,Wf,W6,Wg,Wh,Wc,Wd,W8,↓reduceIte,reduceCtorEq,W5,We,W7,h1]
theorem PL {d:D}(n:Int){S:Sto}{T:String}(h:tyD d S=some T)(hT:Qs T "tuple" = false):Z3 [d,.int n] S=some (.bl false,S):=by
 unfold Z3
 simp only [EVS,Wa,Wb,Wf,W6,Wg,Wh,Wc,Wd,W8,↓reduceIte,reduceCtorEq,W5,We,W7,Fg,h,hT]
theorem F3 {a b:Int}{old:Str}(ho:(cs old).length≤60)(S:Sto):Zm [.tup [.str sK,.int a,.int b],.str old] S=some (.bl (decide (0≤a)&&(decide (1≤b)&&decide (a+b≤(cs old).length))),S):=by
 have hl:old.length≤Wk:=by rw [ZF];exact Wz ho (by decide)
 have h3:∀S,Z3 [.tup [D.str sK,.int a,.int b],.int 3] S=some (.bl true,S):=λS=>Np _ _ S
 unfold Zm
 by_cases h1:0≤a
 ·by_cases h2:1≤b
  ·simp only [EVS,Wa,Wb,Wf,W6,Wg,Wh,Wc,Wd,W8,↓reduceIte,reduceCtorEq,W5,We,W7,h3,J8,Qr hl,h1,h2,ZF,Bool.true_and]
  ·simp only [EVS,Wa,Wb,Wf,W6,Wg,Wh,Wc,Wd,W8,↓reduceIte,reduceCtorEq,W5,We,W7,h3,J8,Qr hl,h1,h2,ZF,Bool.true_and,W0j]
 ·simp only [EVS,Wa,Wb,Wf,W6,Wg,Wh,Wc,Wd,W8,↓reduceIte,reduceCtorEq,W5,We,W7,h3,J8,Qr hl,h1,ZF,Bool.true_and,W0j]
theorem RS {b:Bool}{d:D}{old:Str}(S:Sto):Zm [.tup [.str sK,.bl b,d],.str old] S=some (.bl false,S):=by
 have h3:∀S,Z3 [.tup [D.str sK,.bl b,d],.int 3] S=some (.bl true,S):=λS=>Np _ _ S
 unfold Zm
 simp only [EVS,Wa,Wb,Wf,W6,Wg,Wh,Wc,Wd,W8,↓reduceIte,reduceCtorEq,W5,We,W7,h3,Gm]
theorem RQ {b:Bool}{a:Int}{old:Str}(S:Sto):Zm [.tup [.str sK,.int a,.bl b],.str old] S=some (.bl false,S):=by
 have h3:∀S,Z3 [.tup [D.str sK,.int a,.bl b],.int 3] S=some (.bl true,S):=λS=>Np _ _ S
 unfold Zm
 simp only [EVS,Wa,Wb,Wf,W6,Wg,Wh,Wc,Wd,W8,↓reduceIte,reduceCtorEq,W5,We,W7,h3,Gm,J8]
theorem JX {ds:List D}{old:Str}(h:ds.length≠3)(S:Sto):Zm [.tup ds,.str old] S=some (.bl false,S):=by
 have h3:∀S,Z3 [.tup ds,.int 3] S=some (.bl false,S):=λS=>by rw [Np,decide_eq_false (by omega)]
 unfold Zm
 simp only [EVS,Wa,Wb,Wf,W6,Wg,Wh,Wc,Wd,W8,↓reduceIte,reduceCtorEq,W5,We,W7,h3]
theorem F2 {a b:D}{old:Str}(S:Sto):Zm [.tup [.str sN,a,b],.str old] S=some (.bl false,S):=by
 have h3:∀S,Z3 [.tup [D.str sN,a,b],.int 3] S=some (.bl true,S):=λS=>Np _ _ S
 unfold Zm
 simp only [EVS,Wa,Wb,Wf,W6,Wg,Wh,Wc,Wd,W8,↓reduceIte,reduceCtorEq,W5,We,W7,h3,nk]
theorem RP {d:D}{old:Str}{S:Sto}{T:String}(h:tyD d S=some T)(hT:Qs T "tuple" = false):Zm [d,.str old] S=some (.bl false,S):=by
 unfold Zm
 simp only [EVS,Wa,Wb,Wf,W6,Wg,Wh,Wc,Wd,W8,↓reduceIte,reduceCtorEq,W5,We,W7,PL 3 h hT]
theorem B1 {ds:List D}(h:ds.length≠2)(S:Sto):ZC [.tup ds] S=some (.bl false,S):=by
 have h3:∀S,Z3 [.tup ds,.int 2] S=some (.bl false,S):=λS=>by rw [Np,decide_eq_false (by omega)]
 unfold ZC
 simp only [EVS,Wa,Wb,Wf,W6,Wg,Wh,Wc,Wd,W8,↓reduceIte,reduceCtorEq,W5,We,W7,h3]
theorem Ei {d:D}(S:Sto):ZC [.tup [.str sK,d]] S=some (.bl false,S):=by
 have h3:∀S,Z3 [.tup [D.str sK,d],.int 2] S=some (.bl true,S):=λS=>Np _ _ S
 unfold ZC
 simp only [EVS,Wa,Wb,Wf,W6,Wg,Wh,Wc,Wd,W8,↓reduceIte,reduceCtorEq,W5,We,W7,h3,kn]
theorem LG {w:Str}(S:Sto):ZC [.tup [.str sN,.str w]] S=some (.bl (!decide (w=W3 "")),S):=by
 have h3:∀S,Z3 [.tup [D.str sN,.str w],.int 2] S=some (.bl true,S):=λS=>Np _ _ S
 have h1:Ut "str" (some (D.str w,S))=some (.bl true,S):=rfl
 unfold ZC
 simp only [EVS,Wa,Wb,Wf,W6,Wg,Wh,Wc,Wd,W8,↓reduceIte,reduceCtorEq,W5,We,W7,h3,h1]
theorem Ej {i:Int}(S:Sto):ZC [.tup [.str sN,.int i]] S=some (.bl false,S):=by
 have h3:∀S,Z3 [.tup [D.str sN,.int i],.int 2] S=some (.bl true,S):=λS=>Np _ _ S
 have h1:Ut "str" (some (D.int i,S))=some (.bl false,S):=rfl
 unfold ZC
 simp only [EVS,Wa,Wb,Wf,W6,Wg,Wh,Wc,Wd,W8,↓reduceIte,reduceCtorEq,W5,We,W7,h3,h1]
theorem LH {d:D}{S:Sto}{T:String}(h:tyD d S=some T)(hT:Qs T "tuple" = false):ZC [d] S=some (.bl false,S):=by
 unfold ZC
 simp only [EVS,Wa,Wb,Wf,W6,Wg,Wh,Wc,Wd,W8,↓reduceIte,reduceCtorEq,W5,We,W7,PL 2 h hT]
def Bad (old:Str)(S:Sto)(d:D):Prop:=Zm [d,.str old] S=some (.bl false,S)/\ZC [d] S=some (.bl false,S)
theorem Kf {old:Str}(ho:(cs old).length≤60){p:Pc}(h:okP old p)(S:Sto):ZB [some (enc p),some (.str old)] S=some (.bl true,S):=by
 cases p with
 |keep b n=>
  obtain⟨h1,h2⟩:=h
  have e:(decide ((0:Int)≤(b:Int))&&(decide ((1:Int)≤(n:Int))&&decide ((b:Int)+(n:Int)≤((cs old).length:Int))))=true:=by
   rw [decide_eq_true (by omega),decide_eq_true (by omega),decide_eq_true (by omega)];rfl
  unfold enc
  simp only [ZB,EVS,Wa,Wb,Wf,W6,Wg,Wh,Wc,Wd,W8,↓reduceIte,reduceCtorEq,W5,We,W7,F3 ho,e]
 |new w=>
  obtain⟨h1,_⟩:=h
  have e:(!decide (w=W3 ""))=true:=by
   rw [decide_eq_false];rfl
   intro z
   rw [z] at h1
   exact absurd h1 (by decide +kernel)
  unfold enc
  simp only [ZB,EVS,Wa,Wb,Wf,W6,Wg,Wh,Wc,Wd,W8,↓reduceIte,reduceCtorEq,W5,We,W7,JX (show [D.str sN,.str w].length≠3 by simp),LG,e]
theorem ED {old:Str}{d:D}{S:Sto}(h:Bad old S d):ZB [some d,some (.str old)] S=some (.bl false,S):=by
 simp only [ZB,EVS,Wa,Wb,Wf,W6,Wg,Wh,Wc,Wd,W8,↓reduceIte,reduceCtorEq,W5,We,W7,h.1,h.2]
theorem QV {old:Str}(ho:(cs old).length≤60){ps:List Pc}(hp:∀p∈ps,okP old p)(hl:ps.length≤100)(t:Str)(S:Sto):Z9 [.tup (ps.map enc),.str t,.str old] S=some (.bl (decide (txt old ps=t)),S):=by
 unfold Z9
 have h1:Ut "tuple" (some (D.tup (ps.map enc),S))=some (.bl true,S):=rfl
 simp only [EVS,Wa,Wb,Wf,W6,Wg,Wh,Wc,Wd,W8,↓reduceIte,reduceCtorEq,W5,We,W7,h1]
 rw [Yc ps enc (λ_=>D.bl true) ZU (Wz hl (by decide)) λp hq=>⟨_,rfl,Kf ho (hp p hq) S⟩]
 have e:ps.map (λ_=>D.bl true)=(ps.map λ_=>true).map D.bl:=by rw [Vx];rfl
 have e2:(ps.map λ_=>true).all id=true:=by simp
 rw [e,RU]
 simp only [EVS,Wa,Wb,Wf,W6,Wg,Wh,Wc,Wd,W8,↓reduceIte,reduceCtorEq,W5,We,W7,e2,QC ho hp hl]
theorem JS {old:Str}{ds:List D}{S:Sto}(hl:ds.length≤100)(ho:(cs old).length≤60)(hd:∀d∈ds,Bad old S d\/∃p,okP old p/\d=enc p)(hb:∃d∈ds,Bad old S d)(t:D):Z9 [.tup ds,t,.str old] S=some (.bl false,S):=by
 classical
 unfold Z9
 have h1:Ut "tuple" (some (D.tup ds,S))=some (.bl true,S):=rfl
 simp only [EVS,Wa,Wb,Wf,W6,Wg,Wh,Wc,Wd,W8,↓reduceIte,reduceCtorEq,W5,We,W7,h1]
 have hc:=Yc (ds0:=ds) (gd:=.no) (cap:=[none,some (.str old)]) (g:=gN 0) (m:=ZB) (S:=S) ds id (λd=>D.bl (!decide (Bad old S d))) ZU (Wz hl (by decide)) λd hq=>⟨_,rfl,by
  by_cases hbd:Bad old S d
  ·rw [decide_eq_true hbd];exact ED hbd
  ·rw [decide_eq_false hbd]
   rcases hd d hq with z|⟨p,hp,rfl⟩
   ·exact absurd z hbd
   ·exact Kf ho hp S⟩
 rw [List.map_id] at hc
 rw [hc]
 have e:ds.map (λd=>D.bl (!decide (Bad old S d)))=(ds.map λd=>!decide (Bad old S d)).map D.bl:=by rw [Vx];rfl
 have e2:(ds.map λd=>!decide (Bad old S d)).all id=false:=by
  obtain⟨d,h2,h3⟩:=hb
  rw [List.all_eq_false]
  exact⟨_,W0i.mpr ⟨d,h2,rfl⟩,by rw [decide_eq_true h3];decide⟩
 rw [e,RU]
 simp only [EVS,Wa,Wb,Wf,W6,Wg,Wh,Wc,Wd,W8,↓reduceIte,reduceCtorEq,W5,We,W7,e2]
theorem JR {d t o:D}{S:Sto}{T:String}(h:tyD d S=some T)(hT:Qs T "tuple" = false):Z9 [d,t,o] S=some (.bl false,S):=by
 unfold Z9
 simp only [EVS,Wa,Wb,Wf,W6,Wg,Wh,Wc,Wd,W8,↓reduceIte,reduceCtorEq,W5,We,W7,Fg,h,hT]
end K21
namespace K21
open PySem L2 DL
theorem Yf {sa sb:MS}{en en1:En}{S S1:Sto}{Q:En->Sto->Prop}(h1:sa en S=some (.nx,en1,S1))(h2:∃en2 S2,sb en1 S1=some (.nx,en2,S2)/\Q en2 S2):∃en2 S2,Yn sa sb en S=some (.nx,en2,S2)/\Q en2 S2:=by
 obtain⟨en2,S2,e2,hQ⟩:=h2
 exact⟨en2,S2,by rw [Ph,h1,RT,e2],hQ⟩
theorem CN {ds:List D}{a:Nat}{S:Sto}(h:a≤ds.length):slD (.tup ds) none (some (a:Int)) S=some (.tup (ds.take a),S):=by
 dsimp only [slD]
 unfold Nk
 rw [HT.sIx_nat,HT.sIx_none,List.drop_zero,show min a ds.length-0=a by omega]
theorem CM {ds:List D}{a:Nat}{S:Sto}(h:a<ds.length):slD (.tup ds) (some ((a:Int)+1)) none S=some (.tup (ds.drop (a+1)),S):=by
 have e:((a:Int)+1)=((a+1:Nat):Int):=rfl
 rw [e]
 dsimp only [slD]
 unfold Nk
 rw [HT.sIx_nat,HT.sIx_none,show min (a+1) ds.length=a+1 by omega,VY (by rw [Vn];omega)]
theorem RL (n:Nat)(p:Pc):Jy n (enc p)=true:=by
 cases p<;>simp only [enc,Jy,lowDs,Bool.and_true]
theorem B8 (n:Nat):∀ps:List Pc,lowDs n (ps.map enc)=true
 |[]=>by simp only [We,lowDs]
 |p :: ps=>by
  rw [W5]
  simp only [lowDs,RL,B8 n ps,Bool.and_true]
theorem RK (n:Nat)(ps:List Pc)(t:Str):Jy n (.tup [.tup (ps.map enc),.str t])=true:=by
 simp only [Jy,lowDs,B8,Bool.and_true]
theorem KM (old:Str)(ps:List Pc):cs (txt old ps)=ps.flatMap λp=>cs (po old p):=G8 _
theorem Gs (old:Str)(ps:List Pc)(p:Pc):txt old ps++po old p=txt old (ps++[p]):=by
 apply Jf
 rw [Uc,KM,KM,List.flatMap_append]
 simp
theorem Gq {old:Str}(ho:(cs old).length≤60):∀{ps:List Pc},(∀p∈ps,okP old p)->(txt old ps).length≤60*ps.length:=by
 intro ps h
 rw [ZF]
 unfold txt
 rw [G8]
 induction ps with
 |nil=>exact Wu 0
 |cons p ps ih=>
  have h1:=Ro ho (h p WJ)
  have h2:=ih λq hq=>h q (WG _ hq)
  rw [List.flatMap_cons,Wx,WP]
  omega
def Sd (c:Int)(old:Str)(S:Sto)(k:Nat)(en:En)(S':Sto):Prop:=∃ps x5 x6 x7 x8,ps.length=k/\(∀p∈ps,okP old p)/\S'=S++[.lst (ps.map enc)]/\
 en=[some (.int c),some (.str old),some (.str (W3 "xyz;0")),some (.ref S.length),some (.str (txt old ps)),x5,x6,x7,x8]
theorem BV {c:Int}{old:Str}(ho:(cs old).length≤60){S S':Sto}{k:Nat}(hk:k<5){en:En}(h:Sd c old S k en S'):∃en2 S2,Yv (en.set 5 (some (.int (k:Nat)))) S'=some (.nx,en2,S2)/\Sd c old S (k+1) en2 S2:=by
 obtain⟨ps,x5,x6,x7,x8,hl,hp,rfl,rfl⟩:=h
 have lo:old.length≤Wk:=by rw [ZF];exact Wz ho (by decide)
 have z:=GA
 have hL:(0:Int)<((cs old).length:Int)+1:=by omega
 have o0:=VE ((c+7*(k:Int))*48271%9739) (b:=((cs old).length:Int)+1) (by omega)
 have o1:=Vr ((c+7*(k:Int))*48271%9739) (b:=((cs old).length:Int)+1) (by omega)
 obtain⟨a,ea⟩:∃a:Nat,(c+7*(k:Int))*48271%9739%(((cs old).length:Int)+1)=(a:Int):=⟨_,(VM o0).symm⟩
 rw [ea] at o1
 have hM:(0:Int)<Ke (((cs old).length:Int)-(a:Int)) 11+1:=by
  unfold Ke
  split<;>omega
 have m0:=VE ((c+11*(k:Int))*48271%9733) (b:=Ke (((cs old).length:Int)-(a:Int)) 11+1) (by omega)
 have m1:=Vr ((c+11*(k:Int))*48271%9733) (b:=Ke (((cs old).length:Int)-(a:Int)) 11+1) (by omega)
 obtain⟨n,en⟩:∃n:Nat,(c+11*(k:Int))*48271%9733%(Ke (((cs old).length:Int)-(a:Int)) 11+1)=(n:Int):=⟨_,(VM m0).symm⟩
 rw [en] at m1
 have hn:(n:Int)≤((cs old).length:Int)-(a:Int):=by
  unfold Ke at m1
  split at m1<;>omega
 have hl1:(ps.map enc).length<Wk:=by rw [Wp];omega
 have ht:=Gq ho hp
 unfold Yv
 by_cases hn0:0<n
 ·have hn':(0:Int)<(n:Int):=by omega
  have okp:okP old (.keep a n):=⟨by omega,by omega⟩
  have hq:=Ro ho okp
  have ha:=Gs old ps (.keep a n)
  have g1:∀S,ZW (.str (txt old ps)) (.str (VL old (some (a:Int)) (some ((a:Int)+(n:Int))))) S=some (.str (txt old (ps++[.keep a n])),S):=λS=>by
   rw [J2 (by rw [ZF (VL _ _ _)];show _+(cs (po old (.keep a n))).length≤_;omega)]
   exact congrArg (λq=>some (D.str q,S)) ha
  refine⟨[some (.int c),some (.str old),some (.str (W3 "xyz;0")),some (.ref S.length),some (.str (txt old (ps++[.keep a n]))),some (.int (k:Nat)),some (.int (a:Int)),some (.int (n:Int)),x8],S++[.lst (ps.map enc++[.tup [.str (W3 "keep"),.int (a:Int),.int (n:Int)]])],by simp only [EVS,Wa,Wb,Wf,W6,Wg,Wh,Wc,Wd,W8,↓reduceIte,reduceCtorEq,W5,We,W7,BM,Qr lo,ZF,QF,hL,ea,hM,en,hn',slS lo,g1,N5 hl1],ps++[.keep a n],_,_,_,_,by rw [Wx,hl];rfl,?_,?_,rfl⟩
  ·intro p hq
   rcases V6.mp hq with q|q
   ·exact hp p q
   ·rw [VW.mp q];exact okp
  ·rw [List.map_append];rfl
 ·have hn':¬(0:Int)<(n:Int):=by omega
  generalize hz:W3 "xyz;0" = sg
  have hz5:(cs sg).length=5:=by rw [←hz];decide +kernel
  have hm2:(cs (W0c sg 2)).length=10:=by
   have:=Aw sg 2 (by decide)
   rw [show ((2:Nat):Int)=2 from rfl] at this
   rw [this]
   simp [List.length_flatten,hz5]
  obtain⟨q,eq⟩:∃q:Nat,(a:Int)%5=(q:Int):=⟨a%5,by omega⟩
  obtain⟨r,er⟩:∃r:Nat,(a:Int)%3=(r:Int):=⟨a%3,by omega⟩
  have hq4:q≤4:=by omega
  have hr2:r≤2:=by omega
  have g0:∀S,Gh (.str sg) (.int 2) S=some (.str (W0c sg 2),S):=λS=>FL ⟨by decide,by decide,by rw [ZF];omega⟩
  have lm:(W0c sg 2).length≤Wk:=by rw [ZF];omega
  have e1:((q:Int)+1+(r:Int))=(q:Int)+((1+r:Nat):Int):=by omega
  have cw:=KN (W0c sg 2) q (1+r) (by omega)
  generalize hw:VL (W0c sg 2) (some (q:Int)) (some ((q:Int)+((1+r:Nat):Int)))=w at cw
  have lw:(cs w).length=1+r:=by rw [cw,WW,Vn];omega
  have g2:∀S,slD (.str (W0c sg 2)) (some (q:Int)) (some ((q:Int)+1+(r:Int))) S=some (.str w,S):=λS=>by rw [slS lm,e1,hw]
  have okp:okP old (.new w):=⟨by omega,by omega⟩
  have ha:=Gs old ps (.new w)
  have g1:∀S,ZW (.str (txt old ps)) (.str w) S=some (.str (txt old (ps++[.new w])),S):=λS=>by
   rw [J2 (by rw [ZF w];omega)]
   exact congrArg (λq=>some (D.str q,S)) ha
  refine⟨[some (.int c),some (.str old),some (.str (W3 "xyz;0")),some (.ref S.length),some (.str (txt old (ps++[.new w]))),some (.int (k:Nat)),some (.int (a:Int)),some (.int (n:Int)),some (.str w)],S++[.lst (ps.map enc++[.tup [.str (W3 "new"),.str w]])],by simp only [EVS,Wa,Wb,Wf,W6,Wg,Wh,Wc,Wd,W8,↓reduceIte,reduceCtorEq,W5,We,W7,BM,Ki,Qr lo,ZF,QF,hL,ea,hM,en,hn',hz,eq,er,g0,g2,g1,N5 hl1],ps++[.new w],_,_,_,_,by rw [Wx,hl];rfl,?_,?_,rfl⟩
  ·intro p hq
   rcases V6.mp hq with q|q
   ·exact hp p q
   ·rw [VW.mp q];exact okp
  ·rw [List.map_append];rfl
theorem Nv {m k:Nat}{pre post:List Nat}(h:WY m=pre++k :: post):k=pre.length/\k<m:=by
 have h1:(WY m)[pre.length]? = some k:=by rw [h];simp
 have h2:pre.length<m:=by
  have:=congrArg V7 h
  simp at this
  omega
 rw [List.getElem?_range h2] at h1
 cases h1
 exact⟨rfl,h2⟩
theorem Uu (old:Str):txt old []=W3 "":=Jf (by
 unfold txt
 rw [G8]
 show []=cs (W3 "")
 decide +kernel)
theorem NS (c:Int){old:Str}(ho:(cs old).length≤60)(S:Sto):∃ps:List Pc,(1≤ps.length/\ps.length≤5)/\(∀p∈ps,okP old p)/\YG [.int c,.str old] S=some (.tup [.tup (ps.map enc),.str (txt old ps)],S):=by
 have m0:=VE (c*48271%9743) (b:=5) (by decide)
 have m1:=Vr (c*48271%9743) (b:=5) (by decide)
 obtain⟨m,em⟩:∃m:Nat,1+c*48271%9743%5=(m:Int):=⟨_,(VM (by omega)).symm⟩
 have hm:1≤m/\m≤5:=by omega
 have h0:Sd c old S 0 [some (.int c),some (.str old),some (.str (W3 "xyz;0")),some (.ref S.length),some (.str (W3 "")),none,none,none,none] (S++[.lst []]):=⟨[],none,none,none,none,rfl,(λp h=>by cases h),rfl,by rw [Uu]⟩
 obtain⟨en',S',e,hS⟩:=QH (g:=gN 5) (ds0:=T8 0 m) (gd:=.no) (body:=Yv) (WY m) (λk=>D.int (k:Nat)) (λpre en S'=>Sd c old S pre.length en S')
  (λpre k post en S' hx hP=>⟨_,rfl,by
   obtain⟨rfl,hk⟩:=Nv hx
   have:=BV ho (by omega) hP
   rw [Wx]
   exact this⟩) (λ_ _ _ _=>trivial) h0
 rw [←Jj] at e
 obtain⟨ps,x5,x6,x7,x8,hl,hp,rfl,rfl⟩:=hS
 rw [List.length_range] at hl
 refine⟨ps,by omega,hp,?_⟩
 have ht:Int.toNat (m:Int)=m:=rfl
 unfold YG
 simp only [EVS,Wa,Wb,Wf,W6,Wg,Wh,Wc,Wd,W8,↓reduceIte,reduceCtorEq,W5,We,W7,QF,em,NI (show -(2 ^ 62)≤(m:Int)/\(m:Int)<2 ^ 62 by omega),ht,e]
 rw [Gw _ _ _ (RK _ _ _)]
end K21
namespace K21
open PySem L2 DL
theorem Hw:∀(x:Str) (S:Sto),Ut "tuple" (some (.str x,S))=some (.bl false,S):=λ_ _=>rfl
theorem Hy:∀(x:Str) (S:Sto),Ut "bool" (some (.str x,S))=some (.bl false,S):=λ_ _=>rfl
theorem Hx:∀(x:Str) (S:Sto),RX "int" "str" (some (.str x,S))=some (.bl true,S):=λ_ _=>rfl
theorem Hz:∀(x:Int) (S:Sto),Ut "tuple" (some (.int x,S))=some (.bl false,S):=λ_ _=>rfl
theorem HB:∀(x:Int) (S:Sto),Ut "bool" (some (.int x,S))=some (.bl false,S):=λ_ _=>rfl
theorem HA:∀(x:Int) (S:Sto),RX "int" "str" (some (.int x,S))=some (.bl true,S):=λ_ _=>rfl
theorem Hv:∀(l:List D) (S:Sto),Ut "tuple" (some (.tup l,S))=some (.bl true,S):=λ_ _=>rfl
theorem Pa (x:Str)(S:Sto):gIs (.str x) .non S=some (.bl false,S):=rfl
theorem NN (x:Int)(S:Sto):gIs (.int x) .non S=some (.bl false,S):=rfl
def SD:Nat->D->Prop
 |_,.int _=>True
 |_,.str _=>True
 |n+1,.tup ds=>ds.length≤100/\∀d∈ds,SD n d
 |_,_=>False
theorem T7:∀(n:Nat) (d:D) (k:Nat) (S:Sto),SD n d->ZK (n+k+1) [d,d] S=some (.bl true,S)
 |n,.int i,k,S,_=>by
  show QO 2 2 (Ys (ZK (n+k))) _ S=_
  simp only [Ys,EVS,Wa,Wb,Wf,W6,Wg,Wh,Wc,Wd,W8,↓reduceIte,reduceCtorEq,W5,We,W7,Hz,HB,HA,NN]
 |n,.str i,k,S,_=>by
  show QO 2 2 (Ys (ZK (n+k))) _ S=_
  simp only [Ys,EVS,Wa,Wb,Wf,W6,Wg,Wh,Wc,Wd,W8,↓reduceIte,reduceCtorEq,W5,We,W7,Hw,Hy,Hx,Pa]
 |n+1,.tup ds,k,S,h=>by
  unfold SD at h
  show QO 2 2 (Ys (ZK (n+1+k))) _ S=_
  simp only [Ys,EVS,Wa,Wb,Wf,W6,Wg,Wh,Wc,Wd,W8,↓reduceIte,reduceCtorEq,W5,We,W7,Hv]
  have hz:NZ ds ds=ds.map λx=>D.tup [x,x]:=by
   unfold NZ
   have:∀l:List D,(l.zip l).map (λp=>D.tup [p.1,p.2])=l.map λx=>D.tup [x,x]:=λl=>by
    induction l with
    |nil=>rfl
    |cons x xs ih=>simp only [Vq,W5,ih]
   first|exact this ds|simpa using this ds
  rw [hz,Yc ds (λx=>D.tup [x,x]) (λ_=>D.bl true) ZU (Wz h.1 (by decide)) λx hx=>⟨_,rfl,?_⟩]
  ·have e:ds.map (λ_=>D.bl true)=(ds.map λ_=>true).map D.bl:=by rw [Vx];rfl
   rw [e,RU]
   have:(ds.map λ_=>true).all id=true:=by simp
   simp only [EVS,Wa,Wb,Wf,W6,Wg,Wh,Wc,Wd,W8,↓reduceIte,reduceCtorEq,W5,We,W7,this]
  ·simp only [EVS,Wa,Wb,Wf,W6,Wg,Wh,Wc,Wd,W8,↓reduceIte,reduceCtorEq,W5,We,W7]
   have:=T7 n x k S (h.2 x hx)
   rw [show n+1+k=n+k+1 by omega]
   exact this
 |0,.tup _,_,_,h=>h.elim
 |0,.non,_,_,h=>h.elim
 |0,.bl _,_,_,h=>h.elim
 |0,.ref _,_,_,h=>h.elim
 |0,.scr _,_,_,h=>h.elim
 |_+1,.non,_,_,h=>h.elim
 |_+1,.bl _,_,_,h=>h.elim
 |_+1,.ref _,_,_,h=>h.elim
 |_+1,.scr _,_,_,h=>h.elim
def nl:Pc->Int
 | .keep _ _=>0
 | .new w=>(cs w).length
def isN:Pc->Bool
 | .keep _ _=>false
 | .new _=>true
theorem BT:∀ps:List Pc,(ps.map λ_=>(2:Int)).sum+((ps.filter isN).map nl).sum=wts ps
 |[]=>rfl
 | .keep b n :: ps=>by
  have:=BT ps
  unfold wts at *
  rw [List.filter_cons_of_neg (show ¬isN (.keep b n)=true from WX),W5,W5,VH,VH,←this]
  show 2+_+_=2+_
  omega
 | .new w :: ps=>by
  have:=BT ps
  unfold wts at *
  rw [List.filter_cons_of_pos (by rfl),W5,W5,W5,VH,VH,VH,←this]
  show 2+_+(((cs w).length:Int)+_)=2+((cs w).length:Int)+_
  omega
theorem HG {ps:List Pc}(hl:ps.length≤100)(S:Sto):AH (ZN (ps.map enc) .no [none] (gN 0) YR BQ (ps.map enc) [] S)=some (.int (ps.map λ_=>(2:Int)).sum,S):=by
 rw [Yc ps enc (λ_=>D.int 2) ZU (Wz hl (by decide)) λp hq=>⟨_,rfl,rfl⟩]
 have e:ps.map (λ_=>D.int 2)=(ps.map λ_=>(2:Int)).map D.int:=by rw [Vx];rfl
 rw [e,Pp]
theorem HF {old:Str}{ps:List Pc}(hp:∀p∈ps,okP old p)(hl:ps.length≤100)(S:Sto):AH (ZN (ps.map enc) .no [none] (gN 0) Jw UQ (ps.map enc) [] S)=some (.int ((ps.filter isN).map nl).sum,S):=by
 rw [Tz ps enc isN (λp=>D.int (nl p)) ZU (Wz hl (by decide)) λp hq=>⟨_,rfl,?_,λhn=>?_⟩]
 ·have e:(ps.filter isN).map (λp=>D.int (nl p))=((ps.filter isN).map nl).map D.int:=by rw [Vx];rfl
  rw [e,Pp]
 ·cases p with
  |keep b n=>
   unfold enc
   simp only [Jw,EVS,Wa,Wb,Wf,W6,Wg,Wh,Wc,Wd,W8,↓reduceIte,reduceCtorEq,W5,We,W7,kn]
   rfl
  |new w=>
   unfold enc
   simp only [Jw,EVS,Wa,Wb,Wf,W6,Wg,Wh,Wc,Wd,W8,↓reduceIte,reduceCtorEq,W5,We,W7]
   rfl
 ·cases p with
  |keep b n=>cases hn
  |new w=>
   have h:=hp _ hq
   have hw:w.length≤Wk:=by rw [ZF];exact Wz h.2 (by decide)
   unfold enc
   simp only [UQ,EVS,Wa,Wb,Wf,W6,Wg,Wh,Wc,Wd,W8,↓reduceIte,reduceCtorEq,W5,We,W7,Qr hw]
   rw [ZF]
   rfl
theorem Tr {S:Sto}{n:Nat}{ds:List D}(h:S[n]? = some (.lst ds)):BB (some (.ref n,S))=some ((ds,.lst n),S):=by
 show BE (.ref n) S=_
 dsimp only [BE]
 rw [h]
theorem GL {old:Str}(ho:(cs old).length≤60){ps:List Pc}(hp:∀p∈ps,okP old p)(hl:ps.length≤5){a:Nat}(ha:a<ps.length){d:D}{S:Sto}(hb:Bad old S d)(t:D) :
  Z9 [.tup ((ps.map enc).take a++[d]++(ps.map enc).drop (a+1)),t,.str old] S=some (.bl false,S):=by
 refine JS ?_ ho (λx hx=>?_) ⟨d,?_,hb⟩ t
 ·rw [Wx,Wx,WW,Vn,Wp]
  show _+1+_≤100
  omega
 ·have key:x∈ps.map enc->Bad old S x\/∃p,okP old p/\x=enc p:=λh=>by
   obtain⟨p,h1,rfl⟩:=W0i.mp h
   exact .inr ⟨p,hp p h1,rfl⟩
  rcases V6.mp hx with h|h
  ·rcases V6.mp h with h|h
   ·exact key (List.mem_of_mem_take h)
   ·rw [VW.mp h];exact .inl hb
  ·exact key (List.mem_of_mem_drop h)
 ·simp
theorem G0 {old:Str}(ho:(cs old).length≤60){ps:List Pc}(hp:∀p∈ps,okP old p)(hl:ps.length≤5){d:D}{S:Sto}(hb:Bad old S d)(t:D) :
  Z9 [.tup (ps.map enc++[d]),t,.str old] S=some (.bl false,S):=by
 refine JS ?_ ho (λx hx=>?_) ⟨d,?_,hb⟩ t
 ·rw [Wx,Wp]
  show _+1≤100
  omega
 ·rcases V6.mp hx with h|h
  ·obtain⟨p,h1,rfl⟩:=W0i.mp h
   exact .inr ⟨p,hp p h1,rfl⟩
  ·rw [VW.mp h];exact .inl hb
 ·simp
theorem TL {old:Str}(ho:(cs old).length≤60){ps:List Pc}(hp:∀p∈ps,okP old p)(hl:ps.length≤5){a:Nat}(ha:a<ps.length){d:D}{S:Sto}(hb:Bad old S d){t:Str}(ht:t.length≤300)(x0 x1 x2 x6 x8 x9 x11 x12:Option D) :
  ∃y,QM [x0,x1,x2,some (.str old),some (.tup (ps.map enc)),some (.str t),x6,some (.int (a:Nat)),x8,x9,some d,x11,x12] S=some (.nx,[x0,x1,x2,some (.str old),some (.tup (ps.map enc)),some (.str t),x6,some (.int (a:Nat)),x8,x9,some d,some y,x12],S):=by
 have z:=GA
 have hm:(ps.map enc).length=ps.length:=Wp ..
 have g1:ZW (.tup ((ps.map enc).take a)) (.tup [d]) S=some (.tup ((ps.map enc).take a++[d]),S):=BN (by rw [WW];show _+1≤_;omega)
 have g2:ZW (.tup ((ps.map enc).take a++[d])) (.tup ((ps.map enc).drop (a+1))) S=some (.tup ((ps.map enc).take a++[d]++(ps.map enc).drop (a+1)),S):=BN (by rw [Wx,WW,Vn];show _+1+_≤_;omega)
 have l1:(W3 "a").length=1:=by decide +kernel
 have g3:ZW (.str t) (.str (W3 "a")) S=some (.str (t++W3 "a"),S):=J2 (by omega)
 have s1:slD (.tup (ps.map enc)) none (some (a:Int)) S=some (.tup ((ps.map enc).take a),S):=CN (by omega)
 have s2:slD (.tup (ps.map enc)) (some ((a:Int)+1)) none S=some (.tup ((ps.map enc).drop (a+1)),S):=CM (by omega)
 exact⟨.tup ((ps.map enc).take a++[d]++(ps.map enc).drop (a+1)),by simp only [QM,EVS,Wa,Wb,Wf,W6,Wg,Wh,Wc,Wd,W8,↓reduceIte,reduceCtorEq,W5,We,W7,s1,s2,g1,g2,g3,GL ho hp hl ha hb]⟩
section
variable {old:Str} {S:Sto}
theorem UU {ds:List D}(h3:ds.length≠3)(h2:ds.length≠2):Bad old S (.tup ds):=⟨JX h3 S,B1 h2 S⟩
theorem G9 {a b:Int}(ho:(cs old).length≤60)(h:a<0\/b<1\/((cs old).length:Int)<a+b):Bad old S (.tup [.str sK,.int a,.int b]):=by
 refine⟨?_,B1 (by simp) S⟩
 rw [F3 ho]
 have:(decide (0≤a)&&(decide (1≤b)&&decide (a+b≤(cs old).length)))=false:=by
  rcases h with h|h|h
  ·rw [decide_eq_false (by omega:¬0≤a)];rfl
  ·rw [decide_eq_false (by omega:¬1≤b),W0j,Bool.and_false]
  ·rw [decide_eq_false (by omega:¬a+b≤(cs old).length),Bool.and_false,Bool.and_false]
 rw [this]
theorem N9 {d:D}{T:String}(h:tyD d S=some T)(hT:Qs T "tuple" = false):Bad old S d:=⟨RP h hT,LH h hT⟩
theorem TH:Bad old S (.tup [.str sN,.str (W3 "")]):=⟨JX (by simp) S,by rw [LG,decide_eq_true rfl];rfl⟩
theorem NV {i:Int}:Bad old S (.tup [.str sN,.int i]):=⟨JX (by simp) S,Ej S⟩
theorem Na {d:D}:Bad old S (.tup [.str sK,d]):=⟨JX (by simp) S,Ei S⟩
theorem TF {a b:D}:Bad old S (.tup [.str sN,a,b]):=⟨F2 S,B1 (by simp) S⟩
theorem Nb {b:Bool}{d:D}:Bad old S (.tup [.str sK,.bl b,d]):=⟨RS S,B1 (by simp) S⟩
theorem Pq {b:Bool}{a:Int}:Bad old S (.tup [.str sK,.int a,.bl b]):=⟨RQ S,B1 (by simp) S⟩
end
end K21
namespace K21
open PySem L2 DL
theorem Az (l:List D):(l.map λ_=>false).any id=false:=by simp
theorem Ex {S:Sto}{xs:List D}{G:Sto}:(S++[Ob.lst xs]++G)[S.length]? = some (.lst xs):=by
 rw [VG,WI (Wu _),Nat.sub_self]
 rfl
theorem Pu {S:Sto}{n m:Nat}{xs ys:List D}(h1:S[n]? = some (.lst xs))(h2:S[m]? = some (.lst ys))(hz:xs.length+ys.length≤100):ZW (.ref n) (.ref m) S=some (.ref S.length,S++[.lst (xs++ys)]):=by
 dsimp only [ZW]
 rw [h1,h2]
 exact if_pos (Wz hz (by decide))
def Sh (ns:List Int)(en:En):Prop:=∃x1 x2 x3 x4 x5 x6 x7 x8 x9 x10 x11 x12,en=[some (.scr ns),x1,x2,x3,x4,x5,x6,x7,x8,x9,x10,x11,x12]
def CD (old:Str)(S:Sto)(n:Nat)(b:Nat):Prop:=∃ds:List D,S[n]? = some (.lst ds)/\ds.length≤b/\∀d∈ds,∃t x,d = .tup [t,x]/\∀S,Bad old S x
theorem turn (ns:List Int)(k:Nat){en:En}{S:Sto}(he:Sh ns en):∃en' S',Jx (en.set 1 (some (.int (k:Nat)))) S=some (.nx,en',S')/\Sh ns en':=by
 obtain⟨x1,x2,x3,x4,x5,x6,x7,x8,x9,x10,x11,x12,rfl⟩:=he
 obtain⟨c,hc⟩:=UT ns k
 obtain⟨c2,hc2⟩:=UT ns (k+1)
 have hc2':∀S,Y0 [.scr ns,.int ((k:Int)+1)] S=some (.int c2,S):=λS=>hc2 S
 obtain⟨c4,hc4⟩:=UT ns 4
 have hc4':∀S,Y0 [.scr ns,.int 4] S=some (.int c4,S):=λS=>hc4 S
 obtain⟨old,ho,hold⟩:=LF c
 obtain⟨ps,⟨hl1,hl5⟩,hp,hd⟩:=NS (c2+(k:Int)) ho S
 have z:=GA
 have lo:old.length≤Wk:=by rw [ZF];exact Wz ho (by decide)
 have hl:ps.length≤100:=by omega
 have ht:(txt old ps).length≤300:=Wz (Gq ho hp) (by omega)
 have l1:(W3 "a").length=1:=by decide +kernel
 have ga:∀S,ZW (.str (txt old ps)) (.str (W3 "a")) S=some (.str (txt old ps++W3 "a"),S):=λS=>J2 (by omega)
 have da:decide (txt old ps=txt old ps++W3 "a")=false:=decide_eq_false λe=>by
  have:=congrArg (λq=>(cs q).length) e
  have h2:(cs (txt old ps)).length=(cs (txt old ps++W3 "a")).length:=this
  rw [Uc,Wx,←ZF (W3 "a"),l1] at h2
  omega
 have dt:decide (txt old ps=txt old ps)=true:=decide_eq_true rfl
 have oz:∀S,Yd [.tup [],.str old] S=some (.str (W3 ""),S):=λS=>by
  have:=QC ho (ps:=[]) (λp h=>by cases h) (by decide) S
  rw [Uu] at this
  exact this
 have wz:∀S,Yw [.tup []] S=some (.int 0,S):=λS=>JA (old:=old) (ps:=[]) (λp h=>by cases h) (by decide) S
 have yz:∀S,Z9 [.tup [],.str (W3 ""),.str old] S=some (.bl true,S):=λS=>by
  have:=QV ho (ps:=[]) (λp h=>by cases h) (by decide) (W3 "") S
  rw [Uu,decide_eq_true rfl] at this
  exact this
 have op:=QC ho hp hl
 have wp:=JA hp hl
 have py:=QV ho hp hl
 have q1:∀S,ZK 12 [.str (txt old ps),.str (txt old ps)] S=some (.bl true,S):=λS=>T7 1 _ 10 S (by unfold SD;trivial)
 have q2:∀S,ZK 12 [.int (wts ps),.int (wts ps)] S=some (.bl true,S):=λS=>T7 1 _ 10 S (by unfold SD;trivial)
 have q3:∀S,ZK 12 [.tup [.str (W3 ""),.int 0],.tup [.str (W3 ""),.int 0]] S=some (.bl true,S):=λS=>T7 1 _ 10 S (by
  unfold SD
  refine⟨by decide,λd hd=>?_⟩
  simp only [Wy,WA,or_false] at hd
  rcases hd with rfl|rfl<;>(unfold SD;trivial))
 have hm:(ps.map enc).length=ps.length:=Wp ..
 have hL:(0:Int)<((ps.map enc).length:Int):=by omega
 have a0:=VE (c4*48271%9721) (b:=((ps.map enc).length:Int)) (by omega)
 have a1:=Vr (c4*48271%9721) (b:=((ps.map enc).length:Int)) (by omega)
 obtain⟨a,ea⟩:∃a:Nat,c4*48271%9721%((ps.map enc).length:Int)=(a:Int):=⟨_,(VM a0).symm⟩
 have ha:a<ps.length:=by omega
 obtain⟨pl,hpl⟩:∃pl,enc ps[a] = .tup pl:=by cases ps[a]<;>exact⟨_,rfl⟩
 have hix:∀S,gIx (.tup (ps.map enc)) (.int (a:Int)) S=some (.tup pl,S):=λS=>UN (by rw [WS,Wq ha,W7,hpl])
 unfold Jx
 refine Yf (en1:=[some (.scr ns),some (.int (k:Nat)),some (.int c),x3,x4,x5,x6,x7,x8,x9,x10,x11,x12]) (S1:=S) (by simp only [EVS,Wa,Wb,Wf,W6,Wg,Wh,Wc,Wd,W8,↓reduceIte,reduceCtorEq,W5,We,W7,hc]) ?_
 refine Yf (en1:=[some (.scr ns),some (.int (k:Nat)),some (.int c),some (.str old),x4,x5,x6,x7,x8,x9,x10,x11,x12]) (S1:=S) (by simp only [EVS,Wa,Wb,Wf,W6,Wg,Wh,Wc,Wd,W8,↓reduceIte,reduceCtorEq,W5,We,W7,hold]) ?_
 refine Yf (en1:=[some (.scr ns),some (.int (k:Nat)),some (.int c),some (.str old),some (.tup (ps.map enc)),some (.str (txt old ps)),x6,x7,x8,x9,x10,x11,x12]) (S1:=S) (by simp only [EVS,Wa,Wb,Wf,W6,Wg,Wh,Wc,Wd,W8,↓reduceIte,reduceCtorEq,W5,We,W7,hc2',hd,EA (show [D.tup (ps.map enc),.str (txt old ps)].length=2 from rfl)]) ?_
 refine Yf (en1:=[some (.scr ns),some (.int (k:Nat)),some (.int c),some (.str old),some (.tup (ps.map enc)),some (.str (txt old ps)),some (.int (wts ps)),x7,x8,x9,x10,x11,x12]) (S1:=S) (by simp only [EVS,Wa,Wb,Wf,W6,Wg,Wh,Wc,Wd,W8,↓reduceIte,reduceCtorEq,W5,We,W7,HG hl,HF hp hl,BT]) ?_
 refine Yf (en1:=[some (.scr ns),some (.int (k:Nat)),some (.int c),some (.str old),some (.tup (ps.map enc)),some (.str (txt old ps)),some (.int (wts ps)),x7,x8,x9,x10,x11,x12]) (S1:=S) (by simp only [EVS,Wa,Wb,Wf,W6,Wg,Wh,Wc,Wd,W8,↓reduceIte,reduceCtorEq,W5,We,W7,op,wp,q1,q2]) ?_
 refine Yf (en1:=[some (.scr ns),some (.int (k:Nat)),some (.int c),some (.str old),some (.tup (ps.map enc)),some (.str (txt old ps)),some (.int (wts ps)),x7,x8,x9,x10,x11,x12]) (S1:=S) (by simp only [EVS,Wa,Wb,Wf,W6,Wg,Wh,Wc,Wd,W8,↓reduceIte,reduceCtorEq,W5,We,W7,ga,py,dt,da]) ?_
 refine Yf (en1:=[some (.scr ns),some (.int (k:Nat)),some (.int c),some (.str old),some (.tup (ps.map enc)),some (.str (txt old ps)),some (.int (wts ps)),x7,x8,x9,x10,x11,x12]) (S1:=S) (by simp only [EVS,Wa,Wb,Wf,W6,Wg,Wh,Wc,Wd,W8,↓reduceIte,reduceCtorEq,W5,We,W7,oz,wz,yz,q3]) ?_
 refine Yf (en1:=[some (.scr ns),some (.int (k:Nat)),some (.int c),some (.str old),some (.tup (ps.map enc)),some (.str (txt old ps)),some (.int (wts ps)),some (.int (a:Nat)),x8,x9,x10,x11,x12]) (S1:=S) (by simp only [EVS,Wa,Wb,Wf,W6,Wg,Wh,Wc,Wd,W8,↓reduceIte,reduceCtorEq,W5,We,W7,hc4',QF,hL,ea]) ?_
 refine Yf (en1:=[some (.scr ns),some (.int (k:Nat)),some (.int c),some (.str old),some (.tup (ps.map enc)),some (.str (txt old ps)),some (.int (wts ps)),some (.int (a:Nat)),some (.int ((cs old).length:Nat)),x9,x10,x11,x12]) (S1:=S) (by simp only [EVS,Wa,Wb,Wf,W6,Wg,Wh,Wc,Wd,W8,↓reduceIte,reduceCtorEq,W5,We,W7,Qr lo,ZF]) ?_
 generalize hW1:[D.tup [.str (W3 "keep"),.int ((cs old).length:Nat),.int 1],.tup [.str (W3 "keep"),.int (-1),.int 1],.tup [.str (W3 "keep"),.int 0,.int 0],.tup [.str (W3 "keep"),.int 0,.int (((cs old).length:Nat)+1)],.tup [.str (W3 "keep"),.bl false,.bl true]]=W1
 refine Yf (en1:=[some (.scr ns),some (.int (k:Nat)),some (.int c),some (.str old),some (.tup (ps.map enc)),some (.str (txt old ps)),some (.int (wts ps)),some (.int (a:Nat)),some (.int ((cs old).length:Nat)),some (.ref S.length),x10,x11,x12]) (S1:=S++[.lst W1]) (by rw [←hW1];simp only [EVS,Wa,Wb,Wf,W6,Wg,Wh,Wc,Wd,W8,↓reduceIte,reduceCtorEq,W5,We,W7]) ?_
 generalize hW2:[D.tup [.str (W3 "new"),.str (W3 "")],.tup [.str (W3 "new"),.int (a:Nat)],.tup [.str (W3 "new"),.str (W3 "a"),.str (W3 "b")],.tup [.str (W3 "keep"),.int 0],.ref (S++[Ob.lst W1]).length,.tup [],.non]=W2
 have hs4:∃n4 S4 ds,(YK (mOp ZW (Z7 9) (Gg (Z1 (Y8 (Z1 (Z8 (D.str (W3 "new"))) (Z1 (Z8 (D.str (W3 ""))) Zp))) (Z1 (Y8 (Z1 (Z8 (D.str (W3 "new"))) (Z1 (Z7 7) Zp))) (Z1 (Y8 (Z1 (Z8 (D.str (W3 "new"))) (Z1 (Z8 (D.str (W3 "a"))) (Z1 (Z8 (D.str (W3 "b"))) Zp)))) (Z1 (Y8 (Z1 (Z8 (D.str (W3 "keep"))) (Z1 (Z8 (D.int (0))) Zp))) (Z1 (QR (mSq (mOp gIx (Z7 4) (Z7 7)))) (Z1 (Y8 Zp) (Z1 (Z8 D.non) Zp))))))))) (gN 9)) [some (.scr ns),some (.int (k:Nat)),some (.int c),some (.str old),some (.tup (ps.map enc)),some (.str (txt old ps)),some (.int (wts ps)),some (.int (a:Nat)),some (.int ((cs old).length:Nat)),some (.ref S.length),x10,x11,x12] (S++[.lst W1])
   = some (.nx,[some (.scr ns),some (.int (k:Nat)),some (.int c),some (.str old),some (.tup (ps.map enc)),some (.str (txt old ps)),some (.int (wts ps)),some (.int (a:Nat)),some (.int ((cs old).length:Nat)),some (.ref n4),x10,x11,x12],S4)/\S4[n4]? = some (.lst ds)/\∀d∈ds,Bad old S4 d:=by
  have h9:=Pu (S:=S++[Ob.lst W1]++[Ob.lst pl]++[Ob.lst W2]) (n:=S.length) (m:=(S++[Ob.lst W1]++[Ob.lst pl]).length) (xs:=W1) (ys:=W2) (by rw [VG (S++[Ob.lst W1])];exact Ex) (WF ..) (by rw [←hW1,←hW2];simp only [WP,List.length_nil];decide)
  have klW:∀S:Sto,Jz (some (W2,S))=some (.ref S.length,S++[.lst W2]):=λS=>YS (by rw [←hW2];simp only [WP,List.length_nil];decide)
  refine⟨(S++[Ob.lst W1]++[Ob.lst pl]++[Ob.lst W2]).length,S++[Ob.lst W1]++[Ob.lst pl]++[Ob.lst W2]++[Ob.lst (W1++W2)],W1++W2,?_,WF ..,?_⟩
  ·simp only [EVS,Wa,Wb,Wf,W6,Wg,Wh,Wc,Wd,W8,↓reduceIte,reduceCtorEq,W5,We,W7,hix,hW2,klW,h9]
  ·have hty:tyD (.ref (S++[Ob.lst W1]).length) (S++[Ob.lst W1]++[Ob.lst pl]++[Ob.lst W2]++[Ob.lst (W1++W2)])=some "list":=by
    dsimp only [tyD]
    rw [VG (S++[Ob.lst W1]++[Ob.lst pl]),Ex]
   generalize S++[Ob.lst W1]++[Ob.lst pl]++[Ob.lst W2]++[Ob.lst (W1++W2)]=S4 at hty ⊢
   intro d hd
   rw [←hW1,←hW2] at hd
   rw [V6] at hd
   simp only [Wy,WA,or_false] at hd
   rcases hd with (rfl|rfl|rfl|rfl|rfl)|(rfl|rfl|rfl|rfl|rfl|rfl|rfl)
   ·exact G9 ho (.inr (.inr (by omega)))
   ·exact G9 ho (.inl (by decide))
   ·exact G9 ho (.inr (.inl (by decide)))
   ·exact G9 ho (.inr (.inr (by omega)))
   ·exact Nb
   ·exact TH
   ·exact NV
   ·exact TF
   ·exact Na
   ·exact N9 hty (by decide)
   ·exact UU (by simp) (by simp)
   ·exact N9 (T:="NoneType") rfl (by decide)
 obtain⟨n4,S4,ds4,e4,g4,b4⟩:=hs4
 refine Yf e4 ?_
 clear e4 hW1 hW2
 have hfor:∃y10 y11,(M8 (Qj (Z7 9)) (gN 10) QM) [some (.scr ns),some (.int (k:Nat)),some (.int c),some (.str old),some (.tup (ps.map enc)),some (.str (txt old ps)),some (.int (wts ps)),some (.int (a:Nat)),some (.int ((cs old).length:Nat)),some (.ref n4),x10,x11,x12] S4
   = some (.nx,[some (.scr ns),some (.int (k:Nat)),some (.int c),some (.str old),some (.tup (ps.map enc)),some (.str (txt old ps)),some (.int (wts ps)),some (.int (a:Nat)),some (.int ((cs old).length:Nat)),some (.ref n4),y10,y11,x12],S4):=by
  obtain⟨en',S',e,⟨y10,y11,rfl⟩,rfl⟩:=QH (g:=gN 10) (ds0:=ds4) (gd:=.lst n4) (body:=QM) ds4 id (λ_ en S'=>(∃y10 y11,en=[some (.scr ns),some (.int (k:Nat)),some (.int c),some (.str old),some (.tup (ps.map enc)),some (.str (txt old ps)),some (.int (wts ps)),some (.int (a:Nat)),some (.int ((cs old).length:Nat)),some (.ref n4),y10,y11,x12])/\S'=S4)
   (λpre d post en S' hx hP=>by
    obtain⟨⟨y10,y11,rfl⟩,rfl⟩:=hP
    obtain⟨y,hy⟩:=TL ho hp hl5 ha (b4 d (by rw [hx];simp)) ht (some (.scr ns)) (some (.int (k:Nat))) (some (.int c)) (some (.int (wts ps))) (some (.int ((cs old).length:Nat))) (some (.ref n4)) y11 x12
    exact⟨_,rfl,_,_,hy,⟨_,_,rfl⟩,rfl⟩) (λ_ _ S' h=>by rw [h.2];exact g4) (S:=S4) (en:=[some (.scr ns),some (.int (k:Nat)),some (.int c),some (.str old),some (.tup (ps.map enc)),some (.str (txt old ps)),some (.int (wts ps)),some (.int (a:Nat)),some (.int ((cs old).length:Nat)),some (.ref n4),x10,x11,x12]) ⟨⟨x10,x11,rfl⟩,rfl⟩
  rw [List.map_id] at e
  exact⟨y10,y11,by simp only [EVS,Wa,Wb,Wf,W6,Wg,Wh,Wc,Wd,W8,↓reduceIte,reduceCtorEq,W5,We,W7,Tr g4,e]⟩
 obtain⟨y10,y11,e5⟩:=hfor
 refine Yf e5 ?_
 clear e5
 generalize hM1:[D.tup [.str (W3 "keep"),.int 0,.int 0],.tup [.str (W3 "new"),.str (W3 "")],.tup [],.tup [.str (W3 "new"),.str (W3 ""),.str (W3 "")],.non]=M1
 have ktM:∀S:Sto,Us (some (M1,S))=some (.tup M1,S):=λS=>Qa (by rw [←hM1];decide)
 have c1:ZN M1 .no [none,some (.str (txt old ps))] (gN 0) YR Js M1 [] S4=some (M1.map λd=>.tup [.str (txt old ps),d],S4):=by
  have:=Yc (ds0:=M1) (gd:=.no) (cap:=[none,some (.str (txt old ps))]) (g:=gN 0) (m:=Js) (S:=S4) M1 id (λd=>D.tup [.str (txt old ps),d]) ZU (by rw [←hM1];decide) λd hd=>⟨_,rfl,by simp only [Js,EVS,Wa,Wb,Wf,W6,Wg,Wh,Wc,Wd,W8,↓reduceIte,reduceCtorEq,W5,We,W7,id]⟩
  rw [List.map_id] at this
  exact this
 refine Yf (en1:=[some (.scr ns),some (.int (k:Nat)),some (.int c),some (.str old),some (.tup (ps.map enc)),some (.str (txt old ps)),some (.int (wts ps)),some (.int (a:Nat)),some (.int ((cs old).length:Nat)),some (.ref n4),y10,y11,some (.ref S4.length)]) (S1:=S4++[.lst (M1.map λd=>.tup [.str (txt old ps),d])]) (by simp only [EVS,Wa,Wb,Wf,W6,Wg,Wh,Wc,Wd,W8,↓reduceIte,reduceCtorEq,W5,We,W7,hM1,ktM,c1]) ?_
 have m5:CD old (S4++[.lst (M1.map λd=>.tup [.str (txt old ps),d])]) S4.length 5:=by
  refine⟨_,WF ..,by rw [←hM1,Wp];simp only [WP,List.length_nil];decide,λd hd=>?_⟩
  obtain⟨x,hx,rfl⟩:=W0i.mp hd
  refine⟨_,x,rfl,λS=>?_⟩
  rw [←hM1] at hx
  simp only [Wy,WA,or_false] at hx
  rcases hx with rfl|rfl|rfl|rfl|rfl
  ·exact G9 ho (.inr (.inl (by decide)))
  ·exact TH
  ·exact UU (by simp) (by simp)
  ·exact TF
  ·exact N9 (T:="NoneType") rfl (by decide)
 clear c1 ktM hM1
 generalize S4++[Ob.lst (M1.map λd=>.tup [.str (txt old ps),d])]=S5 at m5 ⊢
 generalize S4.length=n5 at m5 ⊢
 have hif:∃n6 S6,(QS (mT (mOp gGt (Z7 8) (Z8 (D.int (0))))) (Yn (YK (mOp ZW (Z7 12) (Gg (Z1 (Y8 (Z1 (mOp ZW (Z7 5) (mOp gIx (Z7 3) (Z8 (D.int (-1))))) (Z1 (Y8 (Z1 (Z8 (D.str (W3 "keep"))) (Z1 (mOp Kl (Z7 8) (Z8 (D.int (1)))) (Z1 (Z8 (D.int (2))) Zp)))) Zp))) (Z1 (Y8 (Z1 (mOp ZW (Z7 5) (mOp gIx (Z7 3) (Z8 (D.int (-1))))) (Z1 (Y8 (Z1 (Z8 (D.str (W3 "keep"))) (Z1 (mOp Kl (Z7 8) (Z8 (D.int (1)))) (Z1 (Z8 (D.bl true)) Zp)))) Zp))) Zp)))) (gN 12)) (YK (mOp ZW (Z7 12) (Gg (Z1 (Y8 (Z1 (mOp ZW (Z7 5) (mOp gIx (Z7 3) (Z8 (D.int (0))))) (Z1 (Y8 (Z1 (Z8 (D.str (W3 "keep"))) (Z1 (Z8 (D.bl false)) (Z1 (Z8 (D.int (1))) Zp)))) Zp))) (Z1 (Y8 (Z1 (mOp ZW (Z7 5) (mOp gIx (Z7 3) (Z8 (D.int (0))))) (Z1 (Y8 (Z1 (Z8 (D.str (W3 "keep"))) (Z1 (Z8 (D.int (0))) (Z1 (Z8 (D.int (1))) (Z1 (Z8 (D.int (0))) Zp))))) Zp))) Zp)))) (gN 12))) mNx)
    [some (.scr ns),some (.int (k:Nat)),some (.int c),some (.str old),some (.tup (ps.map enc)),some (.str (txt old ps)),some (.int (wts ps)),some (.int (a:Nat)),some (.int ((cs old).length:Nat)),some (.ref n4),y10,y11,some (.ref n5)] S5
   = some (.nx,[some (.scr ns),some (.int (k:Nat)),some (.int c),some (.str old),some (.tup (ps.map enc)),some (.str (txt old ps)),some (.int (wts ps)),some (.int (a:Nat)),some (.int ((cs old).length:Nat)),some (.ref n4),y10,y11,some (.ref n6)],S6)/\CD old S6 n6 9:=by
  by_cases h0:0<(cs old).length
  ·have h0':(0:Int)<((cs old).length:Int):=by omega
   have hat:∀i:Int,(i = -1\/i=0)->∃ch,∀S,gIx (.str old) (.int i) S=some (.str ⟨#[ch]⟩,S):=λi hi=>by
    have:∃ch,atI (cs old) i=some ch:=by
     unfold atI
     rcases hi with rfl|rfl
     ·refine⟨(cs old)[(cs old).length-1],?_⟩
      have:ixN (cs old).length (-1)=some ((cs old).length-1):=by
       unfold ixN
       rw [if_neg (by decide),if_pos (by omega)]
       congr 1
       omega
      rw [this,V4,Wq]
     ·refine⟨(cs old)[0],?_⟩
      have:ixN (cs old).length 0=some 0:=by
       unfold ixN
       rw [if_pos (by decide),if_pos (by omega)]
       rfl
      rw [this,V4,Wq]
    obtain⟨ch,hch⟩:=this
    refine⟨ch,λS=>?_⟩
    show (if old.length≤Wk then (atI (cs old) i).map λc=>(D.str ⟨#[c]⟩,S) else none)=_
    rw [if_pos lo,hch];rfl
   obtain⟨ch1,i1⟩:=hat (-1) (.inl rfl)
   obtain⟨ch0,i0⟩:=hat 0 (.inr rfl)
   have t1:∀S,ZW (.str (txt old ps)) (.str ⟨#[ch1]⟩) S=some (.str (txt old ps++⟨#[ch1]⟩),S):=λS=>J2 (show _+1≤_ by omega)
   have t0:∀S,ZW (.str (txt old ps)) (.str ⟨#[ch0]⟩) S=some (.str (txt old ps++⟨#[ch0]⟩),S):=λS=>J2 (show _+1≤_ by omega)
   obtain⟨ds5,v1,v2,v3⟩:=m5
   generalize hN1:[D.tup [.str (txt old ps++⟨#[ch1]⟩),.tup [.str (W3 "keep"),.int (((cs old).length:Nat)-1),.int 2]],.tup [.str (txt old ps++⟨#[ch1]⟩),.tup [.str (W3 "keep"),.int (((cs old).length:Nat)-1),.bl true]]]=N1
   generalize hN2:[D.tup [.str (txt old ps++⟨#[ch0]⟩),.tup [.str (W3 "keep"),.bl false,.int 1]],.tup [.str (txt old ps++⟨#[ch0]⟩),.tup [.str (W3 "keep"),.int 0,.int 1,.int 0]]]=N2
   have n1l:N1.length=2:=by rw [←hN1];rfl
   have n2l:N2.length=2:=by rw [←hN2];rfl
   have kl1:∀S:Sto,Jz (some (N1,S))=some (.ref S.length,S++[.lst N1]):=λS=>YS (by rw [n1l];decide)
   have kl2:∀S:Sto,Jz (some (N2,S))=some (.ref S.length,S++[.lst N2]):=λS=>YS (by rw [n2l];decide)
   have v1':(S5++[Ob.lst N1])[n5]? = some (.lst ds5):=by rw [WE (Wn.mp v1).1];exact v1
   have w1:=Pu v1' (m:=S5.length) (ys:=N1) (WF ..) (by omega)
   have w2:=Pu (S:=S5++[Ob.lst N1]++[Ob.lst (ds5++N1)]++[Ob.lst N2]) (n:=(S5++[Ob.lst N1]).length) (m:=(S5++[Ob.lst N1]++[Ob.lst (ds5++N1)]).length) (xs:=ds5++N1) (ys:=N2) Ex (WF ..) (by rw [Wx];omega)
   refine⟨(S5++[Ob.lst N1]++[Ob.lst (ds5++N1)]++[Ob.lst N2]).length,S5++[Ob.lst N1]++[Ob.lst (ds5++N1)]++[Ob.lst N2]++[Ob.lst (ds5++N1++N2)],by simp only [EVS,Wa,Wb,Wf,W6,Wg,Wh,Wc,Wd,W8,↓reduceIte,reduceCtorEq,W5,We,W7,h0',i1,i0,t1,t0,hN1,hN2,kl1,kl2,w1,w2],ds5++N1++N2,WF ..,by rw [Wx,Wx];omega,?_⟩
   intro d hd
   rcases V6.mp hd with h|h
   ·rcases V6.mp h with h|h
    ·exact v3 d h
    ·rw [←hN1] at h
     simp only [Wy,WA,or_false] at h
     rcases h with rfl|rfl
     ·exact⟨_,_,rfl,λS=>G9 ho (.inr (.inr (by omega)))⟩
     ·exact⟨_,_,rfl,λS=>Pq⟩
   ·rw [←hN2] at h
    simp only [Wy,WA,or_false] at h
    rcases h with rfl|rfl
    ·exact⟨_,_,rfl,λS=>Nb⟩
    ·exact⟨_,_,rfl,λS=>UU (by simp) (by simp)⟩
  ·have h0':¬(0:Int)<((cs old).length:Int):=by omega
   refine⟨n5,S5,by simp only [EVS,Wa,Wb,Wf,W6,Wg,Wh,Wc,Wd,W8,↓reduceIte,reduceCtorEq,W5,We,W7,h0'],?_⟩
   obtain⟨ds5,v1,v2,v3⟩:=m5
   exact⟨ds5,v1,by omega,v3⟩
 obtain⟨n6,S6,e6,ds6,u1,u2,u3⟩:=hif
 refine Yf e6 ?_
 clear e6
 have cA:ZN ds6 (.lst n6) [none,none,some (.str old),some (.tup (ps.map enc))] (gT 2 (Yy (gN 0) (Yy (gN 1) UM))) YR Jr ds6 [] S6=some (ds6.map λ_=>.bl false,S6):=by
  have:=Yc (ds0:=ds6) (gd:=.lst n6) (cap:=[none,none,some (.str old),some (.tup (ps.map enc))]) (g:=gT 2 (Yy (gN 0) (Yy (gN 1) UM))) (m:=Jr) (S:=S6) ds6 id (λ_=>D.bl false) u1 (Wz u2 (by decide)) λd hd=>by
   obtain⟨t,x,rfl,hb⟩:=u3 d hd
   have gx:ZW (.tup (ps.map enc)) (.tup [x]) S6=some (.tup (ps.map enc++[x]),S6):=BN (show _+1≤_ by omega)
   exact⟨_,rfl,by simp only [Jr,EVS,Wa,Wb,Wf,W6,Wg,Wh,Wc,Wd,W8,↓reduceIte,reduceCtorEq,W5,We,W7,gx,G0 ho hp hl5 (hb S6)]⟩
  rw [List.map_id] at this
  exact this
 have eA:ds6.map (λ_=>D.bl false)=(ds6.map λ_=>false).map D.bl:=by rw [Vx];rfl
 refine Yf (en1:=[some (.scr ns),some (.int (k:Nat)),some (.int c),some (.str old),some (.tup (ps.map enc)),some (.str (txt old ps)),some (.int (wts ps)),some (.int (a:Nat)),some (.int ((cs old).length:Nat)),some (.ref n4),y10,y11,some (.ref n6)]) (S1:=S6) (by simp only [EVS,Wa,Wb,Wf,W6,Wg,Wh,Wc,Wd,W8,↓reduceIte,reduceCtorEq,W5,We,W7,Tr u1,cA];rw [eA,Eo,Az];simp only [EVS,Wa,Wb,Wf,W6,Wg,Wh,Wc,Wd,W8,↓reduceIte,reduceCtorEq,W5,We,W7]) ?_
 have l1:Z9 [.ref S6.length,.str (txt old ps),.str old] (S6++[Ob.lst (ps.map enc)])=some (.bl false,S6++[Ob.lst (ps.map enc)]):=JR (T:="list") (by dsimp only [tyD];rw [WF]) (by decide)
 have l2:∀S,Z9 [.str (txt old ps),.str (txt old ps),.str old] S=some (.bl false,S):=λS=>JR (T:="str") rfl (by decide)
 refine⟨[some (.scr ns),some (.int (k:Nat)),some (.int c),some (.str old),some (.tup (ps.map enc)),some (.str (txt old ps)),some (.int (wts ps)),some (.int (a:Nat)),some (.int ((cs old).length:Nat)),some (.ref n4),y10,y11,some (.ref n6)],S6++[Ob.lst (ps.map enc)],by simp only [EVS,Wa,Wb,Wf,W6,Wg,Wh,Wc,Wd,W8,↓reduceIte,reduceCtorEq,W5,We,W7,l1,l2],?_⟩
 exact⟨_,_,_,_,_,_,_,_,_,_,_,_,rfl⟩
theorem law_true (ns:List Int)(_:ns.length≤63):∃S',F_law [.scr ns] []=some (.bl true,S'):=by
 unfold F_law
 have h0:Sh ns [some (.scr ns),none,none,none,none,none,none,none,none,none,none,none,none]:=⟨_,_,_,_,_,_,_,_,_,_,_,_,rfl⟩
 obtain⟨en',S',e,_⟩:=QH (g:=gN 1) (ds0:=T8 0 3) (gd:=.no) (body:=Jx) (WY 3) (λk=>D.int (k:Nat)) (λ_ en _=>Sh ns en)
  (λ_ k _ en S _ hP=>⟨_,rfl,turn ns k hP⟩) (λ_ _ _ _=>trivial) (S:=[]) h0
 rw [←Jj] at e
 have h3:Int.toNat 3=3:=rfl
 simp only [EVS,Wa,Wb,Wf,W6,Wg,Wh,Wc,Wd,W8,↓reduceIte,reduceCtorEq,W5,We,W7,NI (show -(2 ^ 62)≤(3:Int)/\(3:Int)<2 ^ 62 by decide),h3,e]
 exact⟨_,rfl⟩
end K21
open PySem PySem.W PyProof.Rows
set_option maxRecDepth 100000 in
set_option maxHeartbeats 0 in
theorem PySem.Challenge.cw_twinshelves_k21_parcels_opened_holds : PySem.Challenge.rw_twinshelves_k21_parcels_opened.Holds := by
 w_on;o_law;k_head;(case hw=>w_witness2)
 k_fill
 refine DL.walk_d (l:=PySem.Challenge.rw_twinshelves_k21_parcels_opened) (F:=K21.F_law) (k:=14) (x:="_law_script") rfl rfl ⟨rfl,by decide,by decide⟩ (λw h Y=>PySem.W.kIn_of Y) ?F K21.law_true
 case F=>
  intro w mg fa h KX G hmg
  refine' K21.all_mk KX G hmg ?a0 ?l0 ?c0 ?k0 ?a1 ?l1 ?c1 ?k1 ?a2 ?l2 ?c2 ?k2 ?a3 ?l3 ?c3 ?k3 ?a4 ?l4 ?c4 ?k4 ?a5 ?l5 ?c5 ?k5 ?a6 ?l6 ?c6 ?k6 ?a7 ?l7 ?c7 ?k7 ?a8 ?l8 ?c8 ?k8 ?a9 ?l9 ?c9 ?k9 ?a10 ?l10 ?c10 ?k10 ?a11 ?l11 ?c11 ?k11 ?a12 ?l12 ?c12 ?k12 ?a13 ?l13 ?c13 ?k13 ?a14 ?l14 ?c14 ?k14 ?z_all ?z_any ?z_bool ?z_int ?z_isinstance ?z_len ?z_list ?z_min ?z_range ?z_str ?z_sum ?z_tuple ?z_zip ?y_PIECE_WEIGHT
  (case a0=>k_is)
  (case l0=>k_is)
  (case c0=>k_is)
  (case k0=>k_is)
  (case a1=>k_is)
  (case l1=>k_is)
  (case c1=>k_is)
  (case k1=>k_is)
  (case a2=>k_is)
  (case l2=>k_is)
  (case c2=>k_is)
  (case k2=>k_is)
  (case a3=>k_is)
  (case l3=>k_is)
  (case c3=>k_is)
  (case k3=>k_is)
  (case a4=>k_is)
  (case l4=>k_is)
  (case c4=>k_is)
  (case k4=>k_is)
  (case a5=>k_is)
  (case l5=>k_is)
  (case c5=>k_is)
  (case k5=>k_is)
  (case a6=>k_is)
  (case l6=>k_is)
  (case c6=>k_is)
  (case k6=>k_is)
  (case a7=>k_is)
  (case l7=>k_is)
  (case c7=>k_is)
  (case k7=>k_is)
  (case a8=>k_is)
  (case l8=>k_is)
  (case c8=>k_is)
  (case k8=>k_is)
  (case a9=>k_is)
  (case l9=>k_is)
  (case c9=>k_is)
  (case k9=>k_is)
  (case a10=>k_is)
  (case l10=>k_is)
  (case c10=>k_is)
  (case k10=>k_is)
  (case a11=>k_is)
  (case l11=>k_is)
  (case c11=>k_is)
  (case k11=>k_is)
  (case a12=>k_is)
  (case l12=>k_is)
  (case c12=>k_is)
  (case k12=>k_is)
  (case a13=>k_is)
  (case l13=>k_is)
  (case c13=>k_is)
  (case k13=>k_is)
  (case a14=>k_is)
  (case l14=>k_is)
  (case c14=>k_is)
  (case k14=>k_is)
  (case z_all=>k_is)
  (case z_any=>k_is)
  (case z_bool=>k_is)
  (case z_int=>k_is)
  (case z_isinstance=>k_is)
  (case z_len=>k_is)
  (case z_list=>k_is)
  (case z_min=>k_is)
  (case z_range=>k_is)
  (case z_str=>k_is)
  (case z_sum=>k_is)
  (case z_tuple=>k_is)
  (case z_zip=>k_is)
  (case y_PIECE_WEIGHT=>k_is)
