import PyProof.Rows.All
import Wide.All
import OpenK.AllK
import Wide.FinOn
import Lean
import PyProof.EqAt
import PyProof.EqKinds
import PyProof.TupleCall
import KE.KRevIter
import KE.KRevSl
import PyProof.SumWalkG
import PySem.Challenge.RW_twinshelves_k23_best_old
open Array renaming length_toList → VF, getElem?_toList → W0B
open Bool renaming and_eq_true → WA, false_ne_true → WC, eq_iff_iff → W0P
open Int renaming reduceToNat → W6, reduceNeg → Wa, reducePow → Wb, reduceLT → Wi, reduceLE → Wj, emod_nonneg → Vu, emod_lt_of_pos → Vv, toNat_of_nonneg → VJ, toNat_natCast → W06, le_refl → W0y
open List renaming map_cons → W1, map_nil → Wd, size_toArray → Wf, length_map → Wg, getElem?_eq_some_iff → Wl, length_append → Wo, range → Wr, getElem?_eq_getElem → Wu, getElem?_concat_length → Ww, mem_cons → WD, mem_append_right → WE, getElem?_append_left → WF, not_mem_nil → WI, length_take → WL, all_eq_true → WM, getElem?_append_right → WP, mem_cons_self → WR, mem_cons_of_mem → WS, getElem?_map → WU, append_assoc → WX, zip_cons_cons → WY, length_cons → V2, length_range → V3, getD → V8, map_append → Va, length → Vb, getElem?_take_of_lt → Vd, getElem?_set_ne → Vi, getElem?_set_self → Vj, lookup_cons → Vp, append_nil → Vt, mem_of_getElem? → Vw, take_of_length_le → Vx, map_map → VA, mem_map → VB, getElem?_replicate → VC, all_cons → VD, find?_cons → VG, length_zip → VH, length_reverse → VI, length_replicate → VQ, replicate → VS, filterMap_cons → VV, length_eq_zero_iff → VW, length_drop → VZ, getElem_mem → W01, mem_append → W03, any_cons → W07, mem_append_left → W0b, eraseIdx_cons_succ → W0o, reverse_cons → W0x, length_singleton → W0A, mem_iff_getElem → W0E, mem_filter → W0J, nodup_cons → W0K, forIn_cons → W0L, map_congr_left → W0T, drop_zero → W12, idxOf_lt_length_iff → W1b
open Nat renaming reduceLeDiff → W4, reduceAdd → W8, reduceSub → W9, reduceLT → Wh, le_refl → Wp, le_trans → Wx, lt_of_lt_of_le → WB, ne_of_lt → WJ, lt_irrefl → Vg, le_of_not_lt → W00, lt_succ_of_lt → W08, lt_succ_self → W0d, ne_of_gt → W0z, sub_self → W0C
open Option renaming bind_eq_some_iff → W0, map_some → W5, map_eq_some_iff → We, bind_some → WG, isSome_iff_exists → W17
open Option.some renaming inj → WQ
open PyProof.Rows renaming slot_tuple_getitem → WK, callWith_type1 → V0
open PySem renaming wpAny_bind → W2, sizeLine → Wc, wpAny_pure → Wk, starEach → Wn, mainGlobals → Wy, bootBuiltins → Wz, wpAny_newObj_type → V7, wpAny_callSpecial?_slot → V9, wpAny_field → Ve, wpAny_seqItems → Vs, mem_of_lookup → Vy, wpAny_mono → VE, wpAny_call_entry → VN, wpAny_holding → VO, wpAny_Call_Name_kw → VP, wpAny_setField_rec → VR, wpAny_getItem_str_slice → VY, wpAny_pyIter_tuple → W02, wpAny_pyIter_list → W09, wpAny_letGo → W0e, wpAny_passesOwn → W0h, codeAny_builtin → W0k, wpAny_callSpecial?_none → W0l, wpAny_pyIter_rangeiter → W0p, wpAny_truthy_bool → W0s, sizeLine_eq → W0t, wpAny_of_eq → W0u, wpAny_updateSeq_pair → W0D, plainId_quiet → W0H, wpAny_specialOf → W0M, wpAny_loadPart' → W0Q, post_val_or_str → W0R, tupleKind_room_in1 → W0Z, wpAny_tryCatch → W11, wpAny_sequenceKey → W18, wpAny_rule → W19
open PySem.Around renaming under_plainId → VT
open PySem.AutoSeq1 renaming sub_tuple_tuple → W1a
open PySem.Builtin.Builtins renaming bindParams → W0U
open PySem.Builtin.Range renaming rangeFitsLong → Wq, rangeSize → Vh
open PySem.Builtin.Slice renaming slicePlaces → V5, sliceAdjust → Vn, sliceApplied → VL, sliceFields → W10
open PySem.Builtin.SmallTypes renaming nextOf → Vo, ownedTupleIsFree → Vq, ownedTupleHandOut → W0c
open PySem.Builtin.Str renaming strSliceIndices → Vf, occurrences → VX
open PySem.Builtin.Tuple renaming tupleExact → V6, tupleItemsOf → W0a, tupleCompareSizes → W0v
open PySem.Calls renaming Name_function_global → W0V, spliced_cons → W0X, spliced_nil → W16
open PySem.F renaming plain_min_loop → Vl, slot_tuple_iterator_next → VM, slot_range_reversed → W05, args_tuple_add_2 → W0f, entry_tuple_add → W0i, slot_dict_len → W0j, plainAttrs_list → W0m, slot_tuple_add → W0q, entry_min_loop → W0r, args_tuple_iterator_next_1 → W0F, entry_tuple_iterator_next → W0N, slot_zip_next → W0O, plain_reversed_new → W0W
open PySem.Heap renaming get?_push_of_some → W7, lt_size → Ws, get?_push_size → Wv, get?_update_other → Vk, size_push → Vr, SameBut → VU, get?_update_self → W04
open PySem.Heap.IsSliceOf renaming new → W0Y
open PySem.Heap.IsTuple renaming extBut → W0S
open PySem.Obj renaming mapSeq → W0I
open PySem.Paired renaming length → W0g
open PySem.PassesOwn renaming never → W0n
open PySem.SeqAt renaming RcNeAt → WN, EqAt → WO, RcAt → V1
open PySem.Str renaming ofString → Wm
open PySem.StrLaws renaming sliceText → W0w
open PySem.Txt renaming slice → Vc, join → W0G
open PySem.W renaming Frag → W3, nsIn → WH, keepIn → WT, codeIn → WV, fnOf → WW, mg_none_of → WZ, mg_of → V4, kia_one → Vm, kitOne → Vz, methodObj → W13, kitx_list → W14, kitx_dict → W15
noncomputable section
theorem Ua {a b:Prop}(x:a)(y:b):a∧b:=⟨x,y⟩
set_option Elab.async false
set_option linter.all false
set_option maxRecDepth 100000
namespace L2
open PySem PySem.Spec PyProof.Rows
abbrev Key:=Sum Int Str
def Tg:Key->Value->Bool
 | .inl k,v=>Value.isInt k v
 | .inr x,v=>Value.isStrOf x v
def IV (w:World):Key->Int
 | .inl k=>hashInt k
 | .inr x=>hashStr w x
theorem Zq:∀{k:Key} {v:Value},Tg k v=true->(∃i t,k=Sum.inl i/\v=Value.int i t)\/(∃x t,k=Sum.inr x/\v=Value.str x t)
 | .inl i,v,h=>by
  obtain⟨t,e⟩:=Value.isInt_shape (k:=i) (v:=v) h
  exact .inl ⟨i,t,rfl,e⟩
 | .inr x,v,h=>by
  obtain⟨t,e⟩:=Value.isStrOf_shape (x:=x) (v:=v) h
  exact .inr ⟨x,t,rfl,e⟩
theorem Nj (i:Int)(t:Tok):Tg (.inl i) (.int i t)=true:=by simp [Tg,Value.isInt]
theorem Ni (x:Str)(t:Tok):Tg (.inr x) (.str x t)=true:=by simp [Tg,Value.isStrOf]
theorem Az (a b:Int):decide ((Sum.inl a:Key)=Sum.inl b)=(a == b):=by
 by_cases e:a=b
 ·subst e;simp
 ·have h:¬(Sum.inl a:Key)=Sum.inl b:=λq=>e (Sum.inl.inj q)
  rw [decide_eq_false h]
  exact (beq_eq_false_iff_ne.mpr e).symm
theorem Aw (a b:Str):decide ((Sum.inr a:Key)=Sum.inr b)=decide (a=b):=by
 by_cases e:a=b
 ·subst e;simp
 ·have h:¬(Sum.inr a:Key)=Sum.inr b:=λq=>e (Sum.inr.inj q)
  rw [decide_eq_false h,decide_eq_false e]
theorem Ay (a:Int)(b:Str):decide ((Sum.inl a:Key)=Sum.inr b)=false:=decide_eq_false (λq=>nomatch q)
theorem Ax (a:Str)(b:Int):decide ((Sum.inr a:Key)=Sum.inl b)=false:=decide_eq_false (λq=>nomatch q)
def ZL (prog:Program)(w:World):PySem.KeyKind prog w Key where
 is:=Tg
 hash:=IV w
 inj:=λv a b ha hb=>by
  rcases Zq ha with ⟨i,t,rfl,rfl⟩|⟨x,t,rfl,rfl⟩
  ·rcases Zq hb with ⟨j,u,rfl,e⟩|⟨y,u,rfl,e⟩
   ·injection e with e1 _;rw [e1]
   ·exact nomatch e
  ·rcases Zq hb with ⟨j,u,rfl,e⟩|⟨y,u,rfl,e⟩
   ·exact nomatch e
   ·injection e with e1 _;rw [e1]
 byValue:=λk v h=>by
  rcases Zq h with ⟨i,t,rfl,rfl⟩|⟨x,t,rfl,rfl⟩<;>rfl
 pyHash:=λhv h=>by
  rcases Zq hv with ⟨i,t,rfl,rfl⟩|⟨x,t,rfl,rfl⟩
  ·exact wpAny_pyHash_int h
  ·exact wpAny_pyHash_str h
 eqBool:=λhu hv h=>by
  rcases Zq hu with ⟨i,t,rfl,rfl⟩|⟨x,t,rfl,rfl⟩
  ·rcases Zq hv with ⟨j,u,rfl,rfl⟩|⟨y,u,rfl,rfl⟩
   ·rw [Az] at h;exact wpAny_eqBool_int h
   ·rw [Ay] at h;exact WO.int_str i t y u _ _ _ _ h
  ·rcases Zq hv with ⟨j,u,rfl,rfl⟩|⟨y,u,rfl,rfl⟩
   ·rw [Ax] at h;exact WO.str_int x t j u _ _ _ _ h
   ·rw [Aw] at h;exact wpAny_eqBool_str h
 «strs»:=λk x t v h=>by
  rcases Zq h with ⟨i,u,rfl,e⟩|⟨y,u,rfl,e⟩
  ·exact nomatch e
  ·injection e with e1 _
   subst e1
   cases v<;>rfl
theorem T9 (prog:Program)(w:World)(i:Int)(t:Tok):(ZL prog w).is (.inl i) (.int i t)=true:=Nj i t
theorem T8 (prog:Program)(w:World)(x:Str)(t:Tok):(ZL prog w).is (.inr x) (.str x t)=true:=Ni x t
end L2
namespace L2
open PySem PySem.Spec PyProof.Rows
inductive V where
 |non|bl (b:Bool)|int (i:Int)|str (x:Str)|byt (b:Array UInt8)|flt (b:UInt64)|ref (a:Addr)|ty (n:String)
 deriving DecidableEq
def Zz:V->Value->Prop
 | .non,u=>u=Value.none
 | .bl b,u=>u=Value.bool b
 | .int i,u=>∃t,u=Value.int i t
 | .str x,u=>∃t,u=Value.str x t
 | .byt b,u=>∃t,u=Value.bytes b t
 | .flt b,u=>∃t,u=Value.float b t
 | .ref a,u=>u=Value.ref a
 | .ty n,u=>u=Value.type n
abbrev Zy:List V->List Value->Prop:=Paired Zz
theorem Zy.length {xs:List V}{us:List Value}(r:Zy xs us):xs.length=us.length:=W0g r
theorem Zy.get:∀{xs:List V} {us:List Value} {i:Nat} {x:V},Zy xs us->xs[i]? = some x->∃u,us[i]? = some u/\Zz x u
 |_,_,_,_,.nil,e=>by simp at e
 |_,_,0,_,.cons r _,e=>by simp at e;subst e;exact⟨_,rfl,r⟩
 |_,_,i+1,x,.cons _ t,e=>by
  obtain⟨u,h1,h2⟩:=Zy.get (i:=i) (x:=x) t (by simpa using e)
  exact⟨u,by simpa using h1,h2⟩
theorem Zy.set {x:V}{u:Value}(r:Zz x u):∀{xs:List V} {us:List Value} (i:Nat),Zy xs us->Zy (xs.set i x) (us.set i u)
 |_,_,_,.nil=>.nil
 |_,_,0,.cons _ t=>.cons r t
 |_,_,i+1,.cons q t=>.cons q (Zy.set r i t)
theorem Zy.append:∀{xs ys:List V} {us ws:List Value},Zy xs us->Zy ys ws->Zy (xs++ys) (us++ws)
 |_,_,_,_,.nil,s=>s
 |_,_,_,_,.cons r t,s=>.cons r (Zy.append t s)
theorem Zy.take:∀{xs:List V} {us:List Value} (n:Nat),Zy xs us->Zy (xs.take n) (us.take n)
 |_,_,0,_=>.nil
 |_,_,_+1,.nil=>.nil
 |_,_,n+1,.cons r t=>.cons r (Zy.take n t)
theorem Zy.drop:∀{xs:List V} {us:List Value} (n:Nat),Zy xs us->Zy (xs.drop n) (us.drop n)
 |_,_,0,r=>r
 |_,_,_+1,.nil=>.nil
 |_,_,n+1,.cons _ t=>Zy.drop n t
def Mk:Option V->Option Value->Prop
 |some v,some u=>Zz v u
 |none,none=>True
 |_,_=>False
def KV {κ:Type}:List (κ×V)->List (κ×Value)->Prop:=Paired λ(p:κ×V) (q:κ×Value)=>p.1=q.1/\Zz p.2 q.2
def kV:Key->V
 | .inl i=>.int i
 | .inr x=>.str x
inductive HO where
 /-- a list -/
 |lst (xs:List V)
 /-- a tuple (never changes) -/
 |tup (xs:List V)
 /-- a dict whose keys are ints and texts;one whose keys are tuples of ints and texts (the empty one is both) -/
 |dK (kvs:List (Key×V))|dT (kvs:List (List Key×V))
 /-- a set of ints: its members,its size -/
 |set (S:Int->Bool) (n:Nat)
 /-- an instance of the class at C,its dict at dx,its attributes -/
 |ins (C dx:Addr) (fs:List (Str×V))
 /-- the dict of the instance at x -/
 |own (x:Addr)
 /-- the dict of an exception -/
 |xd (fs:List (Str×V))
 /-- a bound method,f of x -/
 |met (f x:Addr)
 /-- a range object lo,lo+1,.. below hi -/
 |rng (lo hi:Int)
 /-- a thing that is known to the object (the script;a dict while a loop walks it): read,never written while it is so -/
 |frz (o:Obj) (u:HO)
 /-- a code object's table -/
 |tbl (ps:Array Value)
 /-- any other thing,by what is true of its one object (a def of one's own: SetO a S n:=HO.ext λh=>..) -/
 |ext (φ:Heap->Prop)
abbrev Hp:=Addr->Option HO
def upd (H:Hp)(a:Addr)(o:HO):Hp:=λb=>if b=a then some o else H b
theorem Z5 {H:Hp}{a:Addr}{o:HO}:upd H a o a=some o:=by unfold upd;rw [if_pos rfl]
theorem Za {H:Hp}{a b:Addr}{o:HO}(h:b≠a):upd H a o b=H b:=by unfold upd;rw [if_neg h]
theorem Qo {H:Hp}{a:Addr}{o u:HO}:upd (upd H a o) a u=upd H a u:=by
 funext b;unfold upd;split<;>rfl
theorem QN {H:Hp}{a b:Addr}{o u:HO}(h:H a=some o)(h':H b=some u)(d:o≠u):a≠b:=by
 intro e;subst e;rw [h] at h';exact d (WQ h')
theorem Zg {H:Hp}{a b:Addr}{o:HO}(h:H a=some o)(h':H b=none):a≠b:=by
 intro e;subst e;rw [h] at h';cases h'
def Pr (h:Heap)(a:Addr)(items:Array Value):Prop:=IsTup h a items/\∃o,h.get? a=some o/\o.dict=none
theorem Pr.new (h:Heap)(items:Array Value):Pr (h.push { cls:=.type "tuple",data:=.seq items }) h.objs.size items:=⟨IsTup.new h items,_,Wv _ rfl,rfl⟩
section
variable (P:Program) (w:World)
def ZB (H:Hp)(h:Heap)(a:Addr):HO->Prop
 | .lst xs=>xs.length≤Wc/\∃(its:List Value) (n:Nat),Zy xs its/\h.get? a=some { cls:=.type "list",data:=.seq its.toArray n }
 | .tup xs=>xs.length≤Wc/\∃its:List Value,Zy xs its/\Pr h a its.toArray
 | .dK kvs=>kvs.length≤Wc/\(a == sysModules)=false/\∃vs,KV kvs vs/\h.DictOf (ZL P w) a vs
 | .dT kvs=>kvs.length≤Wc/\(a == sysModules)=false/\∃xs:List (List Key×Addr×Value),
   Paired (λ(p:List Key×V) (q:List Key×Addr×Value)=>p.1=q.1/\H q.2.1=some (.tup (p.1.map kV))/\Zz p.2 q.2.2) kvs xs/\
   ∃o es ep,h.get? a=some o/\o.ExactDict/\o.data = .dict es ep/\es.toList=xs.map (entryOfKey (tupleKind (ZL P w)))/\(xs.map (·.1)).Nodup
 | .set S n=>h.SetOf (intKind P w) a S n
 | .ins C dx fs=>H dx=some (.own a)/\fs.length≤1000/\dx≠a/\h.get? a=some (PySem.W.instObj C dx)/\
   ∃mA,h.Ns1 dx mA/\(∀f,Mk (fs.lookup f) (mA f))/\PySem.Within mA (fs.map (·.1))
 | .own _=>∃o,h.get? a=some o
 | .xd fs=>∃mA,h.Ns1 a mA/\∀f,Mk (fs.lookup f) (mA f)
 | .rng lo hi=>∃t u v,h.get? a=some { cls:=.type "range",data:=.fields #[.int lo t,.int hi u,.int 1 v] }
 | .frz o u=>h.get? a=some o/\ZB H h a u
 | .tbl ps=>h.get? a=some { cls:=.none,data:=.fields ps }
 | .met f x=>h.get? a=some (W13 (.ref f) (.ref x))
 | .ext φ=>φ h/\(∃o,h.get? a=some o)/\∀h1 h2:Heap,φ h1->(∀o,h1.get? a=some o->h2.get? a=some o)->φ h2
def HOk (H:Hp)(h:Heap):Prop:=∀a o,H a=some o->ZB P w H h a o
end
section
variable {P:Program} {w:World} {H H':Hp} {h h':Heap} {a:Addr} {o:HO}
theorem ZB.lt (x:ZB P w H h a o):a<h.objs.size:=by
 cases o with
 |lst xs=>obtain⟨_,_,_,_,e⟩:=x;exact Ws e
 |tup xs=>obtain⟨_,_,_,p⟩:=x;exact p.1.lt
 |dK kvs=>obtain⟨_,_,_,_,o,_,_,e,_⟩:=x;exact Ws e
 |dT kvs=>obtain⟨_,_,_,_,o,_,_,e,_⟩:=x;exact Ws e
 |set S n=>obtain⟨o,_,_,_,e,_⟩:=x;exact Ws e
 |ins C dx fs=>obtain⟨_,_,_,e,_⟩:=x;exact Ws e
 |own y=>obtain⟨_,e⟩:=x;exact Ws e
 |xd fs=>obtain⟨_,⟨_,_,_,e,_⟩,_⟩:=x;exact Ws e
 |rng lo hi=>obtain⟨_,_,_,e⟩:=x;exact Ws e
 |frz ob u=>obtain⟨e,_⟩:=x;exact Ws e
 |tbl ps=>exact Ws (show h.get? a=some _ from x)
 |met f y=>exact Ws (show h.get? a=some _ from x)
 |ext φ=>obtain⟨_,⟨_,e⟩,_⟩:=x;exact Ws e
theorem Paired.mapP {α β:Type}{F G:α->β->Prop}:∀{l₁:List α} {l₂:List β},Paired F l₁ l₂->(∀a b,F a b->G a b)->Paired G l₁ l₂
 |_,_,.nil,_=>.nil
 |_,_,.cons r t,f=>.cons (f _ _ r) (Paired.mapP t f)
theorem ZB.stay (x:ZB P w H h a o)(k:∀b u,(b=a\/H b=some (.own a))->h.get? b=some u->h'.get? b=some u)
  (ho:∀b,H b=some (.own a)->H' b=some (.own a)) (ht:∀b xs,H b=some (.tup xs)->H' b=some (.tup xs)):ZB P w H' h' a o:=by
 induction o with
 |lst xs=>obtain⟨z,its,n,r,e⟩:=x;exact⟨z,its,n,r,k _ _ (.inl rfl) e⟩
 |tup xs=>obtain⟨z,its,r,⟨ob,e,c⟩,ob2,e2,c2⟩:=x;exact⟨z,its,r,⟨ob,k _ _ (.inl rfl) e,c⟩,ob2,k _ _ (.inl rfl) e2,c2⟩
 |dK kvs=>obtain⟨z,y,vs,r,ob,es,ep,e,c⟩:=x;exact⟨z,y,vs,r,ob,es,ep,k _ _ (.inl rfl) e,c⟩
 |dT kvs=>
  obtain⟨z,y,xs,r,ob,es,ep,e,c⟩:=x
  exact⟨z,y,xs,Paired.mapP r λp q z=>⟨z.1,ht _ _ z.2.1,z.2.2⟩,ob,es,ep,k _ _ (.inl rfl) e,c⟩
 |set S n=>obtain⟨ob,es,ep,t,e,c⟩:=x;exact⟨ob,es,ep,t,k _ _ (.inl rfl) e,c⟩
 |ins C dx fs=>
  obtain⟨d,z,ne,e,mA,⟨od,es,ep,e2,c⟩,r⟩:=x
  exact⟨ho _ d,z,ne,k _ _ (.inl rfl) e,mA,⟨od,es,ep,k _ _ (.inr d) e2,c⟩,r⟩
 |own y=>obtain⟨ob,e⟩:=x;exact⟨ob,k _ _ (.inl rfl) e⟩
 |xd fs=>obtain⟨mA,⟨od,es,ep,e,c⟩,r⟩:=x;exact⟨mA,⟨od,es,ep,k _ _ (.inl rfl) e,c⟩,r⟩
 |rng lo hi=>obtain⟨t,u,v,e⟩:=x;exact⟨t,u,v,k _ _ (.inl rfl) e⟩
 |frz ob u ih=>obtain⟨e,q⟩:=x;exact⟨k _ _ (.inl rfl) e,ih q⟩
 |tbl ps=>
  have e:h.get? a=some { cls:=.none,data:=.fields ps }:=x
  show h'.get? a=some { cls:=.none,data:=.fields ps }
  exact k a _ (.inl rfl) e
 |met f y=>
  have e:h.get? a=some (W13 (.ref f) (.ref y)):=x
  show h'.get? a=some (W13 (.ref f) (.ref y))
  exact k a _ (.inl rfl) e
 |ext φ=>obtain⟨p,⟨o,e⟩,st⟩:=x;exact⟨st _ _ p λo q=>k _ _ (.inl rfl) q,⟨o,k _ _ (.inl rfl) e⟩,st⟩
theorem HOk.lt (x:HOk P w H h)(e:H a=some o):a<h.objs.size:=(x a o e).lt
theorem HOk.fresh (x:HOk P w H h)(e:h.objs.size≤a):H a=none:=by
 cases q:H a with
 |none=>rfl
 |some u=>exact absurd (WB (x.lt q) e) (Vg _)
theorem HOk.kept (x:HOk P w H h)(k:∀b u,h.get? b=some u->h'.get? b=some u):HOk P w H h':=λa o e=>
 (x a o e).stay (λb u _ q=>k b u q) (λ_ q=>q) λ_ _ q=>q
theorem HOk.laid (x:HOk P w H h)(k:∀b u,h.get? b=some u->h'.get? b=some u)(hp:h.objs.size≤a)(new:ZB P w (upd H a o) h' a o):HOk P w (upd H a o) h':=λb u e=>by
 have hn:=x.fresh hp
 by_cases hb:b=a
 ·subst hb;rw [Z5] at e;cases e;exact new
 ·rw [Za hb] at e
  exact (x b u e).stay (λc v _ q=>k c v q) (λc q=>by rw [Za (Zg q hn)];exact q) λc xs q=>by rw [Za (Zg q hn)];exact q
end
def Rd (H:Hp)(a:Addr)(u:HO):Prop:=H a=some u\/∃o,H a=some (.frz o u)
theorem Rd.ok {P:Program}{w:World}{H:Hp}{h:Heap}{a:Addr}{u:HO}(r:Rd H a u)(x:HOk P w H h):ZB P w H h a u:=by
 rcases r with r|⟨o,r⟩
 ·exact x a u r
 ·obtain⟨_,q⟩:=x a _ r
  exact q
def Mut:Option HO->Prop
 |some (.lst _)=>True
 |some (.dK _)=>True
 |some (.dT _)=>True
 |some (.set _ _)=>True
 |some (.ins _ _ _)=>True
 |some (.ext _)=>True
 |_=>False
section
variable {P:Program} {w:World} {H:Hp} {h h':Heap} {x e:Addr} {o':HO}
theorem HOk.write (ok:HOk P w H h)(mu:Mut (H x))(he:e=x\/H e=some (.own x))(k:∀b u,b≠e->h.get? b=some u->h'.get? b=some u)(heo:∃u,h'.get? e=some u)
  (new:ZB P w (upd H x o') h' x o'):HOk P w (upd H x o') h':=λb u q=>by
 have nown:∀c y,H c=some (.own y)->c≠x:=λc y r z=>by subst z;rw [r] at mu;exact mu
 have ntup:∀c xs,H c=some (.tup xs)->c≠x:=λc xs r z=>by subst z;rw [r] at mu;exact mu
 by_cases hb:b=x
 ·subst hb;rw [Z5] at q;cases q;exact new
 ·rw [Za hb] at q
  by_cases hbe:b=e
  ·have q':H b=some (.own x):=by
    rcases he with z|z
    ·exact absurd (hbe.trans z) hb
    ·rw [hbe];exact z
   rw [q] at q';cases q'
   obtain⟨v,hv⟩:=heo
   exact⟨v,by rw [hbe];exact hv⟩
  ·refine (ok b u q).stay (λc v hc r=>k c v ?_ r) (λc r=>by rw [Za (nown c b r)];exact r) λc xs r=>by rw [Za (ntup c xs r)];exact r
   rcases hc with rfl|hc
   ·exact hbe
   ·rintro rfl
    rcases he with z|z
    ·exact nown c b hc z
    ·rw [hc] at z;cases z;exact hb rfl
end
structure Un (fs ex:List Addr) (H H':Hp) (h h':Heap):Prop where
 keep:∀b o,h.get? b=some o->H b=none->b∉fs->b∉ex->h'.get? b=some o
 slot:∀b o,h.get? b=some o->H b=none->b∈fs->b∉ex->∃sl,h'.get? b=some { o with slots:=sl }
 free:∀b o,h.get? b=some o->H b=none->b∉ex->H' b=none
 there:∀b o,h.get? b=some o->b∉ex->∃o',h'.get? b=some o'
 tups:∀b xs,H b=some (.tup xs)->H' b=some (.tup xs)
 frzs:∀b o u,H b=some (.frz o u)->H' b=some (.frz o u)
 tbls:∀b ps,H b=some (.tbl ps)->∃more,H' b=some (.tbl (ps++more))
section
variable {fs fs' ex ex':List Addr} {H H1 H2:Hp} {h h1 h2 h':Heap} {a x e:Addr} {o:HO}
theorem Un.any (u:Un fs ex H H1 h h1){b:Addr}{ob:Obj}(q:h.get? b=some ob)(n:H b=none)(hx:b∉ex):∃sl,h1.get? b=some { ob with slots:=sl }:=by
 by_cases hb:b∈fs
 ·exact u.slot b ob q n hb hx
 ·exact⟨ob.slots,u.keep b ob q n hb hx⟩
theorem Un.kept (k:∀b u,h.get? b=some u->h'.get? b=some u):Un fs ex H H h h':=
 ⟨λb ob q _ _ _=>k b ob q,λb ob q _ _ _=>⟨ob.slots,k b ob q⟩,λ_ _ _ n _=>n,λb ob q _=>⟨ob,k b ob q⟩,λ_ _ q=>q,λ_ _ _ q=>q,λ_ ps q=>⟨#[],by rw [q];simp⟩⟩
theorem Un.refl:Un fs ex H H h h:=Un.kept λ_ _ q=>q
theorem Un.laid (k:∀b u,h.get? b=some u->h'.get? b=some u)(hp:h.objs.size≤a)(hn:H a=none):Un fs ex H (upd H a o) h h' where
 keep:=λb u q _ _ _=>k b u q
 slot:=λb u q _ _ _=>⟨u.slots,k b u q⟩
 free:=λb u q n _=>by rw [Za (WJ (WB (Ws q) hp))];exact n
 there:=λb u q _=>⟨u,k b u q⟩
 tups:=λb xs q=>by rw [Za (Zg q hn)];exact q
 frzs:=λb u xs q=>by rw [Za (Zg q hn)];exact q
 tbls:=λb ps q=>⟨#[],by rw [Za (Zg q hn),q];simp⟩
theorem Un.write (mu:Mut (H x))(he:e=x\/H e=some (.own x))(k:∀b u,b≠e->h.get? b=some u->h'.get? b=some u)(heo:∃u,h'.get? e=some u):Un fs ex H (upd H x o) h h':=by
 have hx:∀b,H b=none->b≠x:=λb n z=>by subst z;rw [n] at mu;exact mu
 have hb:∀b,H b=none->b≠e:=λb n z=>by
  subst z
  rcases he with r|r
  ·exact hx b n r
  ·rw [n] at r;cases r
 have hm:∀b u,H b=some u->¬Mut (some u)->b≠x:=λb u q nm z=>by subst z;rw [q] at mu;exact nm mu
 refine⟨λb u q n _ _=>k b u (hb b n) q,λb u q n _ _=>⟨u.slots,k b u (hb b n) q⟩,λb u q n _=>by rw [Za (hx b n)];exact n,λb u q _=>?_,
  λb xs q=>by rw [Za (hm b _ q λz=>z)];exact q,λb u xs q=>by rw [Za (hm b _ q λz=>z)];exact q,λb ps q=>⟨#[],by rw [Za (hm b _ q λz=>z),q];simp⟩⟩
 by_cases hbe:b=e
 ·subst hbe;exact heo
 ·exact⟨u,k b u hbe q⟩
end
def trk (h:Heap)(H:Hp):List Addr:=(Wr h.objs.size).filter λa=>(H a).isSome
def Ka (h:Heap)(H:Hp):Heap:=PySem.W.hideAll h (trk h H)
theorem NQ (h:Heap)(H:Hp):(Ka h H).objs.size=h.objs.size:=PySem.W.hideAll_size _ _
theorem K9 {h:Heap}{H:Hp}{b:Addr}{o:Obj}(e:h.get? b=some o)(n:H b=none):(Ka h H).get? b=some o:=
 PySem.W.hideAll_get _ e λhm=>by
  have q:(H b).isSome=true:=(W0J.mp hm).2
  rw [n] at q;simp at q
theorem Li {h:Heap}{H:Hp}{b:Addr}{o:Obj}(e:(Ka h H).get? b=some o):h.get? b=some o/\H b=none:=by
 have e':h.get? b=some o:=PySem.W.of_hideAll (trk h H) e
 refine⟨e',?_⟩
 cases q:H b with
 |none=>rfl
 |some x=>
  have hm:b∈trk h H:=W0J.mpr ⟨List.mem_range.mpr (Ws e'),by simp [q]⟩
  have z:(Ka h H).get? b=none:=PySem.W.hideAll_none (trk h H) hm
  rw [z] at e;cases e
def F8 (g h:Heap)(L:Addr):List (Addr×Obj):=(Wr h.objs.size).filterMap λa=>if a=L\/(g.get? a).isSome=true then none else (h.get? a).map λo=>(a,o)
def rest (g h:Heap)(L d:Addr):List (Addr×Obj):=(F8 g h L).filter λp=>decide (p.1≠d)
end L2
namespace L2
open PySem PySem.Spec PyProof.Rows
structure Mod (K:W3) (mg:Str->Option Value) (base:Heap):Prop where
 kin:K.In base
 glob:base.Ns Wy mg
 blt:∃mb,base.Ns builtinsNs mb/\∀x:Str,x≠"__name__"->mb x=Wz x
 nolimit:base.NoLimit
structure Cx where
 prog:Program
 w:World
 K:W3
 mg:Str->Option Value
 base:Heap
 A:Around
 N:List Str
 s₀:Shared
 H₀:Hp
 env:Env
 outer:List Env
 stack:List Env
 ex:List Addr
 fn:Str->Bool
 calm:Bool
 pn:List (Addr×Obj)
 xe:Value->Shared->Prop
def frs (l:List Env):List Addr:=l.filterMap (·.frame)
abbrev Cx.fs (X:Cx):List Addr:=frs X.outer
def Vis (sc:Scope)(x:Str):Prop:=sc.names.lookup x=some .local\/sc.names.lookup x=some .cell\/sc.names.lookup x=some .free
def Loc (sc:Scope)(x:Str):Prop:=sc.names.lookup x=some .local\/sc.names.lookup x=some .cell
def Dd (env:Env)(h:Heap)(m:Str->Option Value)(x:Str)(u:Value):Prop:=
 (env.kindOf x=some .local/\m x=some u)\/((env.kindOf x=some .cell\/env.kindOf x=some .free)/\∃c,env.cells.lookup x=some c/\h.IsCell c (some u))
structure Cx.Ok (X:Cx):Prop where
 mod:Mod X.K X.mg X.base
 kind:X.env.scope.kind = .function
 glob:X.env.globals=Wy
 blt:X.env.builtins=builtinsNs
 above:X.s₀.heap.objs.size≤X.env.locals
 inj:∀x y c,X.env.cells.lookup x=some c->X.env.cells.lookup y=some c->x=y
 has:∀x,(X.env.kindOf x=some .cell\/X.env.kindOf x=some .free)->∃c,X.env.cells.lookup x=some c
 cab:∀x c,X.fn x=true->X.env.cells.lookup x=some c->X.s₀.heap.objs.size≤c
 hd:X.calm=true->X.A.handled=none
 frames:X.A.frames=some X.stack
 stk:X.stack=X.outer\/(X.stack=X.env :: X.outer/\X.env.frame=some X.env.locals)
 exf:∀b∈X.ex,b≠X.env.locals/\∀x c,X.env.cells.lookup x=some c->c≠b
 bs:∀b o,X.base.get? b=some o->X.s₀.heap.get? b=some o/\X.H₀ b=none
 bsz:X.base.objs.size≤X.s₀.heap.objs.size
 noex:∀b o,X.base.get? b=some o->b∉X.ex
 exfs:∀b∈X.ex,b∉X.fs
 funs:X.s₀.heap.FunFrames X.base X.outer
 frf:∀b∈X.fs,X.H₀ b=none
structure Inv (X:Cx) (pins:List (Addr×Obj)) (σ:List (Option V)) (H:Hp) (s:Shared):Prop where
 ok:X.Ok
 os:s.os=X.s₀.os
 bare:AllBare s.gens
 base:Un X.fs X.ex X.H₀ H X.s₀.heap s.heap
 loc:∃m,s.heap.Ns X.env.locals m/\∀(i:Nat) (x:Str) (v:V),X.N[i]? = some x->σ[i]? = some (some v)->Vis X.env.scope x->∃u,Zz v u/\Dd X.env s.heap m x u
 cell:∀x c,X.env.cells.lookup x=some c->∃v,s.heap.IsCell c v
 free:H X.env.locals=none
 freeC:∀x c,X.env.cells.lookup x=some c->H c=none
 pin:∀p∈X.pn++pins,s.heap.get? p.1=some p.2/\H p.1=none/\p.1≠X.env.locals/\p.1∉X.fs/\∀v,p.2.data≠.cell v
 hok:HOk X.prog X.w H s.heap
 len:σ.length=X.N.length
section
variable {X:Cx} {pins:List (Addr×Obj)} {σ:List (Option V)} {H H':Hp} {s:Shared} {h':Heap}
theorem Cx.Ok.nofr (ok:X.Ok){b:Addr}{o:Obj}(e:X.base.get? b=some o):b∉X.fs:=λhb=>by
 have:=(ok.funs.mem hb).1
 rw [e] at this;cases this
theorem Inv.bs (I:Inv X pins σ H s):∀b o,X.base.get? b=some o->s.heap.get? b=some o/\H b=none:=λb o e=>
 ⟨I.base.keep b o (I.ok.bs b o e).1 (I.ok.bs b o e).2 (I.ok.nofr e) (I.ok.noex b o e),I.base.free b o (I.ok.bs b o e).1 (I.ok.bs b o e).2 (I.ok.noex b o e)⟩
theorem Inv.bk (I:Inv X pins σ H s):∀b o,X.base.get? b=some o->s.heap.get? b=some o:=λb o e=>(I.bs b o e).1
theorem Inv.mod (I:Inv X pins σ H s):Mod X.K X.mg X.base:=I.ok.mod
theorem Inv.kIn (I:Inv X pins σ H s):X.K.In s.heap:=I.ok.mod.kin.keeps I.bk
theorem Inv.lt (I:Inv X pins σ H s):X.env.locals<s.heap.objs.size:=let ⟨_,hn,_⟩:=I.loc;hn.lt
theorem Inv.sz (I:Inv X pins σ H s):X.s₀.heap.objs.size≤s.heap.objs.size:=Wx I.ok.above (Nat.le_of_lt I.lt)
theorem Inv.nofs (I:Inv X pins σ H s){a:Addr}(h:s.heap.objs.size≤a):a∉X.fs:=λhb=>by
 obtain⟨_,o,ho,_⟩:=I.ok.funs.mem hb
 exact absurd (WB (Ws ho) (Wx I.sz h)) (Vg _)
theorem Inv.cne (I:Inv X pins σ H s):∀x c,X.env.cells.lookup x=some c->c≠X.env.locals:=λx c e z=>by
 obtain⟨v,o,ho,hd⟩:=I.cell x c e
 obtain⟨m,⟨o',es,ep,ho',hd',_⟩,_⟩:=I.loc
 rw [z,ho'] at ho;cases ho;rw [hd'] at hd;cases hd
theorem Inv.funs (I:Inv X pins σ H s):s.heap.FunFrames X.base X.outer:=by
 have all:∀(l:List Env),(∀b∈frs l,b∈X.fs)->X.s₀.heap.FunFrames X.base l->s.heap.FunFrames X.base l:=by
  intro l
  induction l with
  |nil=>intro _ _;trivial
  |cons env r ih=>
   intro hs hl
   obtain⟨hk,⟨L,o,hf,hn,ho,hd⟩,hr⟩:=hl
   have hL:L∈X.fs:=hs L (by unfold frs;rw [VV,hf];exact WR)
   obtain⟨sl,e⟩:=I.base.slot L o ho (I.ok.frf L hL) hL λz=>I.ok.exfs L z hL
   exact⟨hk,⟨L,_,hf,hn,e,hd⟩,ih (λb hb=>hs b (by unfold frs;rw [VV,hf];exact WS _ hb)) hr⟩
 exact all X.outer (λ_ hb=>hb) I.ok.funs
theorem Inv.stack (I:Inv X pins σ H s):s.heap.FunFrames X.base X.stack:=by
 rcases I.ok.stk with e|⟨e,hf⟩
 ·rw [e];exact I.funs
 ·rw [e]
  obtain⟨m,hn,_⟩:=I.loc
  refine .cons (by rw [I.ok.kind];decide) hf hn ?_ I.funs
  exact Heap.get?_none_of_le (Wx I.ok.bsz I.ok.above)
theorem Inv.stkSub (I:Inv X pins σ H s):∀b∈frs X.stack,b∈X.env.locals :: X.fs:=λb hb=>by
 rcases I.ok.stk with e|⟨e,hf⟩
 ·rw [e] at hb;exact WS _ hb
 ·rw [e] at hb
  unfold frs at hb
  rw [VV,hf] at hb
  exact hb
theorem Inv.stkFree (I:Inv X pins σ H s):∀b∈frs X.stack,H b=none:=λb hb=>by
 rcases WD.mp (I.stkSub b hb) with e|hb
 ·rw [e];exact I.free
 ·obtain⟨_,o,ho,_⟩:=I.ok.funs.mem hb
  exact I.base.free b o ho (I.ok.frf b hb) λz=>I.ok.exfs b z hb
theorem Inv.step {g':Array GenState}{t':Nat}{d':Drawn}{ch:List Addr}(I:Inv X pins σ H s)
  (hch:∀b∈ch,(b∈X.ex\/X.s₀.heap.objs.size≤b)/\b≠X.env.locals/\(∀x c,X.env.cells.lookup x=some c->c≠b)/\∀p∈X.pn++pins,p.1≠b)
  (keep:∀b o,b≠X.env.locals->b∉X.fs->b∉ch->s.heap.get? b=some o->H b=none->h'.get? b=some o)
  (slot:∀b o,b≠X.env.locals->b∈X.fs->b∉ch->s.heap.get? b=some o->H b=none->∃sl,h'.get? b=some { o with slots:=sl }) (free:∀b o,b∉ch->s.heap.get? b=some o->H b=none->H' b=none)
  (there:∀b o,b∉ch->s.heap.get? b=some o->∃o',h'.get? b=some o')
  (tups:∀b xs,H b=some (.tup xs)->H' b=some (.tup xs)) (frzs:∀b o u,H b=some (.frz o u)->H' b=some (.frz o u)) (tbls:∀b ps,H b=some (.tbl ps)->∃more,H' b=some (.tbl (ps++more)))
  (ns:∀m,s.heap.Ns X.env.locals m->h'.Ns X.env.locals m) (hok:HOk X.prog X.w H' h') (hg:AllBare g') :
  Inv X pins σ H' { s with heap:=h',gens:=g',drawn:=d',toks:=t' }:=by
 have neL:∀b o,X.s₀.heap.get? b=some o->b≠X.env.locals:=λb o e=>WJ (WB (Ws e) I.ok.above)
 have neC:∀b o,X.s₀.heap.get? b=some o->b∉X.ex->b∉ch:=λb o e hx hb=>by
  rcases (hch b hb).1 with z|z
  ·exact hx z
  ·exact absurd (WB (Ws e) z) (Vg _)
 have cellK:∀x c,X.env.cells.lookup x=some c->∀v,s.heap.IsCell c v->h'.IsCell c v:=λx c e v ⟨o,ho,hd⟩=>by
  have nch:c∉ch:=λz=>(hch c z).2.2.1 x c e rfl
  by_cases hc:c∈X.fs
  ·obtain⟨sl,q⟩:=slot c o (I.cne x c e) hc nch ho (I.freeC x c e)
   exact⟨_,q,hd⟩
  ·exact⟨o,keep c o (I.cne x c e) hc nch ho (I.freeC x c e),hd⟩
 refine⟨I.ok,I.os,hg,⟨λb o e n hb hx=>?_,λb o e n hb hx=>?_,λb o e n hx=>?_,λb o e hx=>?_,λb xs e=>tups b xs (I.base.tups b xs e),λb o xs e=>frzs b o xs (I.base.frzs b o xs e),λb ps e=>?_⟩,?_,λx c e=>?_,?_,λx c e=>?_,λp hp=>?_,hok,I.len⟩
 ·exact keep b o (neL b o e) hb (neC b o e hx) (I.base.keep b o e n hb hx) (I.base.free b o e n hx)
 ·obtain⟨sl,e1⟩:=I.base.slot b o e n hb hx
  obtain⟨sl',e2⟩:=slot b _ (neL b o e) hb (neC b o e hx) e1 (I.base.free b o e n hx)
  exact⟨sl',e2⟩
 ·obtain⟨o',e1⟩:=I.base.there b o e hx
  exact free b o' (neC b o e hx) e1 (I.base.free b o e n hx)
 ·obtain⟨o',e1⟩:=I.base.there b o e hx
  exact there b o' (neC b o e hx) e1
 ·obtain⟨m1,e1⟩:=I.base.tbls b ps e
  obtain⟨m2,e2⟩:=tbls b _ e1
  exact⟨m1++m2,by rw [e2,Array.append_assoc]⟩
 ·obtain⟨m,hn,hl⟩:=I.loc
  refine⟨m,ns m hn,λi x v e1 e2 e3=>?_⟩
  obtain⟨u,r,l⟩:=hl i x v e1 e2 e3
  refine⟨u,r,?_⟩
  rcases l with l|⟨k,c,e,z⟩
  ·exact .inl l
  ·exact .inr ⟨k,c,e,cellK x c e _ z⟩
 ·obtain⟨v,z⟩:=I.cell x c e
  exact⟨v,cellK x c e v z⟩
 ·obtain⟨m,⟨o,_,_,ho,_⟩,_⟩:=I.loc
  exact free _ o (λz=>(hch _ z).2.1 rfl) ho I.free
 ·obtain⟨v,o,ho,hd⟩:=I.cell x c e
  exact free c o (λz=>(hch c z).2.2.1 x c e rfl) ho (I.freeC x c e)
 ·obtain⟨e,n,ne,nf,d⟩:=I.pin p hp
  have nch:p.1∉ch:=λz=>(hch p.1 z).2.2.2 p hp rfl
  exact⟨keep p.1 p.2 ne nf nch e n,free p.1 p.2 nch e n,ne,nf,d⟩
theorem Inv.un {t':Nat}(I:Inv X pins σ H s)(u:Un X.fs [] H H' s.heap h')(hok:HOk X.prog X.w H' h'):Inv X pins σ H' { s with heap:=h',toks:=t' }:=by
 obtain⟨m,⟨o,es,ep,ho,r⟩,_⟩:=id I.loc
 obtain⟨sl,hL⟩:=u.any ho I.free (by simp)
 exact I.step (g':=s.gens) (d':=s.drawn) (ch:=[]) (λ_ z=>nomatch z) (λb o _ hb _ e n=>u.keep b o e n hb (by simp)) (λb o _ hb _ e n=>u.slot b o e n hb (by simp)) (λb o _ e n=>u.free b o e n (by simp)) (λb o _ e=>u.there b o e (by simp)) u.tups u.frzs u.tbls (λm' hm=>by
  obtain⟨o',es',ep',ho',r'⟩:=hm
  rw [ho] at ho';cases ho'
  exact⟨_,es',ep',hL,r'⟩) hok I.bare
theorem Inv.call {g':Array GenState}{t':Nat}{d':Drawn}{ch:List Addr}(I:Inv X pins σ H s)(u:Un (frs X.stack) ch H H' s.heap h')(hok:HOk X.prog X.w H' h')(hg:AllBare g')
  (hch:∀b∈ch,(b∈X.ex\/X.s₀.heap.objs.size≤b)/\b≠X.env.locals/\(∀x c,X.env.cells.lookup x=some c->c≠b)/\∀p∈X.pn++pins,p.1≠b) :
  Inv X pins σ H' { s with heap:=h',gens:=g',drawn:=d',toks:=t' }:=by
 obtain⟨m,⟨o,es,ep,ho,r⟩,_⟩:=id I.loc
 obtain⟨sl,hL⟩:=u.any ho I.free λz=>(hch _ z).2.1 rfl
 exact I.step (ch:=ch) hch (λb o hL hb hc e n=>u.keep b o e n (λz=>(WD.mp (I.stkSub b z)).elim hL hb) hc) (λb o _ _ hc e n=>u.any e n hc) (λb o hc e n=>u.free b o e n hc) (λb o hc e=>u.there b o e hc) u.tups u.frzs u.tbls (λm' hm=>by
  obtain⟨o',es',ep',ho',r'⟩:=hm
  rw [ho] at ho';cases ho'
  exact⟨_,es',ep',hL,r'⟩) hok hg
theorem Inv.turned {t':Nat}{it:Addr}(I:Inv X pins σ H s)(k:∀b o,b≠it->s.heap.get? b=some o->h'.get? b=some o)(hn:H it=none)(hL:it≠X.env.locals)
  (h1:it∈X.ex\/X.s₀.heap.objs.size≤it) (h2:∀x c,X.env.cells.lookup x=some c->c≠it) (h3:∀p∈X.pn++pins,p.1≠it):Inv X pins σ H { s with heap:=h',toks:=t' }:=by
 have nit:∀b u,H b=some u->b≠it:=λb u e z=>by rw [z,hn] at e;cases e
 refine I.step (g':=s.gens) (d':=s.drawn) (ch:=[it]) (λb hb=>?_) (λb o _ _ hc e _=>k b o (λz=>hc (by simp [z])) e) (λb o _ _ hc e _=>⟨o.slots,k b o (λz=>hc (by simp [z])) e⟩) (λ_ _ _ _ n=>n)
  (λb o hc e=>⟨o,k b o (λz=>hc (by simp [z])) e⟩) (λ_ _ e=>e) (λ_ _ _ e=>e) (λb ps e=>⟨#[],by rw [e];simp⟩) (λm hm=>?_) (λb u e=>?_) I.bare
 ·have e:b=it:=by simpa using hb
  subst e
  exact⟨h1,hL,h2,h3⟩
 ·obtain⟨o,es,ep,ho,r⟩:=hm
  exact⟨o,es,ep,k _ o (Ne.symm hL) ho,r⟩
 ·refine (I.hok b u e).stay (λc v hc q=>k c v ?_ q) (λ_ q=>q) λ_ _ q=>q
  rcases hc with z|z
  ·rw [z];exact nit b u e
  ·exact nit c _ z
theorem Inv.tok (I:Inv X pins σ H s)(t:Nat):Inv X pins σ H { s with toks:=t }:=I.un (h':=s.heap) (t':=t) Un.refl I.hok
theorem Inv.kept {t':Nat}(I:Inv X pins σ H s)(k:∀b u,s.heap.get? b=some u->h'.get? b=some u):Inv X pins σ H { s with heap:=h',toks:=t' }:=I.un (Un.kept k) (I.hok.kept k)
theorem Inv.laid {a:Addr}{o:HO}{t':Nat}(I:Inv X pins σ H s)(k:∀b u,s.heap.get? b=some u->h'.get? b=some u)(hp:s.heap.objs.size≤a)(new:ZB X.prog X.w (upd H a o) h' a o) :
  Inv X pins σ (upd H a o) { s with heap:=h',toks:=t' }:=I.un (Un.laid k hp (I.hok.fresh hp)) (I.hok.laid k hp new)
theorem Inv.write {x e:Addr}{o:HO}{t':Nat}(I:Inv X pins σ H s)(mu:Mut (H x))(he:e=x\/H e=some (.own x))(k:∀b u,b≠e->s.heap.get? b=some u->h'.get? b=some u)(heo:∃u,h'.get? e=some u)
  (new:ZB X.prog X.w (upd H x o) h' x o):Inv X pins σ (upd H x o) { s with heap:=h',toks:=t' }:=I.un (Un.write mu he k heo) (I.hok.write mu he k heo new)
theorem Inv.weak {σ':List (Option V)}(I:Inv X pins σ H s)(hl:σ'.length=σ.length)(w:∀(i:Nat) v,σ'[i]? = some (some v)->σ[i]? = some (some v)):Inv X pins σ' H s:=
 ⟨I.ok,I.os,I.bare,I.base,let ⟨m,hn,hl'⟩:=I.loc;⟨m,hn,λi x v e1 e2 e3=>hl' i x v e1 (w i v e2) e3⟩,I.cell,I.free,I.freeC,I.pin,I.hok,hl.trans I.len⟩
theorem Inv.pins_of {pins':List (Addr×Obj)}(I:Inv X pins σ H s)(h:∀p∈pins',s.heap.get? p.1=some p.2/\H p.1=none/\p.1≠X.env.locals/\p.1∉X.fs/\∀v,p.2.data≠.cell v):Inv X pins' σ H s:=
 ⟨I.ok,I.os,I.bare,I.base,I.loc,I.cell,I.free,I.freeC,λp hp=>(W03.mp hp).elim (λz=>I.pin p (W0b _ z)) (h p),I.hok,I.len⟩
theorem G0 {N:List Str}(hN:N.Nodup){i j:Nat}{x:Str}(a:N[i]? = some x)(b:N[j]? = some x):i=j:=by
 obtain⟨h1,e1⟩:=Wl.mp a
 obtain⟨h2,e2⟩:=Wl.mp b
 exact (List.getElem_inj hN).mp (e1.trans e2.symm)
theorem Ue {M:Model}{A:Around}{E:Value->Shared->Prop}{i:Nat}{x:Str}{v:V}{u:Value}{Q:Unit->Shared->Prop}(I:Inv X pins σ H s)(hN:X.N.Nodup)(hi:X.N[i]? = some x)(hx:Loc X.env.scope x)(r:Zz v u)
  (h:∀s',Inv X pins (σ.set i (some v)) H s'->(∃a,VU a s.heap s'.heap/\(a=X.env.locals\/X.env.cells.lookup x=some a))->Q () s') (hf:X.fn x=true\/X.env.scope.names.lookup x=some .local:=by first|exact .inl rfl|exact .inr rfl|assumption):wpAny M A (storeName X.env x u) Q E s:=by
 obtain⟨m,hn,hl⟩:=id I.loc
 have hcls:(X.env.scope.kind == .class||(X.env.scope.kind == .module&&X.env.locals != X.env.globals))=false:=by rw [I.ok.kind];rfl
 have hiσ:i<σ.length:=by rw [I.len];exact (Wl.mp hi).1
 have cne:=I.cne
 have tracked:∀{a:Addr} {h':Heap},(∃o,s.heap.get? a=some o/\H a=none)->VU a s.heap h'->HOk X.prog X.w H h':=λ{a h'} ha hs b ob e=>by
  obtain⟨_,_,hfree⟩:=ha
  refine (I.hok b ob e).stay (λc w' hc q=>(hs.2 c ?_).trans q) (λ_ q=>q) λ_ _ q=>q
  rintro rfl
  rcases hc with rfl|hc
  ·rw [hfree] at e;cases e
  ·rw [hfree] at hc;cases hc
 rcases hx with hk|hk
 ·refine wpAny_storeName_local hk hn (λh' hn' hs=>?_) hcls
  obtain⟨oL,_,_,hoL,_⟩:=id hn
  refine h _ ⟨I.ok,I.os,I.bare,⟨λb o e n hb hx=>?_,λb o e n hb hx=>?_,I.base.free,λb o e hx=>?_,I.base.tups,I.base.frzs,I.base.tbls⟩,⟨_,hn',λj y v' e1 e2 e3=>?_⟩,λy c e=>?_,I.free,I.freeC,λp hp=>?_,tracked ⟨oL,hoL,I.free⟩ hs,by simpa using I.len⟩ ⟨_,hs,.inl rfl⟩
  ·exact (hs.2 b (WJ (WB (Ws e) I.ok.above))).trans (I.base.keep b o e n hb hx)
  ·obtain⟨sl,e1⟩:=I.base.slot b o e n hb hx
   exact⟨sl,(hs.2 b (WJ (WB (Ws e) I.ok.above))).trans e1⟩
  ·obtain⟨o',e1⟩:=I.base.there b o e hx
   exact⟨o',(hs.2 b (WJ (WB (Ws e) I.ok.above))).trans e1⟩
  ·by_cases hj:j=i
   ·subst hj
    rw [hi] at e1;cases e1
    rw [Vj hiσ] at e2
    cases e2
    exact⟨u,r,.inl ⟨hk,by simp⟩⟩
   ·rw [Vi (Ne.symm hj)] at e2
    obtain⟨u',r',q⟩:=hl j y v' e1 e2 e3
    refine⟨u',r',?_⟩
    rcases q with ⟨k,e⟩|⟨k,c,e,z⟩
    ·refine .inl ⟨k,?_⟩
     have:y≠x:=λe=>hj (G0 hN e1 (e ▸ hi))
     simp [this,e]
    ·exact .inr ⟨k,c,e,z.sameBut hs (cne y c e)⟩
  ·obtain⟨w',z⟩:=I.cell y c e
   exact⟨w',z.sameBut hs (cne y c e)⟩
  ·obtain⟨e,n,ne,nf,d⟩:=I.pin p hp
   exact⟨(hs.2 p.1 ne).trans e,n,ne,nf,d⟩
 ·have hfn:X.fn x=true:=by
   rcases hf with z|z
   ·exact z
   ·rw [z] at hk;cases hk
  obtain⟨c,hc⟩:=I.ok.has x (.inl hk)
  obtain⟨w',z⟩:=I.cell x c hc
  refine wpAny_storeName_cell I.ok.kind hk hc z (λh' hc' hs=>?_)
  obtain⟨oc,hoc,hocd⟩:=id z
  refine h { s with heap:=h' } ⟨I.ok,I.os,I.bare,⟨λb o e n hb hx=>?_,λb o e n hb hx=>?_,I.base.free,λb o e hx=>?_,I.base.tups,I.base.frzs,I.base.tbls⟩,⟨m,hn.sameBut hs (Ne.symm (cne x c hc)),λj y v' e1 e2 e3=>?_⟩,λy c' e=>?_,I.free,I.freeC,λp hp=>?_,tracked ⟨oc,hoc,I.freeC x c hc⟩ hs,by simpa using I.len⟩ ⟨c,hs,.inr hc⟩
  ·exact (hs.2 b (WJ (WB (Ws e) (I.ok.cab x c hfn hc)))).trans (I.base.keep b o e n hb hx)
  ·obtain⟨sl,e1⟩:=I.base.slot b o e n hb hx
   exact⟨sl,(hs.2 b (WJ (WB (Ws e) (I.ok.cab x c hfn hc)))).trans e1⟩
  ·obtain⟨o',e1⟩:=I.base.there b o e hx
   exact⟨o',(hs.2 b (WJ (WB (Ws e) (I.ok.cab x c hfn hc)))).trans e1⟩
  ·by_cases hj:j=i
   ·subst hj
    rw [hi] at e1;cases e1
    rw [Vj hiσ] at e2
    cases e2
    exact⟨u,r,.inr ⟨.inl hk,c,hc,hc'⟩⟩
   ·rw [Vi (Ne.symm hj)] at e2
    obtain⟨u',r',q⟩:=hl j y v' e1 e2 e3
    refine⟨u',r',?_⟩
    rcases q with q|⟨k,c',e,z'⟩
    ·exact .inl q
    ·refine .inr ⟨k,c',e,z'.sameBut hs ?_⟩
     rintro rfl
     exact hj (G0 hN e1 (I.ok.inj _ _ _ e hc ▸ hi))
  ·by_cases hcc:c'=c
   ·subst hcc;exact⟨_,hc'⟩
   ·obtain⟨w2,z2⟩:=I.cell y c' e
    exact⟨w2,z2.sameBut hs hcc⟩
  ·obtain⟨e,n,ne,nf,d⟩:=I.pin p hp
   refine⟨(hs.2 p.1 ?_).trans e,n,ne,nf,d⟩
   intro q
   rw [q,hoc] at e
   have q':oc=p.2:=WQ e
   exact d w' (by rw [←q'];exact hocd)
theorem TN {M:Model}{A:Around}{E:Value->Shared->Prop}{i:Nat}{x:Str}{v:V}{u:Value}{Q:Unit->Shared->Prop}(I:Inv X pins σ H s)(hN:X.N.Nodup)(hi:X.N[i]? = some x)(hx:Loc X.env.scope x)(r:Zz v u)
  (h:∀s',Inv X pins (σ.set i (some v)) H s'->Q () s') (hf:X.fn x=true\/X.env.scope.names.lookup x=some .local:=by first|exact .inl rfl|exact .inr rfl|assumption):wpAny M A (storeName X.env x u) Q E s:=
 Ue I hN hi hx r (λs' I' _=>h s' I') hf
theorem Inv.call' {s':Shared}{ch:List Addr}(I:Inv X pins σ H s)(ho:s'.os=s.os)(u:Un (frs X.stack) ch H H' s.heap s'.heap)(hok:HOk X.prog X.w H' s'.heap)(hg:AllBare s'.gens)
  (hch:∀b∈ch,(b∈X.ex\/X.s₀.heap.objs.size≤b)/\b≠X.env.locals/\(∀x c,X.env.cells.lookup x=some c->c≠b)/\∀p∈X.pn++pins,p.1≠b):Inv X pins σ H' s':=by
 obtain⟨h',g',d',t',o'⟩:=s'
 have e:o'=s.os:=ho
 subst e
 exact I.call (g':=g') (t':=t') (d':=d') u hok hg hch
end
abbrev XK:=Value->Option Addr->Hp->Prop
abbrev St:=List (Option V)
abbrev VK:=V->Hp->Prop
abbrev TE:=St->Hp->VK->Prop
abbrev TT:=St->Hp->(Bool->Hp->Prop)->Prop
abbrev TA:=St->Hp->(List V->Hp->Prop)->Prop
structure Ends where
 nx:St->Hp->Prop
 rt:VK
 bk:St->Hp->Prop:=λ_ _=>False
 ct:St->Hp->Prop:=λ_ _=>False
abbrev TS:=Ends->St->Hp->Prop
def EP (X:Cx)(pins:List (Addr×Obj))(σ:St)(Q:VK)(u:Value)(s':Shared):Prop:=∃v H',Inv X pins σ H' s'/\Zz v u/\Q v H'
def TP (X:Cx)(pins:List (Addr×Obj))(σ:St)(Q:Bool->Hp->Prop)(b:Bool)(s':Shared):Prop:=∃H',Inv X pins σ H' s'/\Q b H'
def AP (X:Cx)(pins:List (Addr×Obj))(σ:St)(Q:List V->Hp->Prop)(us:List Value)(s':Shared):Prop:=∃vs H',Inv X pins σ H' s'/\Zy vs us/\Q vs H'
def SP (X:Cx)(pins:List (Addr×Obj))(D:Ends)(f:Flow)(s':Shared):Prop:=
 match f with
 | .next=>∃σ' H',Inv X pins σ' H' s'/\D.nx σ' H'
 | .brk=>∃σ' H',Inv X pins σ' H' s'/\D.bk σ' H'
 | .cont=>∃σ' H',Inv X pins σ' H' s'/\D.ct σ' H'
 | .ret u=>∃v σ' H',Inv X pins σ' H' s'/\Zz v u/\D.rt v H'
def PE (X:Cx)(e:Expr)(t:TE):Prop:=
 ∀(pins:List (Addr×Obj)) (s:Shared) (σ:St) (H:Hp) (Q:VK),Inv X pins σ H s->t σ H Q->wpAny (model X.prog X.w) X.A (eval e X.env) (EP X pins σ Q) X.xe s
def PT (X:Cx)(e:Expr)(t:TT):Prop:=
 ∀(pins:List (Addr×Obj)) (s:Shared) (σ:St) (H:Hp) (Q:Bool->Hp->Prop),Inv X pins σ H s->t σ H Q->wpAny (model X.prog X.w) X.A (isTrue e X.env (eval e X.env)) (TP X pins σ Q) X.xe s
def PW (X:Cx)(e:Expr)(t:TT):Prop:=
 ∀(whole:Sem Value) (pins:List (Addr×Obj)) (s:Shared) (σ:St) (H:Hp) (Q:Bool->Hp->Prop),Inv X pins σ H s->t σ H Q->wpAny (model X.prog X.w) X.A (isTrue e X.env whole) (TP X pins σ Q) X.xe s
theorem PW.pt {X:Cx}{e:Expr}{t:TT}(h:PW X e t):PT X e t:=h _
def PA (X:Cx)(es:List Expr)(t:TA):Prop:=
 ∀(pos:Pos) (pins:List (Addr×Obj)) (s:Shared) (σ:St) (H:Hp) (Q:List V->Hp->Prop),Inv X pins σ H s->t σ H Q->wpAny (model X.prog X.w) X.A (spliced (backTo pos (Wn es X.env))) (AP X pins σ Q) X.xe s
def PS (X:Cx)(st:Stmt)(t:TS):Prop:=
 ∀(pins:List (Addr×Obj)) (s:Shared) (σ:St) (H:Hp) (D:Ends),Inv X pins σ H s->t D σ H->wpAny (model X.prog X.w) X.A (exec st X.env) (SP X pins D) X.xe s
def PSs (X:Cx)(st:List Stmt)(t:TS):Prop:=
 ∀(pins:List (Addr×Obj)) (s:Shared) (σ:St) (H:Hp) (D:Ends),Inv X pins σ H s->t D σ H->wpAny (model X.prog X.w) X.A (execs st X.env) (SP X pins D) X.xe s
theorem thn {α:Type}{t:Sem α}{Q Q':α->Shared->Prop}{M:Model}{A:Around}{E:Value->Shared->Prop}{s:Shared}(h:wpAny M A t Q E s)(hQ:∀a s,Q a s->Q' a s):wpAny M A t Q' E s:=VE h hQ λ_ _ x=>x
end L2
namespace L2
open PySem PySem.Spec PyProof.Rows
section
variable {X:Cx}
def HD (i:Nat):TE:=λσ H Q=>∃v,σ[i]? = some (some v)/\Q v H
def tC (v:V):TE:=λ_ H Q=>Q v H
theorem A1 {i:Nat}{x:Str}{pos:Pos}(hN:X.N[i]? = some x)(hv:Vis X.env.scope x)(hd:(x == ("__debug__" : Str))=false:=by decide)(hcd:(x == ("__classdict__" : Str))=false:=by decide):PE X (.Name x pos) (HD i):=by
 intro pins s σ H Q I h
 obtain⟨v,e,h⟩:=h
 obtain⟨m,hn,hl⟩:=I.loc
 obtain⟨u,r,l⟩:=hl i x v hN e hv
 have fin:EP X pins σ Q u s:=⟨v,H,I,r,h⟩
 rcases l with ⟨hk,hm⟩|⟨hk,c,hc,hcell⟩
 ·exact wpAny_Name (wpAny_loadName_local I.ok.kind hk hn hm fin) hd
 ·rcases hk with hk|hk
  ·exact wpAny_Name (wpAny_loadName_cell I.ok.kind hk hc hcell fin) hd
  ·exact wpAny_Name (wpAny_loadName_free I.ok.kind hk hc hcell fin hcd) hd
theorem Ky {i j pos}:PE X (.Constant (.int i) j pos) (tC (.int i)):=λ_ _ _ H _ I h=>wpAny_Constant_int ⟨.int i,H,I.tok _,⟨_,rfl⟩,h⟩
theorem CS {b j pos}:PE X (.Constant (.bool b) j pos) (tC (.bl b)):=λ_ _ _ H _ I h=>Constant_bool ⟨.bl b,H,I,rfl,h⟩
theorem A5 {j pos}:PE X (.Constant .none j pos) (tC .non):=λ_ _ _ H _ I h=>Constant_none ⟨.non,H,I,rfl,h⟩
theorem A2 {x j pos}:PE X (.Constant (.str x) j pos) (tC (.str x)):=λ_ _ _ H _ I h=>Calls.Constant_str ⟨.str x,H,I.tok _,⟨_,rfl⟩,h⟩
def Gl (X:Cx)(x:Str):Prop:=X.env.kindOf x=some .globalImplicit
theorem Nf {E:Value->Shared->Prop}{pins:List (Addr×Obj)}{s:Shared}{σ:St}{H:Hp}{x:Str}{u:Value}{pos:Pos}{Q:Value->Shared->Prop}(I:Inv X pins σ H s)(hg:Gl X x)(hm:X.mg x=some u)(h:Q u s)
  (hd:(x == ("__debug__" : Str))=false:=by decide):wpAny (model X.prog X.w) X.A (eval (.Name x pos) X.env) Q E s:=
 W0V I.ok.kind hg (Calls.loadGlobal_global (by rw [I.ok.glob];exact I.mod.glob.keeps I.bk) hm h) hd
theorem Q5 {E:Value->Shared->Prop}{pins:List (Addr×Obj)}{s:Shared}{σ:St}{H:Hp}{x:Str}{u:Value}{pos:Pos}{Q:Value->Shared->Prop}(I:Inv X pins σ H s)(hg:Gl X x)(hm:X.mg x=none)(hv:Wz x=some u)(h:Q u s)
  (hn:x≠"__name__":=by decide) (hd:(x == ("__debug__" : Str))=false:=by decide):wpAny (model X.prog X.w) X.A (eval (.Name x pos) X.env) Q E s:=by
 obtain⟨mb,h1,h2⟩:=I.mod.blt
 exact W0V I.ok.kind hg (Calls.loadGlobal_builtin (by rw [I.ok.glob];exact I.mod.glob.keeps I.bk) hm (by rw [I.ok.blt];exact h1.keeps I.bk) ((h2 x hn).trans hv) h) hd
theorem Lb {x:Str}{v:V}{u:Value}{pos:Pos}(hg:Gl X x)(hm:X.mg x=some u)(r:Zz v u)(hd:(x == ("__debug__" : Str))=false:=by decide):PE X (.Name x pos) (tC v):=
 λ_ _ _ H _ I h=>Nf I hg hm ⟨v,H,I,r,h⟩ hd
theorem T6 {x:Str}{v:V}{u:Value}{pos:Pos}(hg:Gl X x)(hm:X.mg x=none)(hv:Wz x=some u)(r:Zz v u)(hn:x≠"__name__":=by decide)(hd:(x == ("__debug__" : Str))=false:=by decide):PE X (.Name x pos) (tC v):=
 λ_ _ _ H _ I h=>Q5 I hg hm hv ⟨v,H,I,r,h⟩ hn hd
variable {a b:Expr} {ta tb:TE} {pos:Pos}
variable {tA tB':TT} {rest:List Expr}
def tOr (t u:TT):TT:=λσ H Q=>t σ H λc H1=>if c=true then Q true H1 else u σ H1 Q
def Ia (t:TT):TT:=λσ H Q=>t σ H λc H1=>Q (!c) H1
theorem FK (ha:PT X a tA):PW X (.BoolOp .Or [a] pos) tA:=by
 intro wh pins s σ H Q I h
 refine isTrue_or (thn (ha pins s σ H Q I h) λc s1 e=>?_)
 cases c with
 |false=>exact isTrue_or_nil e
 |true=>exact e
theorem CM (ha:PT X a tA)(hb:PW X (.BoolOp .Or (b :: rest) pos) tB'):PW X (.BoolOp .Or (a :: b :: rest) pos) (tOr tA tB'):=by
 intro wh pins s σ H Q I h
 refine isTrue_or (thn (ha pins s σ H _ I h) λc s1 ⟨H1,I1,q1⟩=>?_)
 cases c with
 |true=>exact⟨H1,I1,q1⟩
 |false=>exact hb wh pins s1 σ H1 Q I1 q1
theorem FO (ha:PT X a tA):PT X (.UnaryOp .Not a pos) (Ia tA):=by
 intro pins s σ H Q I h
 exact isTrue_not (ha pins s σ H (λc H1=>Q (!c) H1) I h)
theorem A4 {op}{t:TE}(h:PE X a t):PE X (.BoolOp op [a] pos) t:=λpins s σ H Q I hw=>BoolOp_one (h pins s σ H Q I hw)
def tIf (t:TT)(ta tb:TE):TE:=λσ H Q=>t σ H λc H1=>if c=true then ta σ H1 Q else tb σ H1 Q
theorem MM {c:Expr}(hc:PT X c tA)(ha:PE X a ta)(hb:PE X b tb):PE X (.IfExp c a b pos) (tIf tA ta tb):=by
 intro pins s σ H Q I h
 refine wpAny_IfExp (thn (hc pins s σ H _ I h) λd s1 ⟨H1,I1,q1⟩=>?_)
 cases d with
 |true=>exact ha pins s1 σ H1 Q I1 q1
 |false=>exact hb pins s1 σ H1 Q I1 q1
end
end L2
namespace L2
open PySem PySem.Spec PyProof.Rows
def SqL (K:W3)(H:Hp)(a:Addr)(xs:List V):Prop:=
 Rd H a (.lst xs)\/
  ∃(o:Obj) (its:Array Value) (n:Nat),K.lookup a=some o/\o.cls = .type "list"/\o.dict=none/\o.data = .seq its n/\its.size≤Wc/\Zy xs its.toList
def SqT (K:W3)(H:Hp)(a:Addr)(xs:List V):Prop:=
 Rd H a (.tup xs)\/
  ∃(o:Obj) (its:Array Value) (n:Nat),K.lookup a=some o/\o.cls = .type "tuple"/\o.data = .seq its n/\its.size≤Wc/\Zy xs its.toList
def Dc:Value->Option V
 | .none=>some .non
 | .bool b=>some (.bl b)
 | .int i _=>some (.int i)
 | .str x _=>some (.str x)
 | .bytes b _=>some (.byt b)
 | .float b _=>some (.flt b)
 | .ref a=>some (.ref a)
 | .type n=>some (.ty n)
 |_=>none
theorem Zz.abs {x:V}{u:Value}(r:Zz x u):Dc u=some x:=by
 cases x with
 |non=>cases r;rfl
 |bl _=>cases r;rfl
 |int _=>obtain⟨t,rfl⟩:=r;rfl
 |str _=>obtain⟨t,rfl⟩:=r;rfl
 |byt _=>obtain⟨t,rfl⟩:=r;rfl
 |flt _=>obtain⟨t,rfl⟩:=r;rfl
 |ref _=>cases r;rfl
 |ty _=>cases r;rfl
theorem Zz.inj {x y:V}{u:Value}(r:Zz x u)(q:Zz y u):x=y:=WQ (r.abs.symm.trans q.abs)
theorem Zy.inj:∀{xs ys:List V} {us:List Value},Zy xs us->Zy ys us->xs=ys
 |_,_,_,.nil,.nil=>rfl
 |_,_,_,.cons r t,.cons r' t'=>by rw [r.inj r',Zy.inj t t']
section
variable {X:Cx} {pins:List (Addr×Obj)} {σ:St} {H:Hp} {s:Shared} {a:Addr} {xs ys:List V}
theorem SqL.of {K:W3}(h:H a=some (.lst xs)):SqL K H a xs:=.inl (.inl h)
theorem SqT.of {K:W3}(h:H a=some (.tup xs)):SqT K H a xs:=.inl (.inl h)
theorem Inv.list (I:Inv X pins σ H s)(h:SqL X.K H a xs):∃its:List Value,Zy xs its/\PlainL s.heap a its.toArray/\xs.length≤Wc:=by
 rcases h with h|⟨o,its,n,hk,hc,hd,hs,hz,r⟩
 ·obtain⟨z,its,n,r,e⟩:=h.ok I.hok
  exact⟨its,r,⟨_,n,e,rfl,rfl,rfl⟩,z⟩
 ·refine⟨its.toList,r,⟨o,n,I.kIn a o hk,hc,hd,by simpa using hs⟩,?_⟩
  have e:=r.length
  simp only [VF] at e
  omega
theorem Inv.tuple (I:Inv X pins σ H s)(h:SqT X.K H a xs):∃its:List Value,Zy xs its/\IsTup s.heap a its.toArray/\xs.length≤Wc:=by
 rcases h with h|⟨o,its,n,hk,hc,hs,hz,r⟩
 ·obtain⟨z,its,r,p⟩:=h.ok I.hok
  exact⟨its,r,p.1,z⟩
 ·refine⟨its.toList,r,⟨o,I.kIn a o hk,hc,n,by simpa using hs⟩,?_⟩
  have e:=r.length
  simp only [VF] at e
  omega
theorem Inv.list_inj (I:Inv X pins σ H s)(h:SqL X.K H a xs)(h':SqL X.K H a ys):xs=ys:=by
 obtain⟨its,r,⟨o,n,e,_,_,d⟩,_⟩:=I.list h
 obtain⟨its',r',⟨o',n',e',_,_,d'⟩,_⟩:=I.list h'
 rw [e] at e';cases e'
 rw [d] at d'
 injection d' with d1 _
 have:its=its':=by simpa using congrArg Array.toList d1
 subst this
 exact r.inj r'
theorem Inv.tuple_inj (I:Inv X pins σ H s)(h:SqT X.K H a xs)(h':SqT X.K H a ys):xs=ys:=by
 obtain⟨its,r,⟨o,e,_,n,d⟩,_⟩:=I.tuple h
 obtain⟨its',r',⟨o',e',_,n',d'⟩,_⟩:=I.tuple h'
 rw [e] at e';cases e'
 rw [d] at d'
 injection d' with d1 _
 have:its=its':=by simpa using congrArg Array.toList d1
 subst this
 exact r.inj r'
end
abbrev Cx.wish (X:Cx)(E:Value->Shared->Prop):Cx:={ X with xe:=E }
abbrev Cx.nox (X:Cx):Cx:=X.wish λ_ _=>False
theorem Cx.Ok.wish {X:Cx}(ok:X.Ok)(E:Value->Shared->Prop):(X.wish E).Ok:=
 ⟨ok.mod,ok.kind,ok.glob,ok.blt,ok.above,ok.inj,ok.has,ok.cab,ok.hd,ok.frames,ok.stk,ok.exf,ok.bs,ok.bsz,ok.noex,ok.exfs,ok.funs,ok.frf⟩
theorem Cx.Ok.unwish {X:Cx}{E:Value->Shared->Prop}(ok:(X.wish E).Ok):X.Ok:=
 ⟨ok.mod,ok.kind,ok.glob,ok.blt,ok.above,ok.inj,ok.has,ok.cab,ok.hd,ok.frames,ok.stk,ok.exf,ok.bs,ok.bsz,ok.noex,ok.exfs,ok.funs,ok.frf⟩
section
variable {X:Cx} {pins:List (Addr×Obj)} {σ:St} {H:Hp} {s:Shared} {E:Value->Shared->Prop}
theorem Inv.wish (I:Inv X pins σ H s)(E:Value->Shared->Prop):Inv (X.wish E) pins σ H s:=⟨I.ok.wish E,I.os,I.bare,I.base,I.loc,I.cell,I.free,I.freeC,I.pin,I.hok,I.len⟩
theorem Inv.unwish (I:Inv (X.wish E) pins σ H s):Inv X pins σ H s:=⟨I.ok.unwish,I.os,I.bare,I.base,I.loc,I.cell,I.free,I.freeC,I.pin,I.hok,I.len⟩
theorem SP.unwish {D:Ends}{f:Flow}{s':Shared}(h:SP (X.wish E) pins D f s'):SP X pins D f s':=by
 cases f with
 |next=>obtain⟨σ',H',I,q⟩:=h;exact⟨σ',H',I.unwish,q⟩
 |brk=>obtain⟨σ',H',I,q⟩:=h;exact⟨σ',H',I.unwish,q⟩
 |cont=>obtain⟨σ',H',I,q⟩:=h;exact⟨σ',H',I.unwish,q⟩
 |ret u=>obtain⟨v,σ',H',I,r,q⟩:=h;exact⟨v,σ',H',I.unwish,r,q⟩
theorem PSs.nox {st:List Stmt}{t:TS}(h:PSs X.nox st t):PSs X st t:=λpins s σ H D I hw=>
 VE (h pins s σ H D (I.wish _) hw) (λ_ _ q=>q.unwish) λ_ _ z=>False.elim z
end
section
variable {X:Cx} {st:Stmt} {rest:List Stmt} {t u:TS} {e:Expr} {te:TE} {pos:Pos}
def Cz:TS:=λD σ H=>D.nx σ H
def SX (t u:TS):TS:=λD σ H=>t { D with nx:=u D } σ H
theorem L0:PSs X [] Cz:=λ_ _ σ H _ I h=>wpAny_execs_nil ⟨σ,H,I,h⟩
theorem MG (h1:PS X st t)(h2:PSs X rest u):PSs X (st :: rest) (SX t u):=by
 intro pins s σ H D I h
 refine wpAny_execs_cons (thn (h1 pins s σ H { D with nx:=u D } I h) λf s1 q=>?_)
 cases f with
 |next=>
  obtain⟨σ',H',I',q⟩:=q
  exact h2 pins s1 σ' H' D I' q
 |ret v=>exact q
 |brk=>exact q
 |cont=>exact q
theorem PZ (h1:PS X st t):PSs X [st] t:=by
 intro pins s σ H D I h
 refine wpAny_execs_cons (thn (h1 pins s σ H D I h) λf s1 q=>?_)
 cases f with
 |next=>exact wpAny_execs_nil q
 |ret v=>exact q
 |brk=>exact q
 |cont=>exact q
theorem Inv.quiet {pins:List (Addr×Obj)}{σ:St}{H:Hp}{s:Shared}(I:Inv X pins σ H s):interactive X.env=false:=by simp [interactive,I.ok.kind]
def CA (te:TE):TS:=λD σ H=>te σ H λ_ H1=>D.nx σ H1
theorem L3 (he:PE X e te)(hs:swapsWith e none pos.line X.env=pure false:=by rfl):PS X (.Expr e pos) (CA te):=by
 intro pins s σ H D I h
 exact wpAny_Expr_any (thn (he pins s σ H _ I h) λv s1 ⟨x,H1,I1,r1,q1⟩=>⟨σ,H1,I1,q1⟩) I.quiet hs
def SZ (te:TE):TS:=λD σ H=>te σ H D.rt
theorem FQ (he:PE X e te):PS X (.Return (some e) pos) (SZ te):=by
 intro pins s σ H D I h
 exact wpAny_Return_some (thn (he pins s σ H _ I h) λv s1 ⟨x,H1,I1,r1,q1⟩=>⟨x,σ,H1,I1,r1,q1⟩)
def Ic (c:TT)(t u:TS):TS:=λD σ H=>c σ H λb H1=>if b=true then t D σ H1 else u D σ H1
theorem CN {c:Expr}{a b:List Stmt}{tc:TT}(hc:PT X c tc)(ha:PSs X a t)(hb:PSs X b u):PS X (.If c a b pos) (Ic tc t u):=by
 intro pins s σ H D I h
 refine wpAny_If (thn (hc pins s σ H _ I h) λd s1 ⟨H1,I1,q1⟩=>?_)
 cases d with
 |true=>exact ha pins s1 σ H1 D I1 q1
 |false=>exact hb pins s1 σ H1 D I1 q1
end
abbrev TG:=V->St->Hp->(St->Hp->Prop)->Prop
abbrev TGs:=List V->St->Hp->(St->Hp->Prop)->Prop
def PG (X:Cx)(target:Expr)(t:TG):Prop:=
 ∀(pins:List (Addr×Obj)) (s:Shared) (σ:St) (H:Hp) (v:V) (u:Value) (Q:St->Hp->Prop),Inv X pins σ H s->Zz v u->t v σ H Q->
  wpAny (model X.prog X.w) X.A (assign target X.env u) (λ_ s'=>∃σ' H',Inv X pins σ' H' s'/\Q σ' H') X.xe s
def PGs (X:Cx)(ts:List Expr)(t:TGs):Prop:=
 ∀(pins:List (Addr×Obj)) (s:Shared) (σ:St) (H:Hp) (vs:List V) (us:List Value) (Q:St->Hp->Prop),Inv X pins σ H s->Zy vs us->t vs σ H Q->
  wpAny (model X.prog X.w) X.A (assignInOrder ((assignEach ts X.env).map (·.2)) us) (λ_ s'=>∃σ' H',Inv X pins σ' H' s'/\Q σ' H') X.xe s
abbrev Cu:=V->V->V->Hp->(Hp->Prop)->Prop
def Ps (X:Cx)(t:Cu):Prop:=
 ∀(pins:List (Addr×Obj)) (s:Shared) (σ:St) (H:Hp) (o i v:V) (ov iv u:Value) (Q:Hp->Prop),Inv X pins σ H s->Zz o ov->Zz i iv->Zz v u->t o i v H Q->
  wpAny (model X.prog X.w) X.A (setItem ov iv u) (λ_ s'=>∃H',Inv X pins σ H' s'/\Q H') X.xe s
section
variable {X:Cx} {pos:Pos}
def UG (i:Nat):TG:=λv σ H Q=>Q (σ.set i (some v)) H
theorem ZC {i:Nat}{x:Str}(hN:X.N.Nodup)(hi:X.N[i]? = some x)(hx:Loc X.env.scope x)(hf:X.fn x=true\/X.env.scope.names.lookup x=some .local:=by first|exact .inl rfl|exact .inr rfl|assumption):PG X (.Name x pos) (UG i):=by
 intro pins s σ H v u Q I r h
 exact wpAny_assign_Name (TN I hN hi hx r (λs' I'=>⟨_,H,I',h⟩) hf)
def EE:TGs:=λvs σ H Q=>vs=[]/\Q σ H
def NU (t:TG)(u:TGs):TGs:=λvs σ H Q=>∃v r,vs=v :: r/\t v σ H λσ' H'=>u r σ' H' Q
theorem L9:PGs X [] EE:=by
 intro pins s σ H vs us Q I r h
 obtain⟨e,h⟩:=h
 subst e
 cases r
 exact assignInOrder_nil ⟨σ,H,I,h⟩
theorem TZ {e:Expr}{es:List Expr}{t:TG}{u:TGs}(h1:PG X e t)(h2:PGs X es u)
  (hs:(assignEach (e :: es) X.env).map (·.2)=assign e X.env :: (assignEach es X.env).map (·.2):=by rfl):PGs X (e :: es) (NU t u):=by
 intro pins s σ H vs us Q I r h
 obtain⟨v,vr,e1,h⟩:=h
 subst e1
 cases r with
 |cons r rr=>
  rw [hs]
  refine assignInOrder_cons (thn (h1 pins s σ H _ _ _ I r h) λ_ s1 ⟨σ1,H1,I1,q1⟩=>?_)
  exact h2 pins s1 σ1 H1 _ _ Q I1 rr q1
def Ho (K:W3)(n:Nat)(t:TGs):TG:=λv σ H Q=>∃a xs,v = .ref a/\SqT K H a xs/\xs.length=n/\t xs σ H Q
theorem FX {es:List Expr}{k:Nat}{t:TGs}{n:Nat}(hc:X.calm=true)(h:PGs X es t)
  (hn:(assignEach es X.env).length=n:=by rfl) (hst:(assignEach es X.env).findIdx? (·.1)=none:=by rfl):PG X (.Tuple es k pos) (Ho X.K n t):=by
 intro pins s σ H v u Q I r hw
 obtain⟨a,xs,e1,hq,hl,hw⟩:=hw
 subst e1
 cases r
 obtain⟨its,rv,ht,hz⟩:=I.tuple hq
 refine assign_Tuple_tuple (I.ok.hd hc) ht (by simp [hn,←hl,rv.length]) hst λh' hx=>?_
 have I1:Inv X pins σ H { s with heap:=h' }:=I.kept (t':=s.toks) λb o e=>hx b o (WJ (Ws e)) e
 exact h pins _ σ H xs _ Q I1 (by simpa using rv) hw
def Be (to ti:TE)(t:Cu):TG:=λv σ H Q=>to σ H λo H1=>ti σ H1 λi H2=>t o i v H2 λH3=>Q σ H3
theorem FY {o i:Expr}{to ti:TE}{t:Cu}(ho:PE X o to)(hi:PE X i ti)(hs:Ps X t)
  (ha:∀v,assign (.Subscript o i pos) X.env v=(do
   let ov ←holding [v] (eval o X.env)
   let iv ←holding [v,ov] (eval i X.env)
   standAt pos
   holding [v,ov,iv] (setItem ov iv v)
   release [v,ov,iv] []):=by intro _;rfl):PG X (.Subscript o i pos) (Be to ti t):=by
 intro pins s σ H v u Q I r h
 rw [ha]
 refine W2 (VO (thn (ho pins s σ H _ I h) λov s1 ⟨x,H1,I1,r1,q1⟩=>?_))
 refine W2 (VO (thn (hi pins s1 σ H1 _ I1 q1) λiv s2 ⟨y,H2,I2,r2,q2⟩=>?_))
 refine W2 (wpAny_standAt (W2 (VO (thn (hs pins s2 σ H2 x y v ov iv u _ I2 r1 r2 r q2) λ_ s3 ⟨H3,I3,q3⟩=>?_))))
 exact wpAny_release ⟨σ,H3,I3,q3⟩
def Cq (te:TE)(g:TG):TS:=λD σ H=>te σ H λx H1=>g x σ H1 D.nx
theorem FS {tg e:Expr}{te:TE}{g:TG}(he:PE X e te)(hg:PG X tg g)(hs:swapsWithSole [tg] e pos.line X.env=pure false:=by rfl)(hw:swappedStores [tg] e X.env=pure none:=by rfl)
  (h1:(assignEach [tg] X.env).map (·.2)=[assign tg X.env]:=by rfl):PS X (.Assign [tg] e pos) (Cq te g):=by
 intro pins s σ H D I h
 refine wpAny_Assign_stores (thn (he pins s σ H _ I h) λv s1 ⟨x,H1,I1,r1,q1⟩=>?_) hs hw
 rw [h1]
 exact thn (hg pins s1 σ H1 x v _ I1 r1 q1) λ_ s2 q=>q
theorem FP {i:Nat}{x:Str}{e:Expr}{te:TE}{pos':Pos}(hN:X.N.Nodup)(hi:X.N[i]? = some x)(hx:Loc X.env.scope x)(he:PE X e te)(hs:swapsWith e (some (.Name x pos')) pos.line X.env=pure false:=by rfl)(hf:X.fn x=true\/X.env.scope.names.lookup x=some .local:=by first|exact .inl rfl|exact .inr rfl|assumption) :
  PS X (.Assign [.Name x pos'] e pos) (Cq te (UG i)):=by
 intro pins s σ H D I h
 refine wpAny_Assign_Name (thn (he pins s σ H _ I h) λv s1 ⟨y,H1,I1,r1,q1⟩=>?_) hs
 exact TN I1 hN hi hx r1 (λs2 I2=>⟨_,H1,I2,q1⟩) hf
end
section
variable {X:Cx} {pos:Pos}
end
structure It where
 go:Nat->Hp->Prop
 yld:Nat->Hp->V->Hp->Prop
 stop:Nat->Hp->Prop
def Mo (X:Cx)(pins:List (Addr×Obj))(H:Hp)(b:Addr):Prop:=
 H b=none/\b≠X.env.locals/\b∉X.fs/\(b∈X.ex\/X.s₀.heap.objs.size≤b)/\(∀x c,X.env.cells.lookup x=some c->c≠b)/\∀p∈X.pn++pins,p.1≠b
theorem Inv.fpOk {X:Cx}{pins:List (Addr×Obj)}{σ:St}{H H':Hp}{s:Shared}{b:Addr}(I:Inv X pins σ H s)(hb:s.heap.objs.size≤b)(hn:H' b=none):Mo X pins H' b:=by
 refine⟨hn,W0z (WB I.lt hb),I.nofs hb,.inr (Wx I.sz hb),λx c e z=>?_,λp hp z=>?_⟩
 ·obtain⟨v,q⟩:=I.cell x c e
  exact absurd (WB q.lt (by rw [z];exact hb)) (Vg _)
 ·exact absurd (WB (Ws (I.pin p hp).1) (by rw [z];exact hb)) (Vg _)
structure Turn (P:Program) (w:World) (K:W3) (tg:Expr) (J:It) (fp:List Addr) (it:Addr) (tn:Nat->Heap->Prop):Prop where
 mem:it∈fp
 obj:∀i h,tn i h->∀b∈fp,∃o,h.get? b=some o/\∀v,o.data≠.cell v
 keep:∀i h h',tn i h->(∀b∈fp,∀o,h.get? b=some o->h'.get? b=some o)->tn i h'
 item:∀(X:Cx),X.prog=P->X.w=w->X.K=K->X.calm=true->∀(i:Nat) (pins:List (Addr×Obj)) (s:Shared) (σ:St) (H:Hp) (E:Value->Shared->Prop),Inv X pins σ H s->(∀b∈fp,Mo X pins H b)->tn i s.heap->J.go i H->
  wpAny (model P w) X.A (pyNext (.ref it)) (λr s1=>∃u,r=some u/\
   wpAny (model P w) X.A (letOwnedTupleGo tg (.ref it) u) (λ_ s2=>∃x H',Inv X pins σ H' s2/\Zz x u/\J.yld i H x H'/\tn (i+1) s2.heap/\∀b∈fp,H' b=none) E s1) E s
 done:∀(X:Cx),X.prog=P->X.w=w->X.K=K->X.calm=true->∀(i:Nat) (pins:List (Addr×Obj)) (s:Shared) (σ:St) (H:Hp) (E:Value->Shared->Prop),Inv X pins σ H s->(∀b∈fp,Mo X pins H b)->tn i s.heap->J.stop i H->
  wpAny (model P w) X.A (pyNext (.ref it)) (λr s1=>r=none/\Inv X pins σ H s1) E s
 self:∀(A:Around) (i:Nat) (s:Shared) (Q:Value->Shared->Prop) (E:Value->Shared->Prop),tn i s.heap->Q (.ref it) s->wpAny (model P w) A (pyIter (.ref it)) Q E s
abbrev TI:=St->Hp->(It->Hp->Prop)->Prop
def PIE (X:Cx)(pins:List (Addr×Obj))(σ:St)(tg:Expr)(R:It->Hp->Prop)(itv:Value)(s2:Shared):Prop:=
 ∃(it:Addr) (fp:List Addr) (tn:Nat->Heap->Prop) (J:It) (H':Hp),itv = .ref it/\Inv X pins σ H' s2/\Turn X.prog X.w X.K tg J fp it tn/\tn 0 s2.heap/\(∀b∈fp,Mo X pins H' b)/\R J H'
def PI (X:Cx)(tg iter:Expr)(wi:TI):Prop:=
 ∀(pins:List (Addr×Obj)) (s:Shared) (σ:St) (H:Hp) (R:It->Hp->Prop),Inv X pins σ H s->wi σ H R->
  wpAny (model X.prog X.w) X.A (eval iter X.env) (λv s1=>wpAny (model X.prog X.w) X.A (pyIter v) (PIE X pins σ tg R) X.xe s1) X.xe s
theorem NS {M:Model}{A:Around}{E:Value->Shared->Prop}{s:Shared}{tg:Expr}{it:Addr}{u:Value}{o:Obj}{n:String}{vs:Array Value}{Q:Unit->Shared->Prop}(ho:s.heap.get? it=some o)(hc:o.cls = .type n)(hd:o.data = .fields vs)
  (hn:["enumerate", "zip", "dict_itemiterator", "dict_reverseitemiterator", "odict_iterator", "itertools.zip_longest", "itertools.pairwise"].contains n=false) (hQ:Q () s):wpAny M A (letOwnedTupleGo tg (.ref it) u) Q E s:=by
 unfold letOwnedTupleGo
 cases tg<;>first
  |exact Wk hQ
  | (cases u<;>first
     |exact Wk hQ
     | (refine W2 (wpAny_load ho ?_)
        rw [hc,hd]
        show wpAny M A (if (["enumerate", "zip", "dict_itemiterator", "dict_reverseitemiterator", "odict_iterator", "itertools.zip_longest", "itertools.pairwise"].contains n&&vs[0]? == some (rawInt _))=true then _ else _) Q E s
        rw [if_neg (by intro h;rw [hn,Bool.false_and] at h;cases h)]
        exact Wk hQ))
def Itl (K:W3)(a:Addr):It:=
 ⟨λi H=>∃xs x,SqL K H a xs/\xs[i]? = some x,λi H x H'=>H'=H/\∀xs,SqL K H a xs->xs[i]? = some x,λi H=>∃xs,SqL K H a xs/\xs.length≤i⟩
def Itt (K:W3)(a:Addr):It:=
 ⟨λi H=>∃xs x,SqT K H a xs/\xs[i]? = some x,λi H x H'=>H'=H/\∀xs,SqT K H a xs->xs[i]? = some x,λi H=>∃xs,SqT K H a xs/\xs.length≤i⟩
def Itr (lo:Int)(n:Nat):It:=⟨λi _=>i<n,λi H x H'=>H'=H/\x = .int (lo+i),λi _=>n≤i⟩
theorem Bm {P:Program}{w:World}{K:W3}{tg:Expr}(a it:Addr):Turn P w K tg (Itl K a) [it] it (λi h=>h.IsListIter it a i) where
 mem:=by simp
 obj:=λi h st b hb=>by
  have e:b=it:=by simpa using hb
  subst e
  obtain⟨o,e,c,d⟩:=st
  exact⟨o,e,λv z=>by rw [d] at z;cases z⟩
 keep:=λi h h' st k=>st.at λo e=>k it (by simp) o e
 item:=by
  intro X hP hw hK hc i pins s σ H E I hf st hg
  subst hP hw hK
  obtain⟨xs,x,hq,hx⟩:=hg
  obtain⟨its,rv,p,hz⟩:=I.list hq
  obtain⟨u,hu,ru⟩:=rv.get hx
  obtain⟨f0,f1,f2,f3,f4,f5⟩:=hf it (by simp)
  refine wpAny_pyNext_list_item st p.isList (x:=u) (by simpa using hu) λh' st' sb=>?_
  have I1:Inv X pins σ H { s with heap:=h' }:=I.turned (t':=s.toks) (λb o hb e=>(sb.2 b hb).trans e) f0 f1 f3 f4 f5
  obtain⟨o,e,c,d⟩:=id st'
  exact⟨u,rfl,NS (s:={ s with heap:=h' }) e c d (by decide) ⟨x,H,I1,ru,⟨rfl,λys hy=>by rw [I.list_inj hy hq];exact hx⟩,st',λb hb=>(hf b hb).1⟩⟩
 done:=by
  intro X hP hw hK hc i pins s σ H E I hf st hg
  subst hP hw hK
  obtain⟨xs,hq,hx⟩:=hg
  obtain⟨its,rv,p,hz⟩:=I.list hq
  obtain⟨f0,f1,f2,f3,f4,f5⟩:=hf it (by simp)
  have hl:=rv.length
  exact wpAny_pyNext_list_end (I.ok.hd hc) st p.isList (by simp;omega) λh' eb=>⟨rfl,I.turned (t':=s.toks) (λb o hb e=>eb b o hb e) f0 f1 f3 f4 f5⟩
 self:=λ_ _ _ _ _ st h=>wpAny_pyIter_listiter st h
theorem GJ {P:Program}{w:World}{K:W3}{tg:Expr}(a it:Addr):Turn P w K tg (Itt K a) [it] it (λi h=>h.IsTupleIter it a i) where
 mem:=by simp
 obj:=λi h st b hb=>by
  have e:b=it:=by simpa using hb
  subst e
  obtain⟨o,e,c,d⟩:=st
  exact⟨o,e,λv z=>by rw [d] at z;cases z⟩
 keep:=λi h h' st k=>st.at λo e=>k it (by simp) o e
 item:=by
  intro X hP hw hK hc i pins s σ H E I hf st hg
  subst hP hw hK
  obtain⟨xs,x,hq,hx⟩:=hg
  obtain⟨its,rv,p,hz⟩:=I.tuple hq
  obtain⟨u,hu,ru⟩:=rv.get hx
  obtain⟨f0,f1,f2,f3,f4,f5⟩:=hf it (by simp)
  refine wpAny_pyNext_tuple_item st (show s.heap.IsTuple a its.toArray from p) (x:=u) (by simpa using hu) λh' st' sb=>?_
  have I1:Inv X pins σ H { s with heap:=h' }:=I.turned (t':=s.toks) (λb o hb e=>(sb.2 b hb).trans e) f0 f1 f3 f4 f5
  obtain⟨o,e,c,d⟩:=id st'
  exact⟨u,rfl,NS (s:={ s with heap:=h' }) e c d (by decide) ⟨x,H,I1,ru,⟨rfl,λys hy=>by rw [I.tuple_inj hy hq];exact hx⟩,st',λb hb=>(hf b hb).1⟩⟩
 done:=by
  intro X hP hw hK hc i pins s σ H E I hf st hg
  subst hP hw hK
  obtain⟨xs,hq,hx⟩:=hg
  obtain⟨its,rv,p,hz⟩:=I.tuple hq
  obtain⟨f0,f1,f2,f3,f4,f5⟩:=hf it (by simp)
  have hl:=rv.length
  exact wpAny_pyNext_tuple_end (I.ok.hd hc) st (show s.heap.IsTuple a its.toArray from p) (by simp;omega) λh' eb=>⟨rfl,I.turned (t':=s.toks) (λb o hb e=>eb b o hb e) f0 f1 f3 f4 f5⟩
 self:=λ_ _ _ _ _ st h=>wpAny_pyIter_tupleiter st h
theorem GK {P:Program}{w:World}{K:W3}{tg:Expr}(it:Addr)(lo:Int)(n:Nat):Turn P w K tg (Itr lo n) [it] it (λi h=>IsRangeIter h it (lo+(i:Nat)*1) ((n:Int)-(i:Nat)) 1) where
 mem:=by simp
 obj:=λi h st b hb=>by
  have e:b=it:=by simpa using hb
  subst e
  exact⟨_,st,λv z=>by
   have z':Data.fields _=Data.cell v:=z
   cases z'⟩
 keep:=λi h h' st k=>k it (by simp) _ st
 item:=by
  intro X hP hw hK hc i pins s σ H E I hf st hg
  subst hP hw hK
  obtain⟨f0,f1,f2,f3,f4,f5⟩:=hf it (by simp)
  have W:=Walks.range (prog:=X.prog) (w:=X.w) (I.ok.hd hc) it lo 1 n
  refine W.item i s _ _ hg st λv h' tk hv st' kk=>?_
  obtain⟨t,rfl⟩:=hv
  have I1:Inv X pins σ H { s with heap:=h',toks:=tk }:=I.turned (λb o hb e=>kk b o (by simpa using hb) e) f0 f1 f3 f4 f5
  refine⟨_,rfl,NS (s:={ s with heap:=h',toks:=tk }) (n:="range_iterator") st' rfl rfl (by decide) ⟨.int (lo+i),H,I1,⟨t,?_⟩,⟨rfl,rfl⟩,st',λb hb=>(hf b hb).1⟩⟩
  rw [Int.mul_one]
 done:=by
  intro X hP hw hK hc i pins s σ H E I hf st hg
  subst hP hw hK
  obtain⟨f0,f1,f2,f3,f4,f5⟩:=hf it (by simp)
  exact wpAny_pyNext_range_end (I.ok.hd hc) st (by have:n≤i:=hg;omega) λh' eb=>⟨rfl,I.turned (t':=s.toks) (λb o hb e=>eb b o hb e) f0 f1 f3 f4 f5⟩
 self:=λ_ _ _ _ _ st h=>W0p st h
end L2
namespace L2
open PySem PySem.Spec PyProof.Rows
section
variable {X:Cx} {tg:Expr}
theorem TX {pins:List (Addr×Obj)}{σ:St}{H:Hp}{s:Shared}{R:It->Hp->Prop}{E:Value->Shared->Prop}{lo hi:Int}{t u v:Tok}{tk:Nat}(I:Inv X pins σ H s)(h1 : -(2 ^ 62)≤lo)(h2:lo<2 ^ 62)(h3 : -(2 ^ 62)≤hi)(h4:hi<2 ^ 62)
  (q:R (Itr lo (hi-lo).toNat) H):wpAny (model X.prog X.w) X.A (pyIter (.ref s.heap.objs.size)) (PIE X pins σ tg R) E { s with heap:=s.heap.push { cls:=.type "range",data:=.fields #[.int lo t,.int hi u,.int 1 v] },toks:=tk }:=by
 refine wpAny_pyIter_range (IsRange.new ..) (small_one h1 h2 h3 h4) ?_
 have I1:Inv X pins σ H { s with heap:=s.heap.push { cls:=.type "range",data:=.fields #[.int lo t,.int hi u,.int 1 v] },toks:=tk }:=I.kept λb o e=>W7 _ e
 refine⟨(s.heap.push { cls:=.type "range",data:=.fields #[.int lo t,.int hi u,.int 1 v] }).objs.size,[(s.heap.push { cls:=.type "range",data:=.fields #[.int lo t,.int hi u,.int 1 v] }).objs.size],_,_,H,rfl,
  I1.kept (t':=tk) λb o e=>W7 _ e,GK _ lo (hi-lo).toNat,?_,λb hb=>?_,q⟩
 ·have e1:lo+((0:Nat):Int)*1=lo:=by simp
  have e2:(((hi-lo).toNat:Nat):Int)-((0:Nat):Int)=Vh lo hi 1:=by rw [rangeSize_one];split<;>omega
  show IsRangeIter _ _ (lo+((0:Nat):Int)*1) ((((hi-lo).toNat:Nat):Int)-((0:Nat):Int)) 1
  rw [e1,e2]
  exact Wv _ rfl
 ·have e:b=(s.heap.push { cls:=.type "range",data:=.fields #[.int lo t,.int hi u,.int 1 v] }).objs.size:=by simpa using hb
  subst e
  exact I1.fpOk (Wp _) (I1.hok.fresh (Wp _))
def Hm (ta:TA):TI:=λσ H R=>ta σ H λvs H1=>∃j:Int,vs=[.int j]/\-(2 ^ 62)≤j/\j<2 ^ 62/\R (Itr 0 j.toNat) H1
def Hl (ta:TA):TI:=λσ H R=>ta σ H λvs H1=>∃i j:Int,vs=[.int i,.int j]/\(-(2 ^ 62)≤i/\i<2 ^ 62/\-(2 ^ 62)≤j/\j<2 ^ 62)/\R (Itr i (j-i).toNat) H1
theorem BR {a:Expr}{ta:TA}{p pos:Pos}(hg:Gl X "range")(hm:X.mg "range" = none)(ha:PA X [a] ta)(hs:Wn [a] X.env=[(false,eval a X.env)]:=by rfl):PI X tg (.Call (.Name "range" p) [a] [] pos) (Hm ta):=by
 intro pins s σ H R I h
 refine Call_ (Q5 I hg hm boot_range (V0 (thn (ha pos pins s σ H _ I h) λus s1 ⟨vs,H1,I1,r1,q1⟩=>?_) hs rfl))
 obtain⟨j,e,q1,q2,q⟩:=q1
 subst e
 cases r1 with
 |cons r rr=>
  cases rr
  obtain⟨t,rfl⟩:=r
  exact call_range_1 (TX I1 (by omega) (by omega) q1 q2 (by simpa using q))
theorem BQ {a b:Expr}{ta:TA}{p pos:Pos}(hg:Gl X "range")(hm:X.mg "range" = none)(ha:PA X [a,b] ta)(hs:Wn [a,b] X.env=[(false,eval a X.env),(false,eval b X.env)]:=by rfl)(hs2:Wn [b] X.env=[(false,eval b X.env)]:=by rfl) :
  PI X tg (.Call (.Name "range" p) [a,b] [] pos) (Hl ta):=by
 intro pins s σ H R I h
 refine Call_ (Q5 I hg hm boot_range (V0 (thn (ha pos pins s σ H _ I h) λus s1 ⟨vs,H1,I1,r1,q1⟩=>?_) (by rw [hs,hs2]) (by rw [hs2];rfl)))
 obtain⟨i,j,e,⟨q1,q2,q3,q4⟩,q⟩:=q1
 subst e
 cases r1 with
 |cons r rr=>
  cases rr with
  |cons r' rr=>
   cases rr
   obtain⟨t,rfl⟩:=r
   obtain⟨t',rfl⟩:=r'
   exact call_range_2 (TX I1 q1 q2 q3 q4 q)
def Ie (wi:TI)(g:TG)(tb:TS):TS:=λD σ H=>wi σ H λJ H1=>∃W:Nat->Nat->St->Hp->Prop,(∃m,W 0 m σ H1)/\∀i m σ H,W i m σ H->
 (J.stop i H/\D.nx σ H)\/(J.go i H/\∃N:St->Hp->Prop,(∀σ' H',N σ' H'->∃m',m'<m/\W (i+1) m' σ' H')/\∀x H',J.yld i H x H'->g x σ H' λσ2 H2=>tb { D with nx:=N,ct:=N,bk:=D.nx } σ2 H2)
def Ul (fp:List Addr)(h:Heap):List (Addr×Obj):=fp.filterMap λb=>(h.get? b).map λo=>(b,o)
theorem YS {fp:List Addr}{h:Heap}{b:Addr}{o:Obj}(hb:b∈fp)(e:h.get? b=some o):(b,o)∈Ul fp h:=List.mem_filterMap.mpr ⟨b,hb,by rw [e];rfl⟩
theorem BY {fp:List Addr}{h:Heap}{p:Addr×Obj}(hp:p∈Ul fp h):p.1∈fp/\h.get? p.1=some p.2:=by
 obtain⟨b,hb,e⟩:=List.mem_filterMap.mp hp
 cases q:h.get? b with
 |none=>rw [q] at e;cases e
 |some o=>
  rw [q] at e
  have e':(b,o)=p:=WQ e
  subst e'
  exact⟨hb,q⟩
theorem Inv.pinned {pins:List (Addr×Obj)}{σ:St}{H:Hp}{s:Shared}{fp:List Addr}(I:Inv X pins σ H s)(hf:∀b∈fp,Mo X pins H b)(ho:∀b∈fp,∃o,s.heap.get? b=some o/\∀v,o.data≠.cell v):Inv X (pins++Ul fp s.heap) σ H s:=
 I.pins_of λp hp=>(W03.mp hp).elim (λz=>I.pin p (WE _ z)) λz=>by
  obtain⟨hb,e⟩:=BY z
  obtain⟨f0,f1,f2,_⟩:=hf p.1 hb
  obtain⟨o,e',d⟩:=ho p.1 hb
  rw [e] at e';cases e'
  exact⟨e,f0,f1,f2,d⟩
theorem Inv.unpinned {pins pl:List (Addr×Obj)}{σ:St}{H:Hp}{s:Shared}(I:Inv X (pins++pl) σ H s):Inv X pins σ H s:=I.pins_of λp hp=>I.pin p (WE _ (W0b _ hp))
theorem FR {iter:Expr}{body:List Stmt}{wi:TI}{g:TG}{tb:TS}{pos:Pos}(hp:PassesOwn (model X.prog X.w) X.A X.env X.xe)(hc:X.calm=true)(hi:PI X tg iter wi)(hg:PG X tg g)(hb:PSs X body tb)
  (hs:∀x,foldedSetIterable iter X.env x=pure x:=by intro _;rfl):PS X (.For tg iter body [] pos) (Ie wi g tb):=by
 intro pins s σ H D I h
 refine wpAny_For (thn (hi pins s σ H _ I h) λv s1 h1=>thn h1 λitv s2 h2=>?_) hs
 obtain⟨it,fp,tn,J,H2,e,I2,T,st2,f2,W,⟨m0,w0⟩,turn⟩:=h2
 subst e
 -- what stays true of the iterator's objects through the loop
 have stat:∀{H':Hp},(∀b∈fp,H' b=none)->∀b∈fp,Mo X pins H' b:=λhn b hb=>⟨hn b hb,(f2 b hb).2⟩
 refine codeAny_forLoop_any (λn s'=>∃i σ' H',Inv X pins σ' H' s'/\tn i s'.heap/\(∀b∈fp,H' b=none)/\W i n σ' H') ?_ m0 ⟨0,σ,H2,I2,st2,λb hb=>(f2 b hb).1,w0⟩
 rintro n s3 ⟨i,σ3,H3,I3,st3,fr3,w3⟩
 rcases turn i n σ3 H3 w3 with ⟨stop,qn⟩|⟨go,N,hN,step⟩
 ·refine W0h hp (thn (T.done X rfl rfl rfl hc i pins s3 σ3 H3 X.xe I3 (stat fr3) st3 stop) λr s4 ⟨hr,I4⟩=>?_)
  subst hr
  exact wpAny_execs_nil ⟨σ3,H3,I4,qn⟩
 ·refine W0h hp (thn (T.item X rfl rfl rfl hc i pins s3 σ3 H3 X.xe I3 (stat fr3) st3 go) λr s4 ⟨u,hr,h4⟩=>?_)
  subst hr
  refine W0h hp (thn h4 λ_ s5 ⟨x,H5,I5,r5,y5,st5,fr5⟩=>?_)
  have I5':=I5.pinned (stat fr5) (T.obj _ _ st5)
  refine W0h hp (thn (hg _ s5 σ3 H5 x u _ I5' r5 (step x H5 y5)) λ_ s6 ⟨σ6,H6,I6,q6⟩=>?_)
  refine W0h hp (thn (hb _ s6 σ6 H6 _ I6 q6) λf s7 q7=>?_)
  have again:∀{σ7:St} {H7:Hp},Inv X (pins++Ul fp s5.heap) σ7 H7 s7->N σ7 H7->∃m,m<n/\∃i σ' H',Inv X pins σ' H' s7/\tn i s7.heap/\(∀b∈fp,H' b=none)/\W i m σ' H':=λ{σ7 H7} I7 n7=>by
   obtain⟨m',hm,w7⟩:=hN σ7 H7 n7
   refine⟨m',hm,i+1,σ7,H7,I7.unpinned,T.keep _ _ _ st5 λb hb o e=>(I7.pin (b,o) (WE _ (WE _ (YS hb e)))).1,λb hb=>?_,w7⟩
   obtain⟨o,e,d⟩:=T.obj _ _ st5 b hb
   exact (I7.pin (b,o) (WE _ (WE _ (YS hb e)))).2.1
  cases f with
  |next=>obtain⟨σ7,H7,I7,n7⟩:=q7;exact again I7 n7
  |cont=>obtain⟨σ7,H7,I7,n7⟩:=q7;exact again I7 n7
  |brk=>obtain⟨σ7,H7,I7,q7⟩:=q7;exact⟨σ7,H7,I7.unpinned,q7⟩
  |ret v=>obtain⟨x7,σ7,H7,I7,r7,q7⟩:=q7;exact⟨x7,σ7,H7,I7.unpinned,r7,q7⟩
end
end L2
namespace L2
open PySem PySem.Spec PyProof.Rows
abbrev R2:=V->V->Hp->VK->Prop
def OpR (X:Cx)(f:Value->Value->Sem Value)(r:R2):Prop:=
 ∀(pins:List (Addr×Obj)) (s:Shared) (σ:St) (H:Hp) (x y:V) (v u:Value) (Q:VK),Inv X pins σ H s->Zz x v->Zz y u->r x y H Q->
  wpAny (model X.prog X.w) X.A (f v u) (EP X pins σ Q) X.xe s
def UnR (X:Cx)(f:Value->Sem Value)(r:V->Hp->VK->Prop):Prop:=
 ∀(pins:List (Addr×Obj)) (s:Shared) (σ:St) (H:Hp) (x:V) (v:Value) (Q:VK),Inv X pins σ H s->Zz x v->r x H Q->
  wpAny (model X.prog X.w) X.A (f v) (EP X pins σ Q) X.xe s
def YH (X:Cx)(f:Value)(r:List V->Hp->VK->Prop):Prop:=
 ∀(pins:List (Addr×Obj)) (s:Shared) (σ:St) (H:Hp) (xs:List V) (us:List Value) (Q:VK),Inv X pins σ H s->Zy xs us->r xs H Q->
  wpAny (model X.prog X.w) X.A (call f us) (EP X pins σ Q) X.xe s
def SN (X:Cx)(r:V->Hp->(Bool->Hp->Prop)->Prop):Prop:=
 ∀(pins:List (Addr×Obj)) (s:Shared) (σ:St) (H:Hp) (x:V) (v:Value) (Q:Bool->Hp->Prop),Inv X pins σ H s->Zz x v->r x H Q->
  wpAny (model X.prog X.w) X.A (truthy v) (TP X pins σ Q) X.xe s
def tOp (r:R2)(ta tb:TE):TE:=λσ H Q=>ta σ H λx H1=>tb σ H1 λy H2=>r x y H2 Q
def tUn (r:V->Hp->VK->Prop)(ta:TE):TE:=λσ H Q=>ta σ H λx H1=>r x H1 Q
def rI (C:Int->Int->Prop)(g:Int->Int->V):R2:=λx y H Q=>∃i j,x = .int i/\y = .int j/\C i j/\Q (g i j) H
def rI0 (g:Int->Int->V):R2:=λx y H Q=>∃i j,x = .int i/\y = .int j/\Q (g i j) H
def rU (g:Int->V):V->Hp->VK->Prop:=λx H Q=>∃i,x = .int i/\Q (g i) H
section
variable {X:Cx} {a b c:Expr} {ta tb tc:TE} {pos:Pos}
theorem Hy (ha:PE X a ta)(hb:PE X b tb){pins:List (Addr×Obj)}{s:Shared}{σ:St}{H:Hp}{R:V->V->Hp->Prop}(I:Inv X pins σ H s)
  (h:ta σ H λx H1=>tb σ H1 λy H2=>R x y H2) {Q:Value->Shared->Prop} {f:Value->Value->Sem Value}
  (hf:∀v u s2 x y H2,Inv X pins σ H2 s2->Zz x v->Zz y u->R x y H2->wpAny (model X.prog X.w) X.A (f v u) Q X.xe s2) :
  wpAny (model X.prog X.w) X.A (eval a X.env) (λv s₁=>wpAny (model X.prog X.w) X.A (eval b X.env) (λu s₂=>wpAny (model X.prog X.w) X.A (f v u) Q X.xe s₂) X.xe s₁) X.xe s:=by
 refine thn (ha pins s σ H _ I h) λv s1 ⟨x,H1,I1,r1,q1⟩=>?_
 refine thn (hb pins s1 σ H1 _ I1 q1) λu s2 ⟨y,H2,I2,r2,q2⟩=>?_
 exact hf v u s2 x y H2 I2 r1 r2 q2
theorem CP {op:Operator}{r:R2}(ho:OpR X (binaryOp op) r)(ha:PE X a ta)(hb:PE X b tb):PE X (.BinOp a op b pos) (tOp r ta tb):=by
 intro pins s σ H Q I h
 exact wpAny_BinOp (Hy ha hb I h λv u s2 x y H2 I2 rx ry q=>ho pins s2 σ H2 x y v u Q I2 rx ry q)
theorem CO {op:UnaryOp}{r:V->Hp->VK->Prop}(ho:UnR X (unaryOp op) r)(ha:PE X a ta):PE X (.UnaryOp op a pos) (tUn r ta):=by
 intro pins s σ H Q I h
 exact UnaryOp_ (thn (ha pins s σ H _ I h) λv s1 ⟨x,H1,I1,r1,q1⟩=>ho pins s1 σ H1 x v Q I1 r1 q1)
theorem opI {f:Value->Value->Sem Value}{C:Int->Int->Prop}{g:Int->Int->Int}
  (rule:∀(i j:Int) (t u:Tok) (s:Shared) (Q:Value->Shared->Prop) (E:Value->Shared->Prop),C i j->Q (.int (g i j) s.toks) { s with toks:=s.toks+1 }->wpAny (model X.prog X.w) X.A (f (.int i t) (.int j u)) Q E s) :
  OpR X f (rI C λi j=>.int (g i j)):=by
 intro pins s σ H x y v u Q I rx ry h
 obtain⟨i,j,rfl,rfl,hc,q⟩:=h
 obtain⟨t,rfl⟩:=rx
 obtain⟨t',rfl⟩:=ry
 exact rule i j t t' s _ _ hc ⟨.int (g i j),H,I.tok _,⟨_,rfl⟩,q⟩
theorem HK {f:Value->Value->Sem Value}{g:Int->Int->Int}
  (rule:∀(i j:Int) (t u:Tok) (s:Shared) (Q:Value->Shared->Prop) (E:Value->Shared->Prop),Q (.int (g i j) s.toks) { s with toks:=s.toks+1 }->wpAny (model X.prog X.w) X.A (f (.int i t) (.int j u)) Q E s) :
  OpR X f (rI0 λi j=>.int (g i j)):=by
 intro pins s σ H x y v u Q I rx ry h
 obtain⟨i,j,rfl,rfl,q⟩:=h
 obtain⟨t,rfl⟩:=rx
 obtain⟨t',rfl⟩:=ry
 exact rule i j t t' s _ _ ⟨.int (g i j),H,I.tok _,⟨_,rfl⟩,q⟩
def HB (i j:Int):Prop:=(-(2 ^ 64)<i/\i<2 ^ 64)\/(-(2 ^ 64)<j/\j<2 ^ 64)
theorem HB.ok {i j:Int}(h:HB i j):IntMulOk i j:=by
 rcases h with ⟨h1,h2⟩|⟨h1,h2⟩
 ·exact .of_left (intBits_le_64 h1 h2)
 ·exact .of_right (intBits_le_64 h1 h2)
theorem Af:OpR X (binaryOp .Add) (rI0 λi j=>.int (i+j)):=HK λ_ _ _ _ _ _ _ q=>add_int q
theorem A9:OpR X (binaryOp .Sub) (rI0 λi j=>.int (i-j)):=HK λ_ _ _ _ _ _ _ q=>sub_int q
theorem Aa:OpR X (binaryOp .Mult) (rI HB λi j=>.int (i*j)):=opI λ_ _ _ _ _ _ _ hc q=>mul_int q hc.ok
theorem Ab:OpR X (binaryOp .Mod) (rI (λ_ j=>0<j) λi j=>.int (i%j)):=opI λi j _ _ _ _ _ hc q=>by
 have h1:(0:Int)<j:=hc
 exact mod_int' (by omega) (by rw [Int.fmod_eq_emod_of_nonneg i (by omega)];exact q)
theorem unI {f:Value->Sem Value}{g:Int->Int}
  (rule:∀(i:Int) (t:Tok) (s:Shared) (Q:Value->Shared->Prop) (E:Value->Shared->Prop),Q (.int (g i) s.toks) { s with toks:=s.toks+1 }->wpAny (model X.prog X.w) X.A (f (.int i t)) Q E s) :
  UnR X f (rU λi=>.int (g i)):=by
 intro pins s σ H x v Q I rx h
 obtain⟨i,rfl,q⟩:=h
 obtain⟨t,rfl⟩:=rx
 exact rule i t s _ _ ⟨.int (g i),H,I.tok _,⟨_,rfl⟩,q⟩
theorem Fj:UnR X (unaryOp .USub) (rU λi=>.int (-i)):=unI λ_ _ _ _ _ q=>neg_int q
end
section
variable {X:Cx} {a b c:Expr} {ta tb tc:TE} {pos:Pos}
theorem Qh {pins:List (Addr×Obj)}{σ:St}{H:Hp}{s:Shared}{Q:VK}{k k':Bool}(I:Inv X pins σ H s)(q:Q (.bl k) H)(e:k=k'):EP X pins σ Q (.bool k') s:=by
 subst e
 exact⟨.bl k,H,I,rfl,q⟩
theorem Ac:OpR X (compareOp .Is) (λx y H Q=>y = .non/\Q (.bl (decide (x = .non))) H):=by
 intro pins s σ H x y v u Q I rx ry h
 obtain⟨rfl,q⟩:=h
 cases ry
 refine is_none_gen (Qh I q ?_)
 cases x<;>first
  | (cases rx;rfl)
  | (obtain⟨t,rfl⟩:=rx;rfl)
theorem OpR.or {f:Value->Value->Sem Value}{r r':R2}(h:OpR X f r)(h':OpR X f r'):OpR X f (λx y H Q=>r x y H Q\/r' x y H Q):=by
 intro pins s σ H x y v u Q I rx ry q
 rcases q with q|q
 ·exact h pins s σ H x y v u Q I rx ry q
 ·exact h' pins s σ H x y v u Q I rx ry q
theorem Q4 (b:Expr){op:CmpOp}(h:op≠.In:=by decide)(h2:op≠.NotIn:=by decide):behindInMarks op b=false:=by
 have e1:(op == CmpOp.In)=false:=by cases op<;>first|rfl|exact absurd rfl h
 have e2:(op == CmpOp.NotIn)=false:=by cases op<;>first|rfl|exact absurd rfl h2
 cases b<;>simp [behindInMarks,e1,e2]
theorem Lc {op:CmpOp}{r:R2}(ho:OpR X (compareOp op) r)(ha:PE X a ta)(hb:PE X b tb)(hm:behindInMarks op b=false):PE X (.Compare a [op] [b] pos) (tOp r ta tb):=by
 intro pins s σ H Q I h
 exact wpAny_Compare1 (Hy ha hb I h λv u s2 x y H2 I2 rx ry q=>ho pins s2 σ H2 x y v u Q I2 rx ry q) hm
def Ft (t:TE):TT:=λσ H Q=>t σ H λx H'=>∃k,x = .bl k/\Q k H'
theorem PY {op:CmpOp}{r:R2}(ho:OpR X (compareOp op) r)(ha:PE X a ta)(hb:PE X b tb)(hm:behindInMarks op b=false):PT X (.Compare a [op] [b] pos) (Ft (tOp r ta tb)):=by
 intro pins s σ H Q I h
 refine wpAny_isTrue_Compare1 (thn (ha pins s σ H _ I h) λv s1 ⟨x,H1,I1,r1,q1⟩=>thn (hb pins s1 σ H1 _ I1 q1) λu s2 ⟨y,H2,I2,r2,q2⟩=>
  thn (ho pins s2 σ H2 x y v u _ I2 r1 r2 q2) λc s3 ⟨z,H3,I3,r3,k,e,q3⟩=>?_) hm
 subst e
 cases r3
 exact W0s ⟨H3,I3,q3⟩
def SM (K:W3)(x:V)(H:Hp)(k:Bool):Prop:=
 match x with
 | .non=>k=false
 | .bl b=>k=b
 | .int i=>k=(i != 0)
 | .str y=>y.length≤Wc/\k=((y.length:Int) != 0)
 | .byt y=>y.size≤Wc/\k=((y.size:Int) != 0)
 | .ref p=>(∃xs,SqL K H p xs/\k = !xs.isEmpty)\/(∃xs,SqT K H p xs/\k = !xs.isEmpty)\/∃kvs,H p=some (.dK kvs)/\k = !kvs.isEmpty
 |_=>False
theorem B1 {κ:Type}{kvs:List (κ×V)}{vs:List (κ×Value)}(r:KV kvs vs):(!vs.isEmpty) = !kvs.isEmpty:=by
 cases r<;>rfl
theorem JI {xs:List V}{its:List Value}(r:Zy xs its):(!its.toArray.isEmpty) = !xs.isEmpty:=by
 cases r<;>simp
theorem Jf:(Wc:Nat)<2 ^ 63:=by rw [W0t];decide
theorem Fn:SN X (λx H Q=>∃k,SM X.K x H k/\Q k H):=by
 intro pins s σ H x v Q I rx h
 obtain⟨k,e,q⟩:=h
 have hl:=Jf
 have hs:Wc=16777216:=W0t
 cases x with
 |non=>
  cases rx
  have e':k=false:=e
  subst e'
  exact truthy_none ⟨H,I,q⟩
 |bl b=>
  cases rx
  have e':k=b:=e
  subst e'
  exact W0s ⟨H,I,q⟩
 |int i=>
  obtain⟨t,rfl⟩:=rx
  have e':k=(i != 0):=e
  subst e'
  exact PySem.P.truthy_int ⟨H,I,q⟩
 |str y=>
  obtain⟨t,rfl⟩:=rx
  obtain⟨hy,e'⟩:y.length≤Wc/\k=((y.length:Int) != 0):=e
  subst e'
  exact PySem.P.truthy_str (by omega) ⟨H,I.tok _,q⟩
 |byt y=>
  obtain⟨t,rfl⟩:=rx
  obtain⟨hy,e'⟩:y.size≤Wc/\k=((y.size:Int) != 0):=e
  subst e'
  exact PySem.W.truthy_bytes (by omega) ⟨H,I.tok _,q⟩
 |ref p=>
  cases rx
  have e':(∃xs,SqL X.K H p xs/\k = !xs.isEmpty)\/(∃xs,SqT X.K H p xs/\k = !xs.isEmpty)\/∃kvs,H p=some (.dK kvs)/\k = !kvs.isEmpty:=e
  rcases e' with ⟨xs,hx,e'⟩|⟨xs,hx,e'⟩|⟨kvs,hx,e'⟩
  ·subst e'
   obtain⟨its,r,pl,hz⟩:=I.list hx
   have hlen:=r.length
   exact wpAny_truthy_list pl.isList (by simp only [Wf];omega) ⟨H,I.tok _,by rw [JI r];exact q⟩
  ·subst e'
   obtain⟨its,r,pl,hz⟩:=I.tuple hx
   have hlen:=r.length
   exact truthy_tuple pl (by simp only [Wf];omega) ⟨H,I.tok _,by rw [JI r];exact q⟩
  ·subst e'
   obtain⟨hz,hS,vs,r,m⟩:kvs.length≤Wc/\(p == sysModules)=false/\∃vs,KV kvs vs/\s.heap.DictOf (ZL X.prog X.w) p vs:=I.hok p _ hx
   have hlen:kvs.length=vs.length:=W0g r
   exact wpAny_truthy_dict hS m (by omega) ⟨H,I.tok _,by rw [B1 r];exact q⟩
 |_=>exact (show False from e).elim
theorem GS:OpR X (binaryOp .Add) (λx y H Q=>∃i j,x = .str i/\y = .str j/\i.length+j.length≤Wc/\Q (.str (i++j)) H):=by
 intro pins s σ H x y v u Q I rx ry h
 obtain⟨i,j,rfl,rfl,hz,q⟩:=h
 obtain⟨t,rfl⟩:=rx
 obtain⟨t',rfl⟩:=ry
 exact add_str (λt' tk=>⟨.str (i++j),H,I.tok _,⟨_,rfl⟩,q⟩) hz
theorem Qb {x:V}{us:List Value}(r:Zy [x] us):∃u,us=[u]/\Zz x u:=by
 cases r with
 |cons r1 r2=>cases r2;exact⟨_,rfl,r1⟩
theorem Bk {x y:V}{us:List Value}(r:Zy [x,y] us):∃u w',us=[u,w']/\Zz x u/\Zz y w':=by
 cases r with
 |cons r1 r2=>
  cases r2 with
  |cons r3 r4=>cases r4;exact⟨_,_,rfl,r1,r3⟩
theorem Mb (hc:X.calm=true):YH X (.builtin "min") (λxs H Q=>∃i j,xs=[.int i,.int j]/\Q (.int (if j<i then j else i)) H):=by
 intro pins s σ H xs us Q I r h
 obtain⟨i,j,rfl,q⟩:=h
 obtain⟨u,w',rfl,⟨t,rfl⟩,⟨t',rfl⟩⟩:=Bk r
 refine min_two_ints (I.ok.hd hc) λh' tk k=>⟨_,H,I.kept k,?_,q⟩
 by_cases hj:j<i
 ·rw [if_pos hj,if_pos hj];exact⟨_,rfl⟩
 ·rw [if_neg hj,if_neg hj];exact⟨_,rfl⟩
theorem Md:YH X (.type "int") (λxs H Q=>(∃i,xs=[.int i]/\Q (.int i) H)\/∃k,xs=[.bl k]/\Q (.int (if k then 1 else 0)) H):=by
 intro pins s σ H xs us Q I r h
 rcases h with ⟨i,rfl,q⟩|⟨k,rfl,q⟩
 ·obtain⟨u,rfl,t,rfl⟩:=Qb r
  exact call_int_int ⟨.int i,H,I,⟨_,rfl⟩,q⟩
 ·obtain⟨u,rfl,r1⟩:=Qb r
  cases r1
  exact call_int_bool ⟨.int (if k then 1 else 0),H,I.tok _,⟨_,rfl⟩,q⟩
end
end L2
namespace L2
open PySem PySem.Spec PyProof.Rows
structure ObjM (h:Heap) (x dx C:Addr) (mA:Str->Option Value):Prop where
 obj:h.get? x=some (PySem.W.instObj C dx)
 ns:h.Ns1 dx mA
 ne:dx≠x
theorem Nd {h:Heap}{dx:Addr}{mA:Str->Option Value}(n:h.Ns1 dx mA):∃od,h.get? dx=some od/\∀name,PySem.W.lookIn name od=some (mA name):=by
 obtain⟨o,es,ep,ho,hd,hk,_,hm⟩:=n
 refine⟨o,ho,λname=>?_⟩
 have e:=hm name
 unfold nsFind findBy at e
 rw [←Array.find?_toList] at e
 unfold PySem.W.lookIn
 rw [hd]
 dsimp only
 split
 ·rename_i y q
  rw [q] at e
  exact congrArg some e
 ·rename_i q
  rw [q] at e
  have a:es.toList.any (·.refKey)=false:=by
   rw [List.any_eq_false]
   intro y hy
   obtain⟨z,t,hkey⟩:=hk y (Array.mem_toList_iff.mp hy)
   simp [DictEntry.refKey,hkey]
  have a':¬es.toList.any (·.refKey)=true:=by rw [a];exact WC
  rw [if_neg a']
  exact congrArg some e
theorem ObjM.look {h:Heap}{x dx C:Addr}{mA:Str->Option Value}(I:ObjM h x dx C mA):∃od,PySem.W.InstAt h x (PySem.W.instObj C dx) C (some od)/\∀name,PySem.W.lookIn name od=some (mA name):=
 let ⟨od,ho,hl⟩:=Nd I.ns
 ⟨od,⟨I.obj,rfl,rfl,ho⟩,hl⟩
section
variable {prog:Program} {w:World} {A:Around} {E:Value->Shared->Prop} {s:Shared} {K:W3} {x dx C f:Addr} {mA:Str->Option Value} {name:Str} {v:Value}
end
theorem Mk.some_of {v:V}{o:Option Value}(r:Mk (some v) o):∃u,o=some u/\Zz v u:=by
 cases o with
 |none=>exact (show False from r).elim
 |some u=>exact⟨u,rfl,r⟩
section
variable {P:Program} {w:World} {H H':Hp} {h h':Heap} {a C dx:Addr} {fs fs':List (Str×V)}
theorem LO (hok:HOk P w H h)(e:H a=some (.ins C dx fs)):∃mA,ObjM h a dx C mA/\(∀f,Mk (fs.lookup f) (mA f))/\PySem.Within mA (fs.map (·.1))/\fs.length≤1000/\H dx=some (.own a):=by
 obtain⟨d,z,ne,ob,mA,n,r,q⟩:=(show ZB P w H h a (.ins C dx fs) from hok a _ e)
 exact⟨mA,⟨ob,n,ne⟩,r,q,z,d⟩
end
structure Cls (K:W3) (C:Addr):Prop where
 pg:PySem.W.plainGet K C Str.empty=true
 hd:PySem.W.hasDictIn K C=true
 po:PySem.W.plainOver K C=true
 sa:PySem.W.findIn K (.ref C) "__setattr__" = some (some (.builtin "object.__setattr__"))
theorem Cls.get {K:W3}{C:Addr}(c:Cls K C)(f:Str):PySem.W.plainGet K C f=true:=c.pg
section
variable {X:Cx} {pins:List (Addr×Obj)} {σ:St} {H:Hp} {s:Shared} {a C dx:Addr} {fs:List (Str×V)} {f:Str} {v:V} {A:Around} {E:Value->Shared->Prop}
end
section
variable {X:Cx} {o e value:Expr} {f:Str} {pos pos' tpos:Pos} {ta tv:TE}
end
section
variable {X:Cx} {pins:List (Addr×Obj)} {σ:St} {H:Hp} {s:Shared} {A:Around} {E:Value->Shared->Prop} {Q:Value->Shared->Prop} {c:Value} {b:Bool}
inductive TyOf (K:W3) (H:Hp):V->Value->Prop where
 |non:TyOf K H .non (.type "NoneType")
 |bl (x:Bool):TyOf K H (.bl x) (.type "bool")
 |int (i:Int):TyOf K H (.int i) (.type "int")
 |str (x:Str):TyOf K H (.str x) (.type "str")
 |flt (x:UInt64):TyOf K H (.flt x) (.type "float")
 |lst {a:Addr} {xs:List V} (e:H a=some (.lst xs)):TyOf K H (.ref a) (.type "list")
 |frz {a:Addr} {o:Obj} {xs:List V} (e:H a=some (.frz o (.lst xs))):TyOf K H (.ref a) (.type "list")
 |tup {a:Addr} {xs:List V} (e:H a=some (.tup xs)):TyOf K H (.ref a) (.type "tuple")
 |dK {a:Addr} {kvs:List (Key×V)} (e:H a=some (.dK kvs)):TyOf K H (.ref a) (.type "dict")
 |dT {a:Addr} {kvs:List (List Key×V)} (e:H a=some (.dT kvs)):TyOf K H (.ref a) (.type "dict")
 |ins {a C dx:Addr} {fs:List (Str×V)} (e:H a=some (.ins C dx fs)) (cl:Cls K C) (ha:PySem.W.findIn K (.ref C) "__class__" = some (some (.builtin "object.__class__")))
   (hn:PySem.W.specialIn K (.builtin "object.__class__") "__get__" = some (some (.builtin "getset_descriptor.__get__"))) (htk:PySem.W.takesIn K (.builtin "object.__class__")=some true)
   (hm:PySem.W.mroIn K C (.type "object")=some true):TyOf K H (.ref a) (.ref C)
theorem NN {x:V}{u t:Value}(I:Inv X pins σ H s)(rx:Zz x u)(ty:TyOf X.K H x t)(e:Vz X.K t c=some b)(h:∀tk,Q (.bool b) { s with toks:=tk }) :
  wpAny (model X.prog X.w) A (call (.builtin "isinstance") [u,c]) Q E s:=by
 cases ty with
 |non=>cases (show u=Value.none from rx);exact Vm PySem.W.kitx_none I.kIn True.intro e (λz=>nomatch z) h
 |bl y=>cases (show u=Value.bool y from rx);exact Vm PySem.W.kitx_bool I.kIn True.intro e (λz=>nomatch z) h
 |int i=>obtain⟨t,q⟩:=(show ∃t,u=Value.int i t from rx);cases q;exact Vm PySem.W.kitx_int I.kIn True.intro e (λz=>nomatch z) h
 |str y=>obtain⟨t,q⟩:=(show ∃t,u=Value.str y t from rx);cases q;exact Vm PySem.W.kitx_str I.kIn True.intro e (λz=>nomatch z) h
 |flt y=>obtain⟨t,q⟩:=(show ∃t,u=Value.float y t from rx);cases q;exact Vm PySem.W.kitx_float I.kIn True.intro e (λz=>nomatch z) h
 | @lst a xs ea=>
  cases (show u=Value.ref a from rx)
  obtain⟨_,_,n,_,h1⟩:=(show ZB X.prog X.w H s.heap a (.lst xs) from I.hok a _ ea)
  exact Vm W14 I.kIn ⟨_,h1,rfl⟩ e (λz=>nomatch z) h
 | @frz a ob xs ea=>
  cases (show u=Value.ref a from rx)
  obtain⟨_,_,_,n,_,h1⟩:=(show ZB X.prog X.w H s.heap a (.frz ob (.lst xs)) from I.hok a _ ea)
  exact Vm W14 I.kIn ⟨_,h1,rfl⟩ e (λz=>nomatch z) h
 | @tup a xs ea=>
  cases (show u=Value.ref a from rx)
  obtain⟨_,_,_,p⟩:=(show ZB X.prog X.w H s.heap a (.tup xs) from I.hok a _ ea)
  obtain⟨⟨o,h1,h2,_⟩,_⟩:=p
  exact Vm PySem.W.kitx_tuple I.kIn ⟨o,h1,h2⟩ e (λz=>nomatch z) h
 | @dK a kvs ea=>
  cases (show u=Value.ref a from rx)
  obtain⟨_,_,vs,_,p⟩:=(show ZB X.prog X.w H s.heap a (.dK kvs) from I.hok a _ ea)
  obtain⟨o,es,ep,h1,h2,_⟩:=p
  exact Vm W15 I.kIn ⟨o,h1,h2.1⟩ e (λz=>nomatch z) h
 | @dT a kvs ea=>
  cases (show u=Value.ref a from rx)
  obtain⟨_,_,xs,_,o,es,ep,h1,h2,_⟩:=(show ZB X.prog X.w H s.heap a (.dT kvs) from I.hok a _ ea)
  exact Vm W15 I.kIn ⟨o,h1,h2.1⟩ e (λz=>nomatch z) h
 | @ins a C dx fs ea cl ha hn htk hm=>
  cases (show u=Value.ref a from rx)
  obtain⟨mA,O,_⟩:=LO I.hok ea
  obtain⟨od,J,_⟩:=O.look
  exact Vm (PySem.W.kitx_own (cl.get _) cl.hd ha hn htk hm) I.kIn J e (λz=>nomatch z) h
end
end L2
namespace L2
open PySem PySem.Spec PyProof.Rows
structure Room (k:Nat) (A:Around):Prop where
 hd:A.handled=none
 dp:A.depth+3*k+5<recursionLimit
 un:A.units+16*k+200<cLine
theorem Room.mono {j k:Nat}{A:Around}(r:Room k A)(h:j≤k):Room j A:=⟨r.hd,by have:=r.dp;omega,by have:=r.un;omega⟩
theorem Room.deeper {k:Nat}{A:Around}(r:Room (k+1) A)(env:Env):Room k (A.deeper env):=
 ⟨r.hd,by have:=r.dp;show A.depth+1+3*k+5<_;omega,by have:=r.un;show A.units+3+16*k+200<_;omega⟩
theorem Room.depth {k:Nat}{A:Around}(r:Room k A):A.depth<recursionLimit:=by have:=r.dp;omega
def Cp:TA:=λ_ H Q=>Q [] H
def Bv (ta:TE)(tr:TA):TA:=λσ H Q=>ta σ H λx H1=>tr σ H1 λxs H2=>Q (x :: xs) H2
section
variable {X:Cx} {e:Expr} {es:List Expr} {te:TE} {t:TA} {pos:Pos}
theorem ZH:PA X [] Cp:=λ_ _ _ _ H Q I h=>W16 ⟨[],H,I,.nil,h⟩
theorem Zf (ha:PE X e te)(hr:PA X es t)(hs:Wn (e :: es) X.env=(false,eval e X.env) :: Wn es X.env:=by rfl):PA X (e :: es) (Bv te t):=by
 intro pos pins s σ H Q I h
 rw [hs]
 show wpAny _ _ (spliced ((false,eval e X.env) :: backTo pos (Wn es X.env))) _ _ s
 refine W0X (thn (ha pins s σ H _ I h) λu s1 ⟨x,H1,I1,r1,q1⟩=>?_)
 exact thn (hr pos pins s1 σ H1 _ I1 q1) λus s2 ⟨xs,H2,I2,r2,q2⟩=>⟨x :: xs,H2,I2,.cons r1 r2,q2⟩
def SV (t:TA):TE:=λσ H Q=>t σ H λxs H1=>xs.length≤Wc/\∀p,H1 p=none->Q (.ref p) (upd H1 p (.tup xs))
def Ib (t:TA):TE:=λσ H Q=>t σ H λxs H1=>xs.length≤Wc/\∀p,H1 p=none->Q (.ref p) (upd H1 p (.lst xs))
theorem Kx {x1}(h:PA X es t):PE X (.Tuple es x1 pos) (SV t):=by
 intro pins s σ H Q I hq
 refine wpAny_Tuple_spliced (thn (h pos pins s σ H _ I hq) λus s1 ⟨xs,H1,I1,r,z,q⟩=>⟨by rw [←r.length];exact z,?_⟩)
 have hf:H1 s1.heap.objs.size=none:=I1.hok.fresh (Wp _)
 refine⟨.ref s1.heap.objs.size,upd H1 s1.heap.objs.size (.tup xs),I1.laid (t':=s1.toks) (λb u e=>W7 _ e) (Wp _) ?_,rfl,q _ hf⟩
 exact⟨z,us,r,Pr.new _ _⟩
theorem A6 (h:PA X es t):PE X (.List es pos) (Ib t):=by
 intro pins s σ H Q I hq
 refine wpAny_List_spliced (thn (h pos pins s σ H _ I hq) λus s1 ⟨xs,H1,I1,r,z,q⟩=>⟨by rw [←r.length];exact z,?_⟩)
 have hf:H1 s1.heap.objs.size=none:=I1.hok.fresh (Wp _)
 refine⟨.ref s1.heap.objs.size,upd H1 s1.heap.objs.size (.lst xs),I1.laid (t':=s1.toks) (λb u e=>W7 _ e) (Wp _) ?_,rfl,q _ hf⟩
 exact⟨z,us,0,r,Wv _ rfl⟩
end
abbrev Sp:=List V->Hp->VK->XK->Prop
abbrev CXT:=List Env->Hp->Shared->XK->Value->Shared->Prop
structure Env0 (P:Program) (w:World) (K:W3) (mg:Str->Option Value) (base:Heap) (A:Around) (outer:List Env) (s:Shared) (H:Hp):Prop where
 frames:A.frames=some outer
 mod:Mod K mg base
 bs:∀b o,base.get? b=some o->s.heap.get? b=some o/\H b=none
 bsz:base.objs.size≤s.heap.objs.size
 funs:s.heap.FunFrames base outer
 frf:∀b∈frs outer,H b=none
 hok:HOk P w H s.heap
 bare:AllBare s.gens
def CE (outer:List Env)(P:Program)(w:World)(H:Hp)(s:Shared)(Q:VK)(u:Value)(s':Shared):Prop:=
 ∃v H',s'.os=s.os/\AllBare s'.gens/\Un (frs outer) [] H H' s.heap s'.heap/\HOk P w H' s'.heap/\Zz v u/\Q v H'
def CR (CX:CXT)(outer:List Env)(P:Program)(w:World)(H:Hp)(s:Shared)(Q:VK)(E:XK)(r:Result)(s':Shared):Prop:=
 match r with
 | .ok (.ret u)=>CE outer P w H s Q u s'
 | .ok _=>False
 | .error e=>CX outer H s E e s'
structure FnOk (P:Program) (w:World) (K:W3) (mg:Str->Option Value) (base:Heap) (CX:CXT) (k:Nat) (f:Addr) (fd:FuncData) (ps:List Str) (sp:Sp):Prop where
 len:∀vs H Q E,sp vs H Q E->vs.length=ps.length
 run:∀(A:Around) (outer:List Env) (s:Shared) (H:Hp) (args:Args) (us:List Value) (vs:List V) (Q:VK) (E:XK),Room k A->Env0 P w K mg base A outer s H->BindsTo s fd args (ps.zip us)->Zy vs us->sp vs H Q E->
  codeAny (model P w) A (.call (.ref f) args) (CR CX outer P w H s Q E) s
section
variable {X:Cx} {pins:List (Addr×Obj)} {σ:St} {H:Hp} {s s':Shared}
theorem Inv.env0 (I:Inv X pins σ H s):Env0 X.prog X.w X.K X.mg X.base X.A X.stack s H:=
 ⟨I.ok.frames,I.ok.mod,I.bs,Wx I.ok.bsz I.sz,I.stack,I.stkFree,I.hok,I.bare⟩
theorem Inv.after {Q:VK}{u:Value}(I:Inv X pins σ H s)(h:CE X.stack X.prog X.w H s Q u s'):EP X pins σ Q u s':=by
 obtain⟨v,H',os,bare,un,hok,r,q⟩:=h
 obtain⟨hh,g,d,t,os'⟩:=s'
 obtain rfl:os'=s.os:=os
 exact⟨v,H',I.call (h':=hh) (g':=g) (d':=d) (t':=t) (ch:=[]) un hok bare (λb z=>absurd z (by simp)),r,q⟩
end
def CB (sp:Sp)(dvs:List V)(E:XK)(t:TA):TE:=λσ H Q=>t σ H λvs H1=>sp (vs++dvs) H1 Q E
def TH (K:W3)(fd:FuncData)(ps:List Str)(ds:List Value):Prop:=
 ∀(s:Shared) (us:List Value),K.In s.heap->(us++ds).length=ps.length->BindsTo s fd ⟨us,[]⟩ (ps.zip (us++ds))
theorem TH.all {K:W3}{fd:FuncData}{ps:List Str}(h:∀us:List Value,us.length=ps.length->bindArgs fd ⟨us,[]⟩=pure (ps.zip us)):TH K fd ps []:=λs us _ hl=>by
 rw [Vt] at hl ⊢
 exact .of_eq (h us hl)
def Mm (CX:CXT)(X:Cx)(E:XK):Prop:=∀(pins:List (Addr×Obj)) (σ:St) (H:Hp) (s:Shared) (e:Value) (s':Shared),Inv X pins σ H s->CX X.stack H s E e s'->X.xe e s'
section
variable {X:Cx} {CX:CXT} {k:Nat} {f C:Addr} {fd:FuncData} {ps:List Str} {sp:Sp} {dvs:List V} {ds:List Value} {E:XK} {x m:Str} {p pos apos:Pos} {e o:Expr} {es:List Expr} {ta:TE} {t:TA}
theorem FF {pins:List (Addr×Obj)}{σ:St}{H:Hp}{s:Shared}{Q:VK}{us:List Value}{vs:List V}(F:FnOk X.prog X.w X.K X.mg X.base CX k f fd ps sp)(hr:Room k X.A)(hb:TH X.K fd ps ds)(hd:Zy dvs ds)(hx:Mm CX X E)
  (I:Inv X pins σ H s) (r:Zy vs us) (h:sp (vs++dvs) H Q E):wpAny (model X.prog X.w) X.A (call (.ref f) us) (EP X pins σ Q) X.xe s:=by
 have r2:Zy (vs++dvs) (us++ds):=r.append hd
 have hl:(us++ds).length=ps.length:=by rw [←r2.length];exact F.len _ _ _ _ h
 refine wpAny_call (codeAny_mono (F.run X.A X.stack s H ⟨us,[]⟩ (us++ds) (vs++dvs) Q E hr I.env0 (hb s us I.kIn hl) r2 h) λr s' hq=>?_)
 cases r with
 |error e=>exact hx pins σ H s e s' I hq
 |ok fl=>
  cases fl with
  |ret u=>exact I.after hq
  |next=>exact False.elim hq
  |brk=>exact False.elim hq
  |cont=>exact False.elim hq
theorem Ld (F:FnOk X.prog X.w X.K X.mg X.base CX k f fd ps sp)(hr:Room k X.A)(hg:Gl X x)(hm:X.mg x=some (.ref f))(hk:WT X.K (.ref f)=true)(hb:TH X.K fd ps ds)(hd:Zy dvs ds)(hx:Mm CX X E)
  (ha:PA X (e :: es) t) (hdb:(x == ("__debug__" : Str))=false:=by decide) (he:Wn (e :: es) X.env=(false,eval e X.env) :: Wn es X.env:=by rfl) (hpl:(backTo pos (Wn es X.env)).any (·.1)=false:=by rfl) :
  PE X (.Call (.Name x p) (e :: es) [] pos) (CB sp dvs E t):=by
 intro pins s σ H Q I h
 refine VP (Nf I hg hm ?_ hdb)
 refine PySem.W.callWith_K (h₀:=X.base) I.ok.mod.kin hk (thn (ha pos pins s σ H _ I h) λus s1 ⟨vs,H1,I1,r,q⟩=>⟨I1.kIn,?_⟩) he hpl
 exact FF F hr hb hd hx I1 r q
end
section
variable {X:Cx} {CX:CXT} {k:Nat} {f C:Addr} {fd:FuncData} {ps ks:List Str} {sp:Sp} {E:XK} {x m:Str} {p pos apos kpos:Pos} {e o:Expr} {es:List Expr} {kws:List Keyword} {te ta:TE} {t tk:TA} {nm:Option Str}
variable {g:List Value->List Value->List Value} {gV:List V->List V->List V}
end
structure FnScope (N P:List Str) (sc:Scope):Prop where
 kind:sc.kind = .function
 co:sc.isCoroutine=false
 gen:sc.isGenerator=false
 nd:N.Nodup
 pre:N.take P.length=P
 par:∀x∈P,sc.names.lookup x=some .local\/sc.names.lookup x=some .cell
 nofree:∀y∈sc.names,y.2≠.free
theorem UT {kindOf:Str->Option NameKind}{x:Str}:∀{binds:List (Str×Value)} {m:Str->Option Value},(∀v,(x,v)∉binds)->bindL kindOf binds m x=m x
 |[],_,_=>rfl
 | (n,v) :: r,m,h=>by
  unfold bindL
  rw [UT λw hw=>h w (WS _ hw)]
  split
  ·have:x≠n:=by rintro rfl;exact h v WR
   simp [this]
  ·rfl
theorem UV {kindOf:Str->Option NameKind}{x:Str}:∀{binds:List (Str×Value)} {m:Str->Option Value},(∀v,(x,v)∉binds)->bindC kindOf binds m x=m x
 |[],_,_=>rfl
 | (n,v) :: r,m,h=>by
  unfold bindC
  rw [UV λw hw=>h w (WS _ hw)]
  split
  ·rfl
  ·have:x≠n:=by rintro rfl;exact h v WR
   simp [this]
theorem UU {kindOf:Str->Option NameKind}{x:Str}{v:Value}:∀{P:List Str} {vs:List Value} {i:Nat} {m:Str->Option Value},P.Nodup->P[i]? = some x->vs[i]? = some v->kindOf x=some .local->
  bindL kindOf (P.zip vs) m x=some v
 |[],_,_,_,_,h,_,_=>by simp at h
 |_ :: _,[],_,_,_,_,h,_=>by simp at h
 |p :: P,w :: vs,0,m,nd,h1,h2,hk=>by
  simp at h1 h2;subst h1;subst h2
  show bindL kindOf ((p,w) :: P.zip vs) m p=_
  unfold bindL
  rw [UT λv hv=>(W0K.mp nd).1 (List.of_mem_zip hv).1,if_pos hk]
  simp
 |p :: P,w :: vs,i+1,m,nd,h1,h2,hk=>by
  show bindL kindOf ((p,w) :: P.zip vs) m x=_
  unfold bindL
  exact UU (i:=i) (W0K.mp nd).2 (by simpa using h1) (by simpa using h2) hk
theorem UW {kindOf:Str->Option NameKind}{x:Str}{v:Value}:∀{P:List Str} {vs:List Value} {i:Nat} {m:Str->Option Value},P.Nodup->P[i]? = some x->vs[i]? = some v->kindOf x≠some .local->
  bindC kindOf (P.zip vs) m x=some v
 |[],_,_,_,_,h,_,_=>by simp at h
 |_ :: _,[],_,_,_,_,h,_=>by simp at h
 |p :: P,w :: vs,0,m,nd,h1,h2,hk=>by
  simp at h1 h2;subst h1;subst h2
  show bindC kindOf ((p,w) :: P.zip vs) m p=_
  unfold bindC
  rw [UV λv hv=>(W0K.mp nd).1 (List.of_mem_zip hv).1,if_neg hk]
  simp
 |p :: P,w :: vs,i+1,m,nd,h1,h2,hk=>by
  show bindC kindOf ((p,w) :: P.zip vs) m x=_
  unfold bindC
  exact UW (i:=i) (W0K.mp nd).2 (by simpa using h1) (by simpa using h2) hk
def start (N:List Str)(vs:List V):St:=vs.map some++VS (N.length-vs.length) none
def F0 (CX:CXT)(P:Program)(w:World)(K:W3)(mg:Str->Option Value)(base:Heap)(N:List Str)(qual:Str)(scope:Scope)(f:Addr)(cd:Value)(A:Around)(outer:List Env)(s:Shared)(H:Hp)(E:XK):Cx where
 prog:=P
 w:=w
 K:=K
 mg:=mg
 base:=base
 A:=A.deeper (envOfC qual scope s.heap.objs.size f cd)
 N:=N
 s₀:=s
 H₀:=H
 env:=envOfC qual scope s.heap.objs.size f cd
 outer:=outer
 stack:=envOfC qual scope s.heap.objs.size f cd :: outer
 ex:=[]
 calm:=true
 fn:=λ_=>true
 pn:=[]
 xe:=λe s'=>wpAny (model P w) (A.deeper (envOfC qual scope s.heap.objs.size f cd)) (leaving (envOfC qual scope s.heap.objs.size f cd) e) (λ_ s''=>CX outer H s E e s'') (λe' s''=>CX outer H s E e' s'') s'
theorem GE {sc:Scope}{n:Nat}{x:Str}(h:sc.names.lookup x=some .cell):∃c,(cellsFrom n sc.names []).lookup x=some c:=by
 have q:=PySem.W.cellsFrom_some sc.names n [] (.inl h)
 exact W17.mp q
theorem NP {CX:CXT}{P:Program}{w:World}{K:W3}{mg:Str->Option Value}{base:Heap}{N ps:List Str}{qual:Str}{scope:Scope}{f:Addr}{cd:Value}{A:Around}{outer:List Env}{s s1:Shared}{H:Hp}{E:XK}{us:List Value}{vs:List V}
  (S:FnScope N ps scope) (hd:A.handled=none) (e0:Env0 P w K mg base A outer s H) (hl:vs.length=ps.length) (r:Zy vs us)
  (x:InCallC s s.heap.objs.size (bindL (envOfC qual scope s.heap.objs.size f cd).kindOf (ps.zip us) λ_=>none) (cellsFrom (s.heap.objs.size+1) scope.names []) (bindC (envOfC qual scope s.heap.objs.size f cd).kindOf (ps.zip us) λ_=>none) s1) :
  Inv (F0 CX P w K mg base N qual scope f cd A outer s H E) [] (start N vs) H s1:=by
 have hpl:ps.length≤N.length:=by have:=congrArg Vb S.pre;rw [WL] at this;omega
 obtain⟨h1,tk,rfl,hk⟩:=x.done
 have noA:∀b:Addr,b∉(F0 CX P w K mg base N qual scope f cd A outer s H E).ex:=λb z=>absurd (show b∈([]:List Addr) from z) (by simp)
 refine⟨⟨e0.mod,S.kind,rfl,rfl,Wp _,λy z c h1 h2=>?_,λy hy=>?_,λy c _ h=>?_,λ_=>hd,Around.frames_deeper e0.frames,.inr ⟨rfl,rfl⟩,λb z=>absurd z (noA b),e0.bs,e0.bsz,λb _ _=>noA b,λb z=>absurd z (noA b),e0.funs,e0.frf⟩,
  rfl,e0.bare,Un.kept hk,⟨_,x.toInCall.ns,λi y v h1 h2 h3=>?_⟩,λy c h=>⟨_,x.cell y c h⟩,e0.hok.fresh (Wp _),λy c h=>?_,λp hp=>absurd (show p∈([]:List (Addr×Obj)) from hp) (by simp),e0.hok.kept hk,?_⟩
 ·exact name_of_addr x.apart (Vy h1) (Vy h2)
 ·have hy:scope.names.lookup y=some .cell\/scope.names.lookup y=some .free:=hy
  rcases hy with hy|hy
  ·exact GE hy
  ·exact absurd rfl (S.nofree _ (Vy hy))
 ·exact Nat.le_of_lt (x.above y c (Vy h))
 ·have hi:i<vs.length:=by
   unfold start at h2
   by_cases hi:i<vs.length
   ·exact hi
   ·rw [WP (by simpa using hi)] at h2
    rw [VC] at h2
    split at h2<;>cases h2
  have ha:vs[i]? = some v:=by
   unfold start at h2
   rw [WF (by simpa using hi),WU] at h2
   cases e:vs[i]? with
   |none=>rw [e] at h2;cases h2
   |some a=>rw [e] at h2;cases h2;rfl
  obtain⟨u,hu,rv⟩:=r.get ha
  have hp:ps[i]? = some y:=by
   rw [←S.pre,Vd (by omega)];exact h1
  have ndP:ps.Nodup:=by rw [←S.pre];exact S.nd.sublist (List.take_sublist _ _)
  refine⟨u,rv,?_⟩
  rcases S.par y (Vw hp) with k|k
  ·exact .inl ⟨k,UU ndP hp hu k⟩
  ·obtain⟨c,e⟩:=GE (n:=s.heap.objs.size+1) k
   refine .inr ⟨.inl k,c,e,?_⟩
   have q:=x.cell y c e
   rw [UW ndP hp hu (by show scope.names.lookup y≠_;rw [k];decide)] at q
   exact q
 ·exact e0.hok.fresh (Nat.le_of_lt (x.above y c (Vy h)))
 ·unfold start
  show _=N.length
  rw [Wo,Wg,VQ]
  omega
theorem Hq {CX:CXT}{P:Program}{w:World}{K:W3}{mg:Str->Option Value}{base:Heap}{k:Nat}{f:Addr}{name qual:Str}{params:Arguments}{body:List Stmt}{scope:Scope}{dV kV doc pm cdv ct oc:Value}{an od:Option Addr}
  {osl:Array (Option Value)} {N ps:List Str} {sp:Sp} (lk:K.lookup f=some ⟨oc,od,.func (WW name qual params body scope dV kV doc pm an cdv ct),osl⟩) (hcd:WV K cdv qual=true) (S:FnScope N ps scope)
  (len:∀vs H Q E,sp vs H Q E->vs.length=ps.length)
  (hbody:∀(A:Around) (outer:List Env) (s:Shared) (H:Hp) (vs:List V) (Q:VK) (E:XK),Room k (A.deeper (envOfC qual scope s.heap.objs.size f cdv))->sp vs H Q E->
   ∃t,PSs (F0 CX P w K mg base N qual scope f cdv A outer s H E) body t/\t { nx:=λ_ H'=>Q .non H',rt:=Q } (start N vs) H) :
  FnOk P w K mg base CX (k+1) f (WW name qual params body scope dV kV doc pm an cdv ct) ps sp:=by
 refine⟨len,λA outer s H args us vs Q E hr e0 hb r hsp=>?_⟩
 have hl:=len _ _ _ _ hsp
 have KX:K.In s.heap:=e0.mod.kin.keeps λb o e=>(e0.bs b o e).1
 have lim:s.heap.NoLimit:=e0.mod.nolimit.keeps λb o e=>(e0.bs b o e).1
 have hkind:∀y∈ps.zip us,scope.names.lookup y.1=some .local\/(scope.names.lookup y.1=some .cell/\((cellsFrom (s.heap.objs.size+1) scope.names []).lookup y.1).isSome=true):=λ⟨n,v⟩ hy=>by
  rcases S.par n (List.of_mem_zip hy).1 with q|q
  ·exact .inl q
  ·exact .inr ⟨q,PySem.W.cellsFrom_some _ _ _ (.inl q)⟩
 refine codeAny_call_function hr.depth (KX _ _ lk) rfl S.co S.gen rfl (PySem.W.codeRec_of KX hcd) (hb _ _ _ _ ?_)
 refine wpAny_newFunctionEnv_cells S.kind hkind λenv he s1 x=>?_
 subst he
 refine⟨lim.keeps x.toInCall.keep,codeAny_func ?_⟩
 obtain⟨t,ht,hq⟩:=hbody A outer s H vs Q E (hr.deeper _) hsp
 have I:Inv (F0 CX P w K mg base N qual scope f cdv A outer s H E) [] (start N vs) H s1:=NP S hr.hd e0 hl r x
 refine VE (ht [] s1 (start N vs) H _ I hq) (λfl s' hs=>?_) λe s' hs=>hs
 have fin:∀{σ':St} {H':Hp} {v:V} {u:Value},Inv (F0 CX P w K mg base N qual scope f cdv A outer s H E) [] σ' H' s'->Zz v u->Q v H'->CE outer P w H s Q u s':=
  λ{σ' H' v u} J rv q=>⟨v,H',J.os,J.bare,J.base,J.hok,rv,q⟩
 cases fl with
 |ret u=>
  obtain⟨v,σ',H',J,rv,q⟩:=hs
  exact fin J rv q
 |next=>
  obtain⟨σ',H',J,q⟩:=hs
  exact fin (v:=V.non) (u:=Value.none) J rfl q
 |brk=>
  obtain⟨_,_,_,q⟩:=hs
  exact False.elim q
 |cont=>
  obtain⟨_,_,_,q⟩:=hs
  exact False.elim q
end L2
namespace L2
open PySem PySem.Spec PyProof.Rows
section
variable {X:Cx} {x:Str} {p pos:Pos} {e:Expr} {es:List Expr} {t:TA} {id T:String} {r:List V->Hp->VK->Prop}
def tCB (r:List V->Hp->VK->Prop)(t:TA):TE:=λσ H Q=>t σ H λvs H1=>r vs H1 Q
theorem Yz (hc:YH X (.builtin id) r)(hg:Gl X x)(hm:X.mg x=none)(hv:Wz x=some (.builtin id))(ha:PA X (e :: es) t)(hn:x≠"__name__":=by decide)(hdb:(x == ("__debug__" : Str))=false:=by decide)
  (he:Wn (e :: es) X.env=(false,eval e X.env) :: Wn es X.env:=by rfl) (hpl:(backTo pos (Wn es X.env)).any (·.1)=false:=by rfl):PE X (.Call (.Name x p) (e :: es) [] pos) (tCB r t):=by
 intro pins s σ H Q I h
 refine VP (Q5 I hg hm hv ?_ hn hdb)
 exact PyProof.Rows.callWith_builtin1 (thn (ha pos pins s σ H _ I h) λus s1 ⟨vs,H1,I1,r1,q1⟩=>hc pins s1 σ H1 vs us Q I1 r1 q1) he hpl
theorem Ja (hc:YH X (.type T) r)(hg:Gl X x)(hm:X.mg x=none)(hv:Wz x=some (.type T))(ha:PA X (e :: es) t)(hn:x≠"__name__":=by decide)(hdb:(x == ("__debug__" : Str))=false:=by decide)
  (he:Wn (e :: es) X.env=(false,eval e X.env) :: Wn es X.env:=by rfl) (hpl:(backTo pos (Wn es X.env)).any (·.1)=false:=by rfl):PE X (.Call (.Name x p) (e :: es) [] pos) (tCB r t):=by
 intro pins s σ H Q I h
 refine VP (Q5 I hg hm hv ?_ hn hdb)
 exact V0 (thn (ha pos pins s σ H _ I h) λus s1 ⟨vs,H1,I1,r1,q1⟩=>hc pins s1 σ H1 vs us Q I1 r1 q1) he hpl
end
end L2
namespace HT
open PySem PyProof.Rows
section
open PySem.SeqAt
open PySem.AutoSeq1 (wpAny_loadPart')
open PySem.MeetsSeq PySem.MeetsSeq2 PySem.MeetsSeq3
end
section
variable {prog:Program} {w:World} {A:Around} {E:Value->Shared->Prop} {s:Shared}
theorem cat_tup {t b:Addr}{vs ws:List Value}{Q:Value->Shared->Prop}(ht:IsTup s.heap t vs.toArray)(hb:IsTup s.heap b ws.toArray)(hv:vs≠[])
  (h1:ws=[]->Q (.ref t) s) (h2:ws≠[]->Q (.ref s.heap.objs.size) { s with heap:=s.heap.push { cls:=.type "tuple",data:=.seq (vs++ws).toArray } })
  (hsz:vs.length+ws.length≤Wc):wpAny (model prog w) A (binaryOp .Add (.ref t) (.ref b)) Q E s:=by
 obtain⟨⟨cls,dd,data,sl⟩,ho,hc,n,hd⟩:=id ht
 obtain⟨⟨cls2,dd2,data2,sl2⟩,ho2,hc2,n2,hd2⟩:=id hb
 simp only at hc hd hc2 hd2
 subst hc hd hc2 hd2
 have e:vs.toArray++ws.toArray=(vs++ws).toArray:=by simp
 by_cases hw:ws=[]
 ·exact concat_meets ⟨_,ho,rfl⟩ ⟨_,ho2,rfl⟩ noFill_tuple_add seq_tuple_add W0q W0i (W0f _ _)
   (tuple_addW1 t b vs.toArray ws.toArray n n2 dd dd2 sl sl2 (by simpa using hv) (by simp [hw])) ⟨ho,ho2,h1 hw⟩
 ·refine concat_meets ⟨_,ho,rfl⟩ ⟨_,ho2,rfl⟩ noFill_tuple_add seq_tuple_add W0q W0i (W0f _ _)
   (tuple_addW2 t b vs.toArray ws.toArray n n2 dd dd2 sl sl2 (by simpa using hv) (by simpa using hw) (by rw [Wf,Wf];exact hsz)) ⟨ho,ho2,?_⟩
  rw [e]
  exact h2 hw
def sIx (n d:Nat):Option Int->Nat
 |none=>d
 |some v=>if v<0 then (v+(n:Int)).toNat else min v.toNat n
theorem sIx_none (n d:Nat):sIx n d none=d:=rfl
theorem sIx_nat (n d k:Nat):sIx n d (some (k:Int))=min k n:=by
 show (if (k:Int)<0 then ((k:Int)+(n:Int)).toNat else min (k:Int).toNat n)=min k n
 rw [if_neg (by omega),W06]
theorem FE (n d:Nat)(hd:d≤n)(o:Option Int):sIx n d o≤n:=by
 cases o with
 |none=>exact hd
 |some v=>
  show (if v<0 then (v+(n:Int)).toNat else min v.toNat n)≤n
  by_cases hv:v<0
  ·rw [if_pos hv];omega
  ·rw [if_neg hv];exact Nat.min_le_right _ _
theorem M6 (v:Int)(n d:Nat):(if v<0 then max (v+(n:Int)) 0 else min v (n:Int))=((sIx n d (some v):Nat):Int):=by
 show (if v<0 then max (v+(n:Int)) 0 else min v (n:Int))=(((if v<0 then (v+(n:Int)).toNat else min v.toNat n):Nat):Int)
 by_cases hv:v<0
 ·simp only [if_pos hv];omega
 ·simp only [if_neg hv];omega
theorem B9 (lo hi:Option Int)(n:Nat):Vn lo hi 1 (n:Int)=(((sIx n 0 lo:Nat):Int),((sIx n n hi:Nat):Int)):=by
 have h1:¬((1:Int)<0):=by omega
 unfold Vn
 simp only [h1,if_false]
 refine Prod.ext ?_ ?_
 ·cases lo with
  |none=>rfl
  |some v=>exact M6 v n 0
 ·cases hi with
  |none=>rfl
  |some v=>exact M6 v n n
theorem GP (i j:Nat):V5 (i:Int) (j:Int) 1=j-i:=by
 unfold V5
 have h1:(1:Int)>0:=by omega
 simp only [h1,if_true,Int.ediv_one]
 split<;>omega
theorem slicePart_ {v:Value}{o:Option Int}{Q:Option Int->Shared->Prop}(p:IsPart v o)(h:Q o s):wpAny (model prog w) A (Builtin.Slice.slicePartIndex v) Q E s:=by
 cases p with
 |none=>exact slicePart_none h
 |int i t=>exact slicePart_int h
theorem YC {sl:Addr}{vl vu:Value}{lo hi:Option Int}{n:Nat}{Q:Int×Int×Nat->Shared->Prop}(hs:s.heap.IsSliceOf sl vl vu .none)(pl:IsPart vl lo)(pu:IsPart vu hi)
  (h:Q (((sIx n 0 lo:Nat):Int),1,sIx n n hi-sIx n 0 lo) s):wpAny (model prog w) A (VL (.ref sl) (pure (n:Int))) Q E s:=by
 obtain⟨os,hos,hcs,hds⟩:=id hs
 unfold VL W10
 refine W2 (W2 (Ve hos hds (x:=vl) rfl (W2 (Ve hos hds (x:=vu) rfl (W2 (Ve hos hds (x:=.none) rfl (Wk ?_)))))))
 refine W2 (slicePart_none ?_)
 show wpAny _ _ (if ((1:Int) == 0)=true then _ else _) _ _ s
 rw [if_neg (by decide)]
 refine W2 (slicePart_ pl (W2 (slicePart_ pu (W2 (Wk ?_)))))
 show wpAny _ _ (match Vn lo hi 1 (n:Int) with|(lo,hi)=>pure (lo,(1:Int),V5 lo hi 1)) _ _ s
 rw [B9 lo hi n]
 show wpAny _ _ (pure (((sIx n 0 lo:Nat):Int),(1:Int),V5 ((sIx n 0 lo:Nat):Int) ((sIx n n hi:Nat):Int) 1)) _ _ s
 rw [GP]
 exact Wk h
theorem MK (xs:Array Value)(i k:Nat):((Wr k).filterMap λ(m:Nat)=>xs[((i:Int)+(m:Int)*1).toNat]?).toArray=((xs.toList.drop i).take k).toArray:=by
 have e:(λ(m:Nat)=>xs[((i:Int)+(m:Int)*1).toNat]?)=λm=>xs[i+m]?:=by
  funext m
  have:((i:Int)+(m:Int)*1).toNat=i+m:=by omega
  rw [this]
 rw [e]
 have:=pick_run xs i k
 rw [List.filterMap_map] at this
 have e2:((λx=>xs[x]?) ∘ λx=>i+x)=λm=>xs[i+m]?:=rfl
 rw [e2] at this
 rw [this]
theorem getItem_tuple_cut {t sl:Addr}{items:Array Value}{vl vu:Value}{lo hi:Option Int}{Q:Value->Shared->Prop}(ht:IsTup s.heap t items)(hs:s.heap.IsSliceOf sl vl vu .none)(pl:IsPart vl lo)(pu:IsPart vu hi)
  (hw:¬(sIx items.size 0 lo=0/\sIx items.size items.size hi=items.size))
  (h:Q (.ref s.heap.objs.size) { s with heap:=s.heap.push { cls:=.type "tuple",data:=.seq ((items.toList.drop (sIx items.size 0 lo)).take (sIx items.size items.size hi-sIx items.size 0 lo)).toArray } })
  (hsz:items.size≤Wc):wpAny (model prog w) A (getItem (.ref t) (.ref sl)) Q E s:=by
 have htake:sizeOk (.seq ((items.toList.drop (sIx items.size 0 lo)).take (sIx items.size items.size hi-sIx items.size 0 lo)).toArray):=by
  show ((items.toList.drop (sIx items.size 0 lo)).take (sIx items.size items.size hi-sIx items.size 0 lo)).toArray.size≤Wc
  rw [Wf,WL,VZ,VF]
  omega
 have hj:sIx items.size items.size hi≤items.size:=FE _ _ (Wp _) hi
 obtain⟨os,hos,hcs,hds⟩:=id hs
 have hTs:s.TypeIs (.ref sl) "slice":=⟨os,hos,hcs⟩
 unfold getItem
 try with_reducible refine VO ?_
 first|refine W2 (Wk ?_)|skip
 refine W2 (W18 ht.typeIs (by decide) ?_)
 refine W2 (V9 (name:=Wm "__getitem__") ht.typeIs WK
  (VN WK ht.typeIs entry_tuple_getitem ?_ (args_tuple_getitem _ _)))
 show wpAny _ _ (W0a (.ref t) >>= _) _ _ s
 refine W2 (tupleItemsOf_ ht ?_)
 refine W2 (wpAny_typeOf hTs ?_)
 rw [if_pos (by decide)]
 refine W2 (YC hs pl pu ?_)
 have hno:¬((((sIx items.size 0 lo:Nat):Int) == 0&&(1:Int) == 1&&(sIx items.size items.size hi-sIx items.size 0 lo) == items.size)=true):=by
  intro q
  rw [WA,WA] at q
  have q1:((sIx items.size 0 lo:Nat):Int)=0:=eq_of_beq q.1.1
  have q2:sIx items.size items.size hi-sIx items.size 0 lo=items.size:=eq_of_beq q.2
  exact hw ⟨by omega,by omega⟩
 show wpAny _ _ (if (((sIx items.size 0 lo:Nat):Int) == 0&&(1:Int) == 1&&(sIx items.size items.size hi-sIx items.size 0 lo) == items.size)=true then _ else _) _ _ s
 rw [if_neg hno,MK]
 first
  |exact W2 (m:=V6 _) (V7 (Wk ⟨_,rfl,Wk h⟩) htake)
  |exact W2 (m:=V6 _) (V7 (W2 (Wk (Wk ⟨_,rfl,Wk h⟩))) htake)
  |exact W2 (W2 (m:=V6 _) (V7 (Wk (Wk ⟨_,rfl,Wk h⟩)) htake))
  |exact W2 (W2 (m:=V6 _) (V7 (Wk ⟨_,rfl,Wk h⟩) htake))
end
end HT
namespace L2
open PySem PySem.Spec PyProof.Rows
abbrev TO:=St->Hp->(Option Int->Hp->Prop)->Prop
def PO (X:Cx)(e:Option Expr)(t:TO):Prop:=
 ∀(pins:List (Addr×Obj)) (s:Shared) (σ:St) (H:Hp) (Q:Option Int->Hp->Prop),Inv X pins σ H s->t σ H Q->
  wpAny (model X.prog X.w) X.A (evalPart e X.env) (λu s'=>∃o H',Inv X pins σ H' s'/\IsPart u o/\Q o H') X.xe s
def Py:TO:=λ_ H Q=>Q none H
def Cy (t:TE):TO:=λσ H Q=>t σ H λx H1=>∃i,x = .int i/\Q (some i) H1
section
variable {X:Cx} {e:Expr} {te:TE} {lo hi:Option Expr} {tl th:TO} {pos p2:Pos}
theorem L5:PO X none Py:=by
 intro pins s σ H Q I h
 rw [evalPart_none]
 exact Wk ⟨none,H,I,.none,h⟩
theorem L4 (h:PE X e te):PO X (some e) (Cy te):=by
 intro pins s σ H Q I hw
 rw [evalPart_some]
 refine thn (h pins s σ H _ I hw) λu s1 ⟨x,H1,I1,r1,q1⟩=>?_
 obtain⟨i,rfl,q⟩:=q1
 obtain⟨t,rfl⟩:=r1
 exact⟨some i,H1,I1,.int i t,q⟩
def SlR (X:Cx)(r:V->Option Int->Option Int->Hp->VK->Prop):Prop:=
 ∀(pins:List (Addr×Obj)) (s:Shared) (σ:St) (H:Hp) (x:V) (v vl vu:Value) (lo hi:Option Int) (sl:Addr) (Q:VK),Inv X pins σ H s->Zz x v->s.heap.IsSliceOf sl vl vu .none->IsPart vl lo->IsPart vu hi->r x lo hi H Q->
  ∃T id,typeLookup (.type T) "__getitem__" = pure (some (.builtin id))/\s.TypeIs v T/\wpAny (model X.prog X.w) X.A (getItem v (.ref sl)) (EP X pins σ Q) X.xe s
theorem SlR.or {r r':V->Option Int->Option Int->Hp->VK->Prop}(h:SlR X r)(h':SlR X r'):SlR X (λx lo hi H Q=>r x lo hi H Q\/r' x lo hi H Q):=by
 intro pins s σ H x v vl vu lo hi sl Q I rx hs pl pu q
 rcases q with q|q
 ·exact h pins s σ H x v vl vu lo hi sl Q I rx hs pl pu q
 ·exact h' pins s σ H x v vl vu lo hi sl Q I rx hs pl pu q
def tSl (r:V->Option Int->Option Int->Hp->VK->Prop)(te:TE)(tl th:TO):TE:=λσ H Q=>te σ H λx H1=>tl σ H1 λl H2=>th σ H2 λu H3=>r x l u H3 Q
theorem ML {r:V->Option Int->Option Int->Hp->VK->Prop}(hr:SlR X r)(he:PE X e te)(hl:PO X lo tl)(hu:PO X hi th):PE X (.Subscript e (.Slice lo hi none p2) pos) (tSl r te tl th):=by
 intro pins s σ H Q I h
 refine Subscript_ (thn (he pins s σ H _ I h) λv s1 ⟨x,H1,I1,r1,q1⟩=>?_)
 refine wpAny_Slice (thn (hl pins s1 σ H1 _ I1 q1) λvl s2 ⟨l,H2,I2,pl,q2⟩=>thn (hu pins s2 σ H2 _ I2 q2) λvu s3 ⟨u,H3,I3,pu,q3⟩=>?_)
 rw [evalPart_none]
 refine Wk ?_
 have I4:Inv X pins σ H3 { s3 with heap:=s3.heap.push { cls:=.type "slice",data:=.fields #[vl,vu,.none] } }:=I3.kept (t':=s3.toks) λb ob q=>W7 _ q
 obtain⟨T,id,hT,ht,hg⟩:=hr pins { s3 with heap:=s3.heap.push { cls:=.type "slice",data:=.fields #[vl,vu,.none] } } σ H3 x v vl vu l u s3.heap.objs.size Q I4 r1 (W0Y ..) pl pu q3
 show wpAny (model X.prog X.w) X.A (subscriptTail e (.Slice lo hi none p2) v (.ref s3.heap.objs.size)) (EP X pins σ Q) X.xe { s3 with heap:=s3.heap.push { cls:=.type "slice",data:=.fields #[vl,vu,.none] } }
 exact tail_any (ops:=[.ref s3.heap.objs.size,v]) ht hT hg (by with_unfolding_all rfl)
def Mq (xs:List V)(lo hi:Option Int):List V:=(xs.drop (HT.sIx xs.length 0 lo)).take (HT.sIx xs.length xs.length hi-HT.sIx xs.length 0 lo)
theorem Jo (xs:List V)(lo hi:Option Int):(Mq xs lo hi).length≤xs.length:=by
 unfold Mq
 rw [WL,VZ]
 omega
def Iw (K:W3):V->Option Int->Option Int->Hp->VK->Prop:=λx lo hi H Q=>∃a xs,x = .ref a/\SqT K H a xs/\
 ¬(HT.sIx xs.length 0 lo=0/\HT.sIx xs.length xs.length hi=xs.length)/\∀p,H p=none->Q (.ref p) (upd H p (.tup (Mq xs lo hi)))
theorem Fu:SlR X (Iw X.K):=by
 intro pins s σ H x v vl vu lo hi sl Q I rx hs pl pu h
 obtain⟨a,xs,rfl,hx,hw,q⟩:=h
 cases rx
 obtain⟨its,r,ht,hz⟩:=I.tuple hx
 have hlen:its.toArray.size=xs.length:=by rw [Wf];exact r.length.symm
 refine⟨"tuple",_,WK.lookup,ht.typeIs,?_⟩
 refine HT.getItem_tuple_cut ht hs pl pu (by rw [hlen];exact hw) ?_ (by rw [hlen];exact hz)
 rw [hlen]
 refine⟨.ref s.heap.objs.size,_,I.laid (t':=s.toks) (o:=.tup (Mq xs lo hi)) (λb ob q=>W7 _ q) (Wp _) ?_,rfl,q _ (I.hok.fresh (Wp _))⟩
 exact⟨Wx (Jo xs lo hi) hz,_,(r.drop (HT.sIx xs.length 0 lo)).take (HT.sIx xs.length xs.length hi-HT.sIx xs.length 0 lo),Pr.new _ _⟩
def CL (K:W3):R2:=λx y H Q=>∃a b xs ys,x = .ref a/\y = .ref b/\SqT K H a xs/\SqT K H b ys/\xs≠[]/\xs.length+ys.length≤Wc/\
 (ys=[]->Q (.ref a) H)/\(ys≠[]->∀p,H p=none->Q (.ref p) (upd H p (.tup (xs++ys))))
theorem Zy.nil_iff {xs:List V}{us:List Value}(r:Zy xs us):us=[]↔xs=[]:=by
 cases r with
 |nil=>simp
 |cons _ _=>simp
theorem Lh:OpR X (binaryOp .Add) (CL X.K):=by
 intro pins s σ H x y v u Q I rx ry h
 obtain⟨a,b,xs,ys,rfl,rfl,ha,hb,hx,hz,q1,q2⟩:=h
 cases rx
 cases ry
 obtain⟨its,r1,p1,_⟩:=I.tuple ha
 obtain⟨its2,r2,p2,_⟩:=I.tuple hb
 refine HT.cat_tup p1 p2 (λz=>hx (r1.nil_iff.mp z)) (λz=>⟨.ref a,H,I,rfl,q1 (r2.nil_iff.mp z)⟩) (λz=>?_) (by rw [←r1.length,←r2.length];exact hz)
 refine⟨.ref s.heap.objs.size,_,I.laid (t':=s.toks) (o:=.tup (xs++ys)) (λb ob q=>W7 _ q) (Wp _) ?_,rfl,q2 (λw=>z (r2.nil_iff.mpr w)) _ (I.hok.fresh (Wp _))⟩
 exact⟨by rw [Wo];exact hz,_,r1.append r2,Pr.new _ _⟩
end
end L2
namespace L2
open PySem PySem.Spec PyProof.Rows
def ixN (n:Nat)(i:Int):Option Nat:=if 0≤i then (if i<n then some i.toNat else none) else if -(n:Int)≤i then some (i+n).toNat else none
def atI {α:Type}(xs:List α)(i:Int):Option α:=(ixN xs.length i).bind λj=>xs[j]?
theorem NK {n:Nat}{i:Int}{j:Nat}(h:ixN n i=some j):seqIndex? i n=some j/\j<n/\-(n:Int)≤i/\i<n:=by
 unfold ixN at h
 by_cases h0:0≤i
 ·rw [if_pos h0] at h
  by_cases h1:i<n
  ·rw [if_pos h1] at h
   have e:i.toNat=j:=WQ h
   exact⟨by rw [seqIndex_of h0 h1,e],by omega,by omega,h1⟩
  ·rw [if_neg h1] at h;cases h
 ·rw [if_neg h0] at h
  by_cases h1 : -(n:Int)≤i
  ·rw [if_pos h1] at h
   have e:(i+n).toNat=j:=WQ h
   exact⟨by rw [seqIndex_neg (by omega) h1,e],by omega,h1,by omega⟩
  ·rw [if_neg h1] at h;cases h
theorem TD {α:Type}{xs:List α}{i:Int}{v:α}(h:atI xs i=some v):∃j,seqIndex? i xs.length=some j/\xs[j]? = some v/\j<xs.length/\-(xs.length:Int)≤i/\i<xs.length:=by
 unfold atI at h
 cases e:ixN xs.length i with
 |none=>rw [e] at h;cases h
 |some j=>
  rw [e] at h
  obtain⟨h1,h2,h3,h4⟩:=NK e
  exact⟨j,h1,h,h2,h3,h4⟩
theorem U6 {α:Type}{xs:List α}{j:Nat}{v:α}(h:xs[j]? = some v):atI xs (j:Int)=some v:=by
 have hj:j<xs.length:=(Wl.mp h).1
 have e:ixN xs.length (j:Int)=some j:=by
  unfold ixN
  rw [if_pos (by omega),if_pos (by omega)];simp
 unfold atI;rw [e];exact h
def Ml (b:Expr):Prop:=∀o i,subscripted b false o i=operate [o,i] (getItem o i)
def IxR (X:Cx)(r:R2):Prop:=
 ∀(value slice:Expr) (pins:List (Addr×Obj)) (s:Shared) (σ:St) (H:Hp) (x y:V) (v u:Value) (Q:VK),Inv X pins σ H s->Zz x v->Zz y u->r x y H Q->
  subscripted slice false v u=operate [v,u] (getItem v u)->wpAny (model X.prog X.w) X.A (subscriptTail value slice v u) (EP X pins σ Q) X.xe s
def MtR (X:Cx)(id:String)(r:V->List V->Hp->VK->Prop):Prop:=
 ∀(pins:List (Addr×Obj)) (s:Shared) (σ:St) (H:Hp) (x:V) (xs:List V) (v:Value) (us:List Value) (Q:VK),Inv X pins σ H s->Zz x v->Zy xs us->r x xs H Q->
  wpAny (model X.prog X.w) X.A (call (.builtin id) (v :: us)) (EP X pins σ Q) X.xe s
section
variable {X:Cx} {a b:Expr} {ta tb:TE} {pos:Pos}
theorem IxR.or {r r':R2}(h:IxR X r)(h':IxR X r'):IxR X (λx y H Q=>r x y H Q\/r' x y H Q):=by
 intro value slice pins s σ H x y v u Q I rx ry q hs
 rcases q with q|q
 ·exact h value slice pins s σ H x y v u Q I rx ry q hs
 ·exact h' value slice pins s σ H x y v u Q I rx ry q hs
theorem CQ {r:R2}(hr:IxR X r)(ha:PE X a ta)(hb:PE X b tb)(hs:Ml b):PE X (.Subscript a b pos) (tOp r ta tb):=by
 intro pins s σ H Q I h
 exact Subscript_ (Hy ha hb I h λv u s2 x y H2 I2 rx ry q=>hr a b pins s2 σ H2 x y v u Q I2 rx ry q (hs _ _))
def HI (K:W3):R2:=λx y H Q=>∃p xs i v,x = .ref p/\y = .int i/\SqL K H p xs/\atI xs i=some v/\Q v H
def HG (K:W3):R2:=λx y H Q=>∃p xs i v,x = .ref p/\y = .int i/\SqT K H p xs/\atI xs i=some v/\Q v H
def HH:R2:=λx y H Q=>∃z i c,x = .str z/\y = .int i/\z.length≤Wc/\atI z.cps.toList i=some c/\Q (.str ⟨#[c]⟩) H
theorem LC:IxR X (HI X.K):=by
 intro value slice pins s σ H x y v u Q I rx ry h hs
 obtain⟨p,xs,i,z,rfl,rfl,hq,he,q⟩:=h
 cases rx
 obtain⟨t,rfl⟩:=ry
 obtain⟨its,r,pl,hz⟩:=I.list hq
 obtain⟨j,h1,h2,h3,h4,h5⟩:=TD he
 obtain⟨w,ew,rw'⟩:=r.get h2
 have hl:=r.length
 have hn:=Jf
 have fin:EP X pins σ Q w s:=⟨z,H,I,rw',q⟩
 by_cases h0:0≤i
 ·have hj:i.toNat=j:=by
   rw [seqIndex_of h0 h5] at h1
   exact WQ h1
  exact item_listR pl.isList h0 (by omega) (by rw [hj];simpa using ew) fin hs
 ·have hj:(i+(its.toArray.size:Int)).toNat=j:=by
   rw [seqIndex_neg (by omega) h4] at h1
   rw [Wf,←hl]
   exact WQ h1
  exact subscriptTail_builtinR (x:=w) pl.isList.typeIs slot_list_getitem.lookup
   (wpAny_getItem_list_neg (Q:=λr s'=>r=w/\EP X pins σ Q r s') pl.isList (by omega) (by rw [Wf]<;>omega) (by omega) (by rw [hj];simpa using ew) ⟨rfl,fin⟩) hs
theorem Eb:IxR X (HG X.K):=by
 intro value slice pins s σ H x y v u Q I rx ry h hs
 obtain⟨p,xs,i,z,rfl,rfl,hq,he,q⟩:=h
 cases rx
 obtain⟨t,rfl⟩:=ry
 obtain⟨its,r,pl,hz⟩:=I.tuple hq
 obtain⟨j,h1,h2,h3,h4,h5⟩:=TD he
 obtain⟨w,ew,rw'⟩:=r.get h2
 have hl:=r.length
 have hn:=Jf
 have fin:EP X pins σ Q w s:=⟨z,H,I,rw',q⟩
 exact subscriptTail_builtinR (x:=w) pl.typeIs slot_tuple_getitem.lookup
  (getItem_tuple (j:=j) (Q:=λr s'=>r=w/\EP X pins σ Q r s') pl (by omega) (by omega) (by rw [Wf,←hl];exact h1) (by simpa using ew) ⟨rfl,fin⟩) hs
theorem Ec:IxR X HH:=by
 intro value slice pins s σ H x y v u Q I rx ry h hs
 obtain⟨z,i,c,rfl,rfl,hz,he,q⟩:=h
 obtain⟨t,rfl⟩:=rx
 obtain⟨t',rfl⟩:=ry
 obtain⟨j,h1,h2,h3,h4,h5⟩:=TD he
 have hl:z.cps.toList.length=z.length:=by simp [Str.length]
 rw [hl] at h1 h4 h5
 have hn:=Jf
 exact tail_any (typeIs_str s z t) slot_str_getitem.lookup (getItem_str (c:=c) (by
  have e1:decide (i < -(2 ^ 63:Int))=false:=decide_eq_false (by omega)
  have e2:decide (i≥2 ^ 63)=false:=decide_eq_false (by omega)
  rw [e1,e2,Bool.or_false]) (by rw [h1];simpa using h2) ⟨.str ⟨#[c]⟩,H,I.tok _,⟨_,rfl⟩,q⟩) hs
def rIx (K:W3):R2:=λx y H Q=>HI K x y H Q\/HG K x y H Q\/HH x y H Q
theorem Ed:IxR X (rIx X.K):=LC.or (Eb.or Ec)
theorem GV (its:List Value)(n j:Nat)(u:Value):W0I (·.setIfInBounds j u) { cls:=.type "list",data:=.seq its.toArray n }={ cls:=.type "list",data:=.seq (its.set j u).toArray n }:=by
 simp [W0I]
theorem Inv.lst {pins:List (Addr×Obj)}{σ:St}{H:Hp}{s:Shared}{p:Addr}{xs:List V}(I:Inv X pins σ H s)(h:H p=some (.lst xs)) :
  ∃(its:List Value) (n:Nat),Zy xs its/\s.heap.get? p=some { cls:=.type "list",data:=.seq its.toArray n }/\xs.length≤Wc:=by
 obtain⟨z,its,n,r,e⟩:=I.hok p _ h
 exact⟨its,n,r,e,z⟩
theorem Inv.lstUpd {pins:List (Addr×Obj)}{σ:St}{H:Hp}{s:Shared}{p:Addr}{xs ys:List V}{its its':List Value}{n n':Nat}{f:Obj->Obj}(I:Inv X pins σ H s)(h:H p=some (.lst xs))
  (ho:s.heap.get? p=some { cls:=.type "list",data:=.seq its.toArray n }) (hf:f { cls:=.type "list",data:=.seq its.toArray n }={ cls:=.type "list",data:=.seq its'.toArray n' }) (r:Zy ys its') (hz:ys.length≤Wc) (t:Nat) :
  Inv X pins σ (upd H p (.lst ys)) { s with heap:=s.heap.update p f,toks:=t }:=by
 have e:(s.heap.update p f).get? p=some { cls:=.type "list",data:=.seq its'.toArray n' }:=by
  rw [W04 f ho (by rw [hf]<;>rfl),hf]
 refine I.write (x:=p) (e:=p) (by rw [h];trivial) (.inl rfl) (λb u hb q=>(Vk _ _ (Ne.symm hb)).trans q) ⟨_,e⟩ ?_
 exact⟨hz,its',n',r,e⟩
def CK:V->V->V->Hp->(Hp->Prop)->Prop:=λo i v H Q=>∃p xs k j,o = .ref p/\i = .int k/\H p=some (.lst xs)/\ixN xs.length k=some j/\Q (upd H p (.lst (xs.set j v)))
theorem Mz:Ps X CK:=by
 intro pins s σ H o i v ov iv u Q I ro ri rv h
 obtain⟨p,xs,k,j,rfl,rfl,hp,hj,q⟩:=h
 cases ro
 obtain⟨t,rfl⟩:=ri
 obtain⟨its,n,r,ho,hz⟩:=I.lst hp
 obtain⟨h1,h2,h3,h4⟩:=NK hj
 have hl:=r.length
 have hn:=Jf
 have I':Inv X pins σ (upd H p (.lst (xs.set j v))) { s with heap:=s.heap.update p (W0I (·.setIfInBounds j u)) }:=
  I.lstUpd hp ho (GV its n j u) (r.set rv j) (by rw [List.length_set];exact hz) s.toks
 by_cases h0:0≤k
 ·have hk:k.toNat=j:=by
   rw [seqIndex_of h0 h4] at h1
   exact WQ h1
  exact PySem.W.ki_setAt ho h0 (by omega) (by rw [Wf,←hl];exact h4) (by rw [hk];exact⟨_,I',q⟩)
 ·have hk:(k+(its.toArray.size:Int)).toNat=j:=by
   rw [seqIndex_neg (by omega) h3] at h1
   rw [Wf,←hl]
   exact WQ h1
  exact PySem.W.ki_setBack ho (by omega) (by rw [Wf,←hl];exact h3) (by omega) (by rw [hk];exact⟨_,I',q⟩)
theorem Uh (lo hi:Option Int)(n:Nat):(sliceBounds lo hi none n).1=((HT.sIx n 0 lo:Nat):Int)/\(sliceBounds lo hi none n).2.1=((HT.sIx n n hi:Nat):Int)/\(sliceBounds lo hi none n).2.2=1:=by
 refine⟨?_,?_,rfl⟩
 ·cases lo with
  |none=>simp [sliceBounds,HT.sIx]
  |some i=>
   simp only [sliceBounds,HT.sIx,Option.getD_none,show (1:Int)>0 by decide,if_true]
   by_cases h:i<0
   ·simp only [h,if_true]<;>omega
   ·simp only [h,if_false]<;>omega
 ·cases hi with
  |none=>simp [sliceBounds,HT.sIx]
  |some i=>
   simp only [sliceBounds,HT.sIx,Option.getD_none,show (1:Int)>0 by decide,if_true]
   by_cases h:i<0
   ·simp only [h,if_true]<;>omega
   ·simp only [h,if_false]<;>omega
theorem JS (its:List Value)(lo hi:Option Int):slicePick its.toArray lo hi none=((its.drop (HT.sIx its.length 0 lo)).take (HT.sIx its.length its.length hi-HT.sIx its.length 0 lo)).toArray:=by
 obtain⟨h1,h2,h3⟩:=Uh lo hi its.toArray.size
 unfold slicePick
 rw [h1,h2,h3]
 simp only [sliceRange_one,pick_run,Wf]<;>rfl
def Ix (K:W3):V->Option Int->Option Int->Hp->VK->Prop:=λx lo hi H Q=>∃a xs,x = .ref a/\SqL K H a xs/\∀p,H p=none->Q (.ref p) (upd H p (.lst (Mq xs lo hi)))
theorem BB:SlR X (Ix X.K):=by
 intro pins s σ H x v vl vu lo hi sl Q I rx hs pl pu h
 obtain⟨a,xs,rfl,hx,q⟩:=h
 cases rx
 obtain⟨its,r,ht,hz⟩:=I.list hx
 have hlen:=r.length
 refine⟨"list",_,slot_list_getitem.lookup,ht.isList.typeIs,?_⟩
 refine wpAny_getItem_list_slice ht.isList hs pl pu .none (by simp) ?_ (by rw [Wf]<;>omega)
 rw [JS,←hlen]
 refine⟨.ref s.heap.objs.size,_,I.laid (t':=s.toks) (o:=.lst (Mq xs lo hi)) (λb ob q=>W7 _ q) (Wp _) ?_,rfl,q _ (I.hok.fresh (Wp _))⟩
 exact⟨Wx (Jo xs lo hi) hz,_,0,(r.drop (HT.sIx xs.length 0 lo)).take (HT.sIx xs.length xs.length hi-HT.sIx xs.length 0 lo),Wv _ rfl⟩
theorem UP:YH X (.builtin "len") (λxs H Q=>∃p ys,xs=[.ref p]/\(SqL X.K H p ys\/SqT X.K H p ys)/\Q (.int ys.length) H):=by
 intro pins s σ H xs us Q I r h
 obtain⟨p,ys,rfl,hq,q⟩:=h
 obtain⟨u,rfl,rx⟩:=Qb r
 cases rx
 have hn:=Jf
 rcases hq with hq|hq
 ·obtain⟨its,r',pl,hz⟩:=I.list hq
  have hlen:=r'.length
  exact Calls.call_len_list pl.isList (by simp only [Wf]<;>omega) ⟨.int ys.length,H,I.tok _,⟨s.toks+1,by rw [Wf,hlen]⟩,q⟩
 ·obtain⟨its,r',pl,hz⟩:=I.tuple hq
  have hlen:=r'.length
  exact len_tuple pl (by simp only [Wf]<;>omega) ⟨.int ys.length,H,I.tok _,⟨s.toks+1,by rw [Wf,hlen]⟩,q⟩
theorem UO:YH X (.builtin "len") (λxs H Q=>∃z,xs=[.str z]/\z.length≤Wc/\Q (.int z.length) H):=by
 intro pins s σ H xs us Q I r h
 obtain⟨z,rfl,hz,q⟩:=h
 obtain⟨u,rfl,t,rfl⟩:=Qb r
 have hn:=Jf
 exact len_str (by omega) ⟨.int z.length,H,I.tok _,⟨_,rfl⟩,q⟩
theorem YH.or {f:Value}{r r':List V->Hp->VK->Prop}(h:YH X f r)(h':YH X f r'):YH X f (λxs H Q=>r xs H Q\/r' xs H Q):=by
 intro pins s σ H xs us Q I rs q
 rcases q with q|q
 ·exact h pins s σ H xs us Q I rs q
 ·exact h' pins s σ H xs us Q I rs q
theorem UN:YH X (.type "list") (λxs H Q=>∃p ys,xs=[.ref p]/\(SqL X.K H p ys\/SqT X.K H p ys)/\∀l,H l=none->Q (.ref l) (upd H l (.lst ys))):=by
 intro pins s σ H xs us Q I r h
 obtain⟨p,ys,rfl,hq,q⟩:=h
 obtain⟨u,rfl,rx⟩:=Qb r
 cases rx
 have fin:∀(its:List Value),Zy ys its->ys.length≤Wc->∀(h':Heap) (c':Nat),(∀b o',s.heap.get? b=some o'->h'.get? b=some o')->
   h'.get? s.heap.objs.size=some { cls:=.type "list",dict:=none,data:=.seq its.toArray c',slots:=#[] }->EP X pins σ Q (.ref s.heap.objs.size) { s with heap:=h' }:=λits r' hz h' c' kp e=>
  ⟨.ref s.heap.objs.size,_,I.laid (t':=s.toks) kp (Wp _) (show ZB X.prog X.w _ h' _ (.lst ys) from ⟨hz,its,c',r',e⟩),rfl,q _ (I.hok.fresh (Wp _))⟩
 rcases hq with hq|hq
 ·obtain⟨its,r',pl,hz⟩:=I.list hq
  have hlen:=r'.length
  obtain⟨o,ho,hc,n,hd⟩:=pl.isList
  exact call_list_seq p (.inl rfl) ho hc hd (λh' c' kp e=>fin its r' hz h' c' kp e) (by simp only [Wf]<;>omega)
 ·obtain⟨its,r',pl,hz⟩:=I.tuple hq
  have hlen:=r'.length
  obtain⟨o,ho,hc,n,hd⟩:=pl
  exact call_list_seq p (.inr rfl) ho hc hd (λh' c' kp e=>fin its r' hz h' c' kp e) (by simp only [Wf]<;>omega)
theorem U2:YH X (.type "tuple") (λxs H Q=>∃p ys,xs=[.ref p]/\((SqL X.K H p ys/\∀l,H l=none->Q (.ref l) (upd H l (.tup ys)))\/(SqT X.K H p ys/\Q (.ref p) H))):=by
 intro pins s σ H xs us Q I r h
 obtain⟨p,ys,rfl,h⟩:=h
 obtain⟨u,rfl,rx⟩:=Qb r
 cases rx
 rcases h with ⟨hq,q⟩|⟨hq,q⟩
 ·obtain⟨its,r',pl,hz⟩:=I.list hq
  have hlen:=r'.length
  refine call_tuple_list pl.isList (λh' kp=>?_) (by simp only [Wf]<;>omega)
  have I1:Inv X pins σ H { s with heap:=h' }:=I.kept (t':=s.toks) kp
  have I2:Inv X pins σ (upd H h'.objs.size (.tup ys)) { s with heap:=h'.push { cls:=.type "tuple",data:=.seq its.toArray } }:=
   I1.laid (t':=s.toks) (λb o e=>W7 _ e) (Wp _) (show ZB X.prog X.w _ _ _ (.tup ys) from ⟨hz,its,r',Pr.new _ _⟩)
  exact⟨.ref h'.objs.size,_,I2,rfl,q _ (I1.hok.fresh (Wp _))⟩
 ·obtain⟨its,r',pl,hz⟩:=I.tuple hq
  exact call_tuple_same pl ⟨.ref p,H,I,rfl,q⟩
def tyV (K:W3)(T:String)(x:V)(H:Hp):Prop:=match x with
 | .str _=>T = "str"
 | .int _=>T = "int"
 | .ref p=>(T = "list"/\∃xs,SqL K H p xs)\/(T = "tuple"/\∃o,K.lookup p=some o/\o.cls = .type "tuple"/\o.dict=none)\/
   (T = "dict"/\((∃kvs,H p=some (.dK kvs))\/∃kvs,H p=some (.dT kvs)))\/(T = "set"/\∃S n,H p=some (.set S n))
 |_=>False
theorem Fk {pins:List (Addr×Obj)}{σ:St}{H:Hp}{s:Shared}{T:String}{x:V}{v:Value}(I:Inv X pins σ H s)(r:Zz x v)(ty:tyV X.K T x H) :
  s.TypeIs v T/\∀a,v = .ref a->∃ob,s.heap.get? a=some ob/\ob.dict=none:=by
 cases x with
 |str z=>
  obtain⟨t,rfl⟩:=r
  cases (show T = "str" from ty)
  exact⟨typeIs_str s z t,λ_ e=>nomatch e⟩
 |int i=>
  obtain⟨t,rfl⟩:=r
  cases (show T = "int" from ty)
  exact⟨typeIs_int s i t,λ_ e=>nomatch e⟩
 |ref p=>
  cases r
  rcases ty with ⟨rfl,xs,hq⟩|⟨rfl,o,hk,hc,hd⟩|⟨rfl,hk⟩|⟨rfl,S,n,hk⟩
  ·obtain⟨its,_,pl,_⟩:=I.list hq
   refine⟨pl.isList.typeIs,λa e=>?_⟩
   cases e
   obtain⟨o,n,e,c,hd,_⟩:=pl
   exact⟨o,e,hd⟩
  ·refine⟨⟨o,I.kIn p o hk,hc⟩,λa e=>?_⟩
   cases e
   exact⟨o,I.kIn _ o hk,hd⟩
  ·have z:∃o,s.heap.get? p=some o/\o.ExactDict:=by
    rcases hk with ⟨kvs,hk⟩|⟨kvs,hk⟩
    ·obtain⟨_,_,_,_,o,_,_,e,ex,_⟩:=I.hok p _ hk
     exact⟨o,e,ex⟩
    ·obtain⟨_,_,_,_,o,_,_,e,ex,_⟩:=I.hok p _ hk
     exact⟨o,e,ex⟩
   obtain⟨o,e,ex⟩:=z
   refine⟨⟨o,e,ex.1⟩,λa e2=>?_⟩
   cases e2
   exact⟨o,e,ex.2.1⟩
  ·obtain⟨o,_,_,_,e,ex,_⟩:=I.hok p _ hk
   refine⟨⟨o,e,ex.1⟩,λa e2=>?_⟩
   cases e2
   exact⟨o,e,ex.2.1⟩
 |_=>exact False.elim ty
def tBM (K:W3)(T:String)(r:V->List V->Hp->VK->Prop)(to:TE)(t:TA):TE:=λσ H Q=>to σ H λx H1=>tyV K T x H1/\t σ H1 λxs H2=>r x xs H2 Q
variable {o e:Expr} {es:List Expr} {to:TE} {t:TA} {name:Str} {apos cpos:Pos} {T id:String} {r:V->List V->Hp->VK->Prop}
theorem BV (pa:PlainAttrs T)(slot:Slot T name id)(hty:typeOf (.builtin id)=pure (.type "method_descriptor"))(hm:MtR X id r)(ho:PE X o to)(ha:PA X (e :: es) t)
  (hbase:attributeBase o name X.env (eval o X.env)=eval o X.env:=by rfl)
  (hfew:((backTo cpos (Wn (e :: es) X.env)).all (λx=>!x.1)&&(backToKw cpos (keywordEach [] X.env)).all (λx=>x.1.isSome)
   && decide ((e :: es).length+([]:List Keyword).length+(if ([]:List Keyword).isEmpty then 0 else 1)<30))=true:=by rfl)
  (hline:(apos.endLine == cpos.line)=true:=by rfl) (hs:Wn (e :: es) X.env=(false,eval e X.env) :: Wn es X.env:=by rfl) (hplain:(backTo cpos (Wn es X.env)).any (·.1)=false:=by rfl) :
  PE X (.Call (.Attribute o name apos) (e :: es) [] cpos) (tBM X.K T r to t):=by
 intro pins s σ H Q I h
 refine wpAny_Call_method_late hbase hfew hline rfl (thn (ho pins s σ H _ I h) λv s1 ⟨x,H1,I1,r1,ty,q1⟩=>?_)
 obtain⟨h1,h2⟩:=Fk I1 r1 ty
 refine⟨T,id,pa,slot,hty,h1,h2,?_⟩
 have hA:=ha cpos pins s1 σ H1 _ I1 q1
 rw [hs] at hA ⊢
 refine Calls.callWith_builtin (by show (false||(backTo cpos (Wn es X.env)).any (·.1))=false;rw [hplain]<;>rfl) (Calls.evalArgs_plain ?_)
 exact thn hA λus s2 ⟨vs,H2,I2,r2,q2⟩=>hm pins s2 σ H2 x vs v us Q I2 r1 r2 q2
/- xs.append(e),list.index on a module's tuple .. are MtR facts of 06m -/
end
end L2
namespace L2
open PySem PySem.Spec PyProof.Rows
def MtM (X:Cx)(id:String)(r:V->List V->Hp->VK->Prop):Prop:=
 ∀(pins:List (Addr×Obj)) (s:Shared) (σ:St) (H:Hp) (x:V) (xs:List V) (v:Value) (us:List Value) (Q:VK),Inv X pins σ H s->Zz x v->Zy xs us->r x xs H Q->
  wpAny (model X.prog X.w) X.A (call (.builtin id) (v :: us)) (EP X pins σ Q) X.xe s
theorem Zy.one:∀{x:V} {us:List Value},Zy [x] us->∃u,us=[u]/\Zz x u
 |_,_,.cons r .nil=>⟨_,rfl,r⟩
theorem Zy.eraseIdx:∀{xs:List V} {us:List Value} (i:Nat),Zy xs us->Zy (xs.eraseIdx i) (us.eraseIdx i)
 |_,_,_,.nil=>.nil
 |_,_,0,.cons _ t=>t
 |_,_,i+1,.cons r t=>.cons r (Zy.eraseIdx i t)
theorem Us {α:Type}:∀(l:List α) (i:Nat),(l.eraseIdx i).length≤l.length
 |[],_=>Wp _
 |_ :: _,0=>Nat.le_succ _
 |_ :: r,i+1=>Nat.succ_le_succ (Us r i)
section
variable {X:Cx} {pins:List (Addr×Obj)} {σ:St} {H:Hp} {s:Shared} {l b:Addr} {xs ys zs:List V}
theorem Inv.lset {its its':List Value}{n:Nat}{f:Array Value->Array Value}{t':Nat}(I:Inv X pins σ H s)(hH:H l=some (.lst xs))
  (e:s.heap.get? l=some { cls:=.type "list",data:=.seq its.toArray n }) (hf:f its.toArray=its'.toArray) (hv:Zy ys its') (hz:ys.length≤Wc) :
  Inv X pins σ (upd H l (.lst ys)) { s with heap:=s.heap.update l (W0I f),toks:=t' }:=by
 have q:=PySem.IsL.update e f
 rw [hf] at q
 refine I.write (x:=l) (e:=l) (by rw [hH];exact trivial) (.inl rfl) (λb' u hb hu=>(Vk s.heap (W0I f) (Ne.symm hb)).trans hu) ⟨_,q⟩ ?_
 exact⟨hz,its',_,hv,q⟩
theorem Inv.lnew {its:List Value}{t':Nat}(I:Inv X pins σ H s)(hv:Zy ys its)(hz:ys.length≤Wc) :
  Inv X pins σ (upd H s.heap.objs.size (.lst ys)) { s with heap:=s.heap.push { cls:=.type "list",data:=.seq its.toArray },toks:=t' }:=
 I.laid (λ_ _ q=>W7 _ q) (Wp _) ⟨hz,its,0,hv,Wv _ rfl⟩
theorem Inv.fresh (I:Inv X pins σ H s):H s.heap.objs.size=none:=I.hok.fresh (Wp _)
theorem Inv.lstM (I:Inv X pins σ H s)(hH:H l=some (.lst xs)):xs.length≤Wc/\∃(its:List Value) (n:Nat),Zy xs its/\xs.length=its.length/\s.heap.get? l=some { cls:=.type "list",data:=.seq its.toArray n }:=by
 obtain⟨z,its,n,r,e⟩:=I.hok l _ hH
 exact⟨z,its,n,r,r.length,e⟩
end
section
variable {X:Cx}
def PX:V->List V->Hp->VK->Prop:=λx vs H Q=>∃l xs y,x = .ref l/\vs=[y]/\H l=some (.lst xs)/\xs.length<Wc/\Q .non (upd H l (.lst (xs++[y])))
theorem N1:MtM X "list.append" PX:=by
 intro pins s σ H x vs v us Q I rx rv h
 obtain⟨l,xs,y,rfl,rfl,hH,hz,q⟩:=h
 cases rx
 obtain⟨u,rfl,ru⟩:=rv.one
 obtain⟨z,its,n,r,hl,e⟩:=I.lstM hH
 refine call_meets F.slot_list_append ⟨_,e,rfl⟩ F.entry_list_append (F.args_list_append_2 _ _) (PySem.list_append l its.toArray n u (by rw [Wf];omega)) ⟨e,?_⟩
 refine⟨.non,_,I.lset (its':=its++[u]) hH e (by simp) (r.append (.cons ru .nil)) ?_,rfl,q⟩
 rw [Wo,W0A]
 omega
def FJ:V->List V->Hp->VK->Prop:=λx vs H Q=>∃l xs i k y,x = .ref l/\vs=[.int i]/\H l=some (.lst xs)/\-(2 ^ 63)≤i/\i<2 ^ 63/\seqIndex? i xs.length=some k/\xs[k]? = some y/\Q y (upd H l (.lst (xs.eraseIdx k)))
theorem MQ:MtM X "list.pop" FJ:=by
 intro pins s σ H x vs v us Q I rx rv h
 obtain⟨l,xs,i,k,y,rfl,rfl,hH,h1,h2,hk,hy,q⟩:=h
 cases rx
 obtain⟨u,rfl,ru⟩:=rv.one
 obtain⟨t,rfl⟩:=ru
 obtain⟨z,its,n,r,hl,e⟩:=I.lstM hH
 obtain⟨w,hw,rw'⟩:=r.get hy
 refine call_meets F.slot_list_pop ⟨_,e,rfl⟩ F.entry_list_pop (F.args_list_pop_2 _ _)
  (MeetsSeq.list_pop_at l its.toArray n i t k w (fitsIndex_both h1 h2) (by rw [Wf,←hl];exact hk) (by rw [←W0B];exact hw) (by rw [Wf];omega)) ⟨e,?_⟩
 refine⟨y,_,I.lset (its':=its.eraseIdx k) hH e ?_ (r.eraseIdx k) ?_,rw',q⟩
 ·show its.toArray.eraseIdxIfInBounds k=(its.eraseIdx k).toArray
  rw [List.eraseIdxIfInBounds_toArray]
 ·have:=Us xs k
  omega
def Iz:R2:=λx y H Q=>∃l b xs zs,x = .ref l/\y = .ref b/\H l=some (.lst xs)/\H b=some (.lst zs)/\xs.length+zs.length≤Wc/\∀p,H p=none->Q (.ref p) (upd H p (.lst (xs++zs)))
theorem Ae:OpR X (binaryOp .Add) Iz:=by
 intro pins s σ H x y v u Q I rx ry h
 obtain⟨l,b,xs,zs,rfl,rfl,hH,hB,hz,q⟩:=h
 cases rx
 cases ry
 obtain⟨z,its,n,r,hl,e⟩:=I.lstM hH
 obtain⟨z2,its2,n2,r2,hl2,e2⟩:=I.lstM hB
 refine PySem.P.add_list e e2 ?_ (by rw [Wf,Wf];omega)
 have ea:its.toArray++its2.toArray=(its++its2).toArray:=by simp
 rw [ea]
 exact⟨.ref _,_,I.lnew (t':=s.toks) (r.append r2) (by rw [Wo];omega),rfl,q _ I.fresh⟩
end
section
variable {prog:Program} {w:World} {A:Around} {E:Value->Shared->Prop} {s:Shared}
end
section
variable {X:Cx}
end
end L2
namespace L2
open PySem PySem.Spec PyProof.Rows
section
variable {κ:Type} [DecidableEq κ]
def Bc (kvs:List (κ×V))(k:κ):Option V:=(kvs.find? λkv=>decide (kv.1=k)).map (·.2)
def UY (kvs:List (κ×V))(k:κ)(v:V):List (κ×V):=
 if (kvs.any λkv=>decide (kv.1=k))=true then kvs.map (λkv=>if kv.1=k then (kv.1,v) else kv) else kvs++[(k,v)]
theorem QQ {p:κ×V}{r:List (κ×V)}{k:κ}(e:p.1=k):Bc (p :: r) k=some p.2:=by simp [Bc,VG,e]
theorem QR {p:κ×V}{r:List (κ×V)}{k:κ}(e:¬p.1=k):Bc (p :: r) k=Bc r k:=by simp [Bc,VG,e]
theorem TJ (k:κ):∀kvs:List (κ×V),(kvs.any λkv=>decide (kv.1=k))=(Bc kvs k).isSome
 |[]=>rfl
 |p :: r=>by
  rw [W07]
  by_cases e:p.1=k
  ·simp only [QQ e,decide_eq_true e,Bool.true_or,Option.isSome_some]
  ·rw [QR e,decide_eq_false e,Bool.false_or];exact TJ k r
theorem Jg (kvs:List (κ×V))(k:κ)(v:V):(UY kvs k v).length≤kvs.length+1:=by
 unfold UY
 split
 ·rw [Wg];omega
 ·rw [Wo,V2,List.length_nil];omega
theorem Mk.isSome_eq {o:Option V}{u:Option Value}(r:Mk o u):o.isSome=u.isSome:=by
 cases o with
 |none=>cases u with
  |none=>rfl
  |some _=>exact (show False from r).elim
 |some _=>cases u with
  |none=>exact (show False from r).elim
  |some _=>rfl
theorem KV.val {kvs:List (κ×V)}{vs:List (κ×Value)}(r:KV kvs vs)(k:κ):Mk (Bc kvs k) (valueAt vs k):=by
 unfold KV at r
 induction r with
 |nil=>exact True.intro
 | @cons p q ps qs h t ih=>
  obtain⟨h1,h2⟩:=h
  by_cases e:p.1=k
  ·have e':q.1=k:=h1.symm.trans e
   have b:valueAt (q :: qs) k=some q.2:=by simp [valueAt,VG,e']
   rw [QQ e,b];exact h2
  ·have e':¬q.1=k:=λz=>e (h1.trans z)
   have b:valueAt (q :: qs) k=valueAt qs k:=by simp [valueAt,VG,e']
   rw [QR e,b];exact ih
theorem KV.any {kvs:List (κ×V)}{vs:List (κ×Value)}(r:KV kvs vs)(k:κ):(kvs.any λkv=>decide (kv.1=k))=vs.any λkv=>decide (kv.1=k):=by
 unfold KV at r
 induction r with
 |nil=>rfl
 |cons h t ih=>rw [W07,W07,ih,h.1]
theorem KV.repl {kvs:List (κ×V)}{vs:List (κ×Value)}(r:KV kvs vs)(k:κ){y:V}{u:Value}(ry:Zz y u) :
  KV (kvs.map λkv=>if kv.1=k then (kv.1,y) else kv) (vs.map λkv=>if kv.1=k then (kv.1,u) else kv):=by
 unfold KV at r ⊢
 induction r with
 |nil=>exact .nil
 | @cons p q ps qs h t ih=>
  rw [W1,W1]
  refine .cons ?_ ih
  obtain⟨h1,h2⟩:=h
  by_cases e:p.1=k
  ·rw [if_pos e,if_pos (h1.symm.trans e)];exact⟨h1,ry⟩
  ·rw [if_neg e,if_neg (λz=>e (h1.trans z))];exact⟨h1,h2⟩
theorem KV.put {kvs:List (κ×V)}{vs:List (κ×Value)}(r:KV kvs vs)(k:κ){y:V}{u:Value}(ry:Zz y u):KV (UY kvs k y) (stored vs k u):=by
 unfold UY stored
 rw [r.any k]
 by_cases e:(vs.any λkv=>decide (kv.1=k))=true
 ·rw [if_pos e,if_pos e];exact r.repl k ry
 ·rw [if_neg e,if_neg e];exact Paired.snoc r ⟨rfl,ry⟩
theorem KV.length {kvs:List (κ×V)}{vs:List (κ×Value)}(r:KV kvs vs):kvs.length=vs.length:=W0g r
end
theorem NF {P:Program}{w:World}{k:Key}{u:Value}(r:Zz (kV k) u):(ZL P w).is k u=true:=by
 cases k with
 |inl i=>obtain⟨t,e⟩:=(show ∃t,u=Value.int i t from r);subst e;exact T9 P w i t
 |inr x=>obtain⟨t,e⟩:=(show ∃t,u=Value.str x t from r);subst e;exact T8 P w x t
theorem UA {P:Program}{w:World}:∀{ks:List Key} {us:List Value},Zy (ks.map kV) us->ItemsAre (ZL P w) ks us
 |[],_,r=>by rw [Wd] at r;cases r;exact .nil
 |k :: ks,_,r=>by
  rw [W1] at r
  cases r with
  |cons h t=>exact .cons (NF h) (UA t)
abbrev KT (H:Hp):List (List Key×V)->List (List Key×Addr×Value)->Prop:=Paired λp q=>p.1=q.1/\H q.2.1=some (.tup (p.1.map kV))/\Zz p.2 q.2.2
theorem KT.val {H:Hp}{kvs:List (List Key×V)}{xs:List (List Key×Addr×Value)}(r:KT H kvs xs)(k:List Key):Mk (Bc kvs k) ((atKey xs k).map (·.2)):=by
 induction r with
 |nil=>exact True.intro
 | @cons p q ps qs h t ih=>
  obtain⟨h1,_,h2⟩:=h
  by_cases e:p.1=k
  ·have e':q.1=k:=h1.symm.trans e
   have b:atKey (q :: qs) k=some q.2:=by simp [atKey,VG,e']
   rw [QQ e,b];exact h2
  ·have e':¬q.1=k:=λz=>e (h1.trans z)
   have b:atKey (q :: qs) k=atKey qs k:=by simp [atKey,VG,e']
   rw [QR e,b];exact ih
theorem KT.repl {H:Hp}{kvs:List (List Key×V)}{xs:List (List Key×Addr×Value)}(r:KT H kvs xs)(k:List Key){y:V}{u:Value}(ry:Zz y u) :
  KT H (kvs.map λkv=>if kv.1=k then (kv.1,y) else kv) (xs.map (putAt k u)):=by
 induction r with
 |nil=>exact .nil
 | @cons p q ps qs h t ih=>
  rw [W1,W1]
  refine .cons ?_ ih
  obtain⟨h1,h2,h3⟩:=h
  unfold putAt
  by_cases e:p.1=k
  ·rw [if_pos e,if_pos (h1.symm.trans e)];exact⟨h1,h2,ry⟩
  ·rw [if_neg e,if_neg (λz=>e (h1.trans z))];exact⟨h1,h2,h3⟩
theorem KT.put {H:Hp}{kvs:List (List Key×V)}{xs:List (List Key×Addr×Value)}(r:KT H kvs xs)(k:List Key){b:Addr}{y:V}{u:Value}(hb:H b=some (.tup (k.map kV)))(ry:Zz y u) :
  KT H (UY kvs k y) (storedH xs k b u):=by
 have e:(kvs.any λkv=>decide (kv.1=k))=(atKey xs k).isSome:=by
  rw [TJ,(r.val k).isSome_eq,Option.isSome_map]
 unfold UY storedH
 rw [e]
 by_cases q:(atKey xs k).isSome=true
 ·rw [if_pos q,if_pos q];exact r.repl k ry
 ·rw [if_neg q,if_neg q];exact Paired.snoc r ⟨rfl,hb,ry⟩
theorem KT.keeps {H H':Hp}{kvs:List (List Key×V)}{xs:List (List Key×Addr×Value)}(r:KT H kvs xs)(ht:∀b ys,H b=some (.tup ys)->H' b=some (.tup ys)):KT H' kvs xs:=
 Paired.mapP r λ_ _ z=>⟨z.1,ht _ _ z.2.1,z.2.2⟩
section
variable {P:Program} {w:World} {H:Hp} {h:Heap} {a:Addr}
theorem FG {u:HO}(ok:HOk P w H h)(e:Rd H a u):ZB P w H h a u:=e.ok ok
theorem Tt {kvs:List (Key×V)}(ok:HOk P w H h)(e:Rd H a (.dK kvs)):kvs.length≤Wc/\(a == sysModules)=false/\∃vs,KV kvs vs/\h.DictOf (ZL P w) a vs:=
 show ZB P w H h a (.dK kvs) from FG ok e
theorem Hu {kvs:List (Key×V)}(ok:HOk P w H h)(e:H a=some (.dK kvs)):kvs.length≤Wc/\(a == sysModules)=false/\∃vs,KV kvs vs/\h.DictOf (ZL P w) a vs:=Tt ok (.inl e)
theorem G7 {ks:List Key}(ok:HOk P w H h)(e:H a=some (.tup (ks.map kV))):(tupleKind (ZL P w)).is h ks a:=by
 obtain⟨_,its,r,⟨o,h1,h2,n,h3⟩,_⟩:=(show ZB P w H h a (.tup (ks.map kV)) from ok a _ e)
 exact⟨o,its.toArray,n,h1,h2,h3,by simpa using UA r⟩
theorem Ts {kvs:List (List Key×V)}(ok:HOk P w H h)(e:Rd H a (.dT kvs)):kvs.length≤Wc/\(a == sysModules)=false/\
  ∃xs,KT H kvs xs/\h.DictOfH (tupleKind (ZL P w)) a xs:=by
 obtain⟨z,y,xs,r,o,es,ep,h1,h2,h3,h4,h5⟩:=(show ZB P w H h a (.dT kvs) from FG ok e)
 refine⟨z,y,xs,r,o,es,ep,h1,h2,h3,h4,λx hx=>?_,h5⟩
 have all:∀{l:List (List Key×V)} {m:List (List Key×Addr×Value)},KT H l m->∀x∈m,(tupleKind (ZL P w)).is h x.1 x.2.1:=by
  intro l m q
  induction q with
  |nil=>intro x hx;exact nomatch hx
  | @cons p q ps qs hq t ih=>
   intro x hx
   rcases WD.mp hx with e|hx
   ·subst e
    exact G7 ok (by rw [←hq.1];exact hq.2.1)
   ·exact ih x hx
 exact all r x hx
theorem Ht {kvs:List (List Key×V)}(ok:HOk P w H h)(e:H a=some (.dT kvs)):kvs.length≤Wc/\(a == sysModules)=false/\
  ∃xs,KT H kvs xs/\h.DictOfH (tupleKind (ZL P w)) a xs:=Ts ok (.inl e)
end
def Ff (H:Hp)(a:Addr)(y:V)(r:Option V):Prop:=
 (∃kvs k,Rd H a (.dK kvs)/\y=kV k/\r=Bc kvs k)\/∃kvs k b,Rd H a (.dT kvs)/\y = .ref b/\H b=some (.tup (k.map kV))/\r=Bc kvs k
def SR (H:Hp)(a:Addr)(y v:V)(H':Hp):Prop:=
 (∃kvs k,H a=some (.dK kvs)/\y=kV k/\kvs.length<Wc/\H'=upd H a (.dK (UY kvs k v)))\/
 ∃kvs k b,H a=some (.dT kvs)/\y = .ref b/\H b=some (.tup (k.map kV))/\kvs.length<Wc/\H'=upd H a (.dT (UY kvs k v))
section
variable {X:Cx} {pins:List (Addr×Obj)} {σ:St} {H:Hp} {s:Shared} {a:Addr} {y v:V} {u r:Value} {o:Option V} {A:Around} {E:Value->Shared->Prop}
theorem M3 {Q:Value->Shared->Prop}(hu:A.units+1<cLine)(I:Inv X pins σ H s)(g:Ff H a y (some v))(ry:Zz y u)(h:∀w' s',Inv X pins σ H s'->Zz v w'->Q w' s') :
  wpAny (model X.prog X.w) A (getItem (.ref a) u) Q E s:=by
 rcases g with ⟨kvs,k,e,ey,l⟩|⟨kvs,k,b,e,ey,eb,l⟩
 ·subst ey
  obtain⟨z,hd,vs,rel,dd⟩:=Tt I.hok e
  obtain⟨w',hw,rw'⟩:=Mk.some_of (v:=v) (o:=valueAt vs k) (by rw [l];exact rel.val k)
  exact wpAny_getItem_of (NF ry) dd.mapOf hw (h w' _ (I.tok _) rw')
 ·subst ey
  cases (show u=Value.ref b from ry)
  obtain⟨z,hd,xs,rel,dd⟩:=Ts I.hok e
  obtain⟨w',hw,rw'⟩:=Mk.some_of (v:=v) (o:=(atKey xs k).map (·.2)) (by rw [l];exact rel.val k)
  obtain⟨p,hp,hp2⟩:=We.mp hw
  refine wpAny_getItem_heap (W0Z hu) (G7 I.hok eb) dd hp ?_
  rw [hp2]
  exact h w' _ (I.tok _) rw'
theorem D9 {Q:Value->Shared->Prop}(hu:A.units+1<cLine)(I:Inv X pins σ H s)(g:Ff H a y o)(ry:Zz y u)(h:∀s',Inv X pins σ H s'->Q (.bool o.isSome) s') :
  wpAny (model X.prog X.w) A (compareOp .In u (.ref a)) Q E s:=by
 rcases g with ⟨kvs,k,e,ey,l⟩|⟨kvs,k,b,e,ey,eb,l⟩
 ·subst ey
  obtain⟨z,hd,vs,rel,dd⟩:=Tt I.hok e
  refine wpAny_in_of (NF ry) hd dd.mapOf ?_
  rw [←(rel.val k).isSome_eq,←l]
  exact h _ (I.tok _)
 ·subst ey
  cases (show u=Value.ref b from ry)
  obtain⟨z,hd,xs,rel,dd⟩:=Ts I.hok e
  refine wpAny_in_heap (W0Z hu) (G7 I.hok eb) hd dd ?_
  have q:=(rel.val k).isSome_eq
  rw [Option.isSome_map] at q
  rw [←q,←l]
  exact h _ (I.tok _)
theorem Tw {h':Heap}{t':Nat}{ob:HO}(I:Inv X pins σ H s)(mu:Mut (H a))(hs:VU a s.heap h')(he:∃q,h'.get? a=some q)(new:ZB X.prog X.w (upd H a ob) h' a ob) :
  Inv X pins σ (upd H a ob) { s with heap:=h',toks:=t' }:=
 I.write (x:=a) (e:=a) mu (.inl rfl) (λb q hb z=>(hs.2 b hb).trans z) he new
theorem Cf {P:Program}{w:World}{H':Hp}{h':Heap}{kvs:List (Key×V)}{vs:List (Key×Value)}(z:kvs.length≤Wc)(hd:(a == sysModules)=false)(rel:KV kvs vs)(dd:h'.DictOf (ZL P w) a vs) :
  ZB P w H' h' a (.dK kvs):=⟨z,hd,vs,rel,dd⟩
theorem Jn {H':Hp}{Q:Unit->Shared->Prop}(hu:A.units+1<cLine)(I:Inv X pins σ H s)(g:SR H a y v H')(ry:Zz y u)(rv:Zz v r)(h:∀s',Inv X pins σ H' s'->Q () s') :
  wpAny (model X.prog X.w) A (setItem (.ref a) u r) Q E s:=by
 rcases g with ⟨kvs,k,e,ey,l,eH⟩|⟨kvs,k,b,e,ey,eb,l,eH⟩
 ·subst ey eH
  obtain⟨z,hd,vs,rel,dd⟩:=Hu I.hok e
  have hz:vs.length≤Wc:=by rw [←rel.length];exact z
  have hl:(UY kvs k v).length≤Wc:=by have:=Jg kvs k v;omega
  refine wpAny_setItem_pairs (hsz:=hz) (NF ry) dd λh' dd' hs=>h _ ?_
  have he:∃q,h'.get? a=some q:=let ⟨q,_,_,hq,_⟩:=dd';⟨q,hq⟩
  exact Tw I (by rw [e];exact True.intro) hs he (Cf hl hd (rel.put k rv) dd')
 ·subst ey eH
  cases (show u=Value.ref b from ry)
  obtain⟨z,hd,xs,rel,dd⟩:=Ht I.hok e
  have hz:xs.length≤Wc:=by rw [←W0g rel];exact z
  have hl:(UY kvs k v).length≤Wc:=by have:=Jg kvs k v;omega
  refine wpAny_setItem_heap (hsz:=hz) (W0Z hu) (G7 I.hok eb) dd λh' dd' hs=>h _ ?_
  obtain⟨q,es,ep,hq,h2,h3,h4,_,h5⟩:=dd'
  refine Tw I (by rw [e];exact True.intro) hs ⟨q,hq⟩ ⟨hl,hd,_,(rel.put k eb rv).keeps λc ys ec=>?_,q,es,ep,hq,h2,h3,h4,h5⟩
  rw [Za (QN ec e (λz=>nomatch z))]
  exact ec
end
section
variable {X:Cx} {pins:List (Addr×Obj)} {σ:St} {H:Hp} {s:Shared} {a:Addr} {kvs:List (Key×V)} {k:Key} {u:Value} {A:Around} {E:Value->Shared->Prop}
theorem Hv {Q:Value->Shared->Prop}(I:Inv X pins σ H s)(e:Rd H a (.dK kvs))(h:∀t s',Inv X pins σ H s'->Q (.int kvs.length t) s'):wpAny (model X.prog X.w) A (call (.builtin "len") [.ref a]) Q E s:=by
 obtain⟨z,hd,vs,rel,dd⟩:=Tt I.hok e
 refine call_len_dict hd dd (by rw [←rel.length];rw [W0t] at z;omega) ?_
 rw [←rel.length]
 exact h _ _ (I.tok _)
theorem LZ {Q:Bool->Shared->Prop}(I:Inv X pins σ H s)(e:Rd H a (.dK kvs))(h:∀s',Inv X pins σ H s'->Q (!kvs.isEmpty) s'):wpAny (model X.prog X.w) A (truthy (.ref a)) Q E s:=by
 obtain⟨z,hd,vs,rel,dd⟩:=Tt I.hok e
 refine wpAny_truthy_dict hd dd (by rw [←rel.length];rw [W0t] at z;omega) ?_
 have q:kvs.isEmpty=vs.isEmpty:=by cases rel<;>rfl
 rw [←q]
 exact h _ (I.tok _)
end
theorem Tu {X:Cx}{pins:List (Addr×Obj)}{σ:St}{H:Hp}{s:Shared}{a:Addr}{y:V}{o:Option V}(I:Inv X pins σ H s)(g:Ff H a y o):s.TypeIs (.ref a) "dict":=by
 rcases g with ⟨kvs,k,e,_,_⟩|⟨kvs,k,b,e,_,_,_⟩
 ·obtain⟨_,_,vs,_,dd⟩:=Tt I.hok e
  exact dd.typeIs
 ·obtain⟨_,_,xs,_,dd⟩:=Ts I.hok e
  exact dd.typeIs
section
variable {X:Cx} {o i e value:Expr} {pos pos' tpos:Pos} {td ty tv:TE}
end
section
variable {X:Cx} {pos:Pos}
end
def IsD (H:Hp)(a:Addr):Prop:=(∃kvs,Rd H a (.dK kvs))\/∃kvs,Rd H a (.dT kvs)
theorem Eh {X:Cx}{pins:List (Addr×Obj)}{σ:St}{H:Hp}{s:Shared}{a:Addr}(I:Inv X pins σ H s)(d:IsD H a) :
  s.TypeIs (.ref a) "dict"/\(∀b,Value.ref a = .ref b->∃ob,s.heap.get? b=some ob/\ob.dict=none)/\(a == sysModules)=false:=by
 rcases d with ⟨kvs,e⟩|⟨kvs,e⟩
 ·obtain⟨_,hd,vs,_,dd⟩:=Tt I.hok e
  refine⟨dd.typeIs,λb q=>?_,hd⟩
  cases q
  obtain⟨ob,_,_,h1,h2,_⟩:=dd
  exact⟨ob,h1,h2.2.1⟩
 ·obtain⟨_,hd,xs,_,dd⟩:=Ts I.hok e
  refine⟨dd.typeIs,λb q=>?_,hd⟩
  cases q
  obtain⟨ob,_,_,h1,h2,_⟩:=dd
  exact⟨ob,h1,h2.2.1⟩
section
variable {X:Cx} {pins:List (Addr×Obj)} {σ:St} {H:Hp} {s:Shared} {a:Addr} {y d:V} {u r:Value} {o:Option V} {A:Around} {E:Value->Shared->Prop}
end
section
variable {X:Cx} {o e f:Expr} {apos cpos:Pos} {td ty tx:TE}
end
section
variable {X:Cx} {pins:List (Addr×Obj)} {σ:St} {H:Hp} {s:Shared} {a:Addr} {kvs:List (Key×V)} {A:Around} {E:Value->Shared->Prop}
end
section
variable {X:Cx} {pins:List (Addr×Obj)} {σ:St} {H:Hp} {s:Shared} {a:Addr} {y:V} {u:Value} {A:Around} {E:Value->Shared->Prop}
end
end L2
namespace Att
open PySem PySem.W PySem.Calls PyProof.Rows
theorem Ji {P:Params}{h:Heap}:∀(ns:List Int) (vs:List Value),WellAll P h vs (ns.map WData.int)->IntsAre vs ns:=by
 intro ns
 induction ns with
 |nil=>
  intro vs w
  rw [Wd] at w
  cases w
  exact .nil
 |cons n ns ih=>
  intro vs w
  rw [W1] at w
  cases w with
  |cons a b=>
   cases a
   exact .cons _ _ (ih _ b)
theorem BJ {l:OpenLaw}{n:Nat}(hn:l.most=some n){P:Params}{h:Heap}{args:List WData}{vals:List Value}
  (hpre:l.row.toRowW.claim.pre args=true) (hwl:WellAll P h vals args) :
  ∃a vs ns,vals=[Value.ref a]/\args=[WData.list (ns.map WData.int)]/\h.get? a=some { cls:=.type "list",data:=.seq vs.toArray }/\IntsAre vs ns/\ns.length≤n:=by
 have hsh:WShape.hasAll [] args [.list .int]=true:=(pre_splitW hpre).1
 have hc:l.pre.holds [] { args:=args }=true:=(pre_splitW hpre).2
 obtain⟨d,r,rfl,h1,h2⟩:=hasAllW_cons hsh
 obtain rfl:=hasAllW_nil h2
 obtain⟨xs,rfl,h3⟩:=hasW_list h1
 obtain⟨ns,rfl⟩:=items_int h3
 have hlen:ns.length≤n:=by
  unfold OpenLaw.pre at hc
  have h4:(WTm.not (.lt (.lit (.int (n:Int))) (.len (.arg 0)))).holds [] { args:=[.list (ns.map .int)] }=true:=by
   have h4:=(holds_andW hc).1
   rw [hn] at h4
   exact h4
  have h5:=condW_of h4 (w_not (w_lt w_lit (w_len_list (w_arg rfl))))
  rw [Wg] at h5
  refine W00 λq=>?_
  have q':(n:Int)<((ns.length:Nat):Int):=by omega
  first
   | (rw [decide_eq_true q'] at h5;exact absurd h5 (by decide))
   | (simp at h5;omega)
 cases hwl with
 |cons w1 w2=>
  cases w2
  cases w1 with
  |list ho hall=>exact⟨_,_,ns,rfl,rfl,ho,Ji ns _ hall,hlen⟩
theorem BO (l:OpenLaw)(args:List WData):l.row.toRowW.claim.post args (.bool true) args=true:=
 postW_of (r:=l.row.toRowW) (X:=(true == true))
  (show WShape.has [] (.bool true) .bool=true by first|rfl|decide|simp [WShape.has,WShape.arms,WShape.armsAll])
  (show (WTm.eq .res (.lit (.bool true))).value [] { args:=args,res:=some (.bool true),after:=args }=some (.bool (true == true)) from w_eq_bool (w_res rfl) w_lit) rfl
theorem attach_call {l:OpenLaw}{n:Nat}{q:Program}{loose:List Str}{XP:(Str->Option Value)->Heap->Prop}{YP:World->Heap->Prop}{d:DefRec}
  (hn:l.most=some n) (hdf:d.params.defaults=[])
  (call:∀(w:World) (s₀ s₁:Shared) (mg mb:Str->Option Value) (fa:Addr) (o:Obj) (pm cd doc:Value) (a:Addr) (vs:List Value) (ns:List Int),
   Ground q loose [] XP w s₀ mg mb s₁.heap->YP w s₁.heap->
   s₁.heap.get? fa=some o->o.data = .func (docDef d.name d.params d.body d.scope pm cd doc)->s₁.heap.CodeRec cd d.name->mg d.name=some (.ref fa)->
   s₁.heap.get? a=some { cls:=.type "list",data:=.seq vs.toArray }->IntsAre vs ns->ns.length≤n->s₁.gens = #[]->
   codeAny (model l.prog w) callerA (.call (.ref fa) ⟨[.ref a],[]⟩) (λr s'=>r = .ok (.ret (.bool true))/\OldK s₁.heap s'.heap/\s'.os=s₁.os/\AllBare s'.gens) s₁) :
  WalkO q loose XP YP l.row.toRowW d [] (λf vs=>PySem.call f vs):=by
 intro w s₀ s₁ mg mb G Y fa o pm cd doc dV kV ho hd hcd hD hmg hg args vals as hpre hlay hrd hwl hlo
 obtain rfl:dV = .none:=Dflts.none hD hdf
 obtain rfl:kV = .none:=Dflts.noKw hD
 obtain⟨a,vs,ns,rfl,rfl,hobj,hints,hlen⟩:=BJ hn hpre hwl
 refine enter_call (codeAny_mono (call w s₀ s₁ mg mb fa o pm cd doc a vs ns G Y ho (fd_plain hd) hcd hmg hobj hints hlen hg) λr s' hq=>?_)
 obtain⟨rfl,h2,h3,h4⟩:=hq
 exact⟨.inl ⟨.bool true,.bool true,[],rfl,λ_=>rfl,.bool true,BO l _,λ_=>⟨List.Pairwise.nil,λ_ hm=>(nomatch hm)⟩⟩,h2,h3,h4⟩
section
variable {prog:Program} {w:World} {A:Around} {E:Value->Shared->Prop} {s:Shared} {K:Frag}
end
end Att
namespace L2
open PySem PySem.Spec PyProof.Rows
theorem U9:∀{vs:List Value} {ns:List Int},IntsAre vs ns->Zy (ns.map V.int) vs
 |_,_,.nil=>.nil
 |_,_,.cons n t h=>.cons ⟨t,rfl⟩ (U9 h)
def HA (H:Hp):Prop:=∀b,H b=none\/∃o xs,H b=some (.frz o (.lst xs))
theorem K1 {P:Program}{w:World}{K:W3}{mg mb:Str->Option Value}{CX:CXT}{k:Nat}{fa a:Addr}{fd:FuncData}{x:Str}{sp:Sp}{s₁:Shared}{vs:List Value}{ns:List Int}
  (KX:K.In s₁.heap) (hns:s₁.heap.Ns Wy mg) (hb:s₁.heap.Ns builtinsNs mb) (hbb:∀x:Str,x≠"__name__"->mb x=Wz x) (hlim:s₁.heap.NoLimit) (hg:s₁.gens = #[])
  (ha:s₁.heap.get? a=some { cls:=.type "list",data:=.seq vs.toArray }) (hi:IntsAre vs ns) (hl:ns.length≤Wc) (hr:Room k callerA)
  (F:∀base:Heap,K.In base->base.Ns Wy mg->FnOk P w K mg base CX k fa fd [x] sp) (hbind:∀(s:Shared) (u:Value),BindsTo s fd ⟨[u],[]⟩ [(x,u)])
  (hsp:∀H:Hp,HA H->SqL K H a (ns.map V.int)->sp [.ref a] H (λv _=>v = .bl true) λ_ _ _=>False)
  (hCX:∀H e s',CX [] H s₁ (λ_ _ _=>False) e s'->False) :
  codeAny (model P w) callerA (.call (.ref fa) ⟨[.ref a],[]⟩) (λr s'=>r = .ok (.ret (.bool true))/\OldK s₁.heap s'.heap/\s'.os=s₁.os/\AllBare s'.gens) s₁:=by
 have rv:=U9 hi
 have lenV:=hi.length
 -- from an abstract heap in which nothing but the script may be tracked
 have core:∀H:Hp,HA H->SqL K H a (ns.map V.int)->HOk P w H s₁.heap->(∀b,H b≠none->b=a)->(H a≠none->K.lookup a=none)->
   codeAny (model P w) callerA (.call (.ref fa) ⟨[.ref a],[]⟩) (λr s'=>r = .ok (.ret (.bool true))/\OldK s₁.heap s'.heap/\s'.os=s₁.os/\AllBare s'.gens) s₁:=by
  intro H hO hS hok hA hK
  have base_of:∀{b:Addr} {o:Obj},s₁.heap.get? b=some o->H b=none->(Ka s₁.heap H).get? b=some o:=λe n=>K9 e n
  have noA:∀{b:Addr} {o:Obj} {es:Array DictEntry} {ep:Nat},s₁.heap.get? b=some o->o.data = .dict es ep->H b=none:=λ{b o es ep} e d=>by
   cases q:H b with
   |none=>rfl
   |some u=>
    have e':b=a:=hA b (by rw [q];simp)
    subst e'
    rw [ha] at e;cases e
    have d':Data.seq vs.toArray _=Data.dict es ep:=d
    cases d'
  have nsK:∀{b:Addr} {m:Str->Option Value},s₁.heap.Ns b m->(Ka s₁.heap H).Ns b m:=λ{b m} ⟨o,es,ep,e,d,r⟩=>⟨o,es,ep,base_of e (noA e d),d,r⟩
  have hKb:K.In (Ka s₁.heap H):=λb o e=>base_of (KX b o e) (by
   cases q:H b with
   |none=>rfl
   |some u=>
    have e':b=a:=hA b (by rw [q];simp)
    subst e'
    rw [hK (by rw [q];simp)] at e;cases e)
  have hM:Mod K mg (Ka s₁.heap H):=⟨hKb,nsK hns,⟨mb,nsK hb,hbb⟩,let ⟨mc,h1,h2⟩:=hlim;⟨mc,nsK h1,h2⟩⟩
  have e0:Env0 P w K mg (Ka s₁.heap H) callerA [] s₁ H:=⟨rfl,hM,λb o e=>Li e,Nat.le_of_eq (NQ _ _),trivial,λb hb=>absurd (show b∈([]:List Addr) from hb) (by simp),hok,.of_eq hg⟩
  refine codeAny_mono ((F _ hKb (nsK hns)).run callerA [] s₁ H ⟨[.ref a],[]⟩ [.ref a] [.ref a] _ _ hr e0 (hbind s₁ (.ref a)) (.cons rfl .nil) (hsp H hO hS)) λr s' h=>?_
  cases r with
  |error e=>exact (hCX H e s' h).elim
  |ok fl=>
   cases fl with
   |next=>exact False.elim h
   |brk=>exact False.elim h
   |cont=>exact False.elim h
   |ret u=>
    obtain⟨v,H',os,bare,un,hok',r',q⟩:=h
    have q':v = .bl true:=q
    subst q'
    obtain rfl:u=Value.bool true:=r'
    refine⟨rfl,OldK.of_keep λb o e=>?_,os,bare⟩
    cases q:H b with
    |none=>exact un.keep b o e q (by intro z;exact absurd (show b∈([]:List Addr) from z) (by simp)) (by simp)
    |some u=>
     rcases hO b with z|⟨ob,xs,z⟩
     ·rw [q] at z;cases z
     ·have z2:=un.frzs b ob _ z
      obtain⟨e1,_⟩:=hok b _ z
      obtain⟨e2,_⟩:=hok' b _ z2
      rw [e] at e1;cases e1
      exact e2
 cases hk:K.lookup a with
 |some o=>
  -- the script is one of the module's own objects
  have e:=KX a o hk
  rw [ha] at e
  cases e
  refine core (λ_=>none) (λ_=>.inl rfl) (.inr ⟨_,vs.toArray,_,hk,rfl,rfl,rfl,by rw [Wf,lenV];exact hl,by simpa using rv⟩) (λb u z=>by have z':(none:Option HO)=some u:=z;cases z') (λb z=>absurd rfl z) λz=>absurd rfl z
 |none=>
  refine core (λb=>if b=a then some (.frz { cls:=.type "list",data:=.seq vs.toArray } (.lst (ns.map V.int))) else none) (λb=>?_) (.inl (.inr ⟨{ cls:=.type "list",data:=.seq vs.toArray },if_pos rfl⟩)) (λb u z=>?_) (λb z=>?_) λ_=>hk
  ·by_cases hb:b=a
   ·exact .inr ⟨_,_,if_pos hb⟩
   ·exact .inl (if_neg hb)
  ·by_cases hb:b=a
   ·have z':=(if_pos hb).symm.trans z
    cases z'
    subst hb
    exact⟨ha,by rw [Wg];exact hl,vs,_,rv,ha⟩
   ·have z':=(if_neg hb).symm.trans z
    cases z'
  ·by_cases hb:b=a
   ·exact hb
   ·exact absurd (if_neg hb) z
end L2
namespace L2
open PySem PySem.Spec PyProof.Rows
theorem walk_of {l:PySem.W.OpenLaw}{n k:Nat}{q:Program}{loose:List Str}{XP:(Str->Option Value)->Heap->Prop}{YP:World->Heap->Prop}{d:DefRec}{K:Params->W3}{CX:World->CXT}{sp:World->Sp}{x:Str}
  (hn:l.most=some n) (hn2:n≤Wc) (hdf:d.params.defaults=[]) (hr:Room k callerA)
  (hY:∀(w:World) (h:Heap),YP w h->(K w.params).In h)
  (F:∀(w:World) (mg:Str->Option Value) (fa:Addr) (h:Heap),(K w.params).In h->h.Ns Wy mg->mg d.name=some (.ref fa)->
   ∃fd:FuncData,(∀(s:Shared) (u:Value),BindsTo s fd ⟨[u],[]⟩ [(x,u)])/\
    ∀base:Heap,(K w.params).In base->base.Ns Wy mg->FnOk l.prog w (K w.params) mg base (CX w) k fa fd [x] (sp w))
  (hsp:∀(w:World) (H:Hp) (a:Addr) (ns:List Int),ns.length≤n->HA H->SqL (K w.params) H a (ns.map V.int)->sp w [.ref a] H (λv _=>v = .bl true) λ_ _ _=>False)
  (hCX:∀(w:World) (H:Hp) (s:Shared) (e:Value) (s':Shared),CX w [] H s (λ_ _ _=>False) e s'->False) :
  PySem.W.WalkO q loose XP YP l.row.toRowW d [] (λf vs=>PySem.call f vs):=by
 refine Att.attach_call hn hdf λw s₀ s₁ mg mb fa o pm cd doc a vs ns G Y ho hd hcd hmg hobj hints hlen hg=>?_
 have KX:=hY w _ Y
 obtain⟨fd,hb,hF⟩:=F w mg fa _ KX G.T.g hmg
 exact K1 KX G.T.g G.T.b G.T.builtins G.T.nolimit hg hobj hints (Wx hlen hn2) hr hF hb (λH hO hS=>hsp w H a ns hlen hO hS) λH e s'=>hCX w H s₁ e s'
end L2
/- THE LAST THEOREM (shape;LID,My.* are yours):
 My.Adr: a structure of the addresses that your layer names (classes,functions);My.Txt K t: a structure (Prop) of the equations over K;
 My.txt_mk:{K} {implicit addresses ..} (e1:nsIn K Wy "law" = some (some (.ref f))) (e2:K.lookup f=some ⟨oc,od,.func (fnOf "law" "law" params body scope dV kV doc pm an cdv ct),sl⟩) (e3:codeIn K cdv "law" = true) .. : ∃t,My.Txt K t
set_option maxRecDepth 100000 in
set_option maxHeartbeats 0 in
(the tactic k_is has no namespace: write k_is) -/
namespace L2
open PySem PySem.Spec PyProof.Rows
def Zw (s:Stmt):Arguments:=match s with
 | .FunctionDef _ a _ _ _ _ _ _ _ _=>a
 |_=>{ posonlyargs:=[],args:=[],vararg:=none,kwonlyargs:=[],kw_defaults:=[],kwarg:=none,defaults:=[] }
def Zr (s:Stmt):List Stmt:=match s with
 | .FunctionDef _ _ b _ _ _ _ _ _ _=>b
 |_=>[]
def Z2 (s:Stmt):Scope:=match s with
 | .FunctionDef _ _ _ _ _ _ sc _ _ _=>sc
 |_=>{ kind:=.function,names:=[],isGenerator:=false,isCoroutine:=false }
abbrev CX0:CXT:=λ_ _ _ _ _ _=>False
abbrev E0:XK:=λ_ _ _=>False
theorem CT {X:Cx}:Mm CX0 X E0:=λ_ _ _ _ _ _ _ h=>h.elim
structure Fun (K:W3) (x qual:Str) (st:Stmt) (f:Addr) (fd:FuncData):Prop where
 ex:∃(oc:Value) (od:Option Addr) (kV doc pm:Value) (an:Option Addr) (cdv ct:Value) (osl:Array (Option Value)),
  fd=WW x qual (Zw st) (Zr st) (Z2 st) .none kV doc pm an cdv ct/\K.lookup f=some ⟨oc,od,.func fd,osl⟩/\WV K cdv qual=true
 kp:WT K (.ref f)=true
section
variable {P:Program} {w:World} {K:W3} {mg:Str->Option Value} {base:Heap}
theorem Fun.ok {x qual:Str}{st:Stmt}{f:Addr}{fd:FuncData}{N ps:List Str}{k:Nat}{sp:Sp}(F:Fun K x qual st f fd)(S:FnScope N ps (Z2 st))(len:∀vs H Q E,sp vs H Q E->vs.length=ps.length)
  (hbody:∀(cdv:Value) (A:Around) (outer:List Env) (s:Shared) (H:Hp) (vs:List V) (Q:VK) (E:XK),Room k (A.deeper (envOfC qual (Z2 st) s.heap.objs.size f cdv))->sp vs H Q E->
   ∃t,PSs (F0 CX0 P w K mg base N qual (Z2 st) f cdv A outer s H E).nox (Zr st) t/\t { nx:=λ_ H'=>Q .non H',rt:=Q } (start N vs) H):FnOk P w K mg base CX0 (k+1) f fd ps sp:=by
 obtain⟨oc,od,kV,doc,pm,an,cdv,ct,osl,rfl,lk,hcd⟩:=F.ex
 refine Hq lk hcd S len λA outer s H vs Q E hr hsp=>?_
 obtain⟨t,h,q⟩:=hbody cdv A outer s H vs Q E hr hsp
 exact⟨t,h.nox,q⟩
theorem Fun.binds {x qual:Str}{st:Stmt}{f:Addr}{fd:FuncData}{ps:List Str}(F:Fun K x qual st f fd)
  (h:∀(kV doc pm:Value) (an:Option Addr) (cdv ct:Value) (us:List Value),us.length=ps.length->bindArgs (WW x qual (Zw st) (Zr st) (Z2 st) .none kV doc pm an cdv ct) ⟨us,[]⟩=pure (ps.zip us)):TH K fd ps []:=by
 obtain⟨oc,od,kV,doc,pm,an,cdv,ct,osl,rfl,lk,hcd⟩:=F.ex
 exact .all (h kV doc pm an cdv ct)
theorem Y9 {x qual:Str}{st:Stmt}{f:Addr}{oc:Value}{od an:Option Addr}{osl:Array (Option Value)}{kV doc pm cdv ct:Value}(l:K.lookup f=some ⟨oc,od,.func (WW x qual (Zw st) (Zr st) (Z2 st) .none kV doc pm an cdv ct),osl⟩)
  (c:WV K cdv qual=true) (k:WT K (.ref f)=true):Fun K x qual st f (WW x qual (Zw st) (Zr st) (Z2 st) .none kV doc pm an cdv ct):=⟨⟨oc,od,kV,doc,pm,an,cdv,ct,osl,rfl,l,c⟩,k⟩
end
section
variable {X:Cx}
end
end L2
set_option maxHeartbeats 4000000
namespace L2
open PySem PySem.Spec PyProof.Rows
theorem Qg {α β:Type}{f:α->β->Sem (ForInStep β)}(g:α->β->β):∀(l:List α) (c:β),(∀x∈l,∀c,f x c=pure (.yield (g x c)))->
  forIn l c f=pure (l.foldl (λc x=>g x c) c)
 |[],_,_=>rfl
 |x :: l,c,h=>by
  rw [W0L,h x WR,pure_bind]
  exact Qg g l _ λy hy=>h y (WS _ hy)
def YG (env:Env)(cs:List (Str×Addr))(p:Str×NameKind):List (Str×Addr):=
 if p.2 == .free then (p.1,(env.cells.lookup p.1).getD 0) :: cs else cs
def F3 (scope:Scope)(env:Env):List (Str×Addr):=scope.names.foldl (YG env) []
theorem Po {env:Env}{x:Str}{c:Addr}:∀(l:List (Str×NameKind)) (acc:List (Str×Addr)),(x,c)∈l.foldl (YG env) acc->
  (x,c)∈acc\/((x,NameKind.free)∈l/\c=(env.cells.lookup x).getD 0)
 |[],_,h=>.inl h
 |p :: l,acc,h=>by
  rcases Po l _ h with q|⟨q,e⟩
  ·unfold YG at q
   by_cases hp:p.2 == .free
   ·rw [if_pos hp] at q
    rcases WD.mp q with q|q
    ·have e1:x=p.1:=congrArg Prod.fst q
     have e2:c=(env.cells.lookup p.1).getD 0:=congrArg Prod.snd q
     have e3:p.2 = .free:=by simpa using hp
     refine .inr ⟨?_,by rw [e1];exact e2⟩
     have e4:p=(x,NameKind.free):=by rw [e1,←e3]
     rw [e4]
     exact WR
    ·exact .inl q
   ·rw [if_neg hp] at q
    exact .inl q
  ·exact .inr ⟨WS _ q,e⟩
theorem GC {env:Env}{p:Str×Addr}:∀(l:List (Str×NameKind)) (acc:List (Str×Addr)),p∈acc->p∈l.foldl (YG env) acc
 |[],_,h=>h
 |q :: l,acc,h=>by
  refine GC l _ ?_
  unfold YG
  split
  ·exact WS _ h
  ·exact h
theorem Pp {env:Env}{x:Str}:∀(l:List (Str×NameKind)) (acc:List (Str×Addr)),(x,NameKind.free)∈l->∃c,(x,c)∈l.foldl (YG env) acc
 |[],_,h=>by cases h
 |p :: l,acc,h=>by
  rcases WD.mp h with h|h
  ·subst h
   refine⟨(env.cells.lookup x).getD 0,GC l _ ?_⟩
   unfold YG
   rw [if_pos (by rfl)]
   exact WR
  ·exact Pp l _ h
theorem Qf {x:Str}{c:Addr}:∀{l:List (Str×Addr)},(x,c)∈l->∃c',l.lookup x=some c'
 |[],h=>by cases h
 |p :: l,h=>by
  obtain⟨n,a⟩:=p
  rw [Vp]
  cases hx:x == n with
  |true=>exact⟨a,rfl⟩
  |false=>
   rcases WD.mp h with h|h
   ·have e:x=n:=congrArg Prod.fst h
    rw [e] at hx
    simp at hx
   ·exact Qf h
def Bb (scope:Scope)(env:Env):Prop:=∀x,(x,NameKind.free)∈scope.names->∃c,env.cells.lookup x=some c
theorem Y2 {scope:Scope}{env:Env}(h:Bb scope env){x:Str}{c:Addr}(e:(F3 scope env).lookup x=some c):(x,NameKind.free)∈scope.names/\env.cells.lookup x=some c:=by
 rcases Po scope.names [] (Vy e) with q|⟨q,r⟩
 ·cases q
 ·obtain⟨c',hc⟩:=h x q
  rw [hc] at r
  exact⟨q,by rw [hc,r];rfl⟩
theorem M7 {scope:Scope}{env:Env}(h:Bb scope env){x:Str}(q:(x,NameKind.free)∈scope.names):∃c,(F3 scope env).lookup x=some c/\env.cells.lookup x=some c:=by
 obtain⟨c,hc⟩:=Pp (env:=env) scope.names [] q
 obtain⟨c',h'⟩:=Qf hc
 exact⟨c',h',(Y2 h h').2⟩
theorem JN {scope:Scope}{env:Env}(h:Bb scope env):closureFor scope env=pure (F3 scope env):=by
 unfold closureFor F3
 dsimp only
 rw [Qg (λp cs=>YG env cs p) scope.names [] (λp hp cs=>by
  obtain⟨n,k⟩:=p
  show (if (k == NameKind.free)=true then _ else _)=_
  by_cases hk:(k == NameKind.free)=true
  ·have e:k = .free:=by simpa using hk
   obtain⟨c,hc⟩:=h n (e ▸ hp)
   have e2:cellOf env n=pure c:=by unfold cellOf;rw [hc]
   rw [if_pos hk,e2]
   show _=pure (ForInStep.yield (YG env cs (n,k)))
   unfold YG
   rw [if_pos hk,hc]
   rfl
  ·rw [if_neg hk]
   show _=pure (ForInStep.yield (YG env cs (n,k)))
   unfold YG
   rw [if_neg hk])]
 rfl
theorem QH {env:Env}:∀{names:List (Str×NameKind)} {x:Str},names.lookup x=some .free->
  (names.map λ(n,k)=>if (k == NameKind.free&&env.scope.kind == .function&&env.kindOf n == some .cell) then (n,NameKind.cell) else (n,k)).lookup x=some .free\/
  (names.map λ(n,k)=>if (k == NameKind.free&&env.scope.kind == .function&&env.kindOf n == some .cell) then (n,NameKind.cell) else (n,k)).lookup x=some .cell
 |[],_,h=>by simp at h
 | (n,k) :: r,x,h=>by
  have ih:=@QH env r x
  rw [W1]
  dsimp only
  cases hx:x == n with
  |true=>
   simp only [Vp,hx] at h
   cases h
   by_cases hc:(NameKind.free == NameKind.free&&env.scope.kind == .function&&env.kindOf n == some .cell)=true
   ·right
    show List.lookup x ((if _ then _ else _) :: _)=_
    rw [if_pos hc];simp only [Vp,hx]
   ·left
    show List.lookup x ((if _ then _ else _) :: _)=_
    rw [if_neg hc];simp only [Vp,hx]
  |false=>
   simp only [Vp,hx] at h
   by_cases hc:(k == NameKind.free&&env.scope.kind == .function&&env.kindOf n == some .cell)=true
   ·have e:(if (k == NameKind.free&&env.scope.kind == .function&&env.kindOf n == some .cell)=true then (n,NameKind.cell) else (n,k))=(n,NameKind.cell):=if_pos hc
    rw [e];simp only [Vp,hx];exact ih h
   ·have e:(if (k == NameKind.free&&env.scope.kind == .function&&env.kindOf n == some .cell)=true then (n,NameKind.cell) else (n,k))=(n,k):=if_neg hc
    rw [e];simp only [Vp,hx];exact ih h
theorem QI {env:Env}:∀{names:List (Str×NameKind)} {x:Str},(∀p∈names,p.2≠.cell)->
  ((names.map λ(n,k)=>if (k == NameKind.free&&env.scope.kind == .function&&env.kindOf n == some .cell) then (n,NameKind.cell) else (n,k)).lookup x=some .cell\/
  (names.map λ(n,k)=>if (k == NameKind.free&&env.scope.kind == .function&&env.kindOf n == some .cell) then (n,NameKind.cell) else (n,k)).lookup x=some .free)->(x,NameKind.free)∈names
 |[],_,_,h=>by simp at h
 | (n,k) :: r,x,hc0,h=>by
  have ih:=@QI env r x (λp hp=>hc0 p (WS _ hp))
  rw [W1] at h
  dsimp only at h
  have key:∀K2:NameKind,(K2 = .cell\/K2 = .free)->List.lookup x ((if (k == NameKind.free&&env.scope.kind == .function&&env.kindOf n == some .cell)=true then (n,NameKind.cell) else (n,k)) ::
    (r.map λ(n,k)=>if (k == NameKind.free&&env.scope.kind == .function&&env.kindOf n == some .cell) then (n,NameKind.cell) else (n,k)))=some K2->(x,NameKind.free)∈(n,k) :: r:=by
   intro K2 hK2 hl
   cases hx:x == n with
   |true=>
    have exn:x=n:=by simpa using hx
    by_cases hc:(k == NameKind.free&&env.scope.kind == .function&&env.kindOf n == some .cell)=true
    ·have hk:k = .free:=by
      have:=(WA _ _ ▸ (WA _ _ ▸ hc).1).1
      simpa using this
     rw [exn,hk];exact WR
    ·rw [if_neg hc] at hl
     simp only [Vp,hx] at hl
     have hk:k=K2:=WQ hl
     rcases hK2 with q|q
     ·exact absurd (hk.trans q) (hc0 (n,k) WR)
     ·rw [exn,hk.trans q];exact WR
   |false=>
    refine WS _ (ih ?_)
    by_cases hc:(k == NameKind.free&&env.scope.kind == .function&&env.kindOf n == some .cell)=true
    ·rw [if_pos hc] at hl
     simp only [Vp,hx] at hl
     rcases hK2 with q|q
     ·exact .inl (q ▸ hl)
     ·exact .inr (q ▸ hl)
    ·rw [if_neg hc] at hl
     simp only [Vp,hx] at hl
     rcases hK2 with q|q
     ·exact .inl (q ▸ hl)
     ·exact .inr (q ▸ hl)
  rcases h with h|h
  ·exact key .cell (.inl rfl) h
  ·exact key .free (.inr rfl) h
def Zo (X:Cx)(scope:Scope)(N:List Str)(fp:List Addr)(s₂:Shared)(H₂:Hp)(C:Addr):Cx where
 prog:=X.prog
 w:=X.w
 K:=X.K
 mg:=X.mg
 base:=X.base
 A:=X.A
 N:=N
 s₀:=s₂
 H₀:=H₂
 env:=compEnvC scope (F3 scope X.env) C X.env
 outer:=X.stack
 stack:=X.stack
 ex:=fp
 fn:=λ_=>false
 calm:=X.calm
 pn:=[]
 xe:=λ_ _=>False
def Jq (X:Cx)(scope:Scope):List Str->List Nat->Prop
 |[],[]=>True
 |x :: xs,j :: js=>(X.N[j]? = some x/\(X.env.scope.names.lookup x=some .cell\/X.env.scope.names.lookup x=some .free)/\scope.names.lookup x=some .free)/\Jq X scope xs js
 |_,_=>False
def Q0 (nT:Nat)(caps:List Nat)(σ:St):St:=VS nT none++caps.map λj=>(σ[j]?).getD none
theorem Jq.len {X:Cx}{scope:Scope}:∀{xs:List Str} {js:List Nat},Jq X scope xs js->xs.length=js.length
 |[],[],_=>rfl
 |_ :: _,_ :: _,h=>by simp only [V2];rw [Jq.len h.2]
 |[],_ :: _,h=>h.elim
 |_ :: _,[],h=>h.elim
theorem Jq.get {X:Cx}{scope:Scope}:∀{xs:List Str} {js:List Nat} {k:Nat} {x:Str} {j:Nat},Jq X scope xs js->xs[k]? = some x->js[k]? = some j->
  X.N[j]? = some x/\(X.env.scope.names.lookup x=some .cell\/X.env.scope.names.lookup x=some .free)/\scope.names.lookup x=some .free
 |[],_,_,_,_,_,h,_=>by simp at h
 |_ :: _,[],_,_,_,h,_,_=>h.elim
 |_ :: _,_ :: _,0,_,_,h,h1,h2=>by
  simp at h1 h2;subst h1;subst h2;exact h.1
 |_ :: _,_ :: _,k+1,_,_,h,h1,h2=>Jq.get (k:=k) h.2 (by simpa using h1) (by simpa using h2)
def PF (X:Cx)(ifs:List Expr)(t:TT):Prop:=
 ∀(pins:List (Addr×Obj)) (s:Shared) (σ:St) (H:Hp) (Q:Bool->Hp->Prop),Inv X pins σ H s->t σ H Q->
  wpAny (model X.prog X.w) X.A (forIn ifs true λc r=>if r=true then do let ok ←isTrue c X.env (eval c X.env);pure (ForInStep.yield ok) else pure (ForInStep.yield r)) (TP X pins σ Q) X.xe s
def Cw:TT:=λ_ H Q=>Q true H
theorem A0 {X:Cx}:PF X [] Cw:=λ_ _ _ H _ I h=>wpAny_tests_nil ⟨H,I,h⟩
theorem FZ {X:Cx}{c:Expr}{t:TT}(h:PT X c t):PF X [c] t:=λpins s σ H Q I q=>wpAny_tests_one (h pins s σ H Q I q)
theorem YZ {prog:Program}{w:World}{A:Around}{R:Result->Shared->Prop}{s:Shared}{elt target iter:Expr}{ifs:List Expr}{scope:Scope}{pos:Pos}{it acc:Value}{env:Env}(I:Nat->Shared->Prop)
  (turn:∀n s,I n s->wpAny (model prog w) A (pyNext it) (λr s₁=>match r with
   |none=>R (.ok .next) s₁
   |some v=>wpAny (model prog w) A (letOwnedTupleGo target it v) (λ_ s₀=>wpAny (model prog w) A (assign target env v) (λ_ s₂=>
     wpAny (model prog w) A (forIn ifs true λc r=>if r=true then do let ok ←isTrue c env (eval c env);pure (ForInStep.yield ok) else pure (ForInStep.yield r)) (λok s₃=>
      if ok=true then wpAny (model prog w) A (eval elt env) (λx s₄=>
       wpAny (model prog w) A (call (.builtin "list.append") [acc,x]) (λ_ s₅=>∃m,m<n/\I m s₅) (λ_ _=>False) s₄) (λ_ _=>False) s₃
      else ∃m,m<n/\I m s₃) (λ_ _=>False) s₂) (λ_ _=>False) s₀) (λ_ _=>False) s₁) (λ_ _=>False) s)
  (n:Nat) (h:I n s) :
  codeAny (model prog w) A (.compLoop (.ListComp elt [⟨target,iter,ifs,0⟩] scope pos) 0 it acc env) R s:=by
 refine codeAny_loop rfl I (λn s hI=>?_) n h
 show wpAny _ A ((compTurn (.ListComp elt [⟨target,iter,ifs,0⟩] scope pos) 0 it acc env).onRaise (λx=>do noteFrame x env;theTreesLotGoes x)) _ _ s
 refine wpAny_noted ?_
 rw [compTurn_list]
 refine W2 (wpAny_standAt (W2 (VE (turn n s hI) (λr s₁ h₁=>?_) λ_ _ h'=>h'.elim)))
 cases r with
 |none=>exact Wk h₁
 |some v=>
  refine W2 (VE h₁ (λ_ s₀ h₀=>?_) λ_ _ h'=>h'.elim)
  refine W2 (VE h₀ (λ_ s₂ h₂=>W2 (VE h₂ (λok s₃ h₃=>?_) λ_ _ h'=>h'.elim)) λ_ _ h'=>h'.elim)
  cases ok with
  |false=>exact Wk ⟨rfl,h₃⟩
  |true=>
   exact W2 (W2 (VE h₃ (λx s₄ h₄=>W2 (VE h₄ (λ_ s₅ h₅=>Wk (Wk ⟨rfl,h₅⟩)) λ_ _ h'=>h'.elim)) λ_ _ h'=>h'.elim))
theorem HOk.track {P:Program}{w:World}{H:Hp}{h:Heap}{a:Addr}{o:HO}(x:HOk P w H h)(hn:H a=none)(new:ZB P w (upd H a o) h a o):HOk P w (upd H a o) h:=λb u e=>by
 by_cases hb:b=a
 ·subst hb;rw [Z5] at e;cases e;exact new
 ·rw [Za hb] at e
  exact (x b u e).stay (λc v _ q=>q) (λc q=>by rw [Za (Zg q hn)];exact q) λc xs q=>by rw [Za (Zg q hn)];exact q
theorem HOk.but {P:Program}{w:World}{H:Hp}{h h':Heap}{a:Addr}(x:HOk P w H h)(hn:H a=none)(k:∀b o,b≠a->h.get? b=some o->h'.get? b=some o):HOk P w H h':=λb u e=>by
 refine (x b u e).stay (λc v hc q=>k c v ?_ q) (λ_ q=>q) λ_ _ q=>q
 rintro rfl
 rcases hc with z|z
 ·rw [←z,hn] at e;cases e
 ·rw [hn] at z;cases z
abbrev JG (its:List Value)(n:Nat):Obj:={ cls:=.type "list",data:=.seq its.toArray n }
def Co (J:It)(cap:St)(g:TG)(tt:TT)(te:TE)(Fin:List V->Hp->Prop)(H:Hp):Prop:=
 ∃W:Nat->Nat->List V->Hp->Prop,(∃m,W 0 m [] H)/\∀i m ys H,W i m ys H->
  (J.stop i H/\ys.length≤Wc/\Fin ys H)\/(J.go i H/\ys.length≤Wc/\∀x H',J.yld i H x H'->g x cap H' λσ2 H2=>tt σ2 H2 λb H3=>
   if b=true then te σ2 H3 λv H4=>∃m',m'<m/\W (i+1) m' (ys++[v]) H4 else ∃m',m'<m/\W (i+1) m' ys H3)
def Kr (n:Nat)(g:TG):Prop:=∀v σ H Q,g v σ H Q->g v σ H λσ' H'=>(∀j,n≤j->σ'[j]? = σ[j]?)/\Q σ' H'
def Kq (n:Nat)(g:TGs):Prop:=∀v σ H Q,g v σ H Q->g v σ H λσ' H'=>(∀j,n≤j->σ'[j]? = σ[j]?)/\Q σ' H'
theorem Zu {n i:Nat}(h:i<n):Kr n (UG i):=λv σ H Q q=>⟨λj hj=>Vi (by omega),q⟩
theorem NR {n:Nat}:Kq n EE:=λvs σ H Q q=>⟨q.1,λ_ _=>rfl,q.2⟩
theorem JJ {n:Nat}{t:TG}{u:TGs}(h1:Kr n t)(h2:Kq n u)(mono:∀v σ H Q Q',(∀σ' H',Q σ' H'->Q' σ' H')->t v σ H Q->t v σ H Q')(mono2:∀v σ H Q Q',(∀σ' H',Q σ' H'->Q' σ' H')->u v σ H Q->u v σ H Q'):Kq n (NU t u):=λvs σ H Q q=>by
 obtain⟨v,r,e,q⟩:=q
 refine⟨v,r,e,mono v σ H _ _ (λσ' H' z=>?_) (h1 v σ H _ q)⟩
 exact mono2 r σ' H' _ _ (λσ2 H2 y=>⟨λj hj=>(y.1 j hj).trans (z.1 j hj),y.2⟩) (h2 r σ' H' _ z.2)
theorem Kb {K:W3}{n k:Nat}{t:TGs}(h:Kq n t):Kr n (Ho K k t):=λv σ H Q q=>by
 obtain⟨a,xs,e,h1,h2,q⟩:=q
 exact⟨a,xs,e,h1,h2,h xs σ H Q q⟩
theorem QC {i:Nat}:∀v σ H Q Q',(∀σ' H',Q σ' H'->Q' σ' H')->UG i v σ H Q->UG i v σ H Q':=λ_ _ _ _ _ h q=>h _ _ q
theorem UD:∀v σ H Q Q',(∀σ' H',Q σ' H'->Q' σ' H')->EE v σ H Q->EE v σ H Q':=λ_ _ _ _ _ h q=>⟨q.1,h _ _ q.2⟩
theorem B3 {t:TG}{u:TGs}(mono:∀v σ H Q Q',(∀σ' H',Q σ' H'->Q' σ' H')->t v σ H Q->t v σ H Q')(mono2:∀v σ H Q Q',(∀σ' H',Q σ' H'->Q' σ' H')->u v σ H Q->u v σ H Q') :
  ∀v σ H Q Q',(∀σ' H',Q σ' H'->Q' σ' H')->NU t u v σ H Q->NU t u v σ H Q':=λvs σ H Q Q' h q=>by
 obtain⟨v,r,e,q⟩:=q
 exact⟨v,r,e,mono v σ H _ _ (λσ' H' z=>mono2 r σ' H' _ _ h z) q⟩
section
variable {X:Cx} {pins:List (Addr×Obj)} {σ:St} {H₂:Hp} {s₂:Shared} {scope:Scope} {tg iter elt:Expr} {ifs:List Expr} {pos:Pos} {nT:Nat} {tgs caps_n:List Str} {caps:List Nat}
theorem JM (I:Inv X pins σ H₂ s₂){it:Addr}{fp:List Addr}{tn:Nat->Heap->Prop}{J:It}(T:Turn X.prog X.w X.K tg J fp it tn)(st0:tn 0 s₂.heap)(hfp:∀b∈fp,Mo X pins H₂ b)
  (hc:X.calm=true) (hcell:∀y∈scope.names,y.2≠.cell) (hkind:scope.kind = .function) (hcl:Bb scope X.env) (hcap:Jq X scope caps_n caps)
  {g:TG} {tt:TT} {te:TE} (hlow:Kr tgs.length g) (hg:∀s H C,PG (Zo X scope (tgs++caps_n) fp s H C) tg g) (hf:∀s H C,PF (Zo X scope (tgs++caps_n) fp s H C) ifs tt) (he:∀s H C,PE (Zo X scope (tgs++caps_n) fp s H C) elt te)
  {Fin:List V->Hp->Prop} (hw:Co J (Q0 tgs.length caps σ) g tt te Fin H₂) {RR:Value->Addr->Result->Shared->Prop}
  (hRR:∀(D C:Addr) (ys:List V) (its:List Value) (n:Nat) (H3:Hp) (s3:Shared),s₂.heap.objs.size≤D->s₂.heap.objs.size≤C->D≠C->Inv (Zo X scope (tgs++caps_n) fp s₂ H₂ C) [(D,JG its n)] (Q0 tgs.length caps σ) H3 s3->Zy ys its->ys.length≤Wc->Fin ys H3->RR (.ref D) C (.ok .next) s3)
  {E:Value->Shared->Prop} :
  wpAny (model X.prog X.w) X.A (newList []) (λacc s₃=>wpAny (model X.prog X.w) X.A (newFunctionEnv scope X.env.globals (F3 scope X.env) [] X.env.qual none .none (some X.env)) (λcenv s₄=>
   codeAny (model X.prog X.w) X.A (.compStart (.ListComp elt [⟨tg,iter,ifs,0⟩] scope pos) 0 (.ref it) acc { cenv with scope:=relabel scope X.env }) (RR acc cenv.locals) s₄) E s₃) E s₂:=by
 refine V7 (wpAny_newFunctionEnv hcell (by intro y hy;simp at hy) (λh₁ hns₁ hsb₁=>?_) hkind)
 dsimp only at hns₁ hsb₁ ⊢
 generalize hH2:s₂.heap.push { cls:=.type "list",dict:=none,data:=.seq ([]:List Value).toArray }=HP at hns₁ hsb₁ ⊢
 have hC:HP.objs.size=s₂.heap.objs.size+1:=by rw [←hH2,Vr]
 have hDC:s₂.heap.objs.size≠HP.objs.size:=by rw [hC];exact WJ (W0d _)
 have hCle:s₂.heap.objs.size≤HP.objs.size:=by rw [hC];exact Nat.le_succ _
 have below:∀b,b<s₂.heap.objs.size->b≠HP.objs.size/\b≠s₂.heap.objs.size:=λb hb=>⟨by rw [hC];exact WJ (W08 hb),WJ hb⟩
 have old:∀b o,s₂.heap.get? b=some o->h₁.get? b=some o:=λb o e=>hsb₁.extBut b o (below b (Ws e)).1 (W7 _ (hH2 ▸ W7 _ e))
 have hacc:h₁.get? s₂.heap.objs.size=some (JG [] 0):=hsb₁.extBut _ _ hDC (W7 _ (hH2 ▸ Wv _ rfl))
 have fpl:∀b∈fp,b<s₂.heap.objs.size:=λb hb=>by
  obtain⟨o,e,_⟩:=T.obj 0 _ st0 b hb
  exact Ws e
 have stkl:∀b∈frs X.stack,b<s₂.heap.objs.size:=λb hb=>by
  obtain⟨_,o,ho,_⟩:=I.stack.mem hb
  exact Ws ho
 -- the block's context
 have ok:(Zo X scope (tgs++caps_n) fp s₂ H₂ HP.objs.size).Ok:=by
  refine⟨I.ok.mod,hkind,I.ok.glob,I.ok.blt,hCle,λx y c h1 h2=>I.ok.inj x y c (Y2 hcl h1).2 (Y2 hcl h2).2,λx hx=>?_,λx c h _=>(nomatch h),I.ok.hd,I.ok.frames,.inl rfl,
   λb hb=>⟨(below b (fpl b hb)).1,λx c h=>(hfp b hb).2.2.2.2.1 x c (Y2 hcl h).2⟩,I.bs,Wx I.ok.bsz I.sz,λb o e hb=>?_,λb hb z=>?_,I.stack,I.stkFree⟩
  ·obtain⟨c,h1,_⟩:=M7 hcl (QI (env:=X.env) hcell hx)
   exact⟨c,h1⟩
  ·obtain⟨_,_,_,h4,_⟩:=hfp b hb
   rcases h4 with h4|h4
   ·exact I.ok.noex b o e h4
   ·exact absurd (WB (Ws (I.ok.bs b o e).1) h4) (Vg _)
  ·obtain⟨_,h2,h3,_⟩:=hfp b hb
   rcases WD.mp (I.stkSub b z) with q|q
   ·exact h2 q
   ·exact h3 q
 have I0:∀tk,Inv (Zo X scope (tgs++caps_n) fp s₂ H₂ HP.objs.size) [(s₂.heap.objs.size,JG [] 0)] (Q0 tgs.length caps σ) H₂ { s₂ with heap:=h₁,toks:=tk }:=by
  intro tk
  refine⟨ok,rfl,I.bare,Un.kept old,⟨_,hns₁,λi x v e1 e2 e3=>?_⟩,λx c h=>?_,I.hok.fresh hCle,λx c h=>I.freeC x c (Y2 hcl h).2,λp hp=>?_,I.hok.kept old,?_⟩
  ·unfold Q0 at e2
   have hi:tgs.length≤i:=by
    by_cases hi:i<tgs.length
    ·rw [WF (by simpa using hi),VC] at e2
     split at e2<;>cases e2
    ·exact W00 hi
   rw [WP (by simpa using hi),VQ,WU] at e2
   have e1':caps_n[i-tgs.length]? = some x:=by
    have e1'':(tgs++caps_n)[i]? = some x:=e1
    rw [WP hi] at e1''
    exact e1''
   cases ej:caps[i-tgs.length]? with
   |none=>rw [ej] at e2;cases e2
   |some j=>
    rw [ej] at e2
    obtain⟨n1,n2,n3⟩:=hcap.get e1' ej
    have es:σ[j]? = some (some v):=by
     have e2':(σ[j]?).getD none=some v:=WQ e2
     cases q:σ[j]? with
     |none=>rw [q] at e2';cases e2'
     |some z=>rw [q] at e2';rw [show z=some v from e2']
    obtain⟨m,hn,hl⟩:=I.loc
    obtain⟨u,ru,lk⟩:=hl j x v n1 es (.inr n2)
    refine⟨u,ru,?_⟩
    rcases lk with ⟨k1,_⟩|⟨_,c,k1,k2⟩
    ·have k1':X.env.scope.names.lookup x=some .local:=k1
     rcases n2 with n2|n2
     ·rw [n2] at k1';cases k1'
     ·rw [n2] at k1';cases k1'
    ·obtain⟨c',h1,h2⟩:=M7 hcl (Vy n3)
     rw [k1] at h2;cases h2
     refine .inr ⟨?_,c,h1,k2.keeps old⟩
     rcases QH (env:=X.env) n3 with q|q
     ·exact .inr q
     ·exact .inl q
  ·obtain⟨v,z⟩:=I.cell x c (Y2 hcl h).2
   exact⟨v,z.keeps old⟩
  ·have e:p=(s₂.heap.objs.size,JG [] 0):=by simpa [Zo] using hp
   subst e
   exact⟨hacc,I.hok.fresh (Wp _),hDC,λz=>Vg _ (stkl _ z),λv z=>(nomatch z)⟩
  ·unfold Q0
   show _=(tgs++caps_n).length
   rw [Wo,VQ,Wg,Wo,hcap.len]
 obtain⟨W,⟨m0,w0⟩,turn⟩:=hw
 have st1:tn 0 h₁:=T.keep 0 _ _ st0 λb _ o e=>old b o e
 have loop:∀tk,codeAny (model X.prog X.w) X.A (.compLoop (.ListComp elt [⟨tg,iter,ifs,0⟩] scope pos) 0 (.ref it) (.ref s₂.heap.objs.size) (compEnvC scope (F3 scope X.env) HP.objs.size X.env))
   (RR (.ref s₂.heap.objs.size) HP.objs.size) { s₂ with heap:=h₁,toks:=tk }:=by
  intro tk
  have stat:∀{pins':List (Addr×Obj)} {H':Hp},(∀p∈pins',p.1∉fp)->(∀b∈fp,H' b=none)->∀b∈fp,Mo (Zo X scope (tgs++caps_n) fp s₂ H₂ HP.objs.size) pins' H' b:=λ{pins' H'} hp hn b hb=>
   ⟨hn b hb,(below b (fpl b hb)).1,ok.exfs b hb,.inl hb,λx c h=>(hfp b hb).2.2.2.2.1 x c (Y2 hcl h).2,λp hp' z=>hp p (by simpa [Zo] using hp') (z ▸ hb)⟩
  have offD:∀(its:List Value) (n:Nat),∀p∈[(s₂.heap.objs.size,JG its n)],p.1∉fp:=λits n p hp z=>by
   have e:p=(s₂.heap.objs.size,JG its n):=by simpa using hp
   rw [e] at z
   exact Vg _ (fpl _ z)
  refine YZ (λn s'=>∃i ys its k H',Inv (Zo X scope (tgs++caps_n) fp s₂ H₂ HP.objs.size) [(s₂.heap.objs.size,JG its k)] (Q0 tgs.length caps σ) H' s'/\Zy ys its/\tn i s'.heap/\(∀b∈fp,H' b=none)/\W i n ys H') ?_ m0
   ⟨0,[],[],0,H₂,I0 tk,.nil,st1,λb hb=>(hfp b hb).1,w0⟩
  rintro n s3 ⟨i,ys,its,k,H3,I3,rv,st3,fr3,w3⟩
  rcases turn i n ys H3 w3 with ⟨stop,hz,fin⟩|⟨go,hz,step⟩
  ·refine thn (T.done (Zo X scope (tgs++caps_n) fp s₂ H₂ HP.objs.size) rfl rfl rfl hc i _ s3 _ H3 (λ_ _=>False) I3 (stat (offD _ _) fr3) st3 stop) λr s4 ⟨hr,I4⟩=>?_
   subst hr
   exact hRR _ _ ys its k H3 s4 (Wp _) hCle hDC I4 rv hz fin
  ·refine thn (T.item (Zo X scope (tgs++caps_n) fp s₂ H₂ HP.objs.size) rfl rfl rfl hc i _ s3 _ H3 (λ_ _=>False) I3 (stat (offD _ _) fr3) st3 go) λr s4 ⟨u,hr,h4⟩=>?_
   subst hr
   refine thn h4 λ_ s5 ⟨x,H5,I5,r5,y5,st5,fr5⟩=>?_
   have I5':=I5.pinned (stat (offD _ _) fr5) (T.obj _ _ st5)
   refine thn (hg s₂ H₂ HP.objs.size _ s5 _ H5 x u _ I5' r5 (hlow _ _ _ _ (step x H5 y5))) λ_ s6 ⟨σ6,H6,I6,keep6,q6⟩=>?_
   refine thn (hf s₂ H₂ HP.objs.size _ s6 σ6 H6 _ I6 q6) λb s7 ⟨H7,I7,q7⟩=>?_
   have len6:σ6.length=(Q0 tgs.length caps σ).length:=I6.len.trans I5.len.symm
   -- what stays of the iterator's objects
   have itk:∀{σ':St} {H':Hp} {s':Shared},Inv (Zo X scope (tgs++caps_n) fp s₂ H₂ HP.objs.size) ([(s₂.heap.objs.size,JG its k)]++Ul fp s5.heap) σ' H' s'->tn (i+1) s'.heap/\∀b∈fp,H' b=none:=λ{σ' H' s'} I'=>by
    refine⟨T.keep _ _ _ st5 λb hb o e=>(I'.pin (b,o) (WE _ (WE _ (YS hb e)))).1,λb hb=>?_⟩
    obtain⟨o,e,d⟩:=T.obj _ _ st5 b hb
    exact (I'.pin (b,o) (WE _ (WE _ (YS hb e)))).2.1
   -- the captured names' slots
   have slots:∀(j:Nat) v,(Q0 tgs.length caps σ)[j]? = some (some v)->σ6[j]? = some (some v):=λj v e=>by
    by_cases hj:tgs.length≤j
    ·rw [keep6 j hj];exact e
    ·unfold Q0 at e
     rw [WF (by simpa using hj),VC] at e
     split at e<;>cases e
   cases b with
   |false=>
    rw [if_neg WC]
    rw [if_neg WC] at q7
    obtain⟨m',hm,w7⟩:=q7
    obtain⟨t7,f7⟩:=itk I7
    exact⟨m',hm,i+1,ys,its,k,H7,(I7.unpinned (pins:=[(s₂.heap.objs.size,JG its k)])).weak len6.symm slots,rv,t7,f7,w7⟩
   |true=>
    rw [if_pos rfl]
    rw [if_pos rfl] at q7
    refine thn (he s₂ H₂ HP.objs.size _ s7 σ6 H7 _ I7 q7) λxv s8 ⟨y,H8,I8,r8,m',hm,w8⟩=>?_
    obtain⟨t8,f8⟩:=itk I8
    have I8':Inv (Zo X scope (tgs++caps_n) fp s₂ H₂ HP.objs.size) [(s₂.heap.objs.size,JG its k)] (Q0 tgs.length caps σ) H8 s8:=(I8.unpinned (pins:=[(s₂.heap.objs.size,JG its k)])).weak len6.symm slots
    obtain⟨eD,nD,neD,nfD,dD⟩:=I8'.pin (s₂.heap.objs.size,JG its k) (WE _ (by simp))
    have hlen:its.toArray.size≤Wc:=by rw [Wf,←rv.length];exact hz
    refine append_at (its:=its.toArray) (n:=k) eD (λh9 sb9 e9=>?_) hlen
    have I9:Inv (Zo X scope (tgs++caps_n) fp s₂ H₂ HP.objs.size) [] (Q0 tgs.length caps σ) H8 { s8 with heap:=h9 }:=
     (I8'.pins_of (pins':=[]) (λp hp=>by cases hp)).turned (t':=s8.toks) (it:=s₂.heap.objs.size) (λb o hb e=>sb9.extBut b o hb e) nD neD (.inr (Wp _)) (λx c h z=>by
      obtain⟨v,q⟩:=I.cell x c (Y2 hcl h).2
      exact absurd q.lt (by rw [z];exact Vg _)) (λp hp=>by
       have hp':p∈([]:List (Addr×Obj)):=by simpa [Zo] using hp
       cases hp')
    have e9':h9.get? s₂.heap.objs.size=some (JG (its++[xv]) (k+1)):=by
     rw [e9];simp [JG]
    refine⟨m',hm,i+1,ys++[y],its++[xv],k+1,H8,I9.pins_of (λp hp=>?_),rv.append (.cons r8 .nil),T.keep _ _ _ t8 λb hb o e=>sb9.extBut b o (WJ (fpl b hb)) e,f8,w8⟩
    have ep:p=(s₂.heap.objs.size,JG (its++[xv]) (k+1)):=by simpa using hp
    subst ep
    exact⟨e9',nD,neD,nfD,λv z=>(nomatch z)⟩
 exact codeAny_compStart_list (loop _) (T.self X.A 0 _ _ _ st1 (loop _))
theorem GB (I:Inv X pins σ H₂ s₂){fp:List Addr}(hfp:∀b∈fp,Mo X pins H₂ b){D C:Addr}{ys:List V}{its:List Value}{n:Nat}{H3:Hp}{s3:Shared}{N':List Str}{σ':St}{h4:Heap}(hD:s₂.heap.objs.size≤D)(hC:s₂.heap.objs.size≤C)(hDC:D≠C)
  (I3:Inv (Zo X scope N' fp s₂ H₂ C) [(D,JG its n)] σ' H3 s3) (rv:Zy ys its) (hz:ys.length≤Wc) (hs:VU C s3.heap h4):Inv X pins σ (upd H3 D (.lst ys)) { s3 with heap:=h4 }:=by
 obtain⟨eD,nD,neD,nfD,dD⟩:=I3.pin (D,JG its n) (WE _ (by simp))
 have eD4:h4.get? D=some (JG its n):=hs.extBut D _ hDC eD
 have lt:∀b o,s₂.heap.get? b=some o->b≠C/\b≠D:=λb o e=>⟨WJ (WB (Ws e) hC),WJ (WB (Ws e) hD)⟩
 refine I.call' (ch:=fp) I3.os ?_ ?_ I3.bare (λb hb=>⟨(hfp b hb).2.2.2.1,(hfp b hb).2.1,(hfp b hb).2.2.2.2.1,(hfp b hb).2.2.2.2.2⟩)
 ·have u:=I3.base
  refine⟨λb o e nb hb hx=>hs.extBut b o (lt b o e).1 (u.keep b o e nb hb hx),λb o e nb hb hx=>?_,λb o e nb hx=>?_,λb o e hx=>?_,λb xs e=>?_,λb o xs e=>?_,λb ps e=>?_⟩
  ·obtain⟨sl,q⟩:=u.slot b o e nb hb hx
   exact⟨sl,hs.extBut b _ (lt b o e).1 q⟩
  ·rw [Za (lt b o e).2];exact u.free b o e nb hx
  ·obtain⟨o',q⟩:=u.there b o e hx
   exact⟨o',hs.extBut b _ (lt b o e).1 q⟩
  ·have q:=u.tups b xs e
   rw [Za (Zg q nD)];exact q
  ·have q:=u.frzs b o xs e
   rw [Za (Zg q nD)];exact q
  ·obtain⟨more,q⟩:=u.tbls b ps e
   exact⟨more,by rw [Za (Zg q nD)];exact q⟩
 ·refine HOk.track (I3.hok.but I3.free λb o hb e=>hs.extBut b o hb e) nD ?_
  exact⟨hz,its,n,rv,eD4⟩
def PB (wi:TI)(nT:Nat)(caps:List Nat)(g:TG)(tt:TT)(te:TE):TE:=λσ H Q=>wi σ H λJ H1=>Co J (Q0 nT caps σ) g tt te (λys H3=>∀D,H3 D=none->Q (.ref D) (upd H3 D (.lst ys))) H1
theorem BU {wi:TI}{g:TG}{tt:TT}{te:TE}(hc:X.calm=true)(hcell:∀y∈scope.names,y.2≠.cell)(hkind:scope.kind = .function)(hnames:∀y∈scope.names,y.2 = .local->scope.names.lookup y.1=some .local)
  (hfree:∀y∈scope.names,y.2 = .free->X.env.scope.names.lookup y.1=some .cell\/X.env.scope.names.lookup y.1=some .free) (hcap:Jq X scope caps_n caps) (hi:PI X tg iter wi) (hlow:Kr tgs.length g)
  (hg:∀fp s H C,PG (Zo X scope (tgs++caps_n) fp s H C) tg g) (hf:∀fp s H C,PF (Zo X scope (tgs++caps_n) fp s H C) ifs tt) (he:∀fp s H C,PE (Zo X scope (tgs++caps_n) fp s H C) elt te)
  (hs:∀x,foldedSetIterable iter X.env x=pure x:=by intro _;rfl):PE X (.ListComp elt [⟨tg,iter,ifs,0⟩] scope pos) (PB wi tgs.length caps g tt te):=by
 intro pins s σ H Q I h
 have hcl:Bb scope X.env:=λx hx=>I.ok.has x (hfree _ hx rfl)
 rw [eval_ListComp]
 refine wpAny_comprehension_free (use:=none) rfl hs (JN hcl) hkind hnames (thn (hi pins s σ H _ I h) λv s1 h1=>thn h1 λitv s2 h2=>?_)
 obtain⟨it,fp,tn,J,H2,e,I2,T,st2,f2,hw⟩:=h2
 subst e
 refine JM I2 T st2 f2 hc hcell hkind hcl hcap hlow (hg fp) (hf fp) (he fp) hw (RR:=λacc C=>compPost (model X.prog X.w) X.A X.xe none (EP X pins σ Q) acc C) ?_
 intro D C ys its n H3 s3 hD hC hDC I3 rv hz fin
 obtain⟨m,hn,_⟩:=I3.loc
 refine⟨m,hn,λh' hs'=>?_⟩
 obtain⟨eD,nD,_⟩:=I3.pin (D,JG its n) (WE _ (by simp))
 exact⟨.ref D,_,GB I2 f2 hD hC hDC I3 rv hz hs',rfl,fin D nD⟩
theorem L1 {wi:TI}{g:TG}{tt:TT}{te:TE}{i:Nat}{y:Str}{py spos:Pos}(hsw:swapsWith (.ListComp elt [⟨tg,iter,ifs,0⟩] scope pos) (some (.Name y py)) spos.line X.env=pure true)
  (hN:X.N.Nodup) (hy:X.N[i]? = some y) (hx:X.env.scope.names.lookup y=some .local)
  (hc:X.calm=true) (hcell:∀y∈scope.names,y.2≠.cell) (hkind:scope.kind = .function) (hnames:∀y∈scope.names,y.2 = .local->scope.names.lookup y.1=some .local)
  (hfree:∀y∈scope.names,y.2 = .free->X.env.scope.names.lookup y.1=some .cell\/X.env.scope.names.lookup y.1=some .free) (hcap:Jq X scope caps_n caps) (hi:PI X tg iter wi) (hlow:Kr tgs.length g)
  (hg:∀fp s H C,PG (Zo X scope (tgs++caps_n) fp s H C) tg g) (hf:∀fp s H C,PF (Zo X scope (tgs++caps_n) fp s H C) ifs tt) (he:∀fp s H C,PE (Zo X scope (tgs++caps_n) fp s H C) elt te)
  (hs:∀x,foldedSetIterable iter X.env x=pure x:=by intro _;rfl):PS X (.Assign [.Name y py] (.ListComp elt [⟨tg,iter,ifs,0⟩] scope pos) spos) (Cq (PB wi tgs.length caps g tt te) (UG i)):=by
 intro pins s σ H D I h
 have hcl:Bb scope X.env:=λx hx=>I.ok.has x (hfree _ hx rfl)
 rw [exec_Assign_Name_used _ _ _ _ hsw]
 refine W2 (wpAny_standAt (W2 ?_))
 show wpAny _ X.A (do let _ ←comprehension (.ListComp elt [⟨tg,iter,ifs,0⟩] scope pos) scope X.env _ (newList []) false (eval iter X.env) (some (assign (.Name y py) X.env))) _ _ s
 refine W2 (VE (wpAny_comprehension_free (use:=some (assign (.Name y py) X.env)) (Q:=λ_ s'=>SP X pins D .next s') rfl hs (JN hcl) hkind hnames
  (thn (hi pins s σ H _ I h) λv s1 h1=>thn h1 λitv s2 h2=>?_)) (λ_ s' hq=>Wk (Wk hq)) λ_ _ e=>e)
 obtain⟨it,fp,tn,J,H2,e,I2,T,st2,f2,hw⟩:=h2
 subst e
 refine JM I2 T st2 f2 hc hcell hkind hcl hcap hlow (hg fp) (hf fp) (he fp) hw (RR:=λacc C=>compPost (model X.prog X.w) X.A X.xe (some (assign (.Name y py) X.env)) (λ_ s'=>SP X pins D .next s') acc C) ?_
 intro Da C ys its n H3 s3 hD hC hDC I3 rv hz fin
 obtain⟨m,hn,_⟩:=I3.loc
 obtain⟨eD,nD,_⟩:=I3.pin (Da,JG its n) (WE _ (by simp))
 have I4:Inv X pins σ (upd H3 Da (.lst ys)) s3:=GB I2 f2 hD hC hDC I3 rv hz (h4:=s3.heap) (VU.refl ..)
 have hLC:C≠X.env.locals:=W0z (WB I2.lt hC)
 show wpAny _ X.A (assign (.Name y py) X.env (.ref Da)) _ _ s3
 refine wpAny_assign_Name (Ue I4 hN hy (.inl hx) (show Zz (.ref Da) (.ref Da) from rfl) (λs5 I5 hs5=>?_) (.inr hx))
 obtain⟨b5,sb5,hb5⟩:=hs5
 have hbC:C≠b5:=by
  rcases hb5 with z|z
  ·rw [z];exact hLC
  ·obtain⟨v,q⟩:=I2.cell y b5 z
   exact W0z (WB q.lt hC)
 refine⟨m,hn.sameBut sb5 hbC,λh6 sb6=>?_⟩
 have fC:upd H3 Da (.lst ys) C=none:=by rw [Za (Ne.symm hDC)];exact I3.free
 refine⟨_,_,I5.turned (t':=s5.toks) (it:=C) (λb o hb e=>sb6.extBut b o hb e) fC hLC (.inr (Wx I2.sz hC)) (λx c e z=>?_) (λp hp z=>?_),fin Da nD⟩
 ·obtain⟨v,q⟩:=I2.cell x c e
  exact absurd (WB q.lt hC) (by rw [z];exact Vg _)
 ·exact absurd (WB (Ws (I2.pin p hp).1) hC) (by rw [z];exact Vg _)
end
end L2
namespace L2
open PySem PySem.Spec PyProof.Rows
section
variable {prog:Program} {w:World} {κ:Type} [DecidableEq κ] {kd:HeapKind prog w κ} {A:Around} {E:Value->Shared->Prop} {s:Shared} {a:Addr} {tab:List (κ×Addr×Value)}
theorem GZ (ns:(a == sysModules)=false):MeetsIn prog w (Builtin.«dict.__len__» ⟨[.ref a],[]⟩) (λ_ R s=>∃tab,s.heap.DictOfH kd a tab/\R (.ok (.ret (.int tab.length s.toks))) { s with toks:=s.toks+1 }):=
 .of_wp λ_ R s ⟨tab,⟨o,es,ep,ho,_,hdat,he,_,_⟩,h⟩=>by
  have hz:es.size=tab.length:=by simpa using congrArg Vb he
  refine W2 (m:=dictSize a) (W2 (wpAny_dictEntries ho hdat (Wk (W2 (m:=Builtin.Dict.pendingCount a) (wpAny_pendingCount_other ns (wpAny_ret_mkInt ?_))))))
  rw [Nat.add_zero,hz];exact h
theorem Ut {Q:Value->Shared->Prop}(ns:(a == sysModules)=false)(hm:s.heap.DictOfH kd a tab)(fit:(tab.length:Int)<2 ^ 63)(h:Q (.int tab.length (s.toks+1)) { s with toks:=s.toks+1+1 }) :
  wpAny (model prog w) A (Builtin.«len» ⟨[.ref a],[]⟩) (λfin s'=>∃r,fin = .done (.ret r)/\Q r s') E s:=by
 unfold Builtin.«len»
 refine W2 (m:=oneArg "len" _) (Wk (W2 (m:=callSpecial? (.ref a) (Wm "__len__")) (V9 (name:=Wm "__len__") hm.typeIs W0j ?_)))
 refine call_meetsIn W0j hm.typeIs F.entry_dict_len (F.args_dict_len_1 _) (GZ ns) ⟨tab,hm,W2 (VO (Wk (W2 (W0e ?_))))⟩
 have n1:¬((tab.length:Nat):Int)<0:=by omega
 have n2:¬((tab.length:Nat):Int)≥2 ^ 63:=by omega
 show wpAny _ _ (if ((tab.length:Nat):Int)<0 then _ else _) _ _ _
 rw [if_neg n1]
 show wpAny _ _ (if ((tab.length:Nat):Int)≥2 ^ 63 then _ else _) _ _ _
 rw [if_neg n2]
 exact W2 (wpAny_mkInt (Wk (show ∃r,_ from ⟨_,rfl,h⟩)))
theorem U4 {Q:Value->Shared->Prop}(ns:(a == sysModules)=false)(hm:s.heap.DictOfH kd a tab)(fit:(tab.length:Int)<2 ^ 63)(h:Q (.int tab.length (s.toks+1)) { s with toks:=s.toks+1+1 }) :
  wpAny (model prog w) A (call (.builtin "len") [.ref a]) Q E s:=Calls.call_function_entry kind_len plain_len entry_len (args_len1 _) (Ut ns hm fit h)
theorem T2 {Q:Bool->Shared->Prop}(ns:(a == sysModules)=false)(hm:s.heap.DictOfH kd a tab)(fit:(tab.length:Int)<2 ^ 63)(h:Q (!tab.isEmpty) { s with toks:=s.toks+1+1 }) :
  wpAny (model prog w) A (truthy (.ref a)) Q E s:=by
 have ne:((tab.length:Int) != 0) = !tab.isEmpty:=by cases tab<;>simp<;>omega
 have run:wpAny (model prog w) A (runValue (.builtin "len" ⟨[.ref a],[]⟩)) (λr s'=>r = .int tab.length (s.toks+1)/\Q (!tab.isEmpty) s') E s:=by
  refine wpAny_runValue (W0k entry_len (by
   rw [VT plain_len _]
   exact VE (Ut (Q:=λr s'=>r = .int tab.length (s.toks+1)/\Q (!tab.isEmpty) s') ns hm fit ⟨rfl,h⟩) (λ_ _ q=>by obtain⟨_,e,q⟩:=q;subst e;exact q) λ_ _ z=>z))
 unfold truthy
 first
  |refine W2 (W0l (name:=Wm "__bool__") hm.typeIs noBool_dict (W2 (W0M (name:=Wm "__len__") hm.typeIs W0j.lookup ?_)))
  |refine W2 (Wk (W2 (W0l (name:=Wm "__bool__") hm.typeIs noBool_dict (W2 (W0M (name:=Wm "__len__") hm.typeIs W0j.lookup ?_)))))
  |refine W2 (Wk (W2 (W0l (name:=Wm "__bool__") hm.typeIs noBool_dict (W2 (Wk (W2 (W0M (name:=Wm "__len__") hm.typeIs W0j.lookup ?_)))))))
 first
  |exact W2 (VE run (λ_ _ q=>by rw [q.1];exact Wk (ne ▸ q.2)) λ_ _ z=>z)
  |exact W2 (Wk (W2 (VE run (λ_ _ q=>by rw [q.1];exact Wk (ne ▸ q.2)) λ_ _ z=>z)))
end
section
variable {X:Cx}
def Ko (K:W3)(x:V)(H:Hp)(k:Bool):Prop:=SM K x H k\/(∃p kvs,x = .ref p/\Rd H p (.dT kvs)/\k = !kvs.isEmpty)\/∃p kvs,x = .ref p/\Rd H p (.dK kvs)/\k = !kvs.isEmpty
theorem Bo:SN X (λx H Q=>∃k,Ko X.K x H k/\Q k H):=by
 intro pins s σ H x v Q I rx h
 obtain⟨k,e,q⟩:=h
 rcases e with e|⟨p,kvs,rfl,hx,rfl⟩|⟨p,kvs,rfl,hx,rfl⟩
 ·exact Fn pins s σ H x v Q I rx ⟨k,e,q⟩
 ·cases rx
  obtain⟨hz,hS,xs,r,m⟩:=Ts I.hok hx
  have hlen:kvs.length=xs.length:=W0g r
  have hs:Wc=16777216:=W0t
  refine T2 hS m (by omega) ⟨H,I.tok _,?_⟩
  have:(!xs.isEmpty) = !kvs.isEmpty:=by cases r<;>rfl
  rw [this];exact q
 ·cases rx
  exact LZ I hx λs' I'=>⟨H,I',q⟩
theorem BK {a:Expr}{ta:TE}(ha:PE X a ta)(he:∀whole,isTrue a X.env whole=(do let v ←whole;standAt a.pos;holding [v] (truthy v))) :
  PT X a (λσ H Q=>ta σ H λx H'=>∃k,Ko X.K x H' k/\Q k H'):=by
 intro pins s σ H Q I h
 exact isTrue_plain (thn (ha pins s σ H _ I h) λv s1 ⟨x,H1,I1,r1,q1⟩=>Bo pins s1 σ H1 x v Q I1 r1 q1) (he _)
end
end L2
namespace L2
open PySem PySem.Spec PyProof.Rows
section
variable {P:Program} {w:World} {H:Hp} {h:Heap} {a:Addr}
theorem Kg (x:ZB P w H h a (.dK [])):ZB P w H h a (.dT []):=by
 obtain⟨z,hd,vs,rel,o,es,ep,h1,h2,h3,h4,h5,h6⟩:=(show (_:Nat)≤Wc/\(a == sysModules)=false/\∃vs,KV [] vs/\h.DictOf (ZL P w) a vs from x)
 cases rel
 have he:es.toList=[]:=VW.mp h5.length
 exact⟨Nat.zero_le _,hd,[],.nil,o,es,ep,h1,h2,h3,by rw [he];rfl,List.nodup_nil⟩
theorem Kf (x:ZB P w H h a (.dT [])):ZB P w H h a (.dK []):=by
 obtain⟨z,hd,xs,rel,o,es,ep,h1,h2,h3,h4,h5⟩:=x
 cases rel
 have he:es.toList=[]:=by rw [h4];rfl
 refine⟨Nat.zero_le _,hd,[],.nil,o,es,ep,h1,h2,h3,λe hm=>?_,?_,List.nodup_nil⟩
 ·have:e∈es.toList:=Array.mem_toList_iff.mpr hm
  rw [he] at this
  cases this
 ·rw [he];exact .nil
end
section
variable {X:Cx} {pins:List (Addr×Obj)} {σ:St} {H:Hp} {s:Shared} {a:Addr} {y v:V} {u r:Value} {o:Option V} {A:Around} {E:Value->Shared->Prop}
theorem Inv.view {o':HO}(I:Inv X pins σ H s)(mu:Mut (H a))(he:∃q,s.heap.get? a=some q)(f:ZB X.prog X.w (upd H a o') s.heap a o'):Inv X pins σ (upd H a o') s:=
 Tw (h':=s.heap) (t':=s.toks) (ob:=o') I mu ⟨rfl,λ_ _=>rfl⟩ he f
theorem Cg {P:Program}{w:World}{H:Hp}{h:Heap}{a:Addr}{kvs:List (Key×V)}(x:ZB P w H h a (.dK kvs)):∃q,h.get? a=some q:=by
 obtain⟨_,_,vs,_,o,_,_,h1,_⟩:=x
 exact⟨o,h1⟩
theorem Ce {P:Program}{w:World}{H:Hp}{h:Heap}{a:Addr}{kvs:List (List Key×V)}(x:ZB P w H h a (.dT kvs)):∃q,h.get? a=some q:=by
 obtain⟨_,_,xs,_,o,_,_,h1,_⟩:=x
 exact⟨o,h1⟩
theorem Inv.asT (I:Inv X pins σ H s)(e:H a=some (.dK [])):Inv X pins σ (upd H a (.dT [])) s:=by
 have ok:=I.hok a _ e
 refine I.view (by rw [e];exact True.intro) (Cg ok) ?_
 obtain⟨z,hd,xs,rel,r⟩:=Kg ok
 cases rel
 exact⟨z,hd,[],.nil,r⟩
theorem Inv.asK (I:Inv X pins σ H s)(e:H a=some (.dT [])):Inv X pins σ (upd H a (.dK [])) s:=by
 have ok:=I.hok a _ e
 refine I.view (by rw [e];exact True.intro) (Ce ok) ?_
 obtain⟨z,hd,vs,r⟩:=Kf ok
 exact⟨z,hd,vs,r⟩
theorem Inv.back {o:HO}(I:Inv X pins σ (upd H a o) s)(e:H a=some (.dK [])\/H a=some (.dT []))(ho:o = .dK []\/o = .dT []):Inv X pins σ H s:=by
 have eH:∀o',H a=some o'->upd (upd H a o) a o'=H:=λo' h=>by
  rw [Qo]
  funext b
  unfold upd
  by_cases hb:b=a
  ·rw [if_pos hb,hb,h]
  ·rw [if_neg hb]
 rcases e with e|e<;>rcases ho with rfl|rfl
 ·have hu:upd H a (.dK [])=H:=by rw [←Qo (o:=.dK [])];exact eH _ e
  rw [hu] at I;exact I
 ·have:=I.asK Z5
  rw [eH _ e] at this;exact this
 ·have:=I.asT Z5
  rw [eH _ e] at this;exact this
 ·have hu:upd H a (.dT [])=H:=by rw [←Qo (o:=.dT [])];exact eH _ e
  rw [hu] at I;exact I
def JC (H:Hp)(a:Addr)(y:V)(r:Option V):Prop:=Ff H a y r\/
 ((H a=some (.dK [])/\∃(k:List Key) (b:Addr),y = .ref b/\H b=some (.tup (k.map kV))/\r=none)\/(H a=some (.dT [])/\∃k:Key,y=kV k/\r=none))
theorem JC.view (I:Inv X pins σ H s)(g:JC H a y o):∃H',Inv X pins σ H' s/\Ff H' a y o/\∀s',Inv X pins σ H' s'->Inv X pins σ H s':=by
 rcases g with g|⟨e,k,b,ey,eb,er⟩|⟨e,k,ey,er⟩
 ·exact⟨H,I,g,λ_ h=>h⟩
 ·subst ey er
  have hb:b≠a:=QN eb e (λz=>nomatch z)
  exact⟨_,I.asT e,.inr ⟨[],k,b,.inl Z5,rfl,by rw [Za hb];exact eb,rfl⟩,λs' h=>h.back (.inl e) (.inr rfl)⟩
 ·subst ey er
  exact⟨_,I.asK e,.inl ⟨[],k,.inl Z5,rfl,rfl⟩,λs' h=>h.back (.inr e) (.inl rfl)⟩
theorem JC.ofSome {x:V}(g:JC H a y (some x)):Ff H a y (some x):=by
 rcases g with g|⟨_,_,_,_,_,h⟩|⟨_,_,_,h⟩
 ·exact g
 ·cases h
 ·cases h
theorem Ch {Q:Value->Shared->Prop}(hu:A.units+1<cLine)(I:Inv X pins σ H s)(g:JC H a y o)(ry:Zz y u)(h:∀s',Inv X pins σ H s'->Q (.bool o.isSome) s') :
  wpAny (model X.prog X.w) A (compareOp .In u (.ref a)) Q E s:=by
 obtain⟨H',I',g',back⟩:=g.view I
 exact D9 hu I' g' ry λs' I1=>h s' (back s' I1)
def Fa (H:Hp)(a:Addr)(y v:V)(H':Hp):Prop:=SR H a y v H'\/
 ((H a=some (.dK [])/\∃(k:List Key) (b:Addr),y = .ref b/\H b=some (.tup (k.map kV))/\H'=upd H a (.dT [(k,v)]))\/(H a=some (.dT [])/\∃k:Key,y=kV k/\H'=upd H a (.dK [(k,v)])))
theorem B5 {H':Hp}{Q:Unit->Shared->Prop}(hu:A.units+1<cLine)(I:Inv X pins σ H s)(g:Fa H a y v H')(ry:Zz y u)(rv:Zz v r)(h:∀s',Inv X pins σ H' s'->Q () s') :
  wpAny (model X.prog X.w) A (setItem (.ref a) u r) Q E s:=by
 have hz:0<Wc:=by decide
 rcases g with g|⟨e,k,b,ey,eb,er⟩|⟨e,k,ey,er⟩
 ·exact Jn hu I g ry rv h
 ·subst ey er
  have hb:b≠a:=QN eb e (λz=>nomatch z)
  refine Jn hu (I.asT e) (.inr ⟨[],k,b,Z5,rfl,by rw [Za hb];exact eb,hz,rfl⟩) ry rv ?_
  rw [Qo]
  exact h
 ·subst ey er
  refine Jn hu (I.asK e) (.inl ⟨[],k,Z5,rfl,hz,rfl⟩) ry rv ?_
  rw [Qo]
  exact h
end
end L2
namespace L2
open PySem PySem.Spec PyProof.Rows
section
variable {X:Cx} {pins:List (Addr×Obj)} {σ:St} {H:Hp} {s:Shared}
theorem Inv.turnedL {h':Heap}{t':Nat}{ch:List Addr}(I:Inv X pins σ H s)(hf:∀b∈ch,Mo X pins H b)(k:∀b o,b∉ch->s.heap.get? b=some o->h'.get? b=some o):Inv X pins σ H { s with heap:=h',toks:=t' }:=by
 have nit:∀b u,H b=some u->b∉ch:=λb u e z=>by rw [(hf b z).1] at e;cases e
 have nL:X.env.locals∉ch:=λz=>(hf _ z).2.1 rfl
 refine I.step (g':=s.gens) (d':=s.drawn) (ch:=ch) (λb hb=>?_) (λb o _ _ hc e _=>k b o hc e) (λb o _ _ hc e _=>⟨o.slots,k b o hc e⟩) (λ_ _ _ _ n=>n)
  (λb o hc e=>⟨o,k b o hc e⟩) (λ_ _ e=>e) (λ_ _ _ e=>e) (λb ps e=>⟨#[],by rw [e];simp⟩) (λm hm=>?_) (λb u e=>?_) I.bare
 ·obtain⟨_,f1,_,f3,f4,f5⟩:=hf b hb
  exact⟨f3,f1,f4,f5⟩
 ·obtain⟨o,es,ep,ho,r⟩:=hm
  exact⟨o,es,ep,k _ o nL ho,r⟩
 ·refine (I.hok b u e).stay (λc v hc q=>k c v ?_ q) (λ_ q=>q) λ_ _ q=>q
  rcases hc with z|z
  ·rw [z];exact nit b u e
  ·exact nit c _ z
end
section
variable {prog:Program} {w:World} {A:Around} {E:Value->Shared->Prop} {s:Shared}
theorem B4 (hh:A.handled=none)(it l:Addr)(hne:l≠it)(items:Array Value) :
  Draws prog w A it [it,l] items.size (λi v=>items[i]? = some v) (λi h=>h.IsTupleIter it l i/\h.IsTuple l items) where
 live:=λ_ _ ⟨⟨o,ho,_⟩,_⟩=>⟨o,ho⟩
 frame:=λ_ _ _ ⟨⟨o,ho,r⟩,⟨ol,hol,r'⟩⟩ hk=>⟨⟨o,hk it WR o ho,r⟩,⟨ol,hk l (WS _ WR) ol hol,r'⟩⟩
 item:=λi s Q E hi st hQ=>by
  obtain⟨it1,ht⟩:=st
  obtain⟨o,ho,hc,hd⟩:=id it1
  obtain⟨ol,hol,hcl,nl,hdl⟩:=id ht
  have hx:items[i]? = some items[i]:=Array.getElem?_eq_getElem hi
  unfold Vo
  refine W2 (V9 (name:=Wm "__next__") it1.typeIs VM (VN VM it1.typeIs W0N ?_ (W0F _)))
  refine W2 (m:=field (.ref it) 0) (Ve ho hd (x:=.ref l) rfl ?_)
  dsimp only
  rw [if_neg (show ¬(Value.ref l == Value.none)=true from WC)]
  refine W2 (m:=field (.ref it) 1) (Ve ho hd (x:=.int i 0) rfl (W2 (m:=seqItems? (.ref l)) (Vs hol hdl ?_)))
  simp only [W06,hx]
  refine W2 (wpAny_setField ho hd (by simp) (Wk ⟨_,rfl,Wk ?_⟩))
  have sb:=VU.update s.heap it (Obj.mapFields (·.setIfInBounds 1 (rawInt ((i:Int)+1))))
  refine hQ _ _ s.toks hx ⟨⟨_,W04 _ ho (Obj.isFreed_of_fields (Obj.data_mapFields hd _)),(Obj.cls_mapFields ..).trans hc,by rw [Obj.data_mapFields hd];simp [rawInt]⟩,?_⟩ sb
  exact ht.extBut sb.extBut hne
 done:=λs Q E st hE=>by
  obtain⟨it1,ht⟩:=st
  obtain⟨o,ho,hc,hd⟩:=id it1
  obtain⟨ol,hol,hcl,nl,hdl⟩:=id ht
  have hx:items[items.size]? = none:=by simp
  unfold Vo
  refine W2 (V9 (name:=Wm "__next__") it1.typeIs VM (VN VM it1.typeIs W0N ?_ (W0F _)))
  refine W2 (m:=field (.ref it) 0) (Ve ho hd (x:=.ref l) rfl ?_)
  dsimp only
  rw [if_neg (show ¬(Value.ref l == Value.none)=true from WC)]
  refine W2 (m:=field (.ref it) 1) (Ve ho hd (x:=.int items.size 0) rfl (W2 (m:=seqItems? (.ref l)) (Vs hol hdl ?_)))
  simp only [W06,hx]
  refine W2 (W19 (W2 (wpAny_setField ho hd (by simp) (W2 (m:=newExc (.type "StopIteration") []) ?_))))
  unfold newExc newTuple
  refine W2 (V7 (W2 (m:=firstArgMember _ _) (W0u (a:=Value.none) (by first|rfl|(simp only [firstArgMember];rfl)) (V7 ?_ (by size_fits)))) (by size_fits))
  unfold raiseNew
  refine W2 (wpAny_handled ?_)
  first|rw [show A.in1.handled=none from hh]|rw [hh]
  exact W2 (Wk (wpAny_throw (hE _ _ (((VU.update ..).extBut.push _).push _) ⟨_,Wv _ rfl,rfl⟩)))
structure ZAp (z TI TO i1 i2:Addr) (fp1 fp2:List Addr):Prop where
 a1:TI≠z
 a2:TO≠z
 a3:i1≠z
 a4:i2≠z
 a5:TI≠TO
 a6:TI≠i1
 a7:TI≠i2
 a8:TO≠i1
 a9:TO≠i2
 b1:i1≠i2
 b2:z∉fp1
 b3:z∉fp2
 b4:TO∉fp1
 b5:TO∉fp2
 b6:i1∉fp2
 b7:i2∉fp1
theorem JU {b:Addr}{fp:List Addr}(h:b∉fp):∀c∈fp,c≠b:=λc hc z=>h (z ▸ hc)
theorem QF {it:Addr}{fp:List Addr}{n i:Nat}{P:Nat->Value->Prop}{St:Nat->Heap->Prop}{b:Addr}{h h':Heap}(D:Draws prog w A it fp n P St)(st:St i h)(sb:VU b h h')(hb:b∉fp):St i h':=
 D.frame i h h' st λc hc o e=>sb.extBut c o (JU hb c hc) e
section
variable {z TI TO i1 i2:Addr} {fp1 fp2:List Addr} {n1 n2 k:Nat} {P1 P2:Nat->Value->Prop} {St1 St2:Nat->Heap->Prop} {a b:Value}
theorem Bg {Q:Value->Shared->Prop}(D1:Draws prog w A i1 fp1 n1 P1 St1)(D2:Draws prog w A i2 fp2 n2 P2 St2)(Z:ZAp z TI TO i1 i2 fp1 fp2)(hz:IsZip s.heap z TI TO .none)(hTI:IsPair s.heap TI (.ref i1) (.ref i2))(hTO:IsPair s.heap TO a b)
  (st1:St1 k s.heap) (st2:St2 k s.heap) (k1:k<n1) (k2:k<n2)
  (hQ:∀x y h' tk,P1 k x->P2 k y->IsZip h' z TI TO (rawInt s.heap.objs.size)->IsPair h' TO x y->St1 (k+1) h'->St2 (k+1) h'->IsPair h' s.heap.objs.size x y->h'.objs.size=s.heap.objs.size+1->
   (∀c o,c∉[z,TO,i1,i2]->s.heap.get? c=some o->h'.get? c=some o)->Q (.ref s.heap.objs.size) { s with heap:=h',toks:=tk }) :
  wpAny (model prog w) A (Builtin.«zip.__next__» ⟨[.ref z],[]⟩) (λfin s'=>∃v,fin = .done (.ret v)/\Q v s') E s:=by
 refine W2 (m:=field (.ref z) 2) (Ve hz rfl (x:=.bool false) rfl (W2 (m:=field (.ref z) 3) (Ve hz rfl (x:=.ref TI) rfl (W2 (Vs hTI rfl ?_)))))
 refine W2 (m:=Vq (.ref z)) ?_
 unfold Vq
 refine W2 (Ve hz rfl (x:=.none) rfl (Wk ?_))
 simp only [if_true]
 refine W2 (W19 (W2 (Ve hz rfl (x:=.ref TO) rfl (W2 (VR hz (by simp) λg1 hz1 sb1=>W2 ?_)))))
 have hz1':IsZip g1 z TI TO .ellipsis:=hz1
 simp only [List.zipIdx_cons,List.zipIdx_nil,W0L,List.forIn_nil]
 refine W2 (W2 (wpAny_onRaise (W2 (m:=Vo (.ref i1)) ?_)))
 refine D1.item k _ _ _ k1 (QF D1 st1 sb1 Z.b2) λx g2 t2 hx st1' sb2=>Wk ?_
 have to2:IsPair g2 TO a b:=sb2.extBut _ _ Z.a8 (sb1.extBut _ _ Z.a2 hTO)
 refine W2 (Vs to2 rfl (W2 (W0D to2 λg3 to3 sb3=>W2 (W0e (Wk ?_)))))
 have to3':IsPair g3 TO x b:=to3
 refine W2 (W2 (wpAny_onRaise (W2 (m:=Vo (.ref i2)) ?_)))
 refine D2.item k _ _ _ k2 (QF D2 (QF D2 (QF D2 st2 sb1 Z.b3) sb2 Z.b6) sb3 Z.b5) λy g4 t4 hy st2' sb4=>Wk ?_
 have to4:IsPair g4 TO x b:=sb4.extBut _ _ Z.a9 to3'
 refine W2 (Vs to4 rfl (W2 (W0D to4 λg5 to5 sb5=>W2 (W0e (Wk (Wk ?_))))))
 have to5':IsPair g5 TO x y:=to5
 refine W2 (Vs to5' rfl (W2 (wpAny_newTuple ?_)))
 have size5:g5.objs.size=s.heap.objs.size:=by rw [sb5.1,sb4.1,sb3.1,sb2.1,sb1.1]
 have z5:IsZip g5 z TI TO .ellipsis:=sb5.extBut _ _ Z.a2.symm (sb4.extBut _ _ Z.a4.symm (sb3.extBut _ _ Z.a2.symm (sb2.extBut _ _ Z.a3.symm hz1')))
 have kept5:∀c o,c∉[z,TO,i1,i2]->s.heap.get? c=some o->g5.get? c=some o:=λc o hc e=>by
  simp only [WD,WI,or_false,not_or] at hc
  exact sb5.extBut _ _ hc.2.1 (sb4.extBut _ _ hc.2.2.2 (sb3.extBut _ _ hc.2.1 (sb2.extBut _ _ hc.2.2.1 (sb1.extBut _ _ hc.1 e))))
 have s15:St1 (k+1) g5:=QF D1 (QF D1 (QF D1 st1' sb3 Z.b4) sb4 Z.b7) sb5 Z.b4
 have s25:St2 (k+1) g5:=QF D2 st2' sb5 Z.b5
 have ltz:z<g5.objs.size:=Ws z5
 refine W2 (m:=W0c (.ref z) (.ref g5.objs.size)) ?_
 unfold W0c
 have z6:IsZip (g5.push { cls:=.type "tuple",data:=.seq #[x,y] }) z TI TO .ellipsis:=W7 _ z5
 refine W2 (VR z6 (by simp) λg7 z7 sb7=>?_)
 have z7':IsZip g7 z TI TO (rawInt g5.objs.size):=z7
 refine VR z7' (by simp) λg8 z8 sb8=>?_
 have z8':IsZip g8 z TI TO (rawInt g5.objs.size):=z8
 have up8:∀c o,c≠z->g5.get? c=some o->g8.get? c=some o:=λc o hc e=>sb8.extBut _ _ hc (sb7.extBut _ _ hc (W7 _ e))
 have new8:IsPair g8 g5.objs.size x y:=sb8.extBut _ _ (W0z ltz) (sb7.extBut _ _ (W0z ltz) (Wv _ rfl))
 have size8:g8.objs.size=g5.objs.size+1:=by rw [sb8.1,sb7.1,Vr]
 rw [size5] at z8' new8 size8
 refine Wk ⟨_,rfl,?_⟩
 show Q (.ref g5.objs.size) _
 rw [size5]
 exact hQ x y g8 _ hx hy z8' (up8 _ _ Z.a2 to5') (D1.frame _ _ _ s15 λc hc o e=>up8 c o (JU Z.b2 c hc) e) (D2.frame _ _ _ s25 λc hc o e=>up8 c o (JU Z.b3 c hc) e) new8 size8
  λc o hc e=>up8 c o (λq=>hc (by simp [q])) (kept5 c o hc e)
theorem Mr {Q:PySem.Fin->Shared->Prop}(D1:Draws prog w A i1 fp1 n1 P1 St1)(D2:Draws prog w A i2 fp2 n2 P2 St2)(Z:ZAp z TI TO i1 i2 fp1 fp2)(hz:IsZip s.heap z TI TO .none)(hTI:IsPair s.heap TI (.ref i1) (.ref i2))(hTO:IsPair s.heap TO a b)
  (st1:St1 k s.heap) (st2:St2 k s.heap) (hk:k=n1\/(k<n1/\k=n2))
  (hE:∀h' e tk,(∀c o,c∉[z,TO,i1,i2]->s.heap.get? c=some o->h'.get? c=some o)->(∃o,h'.get? e=some o/\o.cls = .type "StopIteration")->E (.ref e) { s with heap:=h',toks:=tk }) :
  wpAny (model prog w) A (Builtin.«zip.__next__» ⟨[.ref z],[]⟩) Q E s:=by
 refine W2 (m:=field (.ref z) 2) (Ve hz rfl (x:=.bool false) rfl (W2 (m:=field (.ref z) 3) (Ve hz rfl (x:=.ref TI) rfl (W2 (Vs hTI rfl ?_)))))
 refine W2 (m:=Vq (.ref z)) ?_
 unfold Vq
 refine W2 (Ve hz rfl (x:=.none) rfl (Wk ?_))
 simp only [if_true]
 refine W2 (W19 (W2 (Ve hz rfl (x:=.ref TO) rfl (W2 (VR hz (by simp) λg1 hz1 sb1=>W2 ?_)))))
 have hz1':IsZip g1 z TI TO .ellipsis:=hz1
 simp only [List.zipIdx_cons,List.zipIdx_nil,W0L,List.forIn_nil]
 refine W2 (W2 (wpAny_onRaise (W2 (m:=Vo (.ref i1)) ?_)))
 have fin:∀{g:Heap} {e:Addr} {tk:Nat},IsZip g z TI TO .ellipsis->(∀c o,c∉[z,TO,i1,i2]->s.heap.get? c=some o->g.get? c=some o)->(∃o,g.get? e=some o/\o.cls = .type "StopIteration")->
   ∀(h':Heap),VU z g h'->E (.ref e) { s with heap:=h',toks:=tk }:=by
  intro g e tk gz gk ⟨oe,he,ce⟩ h' sb
  have ez:e≠z:=λq=>by subst q;rw [gz] at he;cases he;simp at ce
  exact hE h' e tk (λc o hc q=>sb.extBut _ _ (λr=>hc (by simp [r])) (gk c o hc q)) ⟨oe,sb.extBut _ _ ez he,ce⟩
 rcases hk with rfl|⟨k1,rfl⟩
 ·refine D1.done _ _ _ (QF D1 st1 sb1 Z.b2) λg2 e sb2 he=>?_
  have z2:IsZip g2 z TI TO .ellipsis:=sb2 _ _ Z.a3.symm hz1'
  refine VR z2 (by simp) λg3 _ sb3=>fin z2 (λc o hc q=>?_) he g3 sb3
  simp only [WD,WI,or_false,not_or] at hc
  exact sb2 _ _ hc.2.2.1 (sb1.extBut _ _ hc.1 q)
 ·refine D1.item k _ _ _ k1 (QF D1 st1 sb1 Z.b2) λx g2 t2 hx st1' sb2=>Wk ?_
  have to2:IsPair g2 TO a b:=sb2.extBut _ _ Z.a8 (sb1.extBut _ _ Z.a2 hTO)
  refine W2 (Vs to2 rfl (W2 (W0D to2 λg3 to3 sb3=>W2 (W0e (Wk ?_)))))
  refine W2 (W2 (wpAny_onRaise (W2 (m:=Vo (.ref i2)) ?_)))
  refine D2.done _ _ _ (QF D2 (QF D2 (QF D2 st2 sb1 Z.b3) sb2 Z.b6) sb3 Z.b5) λg4 e sb4 he=>?_
  have z4:IsZip g4 z TI TO .ellipsis:=sb4 _ _ Z.a4.symm (sb3.extBut _ _ Z.a2.symm (sb2.extBut _ _ Z.a3.symm hz1'))
  refine VR z4 (by simp) λg5 _ sb5=>fin z4 (λc o hc q=>?_) he g5 sb5
  simp only [WD,WI,or_false,not_or] at hc
  exact sb4 _ _ hc.2.2.2 (sb3.extBut _ _ hc.2.1 (sb2.extBut _ _ hc.2.2.1 (sb1.extBut _ _ hc.1 q)))
theorem GT {Q:Option Value->Shared->Prop}(D1:Draws prog w A.in1 i1 fp1 n1 P1 St1)(D2:Draws prog w A.in1 i2 fp2 n2 P2 St2)(Z:ZAp z TI TO i1 i2 fp1 fp2)(hz:IsZip s.heap z TI TO .none)(hTI:IsPair s.heap TI (.ref i1) (.ref i2))(hTO:IsPair s.heap TO a b)
  (st1:St1 k s.heap) (st2:St2 k s.heap) (k1:k<n1) (k2:k<n2)
  (hQ:∀x y h' tk,P1 k x->P2 k y->IsZip h' z TI TO (rawInt s.heap.objs.size)->IsPair h' TO x y->St1 (k+1) h'->St2 (k+1) h'->IsPair h' s.heap.objs.size x y->h'.objs.size=s.heap.objs.size+1->
   (∀c o,c∉[z,TO,i1,i2]->s.heap.get? c=some o->h'.get? c=some o)->Q (some (.ref s.heap.objs.size)) { s with heap:=h',toks:=tk }) :
  wpAny (model prog w) A (pyNext (.ref z)) Q E s:=by
 have hT:s.TypeIs (.ref z) "zip":=⟨_,hz,rfl⟩
 unfold pyNext
 refine W2 (wpAny_attempt (V9 (name:=Wm "__next__") hT W0O (VN W0O hT F.entry_zip_next ?_ (F.args_zip_next_1 _))))
 exact Bg D1 D2 Z hz hTI hTO st1 st2 k1 k2 λx y h' tk c1 c2 c3 c4 c5 c6 c7 c8 c9=>Wk (hQ x y h' tk c1 c2 c3 c4 c5 c6 c7 c8 c9)
theorem BZ {Q:Option Value->Shared->Prop}(D1:Draws prog w A.in1 i1 fp1 n1 P1 St1)(D2:Draws prog w A.in1 i2 fp2 n2 P2 St2)(Z:ZAp z TI TO i1 i2 fp1 fp2)(hz:IsZip s.heap z TI TO .none)(hTI:IsPair s.heap TI (.ref i1) (.ref i2))(hTO:IsPair s.heap TO a b)
  (st1:St1 k s.heap) (st2:St2 k s.heap) (hk:k=n1\/(k<n1/\k=n2)) (hQ:∀h' tk,(∀c o,c∉[z,TO,i1,i2]->s.heap.get? c=some o->h'.get? c=some o)->Q none { s with heap:=h',toks:=tk }) :
  wpAny (model prog w) A (pyNext (.ref z)) Q E s:=by
 have hT:s.TypeIs (.ref z) "zip":=⟨_,hz,rfl⟩
 unfold pyNext
 refine W2 (wpAny_attempt (V9 (name:=Wm "__next__") hT W0O (VN W0O hT F.entry_zip_next ?_ (F.args_zip_next_1 _))))
 refine Mr D1 D2 Z hz hTI hTO st1 st2 hk λh' e tk kp ⟨o,ho,hc⟩=>?_
 exact W2 (wpAny_isInstance (T:="StopIteration") (b:=true) ⟨o,ho,hc⟩ isSubtype_stop (Wk (hQ h' tk kp)))
end
def J4:Bool->String
 |true=>"list_iterator"
 |false=>"tuple_iterator"
def Mj (sk:Bool)(h:Heap)(it l:Addr)(k:Nat):Prop:=match sk with|true=>h.IsListIter it l k|false=>h.IsTupleIter it l k
def Ba (sk:Bool)(h:Heap)(l:Addr)(items:Array Value):Prop:=match sk with|true=>h.IsList l items|false=>h.IsTuple l items
theorem QX (sk:Bool)(hh:A.handled=none)(it l:Addr)(hne:l≠it)(items:Array Value):Draws prog w A it [it,l] items.size (λi v=>items[i]? = some v) (λi h=>Mj sk h it l i/\Ba sk h l items):=by
 cases sk
 ·exact B4 hh it l hne items
 ·exact PySem.Draws.list hh it l hne items
theorem Gn (sk:Bool){l:Addr}{items:Array Value}{Q:Value->Shared->Prop}(hl:Ba sk s.heap l items)(hQ:Q (.ref s.heap.objs.size) { s with heap:=s.heap.push { cls:=.type (J4 sk),data:=.fields #[.ref l,.int 0 0] } }) :
  wpAny (model prog w) A (pyIter (.ref l)) Q E s:=by
 cases sk
 ·exact W02 hl hQ
 ·exact W09 hl hQ
theorem Ba.push {sk:Bool}{h:Heap}{l:Addr}{items:Array Value}(x:Ba sk h l items)(o:Obj):Ba sk (h.push o) l items:=by
 cases sk
 ·obtain⟨q,e,r⟩:=x
  exact⟨q,W7 _ e,r⟩
 ·exact Heap.IsList.push x _
theorem Mj.new {sk:Bool}{h:Heap}{it l:Addr}(e:h.get? it=some { cls:=.type (J4 sk),data:=.fields #[.ref l,.int 0 0] }):Mj sk h it l 0:=by
 cases sk
 ·exact⟨_,e,rfl,rfl⟩
 ·exact⟨_,e,rfl,rfl⟩
def zh (h:Heap)(c1 c2:Bool)(l1 l2:Addr):Heap:=
 ((((h.push { cls:=.type (J4 c1),data:=.fields #[.ref l1,.int 0 0] }).push { cls:=.type (J4 c2),data:=.fields #[.ref l2,.int 0 0] }).push { cls:=.type "tuple",data:=.seq #[.ref h.objs.size,.ref (h.objs.size+1)] }).push
  { cls:=.type "tuple",data:=.seq #[.none,.none] }).push { cls:=.type "zip",data:=.fields #[.none,.bool false,.bool false,.ref (h.objs.size+2),.ref (h.objs.size+3)] }
theorem Fg (c1 c2:Bool)(l1 l2:Addr)(xs ys:Array Value) :
  Meets (Builtin.«zip.__new__» ⟨[.type "zip",.ref l1,.ref l2],[]⟩) (λ_ R s=>Ba c1 s.heap l1 xs/\Ba c2 s.heap l2 ys/\R (.ok (.ret (.ref (s.heap.objs.size+4)))) { s with heap:=zh s.heap c1 c2 l1 l2 }):=
 .of_wp λprog w A R s h=>by
  obtain⟨hp,g,d,tk,os⟩:=s
  obtain⟨q1,q2,h⟩:=h
  have hsub:=PySem.sub_zip
  have q1':Ba c1 (Shared.heap ⟨hp,g,d,tk,os⟩) l1 xs:=q1
  have q2':Ba c2 (Shared.heap ⟨hp.push { cls:=.type (J4 c1),data:=.fields #[.ref l1,.int 0 0] },g,d,tk,os⟩) l2 ys:=Ba.push q2 _
  wp_walk using Gn c1 q1',Gn c2 q2'
  refine⟨_,rfl,?_⟩
  simp only [Vr] at h ⊢
  unfold zh at h
  exact h
end
end L2
namespace L2
open PySem PySem.Spec PyProof.Rows
theorem J7 {h:Heap}{o:Obj}{n:Nat}(e:h.objs.size=n)(f:o.isFreed=false):(h.push o).get? n=some o:=by rw [←e];exact Wv _ f
theorem Fh (h:Heap)(c1 c2:Bool)(l1 l2:Addr):IsZip (zh h c1 c2 l1 l2) (h.objs.size+4) (h.objs.size+2) (h.objs.size+3) .none/\IsPair (zh h c1 c2 l1 l2) (h.objs.size+2) (.ref h.objs.size) (.ref (h.objs.size+1))/\
  IsPair (zh h c1 c2 l1 l2) (h.objs.size+3) .none .none/\(zh h c1 c2 l1 l2).get? h.objs.size=some { cls:=.type (J4 c1),data:=.fields #[.ref l1,.int 0 0] }/\(zh h c1 c2 l1 l2).get? (h.objs.size+1)=some { cls:=.type (J4 c2),data:=.fields #[.ref l2,.int 0 0] }/\
  ∀b o,h.get? b=some o->(zh h c1 c2 l1 l2).get? b=some o:=by
 unfold zh
 have up:∀{h:Heap} {o p:Obj} {b:Addr},h.get? b=some o->(h.push p).get? b=some o:=λe=>W7 _ e
 exact⟨J7 (by simp [Vr]) rfl,up (up (J7 (by simp [Vr]) rfl)),up (J7 (by simp [Vr]) rfl),up (up (up (up (J7 rfl rfl)))),up (up (up (J7 (by simp [Vr]) rfl))),λb o e=>up (up (up (up (up e))))⟩
section
variable {prog:Program} {w:World} {A:Around} {E:Value->Shared->Prop} {s:Shared}
theorem Ma {c1 c2:Bool}{l1 l2:Addr}{xs ys:Array Value}{Q:Value->Shared->Prop}(h1:Ba c1 s.heap l1 xs)(h2:Ba c2 s.heap l2 ys)
  (h:Q (.ref (s.heap.objs.size+4)) { s with heap:=zh s.heap c1 c2 l1 l2 }):wpAny (model prog w) A (call (.type "zip") [.ref l1,.ref l2]) Q E s:=by
 refine callType_new F.called_zip (by decide) (F.typeCall_zip_2 _ _) (F.newCall_zip_2 _ _) (λobj=>F.args_object_init_3 obj _ _) F.entry_zip_new (Fg c1 c2 l1 l2 xs ys) ⟨h1,h2,?_⟩
 exact⟨⟨_,(Fh s.heap c1 c2 l1 l2).1,rfl⟩,h⟩
end
def TrS (c:Bool)(H:Hp)(l:Addr)(xs:List V):Prop:=match c with|true=>H l=some (.lst xs)|false=>H l=some (.tup xs)
theorem TrS.one {c:Bool}{H:Hp}{l:Addr}{xs ys:List V}(h:TrS c H l xs)(h':TrS c H l ys):xs=ys:=by
 cases c
 ·have h1:H l=some (.tup xs):=h
  have h2:H l=some (.tup ys):=h'
  rw [h1] at h2;cases h2;rfl
 ·have h1:H l=some (.lst xs):=h
  have h2:H l=some (.lst ys):=h'
  rw [h1] at h2;cases h2;rfl
theorem TrS.ne {c:Bool}{H:Hp}{l b:Addr}{xs:List V}(h:TrS c H l xs)(hb:H b=none):l≠b:=by
 cases c
 ·exact Zg (show H l=some (.tup xs) from h) hb
 ·exact Zg (show H l=some (.lst xs) from h) hb
theorem TrS.so {X:Cx}{pins:List (Addr×Obj)}{σ:St}{H:Hp}{s:Shared}{c:Bool}{l:Addr}{xs:List V}(I:Inv X pins σ H s)(h:TrS c H l xs):∃its:List Value,Zy xs its/\Ba c s.heap l its.toArray/\xs.length≤Wc:=by
 cases c
 ·exact I.tuple (.of h)
 ·obtain⟨its,r,pl,z⟩:=I.list (.of h)
  exact⟨its,r,pl.isList,z⟩
def Itz (c1:Bool)(l1:Addr)(c2:Bool)(l2:Addr):It:=
 ⟨λi H=>∃xs ys x y,TrS c1 H l1 xs/\TrS c2 H l2 ys/\xs[i]? = some x/\ys[i]? = some y,
 λi H v H'=>∃p x y,v = .ref p/\H p=none/\H'=upd H p (.tup [x,y])/\(∀xs,TrS c1 H l1 xs->xs[i]? = some x)/\(∀ys,TrS c2 H l2 ys->ys[i]? = some y),
 λi H=>∃xs ys,TrS c1 H l1 xs/\TrS c2 H l2 ys/\(i=xs.length\/(i<xs.length/\i=ys.length))⟩
structure ZD (z TI TO i1 i2:Addr):Prop where
 a1:TI≠z
 a2:TO≠z
 a3:i1≠z
 a4:i2≠z
 a5:TI≠TO
 a6:TI≠i1
 a7:TI≠i2
 a8:TO≠i1
 a9:TO≠i2
 b1:i1≠i2
theorem ZD.ap {z TI TO i1 i2 l1 l2:Addr}(d:ZD z TI TO i1 i2)(h1:∀b∈[z,TI,TO,i1,i2],l1≠b)(h2:∀b∈[z,TI,TO,i1,i2],l2≠b):ZAp z TI TO i1 i2 [i1,l1] [i2,l2]:=by
 simp only [WD,WI,or_false,forall_eq_or_imp,forall_eq] at h1 h2
 obtain⟨p1,p2,p3,p4,p5⟩:=h1
 obtain⟨q1,q2,q3,q4,q5⟩:=h2
 have no:∀{a b c:Addr},a≠b->a≠c->a∉[b,c]:=λx y z=>by
  simp only [WD,WI,or_false] at z
  rcases z with z|z
  ·exact x z
  ·exact y z
 exact⟨d.a1,d.a2,d.a3,d.a4,d.a5,d.a6,d.a7,d.a8,d.a9,d.b1,no d.a3.symm p1.symm,no d.a4.symm q1.symm,no d.a8 p3.symm,no d.a9 q3.symm,no d.b1 q4.symm,no d.b1.symm p5.symm⟩
theorem A7 {P:Program}{w:World}{H:Hp}{h:Heap}{p:Addr}{x y:V}{u v:Value}(e:IsPair h p u v)(rx:Zz x u)(ry:Zz y v):ZB P w H h p (.tup [x,y]):=
 ⟨by show 2≤Wc;decide,[u,v],.cons rx (.cons ry .nil),⟨⟨_,e,rfl,_,rfl⟩,_,e,rfl⟩⟩
theorem Mt {P:Program}{w:World}{K:W3}{elts:List Expr}{kt:Nat}{pt:Pos}{c1 c2:Bool}{l1 l2 z TI TO i1 i2:Addr}(d:ZD z TI TO i1 i2) :
  Turn P w K (.Tuple elts kt pt) (Itz c1 l1 c2 l2) [z,TI,TO,i1,i2] z (λi h=>IsZip h z TI TO .none/\IsPair h TI (.ref i1) (.ref i2)/\(∃a b,IsPair h TO a b)/\Mj c1 h i1 l1 i/\Mj c2 h i2 l2 i) where
 mem:=by simp
 obj:=λi h st b hb=>by
  obtain⟨hz,hTI,⟨a,b',hTO⟩,s1,s2⟩:=st
  have seq:∀{c:Bool} {it l:Addr} {k:Nat},Mj c h it l k->∃o,h.get? it=some o/\∀v,o.data≠.cell v:=λ{c it l k} q=>by
   cases c
   ·obtain⟨o,e,_,q⟩:=q
    exact⟨o,e,λv z=>by rw [q] at z;cases z⟩
   ·obtain⟨o,e,_,q⟩:=q
    exact⟨o,e,λv z=>by rw [q] at z;cases z⟩
  simp only [WD,WI,or_false] at hb
  rcases hb with rfl|rfl|rfl|rfl|rfl
  ·exact⟨_,hz,λv q=>nomatch q⟩
  ·exact⟨_,hTI,λv q=>nomatch q⟩
  ·exact⟨_,hTO,λv q=>nomatch q⟩
  ·exact seq s1
  ·exact seq s2
 keep:=λi h h' st k=>by
  obtain⟨hz,hTI,⟨a,b',hTO⟩,s1,s2⟩:=st
  have seq:∀{c:Bool} {it l:Addr} {k:Nat},(∀o,h.get? it=some o->h'.get? it=some o)->Mj c h it l k->Mj c h' it l k:=λ{c it l k} kp q=>by
   cases c
   ·obtain⟨o,e,q⟩:=q
    exact⟨o,kp o e,q⟩
   ·obtain⟨o,e,q⟩:=q
    exact⟨o,kp o e,q⟩
  exact⟨k z (by simp) _ hz,k TI (by simp) _ hTI,⟨a,b',k TO (by simp) _ hTO⟩,seq (k i1 (by simp)) s1,seq (k i2 (by simp)) s2⟩
 item:=by
  intro X hP hw hK hc i pins s σ H E I hf st hg
  subst hP hw hK
  obtain⟨xs,ys,x,y,t1,t2,hx,hy⟩:=hg
  obtain⟨hz,hTI,⟨a,b',hTO⟩,s1,s2⟩:=st
  obtain⟨its1,r1,o1,_⟩:=t1.so I
  obtain⟨its2,r2,o2,_⟩:=t2.so I
  have n1:∀b∈[z,TI,TO,i1,i2],l1≠b:=λb hb=>t1.ne (hf b hb).1
  have n2:∀b∈[z,TI,TO,i1,i2],l2≠b:=λb hb=>t2.ne (hf b hb).1
  have hh:X.A.in1.handled=none:=I.ok.hd hc
  have D1:=QX (prog:=X.prog) (w:=X.w) c1 hh i1 l1 (n1 i1 (by simp)) its1.toArray
  have D2:=QX (prog:=X.prog) (w:=X.w) c2 hh i2 l2 (n2 i2 (by simp)) its2.toArray
  have lx:i<its1.toArray.size:=by rw [Wf,←r1.length];exact (Wl.mp hx).1
  have ly:i<its2.toArray.size:=by rw [Wf,←r2.length];exact (Wl.mp hy).1
  refine GT D1 D2 (d.ap n1 n2) hz hTI hTO ⟨s1,o1⟩ ⟨s2,o2⟩ lx ly λu v h' tk p1 p2 z' to' st1 st2 new size kept=>?_
  obtain⟨u',eu,ru⟩:=r1.get hx
  obtain⟨v',ev,rv⟩:=r2.get hy
  have hu:u=u':=by
   have:its1.toArray[i]? = some u:=p1
   rw [List.getElem?_toArray,eu] at this
   exact (WQ this).symm
  have hv:v=v':=by
   have:its2.toArray[i]? = some v:=p2
   rw [List.getElem?_toArray,ev] at this
   exact (WQ this).symm
  subst hu hv
  refine⟨_,rfl,wpAny_letOwnedTupleGo_zip (s:={ s with heap:=h',toks:=tk }) z' λh'' z'' sb=>?_⟩
  have kp:∀b o,b∉[z,TI,TO,i1,i2]->s.heap.get? b=some o->h''.get? b=some o:=λb o hb e=>by
   simp only [WD,WI,or_false,not_or] at hb
   exact sb.extBut b o hb.1 (kept b o (by simp only [WD,WI,or_false,not_or];exact⟨hb.1,hb.2.2.1,hb.2.2.2.1,hb.2.2.2.2⟩) e)
  have hn:H s.heap.objs.size=none:=I.hok.fresh (Wp _)
  have zlt:z<s.heap.objs.size:=Ws hz
  have lt:∀b∈[z,TI,TO,i1,i2],b<s.heap.objs.size:=λb hb=>by
   have seq:∀{c:Bool} {it l:Addr} {k:Nat},Mj c s.heap it l k->it<s.heap.objs.size:=λ{c it l k} q=>by
    cases c
    ·obtain⟨o,e,_⟩:=q;exact Ws e
    ·obtain⟨o,e,_⟩:=q;exact Ws e
   simp only [WD,WI,or_false] at hb
   rcases hb with rfl|rfl|rfl|rfl|rfl
   ·exact zlt
   ·exact Ws hTI
   ·exact Ws hTO
   ·exact seq s1
   ·exact seq s2
  have new':IsPair h'' s.heap.objs.size u v:=sb.extBut _ _ (W0z zlt) new
  have keepTI:IsPair h'' TI (.ref i1) (.ref i2):=sb.extBut _ _ d.a1 (kept TI _ (by simp only [WD,WI,or_false,not_or];exact⟨d.a1,d.a5,d.a6,d.a7⟩) hTI)
  have seq:∀{c:Bool} {it l:Addr} {k:Nat},it≠z->Mj c h' it l k->Mj c h'' it l k:=λ{c it l k} ne q=>by
   cases c
   ·obtain⟨o,e,q⟩:=q
    exact⟨o,sb.extBut _ _ ne e,q⟩
   ·obtain⟨o,e,q⟩:=q
    exact⟨o,sb.extBut _ _ ne e,q⟩
  refine⟨.ref s.heap.objs.size,upd H s.heap.objs.size (.tup [x,y]),?_,rfl,⟨_,x,y,rfl,hn,rfl,λws h=>?_,λws h=>?_⟩,⟨z'',keepTI,⟨_,_,sb.extBut _ _ d.a2 to'⟩,seq d.a3 st1.1,seq d.a4 st2.1⟩,λb hb=>?_⟩
  ·have I1:Inv X pins σ (upd H s.heap.objs.size (.tup [x,y])) { s with heap:=s.heap.push { cls:=.type "tuple",data:=.seq #[u,v] } }:=
    I.laid (t':=s.toks) (λb o e=>W7 _ e) (Wp _) (A7 (Wv _ rfl) ru rv)
   have fin:(∀b∈[z,TI,TO,i1,i2],Mo X pins (upd H s.heap.objs.size (.tup [x,y])) b)->(∀b o,b∉[z,TI,TO,i1,i2]->(s.heap.push { cls:=.type "tuple",data:=.seq #[u,v] }).get? b=some o->h''.get? b=some o)->
     Inv X pins σ (upd H s.heap.objs.size (.tup [x,y])) { s with heap:=h'',toks:=tk }:=λa1 a2=>Inv.turnedL (s:={ s with heap:=s.heap.push { cls:=.type "tuple",data:=.seq #[u,v] } }) (h':=h'') (t':=tk) (ch:=[z,TI,TO,i1,i2]) I1 a1 a2
   refine fin (λb hb=>?_) λb o hb e=>?_
   ·obtain⟨f0,f⟩:=hf b hb
    exact⟨by rw [Za (WJ (lt b hb))];exact f0,f⟩
   ·by_cases q:b=s.heap.objs.size
    ·subst q
     rw [Wv _ rfl] at e
     cases e
     exact new'
    ·rw [Heap.get?_push_ne _ _ _ q] at e
     exact kp b o hb e
  ·rw [h.one t1];exact hx
  ·rw [h.one t2];exact hy
  ·rw [Za (WJ (lt b hb))];exact (hf b hb).1
 done:=by
  intro X hP hw hK hc i pins s σ H E I hf st hg
  subst hP hw hK
  obtain⟨xs,ys,t1,t2,hend⟩:=hg
  obtain⟨hz,hTI,⟨a,b',hTO⟩,s1,s2⟩:=st
  obtain⟨its1,r1,o1,_⟩:=t1.so I
  obtain⟨its2,r2,o2,_⟩:=t2.so I
  have n1:∀b∈[z,TI,TO,i1,i2],l1≠b:=λb hb=>t1.ne (hf b hb).1
  have n2:∀b∈[z,TI,TO,i1,i2],l2≠b:=λb hb=>t2.ne (hf b hb).1
  have hh:X.A.in1.handled=none:=I.ok.hd hc
  have D1:=QX (prog:=X.prog) (w:=X.w) c1 hh i1 l1 (n1 i1 (by simp)) its1.toArray
  have D2:=QX (prog:=X.prog) (w:=X.w) c2 hh i2 l2 (n2 i2 (by simp)) its2.toArray
  refine BZ D1 D2 (d.ap n1 n2) hz hTI hTO ⟨s1,o1⟩ ⟨s2,o2⟩ (by rw [Wf,Wf,←r1.length,←r2.length];exact hend) λh' tk kept=>⟨rfl,I.turnedL hf λb o hb e=>?_⟩
  simp only [WD,WI,or_false,not_or] at hb
  exact kept b o (by simp only [WD,WI,or_false,not_or];exact⟨hb.1,hb.2.2.1,hb.2.2.2.1,hb.2.2.2.2⟩) e
 self:=λ_ _ _ _ _ st h=>wpAny_pyIter_zip st.1 h
section
variable {X:Cx} {e1 e2:Expr} {te1 te2:TE} {p pos:Pos}
def D6 (ta:TA):TI:=λσ H R=>ta σ H λvs H1=>∃c1 l1 xs c2 l2 ys,vs=[.ref l1,.ref l2]/\TrS c1 H1 l1 xs/\TrS c2 H1 l2 ys/\R (Itz c1 l1 c2 l2) H1
theorem FU {elts:List Expr}{kt:Nat}{pt:Pos}{ta:TA}(hg:Gl X "zip")(hm:X.mg "zip" = none)(hv:Wz "zip" = some (.type "zip"))(ha:PA X [e1,e2] ta)
  (he:Wn [e1,e2] X.env=(false,eval e1 X.env) :: Wn [e2] X.env:=by rfl) (hpl:(backTo pos (Wn [e2] X.env)).any (·.1)=false:=by rfl) :
  PI X (.Tuple elts kt pt) (.Call (.Name "zip" p) [e1,e2] [] pos) (D6 ta):=by
 intro pins s σ H R I h
 refine VP (Q5 I hg hm hv ?_ (by decide) (by decide))
 refine V0 (thn (ha pos pins s σ H _ I h) λus s1 ⟨vs,H1,I1,r1,c1,l1,xs,c2,l2,ys,ev,t1,t2,q⟩=>?_) he hpl
 subst ev
 obtain⟨u1,u2,rfl,ru1,ru2⟩:=Bk r1
 cases ru1
 cases ru2
 obtain⟨its1,_,o1,_⟩:=t1.so I1
 obtain⟨its2,_,o2,_⟩:=t2.so I1
 refine Ma o1 o2 ?_
 obtain⟨z1,z2,z3,z4,z5,z6⟩:=Fh s1.heap c1 c2 l1 l2
 refine wpAny_pyIter_zip (s:={ s1 with heap:=zh s1.heap c1 c2 l1 l2 }) z1 ?_
 have ne:∀{a b:Nat},a≠b->s1.heap.objs.size+a≠s1.heap.objs.size+b:=λh q=>h (Nat.add_left_cancel q)
 refine⟨_,_,_,_,H1,rfl,I1.kept (t':=s1.toks) z6,Mt (c1:=c1) (l1:=l1) (c2:=c2) (l2:=l2) ⟨ne (by decide),ne (by decide),ne (a:=0) (by decide),ne (by decide),ne (by decide),ne (b:=0) (by decide),ne (by decide),ne (b:=0) (by decide),ne (by decide),ne (a:=0) (by decide)⟩,⟨z1,z2,⟨_,_,z3⟩,.new z4,.new z5⟩,λb hb=>?_,q⟩
 have hb':s1.heap.objs.size≤b:=by
  simp only [WD,WI,or_false] at hb
  rcases hb with rfl|rfl|rfl|rfl|rfl<;>omega
 exact I1.fpOk hb' (I1.hok.fresh hb')
end
end L2
namespace L2
open PySem PySem.Spec PyProof.Rows
theorem AR {k:Key}{u:Value}(h:Tg k u=true):Zz (kV k) u:=by
 rcases Zq h with ⟨i,t,rfl,rfl⟩|⟨x,t,rfl,rfl⟩
 ·exact⟨t,rfl⟩
 ·exact⟨t,rfl⟩
def Itk (a:Addr)(o:Obj):It:=
 ⟨λi H=>∃(kvs:List (Key×V)) (k:Key) (v:V),H a=some (.frz o (.dK kvs))/\kvs[i]? = some (k,v),
 λi H x H'=>H'=H/\∀kvs:List (Key×V),H a=some (.frz o (.dK kvs))->∃k v,kvs[i]? = some (k,v)/\x=kV k,
 λi H=>∃kvs:List (Key×V),H a=some (.frz o (.dK kvs))/\i=kvs.length⟩
theorem NV {X:Cx}{pins:List (Addr×Obj)}{σ:St}{H:Hp}{s:Shared}{a:Addr}{o:Obj}{kvs:List (Key×V)}(I:Inv X pins σ H s)(e:H a=some (.frz o (.dK kvs))){es:Array DictEntry}{ep:Nat}(hd:o.data = .dict es ep) :
  ∃vs:List (Key×Value),KV kvs vs/\s.heap.DictAt (ZL X.prog X.w) a vs ep/\es.size=vs.length:=by
 obtain⟨h1,_,_,vs,r,o',es',ep',h2,h3,h4,h5,h6,h7⟩:=(show ZB X.prog X.w H s.heap a (.frz o (.dK kvs)) from I.hok a _ e)
 rw [h1] at h2
 cases h2
 rw [hd] at h4
 cases h4
 exact⟨vs,r,⟨o,es,h1,h3,hd,h5,h6,h7⟩,by rw [←h6.length];simp⟩
theorem KV.get {κ:Type}{kvs:List (κ×V)}{vs:List (κ×Value)}(r:KV kvs vs):∀{i:Nat} {k:κ} {v:V},kvs[i]? = some (k,v)->∃u,vs[i]? = some (k,u)/\Zz v u:=by
 unfold KV at r
 induction r with
 |nil=>intro i k v e;simp at e
 | @cons p q ps qs h t ih=>
  intro i k v e
  cases i with
  |zero=>
   simp at e
   subst e
   have h1:k=q.1:=h.1
   exact⟨q.2,by rw [h1];rfl,h.2⟩
  |succ i=>simpa using ih (by simpa using e)
theorem Bn {P:Program}{w:World}{K:W3}{tg:Expr}{a it:Addr}{o:Obj}{es:Array DictEntry}{ep:Nat}(hd:o.data = .dict es ep):Turn P w K tg (Itk a o) [it] it (λi h=>h.IsKeyIter it a i es.size ep) where
 mem:=by simp
 obj:=λi h st b hb=>by
  have e:b=it:=by simpa using hb
  subst e
  obtain⟨q,e,_,d⟩:=st
  exact⟨q,e,λv z=>by rw [d] at z;cases z⟩
 keep:=λi h h' st k=>st.at λq e=>k it (by simp) q e
 item:=by
  intro X hP hw hK hc i pins s σ H E I hf st hg
  subst hP hw hK
  obtain⟨kvs,k,v,e,hx⟩:=hg
  obtain⟨vs,r,hm,hz⟩:=NV I e hd
  obtain⟨u,hu,_⟩:=r.get hx
  obtain⟨f0,f1,f2,f3,f4,f5⟩:=hf it (by simp)
  rw [hz] at st
  refine wpAny_pyNext_dict_item st hm hu λkey h' hk st' sb=>?_
  have I1:Inv X pins σ H { s with heap:=h' }:=I.turned (t':=s.toks) (λb q hb e=>(sb.2 b hb).trans e) f0 f1 f3 f4 f5
  obtain⟨q,eq,c,d⟩:=id st'
  refine⟨key,rfl,NS (s:={ s with heap:=h' }) eq c d (by decide) ⟨kV k,H,I1,AR hk,⟨rfl,λkvs' e'=>?_⟩,by rw [hz];exact st',λb hb=>(hf b hb).1⟩⟩
  rw [e] at e'
  cases e'
  exact⟨k,v,hx,rfl⟩
 done:=by
  intro X hP hw hK hc i pins s σ H E I hf st hg
  subst hP hw hK
  obtain⟨kvs,e,hx⟩:=hg
  obtain⟨vs,r,hm,hz⟩:=NV I e hd
  obtain⟨f0,f1,f2,f3,f4,f5⟩:=hf it (by simp)
  rw [hz] at st
  exact wpAny_pyNext_dict_end (I.ok.hd hc) st hm (by rw [hx,r.length];simp) λh' eb=>⟨rfl,I.turned (t':=s.toks) (λb q hb e=>eb b q hb e) f0 f1 f3 f4 f5⟩
 self:=λ_ _ _ _ _ st h=>wpAny_pyIter_keyiter st h
section
variable {X:Cx} {pins:List (Addr×Obj)} {σ:St} {H:Hp} {s:Shared} {a:Addr} {kvs:List (Key×V)} {tg:Expr} {E:Value->Shared->Prop} {R:It->Hp->Prop}
theorem Inv.freeze (I:Inv X pins σ H s)(e:H a=some (.dK kvs)):∃(o:Obj) (es:Array DictEntry) (ep:Nat),o.data = .dict es ep/\Inv X pins σ (upd H a (.frz o (.dK kvs))) s:=by
 obtain⟨z,hS,vs,r,o,es,ep,h1,h2,h3,h4⟩:=(show ZB X.prog X.w H s.heap a (.dK kvs) from I.hok a _ e)
 refine⟨o,es,ep,h3,I.view (by rw [e];exact True.intro) ⟨o,h1⟩ ⟨h1,z,hS,vs,r,o,es,ep,h1,h2,h3,h4⟩⟩
theorem BP {o:Obj}(I:Inv X pins σ H s)(e:H a=some (.frz o (.dK kvs)))(q:R (Itk a o) H):wpAny (model X.prog X.w) X.A (pyIter (.ref a)) (PIE X pins σ tg R) E s:=by
 obtain⟨h1,_,hS,_,_,o',es,ep,h2,_,hd,_⟩:=(show ZB X.prog X.w H s.heap a (.frz o (.dK kvs)) from I.hok a _ e)
 rw [h1] at h2
 cases h2
 obtain⟨vs,r,hm,hz⟩:=NV I e hd
 refine wpAny_pyIter_dict hS hm ?_
 refine⟨s.heap.objs.size,[s.heap.objs.size],_,_,H,rfl,I.kept (t':=s.toks) λb o e=>W7 _ e,Bn (a:=a) hd,⟨_,Wv _ rfl,rfl,by rw [hz];rfl⟩,λb hb=>?_,q⟩
 have eb:b=s.heap.objs.size:=by simpa using hb
 subst eb
 exact I.fpOk (Wp _) (I.hok.fresh (Wp _))
theorem Inv.notFrz (I:Inv X pins σ H s)(e:H a=some (.dK kvs)):∀o u,X.H₀ a≠some (.frz o u):=λo u z=>by
 have:=I.base.frzs a o u z
 rw [e] at this
 cases this
theorem TY (I:Inv X pins σ H s)(e:H a=some (.dK kvs))(q:∀o,(∀o u,X.H₀ a≠some (.frz o u))->R (Itk a o) (upd H a (.frz o (.dK kvs)))):wpAny (model X.prog X.w) X.A (pyIter (.ref a)) (PIE X pins σ tg R) E s:=by
 obtain⟨o,es,ep,hd,I'⟩:=I.freeze e
 exact BP I' Z5 (q o (I.notFrz e))
end
end L2
namespace L2
open PySem PySem.Spec PyProof.Rows
section
variable {prog:Program} {w:World} {A:Around} {E:Value->Shared->Prop} {s:Shared}
end
namespace DP
end DP
section
variable {X:Cx} {pins:List (Addr×Obj)} {σ:St} {A:Around}
end
end L2
namespace KS
open PySem PySem.W PyProof.Rows
section
variable {n:Nat} (hn:0<n)
include hn
end
structure Ord (lt:Nat->Nat->Bool):Prop where
 irr:∀i,lt i i=false
 tr:∀i j k,lt j i=false->lt k j=false->lt k i=false
 as:∀i j,lt i j=true->lt j i=false
section
variable {lt:Nat->Nat->Bool} (O:Ord lt) {p q:Array Nat}
include O
omit O in
omit O in
omit O in
omit O in
end
end KS
namespace L2
open PySem PySem.Spec PyProof.Rows
section
variable {prog:Program} {w:World} {A:Around} {E:Value->Shared->Prop} {s:Shared} {it d:Addr} {es:Array DictEntry} {ep i:Nat}
end
section
variable {X:Cx} {pins:List (Addr×Obj)} {σ:St} {H:Hp} {s:Shared} {a:Addr}
end
end L2
namespace HT
open PySem PySem.Spec PyProof.Rows L2
section
variable {prog:Program} {w:World} {A:Around} {E:Value->Shared->Prop} {s:Shared}
theorem getItem_tuple_all {t sl:Addr}{items:Array Value}{vl vu:Value}{lo hi:Option Int}{Q:Value->Shared->Prop}(ht:IsTup s.heap t items)(hs:s.heap.IsSliceOf sl vl vu .none)(pl:IsPart vl lo)(pu:IsPart vu hi)
  (hw:sIx items.size 0 lo=0/\sIx items.size items.size hi=items.size) (h:Q (.ref t) s):wpAny (model prog w) A (getItem (.ref t) (.ref sl)) Q E s:=by
 obtain⟨os,hos,hcs,hds⟩:=id hs
 have hTs:s.TypeIs (.ref sl) "slice":=⟨os,hos,hcs⟩
 unfold getItem
 try with_reducible refine VO ?_
 first|refine W2 (Wk ?_)|skip
 refine W2 (W18 ht.typeIs (by decide) ?_)
 refine W2 (V9 (name:=Wm "__getitem__") ht.typeIs WK
  (VN WK ht.typeIs entry_tuple_getitem ?_ (args_tuple_getitem _ _)))
 show wpAny _ _ (W0a (.ref t) >>= _) _ _ s
 refine W2 (tupleItemsOf_ ht ?_)
 refine W2 (wpAny_typeOf hTs ?_)
 rw [if_pos (by decide)]
 refine W2 (YC hs pl pu ?_)
 have hyes:(((sIx items.size 0 lo:Nat):Int) == 0&&(1:Int) == 1&&(sIx items.size items.size hi-sIx items.size 0 lo) == items.size)=true:=by
  rw [hw.1,hw.2];simp
 show wpAny _ _ (if (((sIx items.size 0 lo:Nat):Int) == 0&&(1:Int) == 1&&(sIx items.size items.size hi-sIx items.size 0 lo) == items.size)=true then _ else _) _ _ s
 rw [if_pos hyes]
 refine W2 (m:=Builtin.Tuple.tupleIsExact (.ref t)) (W2 (wpAny_typeOf ht.typeIs (Wk ?_)))
 rw [if_pos (by decide)]
 first
  |exact W2 (W19 (W2 (Wk (Wk ⟨_,rfl,Wk h⟩))))
  |exact W2 (W19 (Wk ⟨_,rfl,Wk h⟩))
end
end HT
namespace L2
open PySem PySem.Spec PyProof.Rows
section
variable {X:Cx}
def Iy (K:W3):V->Option Int->Option Int->Hp->VK->Prop:=λx lo hi H Q=>∃a xs,x = .ref a/\SqT K H a xs/\
 (HT.sIx xs.length 0 lo=0/\HT.sIx xs.length xs.length hi=xs.length)/\Q (.ref a) H
theorem PD:SlR X (Iy X.K):=by
 intro pins s σ H x v vl vu lo hi sl Q I rx hs pl pu h
 obtain⟨a,xs,rfl,hx,hw,q⟩:=h
 cases rx
 obtain⟨its,r,ht,hz⟩:=I.tuple hx
 have hlen:its.toArray.size=xs.length:=by rw [Wf];exact r.length.symm
 refine⟨"tuple",_,WK.lookup,ht.typeIs,?_⟩
 exact HT.getItem_tuple_all ht hs pl pu (by rw [hlen];exact hw) ⟨.ref a,H,I,rfl,q⟩
end
end L2
namespace L2
open PySem PySem.Spec PyProof.Rows
theorem SU {M:Model}{A:Around}{E:Value->Shared->Prop}{s:Shared}{α:Type}{m:Sem α}{Q Q':α->Shared->Prop}(h:wpAny M A m Q E s)(k:∀a s',Q a s'->Q' a s'):wpAny M A m Q' E s:=VE h k λ_ _ e=>e
section
variable {prog:Program} {w:World} {A:Around} {d:Value}
end
end L2
namespace L2
open PySem PySem.Spec PyProof.Rows
section
variable {prog:Program} {w:World} {A:Around} {d:Value}
end
end L2
namespace L2
open PySem PySem.Spec PyProof.Rows
section
variable {prog:Program} {w:World} {A:Around} {J:Nat->Heap->Prop}
end
end L2
namespace L2
open PySem PySem.Spec PyProof.Rows
section
variable {prog:Program} {w:World} {B:Around} {K:Type} [DecidableEq K]
end
end L2
namespace L2
open PySem
def pth (t:SetTable)(h:Int):Nat->SetTable.Probe
 |0=>t.probeStart h
 |k+1=>t.advance (pth t h k)
end L2
namespace L2
open PySem
abbrev SL:=List (Nat×Int×Value)
end L2
namespace L2
open PySem
end L2
namespace L2
open PySem
structure Own (t:SetTable) (hs:List Int) (ow:Array (Option Nat)) (c:Nat):Prop where
 sz:ow.size=t.mask+1
 has:∀k,k<c->∃j:Nat,ow[j]? = some (some k)
 inj:∀(j j' k:Nat),ow[j]? = some (some k)->ow[j']? = some (some k)->j=j'
 path:∀(j k:Nat),ow[j]? = some (some k)->k<c/\∃h,hs[k]? = some h/\∃q,(pth t h q).j=j/\∀q',q'<q->∃k',ow[(pth t h q').j]? = some (some k')
end L2
namespace L2
open PySem
end L2
namespace L2
open PySem PySem.Spec PyProof.Rows
section
variable {prog:Program} {w:World} {h0:Heap} {U:Nat} {K:Type} [DecidableEq K] {A:Around} {E:Value->Shared->Prop} {s:Shared}
end
end L2
namespace L2
open PySem PySem.Spec PyProof.Rows
section
variable {prog:Program} {w:World} {h0:Heap} {U:Nat} {K:Type} [DecidableEq K] {A:Around} {E:Value->Shared->Prop} {s:Shared}
end
end L2
namespace L2
open PySem PySem.Spec PyProof.Rows
theorem QE {α:Type}{l:List α}{k:Nat}(hk:k<l.length):(l[k] :: l.eraseIdx k).Perm l:=by
 rw [List.eraseIdx_eq_take_drop_succ]
 refine List.perm_middle.symm.trans ?_
 rw [List.getElem_cons_drop hk,List.take_append_drop]
section
variable {prog:Program} {w:World} {A:Around} {E:Value->Shared->Prop} {s:Shared}
end
end L2
namespace L2
open PySem PySem.Spec PyProof.Rows
section
variable {prog:Program} {w:World} {A:Around}
end
end L2
namespace DL
open PySem PySem.Spec PyProof.Rows L2
inductive D where
 |non
 |bl (b:Bool)
 |int (i:Int)
 |str (x:Str)
 |tup (xs:List D)
 |ref (n:Nat)
 |scr (ns:List Int)
 deriving Inhabited
inductive Ob where
 |lst (xs:List D)
 |dct (kvs:List (D×D))
 |fdct (kvs:List (D×D))
 |ins (C:Str) (fs:List (Str×D))
 deriving Inhabited
abbrev Sto:=List Ob
abbrev En:=List (Option D)
abbrev M (α:Type):=En->Sto->Option (α×Sto)
inductive Fl where
 |nx|rt (d:D)|bk|ct
abbrev MS:=En->Sto->Option (Fl×En×Sto)
def Kp (K:W3)(H:Hp)(a:Addr)(ns:List Int):Prop:=
 (∃o,H a=some (.frz o (.lst (ns.map V.int))))\/
  ∃(o:Obj) (its:Array Value) (n:Nat),K.lookup a=some o/\o.cls = .type "list"/\o.dict=none/\o.data = .seq its n/\its.size≤Wc/\Zy (ns.map V.int) its.toList
theorem Kp.seq {K:W3}{H:Hp}{a:Addr}{ns:List Int}(h:Kp K H a ns):SqL K H a (ns.map V.int):=by
 rcases h with ⟨o,h⟩|h
 ·exact .inl (.inr ⟨o,h⟩)
 ·exact .inr h
mutual
def DR (K:W3)(ρ:List Addr)(H:Hp):D->V->Prop
 | .non,v=>v = .non
 | .bl b,v=>v = .bl b
 | .int i,v=>v = .int i
 | .str x,v=>v = .str x
 | .tup ds,v=>∃a xs,v = .ref a/\H a=some (.tup xs)/\DsR K ρ H ds xs
 | .ref n,v=>∃a,ρ[n]? = some a/\v = .ref a
 | .scr ns,v=>∃a,v = .ref a/\Kp K H a ns
def DsR (K:W3)(ρ:List Addr)(H:Hp):List D->List V->Prop
 |[],xs=>xs=[]
 |d :: ds,xs=>∃x r,xs=x :: r/\DR K ρ H d x/\DsR K ρ H ds r
end
structure Ext (ρ:List Addr) (H:Hp) (ρ':List Addr) (H':Hp):Prop where
 pre:∀(n:Nat) a,ρ[n]? = some a->ρ'[n]? = some a
 tup:∀a xs,H a=some (.tup xs)->H' a=some (.tup xs)
 frz:∀a o u,H a=some (.frz o u)->H' a=some (.frz o u)
theorem Ext.refl {ρ:List Addr}{H:Hp}:Ext ρ H ρ H:=⟨λ_ _ h=>h,λ_ _ h=>h,λ_ _ _ h=>h⟩
theorem Ext.trans {ρ ρ1 ρ2:List Addr}{H H1 H2:Hp}(a:Ext ρ H ρ1 H1)(b:Ext ρ1 H1 ρ2 H2):Ext ρ H ρ2 H2:=
 ⟨λn x h=>b.pre n x (a.pre n x h),λx xs h=>b.tup x xs (a.tup x xs h),λx o u h=>b.frz x o u (a.frz x o u h)⟩
theorem Ext.new {ρ:List Addr}{H:Hp}{p:Addr}{o:HO}(hp:H p=none):Ext ρ H ρ (upd H p o):=
 ⟨λ_ _ h=>h,λa xs h=>by rw [Za (Zg h hp)];exact h,λa u xs h=>by rw [Za (Zg h hp)];exact h⟩
theorem Ext.newRef {ρ:List Addr}{H:Hp}{p:Addr}{o:HO}(hp:H p=none):Ext ρ H (ρ++[p]) (upd H p o):=
 ⟨λn a h=>by rw [WF (Wl.mp h).1];exact h,(Ext.new (ρ:=ρ) hp).tup,(Ext.new (ρ:=ρ) hp).frz⟩
theorem Ext.upd {ρ:List Addr}{H:Hp}{p:Addr}{o o':HO}(hp:H p=some o)(h1:∀xs,o≠.tup xs)(h2:∀ob u,o≠.frz ob u):Ext ρ H ρ (L2.upd H p o'):=
 ⟨λ_ _ h=>h,λa xs h=>by rw [Za (QN h hp (Ne.symm (h1 xs)))];exact h,λa ob u h=>by rw [Za (QN h hp (Ne.symm (h2 ob u)))];exact h⟩
structure Ext0 (ρ:List Addr) (H:Hp) (ρ':List Addr) (H':Hp):Prop where
 pre:∀(n:Nat) a,ρ[n]? = some a->ρ'[n]? = some a
 tup:∀a xs,H a=some (.tup xs)->H' a=some (.tup xs)
 lst:∀a o xs,H a=some (.frz o (.lst xs))->H' a=some (.frz o (.lst xs))
theorem Ext.weak {ρ ρ':List Addr}{H H':Hp}(e:Ext ρ H ρ' H'):Ext0 ρ H ρ' H':=⟨e.pre,e.tup,λa o xs h=>e.frz a o _ h⟩
section
variable {K:W3} {ρ ρ':List Addr} {H H':Hp}
theorem Kp.mono {a:Addr}{ns:List Int}(e:Ext0 ρ H ρ' H')(h:Kp K H a ns):Kp K H' a ns:=by
 rcases h with ⟨o,h⟩|h
 ·exact .inl ⟨o,e.lst _ _ _ h⟩
 ·exact .inr h
mutual
theorem DR.mono (e:Ext0 ρ H ρ' H'):∀(d:D) (v:V),DR K ρ H d v->DR K ρ' H' d v
 | .non,v,h=>by unfold DR at h ⊢;exact h
 | .bl b,v,h=>by unfold DR at h ⊢;exact h
 | .int i,v,h=>by unfold DR at h ⊢;exact h
 | .str x,v,h=>by unfold DR at h ⊢;exact h
 | .tup ds,v,h=>by
  unfold DR at h ⊢
  obtain⟨a,xs,h1,h2,h3⟩:=h
  exact⟨a,xs,h1,e.tup a xs h2,DsR.mono e ds xs h3⟩
 | .ref n,v,h=>by
  unfold DR at h ⊢
  obtain⟨a,h1,h2⟩:=h
  exact⟨a,e.pre n a h1,h2⟩
 | .scr ns,v,h=>by
  unfold DR at h ⊢
  obtain⟨a,h1,h2⟩:=h
  exact⟨a,h1,h2.mono e⟩
theorem DsR.mono (e:Ext0 ρ H ρ' H'):∀(ds:List D) (xs:List V),DsR K ρ H ds xs->DsR K ρ' H' ds xs
 |[],xs,h=>by unfold DsR at h ⊢;exact h
 |d :: ds,xs,h=>by
  unfold DsR at h ⊢
  obtain⟨x,r,h1,h2,h3⟩:=h
  exact⟨x,r,h1,DR.mono e d x h2,DsR.mono e ds r h3⟩
end
theorem DR.up {d:D}{v:V}(h:DR K ρ H d v)(e:Ext ρ H ρ' H'):DR K ρ' H' d v:=DR.mono e.weak d v h
theorem DsR.up {ds:List D}{xs:List V}(h:DsR K ρ H ds xs)(e:Ext ρ H ρ' H'):DsR K ρ' H' ds xs:=DsR.mono e.weak ds xs h
theorem DsR.nil:DsR K ρ H [] []:=by unfold DsR;rfl
theorem DsR.cons {d:D}{ds:List D}{x:V}{xs:List V}(h:DR K ρ H d x)(t:DsR K ρ H ds xs):DsR K ρ H (d :: ds) (x :: xs):=by
 unfold DsR;exact⟨x,xs,rfl,h,t⟩
theorem DsR.length:∀{ds:List D} {xs:List V},DsR K ρ H ds xs->ds.length=xs.length
 |[],xs,h=>by unfold DsR at h;subst h;rfl
 |d :: ds,xs,h=>by
  unfold DsR at h
  obtain⟨x,r,h1,_,h3⟩:=h
  rw [h1,V2,V2,DsR.length h3]
theorem DsR.get:∀{ds:List D} {xs:List V} {i:Nat} {d:D},DsR K ρ H ds xs->ds[i]? = some d->∃x,xs[i]? = some x/\DR K ρ H d x
 |[],_,_,_,_,e=>by simp at e
 |c :: ds,xs,i,d,h,e=>by
  unfold DsR at h
  obtain⟨x,r,h1,h2,h3⟩:=h
  subst h1
  cases i with
  |zero=>simp at e;subst e;exact⟨x,rfl,h2⟩
  |succ i=>
   obtain⟨y,e1,e2⟩:=DsR.get (i:=i) h3 (by simpa using e)
   exact⟨y,by simpa using e1,e2⟩
theorem DsR.append:∀{ds es:List D} {xs ys:List V},DsR K ρ H ds xs->DsR K ρ H es ys->DsR K ρ H (ds++es) (xs++ys)
 |[],_,xs,_,h,t=>by unfold DsR at h;subst h;exact t
 |d :: ds,_,xs,_,h,t=>by
  unfold DsR at h
  obtain⟨x,r,h1,h2,h3⟩:=h
  subst h1
  exact .cons h2 (DsR.append h3 t)
theorem DsR.drop:∀{ds:List D} {xs:List V} (n:Nat),DsR K ρ H ds xs->DsR K ρ H (ds.drop n) (xs.drop n)
 |[],xs,n,h=>by
  have e:xs=[]:=by unfold DsR at h;exact h
  subst e;simpa using h
 |d :: ds,xs,0,h=>by simpa using h
 |d :: ds,xs,n+1,h=>by
  unfold DsR at h
  obtain⟨x,r,h1,h2,h3⟩:=h
  subst h1
  exact DsR.drop n h3
theorem DsR.take:∀{ds:List D} {xs:List V} (n:Nat),DsR K ρ H ds xs->DsR K ρ H (ds.take n) (xs.take n)
 |[],xs,n,h=>by
  have e:xs=[]:=by unfold DsR at h;exact h
  subst e;simpa using h
 |d :: ds,xs,0,h=>by simpa using DsR.nil
 |d :: ds,xs,n+1,h=>by
  unfold DsR at h
  obtain⟨x,r,h1,h2,h3⟩:=h
  subst h1
  exact .cons h2 (DsR.take n h3)
theorem DsR.ints:∀(ns:List Int),DsR K ρ H (ns.map D.int) (ns.map V.int)
 |[]=>.nil
 |n :: ns=>.cons (by unfold DR;rfl) (DsR.ints ns)
theorem DR.flat_int {i:Int}:DR K ρ H (.int i) (.int i):=by unfold DR;rfl
theorem DR.flat_bl {b:Bool}:DR K ρ H (.bl b) (.bl b):=by unfold DR;rfl
theorem DR.flat_str {x:Str}:DR K ρ H (.str x) (.str x):=by unfold DR;rfl
theorem DR.flat_non:DR K ρ H .non .non:=by unfold DR;rfl
theorem DR.of_int {i:Int}{v:V}(h:DR K ρ H (.int i) v):v = .int i:=by unfold DR at h;exact h
theorem DR.of_bl {b:Bool}{v:V}(h:DR K ρ H (.bl b) v):v = .bl b:=by unfold DR at h;exact h
theorem DR.of_str {x:Str}{v:V}(h:DR K ρ H (.str x) v):v = .str x:=by unfold DR at h;exact h
theorem DR.of_non {v:V}(h:DR K ρ H .non v):v = .non:=by unfold DR at h;exact h
theorem DR.of_tup {ds:List D}{v:V}(h:DR K ρ H (.tup ds) v):∃a xs,v = .ref a/\H a=some (.tup xs)/\DsR K ρ H ds xs:=by unfold DR at h;exact h
theorem DR.tup {ds:List D}{a:Addr}{xs:List V}(h:H a=some (.tup xs))(t:DsR K ρ H ds xs):DR K ρ H (.tup ds) (.ref a):=by unfold DR;exact⟨a,xs,rfl,h,t⟩
theorem DR.of_ref {n:Nat}{v:V}(h:DR K ρ H (.ref n) v):∃a,ρ[n]? = some a/\v = .ref a:=by unfold DR at h;exact h
theorem DR.ref {n:Nat}{a:Addr}(h:ρ[n]? = some a):DR K ρ H (.ref n) (.ref a):=by unfold DR;exact⟨a,h,rfl⟩
theorem DR.of_scr {ns:List Int}{v:V}(h:DR K ρ H (.scr ns) v):∃a,v = .ref a/\Kp K H a ns:=by unfold DR at h;exact h
end
def Qz:D->Option Key
 | .int i=>some (.inl i)
 | .str x=>some (.inr x)
 |_=>none
def Ls:List D->Option (List Key)
 |[]=>some []
 |d :: ds=>(Qz d).bind λk=>(Ls ds).map λks=>k :: ks
def YY:D->Option (List Key)
 | .tup ds=>Ls ds
 |_=>none
def kEq (a b:D):Bool:=match Qz a,Qz b with
 |some x,some y=>decide (x=y)
 |_,_=>match YY a,YY b with
  |some x,some y=>decide (x=y)
  |_,_=>false
def Tv (kvs:List (D×D))(k:D):Option D:=(kvs.find? λp=>kEq p.1 k).map (·.2)
def Gy (kvs:List (D×D))(k v:D):List (D×D):=if (kvs.any λp=>kEq p.1 k)=true then kvs.map (λp=>if kEq p.1 k=true then (p.1,v) else p) else kvs++[(k,v)]
def YR (kvs:List (D×D))(k:D):Bool:=match Qz k with
 |some _=>kvs.all λp=>(Qz p.1).isSome
 |none=>match YY k with
  |some _=>kvs.all λp=>(YY p.1).isSome
  |none=>false
def M2 (S:Sto)(n:Nat)(k:D):Option (List (D×D)):=match S[n]? with
 |some (.dct kvs)=>if YR kvs k=true then some kvs else none
 |some (.fdct kvs)=>if (Qz k).isSome=true then some kvs else none
 |_=>none
def LM (S:Sto)(n:Nat):Bool:=match S[n]? with
 |some (.dct _)=>true
 |some (.fdct _)=>true
 |_=>false
def ObR (K:W3)(ρ:List Addr)(H:Hp)(a:Addr):Ob->Prop
 | .lst ds=>∃xs,H a=some (.lst xs)/\DsR K ρ H ds xs
 | .dct kvs=>(∃(ks:List Key) (xs:List V),H a=some (.dK (ks.zip xs))/\ks.length=xs.length/\kvs.map (λp=>Qz p.1)=ks.map some/\DsR K ρ H (kvs.map (·.2)) xs)\/
   ∃(ks:List (List Key)) (xs:List V),H a=some (.dT (ks.zip xs))/\ks.length=xs.length/\kvs.map (λp=>YY p.1)=ks.map some/\DsR K ρ H (kvs.map (·.2)) xs
 | .fdct kvs=>∃(o:Obj) (ks:List Key) (xs:List V),H a=some (.frz o (.dK (ks.zip xs)))/\ks.length=xs.length/\kvs.map (λp=>Qz p.1)=ks.map some/\DsR K ρ H (kvs.map (·.2)) xs
 | .ins C fs=>∃(Ca dx:Addr) (xs:List V),WH K Wy C=some (some (.ref Ca))/\H a=some (.ins Ca dx ((fs.map (·.1)).zip xs))/\DsR K ρ H (fs.map (·.2)) xs
structure StR (K:W3) (ρ:List Addr) (H:Hp) (S:Sto):Prop where
 len:ρ.length=S.length
 inj:∀(i j:Nat) a,ρ[i]? = some a->ρ[j]? = some a->i=j
 ob:∀(n:Nat) ob,S[n]? = some ob->∃a,ρ[n]? = some a/\ObR K ρ H a ob
structure EnR (K:W3) (ρ:List Addr) (H:Hp) (en:En) (σ:L2.St):Prop where
 len:en.length=σ.length
 get:∀(i:Nat) d,en[i]? = some (some d)->∃x,σ[i]? = some (some x)/\DR K ρ H d x
section
variable {K:W3} {ρ ρ':List Addr} {H H':Hp} {S:Sto} {en:En} {σ:L2.St}
theorem ObR.mono {a:Addr}{ob:Ob}(h:ObR K ρ H a ob)(e:Ext0 ρ H ρ' H')(he:H' a=H a):ObR K ρ' H' a ob:=by
 cases ob with
 |lst ds=>
  obtain⟨xs,h1,h2⟩:=h
  exact⟨xs,he.trans h1,DsR.mono e _ _ h2⟩
 |dct kvs=>
  rcases h with ⟨ks,xs,h1,h2,h3,h4⟩|⟨ks,xs,h1,h2,h3,h4⟩
  ·exact .inl ⟨ks,xs,he.trans h1,h2,h3,DsR.mono e _ _ h4⟩
  ·exact .inr ⟨ks,xs,he.trans h1,h2,h3,DsR.mono e _ _ h4⟩
 |fdct kvs=>
  obtain⟨o,ks,xs,h1,h2,h3,h4⟩:=h
  exact⟨o,ks,xs,he.trans h1,h2,h3,DsR.mono e _ _ h4⟩
 |ins C fs=>
  obtain⟨Ca,dx,xs,h1,h2,h3⟩:=h
  exact⟨Ca,dx,xs,h1,he.trans h2,DsR.mono e _ _ h3⟩
theorem ObR.there {a:Addr}{ob:Ob}(h:ObR K ρ H a ob):∃o,H a=some o:=by
 cases ob with
 |lst ds=>obtain⟨xs,h1,_⟩:=h;exact⟨_,h1⟩
 |dct kvs=>rcases h with ⟨ks,xs,h1,_⟩|⟨ks,xs,h1,_⟩<;>exact⟨_,h1⟩
 |fdct kvs=>obtain⟨o,ks,xs,h1,_⟩:=h;exact⟨_,h1⟩
 |ins C fs=>obtain⟨Ca,dx,xs,_,h1,_⟩:=h;exact⟨_,h1⟩
theorem ObR.tracked {a:Addr}{ob:Ob}(h:ObR K ρ H a ob)(hf:∀kvs,ob≠.fdct kvs):∃o,H a=some o/\(∀xs,o≠.tup xs)/\∀ob u,o≠.frz ob u:=by
 cases ob with
 |lst ds=>
  obtain⟨xs,h1,_⟩:=h
  exact⟨_,h1,λ_ z=>(nomatch z),λ_ _ z=>(nomatch z)⟩
 |dct kvs=>
  rcases h with ⟨ks,xs,h1,_⟩|⟨ks,xs,h1,_⟩
  ·exact⟨_,h1,λ_ z=>(nomatch z),λ_ _ z=>(nomatch z)⟩
  ·exact⟨_,h1,λ_ z=>(nomatch z),λ_ _ z=>(nomatch z)⟩
 |fdct kvs=>exact absurd rfl (hf kvs)
 |ins C fs=>
  obtain⟨Ca,dx,xs,_,h1,_⟩:=h
  exact⟨_,h1,λ_ z=>(nomatch z),λ_ _ z=>(nomatch z)⟩
theorem StR.obj (R:StR K ρ H S){n:Nat}{a:Addr}(h:ρ[n]? = some a):∃ob,S[n]? = some ob/\ObR K ρ H a ob:=by
 have hl:n<S.length:=by rw [←R.len];exact (Wl.mp h).1
 obtain⟨a',h1,h2⟩:=R.ob n S[n] (Wl.mpr ⟨hl,rfl⟩)
 rw [h] at h1;cases h1
 exact⟨S[n],Wl.mpr ⟨hl,rfl⟩,h2⟩
theorem StR.mono (R:StR K ρ H S)(e:Ext0 ρ H ρ H')(he:∀(n:Nat) a,ρ[n]? = some a->H' a=H a):StR K ρ H' S:=
 ⟨R.len,R.inj,λn ob h=>by
  obtain⟨a,h1,h2⟩:=R.ob n ob h
  exact⟨a,h1,h2.mono e (he n a h1)⟩⟩
theorem StR.fresh (R:StR K ρ H S){p:Addr}(hp:H p=none):∀(n:Nat) a,ρ[n]? = some a->a≠p:=λn a h z=>by
 obtain⟨ob,_,h2⟩:=R.obj h
 obtain⟨o,h3⟩:=h2.there
 rw [z,hp] at h3;cases h3
theorem StR.new (R:StR K ρ H S){p:Addr}{o:HO}(hp:H p=none):StR K ρ (upd H p o) S:=
 R.mono (Ext.new hp).weak λn a h=>Za (R.fresh hp n a h)
theorem StR.push (R:StR K ρ H S){p:Addr}{o:HO}{ob:Ob}(hp:H p=none)(h:ObR K (ρ++[p]) (upd H p o) p ob):StR K (ρ++[p]) (upd H p o) (S++[ob]):=by
 refine⟨by simp [R.len],λi j a h1 h2=>?_,λn ob' e=>?_⟩
 ·have key:∀(i:Nat),(ρ++[p])[i]? = some a->(i<ρ.length/\ρ[i]? = some a)\/(i=ρ.length/\a=p):=λi e=>by
   by_cases hi:i<ρ.length
   ·rw [WF hi] at e;exact .inl ⟨hi,e⟩
   ·rw [WP (W00 hi)] at e
    have hl:=(Wl.mp e).1
    simp at hl
    have e0:i-ρ.length=0:=by omega
    rw [e0] at e;simp at e
    exact .inr ⟨by omega,e.symm⟩
  rcases key i h1 with ⟨_,q1⟩|⟨q1,r1⟩<;>rcases key j h2 with ⟨_,q2⟩|⟨q2,r2⟩
  ·exact R.inj i j a q1 q2
  ·exact absurd r2 (R.fresh hp i a q1)
  ·exact absurd r1 (R.fresh hp j a q2)
  ·rw [q1,q2]
 ·by_cases hn:n<S.length
  ·rw [WF hn] at e
   obtain⟨a,h1,h2⟩:=R.ob n ob' e
   exact⟨a,by rw [WF (by rw [R.len];exact hn)];exact h1,h2.mono (Ext.newRef hp).weak (Za (R.fresh hp n a h1))⟩
  ·rw [WP (W00 hn)] at e
   have hl:=(Wl.mp e).1
   simp at hl
   have e0:n-S.length=0:=by omega
   rw [e0] at e;simp at e
   subst e
   refine⟨p,?_,h⟩
   rw [WP (by rw [R.len];omega),R.len,e0]
   rfl
theorem StR.set0 (R:StR K ρ H S){n:Nat}{p:Addr}{o:HO}{ob:Ob}(hn:ρ[n]? = some p)(X:Ext0 ρ H ρ (upd H p o))(h:ObR K ρ (upd H p o) p ob):StR K ρ (upd H p o) (S.set n ob):=by
 obtain⟨ob0,e0,r0⟩:=R.obj hn
 refine⟨by simpa using R.len,R.inj,λm ob' e=>?_⟩
 by_cases hm:m=n
 ·subst hm
  rw [Vj (Wl.mp e0).1] at e
  cases e
  exact⟨p,hn,h⟩
 ·rw [Vi (Ne.symm hm)] at e
  obtain⟨a,h1,h2⟩:=R.ob m ob' e
  refine⟨a,h1,h2.mono X (Za ?_)⟩
  rintro rfl
  exact hm (R.inj m n _ h1 hn)
theorem StR.set (R:StR K ρ H S){n:Nat}{p:Addr}{o:HO}{ob:Ob}(hn:ρ[n]? = some p)(hf:∀kvs,S[n]?≠some (.fdct kvs))(h:ObR K ρ (upd H p o) p ob):StR K ρ (upd H p o) (S.set n ob)/\Ext ρ H ρ (upd H p o):=by
 obtain⟨ob0,e0,r0⟩:=R.obj hn
 obtain⟨o0,t1,t2,t3⟩:=r0.tracked λkvs z=>hf kvs (by rw [e0,z])
 have X:Ext ρ H ρ (upd H p o):=Ext.upd t1 t2 t3
 exact⟨R.set0 hn X.weak h,X⟩
theorem StR.thaw (R:StR K ρ H S){n:Nat}{a:Addr}{kvs:List (D×D)}(hn:ρ[n]? = some a)(e:S[n]? = some (.fdct kvs)):∃(o:Obj) (tab:List (Key×V)),H a=some (.frz o (.dK tab))/\StR K ρ (upd H a (.dK tab)) (S.set n (.dct kvs))/\Ext0 ρ H ρ (upd H a (.dK tab)):=by
 obtain⟨ob,e1,r⟩:=R.obj hn
 rw [e] at e1
 cases e1
 obtain⟨o,ks,xs,h1,h2,h3,h4⟩:=r
 have X:Ext0 ρ H ρ (upd H a (.dK (ks.zip xs))):=⟨λ_ _ h=>h,λb ys hb=>by rw [Za (QN hb h1 (λz=>nomatch z))];exact hb,λb o' ys hb=>by rw [Za (QN hb h1 (λz=>by injection z with _ z2;cases z2))];exact hb⟩
 exact⟨o,_,h1,R.set0 hn X (.inl ⟨ks,xs,Z5,h2,h3,DsR.mono X _ _ h4⟩),X⟩
theorem EnR.up0 (E:EnR K ρ H en σ)(e:Ext0 ρ H ρ' H'):EnR K ρ' H' en σ:=⟨E.len,λi d h=>by
 obtain⟨x,h1,h2⟩:=E.get i d h
 exact⟨x,h1,DR.mono e _ _ h2⟩⟩
theorem EnR.up (E:EnR K ρ H en σ)(e:Ext ρ H ρ' H'):EnR K ρ' H' en σ:=⟨E.len,λi d h=>by
 obtain⟨x,h1,h2⟩:=E.get i d h
 exact⟨x,h1,h2.up e⟩⟩
theorem EnR.set (E:EnR K ρ H en σ){i:Nat}{d:D}{x:V}(h:DR K ρ H d x):EnR K ρ H (en.set i (some d)) (σ.set i (some x)):=⟨by simpa using E.len,λj c e=>by
 by_cases hj:j=i
 ·subst hj
  have hl:j<en.length:=by
   have:=(Wl.mp e).1
   simpa using this
  rw [Vj hl] at e
  cases e
  exact⟨x,by rw [Vj (by rw [←E.len];exact hl)],h⟩
 ·rw [Vi (Ne.symm hj)] at e
  obtain⟨y,h1,h2⟩:=E.get j c e
  exact⟨y,by rw [Vi (Ne.symm hj)];exact h1,h2⟩⟩
end
inductive TM (K:W3) (m:M D) (σ:L2.St) (H:Hp) (Q:VK):Prop
 |mk (ρ:List Addr) (en:En) (S:Sto) (v:D) (S':Sto) (E:EnR K ρ H en σ) (R:StR K ρ H S) (e:m en S=some (v,S')) (k:∀x ρ' H',Ext ρ H ρ' H'->StR K ρ' H' S'->DR K ρ' H' v x->Q x H'):TM K m σ H Q
def tM (K:W3)(m:M D):TE:=λσ H Q=>TM K m σ H Q
def tMT (K:W3)(m:M Bool):TT:=λσ H Q=>∃ρ en S b S',EnR K ρ H en σ/\StR K ρ H S/\m en S=some (b,S')/\∀ρ' H',Ext ρ H ρ' H'->StR K ρ' H' S'->Q b H'
inductive TMA (K:W3) (m:M (List D)) (σ:L2.St) (H:Hp) (Q:List V->Hp->Prop):Prop
 |mk (ρ:List Addr) (en:En) (S:Sto) (ds:List D) (S':Sto) (E:EnR K ρ H en σ) (R:StR K ρ H S) (e:m en S=some (ds,S')) (k:∀xs ρ' H',Ext ρ H ρ' H'->StR K ρ' H' S'->DsR K ρ' H' ds xs->Q xs H'):TMA K m σ H Q
def tMA (K:W3)(m:M (List D)):TA:=λσ H Q=>TMA K m σ H Q
def tMQ (K:W3)(m:M (List D)):TE:=λσ H Q=>∃ρ en S ds S',EnR K ρ H en σ/\StR K ρ H S/\m en S=some (ds,S')/\
 ∀a xs ρ' H',Ext ρ H ρ' H'->StR K ρ' H' S'->(SqL K H' a xs\/SqT K H' a xs)->DsR K ρ' H' ds xs->Q (.ref a) H'
def tMS (K:W3)(m:MS):TS:=λD σ H=>∃ρ en S f en' S',EnR K ρ H en σ/\StR K ρ H S/\m en S=some (f,en',S')/\∀ρ' H' σ',Ext ρ H ρ' H'->StR K ρ' H' S'->EnR K ρ' H' en' σ'->
 match f with
 | .nx=>D.nx σ' H'
 | .rt d=>∀x,DR K ρ' H' d x->D.rt x H'
 | .bk=>D.bk σ' H'
 | .ct=>D.ct σ' H'
def rD (K:W3)(g:D->D->Sto->Option (D×Sto)):R2:=λx y H Q=>∃ρ S d1 d2 v S',StR K ρ H S/\DR K ρ H d1 x/\DR K ρ H d2 y/\g d1 d2 S=some (v,S')/\
 ∀z ρ' H',Ext ρ H ρ' H'->StR K ρ' H' S'->DR K ρ' H' v z->Q z H'
def rDs (K:W3)(g:List D->Sto->Option (D×Sto)):List V->Hp->VK->Prop:=λxs H Q=>∃ρ S ds v S',StR K ρ H S/\DsR K ρ H ds xs/\g ds S=some (v,S')/\
 ∀z ρ' H',Ext ρ H ρ' H'->StR K ρ' H' S'->DR K ρ' H' v z->Q z H'
def SE (X:Cx)(e:Expr)(m:M D):Prop:=PE X e (tM X.K m)
def ST (X:Cx)(e:Expr)(m:M Bool):Prop:=PT X e (tMT X.K m)
def SW (X:Cx)(e:Expr)(m:M Bool):Prop:=PW X e (tMT X.K m)
def SA (X:Cx)(es:List Expr)(m:M (List D)):Prop:=PA X es (tMA X.K m)
def SQ (X:Cx)(e:Expr)(m:M (List D)):Prop:=PE X e (tMQ X.K m)
def SS (X:Cx)(st:Stmt)(m:MS):Prop:=PS X st (tMS X.K m)
def SB (X:Cx)(st:List Stmt)(m:MS):Prop:=PSs X st (tMS X.K m)
def OpD (X:Cx)(f:Value->Value->Sem Value)(g:D->D->Sto->Option (D×Sto)):Prop:=OpR X f (rD X.K g)
section
variable {X:Cx} {e a b c:Expr} {es:List Expr} {pos:Pos}
theorem Zm {t t':TE}(h:PE X e t)(i:∀σ H Q,t' σ H Q->t σ H Q):PE X e t':=λpins s σ H Q I q=>h pins s σ H Q I (i σ H Q q)
theorem BL {t t':TT}(h:PT X e t)(i:∀σ H Q,t' σ H Q->t σ H Q):PT X e t':=λpins s σ H Q I q=>h pins s σ H Q I (i σ H Q q)
theorem FL {t t':TT}(h:PW X e t)(i:∀σ H Q,t' σ H Q->t σ H Q):PW X e t':=λwhole pins s σ H Q I q=>h whole pins s σ H Q I (i σ H Q q)
theorem Kz {t t':TA}(h:PA X es t)(i:∀σ H Q,t' σ H Q->t σ H Q):PA X es t':=λp pins s σ H Q I q=>h p pins s σ H Q I (i σ H Q q)
theorem J8 {st:Stmt}{t t':TS}(h:PS X st t)(i:∀D σ H,t' D σ H->t D σ H):PS X st t':=λpins s σ H D I q=>h pins s σ H D I (i D σ H q)
theorem BM {st:List Stmt}{t t':TS}(h:PSs X st t)(i:∀D σ H,t' D σ H->t D σ H):PSs X st t':=λpins s σ H D I q=>h pins s σ H D I (i D σ H q)
theorem Jb {f:Value->Value->Sem Value}{r r':R2}(h:OpR X f r)(i:∀x y H Q,r' x y H Q->r x y H Q):OpR X f r':=λpins s σ H x y v u Q I rx ry q=>h pins s σ H x y v u Q I rx ry (i x y H Q q)
def Z4 (i:Nat):M D:=λen S=>(en[i]?.getD none).map λd=>(d,S)
def Zk (d:D):M D:=λ_ S=>some (d,S)
theorem FA {x:Str}(i:Nat)(h:PE X (.Name x pos) (HD i)):SE X (.Name x pos) (Z4 i):=by
 refine Zm h ?_
 rintro σ H Q ⟨ρ,en,S,v,S',E,R,e,k⟩
 have e':en[i]? = some (some v)/\S=S':=by
  unfold Z4 at e
  cases q:en[i]? with
  |none=>rw [q] at e;cases e
  |some o=>
   rw [q] at e
   cases o with
   |none=>cases e
   |some d=>cases e;exact⟨rfl,rfl⟩
 obtain⟨x,h1,h2⟩:=E.get i v e'.1
 exact⟨x,h1,k x ρ H Ext.refl (e'.2 ▸ R) h2⟩
theorem Ui {d:D}{v:V}(h:PE X e (tC v))(hd:∀ρ H,DR X.K ρ H d v):SE X e (Zk d):=by
 refine Zm h ?_
 rintro σ H Q ⟨ρ,en,S,v',S',E,R,e,k⟩
 cases e
 exact k v ρ H Ext.refl R (hd ρ H)
theorem Z6 {i j}:SE X (.Constant (.int i) j pos) (Zk (.int i)):=Ui Ky λ_ _=>.flat_int
theorem BH {i j}:SE X (.Constant (.bool i) j pos) (Zk (.bl i)):=Ui CS λ_ _=>.flat_bl
theorem YI {i j}:SE X (.Constant (.str i) j pos) (Zk (.str i)):=Ui A2 λ_ _=>.flat_str
theorem Ku {j}:SE X (.Constant .none j pos) (Zk .non):=Ui A5 λ_ _=>.flat_non
theorem BG {x:Str}{i:Int}(hg:Gl X x)(hm:∃t,X.mg x=some (.int i t))(hd:(x == ("__debug__" : Str))=false:=by decide):SE X (.Name x pos) (Zk (.int i)):=by
 obtain⟨t,hm⟩:=hm
 exact Ui (Lb (v:=V.int i) hg hm ⟨t,rfl⟩ hd) λ_ _=>.flat_int
def mOp (g:D->D->Sto->Option (D×Sto))(a b:M D):M D:=λen S=>(a en S).bind λp=>(b en p.2).bind λq=>g p.1 q.1 q.2
theorem JT {K:W3}{g:D->D->Sto->Option (D×Sto)}{ma mb:M D}{σ:L2.St}{H:Hp}{Q:VK}(h:tM K (mOp g ma mb) σ H Q):tOp (rD K g) (tM K ma) (tM K mb) σ H Q:=by
 obtain⟨ρ,en,S,v,S',E,R,e,k⟩:=h
 unfold mOp at e
 obtain⟨p,e1,e⟩:=W0.mp e
 obtain⟨q,e2,e3⟩:=W0.mp e
 refine⟨ρ,en,S,p.1,p.2,E,R,e1,λx ρ1 H1 X1 R1 d1=>⟨ρ1,en,p.2,q.1,q.2,E.up X1,R1,e2,λy ρ2 H2 X2 R2 d2=>⟨ρ2,q.2,p.1,q.1,v,S',R2,d1.up X2,d2,e3,λz ρ3 H3 X3 R3 d3=>?_⟩⟩⟩
 exact k z ρ3 H3 ((X1.trans X2).trans X3) R3 d3
theorem Zl {op:Operator}{g:D->D->Sto->Option (D×Sto)}{ma mb:M D}(ho:OpD X (binaryOp op) g)(ha:SE X a ma)(hb:SE X b mb):SE X (.BinOp a op b pos) (mOp g ma mb):=Zm (CP ho ha hb) λ_ _ _=>JT
theorem TV {op:CmpOp}{g:D->D->Sto->Option (D×Sto)}{ma mb:M D}(ho:OpD X (compareOp op) g)(ha:SE X a ma)(hb:SE X b mb)(hm:behindInMarks op b=false):SE X (.Compare a [op] [b] pos) (mOp g ma mb):=
 Zm (Lc ho ha hb hm) λ_ _ _=>JT
def mT (m:M D):M Bool:=λen S=>(m en S).bind λp=>match p.1 with | .bl b=>some (b,p.2)|_=>none
theorem Lo {m:M D}{en:En}{S S':Sto}{b:Bool}(h:mT m en S=some (b,S')):m en S=some (.bl b,S'):=by
 unfold mT at h
 obtain⟨p,e1,e2⟩:=W0.mp h
 obtain⟨d,S1⟩:=p
 cases d<;>first|cases e2;exact e1|cases e2
theorem Bs {K:W3}{m:M D}{t:TE}(i:∀σ H Q,tM K m σ H Q->t σ H Q){σ:L2.St}{H:Hp}{Q:Bool->Hp->Prop}(h:tMT K (mT m) σ H Q):Ft t σ H Q:=by
 obtain⟨ρ,en,S,b,S',E,R,e,k⟩:=h
 refine i σ H _ ⟨ρ,en,S,.bl b,S',E,R,Lo e,λx ρ' H' X1 R1 d1=>⟨b,d1.of_bl,k ρ' H' X1 R1⟩⟩
theorem QG {op:CmpOp}{g:D->D->Sto->Option (D×Sto)}{ma mb:M D}(ho:OpD X (compareOp op) g)(ha:SE X a ma)(hb:SE X b mb)(hm:behindInMarks op b=false):ST X (.Compare a [op] [b] pos) (mT (mOp g ma mb)):=
 BL (PY ho ha hb hm) λ_ _ _ h=>Bs (λ_ _ _=>JT) h
def KJ (g g':D->D->Sto->Option (D×Sto))(a b c:M D):M D:=λen S=>(a en S).bind λp=>(b en p.2).bind λq=>(g p.1 q.1 q.2).bind λr=>match r.1 with
 | .bl true=>(c en r.2).bind λw=>g' q.1 w.1 w.2
 | .bl false=>some (.bl false,r.2)
 |_=>none
def HU (a b:M Bool):M Bool:=λen S=>(a en S).bind λp=>if p.1 then b en p.2 else some (false,p.2)
def mOr (a b:M Bool):M Bool:=λen S=>(a en S).bind λp=>if p.1 then some (true,p.2) else b en p.2
def MY (a:M Bool):M Bool:=λen S=>(a en S).map λp=>(!p.1,p.2)
theorem Lf {K:W3}{ma mb:M Bool}{σ:L2.St}{H:Hp}{Q:Bool->Hp->Prop}(h:tMT K (mOr ma mb) σ H Q):tOr (tMT K ma) (tMT K mb) σ H Q:=by
 obtain⟨ρ,en,S,v,S',E,R,e,k⟩:=h
 unfold mOr at e
 obtain⟨p,e1,e⟩:=W0.mp e
 refine⟨ρ,en,S,p.1,p.2,E,R,e1,λρ1 H1 X1 R1=>?_⟩
 by_cases hp:p.1=true
 ·rw [if_pos hp] at e ⊢
  cases e
  exact k ρ1 H1 X1 R1
 ·rw [if_neg hp] at e ⊢
  exact⟨ρ1,en,p.2,v,S',E.up X1,R1,e,λρ2 H2 X2 R2=>k ρ2 H2 (X1.trans X2) R2⟩
theorem Bw {ma:M Bool}(ha:ST X a ma):SW X (.BoolOp .Or [a] pos) ma:=FK ha
theorem PC {rest:List Expr}{ma mb:M Bool}(ha:ST X a ma)(hb:SW X (.BoolOp .Or (b :: rest) pos) mb):SW X (.BoolOp .Or (a :: b :: rest) pos) (mOr ma mb):=FL (CM ha hb) λ_ _ _=>Lf
theorem CC {m:M Bool}(h:SW X e m):ST X e m:=PW.pt h
theorem Uf {ma:M Bool}(ha:ST X a ma):ST X (.UnaryOp .Not a pos) (MY ma):=by
 refine BL (FO ha) ?_
 rintro σ H Q ⟨ρ,en,S,v,S',E,R,e,k⟩
 unfold MY at e
 obtain⟨p,e1,e2⟩:=We.mp e
 cases e2
 exact⟨ρ,en,S,p.1,p.2,E,R,e1,λρ1 H1 X1 R1=>k ρ1 H1 X1 R1⟩
def GM:D->Sto->Option Bool
 | .non,_=>some false
 | .bl b,_=>some b
 | .int i,_=>some (i != 0)
 | .str x,_=>if x.length≤Wc then some ((x.length:Int) != 0) else none
 | .tup ds,_=>some (!ds.isEmpty)
 | .ref n,S=>match S[n]? with
  |some (.lst ds)=>some (!ds.isEmpty)
  |some (.dct kvs)=>some (!kvs.isEmpty)
  |some (.fdct kvs)=>some (!kvs.isEmpty)
  |_=>none
 | .scr ns,_=>some (!ns.isEmpty)
theorem Bp {K:W3}{ρ:List Addr}{H:Hp}{S:Sto}{d:D}{x:V}{b:Bool}(R:StR K ρ H S)(h:DR K ρ H d x)(e:GM d S=some b):Ko K x H b:=by
 cases d with
 |non=>rw [h.of_non];cases e;exact .inl rfl
 |bl t=>rw [h.of_bl];cases e;exact .inl rfl
 |int i=>rw [h.of_int];cases e;exact .inl rfl
 |str y=>
  rw [h.of_str]
  dsimp only [GM] at e
  split at e
  ·cases e;exact .inl ⟨by assumption,rfl⟩
  ·cases e
 |tup ds=>
  obtain⟨a,xs,rfl,h1,h2⟩:=h.of_tup
  cases e
  refine .inl (.inr (.inl ⟨xs,.of h1,?_⟩))
  cases ds<;>cases xs<;>first|rfl|(have:=h2.length;simp at this)
 |ref n=>
  obtain⟨a,h1,rfl⟩:=h.of_ref
  obtain⟨ob,e1,r⟩:=R.obj h1
  dsimp only [GM] at e
  rw [e1] at e
  cases ob with
  |lst ds=>
   cases e
   obtain⟨xs,h2,h3⟩:=r
   refine .inl (.inl ⟨xs,.of h2,?_⟩)
   cases ds<;>cases xs<;>first|rfl|(have:=h3.length;simp at this)
  |dct kvs=>
   cases e
   rcases r with ⟨ks,xs,h2,h3,h4,h5⟩|⟨ks,xs,h2,h3,h4,h5⟩
   ·refine .inl (.inr (.inr ⟨_,h2,?_⟩))
    have l1:=congrArg Vb h4
    rw [Wg,Wg] at l1
    cases kvs<;>cases ks<;>cases xs<;>simp_all
   ·refine .inr (.inl ⟨a,_,rfl,.inl h2,?_⟩)
    have l1:=congrArg Vb h4
    rw [Wg,Wg] at l1
    cases kvs<;>cases ks<;>cases xs<;>simp_all
  |fdct kvs=>
   cases e
   obtain⟨o,ks,xs,h2,h3,h4,h5⟩:=r
   refine .inr (.inr ⟨a,_,rfl,.inr ⟨o,h2⟩,?_⟩)
   have l1:=congrArg Vb h4
   rw [Wg,Wg] at l1
   cases kvs<;>cases ks<;>cases xs<;>simp_all
  |ins C fs=>cases e
 |scr ns=>
  obtain⟨a,rfl,h1⟩:=h.of_scr
  cases e
  refine .inl (.inl ⟨_,h1.seq,?_⟩)
  cases ns<;>rfl
theorem Le {rest:List Expr}{ta tb:TE}(ha:PE X a ta)(hb:PE X (.BoolOp .And (b :: rest) pos) tb):PE X (.BoolOp .And (a :: b :: rest) pos) (λσ H Q=>ta σ H λx H1=>∃k,Ko X.K x H1 k/\if k=true then tb σ H1 Q else Q x H1):=by
 intro pins s σ H Q I h
 refine BoolOp_and (thn (ha pins s σ H _ I h) λv s1 ⟨x,H1,I1,r1,k,t1,q1⟩=>thn (Bo pins s1 σ H1 x v (λc H2=>H2=H1/\c=k) I1 r1 ⟨k,t1,rfl,rfl⟩) λc s2 ⟨H2,I2,e1,e2⟩=>?_)
 subst e1 e2
 cases c with
 |true=>exact hb pins s2 σ H2 Q I2 q1
 |false=>exact⟨x,H2,I2,r1,q1⟩
def Pt (a b:M D):M D:=λen S=>(a en S).bind λp=>(GM p.1 p.2).bind λt=>if t then b en p.2 else some (p.1,p.2)
def vOr (a b:M D):M D:=λen S=>(a en S).bind λp=>(GM p.1 p.2).bind λt=>if t then some (p.1,p.2) else b en p.2
def HC (a:M D):M D:=λen S=>(a en S).bind λp=>(GM p.1 p.2).map λt=>(.bl (!t),p.2)
theorem Kt {op}{m:M D}(h:SE X a m):SE X (.BoolOp op [a] pos) m:=A4 h
theorem BI {rest:List Expr}{ma mb:M D}(ha:SE X a ma)(hb:SE X (.BoolOp .And (b :: rest) pos) mb):SE X (.BoolOp .And (a :: b :: rest) pos) (Pt ma mb):=by
 refine Zm (Le ha hb) ?_
 rintro σ H Q ⟨ρ,en,S,v,S',E,R,e,k⟩
 unfold Pt at e
 obtain⟨p,e1,e⟩:=W0.mp e
 obtain⟨t,e2,e⟩:=W0.mp e
 refine⟨ρ,en,S,p.1,p.2,E,R,e1,λx ρ1 H1 X1 R1 d1=>⟨t,Bp R1 d1 e2,?_⟩⟩
 cases t with
 |true=>
  rw [if_pos rfl] at e ⊢
  exact⟨ρ1,en,p.2,v,S',E.up X1,R1,e,λy ρ2 H2 X2 R2 d2=>k y ρ2 H2 (X1.trans X2) R2 d2⟩
 |false=>
  rw [if_neg WC] at e ⊢
  cases e
  exact k _ ρ1 H1 X1 R1 d1
def mIf (c:M Bool)(a b:M D):M D:=λen S=>(c en S).bind λp=>if p.1 then a en p.2 else b en p.2
theorem FC {mc:M Bool}{ma mb:M D}(hc:ST X c mc)(ha:SE X a ma)(hb:SE X b mb):SE X (.IfExp c a b pos) (mIf mc ma mb):=by
 refine Zm (MM hc ha hb) ?_
 rintro σ H Q ⟨ρ,en,S,v,S',E,R,e,k⟩
 unfold mIf at e
 obtain⟨p,e1,e⟩:=W0.mp e
 refine⟨ρ,en,S,p.1,p.2,E,R,e1,λρ1 H1 X1 R1=>?_⟩
 by_cases hp:p.1=true
 ·rw [if_pos hp] at e ⊢
  exact⟨ρ1,en,p.2,v,S',E.up X1,R1,e,λx ρ2 H2 X2 R2=>k x ρ2 H2 (X1.trans X2) R2⟩
 ·rw [if_neg hp] at e ⊢
  exact⟨ρ1,en,p.2,v,S',E.up X1,R1,e,λx ρ2 H2 X2 R2=>k x ρ2 H2 (X1.trans X2) R2⟩
def Bd (m:M D):M Bool:=λen S=>(m en S).bind λp=>(GM p.1 p.2).map λb=>(b,p.2)
theorem Yo {m:M D}(h:SE X a m)(he:∀whole,isTrue a X.env whole=(do let v ←whole;standAt a.pos;holding [v] (truthy v)):=by intro _;rfl):ST X a (Bd m):=by
 refine BL (BK h he) ?_
 rintro σ H Q ⟨ρ,en,S,v,S',E,R,e,k⟩
 unfold Bd at e
 obtain⟨p,e1,e⟩:=W0.mp e
 obtain⟨b,e2,e3⟩:=We.mp e
 cases e3
 exact⟨ρ,en,S,p.1,p.2,E,R,e1,λx ρ1 H1 X1 R1 d1=>⟨v,Bp R1 d1 e2,k ρ1 H1 X1 R1⟩⟩
def Y3:M (List D):=λ_ S=>some ([],S)
def Z3 (a:M D)(r:M (List D)):M (List D):=λen S=>(a en S).bind λp=>(r en p.2).map λq=>(p.1 :: q.1,q.2)
theorem Zb:SA X [] Y3:=by
 refine Kz ZH ?_
 rintro σ H Q ⟨ρ,en,S,ds,S',E,R,e,k⟩
 cases e
 exact k [] ρ H Ext.refl R .nil
theorem Z1 {ma:M D}{mr:M (List D)}(ha:SE X a ma)(hr:SA X es mr)(hs:Wn (a :: es) X.env=(false,eval a X.env) :: Wn es X.env:=by rfl):SA X (a :: es) (Z3 ma mr):=by
 refine Kz (Zf ha hr hs) ?_
 rintro σ H Q ⟨ρ,en,S,ds,S',E,R,e,k⟩
 unfold Z3 at e
 obtain⟨p,e1,e⟩:=W0.mp e
 obtain⟨q,e2,e3⟩:=We.mp e
 cases e3
 refine⟨ρ,en,S,p.1,p.2,E,R,e1,λx ρ1 H1 X1 R1 d1=>⟨ρ1,en,p.2,q.1,q.2,E.up X1,R1,e2,λxs ρ2 H2 X2 R2 d2=>?_⟩⟩
 exact k (x :: xs) ρ2 H2 (X1.trans X2) R2 (.cons (d1.up X2) d2)
def N6 (m:M (List D)):M D:=λen S=>(m en S).bind λp=>if p.1.length≤Wc then some (.tup p.1,p.2) else none
def Lp (m:M (List D)):M D:=λen S=>(m en S).bind λp=>if p.1.length≤Wc then some (.ref p.2.length,p.2++[.lst p.1]) else none
theorem J5 {k0}{m:M (List D)}(h:SA X es m):SE X (.Tuple es k0 pos) (N6 m):=by
 refine Zm (Kx h) ?_
 rintro σ H Q ⟨ρ,en,S,v,S',E,R,e,k⟩
 unfold N6 at e
 obtain⟨p,e1,e⟩:=W0.mp e
 split at e
 ·cases e
  refine⟨ρ,en,S,p.1,p.2,E,R,e1,λxs ρ1 H1 X1 R1 d1=>⟨by rw [←d1.length];assumption,λa ha=>?_⟩⟩
  exact k _ ρ1 _ (X1.trans (Ext.new ha)) (R1.new ha) (.tup Z5 (d1.up (Ext.new ha)))
 ·cases e
theorem BF {m:M (List D)}(h:SA X es m):SE X (.List es pos) (Lp m):=by
 refine Zm (A6 h) ?_
 rintro σ H Q ⟨ρ,en,S,v,S',E,R,e,k⟩
 unfold Lp at e
 obtain⟨p,e1,e⟩:=W0.mp e
 split at e
 ·cases e
  refine⟨ρ,en,S,p.1,p.2,E,R,e1,λxs ρ1 H1 X1 R1 d1=>⟨by rw [←d1.length];assumption,λa ha=>?_⟩⟩
  refine k _ (ρ1++[a]) _ (X1.trans (Ext.newRef ha)) (R1.push ha ⟨xs,Z5,d1.up (Ext.newRef ha)⟩) (.ref ?_)
  rw [←R1.len];simp
 ·cases e
end
end DL
namespace DL
open PySem PySem.Spec PyProof.Rows L2
section
variable {K:W3} {ρ:List Addr} {H:Hp}
theorem G8 {d:D}{k:Key}{x:V}(e:Qz d=some k)(h:DR K ρ H d x):x=kV k:=by
 cases d with
 |int i=>cases e;exact h.of_int
 |str z=>cases e;exact h.of_str
 |_=>cases e
theorem Nh:∀{ds:List D} {ks:List Key} {xs:List V},Ls ds=some ks->DsR K ρ H ds xs->xs=ks.map kV
 |[],_,xs,e,h=>by
  cases e
  unfold DsR at h
  exact h
 |d :: ds,ks,xs,e,h=>by
  obtain⟨k,e1,e⟩:=W0.mp e
  obtain⟨ks',e2,e3⟩:=We.mp e
  subst e3
  unfold DsR at h
  obtain⟨x,r,rfl,h1,h2⟩:=h
  rw [W1,G8 e1 h1,Nh e2 h2]
theorem Ng {d:D}{ks:List Key}{x:V}(e:YY d=some ks)(h:DR K ρ H d x):∃b,x = .ref b/\H b=some (.tup (ks.map kV)):=by
 cases d with
 |tup ds=>
  obtain⟨a,xs,rfl,h1,h2⟩:=h.of_tup
  rw [Nh e h2] at h1
  exact⟨a,rfl,h1⟩
 |_=>cases e
theorem Qy {d:D}{k:Key}(e:Qz d=some k):YY d=none:=by
 cases d<;>first|rfl|cases e
theorem Hi {a b:D}{x y:Key}(ea:Qz a=some x)(eb:Qz b=some y):kEq a b=decide (x=y):=by
 unfold kEq
 rw [ea,eb]
theorem Hh {a b:D}{x y:List Key}(ea:YY a=some x)(eb:YY b=some y):kEq a b=decide (x=y):=by
 have na:Qz a=none:=by
  cases h:Qz a with
  |none=>rfl
  |some k=>rw [Qy h] at ea;cases ea
 unfold kEq
 rw [na,ea,eb]
theorem JR {κ:Type}[DecidableEq κ](f:D->Option κ){k:D}{k':κ}(hk:∀a x,f a=some x->kEq a k=decide (x=k')):∀{kvs:List (D×D)} {ks:List κ} {xs:List V},kvs.map (λp=>f p.1)=ks.map some->DsR K ρ H (kvs.map (·.2)) xs->
  (∀v,Tv kvs k=some v->∃x,Bc (ks.zip xs) k'=some x/\DR K ρ H v x)/\(Tv kvs k=none->Bc (ks.zip xs) k'=none)
 |[],ks,xs,e,h=>by
  cases ks with
  |nil=>exact⟨λv z=>(by cases z),λ_=>rfl⟩
  |cons _ _=>cases e
 |p :: kvs,ks,xs,e,h=>by
  cases ks with
  |nil=>cases e
  |cons k0 ks=>
   rw [W1,W1] at e
   injection e with e1 e2
   rw [W1] at h
   unfold DsR at h
   obtain⟨x,r,rfl,h1,h2⟩:=h
   have ih:=JR f hk e2 h2
   have hq:=hk p.1 k0 e1
   rw [WY]
   by_cases hc:k0=k'
   ·have hp:kEq p.1 k=true:=by rw [hq];exact decide_eq_true hc
    have hd:Tv (p :: kvs) k=some p.2:=by simp [Tv,VG,hp]
    rw [hd,QQ (p:=(k0,x)) hc]
    exact⟨λv z=>by cases z;exact⟨x,rfl,h1⟩,λz=>by cases z⟩
   ·have hp:kEq p.1 k=false:=by rw [hq];exact decide_eq_false hc
    have hd:Tv (p :: kvs) k=Tv kvs k:=by simp [Tv,VG,hp]
    rw [hd,QR (p:=(k0,x)) hc]
    exact ih
theorem Bu {κ:Type}[DecidableEq κ](f:D->Option κ){k:D}{k':κ}(hk:∀a x,f a=some x->kEq a k=decide (x=k')):∀{kvs:List (D×D)} {ks:List κ} {xs:List V},kvs.map (λp=>f p.1)=ks.map some->ks.length=xs.length->
  (kvs.any λp=>kEq p.1 k)=((ks.zip xs).any λkv=>decide (kv.1=k'))
 |[],ks,xs,e,_=>by
  cases ks with
  |nil=>rfl
  |cons _ _=>cases e
 |p :: kvs,ks,xs,e,hl=>by
  cases ks with
  |nil=>cases e
  |cons k0 ks=>
   cases xs with
   |nil=>cases hl
   |cons x xs=>
    rw [W1,W1] at e
    injection e with e1 e2
    rw [WY,W07,W07,hk p.1 k0 e1,Bu f hk e2 (by simpa using hl)]
theorem TK {κ:Type}[DecidableEq κ](f:D->Option κ){k v:D}{k':κ}{y:V}(hk:∀a x,f a=some x->kEq a k=decide (x=k'))(hv:DR K ρ H v y):∀{kvs:List (D×D)} {ks:List κ} {xs:List V},kvs.map (λp=>f p.1)=ks.map some->ks.length=xs.length->DsR K ρ H (kvs.map (·.2)) xs->
  ∃xs',(ks.zip xs).map (λkv=>if kv.1=k' then (kv.1,y) else kv)=ks.zip xs'/\ks.length=xs'.length/\DsR K ρ H ((kvs.map λp=>if kEq p.1 k=true then (p.1,v) else p).map (·.2)) xs'/\((kvs.map λp=>if kEq p.1 k=true then (p.1,v) else p).map λp=>f p.1)=ks.map some
 |[],ks,xs,e,hl,h=>by
  cases ks with
  |nil=>
   cases xs with
   |nil=>exact⟨[],rfl,rfl,.nil,rfl⟩
   |cons _ _=>cases hl
  |cons _ _=>cases e
 |p :: kvs,ks,xs,e,hl,h=>by
  cases ks with
  |nil=>cases e
  |cons k0 ks=>
   cases xs with
   |nil=>cases hl
   |cons x xs=>
    rw [W1,W1] at e
    injection e with e1 e2
    rw [W1] at h
    unfold DsR at h
    obtain⟨x0,r,hx,h1,h2⟩:=h
    injection hx with hx1 hx2
    subst hx1 hx2
    obtain⟨xs',a1,a2,a3,a4⟩:=TK f hk hv e2 (by simpa using hl) h2
    have hq:=hk p.1 k0 e1
    by_cases hc:k0=k'
    ·have hp:kEq p.1 k=true:=by rw [hq];exact decide_eq_true hc
     refine⟨y :: xs',?_,by simp [a2],?_,?_⟩
     ·rw [WY,W1,a1,if_pos hc,WY]
     ·rw [W1,if_pos hp,W1];exact .cons hv a3
     ·rw [W1,if_pos hp,W1,a4,e1,W1]
    ·have hp:¬kEq p.1 k=true:=by rw [hq,decide_eq_false hc];exact WC
     refine⟨x :: xs',?_,by simp [a2],?_,?_⟩
     ·rw [WY,W1,a1,if_neg hc,WY]
     ·rw [W1,if_neg hp,W1];exact .cons h1 a3
     ·rw [W1,if_neg hp,W1,a4,e1,W1]
theorem Bt {κ:Type}[DecidableEq κ](f:D->Option κ){k v:D}{k':κ}{y:V}(hf:f k=some k')(hk:∀a x,f a=some x->kEq a k=decide (x=k'))(hv:DR K ρ H v y){kvs:List (D×D)}{ks:List κ}{xs:List V}
  (e:kvs.map (λp=>f p.1)=ks.map some) (hl:ks.length=xs.length) (h:DsR K ρ H (kvs.map (·.2)) xs) :
  ∃(ks':List κ) (xs':List V),UY (ks.zip xs) k' y=ks'.zip xs'/\ks'.length=xs'.length/\(Gy kvs k v).map (λp=>f p.1)=ks'.map some/\DsR K ρ H ((Gy kvs k v).map (·.2)) xs':=by
 unfold UY Gy
 rw [Bu f hk e hl]
 by_cases ha:((ks.zip xs).any λkv=>decide (kv.1=k'))=true
 ·rw [if_pos ha,if_pos ha]
  obtain⟨xs',a1,a2,a3,a4⟩:=TK f hk hv e hl h
  exact⟨ks,xs',a1,a2,a4,a3⟩
 ·rw [if_neg ha,if_neg ha]
  refine⟨ks++[k'],xs++[y],?_,by simp [hl],?_,?_⟩
  ·rw [List.zip_append hl];rfl
  ·rw [Va,Va,e];simp [hf]
  ·rw [Va];exact h.append (.cons hv .nil)
theorem Hn {k:D}{k':Key}(h:Qz k=some k'):∀a x,Qz a=some x->kEq a k=decide (x=k'):=λ_ _ e=>Hi e h
theorem Sr {k:D}{k':List Key}(h:YY k=some k'):∀a x,YY a=some x->kEq a k=decide (x=k'):=λ_ _ e=>Hh e h
theorem all_nil {α:Type}{f:D->Option α}{kvs:List (D×D)}{β:Type}{g:D->Option β}{ks:List β}(e:kvs.map (λp=>g p.1)=ks.map some)(h:(kvs.all λp=>(f p.1).isSome)=true)(hd:∀d x,g d=some x->f d=none):kvs=[]:=by
 cases kvs with
 |nil=>rfl
 |cons p r=>
  cases ks with
  |nil=>cases e
  |cons k ks=>
   rw [W1,W1] at e
   injection e with e1 _
   rw [VD,hd _ _ e1] at h
   simp at h
theorem Qx {d:D}{k:List Key}(e:YY d=some k):Qz d=none:=by
 cases d<;>first|rfl|cases e
theorem Kh {S:Sto}{n:Nat}{a:Addr}{kvs:List (D×D)}{k:D}{y:V}(R:StR K ρ H S)(ha:ρ[n]? = some a)(e:S[n]? = some (.dct kvs))(hs:YR kvs k=true)(hk:DR K ρ H k y) :
  (∀v,Tv kvs k=some v->∃x,JC H a y (some x)/\DR K ρ H v x)/\(Tv kvs k=none->JC H a y none):=by
 obtain⟨ob,e1,r⟩:=R.obj ha
 rw [e] at e1
 cases e1
 unfold YR at hs
 cases h1:Qz k with
 |some k'=>
  rw [h1] at hs
  have ey:=G8 h1 hk
  rcases r with ⟨ks,xs,q1,q2,q3,q4⟩|⟨ks,xs,q1,q2,q3,q4⟩
  ·obtain⟨g1,g2⟩:=JR Qz (Hn h1) q3 q4
   refine⟨λv hv=>?_,λhv=>?_⟩
   ·obtain⟨x,x1,x2⟩:=g1 v hv
    exact⟨x,.inl (.inl ⟨_,k',.inl q1,ey,x1.symm⟩),x2⟩
   ·exact .inl (.inl ⟨_,k',.inl q1,ey,(g2 hv).symm⟩)
  ·have hn:=all_nil q3 hs (λ_ _=>Qx)
   subst hn
   cases ks with
   |nil=>exact⟨λv hv=>(by cases hv),λ_=>.inr (.inr ⟨q1,k',ey,rfl⟩)⟩
   |cons _ _=>cases q3
 |none=>
  rw [h1] at hs
  cases h2:YY k with
  |none=>rw [h2] at hs;cases hs
  |some k'=>
   rw [h2] at hs
   obtain⟨b,ey,eb⟩:=Ng h2 hk
   rcases r with ⟨ks,xs,q1,q2,q3,q4⟩|⟨ks,xs,q1,q2,q3,q4⟩
   ·have hn:=all_nil q3 hs (λ_ _=>Qy)
    subst hn
    cases ks with
    |nil=>exact⟨λv hv=>(by cases hv),λ_=>.inr (.inl ⟨q1,k',b,ey,eb,rfl⟩)⟩
    |cons _ _=>cases q3
   ·obtain⟨g1,g2⟩:=JR YY (Sr h2) q3 q4
    refine⟨λv hv=>?_,λhv=>?_⟩
    ·obtain⟨x,x1,x2⟩:=g1 v hv
     exact⟨x,.inl (.inr ⟨_,k',b,.inl q1,ey,eb,x1.symm⟩),x2⟩
    ·exact .inl (.inr ⟨_,k',b,.inl q1,ey,eb,(g2 hv).symm⟩)
theorem M1 {S:Sto}{n:Nat}{a:Addr}{kvs:List (D×D)}{k:D}{y:V}(R:StR K ρ H S)(ha:ρ[n]? = some a)(e:M2 S n k=some kvs)(hk:DR K ρ H k y) :
  (∀v,Tv kvs k=some v->∃x,JC H a y (some x)/\DR K ρ H v x)/\(Tv kvs k=none->JC H a y none):=by
 unfold M2 at e
 split at e
 ·rename_i kvs' hn
  split at e
  ·rename_i hs
   cases e
   exact Kh R ha hn hs hk
  ·cases e
 ·rename_i kvs' hn
  split at e
  ·rename_i hs
   cases e
   obtain⟨ob,e1,r⟩:=R.obj ha
   rw [hn] at e1
   cases e1
   obtain⟨o,ks,xs,q1,q2,q3,q4⟩:=r
   obtain⟨k',h1⟩:=W17.mp hs
   have ey:=G8 h1 hk
   obtain⟨g1,g2⟩:=JR Qz (Hn h1) q3 q4
   refine⟨λv hv=>?_,λhv=>?_⟩
   ·obtain⟨x,x1,x2⟩:=g1 v hv
    exact⟨x,.inl (.inl ⟨_,k',.inr ⟨o,q1⟩,ey,x1.symm⟩),x2⟩
   ·exact .inl (.inl ⟨_,k',.inr ⟨o,q1⟩,ey,(g2 hv).symm⟩)
  ·cases e
 ·cases e
theorem Ef {S:Sto}{n:Nat}{a:Addr}(R:StR K ρ H S)(ha:ρ[n]? = some a)(e:LM S n=true):IsD H a:=by
 unfold LM at e
 obtain⟨ob,e1,r⟩:=R.obj ha
 rw [e1] at e
 cases ob with
 |dct kvs=>
  rcases r with ⟨ks,xs,q,_⟩|⟨ks,xs,q,_⟩
  ·exact .inl ⟨_,.inl q⟩
  ·exact .inr ⟨_,.inl q⟩
 |fdct kvs=>
  obtain⟨o,ks,xs,q,_⟩:=r
  exact .inl ⟨_,.inr ⟨o,q⟩⟩
 |_=>cases e
theorem LY {S:Sto}{n:Nat}{a:Addr}{kvs:List (D×D)}{k v:D}{y x:V}(R:StR K ρ H S)(ha:ρ[n]? = some a)(e:S[n]? = some (.dct kvs))(hs:YR kvs k=true)(hl:kvs.length<Wc)(hk:DR K ρ H k y)(hv:DR K ρ H v x) :
  ∃H',Fa H a y x H'/\StR K ρ H' (S.set n (.dct (Gy kvs k v)))/\Ext ρ H ρ H':=by
 obtain⟨ob,e1,r⟩:=R.obj ha
 rw [e] at e1
 cases e1
 unfold YR at hs
 have up:∀{o:HO} {o':HO},H a=some o->(∀xs,o≠.tup xs)->(∀ob u,o≠.frz ob u)->Ext ρ H ρ (upd H a o'):=λh a1 a2=>Ext.upd h a1 a2
 cases h1:Qz k with
 |some k'=>
  rw [h1] at hs
  have ey:=G8 h1 hk
  rcases r with ⟨ks,xs,q1,q2,q3,q4⟩|⟨ks,xs,q1,q2,q3,q4⟩
  ·obtain⟨ks',xs',z1,z2,z3,z4⟩:=Bt Qz h1 (Hn h1) hv q3 q2 q4
   have len:(ks.zip xs).length<Wc:=by
    have:=congrArg Vb q3
    rw [Wg,Wg] at this
    rw [VH];omega
   have E1:Ext ρ H ρ (upd H a (.dK (UY (ks.zip xs) k' x))):=up q1 (λ_ z=>nomatch z) λ_ _ z=>nomatch z
   obtain⟨R2,E2⟩:=R.set (hf:=λ_ z=>by rw [e] at z;cases z) (o:=.dK (UY (ks.zip xs) k' x)) (ob:=.dct (Gy kvs k v)) ha (.inl ⟨ks',xs',by rw [Z5,z1],z2,z3,z4.up E1⟩)
   exact⟨_,.inl (.inl ⟨_,k',q1,ey,len,rfl⟩),R2,E2⟩
  ·have hn:=all_nil q3 hs (λ_ _=>Qx)
   subst hn
   have E1:Ext ρ H ρ (upd H a (.dK [(k',x)])):=up q1 (λ_ z=>nomatch z) λ_ _ z=>nomatch z
   cases ks with
   |nil=>
    obtain⟨R2,E2⟩:=R.set (hf:=λ_ z=>by rw [e] at z;cases z) (o:=.dK [(k',x)]) (ob:=.dct (Gy [] k v)) ha (.inl ⟨[k'],[x],by rw [Z5];rfl,rfl,by simp [Gy,h1],by simp [Gy];exact .cons (hv.up E1) .nil⟩)
    exact⟨_,.inr (.inr ⟨q1,k',ey,rfl⟩),R2,E2⟩
   |cons _ _=>cases q3
 |none=>
  rw [h1] at hs
  cases h2:YY k with
  |none=>rw [h2] at hs;cases hs
  |some k'=>
   rw [h2] at hs
   obtain⟨b,ey,eb⟩:=Ng h2 hk
   rcases r with ⟨ks,xs,q1,q2,q3,q4⟩|⟨ks,xs,q1,q2,q3,q4⟩
   ·have hn:=all_nil q3 hs (λ_ _=>Qy)
    subst hn
    have E1:Ext ρ H ρ (upd H a (.dT [(k',x)])):=up q1 (λ_ z=>nomatch z) λ_ _ z=>nomatch z
    cases ks with
    |nil=>
     obtain⟨R2,E2⟩:=R.set (hf:=λ_ z=>by rw [e] at z;cases z) (o:=.dT [(k',x)]) (ob:=.dct (Gy [] k v)) ha (.inr ⟨[k'],[x],by rw [Z5];rfl,rfl,by simp [Gy,h2],by simp [Gy];exact .cons (hv.up E1) .nil⟩)
     exact⟨_,.inr (.inl ⟨q1,k',b,ey,eb,rfl⟩),R2,E2⟩
    |cons _ _=>cases q3
   ·obtain⟨ks',xs',z1,z2,z3,z4⟩:=Bt YY h2 (Sr h2) hv q3 q2 q4
    have len:(ks.zip xs).length<Wc:=by
     have:=congrArg Vb q3
     rw [Wg,Wg] at this
     rw [VH];omega
    have E1:Ext ρ H ρ (upd H a (.dT (UY (ks.zip xs) k' x))):=up q1 (λ_ z=>nomatch z) λ_ _ z=>nomatch z
    obtain⟨R2,E2⟩:=R.set (hf:=λ_ z=>by rw [e] at z;cases z) (o:=.dT (UY (ks.zip xs) k' x)) (ob:=.dct (Gy kvs k v)) ha (.inr ⟨ks',xs',by rw [Z5,z1],z2,z3,z4.up E1⟩)
    exact⟨_,.inl (.inr ⟨_,k',b,q1,ey,eb,len,rfl⟩),R2,E2⟩
end
end DL
namespace DL
open PySem PySem.Spec PyProof.Rows L2
mutual
def eqD:D->D->Bool
 | .non,b=>match b with | .non=>true|_=>false
 | .bl a,b=>match b with | .bl c=>a == c | .int c=>(if a then 1 else 0) == c|_=>false
 | .int a,b=>match b with | .bl c=>a == (if c then 1 else 0) | .int c=>a == c|_=>false
 | .str a,b=>match b with | .str c=>a == c|_=>false
 | .tup as,b=>match b with | .tup bs=>eqDs as bs|_=>false
 | .ref _,_=>false
 | .scr _,_=>false
def eqDs:List D->List D->Bool
 |[],b=>match b with|[]=>true|_ :: _=>false
 |a :: as,b=>match b with|[]=>false|b :: bs=>eqD a b&&eqDs as bs
end
def pln:Nat->D->Bool
 |_,.non=>true
 |_,.bl _=>true
 |_,.int _=>true
 |_,.str _=>true
 |0,.tup _=>false
 |n+1,.tup ds=>ds.all (pln n)
 |_,.ref _=>false
 |_,.scr _=>false
theorem To (as bs:List D):eqD (.tup as) (.tup bs)=eqDs as bs:=by unfold eqD;rfl
theorem YU:∀(as bs:List D),eqDs as bs=((Wr (min as.length bs.length)).all (λj=>eqD (as.getD j .non) (bs.getD j .non))&&as.length == bs.length)
 |[],[]=>by simp [eqDs]
 |[],_ :: _=>by simp [eqDs]
 |_ :: _,[]=>by simp [eqDs]
 |a :: as,b :: bs=>by
  unfold eqDs
  dsimp only
  rw [YU as bs,V2,V2,Nat.succ_min_succ,List.range_succ_eq_map,VD,List.all_map]
  have h1:((as.length+1) == (bs.length+1))=(as.length == bs.length):=by
   rw [W0P];simp
  rw [h1,Bool.and_assoc]
  rfl
mutual
theorem Gw:∀(n:Nat) (d:D),pln n d=true->eqD d d=true
 |_,.non,_=>by unfold eqD;rfl
 |_,.bl b,_=>by unfold eqD;simp
 |_,.int i,_=>by unfold eqD;simp
 |_,.str x,_=>by unfold eqD;simp
 |0,.tup _,h=>by cases h
 |n+1,.tup ds,h=>by unfold eqD;exact eqDs_refl n ds (by unfold pln at h;exact h)
 |n,.ref _,h=>by cases n<;>cases h
 |n,.scr _,h=>by cases n<;>cases h
theorem eqDs_refl:∀(n:Nat) (ds:List D),ds.all (pln n)=true->eqDs ds ds=true
 |_,[],_=>by unfold eqDs;rfl
 |n,d :: ds,h=>by
  rw [VD,WA] at h
  unfold eqDs
  dsimp only
  rw [Gw n d h.1,eqDs_refl n ds h.2];rfl
end
section
variable {K:W3} {ρ ρ':List Addr} {H:Hp}
mutual
theorem DR.one:∀(n:Nat) (d d':D) (x:V),pln n d=true->pln n d'=true->DR K ρ H d x->DR K ρ' H d' x->d=d'
 |n,d,d',x,p,p',h,h'=>by
  cases d with
  |non=>
   rw [h.of_non] at h'
   cases d' with
   |non=>rfl
   |bl _=>cases h'.of_bl
   |int _=>cases h'.of_int
   |str _=>cases h'.of_str
   |tup _=>obtain⟨_,_,z,_⟩:=h'.of_tup;cases z
   |ref _=>cases n<;>cases p'
   |scr _=>cases n<;>cases p'
  |bl b=>
   rw [h.of_bl] at h'
   cases d' with
   |non=>cases h'.of_non
   |bl _=>cases h'.of_bl;rfl
   |int _=>cases h'.of_int
   |str _=>cases h'.of_str
   |tup _=>obtain⟨_,_,z,_⟩:=h'.of_tup;cases z
   |ref _=>cases n<;>cases p'
   |scr _=>cases n<;>cases p'
  |int b=>
   rw [h.of_int] at h'
   cases d' with
   |non=>cases h'.of_non
   |bl _=>cases h'.of_bl
   |int _=>cases h'.of_int;rfl
   |str _=>cases h'.of_str
   |tup _=>obtain⟨_,_,z,_⟩:=h'.of_tup;cases z
   |ref _=>cases n<;>cases p'
   |scr _=>cases n<;>cases p'
  |str b=>
   rw [h.of_str] at h'
   cases d' with
   |non=>cases h'.of_non
   |bl _=>cases h'.of_bl
   |int _=>cases h'.of_int
   |str _=>cases h'.of_str;rfl
   |tup _=>obtain⟨_,_,z,_⟩:=h'.of_tup;cases z
   |ref _=>cases n<;>cases p'
   |scr _=>cases n<;>cases p'
  |tup ds=>
   obtain⟨a,xs,rfl,h1,h2⟩:=h.of_tup
   cases d' with
   |non=>cases h'.of_non
   |bl _=>cases h'.of_bl
   |int _=>cases h'.of_int
   |str _=>cases h'.of_str
   |tup es=>
    obtain⟨a',xs',z,h3,h4⟩:=h'.of_tup
    cases z
    rw [h1] at h3
    cases h3
    cases n with
    |zero=>cases p
    |succ n=>
     unfold pln at p p'
     rw [DsR.one n ds es xs p p' h2 h4]
   |ref _=>cases n<;>cases p'
   |scr _=>cases n<;>cases p'
  |ref _=>cases n<;>cases p
  |scr _=>cases n<;>cases p
termination_by n=>(n,0)
theorem DsR.one:∀(n:Nat) (ds ds':List D) (xs:List V),ds.all (pln n)=true->ds'.all (pln n)=true->DsR K ρ H ds xs->DsR K ρ' H ds' xs->ds=ds'
 |n,[],ds',xs,_,_,h,h'=>by
  unfold DsR at h
  subst h
  cases ds' with
  |nil=>rfl
  |cons _ _=>unfold DsR at h';obtain⟨_,_,z,_⟩:=h';cases z
 |n,d :: ds,ds',xs,p,p',h,h'=>by
  unfold DsR at h
  obtain⟨x,r,rfl,h1,h2⟩:=h
  cases ds' with
  |nil=>unfold DsR at h';cases h'
  |cons d' ds'=>
   unfold DsR at h'
   obtain⟨x',r',z,h3,h4⟩:=h'
   cases z
   rw [VD,WA] at p p'
   rw [DR.one n d d' x p.1 p'.1 h1 h3,DsR.one n ds ds' r p.2 p'.2 h2 h4]
termination_by n ds=>(n,ds.length+1)
end
end
section
variable {X:Cx} {pins:List (Addr×Obj)} {σ:L2.St} {H:Hp} {s:Shared} {ρ:List Addr} (I:Inv X pins σ H s)
theorem ZV {A:Around}:A.in1.units=A.units+1:=rfl
include I in
theorem Jk:∀(n:Nat) {A:Around} {d1 d2:D} {x y:V} {u v:Value},A.units+n<cLine->pln n d1=true->pln n d2=true->DR X.K ρ H d1 x->DR X.K ρ H d2 y->Zz x u->Zz y v->WO A s u v (eqD d1 d2):=by
 intro n A d1 d2 x y u v hu p1 p2 h1 h2 ru rv
 cases d1 with
 |non=>
  rw [h1.of_non] at ru
  cases ru
  cases d2 with
  |non=>rw [h2.of_non] at rv;cases rv;exact WO.same _
  |bl c=>rw [h2.of_bl] at rv;cases rv;exact WO.none_bool c
  |int c=>rw [h2.of_int] at rv;obtain⟨t',rfl⟩:=rv;exact WO.none_int c t'
  |str c=>rw [h2.of_str] at rv;obtain⟨t',rfl⟩:=rv;exact WO.none_str c t'
  |tup bs=>
   obtain⟨b,ys,rfl,b1,b2⟩:=h2.of_tup
   cases rv
   obtain⟨its,_,pl,_⟩:=I.tuple (.of b1)
   exact WO.none_tuple pl (by omega)
  |ref _=>cases n<;>cases p2
  |scr _=>cases n<;>cases p2
 |bl a=>
  rw [h1.of_bl] at ru
  cases ru
  cases d2 with
  |non=>rw [h2.of_non] at rv;cases rv;exact WO.bool_none a
  |bl c=>rw [h2.of_bl] at rv;cases rv;exact WO.bool_bool a c
  |int c=>rw [h2.of_int] at rv;obtain⟨t',rfl⟩:=rv;exact WO.bool_int a c t'
  |str c=>rw [h2.of_str] at rv;obtain⟨t',rfl⟩:=rv;exact WO.bool_str a c t'
  |tup bs=>
   obtain⟨b,ys,rfl,b1,b2⟩:=h2.of_tup
   cases rv
   obtain⟨its,_,pl,_⟩:=I.tuple (.of b1)
   exact WO.bool_tuple a pl (by omega)
  |ref _=>cases n<;>cases p2
  |scr _=>cases n<;>cases p2
 |int a=>
  rw [h1.of_int] at ru
  obtain⟨t,rfl⟩:=ru
  cases d2 with
  |non=>rw [h2.of_non] at rv;cases rv;exact WO.int_none a t
  |bl c=>rw [h2.of_bl] at rv;cases rv;exact WO.int_bool a t c
  |int c=>rw [h2.of_int] at rv;obtain⟨t',rfl⟩:=rv;exact WO.int_int a t c t'
  |str c=>rw [h2.of_str] at rv;obtain⟨t',rfl⟩:=rv;exact WO.int_str a t c t'
  |tup bs=>
   obtain⟨b,ys,rfl,b1,b2⟩:=h2.of_tup
   cases rv
   obtain⟨its,_,pl,_⟩:=I.tuple (.of b1)
   exact WO.int_tuple a t pl (by omega)
  |ref _=>cases n<;>cases p2
  |scr _=>cases n<;>cases p2
 |str a=>
  rw [h1.of_str] at ru
  obtain⟨t,rfl⟩:=ru
  cases d2 with
  |non=>rw [h2.of_non] at rv;cases rv;exact WO.str_none a t
  |bl c=>rw [h2.of_bl] at rv;cases rv;exact WO.str_bool a t c
  |int c=>rw [h2.of_int] at rv;obtain⟨t',rfl⟩:=rv;exact WO.str_int a t c t'
  |str c=>rw [h2.of_str] at rv;obtain⟨t',rfl⟩:=rv;exact WO.str_str a t c t'
  |tup bs=>
   obtain⟨b,ys,rfl,b1,b2⟩:=h2.of_tup
   cases rv
   obtain⟨its,_,pl,_⟩:=I.tuple (.of b1)
   exact WO.str_tuple a t pl (by omega)
  |ref _=>cases n<;>cases p2
  |scr _=>cases n<;>cases p2
 |tup as=>
  obtain⟨a,xs,rfl,a1,a2⟩:=h1.of_tup
  cases ru
  cases d2 with
  |non=>
   rw [h2.of_non] at rv
   cases rv
   obtain⟨its,_,pl,_⟩:=I.tuple (.of a1)
   exact WO.tuple_none pl (by omega)
  |bl c=>
   rw [h2.of_bl] at rv
   cases rv
   obtain⟨its,_,pl,_⟩:=I.tuple (.of a1)
   exact WO.tuple_bool c pl (by omega)
  |int c=>
   rw [h2.of_int] at rv
   obtain⟨t',rfl⟩:=rv
   obtain⟨its,_,pl,_⟩:=I.tuple (.of a1)
   exact WO.tuple_int c t' pl (by omega)
  |str c=>
   rw [h2.of_str] at rv
   obtain⟨t',rfl⟩:=rv
   obtain⟨its,_,pl,_⟩:=I.tuple (.of a1)
   exact WO.tuple_str c t' pl (by omega)
  |tup bs=>
   obtain⟨b,ys,rfl,b1,b2⟩:=h2.of_tup
   cases rv
   cases n with
   |zero=>cases p1
   |succ n=>
    unfold pln at p1 p2
    obtain⟨its,r1,pl1,_⟩:=I.tuple (.of a1)
    obtain⟨its2,r2,pl2,_⟩:=I.tuple (.of b1)
    have he:eqD (.tup as) (.tup bs)=((Wr (min its.toArray.size its2.toArray.size)).all (λj=>eqD (as.getD j .non) (bs.getD j .non))&&its.toArray.size == its2.toArray.size):=by
     rw [To,YU,Wf,Wf,←r1.length,←r2.length,←a2.length,←b2.length]
    have hj:∀j (h1:j<its.toArray.size) (h2:j<its2.toArray.size),WO A.in1 s its.toArray[j] its2.toArray[j] (eqD (as.getD j .non) (bs.getD j .non)):=by
     intro j j1 j2
     rw [Wf] at j1 j2
     have l1:j<as.length:=by rw [a2.length,r1.length];exact j1
     have l2:j<bs.length:=by rw [b2.length,r2.length];exact j2
     have g1:as[j]? = some (as.getD j .non):=by simp [V8,Wu l1]
     have g2:bs[j]? = some (bs.getD j .non):=by simp [V8,Wu l2]
     obtain⟨x,x1,x2⟩:=a2.get g1
     obtain⟨y,y1,y2⟩:=b2.get g2
     obtain⟨u,u1,u2⟩:=r1.get x1
     obtain⟨v,v1,v2⟩:=r2.get y1
     have e1:its.toArray[j]=u:=by rw [Wu j1] at u1;simpa using u1
     have e2:its2.toArray[j]=v:=by rw [Wu j2] at v1;simpa using v1
     rw [e1,e2]
     exact Jk n (by rw [ZV];omega) (WM.mp p1 _ (Vw g1)) (WM.mp p2 _ (Vw g2)) x2 y2 u2 v2
    by_cases hab:a=b
    ·subst hab
     have hsame:as=bs:=by
      rw [a1] at b1
      cases b1
      exact DsR.one n as bs xs p1 p2 a2 b2
     rw [hsame,Gw (n+1) (.tup bs) (by unfold pln;exact p2)]
     exact WO.same _
    ·rw [he]
     exact WO.of_refs hab (V1.tuples pl1 pl2 (by omega) hj)
  |ref _=>cases n<;>cases p2
  |scr _=>cases n<;>cases p2
 |ref _=>cases n<;>cases p1
 |scr _=>cases n<;>cases p1
include I in
theorem FI:∀(n:Nat) {A:Around} {d1 d2:D} {x y:V} {u v:Value},A.units+n<cLine->pln n d1=true->pln n d2=true->DR X.K ρ H d1 x->DR X.K ρ H d2 y->Zz x u->Zz y v->V1 A s u v (eqD d1 d2):=by
 intro n A d1 d2 x y u v hu p1 p2 h1 h2 ru rv
 cases d1 with
 |non=>
  rw [h1.of_non] at ru
  cases ru
  cases d2 with
  |non=>rw [h2.of_non] at rv;cases rv;exact V1.none_none
  |bl c=>rw [h2.of_bl] at rv;cases rv;exact V1.none_bool c
  |int c=>rw [h2.of_int] at rv;obtain⟨t',rfl⟩:=rv;exact V1.none_int c t'
  |str c=>rw [h2.of_str] at rv;obtain⟨t',rfl⟩:=rv;exact V1.none_str c t'
  |tup bs=>
   obtain⟨b,ys,rfl,b1,b2⟩:=h2.of_tup
   cases rv
   obtain⟨its,_,pl,_⟩:=I.tuple (.of b1)
   exact V1.none_tuple pl (by omega)
  |ref _=>cases n<;>cases p2
  |scr _=>cases n<;>cases p2
 |bl a=>
  rw [h1.of_bl] at ru
  cases ru
  cases d2 with
  |non=>rw [h2.of_non] at rv;cases rv;exact V1.bool_none a
  |bl c=>rw [h2.of_bl] at rv;cases rv;exact V1.bool_bool a c
  |int c=>rw [h2.of_int] at rv;obtain⟨t',rfl⟩:=rv;exact V1.bool_int a c t'
  |str c=>rw [h2.of_str] at rv;obtain⟨t',rfl⟩:=rv;exact V1.bool_str a c t'
  |tup bs=>
   obtain⟨b,ys,rfl,b1,b2⟩:=h2.of_tup
   cases rv
   obtain⟨its,_,pl,_⟩:=I.tuple (.of b1)
   exact V1.bool_tuple a pl (by omega)
  |ref _=>cases n<;>cases p2
  |scr _=>cases n<;>cases p2
 |int a=>
  rw [h1.of_int] at ru
  obtain⟨t,rfl⟩:=ru
  cases d2 with
  |non=>rw [h2.of_non] at rv;cases rv;exact V1.int_none a t
  |bl c=>rw [h2.of_bl] at rv;cases rv;exact V1.int_bool a t c
  |int c=>rw [h2.of_int] at rv;obtain⟨t',rfl⟩:=rv;exact V1.int_int a t c t'
  |str c=>rw [h2.of_str] at rv;obtain⟨t',rfl⟩:=rv;exact V1.int_str a t c t'
  |tup bs=>
   obtain⟨b,ys,rfl,b1,b2⟩:=h2.of_tup
   cases rv
   obtain⟨its,_,pl,_⟩:=I.tuple (.of b1)
   exact V1.int_tuple a t pl (by omega)
  |ref _=>cases n<;>cases p2
  |scr _=>cases n<;>cases p2
 |str a=>
  rw [h1.of_str] at ru
  obtain⟨t,rfl⟩:=ru
  cases d2 with
  |non=>rw [h2.of_non] at rv;cases rv;exact V1.str_none a t
  |bl c=>rw [h2.of_bl] at rv;cases rv;exact V1.str_bool a t c
  |int c=>rw [h2.of_int] at rv;obtain⟨t',rfl⟩:=rv;exact V1.str_int a t c t'
  |str c=>rw [h2.of_str] at rv;obtain⟨t',rfl⟩:=rv;exact V1.str_str a t c t'
  |tup bs=>
   obtain⟨b,ys,rfl,b1,b2⟩:=h2.of_tup
   cases rv
   obtain⟨its,_,pl,_⟩:=I.tuple (.of b1)
   exact V1.str_tuple a t pl (by omega)
  |ref _=>cases n<;>cases p2
  |scr _=>cases n<;>cases p2
 |tup as=>
  obtain⟨a,xs,rfl,a1,a2⟩:=h1.of_tup
  cases ru
  cases d2 with
  |non=>
   rw [h2.of_non] at rv
   cases rv
   obtain⟨its,_,pl,_⟩:=I.tuple (.of a1)
   exact V1.tuple_none pl (by omega)
  |bl c=>
   rw [h2.of_bl] at rv
   cases rv
   obtain⟨its,_,pl,_⟩:=I.tuple (.of a1)
   exact V1.tuple_bool c pl (by omega)
  |int c=>
   rw [h2.of_int] at rv
   obtain⟨t',rfl⟩:=rv
   obtain⟨its,_,pl,_⟩:=I.tuple (.of a1)
   exact V1.tuple_int c t' pl (by omega)
  |str c=>
   rw [h2.of_str] at rv
   obtain⟨t',rfl⟩:=rv
   obtain⟨its,_,pl,_⟩:=I.tuple (.of a1)
   exact V1.tuple_str c t' pl (by omega)
  |tup bs=>
   obtain⟨b,ys,rfl,b1,b2⟩:=h2.of_tup
   cases rv
   cases n with
   |zero=>cases p1
   |succ n=>
    unfold pln at p1 p2
    obtain⟨its,r1,pl1,_⟩:=I.tuple (.of a1)
    obtain⟨its2,r2,pl2,_⟩:=I.tuple (.of b1)
    have he:eqD (.tup as) (.tup bs)=((Wr (min its.toArray.size its2.toArray.size)).all (λj=>eqD (as.getD j .non) (bs.getD j .non))&&its.toArray.size == its2.toArray.size):=by
     rw [To,YU,Wf,Wf,←r1.length,←r2.length,←a2.length,←b2.length]
    have hj:∀j (h1:j<its.toArray.size) (h2:j<its2.toArray.size),WO A.in1 s its.toArray[j] its2.toArray[j] (eqD (as.getD j .non) (bs.getD j .non)):=by
     intro j j1 j2
     rw [Wf] at j1 j2
     have l1:j<as.length:=by rw [a2.length,r1.length];exact j1
     have l2:j<bs.length:=by rw [b2.length,r2.length];exact j2
     have g1:as[j]? = some (as.getD j .non):=by simp [V8,Wu l1]
     have g2:bs[j]? = some (bs.getD j .non):=by simp [V8,Wu l2]
     obtain⟨x,x1,x2⟩:=a2.get g1
     obtain⟨y,y1,y2⟩:=b2.get g2
     obtain⟨u,u1,u2⟩:=r1.get x1
     obtain⟨v,v1,v2⟩:=r2.get y1
     have e1:its.toArray[j]=u:=by rw [Wu j1] at u1;simpa using u1
     have e2:its2.toArray[j]=v:=by rw [Wu j2] at v1;simpa using v1
     rw [e1,e2]
     exact Jk I n (by rw [ZV];omega) (WM.mp p1 _ (Vw g1)) (WM.mp p2 _ (Vw g2)) x2 y2 u2 v2
    rw [he]
    exact V1.tuples pl1 pl2 (by omega) hj
  |ref _=>cases n<;>cases p2
  |scr _=>cases n<;>cases p2
 |ref _=>cases n<;>cases p1
 |scr _=>cases n<;>cases p1
include I in
theorem FH:∀(n:Nat) {A:Around} {d1 d2:D} {x y:V} {u v:Value},A.units+n<cLine->pln n d1=true->pln n d2=true->DR X.K ρ H d1 x->DR X.K ρ H d2 y->Zz x u->Zz y v->WN A s u v (!eqD d1 d2):=by
 intro n A d1 d2 x y u v hu p1 p2 h1 h2 ru rv
 cases d1 with
 |non=>
  rw [h1.of_non] at ru
  cases ru
  cases d2 with
  |non=>rw [h2.of_non] at rv;cases rv;exact WN.none_none
  |bl c=>rw [h2.of_bl] at rv;cases rv;exact WN.none_bool c
  |int c=>rw [h2.of_int] at rv;obtain⟨t',rfl⟩:=rv;exact WN.none_int c t'
  |str c=>rw [h2.of_str] at rv;obtain⟨t',rfl⟩:=rv;exact WN.none_str c t'
  |tup bs=>
   obtain⟨b,ys,rfl,b1,b2⟩:=h2.of_tup
   cases rv
   obtain⟨its,_,pl,_⟩:=I.tuple (.of b1)
   exact WN.none_tuple pl (by omega)
  |ref _=>cases n<;>cases p2
  |scr _=>cases n<;>cases p2
 |bl a=>
  rw [h1.of_bl] at ru
  cases ru
  cases d2 with
  |non=>rw [h2.of_non] at rv;cases rv;exact WN.bool_none a
  |bl c=>rw [h2.of_bl] at rv;cases rv;exact WN.bool_bool a c
  |int c=>rw [h2.of_int] at rv;obtain⟨t',rfl⟩:=rv;exact WN.bool_int a c t'
  |str c=>rw [h2.of_str] at rv;obtain⟨t',rfl⟩:=rv;exact WN.bool_str a c t'
  |tup bs=>
   obtain⟨b,ys,rfl,b1,b2⟩:=h2.of_tup
   cases rv
   obtain⟨its,_,pl,_⟩:=I.tuple (.of b1)
   exact WN.bool_tuple a pl (by omega)
  |ref _=>cases n<;>cases p2
  |scr _=>cases n<;>cases p2
 |int a=>
  rw [h1.of_int] at ru
  obtain⟨t,rfl⟩:=ru
  cases d2 with
  |non=>rw [h2.of_non] at rv;cases rv;exact WN.int_none a t
  |bl c=>rw [h2.of_bl] at rv;cases rv;exact WN.int_bool a t c
  |int c=>rw [h2.of_int] at rv;obtain⟨t',rfl⟩:=rv;exact WN.int_int a t c t'
  |str c=>rw [h2.of_str] at rv;obtain⟨t',rfl⟩:=rv;exact WN.int_str a t c t'
  |tup bs=>
   obtain⟨b,ys,rfl,b1,b2⟩:=h2.of_tup
   cases rv
   obtain⟨its,_,pl,_⟩:=I.tuple (.of b1)
   exact WN.int_tuple a t pl (by omega)
  |ref _=>cases n<;>cases p2
  |scr _=>cases n<;>cases p2
 |str a=>
  rw [h1.of_str] at ru
  obtain⟨t,rfl⟩:=ru
  cases d2 with
  |non=>rw [h2.of_non] at rv;cases rv;exact WN.str_none a t
  |bl c=>rw [h2.of_bl] at rv;cases rv;exact WN.str_bool a t c
  |int c=>rw [h2.of_int] at rv;obtain⟨t',rfl⟩:=rv;exact WN.str_int a t c t'
  |str c=>rw [h2.of_str] at rv;obtain⟨t',rfl⟩:=rv;exact WN.str_str a t c t'
  |tup bs=>
   obtain⟨b,ys,rfl,b1,b2⟩:=h2.of_tup
   cases rv
   obtain⟨its,_,pl,_⟩:=I.tuple (.of b1)
   exact WN.str_tuple a t pl (by omega)
  |ref _=>cases n<;>cases p2
  |scr _=>cases n<;>cases p2
 |tup as=>
  obtain⟨a,xs,rfl,a1,a2⟩:=h1.of_tup
  cases ru
  cases d2 with
  |non=>
   rw [h2.of_non] at rv
   cases rv
   obtain⟨its,_,pl,_⟩:=I.tuple (.of a1)
   exact WN.tuple_none pl (by omega)
  |bl c=>
   rw [h2.of_bl] at rv
   cases rv
   obtain⟨its,_,pl,_⟩:=I.tuple (.of a1)
   exact WN.tuple_bool c pl (by omega)
  |int c=>
   rw [h2.of_int] at rv
   obtain⟨t',rfl⟩:=rv
   obtain⟨its,_,pl,_⟩:=I.tuple (.of a1)
   exact WN.tuple_int c t' pl (by omega)
  |str c=>
   rw [h2.of_str] at rv
   obtain⟨t',rfl⟩:=rv
   obtain⟨its,_,pl,_⟩:=I.tuple (.of a1)
   exact WN.tuple_str c t' pl (by omega)
  |tup bs=>
   obtain⟨b,ys,rfl,b1,b2⟩:=h2.of_tup
   cases rv
   cases n with
   |zero=>cases p1
   |succ n=>
    unfold pln at p1 p2
    obtain⟨its,r1,pl1,_⟩:=I.tuple (.of a1)
    obtain⟨its2,r2,pl2,_⟩:=I.tuple (.of b1)
    have he:eqD (.tup as) (.tup bs)=((Wr (min its.toArray.size its2.toArray.size)).all (λj=>eqD (as.getD j .non) (bs.getD j .non))&&its.toArray.size == its2.toArray.size):=by
     rw [To,YU,Wf,Wf,←r1.length,←r2.length,←a2.length,←b2.length]
    have hj:∀j (h1:j<its.toArray.size) (h2:j<its2.toArray.size),WO A.in1 s its.toArray[j] its2.toArray[j] (eqD (as.getD j .non) (bs.getD j .non)):=by
     intro j j1 j2
     rw [Wf] at j1 j2
     have l1:j<as.length:=by rw [a2.length,r1.length];exact j1
     have l2:j<bs.length:=by rw [b2.length,r2.length];exact j2
     have g1:as[j]? = some (as.getD j .non):=by simp [V8,Wu l1]
     have g2:bs[j]? = some (bs.getD j .non):=by simp [V8,Wu l2]
     obtain⟨x,x1,x2⟩:=a2.get g1
     obtain⟨y,y1,y2⟩:=b2.get g2
     obtain⟨u,u1,u2⟩:=r1.get x1
     obtain⟨v,v1,v2⟩:=r2.get y1
     have e1:its.toArray[j]=u:=by rw [Wu j1] at u1;simpa using u1
     have e2:its2.toArray[j]=v:=by rw [Wu j2] at v1;simpa using v1
     rw [e1,e2]
     exact Jk I n (by rw [ZV];omega) (WM.mp p1 _ (Vw g1)) (WM.mp p2 _ (Vw g2)) x2 y2 u2 v2
    rw [he]
    exact WN.tuples pl1 pl2 (by omega) hj
  |ref _=>cases n<;>cases p2
  |scr _=>cases n<;>cases p2
 |ref _=>cases n<;>cases p1
 |scr _=>cases n<;>cases p1
end
end DL
namespace DL
open PySem PySem.Spec PyProof.Rows L2
def Mn (A:Around)(s:Shared)(y x:Value)(b:Bool):Prop:=
 ∀(prog:Program) (w:World) (E:Value->Shared->Prop) (Q:Value->Shared->Prop),Q (.bool b) s->wpAny (model prog w) A (compareOp .Lt y x) Q E s
def Tf:List (Bool×Bool)->Bool->Bool
 |[],fin=>fin
 |p :: r,fin=>if p.1=true then Tf r fin else p.2
section
open PySem.SeqAt
open PySem.AutoSeq1 (wpAny_loadPart')
open PySem.MeetsSeq PySem.MeetsSeq2 PySem.MeetsSeq3
def GH (A:Around)(s:Shared)(q:Value×Value)(p:Bool×Bool):Prop:=EqAt A s q.1 q.2 p.1/\(p.1=false->Mn A s q.1 q.2 p.2)
theorem GL (l b:Addr)(items items2:Array Value)(n n2:Nat)(dd dd2:Option Addr)(sl sl2:Array (Option Value))(ps:List (Bool×Bool)) :
  Meets (Builtin.«tuple.__lt__» ⟨[.ref l,.ref b],[]⟩)
   (λA R s=>s.heap.get? l=some { cls:=.type "tuple",dict:=dd,data:=.seq items n,slots:=sl }/\s.heap.get? b=some { cls:=.type "tuple",dict:=dd2,data:=.seq items2 n2,slots:=sl2 }/\
    Paired (GH A.in1 s) (items.toList.zip items2.toList) ps/\R (.ok (.ret (.bool (Tf ps (decide (items.size<items2.size)))))) s):=
 .of_wp λprog w A R s h=>by
  obtain⟨hp,g,d,tk,os⟩:=s;obtain⟨hl,hb,hps,h⟩:=h
  have f2:=W1a
  wp_walk using W0Q hl,W0Q hb,wpAny_forIn_list _ (λrest b s'=>b.1=none/\s'=⟨hp,g,d,tk,os⟩/\∃(qs:List (Bool×Bool)),Paired (GH A.in1 ⟨hp,g,d,tk,os⟩) rest qs/\
   R (.ok (.ret (.bool (Tf qs (decide (items.size<items2.size)))))) ⟨hp,g,d,tk,os⟩) _
  case turn=>
   rintro⟨y,x⟩ rest b s' ⟨hb',rfl,qs,hq,hR⟩
   cases hq with
   | @cons _ p _ qs' hp1 hq'=>
    obtain⟨he,hlt⟩:=hp1
    refine W2 (he prog w _ _ ?_)
    obtain⟨pe,pl⟩:=p
    unfold Tf at hR
    cases pe with
    |true=>
     rw [if_pos rfl] at hR
     wp_walk
     exact⟨rfl,rfl,qs',hq',hR⟩
    |false=>
     rw [if_neg WC] at hR
     have hri:∀(E:Value->Shared->Prop) (Q:Value->Shared->Prop),Q (.bool pl) ⟨hp,g,d,tk,os⟩->wpAny (model prog w) A.in1 (richCompare .Lt y x) Q E ⟨hp,g,d,tk,os⟩:=hlt rfl prog w
     wp_walk using hri
     exact⟨_,rfl,by simpa using hR⟩
  case fin=>
   rintro⟨b1,b2⟩ s' ⟨hb',rfl,qs,hq,hR⟩
   simp only at hb'
   subst hb'
   cases hq
   unfold Tf at hR
   wp_walk
   exact⟨_,rfl,by simpa [W0v] using hR⟩
  case h=>
   exact⟨rfl,rfl,ps,hps,h⟩
theorem Mn.tuples {A:Around}{s:Shared}{l b:Addr}{items items2:Array Value}{ps:List (Bool×Bool)}(hl:s.heap.IsTuple l items)(hb:s.heap.IsTuple b items2)(hu:A.units<cLine)(hp:Paired (GH A.in1 s) (items.toList.zip items2.toList) ps) :
  Mn A s (.ref l) (.ref b) (Tf ps (decide (items.size<items2.size))):=λprog w E Q h=>by
 obtain⟨⟨cls,dd,data,sl⟩,ho,hc,n,hd⟩:=id hl
 obtain⟨⟨cls2,dd2,data2,sl2⟩,ho2,hc2,n2,hd2⟩:=id hb
 simp only at hc hd hc2 hd2
 subst hc hd hc2 hd2
 exact richCompare_meets_room (op:=.Lt) ⟨_,ho,rfl⟩ ⟨_,ho2,rfl⟩ PySem.F.slot_tuple_lt PySem.F.entry_tuple_lt (PySem.F.args_tuple_lt_2 _ _) (GL l b items items2 n n2 dd dd2 sl sl2 ps)
  ⟨ho,ho2,hp,show Value.bool (Tf ps (decide (items.size<items2.size)))≠Value.notImplemented/\Q (.bool (Tf ps (decide (items.size<items2.size)))) s from ⟨(λx=>nomatch x),h⟩⟩ hu
end
mutual
def ltD:D->D->Bool
 | .int a,b=>match b with | .int c=>decide (a<c)|_=>false
 | .str a,b=>match b with | .str c=>decide (a.cps.toList<c.cps.toList)|_=>false
 | .tup as,b=>match b with | .tup bs=>ltDs as bs|_=>false
 | .non,_=>false
 | .bl _,_=>false
 | .ref _,_=>false
 | .scr _,_=>false
def ltDs:List D->List D->Bool
 |[],b=>match b with|[]=>false|_ :: _=>true
 |a :: as,b=>match b with|[]=>false|b :: bs=>if eqD a b=true then ltDs as bs else ltD a b
end
def Ty:Nat->D->D->Bool
 |_,.int _,.int _=>true
 |_,.str _,.str _=>true
 |n+1,.tup as,.tup bs=>(as.zip bs).all λp=>Ty n p.1 p.2
 |_,_,_=>false
theorem Te (as bs:List D):ltD (.tup as) (.tup bs)=ltDs as bs:=by unfold ltD;rfl
theorem Ur (a b:D)(as bs:List D):ltDs (a :: as) (b :: bs)=if eqD a b=true then ltDs as bs else ltD a b:=by conv=>lhs;unfold ltDs
theorem JX:∀(as bs:List D),ltDs as bs=Tf ((as.zip bs).map λp=>(eqD p.1 p.2,ltD p.1 p.2)) (decide (as.length<bs.length))
 |[],[]=>by simp [ltDs,Tf]
 |[],_ :: _=>by simp [ltDs,Tf]
 |_ :: _,[]=>by simp [ltDs,Tf]
 |a :: as,b :: bs=>by
  rw [Ur,JX as bs,WY,W1,V2,V2]
  conv=>rhs;unfold Tf
  have:decide (as.length+1<bs.length+1)=decide (as.length<bs.length):=by
   rw [W0P];simp
  rw [this]
section
variable {X:Cx} {pins:List (Addr×Obj)} {σ:L2.St} {H:Hp} {s:Shared} {ρ:List Addr} (I:Inv X pins σ H s)
include I in
theorem Ar:∀(n:Nat) {A:Around} {d1 d2:D} {x y:V} {u v:Value},A.units+n<cLine->Ty n d1 d2=true->pln n d1=true->pln n d2=true->DR X.K ρ H d1 x->DR X.K ρ H d2 y->Zz x u->Zz y v->Mn A s u v (ltD d1 d2):=by
 intro n
 induction n with
 |zero=>
  intro A d1 d2 x y u v hu hc p1 p2 h1 h2 ru rv
  cases d1 with
  |int a=>
   cases d2 with
   |int c=>
    rw [h1.of_int] at ru;rw [h2.of_int] at rv
    obtain⟨t,rfl⟩:=ru;obtain⟨t',rfl⟩:=rv
    exact λprog w E Q h=>lt_int (by unfold ltD at h;exact h)
   |_=>cases hc
  |str a=>
   cases d2 with
   |str c=>
    rw [h1.of_str] at ru;rw [h2.of_str] at rv
    obtain⟨t,rfl⟩:=ru;obtain⟨t',rfl⟩:=rv
    exact λprog w E Q h=>PySem.P.lt_str (by unfold ltD at h;exact h)
   |_=>cases hc
  |tup _=>cases p1
  |_=>cases hc
 |succ n ih=>
  intro A d1 d2 x y u v hu hc p1 p2 h1 h2 ru rv
  cases d1 with
  |int a=>
   cases d2 with
   |int c=>
    rw [h1.of_int] at ru;rw [h2.of_int] at rv
    obtain⟨t,rfl⟩:=ru;obtain⟨t',rfl⟩:=rv
    exact λprog w E Q h=>lt_int (by unfold ltD at h;exact h)
   |_=>cases hc
  |str a=>
   cases d2 with
   |str c=>
    rw [h1.of_str] at ru;rw [h2.of_str] at rv
    obtain⟨t,rfl⟩:=ru;obtain⟨t',rfl⟩:=rv
    exact λprog w E Q h=>PySem.P.lt_str (by unfold ltD at h;exact h)
   |_=>cases hc
  |tup as=>
   cases d2 with
   |tup bs=>
    obtain⟨a,xs,rfl,a1,a2⟩:=h1.of_tup
    obtain⟨b,ys,rfl,b1,b2⟩:=h2.of_tup
    cases ru
    cases rv
    unfold pln at p1 p2
    unfold Ty at hc
    obtain⟨its,r1,pl1,_⟩:=I.tuple (.of a1)
    obtain⟨its2,r2,pl2,_⟩:=I.tuple (.of b1)
    have key:∀{as bs:List D} {xs ys:List V} {its its2:List Value},as.all (pln n)=true->bs.all (pln n)=true->((as.zip bs).all λp=>Ty n p.1 p.2)=true->DsR X.K ρ H as xs->DsR X.K ρ H bs ys->Zy xs its->Zy ys its2->
      Paired (GH A.in1 s) (its.zip its2) ((as.zip bs).map λp=>(eqD p.1 p.2,ltD p.1 p.2)):=by
     intro as
     induction as with
     |nil=>
      intro bs xs ys its its2 _ _ _ q1 _ q3 _
      unfold DsR at q1
      subst q1
      cases q3
      exact .nil
     |cons d as ih2=>
      intro bs xs ys its its2 z1 z2 z3 q1 q2 q3 q4
      unfold DsR at q1
      obtain⟨x,r,rfl,h1,h2⟩:=q1
      cases q3 with
      |cons r1 r2=>
       cases bs with
       |nil=>
        unfold DsR at q2
        subst q2
        cases q4
        exact .nil
       |cons e bs=>
        unfold DsR at q2
        obtain⟨y,r',rfl,h3,h4⟩:=q2
        cases q4 with
        |cons r3 r4=>
         rw [VD,WA] at z1 z2
         rw [WY,VD,WA] at z3
         rw [WY,WY,W1]
         refine .cons ⟨Jk I n (by rw [ZV];omega) z1.1 z2.1 h1 h3 r1 r3,λ_=>ih (by rw [ZV];omega) z3.1 z1.1 z2.1 h1 h3 r1 r3⟩ (ih2 z1.2 z2.2 z3.2 h2 h4 r2 r4)
    have hl:=Mn.tuples (A:=A) pl1 pl2 (by omega) (key p1 p2 hc a2 b2 r1 r2)
    rw [Te,JX,a2.length,b2.length,r1.length,r2.length]
    simpa using hl
   |_=>cases hc
  |_=>cases hc
end
end DL
namespace DL
open PySem L2
def Sq (x:D):List D->List D
 |[]=>[x]
 |y :: r=>if ltD y x=true then y :: Sq x r else x :: y :: r
def Bz:List D->List D
 |[]=>[]
 |x :: r=>Sq x (Bz r)
end DL
namespace DL
open PySem PySem.Spec PyProof.Rows L2
section
variable {X:Cx} {e a b c:Expr} {es:List Expr} {pos:Pos} {st:Stmt} {rest:List Stmt}
def mNx:MS:=λen S=>some (.nx,en,S)
def Ym (a b:MS):MS:=λen S=>(a en S).bind λp=>match p.1 with | .nx=>b p.2.1 p.2.2|f=>some (f,p.2.1,p.2.2)
theorem Q3:SB X [] mNx:=by
 refine BM L0 ?_
 rintro D σ H ⟨ρ,en,S,f,en',S',E,R,e,k⟩
 cases e
 exact k ρ H σ Ext.refl R E
theorem Zp {m:MS}(h:SS X st m):SB X [st] m:=PZ h
theorem Z7 {m n:MS}(h:SS X st m)(t:SB X rest n):SB X (st :: rest) (Ym m n):=by
 refine BM (MG h t) ?_
 rintro D σ H ⟨ρ,en,S,f,en',S',E,R,e,k⟩
 unfold Ym at e
 obtain⟨p,e1,e⟩:=W0.mp e
 obtain⟨fa,en1,S1⟩:=p
 refine⟨ρ,en,S,fa,en1,S1,E,R,e1,λρ1 H1 σ1 X1 R1 E1=>?_⟩
 cases fa with
 |nx=>exact⟨ρ1,en1,S1,f,en',S',E1,R1,e,λρ2 H2 σ2 X2 R2 E2=>k ρ2 H2 σ2 (X1.trans X2) R2 E2⟩
 |rt d=>cases e;exact k ρ1 H1 σ1 X1 R1 E1
 |bk=>cases e;exact k ρ1 H1 σ1 X1 R1 E1
 |ct=>cases e;exact k ρ1 H1 σ1 X1 R1 E1
def Qm (m:M D):MS:=λen S=>(m en S).map λp=>(.rt p.1,en,p.2)
theorem ZG {m:M D}(h:SE X e m):SS X (.Return (some e) pos) (Qm m):=by
 refine J8 (FQ h) ?_
 rintro D σ H ⟨ρ,en,S,f,en',S',E,R,e,k⟩
 unfold Qm at e
 obtain⟨p,e1,e2⟩:=We.mp e
 cases e2
 exact⟨ρ,en,S,p.1,p.2,E,R,e1,λx ρ1 H1 X1 R1 d1=>k ρ1 H1 σ X1 R1 (E.up X1) x d1⟩
def Hc:MS:=λen S=>some (.rt .non,en,S)
def mBk:MS:=λen S=>some (.bk,en,S)
def mCt:MS:=λen S=>some (.ct,en,S)
def Td (m:M D):MS:=λen S=>(m en S).map λp=>(.nx,en,p.2)
theorem Bx {m:M D}(h:SE X e m)(hs:swapsWith e none pos.line X.env=pure false:=by rfl):SS X (.Expr e pos) (Td m):=by
 refine J8 (L3 h hs) ?_
 rintro D σ H ⟨ρ,en,S,f,en',S',E,R,e,k⟩
 unfold Td at e
 obtain⟨p,e1,e2⟩:=We.mp e
 cases e2
 exact⟨ρ,en,S,p.1,p.2,E,R,e1,λx ρ1 H1 X1 R1 d1=>k ρ1 H1 σ X1 R1 (E.up X1)⟩
def G1 (c:M Bool)(a b:MS):MS:=λen S=>(c en S).bind λp=>if p.1 then a en p.2 else b en p.2
theorem Jr {c:Expr}{A B:List Stmt}{mc:M Bool}{ma mb:MS}(hc:ST X c mc)(ha:SB X A ma)(hb:SB X B mb):SS X (.If c A B pos) (G1 mc ma mb):=by
 refine J8 (CN hc ha hb) ?_
 rintro D σ H ⟨ρ,en,S,f,en',S',E,R,e,k⟩
 unfold G1 at e
 obtain⟨p,e1,e⟩:=W0.mp e
 refine⟨ρ,en,S,p.1,p.2,E,R,e1,λρ1 H1 X1 R1=>?_⟩
 by_cases hp:p.1=true
 ·rw [if_pos hp] at e ⊢
  exact⟨ρ1,en,p.2,f,en',S',E.up X1,R1,e,λρ2 H2 σ2 X2 R2 E2=>k ρ2 H2 σ2 (X1.trans X2) R2 E2⟩
 ·rw [if_neg hp] at e ⊢
  exact⟨ρ1,en,p.2,f,en',S',E.up X1,R1,e,λρ2 H2 σ2 X2 R2 E2=>k ρ2 H2 σ2 (X1.trans X2) R2 E2⟩
def GD (K:W3)(g:TG)(gd:D->En->Option En):Prop:=
 ∀ρ H en σ d v en',EnR K ρ H en σ->DR K ρ H d v->gd d en=some en'->∃σ',EnR K ρ H en' σ'/\∀Q:L2.St->Hp->Prop,Q σ' H->g v σ H Q
def GsD (K:W3)(g:TGs)(gd:List D->En->Option En):Prop:=
 ∀ρ H en σ ds vs en',EnR K ρ H en σ->DsR K ρ H ds vs->gd ds en=some en'->∃σ',EnR K ρ H en' σ'/\∀Q:L2.St->Hp->Prop,Q σ' H->g vs σ H Q
def gN (i:Nat):D->En->Option En:=λd en=>some (en.set i (some d))
def LS:List D->En->Option En:=λds en=>match ds with|[]=>some en|_=>none
def Gt (g:D->En->Option En)(r:List D->En->Option En):List D->En->Option En:=λds en=>match ds with|[]=>none|d :: ds=>(g d en).bind (r ds)
def gT (n:Nat)(gs:List D->En->Option En):D->En->Option En:=λd en=>match d with | .tup ds=>if ds.length=n then gs ds en else none|_=>none
theorem ZA {K:W3}{i:Nat}:GD K (UG i) (gN i):=by
 intro ρ H en σ d v en' E h e
 cases e
 exact⟨_,E.set h,λQ q=>q⟩
theorem LR {K:W3}:GsD K EE LS:=by
 intro ρ H en σ ds vs en' E h e
 cases ds with
 |nil=>
  cases e
  have hv:vs=[]:=by unfold DsR at h;exact h
  exact⟨σ,E,λQ q=>⟨hv,q⟩⟩
 |cons d ds=>cases e
theorem Gs {K:W3}{t:TG}{u:TGs}{g:D->En->Option En}{r:List D->En->Option En}(h1:GD K t g)(h2:GsD K u r):GsD K (NU t u) (Gt g r):=by
 intro ρ H en σ ds vs en' E h e
 cases ds with
 |nil=>cases e
 |cons d ds=>
  obtain⟨en1,e1,e2⟩:=W0.mp e
  unfold DsR at h
  obtain⟨x,xs,rfl,d1,d2⟩:=h
  obtain⟨σ1,E1,k1⟩:=h1 ρ H en σ d x en1 E d1 e1
  obtain⟨σ2,E2,k2⟩:=h2 ρ H en1 σ1 ds xs en' E1 d2 e2
  exact⟨σ2,E2,λQ q=>⟨x,xs,rfl,k1 _ (k2 Q q)⟩⟩
theorem Ej {K:W3}{n:Nat}{t:TGs}{gs:List D->En->Option En}(h:GsD K t gs):GD K (Ho K n t) (gT n gs):=by
 intro ρ H en σ d v en' E hd e
 cases d with
 |tup ds=>
  obtain⟨a,xs,rfl,h1,h2⟩:=hd.of_tup
  dsimp only [gT] at e
  split at e
  ·obtain⟨σ',E',k⟩:=h ρ H en σ ds xs en' E h2 e
   exact⟨σ',E',λQ q=>⟨a,xs,rfl,.of h1,by rw [←h2.length];assumption,k Q q⟩⟩
  ·cases e
 |_=>cases e
def YL (m:M D)(g:D->En->Option En):MS:=λen S=>(m en S).bind λp=>(g p.1 en).map λen'=>(.nx,en',p.2)
theorem Km {K:W3}{m:M D}{g:TG}{gd:D->En->Option En}(hg:GD K g gd){D:Ends}{σ:L2.St}{H:Hp}(h:tMS K (YL m gd) D σ H):Cq (tM K m) g D σ H:=by
 obtain⟨ρ,en,S,f,en',S',E,R,e,k⟩:=h
 unfold YL at e
 obtain⟨p,e1,e⟩:=W0.mp e
 obtain⟨en1,e2,e3⟩:=We.mp e
 cases e3
 refine⟨ρ,en,S,p.1,p.2,E,R,e1,λx ρ1 H1 X1 R1 d1=>?_⟩
 obtain⟨σ',E',q⟩:=hg ρ1 H1 en σ p.1 x _ (E.up X1) d1 e2
 exact q _ (k ρ1 H1 σ' X1 R1 E')
theorem ZO {i:Nat}{x:Str}{m:M D}{pos':Pos}(hN:X.N.Nodup)(hi:X.N[i]? = some x)(hx:Loc X.env.scope x)(he:SE X e m)(hs:swapsWith e (some (.Name x pos')) pos.line X.env=pure false:=by rfl)
  (hf:X.fn x=true\/X.env.scope.names.lookup x=some .local:=by first|exact .inl rfl|exact .inr rfl|assumption):SS X (.Assign [.Name x pos'] e pos) (YL m (gN i)):=
 J8 (FP hN hi hx he hs hf) λ_ _ _=>Km ZA
inductive Gd where
 |no
 |lst (n:Nat)
 |zl (gs:List (Nat×List D))
 |fr (n:Nat) (kvs:List (D×D)) (th:Bool)
def TF (gd:Gd)(ds:List D)(S:Sto):Prop:=match gd with | .no=>True | .lst n=>S[n]? = some (.lst ds) | .zl gs=>∀p∈gs,S[p.1]? = some (.lst p.2) | .fr n kvs _=>S[n]? = some (.fdct kvs)
def Mv (gd:Gd)(S:Sto):Option Sto:=match gd with
 | .fr n _ true=>match S[n]? with|some (.fdct kvs)=>some (S.set n (.dct kvs))|_=>none
 |_=>some S
def ItR (K:W3)(ρ0:List Addr)(H0:Hp)(J:It)(ds:List D)(gd:Gd):Prop:=∀ρ H S,Ext ρ0 H0 ρ H->StR K ρ H S->TF gd ds S->
 (∀(i:Nat) d,ds[i]? = some d->J.go i H/\∀x H',J.yld i H x H'->Ext ρ H ρ H'/\StR K ρ H' S/\DR K ρ H' d x)/\J.stop ds.length H
abbrev ItD:=List D×Gd
def GF (X:Cx)(gd:Gd)(ρ:List Addr)(H:Hp):Prop:=match gd with
 | .fr n _ true=>∃a,ρ[n]? = some a/\(∀o u,H a≠some (.frz o u))/\(∀xs,H a≠some (.tup xs))/\∀o u,X.H₀ a≠some (.frz o u)
 |_=>True
def tMI (X:Cx)(mi:M ItD):TI:=λσ H R=>∃ρ en S r S',EnR X.K ρ H en σ/\StR X.K ρ H S/\mi en S=some (r,S')/\∀J ρ' H',Ext ρ H ρ' H'->StR X.K ρ' H' S'->ItR X.K ρ' H' J r.1 r.2->GF X r.2 ρ' H->R J H'
def SI (X:Cx)(tg iter:Expr)(mi:M ItD):Prop:=PI X tg iter (tMI X mi)
def Bf (X:Cx)(H H':Hp):Prop:=∀pins σ s,Inv X pins σ H s->Inv X pins σ H' s
theorem Bf.refl {X:Cx}{H:Hp}:Bf X H H:=λ_ _ _ h=>h
theorem BS {t:TE}(h:PE X e t):PE X e (λσ H Q=>t σ H λv H'=>∃H'',Bf X H' H''/\Q v H''):=by
 intro pins s σ H Q I q
 exact thn (h pins s σ H _ I q) λv s1 ⟨x,H1,I1,r1,H2,th,q1⟩=>⟨x,H2,th _ _ _ I1,r1,q1⟩
theorem BN {st:Stmt}{t:TS}(h:PS X st t):PS X st (λD σ H=>t ⟨λσ H'=>∃H'',Bf X H' H''/\D.nx σ H'',λv H'=>∃H'',Bf X H' H''/\D.rt v H'',λσ H'=>∃H'',Bf X H' H''/\D.bk σ H'',λσ H'=>∃H'',Bf X H' H''/\D.ct σ H''⟩ σ H):=by
 intro pins s σ H D I q
 refine thn (h pins s σ H _ I q) λf s1 z=>?_
 cases f with
 |next=>obtain⟨σ1,H1,I1,H2,th,q1⟩:=z;exact⟨σ1,H2,th _ _ _ I1,q1⟩
 |brk=>obtain⟨σ1,H1,I1,H2,th,q1⟩:=z;exact⟨σ1,H2,th _ _ _ I1,q1⟩
 |cont=>obtain⟨σ1,H1,I1,H2,th,q1⟩:=z;exact⟨σ1,H2,th _ _ _ I1,q1⟩
 |ret u=>obtain⟨v,σ1,H1,I1,r1,H2,th,q1⟩:=z;exact⟨v,σ1,H2,th _ _ _ I1,r1,q1⟩
theorem Gq {pins:List (Addr×Obj)}{σ:L2.St}{H:Hp}{s:Shared}{a:Addr}{o:Obj}{tab:List (Key×V)}(I:Inv X pins σ H s)(e:H a=some (.frz o (.dK tab)))(hn:∀o u,X.H₀ a≠some (.frz o u)):Inv X pins σ (upd H a (.dK tab)) s:=by
 have ho:ZB X.prog X.w H s.heap a (.frz o (.dK tab)):=I.hok a _ e
 have ok':HOk X.prog X.w (upd H a (.dK tab)) s.heap:=λb u hb=>by
  by_cases q:b=a
  ·subst q
   rw [Z5] at hb
   cases hb
   obtain⟨_,z,hd,vs,r⟩:=ho
   exact⟨z,hd,vs,r⟩
  ·rw [Za q] at hb
   refine (I.hok b u hb).stay (λ_ _ _ h=>h) (λc h=>?_) λc xs h=>?_
   ·rw [Za (QN h e (λz=>nomatch z))];exact h
   ·rw [Za (QN h e (λz=>nomatch z))];exact h
 have ne0:∀{b:Addr},H b=none->upd H a (.dK tab) b=none:=λ{b} h=>by rw [Za (Ne.symm (Zg e h))];exact h
 refine⟨I.ok,I.os,I.bare,⟨I.base.keep,I.base.slot,λb u h1 h2 h3=>ne0 (I.base.free b u h1 h2 h3),I.base.there,λb xs h=>?_,λb u v h=>?_,λb ps h=>?_⟩,I.loc,I.cell,ne0 I.free,λx c h=>ne0 (I.freeC x c h),λp hp=>?_,ok',I.len⟩
 ·have:=I.base.tups b xs h
  rw [Za (QN this e (λz=>nomatch z))];exact this
 ·have:=I.base.frzs b u v h
  by_cases q:b=a
  ·subst q;exact absurd h (hn _ _)
  ·rw [Za q];exact this
 ·obtain⟨more,this⟩:=I.base.tbls b ps h
  exact⟨more,by rw [Za (QN this e (λz=>nomatch z))];exact this⟩
 ·obtain⟨p1,p2,p3⟩:=I.pin p hp
  exact⟨p1,ne0 p2,p3⟩
theorem JQ {gd:Gd}{ρ ρ' ρ1:List Addr}{H H1 H':Hp}{S' S'':Sto}(X1:Ext ρ H ρ1 H1)(F:GF X gd ρ1 H)(X2:Ext ρ1 H1 ρ' H')(R:StR X.K ρ' H' S')(e:Mv gd S'=some S'') :
  ∃H'',Bf X H' H''/\Ext ρ H ρ' H''/\StR X.K ρ' H'' S''/\Ext0 ρ' H' ρ' H''/\∀p o,H' p=none->H'' p=none/\Bf X (upd H' p o) (upd H'' p o):=by
 have triv:some S'=some S''->∃H'',Bf X H' H''/\Ext ρ H ρ' H''/\StR X.K ρ' H'' S''/\Ext0 ρ' H' ρ' H''/\∀p o,H' p=none->H'' p=none/\Bf X (upd H' p o) (upd H'' p o):=λz=>by
  cases z
  exact⟨H',.refl,X1.trans X2,R,Ext.refl.weak,λp o h=>⟨h,.refl⟩⟩
 cases gd with
 |no=>exact triv e
 |lst n=>exact triv e
 |zl gs=>exact triv e
 |fr n kvs th=>
  cases th with
  |false=>exact triv e
  |true=>
   obtain⟨a,h1,h2,h3,h4⟩:=F
   dsimp only [Mv] at e
   split at e
   ·rename_i kvs' hn
    cases e
    obtain⟨o,tab,t1,t2,t3⟩:=R.thaw (X2.pre n a h1) hn
    refine⟨_,λpins σ s I=>Gq I t1 h4,⟨λm b hb=>X2.pre m b (X1.pre m b hb),λb xs hb=>?_,λb o u hb=>?_⟩,t2,t3,λp ob hp=>?_⟩
    ·have:=(X1.trans X2).tup b xs hb
     rw [Za (QN this t1 (λz=>nomatch z))];exact this
    ·have:=(X1.trans X2).frz b o u hb
     by_cases q:b=a
     ·subst q;exact absurd hb (h2 _ _)
     ·rw [Za q];exact this
    ·have hpa:a≠p:=Zg t1 hp
     refine⟨by rw [Za (Ne.symm hpa)];exact hp,λpins σ s I=>?_⟩
     have:=Gq (a:=a) (o:=o) (tab:=tab) I (by rw [Za hpa];exact t1) h4
     have eq:upd (upd H' p ob) a (.dK tab)=upd (upd H' a (.dK tab)) p ob:=by
      funext b
      unfold upd
      by_cases q1:b=a
      ·rw [if_pos q1]
       by_cases q2:b=p
       ·exact absurd (q1.symm.trans q2) hpa
       ·rw [if_neg q2,if_pos q1]
      ·rw [if_neg q1]
       by_cases q2:b=p
       ·rw [if_pos q2,if_pos q2]
       ·rw [if_neg q2,if_neg q2,if_neg q1]
     rw [eq] at this
     exact this
   ·cases e
theorem Um {tg iter:Expr}{w w':TI}(h:PI X tg iter w)(i:∀σ H R,w' σ H R->w σ H R):PI X tg iter w':=λpins s σ H R I q=>h pins s σ H R I (i σ H R q)
open Classical in
def Yd (ds:List D)(gd:Gd)(g:D->En->Option En)(body:MS):List D->En->Sto->Option (Fl×En×Sto)
 |[],en,S=>if TF gd ds S then some (.nx,en,S) else none
 |d :: r,en,S=>if TF gd ds S then (g d en).bind λen1=>(body en1 S).bind λp=>match p.1 with
   | .nx=>Yd ds gd g body r p.2.1 p.2.2
   | .ct=>Yd ds gd g body r p.2.1 p.2.2
   | .bk=>some (.nx,p.2.1,p.2.2)
   | .rt v=>some (.rt v,p.2.1,p.2.2)
  else none
def thF (gd:Gd)(r:Option (Fl×En×Sto)):Option (Fl×En×Sto):=r.bind λq=>(Mv gd q.2.2).map λS'=>(q.1,q.2.1,S')
def MZ (mi:M ItD)(g:D->En->Option En)(body:MS):MS:=λen S=>(mi en S).bind λp=>thF p.1.2 (Yd p.1.1 p.1.2 g body p.1.1 en p.2)
theorem Ug {tg iter:Expr}{body:List Stmt}{mi:M ItD}{g:TG}{gd:D->En->Option En}{mb:MS}(hp:PassesOwn (model X.prog X.w) X.A X.env X.xe)(hc:X.calm=true)(hi:SI X tg iter mi)(hg:PG X tg g)(hgd:GD X.K g gd)(hb:SB X body mb)
  (hs:∀x,foldedSetIterable iter X.env x=pure x:=by intro _;rfl):SS X (.For tg iter body [] pos) (MZ mi gd mb):=by
 refine J8 (BN (FR hp hc hi hg hb hs)) ?_
 rintro D σ H ⟨ρ,en,S,f,enF,SF,E,R,e,k⟩
 unfold MZ at e
 obtain⟨p,e1,e⟩:=W0.mp e
 obtain⟨⟨ds,gdn⟩,S1⟩:=p
 refine⟨ρ,en,S,(ds,gdn),S1,E,R,e1,λJ ρ1 H1 X1 R1 IT GG=>?_⟩
 dsimp only at e IT GG
 unfold thF at e
 obtain⟨⟨f0,en0,S0⟩,eg,e0⟩:=W0.mp e
 obtain⟨SF',e00,e0⟩:=We.mp e0
 injection e0 with z1 z2
 injection z2 with z2 z3
 dsimp only at z1 z2 z3 e00
 subst z1 z2 z3
 refine⟨λi m σ' H'=>m+i=ds.length/\∃ρ' en' S',Ext ρ1 H1 ρ' H'/\StR X.K ρ' H' S'/\EnR X.K ρ' H' en' σ'/\Yd ds gdn gd mb (ds.drop i) en' S'=some (f0,en0,S0),⟨ds.length,by omega,ρ1,en,S1,Ext.refl,R1,E.up X1,by simpa using eg⟩,?_⟩
 rintro i m σ' H' ⟨hm,ρ',en1,S2,X2,R2,E2,e2⟩
 cases hd:ds.drop i with
 |nil=>
  rw [hd] at e2
  unfold Yd at e2
  split at e2
  ·rename_i hg0
   cases e2
   have hi:i=ds.length:=by
    have:=congrArg Vb hd
    simp at this
    omega
   subst hi
   obtain⟨H9,t1,t2,t3,t4,t5⟩:=JQ X1 GG X2 R2 e00
   exact .inl ⟨(IT ρ' H' _ X2 R2 hg0).2,H9,t1,k ρ' H9 σ' t2 t3 (E2.up0 t4)⟩
  ·cases e2
 |cons d r=>
  rw [hd] at e2
  unfold Yd at e2
  split at e2
  ·rename_i hg0
   obtain⟨en3,e3,e2⟩:=W0.mp e2
   obtain⟨q,e4,e2⟩:=W0.mp e2
   obtain⟨fq,en4,S4⟩:=q
   have hlt:i<ds.length:=by
    have:=congrArg Vb hd
    simp at this
    omega
   have hdi:ds[i]? = some d:=by
    have:=congrArg (λl=>l[0]?) hd
    simpa using this
   have hr:ds.drop (i+1)=r:=by
    have:=congrArg List.tail hd
    simpa using this
   obtain⟨go,yl⟩:=(IT ρ' H' _ X2 R2 hg0).1 i d hdi
   refine .inr ⟨go,λσ'' H''=>∃ρ'' en'' S'',Ext ρ1 H1 ρ'' H''/\StR X.K ρ'' H'' S''/\EnR X.K ρ'' H'' en'' σ''/\Yd ds gdn gd mb r en'' S''=some (f0,en0,S0),λσ'' H'' ⟨ρ'',en'',S'',a1,a2,a3,a4⟩=>⟨m-1,by omega,by omega,ρ'',en'',S'',a1,a2,a3,by rw [hr];exact a4⟩,λx H3 y=>?_⟩
   obtain⟨X3,R3,d3⟩:=yl x H3 y
   obtain⟨σ3,E3,gq⟩:=hgd ρ' H3 en1 σ' d x en3 (E2.up X3) d3 e3
   refine gq _ ⟨ρ',en3,S2,fq,en4,S4,E3,R3,e4,λρ4 H4 σ4 X4 R4 E4=>?_⟩
   cases fq with
   |nx=>exact⟨ρ4,en4,S4,(X2.trans X3).trans X4,R4,E4,e2⟩
   |ct=>exact⟨ρ4,en4,S4,(X2.trans X3).trans X4,R4,E4,e2⟩
   |bk=>
    cases e2
    obtain⟨H9,t1,t2,t3,t4,t5⟩:=JQ X1 GG ((X2.trans X3).trans X4) R4 e00
    exact⟨H9,t1,k ρ4 H9 σ4 t2 t3 (E4.up0 t4)⟩
   |rt v=>
    cases e2
    obtain⟨H9,t1,t2,t3,t4,t5⟩:=JQ X1 GG ((X2.trans X3).trans X4) R4 e00
    exact λx dx=>⟨H9,t1,k ρ4 H9 σ4 t2 t3 (E4.up0 t4) x (DR.mono t4 _ _ dx)⟩
  ·cases e2
open Classical in
def Zt (ds:List D)(gd:Gd)(cap:En)(g:D->En->Option En)(c:M Bool)(m:M D):List D->List D->Sto->Option (List D×Sto)
 |[],acc,S=>if TF gd ds S/\acc.length≤Wc then some (acc,S) else none
 |d :: r,acc,S=>if TF gd ds S/\acc.length≤Wc then (g d cap).bind λen=>(c en S).bind λp=>
   if p.1 then (m en p.2).bind λq=>Zt ds gd cap g c m r (acc++[q.1]) q.2 else Zt ds gd cap g c m r acc p.2
  else none
def Q2 (nT:Nat)(caps:List Nat)(en:En):En:=VS nT none++caps.map λj=>(en[j]?).getD none
def thC (gd:Gd)(r:Option (List D×Sto)):Option (List D×Sto):=r.bind λq=>(Mv gd q.2).map λS'=>(q.1,S')
def Ys (mi:M ItD)(nT:Nat)(caps:List Nat)(g:D->En->Option En)(c:M Bool)(m:M D):M (List D):=λen S=>(mi en S).bind λp=>thC p.1.2 (Zt p.1.1 p.1.2 (Q2 nT caps en) g c m p.1.1 [] p.2)
theorem Cj {K:W3}{ρ:List Addr}{H:Hp}{en:En}{σ:L2.St}{nT:Nat}{caps:List Nat}(E:EnR K ρ H en σ):EnR K ρ H (Q2 nT caps en) (Q0 nT caps σ):=by
 refine⟨by simp [Q2,Q0],λi d e=>?_⟩
 unfold Q2 at e
 have hi:nT≤i:=by
  by_cases hi:i<nT
  ·rw [WF (by simpa using hi),VC] at e
   split at e<;>cases e
  ·exact W00 hi
 rw [WP (by simpa using hi),VQ,WU] at e
 unfold Q0
 rw [WP (by simpa using hi),VQ,WU]
 cases ej:caps[i-nT]? with
 |none=>rw [ej] at e;cases e
 |some j=>
  rw [ej] at e
  have e':(en[j]?).getD none=some d:=WQ e
  have e2:en[j]? = some (some d):=by
   cases q:en[j]? with
   |none=>rw [q] at e';cases e'
   |some z=>rw [q] at e';rw [show z=some d from e']
  obtain⟨x,h1,h2⟩:=E.get j d e2
  exact⟨x,by rw [W5,h1];rfl,h2⟩
def ZS:M Bool:=λ_ S=>some (true,S)
theorem Jp {mi:M ItD}{nT:Nat}{caps:List Nat}{g:TG}{gd:D->En->Option En}{tt:TT}{c:M Bool}{m:M D}(hgd:GD X.K g gd)(htt:∀σ H Q,tMT X.K c σ H Q->tt σ H Q){σ:L2.St}{H:Hp}{Q:VK}
  {ρ:List Addr} {en:En} {S S':Sto} {ds:List D} (E:EnR X.K ρ H en σ) (R:StR X.K ρ H S) (e:Ys mi nT caps gd c m en S=some (ds,S'))
  (k:∀a xs ρ' H',Ext ρ H ρ' H'->StR X.K ρ' H' S'->H' a=none->DsR X.K ρ' H' ds xs->Q (.ref a) (upd H' a (.lst xs))):PB (tMI X mi) nT caps g tt (tM X.K m) σ H (λv H'=>∃H'',Bf X H' H''/\Q v H''):=by
 unfold Ys at e
 obtain⟨p,e1,e⟩:=W0.mp e
 obtain⟨⟨is,gdn⟩,S1⟩:=p
 refine⟨ρ,en,S,(is,gdn),S1,E,R,e1,λJ ρ1 H1 X1 R1 IT GG=>?_⟩
 dsimp only at e IT GG
 unfold thC at e
 obtain⟨⟨ds0,S0⟩,eg,e0⟩:=W0.mp e
 obtain⟨SF',e00,e0⟩:=We.mp e0
 injection e0 with z1 z2
 dsimp only at z1 z2 e00
 subst z1 z2
 refine⟨λi m0 ys H'=>m0+i=is.length/\∃ρ' S2 acc,Ext ρ1 H1 ρ' H'/\StR X.K ρ' H' S2/\DsR X.K ρ' H' acc ys/\Zt is gdn (Q2 nT caps en) gd c m (is.drop i) acc S2=some (ds0,S0),⟨is.length,by omega,ρ1,S1,[],Ext.refl,R1,.nil,by simpa using eg⟩,?_⟩
 rintro i m0 ys H' ⟨hm,ρ',S2,acc,X2,R2,D2,e2⟩
 cases hd:is.drop i with
 |nil=>
  rw [hd] at e2
  unfold Zt at e2
  split at e2
  ·rename_i hg0
   cases e2
   have hi:i=is.length:=by
    have:=congrArg Vb hd
    simp at this
    omega
   subst hi
   refine .inl ⟨(IT ρ' H' _ X2 R2 hg0.1).2,by rw [←D2.length];exact hg0.2,λa ha=>?_⟩
   obtain⟨H9,t1,t2,t3,t4,t5⟩:=JQ X1 GG X2 R2 e00
   obtain⟨h9,t6⟩:=t5 a (.lst ys) ha
   exact⟨upd H9 a (.lst ys),t6,k a ys ρ' H9 t2 t3 h9 (DsR.mono t4 _ _ D2)⟩
  ·cases e2
 |cons d r=>
  rw [hd] at e2
  unfold Zt at e2
  split at e2
  ·rename_i hg0
   obtain⟨en3,e3,e2⟩:=W0.mp e2
   obtain⟨q,e4,e2⟩:=W0.mp e2
   have hlt:i<is.length:=by
    have:=congrArg Vb hd
    simp at this
    omega
   have hdi:is[i]? = some d:=by
    have:=congrArg (λl=>l[0]?) hd
    simpa using this
   have hr:is.drop (i+1)=r:=by
    have:=congrArg List.tail hd
    simpa using this
   obtain⟨go,yl⟩:=(IT ρ' H' _ X2 R2 hg0.1).1 i d hdi
   refine .inr ⟨go,by rw [←D2.length];exact hg0.2,λx H3 y=>?_⟩
   obtain⟨X3,R3,d3⟩:=yl x H3 y
   obtain⟨σ3,E3,gq⟩:=hgd ρ' H3 (Q2 nT caps en) (Q0 nT caps σ) d x en3 (((Cj E).up X1).up X2 |>.up X3) d3 e3
   refine gq _ (htt _ _ _ ⟨ρ',en3,S2,q.1,q.2,E3,R3,e4,λρ4 H4 X4 R4=>?_⟩)
   by_cases hq:q.1=true
   ·rw [if_pos hq] at e2 ⊢
    obtain⟨w,e5,e2⟩:=W0.mp e2
    refine⟨ρ4,en3,q.2,w.1,w.2,E3.up X4,R4,e5,λv ρ5 H5 X5 R5 d5=>⟨m0-1,by omega,by omega,ρ5,w.2,acc++[w.1],((X2.trans X3).trans X4).trans X5,R5,?_,by rw [hr];exact e2⟩⟩
    exact (((D2.up X3).up X4).up X5).append (.cons d5 .nil)
   ·rw [if_neg hq] at e2 ⊢
    exact⟨m0-1,by omega,by omega,ρ4,q.2,acc,(X2.trans X3).trans X4,R4,(D2.up X3).up X4,by rw [hr];exact e2⟩
  ·cases e2
structure CompSc (X:Cx) (scope:Scope) (cn:List Str) (caps:List Nat):Prop where
 cell:∀y∈scope.names,y.2≠.cell
 kind:scope.kind = .function
 names:∀y∈scope.names,y.2 = .local->scope.names.lookup y.1=some .local
 free:∀y∈scope.names,y.2 = .free->X.env.scope.names.lookup y.1=some .cell\/X.env.scope.names.lookup y.1=some .free
 cap:Jq X scope cn caps
section
variable {tg iter elt:Expr} {ifs:List Expr} {scope:Scope} {tgs cn:List Str} {caps:List Nat} {mi:M ItD} {g:TG} {gd:D->En->Option En} {mc:M Bool} {m:M D}
def SF (X:Cx)(ifs:List Expr)(m:M Bool):Prop:=PF X ifs (tMT X.K m)
theorem YD:SF X [] ZS:=by
 intro pins s σ H Q I q
 obtain⟨ρ,en,S,b,S',E,R,e,k⟩:=q
 cases e
 exact A0 pins s σ H Q I (k ρ H Ext.refl R)
theorem Fy {c:Expr}(h:ST X c mc):SF X [c] mc:=FZ h
theorem J3 (hc:X.calm=true)(sc:CompSc X scope cn caps)(hi:SI X tg iter mi)(hlow:Kr tgs.length g)(hgd:GD X.K g gd)
  (hg:∀fp s H C,PG (Zo X scope (tgs++cn) fp s H C) tg g) (hf:∀fp s H C,SF (Zo X scope (tgs++cn) fp s H C) ifs mc) (he:∀fp s H C,SE (Zo X scope (tgs++cn) fp s H C) elt m)
  (hs:∀x,foldedSetIterable iter X.env x=pure x:=by intro _;rfl):SQ X (.ListComp elt [⟨tg,iter,ifs,0⟩] scope pos) (Ys mi tgs.length caps gd mc m):=by
 refine Zm (BS (BU (tt:=tMT X.K mc) (te:=tM X.K m) hc sc.cell sc.kind sc.names sc.free sc.cap hi hlow hg hf he hs)) ?_
 rintro σ H Q ⟨ρ,en,S,ds,S',E,R,e,k⟩
 exact Jp hgd (λ_ _ _ h=>h) E R e λa xs ρ' H' X1 R1 ha d1=>k a xs ρ' _ (X1.trans (Ext.new ha)) (R1.new ha) (.inl (.of Z5)) (d1.up (Ext.new ha))
def YK (m:M (List D)):M D:=λen S=>(m en S).map λp=>(.ref p.2.length,p.2++[.lst p.1])
theorem T5 (hc:X.calm=true)(sc:CompSc X scope cn caps)(hi:SI X tg iter mi)(hlow:Kr tgs.length g)(hgd:GD X.K g gd)
  (hg:∀fp s H C,PG (Zo X scope (tgs++cn) fp s H C) tg g) (hf:∀fp s H C,SF (Zo X scope (tgs++cn) fp s H C) ifs mc) (he:∀fp s H C,SE (Zo X scope (tgs++cn) fp s H C) elt m)
  (hs:∀x,foldedSetIterable iter X.env x=pure x:=by intro _;rfl):SE X (.ListComp elt [⟨tg,iter,ifs,0⟩] scope pos) (YK (Ys mi tgs.length caps gd mc m)):=by
 refine Zm (BS (BU (tt:=tMT X.K mc) (te:=tM X.K m) hc sc.cell sc.kind sc.names sc.free sc.cap hi hlow hg hf he hs)) ?_
 rintro σ H Q ⟨ρ,en,S,v,S',E,R,e,k⟩
 unfold YK at e
 obtain⟨p,e1,e2⟩:=We.mp e
 cases e2
 refine Jp hgd (λ_ _ _ h=>h) E R e1 λa xs ρ' H' X1 R1 ha d1=>?_
 refine k _ (ρ'++[a]) _ (X1.trans (Ext.newRef ha)) (R1.push ha ⟨xs,Z5,d1.up (Ext.newRef ha)⟩) (.ref ?_)
 rw [←R1.len];simp
end
theorem J2 {tg iter elt:Expr}{ifs:List Expr}{scope:Scope}{tgs cn:List Str}{caps:List Nat}{mi:M ItD}{g:TG}{gd:D->En->Option En}{mc:M Bool}{m:M D}{i:Nat}{y:Str}{py spos:Pos}
  (hN:X.N.Nodup) (hy:X.N[i]? = some y) (hx:X.env.scope.names.lookup y=some .local)
  (hc:X.calm=true) (sc:CompSc X scope cn caps) (hi:SI X tg iter mi) (hlow:Kr tgs.length g) (hgd:GD X.K g gd)
  (hg:∀fp s H C,PG (Zo X scope (tgs++cn) fp s H C) tg g) (hf:∀fp s H C,SF (Zo X scope (tgs++cn) fp s H C) ifs mc) (he:∀fp s H C,SE (Zo X scope (tgs++cn) fp s H C) elt m)
  (hsw:swapsWith (.ListComp elt [⟨tg,iter,ifs,0⟩] scope pos) (some (.Name y py)) spos.line X.env=pure true:=by rfl)
  (hs:∀x,foldedSetIterable iter X.env x=pure x:=by intro _;rfl):SS X (.Assign [.Name y py] (.ListComp elt [⟨tg,iter,ifs,0⟩] scope pos) spos) (YL (YK (Ys mi tgs.length caps gd mc m)) (gN i)):=by
 refine J8 (BN (L1 (tt:=tMT X.K mc) (te:=tM X.K m) hsw hN hy hx hc sc.cell sc.kind sc.names sc.free sc.cap hi hlow hg hf he hs)) ?_
 rintro D σ H ⟨ρ,en,S,f,en',S',E,R,e,k⟩
 unfold YL YK at e
 obtain⟨p,e1,e⟩:=W0.mp e
 obtain⟨q,e2,e3⟩:=We.mp e1
 obtain⟨en1,e4,e5⟩:=We.mp e
 cases e3
 cases e4
 cases e5
 refine Jp (Q:=λv H''=>D.nx (σ.set i (some v)) H'') hgd (λ_ _ _ h=>h) E R e2 λa xs ρ' H' X1 R1 ha d1=>?_
 have d2:DR X.K (ρ'++[a]) (upd H' a (.lst xs)) (.ref q.2.length) (.ref a):=.ref (by rw [←R1.len];simp)
 exact k (ρ'++[a]) _ _ (X1.trans (Ext.newRef ha)) (R1.push ha ⟨xs,Z5,d1.up (Ext.newRef ha)⟩) ((E.up (X1.trans (Ext.newRef ha))).set d2)
def Fb:D->Sto->Option (List D)
 | .tup ds,_=>some ds
 | .ref n,S=>match S[n]? with|some (.lst ds)=>some ds|_=>none
 | .scr ns,_=>some (ns.map D.int)
 |_,_=>none
theorem PJ {K:W3}{ρ:List Addr}{H:Hp}{S:Sto}{d:D}{x:V}{ds:List D}(R:StR K ρ H S)(h:DR K ρ H d x)(e:Fb d S=some ds):∃a xs,x = .ref a/\(SqL K H a xs\/SqT K H a xs)/\DsR K ρ H ds xs:=by
 cases d with
 |tup es=>
  obtain⟨a,xs,rfl,h1,h2⟩:=h.of_tup
  cases e
  exact⟨a,xs,rfl,.inr (.of h1),h2⟩
 |ref n=>
  obtain⟨a,h1,rfl⟩:=h.of_ref
  obtain⟨ob,e1,r⟩:=R.obj h1
  dsimp only [Fb] at e
  rw [e1] at e
  cases ob with
  |lst es=>
   cases e
   obtain⟨xs,h2,h3⟩:=r
   exact⟨a,xs,rfl,.inl (.of h2),h3⟩
  |dct kvs=>cases e
  |fdct kvs=>cases e
  |ins C fs=>cases e
 |scr ns=>
  obtain⟨a,rfl,h1⟩:=h.of_scr
  cases e
  exact⟨a,_,rfl,.inl h1.seq,.ints ns⟩
 |_=>cases e
def mSq (m:M D):M (List D):=λen S=>(m en S).bind λp=>(Fb p.1 p.2).map λds=>(ds,p.2)
theorem By {m:M D}(h:SE X e m):SQ X e (mSq m):=by
 refine Zm h ?_
 rintro σ H Q ⟨ρ,en,S,ds,S',E,R,e,k⟩
 unfold mSq at e
 obtain⟨p,e1,e⟩:=W0.mp e
 obtain⟨es,e2,e3⟩:=We.mp e
 cases e3
 refine⟨ρ,en,S,p.1,p.2,E,R,e1,λx ρ1 H1 X1 R1 d1=>?_⟩
 obtain⟨a,xs,rfl,h1,h2⟩:=PJ R1 d1 e2
 exact k a xs ρ1 H1 X1 R1 h1 h2
def spD (K:W3)(n:Nat)(F:List D->Sto->Option (D×Sto)):Sp:=λvs H Q _=>vs.length=n/\rDs K F vs H Q
def Zv (F:List D->Sto->Option (D×Sto))(m:M (List D)):M D:=λen S=>(m en S).bind λp=>F p.1 p.2
theorem Z8 {x:Str}{p:Pos}{k n:Nat}{f:Addr}{fd:FuncData}{ps:List Str}{F:List D->Sto->Option (D×Sto)}{m:M (List D)}(hF:FnOk X.prog X.w X.K X.mg X.base CX0 k f fd ps (spD X.K n F))(hr:Room k X.A)(hg:Gl X x)(hm:X.mg x=some (.ref f))
  (hk:WT X.K (.ref f)=true) (hb:TH X.K fd ps []) (ha:SA X (a :: es) m)
  (hlen:∀en S r,m en S=some r->r.1.length=n)
  (hdb:(x == ("__debug__" : Str))=false:=by decide) (he:Wn (a :: es) X.env=(false,eval a X.env) :: Wn es X.env:=by rfl) (hpl:(backTo pos (Wn es X.env)).any (·.1)=false:=by rfl) :
  SE X (.Call (.Name x p) (a :: es) [] pos) (Zv F m):=by
 refine Zm (Ld hF hr hg hm hk hb .nil CT ha hdb he hpl) ?_
 rintro σ H Q ⟨ρ,en,S,v,S',E,R,e,k⟩
 unfold Zv at e
 obtain⟨r,e1,e2⟩:=W0.mp e
 refine⟨ρ,en,S,r.1,r.2,E,R,e1,λxs ρ1 H1 X1 R1 d1=>?_⟩
 show spD X.K n F (xs++[]) H1 Q E0
 rw [Vt]
 exact⟨by rw [←d1.length];exact hlen _ _ _ e1,ρ1,r.2,r.1,v,S',R1,d1,e2,λz ρ2 H2 X2 R2 d2=>k z ρ2 H2 (X1.trans X2) R2 d2⟩
theorem Z9:∀en S r,Y3 en S=some r->r.1.length=0:=by
 intro en S r e;cases e;rfl
theorem Z0 {ma:M D}{mr:M (List D)}{n:Nat}(h:∀en S r,mr en S=some r->r.1.length=n):∀en S r,Z3 ma mr en S=some r->r.1.length=n+1:=by
 intro en S r e
 unfold Z3 at e
 obtain⟨p,e1,e⟩:=W0.mp e
 obtain⟨q,e2,e3⟩:=We.mp e
 cases e3
 rw [V2,h _ _ _ e2]
mutual
def JF (n:Nat):D->Bool
 | .tup ds=>lowDs n ds
 | .ref k=>decide (k<n)
 |_=>true
def lowDs (n:Nat):List D->Bool
 |[]=>true
 |d :: ds=>JF n d&&lowDs n ds
end
section
variable {K:W3} {ρ:List Addr} {H:Hp}
mutual
theorem At:∀(d:D) (x:V),DR K ρ H d x->JF ρ.length d=true
 | .non,_,_=>by unfold JF;rfl
 | .bl _,_,_=>by unfold JF;rfl
 | .int _,_,_=>by unfold JF;rfl
 | .str _,_,_=>by unfold JF;rfl
 | .scr _,_,_=>by unfold JF;rfl
 | .tup ds,x,h=>by
  obtain⟨a,xs,_,_,h3⟩:=h.of_tup
  unfold JF
  exact lows_of ds xs h3
 | .ref n,x,h=>by
  obtain⟨a,h1,_⟩:=h.of_ref
  unfold JF
  exact decide_eq_true (Wl.mp h1).1
theorem lows_of:∀(ds:List D) (xs:List V),DsR K ρ H ds xs->lowDs ρ.length ds=true
 |[],_,_=>by unfold lowDs;rfl
 |d :: ds,xs,h=>by
  unfold DsR at h
  obtain⟨x,r,_,h1,h2⟩:=h
  unfold lowDs
  rw [At d x h1,lows_of ds r h2];rfl
end
mutual
theorem Pn (n:Nat):∀(d:D) (x:V),DR K ρ H d x->JF n d=true->DR K (ρ.take n) H d x
 | .non,_,h,_=>by unfold DR at h ⊢;exact h
 | .bl _,_,h,_=>by unfold DR at h ⊢;exact h
 | .int _,_,h,_=>by unfold DR at h ⊢;exact h
 | .str _,_,h,_=>by unfold DR at h ⊢;exact h
 | .scr _,_,h,_=>by unfold DR at h ⊢;exact h
 | .tup ds,x,h,l=>by
  obtain⟨a,xs,rfl,h2,h3⟩:=h.of_tup
  unfold JF at l
  exact .tup h2 (cuts_of n ds xs h3 l)
 | .ref k,x,h,l=>by
  obtain⟨a,h1,rfl⟩:=h.of_ref
  unfold JF at l
  exact .ref (by rw [Vd (of_decide_eq_true l)];exact h1)
theorem cuts_of (n:Nat):∀(ds:List D) (xs:List V),DsR K ρ H ds xs->lowDs n ds=true->DsR K (ρ.take n) H ds xs
 |[],_,h,_=>by unfold DsR at h ⊢;exact h
 |d :: ds,xs,h,l=>by
  unfold DsR at h
  obtain⟨x,r,rfl,h1,h2⟩:=h
  unfold lowDs at l
  rw [WA] at l
  exact .cons (Pn n d x h1 l.1) (cuts_of n ds r h2 l.2)
end
end
theorem Cn {K:W3}{ρ ρ1:List Addr}{H H1:Hp}{S S1:Sto}(R:StR K ρ H S)(X:Ext ρ H ρ1 H1)(R1:StR K ρ1 H1 S1)(e:S1.take S.length=S):StR K (ρ1.take S.length) H1 S/\Ext ρ H (ρ1.take S.length) H1:=by
 have hl:S.length≤S1.length:=by
  have:=congrArg Vb e
  rw [WL] at this
  omega
 have low:∀(n:Nat) ob,S[n]? = some ob->n<S.length:=λn ob h=>(Wl.mp h).1
 refine⟨⟨by rw [WL,R1.len];omega,λi j a h1 h2=>?_,λn ob h=>?_⟩,⟨λn a h=>?_,X.tup,X.frz⟩⟩
 ·have hi:i<S.length:=by
   have:=(Wl.mp h1).1
   rw [WL] at this;omega
  have hj:j<S.length:=by
   have:=(Wl.mp h2).1
   rw [WL] at this;omega
  rw [Vd hi] at h1
  rw [Vd hj] at h2
  exact R1.inj i j a h1 h2
 ·have hn:=low n ob h
  have h1:S1[n]? = some ob:=by rw [←Vd hn,e];exact h
  obtain⟨a,e1,r1⟩:=R1.ob n ob h1
  obtain⟨a0,e0,r0⟩:=R.ob n ob h
  refine⟨a,by rw [Vd hn];exact e1,?_⟩
  cases ob with
  |lst ds=>
   obtain⟨xs,q1,q2⟩:=r1
   obtain⟨ys,p1,p2⟩:=r0
   have l:=lows_of ds ys p2
   rw [R.len] at l
   exact⟨xs,q1,cuts_of _ ds xs q2 l⟩
  |dct kvs=>
   have l:lowDs S.length (kvs.map (·.2))=true:=by
    rcases r0 with ⟨ks0,ys,p1,p2,p3,p4⟩|⟨ks0,ys,p1,p2,p3,p4⟩
    ·have l:=lows_of _ ys p4
     rw [R.len] at l;exact l
    ·have l:=lows_of _ ys p4
     rw [R.len] at l;exact l
   rcases r1 with ⟨ks,xs,q1,q2,q3,q4⟩|⟨ks,xs,q1,q2,q3,q4⟩
   ·exact .inl ⟨ks,xs,q1,q2,q3,cuts_of _ _ xs q4 l⟩
   ·exact .inr ⟨ks,xs,q1,q2,q3,cuts_of _ _ xs q4 l⟩
  |fdct kvs=>
   obtain⟨o,ks,xs,q1,q2,q3,q4⟩:=r1
   obtain⟨o',ks0,ys,p1,p2,p3,p4⟩:=r0
   have l:=lows_of _ ys p4
   rw [R.len] at l
   exact⟨o,ks,xs,q1,q2,q3,cuts_of _ _ xs q4 l⟩
  |ins C fs=>
   obtain⟨Ca,dx,xs,q0,q1,q2⟩:=r1
   obtain⟨Ca0,dx0,ys,p0,p1,p2⟩:=r0
   have l:=lows_of _ ys p2
   rw [R.len] at l
   exact⟨Ca,dx,xs,q0,q1,cuts_of _ _ xs q2 l⟩
 ·have hn:n<S.length:=by rw [←R.len];exact (Wl.mp h).1
  rw [Vd hn]
  exact X.pre n a h
open Classical in
def UX (S:Sto)(r:D×Sto):D×Sto:=if r.2.take S.length=S/\JF S.length r.1=true then (r.1,S) else r
def Qc (nN:Nat)(ds:List D):En:=ds.map some++VS (nN-ds.length) none
def J6 (nN n:Nat)(m:MS):List D->Sto->Option (D×Sto):=λds S=>if ds.length=n then (m (Qc nN ds) S).bind λp=>match p.1 with
 | .rt v=>some (UX S (v,p.2.2))
 | .nx=>some (UX S (.non,p.2.2))
 |_=>none
 else none
theorem Bq {K:W3}{ρ ρ1:List Addr}{H H1:Hp}{S S1 S':Sto}{v v':D}{x:V}{Q:VK}(R:StR K ρ H S)(X:Ext ρ H ρ1 H1)(R1:StR K ρ1 H1 S1)(d:DR K ρ1 H1 v x)(e:UX S (v,S1)=(v',S'))
  (k:∀z ρ' H',Ext ρ H ρ' H'->StR K ρ' H' S'->DR K ρ' H' v' z->Q z H'):Q x H1:=by
 unfold UX at e
 split at e
 ·rename_i h
  cases e
  obtain⟨R2,X2⟩:=Cn R X R1 h.1
  exact k x _ H1 X2 R2 (Pn _ v x d h.2)
 ·cases e
  exact k x ρ1 H1 X R1 d
theorem Mw {K:W3}{ρ:List Addr}{H:Hp}{ds:List D}{vs:List V}{N:List Str}(h:DsR K ρ H ds vs):EnR K ρ H (Qc N.length ds) (L2.start N vs):=by
 unfold Qc L2.start
 refine⟨by simp [h.length],λi d e=>?_⟩
 by_cases hi:i<ds.length
 ·rw [WF (by simpa using hi),WU] at e
  rw [WF (by rw [Wg,←h.length];exact hi),WU]
  cases q:ds[i]? with
  |none=>rw [q] at e;cases e
  |some c=>
   rw [q] at e;cases e
   obtain⟨x,h1,h2⟩:=h.get q
   exact⟨x,by rw [h1];rfl,h2⟩
 ·rw [WP (by simpa using hi),VC] at e
  split at e<;>cases e
theorem UZ {P:Program}{w:World}{K:W3}{mg:Str->Option Value}{base:Heap}{x qual:Str}{st:Stmt}{f:Addr}{fd:FuncData}{N ps:List Str}{k n nN:Nat}{m:MS}(F:Fun K x qual st f fd)(S:FnScope N ps (Z2 st))(hn:ps.length=n)(hN:N.length=nN)
  (hb:∀(cdv:Value) (A:Around) (outer:List Env) (s:Shared) (H:Hp) (E:XK),Room k (A.deeper (envOfC qual (Z2 st) s.heap.objs.size f cdv))->SB (F0 CX0 P w K mg base N qual (Z2 st) f cdv A outer s H E).nox (Zr st) m) :
  FnOk P w K mg base CX0 (k+1) f fd ps (spD K n (J6 nN n m)):=by
 refine F.ok S (λvs H Q E h=>by rw [h.1,hn]) (λcdv A outer s H vs Q E hr h=>?_)
 obtain⟨hl,ρ,S0,ds,v,S',R,d1,e,q⟩:=h
 refine⟨_,hb cdv A outer s H E hr,?_⟩
 unfold J6 at e
 split at e
 ·obtain⟨p,e1,e2⟩:=W0.mp e
  obtain⟨fl,en',S1⟩:=p
  refine⟨ρ,_,S0,fl,en',S1,hN ▸ Mw d1,R,e1,λρ1 H1 σ1 X1 R1 E1=>?_⟩
  cases fl with
  |rt u=>exact λz dz=>Bq R X1 R1 dz (WQ e2) q
  |nx=>exact Bq R X1 R1 .flat_non (WQ e2) q
  |bk=>cases e2
  |ct=>cases e2
 ·cases e
end
end DL
namespace DL
open PySem PySem.Spec PyProof.Rows L2
theorem Yt {k:Nat}{A:Around}(hr:Room k A):A.units+64<cLine:=by have:=hr.un;omega
section
variable {X:Cx}
def gLt:D->D->Sto->Option (D×Sto)
 | .int i,.int j,S=>some (.bl (decide (i<j)),S)
 | .str i,.str j,S=>some (.bl (decide (i.cps.toList<j.cps.toList)),S)
 | .tup as,.tup bs,S=>if (Ty 30 (.tup as) (.tup bs)&&(pln 30 (.tup as)&&pln 30 (.tup bs)))=true then some (.bl (ltD (.tup as) (.tup bs)),S) else none
 |_,_,_=>none
theorem EG {a b:D}{S S':Sto}{v:D}(e:gLt a b S=some (v,S')):v = .bl (ltD a b)/\S=S'/\Ty 30 a b=true/\pln 30 a=true/\pln 30 b=true:=by
 cases a with
 |int i=>
  cases b with
  |int j=>cases e;exact⟨by unfold ltD;rfl,rfl,rfl,rfl,rfl⟩
  |_=>cases e
 |str i=>
  cases b with
  |str j=>cases e;exact⟨by unfold ltD;rfl,rfl,rfl,rfl,rfl⟩
  |_=>cases e
 |tup as=>
  cases b with
  |tup bs=>
   dsimp only [gLt] at e
   split at e
   ·rename_i hc
    cases e
    rw [WA,WA] at hc
    exact⟨rfl,rfl,hc.1,hc.2.1,hc.2.2⟩
   ·cases e
  |_=>cases e
 |_=>cases e
theorem A8 (hu:X.A.units+64<cLine):OpD X (compareOp .Lt) gLt:=by
 intro pins s σ H x y v u Q I rx ry h
 obtain⟨ρ,S,d1,d2,z,S',R,h1,h2,e,k⟩:=h
 obtain⟨rfl,rfl,hc,p1,p2⟩:=EG e
 exact Ar I 30 (by omega) hc p1 p2 h1 h2 rx ry _ _ _ _ ⟨.bl _,H,I,rfl,k _ ρ H Ext.refl R .flat_bl⟩
def Ct (a b:D):Bool:=pln 30 a&&pln 30 b
def gEq:D->D->Sto->Option (D×Sto)
 | .int i,.int j,S=>some (.bl (decide (i=j)),S)
 | .str i,.str j,S=>some (.bl (decide (i=j)),S)
 | .bl i,.bl j,S=>some (.bl (decide (i=j)),S)
 |a,b,S=>if Ct a b=true then some (.bl (eqD a b),S) else none
def gNe:D->D->Sto->Option (D×Sto)
 | .int i,.int j,S=>some (.bl (!decide (i=j)),S)
 | .str i,.str j,S=>some (.bl (!decide (i=j)),S)
 | .bl i,.bl j,S=>some (.bl (!decide (i=j)),S)
 |a,b,S=>if Ct a b=true then some (.bl (!eqD a b),S) else none
theorem Q9 {α:Type}[BEq α][LawfulBEq α][DecidableEq α](a b:α):(a == b)=decide (a=b):=by
 rw [W0P];simp
theorem EI {a b:D}{S S':Sto}{v:D}(e:gEq a b S=some (v,S')):v = .bl (eqD a b)/\S=S'/\pln 30 a=true/\pln 30 b=true:=by
 unfold gEq at e
 split at e
 ·cases e;exact⟨by unfold eqD;dsimp only;rw [Q9],rfl,rfl,rfl⟩
 ·cases e;exact⟨by unfold eqD;dsimp only;rw [Q9],rfl,rfl,rfl⟩
 ·cases e;exact⟨by unfold eqD;dsimp only;rw [Q9],rfl,rfl,rfl⟩
 ·split at e
  ·rename_i hc
   cases e
   unfold Ct at hc
   rw [WA] at hc
   exact⟨rfl,rfl,hc.1,hc.2⟩
  ·cases e
theorem EF {a b:D}{S S':Sto}{v:D}(e:gNe a b S=some (v,S')):v = .bl (!eqD a b)/\S=S'/\pln 30 a=true/\pln 30 b=true:=by
 unfold gNe at e
 split at e
 ·cases e;exact⟨by unfold eqD;dsimp only;rw [Q9],rfl,rfl,rfl⟩
 ·cases e;exact⟨by unfold eqD;dsimp only;rw [Q9],rfl,rfl,rfl⟩
 ·cases e;exact⟨by unfold eqD;dsimp only;rw [Q9],rfl,rfl,rfl⟩
 ·split at e
  ·rename_i hc
   cases e
   unfold Ct at hc
   rw [WA] at hc
   exact⟨rfl,rfl,hc.1,hc.2⟩
  ·cases e
theorem Uo (hu:X.A.units+64<cLine):OpD X (compareOp .Eq) gEq:=by
 intro pins s σ H x y v u Q I rx ry h
 obtain⟨ρ,S,d1,d2,z,S',R,h1,h2,e,k⟩:=h
 obtain⟨rfl,rfl,p1,p2⟩:=EI e
 exact FI I 30 (by omega) p1 p2 h1 h2 rx ry _ _ _ _ ⟨.bl _,H,I,rfl,k _ ρ H Ext.refl R .flat_bl⟩
theorem KA (hu:X.A.units+64<cLine):OpD X (compareOp .NotEq) gNe:=by
 intro pins s σ H x y v u Q I rx ry h
 obtain⟨ρ,S,d1,d2,z,S',R,h1,h2,e,k⟩:=h
 obtain⟨rfl,rfl,p1,p2⟩:=EF e
 exact FH I 30 (by omega) p1 p2 h1 h2 rx ry _ _ _ _ ⟨.bl _,H,I,rfl,k _ ρ H Ext.refl R .flat_bl⟩
def inD (x:D):D->Sto->Option Bool
 | .str j,_=>match x with | .str i=>some (!(VX j i 0 j.length 1).isEmpty)|_=>none
 | .tup ys,_=>if (pln 30 x&&ys.all (pln 30))=true then some (ys.any λy=>eqD y x) else none
 | .ref n,S=>match S[n]? with
  |some (.lst ys)=>if (pln 30 x&&ys.all (pln 30))=true then some (ys.any λy=>eqD y x) else none
  |_=>(M2 S n x).map λkvs=>(Tv kvs x).isSome
 |_,_=>none
def gIn:D->D->Sto->Option (D×Sto):=λa b S=>(inD a b S).map λr=>(.bl r,S)
theorem Go {pins:List (Addr×Obj)}{σ:L2.St}{H:Hp}{s:Shared}{ρ:List Addr}{A:Around}{x:D}{vx:V}{ux:Value}{ys:List D}{vs:List V}{us:List Value}(I:Inv X pins σ H s)(hu:A.units+64<cLine)
  (px:pln 30 x=true) (py:ys.all (pln 30)=true) (hx:DR X.K ρ H x vx) (rx:Zz vx ux) (hy:DsR X.K ρ H ys vs) (ry:Zy vs us) :
  ∃e:Value->Bool,(∀u,u∈us->WO A.in1 s u ux (e u))/\us.any e=ys.any λy=>eqD y x:=by
 classical
 let P:Value->D->Prop:=λu d=>pln 30 d=true/\∃v,Zz v u/\DR X.K ρ H d v
 refine⟨λu=>if h:∃d,P u d then eqD (Classical.choose h) x else false,?_,?_⟩
 ·intro u hm
  obtain⟨i,hi⟩:=List.mem_iff_getElem?.mp hm
  have hlen:=ry.length
  have hlen2:=hy.length
  have li:i<us.length:=(Wl.mp hi).1
  have g1:ys[i]? = some ys[i]:=Wu (by omega)
  obtain⟨v,v1,v2⟩:=hy.get g1
  obtain⟨u',u1,u2⟩:=ry.get v1
  rw [hi] at u1
  cases u1
  have pd:=WM.mp py _ (W01 (by omega:i<ys.length))
  have h:∃d,P u d:=⟨ys[i],pd,v,u2,v2⟩
  dsimp only
  rw [dif_pos h]
  obtain⟨q1,v',q2,q3⟩:=Classical.choose_spec h
  exact Jk I 30 (by rw [ZV];omega) q1 px q3 hx q2 rx
 ·have key:∀{ys:List D} {vs:List V} {us:List Value},ys.all (pln 30)=true->DsR X.K ρ H ys vs->Zy vs us->us.any (λu=>if h:∃d,P u d then eqD (Classical.choose h) x else false)=ys.any λy=>eqD y x:=by
   intro ys
   induction ys with
   |nil=>
    intro vs us _ hy ry
    unfold DsR at hy
    subst hy
    cases ry
    rfl
   |cons d ys ih=>
    intro vs us py hy ry
    unfold DsR at hy
    obtain⟨v,r,rfl,h1,h2⟩:=hy
    cases ry with
    | @cons _ u _ us' r1 r2=>
     rw [VD,WA] at py
     rw [W07,W07,ih py.2 h2 r2]
     have h:∃d,P u d:=⟨d,py.1,v,r1,h1⟩
     rw [dif_pos h]
     obtain⟨q1,v',q2,q3⟩:=Classical.choose_spec h
     have hv:v'=v:=Zz.inj q2 r1
     subst hv
     rw [DR.one 30 _ d _ q1 py.1 q3 h1]
  exact key py hy ry
theorem KC (hu:X.A.units+64<cLine):OpD X (compareOp .In) gIn:=by
 intro pins s σ H x y v u Q I rx ry h
 obtain⟨ρ,S,d1,d2,z,S',R,h1,h2,e,k⟩:=h
 obtain⟨r,e1,e2⟩:=We.mp e
 cases e2
 cases d2 with
 |str j=>
  cases d1 with
  |str i=>
   cases e1
   rw [h1.of_str] at rx
   rw [h2.of_str] at ry
   obtain⟨t,rfl⟩:=rx
   obtain⟨t',rfl⟩:=ry
   exact in_str ⟨.bl _,H,I,rfl,k _ ρ H Ext.refl R .flat_bl⟩
  |_=>cases e1
 |tup ys=>
  dsimp only [inD] at e1
  split at e1
  ·rename_i hc
   cases e1
   rw [WA] at hc
   obtain⟨a,xs,rfl,a1,a2⟩:=h2.of_tup
   cases ry
   obtain⟨its,q,pl,hz⟩:=I.tuple (.of a1)
   obtain⟨f,f1,f2⟩:=Go I hu hc.1 hc.2 h1 rx a2 q
   refine SeqAt.in_tupleAt f pl (λw hw=>f1 w (by simpa using hw)) ⟨.bl _,H,I,rfl,?_⟩
   rw [show its.toArray.any f=its.any f by simp,f2]
   exact k _ ρ H Ext.refl R .flat_bl
  ·cases e1
 |ref n=>
  obtain⟨a,a1,rfl⟩:=h2.of_ref
  cases ry
  dsimp only [inD] at e1
  split at e1
  ·rename_i ys hn
   split at e1
   ·rename_i hc
    cases e1
    rw [WA] at hc
    obtain⟨ob,eo,ro⟩:=R.obj a1
    rw [hn] at eo
    cases eo
    obtain⟨xs,x1,x2⟩:=ro
    obtain⟨its,q,pl,hz⟩:=I.list (.of x1)
    obtain⟨f,f1,f2⟩:=Go I hu hc.1 hc.2 h1 rx x2 q
    refine SeqAt.in_listAt f pl.isList (λw hw=>f1 w (by simpa using hw)) ⟨.bl _,H,I,rfl,?_⟩
    rw [show its.toArray.any f=its.any f by simp,f2]
    exact k _ ρ H Ext.refl R .flat_bl
   ·cases e1
  ·obtain⟨kvs,e3,e4⟩:=We.mp e1
   subst e4
   obtain⟨g1,g2⟩:=M1 R a1 e3 h1
   cases hd:Tv kvs d1 with
   |some w=>
    rw [hd] at k
    obtain⟨x',x1,x2⟩:=g1 w hd
    exact Ch (by omega) I x1 rx λs' I'=>⟨.bl _,H,I',rfl,k _ ρ H Ext.refl R .flat_bl⟩
   |none=>
    rw [hd] at k
    exact Ch (by omega) I (g2 hd) rx λs' I'=>⟨.bl _,H,I',rfl,k _ ρ H Ext.refl R .flat_bl⟩
 |_=>cases e1
end
end DL
namespace DL
open PySem PySem.Spec PyProof.Rows PySem.W L2
section
variable {X:Cx} {pins:List (Addr×Obj)} {σ:L2.St} {H:Hp} {s:Shared} {ρ:List Addr}
def skD:D->Option Nat
 | .int _=>some 0
 | .str _=>some 1
 | .tup (.int _ :: _)=>some 2
 | .tup (.str _ :: _)=>some 3
 | .tup (.tup _ :: _)=>some 4
 |_=>none
def Ih (ds:List D):Bool:=[0,1,2,3,4].any λc=>ds.all λd=>skD d == some c
def Db (ds:List D):Bool:=ds.all (pln 30)&&ds.all λa=>ds.all λb=>Ty 30 a b
def TQ (ds:List D):Bool:=decide (ds.length<64)&&(decide (ds.length<2)||(Ih ds&&Db ds))
end
end DL
namespace DL
open PySem PySem.Spec PyProof.Rows PySem.W L2
section
variable {X:Cx} {pins:List (Addr×Obj)} {σ:L2.St} {H:Hp} {s:Shared} {ρ:List Addr}
end
end DL
namespace L2
open PySem PySem.Spec PyProof.Rows
section
variable {X:Cx}
theorem Ad:OpR X (compareOp .Is) (λx y H Q=>∃c,y = .bl c/\Q (.bl (decide (x = .bl c))) H):=by
 intro pins s σ H x y v u Q I rx ry h
 obtain⟨c,rfl,q⟩:=h
 cases ry
 cases x with
 |bl b=>cases rx;exact is_bool (Qh I q (by cases b<;>cases c<;>decide))
 |non=>cases rx;exact Wk (Qh I q (by cases c<;>decide))
 |int i=>obtain⟨t,rfl⟩:=rx;exact Wk (Qh I q (by cases c<;>rfl))
 |str i=>obtain⟨t,rfl⟩:=rx;exact Wk (Qh I q (by cases c<;>rfl))
 |byt i=>obtain⟨t,rfl⟩:=rx;exact Wk (Qh I q (by cases c<;>rfl))
 |flt i=>obtain⟨t,rfl⟩:=rx;exact Wk (Qh I q (by cases c<;>rfl))
 |ref a=>cases rx;exact Wk (Qh I q (by cases c<;>rfl))
 |ty n=>cases rx;exact Wk (Qh I q (by cases c<;>rfl))
theorem MO:OpR X (binaryOp .Add) (λx y H Q=>∃a b ys,x = .ref a/\y = .ref b/\SqT X.K H a []/\SqT X.K H b ys/\Q (.ref b) H):=by
 intro pins s σ H x y v u Q I rx ry h
 obtain⟨a,b,ys,rfl,rfl,ha,hb,q⟩:=h
 cases rx
 cases ry
 obtain⟨its,r1,p1,_⟩:=I.tuple ha
 obtain⟨its2,r2,p2,_⟩:=I.tuple hb
 have hv:its=[]:=r1.nil_iff.mpr rfl
 subst hv
 obtain⟨⟨cls,dd,data,sl⟩,ho,hc,n,hd⟩:=id p1
 obtain⟨⟨cls2,dd2,data2,sl2⟩,ho2,hc2,n2,hd2⟩:=id p2
 simp only at hc hd hc2 hd2
 subst hc hd hc2 hd2
 exact concat_meets ⟨_,ho,rfl⟩ ⟨_,ho2,rfl⟩ noFill_tuple_add seq_tuple_add W0q W0i (W0f _ _)
  (tuple_addW0 a b _ _ n n2 dd dd2 sl sl2 (by simp)) ⟨ho,ho2,⟨.ref b,H,I,rfl,q⟩⟩
theorem GR:OpR X (binaryOp .Mult) (λx y H Q=>∃z n,x = .str z/\y = .int n/\MulOk z n/\Q (.str (Txt.mul z n)) H):=by
 intro pins s σ H x y v u Q I rx ry h
 obtain⟨z,n,rfl,rfl,hok,q⟩:=h
 obtain⟨t,rfl⟩:=rx
 obtain⟨t',rfl⟩:=ry
 exact SB.mul hok λt'' k=>⟨.str (Txt.mul z n),H,I.tok k,⟨t'',rfl⟩,q⟩
theorem Fv:SlR X (λx lo hi H Q=>∃z,x = .str z/\z.length≤Wc/\Q (.str (Vc z lo hi)) H):=by
 intro pins s σ H x v vl vu lo hi sl Q I rx hs pl pu h
 obtain⟨z,rfl,hz,q⟩:=h
 obtain⟨t,rfl⟩:=rx
 refine⟨"str",_,F.slot_str_getitem.lookup,typeIs_str _ _ _,?_⟩
 have fin:∀t' k,EP X pins σ Q (.str (Vc z lo hi) t') { s with toks:=k }:=λt' k=>⟨.str (Vc z lo hi),H,I.tok k,⟨t',rfl⟩,q⟩
 obtain⟨o,e1,e2,e3⟩:=hs
 cases pl with
 |none=>
  cases pu with
  |none=>exact VY (l:=none) (u:=none) (st:=none) ⟨o,e1,e2,e3⟩ rfl (W0R ⟨Wx (Txt.slice_le z _ _) hz,λt' k=>fin t' k⟩)
  |int j tj=>exact VY (l:=none) (u:=some (j,tj)) (st:=none) ⟨o,e1,e2,e3⟩ rfl (W0R ⟨Wx (Txt.slice_le z _ _) hz,λt' k=>fin t' k⟩)
 |int i ti=>
  cases pu with
  |none=>exact VY (l:=some (i,ti)) (u:=none) (st:=none) ⟨o,e1,e2,e3⟩ rfl (W0R ⟨Wx (Txt.slice_le z _ _) hz,λt' k=>fin t' k⟩)
  |int j tj=>exact VY (l:=some (i,ti)) (u:=some (j,tj)) (st:=none) ⟨o,e1,e2,e3⟩ rfl (W0R ⟨Wx (Txt.slice_le z _ _) hz,λt' k=>fin t' k⟩)
theorem JP:∀{bs:List Bool} {us:List Value},Zy (bs.map V.bl) us->us=bs.map Value.bool
 |[],_,h=>by cases h;rfl
 |b :: bs,_,h=>by
  cases h with
  |cons r t=>
   have e:=JP t
   rw [W1,←e,show _=Value.bool b from r]
theorem Uk (bs:List Bool):((Wr bs.length).all λi=>bs.getD i true)=bs.all id:=by
 rw [W0P,WM,WM]
 constructor
 ·intro h b hb
  obtain⟨i,hi,rfl⟩:=W0E.mp hb
  have:=h i (List.mem_range.mpr hi)
  simpa [V8,hi] using this
 ·intro h i hi
  have hi':=List.mem_range.mp hi
  have:=h bs[i] (W01 hi')
  simpa [V8,hi'] using this
theorem QY (prog:Program)(w:World)(A:Around)(bs:List Bool):TruthOf prog w A (λi v=>((bs.map Value.bool).toArray)[i]? = some v) (λi=>bs.getD i true):=by
 intro i v s Q E h q
 have h':bs[i]?.map Value.bool=some v:=by simpa using h
 cases e:bs[i]? with
 |none=>rw [e] at h';cases h'
 |some b=>
  rw [e] at h'
  cases h'
  have:bs.getD i true=b:=by simp [V8,e]
  have q':Q (bs.getD i true) s:=q
  rw [this] at q'
  exact W0s q'
theorem UQ (hc:X.calm=true):YH X (.builtin "all") (λxs H Q=>∃(a:Addr) (bs:List Bool),xs=[.ref a]/\(SqL X.K H a (bs.map V.bl)\/SqT X.K H a (bs.map V.bl))/\Q (.bl (bs.all id)) H):=by
 intro pins s σ H xs us Q I r h
 obtain⟨a,bs,rfl,hq,q⟩:=h
 obtain⟨u,rfl,ru⟩:=Qb r
 cases ru
 refine call_all_walk ?_
 rcases hq with hq|hq
 ·obtain⟨its,rv,p,hz⟩:=I.list hq
  have e:=JP rv
  subst e
  refine W09 p.isList ?_
  have ne:a≠s.heap.objs.size:=by
   obtain⟨o,e,_⟩:=p.isList
   exact WJ (Ws e)
  refine⟨_,_,_,_,_,_,λi=>bs.getD i true,rfl,Walks.list (A:=X.A.in1) (show X.A.in1.handled=none from I.ok.hd hc) _ a ne (bs.map Value.bool).toArray,⟨⟨_,Wv _ rfl,rfl,rfl⟩,p.isList.extBut (λb o _ e=>W7 _ e) ne⟩,QY _ _ _ bs,λh' tk k=>?_⟩
  have e2:(List.map Value.bool bs).toArray.size=bs.length:=by simp
  rw [e2,Uk]
  exact⟨.bl (bs.all id),H,I.kept (h':=h') (t':=tk) (λb o e=>k b o (by simp [WJ (Ws e)]) (W7 _ e)),rfl,q⟩
 ·obtain⟨its,rv,p,hz⟩:=I.tuple hq
  have e:=JP rv
  subst e
  refine W02 (show s.heap.IsTuple a (bs.map Value.bool).toArray from p) ?_
  have ne:a≠s.heap.objs.size:=WJ p.lt
  refine⟨_,_,_,_,_,_,λi=>bs.getD i true,rfl,Walks.tuple (A:=X.A.in1) (show X.A.in1.handled=none from I.ok.hd hc) _ a ne (bs.map Value.bool).toArray,⟨⟨_,Wv _ rfl,rfl,rfl⟩,W0S (show s.heap.IsTuple a (bs.map Value.bool).toArray from p) (λb o _ e=>W7 _ e) ne⟩,QY _ _ _ bs,λh' tk k=>?_⟩
  have e2:(List.map Value.bool bs).toArray.size=bs.length:=by simp
  rw [e2,Uk]
  exact⟨.bl (bs.all id),H,I.kept (h':=h') (t':=tk) (λb o e=>k b o (by simp [WJ (Ws e)]) (W7 _ e)),rfl,q⟩
theorem Qp:∀{ys:List Str} {us:List Value},Zy (ys.map V.str) us->StrsAre us ys
 |[],_,h=>by cases h;exact .nil
 |y :: ys,_,h=>by
  cases h with
  |cons r t=>
   obtain⟨tk,rfl⟩:=r
   exact .cons y tk (Qp t)
theorem Lj:MtR X "str.join" (λx xs H Q=>∃(sep:Str) (a:Addr) (ys:List Str),x = .str sep/\xs=[.ref a]/\(SqL X.K H a (ys.map V.str)\/SqT X.K H a (ys.map V.str))/\(ys.map (·.length)).sum+ys.length*sep.length≤16777216/\Q (.str (W0G sep ys)) H):=by
 intro pins s σ H x xs v us Q I rx rs h
 obtain⟨sep,a,ys,rfl,rfl,hq,hz,q⟩:=h
 obtain⟨t,rfl⟩:=rx
 obtain⟨u,rfl,ru⟩:=Qb rs
 cases ru
 rcases hq with hq|hq
 ·obtain⟨its,rv,p,_⟩:=I.list hq
  exact join_list p.isList (by simpa using Qp rv) hz λt' k=>⟨.str (W0G sep ys),H,I.tok k,⟨t',rfl⟩,q⟩
 ·obtain⟨its,rv,p,_⟩:=I.tuple hq
  exact join_tuple p (by simpa using Qp rv) hz λt' k=>⟨.str (W0G sep ys),H,I.tok k,⟨t',rfl⟩,q⟩
section
variable {tg:Expr} {pins:List (Addr×Obj)} {σ:St} {H1:Hp} {s1:Shared} {R:It->Hp->Prop} {E:Value->Shared->Prop} {a:Addr} {xs:List V}
theorem MI (I1:Inv X pins σ H1 s1)(hq:SqL X.K H1 a xs)(q:R (Itl X.K a) H1):wpAny (model X.prog X.w) X.A (pyIter (.ref a)) (PIE X pins σ tg R) E s1:=by
 obtain⟨its,rv,p,hz⟩:=I1.list hq
 refine W09 p.isList ?_
 refine⟨s1.heap.objs.size,[s1.heap.objs.size],_,_,H1,rfl,I1.kept (t':=s1.toks) λb o e=>W7 _ e,Bm a _,⟨_,Wv _ rfl,rfl,rfl⟩,λb hb=>?_,q⟩
 have e:b=s1.heap.objs.size:=by simpa using hb
 subst e
 exact I1.fpOk (Wp _) (I1.hok.fresh (Wp _))
theorem L7 (I1:Inv X pins σ H1 s1)(hq:SqT X.K H1 a xs)(q:R (Itt X.K a) H1):wpAny (model X.prog X.w) X.A (pyIter (.ref a)) (PIE X pins σ tg R) E s1:=by
 obtain⟨its,rv,p,hz⟩:=I1.tuple hq
 refine W02 (show s1.heap.IsTuple a its.toArray from p) ?_
 refine⟨s1.heap.objs.size,[s1.heap.objs.size],_,_,H1,rfl,I1.kept (t':=s1.toks) λb o e=>W7 _ e,GJ a _,⟨_,Wv _ rfl,rfl,rfl⟩,λb hb=>?_,q⟩
 have e:b=s1.heap.objs.size:=by simpa using hb
 subst e
 exact I1.fpOk (Wp _) (I1.hok.fresh (Wp _))
def Its (x:Str):It:=⟨λi _=>i<x.cps.size,λi H v H'=>H'=H/\∃c,x.cps[i]? = some c/\v = .str ⟨#[c]⟩,λi _=>i=x.cps.size⟩
theorem U8 (P:Program)(w:World){A:Around}(hh:A.handled=none)(it:Addr)(x:Str)(t:Tok):Walks P w A it [it] [it] x.cps.size (SignAt x) (λi h=>h.IsStrIter it (strIterType x) x t i):=by
 cases ha:x.cps.all (· < 128)
 ·have e:strIterType x = "str_iterator":=by simp [strIterType,ha]
  rw [e];exact Walks.strWide hh it x t
 ·have e:strIterType x = "str_ascii_iterator":=by simp [strIterType,ha]
  rw [e];exact Walks.strAscii hh it x t
theorem Mu {P:Program}{w:World}{K:W3}(x:Str)(t:Tok)(it:Addr):Turn P w K tg (Its x) [it] it (λi h=>h.IsStrIter it (strIterType x) x t i) where
 mem:=by simp
 obj:=λi h st b hb=>by
  have e:b=it:=by simpa using hb
  subst e
  obtain⟨o,e,c,d⟩:=st
  exact⟨o,e,λv z=>by rw [d] at z;cases z⟩
 keep:=λi h h' st k=>let ⟨o,e,r⟩:=st;⟨o,k it (by simp) o e,r⟩
 item:=by
  intro X hP hw hK hc i pins s σ H E I hf st hg
  subst hP hw hK
  obtain⟨f0,f1,f2,f3,f4,f5⟩:=hf it (by simp)
  refine (U8 X.prog X.w (I.ok.hd hc) it x t).item i s _ _ hg st λv h' tk hv st' kk=>?_
  obtain⟨c,u,hc',rfl⟩:=hv
  have I1:Inv X pins σ H { s with heap:=h',toks:=tk }:=I.turned (λb o hb e=>kk b o (by simpa using hb) e) f0 f1 f3 f4 f5
  obtain⟨o,e1,e2,e3⟩:=id st'
  refine⟨_,rfl,?_⟩
  have fin:∃y H',Inv X pins σ H' { s with heap:=h',toks:=tk }/\Zz y (.str ⟨#[c]⟩ u)/\(Its x).yld i H y H'/\Heap.IsStrIter h' it (strIterType x) x t (i+1)/\∀b∈[it],H' b=none:=⟨.str ⟨#[c]⟩,H,I1,⟨u,rfl⟩,⟨rfl,c,hc',rfl⟩,st',λb hb=>(hf b hb).1⟩
  unfold letOwnedTupleGo
  cases tg<;>exact Wk fin
 done:=by
  intro X hP hw hK hc i pins s σ H E I hf st hg
  subst hP hw hK
  obtain⟨f0,f1,f2,f3,f4,f5⟩:=hf it (by simp)
  have hi:i=x.cps.size:=hg
  subst hi
  exact (U8 X.prog X.w (I.ok.hd hc) it x t).done s _ _ st λh' tk kk=>⟨rfl,I.turned (λb o hb e=>kk b o (by simpa using hb) e) f0 f1 f3 f4 f5⟩
 self:=λA i s Q E st h=>by
  cases ha:x.cps.all (· < 128)
  ·have e:strIterType x = "str_iterator":=by simp [strIterType,ha]
   rw [e] at st;exact wpAny_pyIter_striter_wide st h
  ·have e:strIterType x = "str_ascii_iterator":=by simp [strIterType,ha]
   rw [e] at st;exact wpAny_pyIter_striter_ascii st h
theorem L8 {x:Str}{t:Tok}(I1:Inv X pins σ H1 s1)(q:R (Its x) H1):wpAny (model X.prog X.w) X.A (pyIter (.str x t)) (PIE X pins σ tg R) E s1:=by
 refine wpAny_pyIter_strU ?_
 refine⟨s1.heap.objs.size,[s1.heap.objs.size],_,_,H1,rfl,I1.kept (t':=s1.toks) λb o e=>W7 _ e,Mu x t _,⟨_,Wv _ rfl,rfl,rfl⟩,λb hb=>?_,q⟩
 have e:b=s1.heap.objs.size:=by simpa using hb
 subst e
 exact I1.fpOk (Wp _) (I1.hok.fresh (Wp _))
end
def D8 (X:Cx)(tl:TE):TI:=λσ H R=>tl σ H λx H1=>(∃a xs,x = .ref a/\SqL X.K H1 a xs/\R (Itl X.K a) H1)\/(∃a xs,x = .ref a/\SqT X.K H1 a xs/\R (Itt X.K a) H1)\/(∃z,x = .str z/\R (Its z) H1)\/
 (∃a kvs,x = .ref a/\H1 a=some (.dK kvs)/\∀o,(∀o u,X.H₀ a≠some (.frz o u))->R (Itk a o) (upd H1 a (.frz o (.dK kvs))))\/(∃a o kvs,x = .ref a/\H1 a=some (.frz o (.dK kvs))/\R (Itk a o) H1)\/
 ∃a,x = .ref a/\H1 a=some (.dT [])/\∀o,(∀o u,X.H₀ a≠some (.frz o u))->R (Itk a o) (upd H1 a (.frz o (.dK [])))
theorem FW {tg l:Expr}{tl:TE}(hl:PE X l tl):PI X tg l (D8 X tl):=by
 intro pins s σ H R I h
 refine thn (hl pins s σ H _ I h) λv s1 ⟨x,H1,I1,r1,q1⟩=>?_
 rcases q1 with ⟨a,xs,rfl,hq,q⟩|⟨a,xs,rfl,hq,q⟩|⟨z,rfl,q⟩|⟨a,kvs,rfl,hq,q⟩|⟨a,o,kvs,rfl,hq,q⟩|⟨a,rfl,hq,q⟩
 ·cases r1;exact MI I1 hq q
 ·cases r1;exact L7 I1 hq q
 ·obtain⟨t,rfl⟩:=r1;exact L8 I1 q
 ·cases r1;exact TY I1 hq q
 ·cases r1;exact BP I1 hq q
 ·cases r1
  refine TY (I1.asK hq) Z5 λo hn=>?_
  rw [Qo]
  exact q o hn
end
end L2
namespace DL
open PySem PySem.Spec PyProof.Rows L2
section
variable {X:Cx} {e a b c:Expr} {es:List Expr} {pos:Pos}
def Y1:D->D->Sto->Option (D×Sto)
 | .int i,.int j,S=>some (.int (i+j),S)
 | .str x,.str y,S=>if x.length+y.length≤Wc then some (.str (x++y),S) else none
 | .tup xs,.tup ys,S=>if xs.length+ys.length≤Wc then some (.tup (xs++ys),S) else none
 | .ref n,.ref m,S=>match S[n]?,S[m]? with
  |some (.lst xs),some (.lst ys)=>if xs.length+ys.length≤Wc then some (.ref S.length,S++[.lst (xs++ys)]) else none
  |_,_=>none
 |_,_,_=>none
theorem Zc:OpD X (binaryOp .Add) Y1:=by
 refine Jb (Af.or (GS.or (MO.or (Lh.or Ae)))) ?_
 rintro x y H Q ⟨ρ,S,d1,d2,v,S',R,h1,h2,e,k⟩
 cases d1 with
 |int i=>
  cases d2 with
  |int j=>
   cases e
   exact .inl ⟨i,j,h1.of_int,h2.of_int,k _ ρ H Ext.refl R .flat_int⟩
  |_=>cases e
 |str i=>
  cases d2 with
  |str j=>
   dsimp only [Y1] at e
   split at e
   ·cases e
    exact .inr (.inl ⟨i,j,h1.of_str,h2.of_str,by assumption,k _ ρ H Ext.refl R .flat_str⟩)
   ·cases e
  |_=>cases e
 |tup xs=>
  cases d2 with
  |tup ys=>
   dsimp only [Y1] at e
   split at e
   ·rename_i hz
    cases e
    obtain⟨a,us,rfl,a1,a2⟩:=h1.of_tup
    obtain⟨b,ws,rfl,b1,b2⟩:=h2.of_tup
    cases xs with
    |nil=>
     have:us=[]:=by unfold DsR at a2;exact a2
     subst this
     exact .inr (.inr (.inl ⟨a,b,ws,rfl,rfl,.of a1,.of b1,k _ ρ H Ext.refl R (.tup b1 b2)⟩))
    |cons x0 xs=>
     refine .inr (.inr (.inr (.inl ⟨a,b,us,ws,rfl,rfl,.of a1,.of b1,?_,by rw [←a2.length,←b2.length];exact hz,λhw=>?_,λhw p hp=>?_⟩)))
     ·intro z
      rw [z] at a2
      have:=a2.length
      simp at this
     ·subst hw
      have:ys=[]:=by
       have:=b2.length
       simpa using this
      subst this
      rw [Vt] at k
      exact k _ ρ H Ext.refl R (.tup a1 a2)
     ·exact k _ ρ _ (Ext.new hp) (R.new hp) (.tup Z5 ((a2.append b2).up (Ext.new hp)))
   ·cases e
  |_=>cases e
 |ref n=>
  cases d2 with
  |ref m=>
   obtain⟨a,a1,rfl⟩:=h1.of_ref
   obtain⟨b,b1,rfl⟩:=h2.of_ref
   obtain⟨oa,ea,ra⟩:=R.obj a1
   obtain⟨ob,eb,rb⟩:=R.obj b1
   dsimp only [Y1] at e
   rw [ea,eb] at e
   cases oa with
   |lst xs=>
    cases ob with
    |lst ys=>
     dsimp only at e
     split at e
     ·rename_i hz
      cases e
      obtain⟨us,u1,u2⟩:=ra
      obtain⟨ws,w1,w2⟩:=rb
      refine .inr (.inr (.inr (.inr ⟨a,b,us,ws,rfl,rfl,u1,w1,by rw [←u2.length,←w2.length];exact hz,λp hp=>?_⟩)))
      refine k _ (ρ++[p]) _ (Ext.newRef hp) (R.push hp ⟨_,Z5,(u2.append w2).up (Ext.newRef hp)⟩) (.ref ?_)
      rw [←R.len];simp
     ·cases e
    |dct _=>cases e
    |fdct _=>cases e
    |ins _ _=>cases e
   |dct _=>cases e
   |fdct _=>cases e
   |ins _ _=>cases e
  |_=>cases e
 |_=>cases e
def LU (C:Int->Int->Bool)(f:Int->Int->D):D->D->Sto->Option (D×Sto)
 | .int i,.int j,S=>if C i j then some (f i j,S) else none
 |_,_,_=>none
theorem Lg {f:Value->Value->Sem Value}{C:Int->Int->Prop}{Cb:Int->Int->Bool}{g:Int->Int->V}{gd:Int->Int->D}(h:OpR X f (rI C g))(hC:∀i j,Cb i j=true->C i j)(hg:∀ρ H i j,DR X.K ρ H (gd i j) (g i j)):OpD X f (LU Cb gd):=by
 refine Jb h ?_
 rintro x y H Q ⟨ρ,S,d1,d2,v,S',R,h1,h2,e,k⟩
 cases d1 with
 |int i=>
  cases d2 with
  |int j=>
   dsimp only [LU] at e
   split at e
   ·cases e
    exact⟨i,j,h1.of_int,h2.of_int,hC i j (by assumption),k _ ρ H Ext.refl R (hg ρ H i j)⟩
   ·cases e
  |_=>cases e
 |_=>cases e
theorem MN {f:Value->Value->Sem Value}{g:Int->Int->V}{gd:Int->Int->D}(h:OpR X f (rI0 g))(hg:∀ρ H i j,DR X.K ρ H (gd i j) (g i j)):OpD X f (LU (λ_ _=>true) gd):=by
 refine Jb h ?_
 rintro x y H Q ⟨ρ,S,d1,d2,v,S',R,h1,h2,e,k⟩
 cases d1 with
 |int i=>
  cases d2 with
  |int j=>
   cases e
   exact⟨i,j,h1.of_int,h2.of_int,k _ ρ H Ext.refl R (hg ρ H i j)⟩
  |_=>cases e
 |_=>cases e
def Be:D->D->Sto->Option (D×Sto):=LU (λ_ _=>true) λi j=>.int (i-j)
theorem Jc:OpD X (binaryOp .Sub) Be:=MN A9 λ_ _ _ _=>.flat_int
def Cs:D->D->Sto->Option (D×Sto):=LU (λ_ j=>decide (0<j)) λi j=>.int (i%j)
theorem BX:OpD X (binaryOp .Mod) Cs:=Lg Ab (λ_ _ h=>of_decide_eq_true h) λ_ _ _ _=>.flat_int
def Ag (z:Str)(n:Int):Bool:=decide (0≤n/\n≤1000/\z.length≤1000)
def Tn:D->D->Sto->Option (D×Sto)
 | .int i,.int j,S=>if (-(2 ^ 64)<i/\i<2 ^ 64)\/(-(2 ^ 64)<j/\j<2 ^ 64) then some (.int (i*j),S) else none
 | .str z,.int n,S=>if Ag z n then some (.str (Txt.mul z n),S) else none
 |_,_,_=>none
theorem MP {z:Str}{n:Int}(h:Ag z n=true):MulOk z n:=by
 obtain⟨h1,h2,h3⟩:=of_decide_eq_true h
 refine⟨?_,λa b=>?_,λa b=>?_⟩
 ·have e1:decide (n < -(2 ^ 63:Int))=false:=decide_eq_false (by omega)
  have e2:decide (n≥2 ^ 63)=false:=decide_eq_false (by omega)
  rw [e1,e2];rfl
 ·intro q
  have hb:(1000:Int)≤(2 ^ 63-1) / n:=by
   rw [Int.le_ediv_iff_mul_le (by omega)]
   omega
  omega
 ·have hm:z.length*n.toNat≤1000*1000:=Nat.mul_le_mul h3 (by omega)
  unfold Builtin.Str.tooLong
  have hs:Wc=16777216:=W0t
  first
   | (rw [decide_eq_false];omega)
   | (simp;omega)
theorem YJ:OpD X (binaryOp .Mult) Tn:=by
 refine Jb (Aa.or GR) ?_
 rintro x y H Q ⟨ρ,S,d1,d2,v,S',R,h1,h2,e,k⟩
 cases d1 with
 |int i=>
  cases d2 with
  |int j=>
   dsimp only [Tn] at e
   split at e
   ·cases e
    exact .inl ⟨i,j,h1.of_int,h2.of_int,by assumption,k _ ρ H Ext.refl R .flat_int⟩
   ·cases e
  |_=>cases e
 |str z=>
  cases d2 with
  |int j=>
   dsimp only [Tn] at e
   split at e
   ·cases e
    exact .inr ⟨z,j,h1.of_str,h2.of_int,MP (by assumption),k _ ρ H Ext.refl R .flat_str⟩
   ·cases e
  |_=>cases e
 |_=>cases e
def gGt:D->D->Sto->Option (D×Sto):=LU (λ_ _=>true) λi j=>.bl (decide (j<i))
def gGe:D->D->Sto->Option (D×Sto):=LU (λ_ _=>true) λi j=>.bl (decide (j≤i))
def gLe:D->D->Sto->Option (D×Sto)
 | .int i,.int j,S=>some (.bl (decide (i≤j)),S)
 | .str i,.str j,S=>some (.bl (!decide (j.cps.toList<i.cps.toList)),S)
 |_,_,_=>none
def isD:D->D->Option Bool
 | .bl b,.bl c=>some (b == c)
 |_,.bl _=>some false
 | .non,.non=>some true
 |_,.non=>some false
 |_,_=>none
def gIs:D->D->Sto->Option (D×Sto):=λa b S=>(isD a b).map λr=>(.bl r,S)
def EH:D->D->Sto->Option (D×Sto):=λa b S=>(isD a b).map λr=>(.bl (!r),S)
theorem Eg {K:W3}{ρ:List Addr}{H:Hp}{d:D}{x:V}{c r:Bool}(h:DR K ρ H d x)(e:isD d (.bl c)=some r):decide (x = .bl c)=r:=by
 cases d with
 |bl b=>rw [h.of_bl];cases e;cases b<;>cases c<;>rfl
 |non=>rw [h.of_non];cases e;rfl
 |int i=>rw [h.of_int];cases e;rfl
 |str i=>rw [h.of_str];cases e;rfl
 |tup xs=>obtain⟨a,us,rfl,_⟩:=h.of_tup;cases e;rfl
 |ref n=>obtain⟨a,_,rfl⟩:=h.of_ref;cases e;rfl
 |scr ns=>obtain⟨a,rfl,_⟩:=h.of_scr;cases e;rfl
theorem LN {K:W3}{ρ:List Addr}{H:Hp}{d:D}{x:V}{r:Bool}(h:DR K ρ H d x)(e:isD d .non=some r):decide (x = .non)=r:=by
 cases d with
 |bl b=>rw [h.of_bl];cases e;rfl
 |non=>rw [h.of_non];cases e;rfl
 |int i=>rw [h.of_int];cases e;rfl
 |str i=>rw [h.of_str];cases e;rfl
 |tup xs=>obtain⟨a,us,rfl,_⟩:=h.of_tup;cases e;rfl
 |ref n=>obtain⟨a,_,rfl⟩:=h.of_ref;cases e;rfl
 |scr ns=>obtain⟨a,rfl,_⟩:=h.of_scr;cases e;rfl
theorem NO {d1 d2:D}{r:Bool}(e:isD d1 d2=some r):(∃c,d2 = .bl c)\/d2 = .non:=by
 cases d2 with
 |bl c=>exact .inl ⟨c,rfl⟩
 |non=>exact .inr rfl
 |_=>cases d1<;>cases e
theorem KB:OpD X (compareOp .Is) gIs:=by
 refine Jb (Ad.or Ac) ?_
 rintro x y H Q ⟨ρ,S,d1,d2,v,S',R,h1,h2,e,k⟩
 obtain⟨r,e1,e2⟩:=We.mp e
 cases e2
 rcases NO e1 with ⟨c,rfl⟩|rfl
 ·exact .inl ⟨c,h2.of_bl,by rw [Eg h1 e1];exact k _ ρ H Ext.refl R .flat_bl⟩
 ·exact .inr ⟨h2.of_non,by rw [LN h1 e1];exact k _ ρ H Ext.refl R .flat_bl⟩
def gIx:D->D->Sto->Option (D×Sto)
 | .tup xs,.int i,S=>(atI xs i).map λd=>(d,S)
 | .str z,.int i,S=>if z.length≤Wc then (atI z.cps.toList i).map λc=>(.str ⟨#[c]⟩,S) else none
 | .scr ns,.int i,S=>(atI ns i).map λn=>(.int n,S)
 | .ref n,k,S=>match S[n]? with
  |some (.lst xs)=>(match k with | .int i=>(atI xs i).map λd=>(d,S)|_=>none)
  |_=>(M2 S n k).bind λkvs=>(Tv kvs k).map λd=>(d,S)
 |_,_,_=>none
theorem F6 {K:W3}{ρ:List Addr}{H:Hp}{ds:List D}{xs:List V}{i:Int}{d:D}(h:DsR K ρ H ds xs)(e:atI ds i=some d):∃x,atI xs i=some x/\DR K ρ H d x:=by
 unfold atI at e ⊢
 rw [h.length] at e
 obtain⟨j,e1,e2⟩:=W0.mp e
 obtain⟨x,h1,h2⟩:=h.get e2
 exact⟨x,by rw [e1];exact h1,h2⟩
theorem F7 {α β:Type}{f:α->β}{xs:List α}{i:Int}{a:α}(h:atI xs i=some a):atI (xs.map f) i=some (f a):=by
 unfold atI at h ⊢
 rw [Wg]
 obtain⟨j,e1,e2⟩:=W0.mp h
 rw [e1]
 show (xs.map f)[j]? = _
 rw [WU,e2];rfl
def HJ:R2:=λx y H Q=>∃a v,x = .ref a/\JC H a y (some v)/\Q v H
theorem LD (hu:X.A.units+64<cLine):IxR X HJ:=by
 intro value slice pins s σ H x y v u Q I rx ry h hs
 obtain⟨a,z,rfl,g,q⟩:=h
 cases rx
 have g':=g.ofSome
 exact tail_any (Tu I g') PySem.F.slot_dict_getitem.lookup (M3 (by omega) I g' ry λw' s3 I3 rw'=>⟨z,H,I3,rw',q⟩) hs
theorem LB {K:W3}{x y:V}{H:Hp}{Q:VK}(h:rD K gIx x y H Q):rIx K x y H Q\/HJ x y H Q:=by
 obtain⟨ρ,S,d1,d2,v,S',R,h1,h2,e,k⟩:=h
 have seq:∀{a:Addr} {xs:List V} {ds:List D} {i:Int},x = .ref a->d2 = .int i->(SqL K H a xs\/SqT K H a xs)->DsR K ρ H ds xs->(atI ds i).map (λd=>(d,S))=some (v,S')->rIx K x y H Q:=by
  intro a xs ds i ex ei hs hd em
  subst ex ei
  obtain⟨d,e1,e2⟩:=We.mp em
  cases e2
  obtain⟨z,z1,z2⟩:=F6 hd e1
  rcases hs with hs|hs
  ·exact .inl ⟨a,xs,i,z,rfl,h2.of_int,hs,z1,k _ ρ H Ext.refl R z2⟩
  ·exact .inr (.inl ⟨a,xs,i,z,rfl,h2.of_int,hs,z1,k _ ρ H Ext.refl R z2⟩)
 cases d1 with
 |tup ds=>
  cases d2 with
  |int i=>
   obtain⟨a,xs,rfl,a1,a2⟩:=h1.of_tup
   exact .inl (seq rfl rfl (.inr (.of a1)) a2 e)
  |_=>cases e
 |str z=>
  cases d2 with
  |int i=>
   dsimp only [gIx] at e
   split at e
   ·rename_i hz
    obtain⟨c,e1,e2⟩:=We.mp e
    cases e2
    exact .inl (.inr (.inr ⟨z,i,c,h1.of_str,h2.of_int,hz,e1,k _ ρ H Ext.refl R .flat_str⟩))
   ·cases e
  |_=>cases e
 |scr ns=>
  cases d2 with
  |int i=>
   obtain⟨d,e1,e2⟩:=We.mp e
   cases e2
   obtain⟨a,rfl,a1⟩:=h1.of_scr
   exact .inl (.inl ⟨a,_,i,_,rfl,h2.of_int,a1.seq,F7 e1,k _ ρ H Ext.refl R .flat_int⟩)
  |_=>cases e
 |ref n=>
  obtain⟨a,a1,rfl⟩:=h1.of_ref
  dsimp only [gIx] at e
  split at e
  ·rename_i xs hn
   obtain⟨ob,eo,ro⟩:=R.obj a1
   rw [hn] at eo
   cases eo
   obtain⟨ys,y1,y2⟩:=ro
   cases d2 with
   |int i=>exact .inl (seq rfl rfl (.inl (.of y1)) y2 e)
   |_=>cases e
  ·obtain⟨kvs,e3,e⟩:=W0.mp e
   obtain⟨d,e1,e2⟩:=We.mp e
   cases e2
   obtain⟨g1,_⟩:=M1 R a1 e3 h2
   obtain⟨z,z1,z2⟩:=g1 _ e1
   exact .inr ⟨a,z,rfl,z1,k _ ρ H Ext.refl R z2⟩
 |_=>cases d2<;>cases e
theorem Yu {ma mb:M D}(hu:X.A.units+64<cLine)(ha:SE X a ma)(hb:SE X b mb)(hs:Ml b:=by intro _ _;rfl):SE X (.Subscript a b pos) (mOp gIx ma mb):=by
 refine Zm (CQ (Ed.or (LD hu)) ha hb hs) ?_
 intro σ H Q h
 obtain⟨ρ,en,S,v,S',E,R,e,k⟩:=JT h
 exact⟨ρ,en,S,v,S',E,R,e,λx ρ1 H1 X1 R1 d1=>by
  obtain⟨ρ2,en2,S2,v2,S2',E2,R2,e2,k2⟩:=k x ρ1 H1 X1 R1 d1
  exact⟨ρ2,en2,S2,v2,S2',E2,R2,e2,λy ρ3 H3 X3 R3 d3=>LB (k2 y ρ3 H3 X3 R3 d3)⟩⟩
def Ki {α:Type}(xs:List α)(lo hi:Option Int):List α:=(xs.drop (HT.sIx xs.length 0 lo)).take (HT.sIx xs.length xs.length hi-HT.sIx xs.length 0 lo)
def slD:D->Option Int->Option Int->Sto->Option (D×Sto)
 | .str z,lo,hi,S=>if z.length≤Wc then some (.str (Vc z lo hi),S) else none
 | .tup ds,lo,hi,S=>some (.tup (Ki ds lo hi),S)
 | .ref n,lo,hi,S=>match S[n]? with|some (.lst ds)=>some (.ref S.length,S++[.lst (Ki ds lo hi)])|_=>none
 |_,_,_,_=>none
def Yn (m:M D):M (Option Int):=λen S=>(m en S).bind λp=>match p.1 with | .int i=>some (some i,p.2)|_=>none
def Y4:M (Option Int):=λ_ S=>some (none,S)
def tMO (K:W3)(m:M (Option Int)):TO:=λσ H Q=>∃ρ en S o S',EnR K ρ H en σ/\StR K ρ H S/\m en S=some (o,S')/\∀ρ' H',Ext ρ H ρ' H'->StR K ρ' H' S'->Q o H'
def SO (X:Cx)(e:Option Expr)(m:M (Option Int)):Prop:=PO X e (tMO X.K m)
theorem Yw:SO X none Y4:=by
 intro pins s σ H Q I q
 obtain⟨ρ,en,S,o,S',E,R,e,k⟩:=q
 cases e
 exact L5 pins s σ H Q I (k ρ H Ext.refl R)
theorem ZQ {m:M D}(h:SE X e m):SO X (some e) (Yn m):=by
 intro pins s σ H Q I q
 refine L4 h pins s σ H Q I ?_
 obtain⟨ρ,en,S,o,S',E,R,e,k⟩:=q
 unfold Yn at e
 obtain⟨p,e1,e⟩:=W0.mp e
 obtain⟨d,S1⟩:=p
 cases d with
 |int i=>
  cases e
  exact⟨ρ,en,S,.int i,_,E,R,e1,λx ρ1 H1 X1 R1 d1=>⟨i,d1.of_int,k ρ1 H1 X1 R1⟩⟩
 |_=>cases e
def mSl (m:M D)(lo hi:M (Option Int)):M D:=λen S=>(m en S).bind λp=>(lo en p.2).bind λl=>(hi en l.2).bind λu=>slD p.1 l.1 u.1 u.2
theorem ZT {lo hi:Option Expr}{p2:Pos}{m:M D}{ml mh:M (Option Int)}(he:SE X e m)(hl:SO X lo ml)(hh:SO X hi mh):SE X (.Subscript e (.Slice lo hi none p2) pos) (mSl m ml mh):=by
 refine Zm (ML (Fv.or ((Fu.or PD).or BB)) he hl hh) ?_
 rintro σ H Q ⟨ρ,en,S,v,S',E,R,e,k⟩
 unfold mSl at e
 obtain⟨p,e1,e⟩:=W0.mp e
 obtain⟨l,e2,e⟩:=W0.mp e
 obtain⟨u,e3,e⟩:=W0.mp e
 refine⟨ρ,en,S,p.1,p.2,E,R,e1,λx ρ1 H1 X1 R1 d1=>⟨ρ1,en,p.2,l.1,l.2,E.up X1,R1,e2,λρ2 H2 X2 R2=>⟨ρ2,en,l.2,u.1,u.2,(E.up X1).up X2,R2,e3,λρ3 H3 X3 R3=>?_⟩⟩⟩
 have d3:=(d1.up X2).up X3
 have XX:=(X1.trans X2).trans X3
 obtain⟨d,S1⟩:=p
 dsimp only at d3 e
 cases d with
 |str z=>
  dsimp only [slD] at e
  split at e
  ·cases e
   exact .inl ⟨z,d3.of_str,by assumption,k _ ρ3 H3 XX R3 .flat_str⟩
  ·cases e
 |tup ds=>
  dsimp only [slD] at e
  cases e
  obtain⟨a,xs,rfl,a1,a2⟩:=d3.of_tup
  have cut:DsR X.K ρ3 H3 (Ki ds l.1 u.1) (Mq xs l.1 u.1):=by
   unfold Ki Mq
   rw [a2.length]
   exact (a2.drop _).take _
  by_cases hw:HT.sIx xs.length 0 l.1=0/\HT.sIx xs.length xs.length u.1=xs.length
  ·refine .inr (.inl (.inr ⟨a,xs,rfl,.of a1,hw,?_⟩))
   have e4:Ki ds l.1 u.1=ds:=by
    unfold Ki
    rw [a2.length,hw.1,hw.2,←a2.length]
    simp
   rw [e4] at k
   exact k _ ρ3 H3 XX R3 (.tup a1 a2)
  ·exact .inr (.inl (.inl ⟨a,xs,rfl,.of a1,hw,λq hq=>k _ ρ3 _ (XX.trans (Ext.new hq)) (R3.new hq) (.tup Z5 (cut.up (Ext.new hq)))⟩))
 |ref n=>
  obtain⟨a,a1,rfl⟩:=d3.of_ref
  obtain⟨ob,eo,ro⟩:=R3.obj a1
  dsimp only [slD] at e
  rw [eo] at e
  cases ob with
  |lst ds=>
   cases e
   obtain⟨xs,x1,x2⟩:=ro
   have cut:DsR X.K ρ3 H3 (Ki ds l.1 u.1) (Mq xs l.1 u.1):=by
    unfold Ki Mq
    rw [x2.length]
    exact (x2.drop _).take _
   refine .inr (.inr ⟨a,xs,rfl,.of x1,λq hq=>?_⟩)
   refine k _ (ρ3++[q]) _ (XX.trans (Ext.newRef hq)) (R3.push hq ⟨_,Z5,cut.up (Ext.newRef hq)⟩) (.ref ?_)
   rw [←R3.len];simp
  |dct _=>cases e
  |fdct _=>cases e
  |ins _ _=>cases e
 |_=>cases e
def QK:List D->Option (List Bool)
 |[]=>some []
 | .bl b :: r=>(QK r).map λbs=>b :: bs
 |_=>none
theorem US {K:W3}{ρ:List Addr}{H:Hp}:∀{ds:List D} {xs:List V} {bs:List Bool},DsR K ρ H ds xs->QK ds=some bs->xs=bs.map V.bl
 |[],xs,bs,h,e=>by
  cases e
  unfold DsR at h;rw [h];rfl
 |d :: ds,xs,bs,h,e=>by
  unfold DsR at h
  obtain⟨x,r,rfl,h1,h2⟩:=h
  cases d with
  |bl b=>
   obtain⟨cs,e1,e2⟩:=We.mp e
   cases e2
   rw [W1,h1.of_bl,US h2 e1]
  |_=>cases e
def Ud:List D->Option (List Str)
 |[]=>some []
 | .str b :: r=>(Ud r).map λbs=>b :: bs
 |_=>none
theorem TL {K:W3}{ρ:List Addr}{H:Hp}:∀{ds:List D} {xs:List V} {bs:List Str},DsR K ρ H ds xs->Ud ds=some bs->xs=bs.map V.str
 |[],xs,bs,h,e=>by
  cases e
  unfold DsR at h;rw [h];rfl
 |d :: ds,xs,bs,h,e=>by
  unfold DsR at h
  obtain⟨x,r,rfl,h1,h2⟩:=h
  cases d with
  |str b=>
   obtain⟨cs,e1,e2⟩:=We.mp e
   cases e2
   rw [W1,h1.of_str,TL h2 e1]
  |_=>cases e
def Ao (m:M (List D)):M D:=λen S=>(m en S).bind λp=>(QK p.1).map λbs=>(.bl (bs.all id),p.2)
def HS (m:M (List D)):M D:=λen S=>(m en S).bind λp=>(QK p.1).map λbs=>(.bl (bs.any id),p.2)
theorem FD {p:Pos}{m:M (List D)}(hc:X.calm=true)(h:SQ X e m)(hg:Gl X "all")(hm:X.mg "all" = none)(hv:Wz "all" = some (.builtin "all"))
  (he:Wn [e] X.env=(false,eval e X.env) :: Wn [] X.env:=by rfl):SE X (.Call (.Name "all" p) [e] [] pos) (Ao m):=by
 refine Zm (Yz (UQ hc) hg hm hv (Zf h ZH he) (by decide) (by decide) he (by rfl)) ?_
 rintro σ H Q ⟨ρ,en,S,v,S',E,R,e,k⟩
 unfold Ao at e
 obtain⟨r,e1,e⟩:=W0.mp e
 obtain⟨bs,e2,e3⟩:=We.mp e
 cases e3
 refine⟨ρ,en,S,r.1,r.2,E,R,e1,λa xs ρ1 H1 X1 R1 sq d1=>⟨a,bs,rfl,?_,k _ ρ1 H1 X1 R1 .flat_bl⟩⟩
 rw [←US d1 e2];exact sq
def KK:D->Sto->Option Nat
 | .str x,_=>if x.length≤Wc then some x.length else none
 | .tup ds,_=>some ds.length
 | .ref n,S=>match S[n]? with|some (.lst ds)=>some ds.length|some (.dct kvs)=>some kvs.length|some (.fdct kvs)=>some kvs.length|_=>none
 | .scr ns,_=>some ns.length
 |_,_=>none
def Jv (m:M D):M D:=λen S=>(m en S).bind λp=>(KK p.1 p.2).map λn=>(.int n,p.2)
theorem JA:YH X (.builtin "len") (λxs H Q=>∃a,xs=[V.ref a]/\((∃kvs,Rd H a (.dK kvs)/\Q (.int kvs.length) H)\/∃kvs,Rd H a (.dT kvs)/\Q (.int kvs.length) H)):=by
 intro pins s σ H xs us Q I rx h
 obtain⟨a,rfl,h⟩:=h
 obtain⟨u,rfl,ru⟩:=Zy.one rx
 cases ru
 rcases h with ⟨kvs,h1,q⟩|⟨kvs,h1,q⟩
 ·exact Hv I h1 λt s' I'=>⟨.int kvs.length,H,I',⟨t,rfl⟩,q⟩
 ·obtain⟨hz,hS,xs,r,m⟩:=Ts I.hok h1
  have hlen:kvs.length=xs.length:=W0g r
  have hs:Wc=16777216:=W0t
  refine U4 hS m (by omega) ?_
  rw [←hlen]
  exact⟨.int kvs.length,H,I.tok _,⟨_,rfl⟩,q⟩
theorem Yf {p:Pos}{m:M D}(h:SE X e m)(hg:Gl X "len")(hm:X.mg "len" = none)(hv:Wz "len" = some (.builtin "len"))
  (he:Wn [e] X.env=(false,eval e X.env) :: Wn [] X.env:=by rfl):SE X (.Call (.Name "len" p) [e] [] pos) (Jv m):=by
 refine Zm (Yz (UP.or (UO.or JA)) hg hm hv (Zf h ZH he) (by decide) (by decide) he (by rfl)) ?_
 rintro σ H Q ⟨ρ,en,S,v,S',E,R,e,k⟩
 unfold Jv at e
 obtain⟨r,e1,e⟩:=W0.mp e
 obtain⟨n,e2,e3⟩:=We.mp e
 cases e3
 refine⟨ρ,en,S,r.1,r.2,E,R,e1,λx ρ1 H1 X1 R1 d1=>?_⟩
 obtain⟨d,S1⟩:=r
 dsimp only at e2 d1 R1 k
 cases d with
 |str z=>
  dsimp only [KK] at e2
  split at e2
  ·cases e2
   exact .inr (.inl ⟨z,by rw [d1.of_str],by assumption,k _ ρ1 H1 X1 R1 .flat_int⟩)
  ·cases e2
 |tup ds=>
  cases e2
  obtain⟨a,xs,rfl,a1,a2⟩:=d1.of_tup
  exact .inl ⟨a,xs,rfl,.inr (.of a1),by rw [←a2.length];exact k _ ρ1 H1 X1 R1 .flat_int⟩
 |ref m0=>
  obtain⟨a,a1,rfl⟩:=d1.of_ref
  obtain⟨ob,eo,ro⟩:=R1.obj a1
  dsimp only [KK] at e2
  rw [eo] at e2
  cases ob with
  |lst ds=>
   cases e2
   obtain⟨xs,x1,x2⟩:=ro
   exact .inl ⟨a,xs,rfl,.inl (.of x1),by rw [←x2.length];exact k _ ρ1 H1 X1 R1 .flat_int⟩
  |dct kvs=>
   cases e2
   rcases ro with ⟨ks,xs,x1,x2,x3,x4⟩|⟨ks,xs,x1,x2,x3,x4⟩
   ·have l1:=congrArg Vb x3
    rw [Wg,Wg] at l1
    refine .inr (.inr ⟨a,rfl,.inl ⟨_,.inl x1,?_⟩⟩)
    rw [VH,←x2,Nat.min_self,←l1]
    exact k _ ρ1 H1 X1 R1 .flat_int
   ·have l1:=congrArg Vb x3
    rw [Wg,Wg] at l1
    refine .inr (.inr ⟨a,rfl,.inr ⟨_,.inl x1,?_⟩⟩)
    rw [VH,←x2,Nat.min_self,←l1]
    exact k _ ρ1 H1 X1 R1 .flat_int
  |fdct kvs=>
   cases e2
   obtain⟨o,ks,xs,x1,x2,x3,x4⟩:=ro
   have l1:=congrArg Vb x3
   rw [Wg,Wg] at l1
   refine .inr (.inr ⟨a,rfl,.inl ⟨_,.inr ⟨o,x1⟩,?_⟩⟩)
   rw [VH,←x2,Nat.min_self,←l1]
   exact k _ ρ1 H1 X1 R1 .flat_int
  |ins _ _=>cases e2
 |scr ns=>
  cases e2
  obtain⟨a,rfl,a1⟩:=d1.of_scr
  exact .inl ⟨a,_,rfl,.inl a1.seq,by rw [Wg];exact k _ ρ1 H1 X1 R1 .flat_int⟩
 |_=>cases e2
def tyD:D->Sto->Option String
 | .non,_=>some "NoneType"
 | .bl _,_=>some "bool"
 | .int _,_=>some "int"
 | .str _,_=>some "str"
 | .tup _,_=>some "tuple"
 | .ref n,S=>match S[n]? with|some (.lst _)=>some "list" |some (.dct _)=>some "dict" |_=>none
 | .scr _,_=>none
theorem Fm {K:W3}{ρ:List Addr}{H:Hp}{S:Sto}{d:D}{x:V}{T:String}(R:StR K ρ H S)(h:DR K ρ H d x)(e:tyD d S=some T):TyOf K H x (.type T):=by
 cases d with
 |non=>rw [h.of_non];cases e;exact .non
 |bl b=>rw [h.of_bl];cases e;exact .bl b
 |int i=>rw [h.of_int];cases e;exact .int i
 |str z=>rw [h.of_str];cases e;exact .str z
 |tup ds=>
  obtain⟨a,xs,rfl,a1,_⟩:=h.of_tup
  cases e;exact .tup a1
 |ref n=>
  obtain⟨a,a1,rfl⟩:=h.of_ref
  obtain⟨ob,eo,ro⟩:=R.obj a1
  dsimp only [tyD] at e
  rw [eo] at e
  cases ob with
  |lst ds=>
   cases e
   obtain⟨xs,x1,_⟩:=ro
   exact .lst x1
  |dct kvs=>
   cases e
   rcases ro with ⟨ks,xs,x1,_⟩|⟨ks,xs,x1,_⟩
   ·exact .dK x1
   ·exact .dT x1
  |fdct _=>cases e
  |ins _ _=>cases e
 |scr ns=>cases e
def JH (T C:String):Bool:=T == C||(T == "bool" && C == "int")
def Isi (K:W3)(C:String):Prop:=∀T∈["NoneType", "bool", "int", "str", "tuple", "list", "dict"],Vz K (.type T) (.type C)=some (JH T C)
theorem Bl {d:D}{S:Sto}{T:String}(e:tyD d S=some T):T∈["NoneType", "bool", "int", "str", "tuple", "list", "dict"]:=by
 cases d with
 |ref n=>
  dsimp only [tyD] at e
  split at e<;>cases e<;>simp
 |_=>cases e<;>simp
def Mp (C:String)(m:M D):M D:=λen S=>(m en S).bind λp=>(tyD p.1 p.2).map λT=>(.bl (JH T C),p.2)
theorem Kl {C:String}:YH X (.builtin "isinstance") (λxs H Q=>∃x t b,xs=[x,.ty C]/\TyOf X.K H x t/\Vz X.K t (.type C)=some b/\Q (.bl b) H):=by
 intro pins s σ H xs us Q I r h
 obtain⟨x,t,b,rfl,ty,e,q⟩:=h
 obtain⟨u,w',rfl,ru,rw'⟩:=Bk r
 cases rw'
 exact NN I ru ty e λtk=>⟨.bl b,H,I.tok tk,rfl,q⟩
theorem JE {p p2:Pos}{C:String}{x:Str}{m:M D}(hi:Isi X.K C)(h:SE X a m)(hg:Gl X "isinstance")(hm:X.mg "isinstance" = none)(hv:Wz "isinstance" = some (.builtin "isinstance"))
  (hg2:Gl X x) (hm2:X.mg x=none) (hv2:Wz x=some (.type C)) (hn2:x≠"__name__":=by decide) (hd2:(x == ("__debug__" : Str))=false:=by decide)
  (he:Wn [a,.Name x p2] X.env=(false,eval a X.env) :: Wn [.Name x p2] X.env:=by rfl) (he2:Wn [.Name x p2] X.env=(false,eval (.Name x p2) X.env) :: Wn [] X.env:=by rfl) :
  SE X (.Call (.Name "isinstance" p) [a,.Name x p2] [] pos) (Mp C m):=by
 refine Zm (Yz (Kl (C:=C)) hg hm hv (Zf h (Zf (T6 hg2 hm2 hv2 (show Zz (.ty C) (.type C) from rfl) hn2 hd2) ZH he2) he) (by decide) (by decide) he (by rw [he2];rfl)) ?_
 rintro σ H Q ⟨ρ,en,S,v,S',E,R,e,k⟩
 unfold Mp at e
 obtain⟨r,e1,e⟩:=W0.mp e
 obtain⟨T,e2,e3⟩:=We.mp e
 cases e3
 exact⟨ρ,en,S,r.1,r.2,E,R,e1,λx ρ1 H1 X1 R1 d1=>⟨x,_,_,rfl,Fm R1 d1 e2,hi T (Bl e2),k _ ρ1 H1 X1 R1 .flat_bl⟩⟩
def Tc (sep:M D)(m:M (List D)):M D:=λen S=>(sep en S).bind λq=>match q.1 with
 | .str x=>(m en q.2).bind λp=>(Ud p.1).bind λys=>if (ys.map (·.length)).sum+ys.length*x.length≤16777216 then some (.str (W0G x ys),p.2) else none
 |_=>none
theorem PM {p:Pos}{sep:M D}{m:M (List D)}(hs:SE X a sep)(h:SQ X e m)(he:PA X [e] (Bv (tMQ X.K m) Cp):=by exact Zf h ZH)
  (hb:PE X (.Call (.Attribute a "join" p) [e] [] pos) (tBM X.K "str" (λx xs H Q=>∃(sep:Str) (a:Addr) (ys:List Str),x = .str sep/\xs=[.ref a]/\(SqL X.K H a (ys.map V.str)\/SqT X.K H a (ys.map V.str))/\(ys.map (·.length)).sum+ys.length*sep.length≤16777216/\Q (.str (W0G sep ys)) H) (tM X.K sep) (Bv (tMQ X.K m) Cp))) :
  SE X (.Call (.Attribute a "join" p) [e] [] pos) (Tc sep m):=by
 refine Zm hb ?_
 rintro σ H Q ⟨ρ,en,S,v,S',E,R,e,k⟩
 unfold Tc at e
 obtain⟨q,e0,e⟩:=W0.mp e
 obtain⟨d,S0⟩:=q
 cases d with
 |str x=>
  dsimp only at e
  obtain⟨r,e1,e⟩:=W0.mp e
  obtain⟨ys,e2,e⟩:=W0.mp e
  split at e
  ·rename_i hz
   cases e
   refine⟨ρ,en,S,.str x,S0,E,R,e0,λz ρ0 H0 X0 R0 d0=>?_⟩
   rw [d0.of_str]
   refine⟨rfl,ρ0,en,S0,r.1,r.2,E.up X0,R0,e1,λa xs ρ1 H1 X1 R1 sq d1=>⟨x,a,ys,rfl,rfl,?_,hz,k _ ρ1 H1 (X0.trans X1) R1 .flat_str⟩⟩
   rw [←TL d1 e2];exact sq
  ·cases e
 |_=>cases e
def NM:D->Sto->Option (ItD×Sto)
 | .tup ds,S=>some ((ds,.no),S)
 | .ref n,S=>match S[n]? with
  |some (.lst ds)=>some ((ds,.lst n),S)
  |some (.dct kvs)=>if (kvs.all λp=>(Qz p.1).isSome)=true then some ((kvs.map (·.1),.fr n kvs true),S.set n (.fdct kvs)) else none
  |some (.fdct kvs)=>some ((kvs.map (·.1),.fr n kvs false),S)
  |_=>none
 | .scr ns,S=>some ((ns.map D.int,.no),S)
 | .str x,S=>some ((x.cps.toList.map λc=>D.str ⟨#[c]⟩,.no),S)
 |_,_=>none
def QP (m:M D):M ItD:=λen S=>(m en S).bind λp=>NM p.1 p.2
theorem K7 {K:W3}{ρ0:List Addr}{H0:Hp}{n:Nat}{a:Addr}{ds:List D}(ha:ρ0[n]? = some a):ItR K ρ0 H0 (Itl K a) ds (.lst n):=by
 intro ρ H S X R g
 have g':S[n]? = some (.lst ds):=g
 obtain⟨a',h1,xs,h2,h3⟩:=R.ob n _ g'
 have e:a'=a:=by
  have:=X.pre n a ha
  rw [this] at h1
  exact (WQ h1).symm
 subst e
 refine⟨λi d hd=>?_,xs,.of h2,by rw [←h3.length];exact Wp _⟩
 obtain⟨x,x1,x2⟩:=h3.get hd
 refine⟨⟨xs,x,.of h2,x1⟩,λy H' hy=>?_⟩
 obtain⟨rfl,hy⟩:=hy
 have:=hy xs (.of h2)
 rw [x1] at this
 cases this
 exact⟨Ext.refl,R,x2⟩
theorem LF {K:W3}{ρ0:List Addr}{H0:Hp}{a:Addr}{ds:List D}{xs:List V}(ha:H0 a=some (.tup xs))(h3:DsR K ρ0 H0 ds xs):ItR K ρ0 H0 (Itt K a) ds .no:=by
 intro ρ H S X R g
 have h2:=X.tup a xs ha
 have h3:=h3.up X
 refine⟨λi d hd=>?_,xs,.of h2,by rw [←h3.length];exact Wp _⟩
 obtain⟨x,x1,x2⟩:=h3.get hd
 refine⟨⟨xs,x,.of h2,x1⟩,λy H' hy=>?_⟩
 obtain⟨rfl,hy⟩:=hy
 have:=hy xs (.of h2)
 rw [x1] at this
 cases this
 exact⟨Ext.refl,R,x2⟩
theorem LH {K:W3}{ρ0:List Addr}{H0:Hp}{a:Addr}{ns:List Int}(ha:Kp K H0 a ns):ItR K ρ0 H0 (Itl K a) (ns.map D.int) .no:=by
 intro ρ H S X R g
 have h2:=(ha.mono X.weak).seq
 have h3:DsR K ρ H (ns.map D.int) (ns.map V.int):=.ints ns
 refine⟨λi d hd=>?_,_,h2,by rw [←h3.length];exact Wp _⟩
 obtain⟨x,x1,x2⟩:=h3.get hd
 refine⟨⟨_,x,h2,x1⟩,λy H' hy=>?_⟩
 obtain⟨rfl,hy⟩:=hy
 have:=hy _ h2
 rw [x1] at this
 cases this
 exact⟨Ext.refl,R,x2⟩
theorem LG {K:W3}{ρ0:List Addr}{H0:Hp}{x:Str}:ItR K ρ0 H0 (Its x) (x.cps.toList.map λc=>D.str ⟨#[c]⟩) .no:=by
 intro ρ H S X R g
 refine⟨λi d hd=>?_,by show _=x.cps.size;simp⟩
 rw [WU] at hd
 have hd':∃c,x.cps[i]? = some c/\d=D.str ⟨#[c]⟩:=by
  cases q:x.cps.toList[i]? with
  |none=>rw [q] at hd;cases hd
  |some c=>rw [q] at hd;cases hd;exact⟨c,by simpa using q,rfl⟩
 obtain⟨c,hc,rfl⟩:=hd'
 refine⟨(Array.getElem?_eq_some_iff.mp hc).1,λy H' hy=>?_⟩
 obtain⟨rfl,c',h1,rfl⟩:=hy
 rw [hc] at h1
 cases h1
 exact⟨Ext.refl,R,.flat_str⟩
theorem Lu {K:W3}{ρ:List Addr}{H:Hp}{d:D}{k:Key}(e:Qz d=some k):DR K ρ H d (kV k):=by
 cases d with
 |int i=>cases e;exact .flat_int
 |str x=>cases e;exact .flat_str
 |_=>cases e
theorem JZ {K:W3}{ρ0:List Addr}{H0:Hp}{n:Nat}{a:Addr}{o:Obj}{tab:List (Key×V)}{kvs:List (D×D)}{th:Bool}(ha:ρ0[n]? = some a)(h0:H0 a=some (.frz o (.dK tab))):ItR K ρ0 H0 (Itk a o) (kvs.map (·.1)) (.fr n kvs th):=by
 intro ρ H S X1 R hg
 have hH:=X1.frz a o _ h0
 obtain⟨ob,e1,r⟩:=R.obj (X1.pre n a ha)
 have hg':S[n]? = some (.fdct kvs):=hg
 rw [hg'] at e1
 cases e1
 obtain⟨o',ks,xs,q1,q2,q3,q4⟩:=r
 rw [hH] at q1
 cases q1
 have l1:=congrArg Vb q3
 rw [Wg,Wg] at l1
 refine⟨λi d hd=>?_,⟨_,hH,by rw [Wg,VH,←q2,Nat.min_self,l1]⟩⟩
 rw [WU] at hd
 obtain⟨p,p1,p2⟩:=We.mp hd
 have li:i<ks.length:=by rw [←l1];exact (Wl.mp p1).1
 have hk:Qz d=some ks[i]:=by
  have:=congrArg (λl=>l[i]?) q3
  simp only [WU,p1,W5,Wu li] at this
  rw [←p2]
  exact WQ this
 have hz:(ks.zip xs)[i]? = some (ks[i],xs[i]'(by omega)):=by
  rw [Wu (by rw [VH];omega),List.getElem_zip]
 refine⟨⟨_,ks[i],xs[i]'(by omega),hH,hz⟩,λx H' y=>?_⟩
 obtain⟨rfl,y2⟩:=y
 obtain⟨k,v,y3,rfl⟩:=y2 _ hH
 rw [hz] at y3
 cases y3
 exact⟨Ext.refl,R,Lu hk⟩
theorem T4 {tg:Expr}{m:M D}(h:SE X e m):SI X tg e (QP m):=by
 refine Um (FW h) ?_
 rintro σ H Q ⟨ρ,en,S,r,S',E,R,e,k⟩
 unfold QP at e
 obtain⟨p,e1,e2⟩:=W0.mp e
 refine⟨ρ,en,S,p.1,p.2,E,R,e1,λx ρ1 H1 X1 R1 d1=>?_⟩
 obtain⟨d,S1⟩:=p
 dsimp only at e2 d1 R1 k
 cases d with
 |tup ds=>
  cases e2
  obtain⟨a,xs,rfl,a1,a2⟩:=d1.of_tup
  exact .inr (.inl ⟨a,xs,rfl,.of a1,k _ ρ1 H1 X1 R1 (LF a1 a2) trivial⟩)
 |ref n=>
  obtain⟨a,a1,rfl⟩:=d1.of_ref
  obtain⟨ob,eo,ro⟩:=R1.obj a1
  dsimp only [NM] at e2
  rw [eo] at e2
  cases ob with
  |lst ds=>
   cases e2
   obtain⟨xs,x1,x2⟩:=ro
   exact .inl ⟨a,xs,rfl,.of x1,k _ ρ1 H1 X1 R1 (K7 a1) trivial⟩
  |dct kvs=>
   dsimp only at e2
   split at e2
   ·rename_i hk
    cases e2
    have ro':∃(ks:List Key) (xs:List V),(H1 a=some (.dK (ks.zip xs))\/(H1 a=some (.dT [])/\ks=[]/\xs=[]))/\ks.length=xs.length/\kvs.map (λp=>Qz p.1)=ks.map some/\DsR X.K ρ1 H1 (kvs.map (·.2)) xs:=by
     rcases ro with ⟨ks,xs,q1,q2,q3,q4⟩|⟨ks,xs,q1,q2,q3,q4⟩
     ·exact⟨ks,xs,.inl q1,q2,q3,q4⟩
     ·have hn:=all_nil q3 hk (λ_ _=>Qx)
      subst hn
      cases ks with
      |nil=>exact⟨[],[],.inr ⟨q1,rfl,rfl⟩,rfl,rfl,.nil⟩
      |cons _ _=>cases q3
    obtain⟨ks,xs,q1,q2,q3,q4⟩:=ro'
    have goK:∀o,(∀o u,X.H₀ a≠some (.frz o u))->H1 a=some (.dK (ks.zip xs))->Q (Itk a o) (upd H1 a (.frz o (.dK (ks.zip xs)))):=λo hn hq=>by
     have hE:Ext ρ1 H1 ρ1 (upd H1 a (.frz o (.dK (ks.zip xs)))):=Ext.upd hq (λ_ z=>nomatch z) λ_ _ z=>nomatch z
     obtain⟨R2,X2⟩:=R1.set (o:=.frz o (.dK (ks.zip xs))) (ob:=.fdct kvs) a1 (λ_ z=>by rw [eo] at z;cases z) ⟨o,ks,xs,Z5,q2,q3,q4.up hE⟩
     have hX:∀o u,H a≠some (.frz o u):=λo u z=>by have:=X1.frz a o u z;rw [hq] at this;cases this
     have hT:∀ys,H a≠some (.tup ys):=λys z=>by have:=X1.tup a ys z;rw [hq] at this;cases this
     exact k _ ρ1 _ (X1.trans X2) R2 (JZ a1 Z5) ⟨a,a1,hX,hT,hn⟩
    have goT:∀o,(∀o u,X.H₀ a≠some (.frz o u))->H1 a=some (.dT [])->kvs=[]->Q (Itk a o) (upd H1 a (.frz o (.dK []))):=λo hn hq hk=>by
     subst hk
     obtain⟨R2,X2⟩:=R1.set (o:=.frz o (.dK [])) (ob:=.fdct []) a1 (λ_ z=>by rw [eo] at z;cases z) ⟨o,[],[],Z5,rfl,rfl,.nil⟩
     have hX:∀o u,H a≠some (.frz o u):=λo u z=>by have:=X1.frz a o u z;rw [hq] at this;cases this
     have hT:∀ys,H a≠some (.tup ys):=λys z=>by have:=X1.tup a ys z;rw [hq] at this;cases this
     exact k _ ρ1 _ (X1.trans X2) R2 (JZ a1 Z5) ⟨a,a1,hX,hT,hn⟩
    rcases q1 with q1|⟨q1,rfl,rfl⟩
    ·exact .inr (.inr (.inr (.inl ⟨a,_,rfl,q1,λo hn=>goK o hn q1⟩)))
    ·cases kvs with
     |nil=>exact .inr (.inr (.inr (.inr (.inr ⟨a,rfl,q1,λo hn=>goT o hn q1 rfl⟩))))
     |cons _ _=>cases q3
   ·cases e2
  |fdct kvs=>
   cases e2
   obtain⟨o,ks,xs,q1,q2,q3,q4⟩:=ro
   exact .inr (.inr (.inr (.inr (.inl ⟨a,o,_,rfl,q1,k _ ρ1 H1 X1 R1 (JZ a1 q1) trivial⟩))))
  |ins _ _=>cases e2
 |scr ns=>
  cases e2
  obtain⟨a,rfl,a1⟩:=d1.of_scr
  exact .inl ⟨a,_,rfl,a1.seq,k _ ρ1 H1 X1 R1 (LH a1) trivial⟩
 |str z=>
  cases e2
  exact .inr (.inr (.inl ⟨z,d1.of_str,k _ ρ1 H1 X1 R1 LG trivial⟩))
 |_=>cases e2
def YF (lo:Int)(n:Nat):List D:=(Wr n).map λi=>D.int (lo+(i:Nat))
def Ju (m:M D):M ItD:=λen S=>(m en S).bind λp=>match p.1 with | .int j=>if -(2 ^ 62)≤j/\j<2 ^ 62 then some ((YF 0 j.toNat,.no),p.2) else none|_=>none
theorem NL {K:W3}{ρ0:List Addr}{H0:Hp}{lo:Int}{n:Nat}:ItR K ρ0 H0 (Itr lo n) (YF lo n) .no:=by
 intro ρ H S X R g
 refine⟨λi d hd=>?_,by show n≤_;simp [YF]⟩
 unfold YF at hd
 rw [WU] at hd
 cases q:(Wr n)[i]? with
 |none=>rw [q] at hd;cases hd
 |some c=>
  rw [q] at hd
  cases hd
  obtain⟨h1,h2⟩:=Wl.mp q
  simp at h1 h2
  subst h2
  refine⟨h1,λy H' hy=>?_⟩
  obtain⟨rfl,rfl⟩:=hy
  exact⟨Ext.refl,R,.flat_int⟩
theorem Qr {tg:Expr}{p:Pos}{m:M D}(h:SE X a m)(hg:Gl X "range")(hm:X.mg "range" = none)(hs:Wn [a] X.env=[(false,eval a X.env)]:=by rfl):SI X tg (.Call (.Name "range" p) [a] [] pos) (Ju m):=by
 refine Um (BR hg hm (Zf h ZH (by rw [hs];rfl)) hs) ?_
 rintro σ H Q ⟨ρ,en,S,r,S',E,R,e,k⟩
 unfold Ju at e
 obtain⟨q,e1,e⟩:=W0.mp e
 obtain⟨d,S1⟩:=q
 cases d with
 |int j=>
  dsimp only at e
  split at e
  ·rename_i hj
   cases e
   exact⟨ρ,en,S,.int j,_,E,R,e1,λx ρ1 H1 X1 R1 d1=>⟨j,by rw [d1.of_int],hj.1,hj.2,k _ ρ1 H1 X1 R1 NL trivial⟩⟩
  ·cases e
 |_=>cases e
end
end DL
namespace DL
open PySem PySem.Spec PyProof.Rows L2
section
variable {X:Cx} {e a b c:Expr} {es:List Expr} {pos:Pos}
def tML (K:W3)(m:M (List D)):TE:=λσ H Q=>∃ρ en S ds S',EnR K ρ H en σ/\StR K ρ H S/\m en S=some (ds,S')/\
 ∀a xs ρ' H',Ext ρ H ρ' H'->StR K ρ' H' S'->H' a=none->DsR K ρ' H' ds xs->Q (.ref a) (upd H' a (.lst xs))
def SL (X:Cx)(e:Expr)(m:M (List D)):Prop:=PE X e (tML X.K m)
theorem Ig {m:M (List D)}(h:SL X e m):SE X e (YK m):=by
 refine Zm h ?_
 rintro σ H Q ⟨ρ,en,S,v,S',E,R,e,k⟩
 unfold YK at e
 obtain⟨p,e1,e2⟩:=We.mp e
 cases e2
 refine⟨ρ,en,S,p.1,p.2,E,R,e1,λa xs ρ' H' X1 R1 ha d1=>?_⟩
 refine k _ (ρ'++[a]) _ (X1.trans (Ext.newRef ha)) (R1.push ha ⟨xs,Z5,d1.up (Ext.newRef ha)⟩) (.ref ?_)
 rw [←R1.len];simp
section
variable {tg iter elt:Expr} {ifs:List Expr} {scope:Scope} {tgs cn:List Str} {caps:List Nat} {mi:M ItD} {g:TG} {gd:D->En->Option En} {mc:M Bool} {m:M D}
end
def Lq (a b:M D):M D:=λen S=>(a en S).bind λp=>(b en p.2).bind λq=>match p.1 with
 | .ref n=>match p.2[n]?,q.2[n]? with
  |some (.lst _),some (.lst ds)=>if ds.length<Wc then some (.non,q.2.set n (.lst (ds++[q.1]))) else none
  |_,_=>none
 |_=>none
theorem YM {K:W3}{ρ:List Addr}{H:Hp}{S:Sto}{n:Nat}{a:Addr}{ds:List D}(R:StR K ρ H S)(h:ρ[n]? = some a)(e:S[n]? = some (.lst ds)):∃xs,H a=some (.lst xs)/\DsR K ρ H ds xs:=by
 obtain⟨ob,e1,r⟩:=R.obj h
 rw [e] at e1
 cases e1
 exact r
theorem Uj {p:Pos}{ma mb:M D}(ha:SE X a ma)(hb:SE X b mb)(hs:Wn [b] X.env=(false,eval b X.env) :: Wn [] X.env:=by rfl)
  (hbase:attributeBase a ("append" : Str) X.env (eval a X.env)=eval a X.env:=by rfl)
  (hfew:((backTo pos (Wn [b] X.env)).all (λx=>!x.1)&&(backToKw pos (keywordEach [] X.env)).all (λx=>x.1.isSome)
   && decide ([b].length+([]:List Keyword).length+(if ([]:List Keyword).isEmpty then 0 else 1)<30))=true:=by rfl)
  (hline:(p.endLine == pos.line)=true:=by rfl) (hplain:(backTo pos (Wn [] X.env)).any (·.1)=false:=by rfl) :
  SE X (.Call (.Attribute a "append" p) [b] [] pos) (Lq ma mb):=by
 refine Zm (BV W0m PySem.F.slot_list_append PySem.F.type_list_append N1 ha (Zf hb ZH hs) hbase hfew hline hs hplain) ?_
 rintro σ H Q ⟨ρ,en,S,v,S',E,R,e,k⟩
 unfold Lq at e
 obtain⟨p,e1,e⟩:=W0.mp e
 obtain⟨q,e2,e⟩:=W0.mp e
 obtain⟨d,S1⟩:=p
 obtain⟨d2,S2⟩:=q
 refine⟨ρ,en,S,d,S1,E,R,e1,λx ρ1 H1 X1 R1 d1=>?_⟩
 cases d with
 |ref n=>
  dsimp only at e
  split at e
  ·rename_i ds0 ds hn0 hn
   split at e
   ·rename_i hz
    cases e
    obtain⟨l,a1,rfl⟩:=d1.of_ref
    obtain⟨xs0,hx0,_⟩:=YM R1 a1 hn0
    refine⟨.inl ⟨rfl,xs0,.of hx0⟩,ρ1,en,S1,d2,S2,E.up X1,R1,e2,λy ρ2 H2 X2 R2 dy=>?_⟩
    have a2:=X2.pre n l a1
    obtain⟨xs,h1,h2⟩:=YM R2 a2 hn
    refine⟨l,xs,y,rfl,rfl,h1,by rw [←h2.length];exact hz,?_⟩
    have hd:DsR X.K ρ2 H2 (ds++[d2]) (xs++[y]):=h2.append (.cons dy .nil)
    have hE:Ext ρ2 H2 ρ2 (upd H2 l (.lst (xs++[y]))):=Ext.upd h1 (λ_ z=>nomatch z) λ_ _ z=>nomatch z
    obtain⟨R3,X3⟩:=R2.set (o:=.lst (xs++[y])) (ob:=.lst (ds++[d2])) a2 (λ_ z=>by rw [hn] at z;cases z) ⟨xs++[y],Z5,hd.up hE⟩
    exact k _ ρ2 _ ((X1.trans X2).trans X3) R3 .flat_non
   ·cases e
  ·cases e
 |_=>cases e
def Hd:M D:=λ_ S=>some (.ref S.length,S++[.dct []])
theorem Ps.or {t t':Cu}(h:Ps X t)(h':Ps X t'):Ps X (λo i v H Q=>t o i v H Q\/t' o i v H Q):=by
 intro pins s σ H o i v ov iv u Q I ro ri rv q
 rcases q with q|q
 ·exact h pins s σ H o i v ov iv u Q I ro ri rv q
 ·exact h' pins s σ H o i v ov iv u Q I ro ri rv q
theorem MB (hu:X.A.units+64<cLine):Ps X (λo i v H Q=>∃a H',o = .ref a/\Fa H a i v H'/\Q H'):=by
 intro pins s σ H o i v ov iv u Q I ro ri rv h
 obtain⟨a,H',rfl,g,q⟩:=h
 cases ro
 exact B5 (by omega) I g ri rv λs' I'=>⟨H',I',q⟩
def PH (a k v:D)(S:Sto):Option Sto:=match a with
 | .ref n=>match S[n]? with
  |some (.lst ds)=>(match k with
   | .int i=>(ixN ds.length i).map λj=>S.set n (.lst (ds.set j v))
   |_=>none)
  |some (.dct kvs)=>if (YR kvs k&&decide (kvs.length<Wc))=true then some (S.set n (.dct (Gy kvs k v))) else none
  |_=>none
 |_=>none
def YT (mv ma mb:M D):MS:=λen S=>(mv en S).bind λp=>(ma en p.2).bind λq=>(mb en q.2).bind λr=>(PH q.1 r.1 p.1 r.2).map λS'=>(.nx,en,S')
theorem DsR.setAt {K:W3}{ρ:List Addr}{H:Hp}{d:D}{x:V}(h:DR K ρ H d x):∀{ds:List D} {xs:List V} (j:Nat),DsR K ρ H ds xs->DsR K ρ H (ds.set j d) (xs.set j x)
 |[],xs,j,t=>by unfold DsR at t;subst t;exact .nil
 |c :: ds,xs,j,t=>by
  unfold DsR at t
  obtain⟨y,r,rfl,t1,t2⟩:=t
  cases j with
  |zero=>exact .cons h t2
  |succ j=>exact .cons t1 (DsR.setAt h j t2)
theorem JD {v:Expr}{p1:Pos}{mv ma mb:M D}(hu:X.A.units+64<cLine)(hv:SE X v mv)(ha:SE X a ma)(hb:SE X b mb)
  (hs:swapsWithSole [.Subscript a b p1] v pos.line X.env=pure false:=by rfl) (hw:swappedStores [.Subscript a b p1] v X.env=pure none:=by rfl)
  (h1:(assignEach [.Subscript a b p1] X.env).map (·.2)=[assign (.Subscript a b p1) X.env]:=by rfl)
  (hq:∀v,assign (.Subscript a b p1) X.env v=(do
   let ov ←holding [v] (eval a X.env)
   let iv ←holding [v,ov] (eval b X.env)
   standAt p1
   holding [v,ov,iv] (setItem ov iv v)
   release [v,ov,iv] []):=by intro _;rfl):SS X (.Assign [.Subscript a b p1] v pos) (YT mv ma mb):=by
 refine J8 (FS hv (FY ha hb (Ps.or Mz (MB hu)) hq) hs hw h1) ?_
 rintro DD σ H ⟨ρ,en,S,f,en',S',E,R,e,k⟩
 unfold YT at e
 obtain⟨p,e1,e⟩:=W0.mp e
 obtain⟨q,e2,e⟩:=W0.mp e
 obtain⟨r,e3,e⟩:=W0.mp e
 obtain⟨S3,e4,e5⟩:=We.mp e
 cases e5
 refine⟨ρ,en,S,p.1,p.2,E,R,e1,λx ρ1 H1 X1 R1 d1=>⟨ρ1,en,p.2,q.1,q.2,E.up X1,R1,e2,λy ρ2 H2 X2 R2 d2=>⟨ρ2,en,q.2,r.1,r.2,(E.up X1).up X2,R2,e3,λz ρ3 H3 X3 R3 d3=>?_⟩⟩⟩
 obtain⟨qd,qS⟩:=q
 obtain⟨rd,rS⟩:=r
 dsimp only at e4 d2 d3 R3
 have d1':=(d1.up X2).up X3
 have d2':=d2.up X3
 cases qd with
 |ref n=>
  obtain⟨l,a1,rfl⟩:=d2'.of_ref
  dsimp only [PH] at e4
  split at e4
  ·rename_i ds hn
   cases rd with
   |int i=>
    obtain⟨j,j1,j2⟩:=We.mp e4
    subst j2
    obtain⟨xs,h1,h2⟩:=YM R3 a1 hn
    refine .inl ⟨l,xs,i,j,rfl,d3.of_int,h1,by rw [←h2.length];exact j1,?_⟩
    have hE:Ext ρ3 H3 ρ3 (upd H3 l (.lst (xs.set j x))):=Ext.upd h1 (λ_ z=>nomatch z) λ_ _ z=>nomatch z
    obtain⟨R4,X4⟩:=R3.set (o:=.lst (xs.set j x)) (ob:=.lst (ds.set j p.1)) a1 (λ_ z=>by rw [hn] at z;cases z) ⟨_,Z5,(DsR.setAt d1' j h2).up hE⟩
    exact k ρ3 _ σ (((X1.trans X2).trans X3).trans X4) R4 (E.up (((X1.trans X2).trans X3).trans X4))
   |_=>cases e4
  ·rename_i kvs hn
   split at e4
   ·rename_i hc
    cases e4
    rw [WA,decide_eq_true_eq] at hc
    obtain⟨H4,g,R4,X4⟩:=LY R3 a1 hn hc.1 hc.2 d3 d1'
    exact .inr ⟨l,H4,rfl,g,k ρ3 H4 σ (((X1.trans X2).trans X3).trans X4) R4 (E.up (((X1.trans X2).trans X3).trans X4))⟩
   ·cases e4
  ·cases e4
 |_=>cases e4
def Pu:D->Sto->Option (List D)
 | .tup ds,_=>some ds
 | .ref n,S=>match S[n]? with|some (.lst ds)=>some ds|_=>none
 | .scr ns,_=>some (ns.map D.int)
 |_,_=>none
def N5 (m:M D):M D:=λen S=>(m en S).bind λp=>(Pu p.1 p.2).map λds=>(.tup ds,p.2)
theorem PK {p:Pos}{m:M D}(h:SE X e m)(hg:Gl X "tuple")(hm:X.mg "tuple" = none)(hv:Wz "tuple" = some (.type "tuple"))
  (he:Wn [e] X.env=(false,eval e X.env) :: Wn [] X.env:=by rfl):SE X (.Call (.Name "tuple" p) [e] [] pos) (N5 m):=by
 refine Zm (Ja U2 hg hm hv (Zf h ZH he) (by decide) (by decide) he (by rfl)) ?_
 rintro σ H Q ⟨ρ,en,S,v,S',E,R,e,k⟩
 unfold N5 at e
 obtain⟨q,e1,e⟩:=W0.mp e
 obtain⟨ds,e2,e3⟩:=We.mp e
 cases e3
 refine⟨ρ,en,S,q.1,q.2,E,R,e1,λx ρ1 H1 X1 R1 d1=>?_⟩
 obtain⟨d,S1⟩:=q
 dsimp only at e2 d1 R1 k
 cases d with
 |tup es=>
  cases e2
  obtain⟨a,xs,rfl,a1,a2⟩:=d1.of_tup
  exact⟨a,xs,rfl,.inr ⟨.of a1,k _ ρ1 H1 X1 R1 d1⟩⟩
 |ref n=>
  obtain⟨a,a1,rfl⟩:=d1.of_ref
  dsimp only [Pu] at e2
  split at e2
  ·rename_i es hn
   cases e2
   obtain⟨xs,h1,h2⟩:=YM R1 a1 hn
   exact⟨a,xs,rfl,.inl ⟨.of h1,λl hl=>k _ ρ1 _ (X1.trans (Ext.new hl)) (R1.new hl) (.tup Z5 (h2.up (Ext.new hl)))⟩⟩
  ·cases e2
 |scr ns=>
  cases e2
  obtain⟨a,rfl,a1⟩:=d1.of_scr
  exact⟨a,_,rfl,.inl ⟨a1.seq,λl hl=>k _ ρ1 _ (X1.trans (Ext.new hl)) (R1.new hl) (.tup Z5 ((DsR.ints ns).up (Ext.new hl)))⟩⟩
 |_=>cases e2
def Ak (m:M (List D)):M D:=λen S=>(m en S).map λp=>(.tup p.1,p.2)
theorem BB {p:Pos}{m:M (List D)}(h:SQ X e m)(hg:Gl X "list")(hm:X.mg "list" = none)(hv:Wz "list" = some (.type "list"))
  (he:Wn [e] X.env=(false,eval e X.env) :: Wn [] X.env:=by rfl):SL X (.Call (.Name "list" p) [e] [] pos) m:=by
 refine Zm (Ja UN hg hm hv (Zf h ZH he) (by decide) (by decide) he (by rfl)) ?_
 rintro σ H Q ⟨ρ,en,S,ds,S',E,R,e,k⟩
 refine⟨ρ,en,S,ds,S',E,R,e,λa xs ρ1 H1 X1 R1 hq d1=>⟨a,xs,rfl,hq,λl hl=>k l xs ρ1 H1 X1 R1 hl d1⟩⟩
def HR (m:M (List D)):M (List D):=λen S=>(m en S).bind λp=>if TQ p.1=true then some (Bz p.1,p.2) else none
def HE:D->Sto->Option (List D)
 | .tup ds,_=>some ds
 | .ref n,S=>match S[n]? with
  |some (.lst ds)=>some ds
  |some (.dct kvs)=>some (kvs.map (·.1))
  |some (.fdct kvs)=>some (kvs.map (·.1))
  |_=>none
 | .scr ns,_=>some (ns.map D.int)
 |_,_=>none
def Am (m:M D):M (List D):=λen S=>(m en S).bind λp=>(HE p.1 p.2).bind λds=>if TQ ds=true then some (Bz ds,p.2) else none
end
end DL
namespace DL
open PySem PySem.Spec PyProof.Rows L2
section
variable {X:Cx} {e a b c:Expr} {es:List Expr} {pos:Pos}
def Ks (xs ys:List D):List D:=(xs.zip ys).map λp=>.tup [p.1,p.2]
def GN:D->Sto->Option (List D×List (Nat×List D))
 | .tup ds,_=>some (ds,[])
 | .ref n,S=>match S[n]? with|some (.lst ds)=>some (ds,[(n,ds)])|_=>none
 |_,_=>none
def gdZ:List (Nat×List D)->Gd
 |[]=>.no
 |g=>.zl g
def Aj (ma mb:M D):M ItD:=λen S=>(ma en S).bind λp=>(mb en p.2).bind λq=>(GN p.1 q.2).bind λx=>(GN q.1 q.2).map λy=>((Ks x.1 y.1,gdZ (x.2++y.2)),q.2)
theorem RT {gs:List (Nat×List D)}{ds:List D}{S:Sto}(h:TF (gdZ gs) ds S):∀p∈gs,S[p.1]? = some (.lst p.2):=by
 cases gs with
 |nil=>intro p hp;cases hp
 |cons _ _=>exact h
def SdR (K:W3)(ρ:List Addr)(H:Hp)(c:Bool)(l:Addr)(ds:List D)(gs:List (Nat×List D)):Prop:=(c=false/\∃vs,H l=some (.tup vs)/\DsR K ρ H ds vs)\/(c=true/\∃n,ρ[n]? = some l/\(n,ds)∈gs)
theorem TR {K:W3}{ρ:List Addr}{H:Hp}{S:Sto}{d:D}{x:V}{r:List D×List (Nat×List D)}(R:StR K ρ H S)(h:DR K ρ H d x)(e:GN d S=some r):∃c l vs,x = .ref l/\TrS c H l vs/\SdR K ρ H c l r.1 r.2:=by
 cases d with
 |tup ds=>
  cases e
  obtain⟨a,xs,rfl,a1,a2⟩:=h.of_tup
  exact⟨false,a,xs,rfl,a1,.inl ⟨rfl,xs,a1,a2⟩⟩
 |ref n=>
  obtain⟨a,a1,rfl⟩:=h.of_ref
  dsimp only [GN] at e
  split at e
  ·rename_i ds hn
   cases e
   obtain⟨xs,x1,x2⟩:=YM R a1 hn
   exact⟨true,a,xs,rfl,x1,.inr ⟨rfl,n,a1,WR⟩⟩
  ·cases e
 |_=>cases e
theorem SdR.mono {K:W3}{ρ:List Addr}{H:Hp}{c:Bool}{l:Addr}{ds:List D}{gs gs':List (Nat×List D)}(h:SdR K ρ H c l ds gs)(hs:∀p∈gs,p∈gs'):SdR K ρ H c l ds gs':=by
 rcases h with h|⟨h1,n,h2,h3⟩
 ·exact .inl h
 ·exact .inr ⟨h1,n,h2,hs _ h3⟩
theorem SdR.at {K:W3}{ρ0 ρ:List Addr}{H0 H:Hp}{S:Sto}{c:Bool}{l:Addr}{ds:List D}{gs:List (Nat×List D)}(h:SdR K ρ0 H0 c l ds gs)(X1:Ext ρ0 H0 ρ H)(R:StR K ρ H S)(g:∀p∈gs,S[p.1]? = some (.lst p.2)):∃vs,TrS c H l vs/\DsR K ρ H ds vs:=by
 rcases h with ⟨rfl,vs,h1,h2⟩|⟨rfl,n,h1,h2⟩
 ·exact⟨vs,X1.tup _ _ h1,h2.up X1⟩
 ·obtain⟨xs,x1,x2⟩:=YM R (X1.pre n l h1) (g _ h2)
  exact⟨xs,x1,x2⟩
theorem LE {K:W3}{ρ0:List Addr}{H0:Hp}{c1 c2:Bool}{l1 l2:Addr}{xs ys:List D}{gs:List (Nat×List D)}(s1:SdR K ρ0 H0 c1 l1 xs gs)(s2:SdR K ρ0 H0 c2 l2 ys gs) :
  ItR K ρ0 H0 (Itz c1 l1 c2 l2) (Ks xs ys) (gdZ gs):=by
 intro ρ H S X1 R g
 obtain⟨vs,t1,d1⟩:=s1.at X1 R (RT g)
 obtain⟨ws,t2,d2⟩:=s2.at X1 R (RT g)
 refine⟨λi d hd=>?_,vs,ws,t1,t2,?_⟩
 ·unfold Ks at hd
  rw [WU] at hd
  obtain⟨q,q1,q2⟩:=We.mp hd
  obtain⟨z1,z2⟩:=List.getElem?_zip_eq_some.mp q1
  obtain⟨x,x1,x2⟩:=d1.get z1
  obtain⟨y,y1,y2⟩:=d2.get z2
  refine⟨⟨vs,ws,x,y,t1,t2,x1,y1⟩,λv H' hy=>?_⟩
  obtain⟨p,x',y',rfl,hn,rfl,e1,e2⟩:=hy
  have e1:=e1 _ t1
  have e2:=e2 _ t2
  rw [x1] at e1
  rw [y1] at e2
  cases e1
  cases e2
  subst q2
  exact⟨Ext.new hn,R.new hn,.tup Z5 ((DsR.cons x2 (.cons y2 .nil)).up (Ext.new hn))⟩
 ·have l1:=d1.length
  have l2:=d2.length
  unfold Ks
  rw [Wg,VH]
  omega
theorem Fw {elts:List Expr}{kt:Nat}{pt p:Pos}{ma mb:M D}(ha:SE X a ma)(hb:SE X b mb)(hg:Gl X "zip")(hm:X.mg "zip" = none)(hv:Wz "zip" = some (.type "zip"))
  (he:Wn [a,b] X.env=(false,eval a X.env) :: Wn [b] X.env:=by rfl) (he2:Wn [b] X.env=(false,eval b X.env) :: Wn [] X.env:=by rfl) :
  SI X (.Tuple elts kt pt) (.Call (.Name "zip" p) [a,b] [] pos) (Aj ma mb):=by
 refine Um (FU hg hm hv (Zf ha (Zf hb ZH he2) he) he (by rw [he2];rfl)) ?_
 rintro σ H Q ⟨ρ,en,S,r,S',E,R,e,k⟩
 unfold Aj at e
 obtain⟨p,e1,e⟩:=W0.mp e
 obtain⟨q,e2,e⟩:=W0.mp e
 obtain⟨x,e3,e⟩:=W0.mp e
 obtain⟨y,e4,e⟩:=We.mp e
 cases e
 refine⟨ρ,en,S,p.1,p.2,E,R,e1,λu ρ1 H1 X1 R1 d1=>⟨ρ1,en,p.2,q.1,q.2,E.up X1,R1,e2,λv ρ2 H2 X2 R2 d2=>?_⟩⟩
 obtain⟨c1,l1,vs,rfl,t1,s1⟩:=TR R2 (d1.up X2) e3
 obtain⟨c2,l2,ws,rfl,t2,s2⟩:=TR R2 d2 e4
 refine⟨c1,l1,vs,c2,l2,ws,rfl,t1,t2,k _ ρ2 H2 (X1.trans X2) R2 (LE (s1.mono λp hp=>W0b _ hp) (s2.mono λp hp=>WE _ hp)) ?_⟩
 show GF X (gdZ (x.2++y.2)) ρ2 H
 cases x.2++y.2<;>trivial
theorem BE {n:Int}{j:Nat}{p2:Pos}:SE X (.UnaryOp .USub (.Constant (.int n) j p2) pos) (Zk (.int (-n))):=by
 refine Zm (CO Fj Ky) ?_
 rintro σ H Q ⟨ρ,en,S,v,S',E,R,e,k⟩
 cases e
 exact⟨n,rfl,k _ ρ H Ext.refl R .flat_int⟩
def KH (f:Int->Int->Int)(a b:M D):M D:=λen S=>(a en S).bind λp=>(b en p.2).bind λq=>match p.1,q.1 with | .int i,.int j=>some (.int (f i j),q.2)|_,_=>none
def U7 (i j:Int):Int:=if j<i then j else i
theorem Ms {f:Int->Int->Int}{ma mb:M D}{σ:L2.St}{H:Hp}{Q:VK}(h:tM X.K (KH f ma mb) σ H Q):Bv (tM X.K ma) (Bv (tM X.K mb) Cp) σ H (λxs H'=>∃i j,xs=[.int i,.int j]/\Q (.int (f i j)) H'):=by
 obtain⟨ρ,en,S,v,S',E,R,e,k⟩:=h
 unfold KH at e
 obtain⟨p,e1,e⟩:=W0.mp e
 obtain⟨q,e2,e⟩:=W0.mp e
 obtain⟨d,S1⟩:=p
 obtain⟨d',S2⟩:=q
 refine⟨ρ,en,S,d,S1,E,R,e1,λx ρ1 H1 X1 R1 d1=>⟨ρ1,en,S1,d',S2,E.up X1,R1,e2,λy ρ2 H2 X2 R2 d2=>?_⟩⟩
 cases d with
 |int i=>
  cases d' with
  |int j=>
   cases e
   exact⟨i,j,by rw [d1.of_int,d2.of_int],k _ ρ2 H2 (X1.trans X2) R2 .flat_int⟩
  |_=>cases e
 |_=>cases e
theorem PL {p:Pos}{ma mb:M D}(hc:X.calm=true)(ha:SE X a ma)(hb:SE X b mb)(hg:Gl X "min")(hm:X.mg "min" = none)(hv:Wz "min" = some (.builtin "min"))
  (he:Wn [a,b] X.env=(false,eval a X.env) :: Wn [b] X.env:=by rfl) (he2:Wn [b] X.env=(false,eval b X.env) :: Wn [] X.env:=by rfl):SE X (.Call (.Name "min" p) [a,b] [] pos) (KH U7 ma mb):=
 Zm (Yz (Mb hc) hg hm hv (Zf ha (Zf hb ZH he2) he) (by decide) (by decide) he (by rw [he2];rfl)) λ_ _ _ h=>Ms h
def N8 (a:M D):M D:=λen S=>(a en S).bind λp=>match p.1 with | .int i=>some (.int i,p.2) | .bl c=>some (.int (if c then 1 else 0),p.2)|_=>none
theorem PP {p:Pos}{m:M D}(h:SE X e m)(hg:Gl X "int")(hm:X.mg "int" = none)(hv:Wz "int" = some (.type "int"))
  (he:Wn [e] X.env=(false,eval e X.env) :: Wn [] X.env:=by rfl):SE X (.Call (.Name "int" p) [e] [] pos) (N8 m):=by
 refine Zm (Ja Md hg hm hv (Zf h ZH he) (by decide) (by decide) he (by rfl)) ?_
 rintro σ H Q ⟨ρ,en,S,v,S',E,R,e,k⟩
 unfold N8 at e
 obtain⟨q,e1,e⟩:=W0.mp e
 obtain⟨d,S1⟩:=q
 refine⟨ρ,en,S,d,S1,E,R,e1,λx ρ1 H1 X1 R1 d1=>?_⟩
 cases d with
 |int i=>cases e;exact .inl ⟨i,by rw [d1.of_int],k _ ρ1 H1 X1 R1 .flat_int⟩
 |bl c=>cases e;exact .inr ⟨c,by rw [d1.of_bl],k _ ρ1 H1 X1 R1 .flat_int⟩
 |_=>cases e
theorem Av {pins:List (Addr×Obj)}{σ:L2.St}{H:Hp}{s:Shared}{ρ:List Addr}{S:Sto}{d:D}{x:V}{u:Value}{T:String}(I:Inv X pins σ H s)(R:StR X.K ρ H S)(h:DR X.K ρ H d x)(rx:Zz x u)(e:tyD d S=some T) :
  ∃Z,PySem.W.KitX X.K u (.type T) Z/\Z s.heap/\u≠.builtin "__main__.__loader__#opaque":=by
 cases d with
 |non=>rw [h.of_non] at rx;cases e;cases (show u=Value.none from rx);exact⟨_,PySem.W.kitx_none,True.intro,λz=>nomatch z⟩
 |bl b=>rw [h.of_bl] at rx;cases e;cases (show u=Value.bool b from rx);exact⟨_,PySem.W.kitx_bool,True.intro,λz=>nomatch z⟩
 |int i=>rw [h.of_int] at rx;cases e;obtain⟨t,q⟩:=(show ∃t,u=Value.int i t from rx);cases q;exact⟨_,PySem.W.kitx_int,True.intro,λz=>nomatch z⟩
 |str i=>rw [h.of_str] at rx;cases e;obtain⟨t,q⟩:=(show ∃t,u=Value.str i t from rx);cases q;exact⟨_,PySem.W.kitx_str,True.intro,λz=>nomatch z⟩
 |tup ds=>
  obtain⟨a,xs,rfl,a1,_⟩:=h.of_tup
  cases e
  cases (show u=Value.ref a from rx)
  obtain⟨its,rv,⟨o,ho,hc,_⟩,_⟩:=I.tuple (.of a1)
  exact⟨_,PySem.W.kitx_tuple,⟨o,ho,hc⟩,λz=>nomatch z⟩
 |ref n=>
  obtain⟨a,a1,rfl⟩:=h.of_ref
  cases (show u=Value.ref a from rx)
  obtain⟨ob,eo,ro⟩:=R.obj a1
  dsimp only [tyD] at e
  rw [eo] at e
  cases ob with
  |lst ds=>
   cases e
   obtain⟨xs,x1,_⟩:=ro
   obtain⟨_,_,n,_,h1⟩:=(show ZB X.prog X.w H s.heap a (.lst xs) from I.hok a _ x1)
   exact⟨_,W14,⟨_,h1,rfl⟩,λz=>nomatch z⟩
  |dct kvs=>
   cases e
   have:IsD H a:=Ef R a1 (by unfold LM;rw [eo])
   obtain⟨t1,_⟩:=Eh I this
   obtain⟨o,ho,hc⟩:=t1
   exact⟨_,W15,⟨o,ho,hc⟩,λz=>nomatch z⟩
  |fdct _=>cases e
  |ins _ _=>cases e
 |scr ns=>cases e
def N7 (C1 C2:String)(m:M D):M D:=λen S=>(m en S).bind λp=>(tyD p.1 p.2).map λT=>(.bl (JH T C1||JH T C2),p.2)
theorem Mc {C1 C2:String}(h1:Isi X.K C1)(h2:Isi X.K C2):YH X (.builtin "isinstance") (λxs H Q=>∃x p ρ S d T,xs=[x,.ref p]/\H p=some (.tup [.ty C1,.ty C2])/\StR X.K ρ H S/\DR X.K ρ H d x/\tyD d S=some T/\Q (.bl (JH T C1||JH T C2)) H):=by
 intro pins s σ H xs us Q I r h
 obtain⟨x,p,ρ,S,d,T,rfl,hp,R,dx,ty,q⟩:=h
 obtain⟨u,w',rfl,ru,rw'⟩:=Bk r
 cases rw'
 obtain⟨Z,z1,z2,z3⟩:=Av I R dx ru ty
 obtain⟨its,rv,⟨o,ho,hc,n,hd⟩,_⟩:=I.tuple (.of hp)
 obtain⟨v1,v2,rfl,r1,r2⟩:=Bk rv
 cases (show v1=Value.type C1 from r1)
 cases (show v2=Value.type C2 from r2)
 obtain⟨oc,od,odt,osl⟩:=o
 dsimp only at hc hd
 subst hc hd
 refine PySem.W.kia_tup z1 I.kIn z2 ho (b:=JH T C1||JH T C2) ?_ z3 λtk=>⟨.bl _,H,I.tok tk,rfl,q⟩
 unfold PySem.W.kitAny
 rw [h1 T (Bl ty)]
 cases JH T C1 with
 |true=>rfl
 |false=>
  dsimp only
  unfold PySem.W.kitAny
  rw [h2 T (Bl ty)]
  cases JH T C2<;>rfl
theorem PN {p p1 p2 p3:Pos}{k3:Nat}{C1 C2:String}{x1 x2:Str}{m:M D}(hi1:Isi X.K C1)(hi2:Isi X.K C2)(h:SE X a m)(hg:Gl X "isinstance")(hm:X.mg "isinstance" = none)(hv:Wz "isinstance" = some (.builtin "isinstance"))
  (hg1:Gl X x1) (hm1:X.mg x1=none) (hv1:Wz x1=some (.type C1)) (hg2:Gl X x2) (hm2:X.mg x2=none) (hv2:Wz x2=some (.type C2))
  (hn1:x1≠"__name__":=by decide) (hd1:(x1 == ("__debug__" : Str))=false:=by decide) (hn2:x2≠"__name__":=by decide) (hd2:(x2 == ("__debug__" : Str))=false:=by decide)
  (he:Wn [a,.Tuple [.Name x1 p1,.Name x2 p2] k3 p3] X.env=(false,eval a X.env) :: Wn [.Tuple [.Name x1 p1,.Name x2 p2] k3 p3] X.env:=by rfl)
  (he2:Wn [.Tuple [.Name x1 p1,.Name x2 p2] k3 p3] X.env=(false,eval (.Tuple [.Name x1 p1,.Name x2 p2] k3 p3) X.env) :: Wn [] X.env:=by rfl)
  (hf1:Wn [.Name x1 p1,.Name x2 p2] X.env=(false,eval (.Name x1 p1) X.env) :: Wn [.Name x2 p2] X.env:=by rfl) (hf2:Wn [.Name x2 p2] X.env=(false,eval (.Name x2 p2) X.env) :: Wn [] X.env:=by rfl) :
  SE X (.Call (.Name "isinstance" p) [a,.Tuple [.Name x1 p1,.Name x2 p2] k3 p3] [] pos) (N7 C1 C2 m):=by
 refine Zm (Yz (Mc (C1:=C1) (C2:=C2) hi1 hi2) hg hm hv (Zf h (Zf (Kx (Zf (T6 hg1 hm1 hv1 (show Zz (.ty C1) (.type C1) from rfl) hn1 hd1) (Zf (T6 hg2 hm2 hv2 (show Zz (.ty C2) (.type C2) from rfl) hn2 hd2) ZH hf2) hf1)) ZH he2) he) (by decide) (by decide) he (by rw [he2];rfl)) ?_
 rintro σ H Q ⟨ρ,en,S,v,S',E,R,e,k⟩
 unfold N7 at e
 obtain⟨r,e1,e⟩:=W0.mp e
 obtain⟨T,e2,e3⟩:=We.mp e
 cases e3
 refine⟨ρ,en,S,r.1,r.2,E,R,e1,λx ρ1 H1 X1 R1 d1=>⟨by show 2≤Wc;decide,λq hq=>⟨x,q,ρ1,r.2,r.1,T,rfl,Z5,R1.new hq,d1.up (Ext.new hq),e2,k _ ρ1 _ (X1.trans (Ext.new hq)) (R1.new hq) .flat_bl⟩⟩⟩
def BW:List D->Option (List (D×D))
 |[]=>some []
 | .tup [k,v] :: r=>if (Qz k).isSome=true then (BW r).map λps=>(k,v) :: ps else none
 |_=>none
def Pm (kvs:List (D×D))(ps:List (D×D)):List (D×D):=ps.foldl (λacc p=>Gy acc p.1 p.2) kvs
def KI (m:M D):M D:=λen S=>(m en S).bind λp=>match p.1 with
 | .tup ds=>if ds.length≤Wc then (BW ds).map λps=>(.ref p.2.length,p.2++[.dct (Pm [] ps)]) else none
 |_=>none
end
end DL
namespace DL
open PySem L2 PySem.Spec PyProof.Rows
section
variable {X:Cx} {e a d:Expr} {pos:Pos}
end
end DL
namespace DL
open PySem L2 PySem.Spec PyProof.Rows
mutual
def IsD (h:Heap):D->Value->Prop
 | .int i,v=>∃t,v = .int i t
 | .str x,v=>∃t,v = .str x t
 | .tup ds,v=>∃a its,v = .ref a/\h.IsTuple a its/\IsDs h ds its.toList
 | .non,_=>False
 | .bl _,_=>False
 | .ref _,_=>False
 | .scr _,_=>False
def IsDs (h:Heap):List D->List Value->Prop
 |[],vs=>vs=[]
 |d :: ds,vs=>∃v r,vs=v :: r/\IsD h d v/\IsDs h ds r
end
end DL
namespace DL
open PySem L2 PySem.Spec PyProof.Rows
section
variable {prog:Program} {w:World}
end
end DL
namespace DL
open PySem L2 PySem.Spec PyProof.Rows
section
variable {prog:Program} {w:World}
end
end DL
namespace DL
open PySem L2 PySem.Spec PyProof.Rows
section
variable {X:Cx} {e:Expr} {pos:Pos}
end
end DL
namespace DL
open PySem L2 PySem.Spec PyProof.Rows
section
variable {X:Cx} {pins:List (Addr×Obj)} {σ:L2.St} {H:Hp} {s:Shared}
end
theorem NF {P:Program}{w:World}{k:Key}{v:Value}(h:(ZL P w).is k v=true):Zz (kV k) v:=by
 rcases Zq (k:=k) (v:=v) h with ⟨i,t,rfl,rfl⟩|⟨x,t,rfl,rfl⟩
 ·exact⟨t,rfl⟩
 ·exact⟨t,rfl⟩
section
variable {X:Cx} {o:Expr} {pos:Pos}
end
end DL
namespace DL
open PySem L2 PySem.Spec PyProof.Rows
section
variable {X:Cx} {e a d o:Expr} {pos:Pos}
def UC:List D->Option (List Int)
 |[]=>some []
 | .int b :: r=>(UC r).map λbs=>b :: bs
 |_=>none
theorem U0 {K:W3}{ρ:List Addr}{H:Hp}:∀{ds:List D} {xs:List V} {bs:List Int},DsR K ρ H ds xs->UC ds=some bs->xs=bs.map V.int
 |[],xs,bs,h,e=>by
  cases e
  unfold DsR at h;rw [h];rfl
 |d :: ds,xs,bs,h,e=>by
  unfold DsR at h
  obtain⟨x,r,rfl,h1,h2⟩:=h
  cases d with
  |int b=>
   obtain⟨cs,e1,e2⟩:=We.mp e
   cases e2
   rw [W1,h1.of_int,U0 h2 e1]
  |_=>cases e
theorem QV:∀{ss:List Int} {vs:List Value},Zy (ss.map V.int) vs->∀(i:Nat) v,vs[i]? = some v->∃t,v = .int (ss.getD i default) t
 |[],_,r,i,v,h=>by cases r;cases h
 |s :: ss,_,r,i,v,h=>by
  rw [W1] at r
  cases r with
  |cons r1 r2=>
   cases i with
   |zero=>cases h;exact r1
   |succ i=>exact QV r2 i v h
end
end DL
namespace DL
open PySem L2 PySem.Spec PyProof.Rows
section
variable {X:Cx} {e a b:Expr} {pos:Pos}
def Pz (te:TE):TE:=λσ H Q=>te σ H λx H1=>∃j:Int,x = .int j/\0≤j/\j<2 ^ 20/\j.toNat≤Wc/\∀l,H1 l=none->Q (.ref l) (upd H1 l (.lst ((Wr j.toNat).map λi=>V.int (i:Nat))))
theorem B0 {n:Nat}{acc:Array Value}(h:ItemsOf (λi v=>∃t,v=Value.int (0 + ↑i*1) t) acc n):Zy ((Wr n).map λi=>V.int (i:Nat)) acc.toList:=by
 obtain⟨h1,h2⟩:=h
 have key:∀(k:Nat) (xs:List Value),xs.length=k->(∀(j:Nat) v,xs[j]? = some v->∃t,v=Value.int (0+(j:Int)*1) t)->Zy ((Wr k).map λi=>V.int (i:Nat)) xs:=by
  intro k
  induction k with
  |zero=>
   intro xs hl _
   rw [VW.mp hl]
   exact .nil
  |succ k ih=>
   intro xs hl hx
   rcases List.eq_nil_or_concat xs with z|⟨ys,y,z⟩
   ·rw [z] at hl;cases hl
   ·rw [List.concat_eq_append] at z
    subst z
    rw [Wo,W0A] at hl
    rw [List.range_succ,Va]
    refine (ih ys (by omega) λj v hj=>hx j v ?_).append ?_
    ·rw [WF (Wl.mp hj).1];exact hj
    ·obtain⟨t,rfl⟩:=hx ys.length y (by simp)
     refine .cons ⟨t,?_⟩ .nil
     congr 1
     omega
 exact key n acc.toList (by rw [VF];exact h1) λj v hj=>h2 j v (by rw [←W0B];exact hj)
theorem BT {p p2 pos2:Pos}{te:TE}(hcalm:X.calm=true)(h:PE X e te)(hg:Gl X "list")(hm:X.mg "list" = none)(hv:Wz "list" = some (.type "list"))(hg2:Gl X "range")(hm2:X.mg "range" = none)
  (he:Wn [e] X.env=(false,eval e X.env) :: Wn [] X.env:=by rfl) (he2:Wn [.Call (.Name "range" p2) [e] [] pos2] X.env=(false,eval (.Call (.Name "range" p2) [e] [] pos2) X.env) :: Wn [] X.env:=by rfl) :
  PE X (.Call (.Name "list" p) [.Call (.Name "range" p2) [e] [] pos2] [] pos) (Pz te):=by
 intro pins s σ H Q I hq
 have hh:X.A.handled=none:=I.ok.hd hcalm
 refine VP (Q5 I hg hm hv ?_ (by decide) (by decide))
 refine V0 ?_ he2 rfl
 rw [he2]
 show wpAny _ _ (spliced ((false,eval (.Call (.Name "range" p2) [e] [] pos2) X.env) :: backTo pos (Wn [] X.env))) _ _ s
 refine W0X ?_
 let Q1:List V->Hp->Prop:=λvs H1=>match vs with
  |[x]=>∃j:Int,x = .int j/\0≤j/\j<2 ^ 20/\j.toNat≤Wc/\∀l,H1 l=none->Q (.ref l) (upd H1 l (.lst ((Wr j.toNat).map λi=>V.int (i:Nat))))
  |_=>False
 refine Call_ (Q5 I hg2 hm2 boot_range (V0 (thn ((Zf h ZH he) pos2 pins s σ H Q1 I hq) λus s1 ⟨vs,H1,I1,r1,q1⟩=>?_) he rfl))
 match vs,r1,q1 with
 |[x],r1,q1=>
  obtain⟨u,rfl,ru⟩:=Qb r1
  obtain⟨j,rfl,j0,j1,jz,k⟩:=q1
  obtain⟨t,rfl⟩:=ru
  refine call_range_1 (W16 ?_)
  have I2:=I1.kept (h':=s1.heap.push { cls:=.type "range",data:=.fields #[.int 0 s1.toks,.int j t,.int 1 (s1.toks+1)] }) (t':=s1.toks+1+1) λb u e=>W7 _ e
  refine call_list_range (n:=j.toNat) hh (IsRange.new ..) (small_one (by decide) (by decide) (by omega) (by omega)) (by rw [rangeSize_one];split<;>omega) (by omega) λh' tk acc' c' keep hn hit=>?_
  have I3:=I2.laid (t':=tk) keep (Wp _) (show ZB X.prog X.w _ h' _ (.lst ((Wr j.toNat).map λi=>V.int (i:Nat))) from ⟨by rw [Wg,V3];exact jz,acc'.toList,c',B0 hit,by rw [hn]⟩)
  exact⟨.ref _,_,I3,rfl,k _ (I2.hok.fresh (Wp _))⟩
 |[],_,q1=>exact q1.elim
 |_ :: _ :: _,_,q1=>exact q1.elim
def Qw (ma:M D):M (List D):=λen S=>(ma en S).bind λp=>match p.1 with
 | .int j=>if 0≤j/\j<2 ^ 20/\j.toNat≤Wc then some (YF 0 j.toNat,p.2) else none
 |_=>none
theorem PR {K:W3}{ρ:List Addr}{H:Hp}(n:Nat):DsR K ρ H (YF 0 n) ((Wr n).map λi=>V.int (i:Nat)):=by
 have e:YF 0 n=((Wr n).map λi=>((i:Nat):Int)).map D.int:=by
  unfold YF
  rw [VA]
  refine W0T λi _=>?_
  simp
 have e2:((Wr n).map λi=>V.int (i:Nat))=((Wr n).map λi=>((i:Nat):Int)).map V.int:=by rw [VA];rfl
 rw [e,e2]
 exact DsR.ints _
theorem BA {p p2 pos2:Pos}{ma:M D}(hcalm:X.calm=true)(h:SE X e ma)(hg:Gl X "list")(hm:X.mg "list" = none)(hv:Wz "list" = some (.type "list"))(hg2:Gl X "range")(hm2:X.mg "range" = none)
  (he:Wn [e] X.env=(false,eval e X.env) :: Wn [] X.env:=by rfl) (he2:Wn [.Call (.Name "range" p2) [e] [] pos2] X.env=(false,eval (.Call (.Name "range" p2) [e] [] pos2) X.env) :: Wn [] X.env:=by rfl) :
  SL X (.Call (.Name "list" p) [.Call (.Name "range" p2) [e] [] pos2] [] pos) (Qw ma):=by
 refine Zm (BT hcalm h hg hm hv hg2 hm2 he he2) ?_
 rintro σ H Q ⟨ρ,en,S,ds,S',E,R,e,k⟩
 unfold Qw at e
 obtain⟨⟨d1,S1⟩,e1,e⟩:=W0.mp e
 cases d1 with
 |int j=>
  dsimp only at e
  split at e
  ·rename_i hj
   cases e
   exact⟨ρ,en,S,.int j,_,E,R,e1,λx ρ1 H1 X1 R1 d1=>⟨j,d1.of_int,hj.1,hj.2.1,hj.2.2,λl hl=>k l _ ρ1 H1 X1 R1 hl (PR _)⟩⟩
  ·cases e
 |_=>cases e
theorem DsR.erase {K:W3}{ρ:List Addr}{H:Hp}:∀{ds:List D} {xs:List V} (n:Nat),DsR K ρ H ds xs->DsR K ρ H (ds.eraseIdx n) (xs.eraseIdx n)
 |[],xs,n,h=>by
  have e:xs=[]:=by unfold DsR at h;exact h
  subst e;simpa using h
 |d :: ds,xs,0,h=>by
  unfold DsR at h
  obtain⟨x,r,h1,h2,h3⟩:=h
  subst h1
  exact h3
 |d :: ds,xs,n+1,h=>by
  unfold DsR at h
  obtain⟨x,r,h1,h2,h3⟩:=h
  subst h1
  exact .cons h2 (DsR.erase n h3)
def Uq (a b:M D):M D:=λen S=>(a en S).bind λp=>(b en p.2).bind λq=>match p.1,q.1 with
 | .ref n,.int i=>match p.2[n]?,q.2[n]? with
  |some (.lst _),some (.lst ds)=>if 0≤i/\i<2 ^ 62 then (ds[i.toNat]?).map λd=>(d,q.2.set n (.lst (ds.eraseIdx i.toNat))) else none
  |_,_=>none
 |_,_=>none
theorem MC {p:Pos}{ma mb:M D}(ha:SE X a ma)(hb:SE X b mb)(hs:Wn [b] X.env=(false,eval b X.env) :: Wn [] X.env:=by rfl)
  (hbase:attributeBase a ("pop" : Str) X.env (eval a X.env)=eval a X.env:=by rfl)
  (hfew:((backTo pos (Wn [b] X.env)).all (λx=>!x.1)&&(backToKw pos (keywordEach [] X.env)).all (λx=>x.1.isSome)
   && decide ([b].length+([]:List Keyword).length+(if ([]:List Keyword).isEmpty then 0 else 1)<30))=true:=by rfl)
  (hline:(p.endLine == pos.line)=true:=by rfl) (hplain:(backTo pos (Wn [] X.env)).any (·.1)=false:=by rfl) :
  SE X (.Call (.Attribute a "pop" p) [b] [] pos) (Uq ma mb):=by
 refine Zm (BV W0m PySem.F.slot_list_pop PySem.F.type_list_pop MQ ha (Zf hb ZH hs) hbase hfew hline hs hplain) ?_
 rintro σ H Q ⟨ρ,en,S,v,S',E,R,e,k⟩
 unfold Uq at e
 obtain⟨p,e1,e⟩:=W0.mp e
 obtain⟨q,e2,e⟩:=W0.mp e
 obtain⟨d,S1⟩:=p
 obtain⟨d2,S2⟩:=q
 refine⟨ρ,en,S,d,S1,E,R,e1,λx ρ1 H1 X1 R1 d1=>?_⟩
 cases d with
 |ref n=>
  cases d2 with
  |int i=>
   dsimp only at e
   split at e
   ·rename_i ds0 ds hn0 hn
    split at e
    ·rename_i hi
     obtain⟨w,hw,e3⟩:=We.mp e
     cases e3
     obtain⟨l,a1,rfl⟩:=d1.of_ref
     obtain⟨xs0,hx0,_⟩:=YM R1 a1 hn0
     refine⟨.inl ⟨rfl,xs0,.of hx0⟩,ρ1,en,S1,.int i,S2,E.up X1,R1,e2,λy ρ2 H2 X2 R2 dy=>?_⟩
     have a2:=X2.pre n l a1
     obtain⟨xs,h1,h2⟩:=YM R2 a2 hn
     obtain⟨z,z1,z2⟩:=h2.get hw
     have hlt:i.toNat<xs.length:=(Wl.mp z1).1
     have hk:seqIndex? i xs.length=some i.toNat:=by
      unfold seqIndex?
      dsimp only
      rw [if_neg (show ¬i<0 by omega),decide_eq_true (show 0≤i from hi.1),decide_eq_true (show i<(xs.length:Int) by omega)]
      rfl
     refine⟨l,xs,i,i.toNat,z,rfl,by rw [dy.of_int],h1,by omega,by omega,hk,z1,?_⟩
     have hE:Ext ρ2 H2 ρ2 (upd H2 l (.lst (xs.eraseIdx i.toNat))):=Ext.upd h1 (λ_ z=>nomatch z) λ_ _ z=>nomatch z
     obtain⟨R3,X3⟩:=R2.set (o:=.lst (xs.eraseIdx i.toNat)) (ob:=.lst (ds.eraseIdx i.toNat)) a2 (λ_ z=>by rw [hn] at z;cases z) ⟨xs.eraseIdx i.toNat,Z5,(h2.erase i.toNat).up hE⟩
     exact k _ ρ2 _ ((X1.trans X2).trans X3) R3 (z2.up hE)
    ·cases e
   ·cases e
  |_=>cases e
 |_=>cases e
end
end DL
namespace DL
open PySem L2 PySem.Spec PyProof.Rows
section
variable {X:Cx} {e o value:Expr} {pos pos' tpos:Pos} {cn f:Str} {Ca:Addr}
end
end DL
namespace DL
open PySem L2 PySem.Spec PyProof.Rows
section
variable {X:Cx} {a o:Expr} {es:List Expr} {pos apos:Pos} {cn m:Str} {Ca:Addr}
variable {k n:Nat} {f:Addr} {fd:FuncData} {ps:List Str} {F:List D->Sto->Option (D×Sto)} {mo:M D} {ma:M (List D)}
end
end DL
namespace DL
open PySem L2 PySem.Spec PyProof.Rows
section
variable {X:Cx} {o value:Expr} {pos tpos:Pos} {cn f:Str} {Ca:Addr}
end
end DL
namespace DL
open PySem L2 PySem.Spec PyProof.Rows
section
variable {X:Cx} {a b:Expr} {pos:Pos}
end
end DL
namespace DL
open PySem L2 PySem.Spec PyProof.Rows
section
variable {X:Cx} {e:Expr} {pos:Pos}
theorem J9 (ss:List Int):∀k:Nat,preSum (λi=>ss.getD i default) k=(ss.take k).sum
 |0=>by simp [preSum]
 |k+1=>by
  show preSum _ k+_=_
  rw [J9 ss k]
  by_cases h:k<ss.length
  ·rw [List.take_succ_eq_append_getElem h,List.sum_append,List.sum_singleton]
   congr 1
   simp [V8,h]
  ·rw [Vx (by omega),Vx (by omega)]
   simp [V8,List.getElem?_eq_none (W00 h)]
theorem U3 (hc:X.calm=true):YH X (.builtin "sum") (λxs H Q=>∃(a:Addr) (ss:List Int),xs=[.ref a]/\(SqL X.K H a (ss.map V.int)\/SqT X.K H a (ss.map V.int))/\Q (.int ss.sum) H):=by
 intro pins s σ H xs us Q I r h
 obtain⟨a,ss,rfl,hq,q⟩:=h
 obtain⟨u,rfl,ru⟩:=Qb r
 cases ru
 refine call_sum_walkG ?_
 rcases hq with hq|hq
 ·obtain⟨its,rv,p,hz⟩:=I.list hq
  refine W09 p.isList ?_
  have hlt:a<s.heap.objs.size:=by
   obtain⟨o,e,_⟩:=p.isList
   exact Ws e
  have ne:a≠s.heap.objs.size:=WJ hlt
  refine⟨_,_,_,_,_,_,λi=>ss.getD i default,rfl,Walks.list (A:=X.A.in1) (show X.A.in1.handled=none from I.ok.hd hc) _ a ne its.toArray,⟨⟨_,Wv _ rfl,rfl,rfl⟩,p.isList.extBut (λb o _ e=>W7 _ e) ne⟩,?_,λi v h=>QV rv i v (by simpa using h),λh' tk t' k=>?_⟩
  ·intro b hb
   simp only [WD,WI,or_false] at hb
   rw [Vr]
   rcases hb with rfl|rfl
   ·exact W0d _
   ·exact W08 hlt
  ·have e2:its.toArray.size=ss.length:=by rw [Wf,←rv.length,Wg]
   rw [e2,J9,List.take_length]
   exact⟨.int ss.sum,H,I.kept (h':=h') (t':=tk) (λb o e=>k b o (by simp [WJ (Ws e)]) (W7 _ e)),⟨t',rfl⟩,q⟩
 ·obtain⟨its,rv,p,hz⟩:=I.tuple hq
  refine W02 (show s.heap.IsTuple a its.toArray from p) ?_
  have hlt:a<s.heap.objs.size:=p.lt
  have ne:a≠s.heap.objs.size:=WJ hlt
  refine⟨_,_,_,_,_,_,λi=>ss.getD i default,rfl,Walks.tuple (A:=X.A.in1) (show X.A.in1.handled=none from I.ok.hd hc) _ a ne its.toArray,⟨⟨_,Wv _ rfl,rfl,rfl⟩,W0S (show s.heap.IsTuple a its.toArray from p) (λb o _ e=>W7 _ e) ne⟩,?_,λi v h=>QV rv i v (by simpa using h),λh' tk t' k=>?_⟩
  ·intro b hb
   simp only [WD,WI,or_false] at hb
   rw [Vr]
   rcases hb with rfl|rfl
   ·exact W0d _
   ·exact W08 hlt
  ·have e2:its.toArray.size=ss.length:=by rw [Wf,←rv.length,Wg]
   rw [e2,J9,List.take_length]
   exact⟨.int ss.sum,H,I.kept (h':=h') (t':=tk) (λb o e=>k b o (by simp [WJ (Ws e)]) (W7 _ e)),⟨t',rfl⟩,q⟩
def Al (m:M (List D)):M D:=λen S=>(m en S).bind λp=>(UC p.1).map λss=>(.int ss.sum,p.2)
theorem FB {p:Pos}{m:M (List D)}(hc:X.calm=true)(h:SQ X e m)(hg:Gl X "sum")(hm:X.mg "sum" = none)(hv:Wz "sum" = some (.builtin "sum"))
  (he:Wn [e] X.env=(false,eval e X.env) :: Wn [] X.env:=by rfl):SE X (.Call (.Name "sum" p) [e] [] pos) (Al m):=by
 refine Zm (Yz (U3 hc) hg hm hv (Zf h ZH he) (by decide) (by decide) he (by rfl)) ?_
 rintro σ H Q ⟨ρ,en,S,v,S',E,R,e,k⟩
 unfold Al at e
 obtain⟨r,e1,e⟩:=W0.mp e
 obtain⟨bs,e2,e3⟩:=We.mp e
 cases e3
 refine⟨ρ,en,S,r.1,r.2,E,R,e1,λa xs ρ1 H1 X1 R1 sq d1=>⟨a,bs,rfl,?_,k _ ρ1 H1 X1 R1 .flat_int⟩⟩
 rw [←U0 d1 e2];exact sq
end
end DL
namespace DL
open PySem PySem.Spec PyProof.Rows L2
section
open PySem.SeqAt
open PySem.AutoSeq1 (wpAny_loadPart')
open PySem.MeetsSeq PySem.MeetsSeq2 PySem.MeetsSeq3
inductive LexAt (A:Around) (s:Shared):List (Value×Value)->Bool->Bool->Prop where
 |nil {fin:Bool}:LexAt A s [] fin fin
 |eq {q:Value×Value} {r:List (Value×Value)} {fin b:Bool}:EqAt A s q.1 q.2 true->LexAt A s r fin b->LexAt A s (q :: r) fin b
 |lt {q:Value×Value} {r:List (Value×Value)} {fin b:Bool}:EqAt A s q.1 q.2 false->Mn A s q.1 q.2 b->LexAt A s (q :: r) fin b
theorem T1 (l b:Addr)(items items2:Array Value)(n n2:Nat)(dd dd2:Option Addr)(sl sl2:Array (Option Value))(res:Bool) :
  Meets (Builtin.«tuple.__lt__» ⟨[.ref l,.ref b],[]⟩)
   (λA R s=>s.heap.get? l=some { cls:=.type "tuple",dict:=dd,data:=.seq items n,slots:=sl }/\s.heap.get? b=some { cls:=.type "tuple",dict:=dd2,data:=.seq items2 n2,slots:=sl2 }/\
    LexAt A.in1 s (items.toList.zip items2.toList) (decide (items.size<items2.size)) res/\R (.ok (.ret (.bool res))) s):=
 .of_wp λprog w A R s h=>by
  obtain⟨hp,g,d,tk,os⟩:=s;obtain⟨hl,hb,hps,h⟩:=h
  have f2:=W1a
  wp_walk using W0Q hl,W0Q hb,wpAny_forIn_list _ (λrest b s'=>b.1=none/\s'=⟨hp,g,d,tk,os⟩/\∃(res:Bool),LexAt A.in1 ⟨hp,g,d,tk,os⟩ rest (decide (items.size<items2.size)) res/\
   R (.ok (.ret (.bool res))) ⟨hp,g,d,tk,os⟩) _
  case turn=>
   rintro⟨y,x⟩ rest b s' ⟨hb',rfl,rs,hq,hR⟩
   cases hq with
   |eq he hq'=>
    refine W2 (he prog w _ _ ?_)
    wp_walk
    exact⟨rfl,rfl,rs,hq',hR⟩
   |lt he hlt=>
    refine W2 (he prog w _ _ ?_)
    have hri:∀(E:Value->Shared->Prop) (Q:Value->Shared->Prop),Q (.bool rs) ⟨hp,g,d,tk,os⟩->wpAny (model prog w) A.in1 (richCompare .Lt y x) Q E ⟨hp,g,d,tk,os⟩:=hlt prog w
    wp_walk using hri
    exact⟨_,rfl,by simpa using hR⟩
  case fin=>
   rintro⟨b1,b2⟩ s' ⟨hb',rfl,rs,hq,hR⟩
   simp only at hb'
   subst hb'
   cases hq
   wp_walk
   exact⟨_,rfl,by simpa [W0v] using hR⟩
  case h=>
   exact⟨rfl,rfl,res,hps,h⟩
theorem Mn.lex {A:Around}{s:Shared}{l b:Addr}{items items2:Array Value}{res:Bool}(hl:s.heap.IsTuple l items)(hb:s.heap.IsTuple b items2)(hu:A.units<cLine)(hp:LexAt A.in1 s (items.toList.zip items2.toList) (decide (items.size<items2.size)) res) :
  Mn A s (.ref l) (.ref b) res:=λprog w E Q h=>by
 obtain⟨⟨cls,dd,data,sl⟩,ho,hc,n,hd⟩:=id hl
 obtain⟨⟨cls2,dd2,data2,sl2⟩,ho2,hc2,n2,hd2⟩:=id hb
 simp only at hc hd hc2 hd2
 subst hc hd hc2 hd2
 exact richCompare_meets_room (op:=.Lt) ⟨_,ho,rfl⟩ ⟨_,ho2,rfl⟩ PySem.F.slot_tuple_lt PySem.F.entry_tuple_lt (PySem.F.args_tuple_lt_2 _ _) (T1 l b items items2 n n2 dd dd2 sl sl2 res)
  ⟨ho,ho2,hp,show Value.bool res≠Value.notImplemented/\Q (.bool res) s from ⟨(λx=>nomatch x),h⟩⟩ hu
end
def Yh (f:D->D->Bool):List D->List D->Bool
 |a :: as,b :: bs=>if eqD a b=true then Yh f as bs else f a b
 |_,_=>true
def UL:Nat->D->D->Bool
 |_,.int _,.int _=>true
 |_,.str _,.str _=>true
 |n+1,.tup as,.tup bs=>Yh (UL n) as bs
 |_,_,_=>false
section
variable {X:Cx} {pins:List (Addr×Obj)} {σ:L2.St} {H:Hp} {s:Shared} {ρ:List Addr} (I:Inv X pins σ H s)
include I in
theorem Je {A:Around}{d1 d2:D}{x y:V}{u v:Value}(hc:UL 0 d1 d2=true)(h1:DR X.K ρ H d1 x)(h2:DR X.K ρ H d2 y)(ru:Zz x u)(rv:Zz y v):Mn A s u v (ltD d1 d2):=by
 cases d1 with
 |int a=>
  cases d2 with
  |int c=>
   rw [h1.of_int] at ru;rw [h2.of_int] at rv
   obtain⟨t,rfl⟩:=ru;obtain⟨t',rfl⟩:=rv
   exact λprog w E Q h=>lt_int (by unfold ltD at h;exact h)
  |_=>cases hc
 |str a=>
  cases d2 with
  |str c=>
   rw [h1.of_str] at ru;rw [h2.of_str] at rv
   obtain⟨t,rfl⟩:=ru;obtain⟨t',rfl⟩:=rv
   exact λprog w E Q h=>PySem.P.lt_str (by unfold ltD at h;exact h)
  |_=>cases hc
 |_=>cases hc
include I in
theorem Aq:∀(n:Nat) {A:Around} {d1 d2:D} {x y:V} {u v:Value},A.units+n<cLine->UL n d1 d2=true->pln n d1=true->pln n d2=true->DR X.K ρ H d1 x->DR X.K ρ H d2 y->Zz x u->Zz y v->Mn A s u v (ltD d1 d2):=by
 intro n
 induction n with
 |zero=>
  intro A d1 d2 x y u v hu hc p1 p2 h1 h2 ru rv
  exact Je I hc h1 h2 ru rv
 |succ n ih=>
  intro A d1 d2 x y u v hu hc p1 p2 h1 h2 ru rv
  cases d1 with
  |tup as=>
   cases d2 with
   |tup bs=>
    obtain⟨a,xs,rfl,a1,a2⟩:=h1.of_tup
    obtain⟨b,ys,rfl,b1,b2⟩:=h2.of_tup
    cases ru
    cases rv
    unfold pln at p1 p2
    unfold UL at hc
    obtain⟨its,r1,pl1,_⟩:=I.tuple (.of a1)
    obtain⟨its2,r2,pl2,_⟩:=I.tuple (.of b1)
    have key:∀{as bs:List D} {xs ys:List V} {its its2:List Value} (fin:Bool),as.all (pln n)=true->bs.all (pln n)=true->Yh (UL n) as bs=true->DsR X.K ρ H as xs->DsR X.K ρ H bs ys->Zy xs its->Zy ys its2->
      LexAt A.in1 s (its.zip its2) fin (Tf ((as.zip bs).map λp=>(eqD p.1 p.2,ltD p.1 p.2)) fin):=by
     intro as
     induction as with
     |nil=>
      intro bs xs ys its its2 fin _ _ _ q1 _ q3 _
      unfold DsR at q1
      subst q1
      cases q3
      exact .nil
     |cons d as ih2=>
      intro bs xs ys its its2 fin z1 z2 z3 q1 q2 q3 q4
      unfold DsR at q1
      obtain⟨x,r,rfl,h1,h2⟩:=q1
      cases q3 with
      |cons r1 r2=>
       cases bs with
       |nil=>
        unfold DsR at q2
        subst q2
        cases q4
        exact .nil
       |cons e bs=>
        unfold DsR at q2
        obtain⟨y,r',rfl,h3,h4⟩:=q2
        cases q4 with
        |cons r3 r4=>
         rw [VD,WA] at z1 z2
         unfold Yh at z3
         rw [WY,WY,W1]
         have he:=Jk I n (A:=A.in1) (by rw [ZV];omega) z1.1 z2.1 h1 h3 r1 r3
         unfold Tf
         cases hq:eqD d e with
         |true=>
          rw [hq] at he z3
          rw [if_pos rfl] at z3
          dsimp only
          rw [if_pos rfl]
          exact .eq he (ih2 fin z1.2 z2.2 z3 h2 h4 r2 r4)
         |false=>
          rw [hq] at he z3
          rw [if_neg WC] at z3
          dsimp only
          rw [if_neg WC]
          exact .lt he (ih (by rw [ZV];omega) z3 z1.1 z2.1 h1 h3 r1 r3)
    have hl:=Mn.lex (A:=A) pl1 pl2 (by omega) (key (decide (its.toArray.size<its2.toArray.size)) p1 p2 hc a2 b2 r1 r2)
    rw [Te,JX,a2.length,b2.length,r1.length,r2.length]
    simpa using hl
   |_=>cases hc
  |int a=>
   refine Je I ?_ h1 h2 ru rv
   cases d2<;>first|rfl|cases hc
  |str a=>
   refine Je I ?_ h1 h2 ru rv
   cases d2<;>first|rfl|cases hc
  |_=>cases hc
end
end DL
namespace L2
open PySem PySem.Spec PyProof.Rows
section
variable {prog:Program} {w:World} {A:Around}
def Cv (prog:Program)(w:World)(A:Around)(base:Shared)(P:Nat->Value->Prop)(lt:Nat->Nat->Bool):Prop:=
 ∀i j vi vj h tk (Q:Value->Shared->Prop) (E:Value->Shared->Prop),(∀b o,base.heap.get? b=some o->h.get? b=some o)->P i vi->P j vj->Q (.bool (lt i j)) { base with heap:=h,toks:=tk }->wpAny (model prog w) A (richCompare .Lt vi vj) Q E { base with heap:=h,toks:=tk }
theorem Ll {base:Shared}{R:Result->Shared->Prop}{I S:Addr}{fp wr:List Addr}{n:Nat}{P:Nat->Value->Prop}{St:Nat->Heap->Prop}(W:Walks prog w A.in1 I fp wr n P St)(lt:Nat->Nat->Bool)(hc:Cv prog w A.in1 base P lt)(off:S∉fp)(hw:∀b∈wr,base.heap.get? b=none)(hS0:base.heap.get? S=none)(r:Nat) :
  ∀(i:Nat) (h:Heap) (tk:Nat) (v:Value) (q:Nat),n=i+1+r->(∀b o,base.heap.get? b=some o->h.get? b=some o)->St (i+1) h->P (argBest lt i) v->h.get? S=some { cls:=.type "list",dict:=none,data:=.seq #[v,v] q,slots:=#[] }->
   (∀u g tk,P (argBest lt (n-1)) u->(∀b o,base.heap.get? b=some o->g.get? b=some o)->R (.ok (.ret u)) { base with heap:=g,toks:=tk })->
   codeAny (model prog w) A (.builtin "min.loop" ⟨[.ref I,.none,.ref S],[]⟩) R { base with heap:=h,toks:=tk }:=by
 have offw:S∉wr:=λz=>off (W.sub _ z)
 have nm:(toString "min" ++ toString ".loop" : String) = "min.loop":=by decide
 have nw:∀b o,base.heap.get? b=some o->b∉wr:=λb o e z=>by rw [hw b z] at e;cases e
 have ns:∀b o,base.heap.get? b=some o->b≠S:=λb o e z=>by rw [z,hS0] at e;cases e
 induction r with
 |zero=>
  intro i h tk v q hn kp st hv hS out
  refine W0k W0r ?_
  rw [VT Vl _]
  refine W2 (m:=seqItems? (.ref S)) (Vs hS rfl ?_)
  refine W2 (m:=tryCatch (pyNext (.ref I)) _) (W11 (W.done { base with heap:=h,toks:=tk } _ _ ((show i+1=n by omega) ▸ st) λg tk keep=>?_))
  refine W2 (m:=updateSeq S (λ_=>#[])) (wpAny_updateSeq (keep S _ offw hS) rfl (W2 (W0e (Wk ?_))))
  exact out v _ tk (by rw [show n-1=i by omega];exact hv) λb o e=>(Vk _ _ (Ne.symm (ns b o e))).trans (keep b o (nw b o e) (kp b o e))
 |succ r ih=>
  intro i h tk v q hn kp st hv hS out
  refine W0k W0r ?_
  rw [VT Vl _]
  refine W2 (m:=seqItems? (.ref S)) (Vs hS rfl ?_)
  refine W2 (m:=tryCatch (pyNext (.ref I)) _) (W11 (W.item (i+1) { base with heap:=h,toks:=tk } _ _ (by omega) st λu g tk hu st' keep=>?_))
  have hS':=keep S _ offw hS
  have kp':∀b o,base.heap.get? b=some o->g.get? b=some o:=λb o e=>keep b o (nw b o e) (kp b o e)
  refine W2 (m:=tryCatch (holding [u,u] (richCompare .Lt u v >>= _)) _) (W11 (VO (W2 (hc (i+1) (argBest lt i) u v g tk _ _ kp' hu hv ?_))))
  refine W2 (VO (W0s (W2 (W0e (Wk ?_)))))
  by_cases hb:lt (i+1) (argBest lt i)=true
  ·rw [hb,if_pos rfl]
   refine W2 (wpAny_updateSeq hS' rfl (W2 (W0e ?_)))
   rw [nm]
   have key:=ih (i+1) (g.update S (W0I λ_=>#[u,u])) tk u _ (by omega) (λb o e=>(Vk _ _ (Ne.symm (ns b o e))).trans (kp' b o e)) (W.frame _ _ _ st' λb hbf o e=>(Vk _ _ (λz:S=b=>off (z ▸ hbf))).trans e)
    (by rw [show argBest lt (i+1)=i+1 from if_pos hb];exact hu) (W04 _ hS' rfl) out
   exact Wk ⟨W0H Vl _,key⟩
  ·rw [Bool.not_eq_true] at hb
   rw [hb,if_neg WC]
   refine W2 (W0e ?_)
   rw [nm]
   have key:=ih (i+1) g tk v q (by omega) kp' st' (by rw [show argBest lt (i+1)=argBest lt i from if_neg (by rw [hb];exact WC)];exact hv) hS' out
   exact Wk ⟨W0H Vl _,key⟩
theorem GU {base:Shared}{R:Result->Shared->Prop}{I S:Addr}{fp wr:List Addr}{n:Nat}{P:Nat->Value->Prop}{St:Nat->Heap->Prop}{h:Heap}{tk q:Nat}(W:Walks prog w A.in1 I fp wr n P St)(lt:Nat->Nat->Bool)(hc:Cv prog w A.in1 base P lt)(off:S∉fp)(hw:∀b∈wr,base.heap.get? b=none)(hS0:base.heap.get? S=none)
  (hn:0<n) (kp:∀b o,base.heap.get? b=some o->h.get? b=some o) (st:St 0 h) (hS:h.get? S=some { cls:=.type "list",dict:=none,data:=.seq #[] q,slots:=#[] })
  (out:∀u g tk,P (argBest lt (n-1)) u->(∀b o,base.heap.get? b=some o->g.get? b=some o)->R (.ok (.ret u)) { base with heap:=g,toks:=tk }) :
  codeAny (model prog w) A (.builtin "min.loop" ⟨[.ref I,.none,.ref S],[]⟩) R { base with heap:=h,toks:=tk }:=by
 have offw:S∉wr:=λz=>off (W.sub _ z)
 have nm:(toString "min" ++ toString ".loop" : String) = "min.loop":=by decide
 have nw:∀b o,base.heap.get? b=some o->b∉wr:=λb o e z=>by rw [hw b z] at e;cases e
 have ns:∀b o,base.heap.get? b=some o->b≠S:=λb o e z=>by rw [z,hS0] at e;cases e
 refine W0k W0r ?_
 rw [VT Vl _]
 refine W2 (m:=seqItems? (.ref S)) (Vs hS rfl ?_)
 refine W2 (m:=tryCatch (pyNext (.ref I)) _) (W11 (W.item 0 { base with heap:=h,toks:=tk } _ _ hn st λu g tk hu st' keep=>?_))
 have hS':=keep S _ offw hS
 refine W2 (m:=updateSeq S (λ_=>#[u,u])) (wpAny_updateSeq hS' rfl ?_)
 rw [nm]
 have key:=Ll (base:=base) W lt hc off hw hS0 (n-1) 0 (g.update S (W0I λ_=>#[u,u])) tk u _ (by omega) (λb o e=>(Vk _ _ (Ne.symm (ns b o e))).trans (keep b o (nw b o e) (kp b o e)))
  (W.frame _ _ _ st' λb hbf o e=>(Vk _ _ (λz:S=b=>off (z ▸ hbf))).trans e) hu (W04 _ hS' rfl) out
 exact Wk ⟨W0H Vl _,key⟩
theorem UM {base:Shared}{E:Value->Shared->Prop}{x:Value}{Q:Value->Shared->Prop}
  (h:wpAny (model prog w) A.in1 (pyIter x) (λit s2=>∃I fp wr n P St lt h2 tk2,it = .ref I/\s2={ base with heap:=h2,toks:=tk2 }/\(∀b o,base.heap.get? b=some o->h2.get? b=some o)/\Walks prog w A.in1 I fp wr n P St/\St 0 h2/\(∀b∈fp,b<h2.objs.size)/\0<n/\Cv prog w A.in1 base P lt/\(∀b∈wr,base.heap.get? b=none)/\
   (∀u g tk,P (argBest lt (n-1)) u->(∀b o,base.heap.get? b=some o->g.get? b=some o)->Q u { base with heap:=g,toks:=tk })) E base) :
  wpAny (model prog w) A (call (.builtin "min") [x]) Q E base:=by
 have nm:(toString "min" ++ toString ".loop" : String) = "min.loop":=by decide
 refine call_function_tree PySem.F.kind_min PySem.F.plain_min PySem.F.entry_min (PySem.F.args_min1 _) ?_
 refine W2 (m:=W0U "min" ["key", "default"] 0 ⟨[],[]⟩) (W0u (show W0U "min" ["key", "default"] 0 ⟨[],[]⟩=pure [none,none] from rfl) (W2 (Wk ?_)))
 refine W2 (SU h λit s2 h2=>?_)
 obtain⟨I,fp,wr,n,P,St,lt,h2,tk2,rfl,rfl,kp,W,st,hf,hn,hc,hw,out⟩:=h2
 refine W2 (V7 ?_)
 rw [nm]
 have hS0:base.heap.get? h2.objs.size=none:=by
  cases q:base.heap.get? h2.objs.size with
  |none=>rfl
  |some o=>exact absurd (Ws (kp _ _ q)) (Vg _)
 exact Wk ⟨W0H Vl _,GU (base:=base) W lt hc (S:=h2.objs.size) (λz=>Vg _ (hf _ z)) hw hS0 hn (λb o e=>W7 _ (kp b o e)) (W.frame _ _ _ st λb _ o e=>W7 _ e) (Wv _ rfl) λu g tk hu keep=>out u g tk hu keep⟩
end
def Itc (lo c:Int)(n:Nat):It:=⟨λi _=>i<n,λi H x H'=>H'=H/\x = .int (lo+i*c),λi _=>n≤i⟩
theorem T0 {P:Program}{w:World}{K:W3}{tg:Expr}(it:Addr)(lo c:Int)(n:Nat):Turn P w K tg (Itc lo c n) [it] it (λi h=>IsRangeIter h it (lo+(i:Nat)*c) ((n:Int)-(i:Nat)) c) where
 mem:=by simp
 obj:=λi h st b hb=>by
  have e:b=it:=by simpa using hb
  subst e
  exact⟨_,st,λv z=>by
   have z':Data.fields _=Data.cell v:=z
   cases z'⟩
 keep:=λi h h' st k=>k it (by simp) _ st
 item:=by
  intro X hP hw hK hc i pins s σ H E I hf st hg
  subst hP hw hK
  obtain⟨f0,f1,f2,f3,f4,f5⟩:=hf it (by simp)
  have W:=Walks.range (prog:=X.prog) (w:=X.w) (I.ok.hd hc) it lo c n
  refine W.item i s _ _ hg st λv h' tk hv st' kk=>?_
  obtain⟨t,rfl⟩:=hv
  have I1:Inv X pins σ H { s with heap:=h',toks:=tk }:=I.turned (λb o hb e=>kk b o (by simpa using hb) e) f0 f1 f3 f4 f5
  exact⟨_,rfl,NS (s:={ s with heap:=h',toks:=tk }) (n:="range_iterator") st' rfl rfl (by decide) ⟨.int (lo+i*c),H,I1,⟨t,rfl⟩,⟨rfl,rfl⟩,st',λb hb=>(hf b hb).1⟩⟩
 done:=by
  intro X hP hw hK hc i pins s σ H E I hf st hg
  subst hP hw hK
  obtain⟨f0,f1,f2,f3,f4,f5⟩:=hf it (by simp)
  exact wpAny_pyNext_range_end (I.ok.hd hc) st (by have:n≤i:=hg;omega) λh' eb=>⟨rfl,I.turned (t':=s.toks) (λb o hb e=>eb b o hb e) f0 f1 f3 f4 f5⟩
 self:=λ_ _ _ _ _ st h=>W0p st h
section
variable {prog:Program} {w:World} {A:Around} {E:Value->Shared->Prop} {s:Shared}
theorem Jd (r:Addr)(a b c:Int)(t u v:Tok)(hc0:¬(!(Wq a&&Wq b&&Wq c&&Wq (-c)&&Wq (a-c)&&Wq (Vh a b c)))=true) :
  Meets (Builtin.«range.__reversed__» ⟨[.ref r],[]⟩) (λ_ R s=>s.heap.get? r=some { cls:=.type "range",dict:=none,data:=.fields #[.int a t,.int b u,.int c v],slots:=#[] }/\R (.ok (.ret (Value.ref s.heap.objs.size))) { s with heap:=s.heap.push { cls:=Value.type (if (Wq a&&Wq b&&Wq c&&Wq (-c)&&Wq (a-c)&&Wq (Vh a b c))=true then "range_iterator" else "longrange_iterator"),data:=Data.fields #[rawInt (a+(Vh a b c-1)*c),rawInt (Vh a b c),rawInt (-c)] },toks:=s.toks }):=
 .of_wp λprog w A R s h=>by obtain⟨hp,g,d,tk,os⟩:=s;obtain⟨hl,h⟩:=h;wp_walk;exact⟨_,rfl,h⟩
theorem Jz {r:Addr}{n:Int}{t u v:Tok}{Q:Value->Shared->Prop}(hr:IsRange s.heap r 0 n 1 t u v)(h1 : -(2 ^ 62)≤n)(h2:n<2 ^ 62)
  (h:Q (.ref s.heap.objs.size) { s with heap:=s.heap.push { cls:=.type "range_iterator",data:=.fields #[rawInt (((n.toNat:Nat):Int)-1),rawInt ((n.toNat:Nat):Int),rawInt (-1)] } }) :
  wpAny (model prog w) A (call (.builtin "range.__reversed__") [.ref r]) Q E s:=by
 have e1:Vh 0 n 1=((n.toNat:Nat):Int):=by rw [rangeSize_one];split<;>omega
 have hs:(Wq 0&&Wq n&&Wq 1&&Wq (-1)&&Wq (0-1)&&Wq (Vh 0 n 1))=true:=by
  rw [e1]
  simp only [Wq,WA,decide_eq_true_eq]
  omega
 refine call_meets W05 ⟨_,hr,rfl⟩ PySem.F.entry_range_reversed (PySem.F.args_range_reversed_1 _) (Jd r 0 n 1 t u v (by rw [hs];decide)) ⟨hr,?_⟩
 rw [if_pos hs,e1,show (0:Int)+(((n.toNat:Nat):Int)-1)*1=((n.toNat:Nat):Int)-1 by omega]
 exact h
theorem J1:isSubtype (.type "range_iterator") (.type "reversed")=pure false:=by rw [isSubtype_type];kernel_rfl
theorem Jx {r:Addr}{n:Int}{t u v:Tok}{Q₁:Value->Shared->Prop}(hr:IsRange s.heap r 0 n 1 t u v)(h1 : -(2 ^ 62)≤n)(h2:n<2 ^ 62)
  (h:Q₁ (.ref s.heap.objs.size) { s with heap:=s.heap.push { cls:=.type "range_iterator",data:=.fields #[rawInt (((n.toNat:Nat):Int)-1),rawInt ((n.toNat:Nat):Int),rawInt (-1)] } }) :
  codeAny (model prog w) A (.call (.builtin "reversed.__new__") ⟨[.type "reversed",.ref r],[]⟩) (wants Q₁ E) s:=by
 refine codeAny_of_tree ?_
 show wpAny _ A.in1 (do checkBuiltinCall "reversed.__new__" ⟨[.type "reversed",.ref r],[]⟩;again (.builtin "reversed.__new__" ⟨[.type "reversed",.ref r],[]⟩)) _ _ s
 refine W2 (W0u (PySem.F.newCall_reversed_1 _) (Wk ⟨W0H W0W _,W0k PySem.F.entry_reversed_new ?_⟩))
 rw [VT W0W _]
 unfold Builtin.«reversed.__new__»
 refine W2 (W0u (newClass_reversed _) ?_)
 try dsimp only
 refine W2 (W0u (a:=()) (by first|rfl|kernel_rfl) ?_)
 refine W2 (W0u (a:=()) (by first|rfl|kernel_rfl) ?_)
 try dsimp only
 refine W2 (W0M (T:="range") ⟨_,hr,rfl⟩ W05.lookup ?_)
 try dsimp only
 refine W2 (W0u (W05.bind _) ?_)
 try dsimp only
 first
 |rw [if_neg (show ¬((Value.builtin "range.__reversed__" == Value.none)=true) from WC)]
 | (show wpAny _ _ (if (Value.builtin "range.__reversed__" == Value.none)=true then _ else _) _ _ _;rw [if_neg (show ¬((Value.builtin "range.__reversed__" == Value.none)=true) from WC)])
 refine W2 (W19 ?_)
 refine W2 (m:=runValue (.call (.builtin "range.__reversed__") ⟨[.ref r],[]⟩)) (show wpAny _ _ (call (.builtin "range.__reversed__") [.ref r]) _ _ _ from Jz hr h1 h2 ?_)
 first
 |exact Wk h
 |exact W2 (Wk (Wk h))
theorem Jy {r:Addr}{n:Int}{t u v:Tok}{Q:Value->Shared->Prop}(hr:IsRange s.heap r 0 n 1 t u v)(h1 : -(2 ^ 62)≤n)(h2:n<2 ^ 62)
  (h:Q (.ref s.heap.objs.size) { s with heap:=s.heap.push { cls:=.type "range_iterator",data:=.fields #[rawInt (((n.toNat:Nat):Int)-1),rawInt ((n.toNat:Nat):Int),rawInt (-1)] } }) :
  wpAny (model prog w) A (call (.type "reversed") [.ref r]) Q E s:=by
 refine callType_other (U:="range_iterator") (Q₁:=λobj s₁=>obj = .ref s.heap.objs.size/\s₁={ s with heap:=s.heap.push { cls:=.type "range_iterator",data:=.fields #[rawInt (((n.toNat:Nat):Int)-1),rawInt ((n.toNat:Nat):Int),rawInt (-1)] } }) (by decide +kernel) PySem.F.create_reversed ⟨_,_,PySem.F.mro_reversed⟩ PySem.F.made_reversed J1 (PySem.F.typeCall_reversed_1 _) (Jx hr h1 h2 ⟨rfl,rfl⟩) ?_
 rintro obj s₁ ⟨rfl,rfl⟩
 exact⟨⟨_,Wv _ rfl,rfl⟩,h⟩
end
end L2
namespace DL
open PySem L2 PySem.Spec PyProof.Rows
section
variable {X:Cx} {e a b:Expr} {es:List Expr} {pos:Pos}
def Tb (ma mb:M D):M ItD:=λen S=>(ma en S).bind λp=>(mb en p.2).bind λq=>match p.1,q.1 with
 | .int i,.int j=>if -(2 ^ 62)≤i/\i<2 ^ 62/\-(2 ^ 62)≤j/\j<2 ^ 62 then some ((YF i (j-i).toNat,.no),q.2) else none
 |_,_=>none
theorem T3 {tg:Expr}{p:Pos}{ma mb:M D}(ha:SE X a ma)(hb:SE X b mb)(hg:Gl X "range")(hm:X.mg "range" = none)(hs:Wn [a,b] X.env=[(false,eval a X.env),(false,eval b X.env)]:=by rfl)(hs2:Wn [b] X.env=[(false,eval b X.env)]:=by rfl) :
  SI X tg (.Call (.Name "range" p) [a,b] [] pos) (Tb ma mb):=by
 refine Um (BQ hg hm (Zf ha (Zf hb ZH (by rw [hs2];rfl)) (by rw [hs,hs2])) hs hs2) ?_
 rintro σ H Q ⟨ρ,en,S,r,S',E,R,e,k⟩
 unfold Tb at e
 obtain⟨⟨d1,S1⟩,e1,e⟩:=W0.mp e
 obtain⟨⟨d2,S2⟩,e2,e⟩:=W0.mp e
 cases d1 with
 |int i=>
  cases d2 with
  |int j=>
   dsimp only at e
   split at e
   ·rename_i hj
    cases e
    exact⟨ρ,en,S,.int i,S1,E,R,e1,λx ρ1 H1 X1 R1 d1=>⟨ρ1,en,S1,.int j,_,E.up X1,R1,e2,λy ρ2 H2 X2 R2 d2=>⟨i,j,by rw [d1.of_int,d2.of_int],hj,k _ ρ2 H2 (X1.trans X2) R2 NL trivial⟩⟩⟩
   ·cases e
  |_=>cases e
 |_=>cases e
def Kw (n:Nat):List D:=(Wr n).map λi=>D.int ((n:Int)-1+(i:Nat)*(-1))
def An (m:M D):M ItD:=λen S=>(m en S).bind λp=>match p.1 with | .int j=>if -(2 ^ 62)≤j/\j<2 ^ 62 then some ((Kw j.toNat,.no),p.2) else none|_=>none
theorem LI {K:W3}{ρ0:List Addr}{H0:Hp}{n:Nat}:ItR K ρ0 H0 (Itc ((n:Int)-1) (-1) n) (Kw n) .no:=by
 intro ρ H S X R g
 refine⟨λi d hd=>?_,by show n≤_;simp [Kw]⟩
 unfold Kw at hd
 rw [WU] at hd
 cases q:(Wr n)[i]? with
 |none=>rw [q] at hd;cases hd
 |some c=>
  rw [q] at hd
  cases hd
  obtain⟨h1,h2⟩:=Wl.mp q
  simp at h1 h2
  subst h2
  refine⟨h1,λy H' hy=>?_⟩
  obtain⟨rfl,rfl⟩:=hy
  exact⟨Ext.refl,R,.flat_int⟩
def D7 (te:TE):TI:=λσ H R=>te σ H λx H1=>∃j:Int,x = .int j/\-(2 ^ 62)≤j/\j<2 ^ 62/\R (Itc ((j.toNat:Int)-1) (-1) j.toNat) H1
theorem FV {tg:Expr}{p p2 pos2:Pos}{te:TE}(h:PE X a te)(hg:Gl X "reversed")(hm:X.mg "reversed" = none)(hv:Wz "reversed" = some (.type "reversed"))(hg2:Gl X "range")(hm2:X.mg "range" = none)
  (he:Wn [a] X.env=(false,eval a X.env) :: Wn [] X.env:=by rfl) (he2:Wn [.Call (.Name "range" p2) [a] [] pos2] X.env=(false,eval (.Call (.Name "range" p2) [a] [] pos2) X.env) :: Wn [] X.env:=by rfl) :
  PI X tg (.Call (.Name "reversed" p) [.Call (.Name "range" p2) [a] [] pos2] [] pos) (D7 te):=by
 intro pins s σ H R I hq
 refine VP (Q5 I hg hm hv ?_ (by decide) (by decide))
 refine V0 ?_ he2 rfl
 rw [he2]
 show wpAny _ _ (spliced ((false,eval (.Call (.Name "range" p2) [a] [] pos2) X.env) :: backTo pos (Wn [] X.env))) _ _ s
 refine W0X ?_
 let Q1:List V->Hp->Prop:=λvs H1=>match vs with
  |[x]=>∃j:Int,x = .int j/\-(2 ^ 62)≤j/\j<2 ^ 62/\R (Itc ((j.toNat:Int)-1) (-1) j.toNat) H1
  |_=>False
 refine Call_ (Q5 I hg2 hm2 boot_range (V0 (thn ((Zf h ZH he) pos2 pins s σ H Q1 I hq) λus s1 ⟨vs,H1,I1,r1,q1⟩=>?_) he rfl))
 match vs,r1,q1 with
 |[x],r1,q1=>
  obtain⟨u,rfl,ru⟩:=Qb r1
  obtain⟨j,rfl,j0,j1,k⟩:=q1
  obtain⟨t,rfl⟩:=ru
  refine call_range_1 (W16 ?_)
  have I2:=I1.kept (h':=s1.heap.push { cls:=.type "range",data:=.fields #[.int 0 s1.toks,.int j t,.int 1 (s1.toks+1)] }) (t':=s1.toks+1+1) λb u e=>W7 _ e
  refine Jy (IsRange.new ..) j0 j1 ?_
  generalize hgp:s1.heap.push { cls:=.type "range",data:=.fields #[.int 0 s1.toks,.int j t,.int 1 (s1.toks+1)] }=g at I2 ⊢
  have hit:IsRangeIter (g.push { cls:=.type "range_iterator",data:=.fields #[rawInt (((j.toNat:Nat):Int)-1),rawInt ((j.toNat:Nat):Int),rawInt (-1)] }) g.objs.size (((j.toNat:Nat):Int)-1) ((j.toNat:Nat):Int) (-1):=Wv _ rfl
  refine W0p hit ?_
  refine⟨g.objs.size,[g.objs.size],_,_,H1,rfl,I2.kept (t':=s1.toks+1+1) λb o e=>W7 _ e,T0 _ (((j.toNat:Nat):Int)-1) (-1) j.toNat,?_,λb hb=>?_,k⟩
  ·have e1:(((j.toNat:Nat):Int)-1)+((0:Nat):Int)*(-1)=((j.toNat:Nat):Int)-1:=by omega
   have e2:((j.toNat:Nat):Int)-((0:Nat):Int)=((j.toNat:Nat):Int):=by omega
   show IsRangeIter _ _ ((((j.toNat:Nat):Int)-1)+((0:Nat):Int)*(-1)) (((j.toNat:Nat):Int)-((0:Nat):Int)) (-1)
   rw [e1,e2]
   exact hit
  ·have e:b=g.objs.size:=by simpa using hb
   subst e
   exact I2.fpOk (Wp _) (I2.hok.fresh (Wp _))
 |[],_,q1=>exact q1.elim
 |_ :: _ :: _,_,q1=>exact q1.elim
theorem Fx {tg:Expr}{p p2 pos2:Pos}{m:M D}(h:SE X a m)(hg:Gl X "reversed")(hm:X.mg "reversed" = none)(hv:Wz "reversed" = some (.type "reversed"))(hg2:Gl X "range")(hm2:X.mg "range" = none)
  (he:Wn [a] X.env=(false,eval a X.env) :: Wn [] X.env:=by rfl) (he2:Wn [.Call (.Name "range" p2) [a] [] pos2] X.env=(false,eval (.Call (.Name "range" p2) [a] [] pos2) X.env) :: Wn [] X.env:=by rfl) :
  SI X tg (.Call (.Name "reversed" p) [.Call (.Name "range" p2) [a] [] pos2] [] pos) (An m):=by
 refine Um (FV h hg hm hv hg2 hm2 he he2) ?_
 rintro σ H Q ⟨ρ,en,S,r,S',E,R,e,k⟩
 unfold An at e
 obtain⟨⟨d,S1⟩,e1,e⟩:=W0.mp e
 cases d with
 |int j=>
  dsimp only at e
  split at e
  ·rename_i hj
   cases e
   exact⟨ρ,en,S,.int j,_,E,R,e1,λx ρ1 H1 X1 R1 d1=>⟨j,by rw [d1.of_int],hj.1,hj.2,k _ ρ1 H1 X1 R1 LI trivial⟩⟩
  ·cases e
 |_=>cases e
theorem Lk:MtR X "str.find" (λx xs H Q=>∃(y z:Str),x = .str y/\xs=[.str z]/\Q (.int (Txt.find y z)) H):=by
 intro pins s σ H x xs v us Q I rx rs h
 obtain⟨y,z,rfl,rfl,q⟩:=h
 obtain⟨t,rfl⟩:=rx
 obtain⟨u,rfl,ru⟩:=Qb rs
 obtain⟨t2,rfl⟩:=ru
 exact SC.find ⟨.int _,H,I.tok _,⟨_,rfl⟩,q⟩
def N9 (ma mb:M D):M D:=λen S=>(ma en S).bind λp=>match p.1 with
 | .str y=>(mb en p.2).bind λq=>match q.1 with
  | .str z=>some (.int (Txt.find y z),q.2)
  |_=>none
 |_=>none
theorem PQ {p:Pos}{ma mb:M D}(hs:SE X a ma)(h:SE X e mb)(he:Wn [e] X.env=(false,eval e X.env) :: Wn [] X.env:=by rfl)
  (hbase:attributeBase a ("find" : Str) X.env (eval a X.env)=eval a X.env:=by rfl)
  (hfew:((backTo pos (Wn [e] X.env)).all (λx=>!x.1)&&(backToKw pos (keywordEach [] X.env)).all (λx=>x.1.isSome)
   && decide ([e].length+([]:List Keyword).length+(if ([]:List Keyword).isEmpty then 0 else 1)<30))=true:=by rfl)
  (hline:(p.endLine == pos.line)=true:=by rfl) (hplain:(backTo pos (Wn [] X.env)).any (·.1)=false:=by rfl) :
  SE X (.Call (.Attribute a "find" p) [e] [] pos) (N9 ma mb):=by
 refine Zm (BV PySem.F.plainAttrs_str PySem.F.slot_str_find PySem.F.type_str_find Lk hs (Zf h ZH he) hbase hfew hline he hplain) ?_
 rintro σ H Q ⟨ρ,en,S,v,S',E,R,e,k⟩
 unfold N9 at e
 obtain⟨⟨d,S0⟩,e0,e⟩:=W0.mp e
 cases d with
 |str x=>
  dsimp only at e
  obtain⟨⟨d2,S1⟩,e1,e⟩:=W0.mp e
  cases d2 with
  |str y=>
   cases e
   refine⟨ρ,en,S,.str x,S0,E,R,e0,λz ρ0 H0 X0 R0 d0=>?_⟩
   rw [d0.of_str]
   exact⟨rfl,ρ0,en,S0,.str y,_,E.up X0,R0,e1,λz ρ1 H1 X1 R1 d1=>⟨x,y,rfl,by rw [d1.of_str],k _ ρ1 H1 (X0.trans X1) R1 .flat_int⟩⟩
  |_=>cases e
 |_=>cases e
theorem JK {h:Heap}:h.get? h.objs.size=none:=by
 cases q:h.get? h.objs.size with
 |none=>rfl
 |some o=>exact absurd (Ws q) (Vg _)
def ltG (ds:List D)(i j:Nat):Bool:=ltD (ds.getD i .non) (ds.getD j .non)
def JW (ds:List D):D:=ds.getD (argBest (ltG ds) (ds.length-1)) .non
def JV (ds:List D):Bool:=decide (0<ds.length)&&((ds.all λd=>pln 30 d)&&ds.all λd=>ds.all λd'=>UL 30 d d')
theorem B6 (hcalm:X.calm=true)(hu:X.A.units+64<cLine):YH X (.builtin "min") (λws H Q=>∃l xs ρ ds,ws=[.ref l]/\(SqL X.K H l xs\/SqT X.K H l xs)/\DsR X.K ρ H ds xs/\JV ds=true/\∀x,DR X.K ρ H (JW ds) x->Q x H):=by
 intro pins s σ H ws us Q I r h
 obtain⟨l,xs,ρ,ds,rfl,hq,hd,ok,q⟩:=h
 obtain⟨u,rfl,ru⟩:=Qb r
 cases ru
 have hh:X.A.in1.handled=none:=I.ok.hd hcalm
 unfold JV at ok
 rw [WA,WA,decide_eq_true_eq,WM,WM] at ok
 obtain⟨ok0,ok1,ok2⟩:=ok
 have at_:∀{vs:List Value},Zy xs vs->∀(i:Nat) v,vs.toArray[i]? = some v->∃x,Zz x v/\DR X.K ρ H (ds.getD i .non) x/\ds.getD i .non∈ds:=by
  intro vs rv i v hv
  have hv':vs[i]? = some v:=by simpa using hv
  have hi:i<ds.length:=by
   have h1:=(Wl.mp hv').1
   have h2:=hd.length
   have h3:=rv.length
   omega
  obtain⟨x,x1,x2⟩:=hd.get (Wu hi)
  have e:ds.getD i .non=ds[i]:=by simp [V8,hi]
  obtain⟨v',w1,w2⟩:=rv.get x1
  rw [hv'] at w1
  cases w1
  refine⟨x,w2,by rw [e];exact x2,by rw [e];exact W01 hi⟩
 have cmp:∀{vs:List Value},Zy xs vs->Cv X.prog X.w X.A.in1 s (λi v=>vs.toArray[i]? = some v) (ltG ds):=by
  intro vs rv i j vi vj h tk Q' E' kp hi hj hQ
  obtain⟨x,x1,x2,x3⟩:=at_ rv i vi hi
  obtain⟨y,y1,y2,y3⟩:=at_ rv j vj hj
  have I':Inv X pins σ H { s with heap:=h,toks:=tk }:=I.kept kp
  exact Aq I' 30 (by show X.A.units+1+30<cLine;omega) (WM.mp (ok2 _ x3) _ y3) (ok1 _ x3) (ok1 _ y3) x2 y2 x1 y1 _ _ _ _ hQ
 rcases hq with hq|hq
 ·obtain⟨its,rv,p,hz⟩:=I.list hq
  have hL:=p.isList
  have hlt:l<s.heap.objs.size:=by obtain⟨o,ho,_⟩:=id hL;exact Ws ho
  have hsz:its.toArray.size=ds.length:=by rw [Wf,←rv.length,←hd.length]
  refine UM (W09 hL ?_)
  refine⟨s.heap.objs.size,_,_,its.toArray.size,_,_,ltG ds,_,s.toks,rfl,rfl,λb o e=>W7 _ e,Walks.list hh s.heap.objs.size l (WJ hlt) its.toArray,⟨⟨_,Wv _ rfl,rfl,rfl⟩,hL.push _⟩,?_,by rw [hsz];exact ok0,cmp rv,?_,λv g tk hv kp=>?_⟩
  ·intro b hb
   simp only [WD,WI,or_false] at hb
   rw [Vr]
   rcases hb with rfl|rfl
   ·exact W0d _
   ·exact W08 hlt
  ·intro b hb
   simp only [WD,WI,or_false] at hb
   subst hb
   exact JK
  ·rw [hsz] at hv
   obtain⟨x,x1,x2,_⟩:=at_ rv _ v hv
   exact⟨x,H,I.kept kp,x1,q x x2⟩
 ·obtain⟨its,rv,p,hz⟩:=I.tuple hq
  have hlt:l<s.heap.objs.size:=p.lt
  have hsz:its.toArray.size=ds.length:=by rw [Wf,←rv.length,←hd.length]
  refine UM (W02 (show s.heap.IsTuple l its.toArray from p) ?_)
  refine⟨s.heap.objs.size,_,_,its.toArray.size,_,_,ltG ds,_,s.toks,rfl,rfl,λb o e=>W7 _ e,Walks.tuple hh s.heap.objs.size l (WJ hlt) its.toArray,⟨⟨_,Wv _ rfl,rfl,rfl⟩,W0S (show s.heap.IsTuple l its.toArray from p) (λb o _ e=>W7 _ e) (WJ hlt)⟩,?_,by rw [hsz];exact ok0,cmp rv,?_,λv g tk hv kp=>?_⟩
  ·intro b hb
   simp only [WD,WI,or_false] at hb
   rw [Vr]
   rcases hb with rfl|rfl
   ·exact W0d _
   ·exact W08 hlt
  ·intro b hb
   simp only [WD,WI,or_false] at hb
   subst hb
   exact JK
  ·rw [hsz] at hv
   obtain⟨x,x1,x2,_⟩:=at_ rv _ v hv
   exact⟨x,H,I.kept kp,x1,q x x2⟩
def Qv (m:M (List D)):M D:=λen S=>(m en S).bind λp=>if JV p.1=true then some (JW p.1,p.2) else none
theorem Qu {p:Pos}{m:M (List D)}(hc:X.calm=true)(hu:X.A.units+64<cLine)(h:SQ X e m)(hg:Gl X "min")(hm:X.mg "min" = none)(hv:Wz "min" = some (.builtin "min"))
  (he:Wn [e] X.env=(false,eval e X.env) :: Wn [] X.env:=by rfl):SE X (.Call (.Name "min" p) [e] [] pos) (Qv m):=by
 refine Zm (Yz (B6 hc hu) hg hm hv (Zf h ZH he) (by decide) (by decide) he (by rfl)) ?_
 rintro σ H Q ⟨ρ,en,S,v,S',E,R,e,k⟩
 unfold Qv at e
 obtain⟨r,e1,e⟩:=W0.mp e
 split at e
 ·rename_i ok
  cases e
  exact⟨ρ,en,S,r.1,r.2,E,R,e1,λa xs ρ1 H1 X1 R1 sq d1=>⟨a,xs,ρ1,r.1,rfl,sq,d1,ok,λx dx=>k _ ρ1 H1 X1 R1 dx⟩⟩
 ·cases e
end
end DL
namespace DL
open PySem L2
theorem Ub (S:Sto)(v:D):UX S (v,S)=(v,S):=by unfold UX;split<;>rfl
theorem QZ (S G:Sto)(v:D)(h:JF S.length v=true):UX S (v,S++G)=(v,S):=by
 unfold UX
 rw [if_pos ⟨by simp,h⟩]
theorem Cl {α:Type}{xs:List α}{i:Int}(h0:0≤i)(h1:i<xs.length):∃a,a∈xs/\xs[i.toNat]? = some a/\atI xs i=some a:=by
 obtain⟨n,rfl⟩:=Int.eq_ofNat_of_zero_le h0
 have hn:n<xs.length:=by omega
 refine⟨xs[n],W01 hn,by simp [hn],U6 (by simp [hn])⟩
def cs (x:Str):List Nat:=x.cps.toList
theorem Zn (x:Str):x.length=(cs x).length:=by simp [Str.length,cs]
theorem UK (x y:Str):cs (x++y)=cs x++cs y:=by
 show (Str.append x y).cps.toList=_
 unfold Str.append
 simp [cs]
theorem Qi (ys:List Str):cs (W0G (Wm "") ys)=ys.flatMap cs:=by
 have e:(Wm "").cps = #[]:=by decide +kernel
 have key:∀(l:List Str) (acc:Array Nat),(l.foldl (λacc p=>acc++(Wm "").cps++p.cps) acc).toList=acc.toList++l.flatMap cs:=by
  intro l
  induction l with
  |nil=>intro acc;simp
  |cons p l ih=>intro acc;rw [List.foldl_cons,ih,e];simp [cs]
 unfold W0G Builtin.Str.glued
 cases ys with
 |nil=>rfl
 |cons y ys=>exact key ys y.cps
theorem Kj (x:Str)(j:Nat):cs (Vc x none (some (j:Int)))=(cs x).take j:=by
 have hcl:(cs x).length=x.cps.toList.length:=rfl
 by_cases h:j≤(cs x).length
 ·have:=StrLaws.sliceText_to (x:=x) (j:=(j:Int)) ⟨by omega,by omega⟩
  show (W0w x none (some (j:Int))).cps.toList=_
  rw [this];simp [cs]
 ·have hx:x.length=(cs x).length:=Zn x
  have e0:∀v:Nat,x.length≤v->Vf none (some (v:Int)) 1 x.length=Vf none none 1 x.length:=λv hv=>by
   have a1:¬((v:Int)<0):=by omega
   have a3:min (v:Int) (x.length:Int)=x.length:=by omega
   have a4:max 0 (x.length:Int)=x.length:=by omega
   simp [Vf,a1,a3,a4]
  have e1:Vc x none (some (j:Int))=Vc x none (some (x.length:Int)):=by
   unfold Vc
   rw [e0 j (by omega),e0 x.length (Wp _)]
  have h2:=StrLaws.sliceText_to (x:=x) (j:=(x.length:Int)) ⟨by omega,by omega⟩
  have e2:Vc x none (some (x.length:Int))=W0w x none (some (x.length:Int)):=rfl
  rw [e1,e2,h2]
  show (List.take _ (List.drop 0 (cs x))).toArray.toList=_
  rw [W12,Vx (by omega:(cs x).length≤((x.length:Int)-0).toNat),Vx (by omega:(cs x).length≤j)]
theorem F1 (x:Str)(i:Nat)(h:i≤(cs x).length):cs (Vc x (some (i:Int)) none)=(cs x).drop i:=by
 have hcl:(cs x).length=x.cps.toList.length:=rfl
 have h2:=StrLaws.sliceText_from (x:=x) (i:=(i:Int)) ⟨by omega,by omega⟩
 have e2:Vc x (some (i:Int)) none=W0w x (some (i:Int)) none:=rfl
 rw [e2,h2]
 show (List.take _ (List.drop (i:Int).toNat (cs x))).toArray.toList=_
 have e3:((i:Nat):Int).toNat=i:=by omega
 rw [e3,Vx (by rw [VZ];omega)]
end DL
namespace DL
open PySem PySem.Spec PyProof.Rows L2
section
variable {X:Cx} {e a b c:Expr} {es:List Expr} {pos:Pos}
theorem sv (i:Nat){x:Str}{pos:Pos}(hN:X.N[i]? = some x:=by rfl)(hv:Vis X.env.scope x:=by first|exact Or.inl rfl|exact Or.inr (Or.inl rfl)|exact Or.inr (Or.inr rfl))(hd:(x == ("__debug__" : Str))=false:=by decide)
  (hcd:(x == ("__classdict__" : Str))=false:=by decide):SE X (.Name x pos) (Z4 i):=FA i (A1 hN hv hd hcd)
theorem ZX {scope:Scope}(names0:List (Str×NameKind))(h0:X.env.scope.names=names0)(h:∀y∈scope.names,y.2 = .free->names0.lookup y.1=some .cell\/names0.lookup y.1=some .free) :
  ∀y∈scope.names,y.2 = .free->X.env.scope.names.lookup y.1=some .cell\/X.env.scope.names.lookup y.1=some .free:=by rw [h0];exact h
theorem Gp {K:W3}{C:String}(h1:Vz K (.type "NoneType") (.type C)=some (JH "NoneType" C))(h2:Vz K (.type "bool") (.type C)=some (JH "bool" C))(h3:Vz K (.type "int") (.type C)=some (JH "int" C))
  (h4:Vz K (.type "str") (.type C)=some (JH "str" C)) (h5:Vz K (.type "tuple") (.type C)=some (JH "tuple" C)) (h6:Vz K (.type "list") (.type C)=some (JH "list" C)) (h7:Vz K (.type "dict") (.type C)=some (JH "dict" C)):Isi K C:=by
 intro T hT
 simp only [WD,WI,or_false] at hT
 rcases hT with rfl|rfl|rfl|rfl|rfl|rfl|rfl
 ·exact h1
 ·exact h2
 ·exact h3
 ·exact h4
 ·exact h5
 ·exact h6
 ·exact h7
theorem LJ (K:W3):Isi K "str":=Gp (by kernel_rfl) (by kernel_rfl) (by kernel_rfl) (by kernel_rfl) (by kernel_rfl) (by kernel_rfl) (by kernel_rfl)
theorem LK (K:W3):Isi K "int":=Gp (by kernel_rfl) (by kernel_rfl) (by kernel_rfl) (by kernel_rfl) (by kernel_rfl) (by kernel_rfl) (by kernel_rfl)
theorem QU (K:W3):Isi K "bool":=Gp (by kernel_rfl) (by kernel_rfl) (by kernel_rfl) (by kernel_rfl) (by kernel_rfl) (by kernel_rfl) (by kernel_rfl)
theorem UB (K:W3):Isi K "tuple":=Gp (by kernel_rfl) (by kernel_rfl) (by kernel_rfl) (by kernel_rfl) (by kernel_rfl) (by kernel_rfl) (by kernel_rfl)
theorem TU {p:Pos}{sep:M D}{m:M (List D)}(hs:SE X a sep)(h:SQ X e m)(he:Wn [e] X.env=(false,eval e X.env) :: Wn [] X.env:=by rfl)
  (hbase:attributeBase a ("join" : Str) X.env (eval a X.env)=eval a X.env:=by rfl)
  (hfew:((backTo pos (Wn [e] X.env)).all (λx=>!x.1)&&(backToKw pos (keywordEach [] X.env)).all (λx=>x.1.isSome)
   && decide ([e].length+([]:List Keyword).length+(if ([]:List Keyword).isEmpty then 0 else 1)<30))=true:=by rfl)
  (hline:(p.endLine == pos.line)=true:=by rfl) (hplain:(backTo pos (Wn [] X.env)).any (·.1)=false:=by rfl) :
  SE X (.Call (.Attribute a "join" p) [e] [] pos) (Tc sep m):=
 PM hs h (Zf h ZH he) (BV PySem.F.plainAttrs_str PySem.F.slot_str_join PySem.F.type_str_join Lj hs (Zf h ZH he) hbase hfew hline he hplain)
end
structure Own (K:W3) (mg:Str->Option Value) (x:Str) (st:Stmt) (f:Addr) (fd:FuncData) (ps:List Str):Prop where
 fn:Fun K x x st f fd
 mgf:mg x=some (.ref f)
 b:TH K fd ps []
theorem LV {P:Program}{w:World}{K:W3}{mg:Str->Option Value}{base:Heap}{k n:Nat}{f:Addr}{fd:FuncData}{ps:List Str}(hn:ps.length=n):FnOk P w K mg base CX0 k f fd ps (spD K n λ_ _=>none):=
 ⟨λvs H Q E h=>by rw [h.1,hn],λA outer s H args us vs Q E _ _ _ _ h=>by
  obtain⟨_,ρ,S,ds,v,S',_,_,e,_⟩:=h
  cases e⟩
theorem walk_d {l:PySem.W.OpenLaw}{k:Nat}{q:Program}{loose:List Str}{XP:(Str->Option Value)->Heap->Prop}{YP:World->Heap->Prop}{d:DefRec}{K:Params->W3}{x:Str}{F:List D->Sto->Option (D×Sto)}
  (hn:l.most=some 63) (hdf:d.params.defaults=[]) (hr:Room k callerA)
  (hY:∀(w:World) (h:Heap),YP w h->(K w.params).In h)
  (hF:∀(w:World) (mg:Str->Option Value) (fa:Addr) (h:Heap),(K w.params).In h->h.Ns Wy mg->mg d.name=some (.ref fa)->
   ∃fd:FuncData,(∀(s:Shared) (u:Value),BindsTo s fd ⟨[u],[]⟩ [(x,u)])/\
    ∀base:Heap,(K w.params).In base->base.Ns Wy mg->FnOk l.prog w (K w.params) mg base CX0 k fa fd [x] (spD (K w.params) 1 F))
  (hl:∀ns:List Int,ns.length≤63->∃S',F [.scr ns] []=some (.bl true,S')) :
  PySem.W.WalkO q loose XP YP l.row.toRowW d [] (λf vs=>PySem.call f vs):=by
 refine L2.walk_of (n:=63) (k:=k) (x:=x) (CX:=λ_=>CX0) (sp:=λw=>spD (K w.params) 1 F) hn (by decide) hdf hr hY hF (λw H a ns hlen hO hS=>?_) λ_ _ _ _ _ z=>z
 obtain⟨S',e⟩:=hl ns hlen
 have hs:Kp (K w.params) H a ns:=by
  rcases hS with (h|⟨o,h⟩)|h
  ·rcases hO a with z|⟨o,xs,z⟩
   ·rw [h] at z;cases z
   ·rw [h] at z;cases z
  ·exact .inl ⟨o,h⟩
  ·exact .inr h
 refine⟨rfl,[],[],[.scr ns],.bl true,S',⟨rfl,λi j a h=>by simp at h,λn ob h=>by simp at h⟩,.cons (by unfold DR;exact⟨a,rfl,hs⟩) .nil,e,λz ρ' H' _ _ dz=>dz.of_bl⟩
end DL
namespace DL
open PySem L2
section
variable {a b c:M D} {ba bb:M Bool} {sa sb:MS} {ms:M (List D)} {en en':En} {S S':Sto} {x y v:D} {g g':D->D->Sto->Option (D×Sto)} {F:List D->Sto->Option (D×Sto)}
def AU (b:MS):Option (Fl×En×Sto)->Option (Fl×En×Sto)
 |some (.nx,en,S)=>b en S
 |r=>r
theorem Kd:Ym sa sb en S=AU sb (sa en S):=by
 unfold Ym
 cases sa en S with
 |none=>rfl
 |some p=>obtain⟨f,e,s⟩:=p;cases f<;>rfl
theorem K3:AU sb (some (.nx,en,S))=sb en S:=rfl
theorem G9:AU sb (some (.rt v,en,S))=some (.rt v,en,S):=rfl
theorem Gb:AU sb (some (.bk,en,S))=some (.bk,en,S):=rfl
theorem Ga:AU sb (some (.ct,en,S))=some (.ct,en,S):=rfl
theorem Sv:mNx en S=some (.nx,en,S):=rfl
theorem Sz:mBk en S=some (.bk,en,S):=rfl
theorem Sy:mCt en S=some (.ct,en,S):=rfl
def Hj (g:D->En->Option En)(en:En):Option (D×Sto)->Option (Fl×En×Sto)
 |some (v,S)=>(g v en).map λen'=>(.nx,en',S)
 |none=>none
theorem Ke {g:D->En->Option En}:YL a g en S=Hj g en (a en S):=by
 unfold YL
 cases a en S<;>rfl
theorem Lw {i:Nat}:Hj (gN i) en (some (v,S))=some (.nx,en.set i (some v),S):=rfl
theorem RN {n:Nat}{gs:List D->En->Option En}:Hj (gT n gs) en (some (v,S))=(gT n gs v en).map λen'=>(.nx,en',S):=rfl
theorem Sx {n:Nat}{gs:List D->En->Option En}{ds:List D}(h:ds.length=n):gT n gs (.tup ds) en=gs ds en:=if_pos h
theorem C5 {i:Nat}{gs:List D->En->Option En}{ds:List D}:Gt (gN i) gs (v :: ds) en=gs ds (en.set i (some v)):=rfl
theorem C4:LS [] en=some en:=rfl
def Sh (en:En):Option (D×Sto)->Option (Fl×En×Sto)
 |some (v,S)=>some (.rt v,en,S)
 |none=>none
theorem EV:Qm a en S=Sh en (a en S):=by
 unfold Qm
 cases a en S<;>rfl
theorem AH:Sh en (some (v,S))=some (.rt v,en,S):=rfl
theorem P7:Hc en S=some (.rt .non,en,S):=rfl
def E7 (en:En):Option (D×Sto)->Option (Fl×En×Sto)
 |some (_,S)=>some (.nx,en,S)
 |none=>none
theorem NY:Td a en S=E7 en (a en S):=by
 unfold Td
 cases a en S<;>rfl
theorem ND:E7 en (some (v,S))=some (.nx,en,S):=rfl
def Sk (sa sb:MS)(en:En):Option (Bool×Sto)->Option (Fl×En×Sto)
 |some (c,S)=>if c=true then sa en S else sb en S
 |none=>none
theorem C3:G1 ba sa sb en S=Sk sa sb en (ba en S):=by
 unfold G1
 cases ba en S<;>rfl
theorem AL {c:Bool}:Sk sa sb en (some (c,S))=if c=true then sa en S else sb en S:=rfl
def kV1 (S:Sto):Option D->Option (D×Sto)
 |some d=>some (d,S)
 |none=>none
theorem EM {i:Nat}:Z4 i en S=kV1 S (en[i]?.getD none):=by
 unfold Z4
 cases en[i]?.getD none<;>rfl
theorem HV:kV1 S (some x)=some (x,S):=rfl
theorem C7:Zk x en S=some (x,S):=rfl
def Si (g:D->D->Sto->Option (D×Sto))(b:M D)(en:En):Option (D×Sto)->Option (D×Sto)
 |some (x,S)=>(b en S).bind λq=>g x q.1 q.2
 |none=>none
def AX (g:D->D->Sto->Option (D×Sto))(x:D):Option (D×Sto)->Option (D×Sto)
 |some (y,S)=>g x y S
 |none=>none
theorem Hs:mOp g a b en S=Si g b en (a en S):=by
 unfold mOp
 cases a en S<;>rfl
theorem Lv:Si g b en (some (x,S))=AX g x (b en S):=by
 show (b en S).bind _=_
 cases b en S<;>rfl
theorem AI:AX g x (some (y,S))=g x y S:=rfl
def kT:Option (D×Sto)->Option (Bool×Sto)
 |some (.bl b,S)=>some (b,S)
 |_=>none
theorem e_T:mT a en S=kT (a en S):=by
 unfold mT
 cases a en S with
 |none=>rfl
 |some p=>obtain⟨d,s⟩:=p;cases d<;>rfl
theorem k_T {t:Bool}:kT (some (.bl t,S))=some (t,S):=rfl
def S8:Option (D×Sto)->Option (Bool×Sto)
 |some (d,S)=>(GM d S).map λb=>(b,S)
 |none=>none
theorem Cd:Bd a en S=S8 (a en S):=by
 unfold Bd
 cases a en S<;>rfl
theorem RP {t:Bool}:S8 (some (.bl t,S))=some (t,S):=rfl
def So (b:M Bool)(en:En):Option (Bool×Sto)->Option (Bool×Sto)
 |some (c,S)=>if c=true then b en S else some (false,S)
 |none=>none
def kOr (b:M Bool)(en:En):Option (Bool×Sto)->Option (Bool×Sto)
 |some (c,S)=>if c=true then some (true,S) else b en S
 |none=>none
def Sj:Option (Bool×Sto)->Option (Bool×Sto)
 |some (c,S)=>some (!c,S)
 |none=>none
theorem C9:HU ba bb en S=So bb en (ba en S):=by
 unfold HU
 cases ba en S<;>rfl
theorem Su:mOr ba bb en S=kOr bb en (ba en S):=by
 unfold mOr
 cases ba en S<;>rfl
theorem EW:MY ba en S=Sj (ba en S):=by
 unfold MY
 cases ba en S<;>rfl
theorem AQ {c:Bool}:So bb en (some (c,S))=if c=true then bb en S else some (false,S):=rfl
theorem HW {c:Bool}:kOr bb en (some (c,S))=if c=true then some (true,S) else bb en S:=rfl
theorem AJ {c:Bool}:Sj (some (c,S))=some (!c,S):=rfl
def AS (b:M D)(en:En):Option (D×Sto)->Option (D×Sto)
 |some (d,S)=>(GM d S).bind λc=>if c=true then b en S else some (d,S)
 |none=>none
def HZ (b:M D)(en:En):Option (D×Sto)->Option (D×Sto)
 |some (d,S)=>(GM d S).bind λc=>if c=true then some (d,S) else b en S
 |none=>none
def Lx:Option (D×Sto)->Option (D×Sto)
 |some (d,S)=>(GM d S).map λc=>(.bl (!c),S)
 |none=>none
theorem RZ:Pt a b en S=AS b en (a en S):=by
 unfold Pt
 cases a en S<;>rfl
theorem EL:vOr a b en S=HZ b en (a en S):=by
 unfold vOr
 cases a en S<;>rfl
theorem RY:HC a en S=Lx (a en S):=by
 unfold HC
 cases a en S<;>rfl
theorem Rj {c:Bool}:AS b en (some (.bl c,S))=if c=true then b en S else some (.bl false,S):=by cases c<;>rfl
theorem AB {c:Bool}:HZ b en (some (.bl c,S))=if c=true then some (.bl true,S) else b en S:=by cases c<;>rfl
theorem Ri {c:Bool}:Lx (some (.bl c,S))=some (.bl (!c),S):=rfl
theorem Nk {ds:List D}{n:Nat}(h:S[n]? = some (.lst ds)):Lx (some (.ref n,S))=some (.bl ds.isEmpty,S):=by
 show (GM (.ref n) S).map _=_
 dsimp only [GM]
 rw [h]
 simp
def kIf (a b:M D)(en:En):Option (Bool×Sto)->Option (D×Sto)
 |some (c,S)=>if c=true then a en S else b en S
 |none=>none
theorem Sw:mIf ba a b en S=kIf a b en (ba en S):=by
 unfold mIf
 cases ba en S<;>rfl
theorem HX {c:Bool}:kIf a b en (some (c,S))=if c=true then a en S else b en S:=rfl
def Sn (g g':D->D->Sto->Option (D×Sto))(b c:M D)(en:En):Option (D×Sto)->Option (D×Sto)
 |some (x,S)=>(b en S).bind λq=>(g x q.1 q.2).bind λr=>match r.1 with
  | .bl true=>(c en r.2).bind λw=>g' q.1 w.1 w.2
  | .bl false=>some (.bl false,r.2)
  |_=>none
 |none=>none
def Sm (g g':D->D->Sto->Option (D×Sto))(x:D)(c:M D)(en:En):Option (D×Sto)->Option (D×Sto)
 |some (y,S)=>(g x y S).bind λr=>match r.1 with
  | .bl true=>(c en r.2).bind λw=>g' y w.1 w.2
  | .bl false=>some (.bl false,r.2)
  |_=>none
 |none=>none
def Sl (g':D->D->Sto->Option (D×Sto))(y:D)(c:M D)(en:En):Option (D×Sto)->Option (D×Sto)
 |some (.bl t,S)=>if t=true then AX g' y (c en S) else some (.bl false,S)
 |_=>none
theorem M0:KJ g g' a b c en S=Sn g g' b c en (a en S):=by
 unfold KJ
 cases a en S<;>rfl
theorem AO:Sn g g' b c en (some (x,S))=Sm g g' x c en (b en S):=by
 show (b en S).bind _=_
 cases b en S<;>rfl
theorem AN:Sm g g' x c en (some (y,S))=Sl g' y c en (g x y S):=by
 show (g x y S).bind _=_
 cases g x y S with
 |none=>rfl
 |some r=>
  obtain⟨d,s⟩:=r
  cases d with
  |bl t=>
   cases t
   ·rfl
   ·show (c en s).bind _=AX g' y (c en s)
    cases c en s<;>rfl
  |_=>rfl
theorem AM {t:Bool}:Sl g' y c en (some (.bl t,S))=if t=true then AX g' y (c en S) else some (.bl false,S):=rfl
theorem EX:Y3 en S=some ([],S):=rfl
def E9 (r:M (List D))(en:En):Option (D×Sto)->Option (List D×Sto)
 |some (x,S)=>(r en S).map λq=>(x :: q.1,q.2)
 |none=>none
def RS (x:D):Option (List D×Sto)->Option (List D×Sto)
 |some (xs,S)=>some (x :: xs,S)
 |none=>none
theorem Pj:Z3 a ms en S=E9 ms en (a en S):=by
 unfold Z3
 cases a en S<;>rfl
theorem RL:E9 ms en (some (x,S))=RS x (ms en S):=by
 show (ms en S).map _=_
 cases ms en S<;>rfl
theorem NE {xs:List D}:RS x (some (xs,S))=some (x :: xs,S):=rfl
def Ea (F:List D->Sto->Option (D×Sto)):Option (List D×Sto)->Option (D×Sto)
 |some (xs,S)=>F xs S
 |none=>none
theorem Pl:Zv F ms en S=Ea F (ms en S):=by
 unfold Zv
 cases ms en S<;>rfl
theorem RM {xs:List D}:Ea F (some (xs,S))=F xs S:=rfl
def Tj:Option (List D×Sto)->Option (D×Sto)
 |some (xs,S)=>if xs.length≤Wc then some (.tup xs,S) else none
 |none=>none
theorem EO:N6 ms en S=Tj (ms en S):=by
 unfold N6
 cases ms en S<;>rfl
theorem QA {xs:List D}(h:xs.length≤Wc):Tj (some (xs,S))=some (.tup xs,S):=if_pos h
def Tk:Option (List D×Sto)->Option (D×Sto)
 |some (xs,S)=>if xs.length≤Wc then some (.ref S.length,S++[.lst xs]) else none
 |none=>none
theorem EY:Lp ms en S=Tk (ms en S):=by
 unfold Lp
 cases ms en S<;>rfl
theorem QB {xs:List D}(h:xs.length≤Wc):Tk (some (xs,S))=some (.ref S.length,S++[.lst xs]):=if_pos h
def Hg (S0:Sto):Option (Fl×En×Sto)->Option (D×Sto)
 |some (.rt v,_,S)=>some (UX S0 (v,S))
 |some (.nx,_,S)=>some (UX S0 (.non,S))
 |_=>none
theorem ES {nN n:Nat}{m:MS}{ds:List D}(h:ds.length=n):J6 nN n m ds S=Hg S (m (Qc nN ds) S):=by
 unfold J6
 rw [if_pos h]
 cases m (Qc nN ds) S with
 |none=>rfl
 |some p=>obtain⟨f,e,s⟩:=p;cases f<;>rfl
theorem Gc:Hg S (some (.rt v,en,S'))=some (UX S (v,S')):=rfl
theorem Ge:Hg S (some (.nx,en,S'))=some (UX S (.non,S')):=rfl
def AY:Option (D×Sto)->Option (D×Sto)
 |some (d,S)=>(KK d S).map λ(n:Nat)=>(.int n,S)
 |none=>none
theorem EZ:Jv a en S=AY (a en S):=by
 unfold Jv AY
 cases a en S with
 |none=>rfl
 |some p=>
  obtain⟨d,s⟩:=p
  dsimp only [WG]
  cases KK d s<;>rfl
theorem AK:AY (some (x,S))=(KK x S).map λ(n:Nat)=>(.int n,S):=rfl
theorem Q6 {z:Str}(h:z.length≤Wc):AY (some (.str z,S))=some (.int z.length,S):=by
 show (if z.length≤Wc then some z.length else none).map _=_
 rw [if_pos h];rfl
theorem RI {ds:List D}:AY (some (.tup ds,S))=some (.int ds.length,S):=rfl
def Fd (C:String):Option (D×Sto)->Option (D×Sto)
 |some (d,S)=>(tyD d S).map λT=>(.bl (JH T C),S)
 |none=>none
theorem C0 {C:String}:Mp C a en S=Fd C (a en S):=by
 unfold Mp
 cases a en S<;>rfl
def kBs (f:List Bool->Bool):Option (List D×Sto)->Option (D×Sto)
 |some (ds,S)=>(QK ds).map λbs=>(.bl (f bs),S)
 |none=>none
theorem Cc:Ao ms en S=kBs (λbs=>bs.all id) (ms en S):=by
 unfold Ao
 cases ms en S<;>rfl
theorem C8:HS ms en S=kBs (λbs=>bs.any id) (ms en S):=by
 unfold HS
 cases ms en S<;>rfl
theorem JO:∀(bs:List Bool),QK (bs.map D.bl)=some bs
 |[]=>rfl
 |b :: bs=>by
  show (QK (bs.map D.bl)).map _=_
  rw [JO bs];rfl
theorem He {bs:List Bool}:kBs (λbs=>bs.all id) (some (bs.map D.bl,S))=some (.bl (bs.all id),S):=by
 show (QK (bs.map D.bl)).map _=_
 rw [JO];rfl
def NH:Option (D×Sto)->Option (ItD×Sto)
 |some (d,S)=>NM d S
 |none=>none
theorem Pd:QP a en S=NH (a en S):=by
 unfold QP
 cases a en S<;>rfl
theorem Uu {ns:List Int}:NH (some (.scr ns,S))=some ((ns.map D.int,.no),S):=rfl
theorem Nv {ds:List D}:NH (some (.tup ds,S))=some ((ds,.no),S):=rfl
theorem Nw {z:Str}:NH (some (.str z,S))=some (((cs z).map λc=>D.str ⟨#[c]⟩,.no),S):=rfl
def Sf:Option (D×Sto)->Option (ItD×Sto)
 |some (.int j,S)=>if -(2 ^ 62)≤j/\j<2 ^ 62 then some ((YF 0 j.toNat,.no),S) else none
 |_=>none
theorem ET:Ju a en S=Sf (a en S):=by
 unfold Ju
 cases a en S with
 |none=>rfl
 |some p=>obtain⟨d,s⟩:=p;cases d<;>rfl
theorem Ti {j:Int}(h : -(2 ^ 62)≤j/\j<2 ^ 62):Sf (some (.int j,S))=some ((YF 0 j.toNat,.no),S):=if_pos h
def E5 (g:D->En->Option En)(body:MS)(en:En):Option (ItD×Sto)->Option (Fl×En×Sto)
 |some (r,S)=>thF r.2 (Yd r.1 r.2 g body r.1 en S)
 |none=>none
theorem C6 {mi:M ItD}{g:D->En->Option En}:MZ mi g sa en S=E5 g sa en (mi en S):=by
 unfold MZ
 cases mi en S<;>rfl
theorem Fp {r:Option (Fl×En×Sto)}:thF .no r=r:=by cases r<;>rfl
theorem Pv {n:Nat}{r:Option (Fl×En×Sto)}:thF (.lst n) r=r:=by cases r<;>rfl
theorem Fs {r:Option (List D×Sto)}:thC .no r=r:=by cases r<;>rfl
theorem Px {n:Nat}{r:Option (List D×Sto)}:thC (.lst n) r=r:=by cases r<;>rfl
theorem NA {ds:List D}{g:D->En->Option En}:E5 g sa en (some ((ds,.no),S))=Yd ds .no g sa ds en S:=Fp
theorem Gf {ds:List D}{n:Nat}{g:D->En->Option En}:E5 g sa en (some ((ds,.lst n),S))=Yd ds (.lst n) g sa ds en S:=Pv
theorem NB {ds:List D}{n:Nat}{kvs:List (D×D)}{th:Bool}{g:D->En->Option En}:E5 g sa en (some ((ds,.fr n kvs th),S))=thF (.fr n kvs th) (Yd ds (.fr n kvs th) g sa ds en S):=rfl
def NJ (nT:Nat)(caps:List Nat)(g:D->En->Option En)(c:M Bool)(m:M D)(en:En):Option (ItD×Sto)->Option (List D×Sto)
 |some (r,S)=>thC r.2 (Zt r.1 r.2 (Q2 nT caps en) g c m r.1 [] S)
 |none=>none
theorem Pk {mi:M ItD}{nT:Nat}{caps:List Nat}{g:D->En->Option En}:Ys mi nT caps g ba a en S=NJ nT caps g ba a en (mi en S):=by
 unfold Ys
 cases mi en S<;>rfl
theorem Gh {ds:List D}{nT:Nat}{caps:List Nat}{g:D->En->Option En}:NJ nT caps g ba a en (some ((ds,.no),S))=Zt ds .no (Q2 nT caps en) g ba a ds [] S:=Fs
theorem Uz {ds:List D}{n:Nat}{nT:Nat}{caps:List Nat}{g:D->En->Option En}:NJ nT caps g ba a en (some ((ds,.lst n),S))=Zt ds (.lst n) (Q2 nT caps en) g ba a ds [] S:=Px
theorem Fo {gs:List (Nat×List D)}{r:Option (Fl×En×Sto)}:thF (.zl gs) r=r:=by cases r<;>rfl
theorem Fq {gs:List (Nat×List D)}{r:Option (List D×Sto)}:thC (.zl gs) r=r:=by cases r<;>rfl
theorem Nz {ds:List D}{gs:List (Nat×List D)}{g:D->En->Option En}:E5 g sa en (some ((ds,.zl gs),S))=Yd ds (.zl gs) g sa ds en S:=Fo
theorem Gg {ds:List D}{gs:List (Nat×List D)}{nT:Nat}{caps:List Nat}{g:D->En->Option En}:NJ nT caps g ba a en (some ((ds,.zl gs),S))=Zt ds (.zl gs) (Q2 nT caps en) g ba a ds [] S:=Fq
theorem Gi {ds:List D}{n:Nat}{kvs:List (D×D)}{th:Bool}{nT:Nat}{caps:List Nat}{g:D->En->Option En}:NJ nT caps g ba a en (some ((ds,.fr n kvs th),S))=thC (.fr n kvs th) (Zt ds (.fr n kvs th) (Q2 nT caps en) g ba a ds [] S):=rfl
def AZ:Option (List D×Sto)->Option (D×Sto)
 |some (ds,S)=>some (.ref S.length,S++[.lst ds])
 |none=>none
theorem Pa:YK ms en S=AZ (ms en S):=by
 unfold YK
 cases ms en S<;>rfl
theorem RJ {ds:List D}:AZ (some (ds,S))=some (.ref S.length,S++[.lst ds]):=rfl
def RQ (ms:M (List D))(en:En):Option (D×Sto)->Option (D×Sto)
 |some (.str x,S)=>(ms en S).bind λp=>(Ud p.1).bind λys=>if (ys.map (·.length)).sum+ys.length*x.length≤16777216 then some (.str (W0G x ys),p.2) else none
 |_=>none
def Gk (x:Str):Option (List D×Sto)->Option (D×Sto)
 |some (ds,S)=>(Ud ds).bind λys=>if (ys.map (·.length)).sum+ys.length*x.length≤16777216 then some (.str (W0G x ys),S) else none
 |none=>none
theorem Pb:Tc a ms en S=RQ ms en (a en S):=by
 unfold Tc
 cases a en S with
 |none=>rfl
 |some p=>obtain⟨d,s⟩:=p;cases d<;>rfl
theorem Nu {z:Str}:RQ ms en (some (.str z,S))=Gk z (ms en S):=by
 show (ms en S).bind _=_
 cases ms en S<;>rfl
theorem Uc:∀(ys:List Str),Ud (ys.map D.str)=some ys
 |[]=>rfl
 |y :: ys=>by
  show (Ud (ys.map D.str)).map _=_
  rw [Uc ys];rfl
theorem Nt {z:Str}{ys:List Str}(h:(ys.map (·.length)).sum+ys.length*z.length≤16777216):Gk z (some (ys.map D.str,S))=some (.str (W0G z ys),S):=by
 show (Ud (ys.map D.str)).bind _=_
 rw [Uc,WG,if_pos h]
def Sd (lo hi:M (Option Int))(en:En):Option (D×Sto)->Option (D×Sto)
 |some (x,S)=>(lo en S).bind λl=>(hi en l.2).bind λu=>slD x l.1 u.1 u.2
 |none=>none
def Sc (x:D)(hi:M (Option Int))(en:En):Option (Option Int×Sto)->Option (D×Sto)
 |some (l,S)=>(hi en S).bind λu=>slD x l u.1 u.2
 |none=>none
def Sb (x:D)(l:Option Int):Option (Option Int×Sto)->Option (D×Sto)
 |some (u,S)=>slD x l u S
 |none=>none
theorem Ss {lo hi:M (Option Int)}:mSl a lo hi en S=Sd lo hi en (a en S):=by
 unfold mSl
 cases a en S<;>rfl
theorem AG {lo hi:M (Option Int)}:Sd lo hi en (some (x,S))=Sc x hi en (lo en S):=by
 show (lo en S).bind _=_
 cases lo en S<;>rfl
theorem AF {hi:M (Option Int)}{l:Option Int}:Sc x hi en (some (l,S))=Sb x l (hi en S):=by
 show (hi en S).bind _=_
 cases hi en S<;>rfl
theorem AE {l u:Option Int}:Sb x l (some (u,S))=slD x l u S:=rfl
def AW:Option (D×Sto)->Option (Option Int×Sto)
 |some (.int i,S)=>some (some i,S)
 |_=>none
theorem P8:Yn a en S=AW (a en S):=by
 unfold Yn
 cases a en S with
 |none=>rfl
 |some p=>obtain⟨d,s⟩:=p;cases d<;>rfl
theorem Rx {i:Int}:AW (some (.int i,S))=some (some i,S):=rfl
theorem Gx:Y4 en S=some (none,S):=rfl
theorem P4:ZS en S=some (true,S):=rfl
end
section
variable {S:Sto} {i j:Int} {x y:Str} {p q:Bool}
theorem RX:Y1 (.int i) (.int j) S=some (.int (i+j),S):=rfl
theorem RW (h:x.length+y.length≤Wc):Y1 (.str x) (.str y) S=some (.str (x++y),S):=if_pos h
theorem NT {xs ys:List D}(h:xs.length+ys.length≤Wc):Y1 (.tup xs) (.tup ys) S=some (.tup (xs++ys),S):=if_pos h
theorem RU:Be (.int i) (.int j) S=some (.int (i-j),S):=rfl
theorem Em (h : -(2 ^ 64)<j/\j<2 ^ 64):Tn (.int i) (.int j) S=some (.int (i*j),S):=if_pos (Or.inr h)
theorem UE (h : -(2 ^ 64)<i/\i<2 ^ 64):Tn (.int i) (.int j) S=some (.int (i*j),S):=if_pos (Or.inl h)
theorem Ep (h:0<j):Cs (.int i) (.int j) S=some (.int (i%j),S):=if_pos (decide_eq_true h)
theorem Er:gLt (.int i) (.int j) S=some (.bl (decide (i<j)),S):=rfl
theorem Es:gLe (.int i) (.int j) S=some (.bl (decide (i≤j)),S):=rfl
theorem Ez:gGt (.int i) (.int j) S=some (.bl (decide (j<i)),S):=rfl
theorem EA:gGe (.int i) (.int j) S=some (.bl (decide (j≤i)),S):=rfl
theorem EC:gEq (.int i) (.int j) S=some (.bl (decide (i=j)),S):=rfl
theorem EB:gEq (.str x) (.str y) S=some (.bl (decide (x=y)),S):=rfl
theorem ED:gEq (.bl p) (.bl q) S=some (.bl (decide (p=q)),S):=rfl
theorem El:gNe (.int i) (.int j) S=some (.bl (!decide (i=j)),S):=rfl
theorem Ek:gNe (.str x) (.str y) S=some (.bl (!decide (x=y)),S):=rfl
theorem UF:EH (.bl p) (.bl q) S=some (.bl (!(p == q)),S):=rfl
theorem RV:gIs (.bl p) (.bl q) S=some (.bl (p == q),S):=rfl
theorem Tl {ds:List D}{k:Nat}{d:D}(h:ds[k]? = some d):gIx (.tup ds) (.int (k:Nat)) S=some (d,S):=by
 show (atI ds (k:Int)).map _=_
 rw [U6 h];rfl
section
variable {a b c d e f:D} {l:List D}
theorem Ey:gIx (.tup (a :: l)) (.int 0) S=some (a,S):=Tl (k:=0) rfl
theorem Ex:gIx (.tup (a :: b :: l)) (.int 1) S=some (b,S):=Tl (k:=1) rfl
theorem Ew:gIx (.tup (a :: b :: c :: l)) (.int 2) S=some (c,S):=Tl (k:=2) rfl
theorem Ev:gIx (.tup (a :: b :: c :: d :: l)) (.int 3) S=some (d,S):=Tl (k:=3) rfl
theorem Eu:gIx (.tup (a :: b :: c :: d :: e :: l)) (.int 4) S=some (e,S):=Tl (k:=4) rfl
theorem Et:gIx (.tup (a :: b :: c :: d :: e :: f :: l)) (.int 5) S=some (f,S):=Tl (k:=5) rfl
end
end
section
variable {ds0 r:List D} {g:D->En->Option En} {body:MS} {en:En} {S:Sto} {d v:D}
def NI (ds0:List D)(g:D->En->Option En)(body:MS)(r:List D):Option (Fl×En×Sto)->Option (Fl×En×Sto)
 |some (.nx,en,S)=>Yd ds0 .no g body r en S
 |some (.ct,en,S)=>Yd ds0 .no g body r en S
 |some (.bk,en,S)=>some (.nx,en,S)
 |some (.rt v,en,S)=>some (.rt v,en,S)
 |none=>none
theorem Pg:Yd ds0 .no g body [] en S=some (.nx,en,S):=by
 unfold Yd
 exact if_pos trivial
theorem Ph {i:Nat}:Yd ds0 .no (gN i) body (d :: r) en S=NI ds0 (gN i) body r (body (en.set i (some d)) S):=by
 rw [Yd]
 rw [if_pos (show TF .no ds0 S from trivial)]
 show (body (en.set i (some d)) S).bind _=_
 cases body (en.set i (some d)) S with
 |none=>rfl
 |some p=>obtain⟨f,e,s⟩:=p;cases f<;>rfl
theorem Uw:NI ds0 g body r (some (.nx,en,S))=Yd ds0 .no g body r en S:=rfl
theorem Ux:NI ds0 g body r (some (.ct,en,S))=Yd ds0 .no g body r en S:=rfl
theorem Uy:NI ds0 g body r (some (.bk,en,S))=some (.nx,en,S):=rfl
theorem Uv:NI ds0 g body r (some (.rt v,en,S))=some (.rt v,en,S):=rfl
end
section
variable {a b c d e f g h i j k l:D} {S:Sto}
theorem Rv:Tj (some (([]:List D),S))=some (.tup [],S):=QA (show 0≤Wc by decide)
theorem RH:Tk (some (([]:List D),S))=some (.ref S.length,S++[.lst []]):=QB (show 0≤Wc by decide)
theorem Ru:Tj (some ([a],S))=some (.tup [a],S):=QA (show 1≤Wc by decide)
theorem RG:Tk (some ([a],S))=some (.ref S.length,S++[.lst [a]]):=QB (show 1≤Wc by decide)
theorem Rt:Tj (some ([a,b],S))=some (.tup [a,b],S):=QA (show 2≤Wc by decide)
theorem RF:Tk (some ([a,b],S))=some (.ref S.length,S++[.lst [a,b]]):=QB (show 2≤Wc by decide)
theorem Rs:Tj (some ([a,b,c],S))=some (.tup [a,b,c],S):=QA (show 3≤Wc by decide)
theorem RE:Tk (some ([a,b,c],S))=some (.ref S.length,S++[.lst [a,b,c]]):=QB (show 3≤Wc by decide)
theorem Rr:Tj (some ([a,b,c,d],S))=some (.tup [a,b,c,d],S):=QA (show 4≤Wc by decide)
theorem RD:Tk (some ([a,b,c,d],S))=some (.ref S.length,S++[.lst [a,b,c,d]]):=QB (show 4≤Wc by decide)
theorem Rq:Tj (some ([a,b,c,d,e],S))=some (.tup [a,b,c,d,e],S):=QA (show 5≤Wc by decide)
theorem RC:Tk (some ([a,b,c,d,e],S))=some (.ref S.length,S++[.lst [a,b,c,d,e]]):=QB (show 5≤Wc by decide)
theorem Rp:Tj (some ([a,b,c,d,e,f],S))=some (.tup [a,b,c,d,e,f],S):=QA (show 6≤Wc by decide)
theorem RB:Tk (some ([a,b,c,d,e,f],S))=some (.ref S.length,S++[.lst [a,b,c,d,e,f]]):=QB (show 6≤Wc by decide)
theorem Ro:Tj (some ([a,b,c,d,e,f,g],S))=some (.tup [a,b,c,d,e,f,g],S):=QA (show 7≤Wc by decide)
theorem RA:Tk (some ([a,b,c,d,e,f,g],S))=some (.ref S.length,S++[.lst [a,b,c,d,e,f,g]]):=QB (show 7≤Wc by decide)
theorem Rn:Tj (some ([a,b,c,d,e,f,g,h],S))=some (.tup [a,b,c,d,e,f,g,h],S):=QA (show 8≤Wc by decide)
theorem Rz:Tk (some ([a,b,c,d,e,f,g,h],S))=some (.ref S.length,S++[.lst [a,b,c,d,e,f,g,h]]):=QB (show 8≤Wc by decide)
theorem Rm:Tj (some ([a,b,c,d,e,f,g,h,i],S))=some (.tup [a,b,c,d,e,f,g,h,i],S):=QA (show 9≤Wc by decide)
theorem Ry:Tk (some ([a,b,c,d,e,f,g,h,i],S))=some (.ref S.length,S++[.lst [a,b,c,d,e,f,g,h,i]]):=QB (show 9≤Wc by decide)
theorem No:Tj (some ([a,b,c,d,e,f,g,h,i,j],S))=some (.tup [a,b,c,d,e,f,g,h,i,j],S):=QA (show 10≤Wc by decide)
theorem Nr:Tk (some ([a,b,c,d,e,f,g,h,i,j],S))=some (.ref S.length,S++[.lst [a,b,c,d,e,f,g,h,i,j]]):=QB (show 10≤Wc by decide)
theorem Nn:Tj (some ([a,b,c,d,e,f,g,h,i,j,k],S))=some (.tup [a,b,c,d,e,f,g,h,i,j,k],S):=QA (show 11≤Wc by decide)
theorem Nq:Tk (some ([a,b,c,d,e,f,g,h,i,j,k],S))=some (.ref S.length,S++[.lst [a,b,c,d,e,f,g,h,i,j,k]]):=QB (show 11≤Wc by decide)
theorem Nm:Tj (some ([a,b,c,d,e,f,g,h,i,j,k,l],S))=some (.tup [a,b,c,d,e,f,g,h,i,j,k,l],S):=QA (show 12≤Wc by decide)
theorem Np:Tk (some ([a,b,c,d,e,f,g,h,i,j,k,l],S))=some (.ref S.length,S++[.lst [a,b,c,d,e,f,g,h,i,j,k,l]]):=QB (show 12≤Wc by decide)
end
theorem SH:(true == false)=false:=rfl
theorem SJ:(false == true)=false:=rfl
theorem SG:(true == true)=true:=rfl
theorem SK:(false == false)=true:=rfl
section
variable {a b:Option D} {l m:En} {d e:D} {ds es:List D} {n:Nat} {x y:Option (Fl×En×Sto)} {u v:Option (D×Sto)} {p q:Option (Bool×Sto)}
theorem KM:(a :: l).set 0 b=b :: l:=rfl
theorem KL:(a :: l).set (n+1) b=a :: l.set n b:=rfl
theorem R9:(a :: l)[0]? = some a:=rfl
theorem R7:(a :: l)[n+1]? = l[n]?:=List.getElem?_cons_succ
theorem R8:(some a).getD none=a:=rfl
theorem KQ:([]:List D).length=0:=rfl
theorem KP:(d :: ds).length=ds.length+1:=rfl
theorem Rg:([]:List D)++ds=ds:=rfl
theorem Re:(d :: ds)++es=d :: (ds++es):=rfl
theorem Rf:ds++[]=ds:=Vt ds
theorem G6:Qc n []=VS n none:=rfl
theorem G5:Qc (n+1) (d :: ds)=some d :: Qc n ds:=by
 unfold Qc
 simp
theorem Ra {caps:List Nat}:Q2 (n+1) caps l=none :: Q2 n caps l:=rfl
theorem Rc {j:Nat}{caps:List Nat}:Q2 0 (j :: caps) l=(l[j]?.getD none) :: Q2 0 caps l:=rfl
theorem Rb:Q2 0 [] l=[]:=rfl
theorem KO:VS 0 (none:Option D)=[]:=rfl
theorem KN:VS (n+1) (none:Option D)=none :: VS n none:=rfl
theorem KW:(if True then x else y)=x:=if_pos trivial
theorem KY:(if False then x else y)=y:=if_neg id
theorem KR:(if True then u else v)=u:=if_pos trivial
theorem KU:(if False then u else v)=v:=if_neg id
theorem KZ:(if True then p else q)=p:=if_pos trivial
theorem R6:(if False then p else q)=q:=if_neg id
end
end DL
namespace DL
open PySem L2
section
variable {a b c:M D} {ms:M (List D)} {en:En} {S:Sto} {x v:D} {ds:List D} {n:Nat}
def Jw (n:Nat):Option (D×Sto)->Option (D×Sto)
 |some (v,S)=>match S[n]? with|some (Ob.lst ds)=>if ds.length<Wc then some (.non,S.set n (Ob.lst (ds++[v]))) else none|_=>none
 |none=>none
def Hk (b:M D)(en:En):Option (D×Sto)->Option (D×Sto)
 |some (.ref n,S)=>match S[n]? with|some (Ob.lst _)=>Jw n (b en S)|_=>(b en S).bind λ_=>none
 |some (_,S)=>(b en S).bind λ_=>none
 |none=>none
theorem LX:Lq a b en S=Hk b en (a en S):=by
 unfold Lq
 cases a en S with
 |none=>rfl
 |some p=>
  obtain⟨d,S1⟩:=p
  cases d with
  |ref n=>
   show ((b en S1).bind λq=>match S1[n]?,q.2[n]? with|some (Ob.lst _),some (Ob.lst ds)=>if ds.length<Wc then some (D.non,q.2.set n (Ob.lst (ds++[q.1]))) else none|_,_=>none)=_
   cases h:S1[n]? with
   |none=>show _=(match S1[n]? with|some (Ob.lst _)=>Jw n (b en S1)|_=>(b en S1).bind λ_=>none);rw [h]
   |some ob=>
    show _=(match S1[n]? with|some (Ob.lst _)=>Jw n (b en S1)|_=>(b en S1).bind λ_=>none)
    rw [h]
    cases ob with
    |lst l=>
     dsimp only
     cases b en S1 with
     |none=>rfl
     |some q=>
      obtain⟨w,s⟩:=q
      rw [WG]
      unfold Jw
      dsimp only
      cases s[n]? with
      |none=>rfl
      |some o=>cases o<;>rfl
    |_=>rfl
  |_=>rfl
theorem RO {ds:List D}:Hk b en (some (.ref S.length,S++[Ob.lst ds]))=Jw S.length (b en (S++[Ob.lst ds])):=by
 show (match (S++[Ob.lst ds])[S.length]? with|some (Ob.lst _)=>Jw S.length (b en (S++[Ob.lst ds]))|_=>(b en (S++[Ob.lst ds])).bind λ_=>none)=_
 rw [Ww]
theorem F5 (h:ds.length<Wc):Jw S.length (some (v,S++[Ob.lst ds]))=some (.non,S++[Ob.lst (ds++[v])]):=by
 show (match (S++[Ob.lst ds])[S.length]? with|some (Ob.lst ds')=>if ds'.length<Wc then some (D.non,(S++[Ob.lst ds]).set S.length (Ob.lst (ds'++[v]))) else none|_=>none)=_
 rw [Ww]
 dsimp only
 rw [if_pos h]
 simp
def NG:Option (D×Sto)->Option (D×Sto)
 |some (d,S)=>(Pu d S).map λds=>(.tup ds,S)
 |none=>none
theorem P0:N5 a en S=NG (a en S):=by
 unfold N5
 cases a en S<;>rfl
theorem Nl:NG (some (.tup ds,S))=some (.tup ds,S):=rfl
theorem F4 (h:S[n]? = some (Ob.lst ds)):NG (some (.ref n,S))=some (.tup ds,S):=by
 show ((match S[n]? with|some (Ob.lst ds)=>some ds|_=>none).map λds=>(D.tup ds,S))=_
 rw [h];rfl
theorem Th:NG (some (.ref S.length,S++[Ob.lst ds]))=some (.tup ds,S++[Ob.lst ds]):=F4 (Ww ..)
def AT:Option (List D×Sto)->Option (D×Sto)
 |some (ds,S)=>some (.tup ds,S)
 |none=>none
theorem P3:Ak ms en S=AT (ms en S):=by
 unfold Ak
 cases ms en S<;>rfl
theorem Rl:AT (some (ds,S))=some (.tup ds,S):=rfl
theorem P9:Hd en S=some (.ref S.length,S++[Ob.dct []]):=rfl
def E8:Option (D×Sto)->Option (D×Sto)
 |some (.tup ds,S)=>if ds.length≤Wc then (BW ds).map λps=>(.ref S.length,S++[Ob.dct (Pm [] ps)]) else none
 |_=>none
theorem NZ:KI a en S=E8 (a en S):=by
 unfold KI
 cases a en S with
 |none=>rfl
 |some p=>obtain⟨d,s⟩:=p;cases d<;>rfl
def Ly (C1 C2:String):Option (D×Sto)->Option (D×Sto)
 |some (d,S)=>(tyD d S).map λT=>(.bl (JH T C1||JH T C2),S)
 |none=>none
theorem Pe {C1 C2:String}:N7 C1 C2 a en S=Ly C1 C2 (a en S):=by
 unfold N7
 cases a en S<;>rfl
def K4 (d:D):Option (D×Sto)->Option (ItD×Sto)
 |some (d',S)=>(GN d S).bind λx=>(GN d' S).map λy=>((Ks x.1 y.1,gdZ (x.2++y.2)),S)
 |none=>none
def HY (b:M D)(en:En):Option (D×Sto)->Option (ItD×Sto)
 |some (d,S)=>K4 d (b en S)
 |none=>none
theorem EK:Aj a b en S=HY b en (a en S):=by
 unfold Aj
 cases a en S with
 |none=>rfl
 |some p=>
  obtain⟨d,S1⟩:=p
  show ((b en S1).bind _)=K4 d (b en S1)
  cases b en S1 with
  |none=>rfl
  |some q=>rfl
theorem AA {d:D}:HY b en (some (d,S))=K4 d (b en S):=rfl
theorem Rh {xs ys:List D}:K4 (.tup xs) (some (.tup ys,S))=some ((Ks xs ys,.no),S):=rfl
def K5 (f:Int->Int->Int)(d:D):Option (D×Sto)->Option (D×Sto)
 |some (d',S)=>match d,d' with | .int i,.int j=>some (.int (f i j),S)|_,_=>none
 |none=>none
def S7 (f:Int->Int->Int)(b:M D)(en:En):Option (D×Sto)->Option (D×Sto)
 |some (d,S)=>K5 f d (b en S)
 |none=>none
theorem EN {f:Int->Int->Int}:KH f a b en S=S7 f b en (a en S):=by
 unfold KH
 cases a en S with
 |none=>rfl
 |some p=>
  obtain⟨d,S1⟩:=p
  show ((b en S1).bind _)=K5 f d (b en S1)
  cases b en S1 with
  |none=>rfl
  |some q=>rfl
theorem AC {f:Int->Int->Int}{d:D}:S7 f b en (some (d,S))=K5 f d (b en S):=rfl
theorem Rk {f:Int->Int->Int}{i j:Int}:K5 f (.int i) (some (.int j,S))=some (.int (f i j),S):=rfl
def Lz:Option (D×Sto)->Option (D×Sto)
 |some (.int i,S)=>some (.int i,S)
 |some (.bl c,S)=>some (.int (if c then 1 else 0),S)
 |_=>none
theorem Pf:N8 a en S=Lz (a en S):=by
 unfold N8
 cases a en S with
 |none=>rfl
 |some p=>obtain⟨d,s⟩:=p;cases d<;>rfl
theorem Nx {i:Int}:Lz (some (.int i,S))=some (.int i,S):=rfl
theorem Ny {t:Bool}:Lz (some (.bl t,S))=some (.int (if t then 1 else 0),S):=rfl
def IW:Option (List D×Sto)->Option (List D×Sto)
 |some (ds,S)=>if TQ ds=true then some (Bz ds,S) else none
 |none=>none
theorem ER:HR ms en S=IW (ms en S):=by
 unfold HR
 cases ms en S<;>rfl
def Hf:Option (D×Sto)->Option (List D×Sto)
 |some (d,S)=>(HE d S).bind λds=>if TQ ds=true then some (Bz ds,S) else none
 |none=>none
theorem P5:Am a en S=Hf (a en S):=by
 unfold Am
 cases a en S<;>rfl
end
section
variable {a:M D} {en:En} {S:Sto} {ds:List D} {n:Nat}
def kSq:Option (D×Sto)->Option (List D×Sto)
 |some (d,S)=>(Fb d S).map λds=>(ds,S)
 |none=>none
theorem Hr:mSq a en S=kSq (a en S):=by
 unfold mSq
 cases a en S<;>rfl
theorem AD:kSq (some (.tup ds,S))=some (ds,S):=rfl
end
section
variable {ms:M (List D)} {en:En} {S:Sto}
def S9:Option (List D×Sto)->Option (D×Sto)
 |some (ds,S)=>(UC ds).map λss=>(.int ss.sum,S)
 |none=>none
theorem EQ:Al ms en S=S9 (ms en S):=by
 unfold Al
 cases ms en S<;>rfl
theorem Jj:∀(ss:List Int),UC (ss.map D.int)=some ss
 |[]=>rfl
 |b :: bs=>by
  show (UC (bs.map D.int)).map _=_
  rw [Jj bs];rfl
theorem Hw {ss:List Int}:S9 (some (ss.map D.int,S))=some (.int ss.sum,S):=by
 show (UC (ss.map D.int)).map _=_
 rw [Jj];rfl
end
section
variable {a b c:M D} {ms:M (List D)} {en:En} {S:Sto} {x y v:D} {ds:List D} {n:Nat}
def Gj (x:D):Option (D×Sto)->Option (ItD×Sto)
 |some (y,S)=>match x,y with
  | .int i,.int j=>if -(2 ^ 62)≤i/\i<2 ^ 62/\-(2 ^ 62)≤j/\j<2 ^ 62 then some ((YF i (j-i).toNat,.no),S) else none
  |_,_=>none
 |none=>none
def AV (b:M D)(en:En):Option (D×Sto)->Option (ItD×Sto)
 |some (x,S)=>Gj x (b en S)
 |none=>none
theorem P6:Tb a b en S=AV b en (a en S):=by
 unfold Tb
 cases a en S with
 |none=>rfl
 |some p=>
  obtain⟨d,S1⟩:=p
  show ((b en S1).bind _)=Gj d (b en S1)
  cases b en S1 with
  |none=>rfl
  |some q=>rfl
theorem Rw {d:D}:AV b en (some (d,S))=Gj d (b en S):=rfl
theorem Me {i j:Int}(h : -(2 ^ 62)≤i/\i<2 ^ 62/\-(2 ^ 62)≤j/\j<2 ^ 62):Gj (.int i) (some (.int j,S))=some ((YF i (j-i).toNat,.no),S):=if_pos h
def Sg:Option (D×Sto)->Option (ItD×Sto)
 |some (.int j,S)=>if -(2 ^ 62)≤j/\j<2 ^ 62 then some ((Kw j.toNat,.no),S) else none
 |_=>none
theorem EU:An a en S=Sg (a en S):=by
 unfold An
 cases a en S with
 |none=>rfl
 |some p=>obtain⟨d,s⟩:=p;cases d<;>rfl
theorem Hx {j:Int}(h : -(2 ^ 62)≤j/\j<2 ^ 62):Sg (some (.int j,S))=some ((Kw j.toNat,.no),S):=if_pos h
def Gm (y:Str):Option (D×Sto)->Option (D×Sto)
 |some (.str z,S)=>some (.int (Txt.find y z),S)
 |_=>none
def E6 (b:M D)(en:En):Option (D×Sto)->Option (D×Sto)
 |some (.str y,S)=>Gm y (b en S)
 |_=>none
theorem Pi:N9 a b en S=E6 b en (a en S):=by
 unfold N9
 cases a en S with
 |none=>rfl
 |some p=>
  obtain⟨d,S1⟩:=p
  cases d with
  |str y=>
   show ((b en S1).bind _)=Gm y (b en S1)
   cases b en S1 with
   |none=>rfl
   |some q=>obtain⟨d2,S2⟩:=q;cases d2<;>rfl
  |_=>rfl
theorem RK {y:Str}:E6 b en (some (.str y,S))=Gm y (b en S):=rfl
theorem NC {y z:Str}:Gm y (some (.str z,S))=some (.int (Txt.find y z),S):=rfl
def K6:Option (List D×Sto)->Option (D×Sto)
 |some (ds,S)=>if JV ds=true then some (JW ds,S) else none
 |none=>none
theorem NX:Qv ms en S=K6 (ms en S):=by
 unfold Qv
 cases ms en S<;>rfl
theorem Pq (h:JV ds=true):K6 (some (ds,S))=some (JW ds,S):=if_pos h
end
end DL
namespace DL
open PySem L2
theorem EVS:type_of% (Ua @Kd (Ua @K3 (Ua @G9 (Ua @Gb (Ua @Ga (Ua @Sv (Ua @Sz (Ua @Sy (Ua @Ke (Ua @Lw (Ua @RN (Ua @Sx (Ua @C5 (Ua @C4 (Ua @EV (Ua @AH (Ua @P7 (Ua @NY (Ua @ND (Ua @C3 (Ua @AL (Ua @EM (Ua @HV (Ua @C7 (Ua @Hs (Ua @Lv (Ua @AI (Ua @e_T (Ua @k_T (Ua @Cd (Ua @RP (Ua @C9 (Ua @Su (Ua @EW (Ua @AQ (Ua @HW (Ua @AJ (Ua @RZ (Ua @EL (Ua @RY (Ua @Rj (Ua @AB (Ua @Ri (Ua @Nk (Ua @Sw (Ua @HX (Ua @M0 (Ua @AO (Ua @AN (Ua @AM (Ua @EX (Ua @Pj (Ua @RL (Ua @NE (Ua @Pl (Ua @RM (Ua @EO (Ua @EY (Ua @ES (Ua @Gc (Ua @Ge (Ua @EZ (Ua @RI (Ua @C0 (Ua @Cc (Ua @C8 (Ua @Pd (Ua @Uu (Ua @Nv (Ua @Nw (Ua @ET (Ua @C6 (Ua @NA (Ua @Gf (Ua @NB (Ua @Pk (Ua @Gh (Ua @Uz (Ua @Nz (Ua @Gg (Ua @Gi (Ua @Pa (Ua @RJ (Ua @Pb (Ua @Nu (Ua @Ss (Ua @AG (Ua @AF (Ua @AE (Ua @P8 (Ua @Rx (Ua @Gx (Ua @P4 (Ua @RX (Ua @RU (Ua @Er (Ua @Es (Ua @Ez (Ua @EA (Ua @EC (Ua @EB (Ua @ED (Ua @El (Ua @Ek (Ua @UF (Ua @RV (Ua @Ey (Ua @Ex (Ua @Ew (Ua @Ev (Ua @Eu (Ua @Et (Ua @Pg (Ua @Ph (Ua @Uw (Ua @Ux (Ua @Uy (Ua @Uv (Ua @Rv (Ua @RH (Ua @Ru (Ua @RG (Ua @Rt (Ua @RF (Ua @Rs (Ua @RE (Ua @Rr (Ua @RD (Ua @Rq (Ua @RC (Ua @Rp (Ua @RB (Ua @Ro (Ua @RA (Ua @Rn (Ua @Rz (Ua @Rm (Ua @Ry (Ua @No (Ua @Nr (Ua @Nn (Ua @Nq (Ua @Nm (Ua @Np (Ua @SH (Ua @SJ (Ua @SG (Ua @SK (Ua @KM (Ua @KL (Ua @R9 (Ua @R7 (Ua @R8 (Ua @KQ (Ua @KP (Ua @Rg (Ua @Re (Ua @Rf (Ua @G6 (Ua @G5 (Ua @Ra (Ua @Rc (Ua @Rb (Ua @KO (Ua @KN (Ua @KW (Ua @KY (Ua @KR (Ua @KU (Ua @KZ (Ua @R6 (Ua @LX (Ua @RO (Ua @P0 (Ua @Nl (Ua @Th (Ua @P3 (Ua @Rl (Ua @P9 (Ua @NZ (Ua @Pe (Ua @EK (Ua @AA (Ua @Rh (Ua @EN (Ua @AC (Ua @Rk (Ua @Pf (Ua @Nx (Ua @Ny (Ua @ER (Ua @P5 (Ua @Hr (Ua @AD (Ua @EQ (Ua @P6 (Ua @Rw (Ua @EU (Ua @Pi (Ua @RK (Ua @NC (Ua @NX (Ua @Ub (Ua @and_true (Ua @true_and (Ua @decide_true (Ua @decide_false (Ua @Bool.not_true (Ua @Bool.not_false (Ua @Bool.false_eq_true (Ua @Nat.add_zero (Ua @Nat.zero_add @Nat.sub_zero)))))))))))))))))))))))))))))))))))))))))))))))))))))))))))))))))))))))))))))))))))))))))))))))))))))))))))))))))))))))))))))))))))))))))))))))))))))))))))))))))))))))))))))))))))))))))))))))))))))))))))))))))))):=(Ua @Kd (Ua @K3 (Ua @G9 (Ua @Gb (Ua @Ga (Ua @Sv (Ua @Sz (Ua @Sy (Ua @Ke (Ua @Lw (Ua @RN (Ua @Sx (Ua @C5 (Ua @C4 (Ua @EV (Ua @AH (Ua @P7 (Ua @NY (Ua @ND (Ua @C3 (Ua @AL (Ua @EM (Ua @HV (Ua @C7 (Ua @Hs (Ua @Lv (Ua @AI (Ua @e_T (Ua @k_T (Ua @Cd (Ua @RP (Ua @C9 (Ua @Su (Ua @EW (Ua @AQ (Ua @HW (Ua @AJ (Ua @RZ (Ua @EL (Ua @RY (Ua @Rj (Ua @AB (Ua @Ri (Ua @Nk (Ua @Sw (Ua @HX (Ua @M0 (Ua @AO (Ua @AN (Ua @AM (Ua @EX (Ua @Pj (Ua @RL (Ua @NE (Ua @Pl (Ua @RM (Ua @EO (Ua @EY (Ua @ES (Ua @Gc (Ua @Ge (Ua @EZ (Ua @RI (Ua @C0 (Ua @Cc (Ua @C8 (Ua @Pd (Ua @Uu (Ua @Nv (Ua @Nw (Ua @ET (Ua @C6 (Ua @NA (Ua @Gf (Ua @NB (Ua @Pk (Ua @Gh (Ua @Uz (Ua @Nz (Ua @Gg (Ua @Gi (Ua @Pa (Ua @RJ (Ua @Pb (Ua @Nu (Ua @Ss (Ua @AG (Ua @AF (Ua @AE (Ua @P8 (Ua @Rx (Ua @Gx (Ua @P4 (Ua @RX (Ua @RU (Ua @Er (Ua @Es (Ua @Ez (Ua @EA (Ua @EC (Ua @EB (Ua @ED (Ua @El (Ua @Ek (Ua @UF (Ua @RV (Ua @Ey (Ua @Ex (Ua @Ew (Ua @Ev (Ua @Eu (Ua @Et (Ua @Pg (Ua @Ph (Ua @Uw (Ua @Ux (Ua @Uy (Ua @Uv (Ua @Rv (Ua @RH (Ua @Ru (Ua @RG (Ua @Rt (Ua @RF (Ua @Rs (Ua @RE (Ua @Rr (Ua @RD (Ua @Rq (Ua @RC (Ua @Rp (Ua @RB (Ua @Ro (Ua @RA (Ua @Rn (Ua @Rz (Ua @Rm (Ua @Ry (Ua @No (Ua @Nr (Ua @Nn (Ua @Nq (Ua @Nm (Ua @Np (Ua @SH (Ua @SJ (Ua @SG (Ua @SK (Ua @KM (Ua @KL (Ua @R9 (Ua @R7 (Ua @R8 (Ua @KQ (Ua @KP (Ua @Rg (Ua @Re (Ua @Rf (Ua @G6 (Ua @G5 (Ua @Ra (Ua @Rc (Ua @Rb (Ua @KO (Ua @KN (Ua @KW (Ua @KY (Ua @KR (Ua @KU (Ua @KZ (Ua @R6 (Ua @LX (Ua @RO (Ua @P0 (Ua @Nl (Ua @Th (Ua @P3 (Ua @Rl (Ua @P9 (Ua @NZ (Ua @Pe (Ua @EK (Ua @AA (Ua @Rh (Ua @EN (Ua @AC (Ua @Rk (Ua @Pf (Ua @Nx (Ua @Ny (Ua @ER (Ua @P5 (Ua @Hr (Ua @AD (Ua @EQ (Ua @P6 (Ua @Rw (Ua @EU (Ua @Pi (Ua @RK (Ua @NC (Ua @NX (Ua @Ub (Ua @and_true (Ua @true_and (Ua @decide_true (Ua @decide_false (Ua @Bool.not_true (Ua @Bool.not_false (Ua @Bool.false_eq_true (Ua @Nat.add_zero (Ua @Nat.zero_add @Nat.sub_zero))))))))))))))))))))))))))))))))))))))))))))))))))))))))))))))))))))))))))))))))))))))))))))))))))))))))))))))))))))))))))))))))))))))))))))))))))))))))))))))))))))))))))))))))))))))))))))))))))))))))))))))))))))
end DL
namespace DL
open PySem L2
section
variable {α:Type} {ds0:List D} {gd:Gd} {cap:En} {g:D->En->Option En} {c:M Bool} {m:M D} {S:Sto}
theorem GA (xs:List α)(enc:α->D)(p:α->Bool)(f:α->D)(hg:TF gd ds0 S)(hl:xs.length≤Wc)(h:∀a∈xs,∃en,g (enc a) cap=some en/\c en S=some (p a,S)/\(p a=true->m en S=some (f a,S))) :
  Zt ds0 gd cap g c m (xs.map enc) [] S=some ((xs.filter p).map f,S):=by
 have key:∀(l:List α) (acc:List D),acc.length+l.length≤Wc->(∀a∈l,∃en,g (enc a) cap=some en/\c en S=some (p a,S)/\(p a=true->m en S=some (f a,S)))->
   Zt ds0 gd cap g c m (l.map enc) acc S=some (acc++(l.filter p).map f,S):=by
  intro l
  induction l with
  |nil=>
   intro acc hl _
   unfold Zt
   simp only [Wd]
   rw [if_pos ⟨hg,by simpa using hl⟩]
   simp
  |cons a l ih=>
   intro acc hl h
   obtain⟨en,h1,h2,h3⟩:=h a WR
   rw [V2] at hl
   rw [W1]
   unfold Zt
   rw [if_pos ⟨hg,by omega⟩,h1,WG,h2,WG]
   dsimp only
   cases hp:p a with
   |true=>
    rw [if_pos rfl,h3 hp,WG,ih (acc++[f a]) (by rw [Wo,W0A];omega) λd' hd'=>h d' (WS _ hd')]
    rw [List.filter_cons_of_pos hp,W1,WX]
    rfl
   |false=>
    rw [if_neg WC,ih acc (by omega) λd' hd'=>h d' (WS _ hd')]
    rw [List.filter_cons_of_neg (by simp [hp])]
 simpa using key xs [] (by simpa using hl) h
theorem ZW (xs:List α)(enc:α->D)(f:α->D)(hg:TF gd ds0 S)(hl:xs.length≤Wc)(h:∀a∈xs,∃en,g (enc a) cap=some en/\m en S=some (f a,S)) :
  Zt ds0 gd cap g ZS m (xs.map enc) [] S=some (xs.map f,S):=by
 have:=GA (c:=ZS) xs enc (λ_=>true) f hg hl (λa ha=>by
  obtain⟨en,h1,h2⟩:=h a ha
  exact⟨en,h1,rfl,λ_=>h2⟩)
 rw [List.filter_eq_self.mpr λ_ _=>rfl] at this
 exact this
theorem Y0 {ds:List D}{S:Sto}:TF .no ds S:=trivial
theorem Yy (n:Nat):YF 0 n=(Wr n).map λi=>D.int (i:Nat):=by
 unfold YF
 simp
theorem YN {body:MS}(xs:List α)(enc:α->D)(P:List α->En->Sto->Prop)(h:∀pre a post en S,xs=pre++a :: post->P pre en S->∃en1,g (enc a) en=some en1/\∃en2 S2,body en1 S=some (.nx,en2,S2)/\P (pre++[a]) en2 S2)
  (hg:∀pre en S,P pre en S->TF gd ds0 S) {en:En} {S:Sto} (h0:P [] en S):∃en' S',Yd ds0 gd g body (xs.map enc) en S=some (.nx,en',S')/\P xs en' S':=by
 have key:∀(post pre:List α) en S,xs=pre++post->P pre en S->∃en' S',Yd ds0 gd g body (post.map enc) en S=some (.nx,en',S')/\P xs en' S':=by
  intro post
  induction post with
  |nil=>
   intro pre en S e hp
   unfold Yd
   simp only [Wd]
   rw [if_pos (hg pre en S hp)]
   rw [Vt] at e
   exact⟨en,S,rfl,e ▸ hp⟩
  |cons a post ih=>
   intro pre en S e hp
   obtain⟨en1,h1,en2,S2,h2,h3⟩:=h pre a post en S e hp
   rw [W1]
   unfold Yd
   rw [if_pos (hg pre en S hp),h1,WG,h2,WG]
   exact ih (pre++[a]) en2 S2 (by rw [e,WX];rfl) h3
 exact key xs [] en S rfl h0
end
theorem Tx (l:List Nat):cs ⟨l.toArray⟩=l:=by simp [cs]
theorem Ah (x:Str):(⟨(cs x).toArray⟩:Str)=x:=by cases x;simp [cs]
theorem Qq {x y:Str}(h:cs x=cs y):x=y:=by rw [←Ah x,←Ah y,h]
end DL
namespace L2
open PySem PySem.Spec PyProof.Rows
section
variable {prog:Program} {w:World} {A:Around} {E:Value->Shared->Prop} {s:Shared}
theorem B8 (n:Nat):Vn none none (-1) (n:Int)=((n:Int)-1,-1):=by
 unfold Vn
 simp
theorem GO (n:Nat):V5 ((n:Int)-1) (-1) (-1)=n:=by
 unfold V5
 rw [if_neg (by decide)]
 split
 ·rw [show (-(-1):Int)=1 from rfl,Int.ediv_one];omega
 ·simp;omega
theorem QL {sl:Addr}{vk:Value}{n:Nat}{Q:Int×Int×Nat->Shared->Prop}(hs:s.heap.IsSliceOf sl .none .none vk)(pk:IsPart vk (some (-1)))
  (h:Q ((n:Int)-1,-1,n) s):wpAny (model prog w) A (VL (.ref sl) (pure (n:Int))) Q E s:=by
 obtain⟨os,hos,hcs,hds⟩:=id hs
 unfold VL W10
 refine W2 (W2 (Ve hos hds (x:=.none) rfl (W2 (Ve hos hds (x:=.none) rfl (W2 (Ve hos hds (x:=vk) rfl (Wk ?_)))))))
 refine W2 (HT.slicePart_ pk ?_)
 show wpAny _ _ (if ((-1:Int) == 0)=true then _ else _) _ _ s
 rw [if_neg (by decide)]
 refine W2 (HT.slicePart_ .none (W2 (HT.slicePart_ .none (W2 (Wk ?_)))))
 show wpAny _ _ (match Vn none none (-1) (n:Int) with|(lo,hi)=>pure (lo,(-1:Int),V5 lo hi (-1))) _ _ s
 rw [B8 n]
 show wpAny _ _ (pure ((n:Int)-1,(-1:Int),V5 ((n:Int)-1) (-1) (-1))) _ _ s
 rw [GO]
 exact Wk h
theorem Gv {α β:Type}{f g:α->Option β}:∀{l:List α},(∀a∈l,f a=g a)->l.filterMap f=l.filterMap g
 |[],_=>rfl
 |a :: l,h=>by
  rw [VV,VV,h a WR,Gv λb hb=>h b (WS _ hb)]
theorem MJ (xs:Array Value):((Wr xs.size).filterMap λ(m:Nat)=>xs[(((xs.size:Int)-1)+(m:Int)*(-1)).toNat]?).toArray=xs.toList.reverse.toArray:=by
 congr 1
 have e:(Wr xs.size).filterMap (λ(m:Nat)=>xs[(((xs.size:Int)-1)+(m:Int)*(-1)).toNat]?)=(Wr xs.toList.reverse.toArray.size).filterMap (xs.toList.reverse.toArray[·]?):=by
  have hl:xs.toList.reverse.toArray.size=xs.size:=by simp
  rw [hl]
  refine Gv λm hm=>?_
  have hm':m<xs.size:=by simpa using hm
  have e1:(((xs.size:Int)-1)+(m:Int)*(-1)).toNat=xs.size-1-m:=by omega
  have e2:xs.toList.reverse.toArray[m]? = xs.toList.reverse[m]?:=by simp
  have e3:xs.toList.reverse[m]? = xs.toList[xs.toList.length-1-m]?:=List.getElem?_reverse (by rw [VF];exact hm')
  show xs[(((xs.size:Int)-1)+(m:Int)*(-1)).toNat]? = xs.toList.reverse.toArray[m]?
  rw [e1,e2,e3,VF,W0B]
 rw [e,PySem.W.krv_all]
theorem QD {t sl:Addr}{items:Array Value}{vk:Value}{Q:Value->Shared->Prop}(ht:IsTup s.heap t items)(hs:s.heap.IsSliceOf sl .none .none vk)(pk:IsPart vk (some (-1)))
  (h:Q (.ref s.heap.objs.size) { s with heap:=s.heap.push { cls:=.type "tuple",data:=.seq items.toList.reverse.toArray } })
  (hsz:items.size≤Wc):wpAny (model prog w) A (getItem (.ref t) (.ref sl)) Q E s:=by
 have htake:sizeOk (.seq items.toList.reverse.toArray):=by
  show items.toList.reverse.toArray.size≤Wc
  simpa using hsz
 obtain⟨os,hos,hcs,hds⟩:=id hs
 have hTs:s.TypeIs (.ref sl) "slice":=⟨os,hos,hcs⟩
 unfold getItem
 try with_reducible refine VO ?_
 first|refine W2 (Wk ?_)|skip
 refine W2 (W18 ht.typeIs (by decide) ?_)
 refine W2 (V9 (name:=Wm "__getitem__") ht.typeIs WK
  (VN WK ht.typeIs PyProof.Rows.entry_tuple_getitem ?_ (PyProof.Rows.args_tuple_getitem _ _)))
 show wpAny _ _ (W0a (.ref t) >>= _) _ _ s
 refine W2 (tupleItemsOf_ ht ?_)
 refine W2 (wpAny_typeOf hTs ?_)
 rw [if_pos (by decide)]
 refine W2 (QL hs pk ?_)
 have hno:¬((((items.size:Int)-1) == 0&&(-1:Int) == 1&&items.size == items.size)=true):=by
  intro q
  rw [WA,WA] at q
  exact absurd q.1.2 (by decide)
 show wpAny _ _ (if (((items.size:Int)-1) == 0&&(-1:Int) == 1&&items.size == items.size)=true then _ else _) _ _ s
 rw [if_neg hno,MJ]
 first
  |exact W2 (m:=V6 _) (V7 (Wk ⟨_,rfl,Wk h⟩) htake)
  |exact W2 (m:=V6 _) (V7 (W2 (Wk (Wk ⟨_,rfl,Wk h⟩))) htake)
  |exact W2 (W2 (m:=V6 _) (V7 (Wk (Wk ⟨_,rfl,Wk h⟩)) htake))
  |exact W2 (W2 (m:=V6 _) (V7 (Wk ⟨_,rfl,Wk h⟩) htake))
end
theorem Zy.rev {xs:List V}{us:List Value}(r:Zy xs us):Zy xs.reverse us.reverse:=by
 induction r with
 |nil=>exact .nil
 |cons r1 r2 ih=>
  rw [W0x,W0x]
  exact ih.append (.cons r1 .nil)
section
variable {X:Cx} {e st:Expr} {te:TE} {tk:TO} {pos p2:Pos}
def SY (K:W3)(te:TE)(tk:TO):TE:=λσ H Q=>te σ H λx H1=>tk σ H1 λo H2=>o=some (-1)/\∃a xs,x = .ref a/\
 ((SqL K H2 a xs/\∀p,H2 p=none->Q (.ref p) (upd H2 p (.lst xs.reverse)))\/(SqT K H2 a xs/\∀p,H2 p=none->Q (.ref p) (upd H2 p (.tup xs.reverse))))
theorem A3 (he:PE X e te)(hk:PO X (some st) tk):PE X (.Subscript e (.Slice none none (some st) p2) pos) (SY X.K te tk):=by
 intro pins s σ H Q I h
 refine Subscript_ (thn (he pins s σ H _ I h) λv s1 ⟨x,H1,I1,r1,q1⟩=>?_)
 refine wpAny_Slice ?_
 rw [evalPart_none]
 refine Wk (Wk (thn (hk pins s1 σ H1 _ I1 q1) λvk s3 ⟨o,H3,I3,pk,q3⟩=>?_))
 obtain⟨rfl,a,xs,rfl,q3⟩:=q3
 cases r1
 have I4:Inv X pins σ H3 { s3 with heap:=s3.heap.push { cls:=.type "slice",data:=.fields #[.none,.none,vk] } }:=I3.kept (t':=s3.toks) λb ob q=>W7 _ q
 show wpAny (model X.prog X.w) X.A (subscriptTail e (.Slice none none (some st) p2) (.ref a) (.ref s3.heap.objs.size)) (EP X pins σ Q) X.xe { s3 with heap:=s3.heap.push { cls:=.type "slice",data:=.fields #[.none,.none,vk] } }
 rcases q3 with ⟨hx,q⟩|⟨hx,q⟩
 ·obtain⟨its,r,ht,hz⟩:=I4.list hx
  have hlen:=r.length
  refine tail_any (ops:=[.ref a,.ref s3.heap.objs.size]) ht.isList.typeIs slot_list_getitem.lookup ?_ (by with_unfolding_all rfl)
  refine wpAny_getItem_list_slice ht.isList (W0Y ..) .none .none pk (by decide) ?_ (by rw [Wf]<;>omega)
  rw [PySem.W.krv_pick]
  refine⟨.ref _,_,I4.laid (t':=s3.toks) (o:=.lst xs.reverse) (λb ob q=>W7 _ q) (Wp _) ?_,rfl,q _ (I4.hok.fresh (Wp _))⟩
  exact⟨by rw [VI];exact hz,_,0,r.rev,Wv _ rfl⟩
 ·obtain⟨its,r,ht,hz⟩:=I4.tuple hx
  have hlen:its.toArray.size=xs.length:=by rw [Wf];exact r.length.symm
  refine tail_any (ops:=[.ref a,.ref s3.heap.objs.size]) ht.typeIs WK.lookup ?_ (by with_unfolding_all rfl)
  refine QD ht (W0Y ..) pk ?_ (by rw [hlen];exact hz)
  refine⟨.ref _,_,I4.laid (t':=s3.toks) (o:=.tup xs.reverse) (λb ob q=>W7 _ q) (Wp _) ?_,rfl,q _ (I4.hok.fresh (Wp _))⟩
  exact⟨by rw [VI];exact hz,_,r.rev,Pr.new _ _⟩
end
end L2
namespace DL
open PySem L2 PySem.Spec PyProof.Rows
section
variable {X:Cx} {e a b st:Expr} {pos:Pos}
theorem DsR.rev {K:W3}{ρ:List Addr}{H:Hp}:∀{ds:List D} {xs:List V},DsR K ρ H ds xs->DsR K ρ H ds.reverse xs.reverse
 |[],xs,h=>by unfold DsR at h;subst h;exact .nil
 |d :: ds,xs,h=>by
  unfold DsR at h
  obtain⟨x,r,rfl,h1,h2⟩:=h
  rw [W0x,W0x]
  exact (DsR.rev h2).append (.cons h1 .nil)
def ME:D->Sto->Option (D×Sto)
 | .tup ds,S=>some (.tup ds.reverse,S)
 | .ref n,S=>match S[n]? with|some (.lst ds)=>some (.ref S.length,S++[.lst ds.reverse])|_=>none
 |_,_=>none
def Up (m:M D)(mk:M (Option Int)):M D:=λen S=>(m en S).bind λp=>(mk en p.2).bind λl=>if l.1=some (-1) then ME p.1 l.2 else none
theorem BD {p2:Pos}{m:M D}{mk:M (Option Int)}(he:SE X e m)(hk:SO X (some st) mk):SE X (.Subscript e (.Slice none none (some st) p2) pos) (Up m mk):=by
 refine Zm (A3 he hk) ?_
 rintro σ H Q ⟨ρ,en,S,v,S',E,R,e,k⟩
 unfold Up at e
 obtain⟨⟨d,S1⟩,e1,e⟩:=W0.mp e
 obtain⟨⟨o,S2⟩,e2,e⟩:=W0.mp e
 dsimp only at e
 split at e
 ·rename_i ho
  subst ho
  refine⟨ρ,en,S,d,S1,E,R,e1,λx ρ1 H1 X1 R1 d1=>⟨ρ1,en,S1,some (-1),S2,E.up X1,R1,e2,λρ2 H2 X2 R2=>⟨rfl,?_⟩⟩⟩
  have d2:=d1.up X2
  have XX:=X1.trans X2
  cases d with
  |tup ds=>
   cases e
   obtain⟨a,xs,rfl,a1,a2⟩:=d2.of_tup
   exact⟨a,xs,rfl,.inr ⟨.of a1,λq hq=>k _ ρ2 _ (XX.trans (Ext.new hq)) (R2.new hq) (.tup Z5 (a2.rev.up (Ext.new hq)))⟩⟩
  |ref n=>
   obtain⟨a,a1,rfl⟩:=d2.of_ref
   dsimp only [ME] at e
   split at e
   ·rename_i ds hn
    cases e
    obtain⟨xs,h1,h2⟩:=YM R2 a1 hn
    refine⟨a,xs,rfl,.inl ⟨.of h1,λq hq=>?_⟩⟩
    have d3:DR X.K (ρ2++[q]) (upd H2 q (.lst xs.reverse)) (.ref S2.length) (.ref q):=.ref (by rw [←R2.len];simp)
    exact k _ (ρ2++[q]) _ (XX.trans (Ext.newRef hq)) (R2.push hq ⟨_,Z5,h2.rev.up (Ext.newRef hq)⟩) d3
   ·cases e
  |_=>cases e
 ·cases e
end
end DL
namespace DL
open PySem L2 PySem.Spec PyProof.Rows
section
variable {X:Cx} {a b:Expr} {pos:Pos}
def isK (k:Int):Value->Bool
 | .int i _=>decide (i=k)
 |_=>false
theorem MR (hu:X.A.units+64<cLine):MtR X "list.index" (λx xs H Q=>∃(l:Addr) (ss:List Int) (k:Int),x = .ref l/\xs=[.int k]/\SqL X.K H l (ss.map V.int)/\k∈ss/\ss.length<1000000/\Q (.int ((ss.idxOf k:Nat):Int)) H):=by
 intro pins s σ H x xs v us Q I rx rs h
 obtain⟨l,ss,k,rfl,rfl,hq,hk,hz,q⟩:=h
 cases rx
 obtain⟨u,rfl,ru⟩:=Qb rs
 obtain⟨t,rfl⟩:=ru
 obtain⟨its,rv,p,_⟩:=I.list hq
 have hL:=p.isList
 obtain⟨⟨cls,dd,data,sl⟩,ho,hc,n,hd⟩:=id hL
 simp only at hc hd
 subst hc hd
 have hlen:its.length=ss.length:=by rw [←rv.length,Wg]
 have hj:ss.idxOf k<ss.length:=W1b.mpr hk
 have at_:∀i (hi:i<its.toArray.size),∃tk,its.toArray[i] = .int (ss.getD i default) tk:=λi hi=>by
  have hi':i<its.length:=by simpa using hi
  obtain⟨tk,e⟩:=QV rv i its[i] (Wu hi')
  exact⟨tk,by simpa using e⟩
 have hjz:ss.idxOf k<its.toArray.size:=by rw [Wf,hlen];exact hj
 have gd:∀i (hi:i<ss.length),ss.getD i default=ss[i]:=λi hi=>by simp [V8,hi]
 refine call_meets PySem.F.slot_list_index hL.typeIs PySem.F.entry_list_index (PySem.F.args_list_index_2 _ _) (PySem.SeqAt.list_indexAt l its.toArray n dd sl (.int k t) (isK k) (ss.idxOf k) hjz (by omega) ?_ ?_) ⟨ho,?_,?_⟩
 ·obtain⟨tk,e⟩:=at_ _ hjz
  rw [e,gd _ hj]
  exact decide_eq_true (List.getElem_idxOf hj)
 ·intro m hm hlt
  obtain⟨tk,e⟩:=at_ m hm
  have hm':m<ss.length:=by omega
  rw [e,gd _ hm']
  refine decide_eq_false λz=>?_
  have:=List.not_of_lt_findIdx (p:=(· == k)) (xs:=ss) (i:=m) hlt
  simp [z] at this
 ·intro y hy
  obtain⟨i,hi,rfl⟩:=W0E.mp (show y∈its by simpa using hy)
  obtain⟨tk,e⟩:=at_ i (by simpa using hi)
  have e':its[i] = .int (ss.getD i default) tk:=by simpa using e
  rw [e']
  have h0:=Jk (X:=X) (ρ:=[]) I 0 (A:=X.A.in1) (d1:=.int (ss.getD i default)) (d2:=.int k) (u:=.int (ss.getD i default) tk) (v:=.int k t) (by rw [ZV];omega) rfl rfl .flat_int .flat_int ⟨tk,rfl⟩ ⟨t,rfl⟩
  have e2:eqD (.int (ss.getD i default)) (.int k)=isK k (.int (ss.getD i default) tk):=by
   unfold eqD isK
   dsimp only
   exact Q9 _ _
  rw [e2] at h0
  exact h0
 ·exact⟨.int _,H,I.tok _,⟨_,rfl⟩,q⟩
def QJ (ma mb:M D):M D:=λen S=>(ma en S).bind λp=>(mb en p.2).bind λq=>match p.1,q.1 with
 | .ref n,.int k=>match p.2[n]?,q.2[n]? with
  |some (.lst _),some (.lst ds)=>(UC ds).bind λss=>if k∈ss/\ss.length<1000000 then some (.int ((ss.idxOf k:Nat):Int),q.2) else none
  |_,_=>none
 |_,_=>none
theorem QS {p:Pos}{ma mb:M D}(hu:X.A.units+64<cLine)(ha:SE X a ma)(hb:SE X b mb)(hs:Wn [b] X.env=(false,eval b X.env) :: Wn [] X.env:=by rfl)
  (hbase:attributeBase a ("index" : Str) X.env (eval a X.env)=eval a X.env:=by rfl)
  (hfew:((backTo pos (Wn [b] X.env)).all (λx=>!x.1)&&(backToKw pos (keywordEach [] X.env)).all (λx=>x.1.isSome)
   && decide ([b].length+([]:List Keyword).length+(if ([]:List Keyword).isEmpty then 0 else 1)<30))=true:=by rfl)
  (hline:(p.endLine == pos.line)=true:=by rfl) (hplain:(backTo pos (Wn [] X.env)).any (·.1)=false:=by rfl) :
  SE X (.Call (.Attribute a "index" p) [b] [] pos) (QJ ma mb):=by
 refine Zm (BV W0m PySem.F.slot_list_index PySem.F.type_list_index (MR hu) ha (Zf hb ZH hs) hbase hfew hline hs hplain) ?_
 rintro σ H Q ⟨ρ,en,S,v,S',E,R,e,k⟩
 unfold QJ at e
 obtain⟨⟨d,S1⟩,e1,e⟩:=W0.mp e
 obtain⟨⟨d2,S2⟩,e2,e⟩:=W0.mp e
 refine⟨ρ,en,S,d,S1,E,R,e1,λx ρ1 H1 X1 R1 d1=>?_⟩
 cases d with
 |ref n=>
  cases d2 with
  |int i=>
   dsimp only at e
   split at e
   ·rename_i ds0 ds hn0 hn
    obtain⟨ss,e3,e⟩:=W0.mp e
    split at e
    ·rename_i hk
     cases e
     obtain⟨l,a1,rfl⟩:=d1.of_ref
     obtain⟨xs0,hx0,_⟩:=YM R1 a1 hn0
     refine⟨.inl ⟨rfl,xs0,.of hx0⟩,ρ1,en,S1,.int i,_,E.up X1,R1,e2,λy ρ2 H2 X2 R2 dy=>?_⟩
     have a2:=X2.pre n l a1
     obtain⟨xs,h1,h2⟩:=YM R2 a2 hn
     refine⟨l,ss,i,rfl,by rw [dy.of_int],?_,hk.1,hk.2,k _ ρ2 H2 (X1.trans X2) R2 .flat_int⟩
     rw [←U0 h2 e3]
     exact .of h1
    ·cases e
   ·cases e
  |_=>cases e
 |_=>cases e
end
end DL
namespace K23
open PySem PySem.Spec PyProof.Rows L2 DL
def top (i:Nat):Stmt:=PySem.Challenge.pw_twinshelves_k23_best_old.main.body.getD i (.Pass ⟨0,0,0,0⟩)
abbrev Zi:Stmt:=top 2
abbrev Ya:Stmt:=top 3
abbrev Ze:Stmt:=top 4
abbrev ZR:Stmt:=top 5
abbrev ZK:Stmt:=top 6
abbrev Zd:Stmt:=top 7
abbrev Yp:Stmt:=top 8
abbrev ZM:Stmt:=top 9
abbrev Yq:Stmt:=top 11
abbrev Yg:Stmt:=top 12
abbrev Yb:Stmt:=top 13
abbrev Yc:Stmt:=top 14
abbrev ZN:Stmt:=top 15
abbrev Yx:Stmt:=top 16
abbrev ZU:Stmt:=top 17
abbrev QM:Stmt:=top 18
theorem nd0:(["piece"]:List Str).Nodup:=by decide +kernel
theorem nd1:(["parcel"]:List Str).Nodup:=by decide +kernel
theorem nd2:(["rest", "old", "beginnings", "news"]:List Str).Nodup:=by decide +kernel
theorem nd3:(["many", "rest"]:List Str).Nodup:=by decide +kernel
theorem nd4:(["signs"]:List Str).Nodup:=by decide +kernel
theorem nd5:(["signs", "old"]:List Str).Nodup:=by decide +kernel
theorem nd6:(["piece", "weighed"]:List Str).Nodup:=by decide +kernel
theorem nd7:(["text", "old", "least", "length", "pieces"]:List Str).Nodup:=by decide +kernel
theorem nd8:(["piece", "least", "length"]:List Str).Nodup:=by decide +kernel
theorem nd9:(["text", "old"]:List Str).Nodup:=by decide +kernel
theorem HQ:(["text", "olds", "weights"]:List Str).Nodup:=by decide +kernel
theorem IU:(["old", "text"]:List Str).Nodup:=by decide +kernel
theorem IS:(["_law_script", "_law_k"]:List Str).Nodup:=by decide +kernel
theorem IR:(["_law_cell_here", "_law_prime", "_law_many"]:List Str).Nodup:=by decide +kernel
theorem IQ:(["_law_found", "_law_due"]:List Str).Nodup:=by decide +kernel
theorem HN:(["_law_one", "_law_other"]:List Str).Nodup:=by decide +kernel
theorem HM:(["_law_cell_here", "_law_many", "_law_left"]:List Str).Nodup:=by decide +kernel
theorem IP:(["_law_k", "_law_cell_here", "_law_many", "_law_left"]:List Str).Nodup:=by decide +kernel
theorem KF:(["_law_cell_here", "_law_old_here", "_law_signs", "_law_text", "_law_k", "_law_begin", "_law_many"]:List Str).Nodup:=by decide +kernel
theorem IN:(["_law_j", "_law_cell_here", "_law_signs", "_law_k"]:List Str).Nodup:=by decide +kernel
theorem Cr:(["_law_cell_here", "_law_signs", "_law_many"]:List Str).Nodup:=by decide +kernel
theorem IM:(["_law_k", "_law_cell_here", "_law_signs"]:List Str).Nodup:=by decide +kernel
theorem Fc:(["_law_text", "_law_old_here", "_law_best", "_law_place", "_law_end", "_law_here"]:List Str).Nodup:=by decide +kernel
theorem IL:(["_law_k"]:List Str).Nodup:=by decide +kernel
theorem N0:(["_law_script", "_law_k", "_law_cell_here", "_law_base", "_law_text", "_law_some", "_law_olds", "_law_weights", "_law_due", "_law_more", "_law_back"]:List Str).Nodup:=by decide +kernel
theorem IK:(["_law_at", "_law_some"]:List Str).Nodup:=by decide +kernel
theorem IJ:(["_law_old_here", "_law_text"]:List Str).Nodup:=by decide +kernel
theorem Mi:Wz "all" = some (.builtin "all"):=by decide +kernel
theorem YW:Wz "bool" = some (.type "bool"):=by decide +kernel
theorem UR:Wz "int" = some (.type "int"):=by decide +kernel
theorem Zj:Wz "isinstance" = some (.builtin "isinstance"):=by decide +kernel
theorem Zs:Wz "len" = some (.builtin "len"):=by decide +kernel
theorem B7:Wz "list" = some (.type "list"):=by decide +kernel
theorem Yi:Wz "min" = some (.builtin "min"):=by decide +kernel
theorem JB:Wz "reversed" = some (.type "reversed"):=by decide +kernel
theorem Mh:Wz "str" = some (.type "str"):=by decide +kernel
theorem Mg:Wz "sum" = some (.builtin "sum"):=by decide +kernel
theorem Q8:Wz "tuple" = some (.type "tuple"):=by decide +kernel
theorem Mf:Wz "zip" = some (.type "zip"):=by decide +kernel
structure Txt (K:W3) (mg:Str->Option Value):Prop where
 n_all:mg "all" = none
 n_bool:mg "bool" = none
 n_int:mg "int" = none
 n_isinstance:mg "isinstance" = none
 n_len:mg "len" = none
 n_list:mg "list" = none
 n_min:mg "min" = none
 n_range:mg "range" = none
 n_reversed:mg "reversed" = none
 n_str:mg "str" = none
 n_sum:mg "sum" = none
 n_tuple:mg "tuple" = none
 n_zip:mg "zip" = none
 c_PIECE_WEIGHT:∃t,mg "PIECE_WEIGHT" = some (.int 2 t)
abbrev Jt:MS:=(Qm (mIf (mT (mOp gEq (mOp gIx (Z4 0) (Zk (D.int (0)))) (Zk (D.str (Wm "new"))))) (mOp Y1 (Zk (D.int 2)) (Jv (mOp gIx (Z4 0) (Zk (D.int (1)))))) (Zk (D.int 2))))
def Zx:List D->Sto->Option (D×Sto):=J6 1 1 Jt
def JL:M D:=(Zv Zx (Z3 (Z4 0) Y3))
abbrev MU:MS:=(Qm (Al (Ys (QP (Z4 0)) 1 [] (gN 0) ZS JL)))
def Qk:List D->Sto->Option (D×Sto):=J6 1 1 MU
def Y7:M D:=(mSl (Z4 1) Y4 (Yn (Z4 0)))
def Y6:M D:=(N6 (Z3 (Zk (D.str (Wm "new"))) (Z3 (Z4 0) Y3)))
def Y8:M Bool:=(mT (mOp gIn (Z4 0) (Z4 1)))
def Y5:M D:=(N6 (Z3 (Zk (D.str (Wm "keep"))) (Z3 (N9 (Z4 1) (Z4 0)) (Z3 (Jv (Z4 0)) Y3))))
abbrev Js:MS:=(Ym (YL (YK (Ys (Tb (Zk (D.int (1))) (mOp Y1 (Jv (Z4 0)) (Zk (D.int (1))))) 1 [0] (gN 0) ZS Y7)) (gN 2)) (Ym (YL (YK (Ys (QP (Z4 2)) 1 [] (gN 0) ZS Y6)) (gN 3)) (Qm (mOp Y1 (Z4 3) (YK (Ys (QP (Z4 2)) 1 [1] (gN 0) Y8 Y5))))))
def ZF:List D->Sto->Option (D×Sto):=J6 4 2 Js
abbrev GW:MS:=(Qm (mIf (mT (mOp gEq (mOp gIx (Z4 0) (Zk (D.int (0)))) (Zk (D.str (Wm "new"))))) (Jv (mOp gIx (Z4 0) (Zk (D.int (1))))) (mOp gIx (Z4 0) (Zk (D.int (2))))))
def Yv:List D->Sto->Option (D×Sto):=J6 1 1 GW
abbrev Ta:MS:=(Qm (N6 (Z3 (mOp Y1 (Zv Zx (Z3 (Z4 0) Y3)) (mOp gIx (Z4 1) (Zk (D.int (0))))) (Z3 (mOp Y1 (N6 (Z3 (Z4 0) Y3)) (mOp gIx (Z4 1) (Zk (D.int (1))))) Y3))))
def Yk:List D->Sto->Option (D×Sto):=J6 2 2 Ta
def ZI:M D:=(Zv Yk (Z3 (Z4 0) (Z3 (mOp gIx (Z4 1) (mOp Be (Z4 2) (Zv Yv (Z3 (Z4 0) Y3)))) Y3)))
def ZJ:MS:=(Ym (YL (Zv ZF (Z3 (mSl (Z4 0) (Yn (mOp Be (Jv (Z4 0)) (Z4 3))) Y4) (Z3 (Z4 1) Y3))) (gN 4)) (Td (Lq (Z4 2) (Qv (Ys (QP (Z4 4)) 1 [2,3] (gN 0) ZS ZI)))))
abbrev QO:MS:=(Ym (YL (Lp (Z3 (N6 (Z3 (Zk (D.int (0))) (Z3 (N6 Y3) Y3))) Y3)) (gN 2)) (Ym (MZ (Tb (Zk (D.int (1))) (mOp Y1 (Jv (Z4 0)) (Zk (D.int (1))))) (gN 3) ZJ) (Qm (mOp gIx (Z4 2) (Jv (Z4 0))))))
def Zh:List D->Sto->Option (D×Sto):=J6 5 2 QO
abbrev MV:MS:=(Qm (mOp gIx (Zv Zh (Z3 (Z4 0) (Z3 (Z4 1) Y3))) (Zk (D.int (1)))))
def Ql:List D->Sto->Option (D×Sto):=J6 2 2 MV
def YO:M D:=(mOp gIx (Zv Zh (Z3 (Z4 1) (Z3 (Z4 0) Y3))) (Zk (D.int (0))))
abbrev GX:MS:=(Ym (YL (YK (Ys (QP (Z4 1)) 1 [0] (gN 0) ZS YO)) (gN 2)) (Qm (QJ (Z4 2) (Qv (mSq (Z4 2))))))
def ZY:List D->Sto->Option (D×Sto):=J6 3 2 GX
abbrev MX:MS:=(Ym (G1 (mT (mOp gLt (Z4 1) (Jv (Z4 0)))) (Qm (mOp gIx (Z4 0) (Z4 1))) mNx) (Qm (Zk (D.int (0)))))
def ZZ:List D->Sto->Option (D×Sto):=J6 2 2 MX
abbrev Ln:MS:=(Qm (mOp Cs (mOp Cs (mOp Tn (Z4 0) (Zk (D.int (48271)))) (Z4 1)) (Z4 2)))
def ZE:List D->Sto->Option (D×Sto):=J6 3 3 Ln
abbrev YA (Fr:List D->Sto->Option (D×Sto)):MS:=(Ym (G1 (Bd (Mp "tuple" (Z4 1))) (Ym (G1 (mOr (MY (Bd (Mp "tuple" (Z4 0)))) (mT (mOp gNe (Jv (Z4 0)) (Jv (Z4 1))))) (Qm (Zk (D.bl false))) mNx) (Qm (Ao (Ys (Aj (Z4 0) (Z4 1)) 2 [] (gT 2 (Gt (gN 0) (Gt (gN 1) LS))) ZS (Zv Fr (Z3 (Z4 0) (Z3 (Z4 1) Y3))))))) mNx) (Ym (G1 (mT (mOp gIs (Z4 1) (Zk D.non))) (Qm (mOp gIs (Z4 0) (Zk D.non))) mNx) (Ym (G1 (mOr (Bd (Mp "bool" (Z4 1))) (Bd (Mp "bool" (Z4 0)))) (Qm (Pt (Mp "bool" (Z4 1)) (Pt (Mp "bool" (Z4 0)) (mOp gEq (Z4 0) (Z4 1))))) mNx) (Qm (Pt (N7 "int" "str" (Z4 0)) (mOp gEq (Z4 0) (Z4 1)))))))
def ZP:Nat->List D->Sto->Option (D×Sto)
 |0=>λ_ _=>none
 |k+1=>J6 2 2 (YA (ZP k))
def YV:M D:=(Uq (Z4 3) (Zv ZE (Z3 (mOp Y1 (Z4 1) (mOp Tn (Zk (D.int (5))) (Z4 0))) (Z3 (Zk (D.int (9967))) (Z3 (mOp Be (Z4 2) (Z4 0)) Y3)))))
abbrev MW:MS:=(Ym (YL (YK (Qw (Z4 1))) (gN 2)) (Qm (YK (Ys (Ju (Z4 1)) 1 [0,1,2] (gN 0) ZS YV))))
def YX:List D->Sto->Option (D×Sto):=J6 3 2 MW
def YQ:M D:=(mOp gIx (Z4 2) (Zv ZE (Z3 (mOp Y1 (mOp Y1 (Z4 1) (mOp Tn (Zk (D.int (3))) (Z4 3))) (Z4 0)) (Z3 (Zk (D.int (9787))) (Z3 (Zk (D.int (5))) Y3)))))
def Yr:MS:=(Ym (YL (Zv ZE (Z3 (mOp Y1 (Z4 0) (mOp Tn (Zk (D.int (7))) (Z4 4))) (Z3 (Zk (D.int (9803))) (Z3 (mOp Y1 (Jv (Z4 1)) (Zk (D.int (1)))) Y3)))) (gN 5)) (Ym (YL (mOp Y1 (Z4 3) (mSl (Z4 1) (Yn (Z4 5)) (Yn (mOp Y1 (Z4 5) (Zv ZE (Z3 (mOp Y1 (Z4 0) (mOp Tn (Zk (D.int (11))) (Z4 4))) (Z3 (Zk (D.int (9791))) (Z3 (Zk (D.int (9))) Y3)))))))) (gN 3)) (Ym (YL (Zv ZE (Z3 (mOp Y1 (Z4 0) (mOp Tn (Zk (D.int (5))) (Z4 4))) (Z3 (Zk (D.int (9781))) (Z3 (Zk (D.int (4))) Y3)))) (gN 6)) (YL (mOp Y1 (Z4 3) (Tc (Zk (D.str (Wm ""))) (Ys (Ju (Z4 6)) 1 [0,2,4] (gN 0) ZS YQ))) (gN 3)))))
abbrev GY:MS:=(Ym (YL (Zk (D.str (Wm "ab;a "))) (gN 2)) (Ym (YL (Zk (D.str (Wm ""))) (gN 3)) (Ym (MZ (Ju (mOp Y1 (Zk (D.int (1))) (Zv ZE (Z3 (Z4 0) (Z3 (Zk (D.int (9811))) (Z3 (Zk (D.int (4))) Y3)))))) (gN 4) Yr) (Qm (mSl (Z4 3) Y4 (Yn (Zk (D.int (60)))))))))
def Ye:List D->Sto->Option (D×Sto):=J6 7 2 GY
def Jl:M D:=(mOp gIx (Z4 2) (Zv ZE (Z3 (mOp Y1 (Z4 1) (mOp Tn (Zk (D.int (13))) (Z4 0))) (Z3 (Zk (D.int (9749))) (Z3 (Zk (D.int (5))) Y3)))))
abbrev Lm:MS:=(Ym (YL (Zk (D.str (Wm "abc; "))) (gN 1)) (Ym (YL (Zv ZE (Z3 (Z4 0) (Z3 (Zk (D.int (9769))) (Z3 (Zk (D.int (14))) Y3)))) (gN 2)) (Ym (G1 (mT (mOp gEq (Zv ZE (Z3 (Z4 0) (Z3 (Zk (D.int (9767))) (Z3 (Zk (D.int (8))) Y3)))) (Zk (D.int (0))))) (YL (Zk (D.int (60))) (gN 2)) mNx) (Qm (Tc (Zk (D.str (Wm ""))) (Ys (Ju (Z4 2)) 1 [0,1] (gN 0) ZS Jl))))))
def Qa:List D->Sto->Option (D×Sto):=J6 3 1 Lm
def Jm:M D:=(Zk (D.int (0)))
def Yj:MS:=(Ym (YL (mOp Y1 (mOp Be (mOp Y1 (Zk (D.int (2))) (Z4 4)) (Z4 3)) (mOp gIx (Z4 2) (Z4 4))) (gN 5)) (Ym (G1 (mT (mOp gIn (mSl (Z4 0) (Yn (Z4 3)) (Yn (Z4 4))) (Z4 1))) (YL (mOp Y1 (Zk (D.int (2))) (mOp gIx (Z4 2) (Z4 4))) (gN 5)) mNx) (YT (KH U7 (mOp gIx (Z4 2) (Z4 3)) (Z4 5)) (Z4 2) (Z4 3))))
def YB:MS:=(Ym (YT (mOp Be (mOp Y1 (Zk (D.int (2))) (Jv (Z4 0))) (Z4 3)) (Z4 2) (Z4 3)) (MZ (Tb (mOp Y1 (Z4 3) (Zk (D.int (1)))) (mOp Y1 (Jv (Z4 0)) (Zk (D.int (1))))) (gN 4) Yj))
abbrev N4:MS:=(Ym (YL (YK (Ys (Ju (mOp Y1 (Jv (Z4 0)) (Zk (D.int (1))))) 1 [] (gN 0) ZS Jm)) (gN 2)) (Ym (MZ (An (Jv (Z4 0))) (gN 3) YB) (Qm (mOp gIx (Z4 2) (Zk (D.int (0)))))))
def Yl:List D->Sto->Option (D×Sto):=J6 6 2 N4
def Tr:M D:=(mOp gIx (Z4 1) (Z4 0))
def Tq:M D:=(Zv Yl (Z3 (Z4 1) (Z3 (Z4 0) Y3)))
def U5:MS:=(Ym (YL (Zv ZZ (Z3 (Z4 0) (Z3 (Z4 1) Y3))) (gN 2)) (Ym (YL (mSl (Zv Qa (Z3 (Z4 2) Y3)) Y4 (Yn (Zk (D.int (30))))) (gN 3)) (Ym (YL (mSl (Zv Ye (Z3 (mOp Y1 (Zv ZZ (Z3 (Z4 0) (Z3 (mOp Y1 (Z4 1) (Zk (D.int (1)))) Y3))) (Z4 1)) (Z3 (Z4 3) Y3))) Y4 (Yn (Zk (D.int (24))))) (gN 4)) (Ym (YL (Lp (Z3 (Z4 3) (Z3 (mSl (Zv Qa (Z3 (mOp Y1 (Z4 2) (Zk (D.int (3)))) Y3)) Y4 (Yn (Zk (D.int (30))))) (Z3 (mSl (Zv Ye (Z3 (mOp Y1 (Z4 2) (Zk (D.int (5)))) (Z3 (Z4 3) Y3))) Y4 (Yn (Zk (D.int (30))))) (Z3 (Z4 3) (Z3 (Zk (D.str (Wm ""))) Y3)))))) (gN 5)) (Ym (Td (Lq (Z4 5) (mSl (Z4 4) Y4 (Yn (Zv ZE (Z3 (Z4 2) (Z3 (Zk (D.int (9743))) (Z3 (Zk (D.int (25))) Y3)))))))) (Ym (YL (N5 (mSl (YK (Ys (QP (Zv YX (Z3 (mOp Y1 (Zv ZZ (Z3 (Z4 0) (Z3 (Zk (D.int (2))) Y3))) (Z4 1)) (Z3 (Zk (D.int (6))) Y3)))) 1 [5] (gN 0) ZS Tr)) Y4 (Yn (mOp Y1 (Zk (D.int (1))) (Zv ZE (Z3 (Z4 2) (Z3 (Zk (D.int (9739))) (Z3 (Zk (D.int (4))) Y3)))))))) (gN 6)) (Ym (YL (YK (Ys (QP (Z4 6)) 1 [4] (gN 0) ZS Tq)) (gN 7)) (Ym (YL (QJ (Z4 7) (Qv (mSq (Z4 7)))) (gN 8)) (Ym (G1 (mOr (MY (Bd (Zv (ZP 12) (Z3 (Zv ZY (Z3 (Z4 4) (Z3 (Z4 6) Y3))) (Z3 (Z4 8) Y3))))) (MY (Bd (Zv (ZP 12) (Z3 (Zv Qk (Z3 (Zv Ql (Z3 (Z4 4) (Z3 (mOp gIx (Z4 6) (Z4 8)) Y3))) Y3)) (Z3 (Qv (mSq (Z4 7))) Y3)))))) (Qm (Zk (D.bl false))) mNx) (Ym (YL (mOp Y1 (Z4 7) (Lp (Z3 (mOp Tn (Zk (D.int (2))) (N8 (mOp gNe (Z4 4) (Zk (D.str (Wm "")))))) Y3))) (gN 9)) (Ym (G1 (MY (Bd (Zv (ZP 12) (Z3 (Zv ZY (Z3 (Z4 4) (Z3 (mOp Y1 (Z4 6) (N6 (Z3 (Z4 4) Y3))) Y3))) (Z3 (QJ (Z4 9) (Qv (mSq (Z4 9)))) Y3))))) (Qm (Zk (D.bl false))) mNx) (Ym (YL (mOp Y1 (Up (Z4 7) (Yn (Zk (D.int (-1))))) (Z4 7)) (gN 10)) (G1 (MY (Bd (Zv (ZP 12) (Z3 (Zv ZY (Z3 (Z4 4) (Z3 (mOp Y1 (Up (Z4 6) (Yn (Zk (D.int (-1))))) (Z4 6)) Y3))) (Z3 (QJ (Z4 10) (Qv (mSq (Z4 10)))) Y3))))) (Qm (Zk (D.bl false))) mNx)))))))))))))
abbrev Hb:MS:=(Ym (MZ (Ju (Zk (D.int (2)))) (gN 1) U5) (Qm (Zk (D.bl true))))
def F_law:List D->Sto->Option (D×Sto):=J6 11 1 Hb
section
variable {P:Program} {w:World} {K:W3} {mg:Str->Option Value} {base:Heap}
theorem CI:FnScope ["piece"] ["piece"] (Z2 Zi):=⟨rfl,rfl,rfl,nd0,rfl,by decide +kernel,by decide +kernel⟩
theorem CZ {f_11:Addr}{fd_11:FuncData}(T:Txt K mg)(O_11:Own K mg "piece_weight" Zi f_11 fd_11 ["piece"]):FnOk P w K mg base CX0 1 f_11 fd_11 ["piece"] (spD K 1 Zx):=
 UZ (k:=0) O_11.fn CI rfl rfl λcdv A outer s H E hr=>(Zp (ZG (FC (QG (Uo (Yt hr)) (Yu (Yt hr) (sv 0) Z6) YI (Q4 _)) (Zl Zc (BG rfl T.c_PIECE_WEIGHT) (Yf (Yu (Yt hr) (sv 0) Z6) rfl T.n_len Zs)) (BG rfl T.c_PIECE_WEIGHT))))
theorem CD:FnScope ["parcel"] ["parcel"] (Z2 Ya):=⟨rfl,rfl,rfl,nd1,rfl,by decide +kernel,by decide +kernel⟩
theorem CU {f_15:Addr}{fd_15:FuncData}(T:Txt K mg)(O_15:Own K mg "weight" Ya f_15 fd_15 ["parcel"]){f_11:Addr}{fd_11:FuncData}(O_11:Own K mg "piece_weight" Zi f_11 fd_11 ["piece"])(G_11:FnOk P w K mg base CX0 1 f_11 fd_11 ["piece"] (spD K 1 Zx)):FnOk P w K mg base CX0 2 f_15 fd_15 ["parcel"] (spD K 1 Qk):=
 UZ (k:=1) O_15.fn CD rfl rfl λcdv A outer s H E hr=>(Zp (ZG (FB rfl (J3 (tgs:=["piece"]) (cn:=[]) (caps:=[]) rfl ⟨by decide +kernel,rfl,by decide +kernel,ZX (Z2 Ya).names rfl (by decide +kernel),trivial⟩ (T4 (sv 0)) (Zu (by decide)) ZA (λ_ _ _ _=>(ZC (i:=0) nd0 rfl (Or.inl rfl))) (λ_ _ _ _=>YD) (λ_ _ _ _=>(Z8 G_11 (hr.mono (by omega)) rfl O_11.mgf O_11.fn.kp O_11.b (Z1 (sv 0) Zb) (Z0 Z9)))) rfl T.n_sum Mg)))
theorem CH:FnScope ["rest", "old", "beginnings", "news"] ["rest", "old"] (Z2 Ze):=⟨rfl,rfl,rfl,nd2,rfl,by decide +kernel,by decide +kernel⟩
theorem CY {f_12:Addr}{fd_12:FuncData}(T:Txt K mg)(O_12:Own K mg "pieces_ahead" Ze f_12 fd_12 ["rest", "old"]):FnOk P w K mg base CX0 1 f_12 fd_12 ["rest", "old"] (spD K 2 ZF):=
 UZ (k:=0) O_12.fn CH rfl rfl λcdv A outer s H E hr=>(Z7 (J2 (i:=2) nd2 rfl rfl (tgs:=["many"]) (cn:=["rest"]) (caps:=[0]) rfl ⟨by decide +kernel,rfl,by decide +kernel,ZX (Z2 Ze).names rfl (by decide +kernel),⟨⟨rfl,.inl rfl,rfl⟩,trivial⟩⟩ (T3 Z6 (Zl Zc (Yf (sv 0) rfl T.n_len Zs) Z6) rfl T.n_range) (Zu (by decide)) ZA (λ_ _ _ _=>(ZC (i:=0) nd3 rfl (Or.inl rfl))) (λ_ _ _ _=>YD) (λ_ _ _ _=>(ZT (sv 1) Yw (ZQ (sv 0)))))
   (Z7 (J2 (i:=3) nd2 rfl rfl (tgs:=["signs"]) (cn:=[]) (caps:=[]) rfl ⟨by decide +kernel,rfl,by decide +kernel,ZX (Z2 Ze).names rfl (by decide +kernel),trivial⟩ (T4 (sv 2)) (Zu (by decide)) ZA (λ_ _ _ _=>(ZC (i:=0) nd4 rfl (Or.inl rfl))) (λ_ _ _ _=>YD) (λ_ _ _ _=>(J5 (Z1 YI (Z1 (sv 0) Zb)))))
   (Zp (ZG (Zl Zc (sv 3) (T5 (tgs:=["signs"]) (cn:=["old"]) (caps:=[1]) rfl ⟨by decide +kernel,rfl,by decide +kernel,ZX (Z2 Ze).names rfl (by decide +kernel),⟨⟨rfl,.inl rfl,rfl⟩,trivial⟩⟩ (T4 (sv 2)) (Zu (by decide)) ZA (λ_ _ _ _=>(ZC (i:=0) nd5 rfl (Or.inl rfl))) (λ_ _ _ _=>Fy (QG (KC (Yt hr)) (sv 0) (sv 1) (by with_unfolding_all rfl))) (λ_ _ _ _=>(J5 (Z1 YI (Z1 (PQ (sv 1) (sv 0)) (Z1 (Yf (sv 0) rfl T.n_len Zs) Zb)))))))))))
theorem CF:FnScope ["piece"] ["piece"] (Z2 ZR):=⟨rfl,rfl,rfl,nd0,rfl,by decide +kernel,by decide +kernel⟩
theorem CV {f_14:Addr}{fd_14:FuncData}(T:Txt K mg)(O_14:Own K mg "signs_in" ZR f_14 fd_14 ["piece"]):FnOk P w K mg base CX0 1 f_14 fd_14 ["piece"] (spD K 1 Yv):=
 UZ (k:=0) O_14.fn CF rfl rfl λcdv A outer s H E hr=>(Zp (ZG (FC (QG (Uo (Yt hr)) (Yu (Yt hr) (sv 0) Z6) YI (Q4 _)) (Yf (Yu (Yt hr) (sv 0) Z6) rfl T.n_len Zs) (Yu (Yt hr) (sv 0) Z6))))
theorem CG:FnScope ["piece", "weighed"] ["piece", "weighed"] (Z2 ZK):=⟨rfl,rfl,rfl,nd6,rfl,by decide +kernel,by decide +kernel⟩
theorem CW {f_13:Addr}{fd_13:FuncData}(T:Txt K mg)(O_13:Own K mg "put_ahead" ZK f_13 fd_13 ["piece", "weighed"]){f_11:Addr}{fd_11:FuncData}(O_11:Own K mg "piece_weight" Zi f_11 fd_11 ["piece"])(G_11:FnOk P w K mg base CX0 1 f_11 fd_11 ["piece"] (spD K 1 Zx)):FnOk P w K mg base CX0 2 f_13 fd_13 ["piece", "weighed"] (spD K 2 Yk):=
 UZ (k:=1) O_13.fn CG rfl rfl λcdv A outer s H E hr=>(Zp (ZG (J5 (Z1 (Zl Zc (Z8 G_11 (hr.mono (by omega)) rfl O_11.mgf O_11.fn.kp O_11.b (Z1 (sv 0) Zb) (Z0 Z9)) (Yu (Yt hr) (sv 1) Z6)) (Z1 (Zl Zc (J5 (Z1 (sv 0) Zb)) (Yu (Yt hr) (sv 1) Z6)) Zb)))))
theorem CJ:FnScope ["text", "old", "least", "length", "pieces"] ["text", "old"] (Z2 Zd):=⟨rfl,rfl,rfl,nd7,rfl,by decide +kernel,by decide +kernel⟩
theorem Ha {f_10:Addr}{fd_10:FuncData}(T:Txt K mg)(O_10:Own K mg "parcel_weighed" Zd f_10 fd_10 ["text", "old"]){f_12:Addr}{fd_12:FuncData}(O_12:Own K mg "pieces_ahead" Ze f_12 fd_12 ["rest", "old"])(G_12:FnOk P w K mg base CX0 1 f_12 fd_12 ["rest", "old"] (spD K 2 ZF)){f_14:Addr}{fd_14:FuncData}(O_14:Own K mg "signs_in" ZR f_14 fd_14 ["piece"])(G_14:FnOk P w K mg base CX0 1 f_14 fd_14 ["piece"] (spD K 1 Yv)){f_13:Addr}{fd_13:FuncData}(O_13:Own K mg "put_ahead" ZK f_13 fd_13 ["piece", "weighed"])(G_13:FnOk P w K mg base CX0 2 f_13 fd_13 ["piece", "weighed"] (spD K 2 Yk)):FnOk P w K mg base CX0 3 f_10 fd_10 ["text", "old"] (spD K 2 Zh):=
 UZ (k:=2) O_10.fn CJ rfl rfl λcdv A outer s H E hr=>(Z7 (ZO (i:=2) nd7 rfl (Or.inr rfl) (BF (Z1 (J5 (Z1 Z6 (Z1 (J5 Zb) Zb))) Zb)))
   (Z7 (Ug W0n rfl (T3 Z6 (Zl Zc (Yf (sv 0) rfl T.n_len Zs) Z6) rfl T.n_range) (ZC (i:=3) nd7 rfl (Or.inr rfl)) ZA (Z7 (ZO (i:=4) nd7 rfl (Or.inl rfl) (Z8 G_12 (hr.mono (by omega)) rfl O_12.mgf O_12.fn.kp O_12.b (Z1 (ZT (sv 0) (ZQ (Zl Jc (Yf (sv 0) rfl T.n_len Zs) (sv 3))) Yw) (Z1 (sv 1) Zb)) (Z0 (Z0 Z9))))
   (Zp (Bx (Uj (sv 2) (Qu rfl (Yt hr) (J3 (tgs:=["piece"]) (cn:=["least", "length"]) (caps:=[2,3]) rfl ⟨by decide +kernel,rfl,by decide +kernel,ZX (Z2 Zd).names rfl (by decide +kernel),⟨⟨rfl,.inl rfl,rfl⟩,⟨⟨rfl,.inl rfl,rfl⟩,trivial⟩⟩⟩ (T4 (sv 4)) (Zu (by decide)) ZA (λ_ _ _ _=>(ZC (i:=0) nd8 rfl (Or.inl rfl))) (λ_ _ _ _=>YD) (λ_ _ _ _=>(Z8 G_13 (hr.mono (by omega)) rfl O_13.mgf O_13.fn.kp O_13.b (Z1 (sv 0) (Z1 (Yu (Yt hr) (sv 1) (Zl Jc (sv 2) (Z8 G_14 (hr.mono (by omega)) rfl O_14.mgf O_14.fn.kp O_14.b (Z1 (sv 0) Zb) (Z0 Z9)))) Zb)) (Z0 (Z0 Z9))))) rfl T.n_min Yi))))))
   (Zp (ZG (Yu (Yt hr) (sv 2) (Yf (sv 0) rfl T.n_len Zs))))))
theorem Ii:FnScope ["text", "old"] ["text", "old"] (Z2 Yp):=⟨rfl,rfl,rfl,nd9,rfl,by decide +kernel,by decide +kernel⟩
theorem IA {f_9:Addr}{fd_9:FuncData}(T:Txt K mg)(O_9:Own K mg "parcel" Yp f_9 fd_9 ["text", "old"]){f_10:Addr}{fd_10:FuncData}(O_10:Own K mg "parcel_weighed" Zd f_10 fd_10 ["text", "old"])(G_10:FnOk P w K mg base CX0 3 f_10 fd_10 ["text", "old"] (spD K 2 Zh)):FnOk P w K mg base CX0 4 f_9 fd_9 ["text", "old"] (spD K 2 Ql):=
 UZ (k:=3) O_9.fn Ii rfl rfl λcdv A outer s H E hr=>(Zp (ZG (Yu (Yt hr) (Z8 G_10 (hr.mono (by omega)) rfl O_10.mgf O_10.fn.kp O_10.b (Z1 (sv 0) (Z1 (sv 1) Zb)) (Z0 (Z0 Z9))) Z6)))
theorem Ik:FnScope ["text", "olds", "weights"] ["text", "olds"] (Z2 ZM):=⟨rfl,rfl,rfl,HQ,rfl,by decide +kernel,by decide +kernel⟩
theorem IC {f_7:Addr}{fd_7:FuncData}(T:Txt K mg)(O_7:Own K mg "best_old" ZM f_7 fd_7 ["text", "olds"]){f_10:Addr}{fd_10:FuncData}(O_10:Own K mg "parcel_weighed" Zd f_10 fd_10 ["text", "old"])(G_10:FnOk P w K mg base CX0 3 f_10 fd_10 ["text", "old"] (spD K 2 Zh)):FnOk P w K mg base CX0 4 f_7 fd_7 ["text", "olds"] (spD K 2 ZY):=
 UZ (k:=3) O_7.fn Ik rfl rfl λcdv A outer s H E hr=>(Z7 (J2 (i:=2) HQ rfl rfl (tgs:=["old"]) (cn:=["text"]) (caps:=[0]) rfl ⟨by decide +kernel,rfl,by decide +kernel,ZX (Z2 ZM).names rfl (by decide +kernel),⟨⟨rfl,.inl rfl,rfl⟩,trivial⟩⟩ (T4 (sv 1)) (Zu (by decide)) ZA (λ_ _ _ _=>(ZC (i:=0) IU rfl (Or.inl rfl))) (λ_ _ _ _=>YD) (λ_ _ _ _=>(Yu (Yt hr) (Z8 G_10 (hr.mono (by omega)) rfl O_10.mgf O_10.fn.kp O_10.b (Z1 (sv 1) (Z1 (sv 0) Zb)) (Z0 (Z0 Z9))) Z6)))
   (Zp (ZG (QS (Yt hr) (sv 2) (Qu rfl (Yt hr) (By (sv 2)) rfl T.n_min Yi)))))
theorem Iu:FnScope ["_law_script", "_law_k"] ["_law_script", "_law_k"] (Z2 Yq):=⟨rfl,rfl,rfl,IS,rfl,by decide +kernel,by decide +kernel⟩
theorem II {f_0:Addr}{fd_0:FuncData}(T:Txt K mg)(O_0:Own K mg "_law_cell" Yq f_0 fd_0 ["_law_script", "_law_k"]):FnOk P w K mg base CX0 1 f_0 fd_0 ["_law_script", "_law_k"] (spD K 2 ZZ):=
 UZ (k:=0) O_0.fn Iu rfl rfl λcdv A outer s H E hr=>(Z7 (Jr (QG (A8 (Yt hr)) (sv 1) (Yf (sv 0) rfl T.n_len Zs) (Q4 _)) (Zp (ZG (Yu (Yt hr) (sv 0) (sv 1)))) Q3)
   (Zp (ZG Z6)))
theorem Ip:FnScope ["_law_cell_here", "_law_prime", "_law_many"] ["_law_cell_here", "_law_prime", "_law_many"] (Z2 Yg):=⟨rfl,rfl,rfl,IR,rfl,by decide +kernel,by decide +kernel⟩
theorem IF {f_3:Addr}{fd_3:FuncData}(T:Txt K mg)(O_3:Own K mg "_law_mix" Yg f_3 fd_3 ["_law_cell_here", "_law_prime", "_law_many"]):FnOk P w K mg base CX0 1 f_3 fd_3 ["_law_cell_here", "_law_prime", "_law_many"] (spD K 3 ZE):=
 UZ (k:=0) O_3.fn Ip rfl rfl λcdv A outer s H E hr=>(Zp (ZG (Zl BX (Zl BX (Zl YJ (sv 0) Z6) (sv 1)) (sv 2))))
theorem Il:FnScope ["_law_found", "_law_due"] ["_law_found", "_law_due"] (Z2 Yb):=⟨rfl,rfl,rfl,IQ,rfl,by decide +kernel,by decide +kernel⟩
theorem HL {f_6:Addr}{fd_6:FuncData}(T:Txt K mg)(O_6:Own K mg "_law_same" Yb f_6 fd_6 ["_law_found", "_law_due"]):∀k:Nat,FnOk P w K mg base CX0 (k+1) f_6 fd_6 ["_law_found", "_law_due"] (spD K 2 (ZP k))
 |0=>LV rfl
 |k+1=>by
  have Gr:=HL T O_6 k
  exact UZ O_6.fn Il rfl rfl λcdv A outer s H E hr=>(Z7 (Jr (Yo (JE (UB _) (sv 1) rfl T.n_isinstance Zj rfl T.n_tuple Q8)) (Z7 (Jr (CC (PC (Uf (Yo (JE (UB _) (sv 0) rfl T.n_isinstance Zj rfl T.n_tuple Q8))) (Bw (QG (KA (Yt hr)) (Yf (sv 0) rfl T.n_len Zs) (Yf (sv 1) rfl T.n_len Zs) (Q4 _))))) (Zp (ZG BH)) Q3)
   (Zp (ZG (FD rfl (J3 (tgs:=["_law_one", "_law_other"]) (cn:=[]) (caps:=[]) rfl ⟨by decide +kernel,rfl,by decide +kernel,ZX (Z2 Yb).names rfl (by decide +kernel),trivial⟩ (Fw (sv 0) (sv 1) rfl T.n_zip Mf) (Kb (JJ (Zu (by decide)) (JJ (Zu (by decide)) NR QC UD) QC (B3 QC UD))) (Ej (Gs ZA (Gs ZA LR))) (λ_ _ _ _=>(FX rfl (TZ (ZC (i:=0) HN rfl (Or.inl rfl)) (TZ (ZC (i:=1) HN rfl (Or.inl rfl)) L9)))) (λ_ _ _ _=>YD) (λ_ _ _ _=>(Z8 Gr (hr.mono (by omega)) rfl O_6.mgf O_6.fn.kp O_6.b (Z1 (sv 0) (Z1 (sv 1) Zb)) (Z0 (Z0 Z9))))) rfl T.n_all Mi)))) Q3)
   (Z7 (Jr (QG KB (sv 1) Ku (Q4 _)) (Zp (ZG (TV KB (sv 0) Ku (Q4 _)))) Q3)
   (Z7 (Jr (CC (PC (Yo (JE (QU _) (sv 1) rfl T.n_isinstance Zj rfl T.n_bool YW)) (Bw (Yo (JE (QU _) (sv 0) rfl T.n_isinstance Zj rfl T.n_bool YW))))) (Zp (ZG (BI (JE (QU _) (sv 1) rfl T.n_isinstance Zj rfl T.n_bool YW) (BI (JE (QU _) (sv 0) rfl T.n_isinstance Zj rfl T.n_bool YW) (Kt (TV (Uo (Yt hr)) (sv 0) (sv 1) (Q4 _))))))) Q3)
   (Zp (ZG (BI (PN (LK _) (LJ _) (sv 0) rfl T.n_isinstance Zj rfl T.n_int UR rfl T.n_str Mh) (Kt (TV (Uo (Yt hr)) (sv 0) (sv 1) (Q4 _)))))))))
theorem Im:FnScope ["_law_cell_here", "_law_many", "_law_left"] ["_law_cell_here", "_law_many"] (Z2 Yc):=⟨rfl,rfl,rfl,HM,rfl,by decide +kernel,by decide +kernel⟩
theorem ID {f_5:Addr}{fd_5:FuncData}(T:Txt K mg)(O_5:Own K mg "_law_perm" Yc f_5 fd_5 ["_law_cell_here", "_law_many"]){f_3:Addr}{fd_3:FuncData}(O_3:Own K mg "_law_mix" Yg f_3 fd_3 ["_law_cell_here", "_law_prime", "_law_many"])(G_3:FnOk P w K mg base CX0 1 f_3 fd_3 ["_law_cell_here", "_law_prime", "_law_many"] (spD K 3 ZE)):FnOk P w K mg base CX0 2 f_5 fd_5 ["_law_cell_here", "_law_many"] (spD K 2 YX):=
 UZ (k:=1) O_5.fn Im rfl rfl λcdv A outer s H E hr=>(Z7 (ZO (i:=2) HM rfl (Or.inr rfl) (Ig (BA rfl (sv 1) rfl T.n_list B7 rfl T.n_range)))
   (Zp (ZG (T5 (tgs:=["_law_k"]) (cn:=["_law_cell_here", "_law_many", "_law_left"]) (caps:=[0,1,2]) rfl ⟨by decide +kernel,rfl,by decide +kernel,ZX (Z2 Yc).names rfl (by decide +kernel),⟨⟨rfl,.inl rfl,rfl⟩,⟨⟨rfl,.inl rfl,rfl⟩,⟨⟨rfl,.inl rfl,rfl⟩,trivial⟩⟩⟩⟩ (Qr (sv 1) rfl T.n_range) (Zu (by decide)) ZA (λ_ _ _ _=>(ZC (i:=0) IP rfl (Or.inl rfl))) (λ_ _ _ _=>YD) (λ_ _ _ _=>(MC (sv 3) (Z8 G_3 (hr.mono (by omega)) rfl O_3.mgf O_3.fn.kp O_3.b (Z1 (Zl Zc (sv 1) (Zl YJ Z6 (sv 0))) (Z1 Z6 (Z1 (Zl Jc (sv 2) (sv 0)) Zb))) (Z0 (Z0 (Z0 Z9))))))))))
theorem Ir:FnScope ["_law_cell_here", "_law_old_here", "_law_signs", "_law_text", "_law_k", "_law_begin", "_law_many"] ["_law_cell_here", "_law_old_here"] (Z2 ZN):=⟨rfl,rfl,rfl,KF,rfl,by decide +kernel,by decide +kernel⟩
theorem IH {f_1:Addr}{fd_1:FuncData}(T:Txt K mg)(O_1:Own K mg "_law_edited" ZN f_1 fd_1 ["_law_cell_here", "_law_old_here"]){f_3:Addr}{fd_3:FuncData}(O_3:Own K mg "_law_mix" Yg f_3 fd_3 ["_law_cell_here", "_law_prime", "_law_many"])(G_3:FnOk P w K mg base CX0 1 f_3 fd_3 ["_law_cell_here", "_law_prime", "_law_many"] (spD K 3 ZE)):FnOk P w K mg base CX0 2 f_1 fd_1 ["_law_cell_here", "_law_old_here"] (spD K 2 Ye):=
 UZ (k:=1) O_1.fn Ir rfl rfl λcdv A outer s H E hr=>(Z7 (ZO (i:=2) KF rfl (Or.inr rfl) YI)
   (Z7 (ZO (i:=3) KF rfl (Or.inl rfl) YI)
   (Z7 (Ug W0n rfl (Qr (Zl Zc Z6 (Z8 G_3 (hr.mono (by omega)) rfl O_3.mgf O_3.fn.kp O_3.b (Z1 (sv 0) (Z1 Z6 (Z1 Z6 Zb))) (Z0 (Z0 (Z0 Z9))))) rfl T.n_range) (ZC (i:=4) KF rfl (Or.inr rfl)) ZA (Z7 (ZO (i:=5) KF rfl (Or.inl rfl) (Z8 G_3 (hr.mono (by omega)) rfl O_3.mgf O_3.fn.kp O_3.b (Z1 (Zl Zc (sv 0) (Zl YJ Z6 (sv 4))) (Z1 Z6 (Z1 (Zl Zc (Yf (sv 1) rfl T.n_len Zs) Z6) Zb))) (Z0 (Z0 (Z0 Z9)))))
   (Z7 (ZO (i:=3) KF rfl (Or.inl rfl) (Zl Zc (sv 3) (ZT (sv 1) (ZQ (sv 5)) (ZQ (Zl Zc (sv 5) (Z8 G_3 (hr.mono (by omega)) rfl O_3.mgf O_3.fn.kp O_3.b (Z1 (Zl Zc (sv 0) (Zl YJ Z6 (sv 4))) (Z1 Z6 (Z1 Z6 Zb))) (Z0 (Z0 (Z0 Z9)))))))))
   (Z7 (ZO (i:=6) KF rfl (Or.inl rfl) (Z8 G_3 (hr.mono (by omega)) rfl O_3.mgf O_3.fn.kp O_3.b (Z1 (Zl Zc (sv 0) (Zl YJ Z6 (sv 4))) (Z1 Z6 (Z1 Z6 Zb))) (Z0 (Z0 (Z0 Z9)))))
   (Zp (ZO (i:=3) KF rfl (Or.inl rfl) (Zl Zc (sv 3) (TU YI (J3 (tgs:=["_law_j"]) (cn:=["_law_cell_here", "_law_signs", "_law_k"]) (caps:=[0,2,4]) rfl ⟨by decide +kernel,rfl,by decide +kernel,ZX (Z2 ZN).names rfl (by decide +kernel),⟨⟨rfl,.inl rfl,rfl⟩,⟨⟨rfl,.inl rfl,rfl⟩,⟨⟨rfl,.inl rfl,rfl⟩,trivial⟩⟩⟩⟩ (Qr (sv 6) rfl T.n_range) (Zu (by decide)) ZA (λ_ _ _ _=>(ZC (i:=0) IN rfl (Or.inl rfl))) (λ_ _ _ _=>YD) (λ_ _ _ _=>(Yu (Yt hr) (sv 2) (Z8 G_3 (hr.mono (by omega)) rfl O_3.mgf O_3.fn.kp O_3.b (Z1 (Zl Zc (Zl Zc (sv 1) (Zl YJ Z6 (sv 3))) (sv 0)) (Z1 Z6 (Z1 Z6 Zb))) (Z0 (Z0 (Z0 Z9)))))))))))))))
   (Zp (ZG (ZT (sv 3) Yw (ZQ Z6)))))))
theorem Io:FnScope ["_law_cell_here", "_law_signs", "_law_many"] ["_law_cell_here"] (Z2 Yx):=⟨rfl,rfl,rfl,Cr,rfl,by decide +kernel,by decide +kernel⟩
theorem IE {f_4:Addr}{fd_4:FuncData}(T:Txt K mg)(O_4:Own K mg "_law_old" Yx f_4 fd_4 ["_law_cell_here"]){f_3:Addr}{fd_3:FuncData}(O_3:Own K mg "_law_mix" Yg f_3 fd_3 ["_law_cell_here", "_law_prime", "_law_many"])(G_3:FnOk P w K mg base CX0 1 f_3 fd_3 ["_law_cell_here", "_law_prime", "_law_many"] (spD K 3 ZE)):FnOk P w K mg base CX0 2 f_4 fd_4 ["_law_cell_here"] (spD K 1 Qa):=
 UZ (k:=1) O_4.fn Io rfl rfl λcdv A outer s H E hr=>(Z7 (ZO (i:=1) Cr rfl (Or.inr rfl) YI)
   (Z7 (ZO (i:=2) Cr rfl (Or.inl rfl) (Z8 G_3 (hr.mono (by omega)) rfl O_3.mgf O_3.fn.kp O_3.b (Z1 (sv 0) (Z1 Z6 (Z1 Z6 Zb))) (Z0 (Z0 (Z0 Z9)))))
   (Z7 (Jr (QG (Uo (Yt hr)) (Z8 G_3 (hr.mono (by omega)) rfl O_3.mgf O_3.fn.kp O_3.b (Z1 (sv 0) (Z1 Z6 (Z1 Z6 Zb))) (Z0 (Z0 (Z0 Z9)))) Z6 (Q4 _)) (Zp (ZO (i:=2) Cr rfl (Or.inl rfl) Z6)) Q3)
   (Zp (ZG (TU YI (J3 (tgs:=["_law_k"]) (cn:=["_law_cell_here", "_law_signs"]) (caps:=[0,1]) rfl ⟨by decide +kernel,rfl,by decide +kernel,ZX (Z2 Yx).names rfl (by decide +kernel),⟨⟨rfl,.inl rfl,rfl⟩,⟨⟨rfl,.inl rfl,rfl⟩,trivial⟩⟩⟩ (Qr (sv 2) rfl T.n_range) (Zu (by decide)) ZA (λ_ _ _ _=>(ZC (i:=0) IM rfl (Or.inl rfl))) (λ_ _ _ _=>YD) (λ_ _ _ _=>(Yu (Yt hr) (sv 2) (Z8 G_3 (hr.mono (by omega)) rfl O_3.mgf O_3.fn.kp O_3.b (Z1 (Zl Zc (sv 1) (Zl YJ Z6 (sv 0))) (Z1 Z6 (Z1 Z6 Zb))) (Z0 (Z0 (Z0 Z9)))))))))))))
theorem Iq:FnScope ["_law_text", "_law_old_here", "_law_best", "_law_place", "_law_end", "_law_here"] ["_law_text", "_law_old_here"] (Z2 ZU):=⟨rfl,rfl,rfl,Fc,rfl,by decide +kernel,by decide +kernel⟩
theorem IG {f_2:Addr}{fd_2:FuncData}(T:Txt K mg)(O_2:Own K mg "_law_least" ZU f_2 fd_2 ["_law_text", "_law_old_here"]):FnOk P w K mg base CX0 1 f_2 fd_2 ["_law_text", "_law_old_here"] (spD K 2 Yl):=
 UZ (k:=0) O_2.fn Iq rfl rfl λcdv A outer s H E hr=>(Z7 (J2 (i:=2) Fc rfl rfl (tgs:=["_law_k"]) (cn:=[]) (caps:=[]) rfl ⟨by decide +kernel,rfl,by decide +kernel,ZX (Z2 ZU).names rfl (by decide +kernel),trivial⟩ (Qr (Zl Zc (Yf (sv 0) rfl T.n_len Zs) Z6) rfl T.n_range) (Zu (by decide)) ZA (λ_ _ _ _=>(ZC (i:=0) IL rfl (Or.inl rfl))) (λ_ _ _ _=>YD) (λ_ _ _ _=>Z6))
   (Z7 (Ug W0n rfl (Fx (Yf (sv 0) rfl T.n_len Zs) rfl T.n_reversed JB rfl T.n_range) (ZC (i:=3) Fc rfl (Or.inl rfl)) ZA (Z7 (JD (Yt hr) (Zl Jc (Zl Zc Z6 (Yf (sv 0) rfl T.n_len Zs)) (sv 3)) (sv 2) (sv 3))
   (Zp (Ug W0n rfl (T3 (Zl Zc (sv 3) Z6) (Zl Zc (Yf (sv 0) rfl T.n_len Zs) Z6) rfl T.n_range) (ZC (i:=4) Fc rfl (Or.inl rfl)) ZA (Z7 (ZO (i:=5) Fc rfl (Or.inl rfl) (Zl Zc (Zl Jc (Zl Zc Z6 (sv 4)) (sv 3)) (Yu (Yt hr) (sv 2) (sv 4))))
   (Z7 (Jr (QG (KC (Yt hr)) (ZT (sv 0) (ZQ (sv 3)) (ZQ (sv 4))) (sv 1) (by with_unfolding_all rfl)) (Zp (ZO (i:=5) Fc rfl (Or.inl rfl) (Zl Zc Z6 (Yu (Yt hr) (sv 2) (sv 4))))) Q3)
   (Zp (JD (Yt hr) (PL rfl (Yu (Yt hr) (sv 2) (sv 3)) (sv 5) rfl T.n_min Yi) (sv 2) (sv 3)))))))))
   (Zp (ZG (Yu (Yt hr) (sv 2) Z6)))))
theorem Ij:FnScope ["_law_script", "_law_k", "_law_cell_here", "_law_base", "_law_text", "_law_some", "_law_olds", "_law_weights", "_law_due", "_law_more", "_law_back"] ["_law_script"] (Z2 QM):=⟨rfl,rfl,rfl,N0,rfl,by decide +kernel,by decide +kernel⟩
theorem IB {f_8:Addr}{fd_8:FuncData}(T:Txt K mg)(O_8:Own K mg "law" QM f_8 fd_8 ["_law_script"]){f_15:Addr}{fd_15:FuncData}(O_15:Own K mg "weight" Ya f_15 fd_15 ["parcel"])(G_15:FnOk P w K mg base CX0 2 f_15 fd_15 ["parcel"] (spD K 1 Qk)){f_9:Addr}{fd_9:FuncData}(O_9:Own K mg "parcel" Yp f_9 fd_9 ["text", "old"])(G_9:FnOk P w K mg base CX0 4 f_9 fd_9 ["text", "old"] (spD K 2 Ql)){f_7:Addr}{fd_7:FuncData}(O_7:Own K mg "best_old" ZM f_7 fd_7 ["text", "olds"])(G_7:FnOk P w K mg base CX0 4 f_7 fd_7 ["text", "olds"] (spD K 2 ZY)){f_0:Addr}{fd_0:FuncData}(O_0:Own K mg "_law_cell" Yq f_0 fd_0 ["_law_script", "_law_k"])(G_0:FnOk P w K mg base CX0 1 f_0 fd_0 ["_law_script", "_law_k"] (spD K 2 ZZ)){f_3:Addr}{fd_3:FuncData}(O_3:Own K mg "_law_mix" Yg f_3 fd_3 ["_law_cell_here", "_law_prime", "_law_many"])(G_3:FnOk P w K mg base CX0 1 f_3 fd_3 ["_law_cell_here", "_law_prime", "_law_many"] (spD K 3 ZE)){f_6:Addr}{fd_6:FuncData}(O_6:Own K mg "_law_same" Yb f_6 fd_6 ["_law_found", "_law_due"])(G_6:FnOk P w K mg base CX0 13 f_6 fd_6 ["_law_found", "_law_due"] (spD K 2 (ZP 12))){f_5:Addr}{fd_5:FuncData}(O_5:Own K mg "_law_perm" Yc f_5 fd_5 ["_law_cell_here", "_law_many"])(G_5:FnOk P w K mg base CX0 2 f_5 fd_5 ["_law_cell_here", "_law_many"] (spD K 2 YX)){f_1:Addr}{fd_1:FuncData}(O_1:Own K mg "_law_edited" ZN f_1 fd_1 ["_law_cell_here", "_law_old_here"])(G_1:FnOk P w K mg base CX0 2 f_1 fd_1 ["_law_cell_here", "_law_old_here"] (spD K 2 Ye)){f_4:Addr}{fd_4:FuncData}(O_4:Own K mg "_law_old" Yx f_4 fd_4 ["_law_cell_here"])(G_4:FnOk P w K mg base CX0 2 f_4 fd_4 ["_law_cell_here"] (spD K 1 Qa)){f_2:Addr}{fd_2:FuncData}(O_2:Own K mg "_law_least" ZU f_2 fd_2 ["_law_text", "_law_old_here"])(G_2:FnOk P w K mg base CX0 1 f_2 fd_2 ["_law_text", "_law_old_here"] (spD K 2 Yl)):FnOk P w K mg base CX0 14 f_8 fd_8 ["_law_script"] (spD K 1 F_law):=
 UZ (k:=13) O_8.fn Ij rfl rfl λcdv A outer s H E hr=>(Z7 (Ug W0n rfl (Qr Z6 rfl T.n_range) (ZC (i:=1) N0 rfl (Or.inl rfl)) ZA (by
    refine Z7 ?_ ?_
    ·exact (ZO (i:=2) N0 rfl (Or.inl rfl) (Z8 G_0 (hr.mono (by omega)) rfl O_0.mgf O_0.fn.kp O_0.b (Z1 (sv 0) (Z1 (sv 1) Zb)) (Z0 (Z0 Z9))))
    refine Z7 ?_ ?_
    ·exact (ZO (i:=3) N0 rfl (Or.inl rfl) (ZT (Z8 G_4 (hr.mono (by omega)) rfl O_4.mgf O_4.fn.kp O_4.b (Z1 (sv 2) Zb) (Z0 Z9)) Yw (ZQ Z6)))
    refine Z7 ?_ ?_
    ·exact (ZO (i:=4) N0 rfl (Or.inr rfl) (ZT (Z8 G_1 (hr.mono (by omega)) rfl O_1.mgf O_1.fn.kp O_1.b (Z1 (Zl Zc (Z8 G_0 (hr.mono (by omega)) rfl O_0.mgf O_0.fn.kp O_0.b (Z1 (sv 0) (Z1 (Zl Zc (sv 1) Z6) Zb)) (Z0 (Z0 Z9))) (sv 1)) (Z1 (sv 3) Zb)) (Z0 (Z0 Z9))) Yw (ZQ Z6)))
    refine Z7 ?_ ?_
    ·exact (ZO (i:=5) N0 rfl (Or.inr rfl) (BF (Z1 (sv 3) (Z1 (ZT (Z8 G_4 (hr.mono (by omega)) rfl O_4.mgf O_4.fn.kp O_4.b (Z1 (Zl Zc (sv 2) Z6) Zb) (Z0 Z9)) Yw (ZQ Z6)) (Z1 (ZT (Z8 G_1 (hr.mono (by omega)) rfl O_1.mgf O_1.fn.kp O_1.b (Z1 (Zl Zc (sv 2) Z6) (Z1 (sv 3) Zb)) (Z0 (Z0 Z9))) Yw (ZQ Z6)) (Z1 (sv 3) (Z1 YI Zb)))))))
    refine Z7 ?_ ?_
    ·exact (Bx (Uj (sv 5) (ZT (sv 4) Yw (ZQ (Z8 G_3 (hr.mono (by omega)) rfl O_3.mgf O_3.fn.kp O_3.b (Z1 (sv 2) (Z1 Z6 (Z1 Z6 Zb))) (Z0 (Z0 (Z0 Z9))))))))
    refine Z7 ?_ ?_
    ·exact (ZO (i:=6) N0 rfl (Or.inl rfl) (PK (ZT (T5 (tgs:=["_law_at"]) (cn:=["_law_some"]) (caps:=[5]) rfl ⟨by decide +kernel,rfl,by decide +kernel,ZX (Z2 QM).names rfl (by decide +kernel),⟨⟨rfl,.inl rfl,rfl⟩,trivial⟩⟩ (T4 (Z8 G_5 (hr.mono (by omega)) rfl O_5.mgf O_5.fn.kp O_5.b (Z1 (Zl Zc (Z8 G_0 (hr.mono (by omega)) rfl O_0.mgf O_0.fn.kp O_0.b (Z1 (sv 0) (Z1 Z6 Zb)) (Z0 (Z0 Z9))) (sv 1)) (Z1 Z6 Zb)) (Z0 (Z0 Z9)))) (Zu (by decide)) ZA (λ_ _ _ _=>(ZC (i:=0) IK rfl (Or.inl rfl))) (λ_ _ _ _=>YD) (λ_ _ _ _=>(Yu (Yt hr) (sv 1) (sv 0)))) Yw (ZQ (Zl Zc Z6 (Z8 G_3 (hr.mono (by omega)) rfl O_3.mgf O_3.fn.kp O_3.b (Z1 (sv 2) (Z1 Z6 (Z1 Z6 Zb))) (Z0 (Z0 (Z0 Z9))))))) rfl T.n_tuple Q8))
    refine Z7 ?_ ?_
    ·exact (by refine J2 (i:=7) (tgs:=["_law_old_here"]) (cn:=["_law_text"]) (caps:=[4]) (g:=UG 0) (hsw:=?h1) (hs:=?h2) ?a1 ?a2 ?a3 ?a4 ?a5 ?a6 ?a7 ?a8 ?a9 ?a10 ?a11;(case a1=>exact N0);(case a2=>exact rfl);(case a3=>exact rfl);(case a4=>exact rfl);(case a5=>exact⟨by decide +kernel,rfl,by decide +kernel,ZX (Z2 QM).names rfl (by decide +kernel),⟨⟨rfl,.inl rfl,rfl⟩,trivial⟩⟩);(case a6=>exact (T4 (sv 6)));(case a7=>exact (Zu (by decide)));(case a8=>exact ZA);(case a9=>exact (λ_ _ _ _=>(ZC (i:=0) IJ rfl (Or.inl rfl))));(case a10=>exact (λ_ _ _ _=>YD));(case a11=>exact (λ_ _ _ _=>(Z8 G_2 (hr.mono (by omega)) rfl O_2.mgf O_2.fn.kp O_2.b (Z1 (sv 1) (Z1 (sv 0) Zb)) (Z0 (Z0 Z9)))));(case h1=>rfl);(case h2=>(intro _;rfl)))
    refine Z7 ?_ ?_
    ·exact (ZO (i:=8) N0 rfl (Or.inl rfl) (QS (Yt hr) (sv 7) (Qu rfl (Yt hr) (By (sv 7)) rfl T.n_min Yi)))
    refine Z7 ?_ ?_
    ·exact (Jr (CC (PC (Uf (Yo (Z8 G_6 (hr.mono (by omega)) rfl O_6.mgf O_6.fn.kp O_6.b (Z1 (Z8 G_7 (hr.mono (by omega)) rfl O_7.mgf O_7.fn.kp O_7.b (Z1 (sv 4) (Z1 (sv 6) Zb)) (Z0 (Z0 Z9))) (Z1 (sv 8) Zb)) (Z0 (Z0 Z9))))) (Bw (Uf (Yo (Z8 G_6 (hr.mono (by omega)) rfl O_6.mgf O_6.fn.kp O_6.b (Z1 (Z8 G_15 (hr.mono (by omega)) rfl O_15.mgf O_15.fn.kp O_15.b (Z1 (Z8 G_9 (hr.mono (by omega)) rfl O_9.mgf O_9.fn.kp O_9.b (Z1 (sv 4) (Z1 (Yu (Yt hr) (sv 6) (sv 8)) Zb)) (Z0 (Z0 Z9))) Zb) (Z0 Z9)) (Z1 (Qu rfl (Yt hr) (By (sv 7)) rfl T.n_min Yi) Zb)) (Z0 (Z0 Z9)))))))) (Zp (ZG BH)) Q3)
    refine Z7 ?_ ?_
    ·exact (ZO (i:=9) N0 rfl (Or.inl rfl) (Zl Zc (sv 7) (BF (Z1 (Zl YJ Z6 (PP (TV (KA (Yt hr)) (sv 4) YI (Q4 _)) rfl T.n_int UR)) Zb))))
    refine Z7 ?_ ?_
    ·exact (Jr (Uf (Yo (Z8 G_6 (hr.mono (by omega)) rfl O_6.mgf O_6.fn.kp O_6.b (Z1 (Z8 G_7 (hr.mono (by omega)) rfl O_7.mgf O_7.fn.kp O_7.b (Z1 (sv 4) (Z1 (Zl Zc (sv 6) (J5 (Z1 (sv 4) Zb))) Zb)) (Z0 (Z0 Z9))) (Z1 (QS (Yt hr) (sv 9) (Qu rfl (Yt hr) (By (sv 9)) rfl T.n_min Yi)) Zb)) (Z0 (Z0 Z9))))) (Zp (ZG BH)) Q3)
    refine Z7 ?_ ?_
    ·exact (ZO (i:=10) N0 rfl (Or.inl rfl) (Zl Zc (BD (sv 7) (ZQ BE)) (sv 7)))
    exact Zp (Jr (Uf (Yo (Z8 G_6 (hr.mono (by omega)) rfl O_6.mgf O_6.fn.kp O_6.b (Z1 (Z8 G_7 (hr.mono (by omega)) rfl O_7.mgf O_7.fn.kp O_7.b (Z1 (sv 4) (Z1 (Zl Zc (BD (sv 6) (ZQ BE)) (sv 6)) Zb)) (Z0 (Z0 Z9))) (Z1 (QS (Yt hr) (sv 10) (Qu rfl (Yt hr) (By (sv 10)) rfl T.n_min Yi)) Zb)) (Z0 (Z0 Z9))))) (Zp (ZG BH)) Q3)))
   (Zp (ZG BH)))
end
theorem all_mk {l:PySem.W.OpenLaw}{w:World}{K:W3}{h:Heap}{mg:Str->Option Value}{fa:Addr}(X:K.In h)(G:h.Ns Wy mg)(hfa:mg "law" = some (.ref fa))
  {od0 an0:Option Addr} {sl0:Array (Option Value)} {oc0 kV0 dc0 pm0 cd0 ct0:Value} {f0:Addr}
  {od1 an1:Option Addr} {sl1:Array (Option Value)} {oc1 kV1 dc1 pm1 cd1 ct1:Value} {f1:Addr}
  {od2 an2:Option Addr} {sl2:Array (Option Value)} {oc2 kV2 dc2 pm2 cd2 ct2:Value} {f2:Addr}
  {od3 an3:Option Addr} {sl3:Array (Option Value)} {oc3 kV3 dc3 pm3 cd3 ct3:Value} {f3:Addr}
  {od4 an4:Option Addr} {sl4:Array (Option Value)} {oc4 kV4 dc4 pm4 cd4 ct4:Value} {f4:Addr}
  {od5 an5:Option Addr} {sl5:Array (Option Value)} {oc5 kV5 dc5 pm5 cd5 ct5:Value} {f5:Addr}
  {od6 an6:Option Addr} {sl6:Array (Option Value)} {oc6 kV6 dc6 pm6 cd6 ct6:Value} {f6:Addr}
  {od7 an7:Option Addr} {sl7:Array (Option Value)} {oc7 kV7 dc7 pm7 cd7 ct7:Value} {f7:Addr}
  {od8 an8:Option Addr} {sl8:Array (Option Value)} {oc8 kV8 dc8 pm8 cd8 ct8:Value} {f8:Addr}
  {od9 an9:Option Addr} {sl9:Array (Option Value)} {oc9 kV9 dc9 pm9 cd9 ct9:Value} {f9:Addr}
  {od10 an10:Option Addr} {sl10:Array (Option Value)} {oc10 kV10 dc10 pm10 cd10 ct10:Value} {f10:Addr}
  {od11 an11:Option Addr} {sl11:Array (Option Value)} {oc11 kV11 dc11 pm11 cd11 ct11:Value} {f11:Addr}
  {od12 an12:Option Addr} {sl12:Array (Option Value)} {oc12 kV12 dc12 pm12 cd12 ct12:Value} {f12:Addr}
  {od13 an13:Option Addr} {sl13:Array (Option Value)} {oc13 kV13 dc13 pm13 cd13 ct13:Value} {f13:Addr}
  {od14 an14:Option Addr} {sl14:Array (Option Value)} {oc14 kV14 dc14 pm14 cd14 ct14:Value} {f14:Addr}
  {od15 an15:Option Addr} {sl15:Array (Option Value)} {oc15 kV15 dc15 pm15 cd15 ct15:Value} {f15:Addr}
  (a0:WH K Wy "piece_weight" = some (some (.ref f0))) (l0:K.lookup f0=some ⟨oc0,od0,.func (WW "piece_weight" "piece_weight" (Zw Zi) (Zr Zi) (Z2 Zi) .none kV0 dc0 pm0 an0 cd0 ct0),sl0⟩) (c0:WV K cd0 "piece_weight" = true) (k0:WT K (.ref f0)=true)
  (a1:WH K Wy "weight" = some (some (.ref f1))) (l1:K.lookup f1=some ⟨oc1,od1,.func (WW "weight" "weight" (Zw Ya) (Zr Ya) (Z2 Ya) .none kV1 dc1 pm1 an1 cd1 ct1),sl1⟩) (c1:WV K cd1 "weight" = true) (k1:WT K (.ref f1)=true)
  (a2:WH K Wy "pieces_ahead" = some (some (.ref f2))) (l2:K.lookup f2=some ⟨oc2,od2,.func (WW "pieces_ahead" "pieces_ahead" (Zw Ze) (Zr Ze) (Z2 Ze) .none kV2 dc2 pm2 an2 cd2 ct2),sl2⟩) (c2:WV K cd2 "pieces_ahead" = true) (k2:WT K (.ref f2)=true)
  (a3:WH K Wy "signs_in" = some (some (.ref f3))) (l3:K.lookup f3=some ⟨oc3,od3,.func (WW "signs_in" "signs_in" (Zw ZR) (Zr ZR) (Z2 ZR) .none kV3 dc3 pm3 an3 cd3 ct3),sl3⟩) (c3:WV K cd3 "signs_in" = true) (k3:WT K (.ref f3)=true)
  (a4:WH K Wy "put_ahead" = some (some (.ref f4))) (l4:K.lookup f4=some ⟨oc4,od4,.func (WW "put_ahead" "put_ahead" (Zw ZK) (Zr ZK) (Z2 ZK) .none kV4 dc4 pm4 an4 cd4 ct4),sl4⟩) (c4:WV K cd4 "put_ahead" = true) (k4:WT K (.ref f4)=true)
  (a5:WH K Wy "parcel_weighed" = some (some (.ref f5))) (l5:K.lookup f5=some ⟨oc5,od5,.func (WW "parcel_weighed" "parcel_weighed" (Zw Zd) (Zr Zd) (Z2 Zd) .none kV5 dc5 pm5 an5 cd5 ct5),sl5⟩) (c5:WV K cd5 "parcel_weighed" = true) (k5:WT K (.ref f5)=true)
  (a6:WH K Wy "parcel" = some (some (.ref f6))) (l6:K.lookup f6=some ⟨oc6,od6,.func (WW "parcel" "parcel" (Zw Yp) (Zr Yp) (Z2 Yp) .none kV6 dc6 pm6 an6 cd6 ct6),sl6⟩) (c6:WV K cd6 "parcel" = true) (k6:WT K (.ref f6)=true)
  (a7:WH K Wy "best_old" = some (some (.ref f7))) (l7:K.lookup f7=some ⟨oc7,od7,.func (WW "best_old" "best_old" (Zw ZM) (Zr ZM) (Z2 ZM) .none kV7 dc7 pm7 an7 cd7 ct7),sl7⟩) (c7:WV K cd7 "best_old" = true) (k7:WT K (.ref f7)=true)
  (a8:WH K Wy "_law_cell" = some (some (.ref f8))) (l8:K.lookup f8=some ⟨oc8,od8,.func (WW "_law_cell" "_law_cell" (Zw Yq) (Zr Yq) (Z2 Yq) .none kV8 dc8 pm8 an8 cd8 ct8),sl8⟩) (c8:WV K cd8 "_law_cell" = true) (k8:WT K (.ref f8)=true)
  (a9:WH K Wy "_law_mix" = some (some (.ref f9))) (l9:K.lookup f9=some ⟨oc9,od9,.func (WW "_law_mix" "_law_mix" (Zw Yg) (Zr Yg) (Z2 Yg) .none kV9 dc9 pm9 an9 cd9 ct9),sl9⟩) (c9:WV K cd9 "_law_mix" = true) (k9:WT K (.ref f9)=true)
  (a10:WH K Wy "_law_same" = some (some (.ref f10))) (l10:K.lookup f10=some ⟨oc10,od10,.func (WW "_law_same" "_law_same" (Zw Yb) (Zr Yb) (Z2 Yb) .none kV10 dc10 pm10 an10 cd10 ct10),sl10⟩) (c10:WV K cd10 "_law_same" = true) (k10:WT K (.ref f10)=true)
  (a11:WH K Wy "_law_perm" = some (some (.ref f11))) (l11:K.lookup f11=some ⟨oc11,od11,.func (WW "_law_perm" "_law_perm" (Zw Yc) (Zr Yc) (Z2 Yc) .none kV11 dc11 pm11 an11 cd11 ct11),sl11⟩) (c11:WV K cd11 "_law_perm" = true) (k11:WT K (.ref f11)=true)
  (a12:WH K Wy "_law_edited" = some (some (.ref f12))) (l12:K.lookup f12=some ⟨oc12,od12,.func (WW "_law_edited" "_law_edited" (Zw ZN) (Zr ZN) (Z2 ZN) .none kV12 dc12 pm12 an12 cd12 ct12),sl12⟩) (c12:WV K cd12 "_law_edited" = true) (k12:WT K (.ref f12)=true)
  (a13:WH K Wy "_law_old" = some (some (.ref f13))) (l13:K.lookup f13=some ⟨oc13,od13,.func (WW "_law_old" "_law_old" (Zw Yx) (Zr Yx) (Z2 Yx) .none kV13 dc13 pm13 an13 cd13 ct13),sl13⟩) (c13:WV K cd13 "_law_old" = true) (k13:WT K (.ref f13)=true)
  (a14:WH K Wy "_law_least" = some (some (.ref f14))) (l14:K.lookup f14=some ⟨oc14,od14,.func (WW "_law_least" "_law_least" (Zw ZU) (Zr ZU) (Z2 ZU) .none kV14 dc14 pm14 an14 cd14 ct14),sl14⟩) (c14:WV K cd14 "_law_least" = true) (k14:WT K (.ref f14)=true)
  (a15:WH K Wy "law" = some (some (.ref f15))) (l15:K.lookup f15=some ⟨oc15,od15,.func (WW "law" "law" (Zw QM) (Zr QM) (Z2 QM) .none kV15 dc15 pm15 an15 cd15 ct15),sl15⟩) (c15:WV K cd15 "law" = true) (k15:WT K (.ref f15)=true)
  (z_all:WH K Wy "all" = some none)
  (z_bool:WH K Wy "bool" = some none)
  (z_int:WH K Wy "int" = some none)
  (z_isinstance:WH K Wy "isinstance" = some none)
  (z_len:WH K Wy "len" = some none)
  (z_list:WH K Wy "list" = some none)
  (z_min:WH K Wy "min" = some none)
  (z_range:WH K Wy "range" = some none)
  (z_reversed:WH K Wy "reversed" = some none)
  (z_str:WH K Wy "str" = some none)
  (z_sum:WH K Wy "sum" = some none)
  (z_tuple:WH K Wy "tuple" = some none)
  (z_zip:WH K Wy "zip" = some none)
  {t_PIECE_WEIGHT:Tok} (y_PIECE_WEIGHT:WH K Wy "PIECE_WEIGHT" = some (some (.int 2 t_PIECE_WEIGHT))) :
  ∃fd:FuncData,(∀(s:Shared) (v:Value),BindsTo s fd ⟨[v],[]⟩ [("_law_script",v)])/\∀base:Heap,K.In base->base.Ns Wy mg->FnOk l.prog w K mg base CX0 14 fa fd ["_law_script"] (spD K 1 F_law):=by
 have e:=hfa.symm.trans (V4 X G a15)
 cases e
 have T:Txt K mg:=⟨WZ X G z_all,WZ X G z_bool,WZ X G z_int,WZ X G z_isinstance,WZ X G z_len,WZ X G z_list,WZ X G z_min,WZ X G z_range,WZ X G z_reversed,WZ X G z_str,WZ X G z_sum,WZ X G z_tuple,WZ X G z_zip,⟨_,V4 X G y_PIECE_WEIGHT⟩⟩
 have Fn0:=Y9 (st:=Zi) l0 c0 k0
 have O_11:Own K mg "piece_weight" Zi _ _ ["piece"]:=⟨Fn0,V4 X G a0,Fn0.binds (ps:=["piece"]) λ_ _ _ _ _ _ us hl=>match us,hl with|[_],_=>rfl⟩
 have Fn1:=Y9 (st:=Ya) l1 c1 k1
 have O_15:Own K mg "weight" Ya _ _ ["parcel"]:=⟨Fn1,V4 X G a1,Fn1.binds (ps:=["parcel"]) λ_ _ _ _ _ _ us hl=>match us,hl with|[_],_=>rfl⟩
 have Fn2:=Y9 (st:=Ze) l2 c2 k2
 have O_12:Own K mg "pieces_ahead" Ze _ _ ["rest", "old"]:=⟨Fn2,V4 X G a2,Fn2.binds (ps:=["rest", "old"]) λ_ _ _ _ _ _ us hl=>match us,hl with|[_,_],_=>rfl⟩
 have Fn3:=Y9 (st:=ZR) l3 c3 k3
 have O_14:Own K mg "signs_in" ZR _ _ ["piece"]:=⟨Fn3,V4 X G a3,Fn3.binds (ps:=["piece"]) λ_ _ _ _ _ _ us hl=>match us,hl with|[_],_=>rfl⟩
 have Fn4:=Y9 (st:=ZK) l4 c4 k4
 have O_13:Own K mg "put_ahead" ZK _ _ ["piece", "weighed"]:=⟨Fn4,V4 X G a4,Fn4.binds (ps:=["piece", "weighed"]) λ_ _ _ _ _ _ us hl=>match us,hl with|[_,_],_=>rfl⟩
 have Fn5:=Y9 (st:=Zd) l5 c5 k5
 have O_10:Own K mg "parcel_weighed" Zd _ _ ["text", "old"]:=⟨Fn5,V4 X G a5,Fn5.binds (ps:=["text", "old"]) λ_ _ _ _ _ _ us hl=>match us,hl with|[_,_],_=>rfl⟩
 have Fn6:=Y9 (st:=Yp) l6 c6 k6
 have O_9:Own K mg "parcel" Yp _ _ ["text", "old"]:=⟨Fn6,V4 X G a6,Fn6.binds (ps:=["text", "old"]) λ_ _ _ _ _ _ us hl=>match us,hl with|[_,_],_=>rfl⟩
 have Fn7:=Y9 (st:=ZM) l7 c7 k7
 have O_7:Own K mg "best_old" ZM _ _ ["text", "olds"]:=⟨Fn7,V4 X G a7,Fn7.binds (ps:=["text", "olds"]) λ_ _ _ _ _ _ us hl=>match us,hl with|[_,_],_=>rfl⟩
 have Fn8:=Y9 (st:=Yq) l8 c8 k8
 have O_0:Own K mg "_law_cell" Yq _ _ ["_law_script", "_law_k"]:=⟨Fn8,V4 X G a8,Fn8.binds (ps:=["_law_script", "_law_k"]) λ_ _ _ _ _ _ us hl=>match us,hl with|[_,_],_=>rfl⟩
 have Fn9:=Y9 (st:=Yg) l9 c9 k9
 have O_3:Own K mg "_law_mix" Yg _ _ ["_law_cell_here", "_law_prime", "_law_many"]:=⟨Fn9,V4 X G a9,Fn9.binds (ps:=["_law_cell_here", "_law_prime", "_law_many"]) λ_ _ _ _ _ _ us hl=>match us,hl with|[_,_,_],_=>rfl⟩
 have Fn10:=Y9 (st:=Yb) l10 c10 k10
 have O_6:Own K mg "_law_same" Yb _ _ ["_law_found", "_law_due"]:=⟨Fn10,V4 X G a10,Fn10.binds (ps:=["_law_found", "_law_due"]) λ_ _ _ _ _ _ us hl=>match us,hl with|[_,_],_=>rfl⟩
 have Fn11:=Y9 (st:=Yc) l11 c11 k11
 have O_5:Own K mg "_law_perm" Yc _ _ ["_law_cell_here", "_law_many"]:=⟨Fn11,V4 X G a11,Fn11.binds (ps:=["_law_cell_here", "_law_many"]) λ_ _ _ _ _ _ us hl=>match us,hl with|[_,_],_=>rfl⟩
 have Fn12:=Y9 (st:=ZN) l12 c12 k12
 have O_1:Own K mg "_law_edited" ZN _ _ ["_law_cell_here", "_law_old_here"]:=⟨Fn12,V4 X G a12,Fn12.binds (ps:=["_law_cell_here", "_law_old_here"]) λ_ _ _ _ _ _ us hl=>match us,hl with|[_,_],_=>rfl⟩
 have Fn13:=Y9 (st:=Yx) l13 c13 k13
 have O_4:Own K mg "_law_old" Yx _ _ ["_law_cell_here"]:=⟨Fn13,V4 X G a13,Fn13.binds (ps:=["_law_cell_here"]) λ_ _ _ _ _ _ us hl=>match us,hl with|[_],_=>rfl⟩
 have Fn14:=Y9 (st:=ZU) l14 c14 k14
 have O_2:Own K mg "_law_least" ZU _ _ ["_law_text", "_law_old_here"]:=⟨Fn14,V4 X G a14,Fn14.binds (ps:=["_law_text", "_law_old_here"]) λ_ _ _ _ _ _ us hl=>match us,hl with|[_,_],_=>rfl⟩
 have Fn15:=Y9 (st:=QM) l15 c15 k15
 have O_8:Own K mg "law" QM _ _ ["_law_script"]:=⟨Fn15,V4 X G a15,Fn15.binds (ps:=["_law_script"]) λ_ _ _ _ _ _ us hl=>match us,hl with|[_],_=>rfl⟩
 refine⟨WW "law" "law" (Zw QM) (Zr QM) (Z2 QM) .none kV15 dc15 pm15 an15 cd15 ct15,λs v=>.of_eq rfl,λbase _ _=>?_⟩
 have G_11:=CZ (P:=l.prog) (w:=w) (base:=base) T O_11
 have G_15:=CU (P:=l.prog) (w:=w) (base:=base) T O_15 O_11 G_11
 have G_12:=CY (P:=l.prog) (w:=w) (base:=base) T O_12
 have G_14:=CV (P:=l.prog) (w:=w) (base:=base) T O_14
 have G_13:=CW (P:=l.prog) (w:=w) (base:=base) T O_13 O_11 G_11
 have G_10:=Ha (P:=l.prog) (w:=w) (base:=base) T O_10 O_12 G_12 O_14 G_14 O_13 G_13
 have G_9:=IA (P:=l.prog) (w:=w) (base:=base) T O_9 O_10 G_10
 have G_7:=IC (P:=l.prog) (w:=w) (base:=base) T O_7 O_10 G_10
 have G_0:=II (P:=l.prog) (w:=w) (base:=base) T O_0
 have G_3:=IF (P:=l.prog) (w:=w) (base:=base) T O_3
 have G_6:=HL (P:=l.prog) (w:=w) (base:=base) T O_6 12
 have G_5:=ID (P:=l.prog) (w:=w) (base:=base) T O_5 O_3 G_3
 have G_1:=IH (P:=l.prog) (w:=w) (base:=base) T O_1 O_3 G_3
 have G_4:=IE (P:=l.prog) (w:=w) (base:=base) T O_4 O_3 G_3
 have G_2:=IG (P:=l.prog) (w:=w) (base:=base) T O_2
 exact IB T O_8 O_15 G_15 O_9 G_9 O_7 G_7 O_0 G_0 O_3 G_3 O_6 G_6 O_5 G_5 O_1 G_1 O_4 G_4 O_2 G_2
end K23
namespace K23
open PySem L2 DL
theorem Qe {c p m:Int}{S:Sto}(hp:0<p)(hm:0<m):ZE [.int c,.int p,.int m] S=some (.int (c*48271%p%m),S):=by
 unfold ZE
 simp only [EVS,W8,W9,Wh,W4,Wi,Wj,Wa,Wb,W6,↓reduceIte,reduceCtorEq,W1,Wd,W5,Em,Ep,hp,hm]
theorem Tz (ns:List Int)(k:Nat):∃c:Int,∀S,ZZ [.scr ns,.int k] S=some (.int c,S):=by
 by_cases h:k<ns.length
 ·refine⟨ns[k],λS=>?_⟩
  unfold ZZ
  simp only [EVS,W8,W9,Wh,W4,Wi,Wj,Wa,Wb,W6,↓reduceIte,reduceCtorEq,W1,Wd,W5,AK,KK,Int.ofNat_lt,h,gIx,U6 (Wu h)]
 ·refine⟨0,λS=>?_⟩
  unfold ZZ
  simp only [EVS,W8,W9,Wh,W4,Wi,Wj,Wa,Wb,W6,↓reduceIte,reduceCtorEq,W1,Wd,W5,AK,KK,Int.ofNat_lt,h]
theorem J0:1000≤Wc:=by decide
theorem ixS {z:Str}{i:Int}{S:Sto}(hz:z.length≤Wc)(h0:0≤i)(h1:i<(cs z).length):gIx (.str z) (.int i) S=some (.str ⟨#[(cs z).getD i.toNat 0]⟩,S):=by
 obtain⟨a,ha,e1,e2⟩:=Cl (xs:=cs z) h0 h1
 show (if z.length≤Wc then (atI (cs z) i).map λc=>(D.str ⟨#[c]⟩,S) else none)=_
 rw [if_pos hz,e2]
 have:(cs z).getD i.toNat 0=a:=by simp [V8,e1]
 rw [this]
 rfl
theorem slS {z:Str}{lo hi:Option Int}{S:Sto}(hz:z.length≤Wc):slD (.str z) lo hi S=some (.str (Vc z lo hi),S):=if_pos hz
theorem Gz (x:Str)(a n:Nat)(hb:a+n≤(cs x).length):cs (Vc x (some (a:Int)) (some ((a:Int)+(n:Int))))=((cs x).drop a).take n:=by
 have h2:=StrLaws.sliceText_nat x (a:=a) (b:=a+n) (by omega) (by rw [Zn];exact hb)
 have e2:Vc x (some (a:Int)) (some ((a:Int)+(n:Int)))=W0w x (some (a:Int)) (some ((a+n:Nat):Int)):=rfl
 rw [e2,h2,show a+n-a=n by omega]
 simp [cs]
theorem JY (f:Nat->Nat):∀l:List Nat,((l.map λk=>(⟨#[f k]⟩:Str)).map (·.length)).sum=l.length
 |[]=>rfl
 |a :: l=>by rw [W1,W1,List.sum_cons,JY f l,V2];show 1+_=_;omega
theorem Jh (f:Nat->Nat):∀l:List Nat,(l.map λk=>(⟨#[f k]⟩:Str)).flatMap cs=l.map f
 |[]=>rfl
 |a :: l=>by rw [W1,List.flatMap_cons,Jh f l];rfl
theorem KD (c:Int):∃x:Str,(cs x).length≤60/\∀S,Qa [.int c] S=some (.str x,S):=by
 have key:∀(n:Int),0≤n->n≤60->∃x:Str,(cs x).length≤60/\∀S,Gk (Wm "") (Zt (YF 0 n.toNat) .no [none,some (.int c),some (.str (Wm "abc; "))] (gN 0) ZS Jl (YF 0 n.toNat) [] S)=some (.str x,S):=by
  intro n h0 h1
  have hz:(cs (Wm "abc; ")).length=5:=by decide +kernel
  let f:Nat->Nat:=λk=>(cs (Wm "abc; ")).getD ((c+13*(k:Int))*48271%9749%5).toNat 0
  have hn:n.toNat≤60:=by omega
  refine⟨⟨((Wr n.toNat).map f).toArray⟩,by rw [Tx];simp;omega,λS=>?_⟩
  rw [Yy,ZW (Wr n.toNat) (λk=>D.int (k:Nat)) (λk=>D.str ⟨#[f k]⟩) Y0 (by rw [V3];exact Wx hn (by decide)) λk hk=>⟨_,rfl,?_⟩]
  ·have e:(Wr n.toNat).map (λk=>D.str ⟨#[f k]⟩)=((Wr n.toNat).map λk=>(⟨#[f k]⟩:Str)).map D.str:=by rw [VA];rfl
   have he:(Wm "").length=0:=by decide +kernel
   rw [e,Nt (by rw [JY,he];simp;omega)]
   congr 2
   congr 1
   apply Qq
   rw [Qi,Tx,Jh]
  ·have m0:=Vu ((c+13*(k:Int))*48271%9749) (b:=5) (by decide)
   have m1:=Vv ((c+13*(k:Int))*48271%9749) (b:=5) (by decide)
   simp only [Jl,EVS,W8,W9,Wh,W4,Wi,Wj,Wa,Wb,W6,↓reduceIte,reduceCtorEq,W1,Wd,W5,UE,Qe]
   rw [ixS (by decide +kernel) m0 (by rw [hz];exact m1)]
 have m0:=Vu (c*48271%9769) (b:=14) (by decide)
 have m1:=Vv (c*48271%9769) (b:=14) (by decide)
 by_cases h:c*48271%9767%8=0
 ·obtain⟨x,hx,e⟩:=key 60 (by decide) (by decide)
  refine⟨x,hx,λS=>?_⟩
  unfold Qa
  simp only [EVS,W8,W9,Wh,W4,Wi,Wj,Wa,Wb,W6,↓reduceIte,reduceCtorEq,W1,Wd,W5,Qe,h,Ti (show -(2 ^ 62)≤(60:Int)/\(60:Int)<2 ^ 62 by decide)]
  rw [show (60:Nat)=Int.toNat 60 from rfl,e S]
  simp only [EVS,W8,W9,Wh,W4,Wi,Wj,Wa,Wb,W6,↓reduceIte,reduceCtorEq,W1,Wd,W5]
 ·obtain⟨x,hx,e⟩:=key (c*48271%9769%14) m0 (by omega)
  refine⟨x,hx,λS=>?_⟩
  unfold Qa
  simp only [EVS,W8,W9,Wh,W4,Wi,Wj,Wa,Wb,W6,↓reduceIte,reduceCtorEq,W1,Wd,W5,Qe,h,Ti (show -(2 ^ 62)≤c*48271%9769%14/\c*48271%9769%14<2 ^ 62 by omega),e S]
inductive Pc where
 |keep (b n:Nat)
 |new (w:Str)
abbrev sK:Str:=Wm "keep"
abbrev sN:Str:=Wm "new"
def enc:Pc->D
 | .keep b n=>.tup [.str sK,.int b,.int n]
 | .new w=>.tup [.str sN,.str w]
def po (old:Str):Pc->Str
 | .keep b n=>Vc old (some (b:Int)) (some ((b:Int)+(n:Int)))
 | .new w=>w
def okP (old:Str):Pc->Prop
 | .keep b n=>1≤n/\b+n≤(cs old).length
 | .new w=>1≤(cs w).length/\(cs w).length≤60
def wtP:Pc->Int
 | .keep _ _=>2
 | .new w=>2+(cs w).length
theorem kn:(sK=sN)=False:=eq_false (by decide +kernel)
def txt (old:Str)(ps:List Pc):Str:=⟨(ps.flatMap λp=>cs (po old p)).toArray⟩
def wts (ps:List Pc):Int:=(ps.map wtP).sum
theorem Bj {old:Str}{p:Pc}(h:okP old p)(S:Sto):Zx [enc p] S=some (.int (wtP p),S):=by
 unfold Zx
 cases p with
 |keep b n=>
  unfold enc
  simp only [EVS,W8,W9,Wh,W4,Wi,Wj,Wa,Wb,W6,↓reduceIte,reduceCtorEq,W1,Wd,W5,kn]
  rfl
 |new w=>
  unfold enc
  have hl:w.length≤Wc:=by rw [Zn];exact Wx h.2 (by decide)
  simp only [EVS,W8,W9,Wh,W4,Wi,Wj,Wa,Wb,W6,↓reduceIte,reduceCtorEq,W1,Wd,W5,Q6 hl]
  rw [Zn]
  rfl
theorem Bi {old:Str}{ps:List Pc}(hp:∀p∈ps,okP old p)(hl:ps.length≤100)(S:Sto):Qk [.tup (ps.map enc)] S=some (.int (wts ps),S):=by
 unfold Qk
 simp only [EVS,W8,W9,Wh,W4,Wi,Wj,Wa,Wb,W6,↓reduceIte,reduceCtorEq,W1,Wd,W5]
 rw [ZW ps enc (λp=>D.int (wtP p)) Y0 (Wx hl (by decide)) λp hq=>⟨_,rfl,by simp only [JL,EVS,W8,W9,Wh,W4,Wi,Wj,Wa,Wb,W6,↓reduceIte,reduceCtorEq,W1,Wd,W5,Bj (hp p hq)]⟩]
 have e:ps.map (λp=>D.int (wtP p))=(ps.map wtP).map D.int:=by rw [VA];rfl
 rw [e,Hw]
 simp only [EVS,W8,W9,Wh,W4,Wi,Wj,Wa,Wb,W6,↓reduceIte,reduceCtorEq,W1,Wd,W5]
 rfl
theorem IY:∀(x:Str) (S:Sto),Fd "tuple" (some (.str x,S))=some (.bl false,S):=λ_ _=>rfl
theorem D0:∀(x:Str) (S:Sto),Fd "bool" (some (.str x,S))=some (.bl false,S):=λ_ _=>rfl
theorem IZ:∀(x:Str) (S:Sto),Ly "int" "str" (some (.str x,S))=some (.bl true,S):=λ_ _=>rfl
theorem D3:∀(x:Int) (S:Sto),Fd "tuple" (some (.int x,S))=some (.bl false,S):=λ_ _=>rfl
theorem D5:∀(x:Int) (S:Sto),Fd "bool" (some (.int x,S))=some (.bl false,S):=λ_ _=>rfl
theorem D4:∀(x:Int) (S:Sto),Ly "int" "str" (some (.int x,S))=some (.bl true,S):=λ_ _=>rfl
theorem IX:∀(l:List D) (S:Sto),Fd "tuple" (some (.tup l,S))=some (.bl true,S):=λ_ _=>rfl
theorem LL (x:Str)(S:Sto):gIs (.str x) .non S=some (.bl false,S):=rfl
theorem K8 (x:Int)(S:Sto):gIs (.int x) .non S=some (.bl false,S):=rfl
def SD:Nat->D->Prop
 |_,.int _=>True
 |_,.str _=>True
 |n+1,.tup ds=>ds.length≤100/\∀d∈ds,SD n d
 |_,_=>False
theorem Kv:∀(n:Nat) (d:D) (k:Nat) (S:Sto),SD n d->ZP (n+k+1) [d,d] S=some (.bl true,S)
 |n,.int i,k,S,_=>by
  show J6 2 2 (YA (ZP (n+k))) _ S=_
  simp only [YA,EVS,W8,W9,Wh,W4,Wi,Wj,Wa,Wb,W6,↓reduceIte,reduceCtorEq,W1,Wd,W5,D3,D5,D4,K8]
 |n,.str i,k,S,_=>by
  show J6 2 2 (YA (ZP (n+k))) _ S=_
  simp only [YA,EVS,W8,W9,Wh,W4,Wi,Wj,Wa,Wb,W6,↓reduceIte,reduceCtorEq,W1,Wd,W5,IY,D0,IZ,LL]
 |n+1,.tup ds,k,S,h=>by
  unfold SD at h
  show J6 2 2 (YA (ZP (n+1+k))) _ S=_
  simp only [YA,EVS,W8,W9,Wh,W4,Wi,Wj,Wa,Wb,W6,↓reduceIte,reduceCtorEq,W1,Wd,W5,IX]
  have hz:Ks ds ds=ds.map λx=>D.tup [x,x]:=by
   unfold Ks
   have:∀l:List D,(l.zip l).map (λp=>D.tup [p.1,p.2])=l.map λx=>D.tup [x,x]:=λl=>by
    induction l with
    |nil=>rfl
    |cons x xs ih=>simp only [WY,W1,ih]
   first|exact this ds|simpa using this ds
  rw [hz,ZW ds (λx=>D.tup [x,x]) (λ_=>D.bl true) Y0 (Wx h.1 (by decide)) λx hx=>⟨_,rfl,?_⟩]
  ·have e:ds.map (λ_=>D.bl true)=(ds.map λ_=>true).map D.bl:=by rw [VA];rfl
   rw [e,He]
   have:(ds.map λ_=>true).all id=true:=by simp
   simp only [EVS,W8,W9,Wh,W4,Wi,Wj,Wa,Wb,W6,↓reduceIte,reduceCtorEq,W1,Wd,W5,this]
  ·simp only [EVS,W8,W9,Wh,W4,Wi,Wj,Wa,Wb,W6,↓reduceIte,reduceCtorEq,W1,Wd,W5]
   have:=Kv n x k S (h.2 x hx)
   rw [show n+1+k=n+k+1 by omega]
   exact this
 |0,.tup _,_,_,h=>h.elim
 |0,.non,_,_,h=>h.elim
 |0,.bl _,_,_,h=>h.elim
 |0,.ref _,_,_,h=>h.elim
 |0,.scr _,_,_,h=>h.elim
 |_+1,.non,_,_,h=>h.elim
 |_+1,.bl _,_,_,h=>h.elim
 |_+1,.ref _,_,_,h=>h.elim
 |_+1,.scr _,_,_,h=>h.elim
theorem T7 (s sub:Str)(hi limit:Nat):∀(l:List Nat) (st:Array Nat×Nat),(∀i∈st.fst.toList,i+sub.length≤hi/\Builtin.Str.subAt s sub i=true)->∀i∈(forIn l st (StrLaws.occBody s sub hi limit)).run.fst.toList,i+sub.length≤hi/\Builtin.Str.subAt s sub i=true
 |[],st,h=>h
 |a :: l,st,h=>by
  rw [W0L]
  unfold StrLaws.occBody
  split
  ·rename_i hc
   refine T7 s sub hi limit l _ λi hi'=>?_
   simp only [Array.toList_push,W03,List.mem_singleton] at hi'
   rcases hi' with z|rfl
   ·exact h i z
   ·exact⟨hc.1.2,hc.2⟩
  ·exact T7 s sub hi limit l _ h
def inO (old w:Str):Bool:=!(VX old w 0 old.length 1).isEmpty
def fd (old w:Str):Nat:=(Txt.find old w).toNat
theorem LQ (old w:Str)(S:Sto):gIn (.str w) (.str old) S=some (.bl (inO old w),S):=rfl
theorem EJ {old w:Str}(h:inO old w=true):Txt.find old w=(fd old w:Int)/\fd old w+(cs w).length≤(cs old).length/\((cs old).drop (fd old w)).take (cs w).length=cs w:=by
 unfold inO at h
 cases e:VX old w 0 old.length 1 with
 |nil=>rw [e] at h;cases h
 |cons i r=>
  have h1:Txt.find old w=(i:Int):=by
   show (match VX old w 0 old.length 1 with|i :: _=>(i:Int)|[]=>-1)=_
   rw [e]
  have h2:=T7 old w old.length 1 (List.range' 0 (old.length+1-0)) (#[],0) (λi hi=>by simp at hi) i (by
   have:=StrLaws.occ_eq old w 0 old.length 1
   rw [e] at this
   rw [←this]
   exact WR)
  have h3:fd old w=i:=by unfold fd;rw [h1];rfl
  rw [h3]
  refine⟨h1,by rw [←Zn,←Zn];exact h2.1,?_⟩
  have h4:=h2.2
  rw [StrLaws.subAt_eq] at h4
  have h5:=eq_of_beq h4
  rw [←Zn]
  exact h5
def beg (r:Str)(i:Nat):Str:=Vc r none (some (((i+1:Nat):Int)))
theorem Qj (r:Str)(i:Nat):cs (beg r i)=(cs r).take (i+1):=Kj r (i+1)
def news (r:Str):List Pc:=(Wr (cs r).length).map λi=>Pc.new (beg r i)
def keeps (old r:Str):List Pc:=((Wr (cs r).length).filter λi=>inO old (beg r i)).map λi=>Pc.keep (fd old (beg r i)) (i+1)
theorem TW (n:Nat):YF 1 n=(Wr n).map λi=>D.int ((i+1:Nat):Int):=by
 unfold YF
 refine W0T λi _=>?_
 congr 1
 omega
theorem QT {S:Sto}{n:Nat}{ds:List D}(h:S[n]? = some (.lst ds)):NH (some (.ref n,S))=some ((ds,.lst n),S):=by
 show NM (.ref n) S=_
 dsimp only [NM]
 rw [h]
theorem F9 {S:Sto}{n m:Nat}{xs ys:List D}(h1:S[n]? = some (.lst xs))(h2:S[m]? = some (.lst ys))(hz:xs.length+ys.length≤1000):Y1 (.ref n) (.ref m) S=some (.ref S.length,S++[.lst (xs++ys)]):=by
 dsimp only [Y1]
 rw [h1,h2]
 exact if_pos (Wx hz (by decide))
theorem Kc {S:Sto}{xs:List D}{G:Sto}:(S++[Ob.lst xs]++G)[S.length]? = some (.lst xs):=by
 rw [WX,WP (Wp _),W0C]
 rfl
theorem Kn {old r:Str}(ho:(cs old).length≤60)(hr:(cs r).length≤60)(S:Sto):∃m G,ZF [.str r,.str old] S=some (.ref m,S++G)/\S.length≤m/\(S++G)[m]? = some (.lst ((news r++keeps old r).map enc)):=by
 have lr:r.length≤Wc:=by rw [Zn];exact Wx hr (by decide)
 have hb:∀i,(beg r i).length≤Wc:=λi=>by rw [Zn,Qj,WL];exact Wx (Wx (Nat.min_le_right _ _) hr) (by decide)
 let B:List D:=(Wr (cs r).length).map λi=>D.str (beg r i)
 have hB:B.length=(cs r).length:=by simp [B]
 have hz:(Wr (cs r).length).length≤Wc:=by rw [V3];exact Wx hr (by decide)
 have c1:∀S:Sto,Zt (YF 1 (cs r).length) .no [none,some (.str r)] (gN 0) ZS Y7 (YF 1 (cs r).length) [] S=some (B,S):=λS=>by
  rw [TW,ZW (Wr (cs r).length) (λi=>D.int ((i+1:Nat):Int)) (λi=>D.str (beg r i)) Y0 hz λi hi=>⟨_,rfl,by simp only [Y7,EVS,W8,W9,Wh,W4,Wi,Wj,Wa,Wb,W6,↓reduceIte,reduceCtorEq,W1,Wd,W5,slS lr];rfl⟩]
 have c2:∀{n:Nat} {S:Sto},S[n]? = some (.lst B)->Zt B (.lst n) [none] (gN 0) ZS Y6 B [] S=some ((news r).map enc,S):=λ{n S} h=>by
  rw [ZW (Wr (cs r).length) (λi=>D.str (beg r i)) (λi=>enc (.new (beg r i))) (show TF (.lst n) B S from h) hz λi hi=>⟨_,rfl,by simp only [Y6,EVS,W8,W9,Wh,W4,Wi,Wj,Wa,Wb,W6,↓reduceIte,reduceCtorEq,W1,Wd,W5];rfl⟩]
  unfold news
  rw [VA]
  rfl
 have c3:∀{n:Nat} {S:Sto},S[n]? = some (.lst B)->Zt B (.lst n) [none,some (.str old)] (gN 0) Y8 Y5 B [] S=some ((keeps old r).map enc,S):=λ{n S} h=>by
  rw [GA (Wr (cs r).length) (λi=>D.str (beg r i)) (λi=>inO old (beg r i)) (λi=>enc (.keep (fd old (beg r i)) (i+1))) (show TF (.lst n) B S from h) hz λi hi=>⟨_,rfl,by simp only [Y8,EVS,W8,W9,Wh,W4,Wi,Wj,Wa,Wb,W6,↓reduceIte,reduceCtorEq,W1,Wd,W5,LQ],λhin=>?_⟩]
  ·unfold keeps
   rw [VA]
   rfl
  ·have hi':i<(cs r).length:=by simpa using hi
   have hl:(cs (beg r i)).length=i+1:=by rw [Qj,WL];omega
   simp only [Y5,EVS,W8,W9,Wh,W4,Wi,Wj,Wa,Wb,W6,↓reduceIte,reduceCtorEq,W1,Wd,W5,(EJ hin).1,Q6 (hb i),Zn,hl]
   rfl
 have hn:((((cs r).length:Nat):Int)+1-1).toNat=(cs r).length:=by omega
 refine⟨(S++[Ob.lst B]++[Ob.lst ((news r).map enc)]++[Ob.lst ((keeps old r).map enc)]).length,[Ob.lst B]++[Ob.lst ((news r).map enc)]++[Ob.lst ((keeps old r).map enc)]++[Ob.lst ((news r++keeps old r).map enc)],?_,by simp,?_⟩
 ·have g1:(S++[Ob.lst B])[S.length]? = some (.lst B):=Ww ..
  have g2:(S++[Ob.lst B]++[Ob.lst ((news r).map enc)])[S.length]? = some (.lst B):=Kc
  have g3:=F9 (S:=S++[Ob.lst B]++[Ob.lst ((news r).map enc)]++[Ob.lst ((keeps old r).map enc)]) (n:=(S++[Ob.lst B]).length) (m:=(S++[Ob.lst B]++[Ob.lst ((news r).map enc)]).length) Kc (Ww ..) (by
   rw [Wg,Wg]
   have h1:(news r).length=(cs r).length:=by simp [news]
   have h2:(keeps old r).length≤(cs r).length:=by
    unfold keeps
    rw [Wg]
    exact Wx (List.length_filter_le ..) (by simp)
   omega)
  rw [←Va] at g3
  unfold ZF
  simp only [EVS,W8,W9,Wh,W4,Wi,Wj,Wa,Wb,W6,↓reduceIte,reduceCtorEq,W1,Wd,W5,Q6 lr,Zn,Me (show -(2 ^ 62)≤(1:Int)/\(1:Int)<2 ^ 62/\-(2 ^ 62)≤(((cs r).length:Nat):Int)+1/\(((cs r).length:Nat):Int)+1<2 ^ 62 by omega),hn,c1,QT g1,c2 g1,QT g2,c3 g2,g3]
  have ht:∀(S':Sto) (k:Nat),S.length≤k->UX S (.ref k,S')=(.ref k,S'):=λS' k hk=>by
   unfold UX
   rw [if_neg]
   intro z
   have:=z.2
   unfold JF at this
   have:=of_decide_eq_true this
   omega
  rw [ht _ _ (by simp)]
  simp only [WX]
 ·have:S++([Ob.lst B]++[Ob.lst ((news r).map enc)]++[Ob.lst ((keeps old r).map enc)]++[Ob.lst ((news r++keeps old r).map enc)])=S++[Ob.lst B]++[Ob.lst ((news r).map enc)]++[Ob.lst ((keeps old r).map enc)]++[Ob.lst ((news r++keeps old r).map enc)]:=by simp only [WX]
  rw [this]
  exact Ww ..
def sg:Pc->Nat
 | .keep _ n=>n
 | .new w=>(cs w).length
theorem Mx {old:Str}{p:Pc}(h:okP old p)(S:Sto):Yv [enc p] S=some (.int (sg p:Nat),S):=by
 unfold Yv
 cases p with
 |keep b n=>
  unfold enc
  simp only [EVS,W8,W9,Wh,W4,Wi,Wj,Wa,Wb,W6,↓reduceIte,reduceCtorEq,W1,Wd,W5,kn]
  rfl
 |new w=>
  unfold enc
  have hl:w.length≤Wc:=by rw [Zn];exact Wx h.2 (by decide)
  simp only [EVS,W8,W9,Wh,W4,Wi,Wj,Wa,Wb,W6,↓reduceIte,reduceCtorEq,W1,Wd,W5,Q6 hl]
  rw [Zn]
  rfl
def cdD (w:Int)(q:List Pc):D:=.tup [.int w,.tup (q.map enc)]
theorem FN {old:Str}{p:Pc}(h:okP old p){w:Int}{q:List Pc}(hq:q.length≤100)(S:Sto):Yk [enc p,cdD w q] S=some (cdD (wtP p+w) (p :: q),S):=by
 have g:∀S,Y1 (.tup [enc p]) (.tup (q.map enc)) S=some (.tup (enc p :: q.map enc),S):=λS=>NT (by rw [Wg];show 1+_≤_;exact Wx (show 1+q.length≤1000 by omega) J0)
 unfold Yk cdD
 simp only [EVS,W8,W9,Wh,W4,Wi,Wj,Wa,Wb,W6,↓reduceIte,reduceCtorEq,W1,Wd,W5,Bj h,g]
theorem Ap (a b:Int)(x y:D):(ltD (.tup [.int a,x]) (.tup [.int b,y])=true->a≤b)/\(ltD (.tup [.int a,x]) (.tup [.int b,y])=false->b≤a):=by
 rw [Te,Ur]
 by_cases h:a=b
 ·subst h
  exact⟨λ_=>W0y _,λ_=>W0y _⟩
 ·have e:eqD (.int a) (.int b)=false:=by
   unfold eqD
   dsimp only
   exact beq_false_of_ne h
  rw [e,if_neg WC]
  unfold ltD
  dsimp only
  constructor
  ·intro z;have:=of_decide_eq_true z;omega
  ·intro z;have:=of_decide_eq_false z;omega
theorem N2 {α:Type}(l:List α)(a:α->Int)(b:α->D)(h:0<l.length):∃x∈l,JW (l.map λx=>.tup [.int (a x),b x]) = .tup [.int (a x),b x]/\∀y∈l,a x≤a y:=by
 have hg:∀i (hi:i<l.length),(l.map λx=>D.tup [.int (a x),b x]).getD i .non = .tup [.int (a l[i]),b l[i]]:=λi hi=>by simp [V8,hi]
 have key:∀i,i<l.length->∃hk:argBest (ltG (l.map λx=>D.tup [.int (a x),b x])) i<l.length,argBest (ltG (l.map λx=>D.tup [.int (a x),b x])) i≤i/\∀j (hj:j<l.length),j≤i->a l[argBest (ltG (l.map λx=>D.tup [.int (a x),b x])) i]≤a l[j]:=by
  intro i
  induction i with
  |zero=>
   intro hi
   refine⟨hi,Wp _,λj hj hj0=>?_⟩
   have:j=0:=by omega
   subst this
   exact W0y _
  |succ i ih=>
   intro hi
   obtain⟨hk,h1,h2⟩:=ih (by omega)
   generalize hm:argBest (ltG (l.map λx=>D.tup [.int (a x),b x])) i=m at hk h1 h2
   have hs:argBest (ltG (l.map λx=>D.tup [.int (a x),b x])) (i+1)=if ltG (l.map λx=>D.tup [.int (a x),b x]) (i+1) m=true then i+1 else m:=by rw [←hm];rfl
   have hl:ltG (l.map λx=>D.tup [.int (a x),b x]) (i+1) m=ltD (.tup [.int (a l[i+1]),b l[i+1]]) (.tup [.int (a l[m]),b l[m]]):=by
    unfold ltG
    rw [hg _ hi,hg _ hk]
   cases hb:ltG (l.map λx=>D.tup [.int (a x),b x]) (i+1) m with
   |true=>
    rw [hb,if_pos rfl] at hs
    rw [hl] at hb
    have h3:=(Ap _ _ _ _).1 hb
    rw [hs]
    refine⟨hi,Wp _,λj hj hj0=>?_⟩
    by_cases hji:j=i+1
    ·subst hji;exact W0y _
    ·exact Int.le_trans h3 (h2 j hj (by omega))
   |false=>
    rw [hb,if_neg WC] at hs
    rw [hl] at hb
    have h3:=(Ap _ _ _ _).2 hb
    rw [hs]
    refine⟨hk,by omega,λj hj hj0=>?_⟩
    by_cases hji:j=i+1
    ·subst hji;exact h3
    ·exact h2 j hj (by omega)
 obtain⟨hk,h1,h2⟩:=key (l.length-1) (by omega)
 refine⟨l[argBest (ltG (l.map λx=>D.tup [.int (a x),b x])) (l.length-1)],W01 hk,?_,λy hy=>?_⟩
 ·unfold JW
  rw [Wg]
  exact hg _ hk
 ·obtain⟨j,hj,rfl⟩:=W0E.mp hy
  exact h2 j hj (by omega)
theorem L6 (n:Nat)(p:Pc):pln (n+1) (enc p)=true:=by
 cases p<;>(unfold enc pln;simp [pln])
theorem FT (w:Int)(q:List Pc):pln 30 (cdD w q)=true:=by
 unfold cdD
 show ([D.int w,.tup (q.map enc)].all (pln 29))=true
 rw [VD,VD,List.all_nil,Bool.and_true]
 have h1:pln 29 (.int w)=true:=rfl
 have h2:pln 29 (.tup (q.map enc))=true:=by
  show ((q.map enc).all (pln 28))=true
  rw [WM]
  intro d hd
  obtain⟨p,_,rfl⟩:=VB.mp hd
  exact L6 27 p
 rw [h1,h2];rfl
theorem F2 (n:Nat)(p q:Pc):UL (n+1) (enc p) (enc q)=true:=by
 have e1:eqD (.str sK) (.str sK)=true:=by unfold eqD;decide +kernel
 have e2:eqD (.str sN) (.str sN)=true:=by unfold eqD;decide +kernel
 have e3:eqD (.str sK) (.str sN)=false:=by unfold eqD;decide +kernel
 have e4:eqD (.str sN) (.str sK)=false:=by unfold eqD;decide +kernel
 have ci:∀a b:Int,UL n (.int a) (.int b)=true:=λa b=>by cases n<;>rfl
 have cS:∀a b:Str,UL n (.str a) (.str b)=true:=λa b=>by cases n<;>rfl
 cases p with
 |keep b m=>
  cases q with
  |keep b' m'=>
   show Yh (UL n) [.str sK,.int b,.int m] [.str sK,.int b',.int m']=true
   unfold Yh
   rw [e1,if_pos rfl]
   unfold Yh
   split
   ·unfold Yh
    split
    ·rfl
    ·exact ci _ _
   ·exact ci _ _
  |new w=>
   show Yh (UL n) [.str sK,.int b,.int m] [.str sN,.str w]=true
   unfold Yh
   rw [e3,if_neg WC]
   exact cS _ _
 |new w=>
  cases q with
  |keep b' m'=>
   show Yh (UL n) [.str sN,.str w] [.str sK,.int b',.int m']=true
   unfold Yh
   rw [e4,if_neg WC]
   exact cS _ _
  |new w'=>
   show Yh (UL n) [.str sN,.str w] [.str sN,.str w']=true
   unfold Yh
   rw [e2,if_pos rfl]
   unfold Yh
   split
   ·rfl
   ·exact cS _ _
theorem G3 (n:Nat):∀q q':List Pc,Yh (UL (n+1)) (q.map enc) (q'.map enc)=true
 |[],_=>by unfold Yh;rfl
 |_ :: _,[]=>by unfold Yh;rfl
 |a :: as,b :: bs=>by
  rw [W1,W1]
  unfold Yh
  split
  ·exact G3 n as bs
  ·exact F2 n a b
theorem Ci (w w':Int)(q q':List Pc):UL 30 (cdD w q) (cdD w' q')=true:=by
 show Yh (UL 29) [.int w,.tup (q.map enc)] [.int w',.tup (q'.map enc)]=true
 unfold Yh
 split
 ·unfold Yh
  split
  ·rfl
  ·show Yh (UL 28) (q.map enc) (q'.map enc)=true
   exact G3 27 q q'
 ·rfl
theorem MT {α:Type}(l:List α)(w:α->Int)(q:α->List Pc)(h:0<l.length):JV (l.map λx=>cdD (w x) (q x))=true:=by
 unfold JV
 rw [Wg,decide_eq_true h,Bool.true_and,WA,WM,WM]
 constructor
 ·intro d hd
  obtain⟨x,_,rfl⟩:=VB.mp hd
  exact FT _ _
 ·intro d hd
  obtain⟨x,_,rfl⟩:=VB.mp hd
  rw [WM]
  intro d' hd'
  obtain⟨y,_,rfl⟩:=VB.mp hd'
  exact Ci _ _ _ _
theorem M8 {old r:Str}(hr:(cs r).length≤60){p:Pc}(h:p∈news r++keeps old r):okP old p/\1≤sg p/\sg p≤(cs r).length/\cs (po old p)=(cs r).take (sg p)/\(wtP p=2+(sg p:Int)\/inO old (beg r (sg p-1))=true/\wtP p=2):=by
 rcases W03.mp h with h|h
 ·unfold news at h
  obtain⟨i,hi,rfl⟩:=VB.mp h
  have hi':i<(cs r).length:=by simpa using hi
  have hl:(cs (beg r i)).length=i+1:=by rw [Qj,WL];omega
  refine⟨⟨by omega,by omega⟩,?_,?_,?_,.inl ?_⟩
  ·show 1≤(cs (beg r i)).length;omega
  ·show (cs (beg r i)).length≤_;omega
  ·show cs (beg r i)=(cs r).take (cs (beg r i)).length
   rw [hl,Qj]
  ·rfl
 ·unfold keeps at h
  obtain⟨i,hi,rfl⟩:=VB.mp h
  rw [W0J] at hi
  have hi':i<(cs r).length:=by simpa using hi.1
  have hl:(cs (beg r i)).length=i+1:=by rw [Qj,WL];omega
  obtain⟨f1,f2,f3⟩:=EJ hi.2
  rw [hl] at f2 f3
  have ok:okP old (.keep (fd old (beg r i)) (i+1)):=⟨by omega,f2⟩
  refine⟨ok,?_,?_,?_,.inr ⟨?_,rfl⟩⟩
  ·show 1≤i+1;omega
  ·show i+1≤_;omega
  ·unfold po
   rw [Gz _ _ _ f2,f3,Qj]
   rfl
  ·show inO old (beg r (i+1-1))=true
   exact hi.2
theorem Kk {old r:Str}{m:Nat}(h1:1≤m)(h2:m≤(cs r).length):∃p∈news r++keeps old r,sg p=m/\wtP p=2+(m:Int):=by
 refine⟨.new (beg r (m-1)),W0b _ ?_,?_,?_⟩
 ·unfold news
  exact VB.mpr ⟨m-1,by simp;omega,rfl⟩
 ·show (cs (beg r (m-1))).length=m
  rw [Qj,WL];omega
 ·show 2+((cs (beg r (m-1))).length:Int)=_
  rw [Qj,WL];omega
theorem M9 {old r:Str}{m:Nat}(h1:1≤m)(h2:m≤(cs r).length)(h:inO old (beg r (m-1))=true):∃p∈news r++keeps old r,sg p=m/\wtP p=2:=by
 refine⟨.keep (fd old (beg r (m-1))) (m-1+1),WE _ ?_,?_,rfl⟩
 ·unfold keeps
  exact VB.mpr ⟨m-1,W0J.mpr ⟨by simp;omega,h⟩,rfl⟩
 ·show m-1+1=m;omega
abbrev LW:=List (Int×List Pc)
def Wt (lw:LW)(j:Nat):Int:=(lw.getD j (0,[])).1
def Qs (lw:LW)(j:Nat):List Pc:=(lw.getD j (0,[])).2
def seg (t:List Nat)(n m:Nat):Str:=⟨((t.drop (t.length-n)).take m).toArray⟩
structure Good1 (t:List Nat) (old:Str) (lw:LW) (j:Nat):Prop where
 ok:∀p∈Qs lw j,okP old p
 len:(Qs lw j).length≤j
 txt:(Qs lw j).flatMap (λp=>cs (po old p))=t.drop (t.length-j)
 wt:wts (Qs lw j)=Wt lw j
 new:∀m,1≤m->m≤j->Wt lw j≤2+(m:Int)+Wt lw (j-m)
 keep:∀m,1≤m->m≤j->inO old (seg t j m)=true->Wt lw j≤2+Wt lw (j-m)
 is:1≤j->∃m,1≤m/\m≤j/\(Wt lw j=2+(m:Int)+Wt lw (j-m)\/inO old (seg t j m)=true/\Wt lw j=2+Wt lw (j-m))
def Fe (t:List Nat)(old:Str)(lw:LW):Prop:=Wt lw 0=0/\∀j,j<lw.length->Good1 t old lw j
theorem U1 {lw:LW}{x:Int×List Pc}{j:Nat}(h:j<lw.length):(lw++[x]).getD j (0,[])=lw.getD j (0,[]):=by
 simp [V8,WF h]
theorem Gu {lw:LW}{x:Int×List Pc}:(lw++[x]).getD lw.length (0,[])=x:=by simp [V8]
theorem LT {t:List Nat}{old:Str}{lw:LW}{x:Int×List Pc}{j:Nat}(hj:j<lw.length)(h:Good1 t old lw j):Good1 t old (lw++[x]) j:=by
 have e:∀i,i≤j->Wt (lw++[x]) i=Wt lw i:=λi hi=>by unfold Wt;rw [U1 (by omega)]
 have eq:Qs (lw++[x]) j=Qs lw j:=by unfold Qs;rw [U1 hj]
 refine⟨by rw [eq];exact h.ok,by rw [eq];exact h.len,by rw [eq];exact h.txt,by rw [eq,e j (Wp _)];exact h.wt,λm h1 h2=>?_,λm h1 h2 h3=>?_,λhj1=>?_⟩
 ·rw [e j (Wp _),e _ (by omega)];exact h.new m h1 h2
 ·rw [e j (Wp _),e _ (by omega)];exact h.keep m h1 h2 h3
 ·obtain⟨m,h1,h2,h3⟩:=h.is hj1
  refine⟨m,h1,h2,?_⟩
  rw [e j (Wp _),e _ (by omega)];exact h3
def Tp (lw:LW):List D:=lw.map λx=>cdD x.1 x.2
theorem Ck {lw:LW}{j:Nat}(h:j<lw.length):(Tp lw)[j]? = some (cdD (Wt lw j) (Qs lw j)):=by
 unfold Tp Wt Qs
 simp [V8,h]
theorem ixL {S:Sto}{n:Nat}{ds:List D}{j:Nat}{d:D}(h:S[n]? = some (.lst ds))(hj:ds[j]? = some d):gIx (.ref n) (.int (j:Int)) S=some (d,S):=by
 show (match S[n]? with|some (Ob.lst xs)=>(match D.int (j:Int) with | .int i=>(atI xs i).map λd=>(d,S)|_=>none)|_=>(M2 S n (.int (j:Int))).bind λkvs=>(Tv kvs (.int (j:Int))).map λd=>(d,S))=_
 rw [h]
 dsimp only
 rw [U6 hj]
 rfl
theorem Cm {ma mb:M D}{en:En}{S S2:Sto}{n:Nat}{v:D}{ds ds':List D}(h1:ma en S=some (.ref n,S))(h2:mb en S=some (v,S2))(h3:S[n]? = some (.lst ds))(h4:S2[n]? = some (.lst ds'))(hz:ds'.length≤1000):Td (Lq ma mb) en S=some (.nx,en,S2.set n (.lst (ds'++[v]))):=by
 rw [NY,LX,h1]
 have e1:Hk mb en (some (.ref n,S))=Jw n (mb en S):=by
  show (match S[n]? with|some (Ob.lst _)=>Jw n (mb en S)|_=>(mb en S).bind λ_=>none)=_
  rw [h3]
 have e2:Jw n (some (v,S2))=some (.non,S2.set n (.lst (ds'++[v]))):=by
  show (match S2[n]? with|some (Ob.lst ds')=>if ds'.length<Wc then some (D.non,S2.set n (Ob.lst (ds'++[v]))) else none|_=>none)=_
  rw [h4]
  exact if_pos (Nat.lt_of_le_of_lt hz (by decide))
 rw [e1,h2,e2,ND]
def Pw (tx old:Str)(S:Sto)(k:Nat)(en:En)(S':Sto):Prop:=∃lw G x3 x4,lw.length=k+1/\Fe (cs tx) old lw/\S'=S++[.lst (Tp lw)]++G/\en=[some (.str tx),some (.str old),some (.ref S.length),x3,x4]
theorem BC {S G:Sto}{o o':Ob}:(S++[o]++G).set S.length o'=S++[o']++G:=by
 rw [WX,List.set_append_right _ _ (Wp _),W0C,WX]
 rfl
theorem GI {tx old:Str}(ht:(cs tx).length≤60)(ho:(cs old).length≤60){S S':Sto}{k:Nat}(hk:k<(cs tx).length){en:En}(h:Pw tx old S k en S') :
  ∃en2 S2,ZJ (en.set 3 (some (.int ((k+1:Nat):Int)))) S'=some (.nx,en2,S2)/\Pw tx old S (k+1) en2 S2:=by
 obtain⟨lw,G,x3,x4,hl,⟨g0,g1⟩,rfl,rfl⟩:=h
 have lt:tx.length≤Wc:=by rw [Zn];exact Wx ht (by decide)
 generalize hS1:S++[Ob.lst (Tp lw)]++G=S1
 obtain⟨a,ea⟩:∃a:Nat,(((cs tx).length:Nat):Int)-((k+1:Nat):Int)=(a:Int):=⟨(cs tx).length-(k+1),by omega⟩
 have ha:a=(cs tx).length-(k+1):=by omega
 have cr:=F1 tx a (by omega)
 generalize hr:Vc tx (some (a:Int)) none=r at cr
 have lr:(cs r).length=k+1:=by rw [cr,VZ];omega
 obtain⟨m,G2,e1,hm,e2⟩:=Kn (r:=r) ho (by omega) S1
 have hget:(S1++G2)[S.length]? = some (.lst (Tp lw)):=by rw [←hS1,WX (S++[Ob.lst (Tp lw)])];exact Kc
 have hget1:S1[S.length]? = some (.lst (Tp lw)):=by rw [←hS1];exact Kc
 have hz:(news r++keeps old r).length≤1000:=by
  rw [Wo]
  have h1:(news r).length=(cs r).length:=by simp [news]
  have h2:(keeps old r).length≤(cs r).length:=by
   unfold keeps
   rw [Wg]
   exact Wx (List.length_filter_le ..) (by simp)
  omega
 have h0:0<(news r++keeps old r).length:=by
  rw [Wo]
  have h1:(news r).length=(cs r).length:=by simp [news]
  omega
 have hc:Zt ((news r++keeps old r).map enc) (.lst m) [none,some (.ref S.length),some (.int ((k+1:Nat):Int))] (gN 0) ZS ZI ((news r++keeps old r).map enc) [] (S1++G2)
   = some ((news r++keeps old r).map λp=>cdD (wtP p+Wt lw (k+1-sg p)) (p :: Qs lw (k+1-sg p)),S1++G2):=by
  refine ZW _ enc _ (show TF (.lst m) _ _ from e2) (Wx hz J0) λp hp=>⟨_,rfl,?_⟩
  obtain⟨o1,o2,o3,o4,o5⟩:=M8 (by omega) hp
  have ei:((k+1:Nat):Int)-((sg p:Nat):Int)=((k+1-sg p:Nat):Int):=by omega
  have hj:k+1-sg p<lw.length:=by omega
  have hq:=(g1 _ hj).len
  simp only [ZI,EVS,W8,W9,Wh,W4,Wi,Wj,Wa,Wb,W6,↓reduceIte,reduceCtorEq,W1,Wd,W5,Mx o1,ei,ixL hget (Ck hj),FN o1 (show (Qs lw (k+1-sg p)).length≤100 by omega)]
 obtain⟨p,hp,hmin,hle⟩:=N2 (news r++keeps old r) (λp=>wtP p+Wt lw (k+1-sg p)) (λp=>.tup ((p :: Qs lw (k+1-sg p)).map enc)) h0
 have hmin':JW ((news r++keeps old r).map λp=>cdD (wtP p+Wt lw (k+1-sg p)) (p :: Qs lw (k+1-sg p)))=cdD (wtP p+Wt lw (k+1-sg p)) (p :: Qs lw (k+1-sg p)):=hmin
 have hle':∀y∈news r++keeps old r,wtP p+Wt lw (k+1-sg p)≤wtP y+Wt lw (k+1-sg y):=hle
 obtain⟨o1,o2,o3,o4,o5⟩:=M8 (by omega) hp
 rw [lr] at o3
 have hj:k+1-sg p<lw.length:=by omega
 have gj:=g1 _ hj
 have eb:∀i,i<k+1->beg r i=seg (cs tx) (k+1) (i+1):=λi hi=>by
  apply Qq
  unfold seg
  rw [Qj,cr,ha]
  exact (Tx _).symm
 have s1:(YL (Zv ZF (Z3 (mSl (Z4 0) (Yn (mOp Be (Jv (Z4 0)) (Z4 3))) Y4) (Z3 (Z4 1) Y3))) (gN 4)) [some (.str tx),some (.str old),some (.ref S.length),some (.int ((k+1:Nat):Int)),x4] S1=some (.nx,[some (.str tx),some (.str old),some (.ref S.length),some (.int ((k+1:Nat):Int)),some (.ref m)],S1++G2):=by
  simp only [EVS,W8,W9,Wh,W4,Wi,Wj,Wa,Wb,W6,↓reduceIte,reduceCtorEq,W1,Wd,W5,Q6 lt,Zn,ea,slS lt,hr,e1]
 have s2:=Cm (ma:=Z4 2) (mb:=Qv (Ys (QP (Z4 4)) 1 [2,3] (gN 0) ZS ZI)) (en:=[some (.str tx),some (.str old),some (.ref S.length),some (.int ((k+1:Nat):Int)),some (.ref m)]) (S:=S1++G2) (S2:=S1++G2) (n:=S.length) (v:=cdD (wtP p+Wt lw (k+1-sg p)) (p :: Qs lw (k+1-sg p))) (ds:=Tp lw) (ds':=Tp lw)
  (by simp only [EVS,W8,W9,Wh,W4,Wi,Wj,Wa,Wb,W6,↓reduceIte,reduceCtorEq,W1,Wd,W5]) (by simp only [EVS,W8,W9,Wh,W4,Wi,Wj,Wa,Wb,W6,↓reduceIte,reduceCtorEq,W1,Wd,W5,QT e2,hc];rw [Pq (MT _ _ _ h0),hmin']) hget hget (by unfold Tp;rw [Wg];omega)
 refine⟨[some (.str tx),some (.str old),some (.ref S.length),some (.int ((k+1:Nat):Int)),some (.ref m)],(S1++G2).set S.length (.lst (Tp lw++[cdD (wtP p+Wt lw (k+1-sg p)) (p :: Qs lw (k+1-sg p))])),?_,lw++[(wtP p+Wt lw (k+1-sg p),p :: Qs lw (k+1-sg p))],G++G2,_,_,by rw [Wo,hl];rfl,?_,?_,rfl⟩
 ·unfold ZJ
  show Ym _ _ [some (.str tx),some (.str old),some (.ref S.length),some (.int ((k+1:Nat):Int)),x4] S1=_
  rw [Kd,s1,K3,s2]
 ·have ew:∀i,i<lw.length->Wt (lw++[(wtP p+Wt lw (k+1-sg p),p :: Qs lw (k+1-sg p))]) i=Wt lw i:=λi hi=>by unfold Wt;rw [U1 hi]
  have en:Wt (lw++[(wtP p+Wt lw (k+1-sg p),p :: Qs lw (k+1-sg p))]) (k+1)=wtP p+Wt lw (k+1-sg p):=by
   rw [←hl]
   unfold Wt
   rw [Gu]
  have eq:Qs (lw++[(wtP p+Wt lw (k+1-sg p),p :: Qs lw (k+1-sg p))]) (k+1)=p :: Qs lw (k+1-sg p):=by
   rw [←hl]
   unfold Qs
   rw [Gu]
  refine⟨by rw [ew 0 (by omega)];exact g0,λj hj2=>?_⟩
  rw [Wo,hl] at hj2
  by_cases hjk:j<lw.length
  ·exact LT hjk (g1 j hjk)
  ·have:j=k+1:=by have:j<k+1+1:=hj2;omega
   subst this
   refine⟨?_,?_,?_,?_,?_,?_,?_⟩
   ·rw [eq]
    intro x hx
    rcases WD.mp hx with rfl|z
    ·exact o1
    ·exact gj.ok x z
   ·rw [eq,V2]
    have:=gj.len
    omega
   ·rw [eq,List.flatMap_cons,gj.txt,o4,cr,ha]
    have e3:(cs tx).length-(k+1-sg p)=(cs tx).length-(k+1)+sg p:=by omega
    rw [e3,←List.drop_drop,List.take_append_drop]
   ·rw [eq,en]
    show ((p :: Qs lw (k+1-sg p)).map wtP).sum=_
    rw [W1,List.sum_cons]
    have:=gj.wt
    unfold wts at this
    rw [this]
   ·intro q h1 h2
    rw [en,ew _ (by omega)]
    obtain⟨y,y1,y2,y3⟩:=Kk (old:=old) (r:=r) h1 (by omega)
    have:=hle' y y1
    rw [y2,y3] at this
    exact this
   ·intro q h1 h2 h3
    rw [en,ew _ (by omega)]
    obtain⟨y,y1,y2,y3⟩:=M9 (old:=old) (r:=r) h1 (by omega) (by rw [eb _ (by omega),show q-1+1=q by omega];exact h3)
    have:=hle' y y1
    rw [y2,y3] at this
    exact this
   ·intro _
    refine⟨sg p,o2,o3,?_⟩
    rw [en,ew _ (by omega)]
    rcases o5 with z|⟨z1,z2⟩
    ·exact .inl (by rw [z])
    ·refine .inr ⟨?_,by rw [z2]⟩
     rw [eb _ (by omega),show sg p-1+1=sg p by omega] at z1
     exact z1
 ·rw [←hS1,WX (S++[Ob.lst (Tp lw)]),BC]
  congr 2
  unfold Tp
  rw [Va]
  rfl
theorem Qd {m k:Nat}{pre post:List Nat}(h:Wr m=pre++k :: post):k=pre.length/\k<m:=by
 have h1:(Wr m)[pre.length]? = some k:=by rw [h];simp
 have h2:pre.length<m:=by
  have:=congrArg Vb h
  simp at this
  omega
 rw [List.getElem?_range h2] at h1
 cases h1
 exact⟨rfl,h2⟩
theorem Lr (n:Nat)(p:Pc):JF n (enc p)=true:=by
 cases p<;>simp only [enc,JF,lowDs,Bool.and_true]
theorem Nc (n:Nat):∀ps:List Pc,lowDs n (ps.map enc)=true
 |[]=>by simp only [Wd,lowDs]
 |p :: ps=>by
  rw [W1]
  simp only [lowDs,Lr,Nc n ps,Bool.and_true]
theorem Au (n:Nat)(w:Int)(q:List Pc):JF n (cdD w q)=true:=by
 unfold cdD
 simp only [JF,lowDs,Nc,Bool.and_true]
theorem Qn {tx old:Str}(ht:(cs tx).length≤60)(ho:(cs old).length≤60)(S:Sto):∃lw:LW,lw.length=(cs tx).length+1/\Fe (cs tx) old lw/\Zh [.str tx,.str old] S=some (cdD (Wt lw (cs tx).length) (Qs lw (cs tx).length),S):=by
 have lt:tx.length≤Wc:=by rw [Zn];exact Wx ht (by decide)
 have h0:Pw tx old S 0 [some (.str tx),some (.str old),some (.ref S.length),none,none] (S++[.lst [.tup [.int 0,.tup []]]]):=by
  refine⟨[(0,[])],[],none,none,rfl,⟨rfl,λj hj=>?_⟩,by rw [Vt];rfl,rfl⟩
  have:j=0:=by have:j<1:=hj;omega
  subst this
  refine⟨(λp hp=>by cases hp),Wp _,?_,rfl,(λm h1 h2=>by omega),(λm h1 h2=>by omega),(λh=>by omega)⟩
  rw [Nat.sub_zero,List.drop_length]
  rfl
 obtain⟨en',S',e,hS⟩:=YN (g:=gN 3) (ds0:=YF 1 (cs tx).length) (gd:=.no) (body:=ZJ) (Wr (cs tx).length) (λk=>D.int ((k+1:Nat):Int)) (λpre en S'=>Pw tx old S pre.length en S')
  (λpre k post en S' hx hP=>⟨_,rfl,by
   obtain⟨rfl,hk⟩:=Qd hx
   have:=GI ht ho hk hP
   rw [Wo]
   exact this⟩) (λ_ _ _ _=>trivial) h0
 rw [←TW] at e
 obtain⟨lw,G,x3,x4,hl,hg,rfl,rfl⟩:=hS
 rw [V3] at hl
 refine⟨lw,hl,hg,?_⟩
 have hix:gIx (.ref S.length) (.int (((cs tx).length:Nat):Int)) (S++[Ob.lst (Tp lw)]++G)=some (cdD (Wt lw (cs tx).length) (Qs lw (cs tx).length),S++[Ob.lst (Tp lw)]++G):=ixL Kc (Ck (by omega))
 have hn:((((cs tx).length:Nat):Int)+1-1).toNat=(cs tx).length:=by omega
 unfold Zh
 simp only [EVS,W8,W9,Wh,W4,Wi,Wj,Wa,Wb,W6,↓reduceIte,reduceCtorEq,W1,Wd,W5,Q6 lt,Zn,Me (show -(2 ^ 62)≤(1:Int)/\(1:Int)<2 ^ 62/\-(2 ^ 62)≤(((cs tx).length:Nat):Int)+1/\(((cs tx).length:Nat):Int)+1<2 ^ 62 by omega),hn,e,hix]
 rw [WX S,QZ _ _ _ (Au _ _ _)]
theorem Qt {mv ma mb:M D}{en:En}{S S':Sto}{v k:D}{n:Nat}(h1:mv en S=some (v,S))(h2:ma en S=some (.ref n,S))(h3:mb en S=some (k,S))(h4:PH (.ref n) k v S=some S'):YT mv ma mb en S=some (.nx,en,S'):=by
 unfold YT
 rw [h1,WG,h2,WG,h3,WG]
 dsimp only
 rw [h4]
 rfl
theorem HF {S:Sto}{ds:List D}{G:Sto}{i:Nat}{v:D}(hi:i<ds.length):PH (.ref S.length) (.int (i:Int)) v (S++[.lst ds]++G)=some (S++[.lst (ds.set i v)]++G):=by
 unfold PH
 dsimp only
 rw [Kc]
 dsimp only
 have e:ixN ds.length (i:Int)=some i:=by
  unfold ixN
  simp
  omega
 rw [e,W5,BC]
def hr (t:List Nat)(old:Str)(lw:LW)(n m:Nat):Int:=if inO old (seg t n m)=true then 2+Wt lw (n-m) else 2+(m:Int)+Wt lw (n-m)
def Iv (t:List Nat)(old:Str)(lw:LW)(n k:Nat)(v:Int):Prop:=v≤2+(n:Int)/\(∀m,1≤m->m≤k->v≤hr t old lw n m)/\(v=2+(n:Int)\/∃m,1≤m/\m≤k/\v=hr t old lw n m)
theorem Ee {t:List Nat}{old:Str}{lw:LW}(hg:Fe t old lw){n:Nat}(hn:1≤n)(hl:n<lw.length){v:Int}(h:Iv t old lw n n v):v=Wt lw n:=by
 obtain⟨h1,h2,h3⟩:=h
 have g:=hg.2 n hl
 have low:∀m,1≤m->m≤n->Wt lw n≤hr t old lw n m:=λm a b=>by
  unfold hr
  split
  ·rename_i z;exact g.keep m a b z
  ·exact g.new m a b
 have e0:=hg.1
 apply Int.le_antisymm
 ·obtain⟨m,a,b,c⟩:=g.is hn
  have h4:=h2 m a b
  unfold hr at h4
  rcases c with c|⟨c1,c2⟩
  ·split at h4<;>omega
  ·rw [if_pos c1] at h4;omega
 ·rcases h3 with h3|⟨m,a,b,h3⟩
  ·have h4:=g.new n hn (Wp _)
   rw [W0C,e0] at h4
   omega
  ·rw [h3];exact low m a b
def Q7 (l:List Int):List D:=l.map D.int
theorem Hz {l:List Int}{j:Nat}(h:j<l.length):(Q7 l)[j]? = some (.int (l.getD j 0)):=by
 unfold Q7
 simp [V8,h]
theorem Fz {l:List Int}{i:Nat}{v:Int}:(Q7 l).set i (.int v)=Q7 (l.set i v):=by
 unfold Q7
 rw [List.map_set]
section
variable {tx old:Str} {S G:Sto} {lw:LW}
def Ei (tx old:Str)(S G:Sto)(l:List Int)(p:Nat)(en:En)(S':Sto):Prop:=∃x4 x5,S'=S++[.lst (Q7 l)]++G/\en=[some (.str tx),some (.str old),some (.ref S.length),some (.int (p:Nat)),x4,x5]
theorem B2 (ht:(cs tx).length≤60)(ho:(cs old).length≤60){l:List Int}(hl:l.length=(cs tx).length+1){n k p:Nat}(hp:p+n=(cs tx).length)(hk:k<n)(hb:∀j,j<n->l.getD ((cs tx).length-j) 0=Wt lw j){v:Int}(hv:Iv (cs tx) old lw n k v){en:En}{S':Sto}(h:Ei tx old S G (l.set p v) p en S') :
  ∃en2 S2 v',Yj (en.set 4 (some (.int ((p+1+k:Nat):Int)))) S'=some (.nx,en2,S2)/\Iv (cs tx) old lw n (k+1) v'/\Ei tx old S G (l.set p v') p en2 S2:=by
 obtain⟨x4,x5,rfl,rfl⟩:=h
 have lt:tx.length≤Wc:=by rw [Zn];exact Wx ht (by decide)
 have hend:p+1+k=(cs tx).length-(n-(k+1)):=by omega
 have hlen:(l.set p v).length=(cs tx).length+1:=by rw [List.length_set];exact hl
 have i1:∀G,gIx (.ref S.length) (.int ((p+1+k:Nat):Int)) (S++[.lst (Q7 (l.set p v))]++G)=some (.int (Wt lw (n-(k+1))),S++[.lst (Q7 (l.set p v))]++G):=λG=>by
  rw [ixL Kc (Hz (by rw [hlen];omega))]
  have:(l.set p v).getD (p+1+k) 0=Wt lw (n-(k+1)):=by
   rw [←hb _ (by omega),←hend]
   simp only [V8]
   rw [Vi (by omega)]
  rw [this]
 have i2:∀G,gIx (.ref S.length) (.int ((p:Nat):Int)) (S++[.lst (Q7 (l.set p v))]++G)=some (.int v,S++[.lst (Q7 (l.set p v))]++G):=λG=>by
  rw [ixL Kc (Hz (by rw [hlen];omega))]
  have:(l.set p v).getD p 0=v:=by
   simp only [V8]
   rw [Vj (by omega)]
   rfl
  rw [this]
 have hs:Vc tx (some ((p:Nat):Int)) (some ((p+1+k:Nat):Int))=seg (cs tx) n (k+1):=by
  apply Qq
  have e:((p+1+k:Nat):Int)=((p:Nat):Int)+((k+1:Nat):Int):=by omega
  unfold seg
  rw [e,Gz _ _ _ (by omega),show (cs tx).length-n=p by omega]
  exact (Tx _).symm
 have hset:∀w:Int,PH (.ref S.length) (.int ((p:Nat):Int)) (.int w) (S++[.lst (Q7 (l.set p v))]++G)=some (S++[.lst (Q7 (l.set p w))]++G):=λw=>by
  rw [HF (by unfold Q7;rw [Wg,hlen];omega),Fz,List.set_set]
 have e1:(2+((p+1+k:Nat):Int)-((p:Nat):Int)+Wt lw (n-(k+1)))=2+((k+1:Nat):Int)+Wt lw (n-(k+1)):=by omega
 have fin:∀w:Int,w=hr (cs tx) old lw n (k+1)->Iv (cs tx) old lw n (k+1) (U7 v w):=λw hw=>by
  obtain⟨v1,v2,v3⟩:=hv
  have hle1:U7 v w≤v:=by unfold U7;split<;>omega
  have hle2:U7 v w≤w:=by unfold U7;split<;>omega
  have hor:U7 v w=v\/U7 v w=w:=by unfold U7;split<;>simp
  refine⟨by omega,λm a b=>?_,?_⟩
  ·by_cases hm:m=k+1
   ·subst hm;rw [←hw];exact hle2
   ·exact Int.le_trans hle1 (v2 m a (by omega))
  ·rcases hor with z|z
   ·rw [z]
    rcases v3 with y|⟨m,a,b,y⟩
    ·exact .inl y
    ·exact .inr ⟨m,a,by omega,y⟩
   ·rw [z];exact .inr ⟨k+1,by omega,Wp _,hw⟩
 cases hin:inO old (seg (cs tx) n (k+1)) with
 |true=>
  have hw:2+Wt lw (n-(k+1))=hr (cs tx) old lw n (k+1):=by unfold hr;rw [if_pos hin]
  refine⟨[some (.str tx),some (.str old),some (.ref S.length),some (.int (p:Nat)),some (.int ((p+1+k:Nat):Int)),some (.int (2+Wt lw (n-(k+1))))],S++[.lst (Q7 (l.set p (U7 v (2+Wt lw (n-(k+1))))))]++G,U7 v (2+Wt lw (n-(k+1))),?_,fin _ hw,_,_,rfl,rfl⟩
  have s3:=Qt (mv:=KH U7 (mOp gIx (Z4 2) (Z4 3)) (Z4 5)) (ma:=Z4 2) (mb:=Z4 3) (en:=[some (.str tx),some (.str old),some (.ref S.length),some (.int (p:Nat)),some (.int ((p+1+k:Nat):Int)),some (.int (2+Wt lw (n-(k+1))))]) (S:=S++[.lst (Q7 (l.set p v))]++G) (v:=.int (U7 v (2+Wt lw (n-(k+1))))) (k:=.int (p:Nat)) (n:=S.length) (by simp only [EVS,W8,W9,Wh,W4,Wi,Wj,Wa,Wb,W6,↓reduceIte,reduceCtorEq,W1,Wd,W5,i2]) (by simp only [EVS,W8,W9,Wh,W4,Wi,Wj,Wa,Wb,W6,↓reduceIte,reduceCtorEq,W1,Wd,W5]) (by simp only [EVS,W8,W9,Wh,W4,Wi,Wj,Wa,Wb,W6,↓reduceIte,reduceCtorEq,W1,Wd,W5]) (hset _)
  simp only [Yj,EVS,W8,W9,Wh,W4,Wi,Wj,Wa,Wb,W6,↓reduceIte,reduceCtorEq,W1,Wd,W5,i1,slS lt,hs,LQ,hin,s3]
 |false=>
  have hw:2+((k+1:Nat):Int)+Wt lw (n-(k+1))=hr (cs tx) old lw n (k+1):=by unfold hr;rw [if_neg (by rw [hin];exact WC)]
  refine⟨[some (.str tx),some (.str old),some (.ref S.length),some (.int (p:Nat)),some (.int ((p+1+k:Nat):Int)),some (.int (2+((k+1:Nat):Int)+Wt lw (n-(k+1))))],S++[.lst (Q7 (l.set p (U7 v (2+((k+1:Nat):Int)+Wt lw (n-(k+1))))))]++G,U7 v (2+((k+1:Nat):Int)+Wt lw (n-(k+1))),?_,fin _ hw,_,_,rfl,rfl⟩
  have s3:=Qt (mv:=KH U7 (mOp gIx (Z4 2) (Z4 3)) (Z4 5)) (ma:=Z4 2) (mb:=Z4 3) (en:=[some (.str tx),some (.str old),some (.ref S.length),some (.int (p:Nat)),some (.int ((p+1+k:Nat):Int)),some (.int (2+((k+1:Nat):Int)+Wt lw (n-(k+1))))]) (S:=S++[.lst (Q7 (l.set p v))]++G) (v:=.int (U7 v (2+((k+1:Nat):Int)+Wt lw (n-(k+1))))) (k:=.int (p:Nat)) (n:=S.length) (by simp only [EVS,W8,W9,Wh,W4,Wi,Wj,Wa,Wb,W6,↓reduceIte,reduceCtorEq,W1,Wd,W5,i2]) (by simp only [EVS,W8,W9,Wh,W4,Wi,Wj,Wa,Wb,W6,↓reduceIte,reduceCtorEq,W1,Wd,W5]) (by simp only [EVS,W8,W9,Wh,W4,Wi,Wj,Wa,Wb,W6,↓reduceIte,reduceCtorEq,W1,Wd,W5]) (hset _)
  simp only [Yj,EVS,W8,W9,Wh,W4,Wi,Wj,Wa,Wb,W6,↓reduceIte,reduceCtorEq,W1,Wd,W5,i1,e1,slS lt,hs,LQ,hin,s3]
def Eo (tx old:Str)(lw:LW)(S G:Sto)(i:Nat)(en:En)(S':Sto):Prop:=∃l x3 x4 x5,l.length=(cs tx).length+1/\(∀j,j<i+1->l.getD ((cs tx).length-j) 0=Wt lw j)/\S'=S++[.lst (Q7 l)]++G/\en=[some (.str tx),some (.str old),some (.ref S.length),x3,x4,x5]
theorem MD (p n:Nat):YF ((p:Int)+1) n=(Wr n).map λi=>D.int ((p+1+i:Nat):Int):=by
 unfold YF
 refine W0T λi _=>?_
 congr 1<;>omega
theorem GQ (ht:(cs tx).length≤60)(ho:(cs old).length≤60)(hlw:lw.length=(cs tx).length+1)(hg:Fe (cs tx) old lw){i:Nat}(hi:i<(cs tx).length){en:En}{S':Sto}(h:Eo tx old lw S G i en S') :
  ∃en2 S2,YB (en.set 3 (some (.int (((cs tx).length:Int)-1+(i:Nat)*(-1))))) S'=some (.nx,en2,S2)/\Eo tx old lw S G (i+1) en2 S2:=by
 obtain⟨l,x3,x4,x5,hl,hb,rfl,rfl⟩:=h
 have lt:tx.length≤Wc:=by rw [Zn];exact Wx ht (by decide)
 obtain⟨p,hp⟩:∃p:Nat,((cs tx).length:Int)-1+(i:Nat)*(-1)=(p:Int):=⟨(cs tx).length-1-i,by omega⟩
 have hpn:p+(i+1)=(cs tx).length:=by omega
 rw [hp]
 have hset:PH (.ref S.length) (.int ((p:Nat):Int)) (.int (2+((i+1:Nat):Int))) (S++[.lst (Q7 l)]++G)=some (S++[.lst (Q7 (l.set p (2+((i+1:Nat):Int))))]++G):=by
  rw [HF (by unfold Q7;rw [Wg,hl];omega),Fz]
 have e1:(2+(((cs tx).length:Nat):Int)-((p:Nat):Int))=2+((i+1:Nat):Int):=by omega
 have s1:=Qt (mv:=mOp Be (mOp Y1 (Zk (D.int (2))) (Jv (Z4 0))) (Z4 3)) (ma:=Z4 2) (mb:=Z4 3) (en:=[some (.str tx),some (.str old),some (.ref S.length),some (.int (p:Nat)),x4,x5]) (S:=S++[.lst (Q7 l)]++G) (v:=.int (2+((i+1:Nat):Int))) (k:=.int (p:Nat)) (n:=S.length) (by simp only [EVS,W8,W9,Wh,W4,Wi,Wj,Wa,Wb,W6,↓reduceIte,reduceCtorEq,W1,Wd,W5,Q6 lt,Zn,e1]) (by simp only [EVS,W8,W9,Wh,W4,Wi,Wj,Wa,Wb,W6,↓reduceIte,reduceCtorEq,W1,Wd,W5]) (by simp only [EVS,W8,W9,Wh,W4,Wi,Wj,Wa,Wb,W6,↓reduceIte,reduceCtorEq,W1,Wd,W5]) hset
 obtain⟨en',S',e,v,hv,x4',x5',rfl,rfl⟩:=YN (g:=gN 4) (ds0:=YF ((p:Int)+1) (i+1)) (gd:=.no) (body:=Yj) (Wr (i+1)) (λk=>D.int ((p+1+k:Nat):Int)) (λpre en S'=>∃v,Iv (cs tx) old lw (i+1) pre.length v/\Ei tx old S G (l.set p v) p en S')
  (λpre k post en S' hx hP=>⟨_,rfl,by
   obtain⟨rfl,hk⟩:=Qd hx
   obtain⟨v,hv,hE⟩:=hP
   obtain⟨en2,S2,v',q1,q2,q3⟩:=B2 ht ho hl hpn hk (λj hj=>hb j hj) hv hE
   rw [Wo]
   exact⟨en2,S2,q1,v',q2,q3⟩⟩) (λ_ _ _ _=>trivial) (S:=S++[.lst (Q7 (l.set p (2+((i+1:Nat):Int))))]++G) (en:=[some (.str tx),some (.str old),some (.ref S.length),some (.int (p:Nat)),x4,x5])
  ⟨2+((i+1:Nat):Int),⟨W0y _,λm a b=>by have:m≤0:=b;omega,.inl rfl⟩,x4,x5,rfl,rfl⟩
 rw [←MD] at e
 rw [V3] at hv
 have hvW:=Ee hg (by omega) (by omega) hv
 subst hvW
 have hn:((((cs tx).length:Nat):Int)+1-((p:Int)+1)).toNat=i+1:=by omega
 refine⟨[some (.str tx),some (.str old),some (.ref S.length),some (.int (p:Nat)),x4',x5'],S++[.lst (Q7 (l.set p (Wt lw (i+1))))]++G,?_,l.set p (Wt lw (i+1)),_,_,_,by rw [List.length_set];exact hl,λj hj=>?_,rfl,rfl⟩
 ·simp only [YB,EVS,W8,W9,Wh,W4,Wi,Wj,Wa,Wb,W6,↓reduceIte,reduceCtorEq,W1,Wd,W5,s1,Q6 lt,Zn,Me (show -(2 ^ 62)≤(p:Int)+1/\(p:Int)+1<2 ^ 62/\-(2 ^ 62)≤(((cs tx).length:Nat):Int)+1/\(((cs tx).length:Nat):Int)+1<2 ^ 62 by omega),hn,e]
 ·by_cases hji:j=i+1
  ·subst hji
   rw [show (cs tx).length-(i+1)=p by omega]
   simp only [V8]
   rw [Vj (by omega)]
   rfl
  ·rw [←hb j (by omega)]
   simp only [V8]
   rw [Vi (by omega)]
end
theorem MF (n:Nat):Kw n=(Wr n).map λi=>D.int ((n:Int)-1+(i:Nat)*(-1)):=rfl
theorem G4 {tx old:Str}{lw:LW}(ht:(cs tx).length≤60)(ho:(cs old).length≤60)(hlw:lw.length=(cs tx).length+1)(hg:Fe (cs tx) old lw)(S:Sto):Yl [.str tx,.str old] S=some (.int (Wt lw (cs tx).length),S):=by
 have lt:tx.length≤Wc:=by rw [Zn];exact Wx ht (by decide)
 let l0:List Int:=(Wr ((cs tx).length+1)).map λ_=>(0:Int)
 have c0:∀S:Sto,Zt (YF 0 ((cs tx).length+1)) .no [none] (gN 0) ZS Jm (YF 0 ((cs tx).length+1)) [] S=some (Q7 l0,S):=λS=>by
  rw [Yy,ZW (Wr ((cs tx).length+1)) (λk=>D.int (k:Nat)) (λ_=>D.int 0) Y0 (by rw [V3];exact Wx (show _≤1000 by omega) J0) λk hk=>⟨_,rfl,rfl⟩]
  show _=some (Q7 ((Wr ((cs tx).length+1)).map λ_=>(0:Int)),S)
  unfold Q7
  rw [VA]
  rfl
 have h0:Eo tx old lw S [] 0 [some (.str tx),some (.str old),some (.ref S.length),none,none,none] (S++[.lst (Q7 l0)]):=by
  refine⟨l0,none,none,none,by simp [l0],λj hj=>?_,by rw [Vt],rfl⟩
  have:j=0:=by omega
  subst this
  rw [hg.1]
  simp [l0,V8]
 obtain⟨en',S',e,hS⟩:=YN (g:=gN 3) (ds0:=Kw (cs tx).length) (gd:=.no) (body:=YB) (Wr (cs tx).length) (λi=>D.int (((cs tx).length:Int)-1+(i:Nat)*(-1))) (λpre en S'=>Eo tx old lw S [] pre.length en S')
  (λpre k post en S' hx hP=>⟨_,rfl,by
   obtain⟨rfl,hk⟩:=Qd hx
   have:=GQ ht ho hlw hg hk hP
   rw [Wo]
   exact this⟩) (λ_ _ _ _=>trivial) h0
 rw [←MF] at e
 obtain⟨l,x3,x4,x5,hl,hb,rfl,rfl⟩:=hS
 rw [V3] at hb
 have hix:gIx (.ref S.length) (.int 0) (S++[Ob.lst (Q7 l)]++[])=some (.int (Wt lw (cs tx).length),S++[Ob.lst (Q7 l)]++[]):=by
  have:=ixL (S:=S++[Ob.lst (Q7 l)]++[]) (n:=S.length) (j:=0) Kc (Hz (show 0<l.length by omega))
  have h2:=hb (cs tx).length (by omega)
  rw [W0C] at h2
  rw [h2] at this
  exact this
 have hn:((((cs tx).length:Nat):Int)+1).toNat=(cs tx).length+1:=by omega
 have hn2:((((cs tx).length:Nat):Int)).toNat=(cs tx).length:=by omega
 unfold Yl
 simp only [EVS,W8,W9,Wh,W4,Wi,Wj,Wa,Wb,W6,↓reduceIte,reduceCtorEq,W1,Wd,W5,Q6 lt,Zn,Ti (show -(2 ^ 62)≤(((cs tx).length:Nat):Int)+1/\(((cs tx).length:Nat):Int)+1<2 ^ 62 by omega),Hx (show -(2 ^ 62)≤(((cs tx).length:Nat):Int)/\(((cs tx).length:Nat):Int)<2 ^ 62 by omega),hn,hn2,c0,e,hix]
 rw [Vt,QZ _ _ (.int _) rfl]
theorem M4 (x:Str)(a n:Nat)(ha:a≤(cs x).length):(cs (Vc x (some (a:Int)) (some ((a:Int)+(n:Int))))).length≤(cs x).length:=by
 by_cases h:a+n≤(cs x).length
 ·rw [Gz _ _ _ h,WL,VZ];omega
 ·have hx:x.length=(cs x).length:=Zn x
  have e0:Vf (some (a:Int)) (some (((a+n:Nat):Int))) 1 x.length=Vf (some (a:Int)) (some (x.length:Int)) 1 x.length:=by
   have a1:¬(((a+n:Nat):Int)<0):=by omega
   have a2:¬((x.length:Int)<0):=by omega
   have a3:min ((a+n:Nat):Int) (x.length:Int)=x.length:=by omega
   have a4:min (x.length:Int) (x.length:Int)=x.length:=by omega
   unfold Vf
   have a5:(1:Int)>0:=by decide
   simp only [a1,a2,a3,a4,a5,if_false,if_true]
  have e1:Vc x (some (a:Int)) (some ((a:Int)+(n:Int)))=Vc x (some (a:Int)) (some ((a:Int)+(((cs x).length-a:Nat):Int))):=by
   have e2:(a:Int)+(((cs x).length-a:Nat):Int)=(x.length:Int):=by omega
   rw [e2,show (a:Int)+(n:Int)=((a+n:Nat):Int) from rfl]
   unfold Vc
   rw [e0]
  rw [e1,Gz _ _ _ (by omega),WL,VZ];omega
def Se (c:Int)(old:Str)(k:Nat)(en:En):Prop:=∃t x4 x5 x6,(cs t).length≤63*k/\en=[some (.int c),some (.str old),some (.str (Wm "ab;a ")),some (.str t),x4,x5,x6]
theorem LA {g:Nat->Nat}{m:M D}{cap:En}{S:Sto}(n:Nat)(hn:n≤100)(hm:∀k,k<n->m (cap.set 0 (some (.int (k:Nat)))) S=some (.str ⟨#[g k]⟩,S)) :
  Gk (Wm "") (Zt (YF 0 n) .no cap (gN 0) ZS m (YF 0 n) [] S)=some (.str ⟨((Wr n).map g).toArray⟩,S):=by
 rw [Yy,ZW (Wr n) (λk=>D.int (k:Nat)) (λk=>D.str ⟨#[g k]⟩) Y0 (by rw [V3];exact Wx hn (by decide)) λk hk=>⟨_,rfl,hm k (by simpa using hk)⟩]
 have e:(Wr n).map (λk=>D.str ⟨#[g k]⟩)=((Wr n).map λk=>(⟨#[g k]⟩:Str)).map D.str:=by rw [VA];rfl
 have he:(Wm "").length=0:=by decide +kernel
 rw [e,Nt (by rw [JY,he];simp;omega)]
 congr 2
 congr 1
 apply Qq
 rw [Qi,Tx,Jh]
theorem NW {c:Int}{old:Str}(ho:(cs old).length≤60){k:Nat}(hk:k<4){S:Sto}{en:En}(h:Se c old k en):∃en2,Yr (en.set 4 (some (.int (k:Nat)))) S=some (.nx,en2,S)/\Se c old (k+1) en2:=by
 obtain⟨t,x4,x5,x6,ht,rfl⟩:=h
 have z:=J0
 have lo:old.length≤Wc:=by rw [Zn];exact Wx ho (by decide)
 have hL:(0:Int)<((cs old).length:Int)+1:=by omega
 have o0:=Vu ((c+7*(k:Int))*48271%9803) (b:=((cs old).length:Int)+1) (by omega)
 have o1:=Vv ((c+7*(k:Int))*48271%9803) (b:=((cs old).length:Int)+1) (by omega)
 obtain⟨a,ea⟩:∃a:Nat,(c+7*(k:Int))*48271%9803%(((cs old).length:Int)+1)=(a:Int):=⟨_,(VJ o0).symm⟩
 rw [ea] at o1
 have m0:=Vu ((c+11*(k:Int))*48271%9791) (b:=9) (by decide)
 obtain⟨n,en⟩:∃n:Nat,(c+11*(k:Int))*48271%9791%9=(n:Int):=⟨_,(VJ m0).symm⟩
 have j0:=Vu ((c+5*(k:Int))*48271%9781) (b:=4) (by decide)
 have j1:=Vv ((c+5*(k:Int))*48271%9781) (b:=4) (by decide)
 obtain⟨j,ej⟩:∃j:Nat,(c+5*(k:Int))*48271%9781%4=(j:Int):=⟨_,(VJ j0).symm⟩
 have hj:j≤3:=by omega
 have hsl:=M4 old a n (by omega)
 generalize hw:Vc old (some (a:Int)) (some ((a:Int)+(n:Int)))=w at hsl
 let g:Nat->Nat:=λi=>(cs (Wm "ab;a ")).getD ((c+3*(k:Int)+(i:Int))*48271%9787%5).toNat 0
 have hJ:=LA (g:=g) (m:=YQ) (cap:=[none,some (.int c),some (.str (Wm "ab;a ")),some (.int (k:Nat))]) (S:=S) j (by omega) λi hi=>by
  have m0:=Vu ((c+3*(k:Int)+(i:Int))*48271%9787) (b:=5) (by decide)
  have m1:=Vv ((c+3*(k:Int)+(i:Int))*48271%9787) (b:=5) (by decide)
  have hz:(cs (Wm "ab;a ")).length=5:=by decide +kernel
  simp only [YQ,EVS,W8,W9,Wh,W4,Wi,Wj,Wa,Wb,W6,↓reduceIte,reduceCtorEq,W1,Wd,W5,UE,Qe]
  rw [ixS (by decide +kernel) m0 (by rw [hz];exact m1)]
 have g1:Y1 (.str t) (.str w) S=some (.str (t++w),S):=RW (by rw [Zn,Zn];omega)
 have l2:(cs (t++w)).length≤63*k+60:=by rw [UK,Wo];omega
 have hgl:(cs (⟨((Wr j).map g).toArray⟩:Str)).length=j:=by rw [Tx,Wg,V3]
 have g2:Y1 (.str (t++w)) (.str ⟨((Wr j).map g).toArray⟩) S=some (.str (t++w++⟨((Wr j).map g).toArray⟩),S):=RW (by rw [Zn,Zn (⟨((Wr j).map g).toArray⟩:Str),hgl];clear o0 m0 j0 j1 ea en ej;omega)
 have htn:Int.toNat (j:Int)=j:=rfl
 refine⟨[some (.int c),some (.str old),some (.str (Wm "ab;a ")),some (.str (t++w++⟨((Wr j).map g).toArray⟩)),some (.int (k:Nat)),some (.int (a:Int)),some (.int (j:Int))],by simp only [Yr,EVS,W8,W9,Wh,W4,Wi,Wj,Wa,Wb,W6,↓reduceIte,reduceCtorEq,W1,Wd,W5,UE,Q6 lo,Zn,Qe,hL,ea,en,ej,slS lo,hw,g1,Ti (show -(2 ^ 62)≤(j:Int)/\(j:Int)<2 ^ 62 by omega),htn,hJ,g2],_,_,_,_,?_,rfl⟩
 rw [UK,Wo,hgl]
 clear o0 m0 j0 j1 ea en ej
 omega
theorem UI (c:Int){old:Str}(ho:(cs old).length≤60)(S:Sto):∃x:Str,(cs x).length≤60/\Ye [.int c,.str old] S=some (.str x,S):=by
 have m0:=Vu (c*48271%9811) (b:=4) (by decide)
 have m1:=Vv (c*48271%9811) (b:=4) (by decide)
 obtain⟨m,em⟩:∃m:Nat,1+c*48271%9811%4=(m:Int):=⟨_,(VJ (by omega)).symm⟩
 have h0:Se c old 0 [some (.int c),some (.str old),some (.str (Wm "ab;a ")),some (.str (Wm "")),none,none,none]:=⟨_,_,_,_,by decide +kernel,rfl⟩
 obtain⟨en',S',e,hS,rfl⟩:=YN (g:=gN 4) (ds0:=YF 0 m) (gd:=.no) (body:=Yr) (Wr m) (λk=>D.int (k:Nat)) (λpre en S'=>Se c old pre.length en/\S'=S)
  (λpre k post en S' hx hP=>⟨_,rfl,by
   obtain⟨rfl,hk⟩:=Qd hx
   obtain⟨hP,rfl⟩:=hP
   obtain⟨en2,q1,q2⟩:=NW ho (S:=S') (by omega) hP
   rw [Wo]
   exact⟨en2,S',q1,q2,rfl⟩⟩) (λ_ _ _ _=>trivial) ⟨h0,rfl⟩
 rw [←Yy] at e
 obtain⟨t,x4,x5,x6,ht,rfl⟩:=hS
 rw [V3] at ht
 have lt:t.length≤Wc:=by rw [Zn];exact Wx (show _≤1000 by omega) J0
 refine⟨Vc t none (some 60),?_,?_⟩
 ·have:=Kj t 60
  rw [show ((60:Nat):Int)=60 from rfl] at this
  rw [this,WL]
  omega
 ·have htn:Int.toNat (m:Int)=m:=rfl
  unfold Ye
  simp only [EVS,W8,W9,Wh,W4,Wi,Wj,Wa,Wb,W6,↓reduceIte,reduceCtorEq,W1,Wd,W5,Qe,em,Ti (show -(2 ^ 62)≤(m:Int)/\(m:Int)<2 ^ 62 by omega),htn,e,slS lt]
end K23
namespace K23
open PySem L2 DL
theorem Br {S S':Sto}{n:Nat}(h:S.length≤n):UX S (.ref n,S')=(.ref n,S'):=by
 unfold UX
 rw [if_neg]
 rintro⟨_,q⟩
 rw [JF] at q
 have:=of_decide_eq_true q
 omega
theorem Nb {a:M D}{en:En}{S S1:Sto}{n:Nat}(h1:a en S=some (.int (n:Int),S1))(hn:n≤100):Qw a en S=some (YF 0 n,S1):=by
 unfold Qw
 rw [h1,WG]
 dsimp only
 have hz:100≤Wc:=by decide
 rw [if_pos ⟨by omega,by omega,by omega⟩,W06]
theorem MH {a b:M D}{en:En}{S:Sto}{n:Nat}{i:Int}{ds:List D}{d:D}(h1:a en S=some (.ref n,S))(h2:b en S=some (.int i,S))(h3:S[n]? = some (.lst ds))(h4:0≤i/\i<2 ^ 62)(h5:ds[i.toNat]? = some d):Uq a b en S=some (d,S.set n (.lst (ds.eraseIdx i.toNat))):=by
 unfold Uq
 rw [h1,WG]
 dsimp only
 rw [h2,WG]
 dsimp only
 rw [h3]
 dsimp only
 rw [if_pos h4,h5]
 rfl
theorem M5 {α:Type}{ds0:List D}{cap:En}{g:D->En->Option En}{m:M D}(enc:α->D)(xs:List α)(P:List α->List D->Sto->Prop)(hl:xs.length≤100)(hacc:∀pre acc S,P pre acc S->acc.length=pre.length)
  (step:∀pre a post acc S,xs=pre++a :: post->P pre acc S->∃en v S2,g (enc a) cap=some en/\m en S=some (v,S2)/\P (pre++[a]) (acc++[v]) S2) :
  ∀(post pre:List α) (acc:List D) (S:Sto),xs=pre++post->P pre acc S->∃acc' S',Zt ds0 .no cap g ZS m (post.map enc) acc S=some (acc',S')/\P xs acc' S'
 |[],pre,acc,S,hx,hP=>by
  have hz:100≤Wc:=by decide
  have ha:=hacc pre acc S hP
  have hlen:=congrArg Vb hx
  rw [Wo,List.length_nil] at hlen
  refine⟨acc,S,?_,by rw [hx,Vt];exact hP⟩
  unfold Zt
  simp only [Wd]
  rw [if_pos ⟨trivial,by omega⟩]
 |a :: post,pre,acc,S,hx,hP=>by
  have hz:100≤Wc:=by decide
  have ha:=hacc pre acc S hP
  have hlen:=congrArg Vb hx
  rw [Wo,V2] at hlen
  obtain⟨en,v,S2,h1,h2,h3⟩:=step pre a post acc S hx hP
  obtain⟨acc',S',e,hP'⟩:=M5 enc xs P hl hacc step post (pre++[a]) (acc++[v]) S2 (by rw [hx,WX];rfl) h3
  refine⟨acc',S',?_,hP'⟩
  rw [W1]
  unfold Zt
  rw [if_pos ⟨trivial,by omega⟩,h1,WG]
  show ((ZS en S).bind λp=>_)=_
  rw [show ZS en S=some (true,S) from rfl,WG]
  dsimp only
  rw [if_pos rfl,h2,WG]
  exact e
theorem UH {α β:Type}(f:α->β):∀(l:List α) (n:Nat),(l.map f).eraseIdx n=(l.eraseIdx n).map f
 |[],n=>by simp
 |a :: l,0=>rfl
 |a :: l,n+1=>by
  rw [W1,W0o,UH f l n,W0o,W1]
theorem QE {α:Type}:∀{l:List α} {n:Nat} (h:n<l.length),(l[n] :: l.eraseIdx n).Perm l
 |[],n,h=>absurd h (by simp)
 |a :: l,0,h=>.refl _
 |a :: l,n+1,h=>by
  rw [List.getElem_cons_succ,W0o]
  exact (List.Perm.swap ..).trans (.cons a (QE (by simpa using h)))
theorem MA {S:Sto}{o o':Ob}:(S++[o]).set S.length o'=S++[o']:=by simp
theorem La (c:Int)(m:Nat)(hm:m≤10)(S:Sto):∃p:List Nat,p.Perm (Wr m)/\YX [.int c,.int (m:Int)] S=some (.ref (S++[Ob.lst []]).length,S++[Ob.lst []]++[Ob.lst (p.map λk=>D.int (k:Nat))]):=by
 let I:Nat->D:=λk=>D.int (k:Nat)
 let P:List Nat->List D->Sto->Prop:=λpre acc S'=>∃(an left:List Nat),acc=an.map I/\S'=S++[.lst (left.map I)]/\(an++left).Perm (Wr m)/\an.length=pre.length
 have step:∀(pre:List Nat) (k:Nat) (post:List Nat) (acc:List D) (S1:Sto),Wr m=pre++k :: post->P pre acc S1->∃en v S2,gN 0 (I k) [none,some (.int c),some (.int (m:Int)),some (.ref S.length)]=some en/\YV en S1=some (v,S2)/\P (pre++[k]) (acc++[v]) S2:=by
  intro pre k post acc S1 hpre hP
  obtain⟨an,left,rfl,rfl,hp,hl⟩:=hP
  obtain⟨hk,hkm⟩:=Qd hpre
  have hll:left.length=m-k:=by
   have:=hp.length_eq
   rw [Wo,V3] at this
   omega
  have m0:=Vu ((c+5*(k:Int))*48271%9967) (b:=(m:Int)-(k:Int)) (by omega)
  have m1:=Vv ((c+5*(k:Int))*48271%9967) (b:=(m:Int)-(k:Int)) (by omega)
  generalize hi:(c+5*(k:Int))*48271%9967%((m:Int)-(k:Int))=i at *
  have hit:i.toNat<left.length:=by omega
  have q1:(0:Int)<9967:=by decide
  have q2:(0:Int)<(m:Int)-(k:Int):=by omega
  have hpop:=MH (a:=Z4 3) (b:=Zv ZE (Z3 (mOp Y1 (Z4 1) (mOp Tn (Zk (D.int (5))) (Z4 0))) (Z3 (Zk (D.int (9967))) (Z3 (mOp Be (Z4 2) (Z4 0)) Y3)))) (en:=[some (.int (k:Int)),some (.int c),some (.int (m:Int)),some (.ref S.length)])
   (S:=S++[.lst (left.map I)]) (n:=S.length) (i:=i) (ds:=left.map I) (d:=I left[i.toNat]) rfl (by simp only [EVS,W8,W9,Wh,W4,Wi,Wj,Wa,Wb,W6,↓reduceIte,reduceCtorEq,W1,Wd,W5,UE,Qe,q1,q2,hi]) (Ww ..) ⟨m0,by omega⟩ (by rw [WU,Wu hit];rfl)
  rw [MA] at hpop
  refine⟨_,_,_,rfl,hpop,an++[left[i.toNat]],left.eraseIdx i.toNat,by rw [Va];rfl,by rw [UH],?_,by rw [Wo,Wo,hl];rfl⟩
  refine List.Perm.trans ?_ hp
  rw [WX]
  exact List.Perm.append_left an (QE hit)
 have hm100:(Wr m).length≤100:=by rw [V3];omega
 obtain⟨acc',S',e,an,left,rfl,rfl,hp,hl⟩:=M5 (ds0:=YF 0 m) (cap:=[none,some (.int c),some (.int (m:Int)),some (.ref S.length)]) (g:=gN 0) (m:=YV) I (Wr m) P hm100 (λpre acc S' h=>by
  obtain⟨an,left,rfl,_,_,hl⟩:=h
  rw [Wg,hl]) step (Wr m) [] [] (S++[.lst (YF 0 m)]) rfl ⟨[],Wr m,rfl,by rw [Yy],.refl _,rfl⟩
 have hl0:left=[]:=by
  have:=hp.length_eq
  rw [Wo,hl,V3] at this
  exact VW.mp (by omega)
 subst hl0
 rw [Vt] at hp
 refine⟨an,hp,?_⟩
 have e':Zt (YF 0 m) .no [none,some (.int c),some (.int (m:Int)),some (.ref S.length)] (gN 0) ZS YV (YF 0 m) [] (S++[.lst (YF 0 m)])=some (an.map I,S++[.lst []]):=by
  have h2:=Yy m
  conv=>lhs;arg 7;rw [h2]
  exact e
 have hr:Qw (Z4 1) [some (.int c),some (.int (m:Int)),none] S=some (YF 0 m,S):=Nb rfl (by omega)
 unfold YX
 have hrg : -(2 ^ 62)≤(m:Int)/\(m:Int)<2 ^ 62:=⟨by omega,by omega⟩
 simp only [EVS,W8,W9,Wh,W4,Wi,Wj,Wa,Wb,W6,↓reduceIte,reduceCtorEq,W1,Wd,W5,hr,Ti hrg,W06,e']
 rw [Br (by rw [Wo];omega)]
end K23
namespace K23
open PySem L2 DL
def lst (tx old:Str):Int:=match Yl [.str tx,.str old] [] with|some (.int w,_)=>w|_=>0
theorem Na {tx old:Str}{lw:LW}(ht:(cs tx).length≤60)(ho:(cs old).length≤60)(hlw:lw.length=(cs tx).length+1)(hg:Fe (cs tx) old lw):lst tx old=Wt lw (cs tx).length:=by
 unfold lst
 rw [G4 ht ho hlw hg []]
theorem As {tx old:Str}(ht:(cs tx).length≤60)(ho:(cs old).length≤60)(S:Sto):Yl [.str tx,.str old] S=some (.int (lst tx old),S):=by
 obtain⟨lw,h1,h2,_⟩:=Qn ht ho S
 rw [Na ht ho h1 h2]
 exact G4 ht ho h1 h2 S
theorem FM {tx old:Str}(ht:(cs tx).length≤60)(ho:(cs old).length≤60)(S:Sto):∃q:List Pc,(∀p∈q,okP old p)/\q.length≤100/\wts q=lst tx old/\Zh [.str tx,.str old] S=some (cdD (lst tx old) q,S)/\Ql [.str tx,.str old] S=some (.tup (q.map enc),S):=by
 obtain⟨lw,h1,h2,h3⟩:=Qn ht ho S
 have g:=h2.2 (cs tx).length (by omega)
 have e:=Na ht ho h1 h2
 have hl:=g.len
 refine⟨Qs lw (cs tx).length,g.ok,by omega,by rw [e];exact g.wt,by rw [e];exact h3,?_⟩
 unfold cdD at h3
 unfold Ql
 simp only [EVS,W8,W9,Wh,W4,Wi,Wj,Wa,Wb,W6,↓reduceIte,reduceCtorEq,W1,Wd,W5,h3]
theorem Fi (p:Pc):2≤wtP p:=by
 cases p with
 |keep b n=>exact W0y 2
 |new w=>show 2≤2+((cs w).length:Int);omega
theorem Bh:∀q:List Pc,0≤wts q
 |[]=>W0y 0
 |p :: q=>by
  have h1:=Fi p
  have h2:=Bh q
  unfold wts at *
  rw [W1,List.sum_cons]
  omega
theorem LP (x:Str):inO x x=true:=by
 unfold inO
 rw [StrLaws.found_iff]
 refine⟨0,by omega,?_⟩
 rw [StrLaws.subAt_eq]
 have:List.take x.length (List.drop 0 x.cps.toList)=x.cps.toList:=by
  rw [W12,Vx]
  simp [Str.length]
 rw [this]
 exact beq_self_eq_true _
theorem K0 {tx:Str}(ht:(cs tx).length≤60):lst tx tx=2*(if (!decide (tx=Wm ""))=true then 1 else 0):=by
 obtain⟨lw,h1,h2,_⟩:=Qn ht ht []
 rw [Na ht ht h1 h2]
 by_cases h0:(cs tx).length=0
 ·have e:tx=Wm "":=by
   apply Qq
   have z:cs (Wm "")=[]:=by decide +kernel
   rw [z]
   exact VW.mp h0
  rw [h0,h2.1,decide_eq_true e]
  rfl
 ·have e:¬tx=Wm "":=λz=>by
   rw [z] at h0
   exact h0 (by decide +kernel)
  rw [decide_eq_false e]
  have g:=h2.2 (cs tx).length (by omega)
  have hs:seg (cs tx) (cs tx).length (cs tx).length=tx:=by
   apply Qq
   unfold seg
   rw [W0C,W12,List.take_length]
   exact Tx _
  have up:=g.keep (cs tx).length (by omega) (Wp _) (by rw [hs];exact LP tx)
  rw [W0C,h2.1] at up
  obtain⟨m,a,b,c⟩:=g.is (by omega)
  have gm:=h2.2 ((cs tx).length-m) (by omega)
  have pos:0≤Wt lw ((cs tx).length-m):=by rw [←gm.wt];exact Bh _
  show Wt lw (cs tx).length=2*1
  rcases c with c|⟨_,c⟩<;>omega
def mn (ws:List Int):Int:=ws.getD (argBest (ltG (ws.map D.int)) (ws.length-1)) 0
theorem TB (lt:Nat->Nat->Bool):∀n,argBest lt n≤n
 |0=>Wp 0
 |n+1=>by
  have ih:=TB lt n
  show (if lt (n+1) (argBest lt n)=true then n+1 else argBest lt n)≤n+1
  split<;>omega
theorem KG {ws:List Int}(h:0<ws.length):mn ws∈ws:=by
 have:=TB (ltG (ws.map D.int)) (ws.length-1)
 have hk:argBest (ltG (ws.map D.int)) (ws.length-1)<ws.length:=by omega
 unfold mn
 simp [V8,hk]
theorem Ai {ws:List Int}(h:0<ws.length):JW (ws.map D.int) = .int (mn ws):=by
 have:=TB (ltG (ws.map D.int)) (ws.length-1)
 have hk:argBest (ltG (ws.map D.int)) (ws.length-1)<ws.length:=by omega
 unfold JW mn
 rw [Wg]
 simp [V8,hk]
theorem N3 {ws:List Int}(h:0<ws.length):JV (ws.map D.int)=true:=by
 unfold JV
 rw [Wg,decide_eq_true h,Bool.true_and,WA,WM,WM]
 constructor
 ·intro d hd
  obtain⟨x,_,rfl⟩:=VB.mp hd
  rfl
 ·intro d hd
  obtain⟨x,_,rfl⟩:=VB.mp hd
  rw [WM]
  intro d' hd'
  obtain⟨y,_,rfl⟩:=VB.mp hd'
  rfl
theorem mnD {ws:List Int}(h:0<ws.length)(S:Sto):K6 (some (ws.map D.int,S))=some (.int (mn ws),S):=by rw [Pq (N3 h),Ai h]
def fst (ws:List Int):Nat:=ws.idxOf (mn ws)
theorem Sa {S:Sto}{n:Nat}{ds:List D}(h:S[n]? = some (.lst ds)):kSq (some (.ref n,S))=some (ds,S):=by
 show (Fb (.ref n) S).map _=_
 dsimp only [Fb]
 rw [h]
 rfl
theorem QW {ma:M D}{en:En}{S:Sto}{n:Nat}{ws:List Int}(h1:ma en S=some (.ref n,S))(h2:S[n]? = some (.lst (ws.map D.int)))(h0:0<ws.length)(hz:ws.length<1000):QJ ma (Qv (mSq ma)) en S=some (.int ((fst ws:Nat):Int),S):=by
 unfold QJ
 have e:Qv (mSq ma) en S=some (.int (mn ws),S):=by rw [NX,Hr,h1,Sa h2,mnD h0]
 rw [h1,WG,e,WG]
 dsimp only
 rw [h2]
 dsimp only
 rw [Jj,WG,if_pos ⟨KG h0,by omega⟩]
 rfl
theorem TC {tx:Str}(ht:(cs tx).length≤60){olds:List Str}(ho:∀o∈olds,(cs o).length≤60)(h0:0<olds.length)(hz:olds.length≤20)(S:Sto):ZY [.str tx,.tup (olds.map D.str)] S=some (.int ((fst (olds.map (lst tx)):Nat):Int),S):=by
 have c1:Zt (olds.map D.str) .no [none,some (.str tx)] (gN 0) ZS YO (olds.map D.str) [] S=some ((olds.map (lst tx)).map D.int,S):=by
  rw [ZW olds D.str (λo=>D.int (lst tx o)) Y0 (Wx hz (by decide)) λo hq=>⟨_,rfl,?_⟩]
  ·rw [VA];rfl
  ·obtain⟨q,_,_,_,e,_⟩:=FM ht (ho o hq) S
   unfold cdD at e
   simp only [YO,EVS,W8,W9,Wh,W4,Wi,Wj,Wa,Wb,W6,↓reduceIte,reduceCtorEq,W1,Wd,W5,e]
 have hi:=QW (ma:=Z4 2) (en:=[some (.str tx),some (.tup (olds.map D.str)),some (.ref S.length)]) (S:=S++[.lst ((olds.map (lst tx)).map D.int)]) (n:=S.length) (ws:=olds.map (lst tx)) (by simp only [EVS,W8,W9,Wh,W4,Wi,Wj,Wa,Wb,W6,↓reduceIte,reduceCtorEq,W1,Wd,W5]) (Ww ..) (by rw [Wg];exact h0) (by rw [Wg];omega)
 unfold ZY
 simp only [EVS,W8,W9,Wh,W4,Wi,Wj,Wa,Wb,W6,↓reduceIte,reduceCtorEq,W1,Wd,W5,c1,hi]
 rw [QZ _ _ (.int _) rfl]
end K23
namespace K23
open PySem L2 DL
theorem YE {sa sb:MS}{en en1:En}{S S1:Sto}{Q:En->Sto->Prop}(h1:sa en S=some (.nx,en1,S1))(h2:∃en2 S2,sb en1 S1=some (.nx,en2,S2)/\Q en2 S2):∃en2 S2,Ym sa sb en S=some (.nx,en2,S2)/\Q en2 S2:=by
 obtain⟨en2,S2,e2,hQ⟩:=h2
 exact⟨en2,S2,by rw [Kd,h1,K3,e2],hQ⟩
theorem UJ {x:Str}{j:Nat}{S:Sto}(hx:(cs x).length≤60):∃y:Str,(cs y).length≤60/\(cs y).length≤j/\∀S,slD (.str x) none (some (j:Int)) S=some (.str y,S):=by
 have lx:x.length≤Wc:=by rw [Zn];exact Wx hx (by decide)
 refine⟨Vc x none (some (j:Int)),?_,?_,λS=>slS lx⟩
 ·rw [Kj,WL];omega
 ·rw [Kj,WL];omega
theorem PU {m:M D}{en:En}{S:Sto}{ds:List D}(h:m en S=some (.tup ds,S)):Up m (Yn (Zk (.int (-1)))) en S=some (.tup ds.reverse,S):=by
 unfold Up
 rw [h,WG]
 rfl
theorem PV {m:M D}{en:En}{S:Sto}{n:Nat}{ds:List D}(h:m en S=some (.ref n,S))(h2:S[n]? = some (.lst ds)):Up m (Yn (Zk (.int (-1)))) en S=some (.ref S.length,S++[.lst ds.reverse]):=by
 unfold Up
 rw [h,WG]
 show (if some (-1:Int)=some (-1) then ME (.ref n) S else none)=_
 rw [if_pos rfl]
 dsimp only [ME]
 rw [h2]
theorem up1 {S G:Sto}{n:Nat}{o:Ob}(h:S[n]? = some o):(S++G)[n]? = some o:=by rw [WF (Wl.mp h).1];exact h
def Sh3 (ns:List Int)(en:En):Prop:=∃x1 x2 x3 x4 x5 x6 x7 x8 x9 x10,en=[some (.scr ns),x1,x2,x3,x4,x5,x6,x7,x8,x9,x10]
theorem turn (ns:List Int)(k:Nat){en:En}{S:Sto}(he:Sh3 ns en):∃en' S',U5 (en.set 1 (some (.int (k:Nat)))) S=some (.nx,en',S')/\Sh3 ns en':=by
 obtain⟨x1,x2,x3,x4,x5,x6,x7,x8,x9,x10,rfl⟩:=he
 obtain⟨c,hc⟩:=Tz ns k
 obtain⟨c1,hc1⟩:=Tz ns (k+1)
 have hc1':∀S,ZZ [.scr ns,.int ((k:Int)+1)] S=some (.int c1,S):=λS=>hc1 S
 obtain⟨c2,hc2⟩:=Tz ns 2
 have hc2':∀S,ZZ [.scr ns,.int 2] S=some (.int c2,S):=λS=>hc2 S
 obtain⟨o1,ho1,hold1⟩:=KD c
 obtain⟨bs,hb,_,hcut1⟩:=UJ (S:=S) (j:=30) ho1
 obtain⟨t1,ht1,hed1⟩:=UI (c1+(k:Int)) hb S
 obtain⟨tx,ht,_,hcut2⟩:=UJ (S:=S) (j:=24) ht1
 obtain⟨o2,ho2,hold2⟩:=KD (c+3)
 obtain⟨p2,hp2,_,hcut3⟩:=UJ (S:=S) (j:=30) ho2
 obtain⟨t3,ht3,hed3⟩:=UI (c+5) hb S
 obtain⟨p3,hp3,_,hcut4⟩:=UJ (S:=S) (j:=30) ht3
 have m0:=Vu (c*48271%9743) (b:=25) (by decide)
 obtain⟨m,em⟩:∃m:Nat,c*48271%9743%25=(m:Int):=⟨_,(VJ m0).symm⟩
 obtain⟨p6,hp6,_,hcut5⟩:=UJ (S:=S) (j:=m) ht
 have he0:(cs (Wm "")).length≤60:=by decide +kernel
 let some6:List Str:=[bs,p2,p3,bs,Wm "",p6]
 have h6:∀o∈some6,(cs o).length≤60:=λo hq=>by
  simp only [some6,WD,WI,or_false] at hq
  rcases hq with rfl|rfl|rfl|rfl|rfl|rfl<;>assumption
 have c30:((30:Nat):Int)=30:=rfl
 have c24:((24:Nat):Int)=24:=rfl
 rw [c30] at hcut1 hcut3 hcut4
 rw [c24] at hcut2
 unfold U5
 refine YE (en1:=[some (.scr ns),some (.int (k:Nat)),some (.int c),x3,x4,x5,x6,x7,x8,x9,x10]) (S1:=S) (by simp only [EVS,W8,W9,Wh,W4,Wi,Wj,Wa,Wb,W6,↓reduceIte,reduceCtorEq,W1,Wd,W5,hc]) ?_
 refine YE (en1:=[some (.scr ns),some (.int (k:Nat)),some (.int c),some (.str bs),x4,x5,x6,x7,x8,x9,x10]) (S1:=S) (by simp only [EVS,W8,W9,Wh,W4,Wi,Wj,Wa,Wb,W6,↓reduceIte,reduceCtorEq,W1,Wd,W5,hold1,hcut1]) ?_
 refine YE (en1:=[some (.scr ns),some (.int (k:Nat)),some (.int c),some (.str bs),some (.str tx),x5,x6,x7,x8,x9,x10]) (S1:=S) (by simp only [EVS,W8,W9,Wh,W4,Wi,Wj,Wa,Wb,W6,↓reduceIte,reduceCtorEq,W1,Wd,W5,hc1',hed1,hcut2]) ?_
 refine YE (en1:=[some (.scr ns),some (.int (k:Nat)),some (.int c),some (.str bs),some (.str tx),some (.ref S.length),x6,x7,x8,x9,x10]) (S1:=S++[.lst [.str bs,.str p2,.str p3,.str bs,.str (Wm "")]]) (by simp only [EVS,W8,W9,Wh,W4,Wi,Wj,Wa,Wb,W6,↓reduceIte,reduceCtorEq,W1,Wd,W5,hold2,hcut3,hed3,hcut4]) ?_
 refine YE (en1:=[some (.scr ns),some (.int (k:Nat)),some (.int c),some (.str bs),some (.str tx),some (.ref S.length),x6,x7,x8,x9,x10]) (S1:=S++[.lst (some6.map D.str)]) (by simp only [EVS,W8,W9,Wh,W4,Wi,Wj,Wa,Wb,W6,↓reduceIte,reduceCtorEq,W1,Wd,W5,Qe,em,hcut5,F5 (show [D.str bs,.str p2,.str p3,.str bs,.str (Wm "")].length<Wc by simp only [V2,List.length_nil];decide)];rfl) ?_
 generalize hS1:S++[Ob.lst (some6.map D.str)]=S1
 have g1:S1[S.length]? = some (.lst (some6.map D.str)):=by rw [←hS1];exact Ww ..
 -- the olds
 obtain⟨pm,hperm,hpm⟩:=La (c2+(k:Int)) 6 (by decide) S1
 have hpm':YX [.int (c2+(k:Int)),.int 6] S1=_:=hpm
 have hlen6:pm.length=6:=by rw [hperm.length_eq];rfl
 have hlt6:∀a∈pm,a<6:=λa ha=>by simpa using hperm.mem_iff.mp ha
 generalize hS2:S1++[Ob.lst []]++[Ob.lst (pm.map λk=>D.int (k:Nat))]=S2 at hpm'
 generalize hn2:(S1++[Ob.lst []]).length=n2 at hpm'
 have g2:S2[n2]? = some (.lst (pm.map λk=>D.int (k:Nat))):=by rw [←hS2,←hn2];exact Ww ..
 have g2':S2[S.length]? = some (.lst (some6.map D.str)):=by rw [←hS2,WX];exact up1 g1
 have cL:Zt (pm.map λk=>D.int (k:Nat)) (.lst n2) [none,some (.ref S.length)] (gN 0) ZS Tr (pm.map λk=>D.int (k:Nat)) [] S2=some ((pm.map λa=>some6.getD a (Wm "")).map D.str,S2):=by
  rw [ZW pm (λk=>D.int (k:Nat)) (λa=>D.str (some6.getD a (Wm ""))) (show TF (.lst n2) _ _ from g2) (by rw [hlen6];decide) λa ha=>⟨_,rfl,?_⟩]
  ·rw [VA];rfl
  ·have hi:(some6.map D.str)[a]? = some (.str (some6.getD a (Wm ""))):=by
    have:a<some6.length:=hlt6 a ha
    simp [V8,this]
   simp only [Tr,EVS,W8,W9,Wh,W4,Wi,Wj,Wa,Wb,W6,↓reduceIte,reduceCtorEq,W1,Wd,W5,ixL g2' hi]
 generalize hall:(pm.map λa=>some6.getD a (Wm ""))=all at cL
 have hall6:all.length=6:=by rw [←hall,Wg];exact hlen6
 have hallo:∀o∈all,(cs o).length≤60:=λo hq=>by
  rw [←hall] at hq
  obtain⟨a,ha,rfl⟩:=VB.mp hq
  have h:a<some6.length:=hlt6 a ha
  refine h6 _ ?_
  simp [V8,h]
 have j0:=Vu (c*48271%9739) (b:=4) (by decide)
 have j1:=Vv (c*48271%9739) (b:=4) (by decide)
 obtain⟨j,ej⟩:∃j:Nat,1+c*48271%9739%4=(j:Int):=⟨_,(VJ (by omega)).symm⟩
 have hj:1≤j/\j≤4:=by omega
 have hsl:∀(S0:Sto) (n:Nat),S0[n]? = some (.lst (all.map D.str))->slD (.ref n) none (some (j:Int)) S0=some (.ref S0.length,S0++[.lst ((all.take j).map D.str)]):=λS0 n h=>by
  dsimp only [slD]
  rw [h]
  dsimp only
  unfold Ki
  rw [HT.sIx_nat,HT.sIx_none,W12,Wg,hall6,show min j 6-0=j by omega,List.map_take]
 have hsl1:=hsl (S2++[.lst (all.map D.str)]) S2.length (Ww ..)
 generalize holds:all.take j=olds at hsl1
 have hol:olds.length=j:=by rw [←holds,WL];omega
 have hoo:∀o∈olds,(cs o).length≤60:=λo hq=>hallo o (by rw [←holds] at hq;exact List.mem_of_mem_take hq)
 generalize hS3:S2++[Ob.lst (all.map D.str)]++[Ob.lst (olds.map D.str)]=S3 at hsl1
 have hn3:NG (some (.ref (S2++[Ob.lst (all.map D.str)]).length,S3))=some (.tup (olds.map D.str),S3):=by rw [←hS3];exact Th
 refine YE (en1:=[some (.scr ns),some (.int (k:Nat)),some (.int c),some (.str bs),some (.str tx),some (.ref S.length),some (.tup (olds.map D.str)),x7,x8,x9,x10]) (S1:=S3) (by simp only [EVS,W8,W9,Wh,W4,Wi,Wj,Wa,Wb,W6,↓reduceIte,reduceCtorEq,W1,Wd,W5,hc2',hpm',QT g2,cL,Qe,ej,hsl1,hn3]) ?_
 -- the weights
 generalize hws:olds.map (lst tx)=ws
 have hwl:ws.length=j:=by rw [←hws,Wg];exact hol
 have cW:Zt (olds.map D.str) .no [none,some (.str tx)] (gN 0) ZS Tq (olds.map D.str) [] S3=some (ws.map D.int,S3):=by
  rw [ZW olds D.str (λo=>D.int (lst tx o)) Y0 (Wx (show olds.length≤1000 by omega) J0) λo hq=>⟨_,rfl,by simp only [Tq,EVS,W8,W9,Wh,W4,Wi,Wj,Wa,Wb,W6,↓reduceIte,reduceCtorEq,W1,Wd,W5,As ht (hoo o hq)]⟩]
  rw [←hws,VA]
  rfl
 refine YE (en1:=[some (.scr ns),some (.int (k:Nat)),some (.int c),some (.str bs),some (.str tx),some (.ref S.length),some (.tup (olds.map D.str)),some (.ref S3.length),x8,x9,x10]) (S1:=S3++[.lst (ws.map D.int)]) (by simp only [EVS,W8,W9,Wh,W4,Wi,Wj,Wa,Wb,W6,↓reduceIte,reduceCtorEq,W1,Wd,W5,cW]) ?_
 generalize hS4:S3++[Ob.lst (ws.map D.int)]=S4
 have g4:S4[S3.length]? = some (.lst (ws.map D.int)):=by rw [←hS4];exact Ww ..
 generalize S3.length=n4 at g4 ⊢
 have i4:=QW (ma:=Z4 7) (en:=[some (.scr ns),some (.int (k:Nat)),some (.int c),some (.str bs),some (.str tx),some (.ref S.length),some (.tup (olds.map D.str)),some (.ref n4),x8,x9,x10]) (by simp only [EVS,W8,W9,Wh,W4,Wi,Wj,Wa,Wb,W6,↓reduceIte,reduceCtorEq,W1,Wd,W5]) g4 (by omega) (by omega)
 refine YE (en1:=[some (.scr ns),some (.int (k:Nat)),some (.int c),some (.str bs),some (.str tx),some (.ref S.length),some (.tup (olds.map D.str)),some (.ref n4),some (.int (fst ws:Nat)),x9,x10]) (S1:=S4) (by rw [Ke,i4,Lw];rfl) ?_
 have sm:∀(i:Int) S,ZP 12 [.int i,.int i] S=some (.bl true,S):=λi S=>Kv 1 _ 10 S (by unfold SD;trivial)
 have b1:=TC ht hoo (by omega) (by omega)
 rw [hws] at b1
 have hmem:=KG (ws:=ws) (by omega)
 have hfl:fst ws<ws.length:=W1b.mpr hmem
 have hfo:fst ws<olds.length:=by omega
 have hge:ws[fst ws]=mn ws:=List.getElem_idxOf hfl
 have hlo:lst tx olds[fst ws]=mn ws:=by
  rw [←hge]
  simp [←hws]
 have hix:∀S,gIx (.tup (olds.map D.str)) (.int ((fst ws:Nat):Int)) S=some (.str olds[fst ws],S):=λS=>Tl (by rw [WU,Wu hfo,W5])
 obtain⟨q,q1,q2,q3,q4,q5⟩:=FM ht (hoo _ (W01 hfo)) S4
 have w4:=Bi q1 q2 S4
 rw [q3,hlo] at w4
 have m4:K6 (kSq (some (.ref n4,S4)))=some (.int (mn ws),S4):=by rw [Sa g4,mnD (by omega)]
 refine YE (en1:=[some (.scr ns),some (.int (k:Nat)),some (.int c),some (.str bs),some (.str tx),some (.ref S.length),some (.tup (olds.map D.str)),some (.ref n4),some (.int (fst ws:Nat)),x9,x10]) (S1:=S4) (by simp only [EVS,W8,W9,Wh,W4,Wi,Wj,Wa,Wb,W6,↓reduceIte,reduceCtorEq,W1,Wd,W5,b1,sm,hix,q5,w4,m4]) ?_
 -- one more
 have hself:=K0 ht
 generalize hv:2*(if (!decide (tx=Wm ""))=true then (1:Int) else 0)=v at hself
 have gm:∀S,Tn (.int 2) (.int (if (!decide (tx=Wm ""))=true then (1:Int) else 0)) S=some (.int v,S):=λS=>by rw [←hv];exact UE (by decide)
 have a5:Y1 (.ref n4) (.ref S4.length) (S4++[.lst [.int v]])=some (.ref (S4++[Ob.lst [.int v]]).length,S4++[.lst [.int v]]++[.lst ((ws++[v]).map D.int)]):=by
  have:=F9 (S:=S4++[.lst [.int v]]) (up1 g4) (m:=S4.length) (ys:=[.int v]) (Ww ..) (by rw [Wg,hwl];show j+1≤1000;omega)
  rw [Va]
  exact this
 generalize hS5:S4++[Ob.lst [D.int v]]++[Ob.lst ((ws++[v]).map D.int)]=S5 at a5
 have g5:S5[(S4++[Ob.lst [.int v]]).length]? = some (.lst ((ws++[v]).map D.int)):=by rw [←hS5];exact Ww ..
 have g5':S5[n4]? = some (.lst (ws.map D.int)):=by rw [←hS5,WX];exact up1 g4
 generalize hn5:(S4++[Ob.lst [D.int v]]).length=n5 at a5 g5
 refine YE (en1:=[some (.scr ns),some (.int (k:Nat)),some (.int c),some (.str bs),some (.str tx),some (.ref S.length),some (.tup (olds.map D.str)),some (.ref n4),some (.int (fst ws:Nat)),some (.ref n5),x10]) (S1:=S5) (by simp only [EVS,W8,W9,Wh,W4,Wi,Wj,Wa,Wb,W6,↓reduceIte,reduceCtorEq,W1,Wd,W5,gm,a5]) ?_
 have z:=J0
 have gt:∀S,Y1 (.tup (olds.map D.str)) (.tup [.str tx]) S=some (.tup ((olds++[tx]).map D.str),S):=λS=>by
  rw [NT (by rw [Wg];show _+1≤_;omega),Va];rfl
 have b5:=TC ht (olds:=olds++[tx]) (λo hq=>by
  rcases W03.mp hq with h|h
  ·exact hoo o h
  ·rw [List.mem_singleton.mp h];exact ht) (by rw [Wo];omega) (by rw [Wo];show _+1≤20;omega)
 have e5:(olds++[tx]).map (lst tx)=ws++[v]:=by rw [Va,hws,←hself];rfl
 rw [e5] at b5
 have i5:=QW (ma:=Z4 9) (en:=[some (.scr ns),some (.int (k:Nat)),some (.int c),some (.str bs),some (.str tx),some (.ref S.length),some (.tup (olds.map D.str)),some (.ref n4),some (.int (fst ws:Nat)),some (.ref n5),x10]) (by simp only [EVS,W8,W9,Wh,W4,Wi,Wj,Wa,Wb,W6,↓reduceIte,reduceCtorEq,W1,Wd,W5]) g5 (by rw [Wo];omega) (by rw [Wo];show _+1<1000;omega)
 refine YE (en1:=[some (.scr ns),some (.int (k:Nat)),some (.int c),some (.str bs),some (.str tx),some (.ref S.length),some (.tup (olds.map D.str)),some (.ref n4),some (.int (fst ws:Nat)),some (.ref n5),x10]) (S1:=S5) (by simp only [EVS,W8,W9,Wh,W4,Wi,Wj,Wa,Wb,W6,↓reduceIte,reduceCtorEq,W1,Wd,W5,gt,b5];rw [i5];simp only [EVS,W8,W9,Wh,W4,Wi,Wj,Wa,Wb,W6,↓reduceIte,reduceCtorEq,W1,Wd,W5,sm]) ?_
 -- there and back
 have r6:=PV (m:=Z4 7) (en:=[some (.scr ns),some (.int (k:Nat)),some (.int c),some (.str bs),some (.str tx),some (.ref S.length),some (.tup (olds.map D.str)),some (.ref n4),some (.int (fst ws:Nat)),some (.ref n5),x10]) (by simp only [EVS,W8,W9,Wh,W4,Wi,Wj,Wa,Wb,W6,↓reduceIte,reduceCtorEq,W1,Wd,W5]) g5'
 rw [←List.map_reverse] at r6
 have a6:Y1 (.ref S5.length) (.ref n4) (S5++[.lst (ws.reverse.map D.int)])=some (.ref (S5++[Ob.lst (ws.reverse.map D.int)]).length,S5++[.lst (ws.reverse.map D.int)]++[.lst ((ws.reverse++ws).map D.int)]):=by
  have:=F9 (S:=S5++[.lst (ws.reverse.map D.int)]) (n:=S5.length) (m:=n4) (Ww ..) (up1 g5') (by rw [Wg,Wg,VI];omega)
  rw [Va]
  exact this
 generalize hS6:S5++[Ob.lst (ws.reverse.map D.int)]++[Ob.lst ((ws.reverse++ws).map D.int)]=S6 at a6
 have g6:S6[(S5++[Ob.lst (ws.reverse.map D.int)]).length]? = some (.lst ((ws.reverse++ws).map D.int)):=by rw [←hS6];exact Ww ..
 generalize (S5++[Ob.lst (ws.reverse.map D.int)]).length=n6 at a6 g6
 refine YE (en1:=[some (.scr ns),some (.int (k:Nat)),some (.int c),some (.str bs),some (.str tx),some (.ref S.length),some (.tup (olds.map D.str)),some (.ref n4),some (.int (fst ws:Nat)),some (.ref n5),some (.ref n6)]) (S1:=S6) (by rw [Ke,Hs,r6,Lv];simp only [EVS,W8,W9,Wh,W4,Wi,Wj,Wa,Wb,W6,↓reduceIte,reduceCtorEq,W1,Wd,W5,a6]) ?_
 have r7:=PU (m:=Z4 6) (en:=[some (.scr ns),some (.int (k:Nat)),some (.int c),some (.str bs),some (.str tx),some (.ref S.length),some (.tup (olds.map D.str)),some (.ref n4),some (.int (fst ws:Nat)),some (.ref n5),some (.ref n6)]) (S:=S6) (ds:=olds.map D.str) (by simp only [EVS,W8,W9,Wh,W4,Wi,Wj,Wa,Wb,W6,↓reduceIte,reduceCtorEq,W1,Wd,W5])
 rw [←List.map_reverse] at r7
 have gt7:∀S,Y1 (.tup (olds.reverse.map D.str)) (.tup (olds.map D.str)) S=some (.tup ((olds.reverse++olds).map D.str),S):=λS=>by
  rw [NT (by rw [Wg,Wg,VI];omega),Va]
 have b7:=TC ht (olds:=olds.reverse++olds) (λo hq=>by
  rcases W03.mp hq with h|h
  ·exact hoo o (List.mem_reverse.mp h)
  ·exact hoo o h) (by rw [Wo];omega) (by rw [Wo,VI];omega)
 have e7:(olds.reverse++olds).map (lst tx)=ws.reverse++ws:=by rw [Va,List.map_reverse,hws]
 rw [e7] at b7
 have i7:=QW (ma:=Z4 10) (en:=[some (.scr ns),some (.int (k:Nat)),some (.int c),some (.str bs),some (.str tx),some (.ref S.length),some (.tup (olds.map D.str)),some (.ref n4),some (.int (fst ws:Nat)),some (.ref n5),some (.ref n6)]) (by simp only [EVS,W8,W9,Wh,W4,Wi,Wj,Wa,Wb,W6,↓reduceIte,reduceCtorEq,W1,Wd,W5]) g6 (by rw [Wo];omega) (by rw [Wo,VI];omega)
 refine⟨[some (.scr ns),some (.int (k:Nat)),some (.int c),some (.str bs),some (.str tx),some (.ref S.length),some (.tup (olds.map D.str)),some (.ref n4),some (.int (fst ws:Nat)),some (.ref n5),some (.ref n6)],S6,by simp only [EVS,W8,W9,Wh,W4,Wi,Wj,Wa,Wb,W6,↓reduceIte,reduceCtorEq,W1,Wd,W5];rw [r7];simp only [EVS,W8,W9,Wh,W4,Wi,Wj,Wa,Wb,W6,↓reduceIte,reduceCtorEq,W1,Wd,W5,gt7,b7];rw [i7];simp only [EVS,W8,W9,Wh,W4,Wi,Wj,Wa,Wb,W6,↓reduceIte,reduceCtorEq,W1,Wd,W5,sm],?_⟩
 exact⟨_,_,_,_,_,_,_,_,_,_,rfl⟩
theorem law_true (ns:List Int)(_:ns.length≤63):∃S',F_law [.scr ns] []=some (.bl true,S'):=by
 unfold F_law
 have h0:Sh3 ns [some (.scr ns),none,none,none,none,none,none,none,none,none,none]:=⟨_,_,_,_,_,_,_,_,_,_,rfl⟩
 obtain⟨en',S',e,_⟩:=YN (g:=gN 1) (ds0:=YF 0 2) (gd:=.no) (body:=U5) (Wr 2) (λk=>D.int (k:Nat)) (λ_ en _=>Sh3 ns en)
  (λ_ k _ en S _ hP=>⟨_,rfl,turn ns k hP⟩) (λ_ _ _ _=>trivial) (S:=[]) h0
 rw [←Yy] at e
 have h3:Int.toNat 2=2:=rfl
 simp only [EVS,W8,W9,Wh,W4,Wi,Wj,Wa,Wb,W6,↓reduceIte,reduceCtorEq,W1,Wd,W5,Ti (show -(2 ^ 62)≤(2:Int)/\(2:Int)<2 ^ 62 by decide),h3,e]
 exact⟨_,rfl⟩
end K23
open PySem PySem.W PyProof.Rows
set_option maxRecDepth 100000 in
set_option maxHeartbeats 0 in
theorem PySem.Challenge.cw_twinshelves_k23_best_old_holds : PySem.Challenge.rw_twinshelves_k23_best_old.Holds := by
 w_on;o_law;k_head;(case hw=>w_witness2)
 k_fill
 refine DL.walk_d (l:=PySem.Challenge.rw_twinshelves_k23_best_old) (F:=K23.F_law) (k:=14) (x:="_law_script") rfl rfl ⟨rfl,by decide,by decide⟩ (λw h Y=>PySem.W.kIn_of Y) ?F K23.law_true
 case F=>
  intro w mg fa h KX G hmg
  refine' K23.all_mk KX G hmg ?a0 ?l0 ?c0 ?k0 ?a1 ?l1 ?c1 ?k1 ?a2 ?l2 ?c2 ?k2 ?a3 ?l3 ?c3 ?k3 ?a4 ?l4 ?c4 ?k4 ?a5 ?l5 ?c5 ?k5 ?a6 ?l6 ?c6 ?k6 ?a7 ?l7 ?c7 ?k7 ?a8 ?l8 ?c8 ?k8 ?a9 ?l9 ?c9 ?k9 ?a10 ?l10 ?c10 ?k10 ?a11 ?l11 ?c11 ?k11 ?a12 ?l12 ?c12 ?k12 ?a13 ?l13 ?c13 ?k13 ?a14 ?l14 ?c14 ?k14 ?a15 ?l15 ?c15 ?k15 ?z_all ?z_bool ?z_int ?z_isinstance ?z_len ?z_list ?z_min ?z_range ?z_reversed ?z_str ?z_sum ?z_tuple ?z_zip ?y_PIECE_WEIGHT
  (case a0=>k_is)
  (case l0=>k_is)
  (case c0=>k_is)
  (case k0=>k_is)
  (case a1=>k_is)
  (case l1=>k_is)
  (case c1=>k_is)
  (case k1=>k_is)
  (case a2=>k_is)
  (case l2=>k_is)
  (case c2=>k_is)
  (case k2=>k_is)
  (case a3=>k_is)
  (case l3=>k_is)
  (case c3=>k_is)
  (case k3=>k_is)
  (case a4=>k_is)
  (case l4=>k_is)
  (case c4=>k_is)
  (case k4=>k_is)
  (case a5=>k_is)
  (case l5=>k_is)
  (case c5=>k_is)
  (case k5=>k_is)
  (case a6=>k_is)
  (case l6=>k_is)
  (case c6=>k_is)
  (case k6=>k_is)
  (case a7=>k_is)
  (case l7=>k_is)
  (case c7=>k_is)
  (case k7=>k_is)
  (case a8=>k_is)
  (case l8=>k_is)
  (case c8=>k_is)
  (case k8=>k_is)
  (case a9=>k_is)
  (case l9=>k_is)
  (case c9=>k_is)
  (case k9=>k_is)
  (case a10=>k_is)
  (case l10=>k_is)
  (case c10=>k_is)
  (case k10=>k_is)
  (case a11=>k_is)
  (case l11=>k_is)
  (case c11=>k_is)
  (case k11=>k_is)
  (case a12=>k_is)
  (case l12=>k_is)
  (case c12=>k_is)
  (case k12=>k_is)
  (case a13=>k_is)
  (case l13=>k_is)
  (case c13=>k_is)
  (case k13=>k_is)
  (case a14=>k_is)
  (case l14=>k_is)
  (case c14=>k_is)
  (case k14=>k_is)
  (case a15=>k_is)
  (case l15=>k_is)
  (case c15=>k_is)
  (case k15=>k_is)
  (case z_all=>k_is)
  (case z_bool=>k_is)
  (case z_int=>k_is)
  (case z_isinstance=>k_is)
  (case z_len=>k_is)
  (case z_list=>k_is)
  (case z_min=>k_is)
  (case z_range=>k_is)
  (case z_reversed=>k_is)
  (case z_str=>k_is)
  (case z_sum=>k_is)
  (case z_tuple=>k_is)
  (case z_zip=>k_is)
  (case y_PIECE_WEIGHT=>k_is)
