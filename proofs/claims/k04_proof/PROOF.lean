import PyProof.Rows.All
import Wide.All
import OpenK.AllK
import Wide.FinOn
import Lean
import PyProof.EqAt
import PyProof.EqKinds
import PyProof.TupleCall
import KE.KRevIter
import PyProof.SumWalkG
import PySem.Challenge.RW_twinshelves_k04_whole_put_together
open Array renaming getElem?_eq_getElem → WA, length_toList → WE, getElem?_toList → Vb, getElem?_eq_some_iff → Vn, getD_eq_getD_getElem? → Vz, getElem?_eq_none → W0x, forIn_toList → W1B
open Bool renaming and_eq_true → Wl, false_ne_true → Wu, false_eq_true → WL, true_and → Vg, false_and → VB, eq_iff_iff → VX, not_true → W07, and_true → W0q, not_false → W1O, not_eq_true → W1X, and_false → W2o
open Classical renaming byContradiction → W0f, choose_spec → W1W
open Int renaming reduceToNat → W4, reduceNeg → Wa, reducePow → Wb, reduceLT → Wg, reduceLE → Wh, emod_nonneg → Vk, emod_lt_of_pos → Vs, toNat_natCast → Vx
open List renaming map_cons → W1, range → W7, map_nil → Wc, length_map → We, getElem?_eq_getElem → Wm, size_toArray → Wn, getElem?_eq_some_iff → Wo, all_eq_true → Wq, mem_cons_self → Ws, mem_cons → Ww, mem_cons_of_mem → Wz, getElem?_concat_length → WC, mem_map → WD, getElem?_map → WG, map_map → WJ, length_append → WN, not_mem_nil → WP, zip_cons_cons → WR, append_assoc → WS, map_append → WU, getElem?_append_right → WV, mem_append_right → WW, length_cons → WX, any_eq_true → V1, getElem?_append_left → V2, mem_singleton → V3, mem_of_getElem? → V4, mem_append → Va, length_range → Vc, length → Ve, all_cons → Vf, mem_range → Vh, length_filter_le → Vt, length_zip → VA, all_map → VC, getD_eq_getElem?_getD → VD, pairwise_map → VG, getElem?_take_of_lt → VI, mem_filter → VJ, mem_iff_getElem? → VN, map_congr_left → VP, pairwise_cons → VS, find?_cons → VV, lookup_cons → VY, append_nil → W02, nodup_cons → W04, perm_ext_iff_of_nodup → W09, toArray → W0g, getD → W0h, length_take → W0j, getElem_mem → W0l, getElem?_set_ne → W0m, getElem?_replicate → W0n, length_eq_zero_iff → W0o, filter_cons_of_neg → W0p, filterMap_cons → W0t, getElem?_set_self → W0w, length_replicate → W0B, length_singleton → W0C, replicate → W0D, mem_iff_getElem → W0F, nodup_append → W0J, filter_cons_of_pos → W0M, nodup_range → W0O, any_cons → W0X, mem_append_left → W12, pairwise_iff_getElem → W1b, getElem?_zip_eq_some → W1c, any_map → W1n, mem_filterMap → W1q, of_mem_zip → W1s, length_nil → W1u, length_pos_of_mem → W1G, pairwise_lt_range → W1H, getElem?_toArray → W1R, take_append_drop → W1U, getElem?_eq_none → W1V, mem_of_mem_drop → W20, foldl_cons → W29, map_id → W2e, length_eraseIdx_of_lt → W2h, foldl_append → W2t, ext_getElem? → W2x
open List.Pairwise renaming filter → W13, imp → W1M, imp_of_mem → W2w
open List.cons renaming injEq → VO
open Nat renaming reduceLeDiff → W2, reduceAdd → W8, reduceSub → W9, reduceLT → Wf, le_refl → Wp, ne_of_lt → WK, lt_of_lt_of_le → WQ, le_trans → WY, lt_irrefl → VE, zero_le → VH, lt_succ_self → W0z, le_of_not_lt → W0N, not_lt_zero → W0U, lt_succ_of_lt → W0Y, ne_of_gt → W1k, le_of_lt → W2i, mod_lt → W2v
open Option renaming map_some → W3, bind_eq_some_iff → W5, map_eq_some_iff → Wi, bind_some → WZ, isSome_iff_exists → Vw
open Option.some renaming inj → WT
open PyProof.Rows renaming slot_tuple_getitem → Vy, callWith_type1 → W0u, callWith_builtin1 → W0K, mirror_size → W27
open PyProof.Rows.F renaming plain_set_update_loop → W0s, entry_set_update_loop → W1a
open PySem renaming wpAny_bind → W0, wpAny_pure → W6, sizeLine → Wk, mainGlobals → Wx, starEach → Wy, bootBuiltins → WH, wpAny_setField_rec → V7, wpAny_newObj_type → V8, wpAny_callSpecial?_slot → V9, wpAny_call_entry → Vj, wpAny_seqItems → Vm, wpAny_setState_of → Vp, wpAny_holding → Vq, codeAny_builtin → VM, wpAny_askSetting → VZ, wpAny_Call_Name_kw → W03, wpAny_field → W05, mem_of_lookup → W0b, plainId_quiet → W0e, wpAny_mono → W0i, wpAny_typeNameOfWhole_keyiter → W0k, wpAny_specialOf → W0v, wpAny_pyIter_list → W0H, wpAny_typeNameOf_keyiter → W0I, wpAny_getItem_str_slice → W0L, wpAny_forIn_list → W0P, wpAny_pyIter_tuple → W0R, sizeLine_eq → W0S, wpAny_typeOf → W0T, wpAny_truthy_bool → W0W, wpAny_tryCatch → W17, wpAny_fieldsOf → W19, wpAny_isInstance → W1e, wpAny_letGo → W1g, wpAny_of_eq → W1h, wpAny_rule → W1m, wpAny_passesOwn → W1r, tupleKind_room_in1 → W1v, wpAny_callSpecial?_none → W1x, wpAny_attempt → W1z, wpAny_updateSeq → W1A, wpAny_dictEntries → W1J, builtinLookup_eq_fast → W1S, wpAny_isOneOf_keyiter → W1T, wpAny_updateSeq_pair → W1Z, wpAny_setEntries_of → W2a, post_val_or_str → W2d, codeAny_mono → W2j, wpAny_setField → W2n, wpAny_pyIter_slot → W2u, eqIsQuiet_byValue → W2A
open PySem.Around renaming under_plainId → Vl
open PySem.Builtin.Builtins renaming bindParams → W28
open PySem.Builtin.Dict_items renaming ownsTuple → W22
open PySem.Builtin.List renaming listLengthHint → W2b, listExtendWith → W2c, listSameRef → W2y
open PySem.Builtin.Slice renaming slicePlaces → W0E, sliceAdjust → W14, sliceApplied → W2g
open PySem.Builtin.SmallTypes renaming nextOf → VW, ownedTupleIsFree → W01, ownedTupleHandOut → W15
open PySem.Builtin.Tuple renaming tupleExact → W0G, tupleItemsOf → W11, tupleHashOf → W1d
open PySem.Calls renaming call_function_entry → W0d, spliced_cons → W0Q, callWith_builtin → W1E, spliced_nil → W1I, Name_function_global → W2f
open PySem.F renaming slot_dict_keyiterator_next → VF, plain_max_loop → VT, called_set → W06, slot_tuple_iterator_next → W0y, slot_tuple_hash → W10, slot_tuple_getattribute → W16, args_dict_keyiterator_next_1 → W18, entry_dict_keyiterator_next → W1j, args_tuple_add_2 → W1l, entry_tuple_add → W1t, slot_dict_len → W1w, slot_tuple_add → W1D, entry_max_loop → W1F, slot_dict_get → W1Q, args_tuple_iterator_next_1 → W21, entry_tuple_iterator_next → W24, slot_zip_next → W25, plain_extend_loop → W2p
open PySem.Heap renaming get?_push_of_some → Wj, lt_size → Wt, get?_push_size → Wv, get?_update_other → Vv, get?_update_self → VL, SameBut → W08, size_push → W0r
open PySem.Heap.SameBut renaming update → W00
open PySem.Obj renaming mapSeq → Vo, data_mapFields → W1y
open PySem.Paired renaming length → W0V
open PySem.PassesOwn renaming never → W1C
open PySem.SeqAt renaming EqAt → V5, RcNeAt → V6, RcAt → Vu
open PySem.SeqAt.EqAt renaming int_str → W1o, str_int → W1p, int_int → W2l, str_str → W2m
open PySem.SeqAt.RcAt renaming tuples → W2z
open PySem.SetTable renaming runEnd → V0, below → Vi, bits → Vr, turns → VQ, insertAt → VR, advance → W0A, grown → W1P, tooFull → W1Y, layClean → W2B
open PySem.SetTable.below renaming go → W0Z
open PySem.SetTable.layClean renaming free → W0a
open PySem.SetTable.probe renaming go → W1L
open PySem.Str renaming ofString → Wr
open PySem.Txt renaming join → W23
open PySem.W renaming Frag → Wd, nsIn → WB, keepIn → WF, codeIn → WI, mg_of → WM, fnOf → WO, mg_none_of → Vd, kia_one → VU, kitOne → W0c, kas_desc → W1f, kas_rev → W1i, kas_asc → W1K, kas_sort → W1N, kas_place → W26, kas_descPart → W2k, methodObj → W2q, kitx_list → W2r, kitx_dict → W2s
noncomputable section
theorem Ua {a b:Prop}(x:a)(y:b):a∧b:=⟨x,y⟩
set_option Elab.async false
set_option linter.all false
set_option maxRecDepth 100000
namespace L2
open PySem PySem.Spec PyProof.Rows
abbrev Key:=Sum Int Str
def NX:Key->Value->Bool
 | .inl k,v=>Value.isInt k v
 | .inr x,v=>Value.isStrOf x v
def Z4m (w:World):Key->Int
 | .inl k=>hashInt k
 | .inr x=>hashStr w x
theorem ZS:∀{k:Key} {v:Value},NX k v=true->(∃i t,k=Sum.inl i/\v=Value.int i t)\/(∃x t,k=Sum.inr x/\v=Value.str x t)
 | .inl i,v,h=>by
  obtain⟨t,e⟩:=Value.isInt_shape (k:=i) (v:=v) h
  exact .inl ⟨i,t,rfl,e⟩
 | .inr x,v,h=>by
  obtain⟨t,e⟩:=Value.isStrOf_shape (x:=x) (v:=v) h
  exact .inr ⟨x,t,rfl,e⟩
theorem PX (i:Int)(t:Tok):NX (.inl i) (.int i t)=true:=by simp [NX,Value.isInt]
theorem PV (x:Str)(t:Tok):NX (.inr x) (.str x t)=true:=by simp [NX,Value.isStrOf]
theorem OL (a b:Int):decide ((Sum.inl a:Key)=Sum.inl b)=(a == b):=by
 by_cases e:a=b
 ·subst e;simp
 ·have h:¬(Sum.inl a:Key)=Sum.inl b:=λq=>e (Sum.inl.inj q)
  rw [decide_eq_false h]
  exact (beq_eq_false_iff_ne.mpr e).symm
theorem OI (a b:Str):decide ((Sum.inr a:Key)=Sum.inr b)=decide (a=b):=by
 by_cases e:a=b
 ·subst e;simp
 ·have h:¬(Sum.inr a:Key)=Sum.inr b:=λq=>e (Sum.inr.inj q)
  rw [decide_eq_false h,decide_eq_false e]
theorem OK (a:Int)(b:Str):decide ((Sum.inl a:Key)=Sum.inr b)=false:=decide_eq_false (λq=>nomatch q)
theorem OJ (a:Str)(b:Int):decide ((Sum.inr a:Key)=Sum.inl b)=false:=decide_eq_false (λq=>nomatch q)
def ZX (prog:Program)(w:World):PySem.KeyKind prog w Key where
 is:=NX
 hash:=Z4m w
 inj:=λv a b ha hb=>by
  rcases ZS ha with ⟨i,t,rfl,rfl⟩|⟨x,t,rfl,rfl⟩
  ·rcases ZS hb with ⟨j,u,rfl,e⟩|⟨y,u,rfl,e⟩
   ·injection e with e1 _;rw [e1]
   ·exact nomatch e
  ·rcases ZS hb with ⟨j,u,rfl,e⟩|⟨y,u,rfl,e⟩
   ·exact nomatch e
   ·injection e with e1 _;rw [e1]
 byValue:=λk v h=>by
  rcases ZS h with ⟨i,t,rfl,rfl⟩|⟨x,t,rfl,rfl⟩<;>rfl
 pyHash:=λhv h=>by
  rcases ZS hv with ⟨i,t,rfl,rfl⟩|⟨x,t,rfl,rfl⟩
  ·exact wpAny_pyHash_int h
  ·exact wpAny_pyHash_str h
 eqBool:=λhu hv h=>by
  rcases ZS hu with ⟨i,t,rfl,rfl⟩|⟨x,t,rfl,rfl⟩
  ·rcases ZS hv with ⟨j,u,rfl,rfl⟩|⟨y,u,rfl,rfl⟩
   ·rw [OL] at h;exact wpAny_eqBool_int h
   ·rw [OK] at h;exact W1o i t y u _ _ _ _ h
  ·rcases ZS hv with ⟨j,u,rfl,rfl⟩|⟨y,u,rfl,rfl⟩
   ·rw [OJ] at h;exact W1p x t j u _ _ _ _ h
   ·rw [OI] at h;exact wpAny_eqBool_str h
 «strs»:=λk x t v h=>by
  rcases ZS h with ⟨i,u,rfl,e⟩|⟨y,u,rfl,e⟩
  ·exact nomatch e
  ·injection e with e1 _
   subst e1
   cases v<;>rfl
theorem NI (prog:Program)(w:World)(i:Int)(t:Tok):(ZX prog w).is (.inl i) (.int i t)=true:=PX i t
theorem NH (prog:Program)(w:World)(x:Str)(t:Tok):(ZX prog w).is (.inr x) (.str x t)=true:=PV x t
end L2
namespace L2
open PySem PySem.Spec PyProof.Rows
inductive V where
 |non|bl (b:Bool)|int (i:Int)|str (x:Str)|byt (b:Array UInt8)|flt (b:UInt64)|ref (a:Addr)|ty (n:String)
 deriving DecidableEq
def ZL:V->Value->Prop
 | .non,u=>u=Value.none
 | .bl b,u=>u=Value.bool b
 | .int i,u=>∃t,u=Value.int i t
 | .str x,u=>∃t,u=Value.str x t
 | .byt b,u=>∃t,u=Value.bytes b t
 | .flt b,u=>∃t,u=Value.float b t
 | .ref a,u=>u=Value.ref a
 | .ty n,u=>u=Value.type n
abbrev Y1:List V->List Value->Prop:=Paired ZL
theorem Y1.length {xs:List V}{us:List Value}(r:Y1 xs us):xs.length=us.length:=W0V r
theorem Y1.get:∀{xs:List V} {us:List Value} {i:Nat} {x:V},Y1 xs us->xs[i]? = some x->∃u,us[i]? = some u/\ZL x u
 |_,_,_,_,.nil,e=>by simp at e
 |_,_,0,_,.cons r _,e=>by simp at e;subst e;exact⟨_,rfl,r⟩
 |_,_,i+1,x,.cons _ t,e=>by
  obtain⟨u,h1,h2⟩:=Y1.get (i:=i) (x:=x) t (by simpa using e)
  exact⟨u,by simpa using h1,h2⟩
theorem Y1.set {x:V}{u:Value}(r:ZL x u):∀{xs:List V} {us:List Value} (i:Nat),Y1 xs us->Y1 (xs.set i x) (us.set i u)
 |_,_,_,.nil=>.nil
 |_,_,0,.cons _ t=>.cons r t
 |_,_,i+1,.cons q t=>.cons q (Y1.set r i t)
theorem Y1.append:∀{xs ys:List V} {us ws:List Value},Y1 xs us->Y1 ys ws->Y1 (xs++ys) (us++ws)
 |_,_,_,_,.nil,s=>s
 |_,_,_,_,.cons r t,s=>.cons r (Y1.append t s)
theorem Y1.take:∀{xs:List V} {us:List Value} (n:Nat),Y1 xs us->Y1 (xs.take n) (us.take n)
 |_,_,0,_=>.nil
 |_,_,_+1,.nil=>.nil
 |_,_,n+1,.cons r t=>.cons r (Y1.take n t)
theorem Y1.drop:∀{xs:List V} {us:List Value} (n:Nat),Y1 xs us->Y1 (xs.drop n) (us.drop n)
 |_,_,0,r=>r
 |_,_,_+1,.nil=>.nil
 |_,_,n+1,.cons _ t=>Y1.drop n t
def Ra:Option V->Option Value->Prop
 |some v,some u=>ZL v u
 |none,none=>True
 |_,_=>False
def KV {κ:Type}:List (κ×V)->List (κ×Value)->Prop:=Paired λ(p:κ×V) (q:κ×Value)=>p.1=q.1/\ZL p.2 q.2
def kV:Key->V
 | .inl i=>.int i
 | .inr x=>.str x
inductive HO where
 /-- a list -/
 |lst (xs:List V)
 /-- a tuple (never changes) -/
 |tup (xs:List V)
 /-- a dict whose keys are ints and texts;one whose keys are tuples of ints and texts (the empty one is both) -/
 |dK (kvs:List (Key×V))|dT (kvs:List (List Key×V))
 /-- a set of ints: its members,its size -/
 |set (S:Int->Bool) (n:Nat)
 /-- an instance of the class at C,its dict at dx,its attributes -/
 |ins (C dx:Addr) (fs:List (Str×V))
 /-- the dict of the instance at x -/
 |own (x:Addr)
 /-- the dict of an exception -/
 |xd (fs:List (Str×V))
 /-- a bound method,f of x -/
 |met (f x:Addr)
 /-- a range object lo,lo+1,.. below hi -/
 |rng (lo hi:Int)
 /-- a thing that is known to the object (the script;a dict while a loop walks it): read,never written while it is so -/
 |frz (o:Obj) (u:HO)
 /-- a code object's table -/
 |tbl (ps:Array Value)
 /-- any other thing,by what is true of its one object (a def of one's own: SetO a S n:=HO.ext λh=>..) -/
 |ext (φ:Heap->Prop)
abbrev Hp:=Addr->Option HO
def upd (H:Hp)(a:Addr)(o:HO):Hp:=λb=>if b=a then some o else H b
theorem Za {H:Hp}{a:Addr}{o:HO}:upd H a o a=some o:=by unfold upd;rw [if_pos rfl]
theorem Zl {H:Hp}{a b:Addr}{o:HO}(h:b≠a):upd H a o b=H b:=by unfold upd;rw [if_neg h]
theorem Qz {H:Hp}{a:Addr}{o u:HO}:upd (upd H a o) a u=upd H a u:=by
 funext b;unfold upd;split<;>rfl
theorem UZ {H:Hp}{a b:Addr}{o u:HO}(h:H a=some o)(h':H b=some u)(d:o≠u):a≠b:=by
 intro e;subst e;rw [h] at h';exact d (WT h')
theorem Zy {H:Hp}{a b:Addr}{o:HO}(h:H a=some o)(h':H b=none):a≠b:=by
 intro e;subst e;rw [h] at h';cases h'
def AT (h:Heap)(a:Addr)(items:Array Value):Prop:=IsTup h a items/\∃o,h.get? a=some o/\o.dict=none
theorem AT.new (h:Heap)(items:Array Value):AT (h.push { cls:=.type "tuple",data:=.seq items }) h.objs.size items:=⟨IsTup.new h items,_,Wv _ rfl,rfl⟩
section
variable (P:Program) (w:World)
def ZI (H:Hp)(h:Heap)(a:Addr):HO->Prop
 | .lst xs=>xs.length≤Wk/\∃(its:List Value) (n:Nat),Y1 xs its/\h.get? a=some { cls:=.type "list",data:=.seq its.toArray n }
 | .tup xs=>xs.length≤Wk/\∃its:List Value,Y1 xs its/\AT h a its.toArray
 | .dK kvs=>kvs.length≤Wk/\(a == sysModules)=false/\∃vs,KV kvs vs/\h.DictOf (ZX P w) a vs
 | .dT kvs=>kvs.length≤Wk/\(a == sysModules)=false/\∃xs:List (List Key×Addr×Value),
   Paired (λ(p:List Key×V) (q:List Key×Addr×Value)=>p.1=q.1/\H q.2.1=some (.tup (p.1.map kV))/\ZL p.2 q.2.2) kvs xs/\
   ∃o es ep,h.get? a=some o/\o.ExactDict/\o.data = .dict es ep/\es.toList=xs.map (entryOfKey (tupleKind (ZX P w)))/\(xs.map (·.1)).Nodup
 | .set S n=>h.SetOf (intKind P w) a S n
 | .ins C dx fs=>H dx=some (.own a)/\fs.length≤1000/\dx≠a/\h.get? a=some (PySem.W.instObj C dx)/\
   ∃mA,h.Ns1 dx mA/\(∀f,Ra (fs.lookup f) (mA f))/\PySem.Within mA (fs.map (·.1))
 | .own _=>∃o,h.get? a=some o
 | .xd fs=>∃mA,h.Ns1 a mA/\∀f,Ra (fs.lookup f) (mA f)
 | .rng lo hi=>∃t u v,h.get? a=some { cls:=.type "range",data:=.fields #[.int lo t,.int hi u,.int 1 v] }
 | .frz o u=>h.get? a=some o/\ZI H h a u
 | .tbl ps=>h.get? a=some { cls:=.none,data:=.fields ps }
 | .met f x=>h.get? a=some (W2q (.ref f) (.ref x))
 | .ext φ=>φ h/\(∃o,h.get? a=some o)/\∀h1 h2:Heap,φ h1->(∀o,h1.get? a=some o->h2.get? a=some o)->φ h2
def HOk (H:Hp)(h:Heap):Prop:=∀a o,H a=some o->ZI P w H h a o
end
section
variable {P:Program} {w:World} {H H':Hp} {h h':Heap} {a:Addr} {o:HO}
theorem ZI.lt (x:ZI P w H h a o):a<h.objs.size:=by
 cases o with
 |lst xs=>obtain⟨_,_,_,_,e⟩:=x;exact Wt e
 |tup xs=>obtain⟨_,_,_,p⟩:=x;exact p.1.lt
 |dK kvs=>obtain⟨_,_,_,_,o,_,_,e,_⟩:=x;exact Wt e
 |dT kvs=>obtain⟨_,_,_,_,o,_,_,e,_⟩:=x;exact Wt e
 |set S n=>obtain⟨o,_,_,_,e,_⟩:=x;exact Wt e
 |ins C dx fs=>obtain⟨_,_,_,e,_⟩:=x;exact Wt e
 |own y=>obtain⟨_,e⟩:=x;exact Wt e
 |xd fs=>obtain⟨_,⟨_,_,_,e,_⟩,_⟩:=x;exact Wt e
 |rng lo hi=>obtain⟨_,_,_,e⟩:=x;exact Wt e
 |frz ob u=>obtain⟨e,_⟩:=x;exact Wt e
 |tbl ps=>exact Wt (show h.get? a=some _ from x)
 |met f y=>exact Wt (show h.get? a=some _ from x)
 |ext φ=>obtain⟨_,⟨_,e⟩,_⟩:=x;exact Wt e
theorem Paired.mapP {α β:Type}{F G:α->β->Prop}:∀{l₁:List α} {l₂:List β},Paired F l₁ l₂->(∀a b,F a b->G a b)->Paired G l₁ l₂
 |_,_,.nil,_=>.nil
 |_,_,.cons r t,f=>.cons (f _ _ r) (Paired.mapP t f)
theorem ZI.stay (x:ZI P w H h a o)(k:∀b u,(b=a\/H b=some (.own a))->h.get? b=some u->h'.get? b=some u)
  (ho:∀b,H b=some (.own a)->H' b=some (.own a)) (ht:∀b xs,H b=some (.tup xs)->H' b=some (.tup xs)):ZI P w H' h' a o:=by
 induction o with
 |lst xs=>obtain⟨z,its,n,r,e⟩:=x;exact⟨z,its,n,r,k _ _ (.inl rfl) e⟩
 |tup xs=>obtain⟨z,its,r,⟨ob,e,c⟩,ob2,e2,c2⟩:=x;exact⟨z,its,r,⟨ob,k _ _ (.inl rfl) e,c⟩,ob2,k _ _ (.inl rfl) e2,c2⟩
 |dK kvs=>obtain⟨z,y,vs,r,ob,es,ep,e,c⟩:=x;exact⟨z,y,vs,r,ob,es,ep,k _ _ (.inl rfl) e,c⟩
 |dT kvs=>
  obtain⟨z,y,xs,r,ob,es,ep,e,c⟩:=x
  exact⟨z,y,xs,Paired.mapP r λp q z=>⟨z.1,ht _ _ z.2.1,z.2.2⟩,ob,es,ep,k _ _ (.inl rfl) e,c⟩
 |set S n=>obtain⟨ob,es,ep,t,e,c⟩:=x;exact⟨ob,es,ep,t,k _ _ (.inl rfl) e,c⟩
 |ins C dx fs=>
  obtain⟨d,z,ne,e,mA,⟨od,es,ep,e2,c⟩,r⟩:=x
  exact⟨ho _ d,z,ne,k _ _ (.inl rfl) e,mA,⟨od,es,ep,k _ _ (.inr d) e2,c⟩,r⟩
 |own y=>obtain⟨ob,e⟩:=x;exact⟨ob,k _ _ (.inl rfl) e⟩
 |xd fs=>obtain⟨mA,⟨od,es,ep,e,c⟩,r⟩:=x;exact⟨mA,⟨od,es,ep,k _ _ (.inl rfl) e,c⟩,r⟩
 |rng lo hi=>obtain⟨t,u,v,e⟩:=x;exact⟨t,u,v,k _ _ (.inl rfl) e⟩
 |frz ob u ih=>obtain⟨e,q⟩:=x;exact⟨k _ _ (.inl rfl) e,ih q⟩
 |tbl ps=>
  have e:h.get? a=some { cls:=.none,data:=.fields ps }:=x
  show h'.get? a=some { cls:=.none,data:=.fields ps }
  exact k a _ (.inl rfl) e
 |met f y=>
  have e:h.get? a=some (W2q (.ref f) (.ref y)):=x
  show h'.get? a=some (W2q (.ref f) (.ref y))
  exact k a _ (.inl rfl) e
 |ext φ=>obtain⟨p,⟨o,e⟩,st⟩:=x;exact⟨st _ _ p λo q=>k _ _ (.inl rfl) q,⟨o,k _ _ (.inl rfl) e⟩,st⟩
theorem HOk.lt (x:HOk P w H h)(e:H a=some o):a<h.objs.size:=(x a o e).lt
theorem HOk.fresh (x:HOk P w H h)(e:h.objs.size≤a):H a=none:=by
 cases q:H a with
 |none=>rfl
 |some u=>exact absurd (WQ (x.lt q) e) (VE _)
theorem HOk.kept (x:HOk P w H h)(k:∀b u,h.get? b=some u->h'.get? b=some u):HOk P w H h':=λa o e=>
 (x a o e).stay (λb u _ q=>k b u q) (λ_ q=>q) λ_ _ q=>q
theorem HOk.laid (x:HOk P w H h)(k:∀b u,h.get? b=some u->h'.get? b=some u)(hp:h.objs.size≤a)(new:ZI P w (upd H a o) h' a o):HOk P w (upd H a o) h':=λb u e=>by
 have hn:=x.fresh hp
 by_cases hb:b=a
 ·subst hb;rw [Za] at e;cases e;exact new
 ·rw [Zl hb] at e
  exact (x b u e).stay (λc v _ q=>k c v q) (λc q=>by rw [Zl (Zy q hn)];exact q) λc xs q=>by rw [Zl (Zy q hn)];exact q
end
def Rd (H:Hp)(a:Addr)(u:HO):Prop:=H a=some u\/∃o,H a=some (.frz o u)
theorem Rd.ok {P:Program}{w:World}{H:Hp}{h:Heap}{a:Addr}{u:HO}(r:Rd H a u)(x:HOk P w H h):ZI P w H h a u:=by
 rcases r with r|⟨o,r⟩
 ·exact x a u r
 ·obtain⟨_,q⟩:=x a _ r
  exact q
def Mut:Option HO->Prop
 |some (.lst _)=>True
 |some (.dK _)=>True
 |some (.dT _)=>True
 |some (.set _ _)=>True
 |some (.ins _ _ _)=>True
 |some (.ext _)=>True
 |_=>False
section
variable {P:Program} {w:World} {H:Hp} {h h':Heap} {x e:Addr} {o':HO}
theorem HOk.write (ok:HOk P w H h)(mu:Mut (H x))(he:e=x\/H e=some (.own x))(k:∀b u,b≠e->h.get? b=some u->h'.get? b=some u)(heo:∃u,h'.get? e=some u)
  (new:ZI P w (upd H x o') h' x o'):HOk P w (upd H x o') h':=λb u q=>by
 have nown:∀c y,H c=some (.own y)->c≠x:=λc y r z=>by subst z;rw [r] at mu;exact mu
 have ntup:∀c xs,H c=some (.tup xs)->c≠x:=λc xs r z=>by subst z;rw [r] at mu;exact mu
 by_cases hb:b=x
 ·subst hb;rw [Za] at q;cases q;exact new
 ·rw [Zl hb] at q
  by_cases hbe:b=e
  ·have q':H b=some (.own x):=by
    rcases he with z|z
    ·exact absurd (hbe.trans z) hb
    ·rw [hbe];exact z
   rw [q] at q';cases q'
   obtain⟨v,hv⟩:=heo
   exact⟨v,by rw [hbe];exact hv⟩
  ·refine (ok b u q).stay (λc v hc r=>k c v ?_ r) (λc r=>by rw [Zl (nown c b r)];exact r) λc xs r=>by rw [Zl (ntup c xs r)];exact r
   rcases hc with rfl|hc
   ·exact hbe
   ·rintro rfl
    rcases he with z|z
    ·exact nown c b hc z
    ·rw [hc] at z;cases z;exact hb rfl
end
structure Un (fs ex:List Addr) (H H':Hp) (h h':Heap):Prop where
 keep:∀b o,h.get? b=some o->H b=none->b∉fs->b∉ex->h'.get? b=some o
 slot:∀b o,h.get? b=some o->H b=none->b∈fs->b∉ex->∃sl,h'.get? b=some { o with slots:=sl }
 free:∀b o,h.get? b=some o->H b=none->b∉ex->H' b=none
 there:∀b o,h.get? b=some o->b∉ex->∃o',h'.get? b=some o'
 tups:∀b xs,H b=some (.tup xs)->H' b=some (.tup xs)
 frzs:∀b o u,H b=some (.frz o u)->H' b=some (.frz o u)
 tbls:∀b ps,H b=some (.tbl ps)->∃more,H' b=some (.tbl (ps++more))
section
variable {fs fs' ex ex':List Addr} {H H1 H2:Hp} {h h1 h2 h':Heap} {a x e:Addr} {o:HO}
theorem Un.any (u:Un fs ex H H1 h h1){b:Addr}{ob:Obj}(q:h.get? b=some ob)(n:H b=none)(hx:b∉ex):∃sl,h1.get? b=some { ob with slots:=sl }:=by
 by_cases hb:b∈fs
 ·exact u.slot b ob q n hb hx
 ·exact⟨ob.slots,u.keep b ob q n hb hx⟩
theorem Un.kept (k:∀b u,h.get? b=some u->h'.get? b=some u):Un fs ex H H h h':=
 ⟨λb ob q _ _ _=>k b ob q,λb ob q _ _ _=>⟨ob.slots,k b ob q⟩,λ_ _ _ n _=>n,λb ob q _=>⟨ob,k b ob q⟩,λ_ _ q=>q,λ_ _ _ q=>q,λ_ ps q=>⟨#[],by rw [q];simp⟩⟩
theorem Un.refl:Un fs ex H H h h:=Un.kept λ_ _ q=>q
theorem Un.laid (k:∀b u,h.get? b=some u->h'.get? b=some u)(hp:h.objs.size≤a)(hn:H a=none):Un fs ex H (upd H a o) h h' where
 keep:=λb u q _ _ _=>k b u q
 slot:=λb u q _ _ _=>⟨u.slots,k b u q⟩
 free:=λb u q n _=>by rw [Zl (WK (WQ (Wt q) hp))];exact n
 there:=λb u q _=>⟨u,k b u q⟩
 tups:=λb xs q=>by rw [Zl (Zy q hn)];exact q
 frzs:=λb u xs q=>by rw [Zl (Zy q hn)];exact q
 tbls:=λb ps q=>⟨#[],by rw [Zl (Zy q hn),q];simp⟩
theorem Un.write (mu:Mut (H x))(he:e=x\/H e=some (.own x))(k:∀b u,b≠e->h.get? b=some u->h'.get? b=some u)(heo:∃u,h'.get? e=some u):Un fs ex H (upd H x o) h h':=by
 have hx:∀b,H b=none->b≠x:=λb n z=>by subst z;rw [n] at mu;exact mu
 have hb:∀b,H b=none->b≠e:=λb n z=>by
  subst z
  rcases he with r|r
  ·exact hx b n r
  ·rw [n] at r;cases r
 have hm:∀b u,H b=some u->¬Mut (some u)->b≠x:=λb u q nm z=>by subst z;rw [q] at mu;exact nm mu
 refine⟨λb u q n _ _=>k b u (hb b n) q,λb u q n _ _=>⟨u.slots,k b u (hb b n) q⟩,λb u q n _=>by rw [Zl (hx b n)];exact n,λb u q _=>?_,
  λb xs q=>by rw [Zl (hm b _ q λz=>z)];exact q,λb u xs q=>by rw [Zl (hm b _ q λz=>z)];exact q,λb ps q=>⟨#[],by rw [Zl (hm b _ q λz=>z),q];simp⟩⟩
 by_cases hbe:b=e
 ·subst hbe;exact heo
 ·exact⟨u,k b u hbe q⟩
end
def trk (h:Heap)(H:Hp):List Addr:=(W7 h.objs.size).filter λa=>(H a).isSome
def AA (h:Heap)(H:Hp):Heap:=PySem.W.hideAll h (trk h H)
theorem LC (h:Heap)(H:Hp):(AA h H).objs.size=h.objs.size:=PySem.W.hideAll_size _ _
theorem Az {h:Heap}{H:Hp}{b:Addr}{o:Obj}(e:h.get? b=some o)(n:H b=none):(AA h H).get? b=some o:=
 PySem.W.hideAll_get _ e λhm=>by
  have q:(H b).isSome=true:=(VJ.mp hm).2
  rw [n] at q;simp at q
theorem SK {h:Heap}{H:Hp}{b:Addr}{o:Obj}(e:(AA h H).get? b=some o):h.get? b=some o/\H b=none:=by
 have e':h.get? b=some o:=PySem.W.of_hideAll (trk h H) e
 refine⟨e',?_⟩
 cases q:H b with
 |none=>rfl
 |some x=>
  have hm:b∈trk h H:=VJ.mpr ⟨Vh.mpr (Wt e'),by simp [q]⟩
  have z:(AA h H).get? b=none:=PySem.W.hideAll_none (trk h H) hm
  rw [z] at e;cases e
def D3 (g h:Heap)(L:Addr):List (Addr×Obj):=(W7 h.objs.size).filterMap λa=>if a=L\/(g.get? a).isSome=true then none else (h.get? a).map λo=>(a,o)
def QN (g h:Heap)(L d:Addr):List (Addr×Obj):=(D3 g h L).filter λp=>decide (p.1≠d)
end L2
namespace L2
open PySem PySem.Spec PyProof.Rows
structure Mod (K:Wd) (mg:Str->Option Value) (base:Heap):Prop where
 kin:K.In base
 glob:base.Ns Wx mg
 blt:∃mb,base.Ns builtinsNs mb/\∀x:Str,x≠"__name__"->mb x=WH x
 nolimit:base.NoLimit
structure Cx where
 prog:Program
 w:World
 K:Wd
 mg:Str->Option Value
 base:Heap
 A:Around
 N:List Str
 s₀:Shared
 H₀:Hp
 env:Env
 outer:List Env
 stack:List Env
 ex:List Addr
 fn:Str->Bool
 calm:Bool
 pn:List (Addr×Obj)
 xe:Value->Shared->Prop
def frs (l:List Env):List Addr:=l.filterMap (·.frame)
abbrev Cx.fs (X:Cx):List Addr:=frs X.outer
def Vis (sc:Scope)(x:Str):Prop:=sc.names.lookup x=some .local\/sc.names.lookup x=some .cell\/sc.names.lookup x=some .free
def Loc (sc:Scope)(x:Str):Prop:=sc.names.lookup x=some .local\/sc.names.lookup x=some .cell
def Z4D (env:Env)(h:Heap)(m:Str->Option Value)(x:Str)(u:Value):Prop:=
 (env.kindOf x=some .local/\m x=some u)\/((env.kindOf x=some .cell\/env.kindOf x=some .free)/\∃c,env.cells.lookup x=some c/\h.IsCell c (some u))
structure Cx.Ok (X:Cx):Prop where
 mod:Mod X.K X.mg X.base
 kind:X.env.scope.kind = .function
 glob:X.env.globals=Wx
 blt:X.env.builtins=builtinsNs
 above:X.s₀.heap.objs.size≤X.env.locals
 inj:∀x y c,X.env.cells.lookup x=some c->X.env.cells.lookup y=some c->x=y
 has:∀x,(X.env.kindOf x=some .cell\/X.env.kindOf x=some .free)->∃c,X.env.cells.lookup x=some c
 cab:∀x c,X.fn x=true->X.env.cells.lookup x=some c->X.s₀.heap.objs.size≤c
 hd:X.calm=true->X.A.handled=none
 frames:X.A.frames=some X.stack
 stk:X.stack=X.outer\/(X.stack=X.env :: X.outer/\X.env.frame=some X.env.locals)
 exf:∀b∈X.ex,b≠X.env.locals/\∀x c,X.env.cells.lookup x=some c->c≠b
 bs:∀b o,X.base.get? b=some o->X.s₀.heap.get? b=some o/\X.H₀ b=none
 bsz:X.base.objs.size≤X.s₀.heap.objs.size
 noex:∀b o,X.base.get? b=some o->b∉X.ex
 exfs:∀b∈X.ex,b∉X.fs
 funs:X.s₀.heap.FunFrames X.base X.outer
 frf:∀b∈X.fs,X.H₀ b=none
structure Inv (X:Cx) (pins:List (Addr×Obj)) (σ:List (Option V)) (H:Hp) (s:Shared):Prop where
 ok:X.Ok
 os:s.os=X.s₀.os
 bare:AllBare s.gens
 base:Un X.fs X.ex X.H₀ H X.s₀.heap s.heap
 loc:∃m,s.heap.Ns X.env.locals m/\∀(i:Nat) (x:Str) (v:V),X.N[i]? = some x->σ[i]? = some (some v)->Vis X.env.scope x->∃u,ZL v u/\Z4D X.env s.heap m x u
 cell:∀x c,X.env.cells.lookup x=some c->∃v,s.heap.IsCell c v
 free:H X.env.locals=none
 freeC:∀x c,X.env.cells.lookup x=some c->H c=none
 pin:∀p∈X.pn++pins,s.heap.get? p.1=some p.2/\H p.1=none/\p.1≠X.env.locals/\p.1∉X.fs/\∀v,p.2.data≠.cell v
 hok:HOk X.prog X.w H s.heap
 len:σ.length=X.N.length
section
variable {X:Cx} {pins:List (Addr×Obj)} {σ:List (Option V)} {H H':Hp} {s:Shared} {h':Heap}
theorem Cx.Ok.nofr (ok:X.Ok){b:Addr}{o:Obj}(e:X.base.get? b=some o):b∉X.fs:=λhb=>by
 have:=(ok.funs.mem hb).1
 rw [e] at this;cases this
theorem Inv.bs (I:Inv X pins σ H s):∀b o,X.base.get? b=some o->s.heap.get? b=some o/\H b=none:=λb o e=>
 ⟨I.base.keep b o (I.ok.bs b o e).1 (I.ok.bs b o e).2 (I.ok.nofr e) (I.ok.noex b o e),I.base.free b o (I.ok.bs b o e).1 (I.ok.bs b o e).2 (I.ok.noex b o e)⟩
theorem Inv.bk (I:Inv X pins σ H s):∀b o,X.base.get? b=some o->s.heap.get? b=some o:=λb o e=>(I.bs b o e).1
theorem Inv.mod (I:Inv X pins σ H s):Mod X.K X.mg X.base:=I.ok.mod
theorem Inv.kIn (I:Inv X pins σ H s):X.K.In s.heap:=I.ok.mod.kin.keeps I.bk
theorem Inv.lt (I:Inv X pins σ H s):X.env.locals<s.heap.objs.size:=let ⟨_,hn,_⟩:=I.loc;hn.lt
theorem Inv.sz (I:Inv X pins σ H s):X.s₀.heap.objs.size≤s.heap.objs.size:=WY I.ok.above (W2i I.lt)
theorem Inv.nofs (I:Inv X pins σ H s){a:Addr}(h:s.heap.objs.size≤a):a∉X.fs:=λhb=>by
 obtain⟨_,o,ho,_⟩:=I.ok.funs.mem hb
 exact absurd (WQ (Wt ho) (WY I.sz h)) (VE _)
theorem Inv.cne (I:Inv X pins σ H s):∀x c,X.env.cells.lookup x=some c->c≠X.env.locals:=λx c e z=>by
 obtain⟨v,o,ho,hd⟩:=I.cell x c e
 obtain⟨m,⟨o',es,ep,ho',hd',_⟩,_⟩:=I.loc
 rw [z,ho'] at ho;cases ho;rw [hd'] at hd;cases hd
theorem Inv.funs (I:Inv X pins σ H s):s.heap.FunFrames X.base X.outer:=by
 have all:∀(l:List Env),(∀b∈frs l,b∈X.fs)->X.s₀.heap.FunFrames X.base l->s.heap.FunFrames X.base l:=by
  intro l
  induction l with
  |nil=>intro _ _;trivial
  |cons env r ih=>
   intro hs hl
   obtain⟨hk,⟨L,o,hf,hn,ho,hd⟩,hr⟩:=hl
   have hL:L∈X.fs:=hs L (by unfold frs;rw [W0t,hf];exact Ws)
   obtain⟨sl,e⟩:=I.base.slot L o ho (I.ok.frf L hL) hL λz=>I.ok.exfs L z hL
   exact⟨hk,⟨L,_,hf,hn,e,hd⟩,ih (λb hb=>hs b (by unfold frs;rw [W0t,hf];exact Wz _ hb)) hr⟩
 exact all X.outer (λ_ hb=>hb) I.ok.funs
theorem Inv.stack (I:Inv X pins σ H s):s.heap.FunFrames X.base X.stack:=by
 rcases I.ok.stk with e|⟨e,hf⟩
 ·rw [e];exact I.funs
 ·rw [e]
  obtain⟨m,hn,_⟩:=I.loc
  refine .cons (by rw [I.ok.kind];decide) hf hn ?_ I.funs
  exact Heap.get?_none_of_le (WY I.ok.bsz I.ok.above)
theorem Inv.stkSub (I:Inv X pins σ H s):∀b∈frs X.stack,b∈X.env.locals :: X.fs:=λb hb=>by
 rcases I.ok.stk with e|⟨e,hf⟩
 ·rw [e] at hb;exact Wz _ hb
 ·rw [e] at hb
  unfold frs at hb
  rw [W0t,hf] at hb
  exact hb
theorem Inv.stkFree (I:Inv X pins σ H s):∀b∈frs X.stack,H b=none:=λb hb=>by
 rcases Ww.mp (I.stkSub b hb) with e|hb
 ·rw [e];exact I.free
 ·obtain⟨_,o,ho,_⟩:=I.ok.funs.mem hb
  exact I.base.free b o ho (I.ok.frf b hb) λz=>I.ok.exfs b z hb
theorem Inv.step {g':Array GenState}{t':Nat}{d':Drawn}{ch:List Addr}(I:Inv X pins σ H s)
  (hch:∀b∈ch,(b∈X.ex\/X.s₀.heap.objs.size≤b)/\b≠X.env.locals/\(∀x c,X.env.cells.lookup x=some c->c≠b)/\∀p∈X.pn++pins,p.1≠b)
  (keep:∀b o,b≠X.env.locals->b∉X.fs->b∉ch->s.heap.get? b=some o->H b=none->h'.get? b=some o)
  (slot:∀b o,b≠X.env.locals->b∈X.fs->b∉ch->s.heap.get? b=some o->H b=none->∃sl,h'.get? b=some { o with slots:=sl }) (free:∀b o,b∉ch->s.heap.get? b=some o->H b=none->H' b=none)
  (there:∀b o,b∉ch->s.heap.get? b=some o->∃o',h'.get? b=some o')
  (tups:∀b xs,H b=some (.tup xs)->H' b=some (.tup xs)) (frzs:∀b o u,H b=some (.frz o u)->H' b=some (.frz o u)) (tbls:∀b ps,H b=some (.tbl ps)->∃more,H' b=some (.tbl (ps++more)))
  (ns:∀m,s.heap.Ns X.env.locals m->h'.Ns X.env.locals m) (hok:HOk X.prog X.w H' h') (hg:AllBare g') :
  Inv X pins σ H' { s with heap:=h',gens:=g',drawn:=d',toks:=t' }:=by
 have neL:∀b o,X.s₀.heap.get? b=some o->b≠X.env.locals:=λb o e=>WK (WQ (Wt e) I.ok.above)
 have neC:∀b o,X.s₀.heap.get? b=some o->b∉X.ex->b∉ch:=λb o e hx hb=>by
  rcases (hch b hb).1 with z|z
  ·exact hx z
  ·exact absurd (WQ (Wt e) z) (VE _)
 have cellK:∀x c,X.env.cells.lookup x=some c->∀v,s.heap.IsCell c v->h'.IsCell c v:=λx c e v ⟨o,ho,hd⟩=>by
  have nch:c∉ch:=λz=>(hch c z).2.2.1 x c e rfl
  by_cases hc:c∈X.fs
  ·obtain⟨sl,q⟩:=slot c o (I.cne x c e) hc nch ho (I.freeC x c e)
   exact⟨_,q,hd⟩
  ·exact⟨o,keep c o (I.cne x c e) hc nch ho (I.freeC x c e),hd⟩
 refine⟨I.ok,I.os,hg,⟨λb o e n hb hx=>?_,λb o e n hb hx=>?_,λb o e n hx=>?_,λb o e hx=>?_,λb xs e=>tups b xs (I.base.tups b xs e),λb o xs e=>frzs b o xs (I.base.frzs b o xs e),λb ps e=>?_⟩,?_,λx c e=>?_,?_,λx c e=>?_,λp hp=>?_,hok,I.len⟩
 ·exact keep b o (neL b o e) hb (neC b o e hx) (I.base.keep b o e n hb hx) (I.base.free b o e n hx)
 ·obtain⟨sl,e1⟩:=I.base.slot b o e n hb hx
  obtain⟨sl',e2⟩:=slot b _ (neL b o e) hb (neC b o e hx) e1 (I.base.free b o e n hx)
  exact⟨sl',e2⟩
 ·obtain⟨o',e1⟩:=I.base.there b o e hx
  exact free b o' (neC b o e hx) e1 (I.base.free b o e n hx)
 ·obtain⟨o',e1⟩:=I.base.there b o e hx
  exact there b o' (neC b o e hx) e1
 ·obtain⟨m1,e1⟩:=I.base.tbls b ps e
  obtain⟨m2,e2⟩:=tbls b _ e1
  exact⟨m1++m2,by rw [e2,Array.append_assoc]⟩
 ·obtain⟨m,hn,hl⟩:=I.loc
  refine⟨m,ns m hn,λi x v e1 e2 e3=>?_⟩
  obtain⟨u,r,l⟩:=hl i x v e1 e2 e3
  refine⟨u,r,?_⟩
  rcases l with l|⟨k,c,e,z⟩
  ·exact .inl l
  ·exact .inr ⟨k,c,e,cellK x c e _ z⟩
 ·obtain⟨v,z⟩:=I.cell x c e
  exact⟨v,cellK x c e v z⟩
 ·obtain⟨m,⟨o,_,_,ho,_⟩,_⟩:=I.loc
  exact free _ o (λz=>(hch _ z).2.1 rfl) ho I.free
 ·obtain⟨v,o,ho,hd⟩:=I.cell x c e
  exact free c o (λz=>(hch c z).2.2.1 x c e rfl) ho (I.freeC x c e)
 ·obtain⟨e,n,ne,nf,d⟩:=I.pin p hp
  have nch:p.1∉ch:=λz=>(hch p.1 z).2.2.2 p hp rfl
  exact⟨keep p.1 p.2 ne nf nch e n,free p.1 p.2 nch e n,ne,nf,d⟩
theorem Inv.un {t':Nat}(I:Inv X pins σ H s)(u:Un X.fs [] H H' s.heap h')(hok:HOk X.prog X.w H' h'):Inv X pins σ H' { s with heap:=h',toks:=t' }:=by
 obtain⟨m,⟨o,es,ep,ho,r⟩,_⟩:=id I.loc
 obtain⟨sl,hL⟩:=u.any ho I.free (by simp)
 exact I.step (g':=s.gens) (d':=s.drawn) (ch:=[]) (λ_ z=>nomatch z) (λb o _ hb _ e n=>u.keep b o e n hb (by simp)) (λb o _ hb _ e n=>u.slot b o e n hb (by simp)) (λb o _ e n=>u.free b o e n (by simp)) (λb o _ e=>u.there b o e (by simp)) u.tups u.frzs u.tbls (λm' hm=>by
  obtain⟨o',es',ep',ho',r'⟩:=hm
  rw [ho] at ho';cases ho'
  exact⟨_,es',ep',hL,r'⟩) hok I.bare
theorem Inv.call {g':Array GenState}{t':Nat}{d':Drawn}{ch:List Addr}(I:Inv X pins σ H s)(u:Un (frs X.stack) ch H H' s.heap h')(hok:HOk X.prog X.w H' h')(hg:AllBare g')
  (hch:∀b∈ch,(b∈X.ex\/X.s₀.heap.objs.size≤b)/\b≠X.env.locals/\(∀x c,X.env.cells.lookup x=some c->c≠b)/\∀p∈X.pn++pins,p.1≠b) :
  Inv X pins σ H' { s with heap:=h',gens:=g',drawn:=d',toks:=t' }:=by
 obtain⟨m,⟨o,es,ep,ho,r⟩,_⟩:=id I.loc
 obtain⟨sl,hL⟩:=u.any ho I.free λz=>(hch _ z).2.1 rfl
 exact I.step (ch:=ch) hch (λb o hL hb hc e n=>u.keep b o e n (λz=>(Ww.mp (I.stkSub b z)).elim hL hb) hc) (λb o _ _ hc e n=>u.any e n hc) (λb o hc e n=>u.free b o e n hc) (λb o hc e=>u.there b o e hc) u.tups u.frzs u.tbls (λm' hm=>by
  obtain⟨o',es',ep',ho',r'⟩:=hm
  rw [ho] at ho';cases ho'
  exact⟨_,es',ep',hL,r'⟩) hok hg
theorem Inv.turned {t':Nat}{it:Addr}(I:Inv X pins σ H s)(k:∀b o,b≠it->s.heap.get? b=some o->h'.get? b=some o)(hn:H it=none)(hL:it≠X.env.locals)
  (h1:it∈X.ex\/X.s₀.heap.objs.size≤it) (h2:∀x c,X.env.cells.lookup x=some c->c≠it) (h3:∀p∈X.pn++pins,p.1≠it):Inv X pins σ H { s with heap:=h',toks:=t' }:=by
 have nit:∀b u,H b=some u->b≠it:=λb u e z=>by rw [z,hn] at e;cases e
 refine I.step (g':=s.gens) (d':=s.drawn) (ch:=[it]) (λb hb=>?_) (λb o _ _ hc e _=>k b o (λz=>hc (by simp [z])) e) (λb o _ _ hc e _=>⟨o.slots,k b o (λz=>hc (by simp [z])) e⟩) (λ_ _ _ _ n=>n)
  (λb o hc e=>⟨o,k b o (λz=>hc (by simp [z])) e⟩) (λ_ _ e=>e) (λ_ _ _ e=>e) (λb ps e=>⟨#[],by rw [e];simp⟩) (λm hm=>?_) (λb u e=>?_) I.bare
 ·have e:b=it:=by simpa using hb
  subst e
  exact⟨h1,hL,h2,h3⟩
 ·obtain⟨o,es,ep,ho,r⟩:=hm
  exact⟨o,es,ep,k _ o (Ne.symm hL) ho,r⟩
 ·refine (I.hok b u e).stay (λc v hc q=>k c v ?_ q) (λ_ q=>q) λ_ _ q=>q
  rcases hc with z|z
  ·rw [z];exact nit b u e
  ·exact nit c _ z
theorem Inv.tok (I:Inv X pins σ H s)(t:Nat):Inv X pins σ H { s with toks:=t }:=I.un (h':=s.heap) (t':=t) Un.refl I.hok
theorem Inv.kept {t':Nat}(I:Inv X pins σ H s)(k:∀b u,s.heap.get? b=some u->h'.get? b=some u):Inv X pins σ H { s with heap:=h',toks:=t' }:=I.un (Un.kept k) (I.hok.kept k)
theorem Inv.laid {a:Addr}{o:HO}{t':Nat}(I:Inv X pins σ H s)(k:∀b u,s.heap.get? b=some u->h'.get? b=some u)(hp:s.heap.objs.size≤a)(new:ZI X.prog X.w (upd H a o) h' a o) :
  Inv X pins σ (upd H a o) { s with heap:=h',toks:=t' }:=I.un (Un.laid k hp (I.hok.fresh hp)) (I.hok.laid k hp new)
theorem Inv.write {x e:Addr}{o:HO}{t':Nat}(I:Inv X pins σ H s)(mu:Mut (H x))(he:e=x\/H e=some (.own x))(k:∀b u,b≠e->s.heap.get? b=some u->h'.get? b=some u)(heo:∃u,h'.get? e=some u)
  (new:ZI X.prog X.w (upd H x o) h' x o):Inv X pins σ (upd H x o) { s with heap:=h',toks:=t' }:=I.un (Un.write mu he k heo) (I.hok.write mu he k heo new)
theorem Inv.weak {σ':List (Option V)}(I:Inv X pins σ H s)(hl:σ'.length=σ.length)(w:∀(i:Nat) v,σ'[i]? = some (some v)->σ[i]? = some (some v)):Inv X pins σ' H s:=
 ⟨I.ok,I.os,I.bare,I.base,let ⟨m,hn,hl'⟩:=I.loc;⟨m,hn,λi x v e1 e2 e3=>hl' i x v e1 (w i v e2) e3⟩,I.cell,I.free,I.freeC,I.pin,I.hok,hl.trans I.len⟩
theorem Inv.pins_of {pins':List (Addr×Obj)}(I:Inv X pins σ H s)(h:∀p∈pins',s.heap.get? p.1=some p.2/\H p.1=none/\p.1≠X.env.locals/\p.1∉X.fs/\∀v,p.2.data≠.cell v):Inv X pins' σ H s:=
 ⟨I.ok,I.os,I.bare,I.base,I.loc,I.cell,I.free,I.freeC,λp hp=>(Va.mp hp).elim (λz=>I.pin p (W12 _ z)) (h p),I.hok,I.len⟩
theorem MB {N:List Str}(hN:N.Nodup){i j:Nat}{x:Str}(a:N[i]? = some x)(b:N[j]? = some x):i=j:=by
 obtain⟨h1,e1⟩:=Wo.mp a
 obtain⟨h2,e2⟩:=Wo.mp b
 exact (List.getElem_inj hN).mp (e1.trans e2.symm)
theorem Bh {M:Model}{A:Around}{E:Value->Shared->Prop}{i:Nat}{x:Str}{v:V}{u:Value}{Q:Unit->Shared->Prop}(I:Inv X pins σ H s)(hN:X.N.Nodup)(hi:X.N[i]? = some x)(hx:Loc X.env.scope x)(r:ZL v u)
  (h:∀s',Inv X pins (σ.set i (some v)) H s'->(∃a,W08 a s.heap s'.heap/\(a=X.env.locals\/X.env.cells.lookup x=some a))->Q () s') (hf:X.fn x=true\/X.env.scope.names.lookup x=some .local:=by first|exact .inl rfl|exact .inr rfl|assumption):wpAny M A (storeName X.env x u) Q E s:=by
 obtain⟨m,hn,hl⟩:=id I.loc
 have hcls:(X.env.scope.kind == .class||(X.env.scope.kind == .module&&X.env.locals != X.env.globals))=false:=by rw [I.ok.kind];rfl
 have hiσ:i<σ.length:=by rw [I.len];exact (Wo.mp hi).1
 have cne:=I.cne
 have tracked:∀{a:Addr} {h':Heap},(∃o,s.heap.get? a=some o/\H a=none)->W08 a s.heap h'->HOk X.prog X.w H h':=λ{a h'} ha hs b ob e=>by
  obtain⟨_,_,hfree⟩:=ha
  refine (I.hok b ob e).stay (λc w' hc q=>(hs.2 c ?_).trans q) (λ_ q=>q) λ_ _ q=>q
  rintro rfl
  rcases hc with rfl|hc
  ·rw [hfree] at e;cases e
  ·rw [hfree] at hc;cases hc
 rcases hx with hk|hk
 ·refine wpAny_storeName_local hk hn (λh' hn' hs=>?_) hcls
  obtain⟨oL,_,_,hoL,_⟩:=id hn
  refine h _ ⟨I.ok,I.os,I.bare,⟨λb o e n hb hx=>?_,λb o e n hb hx=>?_,I.base.free,λb o e hx=>?_,I.base.tups,I.base.frzs,I.base.tbls⟩,⟨_,hn',λj y v' e1 e2 e3=>?_⟩,λy c e=>?_,I.free,I.freeC,λp hp=>?_,tracked ⟨oL,hoL,I.free⟩ hs,by simpa using I.len⟩ ⟨_,hs,.inl rfl⟩
  ·exact (hs.2 b (WK (WQ (Wt e) I.ok.above))).trans (I.base.keep b o e n hb hx)
  ·obtain⟨sl,e1⟩:=I.base.slot b o e n hb hx
   exact⟨sl,(hs.2 b (WK (WQ (Wt e) I.ok.above))).trans e1⟩
  ·obtain⟨o',e1⟩:=I.base.there b o e hx
   exact⟨o',(hs.2 b (WK (WQ (Wt e) I.ok.above))).trans e1⟩
  ·by_cases hj:j=i
   ·subst hj
    rw [hi] at e1;cases e1
    rw [W0w hiσ] at e2
    cases e2
    exact⟨u,r,.inl ⟨hk,by simp⟩⟩
   ·rw [W0m (Ne.symm hj)] at e2
    obtain⟨u',r',q⟩:=hl j y v' e1 e2 e3
    refine⟨u',r',?_⟩
    rcases q with ⟨k,e⟩|⟨k,c,e,z⟩
    ·refine .inl ⟨k,?_⟩
     have:y≠x:=λe=>hj (MB hN e1 (e ▸ hi))
     simp [this,e]
    ·exact .inr ⟨k,c,e,z.sameBut hs (cne y c e)⟩
  ·obtain⟨w',z⟩:=I.cell y c e
   exact⟨w',z.sameBut hs (cne y c e)⟩
  ·obtain⟨e,n,ne,nf,d⟩:=I.pin p hp
   exact⟨(hs.2 p.1 ne).trans e,n,ne,nf,d⟩
 ·have hfn:X.fn x=true:=by
   rcases hf with z|z
   ·exact z
   ·rw [z] at hk;cases hk
  obtain⟨c,hc⟩:=I.ok.has x (.inl hk)
  obtain⟨w',z⟩:=I.cell x c hc
  refine wpAny_storeName_cell I.ok.kind hk hc z (λh' hc' hs=>?_)
  obtain⟨oc,hoc,hocd⟩:=id z
  refine h { s with heap:=h' } ⟨I.ok,I.os,I.bare,⟨λb o e n hb hx=>?_,λb o e n hb hx=>?_,I.base.free,λb o e hx=>?_,I.base.tups,I.base.frzs,I.base.tbls⟩,⟨m,hn.sameBut hs (Ne.symm (cne x c hc)),λj y v' e1 e2 e3=>?_⟩,λy c' e=>?_,I.free,I.freeC,λp hp=>?_,tracked ⟨oc,hoc,I.freeC x c hc⟩ hs,by simpa using I.len⟩ ⟨c,hs,.inr hc⟩
  ·exact (hs.2 b (WK (WQ (Wt e) (I.ok.cab x c hfn hc)))).trans (I.base.keep b o e n hb hx)
  ·obtain⟨sl,e1⟩:=I.base.slot b o e n hb hx
   exact⟨sl,(hs.2 b (WK (WQ (Wt e) (I.ok.cab x c hfn hc)))).trans e1⟩
  ·obtain⟨o',e1⟩:=I.base.there b o e hx
   exact⟨o',(hs.2 b (WK (WQ (Wt e) (I.ok.cab x c hfn hc)))).trans e1⟩
  ·by_cases hj:j=i
   ·subst hj
    rw [hi] at e1;cases e1
    rw [W0w hiσ] at e2
    cases e2
    exact⟨u,r,.inr ⟨.inl hk,c,hc,hc'⟩⟩
   ·rw [W0m (Ne.symm hj)] at e2
    obtain⟨u',r',q⟩:=hl j y v' e1 e2 e3
    refine⟨u',r',?_⟩
    rcases q with q|⟨k,c',e,z'⟩
    ·exact .inl q
    ·refine .inr ⟨k,c',e,z'.sameBut hs ?_⟩
     rintro rfl
     exact hj (MB hN e1 (I.ok.inj _ _ _ e hc ▸ hi))
  ·by_cases hcc:c'=c
   ·subst hcc;exact⟨_,hc'⟩
   ·obtain⟨w2,z2⟩:=I.cell y c' e
    exact⟨w2,z2.sameBut hs hcc⟩
  ·obtain⟨e,n,ne,nf,d⟩:=I.pin p hp
   refine⟨(hs.2 p.1 ?_).trans e,n,ne,nf,d⟩
   intro q
   rw [q,hoc] at e
   have q':oc=p.2:=WT e
   exact d w' (by rw [←q'];exact hocd)
theorem Mp {M:Model}{A:Around}{E:Value->Shared->Prop}{i:Nat}{x:Str}{v:V}{u:Value}{Q:Unit->Shared->Prop}(I:Inv X pins σ H s)(hN:X.N.Nodup)(hi:X.N[i]? = some x)(hx:Loc X.env.scope x)(r:ZL v u)
  (h:∀s',Inv X pins (σ.set i (some v)) H s'->Q () s') (hf:X.fn x=true\/X.env.scope.names.lookup x=some .local:=by first|exact .inl rfl|exact .inr rfl|assumption):wpAny M A (storeName X.env x u) Q E s:=
 Bh I hN hi hx r (λs' I' _=>h s' I') hf
theorem Inv.call' {s':Shared}{ch:List Addr}(I:Inv X pins σ H s)(ho:s'.os=s.os)(u:Un (frs X.stack) ch H H' s.heap s'.heap)(hok:HOk X.prog X.w H' s'.heap)(hg:AllBare s'.gens)
  (hch:∀b∈ch,(b∈X.ex\/X.s₀.heap.objs.size≤b)/\b≠X.env.locals/\(∀x c,X.env.cells.lookup x=some c->c≠b)/\∀p∈X.pn++pins,p.1≠b):Inv X pins σ H' s':=by
 obtain⟨h',g',d',t',o'⟩:=s'
 have e:o'=s.os:=ho
 subst e
 exact I.call (g':=g') (t':=t') (d':=d') u hok hg hch
end
abbrev XK:=Value->Option Addr->Hp->Prop
abbrev St:=List (Option V)
abbrev VK:=V->Hp->Prop
abbrev TE:=St->Hp->VK->Prop
abbrev TT:=St->Hp->(Bool->Hp->Prop)->Prop
abbrev TA:=St->Hp->(List V->Hp->Prop)->Prop
structure Ends where
 nx:St->Hp->Prop
 rt:VK
 bk:St->Hp->Prop:=λ_ _=>False
 ct:St->Hp->Prop:=λ_ _=>False
abbrev TS:=Ends->St->Hp->Prop
def EP (X:Cx)(pins:List (Addr×Obj))(σ:St)(Q:VK)(u:Value)(s':Shared):Prop:=∃v H',Inv X pins σ H' s'/\ZL v u/\Q v H'
def TP (X:Cx)(pins:List (Addr×Obj))(σ:St)(Q:Bool->Hp->Prop)(b:Bool)(s':Shared):Prop:=∃H',Inv X pins σ H' s'/\Q b H'
def AP (X:Cx)(pins:List (Addr×Obj))(σ:St)(Q:List V->Hp->Prop)(us:List Value)(s':Shared):Prop:=∃vs H',Inv X pins σ H' s'/\Y1 vs us/\Q vs H'
def SP (X:Cx)(pins:List (Addr×Obj))(D:Ends)(f:Flow)(s':Shared):Prop:=
 match f with
 | .next=>∃σ' H',Inv X pins σ' H' s'/\D.nx σ' H'
 | .brk=>∃σ' H',Inv X pins σ' H' s'/\D.bk σ' H'
 | .cont=>∃σ' H',Inv X pins σ' H' s'/\D.ct σ' H'
 | .ret u=>∃v σ' H',Inv X pins σ' H' s'/\ZL v u/\D.rt v H'
def PE (X:Cx)(e:Expr)(t:TE):Prop:=
 ∀(pins:List (Addr×Obj)) (s:Shared) (σ:St) (H:Hp) (Q:VK),Inv X pins σ H s->t σ H Q->wpAny (model X.prog X.w) X.A (eval e X.env) (EP X pins σ Q) X.xe s
def PT (X:Cx)(e:Expr)(t:TT):Prop:=
 ∀(pins:List (Addr×Obj)) (s:Shared) (σ:St) (H:Hp) (Q:Bool->Hp->Prop),Inv X pins σ H s->t σ H Q->wpAny (model X.prog X.w) X.A (isTrue e X.env (eval e X.env)) (TP X pins σ Q) X.xe s
def PW (X:Cx)(e:Expr)(t:TT):Prop:=
 ∀(whole:Sem Value) (pins:List (Addr×Obj)) (s:Shared) (σ:St) (H:Hp) (Q:Bool->Hp->Prop),Inv X pins σ H s->t σ H Q->wpAny (model X.prog X.w) X.A (isTrue e X.env whole) (TP X pins σ Q) X.xe s
theorem PW.pt {X:Cx}{e:Expr}{t:TT}(h:PW X e t):PT X e t:=h _
def PA (X:Cx)(es:List Expr)(t:TA):Prop:=
 ∀(pos:Pos) (pins:List (Addr×Obj)) (s:Shared) (σ:St) (H:Hp) (Q:List V->Hp->Prop),Inv X pins σ H s->t σ H Q->wpAny (model X.prog X.w) X.A (spliced (backTo pos (Wy es X.env))) (AP X pins σ Q) X.xe s
def PS (X:Cx)(st:Stmt)(t:TS):Prop:=
 ∀(pins:List (Addr×Obj)) (s:Shared) (σ:St) (H:Hp) (D:Ends),Inv X pins σ H s->t D σ H->wpAny (model X.prog X.w) X.A (exec st X.env) (SP X pins D) X.xe s
def PSs (X:Cx)(st:List Stmt)(t:TS):Prop:=
 ∀(pins:List (Addr×Obj)) (s:Shared) (σ:St) (H:Hp) (D:Ends),Inv X pins σ H s->t D σ H->wpAny (model X.prog X.w) X.A (execs st X.env) (SP X pins D) X.xe s
theorem thn {α:Type}{t:Sem α}{Q Q':α->Shared->Prop}{M:Model}{A:Around}{E:Value->Shared->Prop}{s:Shared}(h:wpAny M A t Q E s)(hQ:∀a s,Q a s->Q' a s):wpAny M A t Q' E s:=W0i h hQ λ_ _ x=>x
end L2
namespace L2
open PySem PySem.Spec PyProof.Rows
section
variable {X:Cx}
def Z2A (i:Nat):TE:=λσ H Q=>∃v,σ[i]? = some (some v)/\Q v H
def tC (v:V):TE:=λ_ H Q=>Q v H
theorem O5 {i:Nat}{x:Str}{pos:Pos}(hN:X.N[i]? = some x)(hv:Vis X.env.scope x)(hd:(x == ("__debug__" : Str))=false:=by decide)(hcd:(x == ("__classdict__" : Str))=false:=by decide):PE X (.Name x pos) (Z2A i):=by
 intro pins s σ H Q I h
 obtain⟨v,e,h⟩:=h
 obtain⟨m,hn,hl⟩:=I.loc
 obtain⟨u,r,l⟩:=hl i x v hN e hv
 have fin:EP X pins σ Q u s:=⟨v,H,I,r,h⟩
 rcases l with ⟨hk,hm⟩|⟨hk,c,hc,hcell⟩
 ·exact wpAny_Name (wpAny_loadName_local I.ok.kind hk hn hm fin) hd
 ·rcases hk with hk|hk
  ·exact wpAny_Name (wpAny_loadName_cell I.ok.kind hk hc hcell fin) hd
  ·exact wpAny_Name (wpAny_loadName_free I.ok.kind hk hc hcell fin hcd) hd
theorem Oa {i j pos}:PE X (.Constant (.int i) j pos) (tC (.int i)):=λ_ _ _ H _ I h=>wpAny_Constant_int ⟨.int i,H,I.tok _,⟨_,rfl⟩,h⟩
theorem Z1v {b j pos}:PE X (.Constant (.bool b) j pos) (tC (.bl b)):=λ_ _ _ H _ I h=>Constant_bool ⟨.bl b,H,I,rfl,h⟩
theorem O8 {j pos}:PE X (.Constant .none j pos) (tC .non):=λ_ _ _ H _ I h=>Constant_none ⟨.non,H,I,rfl,h⟩
theorem O6 {x j pos}:PE X (.Constant (.str x) j pos) (tC (.str x)):=λ_ _ _ H _ I h=>Calls.Constant_str ⟨.str x,H,I.tok _,⟨_,rfl⟩,h⟩
def Gl (X:Cx)(x:Str):Prop:=X.env.kindOf x=some .globalImplicit
theorem PM {E:Value->Shared->Prop}{pins:List (Addr×Obj)}{s:Shared}{σ:St}{H:Hp}{x:Str}{u:Value}{pos:Pos}{Q:Value->Shared->Prop}(I:Inv X pins σ H s)(hg:Gl X x)(hm:X.mg x=some u)(h:Q u s)
  (hd:(x == ("__debug__" : Str))=false:=by decide):wpAny (model X.prog X.w) X.A (eval (.Name x pos) X.env) Q E s:=
 W2f I.ok.kind hg (Calls.loadGlobal_global (by rw [I.ok.glob];exact I.mod.glob.keeps I.bk) hm h) hd
theorem U9 {E:Value->Shared->Prop}{pins:List (Addr×Obj)}{s:Shared}{σ:St}{H:Hp}{x:Str}{u:Value}{pos:Pos}{Q:Value->Shared->Prop}(I:Inv X pins σ H s)(hg:Gl X x)(hm:X.mg x=none)(hv:WH x=some u)(h:Q u s)
  (hn:x≠"__name__":=by decide) (hd:(x == ("__debug__" : Str))=false:=by decide):wpAny (model X.prog X.w) X.A (eval (.Name x pos) X.env) Q E s:=by
 obtain⟨mb,h1,h2⟩:=I.mod.blt
 exact W2f I.ok.kind hg (Calls.loadGlobal_builtin (by rw [I.ok.glob];exact I.mod.glob.keeps I.bk) hm (by rw [I.ok.blt];exact h1.keeps I.bk) ((h2 x hn).trans hv) h) hd
theorem Su {x:Str}{v:V}{u:Value}{pos:Pos}(hg:Gl X x)(hm:X.mg x=some u)(r:ZL v u)(hd:(x == ("__debug__" : Str))=false:=by decide):PE X (.Name x pos) (tC v):=
 λ_ _ _ H _ I h=>PM I hg hm ⟨v,H,I,r,h⟩ hd
theorem NC {x:Str}{v:V}{u:Value}{pos:Pos}(hg:Gl X x)(hm:X.mg x=none)(hv:WH x=some u)(r:ZL v u)(hn:x≠"__name__":=by decide)(hd:(x == ("__debug__" : Str))=false:=by decide):PE X (.Name x pos) (tC v):=
 λ_ _ _ H _ I h=>U9 I hg hm hv ⟨v,H,I,r,h⟩ hn hd
variable {a b:Expr} {ta tb:TE} {pos:Pos}
variable {tA tB':TT} {QN:List Expr}
def tOr (t u:TT):TT:=λσ H Q=>t σ H λc H1=>if c=true then Q true H1 else u σ H1 Q
def Z3F (t:TT):TT:=λσ H Q=>t σ H λc H1=>Q (!c) H1
theorem DO (ha:PT X a tA):PW X (.BoolOp .Or [a] pos) tA:=by
 intro wh pins s σ H Q I h
 refine isTrue_or (thn (ha pins s σ H Q I h) λc s1 e=>?_)
 cases c with
 |false=>exact isTrue_or_nil e
 |true=>exact e
theorem Z1r (ha:PT X a tA)(hb:PW X (.BoolOp .Or (b :: QN) pos) tB'):PW X (.BoolOp .Or (a :: b :: QN) pos) (tOr tA tB'):=by
 intro wh pins s σ H Q I h
 refine isTrue_or (thn (ha pins s σ H _ I h) λc s1 ⟨H1,I1,q1⟩=>?_)
 cases c with
 |true=>exact⟨H1,I1,q1⟩
 |false=>exact hb wh pins s1 σ H1 Q I1 q1
theorem DT (ha:PT X a tA):PT X (.UnaryOp .Not a pos) (Z3F tA):=by
 intro pins s σ H Q I h
 exact isTrue_not (ha pins s σ H (λc H1=>Q (!c) H1) I h)
theorem O7 {op}{t:TE}(h:PE X a t):PE X (.BoolOp op [a] pos) t:=λpins s σ H Q I hw=>BoolOp_one (h pins s σ H Q I hw)
end
end L2
namespace L2
open PySem PySem.Spec PyProof.Rows
def SqL (K:Wd)(H:Hp)(a:Addr)(xs:List V):Prop:=
 Rd H a (.lst xs)\/
  ∃(o:Obj) (its:Array Value) (n:Nat),K.lookup a=some o/\o.cls = .type "list"/\o.dict=none/\o.data = .seq its n/\its.size≤Wk/\Y1 xs its.toList
def SqT (K:Wd)(H:Hp)(a:Addr)(xs:List V):Prop:=
 Rd H a (.tup xs)\/
  ∃(o:Obj) (its:Array Value) (n:Nat),K.lookup a=some o/\o.cls = .type "tuple"/\o.data = .seq its n/\its.size≤Wk/\Y1 xs its.toList
def Z4C:Value->Option V
 | .none=>some .non
 | .bool b=>some (.bl b)
 | .int i _=>some (.int i)
 | .str x _=>some (.str x)
 | .bytes b _=>some (.byt b)
 | .float b _=>some (.flt b)
 | .ref a=>some (.ref a)
 | .type n=>some (.ty n)
 |_=>none
theorem ZL.abs {x:V}{u:Value}(r:ZL x u):Z4C u=some x:=by
 cases x with
 |non=>cases r;rfl
 |bl _=>cases r;rfl
 |int _=>obtain⟨t,rfl⟩:=r;rfl
 |str _=>obtain⟨t,rfl⟩:=r;rfl
 |byt _=>obtain⟨t,rfl⟩:=r;rfl
 |flt _=>obtain⟨t,rfl⟩:=r;rfl
 |ref _=>cases r;rfl
 |ty _=>cases r;rfl
theorem ZL.inj {x y:V}{u:Value}(r:ZL x u)(q:ZL y u):x=y:=WT (r.abs.symm.trans q.abs)
theorem Y1.inj:∀{xs ys:List V} {us:List Value},Y1 xs us->Y1 ys us->xs=ys
 |_,_,_,.nil,.nil=>rfl
 |_,_,_,.cons r t,.cons r' t'=>by rw [r.inj r',Y1.inj t t']
section
variable {X:Cx} {pins:List (Addr×Obj)} {σ:St} {H:Hp} {s:Shared} {a:Addr} {xs ys:List V}
theorem SqL.of {K:Wd}(h:H a=some (.lst xs)):SqL K H a xs:=.inl (.inl h)
theorem SqT.of {K:Wd}(h:H a=some (.tup xs)):SqT K H a xs:=.inl (.inl h)
theorem Inv.list (I:Inv X pins σ H s)(h:SqL X.K H a xs):∃its:List Value,Y1 xs its/\PlainL s.heap a its.toArray/\xs.length≤Wk:=by
 rcases h with h|⟨o,its,n,hk,hc,hd,hs,hz,r⟩
 ·obtain⟨z,its,n,r,e⟩:=h.ok I.hok
  exact⟨its,r,⟨_,n,e,rfl,rfl,rfl⟩,z⟩
 ·refine⟨its.toList,r,⟨o,n,I.kIn a o hk,hc,hd,by simpa using hs⟩,?_⟩
  have e:=r.length
  simp only [WE] at e
  omega
theorem Inv.tuple (I:Inv X pins σ H s)(h:SqT X.K H a xs):∃its:List Value,Y1 xs its/\IsTup s.heap a its.toArray/\xs.length≤Wk:=by
 rcases h with h|⟨o,its,n,hk,hc,hs,hz,r⟩
 ·obtain⟨z,its,r,p⟩:=h.ok I.hok
  exact⟨its,r,p.1,z⟩
 ·refine⟨its.toList,r,⟨o,I.kIn a o hk,hc,n,by simpa using hs⟩,?_⟩
  have e:=r.length
  simp only [WE] at e
  omega
theorem Inv.list_inj (I:Inv X pins σ H s)(h:SqL X.K H a xs)(h':SqL X.K H a ys):xs=ys:=by
 obtain⟨its,r,⟨o,n,e,_,_,d⟩,_⟩:=I.list h
 obtain⟨its',r',⟨o',n',e',_,_,d'⟩,_⟩:=I.list h'
 rw [e] at e';cases e'
 rw [d] at d'
 injection d' with d1 _
 have:its=its':=by simpa using congrArg Array.toList d1
 subst this
 exact r.inj r'
theorem Inv.tuple_inj (I:Inv X pins σ H s)(h:SqT X.K H a xs)(h':SqT X.K H a ys):xs=ys:=by
 obtain⟨its,r,⟨o,e,_,n,d⟩,_⟩:=I.tuple h
 obtain⟨its',r',⟨o',e',_,n',d'⟩,_⟩:=I.tuple h'
 rw [e] at e';cases e'
 rw [d] at d'
 injection d' with d1 _
 have:its=its':=by simpa using congrArg Array.toList d1
 subst this
 exact r.inj r'
end
abbrev Cx.wish (X:Cx)(E:Value->Shared->Prop):Cx:={ X with xe:=E }
abbrev Cx.nox (X:Cx):Cx:=X.wish λ_ _=>False
theorem Cx.Ok.wish {X:Cx}(ok:X.Ok)(E:Value->Shared->Prop):(X.wish E).Ok:=
 ⟨ok.mod,ok.kind,ok.glob,ok.blt,ok.above,ok.inj,ok.has,ok.cab,ok.hd,ok.frames,ok.stk,ok.exf,ok.bs,ok.bsz,ok.noex,ok.exfs,ok.funs,ok.frf⟩
theorem Cx.Ok.unwish {X:Cx}{E:Value->Shared->Prop}(ok:(X.wish E).Ok):X.Ok:=
 ⟨ok.mod,ok.kind,ok.glob,ok.blt,ok.above,ok.inj,ok.has,ok.cab,ok.hd,ok.frames,ok.stk,ok.exf,ok.bs,ok.bsz,ok.noex,ok.exfs,ok.funs,ok.frf⟩
section
variable {X:Cx} {pins:List (Addr×Obj)} {σ:St} {H:Hp} {s:Shared} {E:Value->Shared->Prop}
theorem Inv.wish (I:Inv X pins σ H s)(E:Value->Shared->Prop):Inv (X.wish E) pins σ H s:=⟨I.ok.wish E,I.os,I.bare,I.base,I.loc,I.cell,I.free,I.freeC,I.pin,I.hok,I.len⟩
theorem Inv.unwish (I:Inv (X.wish E) pins σ H s):Inv X pins σ H s:=⟨I.ok.unwish,I.os,I.bare,I.base,I.loc,I.cell,I.free,I.freeC,I.pin,I.hok,I.len⟩
theorem SP.unwish {D:Ends}{f:Flow}{s':Shared}(h:SP (X.wish E) pins D f s'):SP X pins D f s':=by
 cases f with
 |next=>obtain⟨σ',H',I,q⟩:=h;exact⟨σ',H',I.unwish,q⟩
 |brk=>obtain⟨σ',H',I,q⟩:=h;exact⟨σ',H',I.unwish,q⟩
 |cont=>obtain⟨σ',H',I,q⟩:=h;exact⟨σ',H',I.unwish,q⟩
 |ret u=>obtain⟨v,σ',H',I,r,q⟩:=h;exact⟨v,σ',H',I.unwish,r,q⟩
theorem PSs.nox {st:List Stmt}{t:TS}(h:PSs X.nox st t):PSs X st t:=λpins s σ H D I hw=>
 W0i (h pins s σ H D (I.wish _) hw) (λ_ _ q=>q.unwish) λ_ _ z=>False.elim z
end
section
variable {X:Cx} {st:Stmt} {QN:List Stmt} {t u:TS} {e:Expr} {te:TE} {pos:Pos}
def Z0X:TS:=λD σ H=>D.nx σ H
def Z3D (t u:TS):TS:=λD σ H=>t { D with nx:=u D } σ H
theorem Sg:PSs X [] Z0X:=λ_ _ σ H _ I h=>wpAny_execs_nil ⟨σ,H,I,h⟩
theorem FY (h1:PS X st t)(h2:PSs X QN u):PSs X (st :: QN) (Z3D t u):=by
 intro pins s σ H D I h
 refine wpAny_execs_cons (thn (h1 pins s σ H { D with nx:=u D } I h) λf s1 q=>?_)
 cases f with
 |next=>
  obtain⟨σ',H',I',q⟩:=q
  exact h2 pins s1 σ' H' D I' q
 |ret v=>exact q
 |brk=>exact q
 |cont=>exact q
theorem Sf (h1:PS X st t):PSs X [st] t:=by
 intro pins s σ H D I h
 refine wpAny_execs_cons (thn (h1 pins s σ H D I h) λf s1 q=>?_)
 cases f with
 |next=>exact wpAny_execs_nil q
 |ret v=>exact q
 |brk=>exact q
 |cont=>exact q
theorem Inv.quiet {pins:List (Addr×Obj)}{σ:St}{H:Hp}{s:Shared}(I:Inv X pins σ H s):interactive X.env=false:=by simp [interactive,I.ok.kind]
def Z0Z (te:TE):TS:=λD σ H=>te σ H λ_ H1=>D.nx σ H1
theorem Sj (he:PE X e te)(hs:swapsWith e none pos.line X.env=pure false:=by rfl):PS X (.Expr e pos) (Z0Z te):=by
 intro pins s σ H D I h
 exact wpAny_Expr_any (thn (he pins s σ H _ I h) λv s1 ⟨x,H1,I1,r1,q1⟩=>⟨σ,H1,I1,q1⟩) I.quiet hs
def Z3E (te:TE):TS:=λD σ H=>te σ H D.rt
theorem DW (he:PE X e te):PS X (.Return (some e) pos) (Z3E te):=by
 intro pins s σ H D I h
 exact wpAny_Return_some (thn (he pins s σ H _ I h) λv s1 ⟨x,H1,I1,r1,q1⟩=>⟨x,σ,H1,I1,r1,q1⟩)
def Z3H (c:TT)(t u:TS):TS:=λD σ H=>c σ H λb H1=>if b=true then t D σ H1 else u D σ H1
theorem Z1s {c:Expr}{a b:List Stmt}{tc:TT}(hc:PT X c tc)(ha:PSs X a t)(hb:PSs X b u):PS X (.If c a b pos) (Z3H tc t u):=by
 intro pins s σ H D I h
 refine wpAny_If (thn (hc pins s σ H _ I h) λd s1 ⟨H1,I1,q1⟩=>?_)
 cases d with
 |true=>exact ha pins s1 σ H1 D I1 q1
 |false=>exact hb pins s1 σ H1 D I1 q1
end
abbrev TG:=V->St->Hp->(St->Hp->Prop)->Prop
abbrev TGs:=List V->St->Hp->(St->Hp->Prop)->Prop
def PG (X:Cx)(target:Expr)(t:TG):Prop:=
 ∀(pins:List (Addr×Obj)) (s:Shared) (σ:St) (H:Hp) (v:V) (u:Value) (Q:St->Hp->Prop),Inv X pins σ H s->ZL v u->t v σ H Q->
  wpAny (model X.prog X.w) X.A (assign target X.env u) (λ_ s'=>∃σ' H',Inv X pins σ' H' s'/\Q σ' H') X.xe s
def PGs (X:Cx)(ts:List Expr)(t:TGs):Prop:=
 ∀(pins:List (Addr×Obj)) (s:Shared) (σ:St) (H:Hp) (vs:List V) (us:List Value) (Q:St->Hp->Prop),Inv X pins σ H s->Y1 vs us->t vs σ H Q->
  wpAny (model X.prog X.w) X.A (assignInOrder ((assignEach ts X.env).map (·.2)) us) (λ_ s'=>∃σ' H',Inv X pins σ' H' s'/\Q σ' H') X.xe s
abbrev Z0Q:=V->V->V->Hp->(Hp->Prop)->Prop
def HB (X:Cx)(t:Z0Q):Prop:=
 ∀(pins:List (Addr×Obj)) (s:Shared) (σ:St) (H:Hp) (o i v:V) (ov iv u:Value) (Q:Hp->Prop),Inv X pins σ H s->ZL o ov->ZL i iv->ZL v u->t o i v H Q->
  wpAny (model X.prog X.w) X.A (setItem ov iv u) (λ_ s'=>∃H',Inv X pins σ H' s'/\Q H') X.xe s
section
variable {X:Cx} {pos:Pos}
def M4 (i:Nat):TG:=λv σ H Q=>Q (σ.set i (some v)) H
theorem Zw {i:Nat}{x:Str}(hN:X.N.Nodup)(hi:X.N[i]? = some x)(hx:Loc X.env.scope x)(hf:X.fn x=true\/X.env.scope.names.lookup x=some .local:=by first|exact .inl rfl|exact .inr rfl|assumption):PG X (.Name x pos) (M4 i):=by
 intro pins s σ H v u Q I r h
 exact wpAny_assign_Name (Mp I hN hi hx r (λs' I'=>⟨_,H,I',h⟩) hf)
def XU:TGs:=λvs σ H Q=>vs=[]/\Q σ H
def LI (t:TG)(u:TGs):TGs:=λvs σ H Q=>∃v r,vs=v :: r/\t v σ H λσ' H'=>u r σ' H' Q
theorem Ts:PGs X [] XU:=by
 intro pins s σ H vs us Q I r h
 obtain⟨e,h⟩:=h
 subst e
 cases r
 exact assignInOrder_nil ⟨σ,H,I,h⟩
theorem YT {e:Expr}{es:List Expr}{t:TG}{u:TGs}(h1:PG X e t)(h2:PGs X es u)
  (hs:(assignEach (e :: es) X.env).map (·.2)=assign e X.env :: (assignEach es X.env).map (·.2):=by rfl):PGs X (e :: es) (LI t u):=by
 intro pins s σ H vs us Q I r h
 obtain⟨v,vr,e1,h⟩:=h
 subst e1
 cases r with
 |cons r rr=>
  rw [hs]
  refine assignInOrder_cons (thn (h1 pins s σ H _ _ _ I r h) λ_ s1 ⟨σ1,H1,I1,q1⟩=>?_)
  exact h2 pins s1 σ1 H1 _ _ Q I1 rr q1
def Z2i (K:Wd)(n:Nat)(t:TGs):TG:=λv σ H Q=>∃a xs,v = .ref a/\SqT K H a xs/\xs.length=n/\t xs σ H Q
theorem Bs {es:List Expr}{k:Nat}{t:TGs}{n:Nat}(hc:X.calm=true)(h:PGs X es t)
  (hn:(assignEach es X.env).length=n:=by rfl) (hst:(assignEach es X.env).findIdx? (·.1)=none:=by rfl):PG X (.Tuple es k pos) (Z2i X.K n t):=by
 intro pins s σ H v u Q I r hw
 obtain⟨a,xs,e1,hq,hl,hw⟩:=hw
 subst e1
 cases r
 obtain⟨its,rv,ht,hz⟩:=I.tuple hq
 refine assign_Tuple_tuple (I.ok.hd hc) ht (by simp [hn,←hl,rv.length]) hst λh' hx=>?_
 have I1:Inv X pins σ H { s with heap:=h' }:=I.kept (t':=s.toks) λb o e=>hx b o (WK (Wt e)) e
 exact h pins _ σ H xs _ Q I1 (by simpa using rv) hw
def Z2j (to ti:TE)(t:Z0Q):TG:=λv σ H Q=>to σ H λo H1=>ti σ H1 λi H2=>t o i v H2 λH3=>Q σ H3
theorem O2 {o i:Expr}{to ti:TE}{t:Z0Q}(ho:PE X o to)(hi:PE X i ti)(hs:HB X t)
  (ha:∀v,assign (.Subscript o i pos) X.env v=(do
   let ov ←holding [v] (eval o X.env)
   let iv ←holding [v,ov] (eval i X.env)
   standAt pos
   holding [v,ov,iv] (setItem ov iv v)
   release [v,ov,iv] []):=by intro _;rfl):PG X (.Subscript o i pos) (Z2j to ti t):=by
 intro pins s σ H v u Q I r h
 rw [ha]
 refine W0 (Vq (thn (ho pins s σ H _ I h) λov s1 ⟨x,H1,I1,r1,q1⟩=>?_))
 refine W0 (Vq (thn (hi pins s1 σ H1 _ I1 q1) λiv s2 ⟨y,H2,I2,r2,q2⟩=>?_))
 refine W0 (wpAny_standAt (W0 (Vq (thn (hs pins s2 σ H2 x y v ov iv u _ I2 r1 r2 r q2) λ_ s3 ⟨H3,I3,q3⟩=>?_))))
 exact wpAny_release ⟨σ,H3,I3,q3⟩
def Z0J (te:TE)(g:TG):TS:=λD σ H=>te σ H λx H1=>g x σ H1 D.nx
theorem Eg {tg e:Expr}{te:TE}{g:TG}(he:PE X e te)(hg:PG X tg g)(hs:swapsWithSole [tg] e pos.line X.env=pure false:=by rfl)(hw:swappedStores [tg] e X.env=pure none:=by rfl)
  (h1:(assignEach [tg] X.env).map (·.2)=[assign tg X.env]:=by rfl):PS X (.Assign [tg] e pos) (Z0J te g):=by
 intro pins s σ H D I h
 refine wpAny_Assign_stores (thn (he pins s σ H _ I h) λv s1 ⟨x,H1,I1,r1,q1⟩=>?_) hs hw
 rw [h1]
 exact thn (hg pins s1 σ H1 x v _ I1 r1 q1) λ_ s2 q=>q
theorem DV {i:Nat}{x:Str}{e:Expr}{te:TE}{pos':Pos}(hN:X.N.Nodup)(hi:X.N[i]? = some x)(hx:Loc X.env.scope x)(he:PE X e te)(hs:swapsWith e (some (.Name x pos')) pos.line X.env=pure false:=by rfl)(hf:X.fn x=true\/X.env.scope.names.lookup x=some .local:=by first|exact .inl rfl|exact .inr rfl|assumption) :
  PS X (.Assign [.Name x pos'] e pos) (Z0J te (M4 i)):=by
 intro pins s σ H D I h
 refine wpAny_Assign_Name (thn (he pins s σ H _ I h) λv s1 ⟨y,H1,I1,r1,q1⟩=>?_) hs
 exact Mp I1 hN hi hx r1 (λs2 I2=>⟨_,H1,I2,q1⟩) hf
end
section
variable {X:Cx} {pos:Pos}
end
structure It where
 go:Nat->Hp->Prop
 yld:Nat->Hp->V->Hp->Prop
 stop:Nat->Hp->Prop
def Rk (X:Cx)(pins:List (Addr×Obj))(H:Hp)(b:Addr):Prop:=
 H b=none/\b≠X.env.locals/\b∉X.fs/\(b∈X.ex\/X.s₀.heap.objs.size≤b)/\(∀x c,X.env.cells.lookup x=some c->c≠b)/\∀p∈X.pn++pins,p.1≠b
theorem Inv.fpOk {X:Cx}{pins:List (Addr×Obj)}{σ:St}{H H':Hp}{s:Shared}{b:Addr}(I:Inv X pins σ H s)(hb:s.heap.objs.size≤b)(hn:H' b=none):Rk X pins H' b:=by
 refine⟨hn,W1k (WQ I.lt hb),I.nofs hb,.inr (WY I.sz hb),λx c e z=>?_,λp hp z=>?_⟩
 ·obtain⟨v,q⟩:=I.cell x c e
  exact absurd (WQ q.lt (by rw [z];exact hb)) (VE _)
 ·exact absurd (WQ (Wt (I.pin p hp).1) (by rw [z];exact hb)) (VE _)
structure Turn (P:Program) (w:World) (K:Wd) (tg:Expr) (J:It) (fp:List Addr) (it:Addr) (tn:Nat->Heap->Prop):Prop where
 mem:it∈fp
 obj:∀i h,tn i h->∀b∈fp,∃o,h.get? b=some o/\∀v,o.data≠.cell v
 keep:∀i h h',tn i h->(∀b∈fp,∀o,h.get? b=some o->h'.get? b=some o)->tn i h'
 item:∀(X:Cx),X.prog=P->X.w=w->X.K=K->X.calm=true->∀(i:Nat) (pins:List (Addr×Obj)) (s:Shared) (σ:St) (H:Hp) (E:Value->Shared->Prop),Inv X pins σ H s->(∀b∈fp,Rk X pins H b)->tn i s.heap->J.go i H->
  wpAny (model P w) X.A (pyNext (.ref it)) (λr s1=>∃u,r=some u/\
   wpAny (model P w) X.A (letOwnedTupleGo tg (.ref it) u) (λ_ s2=>∃x H',Inv X pins σ H' s2/\ZL x u/\J.yld i H x H'/\tn (i+1) s2.heap/\∀b∈fp,H' b=none) E s1) E s
 done:∀(X:Cx),X.prog=P->X.w=w->X.K=K->X.calm=true->∀(i:Nat) (pins:List (Addr×Obj)) (s:Shared) (σ:St) (H:Hp) (E:Value->Shared->Prop),Inv X pins σ H s->(∀b∈fp,Rk X pins H b)->tn i s.heap->J.stop i H->
  wpAny (model P w) X.A (pyNext (.ref it)) (λr s1=>r=none/\Inv X pins σ H s1) E s
 self:∀(A:Around) (i:Nat) (s:Shared) (Q:Value->Shared->Prop) (E:Value->Shared->Prop),tn i s.heap->Q (.ref it) s->wpAny (model P w) A (pyIter (.ref it)) Q E s
abbrev TI:=St->Hp->(It->Hp->Prop)->Prop
def PIE (X:Cx)(pins:List (Addr×Obj))(σ:St)(tg:Expr)(R:It->Hp->Prop)(itv:Value)(s2:Shared):Prop:=
 ∃(it:Addr) (fp:List Addr) (tn:Nat->Heap->Prop) (J:It) (H':Hp),itv = .ref it/\Inv X pins σ H' s2/\Turn X.prog X.w X.K tg J fp it tn/\tn 0 s2.heap/\(∀b∈fp,Rk X pins H' b)/\R J H'
def PI (X:Cx)(tg iter:Expr)(wi:TI):Prop:=
 ∀(pins:List (Addr×Obj)) (s:Shared) (σ:St) (H:Hp) (R:It->Hp->Prop),Inv X pins σ H s->wi σ H R->
  wpAny (model X.prog X.w) X.A (eval iter X.env) (λv s1=>wpAny (model X.prog X.w) X.A (pyIter v) (PIE X pins σ tg R) X.xe s1) X.xe s
theorem AB {M:Model}{A:Around}{E:Value->Shared->Prop}{s:Shared}{tg:Expr}{it:Addr}{u:Value}{o:Obj}{n:String}{vs:Array Value}{Q:Unit->Shared->Prop}(ho:s.heap.get? it=some o)(hc:o.cls = .type n)(hd:o.data = .fields vs)
  (hn:["enumerate", "zip", "dict_itemiterator", "dict_reverseitemiterator", "odict_iterator", "itertools.zip_longest", "itertools.pairwise"].contains n=false) (hQ:Q () s):wpAny M A (letOwnedTupleGo tg (.ref it) u) Q E s:=by
 unfold letOwnedTupleGo
 cases tg<;>first
  |exact W6 hQ
  | (cases u<;>first
     |exact W6 hQ
     | (refine W0 (wpAny_load ho ?_)
        rw [hc,hd]
        show wpAny M A (if (["enumerate", "zip", "dict_itemiterator", "dict_reverseitemiterator", "odict_iterator", "itertools.zip_longest", "itertools.pairwise"].contains n&&vs[0]? == some (rawInt _))=true then _ else _) Q E s
        rw [if_neg (by intro h;rw [hn,VB] at h;cases h)]
        exact W6 hQ))
def Itl (K:Wd)(a:Addr):It:=
 ⟨λi H=>∃xs x,SqL K H a xs/\xs[i]? = some x,λi H x H'=>H'=H/\∀xs,SqL K H a xs->xs[i]? = some x,λi H=>∃xs,SqL K H a xs/\xs.length≤i⟩
def Itt (K:Wd)(a:Addr):It:=
 ⟨λi H=>∃xs x,SqT K H a xs/\xs[i]? = some x,λi H x H'=>H'=H/\∀xs,SqT K H a xs->xs[i]? = some x,λi H=>∃xs,SqT K H a xs/\xs.length≤i⟩
def Itr (lo:Int)(n:Nat):It:=⟨λi _=>i<n,λi H x H'=>H'=H/\x = .int (lo+i),λi _=>n≤i⟩
theorem Rs {P:Program}{w:World}{K:Wd}{tg:Expr}(a it:Addr):Turn P w K tg (Itl K a) [it] it (λi h=>h.IsListIter it a i) where
 mem:=by simp
 obj:=λi h st b hb=>by
  have e:b=it:=by simpa using hb
  subst e
  obtain⟨o,e,c,d⟩:=st
  exact⟨o,e,λv z=>by rw [d] at z;cases z⟩
 keep:=λi h h' st k=>st.at λo e=>k it (by simp) o e
 item:=by
  intro X hP hw hK hc i pins s σ H E I hf st hg
  subst hP hw hK
  obtain⟨xs,x,hq,hx⟩:=hg
  obtain⟨its,rv,p,hz⟩:=I.list hq
  obtain⟨u,hu,ru⟩:=rv.get hx
  obtain⟨f0,f1,f2,f3,f4,f5⟩:=hf it (by simp)
  refine wpAny_pyNext_list_item st p.isList (x:=u) (by simpa using hu) λh' st' sb=>?_
  have I1:Inv X pins σ H { s with heap:=h' }:=I.turned (t':=s.toks) (λb o hb e=>(sb.2 b hb).trans e) f0 f1 f3 f4 f5
  obtain⟨o,e,c,d⟩:=id st'
  exact⟨u,rfl,AB (s:={ s with heap:=h' }) e c d (by decide) ⟨x,H,I1,ru,⟨rfl,λys hy=>by rw [I.list_inj hy hq];exact hx⟩,st',λb hb=>(hf b hb).1⟩⟩
 done:=by
  intro X hP hw hK hc i pins s σ H E I hf st hg
  subst hP hw hK
  obtain⟨xs,hq,hx⟩:=hg
  obtain⟨its,rv,p,hz⟩:=I.list hq
  obtain⟨f0,f1,f2,f3,f4,f5⟩:=hf it (by simp)
  have hl:=rv.length
  exact wpAny_pyNext_list_end (I.ok.hd hc) st p.isList (by simp;omega) λh' eb=>⟨rfl,I.turned (t':=s.toks) (λb o hb e=>eb b o hb e) f0 f1 f3 f4 f5⟩
 self:=λ_ _ _ _ _ st h=>wpAny_pyIter_listiter st h
theorem Ki {P:Program}{w:World}{K:Wd}{tg:Expr}(a it:Addr):Turn P w K tg (Itt K a) [it] it (λi h=>h.IsTupleIter it a i) where
 mem:=by simp
 obj:=λi h st b hb=>by
  have e:b=it:=by simpa using hb
  subst e
  obtain⟨o,e,c,d⟩:=st
  exact⟨o,e,λv z=>by rw [d] at z;cases z⟩
 keep:=λi h h' st k=>st.at λo e=>k it (by simp) o e
 item:=by
  intro X hP hw hK hc i pins s σ H E I hf st hg
  subst hP hw hK
  obtain⟨xs,x,hq,hx⟩:=hg
  obtain⟨its,rv,p,hz⟩:=I.tuple hq
  obtain⟨u,hu,ru⟩:=rv.get hx
  obtain⟨f0,f1,f2,f3,f4,f5⟩:=hf it (by simp)
  refine wpAny_pyNext_tuple_item st (show s.heap.IsTuple a its.toArray from p) (x:=u) (by simpa using hu) λh' st' sb=>?_
  have I1:Inv X pins σ H { s with heap:=h' }:=I.turned (t':=s.toks) (λb o hb e=>(sb.2 b hb).trans e) f0 f1 f3 f4 f5
  obtain⟨o,e,c,d⟩:=id st'
  exact⟨u,rfl,AB (s:={ s with heap:=h' }) e c d (by decide) ⟨x,H,I1,ru,⟨rfl,λys hy=>by rw [I.tuple_inj hy hq];exact hx⟩,st',λb hb=>(hf b hb).1⟩⟩
 done:=by
  intro X hP hw hK hc i pins s σ H E I hf st hg
  subst hP hw hK
  obtain⟨xs,hq,hx⟩:=hg
  obtain⟨its,rv,p,hz⟩:=I.tuple hq
  obtain⟨f0,f1,f2,f3,f4,f5⟩:=hf it (by simp)
  have hl:=rv.length
  exact wpAny_pyNext_tuple_end (I.ok.hd hc) st (show s.heap.IsTuple a its.toArray from p) (by simp;omega) λh' eb=>⟨rfl,I.turned (t':=s.toks) (λb o hb e=>eb b o hb e) f0 f1 f3 f4 f5⟩
 self:=λ_ _ _ _ _ st h=>wpAny_pyIter_tupleiter st h
theorem Kj {P:Program}{w:World}{K:Wd}{tg:Expr}(it:Addr)(lo:Int)(n:Nat):Turn P w K tg (Itr lo n) [it] it (λi h=>IsRangeIter h it (lo+(i:Nat)*1) ((n:Int)-(i:Nat)) 1) where
 mem:=by simp
 obj:=λi h st b hb=>by
  have e:b=it:=by simpa using hb
  subst e
  exact⟨_,st,λv z=>by
   have z':Data.fields _=Data.cell v:=z
   cases z'⟩
 keep:=λi h h' st k=>k it (by simp) _ st
 item:=by
  intro X hP hw hK hc i pins s σ H E I hf st hg
  subst hP hw hK
  obtain⟨f0,f1,f2,f3,f4,f5⟩:=hf it (by simp)
  have W:=Walks.range (prog:=X.prog) (w:=X.w) (I.ok.hd hc) it lo 1 n
  refine W.item i s _ _ hg st λv h' tk hv st' kk=>?_
  obtain⟨t,rfl⟩:=hv
  have I1:Inv X pins σ H { s with heap:=h',toks:=tk }:=I.turned (λb o hb e=>kk b o (by simpa using hb) e) f0 f1 f3 f4 f5
  refine⟨_,rfl,AB (s:={ s with heap:=h',toks:=tk }) (n:="range_iterator") st' rfl rfl (by decide) ⟨.int (lo+i),H,I1,⟨t,?_⟩,⟨rfl,rfl⟩,st',λb hb=>(hf b hb).1⟩⟩
  rw [Int.mul_one]
 done:=by
  intro X hP hw hK hc i pins s σ H E I hf st hg
  subst hP hw hK
  obtain⟨f0,f1,f2,f3,f4,f5⟩:=hf it (by simp)
  exact wpAny_pyNext_range_end (I.ok.hd hc) st (by have:n≤i:=hg;omega) λh' eb=>⟨rfl,I.turned (t':=s.toks) (λb o hb e=>eb b o hb e) f0 f1 f3 f4 f5⟩
 self:=λ_ _ _ _ _ st h=>wpAny_pyIter_rangeiter st h
end L2
namespace L2
open PySem PySem.Spec PyProof.Rows
section
variable {X:Cx} {tg:Expr}
theorem FV {pins:List (Addr×Obj)}{σ:St}{H:Hp}{s:Shared}{R:It->Hp->Prop}{E:Value->Shared->Prop}{lo hi:Int}{t u v:Tok}{tk:Nat}(I:Inv X pins σ H s)(h1 : -(2 ^ 62)≤lo)(h2:lo<2 ^ 62)(h3 : -(2 ^ 62)≤hi)(h4:hi<2 ^ 62)
  (q:R (Itr lo (hi-lo).toNat) H):wpAny (model X.prog X.w) X.A (pyIter (.ref s.heap.objs.size)) (PIE X pins σ tg R) E { s with heap:=s.heap.push { cls:=.type "range",data:=.fields #[.int lo t,.int hi u,.int 1 v] },toks:=tk }:=by
 refine wpAny_pyIter_range (IsRange.new ..) (small_one h1 h2 h3 h4) ?_
 have I1:Inv X pins σ H { s with heap:=s.heap.push { cls:=.type "range",data:=.fields #[.int lo t,.int hi u,.int 1 v] },toks:=tk }:=I.kept λb o e=>Wj _ e
 refine⟨(s.heap.push { cls:=.type "range",data:=.fields #[.int lo t,.int hi u,.int 1 v] }).objs.size,[(s.heap.push { cls:=.type "range",data:=.fields #[.int lo t,.int hi u,.int 1 v] }).objs.size],_,_,H,rfl,
  I1.kept (t':=tk) λb o e=>Wj _ e,Kj _ lo (hi-lo).toNat,?_,λb hb=>?_,q⟩
 ·have e1:lo+((0:Nat):Int)*1=lo:=by simp
  have e2:(((hi-lo).toNat:Nat):Int)-((0:Nat):Int)=Builtin.Range.rangeSize lo hi 1:=by rw [rangeSize_one];split<;>omega
  show IsRangeIter _ _ (lo+((0:Nat):Int)*1) ((((hi-lo).toNat:Nat):Int)-((0:Nat):Int)) 1
  rw [e1,e2]
  exact Wv _ rfl
 ·have e:b=(s.heap.push { cls:=.type "range",data:=.fields #[.int lo t,.int hi u,.int 1 v] }).objs.size:=by simpa using hb
  subst e
  exact I1.fpOk (Wp _) (I1.hok.fresh (Wp _))
def Z2e (ta:TA):TI:=λσ H R=>ta σ H λvs H1=>∃j:Int,vs=[.int j]/\-(2 ^ 62)≤j/\j<2 ^ 62/\R (Itr 0 j.toNat) H1
theorem Pa {a:Expr}{ta:TA}{p pos:Pos}(hg:Gl X "range")(hm:X.mg "range" = none)(ha:PA X [a] ta)(hs:Wy [a] X.env=[(false,eval a X.env)]:=by rfl):PI X tg (.Call (.Name "range" p) [a] [] pos) (Z2e ta):=by
 intro pins s σ H R I h
 refine Call_ (U9 I hg hm boot_range (W0u (thn (ha pos pins s σ H _ I h) λus s1 ⟨vs,H1,I1,r1,q1⟩=>?_) hs rfl))
 obtain⟨j,e,q1,q2,q⟩:=q1
 subst e
 cases r1 with
 |cons r rr=>
  cases rr
  obtain⟨t,rfl⟩:=r
  exact call_range_1 (FV I1 (by omega) (by omega) q1 q2 (by simpa using q))
def Z3I (wi:TI)(g:TG)(tb:TS):TS:=λD σ H=>wi σ H λJ H1=>∃W:Nat->Nat->St->Hp->Prop,(∃m,W 0 m σ H1)/\∀i m σ H,W i m σ H->
 (J.stop i H/\D.nx σ H)\/(J.go i H/\∃N:St->Hp->Prop,(∀σ' H',N σ' H'->∃m',m'<m/\W (i+1) m' σ' H')/\∀x H',J.yld i H x H'->g x σ H' λσ2 H2=>tb { D with nx:=N,ct:=N,bk:=D.nx } σ2 H2)
def Br (fp:List Addr)(h:Heap):List (Addr×Obj):=fp.filterMap λb=>(h.get? b).map λo=>(b,o)
theorem Jw {fp:List Addr}{h:Heap}{b:Addr}{o:Obj}(hb:b∈fp)(e:h.get? b=some o):(b,o)∈Br fp h:=W1q.mpr ⟨b,hb,by rw [e];rfl⟩
theorem Pk {fp:List Addr}{h:Heap}{p:Addr×Obj}(hp:p∈Br fp h):p.1∈fp/\h.get? p.1=some p.2:=by
 obtain⟨b,hb,e⟩:=W1q.mp hp
 cases q:h.get? b with
 |none=>rw [q] at e;cases e
 |some o=>
  rw [q] at e
  have e':(b,o)=p:=WT e
  subst e'
  exact⟨hb,q⟩
theorem Inv.pinned {pins:List (Addr×Obj)}{σ:St}{H:Hp}{s:Shared}{fp:List Addr}(I:Inv X pins σ H s)(hf:∀b∈fp,Rk X pins H b)(ho:∀b∈fp,∃o,s.heap.get? b=some o/\∀v,o.data≠.cell v):Inv X (pins++Br fp s.heap) σ H s:=
 I.pins_of λp hp=>(Va.mp hp).elim (λz=>I.pin p (WW _ z)) λz=>by
  obtain⟨hb,e⟩:=Pk z
  obtain⟨f0,f1,f2,_⟩:=hf p.1 hb
  obtain⟨o,e',d⟩:=ho p.1 hb
  rw [e] at e';cases e'
  exact⟨e,f0,f1,f2,d⟩
theorem Inv.unpinned {pins pl:List (Addr×Obj)}{σ:St}{H:Hp}{s:Shared}(I:Inv X (pins++pl) σ H s):Inv X pins σ H s:=I.pins_of λp hp=>I.pin p (WW _ (W12 _ hp))
theorem DX {iter:Expr}{body:List Stmt}{wi:TI}{g:TG}{tb:TS}{pos:Pos}(hp:PassesOwn (model X.prog X.w) X.A X.env X.xe)(hc:X.calm=true)(hi:PI X tg iter wi)(hg:PG X tg g)(hb:PSs X body tb)
  (hs:∀x,foldedSetIterable iter X.env x=pure x:=by intro _;rfl):PS X (.For tg iter body [] pos) (Z3I wi g tb):=by
 intro pins s σ H D I h
 refine wpAny_For (thn (hi pins s σ H _ I h) λv s1 h1=>thn h1 λitv s2 h2=>?_) hs
 obtain⟨it,fp,tn,J,H2,e,I2,T,st2,f2,W,⟨m0,w0⟩,turn⟩:=h2
 subst e
 -- what stays true of the iterator's objects through the loop
 have stat:∀{H':Hp},(∀b∈fp,H' b=none)->∀b∈fp,Rk X pins H' b:=λhn b hb=>⟨hn b hb,(f2 b hb).2⟩
 refine codeAny_forLoop_any (λn s'=>∃i σ' H',Inv X pins σ' H' s'/\tn i s'.heap/\(∀b∈fp,H' b=none)/\W i n σ' H') ?_ m0 ⟨0,σ,H2,I2,st2,λb hb=>(f2 b hb).1,w0⟩
 rintro n s3 ⟨i,σ3,H3,I3,st3,fr3,w3⟩
 rcases turn i n σ3 H3 w3 with ⟨stop,qn⟩|⟨go,N,hN,step⟩
 ·refine W1r hp (thn (T.done X rfl rfl rfl hc i pins s3 σ3 H3 X.xe I3 (stat fr3) st3 stop) λr s4 ⟨hr,I4⟩=>?_)
  subst hr
  exact wpAny_execs_nil ⟨σ3,H3,I4,qn⟩
 ·refine W1r hp (thn (T.item X rfl rfl rfl hc i pins s3 σ3 H3 X.xe I3 (stat fr3) st3 go) λr s4 ⟨u,hr,h4⟩=>?_)
  subst hr
  refine W1r hp (thn h4 λ_ s5 ⟨x,H5,I5,r5,y5,st5,fr5⟩=>?_)
  have I5':=I5.pinned (stat fr5) (T.obj _ _ st5)
  refine W1r hp (thn (hg _ s5 σ3 H5 x u _ I5' r5 (step x H5 y5)) λ_ s6 ⟨σ6,H6,I6,q6⟩=>?_)
  refine W1r hp (thn (hb _ s6 σ6 H6 _ I6 q6) λf s7 q7=>?_)
  have again:∀{σ7:St} {H7:Hp},Inv X (pins++Br fp s5.heap) σ7 H7 s7->N σ7 H7->∃m,m<n/\∃i σ' H',Inv X pins σ' H' s7/\tn i s7.heap/\(∀b∈fp,H' b=none)/\W i m σ' H':=λ{σ7 H7} I7 n7=>by
   obtain⟨m',hm,w7⟩:=hN σ7 H7 n7
   refine⟨m',hm,i+1,σ7,H7,I7.unpinned,T.keep _ _ _ st5 λb hb o e=>(I7.pin (b,o) (WW _ (WW _ (Jw hb e)))).1,λb hb=>?_,w7⟩
   obtain⟨o,e,d⟩:=T.obj _ _ st5 b hb
   exact (I7.pin (b,o) (WW _ (WW _ (Jw hb e)))).2.1
  cases f with
  |next=>obtain⟨σ7,H7,I7,n7⟩:=q7;exact again I7 n7
  |cont=>obtain⟨σ7,H7,I7,n7⟩:=q7;exact again I7 n7
  |brk=>obtain⟨σ7,H7,I7,q7⟩:=q7;exact⟨σ7,H7,I7.unpinned,q7⟩
  |ret v=>obtain⟨x7,σ7,H7,I7,r7,q7⟩:=q7;exact⟨x7,σ7,H7,I7.unpinned,r7,q7⟩
end
end L2
namespace L2
open PySem PySem.Spec PyProof.Rows
abbrev R2:=V->V->Hp->VK->Prop
def OpR (X:Cx)(f:Value->Value->Sem Value)(r:R2):Prop:=
 ∀(pins:List (Addr×Obj)) (s:Shared) (σ:St) (H:Hp) (x y:V) (v u:Value) (Q:VK),Inv X pins σ H s->ZL x v->ZL y u->r x y H Q->
  wpAny (model X.prog X.w) X.A (f v u) (EP X pins σ Q) X.xe s
def QL (X:Cx)(f:Value)(r:List V->Hp->VK->Prop):Prop:=
 ∀(pins:List (Addr×Obj)) (s:Shared) (σ:St) (H:Hp) (xs:List V) (us:List Value) (Q:VK),Inv X pins σ H s->Y1 xs us->r xs H Q->
  wpAny (model X.prog X.w) X.A (call f us) (EP X pins σ Q) X.xe s
def Z3t (X:Cx)(r:V->Hp->(Bool->Hp->Prop)->Prop):Prop:=
 ∀(pins:List (Addr×Obj)) (s:Shared) (σ:St) (H:Hp) (x:V) (v:Value) (Q:Bool->Hp->Prop),Inv X pins σ H s->ZL x v->r x H Q->
  wpAny (model X.prog X.w) X.A (truthy v) (TP X pins σ Q) X.xe s
def tOp (r:R2)(ta tb:TE):TE:=λσ H Q=>ta σ H λx H1=>tb σ H1 λy H2=>r x y H2 Q
def rI (C:Int->Int->Prop)(g:Int->Int->V):R2:=λx y H Q=>∃i j,x = .int i/\y = .int j/\C i j/\Q (g i j) H
def rI0 (g:Int->Int->V):R2:=λx y H Q=>∃i j,x = .int i/\y = .int j/\Q (g i j) H
section
variable {X:Cx} {a b c:Expr} {ta tb tc:TE} {pos:Pos}
theorem Z2q (ha:PE X a ta)(hb:PE X b tb){pins:List (Addr×Obj)}{s:Shared}{σ:St}{H:Hp}{R:V->V->Hp->Prop}(I:Inv X pins σ H s)
  (h:ta σ H λx H1=>tb σ H1 λy H2=>R x y H2) {Q:Value->Shared->Prop} {f:Value->Value->Sem Value}
  (hf:∀v u s2 x y H2,Inv X pins σ H2 s2->ZL x v->ZL y u->R x y H2->wpAny (model X.prog X.w) X.A (f v u) Q X.xe s2) :
  wpAny (model X.prog X.w) X.A (eval a X.env) (λv s₁=>wpAny (model X.prog X.w) X.A (eval b X.env) (λu s₂=>wpAny (model X.prog X.w) X.A (f v u) Q X.xe s₂) X.xe s₁) X.xe s:=by
 refine thn (ha pins s σ H _ I h) λv s1 ⟨x,H1,I1,r1,q1⟩=>?_
 refine thn (hb pins s1 σ H1 _ I1 q1) λu s2 ⟨y,H2,I2,r2,q2⟩=>?_
 exact hf v u s2 x y H2 I2 r1 r2 q2
theorem Z1t {op:Operator}{r:R2}(ho:OpR X (binaryOp op) r)(ha:PE X a ta)(hb:PE X b tb):PE X (.BinOp a op b pos) (tOp r ta tb):=by
 intro pins s σ H Q I h
 exact wpAny_BinOp (Z2q ha hb I h λv u s2 x y H2 I2 rx ry q=>ho pins s2 σ H2 x y v u Q I2 rx ry q)
theorem opI {f:Value->Value->Sem Value}{C:Int->Int->Prop}{g:Int->Int->Int}
  (rule:∀(i j:Int) (t u:Tok) (s:Shared) (Q:Value->Shared->Prop) (E:Value->Shared->Prop),C i j->Q (.int (g i j) s.toks) { s with toks:=s.toks+1 }->wpAny (model X.prog X.w) X.A (f (.int i t) (.int j u)) Q E s) :
  OpR X f (rI C λi j=>.int (g i j)):=by
 intro pins s σ H x y v u Q I rx ry h
 obtain⟨i,j,rfl,rfl,hc,q⟩:=h
 obtain⟨t,rfl⟩:=rx
 obtain⟨t',rfl⟩:=ry
 exact rule i j t t' s _ _ hc ⟨.int (g i j),H,I.tok _,⟨_,rfl⟩,q⟩
theorem Z3Y {f:Value->Value->Sem Value}{g:Int->Int->Int}
  (rule:∀(i j:Int) (t u:Tok) (s:Shared) (Q:Value->Shared->Prop) (E:Value->Shared->Prop),Q (.int (g i j) s.toks) { s with toks:=s.toks+1 }->wpAny (model X.prog X.w) X.A (f (.int i t) (.int j u)) Q E s) :
  OpR X f (rI0 λi j=>.int (g i j)):=by
 intro pins s σ H x y v u Q I rx ry h
 obtain⟨i,j,rfl,rfl,q⟩:=h
 obtain⟨t,rfl⟩:=rx
 obtain⟨t',rfl⟩:=ry
 exact rule i j t t' s _ _ ⟨.int (g i j),H,I.tok _,⟨_,rfl⟩,q⟩
theorem Z1B {f:Value->Value->Sem Value}{g:Int->Int->Bool}
  (rule:∀(i j:Int) (t u:Tok) (s:Shared) (Q:Value->Shared->Prop) (E:Value->Shared->Prop),Q (.bool (g i j)) s->wpAny (model X.prog X.w) X.A (f (.int i t) (.int j u)) Q E s) :
  OpR X f (rI0 λi j=>.bl (g i j)):=by
 intro pins s σ H x y v u Q I rx ry h
 obtain⟨i,j,rfl,rfl,q⟩:=h
 obtain⟨t,rfl⟩:=rx
 obtain⟨t',rfl⟩:=ry
 exact rule i j t t' s _ _ ⟨.bl (g i j),H,I,rfl,q⟩
def Z2y (i j:Int):Prop:=(-(2 ^ 64)<i/\i<2 ^ 64)\/(-(2 ^ 64)<j/\j<2 ^ 64)
theorem Z2y.ok {i j:Int}(h:Z2y i j):IntMulOk i j:=by
 rcases h with ⟨h1,h2⟩|⟨h1,h2⟩
 ·exact .of_left (intBits_le_64 h1 h2)
 ·exact .of_right (intBits_le_64 h1 h2)
theorem Ol:OpR X (binaryOp .Add) (rI0 λi j=>.int (i+j)):=Z3Y λ_ _ _ _ _ _ _ q=>add_int q
theorem Of:OpR X (binaryOp .Mult) (rI Z2y λi j=>.int (i*j)):=opI λ_ _ _ _ _ _ _ hc q=>mul_int q hc.ok
theorem Og:OpR X (binaryOp .Mod) (rI (λ_ j=>0<j) λi j=>.int (i%j)):=opI λi j _ _ _ _ _ hc q=>by
 have h1:(0:Int)<j:=hc
 exact mod_int' (by omega) (by rw [Int.fmod_eq_emod_of_nonneg i (by omega)];exact q)
end
section
variable {X:Cx} {a b c:Expr} {ta tb tc:TE} {pos:Pos}
theorem YI {pins:List (Addr×Obj)}{σ:St}{H:Hp}{s:Shared}{Q:VK}{k k':Bool}(I:Inv X pins σ H s)(q:Q (.bl k) H)(e:k=k'):EP X pins σ Q (.bool k') s:=by
 subst e
 exact⟨.bl k,H,I,rfl,q⟩
theorem Z1y:OpR X (compareOp .LtE) (rI0 λi j=>.bl (decide (i≤j))):=Z1B λ_ _ _ _ _ _ _ q=>le_int q
theorem Z1z:OpR X (compareOp .Gt) (rI0 λi j=>.bl (decide (j<i))):=Z1B λ_ _ _ _ _ _ _ q=>gt_int q
theorem Z1A:OpR X (compareOp .GtE) (rI0 λi j=>.bl (decide (j≤i))):=Z1B λ_ _ _ _ _ _ _ q=>ge_int q
theorem Oh:OpR X (compareOp .Is) (λx y H Q=>y = .non/\Q (.bl (decide (x = .non))) H):=by
 intro pins s σ H x y v u Q I rx ry h
 obtain⟨rfl,q⟩:=h
 cases ry
 refine is_none_gen (YI I q ?_)
 cases x<;>first
  | (cases rx;rfl)
  | (obtain⟨t,rfl⟩:=rx;rfl)
theorem SG:OpR X (compareOp .IsNot) (λx y H Q=>y = .non/\Q (.bl (!decide (x = .non))) H):=by
 intro pins s σ H x y v u Q I rx ry h
 obtain⟨rfl,q⟩:=h
 cases ry
 refine isnot_none_gen (YI I q ?_)
 cases x<;>first
  | (cases rx;rfl)
  | (obtain⟨t,rfl⟩:=rx;rfl)
theorem OpR.or {f:Value->Value->Sem Value}{r r':R2}(h:OpR X f r)(h':OpR X f r'):OpR X f (λx y H Q=>r x y H Q\/r' x y H Q):=by
 intro pins s σ H x y v u Q I rx ry q
 rcases q with q|q
 ·exact h pins s σ H x y v u Q I rx ry q
 ·exact h' pins s σ H x y v u Q I rx ry q
theorem Y4 (b:Expr){op:CmpOp}(h:op≠.In:=by decide)(h2:op≠.NotIn:=by decide):behindInMarks op b=false:=by
 have e1:(op == CmpOp.In)=false:=by cases op<;>first|rfl|exact absurd rfl h
 have e2:(op == CmpOp.NotIn)=false:=by cases op<;>first|rfl|exact absurd rfl h2
 cases b<;>simp [behindInMarks,e1,e2]
theorem Sv {op:CmpOp}{r:R2}(ho:OpR X (compareOp op) r)(ha:PE X a ta)(hb:PE X b tb)(hm:behindInMarks op b=false):PE X (.Compare a [op] [b] pos) (tOp r ta tb):=by
 intro pins s σ H Q I h
 exact wpAny_Compare1 (Z2q ha hb I h λv u s2 x y H2 I2 rx ry q=>ho pins s2 σ H2 x y v u Q I2 rx ry q) hm
def Dw (t:TE):TT:=λσ H Q=>t σ H λx H'=>∃k,x = .bl k/\Q k H'
theorem Se {op:CmpOp}{r:R2}(ho:OpR X (compareOp op) r)(ha:PE X a ta)(hb:PE X b tb)(hm:behindInMarks op b=false):PT X (.Compare a [op] [b] pos) (Dw (tOp r ta tb)):=by
 intro pins s σ H Q I h
 refine wpAny_isTrue_Compare1 (thn (ha pins s σ H _ I h) λv s1 ⟨x,H1,I1,r1,q1⟩=>thn (hb pins s1 σ H1 _ I1 q1) λu s2 ⟨y,H2,I2,r2,q2⟩=>
  thn (ho pins s2 σ H2 x y v u _ I2 r1 r2 q2) λc s3 ⟨z,H3,I3,r3,k,e,q3⟩=>?_) hm
 subst e
 cases r3
 exact W0W ⟨H3,I3,q3⟩
def E6 (r r':R2)(ta tb tc:TE):TE:=λσ H Q=>ta σ H λx H1=>tb σ H1 λy H2=>r x y H2 λz H3=>∃k,z = .bl k/\
 (if k=true then tc σ H3 λw' H4=>r' y w' H4 Q else Q (.bl false) H3)
theorem A5 {op op':CmpOp}{r r':R2}(ho:OpR X (compareOp op) r)(ho':OpR X (compareOp op') r')(ha:PE X a ta)(hb:PE X b tb)(hc:PE X c tc)
  (hm:lastMarks [op,op'] [b,c]=false:=by with_unfolding_all rfl):PE X (.Compare a [op,op'] [b,c] pos) (E6 r r' ta tb tc):=by
 intro pins s σ H Q I h
 refine Compare_chain (thn (ha pins s σ H _ I h) λv s1 ⟨x,H1,I1,r1,q1⟩=>chain_link (thn (hb pins s1 σ H1 _ I1 q1) λu s2 ⟨y,H2,I2,r2,q2⟩=>
  thn (ho pins s2 σ H2 x y v u _ I2 r1 r2 q2) λd s3 ⟨z,H3,I3,r3,k,e,q3⟩=>?_)) hm
 subst e
 cases r3
 refine W0W ?_
 cases k with
 |false=>exact ite_ff ⟨.bl false,H3,I3,rfl,q3⟩
 |true=>exact ite_tt (chain_last (thn (hc pins s3 σ H3 _ I3 q3) λw' s4 ⟨z',H4,I4,r4,q4⟩=>ho' pins s4 σ H4 y z' u w' Q I4 r2 r4 q4))
def Z3s (K:Wd)(x:V)(H:Hp)(k:Bool):Prop:=
 match x with
 | .non=>k=false
 | .bl b=>k=b
 | .int i=>k=(i != 0)
 | .str y=>y.length≤Wk/\k=((y.length:Int) != 0)
 | .byt y=>y.size≤Wk/\k=((y.size:Int) != 0)
 | .ref p=>(∃xs,SqL K H p xs/\k = !xs.isEmpty)\/(∃xs,SqT K H p xs/\k = !xs.isEmpty)\/∃kvs,H p=some (.dK kvs)/\k = !kvs.isEmpty
 |_=>False
theorem KN {κ:Type}{kvs:List (κ×V)}{vs:List (κ×Value)}(r:KV kvs vs):(!vs.isEmpty) = !kvs.isEmpty:=by
 cases r<;>rfl
theorem Gm {xs:List V}{its:List Value}(r:Y1 xs its):(!its.toArray.isEmpty) = !xs.isEmpty:=by
 cases r<;>simp
theorem TD:(Wk:Nat)<2 ^ 63:=by rw [W0S];decide
theorem Dr:Z3t X (λx H Q=>∃k,Z3s X.K x H k/\Q k H):=by
 intro pins s σ H x v Q I rx h
 obtain⟨k,e,q⟩:=h
 have hl:=TD
 have hs:Wk=16777216:=W0S
 cases x with
 |non=>
  cases rx
  have e':k=false:=e
  subst e'
  exact truthy_none ⟨H,I,q⟩
 |bl b=>
  cases rx
  have e':k=b:=e
  subst e'
  exact W0W ⟨H,I,q⟩
 |int i=>
  obtain⟨t,rfl⟩:=rx
  have e':k=(i != 0):=e
  subst e'
  exact PySem.P.truthy_int ⟨H,I,q⟩
 |str y=>
  obtain⟨t,rfl⟩:=rx
  obtain⟨hy,e'⟩:y.length≤Wk/\k=((y.length:Int) != 0):=e
  subst e'
  exact PySem.P.truthy_str (by omega) ⟨H,I.tok _,q⟩
 |byt y=>
  obtain⟨t,rfl⟩:=rx
  obtain⟨hy,e'⟩:y.size≤Wk/\k=((y.size:Int) != 0):=e
  subst e'
  exact PySem.W.truthy_bytes (by omega) ⟨H,I.tok _,q⟩
 |ref p=>
  cases rx
  have e':(∃xs,SqL X.K H p xs/\k = !xs.isEmpty)\/(∃xs,SqT X.K H p xs/\k = !xs.isEmpty)\/∃kvs,H p=some (.dK kvs)/\k = !kvs.isEmpty:=e
  rcases e' with ⟨xs,hx,e'⟩|⟨xs,hx,e'⟩|⟨kvs,hx,e'⟩
  ·subst e'
   obtain⟨its,r,pl,hz⟩:=I.list hx
   have hlen:=r.length
   exact wpAny_truthy_list pl.isList (by simp only [Wn];omega) ⟨H,I.tok _,by rw [Gm r];exact q⟩
  ·subst e'
   obtain⟨its,r,pl,hz⟩:=I.tuple hx
   have hlen:=r.length
   exact truthy_tuple pl (by simp only [Wn];omega) ⟨H,I.tok _,by rw [Gm r];exact q⟩
  ·subst e'
   obtain⟨hz,hS,vs,r,m⟩:kvs.length≤Wk/\(p == sysModules)=false/\∃vs,KV kvs vs/\s.heap.DictOf (ZX X.prog X.w) p vs:=I.hok p _ hx
   have hlen:kvs.length=vs.length:=W0V r
   exact wpAny_truthy_dict hS m (by omega) ⟨H,I.tok _,by rw [KN r];exact q⟩
 |_=>exact (show False from e).elim
theorem Kt:OpR X (binaryOp .Add) (λx y H Q=>∃i j,x = .str i/\y = .str j/\i.length+j.length≤Wk/\Q (.str (i++j)) H):=by
 intro pins s σ H x y v u Q I rx ry h
 obtain⟨i,j,rfl,rfl,hz,q⟩:=h
 obtain⟨t,rfl⟩:=rx
 obtain⟨t',rfl⟩:=ry
 exact add_str (λt' tk=>⟨.str (i++j),H,I.tok _,⟨_,rfl⟩,q⟩) hz
theorem JN {x:V}{us:List Value}(r:Y1 [x] us):∃u,us=[u]/\ZL x u:=by
 cases r with
 |cons r1 r2=>cases r2;exact⟨_,rfl,r1⟩
theorem Kh {x y:V}{us:List Value}(r:Y1 [x,y] us):∃u w',us=[u,w']/\ZL x u/\ZL y w':=by
 cases r with
 |cons r1 r2=>
  cases r2 with
  |cons r3 r4=>cases r4;exact⟨_,_,rfl,r1,r3⟩
theorem F0 (hc:X.calm=true):QL X (.builtin "max") (λxs H Q=>∃i j,xs=[.int i,.int j]/\Q (.int (if j>i then j else i)) H):=by
 intro pins s σ H xs us Q I r h
 obtain⟨i,j,rfl,q⟩:=h
 obtain⟨u,w',rfl,⟨t,rfl⟩,⟨t',rfl⟩⟩:=Kh r
 refine max_two_ints (I.ok.hd hc) λh' tk k=>⟨_,H,I.kept k,?_,q⟩
 by_cases hj:j>i
 ·rw [if_pos hj,if_pos hj];exact⟨_,rfl⟩
 ·rw [if_neg hj,if_neg hj];exact⟨_,rfl⟩
theorem F2:QL X (.type "int") (λxs H Q=>(∃i,xs=[.int i]/\Q (.int i) H)\/∃k,xs=[.bl k]/\Q (.int (if k then 1 else 0)) H):=by
 intro pins s σ H xs us Q I r h
 rcases h with ⟨i,rfl,q⟩|⟨k,rfl,q⟩
 ·obtain⟨u,rfl,t,rfl⟩:=JN r
  exact call_int_int ⟨.int i,H,I,⟨_,rfl⟩,q⟩
 ·obtain⟨u,rfl,r1⟩:=JN r
  cases r1
  exact call_int_bool ⟨.int (if k then 1 else 0),H,I.tok _,⟨_,rfl⟩,q⟩
end
end L2
namespace L2
open PySem PySem.Spec PyProof.Rows
structure ObjM (h:Heap) (x dx C:Addr) (mA:Str->Option Value):Prop where
 obj:h.get? x=some (PySem.W.instObj C dx)
 ns:h.Ns1 dx mA
 ne:dx≠x
theorem PL {h:Heap}{dx:Addr}{mA:Str->Option Value}(n:h.Ns1 dx mA):∃od,h.get? dx=some od/\∀name,PySem.W.lookIn name od=some (mA name):=by
 obtain⟨o,es,ep,ho,hd,hk,_,hm⟩:=n
 refine⟨o,ho,λname=>?_⟩
 have e:=hm name
 unfold nsFind findBy at e
 rw [←Array.find?_toList] at e
 unfold PySem.W.lookIn
 rw [hd]
 dsimp only
 split
 ·rename_i y q
  rw [q] at e
  exact congrArg some e
 ·rename_i q
  rw [q] at e
  have a:es.toList.any (·.refKey)=false:=by
   rw [List.any_eq_false]
   intro y hy
   obtain⟨z,t,hkey⟩:=hk y (Array.mem_toList_iff.mp hy)
   simp [DictEntry.refKey,hkey]
  have a':¬es.toList.any (·.refKey)=true:=by rw [a];exact Wu
  rw [if_neg a']
  exact congrArg some e
theorem ObjM.look {h:Heap}{x dx C:Addr}{mA:Str->Option Value}(I:ObjM h x dx C mA):∃od,PySem.W.InstAt h x (PySem.W.instObj C dx) C (some od)/\∀name,PySem.W.lookIn name od=some (mA name):=
 let ⟨od,ho,hl⟩:=PL I.ns
 ⟨od,⟨I.obj,rfl,rfl,ho⟩,hl⟩
section
variable {prog:Program} {w:World} {A:Around} {E:Value->Shared->Prop} {s:Shared} {K:Wd} {x dx C f:Addr} {mA:Str->Option Value} {name:Str} {v:Value}
end
theorem Ra.some_of {v:V}{o:Option Value}(r:Ra (some v) o):∃u,o=some u/\ZL v u:=by
 cases o with
 |none=>exact (show False from r).elim
 |some u=>exact⟨u,rfl,r⟩
section
variable {P:Program} {w:World} {H H':Hp} {h h':Heap} {a C dx:Addr} {fs fs':List (Str×V)}
theorem IE (hok:HOk P w H h)(e:H a=some (.ins C dx fs)):∃mA,ObjM h a dx C mA/\(∀f,Ra (fs.lookup f) (mA f))/\PySem.Within mA (fs.map (·.1))/\fs.length≤1000/\H dx=some (.own a):=by
 obtain⟨d,z,ne,ob,mA,n,r,q⟩:=(show ZI P w H h a (.ins C dx fs) from hok a _ e)
 exact⟨mA,⟨ob,n,ne⟩,r,q,z,d⟩
end
structure Cls (K:Wd) (C:Addr):Prop where
 pg:PySem.W.plainGet K C Str.empty=true
 hd:PySem.W.hasDictIn K C=true
 po:PySem.W.plainOver K C=true
 sa:PySem.W.findIn K (.ref C) "__setattr__" = some (some (.builtin "object.__setattr__"))
theorem Cls.get {K:Wd}{C:Addr}(c:Cls K C)(f:Str):PySem.W.plainGet K C f=true:=c.pg
section
variable {X:Cx} {pins:List (Addr×Obj)} {σ:St} {H:Hp} {s:Shared} {a C dx:Addr} {fs:List (Str×V)} {f:Str} {v:V} {A:Around} {E:Value->Shared->Prop}
end
section
variable {X:Cx} {o e value:Expr} {f:Str} {pos pos' tpos:Pos} {ta tv:TE}
end
section
variable {X:Cx} {pins:List (Addr×Obj)} {σ:St} {H:Hp} {s:Shared} {A:Around} {E:Value->Shared->Prop} {Q:Value->Shared->Prop} {c:Value} {b:Bool}
inductive TyOf (K:Wd) (H:Hp):V->Value->Prop where
 |non:TyOf K H .non (.type "NoneType")
 |bl (x:Bool):TyOf K H (.bl x) (.type "bool")
 |int (i:Int):TyOf K H (.int i) (.type "int")
 |str (x:Str):TyOf K H (.str x) (.type "str")
 |flt (x:UInt64):TyOf K H (.flt x) (.type "float")
 |lst {a:Addr} {xs:List V} (e:H a=some (.lst xs)):TyOf K H (.ref a) (.type "list")
 |frz {a:Addr} {o:Obj} {xs:List V} (e:H a=some (.frz o (.lst xs))):TyOf K H (.ref a) (.type "list")
 |tup {a:Addr} {xs:List V} (e:H a=some (.tup xs)):TyOf K H (.ref a) (.type "tuple")
 |dK {a:Addr} {kvs:List (Key×V)} (e:H a=some (.dK kvs)):TyOf K H (.ref a) (.type "dict")
 |dT {a:Addr} {kvs:List (List Key×V)} (e:H a=some (.dT kvs)):TyOf K H (.ref a) (.type "dict")
 |ins {a C dx:Addr} {fs:List (Str×V)} (e:H a=some (.ins C dx fs)) (cl:Cls K C) (ha:PySem.W.findIn K (.ref C) "__class__" = some (some (.builtin "object.__class__")))
   (hn:PySem.W.specialIn K (.builtin "object.__class__") "__get__" = some (some (.builtin "getset_descriptor.__get__"))) (htk:PySem.W.takesIn K (.builtin "object.__class__")=some true)
   (hm:PySem.W.mroIn K C (.type "object")=some true):TyOf K H (.ref a) (.ref C)
theorem Lu {x:V}{u t:Value}(I:Inv X pins σ H s)(rx:ZL x u)(ty:TyOf X.K H x t)(e:W0c X.K t c=some b)(h:∀tk,Q (.bool b) { s with toks:=tk }) :
  wpAny (model X.prog X.w) A (call (.builtin "isinstance") [u,c]) Q E s:=by
 cases ty with
 |non=>cases (show u=Value.none from rx);exact VU PySem.W.kitx_none I.kIn True.intro e (λz=>nomatch z) h
 |bl y=>cases (show u=Value.bool y from rx);exact VU PySem.W.kitx_bool I.kIn True.intro e (λz=>nomatch z) h
 |int i=>obtain⟨t,q⟩:=(show ∃t,u=Value.int i t from rx);cases q;exact VU PySem.W.kitx_int I.kIn True.intro e (λz=>nomatch z) h
 |str y=>obtain⟨t,q⟩:=(show ∃t,u=Value.str y t from rx);cases q;exact VU PySem.W.kitx_str I.kIn True.intro e (λz=>nomatch z) h
 |flt y=>obtain⟨t,q⟩:=(show ∃t,u=Value.float y t from rx);cases q;exact VU PySem.W.kitx_float I.kIn True.intro e (λz=>nomatch z) h
 | @lst a xs ea=>
  cases (show u=Value.ref a from rx)
  obtain⟨_,_,n,_,h1⟩:=(show ZI X.prog X.w H s.heap a (.lst xs) from I.hok a _ ea)
  exact VU W2r I.kIn ⟨_,h1,rfl⟩ e (λz=>nomatch z) h
 | @frz a ob xs ea=>
  cases (show u=Value.ref a from rx)
  obtain⟨_,_,_,n,_,h1⟩:=(show ZI X.prog X.w H s.heap a (.frz ob (.lst xs)) from I.hok a _ ea)
  exact VU W2r I.kIn ⟨_,h1,rfl⟩ e (λz=>nomatch z) h
 | @tup a xs ea=>
  cases (show u=Value.ref a from rx)
  obtain⟨_,_,_,p⟩:=(show ZI X.prog X.w H s.heap a (.tup xs) from I.hok a _ ea)
  obtain⟨⟨o,h1,h2,_⟩,_⟩:=p
  exact VU PySem.W.kitx_tuple I.kIn ⟨o,h1,h2⟩ e (λz=>nomatch z) h
 | @dK a kvs ea=>
  cases (show u=Value.ref a from rx)
  obtain⟨_,_,vs,_,p⟩:=(show ZI X.prog X.w H s.heap a (.dK kvs) from I.hok a _ ea)
  obtain⟨o,es,ep,h1,h2,_⟩:=p
  exact VU W2s I.kIn ⟨o,h1,h2.1⟩ e (λz=>nomatch z) h
 | @dT a kvs ea=>
  cases (show u=Value.ref a from rx)
  obtain⟨_,_,xs,_,o,es,ep,h1,h2,_⟩:=(show ZI X.prog X.w H s.heap a (.dT kvs) from I.hok a _ ea)
  exact VU W2s I.kIn ⟨o,h1,h2.1⟩ e (λz=>nomatch z) h
 | @ins a C dx fs ea cl ha hn htk hm=>
  cases (show u=Value.ref a from rx)
  obtain⟨mA,O,_⟩:=IE I.hok ea
  obtain⟨od,J,_⟩:=O.look
  exact VU (PySem.W.kitx_own (cl.get _) cl.hd ha hn htk hm) I.kIn J e (λz=>nomatch z) h
end
end L2
namespace L2
open PySem PySem.Spec PyProof.Rows
structure Room (k:Nat) (A:Around):Prop where
 hd:A.handled=none
 dp:A.depth+3*k+5<recursionLimit
 un:A.units+16*k+200<cLine
theorem Room.mono {j k:Nat}{A:Around}(r:Room k A)(h:j≤k):Room j A:=⟨r.hd,by have:=r.dp;omega,by have:=r.un;omega⟩
theorem Room.deeper {k:Nat}{A:Around}(r:Room (k+1) A)(env:Env):Room k (A.deeper env):=
 ⟨r.hd,by have:=r.dp;show A.depth+1+3*k+5<_;omega,by have:=r.un;show A.units+3+16*k+200<_;omega⟩
theorem Room.depth {k:Nat}{A:Around}(r:Room k A):A.depth<recursionLimit:=by have:=r.dp;omega
def Dy:TA:=λ_ H Q=>Q [] H
def Km (ta:TE)(tr:TA):TA:=λσ H Q=>ta σ H λx H1=>tr σ H1 λxs H2=>Q (x :: xs) H2
section
variable {X:Cx} {e:Expr} {es:List Expr} {te:TE} {t:TA} {pos:Pos}
theorem Ym:PA X [] Dy:=λ_ _ _ _ H Q I h=>W1I ⟨[],H,I,.nil,h⟩
theorem ZE (ha:PE X e te)(hr:PA X es t)(hs:Wy (e :: es) X.env=(false,eval e X.env) :: Wy es X.env:=by rfl):PA X (e :: es) (Km te t):=by
 intro pos pins s σ H Q I h
 rw [hs]
 show wpAny _ _ (spliced ((false,eval e X.env) :: backTo pos (Wy es X.env))) _ _ s
 refine W0Q (thn (ha pins s σ H _ I h) λu s1 ⟨x,H1,I1,r1,q1⟩=>?_)
 exact thn (hr pos pins s1 σ H1 _ I1 q1) λus s2 ⟨xs,H2,I2,r2,q2⟩=>⟨x :: xs,H2,I2,.cons r1 r2,q2⟩
def Z3C (t:TA):TE:=λσ H Q=>t σ H λxs H1=>xs.length≤Wk/\∀p,H1 p=none->Q (.ref p) (upd H1 p (.tup xs))
def Z3G (t:TA):TE:=λσ H Q=>t σ H λxs H1=>xs.length≤Wk/\∀p,H1 p=none->Q (.ref p) (upd H1 p (.lst xs))
theorem Ei {x1}(h:PA X es t):PE X (.Tuple es x1 pos) (Z3C t):=by
 intro pins s σ H Q I hq
 refine wpAny_Tuple_spliced (thn (h pos pins s σ H _ I hq) λus s1 ⟨xs,H1,I1,r,z,q⟩=>⟨by rw [←r.length];exact z,?_⟩)
 have hf:H1 s1.heap.objs.size=none:=I1.hok.fresh (Wp _)
 refine⟨.ref s1.heap.objs.size,upd H1 s1.heap.objs.size (.tup xs),I1.laid (t':=s1.toks) (λb u e=>Wj _ e) (Wp _) ?_,rfl,q _ hf⟩
 exact⟨z,us,r,AT.new _ _⟩
theorem O9 (h:PA X es t):PE X (.List es pos) (Z3G t):=by
 intro pins s σ H Q I hq
 refine wpAny_List_spliced (thn (h pos pins s σ H _ I hq) λus s1 ⟨xs,H1,I1,r,z,q⟩=>⟨by rw [←r.length];exact z,?_⟩)
 have hf:H1 s1.heap.objs.size=none:=I1.hok.fresh (Wp _)
 refine⟨.ref s1.heap.objs.size,upd H1 s1.heap.objs.size (.lst xs),I1.laid (t':=s1.toks) (λb u e=>Wj _ e) (Wp _) ?_,rfl,q _ hf⟩
 exact⟨z,us,0,r,Wv _ rfl⟩
end
abbrev Sp:=List V->Hp->VK->XK->Prop
abbrev CXT:=List Env->Hp->Shared->XK->Value->Shared->Prop
structure Env0 (P:Program) (w:World) (K:Wd) (mg:Str->Option Value) (base:Heap) (A:Around) (outer:List Env) (s:Shared) (H:Hp):Prop where
 frames:A.frames=some outer
 mod:Mod K mg base
 bs:∀b o,base.get? b=some o->s.heap.get? b=some o/\H b=none
 bsz:base.objs.size≤s.heap.objs.size
 funs:s.heap.FunFrames base outer
 frf:∀b∈frs outer,H b=none
 hok:HOk P w H s.heap
 bare:AllBare s.gens
def CE (outer:List Env)(P:Program)(w:World)(H:Hp)(s:Shared)(Q:VK)(u:Value)(s':Shared):Prop:=
 ∃v H',s'.os=s.os/\AllBare s'.gens/\Un (frs outer) [] H H' s.heap s'.heap/\HOk P w H' s'.heap/\ZL v u/\Q v H'
def CR (CX:CXT)(outer:List Env)(P:Program)(w:World)(H:Hp)(s:Shared)(Q:VK)(E:XK)(r:Result)(s':Shared):Prop:=
 match r with
 | .ok (.ret u)=>CE outer P w H s Q u s'
 | .ok _=>False
 | .error e=>CX outer H s E e s'
structure FnOk (P:Program) (w:World) (K:Wd) (mg:Str->Option Value) (base:Heap) (CX:CXT) (k:Nat) (f:Addr) (fd:FuncData) (ps:List Str) (sp:Sp):Prop where
 len:∀vs H Q E,sp vs H Q E->vs.length=ps.length
 run:∀(A:Around) (outer:List Env) (s:Shared) (H:Hp) (args:Args) (us:List Value) (vs:List V) (Q:VK) (E:XK),Room k A->Env0 P w K mg base A outer s H->BindsTo s fd args (ps.zip us)->Y1 vs us->sp vs H Q E->
  codeAny (model P w) A (.call (.ref f) args) (CR CX outer P w H s Q E) s
section
variable {X:Cx} {pins:List (Addr×Obj)} {σ:St} {H:Hp} {s s':Shared}
theorem Inv.env0 (I:Inv X pins σ H s):Env0 X.prog X.w X.K X.mg X.base X.A X.stack s H:=
 ⟨I.ok.frames,I.ok.mod,I.bs,WY I.ok.bsz I.sz,I.stack,I.stkFree,I.hok,I.bare⟩
theorem Inv.after {Q:VK}{u:Value}(I:Inv X pins σ H s)(h:CE X.stack X.prog X.w H s Q u s'):EP X pins σ Q u s':=by
 obtain⟨v,H',os,bare,un,hok,r,q⟩:=h
 obtain⟨hh,g,d,t,os'⟩:=s'
 obtain rfl:os'=s.os:=os
 exact⟨v,H',I.call (h':=hh) (g':=g) (d':=d) (t':=t) (ch:=[]) un hok bare (λb z=>absurd z (by simp)),r,q⟩
end
def Z10 (sp:Sp)(dvs:List V)(E:XK)(t:TA):TE:=λσ H Q=>t σ H λvs H1=>sp (vs++dvs) H1 Q E
def Me (K:Wd)(fd:FuncData)(ps:List Str)(ds:List Value):Prop:=
 ∀(s:Shared) (us:List Value),K.In s.heap->(us++ds).length=ps.length->BindsTo s fd ⟨us,[]⟩ (ps.zip (us++ds))
theorem Me.all {K:Wd}{fd:FuncData}{ps:List Str}(h:∀us:List Value,us.length=ps.length->bindArgs fd ⟨us,[]⟩=pure (ps.zip us)):Me K fd ps []:=λs us _ hl=>by
 rw [W02] at hl ⊢
 exact .of_eq (h us hl)
def Fg (CX:CXT)(X:Cx)(E:XK):Prop:=∀(pins:List (Addr×Obj)) (σ:St) (H:Hp) (s:Shared) (e:Value) (s':Shared),Inv X pins σ H s->CX X.stack H s E e s'->X.xe e s'
section
variable {X:Cx} {CX:CXT} {k:Nat} {f C:Addr} {fd:FuncData} {ps:List Str} {sp:Sp} {dvs:List V} {ds:List Value} {E:XK} {x m:Str} {p pos apos:Pos} {e o:Expr} {es:List Expr} {ta:TE} {t:TA}
theorem DI {pins:List (Addr×Obj)}{σ:St}{H:Hp}{s:Shared}{Q:VK}{us:List Value}{vs:List V}(F:FnOk X.prog X.w X.K X.mg X.base CX k f fd ps sp)(hr:Room k X.A)(hb:Me X.K fd ps ds)(hd:Y1 dvs ds)(hx:Fg CX X E)
  (I:Inv X pins σ H s) (r:Y1 vs us) (h:sp (vs++dvs) H Q E):wpAny (model X.prog X.w) X.A (call (.ref f) us) (EP X pins σ Q) X.xe s:=by
 have r2:Y1 (vs++dvs) (us++ds):=r.append hd
 have hl:(us++ds).length=ps.length:=by rw [←r2.length];exact F.len _ _ _ _ h
 refine wpAny_call (W2j (F.run X.A X.stack s H ⟨us,[]⟩ (us++ds) (vs++dvs) Q E hr I.env0 (hb s us I.kIn hl) r2 h) λr s' hq=>?_)
 cases r with
 |error e=>exact hx pins σ H s e s' I hq
 |ok fl=>
  cases fl with
  |ret u=>exact I.after hq
  |next=>exact False.elim hq
  |brk=>exact False.elim hq
  |cont=>exact False.elim hq
theorem Sw (F:FnOk X.prog X.w X.K X.mg X.base CX k f fd ps sp)(hr:Room k X.A)(hg:Gl X x)(hm:X.mg x=some (.ref f))(hk:WF X.K (.ref f)=true)(hb:Me X.K fd ps ds)(hd:Y1 dvs ds)(hx:Fg CX X E)
  (ha:PA X (e :: es) t) (hdb:(x == ("__debug__" : Str))=false:=by decide) (he:Wy (e :: es) X.env=(false,eval e X.env) :: Wy es X.env:=by rfl) (hpl:(backTo pos (Wy es X.env)).any (·.1)=false:=by rfl) :
  PE X (.Call (.Name x p) (e :: es) [] pos) (Z10 sp dvs E t):=by
 intro pins s σ H Q I h
 refine W03 (PM I hg hm ?_ hdb)
 refine PySem.W.callWith_K (h₀:=X.base) I.ok.mod.kin hk (thn (ha pos pins s σ H _ I h) λus s1 ⟨vs,H1,I1,r,q⟩=>⟨I1.kIn,?_⟩) he hpl
 exact DI F hr hb hd hx I1 r q
structure Mk (K:Wd) (C f:Addr):Prop where
 makes:PySem.W.makesIn K C=true
 init:PySem.W.findIn K (.ref C) "__init__" = some (some (.ref f))
 fn:PySem.W.isFn K (.ref f)=true
 kp:WF K (.ref C)=true
end
def PK (X:Cx)(kws:List Keyword)(t:TA):Prop:=
 ∀(pos:Pos) (pins:List (Addr×Obj)) (s:Shared) (σ:St) (H:Hp) (Q:List V->Hp->Prop),Inv X pins σ H s->t σ H Q->wpAny (model X.prog X.w) X.A (evalAll ((backToKw pos (keywordEach kws X.env)).map (·.2))) (AP X pins σ Q) X.xe s
section
variable {X:Cx} {CX:CXT} {k:Nat} {f C:Addr} {fd:FuncData} {ps ks:List Str} {sp:Sp} {E:XK} {x m:Str} {p pos apos kpos:Pos} {e o:Expr} {es:List Expr} {kws:List Keyword} {te ta:TE} {t tk:TA} {nm:Option Str}
theorem DY:PK X [] Dy:=λ_ _ _ _ H Q I h=>wpAny_evalAll_nil ⟨[],H,I,.nil,h⟩
theorem Sm (ha:PE X e te)(hr:PK X kws t):PK X (⟨nm,e,kpos⟩ :: kws) (Km te t):=by
 intro pos pins s σ H Q I h
 show wpAny _ _ (evalAll ((do let v ←eval e X.env;standAt pos;pure v) :: (backToKw pos (keywordEach kws X.env)).map (·.2))) _ _ s
 refine wpAny_evalAll_cons (W0 (thn (ha pins s σ H _ I h) λu s1 ⟨x,H1,I1,r1,q1⟩=>W0 (wpAny_standAt (W6 ?_))))
 exact thn (hr pos pins s1 σ H1 _ I1 q1) λus s2 ⟨xs,H2,I2,r2,q2⟩=>⟨x :: xs,H2,I2,.cons r1 r2,q2⟩
variable {g:List Value->List Value->List Value} {gV:List V->List V->List V}
end
structure FnScope (N P:List Str) (sc:Scope):Prop where
 kind:sc.kind = .function
 co:sc.isCoroutine=false
 gen:sc.isGenerator=false
 nd:N.Nodup
 pre:N.take P.length=P
 par:∀x∈P,sc.names.lookup x=some .local\/sc.names.lookup x=some .cell
 nofree:∀y∈sc.names,y.2≠.free
theorem Ni {kindOf:Str->Option NameKind}{x:Str}:∀{binds:List (Str×Value)} {m:Str->Option Value},(∀v,(x,v)∉binds)->bindL kindOf binds m x=m x
 |[],_,_=>rfl
 | (n,v) :: r,m,h=>by
  unfold bindL
  rw [Ni λw hw=>h w (Wz _ hw)]
  split
  ·have:x≠n:=by rintro rfl;exact h v Ws
   simp [this]
  ·rfl
theorem Nk {kindOf:Str->Option NameKind}{x:Str}:∀{binds:List (Str×Value)} {m:Str->Option Value},(∀v,(x,v)∉binds)->bindC kindOf binds m x=m x
 |[],_,_=>rfl
 | (n,v) :: r,m,h=>by
  unfold bindC
  rw [Nk λw hw=>h w (Wz _ hw)]
  split
  ·rfl
  ·have:x≠n:=by rintro rfl;exact h v Ws
   simp [this]
theorem Nj {kindOf:Str->Option NameKind}{x:Str}{v:Value}:∀{P:List Str} {vs:List Value} {i:Nat} {m:Str->Option Value},P.Nodup->P[i]? = some x->vs[i]? = some v->kindOf x=some .local->
  bindL kindOf (P.zip vs) m x=some v
 |[],_,_,_,_,h,_,_=>by simp at h
 |_ :: _,[],_,_,_,_,h,_=>by simp at h
 |p :: P,w :: vs,0,m,nd,h1,h2,hk=>by
  simp at h1 h2;subst h1;subst h2
  show bindL kindOf ((p,w) :: P.zip vs) m p=_
  unfold bindL
  rw [Ni λv hv=>(W04.mp nd).1 (W1s hv).1,if_pos hk]
  simp
 |p :: P,w :: vs,i+1,m,nd,h1,h2,hk=>by
  show bindL kindOf ((p,w) :: P.zip vs) m x=_
  unfold bindL
  exact Nj (i:=i) (W04.mp nd).2 (by simpa using h1) (by simpa using h2) hk
theorem Nl {kindOf:Str->Option NameKind}{x:Str}{v:Value}:∀{P:List Str} {vs:List Value} {i:Nat} {m:Str->Option Value},P.Nodup->P[i]? = some x->vs[i]? = some v->kindOf x≠some .local->
  bindC kindOf (P.zip vs) m x=some v
 |[],_,_,_,_,h,_,_=>by simp at h
 |_ :: _,[],_,_,_,_,h,_=>by simp at h
 |p :: P,w :: vs,0,m,nd,h1,h2,hk=>by
  simp at h1 h2;subst h1;subst h2
  show bindC kindOf ((p,w) :: P.zip vs) m p=_
  unfold bindC
  rw [Nk λv hv=>(W04.mp nd).1 (W1s hv).1,if_neg hk]
  simp
 |p :: P,w :: vs,i+1,m,nd,h1,h2,hk=>by
  show bindC kindOf ((p,w) :: P.zip vs) m x=_
  unfold bindC
  exact Nl (i:=i) (W04.mp nd).2 (by simpa using h1) (by simpa using h2) hk
def start (N:List Str)(vs:List V):St:=vs.map some++W0D (N.length-vs.length) none
def IR (CX:CXT)(P:Program)(w:World)(K:Wd)(mg:Str->Option Value)(base:Heap)(N:List Str)(qual:Str)(scope:Scope)(f:Addr)(cd:Value)(A:Around)(outer:List Env)(s:Shared)(H:Hp)(E:XK):Cx where
 prog:=P
 w:=w
 K:=K
 mg:=mg
 base:=base
 A:=A.deeper (envOfC qual scope s.heap.objs.size f cd)
 N:=N
 s₀:=s
 H₀:=H
 env:=envOfC qual scope s.heap.objs.size f cd
 outer:=outer
 stack:=envOfC qual scope s.heap.objs.size f cd :: outer
 ex:=[]
 calm:=true
 fn:=λ_=>true
 pn:=[]
 xe:=λe s'=>wpAny (model P w) (A.deeper (envOfC qual scope s.heap.objs.size f cd)) (leaving (envOfC qual scope s.heap.objs.size f cd) e) (λ_ s''=>CX outer H s E e s'') (λe' s''=>CX outer H s E e' s'') s'
theorem Kc {sc:Scope}{n:Nat}{x:Str}(h:sc.names.lookup x=some .cell):∃c,(cellsFrom n sc.names []).lookup x=some c:=by
 have q:=PySem.W.cellsFrom_some sc.names n [] (.inl h)
 exact Vw.mp q
theorem LA {CX:CXT}{P:Program}{w:World}{K:Wd}{mg:Str->Option Value}{base:Heap}{N ps:List Str}{qual:Str}{scope:Scope}{f:Addr}{cd:Value}{A:Around}{outer:List Env}{s s1:Shared}{H:Hp}{E:XK}{us:List Value}{vs:List V}
  (S:FnScope N ps scope) (hd:A.handled=none) (e0:Env0 P w K mg base A outer s H) (hl:vs.length=ps.length) (r:Y1 vs us)
  (x:InCallC s s.heap.objs.size (bindL (envOfC qual scope s.heap.objs.size f cd).kindOf (ps.zip us) λ_=>none) (cellsFrom (s.heap.objs.size+1) scope.names []) (bindC (envOfC qual scope s.heap.objs.size f cd).kindOf (ps.zip us) λ_=>none) s1) :
  Inv (IR CX P w K mg base N qual scope f cd A outer s H E) [] (start N vs) H s1:=by
 have hpl:ps.length≤N.length:=by have:=congrArg Ve S.pre;rw [W0j] at this;omega
 obtain⟨h1,tk,rfl,hk⟩:=x.done
 have noA:∀b:Addr,b∉(IR CX P w K mg base N qual scope f cd A outer s H E).ex:=λb z=>absurd (show b∈([]:List Addr) from z) (by simp)
 refine⟨⟨e0.mod,S.kind,rfl,rfl,Wp _,λy z c h1 h2=>?_,λy hy=>?_,λy c _ h=>?_,λ_=>hd,Around.frames_deeper e0.frames,.inr ⟨rfl,rfl⟩,λb z=>absurd z (noA b),e0.bs,e0.bsz,λb _ _=>noA b,λb z=>absurd z (noA b),e0.funs,e0.frf⟩,
  rfl,e0.bare,Un.kept hk,⟨_,x.toInCall.ns,λi y v h1 h2 h3=>?_⟩,λy c h=>⟨_,x.cell y c h⟩,e0.hok.fresh (Wp _),λy c h=>?_,λp hp=>absurd (show p∈([]:List (Addr×Obj)) from hp) (by simp),e0.hok.kept hk,?_⟩
 ·exact name_of_addr x.apart (W0b h1) (W0b h2)
 ·have hy:scope.names.lookup y=some .cell\/scope.names.lookup y=some .free:=hy
  rcases hy with hy|hy
  ·exact Kc hy
  ·exact absurd rfl (S.nofree _ (W0b hy))
 ·exact W2i (x.above y c (W0b h))
 ·have hi:i<vs.length:=by
   unfold start at h2
   by_cases hi:i<vs.length
   ·exact hi
   ·rw [WV (by simpa using hi)] at h2
    rw [W0n] at h2
    split at h2<;>cases h2
  have ha:vs[i]? = some v:=by
   unfold start at h2
   rw [V2 (by simpa using hi),WG] at h2
   cases e:vs[i]? with
   |none=>rw [e] at h2;cases h2
   |some a=>rw [e] at h2;cases h2;rfl
  obtain⟨u,hu,rv⟩:=r.get ha
  have hp:ps[i]? = some y:=by
   rw [←S.pre,VI (by omega)];exact h1
  have ndP:ps.Nodup:=by rw [←S.pre];exact S.nd.sublist (List.take_sublist _ _)
  refine⟨u,rv,?_⟩
  rcases S.par y (V4 hp) with k|k
  ·exact .inl ⟨k,Nj ndP hp hu k⟩
  ·obtain⟨c,e⟩:=Kc (n:=s.heap.objs.size+1) k
   refine .inr ⟨.inl k,c,e,?_⟩
   have q:=x.cell y c e
   rw [Nl ndP hp hu (by show scope.names.lookup y≠_;rw [k];decide)] at q
   exact q
 ·exact e0.hok.fresh (W2i (x.above y c (W0b h)))
 ·unfold start
  show _=N.length
  rw [WN,We,W0B]
  omega
theorem Z2k {CX:CXT}{P:Program}{w:World}{K:Wd}{mg:Str->Option Value}{base:Heap}{k:Nat}{f:Addr}{name qual:Str}{params:Arguments}{body:List Stmt}{scope:Scope}{dV kV doc pm cdv ct oc:Value}{an od:Option Addr}
  {osl:Array (Option Value)} {N ps:List Str} {sp:Sp} (lk:K.lookup f=some ⟨oc,od,.func (WO name qual params body scope dV kV doc pm an cdv ct),osl⟩) (hcd:WI K cdv qual=true) (S:FnScope N ps scope)
  (len:∀vs H Q E,sp vs H Q E->vs.length=ps.length)
  (hbody:∀(A:Around) (outer:List Env) (s:Shared) (H:Hp) (vs:List V) (Q:VK) (E:XK),Room k (A.deeper (envOfC qual scope s.heap.objs.size f cdv))->sp vs H Q E->
   ∃t,PSs (IR CX P w K mg base N qual scope f cdv A outer s H E) body t/\t { nx:=λ_ H'=>Q .non H',rt:=Q } (start N vs) H) :
  FnOk P w K mg base CX (k+1) f (WO name qual params body scope dV kV doc pm an cdv ct) ps sp:=by
 refine⟨len,λA outer s H args us vs Q E hr e0 hb r hsp=>?_⟩
 have hl:=len _ _ _ _ hsp
 have KX:K.In s.heap:=e0.mod.kin.keeps λb o e=>(e0.bs b o e).1
 have lim:s.heap.NoLimit:=e0.mod.nolimit.keeps λb o e=>(e0.bs b o e).1
 have hkind:∀y∈ps.zip us,scope.names.lookup y.1=some .local\/(scope.names.lookup y.1=some .cell/\((cellsFrom (s.heap.objs.size+1) scope.names []).lookup y.1).isSome=true):=λ⟨n,v⟩ hy=>by
  rcases S.par n (W1s hy).1 with q|q
  ·exact .inl q
  ·exact .inr ⟨q,PySem.W.cellsFrom_some _ _ _ (.inl q)⟩
 refine codeAny_call_function hr.depth (KX _ _ lk) rfl S.co S.gen rfl (PySem.W.codeRec_of KX hcd) (hb _ _ _ _ ?_)
 refine wpAny_newFunctionEnv_cells S.kind hkind λenv he s1 x=>?_
 subst he
 refine⟨lim.keeps x.toInCall.keep,codeAny_func ?_⟩
 obtain⟨t,ht,hq⟩:=hbody A outer s H vs Q E (hr.deeper _) hsp
 have I:Inv (IR CX P w K mg base N qual scope f cdv A outer s H E) [] (start N vs) H s1:=LA S hr.hd e0 hl r x
 refine W0i (ht [] s1 (start N vs) H _ I hq) (λfl s' hs=>?_) λe s' hs=>hs
 have fin:∀{σ':St} {H':Hp} {v:V} {u:Value},Inv (IR CX P w K mg base N qual scope f cdv A outer s H E) [] σ' H' s'->ZL v u->Q v H'->CE outer P w H s Q u s':=
  λ{σ' H' v u} J rv q=>⟨v,H',J.os,J.bare,J.base,J.hok,rv,q⟩
 cases fl with
 |ret u=>
  obtain⟨v,σ',H',J,rv,q⟩:=hs
  exact fin J rv q
 |next=>
  obtain⟨σ',H',J,q⟩:=hs
  exact fin (v:=V.non) (u:=Value.none) J rfl q
 |brk=>
  obtain⟨_,_,_,q⟩:=hs
  exact False.elim q
 |cont=>
  obtain⟨_,_,_,q⟩:=hs
  exact False.elim q
end L2
namespace L2
open PySem PySem.Spec PyProof.Rows
section
variable {X:Cx} {x:Str} {p pos:Pos} {e:Expr} {es:List Expr} {t:TA} {id T:String} {r:List V->Hp->VK->Prop}
def tCB (r:List V->Hp->VK->Prop)(t:TA):TE:=λσ H Q=>t σ H λvs H1=>r vs H1 Q
theorem QP (hc:QL X (.builtin id) r)(hg:Gl X x)(hm:X.mg x=none)(hv:WH x=some (.builtin id))(ha:PA X (e :: es) t)(hn:x≠"__name__":=by decide)(hdb:(x == ("__debug__" : Str))=false:=by decide)
  (he:Wy (e :: es) X.env=(false,eval e X.env) :: Wy es X.env:=by rfl) (hpl:(backTo pos (Wy es X.env)).any (·.1)=false:=by rfl):PE X (.Call (.Name x p) (e :: es) [] pos) (tCB r t):=by
 intro pins s σ H Q I h
 refine W03 (U9 I hg hm hv ?_ hn hdb)
 exact W0K (thn (ha pos pins s σ H _ I h) λus s1 ⟨vs,H1,I1,r1,q1⟩=>hc pins s1 σ H1 vs us Q I1 r1 q1) he hpl
theorem Jg (hc:QL X (.type T) r)(hg:Gl X x)(hm:X.mg x=none)(hv:WH x=some (.type T))(ha:PA X (e :: es) t)(hn:x≠"__name__":=by decide)(hdb:(x == ("__debug__" : Str))=false:=by decide)
  (he:Wy (e :: es) X.env=(false,eval e X.env) :: Wy es X.env:=by rfl) (hpl:(backTo pos (Wy es X.env)).any (·.1)=false:=by rfl):PE X (.Call (.Name x p) (e :: es) [] pos) (tCB r t):=by
 intro pins s σ H Q I h
 refine W03 (U9 I hg hm hv ?_ hn hdb)
 exact W0u (thn (ha pos pins s σ H _ I h) λus s1 ⟨vs,H1,I1,r1,q1⟩=>hc pins s1 σ H1 vs us Q I1 r1 q1) he hpl
end
end L2
namespace HT
open PySem PyProof.Rows
section
open PySem.SeqAt
open PySem.AutoSeq1 (wpAny_loadPart')
open PySem.MeetsSeq PySem.MeetsSeq2 PySem.MeetsSeq3
end
section
variable {prog:Program} {w:World} {A:Around} {E:Value->Shared->Prop} {s:Shared}
theorem cat_tup {t b:Addr}{vs ws:List Value}{Q:Value->Shared->Prop}(ht:IsTup s.heap t vs.toArray)(hb:IsTup s.heap b ws.toArray)(hv:vs≠[])
  (h1:ws=[]->Q (.ref t) s) (h2:ws≠[]->Q (.ref s.heap.objs.size) { s with heap:=s.heap.push { cls:=.type "tuple",data:=.seq (vs++ws).toArray } })
  (hsz:vs.length+ws.length≤Wk):wpAny (model prog w) A (binaryOp .Add (.ref t) (.ref b)) Q E s:=by
 obtain⟨⟨cls,dd,data,sl⟩,ho,hc,n,hd⟩:=id ht
 obtain⟨⟨cls2,dd2,data2,sl2⟩,ho2,hc2,n2,hd2⟩:=id hb
 simp only at hc hd hc2 hd2
 subst hc hd hc2 hd2
 have e:vs.toArray++ws.toArray=(vs++ws).toArray:=by simp
 by_cases hw:ws=[]
 ·exact concat_meets ⟨_,ho,rfl⟩ ⟨_,ho2,rfl⟩ noFill_tuple_add seq_tuple_add W1D W1t (W1l _ _)
   (tuple_addW1 t b vs.toArray ws.toArray n n2 dd dd2 sl sl2 (by simpa using hv) (by simp [hw])) ⟨ho,ho2,h1 hw⟩
 ·refine concat_meets ⟨_,ho,rfl⟩ ⟨_,ho2,rfl⟩ noFill_tuple_add seq_tuple_add W1D W1t (W1l _ _)
   (tuple_addW2 t b vs.toArray ws.toArray n n2 dd dd2 sl sl2 (by simpa using hv) (by simpa using hw) (by rw [Wn,Wn];exact hsz)) ⟨ho,ho2,?_⟩
  rw [e]
  exact h2 hw
def sIx (n d:Nat):Option Int->Nat
 |none=>d
 |some v=>if v<0 then (v+(n:Int)).toNat else min v.toNat n
theorem sIx_none (n d:Nat):sIx n d none=d:=rfl
theorem sIx_nat (n d k:Nat):sIx n d (some (k:Int))=min k n:=by
 show (if (k:Int)<0 then ((k:Int)+(n:Int)).toNat else min (k:Int).toNat n)=min k n
 rw [if_neg (by omega),Vx]
theorem DH (n d:Nat)(hd:d≤n)(o:Option Int):sIx n d o≤n:=by
 cases o with
 |none=>exact hd
 |some v=>
  show (if v<0 then (v+(n:Int)).toNat else min v.toNat n)≤n
  by_cases hv:v<0
  ·rw [if_pos hv];omega
  ·rw [if_neg hv];exact Nat.min_le_right _ _
theorem LT (v:Int)(n d:Nat):(if v<0 then max (v+(n:Int)) 0 else min v (n:Int))=((sIx n d (some v):Nat):Int):=by
 show (if v<0 then max (v+(n:Int)) 0 else min v (n:Int))=(((if v<0 then (v+(n:Int)).toNat else min v.toNat n):Nat):Int)
 by_cases hv:v<0
 ·simp only [if_pos hv];omega
 ·simp only [if_neg hv];omega
theorem R8 (lo hi:Option Int)(n:Nat):W14 lo hi 1 (n:Int)=(((sIx n 0 lo:Nat):Int),((sIx n n hi:Nat):Int)):=by
 have h1:¬((1:Int)<0):=by omega
 unfold W14
 simp only [h1,if_false]
 refine Prod.ext ?_ ?_
 ·cases lo with
  |none=>rfl
  |some v=>exact LT v n 0
 ·cases hi with
  |none=>rfl
  |some v=>exact LT v n n
theorem Kq (i j:Nat):W0E (i:Int) (j:Int) 1=j-i:=by
 unfold W0E
 have h1:(1:Int)>0:=by omega
 simp only [h1,if_true,Int.ediv_one]
 split<;>omega
theorem Ga {v:Value}{o:Option Int}{Q:Option Int->Shared->Prop}(p:IsPart v o)(h:Q o s):wpAny (model prog w) A (Builtin.Slice.slicePartIndex v) Q E s:=by
 cases p with
 |none=>exact slicePart_none h
 |int i t=>exact slicePart_int h
theorem J5 {sl:Addr}{vl vu:Value}{lo hi:Option Int}{n:Nat}{Q:Int×Int×Nat->Shared->Prop}(hs:s.heap.IsSliceOf sl vl vu .none)(pl:IsPart vl lo)(pu:IsPart vu hi)
  (h:Q (((sIx n 0 lo:Nat):Int),1,sIx n n hi-sIx n 0 lo) s):wpAny (model prog w) A (W2g (.ref sl) (pure (n:Int))) Q E s:=by
 obtain⟨os,hos,hcs,hds⟩:=id hs
 unfold W2g Builtin.Slice.sliceFields
 refine W0 (W0 (W05 hos hds (x:=vl) rfl (W0 (W05 hos hds (x:=vu) rfl (W0 (W05 hos hds (x:=.none) rfl (W6 ?_)))))))
 refine W0 (slicePart_none ?_)
 show wpAny _ _ (if ((1:Int) == 0)=true then _ else _) _ _ s
 rw [if_neg (by decide)]
 refine W0 (Ga pl (W0 (Ga pu (W0 (W6 ?_)))))
 show wpAny _ _ (match W14 lo hi 1 (n:Int) with|(lo,hi)=>pure (lo,(1:Int),W0E lo hi 1)) _ _ s
 rw [R8 lo hi n]
 show wpAny _ _ (pure (((sIx n 0 lo:Nat):Int),(1:Int),W0E ((sIx n 0 lo:Nat):Int) ((sIx n n hi:Nat):Int) 1)) _ _ s
 rw [Kq]
 exact W6 h
theorem A0 (xs:Array Value)(i k:Nat):((W7 k).filterMap λ(m:Nat)=>xs[((i:Int)+(m:Int)*1).toNat]?).toArray=((xs.toList.drop i).take k).toArray:=by
 have e:(λ(m:Nat)=>xs[((i:Int)+(m:Int)*1).toNat]?)=λm=>xs[i+m]?:=by
  funext m
  have:((i:Int)+(m:Int)*1).toNat=i+m:=by omega
  rw [this]
 rw [e]
 have:=pick_run xs i k
 rw [List.filterMap_map] at this
 have e2:((λx=>xs[x]?) ∘ λx=>i+x)=λm=>xs[i+m]?:=rfl
 rw [e2] at this
 rw [this]
theorem getItem_tuple_cut {t sl:Addr}{items:Array Value}{vl vu:Value}{lo hi:Option Int}{Q:Value->Shared->Prop}(ht:IsTup s.heap t items)(hs:s.heap.IsSliceOf sl vl vu .none)(pl:IsPart vl lo)(pu:IsPart vu hi)
  (hw:¬(sIx items.size 0 lo=0/\sIx items.size items.size hi=items.size))
  (h:Q (.ref s.heap.objs.size) { s with heap:=s.heap.push { cls:=.type "tuple",data:=.seq ((items.toList.drop (sIx items.size 0 lo)).take (sIx items.size items.size hi-sIx items.size 0 lo)).toArray } })
  (hsz:items.size≤Wk):wpAny (model prog w) A (getItem (.ref t) (.ref sl)) Q E s:=by
 have htake:sizeOk (.seq ((items.toList.drop (sIx items.size 0 lo)).take (sIx items.size items.size hi-sIx items.size 0 lo)).toArray):=by
  show ((items.toList.drop (sIx items.size 0 lo)).take (sIx items.size items.size hi-sIx items.size 0 lo)).toArray.size≤Wk
  rw [Wn,W0j,List.length_drop,WE]
  omega
 have hj:sIx items.size items.size hi≤items.size:=DH _ _ (Wp _) hi
 obtain⟨os,hos,hcs,hds⟩:=id hs
 have hTs:s.TypeIs (.ref sl) "slice":=⟨os,hos,hcs⟩
 unfold getItem
 try with_reducible refine Vq ?_
 first|refine W0 (W6 ?_)|skip
 refine W0 (wpAny_sequenceKey ht.typeIs (by decide) ?_)
 refine W0 (V9 (name:=Wr "__getitem__") ht.typeIs Vy
  (Vj Vy ht.typeIs entry_tuple_getitem ?_ (args_tuple_getitem _ _)))
 show wpAny _ _ (W11 (.ref t) >>= _) _ _ s
 refine W0 (tupleItemsOf_ ht ?_)
 refine W0 (W0T hTs ?_)
 rw [if_pos (by decide)]
 refine W0 (J5 hs pl pu ?_)
 have hno:¬((((sIx items.size 0 lo:Nat):Int) == 0&&(1:Int) == 1&&(sIx items.size items.size hi-sIx items.size 0 lo) == items.size)=true):=by
  intro q
  rw [Wl,Wl] at q
  have q1:((sIx items.size 0 lo:Nat):Int)=0:=eq_of_beq q.1.1
  have q2:sIx items.size items.size hi-sIx items.size 0 lo=items.size:=eq_of_beq q.2
  exact hw ⟨by omega,by omega⟩
 show wpAny _ _ (if (((sIx items.size 0 lo:Nat):Int) == 0&&(1:Int) == 1&&(sIx items.size items.size hi-sIx items.size 0 lo) == items.size)=true then _ else _) _ _ s
 rw [if_neg hno,A0]
 first
  |exact W0 (m:=W0G _) (V8 (W6 ⟨_,rfl,W6 h⟩) htake)
  |exact W0 (m:=W0G _) (V8 (W0 (W6 (W6 ⟨_,rfl,W6 h⟩))) htake)
  |exact W0 (W0 (m:=W0G _) (V8 (W6 (W6 ⟨_,rfl,W6 h⟩)) htake))
  |exact W0 (W0 (m:=W0G _) (V8 (W6 ⟨_,rfl,W6 h⟩) htake))
end
end HT
namespace L2
open PySem PySem.Spec PyProof.Rows
abbrev TO:=St->Hp->(Option Int->Hp->Prop)->Prop
def PO (X:Cx)(e:Option Expr)(t:TO):Prop:=
 ∀(pins:List (Addr×Obj)) (s:Shared) (σ:St) (H:Hp) (Q:Option Int->Hp->Prop),Inv X pins σ H s->t σ H Q->
  wpAny (model X.prog X.w) X.A (evalPart e X.env) (λu s'=>∃o H',Inv X pins σ H' s'/\IsPart u o/\Q o H') X.xe s
def HN:TO:=λ_ H Q=>Q none H
def Z0W (t:TE):TO:=λσ H Q=>t σ H λx H1=>∃i,x = .int i/\Q (some i) H1
section
variable {X:Cx} {e:Expr} {te:TE} {lo hi:Option Expr} {tl th:TO} {pos p2:Pos}
theorem Sl:PO X none HN:=by
 intro pins s σ H Q I h
 rw [evalPart_none]
 exact W6 ⟨none,H,I,.none,h⟩
theorem Sk (h:PE X e te):PO X (some e) (Z0W te):=by
 intro pins s σ H Q I hw
 rw [evalPart_some]
 refine thn (h pins s σ H _ I hw) λu s1 ⟨x,H1,I1,r1,q1⟩=>?_
 obtain⟨i,rfl,q⟩:=q1
 obtain⟨t,rfl⟩:=r1
 exact⟨some i,H1,I1,.int i t,q⟩
def SlR (X:Cx)(r:V->Option Int->Option Int->Hp->VK->Prop):Prop:=
 ∀(pins:List (Addr×Obj)) (s:Shared) (σ:St) (H:Hp) (x:V) (v vl vu:Value) (lo hi:Option Int) (sl:Addr) (Q:VK),Inv X pins σ H s->ZL x v->s.heap.IsSliceOf sl vl vu .none->IsPart vl lo->IsPart vu hi->r x lo hi H Q->
  ∃T id,typeLookup (.type T) "__getitem__" = pure (some (.builtin id))/\s.TypeIs v T/\wpAny (model X.prog X.w) X.A (getItem v (.ref sl)) (EP X pins σ Q) X.xe s
theorem SlR.or {r r':V->Option Int->Option Int->Hp->VK->Prop}(h:SlR X r)(h':SlR X r'):SlR X (λx lo hi H Q=>r x lo hi H Q\/r' x lo hi H Q):=by
 intro pins s σ H x v vl vu lo hi sl Q I rx hs pl pu q
 rcases q with q|q
 ·exact h pins s σ H x v vl vu lo hi sl Q I rx hs pl pu q
 ·exact h' pins s σ H x v vl vu lo hi sl Q I rx hs pl pu q
def tSl (r:V->Option Int->Option Int->Hp->VK->Prop)(te:TE)(tl th:TO):TE:=λσ H Q=>te σ H λx H1=>tl σ H1 λl H2=>th σ H2 λu H3=>r x l u H3 Q
theorem A2 {r:V->Option Int->Option Int->Hp->VK->Prop}(hr:SlR X r)(he:PE X e te)(hl:PO X lo tl)(hu:PO X hi th):PE X (.Subscript e (.Slice lo hi none p2) pos) (tSl r te tl th):=by
 intro pins s σ H Q I h
 refine Subscript_ (thn (he pins s σ H _ I h) λv s1 ⟨x,H1,I1,r1,q1⟩=>?_)
 refine wpAny_Slice (thn (hl pins s1 σ H1 _ I1 q1) λvl s2 ⟨l,H2,I2,pl,q2⟩=>thn (hu pins s2 σ H2 _ I2 q2) λvu s3 ⟨u,H3,I3,pu,q3⟩=>?_)
 rw [evalPart_none]
 refine W6 ?_
 have I4:Inv X pins σ H3 { s3 with heap:=s3.heap.push { cls:=.type "slice",data:=.fields #[vl,vu,.none] } }:=I3.kept (t':=s3.toks) λb ob q=>Wj _ q
 obtain⟨T,id,hT,ht,hg⟩:=hr pins { s3 with heap:=s3.heap.push { cls:=.type "slice",data:=.fields #[vl,vu,.none] } } σ H3 x v vl vu l u s3.heap.objs.size Q I4 r1 (Heap.IsSliceOf.new ..) pl pu q3
 show wpAny (model X.prog X.w) X.A (subscriptTail e (.Slice lo hi none p2) v (.ref s3.heap.objs.size)) (EP X pins σ Q) X.xe { s3 with heap:=s3.heap.push { cls:=.type "slice",data:=.fields #[vl,vu,.none] } }
 exact tail_any (ops:=[.ref s3.heap.objs.size,v]) ht hT hg (by with_unfolding_all rfl)
def Fq (xs:List V)(lo hi:Option Int):List V:=(xs.drop (HT.sIx xs.length 0 lo)).take (HT.sIx xs.length xs.length hi-HT.sIx xs.length 0 lo)
theorem TQ (xs:List V)(lo hi:Option Int):(Fq xs lo hi).length≤xs.length:=by
 unfold Fq
 rw [W0j,List.length_drop]
 omega
def Z3U (K:Wd):V->Option Int->Option Int->Hp->VK->Prop:=λx lo hi H Q=>∃a xs,x = .ref a/\SqT K H a xs/\
 ¬(HT.sIx xs.length 0 lo=0/\HT.sIx xs.length xs.length hi=xs.length)/\∀p,H p=none->Q (.ref p) (upd H p (.tup (Fq xs lo hi)))
theorem DB:SlR X (Z3U X.K):=by
 intro pins s σ H x v vl vu lo hi sl Q I rx hs pl pu h
 obtain⟨a,xs,rfl,hx,hw,q⟩:=h
 cases rx
 obtain⟨its,r,ht,hz⟩:=I.tuple hx
 have hlen:its.toArray.size=xs.length:=by rw [Wn];exact r.length.symm
 refine⟨"tuple",_,Vy.lookup,ht.typeIs,?_⟩
 refine HT.getItem_tuple_cut ht hs pl pu (by rw [hlen];exact hw) ?_ (by rw [hlen];exact hz)
 rw [hlen]
 refine⟨.ref s.heap.objs.size,_,I.laid (t':=s.toks) (o:=.tup (Fq xs lo hi)) (λb ob q=>Wj _ q) (Wp _) ?_,rfl,q _ (I.hok.fresh (Wp _))⟩
 exact⟨WY (TQ xs lo hi) hz,_,(r.drop (HT.sIx xs.length 0 lo)).take (HT.sIx xs.length xs.length hi-HT.sIx xs.length 0 lo),AT.new _ _⟩
def Z1q (K:Wd):R2:=λx y H Q=>∃a b xs ys,x = .ref a/\y = .ref b/\SqT K H a xs/\SqT K H b ys/\xs≠[]/\xs.length+ys.length≤Wk/\
 (ys=[]->Q (.ref a) H)/\(ys≠[]->∀p,H p=none->Q (.ref p) (upd H p (.tup (xs++ys))))
theorem Y1.nil_iff {xs:List V}{us:List Value}(r:Y1 xs us):us=[]↔xs=[]:=by
 cases r with
 |nil=>simp
 |cons _ _=>simp
theorem SH:OpR X (binaryOp .Add) (Z1q X.K):=by
 intro pins s σ H x y v u Q I rx ry h
 obtain⟨a,b,xs,ys,rfl,rfl,ha,hb,hx,hz,q1,q2⟩:=h
 cases rx
 cases ry
 obtain⟨its,r1,p1,_⟩:=I.tuple ha
 obtain⟨its2,r2,p2,_⟩:=I.tuple hb
 refine HT.cat_tup p1 p2 (λz=>hx (r1.nil_iff.mp z)) (λz=>⟨.ref a,H,I,rfl,q1 (r2.nil_iff.mp z)⟩) (λz=>?_) (by rw [←r1.length,←r2.length];exact hz)
 refine⟨.ref s.heap.objs.size,_,I.laid (t':=s.toks) (o:=.tup (xs++ys)) (λb ob q=>Wj _ q) (Wp _) ?_,rfl,q2 (λw=>z (r2.nil_iff.mpr w)) _ (I.hok.fresh (Wp _))⟩
 exact⟨by rw [WN];exact hz,_,r1.append r2,AT.new _ _⟩
end
end L2
namespace L2
open PySem PySem.Spec PyProof.Rows
def ixN (n:Nat)(i:Int):Option Nat:=if 0≤i then (if i<n then some i.toNat else none) else if -(n:Int)≤i then some (i+n).toNat else none
def atI {α:Type}(xs:List α)(i:Int):Option α:=(ixN xs.length i).bind λj=>xs[j]?
theorem Lr {n:Nat}{i:Int}{j:Nat}(h:ixN n i=some j):seqIndex? i n=some j/\j<n/\-(n:Int)≤i/\i<n:=by
 unfold ixN at h
 by_cases h0:0≤i
 ·rw [if_pos h0] at h
  by_cases h1:i<n
  ·rw [if_pos h1] at h
   have e:i.toNat=j:=WT h
   exact⟨by rw [seqIndex_of h0 h1,e],by omega,by omega,h1⟩
  ·rw [if_neg h1] at h;cases h
 ·rw [if_neg h0] at h
  by_cases h1 : -(n:Int)≤i
  ·rw [if_pos h1] at h
   have e:(i+n).toNat=j:=WT h
   exact⟨by rw [seqIndex_neg (by omega) h1,e],by omega,h1,by omega⟩
  ·rw [if_neg h1] at h;cases h
theorem Md {α:Type}{xs:List α}{i:Int}{v:α}(h:atI xs i=some v):∃j,seqIndex? i xs.length=some j/\xs[j]? = some v/\j<xs.length/\-(xs.length:Int)≤i/\i<xs.length:=by
 unfold atI at h
 cases e:ixN xs.length i with
 |none=>rw [e] at h;cases h
 |some j=>
  rw [e] at h
  obtain⟨h1,h2,h3,h4⟩:=Lr e
  exact⟨j,h1,h,h2,h3,h4⟩
theorem Mc {α:Type}{xs:List α}{j:Nat}{v:α}(h:xs[j]? = some v):atI xs (j:Int)=some v:=by
 have hj:j<xs.length:=(Wo.mp h).1
 have e:ixN xs.length (j:Int)=some j:=by
  unfold ixN
  rw [if_pos (by omega),if_pos (by omega)];simp
 unfold atI;rw [e];exact h
def Ff (b:Expr):Prop:=∀o i,subscripted b false o i=operate [o,i] (getItem o i)
def IxR (X:Cx)(r:R2):Prop:=
 ∀(value slice:Expr) (pins:List (Addr×Obj)) (s:Shared) (σ:St) (H:Hp) (x y:V) (v u:Value) (Q:VK),Inv X pins σ H s->ZL x v->ZL y u->r x y H Q->
  subscripted slice false v u=operate [v,u] (getItem v u)->wpAny (model X.prog X.w) X.A (subscriptTail value slice v u) (EP X pins σ Q) X.xe s
def MtR (X:Cx)(id:String)(r:V->List V->Hp->VK->Prop):Prop:=
 ∀(pins:List (Addr×Obj)) (s:Shared) (σ:St) (H:Hp) (x:V) (xs:List V) (v:Value) (us:List Value) (Q:VK),Inv X pins σ H s->ZL x v->Y1 xs us->r x xs H Q->
  wpAny (model X.prog X.w) X.A (call (.builtin id) (v :: us)) (EP X pins σ Q) X.xe s
section
variable {X:Cx} {a b:Expr} {ta tb:TE} {pos:Pos}
theorem IxR.or {r r':R2}(h:IxR X r)(h':IxR X r'):IxR X (λx y H Q=>r x y H Q\/r' x y H Q):=by
 intro value slice pins s σ H x y v u Q I rx ry q hs
 rcases q with q|q
 ·exact h value slice pins s σ H x y v u Q I rx ry q hs
 ·exact h' value slice pins s σ H x y v u Q I rx ry q hs
theorem Z1u {r:R2}(hr:IxR X r)(ha:PE X a ta)(hb:PE X b tb)(hs:Ff b):PE X (.Subscript a b pos) (tOp r ta tb):=by
 intro pins s σ H Q I h
 exact Subscript_ (Z2q ha hb I h λv u s2 x y H2 I2 rx ry q=>hr a b pins s2 σ H2 x y v u Q I2 rx ry q (hs _ _))
def Z2F (K:Wd):R2:=λx y H Q=>∃p xs i v,x = .ref p/\y = .int i/\SqL K H p xs/\atI xs i=some v/\Q v H
def Z2D (K:Wd):R2:=λx y H Q=>∃p xs i v,x = .ref p/\y = .int i/\SqT K H p xs/\atI xs i=some v/\Q v H
def Z2E:R2:=λx y H Q=>∃z i c,x = .str z/\y = .int i/\z.length≤Wk/\atI z.cps.toList i=some c/\Q (.str ⟨#[c]⟩) H
theorem Ir:IxR X (Z2F X.K):=by
 intro value slice pins s σ H x y v u Q I rx ry h hs
 obtain⟨p,xs,i,z,rfl,rfl,hq,he,q⟩:=h
 cases rx
 obtain⟨t,rfl⟩:=ry
 obtain⟨its,r,pl,hz⟩:=I.list hq
 obtain⟨j,h1,h2,h3,h4,h5⟩:=Md he
 obtain⟨w,ew,rw'⟩:=r.get h2
 have hl:=r.length
 have hn:=TD
 have fin:EP X pins σ Q w s:=⟨z,H,I,rw',q⟩
 by_cases h0:0≤i
 ·have hj:i.toNat=j:=by
   rw [seqIndex_of h0 h5] at h1
   exact WT h1
  exact item_listR pl.isList h0 (by omega) (by rw [hj];simpa using ew) fin hs
 ·have hj:(i+(its.toArray.size:Int)).toNat=j:=by
   rw [seqIndex_neg (by omega) h4] at h1
   rw [Wn,←hl]
   exact WT h1
  exact subscriptTail_builtinR (x:=w) pl.isList.typeIs slot_list_getitem.lookup
   (wpAny_getItem_list_neg (Q:=λr s'=>r=w/\EP X pins σ Q r s') pl.isList (by omega) (by rw [Wn]<;>omega) (by omega) (by rw [hj];simpa using ew) ⟨rfl,fin⟩) hs
theorem Xq:IxR X (Z2D X.K):=by
 intro value slice pins s σ H x y v u Q I rx ry h hs
 obtain⟨p,xs,i,z,rfl,rfl,hq,he,q⟩:=h
 cases rx
 obtain⟨t,rfl⟩:=ry
 obtain⟨its,r,pl,hz⟩:=I.tuple hq
 obtain⟨j,h1,h2,h3,h4,h5⟩:=Md he
 obtain⟨w,ew,rw'⟩:=r.get h2
 have hl:=r.length
 have hn:=TD
 have fin:EP X pins σ Q w s:=⟨z,H,I,rw',q⟩
 exact subscriptTail_builtinR (x:=w) pl.typeIs slot_tuple_getitem.lookup
  (getItem_tuple (j:=j) (Q:=λr s'=>r=w/\EP X pins σ Q r s') pl (by omega) (by omega) (by rw [Wn,←hl];exact h1) (by simpa using ew) ⟨rfl,fin⟩) hs
theorem Xr:IxR X Z2E:=by
 intro value slice pins s σ H x y v u Q I rx ry h hs
 obtain⟨z,i,c,rfl,rfl,hz,he,q⟩:=h
 obtain⟨t,rfl⟩:=rx
 obtain⟨t',rfl⟩:=ry
 obtain⟨j,h1,h2,h3,h4,h5⟩:=Md he
 have hl:z.cps.toList.length=z.length:=by simp [Str.length]
 rw [hl] at h1 h4 h5
 have hn:=TD
 exact tail_any (typeIs_str s z t) slot_str_getitem.lookup (getItem_str (c:=c) (by
  have e1:decide (i < -(2 ^ 63:Int))=false:=decide_eq_false (by omega)
  have e2:decide (i≥2 ^ 63)=false:=decide_eq_false (by omega)
  rw [e1,e2,Bool.or_false]) (by rw [h1];simpa using h2) ⟨.str ⟨#[c]⟩,H,I.tok _,⟨_,rfl⟩,q⟩) hs
def rIx (K:Wd):R2:=λx y H Q=>Z2F K x y H Q\/Z2D K x y H Q\/Z2E x y H Q
theorem Xs:IxR X (rIx X.K):=Ir.or (Xq.or Xr)
theorem Ky (its:List Value)(n j:Nat)(u:Value):Vo (·.setIfInBounds j u) { cls:=.type "list",data:=.seq its.toArray n }={ cls:=.type "list",data:=.seq (its.set j u).toArray n }:=by
 simp [Vo]
theorem Inv.lst {pins:List (Addr×Obj)}{σ:St}{H:Hp}{s:Shared}{p:Addr}{xs:List V}(I:Inv X pins σ H s)(h:H p=some (.lst xs)) :
  ∃(its:List Value) (n:Nat),Y1 xs its/\s.heap.get? p=some { cls:=.type "list",data:=.seq its.toArray n }/\xs.length≤Wk:=by
 obtain⟨z,its,n,r,e⟩:=I.hok p _ h
 exact⟨its,n,r,e,z⟩
theorem Inv.lstUpd {pins:List (Addr×Obj)}{σ:St}{H:Hp}{s:Shared}{p:Addr}{xs ys:List V}{its its':List Value}{n n':Nat}{f:Obj->Obj}(I:Inv X pins σ H s)(h:H p=some (.lst xs))
  (ho:s.heap.get? p=some { cls:=.type "list",data:=.seq its.toArray n }) (hf:f { cls:=.type "list",data:=.seq its.toArray n }={ cls:=.type "list",data:=.seq its'.toArray n' }) (r:Y1 ys its') (hz:ys.length≤Wk) (t:Nat) :
  Inv X pins σ (upd H p (.lst ys)) { s with heap:=s.heap.update p f,toks:=t }:=by
 have e:(s.heap.update p f).get? p=some { cls:=.type "list",data:=.seq its'.toArray n' }:=by
  rw [VL f ho (by rw [hf]<;>rfl),hf]
 refine I.write (x:=p) (e:=p) (by rw [h];trivial) (.inl rfl) (λb u hb q=>(Vv _ _ (Ne.symm hb)).trans q) ⟨_,e⟩ ?_
 exact⟨hz,its',n',r,e⟩
def Z1p:V->V->V->Hp->(Hp->Prop)->Prop:=λo i v H Q=>∃p xs k j,o = .ref p/\i = .int k/\H p=some (.lst xs)/\ixN xs.length k=some j/\Q (upd H p (.lst (xs.set j v)))
theorem FL:HB X Z1p:=by
 intro pins s σ H o i v ov iv u Q I ro ri rv h
 obtain⟨p,xs,k,j,rfl,rfl,hp,hj,q⟩:=h
 cases ro
 obtain⟨t,rfl⟩:=ri
 obtain⟨its,n,r,ho,hz⟩:=I.lst hp
 obtain⟨h1,h2,h3,h4⟩:=Lr hj
 have hl:=r.length
 have hn:=TD
 have I':Inv X pins σ (upd H p (.lst (xs.set j v))) { s with heap:=s.heap.update p (Vo (·.setIfInBounds j u)) }:=
  I.lstUpd hp ho (Ky its n j u) (r.set rv j) (by rw [List.length_set];exact hz) s.toks
 by_cases h0:0≤k
 ·have hk:k.toNat=j:=by
   rw [seqIndex_of h0 h4] at h1
   exact WT h1
  exact PySem.W.ki_setAt ho h0 (by omega) (by rw [Wn,←hl];exact h4) (by rw [hk];exact⟨_,I',q⟩)
 ·have hk:(k+(its.toArray.size:Int)).toNat=j:=by
   rw [seqIndex_neg (by omega) h3] at h1
   rw [Wn,←hl]
   exact WT h1
  exact PySem.W.ki_setBack ho (by omega) (by rw [Wn,←hl];exact h3) (by omega) (by rw [hk];exact⟨_,I',q⟩)
theorem Bj (lo hi:Option Int)(n:Nat):(sliceBounds lo hi none n).1=((HT.sIx n 0 lo:Nat):Int)/\(sliceBounds lo hi none n).2.1=((HT.sIx n n hi:Nat):Int)/\(sliceBounds lo hi none n).2.2=1:=by
 refine⟨?_,?_,rfl⟩
 ·cases lo with
  |none=>simp [sliceBounds,HT.sIx]
  |some i=>
   simp only [sliceBounds,HT.sIx,Option.getD_none,show (1:Int)>0 by decide,if_true]
   by_cases h:i<0
   ·simp only [h,if_true]<;>omega
   ·simp only [h,if_false]<;>omega
 ·cases hi with
  |none=>simp [sliceBounds,HT.sIx]
  |some i=>
   simp only [sliceBounds,HT.sIx,Option.getD_none,show (1:Int)>0 by decide,if_true]
   by_cases h:i<0
   ·simp only [h,if_true]<;>omega
   ·simp only [h,if_false]<;>omega
theorem Gz (its:List Value)(lo hi:Option Int):slicePick its.toArray lo hi none=((its.drop (HT.sIx its.length 0 lo)).take (HT.sIx its.length its.length hi-HT.sIx its.length 0 lo)).toArray:=by
 obtain⟨h1,h2,h3⟩:=Bj lo hi its.toArray.size
 unfold slicePick
 rw [h1,h2,h3]
 simp only [sliceRange_one,pick_run,Wn]<;>rfl
def Z3V (K:Wd):V->Option Int->Option Int->Hp->VK->Prop:=λx lo hi H Q=>∃a xs,x = .ref a/\SqL K H a xs/\∀p,H p=none->Q (.ref p) (upd H p (.lst (Fq xs lo hi)))
theorem RH:SlR X (Z3V X.K):=by
 intro pins s σ H x v vl vu lo hi sl Q I rx hs pl pu h
 obtain⟨a,xs,rfl,hx,q⟩:=h
 cases rx
 obtain⟨its,r,ht,hz⟩:=I.list hx
 have hlen:=r.length
 refine⟨"list",_,slot_list_getitem.lookup,ht.isList.typeIs,?_⟩
 refine wpAny_getItem_list_slice ht.isList hs pl pu .none (by simp) ?_ (by rw [Wn]<;>omega)
 rw [Gz,←hlen]
 refine⟨.ref s.heap.objs.size,_,I.laid (t':=s.toks) (o:=.lst (Fq xs lo hi)) (λb ob q=>Wj _ q) (Wp _) ?_,rfl,q _ (I.hok.fresh (Wp _))⟩
 exact⟨WY (TQ xs lo hi) hz,_,0,(r.drop (HT.sIx xs.length 0 lo)).take (HT.sIx xs.length xs.length hi-HT.sIx xs.length 0 lo),Wv _ rfl⟩
theorem Na:QL X (.builtin "len") (λxs H Q=>∃p ys,xs=[.ref p]/\(SqL X.K H p ys\/SqT X.K H p ys)/\Q (.int ys.length) H):=by
 intro pins s σ H xs us Q I r h
 obtain⟨p,ys,rfl,hq,q⟩:=h
 obtain⟨u,rfl,rx⟩:=JN r
 cases rx
 have hn:=TD
 rcases hq with hq|hq
 ·obtain⟨its,r',pl,hz⟩:=I.list hq
  have hlen:=r'.length
  exact Calls.call_len_list pl.isList (by simp only [Wn]<;>omega) ⟨.int ys.length,H,I.tok _,⟨s.toks+1,by rw [Wn,hlen]⟩,q⟩
 ·obtain⟨its,r',pl,hz⟩:=I.tuple hq
  have hlen:=r'.length
  exact len_tuple pl (by simp only [Wn]<;>omega) ⟨.int ys.length,H,I.tok _,⟨s.toks+1,by rw [Wn,hlen]⟩,q⟩
theorem N9:QL X (.builtin "len") (λxs H Q=>∃z,xs=[.str z]/\z.length≤Wk/\Q (.int z.length) H):=by
 intro pins s σ H xs us Q I r h
 obtain⟨z,rfl,hz,q⟩:=h
 obtain⟨u,rfl,t,rfl⟩:=JN r
 have hn:=TD
 exact len_str (by omega) ⟨.int z.length,H,I.tok _,⟨_,rfl⟩,q⟩
theorem QL.or {f:Value}{r r':List V->Hp->VK->Prop}(h:QL X f r)(h':QL X f r'):QL X f (λxs H Q=>r xs H Q\/r' xs H Q):=by
 intro pins s σ H xs us Q I rs q
 rcases q with q|q
 ·exact h pins s σ H xs us Q I rs q
 ·exact h' pins s σ H xs us Q I rs q
theorem N8:QL X (.type "list") (λxs H Q=>∃p ys,xs=[.ref p]/\(SqL X.K H p ys\/SqT X.K H p ys)/\∀l,H l=none->Q (.ref l) (upd H l (.lst ys))):=by
 intro pins s σ H xs us Q I r h
 obtain⟨p,ys,rfl,hq,q⟩:=h
 obtain⟨u,rfl,rx⟩:=JN r
 cases rx
 have fin:∀(its:List Value),Y1 ys its->ys.length≤Wk->∀(h':Heap) (c':Nat),(∀b o',s.heap.get? b=some o'->h'.get? b=some o')->
   h'.get? s.heap.objs.size=some { cls:=.type "list",dict:=none,data:=.seq its.toArray c',slots:=#[] }->EP X pins σ Q (.ref s.heap.objs.size) { s with heap:=h' }:=λits r' hz h' c' kp e=>
  ⟨.ref s.heap.objs.size,_,I.laid (t':=s.toks) kp (Wp _) (show ZI X.prog X.w _ h' _ (.lst ys) from ⟨hz,its,c',r',e⟩),rfl,q _ (I.hok.fresh (Wp _))⟩
 rcases hq with hq|hq
 ·obtain⟨its,r',pl,hz⟩:=I.list hq
  have hlen:=r'.length
  obtain⟨o,ho,hc,n,hd⟩:=pl.isList
  exact call_list_seq p (.inl rfl) ho hc hd (λh' c' kp e=>fin its r' hz h' c' kp e) (by simp only [Wn]<;>omega)
 ·obtain⟨its,r',pl,hz⟩:=I.tuple hq
  have hlen:=r'.length
  obtain⟨o,ho,hc,n,hd⟩:=pl
  exact call_list_seq p (.inr rfl) ho hc hd (λh' c' kp e=>fin its r' hz h' c' kp e) (by simp only [Wn]<;>omega)
theorem Uk:QL X (.type "tuple") (λxs H Q=>∃p ys,xs=[.ref p]/\((SqL X.K H p ys/\∀l,H l=none->Q (.ref l) (upd H l (.tup ys)))\/(SqT X.K H p ys/\Q (.ref p) H))):=by
 intro pins s σ H xs us Q I r h
 obtain⟨p,ys,rfl,h⟩:=h
 obtain⟨u,rfl,rx⟩:=JN r
 cases rx
 rcases h with ⟨hq,q⟩|⟨hq,q⟩
 ·obtain⟨its,r',pl,hz⟩:=I.list hq
  have hlen:=r'.length
  refine call_tuple_list pl.isList (λh' kp=>?_) (by simp only [Wn]<;>omega)
  have I1:Inv X pins σ H { s with heap:=h' }:=I.kept (t':=s.toks) kp
  have I2:Inv X pins σ (upd H h'.objs.size (.tup ys)) { s with heap:=h'.push { cls:=.type "tuple",data:=.seq its.toArray } }:=
   I1.laid (t':=s.toks) (λb o e=>Wj _ e) (Wp _) (show ZI X.prog X.w _ _ _ (.tup ys) from ⟨hz,its,r',AT.new _ _⟩)
  exact⟨.ref h'.objs.size,_,I2,rfl,q _ (I1.hok.fresh (Wp _))⟩
 ·obtain⟨its,r',pl,hz⟩:=I.tuple hq
  exact call_tuple_same pl ⟨.ref p,H,I,rfl,q⟩
def tyV (K:Wd)(T:String)(x:V)(H:Hp):Prop:=match x with
 | .str _=>T = "str"
 | .int _=>T = "int"
 | .ref p=>(T = "list"/\∃xs,SqL K H p xs)\/(T = "tuple"/\∃o,K.lookup p=some o/\o.cls = .type "tuple"/\o.dict=none)\/
   (T = "dict"/\((∃kvs,H p=some (.dK kvs))\/∃kvs,H p=some (.dT kvs)))\/(T = "set"/\∃S n,H p=some (.set S n))
 |_=>False
theorem E5 {pins:List (Addr×Obj)}{σ:St}{H:Hp}{s:Shared}{T:String}{x:V}{v:Value}(I:Inv X pins σ H s)(r:ZL x v)(ty:tyV X.K T x H) :
  s.TypeIs v T/\∀a,v = .ref a->∃ob,s.heap.get? a=some ob/\ob.dict=none:=by
 cases x with
 |str z=>
  obtain⟨t,rfl⟩:=r
  cases (show T = "str" from ty)
  exact⟨typeIs_str s z t,λ_ e=>nomatch e⟩
 |int i=>
  obtain⟨t,rfl⟩:=r
  cases (show T = "int" from ty)
  exact⟨typeIs_int s i t,λ_ e=>nomatch e⟩
 |ref p=>
  cases r
  rcases ty with ⟨rfl,xs,hq⟩|⟨rfl,o,hk,hc,hd⟩|⟨rfl,hk⟩|⟨rfl,S,n,hk⟩
  ·obtain⟨its,_,pl,_⟩:=I.list hq
   refine⟨pl.isList.typeIs,λa e=>?_⟩
   cases e
   obtain⟨o,n,e,c,hd,_⟩:=pl
   exact⟨o,e,hd⟩
  ·refine⟨⟨o,I.kIn p o hk,hc⟩,λa e=>?_⟩
   cases e
   exact⟨o,I.kIn _ o hk,hd⟩
  ·have z:∃o,s.heap.get? p=some o/\o.ExactDict:=by
    rcases hk with ⟨kvs,hk⟩|⟨kvs,hk⟩
    ·obtain⟨_,_,_,_,o,_,_,e,ex,_⟩:=I.hok p _ hk
     exact⟨o,e,ex⟩
    ·obtain⟨_,_,_,_,o,_,_,e,ex,_⟩:=I.hok p _ hk
     exact⟨o,e,ex⟩
   obtain⟨o,e,ex⟩:=z
   refine⟨⟨o,e,ex.1⟩,λa e2=>?_⟩
   cases e2
   exact⟨o,e,ex.2.1⟩
  ·obtain⟨o,_,_,_,e,ex,_⟩:=I.hok p _ hk
   refine⟨⟨o,e,ex.1⟩,λa e2=>?_⟩
   cases e2
   exact⟨o,e,ex.2.1⟩
 |_=>exact False.elim ty
def tBM (K:Wd)(T:String)(r:V->List V->Hp->VK->Prop)(to:TE)(t:TA):TE:=λσ H Q=>to σ H λx H1=>tyV K T x H1/\t σ H1 λxs H2=>r x xs H2 Q
variable {o e:Expr} {es:List Expr} {to:TE} {t:TA} {name:Str} {apos cpos:Pos} {T id:String} {r:V->List V->Hp->VK->Prop}
theorem Oc (pa:PlainAttrs T)(slot:Slot T name id)(hty:typeOf (.builtin id)=pure (.type "method_descriptor"))(hm:MtR X id r)(ho:PE X o to)(ha:PA X (e :: es) t)
  (hbase:attributeBase o name X.env (eval o X.env)=eval o X.env:=by rfl)
  (hfew:((backTo cpos (Wy (e :: es) X.env)).all (λx=>!x.1)&&(backToKw cpos (keywordEach [] X.env)).all (λx=>x.1.isSome)
   && decide ((e :: es).length+([]:List Keyword).length+(if ([]:List Keyword).isEmpty then 0 else 1)<30))=true:=by rfl)
  (hline:(apos.endLine == cpos.line)=true:=by rfl) (hs:Wy (e :: es) X.env=(false,eval e X.env) :: Wy es X.env:=by rfl) (hplain:(backTo cpos (Wy es X.env)).any (·.1)=false:=by rfl) :
  PE X (.Call (.Attribute o name apos) (e :: es) [] cpos) (tBM X.K T r to t):=by
 intro pins s σ H Q I h
 refine wpAny_Call_method_late hbase hfew hline rfl (thn (ho pins s σ H _ I h) λv s1 ⟨x,H1,I1,r1,ty,q1⟩=>?_)
 obtain⟨h1,h2⟩:=E5 I1 r1 ty
 refine⟨T,id,pa,slot,hty,h1,h2,?_⟩
 have hA:=ha cpos pins s1 σ H1 _ I1 q1
 rw [hs] at hA ⊢
 refine W1E (by show (false||(backTo cpos (Wy es X.env)).any (·.1))=false;rw [hplain]<;>rfl) (Calls.evalArgs_plain ?_)
 exact thn hA λus s2 ⟨vs,H2,I2,r2,q2⟩=>hm pins s2 σ H2 x vs v us Q I2 r1 r2 q2
/- xs.append(e),list.index on a module's tuple .. are MtR facts of 06m -/
end
end L2
namespace L2
open PySem PySem.Spec PyProof.Rows
def MtM (X:Cx)(id:String)(r:V->List V->Hp->VK->Prop):Prop:=
 ∀(pins:List (Addr×Obj)) (s:Shared) (σ:St) (H:Hp) (x:V) (xs:List V) (v:Value) (us:List Value) (Q:VK),Inv X pins σ H s->ZL x v->Y1 xs us->r x xs H Q->
  wpAny (model X.prog X.w) X.A (call (.builtin id) (v :: us)) (EP X pins σ Q) X.xe s
theorem Y1.one:∀{x:V} {us:List Value},Y1 [x] us->∃u,us=[u]/\ZL x u
 |_,_,.cons r .nil=>⟨_,rfl,r⟩
section
variable {X:Cx} {pins:List (Addr×Obj)} {σ:St} {H:Hp} {s:Shared} {l b:Addr} {xs ys zs:List V}
theorem Inv.lset {its its':List Value}{n:Nat}{f:Array Value->Array Value}{t':Nat}(I:Inv X pins σ H s)(hH:H l=some (.lst xs))
  (e:s.heap.get? l=some { cls:=.type "list",data:=.seq its.toArray n }) (hf:f its.toArray=its'.toArray) (hv:Y1 ys its') (hz:ys.length≤Wk) :
  Inv X pins σ (upd H l (.lst ys)) { s with heap:=s.heap.update l (Vo f),toks:=t' }:=by
 have q:=PySem.IsL.update e f
 rw [hf] at q
 refine I.write (x:=l) (e:=l) (by rw [hH];exact trivial) (.inl rfl) (λb' u hb hu=>(Vv s.heap (Vo f) (Ne.symm hb)).trans hu) ⟨_,q⟩ ?_
 exact⟨hz,its',_,hv,q⟩
theorem Inv.lnew {its:List Value}{t':Nat}(I:Inv X pins σ H s)(hv:Y1 ys its)(hz:ys.length≤Wk) :
  Inv X pins σ (upd H s.heap.objs.size (.lst ys)) { s with heap:=s.heap.push { cls:=.type "list",data:=.seq its.toArray },toks:=t' }:=
 I.laid (λ_ _ q=>Wj _ q) (Wp _) ⟨hz,its,0,hv,Wv _ rfl⟩
theorem Inv.fresh (I:Inv X pins σ H s):H s.heap.objs.size=none:=I.hok.fresh (Wp _)
theorem Inv.lstM (I:Inv X pins σ H s)(hH:H l=some (.lst xs)):xs.length≤Wk/\∃(its:List Value) (n:Nat),Y1 xs its/\xs.length=its.length/\s.heap.get? l=some { cls:=.type "list",data:=.seq its.toArray n }:=by
 obtain⟨z,its,n,r,e⟩:=I.hok l _ hH
 exact⟨z,its,n,r,r.length,e⟩
end
section
variable {X:Cx}
def Sc:V->List V->Hp->VK->Prop:=λx vs H Q=>∃l xs y,x = .ref l/\vs=[y]/\H l=some (.lst xs)/\xs.length<Wk/\Q .non (upd H l (.lst (xs++[y])))
theorem Pt:MtM X "list.append" Sc:=by
 intro pins s σ H x vs v us Q I rx rv h
 obtain⟨l,xs,y,rfl,rfl,hH,hz,q⟩:=h
 cases rx
 obtain⟨u,rfl,ru⟩:=rv.one
 obtain⟨z,its,n,r,hl,e⟩:=I.lstM hH
 refine call_meets F.slot_list_append ⟨_,e,rfl⟩ F.entry_list_append (F.args_list_append_2 _ _) (PySem.list_append l its.toArray n u (by rw [Wn];omega)) ⟨e,?_⟩
 refine⟨.non,_,I.lset (its':=its++[u]) hH e (by simp) (r.append (.cons ru .nil)) ?_,rfl,q⟩
 rw [WN,W0C]
 omega
def Z3X:R2:=λx y H Q=>∃l b xs zs,x = .ref l/\y = .ref b/\H l=some (.lst xs)/\H b=some (.lst zs)/\xs.length+zs.length≤Wk/\∀p,H p=none->Q (.ref p) (upd H p (.lst (xs++zs)))
theorem Oj:OpR X (binaryOp .Add) Z3X:=by
 intro pins s σ H x y v u Q I rx ry h
 obtain⟨l,b,xs,zs,rfl,rfl,hH,hB,hz,q⟩:=h
 cases rx
 cases ry
 obtain⟨z,its,n,r,hl,e⟩:=I.lstM hH
 obtain⟨z2,its2,n2,r2,hl2,e2⟩:=I.lstM hB
 refine PySem.P.add_list e e2 ?_ (by rw [Wn,Wn];omega)
 have ea:its.toArray++its2.toArray=(its++its2).toArray:=by simp
 rw [ea]
 exact⟨.ref _,_,I.lnew (t':=s.toks) (r.append r2) (by rw [WN];omega),rfl,q _ I.fresh⟩
end
section
variable {prog:Program} {w:World} {A:Around} {E:Value->Shared->Prop} {s:Shared}
end
section
variable {X:Cx}
end
end L2
namespace L2
open PySem PySem.Spec PyProof.Rows
section
variable {κ:Type} [DecidableEq κ]
def Rc (kvs:List (κ×V))(k:κ):Option V:=(kvs.find? λkv=>decide (kv.1=k)).map (·.2)
def G0 (kvs:List (κ×V))(k:κ)(v:V):List (κ×V):=
 if (kvs.any λkv=>decide (kv.1=k))=true then kvs.map (λkv=>if kv.1=k then (kv.1,v) else kv) else kvs++[(k,v)]
theorem Ta {p:κ×V}{r:List (κ×V)}{k:κ}(e:p.1=k):Rc (p :: r) k=some p.2:=by simp [Rc,VV,e]
theorem Tb {p:κ×V}{r:List (κ×V)}{k:κ}(e:¬p.1=k):Rc (p :: r) k=Rc r k:=by simp [Rc,VV,e]
theorem Mj (k:κ):∀kvs:List (κ×V),(kvs.any λkv=>decide (kv.1=k))=(Rc kvs k).isSome
 |[]=>rfl
 |p :: r=>by
  rw [W0X]
  by_cases e:p.1=k
  ·simp only [Ta e,decide_eq_true e,Bool.true_or,Option.isSome_some]
  ·rw [Tb e,decide_eq_false e,Bool.false_or];exact Mj k r
theorem QU (kvs:List (κ×V))(k:κ)(v:V):(G0 kvs k v).length≤kvs.length+1:=by
 unfold G0
 split
 ·rw [We];omega
 ·rw [WN,WX,W1u];omega
theorem Ra.isSome_eq {o:Option V}{u:Option Value}(r:Ra o u):o.isSome=u.isSome:=by
 cases o with
 |none=>cases u with
  |none=>rfl
  |some _=>exact (show False from r).elim
 |some _=>cases u with
  |none=>exact (show False from r).elim
  |some _=>rfl
theorem Ra.getD {o:Option V}{u:Option Value}{d:V}{d':Value}(r:Ra o u)(rd:ZL d d'):ZL (o.getD d) (u.getD d'):=by
 cases o with
 |none=>cases u with
  |none=>exact rd
  |some _=>exact (show False from r).elim
 |some _=>cases u with
  |none=>exact (show False from r).elim
  |some _=>exact r
theorem KV.val {kvs:List (κ×V)}{vs:List (κ×Value)}(r:KV kvs vs)(k:κ):Ra (Rc kvs k) (valueAt vs k):=by
 unfold KV at r
 induction r with
 |nil=>exact True.intro
 | @cons p q ps qs h t ih=>
  obtain⟨h1,h2⟩:=h
  by_cases e:p.1=k
  ·have e':q.1=k:=h1.symm.trans e
   have b:valueAt (q :: qs) k=some q.2:=by simp [valueAt,VV,e']
   rw [Ta e,b];exact h2
  ·have e':¬q.1=k:=λz=>e (h1.trans z)
   have b:valueAt (q :: qs) k=valueAt qs k:=by simp [valueAt,VV,e']
   rw [Tb e,b];exact ih
theorem KV.any {kvs:List (κ×V)}{vs:List (κ×Value)}(r:KV kvs vs)(k:κ):(kvs.any λkv=>decide (kv.1=k))=vs.any λkv=>decide (kv.1=k):=by
 unfold KV at r
 induction r with
 |nil=>rfl
 |cons h t ih=>rw [W0X,W0X,ih,h.1]
theorem KV.repl {kvs:List (κ×V)}{vs:List (κ×Value)}(r:KV kvs vs)(k:κ){y:V}{u:Value}(ry:ZL y u) :
  KV (kvs.map λkv=>if kv.1=k then (kv.1,y) else kv) (vs.map λkv=>if kv.1=k then (kv.1,u) else kv):=by
 unfold KV at r ⊢
 induction r with
 |nil=>exact .nil
 | @cons p q ps qs h t ih=>
  rw [W1,W1]
  refine .cons ?_ ih
  obtain⟨h1,h2⟩:=h
  by_cases e:p.1=k
  ·rw [if_pos e,if_pos (h1.symm.trans e)];exact⟨h1,ry⟩
  ·rw [if_neg e,if_neg (λz=>e (h1.trans z))];exact⟨h1,h2⟩
theorem KV.put {kvs:List (κ×V)}{vs:List (κ×Value)}(r:KV kvs vs)(k:κ){y:V}{u:Value}(ry:ZL y u):KV (G0 kvs k y) (stored vs k u):=by
 unfold G0 stored
 rw [r.any k]
 by_cases e:(vs.any λkv=>decide (kv.1=k))=true
 ·rw [if_pos e,if_pos e];exact r.repl k ry
 ·rw [if_neg e,if_neg e];exact Paired.snoc r ⟨rfl,ry⟩
theorem KV.length {kvs:List (κ×V)}{vs:List (κ×Value)}(r:KV kvs vs):kvs.length=vs.length:=W0V r
end
theorem BT {P:Program}{w:World}{k:Key}{u:Value}(r:ZL (kV k) u):(ZX P w).is k u=true:=by
 cases k with
 |inl i=>obtain⟨t,e⟩:=(show ∃t,u=Value.int i t from r);subst e;exact NI P w i t
 |inr x=>obtain⟨t,e⟩:=(show ∃t,u=Value.str x t from r);subst e;exact NH P w x t
theorem BU {P:Program}{w:World}:∀{ks:List Key} {us:List Value},Y1 (ks.map kV) us->ItemsAre (ZX P w) ks us
 |[],_,r=>by rw [Wc] at r;cases r;exact .nil
 |k :: ks,_,r=>by
  rw [W1] at r
  cases r with
  |cons h t=>exact .cons (BT h) (BU t)
abbrev KT (H:Hp):List (List Key×V)->List (List Key×Addr×Value)->Prop:=Paired λp q=>p.1=q.1/\H q.2.1=some (.tup (p.1.map kV))/\ZL p.2 q.2.2
theorem KT.val {H:Hp}{kvs:List (List Key×V)}{xs:List (List Key×Addr×Value)}(r:KT H kvs xs)(k:List Key):Ra (Rc kvs k) ((atKey xs k).map (·.2)):=by
 induction r with
 |nil=>exact True.intro
 | @cons p q ps qs h t ih=>
  obtain⟨h1,_,h2⟩:=h
  by_cases e:p.1=k
  ·have e':q.1=k:=h1.symm.trans e
   have b:atKey (q :: qs) k=some q.2:=by simp [atKey,VV,e']
   rw [Ta e,b];exact h2
  ·have e':¬q.1=k:=λz=>e (h1.trans z)
   have b:atKey (q :: qs) k=atKey qs k:=by simp [atKey,VV,e']
   rw [Tb e,b];exact ih
theorem KT.repl {H:Hp}{kvs:List (List Key×V)}{xs:List (List Key×Addr×Value)}(r:KT H kvs xs)(k:List Key){y:V}{u:Value}(ry:ZL y u) :
  KT H (kvs.map λkv=>if kv.1=k then (kv.1,y) else kv) (xs.map (putAt k u)):=by
 induction r with
 |nil=>exact .nil
 | @cons p q ps qs h t ih=>
  rw [W1,W1]
  refine .cons ?_ ih
  obtain⟨h1,h2,h3⟩:=h
  unfold putAt
  by_cases e:p.1=k
  ·rw [if_pos e,if_pos (h1.symm.trans e)];exact⟨h1,h2,ry⟩
  ·rw [if_neg e,if_neg (λz=>e (h1.trans z))];exact⟨h1,h2,h3⟩
theorem KT.put {H:Hp}{kvs:List (List Key×V)}{xs:List (List Key×Addr×Value)}(r:KT H kvs xs)(k:List Key){b:Addr}{y:V}{u:Value}(hb:H b=some (.tup (k.map kV)))(ry:ZL y u) :
  KT H (G0 kvs k y) (storedH xs k b u):=by
 have e:(kvs.any λkv=>decide (kv.1=k))=(atKey xs k).isSome:=by
  rw [Mj,(r.val k).isSome_eq,Option.isSome_map]
 unfold G0 storedH
 rw [e]
 by_cases q:(atKey xs k).isSome=true
 ·rw [if_pos q,if_pos q];exact r.repl k ry
 ·rw [if_neg q,if_neg q];exact Paired.snoc r ⟨rfl,hb,ry⟩
theorem KT.keeps {H H':Hp}{kvs:List (List Key×V)}{xs:List (List Key×Addr×Value)}(r:KT H kvs xs)(ht:∀b ys,H b=some (.tup ys)->H' b=some (.tup ys)):KT H' kvs xs:=
 Paired.mapP r λ_ _ z=>⟨z.1,ht _ _ z.2.1,z.2.2⟩
section
variable {P:Program} {w:World} {H:Hp} {h:Heap} {a:Addr}
theorem DK {u:HO}(ok:HOk P w H h)(e:Rd H a u):ZI P w H h a u:=e.ok ok
theorem N5 {kvs:List (Key×V)}(ok:HOk P w H h)(e:Rd H a (.dK kvs)):kvs.length≤Wk/\(a == sysModules)=false/\∃vs,KV kvs vs/\h.DictOf (ZX P w) a vs:=
 show ZI P w H h a (.dK kvs) from DK ok e
theorem Z0w {kvs:List (Key×V)}(ok:HOk P w H h)(e:H a=some (.dK kvs)):kvs.length≤Wk/\(a == sysModules)=false/\∃vs,KV kvs vs/\h.DictOf (ZX P w) a vs:=N5 ok (.inl e)
theorem BK {ks:List Key}(ok:HOk P w H h)(e:H a=some (.tup (ks.map kV))):(tupleKind (ZX P w)).is h ks a:=by
 obtain⟨_,its,r,⟨o,h1,h2,n,h3⟩,_⟩:=(show ZI P w H h a (.tup (ks.map kV)) from ok a _ e)
 exact⟨o,its.toArray,n,h1,h2,h3,by simpa using BU r⟩
theorem N3 {kvs:List (List Key×V)}(ok:HOk P w H h)(e:Rd H a (.dT kvs)):kvs.length≤Wk/\(a == sysModules)=false/\
  ∃xs,KT H kvs xs/\h.DictOfH (tupleKind (ZX P w)) a xs:=by
 obtain⟨z,y,xs,r,o,es,ep,h1,h2,h3,h4,h5⟩:=(show ZI P w H h a (.dT kvs) from DK ok e)
 refine⟨z,y,xs,r,o,es,ep,h1,h2,h3,h4,λx hx=>?_,h5⟩
 have all:∀{l:List (List Key×V)} {m:List (List Key×Addr×Value)},KT H l m->∀x∈m,(tupleKind (ZX P w)).is h x.1 x.2.1:=by
  intro l m q
  induction q with
  |nil=>intro x hx;exact nomatch hx
  | @cons p q ps qs hq t ih=>
   intro x hx
   rcases Ww.mp hx with e|hx
   ·subst e
    exact BK ok (by rw [←hq.1];exact hq.2.1)
   ·exact ih x hx
 exact all r x hx
theorem Z2n {kvs:List (List Key×V)}(ok:HOk P w H h)(e:H a=some (.dT kvs)):kvs.length≤Wk/\(a == sysModules)=false/\
  ∃xs,KT H kvs xs/\h.DictOfH (tupleKind (ZX P w)) a xs:=N3 ok (.inl e)
end
def D7 (H:Hp)(a:Addr)(y:V)(r:Option V):Prop:=
 (∃kvs k,Rd H a (.dK kvs)/\y=kV k/\r=Rc kvs k)\/∃kvs k b,Rd H a (.dT kvs)/\y = .ref b/\H b=some (.tup (k.map kV))/\r=Rc kvs k
def Z3x (H:Hp)(a:Addr)(y v:V)(H':Hp):Prop:=
 (∃kvs k,H a=some (.dK kvs)/\y=kV k/\kvs.length<Wk/\H'=upd H a (.dK (G0 kvs k v)))\/
 ∃kvs k b,H a=some (.dT kvs)/\y = .ref b/\H b=some (.tup (k.map kV))/\kvs.length<Wk/\H'=upd H a (.dT (G0 kvs k v))
section
variable {X:Cx} {pins:List (Addr×Obj)} {σ:St} {H:Hp} {s:Shared} {a:Addr} {y v:V} {u r:Value} {o:Option V} {A:Around} {E:Value->Shared->Prop}
theorem Inv.big (I:Inv X pins σ H s):sysModules<s.heap.objs.size:=by
 have h:Wx<s.heap.objs.size:=(I.mod.glob.keeps I.bk).lt
 exact Nat.lt_trans (by decide) h
theorem LS {Q:Value->Shared->Prop}(hu:A.units+1<cLine)(I:Inv X pins σ H s)(g:D7 H a y (some v))(ry:ZL y u)(h:∀w' s',Inv X pins σ H s'->ZL v w'->Q w' s') :
  wpAny (model X.prog X.w) A (getItem (.ref a) u) Q E s:=by
 rcases g with ⟨kvs,k,e,ey,l⟩|⟨kvs,k,b,e,ey,eb,l⟩
 ·subst ey
  obtain⟨z,hd,vs,rel,dd⟩:=N5 I.hok e
  obtain⟨w',hw,rw'⟩:=Ra.some_of (v:=v) (o:=valueAt vs k) (by rw [l];exact rel.val k)
  exact wpAny_getItem_of (BT ry) dd.mapOf hw (h w' _ (I.tok _) rw')
 ·subst ey
  cases (show u=Value.ref b from ry)
  obtain⟨z,hd,xs,rel,dd⟩:=N3 I.hok e
  obtain⟨w',hw,rw'⟩:=Ra.some_of (v:=v) (o:=(atKey xs k).map (·.2)) (by rw [l];exact rel.val k)
  obtain⟨p,hp,hp2⟩:=Wi.mp hw
  refine wpAny_getItem_heap (W1v hu) (BK I.hok eb) dd hp ?_
  rw [hp2]
  exact h w' _ (I.tok _) rw'
theorem Z4A {Q:Value->Shared->Prop}(hu:A.units+1<cLine)(I:Inv X pins σ H s)(g:D7 H a y o)(ry:ZL y u)(h:∀s',Inv X pins σ H s'->Q (.bool o.isSome) s') :
  wpAny (model X.prog X.w) A (compareOp .In u (.ref a)) Q E s:=by
 rcases g with ⟨kvs,k,e,ey,l⟩|⟨kvs,k,b,e,ey,eb,l⟩
 ·subst ey
  obtain⟨z,hd,vs,rel,dd⟩:=N5 I.hok e
  refine wpAny_in_of (BT ry) hd dd.mapOf ?_
  rw [←(rel.val k).isSome_eq,←l]
  exact h _ (I.tok _)
 ·subst ey
  cases (show u=Value.ref b from ry)
  obtain⟨z,hd,xs,rel,dd⟩:=N3 I.hok e
  refine wpAny_in_heap (W1v hu) (BK I.hok eb) hd dd ?_
  have q:=(rel.val k).isSome_eq
  rw [Option.isSome_map] at q
  rw [←q,←l]
  exact h _ (I.tok _)
theorem UI {h':Heap}{t':Nat}{ob:HO}(I:Inv X pins σ H s)(mu:Mut (H a))(hs:W08 a s.heap h')(he:∃q,h'.get? a=some q)(new:ZI X.prog X.w (upd H a ob) h' a ob) :
  Inv X pins σ (upd H a ob) { s with heap:=h',toks:=t' }:=
 I.write (x:=a) (e:=a) mu (.inl rfl) (λb q hb z=>(hs.2 b hb).trans z) he new
theorem Hn {P:Program}{w:World}{H':Hp}{h':Heap}{kvs:List (Key×V)}{vs:List (Key×Value)}(z:kvs.length≤Wk)(hd:(a == sysModules)=false)(rel:KV kvs vs)(dd:h'.DictOf (ZX P w) a vs) :
  ZI P w H' h' a (.dK kvs):=⟨z,hd,vs,rel,dd⟩
theorem TN {H':Hp}{Q:Unit->Shared->Prop}(hu:A.units+1<cLine)(I:Inv X pins σ H s)(g:Z3x H a y v H')(ry:ZL y u)(rv:ZL v r)(h:∀s',Inv X pins σ H' s'->Q () s') :
  wpAny (model X.prog X.w) A (setItem (.ref a) u r) Q E s:=by
 rcases g with ⟨kvs,k,e,ey,l,eH⟩|⟨kvs,k,b,e,ey,eb,l,eH⟩
 ·subst ey eH
  obtain⟨z,hd,vs,rel,dd⟩:=Z0w I.hok e
  have hz:vs.length≤Wk:=by rw [←rel.length];exact z
  have hl:(G0 kvs k v).length≤Wk:=by have:=QU kvs k v;omega
  refine wpAny_setItem_pairs (hsz:=hz) (BT ry) dd λh' dd' hs=>h _ ?_
  have he:∃q,h'.get? a=some q:=let ⟨q,_,_,hq,_⟩:=dd';⟨q,hq⟩
  exact UI I (by rw [e];exact True.intro) hs he (Hn hl hd (rel.put k rv) dd')
 ·subst ey eH
  cases (show u=Value.ref b from ry)
  obtain⟨z,hd,xs,rel,dd⟩:=Z2n I.hok e
  have hz:xs.length≤Wk:=by rw [←W0V rel];exact z
  have hl:(G0 kvs k v).length≤Wk:=by have:=QU kvs k v;omega
  refine wpAny_setItem_heap (hsz:=hz) (W1v hu) (BK I.hok eb) dd λh' dd' hs=>h _ ?_
  obtain⟨q,es,ep,hq,h2,h3,h4,_,h5⟩:=dd'
  refine UI I (by rw [e];exact True.intro) hs ⟨q,hq⟩ ⟨hl,hd,_,(rel.put k eb rv).keeps λc ys ec=>?_,q,es,ep,hq,h2,h3,h4,h5⟩
  rw [Zl (UZ ec e (λz=>nomatch z))]
  exact ec
end
section
variable {X:Cx} {pins:List (Addr×Obj)} {σ:St} {H:Hp} {s:Shared} {a:Addr} {kvs:List (Key×V)} {k:Key} {u:Value} {A:Around} {E:Value->Shared->Prop}
theorem Z2p {Q:Value->Shared->Prop}(I:Inv X pins σ H s)(e:Rd H a (.dK kvs))(h:∀t s',Inv X pins σ H s'->Q (.int kvs.length t) s'):wpAny (model X.prog X.w) A (call (.builtin "len") [.ref a]) Q E s:=by
 obtain⟨z,hd,vs,rel,dd⟩:=N5 I.hok e
 refine call_len_dict hd dd (by rw [←rel.length];rw [W0S] at z;omega) ?_
 rw [←rel.length]
 exact h _ _ (I.tok _)
theorem IP {Q:Bool->Shared->Prop}(I:Inv X pins σ H s)(e:Rd H a (.dK kvs))(h:∀s',Inv X pins σ H s'->Q (!kvs.isEmpty) s'):wpAny (model X.prog X.w) A (truthy (.ref a)) Q E s:=by
 obtain⟨z,hd,vs,rel,dd⟩:=N5 I.hok e
 refine wpAny_truthy_dict hd dd (by rw [←rel.length];rw [W0S] at z;omega) ?_
 have q:kvs.isEmpty=vs.isEmpty:=by cases rel<;>rfl
 rw [←q]
 exact h _ (I.tok _)
end
theorem M6 {X:Cx}{pins:List (Addr×Obj)}{σ:St}{H:Hp}{s:Shared}{a:Addr}{y:V}{o:Option V}(I:Inv X pins σ H s)(g:D7 H a y o):s.TypeIs (.ref a) "dict":=by
 rcases g with ⟨kvs,k,e,_,_⟩|⟨kvs,k,b,e,_,_,_⟩
 ·obtain⟨_,_,vs,_,dd⟩:=N5 I.hok e
  exact dd.typeIs
 ·obtain⟨_,_,xs,_,dd⟩:=N3 I.hok e
  exact dd.typeIs
section
variable {X:Cx} {o i e value:Expr} {pos pos' tpos:Pos} {td ty tv:TE}
end
theorem K6 {P:Program}{w:World}{H:Hp}(h:Heap)(hb:sysModules<h.objs.size):ZI P w H (h.push { cls:=.type "dict",data:=.dict #[] }) h.objs.size (.dK []):=
 ⟨VH _,beq_eq_false_iff_ne.mpr (Ne.symm (WK hb)),[],.nil,Heap.DictOf.new h⟩
def Dz:TE:=λ_ H Q=>∀p,H p=none->Q (.ref p) (upd H p (.dK []))
section
variable {X:Cx} {pos:Pos}
theorem A3:PE X (.Dict [] [] pos) Dz:=λpins s σ H Q I h=>
 wpAny_Dict_empty ⟨.ref s.heap.objs.size,_,I.laid (a:=s.heap.objs.size) (o:=.dK []) (t':=s.toks) (λ_ _ q=>Wj _ q) (Wp _) (K6 s.heap I.big),rfl,h _ (I.hok.fresh (Wp _))⟩
end
def Qm (kvs more:List (Key×V)):List (Key×V):=more.foldl (λacc kv=>G0 acc kv.1 kv.2) kvs
structure M2 (X:Cx) (o:Expr) (m:Str) (apos:Pos) (e f:Expr) (cpos:Pos):Prop where
 base:attributeBase o m X.env (eval o X.env)=eval o X.env
 few:((backTo cpos (Wy [e,f] X.env)).all (λx=>!x.1)&&(backToKw cpos (keywordEach [] X.env)).all (λx=>x.1.isSome)
  && decide (([e,f]:List Expr).length+([]:List Keyword).length+(if ([]:List Keyword).isEmpty then 0 else 1)<30))=true
 line:(apos.endLine == cpos.line)=true
 trees:backTo cpos (Wy [e,f] X.env)=[(false,eval e X.env),(false,eval f X.env)]
def IsD (H:Hp)(a:Addr):Prop:=(∃kvs,Rd H a (.dK kvs))\/∃kvs,Rd H a (.dT kvs)
theorem CG {X:Cx}{pins:List (Addr×Obj)}{σ:St}{H:Hp}{s:Shared}{a:Addr}(I:Inv X pins σ H s)(d:IsD H a) :
  s.TypeIs (.ref a) "dict"/\(∀b,Value.ref a = .ref b->∃ob,s.heap.get? b=some ob/\ob.dict=none)/\(a == sysModules)=false:=by
 rcases d with ⟨kvs,e⟩|⟨kvs,e⟩
 ·obtain⟨_,hd,vs,_,dd⟩:=N5 I.hok e
  refine⟨dd.typeIs,λb q=>?_,hd⟩
  cases q
  obtain⟨ob,_,_,h1,h2,_⟩:=dd
  exact⟨ob,h1,h2.2.1⟩
 ·obtain⟨_,hd,xs,_,dd⟩:=N3 I.hok e
  refine⟨dd.typeIs,λb q=>?_,hd⟩
  cases q
  obtain⟨ob,_,_,h1,h2,_⟩:=dd
  exact⟨ob,h1,h2.2.1⟩
section
variable {X:Cx} {pins:List (Addr×Obj)} {σ:St} {H:Hp} {s:Shared} {a:Addr} {y d:V} {u r:Value} {o:Option V} {A:Around} {E:Value->Shared->Prop}
theorem Z0y {Q:Value->Shared->Prop}(hu:A.units+1<cLine)(I:Inv X pins σ H s)(g:D7 H a y o)(ry:ZL y u)(rd:ZL d r)(h:∀w' s',Inv X pins σ H s'->ZL (o.getD d) w'->Q w' s') :
  wpAny (model X.prog X.w) A (call (.builtin "dict.get") [.ref a,u,r]) Q E s:=by
 rcases g with ⟨kvs,k,e,ey,l⟩|⟨kvs,k,b,e,ey,eb,l⟩
 ·subst ey
  obtain⟨z,hd,vs,rel,dd⟩:=N5 I.hok e
  refine call_meetsIn W1Q dd.typeIs PySem.F.entry_dict_get (PySem.F.args_dict_get_3 _ _ _) (meets_dict_get_default (ZX X.prog X.w) a (BT ry) hd r) ⟨_,dd.mapOf,h _ _ (I.tok _) ?_⟩
  rw [l]
  exact (rel.val k).getD rd
 ·subst ey
  cases (show u=Value.ref b from ry)
  obtain⟨z,hd,xs,rel,dd⟩:=N3 I.hok e
  refine call_meetsIn W1Q dd.typeIs PySem.F.entry_dict_get (PySem.F.args_dict_get_3 _ _ _) (meetsH_dict_get_default (tupleKind (ZX X.prog X.w)) a b hd r) ⟨W1v hu,k,xs,BK I.hok eb,dd,h _ _ (I.tok _) ?_⟩
  rw [l]
  exact (rel.val k).getD rd
end
section
variable {X:Cx} {o e f:Expr} {apos cpos:Pos} {td ty tx:TE}
end
section
variable {X:Cx} {pins:List (Addr×Obj)} {σ:St} {H:Hp} {s:Shared} {a:Addr} {kvs:List (Key×V)} {A:Around} {E:Value->Shared->Prop}
end
section
variable {X:Cx} {pins:List (Addr×Obj)} {σ:St} {H:Hp} {s:Shared} {a:Addr} {y:V} {u:Value} {A:Around} {E:Value->Shared->Prop}
end
end L2
namespace Att
open PySem PySem.W PySem.Calls PyProof.Rows
theorem TH {P:Params}{h:Heap}:∀(ns:List Int) (vs:List Value),WellAll P h vs (ns.map WData.int)->IntsAre vs ns:=by
 intro ns
 induction ns with
 |nil=>
  intro vs w
  rw [Wc] at w
  cases w
  exact .nil
 |cons n ns ih=>
  intro vs w
  rw [W1] at w
  cases w with
  |cons a b=>
   cases a
   exact .cons _ _ (ih _ b)
theorem RM {l:OpenLaw}{n:Nat}(hn:l.most=some n){P:Params}{h:Heap}{args:List WData}{vals:List Value}
  (hpre:l.row.toRowW.claim.pre args=true) (hwl:WellAll P h vals args) :
  ∃a vs ns,vals=[Value.ref a]/\args=[WData.list (ns.map WData.int)]/\h.get? a=some { cls:=.type "list",data:=.seq vs.toArray }/\IntsAre vs ns/\ns.length≤n:=by
 have hsh:WShape.hasAll [] args [.list .int]=true:=(pre_splitW hpre).1
 have hc:l.pre.holds [] { args:=args }=true:=(pre_splitW hpre).2
 obtain⟨d,r,rfl,h1,h2⟩:=hasAllW_cons hsh
 obtain rfl:=hasAllW_nil h2
 obtain⟨xs,rfl,h3⟩:=hasW_list h1
 obtain⟨ns,rfl⟩:=items_int h3
 have hlen:ns.length≤n:=by
  unfold OpenLaw.pre at hc
  have h4:(WTm.not (.lt (.lit (.int (n:Int))) (.len (.arg 0)))).holds [] { args:=[.list (ns.map .int)] }=true:=by
   have h4:=(holds_andW hc).1
   rw [hn] at h4
   exact h4
  have h5:=condW_of h4 (w_not (w_lt w_lit (w_len_list (w_arg rfl))))
  rw [We] at h5
  refine W0N λq=>?_
  have q':(n:Int)<((ns.length:Nat):Int):=by omega
  first
   | (rw [decide_eq_true q'] at h5;exact absurd h5 (by decide))
   | (simp at h5;omega)
 cases hwl with
 |cons w1 w2=>
  cases w2
  cases w1 with
  |list ho hall=>exact⟨_,_,ns,rfl,rfl,ho,TH ns _ hall,hlen⟩
theorem P6 (l:OpenLaw)(args:List WData):l.row.toRowW.claim.post args (.bool true) args=true:=
 postW_of (r:=l.row.toRowW) (X:=(true == true))
  (show WShape.has [] (.bool true) .bool=true by first|rfl|decide|simp [WShape.has,WShape.arms,WShape.armsAll])
  (show (WTm.eq .res (.lit (.bool true))).value [] { args:=args,res:=some (.bool true),after:=args }=some (.bool (true == true)) from w_eq_bool (w_res rfl) w_lit) rfl
theorem attach_call {l:OpenLaw}{n:Nat}{q:Program}{loose:List Str}{XP:(Str->Option Value)->Heap->Prop}{YP:World->Heap->Prop}{d:DefRec}
  (hn:l.most=some n) (hdf:d.params.defaults=[])
  (call:∀(w:World) (s₀ s₁:Shared) (mg mb:Str->Option Value) (fa:Addr) (o:Obj) (pm cd doc:Value) (a:Addr) (vs:List Value) (ns:List Int),
   Ground q loose [] XP w s₀ mg mb s₁.heap->YP w s₁.heap->
   s₁.heap.get? fa=some o->o.data = .func (docDef d.name d.params d.body d.scope pm cd doc)->s₁.heap.CodeRec cd d.name->mg d.name=some (.ref fa)->
   s₁.heap.get? a=some { cls:=.type "list",data:=.seq vs.toArray }->IntsAre vs ns->ns.length≤n->s₁.gens = #[]->
   codeAny (model l.prog w) callerA (.call (.ref fa) ⟨[.ref a],[]⟩) (λr s'=>r = .ok (.ret (.bool true))/\OldK s₁.heap s'.heap/\s'.os=s₁.os/\AllBare s'.gens) s₁) :
  WalkO q loose XP YP l.row.toRowW d [] (λf vs=>PySem.call f vs):=by
 intro w s₀ s₁ mg mb G Y fa o pm cd doc dV kV ho hd hcd hD hmg hg args vals as hpre hlay hrd hwl hlo
 obtain rfl:dV = .none:=Dflts.none hD hdf
 obtain rfl:kV = .none:=Dflts.noKw hD
 obtain⟨a,vs,ns,rfl,rfl,hobj,hints,hlen⟩:=RM hn hpre hwl
 refine enter_call (W2j (call w s₀ s₁ mg mb fa o pm cd doc a vs ns G Y ho (fd_plain hd) hcd hmg hobj hints hlen hg) λr s' hq=>?_)
 obtain⟨rfl,h2,h3,h4⟩:=hq
 exact⟨.inl ⟨.bool true,.bool true,[],rfl,λ_=>rfl,.bool true,P6 l _,λ_=>⟨List.Pairwise.nil,λ_ hm=>(nomatch hm)⟩⟩,h2,h3,h4⟩
section
variable {prog:Program} {w:World} {A:Around} {E:Value->Shared->Prop} {s:Shared} {K:Frag}
end
end Att
namespace L2
open PySem PySem.Spec PyProof.Rows
theorem Bc:∀{vs:List Value} {ns:List Int},IntsAre vs ns->Y1 (ns.map V.int) vs
 |_,_,.nil=>.nil
 |_,_,.cons n t h=>.cons ⟨t,rfl⟩ (Bc h)
def Z2x (H:Hp):Prop:=∀b,H b=none\/∃o xs,H b=some (.frz o (.lst xs))
theorem An {P:Program}{w:World}{K:Wd}{mg mb:Str->Option Value}{CX:CXT}{k:Nat}{fa a:Addr}{fd:FuncData}{x:Str}{sp:Sp}{s₁:Shared}{vs:List Value}{ns:List Int}
  (KX:K.In s₁.heap) (hns:s₁.heap.Ns Wx mg) (hb:s₁.heap.Ns builtinsNs mb) (hbb:∀x:Str,x≠"__name__"->mb x=WH x) (hlim:s₁.heap.NoLimit) (hg:s₁.gens = #[])
  (ha:s₁.heap.get? a=some { cls:=.type "list",data:=.seq vs.toArray }) (hi:IntsAre vs ns) (hl:ns.length≤Wk) (hr:Room k callerA)
  (F:∀base:Heap,K.In base->base.Ns Wx mg->FnOk P w K mg base CX k fa fd [x] sp) (hbind:∀(s:Shared) (u:Value),BindsTo s fd ⟨[u],[]⟩ [(x,u)])
  (hsp:∀H:Hp,Z2x H->SqL K H a (ns.map V.int)->sp [.ref a] H (λv _=>v = .bl true) λ_ _ _=>False)
  (hCX:∀H e s',CX [] H s₁ (λ_ _ _=>False) e s'->False) :
  codeAny (model P w) callerA (.call (.ref fa) ⟨[.ref a],[]⟩) (λr s'=>r = .ok (.ret (.bool true))/\OldK s₁.heap s'.heap/\s'.os=s₁.os/\AllBare s'.gens) s₁:=by
 have rv:=Bc hi
 have lenV:=hi.length
 -- from an abstract heap in which nothing but the script may be tracked
 have core:∀H:Hp,Z2x H->SqL K H a (ns.map V.int)->HOk P w H s₁.heap->(∀b,H b≠none->b=a)->(H a≠none->K.lookup a=none)->
   codeAny (model P w) callerA (.call (.ref fa) ⟨[.ref a],[]⟩) (λr s'=>r = .ok (.ret (.bool true))/\OldK s₁.heap s'.heap/\s'.os=s₁.os/\AllBare s'.gens) s₁:=by
  intro H hO hS hok hA hK
  have base_of:∀{b:Addr} {o:Obj},s₁.heap.get? b=some o->H b=none->(AA s₁.heap H).get? b=some o:=λe n=>Az e n
  have noA:∀{b:Addr} {o:Obj} {es:Array DictEntry} {ep:Nat},s₁.heap.get? b=some o->o.data = .dict es ep->H b=none:=λ{b o es ep} e d=>by
   cases q:H b with
   |none=>rfl
   |some u=>
    have e':b=a:=hA b (by rw [q];simp)
    subst e'
    rw [ha] at e;cases e
    have d':Data.seq vs.toArray _=Data.dict es ep:=d
    cases d'
  have nsK:∀{b:Addr} {m:Str->Option Value},s₁.heap.Ns b m->(AA s₁.heap H).Ns b m:=λ{b m} ⟨o,es,ep,e,d,r⟩=>⟨o,es,ep,base_of e (noA e d),d,r⟩
  have hKb:K.In (AA s₁.heap H):=λb o e=>base_of (KX b o e) (by
   cases q:H b with
   |none=>rfl
   |some u=>
    have e':b=a:=hA b (by rw [q];simp)
    subst e'
    rw [hK (by rw [q];simp)] at e;cases e)
  have hM:Mod K mg (AA s₁.heap H):=⟨hKb,nsK hns,⟨mb,nsK hb,hbb⟩,let ⟨mc,h1,h2⟩:=hlim;⟨mc,nsK h1,h2⟩⟩
  have e0:Env0 P w K mg (AA s₁.heap H) callerA [] s₁ H:=⟨rfl,hM,λb o e=>SK e,Nat.le_of_eq (LC _ _),trivial,λb hb=>absurd (show b∈([]:List Addr) from hb) (by simp),hok,.of_eq hg⟩
  refine W2j ((F _ hKb (nsK hns)).run callerA [] s₁ H ⟨[.ref a],[]⟩ [.ref a] [.ref a] _ _ hr e0 (hbind s₁ (.ref a)) (.cons rfl .nil) (hsp H hO hS)) λr s' h=>?_
  cases r with
  |error e=>exact (hCX H e s' h).elim
  |ok fl=>
   cases fl with
   |next=>exact False.elim h
   |brk=>exact False.elim h
   |cont=>exact False.elim h
   |ret u=>
    obtain⟨v,H',os,bare,un,hok',r',q⟩:=h
    have q':v = .bl true:=q
    subst q'
    obtain rfl:u=Value.bool true:=r'
    refine⟨rfl,OldK.of_keep λb o e=>?_,os,bare⟩
    cases q:H b with
    |none=>exact un.keep b o e q (by intro z;exact absurd (show b∈([]:List Addr) from z) (by simp)) (by simp)
    |some u=>
     rcases hO b with z|⟨ob,xs,z⟩
     ·rw [q] at z;cases z
     ·have z2:=un.frzs b ob _ z
      obtain⟨e1,_⟩:=hok b _ z
      obtain⟨e2,_⟩:=hok' b _ z2
      rw [e] at e1;cases e1
      exact e2
 cases hk:K.lookup a with
 |some o=>
  -- the script is one of the module's own objects
  have e:=KX a o hk
  rw [ha] at e
  cases e
  refine core (λ_=>none) (λ_=>.inl rfl) (.inr ⟨_,vs.toArray,_,hk,rfl,rfl,rfl,by rw [Wn,lenV];exact hl,by simpa using rv⟩) (λb u z=>by have z':(none:Option HO)=some u:=z;cases z') (λb z=>absurd rfl z) λz=>absurd rfl z
 |none=>
  refine core (λb=>if b=a then some (.frz { cls:=.type "list",data:=.seq vs.toArray } (.lst (ns.map V.int))) else none) (λb=>?_) (.inl (.inr ⟨{ cls:=.type "list",data:=.seq vs.toArray },if_pos rfl⟩)) (λb u z=>?_) (λb z=>?_) λ_=>hk
  ·by_cases hb:b=a
   ·exact .inr ⟨_,_,if_pos hb⟩
   ·exact .inl (if_neg hb)
  ·by_cases hb:b=a
   ·have z':=(if_pos hb).symm.trans z
    cases z'
    subst hb
    exact⟨ha,by rw [We];exact hl,vs,_,rv,ha⟩
   ·have z':=(if_neg hb).symm.trans z
    cases z'
  ·by_cases hb:b=a
   ·exact hb
   ·exact absurd (if_neg hb) z
end L2
namespace L2
open PySem PySem.Spec PyProof.Rows
theorem walk_of {l:PySem.W.OpenLaw}{n k:Nat}{q:Program}{loose:List Str}{XP:(Str->Option Value)->Heap->Prop}{YP:World->Heap->Prop}{d:DefRec}{K:Params->Wd}{CX:World->CXT}{sp:World->Sp}{x:Str}
  (hn:l.most=some n) (hn2:n≤Wk) (hdf:d.params.defaults=[]) (hr:Room k callerA)
  (hY:∀(w:World) (h:Heap),YP w h->(K w.params).In h)
  (F:∀(w:World) (mg:Str->Option Value) (fa:Addr) (h:Heap),(K w.params).In h->h.Ns Wx mg->mg d.name=some (.ref fa)->
   ∃fd:FuncData,(∀(s:Shared) (u:Value),BindsTo s fd ⟨[u],[]⟩ [(x,u)])/\
    ∀base:Heap,(K w.params).In base->base.Ns Wx mg->FnOk l.prog w (K w.params) mg base (CX w) k fa fd [x] (sp w))
  (hsp:∀(w:World) (H:Hp) (a:Addr) (ns:List Int),ns.length≤n->Z2x H->SqL (K w.params) H a (ns.map V.int)->sp w [.ref a] H (λv _=>v = .bl true) λ_ _ _=>False)
  (hCX:∀(w:World) (H:Hp) (s:Shared) (e:Value) (s':Shared),CX w [] H s (λ_ _ _=>False) e s'->False) :
  PySem.W.WalkO q loose XP YP l.row.toRowW d [] (λf vs=>PySem.call f vs):=by
 refine Att.attach_call hn hdf λw s₀ s₁ mg mb fa o pm cd doc a vs ns G Y ho hd hcd hmg hobj hints hlen hg=>?_
 have KX:=hY w _ Y
 obtain⟨fd,hb,hF⟩:=F w mg fa _ KX G.T.g hmg
 exact An KX G.T.g G.T.b G.T.builtins G.T.nolimit hg hobj hints (WY hlen hn2) hr hF hb (λH hO hS=>hsp w H a ns hlen hO hS) λH e s'=>hCX w H s₁ e s'
end L2
/- THE LAST THEOREM (shape;LID,My.* are yours):
 My.Adr: a structure of the addresses that your layer names (classes,functions);My.Txt K t: a structure (Prop) of the equations over K;
 My.txt_mk:{K} {implicit addresses ..} (e1:nsIn K Wx "law" = some (some (.ref f))) (e2:K.lookup f=some ⟨oc,od,.func (fnOf "law" "law" params body scope dV kV doc pm an cdv ct),sl⟩) (e3:codeIn K cdv "law" = true) .. : ∃t,My.Txt K t
set_option maxRecDepth 100000 in
set_option maxHeartbeats 0 in
(the tactic k_is has no namespace: write k_is) -/
namespace L2
open PySem PySem.Spec PyProof.Rows
def Zm (s:Stmt):Arguments:=match s with
 | .FunctionDef _ a _ _ _ _ _ _ _ _=>a
 |_=>{ posonlyargs:=[],args:=[],vararg:=none,kwonlyargs:=[],kw_defaults:=[],kwarg:=none,defaults:=[] }
def Zk (s:Stmt):List Stmt:=match s with
 | .FunctionDef _ _ b _ _ _ _ _ _ _=>b
 |_=>[]
def Z2 (s:Stmt):Scope:=match s with
 | .FunctionDef _ _ _ _ _ _ sc _ _ _=>sc
 |_=>{ kind:=.function,names:=[],isGenerator:=false,isCoroutine:=false }
abbrev CX0:CXT:=λ_ _ _ _ _ _=>False
abbrev E0:XK:=λ_ _ _=>False
theorem Z1w {X:Cx}:Fg CX0 X E0:=λ_ _ _ _ _ _ _ h=>h.elim
structure Fun (K:Wd) (x qual:Str) (st:Stmt) (f:Addr) (fd:FuncData):Prop where
 ex:∃(oc:Value) (od:Option Addr) (kV doc pm:Value) (an:Option Addr) (cdv ct:Value) (osl:Array (Option Value)),
  fd=WO x qual (Zm st) (Zk st) (Z2 st) .none kV doc pm an cdv ct/\K.lookup f=some ⟨oc,od,.func fd,osl⟩/\WI K cdv qual=true
 kp:WF K (.ref f)=true
section
variable {P:Program} {w:World} {K:Wd} {mg:Str->Option Value} {base:Heap}
theorem Fun.ok {x qual:Str}{st:Stmt}{f:Addr}{fd:FuncData}{N ps:List Str}{k:Nat}{sp:Sp}(F:Fun K x qual st f fd)(S:FnScope N ps (Z2 st))(len:∀vs H Q E,sp vs H Q E->vs.length=ps.length)
  (hbody:∀(cdv:Value) (A:Around) (outer:List Env) (s:Shared) (H:Hp) (vs:List V) (Q:VK) (E:XK),Room k (A.deeper (envOfC qual (Z2 st) s.heap.objs.size f cdv))->sp vs H Q E->
   ∃t,PSs (IR CX0 P w K mg base N qual (Z2 st) f cdv A outer s H E).nox (Zk st) t/\t { nx:=λ_ H'=>Q .non H',rt:=Q } (start N vs) H):FnOk P w K mg base CX0 (k+1) f fd ps sp:=by
 obtain⟨oc,od,kV,doc,pm,an,cdv,ct,osl,rfl,lk,hcd⟩:=F.ex
 refine Z2k lk hcd S len λA outer s H vs Q E hr hsp=>?_
 obtain⟨t,h,q⟩:=hbody cdv A outer s H vs Q E hr hsp
 exact⟨t,h.nox,q⟩
theorem Fun.binds {x qual:Str}{st:Stmt}{f:Addr}{fd:FuncData}{ps:List Str}(F:Fun K x qual st f fd)
  (h:∀(kV doc pm:Value) (an:Option Addr) (cdv ct:Value) (us:List Value),us.length=ps.length->bindArgs (WO x qual (Zm st) (Zk st) (Z2 st) .none kV doc pm an cdv ct) ⟨us,[]⟩=pure (ps.zip us)):Me K fd ps []:=by
 obtain⟨oc,od,kV,doc,pm,an,cdv,ct,osl,rfl,lk,hcd⟩:=F.ex
 exact .all (h kV doc pm an cdv ct)
theorem ZN {x qual:Str}{st:Stmt}{f:Addr}{oc:Value}{od an:Option Addr}{osl:Array (Option Value)}{kV doc pm cdv ct:Value}(l:K.lookup f=some ⟨oc,od,.func (WO x qual (Zm st) (Zk st) (Z2 st) .none kV doc pm an cdv ct),osl⟩)
  (c:WI K cdv qual=true) (k:WF K (.ref f)=true):Fun K x qual st f (WO x qual (Zm st) (Zk st) (Z2 st) .none kV doc pm an cdv ct):=⟨⟨oc,od,kV,doc,pm,an,cdv,ct,osl,rfl,l,c⟩,k⟩
end
section
variable {X:Cx}
end
end L2
set_option maxHeartbeats 4000000
namespace L2
open PySem PySem.Spec PyProof.Rows
theorem Uf {α β:Type}{f:α->β->Sem (ForInStep β)}(g:α->β->β):∀(l:List α) (c:β),(∀x∈l,∀c,f x c=pure (.yield (g x c)))->
  forIn l c f=pure (l.foldl (λc x=>g x c) c)
 |[],_,_=>rfl
 |x :: l,c,h=>by
  rw [List.forIn_cons,h x Ws,pure_bind]
  exact Uf g l _ λy hy=>h y (Wz _ hy)
def Ja (env:Env)(cs:List (Str×Addr))(p:Str×NameKind):List (Str×Addr):=
 if p.2 == .free then (p.1,(env.cells.lookup p.1).getD 0) :: cs else cs
def IS (scope:Scope)(env:Env):List (Str×Addr):=scope.names.foldl (Ja env) []
theorem Hq {env:Env}{x:Str}{c:Addr}:∀(l:List (Str×NameKind)) (acc:List (Str×Addr)),(x,c)∈l.foldl (Ja env) acc->
  (x,c)∈acc\/((x,NameKind.free)∈l/\c=(env.cells.lookup x).getD 0)
 |[],_,h=>.inl h
 |p :: l,acc,h=>by
  rcases Hq l _ h with q|⟨q,e⟩
  ·unfold Ja at q
   by_cases hp:p.2 == .free
   ·rw [if_pos hp] at q
    rcases Ww.mp q with q|q
    ·have e1:x=p.1:=congrArg Prod.fst q
     have e2:c=(env.cells.lookup p.1).getD 0:=congrArg Prod.snd q
     have e3:p.2 = .free:=by simpa using hp
     refine .inr ⟨?_,by rw [e1];exact e2⟩
     have e4:p=(x,NameKind.free):=by rw [e1,←e3]
     rw [e4]
     exact Ws
    ·exact .inl q
   ·rw [if_neg hp] at q
    exact .inl q
  ·exact .inr ⟨Wz _ q,e⟩
theorem Kb {env:Env}{p:Str×Addr}:∀(l:List (Str×NameKind)) (acc:List (Str×Addr)),p∈acc->p∈l.foldl (Ja env) acc
 |[],_,h=>h
 |q :: l,acc,h=>by
  refine Kb l _ ?_
  unfold Ja
  split
  ·exact Wz _ h
  ·exact h
theorem Hr {env:Env}{x:Str}:∀(l:List (Str×NameKind)) (acc:List (Str×Addr)),(x,NameKind.free)∈l->∃c,(x,c)∈l.foldl (Ja env) acc
 |[],_,h=>by cases h
 |p :: l,acc,h=>by
  rcases Ww.mp h with h|h
  ·subst h
   refine⟨(env.cells.lookup x).getD 0,Kb l _ ?_⟩
   unfold Ja
   rw [if_pos (by rfl)]
   exact Ws
  ·exact Hr l _ h
theorem U8 {x:Str}{c:Addr}:∀{l:List (Str×Addr)},(x,c)∈l->∃c',l.lookup x=some c'
 |[],h=>by cases h
 |p :: l,h=>by
  obtain⟨n,a⟩:=p
  rw [VY]
  cases hx:x == n with
  |true=>exact⟨a,rfl⟩
  |false=>
   rcases Ww.mp h with h|h
   ·have e:x=n:=congrArg Prod.fst h
    rw [e] at hx
    simp at hx
   ·exact U8 h
def Rb (scope:Scope)(env:Env):Prop:=∀x,(x,NameKind.free)∈scope.names->∃c,env.cells.lookup x=some c
theorem Q7 {scope:Scope}{env:Env}(h:Rb scope env){x:Str}{c:Addr}(e:(IS scope env).lookup x=some c):(x,NameKind.free)∈scope.names/\env.cells.lookup x=some c:=by
 rcases Hq scope.names [] (W0b e) with q|⟨q,r⟩
 ·cases q
 ·obtain⟨c',hc⟩:=h x q
  rw [hc] at r
  exact⟨q,by rw [hc,r];rfl⟩
theorem LV {scope:Scope}{env:Env}(h:Rb scope env){x:Str}(q:(x,NameKind.free)∈scope.names):∃c,(IS scope env).lookup x=some c/\env.cells.lookup x=some c:=by
 obtain⟨c,hc⟩:=Hr (env:=env) scope.names [] q
 obtain⟨c',h'⟩:=U8 hc
 exact⟨c',h',(Q7 h h').2⟩
theorem Gu {scope:Scope}{env:Env}(h:Rb scope env):closureFor scope env=pure (IS scope env):=by
 unfold closureFor IS
 dsimp only
 rw [Uf (λp cs=>Ja env cs p) scope.names [] (λp hp cs=>by
  obtain⟨n,k⟩:=p
  show (if (k == NameKind.free)=true then _ else _)=_
  by_cases hk:(k == NameKind.free)=true
  ·have e:k = .free:=by simpa using hk
   obtain⟨c,hc⟩:=h n (e ▸ hp)
   have e2:cellOf env n=pure c:=by unfold cellOf;rw [hc]
   rw [if_pos hk,e2]
   show _=pure (ForInStep.yield (Ja env cs (n,k)))
   unfold Ja
   rw [if_pos hk,hc]
   rfl
  ·rw [if_neg hk]
   show _=pure (ForInStep.yield (Ja env cs (n,k)))
   unfold Ja
   rw [if_neg hk])]
 rfl
theorem UQ {env:Env}:∀{names:List (Str×NameKind)} {x:Str},names.lookup x=some .free->
  (names.map λ(n,k)=>if (k == NameKind.free&&env.scope.kind == .function&&env.kindOf n == some .cell) then (n,NameKind.cell) else (n,k)).lookup x=some .free\/
  (names.map λ(n,k)=>if (k == NameKind.free&&env.scope.kind == .function&&env.kindOf n == some .cell) then (n,NameKind.cell) else (n,k)).lookup x=some .cell
 |[],_,h=>by simp at h
 | (n,k) :: r,x,h=>by
  have ih:=@UQ env r x
  rw [W1]
  dsimp only
  cases hx:x == n with
  |true=>
   simp only [VY,hx] at h
   cases h
   by_cases hc:(NameKind.free == NameKind.free&&env.scope.kind == .function&&env.kindOf n == some .cell)=true
   ·right
    show List.lookup x ((if _ then _ else _) :: _)=_
    rw [if_pos hc];simp only [VY,hx]
   ·left
    show List.lookup x ((if _ then _ else _) :: _)=_
    rw [if_neg hc];simp only [VY,hx]
  |false=>
   simp only [VY,hx] at h
   by_cases hc:(k == NameKind.free&&env.scope.kind == .function&&env.kindOf n == some .cell)=true
   ·have e:(if (k == NameKind.free&&env.scope.kind == .function&&env.kindOf n == some .cell)=true then (n,NameKind.cell) else (n,k))=(n,NameKind.cell):=if_pos hc
    rw [e];simp only [VY,hx];exact ih h
   ·have e:(if (k == NameKind.free&&env.scope.kind == .function&&env.kindOf n == some .cell)=true then (n,NameKind.cell) else (n,k))=(n,k):=if_neg hc
    rw [e];simp only [VY,hx];exact ih h
theorem UR {env:Env}:∀{names:List (Str×NameKind)} {x:Str},(∀p∈names,p.2≠.cell)->
  ((names.map λ(n,k)=>if (k == NameKind.free&&env.scope.kind == .function&&env.kindOf n == some .cell) then (n,NameKind.cell) else (n,k)).lookup x=some .cell\/
  (names.map λ(n,k)=>if (k == NameKind.free&&env.scope.kind == .function&&env.kindOf n == some .cell) then (n,NameKind.cell) else (n,k)).lookup x=some .free)->(x,NameKind.free)∈names
 |[],_,_,h=>by simp at h
 | (n,k) :: r,x,hc0,h=>by
  have ih:=@UR env r x (λp hp=>hc0 p (Wz _ hp))
  rw [W1] at h
  dsimp only at h
  have key:∀K2:NameKind,(K2 = .cell\/K2 = .free)->List.lookup x ((if (k == NameKind.free&&env.scope.kind == .function&&env.kindOf n == some .cell)=true then (n,NameKind.cell) else (n,k)) ::
    (r.map λ(n,k)=>if (k == NameKind.free&&env.scope.kind == .function&&env.kindOf n == some .cell) then (n,NameKind.cell) else (n,k)))=some K2->(x,NameKind.free)∈(n,k) :: r:=by
   intro K2 hK2 hl
   cases hx:x == n with
   |true=>
    have exn:x=n:=by simpa using hx
    by_cases hc:(k == NameKind.free&&env.scope.kind == .function&&env.kindOf n == some .cell)=true
    ·have hk:k = .free:=by
      have:=(Wl _ _ ▸ (Wl _ _ ▸ hc).1).1
      simpa using this
     rw [exn,hk];exact Ws
    ·rw [if_neg hc] at hl
     simp only [VY,hx] at hl
     have hk:k=K2:=WT hl
     rcases hK2 with q|q
     ·exact absurd (hk.trans q) (hc0 (n,k) Ws)
     ·rw [exn,hk.trans q];exact Ws
   |false=>
    refine Wz _ (ih ?_)
    by_cases hc:(k == NameKind.free&&env.scope.kind == .function&&env.kindOf n == some .cell)=true
    ·rw [if_pos hc] at hl
     simp only [VY,hx] at hl
     rcases hK2 with q|q
     ·exact .inl (q ▸ hl)
     ·exact .inr (q ▸ hl)
    ·rw [if_neg hc] at hl
     simp only [VY,hx] at hl
     rcases hK2 with q|q
     ·exact .inl (q ▸ hl)
     ·exact .inr (q ▸ hl)
  rcases h with h|h
  ·exact key .cell (.inl rfl) h
  ·exact key .free (.inr rfl) h
def ZH (X:Cx)(scope:Scope)(N:List Str)(fp:List Addr)(s₂:Shared)(H₂:Hp)(C:Addr):Cx where
 prog:=X.prog
 w:=X.w
 K:=X.K
 mg:=X.mg
 base:=X.base
 A:=X.A
 N:=N
 s₀:=s₂
 H₀:=H₂
 env:=compEnvC scope (IS scope X.env) C X.env
 outer:=X.stack
 stack:=X.stack
 ex:=fp
 fn:=λ_=>false
 calm:=X.calm
 pn:=[]
 xe:=λ_ _=>False
def TZ (X:Cx)(scope:Scope):List Str->List Nat->Prop
 |[],[]=>True
 |x :: xs,j :: js=>(X.N[j]? = some x/\(X.env.scope.names.lookup x=some .cell\/X.env.scope.names.lookup x=some .free)/\scope.names.lookup x=some .free)/\TZ X scope xs js
 |_,_=>False
def JK (nT:Nat)(caps:List Nat)(σ:St):St:=W0D nT none++caps.map λj=>(σ[j]?).getD none
theorem TZ.len {X:Cx}{scope:Scope}:∀{xs:List Str} {js:List Nat},TZ X scope xs js->xs.length=js.length
 |[],[],_=>rfl
 |_ :: _,_ :: _,h=>by simp only [WX];rw [TZ.len h.2]
 |[],_ :: _,h=>h.elim
 |_ :: _,[],h=>h.elim
theorem TZ.get {X:Cx}{scope:Scope}:∀{xs:List Str} {js:List Nat} {k:Nat} {x:Str} {j:Nat},TZ X scope xs js->xs[k]? = some x->js[k]? = some j->
  X.N[j]? = some x/\(X.env.scope.names.lookup x=some .cell\/X.env.scope.names.lookup x=some .free)/\scope.names.lookup x=some .free
 |[],_,_,_,_,_,h,_=>by simp at h
 |_ :: _,[],_,_,_,h,_,_=>h.elim
 |_ :: _,_ :: _,0,_,_,h,h1,h2=>by
  simp at h1 h2;subst h1;subst h2;exact h.1
 |_ :: _,_ :: _,k+1,_,_,h,h1,h2=>TZ.get (k:=k) h.2 (by simpa using h1) (by simpa using h2)
def PF (X:Cx)(ifs:List Expr)(t:TT):Prop:=
 ∀(pins:List (Addr×Obj)) (s:Shared) (σ:St) (H:Hp) (Q:Bool->Hp->Prop),Inv X pins σ H s->t σ H Q->
  wpAny (model X.prog X.w) X.A (forIn ifs true λc r=>if r=true then do let ok ←isTrue c X.env (eval c X.env);pure (ForInStep.yield ok) else pure (ForInStep.yield r)) (TP X pins σ Q) X.xe s
def Z0V:TT:=λ_ H Q=>Q true H
theorem O4 {X:Cx}:PF X [] Z0V:=λ_ _ _ H _ I h=>wpAny_tests_nil ⟨H,I,h⟩
theorem O3 {X:Cx}{c:Expr}{t:TT}(h:PT X c t):PF X [c] t:=λpins s σ H Q I q=>wpAny_tests_one (h pins s σ H Q I q)
theorem JJ {prog:Program}{w:World}{A:Around}{R:Result->Shared->Prop}{s:Shared}{elt target iter:Expr}{ifs:List Expr}{scope:Scope}{pos:Pos}{it acc:Value}{env:Env}(I:Nat->Shared->Prop)
  (turn:∀n s,I n s->wpAny (model prog w) A (pyNext it) (λr s₁=>match r with
   |none=>R (.ok .next) s₁
   |some v=>wpAny (model prog w) A (letOwnedTupleGo target it v) (λ_ s₀=>wpAny (model prog w) A (assign target env v) (λ_ s₂=>
     wpAny (model prog w) A (forIn ifs true λc r=>if r=true then do let ok ←isTrue c env (eval c env);pure (ForInStep.yield ok) else pure (ForInStep.yield r)) (λok s₃=>
      if ok=true then wpAny (model prog w) A (eval elt env) (λx s₄=>
       wpAny (model prog w) A (call (.builtin "list.append") [acc,x]) (λ_ s₅=>∃m,m<n/\I m s₅) (λ_ _=>False) s₄) (λ_ _=>False) s₃
      else ∃m,m<n/\I m s₃) (λ_ _=>False) s₂) (λ_ _=>False) s₀) (λ_ _=>False) s₁) (λ_ _=>False) s)
  (n:Nat) (h:I n s) :
  codeAny (model prog w) A (.compLoop (.ListComp elt [⟨target,iter,ifs,0⟩] scope pos) 0 it acc env) R s:=by
 refine codeAny_loop rfl I (λn s hI=>?_) n h
 show wpAny _ A ((compTurn (.ListComp elt [⟨target,iter,ifs,0⟩] scope pos) 0 it acc env).onRaise (λx=>do noteFrame x env;theTreesLotGoes x)) _ _ s
 refine wpAny_noted ?_
 rw [compTurn_list]
 refine W0 (wpAny_standAt (W0 (W0i (turn n s hI) (λr s₁ h₁=>?_) λ_ _ h'=>h'.elim)))
 cases r with
 |none=>exact W6 h₁
 |some v=>
  refine W0 (W0i h₁ (λ_ s₀ h₀=>?_) λ_ _ h'=>h'.elim)
  refine W0 (W0i h₀ (λ_ s₂ h₂=>W0 (W0i h₂ (λok s₃ h₃=>?_) λ_ _ h'=>h'.elim)) λ_ _ h'=>h'.elim)
  cases ok with
  |false=>exact W6 ⟨rfl,h₃⟩
  |true=>
   exact W0 (W0 (W0i h₃ (λx s₄ h₄=>W0 (W0i h₄ (λ_ s₅ h₅=>W6 (W6 ⟨rfl,h₅⟩)) λ_ _ h'=>h'.elim)) λ_ _ h'=>h'.elim))
theorem HOk.track {P:Program}{w:World}{H:Hp}{h:Heap}{a:Addr}{o:HO}(x:HOk P w H h)(hn:H a=none)(new:ZI P w (upd H a o) h a o):HOk P w (upd H a o) h:=λb u e=>by
 by_cases hb:b=a
 ·subst hb;rw [Za] at e;cases e;exact new
 ·rw [Zl hb] at e
  exact (x b u e).stay (λc v _ q=>q) (λc q=>by rw [Zl (Zy q hn)];exact q) λc xs q=>by rw [Zl (Zy q hn)];exact q
theorem HOk.but {P:Program}{w:World}{H:Hp}{h h':Heap}{a:Addr}(x:HOk P w H h)(hn:H a=none)(k:∀b o,b≠a->h.get? b=some o->h'.get? b=some o):HOk P w H h':=λb u e=>by
 refine (x b u e).stay (λc v hc q=>k c v ?_ q) (λ_ q=>q) λ_ _ q=>q
 rintro rfl
 rcases hc with z|z
 ·rw [←z,hn] at e;cases e
 ·rw [hn] at z;cases z
abbrev Gh (its:List Value)(n:Nat):Obj:={ cls:=.type "list",data:=.seq its.toArray n }
def Z0I (J:It)(cap:St)(g:TG)(tt:TT)(te:TE)(Fin:List V->Hp->Prop)(H:Hp):Prop:=
 ∃W:Nat->Nat->List V->Hp->Prop,(∃m,W 0 m [] H)/\∀i m ys H,W i m ys H->
  (J.stop i H/\ys.length≤Wk/\Fin ys H)\/(J.go i H/\ys.length≤Wk/\∀x H',J.yld i H x H'->g x cap H' λσ2 H2=>tt σ2 H2 λb H3=>
   if b=true then te σ2 H3 λv H4=>∃m',m'<m/\W (i+1) m' (ys++[v]) H4 else ∃m',m'<m/\W (i+1) m' ys H3)
def Fv (n:Nat)(g:TG):Prop:=∀v σ H Q,g v σ H Q->g v σ H λσ' H'=>(∀j,n≤j->σ'[j]? = σ[j]?)/\Q σ' H'
def AX (n:Nat)(g:TGs):Prop:=∀v σ H Q,g v σ H Q->g v σ H λσ' H'=>(∀j,n≤j->σ'[j]? = σ[j]?)/\Q σ' H'
theorem Zn {n i:Nat}(h:i<n):Fv n (M4 i):=λv σ H Q q=>⟨λj hj=>W0m (by omega),q⟩
theorem Ue {n:Nat}:AX n XU:=λvs σ H Q q=>⟨q.1,λ_ _=>rfl,q.2⟩
theorem Yz {n:Nat}{t:TG}{u:TGs}(h1:Fv n t)(h2:AX n u)(mono:∀v σ H Q Q',(∀σ' H',Q σ' H'->Q' σ' H')->t v σ H Q->t v σ H Q')(mono2:∀v σ H Q Q',(∀σ' H',Q σ' H'->Q' σ' H')->u v σ H Q->u v σ H Q'):AX n (LI t u):=λvs σ H Q q=>by
 obtain⟨v,r,e,q⟩:=q
 refine⟨v,r,e,mono v σ H _ _ (λσ' H' z=>?_) (h1 v σ H _ q)⟩
 exact mono2 r σ' H' _ _ (λσ2 H2 y=>⟨λj hj=>(y.1 j hj).trans (z.1 j hj),y.2⟩) (h2 r σ' H' _ z.2)
theorem Te {K:Wd}{n k:Nat}{t:TGs}(h:AX n t):Fv n (Z2i K k t):=λv σ H Q q=>by
 obtain⟨a,xs,e,h1,h2,q⟩:=q
 exact⟨a,xs,e,h1,h2,h xs σ H Q q⟩
theorem ZY {i:Nat}:∀v σ H Q Q',(∀σ' H',Q σ' H'->Q' σ' H')->M4 i v σ H Q->M4 i v σ H Q':=λ_ _ _ _ _ h q=>h _ _ q
theorem Q4:∀v σ H Q Q',(∀σ' H',Q σ' H'->Q' σ' H')->XU v σ H Q->XU v σ H Q':=λ_ _ _ _ _ h q=>⟨q.1,h _ _ q.2⟩
theorem Jz {t:TG}{u:TGs}(mono:∀v σ H Q Q',(∀σ' H',Q σ' H'->Q' σ' H')->t v σ H Q->t v σ H Q')(mono2:∀v σ H Q Q',(∀σ' H',Q σ' H'->Q' σ' H')->u v σ H Q->u v σ H Q') :
  ∀v σ H Q Q',(∀σ' H',Q σ' H'->Q' σ' H')->LI t u v σ H Q->LI t u v σ H Q':=λvs σ H Q Q' h q=>by
 obtain⟨v,r,e,q⟩:=q
 exact⟨v,r,e,mono v σ H _ _ (λσ' H' z=>mono2 r σ' H' _ _ h z) q⟩
section
variable {X:Cx} {pins:List (Addr×Obj)} {σ:St} {H₂:Hp} {s₂:Shared} {scope:Scope} {tg iter elt:Expr} {ifs:List Expr} {pos:Pos} {nT:Nat} {tgs caps_n:List Str} {caps:List Nat}
theorem Gs (I:Inv X pins σ H₂ s₂){it:Addr}{fp:List Addr}{tn:Nat->Heap->Prop}{J:It}(T:Turn X.prog X.w X.K tg J fp it tn)(st0:tn 0 s₂.heap)(hfp:∀b∈fp,Rk X pins H₂ b)
  (hc:X.calm=true) (hcell:∀y∈scope.names,y.2≠.cell) (hkind:scope.kind = .function) (hcl:Rb scope X.env) (hcap:TZ X scope caps_n caps)
  {g:TG} {tt:TT} {te:TE} (hlow:Fv tgs.length g) (hg:∀s H C,PG (ZH X scope (tgs++caps_n) fp s H C) tg g) (hf:∀s H C,PF (ZH X scope (tgs++caps_n) fp s H C) ifs tt) (he:∀s H C,PE (ZH X scope (tgs++caps_n) fp s H C) elt te)
  {Fin:List V->Hp->Prop} (hw:Z0I J (JK tgs.length caps σ) g tt te Fin H₂) {RR:Value->Addr->Result->Shared->Prop}
  (hRR:∀(D C:Addr) (ys:List V) (its:List Value) (n:Nat) (H3:Hp) (s3:Shared),s₂.heap.objs.size≤D->s₂.heap.objs.size≤C->D≠C->Inv (ZH X scope (tgs++caps_n) fp s₂ H₂ C) [(D,Gh its n)] (JK tgs.length caps σ) H3 s3->Y1 ys its->ys.length≤Wk->Fin ys H3->RR (.ref D) C (.ok .next) s3)
  {E:Value->Shared->Prop} :
  wpAny (model X.prog X.w) X.A (newList []) (λacc s₃=>wpAny (model X.prog X.w) X.A (newFunctionEnv scope X.env.globals (IS scope X.env) [] X.env.qual none .none (some X.env)) (λcenv s₄=>
   codeAny (model X.prog X.w) X.A (.compStart (.ListComp elt [⟨tg,iter,ifs,0⟩] scope pos) 0 (.ref it) acc { cenv with scope:=relabel scope X.env }) (RR acc cenv.locals) s₄) E s₃) E s₂:=by
 refine V8 (wpAny_newFunctionEnv hcell (by intro y hy;simp at hy) (λh₁ hns₁ hsb₁=>?_) hkind)
 dsimp only at hns₁ hsb₁ ⊢
 generalize hH2:s₂.heap.push { cls:=.type "list",dict:=none,data:=.seq ([]:List Value).toArray }=HP at hns₁ hsb₁ ⊢
 have hC:HP.objs.size=s₂.heap.objs.size+1:=by rw [←hH2,W0r]
 have hDC:s₂.heap.objs.size≠HP.objs.size:=by rw [hC];exact WK (W0z _)
 have hCle:s₂.heap.objs.size≤HP.objs.size:=by rw [hC];exact Nat.le_succ _
 have below:∀b,b<s₂.heap.objs.size->b≠HP.objs.size/\b≠s₂.heap.objs.size:=λb hb=>⟨by rw [hC];exact WK (W0Y hb),WK hb⟩
 have old:∀b o,s₂.heap.get? b=some o->h₁.get? b=some o:=λb o e=>hsb₁.extBut b o (below b (Wt e)).1 (Wj _ (hH2 ▸ Wj _ e))
 have hacc:h₁.get? s₂.heap.objs.size=some (Gh [] 0):=hsb₁.extBut _ _ hDC (Wj _ (hH2 ▸ Wv _ rfl))
 have fpl:∀b∈fp,b<s₂.heap.objs.size:=λb hb=>by
  obtain⟨o,e,_⟩:=T.obj 0 _ st0 b hb
  exact Wt e
 have stkl:∀b∈frs X.stack,b<s₂.heap.objs.size:=λb hb=>by
  obtain⟨_,o,ho,_⟩:=I.stack.mem hb
  exact Wt ho
 -- the block's context
 have ok:(ZH X scope (tgs++caps_n) fp s₂ H₂ HP.objs.size).Ok:=by
  refine⟨I.ok.mod,hkind,I.ok.glob,I.ok.blt,hCle,λx y c h1 h2=>I.ok.inj x y c (Q7 hcl h1).2 (Q7 hcl h2).2,λx hx=>?_,λx c h _=>(nomatch h),I.ok.hd,I.ok.frames,.inl rfl,
   λb hb=>⟨(below b (fpl b hb)).1,λx c h=>(hfp b hb).2.2.2.2.1 x c (Q7 hcl h).2⟩,I.bs,WY I.ok.bsz I.sz,λb o e hb=>?_,λb hb z=>?_,I.stack,I.stkFree⟩
  ·obtain⟨c,h1,_⟩:=LV hcl (UR (env:=X.env) hcell hx)
   exact⟨c,h1⟩
  ·obtain⟨_,_,_,h4,_⟩:=hfp b hb
   rcases h4 with h4|h4
   ·exact I.ok.noex b o e h4
   ·exact absurd (WQ (Wt (I.ok.bs b o e).1) h4) (VE _)
  ·obtain⟨_,h2,h3,_⟩:=hfp b hb
   rcases Ww.mp (I.stkSub b z) with q|q
   ·exact h2 q
   ·exact h3 q
 have I0:∀tk,Inv (ZH X scope (tgs++caps_n) fp s₂ H₂ HP.objs.size) [(s₂.heap.objs.size,Gh [] 0)] (JK tgs.length caps σ) H₂ { s₂ with heap:=h₁,toks:=tk }:=by
  intro tk
  refine⟨ok,rfl,I.bare,Un.kept old,⟨_,hns₁,λi x v e1 e2 e3=>?_⟩,λx c h=>?_,I.hok.fresh hCle,λx c h=>I.freeC x c (Q7 hcl h).2,λp hp=>?_,I.hok.kept old,?_⟩
  ·unfold JK at e2
   have hi:tgs.length≤i:=by
    by_cases hi:i<tgs.length
    ·rw [V2 (by simpa using hi),W0n] at e2
     split at e2<;>cases e2
    ·exact W0N hi
   rw [WV (by simpa using hi),W0B,WG] at e2
   have e1':caps_n[i-tgs.length]? = some x:=by
    have e1'':(tgs++caps_n)[i]? = some x:=e1
    rw [WV hi] at e1''
    exact e1''
   cases ej:caps[i-tgs.length]? with
   |none=>rw [ej] at e2;cases e2
   |some j=>
    rw [ej] at e2
    obtain⟨n1,n2,n3⟩:=hcap.get e1' ej
    have es:σ[j]? = some (some v):=by
     have e2':(σ[j]?).getD none=some v:=WT e2
     cases q:σ[j]? with
     |none=>rw [q] at e2';cases e2'
     |some z=>rw [q] at e2';rw [show z=some v from e2']
    obtain⟨m,hn,hl⟩:=I.loc
    obtain⟨u,ru,lk⟩:=hl j x v n1 es (.inr n2)
    refine⟨u,ru,?_⟩
    rcases lk with ⟨k1,_⟩|⟨_,c,k1,k2⟩
    ·have k1':X.env.scope.names.lookup x=some .local:=k1
     rcases n2 with n2|n2
     ·rw [n2] at k1';cases k1'
     ·rw [n2] at k1';cases k1'
    ·obtain⟨c',h1,h2⟩:=LV hcl (W0b n3)
     rw [k1] at h2;cases h2
     refine .inr ⟨?_,c,h1,k2.keeps old⟩
     rcases UQ (env:=X.env) n3 with q|q
     ·exact .inr q
     ·exact .inl q
  ·obtain⟨v,z⟩:=I.cell x c (Q7 hcl h).2
   exact⟨v,z.keeps old⟩
  ·have e:p=(s₂.heap.objs.size,Gh [] 0):=by simpa [ZH] using hp
   subst e
   exact⟨hacc,I.hok.fresh (Wp _),hDC,λz=>VE _ (stkl _ z),λv z=>(nomatch z)⟩
  ·unfold JK
   show _=(tgs++caps_n).length
   rw [WN,W0B,We,WN,hcap.len]
 obtain⟨W,⟨m0,w0⟩,turn⟩:=hw
 have st1:tn 0 h₁:=T.keep 0 _ _ st0 λb _ o e=>old b o e
 have loop:∀tk,codeAny (model X.prog X.w) X.A (.compLoop (.ListComp elt [⟨tg,iter,ifs,0⟩] scope pos) 0 (.ref it) (.ref s₂.heap.objs.size) (compEnvC scope (IS scope X.env) HP.objs.size X.env))
   (RR (.ref s₂.heap.objs.size) HP.objs.size) { s₂ with heap:=h₁,toks:=tk }:=by
  intro tk
  have stat:∀{pins':List (Addr×Obj)} {H':Hp},(∀p∈pins',p.1∉fp)->(∀b∈fp,H' b=none)->∀b∈fp,Rk (ZH X scope (tgs++caps_n) fp s₂ H₂ HP.objs.size) pins' H' b:=λ{pins' H'} hp hn b hb=>
   ⟨hn b hb,(below b (fpl b hb)).1,ok.exfs b hb,.inl hb,λx c h=>(hfp b hb).2.2.2.2.1 x c (Q7 hcl h).2,λp hp' z=>hp p (by simpa [ZH] using hp') (z ▸ hb)⟩
  have offD:∀(its:List Value) (n:Nat),∀p∈[(s₂.heap.objs.size,Gh its n)],p.1∉fp:=λits n p hp z=>by
   have e:p=(s₂.heap.objs.size,Gh its n):=by simpa using hp
   rw [e] at z
   exact VE _ (fpl _ z)
  refine JJ (λn s'=>∃i ys its k H',Inv (ZH X scope (tgs++caps_n) fp s₂ H₂ HP.objs.size) [(s₂.heap.objs.size,Gh its k)] (JK tgs.length caps σ) H' s'/\Y1 ys its/\tn i s'.heap/\(∀b∈fp,H' b=none)/\W i n ys H') ?_ m0
   ⟨0,[],[],0,H₂,I0 tk,.nil,st1,λb hb=>(hfp b hb).1,w0⟩
  rintro n s3 ⟨i,ys,its,k,H3,I3,rv,st3,fr3,w3⟩
  rcases turn i n ys H3 w3 with ⟨stop,hz,fin⟩|⟨go,hz,step⟩
  ·refine thn (T.done (ZH X scope (tgs++caps_n) fp s₂ H₂ HP.objs.size) rfl rfl rfl hc i _ s3 _ H3 (λ_ _=>False) I3 (stat (offD _ _) fr3) st3 stop) λr s4 ⟨hr,I4⟩=>?_
   subst hr
   exact hRR _ _ ys its k H3 s4 (Wp _) hCle hDC I4 rv hz fin
  ·refine thn (T.item (ZH X scope (tgs++caps_n) fp s₂ H₂ HP.objs.size) rfl rfl rfl hc i _ s3 _ H3 (λ_ _=>False) I3 (stat (offD _ _) fr3) st3 go) λr s4 ⟨u,hr,h4⟩=>?_
   subst hr
   refine thn h4 λ_ s5 ⟨x,H5,I5,r5,y5,st5,fr5⟩=>?_
   have I5':=I5.pinned (stat (offD _ _) fr5) (T.obj _ _ st5)
   refine thn (hg s₂ H₂ HP.objs.size _ s5 _ H5 x u _ I5' r5 (hlow _ _ _ _ (step x H5 y5))) λ_ s6 ⟨σ6,H6,I6,keep6,q6⟩=>?_
   refine thn (hf s₂ H₂ HP.objs.size _ s6 σ6 H6 _ I6 q6) λb s7 ⟨H7,I7,q7⟩=>?_
   have len6:σ6.length=(JK tgs.length caps σ).length:=I6.len.trans I5.len.symm
   -- what stays of the iterator's objects
   have itk:∀{σ':St} {H':Hp} {s':Shared},Inv (ZH X scope (tgs++caps_n) fp s₂ H₂ HP.objs.size) ([(s₂.heap.objs.size,Gh its k)]++Br fp s5.heap) σ' H' s'->tn (i+1) s'.heap/\∀b∈fp,H' b=none:=λ{σ' H' s'} I'=>by
    refine⟨T.keep _ _ _ st5 λb hb o e=>(I'.pin (b,o) (WW _ (WW _ (Jw hb e)))).1,λb hb=>?_⟩
    obtain⟨o,e,d⟩:=T.obj _ _ st5 b hb
    exact (I'.pin (b,o) (WW _ (WW _ (Jw hb e)))).2.1
   -- the captured names' slots
   have slots:∀(j:Nat) v,(JK tgs.length caps σ)[j]? = some (some v)->σ6[j]? = some (some v):=λj v e=>by
    by_cases hj:tgs.length≤j
    ·rw [keep6 j hj];exact e
    ·unfold JK at e
     rw [V2 (by simpa using hj),W0n] at e
     split at e<;>cases e
   cases b with
   |false=>
    rw [if_neg Wu]
    rw [if_neg Wu] at q7
    obtain⟨m',hm,w7⟩:=q7
    obtain⟨t7,f7⟩:=itk I7
    exact⟨m',hm,i+1,ys,its,k,H7,(I7.unpinned (pins:=[(s₂.heap.objs.size,Gh its k)])).weak len6.symm slots,rv,t7,f7,w7⟩
   |true=>
    rw [if_pos rfl]
    rw [if_pos rfl] at q7
    refine thn (he s₂ H₂ HP.objs.size _ s7 σ6 H7 _ I7 q7) λxv s8 ⟨y,H8,I8,r8,m',hm,w8⟩=>?_
    obtain⟨t8,f8⟩:=itk I8
    have I8':Inv (ZH X scope (tgs++caps_n) fp s₂ H₂ HP.objs.size) [(s₂.heap.objs.size,Gh its k)] (JK tgs.length caps σ) H8 s8:=(I8.unpinned (pins:=[(s₂.heap.objs.size,Gh its k)])).weak len6.symm slots
    obtain⟨eD,nD,neD,nfD,dD⟩:=I8'.pin (s₂.heap.objs.size,Gh its k) (WW _ (by simp))
    have hlen:its.toArray.size≤Wk:=by rw [Wn,←rv.length];exact hz
    refine append_at (its:=its.toArray) (n:=k) eD (λh9 sb9 e9=>?_) hlen
    have I9:Inv (ZH X scope (tgs++caps_n) fp s₂ H₂ HP.objs.size) [] (JK tgs.length caps σ) H8 { s8 with heap:=h9 }:=
     (I8'.pins_of (pins':=[]) (λp hp=>by cases hp)).turned (t':=s8.toks) (it:=s₂.heap.objs.size) (λb o hb e=>sb9.extBut b o hb e) nD neD (.inr (Wp _)) (λx c h z=>by
      obtain⟨v,q⟩:=I.cell x c (Q7 hcl h).2
      exact absurd q.lt (by rw [z];exact VE _)) (λp hp=>by
       have hp':p∈([]:List (Addr×Obj)):=by simpa [ZH] using hp
       cases hp')
    have e9':h9.get? s₂.heap.objs.size=some (Gh (its++[xv]) (k+1)):=by
     rw [e9];simp [Gh]
    refine⟨m',hm,i+1,ys++[y],its++[xv],k+1,H8,I9.pins_of (λp hp=>?_),rv.append (.cons r8 .nil),T.keep _ _ _ t8 λb hb o e=>sb9.extBut b o (WK (fpl b hb)) e,f8,w8⟩
    have ep:p=(s₂.heap.objs.size,Gh (its++[xv]) (k+1)):=by simpa using hp
    subst ep
    exact⟨e9',nD,neD,nfD,λv z=>(nomatch z)⟩
 exact codeAny_compStart_list (loop _) (T.self X.A 0 _ _ _ st1 (loop _))
theorem Ka (I:Inv X pins σ H₂ s₂){fp:List Addr}(hfp:∀b∈fp,Rk X pins H₂ b){D C:Addr}{ys:List V}{its:List Value}{n:Nat}{H3:Hp}{s3:Shared}{N':List Str}{σ':St}{h4:Heap}(hD:s₂.heap.objs.size≤D)(hC:s₂.heap.objs.size≤C)(hDC:D≠C)
  (I3:Inv (ZH X scope N' fp s₂ H₂ C) [(D,Gh its n)] σ' H3 s3) (rv:Y1 ys its) (hz:ys.length≤Wk) (hs:W08 C s3.heap h4):Inv X pins σ (upd H3 D (.lst ys)) { s3 with heap:=h4 }:=by
 obtain⟨eD,nD,neD,nfD,dD⟩:=I3.pin (D,Gh its n) (WW _ (by simp))
 have eD4:h4.get? D=some (Gh its n):=hs.extBut D _ hDC eD
 have lt:∀b o,s₂.heap.get? b=some o->b≠C/\b≠D:=λb o e=>⟨WK (WQ (Wt e) hC),WK (WQ (Wt e) hD)⟩
 refine I.call' (ch:=fp) I3.os ?_ ?_ I3.bare (λb hb=>⟨(hfp b hb).2.2.2.1,(hfp b hb).2.1,(hfp b hb).2.2.2.2.1,(hfp b hb).2.2.2.2.2⟩)
 ·have u:=I3.base
  refine⟨λb o e nb hb hx=>hs.extBut b o (lt b o e).1 (u.keep b o e nb hb hx),λb o e nb hb hx=>?_,λb o e nb hx=>?_,λb o e hx=>?_,λb xs e=>?_,λb o xs e=>?_,λb ps e=>?_⟩
  ·obtain⟨sl,q⟩:=u.slot b o e nb hb hx
   exact⟨sl,hs.extBut b _ (lt b o e).1 q⟩
  ·rw [Zl (lt b o e).2];exact u.free b o e nb hx
  ·obtain⟨o',q⟩:=u.there b o e hx
   exact⟨o',hs.extBut b _ (lt b o e).1 q⟩
  ·have q:=u.tups b xs e
   rw [Zl (Zy q nD)];exact q
  ·have q:=u.frzs b o xs e
   rw [Zl (Zy q nD)];exact q
  ·obtain⟨more,q⟩:=u.tbls b ps e
   exact⟨more,by rw [Zl (Zy q nD)];exact q⟩
 ·refine HOk.track (I3.hok.but I3.free λb o hb e=>hs.extBut b o hb e) nD ?_
  exact⟨hz,its,n,rv,eD4⟩
def HQ (wi:TI)(nT:Nat)(caps:List Nat)(g:TG)(tt:TT)(te:TE):TE:=λσ H Q=>wi σ H λJ H1=>Z0I J (JK nT caps σ) g tt te (λys H3=>∀D,H3 D=none->Q (.ref D) (upd H3 D (.lst ys))) H1
theorem NB {wi:TI}{g:TG}{tt:TT}{te:TE}(hc:X.calm=true)(hcell:∀y∈scope.names,y.2≠.cell)(hkind:scope.kind = .function)(hnames:∀y∈scope.names,y.2 = .local->scope.names.lookup y.1=some .local)
  (hfree:∀y∈scope.names,y.2 = .free->X.env.scope.names.lookup y.1=some .cell\/X.env.scope.names.lookup y.1=some .free) (hcap:TZ X scope caps_n caps) (hi:PI X tg iter wi) (hlow:Fv tgs.length g)
  (hg:∀fp s H C,PG (ZH X scope (tgs++caps_n) fp s H C) tg g) (hf:∀fp s H C,PF (ZH X scope (tgs++caps_n) fp s H C) ifs tt) (he:∀fp s H C,PE (ZH X scope (tgs++caps_n) fp s H C) elt te)
  (hs:∀x,foldedSetIterable iter X.env x=pure x:=by intro _;rfl):PE X (.ListComp elt [⟨tg,iter,ifs,0⟩] scope pos) (HQ wi tgs.length caps g tt te):=by
 intro pins s σ H Q I h
 have hcl:Rb scope X.env:=λx hx=>I.ok.has x (hfree _ hx rfl)
 rw [eval_ListComp]
 refine wpAny_comprehension_free (use:=none) rfl hs (Gu hcl) hkind hnames (thn (hi pins s σ H _ I h) λv s1 h1=>thn h1 λitv s2 h2=>?_)
 obtain⟨it,fp,tn,J,H2,e,I2,T,st2,f2,hw⟩:=h2
 subst e
 refine Gs I2 T st2 f2 hc hcell hkind hcl hcap hlow (hg fp) (hf fp) (he fp) hw (RR:=λacc C=>compPost (model X.prog X.w) X.A X.xe none (EP X pins σ Q) acc C) ?_
 intro D C ys its n H3 s3 hD hC hDC I3 rv hz fin
 obtain⟨m,hn,_⟩:=I3.loc
 refine⟨m,hn,λh' hs'=>?_⟩
 obtain⟨eD,nD,_⟩:=I3.pin (D,Gh its n) (WW _ (by simp))
 exact⟨.ref D,_,Ka I2 f2 hD hC hDC I3 rv hz hs',rfl,fin D nD⟩
theorem Si {wi:TI}{g:TG}{tt:TT}{te:TE}{i:Nat}{y:Str}{py spos:Pos}(hsw:swapsWith (.ListComp elt [⟨tg,iter,ifs,0⟩] scope pos) (some (.Name y py)) spos.line X.env=pure true)
  (hN:X.N.Nodup) (hy:X.N[i]? = some y) (hx:X.env.scope.names.lookup y=some .local)
  (hc:X.calm=true) (hcell:∀y∈scope.names,y.2≠.cell) (hkind:scope.kind = .function) (hnames:∀y∈scope.names,y.2 = .local->scope.names.lookup y.1=some .local)
  (hfree:∀y∈scope.names,y.2 = .free->X.env.scope.names.lookup y.1=some .cell\/X.env.scope.names.lookup y.1=some .free) (hcap:TZ X scope caps_n caps) (hi:PI X tg iter wi) (hlow:Fv tgs.length g)
  (hg:∀fp s H C,PG (ZH X scope (tgs++caps_n) fp s H C) tg g) (hf:∀fp s H C,PF (ZH X scope (tgs++caps_n) fp s H C) ifs tt) (he:∀fp s H C,PE (ZH X scope (tgs++caps_n) fp s H C) elt te)
  (hs:∀x,foldedSetIterable iter X.env x=pure x:=by intro _;rfl):PS X (.Assign [.Name y py] (.ListComp elt [⟨tg,iter,ifs,0⟩] scope pos) spos) (Z0J (HQ wi tgs.length caps g tt te) (M4 i)):=by
 intro pins s σ H D I h
 have hcl:Rb scope X.env:=λx hx=>I.ok.has x (hfree _ hx rfl)
 rw [exec_Assign_Name_used _ _ _ _ hsw]
 refine W0 (wpAny_standAt (W0 ?_))
 show wpAny _ X.A (do let _ ←comprehension (.ListComp elt [⟨tg,iter,ifs,0⟩] scope pos) scope X.env _ (newList []) false (eval iter X.env) (some (assign (.Name y py) X.env))) _ _ s
 refine W0 (W0i (wpAny_comprehension_free (use:=some (assign (.Name y py) X.env)) (Q:=λ_ s'=>SP X pins D .next s') rfl hs (Gu hcl) hkind hnames
  (thn (hi pins s σ H _ I h) λv s1 h1=>thn h1 λitv s2 h2=>?_)) (λ_ s' hq=>W6 (W6 hq)) λ_ _ e=>e)
 obtain⟨it,fp,tn,J,H2,e,I2,T,st2,f2,hw⟩:=h2
 subst e
 refine Gs I2 T st2 f2 hc hcell hkind hcl hcap hlow (hg fp) (hf fp) (he fp) hw (RR:=λacc C=>compPost (model X.prog X.w) X.A X.xe (some (assign (.Name y py) X.env)) (λ_ s'=>SP X pins D .next s') acc C) ?_
 intro Da C ys its n H3 s3 hD hC hDC I3 rv hz fin
 obtain⟨m,hn,_⟩:=I3.loc
 obtain⟨eD,nD,_⟩:=I3.pin (Da,Gh its n) (WW _ (by simp))
 have I4:Inv X pins σ (upd H3 Da (.lst ys)) s3:=Ka I2 f2 hD hC hDC I3 rv hz (h4:=s3.heap) (W08.refl ..)
 have hLC:C≠X.env.locals:=W1k (WQ I2.lt hC)
 show wpAny _ X.A (assign (.Name y py) X.env (.ref Da)) _ _ s3
 refine wpAny_assign_Name (Bh I4 hN hy (.inl hx) (show ZL (.ref Da) (.ref Da) from rfl) (λs5 I5 hs5=>?_) (.inr hx))
 obtain⟨b5,sb5,hb5⟩:=hs5
 have hbC:C≠b5:=by
  rcases hb5 with z|z
  ·rw [z];exact hLC
  ·obtain⟨v,q⟩:=I2.cell y b5 z
   exact W1k (WQ q.lt hC)
 refine⟨m,hn.sameBut sb5 hbC,λh6 sb6=>?_⟩
 have fC:upd H3 Da (.lst ys) C=none:=by rw [Zl (Ne.symm hDC)];exact I3.free
 refine⟨_,_,I5.turned (t':=s5.toks) (it:=C) (λb o hb e=>sb6.extBut b o hb e) fC hLC (.inr (WY I2.sz hC)) (λx c e z=>?_) (λp hp z=>?_),fin Da nD⟩
 ·obtain⟨v,q⟩:=I2.cell x c e
  exact absurd (WQ q.lt hC) (by rw [z];exact VE _)
 ·exact absurd (WQ (Wt (I2.pin p hp).1) hC) (by rw [z];exact VE _)
end
end L2
namespace L2
open PySem PySem.Spec PyProof.Rows
section
variable {prog:Program} {w:World} {κ:Type} [DecidableEq κ] {kd:HeapKind prog w κ} {A:Around} {E:Value->Shared->Prop} {s:Shared} {a:Addr} {tab:List (κ×Addr×Value)}
theorem KK (ns:(a == sysModules)=false):MeetsIn prog w (Builtin.«dict.__len__» ⟨[.ref a],[]⟩) (λ_ R s=>∃tab,s.heap.DictOfH kd a tab/\R (.ok (.ret (.int tab.length s.toks))) { s with toks:=s.toks+1 }):=
 .of_wp λ_ R s ⟨tab,⟨o,es,ep,ho,_,hdat,he,_,_⟩,h⟩=>by
  have hz:es.size=tab.length:=by simpa using congrArg Ve he
  refine W0 (m:=dictSize a) (W0 (W1J ho hdat (W6 (W0 (m:=Builtin.Dict.pendingCount a) (wpAny_pendingCount_other ns (wpAny_ret_mkInt ?_))))))
  rw [Nat.add_zero,hz];exact h
theorem BF {Q:Value->Shared->Prop}(ns:(a == sysModules)=false)(hm:s.heap.DictOfH kd a tab)(fit:(tab.length:Int)<2 ^ 63)(h:Q (.int tab.length (s.toks+1)) { s with toks:=s.toks+1+1 }) :
  wpAny (model prog w) A (Builtin.«len» ⟨[.ref a],[]⟩) (λfin s'=>∃r,fin = .done (.ret r)/\Q r s') E s:=by
 unfold Builtin.«len»
 refine W0 (m:=oneArg "len" _) (W6 (W0 (m:=callSpecial? (.ref a) (Wr "__len__")) (V9 (name:=Wr "__len__") hm.typeIs W1w ?_)))
 refine call_meetsIn W1w hm.typeIs F.entry_dict_len (F.args_dict_len_1 _) (KK ns) ⟨tab,hm,W0 (Vq (W6 (W0 (W1g ?_))))⟩
 have n1:¬((tab.length:Nat):Int)<0:=by omega
 have n2:¬((tab.length:Nat):Int)≥2 ^ 63:=by omega
 show wpAny _ _ (if ((tab.length:Nat):Int)<0 then _ else _) _ _ _
 rw [if_neg n1]
 show wpAny _ _ (if ((tab.length:Nat):Int)≥2 ^ 63 then _ else _) _ _ _
 rw [if_neg n2]
 exact W0 (wpAny_mkInt (W6 (show ∃r,_ from ⟨_,rfl,h⟩)))
theorem B5 {Q:Value->Shared->Prop}(ns:(a == sysModules)=false)(hm:s.heap.DictOfH kd a tab)(fit:(tab.length:Int)<2 ^ 63)(h:Q (.int tab.length (s.toks+1)) { s with toks:=s.toks+1+1 }) :
  wpAny (model prog w) A (call (.builtin "len") [.ref a]) Q E s:=W0d kind_len plain_len entry_len (args_len1 _) (BF ns hm fit h)
theorem Nn {Q:Bool->Shared->Prop}(ns:(a == sysModules)=false)(hm:s.heap.DictOfH kd a tab)(fit:(tab.length:Int)<2 ^ 63)(h:Q (!tab.isEmpty) { s with toks:=s.toks+1+1 }) :
  wpAny (model prog w) A (truthy (.ref a)) Q E s:=by
 have ne:((tab.length:Int) != 0) = !tab.isEmpty:=by cases tab<;>simp<;>omega
 have run:wpAny (model prog w) A (runValue (.builtin "len" ⟨[.ref a],[]⟩)) (λr s'=>r = .int tab.length (s.toks+1)/\Q (!tab.isEmpty) s') E s:=by
  refine wpAny_runValue (VM entry_len (by
   rw [Vl plain_len _]
   exact W0i (BF (Q:=λr s'=>r = .int tab.length (s.toks+1)/\Q (!tab.isEmpty) s') ns hm fit ⟨rfl,h⟩) (λ_ _ q=>by obtain⟨_,e,q⟩:=q;subst e;exact q) λ_ _ z=>z))
 unfold truthy
 first
  |refine W0 (W1x (name:=Wr "__bool__") hm.typeIs noBool_dict (W0 (W0v (name:=Wr "__len__") hm.typeIs W1w.lookup ?_)))
  |refine W0 (W6 (W0 (W1x (name:=Wr "__bool__") hm.typeIs noBool_dict (W0 (W0v (name:=Wr "__len__") hm.typeIs W1w.lookup ?_)))))
  |refine W0 (W6 (W0 (W1x (name:=Wr "__bool__") hm.typeIs noBool_dict (W0 (W6 (W0 (W0v (name:=Wr "__len__") hm.typeIs W1w.lookup ?_)))))))
 first
  |exact W0 (W0i run (λ_ _ q=>by rw [q.1];exact W6 (ne ▸ q.2)) λ_ _ z=>z)
  |exact W0 (W6 (W0 (W0i run (λ_ _ q=>by rw [q.1];exact W6 (ne ▸ q.2)) λ_ _ z=>z)))
end
section
variable {X:Cx}
def Fb (K:Wd)(x:V)(H:Hp)(k:Bool):Prop:=Z3s K x H k\/(∃p kvs,x = .ref p/\Rd H p (.dT kvs)/\k = !kvs.isEmpty)\/∃p kvs,x = .ref p/\Rd H p (.dK kvs)/\k = !kvs.isEmpty
theorem No:Z3t X (λx H Q=>∃k,Fb X.K x H k/\Q k H):=by
 intro pins s σ H x v Q I rx h
 obtain⟨k,e,q⟩:=h
 rcases e with e|⟨p,kvs,rfl,hx,rfl⟩|⟨p,kvs,rfl,hx,rfl⟩
 ·exact Dr pins s σ H x v Q I rx ⟨k,e,q⟩
 ·cases rx
  obtain⟨hz,hS,xs,r,m⟩:=N3 I.hok hx
  have hlen:kvs.length=xs.length:=W0V r
  have hs:Wk=16777216:=W0S
  refine Nn hS m (by omega) ⟨H,I.tok _,?_⟩
  have:(!xs.isEmpty) = !kvs.isEmpty:=by cases r<;>rfl
  rw [this];exact q
 ·cases rx
  exact IP I hx λs' I'=>⟨H,I',q⟩
theorem P0 {a:Expr}{ta:TE}(ha:PE X a ta)(he:∀whole,isTrue a X.env whole=(do let v ←whole;standAt a.pos;holding [v] (truthy v))) :
  PT X a (λσ H Q=>ta σ H λx H'=>∃k,Fb X.K x H' k/\Q k H'):=by
 intro pins s σ H Q I h
 exact isTrue_plain (thn (ha pins s σ H _ I h) λv s1 ⟨x,H1,I1,r1,q1⟩=>No pins s1 σ H1 x v Q I1 r1 q1) (he _)
end
end L2
namespace L2
open PySem PySem.Spec PyProof.Rows
section
variable {P:Program} {w:World} {H:Hp} {h:Heap} {a:Addr}
theorem AI (x:ZI P w H h a (.dK [])):ZI P w H h a (.dT []):=by
 obtain⟨z,hd,vs,rel,o,es,ep,h1,h2,h3,h4,h5,h6⟩:=(show (_:Nat)≤Wk/\(a == sysModules)=false/\∃vs,KV [] vs/\h.DictOf (ZX P w) a vs from x)
 cases rel
 have he:es.toList=[]:=W0o.mp h5.length
 exact⟨VH _,hd,[],.nil,o,es,ep,h1,h2,h3,by rw [he];rfl,List.nodup_nil⟩
theorem AE (x:ZI P w H h a (.dT [])):ZI P w H h a (.dK []):=by
 obtain⟨z,hd,xs,rel,o,es,ep,h1,h2,h3,h4,h5⟩:=x
 cases rel
 have he:es.toList=[]:=by rw [h4];rfl
 refine⟨VH _,hd,[],.nil,o,es,ep,h1,h2,h3,λe hm=>?_,?_,List.nodup_nil⟩
 ·have:e∈es.toList:=Array.mem_toList_iff.mpr hm
  rw [he] at this
  cases this
 ·rw [he];exact .nil
end
section
variable {X:Cx} {pins:List (Addr×Obj)} {σ:St} {H:Hp} {s:Shared} {a:Addr} {y v:V} {u r:Value} {o:Option V} {A:Around} {E:Value->Shared->Prop}
theorem Inv.view {o':HO}(I:Inv X pins σ H s)(mu:Mut (H a))(he:∃q,s.heap.get? a=some q)(f:ZI X.prog X.w (upd H a o') s.heap a o'):Inv X pins σ (upd H a o') s:=
 UI (h':=s.heap) (t':=s.toks) (ob:=o') I mu ⟨rfl,λ_ _=>rfl⟩ he f
theorem Z0x {P:Program}{w:World}{H:Hp}{h:Heap}{a:Addr}{kvs:List (Key×V)}(x:ZI P w H h a (.dK kvs)):∃q,h.get? a=some q:=by
 obtain⟨_,_,vs,_,o,_,_,h1,_⟩:=x
 exact⟨o,h1⟩
theorem Z0u {P:Program}{w:World}{H:Hp}{h:Heap}{a:Addr}{kvs:List (List Key×V)}(x:ZI P w H h a (.dT kvs)):∃q,h.get? a=some q:=by
 obtain⟨_,_,xs,_,o,_,_,h1,_⟩:=x
 exact⟨o,h1⟩
theorem Inv.asT (I:Inv X pins σ H s)(e:H a=some (.dK [])):Inv X pins σ (upd H a (.dT [])) s:=by
 have ok:=I.hok a _ e
 refine I.view (by rw [e];exact True.intro) (Z0x ok) ?_
 obtain⟨z,hd,xs,rel,r⟩:=AI ok
 cases rel
 exact⟨z,hd,[],.nil,r⟩
theorem Inv.asK (I:Inv X pins σ H s)(e:H a=some (.dT [])):Inv X pins σ (upd H a (.dK [])) s:=by
 have ok:=I.hok a _ e
 refine I.view (by rw [e];exact True.intro) (Z0u ok) ?_
 obtain⟨z,hd,vs,r⟩:=AE ok
 exact⟨z,hd,vs,r⟩
theorem Inv.back {o:HO}(I:Inv X pins σ (upd H a o) s)(e:H a=some (.dK [])\/H a=some (.dT []))(ho:o = .dK []\/o = .dT []):Inv X pins σ H s:=by
 have eH:∀o',H a=some o'->upd (upd H a o) a o'=H:=λo' h=>by
  rw [Qz]
  funext b
  unfold upd
  by_cases hb:b=a
  ·rw [if_pos hb,hb,h]
  ·rw [if_neg hb]
 rcases e with e|e<;>rcases ho with rfl|rfl
 ·have hu:upd H a (.dK [])=H:=by rw [←Qz (o:=.dK [])];exact eH _ e
  rw [hu] at I;exact I
 ·have:=I.asK Za
  rw [eH _ e] at this;exact this
 ·have:=I.asT Za
  rw [eH _ e] at this;exact this
 ·have hu:upd H a (.dT [])=H:=by rw [←Qz (o:=.dT [])];exact eH _ e
  rw [hu] at I;exact I
def T9 (H:Hp)(a:Addr)(y:V)(r:Option V):Prop:=D7 H a y r\/
 ((H a=some (.dK [])/\∃(k:List Key) (b:Addr),y = .ref b/\H b=some (.tup (k.map kV))/\r=none)\/(H a=some (.dT [])/\∃k:Key,y=kV k/\r=none))
theorem T9.view (I:Inv X pins σ H s)(g:T9 H a y o):∃H',Inv X pins σ H' s/\D7 H' a y o/\∀s',Inv X pins σ H' s'->Inv X pins σ H s':=by
 rcases g with g|⟨e,k,b,ey,eb,er⟩|⟨e,k,ey,er⟩
 ·exact⟨H,I,g,λ_ h=>h⟩
 ·subst ey er
  have hb:b≠a:=UZ eb e (λz=>nomatch z)
  exact⟨_,I.asT e,.inr ⟨[],k,b,.inl Za,rfl,by rw [Zl hb];exact eb,rfl⟩,λs' h=>h.back (.inl e) (.inr rfl)⟩
 ·subst ey er
  exact⟨_,I.asK e,.inl ⟨[],k,.inl Za,rfl,rfl⟩,λs' h=>h.back (.inr e) (.inl rfl)⟩
theorem T9.ofSome {x:V}(g:T9 H a y (some x)):D7 H a y (some x):=by
 rcases g with g|⟨_,_,_,_,_,h⟩|⟨_,_,_,h⟩
 ·exact g
 ·cases h
 ·cases h
theorem Z0z {Q:Value->Shared->Prop}(hu:A.units+1<cLine)(I:Inv X pins σ H s)(g:T9 H a y o)(ry:ZL y u)(h:∀s',Inv X pins σ H s'->Q (.bool o.isSome) s') :
  wpAny (model X.prog X.w) A (compareOp .In u (.ref a)) Q E s:=by
 obtain⟨H',I',g',back⟩:=g.view I
 exact Z4A hu I' g' ry λs' I1=>h s' (back s' I1)
theorem IQ {d:V}{Q:Value->Shared->Prop}(hu:A.units+1<cLine)(I:Inv X pins σ H s)(g:T9 H a y o)(ry:ZL y u)(rd:ZL d r)(h:∀w' s',Inv X pins σ H s'->ZL (o.getD d) w'->Q w' s') :
  wpAny (model X.prog X.w) A (call (.builtin "dict.get") [.ref a,u,r]) Q E s:=by
 obtain⟨H',I',g',back⟩:=g.view I
 exact Z0y hu I' g' ry rd λw' s' I1=>h w' s' (back s' I1)
def D6 (H:Hp)(a:Addr)(y v:V)(H':Hp):Prop:=Z3x H a y v H'\/
 ((H a=some (.dK [])/\∃(k:List Key) (b:Addr),y = .ref b/\H b=some (.tup (k.map kV))/\H'=upd H a (.dT [(k,v)]))\/(H a=some (.dT [])/\∃k:Key,y=kV k/\H'=upd H a (.dK [(k,v)])))
theorem KR {H':Hp}{Q:Unit->Shared->Prop}(hu:A.units+1<cLine)(I:Inv X pins σ H s)(g:D6 H a y v H')(ry:ZL y u)(rv:ZL v r)(h:∀s',Inv X pins σ H' s'->Q () s') :
  wpAny (model X.prog X.w) A (setItem (.ref a) u r) Q E s:=by
 have hz:0<Wk:=by decide
 rcases g with g|⟨e,k,b,ey,eb,er⟩|⟨e,k,ey,er⟩
 ·exact TN hu I g ry rv h
 ·subst ey er
  have hb:b≠a:=UZ eb e (λz=>nomatch z)
  refine TN hu (I.asT e) (.inr ⟨[],k,b,Za,rfl,by rw [Zl hb];exact eb,hz,rfl⟩) ry rv ?_
  rw [Qz]
  exact h
 ·subst ey er
  refine TN hu (I.asK e) (.inl ⟨[],k,Za,rfl,hz,rfl⟩) ry rv ?_
  rw [Qz]
  exact h
end
end L2
namespace L2
open PySem PySem.Spec PyProof.Rows
section
variable {X:Cx} {pins:List (Addr×Obj)} {σ:St} {H:Hp} {s:Shared}
theorem Inv.turnedL {h':Heap}{t':Nat}{ch:List Addr}(I:Inv X pins σ H s)(hf:∀b∈ch,Rk X pins H b)(k:∀b o,b∉ch->s.heap.get? b=some o->h'.get? b=some o):Inv X pins σ H { s with heap:=h',toks:=t' }:=by
 have nit:∀b u,H b=some u->b∉ch:=λb u e z=>by rw [(hf b z).1] at e;cases e
 have nL:X.env.locals∉ch:=λz=>(hf _ z).2.1 rfl
 refine I.step (g':=s.gens) (d':=s.drawn) (ch:=ch) (λb hb=>?_) (λb o _ _ hc e _=>k b o hc e) (λb o _ _ hc e _=>⟨o.slots,k b o hc e⟩) (λ_ _ _ _ n=>n)
  (λb o hc e=>⟨o,k b o hc e⟩) (λ_ _ e=>e) (λ_ _ _ e=>e) (λb ps e=>⟨#[],by rw [e];simp⟩) (λm hm=>?_) (λb u e=>?_) I.bare
 ·obtain⟨_,f1,_,f3,f4,f5⟩:=hf b hb
  exact⟨f3,f1,f4,f5⟩
 ·obtain⟨o,es,ep,ho,r⟩:=hm
  exact⟨o,es,ep,k _ o nL ho,r⟩
 ·refine (I.hok b u e).stay (λc v hc q=>k c v ?_ q) (λ_ q=>q) λ_ _ q=>q
  rcases hc with z|z
  ·rw [z];exact nit b u e
  ·exact nit c _ z
end
section
variable {prog:Program} {w:World} {A:Around} {E:Value->Shared->Prop} {s:Shared}
theorem KQ (hh:A.handled=none)(it l:Addr)(hne:l≠it)(items:Array Value) :
  Draws prog w A it [it,l] items.size (λi v=>items[i]? = some v) (λi h=>h.IsTupleIter it l i/\h.IsTuple l items) where
 live:=λ_ _ ⟨⟨o,ho,_⟩,_⟩=>⟨o,ho⟩
 frame:=λ_ _ _ ⟨⟨o,ho,r⟩,⟨ol,hol,r'⟩⟩ hk=>⟨⟨o,hk it Ws o ho,r⟩,⟨ol,hk l (Wz _ Ws) ol hol,r'⟩⟩
 item:=λi s Q E hi st hQ=>by
  obtain⟨it1,ht⟩:=st
  obtain⟨o,ho,hc,hd⟩:=id it1
  obtain⟨ol,hol,hcl,nl,hdl⟩:=id ht
  have hx:items[i]? = some items[i]:=WA hi
  unfold VW
  refine W0 (V9 (name:=Wr "__next__") it1.typeIs W0y (Vj W0y it1.typeIs W24 ?_ (W21 _)))
  refine W0 (m:=field (.ref it) 0) (W05 ho hd (x:=.ref l) rfl ?_)
  dsimp only
  rw [if_neg (show ¬(Value.ref l == Value.none)=true from Wu)]
  refine W0 (m:=field (.ref it) 1) (W05 ho hd (x:=.int i 0) rfl (W0 (m:=seqItems? (.ref l)) (Vm hol hdl ?_)))
  simp only [Vx,hx]
  refine W0 (W2n ho hd (by simp) (W6 ⟨_,rfl,W6 ?_⟩))
  have sb:=W00 s.heap it (Obj.mapFields (·.setIfInBounds 1 (rawInt ((i:Int)+1))))
  refine hQ _ _ s.toks hx ⟨⟨_,VL _ ho (Obj.isFreed_of_fields (W1y hd _)),(Obj.cls_mapFields ..).trans hc,by rw [W1y hd];simp [rawInt]⟩,?_⟩ sb
  exact ht.extBut sb.extBut hne
 done:=λs Q E st hE=>by
  obtain⟨it1,ht⟩:=st
  obtain⟨o,ho,hc,hd⟩:=id it1
  obtain⟨ol,hol,hcl,nl,hdl⟩:=id ht
  have hx:items[items.size]? = none:=by simp
  unfold VW
  refine W0 (V9 (name:=Wr "__next__") it1.typeIs W0y (Vj W0y it1.typeIs W24 ?_ (W21 _)))
  refine W0 (m:=field (.ref it) 0) (W05 ho hd (x:=.ref l) rfl ?_)
  dsimp only
  rw [if_neg (show ¬(Value.ref l == Value.none)=true from Wu)]
  refine W0 (m:=field (.ref it) 1) (W05 ho hd (x:=.int items.size 0) rfl (W0 (m:=seqItems? (.ref l)) (Vm hol hdl ?_)))
  simp only [Vx,hx]
  refine W0 (W1m (W0 (W2n ho hd (by simp) (W0 (m:=newExc (.type "StopIteration") []) ?_))))
  unfold newExc newTuple
  refine W0 (V8 (W0 (m:=firstArgMember _ _) (W1h (a:=Value.none) (by first|rfl|(simp only [firstArgMember];rfl)) (V8 ?_ (by size_fits)))) (by size_fits))
  unfold raiseNew
  refine W0 (wpAny_handled ?_)
  first|rw [show A.in1.handled=none from hh]|rw [hh]
  exact W0 (W6 (wpAny_throw (hE _ _ (((W00 ..).extBut.push _).push _) ⟨_,Wv _ rfl,rfl⟩)))
structure ZAp (z TI TO i1 i2:Addr) (fp1 fp2:List Addr):Prop where
 a1:TI≠z
 a2:TO≠z
 a3:i1≠z
 a4:i2≠z
 a5:TI≠TO
 a6:TI≠i1
 a7:TI≠i2
 a8:TO≠i1
 a9:TO≠i2
 b1:i1≠i2
 b2:z∉fp1
 b3:z∉fp2
 b4:TO∉fp1
 b5:TO∉fp2
 b6:i1∉fp2
 b7:i2∉fp1
theorem GQ {b:Addr}{fp:List Addr}(h:b∉fp):∀c∈fp,c≠b:=λc hc z=>h (z ▸ hc)
theorem UG {it:Addr}{fp:List Addr}{n i:Nat}{P:Nat->Value->Prop}{St:Nat->Heap->Prop}{b:Addr}{h h':Heap}(D:Draws prog w A it fp n P St)(st:St i h)(sb:W08 b h h')(hb:b∉fp):St i h':=
 D.frame i h h' st λc hc o e=>sb.extBut c o (GQ hb c hc) e
section
variable {z TI TO i1 i2:Addr} {fp1 fp2:List Addr} {n1 n2 k:Nat} {P1 P2:Nat->Value->Prop} {St1 St2:Nat->Heap->Prop} {a b:Value}
theorem Rn {Q:Value->Shared->Prop}(D1:Draws prog w A i1 fp1 n1 P1 St1)(D2:Draws prog w A i2 fp2 n2 P2 St2)(Z:ZAp z TI TO i1 i2 fp1 fp2)(hz:IsZip s.heap z TI TO .none)(hTI:IsPair s.heap TI (.ref i1) (.ref i2))(hTO:IsPair s.heap TO a b)
  (st1:St1 k s.heap) (st2:St2 k s.heap) (k1:k<n1) (k2:k<n2)
  (hQ:∀x y h' tk,P1 k x->P2 k y->IsZip h' z TI TO (rawInt s.heap.objs.size)->IsPair h' TO x y->St1 (k+1) h'->St2 (k+1) h'->IsPair h' s.heap.objs.size x y->h'.objs.size=s.heap.objs.size+1->
   (∀c o,c∉[z,TO,i1,i2]->s.heap.get? c=some o->h'.get? c=some o)->Q (.ref s.heap.objs.size) { s with heap:=h',toks:=tk }) :
  wpAny (model prog w) A (Builtin.«zip.__next__» ⟨[.ref z],[]⟩) (λfin s'=>∃v,fin = .done (.ret v)/\Q v s') E s:=by
 refine W0 (m:=field (.ref z) 2) (W05 hz rfl (x:=.bool false) rfl (W0 (m:=field (.ref z) 3) (W05 hz rfl (x:=.ref TI) rfl (W0 (Vm hTI rfl ?_)))))
 refine W0 (m:=W01 (.ref z)) ?_
 unfold W01
 refine W0 (W05 hz rfl (x:=.none) rfl (W6 ?_))
 simp only [if_true]
 refine W0 (W1m (W0 (W05 hz rfl (x:=.ref TO) rfl (W0 (V7 hz (by simp) λg1 hz1 sb1=>W0 ?_)))))
 have hz1':IsZip g1 z TI TO .ellipsis:=hz1
 simp only [List.zipIdx_cons,List.zipIdx_nil,List.forIn_cons,List.forIn_nil]
 refine W0 (W0 (wpAny_onRaise (W0 (m:=VW (.ref i1)) ?_)))
 refine D1.item k _ _ _ k1 (UG D1 st1 sb1 Z.b2) λx g2 t2 hx st1' sb2=>W6 ?_
 have to2:IsPair g2 TO a b:=sb2.extBut _ _ Z.a8 (sb1.extBut _ _ Z.a2 hTO)
 refine W0 (Vm to2 rfl (W0 (W1Z to2 λg3 to3 sb3=>W0 (W1g (W6 ?_)))))
 have to3':IsPair g3 TO x b:=to3
 refine W0 (W0 (wpAny_onRaise (W0 (m:=VW (.ref i2)) ?_)))
 refine D2.item k _ _ _ k2 (UG D2 (UG D2 (UG D2 st2 sb1 Z.b3) sb2 Z.b6) sb3 Z.b5) λy g4 t4 hy st2' sb4=>W6 ?_
 have to4:IsPair g4 TO x b:=sb4.extBut _ _ Z.a9 to3'
 refine W0 (Vm to4 rfl (W0 (W1Z to4 λg5 to5 sb5=>W0 (W1g (W6 (W6 ?_))))))
 have to5':IsPair g5 TO x y:=to5
 refine W0 (Vm to5' rfl (W0 (wpAny_newTuple ?_)))
 have size5:g5.objs.size=s.heap.objs.size:=by rw [sb5.1,sb4.1,sb3.1,sb2.1,sb1.1]
 have z5:IsZip g5 z TI TO .ellipsis:=sb5.extBut _ _ Z.a2.symm (sb4.extBut _ _ Z.a4.symm (sb3.extBut _ _ Z.a2.symm (sb2.extBut _ _ Z.a3.symm hz1')))
 have kept5:∀c o,c∉[z,TO,i1,i2]->s.heap.get? c=some o->g5.get? c=some o:=λc o hc e=>by
  simp only [Ww,WP,or_false,not_or] at hc
  exact sb5.extBut _ _ hc.2.1 (sb4.extBut _ _ hc.2.2.2 (sb3.extBut _ _ hc.2.1 (sb2.extBut _ _ hc.2.2.1 (sb1.extBut _ _ hc.1 e))))
 have s15:St1 (k+1) g5:=UG D1 (UG D1 (UG D1 st1' sb3 Z.b4) sb4 Z.b7) sb5 Z.b4
 have s25:St2 (k+1) g5:=UG D2 st2' sb5 Z.b5
 have ltz:z<g5.objs.size:=Wt z5
 refine W0 (m:=W15 (.ref z) (.ref g5.objs.size)) ?_
 unfold W15
 have z6:IsZip (g5.push { cls:=.type "tuple",data:=.seq #[x,y] }) z TI TO .ellipsis:=Wj _ z5
 refine W0 (V7 z6 (by simp) λg7 z7 sb7=>?_)
 have z7':IsZip g7 z TI TO (rawInt g5.objs.size):=z7
 refine V7 z7' (by simp) λg8 z8 sb8=>?_
 have z8':IsZip g8 z TI TO (rawInt g5.objs.size):=z8
 have up8:∀c o,c≠z->g5.get? c=some o->g8.get? c=some o:=λc o hc e=>sb8.extBut _ _ hc (sb7.extBut _ _ hc (Wj _ e))
 have new8:IsPair g8 g5.objs.size x y:=sb8.extBut _ _ (W1k ltz) (sb7.extBut _ _ (W1k ltz) (Wv _ rfl))
 have size8:g8.objs.size=g5.objs.size+1:=by rw [sb8.1,sb7.1,W0r]
 rw [size5] at z8' new8 size8
 refine W6 ⟨_,rfl,?_⟩
 show Q (.ref g5.objs.size) _
 rw [size5]
 exact hQ x y g8 _ hx hy z8' (up8 _ _ Z.a2 to5') (D1.frame _ _ _ s15 λc hc o e=>up8 c o (GQ Z.b2 c hc) e) (D2.frame _ _ _ s25 λc hc o e=>up8 c o (GQ Z.b3 c hc) e) new8 size8
  λc o hc e=>up8 c o (λq=>hc (by simp [q])) (kept5 c o hc e)
theorem Fw {Q:PySem.Fin->Shared->Prop}(D1:Draws prog w A i1 fp1 n1 P1 St1)(D2:Draws prog w A i2 fp2 n2 P2 St2)(Z:ZAp z TI TO i1 i2 fp1 fp2)(hz:IsZip s.heap z TI TO .none)(hTI:IsPair s.heap TI (.ref i1) (.ref i2))(hTO:IsPair s.heap TO a b)
  (st1:St1 k s.heap) (st2:St2 k s.heap) (hk:k=n1\/(k<n1/\k=n2))
  (hE:∀h' e tk,(∀c o,c∉[z,TO,i1,i2]->s.heap.get? c=some o->h'.get? c=some o)->(∃o,h'.get? e=some o/\o.cls = .type "StopIteration")->E (.ref e) { s with heap:=h',toks:=tk }) :
  wpAny (model prog w) A (Builtin.«zip.__next__» ⟨[.ref z],[]⟩) Q E s:=by
 refine W0 (m:=field (.ref z) 2) (W05 hz rfl (x:=.bool false) rfl (W0 (m:=field (.ref z) 3) (W05 hz rfl (x:=.ref TI) rfl (W0 (Vm hTI rfl ?_)))))
 refine W0 (m:=W01 (.ref z)) ?_
 unfold W01
 refine W0 (W05 hz rfl (x:=.none) rfl (W6 ?_))
 simp only [if_true]
 refine W0 (W1m (W0 (W05 hz rfl (x:=.ref TO) rfl (W0 (V7 hz (by simp) λg1 hz1 sb1=>W0 ?_)))))
 have hz1':IsZip g1 z TI TO .ellipsis:=hz1
 simp only [List.zipIdx_cons,List.zipIdx_nil,List.forIn_cons,List.forIn_nil]
 refine W0 (W0 (wpAny_onRaise (W0 (m:=VW (.ref i1)) ?_)))
 have fin:∀{g:Heap} {e:Addr} {tk:Nat},IsZip g z TI TO .ellipsis->(∀c o,c∉[z,TO,i1,i2]->s.heap.get? c=some o->g.get? c=some o)->(∃o,g.get? e=some o/\o.cls = .type "StopIteration")->
   ∀(h':Heap),W08 z g h'->E (.ref e) { s with heap:=h',toks:=tk }:=by
  intro g e tk gz gk ⟨oe,he,ce⟩ h' sb
  have ez:e≠z:=λq=>by subst q;rw [gz] at he;cases he;simp at ce
  exact hE h' e tk (λc o hc q=>sb.extBut _ _ (λr=>hc (by simp [r])) (gk c o hc q)) ⟨oe,sb.extBut _ _ ez he,ce⟩
 rcases hk with rfl|⟨k1,rfl⟩
 ·refine D1.done _ _ _ (UG D1 st1 sb1 Z.b2) λg2 e sb2 he=>?_
  have z2:IsZip g2 z TI TO .ellipsis:=sb2 _ _ Z.a3.symm hz1'
  refine V7 z2 (by simp) λg3 _ sb3=>fin z2 (λc o hc q=>?_) he g3 sb3
  simp only [Ww,WP,or_false,not_or] at hc
  exact sb2 _ _ hc.2.2.1 (sb1.extBut _ _ hc.1 q)
 ·refine D1.item k _ _ _ k1 (UG D1 st1 sb1 Z.b2) λx g2 t2 hx st1' sb2=>W6 ?_
  have to2:IsPair g2 TO a b:=sb2.extBut _ _ Z.a8 (sb1.extBut _ _ Z.a2 hTO)
  refine W0 (Vm to2 rfl (W0 (W1Z to2 λg3 to3 sb3=>W0 (W1g (W6 ?_)))))
  refine W0 (W0 (wpAny_onRaise (W0 (m:=VW (.ref i2)) ?_)))
  refine D2.done _ _ _ (UG D2 (UG D2 (UG D2 st2 sb1 Z.b3) sb2 Z.b6) sb3 Z.b5) λg4 e sb4 he=>?_
  have z4:IsZip g4 z TI TO .ellipsis:=sb4 _ _ Z.a4.symm (sb3.extBut _ _ Z.a2.symm (sb2.extBut _ _ Z.a3.symm hz1'))
  refine V7 z4 (by simp) λg5 _ sb5=>fin z4 (λc o hc q=>?_) he g5 sb5
  simp only [Ww,WP,or_false,not_or] at hc
  exact sb4 _ _ hc.2.2.2 (sb3.extBut _ _ hc.2.1 (sb2.extBut _ _ hc.2.2.1 (sb1.extBut _ _ hc.1 q)))
theorem Kv {Q:Option Value->Shared->Prop}(D1:Draws prog w A.in1 i1 fp1 n1 P1 St1)(D2:Draws prog w A.in1 i2 fp2 n2 P2 St2)(Z:ZAp z TI TO i1 i2 fp1 fp2)(hz:IsZip s.heap z TI TO .none)(hTI:IsPair s.heap TI (.ref i1) (.ref i2))(hTO:IsPair s.heap TO a b)
  (st1:St1 k s.heap) (st2:St2 k s.heap) (k1:k<n1) (k2:k<n2)
  (hQ:∀x y h' tk,P1 k x->P2 k y->IsZip h' z TI TO (rawInt s.heap.objs.size)->IsPair h' TO x y->St1 (k+1) h'->St2 (k+1) h'->IsPair h' s.heap.objs.size x y->h'.objs.size=s.heap.objs.size+1->
   (∀c o,c∉[z,TO,i1,i2]->s.heap.get? c=some o->h'.get? c=some o)->Q (some (.ref s.heap.objs.size)) { s with heap:=h',toks:=tk }) :
  wpAny (model prog w) A (pyNext (.ref z)) Q E s:=by
 have hT:s.TypeIs (.ref z) "zip":=⟨_,hz,rfl⟩
 unfold pyNext
 refine W0 (W1z (V9 (name:=Wr "__next__") hT W25 (Vj W25 hT F.entry_zip_next ?_ (F.args_zip_next_1 _))))
 exact Rn D1 D2 Z hz hTI hTO st1 st2 k1 k2 λx y h' tk c1 c2 c3 c4 c5 c6 c7 c8 c9=>W6 (hQ x y h' tk c1 c2 c3 c4 c5 c6 c7 c8 c9)
theorem Pq {Q:Option Value->Shared->Prop}(D1:Draws prog w A.in1 i1 fp1 n1 P1 St1)(D2:Draws prog w A.in1 i2 fp2 n2 P2 St2)(Z:ZAp z TI TO i1 i2 fp1 fp2)(hz:IsZip s.heap z TI TO .none)(hTI:IsPair s.heap TI (.ref i1) (.ref i2))(hTO:IsPair s.heap TO a b)
  (st1:St1 k s.heap) (st2:St2 k s.heap) (hk:k=n1\/(k<n1/\k=n2)) (hQ:∀h' tk,(∀c o,c∉[z,TO,i1,i2]->s.heap.get? c=some o->h'.get? c=some o)->Q none { s with heap:=h',toks:=tk }) :
  wpAny (model prog w) A (pyNext (.ref z)) Q E s:=by
 have hT:s.TypeIs (.ref z) "zip":=⟨_,hz,rfl⟩
 unfold pyNext
 refine W0 (W1z (V9 (name:=Wr "__next__") hT W25 (Vj W25 hT F.entry_zip_next ?_ (F.args_zip_next_1 _))))
 refine Fw D1 D2 Z hz hTI hTO st1 st2 hk λh' e tk kp ⟨o,ho,hc⟩=>?_
 exact W0 (W1e (T:="StopIteration") (b:=true) ⟨o,ho,hc⟩ isSubtype_stop (W6 (hQ h' tk kp)))
end
def Tl:Bool->String
 |true=>"list_iterator"
 |false=>"tuple_iterator"
def Fd (sk:Bool)(h:Heap)(it l:Addr)(k:Nat):Prop:=match sk with|true=>h.IsListIter it l k|false=>h.IsTupleIter it l k
def R9 (sk:Bool)(h:Heap)(l:Addr)(items:Array Value):Prop:=match sk with|true=>h.IsList l items|false=>h.IsTuple l items
theorem Tg (sk:Bool)(hh:A.handled=none)(it l:Addr)(hne:l≠it)(items:Array Value):Draws prog w A it [it,l] items.size (λi v=>items[i]? = some v) (λi h=>Fd sk h it l i/\R9 sk h l items):=by
 cases sk
 ·exact KQ hh it l hne items
 ·exact PySem.Draws.list hh it l hne items
theorem MT (sk:Bool){l:Addr}{items:Array Value}{Q:Value->Shared->Prop}(hl:R9 sk s.heap l items)(hQ:Q (.ref s.heap.objs.size) { s with heap:=s.heap.push { cls:=.type (Tl sk),data:=.fields #[.ref l,.int 0 0] } }) :
  wpAny (model prog w) A (pyIter (.ref l)) Q E s:=by
 cases sk
 ·exact W0R hl hQ
 ·exact W0H hl hQ
theorem R9.push {sk:Bool}{h:Heap}{l:Addr}{items:Array Value}(x:R9 sk h l items)(o:Obj):R9 sk (h.push o) l items:=by
 cases sk
 ·obtain⟨q,e,r⟩:=x
  exact⟨q,Wj _ e,r⟩
 ·exact Heap.IsList.push x _
theorem Fd.new {sk:Bool}{h:Heap}{it l:Addr}(e:h.get? it=some { cls:=.type (Tl sk),data:=.fields #[.ref l,.int 0 0] }):Fd sk h it l 0:=by
 cases sk
 ·exact⟨_,e,rfl,rfl⟩
 ·exact⟨_,e,rfl,rfl⟩
def zh (h:Heap)(c1 c2:Bool)(l1 l2:Addr):Heap:=
 ((((h.push { cls:=.type (Tl c1),data:=.fields #[.ref l1,.int 0 0] }).push { cls:=.type (Tl c2),data:=.fields #[.ref l2,.int 0 0] }).push { cls:=.type "tuple",data:=.seq #[.ref h.objs.size,.ref (h.objs.size+1)] }).push
  { cls:=.type "tuple",data:=.seq #[.none,.none] }).push { cls:=.type "zip",data:=.fields #[.none,.bool false,.bool false,.ref (h.objs.size+2),.ref (h.objs.size+3)] }
theorem Dj (c1 c2:Bool)(l1 l2:Addr)(xs ys:Array Value) :
  Meets (Builtin.«zip.__new__» ⟨[.type "zip",.ref l1,.ref l2],[]⟩) (λ_ R s=>R9 c1 s.heap l1 xs/\R9 c2 s.heap l2 ys/\R (.ok (.ret (.ref (s.heap.objs.size+4)))) { s with heap:=zh s.heap c1 c2 l1 l2 }):=
 .of_wp λprog w A R s h=>by
  obtain⟨hp,g,d,tk,os⟩:=s
  obtain⟨q1,q2,h⟩:=h
  have hsub:=PySem.sub_zip
  have q1':R9 c1 (Shared.heap ⟨hp,g,d,tk,os⟩) l1 xs:=q1
  have q2':R9 c2 (Shared.heap ⟨hp.push { cls:=.type (Tl c1),data:=.fields #[.ref l1,.int 0 0] },g,d,tk,os⟩) l2 ys:=R9.push q2 _
  wp_walk using MT c1 q1',MT c2 q2'
  refine⟨_,rfl,?_⟩
  simp only [W0r] at h ⊢
  unfold zh at h
  exact h
end
end L2
namespace L2
open PySem PySem.Spec PyProof.Rows
theorem Tq {h:Heap}{o:Obj}{n:Nat}(e:h.objs.size=n)(f:o.isFreed=false):(h.push o).get? n=some o:=by rw [←e];exact Wv _ f
theorem Dk (h:Heap)(c1 c2:Bool)(l1 l2:Addr):IsZip (zh h c1 c2 l1 l2) (h.objs.size+4) (h.objs.size+2) (h.objs.size+3) .none/\IsPair (zh h c1 c2 l1 l2) (h.objs.size+2) (.ref h.objs.size) (.ref (h.objs.size+1))/\
  IsPair (zh h c1 c2 l1 l2) (h.objs.size+3) .none .none/\(zh h c1 c2 l1 l2).get? h.objs.size=some { cls:=.type (Tl c1),data:=.fields #[.ref l1,.int 0 0] }/\(zh h c1 c2 l1 l2).get? (h.objs.size+1)=some { cls:=.type (Tl c2),data:=.fields #[.ref l2,.int 0 0] }/\
  ∀b o,h.get? b=some o->(zh h c1 c2 l1 l2).get? b=some o:=by
 unfold zh
 have up:∀{h:Heap} {o p:Obj} {b:Addr},h.get? b=some o->(h.push p).get? b=some o:=λe=>Wj _ e
 exact⟨Tq (by simp [W0r]) rfl,up (up (Tq (by simp [W0r]) rfl)),up (Tq (by simp [W0r]) rfl),up (up (up (up (Tq rfl rfl)))),up (up (up (Tq (by simp [W0r]) rfl))),λb o e=>up (up (up (up (up e))))⟩
section
variable {prog:Program} {w:World} {A:Around} {E:Value->Shared->Prop} {s:Shared}
theorem LW {c1 c2:Bool}{l1 l2:Addr}{xs ys:Array Value}{Q:Value->Shared->Prop}(h1:R9 c1 s.heap l1 xs)(h2:R9 c2 s.heap l2 ys)
  (h:Q (.ref (s.heap.objs.size+4)) { s with heap:=zh s.heap c1 c2 l1 l2 }):wpAny (model prog w) A (call (.type "zip") [.ref l1,.ref l2]) Q E s:=by
 refine callType_new F.called_zip (by decide) (F.typeCall_zip_2 _ _) (F.newCall_zip_2 _ _) (λobj=>F.args_object_init_3 obj _ _) F.entry_zip_new (Dj c1 c2 l1 l2 xs ys) ⟨h1,h2,?_⟩
 exact⟨⟨_,(Dk s.heap c1 c2 l1 l2).1,rfl⟩,h⟩
end
def TrS (c:Bool)(H:Hp)(l:Addr)(xs:List V):Prop:=match c with|true=>H l=some (.lst xs)|false=>H l=some (.tup xs)
theorem TrS.one {c:Bool}{H:Hp}{l:Addr}{xs ys:List V}(h:TrS c H l xs)(h':TrS c H l ys):xs=ys:=by
 cases c
 ·have h1:H l=some (.tup xs):=h
  have h2:H l=some (.tup ys):=h'
  rw [h1] at h2;cases h2;rfl
 ·have h1:H l=some (.lst xs):=h
  have h2:H l=some (.lst ys):=h'
  rw [h1] at h2;cases h2;rfl
theorem TrS.ne {c:Bool}{H:Hp}{l b:Addr}{xs:List V}(h:TrS c H l xs)(hb:H b=none):l≠b:=by
 cases c
 ·exact Zy (show H l=some (.tup xs) from h) hb
 ·exact Zy (show H l=some (.lst xs) from h) hb
theorem TrS.so {X:Cx}{pins:List (Addr×Obj)}{σ:St}{H:Hp}{s:Shared}{c:Bool}{l:Addr}{xs:List V}(I:Inv X pins σ H s)(h:TrS c H l xs):∃its:List Value,Y1 xs its/\R9 c s.heap l its.toArray/\xs.length≤Wk:=by
 cases c
 ·exact I.tuple (.of h)
 ·obtain⟨its,r,pl,z⟩:=I.list (.of h)
  exact⟨its,r,pl.isList,z⟩
def Itz (c1:Bool)(l1:Addr)(c2:Bool)(l2:Addr):It:=
 ⟨λi H=>∃xs ys x y,TrS c1 H l1 xs/\TrS c2 H l2 ys/\xs[i]? = some x/\ys[i]? = some y,
 λi H v H'=>∃p x y,v = .ref p/\H p=none/\H'=upd H p (.tup [x,y])/\(∀xs,TrS c1 H l1 xs->xs[i]? = some x)/\(∀ys,TrS c2 H l2 ys->ys[i]? = some y),
 λi H=>∃xs ys,TrS c1 H l1 xs/\TrS c2 H l2 ys/\(i=xs.length\/(i<xs.length/\i=ys.length))⟩
structure ZD (z TI TO i1 i2:Addr):Prop where
 a1:TI≠z
 a2:TO≠z
 a3:i1≠z
 a4:i2≠z
 a5:TI≠TO
 a6:TI≠i1
 a7:TI≠i2
 a8:TO≠i1
 a9:TO≠i2
 b1:i1≠i2
theorem ZD.ap {z TI TO i1 i2 l1 l2:Addr}(d:ZD z TI TO i1 i2)(h1:∀b∈[z,TI,TO,i1,i2],l1≠b)(h2:∀b∈[z,TI,TO,i1,i2],l2≠b):ZAp z TI TO i1 i2 [i1,l1] [i2,l2]:=by
 simp only [Ww,WP,or_false,forall_eq_or_imp,forall_eq] at h1 h2
 obtain⟨p1,p2,p3,p4,p5⟩:=h1
 obtain⟨q1,q2,q3,q4,q5⟩:=h2
 have no:∀{a b c:Addr},a≠b->a≠c->a∉[b,c]:=λx y z=>by
  simp only [Ww,WP,or_false] at z
  rcases z with z|z
  ·exact x z
  ·exact y z
 exact⟨d.a1,d.a2,d.a3,d.a4,d.a5,d.a6,d.a7,d.a8,d.a9,d.b1,no d.a3.symm p1.symm,no d.a4.symm q1.symm,no d.a8 p3.symm,no d.a9 q3.symm,no d.b1 q4.symm,no d.b1.symm p5.symm⟩
theorem Od {P:Program}{w:World}{H:Hp}{h:Heap}{p:Addr}{x y:V}{u v:Value}(e:IsPair h p u v)(rx:ZL x u)(ry:ZL y v):ZI P w H h p (.tup [x,y]):=
 ⟨by show 2≤Wk;decide,[u,v],.cons rx (.cons ry .nil),⟨⟨_,e,rfl,_,rfl⟩,_,e,rfl⟩⟩
theorem Fz {P:Program}{w:World}{K:Wd}{elts:List Expr}{kt:Nat}{pt:Pos}{c1 c2:Bool}{l1 l2 z TI TO i1 i2:Addr}(d:ZD z TI TO i1 i2) :
  Turn P w K (.Tuple elts kt pt) (Itz c1 l1 c2 l2) [z,TI,TO,i1,i2] z (λi h=>IsZip h z TI TO .none/\IsPair h TI (.ref i1) (.ref i2)/\(∃a b,IsPair h TO a b)/\Fd c1 h i1 l1 i/\Fd c2 h i2 l2 i) where
 mem:=by simp
 obj:=λi h st b hb=>by
  obtain⟨hz,hTI,⟨a,b',hTO⟩,s1,s2⟩:=st
  have seq:∀{c:Bool} {it l:Addr} {k:Nat},Fd c h it l k->∃o,h.get? it=some o/\∀v,o.data≠.cell v:=λ{c it l k} q=>by
   cases c
   ·obtain⟨o,e,_,q⟩:=q
    exact⟨o,e,λv z=>by rw [q] at z;cases z⟩
   ·obtain⟨o,e,_,q⟩:=q
    exact⟨o,e,λv z=>by rw [q] at z;cases z⟩
  simp only [Ww,WP,or_false] at hb
  rcases hb with rfl|rfl|rfl|rfl|rfl
  ·exact⟨_,hz,λv q=>nomatch q⟩
  ·exact⟨_,hTI,λv q=>nomatch q⟩
  ·exact⟨_,hTO,λv q=>nomatch q⟩
  ·exact seq s1
  ·exact seq s2
 keep:=λi h h' st k=>by
  obtain⟨hz,hTI,⟨a,b',hTO⟩,s1,s2⟩:=st
  have seq:∀{c:Bool} {it l:Addr} {k:Nat},(∀o,h.get? it=some o->h'.get? it=some o)->Fd c h it l k->Fd c h' it l k:=λ{c it l k} kp q=>by
   cases c
   ·obtain⟨o,e,q⟩:=q
    exact⟨o,kp o e,q⟩
   ·obtain⟨o,e,q⟩:=q
    exact⟨o,kp o e,q⟩
  exact⟨k z (by simp) _ hz,k TI (by simp) _ hTI,⟨a,b',k TO (by simp) _ hTO⟩,seq (k i1 (by simp)) s1,seq (k i2 (by simp)) s2⟩
 item:=by
  intro X hP hw hK hc i pins s σ H E I hf st hg
  subst hP hw hK
  obtain⟨xs,ys,x,y,t1,t2,hx,hy⟩:=hg
  obtain⟨hz,hTI,⟨a,b',hTO⟩,s1,s2⟩:=st
  obtain⟨its1,r1,o1,_⟩:=t1.so I
  obtain⟨its2,r2,o2,_⟩:=t2.so I
  have n1:∀b∈[z,TI,TO,i1,i2],l1≠b:=λb hb=>t1.ne (hf b hb).1
  have n2:∀b∈[z,TI,TO,i1,i2],l2≠b:=λb hb=>t2.ne (hf b hb).1
  have hh:X.A.in1.handled=none:=I.ok.hd hc
  have D1:=Tg (prog:=X.prog) (w:=X.w) c1 hh i1 l1 (n1 i1 (by simp)) its1.toArray
  have D2:=Tg (prog:=X.prog) (w:=X.w) c2 hh i2 l2 (n2 i2 (by simp)) its2.toArray
  have lx:i<its1.toArray.size:=by rw [Wn,←r1.length];exact (Wo.mp hx).1
  have ly:i<its2.toArray.size:=by rw [Wn,←r2.length];exact (Wo.mp hy).1
  refine Kv D1 D2 (d.ap n1 n2) hz hTI hTO ⟨s1,o1⟩ ⟨s2,o2⟩ lx ly λu v h' tk p1 p2 z' to' st1 st2 new size kept=>?_
  obtain⟨u',eu,ru⟩:=r1.get hx
  obtain⟨v',ev,rv⟩:=r2.get hy
  have hu:u=u':=by
   have:its1.toArray[i]? = some u:=p1
   rw [W1R,eu] at this
   exact (WT this).symm
  have hv:v=v':=by
   have:its2.toArray[i]? = some v:=p2
   rw [W1R,ev] at this
   exact (WT this).symm
  subst hu hv
  refine⟨_,rfl,wpAny_letOwnedTupleGo_zip (s:={ s with heap:=h',toks:=tk }) z' λh'' z'' sb=>?_⟩
  have kp:∀b o,b∉[z,TI,TO,i1,i2]->s.heap.get? b=some o->h''.get? b=some o:=λb o hb e=>by
   simp only [Ww,WP,or_false,not_or] at hb
   exact sb.extBut b o hb.1 (kept b o (by simp only [Ww,WP,or_false,not_or];exact⟨hb.1,hb.2.2.1,hb.2.2.2.1,hb.2.2.2.2⟩) e)
  have hn:H s.heap.objs.size=none:=I.hok.fresh (Wp _)
  have zlt:z<s.heap.objs.size:=Wt hz
  have lt:∀b∈[z,TI,TO,i1,i2],b<s.heap.objs.size:=λb hb=>by
   have seq:∀{c:Bool} {it l:Addr} {k:Nat},Fd c s.heap it l k->it<s.heap.objs.size:=λ{c it l k} q=>by
    cases c
    ·obtain⟨o,e,_⟩:=q;exact Wt e
    ·obtain⟨o,e,_⟩:=q;exact Wt e
   simp only [Ww,WP,or_false] at hb
   rcases hb with rfl|rfl|rfl|rfl|rfl
   ·exact zlt
   ·exact Wt hTI
   ·exact Wt hTO
   ·exact seq s1
   ·exact seq s2
  have new':IsPair h'' s.heap.objs.size u v:=sb.extBut _ _ (W1k zlt) new
  have keepTI:IsPair h'' TI (.ref i1) (.ref i2):=sb.extBut _ _ d.a1 (kept TI _ (by simp only [Ww,WP,or_false,not_or];exact⟨d.a1,d.a5,d.a6,d.a7⟩) hTI)
  have seq:∀{c:Bool} {it l:Addr} {k:Nat},it≠z->Fd c h' it l k->Fd c h'' it l k:=λ{c it l k} ne q=>by
   cases c
   ·obtain⟨o,e,q⟩:=q
    exact⟨o,sb.extBut _ _ ne e,q⟩
   ·obtain⟨o,e,q⟩:=q
    exact⟨o,sb.extBut _ _ ne e,q⟩
  refine⟨.ref s.heap.objs.size,upd H s.heap.objs.size (.tup [x,y]),?_,rfl,⟨_,x,y,rfl,hn,rfl,λws h=>?_,λws h=>?_⟩,⟨z'',keepTI,⟨_,_,sb.extBut _ _ d.a2 to'⟩,seq d.a3 st1.1,seq d.a4 st2.1⟩,λb hb=>?_⟩
  ·have I1:Inv X pins σ (upd H s.heap.objs.size (.tup [x,y])) { s with heap:=s.heap.push { cls:=.type "tuple",data:=.seq #[u,v] } }:=
    I.laid (t':=s.toks) (λb o e=>Wj _ e) (Wp _) (Od (Wv _ rfl) ru rv)
   have fin:(∀b∈[z,TI,TO,i1,i2],Rk X pins (upd H s.heap.objs.size (.tup [x,y])) b)->(∀b o,b∉[z,TI,TO,i1,i2]->(s.heap.push { cls:=.type "tuple",data:=.seq #[u,v] }).get? b=some o->h''.get? b=some o)->
     Inv X pins σ (upd H s.heap.objs.size (.tup [x,y])) { s with heap:=h'',toks:=tk }:=λa1 a2=>Inv.turnedL (s:={ s with heap:=s.heap.push { cls:=.type "tuple",data:=.seq #[u,v] } }) (h':=h'') (t':=tk) (ch:=[z,TI,TO,i1,i2]) I1 a1 a2
   refine fin (λb hb=>?_) λb o hb e=>?_
   ·obtain⟨f0,f⟩:=hf b hb
    exact⟨by rw [Zl (WK (lt b hb))];exact f0,f⟩
   ·by_cases q:b=s.heap.objs.size
    ·subst q
     rw [Wv _ rfl] at e
     cases e
     exact new'
    ·rw [Heap.get?_push_ne _ _ _ q] at e
     exact kp b o hb e
  ·rw [h.one t1];exact hx
  ·rw [h.one t2];exact hy
  ·rw [Zl (WK (lt b hb))];exact (hf b hb).1
 done:=by
  intro X hP hw hK hc i pins s σ H E I hf st hg
  subst hP hw hK
  obtain⟨xs,ys,t1,t2,hend⟩:=hg
  obtain⟨hz,hTI,⟨a,b',hTO⟩,s1,s2⟩:=st
  obtain⟨its1,r1,o1,_⟩:=t1.so I
  obtain⟨its2,r2,o2,_⟩:=t2.so I
  have n1:∀b∈[z,TI,TO,i1,i2],l1≠b:=λb hb=>t1.ne (hf b hb).1
  have n2:∀b∈[z,TI,TO,i1,i2],l2≠b:=λb hb=>t2.ne (hf b hb).1
  have hh:X.A.in1.handled=none:=I.ok.hd hc
  have D1:=Tg (prog:=X.prog) (w:=X.w) c1 hh i1 l1 (n1 i1 (by simp)) its1.toArray
  have D2:=Tg (prog:=X.prog) (w:=X.w) c2 hh i2 l2 (n2 i2 (by simp)) its2.toArray
  refine Pq D1 D2 (d.ap n1 n2) hz hTI hTO ⟨s1,o1⟩ ⟨s2,o2⟩ (by rw [Wn,Wn,←r1.length,←r2.length];exact hend) λh' tk kept=>⟨rfl,I.turnedL hf λb o hb e=>?_⟩
  simp only [Ww,WP,or_false,not_or] at hb
  exact kept b o (by simp only [Ww,WP,or_false,not_or];exact⟨hb.1,hb.2.2.1,hb.2.2.2.1,hb.2.2.2.2⟩) e
 self:=λ_ _ _ _ _ st h=>wpAny_pyIter_zip st.1 h
section
variable {X:Cx} {e1 e2:Expr} {te1 te2:TE} {p pos:Pos}
def Z4x (ta:TA):TI:=λσ H R=>ta σ H λvs H1=>∃c1 l1 xs c2 l2 ys,vs=[.ref l1,.ref l2]/\TrS c1 H1 l1 xs/\TrS c2 H1 l2 ys/\R (Itz c1 l1 c2 l2) H1
theorem DZ {elts:List Expr}{kt:Nat}{pt:Pos}{ta:TA}(hg:Gl X "zip")(hm:X.mg "zip" = none)(hv:WH "zip" = some (.type "zip"))(ha:PA X [e1,e2] ta)
  (he:Wy [e1,e2] X.env=(false,eval e1 X.env) :: Wy [e2] X.env:=by rfl) (hpl:(backTo pos (Wy [e2] X.env)).any (·.1)=false:=by rfl) :
  PI X (.Tuple elts kt pt) (.Call (.Name "zip" p) [e1,e2] [] pos) (Z4x ta):=by
 intro pins s σ H R I h
 refine W03 (U9 I hg hm hv ?_ (by decide) (by decide))
 refine W0u (thn (ha pos pins s σ H _ I h) λus s1 ⟨vs,H1,I1,r1,c1,l1,xs,c2,l2,ys,ev,t1,t2,q⟩=>?_) he hpl
 subst ev
 obtain⟨u1,u2,rfl,ru1,ru2⟩:=Kh r1
 cases ru1
 cases ru2
 obtain⟨its1,_,o1,_⟩:=t1.so I1
 obtain⟨its2,_,o2,_⟩:=t2.so I1
 refine LW o1 o2 ?_
 obtain⟨z1,z2,z3,z4,z5,z6⟩:=Dk s1.heap c1 c2 l1 l2
 refine wpAny_pyIter_zip (s:={ s1 with heap:=zh s1.heap c1 c2 l1 l2 }) z1 ?_
 have ne:∀{a b:Nat},a≠b->s1.heap.objs.size+a≠s1.heap.objs.size+b:=λh q=>h (Nat.add_left_cancel q)
 refine⟨_,_,_,_,H1,rfl,I1.kept (t':=s1.toks) z6,Fz (c1:=c1) (l1:=l1) (c2:=c2) (l2:=l2) ⟨ne (by decide),ne (by decide),ne (a:=0) (by decide),ne (by decide),ne (by decide),ne (b:=0) (by decide),ne (by decide),ne (b:=0) (by decide),ne (by decide),ne (a:=0) (by decide)⟩,⟨z1,z2,⟨_,_,z3⟩,.new z4,.new z5⟩,λb hb=>?_,q⟩
 have hb':s1.heap.objs.size≤b:=by
  simp only [Ww,WP,or_false] at hb
  rcases hb with rfl|rfl|rfl|rfl|rfl<;>omega
 exact I1.fpOk hb' (I1.hok.fresh hb')
end
end L2
namespace L2
open PySem PySem.Spec PyProof.Rows
theorem CA {k:Key}{u:Value}(h:NX k u=true):ZL (kV k) u:=by
 rcases ZS h with ⟨i,t,rfl,rfl⟩|⟨x,t,rfl,rfl⟩
 ·exact⟨t,rfl⟩
 ·exact⟨t,rfl⟩
def Itk (a:Addr)(o:Obj):It:=
 ⟨λi H=>∃(kvs:List (Key×V)) (k:Key) (v:V),H a=some (.frz o (.dK kvs))/\kvs[i]? = some (k,v),
 λi H x H'=>H'=H/\∀kvs:List (Key×V),H a=some (.frz o (.dK kvs))->∃k v,kvs[i]? = some (k,v)/\x=kV k,
 λi H=>∃kvs:List (Key×V),H a=some (.frz o (.dK kvs))/\i=kvs.length⟩
theorem LJ {X:Cx}{pins:List (Addr×Obj)}{σ:St}{H:Hp}{s:Shared}{a:Addr}{o:Obj}{kvs:List (Key×V)}(I:Inv X pins σ H s)(e:H a=some (.frz o (.dK kvs))){es:Array DictEntry}{ep:Nat}(hd:o.data = .dict es ep) :
  ∃vs:List (Key×Value),KV kvs vs/\s.heap.DictAt (ZX X.prog X.w) a vs ep/\es.size=vs.length:=by
 obtain⟨h1,_,_,vs,r,o',es',ep',h2,h3,h4,h5,h6,h7⟩:=(show ZI X.prog X.w H s.heap a (.frz o (.dK kvs)) from I.hok a _ e)
 rw [h1] at h2
 cases h2
 rw [hd] at h4
 cases h4
 exact⟨vs,r,⟨o,es,h1,h3,hd,h5,h6,h7⟩,by rw [←h6.length];simp⟩
theorem KV.get {κ:Type}{kvs:List (κ×V)}{vs:List (κ×Value)}(r:KV kvs vs):∀{i:Nat} {k:κ} {v:V},kvs[i]? = some (k,v)->∃u,vs[i]? = some (k,u)/\ZL v u:=by
 unfold KV at r
 induction r with
 |nil=>intro i k v e;simp at e
 | @cons p q ps qs h t ih=>
  intro i k v e
  cases i with
  |zero=>
   simp at e
   subst e
   have h1:k=q.1:=h.1
   exact⟨q.2,by rw [h1];rfl,h.2⟩
  |succ i=>simpa using ih (by simpa using e)
theorem Rt {P:Program}{w:World}{K:Wd}{tg:Expr}{a it:Addr}{o:Obj}{es:Array DictEntry}{ep:Nat}(hd:o.data = .dict es ep):Turn P w K tg (Itk a o) [it] it (λi h=>h.IsKeyIter it a i es.size ep) where
 mem:=by simp
 obj:=λi h st b hb=>by
  have e:b=it:=by simpa using hb
  subst e
  obtain⟨q,e,_,d⟩:=st
  exact⟨q,e,λv z=>by rw [d] at z;cases z⟩
 keep:=λi h h' st k=>st.at λq e=>k it (by simp) q e
 item:=by
  intro X hP hw hK hc i pins s σ H E I hf st hg
  subst hP hw hK
  obtain⟨kvs,k,v,e,hx⟩:=hg
  obtain⟨vs,r,hm,hz⟩:=LJ I e hd
  obtain⟨u,hu,_⟩:=r.get hx
  obtain⟨f0,f1,f2,f3,f4,f5⟩:=hf it (by simp)
  rw [hz] at st
  refine wpAny_pyNext_dict_item st hm hu λkey h' hk st' sb=>?_
  have I1:Inv X pins σ H { s with heap:=h' }:=I.turned (t':=s.toks) (λb q hb e=>(sb.2 b hb).trans e) f0 f1 f3 f4 f5
  obtain⟨q,eq,c,d⟩:=id st'
  refine⟨key,rfl,AB (s:={ s with heap:=h' }) eq c d (by decide) ⟨kV k,H,I1,CA hk,⟨rfl,λkvs' e'=>?_⟩,by rw [hz];exact st',λb hb=>(hf b hb).1⟩⟩
  rw [e] at e'
  cases e'
  exact⟨k,v,hx,rfl⟩
 done:=by
  intro X hP hw hK hc i pins s σ H E I hf st hg
  subst hP hw hK
  obtain⟨kvs,e,hx⟩:=hg
  obtain⟨vs,r,hm,hz⟩:=LJ I e hd
  obtain⟨f0,f1,f2,f3,f4,f5⟩:=hf it (by simp)
  rw [hz] at st
  exact wpAny_pyNext_dict_end (I.ok.hd hc) st hm (by rw [hx,r.length];simp) λh' eb=>⟨rfl,I.turned (t':=s.toks) (λb q hb e=>eb b q hb e) f0 f1 f3 f4 f5⟩
 self:=λ_ _ _ _ _ st h=>wpAny_pyIter_keyiter st h
section
variable {X:Cx} {pins:List (Addr×Obj)} {σ:St} {H:Hp} {s:Shared} {a:Addr} {kvs:List (Key×V)} {tg:Expr} {E:Value->Shared->Prop} {R:It->Hp->Prop}
theorem Inv.freeze (I:Inv X pins σ H s)(e:H a=some (.dK kvs)):∃(o:Obj) (es:Array DictEntry) (ep:Nat),o.data = .dict es ep/\Inv X pins σ (upd H a (.frz o (.dK kvs))) s:=by
 obtain⟨z,hS,vs,r,o,es,ep,h1,h2,h3,h4⟩:=(show ZI X.prog X.w H s.heap a (.dK kvs) from I.hok a _ e)
 refine⟨o,es,ep,h3,I.view (by rw [e];exact True.intro) ⟨o,h1⟩ ⟨h1,z,hS,vs,r,o,es,ep,h1,h2,h3,h4⟩⟩
theorem P7 {o:Obj}(I:Inv X pins σ H s)(e:H a=some (.frz o (.dK kvs)))(q:R (Itk a o) H):wpAny (model X.prog X.w) X.A (pyIter (.ref a)) (PIE X pins σ tg R) E s:=by
 obtain⟨h1,_,hS,_,_,o',es,ep,h2,_,hd,_⟩:=(show ZI X.prog X.w H s.heap a (.frz o (.dK kvs)) from I.hok a _ e)
 rw [h1] at h2
 cases h2
 obtain⟨vs,r,hm,hz⟩:=LJ I e hd
 refine wpAny_pyIter_dict hS hm ?_
 refine⟨s.heap.objs.size,[s.heap.objs.size],_,_,H,rfl,I.kept (t':=s.toks) λb o e=>Wj _ e,Rt (a:=a) hd,⟨_,Wv _ rfl,rfl,by rw [hz];rfl⟩,λb hb=>?_,q⟩
 have eb:b=s.heap.objs.size:=by simpa using hb
 subst eb
 exact I.fpOk (Wp _) (I.hok.fresh (Wp _))
theorem Inv.notFrz (I:Inv X pins σ H s)(e:H a=some (.dK kvs)):∀o u,X.H₀ a≠some (.frz o u):=λo u z=>by
 have:=I.base.frzs a o u z
 rw [e] at this
 cases this
theorem Mw (I:Inv X pins σ H s)(e:H a=some (.dK kvs))(q:∀o,(∀o u,X.H₀ a≠some (.frz o u))->R (Itk a o) (upd H a (.frz o (.dK kvs)))):wpAny (model X.prog X.w) X.A (pyIter (.ref a)) (PIE X pins σ tg R) E s:=by
 obtain⟨o,es,ep,hd,I'⟩:=I.freeze e
 exact P7 I' Za (q o (I.notFrz e))
end
end L2
namespace L2
open PySem PySem.Spec PyProof.Rows
theorem Tw:typeLookup (.type "tuple") "keys" = pure none:=by rw [typeLookup_type,W1S];kernel_rfl
section
variable {prog:Program} {w:World} {A:Around} {E:Value->Shared->Prop} {s:Shared}
set_option maxRecDepth 8000 in
theorem GT {a:Addr}{o:Obj}{xs:Array Value}{k:Nat}{Q:Option Value->Shared->Prop}(hx:s.heap.get? a=some o)(hc:o.cls = .type "tuple")(hdat:o.data = .seq xs k)(hd:o.dict=none)(hA:A.handled=none)
  (h:∀h' tk,(∀b o,s.heap.get? b=some o->h'.get? b=some o)->Q none { s with heap:=h',toks:=tk }):wpAny (model prog w) A (getAttr? (.ref a) "keys") Q E s:=by
 obtain⟨c,dct,dat,sl⟩:=o
 simp only at hc hdat hd
 subst hc hdat hd
 obtain⟨hp,g,d,tk,os⟩:=s
 have hT:∀tk',(⟨hp,g,d,tk',os⟩:Shared).TypeIs (.ref a) "tuple":=λ_=>⟨_,hx,rfl⟩
 have f1:=sub_AttributeError
 have f3:=W16.lookup
 have f4:=W16.bind (.ref a)
 have f5:=am_tuple_getattr_none
 unfold getAttr? getAttrBy? getAttrBy
 repeat (any_goals (first|assumption|exact hT _|((with_reducible show wpAny _ _ (call (Value.builtin "tuple.__getattribute__") _ _) _ _ _);refine call_meets W16 (hT _) am_entry_tuple_getattribute (F.args_tuple_getattribute_2 _ _) (meets_getattribute_miss_tuple a xs k sl "keys" _ Tw (by decide +kernel) (by size_fits)) ⟨hx,hA,λh' tk' e hx'=>?_⟩)|wp_step))
 obtain⟨t',u',he⟩:=hx'.there
 show wpAny _ _ (getattributeRaised _ _ _ _ _ _ _) _ _ _
 unfold getattributeRaised
 have hT2:(⟨h',g,d,tk',os⟩:Shared).TypeIs (.ref e) "AttributeError":=⟨_,he,rfl⟩
 repeat (any_goals (first|assumption|wp_step))
 exact h _ _ hx'.of.keeps
end
namespace DP
theorem entry_loop:entryFor table "dict.update.loop" = some Builtin.«dict.update.loop»:=entryFor_of_tree (by kernel_rfl)
theorem plain_loop:plainId "dict.update.loop" = true:=by decide +kernel
end DP
section
variable {X:Cx} {pins:List (Addr×Obj)} {σ:St} {A:Around}
theorem Kr {H:Hp}{s:Shared}{p:Addr}{x y:V}{E:Value->Shared->Prop}{Q:List Value->Shared->Prop}(I:Inv X pins σ H s)(hp:H p=some (.tup [x,y]))(h:∀u v,ZL x u->ZL y v->Q [u,v] s) :
  wpAny (model X.prog X.w) A (Builtin.Dict.pairItems (.ref p)) Q E s:=by
 obtain⟨its,rv,ht,_⟩:=I.tuple (.of hp)
 obtain⟨o,ho,hc,n,hd⟩:=(show s.heap.IsTuple p its.toArray from ht)
 obtain⟨u,v,rfl,ru,rv'⟩:=Kh rv
 unfold Builtin.Dict.pairItems
 refine W0 (W0T (T:="tuple") ⟨o,ho,hc⟩ ?_)
 rw [if_pos (by decide)]
 exact W0 (Vm ho hd (W6 (h u v ru rv')))
theorem Bw:∀(ps kvs:List (Key×V)),(Qm kvs ps).length≤kvs.length+ps.length
 |[],kvs=>by unfold Qm;simp
 |p :: ps,kvs=>by
  have h1:=Bw ps (G0 kvs p.1 p.2)
  have h2:=QU kvs p.1 p.2
  show (Qm (G0 kvs p.1 p.2) ps).length≤_
  rw [WX]
  omega
theorem NJ (ps kvs:List (Key×V))(p:Key×V):Qm kvs (ps++[p])=G0 (Qm kvs ps) p.1 p.2:=by unfold Qm;rw [W2t];rfl
theorem Rz {α:Type}{l:List α}{i:Nat}(h:i<l.length):l.take i++[l[i]]=l.take (i+1):=by simp
theorem LP {d it l:Addr}{xs:List V}{ps:List (Key×V)}(hh:A.handled=none)(hlen:xs.length=ps.length)(hsz:ps.length≤Wk){R:Result->Shared->Prop} :
  ∀(m i:Nat) (s:Shared) (H:Hp),ps.length-i=m->i≤ps.length->Inv X pins σ H s->H d=some (.dK (Qm [] (ps.take i)))->H l=some (.tup xs)->
   (∀(j:Nat) k v,ps[j]? = some (k,v)->∃p,xs[j]? = some (.ref p)/\H p=some (.tup [kV k,v]))->Rk X pins H it->s.heap.IsTupleIter it l i->
   (∀s',Inv X pins σ (upd H d (.dK (Qm [] ps))) s'->R (.ok (.ret .none)) s')->
   codeAny (model X.prog X.w) A (.builtin "dict.update.loop" ⟨[.ref d,.ref it,rawInt i,.none],[]⟩) R s:=by
 intro m
 induction m with
 |zero=>
  intro i s H hm hi I hd hl hps hf st k
  have e:i=ps.length:=by omega
  subst e
  obtain⟨its,rv,p,_⟩:=I.tuple (.of hl)
  obtain⟨f0,f1,f2,f3,f4,f5⟩:=id hf
  refine VM DP.entry_loop ?_
  rw [Vl DP.plain_loop _]
  show wpAny _ A.in1 (pyNext (.ref it) >>= _) _ _ s
  refine W0 (wpAny_pyNext_tuple_end (by simpa using hh) st (show s.heap.IsTuple l its.toArray from p) (by have:=rv.length;simp;omega) λh' eb=>?_)
  have I1:Inv X pins σ H { s with heap:=h' }:=I.turned (t':=s.toks) (λb o hb e=>eb b o hb e) f0 f1 f3 f4 f5
  show wpAny _ A.in1 (Builtin.Dict.addKeywords d [] >>= _) _ _ _
  refine W0 (W6 (W6 (k _ ?_)))
  rw [List.take_length] at hd
  have eu:upd H d (.dK (Qm [] ps))=H:=by
   funext b
   unfold upd
   by_cases hb:b=d
   ·rw [if_pos hb,hb,hd]
   ·rw [if_neg hb]
  rw [eu]
  exact I1
 |succ m ih=>
  intro i s H hm hi I hd hl hps hf st k
  have hlt:i<ps.length:=by omega
  obtain⟨its,rv,p,_⟩:=I.tuple (.of hl)
  obtain⟨f0,f1,f2,f3,f4,f5⟩:=id hf
  have hpi:ps[i]? = some (ps[i].1,ps[i].2):=Wm hlt
  obtain⟨q,hq,hH⟩:=hps i _ _ hpi
  obtain⟨u,hu,ru⟩:=rv.get hq
  cases ru
  refine VM DP.entry_loop ?_
  rw [Vl DP.plain_loop _]
  show wpAny _ A.in1 (pyNext (.ref it) >>= _) _ _ s
  refine W0 (wpAny_pyNext_tuple_item st (show s.heap.IsTuple l its.toArray from p) (x:=.ref q) (by simpa using hu) λh' st' sb=>?_)
  have I1:Inv X pins σ H { s with heap:=h' }:=I.turned (t':=s.toks) (λb o hb e=>(sb.2 b hb).trans e) f0 f1 f3 f4 f5
  dsimp only
  refine W0 (Vq (W0 (W17 (Kr I1 hH λa b ra rb=>?_))))
  dsimp only
  refine Vq ?_
  obtain⟨z,hdS,vs,rel,dd⟩:=Z0w I1.hok hd
  have hz:vs.length≤Wk:=by rw [←rel.length];exact z
  have hl1:(G0 (Qm [] (ps.take i)) ps[i].1 ps[i].2).length≤Wk:=by
   have h1:=QU (Qm [] (ps.take i)) ps[i].1 ps[i].2
   have h2:=Bw (ps.take i) []
   rw [W0j] at h2
   simp only [W1u] at h2
   omega
  refine wpAny_dictSet_pairs (hsz:=hz) (BT ra) dd λh2 dd' hs=>?_
  have he:∃q,h2.get? d=some q:=let ⟨q,_,_,hq,_⟩:=dd';⟨q,hq⟩
  have I2:Inv X pins σ (upd H d (.dK (G0 (Qm [] (ps.take i)) ps[i].1 ps[i].2))) { s with heap:=h2,toks:=s.toks+1 }:=UI (s:={ s with heap:=h' }) (h':=h2) (t':=s.toks+1) I1 (by rw [hd];exact True.intro) hs he (Hn hl1 hdS (rel.put ps[i].1 rb) dd')
  have hit:it≠d:=λz=>by rw [z] at f0;rw [f0] at hd;cases hd
  have nd:∀(c:Addr) ys,H c=some (.tup ys)->c≠d:=λc ys e z=>by rw [z,hd] at e;cases e
  refine W6 ⟨W0e DP.plain_loop _,ih (i+1) _ _ (by omega) hlt I2 ?_ (by rw [Zl (nd l xs hl)];exact hl) (λj k v e=>?_) ⟨by rw [Zl hit];exact f0,f1,f2,f3,f4,f5⟩ ?_ λs' I'=>k s' ?_⟩
  ·rw [Za,←NJ,Rz hlt]
  ·obtain⟨c,c1,c2⟩:=hps j k v e
   exact⟨c,c1,by rw [Zl (nd c _ c2)];exact c2⟩
  ·exact st'.at λo e=>(hs.2 it hit).trans e
  ·rw [Qz] at I'
   exact I'
theorem TR (hcalm:X.calm=true):QL X (.type "dict") (λvs H Q=>∃l xs ps,vs=[.ref l]/\H l=some (.tup xs)/\xs.length=ps.length/\ps.length≤Wk/\
  (∀(j:Nat) k v,ps[j]? = some (k,v)->∃p,xs[j]? = some (.ref p)/\H p=some (.tup [kV k,v]))/\∀d,H d=none->Q (.ref d) (upd H d (.dK (Qm [] ps)))):=by
 intro pins s σ H vs us Q I r h
 obtain⟨l,xs,ps,rfl,hl,hlen,hsz,hps,q⟩:=h
 obtain⟨u,rfl,ru⟩:=JN r
 cases ru
 have hh:X.A.handled=none:=I.ok.hd hcalm
 refine callType_codes (Q₁:=λobj s₁=>obj = .ref s.heap.objs.size/\s₁={ s with heap:=s.heap.push { cls:=.type "dict",data:=.dict #[] } }) PySem.F.kt_called_dict (PySem.F.kt_typeCall_dict_1 _) PySem.F.entry_dict_init (kt_code_dict_new _ ⟨rfl,rfl⟩) ?_
 rintro obj s₁ ⟨rfl,rfl⟩
 have hnew:(s.heap.push { cls:=.type "dict",data:=.dict #[] }).DictOf (ZX X.prog X.w) s.heap.objs.size []:=Heap.DictOf.new s.heap
 have hfr:H s.heap.objs.size=none:=I.hok.fresh (Wp _)
 have I1:Inv X pins σ (upd H s.heap.objs.size (.dK [])) { s with heap:=s.heap.push { cls:=.type "dict",data:=.dict #[] } }:=I.laid (a:=s.heap.objs.size) (o:=.dK []) (t':=s.toks) (λ_ _ q=>Wj _ q) (Wp _) (K6 s.heap I.big)
 have hnl:∀(c:Addr) o,H c=some o->c≠s.heap.objs.size:=λc o e z=>by rw [z,hfr] at e;cases e
 have hl1:upd H s.heap.objs.size (.dK []) l=some (.tup xs):=by rw [Zl (hnl l _ hl)];exact hl
 obtain⟨its,rv,ht,_⟩:=I1.tuple (.of hl1)
 obtain⟨o,ho,hc,n,hd⟩:=(show (s.heap.push { cls:=.type "dict",data:=.dict #[] }).IsTuple l its.toArray from ht)
 have hdn:o.dict=none:=by
  obtain⟨_,_,_,_,o',ho',hd'⟩:=(show ZI X.prog X.w _ (s.heap.push { cls:=.type "dict",data:=.dict #[] }) l (.tup xs) from I1.hok l _ hl1)
  rw [ho] at ho'
  cases ho'
  exact hd'
 refine⟨hnew.typeIs,PySem.F.args_dict_init_2 _ _,?_⟩
 unfold Builtin.«dict.__init__»
 refine W0 ?_
 unfold Builtin.Dict.selfAndRest
 refine W0 (wpAny_notOrdered_dict hnew.typeIs ?_)
 show wpAny _ _ (pure (s.heap.objs.size,[Value.ref l])) _ _ _
 refine W6 ?_
 show wpAny _ _ (Builtin.Dict.updateFrom "dict.__init__" s.heap.objs.size (.ref l) [] .none) _ _ _
 unfold Builtin.Dict.updateFrom
 refine W0 (W0T (T:="tuple") ⟨o,ho,hc⟩ ?_)
 rw [if_pos (by decide)]
 refine W0 (GT ho hc hd hdn (by simpa using hh) λh2 tk hk=>?_)
 simp only [Option.isNone_none,if_true]
 have I2:Inv X pins σ (upd H s.heap.objs.size (.dK [])) { s with heap:=h2,toks:=tk }:=I1.kept (t':=tk) hk
 obtain⟨its2,rv2,ht2,_⟩:=I2.tuple (.of hl1)
 refine W0 (W1m (W0 (W0R (show h2.IsTuple l its2.toArray from ht2) ?_)))
 refine W6 ⟨W0e DP.plain_loop _,?_⟩
 have I3:Inv X pins σ (upd H s.heap.objs.size (.dK [])) { s with heap:=h2.push { cls:=.type "tuple_iterator",data:=.fields #[.ref l,.int 0 0] },toks:=tk }:=I2.kept (t':=tk) λb o e=>Wj _ e
 refine LP (l:=l) (it:=h2.objs.size) (by simpa using hh) hlen hsz ps.length 0 _ _ (by omega) (VH _) I3 Za hl1 (λj k v e=>?_) (I2.fpOk (Wp _) (I2.hok.fresh (Wp _))) ⟨_,Wv _ rfl,rfl,rfl⟩ λs' I'=>⟨rfl,?_⟩
 ·obtain⟨c,c1,c2⟩:=hps j k v e
  exact⟨c,c1,by rw [Zl (hnl c _ c2)];exact c2⟩
 ·rw [Qz] at I'
  exact⟨.ref s.heap.objs.size,_,I',rfl,q _ hfr⟩
end
end L2
namespace KS
open PySem PySem.W PyProof.Rows
def ev {α:Type}(lt:Nat->Nat->Bool):KasT α->α
 | .ret a=>a
 | .ask i j k=>ev lt (k (lt i j))
theorem UB {α β:Type}(lt:Nat->Nat->Bool)(f:α->KasT β):∀t:KasT α,ev lt (t.bind f)=ev lt (f (ev lt t))
 | .ret _=>rfl
 | .ask i j k=>UB lt f (k (lt i j))
def Rg {α:Type}(n:Nat):KasT α->Prop
 | .ret _=>True
 | .ask i j k=>i<n/\j<n/\∀b,Rg n (k b)
theorem GJ {α β:Type}{n:Nat}{f:α->KasT β}:∀{t:KasT α},Rg n t->(∀a,Rg n (f a))->Rg n (t.bind f)
 | .ret a,_,h=>h a
 | .ask i j k,⟨h1,h2,h3⟩,h=>⟨h1,h2,λb=>GJ (h3 b) h⟩
def Out {α:Type}(P:α->Prop):KasT α->Prop
 | .ret a=>P a
 | .ask _ _ k=>∀b,Out P (k b)
theorem GI {α β:Type}{n:Nat}{P:α->Prop}{f:α->KasT β}:∀{t:KasT α},Rg n t->Out P t->(∀a,P a->Rg n (f a))->Rg n (t.bind f)
 | .ret a,_,o,h=>h a o
 | .ask i j k,⟨h1,h2,h3⟩,o,h=>⟨h1,h2,λb=>GI (h3 b) (o b) h⟩
theorem Td {α β:Type}{P:α->Prop}{P':β->Prop}{f:α->KasT β}:∀{t:KasT α},Out P t->(∀a,P a->Out P' (f a))->Out P' (t.bind f)
 | .ret a,o,h=>h a o
 | .ask i j k,o,h=>λb=>Td (o b) h
def Al (n:Nat)(p:Array Nat):Prop:=∀x∈p,x<n
theorem Al.get {n:Nat}{p:Array Nat}(h:Al n p)(hn:0<n)(k:Nat):p.getD k 0<n:=by
 by_cases hk:k<p.size
 ·have e:p.getD k 0=p[k]:=by simp [Array.getD,hk]
  rw [e]
  exact h _ (Array.getElem_mem hk)
 ·have e:p.getD k 0=0:=by simp [Array.getD,hk]
  rw [e];exact hn
theorem Al.perm {n:Nat}{p q:Array Nat}(h:Al n p)(hp:q.Perm p):Al n q:=λx hx=>h x (hp.mem_iff.mp hx)
theorem Al.rev {n:Nat}{p:Array Nat}(h:Al n p)(i j:Nat):Al n (W1i p i j):=h.perm (mirror_perm _ _ _ _)
theorem Al.bub {n:Nat}{p:Array Nat}(h:Al n p)(i j:Nat):Al n (bubble p i j):=h.perm (bubble_perm _ _ _)
section
variable {n:Nat} (hn:0<n)
include hn
theorem RS {p:Array Nat}(h:Al n p):∀f k,Rg n (W1K p f k)
 |0,_=>trivial
 |f+1,k=>⟨h.get hn _,h.get hn _,λb=>by
  cases b
  ·exact RS h f (k+1)
  ·exact trivial⟩
theorem GH:∀f {p:Array Nat} (_:Al n p) k q,Rg n (W1f f p k q)
 |0,_,_,_,_=>trivial
 |f+1,p,h,k,q=>⟨h.get hn _,h.get hn _,λb=>by
  cases b
  ·refine⟨h.get hn _,h.get hn _,λb=>?_⟩
   cases b
   ·exact GH f h (k+1) (q+1)
   ·exact trivial
  ·show Rg n (if q>0 then W1f f (W1i p (k-(q+1)) k) (k+1) 0 else W1f f p (k+1) 0)
   split
   ·exact GH f (h.rev _ _) _ _
   ·exact GH f h _ _⟩
theorem U4:∀f {p:Array Nat} (_:Al n p) k q,Out (λr=>Al n r.1) (W1f f p k q)
 |0,_,h,_,_=>h
 |f+1,p,h,k,q=>λb=>by
  cases b
  ·intro b
   cases b
   ·exact U4 f h (k+1) (q+1)
   ·exact h
  ·show Out _ (if q>0 then W1f f (W1i p (k-(q+1)) k) (k+1) 0 else W1f f p (k+1) 0)
   split
   ·exact U4 f (h.rev _ _) _ _
   ·exact U4 f h _ _
theorem Mu {p:Array Nat}(h:Al n p)(a b:Nat):Rg n (kas_tail3 a b p):=GJ (RS hn (h.rev _ _) _ _) λ_=>trivial
theorem ND {α:Type}{P:α->Prop}(h:∀a,P a):∀t:KasT α,Out P t
 | .ret a=>h a
 | .ask i j k=>λb=>ND h (k b)
theorem Bv {p:Array Nat}(h:Al n p)(a b:Nat):Out (λr=>Al n r.2) (kas_tail3 a b p):=Td (P:=λ_=>True) (ND hn (λ_=>trivial) _) λ_ _=>h.rev _ _
theorem To {p:Array Nat}(h:Al n p)(a b:Nat):Rg n (W2k a b p):=GI (GH hn _ h _ _) (U4 hn _ h _ _) λr hr=>by
 split
 ·exact Mu hn (hr.rev _ _) _ _
 ·exact Mu hn hr _ _
theorem UT {p:Array Nat}(h:Al n p)(a b:Nat):Out (λr=>Al n r.2) (W2k a b p):=Td (U4 hn _ h _ _) λr hr=>by
 split
 ·exact Bv hn (Al.rev hr _ _) _ _
 ·exact Bv hn hr _ _
theorem FR {p:Array Nat}(h:Al n p)(a:Nat):Rg n (kas_count a p):=GJ (RS hn h _ _) λm=>by
 split
 ·exact trivial
 ·split
  ·refine⟨h.get hn _,h.get hn _,λb=>?_⟩
   cases b
   ·exact To hn (h.rev _ _) _ _
   ·exact trivial
  ·exact To hn h _ _
theorem Pf {p:Array Nat}(h:Al n p)(a:Nat):Out (λr=>Al n r.2) (kas_count a p):=Td (P:=λ_=>True) (ND hn (λ_=>trivial) _) λm _=>by
 split
 ·exact h
 ·split
  ·intro b
   cases b
   ·exact UT hn (h.rev _ _) _ _
   ·exact h
  ·exact UT hn h _ _
theorem GE {p:Array Nat}(h:Al n p)(k:Nat):∀f l r,Rg n (W26 p k f l r)
 |0,_,_=>trivial
 |f+1,l,r=>by
  unfold W26
  split
  ·exact trivial
  ·refine⟨h.get hn _,h.get hn _,λb=>?_⟩
   cases b
   ·exact GE h k f _ _
   ·exact GE h k f _ _
theorem Ed:∀f {p:Array Nat} (_:Al n p) k,Rg n (kas_bin f p k)
 |0,_,_,_=>trivial
 |f+1,p,h,k=>GJ (GE hn h k _ _ _) λ_=>Ed f (h.bub _ _) _
end
theorem Ke (n:Nat):Al n (W0g (W7 n)):=λx hx=>by simpa using hx
theorem rg_sort {n:Nat}(hn:0<n):Rg n (W1N n):=GI (FR hn (Ke n) _) (Pf hn (Ke n) _) λr hr=>by
 split
 ·exact Ed hn _ hr _
 ·exact trivial
structure Ord (lt:Nat->Nat->Bool):Prop where
 irr:∀i,lt i i=false
 tr:∀i j k,lt j i=false->lt k j=false->lt k i=false
 as:∀i j,lt i j=true->lt j i=false
section
variable {lt:Nat->Nat->Bool} (O:Ord lt) {p q:Array Nat}
abbrev le (lt:Nat->Nat->Bool)(i j:Nat):Prop:=lt j i=false
theorem Ord.lt_le (O:Ord lt){i j k:Nat}(h1:lt i j=true)(h2:le lt j k):lt i k=true:=by
 cases h:lt i k
 ·have:=O.tr j k i h2 h
  rw [h1] at this
  cases this
 ·rfl
def So (lt:Nat->Nat->Bool)(p:Array Nat)(n:Nat):Prop:=∀i j,i≤j->j<n->le lt (p.getD i 0) (p.getD j 0)
def De (lt:Nat->Nat->Bool)(p:Array Nat)(n:Nat):Prop:=∀i j,i≤j->j<n->le lt (p.getD j 0) (p.getD i 0)
theorem JA {p:Array Nat}{i j:Nat}(hj:j≤p.size)(k:Nat):(W1i p i j).getD k 0=if i≤k/\k<j then p.getD (i+j-1-k) 0 else p.getD k 0:=by
 have:=getElem?_mirror_all (xs:=p) (i:=i) hj k
 simp only [Vz]
 unfold W1i
 rw [this]
 split<;>rfl
include O
theorem F7:∀f n,1≤n->So lt p n->n≤ev lt (W1K p f n)/\ev lt (W1K p f n)≤n+f/\So lt p (ev lt (W1K p f n))/\(ev lt (W1K p f n)<n+f->lt (p.getD (ev lt (W1K p f n)) 0) (p.getD (ev lt (W1K p f n)-1) 0)=true)
 |0,n,_,h=>⟨Wp _,Wp _,h,λz=>absurd z (VE _)⟩
 |f+1,n,h1,h=>by
  show n≤ev lt (if lt (p.getD n 0) (p.getD (n-1) 0)=true then KasT.ret n else W1K p f (n+1))/\ev lt (if lt (p.getD n 0) (p.getD (n-1) 0)=true then KasT.ret n else W1K p f (n+1))≤n+(f+1)/\So lt p (ev lt (if lt (p.getD n 0) (p.getD (n-1) 0)=true then KasT.ret n else W1K p f (n+1)))/\(ev lt (if lt (p.getD n 0) (p.getD (n-1) 0)=true then KasT.ret n else W1K p f (n+1))<n+(f+1)->lt (p.getD (ev lt (if lt (p.getD n 0) (p.getD (n-1) 0)=true then KasT.ret n else W1K p f (n+1))) 0) (p.getD (ev lt (if lt (p.getD n 0) (p.getD (n-1) 0)=true then KasT.ret n else W1K p f (n+1))-1) 0)=true)
  by_cases c:lt (p.getD n 0) (p.getD (n-1) 0)=true
  ·rw [if_pos c]
   exact⟨Wp _,Nat.le_add_right _ _,h,λ_=>c⟩
  ·rw [if_neg c]
   have h':So lt p (n+1):=λi j hij hj=>by
    by_cases q:j<n
    ·exact h i j hij q
    ·have ej:j=n:=by omega
     subst ej
     by_cases q2:i=j
     ·rw [q2];exact O.irr _
     ·exact O.tr _ _ _ (h i (j-1) (by omega) (by omega)) (by simpa using c)
   obtain⟨a,b,c,d⟩:=F7 f (n+1) (by omega) h'
   exact⟨by omega,by omega,c,λz=>d (by omega)⟩
omit O in
theorem De.eqv {n:Nat}(O:Ord lt)(h:De lt p n)(e:∀k,k<n->le lt (q.getD k 0) (p.getD k 0)/\le lt (p.getD k 0) (q.getD k 0)):De lt q n:=λi j hij hj=>
 O.tr _ _ _ (e j hj).1 (O.tr _ _ _ (h i j hij hj) (e i (by omega)).2)
omit O in
theorem So.ofDe {n:Nat}(h:De lt p n)(hn:n≤p.size):So lt (W1i p 0 n) n:=λi j hij hj=>by
 rw [JA hn,JA hn,if_pos (by omega),if_pos (by omega)]
 exact h (0+n-1-j) (0+n-1-i) (by omega) (by omega)
def Run (lt:Nat->Nat->Bool)(p:Array Nat)(n q:Nat):Prop:=q+1≤n/\∀i,n-(q+1)≤i->i<n->le lt (p.getD i 0) (p.getD (n-1) 0)/\le lt (p.getD (n-1) 0) (p.getD i 0)
omit O in
theorem RP {n k:Nat}(O:Ord lt)(h:Run lt p n k)(hn:n≤p.size):∀i,i<p.size->le lt ((W1i p (n-(k+1)) n).getD i 0) (p.getD i 0)/\le lt (p.getD i 0) ((W1i p (n-(k+1)) n).getD i 0):=λi hi=>by
 rw [JA hn]
 by_cases c:n-(k+1)≤i/\i<n
 ·rw [if_pos c]
  have a:=h.2 (n-(k+1)+n-1-i) (by omega) (by omega)
  have b:=h.2 i c.1 c.2
  exact⟨O.tr _ _ _ a.1 b.2,O.tr _ _ _ b.1 a.2⟩
 ·rw [if_neg c]
  exact⟨O.irr _,O.irr _⟩
def DP (lt:Nat->Nat->Bool)(p:Array Nat)(a b:Nat)(r:Array Nat×Nat×Nat):Prop:=r.1.size=p.size/\r.1.Perm p/\a≤r.2.1/\r.2.1≤b/\De lt r.1 r.2.1/\Run lt r.1 r.2.1 r.2.2
theorem LQ:∀f (p:Array Nat) n k,De lt p n->Run lt p n k->n+f≤p.size->DP lt p n (n+f) (ev lt (W1f f p n k))
 |0,p,n,k,h,r,hz=>⟨rfl,.refl _,Wp _,Wp _,h,r⟩
 |f+1,p,n,k,h,r,hz=>by
  have h1:=r.1
  have step:∀(p1:Array Nat) (k1:Nat),p1.size=p.size->p1.Perm p->De lt p1 (n+1)->Run lt p1 (n+1) k1->DP lt p n (n+(f+1)) (ev lt (W1f f p1 (n+1) k1)):=λp1 k1 s1 pm d1 r1=>by
   obtain⟨a,b,c,d,e,g⟩:=LQ f p1 (n+1) k1 d1 r1 (by omega)
   exact⟨a.trans s1,b.trans pm,by omega,by omega,e,g⟩
  show DP lt p n (n+(f+1)) (ev lt (if lt (p.getD n 0) (p.getD (n-1) 0)=true then (if k>0 then W1f f (W1i p (n-(k+1)) n) (n+1) 0 else W1f f p (n+1) 0)
   else .ask (p.getD (n-1) 0) (p.getD n 0) λd=>if d=true then .ret (p,n,k) else W1f f p (n+1) (k+1)))
  have run0:∀p1:Array Nat,Run lt p1 (n+1) 0:=λp1=>⟨by omega,λi a b=>by
   have:i=n:=by omega
   subst this
   exact⟨O.irr _,O.irr _⟩⟩
  have more:∀p1:Array Nat,De lt p1 n->p1.getD n 0=p.getD n 0->le lt (p.getD n 0) (p1.getD (n-1) 0)->De lt p1 (n+1):=λp1 d1 e1 l1 i j hij hj=>by
   by_cases c:j<n
   ·exact d1 i j hij c
   ·have ej:j=n:=by omega
    subst ej
    by_cases c2:i=j
    ·rw [c2];exact O.irr _
    ·rw [e1]
     exact O.tr _ _ _ l1 (d1 i (j-1) (by omega) (by omega))
  by_cases c:lt (p.getD n 0) (p.getD (n-1) 0)=true
  ·rw [if_pos c]
   by_cases ck:k>0
   ·rw [if_pos ck]
    have rr:=RP O r (by omega)
    refine step _ 0 (W27 _ _ _ _) (mirror_perm _ _ _ _) (more _ (h.eqv O λi hi=>rr i (by omega)) ?_ ?_) (run0 _)
    ·rw [JA (by omega),if_neg (by omega)]
    ·exact O.tr _ _ _ (O.as _ _ c) (rr (n-1) (by omega)).2
   ·rw [if_neg ck]
    exact step p 0 rfl (.refl _) (more p h rfl (O.as _ _ c)) (run0 _)
  ·rw [if_neg c]
   show DP lt p n (n+(f+1)) (ev lt (if lt (p.getD (n-1) 0) (p.getD n 0)=true then .ret (p,n,k) else W1f f p (n+1) (k+1)))
   by_cases d:lt (p.getD (n-1) 0) (p.getD n 0)=true
   ·rw [if_pos d]
    exact⟨rfl,.refl _,Wp _,Nat.le_add_right _ _,h,r⟩
   ·rw [if_neg d]
    have c':le lt (p.getD (n-1) 0) (p.getD n 0):=by simpa using c
    have d':le lt (p.getD n 0) (p.getD (n-1) 0):=by simpa using d
    refine step p (k+1) rfl (.refl _) (more p h rfl d') ⟨by omega,λi a b=>?_⟩
    by_cases ci:i=n
    ·subst ci;exact⟨O.irr _,O.irr _⟩
    ·have z:=r.2 i (by omega) (by omega)
     exact⟨O.tr _ _ _ z.1 c',O.tr _ _ _ d' z.2⟩
def CP (lt:Nat->Nat->Bool)(p:Array Nat)(b:Nat)(r:Nat×Array Nat):Prop:=r.2.size=p.size/\r.2.Perm p/\1≤r.1/\r.1≤b/\So lt r.2 r.1
theorem Mm {n b:Nat}(h:De lt p n)(h1:1≤n)(hb:n≤b)(hz:b≤p.size):CP lt p b (ev lt (kas_tail3 n b p)):=by
 unfold kas_tail3
 rw [UB]
 obtain⟨x,y,z,_⟩:=F7 O (p:=W1i p 0 n) (b-n) n h1 (So.ofDe h (by omega))
 exact⟨W27 _ _ _ _,mirror_perm _ _ _ _,by show 1≤ev lt _;omega,by show ev lt _≤b;omega,z⟩
theorem TL {n b:Nat}(h:De lt p (n+1))(hb:n+1≤b)(hz:b≤p.size):CP lt p b (ev lt (W2k n b p)):=by
 unfold W2k
 rw [UB]
 obtain⟨a,c,d,e,f,g⟩:=LQ O (b-(n+1)) p (n+1) 0 h ⟨by omega,λi x y=>by
  have:i=n+1-1:=by omega
  subst this
  exact⟨O.irr _,O.irr _⟩⟩ (by omega)
 generalize ev lt (W1f (b-(n+1)) p (n+1) 0)=r at *
 split
 ·have rr:=RP O g (by omega)
  obtain⟨x1,x2,x3,x4,x5⟩:=Mm O (p:=W1i r.1 (r.2.1-(r.2.2+1)) r.2.1) (n:=r.2.1) (b:=b) (f.eqv O λi hi=>rr i (by omega)) (by omega) (by omega) (by unfold W1i;rw [W27];omega)
  exact⟨x1.trans ((W27 _ _ _ _).trans a),x2.trans ((mirror_perm _ _ _ _).trans c),x3,x4,x5⟩
 ·obtain⟨x1,x2,x3,x4,x5⟩:=Mm O (p:=r.1) (n:=r.2.1) (b:=b) f (by omega) (by omega) (by omega)
  exact⟨x1.trans a,x2.trans c,x3,x4,x5⟩
theorem AM (hz:1≤p.size):CP lt p p.size (ev lt (kas_count p.size p)):=by
 unfold kas_count
 rw [UB]
 obtain⟨x,y,z,w⟩:=F7 O (p:=p) (p.size-1) 1 (Wp _) λi j hij hj=>by
  have h1:i=0:=by omega
  have h2:j=0:=by omega
  subst h1 h2
  exact O.irr _
 generalize ev lt (W1K p (p.size-1) 1)=n at *
 split
 ·exact⟨rfl,.refl _,x,by show n≤p.size;omega,z⟩
 ·rename_i hne
  have hne':n≠p.size:=λe=>hne (by rw [e];exact beq_self_eq_true _)
  have wl:=w (by omega)
  split
  ·show CP lt p p.size (ev lt (if lt (p.getD 0 0) (p.getD (n-1) 0)=true then .ret (n,p) else W2k n p.size (W1i p 0 n)))
   by_cases c:lt (p.getD 0 0) (p.getD (n-1) 0)=true
   ·rw [if_pos c]
    exact⟨rfl,.refl _,x,by show n≤_;omega,z⟩
   ·rw [if_neg c]
    have c':le lt (p.getD (n-1) 0) (p.getD 0 0):=by simpa using c
    have all:∀i j,i<n->j<n->le lt (p.getD i 0) (p.getD j 0):=λi j hi hj=>O.tr _ _ _ (z i (n-1) (by omega) (by omega)) (O.tr _ _ _ c' (z 0 j (by omega) hj))
    have hd:De lt (W1i p 0 n) (n+1):=λi j hij hj=>by
     rw [JA (by omega),JA (by omega)]
     by_cases cj:j<n
     ·rw [if_pos (by omega),if_pos (by omega)]
      exact all _ _ (by omega) (by omega)
     ·have ej:j=n:=by omega
      subst ej
      rw [if_neg (by omega)]
      by_cases ci:i=j
      ·rw [if_neg (by omega),ci];exact O.irr _
      ·rw [if_pos (by omega)]
       exact O.tr _ _ _ (O.as _ _ wl) (all _ _ (by omega) (by omega))
    obtain⟨x1,x2,x3,x4,x5⟩:=TL O (p:=W1i p 0 n) (n:=n) (b:=p.size) hd (by omega) (by unfold W1i;rw [W27];exact Wp _)
    exact⟨x1.trans (W27 _ _ _ _),x2.trans (mirror_perm _ _ _ _),x3,x4,x5⟩
  ·have en:n=1:=by omega
   subst en
   refine TL O (λi j hij hj=>?_) (by omega) (Wp _)
   by_cases ci:i=j
   ·rw [ci];exact O.irr _
   ·have h1:i=0:=by omega
    have h2:j=1:=by omega
    subst h1 h2
    exact O.as _ _ wl
theorem GL {k:Nat}(hs:So lt p k):∀f l r,l≤r->r≤k->r-l≤f->(∀i,i<l->le lt (p.getD i 0) (p.getD k 0))->(∀i,r≤i->i<k->lt (p.getD k 0) (p.getD i 0)=true)->
  ∃m,ev lt (W26 p k f l r)=m/\m≤k/\(∀i,i<m->le lt (p.getD i 0) (p.getD k 0))/\∀i,m≤i->i<k->lt (p.getD k 0) (p.getD i 0)=true
 |0,l,r,h1,h2,h3,a,b=>⟨l,rfl,by omega,a,λi x y=>b i (by omega) y⟩
 |f+1,l,r,h1,h2,h3,a,b=>by
  unfold W26
  split
  ·exact⟨l,rfl,by omega,a,λi x y=>b i (by omega) y⟩
  ·rename_i hlr
   show ∃m,ev lt (if lt (p.getD k 0) (p.getD ((l+r) / 2) 0)=true then W26 p k f l ((l+r) / 2) else W26 p k f ((l+r) / 2+1) r)=m/\_
   by_cases c:lt (p.getD k 0) (p.getD ((l+r) / 2) 0)=true
   ·rw [if_pos c]
    refine GL hs f l ((l+r) / 2) (by omega) (by omega) (by omega) a λi x y=>?_
    exact O.lt_le c (hs _ _ x y)
   ·rw [if_neg c]
    refine GL hs f ((l+r) / 2+1) r (by omega) h2 (by omega) (λi x=>?_) b
    exact O.tr _ _ _ (hs i ((l+r) / 2) (by omega) (by omega)) (by simpa using c)
omit O in
theorem K1 {p:Array Nat}{k d:Nat}(hk:k<p.size)(hd:d≤k)(i:Nat):(bubble p k d).getD i 0=if i=k-d then p.getD k 0 else if k-d<i/\i≤k then p.getD (i-1) 0 else p.getD i 0:=by
 have:=getElem?_bubble (xs:=p) hk d hd i
 simp only [Vz]
 rw [this]
 split
 ·rfl
 ·split<;>rfl
theorem Ht:∀f (p:Array Nat) k,So lt p k->k+f≤p.size->(ev lt (kas_bin f p k)).Perm p/\So lt (ev lt (kas_bin f p k)) (k+f)
 |0,p,k,h,_=>⟨.refl _,h⟩
 |f+1,p,k,h,hz=>by
  show (ev lt ((W26 p k k 0 k).bind λl=>kas_bin f (bubble p k (k-l)) (k+1))).Perm p/\So lt (ev lt ((W26 p k k 0 k).bind λl=>kas_bin f (bubble p k (k-l)) (k+1))) (k+(f+1))
  rw [UB]
  obtain⟨m,e,hm,a,b⟩:=GL O h k 0 k (VH _) (Wp _) (by omega) (λi x=>by omega) (λi x y=>by omega)
  rw [e]
  have hs:So lt (bubble p k (k-m)) (k+1):=λi j hij hj=>by
   rw [K1 (by omega) (by omega),K1 (by omega) (by omega)]
   by_cases i1:i=k-(k-m)
   ·rw [if_pos i1]
    by_cases j1:j=k-(k-m)
    ·rw [if_pos j1];exact O.irr _
    ·rw [if_neg j1,if_pos (by omega)]
     exact O.as _ _ (b (j-1) (by omega) (by omega))
   ·rw [if_neg i1]
    by_cases i2:k-(k-m)<i/\i≤k
    ·rw [if_pos i2,if_neg (by omega),if_pos (by omega)]
     exact h (i-1) (j-1) (by omega) (by omega)
    ·rw [if_neg i2]
     by_cases j1:j=k-(k-m)
     ·rw [if_pos j1]
      exact a i (by omega)
     ·rw [if_neg j1]
      by_cases j2:k-(k-m)<j/\j≤k
      ·rw [if_pos j2]
       exact h i (j-1) (by omega) (by omega)
      ·rw [if_neg j2]
       exact h i j hij (by omega)
  obtain⟨x,y⟩:=Ht f (bubble p k (k-m)) (k+1) hs (by rw [bubble_size];omega)
  exact⟨x.trans (bubble_perm _ _ _),by rw [show k+(f+1)=k+1+f by omega];exact y⟩
theorem sort_ok {n:Nat}(hn:1≤n):(ev lt (W1N n)).Perm (W0g (W7 n))/\So lt (ev lt (W1N n)) n:=by
 unfold W1N
 rw [UB]
 have hz:(W0g (W7 n)).size=n:=by simp
 obtain⟨a,b,c,d,e⟩:=AM O (p:=W0g (W7 n)) (by omega)
 rw [hz] at a b c d e
 generalize ev lt (kas_count n (W0g (W7 n)))=r at *
 split
 ·obtain⟨x,y⟩:=Ht O (n-max r.1 1) r.2 (max r.1 1) (by rw [show max r.1 1=r.1 by omega];exact e) (by omega)
  exact⟨x.trans b,by rw [show max r.1 1+(n-max r.1 1)=n by omega] at y;exact y⟩
 ·have:r.1=n:=by omega
  exact⟨b,by show So lt r.2 n;rw [←this];exact e⟩
end
end KS
namespace L2
open PySem PySem.Spec PyProof.Rows
def UN (h:Heap)(d:Addr)(es:Array DictEntry)(ep:Nat):Prop:=∃o,h.get? d=some o/\o.ExactDict/\o.data = .dict es ep
theorem UN.ty {s:Shared}{d:Addr}{es:Array DictEntry}{ep:Nat}(h:UN s.heap d es ep):s.TypeIs (.ref d) "dict":=let ⟨o,h1,h2,_⟩:=h;⟨o,h1,h2.1⟩
theorem UN.keep {h h':Heap}{d:Addr}{es:Array DictEntry}{ep:Nat}(x:UN h d es ep)(k:∀o,h.get? d=some o->h'.get? d=some o):UN h' d es ep:=let ⟨o,h1,r⟩:=x;⟨o,k o h1,r⟩
section
variable {prog:Program} {w:World} {A:Around} {E:Value->Shared->Prop} {s:Shared} {it d:Addr} {es:Array DictEntry} {ep i:Nat}
theorem FU {Q:Value->Shared->Prop}(hd:(d == sysModules)=false)(hm:UN s.heap d es ep)
  (q:Q (.ref s.heap.objs.size) { s with heap:=s.heap.push { cls:=.type "dict_keyiterator",data:=.fields #[.ref d,.int 0 0,.int es.size 0,.int ep 0] } }):wpAny (model prog w) A (pyIter (.ref d)) Q E s:=by
 obtain⟨o,ho,hc,hdat⟩:=id hm
 refine W2u hm.ty PySem.F.slot_dict_iter (Vj PySem.F.slot_dict_iter hm.ty PySem.F.entry_dict_iter ?_ (PySem.F.args_dict_iter_1 _))
 unfold Builtin.«dict.__iter__» Builtin.Dict.dictSlotNone
 refine W0 (W0 (wpAny_notOrdered_dict hm.ty (W6 ?_)))
 show wpAny _ _ (Builtin.Dict.showsAll d >>= _) _ _ s
 unfold Builtin.Dict.showsAll
 rw [hd]
 refine W0 (W6 (W0 (W1J ho hdat (W0 (wpAny_dictEpoch ho hdat ?_)))))
 exact W0 (V8 (W6 ⟨_,rfl, "dict_keyiterator",_,⟨_,Wv _ rfl,rfl⟩,VF.lookup,by simpa [rawInt] using q⟩))
theorem FT {e:DictEntry}{Q:Option Value->Shared->Prop}(hit:s.heap.IsKeyIter it d i es.size ep)(hm:UN s.heap d es ep)(hx:es[i]? = some e)
  (q:∀h',h'.IsKeyIter it d (i+1) es.size ep->W08 it s.heap h'->Q (some e.key) { s with heap:=h' }):wpAny (model prog w) A (pyNext (.ref it)) Q E s:=by
 obtain⟨o,ho,hc,hd⟩:=id hit
 obtain⟨od,hod,hcd,hdd⟩:=id hm
 have hlt:i<es.size:=(Vn.mp hx).1
 have hown:W22 "dict_keyiterator" = false:=by decide
 unfold pyNext
 refine W0 (W1z (V9 (name:=Wr "__next__") hit.typeIs VF (Vj VF hit.typeIs W1j ?_ (W18 _))))
 refine W0 (W6 (W0 (W0 ?_)))
 first|refine W0 (W0k hit.typeIs (W6 (W0 (W19 ho hd ?_))))|refine W0 (W0I hit.typeIs (W6 (W0 (W19 ho hd ?_))))
 simp only [hown,WL,if_false]
 show wpAny _ _ (if (Value.ref d == Value.none)=true then _ else _) _ _ s
 rw [if_neg (show ¬((Value.ref d == Value.none)=true) from Wu)]
 refine W0 (W6 (W0 (W1J hod hdd ?_)))
 rw [if_neg (by simp)]
 refine W0 (W6 (W0 (wpAny_dictEpoch hod hdd ?_)))
 rw [if_neg (by simp)]
 refine W6 ?_
 simp only [show ¬((i:Int)<0) from by omega,if_false,Vx,hx]
 refine W0 ?_
 first|refine W0 (W0k hit.typeIs (W6 (W0 (W1T hit.typeIs ?_))))|refine W0 (W0I hit.typeIs (W6 (W0 (W1T hit.typeIs ?_))))
 show wpAny _ _ (setField (.ref it) 1 (rawInt ((i:Int)+1)) >>= _) _ _ s
 have hit':(s.heap.update it (Obj.mapFields (·.setIfInBounds 1 (rawInt ((i:Int)+1))))).IsKeyIter it d (i+1) es.size ep:=
  ⟨_,VL _ ho (Obj.isFreed_of_fields (W1y hd _)),(Obj.cls_mapFields ..).trans hc,by rw [W1y hd];simp [rawInt]⟩
 refine W0 (W2n ho hd (by simp) (W0 (Vq ?_)))
 refine W0 (W1T (s:={ s with heap:=s.heap.update it (Obj.mapFields (·.setIfInBounds 1 (rawInt ((i:Int)+1)))) }) hit'.typeIs ?_)
 show wpAny _ _ (pure e.key) _ _ _
 exact W6 (W6 ⟨_,rfl,W6 (q _ hit' (W00 ..))⟩)
theorem Sb {Q:Option Value->Shared->Prop}(hh:A.handled=none)(hit:s.heap.IsKeyIter it d es.size es.size ep)(hm:UN s.heap d es ep)(q:∀h',Heap.ExtBut it s.heap h'->Q none { s with heap:=h' }):wpAny (model prog w) A (pyNext (.ref it)) Q E s:=by
 obtain⟨o,ho,hc,hd⟩:=id hit
 obtain⟨od,hod,hcd,hdd⟩:=id hm
 have hown:W22 "dict_keyiterator" = false:=by decide
 have hx:es[es.size]? = none:=by simp
 unfold pyNext
 refine W0 (W1z (V9 (name:=Wr "__next__") hit.typeIs VF (Vj VF hit.typeIs W1j ?_ (W18 _))))
 refine W0 (W6 (W0 (W0 ?_)))
 first|refine W0 (W0k hit.typeIs (W6 (W0 (W19 ho hd ?_))))|refine W0 (W0I hit.typeIs (W6 (W0 (W19 ho hd ?_))))
 simp only [hown,WL,if_false]
 show wpAny _ _ (if (Value.ref d == Value.none)=true then _ else _) _ _ s
 rw [if_neg (show ¬((Value.ref d == Value.none)=true) from Wu)]
 refine W0 (W6 (W0 (W1J hod hdd ?_)))
 rw [if_neg (by simp)]
 refine W0 (W6 (W0 (wpAny_dictEpoch hod hdd ?_)))
 rw [if_neg (by simp)]
 refine W6 ?_
 simp only [show ¬((es.size:Int)<0) from by omega,if_false,Vx,hx]
 refine W0 ?_
 first|refine W0 (W0k hit.typeIs (W6 ?_))|refine W0 (W0I hit.typeIs (W6 ?_))
 show wpAny _ _ (setField (.ref it) 0 .none >>= _) _ _ s
 refine W0 (W2n ho hd (by simp) ?_)
 show wpAny _ _ (newExc (.type "StopIteration") [] >>= _) _ _ _
 refine W0 ?_
 simp only [newExc,newTuple]
 refine W0 (V8 (W0 (m:=firstArgMember _ _) (W1h (a:=Value.none) (by first|rfl|(simp only [firstArgMember];rfl)) (V8 ?_ (by size_fits)))) (by size_fits))
 simp only [raiseNew]
 refine W0 (wpAny_handled ?_)
 rw [show A.in1.handled=none from hh]
 refine W0 (W6 (wpAny_throw ?_))
 refine W0 (W1e (T:="StopIteration") (b:=true) ⟨_,Wv _ rfl,rfl⟩ isSubtype_stop ?_)
 exact W6 (q _ (((W00 ..).extBut.push _).push _))
theorem FS (hh:A.handled=none)(I d:Addr)(hne:d≠I)(es:Array DictEntry)(ep:Nat) :
  Walks prog w A I [I,d] [I] es.size (λi v=>∃e,es[i]? = some e/\v=e.key) (λi h=>h.IsKeyIter I d i es.size ep/\UN h d es ep) where
 sub:=λb hb=>by simp at hb;simp [hb]
 frame:=λ_ _ _ st hk=>⟨st.1.at λo e=>hk I (by simp) o e,st.2.keep λo e=>hk d (by simp) o e⟩
 item:=λi s Q E hi st hQ=>by
  have hx:es[i]? = some es[i]:=WA hi
  refine FT st.1 st.2 hx λh' hit' hs'=>?_
  exact hQ es[i].key h' s.toks ⟨_,hx,rfl⟩ ⟨hit',st.2.keep λo e=>hs'.extBut d o hne e⟩ λb o hb e=>hs'.extBut b o (λh=>hb (by simp [h])) e
 done:=λs Q E st hQ=>Sb hh st.1 st.2 λh' he'=>hQ h' s.toks λb o hb e=>he' b o (λh=>hb (by simp [h])) e
 self:=λ_ _ _ _ st hQ=>wpAny_pyIter_keyiter st.1 hQ
theorem Sa (lo:(d == sysModules)=false):PySem.W.KdlSrc prog w "dict" d d es.size (λi v=>∃e,es[i]? = some e/\v=e.key) (λh=>UN h d es ep) where
 type:=λ_ hm=>hm.ty
 there:=λ_ hm=>let ⟨_,ho,_⟩:=hm;⟨Wt ho,Wt ho⟩
 keep:=λ_ _ hm hk=>hm.keep λo e=>hk d (.inl rfl) o e
 notList:=by decide
 notTuple:=by decide
 hint:=λ_ _ _ _ hm hq=>PySem.W.kdl_hint_dict hm.ty hq
 iter:=λ_ _ hh hm=>⟨_,_,(λ_ _ hq=>FU lo hm hq),FS hh _ d (let ⟨_,ho,_⟩:=hm;WK (Wt ho)) es ep,⟨⟨_,Wv _ rfl,rfl,rfl⟩,hm.keep λo e=>Wj _ e⟩⟩
end
section
variable {X:Cx} {pins:List (Addr×Obj)} {σ:St} {H:Hp} {s:Shared} {a:Addr}
theorem Ik {kvs:List (List Key×V)}(I:Inv X pins σ H s)(e:H a=some (.dT kvs)):(a == sysModules)=false/\kvs.length≤Wk/\∃es ep bs,UN s.heap a es ep/\es.size=kvs.length/\bs.length=kvs.length/\(∀(i:Nat) (e:DictEntry),es[i]? = some e->∃b:Addr,bs[i]? = some b/\e.key=Value.ref b)/\Paired (λ(p:List Key×V) (b:Addr)=>H b=some (.tup (p.1.map kV))) kvs bs:=by
 obtain⟨z,hS,xs,r,o,es,ep,h1,h2,h3,h4,_⟩:=(show ZI X.prog X.w H s.heap a (.dT kvs) from I.hok a _ e)
 have hl:kvs.length=xs.length:=W0V r
 have hes:es.size=xs.length:=by have:=congrArg Ve h4;simpa using this
 refine⟨hS,z,es,ep,xs.map (·.2.1),⟨o,h1,h2,h3⟩,by omega,by rw [We];omega,λi e he=>?_,?_⟩
 ·have:es.toList[i]? = some e:=by rw [Vb];exact he
  rw [h4,WG] at this
  obtain⟨x,x1,x2⟩:=Wi.mp this
  exact⟨x.2.1,by rw [WG,x1];rfl,by rw [←x2];rfl⟩
 ·clear hes h4 hl
  have:∀{l:List (List Key×V)} {m:List (List Key×Addr×Value)},Paired (λ(p:List Key×V) (q:List Key×Addr×Value)=>p.1=q.1/\H q.2.1=some (.tup (p.1.map kV))/\ZL p.2 q.2.2) l m->Paired (λ(p:List Key×V) (b:Addr)=>H b=some (.tup (p.1.map kV))) l (m.map (·.2.1)):=by
   intro l m h
   induction h with
   |nil=>exact .nil
   |cons h t ih=>exact .cons h.2.1 ih
  exact this r
theorem Z0v {P:Program}{w:World}{h:Heap}{kvs:List (Key×V)}(x:ZI P w H h a (.dK kvs)):(a == sysModules)=false/\kvs.length≤Wk/\∃es ep,UN h a es ep/\es.size=kvs.length/\∀(i:Nat) (e:DictEntry),es[i]? = some e->∃k v,kvs[i]? = some (k,v)/\ZL (kV k) e.key:=by
 obtain⟨z,hS,vs,r,o,es,ep,h1,h2,h3,h4,h5,_⟩:=x
 have hl:kvs.length=vs.length:=r.length
 have hes:es.size=vs.length:=by rw [←h5.length];simp
 refine⟨hS,z,es,ep,⟨o,h1,h2,h3⟩,by omega,λi e he=>?_⟩
 have hi:i<es.size:=(Vn.mp he).1
 have hv:vs[i]? = some (vs[i]'(by omega)):=Wm _
 have hk:=(h5.get? (e:=e) (by rw [Vb];exact he) hv).1
 have key:∀{l:List (Key×V)} {m:List (Key×Value)},KV l m->∀{i:Nat} {q:Key×Value},m[i]? = some q->∃v,l[i]? = some (q.1,v):=by
  intro l m hh
  unfold KV at hh
  induction hh with
  |nil=>intro i q e;simp at e
  | @cons p q' ps qs h t ih=>
   intro i q e
   cases i with
   |zero=>
    simp at e
    subst e
    have h1:p.1=q'.1:=h.1
    exact⟨p.2,by simp [←h1]⟩
   |succ i=>simpa using ih (by simpa using e)
 obtain⟨v,hv2⟩:=key r hv
 exact⟨_,v,hv2,CA hk⟩
end
end L2
namespace HT
open PySem PySem.Spec PyProof.Rows L2
section
variable {prog:Program} {w:World} {A:Around} {E:Value->Shared->Prop} {s:Shared}
theorem getItem_tuple_all {t sl:Addr}{items:Array Value}{vl vu:Value}{lo hi:Option Int}{Q:Value->Shared->Prop}(ht:IsTup s.heap t items)(hs:s.heap.IsSliceOf sl vl vu .none)(pl:IsPart vl lo)(pu:IsPart vu hi)
  (hw:sIx items.size 0 lo=0/\sIx items.size items.size hi=items.size) (h:Q (.ref t) s):wpAny (model prog w) A (getItem (.ref t) (.ref sl)) Q E s:=by
 obtain⟨os,hos,hcs,hds⟩:=id hs
 have hTs:s.TypeIs (.ref sl) "slice":=⟨os,hos,hcs⟩
 unfold getItem
 try with_reducible refine Vq ?_
 first|refine W0 (W6 ?_)|skip
 refine W0 (wpAny_sequenceKey ht.typeIs (by decide) ?_)
 refine W0 (V9 (name:=Wr "__getitem__") ht.typeIs Vy
  (Vj Vy ht.typeIs entry_tuple_getitem ?_ (args_tuple_getitem _ _)))
 show wpAny _ _ (W11 (.ref t) >>= _) _ _ s
 refine W0 (tupleItemsOf_ ht ?_)
 refine W0 (W0T hTs ?_)
 rw [if_pos (by decide)]
 refine W0 (J5 hs pl pu ?_)
 have hyes:(((sIx items.size 0 lo:Nat):Int) == 0&&(1:Int) == 1&&(sIx items.size items.size hi-sIx items.size 0 lo) == items.size)=true:=by
  rw [hw.1,hw.2];simp
 show wpAny _ _ (if (((sIx items.size 0 lo:Nat):Int) == 0&&(1:Int) == 1&&(sIx items.size items.size hi-sIx items.size 0 lo) == items.size)=true then _ else _) _ _ s
 rw [if_pos hyes]
 refine W0 (m:=Builtin.Tuple.tupleIsExact (.ref t)) (W0 (W0T ht.typeIs (W6 ?_)))
 rw [if_pos (by decide)]
 first
  |exact W0 (W1m (W0 (W6 (W6 ⟨_,rfl,W6 h⟩))))
  |exact W0 (W1m (W6 ⟨_,rfl,W6 h⟩))
end
end HT
namespace L2
open PySem PySem.Spec PyProof.Rows
section
variable {X:Cx}
def Z3W (K:Wd):V->Option Int->Option Int->Hp->VK->Prop:=λx lo hi H Q=>∃a xs,x = .ref a/\SqT K H a xs/\
 (HT.sIx xs.length 0 lo=0/\HT.sIx xs.length xs.length hi=xs.length)/\Q (.ref a) H
theorem HV:SlR X (Z3W X.K):=by
 intro pins s σ H x v vl vu lo hi sl Q I rx hs pl pu h
 obtain⟨a,xs,rfl,hx,hw,q⟩:=h
 cases rx
 obtain⟨its,r,ht,hz⟩:=I.tuple hx
 have hlen:its.toArray.size=xs.length:=by rw [Wn];exact r.length.symm
 refine⟨"tuple",_,Vy.lookup,ht.typeIs,?_⟩
 exact HT.getItem_tuple_all ht hs pl pu (by rw [hlen];exact hw) ⟨.ref a,H,I,rfl,q⟩
end
end L2
namespace L2
open PySem PySem.Spec PyProof.Rows
theorem Z3B {M:Model}{A:Around}{E:Value->Shared->Prop}{s:Shared}{α:Type}{m:Sem α}{Q Q':α->Shared->Prop}(h:wpAny M A m Q E s)(k:∀a s',Q a s'->Q' a s'):wpAny M A m Q' E s:=W0i h k λ_ _ e=>e
abbrev dfl (d:Value):List (Str×Value):=[(Wr "default",d)]
section
variable {prog:Program} {w:World} {A:Around} {d:Value}
end
end L2
namespace L2
open PySem PySem.Spec PyProof.Rows
theorem R7 (a v:Value):argsOk "max" ⟨[a],[(Wr "default",v)]⟩:=by unfold argsOk;kernel_rfl
section
variable {prog:Program} {w:World} {A:Around} {d:Value}
theorem SZ {R:Result->Shared->Prop}{I S:Addr}{fp wr:List Addr}{n:Nat}{P:Nat->Value->Prop}{St:Nat->Heap->Prop}(W:Walks prog w A.in1 I fp wr n P St)(lt:Nat->Nat->Bool)(hc:CmpOf prog w A.in1 .Gt P lt)(off:S∉fp)(r:Nat) :
  ∀(i:Nat) (s:Shared) (v:Value) (q:Nat),n=i+1+r->St (i+1) s.heap->P (argBest lt i) v->s.heap.get? S=some { cls:=.type "list",dict:=none,data:=.seq #[v,v] q,slots:=#[] }->
   (∀u g tk,P (argBest lt (n-1)) u->(∀b o,b∉wr->b≠S->s.heap.get? b=some o->g.get? b=some o)->R (.ok (.ret u)) { s with heap:=g,toks:=tk })->
   codeAny (model prog w) A (.builtin "max.loop" ⟨[.ref I,.none,.ref S],dfl d⟩) R s:=by
 have offw:S∉wr:=λz=>off (W.sub _ z)
 have nm:(toString "max" ++ toString ".loop" : String) = "max.loop":=by decide
 induction r with
 |zero=>
  intro i s v q hn st hv hS out
  refine VM W1F ?_
  rw [Vl VT _]
  refine W0 (m:=seqItems? (.ref S)) (Vm hS rfl ?_)
  refine W0 (m:=tryCatch (pyNext (.ref I)) _) (W17 (W.done s _ _ ((show i+1=n by omega) ▸ st) λg tk keep=>?_))
  refine W0 (m:=updateSeq S (λ_=>#[])) (W1A (keep S _ offw hS) rfl (W0 (W1g (W6 ?_))))
  exact out v _ tk (by rw [show n-1=i by omega];exact hv) λb o h1 h2 e=>(Vv _ _ (Ne.symm h2)).trans (keep b o h1 e)
 |succ r ih=>
  intro i s v q hn st hv hS out
  refine VM W1F ?_
  rw [Vl VT _]
  refine W0 (m:=seqItems? (.ref S)) (Vm hS rfl ?_)
  refine W0 (m:=tryCatch (pyNext (.ref I)) _) (W17 (W.item (i+1) s _ _ (by omega) st λu g tk hu st' keep=>?_))
  have hS':=keep S _ offw hS
  refine W0 (m:=tryCatch (holding [u,u] (richCompare .Gt u v >>= _)) _) (W17 (Vq (W0 (hc (i+1) (argBest lt i) u v _ _ _ hu hv ?_))))
  refine W0 (Vq (W0W (W0 (W1g (W6 ?_)))))
  by_cases hb:lt (i+1) (argBest lt i)=true
  ·rw [hb,if_pos rfl]
   refine W0 (W1A hS' rfl (W0 (W1g ?_)))
   rw [nm]
   have key:=ih (i+1) { s with heap:=g.update S (Vo λ_=>#[u,u]),toks:=tk } u _ (by omega) (W.frame _ _ _ st' λb hbf o e=>(Vv _ _ (λz:S=b=>off (z ▸ hbf))).trans e)
    (by rw [show argBest lt (i+1)=i+1 from if_pos hb];exact hu) (VL _ hS' rfl) λu' g' tk' h1 h2=>out u' g' tk' h1 λb o h3 h4 e=>h2 b o h3 h4 ((Vv _ _ (Ne.symm h4)).trans (keep b o h3 e))
   exact W6 ⟨W0e VT _,key⟩
  ·rw [W1X] at hb
   rw [hb,if_neg Wu]
   refine W0 (W1g ?_)
   rw [nm]
   have key:=ih (i+1) { s with heap:=g,toks:=tk } v q (by omega) st' (by rw [show argBest lt (i+1)=argBest lt i from if_neg (by rw [hb];exact Wu)];exact hv) hS' λu' g' tk' h1 h2=>out u' g' tk' h1 λb o h3 h4 e=>h2 b o h3 h4 (keep b o h3 e)
   exact W6 ⟨W0e VT _,key⟩
theorem Kx {R:Result->Shared->Prop}{I S:Addr}{fp wr:List Addr}{n:Nat}{P:Nat->Value->Prop}{St:Nat->Heap->Prop}{s:Shared}{q:Nat}(W:Walks prog w A.in1 I fp wr n P St)(lt:Nat->Nat->Bool)(hc:CmpOf prog w A.in1 .Gt P lt)(off:S∉fp)(st:St 0 s.heap)
  (hS:s.heap.get? S=some { cls:=.type "list",dict:=none,data:=.seq #[] q,slots:=#[] })
  (none:n=0->∀g tk,(∀b o,b∉wr->b≠S->s.heap.get? b=some o->g.get? b=some o)->R (.ok (.ret d)) { s with heap:=g,toks:=tk })
  (out:0<n->∀u g tk,P (argBest lt (n-1)) u->(∀b o,b∉wr->b≠S->s.heap.get? b=some o->g.get? b=some o)->R (.ok (.ret u)) { s with heap:=g,toks:=tk }) :
  codeAny (model prog w) A (.builtin "max.loop" ⟨[.ref I,.none,.ref S],dfl d⟩) R s:=by
 have offw:S∉wr:=λz=>off (W.sub _ z)
 have nm:(toString "max" ++ toString ".loop" : String) = "max.loop":=by decide
 refine VM W1F ?_
 rw [Vl VT _]
 refine W0 (m:=seqItems? (.ref S)) (Vm hS rfl ?_)
 by_cases h0:n=0
 ·refine W0 (m:=tryCatch (pyNext (.ref I)) _) (W17 (W.done s _ _ (h0 ▸ st) λg tk keep=>?_))
  refine W0 (m:=rule _) (W1m (W6 ?_))
  exact none h0 g tk λb o h1 _ e=>keep b o h1 e
 ·have hn:0<n:=Nat.pos_of_ne_zero h0
  refine W0 (m:=tryCatch (pyNext (.ref I)) _) (W17 (W.item 0 s _ _ hn st λu g tk hu st' keep=>?_))
  have hS':=keep S _ offw hS
  refine W0 (m:=updateSeq S (λ_=>#[u,u])) (W1A hS' rfl ?_)
  rw [nm]
  have key:=SZ (d:=d) W lt hc off (n-1) 0 { s with heap:=g.update S (Vo λ_=>#[u,u]),toks:=tk } u _ (by omega) (W.frame _ _ _ st' λb hbf o e=>(Vv _ _ (λz:S=b=>off (z ▸ hbf))).trans e) hu (VL _ hS' rfl)
   λu' g' tk' h1 h2=>out hn u' g' tk' h1 λb o h3 h4 e=>h2 b o h3 h4 ((Vv _ _ (Ne.symm h4)).trans (keep b o h3 e))
  exact W6 ⟨W0e VT _,key⟩
theorem LZ {E:Value->Shared->Prop}{s:Shared}{x:Value}{Q:Value->Shared->Prop}
  (h:wpAny (model prog w) A.in1 (pyIter x) (λit s2=>∃I fp wr n P St lt,it = .ref I/\Walks prog w A.in1 I fp wr n P St/\St 0 s2.heap/\(∀b∈fp,b<s2.heap.objs.size)/\CmpOf prog w A.in1 .Gt P lt/\
   (n=0->∀g tk,(∀b o,b∉wr->s2.heap.get? b=some o->g.get? b=some o)->Q d { s2 with heap:=g,toks:=tk })/\
   (0<n->∀u g tk,P (argBest lt (n-1)) u->(∀b o,b∉wr->s2.heap.get? b=some o->g.get? b=some o)->Q u { s2 with heap:=g,toks:=tk })) E s) :
  wpAny (model prog w) A (call (.builtin "max") [x] (dfl d)) Q E s:=by
 have nm:(toString "max" ++ toString ".loop" : String) = "max.loop":=by decide
 refine kmb_tree PySem.F.kind_max PySem.F.plain_max PySem.F.entry_max (R7 _ _) ?_
 refine W0 (m:=W28 "max" ["key", "default"] 0 ⟨[],dfl d⟩) (W1h (show W28 "max" ["key", "default"] 0 ⟨[],dfl d⟩=pure [none,some d] from rfl) (W0 (W6 ?_)))
 refine W0 (Z3B h λit s2 h2=>?_)
 obtain⟨I,fp,wr,n,P,St,lt,rfl,W,st,hf,hc,h3,h4⟩:=h2
 refine W0 (V8 ?_)
 rw [nm]
 refine W6 ⟨W0e VT _,Kx W lt hc (S:=s2.heap.objs.size) (λz=>VE _ (hf _ z)) (W.frame _ _ _ st λb _ o e=>Wj _ e) (Wv _ rfl) (λz g tk keep=>?_) λz u g tk hu keep=>?_⟩
 ·exact h3 z g tk λb o h1 e=>keep b o h1 (WK (Wt e)) (Wj _ e)
 ·exact h4 z u g tk hu λb o h1 e=>keep b o h1 (WK (Wt e)) (Wj _ e)
end
end L2
namespace L2
open PySem PySem.Spec PyProof.Rows
def JS (w:World):Bool:=!w.params.followText "set-order"
theorem Nu {prog:Program}{w:World}{A:Around}{E:Value->Shared->Prop}{s:Shared}(a:Value){Q1:Value->Shared->Prop}
  (h:Q1 (.ref s.heap.objs.size) { s with heap:=s.heap.push { cls:=.type "set",dict:=none,data:=.set #[] 0 (.fresh 0 0 (JS w)) } }) :
  codeAny (model prog w) A (.call (.builtin "set.__new__") ⟨[.type "set",a],[]⟩) (wants Q1 E) s:=by
 refine codeAny_of_tree (W0 (m:=checkBuiltinCall "set.__new__" ⟨[.type "set",a],[]⟩) (W1h (PySem.F.newCall_set_1 a) (W6 ⟨W0e PySem.F.plain_set_new _,VM PySem.F.entry_set_new ?_⟩)))
 rw [Vl PySem.F.plain_set_new _]
 unfold Builtin.«set.__new__» Builtin.Frozenset.newClass
 have z:=sub_set_self
 obtain⟨hp,g,d,tk,os⟩:=s
 dsimp only
 wp_walk
 refine VZ (W6 ?_)
 dsimp only [newObj]
 exact W0 (wpAny_alloc (W6 (W6 h)))
section
variable {prog:Program} {w:World} {A:Around} {J:Nat->Heap->Prop}
def HD (prog:Program)(w:World)(A:Around)(S:Addr)(J:Nat->Heap->Prop)(P:Nat->Value->Prop):Prop:=
 ∀(i:Nat) (v:Value) (s:Shared) (E:Value->Shared->Prop) (Q:Bool->Shared->Prop),P i v->J i s.heap->(∀b h' tk,W08 S s.heap h'->J (i+1) h'->Q b { s with heap:=h',toks:=tk })->wpAny (model prog w) A (setAdd S v) Q E s
theorem RK {R:Result->Shared->Prop}{I S:Addr}{fp wr:List Addr}{n:Nat}{P:Nat->Value->Prop}{St:Nat->Heap->Prop}(W:Walks prog w A.in1 I fp wr n P St)(off:S∉fp)
  (fr:∀i h h',J i h->(∀b o,b∉wr->h.get? b=some o->h'.get? b=some o)->J i h') (add:HD prog w A.in1 S J P) (r:Nat) :
  ∀(i:Nat) (s:Shared),n=i+r->St i s.heap->J i s.heap->(∀h' tk,(∀b o,b∉wr->b≠S->s.heap.get? b=some o->h'.get? b=some o)->J n h'->R (.ok (.ret .none)) { s with heap:=h',toks:=tk })->
   codeAny (model prog w) A (.builtin "set.update.loop" ⟨[.ref S,.ref I],[]⟩) R s:=by
 induction r with
 |zero=>
  intro i s hn st hj out
  refine VM W1a ?_
  rw [Vl W0s _]
  refine W0 (m:=pyNext (.ref I)) (W.done s _ _ ((show i=n by omega) ▸ st) λh' tk keep=>?_)
  exact W6 (out h' tk (λb o h1 _ e=>keep b o h1 e) ((show i=n by omega) ▸ fr i _ _ hj λb o h1 e=>keep b o h1 e))
 |succ r ih=>
  intro i s hn st hj out
  refine VM W1a ?_
  rw [Vl W0s _]
  refine W0 (m:=pyNext (.ref I)) (W.item i s _ _ (by omega) st λv h' tk hv st' keep=>?_)
  refine W0 (m:=holding [v] (setAdd S v)) (Vq (add i v _ _ _ hv (fr i _ _ hj λb o h1 e=>keep b o h1 e) λbb h2 tk2 sb hj2=>?_))
  refine W6 ⟨W0e W0s _,ih (i+1) _ (by omega) (W.frame _ _ _ st' λb hb o e=>?_) hj2 λh3 tk3 k3 j3=>?_⟩
  ·exact (sb.2 b (λz=>off (z ▸ hb))).trans e
  ·exact out h3 tk3 (λb o h1 h2' e=>k3 b o h1 h2' ((sb.2 b h2').trans (keep b o h1 e))) j3
set_option maxHeartbeats 3200000 in
theorem LY {E:Value->Shared->Prop}{s:Shared}{l:Addr}{items:Array Value}{Q:Value->Shared->Prop}(hh:A.handled=none)(hl:s.heap.IsList l items)
  (fr:∀i h h',J i h->(∀b o,b∉[(s.heap.objs.size+1)]->h.get? b=some o->h'.get? b=some o)->J i h')
  (j0:∀h:Heap,(∀b o,s.heap.get? b=some o->h.get? b=some o)->h.get? s.heap.objs.size=some { cls:=.type "set",dict:=none,data:=.set #[] 0 (.fresh 0 0 (JS w)) }->J 0 h)
  (add:∀B:Around,B.units≤A.units+20->B.handled=none->HD prog w B s.heap.objs.size J (λi v=>items[i]? = some v))
  (h:∀h' tk,J items.size h'->(∀b o,b<s.heap.objs.size->s.heap.get? b=some o->h'.get? b=some o)->Q (.ref s.heap.objs.size) { s with heap:=h',toks:=tk }) :
  wpAny (model prog w) A (call (.type "set") [.ref l]) Q E s:=by
 obtain⟨c,tl,hmro⟩:=W06.mro
 have y1:=W06.made
 have y2:=W06.sub
 refine wpAny_call (codeAny_of_tree ?_)
 show wpAny _ _ (callAny (.type "set") _) _ _ _
 refine W6 ⟨Code.quiet_builtin _ (by decide +kernel),VM PySem.F.entry_type_call ?_⟩
 rw [Around.under_plain (weight_type_call_type "set" [.ref l] []) rfl]
 have y3:=W06.notType
 have y4:=W06.canCreate
 have y5:=PySem.F.typeCall_set_1 (.ref l)
 repeat (any_goals (first|assumption|wp_step))
 refine W2j (Nu (.ref l) (E:=E) (Q1:=λob s1=>ob = .ref s.heap.objs.size/\s1={ s with heap:=s.heap.push { cls:=.type "set",dict:=none,data:=.set #[] 0 (.fresh 0 0 (JS w)) } }) ⟨rfl,rfl⟩) λr s1 hr=>?_
 cases r with
 |error e=>exact hr
 |ok fl=>
  cases fl with
  |ret ob=>
   obtain⟨rfl,rfl⟩:=hr
   generalize hH1:s.heap.push { cls:=.type "set",dict:=none,data:=.set #[] 0 (.fresh 0 0 (JS w)) }=H1
   have z1:H1.objs.size=s.heap.objs.size+1:=by rw [←hH1,W0r]
   have k1:∀b o,s.heap.get? b=some o->H1.get? b=some o:=λb o e=>by rw [←hH1];exact Wj _ e
   have hS:H1.get? s.heap.objs.size=some { cls:=.type "set",dict:=none,data:=.set #[] 0 (.fresh 0 0 (JS w)) }:=by rw [←hH1];exact Wv _ rfl
   have hT:Shared.TypeIs { s with heap:=H1 } (.ref s.heap.objs.size) "set":=⟨_,hS,rfl⟩
   have y6:=W06.init.lookup
   have y7:=W06.init.bind (.ref s.heap.objs.size)
   repeat (any_goals (first|assumption|wp_step))
   refine W2j (codeAny_call_builtin (R:=wants (λr s2=>r = .none/\∃h' tk,s2={ s with heap:=h',toks:=tk }/\J items.size h'/\(∀b o,b<s.heap.objs.size->s.heap.get? b=some o->h'.get? b=some o)) E) W06.init.plain PySem.F.entry_set_init (check_set_init_1 hT ?_)) λr2 s2 hr2=>?_
   ·obtain⟨ol,hol,hcl,nl,hdl⟩:=id hl
    obtain⟨ocls,odict,odata,oslots⟩:=ol
    simp only at hcl hdl
    subst hcl;subst hdl
    have hol1:=k1 l _ hol
    have w1:=PySem.F.sub_list_set
    have w2:=PySem.F.sub_list_frozenset
    have w3:(Value.type "list" == Value.type "dict")=false:=by decide
    have hl1:H1.IsList l items:=⟨_,hol1,rfl,nl,rfl⟩
    unfold Builtin.«set.__init__» noKeywords Builtin.Frozenset.updateFrom
    generalize hPI:pyIter=PI
    wp_walk
    subst hPI
    refine W0H hl1 ?_
    refine W0 (wpAny_runValue ?_)
    have lz:l<s.heap.objs.size:=Wt hol
    have a1:l≠H1.objs.size:=by rw [z1];exact WK (W0Y lz)
    have a2:s.heap.objs.size∉[H1.objs.size,l]:=by
     simp only [Ww,WP,or_false,not_or]
     exact⟨by rw [z1];exact WK (W0z _),W1k lz⟩
    refine RK (J:=J) (Walks.list (by simp [hh]) _ l a1 items) a2 (by rw [z1];exact fr) (add _ ?_ ?_) (items.size-0) 0 _ (by omega) ⟨⟨_,Wv _ rfl,rfl,rfl⟩,hl1.push _⟩ (j0 _ (λb o e=>Wj _ (k1 b o e)) (Wj _ hS)) λh' tk keep hj=>?_
    ·show A.in1.in1.in1.units≤A.units+20
     simp only [Around.in1_units]
     omega
    ·simp [hh]
    ·refine W6 (W6 ⟨rfl,h',tk,rfl,hj,λb o hb e=>keep b o ?_ (WK hb) (Wj _ (k1 b o e))⟩)
     simp only [Ww,WP,or_false]
     rw [z1]
     exact WK (W0Y hb)
   ·cases r2 with
    |error e=>exact hr2
    |ok fl2=>
     cases fl2 with
     |ret r=>
      obtain⟨rfl,h',tk,rfl,hj,hk⟩:=hr2
      repeat (any_goals (first|assumption|wp_step))
      exact h _ _ hj hk
     |_=>exact hr2.elim
  |_=>exact hr.elim
end
end L2
namespace L2
open PySem PySem.Spec PyProof.Rows
section
variable {prog:Program} {w:World} {B:Around} {K:Type} [DecidableEq K]
end
end L2
namespace L2
open PySem
def bsP (mask:Nat)(h:Int):Nat->Nat×Nat
 |0=>(Vr h%(mask+1),Vr h)
 |m+1=>SetTable.leap mask (bsP mask h m).1 (bsP mask h m).2
def pth (t:SetTable)(h:Int):Nat->SetTable.Probe
 |0=>t.probeStart h
 |k+1=>t.advance (pth t h k)
theorem Tc {t t':SetTable}(e:t.mask=t'.mask)(h:Int):∀k,pth t h k=pth t' h k
 |0=>by unfold pth SetTable.probeStart;rw [e]
 |k+1=>by
  unfold pth W0A
  rw [Tc e h k,e]
theorem Tr (t:SetTable)(h:Int):∀k,(pth t h k).dummy=none
 |0=>rfl
 |k+1=>by
  unfold pth W0A
  split
  ·exact Tr t h k
  ·exact Tr t h k
theorem RQ (mask i:Nat):V0 mask i-i≤9:=by
 unfold V0
 split<;>omega
theorem Mv (t:SetTable)(h:Int):∀m,∃k,k≤10*m/\pth t h k={ j:=(bsP t.mask h m).1,more:=V0 t.mask (bsP t.mask h m).1-(bsP t.mask h m).1,i:=(bsP t.mask h m).1,perturb:=(bsP t.mask h m).2,dummy:=none }
 |0=>⟨0,Wp _,rfl⟩
 |m+1=>by
  obtain⟨k,k1,k2⟩:=Mv t h m
  generalize hb:bsP t.mask h m=b at k2
  have hr:=RQ t.mask b.1
  generalize V0 t.mask b.1-b.1=r at k2 hr
  have key:∀q,q≤r->pth t h (k+q)={ j:=b.1+q,more:=r-q,i:=b.1,perturb:=b.2,dummy:=none }:=by
   intro q
   induction q with
   |zero=>intro _;exact k2
   |succ q ih=>
    intro hq
    have e:=ih (by omega)
    show t.advance (pth t h (k+q))=_
    rw [e]
    unfold W0A
    rw [if_pos (show r-q>0 by omega)]
    rfl
  refine⟨k+r+1,by omega,?_⟩
  show t.advance (pth t h (k+r))=_
  rw [key r (Wp _)]
  unfold W0A
  rw [if_neg (show ¬r-r>0 by omega)]
  have e:bsP t.mask h (m+1)=SetTable.leap t.mask b.1 b.2:=by rw [←hb];rfl
  rw [e]
theorem F5 (mask:Nat)(h:Int):∀m,(bsP mask h m).2=Vr h / 32 ^ m
 |0=>by show Vr h=_;simp
 |m+1=>by
  show (bsP mask h m).2 / 32=_
  rw [F5 mask h m,Nat.div_div_eq_div_mul,Nat.pow_succ]
theorem IV (h:Int):Vr h<2 ^ 64:=by
 unfold Vr
 have h1:=Vk h (b:=2 ^ 64) (by decide)
 have h2:=Vs h (b:=2 ^ 64) (by decide)
 omega
theorem AR (mask:Nat)(h:Int)(q:Nat):(bsP mask h (13+q)).2=0:=by
 rw [F5]
 refine Nat.div_eq_of_lt ?_
 have:=IV h
 refine WQ this ?_
 rw [Nat.pow_add]
 exact WY (show 2 ^ 64≤32 ^ 13 by decide) (Nat.le_mul_of_pos_right _ (Nat.pow_pos (by decide)))
def lcg (mask:Nat):Nat->Nat->Nat
 |0,i=>i
 |q+1,i=>(lcg mask q i*5+1)%(mask+1)
theorem Mb (mask:Nat)(h:Int):∀q,(bsP mask h (13+q)).1=lcg mask q (bsP mask h 13).1
 |0=>rfl
 |q+1=>by
  show ((bsP mask h (13+q)).1*5+1+(bsP mask h (13+q)).2 / 32)%(mask+1)=_
  rw [AR,Mb mask h q]
  rfl
theorem Z0C (mask:Nat)(h:Int)(m:Nat):(bsP mask h m).1<mask+1:=by
 cases m with
 |zero=>exact W2v _ (Nat.succ_pos _)
 |succ m=>exact W2v _ (Nat.succ_pos _)
theorem Z4l:∀i,i<8->∀e,e<8->∃q,q<8/\lcg 7 q i=e:=by decide +kernel
theorem Z25:∀i,i<32->∀e,e<32->∃q,q<32/\lcg 31 q i=e:=by decide +kernel
def Um (mask:Nat):Prop:=mask=7\/mask=31
theorem Nd {mask:Nat}(hm:Um mask)(h:Int){e:Nat}(he:e≤mask):∃m,m≤13+mask/\(bsP mask h m).1=e:=by
 have h1:=Z0C mask h 13
 rcases hm with rfl|rfl
 ·obtain⟨q,q1,q2⟩:=Z4l _ h1 e (by omega)
  exact⟨13+q,by omega,(Mb 7 h q).trans q2⟩
 ·obtain⟨q,q1,q2⟩:=Z25 _ h1 e (by omega)
  exact⟨13+q,by omega,(Mb 31 h q).trans q2⟩
theorem RY {t:SetTable}(hm:Um t.mask)(h:Int){e:Nat}(he:e≤t.mask):∃k,k<10*VQ t.mask/\(pth t h k).j=e:=by
 obtain⟨m,m1,m2⟩:=Nd hm h he
 obtain⟨k,k1,k2⟩:=Mv t h m
 refine⟨k,?_,by rw [k2];exact m2⟩
 unfold VQ
 omega
end L2
namespace L2
open PySem
abbrev SL:=List (Nat×Int×Value)
theorem B6 {xs:Array Nat}{j:Nat}(hs:∀(a b x y:Nat),a<b->xs[a]? = some x->xs[b]? = some y->x<y):∀(fuel lo hi:Nat),hi-lo≤fuel->lo≤hi->hi≤xs.size->
  (∀m x,m<lo->xs[m]? = some x->x<j)->(∀m x,hi≤m->xs[m]? = some x->j≤x)->
  (∀m x,m<W0Z xs j fuel lo hi->xs[m]? = some x->x<j)/\(∀m x,W0Z xs j fuel lo hi≤m->xs[m]? = some x->j≤x)/\W0Z xs j fuel lo hi≤xs.size
 |0,lo,hi,h1,h2,h3,h4,h5=>by
  unfold W0Z
  have:lo=hi:=by omega
  subst this
  exact⟨h4,h5,h3⟩
 |fuel+1,lo,hi,h1,h2,h3,h4,h5=>by
  unfold W0Z
  by_cases q:lo<hi
  ·rw [if_pos q]
   have hm:(lo+hi) / 2<xs.size:=by omega
   obtain⟨v,hv⟩:∃v,xs[(lo+hi) / 2]? = some v:=⟨_,WA hm⟩
   have e:xs.getD ((lo+hi) / 2) j=v:=by rw [Vz,hv];rfl
   dsimp only
   rw [e]
   by_cases r:v<j
   ·rw [if_pos r]
    refine B6 hs fuel _ hi (by omega) (by omega) h3 (λm x hm' hx=>?_) h5
    by_cases z:m=(lo+hi) / 2
    ·subst z;rw [hv] at hx;cases hx;exact r
    ·have:=hs m ((lo+hi) / 2) x v (by omega) hx hv
     omega
   ·rw [if_neg r]
    refine B6 hs fuel lo _ (by omega) (by omega) (by omega) h4 λm x hm' hx=>?_
    by_cases z:m=(lo+hi) / 2
    ·subst z;rw [hv] at hx;cases hx;omega
    ·have:=hs ((lo+hi) / 2) m v x (by omega) hv hx
     omega
  ·rw [if_neg q]
   have:lo=hi:=by omega
   subst this
   exact⟨h4,h5,h3⟩
def AV (xs:Array Nat):Prop:=∀(a b x y:Nat),a<b->xs[a]? = some x->xs[b]? = some y->x<y
theorem JF {xs:Array Nat}(hs:AV xs)(j:Nat):(∀m x,m<Vi xs j->xs[m]? = some x->x<j)/\(∀m x,Vi xs j≤m->xs[m]? = some x->j≤x)/\Vi xs j≤xs.size:=by
 unfold Vi
 refine B6 hs _ 0 xs.size (by omega) (VH _) (Wp _) (λm x h=>absurd h (W0U m)) λm x h e=>?_
 rw [W0x h] at e
 cases e
theorem AS {xs:Array Nat}(hs:AV xs){i j:Nat}(h:xs[i]? = some j):Vi xs j=i:=by
 obtain⟨h1,h2,h3⟩:=JF hs j
 rcases Nat.lt_trichotomy (Vi xs j) i with z|z|z
 ·have hb:Vi xs j<xs.size:=by have:=(Vn.mp h).1;omega
  obtain⟨v,hv⟩:∃v,xs[Vi xs j]? = some v:=⟨_,WA hb⟩
  have a1:=h2 _ v (Wp _) hv
  have a2:=hs _ _ _ _ z hv h
  omega
 ·exact z
 ·have:=h1 i j z h
  omega
theorem RF {t:SetTable}(hs:AV t.place){i j:Nat}(h:t.place[i]? = some j):t.slot j = .live i:=by
 unfold SetTable.slot
 rw [AS hs h]
 dsimp only
 rw [h]
 simp
theorem Kn {t:SetTable}(hd:t.dummies = #[]){j:Nat}(h:∀i:Nat,t.place[i]?≠some j):t.slot j = .empty:=by
 unfold SetTable.slot
 have e1:(t.place[Vi t.place j]? == some j)=false:=by
  rw [beq_eq_false_iff_ne]
  exact h _
 have e2:SetTable.has t.dummies j=false:=by
  rw [hd]
  unfold SetTable.has
  rfl
 dsimp only
 rw [e1,e2]
 rfl
structure Tbl (t:SetTable) (L:SL):Prop where
 mok:Um t.mask
 dum:t.dummies = #[]
 pl:t.place.toList=L.map (·.1)
 ri:L.Pairwise λa b=>a.1<b.1
 bd:∀q∈L,q.1≤t.mask
 few:L.length≤t.mask
 path:∀q∈L,∃k,(pth t q.2.1 k).j=q.1/\∀k',k'<k->∃q'∈L,q'.1=(pth t q.2.1 k').j
theorem Tbl.at {t:SetTable}{L:SL}(T:Tbl t L)(i:Nat):t.place[i]? = L[i]?.map (·.1):=by
 rw [←Vb,T.pl,WG]
theorem Tbl.rise {t:SetTable}{L:SL}(T:Tbl t L):AV t.place:=λa b x y hab hx hy=>by
 rw [T.at] at hx hy
 obtain⟨p,p1,rfl⟩:=Wi.mp hx
 obtain⟨q,q1,rfl⟩:=Wi.mp hy
 obtain⟨a1,a2⟩:=Wo.mp p1
 obtain⟨b1,b2⟩:=Wo.mp q1
 rw [←a2,←b2]
 exact W1b.mp T.ri a b a1 b1 hab
theorem Tbl.live {t:SetTable}{L:SL}(T:Tbl t L){i:Nat}{q:Nat×Int×Value}(h:L[i]? = some q):t.slot q.1 = .live i:=RF T.rise (by rw [T.at,h];rfl)
theorem Tbl.empty {t:SetTable}{L:SL}(T:Tbl t L){j:Nat}(h:∀q∈L,q.1≠j):t.slot j = .empty:=Kn T.dum λi z=>by
 rw [T.at] at z
 obtain⟨p,p1,p2⟩:=Wi.mp z
 exact h p (V4 p1) p2
theorem Tv {α:Type}[DecidableEq α]:∀(l l':List α),l.Nodup->(∀a∈l,a∈l')->l.length≤l'.length
 |[],_,_,_=>VH _
 |a :: l,l',hn,hs=>by
  rw [W04] at hn
  have ha:=hs a Ws
  have ih:=Tv l (l'.erase a) hn.2 λb hb=>(List.mem_erase_of_ne (λz:b=a=>hn.1 (z ▸ hb))).mpr (hs b (Wz _ hb))
  rw [List.length_erase_of_mem ha] at ih
  have:=W1G ha
  rw [WX]
  omega
theorem Tbl.free {t:SetTable}{L:SL}(T:Tbl t L):∃e,e≤t.mask/\∀q∈L,q.1≠e:=by
 have key:∃e∈W7 (t.mask+1),e∉L.map (·.1):=by
  refine W0f λz=>?_
  have h1:=Tv (W7 (t.mask+1)) (L.map (·.1)) W0O λa ha=>W0f λw=>z ⟨a,ha,w⟩
  rw [Vc,We] at h1
  have:=T.few
  omega
 obtain⟨e,e1,e2⟩:=key
 exact⟨e,by have:=Vh.mp e1;omega,λq hq z=>e2 (WD.mpr ⟨q,hq,z⟩)⟩
theorem Tbl.first {t:SetTable}{L:SL}(T:Tbl t L)(h:Int):∃k,k<10*VQ t.mask/\(∀q∈L,q.1≠(pth t h k).j)/\∀k',k'<k->∃q∈L,q.1=(pth t h k').j:=by
 obtain⟨e,e1,e2⟩:=T.free
 obtain⟨k,k1,k2⟩:=RY T.mok h e1
 have key:∀n,(∃k,k≤n/\∀q∈L,q.1≠(pth t h k).j)->∃k,k≤n/\(∀q∈L,q.1≠(pth t h k).j)/\∀k',k'<k->∃q∈L,q.1=(pth t h k').j:=by
  intro n
  induction n with
  |zero=>
   rintro⟨k,hk,hq⟩
   have:k=0:=by omega
   subst this
   exact⟨0,Wp _,hq,λk' z=>absurd z (W0U _)⟩
  |succ n ih=>
   rintro⟨k,hk,hq⟩
   by_cases z:∃k,k≤n/\∀q∈L,q.1≠(pth t h k).j
   ·obtain⟨a,a1,a2,a3⟩:=ih z
    exact⟨a,by omega,a2,a3⟩
   ·refine⟨k,hk,hq,λk' hk'=>W0f λw=>z ⟨k',by omega,λq hq' e=>w ⟨q,hq',e⟩⟩⟩
 obtain⟨a,a1,a2,a3⟩:=key k ⟨k,Wp _,λq hq=>by rw [k2];exact e2 q hq⟩
 exact⟨a,by omega,a2,a3⟩
theorem Tbl.go {t:SetTable}{L:SL}(T:Tbl t L)(h:Int)(hashAt:Nat->Int){K:Nat}(hK:∀q∈L,q.1≠(pth t h K).j)(hl:∀k',k'<K->∃q∈L,q.1=(pth t h k').j):∀(fuel k:Nat),K-k<fuel->k≤K->
  (W1L t hashAt h fuel (pth t h k)=some (.empty (pth t h K).j none)/\∀k' i q,k≤k'->k'<K->L[i]? = some q->q.1=(pth t h k').j->hashAt i≠h)\/
  ∃k' i q,k≤k'/\k'<K/\L[i]? = some q/\q.1=(pth t h k').j/\hashAt i=h/\W1L t hashAt h fuel (pth t h k)=some (.candidate (pth t h k').j i (pth t h (k'+1)))/\∀k'' i q,k≤k''->k''<k'->L[i]? = some q->q.1=(pth t h k'').j->hashAt i≠h
 |0,k,h1,_=>absurd h1 (W0U _)
 |fuel+1,k,h1,h2=>by
  by_cases hk:k=K
  ·subst hk
   refine .inl ⟨?_,λk' i q a b=>by omega⟩
   unfold W1L
   rw [T.empty hK]
   dsimp only
   rw [Tr]
  ·obtain⟨q,hq,e⟩:=hl k (by omega)
   obtain⟨i,hi⟩:=VN.mp hq
   have hs:t.slot (pth t h k).j = .live i:=by rw [←e];exact T.live hi
   have uni:∀i' q',L[i']? = some q'->q'.1=(pth t h k).j->i'=i:=λi' q' hi' e'=>by
    have:=T.live hi'
    rw [e',hs] at this
    injection this with this
    exact this.symm
   unfold W1L
   rw [hs]
   dsimp only
   by_cases hh:hashAt i=h
   ·rw [if_pos (by simpa using hh)]
    exact .inr ⟨k,i,q,Wp _,by omega,hi,e,hh,rfl,λk'' i q a b=>by omega⟩
   ·rw [if_neg (by simpa using hh)]
    have ih:=T.go h hashAt hK hl fuel (k+1) (by omega) (by omega)
    have here:∀k' i' q',k≤k'->k'<k+1->L[i']? = some q'->q'.1=(pth t h k').j->hashAt i'≠h:=λk' i' q' a b c d=>by
     have:k'=k:=by omega
     subst this
     rw [uni i' q' c d]
     exact hh
    rcases ih with ⟨a1,a2⟩|⟨k',i',q',a1,a2,a3,a4,a5,a6,a7⟩
    ·refine .inl ⟨a1,λk' i' q' b1 b2 b3 b4=>?_⟩
     by_cases z:k'<k+1
     ·exact here k' i' q' b1 z b3 b4
     ·exact a2 k' i' q' (by omega) b2 b3 b4
    ·refine .inr ⟨k',i',q',by omega,a2,a3,a4,a5,a6,λk'' i'' q'' b1 b2 b3 b4=>?_⟩
     by_cases z:k''<k+1
     ·exact here k'' i'' q'' b1 z b3 b4
     ·exact a7 k'' i'' q'' (by omega) b2 b3 b4
end L2
namespace L2
open PySem
theorem Ud {α:Type}(xs:Array α)(p:Nat)(x:α):(VR xs p x).toList=xs.toList.take p++[x]++xs.toList.drop p:=by
 unfold VR
 simp [List.extract_eq_take_drop,List.take_of_length_le]
def Rh (L:SL)(p:Nat)(q:Nat×Int×Value):SL:=L.take p++[q]++L.drop p
theorem Jl (L:SL)(p:Nat)(q:Nat×Int×Value):(Rh L p q).Perm (L++[q]):=by
 unfold Rh
 have h:(L.take p++[q]++L.drop p).Perm (L.take p++(L.drop p++[q])):=by
  rw [WS]
  exact List.Perm.append_left _ List.perm_append_comm
 refine h.trans ?_
 rw [←WS,W1U]
theorem Uv {t:SetTable}(hd:t.dummies = #[])(j:Nat):t.put j=({ t with place:=VR t.place (Vi t.place j) j },Vi t.place j):=by
 unfold SetTable.put
 have e2:SetTable.has t.dummies j=false:=by
  rw [hd]
  unfold SetTable.has
  rfl
 dsimp only
 rw [e2]
 simp
theorem Tbl.put {t:SetTable}{L:SL}(T:Tbl t L)(h:Int)(x:Value){K:Nat}(hK:∀q∈L,q.1≠(pth t h K).j)(hl:∀k',k'<K->∃q∈L,q.1=(pth t h k').j)(few:L.length+1≤t.mask)(bd:(pth t h K).j≤t.mask) :
  Tbl (t.put (pth t h K).j).1 (Rh L (t.put (pth t h K).j).2 ((pth t h K).j,h,x)):=by
 rw [Uv T.dum]
 dsimp only
 obtain⟨b1,b2,b3⟩:=JF T.rise (pth t h K).j
 generalize Vi t.place (pth t h K).j=p at *
 have mem:∀q,q∈Rh L p ((pth t h K).j,h,x)↔q∈L\/q=((pth t h K).j,h,x):=λq=>by
  rw [(Jl L p _).mem_iff,Va,V3]
 have pm:∀h' k,pth { t with place:=VR t.place p (pth t h K).j } h' k=pth t h' k:=λh' k=>Tc (t:={ t with place:=VR t.place p (pth t h K).j }) (t':=t) rfl h' k
 refine⟨T.mok,T.dum,?_,?_,λq hq=>?_,?_,λq hq=>?_⟩
 ·rw [Ud,T.pl]
  unfold Rh
  simp
 ·unfold Rh
  rw [WS,List.pairwise_append]
  have hT:=T.ri
  rw [←W1U p L,List.pairwise_append] at hT
  refine⟨hT.1,?_,λa ha b hb=>?_⟩
  ·rw [List.singleton_append,VS]
   refine⟨λb hb=>?_,hT.2.1⟩
   obtain⟨i,hi⟩:=VN.mp hb
   rw [List.getElem?_drop] at hi
   have h1:=b2 (p+i) b.1 (by omega) (by rw [T.at,hi];rfl)
   have h2:=hK b (W20 hb)
   show (pth t h K).j<b.1
   omega
  ·have hat:a.1<(pth t h K).j:=by
    obtain⟨i,hi⟩:=VN.mp ha
    rw [List.getElem?_take] at hi
    split at hi
    ·rename_i hip
     exact b1 i a.1 hip (by rw [T.at,hi];rfl)
    ·cases hi
   rcases Va.mp hb with z|z
   ·rw [V3.mp z];exact hat
   ·exact hT.2.2 a ha b z
 ·rcases (mem q).mp hq with z|z
  ·exact T.bd q z
  ·rw [z];exact bd
 ·rw [(Jl L p _).length_eq,WN]
  exact few
 ·rcases (mem q).mp hq with z|z
  ·obtain⟨k,k1,k2⟩:=T.path q z
   refine⟨k,by rw [pm];exact k1,λk' hk'=>?_⟩
   obtain⟨q',q1,q2⟩:=k2 k' hk'
   exact⟨q',(mem q').mpr (.inl q1),by rw [pm];exact q2⟩
  ·subst z
   refine⟨K,by rw [pm],λk' hk'=>?_⟩
   obtain⟨q',q1,q2⟩:=hl k' hk'
   exact⟨q',(mem q').mpr (.inl q1),by rw [pm];exact q2⟩
theorem RZ (t:SetTable)(h:Int)(m:Um t.mask):∀k,(pth t h k).j+(pth t h k).more≤t.mask
 |0=>by
  show Vr h%(t.mask+1)+(V0 t.mask (Vr h%(t.mask+1))-Vr h%(t.mask+1))≤t.mask
  have:=W2v (Vr h) (show 0<t.mask+1 by omega)
  unfold V0
  split<;>omega
 |k+1=>by
  have ih:=RZ t h m k
  show (t.advance (pth t h k)).j+(t.advance (pth t h k)).more≤t.mask
  generalize pth t h k=p at *
  unfold W0A
  by_cases q:p.more>0
  ·rw [if_pos q]
   dsimp only
   omega
  ·rw [if_neg q]
   unfold SetTable.leap
   dsimp only
   have:=W2v (p.i*5+1+p.perturb / 32) (show 0<t.mask+1 by omega)
   unfold V0
   split<;>omega
end L2
namespace L2
open PySem
def kbP (mask:Nat)(h:Int):Nat->Nat
 |0=>0
 |m+1=>kbP mask h m+(V0 mask (bsP mask h m).1-(bsP mask h m).1)+1
theorem Ny (t:SetTable)(h:Int){k r:Nat}{b:Nat×Nat}(e:pth t h k={ j:=b.1,more:=r,i:=b.1,perturb:=b.2,dummy:=none }):∀q,q≤r->pth t h (k+q)={ j:=b.1+q,more:=r-q,i:=b.1,perturb:=b.2,dummy:=none }
 |0,_=>e
 |q+1,hq=>by
  have e:=Ny t h e q (by omega)
  show t.advance (pth t h (k+q))=_
  rw [e]
  unfold W0A
  rw [if_pos (show r-q>0 by omega)]
  rfl
theorem Ef (t:SetTable)(h:Int):∀m,pth t h (kbP t.mask h m)={ j:=(bsP t.mask h m).1,more:=V0 t.mask (bsP t.mask h m).1-(bsP t.mask h m).1,i:=(bsP t.mask h m).1,perturb:=(bsP t.mask h m).2,dummy:=none }
 |0=>rfl
 |m+1=>by
  have e:=Ny t h (Ef t h m) _ (Wp _)
  show t.advance (pth t h (kbP t.mask h m+(V0 t.mask (bsP t.mask h m).1-(bsP t.mask h m).1)))=_
  rw [e]
  unfold W0A
  rw [if_neg (show ¬_-_>0 by omega)]
  rfl
structure Own (t:SetTable) (hs:List Int) (ow:Array (Option Nat)) (c:Nat):Prop where
 sz:ow.size=t.mask+1
 has:∀k,k<c->∃j:Nat,ow[j]? = some (some k)
 inj:∀(j j' k:Nat),ow[j]? = some (some k)->ow[j']? = some (some k)->j=j'
 path:∀(j k:Nat),ow[j]? = some (some k)->k<c/\∃h,hs[k]? = some h/\∃q,(pth t h q).j=j/\∀q',q'<q->∃k',ow[(pth t h q').j]? = some (some k')
theorem LK {t:SetTable}{ow:Array (Option Nat)}(mk:Um t.mask)(sz:ow.size=t.mask+1)(h:Int){e:Nat}(he:ow[e]? = some none):∀(fuel m:Nat),(∃m1,m≤m1/\m1<m+fuel/\(bsP t.mask h m1).1=e)->
  (∀q',q'<kbP t.mask h m->∃k',ow[(pth t h q').j]? = some (some k'))->
  ∃q,W0a t.mask ow fuel (bsP t.mask h m).1 (bsP t.mask h m).2=some (pth t h q).j/\ow[(pth t h q).j]? = some none/\∀q',q'<q->∃k',ow[(pth t h q').j]? = some (some k')
 |0,m,h1,_=>by
  obtain⟨m1,a,b,_⟩:=h1
  omega
 |fuel+1,m,h1,h2=>by
  unfold W0a
  have win:∀k,k≤V0 t.mask (bsP t.mask h m).1-(bsP t.mask h m).1->(pth t h (kbP t.mask h m+k)).j=(bsP t.mask h m).1+k:=λk hk=>by rw [Ny t h (Ef t h m) k hk]
  have bnd:∀k,k≤V0 t.mask (bsP t.mask h m).1-(bsP t.mask h m).1->(bsP t.mask h m).1+k<ow.size:=λk hk=>by
   have:=RZ t h mk (kbP t.mask h m+k)
   rw [win k hk] at this
   omega
  have hle:(bsP t.mask h m).1≤V0 t.mask (bsP t.mask h m).1:=by unfold V0;split<;>omega
  have cell:∀k,k≤V0 t.mask (bsP t.mask h m).1-(bsP t.mask h m).1->ow.getD ((bsP t.mask h m).1+k) (some 0)=none->ow[(bsP t.mask h m).1+k]? = some none:=λk hk e=>by
   have hb:=bnd k hk
   rw [Vz,WA hb] at e
   rw [WA hb]
   exact congrArg some e
  have cell2:∀k,k≤V0 t.mask (bsP t.mask h m).1-(bsP t.mask h m).1->ow.getD ((bsP t.mask h m).1+k) (some 0)≠none->∃k',ow[(bsP t.mask h m).1+k]? = some (some k'):=λk hk e=>by
   have hb:=bnd k hk
   rw [Vz,WA hb] at e
   rw [WA hb]
   obtain⟨k',z⟩:=Option.ne_none_iff_exists'.mp e
   exact⟨k',congrArg some z⟩
  cases hf:(W7 (V0 t.mask (bsP t.mask h m).1+1-(bsP t.mask h m).1)).find? λk=>(ow.getD ((bsP t.mask h m).1+k) (some 0)).isNone with
  |some k=>
   obtain⟨f1,f2,f3⟩:=List.find?_range_eq_some.mp hf
   have hk:k≤V0 t.mask (bsP t.mask h m).1-(bsP t.mask h m).1:=by have:=Vh.mp f2;omega
   refine⟨kbP t.mask h m+k,by dsimp only;rw [win k hk],by rw [win k hk];exact cell k hk (Option.isNone_iff_eq_none.mp f1),λq' hq'=>?_⟩
   by_cases z:q'<kbP t.mask h m
   ·exact h2 q' z
   ·obtain⟨d,rfl⟩:∃d,q'=kbP t.mask h m+d:=⟨q'-kbP t.mask h m,by omega⟩
    rw [win d (by omega)]
    refine cell2 d (by omega) λw=>?_
    have:=f3 d (by omega)
    rw [w] at this
    cases this
  |none=>
   have hall:=List.find?_range_eq_none.mp hf
   dsimp only
   have own:∀k,k≤V0 t.mask (bsP t.mask h m).1-(bsP t.mask h m).1->∃k',ow[(bsP t.mask h m).1+k]? = some (some k'):=λk hk=>by
    refine cell2 k hk λw=>?_
    have:=hall k (by omega)
    rw [w] at this
    cases this
   have ih:=LK mk sz h he fuel (m+1) (by
    obtain⟨m1,a,b,c⟩:=h1
    refine⟨m1,?_,by omega,c⟩
    rcases Nat.lt_or_ge m m1 with z|z
    ·exact z
    ·have:m1=m:=by omega
     subst this
     obtain⟨k',w⟩:=own 0 (VH _)
     rw [Nat.add_zero,c,he] at w
     cases w) λq' hq'=>by
    by_cases z:q'<kbP t.mask h m
    ·exact h2 q' z
    ·obtain⟨d,rfl⟩:∃d,q'=kbP t.mask h m+d:=⟨q'-kbP t.mask h m,by omega⟩
     have hd:d≤V0 t.mask (bsP t.mask h m).1-(bsP t.mask h m).1:=by
      have:kbP t.mask h (m+1)=kbP t.mask h m+(V0 t.mask (bsP t.mask h m).1-(bsP t.mask h m).1)+1:=rfl
      omega
     rw [win d hd]
     exact own d hd
   exact ih
theorem Own.room {t:SetTable}{hs:List Int}{ow:Array (Option Nat)}{c:Nat}(O:Own t hs ow c)(hc:c≤t.mask):∃e:Nat,e≤t.mask/\ow[e]? = some none:=by
 refine W0f λz=>?_
 have all:∀e,e≤t.mask->∃k,ow[e]? = some (some k):=λe he=>by
  have hb:e<ow.size:=by rw [O.sz];omega
  cases w:ow[e] with
  |none=>exact absurd ⟨e,he,by rw [WA hb,w]⟩ z
  |some k=>exact⟨k,by rw [WA hb,w]⟩
 have h1:=Tv ((W7 (t.mask+1)).map λj=>((ow[j]?).getD none).getD 0) (W7 c) (by
  refine VG.mpr ?_
  refine W2w ?_ (W0O (n:=t.mask+1))
  intro a b ha hb hab q
  obtain⟨k,hk⟩:=all a (by have:=Vh.mp ha;omega)
  obtain⟨k',hk'⟩:=all b (by have:=Vh.mp hb;omega)
  rw [hk,hk'] at q
  have q':k=k':=q
  subst q'
  exact hab (O.inj a b k hk hk')) λx hx=>by
  obtain⟨j,j1,j2⟩:=WD.mp hx
  obtain⟨k,hk⟩:=all j (by have:=Vh.mp j1;omega)
  rw [hk] at j2
  have j3:k=x:=j2
  rw [←j3,Vh]
  exact (O.path j k hk).1
 rw [We,Vc,Vc] at h1
 omega
theorem Own.step {t:SetTable}{hs:List Int}{ow:Array (Option Nat)}{c:Nat}(mk:Um t.mask)(O:Own t hs ow c)(hc:c≤t.mask){h:Int}(hh:hs[c]? = some h) :
  ∃j,W0a t.mask ow (VQ t.mask) (Vr h%(t.mask+1)) (Vr h)=some j/\Own t hs (ow.setIfInBounds j (some c)) (c+1):=by
 obtain⟨e,e1,e2⟩:=O.room hc
 obtain⟨m,m1,m2⟩:=Nd mk h e1
 obtain⟨q,q1,q2,q3⟩:=LK mk O.sz h e2 (VQ t.mask) 0 ⟨m,VH _,by unfold VQ;omega,m2⟩ λq' z=>absurd z (W0U _)
 refine⟨_,q1,?_⟩
 have hb:(pth t h q).j<ow.size:=(Vn.mp q2).1
 have get:∀i:Nat,(ow.setIfInBounds (pth t h q).j (some c))[i]? = if (pth t h q).j=i then some (some c) else ow[i]?:=λi=>by
  rw [Array.getElem?_setIfInBounds]
  by_cases z:(pth t h q).j=i
  ·rw [if_pos z,if_pos z,if_pos hb]
  ·rw [if_neg z,if_neg z]
 have up:∀(i k:Nat),ow[i]? = some (some k)->(ow.setIfInBounds (pth t h q).j (some c))[i]? = some (some k):=λi k w=>by
  rw [get]
  by_cases z:(pth t h q).j=i
  ·rw [z,w] at q2;cases q2
  ·rw [if_neg z];exact w
 refine⟨by rw [Array.size_setIfInBounds];exact O.sz,λk hk=>?_,λj j' k w w'=>?_,λj k w=>?_⟩
 ·by_cases z:k=c
  ·exact⟨(pth t h q).j,by rw [get,if_pos rfl,z]⟩
  ·obtain⟨j,hj⟩:=O.has k (by omega)
   exact⟨j,up j k hj⟩
 ·rw [get] at w w'
  by_cases z:(pth t h q).j=j
  ·rw [if_pos z] at w
   injection w with w
   injection w with w
   by_cases z':(pth t h q).j=j'
   ·omega
   ·rw [if_neg z'] at w'
    have:=(O.path j' k w').1
    omega
  ·rw [if_neg z] at w
   by_cases z':(pth t h q).j=j'
   ·rw [if_pos z'] at w'
    injection w' with w'
    injection w' with w'
    have:=(O.path j k w).1
    omega
   ·rw [if_neg z'] at w'
    exact O.inj j j' k w w'
 ·rw [get] at w
  by_cases z:(pth t h q).j=j
  ·rw [if_pos z] at w
   injection w with w
   injection w with w
   subst w
   refine⟨W0z _,h,hh,q,z,λq' hq'=>?_⟩
   obtain⟨k',hk'⟩:=q3 q' hq'
   exact⟨k',up _ _ hk'⟩
  ·rw [if_neg z] at w
   obtain⟨a,h',a1,q',a2,a3⟩:=O.path j k w
   refine⟨by omega,h',a1,q',a2,λq'' hq''=>?_⟩
   obtain⟨k',hk'⟩:=a3 q'' hq''
   exact⟨k',up _ _ hk'⟩
end L2
namespace L2
open PySem
theorem Own.all {t:SetTable}{hs:List Int}(mk:Um t.mask)(hl:hs.length≤t.mask):∀(l done:List Int) (ow:Array (Option Nat)),hs=done++l->Own t hs ow done.length->
  ∃ow',(l.foldl (λ(acc:Option (Array (Option Nat)×Nat)) h=>do
   let (owner,k) ←acc
   let j ←W0a t.mask owner (VQ t.mask) (Vr h%(t.mask+1)) (Vr h)
   pure (owner.setIfInBounds j (some k),k+1)) (some (ow,done.length)))=some (ow',hs.length)/\Own t hs ow' hs.length
 |[],done,ow,e,O=>by
  rw [W02] at e
  subst e
  exact⟨ow,rfl,O⟩
 |h :: l,done,ow,e,O=>by
  have hd:hs[done.length]? = some h:=by
   rw [e,WV (Wp _),Nat.sub_self];rfl
  have hlt:done.length≤t.mask:=by
   have:=congrArg Ve e
   rw [WN,WX] at this
   omega
  obtain⟨j,j1,j2⟩:=O.step mk hlt hd
  have ih:=Own.all mk hl l (done++[h]) (ow.setIfInBounds j (some done.length)) (by rw [e,WS];rfl) (by rw [WN];exact j2)
  rw [W29]
  have e1:(do
   let (owner,k) ←(some (ow,done.length):Option (Array (Option Nat)×Nat))
   let j ←W0a t.mask owner (VQ t.mask) (Vr h%(t.mask+1)) (Vr h)
   pure (owner.setIfInBounds j (some k),k+1))=some (ow.setIfInBounds j (some done.length),(done++[h]).length):=by
   show (W0a t.mask ow (VQ t.mask) (Vr h%(t.mask+1)) (Vr h)).bind _=_
   rw [j1,WN]
   rfl
  rw [e1]
  exact ih
theorem BG {t:SetTable}(mk:Um t.mask)(hs:Array Int)(hl:hs.size≤t.mask):∃ow,W2B t.mask hs=some ow/\Own t hs.toList ow hs.size:=by
 have O0:Own t hs.toList (Array.replicate (t.mask+1) none) 0:=by
  have no:∀(j k:Nat),(Array.replicate (t.mask+1) (none:Option Nat))[j]?≠some (some k):=λj k w=>by
   rw [Array.getElem?_replicate] at w
   split at w<;>cases w
  exact⟨by rw [Array.size_replicate],λk hk=>absurd hk (W0U _),λj j' k w=>absurd w (no j k),λj k w=>absurd w (no j k)⟩
 obtain⟨ow,e,O⟩:=Own.all (hs:=hs.toList) mk (by rw [WE];exact hl) hs.toList [] _ rfl O0
 have hz:hs.toList.length=hs.size:=WE
 rw [hz] at O
 refine⟨ow,?_,O⟩
 unfold W2B
 rw [←Array.foldl_toList]
 exact congrArg (Option.map λx=>x.1) e
def T6 (mask:Nat)(ow:Array (Option Nat)):List (Nat×Nat):=(W7 (mask+1)).filterMap λj=>(ow.getD j none).map (j,·)
theorem Jx {t:SetTable}{hs:List Int}{ow:Array (Option Nat)}{c:Nat}(O:Own t hs ow c){p:Nat×Nat}:p∈T6 t.mask ow↔ow[p.1]? = some (some p.2):=by
 unfold T6
 rw [W1q]
 constructor
 ·rintro⟨j,j1,j2⟩
  obtain⟨k,k1,rfl⟩:=Wi.mp j2
  rw [Vz] at k1
  dsimp only
  cases w:ow[j]? with
  |none=>rw [w] at k1;cases k1
  |some x=>rw [w] at k1;exact congrArg some k1
 ·intro w
  have hb:p.1<ow.size:=(Vn.mp w).1
  rw [O.sz] at hb
  refine⟨p.1,Vh.mpr hb,?_⟩
  rw [Vz,w]
  rfl
theorem BD (mask:Nat)(ow:Array (Option Nat)):(T6 mask ow).Pairwise λa b=>a.1<b.1:=by
 unfold T6
 rw [List.pairwise_filterMap]
 refine W1M ?_ (W1H (n:=mask+1))
 intro a b hab x hx y hy
 obtain⟨_,_,rfl⟩:=Wi.mp hx
 obtain⟨_,_,rfl⟩:=Wi.mp hy
 exact hab
theorem RT {t:SetTable}(mk:Um t.mask)(es:Array (Int×Value))(hl:es.size≤t.mask)(finger moves:Nat)(led plain:Bool) :
  ∃t' order L,SetTable.laid t.mask finger moves led plain (es.map (·.1))=some (t',order)/\t'.mask=t.mask/\t'.led=led/\t'.plain=plain/\Tbl t' L/\(order.filterMap (es[·]?)).toList=L.map (·.2)/\(L.map (·.2)).Perm es.toList:=by
 obtain⟨ow,e,O⟩:=BG mk (es.map (·.1)) (by rw [Array.size_map];exact hl)
 rw [Array.size_map] at O
 have hk:∀p∈T6 t.mask ow,p.2<es.size:=λp hp=>(O.path _ _ ((Jx O).mp hp)).1
 let L:SL:=(T6 t.mask ow).filterMap λp=>(es[p.2]?).map λx=>(p.1,x)
 have hL:∀l:List (Nat×Nat),(∀p∈l,p.2<es.size)->(l.filterMap λp=>(es[p.2]?).map λx=>(p.1,x)).map (·.1)=l.map (·.1)/\(l.filterMap λp=>(es[p.2]?).map λx=>(p.1,x)).map (·.2)=(l.map (·.2)).filterMap (es[·]?):=by
  intro l
  induction l with
  |nil=>intro _;exact⟨rfl,rfl⟩
  |cons p l ih=>
   intro hp
   obtain⟨i1,i2⟩:=ih λq hq=>hp q (Wz _ hq)
   obtain⟨v,e2⟩:∃v,es[p.2]? = some v:=⟨_,WA (hp p Ws)⟩
   rw [W0t,e2]
   dsimp only [W3]
   rw [W1,W1,W1,W1,W0t,e2,i1,i2]
   exact⟨rfl,rfl⟩
 obtain⟨l1,l2⟩:=hL _ hk
 have memL:∀q∈L,∃k,ow[q.1]? = some (some k)/\es[k]? = some q.2:=λq hq=>by
  obtain⟨p,p1,p2⟩:=W1q.mp hq
  obtain⟨x,x1,rfl⟩:=Wi.mp p2
  exact⟨p.2,(Jx O).mp p1,x1⟩
 have Lmem:∀(j k:Nat),ow[j]? = some (some k)->∃q∈L,q.1=j:=λj k w=>by
  have hm:(j,k)∈T6 t.mask ow:=(Jx O).mpr w
  have:j∈L.map (·.1):=by rw [show L.map (·.1)=_ from l1];exact WD.mpr ⟨_,hm,rfl⟩
  obtain⟨q,q1,q2⟩:=WD.mp this
  exact⟨q,q1,q2⟩
 have ord:((T6 t.mask ow).map (·.2)).Perm (W7 es.size):=by
  refine (W09 ?_ W0O).mpr λk=>?_
  ·refine VG.mpr (W2w ?_ (BD t.mask ow))
   intro a b ha hb hab z
   have h1:=(Jx O).mp ha
   have h2:=(Jx O).mp hb
   rw [←z] at h2
   have:=O.inj _ _ _ h1 h2
   omega
  ·rw [WD,Vh]
   constructor
   ·rintro⟨p,p1,rfl⟩;exact hk p p1
   ·intro z
    obtain⟨j,hj⟩:=O.has k z
    exact⟨(j,k),(Jx O).mpr hj,rfl⟩
 have rng:(W7 es.size).filterMap (es[·]?)=es.toList:=by
  have:∀l:List (Int×Value),(W7 l.length).filterMap (λk=>l[k]?)=l:=by
   intro l
   induction l with
   |nil=>rfl
   |cons a l ih=>
    rw [WX,List.range_succ_eq_map,W0t,List.filterMap_map]
    exact congrArg (a :: ·) ih
  have h:=this es.toList
  rw [WE] at h
  have e3:(λk:Nat=>es.toList[k]?)=λk=>es[k]?:=funext λk=>Vb
  rw [e3] at h
  exact h
 have hper:(L.map (·.2)).Perm es.toList:=by
  rw [show L.map (·.2)=_ from l2,←rng]
  exact ord.filterMap _
 have hlen:L.length=es.size:=by
  have:=hper.length_eq
  rw [We,WE] at this
  exact this
 refine⟨{ mask:=t.mask,place:=((T6 t.mask ow).map (·.1)).toArray,dummies:=#[],finger:=finger,led:=led,moves:=moves,plain:=plain },((T6 t.mask ow).map (·.2)).toArray,L,?_,rfl,rfl,rfl,⟨mk,rfl,?_,?_,?_,?_,?_⟩,?_,hper⟩
 ·unfold SetTable.laid
  rw [e]
  rfl
 ·exact l1.symm
 ·refine List.pairwise_filterMap.mpr (W1M ?_ (BD t.mask ow))
  intro a b hab x hx y hy
  obtain⟨_,_,rfl⟩:=Wi.mp hx
  obtain⟨_,_,rfl⟩:=Wi.mp hy
  exact hab
 ·intro q hq
  obtain⟨k,k1,_⟩:=memL q hq
  have:=(Vn.mp k1).1
  rw [O.sz] at this
  show q.1≤t.mask
  omega
 ·show L.length≤t.mask
  omega
 ·intro q hq
  obtain⟨k,k1,k2⟩:=memL q hq
  obtain⟨_,h',a1,z,a2,a3⟩:=O.path _ _ k1
  have hq2:q.2.1=h':=by
   rw [Array.toList_map,WG,Vb,k2] at a1
   injection a1
  have pm:∀k,pth { mask:=t.mask,place:=((T6 t.mask ow).map (·.1)).toArray,dummies:=#[],finger:=finger,led:=led,moves:=moves,plain:=plain } q.2.1 k=pth t h' k:=λk=>by
   rw [hq2]
   exact Tc (t:={ mask:=t.mask,place:=((T6 t.mask ow).map (·.1)).toArray,dummies:=#[],finger:=finger,led:=led,moves:=moves,plain:=plain }) (t':=t) rfl h' k
  refine⟨z,by rw [pm];exact a2,λk' hk'=>?_⟩
  obtain⟨k2',w⟩:=a3 k' hk'
  rw [pm]
  exact Lmem _ _ w
 ·rw [show L.map (·.2)=_ from l2]
  simp
end L2
namespace L2
open PySem PySem.Spec PyProof.Rows
def Fu (h0 h:Heap):Prop:=∀b o,h0.get? b=some o->h.get? b=some o
structure HK (prog:Program) (w:World) (h0:Heap) (U:Nat) (K:Type) [DecidableEq K] where
 is:K->Value->Prop
 hash:K->Int
 ref:∀{k:K} {v:Value},is k v->∃a,v = .ref a
 inj:∀{k k':K} {v:Value},is k v->is k' v->k=k'
 pyHash:∀{A:Around} {E:Value->Shared->Prop} {s:Shared} {k:K} {v:Value} {Q:Int->Shared->Prop},A.units≤U->Fu h0 s.heap->is k v->(∀tk,Q (hash k) { s with toks:=tk })->wpAny (model prog w) A (PySem.pyHash v) Q E s
 eqBool:∀{A:Around} {E:Value->Shared->Prop} {s:Shared} {k k':K} {v v':Value} {Q:Bool->Shared->Prop},A.units≤U->Fu h0 s.heap->is k v->is k' v'->Q (decide (k=k')) s->wpAny (model prog w) A (PySem.eqBool v v') Q E s
 seen:∀{A:Around} {E:Value->Shared->Prop} {s:Shared} {k:K} {v:Value} {ys:List Value} {Q:Bool->Shared->Prop},Fu h0 s.heap->is k v->(∀y∈ys,∃k',is k' y)->Q false s->wpAny (model prog w) A (searchCouldBeSeen v ys) Q E s
 hbv:∀{A:Around} {E:Value->Shared->Prop} {s:Shared} {k:K} {v:Value} {Q:Bool->Shared->Prop},Fu h0 s.heap->is k v->(∀b,Q b s)->wpAny (model prog w) A (hashByValue 8 v) Q E s
theorem Tbl.fits {t:SetTable}{L:SL}(T:Tbl t L){n:Nat}(h:n=L.length):t.fits n=true:=by
 unfold SetTable.fits SetTable.fill
 have e:t.place.size=L.length:=by
  have:=congrArg Ve T.pl
  rw [We,WE] at this
  exact this
 have hf:=T.few
 rw [T.dum,h,e]
 simpa using hf
theorem Tbl.notGave {t:SetTable}{L:SL}(T:Tbl t L):t.gaveWay=false:=by
 unfold SetTable.gaveWay
 rcases T.mok with e|e<;>rw [e]<;>rfl
section
variable {prog:Program} {w:World} {h0:Heap} {U:Nat} {K:Type} [DecidableEq K] {A:Around} {E:Value->Shared->Prop} {s:Shared}
theorem HK.search (M:HK prog w h0 U K)(ext:Fu h0 s.heap)(hu:A.units≤U){S:Addr}{o:Obj}{es:Array (Int×Value)}{ep:Nat}{t:SetTable}{L:SL}(ho:s.heap.get? S=some o)(hd:o.data = .set es ep t)(T:Tbl t L)(hes:es.toList=L.map (·.2))
  (hel:∀q∈L,∃k,M.is k q.2.2/\q.2.1=M.hash k) {k:K} {x:Value} (hx:M.is k x) {C:Nat} (hC:∀q∈L,q.1≠(pth t (M.hash k) C).j) (hl:∀c',c'<C->∃q∈L,q.1=(pth t (M.hash k) c').j) (hCt:C<10*VQ t.mask) {Q:SetFound->Shared->Prop}
  (yes:(∃q∈L,M.is k q.2.2)->Q (.there none) s) :
  ∀(fuel c:Nat) (stand:Option SetTable.Probe),C-c<fuel->c≤C->stand.getD (t.probeStart (M.hash k))=pth t (M.hash k) c->
   ((∀q∈L,∀c',c≤c'->c'<C->q.1=(pth t (M.hash k) c').j->¬M.is k q.2.2)->Q (.free (pth t (M.hash k) C).j false) s)->
   wpAny (model prog w) A (setSearchFrom S x (M.hash k) true fuel stand) Q E s
 |0,c,stand,h1,_,_,_=>absurd h1 (W0U _)
 |fuel+1,c,stand,h1,h2,h3,no=>by
  have hsz:es.size=L.length:=by rw [←WE,hes,We]
  have hf:=T.fits hsz
  have at':∀(i:Nat) q,L[i]? = some q->es[i]? = some q.2:=λi q e=>by rw [←Vb,hes,WG,e];rfl
  unfold setSearchFrom
  refine W0 (Vp ho hd hf ?_)
  dsimp only
  rw [T.notGave]
  simp only [WL,if_false]
  rcases T.go (M.hash k) (λi=>(es[i]?.map (·.1)).getD 0) hC hl (10*VQ t.mask) c (by omega) h2 with ⟨g1,g2⟩|⟨c',i,q,c1,c2,c3,c4,c5,g1,g2⟩
  ·have e:t.probe (λi=>(es[i]?.map (·.1)).getD 0) (M.hash k) (stand.getD (t.probeStart (M.hash k)))=some (.empty (pth t (M.hash k) C).j none):=by rw [h3];exact g1
   split
   ·rename_i met hp
    have hp:=hp.symm.trans e
    injection hp with hp
    subst hp
    dsimp only
    exact W6 (no λq hq c' b1 b2 b3 b4=>by
     obtain⟨i,hi⟩:=VN.mp hq
     obtain⟨k',k1,k2⟩:=hel q hq
     refine g2 c' i q b1 b2 hi b3 ?_
     rw [at' i q hi,M.inj b4 k1]
     exact k2)
   ·rename_i hp
    exact absurd (hp _ e) id
  ·have e:t.probe (λi=>(es[i]?.map (·.1)).getD 0) (M.hash k) (stand.getD (t.probeStart (M.hash k)))=some (.candidate (pth t (M.hash k) c').j i (pth t (M.hash k) (c'+1))):=by rw [h3];exact g1
   split
   ·rename_i met hp
    have hp:=hp.symm.trans e
    injection hp with hp
    subst hp
    dsimp only
    have hq:q∈L:=V4 c3
    obtain⟨k',k1,k2⟩:=hel q hq
    have body:wpAny (model prog w) A (do
      let equal ←holding [q.2.2] (PySem.eqBool q.2.2 x)
      let __x ←setState S
      if (true&&equal)=true then pure (SetFound.there none)
      else match __x.2.snd.sameMemory t.moves t.mask with
       |some same=>match if same=true then __x.2.snd.slot (pth t (M.hash k) c').j else SetTable.Slot.empty with
        |SetTable.Slot.live i'=>match __x.fst[i']? with
         |some (_,y')=>do
          let b ←isSame y' q.2.2
          let still ←pure (if b=true then some i' else none)
          match still with
           |none=>do
            rule "set.search.anew"
            setSearchFrom S x (M.hash k) true fuel none
           |some i'=>if equal=true then pure (SetFound.there (some i')) else setSearchFrom S x (M.hash k) true fuel (some (pth t (M.hash k) (c'+1)))
         |none=>do
          let still ←(pure none:Sem (Option Nat))
          match still with
           |none=>do
            rule "set.search.anew"
            setSearchFrom S x (M.hash k) true fuel none
           |some i'=>if equal=true then pure (SetFound.there (some i')) else setSearchFrom S x (M.hash k) true fuel (some (pth t (M.hash k) (c'+1)))
        |_=>do
         let still ←(pure none:Sem (Option Nat))
         match still with
          |none=>do
           rule "set.search.anew"
           setSearchFrom S x (M.hash k) true fuel none
          |some i'=>if equal=true then pure (SetFound.there (some i')) else setSearchFrom S x (M.hash k) true fuel (some (pth t (M.hash k) (c'+1)))
       |_=>unsupported "set.changed-during-lookup:is-the-new-block-at-the-old-address") Q E s:=by
     refine W0 (Vq (M.eqBool hu ext k1 hx ?_))
     refine W0 (Vp ho hd hf ?_)
     dsimp only
     by_cases hkk:k'=k
     ·rw [decide_eq_true hkk]
      simp only [Bool.and_self,if_true]
      exact W6 (yes ⟨q,hq,hkk ▸ k1⟩)
     ·rw [decide_eq_false hkk]
      simp only [W2o,WL,if_false]
      have hsm:t.sameMemory t.moves t.mask=some true:=by unfold SetTable.sameMemory;simp
      rw [hsm]
      dsimp only
      rw [if_pos rfl,←c4,T.live c3]
      dsimp only
      rw [at' i q c3]
      dsimp only
      obtain⟨ad,had⟩:=M.ref k1
      rw [had]
      refine W0 (wpAny_isSame_ref_self ?_)
      rw [if_pos rfl]
      refine W0 (W6 ?_)
      dsimp only
      refine M.search ext hu ho hd T hes hel hx hC hl hCt yes fuel (c'+1) (some (pth t (M.hash k) (c'+1))) (by omega) (by omega) rfl λhno=>no λq' hq' c'' b1 b2 b3 b4=>?_
      by_cases z:c''<c'+1
      ·by_cases z2:c''=c'
       ·subst z2
        have:q'=q:=by
         obtain⟨i',hi'⟩:=VN.mp hq'
         have l1:=T.live hi'
         have l2:=T.live c3
         rw [b3,←c4,l2] at l1
         injection l1 with l1
         subst l1
         rw [c3] at hi'
         exact (WT hi').symm
        subst this
        exact hkk (M.inj k1 b4)
       ·obtain⟨i',hi'⟩:=VN.mp hq'
        obtain⟨k2',k21,k22⟩:=hel q' hq'
        refine g2 c'' i' q' b1 (by omega) hi' b3 ?_
        rw [at' i' q' hi',M.inj b4 k21]
        exact k22
      ·exact hno q' hq' c'' (by omega) b2 b3 b4
    cases hled:t.led with
    |true=>
     simp only [W07,WL,if_false]
     rw [at' i q c3]
     exact body
    |false=>
     simp only [W1O,if_true]
     refine W0 (M.seen ext hx (λy hy=>?_) ?_)
     ·obtain⟨p,p1,rfl⟩:=WD.mp hy
      have p2:p∈es.toList:=by
       rw [Array.toList_filter] at p1
       exact (VJ.mp p1).1
      rw [hes] at p2
      obtain⟨q',q1,rfl⟩:=WD.mp p2
      obtain⟨k2',k21,_⟩:=hel q' q1
      exact⟨k2',k21⟩
     ·simp only [WL,if_false]
      rw [at' i q c3]
      exact body
   ·rename_i hp
    exact absurd (hp _ e) id
end
end L2
namespace L2
open PySem PySem.Spec PyProof.Rows
section
variable {prog:Program} {w:World} {h0:Heap} {U:Nat} {K:Type} [DecidableEq K] {A:Around} {E:Value->Shared->Prop} {s:Shared}
def Hy (M:HK prog w h0 U K)(S:Addr)(h:Heap)(vs:List Value):Prop:=
 ∃o es ep t L,h.get? S=some o/\o.ExactSet/\o.data = .set es ep t/\Tbl t L/\es.toList=L.map (·.2)/\(∀q∈L,∃k,M.is k q.2.2/\q.2.1=M.hash k)/\(t.mask=7->L.length≤4)/\(L.map (·.2.2)).Perm vs/\t.led=JS w
theorem Tbl.same {t t':SetTable}{L:SL}(T:Tbl t L)(e1:t'.mask=t.mask)(e2:t'.place=t.place)(e3:t'.dummies=t.dummies):Tbl t' L:=by
 have pm:∀h k,pth t' h k=pth t h k:=λh k=>Tc e1 h k
 refine⟨by rw [e1];exact T.mok,by rw [e3];exact T.dum,by rw [e2];exact T.pl,T.ri,λq hq=>by rw [e1];exact T.bd q hq,by rw [e1];exact T.few,λq hq=>?_⟩
 obtain⟨k,k1,k2⟩:=T.path q hq
 refine⟨k,by rw [pm];exact k1,λk' hk'=>?_⟩
 rw [pm]
 exact k2 k' hk'
theorem Ti {h:Heap}{a:Addr}{o:Obj}{es es':Array (Int×Value)}{ep:Nat}{t t':SetTable}(ho:h.get? a=some o)(hd:o.data = .set es ep t):(h.update a (Obj.putSet es' t')).get? a=some { o with data:=.set es' (ep+1) t' }:=by
 have:=VL (Obj.putSet es' t') ho (by rw [putSet_of es' t' hd];rfl)
 rw [putSet_of es' t' hd] at this
 exact this
theorem HK.relay (M:HK prog w h0 U K){S:Addr}{o:Obj}{es:Array (Int×Value)}{ep:Nat}{t:SetTable}(ho:s.heap.get? S=some o)(hx:o.ExactSet)(hd:o.data = .set es ep t)(hf:t.fits es.size=true)(h5:es.size=5)(hled:t.led=JS w){vs:List Value}
  (hel:∀e∈es.toList,∃k,M.is k e.2/\e.1=M.hash k) (hp:(es.toList.map (·.2)).Perm vs) {Q:Unit->Shared->Prop} (q:∀h',W08 S s.heap h'->Hy M S h' vs->Q () { s with heap:=h' }) :
  wpAny (model prog w) A (setRelay S (W1P 5)) Q E s:=by
 obtain⟨t',order,L,e1,e2,e3,e4,T,e5,e6⟩:=RT (t:={ t with mask:=31 }) (.inr rfl) es (by rw [h5];show 5≤31;decide) t.finger (t.movedTo 31) t.led t.plain
 have hr:t.relaid (es.map (·.1)) (W1P 5)=some (t',order):=by
  unfold SetTable.relaid
  rw [show SetTable.sizeAbove (W1P 5)-1=31 by decide]
  exact e1
 have hlen:L.length=5:=by
  have:=e6.length_eq
  rw [We] at this
  exact this.trans (WE.trans h5)
 have hsz:(order.filterMap (es[·]?)).size=5:=by rw [←WE,e5,We,hlen]
 unfold setRelay
 refine W0 (Vp ho hd hf ?_)
 dsimp only
 rw [if_neg (show ¬SetTable.sizeAbove (W1P 5)>Wk by decide),hr]
 refine W0 (W1h (a:=(order.filterMap (es[·]?),t')) ?_ ?_)
 ·show (if ((order.filterMap (es[·]?)).size != es.size)=true then _ else _)=_
  rw [if_neg (by rw [hsz,h5];decide)]
 ·dsimp only
  refine wpAny_storeSet_of ho hd ?_ (by rw [hsz];decide)
  refine q _ (W00 _ _ _) ⟨_,_,_,t',L,Ti ho hd,hx,rfl,T,e5,λp hp'=>?_,λz=>?_,?_,e3.trans hled⟩
  ·exact hel p.2 (e6.mem_iff.mp (WD.mpr ⟨p,hp',rfl⟩))
  ·rw [e2] at z;cases z
  ·refine List.Perm.trans ?_ hp
   have:=e6.map (·.2)
   rw [WJ] at this
   exact this
theorem HK.adds (M:HK prog w h0 U K)(ext:Fu h0 s.heap)(hu:A.units≤U){S:Addr}{vs:List Value}{k:K}{x:Value}(hS:Hy M S s.heap vs)(few0:(∀v∈vs,¬M.is k v)->vs.length≤17)(hx:M.is k x){Q:Bool->Shared->Prop}
  (yes:∀b,(∃v∈vs,M.is k v)->Q b s) (no:∀b h',(∀v∈vs,¬M.is k v)->W08 S s.heap h'->Hy M S h' (vs++[x])->Q b { s with heap:=h' }) :
  wpAny (model prog w) A (setAddHashed S x (M.hash k)) Q E s:=by
 obtain⟨o,es,ep,t,L,ho,hex,hd,T,hes,hel,h4,hp,hled⟩:=hS
 have hsz:es.size=L.length:=by rw [←WE,hes,We]
 have hLv:L.length=vs.length:=by have:=hp.length_eq;rw [We] at this;exact this
 have hf:=T.fits hsz
 obtain⟨C,C1,C2,C3⟩:=T.first (M.hash k)
 obtain⟨ad,rfl⟩:=M.ref hx
 unfold setAddHashed setAddHashedIn
 refine Vq (W0 (Vp ho hd hf ?_))
 dsimp only
 have hbs:byScan (.ref ad) es=false:=rfl
 rw [hbs]
 simp only [WL,if_false]
 unfold setSearch
 have mvs:(∃q∈L,M.is k q.2.2)↔∃v∈vs,M.is k v:=by
  constructor
  ·rintro⟨q,q1,q2⟩;exact⟨q.2.2,hp.mem_iff.mp (WD.mpr ⟨q,q1,rfl⟩),q2⟩
  ·rintro⟨v,v1,v2⟩
   obtain⟨q,q1,rfl⟩:=WD.mp (hp.mem_iff.mpr v1)
   exact⟨q,q1,v2⟩
 have hT:VQ t.mask≤46:=by unfold VQ;rcases T.mok with e|e<;>rw [e]<;>decide
 refine W0 (M.search ext hu ho hd T hes hel hx C2 C3 C1 (λh=>?_) 100000 0 none (by omega) (VH _) rfl λhno=>?_)
 ·dsimp only
  exact W6 (yes _ (mvs.mp h))
 ·dsimp only
  have hnv:∀v∈vs,¬M.is k v:=λv hv hk=>by
   obtain⟨q,q1,q2⟩:=mvs.mpr ⟨v,hv,hk⟩
   obtain⟨c,c1,c2⟩:=T.path q q1
   obtain⟨k',k1,k2⟩:=hel q q1
   rw [k2,M.inj k1 q2] at c1 c2
   have hcC:c<C:=by
    refine W0f λz=>?_
    rcases Nat.lt_or_ge C c with w|w
    ·obtain⟨q',a1,a2⟩:=c2 C w
     exact C2 q' a1 a2
    ·have:c=C:=by omega
     subst this
     exact C2 q q1 c1.symm
   exact hno q q1 c (VH _) hcC c1.symm q2
  have few:=few0 hnv
  refine W0 (Vp ho hd hf ?_)
  dsimp only
  have hfew:L.length+1≤t.mask:=by
   rcases T.mok with e|e
   ·have:=h4 e;omega
   ·omega
  have T':=T.put (M.hash k) (.ref ad) C2 C3 hfew (by have:=RZ t (M.hash k) T.mok C;omega)
  have hmask:(t.put (pth t (M.hash k) C).j).1.mask=t.mask:=by rw [Uv T.dum]
  have hpl:(t.put (pth t (M.hash k) C).j).2=Vi t.place (pth t (M.hash k) C).j:=by rw [Uv T.dum]
  have hled':(t.put (pth t (M.hash k) C).j).1.led=JS w:=by rw [Uv T.dum];exact hled
  generalize hput:t.put (pth t (M.hash k) C).j=tp at *
  have hL':(Rh L tp.2 ((pth t (M.hash k) C).j,M.hash k,.ref ad)).length=L.length+1:=by rw [(Jl L _ _).length_eq,WN];rfl
  have hes':(VR es tp.2 (M.hash k,Value.ref ad)).toList=(Rh L tp.2 ((pth t (M.hash k) C).j,M.hash k,.ref ad)).map (·.2):=by
   rw [Ud,hes]
   unfold Rh
   simp
  have hel':∀q∈Rh L tp.2 ((pth t (M.hash k) C).j,M.hash k,.ref ad),∃k,M.is k q.2.2/\q.2.1=M.hash k:=λq hq=>by
   rcases Va.mp ((Jl L _ _).mem_iff.mp hq) with z|z
   ·exact hel q z
   ·rw [V3.mp z];exact⟨k,hx,rfl⟩
  have hp':((Rh L tp.2 ((pth t (M.hash k) C).j,M.hash k,.ref ad)).map (·.2.2)).Perm (vs++[.ref ad]):=by
   refine ((Jl L _ _).map _).trans ?_
   rw [WU]
   exact hp.append_right _
  have fin:∀(pl:Bool),wpAny (model prog w) A (do
    storeSet S (VR es tp.2 (M.hash k,Value.ref ad)) { tp.1 with plain:=pl }
    if (!false&&W1Y { tp.1 with plain:=pl })=true then do
     setRelay S (W1P (es.size+1))
     pure true
    else pure true) Q E s:=λpl=>by
   have T2:Tbl { tp.1 with plain:=pl } (Rh L tp.2 ((pth t (M.hash k) C).j,M.hash k,.ref ad)):=T'.same rfl rfl rfl
   have hsz':(VR es tp.2 (M.hash k,Value.ref ad)).size=L.length+1:=by rw [←WE,hes',We,hL']
   have hfill:SetTable.fill { tp.1 with plain:=pl }=L.length+1:=by
    unfold SetTable.fill
    have e1:=congrArg Ve T2.pl
    rw [We,hL'] at e1
    have e2:=T2.dum
    rw [show ({ tp.1 with plain:=pl }:SetTable).place.size=L.length+1 from WE.symm.trans e1,e2]
    rfl
   refine W0 (wpAny_storeSet_of ho hd ?_ (by rw [hsz'];exact WY (show _≤100 by omega) (by decide)))
   have sb:=W00 s.heap S (Obj.putSet (VR es tp.2 (M.hash k,Value.ref ad)) { tp.1 with plain:=pl })
   by_cases full:W1Y { tp.1 with plain:=pl }=true
   ·rw [full]
    simp only [W1O,Bool.and_self,if_true]
    have h5:L.length+1=5:=by
     unfold W1Y at full
     rw [hfill] at full
     have full:(L.length+1)*5≥tp.1.mask*3:=of_decide_eq_true full
     rw [hmask] at full
     rcases T.mok with e|e
     ·have:=h4 e;rw [e] at full;omega
     ·rw [e] at full;omega
    rw [show es.size+1=5 by omega]
    refine W0 (M.relay (vs:=vs++[.ref ad]) (o:={ o with data:=.set (VR es tp.2 (M.hash k,Value.ref ad)) (ep+1) { tp.1 with plain:=pl } }) (Ti ho hd) hex rfl (T2.fits (by rw [hsz',hL'])) (by rw [hsz'];exact h5) hled' (λe he=>?_) ?_ λh' sb' hS=>?_)
    ·rw [hes'] at he
     obtain⟨q,q1,rfl⟩:=WD.mp he
     exact hel' q q1
    ·rw [hes',WJ];exact hp'
    ·exact W6 (no _ _ hnv (sb.trans sb') hS)
   ·rw [W1X] at full
    rw [full]
    simp only [W2o,WL,if_false]
    refine W6 (no _ _ hnv sb ⟨_,_,_,_,_,Ti ho hd,hex,rfl,T2,hes',hel',λz=>?_,hp',hled'⟩)
    rw [hL']
    unfold W1Y at full
    rw [hfill] at full
    have full:=of_decide_eq_false full
    have z:tp.1.mask=7:=z
    have:¬(L.length+1)*5≥tp.1.mask*3:=full
    rw [z] at this
    omega
  have e0:({ tp.1 with plain:=tp.1.plain }:SetTable)=tp.1:=rfl
  have f1:=fin tp.1.plain
  have f2:=fin false
  rw [e0] at f1
  cases hpp:tp.1.plain with
  |true=>
   rw [if_pos rfl]
   refine W0 (M.hbv ext hx λb=>?_)
   cases b with
   |true=>simp only [if_true];exact f1
   |false=>simp only [WL,if_false];exact f2
  |false=>
   rw [if_neg Wu]
   refine W0 (W6 ?_)
   simp only [if_true]
   exact f1
def nwV (key:Nat->K)(val:Nat->Value):Nat->List Value
 |0=>[]
 |i+1=>if key i∈(W7 i).map key then nwV key val i else nwV key val i++[val i]
theorem NG (M:HK prog w h0 U K){key:Nat->K}{val:Nat->Value}:∀(i:Nat),(∀j,j<i->M.is (key j) (val j))->∀k,(∃v∈nwV key val i,M.is k v)↔k∈(W7 i).map key
 |0,_,k=>by
  unfold nwV
  constructor
  ·rintro⟨v,h,_⟩;cases h
  ·intro h;cases h
 |i+1,h,k=>by
  have ih:=NG M i (λj hj=>h j (by omega)) k
  unfold nwV
  rw [List.range_succ,WU,Va,W1,Wc,V3,←ih]
  by_cases q:key i∈(W7 i).map key
  ·rw [if_pos q]
   constructor
   ·exact λz=>.inl z
   ·rintro (z|z)
    ·exact z
    ·rw [z];exact (NG M i (λj hj=>h j (by omega)) (key i)).mpr q
  ·rw [if_neg q]
   constructor
   ·rintro⟨v,v1,v2⟩
    rcases Va.mp v1 with z|z
    ·exact .inl ⟨v,z,v2⟩
    ·rw [V3.mp z] at v2
     exact .inr (M.inj v2 (h i (W0z _)))
   ·rintro (⟨v,v1,v2⟩|z)
    ·exact⟨v,W12 _ v1,v2⟩
    ·exact⟨val i,WW _ Ws,z ▸ h i (W0z _)⟩
theorem RJ {M:HK prog w h0 U K}{S:Addr}{vs:List Value}{h h':Heap}(hS:Hy M S h vs)(k:∀o,h.get? S=some o->h'.get? S=some o):Hy M S h' vs:=by
 obtain⟨o,es,ep,t,L,ho,QN⟩:=hS
 exact⟨o,es,ep,t,L,k o ho,QN⟩
theorem Ko (M:HK prog w h0 U K){S:Addr}{h:Heap}(e:h.get? S=some { cls:=.type "set",dict:=none,data:=.set #[] 0 (.fresh 0 0 (JS w)) }):Hy M S h []:=
 ⟨_,#[],0,_,[],e,⟨rfl,rfl,rfl⟩,rfl,⟨.inl rfl,rfl,rfl,.nil,λq hq=>(by cases hq),VH _,λq hq=>(by cases hq)⟩,rfl,λq hq=>(by cases hq),λ_=>VH _,.nil,rfl⟩
theorem A8 {K:Type}[DecidableEq K](key:Nat->K)(val:Nat->Value){i n:Nat}(h:i≤n):(nwV key val i).length≤(nwV key val n).length:=by
 induction h with
 |refl=>exact Wp _
 |step _ ih=>
  refine WY ih ?_
  conv=>rhs;unfold nwV
  split
  ·exact Wp _
  ·rw [WN];omega
theorem LX {l:Addr}{items:Array Value}{Q:Value->Shared->Prop}(M:HK prog w s.heap U K)(key:Nat->K)(val:Nat->Value)(hh:A.handled=none)(hU:A.units+20≤U)(hl:s.heap.IsList l items)
  (hv:∀i v,items[i]? = some v->v=val i/\M.is (key i) v) (hn:(nwV key val items.size).length≤18)
  (h:∀h' tk,Hy M s.heap.objs.size h' (nwV key val items.size)->(∀b o,b<s.heap.objs.size->s.heap.get? b=some o->h'.get? b=some o)->Q (.ref s.heap.objs.size) { s with heap:=h',toks:=tk }) :
  wpAny (model prog w) A (call (.type "set") [.ref l]) Q E s:=by
 have hk:∀j,j<items.size->M.is (key j) (val j):=λj hj=>by
  obtain⟨e,q⟩:=hv j items[j] (WA hj)
  rw [←e];exact q
 refine LY (J:=λi h=>i≤items.size->Fu s.heap h/\Hy M s.heap.objs.size h (nwV key val i)) hh hl (λi h h' hj k hi=>?_) (λh k e _=>⟨k,Ko M e⟩) (λB hB _=>?_) λh' tk hj k=>h h' tk (hj (Wp _)).2 k
 ·obtain⟨h1,h2⟩:=hj hi
  refine⟨λb o e=>k b o ?_ (h1 b o e),RJ h2 λo e=>k _ o ?_ e⟩
  ·simp only [Ww,WP,or_false]
   exact WK (W0Y (Wt e))
  ·simp only [Ww,WP,or_false]
   exact WK (W0z _)
 ·intro i v s1 E1 Q1 hp hj out
  have hi:i<items.size:=(Vn.mp hp).1
  obtain⟨ext,hS⟩:=hj (W2i hi)
  obtain⟨e,hx⟩:=hv i v hp
  unfold setAdd
  refine Vq (W0 (M.pyHash (by omega) ext hx λtk=>?_))
  have hmem:=NG M (key:=key) (val:=val) i (λj hj=>hk j (by omega)) (key i)
  refine M.adds (s:={ s1 with toks:=tk }) ext (by omega) hS (λhno=>by
   have h1:nwV key val (i+1)=nwV key val i++[val i]:=if_neg λz=>by
    obtain⟨v',v1,v2⟩:=hmem.mpr z
    exact hno v' v1 v2
   have h2:=A8 key val (show i+1≤items.size from hi)
   rw [h1,WN,W0C] at h2
   omega) hx (λb hy=>?_) λb h' hno sb hS'=>?_
  ·refine out b s1.heap tk (W08.refl _ _) λ_=>⟨ext,?_⟩
   have:nwV key val (i+1)=nwV key val i:=if_pos (hmem.mp hy)
   rw [this];exact hS
  ·refine out b h' tk sb λ_=>⟨λb o e=>(sb.2 b (WK (Wt e))).trans (ext b o e),?_⟩
   have:nwV key val (i+1)=nwV key val i++[val i]:=if_neg λz=>by
    obtain⟨v',v1,v2⟩:=hmem.mpr z
    exact hno v' v1 v2
   rw [this,←e];exact hS'
end
end L2
namespace L2
open PySem PySem.Spec PyProof.Rows
theorem B9 {M:Model}{A:Around}{E:Value->Shared->Prop}{s:Shared}{src:Source}{n:Nat}{Q:Nat->Shared->Prop}(hn:n≠0)(h:∀k d',k<n->Q k { s with drawn:=d' }):wpAny M A (choose src n) Q E s:=
 λ_ _ _=>⟨hn,h _ _ (W2v _ (Nat.pos_of_ne_zero hn))⟩
theorem Go {α:Type}{l:List α}{k:Nat}(hk:k<l.length):(l[k] :: l.eraseIdx k).Perm l:=by
 rw [List.eraseIdx_eq_take_drop_succ]
 refine List.perm_middle.symm.trans ?_
 rw [List.getElem_cons_drop hk,W1U]
theorem Ui {M:Model}{A:Around}{E:Value->Shared->Prop}{α:Type}:∀(n:Nat) (xs:List α) {s:Shared} {Q:List α->Shared->Prop},n=xs.length->(∀ys d',ys.Perm xs->Q ys { s with drawn:=d' })->wpAny M A (drawOrder n xs) Q E s
 |0,xs,s,Q,hn,h=>by
  have:xs=[]:=W0o.mp hn.symm
  subst this
  unfold drawOrder
  exact W6 (h [] s.drawn .nil)
 |n+1,[],s,Q,hn,h=>by cases hn
 |n+1,x :: xs,s,Q,hn,h=>by
  unfold drawOrder
  refine W0 (B9 (by rw [←hn];omega) λk d' hk=>?_)
  have hg:(x :: xs)[k]? = some (x :: xs)[k]:=Wm hk
  rw [hg]
  dsimp only
  refine W0 (Ui n ((x :: xs).eraseIdx k) (by rw [W2h hk];omega) λys d'' p=>?_)
  refine W6 (h _ _ ?_)
  refine (List.Perm.cons _ p).trans ?_
  exact Go hk
theorem P9 {α:Type}(next:Nat->Nat):∀(fuel k:Nat) (left:List α) (out:Array α),fuel=left.length->(pickOrder.go next fuel k left out).toList.Perm (out.toList++left)
 |0,k,left,out,h=>by
  have:left=[]:=W0o.mp h.symm
  subst this
  unfold pickOrder.go
  rw [W02]
 |fuel+1,k,left,out,h=>by
  unfold pickOrder.go
  have hk:next k%left.length<left.length:=W2v _ (by omega)
  have hg:left[next k%left.length]? = some left[next k%left.length]:=Wm hk
  rw [hg]
  dsimp only
  refine (P9 next fuel (k+1) (left.eraseIdx (next k%left.length)) _ (by rw [W2h hk];omega)).trans ?_
  rw [Array.toList_push,WS]
  exact List.Perm.append_left _ (Go hk)
theorem P8 {α:Type}(next:Nat->Nat)(xs:Array α):(pickOrder next xs).toList.Perm xs.toList:=by
 have:=P9 next xs.size 0 xs.toList #[] (WE).symm
 show (pickOrder.go next xs.size 0 xs.toList #[]).toList.Perm xs.toList
 simpa using this
theorem G6:entryFor table "set.__iter__" = some Builtin.«frozenset.__iter__»:=
 entryFor_alias (id':="frozenset.__iter__") (by kernel_rfl) rfl (by decide +kernel) (by kernel_rfl)
theorem Y7:Slot "set_iterator" "__next__" "set_iterator.__next__":=
 Slot.of (owner:="set_iterator") (n:="__next__") (by rw [typeLookup_type,W1S];kernel_rfl) (by decide +kernel) (by decide +kernel) (by decide +kernel) (by first|exact .inl (by decide +kernel)|exact .inr (by decide +kernel)) (by rw [isSubtype_type];kernel_rfl)
theorem Jd:Slot "set_iterator" "__iter__" "set_iterator.__iter__":=
 Slot.of (owner:="set_iterator") (n:="__iter__") (by rw [typeLookup_type,W1S];kernel_rfl) (by decide +kernel) (by decide +kernel) (by decide +kernel) (by first|exact .inl (by decide +kernel)|exact .inr (by decide +kernel)) (by rw [isSubtype_type];kernel_rfl)
theorem J8:entryFor table "set_iterator.__next__" = some Builtin.«set_iterator.__next__»:=entryFor_of_tree (by kernel_rfl)
theorem Jt (a:Value):argsOk "set_iterator.__next__" ⟨[a],[]⟩:=by unfold argsOk;kernel_rfl
inductive SetGo (w:World) (S:Addr) (es:Array (Int×Value)) (ep:Nat) (t:SetTable) (h:Heap):List Value->Nat->Value->Prop
 |text (i:Nat):w.params.followText "set-order" = true->SetGo w S es ep t h ((pickOrder (w.params.setOrder S ep) es).toList.map (·.2)) i (rawInt 0)
 |drawn (i:Nat) (a:Addr) (ps:List Nat):w.params.followText "set-order" = false->ps.Perm (W7 es.size)->h.IsTuple a ((ps.map λ(k:Nat)=>rawInt k).toArray)->SetGo w S es ep t h (ps.map λk=>((es[k]?).map (·.2)).getD .none) i (.ref a)
 |places (i slot:Nat):w.params.followText "set-order" = false->(!t.plain&&decide (es.size>1))=false->Vi t.place slot=i->SetGo w S es ep t h (es.toList.map (·.2)) i (rawInt slot)
section
variable {prog:Program} {w:World} {A:Around} {E:Value->Shared->Prop} {s:Shared}
theorem At {S:Addr}{o:Obj}{es:Array (Int×Value)}{ep:Nat}{t:SetTable}{Q:Value->Shared->Prop}(ho:s.heap.get? S=some o)(hx:o.ExactSet)(hd:o.data = .set es ep t)(hf:t.fits es.size=true)(hz:es.size≤Wk)(hp:Vi t.place 0=0)
  (h:∀ord f h1 d',(∀b ob,s.heap.get? b=some ob->h1.get? b=some ob)->SetGo w S es ep t h1 ord 0 f->Q (.ref h1.objs.size) { s with heap:=h1.push { cls:=.type "set_iterator",data:=.fields #[f,rawInt 0,.ref S,rawInt es.size,rawInt ep] },drawn:=d' }) :
  wpAny (model prog w) A (pyIter (.ref S)) Q E s:=by
 have hT:s.TypeIs (.ref S) "set":=⟨o,ho,hx.1⟩
 refine W2u hT F.slot_set_iter (Vj F.slot_set_iter hT G6 ?_ (F.args_set_iter_1 _))
 unfold Builtin.«frozenset.__iter__» Builtin.Frozenset.slot0 slotArgs
 simp only [List.isEmpty_nil,W07,WL,↓reduceIte,bind_assoc,W1u,bne_self_eq_false]
 unfold Builtin.Frozenset.addrOf Builtin.Frozenset.sizeOf
 refine W0 (W6 ?_)
 dsimp only
 refine W0 (W6 ?_)
 refine W0 (W0 (W2a ho hd hf (W6 ?_)))
 have fin:∀(f:Value) (h1:Heap) (d':Drawn) (ord:List Value),(∀b ob,s.heap.get? b=some ob->h1.get? b=some ob)->SetGo w S es ep t h1 ord 0 f->
   wpAny (model prog w) A.in1 (do
    let e ←setEpoch S
    let v ←newFields "set_iterator" [f,rawInt 0,Value.ref S,rawInt (es.size:Nat),rawInt (e:Nat)]
    ret v) (λfin s'=>∃v,fin=Fin.done (Flow.ret v)/\∃T' r,s'.TypeIs v T'/\typeLookup (Value.type T') (Wr "__next__")=pure (some r)/\Q v s') E { s with heap:=h1,drawn:=d' }:=λf h1 d' ord k g=>by
  refine W0 (wpAny_setEpoch_of (s:={ s with heap:=h1,drawn:=d' }) (k _ _ ho) hd hf ?_)
  refine W0 (V8 ?_)
  exact W6 ⟨_,rfl, "set_iterator",_,⟨_,Wv _ rfl,rfl⟩,Y7.lookup,h ord f h1 d' k g⟩
 unfold setDrawn
 refine W0 (W0 (Vp ho hd hf ?_))
 unfold setsByText
 refine W0 (W0 (VZ (W6 ?_)))
 refine W6 ?_
 show wpAny _ _ (if (!w.params.followText "set-order" && (!t.plain&&decide (es.size>1)))=true then _ else _) _ _ s
 cases bt:w.params.followText "set-order" with
 |true=>
  rw [if_neg (by simp)]
  exact W0 (W6 (fin (rawInt 0) s.heap s.drawn _ (λ_ _ e=>e) (.text 0 bt)))
 |false=>
  cases dr:(!t.plain&&decide (es.size>1)) with
  |true=>
   rw [if_pos (by simp)]
   refine W0 (Ui _ _ (by simp) λys d' p=>?_)
   have hl:ys.length≤Wk:=by rw [p.length_eq,Vc];exact hz
   refine W0 (m:=newTuple _) (V8 ?_ (by show (W0g _).size≤_;rw [Wn,We];exact hl))
   exact fin (.ref s.heap.objs.size) _ d' _ (λ_ _ e=>Wj _ e) (.drawn 0 _ ys bt p ⟨_,Wv _ rfl,rfl,_,rfl⟩)
  |false=>
   rw [if_neg (by simp)]
   exact W0 (W6 (fin (rawInt 0) s.heap s.drawn _ (λ_ _ e=>e) (.places 0 0 bt dr hp)))
theorem R6 {xs:Array Nat}(hs:AV xs){i j:Nat}(h:xs[i]? = some j):Vi xs (j+1)=i+1:=by
 obtain⟨h1,h2,h3⟩:=JF hs (j+1)
 have a:i<Vi xs (j+1):=by
  refine Nat.lt_of_not_le λz=>?_
  have:=h2 i j z h
  omega
 refine Nat.le_antisymm (W0N λz=>?_) a
 have hb:i+1<xs.size:=by omega
 obtain⟨x,hx⟩:∃x,xs[i+1]? = some x:=⟨_,WA hb⟩
 have b1:=h1 (i+1) x z hx
 have b2:=hs i (i+1) j x (by omega) h hx
 omega
theorem KZ {xs:Array Nat}(hs:AV xs):Vi xs 0=0:=by
 obtain⟨h1,_,h3⟩:=JF hs 0
 refine Nat.eq_zero_of_not_pos λz=>?_
 have hb:0<xs.size:=by omega
 have:=h1 0 _ z (WA hb)
 omega
theorem SetGo.keep {w:World}{S I:Addr}{es:Array (Int×Value)}{ep:Nat}{t:SetTable}{h h':Heap}{ord:List Value}{i:Nat}{f:Value}{ob:Obj}(hI:h.get? I=some ob)(hc:ob.cls≠.type "tuple")(sb:∀b o,b≠I->h.get? b=some o->h'.get? b=some o)(g:SetGo w S es ep t h ord i f):SetGo w S es ep t h' ord i f:=by
 cases g with
 |text _ bt=>exact .text i bt
 |drawn _ a ps bt p ht=>
  obtain⟨o,o1,o2,o3⟩:=ht
  have:a≠I:=λz=>by
   rw [z,hI] at o1
   cases o1
   exact hc o2
  exact .drawn i a ps bt p ⟨o,sb a o this o1,o2,o3⟩
 |places _ slot bt dr b=>exact .places i slot bt dr b
def Z2w (w:World)(S I:Addr)(es:Array (Int×Value))(ep:Nat)(t:SetTable)(ord:List Value)(i:Nat)(h:Heap):Prop:=
 ∃f,h.get? I=some { cls:=.type "set_iterator",data:=.fields #[f,rawInt i,.ref S,rawInt es.size,rawInt ep] }/\SetGo w S es ep t h ord i f
theorem NE {S:Addr}{es:Array (Int×Value)}{ep:Nat}{t:SetTable}{h:Heap}{ord:List Value}{i:Nat}{f:Value}(g:SetGo w S es ep t h ord i f):ord.Perm (es.toList.map (·.2)):=by
 cases g with
 |text _ bt=>exact (P8 _ es).map _
 |drawn _ a ps bt p ht=>
  have h1:=p.map λk=>((es[k]?).map (·.2)).getD Value.none
  refine h1.trans ?_
  have:(W7 es.size).map (λk=>((es[k]?).map (·.2)).getD Value.none)=es.toList.map (·.2):=by
   refine W2x λi=>?_
   by_cases q:i<es.size
   ·simp [q]
   ·simp [q]
  rw [this]
 |places _ slot bt dr b=>exact .refl _
theorem Po {S I:Addr}{o:Obj}{es:Array (Int×Value)}{ep:Nat}{t:SetTable}{ord:List Value}{i:Nat}{f:Value}{Q:Option Value->Shared->Prop}(ho:s.heap.get? S=some o)(hd:o.data = .set es ep t)(hf:t.fits es.size=true)(hr:AV t.place)(hled:t.led=JS w)(hpl:t.place.size=es.size)
  (hI:s.heap.get? I=some { cls:=.type "set_iterator",data:=.fields #[f,rawInt i,.ref S,rawInt es.size,rawInt ep] }) (g:SetGo w S es ep t s.heap ord i f) (hi:i<es.size)
  (h:∀v h' f',ord[i]? = some v->h'.get? I=some { cls:=.type "set_iterator",data:=.fields #[f',rawInt ((i+1:Nat):Int),.ref S,rawInt es.size,rawInt ep] }->SetGo w S es ep t h' ord (i+1) f'->(∀a,f' = .ref a->f = .ref a)->W08 I s.heap h'->Q (some v) { s with heap:=h' }) :
  wpAny (model prog w) A (pyNext (.ref I)) Q E s:=by
 have hT:s.TypeIs (.ref I) "set_iterator":=⟨_,hI,rfl⟩
 have hol:ord.length=es.size:=by
  have:=(NE g).length_eq
  rw [We] at this
  exact this.trans WE
 obtain⟨v,hv⟩:∃v,ord[i]? = some v:=⟨_,Wm (by omega)⟩
 unfold pyNext
 refine W0 (W1z (V9 (name:=Wr "__next__") hT Y7 (Vj Y7 hT J8 ?_ (Jt _))))
 unfold Builtin.«set_iterator.__next__» slotArgs
 simp only [List.isEmpty_nil,W07,WL,↓reduceIte,bind_assoc,W1u,bne_self_eq_false]
 refine W0 (W6 ?_)
 refine W0 (W19 hI rfl ?_)
 dsimp only
 refine W0 (W2a ho hd hf ?_)
 have hne:¬(((es.size:Nat):Int) != ((es.size:Nat):Int))=true:=by simp
 rw [if_neg hne]
 have clsne:(Value.type "set_iterator")≠.type "tuple":=by decide
 cases g with
 |text _ bt=>
  dsimp only [rawInt]
  unfold setNext
  refine W0 (W0 (Vp ho hd hf ?_))
  dsimp only
  unfold setsByText
  refine W0 (W0 (VZ (W6 ?_)))
  show wpAny _ _ (if w.params.followText "set-order" = true then _ else _) _ _ s
  rw [if_pos bt,if_neg (by simp)]
  unfold setWalk
  refine W0 (W0 (Vp ho hd hf ?_))
  dsimp only
  unfold setsByText
  refine W0 (W0 (VZ (W6 ?_)))
  show wpAny _ _ (if w.params.followText "set-order" = true then _ else _) _ _ s
  rw [if_pos bt]
  refine W0 (VZ (W6 (W6 ?_)))
  obtain⟨e,he,rfl⟩:∃e,(pickOrder (w.params.setOrder S ep) es)[i]? = some e/\e.2=v:=by
   rw [WG,Vb] at hv
   exact Wi.mp hv
  have he':(pickOrder ((model prog w).w.params.setOrder S ep) es)[((i:Nat):Int).toNat]? = some e:=by rw [Vx];exact he
  dsimp only
  rw [he']
  dsimp only [W3]
  refine W0 (V7 hI (by simp) λh1 g1 s1=>?_)
  refine W0 (V7 g1 (by simp) λh2 g2 s2=>?_)
  exact W6 ⟨_,rfl,W6 (h _ h2 _ hv g2 (.text (i+1) bt) (λa z=>by cases z) (s1.trans s2))⟩
 |drawn _ a ps bt p ht=>
  dsimp only
  obtain⟨oa,oa1,oa2,m,oa3⟩:=id ht
  refine W0 (Vm oa1 oa3 ?_)
  dsimp only
  obtain⟨k,hk⟩:∃k,ps[i]? = some k:=⟨_,Wm (by rw [p.length_eq,Vc];exact hi)⟩
  have hk2:((ps.map λ(k:Nat)=>rawInt k).toArray)[((i:Nat):Int).toNat]? = some (rawInt k):=by
   rw [Vx,W1R,WG,hk];rfl
  rw [hk2]
  dsimp only [rawInt]
  have hkz:k<es.size:=Vh.mp (p.mem_iff.mp (V4 hk))
  unfold setNextDrawn
  refine W0 (W0 (Vp ho hd hf ?_))
  dsimp only
  rw [if_neg (by simp)]
  have he:es[((k:Nat):Int).toNat]? = some es[k]:=by rw [Vx];exact WA hkz
  rw [he]
  dsimp only
  refine W6 ?_
  have hv':v=es[k].2:=by
   rw [WG,hk,W3,WA hkz] at hv
   exact (WT hv).symm
  refine W0 (V7 hI (by simp) λh1 g1 s1=>?_)
  refine W6 ⟨_,rfl,W6 ?_⟩
  rw [←hv']
  exact h v h1 _ hv g1 (SetGo.keep (I:=I) hI clsne (λb o hb e=>(s1.2 b hb).trans e) (.drawn (i+1) a ps bt p ht)) (λ_ z=>z) s1
 |places _ slot bt dr b=>
  dsimp only [rawInt]
  unfold setNext
  refine W0 (W0 (Vp ho hd hf ?_))
  dsimp only
  unfold setsByText
  refine W0 (W0 (VZ (W6 ?_)))
  show wpAny _ _ (if w.params.followText "set-order" = true then _ else _) _ _ s
  rw [if_neg (by rw [bt];exact Wu)]
  show wpAny _ _ (if (!t.plain&&decide (es.size>1))=true then _ else _) _ _ s
  rw [if_neg (by rw [dr];exact Wu)]
  have hl1:(!t.led && !es.isEmpty)=false:=by
   have:t.led=true:=by rw [hled];unfold JS;rw [bt];rfl
   rw [this];rfl
  refine W0 (W1h (a:=()) ?_ (W6 ?_))
  ·show (if (!t.led && !es.isEmpty)=true then _ else _)=_
   rw [if_neg (by rw [hl1];exact Wu)]
  ·have hj:t.place[i]? = some t.place[i]:=WA (by omega)
   have he:es[i]? = some es[i]:=WA hi
   have hv':v=es[i].2:=by
    rw [WG,Vb,he] at hv
    exact (WT hv).symm
   rw [Vx,b,he,hj]
   dsimp only
   refine W0 (V7 hI (by simp) λh1 g1 s1=>?_)
   refine W0 (V7 g1 (by simp) λh2 g2 s2=>?_)
   refine W6 ⟨_,rfl,W6 ?_⟩
   rw [←hv']
   exact h v h2 _ hv g2 (.places (i+1) (t.place[i]+1) bt dr (R6 hr hj)) (λa z=>by cases z) (s1.trans s2)
theorem Uq {A:Around}{Q:Option Value->Shared->Prop}{s0:Shared}{I:Addr}(hh:A.handled=none)(k:∀b o,b≠I->s0.heap.get? b=some o->s.heap.get? b=some o)(hg:s={ s0 with heap:=s.heap })(h:∀h',(∀b o,b≠I->s0.heap.get? b=some o->h'.get? b=some o)->Q none { s0 with heap:=h' }){P:Fin->Shared->Prop} :
  wpAny (model prog w) A.in1 (newExc (.type "StopIteration") [] >>= λe=>raiseNew e) P (λe s'=>wpAny (model prog w) A (do
   let b ←isInstance e (Value.type "StopIteration")
   if b=true then pure none else throw e) Q E s') s:=by
 refine W0 ?_
 simp only [newExc,newTuple]
 refine W0 (V8 ?_ (by size_fits))
 refine W0 (m:=firstArgMember _ _) (W1h (a:=Value.none) (by first|rfl|(simp only [firstArgMember];rfl)) (V8 ?_ (by size_fits)))
 simp only [raiseNew]
 refine W0 (wpAny_handled ?_)
 rw [show A.in1.handled=none from hh]
 refine W0 (W6 (wpAny_throw ?_))
 refine W0 (W1e (T:="StopIteration") (b:=true) ⟨_,Wv _ rfl,rfl⟩ isSubtype_stop ?_)
 refine W6 ?_
 rw [hg]
 exact h _ λb o hb e=>Wj _ (Wj _ (k b o hb e))
theorem Pp {S I:Addr}{o:Obj}{es:Array (Int×Value)}{ep:Nat}{t:SetTable}{ord:List Value}{Q:Option Value->Shared->Prop}(hh:A.handled=none)(ho:s.heap.get? S=some o)(hd:o.data = .set es ep t)(hf:t.fits es.size=true)(hled:t.led=JS w)
  (hit:Z2w w S I es ep t ord es.size s.heap) (h:∀h',(∀b o,b≠I->s.heap.get? b=some o->h'.get? b=some o)->Q none { s with heap:=h' }) :
  wpAny (model prog w) A (pyNext (.ref I)) Q E s:=by
 obtain⟨f,hI,g⟩:=hit
 have hT:s.TypeIs (.ref I) "set_iterator":=⟨_,hI,rfl⟩
 have hol:ord.length=es.size:=by
  have:=(NE g).length_eq
  rw [We] at this
  exact this.trans WE
 unfold pyNext
 refine W0 (W1z (V9 (name:=Wr "__next__") hT Y7 (Vj Y7 hT J8 ?_ (Jt _))))
 unfold Builtin.«set_iterator.__next__» slotArgs
 simp only [List.isEmpty_nil,W07,WL,↓reduceIte,bind_assoc,W1u,bne_self_eq_false]
 refine W0 (W6 ?_)
 refine W0 (W19 hI rfl ?_)
 dsimp only
 refine W0 (W2a ho hd hf ?_)
 have hne:¬(((es.size:Nat):Int) != ((es.size:Nat):Int))=true:=by simp
 rw [if_neg hne]
 cases g with
 |text _ bt=>
  dsimp only [rawInt]
  unfold setNext
  refine W0 (W0 (Vp ho hd hf ?_))
  dsimp only
  unfold setsByText
  refine W0 (W0 (VZ (W6 ?_)))
  show wpAny _ _ (if w.params.followText "set-order" = true then _ else _) _ _ s
  rw [if_pos bt,if_neg (by simp)]
  unfold setWalk
  refine W0 (W0 (Vp ho hd hf ?_))
  dsimp only
  unfold setsByText
  refine W0 (W0 (VZ (W6 ?_)))
  show wpAny _ _ (if w.params.followText "set-order" = true then _ else _) _ _ s
  rw [if_pos bt]
  refine W0 (VZ (W6 (W6 ?_)))
  have he':(pickOrder ((model prog w).w.params.setOrder S ep) es)[((es.size:Nat):Int).toNat]? = none:=by
   rw [Vx]
   refine W0x ?_
   rw [We,WE] at hol
   exact Nat.le_of_eq hol
  dsimp only
  rw [he']
  dsimp only [Option.map_none]
  refine W0 (V7 hI (by simp) λh1 g1 s1=>?_)
  exact Uq (I:=I) hh (λb o hb e=>(s1.2 b hb).trans e) rfl h
 |drawn _ a ps bt p ht=>
  dsimp only
  obtain⟨oa,oa1,oa2,m,oa3⟩:=id ht
  refine W0 (Vm oa1 oa3 ?_)
  dsimp only
  have hk2:((ps.map λ(k:Nat)=>rawInt k).toArray)[((es.size:Nat):Int).toNat]? = none:=by
   rw [Vx]
   refine W0x ?_
   rw [Wn,We,p.length_eq,Vc]
   exact Wp _
  rw [hk2]
  dsimp only
  refine W0 (V7 hI (by simp) λh1 g1 s1=>?_)
  refine W0 (V7 g1 (by simp) λh2 g2 s2=>?_)
  exact Uq (I:=I) hh (λb o hb e=>(s2.2 b hb).trans ((s1.2 b hb).trans e)) rfl h
 |places _ slot bt dr b=>
  dsimp only [rawInt]
  unfold setNext
  refine W0 (W0 (Vp ho hd hf ?_))
  dsimp only
  unfold setsByText
  refine W0 (W0 (VZ (W6 ?_)))
  show wpAny _ _ (if w.params.followText "set-order" = true then _ else _) _ _ s
  rw [if_neg (by rw [bt];exact Wu)]
  show wpAny _ _ (if (!t.plain&&decide (es.size>1))=true then _ else _) _ _ s
  rw [if_neg (by rw [dr];exact Wu)]
  have hl1:(!t.led && !es.isEmpty)=false:=by
   have:t.led=true:=by rw [hled];unfold JS;rw [bt];rfl
   rw [this];rfl
  refine W0 (W1h (a:=()) ?_ (W6 ?_))
  ·show (if (!t.led && !es.isEmpty)=true then _ else _)=_
   rw [if_neg (by rw [hl1];exact Wu)]
  ·have he:es[es.size]? = none:=W0x (Wp _)
   rw [Vx,b,he]
   dsimp only
   refine W0 (V7 hI (by simp) λh1 g1 s1=>?_)
   exact Uq (I:=I) hh (λb o hb e=>(s1.2 b hb).trans e) rfl h
end
end L2
namespace L2
open PySem PySem.Spec PyProof.Rows
theorem T8:entryFor table "set_iterator.__iter__" = some Builtin.«dict_keyiterator.__iter__»:=
 entryFor_alias (id':="dict_keyiterator.__iter__") (by kernel_rfl) rfl (by decide +kernel) (by kernel_rfl)
theorem TX (a:Value):argsOk "set_iterator.__iter__" ⟨[a],[]⟩:=by unfold argsOk;kernel_rfl
def Z2r:Value->List Addr
 | .ref a=>[a]
 |_=>[]
theorem SetGo.frame {w:World}{S:Addr}{es:Array (Int×Value)}{ep:Nat}{t:SetTable}{h h':Heap}{ord:List Value}{i:Nat}{f:Value}(k:∀a ob,h.get? a=some ob->ob.cls = .type "tuple"->h'.get? a=some ob)(g:SetGo w S es ep t h ord i f):SetGo w S es ep t h' ord i f:=by
 cases g with
 |text _ bt=>exact .text i bt
 |drawn _ a ps bt p ht=>
  obtain⟨o,o1,o2,o3⟩:=ht
  exact .drawn i a ps bt p ⟨o,k a o o1 o2,o2,o3⟩
 |places _ slot bt dr b=>exact .places i slot bt dr b
section
variable {prog:Program} {w:World} {A:Around}
theorem Rq {S I:Addr}{o:Obj}{es:Array (Int×Value)}{ep:Nat}{t:SetTable}{ord:List Value}{xs:List Addr}(hh:A.handled=none)(hd:o.data = .set es ep t)(hf:t.fits es.size=true)(hr:AV t.place)(hled:t.led=JS w)(hpl:t.place.size=es.size)(hSI:S≠I) :
  Walks prog w A I ([I,S]++xs) [I] es.size (λi v=>ord[i]? = some v) (λi h=>∃f,h.get? I=some { cls:=.type "set_iterator",data:=.fields #[f,rawInt i,.ref S,rawInt es.size,rawInt ep] }/\SetGo w S es ep t h ord i f/\(∀a,f = .ref a->a∈xs)/\h.get? S=some o) where
 sub:=λb hb=>by
  rw [V3.mp hb]
  simp
 frame:=λi h h' st k=>by
  obtain⟨f,f1,f2,f3,f4⟩:=st
  refine⟨f,k I (by simp) _ f1,?_,f3,k S (by simp) _ f4⟩
  cases f2 with
  |text _ bt=>exact .text i bt
  |drawn _ a ps bt p ht=>
   obtain⟨o,o1,o2,o3⟩:=ht
   exact .drawn i a ps bt p ⟨o,k a (by simp [f3 a rfl]) o o1,o2,o3⟩
  |places _ slot bt dr b=>exact .places i slot bt dr b
 item:=λi s Q E hi st out=>by
  obtain⟨f,f1,f2,f3,f4⟩:=st
  refine Po f4 hd hf hr hled hpl f1 f2 hi λv h' f' hv g1 g2 same sb=>?_
  exact out v h' s.toks hv ⟨f',g1,g2,λa ha=>f3 a (same a ha),(sb.2 S hSI).trans f4⟩ λb ob hb e=>(sb.2 b (λz=>hb (by simp [z]))).trans e
 done:=λs Q E st out=>by
  obtain⟨f,f1,f2,f3,f4⟩:=st
  exact Pp hh f4 hd hf hled ⟨f,f1,f2⟩ λh' k=>out h' s.toks λb ob hb e=>k b ob (λz=>hb (by simp [z])) e
 self:=λi s Q E st out=>by
  obtain⟨f,f1,f2,f3,f4⟩:=st
  have hT:s.TypeIs (.ref I) "set_iterator":=⟨_,f1,rfl⟩
  refine W2u hT Jd (Vj Jd hT T8 ?_ (TX _))
  show wpAny _ _ (ret (.ref I)) _ _ s
  exact W6 ⟨_,rfl, "set_iterator",_,hT,Y7.lookup,out⟩
theorem Ay {E:Value->Shared->Prop}{s:Shared}{S:Addr}{Q:Bool->Shared->Prop}(hT:s.TypeIs (.ref S) "set")(q:Q false s):wpAny (model prog w) A (W2b (.ref S)) Q E s:=by
 unfold W2b
 refine W0 (W0v hT PySem.F.slot_set_len.lookup ?_)
 generalize e0:("set.__len__" : String)=id0
 wp_delta
 rw [show splitId id0=some ("set", "__len__") from by subst e0;decide +kernel]
 subst e0
 refine W0 (W1e (T:="set") (b:=true) hT (by rw [isSubtype_type];kernel_rfl) ?_)
 refine wpAny_ite_split (λz=>absurd z (by decide)) (λ_=>wpAny_ite_split (λ_=>?_) (λz=>absurd (by decide +kernel) z))
 exact W0 (W0T hT (W6 q))
theorem M9 {E:Value->Shared->Prop}{s:Shared}{S:Addr}{o:Obj}{es:Array (Int×Value)}{ep:Nat}{t:SetTable}{R:List Value->Shared->Prop}(hh:A.handled=none)(ho:s.heap.get? S=some o)(hx:o.ExactSet)(hd:o.data = .set es ep t)(hf:t.fits es.size=true)(hr:AV t.place)(hled:t.led=JS w)(hpl:t.place.size=es.size)(hz:es.size≤Wk)
  (h:∀(acc:List Value) h' tk d',acc.Perm (es.toList.map (·.2))->(∀b ob,s.heap.get? b=some ob->h'.get? b=some ob)->R acc { s with heap:=h',toks:=tk,drawn:=d' }):wpAny (model prog w) A (collect (.ref S)) R E s:=by
 unfold collect
 refine W0 (wpAny_runValue (VM PySem.F.entry_proto_collect ?_))
 rw [Vl PySem.F.plain_proto_collect _]
 refine W0 (m:=newList []) (V8 ?_)
 refine W6 ⟨W0e PySem.F.plain_list_iadd _,VM PySem.F.entry_list_iadd ?_⟩
 rw [Vl PySem.F.plain_list_iadd _]
 generalize hH1:s.heap.push { cls:=.type "list",data:=.seq ([]:List Value).toArray }=H1
 have hS1:H1.get? s.heap.objs.size=some { cls:=.type "list",data:=.seq #[] }:=by rw [←hH1];exact Wv _ rfl
 have k1:∀b ob,s.heap.get? b=some ob->H1.get? b=some ob:=λb ob e=>by rw [←hH1];exact Wj _ e
 have hSl:S≠s.heap.objs.size:=WK (Wt ho)
 show wpAny _ A.in1 (W2c (.ref s.heap.objs.size) (.ref S) (.ref s.heap.objs.size)) _ _ _
 unfold W2c
 have hT:Shared.TypeIs { s with heap:=H1 } (.ref S) "set":=⟨o,k1 _ _ ho,hx.1⟩
 refine W0 (W0T hT ?_)
 have h1:W2y (.ref s.heap.objs.size) (.ref S)=false:=by simp [W2y,hSl.symm]
 rw [if_neg (by rw [h1];decide)]
 refine W0 (At (s:={ s with heap:=H1 }) (k1 _ _ ho) hx hd hf hz (KZ hr) λord f h1 d' kp go=>?_)
 generalize hH2:h1.push { cls:=.type "set_iterator",data:=.fields #[f,rawInt 0,Value.ref S,rawInt (es.size:Nat),rawInt (ep:Nat)] }=H2
 have hI2:H2.get? h1.objs.size=some { cls:=.type "set_iterator",data:=.fields #[f,rawInt ((0:Nat):Int),Value.ref S,rawInt (es.size:Nat),rawInt (ep:Nat)] }:=by rw [←hH2];exact Wv _ rfl
 have k2:∀b ob,H1.get? b=some ob->H2.get? b=some ob:=λb ob e=>by rw [←hH2];exact Wj _ (kp b ob e)
 have go2:SetGo w S es ep t H2 ord 0 f:=by
  cases go with
  |text _ bt=>exact .text 0 bt
  |drawn _ a ps bt p ht=>
   obtain⟨oa,a1,a2,a3⟩:=ht
   exact .drawn 0 a ps bt p ⟨oa,by rw [←hH2];exact Wj _ a1,a2,a3⟩
  |places _ slot bt dr b=>exact .places 0 slot bt dr b
 have hord:=NE go
 have hSI:S≠h1.objs.size:=WK (Wt (kp _ _ (k1 _ _ ho)))
 have hlI:s.heap.objs.size≠h1.objs.size:=WK (Wt (kp _ _ hS1))
 have haux:∀a,f = .ref a->a∈Z2r f:=λa z=>by rw [z];exact Ws
 have hlx:s.heap.objs.size∉[h1.objs.size,S]++Z2r f:=by
  simp only [List.cons_append,List.nil_append,Ww,not_or]
  refine⟨hlI,hSl.symm,λz=>?_⟩
  cases go with
  |text _ bt=>cases z
  |drawn _ a ps bt p ht=>
   obtain⟨oa,a1,a2,a3⟩:=ht
   have e:s.heap.objs.size=a:=V3.mp z
   have:=kp _ _ hS1
   rw [e,a1] at this
   cases this
   exact absurd a2 (by decide)
  |places _ slot bt dr b=>cases z
 have W:=Rq (prog:=prog) (A:=A.in1) (o:=o) (ord:=ord) (xs:=Z2r f) (by simpa using hh) hd hf hr hled hpl hSI
 have key:∀(H3:Heap) (c:Nat) (tk:Nat),(∀b ob,b≠s.heap.objs.size->H2.get? b=some ob->H3.get? b=some ob)->H3.get? s.heap.objs.size=some { cls:=.type "list",data:=.seq #[] c }->
   codeAny (model prog w) A (.builtin "list.extend.loop" ⟨[.ref s.heap.objs.size,.ref h1.objs.size,.ref s.heap.objs.size],[]⟩) (λr s'=>match r with
    | .ok (.ret v)=>wpAny (model prog w) A (match v with
     | .ref a=>do
      let ob ←load a
      match ob.data with
       | .seq xs _=>pure xs.toList
       |_=>unsupported "internal:collect"
     |_=>unsupported "internal:collect") R E s'
    | .ok _=>False
    | .error e=>E e s') { s with heap:=H3,toks:=tk,drawn:=d' }:=λH3 c tk k3 hl3=>by
  refine codeAny_extend_loopS W.toS hz s.heap.objs.size hlx (.ref s.heap.objs.size) es.size 0 _ #[] c rfl (VH _) ⟨f,k3 _ _ hlI.symm hI2,SetGo.frame ?_ go2,haux,k3 _ _ hSl (k2 _ _ (k1 _ _ ho))⟩ hl3 (ItemsOf.nil _) λs' acc c' mv hl' hacc=>?_
  ·intro a oa a1 a2
   refine k3 a oa (λz=>?_) a1
   rw [z,k2 _ _ hS1] at a1
   cases a1
   exact absurd a2 (by decide)
  ·refine W0 (wpAny_load hl' (W6 ?_))
   rw [Moved.eq_with mv]
   refine h acc.toList s'.heap s'.toks d' ?_ λb ob e=>?_
   ·refine List.Perm.trans (List.Perm.of_eq ?_) hord
    have hol:ord.length=es.size:=by
     have:=hord.length_eq
     rw [We] at this
     exact this.trans WE
    refine W2x λi=>?_
    rw [Vb]
    by_cases q:i<acc.size
    ·have e:acc[i]? = some acc[i]:=WA q
     rw [e,hacc.2 i _ e]
    ·rw [W0x (by omega),W1V (by rw [hol,←hacc.1];omega)]
   ·refine mv.heap b ob (λz=>?_) (k3 b ob (WK (Wt e)) (k2 b ob (k1 b ob e)))
    rcases Ww.mp z with z|z
    ·exact absurd (Wt e) (by rw [z];exact VE _)
    ·exact absurd (Wt (kp _ _ (k1 b ob e))) (by rw [V3.mp z];exact VE _)
 refine W0 (Vq (Ay ⟨o,k2 _ _ (k1 _ _ ho),hx.1⟩ ?_))
 have hl2:=k2 _ _ hS1
 refine wpAny_ite_split (λ_=>?_) (λ_=>W6 ⟨W0e W2p _,key H2 _ _ (λ_ _ _ e=>e) hl2⟩)
 refine W0 (W1m (W0 ?_))
 show wpAny _ _ (updateSeq s.heap.objs.size (·.push .none) >>= λ_=>updateSeq s.heap.objs.size (·.pop)) _ _ _
 refine W0 (W1A hl2 rfl ?_)
 have hl3:=VL (Vo (·.push Value.none)) hl2 rfl
 refine W1A (hz:=by seq_fits) hl3 rfl ?_
 have hl4:=VL (Vo (·.pop)) hl3 rfl
 exact W6 ⟨W0e W2p _,key _ _ _ (λb ob hb e=>(Vv _ _ (Ne.symm hb)).trans ((Vv _ _ (Ne.symm hb)).trans e)) hl4⟩
end
end L2
namespace DL
open PySem PySem.Spec PyProof.Rows L2
inductive D where
 |non
 |bl (b:Bool)
 |int (i:Int)
 |str (x:Str)
 |tup (xs:List D)
 |ref (n:Nat)
 |scr (ns:List Int)
 deriving Inhabited
inductive Ob where
 |lst (xs:List D)
 |dct (kvs:List (D×D))
 |fdct (kvs:List (D×D))
 |ins (C:Str) (fs:List (Str×D))
 deriving Inhabited
abbrev Sto:=List Ob
abbrev En:=List (Option D)
abbrev M (α:Type):=En->Sto->Option (α×Sto)
inductive Fl where
 |nx|rt (d:D)|bk|ct
abbrev MS:=En->Sto->Option (Fl×En×Sto)
def AU (K:Wd)(H:Hp)(a:Addr)(ns:List Int):Prop:=
 (∃o,H a=some (.frz o (.lst (ns.map V.int))))\/
  ∃(o:Obj) (its:Array Value) (n:Nat),K.lookup a=some o/\o.cls = .type "list"/\o.dict=none/\o.data = .seq its n/\its.size≤Wk/\Y1 (ns.map V.int) its.toList
theorem AU.seq {K:Wd}{H:Hp}{a:Addr}{ns:List Int}(h:AU K H a ns):SqL K H a (ns.map V.int):=by
 rcases h with ⟨o,h⟩|h
 ·exact .inl (.inr ⟨o,h⟩)
 ·exact .inr h
mutual
def DR (K:Wd)(ρ:List Addr)(H:Hp):D->V->Prop
 | .non,v=>v = .non
 | .bl b,v=>v = .bl b
 | .int i,v=>v = .int i
 | .str x,v=>v = .str x
 | .tup ds,v=>∃a xs,v = .ref a/\H a=some (.tup xs)/\DsR K ρ H ds xs
 | .ref n,v=>∃a,ρ[n]? = some a/\v = .ref a
 | .scr ns,v=>∃a,v = .ref a/\AU K H a ns
def DsR (K:Wd)(ρ:List Addr)(H:Hp):List D->List V->Prop
 |[],xs=>xs=[]
 |d :: ds,xs=>∃x r,xs=x :: r/\DR K ρ H d x/\DsR K ρ H ds r
end
structure Ext (ρ:List Addr) (H:Hp) (ρ':List Addr) (H':Hp):Prop where
 pre:∀(n:Nat) a,ρ[n]? = some a->ρ'[n]? = some a
 tup:∀a xs,H a=some (.tup xs)->H' a=some (.tup xs)
 frz:∀a o u,H a=some (.frz o u)->H' a=some (.frz o u)
theorem Ext.refl {ρ:List Addr}{H:Hp}:Ext ρ H ρ H:=⟨λ_ _ h=>h,λ_ _ h=>h,λ_ _ _ h=>h⟩
theorem Ext.trans {ρ ρ1 ρ2:List Addr}{H H1 H2:Hp}(a:Ext ρ H ρ1 H1)(b:Ext ρ1 H1 ρ2 H2):Ext ρ H ρ2 H2:=
 ⟨λn x h=>b.pre n x (a.pre n x h),λx xs h=>b.tup x xs (a.tup x xs h),λx o u h=>b.frz x o u (a.frz x o u h)⟩
theorem Ext.new {ρ:List Addr}{H:Hp}{p:Addr}{o:HO}(hp:H p=none):Ext ρ H ρ (upd H p o):=
 ⟨λ_ _ h=>h,λa xs h=>by rw [Zl (Zy h hp)];exact h,λa u xs h=>by rw [Zl (Zy h hp)];exact h⟩
theorem Ext.newRef {ρ:List Addr}{H:Hp}{p:Addr}{o:HO}(hp:H p=none):Ext ρ H (ρ++[p]) (upd H p o):=
 ⟨λn a h=>by rw [V2 (Wo.mp h).1];exact h,(Ext.new (ρ:=ρ) hp).tup,(Ext.new (ρ:=ρ) hp).frz⟩
theorem Ext.upd {ρ:List Addr}{H:Hp}{p:Addr}{o o':HO}(hp:H p=some o)(h1:∀xs,o≠.tup xs)(h2:∀ob u,o≠.frz ob u):Ext ρ H ρ (L2.upd H p o'):=
 ⟨λ_ _ h=>h,λa xs h=>by rw [Zl (UZ h hp (Ne.symm (h1 xs)))];exact h,λa ob u h=>by rw [Zl (UZ h hp (Ne.symm (h2 ob u)))];exact h⟩
structure Ext0 (ρ:List Addr) (H:Hp) (ρ':List Addr) (H':Hp):Prop where
 pre:∀(n:Nat) a,ρ[n]? = some a->ρ'[n]? = some a
 tup:∀a xs,H a=some (.tup xs)->H' a=some (.tup xs)
 lst:∀a o xs,H a=some (.frz o (.lst xs))->H' a=some (.frz o (.lst xs))
theorem Ext.weak {ρ ρ':List Addr}{H H':Hp}(e:Ext ρ H ρ' H'):Ext0 ρ H ρ' H':=⟨e.pre,e.tup,λa o xs h=>e.frz a o _ h⟩
section
variable {K:Wd} {ρ ρ':List Addr} {H H':Hp}
theorem AU.mono {a:Addr}{ns:List Int}(e:Ext0 ρ H ρ' H')(h:AU K H a ns):AU K H' a ns:=by
 rcases h with ⟨o,h⟩|h
 ·exact .inl ⟨o,e.lst _ _ _ h⟩
 ·exact .inr h
mutual
theorem DR.mono (e:Ext0 ρ H ρ' H'):∀(d:D) (v:V),DR K ρ H d v->DR K ρ' H' d v
 | .non,v,h=>by unfold DR at h ⊢;exact h
 | .bl b,v,h=>by unfold DR at h ⊢;exact h
 | .int i,v,h=>by unfold DR at h ⊢;exact h
 | .str x,v,h=>by unfold DR at h ⊢;exact h
 | .tup ds,v,h=>by
  unfold DR at h ⊢
  obtain⟨a,xs,h1,h2,h3⟩:=h
  exact⟨a,xs,h1,e.tup a xs h2,DsR.mono e ds xs h3⟩
 | .ref n,v,h=>by
  unfold DR at h ⊢
  obtain⟨a,h1,h2⟩:=h
  exact⟨a,e.pre n a h1,h2⟩
 | .scr ns,v,h=>by
  unfold DR at h ⊢
  obtain⟨a,h1,h2⟩:=h
  exact⟨a,h1,h2.mono e⟩
theorem DsR.mono (e:Ext0 ρ H ρ' H'):∀(ds:List D) (xs:List V),DsR K ρ H ds xs->DsR K ρ' H' ds xs
 |[],xs,h=>by unfold DsR at h ⊢;exact h
 |d :: ds,xs,h=>by
  unfold DsR at h ⊢
  obtain⟨x,r,h1,h2,h3⟩:=h
  exact⟨x,r,h1,DR.mono e d x h2,DsR.mono e ds r h3⟩
end
theorem DR.up {d:D}{v:V}(h:DR K ρ H d v)(e:Ext ρ H ρ' H'):DR K ρ' H' d v:=DR.mono e.weak d v h
theorem DsR.up {ds:List D}{xs:List V}(h:DsR K ρ H ds xs)(e:Ext ρ H ρ' H'):DsR K ρ' H' ds xs:=DsR.mono e.weak ds xs h
theorem DsR.nil:DsR K ρ H [] []:=by unfold DsR;rfl
theorem DsR.cons {d:D}{ds:List D}{x:V}{xs:List V}(h:DR K ρ H d x)(t:DsR K ρ H ds xs):DsR K ρ H (d :: ds) (x :: xs):=by
 unfold DsR;exact⟨x,xs,rfl,h,t⟩
theorem DsR.length:∀{ds:List D} {xs:List V},DsR K ρ H ds xs->ds.length=xs.length
 |[],xs,h=>by unfold DsR at h;subst h;rfl
 |d :: ds,xs,h=>by
  unfold DsR at h
  obtain⟨x,r,h1,_,h3⟩:=h
  rw [h1,WX,WX,DsR.length h3]
theorem DsR.get:∀{ds:List D} {xs:List V} {i:Nat} {d:D},DsR K ρ H ds xs->ds[i]? = some d->∃x,xs[i]? = some x/\DR K ρ H d x
 |[],_,_,_,_,e=>by simp at e
 |c :: ds,xs,i,d,h,e=>by
  unfold DsR at h
  obtain⟨x,r,h1,h2,h3⟩:=h
  subst h1
  cases i with
  |zero=>simp at e;subst e;exact⟨x,rfl,h2⟩
  |succ i=>
   obtain⟨y,e1,e2⟩:=DsR.get (i:=i) h3 (by simpa using e)
   exact⟨y,by simpa using e1,e2⟩
theorem DsR.append:∀{ds es:List D} {xs ys:List V},DsR K ρ H ds xs->DsR K ρ H es ys->DsR K ρ H (ds++es) (xs++ys)
 |[],_,xs,_,h,t=>by unfold DsR at h;subst h;exact t
 |d :: ds,_,xs,_,h,t=>by
  unfold DsR at h
  obtain⟨x,r,h1,h2,h3⟩:=h
  subst h1
  exact .cons h2 (DsR.append h3 t)
theorem DsR.drop:∀{ds:List D} {xs:List V} (n:Nat),DsR K ρ H ds xs->DsR K ρ H (ds.drop n) (xs.drop n)
 |[],xs,n,h=>by
  have e:xs=[]:=by unfold DsR at h;exact h
  subst e;simpa using h
 |d :: ds,xs,0,h=>by simpa using h
 |d :: ds,xs,n+1,h=>by
  unfold DsR at h
  obtain⟨x,r,h1,h2,h3⟩:=h
  subst h1
  exact DsR.drop n h3
theorem DsR.take:∀{ds:List D} {xs:List V} (n:Nat),DsR K ρ H ds xs->DsR K ρ H (ds.take n) (xs.take n)
 |[],xs,n,h=>by
  have e:xs=[]:=by unfold DsR at h;exact h
  subst e;simpa using h
 |d :: ds,xs,0,h=>by simpa using DsR.nil
 |d :: ds,xs,n+1,h=>by
  unfold DsR at h
  obtain⟨x,r,h1,h2,h3⟩:=h
  subst h1
  exact .cons h2 (DsR.take n h3)
theorem DsR.ints:∀(ns:List Int),DsR K ρ H (ns.map D.int) (ns.map V.int)
 |[]=>.nil
 |n :: ns=>.cons (by unfold DR;rfl) (DsR.ints ns)
theorem DR.flat_int {i:Int}:DR K ρ H (.int i) (.int i):=by unfold DR;rfl
theorem DR.flat_bl {b:Bool}:DR K ρ H (.bl b) (.bl b):=by unfold DR;rfl
theorem DR.flat_str {x:Str}:DR K ρ H (.str x) (.str x):=by unfold DR;rfl
theorem DR.flat_non:DR K ρ H .non .non:=by unfold DR;rfl
theorem DR.of_int {i:Int}{v:V}(h:DR K ρ H (.int i) v):v = .int i:=by unfold DR at h;exact h
theorem DR.of_bl {b:Bool}{v:V}(h:DR K ρ H (.bl b) v):v = .bl b:=by unfold DR at h;exact h
theorem DR.of_str {x:Str}{v:V}(h:DR K ρ H (.str x) v):v = .str x:=by unfold DR at h;exact h
theorem DR.of_non {v:V}(h:DR K ρ H .non v):v = .non:=by unfold DR at h;exact h
theorem DR.of_tup {ds:List D}{v:V}(h:DR K ρ H (.tup ds) v):∃a xs,v = .ref a/\H a=some (.tup xs)/\DsR K ρ H ds xs:=by unfold DR at h;exact h
theorem DR.tup {ds:List D}{a:Addr}{xs:List V}(h:H a=some (.tup xs))(t:DsR K ρ H ds xs):DR K ρ H (.tup ds) (.ref a):=by unfold DR;exact⟨a,xs,rfl,h,t⟩
theorem DR.of_ref {n:Nat}{v:V}(h:DR K ρ H (.ref n) v):∃a,ρ[n]? = some a/\v = .ref a:=by unfold DR at h;exact h
theorem DR.ref {n:Nat}{a:Addr}(h:ρ[n]? = some a):DR K ρ H (.ref n) (.ref a):=by unfold DR;exact⟨a,h,rfl⟩
theorem DR.of_scr {ns:List Int}{v:V}(h:DR K ρ H (.scr ns) v):∃a,v = .ref a/\AU K H a ns:=by unfold DR at h;exact h
end
def QE:D->Option Key
 | .int i=>some (.inl i)
 | .str x=>some (.inr x)
 |_=>none
def PR:List D->Option (List Key)
 |[]=>some []
 |d :: ds=>(QE d).bind λk=>(PR ds).map λks=>k :: ks
def QV:D->Option (List Key)
 | .tup ds=>PR ds
 |_=>none
def kEq (a b:D):Bool:=match QE a,QE b with
 |some x,some y=>decide (x=y)
 |_,_=>match QV a,QV b with
  |some x,some y=>decide (x=y)
  |_,_=>false
def UH (kvs:List (D×D))(k:D):Option D:=(kvs.find? λp=>kEq p.1 k).map (·.2)
def G1 (kvs:List (D×D))(k v:D):List (D×D):=if (kvs.any λp=>kEq p.1 k)=true then kvs.map (λp=>if kEq p.1 k=true then (p.1,v) else p) else kvs++[(k,v)]
def Qs (kvs:List (D×D))(k:D):Bool:=match QE k with
 |some _=>kvs.all λp=>(QE p.1).isSome
 |none=>match QV k with
  |some _=>kvs.all λp=>(QV p.1).isSome
  |none=>false
def JT (S:Sto)(n:Nat)(k:D):Option (List (D×D)):=match S[n]? with
 |some (.dct kvs)=>if Qs kvs k=true then some kvs else none
 |some (.fdct kvs)=>if (QE k).isSome=true then some kvs else none
 |_=>none
def KO (S:Sto)(n:Nat):Bool:=match S[n]? with
 |some (.dct _)=>true
 |some (.fdct _)=>true
 |_=>false
def ObR (K:Wd)(ρ:List Addr)(H:Hp)(a:Addr):Ob->Prop
 | .lst ds=>∃xs,H a=some (.lst xs)/\DsR K ρ H ds xs
 | .dct kvs=>(∃(ks:List Key) (xs:List V),H a=some (.dK (ks.zip xs))/\ks.length=xs.length/\kvs.map (λp=>QE p.1)=ks.map some/\DsR K ρ H (kvs.map (·.2)) xs)\/
   ∃(ks:List (List Key)) (xs:List V),H a=some (.dT (ks.zip xs))/\ks.length=xs.length/\kvs.map (λp=>QV p.1)=ks.map some/\DsR K ρ H (kvs.map (·.2)) xs
 | .fdct kvs=>∃(o:Obj) (ks:List Key) (xs:List V),H a=some (.frz o (.dK (ks.zip xs)))/\ks.length=xs.length/\kvs.map (λp=>QE p.1)=ks.map some/\DsR K ρ H (kvs.map (·.2)) xs
 | .ins C fs=>∃(Ca dx:Addr) (xs:List V),WB K Wx C=some (some (.ref Ca))/\H a=some (.ins Ca dx ((fs.map (·.1)).zip xs))/\DsR K ρ H (fs.map (·.2)) xs
structure StR (K:Wd) (ρ:List Addr) (H:Hp) (S:Sto):Prop where
 len:ρ.length=S.length
 inj:∀(i j:Nat) a,ρ[i]? = some a->ρ[j]? = some a->i=j
 ob:∀(n:Nat) ob,S[n]? = some ob->∃a,ρ[n]? = some a/\ObR K ρ H a ob
structure EnR (K:Wd) (ρ:List Addr) (H:Hp) (en:En) (σ:L2.St):Prop where
 len:en.length=σ.length
 get:∀(i:Nat) d,en[i]? = some (some d)->∃x,σ[i]? = some (some x)/\DR K ρ H d x
section
variable {K:Wd} {ρ ρ':List Addr} {H H':Hp} {S:Sto} {en:En} {σ:L2.St}
theorem ObR.mono {a:Addr}{ob:Ob}(h:ObR K ρ H a ob)(e:Ext0 ρ H ρ' H')(he:H' a=H a):ObR K ρ' H' a ob:=by
 cases ob with
 |lst ds=>
  obtain⟨xs,h1,h2⟩:=h
  exact⟨xs,he.trans h1,DsR.mono e _ _ h2⟩
 |dct kvs=>
  rcases h with ⟨ks,xs,h1,h2,h3,h4⟩|⟨ks,xs,h1,h2,h3,h4⟩
  ·exact .inl ⟨ks,xs,he.trans h1,h2,h3,DsR.mono e _ _ h4⟩
  ·exact .inr ⟨ks,xs,he.trans h1,h2,h3,DsR.mono e _ _ h4⟩
 |fdct kvs=>
  obtain⟨o,ks,xs,h1,h2,h3,h4⟩:=h
  exact⟨o,ks,xs,he.trans h1,h2,h3,DsR.mono e _ _ h4⟩
 |ins C fs=>
  obtain⟨Ca,dx,xs,h1,h2,h3⟩:=h
  exact⟨Ca,dx,xs,h1,he.trans h2,DsR.mono e _ _ h3⟩
theorem ObR.there {a:Addr}{ob:Ob}(h:ObR K ρ H a ob):∃o,H a=some o:=by
 cases ob with
 |lst ds=>obtain⟨xs,h1,_⟩:=h;exact⟨_,h1⟩
 |dct kvs=>rcases h with ⟨ks,xs,h1,_⟩|⟨ks,xs,h1,_⟩<;>exact⟨_,h1⟩
 |fdct kvs=>obtain⟨o,ks,xs,h1,_⟩:=h;exact⟨_,h1⟩
 |ins C fs=>obtain⟨Ca,dx,xs,_,h1,_⟩:=h;exact⟨_,h1⟩
theorem ObR.tracked {a:Addr}{ob:Ob}(h:ObR K ρ H a ob)(hf:∀kvs,ob≠.fdct kvs):∃o,H a=some o/\(∀xs,o≠.tup xs)/\∀ob u,o≠.frz ob u:=by
 cases ob with
 |lst ds=>
  obtain⟨xs,h1,_⟩:=h
  exact⟨_,h1,λ_ z=>(nomatch z),λ_ _ z=>(nomatch z)⟩
 |dct kvs=>
  rcases h with ⟨ks,xs,h1,_⟩|⟨ks,xs,h1,_⟩
  ·exact⟨_,h1,λ_ z=>(nomatch z),λ_ _ z=>(nomatch z)⟩
  ·exact⟨_,h1,λ_ z=>(nomatch z),λ_ _ z=>(nomatch z)⟩
 |fdct kvs=>exact absurd rfl (hf kvs)
 |ins C fs=>
  obtain⟨Ca,dx,xs,_,h1,_⟩:=h
  exact⟨_,h1,λ_ z=>(nomatch z),λ_ _ z=>(nomatch z)⟩
theorem StR.obj (R:StR K ρ H S){n:Nat}{a:Addr}(h:ρ[n]? = some a):∃ob,S[n]? = some ob/\ObR K ρ H a ob:=by
 have hl:n<S.length:=by rw [←R.len];exact (Wo.mp h).1
 obtain⟨a',h1,h2⟩:=R.ob n S[n] (Wo.mpr ⟨hl,rfl⟩)
 rw [h] at h1;cases h1
 exact⟨S[n],Wo.mpr ⟨hl,rfl⟩,h2⟩
theorem StR.mono (R:StR K ρ H S)(e:Ext0 ρ H ρ H')(he:∀(n:Nat) a,ρ[n]? = some a->H' a=H a):StR K ρ H' S:=
 ⟨R.len,R.inj,λn ob h=>by
  obtain⟨a,h1,h2⟩:=R.ob n ob h
  exact⟨a,h1,h2.mono e (he n a h1)⟩⟩
theorem StR.fresh (R:StR K ρ H S){p:Addr}(hp:H p=none):∀(n:Nat) a,ρ[n]? = some a->a≠p:=λn a h z=>by
 obtain⟨ob,_,h2⟩:=R.obj h
 obtain⟨o,h3⟩:=h2.there
 rw [z,hp] at h3;cases h3
theorem StR.new (R:StR K ρ H S){p:Addr}{o:HO}(hp:H p=none):StR K ρ (upd H p o) S:=
 R.mono (Ext.new hp).weak λn a h=>Zl (R.fresh hp n a h)
theorem StR.push (R:StR K ρ H S){p:Addr}{o:HO}{ob:Ob}(hp:H p=none)(h:ObR K (ρ++[p]) (upd H p o) p ob):StR K (ρ++[p]) (upd H p o) (S++[ob]):=by
 refine⟨by simp [R.len],λi j a h1 h2=>?_,λn ob' e=>?_⟩
 ·have key:∀(i:Nat),(ρ++[p])[i]? = some a->(i<ρ.length/\ρ[i]? = some a)\/(i=ρ.length/\a=p):=λi e=>by
   by_cases hi:i<ρ.length
   ·rw [V2 hi] at e;exact .inl ⟨hi,e⟩
   ·rw [WV (W0N hi)] at e
    have hl:=(Wo.mp e).1
    simp at hl
    have e0:i-ρ.length=0:=by omega
    rw [e0] at e;simp at e
    exact .inr ⟨by omega,e.symm⟩
  rcases key i h1 with ⟨_,q1⟩|⟨q1,r1⟩<;>rcases key j h2 with ⟨_,q2⟩|⟨q2,r2⟩
  ·exact R.inj i j a q1 q2
  ·exact absurd r2 (R.fresh hp i a q1)
  ·exact absurd r1 (R.fresh hp j a q2)
  ·rw [q1,q2]
 ·by_cases hn:n<S.length
  ·rw [V2 hn] at e
   obtain⟨a,h1,h2⟩:=R.ob n ob' e
   exact⟨a,by rw [V2 (by rw [R.len];exact hn)];exact h1,h2.mono (Ext.newRef hp).weak (Zl (R.fresh hp n a h1))⟩
  ·rw [WV (W0N hn)] at e
   have hl:=(Wo.mp e).1
   simp at hl
   have e0:n-S.length=0:=by omega
   rw [e0] at e;simp at e
   subst e
   refine⟨p,?_,h⟩
   rw [WV (by rw [R.len];omega),R.len,e0]
   rfl
theorem StR.set0 (R:StR K ρ H S){n:Nat}{p:Addr}{o:HO}{ob:Ob}(hn:ρ[n]? = some p)(X:Ext0 ρ H ρ (upd H p o))(h:ObR K ρ (upd H p o) p ob):StR K ρ (upd H p o) (S.set n ob):=by
 obtain⟨ob0,e0,r0⟩:=R.obj hn
 refine⟨by simpa using R.len,R.inj,λm ob' e=>?_⟩
 by_cases hm:m=n
 ·subst hm
  rw [W0w (Wo.mp e0).1] at e
  cases e
  exact⟨p,hn,h⟩
 ·rw [W0m (Ne.symm hm)] at e
  obtain⟨a,h1,h2⟩:=R.ob m ob' e
  refine⟨a,h1,h2.mono X (Zl ?_)⟩
  rintro rfl
  exact hm (R.inj m n _ h1 hn)
theorem StR.set (R:StR K ρ H S){n:Nat}{p:Addr}{o:HO}{ob:Ob}(hn:ρ[n]? = some p)(hf:∀kvs,S[n]?≠some (.fdct kvs))(h:ObR K ρ (upd H p o) p ob):StR K ρ (upd H p o) (S.set n ob)/\Ext ρ H ρ (upd H p o):=by
 obtain⟨ob0,e0,r0⟩:=R.obj hn
 obtain⟨o0,t1,t2,t3⟩:=r0.tracked λkvs z=>hf kvs (by rw [e0,z])
 have X:Ext ρ H ρ (upd H p o):=Ext.upd t1 t2 t3
 exact⟨R.set0 hn X.weak h,X⟩
theorem StR.thaw (R:StR K ρ H S){n:Nat}{a:Addr}{kvs:List (D×D)}(hn:ρ[n]? = some a)(e:S[n]? = some (.fdct kvs)):∃(o:Obj) (tab:List (Key×V)),H a=some (.frz o (.dK tab))/\StR K ρ (upd H a (.dK tab)) (S.set n (.dct kvs))/\Ext0 ρ H ρ (upd H a (.dK tab)):=by
 obtain⟨ob,e1,r⟩:=R.obj hn
 rw [e] at e1
 cases e1
 obtain⟨o,ks,xs,h1,h2,h3,h4⟩:=r
 have X:Ext0 ρ H ρ (upd H a (.dK (ks.zip xs))):=⟨λ_ _ h=>h,λb ys hb=>by rw [Zl (UZ hb h1 (λz=>nomatch z))];exact hb,λb o' ys hb=>by rw [Zl (UZ hb h1 (λz=>by injection z with _ z2;cases z2))];exact hb⟩
 exact⟨o,_,h1,R.set0 hn X (.inl ⟨ks,xs,Za,h2,h3,DsR.mono X _ _ h4⟩),X⟩
theorem EnR.up0 (E:EnR K ρ H en σ)(e:Ext0 ρ H ρ' H'):EnR K ρ' H' en σ:=⟨E.len,λi d h=>by
 obtain⟨x,h1,h2⟩:=E.get i d h
 exact⟨x,h1,DR.mono e _ _ h2⟩⟩
theorem EnR.up (E:EnR K ρ H en σ)(e:Ext ρ H ρ' H'):EnR K ρ' H' en σ:=⟨E.len,λi d h=>by
 obtain⟨x,h1,h2⟩:=E.get i d h
 exact⟨x,h1,h2.up e⟩⟩
theorem EnR.set (E:EnR K ρ H en σ){i:Nat}{d:D}{x:V}(h:DR K ρ H d x):EnR K ρ H (en.set i (some d)) (σ.set i (some x)):=⟨by simpa using E.len,λj c e=>by
 by_cases hj:j=i
 ·subst hj
  have hl:j<en.length:=by
   have:=(Wo.mp e).1
   simpa using this
  rw [W0w hl] at e
  cases e
  exact⟨x,by rw [W0w (by rw [←E.len];exact hl)],h⟩
 ·rw [W0m (Ne.symm hj)] at e
  obtain⟨y,h1,h2⟩:=E.get j c e
  exact⟨y,by rw [W0m (Ne.symm hj)];exact h1,h2⟩⟩
end
inductive TM (K:Wd) (m:M D) (σ:L2.St) (H:Hp) (Q:VK):Prop
 |mk (ρ:List Addr) (en:En) (S:Sto) (v:D) (S':Sto) (E:EnR K ρ H en σ) (R:StR K ρ H S) (e:m en S=some (v,S')) (k:∀x ρ' H',Ext ρ H ρ' H'->StR K ρ' H' S'->DR K ρ' H' v x->Q x H'):TM K m σ H Q
def tM (K:Wd)(m:M D):TE:=λσ H Q=>TM K m σ H Q
def tMT (K:Wd)(m:M Bool):TT:=λσ H Q=>∃ρ en S b S',EnR K ρ H en σ/\StR K ρ H S/\m en S=some (b,S')/\∀ρ' H',Ext ρ H ρ' H'->StR K ρ' H' S'->Q b H'
inductive TMA (K:Wd) (m:M (List D)) (σ:L2.St) (H:Hp) (Q:List V->Hp->Prop):Prop
 |mk (ρ:List Addr) (en:En) (S:Sto) (ds:List D) (S':Sto) (E:EnR K ρ H en σ) (R:StR K ρ H S) (e:m en S=some (ds,S')) (k:∀xs ρ' H',Ext ρ H ρ' H'->StR K ρ' H' S'->DsR K ρ' H' ds xs->Q xs H'):TMA K m σ H Q
def tMA (K:Wd)(m:M (List D)):TA:=λσ H Q=>TMA K m σ H Q
def tMQ (K:Wd)(m:M (List D)):TE:=λσ H Q=>∃ρ en S ds S',EnR K ρ H en σ/\StR K ρ H S/\m en S=some (ds,S')/\
 ∀a xs ρ' H',Ext ρ H ρ' H'->StR K ρ' H' S'->(SqL K H' a xs\/SqT K H' a xs)->DsR K ρ' H' ds xs->Q (.ref a) H'
def tMS (K:Wd)(m:MS):TS:=λD σ H=>∃ρ en S f en' S',EnR K ρ H en σ/\StR K ρ H S/\m en S=some (f,en',S')/\∀ρ' H' σ',Ext ρ H ρ' H'->StR K ρ' H' S'->EnR K ρ' H' en' σ'->
 match f with
 | .nx=>D.nx σ' H'
 | .rt d=>∀x,DR K ρ' H' d x->D.rt x H'
 | .bk=>D.bk σ' H'
 | .ct=>D.ct σ' H'
def rD (K:Wd)(g:D->D->Sto->Option (D×Sto)):R2:=λx y H Q=>∃ρ S d1 d2 v S',StR K ρ H S/\DR K ρ H d1 x/\DR K ρ H d2 y/\g d1 d2 S=some (v,S')/\
 ∀z ρ' H',Ext ρ H ρ' H'->StR K ρ' H' S'->DR K ρ' H' v z->Q z H'
def rDs (K:Wd)(g:List D->Sto->Option (D×Sto)):List V->Hp->VK->Prop:=λxs H Q=>∃ρ S ds v S',StR K ρ H S/\DsR K ρ H ds xs/\g ds S=some (v,S')/\
 ∀z ρ' H',Ext ρ H ρ' H'->StR K ρ' H' S'->DR K ρ' H' v z->Q z H'
def SE (X:Cx)(e:Expr)(m:M D):Prop:=PE X e (tM X.K m)
def ST (X:Cx)(e:Expr)(m:M Bool):Prop:=PT X e (tMT X.K m)
def SW (X:Cx)(e:Expr)(m:M Bool):Prop:=PW X e (tMT X.K m)
def SA (X:Cx)(es:List Expr)(m:M (List D)):Prop:=PA X es (tMA X.K m)
def SQ (X:Cx)(e:Expr)(m:M (List D)):Prop:=PE X e (tMQ X.K m)
def SS (X:Cx)(st:Stmt)(m:MS):Prop:=PS X st (tMS X.K m)
def SB (X:Cx)(st:List Stmt)(m:MS):Prop:=PSs X st (tMS X.K m)
def OpD (X:Cx)(f:Value->Value->Sem Value)(g:D->D->Sto->Option (D×Sto)):Prop:=OpR X f (rD X.K g)
section
variable {X:Cx} {e a b c:Expr} {es:List Expr} {pos:Pos}
theorem ZF {t t':TE}(h:PE X e t)(i:∀σ H Q,t' σ H Q->t σ H Q):PE X e t':=λpins s σ H Q I q=>h pins s σ H Q I (i σ H Q q)
theorem P3 {t t':TT}(h:PT X e t)(i:∀σ H Q,t' σ H Q->t σ H Q):PT X e t':=λpins s σ H Q I q=>h pins s σ H Q I (i σ H Q q)
theorem DQ {t t':TT}(h:PW X e t)(i:∀σ H Q,t' σ H Q->t σ H Q):PW X e t':=λwhole pins s σ H Q I q=>h whole pins s σ H Q I (i σ H Q q)
theorem Ej {t t':TA}(h:PA X es t)(i:∀σ H Q,t' σ H Q->t σ H Q):PA X es t':=λp pins s σ H Q I q=>h p pins s σ H Q I (i σ H Q q)
theorem US {st:Stmt}{t t':TS}(h:PS X st t)(i:∀D σ H,t' D σ H->t D σ H):PS X st t':=λpins s σ H D I q=>h pins s σ H D I (i D σ H q)
theorem P4 {st:List Stmt}{t t':TS}(h:PSs X st t)(i:∀D σ H,t' D σ H->t D σ H):PSs X st t':=λpins s σ H D I q=>h pins s σ H D I (i D σ H q)
theorem JO {f:Value->Value->Sem Value}{r r':R2}(h:OpR X f r)(i:∀x y H Q,r' x y H Q->r x y H Q):OpR X f r':=λpins s σ H x y v u Q I rx ry q=>h pins s σ H x y v u Q I rx ry (i x y H Q q)
def Z6 (i:Nat):M D:=λen S=>(en[i]?.getD none).map λd=>(d,S)
def Zg (d:D):M D:=λ_ S=>some (d,S)
theorem DF {x:Str}(i:Nat)(h:PE X (.Name x pos) (Z2A i)):SE X (.Name x pos) (Z6 i):=by
 refine ZF h ?_
 rintro σ H Q ⟨ρ,en,S,v,S',E,R,e,k⟩
 have e':en[i]? = some (some v)/\S=S':=by
  unfold Z6 at e
  cases q:en[i]? with
  |none=>rw [q] at e;cases e
  |some o=>
   rw [q] at e
   cases o with
   |none=>cases e
   |some d=>cases e;exact⟨rfl,rfl⟩
 obtain⟨x,h1,h2⟩:=E.get i v e'.1
 exact⟨x,h1,k x ρ H Ext.refl (e'.2 ▸ R) h2⟩
theorem Bl {d:D}{v:V}(h:PE X e (tC v))(hd:∀ρ H,DR X.K ρ H d v):SE X e (Zg d):=by
 refine ZF h ?_
 rintro σ H Q ⟨ρ,en,S,v',S',E,R,e,k⟩
 cases e
 exact k v ρ H Ext.refl R (hd ρ H)
theorem Z4 {i j}:SE X (.Constant (.int i) j pos) (Zg (.int i)):=Bl Oa λ_ _=>.flat_int
theorem Uu {i j}:SE X (.Constant (.bool i) j pos) (Zg (.bl i)):=Bl Z1v λ_ _=>.flat_bl
theorem J6 {i j}:SE X (.Constant (.str i) j pos) (Zg (.str i)):=Bl O6 λ_ _=>.flat_str
theorem Ea {j}:SE X (.Constant .none j pos) (Zg .non):=Bl O8 λ_ _=>.flat_non
theorem Nv {x:Str}{i:Int}(hg:Gl X x)(hm:∃t,X.mg x=some (.int i t))(hd:(x == ("__debug__" : Str))=false:=by decide):SE X (.Name x pos) (Zg (.int i)):=by
 obtain⟨t,hm⟩:=hm
 exact Bl (Su (v:=V.int i) hg hm ⟨t,rfl⟩ hd) λ_ _=>.flat_int
def mOp (g:D->D->Sto->Option (D×Sto))(a b:M D):M D:=λen S=>(a en S).bind λp=>(b en p.2).bind λq=>g p.1 q.1 q.2
theorem GO {K:Wd}{g:D->D->Sto->Option (D×Sto)}{ma mb:M D}{σ:L2.St}{H:Hp}{Q:VK}(h:tM K (mOp g ma mb) σ H Q):tOp (rD K g) (tM K ma) (tM K mb) σ H Q:=by
 obtain⟨ρ,en,S,v,S',E,R,e,k⟩:=h
 unfold mOp at e
 obtain⟨p,e1,e⟩:=W5.mp e
 obtain⟨q,e2,e3⟩:=W5.mp e
 refine⟨ρ,en,S,p.1,p.2,E,R,e1,λx ρ1 H1 X1 R1 d1=>⟨ρ1,en,p.2,q.1,q.2,E.up X1,R1,e2,λy ρ2 H2 X2 R2 d2=>⟨ρ2,q.2,p.1,q.1,v,S',R2,d1.up X2,d2,e3,λz ρ3 H3 X3 R3 d3=>?_⟩⟩⟩
 exact k z ρ3 H3 ((X1.trans X2).trans X3) R3 d3
theorem Y9 {op:Operator}{g:D->D->Sto->Option (D×Sto)}{ma mb:M D}(ho:OpD X (binaryOp op) g)(ha:SE X a ma)(hb:SE X b mb):SE X (.BinOp a op b pos) (mOp g ma mb):=ZF (Z1t ho ha hb) λ_ _ _=>GO
theorem J7 {op:CmpOp}{g:D->D->Sto->Option (D×Sto)}{ma mb:M D}(ho:OpD X (compareOp op) g)(ha:SE X a ma)(hb:SE X b mb)(hm:behindInMarks op b=false):SE X (.Compare a [op] [b] pos) (mOp g ma mb):=
 ZF (Sv ho ha hb hm) λ_ _ _=>GO
def mT (m:M D):M Bool:=λen S=>(m en S).bind λp=>match p.1 with | .bl b=>some (b,p.2)|_=>none
theorem Ie {m:M D}{en:En}{S S':Sto}{b:Bool}(h:mT m en S=some (b,S')):m en S=some (.bl b,S'):=by
 unfold mT at h
 obtain⟨p,e1,e2⟩:=W5.mp h
 obtain⟨d,S1⟩:=p
 cases d<;>first|cases e2;exact e1|cases e2
theorem Ry {K:Wd}{m:M D}{t:TE}(i:∀σ H Q,tM K m σ H Q->t σ H Q){σ:L2.St}{H:Hp}{Q:Bool->Hp->Prop}(h:tMT K (mT m) σ H Q):Dw t σ H Q:=by
 obtain⟨ρ,en,S,b,S',E,R,e,k⟩:=h
 refine i σ H _ ⟨ρ,en,S,.bl b,S',E,R,Ie e,λx ρ' H' X1 R1 d1=>⟨b,d1.of_bl,k ρ' H' X1 R1⟩⟩
theorem YQ {op:CmpOp}{g:D->D->Sto->Option (D×Sto)}{ma mb:M D}(ho:OpD X (compareOp op) g)(ha:SE X a ma)(hb:SE X b mb)(hm:behindInMarks op b=false):ST X (.Compare a [op] [b] pos) (mT (mOp g ma mb)):=
 P3 (Se ho ha hb hm) λ_ _ _ h=>Ry (λ_ _ _=>GO) h
def UU (g g':D->D->Sto->Option (D×Sto))(a b c:M D):M D:=λen S=>(a en S).bind λp=>(b en p.2).bind λq=>(g p.1 q.1 q.2).bind λr=>match r.1 with
 | .bl true=>(c en r.2).bind λw=>g' q.1 w.1 w.2
 | .bl false=>some (.bl false,r.2)
 |_=>none
theorem KW {K:Wd}{g g':D->D->Sto->Option (D×Sto)}{ma mb mc:M D}{σ:L2.St}{H:Hp}{Q:VK}(h:tM K (UU g g' ma mb mc) σ H Q):E6 (rD K g) (rD K g') (tM K ma) (tM K mb) (tM K mc) σ H Q:=by
 obtain⟨ρ,en,S,v,S',E,R,e,k⟩:=h
 unfold UU at e
 obtain⟨p,e1,e⟩:=W5.mp e
 obtain⟨q,e2,e⟩:=W5.mp e
 obtain⟨r,e3,e⟩:=W5.mp e
 refine⟨ρ,en,S,p.1,p.2,E,R,e1,λx ρ1 H1 X1 R1 d1=>⟨ρ1,en,p.2,q.1,q.2,E.up X1,R1,e2,λy ρ2 H2 X2 R2 d2=>⟨ρ2,q.2,p.1,q.1,r.1,r.2,R2,d1.up X2,d2,e3,λz ρ3 H3 X3 R3 d3=>?_⟩⟩⟩
 obtain⟨rd,rS⟩:=r
 dsimp only at e d3 R3
 cases rd with
 |bl tb=>
  refine⟨tb,d3.of_bl,?_⟩
  cases tb with
  |true=>
   rw [if_pos rfl]
   dsimp only at e
   obtain⟨w,e4,e5⟩:=W5.mp e
   refine⟨ρ3,en,rS,w.1,w.2,((E.up X1).up X2).up X3,R3,e4,λu ρ4 H4 X4 R4 d4=>⟨ρ4,w.2,q.1,w.1,v,S',R4,(d2.up X3).up X4,d4,e5,λt ρ5 H5 X5 R5 d5=>?_⟩⟩
   exact k t ρ5 H5 ((((X1.trans X2).trans X3).trans X4).trans X5) R5 d5
  |false=>
   rw [if_neg Wu]
   dsimp only at e
   cases e
   exact k _ ρ3 H3 ((X1.trans X2).trans X3) R3 .flat_bl
 |_=>cases e
theorem GB {op op':CmpOp}{g g':D->D->Sto->Option (D×Sto)}{ma mb mc:M D}(ho:OpD X (compareOp op) g)(ho':OpD X (compareOp op') g')(ha:SE X a ma)(hb:SE X b mb)(hc:SE X c mc)
  (hm:lastMarks [op,op'] [b,c]=false:=by with_unfolding_all rfl):SE X (.Compare a [op,op'] [b,c] pos) (UU g g' ma mb mc):=ZF (A5 ho ho' ha hb hc hm) λ_ _ _=>KW
def Z2Q (a b:M Bool):M Bool:=λen S=>(a en S).bind λp=>if p.1 then b en p.2 else some (false,p.2)
def mOr (a b:M Bool):M Bool:=λen S=>(a en S).bind λp=>if p.1 then some (true,p.2) else b en p.2
def Gf (a:M Bool):M Bool:=λen S=>(a en S).map λp=>(!p.1,p.2)
theorem Sz {K:Wd}{ma mb:M Bool}{σ:L2.St}{H:Hp}{Q:Bool->Hp->Prop}(h:tMT K (mOr ma mb) σ H Q):tOr (tMT K ma) (tMT K mb) σ H Q:=by
 obtain⟨ρ,en,S,v,S',E,R,e,k⟩:=h
 unfold mOr at e
 obtain⟨p,e1,e⟩:=W5.mp e
 refine⟨ρ,en,S,p.1,p.2,E,R,e1,λρ1 H1 X1 R1=>?_⟩
 by_cases hp:p.1=true
 ·rw [if_pos hp] at e ⊢
  cases e
  exact k ρ1 H1 X1 R1
 ·rw [if_neg hp] at e ⊢
  exact⟨ρ1,en,p.2,v,S',E.up X1,R1,e,λρ2 H2 X2 R2=>k ρ2 H2 (X1.trans X2) R2⟩
theorem JX {ma:M Bool}(ha:ST X a ma):SW X (.BoolOp .Or [a] pos) ma:=DO ha
theorem Th {QN:List Expr}{ma mb:M Bool}(ha:ST X a ma)(hb:SW X (.BoolOp .Or (b :: QN) pos) mb):SW X (.BoolOp .Or (a :: b :: QN) pos) (mOr ma mb):=DQ (Z1r ha hb) λ_ _ _=>Sz
theorem FF {m:M Bool}(h:SW X e m):ST X e m:=PW.pt h
theorem Qe {ma:M Bool}(ha:ST X a ma):ST X (.UnaryOp .Not a pos) (Gf ma):=by
 refine P3 (DT ha) ?_
 rintro σ H Q ⟨ρ,en,S,v,S',E,R,e,k⟩
 unfold Gf at e
 obtain⟨p,e1,e2⟩:=Wi.mp e
 cases e2
 exact⟨ρ,en,S,p.1,p.2,E,R,e1,λρ1 H1 X1 R1=>k ρ1 H1 X1 R1⟩
def Kl:D->Sto->Option Bool
 | .non,_=>some false
 | .bl b,_=>some b
 | .int i,_=>some (i != 0)
 | .str x,_=>if x.length≤Wk then some ((x.length:Int) != 0) else none
 | .tup ds,_=>some (!ds.isEmpty)
 | .ref n,S=>match S[n]? with
  |some (.lst ds)=>some (!ds.isEmpty)
  |some (.dct kvs)=>some (!kvs.isEmpty)
  |some (.fdct kvs)=>some (!kvs.isEmpty)
  |_=>none
 | .scr ns,_=>some (!ns.isEmpty)
theorem Np {K:Wd}{ρ:List Addr}{H:Hp}{S:Sto}{d:D}{x:V}{b:Bool}(R:StR K ρ H S)(h:DR K ρ H d x)(e:Kl d S=some b):Fb K x H b:=by
 cases d with
 |non=>rw [h.of_non];cases e;exact .inl rfl
 |bl t=>rw [h.of_bl];cases e;exact .inl rfl
 |int i=>rw [h.of_int];cases e;exact .inl rfl
 |str y=>
  rw [h.of_str]
  dsimp only [Kl] at e
  split at e
  ·cases e;exact .inl ⟨by assumption,rfl⟩
  ·cases e
 |tup ds=>
  obtain⟨a,xs,rfl,h1,h2⟩:=h.of_tup
  cases e
  refine .inl (.inr (.inl ⟨xs,.of h1,?_⟩))
  cases ds<;>cases xs<;>first|rfl|(have:=h2.length;simp at this)
 |ref n=>
  obtain⟨a,h1,rfl⟩:=h.of_ref
  obtain⟨ob,e1,r⟩:=R.obj h1
  dsimp only [Kl] at e
  rw [e1] at e
  cases ob with
  |lst ds=>
   cases e
   obtain⟨xs,h2,h3⟩:=r
   refine .inl (.inl ⟨xs,.of h2,?_⟩)
   cases ds<;>cases xs<;>first|rfl|(have:=h3.length;simp at this)
  |dct kvs=>
   cases e
   rcases r with ⟨ks,xs,h2,h3,h4,h5⟩|⟨ks,xs,h2,h3,h4,h5⟩
   ·refine .inl (.inr (.inr ⟨_,h2,?_⟩))
    have l1:=congrArg Ve h4
    rw [We,We] at l1
    cases kvs<;>cases ks<;>cases xs<;>simp_all
   ·refine .inr (.inl ⟨a,_,rfl,.inl h2,?_⟩)
    have l1:=congrArg Ve h4
    rw [We,We] at l1
    cases kvs<;>cases ks<;>cases xs<;>simp_all
  |fdct kvs=>
   cases e
   obtain⟨o,ks,xs,h2,h3,h4,h5⟩:=r
   refine .inr (.inr ⟨a,_,rfl,.inr ⟨o,h2⟩,?_⟩)
   have l1:=congrArg Ve h4
   rw [We,We] at l1
   cases kvs<;>cases ks<;>cases xs<;>simp_all
  |ins C fs=>cases e
 |scr ns=>
  obtain⟨a,rfl,h1⟩:=h.of_scr
  cases e
  refine .inl (.inl ⟨_,h1.seq,?_⟩)
  cases ns<;>rfl
theorem Sx {QN:List Expr}{ta tb:TE}(ha:PE X a ta)(hb:PE X (.BoolOp .And (b :: QN) pos) tb):PE X (.BoolOp .And (a :: b :: QN) pos) (λσ H Q=>ta σ H λx H1=>∃k,Fb X.K x H1 k/\if k=true then tb σ H1 Q else Q x H1):=by
 intro pins s σ H Q I h
 refine BoolOp_and (thn (ha pins s σ H _ I h) λv s1 ⟨x,H1,I1,r1,k,t1,q1⟩=>thn (No pins s1 σ H1 x v (λc H2=>H2=H1/\c=k) I1 r1 ⟨k,t1,rfl,rfl⟩) λc s2 ⟨H2,I2,e1,e2⟩=>?_)
 subst e1 e2
 cases c with
 |true=>exact hb pins s2 σ H2 Q I2 q1
 |false=>exact⟨x,H2,I2,r1,q1⟩
theorem Sr {ta:TE}(ha:PE X a ta):PE X (.UnaryOp .Not a pos) (λσ H Q=>ta σ H λx H1=>∃k,Fb X.K x H1 k/\Q (.bl (!k)) H1):=by
 intro pins s σ H Q I h
 refine UnaryOp_ (thn (ha pins s σ H _ I h) λv s1 ⟨x,H1,I1,r1,k,t1,q1⟩=>not_of (thn (No pins s1 σ H1 x v (λc H2=>H2=H1/\c=k) I1 r1 ⟨k,t1,rfl,rfl⟩) λc s2 ⟨H2,I2,e1,e2⟩=>?_))
 subst e1 e2
 exact⟨.bl (!c),H2,I2,rfl,q1⟩
def UY (a b:M D):M D:=λen S=>(a en S).bind λp=>(Kl p.1 p.2).bind λt=>if t then b en p.2 else some (p.1,p.2)
def vOr (a b:M D):M D:=λen S=>(a en S).bind λp=>(Kl p.1 p.2).bind λt=>if t then some (p.1,p.2) else b en p.2
def Dp (a:M D):M D:=λen S=>(a en S).bind λp=>(Kl p.1 p.2).map λt=>(.bl (!t),p.2)
theorem Ql {op}{m:M D}(h:SE X a m):SE X (.BoolOp op [a] pos) m:=O7 h
theorem Yp {QN:List Expr}{ma mb:M D}(ha:SE X a ma)(hb:SE X (.BoolOp .And (b :: QN) pos) mb):SE X (.BoolOp .And (a :: b :: QN) pos) (UY ma mb):=by
 refine ZF (Sx ha hb) ?_
 rintro σ H Q ⟨ρ,en,S,v,S',E,R,e,k⟩
 unfold UY at e
 obtain⟨p,e1,e⟩:=W5.mp e
 obtain⟨t,e2,e⟩:=W5.mp e
 refine⟨ρ,en,S,p.1,p.2,E,R,e1,λx ρ1 H1 X1 R1 d1=>⟨t,Np R1 d1 e2,?_⟩⟩
 cases t with
 |true=>
  rw [if_pos rfl] at e ⊢
  exact⟨ρ1,en,p.2,v,S',E.up X1,R1,e,λy ρ2 H2 X2 R2 d2=>k y ρ2 H2 (X1.trans X2) R2 d2⟩
 |false=>
  rw [if_neg Wu] at e ⊢
  cases e
  exact k _ ρ1 H1 X1 R1 d1
theorem DG {ma:M D}(ha:SE X a ma):SE X (.UnaryOp .Not a pos) (Dp ma):=by
 refine ZF (Sr ha) ?_
 rintro σ H Q ⟨ρ,en,S,v,S',E,R,e,k⟩
 unfold Dp at e
 obtain⟨p,e1,e⟩:=W5.mp e
 obtain⟨t,e2,e3⟩:=Wi.mp e
 cases e3
 exact⟨ρ,en,S,p.1,p.2,E,R,e1,λx ρ1 H1 X1 R1 d1=>⟨t,Np R1 d1 e2,k _ ρ1 H1 X1 R1 .flat_bl⟩⟩
def mIf (c:M Bool)(a b:M D):M D:=λen S=>(c en S).bind λp=>if p.1 then a en p.2 else b en p.2
def Tz (m:M D):M Bool:=λen S=>(m en S).bind λp=>(Kl p.1 p.2).map λb=>(b,p.2)
theorem ZO {m:M D}(h:SE X a m)(he:∀whole,isTrue a X.env whole=(do let v ←whole;standAt a.pos;holding [v] (truthy v)):=by intro _;rfl):ST X a (Tz m):=by
 refine P3 (P0 h he) ?_
 rintro σ H Q ⟨ρ,en,S,v,S',E,R,e,k⟩
 unfold Tz at e
 obtain⟨p,e1,e⟩:=W5.mp e
 obtain⟨b,e2,e3⟩:=Wi.mp e
 cases e3
 exact⟨ρ,en,S,p.1,p.2,E,R,e1,λx ρ1 H1 X1 R1 d1=>⟨v,Np R1 d1 e2,k ρ1 H1 X1 R1⟩⟩
def ZV:M (List D):=λ_ S=>some ([],S)
def Z3 (a:M D)(r:M (List D)):M (List D):=λen S=>(a en S).bind λp=>(r en p.2).map λq=>(p.1 :: q.1,q.2)
theorem Z8:SA X [] ZV:=by
 refine Ej Ym ?_
 rintro σ H Q ⟨ρ,en,S,ds,S',E,R,e,k⟩
 cases e
 exact k [] ρ H Ext.refl R .nil
theorem Z1 {ma:M D}{mr:M (List D)}(ha:SE X a ma)(hr:SA X es mr)(hs:Wy (a :: es) X.env=(false,eval a X.env) :: Wy es X.env:=by rfl):SA X (a :: es) (Z3 ma mr):=by
 refine Ej (ZE ha hr hs) ?_
 rintro σ H Q ⟨ρ,en,S,ds,S',E,R,e,k⟩
 unfold Z3 at e
 obtain⟨p,e1,e⟩:=W5.mp e
 obtain⟨q,e2,e3⟩:=Wi.mp e
 cases e3
 refine⟨ρ,en,S,p.1,p.2,E,R,e1,λx ρ1 H1 X1 R1 d1=>⟨ρ1,en,p.2,q.1,q.2,E.up X1,R1,e2,λxs ρ2 H2 X2 R2 d2=>?_⟩⟩
 exact k (x :: xs) ρ2 H2 (X1.trans X2) R2 (.cons (d1.up X2) d2)
def KF (m:M (List D)):M D:=λen S=>(m en S).bind λp=>if p.1.length≤Wk then some (.tup p.1,p.2) else none
def Dc (m:M (List D)):M D:=λen S=>(m en S).bind λp=>if p.1.length≤Wk then some (.ref p.2.length,p.2++[.lst p.1]) else none
theorem JZ {k0}{m:M (List D)}(h:SA X es m):SE X (.Tuple es k0 pos) (KF m):=by
 refine ZF (Ei h) ?_
 rintro σ H Q ⟨ρ,en,S,v,S',E,R,e,k⟩
 unfold KF at e
 obtain⟨p,e1,e⟩:=W5.mp e
 split at e
 ·cases e
  refine⟨ρ,en,S,p.1,p.2,E,R,e1,λxs ρ1 H1 X1 R1 d1=>⟨by rw [←d1.length];assumption,λa ha=>?_⟩⟩
  exact k _ ρ1 _ (X1.trans (Ext.new ha)) (R1.new ha) (.tup Za (d1.up (Ext.new ha)))
 ·cases e
theorem Eb {m:M (List D)}(h:SA X es m):SE X (.List es pos) (Dc m):=by
 refine ZF (O9 h) ?_
 rintro σ H Q ⟨ρ,en,S,v,S',E,R,e,k⟩
 unfold Dc at e
 obtain⟨p,e1,e⟩:=W5.mp e
 split at e
 ·cases e
  refine⟨ρ,en,S,p.1,p.2,E,R,e1,λxs ρ1 H1 X1 R1 d1=>⟨by rw [←d1.length];assumption,λa ha=>?_⟩⟩
  refine k _ (ρ1++[a]) _ (X1.trans (Ext.newRef ha)) (R1.push ha ⟨xs,Za,d1.up (Ext.newRef ha)⟩) (.ref ?_)
  rw [←R1.len];simp
 ·cases e
end
end DL
namespace DL
open PySem PySem.Spec PyProof.Rows L2
section
variable {K:Wd} {ρ:List Addr} {H:Hp}
theorem BL {d:D}{k:Key}{x:V}(e:QE d=some k)(h:DR K ρ H d x):x=kV k:=by
 cases d with
 |int i=>cases e;exact h.of_int
 |str z=>cases e;exact h.of_str
 |_=>cases e
theorem PQ:∀{ds:List D} {ks:List Key} {xs:List V},PR ds=some ks->DsR K ρ H ds xs->xs=ks.map kV
 |[],_,xs,e,h=>by
  cases e
  unfold DsR at h
  exact h
 |d :: ds,ks,xs,e,h=>by
  obtain⟨k,e1,e⟩:=W5.mp e
  obtain⟨ks',e2,e3⟩:=Wi.mp e
  subst e3
  unfold DsR at h
  obtain⟨x,r,rfl,h1,h2⟩:=h
  rw [W1,BL e1 h1,PQ e2 h2]
theorem PP {d:D}{ks:List Key}{x:V}(e:QV d=some ks)(h:DR K ρ H d x):∃b,x = .ref b/\H b=some (.tup (ks.map kV)):=by
 cases d with
 |tup ds=>
  obtain⟨a,xs,rfl,h1,h2⟩:=h.of_tup
  rw [PQ e h2] at h1
  exact⟨a,rfl,h1⟩
 |_=>cases e
theorem Uz {d:D}{k:Key}(e:QE d=some k):QV d=none:=by
 cases d<;>first|rfl|cases e
theorem Z2a {a b:D}{x y:Key}(ea:QE a=some x)(eb:QE b=some y):kEq a b=decide (x=y):=by
 unfold kEq
 rw [ea,eb]
theorem Xm {a b:D}{x y:List Key}(ea:QV a=some x)(eb:QV b=some y):kEq a b=decide (x=y):=by
 have na:QE a=none:=by
  cases h:QE a with
  |none=>rfl
  |some k=>rw [Uz h] at ea;cases ea
 unfold kEq
 rw [na,ea,eb]
theorem Gy {κ:Type}[DecidableEq κ](f:D->Option κ){k:D}{k':κ}(hk:∀a x,f a=some x->kEq a k=decide (x=k')):∀{kvs:List (D×D)} {ks:List κ} {xs:List V},kvs.map (λp=>f p.1)=ks.map some->DsR K ρ H (kvs.map (·.2)) xs->
  (∀v,UH kvs k=some v->∃x,Rc (ks.zip xs) k'=some x/\DR K ρ H v x)/\(UH kvs k=none->Rc (ks.zip xs) k'=none)
 |[],ks,xs,e,h=>by
  cases ks with
  |nil=>exact⟨λv z=>(by cases z),λ_=>rfl⟩
  |cons _ _=>cases e
 |p :: kvs,ks,xs,e,h=>by
  cases ks with
  |nil=>cases e
  |cons k0 ks=>
   rw [W1,W1] at e
   injection e with e1 e2
   rw [W1] at h
   unfold DsR at h
   obtain⟨x,r,rfl,h1,h2⟩:=h
   have ih:=Gy f hk e2 h2
   have hq:=hk p.1 k0 e1
   rw [WR]
   by_cases hc:k0=k'
   ·have hp:kEq p.1 k=true:=by rw [hq];exact decide_eq_true hc
    have hd:UH (p :: kvs) k=some p.2:=by simp [UH,VV,hp]
    rw [hd,Ta (p:=(k0,x)) hc]
    exact⟨λv z=>by cases z;exact⟨x,rfl,h1⟩,λz=>by cases z⟩
   ·have hp:kEq p.1 k=false:=by rw [hq];exact decide_eq_false hc
    have hd:UH (p :: kvs) k=UH kvs k:=by simp [UH,VV,hp]
    rw [hd,Tb (p:=(k0,x)) hc]
    exact ih
theorem RA {κ:Type}[DecidableEq κ](f:D->Option κ){k:D}{k':κ}(hk:∀a x,f a=some x->kEq a k=decide (x=k')):∀{kvs:List (D×D)} {ks:List κ} {xs:List V},kvs.map (λp=>f p.1)=ks.map some->ks.length=xs.length->
  (kvs.any λp=>kEq p.1 k)=((ks.zip xs).any λkv=>decide (kv.1=k'))
 |[],ks,xs,e,_=>by
  cases ks with
  |nil=>rfl
  |cons _ _=>cases e
 |p :: kvs,ks,xs,e,hl=>by
  cases ks with
  |nil=>cases e
  |cons k0 ks=>
   cases xs with
   |nil=>cases hl
   |cons x xs=>
    rw [W1,W1] at e
    injection e with e1 e2
    rw [WR,W0X,W0X,hk p.1 k0 e1,RA f hk e2 (by simpa using hl)]
theorem Mn {κ:Type}[DecidableEq κ](f:D->Option κ){k v:D}{k':κ}{y:V}(hk:∀a x,f a=some x->kEq a k=decide (x=k'))(hv:DR K ρ H v y):∀{kvs:List (D×D)} {ks:List κ} {xs:List V},kvs.map (λp=>f p.1)=ks.map some->ks.length=xs.length->DsR K ρ H (kvs.map (·.2)) xs->
  ∃xs',(ks.zip xs).map (λkv=>if kv.1=k' then (kv.1,y) else kv)=ks.zip xs'/\ks.length=xs'.length/\DsR K ρ H ((kvs.map λp=>if kEq p.1 k=true then (p.1,v) else p).map (·.2)) xs'/\((kvs.map λp=>if kEq p.1 k=true then (p.1,v) else p).map λp=>f p.1)=ks.map some
 |[],ks,xs,e,hl,h=>by
  cases ks with
  |nil=>
   cases xs with
   |nil=>exact⟨[],rfl,rfl,.nil,rfl⟩
   |cons _ _=>cases hl
  |cons _ _=>cases e
 |p :: kvs,ks,xs,e,hl,h=>by
  cases ks with
  |nil=>cases e
  |cons k0 ks=>
   cases xs with
   |nil=>cases hl
   |cons x xs=>
    rw [W1,W1] at e
    injection e with e1 e2
    rw [W1] at h
    unfold DsR at h
    obtain⟨x0,r,hx,h1,h2⟩:=h
    injection hx with hx1 hx2
    subst hx1 hx2
    obtain⟨xs',a1,a2,a3,a4⟩:=Mn f hk hv e2 (by simpa using hl) h2
    have hq:=hk p.1 k0 e1
    by_cases hc:k0=k'
    ·have hp:kEq p.1 k=true:=by rw [hq];exact decide_eq_true hc
     refine⟨y :: xs',?_,by simp [a2],?_,?_⟩
     ·rw [WR,W1,a1,if_pos hc,WR]
     ·rw [W1,if_pos hp,W1];exact .cons hv a3
     ·rw [W1,if_pos hp,W1,a4,e1,W1]
    ·have hp:¬kEq p.1 k=true:=by rw [hq,decide_eq_false hc];exact Wu
     refine⟨x :: xs',?_,by simp [a2],?_,?_⟩
     ·rw [WR,W1,a1,if_neg hc,WR]
     ·rw [W1,if_neg hp,W1];exact .cons h1 a3
     ·rw [W1,if_neg hp,W1,a4,e1,W1]
theorem Nq {κ:Type}[DecidableEq κ](f:D->Option κ){k v:D}{k':κ}{y:V}(hf:f k=some k')(hk:∀a x,f a=some x->kEq a k=decide (x=k'))(hv:DR K ρ H v y){kvs:List (D×D)}{ks:List κ}{xs:List V}
  (e:kvs.map (λp=>f p.1)=ks.map some) (hl:ks.length=xs.length) (h:DsR K ρ H (kvs.map (·.2)) xs) :
  ∃(ks':List κ) (xs':List V),G0 (ks.zip xs) k' y=ks'.zip xs'/\ks'.length=xs'.length/\(G1 kvs k v).map (λp=>f p.1)=ks'.map some/\DsR K ρ H ((G1 kvs k v).map (·.2)) xs':=by
 unfold G0 G1
 rw [RA f hk e hl]
 by_cases ha:((ks.zip xs).any λkv=>decide (kv.1=k'))=true
 ·rw [if_pos ha,if_pos ha]
  obtain⟨xs',a1,a2,a3,a4⟩:=Mn f hk hv e hl h
  exact⟨ks,xs',a1,a2,a4,a3⟩
 ·rw [if_neg ha,if_neg ha]
  refine⟨ks++[k'],xs++[y],?_,by simp [hl],?_,?_⟩
  ·rw [List.zip_append hl];rfl
  ·rw [WU,WU,e];simp [hf]
  ·rw [WU];exact h.append (.cons hv .nil)
theorem Z0P {k:D}{k':Key}(h:QE k=some k'):∀a x,QE a=some x->kEq a k=decide (x=k'):=λ_ _ e=>Z2a e h
theorem Z3b {k:D}{k':List Key}(h:QV k=some k'):∀a x,QV a=some x->kEq a k=decide (x=k'):=λ_ _ e=>Xm e h
theorem TY {α:Type}{f:D->Option α}{kvs:List (D×D)}{β:Type}{g:D->Option β}{ks:List β}(e:kvs.map (λp=>g p.1)=ks.map some)(h:(kvs.all λp=>(f p.1).isSome)=true)(hd:∀d x,g d=some x->f d=none):kvs=[]:=by
 cases kvs with
 |nil=>rfl
 |cons p r=>
  cases ks with
  |nil=>cases e
  |cons k ks=>
   rw [W1,W1] at e
   injection e with e1 _
   rw [Vf,hd _ _ e1] at h
   simp at h
theorem Uy {d:D}{k:List Key}(e:QV d=some k):QE d=none:=by
 cases d<;>first|rfl|cases e
theorem AK {S:Sto}{n:Nat}{a:Addr}{kvs:List (D×D)}{k:D}{y:V}(R:StR K ρ H S)(ha:ρ[n]? = some a)(e:S[n]? = some (.dct kvs))(hs:Qs kvs k=true)(hk:DR K ρ H k y) :
  (∀v,UH kvs k=some v->∃x,T9 H a y (some x)/\DR K ρ H v x)/\(UH kvs k=none->T9 H a y none):=by
 obtain⟨ob,e1,r⟩:=R.obj ha
 rw [e] at e1
 cases e1
 unfold Qs at hs
 cases h1:QE k with
 |some k'=>
  rw [h1] at hs
  have ey:=BL h1 hk
  rcases r with ⟨ks,xs,q1,q2,q3,q4⟩|⟨ks,xs,q1,q2,q3,q4⟩
  ·obtain⟨g1,g2⟩:=Gy QE (Z0P h1) q3 q4
   refine⟨λv hv=>?_,λhv=>?_⟩
   ·obtain⟨x,x1,x2⟩:=g1 v hv
    exact⟨x,.inl (.inl ⟨_,k',.inl q1,ey,x1.symm⟩),x2⟩
   ·exact .inl (.inl ⟨_,k',.inl q1,ey,(g2 hv).symm⟩)
  ·have hn:=TY q3 hs (λ_ _=>Uy)
   subst hn
   cases ks with
   |nil=>exact⟨λv hv=>(by cases hv),λ_=>.inr (.inr ⟨q1,k',ey,rfl⟩)⟩
   |cons _ _=>cases q3
 |none=>
  rw [h1] at hs
  cases h2:QV k with
  |none=>rw [h2] at hs;cases hs
  |some k'=>
   rw [h2] at hs
   obtain⟨b,ey,eb⟩:=PP h2 hk
   rcases r with ⟨ks,xs,q1,q2,q3,q4⟩|⟨ks,xs,q1,q2,q3,q4⟩
   ·have hn:=TY q3 hs (λ_ _=>Uz)
    subst hn
    cases ks with
    |nil=>exact⟨λv hv=>(by cases hv),λ_=>.inr (.inl ⟨q1,k',b,ey,eb,rfl⟩)⟩
    |cons _ _=>cases q3
   ·obtain⟨g1,g2⟩:=Gy QV (Z3b h2) q3 q4
    refine⟨λv hv=>?_,λhv=>?_⟩
    ·obtain⟨x,x1,x2⟩:=g1 v hv
     exact⟨x,.inl (.inr ⟨_,k',b,.inl q1,ey,eb,x1.symm⟩),x2⟩
    ·exact .inl (.inr ⟨_,k',b,.inl q1,ey,eb,(g2 hv).symm⟩)
theorem M7 {S:Sto}{n:Nat}{a:Addr}{kvs:List (D×D)}{k:D}{y:V}(R:StR K ρ H S)(ha:ρ[n]? = some a)(e:JT S n k=some kvs)(hk:DR K ρ H k y) :
  (∀v,UH kvs k=some v->∃x,T9 H a y (some x)/\DR K ρ H v x)/\(UH kvs k=none->T9 H a y none):=by
 unfold JT at e
 split at e
 ·rename_i kvs' hn
  split at e
  ·rename_i hs
   cases e
   exact AK R ha hn hs hk
  ·cases e
 ·rename_i kvs' hn
  split at e
  ·rename_i hs
   cases e
   obtain⟨ob,e1,r⟩:=R.obj ha
   rw [hn] at e1
   cases e1
   obtain⟨o,ks,xs,q1,q2,q3,q4⟩:=r
   obtain⟨k',h1⟩:=Vw.mp hs
   have ey:=BL h1 hk
   obtain⟨g1,g2⟩:=Gy QE (Z0P h1) q3 q4
   refine⟨λv hv=>?_,λhv=>?_⟩
   ·obtain⟨x,x1,x2⟩:=g1 v hv
    exact⟨x,.inl (.inl ⟨_,k',.inr ⟨o,q1⟩,ey,x1.symm⟩),x2⟩
   ·exact .inl (.inl ⟨_,k',.inr ⟨o,q1⟩,ey,(g2 hv).symm⟩)
  ·cases e
 ·cases e
theorem CD {S:Sto}{n:Nat}{a:Addr}(R:StR K ρ H S)(ha:ρ[n]? = some a)(e:KO S n=true):IsD H a:=by
 unfold KO at e
 obtain⟨ob,e1,r⟩:=R.obj ha
 rw [e1] at e
 cases ob with
 |dct kvs=>
  rcases r with ⟨ks,xs,q,_⟩|⟨ks,xs,q,_⟩
  ·exact .inl ⟨_,.inl q⟩
  ·exact .inr ⟨_,.inl q⟩
 |fdct kvs=>
  obtain⟨o,ks,xs,q,_⟩:=r
  exact .inl ⟨_,.inr ⟨o,q⟩⟩
 |_=>cases e
theorem IL {S:Sto}{n:Nat}{a:Addr}{kvs:List (D×D)}{k v:D}{y x:V}(R:StR K ρ H S)(ha:ρ[n]? = some a)(e:S[n]? = some (.dct kvs))(hs:Qs kvs k=true)(hl:kvs.length<Wk)(hk:DR K ρ H k y)(hv:DR K ρ H v x) :
  ∃H',D6 H a y x H'/\StR K ρ H' (S.set n (.dct (G1 kvs k v)))/\Ext ρ H ρ H':=by
 obtain⟨ob,e1,r⟩:=R.obj ha
 rw [e] at e1
 cases e1
 unfold Qs at hs
 have up:∀{o:HO} {o':HO},H a=some o->(∀xs,o≠.tup xs)->(∀ob u,o≠.frz ob u)->Ext ρ H ρ (upd H a o'):=λh a1 a2=>Ext.upd h a1 a2
 cases h1:QE k with
 |some k'=>
  rw [h1] at hs
  have ey:=BL h1 hk
  rcases r with ⟨ks,xs,q1,q2,q3,q4⟩|⟨ks,xs,q1,q2,q3,q4⟩
  ·obtain⟨ks',xs',z1,z2,z3,z4⟩:=Nq QE h1 (Z0P h1) hv q3 q2 q4
   have len:(ks.zip xs).length<Wk:=by
    have:=congrArg Ve q3
    rw [We,We] at this
    rw [VA];omega
   have E1:Ext ρ H ρ (upd H a (.dK (G0 (ks.zip xs) k' x))):=up q1 (λ_ z=>nomatch z) λ_ _ z=>nomatch z
   obtain⟨R2,E2⟩:=R.set (hf:=λ_ z=>by rw [e] at z;cases z) (o:=.dK (G0 (ks.zip xs) k' x)) (ob:=.dct (G1 kvs k v)) ha (.inl ⟨ks',xs',by rw [Za,z1],z2,z3,z4.up E1⟩)
   exact⟨_,.inl (.inl ⟨_,k',q1,ey,len,rfl⟩),R2,E2⟩
  ·have hn:=TY q3 hs (λ_ _=>Uy)
   subst hn
   have E1:Ext ρ H ρ (upd H a (.dK [(k',x)])):=up q1 (λ_ z=>nomatch z) λ_ _ z=>nomatch z
   cases ks with
   |nil=>
    obtain⟨R2,E2⟩:=R.set (hf:=λ_ z=>by rw [e] at z;cases z) (o:=.dK [(k',x)]) (ob:=.dct (G1 [] k v)) ha (.inl ⟨[k'],[x],by rw [Za];rfl,rfl,by simp [G1,h1],by simp [G1];exact .cons (hv.up E1) .nil⟩)
    exact⟨_,.inr (.inr ⟨q1,k',ey,rfl⟩),R2,E2⟩
   |cons _ _=>cases q3
 |none=>
  rw [h1] at hs
  cases h2:QV k with
  |none=>rw [h2] at hs;cases hs
  |some k'=>
   rw [h2] at hs
   obtain⟨b,ey,eb⟩:=PP h2 hk
   rcases r with ⟨ks,xs,q1,q2,q3,q4⟩|⟨ks,xs,q1,q2,q3,q4⟩
   ·have hn:=TY q3 hs (λ_ _=>Uz)
    subst hn
    have E1:Ext ρ H ρ (upd H a (.dT [(k',x)])):=up q1 (λ_ z=>nomatch z) λ_ _ z=>nomatch z
    cases ks with
    |nil=>
     obtain⟨R2,E2⟩:=R.set (hf:=λ_ z=>by rw [e] at z;cases z) (o:=.dT [(k',x)]) (ob:=.dct (G1 [] k v)) ha (.inr ⟨[k'],[x],by rw [Za];rfl,rfl,by simp [G1,h2],by simp [G1];exact .cons (hv.up E1) .nil⟩)
     exact⟨_,.inr (.inl ⟨q1,k',b,ey,eb,rfl⟩),R2,E2⟩
    |cons _ _=>cases q3
   ·obtain⟨ks',xs',z1,z2,z3,z4⟩:=Nq QV h2 (Z3b h2) hv q3 q2 q4
    have len:(ks.zip xs).length<Wk:=by
     have:=congrArg Ve q3
     rw [We,We] at this
     rw [VA];omega
    have E1:Ext ρ H ρ (upd H a (.dT (G0 (ks.zip xs) k' x))):=up q1 (λ_ z=>nomatch z) λ_ _ z=>nomatch z
    obtain⟨R2,E2⟩:=R.set (hf:=λ_ z=>by rw [e] at z;cases z) (o:=.dT (G0 (ks.zip xs) k' x)) (ob:=.dct (G1 kvs k v)) ha (.inr ⟨ks',xs',by rw [Za,z1],z2,z3,z4.up E1⟩)
    exact⟨_,.inl (.inr ⟨_,k',b,q1,ey,eb,len,rfl⟩),R2,E2⟩
end
end DL
namespace DL
open PySem PySem.Spec PyProof.Rows L2
mutual
def eqD:D->D->Bool
 | .non,b=>match b with | .non=>true|_=>false
 | .bl a,b=>match b with | .bl c=>a == c | .int c=>(if a then 1 else 0) == c|_=>false
 | .int a,b=>match b with | .bl c=>a == (if c then 1 else 0) | .int c=>a == c|_=>false
 | .str a,b=>match b with | .str c=>a == c|_=>false
 | .tup as,b=>match b with | .tup bs=>eqDs as bs|_=>false
 | .ref _,_=>false
 | .scr _,_=>false
def eqDs:List D->List D->Bool
 |[],b=>match b with|[]=>true|_ :: _=>false
 |a :: as,b=>match b with|[]=>false|b :: bs=>eqD a b&&eqDs as bs
end
def pln:Nat->D->Bool
 |_,.non=>true
 |_,.bl _=>true
 |_,.int _=>true
 |_,.str _=>true
 |0,.tup _=>false
 |n+1,.tup ds=>ds.all (pln n)
 |_,.ref _=>false
 |_,.scr _=>false
theorem Jo (as bs:List D):eqD (.tup as) (.tup bs)=eqDs as bs:=by unfold eqD;rfl
theorem QH:∀(as bs:List D),eqDs as bs=((W7 (min as.length bs.length)).all (λj=>eqD (as.getD j .non) (bs.getD j .non))&&as.length == bs.length)
 |[],[]=>by simp [eqDs]
 |[],_ :: _=>by simp [eqDs]
 |_ :: _,[]=>by simp [eqDs]
 |a :: as,b :: bs=>by
  unfold eqDs
  dsimp only
  rw [QH as bs,WX,WX,Nat.succ_min_succ,List.range_succ_eq_map,Vf,VC]
  have h1:((as.length+1) == (bs.length+1))=(as.length == bs.length):=by
   rw [VX];simp
  rw [h1,Bool.and_assoc]
  rfl
mutual
theorem YW:∀(n:Nat) (d:D),pln n d=true->eqD d d=true
 |_,.non,_=>by unfold eqD;rfl
 |_,.bl b,_=>by unfold eqD;simp
 |_,.int i,_=>by unfold eqD;simp
 |_,.str x,_=>by unfold eqD;simp
 |0,.tup _,h=>by cases h
 |n+1,.tup ds,h=>by unfold eqD;exact eqDs_refl n ds (by unfold pln at h;exact h)
 |n,.ref _,h=>by cases n<;>cases h
 |n,.scr _,h=>by cases n<;>cases h
theorem eqDs_refl:∀(n:Nat) (ds:List D),ds.all (pln n)=true->eqDs ds ds=true
 |_,[],_=>by unfold eqDs;rfl
 |n,d :: ds,h=>by
  rw [Vf,Wl] at h
  unfold eqDs
  dsimp only
  rw [YW n d h.1,eqDs_refl n ds h.2];rfl
end
section
variable {K:Wd} {ρ ρ':List Addr} {H:Hp}
mutual
theorem DR.one:∀(n:Nat) (d d':D) (x:V),pln n d=true->pln n d'=true->DR K ρ H d x->DR K ρ' H d' x->d=d'
 |n,d,d',x,p,p',h,h'=>by
  cases d with
  |non=>
   rw [h.of_non] at h'
   cases d' with
   |non=>rfl
   |bl _=>cases h'.of_bl
   |int _=>cases h'.of_int
   |str _=>cases h'.of_str
   |tup _=>obtain⟨_,_,z,_⟩:=h'.of_tup;cases z
   |ref _=>cases n<;>cases p'
   |scr _=>cases n<;>cases p'
  |bl b=>
   rw [h.of_bl] at h'
   cases d' with
   |non=>cases h'.of_non
   |bl _=>cases h'.of_bl;rfl
   |int _=>cases h'.of_int
   |str _=>cases h'.of_str
   |tup _=>obtain⟨_,_,z,_⟩:=h'.of_tup;cases z
   |ref _=>cases n<;>cases p'
   |scr _=>cases n<;>cases p'
  |int b=>
   rw [h.of_int] at h'
   cases d' with
   |non=>cases h'.of_non
   |bl _=>cases h'.of_bl
   |int _=>cases h'.of_int;rfl
   |str _=>cases h'.of_str
   |tup _=>obtain⟨_,_,z,_⟩:=h'.of_tup;cases z
   |ref _=>cases n<;>cases p'
   |scr _=>cases n<;>cases p'
  |str b=>
   rw [h.of_str] at h'
   cases d' with
   |non=>cases h'.of_non
   |bl _=>cases h'.of_bl
   |int _=>cases h'.of_int
   |str _=>cases h'.of_str;rfl
   |tup _=>obtain⟨_,_,z,_⟩:=h'.of_tup;cases z
   |ref _=>cases n<;>cases p'
   |scr _=>cases n<;>cases p'
  |tup ds=>
   obtain⟨a,xs,rfl,h1,h2⟩:=h.of_tup
   cases d' with
   |non=>cases h'.of_non
   |bl _=>cases h'.of_bl
   |int _=>cases h'.of_int
   |str _=>cases h'.of_str
   |tup es=>
    obtain⟨a',xs',z,h3,h4⟩:=h'.of_tup
    cases z
    rw [h1] at h3
    cases h3
    cases n with
    |zero=>cases p
    |succ n=>
     unfold pln at p p'
     rw [DsR.one n ds es xs p p' h2 h4]
   |ref _=>cases n<;>cases p'
   |scr _=>cases n<;>cases p'
  |ref _=>cases n<;>cases p
  |scr _=>cases n<;>cases p
termination_by n=>(n,0)
theorem DsR.one:∀(n:Nat) (ds ds':List D) (xs:List V),ds.all (pln n)=true->ds'.all (pln n)=true->DsR K ρ H ds xs->DsR K ρ' H ds' xs->ds=ds'
 |n,[],ds',xs,_,_,h,h'=>by
  unfold DsR at h
  subst h
  cases ds' with
  |nil=>rfl
  |cons _ _=>unfold DsR at h';obtain⟨_,_,z,_⟩:=h';cases z
 |n,d :: ds,ds',xs,p,p',h,h'=>by
  unfold DsR at h
  obtain⟨x,r,rfl,h1,h2⟩:=h
  cases ds' with
  |nil=>unfold DsR at h';cases h'
  |cons d' ds'=>
   unfold DsR at h'
   obtain⟨x',r',z,h3,h4⟩:=h'
   cases z
   rw [Vf,Wl] at p p'
   rw [DR.one n d d' x p.1 p'.1 h1 h3,DsR.one n ds ds' r p.2 p'.2 h2 h4]
termination_by n ds=>(n,ds.length+1)
end
end
section
variable {X:Cx} {pins:List (Addr×Obj)} {σ:L2.St} {H:Hp} {s:Shared} {ρ:List Addr} (I:Inv X pins σ H s)
theorem in1_units {A:Around}:A.in1.units=A.units+1:=rfl
include I in
theorem Gp:∀(n:Nat) {A:Around} {d1 d2:D} {x y:V} {u v:Value},A.units+n<cLine->pln n d1=true->pln n d2=true->DR X.K ρ H d1 x->DR X.K ρ H d2 y->ZL x u->ZL y v->V5 A s u v (eqD d1 d2):=by
 intro n A d1 d2 x y u v hu p1 p2 h1 h2 ru rv
 cases d1 with
 |non=>
  rw [h1.of_non] at ru
  cases ru
  cases d2 with
  |non=>rw [h2.of_non] at rv;cases rv;exact V5.same _
  |bl c=>rw [h2.of_bl] at rv;cases rv;exact V5.none_bool c
  |int c=>rw [h2.of_int] at rv;obtain⟨t',rfl⟩:=rv;exact V5.none_int c t'
  |str c=>rw [h2.of_str] at rv;obtain⟨t',rfl⟩:=rv;exact V5.none_str c t'
  |tup bs=>
   obtain⟨b,ys,rfl,b1,b2⟩:=h2.of_tup
   cases rv
   obtain⟨its,_,pl,_⟩:=I.tuple (.of b1)
   exact V5.none_tuple pl (by omega)
  |ref _=>cases n<;>cases p2
  |scr _=>cases n<;>cases p2
 |bl a=>
  rw [h1.of_bl] at ru
  cases ru
  cases d2 with
  |non=>rw [h2.of_non] at rv;cases rv;exact V5.bool_none a
  |bl c=>rw [h2.of_bl] at rv;cases rv;exact V5.bool_bool a c
  |int c=>rw [h2.of_int] at rv;obtain⟨t',rfl⟩:=rv;exact V5.bool_int a c t'
  |str c=>rw [h2.of_str] at rv;obtain⟨t',rfl⟩:=rv;exact V5.bool_str a c t'
  |tup bs=>
   obtain⟨b,ys,rfl,b1,b2⟩:=h2.of_tup
   cases rv
   obtain⟨its,_,pl,_⟩:=I.tuple (.of b1)
   exact V5.bool_tuple a pl (by omega)
  |ref _=>cases n<;>cases p2
  |scr _=>cases n<;>cases p2
 |int a=>
  rw [h1.of_int] at ru
  obtain⟨t,rfl⟩:=ru
  cases d2 with
  |non=>rw [h2.of_non] at rv;cases rv;exact V5.int_none a t
  |bl c=>rw [h2.of_bl] at rv;cases rv;exact V5.int_bool a t c
  |int c=>rw [h2.of_int] at rv;obtain⟨t',rfl⟩:=rv;exact W2l a t c t'
  |str c=>rw [h2.of_str] at rv;obtain⟨t',rfl⟩:=rv;exact W1o a t c t'
  |tup bs=>
   obtain⟨b,ys,rfl,b1,b2⟩:=h2.of_tup
   cases rv
   obtain⟨its,_,pl,_⟩:=I.tuple (.of b1)
   exact V5.int_tuple a t pl (by omega)
  |ref _=>cases n<;>cases p2
  |scr _=>cases n<;>cases p2
 |str a=>
  rw [h1.of_str] at ru
  obtain⟨t,rfl⟩:=ru
  cases d2 with
  |non=>rw [h2.of_non] at rv;cases rv;exact V5.str_none a t
  |bl c=>rw [h2.of_bl] at rv;cases rv;exact V5.str_bool a t c
  |int c=>rw [h2.of_int] at rv;obtain⟨t',rfl⟩:=rv;exact W1p a t c t'
  |str c=>rw [h2.of_str] at rv;obtain⟨t',rfl⟩:=rv;exact W2m a t c t'
  |tup bs=>
   obtain⟨b,ys,rfl,b1,b2⟩:=h2.of_tup
   cases rv
   obtain⟨its,_,pl,_⟩:=I.tuple (.of b1)
   exact V5.str_tuple a t pl (by omega)
  |ref _=>cases n<;>cases p2
  |scr _=>cases n<;>cases p2
 |tup as=>
  obtain⟨a,xs,rfl,a1,a2⟩:=h1.of_tup
  cases ru
  cases d2 with
  |non=>
   rw [h2.of_non] at rv
   cases rv
   obtain⟨its,_,pl,_⟩:=I.tuple (.of a1)
   exact V5.tuple_none pl (by omega)
  |bl c=>
   rw [h2.of_bl] at rv
   cases rv
   obtain⟨its,_,pl,_⟩:=I.tuple (.of a1)
   exact V5.tuple_bool c pl (by omega)
  |int c=>
   rw [h2.of_int] at rv
   obtain⟨t',rfl⟩:=rv
   obtain⟨its,_,pl,_⟩:=I.tuple (.of a1)
   exact V5.tuple_int c t' pl (by omega)
  |str c=>
   rw [h2.of_str] at rv
   obtain⟨t',rfl⟩:=rv
   obtain⟨its,_,pl,_⟩:=I.tuple (.of a1)
   exact V5.tuple_str c t' pl (by omega)
  |tup bs=>
   obtain⟨b,ys,rfl,b1,b2⟩:=h2.of_tup
   cases rv
   cases n with
   |zero=>cases p1
   |succ n=>
    unfold pln at p1 p2
    obtain⟨its,r1,pl1,_⟩:=I.tuple (.of a1)
    obtain⟨its2,r2,pl2,_⟩:=I.tuple (.of b1)
    have he:eqD (.tup as) (.tup bs)=((W7 (min its.toArray.size its2.toArray.size)).all (λj=>eqD (as.getD j .non) (bs.getD j .non))&&its.toArray.size == its2.toArray.size):=by
     rw [Jo,QH,Wn,Wn,←r1.length,←r2.length,←a2.length,←b2.length]
    have hj:∀j (h1:j<its.toArray.size) (h2:j<its2.toArray.size),V5 A.in1 s its.toArray[j] its2.toArray[j] (eqD (as.getD j .non) (bs.getD j .non)):=by
     intro j j1 j2
     rw [Wn] at j1 j2
     have l1:j<as.length:=by rw [a2.length,r1.length];exact j1
     have l2:j<bs.length:=by rw [b2.length,r2.length];exact j2
     have g1:as[j]? = some (as.getD j .non):=by simp [W0h,Wm l1]
     have g2:bs[j]? = some (bs.getD j .non):=by simp [W0h,Wm l2]
     obtain⟨x,x1,x2⟩:=a2.get g1
     obtain⟨y,y1,y2⟩:=b2.get g2
     obtain⟨u,u1,u2⟩:=r1.get x1
     obtain⟨v,v1,v2⟩:=r2.get y1
     have e1:its.toArray[j]=u:=by rw [Wm j1] at u1;simpa using u1
     have e2:its2.toArray[j]=v:=by rw [Wm j2] at v1;simpa using v1
     rw [e1,e2]
     exact Gp n (by rw [in1_units];omega) (Wq.mp p1 _ (V4 g1)) (Wq.mp p2 _ (V4 g2)) x2 y2 u2 v2
    by_cases hab:a=b
    ·subst hab
     have hsame:as=bs:=by
      rw [a1] at b1
      cases b1
      exact DsR.one n as bs xs p1 p2 a2 b2
     rw [hsame,YW (n+1) (.tup bs) (by unfold pln;exact p2)]
     exact V5.same _
    ·rw [he]
     exact V5.of_refs hab (W2z pl1 pl2 (by omega) hj)
  |ref _=>cases n<;>cases p2
  |scr _=>cases n<;>cases p2
 |ref _=>cases n<;>cases p1
 |scr _=>cases n<;>cases p1
include I in
theorem DN:∀(n:Nat) {A:Around} {d1 d2:D} {x y:V} {u v:Value},A.units+n<cLine->pln n d1=true->pln n d2=true->DR X.K ρ H d1 x->DR X.K ρ H d2 y->ZL x u->ZL y v->Vu A s u v (eqD d1 d2):=by
 intro n A d1 d2 x y u v hu p1 p2 h1 h2 ru rv
 cases d1 with
 |non=>
  rw [h1.of_non] at ru
  cases ru
  cases d2 with
  |non=>rw [h2.of_non] at rv;cases rv;exact Vu.none_none
  |bl c=>rw [h2.of_bl] at rv;cases rv;exact Vu.none_bool c
  |int c=>rw [h2.of_int] at rv;obtain⟨t',rfl⟩:=rv;exact Vu.none_int c t'
  |str c=>rw [h2.of_str] at rv;obtain⟨t',rfl⟩:=rv;exact Vu.none_str c t'
  |tup bs=>
   obtain⟨b,ys,rfl,b1,b2⟩:=h2.of_tup
   cases rv
   obtain⟨its,_,pl,_⟩:=I.tuple (.of b1)
   exact Vu.none_tuple pl (by omega)
  |ref _=>cases n<;>cases p2
  |scr _=>cases n<;>cases p2
 |bl a=>
  rw [h1.of_bl] at ru
  cases ru
  cases d2 with
  |non=>rw [h2.of_non] at rv;cases rv;exact Vu.bool_none a
  |bl c=>rw [h2.of_bl] at rv;cases rv;exact Vu.bool_bool a c
  |int c=>rw [h2.of_int] at rv;obtain⟨t',rfl⟩:=rv;exact Vu.bool_int a c t'
  |str c=>rw [h2.of_str] at rv;obtain⟨t',rfl⟩:=rv;exact Vu.bool_str a c t'
  |tup bs=>
   obtain⟨b,ys,rfl,b1,b2⟩:=h2.of_tup
   cases rv
   obtain⟨its,_,pl,_⟩:=I.tuple (.of b1)
   exact Vu.bool_tuple a pl (by omega)
  |ref _=>cases n<;>cases p2
  |scr _=>cases n<;>cases p2
 |int a=>
  rw [h1.of_int] at ru
  obtain⟨t,rfl⟩:=ru
  cases d2 with
  |non=>rw [h2.of_non] at rv;cases rv;exact Vu.int_none a t
  |bl c=>rw [h2.of_bl] at rv;cases rv;exact Vu.int_bool a t c
  |int c=>rw [h2.of_int] at rv;obtain⟨t',rfl⟩:=rv;exact Vu.int_int a t c t'
  |str c=>rw [h2.of_str] at rv;obtain⟨t',rfl⟩:=rv;exact Vu.int_str a t c t'
  |tup bs=>
   obtain⟨b,ys,rfl,b1,b2⟩:=h2.of_tup
   cases rv
   obtain⟨its,_,pl,_⟩:=I.tuple (.of b1)
   exact Vu.int_tuple a t pl (by omega)
  |ref _=>cases n<;>cases p2
  |scr _=>cases n<;>cases p2
 |str a=>
  rw [h1.of_str] at ru
  obtain⟨t,rfl⟩:=ru
  cases d2 with
  |non=>rw [h2.of_non] at rv;cases rv;exact Vu.str_none a t
  |bl c=>rw [h2.of_bl] at rv;cases rv;exact Vu.str_bool a t c
  |int c=>rw [h2.of_int] at rv;obtain⟨t',rfl⟩:=rv;exact Vu.str_int a t c t'
  |str c=>rw [h2.of_str] at rv;obtain⟨t',rfl⟩:=rv;exact Vu.str_str a t c t'
  |tup bs=>
   obtain⟨b,ys,rfl,b1,b2⟩:=h2.of_tup
   cases rv
   obtain⟨its,_,pl,_⟩:=I.tuple (.of b1)
   exact Vu.str_tuple a t pl (by omega)
  |ref _=>cases n<;>cases p2
  |scr _=>cases n<;>cases p2
 |tup as=>
  obtain⟨a,xs,rfl,a1,a2⟩:=h1.of_tup
  cases ru
  cases d2 with
  |non=>
   rw [h2.of_non] at rv
   cases rv
   obtain⟨its,_,pl,_⟩:=I.tuple (.of a1)
   exact Vu.tuple_none pl (by omega)
  |bl c=>
   rw [h2.of_bl] at rv
   cases rv
   obtain⟨its,_,pl,_⟩:=I.tuple (.of a1)
   exact Vu.tuple_bool c pl (by omega)
  |int c=>
   rw [h2.of_int] at rv
   obtain⟨t',rfl⟩:=rv
   obtain⟨its,_,pl,_⟩:=I.tuple (.of a1)
   exact Vu.tuple_int c t' pl (by omega)
  |str c=>
   rw [h2.of_str] at rv
   obtain⟨t',rfl⟩:=rv
   obtain⟨its,_,pl,_⟩:=I.tuple (.of a1)
   exact Vu.tuple_str c t' pl (by omega)
  |tup bs=>
   obtain⟨b,ys,rfl,b1,b2⟩:=h2.of_tup
   cases rv
   cases n with
   |zero=>cases p1
   |succ n=>
    unfold pln at p1 p2
    obtain⟨its,r1,pl1,_⟩:=I.tuple (.of a1)
    obtain⟨its2,r2,pl2,_⟩:=I.tuple (.of b1)
    have he:eqD (.tup as) (.tup bs)=((W7 (min its.toArray.size its2.toArray.size)).all (λj=>eqD (as.getD j .non) (bs.getD j .non))&&its.toArray.size == its2.toArray.size):=by
     rw [Jo,QH,Wn,Wn,←r1.length,←r2.length,←a2.length,←b2.length]
    have hj:∀j (h1:j<its.toArray.size) (h2:j<its2.toArray.size),V5 A.in1 s its.toArray[j] its2.toArray[j] (eqD (as.getD j .non) (bs.getD j .non)):=by
     intro j j1 j2
     rw [Wn] at j1 j2
     have l1:j<as.length:=by rw [a2.length,r1.length];exact j1
     have l2:j<bs.length:=by rw [b2.length,r2.length];exact j2
     have g1:as[j]? = some (as.getD j .non):=by simp [W0h,Wm l1]
     have g2:bs[j]? = some (bs.getD j .non):=by simp [W0h,Wm l2]
     obtain⟨x,x1,x2⟩:=a2.get g1
     obtain⟨y,y1,y2⟩:=b2.get g2
     obtain⟨u,u1,u2⟩:=r1.get x1
     obtain⟨v,v1,v2⟩:=r2.get y1
     have e1:its.toArray[j]=u:=by rw [Wm j1] at u1;simpa using u1
     have e2:its2.toArray[j]=v:=by rw [Wm j2] at v1;simpa using v1
     rw [e1,e2]
     exact Gp I n (by rw [in1_units];omega) (Wq.mp p1 _ (V4 g1)) (Wq.mp p2 _ (V4 g2)) x2 y2 u2 v2
    rw [he]
    exact W2z pl1 pl2 (by omega) hj
  |ref _=>cases n<;>cases p2
  |scr _=>cases n<;>cases p2
 |ref _=>cases n<;>cases p1
 |scr _=>cases n<;>cases p1
include I in
theorem DM:∀(n:Nat) {A:Around} {d1 d2:D} {x y:V} {u v:Value},A.units+n<cLine->pln n d1=true->pln n d2=true->DR X.K ρ H d1 x->DR X.K ρ H d2 y->ZL x u->ZL y v->V6 A s u v (!eqD d1 d2):=by
 intro n A d1 d2 x y u v hu p1 p2 h1 h2 ru rv
 cases d1 with
 |non=>
  rw [h1.of_non] at ru
  cases ru
  cases d2 with
  |non=>rw [h2.of_non] at rv;cases rv;exact V6.none_none
  |bl c=>rw [h2.of_bl] at rv;cases rv;exact V6.none_bool c
  |int c=>rw [h2.of_int] at rv;obtain⟨t',rfl⟩:=rv;exact V6.none_int c t'
  |str c=>rw [h2.of_str] at rv;obtain⟨t',rfl⟩:=rv;exact V6.none_str c t'
  |tup bs=>
   obtain⟨b,ys,rfl,b1,b2⟩:=h2.of_tup
   cases rv
   obtain⟨its,_,pl,_⟩:=I.tuple (.of b1)
   exact V6.none_tuple pl (by omega)
  |ref _=>cases n<;>cases p2
  |scr _=>cases n<;>cases p2
 |bl a=>
  rw [h1.of_bl] at ru
  cases ru
  cases d2 with
  |non=>rw [h2.of_non] at rv;cases rv;exact V6.bool_none a
  |bl c=>rw [h2.of_bl] at rv;cases rv;exact V6.bool_bool a c
  |int c=>rw [h2.of_int] at rv;obtain⟨t',rfl⟩:=rv;exact V6.bool_int a c t'
  |str c=>rw [h2.of_str] at rv;obtain⟨t',rfl⟩:=rv;exact V6.bool_str a c t'
  |tup bs=>
   obtain⟨b,ys,rfl,b1,b2⟩:=h2.of_tup
   cases rv
   obtain⟨its,_,pl,_⟩:=I.tuple (.of b1)
   exact V6.bool_tuple a pl (by omega)
  |ref _=>cases n<;>cases p2
  |scr _=>cases n<;>cases p2
 |int a=>
  rw [h1.of_int] at ru
  obtain⟨t,rfl⟩:=ru
  cases d2 with
  |non=>rw [h2.of_non] at rv;cases rv;exact V6.int_none a t
  |bl c=>rw [h2.of_bl] at rv;cases rv;exact V6.int_bool a t c
  |int c=>rw [h2.of_int] at rv;obtain⟨t',rfl⟩:=rv;exact V6.int_int a t c t'
  |str c=>rw [h2.of_str] at rv;obtain⟨t',rfl⟩:=rv;exact V6.int_str a t c t'
  |tup bs=>
   obtain⟨b,ys,rfl,b1,b2⟩:=h2.of_tup
   cases rv
   obtain⟨its,_,pl,_⟩:=I.tuple (.of b1)
   exact V6.int_tuple a t pl (by omega)
  |ref _=>cases n<;>cases p2
  |scr _=>cases n<;>cases p2
 |str a=>
  rw [h1.of_str] at ru
  obtain⟨t,rfl⟩:=ru
  cases d2 with
  |non=>rw [h2.of_non] at rv;cases rv;exact V6.str_none a t
  |bl c=>rw [h2.of_bl] at rv;cases rv;exact V6.str_bool a t c
  |int c=>rw [h2.of_int] at rv;obtain⟨t',rfl⟩:=rv;exact V6.str_int a t c t'
  |str c=>rw [h2.of_str] at rv;obtain⟨t',rfl⟩:=rv;exact V6.str_str a t c t'
  |tup bs=>
   obtain⟨b,ys,rfl,b1,b2⟩:=h2.of_tup
   cases rv
   obtain⟨its,_,pl,_⟩:=I.tuple (.of b1)
   exact V6.str_tuple a t pl (by omega)
  |ref _=>cases n<;>cases p2
  |scr _=>cases n<;>cases p2
 |tup as=>
  obtain⟨a,xs,rfl,a1,a2⟩:=h1.of_tup
  cases ru
  cases d2 with
  |non=>
   rw [h2.of_non] at rv
   cases rv
   obtain⟨its,_,pl,_⟩:=I.tuple (.of a1)
   exact V6.tuple_none pl (by omega)
  |bl c=>
   rw [h2.of_bl] at rv
   cases rv
   obtain⟨its,_,pl,_⟩:=I.tuple (.of a1)
   exact V6.tuple_bool c pl (by omega)
  |int c=>
   rw [h2.of_int] at rv
   obtain⟨t',rfl⟩:=rv
   obtain⟨its,_,pl,_⟩:=I.tuple (.of a1)
   exact V6.tuple_int c t' pl (by omega)
  |str c=>
   rw [h2.of_str] at rv
   obtain⟨t',rfl⟩:=rv
   obtain⟨its,_,pl,_⟩:=I.tuple (.of a1)
   exact V6.tuple_str c t' pl (by omega)
  |tup bs=>
   obtain⟨b,ys,rfl,b1,b2⟩:=h2.of_tup
   cases rv
   cases n with
   |zero=>cases p1
   |succ n=>
    unfold pln at p1 p2
    obtain⟨its,r1,pl1,_⟩:=I.tuple (.of a1)
    obtain⟨its2,r2,pl2,_⟩:=I.tuple (.of b1)
    have he:eqD (.tup as) (.tup bs)=((W7 (min its.toArray.size its2.toArray.size)).all (λj=>eqD (as.getD j .non) (bs.getD j .non))&&its.toArray.size == its2.toArray.size):=by
     rw [Jo,QH,Wn,Wn,←r1.length,←r2.length,←a2.length,←b2.length]
    have hj:∀j (h1:j<its.toArray.size) (h2:j<its2.toArray.size),V5 A.in1 s its.toArray[j] its2.toArray[j] (eqD (as.getD j .non) (bs.getD j .non)):=by
     intro j j1 j2
     rw [Wn] at j1 j2
     have l1:j<as.length:=by rw [a2.length,r1.length];exact j1
     have l2:j<bs.length:=by rw [b2.length,r2.length];exact j2
     have g1:as[j]? = some (as.getD j .non):=by simp [W0h,Wm l1]
     have g2:bs[j]? = some (bs.getD j .non):=by simp [W0h,Wm l2]
     obtain⟨x,x1,x2⟩:=a2.get g1
     obtain⟨y,y1,y2⟩:=b2.get g2
     obtain⟨u,u1,u2⟩:=r1.get x1
     obtain⟨v,v1,v2⟩:=r2.get y1
     have e1:its.toArray[j]=u:=by rw [Wm j1] at u1;simpa using u1
     have e2:its2.toArray[j]=v:=by rw [Wm j2] at v1;simpa using v1
     rw [e1,e2]
     exact Gp I n (by rw [in1_units];omega) (Wq.mp p1 _ (V4 g1)) (Wq.mp p2 _ (V4 g2)) x2 y2 u2 v2
    rw [he]
    exact V6.tuples pl1 pl2 (by omega) hj
  |ref _=>cases n<;>cases p2
  |scr _=>cases n<;>cases p2
 |ref _=>cases n<;>cases p1
 |scr _=>cases n<;>cases p1
end
end DL
namespace DL
open PySem PySem.Spec PyProof.Rows L2
def D4 (A:Around)(s:Shared)(y x:Value)(b:Bool):Prop:=
 ∀(prog:Program) (w:World) (E:Value->Shared->Prop) (Q:Value->Shared->Prop),Q (.bool b) s->wpAny (model prog w) A (compareOp .Lt y x) Q E s
def NV:List (Bool×Bool)->Bool->Bool
 |[],fin=>fin
 |p :: r,fin=>if p.1=true then NV r fin else p.2
section
open PySem.SeqAt
open PySem.AutoSeq1 (wpAny_loadPart')
open PySem.MeetsSeq PySem.MeetsSeq2 PySem.MeetsSeq3
def Gv (A:Around)(s:Shared)(q:Value×Value)(p:Bool×Bool):Prop:=EqAt A s q.1 q.2 p.1/\(p.1=false->D4 A s q.1 q.2 p.2)
theorem Kk (l b:Addr)(items items2:Array Value)(n n2:Nat)(dd dd2:Option Addr)(sl sl2:Array (Option Value))(ps:List (Bool×Bool)) :
  Meets (Builtin.«tuple.__lt__» ⟨[.ref l,.ref b],[]⟩)
   (λA R s=>s.heap.get? l=some { cls:=.type "tuple",dict:=dd,data:=.seq items n,slots:=sl }/\s.heap.get? b=some { cls:=.type "tuple",dict:=dd2,data:=.seq items2 n2,slots:=sl2 }/\
    Paired (Gv A.in1 s) (items.toList.zip items2.toList) ps/\R (.ok (.ret (.bool (NV ps (decide (items.size<items2.size)))))) s):=
 .of_wp λprog w A R s h=>by
  obtain⟨hp,g,d,tk,os⟩:=s;obtain⟨hl,hb,hps,h⟩:=h
  have f2:=AutoSeq1.sub_tuple_tuple
  wp_walk using wpAny_loadPart' hl,wpAny_loadPart' hb,W0P _ (λQN b s'=>b.1=none/\s'=⟨hp,g,d,tk,os⟩/\∃(qs:List (Bool×Bool)),Paired (Gv A.in1 ⟨hp,g,d,tk,os⟩) QN qs/\
   R (.ok (.ret (.bool (NV qs (decide (items.size<items2.size)))))) ⟨hp,g,d,tk,os⟩) _
  case turn=>
   rintro⟨y,x⟩ QN b s' ⟨hb',rfl,qs,hq,hR⟩
   cases hq with
   | @cons _ p _ qs' hp1 hq'=>
    obtain⟨he,hlt⟩:=hp1
    refine W0 (he prog w _ _ ?_)
    obtain⟨pe,pl⟩:=p
    unfold NV at hR
    cases pe with
    |true=>
     rw [if_pos rfl] at hR
     wp_walk
     exact⟨rfl,rfl,qs',hq',hR⟩
    |false=>
     rw [if_neg Wu] at hR
     have hri:∀(E:Value->Shared->Prop) (Q:Value->Shared->Prop),Q (.bool pl) ⟨hp,g,d,tk,os⟩->wpAny (model prog w) A.in1 (richCompare .Lt y x) Q E ⟨hp,g,d,tk,os⟩:=hlt rfl prog w
     wp_walk using hri
     exact⟨_,rfl,by simpa using hR⟩
  case fin=>
   rintro⟨b1,b2⟩ s' ⟨hb',rfl,qs,hq,hR⟩
   simp only at hb'
   subst hb'
   cases hq
   unfold NV at hR
   wp_walk
   exact⟨_,rfl,by simpa [Builtin.Tuple.tupleCompareSizes] using hR⟩
  case h=>
   exact⟨rfl,rfl,ps,hps,h⟩
theorem D4.tuples {A:Around}{s:Shared}{l b:Addr}{items items2:Array Value}{ps:List (Bool×Bool)}(hl:s.heap.IsTuple l items)(hb:s.heap.IsTuple b items2)(hu:A.units<cLine)(hp:Paired (Gv A.in1 s) (items.toList.zip items2.toList) ps) :
  D4 A s (.ref l) (.ref b) (NV ps (decide (items.size<items2.size))):=λprog w E Q h=>by
 obtain⟨⟨cls,dd,data,sl⟩,ho,hc,n,hd⟩:=id hl
 obtain⟨⟨cls2,dd2,data2,sl2⟩,ho2,hc2,n2,hd2⟩:=id hb
 simp only at hc hd hc2 hd2
 subst hc hd hc2 hd2
 exact richCompare_meets_room (op:=.Lt) ⟨_,ho,rfl⟩ ⟨_,ho2,rfl⟩ PySem.F.slot_tuple_lt PySem.F.entry_tuple_lt (PySem.F.args_tuple_lt_2 _ _) (Kk l b items items2 n n2 dd dd2 sl sl2 ps)
  ⟨ho,ho2,hp,show Value.bool (NV ps (decide (items.size<items2.size)))≠Value.notImplemented/\Q (.bool (NV ps (decide (items.size<items2.size)))) s from ⟨(λx=>nomatch x),h⟩⟩ hu
end
mutual
def ltD:D->D->Bool
 | .int a,b=>match b with | .int c=>decide (a<c)|_=>false
 | .str a,b=>match b with | .str c=>decide (a.cps.toList<c.cps.toList)|_=>false
 | .tup as,b=>match b with | .tup bs=>ltDs as bs|_=>false
 | .non,_=>false
 | .bl _,_=>false
 | .ref _,_=>false
 | .scr _,_=>false
def ltDs:List D->List D->Bool
 |[],b=>match b with|[]=>false|_ :: _=>true
 |a :: as,b=>match b with|[]=>false|b :: bs=>if eqD a b=true then ltDs as bs else ltD a b
end
def Qh:Nat->D->D->Bool
 |_,.int _,.int _=>true
 |_,.str _,.str _=>true
 |n+1,.tup as,.tup bs=>(as.zip bs).all λp=>Qh n p.1 p.2
 |_,_,_=>false
theorem QT (as bs:List D):ltD (.tup as) (.tup bs)=ltDs as bs:=by unfold ltD;rfl
theorem YH (a b:D)(as bs:List D):ltDs (a :: as) (b :: bs)=if eqD a b=true then ltDs as bs else ltD a b:=by conv=>lhs;unfold ltDs
theorem GS:∀(as bs:List D),ltDs as bs=NV ((as.zip bs).map λp=>(eqD p.1 p.2,ltD p.1 p.2)) (decide (as.length<bs.length))
 |[],[]=>by simp [ltDs,NV]
 |[],_ :: _=>by simp [ltDs,NV]
 |_ :: _,[]=>by simp [ltDs,NV]
 |a :: as,b :: bs=>by
  rw [YH,GS as bs,WR,W1,WX,WX]
  conv=>rhs;unfold NV
  have:decide (as.length+1<bs.length+1)=decide (as.length<bs.length):=by
   rw [VX];simp
  rw [this]
section
variable {X:Cx} {pins:List (Addr×Obj)} {σ:L2.St} {H:Hp} {s:Shared} {ρ:List Addr} (I:Inv X pins σ H s)
include I in
theorem Et:∀(n:Nat) {A:Around} {d1 d2:D} {x y:V} {u v:Value},A.units+n<cLine->Qh n d1 d2=true->pln n d1=true->pln n d2=true->DR X.K ρ H d1 x->DR X.K ρ H d2 y->ZL x u->ZL y v->D4 A s u v (ltD d1 d2):=by
 intro n
 induction n with
 |zero=>
  intro A d1 d2 x y u v hu hc p1 p2 h1 h2 ru rv
  cases d1 with
  |int a=>
   cases d2 with
   |int c=>
    rw [h1.of_int] at ru;rw [h2.of_int] at rv
    obtain⟨t,rfl⟩:=ru;obtain⟨t',rfl⟩:=rv
    exact λprog w E Q h=>lt_int (by unfold ltD at h;exact h)
   |_=>cases hc
  |str a=>
   cases d2 with
   |str c=>
    rw [h1.of_str] at ru;rw [h2.of_str] at rv
    obtain⟨t,rfl⟩:=ru;obtain⟨t',rfl⟩:=rv
    exact λprog w E Q h=>PySem.P.lt_str (by unfold ltD at h;exact h)
   |_=>cases hc
  |tup _=>cases p1
  |_=>cases hc
 |succ n ih=>
  intro A d1 d2 x y u v hu hc p1 p2 h1 h2 ru rv
  cases d1 with
  |int a=>
   cases d2 with
   |int c=>
    rw [h1.of_int] at ru;rw [h2.of_int] at rv
    obtain⟨t,rfl⟩:=ru;obtain⟨t',rfl⟩:=rv
    exact λprog w E Q h=>lt_int (by unfold ltD at h;exact h)
   |_=>cases hc
  |str a=>
   cases d2 with
   |str c=>
    rw [h1.of_str] at ru;rw [h2.of_str] at rv
    obtain⟨t,rfl⟩:=ru;obtain⟨t',rfl⟩:=rv
    exact λprog w E Q h=>PySem.P.lt_str (by unfold ltD at h;exact h)
   |_=>cases hc
  |tup as=>
   cases d2 with
   |tup bs=>
    obtain⟨a,xs,rfl,a1,a2⟩:=h1.of_tup
    obtain⟨b,ys,rfl,b1,b2⟩:=h2.of_tup
    cases ru
    cases rv
    unfold pln at p1 p2
    unfold Qh at hc
    obtain⟨its,r1,pl1,_⟩:=I.tuple (.of a1)
    obtain⟨its2,r2,pl2,_⟩:=I.tuple (.of b1)
    have key:∀{as bs:List D} {xs ys:List V} {its its2:List Value},as.all (pln n)=true->bs.all (pln n)=true->((as.zip bs).all λp=>Qh n p.1 p.2)=true->DsR X.K ρ H as xs->DsR X.K ρ H bs ys->Y1 xs its->Y1 ys its2->
      Paired (Gv A.in1 s) (its.zip its2) ((as.zip bs).map λp=>(eqD p.1 p.2,ltD p.1 p.2)):=by
     intro as
     induction as with
     |nil=>
      intro bs xs ys its its2 _ _ _ q1 _ q3 _
      unfold DsR at q1
      subst q1
      cases q3
      exact .nil
     |cons d as ih2=>
      intro bs xs ys its its2 z1 z2 z3 q1 q2 q3 q4
      unfold DsR at q1
      obtain⟨x,r,rfl,h1,h2⟩:=q1
      cases q3 with
      |cons r1 r2=>
       cases bs with
       |nil=>
        unfold DsR at q2
        subst q2
        cases q4
        exact .nil
       |cons e bs=>
        unfold DsR at q2
        obtain⟨y,r',rfl,h3,h4⟩:=q2
        cases q4 with
        |cons r3 r4=>
         rw [Vf,Wl] at z1 z2
         rw [WR,Vf,Wl] at z3
         rw [WR,WR,W1]
         refine .cons ⟨Gp I n (by rw [in1_units];omega) z1.1 z2.1 h1 h3 r1 r3,λ_=>ih (by rw [in1_units];omega) z3.1 z1.1 z2.1 h1 h3 r1 r3⟩ (ih2 z1.2 z2.2 z3.2 h2 h4 r2 r4)
    have hl:=D4.tuples (A:=A) pl1 pl2 (by omega) (key p1 p2 hc a2 b2 r1 r2)
    rw [QT,GS,a2.length,b2.length,r1.length,r2.length]
    simpa using hl
   |_=>cases hc
  |_=>cases hc
end
end DL
namespace DL
open PySem L2
theorem N2 (a b:D)(as bs:List D):eqDs (a :: as) (b :: bs)=(eqD a b&&eqDs as bs):=by conv=>lhs;unfold eqDs
theorem KU:∀(n:Nat) (a b:D),Qh n a b=true->Qh n b a=true:=by
 intro n
 induction n with
 |zero=>
  intro a b h
  cases a<;>cases b<;>first|rfl|cases h
 |succ n ih=>
  intro a b h
  cases a<;>cases b<;>first|rfl|cases h|skip
  rename_i as bs
  unfold Qh at h ⊢
  rw [Wq] at h ⊢
  intro p hp
  refine ih _ _ (h (p.2,p.1) ?_)
  obtain⟨i,hi,e⟩:=W0F.mp hp
  rw [VA] at hi
  rw [List.getElem_zip] at e
  rw [←e]
  refine W0F.mpr ⟨i,by rw [VA];omega,?_⟩
  rw [List.getElem_zip]
theorem Z2l:∀(n:Nat) (a b:D),Qh n a b=true->eqD a b=true->a=b:=by
 intro n
 induction n with
 |zero=>
  intro a b h e
  cases a<;>cases b<;>first|cases h|skip
  ·unfold eqD at e;rw [eq_of_beq e]
  ·unfold eqD at e;rw [eq_of_beq e]
 |succ n ih=>
  intro a b h e
  cases a<;>cases b<;>first|cases h|skip
  ·unfold eqD at e;rw [eq_of_beq e]
  ·unfold eqD at e;rw [eq_of_beq e]
  ·rename_i as bs
   unfold Qh at h
   rw [Jo] at e
   congr 1
   induction as generalizing bs with
   |nil=>
    cases bs with
    |nil=>rfl
    |cons _ _=>unfold eqDs at e;cases e
   |cons x xs ih2=>
    cases bs with
    |nil=>unfold eqDs at e;cases e
    |cons y ys=>
     rw [N2,Wl] at e
     rw [WR,Vf,Wl] at h
     rw [ih x y h.1 e.1,ih2 ys e.2 h.2]
theorem Jp {n:Nat}{a b:D}(h:Qh n a b=true)(ha:pln n a=true):(a=b->eqD a b=true)/\(a≠b->eqD a b=false):=by
 refine⟨λe=>?_,λe=>?_⟩
 ·subst e;exact YW n a ha
 ·cases q:eqD a b
  ·rfl
  ·exact absurd (Z2l n a b h q) e
theorem NS:∀(n:Nat) (a:D),pln n a=true->ltD a a=false:=by
 intro n
 induction n with
 |zero=>
  intro a h
  cases a<;>first|cases h|skip
  ·unfold ltD;rfl
  ·unfold ltD;rfl
  ·unfold ltD;simp
  ·unfold ltD;simp only [decide_eq_false_iff_not];exact List.lt_irrefl _
 |succ n ih=>
  intro a h
  cases a<;>first|cases h|skip
  ·unfold ltD;rfl
  ·unfold ltD;rfl
  ·unfold ltD;simp
  ·unfold ltD;simp only [decide_eq_false_iff_not];exact List.lt_irrefl _
  ·rename_i as
   unfold pln at h
   rw [QT]
   induction as with
   |nil=>unfold ltDs;rfl
   |cons x xs ih2=>
    rw [Vf,Wl] at h
    rw [YH,if_pos (YW n x h.1),ih2 h.2]
theorem TC:∀(n:Nat) (a b:D),Qh n a b=true->pln n a=true->pln n b=true->a=b\/ltD a b=true\/ltD b a=true:=by
 have hI:∀i j:Int,D.int i=D.int j\/ltD (.int i) (.int j)=true\/ltD (.int j) (.int i)=true:=λi j=>by
  unfold ltD
  simp only [decide_eq_true_eq]
  rcases Int.lt_trichotomy i j with h|h|h
  ·exact .inr (.inl h)
  ·exact .inl (by rw [h])
  ·exact .inr (.inr h)
 have hS:∀x y:Str,D.str x=D.str y\/ltD (.str x) (.str y)=true\/ltD (.str y) (.str x)=true:=λx y=>by
  unfold ltD
  simp only [decide_eq_true_eq]
  by_cases h1:x.cps.toList<y.cps.toList
  ·exact .inr (.inl h1)
  ·by_cases h2:y.cps.toList<x.cps.toList
   ·exact .inr (.inr h2)
   ·have e:x.cps.toList=y.cps.toList:=List.le_antisymm (List.not_lt.mp h2) (List.not_lt.mp h1)
    refine .inl ?_
    cases x;cases y
    cases Array.toList_inj.mp e
    rfl
 intro n
 induction n with
 |zero=>
  intro a b h ha hb
  cases a<;>cases b<;>first|cases h|skip
  ·exact hI _ _
  ·exact hS _ _
 |succ n ih=>
  intro a b h ha hb
  cases a<;>cases b<;>first|cases h|skip
  ·exact hI _ _
  ·exact hS _ _
  ·rename_i as bs
   unfold Qh at h
   unfold pln at ha hb
   rw [QT,QT,D.tup.injEq]
   induction as generalizing bs with
   |nil=>
    cases bs with
    |nil=>exact .inl rfl
    |cons _ _=>exact .inr (.inl (by unfold ltDs;rfl))
   |cons x xs ih2=>
    cases bs with
    |nil=>exact .inr (.inr (by unfold ltDs;rfl))
    |cons y ys=>
     rw [Vf,Wl] at ha hb
     rw [WR,Vf,Wl] at h
     rw [YH,YH]
     by_cases q:x=y
     ·subst q
      rw [if_pos (YW n x ha.1),if_pos (YW n x ha.1)]
      rcases ih2 ys h.2 ha.2 hb.2 with z|z|z
      ·exact .inl (by rw [z])
      ·exact .inr (.inl z)
      ·exact .inr (.inr z)
     ·rw [(Jp h.1 ha.1).2 q,(Jp (KU n x y h.1) hb.1).2 (Ne.symm q),if_neg Wu,if_neg Wu]
      rcases ih x y h.1 ha.1 hb.1 with z|z|z
      ·exact absurd z q
      ·exact .inr (.inl z)
      ·exact .inr (.inr z)
theorem Es:∀(n:Nat) (a b c:D),Qh n a b=true->Qh n b c=true->Qh n a c=true->pln n a=true->pln n b=true->pln n c=true->ltD a b=true->ltD b c=true->ltD a c=true:=by
 have hI:∀i j k:Int,ltD (.int i) (.int j)=true->ltD (.int j) (.int k)=true->ltD (.int i) (.int k)=true:=λi j k h1 h2=>by
  unfold ltD at *
  simp only [decide_eq_true_eq] at *
  omega
 have hS:∀i j k:Str,ltD (.str i) (.str j)=true->ltD (.str j) (.str k)=true->ltD (.str i) (.str k)=true:=λi j k h1 h2=>by
  unfold ltD at *
  simp only [decide_eq_true_eq] at *
  exact List.lt_trans h1 h2
 intro n
 induction n with
 |zero=>
  intro a b c h1 h2 h3 ha hb hc l1 l2
  cases a<;>cases b<;>first|cases h1|skip
  all_goals cases c<;>first|cases h2|skip
  ·exact hI _ _ _ l1 l2
  ·exact hS _ _ _ l1 l2
 |succ n ih=>
  intro a b c h1 h2 h3 ha hb hc l1 l2
  cases a<;>cases b<;>first|cases h1|skip
  all_goals cases c<;>first|cases h2|skip
  ·exact hI _ _ _ l1 l2
  ·exact hS _ _ _ l1 l2
  ·rename_i as bs cs
   unfold Qh at h1 h2 h3
   unfold pln at ha hb hc
   rw [QT] at l1 l2 ⊢
   induction as generalizing bs cs with
   |nil=>
    cases bs with
    |nil=>unfold ltDs at l1;cases l1
    |cons _ _=>
     cases cs with
     |nil=>unfold ltDs at l2;cases l2
     |cons _ _=>unfold ltDs;rfl
   |cons x xs ih2=>
    cases bs with
    |nil=>unfold ltDs at l1;cases l1
    |cons y ys=>
     cases cs with
     |nil=>unfold ltDs at l2;cases l2
     |cons z zs=>
      rw [Vf,Wl] at ha hb hc
      rw [WR,Vf,Wl] at h1 h2 h3
      rw [YH] at l1 l2 ⊢
      by_cases q1:x=y
      ·subst q1
       rw [if_pos (YW n x ha.1)] at l1
       by_cases q2:x=z
       ·subst q2
        rw [if_pos (YW n x ha.1)] at l2 ⊢
        exact ih2 ys l1 zs l2 h1.2 h2.2 h3.2 ha.2 hb.2 hc.2
       ·rw [(Jp h2.1 hb.1).2 q2,if_neg Wu] at l2
        rw [(Jp h3.1 ha.1).2 q2,if_neg Wu]
        exact l2
      ·rw [(Jp h1.1 ha.1).2 q1,if_neg Wu] at l1
       by_cases q2:y=z
       ·subst q2
        rw [(Jp h3.1 ha.1).2 q1,if_neg Wu]
        exact l1
       ·rw [(Jp h2.1 hb.1).2 q2,if_neg Wu] at l2
        have l3:=ih x y z h1.1 h2.1 h3.1 ha.1 hb.1 hc.1 l1 l2
        have q3:x≠z:=λe=>by
         subst e
         rw [NS n x ha.1] at l3
         cases l3
        rw [(Jp h3.1 ha.1).2 q3,if_neg Wu]
        exact l3
def Q6 (n:Nat)(ds:List D):Prop:=(∀a∈ds,pln n a=true)/\∀a∈ds,∀b∈ds,Qh n a b=true
theorem Q6.as {n:Nat}{ds:List D}(h:Q6 n ds){a b:D}(ha:a∈ds)(hb:b∈ds)(l:ltD a b=true):ltD b a=false:=by
 cases q:ltD b a
 ·rfl
 ·have:=Es n a b a (h.2 a ha b hb) (h.2 b hb a ha) (h.2 a ha a ha) (h.1 a ha) (h.1 b hb) (h.1 a ha) l q
  rw [NS n a (h.1 a ha)] at this
  cases this
theorem Q6.le_tr {n:Nat}{ds:List D}(h:Q6 n ds){a b c:D}(ha:a∈ds)(hb:b∈ds)(hc:c∈ds)(l1:ltD b a=false)(l2:ltD c b=false):ltD c a=false:=by
 rcases TC n a b (h.2 a ha b hb) (h.1 a ha) (h.1 b hb) with z|z|z
 ·subst z;exact l2
 ·rcases TC n b c (h.2 b hb c hc) (h.1 b hb) (h.1 c hc) with y|y|y
  ·subst y;exact l1
  ·exact h.as ha hc (Es n a b c (h.2 a ha b hb) (h.2 b hb c hc) (h.2 a ha c hc) (h.1 a ha) (h.1 b hb) (h.1 c hc) z y)
  ·rw [l2] at y;cases y
 ·rw [l1] at z;cases z
theorem Q6.anti {n:Nat}{ds:List D}(h:Q6 n ds){a b:D}(ha:a∈ds)(hb:b∈ds)(l1:ltD b a=false)(l2:ltD a b=false):a=b:=by
 rcases TC n a b (h.2 a ha b hb) (h.1 a ha) (h.1 b hb) with z|z|z
 ·exact z
 ·rw [l2] at z;cases z
 ·rw [l1] at z;cases z
def Dg (x:D):List D->List D
 |[]=>[x]
 |y :: r=>if ltD y x=true then y :: Dg x r else x :: y :: r
def Y6:List D->List D
 |[]=>[]
 |x :: r=>Dg x (Y6 r)
theorem B1 (x:D):∀l:List D,(Dg x l).Perm (x :: l)
 |[]=>.refl _
 |y :: r=>by
  unfold Dg
  split
  ·exact ((B1 x r).cons y).trans (.swap x y r)
  ·exact .refl _
theorem Yf:∀l:List D,(Y6 l).Perm l
 |[]=>.refl _
 |x :: r=>(B1 x (Y6 r)).trans ((Yf r).cons x)
abbrev leD (a b:D):Prop:=ltD b a=false
theorem Gn {n:Nat}{ds:List D}(h:Q6 n ds){x:D}(hx:x∈ds):∀{l:List D},(∀a∈l,a∈ds)->l.Pairwise leD->(Dg x l).Pairwise leD
 |[],_,_=>List.pairwise_singleton _ _
 |y :: r,hm,hs=>by
  rw [VS] at hs
  have hy:=hm y Ws
  unfold Dg
  split
  ·rename_i c
   rw [VS]
   refine⟨λa ha=>?_,Gn h hx (λa ha=>hm a (Wz _ ha)) hs.2⟩
   rcases Ww.mp ((B1 x r).mem_iff.mp ha) with z|z
   ·subst z;exact h.as hy hx c
   ·exact hs.1 a z
  ·rename_i c
   have c':ltD y x=false:=by simpa using c
   rw [VS,VS]
   refine⟨λa ha=>?_,hs⟩
   rcases Ww.mp ha with z|z
   ·subst z;exact c'
   ·exact h.le_tr hx hy (hm a ha) c' (hs.1 a z)
theorem Yv {n:Nat}{ds:List D}(h:Q6 n ds):∀{l:List D},(∀a∈l,a∈ds)->(Y6 l).Pairwise leD
 |[],_=>.nil
 |x :: r,hm=>Gn h (hm x Ws) (λa ha=>hm a (Wz _ ((Yf r).mem_iff.mp ha))) (Yv h λa ha=>hm a (Wz _ ha))
theorem Nr {n:Nat}{ds out:List D}(h:Q6 n ds)(hp:out.Perm ds)(hs:out.Pairwise leD):out=Y6 ds:=
 List.Perm.eq_of_pairwise (le:=leD) (λa b ha hb l1 l2=>h.anti (hp.mem_iff.mp ha) ((Yf ds).mem_iff.mp hb) l1 l2) hs (Yv h λ_ z=>z) (hp.trans (Yf ds).symm)
end DL
namespace DL
open PySem PySem.Spec PyProof.Rows L2
section
variable {X:Cx} {e a b c:Expr} {es:List Expr} {pos:Pos} {st:Stmt} {QN:List Stmt}
def mNx:MS:=λen S=>some (.nx,en,S)
def YF (a b:MS):MS:=λen S=>(a en S).bind λp=>match p.1 with | .nx=>b p.2.1 p.2.2|f=>some (f,p.2.1,p.2.2)
theorem Yq:SB X [] mNx:=by
 refine P4 Sg ?_
 rintro D σ H ⟨ρ,en,S,f,en',S',E,R,e,k⟩
 cases e
 exact k ρ H σ Ext.refl R E
theorem Ze {m:MS}(h:SS X st m):SB X [st] m:=Sf h
theorem Zb {m n:MS}(h:SS X st m)(t:SB X QN n):SB X (st :: QN) (YF m n):=by
 refine P4 (FY h t) ?_
 rintro D σ H ⟨ρ,en,S,f,en',S',E,R,e,k⟩
 unfold YF at e
 obtain⟨p,e1,e⟩:=W5.mp e
 obtain⟨fa,en1,S1⟩:=p
 refine⟨ρ,en,S,fa,en1,S1,E,R,e1,λρ1 H1 σ1 X1 R1 E1=>?_⟩
 cases fa with
 |nx=>exact⟨ρ1,en1,S1,f,en',S',E1,R1,e,λρ2 H2 σ2 X2 R2 E2=>k ρ2 H2 σ2 (X1.trans X2) R2 E2⟩
 |rt d=>cases e;exact k ρ1 H1 σ1 X1 R1 E1
 |bk=>cases e;exact k ρ1 H1 σ1 X1 R1 E1
 |ct=>cases e;exact k ρ1 H1 σ1 X1 R1 E1
def Qc (m:M D):MS:=λen S=>(m en S).map λp=>(.rt p.1,en,p.2)
theorem Zp {m:M D}(h:SE X e m):SS X (.Return (some e) pos) (Qc m):=by
 refine US (DW h) ?_
 rintro D σ H ⟨ρ,en,S,f,en',S',E,R,e,k⟩
 unfold Qc at e
 obtain⟨p,e1,e2⟩:=Wi.mp e
 cases e2
 exact⟨ρ,en,S,p.1,p.2,E,R,e1,λx ρ1 H1 X1 R1 d1=>k ρ1 H1 σ X1 R1 (E.up X1) x d1⟩
def Z23:MS:=λen S=>some (.rt .non,en,S)
def mBk:MS:=λen S=>some (.bk,en,S)
def mCt:MS:=λen S=>some (.ct,en,S)
def KI (m:M D):MS:=λen S=>(m en S).map λp=>(.nx,en,p.2)
theorem RC {m:M D}(h:SE X e m)(hs:swapsWith e none pos.line X.env=pure false:=by rfl):SS X (.Expr e pos) (KI m):=by
 refine US (Sj h hs) ?_
 rintro D σ H ⟨ρ,en,S,f,en',S',E,R,e,k⟩
 unfold KI at e
 obtain⟨p,e1,e2⟩:=Wi.mp e
 cases e2
 exact⟨ρ,en,S,p.1,p.2,E,R,e1,λx ρ1 H1 X1 R1 d1=>k ρ1 H1 σ X1 R1 (E.up X1)⟩
def T5 (c:M Bool)(a b:MS):MS:=λen S=>(c en S).bind λp=>if p.1 then a en p.2 else b en p.2
theorem QA {c:Expr}{A B:List Stmt}{mc:M Bool}{ma mb:MS}(hc:ST X c mc)(ha:SB X A ma)(hb:SB X B mb):SS X (.If c A B pos) (T5 mc ma mb):=by
 refine US (Z1s hc ha hb) ?_
 rintro D σ H ⟨ρ,en,S,f,en',S',E,R,e,k⟩
 unfold T5 at e
 obtain⟨p,e1,e⟩:=W5.mp e
 refine⟨ρ,en,S,p.1,p.2,E,R,e1,λρ1 H1 X1 R1=>?_⟩
 by_cases hp:p.1=true
 ·rw [if_pos hp] at e ⊢
  exact⟨ρ1,en,p.2,f,en',S',E.up X1,R1,e,λρ2 H2 σ2 X2 R2 E2=>k ρ2 H2 σ2 (X1.trans X2) R2 E2⟩
 ·rw [if_neg hp] at e ⊢
  exact⟨ρ1,en,p.2,f,en',S',E.up X1,R1,e,λρ2 H2 σ2 X2 R2 E2=>k ρ2 H2 σ2 (X1.trans X2) R2 E2⟩
def GD (K:Wd)(g:TG)(gd:D->En->Option En):Prop:=
 ∀ρ H en σ d v en',EnR K ρ H en σ->DR K ρ H d v->gd d en=some en'->∃σ',EnR K ρ H en' σ'/\∀Q:L2.St->Hp->Prop,Q σ' H->g v σ H Q
def GsD (K:Wd)(g:TGs)(gd:List D->En->Option En):Prop:=
 ∀ρ H en σ ds vs en',EnR K ρ H en σ->DsR K ρ H ds vs->gd ds en=some en'->∃σ',EnR K ρ H en' σ'/\∀Q:L2.St->Hp->Prop,Q σ' H->g vs σ H Q
def gN (i:Nat):D->En->Option En:=λd en=>some (en.set i (some d))
def TK:List D->En->Option En:=λds en=>match ds with|[]=>some en|_=>none
def YA (g:D->En->Option En)(r:List D->En->Option En):List D->En->Option En:=λds en=>match ds with|[]=>none|d :: ds=>(g d en).bind (r ds)
def gT (n:Nat)(gs:List D->En->Option En):D->En->Option En:=λd en=>match d with | .tup ds=>if ds.length=n then gs ds en else none|_=>none
theorem Zr {K:Wd}{i:Nat}:GD K (M4 i) (gN i):=by
 intro ρ H en σ d v en' E h e
 cases e
 exact⟨_,E.set h,λQ q=>q⟩
theorem TJ {K:Wd}:GsD K XU TK:=by
 intro ρ H en σ ds vs en' E h e
 cases ds with
 |nil=>
  cases e
  have hv:vs=[]:=by unfold DsR at h;exact h
  exact⟨σ,E,λQ q=>⟨hv,q⟩⟩
 |cons d ds=>cases e
theorem YV {K:Wd}{t:TG}{u:TGs}{g:D->En->Option En}{r:List D->En->Option En}(h1:GD K t g)(h2:GsD K u r):GsD K (LI t u) (YA g r):=by
 intro ρ H en σ ds vs en' E h e
 cases ds with
 |nil=>cases e
 |cons d ds=>
  obtain⟨en1,e1,e2⟩:=W5.mp e
  unfold DsR at h
  obtain⟨x,xs,rfl,d1,d2⟩:=h
  obtain⟨σ1,E1,k1⟩:=h1 ρ H en σ d x en1 E d1 e1
  obtain⟨σ2,E2,k2⟩:=h2 ρ H en1 σ1 ds xs en' E1 d2 e2
  exact⟨σ2,E2,λQ q=>⟨x,xs,rfl,k1 _ (k2 Q q)⟩⟩
theorem BZ {K:Wd}{n:Nat}{t:TGs}{gs:List D->En->Option En}(h:GsD K t gs):GD K (Z2i K n t) (gT n gs):=by
 intro ρ H en σ d v en' E hd e
 cases d with
 |tup ds=>
  obtain⟨a,xs,rfl,h1,h2⟩:=hd.of_tup
  dsimp only [gT] at e
  split at e
  ·obtain⟨σ',E',k⟩:=h ρ H en σ ds xs en' E h2 e
   exact⟨σ',E',λQ q=>⟨a,xs,rfl,.of h1,by rw [←h2.length];assumption,k Q q⟩⟩
  ·cases e
 |_=>cases e
def Qv (m:M D)(g:D->En->Option En):MS:=λen S=>(m en S).bind λp=>(g p.1 en).map λen'=>(.nx,en',p.2)
theorem Kd {K:Wd}{m:M D}{g:TG}{gd:D->En->Option En}(hg:GD K g gd){D:Ends}{σ:L2.St}{H:Hp}(h:tMS K (Qv m gd) D σ H):Z0J (tM K m) g D σ H:=by
 obtain⟨ρ,en,S,f,en',S',E,R,e,k⟩:=h
 unfold Qv at e
 obtain⟨p,e1,e⟩:=W5.mp e
 obtain⟨en1,e2,e3⟩:=Wi.mp e
 cases e3
 refine⟨ρ,en,S,p.1,p.2,E,R,e1,λx ρ1 H1 X1 R1 d1=>?_⟩
 obtain⟨σ',E',q⟩:=hg ρ1 H1 en σ p.1 x _ (E.up X1) d1 e2
 exact q _ (k ρ1 H1 σ' X1 R1 E')
theorem DA {tg:Expr}{m:M D}{g:TG}{gd:D->En->Option En}(he:SE X e m)(hp:PG X tg g)(hg:GD X.K g gd)(hs:swapsWithSole [tg] e pos.line X.env=pure false:=by rfl)(hw:swappedStores [tg] e X.env=pure none:=by rfl)
  (h1:(assignEach [tg] X.env).map (·.2)=[assign tg X.env]:=by rfl):SS X (.Assign [tg] e pos) (Qv m gd):=US (Eg he hp hs hw h1) λ_ _ _=>Kd hg
theorem ZM {i:Nat}{x:Str}{m:M D}{pos':Pos}(hN:X.N.Nodup)(hi:X.N[i]? = some x)(hx:Loc X.env.scope x)(he:SE X e m)(hs:swapsWith e (some (.Name x pos')) pos.line X.env=pure false:=by rfl)
  (hf:X.fn x=true\/X.env.scope.names.lookup x=some .local:=by first|exact .inl rfl|exact .inr rfl|assumption):SS X (.Assign [.Name x pos'] e pos) (Qv m (gN i)):=
 US (DV hN hi hx he hs hf) λ_ _ _=>Kd Zr
inductive Gd where
 |no
 |lst (n:Nat)
 |zl (gs:List (Nat×List D))
 |fr (n:Nat) (kvs:List (D×D)) (th:Bool)
def Kg (gd:Gd)(ds:List D)(S:Sto):Prop:=match gd with | .no=>True | .lst n=>S[n]? = some (.lst ds) | .zl gs=>∀p∈gs,S[p.1]? = some (.lst p.2) | .fr n kvs _=>S[n]? = some (.fdct kvs)
def FC (gd:Gd)(S:Sto):Option Sto:=match gd with
 | .fr n _ true=>match S[n]? with|some (.fdct kvs)=>some (S.set n (.dct kvs))|_=>none
 |_=>some S
def ItR (K:Wd)(ρ0:List Addr)(H0:Hp)(J:It)(ds:List D)(gd:Gd):Prop:=∀ρ H S,Ext ρ0 H0 ρ H->StR K ρ H S->Kg gd ds S->
 (∀(i:Nat) d,ds[i]? = some d->J.go i H/\∀x H',J.yld i H x H'->Ext ρ H ρ H'/\StR K ρ H' S/\DR K ρ H' d x)/\J.stop ds.length H
abbrev ItD:=List D×Gd
def GF (X:Cx)(gd:Gd)(ρ:List Addr)(H:Hp):Prop:=match gd with
 | .fr n _ true=>∃a,ρ[n]? = some a/\(∀o u,H a≠some (.frz o u))/\(∀xs,H a≠some (.tup xs))/\∀o u,X.H₀ a≠some (.frz o u)
 |_=>True
def tMI (X:Cx)(mi:M ItD):TI:=λσ H R=>∃ρ en S r S',EnR X.K ρ H en σ/\StR X.K ρ H S/\mi en S=some (r,S')/\∀J ρ' H',Ext ρ H ρ' H'->StR X.K ρ' H' S'->ItR X.K ρ' H' J r.1 r.2->GF X r.2 ρ' H->R J H'
def SI (X:Cx)(tg iter:Expr)(mi:M ItD):Prop:=PI X tg iter (tMI X mi)
def Rj (X:Cx)(H H':Hp):Prop:=∀pins σ s,Inv X pins σ H s->Inv X pins σ H' s
theorem Rj.refl {X:Cx}{H:Hp}:Rj X H H:=λ_ _ _ h=>h
theorem NA {t:TE}(h:PE X e t):PE X e (λσ H Q=>t σ H λv H'=>∃H'',Rj X H' H''/\Q v H''):=by
 intro pins s σ H Q I q
 exact thn (h pins s σ H _ I q) λv s1 ⟨x,H1,I1,r1,H2,th,q1⟩=>⟨x,H2,th _ _ _ I1,r1,q1⟩
theorem P5 {st:Stmt}{t:TS}(h:PS X st t):PS X st (λD σ H=>t ⟨λσ H'=>∃H'',Rj X H' H''/\D.nx σ H'',λv H'=>∃H'',Rj X H' H''/\D.rt v H'',λσ H'=>∃H'',Rj X H' H''/\D.bk σ H'',λσ H'=>∃H'',Rj X H' H''/\D.ct σ H''⟩ σ H):=by
 intro pins s σ H D I q
 refine thn (h pins s σ H _ I q) λf s1 z=>?_
 cases f with
 |next=>obtain⟨σ1,H1,I1,H2,th,q1⟩:=z;exact⟨σ1,H2,th _ _ _ I1,q1⟩
 |brk=>obtain⟨σ1,H1,I1,H2,th,q1⟩:=z;exact⟨σ1,H2,th _ _ _ I1,q1⟩
 |cont=>obtain⟨σ1,H1,I1,H2,th,q1⟩:=z;exact⟨σ1,H2,th _ _ _ I1,q1⟩
 |ret u=>obtain⟨v,σ1,H1,I1,r1,H2,th,q1⟩:=z;exact⟨v,σ1,H2,th _ _ _ I1,r1,q1⟩
theorem MW {pins:List (Addr×Obj)}{σ:L2.St}{H:Hp}{s:Shared}{a:Addr}{o:Obj}{tab:List (Key×V)}(I:Inv X pins σ H s)(e:H a=some (.frz o (.dK tab)))(hn:∀o u,X.H₀ a≠some (.frz o u)):Inv X pins σ (upd H a (.dK tab)) s:=by
 have ho:ZI X.prog X.w H s.heap a (.frz o (.dK tab)):=I.hok a _ e
 have ok':HOk X.prog X.w (upd H a (.dK tab)) s.heap:=λb u hb=>by
  by_cases q:b=a
  ·subst q
   rw [Za] at hb
   cases hb
   obtain⟨_,z,hd,vs,r⟩:=ho
   exact⟨z,hd,vs,r⟩
  ·rw [Zl q] at hb
   refine (I.hok b u hb).stay (λ_ _ _ h=>h) (λc h=>?_) λc xs h=>?_
   ·rw [Zl (UZ h e (λz=>nomatch z))];exact h
   ·rw [Zl (UZ h e (λz=>nomatch z))];exact h
 have ne0:∀{b:Addr},H b=none->upd H a (.dK tab) b=none:=λ{b} h=>by rw [Zl (Ne.symm (Zy e h))];exact h
 refine⟨I.ok,I.os,I.bare,⟨I.base.keep,I.base.slot,λb u h1 h2 h3=>ne0 (I.base.free b u h1 h2 h3),I.base.there,λb xs h=>?_,λb u v h=>?_,λb ps h=>?_⟩,I.loc,I.cell,ne0 I.free,λx c h=>ne0 (I.freeC x c h),λp hp=>?_,ok',I.len⟩
 ·have:=I.base.tups b xs h
  rw [Zl (UZ this e (λz=>nomatch z))];exact this
 ·have:=I.base.frzs b u v h
  by_cases q:b=a
  ·subst q;exact absurd h (hn _ _)
  ·rw [Zl q];exact this
 ·obtain⟨more,this⟩:=I.base.tbls b ps h
  exact⟨more,by rw [Zl (UZ this e (λz=>nomatch z))];exact this⟩
 ·obtain⟨p1,p2,p3⟩:=I.pin p hp
  exact⟨p1,ne0 p2,p3⟩
theorem Gx {gd:Gd}{ρ ρ' ρ1:List Addr}{H H1 H':Hp}{S' S'':Sto}(X1:Ext ρ H ρ1 H1)(F:GF X gd ρ1 H)(X2:Ext ρ1 H1 ρ' H')(R:StR X.K ρ' H' S')(e:FC gd S'=some S'') :
  ∃H'',Rj X H' H''/\Ext ρ H ρ' H''/\StR X.K ρ' H'' S''/\Ext0 ρ' H' ρ' H''/\∀p o,H' p=none->H'' p=none/\Rj X (upd H' p o) (upd H'' p o):=by
 have triv:some S'=some S''->∃H'',Rj X H' H''/\Ext ρ H ρ' H''/\StR X.K ρ' H'' S''/\Ext0 ρ' H' ρ' H''/\∀p o,H' p=none->H'' p=none/\Rj X (upd H' p o) (upd H'' p o):=λz=>by
  cases z
  exact⟨H',.refl,X1.trans X2,R,Ext.refl.weak,λp o h=>⟨h,.refl⟩⟩
 cases gd with
 |no=>exact triv e
 |lst n=>exact triv e
 |zl gs=>exact triv e
 |fr n kvs th=>
  cases th with
  |false=>exact triv e
  |true=>
   obtain⟨a,h1,h2,h3,h4⟩:=F
   dsimp only [FC] at e
   split at e
   ·rename_i kvs' hn
    cases e
    obtain⟨o,tab,t1,t2,t3⟩:=R.thaw (X2.pre n a h1) hn
    refine⟨_,λpins σ s I=>MW I t1 h4,⟨λm b hb=>X2.pre m b (X1.pre m b hb),λb xs hb=>?_,λb o u hb=>?_⟩,t2,t3,λp ob hp=>?_⟩
    ·have:=(X1.trans X2).tup b xs hb
     rw [Zl (UZ this t1 (λz=>nomatch z))];exact this
    ·have:=(X1.trans X2).frz b o u hb
     by_cases q:b=a
     ·subst q;exact absurd hb (h2 _ _)
     ·rw [Zl q];exact this
    ·have hpa:a≠p:=Zy t1 hp
     refine⟨by rw [Zl (Ne.symm hpa)];exact hp,λpins σ s I=>?_⟩
     have:=MW (a:=a) (o:=o) (tab:=tab) I (by rw [Zl hpa];exact t1) h4
     have eq:upd (upd H' p ob) a (.dK tab)=upd (upd H' a (.dK tab)) p ob:=by
      funext b
      unfold upd
      by_cases q1:b=a
      ·rw [if_pos q1]
       by_cases q2:b=p
       ·exact absurd (q1.symm.trans q2) hpa
       ·rw [if_neg q2,if_pos q1]
      ·rw [if_neg q1]
       by_cases q2:b=p
       ·rw [if_pos q2,if_pos q2]
       ·rw [if_neg q2,if_neg q2,if_neg q1]
     rw [eq] at this
     exact this
   ·cases e
theorem Pb {tg iter:Expr}{w w':TI}(h:PI X tg iter w)(i:∀σ H R,w' σ H R->w σ H R):PI X tg iter w':=λpins s σ H R I q=>h pins s σ H R I (i σ H R q)
open Classical in
def Qd (ds:List D)(gd:Gd)(g:D->En->Option En)(body:MS):List D->En->Sto->Option (Fl×En×Sto)
 |[],en,S=>if Kg gd ds S then some (.nx,en,S) else none
 |d :: r,en,S=>if Kg gd ds S then (g d en).bind λen1=>(body en1 S).bind λp=>match p.1 with
   | .nx=>Qd ds gd g body r p.2.1 p.2.2
   | .ct=>Qd ds gd g body r p.2.1 p.2.2
   | .bk=>some (.nx,p.2.1,p.2.2)
   | .rt v=>some (.rt v,p.2.1,p.2.2)
  else none
def thF (gd:Gd)(r:Option (Fl×En×Sto)):Option (Fl×En×Sto):=r.bind λq=>(FC gd q.2.2).map λS'=>(q.1,q.2.1,S')
def Ak (mi:M ItD)(g:D->En->Option En)(body:MS):MS:=λen S=>(mi en S).bind λp=>thF p.1.2 (Qd p.1.1 p.1.2 g body p.1.1 en p.2)
theorem Bi {tg iter:Expr}{body:List Stmt}{mi:M ItD}{g:TG}{gd:D->En->Option En}{mb:MS}(hp:PassesOwn (model X.prog X.w) X.A X.env X.xe)(hc:X.calm=true)(hi:SI X tg iter mi)(hg:PG X tg g)(hgd:GD X.K g gd)(hb:SB X body mb)
  (hs:∀x,foldedSetIterable iter X.env x=pure x:=by intro _;rfl):SS X (.For tg iter body [] pos) (Ak mi gd mb):=by
 refine US (P5 (DX hp hc hi hg hb hs)) ?_
 rintro D σ H ⟨ρ,en,S,f,enF,SF,E,R,e,k⟩
 unfold Ak at e
 obtain⟨p,e1,e⟩:=W5.mp e
 obtain⟨⟨ds,gdn⟩,S1⟩:=p
 refine⟨ρ,en,S,(ds,gdn),S1,E,R,e1,λJ ρ1 H1 X1 R1 IT GG=>?_⟩
 dsimp only at e IT GG
 unfold thF at e
 obtain⟨⟨f0,en0,S0⟩,eg,e0⟩:=W5.mp e
 obtain⟨SF',e00,e0⟩:=Wi.mp e0
 injection e0 with z1 z2
 injection z2 with z2 z3
 dsimp only at z1 z2 z3 e00
 subst z1 z2 z3
 refine⟨λi m σ' H'=>m+i=ds.length/\∃ρ' en' S',Ext ρ1 H1 ρ' H'/\StR X.K ρ' H' S'/\EnR X.K ρ' H' en' σ'/\Qd ds gdn gd mb (ds.drop i) en' S'=some (f0,en0,S0),⟨ds.length,by omega,ρ1,en,S1,Ext.refl,R1,E.up X1,by simpa using eg⟩,?_⟩
 rintro i m σ' H' ⟨hm,ρ',en1,S2,X2,R2,E2,e2⟩
 cases hd:ds.drop i with
 |nil=>
  rw [hd] at e2
  unfold Qd at e2
  split at e2
  ·rename_i hg0
   cases e2
   have hi:i=ds.length:=by
    have:=congrArg Ve hd
    simp at this
    omega
   subst hi
   obtain⟨H9,t1,t2,t3,t4,t5⟩:=Gx X1 GG X2 R2 e00
   exact .inl ⟨(IT ρ' H' _ X2 R2 hg0).2,H9,t1,k ρ' H9 σ' t2 t3 (E2.up0 t4)⟩
  ·cases e2
 |cons d r=>
  rw [hd] at e2
  unfold Qd at e2
  split at e2
  ·rename_i hg0
   obtain⟨en3,e3,e2⟩:=W5.mp e2
   obtain⟨q,e4,e2⟩:=W5.mp e2
   obtain⟨fq,en4,S4⟩:=q
   have hlt:i<ds.length:=by
    have:=congrArg Ve hd
    simp at this
    omega
   have hdi:ds[i]? = some d:=by
    have:=congrArg (λl=>l[0]?) hd
    simpa using this
   have hr:ds.drop (i+1)=r:=by
    have:=congrArg List.tail hd
    simpa using this
   obtain⟨go,yl⟩:=(IT ρ' H' _ X2 R2 hg0).1 i d hdi
   refine .inr ⟨go,λσ'' H''=>∃ρ'' en'' S'',Ext ρ1 H1 ρ'' H''/\StR X.K ρ'' H'' S''/\EnR X.K ρ'' H'' en'' σ''/\Qd ds gdn gd mb r en'' S''=some (f0,en0,S0),λσ'' H'' ⟨ρ'',en'',S'',a1,a2,a3,a4⟩=>⟨m-1,by omega,by omega,ρ'',en'',S'',a1,a2,a3,by rw [hr];exact a4⟩,λx H3 y=>?_⟩
   obtain⟨X3,R3,d3⟩:=yl x H3 y
   obtain⟨σ3,E3,gq⟩:=hgd ρ' H3 en1 σ' d x en3 (E2.up X3) d3 e3
   refine gq _ ⟨ρ',en3,S2,fq,en4,S4,E3,R3,e4,λρ4 H4 σ4 X4 R4 E4=>?_⟩
   cases fq with
   |nx=>exact⟨ρ4,en4,S4,(X2.trans X3).trans X4,R4,E4,e2⟩
   |ct=>exact⟨ρ4,en4,S4,(X2.trans X3).trans X4,R4,E4,e2⟩
   |bk=>
    cases e2
    obtain⟨H9,t1,t2,t3,t4,t5⟩:=Gx X1 GG ((X2.trans X3).trans X4) R4 e00
    exact⟨H9,t1,k ρ4 H9 σ4 t2 t3 (E4.up0 t4)⟩
   |rt v=>
    cases e2
    obtain⟨H9,t1,t2,t3,t4,t5⟩:=Gx X1 GG ((X2.trans X3).trans X4) R4 e00
    exact λx dx=>⟨H9,t1,k ρ4 H9 σ4 t2 t3 (E4.up0 t4) x (DR.mono t4 _ _ dx)⟩
  ·cases e2
open Classical in
def ZW (ds:List D)(gd:Gd)(cap:En)(g:D->En->Option En)(c:M Bool)(m:M D):List D->List D->Sto->Option (List D×Sto)
 |[],acc,S=>if Kg gd ds S/\acc.length≤Wk then some (acc,S) else none
 |d :: r,acc,S=>if Kg gd ds S/\acc.length≤Wk then (g d cap).bind λen=>(c en S).bind λp=>
   if p.1 then (m en p.2).bind λq=>ZW ds gd cap g c m r (acc++[q.1]) q.2 else ZW ds gd cap g c m r acc p.2
  else none
def JL (nT:Nat)(caps:List Nat)(en:En):En:=W0D nT none++caps.map λj=>(en[j]?).getD none
def thC (gd:Gd)(r:Option (List D×Sto)):Option (List D×Sto):=r.bind λq=>(FC gd q.2).map λS'=>(q.1,S')
def YG (mi:M ItD)(nT:Nat)(caps:List Nat)(g:D->En->Option En)(c:M Bool)(m:M D):M (List D):=λen S=>(mi en S).bind λp=>thC p.1.2 (ZW p.1.1 p.1.2 (JL nT caps en) g c m p.1.1 [] p.2)
theorem Z0A {K:Wd}{ρ:List Addr}{H:Hp}{en:En}{σ:L2.St}{nT:Nat}{caps:List Nat}(E:EnR K ρ H en σ):EnR K ρ H (JL nT caps en) (JK nT caps σ):=by
 refine⟨by simp [JL,JK],λi d e=>?_⟩
 unfold JL at e
 have hi:nT≤i:=by
  by_cases hi:i<nT
  ·rw [V2 (by simpa using hi),W0n] at e
   split at e<;>cases e
  ·exact W0N hi
 rw [WV (by simpa using hi),W0B,WG] at e
 unfold JK
 rw [WV (by simpa using hi),W0B,WG]
 cases ej:caps[i-nT]? with
 |none=>rw [ej] at e;cases e
 |some j=>
  rw [ej] at e
  have e':(en[j]?).getD none=some d:=WT e
  have e2:en[j]? = some (some d):=by
   cases q:en[j]? with
   |none=>rw [q] at e';cases e'
   |some z=>rw [q] at e';rw [show z=some d from e']
  obtain⟨x,h1,h2⟩:=E.get j d e2
  exact⟨x,by rw [W3,h1];rfl,h2⟩
def YO:M Bool:=λ_ S=>some (true,S)
theorem Uj {mi:M ItD}{nT:Nat}{caps:List Nat}{g:TG}{gd:D->En->Option En}{tt:TT}{c:M Bool}{m:M D}(hgd:GD X.K g gd)(htt:∀σ H Q,tMT X.K c σ H Q->tt σ H Q){σ:L2.St}{H:Hp}{Q:VK}
  {ρ:List Addr} {en:En} {S S':Sto} {ds:List D} (E:EnR X.K ρ H en σ) (R:StR X.K ρ H S) (e:YG mi nT caps gd c m en S=some (ds,S'))
  (k:∀a xs ρ' H',Ext ρ H ρ' H'->StR X.K ρ' H' S'->H' a=none->DsR X.K ρ' H' ds xs->Q (.ref a) (upd H' a (.lst xs))):HQ (tMI X mi) nT caps g tt (tM X.K m) σ H (λv H'=>∃H'',Rj X H' H''/\Q v H''):=by
 unfold YG at e
 obtain⟨p,e1,e⟩:=W5.mp e
 obtain⟨⟨is,gdn⟩,S1⟩:=p
 refine⟨ρ,en,S,(is,gdn),S1,E,R,e1,λJ ρ1 H1 X1 R1 IT GG=>?_⟩
 dsimp only at e IT GG
 unfold thC at e
 obtain⟨⟨ds0,S0⟩,eg,e0⟩:=W5.mp e
 obtain⟨SF',e00,e0⟩:=Wi.mp e0
 injection e0 with z1 z2
 dsimp only at z1 z2 e00
 subst z1 z2
 refine⟨λi m0 ys H'=>m0+i=is.length/\∃ρ' S2 acc,Ext ρ1 H1 ρ' H'/\StR X.K ρ' H' S2/\DsR X.K ρ' H' acc ys/\ZW is gdn (JL nT caps en) gd c m (is.drop i) acc S2=some (ds0,S0),⟨is.length,by omega,ρ1,S1,[],Ext.refl,R1,.nil,by simpa using eg⟩,?_⟩
 rintro i m0 ys H' ⟨hm,ρ',S2,acc,X2,R2,D2,e2⟩
 cases hd:is.drop i with
 |nil=>
  rw [hd] at e2
  unfold ZW at e2
  split at e2
  ·rename_i hg0
   cases e2
   have hi:i=is.length:=by
    have:=congrArg Ve hd
    simp at this
    omega
   subst hi
   refine .inl ⟨(IT ρ' H' _ X2 R2 hg0.1).2,by rw [←D2.length];exact hg0.2,λa ha=>?_⟩
   obtain⟨H9,t1,t2,t3,t4,t5⟩:=Gx X1 GG X2 R2 e00
   obtain⟨h9,t6⟩:=t5 a (.lst ys) ha
   exact⟨upd H9 a (.lst ys),t6,k a ys ρ' H9 t2 t3 h9 (DsR.mono t4 _ _ D2)⟩
  ·cases e2
 |cons d r=>
  rw [hd] at e2
  unfold ZW at e2
  split at e2
  ·rename_i hg0
   obtain⟨en3,e3,e2⟩:=W5.mp e2
   obtain⟨q,e4,e2⟩:=W5.mp e2
   have hlt:i<is.length:=by
    have:=congrArg Ve hd
    simp at this
    omega
   have hdi:is[i]? = some d:=by
    have:=congrArg (λl=>l[0]?) hd
    simpa using this
   have hr:is.drop (i+1)=r:=by
    have:=congrArg List.tail hd
    simpa using this
   obtain⟨go,yl⟩:=(IT ρ' H' _ X2 R2 hg0.1).1 i d hdi
   refine .inr ⟨go,by rw [←D2.length];exact hg0.2,λx H3 y=>?_⟩
   obtain⟨X3,R3,d3⟩:=yl x H3 y
   obtain⟨σ3,E3,gq⟩:=hgd ρ' H3 (JL nT caps en) (JK nT caps σ) d x en3 (((Z0A E).up X1).up X2 |>.up X3) d3 e3
   refine gq _ (htt _ _ _ ⟨ρ',en3,S2,q.1,q.2,E3,R3,e4,λρ4 H4 X4 R4=>?_⟩)
   by_cases hq:q.1=true
   ·rw [if_pos hq] at e2 ⊢
    obtain⟨w,e5,e2⟩:=W5.mp e2
    refine⟨ρ4,en3,q.2,w.1,w.2,E3.up X4,R4,e5,λv ρ5 H5 X5 R5 d5=>⟨m0-1,by omega,by omega,ρ5,w.2,acc++[w.1],((X2.trans X3).trans X4).trans X5,R5,?_,by rw [hr];exact e2⟩⟩
    exact (((D2.up X3).up X4).up X5).append (.cons d5 .nil)
   ·rw [if_neg hq] at e2 ⊢
    exact⟨m0-1,by omega,by omega,ρ4,q.2,acc,(X2.trans X3).trans X4,R4,(D2.up X3).up X4,by rw [hr];exact e2⟩
  ·cases e2
structure CompSc (X:Cx) (scope:Scope) (cn:List Str) (caps:List Nat):Prop where
 cell:∀y∈scope.names,y.2≠.cell
 kind:scope.kind = .function
 names:∀y∈scope.names,y.2 = .local->scope.names.lookup y.1=some .local
 free:∀y∈scope.names,y.2 = .free->X.env.scope.names.lookup y.1=some .cell\/X.env.scope.names.lookup y.1=some .free
 cap:TZ X scope cn caps
section
variable {tg iter elt:Expr} {ifs:List Expr} {scope:Scope} {tgs cn:List Str} {caps:List Nat} {mi:M ItD} {g:TG} {gd:D->En->Option En} {mc:M Bool} {m:M D}
def SF (X:Cx)(ifs:List Expr)(m:M Bool):Prop:=PF X ifs (tMT X.K m)
theorem Qk:SF X [] YO:=by
 intro pins s σ H Q I q
 obtain⟨ρ,en,S,b,S',E,R,e,k⟩:=q
 cases e
 exact O4 pins s σ H Q I (k ρ H Ext.refl R)
theorem Bk {c:Expr}(h:ST X c mc):SF X [c] mc:=O3 h
theorem Qa (hc:X.calm=true)(sc:CompSc X scope cn caps)(hi:SI X tg iter mi)(hlow:Fv tgs.length g)(hgd:GD X.K g gd)
  (hg:∀fp s H C,PG (ZH X scope (tgs++cn) fp s H C) tg g) (hf:∀fp s H C,SF (ZH X scope (tgs++cn) fp s H C) ifs mc) (he:∀fp s H C,SE (ZH X scope (tgs++cn) fp s H C) elt m)
  (hs:∀x,foldedSetIterable iter X.env x=pure x:=by intro _;rfl):SQ X (.ListComp elt [⟨tg,iter,ifs,0⟩] scope pos) (YG mi tgs.length caps gd mc m):=by
 refine ZF (NA (NB (tt:=tMT X.K mc) (te:=tM X.K m) hc sc.cell sc.kind sc.names sc.free sc.cap hi hlow hg hf he hs)) ?_
 rintro σ H Q ⟨ρ,en,S,ds,S',E,R,e,k⟩
 exact Uj hgd (λ_ _ _ h=>h) E R e λa xs ρ' H' X1 R1 ha d1=>k a xs ρ' _ (X1.trans (Ext.new ha)) (R1.new ha) (.inl (.of Za)) (d1.up (Ext.new ha))
def Ji (m:M (List D)):M D:=λen S=>(m en S).map λp=>(.ref p.2.length,p.2++[.lst p.1])
theorem Tn (hc:X.calm=true)(sc:CompSc X scope cn caps)(hi:SI X tg iter mi)(hlow:Fv tgs.length g)(hgd:GD X.K g gd)
  (hg:∀fp s H C,PG (ZH X scope (tgs++cn) fp s H C) tg g) (hf:∀fp s H C,SF (ZH X scope (tgs++cn) fp s H C) ifs mc) (he:∀fp s H C,SE (ZH X scope (tgs++cn) fp s H C) elt m)
  (hs:∀x,foldedSetIterable iter X.env x=pure x:=by intro _;rfl):SE X (.ListComp elt [⟨tg,iter,ifs,0⟩] scope pos) (Ji (YG mi tgs.length caps gd mc m)):=by
 refine ZF (NA (NB (tt:=tMT X.K mc) (te:=tM X.K m) hc sc.cell sc.kind sc.names sc.free sc.cap hi hlow hg hf he hs)) ?_
 rintro σ H Q ⟨ρ,en,S,v,S',E,R,e,k⟩
 unfold Ji at e
 obtain⟨p,e1,e2⟩:=Wi.mp e
 cases e2
 refine Uj hgd (λ_ _ _ h=>h) E R e1 λa xs ρ' H' X1 R1 ha d1=>?_
 refine k _ (ρ'++[a]) _ (X1.trans (Ext.newRef ha)) (R1.push ha ⟨xs,Za,d1.up (Ext.newRef ha)⟩) (.ref ?_)
 rw [←R1.len];simp
end
theorem RB {tg iter elt:Expr}{ifs:List Expr}{scope:Scope}{tgs cn:List Str}{caps:List Nat}{mi:M ItD}{g:TG}{gd:D->En->Option En}{mc:M Bool}{m:M D}{i:Nat}{y:Str}{py spos:Pos}
  (hN:X.N.Nodup) (hy:X.N[i]? = some y) (hx:X.env.scope.names.lookup y=some .local)
  (hc:X.calm=true) (sc:CompSc X scope cn caps) (hi:SI X tg iter mi) (hlow:Fv tgs.length g) (hgd:GD X.K g gd)
  (hg:∀fp s H C,PG (ZH X scope (tgs++cn) fp s H C) tg g) (hf:∀fp s H C,SF (ZH X scope (tgs++cn) fp s H C) ifs mc) (he:∀fp s H C,SE (ZH X scope (tgs++cn) fp s H C) elt m)
  (hsw:swapsWith (.ListComp elt [⟨tg,iter,ifs,0⟩] scope pos) (some (.Name y py)) spos.line X.env=pure true:=by rfl)
  (hs:∀x,foldedSetIterable iter X.env x=pure x:=by intro _;rfl):SS X (.Assign [.Name y py] (.ListComp elt [⟨tg,iter,ifs,0⟩] scope pos) spos) (Qv (Ji (YG mi tgs.length caps gd mc m)) (gN i)):=by
 refine US (P5 (Si (tt:=tMT X.K mc) (te:=tM X.K m) hsw hN hy hx hc sc.cell sc.kind sc.names sc.free sc.cap hi hlow hg hf he hs)) ?_
 rintro D σ H ⟨ρ,en,S,f,en',S',E,R,e,k⟩
 unfold Qv Ji at e
 obtain⟨p,e1,e⟩:=W5.mp e
 obtain⟨q,e2,e3⟩:=Wi.mp e1
 obtain⟨en1,e4,e5⟩:=Wi.mp e
 cases e3
 cases e4
 cases e5
 refine Uj (Q:=λv H''=>D.nx (σ.set i (some v)) H'') hgd (λ_ _ _ h=>h) E R e2 λa xs ρ' H' X1 R1 ha d1=>?_
 have d2:DR X.K (ρ'++[a]) (upd H' a (.lst xs)) (.ref q.2.length) (.ref a):=.ref (by rw [←R1.len];simp)
 exact k (ρ'++[a]) _ _ (X1.trans (Ext.newRef ha)) (R1.push ha ⟨xs,Za,d1.up (Ext.newRef ha)⟩) ((E.up (X1.trans (Ext.newRef ha))).set d2)
def Z2B:D->Sto->Option (List D)
 | .tup ds,_=>some ds
 | .ref n,S=>match S[n]? with|some (.lst ds)=>some ds|_=>none
 | .scr ns,_=>some (ns.map D.int)
 |_,_=>none
def mSq (m:M D):M (List D):=λen S=>(m en S).bind λp=>(Z2B p.1 p.2).map λds=>(ds,p.2)
def spD (K:Wd)(n:Nat)(F:List D->Sto->Option (D×Sto)):Sp:=λvs H Q _=>vs.length=n/\rDs K F vs H Q
def Zj (F:List D->Sto->Option (D×Sto))(m:M (List D)):M D:=λen S=>(m en S).bind λp=>F p.1 p.2
theorem Z5 {x:Str}{p:Pos}{k n:Nat}{f:Addr}{fd:FuncData}{ps:List Str}{F:List D->Sto->Option (D×Sto)}{m:M (List D)}(hF:FnOk X.prog X.w X.K X.mg X.base CX0 k f fd ps (spD X.K n F))(hr:Room k X.A)(hg:Gl X x)(hm:X.mg x=some (.ref f))
  (hk:WF X.K (.ref f)=true) (hb:Me X.K fd ps []) (ha:SA X (a :: es) m)
  (hlen:∀en S r,m en S=some r->r.1.length=n)
  (hdb:(x == ("__debug__" : Str))=false:=by decide) (he:Wy (a :: es) X.env=(false,eval a X.env) :: Wy es X.env:=by rfl) (hpl:(backTo pos (Wy es X.env)).any (·.1)=false:=by rfl) :
  SE X (.Call (.Name x p) (a :: es) [] pos) (Zj F m):=by
 refine ZF (Sw hF hr hg hm hk hb .nil Z1w ha hdb he hpl) ?_
 rintro σ H Q ⟨ρ,en,S,v,S',E,R,e,k⟩
 unfold Zj at e
 obtain⟨r,e1,e2⟩:=W5.mp e
 refine⟨ρ,en,S,r.1,r.2,E,R,e1,λxs ρ1 H1 X1 R1 d1=>?_⟩
 show spD X.K n F (xs++[]) H1 Q E0
 rw [W02]
 exact⟨by rw [←d1.length];exact hlen _ _ _ e1,ρ1,r.2,r.1,v,S',R1,d1,e2,λz ρ2 H2 X2 R2 d2=>k z ρ2 H2 (X1.trans X2) R2 d2⟩
theorem Z7:∀en S r,ZV en S=some r->r.1.length=0:=by
 intro en S r e;cases e;rfl
theorem Z0 {ma:M D}{mr:M (List D)}{n:Nat}(h:∀en S r,mr en S=some r->r.1.length=n):∀en S r,Z3 ma mr en S=some r->r.1.length=n+1:=by
 intro en S r e
 unfold Z3 at e
 obtain⟨p,e1,e⟩:=W5.mp e
 obtain⟨q,e2,e3⟩:=Wi.mp e
 cases e3
 rw [WX,h _ _ _ e2]
mutual
def JR (n:Nat):D->Bool
 | .tup ds=>lowDs n ds
 | .ref k=>decide (k<n)
 |_=>true
def lowDs (n:Nat):List D->Bool
 |[]=>true
 |d :: ds=>JR n d&&lowDs n ds
end
section
variable {K:Wd} {ρ:List Addr} {H:Hp}
mutual
theorem OC:∀(d:D) (x:V),DR K ρ H d x->JR ρ.length d=true
 | .non,_,_=>by unfold JR;rfl
 | .bl _,_,_=>by unfold JR;rfl
 | .int _,_,_=>by unfold JR;rfl
 | .str _,_,_=>by unfold JR;rfl
 | .scr _,_,_=>by unfold JR;rfl
 | .tup ds,x,h=>by
  obtain⟨a,xs,_,_,h3⟩:=h.of_tup
  unfold JR
  exact lows_of ds xs h3
 | .ref n,x,h=>by
  obtain⟨a,h1,_⟩:=h.of_ref
  unfold JR
  exact decide_eq_true (Wo.mp h1).1
theorem lows_of:∀(ds:List D) (xs:List V),DsR K ρ H ds xs->lowDs ρ.length ds=true
 |[],_,_=>by unfold lowDs;rfl
 |d :: ds,xs,h=>by
  unfold DsR at h
  obtain⟨x,r,_,h1,h2⟩:=h
  unfold lowDs
  rw [OC d x h1,lows_of ds r h2];rfl
end
mutual
theorem Ho (n:Nat):∀(d:D) (x:V),DR K ρ H d x->JR n d=true->DR K (ρ.take n) H d x
 | .non,_,h,_=>by unfold DR at h ⊢;exact h
 | .bl _,_,h,_=>by unfold DR at h ⊢;exact h
 | .int _,_,h,_=>by unfold DR at h ⊢;exact h
 | .str _,_,h,_=>by unfold DR at h ⊢;exact h
 | .scr _,_,h,_=>by unfold DR at h ⊢;exact h
 | .tup ds,x,h,l=>by
  obtain⟨a,xs,rfl,h2,h3⟩:=h.of_tup
  unfold JR at l
  exact .tup h2 (cuts_of n ds xs h3 l)
 | .ref k,x,h,l=>by
  obtain⟨a,h1,rfl⟩:=h.of_ref
  unfold JR at l
  exact .ref (by rw [VI (of_decide_eq_true l)];exact h1)
theorem cuts_of (n:Nat):∀(ds:List D) (xs:List V),DsR K ρ H ds xs->lowDs n ds=true->DsR K (ρ.take n) H ds xs
 |[],_,h,_=>by unfold DsR at h ⊢;exact h
 |d :: ds,xs,h,l=>by
  unfold DsR at h
  obtain⟨x,r,rfl,h1,h2⟩:=h
  unfold lowDs at l
  rw [Wl] at l
  exact .cons (Ho n d x h1 l.1) (cuts_of n ds r h2 l.2)
end
end
theorem Z0G {K:Wd}{ρ ρ1:List Addr}{H H1:Hp}{S S1:Sto}(R:StR K ρ H S)(X:Ext ρ H ρ1 H1)(R1:StR K ρ1 H1 S1)(e:S1.take S.length=S):StR K (ρ1.take S.length) H1 S/\Ext ρ H (ρ1.take S.length) H1:=by
 have hl:S.length≤S1.length:=by
  have:=congrArg Ve e
  rw [W0j] at this
  omega
 have low:∀(n:Nat) ob,S[n]? = some ob->n<S.length:=λn ob h=>(Wo.mp h).1
 refine⟨⟨by rw [W0j,R1.len];omega,λi j a h1 h2=>?_,λn ob h=>?_⟩,⟨λn a h=>?_,X.tup,X.frz⟩⟩
 ·have hi:i<S.length:=by
   have:=(Wo.mp h1).1
   rw [W0j] at this;omega
  have hj:j<S.length:=by
   have:=(Wo.mp h2).1
   rw [W0j] at this;omega
  rw [VI hi] at h1
  rw [VI hj] at h2
  exact R1.inj i j a h1 h2
 ·have hn:=low n ob h
  have h1:S1[n]? = some ob:=by rw [←VI hn,e];exact h
  obtain⟨a,e1,r1⟩:=R1.ob n ob h1
  obtain⟨a0,e0,r0⟩:=R.ob n ob h
  refine⟨a,by rw [VI hn];exact e1,?_⟩
  cases ob with
  |lst ds=>
   obtain⟨xs,q1,q2⟩:=r1
   obtain⟨ys,p1,p2⟩:=r0
   have l:=lows_of ds ys p2
   rw [R.len] at l
   exact⟨xs,q1,cuts_of _ ds xs q2 l⟩
  |dct kvs=>
   have l:lowDs S.length (kvs.map (·.2))=true:=by
    rcases r0 with ⟨ks0,ys,p1,p2,p3,p4⟩|⟨ks0,ys,p1,p2,p3,p4⟩
    ·have l:=lows_of _ ys p4
     rw [R.len] at l;exact l
    ·have l:=lows_of _ ys p4
     rw [R.len] at l;exact l
   rcases r1 with ⟨ks,xs,q1,q2,q3,q4⟩|⟨ks,xs,q1,q2,q3,q4⟩
   ·exact .inl ⟨ks,xs,q1,q2,q3,cuts_of _ _ xs q4 l⟩
   ·exact .inr ⟨ks,xs,q1,q2,q3,cuts_of _ _ xs q4 l⟩
  |fdct kvs=>
   obtain⟨o,ks,xs,q1,q2,q3,q4⟩:=r1
   obtain⟨o',ks0,ys,p1,p2,p3,p4⟩:=r0
   have l:=lows_of _ ys p4
   rw [R.len] at l
   exact⟨o,ks,xs,q1,q2,q3,cuts_of _ _ xs q4 l⟩
  |ins C fs=>
   obtain⟨Ca,dx,xs,q0,q1,q2⟩:=r1
   obtain⟨Ca0,dx0,ys,p0,p1,p2⟩:=r0
   have l:=lows_of _ ys p2
   rw [R.len] at l
   exact⟨Ca,dx,xs,q0,q1,cuts_of _ _ xs q2 l⟩
 ·have hn:n<S.length:=by rw [←R.len];exact (Wo.mp h).1
  rw [VI hn]
  exact X.pre n a h
open Classical in
def Ml (S:Sto)(r:D×Sto):D×Sto:=if r.2.take S.length=S/\JR S.length r.1=true then (r.1,S) else r
def JY (nN:Nat)(ds:List D):En:=ds.map some++W0D (nN-ds.length) none
def QM (nN n:Nat)(m:MS):List D->Sto->Option (D×Sto):=λds S=>if ds.length=n then (m (JY nN ds) S).bind λp=>match p.1 with
 | .rt v=>some (Ml S (v,p.2.2))
 | .nx=>some (Ml S (.non,p.2.2))
 |_=>none
 else none
theorem Rv {K:Wd}{ρ ρ1:List Addr}{H H1:Hp}{S S1 S':Sto}{v v':D}{x:V}{Q:VK}(R:StR K ρ H S)(X:Ext ρ H ρ1 H1)(R1:StR K ρ1 H1 S1)(d:DR K ρ1 H1 v x)(e:Ml S (v,S1)=(v',S'))
  (k:∀z ρ' H',Ext ρ H ρ' H'->StR K ρ' H' S'->DR K ρ' H' v' z->Q z H'):Q x H1:=by
 unfold Ml at e
 split at e
 ·rename_i h
  cases e
  obtain⟨R2,X2⟩:=Z0G R X R1 h.1
  exact k x _ H1 X2 R2 (Ho _ v x d h.2)
 ·cases e
  exact k x ρ1 H1 X R1 d
theorem FE {K:Wd}{ρ:List Addr}{H:Hp}{ds:List D}{vs:List V}{N:List Str}(h:DsR K ρ H ds vs):EnR K ρ H (JY N.length ds) (L2.start N vs):=by
 unfold JY L2.start
 refine⟨by simp [h.length],λi d e=>?_⟩
 by_cases hi:i<ds.length
 ·rw [V2 (by simpa using hi),WG] at e
  rw [V2 (by rw [We,←h.length];exact hi),WG]
  cases q:ds[i]? with
  |none=>rw [q] at e;cases e
  |some c=>
   rw [q] at e;cases e
   obtain⟨x,h1,h2⟩:=h.get q
   exact⟨x,by rw [h1];rfl,h2⟩
 ·rw [WV (by simpa using hi),W0n] at e
  split at e<;>cases e
theorem JI {P:Program}{w:World}{K:Wd}{mg:Str->Option Value}{base:Heap}{x qual:Str}{st:Stmt}{f:Addr}{fd:FuncData}{N ps:List Str}{k n nN:Nat}{m:MS}(F:Fun K x qual st f fd)(S:FnScope N ps (Z2 st))(hn:ps.length=n)(hN:N.length=nN)
  (hb:∀(cdv:Value) (A:Around) (outer:List Env) (s:Shared) (H:Hp) (E:XK),Room k (A.deeper (envOfC qual (Z2 st) s.heap.objs.size f cdv))->SB (IR CX0 P w K mg base N qual (Z2 st) f cdv A outer s H E).nox (Zk st) m) :
  FnOk P w K mg base CX0 (k+1) f fd ps (spD K n (QM nN n m)):=by
 refine F.ok S (λvs H Q E h=>by rw [h.1,hn]) (λcdv A outer s H vs Q E hr h=>?_)
 obtain⟨hl,ρ,S0,ds,v,S',R,d1,e,q⟩:=h
 refine⟨_,hb cdv A outer s H E hr,?_⟩
 unfold QM at e
 split at e
 ·obtain⟨p,e1,e2⟩:=W5.mp e
  obtain⟨fl,en',S1⟩:=p
  refine⟨ρ,_,S0,fl,en',S1,hN ▸ FE d1,R,e1,λρ1 H1 σ1 X1 R1 E1=>?_⟩
  cases fl with
  |rt u=>exact λz dz=>Rv R X1 R1 dz (WT e2) q
  |nx=>exact Rv R X1 R1 .flat_non (WT e2) q
  |bk=>cases e2
  |ct=>cases e2
 ·cases e
end
end DL
namespace DL
open PySem PySem.Spec PyProof.Rows L2
theorem Y0 {k:Nat}{A:Around}(hr:Room k A):A.units+64<cLine:=by have:=hr.un;omega
section
variable {X:Cx}
def gLt:D->D->Sto->Option (D×Sto)
 | .int i,.int j,S=>some (.bl (decide (i<j)),S)
 | .str i,.str j,S=>some (.bl (decide (i.cps.toList<j.cps.toList)),S)
 | .tup as,.tup bs,S=>if (Qh 30 (.tup as) (.tup bs)&&(pln 30 (.tup as)&&pln 30 (.tup bs)))=true then some (.bl (ltD (.tup as) (.tup bs)),S) else none
 |_,_,_=>none
theorem XW {a b:D}{S S':Sto}{v:D}(e:gLt a b S=some (v,S')):v = .bl (ltD a b)/\S=S'/\Qh 30 a b=true/\pln 30 a=true/\pln 30 b=true:=by
 cases a with
 |int i=>
  cases b with
  |int j=>cases e;exact⟨by unfold ltD;rfl,rfl,rfl,rfl,rfl⟩
  |_=>cases e
 |str i=>
  cases b with
  |str j=>cases e;exact⟨by unfold ltD;rfl,rfl,rfl,rfl,rfl⟩
  |_=>cases e
 |tup as=>
  cases b with
  |tup bs=>
   dsimp only [gLt] at e
   split at e
   ·rename_i hc
    cases e
    rw [Wl,Wl] at hc
    exact⟨rfl,rfl,hc.1,hc.2.1,hc.2.2⟩
   ·cases e
  |_=>cases e
 |_=>cases e
theorem Pg (hu:X.A.units+64<cLine):OpD X (compareOp .Lt) gLt:=by
 intro pins s σ H x y v u Q I rx ry h
 obtain⟨ρ,S,d1,d2,z,S',R,h1,h2,e,k⟩:=h
 obtain⟨rfl,rfl,hc,p1,p2⟩:=XW e
 exact Et I 30 (by omega) hc p1 p2 h1 h2 rx ry _ _ _ _ ⟨.bl _,H,I,rfl,k _ ρ H Ext.refl R .flat_bl⟩
def Dh (a b:D):Bool:=pln 30 a&&pln 30 b
def gEq:D->D->Sto->Option (D×Sto)
 | .int i,.int j,S=>some (.bl (decide (i=j)),S)
 | .str i,.str j,S=>some (.bl (decide (i=j)),S)
 | .bl i,.bl j,S=>some (.bl (decide (i=j)),S)
 |a,b,S=>if Dh a b=true then some (.bl (eqD a b),S) else none
def gNe:D->D->Sto->Option (D×Sto)
 | .int i,.int j,S=>some (.bl (!decide (i=j)),S)
 | .str i,.str j,S=>some (.bl (!decide (i=j)),S)
 | .bl i,.bl j,S=>some (.bl (!decide (i=j)),S)
 |a,b,S=>if Dh a b=true then some (.bl (!eqD a b),S) else none
theorem Js {α:Type}[BEq α][LawfulBEq α][DecidableEq α](a b:α):(a == b)=decide (a=b):=by
 rw [VX];simp
theorem XY {a b:D}{S S':Sto}{v:D}(e:gEq a b S=some (v,S')):v = .bl (eqD a b)/\S=S'/\pln 30 a=true/\pln 30 b=true:=by
 unfold gEq at e
 split at e
 ·cases e;exact⟨by unfold eqD;dsimp only;rw [Js],rfl,rfl,rfl⟩
 ·cases e;exact⟨by unfold eqD;dsimp only;rw [Js],rfl,rfl,rfl⟩
 ·cases e;exact⟨by unfold eqD;dsimp only;rw [Js],rfl,rfl,rfl⟩
 ·split at e
  ·rename_i hc
   cases e
   unfold Dh at hc
   rw [Wl] at hc
   exact⟨rfl,rfl,hc.1,hc.2⟩
  ·cases e
theorem XV {a b:D}{S S':Sto}{v:D}(e:gNe a b S=some (v,S')):v = .bl (!eqD a b)/\S=S'/\pln 30 a=true/\pln 30 b=true:=by
 unfold gNe at e
 split at e
 ·cases e;exact⟨by unfold eqD;dsimp only;rw [Js],rfl,rfl,rfl⟩
 ·cases e;exact⟨by unfold eqD;dsimp only;rw [Js],rfl,rfl,rfl⟩
 ·cases e;exact⟨by unfold eqD;dsimp only;rw [Js],rfl,rfl,rfl⟩
 ·split at e
  ·rename_i hc
   cases e
   unfold Dh at hc
   rw [Wl] at hc
   exact⟨rfl,rfl,hc.1,hc.2⟩
  ·cases e
theorem QD (hu:X.A.units+64<cLine):OpD X (compareOp .Eq) gEq:=by
 intro pins s σ H x y v u Q I rx ry h
 obtain⟨ρ,S,d1,d2,z,S',R,h1,h2,e,k⟩:=h
 obtain⟨rfl,rfl,p1,p2⟩:=XY e
 exact DN I 30 (by omega) p1 p2 h1 h2 rx ry _ _ _ _ ⟨.bl _,H,I,rfl,k _ ρ H Ext.refl R .flat_bl⟩
theorem Ek (hu:X.A.units+64<cLine):OpD X (compareOp .NotEq) gNe:=by
 intro pins s σ H x y v u Q I rx ry h
 obtain⟨ρ,S,d1,d2,z,S',R,h1,h2,e,k⟩:=h
 obtain⟨rfl,rfl,p1,p2⟩:=XV e
 exact DM I 30 (by omega) p1 p2 h1 h2 rx ry _ _ _ _ ⟨.bl _,H,I,rfl,k _ ρ H Ext.refl R .flat_bl⟩
def inD (x:D):D->Sto->Option Bool
 | .str j,_=>match x with | .str i=>some (!(Builtin.Str.occurrences j i 0 j.length 1).isEmpty)|_=>none
 | .tup ys,_=>if (pln 30 x&&ys.all (pln 30))=true then some (ys.any λy=>eqD y x) else none
 | .ref n,S=>match S[n]? with
  |some (.lst ys)=>if (pln 30 x&&ys.all (pln 30))=true then some (ys.any λy=>eqD y x) else none
  |_=>(JT S n x).map λkvs=>(UH kvs x).isSome
 |_,_=>none
def gIn:D->D->Sto->Option (D×Sto):=λa b S=>(inD a b S).map λr=>(.bl r,S)
theorem MU {pins:List (Addr×Obj)}{σ:L2.St}{H:Hp}{s:Shared}{ρ:List Addr}{A:Around}{x:D}{vx:V}{ux:Value}{ys:List D}{vs:List V}{us:List Value}(I:Inv X pins σ H s)(hu:A.units+64<cLine)
  (px:pln 30 x=true) (py:ys.all (pln 30)=true) (hx:DR X.K ρ H x vx) (rx:ZL vx ux) (hy:DsR X.K ρ H ys vs) (ry:Y1 vs us) :
  ∃e:Value->Bool,(∀u,u∈us->V5 A.in1 s u ux (e u))/\us.any e=ys.any λy=>eqD y x:=by
 classical
 let P:Value->D->Prop:=λu d=>pln 30 d=true/\∃v,ZL v u/\DR X.K ρ H d v
 refine⟨λu=>if h:∃d,P u d then eqD (Classical.choose h) x else false,?_,?_⟩
 ·intro u hm
  obtain⟨i,hi⟩:=VN.mp hm
  have hlen:=ry.length
  have hlen2:=hy.length
  have li:i<us.length:=(Wo.mp hi).1
  have g1:ys[i]? = some ys[i]:=Wm (by omega)
  obtain⟨v,v1,v2⟩:=hy.get g1
  obtain⟨u',u1,u2⟩:=ry.get v1
  rw [hi] at u1
  cases u1
  have pd:=Wq.mp py _ (W0l (by omega:i<ys.length))
  have h:∃d,P u d:=⟨ys[i],pd,v,u2,v2⟩
  dsimp only
  rw [dif_pos h]
  obtain⟨q1,v',q2,q3⟩:=W1W h
  exact Gp I 30 (by rw [in1_units];omega) q1 px q3 hx q2 rx
 ·have key:∀{ys:List D} {vs:List V} {us:List Value},ys.all (pln 30)=true->DsR X.K ρ H ys vs->Y1 vs us->us.any (λu=>if h:∃d,P u d then eqD (Classical.choose h) x else false)=ys.any λy=>eqD y x:=by
   intro ys
   induction ys with
   |nil=>
    intro vs us _ hy ry
    unfold DsR at hy
    subst hy
    cases ry
    rfl
   |cons d ys ih=>
    intro vs us py hy ry
    unfold DsR at hy
    obtain⟨v,r,rfl,h1,h2⟩:=hy
    cases ry with
    | @cons _ u _ us' r1 r2=>
     rw [Vf,Wl] at py
     rw [W0X,W0X,ih py.2 h2 r2]
     have h:∃d,P u d:=⟨d,py.1,v,r1,h1⟩
     rw [dif_pos h]
     obtain⟨q1,v',q2,q3⟩:=W1W h
     have hv:v'=v:=ZL.inj q2 r1
     subst hv
     rw [DR.one 30 _ d _ q1 py.1 q3 h1]
  exact key py hy ry
theorem Em (hu:X.A.units+64<cLine):OpD X (compareOp .In) gIn:=by
 intro pins s σ H x y v u Q I rx ry h
 obtain⟨ρ,S,d1,d2,z,S',R,h1,h2,e,k⟩:=h
 obtain⟨r,e1,e2⟩:=Wi.mp e
 cases e2
 cases d2 with
 |str j=>
  cases d1 with
  |str i=>
   cases e1
   rw [h1.of_str] at rx
   rw [h2.of_str] at ry
   obtain⟨t,rfl⟩:=rx
   obtain⟨t',rfl⟩:=ry
   exact in_str ⟨.bl _,H,I,rfl,k _ ρ H Ext.refl R .flat_bl⟩
  |_=>cases e1
 |tup ys=>
  dsimp only [inD] at e1
  split at e1
  ·rename_i hc
   cases e1
   rw [Wl] at hc
   obtain⟨a,xs,rfl,a1,a2⟩:=h2.of_tup
   cases ry
   obtain⟨its,q,pl,hz⟩:=I.tuple (.of a1)
   obtain⟨f,f1,f2⟩:=MU I hu hc.1 hc.2 h1 rx a2 q
   refine SeqAt.in_tupleAt f pl (λw hw=>f1 w (by simpa using hw)) ⟨.bl _,H,I,rfl,?_⟩
   rw [show its.toArray.any f=its.any f by simp,f2]
   exact k _ ρ H Ext.refl R .flat_bl
  ·cases e1
 |ref n=>
  obtain⟨a,a1,rfl⟩:=h2.of_ref
  cases ry
  dsimp only [inD] at e1
  split at e1
  ·rename_i ys hn
   split at e1
   ·rename_i hc
    cases e1
    rw [Wl] at hc
    obtain⟨ob,eo,ro⟩:=R.obj a1
    rw [hn] at eo
    cases eo
    obtain⟨xs,x1,x2⟩:=ro
    obtain⟨its,q,pl,hz⟩:=I.list (.of x1)
    obtain⟨f,f1,f2⟩:=MU I hu hc.1 hc.2 h1 rx x2 q
    refine SeqAt.in_listAt f pl.isList (λw hw=>f1 w (by simpa using hw)) ⟨.bl _,H,I,rfl,?_⟩
    rw [show its.toArray.any f=its.any f by simp,f2]
    exact k _ ρ H Ext.refl R .flat_bl
   ·cases e1
  ·obtain⟨kvs,e3,e4⟩:=Wi.mp e1
   subst e4
   obtain⟨g1,g2⟩:=M7 R a1 e3 h1
   cases hd:UH kvs d1 with
   |some w=>
    rw [hd] at k
    obtain⟨x',x1,x2⟩:=g1 w hd
    exact Z0z (by omega) I x1 rx λs' I'=>⟨.bl _,H,I',rfl,k _ ρ H Ext.refl R .flat_bl⟩
   |none=>
    rw [hd] at k
    exact Z0z (by omega) I (g2 hd) rx λs' I'=>⟨.bl _,H,I',rfl,k _ ρ H Ext.refl R .flat_bl⟩
 |_=>cases e1
end
end DL
namespace DL
open PySem PySem.Spec PyProof.Rows PySem.W L2
section
variable {X:Cx} {pins:List (Addr×Obj)} {σ:L2.St} {H:Hp} {s:Shared} {ρ:List Addr}
theorem Sy (I:Inv X pins σ H s)(n:Nat){A:Around}(hu:A.units+n<cLine):∀{as bs:List D} {xs ys:List V} {its its2:List Value},as.all (pln n)=true->bs.all (pln n)=true->((as.zip bs).all λp=>Qh n p.1 p.2)=true->DsR X.K ρ H as xs->DsR X.K ρ H bs ys->Y1 xs its->Y1 ys its2->
  Paired (Gv A s) (its.zip its2) ((as.zip bs).map λp=>(eqD p.1 p.2,ltD p.1 p.2)):=by
 intro as
 induction as with
 |nil=>
  intro bs xs ys its its2 _ _ _ q1 _ q3 _
  unfold DsR at q1
  subst q1
  cases q3
  exact .nil
 |cons d as ih2=>
  intro bs xs ys its its2 z1 z2 z3 q1 q2 q3 q4
  unfold DsR at q1
  obtain⟨x,r,rfl,h1,h2⟩:=q1
  cases q3 with
  |cons r1 r2=>
   cases bs with
   |nil=>
    unfold DsR at q2
    subst q2
    cases q4
    exact .nil
   |cons e bs=>
    unfold DsR at q2
    obtain⟨y,r',rfl,h3,h4⟩:=q2
    cases q4 with
    |cons r3 r4=>
     rw [Vf,Wl] at z1 z2
     rw [WR,Vf,Wl] at z3
     rw [WR,WR,W1]
     exact .cons ⟨Gp I n hu z1.1 z2.1 h1 h3 r1 r3,λ_=>Et I n hu z3.1 z1.1 z2.1 h1 h3 r1 r3⟩ (ih2 z1.2 z2.2 z3.2 h2 h4 r2 r4)
def Z0H (A:Around)(s:Shared)(k:Bool)(u v:Value)(b:Bool):Prop:=∀(prog:Program) (w:World) (E:Value->Shared->Prop) (Q:Bool->Shared->Prop),Q b s->wpAny (model prog w) A (oneLt' k u v) Q E s
theorem D4.one {A:Around}{u v:Value}{b:Bool}(h:D4 A s u v b):Z0H A s false u v b:=λprog w E Q hq=>kat_one u v (h prog w E _ hq)
theorem ET {A:Around}{b fin:Bool}{prog:Program}{w:World}{Q:Bool->Shared->Prop}:∀{zs:List (Value×Value)} {ps:List (Bool×Bool)} (i:Nat),Paired (Gv A s) zs ps->
  (b=true->i=0->∀z r p q,zs=z :: r->ps=p :: q->p.1=false->Z0H A s true z.1 z.2 p.2)->Q (NV ps fin) s->KatLex prog w A b fin Q zs i s
 |[],_,i,.nil,_,h=>h
 |z :: zs,p :: ps,i,.cons hp ht,h1,h=>by
  unfold NV at h
  refine kat_cons (hp.1 prog w _ _ ?_)
  cases e:p.1 with
  |true=>
   rw [if_pos e] at h
   exact kat_yes (ET (i+1) ht (λ_ z=>absurd z (Nat.succ_ne_zero i)) h)
  |false=>
   rw [if_neg (by rw [e];exact Wu)] at h
   refine kat_no ?_
   have ho:=(hp.2 e).one
   cases hb:b&&i == 0 with
   |false=>exact ho prog w _ _ h
   |true=>
    rw [Wl] at hb
    exact h1 hb.1 (eq_of_beq hb.2) z zs p ps rfl rfl e prog w _ _ h
def skD:D->Option Nat
 | .int _=>some 0
 | .str _=>some 1
 | .tup (.int _ :: _)=>some 2
 | .tup (.str _ :: _)=>some 3
 | .tup (.tup _ :: _)=>some 4
 |_=>none
def FK (ds:List D):Bool:=[0,1,2,3,4].any λc=>ds.all λd=>skD d == some c
def Ft (ds:List D):Bool:=ds.all (pln 30)&&ds.all λa=>ds.all λb=>Qh 30 a b
def Yg (ds:List D):Bool:=decide (ds.length<64)&&(decide (ds.length<2)||(FK ds&&Ft ds))
theorem B3 {ds:List D}(h:Ft ds=true):Q6 30 ds:=by
 unfold Ft at h
 rw [Wl,Wq,Wq] at h
 exact⟨h.1,λa ha b hb=>Wq.mp (h.2 a ha) b hb⟩
theorem Mi {ds:List D}{xs:List V}{vs:List Value}(h:DsR X.K ρ H ds xs)(r:Y1 xs vs){i:Nat}{d:D}(e:ds[i]? = some d):∃x v,DR X.K ρ H d x/\ZL x v/\vs[i]? = some v:=by
 obtain⟨x,x1,x2⟩:=h.get e
 obtain⟨v,v1,v2⟩:=r.get x1
 exact⟨x,v,x2,v2,v1⟩
theorem Mh {ds:List D}{xs:List V}{vs:List Value}(h:DsR X.K ρ H ds xs)(r:Y1 xs vs){v:Value}(hv:v∈vs):∃d x,d∈ds/\DR X.K ρ H d x/\ZL x v:=by
 obtain⟨i,hi,e⟩:=W0F.mp hv
 have hl:ds.length=vs.length:=h.length.trans r.length
 obtain⟨x,v',a,b,c⟩:=Mi h r (i:=i) (Wm (by omega))
 rw [Wm hi,e] at c
 cases c
 exact⟨_,x,W0l _,a,b⟩
theorem E8 {as:List D}{c:Nat}(e:skD (.tup as)=some c):∃h t,as=h :: t/\((∃i,h = .int i/\c=2)\/(∃x,h = .str x/\c=3)\/∃l,h = .tup l/\c=4):=by
 cases as with
 |nil=>cases e
 |cons h t=>
  cases h with
  |int i=>cases e;exact⟨_,t,rfl,.inl ⟨i,rfl,rfl⟩⟩
  |str i=>cases e;exact⟨_,t,rfl,.inr (.inl ⟨i,rfl,rfl⟩)⟩
  |tup i=>cases e;exact⟨_,t,rfl,.inr (.inr ⟨i,rfl,rfl⟩)⟩
  |_=>cases e
def tyC:Nat->String
 |2=>"int"
 |3=>"str"
 |_=>"tuple"
theorem IJ (I:Inv X pins σ H s){c:Nat}(hc:2≤c){d:D}{x:V}{v:Value}(e:skD d=some c)(h:DR X.K ρ H d x)(r:ZL x v) :
  ∃a o xs n f,v = .ref a/\s.heap.get? a=some o/\o.cls = .type "tuple"/\o.data = .seq xs n/\xs[0]? = some f/\∀M,Looks M s.heap (typeOf f) (.type (tyC c)):=by
 unfold skD at e
 split at e
 ·cases e;omega
 ·cases e;omega
 all_goals first|(cases e;done)|skip
 all_goals
  cases e
  obtain⟨a,xs,rfl,a1,a2⟩:=h.of_tup
  cases r
  obtain⟨its,rv,⟨o,ho,hoc,n,hd⟩,_⟩:=I.tuple (.of a1)
  unfold DsR at a2
  obtain⟨y,ys,rfl,b1,b2⟩:=a2
  cases rv with
  | @cons _ f _ fs r1 r2=>
   refine⟨a,o,_,n,f,rfl,ho,hoc,hd,by simp,?_⟩
   first
   | (rw [b1.of_int] at r1;obtain⟨t,rfl⟩:=r1;exact λM=>Looks.of_pure rfl)
   | (rw [b1.of_str] at r1;obtain⟨t,rfl⟩:=r1;exact λM=>Looks.of_pure rfl)
   | (obtain⟨b,zs,rfl,c1,_⟩:=b1.of_tup
      cases r1
      obtain⟨_,_,⟨o2,ho2,hc2,_⟩,_⟩:=I.tuple (.of c1)
      exact λM=>kitAt_ty M s.heap ⟨o2,ho2,hc2⟩)
theorem BM (I:Inv X pins σ H s){c:Nat}(hc:2≤c):∀{ds:List D} {xs:List V} {vs:List Value},(∀d∈ds,skD d=some c)->DsR X.K ρ H ds xs->Y1 xs vs->∃fs,KatTups s.heap vs fs/\fs.length=vs.length/\∀f∈fs,∀M,Looks M s.heap (typeOf f) (.type (tyC c))
 |[],xs,vs,_,h,r=>by
  unfold DsR at h
  subst h
  cases r
  exact⟨[],trivial,rfl,λf hf=>by cases hf⟩
 |d :: ds,xs,vs,hk,h,r=>by
  unfold DsR at h
  obtain⟨x,xr,rfl,h1,h2⟩:=h
  cases r with
  |cons r1 r2=>
   obtain⟨fs,f1,f2,f3⟩:=BM I hc (λd hd=>hk d (Wz _ hd)) h2 r2
   obtain⟨a,o,ys,n,f,rfl,g1,g2,g3,g4,g5⟩:=IJ I hc (hk d Ws) h1 r1
   exact⟨f :: fs,KatTups.cons g1 g2 g3 g4 f1,by simp [f2],λg hg=>by
    rcases Ww.mp hg with z|z
    ·subst z;exact g5
    ·exact f3 g z⟩
theorem PU (I:Inv X pins σ H s){A:Around}(hu:A.units+64<cLine){c:Nat}(hc:2≤c){d1 d2:D}{x y:V}{u v:Value}(e1:skD d1=some c)(e2:skD d2=some c)(p1:pln 30 d1=true)(p2:pln 30 d2=true)(hcm:Qh 30 d1 d2=true)
  (h1:DR X.K ρ H d1 x) (h2:DR X.K ρ H d2 y) (r1:ZL x u) (r2:ZL y v) {prog:Program} {w:World} {E:Value->Shared->Prop} {Q:Bool->Shared->Prop} (hq:Q (ltD d1 d2) s) :
  wpAny (model prog w) A (keyLt' (tuples' (Value.type (tyC c) != Value.type "tuple")) u v) Q E s:=by
 cases d1 with
 |tup as=>
  cases d2 with
  |tup bs=>
   obtain⟨a,xs,rfl,a1,a2⟩:=h1.of_tup
   obtain⟨b,ys,rfl,b1,b2⟩:=h2.of_tup
   cases r1
   cases r2
   obtain⟨its,rv1,⟨o,ho,hoc,n,hd⟩,_⟩:=I.tuple (.of a1)
   obtain⟨its2,rv2,⟨o2,ho2,hoc2,n2,hd2⟩,_⟩:=I.tuple (.of b1)
   have p1':as.all (pln 29)=true:=by unfold pln at p1;exact p1
   have p2':bs.all (pln 29)=true:=by unfold pln at p2;exact p2
   have hc':((as.zip bs).all λp=>Qh 29 p.1 p.2)=true:=by unfold Qh at hcm;exact hcm
   have hp:=Sy I 29 (A:=A) (by omega) p1' p2' hc' a2 b2 rv1 rv2
   refine kat_lt ho hd ho2 hd2 (ET 0 (by simpa using hp) (λhb _ z r p q ez ep e=>?_) ?_)
   ·obtain⟨h1',t1',rfl,w1⟩:=E8 e1
    obtain⟨h2',t2',rfl,w2⟩:=E8 e2
    unfold DsR at a2 b2
    obtain⟨x,_,rfl,a2,_⟩:=a2
    obtain⟨y,_,rfl,b2,_⟩:=b2
    cases rv1 with
    |cons q1 q2=>
     cases rv2 with
     |cons q3 q4=>
      simp only [WR,W1,VO] at ez ep
      obtain⟨rfl,_⟩:=ez
      obtain⟨rfl,_⟩:=ep
      rcases w1 with ⟨i,rfl,rfl⟩|⟨i,rfl,rfl⟩|⟨i,rfl,rfl⟩
      ·rcases w2 with ⟨j,rfl,z⟩|⟨j,rfl,z⟩|⟨j,rfl,z⟩
       ·rw [a2.of_int] at q1
        rw [b2.of_int] at q3
        obtain⟨t,rfl⟩:=q1
        obtain⟨t',rfl⟩:=q3
        exact λprog w E Q hq=>oneLt_int (by unfold ltD at hq;exact hq)
       ·cases z
       ·cases z
      ·rcases w2 with ⟨j,rfl,z⟩|⟨j,rfl,z⟩|⟨j,rfl,z⟩
       ·cases z
       ·rw [a2.of_str] at q1
        rw [b2.of_str] at q3
        obtain⟨t,rfl⟩:=q1
        obtain⟨t',rfl⟩:=q3
        exact λprog w E Q hq=>oneLt_str (by unfold ltD at hq;exact hq)
       ·cases z
      ·exact absurd hb (by decide)
   ·rw [QT,GS,a2.length,b2.length,rv1.length,rv2.length] at hq
    simpa using hq
  |_=>cases hcm
 |int i=>unfold skD at e1;cases e1;omega
 |str i=>unfold skD at e1;cases e1;omega
 |_=>cases hcm
theorem Z0E (I:Inv X pins σ H s){ds:List D}{xs:List V}{vs:List Value}(h:DsR X.K ρ H ds xs)(r:Y1 xs vs)(h2:2≤ds.length)(hk:FK ds=true)(hc:Ft ds=true) :
  ∃κ:SortKind,(∀(prog:Program) (w:World) (A:Around) (E:Value->Shared->Prop) (Q:SortKind->Shared->Prop),Q κ s->wpAny (model prog w) A (keyKind' vs.toArray) Q E s)/\
   ∀(prog:Program) (w:World) (A:Around),A.units+64<cLine->∀i j,i<ds.length->j<ds.length->∀C:Bool->Shared->Prop,C (ltD (ds.getD i .non) (ds.getD j .non)) s->kas_ask prog w A κ vs i j C s:=by
 have hl:ds.length=vs.length:=h.length.trans r.length
 obtain⟨hp,hcm⟩:=B3 hc
 unfold FK at hk
 rw [V1] at hk
 obtain⟨c,hcm5,hall⟩:=hk
 have hall':∀d∈ds,skD d=some c:=λd hd=>eq_of_beq (Wq.mp hall d hd)
 have at_:∀i,i<ds.length->∃x v,ds.getD i .non∈ds/\DR X.K ρ H (ds.getD i .non) x/\ZL x v/\vs.getD i Value.none=v:=λi hi=>by
  obtain⟨x,v,a,b,e⟩:=Mi h r (i:=i) (Wm hi)
  have e1:ds.getD i .non=ds[i]:=by simp [hi]
  rw [e1]
  exact⟨x,v,W0l _,a,b,by rw [VD,e];rfl⟩
 by_cases c2:2≤c
 ·obtain⟨fs,f1,f2,f3⟩:=BM I c2 hall' h r
  refine⟨tuples' (Value.type (tyC c) != Value.type "tuple"),λprog w A E Q hq=>kat_kind f1 (by omega) (λf hf=>f3 f hf _) (by exact beq_self_eq_true _) hq,λprog w A hu i j hi hj C hC=>?_⟩
  obtain⟨x,u,m1,a1,b1,e1⟩:=at_ i hi
  obtain⟨y,v,m2,a2,b2,e2⟩:=at_ j hj
  unfold kas_ask
  rw [e1,e2]
  exact PU I hu c2 (hall' _ m1) (hall' _ m2) (hp _ m1) (hp _ m2) (hcm _ m1 _ m2) a1 a2 b1 b2 hC
 ·by_cases c0:c=0
  ·subst c0
   have isI:∀d∈ds,∃i,d = .int i:=λd hd=>by
    have e:=hall' d hd
    unfold skD at e
    split at e<;>first|(cases e;done)|exact⟨_,rfl⟩
   refine⟨oneType',λprog w A E Q hq=>kas_kind (T:=.type "int") (by omega) (λv hv=>?_) (by decide) (by decide) hq,λprog w A hu i j hi hj C hC=>?_⟩
   ·obtain⟨d,x,m,a,b⟩:=Mh h r hv
    obtain⟨i,rfl⟩:=isI d m
    rw [a.of_int] at b
    obtain⟨t,rfl⟩:=b
    exact Looks.of_pure rfl
   ·obtain⟨x,u,m1,a1,b1,e1⟩:=at_ i hi
    obtain⟨y,v,m2,a2,b2,e2⟩:=at_ j hj
    unfold kas_ask
    rw [e1,e2]
    obtain⟨p,ep⟩:=isI _ m1
    obtain⟨q,eq⟩:=isI _ m2
    rw [ep] at a1 hC
    rw [eq] at a2 hC
    rw [a1.of_int] at b1
    rw [a2.of_int] at b2
    obtain⟨t,rfl⟩:=b1
    obtain⟨t',rfl⟩:=b2
    exact oneLt_int (by unfold ltD at hC;exact hC)
  ·have c1:c=1:=by omega
   subst c1
   have isS:∀d∈ds,∃i,d = .str i:=λd hd=>by
    have e:=hall' d hd
    unfold skD at e
    split at e<;>first|(cases e;done)|exact⟨_,rfl⟩
   refine⟨oneType',λprog w A E Q hq=>kas_kind (T:=.type "str") (by omega) (λv hv=>?_) (by decide) (by decide) hq,λprog w A hu i j hi hj C hC=>?_⟩
   ·obtain⟨d,x,m,a,b⟩:=Mh h r hv
    obtain⟨i,rfl⟩:=isS d m
    rw [a.of_str] at b
    obtain⟨t,rfl⟩:=b
    exact Looks.of_pure rfl
   ·obtain⟨x,u,m1,a1,b1,e1⟩:=at_ i hi
    obtain⟨y,v,m2,a2,b2,e2⟩:=at_ j hj
    unfold kas_ask
    rw [e1,e2]
    obtain⟨p,ep⟩:=isS _ m1
    obtain⟨q,eq⟩:=isS _ m2
    rw [ep] at a1 hC
    rw [eq] at a2 hC
    rw [a1.of_str] at b1
    rw [a2.of_str] at b2
    obtain⟨t,rfl⟩:=b1
    obtain⟨t',rfl⟩:=b2
    exact oneLt_str (by unfold ltD at hC;exact hC)
end
def ltI (ds:List D)(i j:Nat):Bool:=if i<ds.length then (if j<ds.length then ltD (ds.getD i .non) (ds.getD j .non) else true) else (if j<ds.length then false else decide (i<j))
theorem JB {ds:List D}{i:Nat}(h:i<ds.length):ds.getD i .non∈ds:=by
 have e1:ds.getD i .non=ds[i]:=by simp [h]
 rw [e1];exact W0l _
theorem Oe {ds:List D}(h:Q6 30 ds):KS.Ord (ltI ds) where
 irr:=λi=>by
  unfold ltI
  by_cases hi:i<ds.length
  ·rw [if_pos hi,if_pos hi];exact NS 30 _ (h.1 _ (JB hi))
  ·rw [if_neg hi,if_neg hi];simp
 as:=λi j=>by
  unfold ltI
  by_cases hi:i<ds.length<;>by_cases hj:j<ds.length<;>simp only [hi,hj,if_true,if_false]
  ·exact h.as (JB hi) (JB hj)
  ·intro _;trivial
  ·intro z;cases z
  ·simp only [decide_eq_true_eq,decide_eq_false_iff_not];omega
 tr:=λi j k=>by
  unfold ltI
  by_cases hi:i<ds.length<;>by_cases hj:j<ds.length<;>by_cases hk:k<ds.length<;>simp only [hi,hj,hk,if_true,if_false]<;>(try (intro _ _;first|rfl|trivial))<;>(try (intro z;cases z;done))<;>(try (intro _ z;cases z;done))
  ·exact h.le_tr (JB hi) (JB hj) (JB hk)
  ·simp only [decide_eq_false_iff_not] at *;omega
theorem Do {α:Type}{n:Nat}{lt:Nat->Nat->Bool}{cmp:Nat->Nat->(Bool->Shared->Prop)->Shared->Prop}{s:Shared}(hc:∀i j,i<n->j<n->∀C:Bool->Shared->Prop,C (lt i j) s->cmp i j C s) :
  ∀(t:KasT α) (Q:α->Shared->Prop),KS.Rg n t->Q (KS.ev lt t) s->t.kasWp cmp Q s
 | .ret _,_,_,h=>h
 | .ask i j k,Q,⟨h1,h2,h3⟩,h=>hc i j h1 h2 _ (Do hc (k (lt i j)) Q (h3 _) h)
theorem Z1x {ds:List D}(h:Q6 30 ds)(hn:1≤ds.length):((KS.ev (ltI ds) (W1N ds.length)).toList.map λi=>ds.getD i .non)=Y6 ds:=by
 obtain⟨hp,hs⟩:=KS.sort_ok (Oe h) hn
 generalize KS.ev (ltI ds) (W1N ds.length)=p at *
 have hpl:p.toList.Perm (W7 ds.length):=hp.toList
 have hsz:p.size=ds.length:=by have:=hpl.length_eq;simpa using this
 have hr:(W7 ds.length).map (λi=>ds.getD i .non)=ds:=by
  apply List.ext_getElem
  ·simp
  ·intro i h1 h2
   simp [h2]
 refine Nr h ?_ ?_
 ·have:=hpl.map λi=>ds.getD i D.non
  rw [hr] at this
  exact this
 ·rw [W1b]
  intro i j hi hj hij
  simp only [We,WE] at hi hj
  simp only [List.getElem_map,Array.getElem_toList]
  have hs':=hs i j (by omega) (by omega)
  have e1:p.getD i 0=p[i]:=by simp [Array.getD,hi]
  have e2:p.getD j 0=p[j]:=by simp [Array.getD,hj]
  rw [e1,e2] at hs'
  have m1:p[i]<ds.length:=by
   have:p[i]∈W7 ds.length:=hpl.mem_iff.mp (by simp)
   simpa using this
  have m2:p[j]<ds.length:=by
   have:p[j]∈W7 ds.length:=hpl.mem_iff.mp (by simp)
   simpa using this
  show ltD (ds.getD p[j] .non) (ds.getD p[i] .non)=false
  have:ltI ds p[j] p[i]=false:=hs'
  unfold ltI at this
  rw [if_pos m2,if_pos m1] at this
  exact this
end DL
namespace DL
open PySem PySem.Spec PyProof.Rows PySem.W L2
theorem Z0O {k:Nat}{A:Around}(hr:Room k A):A.units+70<cLine:=by have:=hr.un;omega
section
variable {X:Cx} {pins:List (Addr×Obj)} {σ:L2.St} {H:Hp} {s:Shared} {ρ:List Addr}
theorem Bb {xs:List V}{vs:List Value}(r:Y1 xs vs):∀is:List Nat,(∀i∈is,i<xs.length)->Y1 (is.map λi=>xs.getD i .non) (is.map λi=>vs.getD i Value.none)
 |[],_=>.nil
 |i :: is,h=>by
  have hi:=h i Ws
  obtain⟨v,e,q⟩:=r.get (Wm hi)
  refine .cons ?_ (Bb r is λj hj=>h j (Wz _ hj))
  show ZL (xs.getD i .non) (vs.getD i Value.none)
  rw [VD,VD,Wm hi,e]
  exact q
theorem LO {ds:List D}{xs:List V}(h:DsR X.K ρ H ds xs):∀is:List Nat,(∀i∈is,i<ds.length)->DsR X.K ρ H (is.map λi=>ds.getD i .non) (is.map λi=>xs.getD i .non)
 |[],_=>.nil
 |i :: is,hh=>by
  have hi:=hh i Ws
  obtain⟨x,e,q⟩:=h.get (Wm hi)
  refine .cons ?_ (LO h is λj hj=>hh j (Wz _ hj))
  show DR X.K ρ H (ds.getD i .non) (xs.getD i .non)
  rw [VD,VD,Wm hi,e]
  exact q
theorem NU {A:Around}{E:Value->Shared->Prop}{P:PySem.Fin->Shared->Prop}{a:Addr}{ds:List D}{xs:List V}(I:Inv X pins σ H s)(hu:A.units+64<cLine)(ha:H a=some (.lst xs))(h:DsR X.K ρ H ds xs)(ok:Yg ds=true)
  (q:∀(is:List Nat) s',(∀i∈is,i<ds.length)->(is.map λi=>ds.getD i D.non)=Y6 ds->Inv X pins σ (upd H a (.lst (is.map λi=>xs.getD i .non))) s'->P (.done (.ret .none)) s') :
  wpAny (model X.prog X.w) A (Builtin.«list.sort» ⟨[.ref a],[]⟩) P E s:=by
 obtain⟨hz,vs,n,rv,ho⟩:=(show ZI X.prog X.w H s.heap a (.lst xs) from I.hok a _ ha)
 have hl:ds.length=vs.length:=h.length.trans rv.length
 unfold Yg at ok
 rw [Wl,decide_eq_true_eq] at ok
 have h64:vs.length<64:=by omega
 have s1:=W00 s.heap a (Vo λ_=>(#[]:Array Value))
 obtain⟨e1,ho1⟩:∃e1,(s.heap.update a (Vo λ_=>(#[]:Array Value))).get? a=some (seqObj "list" #[] e1):=⟨_,get?_update_seq ho λ_=>#[]⟩
 have hX:∀o,Ext ρ H ρ (upd H a o):=λo=>Ext.upd ha (λ_ z=>nomatch z) λ_ _ z=>nomatch z
 have I1:Inv X pins σ (upd H a (.lst [])) { s with heap:=s.heap.update a (Vo λ_=>(#[]:Array Value)) }:=UI (s:=s) (t':=s.toks) I (by rw [ha];exact True.intro) s1 ⟨_,ho1⟩ (show ZI X.prog X.w _ _ a (.lst []) from ⟨VH _,[],e1,.nil,ho1⟩)
 have I3:Inv X pins σ (upd H a (.lst [])) { s with heap:=((s.heap.update a (Vo λ_=>(#[]:Array Value))).push (seqObj "tuple" vs.toArray 0)).push (seqObj "list" #[] 0) }:=
  I1.kept (t':=s.toks) λb o e=>Wj _ (Wj _ e)
 have ho3:(((s.heap.update a (Vo λ_=>(#[]:Array Value))).push (seqObj "tuple" vs.toArray 0)).push (seqObj "list" #[] 0)).get? a=some (seqObj "list" #[] e1):=Wj _ (Wj _ ho1)
 have fin:∀(is:List Nat),(∀i∈is,i<ds.length)->is.length≤Wk->(is.map λi=>ds.getD i D.non)=Y6 ds->P (.done (.ret .none)) { s with heap:=(((s.heap.update a (Vo λ_=>(#[]:Array Value))).push (seqObj "tuple" vs.toArray 0)).push (seqObj "list" #[] 0)).update a (Vo λ_=>W0g (is.map λi=>vs.getD i Value.none)) }:=λis hi hlen e=>by
  have s2:=W00 (((s.heap.update a (Vo λ_=>(#[]:Array Value))).push (seqObj "tuple" vs.toArray 0)).push (seqObj "list" #[] 0)) a (Vo λ_=>W0g (is.map λi=>vs.getD i Value.none))
  obtain⟨e2,ho4⟩:∃e2,((((s.heap.update a (Vo λ_=>(#[]:Array Value))).push (seqObj "tuple" vs.toArray 0)).push (seqObj "list" #[] 0)).update a (Vo λ_=>W0g (is.map λi=>vs.getD i Value.none))).get? a=some (seqObj "list" (W0g (is.map λi=>vs.getD i Value.none)) e2):=
   ⟨_,get?_update_seq ho3 λ_=>W0g (is.map λi=>vs.getD i Value.none)⟩
  have I4:=UI (s:={ s with heap:=((s.heap.update a (Vo λ_=>(#[]:Array Value))).push (seqObj "tuple" vs.toArray 0)).push (seqObj "list" #[] 0) }) (t':=s.toks) (ob:=.lst (is.map λi=>xs.getD i .non)) I3 (by rw [Za];exact True.intro) s2 ⟨_,ho4⟩
   (show ZI X.prog X.w _ _ a (.lst (is.map λi=>xs.getD i .non)) from ⟨by rw [We];exact hlen,_,e2,Bb rv is (λi z=>by rw [←h.length];exact hi i z),ho4⟩)
  rw [Qz] at I4
  exact q is _ hi e I4
 rw [list_sort_plain]
 refine W0 (listItems_at ho rfl ?_)
 refine W0 (listUpdate_at ho rfl ?_ (by rw [Wn,W0S];omega) (VH _))
 refine W0 (seqEpoch_at ho1 rfl ?_)
 refine W0 (wpAny_newTuple ?_ (by show vs.length≤_;rw [W0S];omega))
 refine W0 (wpAny_newList ?_ (VH _))
 refine Vq ?_
 show wpAny (model X.prog X.w) A _ P E { s with heap:=((s.heap.update a (Vo λ_=>(#[]:Array Value))).push (seqObj "tuple" vs.toArray 0)).push (seqObj "list" #[] 0) }
 dsimp only
 have hsl:64≤Wk:=by decide
 by_cases h2:vs.length<2
 ·have hn2:vs.toArray.size<2:=by rw [Wn];exact h2
  rw [if_pos hn2,if_pos hn2]
  refine W0 (W6 ?_)
  refine W0 (W6 ?_)
  dsimp only
  have hout:(arrOf (SortSt.mk' general' (vs.toArray.zip vs.toArray) #[] 7 none)).map (·.2)=W0g ((W7 ds.length).map λi=>vs.getD i Value.none):=by
   show (vs.toArray.zip vs.toArray).map (·.2)=_
   apply Array.toList_inj.mp
   rw [hl]
   apply List.ext_getElem
   ·simp
   ·intro i h1 h2
    simp at h1
    simp [h1]
  refine W0 (seqEpoch_at ho3 rfl ?_)
  rw [hout]
  refine W0 (listUpdate_at ho3 rfl ?_ (VH _) (by simp only [Wn,We,Vc];omega))
  simp only [bne_self_eq_false,WL,if_false]
  refine W6 (fin _ (λi hi=>by simpa using hi) (by simp;omega) ?_)
  have hr:(W7 ds.length).map (λi=>ds.getD i D.non)=ds:=by
   apply List.ext_getElem
   ·simp
   ·intro i h1 h2
    simp [h2]
  rw [hr]
  match ds,hl with
  |[],_=>rfl
  |[_],_=>rfl
  |_ :: _ :: _,e=>exact absurd h2 (by rw [←e];simp)
 ·have hn2:¬vs.toArray.size<2:=by rw [Wn];exact h2
  rw [if_neg hn2,if_neg hn2]
  have hok:FK ds=true/\Ft ds=true:=by
   have:=ok.2
   rw [decide_eq_false (by omega),Bool.false_or,Wl] at this
   exact this
  obtain⟨κ,hk1,hk2⟩:=Z0E (s:={ s with heap:=((s.heap.update a (Vo λ_=>(#[]:Array Value))).push (seqObj "tuple" vs.toArray 0)).push (seqObj "list" #[] 0) }) I3 (h.up (hX _)) rv (by omega) hok.1 hok.2
  refine W0 (hk1 _ _ A _ _ ?_)
  have hca:=B3 hok.2
  have hw:(W1N vs.length).kasWp (kas_ask X.prog X.w A κ vs) (λp s'=>p=KS.ev (ltI ds) (W1N ds.length)/\s'={ s with heap:=((s.heap.update a (Vo λ_=>(#[]:Array Value))).push (seqObj "tuple" vs.toArray 0)).push (seqObj "list" #[] 0) })
    { s with heap:=((s.heap.update a (Vo λ_=>(#[]:Array Value))).push (seqObj "tuple" vs.toArray 0)).push (seqObj "list" #[] 0) }:=by
   rw [←hl]
   refine Do (n:=ds.length) (lt:=ltI ds) (λi j hi hj C hC=>hk2 _ _ A hu i j hi hj C ?_) _ _ (KS.rg_sort (by omega)) ⟨rfl,rfl⟩
   unfold ltI at hC
   rw [if_pos hi,if_pos hj] at hC
   exact hC
  refine W0 (W0i (kat_run (Q:=λst' s'=>arrOf st'=(KS.ev (ltI ds) (W1N ds.length)).map (kas_item (vs.toArray.zip vs.toArray))/\failedOf st'=none/\s'={ s with heap:=((s.heap.update a (Vo λ_=>(#[]:Array Value))).push (seqObj "tuple" vs.toArray 0)).push (seqObj "list" #[] 0) })
   rfl (by omega) h64 (λp' st' s' a1 a2 a3 a4=>⟨by rw [←a4.1];exact a2,a3,a4.2⟩) hw) ?_ λ_ _ e=>e)
  rintro⟨⟨⟩,st'⟩ s' ⟨har,hf,rfl⟩
  dsimp only
  have hout:=kat_snds (ks:=vs) (vs:=vs) rfl har
  obtain⟨hp,_⟩:=KS.sort_ok (Oe hca) (n:=ds.length) (by omega)
  have hpl:(KS.ev (ltI ds) (W1N ds.length)).toList.Perm (W7 ds.length):=hp.toList
  have hpn:(KS.ev (ltI ds) (W1N ds.length)).toList.length=ds.length:=by have:=hpl.length_eq;simpa using this
  rw [hout]
  refine W0 (seqEpoch_at ho3 rfl ?_)
  refine W0 (listUpdate_at ho3 rfl ?_ (VH _) (by simp only [Wn,We,hpn];omega))
  rw [hf]
  simp only [bne_self_eq_false,WL,if_false]
  exact W6 (fin _ (λi hi=>by simpa using hpl.mem_iff.mp hi) (by rw [hpn];omega) (Z1x hca (by omega)))
theorem Jc {s1:Shared}{ds:List D}{xs:List V}{vs:List Value}{Q:VK}(I1:Inv X pins σ H s1)(hu:X.A.units+70<cLine)(hd:DsR X.K ρ H ds xs)(rv:Y1 xs vs)(hz:xs.length≤Wk)(ok:Yg ds=true)
  (q:∀a xs',H a=none->DsR X.K ρ H (Y6 ds) xs'->Q (.ref a) (upd H a (.lst xs'))):wpAny (model X.prog X.w) X.A.in1 (do
   let l ←newList vs
   let _ ←holding [l] (call (.builtin "list.sort") [l] [])
   ret l) (λfin s'=>∃r,fin = .done (.ret r)/\EP X pins σ Q r s') (λe s'=>X.xe e s') s1:=by
 have hl:ds.length=vs.length:=hd.length.trans rv.length
 have hf:H s1.heap.objs.size=none:=I1.hok.fresh (Wp _)
 refine W0 (wpAny_newList ?_ (by rw [←rv.length];exact hz))
 have ho:(s1.heap.push (seqObj "list" vs.toArray 0)).get? s1.heap.objs.size=some (seqObj "list" vs.toArray 0):=Wv _ rfl
 have I2:Inv X pins σ (upd H s1.heap.objs.size (.lst xs)) { s1 with heap:=s1.heap.push (seqObj "list" vs.toArray 0) }:=I1.laid (t':=s1.toks) (λb o e=>Wj _ e) (Wp _) (show ZI X.prog X.w _ _ _ (.lst xs) from ⟨hz,vs,0,rv,ho⟩)
 refine W0 (Vq (Vj slot_list_sort ⟨_,ho,rfl⟩ entry_list_sort ?body (args_list_sort _)))
 case body=>
  refine NU (s:={ s1 with heap:=s1.heap.push (seqObj "list" vs.toArray 0) }) I2 (by show X.A.units+1+1+64<cLine;omega) Za (hd.up (Ext.new hf)) ok λis s' hi e I'=>?_
  rw [Qz] at I'
  exact⟨_,rfl,W6 ⟨_,rfl,.ref s1.heap.objs.size,_,I',rfl,q _ _ hf (by rw [←e];exact LO hd is hi)⟩⟩
theorem Ma (hu:X.A.units+70<cLine):QL X (.builtin "sorted") (λws H Q=>∃l xs ρ ds,ws=[.ref l]/\(SqL X.K H l xs\/SqT X.K H l xs)/\DsR X.K ρ H ds xs/\Yg ds=true/\∀a xs',H a=none->DsR X.K ρ H (Y6 ds) xs'->Q (.ref a) (upd H a (.lst xs'))):=by
 intro pins s σ H ws us Q I r h
 obtain⟨l,xs,ρ,ds,rfl,hq,hd,ok,q⟩:=h
 obtain⟨u,rfl,ru⟩:=JN r
 cases ru
 refine W0d kind_sorted plain_sorted entry_sorted (args_sorted1 _) ?_
 unfold Builtin.«sorted»
 refine W0 (m:=checkCount "sorted" 1 1 _) (W6 ?_)
 rcases hq with hq|hq
 ·obtain⟨its,rv,pl,hz⟩:=I.list hq
  obtain⟨o,ho,hc,n,hdd⟩:=pl.isList
  refine W0 (wpAny_collect_seq l (.inl rfl) ho hc hdd (λh' kp=>?_) (by simp only [Wn];rw [←rv.length];exact hz))
  exact Jc (I.kept (t':=s.toks) kp) hu hd (by simpa using rv) hz ok q
 ·obtain⟨its,rv,pl,hz⟩:=I.tuple hq
  obtain⟨o,ho,hc,n,hdd⟩:=pl
  refine W0 (wpAny_collect_seq l (.inr rfl) ho hc hdd (λh' kp=>?_) (by simp only [Wn];rw [←rv.length];exact hz))
  exact Jc (I.kept (t':=s.toks) kp) hu hd (by simpa using rv) hz ok q
theorem HF {xs:List V}{vs:List Value}(hl:xs.length=vs.length)(h:∀(i:Nat) v,vs[i]? = some v->∃x,xs[i]? = some x/\ZL x v):Y1 xs vs:=by
 induction xs generalizing vs with
 |nil=>
  cases vs with
  |nil=>exact .nil
  |cons _ _=>cases hl
 |cons x xs ih=>
  cases vs with
  |nil=>cases hl
  |cons v vs=>
   obtain⟨x',e,r⟩:=h 0 v rfl
   simp at e
   subst e
   exact .cons r (ih (by simpa using hl) λi w hw=>by simpa using h (i+1) w (by simpa using hw))
theorem N7 (hcalm:X.calm=true)(hu:X.A.units+70<cLine):QL X (.builtin "sorted") (λws H Q=>∃a ρ ds,ws=[.ref a]/\Yg ds=true/\(∀b xs',H b=none->DsR X.K ρ H (Y6 ds) xs'->Q (.ref b) (upd H b (.lst xs')))/\
  ((∃(ks:List Key) (vs:List V),(H a=some (.dK (ks.zip vs))\/∃o,H a=some (.frz o (.dK (ks.zip vs))))/\ks.length=vs.length/\DsR X.K ρ H ds (ks.map kV))\/
   ∃kvs,H a=some (.dT kvs)/\∀bs,Paired (λ(p:List Key×V) (b:Addr)=>H b=some (.tup (p.1.map kV))) kvs bs->DsR X.K ρ H ds (bs.map V.ref))):=by
 intro pins s σ H ws us Q I r h
 obtain⟨a,ρ,ds,rfl,ok,q,hq⟩:=h
 obtain⟨u,rfl,ru⟩:=JN r
 cases ru
 have hh:X.A.handled=none:=I.ok.hd hcalm
 refine W0d kind_sorted plain_sorted entry_sorted (args_sorted1 _) ?_
 unfold Builtin.«sorted»
 refine W0 (m:=checkCount "sorted" 1 1 _) (W6 ?_)
 have fin:∀(es:Array DictEntry) (ep:Nat) (xs:List V),(a == sysModules)=false->UN s.heap a es ep->es.size=xs.length->xs.length≤Wk->(∀(i:Nat) (e:DictEntry),es[i]? = some e->∃x,xs[i]? = some x/\ZL x e.key)->DsR X.K ρ H ds xs->
   wpAny (model X.prog X.w) X.A.in1 (collect (.ref a)) (λvs s'=>wpAny (model X.prog X.w) X.A.in1 (do
    let l ←newList vs
    let _ ←holding [l] (call (.builtin "list.sort") [l] [])
    ret l) (λfin s'=>∃r,fin = .done (.ret r)/\EP X pins σ Q r s') (λe s'=>X.xe e s') s') (λe s'=>X.xe e s') s:=λes ep xs hS hm hl hz hk hd=>by
  refine kdu_collect (Sa hS) (by simpa using hh) hm (by omega) λh' tk acc kp hacc=>?_
  have hal:acc.toList.length=es.size:=by rw [WE];exact hacc.1
  refine Jc (s1:={ s with heap:=h',toks:=tk }) (I.kept (t':=tk) kp) hu hd (HF (by omega) λi v hv=>?_) hz ok q
  obtain⟨e,e1,rfl⟩:=hacc.2 i v (by rw [←Vb];exact hv)
  exact hk i e e1
 rcases hq with ⟨ks,vs,hH,hkl,hd⟩|⟨kvs,hH,hd⟩
 ·have hok:ZI X.prog X.w H s.heap a (.dK (ks.zip vs)):=by
   rcases hH with hH|⟨o,hH⟩
   ·exact I.hok a _ hH
   ·exact (show ZI X.prog X.w H s.heap a (.frz o (.dK (ks.zip vs))) from I.hok a _ hH).2
  obtain⟨hS,hz,es,ep,hm,hes,hk⟩:=Z0v hok
  have hzl:(ks.zip vs).length=ks.length:=by rw [VA];omega
  refine W0 (fin es ep (ks.map kV) hS hm (by rw [We];omega) (by rw [We];omega) (λi e he=>?_) hd)
  obtain⟨k,v,k1,k2⟩:=hk i e he
  have:=(W1c.mp k1).1
  exact⟨kV k,by rw [WG,this];rfl,k2⟩
 ·obtain⟨hS,hz,es,ep,bs,hm,hes,hbl,hk,hp⟩:=Ik I hH
  refine W0 (fin es ep (bs.map V.ref) hS hm (by rw [We];omega) (by rw [We];omega) (λi e he=>?_) (hd bs hp))
  obtain⟨b,b1,b2⟩:=hk i e he
  exact⟨.ref b,by rw [WG,b1];rfl,by rw [b2];rfl⟩
end
end DL
namespace L2
open PySem PySem.Spec PyProof.Rows
section
variable {X:Cx}
theorem Oi:OpR X (compareOp .Is) (λx y H Q=>∃c,y = .bl c/\Q (.bl (decide (x = .bl c))) H):=by
 intro pins s σ H x y v u Q I rx ry h
 obtain⟨c,rfl,q⟩:=h
 cases ry
 cases x with
 |bl b=>cases rx;exact is_bool (YI I q (by cases b<;>cases c<;>decide))
 |non=>cases rx;exact W6 (YI I q (by cases c<;>decide))
 |int i=>obtain⟨t,rfl⟩:=rx;exact W6 (YI I q (by cases c<;>rfl))
 |str i=>obtain⟨t,rfl⟩:=rx;exact W6 (YI I q (by cases c<;>rfl))
 |byt i=>obtain⟨t,rfl⟩:=rx;exact W6 (YI I q (by cases c<;>rfl))
 |flt i=>obtain⟨t,rfl⟩:=rx;exact W6 (YI I q (by cases c<;>rfl))
 |ref a=>cases rx;exact W6 (YI I q (by cases c<;>rfl))
 |ty n=>cases rx;exact W6 (YI I q (by cases c<;>rfl))
theorem Pj:OpR X (compareOp .IsNot) (λx y H Q=>∃c,y = .bl c/\Q (.bl (!decide (x = .bl c))) H):=by
 intro pins s σ H x y v u Q I rx ry h
 obtain⟨c,rfl,q⟩:=h
 cases ry
 cases x with
 |bl b=>cases rx;exact isnot_bool (YI I q (by cases b<;>cases c<;>decide))
 |non=>cases rx;exact W6 (YI I q (by cases c<;>decide))
 |int i=>obtain⟨t,rfl⟩:=rx;exact W6 (YI I q (by cases c<;>rfl))
 |str i=>obtain⟨t,rfl⟩:=rx;exact W6 (YI I q (by cases c<;>rfl))
 |byt i=>obtain⟨t,rfl⟩:=rx;exact W6 (YI I q (by cases c<;>rfl))
 |flt i=>obtain⟨t,rfl⟩:=rx;exact W6 (YI I q (by cases c<;>rfl))
 |ref a=>cases rx;exact W6 (YI I q (by cases c<;>rfl))
 |ty n=>cases rx;exact W6 (YI I q (by cases c<;>rfl))
theorem Pi:OpR X (compareOp .LtE) (λx y H Q=>∃i j,x = .str i/\y = .str j/\Q (.bl (!decide (j.cps.toList<i.cps.toList))) H):=by
 intro pins s σ H x y v u Q I rx ry h
 obtain⟨i,j,rfl,rfl,q⟩:=h
 obtain⟨t,rfl⟩:=rx
 obtain⟨t',rfl⟩:=ry
 exact PySem.P.le_str (YI I q rfl)
theorem A6:OpR X (binaryOp .Add) (λx y H Q=>∃a b ys,x = .ref a/\y = .ref b/\SqT X.K H a []/\SqT X.K H b ys/\Q (.ref b) H):=by
 intro pins s σ H x y v u Q I rx ry h
 obtain⟨a,b,ys,rfl,rfl,ha,hb,q⟩:=h
 cases rx
 cases ry
 obtain⟨its,r1,p1,_⟩:=I.tuple ha
 obtain⟨its2,r2,p2,_⟩:=I.tuple hb
 have hv:its=[]:=r1.nil_iff.mpr rfl
 subst hv
 obtain⟨⟨cls,dd,data,sl⟩,ho,hc,n,hd⟩:=id p1
 obtain⟨⟨cls2,dd2,data2,sl2⟩,ho2,hc2,n2,hd2⟩:=id p2
 simp only at hc hd hc2 hd2
 subst hc hd hc2 hd2
 exact concat_meets ⟨_,ho,rfl⟩ ⟨_,ho2,rfl⟩ noFill_tuple_add seq_tuple_add W1D W1t (W1l _ _)
  (tuple_addW0 a b _ _ n n2 dd dd2 sl sl2 (by simp)) ⟨ho,ho2,⟨.ref b,H,I,rfl,q⟩⟩
theorem Ks:OpR X (binaryOp .Mult) (λx y H Q=>∃z n,x = .str z/\y = .int n/\MulOk z n/\Q (.str (Txt.mul z n)) H):=by
 intro pins s σ H x y v u Q I rx ry h
 obtain⟨z,n,rfl,rfl,hok,q⟩:=h
 obtain⟨t,rfl⟩:=rx
 obtain⟨t',rfl⟩:=ry
 exact SB.mul hok λt'' k=>⟨.str (Txt.mul z n),H,I.tok k,⟨t'',rfl⟩,q⟩
theorem DC:SlR X (λx lo hi H Q=>∃z,x = .str z/\z.length≤Wk/\Q (.str (Txt.slice z lo hi)) H):=by
 intro pins s σ H x v vl vu lo hi sl Q I rx hs pl pu h
 obtain⟨z,rfl,hz,q⟩:=h
 obtain⟨t,rfl⟩:=rx
 refine⟨"str",_,F.slot_str_getitem.lookup,typeIs_str _ _ _,?_⟩
 have fin:∀t' k,EP X pins σ Q (.str (Txt.slice z lo hi) t') { s with toks:=k }:=λt' k=>⟨.str (Txt.slice z lo hi),H,I.tok k,⟨t',rfl⟩,q⟩
 obtain⟨o,e1,e2,e3⟩:=hs
 cases pl with
 |none=>
  cases pu with
  |none=>exact W0L (l:=none) (u:=none) (st:=none) ⟨o,e1,e2,e3⟩ rfl (W2d ⟨WY (Txt.slice_le z _ _) hz,λt' k=>fin t' k⟩)
  |int j tj=>exact W0L (l:=none) (u:=some (j,tj)) (st:=none) ⟨o,e1,e2,e3⟩ rfl (W2d ⟨WY (Txt.slice_le z _ _) hz,λt' k=>fin t' k⟩)
 |int i ti=>
  cases pu with
  |none=>exact W0L (l:=some (i,ti)) (u:=none) (st:=none) ⟨o,e1,e2,e3⟩ rfl (W2d ⟨WY (Txt.slice_le z _ _) hz,λt' k=>fin t' k⟩)
  |int j tj=>exact W0L (l:=some (i,ti)) (u:=some (j,tj)) (st:=none) ⟨o,e1,e2,e3⟩ rfl (W2d ⟨WY (Txt.slice_le z _ _) hz,λt' k=>fin t' k⟩)
theorem JW:∀{bs:List Bool} {us:List Value},Y1 (bs.map V.bl) us->us=bs.map Value.bool
 |[],_,h=>by cases h;rfl
 |b :: bs,_,h=>by
  cases h with
  |cons r t=>
   have e:=JW t
   rw [W1,←e,show _=Value.bool b from r]
theorem Bq (bs:List Bool):((W7 bs.length).all λi=>bs.getD i true)=bs.all id:=by
 rw [VX,Wq,Wq]
 constructor
 ·intro h b hb
  obtain⟨i,hi,rfl⟩:=W0F.mp hb
  have:=h i (Vh.mpr hi)
  simpa [W0h,hi] using this
 ·intro h i hi
  have hi':=Vh.mp hi
  have:=h bs[i] (W0l hi')
  simpa [W0h,hi'] using this
theorem Bp (bs:List Bool):((W7 bs.length).any λi=>bs.getD i true)=bs.any id:=by
 rw [VX,V1,V1]
 constructor
 ·rintro⟨i,hi,h⟩
  have hi':=Vh.mp hi
  exact⟨bs[i],W0l hi',by simpa [W0h,hi'] using h⟩
 ·rintro⟨b,hb,h⟩
  obtain⟨i,hi,rfl⟩:=W0F.mp hb
  exact⟨i,Vh.mpr hi,by simpa [W0h,hi] using h⟩
theorem QO (prog:Program)(w:World)(A:Around)(bs:List Bool):TruthOf prog w A (λi v=>((bs.map Value.bool).toArray)[i]? = some v) (λi=>bs.getD i true):=by
 intro i v s Q E h q
 have h':bs[i]?.map Value.bool=some v:=by simpa using h
 cases e:bs[i]? with
 |none=>rw [e] at h';cases h'
 |some b=>
  rw [e] at h'
  cases h'
  have:bs.getD i true=b:=by simp [W0h,e]
  have q':Q (bs.getD i true) s:=q
  rw [this] at q'
  exact W0W q'
theorem Nc (hc:X.calm=true):QL X (.builtin "all") (λxs H Q=>∃(a:Addr) (bs:List Bool),xs=[.ref a]/\(SqL X.K H a (bs.map V.bl)\/SqT X.K H a (bs.map V.bl))/\Q (.bl (bs.all id)) H):=by
 intro pins s σ H xs us Q I r h
 obtain⟨a,bs,rfl,hq,q⟩:=h
 obtain⟨u,rfl,ru⟩:=JN r
 cases ru
 refine call_all_walk ?_
 rcases hq with hq|hq
 ·obtain⟨its,rv,p,hz⟩:=I.list hq
  have e:=JW rv
  subst e
  refine W0H p.isList ?_
  have ne:a≠s.heap.objs.size:=by
   obtain⟨o,e,_⟩:=p.isList
   exact WK (Wt e)
  refine⟨_,_,_,_,_,_,λi=>bs.getD i true,rfl,Walks.list (A:=X.A.in1) (show X.A.in1.handled=none from I.ok.hd hc) _ a ne (bs.map Value.bool).toArray,⟨⟨_,Wv _ rfl,rfl,rfl⟩,p.isList.extBut (λb o _ e=>Wj _ e) ne⟩,QO _ _ _ bs,λh' tk k=>?_⟩
  have e2:(List.map Value.bool bs).toArray.size=bs.length:=by simp
  rw [e2,Bq]
  exact⟨.bl (bs.all id),H,I.kept (h':=h') (t':=tk) (λb o e=>k b o (by simp [WK (Wt e)]) (Wj _ e)),rfl,q⟩
 ·obtain⟨its,rv,p,hz⟩:=I.tuple hq
  have e:=JW rv
  subst e
  refine W0R (show s.heap.IsTuple a (bs.map Value.bool).toArray from p) ?_
  have ne:a≠s.heap.objs.size:=WK p.lt
  refine⟨_,_,_,_,_,_,λi=>bs.getD i true,rfl,Walks.tuple (A:=X.A.in1) (show X.A.in1.handled=none from I.ok.hd hc) _ a ne (bs.map Value.bool).toArray,⟨⟨_,Wv _ rfl,rfl,rfl⟩,Heap.IsTuple.extBut (show s.heap.IsTuple a (bs.map Value.bool).toArray from p) (λb o _ e=>Wj _ e) ne⟩,QO _ _ _ bs,λh' tk k=>?_⟩
  have e2:(List.map Value.bool bs).toArray.size=bs.length:=by simp
  rw [e2,Bq]
  exact⟨.bl (bs.all id),H,I.kept (h':=h') (t':=tk) (λb o e=>k b o (by simp [WK (Wt e)]) (Wj _ e)),rfl,q⟩
theorem Nb (hc:X.calm=true):QL X (.builtin "any") (λxs H Q=>∃(a:Addr) (bs:List Bool),xs=[.ref a]/\(SqL X.K H a (bs.map V.bl)\/SqT X.K H a (bs.map V.bl))/\Q (.bl (bs.any id)) H):=by
 intro pins s σ H xs us Q I r h
 obtain⟨a,bs,rfl,hq,q⟩:=h
 obtain⟨u,rfl,ru⟩:=JN r
 cases ru
 refine call_any_walk ?_
 rcases hq with hq|hq
 ·obtain⟨its,rv,p,hz⟩:=I.list hq
  have e:=JW rv
  subst e
  refine W0H p.isList ?_
  have ne:a≠s.heap.objs.size:=by
   obtain⟨o,e,_⟩:=p.isList
   exact WK (Wt e)
  refine⟨_,_,_,_,_,_,λi=>bs.getD i true,rfl,Walks.list (A:=X.A.in1) (show X.A.in1.handled=none from I.ok.hd hc) _ a ne (bs.map Value.bool).toArray,⟨⟨_,Wv _ rfl,rfl,rfl⟩,p.isList.extBut (λb o _ e=>Wj _ e) ne⟩,QO _ _ _ bs,λh' tk k=>?_⟩
  have e2:(List.map Value.bool bs).toArray.size=bs.length:=by simp
  rw [e2,Bp]
  exact⟨.bl (bs.any id),H,I.kept (h':=h') (t':=tk) (λb o e=>k b o (by simp [WK (Wt e)]) (Wj _ e)),rfl,q⟩
 ·obtain⟨its,rv,p,hz⟩:=I.tuple hq
  have e:=JW rv
  subst e
  refine W0R (show s.heap.IsTuple a (bs.map Value.bool).toArray from p) ?_
  have ne:a≠s.heap.objs.size:=WK p.lt
  refine⟨_,_,_,_,_,_,λi=>bs.getD i true,rfl,Walks.tuple (A:=X.A.in1) (show X.A.in1.handled=none from I.ok.hd hc) _ a ne (bs.map Value.bool).toArray,⟨⟨_,Wv _ rfl,rfl,rfl⟩,Heap.IsTuple.extBut (show s.heap.IsTuple a (bs.map Value.bool).toArray from p) (λb o _ e=>Wj _ e) ne⟩,QO _ _ _ bs,λh' tk k=>?_⟩
  have e2:(List.map Value.bool bs).toArray.size=bs.length:=by simp
  rw [e2,Bp]
  exact⟨.bl (bs.any id),H,I.kept (h':=h') (t':=tk) (λb o e=>k b o (by simp [WK (Wt e)]) (Wj _ e)),rfl,q⟩
theorem Up:∀{ys:List Str} {us:List Value},Y1 (ys.map V.str) us->StrsAre us ys
 |[],_,h=>by cases h;exact .nil
 |y :: ys,_,h=>by
  cases h with
  |cons r t=>
   obtain⟨tk,rfl⟩:=r
   exact .cons y tk (Up t)
theorem SY:MtR X "str.join" (λx xs H Q=>∃(sep:Str) (a:Addr) (ys:List Str),x = .str sep/\xs=[.ref a]/\(SqL X.K H a (ys.map V.str)\/SqT X.K H a (ys.map V.str))/\(ys.map (·.length)).sum+ys.length*sep.length≤16777216/\Q (.str (W23 sep ys)) H):=by
 intro pins s σ H x xs v us Q I rx rs h
 obtain⟨sep,a,ys,rfl,rfl,hq,hz,q⟩:=h
 obtain⟨t,rfl⟩:=rx
 obtain⟨u,rfl,ru⟩:=JN rs
 cases ru
 rcases hq with hq|hq
 ·obtain⟨its,rv,p,_⟩:=I.list hq
  exact join_list p.isList (by simpa using Up rv) hz λt' k=>⟨.str (W23 sep ys),H,I.tok k,⟨t',rfl⟩,q⟩
 ·obtain⟨its,rv,p,_⟩:=I.tuple hq
  exact join_tuple p (by simpa using Up rv) hz λt' k=>⟨.str (W23 sep ys),H,I.tok k,⟨t',rfl⟩,q⟩
section
variable {tg:Expr} {pins:List (Addr×Obj)} {σ:St} {H1:Hp} {s1:Shared} {R:It->Hp->Prop} {E:Value->Shared->Prop} {a:Addr} {xs:List V}
theorem FZ (I1:Inv X pins σ H1 s1)(hq:SqL X.K H1 a xs)(q:R (Itl X.K a) H1):wpAny (model X.prog X.w) X.A (pyIter (.ref a)) (PIE X pins σ tg R) E s1:=by
 obtain⟨its,rv,p,hz⟩:=I1.list hq
 refine W0H p.isList ?_
 refine⟨s1.heap.objs.size,[s1.heap.objs.size],_,_,H1,rfl,I1.kept (t':=s1.toks) λb o e=>Wj _ e,Rs a _,⟨_,Wv _ rfl,rfl,rfl⟩,λb hb=>?_,q⟩
 have e:b=s1.heap.objs.size:=by simpa using hb
 subst e
 exact I1.fpOk (Wp _) (I1.hok.fresh (Wp _))
theorem Sn (I1:Inv X pins σ H1 s1)(hq:SqT X.K H1 a xs)(q:R (Itt X.K a) H1):wpAny (model X.prog X.w) X.A (pyIter (.ref a)) (PIE X pins σ tg R) E s1:=by
 obtain⟨its,rv,p,hz⟩:=I1.tuple hq
 refine W0R (show s1.heap.IsTuple a its.toArray from p) ?_
 refine⟨s1.heap.objs.size,[s1.heap.objs.size],_,_,H1,rfl,I1.kept (t':=s1.toks) λb o e=>Wj _ e,Ki a _,⟨_,Wv _ rfl,rfl,rfl⟩,λb hb=>?_,q⟩
 have e:b=s1.heap.objs.size:=by simpa using hb
 subst e
 exact I1.fpOk (Wp _) (I1.hok.fresh (Wp _))
def Its (x:Str):It:=⟨λi _=>i<x.cps.size,λi H v H'=>H'=H/\∃c,x.cps[i]? = some c/\v = .str ⟨#[c]⟩,λi _=>i=x.cps.size⟩
theorem Ba (P:Program)(w:World){A:Around}(hh:A.handled=none)(it:Addr)(x:Str)(t:Tok):Walks P w A it [it] [it] x.cps.size (SignAt x) (λi h=>h.IsStrIter it (strIterType x) x t i):=by
 cases ha:x.cps.all (· < 128)
 ·have e:strIterType x = "str_iterator":=by simp [strIterType,ha]
  rw [e];exact Walks.strWide hh it x t
 ·have e:strIterType x = "str_ascii_iterator":=by simp [strIterType,ha]
  rw [e];exact Walks.strAscii hh it x t
theorem FA {P:Program}{w:World}{K:Wd}(x:Str)(t:Tok)(it:Addr):Turn P w K tg (Its x) [it] it (λi h=>h.IsStrIter it (strIterType x) x t i) where
 mem:=by simp
 obj:=λi h st b hb=>by
  have e:b=it:=by simpa using hb
  subst e
  obtain⟨o,e,c,d⟩:=st
  exact⟨o,e,λv z=>by rw [d] at z;cases z⟩
 keep:=λi h h' st k=>let ⟨o,e,r⟩:=st;⟨o,k it (by simp) o e,r⟩
 item:=by
  intro X hP hw hK hc i pins s σ H E I hf st hg
  subst hP hw hK
  obtain⟨f0,f1,f2,f3,f4,f5⟩:=hf it (by simp)
  refine (Ba X.prog X.w (I.ok.hd hc) it x t).item i s _ _ hg st λv h' tk hv st' kk=>?_
  obtain⟨c,u,hc',rfl⟩:=hv
  have I1:Inv X pins σ H { s with heap:=h',toks:=tk }:=I.turned (λb o hb e=>kk b o (by simpa using hb) e) f0 f1 f3 f4 f5
  obtain⟨o,e1,e2,e3⟩:=id st'
  refine⟨_,rfl,?_⟩
  have fin:∃y H',Inv X pins σ H' { s with heap:=h',toks:=tk }/\ZL y (.str ⟨#[c]⟩ u)/\(Its x).yld i H y H'/\Heap.IsStrIter h' it (strIterType x) x t (i+1)/\∀b∈[it],H' b=none:=⟨.str ⟨#[c]⟩,H,I1,⟨u,rfl⟩,⟨rfl,c,hc',rfl⟩,st',λb hb=>(hf b hb).1⟩
  unfold letOwnedTupleGo
  cases tg<;>exact W6 fin
 done:=by
  intro X hP hw hK hc i pins s σ H E I hf st hg
  subst hP hw hK
  obtain⟨f0,f1,f2,f3,f4,f5⟩:=hf it (by simp)
  have hi:i=x.cps.size:=hg
  subst hi
  exact (Ba X.prog X.w (I.ok.hd hc) it x t).done s _ _ st λh' tk kk=>⟨rfl,I.turned (λb o hb e=>kk b o (by simpa using hb) e) f0 f1 f3 f4 f5⟩
 self:=λA i s Q E st h=>by
  cases ha:x.cps.all (· < 128)
  ·have e:strIterType x = "str_iterator":=by simp [strIterType,ha]
   rw [e] at st;exact wpAny_pyIter_striter_wide st h
  ·have e:strIterType x = "str_ascii_iterator":=by simp [strIterType,ha]
   rw [e] at st;exact wpAny_pyIter_striter_ascii st h
theorem Sq {x:Str}{t:Tok}(I1:Inv X pins σ H1 s1)(q:R (Its x) H1):wpAny (model X.prog X.w) X.A (pyIter (.str x t)) (PIE X pins σ tg R) E s1:=by
 refine wpAny_pyIter_strU ?_
 refine⟨s1.heap.objs.size,[s1.heap.objs.size],_,_,H1,rfl,I1.kept (t':=s1.toks) λb o e=>Wj _ e,FA x t _,⟨_,Wv _ rfl,rfl,rfl⟩,λb hb=>?_,q⟩
 have e:b=s1.heap.objs.size:=by simpa using hb
 subst e
 exact I1.fpOk (Wp _) (I1.hok.fresh (Wp _))
end
def Z4y (X:Cx)(tl:TE):TI:=λσ H R=>tl σ H λx H1=>(∃a xs,x = .ref a/\SqL X.K H1 a xs/\R (Itl X.K a) H1)\/(∃a xs,x = .ref a/\SqT X.K H1 a xs/\R (Itt X.K a) H1)\/(∃z,x = .str z/\R (Its z) H1)\/
 (∃a kvs,x = .ref a/\H1 a=some (.dK kvs)/\∀o,(∀o u,X.H₀ a≠some (.frz o u))->R (Itk a o) (upd H1 a (.frz o (.dK kvs))))\/(∃a o kvs,x = .ref a/\H1 a=some (.frz o (.dK kvs))/\R (Itk a o) H1)\/
 ∃a,x = .ref a/\H1 a=some (.dT [])/\∀o,(∀o u,X.H₀ a≠some (.frz o u))->R (Itk a o) (upd H1 a (.frz o (.dK [])))
theorem O1 {tg l:Expr}{tl:TE}(hl:PE X l tl):PI X tg l (Z4y X tl):=by
 intro pins s σ H R I h
 refine thn (hl pins s σ H _ I h) λv s1 ⟨x,H1,I1,r1,q1⟩=>?_
 rcases q1 with ⟨a,xs,rfl,hq,q⟩|⟨a,xs,rfl,hq,q⟩|⟨z,rfl,q⟩|⟨a,kvs,rfl,hq,q⟩|⟨a,o,kvs,rfl,hq,q⟩|⟨a,rfl,hq,q⟩
 ·cases r1;exact FZ I1 hq q
 ·cases r1;exact Sn I1 hq q
 ·obtain⟨t,rfl⟩:=r1;exact Sq I1 q
 ·cases r1;exact Mw I1 hq q
 ·cases r1;exact P7 I1 hq q
 ·cases r1
  refine Mw (I1.asK hq) Za λo hn=>?_
  rw [Qz]
  exact q o hn
end
end L2
namespace DL
open PySem PySem.Spec PyProof.Rows L2
section
variable {X:Cx} {e a b c:Expr} {es:List Expr} {pos:Pos}
def Jb:D->D->Sto->Option (D×Sto)
 | .int i,.int j,S=>some (.int (i+j),S)
 | .str x,.str y,S=>if x.length+y.length≤Wk then some (.str (x++y),S) else none
 | .tup xs,.tup ys,S=>if xs.length+ys.length≤Wk then some (.tup (xs++ys),S) else none
 | .ref n,.ref m,S=>match S[n]?,S[m]? with
  |some (.lst xs),some (.lst ys)=>if xs.length+ys.length≤Wk then some (.ref S.length,S++[.lst (xs++ys)]) else none
  |_,_=>none
 |_,_,_=>none
theorem ZP:OpD X (binaryOp .Add) Jb:=by
 refine JO (Ol.or (Kt.or (A6.or (SH.or Oj)))) ?_
 rintro x y H Q ⟨ρ,S,d1,d2,v,S',R,h1,h2,e,k⟩
 cases d1 with
 |int i=>
  cases d2 with
  |int j=>
   cases e
   exact .inl ⟨i,j,h1.of_int,h2.of_int,k _ ρ H Ext.refl R .flat_int⟩
  |_=>cases e
 |str i=>
  cases d2 with
  |str j=>
   dsimp only [Jb] at e
   split at e
   ·cases e
    exact .inr (.inl ⟨i,j,h1.of_str,h2.of_str,by assumption,k _ ρ H Ext.refl R .flat_str⟩)
   ·cases e
  |_=>cases e
 |tup xs=>
  cases d2 with
  |tup ys=>
   dsimp only [Jb] at e
   split at e
   ·rename_i hz
    cases e
    obtain⟨a,us,rfl,a1,a2⟩:=h1.of_tup
    obtain⟨b,ws,rfl,b1,b2⟩:=h2.of_tup
    cases xs with
    |nil=>
     have:us=[]:=by unfold DsR at a2;exact a2
     subst this
     exact .inr (.inr (.inl ⟨a,b,ws,rfl,rfl,.of a1,.of b1,k _ ρ H Ext.refl R (.tup b1 b2)⟩))
    |cons x0 xs=>
     refine .inr (.inr (.inr (.inl ⟨a,b,us,ws,rfl,rfl,.of a1,.of b1,?_,by rw [←a2.length,←b2.length];exact hz,λhw=>?_,λhw p hp=>?_⟩)))
     ·intro z
      rw [z] at a2
      have:=a2.length
      simp at this
     ·subst hw
      have:ys=[]:=by
       have:=b2.length
       simpa using this
      subst this
      rw [W02] at k
      exact k _ ρ H Ext.refl R (.tup a1 a2)
     ·exact k _ ρ _ (Ext.new hp) (R.new hp) (.tup Za ((a2.append b2).up (Ext.new hp)))
   ·cases e
  |_=>cases e
 |ref n=>
  cases d2 with
  |ref m=>
   obtain⟨a,a1,rfl⟩:=h1.of_ref
   obtain⟨b,b1,rfl⟩:=h2.of_ref
   obtain⟨oa,ea,ra⟩:=R.obj a1
   obtain⟨ob,eb,rb⟩:=R.obj b1
   dsimp only [Jb] at e
   rw [ea,eb] at e
   cases oa with
   |lst xs=>
    cases ob with
    |lst ys=>
     dsimp only at e
     split at e
     ·rename_i hz
      cases e
      obtain⟨us,u1,u2⟩:=ra
      obtain⟨ws,w1,w2⟩:=rb
      refine .inr (.inr (.inr (.inr ⟨a,b,us,ws,rfl,rfl,u1,w1,by rw [←u2.length,←w2.length];exact hz,λp hp=>?_⟩)))
      refine k _ (ρ++[p]) _ (Ext.newRef hp) (R.push hp ⟨_,Za,(u2.append w2).up (Ext.newRef hp)⟩) (.ref ?_)
      rw [←R.len];simp
     ·cases e
    |dct _=>cases e
    |fdct _=>cases e
    |ins _ _=>cases e
   |dct _=>cases e
   |fdct _=>cases e
   |ins _ _=>cases e
  |_=>cases e
 |_=>cases e
def IH (C:Int->Int->Bool)(f:Int->Int->D):D->D->Sto->Option (D×Sto)
 | .int i,.int j,S=>if C i j then some (f i j,S) else none
 |_,_,_=>none
theorem SC {f:Value->Value->Sem Value}{C:Int->Int->Prop}{Cb:Int->Int->Bool}{g:Int->Int->V}{gd:Int->Int->D}(h:OpR X f (rI C g))(hC:∀i j,Cb i j=true->C i j)(hg:∀ρ H i j,DR X.K ρ H (gd i j) (g i j)):OpD X f (IH Cb gd):=by
 refine JO h ?_
 rintro x y H Q ⟨ρ,S,d1,d2,v,S',R,h1,h2,e,k⟩
 cases d1 with
 |int i=>
  cases d2 with
  |int j=>
   dsimp only [IH] at e
   split at e
   ·cases e
    exact⟨i,j,h1.of_int,h2.of_int,hC i j (by assumption),k _ ρ H Ext.refl R (hg ρ H i j)⟩
   ·cases e
  |_=>cases e
 |_=>cases e
theorem Mz {f:Value->Value->Sem Value}{g:Int->Int->V}{gd:Int->Int->D}(h:OpR X f (rI0 g))(hg:∀ρ H i j,DR X.K ρ H (gd i j) (g i j)):OpD X f (IH (λ_ _=>true) gd):=by
 refine JO h ?_
 rintro x y H Q ⟨ρ,S,d1,d2,v,S',R,h1,h2,e,k⟩
 cases d1 with
 |int i=>
  cases d2 with
  |int j=>
   cases e
   exact⟨i,j,h1.of_int,h2.of_int,k _ ρ H Ext.refl R (hg ρ H i j)⟩
  |_=>cases e
 |_=>cases e
def Z2j:D->D->Sto->Option (D×Sto):=IH (λ_ _=>true) λi j=>.int (i-j)
def Fp:D->D->Sto->Option (D×Sto):=IH (λ_ j=>decide (0<j)) λi j=>.int (i%j)
theorem JP:OpD X (binaryOp .Mod) Fp:=SC Og (λ_ _ h=>of_decide_eq_true h) λ_ _ _ _=>.flat_int
def Os (z:Str)(n:Int):Bool:=decide (0≤n/\n≤1000/\z.length≤1000)
def M5:D->D->Sto->Option (D×Sto)
 | .int i,.int j,S=>if (-(2 ^ 64)<i/\i<2 ^ 64)\/(-(2 ^ 64)<j/\j<2 ^ 64) then some (.int (i*j),S) else none
 | .str z,.int n,S=>if Os z n then some (.str (Txt.mul z n),S) else none
 |_,_,_=>none
theorem Ac {z:Str}{n:Int}(h:Os z n=true):MulOk z n:=by
 obtain⟨h1,h2,h3⟩:=of_decide_eq_true h
 refine⟨?_,λa b=>?_,λa b=>?_⟩
 ·have e1:decide (n < -(2 ^ 63:Int))=false:=decide_eq_false (by omega)
  have e2:decide (n≥2 ^ 63)=false:=decide_eq_false (by omega)
  rw [e1,e2];rfl
 ·intro q
  have hb:(1000:Int)≤(2 ^ 63-1) / n:=by
   rw [Int.le_ediv_iff_mul_le (by omega)]
   omega
  omega
 ·have hm:z.length*n.toNat≤1000*1000:=Nat.mul_le_mul h3 (by omega)
  unfold Builtin.Str.tooLong
  have hs:Wk=16777216:=W0S
  first
   | (rw [decide_eq_false];omega)
   | (simp;omega)
theorem QQ:OpD X (binaryOp .Mult) M5:=by
 refine JO (Of.or Ks) ?_
 rintro x y H Q ⟨ρ,S,d1,d2,v,S',R,h1,h2,e,k⟩
 cases d1 with
 |int i=>
  cases d2 with
  |int j=>
   dsimp only [M5] at e
   split at e
   ·cases e
    exact .inl ⟨i,j,h1.of_int,h2.of_int,by assumption,k _ ρ H Ext.refl R .flat_int⟩
   ·cases e
  |_=>cases e
 |str z=>
  cases d2 with
  |int j=>
   dsimp only [M5] at e
   split at e
   ·cases e
    exact .inr ⟨z,j,h1.of_str,h2.of_int,Ac (by assumption),k _ ρ H Ext.refl R .flat_str⟩
   ·cases e
  |_=>cases e
 |_=>cases e
def gGt:D->D->Sto->Option (D×Sto):=IH (λ_ _=>true) λi j=>.bl (decide (j<i))
theorem Eo:OpD X (compareOp .Gt) gGt:=Mz Z1z λ_ _ _ _=>.flat_bl
def gGe:D->D->Sto->Option (D×Sto):=IH (λ_ _=>true) λi j=>.bl (decide (j≤i))
theorem Ph:OpD X (compareOp .GtE) gGe:=Mz Z1A λ_ _ _ _=>.flat_bl
def gLe:D->D->Sto->Option (D×Sto)
 | .int i,.int j,S=>some (.bl (decide (i≤j)),S)
 | .str i,.str j,S=>some (.bl (!decide (j.cps.toList<i.cps.toList)),S)
 |_,_,_=>none
theorem Ge:OpD X (compareOp .LtE) gLe:=by
 refine JO (Z1y.or Pi) ?_
 rintro x y H Q ⟨ρ,S,d1,d2,v,S',R,h1,h2,e,k⟩
 cases d1 with
 |int i=>
  cases d2 with
  |int j=>cases e;exact .inl ⟨i,j,h1.of_int,h2.of_int,k _ ρ H Ext.refl R .flat_bl⟩
  |_=>cases e
 |str i=>
  cases d2 with
  |str j=>cases e;exact .inr ⟨i,j,h1.of_str,h2.of_str,k _ ρ H Ext.refl R .flat_bl⟩
  |_=>cases e
 |_=>cases e
def isD:D->D->Option Bool
 | .bl b,.bl c=>some (b == c)
 |_,.bl _=>some false
 | .non,.non=>some true
 |_,.non=>some false
 |_,_=>none
def gIs:D->D->Sto->Option (D×Sto):=λa b S=>(isD a b).map λr=>(.bl r,S)
def N1:D->D->Sto->Option (D×Sto):=λa b S=>(isD a b).map λr=>(.bl (!r),S)
theorem CF {K:Wd}{ρ:List Addr}{H:Hp}{d:D}{x:V}{c r:Bool}(h:DR K ρ H d x)(e:isD d (.bl c)=some r):decide (x = .bl c)=r:=by
 cases d with
 |bl b=>rw [h.of_bl];cases e;cases b<;>cases c<;>rfl
 |non=>rw [h.of_non];cases e;rfl
 |int i=>rw [h.of_int];cases e;rfl
 |str i=>rw [h.of_str];cases e;rfl
 |tup xs=>obtain⟨a,us,rfl,_⟩:=h.of_tup;cases e;rfl
 |ref n=>obtain⟨a,_,rfl⟩:=h.of_ref;cases e;rfl
 |scr ns=>obtain⟨a,rfl,_⟩:=h.of_scr;cases e;rfl
theorem Lz {K:Wd}{ρ:List Addr}{H:Hp}{d:D}{x:V}{r:Bool}(h:DR K ρ H d x)(e:isD d .non=some r):decide (x = .non)=r:=by
 cases d with
 |bl b=>rw [h.of_bl];cases e;rfl
 |non=>rw [h.of_non];cases e;rfl
 |int i=>rw [h.of_int];cases e;rfl
 |str i=>rw [h.of_str];cases e;rfl
 |tup xs=>obtain⟨a,us,rfl,_⟩:=h.of_tup;cases e;rfl
 |ref n=>obtain⟨a,_,rfl⟩:=h.of_ref;cases e;rfl
 |scr ns=>obtain⟨a,rfl,_⟩:=h.of_scr;cases e;rfl
theorem BX {d1 d2:D}{r:Bool}(e:isD d1 d2=some r):(∃c,d2 = .bl c)\/d2 = .non:=by
 cases d2 with
 |bl c=>exact .inl ⟨c,rfl⟩
 |non=>exact .inr rfl
 |_=>cases d1<;>cases e
theorem El:OpD X (compareOp .Is) gIs:=by
 refine JO (Oi.or Oh) ?_
 rintro x y H Q ⟨ρ,S,d1,d2,v,S',R,h1,h2,e,k⟩
 obtain⟨r,e1,e2⟩:=Wi.mp e
 cases e2
 rcases BX e1 with ⟨c,rfl⟩|rfl
 ·exact .inl ⟨c,h2.of_bl,by rw [CF h1 e1];exact k _ ρ H Ext.refl R .flat_bl⟩
 ·exact .inr ⟨h2.of_non,by rw [Lz h1 e1];exact k _ ρ H Ext.refl R .flat_bl⟩
theorem Tt:OpD X (compareOp .IsNot) N1:=by
 refine JO (Pj.or SG) ?_
 rintro x y H Q ⟨ρ,S,d1,d2,v,S',R,h1,h2,e,k⟩
 obtain⟨r,e1,e2⟩:=Wi.mp e
 cases e2
 rcases BX e1 with ⟨c,rfl⟩|rfl
 ·exact .inl ⟨c,h2.of_bl,by rw [CF h1 e1];exact k _ ρ H Ext.refl R .flat_bl⟩
 ·exact .inr ⟨h2.of_non,by rw [Lz h1 e1];exact k _ ρ H Ext.refl R .flat_bl⟩
def gIx:D->D->Sto->Option (D×Sto)
 | .tup xs,.int i,S=>(atI xs i).map λd=>(d,S)
 | .str z,.int i,S=>if z.length≤Wk then (atI z.cps.toList i).map λc=>(.str ⟨#[c]⟩,S) else none
 | .scr ns,.int i,S=>(atI ns i).map λn=>(.int n,S)
 | .ref n,k,S=>match S[n]? with
  |some (.lst xs)=>(match k with | .int i=>(atI xs i).map λd=>(d,S)|_=>none)
  |_=>(JT S n k).bind λkvs=>(UH kvs k).map λd=>(d,S)
 |_,_,_=>none
theorem IW {K:Wd}{ρ:List Addr}{H:Hp}{ds:List D}{xs:List V}{i:Int}{d:D}(h:DsR K ρ H ds xs)(e:atI ds i=some d):∃x,atI xs i=some x/\DR K ρ H d x:=by
 unfold atI at e ⊢
 rw [h.length] at e
 obtain⟨j,e1,e2⟩:=W5.mp e
 obtain⟨x,h1,h2⟩:=h.get e2
 exact⟨x,by rw [e1];exact h1,h2⟩
theorem IX {α β:Type}{f:α->β}{xs:List α}{i:Int}{a:α}(h:atI xs i=some a):atI (xs.map f) i=some (f a):=by
 unfold atI at h ⊢
 rw [We]
 obtain⟨j,e1,e2⟩:=W5.mp h
 rw [e1]
 show (xs.map f)[j]? = _
 rw [WG,e2];rfl
def Z2G:R2:=λx y H Q=>∃a v,x = .ref a/\T9 H a y (some v)/\Q v H
theorem Iu (hu:X.A.units+64<cLine):IxR X Z2G:=by
 intro value slice pins s σ H x y v u Q I rx ry h hs
 obtain⟨a,z,rfl,g,q⟩:=h
 cases rx
 have g':=g.ofSome
 exact tail_any (M6 I g') PySem.F.slot_dict_getitem.lookup (LS (by omega) I g' ry λw' s3 I3 rw'=>⟨z,H,I3,rw',q⟩) hs
theorem Iq {K:Wd}{x y:V}{H:Hp}{Q:VK}(h:rD K gIx x y H Q):rIx K x y H Q\/Z2G x y H Q:=by
 obtain⟨ρ,S,d1,d2,v,S',R,h1,h2,e,k⟩:=h
 have seq:∀{a:Addr} {xs:List V} {ds:List D} {i:Int},x = .ref a->d2 = .int i->(SqL K H a xs\/SqT K H a xs)->DsR K ρ H ds xs->(atI ds i).map (λd=>(d,S))=some (v,S')->rIx K x y H Q:=by
  intro a xs ds i ex ei hs hd em
  subst ex ei
  obtain⟨d,e1,e2⟩:=Wi.mp em
  cases e2
  obtain⟨z,z1,z2⟩:=IW hd e1
  rcases hs with hs|hs
  ·exact .inl ⟨a,xs,i,z,rfl,h2.of_int,hs,z1,k _ ρ H Ext.refl R z2⟩
  ·exact .inr (.inl ⟨a,xs,i,z,rfl,h2.of_int,hs,z1,k _ ρ H Ext.refl R z2⟩)
 cases d1 with
 |tup ds=>
  cases d2 with
  |int i=>
   obtain⟨a,xs,rfl,a1,a2⟩:=h1.of_tup
   exact .inl (seq rfl rfl (.inr (.of a1)) a2 e)
  |_=>cases e
 |str z=>
  cases d2 with
  |int i=>
   dsimp only [gIx] at e
   split at e
   ·rename_i hz
    obtain⟨c,e1,e2⟩:=Wi.mp e
    cases e2
    exact .inl (.inr (.inr ⟨z,i,c,h1.of_str,h2.of_int,hz,e1,k _ ρ H Ext.refl R .flat_str⟩))
   ·cases e
  |_=>cases e
 |scr ns=>
  cases d2 with
  |int i=>
   obtain⟨d,e1,e2⟩:=Wi.mp e
   cases e2
   obtain⟨a,rfl,a1⟩:=h1.of_scr
   exact .inl (.inl ⟨a,_,i,_,rfl,h2.of_int,a1.seq,IX e1,k _ ρ H Ext.refl R .flat_int⟩)
  |_=>cases e
 |ref n=>
  obtain⟨a,a1,rfl⟩:=h1.of_ref
  dsimp only [gIx] at e
  split at e
  ·rename_i xs hn
   obtain⟨ob,eo,ro⟩:=R.obj a1
   rw [hn] at eo
   cases eo
   obtain⟨ys,y1,y2⟩:=ro
   cases d2 with
   |int i=>exact .inl (seq rfl rfl (.inl (.of y1)) y2 e)
   |_=>cases e
  ·obtain⟨kvs,e3,e⟩:=W5.mp e
   obtain⟨d,e1,e2⟩:=Wi.mp e
   cases e2
   obtain⟨g1,_⟩:=M7 R a1 e3 h2
   obtain⟨z,z1,z2⟩:=g1 _ e1
   exact .inr ⟨a,z,rfl,z1,k _ ρ H Ext.refl R z2⟩
 |_=>cases d2<;>cases e
theorem Zq {ma mb:M D}(hu:X.A.units+64<cLine)(ha:SE X a ma)(hb:SE X b mb)(hs:Ff b:=by intro _ _;rfl):SE X (.Subscript a b pos) (mOp gIx ma mb):=by
 refine ZF (Z1u (Xs.or (Iu hu)) ha hb hs) ?_
 intro σ H Q h
 obtain⟨ρ,en,S,v,S',E,R,e,k⟩:=GO h
 exact⟨ρ,en,S,v,S',E,R,e,λx ρ1 H1 X1 R1 d1=>by
  obtain⟨ρ2,en2,S2,v2,S2',E2,R2,e2,k2⟩:=k x ρ1 H1 X1 R1 d1
  exact⟨ρ2,en2,S2,v2,S2',E2,R2,e2,λy ρ3 H3 X3 R3 d3=>Iq (k2 y ρ3 H3 X3 R3 d3)⟩⟩
def Fs {α:Type}(xs:List α)(lo hi:Option Int):List α:=(xs.drop (HT.sIx xs.length 0 lo)).take (HT.sIx xs.length xs.length hi-HT.sIx xs.length 0 lo)
def slD:D->Option Int->Option Int->Sto->Option (D×Sto)
 | .str z,lo,hi,S=>if z.length≤Wk then some (.str (Txt.slice z lo hi),S) else none
 | .tup ds,lo,hi,S=>some (.tup (Fs ds lo hi),S)
 | .ref n,lo,hi,S=>match S[n]? with|some (.lst ds)=>some (.ref S.length,S++[.lst (Fs ds lo hi)])|_=>none
 |_,_,_,_=>none
def PC (m:M D):M (Option Int):=λen S=>(m en S).bind λp=>match p.1 with | .int i=>some (some i,p.2)|_=>none
def NQ:M (Option Int):=λ_ S=>some (none,S)
def tMO (K:Wd)(m:M (Option Int)):TO:=λσ H Q=>∃ρ en S o S',EnR K ρ H en σ/\StR K ρ H S/\m en S=some (o,S')/\∀ρ' H',Ext ρ H ρ' H'->StR K ρ' H' S'->Q o H'
def SO (X:Cx)(e:Option Expr)(m:M (Option Int)):Prop:=PO X e (tMO X.K m)
theorem HU:SO X none NQ:=by
 intro pins s σ H Q I q
 obtain⟨ρ,en,S,o,S',E,R,e,k⟩:=q
 cases e
 exact Sl pins s σ H Q I (k ρ H Ext.refl R)
theorem HS {m:M D}(h:SE X e m):SO X (some e) (PC m):=by
 intro pins s σ H Q I q
 refine Sk h pins s σ H Q I ?_
 obtain⟨ρ,en,S,o,S',E,R,e,k⟩:=q
 unfold PC at e
 obtain⟨p,e1,e⟩:=W5.mp e
 obtain⟨d,S1⟩:=p
 cases d with
 |int i=>
  cases e
  exact⟨ρ,en,S,.int i,_,E,R,e1,λx ρ1 H1 X1 R1 d1=>⟨i,d1.of_int,k ρ1 H1 X1 R1⟩⟩
 |_=>cases e
def mSl (m:M D)(lo hi:M (Option Int)):M D:=λen S=>(m en S).bind λp=>(lo en p.2).bind λl=>(hi en l.2).bind λu=>slD p.1 l.1 u.1 u.2
theorem FP {lo hi:Option Expr}{p2:Pos}{m:M D}{ml mh:M (Option Int)}(he:SE X e m)(hl:SO X lo ml)(hh:SO X hi mh):SE X (.Subscript e (.Slice lo hi none p2) pos) (mSl m ml mh):=by
 refine ZF (A2 (DC.or ((DB.or HV).or RH)) he hl hh) ?_
 rintro σ H Q ⟨ρ,en,S,v,S',E,R,e,k⟩
 unfold mSl at e
 obtain⟨p,e1,e⟩:=W5.mp e
 obtain⟨l,e2,e⟩:=W5.mp e
 obtain⟨u,e3,e⟩:=W5.mp e
 refine⟨ρ,en,S,p.1,p.2,E,R,e1,λx ρ1 H1 X1 R1 d1=>⟨ρ1,en,p.2,l.1,l.2,E.up X1,R1,e2,λρ2 H2 X2 R2=>⟨ρ2,en,l.2,u.1,u.2,(E.up X1).up X2,R2,e3,λρ3 H3 X3 R3=>?_⟩⟩⟩
 have d3:=(d1.up X2).up X3
 have XX:=(X1.trans X2).trans X3
 obtain⟨d,S1⟩:=p
 dsimp only at d3 e
 cases d with
 |str z=>
  dsimp only [slD] at e
  split at e
  ·cases e
   exact .inl ⟨z,d3.of_str,by assumption,k _ ρ3 H3 XX R3 .flat_str⟩
  ·cases e
 |tup ds=>
  dsimp only [slD] at e
  cases e
  obtain⟨a,xs,rfl,a1,a2⟩:=d3.of_tup
  have cut:DsR X.K ρ3 H3 (Fs ds l.1 u.1) (Fq xs l.1 u.1):=by
   unfold Fs Fq
   rw [a2.length]
   exact (a2.drop _).take _
  by_cases hw:HT.sIx xs.length 0 l.1=0/\HT.sIx xs.length xs.length u.1=xs.length
  ·refine .inr (.inl (.inr ⟨a,xs,rfl,.of a1,hw,?_⟩))
   have e4:Fs ds l.1 u.1=ds:=by
    unfold Fs
    rw [a2.length,hw.1,hw.2,←a2.length]
    simp
   rw [e4] at k
   exact k _ ρ3 H3 XX R3 (.tup a1 a2)
  ·exact .inr (.inl (.inl ⟨a,xs,rfl,.of a1,hw,λq hq=>k _ ρ3 _ (XX.trans (Ext.new hq)) (R3.new hq) (.tup Za (cut.up (Ext.new hq)))⟩))
 |ref n=>
  obtain⟨a,a1,rfl⟩:=d3.of_ref
  obtain⟨ob,eo,ro⟩:=R3.obj a1
  dsimp only [slD] at e
  rw [eo] at e
  cases ob with
  |lst ds=>
   cases e
   obtain⟨xs,x1,x2⟩:=ro
   have cut:DsR X.K ρ3 H3 (Fs ds l.1 u.1) (Fq xs l.1 u.1):=by
    unfold Fs Fq
    rw [x2.length]
    exact (x2.drop _).take _
   refine .inr (.inr ⟨a,xs,rfl,.of x1,λq hq=>?_⟩)
   refine k _ (ρ3++[q]) _ (XX.trans (Ext.newRef hq)) (R3.push hq ⟨_,Za,cut.up (Ext.newRef hq)⟩) (.ref ?_)
   rw [←R3.len];simp
  |dct _=>cases e
  |fdct _=>cases e
  |ins _ _=>cases e
 |_=>cases e
def Ul:List D->Option (List Bool)
 |[]=>some []
 | .bl b :: r=>(Ul r).map λbs=>b :: bs
 |_=>none
theorem TW {K:Wd}{ρ:List Addr}{H:Hp}:∀{ds:List D} {xs:List V} {bs:List Bool},DsR K ρ H ds xs->Ul ds=some bs->xs=bs.map V.bl
 |[],xs,bs,h,e=>by
  cases e
  unfold DsR at h;rw [h];rfl
 |d :: ds,xs,bs,h,e=>by
  unfold DsR at h
  obtain⟨x,r,rfl,h1,h2⟩:=h
  cases d with
  |bl b=>
   obtain⟨cs,e1,e2⟩:=Wi.mp e
   cases e2
   rw [W1,h1.of_bl,TW h2 e1]
  |_=>cases e
def Bg:List D->Option (List Str)
 |[]=>some []
 | .str b :: r=>(Bg r).map λbs=>b :: bs
 |_=>none
theorem Mo {K:Wd}{ρ:List Addr}{H:Hp}:∀{ds:List D} {xs:List V} {bs:List Str},DsR K ρ H ds xs->Bg ds=some bs->xs=bs.map V.str
 |[],xs,bs,h,e=>by
  cases e
  unfold DsR at h;rw [h];rfl
 |d :: ds,xs,bs,h,e=>by
  unfold DsR at h
  obtain⟨x,r,rfl,h1,h2⟩:=h
  cases d with
  |str b=>
   obtain⟨cs,e1,e2⟩:=Wi.mp e
   cases e2
   rw [W1,h1.of_str,Mo h2 e1]
  |_=>cases e
def Re (m:M (List D)):M D:=λen S=>(m en S).bind λp=>(Ul p.1).map λbs=>(.bl (bs.all id),p.2)
def Df (m:M (List D)):M D:=λen S=>(m en S).bind λp=>(Ul p.1).map λbs=>(.bl (bs.any id),p.2)
theorem UP {p:Pos}{m:M (List D)}(hc:X.calm=true)(h:SQ X e m)(hg:Gl X "all")(hm:X.mg "all" = none)(hv:WH "all" = some (.builtin "all"))
  (he:Wy [e] X.env=(false,eval e X.env) :: Wy [] X.env:=by rfl):SE X (.Call (.Name "all" p) [e] [] pos) (Re m):=by
 refine ZF (QP (Nc hc) hg hm hv (ZE h Ym he) (by decide) (by decide) he (by rfl)) ?_
 rintro σ H Q ⟨ρ,en,S,v,S',E,R,e,k⟩
 unfold Re at e
 obtain⟨r,e1,e⟩:=W5.mp e
 obtain⟨bs,e2,e3⟩:=Wi.mp e
 cases e3
 refine⟨ρ,en,S,r.1,r.2,E,R,e1,λa xs ρ1 H1 X1 R1 sq d1=>⟨a,bs,rfl,?_,k _ ρ1 H1 X1 R1 .flat_bl⟩⟩
 rw [←TW d1 e2];exact sq
theorem Ec {p:Pos}{m:M (List D)}(hc:X.calm=true)(h:SQ X e m)(hg:Gl X "any")(hm:X.mg "any" = none)(hv:WH "any" = some (.builtin "any"))
  (he:Wy [e] X.env=(false,eval e X.env) :: Wy [] X.env:=by rfl):SE X (.Call (.Name "any" p) [e] [] pos) (Df m):=by
 refine ZF (QP (Nb hc) hg hm hv (ZE h Ym he) (by decide) (by decide) he (by rfl)) ?_
 rintro σ H Q ⟨ρ,en,S,v,S',E,R,e,k⟩
 unfold Df at e
 obtain⟨r,e1,e⟩:=W5.mp e
 obtain⟨bs,e2,e3⟩:=Wi.mp e
 cases e3
 refine⟨ρ,en,S,r.1,r.2,E,R,e1,λa xs ρ1 H1 X1 R1 sq d1=>⟨a,bs,rfl,?_,k _ ρ1 H1 X1 R1 .flat_bl⟩⟩
 rw [←TW d1 e2];exact sq
def Ev:D->Sto->Option Nat
 | .str x,_=>if x.length≤Wk then some x.length else none
 | .tup ds,_=>some ds.length
 | .ref n,S=>match S[n]? with|some (.lst ds)=>some ds.length|some (.dct kvs)=>some kvs.length|some (.fdct kvs)=>some kvs.length|_=>none
 | .scr ns,_=>some ns.length
 |_,_=>none
def MD (m:M D):M D:=λen S=>(m en S).bind λp=>(Ev p.1 p.2).map λn=>(.int n,p.2)
theorem G7:QL X (.builtin "len") (λxs H Q=>∃a,xs=[V.ref a]/\((∃kvs,Rd H a (.dK kvs)/\Q (.int kvs.length) H)\/∃kvs,Rd H a (.dT kvs)/\Q (.int kvs.length) H)):=by
 intro pins s σ H xs us Q I rx h
 obtain⟨a,rfl,h⟩:=h
 obtain⟨u,rfl,ru⟩:=Y1.one rx
 cases ru
 rcases h with ⟨kvs,h1,q⟩|⟨kvs,h1,q⟩
 ·exact Z2p I h1 λt s' I'=>⟨.int kvs.length,H,I',⟨t,rfl⟩,q⟩
 ·obtain⟨hz,hS,xs,r,m⟩:=N3 I.hok h1
  have hlen:kvs.length=xs.length:=W0V r
  have hs:Wk=16777216:=W0S
  refine B5 hS m (by omega) ?_
  rw [←hlen]
  exact⟨.int kvs.length,H,I.tok _,⟨_,rfl⟩,q⟩
theorem U0 {p:Pos}{m:M D}(h:SE X e m)(hg:Gl X "len")(hm:X.mg "len" = none)(hv:WH "len" = some (.builtin "len"))
  (he:Wy [e] X.env=(false,eval e X.env) :: Wy [] X.env:=by rfl):SE X (.Call (.Name "len" p) [e] [] pos) (MD m):=by
 refine ZF (QP (Na.or (N9.or G7)) hg hm hv (ZE h Ym he) (by decide) (by decide) he (by rfl)) ?_
 rintro σ H Q ⟨ρ,en,S,v,S',E,R,e,k⟩
 unfold MD at e
 obtain⟨r,e1,e⟩:=W5.mp e
 obtain⟨n,e2,e3⟩:=Wi.mp e
 cases e3
 refine⟨ρ,en,S,r.1,r.2,E,R,e1,λx ρ1 H1 X1 R1 d1=>?_⟩
 obtain⟨d,S1⟩:=r
 dsimp only at e2 d1 R1 k
 cases d with
 |str z=>
  dsimp only [Ev] at e2
  split at e2
  ·cases e2
   exact .inr (.inl ⟨z,by rw [d1.of_str],by assumption,k _ ρ1 H1 X1 R1 .flat_int⟩)
  ·cases e2
 |tup ds=>
  cases e2
  obtain⟨a,xs,rfl,a1,a2⟩:=d1.of_tup
  exact .inl ⟨a,xs,rfl,.inr (.of a1),by rw [←a2.length];exact k _ ρ1 H1 X1 R1 .flat_int⟩
 |ref m0=>
  obtain⟨a,a1,rfl⟩:=d1.of_ref
  obtain⟨ob,eo,ro⟩:=R1.obj a1
  dsimp only [Ev] at e2
  rw [eo] at e2
  cases ob with
  |lst ds=>
   cases e2
   obtain⟨xs,x1,x2⟩:=ro
   exact .inl ⟨a,xs,rfl,.inl (.of x1),by rw [←x2.length];exact k _ ρ1 H1 X1 R1 .flat_int⟩
  |dct kvs=>
   cases e2
   rcases ro with ⟨ks,xs,x1,x2,x3,x4⟩|⟨ks,xs,x1,x2,x3,x4⟩
   ·have l1:=congrArg Ve x3
    rw [We,We] at l1
    refine .inr (.inr ⟨a,rfl,.inl ⟨_,.inl x1,?_⟩⟩)
    rw [VA,←x2,Nat.min_self,←l1]
    exact k _ ρ1 H1 X1 R1 .flat_int
   ·have l1:=congrArg Ve x3
    rw [We,We] at l1
    refine .inr (.inr ⟨a,rfl,.inr ⟨_,.inl x1,?_⟩⟩)
    rw [VA,←x2,Nat.min_self,←l1]
    exact k _ ρ1 H1 X1 R1 .flat_int
  |fdct kvs=>
   cases e2
   obtain⟨o,ks,xs,x1,x2,x3,x4⟩:=ro
   have l1:=congrArg Ve x3
   rw [We,We] at l1
   refine .inr (.inr ⟨a,rfl,.inl ⟨_,.inr ⟨o,x1⟩,?_⟩⟩)
   rw [VA,←x2,Nat.min_self,←l1]
   exact k _ ρ1 H1 X1 R1 .flat_int
  |ins _ _=>cases e2
 |scr ns=>
  cases e2
  obtain⟨a,rfl,a1⟩:=d1.of_scr
  exact .inl ⟨a,_,rfl,.inl a1.seq,by rw [We];exact k _ ρ1 H1 X1 R1 .flat_int⟩
 |_=>cases e2
def tyD:D->Sto->Option String
 | .non,_=>some "NoneType"
 | .bl _,_=>some "bool"
 | .int _,_=>some "int"
 | .str _,_=>some "str"
 | .tup _,_=>some "tuple"
 | .ref n,S=>match S[n]? with|some (.lst _)=>some "list" |some (.dct _)=>some "dict" |_=>none
 | .scr _,_=>none
theorem Dq {K:Wd}{ρ:List Addr}{H:Hp}{S:Sto}{d:D}{x:V}{T:String}(R:StR K ρ H S)(h:DR K ρ H d x)(e:tyD d S=some T):TyOf K H x (.type T):=by
 cases d with
 |non=>rw [h.of_non];cases e;exact .non
 |bl b=>rw [h.of_bl];cases e;exact .bl b
 |int i=>rw [h.of_int];cases e;exact .int i
 |str z=>rw [h.of_str];cases e;exact .str z
 |tup ds=>
  obtain⟨a,xs,rfl,a1,_⟩:=h.of_tup
  cases e;exact .tup a1
 |ref n=>
  obtain⟨a,a1,rfl⟩:=h.of_ref
  obtain⟨ob,eo,ro⟩:=R.obj a1
  dsimp only [tyD] at e
  rw [eo] at e
  cases ob with
  |lst ds=>
   cases e
   obtain⟨xs,x1,_⟩:=ro
   exact .lst x1
  |dct kvs=>
   cases e
   rcases ro with ⟨ks,xs,x1,_⟩|⟨ks,xs,x1,_⟩
   ·exact .dK x1
   ·exact .dT x1
  |fdct _=>cases e
  |ins _ _=>cases e
 |scr ns=>cases e
def QG (T C:String):Bool:=T == C||(T == "bool" && C == "int")
def Isi (K:Wd)(C:String):Prop:=∀T∈["NoneType", "bool", "int", "str", "tuple", "list", "dict"],W0c K (.type T) (.type C)=some (QG T C)
theorem Rr {d:D}{S:Sto}{T:String}(e:tyD d S=some T):T∈["NoneType", "bool", "int", "str", "tuple", "list", "dict"]:=by
 cases d with
 |ref n=>
  dsimp only [tyD] at e
  split at e<;>cases e<;>simp
 |_=>cases e<;>simp
def BA (C:String)(m:M D):M D:=λen S=>(m en S).bind λp=>(tyD p.1 p.2).map λT=>(.bl (QG T C),p.2)
theorem AO {C:String}:QL X (.builtin "isinstance") (λxs H Q=>∃x t b,xs=[x,.ty C]/\TyOf X.K H x t/\W0c X.K t (.type C)=some b/\Q (.bl b) H):=by
 intro pins s σ H xs us Q I r h
 obtain⟨x,t,b,rfl,ty,e,q⟩:=h
 obtain⟨u,w',rfl,ru,rw'⟩:=Kh r
 cases rw'
 exact Lu I ru ty e λtk=>⟨.bl b,H,I.tok tk,rfl,q⟩
theorem QC {p p2:Pos}{C:String}{x:Str}{m:M D}(hi:Isi X.K C)(h:SE X a m)(hg:Gl X "isinstance")(hm:X.mg "isinstance" = none)(hv:WH "isinstance" = some (.builtin "isinstance"))
  (hg2:Gl X x) (hm2:X.mg x=none) (hv2:WH x=some (.type C)) (hn2:x≠"__name__":=by decide) (hd2:(x == ("__debug__" : Str))=false:=by decide)
  (he:Wy [a,.Name x p2] X.env=(false,eval a X.env) :: Wy [.Name x p2] X.env:=by rfl) (he2:Wy [.Name x p2] X.env=(false,eval (.Name x p2) X.env) :: Wy [] X.env:=by rfl) :
  SE X (.Call (.Name "isinstance" p) [a,.Name x p2] [] pos) (BA C m):=by
 refine ZF (QP (AO (C:=C)) hg hm hv (ZE h (ZE (NC hg2 hm2 hv2 (show ZL (.ty C) (.type C) from rfl) hn2 hd2) Ym he2) he) (by decide) (by decide) he (by rw [he2];rfl)) ?_
 rintro σ H Q ⟨ρ,en,S,v,S',E,R,e,k⟩
 unfold BA at e
 obtain⟨r,e1,e⟩:=W5.mp e
 obtain⟨T,e2,e3⟩:=Wi.mp e
 cases e3
 exact⟨ρ,en,S,r.1,r.2,E,R,e1,λx ρ1 H1 X1 R1 d1=>⟨x,_,_,rfl,Dq R1 d1 e2,hi T (Rr e2),k _ ρ1 H1 X1 R1 .flat_bl⟩⟩
def NR (sep:M D)(m:M (List D)):M D:=λen S=>(sep en S).bind λq=>match q.1 with
 | .str x=>(m en q.2).bind λp=>(Bg p.1).bind λys=>if (ys.map (·.length)).sum+ys.length*x.length≤16777216 then some (.str (W23 x ys),p.2) else none
 |_=>none
theorem S6 {p:Pos}{sep:M D}{m:M (List D)}(hs:SE X a sep)(h:SQ X e m)(he:PA X [e] (Km (tMQ X.K m) Dy):=by exact ZE h Ym)
  (hb:PE X (.Call (.Attribute a "join" p) [e] [] pos) (tBM X.K "str" (λx xs H Q=>∃(sep:Str) (a:Addr) (ys:List Str),x = .str sep/\xs=[.ref a]/\(SqL X.K H a (ys.map V.str)\/SqT X.K H a (ys.map V.str))/\(ys.map (·.length)).sum+ys.length*sep.length≤16777216/\Q (.str (W23 sep ys)) H) (tM X.K sep) (Km (tMQ X.K m) Dy))) :
  SE X (.Call (.Attribute a "join" p) [e] [] pos) (NR sep m):=by
 refine ZF hb ?_
 rintro σ H Q ⟨ρ,en,S,v,S',E,R,e,k⟩
 unfold NR at e
 obtain⟨q,e0,e⟩:=W5.mp e
 obtain⟨d,S0⟩:=q
 cases d with
 |str x=>
  dsimp only at e
  obtain⟨r,e1,e⟩:=W5.mp e
  obtain⟨ys,e2,e⟩:=W5.mp e
  split at e
  ·rename_i hz
   cases e
   refine⟨ρ,en,S,.str x,S0,E,R,e0,λz ρ0 H0 X0 R0 d0=>?_⟩
   rw [d0.of_str]
   refine⟨rfl,ρ0,en,S0,r.1,r.2,E.up X0,R0,e1,λa xs ρ1 H1 X1 R1 sq d1=>⟨x,a,ys,rfl,rfl,?_,hz,k _ ρ1 H1 (X0.trans X1) R1 .flat_str⟩⟩
   rw [←Mo d1 e2];exact sq
  ·cases e
 |_=>cases e
def Ls:D->Sto->Option (ItD×Sto)
 | .tup ds,S=>some ((ds,.no),S)
 | .ref n,S=>match S[n]? with
  |some (.lst ds)=>some ((ds,.lst n),S)
  |some (.dct kvs)=>if (kvs.all λp=>(QE p.1).isSome)=true then some ((kvs.map (·.1),.fr n kvs true),S.set n (.fdct kvs)) else none
  |some (.fdct kvs)=>some ((kvs.map (·.1),.fr n kvs false),S)
  |_=>none
 | .scr ns,S=>some ((ns.map D.int,.no),S)
 | .str x,S=>some ((x.cps.toList.map λc=>D.str ⟨#[c]⟩,.no),S)
 |_,_=>none
def Qr (m:M D):M ItD:=λen S=>(m en S).bind λp=>Ls p.1 p.2
theorem As {K:Wd}{ρ0:List Addr}{H0:Hp}{n:Nat}{a:Addr}{ds:List D}(ha:ρ0[n]? = some a):ItR K ρ0 H0 (Itl K a) ds (.lst n):=by
 intro ρ H S X R g
 have g':S[n]? = some (.lst ds):=g
 obtain⟨a',h1,xs,h2,h3⟩:=R.ob n _ g'
 have e:a'=a:=by
  have:=X.pre n a ha
  rw [this] at h1
  exact (WT h1).symm
 subst e
 refine⟨λi d hd=>?_,xs,.of h2,by rw [←h3.length];exact Wp _⟩
 obtain⟨x,x1,x2⟩:=h3.get hd
 refine⟨⟨xs,x,.of h2,x1⟩,λy H' hy=>?_⟩
 obtain⟨rfl,hy⟩:=hy
 have:=hy xs (.of h2)
 rw [x1] at this
 cases this
 exact⟨Ext.refl,R,x2⟩
theorem Iw {K:Wd}{ρ0:List Addr}{H0:Hp}{a:Addr}{ds:List D}{xs:List V}(ha:H0 a=some (.tup xs))(h3:DsR K ρ0 H0 ds xs):ItR K ρ0 H0 (Itt K a) ds .no:=by
 intro ρ H S X R g
 have h2:=X.tup a xs ha
 have h3:=h3.up X
 refine⟨λi d hd=>?_,xs,.of h2,by rw [←h3.length];exact Wp _⟩
 obtain⟨x,x1,x2⟩:=h3.get hd
 refine⟨⟨xs,x,.of h2,x1⟩,λy H' hy=>?_⟩
 obtain⟨rfl,hy⟩:=hy
 have:=hy xs (.of h2)
 rw [x1] at this
 cases this
 exact⟨Ext.refl,R,x2⟩
theorem Iy {K:Wd}{ρ0:List Addr}{H0:Hp}{a:Addr}{ns:List Int}(ha:AU K H0 a ns):ItR K ρ0 H0 (Itl K a) (ns.map D.int) .no:=by
 intro ρ H S X R g
 have h2:=(ha.mono X.weak).seq
 have h3:DsR K ρ H (ns.map D.int) (ns.map V.int):=.ints ns
 refine⟨λi d hd=>?_,_,h2,by rw [←h3.length];exact Wp _⟩
 obtain⟨x,x1,x2⟩:=h3.get hd
 refine⟨⟨_,x,h2,x1⟩,λy H' hy=>?_⟩
 obtain⟨rfl,hy⟩:=hy
 have:=hy _ h2
 rw [x1] at this
 cases this
 exact⟨Ext.refl,R,x2⟩
theorem Ix {K:Wd}{ρ0:List Addr}{H0:Hp}{x:Str}:ItR K ρ0 H0 (Its x) (x.cps.toList.map λc=>D.str ⟨#[c]⟩) .no:=by
 intro ρ H S X R g
 refine⟨λi d hd=>?_,by show _=x.cps.size;simp⟩
 rw [WG] at hd
 have hd':∃c,x.cps[i]? = some c/\d=D.str ⟨#[c]⟩:=by
  cases q:x.cps.toList[i]? with
  |none=>rw [q] at hd;cases hd
  |some c=>rw [q] at hd;cases hd;exact⟨c,by simpa using q,rfl⟩
 obtain⟨c,hc,rfl⟩:=hd'
 refine⟨(Vn.mp hc).1,λy H' hy=>?_⟩
 obtain⟨rfl,c',h1,rfl⟩:=hy
 rw [hc] at h1
 cases h1
 exact⟨Ext.refl,R,.flat_str⟩
theorem GW {K:Wd}{ρ:List Addr}{H:Hp}{d:D}{k:Key}(e:QE d=some k):DR K ρ H d (kV k):=by
 cases d with
 |int i=>cases e;exact .flat_int
 |str x=>cases e;exact .flat_str
 |_=>cases e
theorem GZ {K:Wd}{ρ0:List Addr}{H0:Hp}{n:Nat}{a:Addr}{o:Obj}{tab:List (Key×V)}{kvs:List (D×D)}{th:Bool}(ha:ρ0[n]? = some a)(h0:H0 a=some (.frz o (.dK tab))):ItR K ρ0 H0 (Itk a o) (kvs.map (·.1)) (.fr n kvs th):=by
 intro ρ H S X1 R hg
 have hH:=X1.frz a o _ h0
 obtain⟨ob,e1,r⟩:=R.obj (X1.pre n a ha)
 have hg':S[n]? = some (.fdct kvs):=hg
 rw [hg'] at e1
 cases e1
 obtain⟨o',ks,xs,q1,q2,q3,q4⟩:=r
 rw [hH] at q1
 cases q1
 have l1:=congrArg Ve q3
 rw [We,We] at l1
 refine⟨λi d hd=>?_,⟨_,hH,by rw [We,VA,←q2,Nat.min_self,l1]⟩⟩
 rw [WG] at hd
 obtain⟨p,p1,p2⟩:=Wi.mp hd
 have li:i<ks.length:=by rw [←l1];exact (Wo.mp p1).1
 have hk:QE d=some ks[i]:=by
  have:=congrArg (λl=>l[i]?) q3
  simp only [WG,p1,W3,Wm li] at this
  rw [←p2]
  exact WT this
 have hz:(ks.zip xs)[i]? = some (ks[i],xs[i]'(by omega)):=by
  rw [Wm (by rw [VA];omega),List.getElem_zip]
 refine⟨⟨_,ks[i],xs[i]'(by omega),hH,hz⟩,λx H' y=>?_⟩
 obtain⟨rfl,y2⟩:=y
 obtain⟨k,v,y3,rfl⟩:=y2 _ hH
 rw [hz] at y3
 cases y3
 exact⟨Ext.refl,R,GW hk⟩
theorem Je {tg:Expr}{m:M D}(h:SE X e m):SI X tg e (Qr m):=by
 refine Pb (O1 h) ?_
 rintro σ H Q ⟨ρ,en,S,r,S',E,R,e,k⟩
 unfold Qr at e
 obtain⟨p,e1,e2⟩:=W5.mp e
 refine⟨ρ,en,S,p.1,p.2,E,R,e1,λx ρ1 H1 X1 R1 d1=>?_⟩
 obtain⟨d,S1⟩:=p
 dsimp only at e2 d1 R1 k
 cases d with
 |tup ds=>
  cases e2
  obtain⟨a,xs,rfl,a1,a2⟩:=d1.of_tup
  exact .inr (.inl ⟨a,xs,rfl,.of a1,k _ ρ1 H1 X1 R1 (Iw a1 a2) trivial⟩)
 |ref n=>
  obtain⟨a,a1,rfl⟩:=d1.of_ref
  obtain⟨ob,eo,ro⟩:=R1.obj a1
  dsimp only [Ls] at e2
  rw [eo] at e2
  cases ob with
  |lst ds=>
   cases e2
   obtain⟨xs,x1,x2⟩:=ro
   exact .inl ⟨a,xs,rfl,.of x1,k _ ρ1 H1 X1 R1 (As a1) trivial⟩
  |dct kvs=>
   dsimp only at e2
   split at e2
   ·rename_i hk
    cases e2
    have ro':∃(ks:List Key) (xs:List V),(H1 a=some (.dK (ks.zip xs))\/(H1 a=some (.dT [])/\ks=[]/\xs=[]))/\ks.length=xs.length/\kvs.map (λp=>QE p.1)=ks.map some/\DsR X.K ρ1 H1 (kvs.map (·.2)) xs:=by
     rcases ro with ⟨ks,xs,q1,q2,q3,q4⟩|⟨ks,xs,q1,q2,q3,q4⟩
     ·exact⟨ks,xs,.inl q1,q2,q3,q4⟩
     ·have hn:=TY q3 hk (λ_ _=>Uy)
      subst hn
      cases ks with
      |nil=>exact⟨[],[],.inr ⟨q1,rfl,rfl⟩,rfl,rfl,.nil⟩
      |cons _ _=>cases q3
    obtain⟨ks,xs,q1,q2,q3,q4⟩:=ro'
    have goK:∀o,(∀o u,X.H₀ a≠some (.frz o u))->H1 a=some (.dK (ks.zip xs))->Q (Itk a o) (upd H1 a (.frz o (.dK (ks.zip xs)))):=λo hn hq=>by
     have hE:Ext ρ1 H1 ρ1 (upd H1 a (.frz o (.dK (ks.zip xs)))):=Ext.upd hq (λ_ z=>nomatch z) λ_ _ z=>nomatch z
     obtain⟨R2,X2⟩:=R1.set (o:=.frz o (.dK (ks.zip xs))) (ob:=.fdct kvs) a1 (λ_ z=>by rw [eo] at z;cases z) ⟨o,ks,xs,Za,q2,q3,q4.up hE⟩
     have hX:∀o u,H a≠some (.frz o u):=λo u z=>by have:=X1.frz a o u z;rw [hq] at this;cases this
     have hT:∀ys,H a≠some (.tup ys):=λys z=>by have:=X1.tup a ys z;rw [hq] at this;cases this
     exact k _ ρ1 _ (X1.trans X2) R2 (GZ a1 Za) ⟨a,a1,hX,hT,hn⟩
    have goT:∀o,(∀o u,X.H₀ a≠some (.frz o u))->H1 a=some (.dT [])->kvs=[]->Q (Itk a o) (upd H1 a (.frz o (.dK []))):=λo hn hq hk=>by
     subst hk
     obtain⟨R2,X2⟩:=R1.set (o:=.frz o (.dK [])) (ob:=.fdct []) a1 (λ_ z=>by rw [eo] at z;cases z) ⟨o,[],[],Za,rfl,rfl,.nil⟩
     have hX:∀o u,H a≠some (.frz o u):=λo u z=>by have:=X1.frz a o u z;rw [hq] at this;cases this
     have hT:∀ys,H a≠some (.tup ys):=λys z=>by have:=X1.tup a ys z;rw [hq] at this;cases this
     exact k _ ρ1 _ (X1.trans X2) R2 (GZ a1 Za) ⟨a,a1,hX,hT,hn⟩
    rcases q1 with q1|⟨q1,rfl,rfl⟩
    ·exact .inr (.inr (.inr (.inl ⟨a,_,rfl,q1,λo hn=>goK o hn q1⟩)))
    ·cases kvs with
     |nil=>exact .inr (.inr (.inr (.inr (.inr ⟨a,rfl,q1,λo hn=>goT o hn q1 rfl⟩))))
     |cons _ _=>cases q3
   ·cases e2
  |fdct kvs=>
   cases e2
   obtain⟨o,ks,xs,q1,q2,q3,q4⟩:=ro
   exact .inr (.inr (.inr (.inr (.inl ⟨a,o,_,rfl,q1,k _ ρ1 H1 X1 R1 (GZ a1 q1) trivial⟩))))
  |ins _ _=>cases e2
 |scr ns=>
  cases e2
  obtain⟨a,rfl,a1⟩:=d1.of_scr
  exact .inl ⟨a,_,rfl,a1.seq,k _ ρ1 H1 X1 R1 (Iy a1) trivial⟩
 |str z=>
  cases e2
  exact .inr (.inr (.inl ⟨z,d1.of_str,k _ ρ1 H1 X1 R1 Ix trivial⟩))
 |_=>cases e2
def B8 (lo:Int)(n:Nat):List D:=(W7 n).map λi=>D.int (lo+(i:Nat))
def G4 (m:M D):M ItD:=λen S=>(m en S).bind λp=>match p.1 with | .int j=>if -(2 ^ 62)≤j/\j<2 ^ 62 then some ((B8 0 j.toNat,.no),p.2) else none|_=>none
theorem Iz {K:Wd}{ρ0:List Addr}{H0:Hp}{lo:Int}{n:Nat}:ItR K ρ0 H0 (Itr lo n) (B8 lo n) .no:=by
 intro ρ H S X R g
 refine⟨λi d hd=>?_,by show n≤_;simp [B8]⟩
 unfold B8 at hd
 rw [WG] at hd
 cases q:(W7 n)[i]? with
 |none=>rw [q] at hd;cases hd
 |some c=>
  rw [q] at hd
  cases hd
  obtain⟨h1,h2⟩:=Wo.mp q
  simp at h1 h2
  subst h2
  refine⟨h1,λy H' hy=>?_⟩
  obtain⟨rfl,rfl⟩:=hy
  exact⟨Ext.refl,R,.flat_int⟩
theorem Us {tg:Expr}{p:Pos}{m:M D}(h:SE X a m)(hg:Gl X "range")(hm:X.mg "range" = none)(hs:Wy [a] X.env=[(false,eval a X.env)]:=by rfl):SI X tg (.Call (.Name "range" p) [a] [] pos) (G4 m):=by
 refine Pb (Pa hg hm (ZE h Ym (by rw [hs];rfl)) hs) ?_
 rintro σ H Q ⟨ρ,en,S,r,S',E,R,e,k⟩
 unfold G4 at e
 obtain⟨q,e1,e⟩:=W5.mp e
 obtain⟨d,S1⟩:=q
 cases d with
 |int j=>
  dsimp only at e
  split at e
  ·rename_i hj
   cases e
   exact⟨ρ,en,S,.int j,_,E,R,e1,λx ρ1 H1 X1 R1 d1=>⟨j,by rw [d1.of_int],hj.1,hj.2,k _ ρ1 H1 X1 R1 Iz trivial⟩⟩
  ·cases e
 |_=>cases e
end
end DL
namespace DL
open PySem PySem.Spec PyProof.Rows L2
section
variable {X:Cx} {e a b c:Expr} {es:List Expr} {pos:Pos}
def tML (K:Wd)(m:M (List D)):TE:=λσ H Q=>∃ρ en S ds S',EnR K ρ H en σ/\StR K ρ H S/\m en S=some (ds,S')/\
 ∀a xs ρ' H',Ext ρ H ρ' H'->StR K ρ' H' S'->H' a=none->DsR K ρ' H' ds xs->Q (.ref a) (upd H' a (.lst xs))
def SL (X:Cx)(e:Expr)(m:M (List D)):Prop:=PE X e (tML X.K m)
theorem Z3J {m:M (List D)}(h:SL X e m):SE X e (Ji m):=by
 refine ZF h ?_
 rintro σ H Q ⟨ρ,en,S,v,S',E,R,e,k⟩
 unfold Ji at e
 obtain⟨p,e1,e2⟩:=Wi.mp e
 cases e2
 refine⟨ρ,en,S,p.1,p.2,E,R,e1,λa xs ρ' H' X1 R1 ha d1=>?_⟩
 refine k _ (ρ'++[a]) _ (X1.trans (Ext.newRef ha)) (R1.push ha ⟨xs,Za,d1.up (Ext.newRef ha)⟩) (.ref ?_)
 rw [←R1.len];simp
section
variable {tg iter elt:Expr} {ifs:List Expr} {scope:Scope} {tgs cn:List Str} {caps:List Nat} {mi:M ItD} {g:TG} {gd:D->En->Option En} {mc:M Bool} {m:M D}
theorem HW (hc:X.calm=true)(sc:CompSc X scope cn caps)(hi:SI X tg iter mi)(hlow:Fv tgs.length g)(hgd:GD X.K g gd)
  (hg:∀fp s H C,PG (ZH X scope (tgs++cn) fp s H C) tg g) (hf:∀fp s H C,SF (ZH X scope (tgs++cn) fp s H C) ifs mc) (he:∀fp s H C,SE (ZH X scope (tgs++cn) fp s H C) elt m)
  (hs:∀x,foldedSetIterable iter X.env x=pure x:=by intro _;rfl):SL X (.ListComp elt [⟨tg,iter,ifs,0⟩] scope pos) (YG mi tgs.length caps gd mc m):=by
 refine ZF (NA (NB (tt:=tMT X.K mc) (te:=tM X.K m) hc sc.cell sc.kind sc.names sc.free sc.cap hi hlow hg hf he hs)) ?_
 rintro σ H Q ⟨ρ,en,S,ds,S',E,R,e,k⟩
 exact Uj hgd (λ_ _ _ h=>h) E R e k
end
def Dd (a b:M D):M D:=λen S=>(a en S).bind λp=>(b en p.2).bind λq=>match p.1 with
 | .ref n=>match p.2[n]?,q.2[n]? with
  |some (.lst _),some (.lst ds)=>if ds.length<Wk then some (.non,q.2.set n (.lst (ds++[q.1]))) else none
  |_,_=>none
 |_=>none
theorem Gg {K:Wd}{ρ:List Addr}{H:Hp}{S:Sto}{n:Nat}{a:Addr}{ds:List D}(R:StR K ρ H S)(h:ρ[n]? = some a)(e:S[n]? = some (.lst ds)):∃xs,H a=some (.lst xs)/\DsR K ρ H ds xs:=by
 obtain⟨ob,e1,r⟩:=R.obj h
 rw [e] at e1
 cases e1
 exact r
theorem Bm {p:Pos}{ma mb:M D}(ha:SE X a ma)(hb:SE X b mb)(hs:Wy [b] X.env=(false,eval b X.env) :: Wy [] X.env:=by rfl)
  (hbase:attributeBase a ("append" : Str) X.env (eval a X.env)=eval a X.env:=by rfl)
  (hfew:((backTo pos (Wy [b] X.env)).all (λx=>!x.1)&&(backToKw pos (keywordEach [] X.env)).all (λx=>x.1.isSome)
   && decide ([b].length+([]:List Keyword).length+(if ([]:List Keyword).isEmpty then 0 else 1)<30))=true:=by rfl)
  (hline:(p.endLine == pos.line)=true:=by rfl) (hplain:(backTo pos (Wy [] X.env)).any (·.1)=false:=by rfl) :
  SE X (.Call (.Attribute a "append" p) [b] [] pos) (Dd ma mb):=by
 refine ZF (Oc PySem.F.plainAttrs_list PySem.F.slot_list_append PySem.F.type_list_append Pt ha (ZE hb Ym hs) hbase hfew hline hs hplain) ?_
 rintro σ H Q ⟨ρ,en,S,v,S',E,R,e,k⟩
 unfold Dd at e
 obtain⟨p,e1,e⟩:=W5.mp e
 obtain⟨q,e2,e⟩:=W5.mp e
 obtain⟨d,S1⟩:=p
 obtain⟨d2,S2⟩:=q
 refine⟨ρ,en,S,d,S1,E,R,e1,λx ρ1 H1 X1 R1 d1=>?_⟩
 cases d with
 |ref n=>
  dsimp only at e
  split at e
  ·rename_i ds0 ds hn0 hn
   split at e
   ·rename_i hz
    cases e
    obtain⟨l,a1,rfl⟩:=d1.of_ref
    obtain⟨xs0,hx0,_⟩:=Gg R1 a1 hn0
    refine⟨.inl ⟨rfl,xs0,.of hx0⟩,ρ1,en,S1,d2,S2,E.up X1,R1,e2,λy ρ2 H2 X2 R2 dy=>?_⟩
    have a2:=X2.pre n l a1
    obtain⟨xs,h1,h2⟩:=Gg R2 a2 hn
    refine⟨l,xs,y,rfl,rfl,h1,by rw [←h2.length];exact hz,?_⟩
    have hd:DsR X.K ρ2 H2 (ds++[d2]) (xs++[y]):=h2.append (.cons dy .nil)
    have hE:Ext ρ2 H2 ρ2 (upd H2 l (.lst (xs++[y]))):=Ext.upd h1 (λ_ z=>nomatch z) λ_ _ z=>nomatch z
    obtain⟨R3,X3⟩:=R2.set (o:=.lst (xs++[y])) (ob:=.lst (ds++[d2])) a2 (λ_ z=>by rw [hn] at z;cases z) ⟨xs++[y],Za,hd.up hE⟩
    exact k _ ρ2 _ ((X1.trans X2).trans X3) R3 .flat_non
   ·cases e
  ·cases e
 |_=>cases e
def Ig:M D:=λ_ S=>some (.ref S.length,S++[.dct []])
theorem HY:SE X (.Dict [] [] pos) Ig:=by
 refine ZF A3 ?_
 rintro σ H Q ⟨ρ,en,S,v,S',E,R,e,k⟩
 cases e
 intro p hp
 refine k _ (ρ++[p]) _ (Ext.newRef hp) (R.push hp (.inl ⟨[],[],Za,rfl,rfl,.nil⟩)) (.ref ?_)
 rw [←R.len];simp
theorem HB.or {t t':Z0Q}(h:HB X t)(h':HB X t'):HB X (λo i v H Q=>t o i v H Q\/t' o i v H Q):=by
 intro pins s σ H o i v ov iv u Q I ro ri rv q
 rcases q with q|q
 ·exact h pins s σ H o i v ov iv u Q I ro ri rv q
 ·exact h' pins s σ H o i v ov iv u Q I ro ri rv q
theorem FN (hu:X.A.units+64<cLine):HB X (λo i v H Q=>∃a H',o = .ref a/\D6 H a i v H'/\Q H'):=by
 intro pins s σ H o i v ov iv u Q I ro ri rv h
 obtain⟨a,H',rfl,g,q⟩:=h
 cases ro
 exact KR (by omega) I g ri rv λs' I'=>⟨H',I',q⟩
def HX (a k v:D)(S:Sto):Option Sto:=match a with
 | .ref n=>match S[n]? with
  |some (.lst ds)=>(match k with
   | .int i=>(ixN ds.length i).map λj=>S.set n (.lst (ds.set j v))
   |_=>none)
  |some (.dct kvs)=>if (Qs kvs k&&decide (kvs.length<Wk))=true then some (S.set n (.dct (G1 kvs k v))) else none
  |_=>none
 |_=>none
def QS (mv ma mb:M D):MS:=λen S=>(mv en S).bind λp=>(ma en p.2).bind λq=>(mb en q.2).bind λr=>(HX q.1 r.1 p.1 r.2).map λS'=>(.nx,en,S')
theorem DsR.setAt {K:Wd}{ρ:List Addr}{H:Hp}{d:D}{x:V}(h:DR K ρ H d x):∀{ds:List D} {xs:List V} (j:Nat),DsR K ρ H ds xs->DsR K ρ H (ds.set j d) (xs.set j x)
 |[],xs,j,t=>by unfold DsR at t;subst t;exact .nil
 |c :: ds,xs,j,t=>by
  unfold DsR at t
  obtain⟨y,r,rfl,t1,t2⟩:=t
  cases j with
  |zero=>exact .cons h t2
  |succ j=>exact .cons t1 (DsR.setAt h j t2)
theorem Ur {v:Expr}{p1:Pos}{mv ma mb:M D}(hu:X.A.units+64<cLine)(hv:SE X v mv)(ha:SE X a ma)(hb:SE X b mb)
  (hs:swapsWithSole [.Subscript a b p1] v pos.line X.env=pure false:=by rfl) (hw:swappedStores [.Subscript a b p1] v X.env=pure none:=by rfl)
  (h1:(assignEach [.Subscript a b p1] X.env).map (·.2)=[assign (.Subscript a b p1) X.env]:=by rfl)
  (hq:∀v,assign (.Subscript a b p1) X.env v=(do
   let ov ←holding [v] (eval a X.env)
   let iv ←holding [v,ov] (eval b X.env)
   standAt p1
   holding [v,ov,iv] (setItem ov iv v)
   release [v,ov,iv] []):=by intro _;rfl):SS X (.Assign [.Subscript a b p1] v pos) (QS mv ma mb):=by
 refine US (Eg hv (O2 ha hb (HB.or FL (FN hu)) hq) hs hw h1) ?_
 rintro DD σ H ⟨ρ,en,S,f,en',S',E,R,e,k⟩
 unfold QS at e
 obtain⟨p,e1,e⟩:=W5.mp e
 obtain⟨q,e2,e⟩:=W5.mp e
 obtain⟨r,e3,e⟩:=W5.mp e
 obtain⟨S3,e4,e5⟩:=Wi.mp e
 cases e5
 refine⟨ρ,en,S,p.1,p.2,E,R,e1,λx ρ1 H1 X1 R1 d1=>⟨ρ1,en,p.2,q.1,q.2,E.up X1,R1,e2,λy ρ2 H2 X2 R2 d2=>⟨ρ2,en,q.2,r.1,r.2,(E.up X1).up X2,R2,e3,λz ρ3 H3 X3 R3 d3=>?_⟩⟩⟩
 obtain⟨qd,qS⟩:=q
 obtain⟨rd,rS⟩:=r
 dsimp only at e4 d2 d3 R3
 have d1':=(d1.up X2).up X3
 have d2':=d2.up X3
 cases qd with
 |ref n=>
  obtain⟨l,a1,rfl⟩:=d2'.of_ref
  dsimp only [HX] at e4
  split at e4
  ·rename_i ds hn
   cases rd with
   |int i=>
    obtain⟨j,j1,j2⟩:=Wi.mp e4
    subst j2
    obtain⟨xs,h1,h2⟩:=Gg R3 a1 hn
    refine .inl ⟨l,xs,i,j,rfl,d3.of_int,h1,by rw [←h2.length];exact j1,?_⟩
    have hE:Ext ρ3 H3 ρ3 (upd H3 l (.lst (xs.set j x))):=Ext.upd h1 (λ_ z=>nomatch z) λ_ _ z=>nomatch z
    obtain⟨R4,X4⟩:=R3.set (o:=.lst (xs.set j x)) (ob:=.lst (ds.set j p.1)) a1 (λ_ z=>by rw [hn] at z;cases z) ⟨_,Za,(DsR.setAt d1' j h2).up hE⟩
    exact k ρ3 _ σ (((X1.trans X2).trans X3).trans X4) R4 (E.up (((X1.trans X2).trans X3).trans X4))
   |_=>cases e4
  ·rename_i kvs hn
   split at e4
   ·rename_i hc
    cases e4
    rw [Wl,decide_eq_true_eq] at hc
    obtain⟨H4,g,R4,X4⟩:=IL R3 a1 hn hc.1 hc.2 d3 d1'
    exact .inr ⟨l,H4,rfl,g,k ρ3 H4 σ (((X1.trans X2).trans X3).trans X4) R4 (E.up (((X1.trans X2).trans X3).trans X4))⟩
   ·cases e4
  ·cases e4
 |_=>cases e4
def KH (ma mb mc:M D):M D:=λen S=>(ma en S).bind λp=>(mb en p.2).bind λq=>(mc en q.2).bind λr=>match p.1 with
 | .ref n=>if KO p.2 n=true then (JT r.2 n q.1).map λkvs=>((UH kvs q.1).getD r.1,r.2) else none
 |_=>none
theorem A4 {o e f:Expr}{apos cpos:Pos}{td ty tx:TE}(hu:X.A.units+64<cLine)(ho:PE X o td)(he:PE X e ty)(hf:PE X f tx)(m:M2 X o "get" apos e f cpos) :
  PE X (.Call (.Attribute o "get" apos) [e,f] [] cpos) (λσ H Q=>td σ H λx H1=>∃a,x = .ref a/\IsD H1 a/\ty σ H1 λy H2=>tx σ H2 λz H3=>∃o,T9 H3 a y o/\Q (o.getD z) H3):=by
 intro pins s σ H Q I h
 refine wpAny_Call_method m.base m.few m.line PySem.F.plainAttrs_dict W1Q PySem.F.type_dict_get (thn (ho pins s σ H _ I h) λu s1 ⟨x,H1,I1,rx,a,ex,d,q1⟩=>?_)
 subst ex
 obtain rfl:u=Value.ref a:=rx
 obtain⟨t1,t2,_⟩:=CG I1 d
 refine⟨t1,t2,?_⟩
 rw [m.trees]
 refine W1E rfl (Calls.evalArgs_plain (W0Q (thn (he pins s1 σ H1 _ I1 q1) λiv s2 ⟨y,H2,I2,ry,q2⟩=>
  W0Q (thn (hf pins s2 σ H2 _ I2 q2) λfv s3 ⟨z,H3,I3,rz,ov,g,q3⟩=>W1I ?_))))
 exact IQ (by omega) I3 g ry rz λw' s4 I4 rw'=>⟨_,H3,I4,rw',q3⟩
theorem S9 {apos:Pos}{ma mb mc:M D}(hu:X.A.units+64<cLine)(ha:SE X a ma)(hb:SE X b mb)(hc:SE X c mc)(m:M2 X a "get" apos b c pos:=by exact⟨by rfl,by rfl,by rfl,by rfl⟩) :
  SE X (.Call (.Attribute a "get" apos) [b,c] [] pos) (KH ma mb mc):=by
 refine ZF (A4 hu ha hb hc m) ?_
 rintro σ H Q ⟨ρ,en,S,v,S',E,R,e,k⟩
 unfold KH at e
 obtain⟨p,e1,e⟩:=W5.mp e
 obtain⟨q,e2,e⟩:=W5.mp e
 obtain⟨r,e3,e⟩:=W5.mp e
 obtain⟨pd,pS⟩:=p
 refine⟨ρ,en,S,pd,pS,E,R,e1,λx ρ1 H1 X1 R1 d1=>?_⟩
 cases pd with
 |ref n=>
  dsimp only at e
  split at e
  ·rename_i hn0
   obtain⟨kvs,hn,e⟩:=Wi.mp e
   ·cases e
    obtain⟨l,a1,rfl⟩:=d1.of_ref
    refine⟨l,rfl,CD R1 a1 hn0,ρ1,en,pS,q.1,q.2,E.up X1,R1,e2,λy ρ2 H2 X2 R2 d2=>⟨ρ2,en,q.2,r.1,r.2,(E.up X1).up X2,R2,e3,λz ρ3 H3 X3 R3 d3=>?_⟩⟩
    obtain⟨g1,g2⟩:=M7 R3 (X3.pre n l (X2.pre n l a1)) hn (d2.up X3)
    cases hd:UH kvs q.1 with
    |some w=>
     rw [hd] at k
     obtain⟨x',x1,x2⟩:=g1 w hd
     exact⟨some x',x1,k _ ρ3 H3 ((X1.trans X2).trans X3) R3 x2⟩
    |none=>
     rw [hd] at k
     exact⟨none,g2 hd,k _ ρ3 H3 ((X1.trans X2).trans X3) R3 d3⟩
  ·cases e
 |_=>cases e
def HG:D->Sto->Option (List D)
 | .tup ds,_=>some ds
 | .ref n,S=>match S[n]? with|some (.lst ds)=>some ds|_=>none
 | .scr ns,_=>some (ns.map D.int)
 |_,_=>none
def KD (m:M D):M D:=λen S=>(m en S).bind λp=>(HG p.1 p.2).map λds=>(.tup ds,p.2)
theorem RL {p:Pos}{m:M D}(h:SE X e m)(hg:Gl X "tuple")(hm:X.mg "tuple" = none)(hv:WH "tuple" = some (.type "tuple"))
  (he:Wy [e] X.env=(false,eval e X.env) :: Wy [] X.env:=by rfl):SE X (.Call (.Name "tuple" p) [e] [] pos) (KD m):=by
 refine ZF (Jg Uk hg hm hv (ZE h Ym he) (by decide) (by decide) he (by rfl)) ?_
 rintro σ H Q ⟨ρ,en,S,v,S',E,R,e,k⟩
 unfold KD at e
 obtain⟨q,e1,e⟩:=W5.mp e
 obtain⟨ds,e2,e3⟩:=Wi.mp e
 cases e3
 refine⟨ρ,en,S,q.1,q.2,E,R,e1,λx ρ1 H1 X1 R1 d1=>?_⟩
 obtain⟨d,S1⟩:=q
 dsimp only at e2 d1 R1 k
 cases d with
 |tup es=>
  cases e2
  obtain⟨a,xs,rfl,a1,a2⟩:=d1.of_tup
  exact⟨a,xs,rfl,.inr ⟨.of a1,k _ ρ1 H1 X1 R1 d1⟩⟩
 |ref n=>
  obtain⟨a,a1,rfl⟩:=d1.of_ref
  dsimp only [HG] at e2
  split at e2
  ·rename_i es hn
   cases e2
   obtain⟨xs,h1,h2⟩:=Gg R1 a1 hn
   exact⟨a,xs,rfl,.inl ⟨.of h1,λl hl=>k _ ρ1 _ (X1.trans (Ext.new hl)) (R1.new hl) (.tup Za (h2.up (Ext.new hl)))⟩⟩
  ·cases e2
 |scr ns=>
  cases e2
  obtain⟨a,rfl,a1⟩:=d1.of_scr
  exact⟨a,_,rfl,.inl ⟨a1.seq,λl hl=>k _ ρ1 _ (X1.trans (Ext.new hl)) (R1.new hl) (.tup Za ((DsR.ints ns).up (Ext.new hl)))⟩⟩
 |_=>cases e2
def By (m:M (List D)):M D:=λen S=>(m en S).map λp=>(.tup p.1,p.2)
theorem GA {p:Pos}{m:M (List D)}(h:SL X e m)(hg:Gl X "tuple")(hm:X.mg "tuple" = none)(hv:WH "tuple" = some (.type "tuple"))
  (he:Wy [e] X.env=(false,eval e X.env) :: Wy [] X.env:=by rfl):SE X (.Call (.Name "tuple" p) [e] [] pos) (By m):=by
 refine ZF (Jg Uk hg hm hv (ZE h Ym he) (by decide) (by decide) he (by rfl)) ?_
 rintro σ H Q ⟨ρ,en,S,v,S',E,R,e,k⟩
 unfold By at e
 obtain⟨q,e1,e2⟩:=Wi.mp e
 cases e2
 refine⟨ρ,en,S,q.1,q.2,E,R,e1,λa xs ρ1 H1 X1 R1 ha d1=>⟨a,xs,rfl,.inl ⟨.of Za,λl hl=>?_⟩⟩⟩
 exact k _ ρ1 _ ((X1.trans (Ext.new ha)).trans (Ext.new hl)) ((R1.new ha).new hl) (.tup Za ((d1.up (Ext.new ha)).up (Ext.new hl)))
theorem RH {p:Pos}{m:M (List D)}(h:SQ X e m)(hg:Gl X "list")(hm:X.mg "list" = none)(hv:WH "list" = some (.type "list"))
  (he:Wy [e] X.env=(false,eval e X.env) :: Wy [] X.env:=by rfl):SL X (.Call (.Name "list" p) [e] [] pos) m:=by
 refine ZF (Jg N8 hg hm hv (ZE h Ym he) (by decide) (by decide) he (by rfl)) ?_
 rintro σ H Q ⟨ρ,en,S,ds,S',E,R,e,k⟩
 refine⟨ρ,en,S,ds,S',E,R,e,λa xs ρ1 H1 X1 R1 hq d1=>⟨a,xs,rfl,hq,λl hl=>k l xs ρ1 H1 X1 R1 hl d1⟩⟩
def Z2O (m:M (List D)):M (List D):=λen S=>(m en S).bind λp=>if Yg p.1=true then some (Y6 p.1,p.2) else none
def E7:D->Sto->Option (List D)
 | .tup ds,_=>some ds
 | .ref n,S=>match S[n]? with
  |some (.lst ds)=>some ds
  |some (.dct kvs)=>some (kvs.map (·.1))
  |some (.fdct kvs)=>some (kvs.map (·.1))
  |_=>none
 | .scr ns,_=>some (ns.map D.int)
 |_,_=>none
def KG (m:M D):M (List D):=λen S=>(m en S).bind λp=>(E7 p.1 p.2).bind λds=>if Yg ds=true then some (Y6 ds,p.2) else none
theorem GV {K:Wd}{ρ:List Addr}{H:Hp}:∀{kvs:List (D×D)} {ks:List Key},kvs.map (λp=>QE p.1)=ks.map some->DsR K ρ H (kvs.map (·.1)) (ks.map kV)
 |[],ks,e=>by
  cases ks with
  |nil=>exact .nil
  |cons _ _=>cases e
 |p :: kvs,ks,e=>by
  cases ks with
  |nil=>cases e
  |cons k ks=>
   simp only [W1,VO] at e
   exact .cons (GW e.1) (GV e.2)
theorem BJ {K:Wd}{ρ:List Addr}{H:Hp}:∀{ds:List D} {ks:List Key},PR ds=some ks->DsR K ρ H ds (ks.map kV)
 |[],ks,e=>by cases e;exact .nil
 |d :: ds,ks,e=>by
  unfold PR at e
  obtain⟨k,e1,e⟩:=W5.mp e
  obtain⟨ks',e2,e3⟩:=Wi.mp e
  subst e3
  exact .cons (GW e1) (BJ e2)
theorem BI {K:Wd}{ρ:List Addr}{H:Hp}:∀{kvs:List (D×D)} {ks:List (List Key)} {xs:List V} {bs:List Addr},kvs.map (λp=>QV p.1)=ks.map some->ks.length=xs.length->Paired (λ(p:List Key×V) (b:Addr)=>H b=some (.tup (p.1.map kV))) (ks.zip xs) bs->DsR K ρ H (kvs.map (·.1)) (bs.map V.ref)
 |[],ks,xs,bs,e,hl,h=>by
  cases ks with
  |nil=>cases h;exact .nil
  |cons _ _=>cases e
 |p :: kvs,ks,xs,bs,e,hl,h=>by
  cases ks with
  |nil=>cases e
  |cons k ks=>
   cases xs with
   |nil=>cases hl
   |cons x xs=>
    simp only [W1,VO] at e
    rw [WR] at h
    cases h with
    |cons h1 h2=>
     obtain⟨d,v⟩:=p
     refine .cons ?_ (BI e.2 (by simpa using hl) h2)
     have e1:=e.1
     cases d with
     |tup ds=>exact .tup h1 (BJ e1)
     |_=>cases e1
theorem Gb {p:Pos}{m:M D}(hcalm:X.calm=true)(hu:X.A.units+70<cLine)(h:SE X e m)(hg:Gl X "sorted")(hm:X.mg "sorted" = none)(hv:WH "sorted" = some (.builtin "sorted"))
  (he:Wy [e] X.env=(false,eval e X.env) :: Wy [] X.env:=by rfl):SL X (.Call (.Name "sorted" p) [e] [] pos) (KG m):=by
 refine ZF (QP ((Ma hu).or (N7 hcalm hu)) hg hm hv (ZE h Ym he) (by decide) (by decide) he (by rfl)) ?_
 rintro σ H Q ⟨ρ,en,S,ds,S',E,R,e,k⟩
 unfold KG at e
 obtain⟨q,e1,e⟩:=W5.mp e
 obtain⟨ds0,e2,e⟩:=W5.mp e
 split at e
 ·rename_i ok
  cases e
  refine⟨ρ,en,S,q.1,q.2,E,R,e1,λx ρ1 H1 X1 R1 d1=>?_⟩
  obtain⟨d,S1⟩:=q
  dsimp only at e2 d1 R1 k
  have fin:∀b xs',H1 b=none->DsR X.K ρ1 H1 (Y6 ds0) xs'->Q (.ref b) (upd H1 b (.lst xs')):=λl xs' hl d'=>k l xs' ρ1 H1 X1 R1 hl d'
  cases d with
  |tup es=>
   cases e2
   obtain⟨a,xs,rfl,a1,a2⟩:=d1.of_tup
   exact .inl ⟨a,xs,ρ1,_,rfl,.inr (.of a1),a2,ok,fin⟩
  |scr ns=>
   cases e2
   obtain⟨a,rfl,a1⟩:=d1.of_scr
   exact .inl ⟨a,_,ρ1,_,rfl,.inl a1.seq,.ints ns,ok,fin⟩
  |ref n=>
   obtain⟨a,a1,rfl⟩:=d1.of_ref
   obtain⟨ob,eo,ro⟩:=R1.obj a1
   dsimp only [E7] at e2
   rw [eo] at e2
   cases ob with
   |lst es=>
    cases e2
    obtain⟨xs,x1,x2⟩:=ro
    exact .inl ⟨a,xs,ρ1,_,rfl,.inl (.of x1),x2,ok,fin⟩
   |dct kvs=>
    cases e2
    rcases ro with ⟨ks,xs,q1,q2,q3,q4⟩|⟨ks,xs,q1,q2,q3,q4⟩
    ·exact .inr ⟨a,ρ1,_,rfl,ok,fin,.inl ⟨ks,xs,.inl q1,q2,GV q3⟩⟩
    ·exact .inr ⟨a,ρ1,_,rfl,ok,fin,.inr ⟨_,q1,λbs hb=>BI q3 q2 hb⟩⟩
   |fdct kvs=>
    cases e2
    obtain⟨o,ks,xs,q1,q2,q3,q4⟩:=ro
    exact .inr ⟨a,ρ1,_,rfl,ok,fin,.inl ⟨ks,xs,.inr ⟨o,q1⟩,q2,GV q3⟩⟩
   |ins _ _=>cases e2
  |_=>cases e2
 ·cases e
end
end DL
namespace DL
open PySem PySem.Spec PyProof.Rows L2
section
variable {X:Cx} {e a b c:Expr} {es:List Expr} {pos:Pos}
def Fj (xs ys:List D):List D:=(xs.zip ys).map λp=>.tup [p.1,p.2]
def Nt:D->Sto->Option (List D×List (Nat×List D))
 | .tup ds,_=>some (ds,[])
 | .ref n,S=>match S[n]? with|some (.lst ds)=>some (ds,[(n,ds)])|_=>none
 |_,_=>none
def gdZ:List (Nat×List D)->Gd
 |[]=>.no
 |g=>.zl g
def Db (ma mb:M D):M ItD:=λen S=>(ma en S).bind λp=>(mb en p.2).bind λq=>(Nt p.1 q.2).bind λx=>(Nt q.1 q.2).map λy=>((Fj x.1 y.1,gdZ (x.2++y.2)),q.2)
theorem CI {gs:List (Nat×List D)}{ds:List D}{S:Sto}(h:Kg (gdZ gs) ds S):∀p∈gs,S[p.1]? = some (.lst p.2):=by
 cases gs with
 |nil=>intro p hp;cases hp
 |cons _ _=>exact h
def SdR (K:Wd)(ρ:List Addr)(H:Hp)(c:Bool)(l:Addr)(ds:List D)(gs:List (Nat×List D)):Prop:=(c=false/\∃vs,H l=some (.tup vs)/\DsR K ρ H ds vs)\/(c=true/\∃n,ρ[n]? = some l/\(n,ds)∈gs)
theorem Mq {K:Wd}{ρ:List Addr}{H:Hp}{S:Sto}{d:D}{x:V}{r:List D×List (Nat×List D)}(R:StR K ρ H S)(h:DR K ρ H d x)(e:Nt d S=some r):∃c l vs,x = .ref l/\TrS c H l vs/\SdR K ρ H c l r.1 r.2:=by
 cases d with
 |tup ds=>
  cases e
  obtain⟨a,xs,rfl,a1,a2⟩:=h.of_tup
  exact⟨false,a,xs,rfl,a1,.inl ⟨rfl,xs,a1,a2⟩⟩
 |ref n=>
  obtain⟨a,a1,rfl⟩:=h.of_ref
  dsimp only [Nt] at e
  split at e
  ·rename_i ds hn
   cases e
   obtain⟨xs,x1,x2⟩:=Gg R a1 hn
   exact⟨true,a,xs,rfl,x1,.inr ⟨rfl,n,a1,Ws⟩⟩
  ·cases e
 |_=>cases e
theorem SdR.mono {K:Wd}{ρ:List Addr}{H:Hp}{c:Bool}{l:Addr}{ds:List D}{gs gs':List (Nat×List D)}(h:SdR K ρ H c l ds gs)(hs:∀p∈gs,p∈gs'):SdR K ρ H c l ds gs':=by
 rcases h with h|⟨h1,n,h2,h3⟩
 ·exact .inl h
 ·exact .inr ⟨h1,n,h2,hs _ h3⟩
theorem SdR.at {K:Wd}{ρ0 ρ:List Addr}{H0 H:Hp}{S:Sto}{c:Bool}{l:Addr}{ds:List D}{gs:List (Nat×List D)}(h:SdR K ρ0 H0 c l ds gs)(X1:Ext ρ0 H0 ρ H)(R:StR K ρ H S)(g:∀p∈gs,S[p.1]? = some (.lst p.2)):∃vs,TrS c H l vs/\DsR K ρ H ds vs:=by
 rcases h with ⟨rfl,vs,h1,h2⟩|⟨rfl,n,h1,h2⟩
 ·exact⟨vs,X1.tup _ _ h1,h2.up X1⟩
 ·obtain⟨xs,x1,x2⟩:=Gg R (X1.pre n l h1) (g _ h2)
  exact⟨xs,x1,x2⟩
theorem Iv {K:Wd}{ρ0:List Addr}{H0:Hp}{c1 c2:Bool}{l1 l2:Addr}{xs ys:List D}{gs:List (Nat×List D)}(s1:SdR K ρ0 H0 c1 l1 xs gs)(s2:SdR K ρ0 H0 c2 l2 ys gs) :
  ItR K ρ0 H0 (Itz c1 l1 c2 l2) (Fj xs ys) (gdZ gs):=by
 intro ρ H S X1 R g
 obtain⟨vs,t1,d1⟩:=s1.at X1 R (CI g)
 obtain⟨ws,t2,d2⟩:=s2.at X1 R (CI g)
 refine⟨λi d hd=>?_,vs,ws,t1,t2,?_⟩
 ·unfold Fj at hd
  rw [WG] at hd
  obtain⟨q,q1,q2⟩:=Wi.mp hd
  obtain⟨z1,z2⟩:=W1c.mp q1
  obtain⟨x,x1,x2⟩:=d1.get z1
  obtain⟨y,y1,y2⟩:=d2.get z2
  refine⟨⟨vs,ws,x,y,t1,t2,x1,y1⟩,λv H' hy=>?_⟩
  obtain⟨p,x',y',rfl,hn,rfl,e1,e2⟩:=hy
  have e1:=e1 _ t1
  have e2:=e2 _ t2
  rw [x1] at e1
  rw [y1] at e2
  cases e1
  cases e2
  subst q2
  exact⟨Ext.new hn,R.new hn,.tup Za ((DsR.cons x2 (.cons y2 .nil)).up (Ext.new hn))⟩
 ·have l1:=d1.length
  have l2:=d2.length
  unfold Fj
  rw [We,VA]
  omega
theorem E9 {elts:List Expr}{kt:Nat}{pt p:Pos}{ma mb:M D}(ha:SE X a ma)(hb:SE X b mb)(hg:Gl X "zip")(hm:X.mg "zip" = none)(hv:WH "zip" = some (.type "zip"))
  (he:Wy [a,b] X.env=(false,eval a X.env) :: Wy [b] X.env:=by rfl) (he2:Wy [b] X.env=(false,eval b X.env) :: Wy [] X.env:=by rfl) :
  SI X (.Tuple elts kt pt) (.Call (.Name "zip" p) [a,b] [] pos) (Db ma mb):=by
 refine Pb (DZ hg hm hv (ZE ha (ZE hb Ym he2) he) he (by rw [he2];rfl)) ?_
 rintro σ H Q ⟨ρ,en,S,r,S',E,R,e,k⟩
 unfold Db at e
 obtain⟨p,e1,e⟩:=W5.mp e
 obtain⟨q,e2,e⟩:=W5.mp e
 obtain⟨x,e3,e⟩:=W5.mp e
 obtain⟨y,e4,e⟩:=Wi.mp e
 cases e
 refine⟨ρ,en,S,p.1,p.2,E,R,e1,λu ρ1 H1 X1 R1 d1=>⟨ρ1,en,p.2,q.1,q.2,E.up X1,R1,e2,λv ρ2 H2 X2 R2 d2=>?_⟩⟩
 obtain⟨c1,l1,vs,rfl,t1,s1⟩:=Mq R2 (d1.up X2) e3
 obtain⟨c2,l2,ws,rfl,t2,s2⟩:=Mq R2 d2 e4
 refine⟨c1,l1,vs,c2,l2,ws,rfl,t1,t2,k _ ρ2 H2 (X1.trans X2) R2 (Iv (s1.mono λp hp=>W12 _ hp) (s2.mono λp hp=>WW _ hp)) ?_⟩
 show GF X (gdZ (x.2++y.2)) ρ2 H
 cases x.2++y.2<;>trivial
def Ic (f:Int->Int->Int)(a b:M D):M D:=λen S=>(a en S).bind λp=>(b en p.2).bind λq=>match p.1,q.1 with | .int i,.int j=>some (.int (f i j),q.2)|_,_=>none
def CH (i j:Int):Int:=if j>i then j else i
theorem Fy {f:Int->Int->Int}{ma mb:M D}{σ:L2.St}{H:Hp}{Q:VK}(h:tM X.K (Ic f ma mb) σ H Q):Km (tM X.K ma) (Km (tM X.K mb) Dy) σ H (λxs H'=>∃i j,xs=[.int i,.int j]/\Q (.int (f i j)) H'):=by
 obtain⟨ρ,en,S,v,S',E,R,e,k⟩:=h
 unfold Ic at e
 obtain⟨p,e1,e⟩:=W5.mp e
 obtain⟨q,e2,e⟩:=W5.mp e
 obtain⟨d,S1⟩:=p
 obtain⟨d',S2⟩:=q
 refine⟨ρ,en,S,d,S1,E,R,e1,λx ρ1 H1 X1 R1 d1=>⟨ρ1,en,S1,d',S2,E.up X1,R1,e2,λy ρ2 H2 X2 R2 d2=>?_⟩⟩
 cases d with
 |int i=>
  cases d' with
  |int j=>
   cases e
   exact⟨i,j,by rw [d1.of_int,d2.of_int],k _ ρ2 H2 (X1.trans X2) R2 .flat_int⟩
  |_=>cases e
 |_=>cases e
theorem S5 {p:Pos}{ma mb:M D}(hc:X.calm=true)(ha:SE X a ma)(hb:SE X b mb)(hg:Gl X "max")(hm:X.mg "max" = none)(hv:WH "max" = some (.builtin "max"))
  (he:Wy [a,b] X.env=(false,eval a X.env) :: Wy [b] X.env:=by rfl) (he2:Wy [b] X.env=(false,eval b X.env) :: Wy [] X.env:=by rfl):SE X (.Call (.Name "max" p) [a,b] [] pos) (Ic CH ma mb):=
 ZF (QP (F0 hc) hg hm hv (ZE ha (ZE hb Ym he2) he) (by decide) (by decide) he (by rw [he2];rfl)) λ_ _ _ h=>Fy h
def PJ (a:M D):M D:=λen S=>(a en S).bind λp=>match p.1 with | .int i=>some (.int i,p.2) | .bl c=>some (.int (if c then 1 else 0),p.2)|_=>none
theorem S8 {p:Pos}{m:M D}(h:SE X e m)(hg:Gl X "int")(hm:X.mg "int" = none)(hv:WH "int" = some (.type "int"))
  (he:Wy [e] X.env=(false,eval e X.env) :: Wy [] X.env:=by rfl):SE X (.Call (.Name "int" p) [e] [] pos) (PJ m):=by
 refine ZF (Jg F2 hg hm hv (ZE h Ym he) (by decide) (by decide) he (by rfl)) ?_
 rintro σ H Q ⟨ρ,en,S,v,S',E,R,e,k⟩
 unfold PJ at e
 obtain⟨q,e1,e⟩:=W5.mp e
 obtain⟨d,S1⟩:=q
 refine⟨ρ,en,S,d,S1,E,R,e1,λx ρ1 H1 X1 R1 d1=>?_⟩
 cases d with
 |int i=>cases e;exact .inl ⟨i,by rw [d1.of_int],k _ ρ1 H1 X1 R1 .flat_int⟩
 |bl c=>cases e;exact .inr ⟨c,by rw [d1.of_bl],k _ ρ1 H1 X1 R1 .flat_int⟩
 |_=>cases e
theorem OH {pins:List (Addr×Obj)}{σ:L2.St}{H:Hp}{s:Shared}{ρ:List Addr}{S:Sto}{d:D}{x:V}{u:Value}{T:String}(I:Inv X pins σ H s)(R:StR X.K ρ H S)(h:DR X.K ρ H d x)(rx:ZL x u)(e:tyD d S=some T) :
  ∃Z,PySem.W.KitX X.K u (.type T) Z/\Z s.heap/\u≠.builtin "__main__.__loader__#opaque":=by
 cases d with
 |non=>rw [h.of_non] at rx;cases e;cases (show u=Value.none from rx);exact⟨_,PySem.W.kitx_none,True.intro,λz=>nomatch z⟩
 |bl b=>rw [h.of_bl] at rx;cases e;cases (show u=Value.bool b from rx);exact⟨_,PySem.W.kitx_bool,True.intro,λz=>nomatch z⟩
 |int i=>rw [h.of_int] at rx;cases e;obtain⟨t,q⟩:=(show ∃t,u=Value.int i t from rx);cases q;exact⟨_,PySem.W.kitx_int,True.intro,λz=>nomatch z⟩
 |str i=>rw [h.of_str] at rx;cases e;obtain⟨t,q⟩:=(show ∃t,u=Value.str i t from rx);cases q;exact⟨_,PySem.W.kitx_str,True.intro,λz=>nomatch z⟩
 |tup ds=>
  obtain⟨a,xs,rfl,a1,_⟩:=h.of_tup
  cases e
  cases (show u=Value.ref a from rx)
  obtain⟨its,rv,⟨o,ho,hc,_⟩,_⟩:=I.tuple (.of a1)
  exact⟨_,PySem.W.kitx_tuple,⟨o,ho,hc⟩,λz=>nomatch z⟩
 |ref n=>
  obtain⟨a,a1,rfl⟩:=h.of_ref
  cases (show u=Value.ref a from rx)
  obtain⟨ob,eo,ro⟩:=R.obj a1
  dsimp only [tyD] at e
  rw [eo] at e
  cases ob with
  |lst ds=>
   cases e
   obtain⟨xs,x1,_⟩:=ro
   obtain⟨_,_,n,_,h1⟩:=(show ZI X.prog X.w H s.heap a (.lst xs) from I.hok a _ x1)
   exact⟨_,W2r,⟨_,h1,rfl⟩,λz=>nomatch z⟩
  |dct kvs=>
   cases e
   have:IsD H a:=CD R a1 (by unfold KO;rw [eo])
   obtain⟨t1,_⟩:=CG I this
   obtain⟨o,ho,hc⟩:=t1
   exact⟨_,W2s,⟨o,ho,hc⟩,λz=>nomatch z⟩
  |fdct _=>cases e
  |ins _ _=>cases e
 |scr ns=>cases e
def PH (C1 C2:String)(m:M D):M D:=λen S=>(m en S).bind λp=>(tyD p.1 p.2).map λT=>(.bl (QG T C1||QG T C2),p.2)
theorem F1 {C1 C2:String}(h1:Isi X.K C1)(h2:Isi X.K C2):QL X (.builtin "isinstance") (λxs H Q=>∃x p ρ S d T,xs=[x,.ref p]/\H p=some (.tup [.ty C1,.ty C2])/\StR X.K ρ H S/\DR X.K ρ H d x/\tyD d S=some T/\Q (.bl (QG T C1||QG T C2)) H):=by
 intro pins s σ H xs us Q I r h
 obtain⟨x,p,ρ,S,d,T,rfl,hp,R,dx,ty,q⟩:=h
 obtain⟨u,w',rfl,ru,rw'⟩:=Kh r
 cases rw'
 obtain⟨Z,z1,z2,z3⟩:=OH I R dx ru ty
 obtain⟨its,rv,⟨o,ho,hc,n,hd⟩,_⟩:=I.tuple (.of hp)
 obtain⟨v1,v2,rfl,r1,r2⟩:=Kh rv
 cases (show v1=Value.type C1 from r1)
 cases (show v2=Value.type C2 from r2)
 obtain⟨oc,od,odt,osl⟩:=o
 dsimp only at hc hd
 subst hc hd
 refine PySem.W.kia_tup z1 I.kIn z2 ho (b:=QG T C1||QG T C2) ?_ z3 λtk=>⟨.bl _,H,I.tok tk,rfl,q⟩
 unfold PySem.W.kitAny
 rw [h1 T (Rr ty)]
 cases QG T C1 with
 |true=>rfl
 |false=>
  dsimp only
  unfold PySem.W.kitAny
  rw [h2 T (Rr ty)]
  cases QG T C2<;>rfl
theorem S7 {p p1 p2 p3:Pos}{k3:Nat}{C1 C2:String}{x1 x2:Str}{m:M D}(hi1:Isi X.K C1)(hi2:Isi X.K C2)(h:SE X a m)(hg:Gl X "isinstance")(hm:X.mg "isinstance" = none)(hv:WH "isinstance" = some (.builtin "isinstance"))
  (hg1:Gl X x1) (hm1:X.mg x1=none) (hv1:WH x1=some (.type C1)) (hg2:Gl X x2) (hm2:X.mg x2=none) (hv2:WH x2=some (.type C2))
  (hn1:x1≠"__name__":=by decide) (hd1:(x1 == ("__debug__" : Str))=false:=by decide) (hn2:x2≠"__name__":=by decide) (hd2:(x2 == ("__debug__" : Str))=false:=by decide)
  (he:Wy [a,.Tuple [.Name x1 p1,.Name x2 p2] k3 p3] X.env=(false,eval a X.env) :: Wy [.Tuple [.Name x1 p1,.Name x2 p2] k3 p3] X.env:=by rfl)
  (he2:Wy [.Tuple [.Name x1 p1,.Name x2 p2] k3 p3] X.env=(false,eval (.Tuple [.Name x1 p1,.Name x2 p2] k3 p3) X.env) :: Wy [] X.env:=by rfl)
  (hf1:Wy [.Name x1 p1,.Name x2 p2] X.env=(false,eval (.Name x1 p1) X.env) :: Wy [.Name x2 p2] X.env:=by rfl) (hf2:Wy [.Name x2 p2] X.env=(false,eval (.Name x2 p2) X.env) :: Wy [] X.env:=by rfl) :
  SE X (.Call (.Name "isinstance" p) [a,.Tuple [.Name x1 p1,.Name x2 p2] k3 p3] [] pos) (PH C1 C2 m):=by
 refine ZF (QP (F1 (C1:=C1) (C2:=C2) hi1 hi2) hg hm hv (ZE h (ZE (Ei (ZE (NC hg1 hm1 hv1 (show ZL (.ty C1) (.type C1) from rfl) hn1 hd1) (ZE (NC hg2 hm2 hv2 (show ZL (.ty C2) (.type C2) from rfl) hn2 hd2) Ym hf2) hf1)) Ym he2) he) (by decide) (by decide) he (by rw [he2];rfl)) ?_
 rintro σ H Q ⟨ρ,en,S,v,S',E,R,e,k⟩
 unfold PH at e
 obtain⟨r,e1,e⟩:=W5.mp e
 obtain⟨T,e2,e3⟩:=Wi.mp e
 cases e3
 refine⟨ρ,en,S,r.1,r.2,E,R,e1,λx ρ1 H1 X1 R1 d1=>⟨by show 2≤Wk;decide,λq hq=>⟨x,q,ρ1,r.2,r.1,T,rfl,Za,R1.new hq,d1.up (Ext.new hq),e2,k _ ρ1 _ (X1.trans (Ext.new hq)) (R1.new hq) .flat_bl⟩⟩⟩
def U3:List D->Option (List (D×D))
 |[]=>some []
 | .tup [k,v] :: r=>if (QE k).isSome=true then (U3 r).map λps=>(k,v) :: ps else none
 |_=>none
def UW (kvs:List (D×D))(ps:List (D×D)):List (D×D):=ps.foldl (λacc p=>G1 acc p.1 p.2) kvs
def BB (m:M D):M D:=λen S=>(m en S).bind λp=>match p.1 with
 | .tup ds=>if ds.length≤Wk then (U3 ds).map λps=>(.ref p.2.length,p.2++[.dct (UW [] ps)]) else none
 |_=>none
theorem Bu {K:Wd}{ρ:List Addr}{H:Hp}:∀{ds:List D} {qs:List (D×D)} {xs:List V},U3 ds=some qs->DsR K ρ H ds xs->
  ∃ps:List (Key×V),xs.length=ps.length/\(∀(j:Nat) k v,ps[j]? = some (k,v)->∃p,xs[j]? = some (.ref p)/\H p=some (.tup [kV k,v]))/\qs.map (λp=>QE p.1)=ps.map (λp=>some p.1)/\DsR K ρ H (qs.map (·.2)) (ps.map (·.2))
 |[],qs,xs,e,h=>by
  cases e
  unfold DsR at h
  subst h
  exact⟨[],rfl,λj k v z=>by simp at z,rfl,.nil⟩
 |d :: ds,qs,xs,e,h=>by
  unfold DsR at h
  obtain⟨x,r,rfl,h1,h2⟩:=h
  unfold U3 at e
  split at e
  ·rename_i heq;cases heq
  ·rename_i k v r' heq
   cases heq
   split at e
   ·rename_i hk
    obtain⟨qs',e1,e2⟩:=Wi.mp e
    subst e2
    obtain⟨ps,p1,p2,p3,p4⟩:=Bu e1 h2
    obtain⟨a,us,rfl,a1,a2⟩:=h1.of_tup
    unfold DsR at a2
    obtain⟨x1,r1,rfl,b1,b2⟩:=a2
    unfold DsR at b2
    obtain⟨x2,r2,rfl,b3,b4⟩:=b2
    unfold DsR at b4
    subst b4
    obtain⟨k',hk'⟩:=Vw.mp hk
    have ek:=BL hk' b1
    subst ek
    refine⟨(k',x2) :: ps,by simp [p1],λj k v z=>?_,by simp [p3,hk'],.cons b3 p4⟩
    cases j with
    |zero=>
     simp at z
     obtain⟨rfl,rfl⟩:=z
     exact⟨a,by simp,a1⟩
    |succ j=>exact p2 j k v (by simpa using z)
   ·cases e
  ·cases e
theorem N4 {K:Wd}{ρ:List Addr}{H:Hp}:∀{qs:List (D×D)} {ps:List (Key×V)} {kvs:List (D×D)} {ks:List Key} {xs:List V},qs.map (λp=>QE p.1)=ps.map (λp=>some p.1)->DsR K ρ H (qs.map (·.2)) (ps.map (·.2))->
  kvs.map (λp=>QE p.1)=ks.map some->ks.length=xs.length->DsR K ρ H (kvs.map (·.2)) xs->
  ∃(ks':List Key) (xs':List V),Qm (ks.zip xs) ps=ks'.zip xs'/\ks'.length=xs'.length/\(UW kvs qs).map (λp=>QE p.1)=ks'.map some/\DsR K ρ H ((UW kvs qs).map (·.2)) xs'
 |[],ps,kvs,ks,xs,h1,h2,h3,h4,h5=>by
  cases ps with
  |nil=>exact⟨ks,xs,rfl,h4,h3,h5⟩
  |cons _ _=>cases h1
 |q :: qs,ps,kvs,ks,xs,h1,h2,h3,h4,h5=>by
  cases ps with
  |nil=>cases h1
  |cons p ps=>
   simp only [W1,VO] at h1
   obtain⟨g1,g2⟩:=h1
   simp only [W1] at h2
   unfold DsR at h2
   obtain⟨x,r,ex,g3,g4⟩:=h2
   cases ex
   obtain⟨ks',xs',z1,z2,z3,z4⟩:=Nq QE g1 (Z0P g1) g3 h3 h4 h5
   obtain⟨ks2,xs2,w1,w2,w3,w4⟩:=N4 (kvs:=G1 kvs q.1 q.2) (ks:=ks') (xs:=xs') g2 g4 z3 z2 z4
   refine⟨ks2,xs2,?_,w2,w3,w4⟩
   rw [←w1,←z1]
   rfl
theorem FQ {p:Pos}{m:M D}(hcalm:X.calm=true)(h:SE X e m)(hg:Gl X "dict")(hm:X.mg "dict" = none)(hv:WH "dict" = some (.type "dict"))
  (he:Wy [e] X.env=(false,eval e X.env) :: Wy [] X.env:=by rfl):SE X (.Call (.Name "dict" p) [e] [] pos) (BB m):=by
 refine ZF (Jg (TR hcalm) hg hm hv (ZE h Ym he) (by decide) (by decide) he (by rfl)) ?_
 rintro σ H Q ⟨ρ,en,S,v,S',E,R,e,k⟩
 unfold BB at e
 obtain⟨q,e1,e⟩:=W5.mp e
 refine⟨ρ,en,S,q.1,q.2,E,R,e1,λx ρ1 H1 X1 R1 d1=>?_⟩
 obtain⟨d,S1⟩:=q
 dsimp only at e d1 R1 k
 cases d with
 |tup ds=>
  dsimp only at e
  split at e
  ·rename_i hz
   obtain⟨qs,e2,e3⟩:=Wi.mp e
   cases e3
   obtain⟨a,xs,rfl,a1,a2⟩:=d1.of_tup
   obtain⟨ps,p1,p2,p3,p4⟩:=Bu e2 a2
   refine⟨a,xs,ps,rfl,a1,p1,by rw [←p1,←a2.length];exact hz,p2,λl hl=>?_⟩
   obtain⟨ks,vs,z1,z2,z3,z4⟩:=N4 (kvs:=[]) (ks:=[]) (xs:=[]) p3 p4 rfl rfl .nil
   have z1':Qm [] ps=ks.zip vs:=z1
   refine k _ (ρ1++[l]) _ (X1.trans (Ext.newRef hl)) (R1.push hl (.inl ⟨ks,vs,by rw [Za,z1'],z2,z3,z4.up (Ext.newRef hl)⟩)) (.ref ?_)
   rw [←R1.len];simp
  ·cases e
 |_=>cases e
end
end DL
namespace DL
open PySem L2 PySem.Spec PyProof.Rows
section
variable {X:Cx} {e a d:Expr} {pos:Pos}
end
end DL
namespace DL
open PySem L2 PySem.Spec PyProof.Rows
mutual
def IsD (h:Heap):D->Value->Prop
 | .int i,v=>∃t,v = .int i t
 | .str x,v=>∃t,v = .str x t
 | .tup ds,v=>∃a its,v = .ref a/\h.IsTuple a its/\IsDs h ds its.toList
 | .non,_=>False
 | .bl _,_=>False
 | .ref _,_=>False
 | .scr _,_=>False
def IsDs (h:Heap):List D->List Value->Prop
 |[],vs=>vs=[]
 |d :: ds,vs=>∃v r,vs=v :: r/\IsD h d v/\IsDs h ds r
end
def pk:Nat->D->Bool
 |_,.int _=>true
 |_,.str _=>true
 |n+1,.tup ds=>ds.all (pk n)
 |_,_=>false
theorem IsDs.length {h:Heap}:∀{ds:List D} {vs:List Value},IsDs h ds vs->ds.length=vs.length
 |[],vs,q=>by rw [IsDs] at q;rw [q];rfl
 |d :: ds,vs,q=>by
  rw [IsDs] at q
  obtain⟨v,r,rfl,_,q2⟩:=q
  rw [WX,WX,q2.length]
theorem IsDs.get {h:Heap}:∀{ds:List D} {vs:List Value},IsDs h ds vs->∀{i:Nat} {d:D},ds[i]? = some d->∃v,vs[i]? = some v/\IsD h d v
 |[],vs,q,i,d,e=>by cases e
 |d :: ds,vs,q,i,d',e=>by
  rw [IsDs] at q
  obtain⟨v,r,rfl,q1,q2⟩:=q
  cases i with
  |zero=>cases e;exact⟨v,rfl,q1⟩
  |succ i=>exact q2.get e
theorem FB {h h':Heap}(k:Fu h h'){a:Addr}{its:Array Value}(t:h.IsTuple a its):h'.IsTuple a its:=by
 obtain⟨o,ho,r⟩:=t
 exact⟨o,k _ _ ho,r⟩
mutual
theorem IsD.up {h h':Heap}(k:Fu h h'):∀(d:D) {v:Value},IsD h d v->IsD h' d v
 | .int _,_,q=>by rw [IsD] at q ⊢;exact q
 | .str _,_,q=>by rw [IsD] at q ⊢;exact q
 | .tup ds,_,q=>by
  rw [IsD] at q ⊢
  obtain⟨a,its,e,t,r⟩:=q
  exact⟨a,its,e,FB k t,IsDs.up k ds r⟩
 | .non,_,q=>by rw [IsD] at q;exact q.elim
 | .bl _,_,q=>by rw [IsD] at q;exact q.elim
 | .ref _,_,q=>by rw [IsD] at q;exact q.elim
 | .scr _,_,q=>by rw [IsD] at q;exact q.elim
theorem IsDs.up {h h':Heap}(k:Fu h h'):∀(ds:List D) {vs:List Value},IsDs h ds vs->IsDs h' ds vs
 |[],_,q=>by rw [IsDs] at q ⊢;exact q
 |d :: ds,_,q=>by
  rw [IsDs] at q ⊢
  obtain⟨v,r,e,q1,q2⟩:=q
  exact⟨v,r,e,IsD.up k d q1,IsDs.up k ds q2⟩
end
theorem Ru {h:Heap}{a:Addr}{x y:Array Value}(p:h.IsTuple a x)(q:h.IsTuple a y):x=y:=by
 obtain⟨o,ho,_,n,hd⟩:=p
 obtain⟨o',ho',_,n',hd'⟩:=q
 rw [ho] at ho'
 cases ho'
 rw [hd] at hd'
 injection hd'
mutual
theorem IsD.inj {h:Heap}:∀(d:D) {d':D} {v:Value},IsD h d v->IsD h d' v->d=d'
 | .int i,d',v,p,q=>by
  rw [IsD] at p
  obtain⟨t,rfl⟩:=p
  cases d'<;>rw [IsD] at q
  ·exact q.elim
  ·exact q.elim
  ·obtain⟨t',e⟩:=q;cases e;rfl
  ·obtain⟨t',e⟩:=q;cases e
  ·obtain⟨a,its,e,_⟩:=q;cases e
  ·exact q.elim
  ·exact q.elim
 | .str i,d',v,p,q=>by
  rw [IsD] at p
  obtain⟨t,rfl⟩:=p
  cases d'<;>rw [IsD] at q
  ·exact q.elim
  ·exact q.elim
  ·obtain⟨t',e⟩:=q;cases e
  ·obtain⟨t',e⟩:=q;cases e;rfl
  ·obtain⟨a,its,e,_⟩:=q;cases e
  ·exact q.elim
  ·exact q.elim
 | .tup ds,d',v,p,q=>by
  rw [IsD] at p
  obtain⟨a,its,rfl,t,r⟩:=p
  cases d'<;>rw [IsD] at q
  ·exact q.elim
  ·exact q.elim
  ·obtain⟨t',e⟩:=q;cases e
  ·obtain⟨t',e⟩:=q;cases e
  ·obtain⟨a',its',e,t',r'⟩:=q
   cases e
   have:=Ru t t'
   subst this
   rw [IsDs.inj ds r r']
  ·exact q.elim
  ·exact q.elim
 | .non,_,_,p,_=>by rw [IsD] at p;exact p.elim
 | .bl _,_,_,p,_=>by rw [IsD] at p;exact p.elim
 | .ref _,_,_,p,_=>by rw [IsD] at p;exact p.elim
 | .scr _,_,_,p,_=>by rw [IsD] at p;exact p.elim
theorem IsDs.inj {h:Heap}:∀(ds:List D) {ds':List D} {vs:List Value},IsDs h ds vs->IsDs h ds' vs->ds=ds'
 |[],ds',vs,p,q=>by
  rw [IsDs] at p
  subst p
  cases ds' with
  |nil=>rfl
  |cons d ds=>rw [IsDs] at q;obtain⟨v,r,e,_⟩:=q;cases e
 |d :: ds,ds',vs,p,q=>by
  rw [IsDs] at p
  obtain⟨v,r,rfl,p1,p2⟩:=p
  cases ds' with
  |nil=>rw [IsDs] at q;cases q
  |cons d' ds'=>
   rw [IsDs] at q
   obtain⟨v',r',e,q1,q2⟩:=q
   cases e
   rw [IsD.inj d p1 q1,IsDs.inj ds p2 q2]
end
theorem Eh:∀(n:Nat) (d:D),pk n d=true->pln n d=true
 |0,.int _,_=>rfl
 |0,.str _,_=>rfl
 |n+1,.int _,_=>rfl
 |n+1,.str _,_=>rfl
 |n+1,.tup ds,h=>by
  unfold pk at h
  unfold pln
  rw [Wq] at h ⊢
  exact λd hd=>Eh n d (h d hd)
 |0,.tup _,h=>by cases h
 |0,.non,h=>by cases h
 |0,.bl _,h=>by cases h
 |0,.ref _,h=>by cases h
 |0,.scr _,h=>by cases h
 |n+1,.non,h=>by cases h
 |n+1,.bl _,h=>by cases h
 |n+1,.ref _,h=>by cases h
 |n+1,.scr _,h=>by cases h
theorem Z01:∀(n:Nat) {A:Around} {s:Shared} {d1 d2:D} {u v:Value},A.units+n<cLine->pk n d1=true->pk n d2=true->IsD s.heap d1 u->IsD s.heap d2 v->V5 A s u v (eqD d1 d2):=by
 intro n
 induction n with
 |zero=>
  intro A s d1 d2 u v hu p1 p2 h1 h2
  cases d1 with
  |int a=>
   rw [IsD] at h1
   obtain⟨t,rfl⟩:=h1
   cases d2 with
   |int c=>rw [IsD] at h2;obtain⟨t',rfl⟩:=h2;exact W2l a t c t'
   |str c=>rw [IsD] at h2;obtain⟨t',rfl⟩:=h2;exact W1o a t c t'
   |_=>cases p2
  |str a=>
   rw [IsD] at h1
   obtain⟨t,rfl⟩:=h1
   cases d2 with
   |int c=>rw [IsD] at h2;obtain⟨t',rfl⟩:=h2;exact W1p a t c t'
   |str c=>rw [IsD] at h2;obtain⟨t',rfl⟩:=h2;exact W2m a t c t'
   |_=>cases p2
  |_=>cases p1
 |succ n ih=>
  intro A s d1 d2 u v hu p1 p2 h1 h2
  cases d1 with
  |int a=>
   rw [IsD] at h1
   obtain⟨t,rfl⟩:=h1
   cases d2 with
   |int c=>rw [IsD] at h2;obtain⟨t',rfl⟩:=h2;exact W2l a t c t'
   |str c=>rw [IsD] at h2;obtain⟨t',rfl⟩:=h2;exact W1o a t c t'
   |tup bs=>rw [IsD] at h2;obtain⟨b,its,rfl,pl,_⟩:=h2;exact V5.int_tuple a t pl (by omega)
   |_=>cases p2
  |str a=>
   rw [IsD] at h1
   obtain⟨t,rfl⟩:=h1
   cases d2 with
   |int c=>rw [IsD] at h2;obtain⟨t',rfl⟩:=h2;exact W1p a t c t'
   |str c=>rw [IsD] at h2;obtain⟨t',rfl⟩:=h2;exact W2m a t c t'
   |tup bs=>rw [IsD] at h2;obtain⟨b,its,rfl,pl,_⟩:=h2;exact V5.str_tuple a t pl (by omega)
   |_=>cases p2
  |tup as=>
   have h1':=h1
   rw [IsD] at h1
   obtain⟨a,its,rfl,pl1,a2⟩:=h1
   cases d2 with
   |int c=>rw [IsD] at h2;obtain⟨t',rfl⟩:=h2;exact V5.tuple_int c t' pl1 (by omega)
   |str c=>rw [IsD] at h2;obtain⟨t',rfl⟩:=h2;exact V5.tuple_str c t' pl1 (by omega)
   |tup bs=>
    have h2':=h2
    rw [IsD] at h2
    obtain⟨b,its2,rfl,pl2,b2⟩:=h2
    unfold pk at p1 p2
    have he:eqD (.tup as) (.tup bs)=((W7 (min its.size its2.size)).all (λj=>eqD (as.getD j .non) (bs.getD j .non))&&its.size == its2.size):=by
     rw [Jo,QH,a2.length,b2.length,WE,WE]
    by_cases hab:a=b
    ·subst hab
     have:=IsD.inj _ h1' h2'
     rw [this,YW (n+1) (.tup bs) (Eh (n+1) (.tup bs) (by unfold pk;exact p2))]
     exact V5.same _
    ·rw [he]
     refine V5.of_refs hab (W2z pl1 pl2 (by omega) λj j1 j2=>?_)
     have l1:j<as.length:=by rw [a2.length,WE];exact j1
     have l2:j<bs.length:=by rw [b2.length,WE];exact j2
     have g1:as[j]? = some (as.getD j .non):=by simp [W0h,Wm l1]
     have g2:bs[j]? = some (bs.getD j .non):=by simp [W0h,Wm l2]
     obtain⟨u,u1,u2⟩:=a2.get g1
     obtain⟨v,v1,v2⟩:=b2.get g2
     have e1:its[j]=u:=by rw [Vb,WA j1] at u1;exact WT u1
     have e2:its2[j]=v:=by rw [Vb,WA j2] at v1;exact WT v1
     rw [e1,e2]
     exact ih (by rw [in1_units];omega) (Wq.mp p1 _ (V4 g1)) (Wq.mp p2 _ (V4 g2)) u2 v2
   |_=>cases p2
  |_=>cases p1
end DL
namespace DL
open PySem L2 PySem.Spec PyProof.Rows
mutual
def hK (w:World):D->Int
 | .int i=>hashInt i
 | .str x=>hashStr w x
 | .tup ds=>reduceHash (W1d (hKs w ds))
 | .non=>0
 | .bl _=>0
 | .ref _=>0
 | .scr _=>0
def hKs (w:World):List D->List Int
 |[]=>[]
 |d :: ds=>hK w d :: hKs w ds
end
theorem LE (w:World)(d:D):∀ds:List D,hKs w (ds++[d])=hKs w ds++[hK w d]
 |[]=>by rw [List.nil_append,hKs,hKs,hKs];rfl
 |e :: ds=>by rw [List.cons_append,hKs,hKs,LE w d ds];rfl
section
variable {prog:Program} {w:World}
theorem XD:∀(n:Nat) {A:Around} {E:Value->Shared->Prop} {s:Shared} {d:D} {v:Value} {Q:Int->Shared->Prop},A.units+n<cLine->pk n d=true->IsD s.heap d v->(∀tk,Q (hK w d) { s with toks:=tk })->wpAny (model prog w) A (pyHash v) Q E s:=by
 have base:∀{A:Around} {E:Value->Shared->Prop} {s:Shared} {d:D} {v:Value} {Q:Int->Shared->Prop},(∃i,d = .int i)\/(∃x,d = .str x)->IsD s.heap d v->(∀tk,Q (hK w d) { s with toks:=tk })->wpAny (model prog w) A (pyHash v) Q E s:=by
  intro A E s d v Q hd h q
  rcases hd with ⟨i,rfl⟩|⟨x,rfl⟩
  ·rw [IsD] at h
   obtain⟨t,rfl⟩:=h
   rw [hK] at q
   exact wpAny_pyHash_int (q _)
  ·rw [IsD] at h
   obtain⟨t,rfl⟩:=h
   rw [hK] at q
   exact wpAny_pyHash_str (q _)
 intro n
 induction n with
 |zero=>
  intro A E s d v Q hu p h q
  cases d with
  |int i=>exact base (.inl ⟨i,rfl⟩) h q
  |str x=>exact base (.inr ⟨x,rfl⟩) h q
  |_=>cases p
 |succ n ih=>
  intro A E s d v Q hu p h q
  cases d with
  |int i=>exact base (.inl ⟨i,rfl⟩) h q
  |str x=>exact base (.inr ⟨x,rfl⟩) h q
  |tup ds=>
   rw [IsD] at h
   obtain⟨a,its,rfl,pl,hi⟩:=h
   unfold pk at p
   rw [hK] at q
   obtain⟨o,ho,hc,m,hd⟩:=id pl
   have hT:s.TypeIs (.ref a) "tuple":=⟨o,ho,hc⟩
   unfold pyHash
   first|unfold pyHashByItsType|skip
   first|refine W0 (wpAny_cRoomFor_or (.inr (by omega)) ?_)|skip
   refine W0 (W0v hT W10.lookup ?_)
   show wpAny _ _ (if (some (Value.builtin "tuple.__hash__") == some Value.none)=true then _ else _) _ _ s
   rw [if_neg (by rw [beq_builtin_none];exact Wu)]
   refine W0 (W0v hT W10.lookup ?_)
   refine W0 (m:=callSpecialIfBoundUnlessNone? (.ref a) "__hash__" _) (wpAny_callSpecialIfBoundUnlessNone?_slot hT W10 (Vj W10 hT F.entry_tuple_hash ?_ (F.args_tuple_hash_1 _)))
   refine W0 (m:=W11 (.ref a)) (wpAny_tupleItemsOf ho hd (W0 ?_))
   rw [←W1B]
   refine W0P _ (λQN (b:Array Int) s'=>∃done left,ds=done++left/\IsDs s.heap left QN/\b.toList=hKs w done/\∃tk,s'={ s with toks:=tk }) _ ?_ ?_ _ _ ⟨[],ds,rfl,hi,by rw [hKs],s.toks,rfl⟩
   ·rintro x QN b s' ⟨done,left,e0,hl,hb,tk,rfl⟩
    cases left with
    |nil=>rw [IsDs] at hl;cases hl
    |cons d' left=>
     rw [IsDs] at hl
     obtain⟨v,r,e1,h1,h2⟩:=hl
     cases e1
     refine W0 (ih (by rw [in1_units];omega) (Wq.mp p d' (by rw [e0];simp)) h1 λtk'=>?_)
     have fin:∃done' left',ds=done'++left'/\IsDs s.heap left' QN/\(b.push (hK w d')).toList=hKs w done'/\∃tk,({ s with toks:=tk' }:Shared)={ s with toks:=tk }:=⟨done++[d'],left,by rw [e0,WS];rfl,h2,by rw [Array.toList_push,hb,LE],tk',rfl⟩
     first
      |exact W6 fin
      |exact W0 (W6 (W6 fin))
   ·rintro b s' ⟨done,left,e0,hl,hb,tk,rfl⟩
    cases left with
    |cons d' left=>rw [IsDs] at hl;obtain⟨v,r,e1,_⟩:=hl;cases e1
    |nil=>
     rw [W02] at e0
     subst e0
     rw [←hb] at q
     show wpAny _ _ (retInt (W1d b.toList)) _ _ _
     refine wpAny_ret_mkInt ?_
     generalize W1d b.toList=z at *
     show wpAny _ _ (if (decide (-(2:Int) ^ 63≤z)&&decide (z<2 ^ 63))=true then _ else _) Q E _
     unfold reduceHash at q
     by_cases hr:(decide (-(2:Int) ^ 63≤z)&&decide (z<2 ^ 63))=true
     ·rw [if_pos hr] at q ⊢
      exact W6 (q _)
     ·rw [if_neg hr] at q ⊢
      exact W0 (W1m (W6 (q _)))
  |_=>cases p
theorem AQ {h:Heap}{d:D}{v:Value}(hd:(∃i,d = .int i)\/∃x,d = .str x)(q:IsD h d v):carriedByValue v=true:=by
 rcases hd with ⟨i,rfl⟩|⟨x,rfl⟩
 ·rw [IsD] at q;obtain⟨t,rfl⟩:=q;rfl
 ·rw [IsD] at q;obtain⟨t,rfl⟩:=q;rfl
theorem RV:∀(n m:Nat) {A:Around} {E:Value->Shared->Prop} {s:Shared} {d:D} {v:Value} {Q:Bool->Shared->Prop},n≤m->pk n d=true->IsD s.heap d v->Q true s->wpAny (model prog w) A (eqIsQuiet m v) Q E s:=by
 intro n
 induction n with
 |zero=>
  intro m A E s d v Q hm p h q
  have hv:carriedByValue v=true:=by
   cases d with
   |int i=>exact AQ (.inl ⟨i,rfl⟩) h
   |str x=>exact AQ (.inr ⟨x,rfl⟩) h
   |_=>cases p
  rw [W2A m hv]
  exact W6 q
 |succ n ih=>
  intro m A E s d v Q hm p h q
  cases d with
  |int i=>rw [W2A m (AQ (.inl ⟨i,rfl⟩) h)];exact W6 q
  |str x=>rw [W2A m (AQ (.inr ⟨x,rfl⟩) h)];exact W6 q
  |tup ds=>
   rw [IsD] at h
   obtain⟨a,its,rfl,pl,hi⟩:=h
   unfold pk at p
   obtain⟨o,ho,hc,k,hd⟩:=id pl
   have hT:s.TypeIs (.ref a) "tuple":=⟨o,ho,hc⟩
   cases m with
   |zero=>omega
   |succ m=>
    unfold eqIsQuiet
    refine W0 (W0v hT F.slot_tuple_eq.lookup ?_)
    refine W0 (m:=isInstance (.ref a) (.type "tuple")) (W1e hT isSubtype_tuple_tuple ?_)
    simp only [W07,WL,if_false]
    refine W0 (Vm ho hd (W0 ?_))
    show wpAny _ _ (forIn its _ _) _ _ s
    rw [←W1B]
    refine W0P _ (λQN r s'=>r.1=none/\s'=s/\∃left,IsDs s.heap left QN/\∀d∈left,pk n d=true) _ ?_ ?_ _ _ ⟨rfl,rfl,ds,hi,λd hd=>Wq.mp p d hd⟩
    ·rintro x QN r s' ⟨hr,rfl,left,hl,hall⟩
     cases left with
     |nil=>rw [IsDs] at hl;cases hl
     |cons d' left=>
      rw [IsDs] at hl
      obtain⟨v,r',e1,h1,h2⟩:=hl
      cases e1
      refine W0 (ih m (by omega) (hall d' Ws) h1 ?_)
      simp only [W07,WL,if_false]
      exact W6 ⟨rfl,rfl,left,h2,λd hd=>hall d (Wz _ hd)⟩
    ·rintro⟨r1,r2⟩ s' ⟨hr,rfl,_⟩
     simp only at hr
     subst hr
     exact W6 q
  |_=>cases p
end
end DL
namespace DL
open PySem L2 PySem.Spec PyProof.Rows
section
variable {prog:Program} {w:World}
theorem LU:∀(n m:Nat) {A:Around} {E:Value->Shared->Prop} {s:Shared} {d:D} {v:Value} {Q:Bool->Shared->Prop},n≤m->pk n d=true->IsD s.heap d v->Q false s->wpAny (model prog w) A (ofAClassStatement m v) Q E s:=by
 have base:∀(m:Nat) {A:Around} {E:Value->Shared->Prop} {s:Shared} {d:D} {v:Value} {Q:Bool->Shared->Prop},(∃i,d = .int i)\/(∃x,d = .str x)->IsD s.heap d v->Q false s->wpAny (model prog w) A (ofAClassStatement m v) Q E s:=by
  intro m A E s d v Q hd h q
  rcases hd with ⟨i,rfl⟩|⟨x,rfl⟩<;>rw [IsD] at h<;>obtain⟨t,rfl⟩:=h<;>unfold ofAClassStatement<;>exact W6 q
 intro n
 induction n with
 |zero=>
  intro m A E s d v Q hm p h q
  cases d with
  |int i=>exact base m (.inl ⟨i,rfl⟩) h q
  |str x=>exact base m (.inr ⟨x,rfl⟩) h q
  |_=>cases p
 |succ n ih=>
  intro m A E s d v Q hm p h q
  cases d with
  |int i=>exact base m (.inl ⟨i,rfl⟩) h q
  |str x=>exact base m (.inr ⟨x,rfl⟩) h q
  |tup ds=>
   rw [IsD] at h
   obtain⟨a,its,rfl,pl,hi⟩:=h
   unfold pk at p
   obtain⟨o,ho,hc,k,hd⟩:=id pl
   have hT:s.TypeIs (.ref a) "tuple":=⟨o,ho,hc⟩
   cases m with
   |zero=>omega
   |succ m=>
    unfold ofAClassStatement
    refine W0 (W0T hT ?_)
    dsimp only
    rw [if_pos (by decide)]
    refine W0 (W6 ?_)
    simp only [W07,WL,if_false]
    refine W0 (Vm ho hd ?_)
    dsimp only
    refine W0 ?_
    show wpAny _ _ (forIn its _ _) _ _ s
    rw [←W1B]
    refine W0P _ (λQN r s'=>r.1=none/\s'=s/\∃left,IsDs s.heap left QN/\∀d∈left,pk n d=true) _ ?_ ?_ _ _ ⟨rfl,rfl,ds,hi,λd hd=>Wq.mp p d hd⟩
    ·rintro x QN r s' ⟨hr,rfl,left,hl,hall⟩
     cases left with
     |nil=>rw [IsDs] at hl;cases hl
     |cons d' left=>
      rw [IsDs] at hl
      obtain⟨v,r',e1,h1,h2⟩:=hl
      cases e1
      refine W0 (ih m (by omega) (hall d' Ws) h1 ?_)
      simp only [WL,if_false]
      exact W6 ⟨rfl,rfl,left,h2,λd hd=>hall d (Wz _ hd)⟩
    ·rintro⟨r1,r2⟩ s' ⟨hr,rfl,_⟩
     simp only at hr
     subst hr
     exact W6 q
  |_=>cases p
theorem Z2f:∀(m:Nat) {A:Around} {E:Value->Shared->Prop} {s:Shared} {d:D} {v:Value} {Q:Bool->Shared->Prop},IsD s.heap d v->(∀b,Q b s)->wpAny (model prog w) A (hashByValue m v) Q E s:=by
 have base:∀(m:Nat) {A:Around} {E:Value->Shared->Prop} {s:Shared} {d:D} {v:Value} {Q:Bool->Shared->Prop},(∃i,d = .int i)\/(∃x,d = .str x)->IsD s.heap d v->(∀b,Q b s)->wpAny (model prog w) A (hashByValue m v) Q E s:=by
  intro m A E s d v Q hd h q
  rcases hd with ⟨i,rfl⟩|⟨x,rfl⟩<;>rw [IsD] at h<;>obtain⟨t,rfl⟩:=h<;>cases m<;>(unfold hashByValue;exact W6 (q _))
 intro m
 induction m with
 |zero=>
  intro A E s d v Q h q
  cases d with
  |int i=>exact base 0 (.inl ⟨i,rfl⟩) h q
  |str x=>exact base 0 (.inr ⟨x,rfl⟩) h q
  |tup ds=>
   rw [IsD] at h
   obtain⟨a,its,rfl,_⟩:=h
   unfold hashByValue
   exact W6 (q _)
  |_=>rw [IsD] at h;exact h.elim
 |succ m ih=>
  intro A E s d v Q h q
  cases d with
  |int i=>exact base _ (.inl ⟨i,rfl⟩) h q
  |str x=>exact base _ (.inr ⟨x,rfl⟩) h q
  |tup ds=>
   rw [IsD] at h
   obtain⟨a,its,rfl,pl,hi⟩:=h
   obtain⟨o,ho,hc,k,hd⟩:=id pl
   have hT:s.TypeIs (.ref a) "tuple":=⟨o,ho,hc⟩
   unfold hashByValue
   refine W0 (W0v hT W10.lookup ?_)
   refine W0 (m:=seqItems? (.ref a)) (Vm ho hd (W0 ?_))
   show wpAny _ _ (forIn its _ _) _ _ s
   rw [←W1B]
   refine W0P _ (λQN r s'=>r.1=none/\s'=s/\∃left,IsDs s.heap left QN) _ ?_ ?_ _ _ ⟨rfl,rfl,ds,hi⟩
   ·rintro x QN r s' ⟨hr,rfl,left,hl⟩
    cases left with
    |nil=>rw [IsDs] at hl;cases hl
    |cons d' left=>
     rw [IsDs] at hl
     obtain⟨v,r',e1,h1,h2⟩:=hl
     cases e1
     refine W0 (ih h1 λb=>?_)
     cases b with
     |true=>
      simp only [W07,WL,if_false]
      exact W6 ⟨rfl,rfl,left,h2⟩
     |false=>
      simp only [W1O,if_true]
      first
       |exact W0 (W6 (W6 (W6 (q _))))
       |exact W6 (W6 (q _))
       |exact W0 (W6 (W6 (q _)))
   ·rintro⟨r1,r2⟩ s' ⟨hr,rfl,_⟩
    simp only at hr
    subst hr
    exact W6 (q _)
  |_=>rw [IsD] at h;exact h.elim
theorem DE {n:Nat}(hn:n≤8){A:Around}{E:Value->Shared->Prop}{s:Shared}{d:D}{v:Value}{ys:List Value}{Q:Bool->Shared->Prop}(p:pk n d=true)(h:IsD s.heap d v)(hy:∀y∈ys,∃d',pk n d'=true/\IsD s.heap d' y)(q:Q false s):wpAny (model prog w) A (searchCouldBeSeen v ys) Q E s:=by
 unfold searchCouldBeSeen
 refine W0 ?_
 refine W0P _ (λQN r s'=>r.1=none/\s'=s/\∀y∈QN,∃d',pk n d'=true/\IsD s.heap d' y) _ ?_ ?_ _ _ ⟨rfl,rfl,hy⟩
 ·rintro y QN r s' ⟨hr,rfl,hall⟩
  obtain⟨d',p',h'⟩:=hall y Ws
  have go:(none:Option Bool)=none/\s'=s'/\∀y∈QN,∃d',pk n d'=true/\IsD s'.heap d' y:=⟨rfl,rfl,λy hy=>hall y (Wz _ hy)⟩
  dsimp only
  split<;>split<;>first
   |exact W6 go
   | (refine W0 (RV n 8 hn p h ?_)
      simp only [W07,WL,if_false]
      refine W0 (RV n 8 hn p' h' ?_)
      simp only [W07,WL,if_false]
      refine W0 (LU n 8 hn p h ?_)
      simp only [WL,if_false]
      refine W0 (LU n 8 hn p' h' ?_)
      simp only [WL,if_false]
      exact W6 go)
 ·rintro⟨r1,r2⟩ s' ⟨hr,rfl,_⟩
  simp only at hr
  subst hr
  exact W6 q
theorem Z00:∀(n:Nat) (a b:D),pk n a=true->pk n b=true->(eqD a b=true↔a=b):=by
 have flat:∀a b:D,((∃i,a = .int i)\/∃x,a = .str x)->(∀n,∃m,m≥n/\pk m b=true)\/True->(eqD a b=true↔a=b)\/¬(∃n,pk n b=true):=by
  intro a b ha _
  by_cases hb:∃n,pk n b=true
  ·refine .inl ?_
   rcases ha with ⟨i,rfl⟩|⟨x,rfl⟩
   ·cases b with
    |int j=>unfold eqD;simp
    |str y=>unfold eqD;simp
    |tup bs=>unfold eqD;simp
    |_=>obtain⟨n,h⟩:=hb;cases n<;>cases h
   ·cases b with
    |int j=>unfold eqD;simp
    |str y=>unfold eqD;simp
    |tup bs=>unfold eqD;simp
    |_=>obtain⟨n,h⟩:=hb;cases n<;>cases h
  ·exact .inr hb
 have flat2:∀(n:Nat) (a b:D),((∃i,a = .int i)\/∃x,a = .str x)->pk n b=true->(eqD a b=true↔a=b):=λn a b ha hb=>(flat a b ha (.inr trivial)).elim id λz=>absurd ⟨n,hb⟩ z
 intro n
 induction n with
 |zero=>
  intro a b ha hb
  cases a with
  |int i=>exact flat2 0 _ _ (.inl ⟨i,rfl⟩) hb
  |str x=>exact flat2 0 _ _ (.inr ⟨x,rfl⟩) hb
  |_=>cases ha
 |succ n ih=>
  intro a b ha hb
  cases a with
  |int i=>exact flat2 _ _ _ (.inl ⟨i,rfl⟩) hb
  |str x=>exact flat2 _ _ _ (.inr ⟨x,rfl⟩) hb
  |tup as=>
   cases b with
   |int j=>unfold eqD;simp
   |str y=>unfold eqD;simp
   |tup bs=>
    unfold pk at ha hb
    rw [Jo]
    have key:∀(as bs:List D),as.all (pk n)=true->bs.all (pk n)=true->(eqDs as bs=true↔as=bs):=by
     intro as
     induction as with
     |nil=>
      intro bs _ _
      cases bs with
      |nil=>unfold eqDs;simp
      |cons _ _=>unfold eqDs;simp
     |cons a as ih2=>
      intro bs h1 h2
      cases bs with
      |nil=>unfold eqDs;simp
      |cons b bs=>
       rw [Vf,Wl] at h1 h2
       rw [N2,Wl,ih a b h1.1 h2.1,ih2 bs h1.2 h2.2,VO]
    rw [key as bs ha hb,D.tup.injEq]
   |_=>cases hb
  |_=>cases ha
def IM:DecidableEq D:=λa b=>Classical.propDecidable (a=b)
def Z2o (prog:Program)(w:World)(h0:Heap)(U n:Nat)(hU:U+n<cLine)(hn:n≤8) : @HK prog w h0 U D IM:=
 @HK.mk prog w h0 U D IM (λd v=>pk n d=true/\(∃ds,d = .tup ds)/\IsD h0 d v) (hK w)
  (λ{d v} h=>by
   obtain⟨_,⟨ds,rfl⟩,h⟩:=h
   rw [IsD] at h
   obtain⟨a,its,e,_⟩:=h
   exact⟨a,e⟩)
  (λ{d d' v} h h'=>IsD.inj d h.2.2 h'.2.2)
  (λhu ext h q=>XD n (by omega) h.1 (IsD.up ext _ h.2.2) q)
  (λ{A E s k k' v v' Q} hu ext h h' q=>by
   refine Z01 n (by omega) h.1 h'.1 (IsD.up ext _ h.2.2) (IsD.up ext _ h'.2.2) prog w E Q ?_
   have e:eqD k k' = @decide (k=k') (IM k k'):=by
    have:=Z00 n k k' h.1 h'.1
    by_cases z:k=k'
    ·rw [this.mpr z,@decide_eq_true _ (IM k k') z]
    ·rw [@decide_eq_false _ (IM k k') z]
     cases y:eqD k k' with
     |false=>rfl
     |true=>exact absurd (this.mp y) z
   rw [e]
   exact q)
  (λext h hy q=>DE hn h.1 (IsD.up ext _ h.2.2) (λy hy'=>by
   obtain⟨d',h'⟩:=hy y hy'
   exact⟨d',h'.1,IsD.up ext _ h'.2.2⟩) q)
  (λext h q=>Z2f 8 (IsD.up ext _ h.2.2) q)
end
end DL
namespace DL
open PySem L2 PySem.Spec PyProof.Rows
theorem Bt {α β:Type}(f:α->β):∀{l1 l2:List β},l1.Perm l2->∀l:List α,l.map f=l2->∃l':List α,l'.Perm l/\l'.map f=l1:=by
 intro l1 l2 h
 induction h with
 |nil=>
  intro l e
  cases l with
  |nil=>exact⟨[],.nil,rfl⟩
  |cons _ _=>cases e
 |cons x p ih=>
  intro l e
  cases l with
  |nil=>cases e
  |cons a l=>
   rw [W1,VO] at e
   obtain⟨l',q1,q2⟩:=ih l e.2
   exact⟨a :: l',.cons a q1,by rw [W1,q2,e.1]⟩
 |swap x y r=>
  intro l e
  match l,e with
  |a :: b :: l,e=>
   rw [W1,W1,VO,VO] at e
   exact⟨b :: a :: l,.swap a b l,by rw [W1,W1,e.1,e.2.1,e.2.2]⟩
  |[_],e=>simp at e
  |[],e=>simp at e
 |trans p q ih1 ih2=>
  intro l e
  obtain⟨l2,a1,a2⟩:=ih2 l e
  obtain⟨l1,b1,b2⟩:=ih1 l2 a2
  exact⟨l1,b1.trans a1,b2⟩
theorem Tj {n:Nat}{ds:List D}(hc:Q6 n ds):∀{l1 l2:List D},l1.Perm l2->l1.Pairwise leD->l2.Pairwise leD->(∀a∈l1,a∈ds)->l1=l2
 |[],l2,p,_,_,_=>(List.Perm.nil_eq p)
 |a :: l1,[],p,_,_,_=>absurd p.length_eq (by simp)
 |a :: l1,b :: l2,p,h1,h2,hm=>by
  rw [VS] at h1 h2
  have hb:b∈a :: l1:=p.mem_iff.mpr Ws
  have ha:a∈b :: l2:=p.mem_iff.mp Ws
  have e:a=b:=by
   rcases Ww.mp hb with z|z
   ·exact z.symm
   ·rcases Ww.mp ha with y|y
    ·exact y
    ·have l1':=h1.1 b z
     have l2':=h2.1 a y
     rcases TC n a b (hc.2 a (hm a Ws) b (hm b hb)) (hc.1 a (hm a Ws)) (hc.1 b (hm b hb)) with w|w|w
     ·exact w
     ·unfold leD at l2';rw [l2'] at w;cases w
     ·unfold leD at l1';rw [l1'] at w;cases w
  subst e
  rw [Tj hc (List.perm_cons a |>.mp p) h1.2 h2.2 λx hx=>hm x (Wz _ hx)]
theorem G8 {l1 l2:List D}(p:l1.Perm l2)(ok:Yg l2=true):Yg l1=true/\Y6 l1=Y6 l2:=by
 have ok1:Yg l1=true:=by
  unfold Yg at ok ⊢
  rw [p.length_eq]
  rw [Wl,Bool.or_eq_true] at ok ⊢
  refine⟨ok.1,?_⟩
  rcases ok.2 with z|z
  ·exact .inl z
  ·refine .inr ?_
   rw [Wl] at z ⊢
   refine⟨?_,?_⟩
   ·have z1:=z.1
    unfold FK at z1 ⊢
    rw [V1] at z1 ⊢
    obtain⟨c,c1,c2⟩:=z1
    refine⟨c,c1,?_⟩
    rw [Wq] at c2 ⊢
    exact λd hd=>c2 d (p.mem_iff.mp hd)
   ·have z2:=z.2
    unfold Ft at z2 ⊢
    rw [Wl,Wq,Wq] at z2 ⊢
    refine⟨λd hd=>z2.1 d (p.mem_iff.mp hd),λd hd=>?_⟩
    have:=z2.2 d (p.mem_iff.mp hd)
    rw [Wq] at this ⊢
    exact λe he=>this e (p.mem_iff.mp he)
 refine⟨ok1,?_⟩
 by_cases h2:l2.length<2
 ·have h1:l1=l2:=by
   match l2,h2,p with
   |[],_,p=>exact p.eq_nil
   |[a],_,p=>exact List.perm_singleton.mp p
   |_ :: _ :: _,h,_=>simp at h;omega
  rw [h1]
 ·have hc:Q6 30 l2:=by
   unfold Yg at ok
   rw [Wl,Bool.or_eq_true] at ok
   rcases ok.2 with z|z
   ·exact absurd (of_decide_eq_true z) h2
   ·rw [Wl] at z
    exact B3 z.2
  refine Tj hc ((Yf l1).trans (p.trans (Yf l2).symm)) (Yv hc λa ha=>p.mem_iff.mp ha) (Yv hc λa ha=>ha) λa ha=>p.mem_iff.mp ((Yf l1).mem_iff.mp ha)
def nwI (key:Nat->D):Nat->List Nat
 |0=>[]
 |i+1=>@ite _ (key i∈(W7 i).map key) (Classical.propDecidable _) (nwI key i) (nwI key i++[i])
theorem Pl (key:Nat->D):∀(n i:Nat),i∈nwI key n->i<n
 |0,i,h=>by cases h
 |n+1,i,h=>by
  unfold nwI at h
  split at h
  ·have:=Pl key n i h;omega
  ·rcases Va.mp h with z|z
   ·have:=Pl key n i z;omega
   ·rw [V3.mp z];omega
def ddD (ds:List D):List D:=(nwI (λi=>ds.getD i .non) ds.length).map λi=>ds.getD i .non
theorem GP (key:Nat->D)(val:Nat->Value):∀n,@nwV D IM key val n=(nwI key n).map val
 |0=>rfl
 |n+1=>by
  have ih:=GP key val n
  unfold nwV nwI
  by_cases h:key n∈(W7 n).map key
  ·rw [if_pos h,if_pos h,ih]
  ·rw [if_neg h,if_neg h,ih,WU]
   rfl
section
variable {X:Cx} {e:Expr} {pos:Pos}
theorem LB {pins:List (Addr×Obj)}{σ:L2.St}{H:Hp}{s:Shared}(I:Inv X pins σ H s)(d':Drawn):Inv X pins σ H { s with drawn:=d' }:=⟨I.ok,I.os,I.bare,I.base,I.loc,I.cell,I.free,I.freeC,I.pin,I.hok,I.len⟩
mutual
theorem XB {pins:List (Addr×Obj)}{σ:L2.St}{H:Hp}{s:Shared}{ρ:List Addr}(I:Inv X pins σ H s):∀(n:Nat) (d:D) {x:V} {v:Value},pk n d=true->DR X.K ρ H d x->ZL x v->IsD s.heap d v
 |n,.int i,x,v,_,h,r=>by
  rw [h.of_int] at r
  rw [IsD]
  exact r
 |n,.str i,x,v,_,h,r=>by
  rw [h.of_str] at r
  rw [IsD]
  exact r
 |0,.tup ds,_,_,p,_,_=>by cases p
 |n+1,.tup ds,x,v,p,h,r=>by
  obtain⟨a,xs,rfl,a1,a2⟩:=h.of_tup
  cases r
  obtain⟨its,rv,pl,_⟩:=I.tuple (.of a1)
  unfold pk at p
  rw [IsD]
  exact⟨a,its.toArray,rfl,pl,isDs_of I n ds p a2 rv⟩
 |0,.non,_,_,p,_,_=>by cases p
 |0,.bl _,_,_,p,_,_=>by cases p
 |0,.ref _,_,_,p,_,_=>by cases p
 |0,.scr _,_,_,p,_,_=>by cases p
 |n+1,.non,_,_,p,_,_=>by cases p
 |n+1,.bl _,_,_,p,_,_=>by cases p
 |n+1,.ref _,_,_,p,_,_=>by cases p
 |n+1,.scr _,_,_,p,_,_=>by cases p
theorem isDs_of {pins:List (Addr×Obj)}{σ:L2.St}{H:Hp}{s:Shared}{ρ:List Addr}(I:Inv X pins σ H s):∀(n:Nat) (ds:List D) {xs:List V} {vs:List Value},ds.all (pk n)=true->DsR X.K ρ H ds xs->Y1 xs vs->IsDs s.heap ds vs
 |n,[],xs,vs,_,h,r=>by
  unfold DsR at h
  subst h
  cases r
  rw [IsDs]
 |n,d :: ds,xs,vs,p,h,r=>by
  unfold DsR at h
  obtain⟨x,q,rfl,h1,h2⟩:=h
  cases r with
  |cons r1 r2=>
   rw [Vf,Wl] at p
   rw [IsDs]
   exact⟨_,_,rfl,XB I n d p.1 h1 r1,isDs_of I n ds p.2 h2 r2⟩
end
theorem Mx {K:Wd}{ρ:List Addr}{H:Hp}{ds:List D}{xs:List V}{vs:List Value}(h:DsR K ρ H ds xs)(r:Y1 xs vs):∀is:List Nat,(∀i∈is,i<ds.length)->∃ys,DsR K ρ H (is.map λi=>ds.getD i .non) ys/\Y1 ys (is.map λi=>vs.getD i .none)
 |[],_=>⟨[],.nil,.nil⟩
 |i :: is,hi=>by
  obtain⟨ys,y1,y2⟩:=Mx h r is λj hj=>hi j (Wz _ hj)
  have hl:=hi i Ws
  have g:ds[i]? = some (ds.getD i .non):=by simp [W0h,Wm hl]
  obtain⟨x,x1,x2⟩:=h.get g
  obtain⟨v,v1,v2⟩:=r.get x1
  have e:vs.getD i .none=v:=by simp [W0h,v1]
  refine⟨x :: ys,.cons x2 y1,?_⟩
  rw [W1,e]
  exact .cons v2 y2
def HM (te:TE)(K:Wd):TE:=λσ H Q=>te σ H λx H1=>∃(p:Addr) (xs:List V) (ρ:List Addr) (ds:List D),x = .ref p/\SqL K H1 p xs/\DsR K ρ H1 ds xs/\(ddD ds).length≤18/\(∀d∈ds,pk 4 d=true/\∃l,d = .tup l)/\Yg (ddD ds)=true/\∀a xs',H1 a=none->DsR K ρ H1 (Y6 (ddD ds)) xs'->Q (.ref a) (upd H1 a (.lst xs'))
theorem Pd {p p2 pos2:Pos}{te:TE}(hcalm:X.calm=true)(hu:X.A.units+70<cLine)(h:PE X e te)(hg:Gl X "sorted")(hm:X.mg "sorted" = none)(hv:WH "sorted" = some (.builtin "sorted"))(hg2:Gl X "set")(hm2:X.mg "set" = none)(hv2:WH "set" = some (.type "set"))
  (he:Wy [e] X.env=(false,eval e X.env) :: Wy [] X.env:=by rfl) (he2:Wy [.Call (.Name "set" p2) [e] [] pos2] X.env=(false,eval (.Call (.Name "set" p2) [e] [] pos2) X.env) :: Wy [] X.env:=by rfl) :
  PE X (.Call (.Name "sorted" p) [.Call (.Name "set" p2) [e] [] pos2] [] pos) (HM te X.K):=by
 intro pins s σ H Q I hq
 have hh:X.A.handled=none:=I.ok.hd hcalm
 refine W03 (U9 I hg hm hv ?_ (by decide) (by decide))
 refine W0K ?_ he2 rfl
 rw [he2]
 show wpAny _ _ (spliced ((false,eval (.Call (.Name "set" p2) [e] [] pos2) X.env) :: backTo pos (Wy [] X.env))) _ _ s
 refine W0Q ?_
 refine W03 (U9 I hg2 hm2 hv2 ?_ (by decide) (by decide))
 let Q1:List V->Hp->Prop:=λvs H1=>match vs with
  |[x]=>∃(p:Addr) (xs:List V) (ρ:List Addr) (ds:List D),x = .ref p/\SqL X.K H1 p xs/\DsR X.K ρ H1 ds xs/\(ddD ds).length≤18/\(∀d∈ds,pk 4 d=true/\∃l,d = .tup l)/\Yg (ddD ds)=true/\∀a xs',H1 a=none->DsR X.K ρ H1 (Y6 (ddD ds)) xs'->Q (.ref a) (upd H1 a (.lst xs'))
  |_=>False
 refine W0u (thn ((ZE h Ym he) pos2 pins s σ H Q1 I hq) λus s1 ⟨vs,H1,I1,r1,q1⟩=>?_) he rfl
 match vs,r1,q1 with
 |[x],r1,q1=>
  obtain⟨u,rfl,ru⟩:=JN r1
  obtain⟨l,xs,ρ,ds,rfl,hl,hds,hz,hpk,ok,k⟩:=q1
  cases ru
  obtain⟨its,rv,pl,_⟩:=I1.list hl
  have hn1:ds.length=its.length:=by rw [hds.length,rv.length]
  have hsz:its.toArray.size=ds.length:=by rw [Wn,hn1]
  let M:=Z2o X.prog X.w s1.heap (X.A.units+20) 4 (by omega) (by decide)
  have allk:ds.all (pk 4)=true:=Wq.mpr λd hd=>(hpk d hd).1
  have isds:=isDs_of I1 4 ds allk hds rv
  have hz':(nwI (λi=>ds.getD i .non) ds.length).length≤18:=by
   unfold ddD at hz
   rw [We] at hz
   exact hz
  refine @LX X.prog X.w (X.A.units+20) D IM X.A X.xe s1 l its.toArray _ M (λi=>ds.getD i .non) (λi=>its.getD i .none) hh (Wp _) pl.isList (λi v hv=>?_) (by rw [hsz,GP,We];exact hz') λh' tk hS keep=>?_
  ·have hv':its[i]? = some v:=by simpa using hv
   have hi:i<ds.length:=by rw [hn1];exact (Wo.mp hv').1
   have g:ds[i]? = some (ds.getD i .non):=by simp [W0h,Wm hi]
   obtain⟨v',w1,w2⟩:=isds.get g
   rw [hv'] at w1
   cases w1
   have hm:=V4 g
   refine⟨by simp [W0h,hv'],(hpk _ hm).1,(hpk _ hm).2,w2⟩
  ·refine W1I ?_
   rw [hsz] at hS
   obtain⟨o,es,ep,t,L,ho,hex,hd,T,hes,hel,h4,hp,hled⟩:=hS
   have hsz2:es.size=L.length:=by rw [←WE,hes,We]
   have hpl:t.place.size=es.size:=by
    have:=congrArg Ve T.pl
    rw [We,WE] at this
    rw [this,hsz2]
   have I2:=I1.kept (h':=h') (t':=tk) λb u e=>keep b u (Wt e) e
   refine W0d kind_sorted plain_sorted entry_sorted (args_sorted1 _) ?_
   unfold Builtin.«sorted»
   refine W0 (m:=checkCount "sorted" 1 1 _) (W6 ?_)
   have hes2:es.toList.map (·.2)=L.map (·.2.2):=by rw [hes,WJ];rfl
   have hLs:L.length≤Wk:=by
    have h1:=hp.length_eq
    rw [We] at h1
    rw [GP,We] at h1
    have h3:18≤Wk:=by decide
    omega
   refine W0 (M9 (A:=X.A.in1) (s:={ s1 with heap:=h',toks:=tk }) (by simpa using hh) ho hex hd (T.fits hsz2) T.rise hled hpl (by rw [hsz2];exact hLs) λacc h'' tk' d' pm keep2=>?_)
   rw [hes2] at pm
   have pm2:=pm.trans hp
   rw [GP] at pm2
   obtain⟨is,i1,i2⟩:=Bt _ pm2 _ rfl
   have hlt:∀i∈is,i<ds.length:=λi hi=>Pl _ _ _ (i1.mem_iff.mp hi)
   obtain⟨ys,y1,y2⟩:=Mx hds rv is hlt
   have pd:(is.map λi=>ds.getD i .non).Perm (ddD ds):=i1.map _
   obtain⟨ok2,se⟩:=G8 pd ok
   have I3:=LB (I2.kept (h':=h'') (t':=tk') keep2) d'
   have hil:is.length≤18:=by
    have h1:=i1.length_eq
    omega
   rw [←i2]
   exact Jc I3 hu y1 y2 (by rw [y2.length,We];exact WY hil (by decide)) ok2 (by rw [se];exact k)
 |[],_,q1=>exact q1.elim
 |_ :: _ :: _,_,q1=>exact q1.elim
def Xy:D->Bool
 | .tup _=>true
 |_=>false
def RI (ds:List D):Bool:=decide ((ddD ds).length≤18)&&(ds.all (λd=>pk 4 d&&Xy d)&&Yg (ddD ds))
def TB (ma:M D):M (List D):=λen S=>(ma en S).bind λp=>match p.1 with
 | .ref n=>match p.2[n]? with
  |some (.lst ds)=>if RI ds=true then some (Y6 (ddD ds),p.2) else none
  |_=>none
 |_=>none
theorem RG {p p2 pos2:Pos}{ma:M D}(hcalm:X.calm=true)(hu:X.A.units+70<cLine)(h:SE X e ma)(hg:Gl X "sorted")(hm:X.mg "sorted" = none)(hv:WH "sorted" = some (.builtin "sorted"))(hg2:Gl X "set")(hm2:X.mg "set" = none)(hv2:WH "set" = some (.type "set"))
  (he:Wy [e] X.env=(false,eval e X.env) :: Wy [] X.env:=by rfl) (he2:Wy [.Call (.Name "set" p2) [e] [] pos2] X.env=(false,eval (.Call (.Name "set" p2) [e] [] pos2) X.env) :: Wy [] X.env:=by rfl) :
  SL X (.Call (.Name "sorted" p) [.Call (.Name "set" p2) [e] [] pos2] [] pos) (TB ma):=by
 refine ZF (Pd hcalm hu h hg hm hv hg2 hm2 hv2 he he2) ?_
 rintro σ H Q ⟨ρ,en,S,ds,S',E,R,e,k⟩
 unfold TB at e
 obtain⟨⟨d1,S1⟩,e1,e⟩:=W5.mp e
 cases d1 with
 |ref n=>
  dsimp only at e
  split at e
  ·rename_i ds hn
   split at e
   ·rename_i ok
    cases e
    unfold RI at ok
    rw [Wl,Wl,decide_eq_true_eq,Wq] at ok
    refine⟨ρ,en,S,.ref n,_,E,R,e1,λx ρ1 H1 X1 R1 d1=>?_⟩
    obtain⟨a,a1,rfl⟩:=d1.of_ref
    obtain⟨ob,eo,ro⟩:=R1.obj a1
    rw [hn] at eo
    cases eo
    obtain⟨xs,x1,x2⟩:=ro
    refine⟨a,xs,ρ1,ds,rfl,.of x1,x2,ok.1,λd hd=>?_,ok.2.2,λl xs' hl d'=>k l xs' ρ1 H1 X1 R1 hl d'⟩
    have:=ok.2.1 d hd
    rw [Wl] at this
    refine⟨this.1,?_⟩
    cases d with
    |tup l=>exact⟨l,rfl⟩
    |_=>cases this.2
   ·cases e
  ·cases e
 |_=>cases e
end
end DL
namespace DL
open PySem L2 PySem.Spec PyProof.Rows
def Fo (H:Hp)(as:List Addr)(f:Nat->List V):Hp:=λb=>match as.findIdx? (λa=>a == b) with
 |some j=>some (.tup (f j))
 |none=>H b
theorem YU {H:Hp}{as:List Addr}{f:Nat->List V}{b:Addr}(h:b∉as):Fo H as f b=H b:=by
 unfold Fo
 have:as.findIdx? (λa=>a == b)=none:=List.findIdx?_eq_none_iff.mpr λa ha=>by
  simp only [beq_eq_false_iff_ne]
  exact λz=>h (z ▸ ha)
 rw [this]
theorem Pr {H:Hp}{as:List Addr}{f:Nat->List V}(hr:as.Pairwise (· < ·)){j:Nat}{a:Addr}(h:as[j]? = some a):Fo H as f a=some (.tup (f j)):=by
 unfold Fo
 have:as.findIdx? (λx=>x == a)=some j:=by
  obtain⟨hj,e⟩:=Wo.mp h
  rw [List.findIdx?_eq_some_iff_getElem]
  refine⟨hj,by simp [e],λi hi=>?_⟩
  have:=W1b.mp hr i j (by omega) hj hi
  rw [e] at this
  simp only [beq_iff_eq]
  exact WK this
 rw [this]
section
variable {X:Cx} {pins:List (Addr×Obj)} {σ:L2.St} {H:Hp} {s:Shared}
theorem Aw (I:Inv X pins σ H s){h':Heap}{t':Nat}{as:List Addr}{f:Nat->List V}(k:∀b o,s.heap.get? b=some o->h'.get? b=some o)(hr:as.Pairwise (· < ·))(ha:∀a∈as,s.heap.objs.size≤a)
  (hn:∀(j:Nat) a,as[j]? = some a->∃its:List Value,Y1 (f j) its/\(f j).length≤Wk/\AT h' a its.toArray):Inv X pins σ (Fo H as f) { s with heap:=h',toks:=t' }:=by
 have low:∀b o,s.heap.get? b=some o->b∉as:=λb o e z=>absurd (Wt e) (Nat.not_lt.mpr (ha b z))
 have lowH:∀b o,H b=some o->b∉as:=λb o e z=>by
  have:=I.hok.fresh (ha b z)
  rw [this] at e
  cases e
 refine I.un ⟨λb o e _ _ _=>k b o e,λb o e _ _ _=>⟨o.slots,k b o e⟩,λb o e n _=>by rw [YU (low b o e)];exact n,λb o e _=>⟨o,k b o e⟩,λb xs e=>by rw [YU (lowH b _ e)];exact e,λb o u e=>by rw [YU (lowH b _ e)];exact e,λb ps e=>⟨#[],by rw [YU (lowH b _ e),e];simp⟩⟩ λb u e=>?_
 by_cases hb:b∈as
 ·obtain⟨j,hj⟩:=VN.mp hb
  rw [Pr hr hj] at e
  cases e
  obtain⟨its,q1,q2,q3⟩:=hn j b hj
  exact⟨q2,its,q1,q3⟩
 ·rw [YU hb] at e
  exact (I.hok b u e).stay (λc v _ q=>k c v q) (λc q=>by rw [YU (lowH c _ q)];exact q) λc xs q=>by rw [YU (lowH c _ q)];exact q
theorem K4 (I:Inv X pins σ H s){ρ:List Addr}{as:List Addr}{f:Nat->List V}(ha:∀a∈as,s.heap.objs.size≤a):Ext ρ H ρ (Fo H as f):=by
 have lowH:∀b o,H b=some o->b∉as:=λb o e z=>by
  have:=I.hok.fresh (ha b z)
  rw [this] at e
  cases e
 exact⟨λ_ _ h=>h,λa xs h=>by rw [YU (lowH a _ h)];exact h,λa o u h=>by rw [YU (lowH a _ h)];exact h⟩
theorem FD (I:Inv X pins σ H s){ρ:List Addr}{S:Sto}(R:StR X.K ρ H S){as:List Addr}{f:Nat->List V}(ha:∀a∈as,s.heap.objs.size≤a):StR X.K ρ (Fo H as f) S:=by
 refine R.mono (K4 I ha).weak λn a h=>?_
 obtain⟨ob,_,ro⟩:=R.obj h
 obtain⟨o,e⟩:=ro.there
 refine YU λz=>?_
 have:=I.hok.fresh (ha a z)
 rw [this] at e
 cases e
end
theorem Z26 {kvs:List (Key×V)}{vs:List (Key×Value)}(h:KV kvs vs):∀{j:Nat} {p:Key×V},kvs[j]? = some p->∃q,vs[j]? = some q/\p.1=q.1/\ZL p.2 q.2:=by
 unfold KV at h
 induction h with
 |nil=>intro j p e;cases e
 |cons r t ih=>
  intro j p e
  cases j with
  |zero=>cases e;exact⟨_,rfl,r⟩
  |succ j=>exact ih e
theorem BT {P:Program}{w:World}{k:Key}{v:Value}(h:(ZX P w).is k v=true):ZL (kV k) v:=by
 rcases ZS (k:=k) (v:=v) h with ⟨i,t,rfl,rfl⟩|⟨x,t,rfl,rfl⟩
 ·exact⟨t,rfl⟩
 ·exact⟨t,rfl⟩
theorem Bo:∀as:List Addr,Y1 (as.map V.ref) (as.map Value.ref)
 |[]=>.nil
 |a :: as=>.cons rfl (Bo as)
theorem Hm {K:Wd}{ρ:List Addr}{H:Hp}:∀{ds:List D} {xs:List V},ds.length=xs.length->(∀(j:Nat) d,ds[j]? = some d->∃x,xs[j]? = some x/\DR K ρ H d x)->DsR K ρ H ds xs
 |[],[],_,_=>.nil
 |d :: ds,x :: xs,hl,h=>by
  obtain⟨y,y1,y2⟩:=h 0 d rfl
  cases y1
  exact .cons y2 (Hm (Nat.succ.inj hl) λj e he=>h (j+1) e he)
def Fk (dk dv:List D):List D:=(dk.zip dv).map λp=>.tup [p.1,p.2]
def Dx (to:TE)(K:Wd):TE:=λσ H Q=>to σ H λx H1=>∃(a:Addr) (kvs:List (Key×V)) (ρ:List Addr) (S:Sto) (dk dv:List D),x = .ref a/\H1 a=some (.dK kvs)/\dk.map QE=kvs.map (λp=>some p.1)/\DsR K ρ H1 dv (kvs.map (·.2))/\StR K ρ H1 S/\Yg (Fk dk dv)=true/\
 ∀H2 l xs',Ext ρ H1 ρ H2->StR K ρ H2 S->H2 l=none->DsR K ρ H2 (Y6 (Fk dk dv)) xs'->Q (.ref l) (upd H2 l (.lst xs'))
section
variable {X:Cx} {o:Expr} {pos:Pos}
theorem A1 {p ap cp:Pos}{to:TE}(hcalm:X.calm=true)(hu:X.A.units+70<cLine)(h:PE X o to)(hg:Gl X "sorted")(hm:X.mg "sorted" = none)(hv:WH "sorted" = some (.builtin "sorted"))
  (hbase:attributeBase o "items" X.env (eval o X.env)=eval o X.env:=by rfl) (hline:(ap.endLine == cp.line)=true:=by rfl)
  (he2:Wy [.Call (.Attribute o "items" ap) [] [] cp] X.env=(false,eval (.Call (.Attribute o "items" ap) [] [] cp) X.env) :: Wy [] X.env:=by rfl) :
  PE X (.Call (.Name "sorted" p) [.Call (.Attribute o "items" ap) [] [] cp] [] pos) (Dx to X.K):=by
 intro pins s σ H Q I hq
 have hh:X.A.handled=none:=I.ok.hd hcalm
 refine W03 (U9 I hg hm hv ?_ (by decide) (by decide))
 refine W0K ?_ he2 rfl
 rw [he2]
 show wpAny _ _ (spliced ((false,eval (.Call (.Attribute o "items" ap) [] [] cp) X.env) :: backTo pos (Wy [] X.env))) _ _ s
 refine W0Q ?_
 refine wpAny_Call_method0_late hbase hline (thn (h pins s σ H _ I hq) λv s1 ⟨x,H1,I1,r1,q1⟩=>?_)
 obtain⟨a,kvs,ρ,S,dk,dv,rfl,hH,hk,hdv,R,ok,k⟩:=q1
 cases r1
 obtain⟨hz,hsys,vs,hkv,hdo⟩:=(show ZI X.prog X.w H1 s1.heap a (.dK kvs) from I1.hok a _ hH)
 obtain⟨ep,hda⟩:=hdo.dictAt
 obtain⟨h1,h2⟩:=E5 I1 (show ZL (.ref a) (.ref a) from rfl) (T:="dict") (.inr (.inr (.inl ⟨rfl,.inl ⟨kvs,hH⟩⟩)))
 refine⟨"dict", "dict.items",PySem.F.plainAttrs_dict,PySem.F.slot_dict_items,PySem.F.type_dict_items,h1,h2,W1E rfl (PySem.evalArgs_none ?_)⟩
 refine call_meetsIn PySem.F.slot_dict_items h1 PySem.F.entry_dict_items (PySem.F.args_dict_items_1 _) (meets_dict_items (ZX X.prog X.w) a hsys) ⟨⟨vs,hdo⟩,?_⟩
 refine W1I ?_
 have I2:=I1.kept (h':=s1.heap.push { cls:=.type "dict_items",data:=.fields #[.ref a] }) (t':=s1.toks) λb u e=>Wj _ e
 refine W0d kind_sorted plain_sorted entry_sorted (args_sorted1 _) ?_
 unfold Builtin.«sorted»
 refine W0 (m:=checkCount "sorted" 1 1 _) (W6 ?_)
 have hlen:kvs.length=vs.length:=hkv.length
 have hda2:(s1.heap.push { cls:=.type "dict_items",data:=.fields #[.ref a] }).DictAt (ZX X.prog X.w) a vs ep:=hda.push _
 refine W0 (PySem.W.kdx_collect (A:=X.A.in1) (s:={ s1 with heap:=s1.heap.push { cls:=.type "dict_items",data:=.fields #[.ref a] } }) (r:=s1.heap.objs.size) (by simpa using hh) ⟨_,Wv _ rfl,rfl,rfl⟩ hda2 (by omega) λh' tk as keep hal hG=>?_)
 have hal':as.length=kvs.length:=by rw [hal,hlen]
 have above:∀b∈as,(s1.heap.push { cls:=.type "dict_items",data:=.fields #[.ref a] }).objs.size≤b:=λb hb=>W2i (hG.above b hb)
 let f:Nat->List V:=λj=>match kvs[j]? with
  |some p=>[kV p.1,p.2]
  |none=>[]
 have each:∀(j:Nat) b,as[j]? = some b->∃p:Key×V,kvs[j]? = some p/\f j=[kV p.1,p.2]/\∃its:List Value,Y1 (f j) its/\AT h' b its.toArray:=λj b hb=>by
  obtain⟨key,kk,x,e1,e2,e3⟩:=hG.pairs j b hb
  have hj:j<kvs.length:=by rw [←hal'];exact (Wo.mp hb).1
  obtain⟨p,hp⟩:∃p,kvs[j]? = some p:=⟨_,Wm hj⟩
  have hf:f j=[kV p.1,p.2]:=by show (match kvs[j]? with|some p=>[kV p.1,p.2]|none=>[])=_;rw [hp]
  obtain⟨q,g1,g2⟩:=Z26 hkv hp
  rw [e1] at g1
  cases g1
  refine⟨p,hp,hf,[key,x],?_,⟨⟨_,e3,rfl,_,rfl⟩,_,e3,rfl⟩⟩
  rw [hf]
  refine .cons ?_ (.cons g2.2 .nil)
  have g3:p.1=kk:=g2.1
  rw [g3]
  exact BT e2
 have I3:=Aw I2 (h':=h') (t':=tk) (as:=as) (f:=f) keep hG.rise above λj b hb=>by
  obtain⟨p,hp,hf,its,v1,v2⟩:=each j b hb
  exact⟨its,v1,by rw [hf];exact (show 2≤Wk by decide),v2⟩
 have E2:Ext ρ H1 ρ (Fo H1 as f):=K4 I2 above
 have R2:StR X.K ρ (Fo H1 as f) S:=FD I2 R above
 have hds:DsR X.K ρ (Fo H1 as f) (Fk dk dv) (as.map V.ref):=by
  have l1:dk.length=kvs.length:=by have:=congrArg Ve hk;simpa using this
  have l2:dv.length=kvs.length:=by have:=hdv.length;simpa using this
  refine Hm (by unfold Fk;rw [We,VA,We];omega) λj d hd=>?_
  unfold Fk at hd
  rw [WG] at hd
  obtain⟨q,q1,rfl⟩:=Wi.mp hd
  have hj:j<kvs.length:=by
   have:=(Wo.mp q1).1
   rw [VA] at this
   omega
  obtain⟨b,hb⟩:∃b,as[j]? = some b:=⟨_,Wm (by omega)⟩
  obtain⟨p,hp,hf,_⟩:=each j b hb
  refine⟨.ref b,by rw [WG,hb];rfl,?_⟩
  have q2:=W1c.mp q1
  have kd:QE q.1=some p.1:=by
   have:=congrArg (λl=>l[j]?) hk
   simp only [WG,q2.1,hp,W3] at this
   exact WT this
  obtain⟨y,y1,y2⟩:=hdv.get q2.2
  rw [WG,hp] at y1
  cases y1
  have at':=Pr (H:=H1) (f:=f) hG.rise hb
  rw [hf] at at'
  exact .tup at' (.cons (GW kd) (.cons (y2.up E2) .nil))
 refine Jc I3 hu hds (Bo as) (by rw [We,hal'];exact hz) ok λl xs' hl d'=>k _ l xs' E2 R2 hl d'
end
end DL
namespace DL
open PySem L2 PySem.Spec PyProof.Rows
section
variable {X:Cx} {e a d o:Expr} {pos:Pos}
def Xv (kvs:List (D×D)):Bool:=!kvs.isEmpty&&(kvs.all λq=>(QE q.1).isSome)&&Yg (Fk (kvs.map (·.1)) (kvs.map (·.2)))
def Bz (ma:M D):M (List D):=λen S=>(ma en S).bind λp=>match p.1 with
 | .ref n=>match p.2[n]? with
  |some (.dct kvs)=>if Xv kvs=true then some (Y6 (Fk (kvs.map (·.1)) (kvs.map (·.2))),p.2) else none
  |_=>none
 |_=>none
theorem Rm:∀{ks:List Key} {xs:List V},ks.length=xs.length->(ks.zip xs).map (λp=>some p.1)=ks.map some
 |[],[],_=>rfl
 |k :: ks,x :: xs,h=>by
  rw [WR,W1,W1,Rm (Nat.succ.inj h)]
theorem Rl:∀{ks:List Key} {xs:List V},ks.length=xs.length->(ks.zip xs).map (·.2)=xs
 |[],[],_=>rfl
 |k :: ks,x :: xs,h=>by
  rw [WR,W1,Rl (Nat.succ.inj h)]
theorem FJ {p ap cp:Pos}{ma:M D}(hcalm:X.calm=true)(hu:X.A.units+70<cLine)(h:SE X o ma)(hg:Gl X "sorted")(hm:X.mg "sorted" = none)(hv:WH "sorted" = some (.builtin "sorted"))
  (hbase:attributeBase o "items" X.env (eval o X.env)=eval o X.env:=by rfl) (hline:(ap.endLine == cp.line)=true:=by rfl)
  (he2:Wy [.Call (.Attribute o "items" ap) [] [] cp] X.env=(false,eval (.Call (.Attribute o "items" ap) [] [] cp) X.env) :: Wy [] X.env:=by rfl) :
  SL X (.Call (.Name "sorted" p) [.Call (.Attribute o "items" ap) [] [] cp] [] pos) (Bz ma):=by
 refine ZF (A1 hcalm hu h hg hm hv hbase hline he2) ?_
 rintro σ H Q ⟨ρ,en,S,ds,S',E,R,e,k⟩
 unfold Bz at e
 obtain⟨⟨d1,S1⟩,e1,e⟩:=W5.mp e
 cases d1 with
 |ref n=>
  dsimp only at e
  split at e
  ·rename_i kvs hn
   split at e
   ·rename_i ok
    cases e
    unfold Xv at ok
    rw [Wl,Wl] at ok
    refine⟨ρ,en,S,.ref n,_,E,R,e1,λx ρ1 H1 X1 R1 d1=>?_⟩
    obtain⟨a,a1,rfl⟩:=d1.of_ref
    obtain⟨ob,eo,ro⟩:=R1.obj a1
    rw [hn] at eo
    cases eo
    rcases ro with ⟨ks,xs,x1,x2,x3,x4⟩|⟨ks,xs,x1,x2,x3,x4⟩
    ·refine⟨a,ks.zip xs,ρ1,_,kvs.map (·.1),kvs.map (·.2),rfl,x1,?_,by rw [Rl x2];exact x4,R1,ok.2,λH2 l xs' X2 R2 hl d'=>k l xs' ρ1 H2 (X1.trans X2) R2 hl d'⟩
     rw [Rm x2,←x3,WJ]
     rfl
    ·exfalso
     cases kvs with
     |nil=>cases ok.1.1
     |cons q kvs=>
      have o2:=ok.1.2
      rw [Vf,Wl] at o2
      cases ks with
      |nil=>cases x3
      |cons k0 ks=>
       rw [W1,W1,VO] at x3
       obtain⟨q1,q2⟩:=q
       cases q1 with
       |tup l=>cases o2.1
       |_=>cases x3.1
   ·cases e
  ·cases e
 |_=>cases e
def M1:List D->Option (List Int)
 |[]=>some []
 | .int b :: r=>(M1 r).map λbs=>b :: bs
 |_=>none
theorem MX {K:Wd}{ρ:List Addr}{H:Hp}:∀{ds:List D} {xs:List V} {bs:List Int},DsR K ρ H ds xs->M1 ds=some bs->xs=bs.map V.int
 |[],xs,bs,h,e=>by
  cases e
  unfold DsR at h;rw [h];rfl
 |d :: ds,xs,bs,h,e=>by
  unfold DsR at h
  obtain⟨x,r,rfl,h1,h2⟩:=h
  cases d with
  |int b=>
   obtain⟨cs,e1,e2⟩:=Wi.mp e
   cases e2
   rw [W1,h1.of_int,MX h2 e1]
  |_=>cases e
def KP (ss:List Int)(i j:Nat):Bool:=decide (ss.getD i default>ss.getD j default)
def Kw (ss:List Int):Int:=ss.getD (argBest (KP ss) (ss.length-1)) default
theorem B0:∀{ss:List Int} {vs:List Value},Y1 (ss.map V.int) vs->∀(i:Nat) v,vs[i]? = some v->∃t,v = .int (ss.getD i default) t
 |[],_,r,i,v,h=>by cases r;cases h
 |s :: ss,_,r,i,v,h=>by
  rw [W1] at r
  cases r with
  |cons r1 r2=>
   cases i with
   |zero=>cases h;exact r1
   |succ i=>exact B0 r2 i v h
theorem AN {prog:Program}{w:World}{A:Around}{ss:List Int}{vs:List Value}(r:Y1 (ss.map V.int) vs):CmpOf prog w A .Gt (λi v=>vs.toArray[i]? = some v) (KP ss):=CmpOf.ints_gt (λi=>ss.getD i default) λi v h=>B0 r i v (by simpa using h)
def Z0Y (te td:TE)(K:Wd):TE:=λσ H Q=>te σ H λx H1=>td σ H1 λy H2=>∃p ss,x = .ref p/\SqL K H2 p (ss.map V.int)/\(ss=[]->Q y H2)/\(ss≠[]->Q (.int (Kw ss)) H2)
theorem Ss {p kp:Pos}{te td:TE}(hcalm:X.calm=true)(h:PE X e te)(h2:PE X d td)(hg:Gl X "max")(hm:X.mg "max" = none)(hv:WH "max" = some (.builtin "max"))
  (he:Wy [e] X.env=(false,eval e X.env) :: Wy [] X.env:=by rfl) (hall:(backToKw pos (keywordEach [⟨some "default",d,kp⟩] X.env)).all (·.1.isSome)=true:=by rfl) (hks:(backToKw pos (keywordEach [⟨some "default",d,kp⟩] X.env)).filterMap (·.1)=[Wr "default"]:=by rfl)
  (hno:(backToKw pos (keywordEach [⟨some "default",d,kp⟩] X.env)).any (·.1.isNone)=false:=by rfl) (hb:backTo pos (Wy [e] X.env)=(false,eval e X.env) :: backTo pos (Wy [] X.env):=by rfl) (hp:(backTo pos (Wy [e] X.env)).any (·.1)=false:=by rfl) :
  PE X (.Call (.Name "max" p) [e] [⟨some "default",d,kp⟩] pos) (Z0Y te td X.K):=by
 intro pins s σ H Q I hq
 have hh:X.A.handled=none:=I.ok.hd hcalm
 refine W03 (U9 I hg hm hv ?_ (by decide) (by decide))
 let Q1:List V->Hp->Prop:=λvs H1=>match vs with
  |[x]=>td σ H1 λy H2=>∃p ss,x = .ref p/\SqL X.K H2 p (ss.map V.int)/\(ss=[]->Q y H2)/\(ss≠[]->Q (.int (Kw ss)) H2)
  |_=>False
 refine callWith_kw (thn ((ZE h Ym he) pos pins s σ H Q1 I hq) λus s1 ⟨vs,H1,I1,r1,q1⟩=>?_) hb hp hall hno
 match vs,r1,q1 with
 |[x],r1,q1=>
  obtain⟨u,rfl,ru⟩:=JN r1
  let Q2:List V->Hp->Prop:=λvs H2=>match vs with
   |[y]=>∃p ss,x = .ref p/\SqL X.K H2 p (ss.map V.int)/\(ss=[]->Q y H2)/\(ss≠[]->Q (.int (Kw ss)) H2)
   |_=>False
  refine thn ((Sm (nm:=some (Wr "default")) (kpos:=kp) h2 DY) pos pins s1 σ H1 Q2 I1 q1) λws s2 ⟨zs,H2,I2,rz,q2⟩=>?_
  match zs,rz,q2 with
  |[y],rz,q2=>
   obtain⟨dv,rfl,rd⟩:=JN rz
   obtain⟨l,ss,rfl,hl,k1,k2⟩:=q2
   cases ru
   rw [hks]
   obtain⟨its,rv,pl,hz⟩:=I2.list hl
   have hL:=pl.isList
   have hlt:l<s2.heap.objs.size:=by obtain⟨o,ho,_⟩:=id hL;exact Wt ho
   refine LZ (d:=dv) (W0H hL ?_)
   have hsz:its.toArray.size=ss.length:=by rw [Wn,←rv.length,We]
   have keepI:∀(g:Heap),(∀b o,b∉[s2.heap.objs.size]->(s2.heap.push { cls:=.type "list_iterator",data:=.fields #[.ref l,.int 0 0] }).get? b=some o->g.get? b=some o)->∀b o,s2.heap.get? b=some o->g.get? b=some o:=λg kp b o eb=>kp b o (by simp only [Ww,WP,or_false];exact WK (Wt eb)) (Wj _ eb)
   refine⟨s2.heap.objs.size,_,_,its.toArray.size,_,_,KP ss,rfl,Walks.list (by simpa using hh) s2.heap.objs.size l (WK hlt) its.toArray,⟨⟨_,Wv _ rfl,rfl,rfl⟩,hL.push _⟩,?_,AN rv,λz g tk kp=>?_,λz v g tk hv kp=>?_⟩
   ·intro b hb
    simp only [Ww,WP,or_false] at hb
    rw [W0r]
    rcases hb with rfl|rfl
    ·exact W0z _
    ·exact W0Y hlt
   ·exact⟨y,H2,I2.kept (t':=tk) (keepI g kp),rd,k1 (by rw [hsz] at z;exact W0o.mp z)⟩
   ·obtain⟨t,rfl⟩:=B0 rv _ v (by simpa using hv)
    rw [hsz] at z
    rw [show its.length=ss.length by rw [←rv.length,We]]
    exact⟨.int (Kw ss),H2,I2.kept (t':=tk) (keepI g kp),⟨t,rfl⟩,k2 (λw=>by rw [w] at z;exact absurd z (VE _))⟩
  |[],_,q2=>exact q2.elim
  |_ :: _ :: _,_,q2=>exact q2.elim
 |[],_,q1=>exact q1.elim
 |_ :: _ :: _,_,q1=>exact q1.elim
def PD (ma md:M D):M D:=λen S=>(ma en S).bind λp=>(md en p.2).bind λq=>match p.1 with
 | .ref n=>match q.2[n]? with
  |some (.lst ds)=>(M1 ds).map λss=>(if ss.isEmpty then q.1 else .int (Kw ss),q.2)
  |_=>none
 |_=>none
theorem HZ {p kp:Pos}{ma md:M D}(hcalm:X.calm=true)(h:SE X e ma)(h2:SE X d md)(hg:Gl X "max")(hm:X.mg "max" = none)(hv:WH "max" = some (.builtin "max"))
  (he:Wy [e] X.env=(false,eval e X.env) :: Wy [] X.env:=by rfl) (hall:(backToKw pos (keywordEach [⟨some "default",d,kp⟩] X.env)).all (·.1.isSome)=true:=by rfl) (hks:(backToKw pos (keywordEach [⟨some "default",d,kp⟩] X.env)).filterMap (·.1)=[Wr "default"]:=by rfl)
  (hno:(backToKw pos (keywordEach [⟨some "default",d,kp⟩] X.env)).any (·.1.isNone)=false:=by rfl) (hb:backTo pos (Wy [e] X.env)=(false,eval e X.env) :: backTo pos (Wy [] X.env):=by rfl) (hp:(backTo pos (Wy [e] X.env)).any (·.1)=false:=by rfl) :
  SE X (.Call (.Name "max" p) [e] [⟨some "default",d,kp⟩] pos) (PD ma md):=by
 refine ZF (Ss hcalm h h2 hg hm hv he hall hks hno hb hp) ?_
 rintro σ H Q ⟨ρ,en,S,v,S',E,R,e,k⟩
 unfold PD at e
 obtain⟨⟨d1,S1⟩,e1,e⟩:=W5.mp e
 obtain⟨⟨d2,S2⟩,e2,e⟩:=W5.mp e
 cases d1 with
 |ref n=>
  dsimp only at e
  split at e
  ·rename_i ds hn
   obtain⟨ss,e3,e4⟩:=Wi.mp e
   cases e4
   refine⟨ρ,en,S,.ref n,S1,E,R,e1,λx ρ1 H1 X1 R1 d1=>⟨ρ1,en,S1,d2,_,E.up X1,R1,e2,λy ρ2 H2 X2 R2 d2=>?_⟩⟩
   obtain⟨a,a1,rfl⟩:=(d1.up X2).of_ref
   obtain⟨ob,eo,ro⟩:=R2.obj a1
   rw [hn] at eo
   cases eo
   obtain⟨xs,x1,x2⟩:=ro
   refine⟨a,ss,rfl,?_,λz=>?_,λz=>?_⟩
   ·rw [←MX x2 e3];exact .of x1
   ·subst z
    exact k y ρ2 H2 (X1.trans X2) R2 d2
   ·have hz:ss.isEmpty=false:=by cases ss with
     |nil=>exact absurd rfl z
     |cons _ _=>rfl
    rw [hz] at k
    exact k _ ρ2 H2 (X1.trans X2) R2 .flat_int
  ·cases e
 |_=>cases e
end
end DL
namespace DL
open PySem L2 PySem.Spec PyProof.Rows
section
variable {X:Cx} {e a b:Expr} {pos:Pos}
end
end DL
namespace DL
open PySem L2 PySem.Spec PyProof.Rows
section
variable {X:Cx} {e o value:Expr} {pos pos' tpos:Pos} {cn f:Str} {Ca:Addr}
end
end DL
namespace DL
open PySem L2 PySem.Spec PyProof.Rows
section
variable {X:Cx} {a o:Expr} {es:List Expr} {pos apos:Pos} {cn m:Str} {Ca:Addr}
variable {k n:Nat} {f:Addr} {fd:FuncData} {ps:List Str} {F:List D->Sto->Option (D×Sto)} {mo:M D} {ma:M (List D)}
end
end DL
namespace DL
open PySem L2 PySem.Spec PyProof.Rows
section
variable {X:Cx} {o value:Expr} {pos tpos:Pos} {cn f:Str} {Ca:Addr}
end
end DL
namespace DL
open PySem L2 PySem.Spec PyProof.Rows
section
variable {X:Cx} {a b:Expr} {pos:Pos}
end
end DL
namespace DL
open PySem L2 PySem.Spec PyProof.Rows
section
variable {X:Cx} {e:Expr} {pos:Pos}
def Z2N (m:M (List D)):M D:=λen S=>(m en S).bind λp=>(M1 p.1).map λss=>(.int ss.sum,p.2)
end
end DL
namespace DL
open PySem PySem.Spec PyProof.Rows L2
section
open PySem.SeqAt
open PySem.AutoSeq1 (wpAny_loadPart')
open PySem.MeetsSeq PySem.MeetsSeq2 PySem.MeetsSeq3
end
def OF (f:D->D->Bool):List D->List D->Bool
 |a :: as,b :: bs=>if eqD a b=true then OF f as bs else f a b
 |_,_=>true
def Z3n:Nat->D->D->Bool
 |_,.int _,.int _=>true
 |_,.str _,.str _=>true
 |n+1,.tup as,.tup bs=>OF (Z3n n) as bs
 |_,_,_=>false
section
variable {X:Cx} {pins:List (Addr×Obj)} {σ:L2.St} {H:Hp} {s:Shared} {ρ:List Addr} (I:Inv X pins σ H s)
include I in
include I in
end
end DL
namespace L2
open PySem PySem.Spec PyProof.Rows
section
variable {prog:Program} {w:World} {A:Around}
end
section
variable {prog:Program} {w:World} {A:Around} {E:Value->Shared->Prop} {s:Shared}
end
end L2
namespace DL
open PySem L2 PySem.Spec PyProof.Rows
section
variable {X:Cx} {e a b:Expr} {es:List Expr} {pos:Pos}
def Oy (ma mb:M D):M ItD:=λen S=>(ma en S).bind λp=>(mb en p.2).bind λq=>match p.1,q.1 with
 | .int i,.int j=>if -(2 ^ 62)≤i/\i<2 ^ 62/\-(2 ^ 62)≤j/\j<2 ^ 62 then some ((B8 i (j-i).toNat,.no),q.2) else none
 |_,_=>none
def Z2C (n:Nat):List D:=(W7 n).map λi=>D.int ((n:Int)-1+(i:Nat)*(-1))
def Z2P (m:M D):M ItD:=λen S=>(m en S).bind λp=>match p.1 with | .int j=>if -(2 ^ 62)≤j/\j<2 ^ 62 then some ((Z2C j.toNat,.no),p.2) else none|_=>none
def OA (ma mb:M D):M D:=λen S=>(ma en S).bind λp=>match p.1 with
 | .str y=>(mb en p.2).bind λq=>match q.1 with
  | .str z=>some (.int (Txt.find y z),q.2)
  |_=>none
 |_=>none
def ltG (ds:List D)(i j:Nat):Bool:=ltD (ds.getD i .non) (ds.getD j .non)
def Ov (ds:List D):D:=ds.getD (argBest (ltG ds) (ds.length-1)) .non
def Ou (ds:List D):Bool:=decide (0<ds.length)&&((ds.all λd=>pln 30 d)&&ds.all λd=>ds.all λd'=>Z3n 30 d d')
def Oz (m:M (List D)):M D:=λen S=>(m en S).bind λp=>if Ou p.1=true then some (Ov p.1,p.2) else none
end
end DL
namespace DL
open PySem L2
theorem Be (S:Sto)(v:D):Ml S (v,S)=(v,S):=by unfold Ml;split<;>rfl
theorem Yo (S G:Sto)(v:D)(h:JR S.length v=true):Ml S (v,S++G)=(v,S):=by
 unfold Ml
 rw [if_pos ⟨by simp,h⟩]
theorem Z0D {α:Type}{xs:List α}{i:Int}(h0:0≤i)(h1:i<xs.length):∃a,a∈xs/\xs[i.toNat]? = some a/\atI xs i=some a:=by
 obtain⟨n,rfl⟩:=Int.eq_ofNat_of_zero_le h0
 have hn:n<xs.length:=by omega
 refine⟨xs[n],W0l hn,by simp [hn],Mc (by simp [hn])⟩
def cs (x:Str):List Nat:=x.cps.toList
theorem Jj (x:Str):x.length=(cs x).length:=by simp [Str.length,cs]
theorem B2 (ys:List Str):cs (W23 (Wr "") ys)=ys.flatMap cs:=by
 have e:(Wr "").cps = #[]:=by decide +kernel
 have key:∀(l:List Str) (acc:Array Nat),(l.foldl (λacc p=>acc++(Wr "").cps++p.cps) acc).toList=acc.toList++l.flatMap cs:=by
  intro l
  induction l with
  |nil=>intro acc;simp
  |cons p l ih=>intro acc;rw [W29,ih,e];simp [cs]
 unfold W23 Builtin.Str.glued
 cases ys with
 |nil=>rfl
 |cons y ys=>exact key ys y.cps
end DL
namespace DL
open PySem PySem.Spec PyProof.Rows L2
section
variable {X:Cx} {e a b c:Expr} {es:List Expr} {pos:Pos}
theorem sv (i:Nat){x:Str}{pos:Pos}(hN:X.N[i]? = some x:=by rfl)(hv:Vis X.env.scope x:=by first|exact Or.inl rfl|exact Or.inr (Or.inl rfl)|exact Or.inr (Or.inr rfl))(hd:(x == ("__debug__" : Str))=false:=by decide)
  (hcd:(x == ("__classdict__" : Str))=false:=by decide):SE X (.Name x pos) (Z6 i):=DF i (O5 hN hv hd hcd)
theorem Y8 {scope:Scope}(names0:List (Str×NameKind))(h0:X.env.scope.names=names0)(h:∀y∈scope.names,y.2 = .free->names0.lookup y.1=some .cell\/names0.lookup y.1=some .free) :
  ∀y∈scope.names,y.2 = .free->X.env.scope.names.lookup y.1=some .cell\/X.env.scope.names.lookup y.1=some .free:=by rw [h0];exact h
theorem MV {K:Wd}{C:String}(h1:W0c K (.type "NoneType") (.type C)=some (QG "NoneType" C))(h2:W0c K (.type "bool") (.type C)=some (QG "bool" C))(h3:W0c K (.type "int") (.type C)=some (QG "int" C))
  (h4:W0c K (.type "str") (.type C)=some (QG "str" C)) (h5:W0c K (.type "tuple") (.type C)=some (QG "tuple" C)) (h6:W0c K (.type "list") (.type C)=some (QG "list" C)) (h7:W0c K (.type "dict") (.type C)=some (QG "dict" C)):Isi K C:=by
 intro T hT
 simp only [Ww,WP,or_false] at hT
 rcases hT with rfl|rfl|rfl|rfl|rfl|rfl|rfl
 ·exact h1
 ·exact h2
 ·exact h3
 ·exact h4
 ·exact h5
 ·exact h6
 ·exact h7
theorem QW (K:Wd):Isi K "str":=MV (by kernel_rfl) (by kernel_rfl) (by kernel_rfl) (by kernel_rfl) (by kernel_rfl) (by kernel_rfl) (by kernel_rfl)
theorem Lv (K:Wd):Isi K "int":=MV (by kernel_rfl) (by kernel_rfl) (by kernel_rfl) (by kernel_rfl) (by kernel_rfl) (by kernel_rfl) (by kernel_rfl)
theorem Uc (K:Wd):Isi K "bool":=MV (by kernel_rfl) (by kernel_rfl) (by kernel_rfl) (by kernel_rfl) (by kernel_rfl) (by kernel_rfl) (by kernel_rfl)
theorem Jk (K:Wd):Isi K "tuple":=MV (by kernel_rfl) (by kernel_rfl) (by kernel_rfl) (by kernel_rfl) (by kernel_rfl) (by kernel_rfl) (by kernel_rfl)
theorem Ms {p:Pos}{sep:M D}{m:M (List D)}(hs:SE X a sep)(h:SQ X e m)(he:Wy [e] X.env=(false,eval e X.env) :: Wy [] X.env:=by rfl)
  (hbase:attributeBase a ("join" : Str) X.env (eval a X.env)=eval a X.env:=by rfl)
  (hfew:((backTo pos (Wy [e] X.env)).all (λx=>!x.1)&&(backToKw pos (keywordEach [] X.env)).all (λx=>x.1.isSome)
   && decide ([e].length+([]:List Keyword).length+(if ([]:List Keyword).isEmpty then 0 else 1)<30))=true:=by rfl)
  (hline:(p.endLine == pos.line)=true:=by rfl) (hplain:(backTo pos (Wy [] X.env)).any (·.1)=false:=by rfl) :
  SE X (.Call (.Attribute a "join" p) [e] [] pos) (NR sep m):=
 S6 hs h (ZE h Ym he) (Oc PySem.F.plainAttrs_str PySem.F.slot_str_join PySem.F.type_str_join SY hs (ZE h Ym he) hbase hfew hline he hplain)
end
structure Own (K:Wd) (mg:Str->Option Value) (x:Str) (st:Stmt) (f:Addr) (fd:FuncData) (ps:List Str):Prop where
 fn:Fun K x x st f fd
 mgf:mg x=some (.ref f)
 b:Me K fd ps []
theorem II {P:Program}{w:World}{K:Wd}{mg:Str->Option Value}{base:Heap}{k n:Nat}{f:Addr}{fd:FuncData}{ps:List Str}(hn:ps.length=n):FnOk P w K mg base CX0 k f fd ps (spD K n λ_ _=>none):=
 ⟨λvs H Q E h=>by rw [h.1,hn],λA outer s H args us vs Q E _ _ _ _ h=>by
  obtain⟨_,ρ,S,ds,v,S',_,_,e,_⟩:=h
  cases e⟩
theorem walk_d {l:PySem.W.OpenLaw}{k:Nat}{q:Program}{loose:List Str}{XP:(Str->Option Value)->Heap->Prop}{YP:World->Heap->Prop}{d:DefRec}{K:Params->Wd}{x:Str}{F:List D->Sto->Option (D×Sto)}
  (hn:l.most=some 63) (hdf:d.params.defaults=[]) (hr:Room k callerA)
  (hY:∀(w:World) (h:Heap),YP w h->(K w.params).In h)
  (hF:∀(w:World) (mg:Str->Option Value) (fa:Addr) (h:Heap),(K w.params).In h->h.Ns Wx mg->mg d.name=some (.ref fa)->
   ∃fd:FuncData,(∀(s:Shared) (u:Value),BindsTo s fd ⟨[u],[]⟩ [(x,u)])/\
    ∀base:Heap,(K w.params).In base->base.Ns Wx mg->FnOk l.prog w (K w.params) mg base CX0 k fa fd [x] (spD (K w.params) 1 F))
  (hl:∀ns:List Int,ns.length≤63->∃S',F [.scr ns] []=some (.bl true,S')) :
  PySem.W.WalkO q loose XP YP l.row.toRowW d [] (λf vs=>PySem.call f vs):=by
 refine L2.walk_of (n:=63) (k:=k) (x:=x) (CX:=λ_=>CX0) (sp:=λw=>spD (K w.params) 1 F) hn (by decide) hdf hr hY hF (λw H a ns hlen hO hS=>?_) λ_ _ _ _ _ z=>z
 obtain⟨S',e⟩:=hl ns hlen
 have hs:AU (K w.params) H a ns:=by
  rcases hS with (h|⟨o,h⟩)|h
  ·rcases hO a with z|⟨o,xs,z⟩
   ·rw [h] at z;cases z
   ·rw [h] at z;cases z
  ·exact .inl ⟨o,h⟩
  ·exact .inr h
 refine⟨rfl,[],[],[.scr ns],.bl true,S',⟨rfl,λi j a h=>by simp at h,λn ob h=>by simp at h⟩,.cons (by unfold DR;exact⟨a,rfl,hs⟩) .nil,e,λz ρ' H' _ _ dz=>dz.of_bl⟩
end DL
namespace DL
open PySem L2
section
variable {a b c:M D} {ba bb:M Bool} {sa sb:MS} {ms:M (List D)} {en en':En} {S S':Sto} {x y v:D} {g g':D->D->Sto->Option (D×Sto)} {F:List D->Sto->Option (D×Sto)}
def Xe (b:MS):Option (Fl×En×Sto)->Option (Fl×En×Sto)
 |some (.nx,en,S)=>b en S
 |r=>r
theorem Z09:YF sa sb en S=Xe sb (sa en S):=by
 unfold YF
 cases sa en S with
 |none=>rfl
 |some p=>obtain⟨f,e,s⟩:=p;cases f<;>rfl
theorem OT:Xe sb (some (.nx,en,S))=sb en S:=rfl
theorem MI:Xe sb (some (.rt v,en,S))=some (.rt v,en,S):=rfl
theorem MK:Xe sb (some (.bk,en,S))=some (.bk,en,S):=rfl
theorem MJ:Xe sb (some (.ct,en,S))=some (.ct,en,S):=rfl
theorem Z3i:mNx en S=some (.nx,en,S):=rfl
theorem Z3m:mBk en S=some (.bk,en,S):=rfl
theorem Z3l:mCt en S=some (.ct,en,S):=rfl
def Z2b (g:D->En->Option En)(en:En):Option (D×Sto)->Option (Fl×En×Sto)
 |some (v,S)=>(g v en).map λen'=>(.nx,en',S)
 |none=>none
theorem Z0o {g:D->En->Option En}:Qv a g en S=Z2b g en (a en S):=by
 unfold Qv
 cases a en S<;>rfl
theorem X9 {i:Nat}:Z2b (gN i) en (some (v,S))=some (.nx,en.set i (some v),S):=rfl
theorem Cw {n:Nat}{gs:List D->En->Option En}:Z2b (gT n gs) en (some (v,S))=(gT n gs v en).map λen'=>(.nx,en',S):=rfl
theorem Z3k {n:Nat}{gs:List D->En->Option En}{ds:List D}(h:ds.length=n):gT n gs (.tup ds) en=gs ds en:=if_pos h
theorem Z0l {i:Nat}{gs:List D->En->Option En}{ds:List D}:YA (gN i) gs (v :: ds) en=gs ds (en.set i (some v)):=rfl
theorem Z0k:TK [] en=some en:=rfl
def Z33 (en:En):Option (D×Sto)->Option (Fl×En×Sto)
 |some (v,S)=>some (.rt v,en,S)
 |none=>none
theorem Z0d:Qc a en S=Z33 en (a en S):=by
 unfold Qc
 cases a en S<;>rfl
theorem OU:Z33 en (some (v,S))=some (.rt v,en,S):=rfl
theorem CV:Z23 en S=some (.rt .non,en,S):=rfl
def Xn (en:En):Option (D×Sto)->Option (Fl×En×Sto)
 |some (_,S)=>some (.nx,en,S)
 |none=>none
theorem Hi:KI a en S=Xn en (a en S):=by
 unfold KI
 cases a en S<;>rfl
theorem Ct:Xn en (some (v,S))=some (.nx,en,S):=rfl
def Z36 (sa sb:MS)(en:En):Option (Bool×Sto)->Option (Fl×En×Sto)
 |some (c,S)=>if c=true then sa en S else sb en S
 |none=>none
theorem Z0j:T5 ba sa sb en S=Z36 sa sb en (ba en S):=by
 unfold T5
 cases ba en S<;>rfl
theorem OZ {c:Bool}:Z36 sa sb en (some (c,S))=if c=true then sa en S else sb en S:=rfl
def kV1 (S:Sto):Option D->Option (D×Sto)
 |some d=>some (d,S)
 |none=>none
theorem Z04 {i:Nat}:Z6 i en S=kV1 S (en[i]?.getD none):=by
 unfold Z6
 cases en[i]?.getD none<;>rfl
theorem Z2S:kV1 S (some x)=some (x,S):=rfl
theorem Z0n:Zg x en S=some (x,S):=rfl
def Z34 (g:D->D->Sto->Option (D×Sto))(b:M D)(en:En):Option (D×Sto)->Option (D×Sto)
 |some (x,S)=>(b en S).bind λq=>g x q.1 q.2
 |none=>none
def Xh (g:D->D->Sto->Option (D×Sto))(x:D):Option (D×Sto)->Option (D×Sto)
 |some (y,S)=>g x y S
 |none=>none
theorem Z3h:mOp g a b en S=Z34 g b en (a en S):=by
 unfold mOp
 cases a en S<;>rfl
theorem OW:Z34 g b en (some (x,S))=Xh g x (b en S):=by
 show (b en S).bind _=_
 cases b en S<;>rfl
theorem OV:Xh g x (some (y,S))=g x y S:=rfl
def kT:Option (D×Sto)->Option (Bool×Sto)
 |some (.bl b,S)=>some (b,S)
 |_=>none
theorem e_T:mT a en S=kT (a en S):=by
 unfold mT
 cases a en S with
 |none=>rfl
 |some p=>obtain⟨d,s⟩:=p;cases d<;>rfl
theorem k_T {t:Bool}:kT (some (.bl t,S))=some (t,S):=rfl
def Z2Y:Option (D×Sto)->Option (Bool×Sto)
 |some (d,S)=>(Kl d S).map λb=>(b,S)
 |none=>none
theorem Z0t:Tz a en S=Z2Y (a en S):=by
 unfold Tz
 cases a en S<;>rfl
theorem Cz {t:Bool}:Z2Y (some (.bl t,S))=some (t,S):=rfl
def Z3a (b:M Bool)(en:En):Option (Bool×Sto)->Option (Bool×Sto)
 |some (c,S)=>if c=true then b en S else some (false,S)
 |none=>none
def kOr (b:M Bool)(en:En):Option (Bool×Sto)->Option (Bool×Sto)
 |some (c,S)=>if c=true then some (true,S) else b en S
 |none=>none
def Z35:Option (Bool×Sto)->Option (Bool×Sto)
 |some (c,S)=>some (!c,S)
 |none=>none
theorem Z0r:Z2Q ba bb en S=Z3a bb en (ba en S):=by
 unfold Z2Q
 cases ba en S<;>rfl
theorem Z3g:mOr ba bb en S=kOr bb en (ba en S):=by
 unfold mOr
 cases ba en S<;>rfl
theorem Z0e:Gf ba en S=Z35 (ba en S):=by
 unfold Gf
 cases ba en S<;>rfl
theorem Xb {c:Bool}:Z3a bb en (some (c,S))=if c=true then bb en S else some (false,S):=rfl
theorem Z2T {c:Bool}:kOr bb en (some (c,S))=if c=true then some (true,S) else bb en S:=rfl
theorem OX {c:Bool}:Z35 (some (c,S))=some (!c,S):=rfl
def Xc (b:M D)(en:En):Option (D×Sto)->Option (D×Sto)
 |some (d,S)=>(Kl d S).bind λc=>if c=true then b en S else some (d,S)
 |none=>none
def Z2W (b:M D)(en:En):Option (D×Sto)->Option (D×Sto)
 |some (d,S)=>(Kl d S).bind λc=>if c=true then some (d,S) else b en S
 |none=>none
def Im:Option (D×Sto)->Option (D×Sto)
 |some (d,S)=>(Kl d S).map λc=>(.bl (!c),S)
 |none=>none
theorem CN:UY a b en S=Xc b en (a en S):=by
 unfold UY
 cases a en S<;>rfl
theorem Z03:vOr a b en S=Z2W b en (a en S):=by
 unfold vOr
 cases a en S<;>rfl
theorem CM:Dp a en S=Im (a en S):=by
 unfold Dp
 cases a en S<;>rfl
theorem EW {c:Bool}:Xc b en (some (.bl c,S))=if c=true then b en S else some (.bl false,S):=by cases c<;>rfl
theorem ON {c:Bool}:Z2W b en (some (.bl c,S))=if c=true then some (.bl true,S) else b en S:=by cases c<;>rfl
theorem EV {c:Bool}:Im (some (.bl c,S))=some (.bl (!c),S):=rfl
theorem PZ {ds:List D}{n:Nat}(h:S[n]? = some (.lst ds)):Im (some (.ref n,S))=some (.bl ds.isEmpty,S):=by
 show (Kl (.ref n) S).map _=_
 dsimp only [Kl]
 rw [h]
 simp
def kIf (a b:M D)(en:En):Option (Bool×Sto)->Option (D×Sto)
 |some (c,S)=>if c=true then a en S else b en S
 |none=>none
theorem Z3j:mIf ba a b en S=kIf a b en (ba en S):=by
 unfold mIf
 cases ba en S<;>rfl
theorem Z2U {c:Bool}:kIf a b en (some (c,S))=if c=true then a en S else b en S:=rfl
def Z39 (g g':D->D->Sto->Option (D×Sto))(b c:M D)(en:En):Option (D×Sto)->Option (D×Sto)
 |some (x,S)=>(b en S).bind λq=>(g x q.1 q.2).bind λr=>match r.1 with
  | .bl true=>(c en r.2).bind λw=>g' q.1 w.1 w.2
  | .bl false=>some (.bl false,r.2)
  |_=>none
 |none=>none
def Z38 (g g':D->D->Sto->Option (D×Sto))(x:D)(c:M D)(en:En):Option (D×Sto)->Option (D×Sto)
 |some (y,S)=>(g x y S).bind λr=>match r.1 with
  | .bl true=>(c en r.2).bind λw=>g' y w.1 w.2
  | .bl false=>some (.bl false,r.2)
  |_=>none
 |none=>none
def Z37 (g':D->D->Sto->Option (D×Sto))(y:D)(c:M D)(en:En):Option (D×Sto)->Option (D×Sto)
 |some (.bl t,S)=>if t=true then Xh g' y (c en S) else some (.bl false,S)
 |_=>none
theorem LN:UU g g' a b c en S=Z39 g g' b c en (a en S):=by
 unfold UU
 cases a en S<;>rfl
theorem X8:Z39 g g' b c en (some (x,S))=Z38 g g' x c en (b en S):=by
 show (b en S).bind _=_
 cases b en S<;>rfl
theorem X7:Z38 g g' x c en (some (y,S))=Z37 g' y c en (g x y S):=by
 show (g x y S).bind _=_
 cases g x y S with
 |none=>rfl
 |some r=>
  obtain⟨d,s⟩:=r
  cases d with
  |bl t=>
   cases t
   ·rfl
   ·show (c en s).bind _=Xh g' y (c en s)
    cases c en s<;>rfl
  |_=>rfl
theorem X6 {t:Bool}:Z37 g' y c en (some (.bl t,S))=if t=true then Xh g' y (c en S) else some (.bl false,S):=rfl
theorem Z0f:ZV en S=some ([],S):=rfl
def Xo (r:M (List D))(en:En):Option (D×Sto)->Option (List D×Sto)
 |some (x,S)=>(r en S).map λq=>(x :: q.1,q.2)
 |none=>none
def CC (x:D):Option (List D×Sto)->Option (List D×Sto)
 |some (xs,S)=>some (x :: xs,S)
 |none=>none
theorem Hj:Z3 a ms en S=Xo ms en (a en S):=by
 unfold Z3
 cases a en S<;>rfl
theorem Cu:Xo ms en (some (x,S))=CC x (ms en S):=by
 show (ms en S).map _=_
 cases ms en S<;>rfl
theorem Lj {xs:List D}:CC x (some (xs,S))=some (x :: xs,S):=rfl
def Xp (F:List D->Sto->Option (D×Sto)):Option (List D×Sto)->Option (D×Sto)
 |some (xs,S)=>F xs S
 |none=>none
theorem Hl:Zj F ms en S=Xp F (ms en S):=by
 unfold Zj
 cases ms en S<;>rfl
theorem Cv {xs:List D}:Xp F (some (xs,S))=F xs S:=rfl
def NY:Option (List D×Sto)->Option (D×Sto)
 |some (xs,S)=>if xs.length≤Wk then some (.tup xs,S) else none
 |none=>none
theorem Z06:KF ms en S=NY (ms en S):=by
 unfold KF
 cases ms en S<;>rfl
theorem JH {xs:List D}(h:xs.length≤Wk):NY (some (xs,S))=some (.tup xs,S):=if_pos h
def NZ:Option (List D×Sto)->Option (D×Sto)
 |some (xs,S)=>if xs.length≤Wk then some (.ref S.length,S++[.lst xs]) else none
 |none=>none
theorem Z0g:Dc ms en S=NZ (ms en S):=by
 unfold Dc
 cases ms en S<;>rfl
theorem UA {xs:List D}(h:xs.length≤Wk):NZ (some (xs,S))=some (.ref S.length,S++[.lst xs]):=if_pos h
def Z28 (S0:Sto):Option (Fl×En×Sto)->Option (D×Sto)
 |some (.rt v,_,S)=>some (Ml S0 (v,S))
 |some (.nx,_,S)=>some (Ml S0 (.non,S))
 |_=>none
theorem Z0a {nN n:Nat}{m:MS}{ds:List D}(h:ds.length=n):QM nN n m ds S=Z28 S (m (JY nN ds) S):=by
 unfold QM
 rw [if_pos h]
 cases m (JY nN ds) S with
 |none=>rfl
 |some p=>obtain⟨f,e,s⟩:=p;cases f<;>rfl
theorem ML:Z28 S (some (.rt v,en,S'))=some (Ml S (v,S')):=rfl
theorem MM:Z28 S (some (.nx,en,S'))=some (Ml S (.non,S')):=rfl
def Xi:Option (D×Sto)->Option (D×Sto)
 |some (d,S)=>(Ev d S).map λ(n:Nat)=>(.int n,S)
 |none=>none
theorem Z0h:MD a en S=Xi (a en S):=by
 unfold MD Xi
 cases a en S with
 |none=>rfl
 |some p=>
  obtain⟨d,s⟩:=p
  dsimp only [WZ]
  cases Ev d s<;>rfl
theorem OY:Xi (some (x,S))=(Ev x S).map λ(n:Nat)=>(.int n,S):=rfl
theorem Gj {z:Str}(h:z.length≤Wk):Xi (some (.str z,S))=some (.int z.length,S):=by
 show (if z.length≤Wk then some z.length else none).map _=_
 rw [if_pos h];rfl
theorem Cq {ds:List D}:Xi (some (.tup ds,S))=some (.int ds.length,S):=rfl
def Rf (C:String):Option (D×Sto)->Option (D×Sto)
 |some (d,S)=>(tyD d S).map λT=>(.bl (QG T C),S)
 |none=>none
theorem Z0i {C:String}:BA C a en S=Rf C (a en S):=by
 unfold BA
 cases a en S<;>rfl
theorem Lc {C:String}:Rf C (some (x,S))=(tyD x S).map λT=>(.bl (QG T C),S):=rfl
def kBs (f:List Bool->Bool):Option (List D×Sto)->Option (D×Sto)
 |some (ds,S)=>(Ul ds).map λbs=>(.bl (f bs),S)
 |none=>none
theorem Z0s:Re ms en S=kBs (λbs=>bs.all id) (ms en S):=by
 unfold Re
 cases ms en S<;>rfl
theorem Z0q:Df ms en S=kBs (λbs=>bs.any id) (ms en S):=by
 unfold Df
 cases ms en S<;>rfl
theorem UM:∀(bs:List Bool),Ul (bs.map D.bl)=some bs
 |[]=>rfl
 |b :: bs=>by
  show (Ul (bs.map D.bl)).map _=_
  rw [UM bs];rfl
theorem T7 {bs:List Bool}:kBs (λbs=>bs.all id) (some (bs.map D.bl,S))=some (.bl (bs.all id),S):=by
 show (Ul (bs.map D.bl)).map _=_
 rw [UM];rfl
theorem Xa {bs:List Bool}:kBs (λbs=>bs.any id) (some (bs.map D.bl,S))=some (.bl (bs.any id),S):=by
 show (Ul (bs.map D.bl)).map _=_
 rw [UM];rfl
def Ln:Option (D×Sto)->Option (ItD×Sto)
 |some (d,S)=>Ls d S
 |none=>none
theorem Hc:Qr a en S=Ln (a en S):=by
 unfold Qr
 cases a en S<;>rfl
theorem BN {ns:List Int}:Ln (some (.scr ns,S))=some ((ns.map D.int,.no),S):=rfl
theorem La {ds:List D}:Ln (some (.tup ds,S))=some ((ds,.no),S):=rfl
theorem Lb {z:Str}:Ln (some (.str z,S))=some (((cs z).map λc=>D.str ⟨#[c]⟩,.no),S):=rfl
def Z32:Option (D×Sto)->Option (ItD×Sto)
 |some (.int j,S)=>if -(2 ^ 62)≤j/\j<2 ^ 62 then some ((B8 0 j.toNat,.no),S) else none
 |_=>none
theorem Z0b:G4 a en S=Z32 (a en S):=by
 unfold G4
 cases a en S with
 |none=>rfl
 |some p=>obtain⟨d,s⟩:=p;cases d<;>rfl
theorem GY {j:Int}(h : -(2 ^ 62)≤j/\j<2 ^ 62):Z32 (some (.int j,S))=some ((B8 0 j.toNat,.no),S):=if_pos h
def Xk (g:D->En->Option En)(body:MS)(en:En):Option (ItD×Sto)->Option (Fl×En×Sto)
 |some (r,S)=>thF r.2 (Qd r.1 r.2 g body r.1 en S)
 |none=>none
theorem Z0m {mi:M ItD}{g:D->En->Option En}:Ak mi g sa en S=Xk g sa en (mi en S):=by
 unfold Ak
 cases mi en S<;>rfl
theorem Dt {r:Option (Fl×En×Sto)}:thF .no r=r:=by cases r<;>rfl
theorem HH {n:Nat}{r:Option (Fl×En×Sto)}:thF (.lst n) r=r:=by cases r<;>rfl
theorem Dv {r:Option (List D×Sto)}:thC .no r=r:=by cases r<;>rfl
theorem HI {n:Nat}{r:Option (List D×Sto)}:thC (.lst n) r=r:=by cases r<;>rfl
theorem Lg {ds:List D}{g:D->En->Option En}:Xk g sa en (some ((ds,.no),S))=Qd ds .no g sa ds en S:=Dt
theorem MN {ds:List D}{n:Nat}{g:D->En->Option En}:Xk g sa en (some ((ds,.lst n),S))=Qd ds (.lst n) g sa ds en S:=HH
theorem Lh {ds:List D}{n:Nat}{kvs:List (D×D)}{th:Bool}{g:D->En->Option En}:Xk g sa en (some ((ds,.fr n kvs th),S))=thF (.fr n kvs th) (Qd ds (.fr n kvs th) g sa ds en S):=rfl
def Lq (nT:Nat)(caps:List Nat)(g:D->En->Option En)(c:M Bool)(m:M D)(en:En):Option (ItD×Sto)->Option (List D×Sto)
 |some (r,S)=>thC r.2 (ZW r.1 r.2 (JL nT caps en) g c m r.1 [] S)
 |none=>none
theorem Hk {mi:M ItD}{nT:Nat}{caps:List Nat}{g:D->En->Option En}:YG mi nT caps g ba a en S=Lq nT caps g ba a en (mi en S):=by
 unfold YG
 cases mi en S<;>rfl
theorem MP {ds:List D}{nT:Nat}{caps:List Nat}{g:D->En->Option En}:Lq nT caps g ba a en (some ((ds,.no),S))=ZW ds .no (JL nT caps en) g ba a ds [] S:=Dv
theorem BS {ds:List D}{n:Nat}{nT:Nat}{caps:List Nat}{g:D->En->Option En}:Lq nT caps g ba a en (some ((ds,.lst n),S))=ZW ds (.lst n) (JL nT caps en) g ba a ds [] S:=HI
theorem Ds {gs:List (Nat×List D)}{r:Option (Fl×En×Sto)}:thF (.zl gs) r=r:=by cases r<;>rfl
theorem Du {gs:List (Nat×List D)}{r:Option (List D×Sto)}:thC (.zl gs) r=r:=by cases r<;>rfl
theorem Lf {ds:List D}{gs:List (Nat×List D)}{g:D->En->Option En}:Xk g sa en (some ((ds,.zl gs),S))=Qd ds (.zl gs) g sa ds en S:=Ds
theorem MO {ds:List D}{gs:List (Nat×List D)}{nT:Nat}{caps:List Nat}{g:D->En->Option En}:Lq nT caps g ba a en (some ((ds,.zl gs),S))=ZW ds (.zl gs) (JL nT caps en) g ba a ds [] S:=Du
theorem MQ {ds:List D}{n:Nat}{kvs:List (D×D)}{th:Bool}{nT:Nat}{caps:List Nat}{g:D->En->Option En}:Lq nT caps g ba a en (some ((ds,.fr n kvs th),S))=thC (.fr n kvs th) (ZW ds (.fr n kvs th) (JL nT caps en) g ba a ds [] S):=rfl
def Xj:Option (List D×Sto)->Option (D×Sto)
 |some (ds,S)=>some (.ref S.length,S++[.lst ds])
 |none=>none
theorem Ha:Ji ms en S=Xj (ms en S):=by
 unfold Ji
 cases ms en S<;>rfl
theorem Cr {ds:List D}:Xj (some (ds,S))=some (.ref S.length,S++[.lst ds]):=rfl
def CB (ms:M (List D))(en:En):Option (D×Sto)->Option (D×Sto)
 |some (.str x,S)=>(ms en S).bind λp=>(Bg p.1).bind λys=>if (ys.map (·.length)).sum+ys.length*x.length≤16777216 then some (.str (W23 x ys),p.2) else none
 |_=>none
def Lm (x:Str):Option (List D×Sto)->Option (D×Sto)
 |some (ds,S)=>(Bg ds).bind λys=>if (ys.map (·.length)).sum+ys.length*x.length≤16777216 then some (.str (W23 x ys),S) else none
 |none=>none
theorem Hb:NR a ms en S=CB ms en (a en S):=by
 unfold NR
 cases a en S with
 |none=>rfl
 |some p=>obtain⟨d,s⟩:=p;cases d<;>rfl
theorem L9 {z:Str}:CB ms en (some (.str z,S))=Lm z (ms en S):=by
 show (ms en S).bind _=_
 cases ms en S<;>rfl
theorem Bf:∀(ys:List Str),Bg (ys.map D.str)=some ys
 |[]=>rfl
 |y :: ys=>by
  show (Bg (ys.map D.str)).map _=_
  rw [Bf ys];rfl
theorem Il {z:Str}{ys:List Str}(h:(ys.map (·.length)).sum+ys.length*z.length≤16777216):Lm z (some (ys.map D.str,S))=some (.str (W23 z ys),S):=by
 show (Bg (ys.map D.str)).bind _=_
 rw [Bf,WZ,if_pos h]
def Z31 (lo hi:M (Option Int))(en:En):Option (D×Sto)->Option (D×Sto)
 |some (x,S)=>(lo en S).bind λl=>(hi en l.2).bind λu=>slD x l.1 u.1 u.2
 |none=>none
def Z30 (x:D)(hi:M (Option Int))(en:En):Option (Option Int×Sto)->Option (D×Sto)
 |some (l,S)=>(hi en S).bind λu=>slD x l u.1 u.2
 |none=>none
def Z2Z (x:D)(l:Option Int):Option (Option Int×Sto)->Option (D×Sto)
 |some (u,S)=>slD x l u S
 |none=>none
theorem Z3f {lo hi:M (Option Int)}:mSl a lo hi en S=Z31 lo hi en (a en S):=by
 unfold mSl
 cases a en S<;>rfl
theorem OS {lo hi:M (Option Int)}:Z31 lo hi en (some (x,S))=Z30 x hi en (lo en S):=by
 show (lo en S).bind _=_
 cases lo en S<;>rfl
theorem OR {hi:M (Option Int)}{l:Option Int}:Z30 x hi en (some (l,S))=Z2Z x l (hi en S):=by
 show (hi en S).bind _=_
 cases hi en S<;>rfl
theorem OQ {l u:Option Int}:Z2Z x l (some (u,S))=slD x l u S:=rfl
def Xg:Option (D×Sto)->Option (Option Int×Sto)
 |some (.int i,S)=>some (some i,S)
 |_=>none
theorem CW:PC a en S=Xg (a en S):=by
 unfold PC
 cases a en S with
 |none=>rfl
 |some p=>obtain⟨d,s⟩:=p;cases d<;>rfl
theorem Cf {i:Int}:Xg (some (.int i,S))=some (some i,S):=rfl
theorem K5:NQ en S=some (none,S):=rfl
theorem CS:YO en S=some (true,S):=rfl
end
section
variable {S:Sto} {i j:Int} {x y:Str} {p q:Bool}
theorem CL:Jb (.int i) (.int j) S=some (.int (i+j),S):=rfl
theorem XT {xs ys:List D}(h:xs.length+ys.length≤Wk):Jb (.tup xs) (.tup ys) S=some (.tup (xs++ys),S):=if_pos h
theorem CJ:Z2j (.int i) (.int j) S=some (.int (i-j),S):=rfl
theorem XG (h : -(2 ^ 64)<j/\j<2 ^ 64):M5 (.int i) (.int j) S=some (.int (i*j),S):=if_pos (Or.inr h)
theorem UV (h : -(2 ^ 64)<i/\i<2 ^ 64):M5 (.int i) (.int j) S=some (.int (i*j),S):=if_pos (Or.inl h)
theorem Jm (h:0<j):Fp (.int i) (.int j) S=some (.int (i%j),S):=if_pos (decide_eq_true h)
theorem XH:gLt (.int i) (.int j) S=some (.bl (decide (i<j)),S):=rfl
theorem XI:gLe (.int i) (.int j) S=some (.bl (decide (i≤j)),S):=rfl
theorem Z2h:gLe (.str x) (.str y) S=some (.bl (!decide (y.cps.toList<x.cps.toList)),S):=rfl
theorem XN:gGt (.int i) (.int j) S=some (.bl (decide (j<i)),S):=rfl
theorem XO:gGe (.int i) (.int j) S=some (.bl (decide (j≤i)),S):=rfl
theorem XR:gEq (.int i) (.int j) S=some (.bl (decide (i=j)),S):=rfl
theorem XQ:gEq (.str x) (.str y) S=some (.bl (decide (x=y)),S):=rfl
theorem XS:gEq (.bl p) (.bl q) S=some (.bl (decide (p=q)),S):=rfl
theorem XF:gNe (.int i) (.int j) S=some (.bl (!decide (i=j)),S):=rfl
theorem XE:gNe (.str x) (.str y) S=some (.bl (!decide (x=y)),S):=rfl
theorem N0:N1 (.bl p) (.bl q) S=some (.bl (!(p == q)),S):=rfl
theorem CK:gIs (.bl p) (.bl q) S=some (.bl (p == q),S):=rfl
theorem M3 {ds:List D}{k:Nat}{d:D}(h:ds[k]? = some d):gIx (.tup ds) (.int (k:Nat)) S=some (d,S):=by
 show (atI ds (k:Int)).map _=_
 rw [Mc h];rfl
section
variable {a b c d e f:D} {l:List D}
theorem LH:gIx (.tup (a :: l)) (.int 0) S=some (a,S):=M3 (k:=0) rfl
theorem LG:gIx (.tup (a :: b :: l)) (.int 1) S=some (b,S):=M3 (k:=1) rfl
theorem LF:gIx (.tup (a :: b :: c :: l)) (.int 2) S=some (c,S):=M3 (k:=2) rfl
theorem XM:gIx (.tup (a :: b :: c :: d :: l)) (.int 3) S=some (d,S):=M3 (k:=3) rfl
theorem XL:gIx (.tup (a :: b :: c :: d :: e :: l)) (.int 4) S=some (e,S):=M3 (k:=4) rfl
theorem XJ:gIx (.tup (a :: b :: c :: d :: e :: f :: l)) (.int 5) S=some (f,S):=M3 (k:=5) rfl
end
end
section
variable {ds0 r:List D} {g:D->En->Option En} {body:MS} {en:En} {S:Sto} {d v:D}
def Lo (ds0:List D)(g:D->En->Option En)(body:MS)(r:List D):Option (Fl×En×Sto)->Option (Fl×En×Sto)
 |some (.nx,en,S)=>Qd ds0 .no g body r en S
 |some (.ct,en,S)=>Qd ds0 .no g body r en S
 |some (.bk,en,S)=>some (.nx,en,S)
 |some (.rt v,en,S)=>some (.rt v,en,S)
 |none=>none
theorem Hf:Qd ds0 .no g body [] en S=some (.nx,en,S):=by
 unfold Qd
 exact if_pos trivial
theorem Hg {i:Nat}:Qd ds0 .no (gN i) body (d :: r) en S=Lo ds0 (gN i) body r (body (en.set i (some d)) S):=by
 rw [Qd]
 rw [if_pos (show Kg .no ds0 S from trivial)]
 show (body (en.set i (some d)) S).bind _=_
 cases body (en.set i (some d)) S with
 |none=>rfl
 |some p=>obtain⟨f,e,s⟩:=p;cases f<;>rfl
theorem BP:Lo ds0 g body r (some (.nx,en,S))=Qd ds0 .no g body r en S:=rfl
theorem BQ:Lo ds0 g body r (some (.ct,en,S))=Qd ds0 .no g body r en S:=rfl
theorem BR:Lo ds0 g body r (some (.bk,en,S))=some (.nx,en,S):=rfl
theorem BO:Lo ds0 g body r (some (.rt v,en,S))=some (.rt v,en,S):=rfl
end
section
variable {a b c d e f g h i j k l:D} {S:Sto}
theorem Cd:NY (some (([]:List D),S))=some (.tup [],S):=JH (show 0≤Wk by decide)
theorem Cp:NZ (some (([]:List D),S))=some (.ref S.length,S++[.lst []]):=UA (show 0≤Wk by decide)
theorem Cc:NY (some ([a],S))=some (.tup [a],S):=JH (show 1≤Wk by decide)
theorem Co:NZ (some ([a],S))=some (.ref S.length,S++[.lst [a]]):=UA (show 1≤Wk by decide)
theorem C9:NY (some ([a,b],S))=some (.tup [a,b],S):=JH (show 2≤Wk by decide)
theorem Cn:NZ (some ([a,b],S))=some (.ref S.length,S++[.lst [a,b]]):=UA (show 2≤Wk by decide)
theorem C8:NY (some ([a,b,c],S))=some (.tup [a,b,c],S):=JH (show 3≤Wk by decide)
theorem Cm:NZ (some ([a,b,c],S))=some (.ref S.length,S++[.lst [a,b,c]]):=UA (show 3≤Wk by decide)
theorem C7:NY (some ([a,b,c,d],S))=some (.tup [a,b,c,d],S):=JH (show 4≤Wk by decide)
theorem Cl:NZ (some ([a,b,c,d],S))=some (.ref S.length,S++[.lst [a,b,c,d]]):=UA (show 4≤Wk by decide)
theorem C6:NY (some ([a,b,c,d,e],S))=some (.tup [a,b,c,d,e],S):=JH (show 5≤Wk by decide)
theorem Ck:NZ (some ([a,b,c,d,e],S))=some (.ref S.length,S++[.lst [a,b,c,d,e]]):=UA (show 5≤Wk by decide)
theorem C5:NY (some ([a,b,c,d,e,f],S))=some (.tup [a,b,c,d,e,f],S):=JH (show 6≤Wk by decide)
theorem Cj:NZ (some ([a,b,c,d,e,f],S))=some (.ref S.length,S++[.lst [a,b,c,d,e,f]]):=UA (show 6≤Wk by decide)
theorem C4:NY (some ([a,b,c,d,e,f,g],S))=some (.tup [a,b,c,d,e,f,g],S):=JH (show 7≤Wk by decide)
theorem Ci:NZ (some ([a,b,c,d,e,f,g],S))=some (.ref S.length,S++[.lst [a,b,c,d,e,f,g]]):=UA (show 7≤Wk by decide)
theorem C0:NY (some ([a,b,c,d,e,f,g,h],S))=some (.tup [a,b,c,d,e,f,g,h],S):=JH (show 8≤Wk by decide)
theorem Ch:NZ (some ([a,b,c,d,e,f,g,h],S))=some (.ref S.length,S++[.lst [a,b,c,d,e,f,g,h]]):=UA (show 8≤Wk by decide)
theorem EZ:NY (some ([a,b,c,d,e,f,g,h,i],S))=some (.tup [a,b,c,d,e,f,g,h,i],S):=JH (show 9≤Wk by decide)
theorem Cg:NZ (some ([a,b,c,d,e,f,g,h,i],S))=some (.ref S.length,S++[.lst [a,b,c,d,e,f,g,h,i]]):=UA (show 9≤Wk by decide)
theorem L5:NY (some ([a,b,c,d,e,f,g,h,i,j],S))=some (.tup [a,b,c,d,e,f,g,h,i,j],S):=JH (show 10≤Wk by decide)
theorem L8:NZ (some ([a,b,c,d,e,f,g,h,i,j],S))=some (.ref S.length,S++[.lst [a,b,c,d,e,f,g,h,i,j]]):=UA (show 10≤Wk by decide)
theorem L4:NY (some ([a,b,c,d,e,f,g,h,i,j,k],S))=some (.tup [a,b,c,d,e,f,g,h,i,j,k],S):=JH (show 11≤Wk by decide)
theorem L7:NZ (some ([a,b,c,d,e,f,g,h,i,j,k],S))=some (.ref S.length,S++[.lst [a,b,c,d,e,f,g,h,i,j,k]]):=UA (show 11≤Wk by decide)
theorem L3:NY (some ([a,b,c,d,e,f,g,h,i,j,k,l],S))=some (.tup [a,b,c,d,e,f,g,h,i,j,k,l],S):=JH (show 12≤Wk by decide)
theorem L6:NZ (some ([a,b,c,d,e,f,g,h,i,j,k,l],S))=some (.ref S.length,S++[.lst [a,b,c,d,e,f,g,h,i,j,k,l]]):=UA (show 12≤Wk by decide)
end
theorem Z3p:(true == false)=false:=rfl
theorem Z3q:(false == true)=false:=rfl
theorem Z3o:(true == true)=true:=rfl
theorem Z3r:(false == false)=true:=rfl
section
variable {a b:Option D} {l m:En} {d e:D} {ds es:List D} {n:Nat} {x y:Option (Fl×En×Sto)} {u v:Option (D×Sto)} {p q:Option (Bool×Sto)}
theorem Ex:(a :: l).set 0 b=b :: l:=rfl
theorem Ew:(a :: l).set (n+1) b=a :: l.set n b:=rfl
theorem EK:(a :: l)[0]? = some a:=rfl
theorem EI:(a :: l)[n+1]? = l[n]?:=List.getElem?_cons_succ
theorem EJ:(some a).getD none=a:=rfl
theorem EB:([]:List D).length=0:=rfl
theorem EA:(d :: ds).length=ds.length+1:=rfl
theorem ER:([]:List D)++ds=ds:=rfl
theorem EO:(d :: ds)++es=d :: (ds++es):=rfl
theorem EQ:ds++[]=ds:=W02 ds
theorem MG:JY n []=W0D n none:=rfl
theorem MF:JY (n+1) (d :: ds)=some d :: JY n ds:=by
 unfold JY
 simp
theorem EL {caps:List Nat}:JL (n+1) caps l=none :: JL n caps l:=rfl
theorem EN {j:Nat}{caps:List Nat}:JL 0 (j :: caps) l=(l[j]?.getD none) :: JL 0 caps l:=rfl
theorem EM:JL 0 [] l=[]:=rfl
theorem Ez:W0D 0 (none:Option D)=[]:=rfl
theorem Ey:W0D (n+1) (none:Option D)=none :: W0D n none:=rfl
theorem EE:(if True then x else y)=x:=if_pos trivial
theorem EF:(if False then x else y)=y:=if_neg id
theorem EC:(if True then u else v)=u:=if_pos trivial
theorem ED:(if False then u else v)=v:=if_neg id
theorem EG:(if True then p else q)=p:=if_pos trivial
theorem EH:(if False then p else q)=q:=if_neg id
end
end DL
namespace DL
open PySem L2
section
variable {a b c:M D} {ms:M (List D)} {en:En} {S:Sto} {x v:D} {ds:List D} {n:Nat}
def G5 (n:Nat):Option (D×Sto)->Option (D×Sto)
 |some (v,S)=>match S[n]? with|some (Ob.lst ds)=>if ds.length<Wk then some (.non,S.set n (Ob.lst (ds++[v]))) else none|_=>none
 |none=>none
def Z2c (b:M D)(en:En):Option (D×Sto)->Option (D×Sto)
 |some (.ref n,S)=>match S[n]? with|some (Ob.lst _)=>G5 n (b en S)|_=>(b en S).bind λ_=>none
 |some (_,S)=>(b en S).bind λ_=>none
 |none=>none
theorem Z0p:Dd a b en S=Z2c b en (a en S):=by
 unfold Dd
 cases a en S with
 |none=>rfl
 |some p=>
  obtain⟨d,S1⟩:=p
  cases d with
  |ref n=>
   show ((b en S1).bind λq=>match S1[n]?,q.2[n]? with|some (Ob.lst _),some (Ob.lst ds)=>if ds.length<Wk then some (D.non,q.2.set n (Ob.lst (ds++[q.1]))) else none|_,_=>none)=_
   cases h:S1[n]? with
   |none=>show _=(match S1[n]? with|some (Ob.lst _)=>G5 n (b en S1)|_=>(b en S1).bind λ_=>none);rw [h]
   |some ob=>
    show _=(match S1[n]? with|some (Ob.lst _)=>G5 n (b en S1)|_=>(b en S1).bind λ_=>none)
    rw [h]
    cases ob with
    |lst l=>
     dsimp only
     cases b en S1 with
     |none=>rfl
     |some q=>
      obtain⟨w,s⟩:=q
      rw [WZ]
      unfold G5
      dsimp only
      cases s[n]? with
      |none=>rfl
      |some o=>cases o<;>rfl
    |_=>rfl
  |_=>rfl
theorem Cy {ds:List D}:Z2c b en (some (.ref S.length,S++[Ob.lst ds]))=G5 S.length (b en (S++[Ob.lst ds])):=by
 show (match (S++[Ob.lst ds])[S.length]? with|some (Ob.lst _)=>G5 S.length (b en (S++[Ob.lst ds]))|_=>(b en (S++[Ob.lst ds])).bind λ_=>none)=_
 rw [WC]
theorem F4 (h:ds.length<Wk):G5 S.length (some (v,S++[Ob.lst ds]))=some (.non,S++[Ob.lst (ds++[v])]):=by
 show (match (S++[Ob.lst ds])[S.length]? with|some (Ob.lst ds')=>if ds'.length<Wk then some (D.non,(S++[Ob.lst ds]).set S.length (Ob.lst (ds'++[v]))) else none|_=>none)=_
 rw [WC]
 dsimp only
 rw [if_pos h]
 simp
def Lk:Option (D×Sto)->Option (D×Sto)
 |some (d,S)=>(HG d S).map λds=>(.tup ds,S)
 |none=>none
theorem CO:KD a en S=Lk (a en S):=by
 unfold KD
 cases a en S<;>rfl
theorem L0:Lk (some (.tup ds,S))=some (.tup ds,S):=rfl
theorem F3 (h:S[n]? = some (Ob.lst ds)):Lk (some (.ref n,S))=some (.tup ds,S):=by
 show ((match S[n]? with|some (Ob.lst ds)=>some ds|_=>none).map λds=>(D.tup ds,S))=_
 rw [h];rfl
theorem L1:Lk (some (.ref S.length,S++[Ob.lst ds]))=some (.tup ds,S++[Ob.lst ds]):=F3 (WC ..)
def Xd:Option (List D×Sto)->Option (D×Sto)
 |some (ds,S)=>some (.tup ds,S)
 |none=>none
theorem CQ:By ms en S=Xd (ms en S):=by
 unfold By
 cases ms en S<;>rfl
theorem EY:Xd (some (ds,S))=some (.tup ds,S):=rfl
theorem CY:Ig en S=some (.ref S.length,S++[Ob.dct []]):=rfl
def Lp:Option (D×Sto)->Option (D×Sto)
 |some (.tup ds,S)=>if ds.length≤Wk then (U3 ds).map λps=>(.ref S.length,S++[Ob.dct (UW [] ps)]) else none
 |_=>none
theorem LM:BB a en S=Lp (a en S):=by
 unfold BB
 cases a en S with
 |none=>rfl
 |some p=>obtain⟨d,s⟩:=p;cases d<;>rfl
theorem IU {ps:List (D×D)}(h:ds.length≤Wk)(e:U3 ds=some ps):Lp (some (.tup ds,S))=some (.ref S.length,S++[Ob.dct (UW [] ps)]):=by
 show (if ds.length≤Wk then (U3 ds).map λps=>(D.ref S.length,S++[Ob.dct (UW [] ps)]) else none)=_
 rw [if_pos h,e];rfl
def Io (C1 C2:String):Option (D×Sto)->Option (D×Sto)
 |some (d,S)=>(tyD d S).map λT=>(.bl (QG T C1||QG T C2),S)
 |none=>none
theorem Hd {C1 C2:String}:PH C1 C2 a en S=Io C1 C2 (a en S):=by
 unfold PH
 cases a en S<;>rfl
def KM (d:D):Option (D×Sto)->Option (ItD×Sto)
 |some (d',S)=>(Nt d S).bind λx=>(Nt d' S).map λy=>((Fj x.1 y.1,gdZ (x.2++y.2)),S)
 |none=>none
def Z2V (b:M D)(en:En):Option (D×Sto)->Option (ItD×Sto)
 |some (d,S)=>KM d (b en S)
 |none=>none
theorem Z02:Db a b en S=Z2V b en (a en S):=by
 unfold Db
 cases a en S with
 |none=>rfl
 |some p=>
  obtain⟨d,S1⟩:=p
  show ((b en S1).bind _)=KM d (b en S1)
  cases b en S1 with
  |none=>rfl
  |some q=>rfl
theorem OM {d:D}:Z2V b en (some (d,S))=KM d (b en S):=rfl
theorem EU {xs ys:List D}:KM (.tup xs) (some (.tup ys,S))=some ((Fj xs ys,.no),S):=rfl
theorem Z0B {xs ys:List D}{n m:Nat}(h1:S[n]? = some (Ob.lst xs))(h2:S[m]? = some (Ob.lst ys)):KM (.ref n) (some (.ref m,S))=some ((Fj xs ys,.zl [(n,xs),(m,ys)]),S):=by
 unfold KM Nt
 dsimp only
 rw [h1,h2]
 rfl
def Ap (f:Int->Int->Int)(d:D):Option (D×Sto)->Option (D×Sto)
 |some (d',S)=>match d,d' with | .int i,.int j=>some (.int (f i j),S)|_,_=>none
 |none=>none
def Z2X (f:Int->Int->Int)(b:M D)(en:En):Option (D×Sto)->Option (D×Sto)
 |some (d,S)=>Ap f d (b en S)
 |none=>none
theorem Z05 {f:Int->Int->Int}:Ic f a b en S=Z2X f b en (a en S):=by
 unfold Ic
 cases a en S with
 |none=>rfl
 |some p=>
  obtain⟨d,S1⟩:=p
  show ((b en S1).bind _)=Ap f d (b en S1)
  cases b en S1 with
  |none=>rfl
  |some q=>rfl
theorem OO {f:Int->Int->Int}{d:D}:Z2X f b en (some (d,S))=Ap f d (b en S):=rfl
theorem EX {f:Int->Int->Int}{i j:Int}:Ap f (.int i) (some (.int j,S))=some (.int (f i j),S):=rfl
def Ip:Option (D×Sto)->Option (D×Sto)
 |some (.int i,S)=>some (.int i,S)
 |some (.bl c,S)=>some (.int (if c then 1 else 0),S)
 |_=>none
theorem He:PJ a en S=Ip (a en S):=by
 unfold PJ
 cases a en S with
 |none=>rfl
 |some p=>obtain⟨d,s⟩:=p;cases d<;>rfl
theorem Ld {i:Int}:Ip (some (.int i,S))=some (.int i,S):=rfl
theorem Le {t:Bool}:Ip (some (.bl t,S))=some (.int (if t then 1 else 0),S):=rfl
def Z4o:Option (List D×Sto)->Option (List D×Sto)
 |some (ds,S)=>if Yg ds=true then some (Y6 ds,S) else none
 |none=>none
theorem Z08:Z2O ms en S=Z4o (ms en S):=by
 unfold Z2O
 cases ms en S<;>rfl
def Aq:Option (D×Sto)->Option (List D×Sto)
 |some (d,S)=>(E7 d S).bind λds=>if Yg ds=true then some (Y6 ds,S) else none
 |none=>none
theorem CT:KG a en S=Aq (a en S):=by
 unfold KG
 cases a en S<;>rfl
theorem Hs {d:D}(e:E7 d S=some ds)(h:Yg ds=true):Aq (some (d,S))=some (Y6 ds,S):=by
 show ((E7 d S).bind λds=>if Yg ds=true then some (Y6 ds,S) else none)=_
 rw [e,WZ,if_pos h]
theorem IG {kvs:List (D×D)}{k:D}(h1:a en S=some (.ref n,S))(h2:b en S=some (k,S))(h3:c en S=some (x,S))(hd:JT S n k=some kvs):KH a b c en S=some ((UH kvs k).getD x,S):=by
 unfold KH
 have hi:KO S n=true:=by
  unfold JT at hd
  unfold KO
  split at hd
  ·rfl
  ·rfl
  ·cases hd
 rw [h1,WZ,h2,WZ,h3,WZ]
 dsimp only
 rw [if_pos hi,hd]
 rfl
theorem Xt {kvs:List (D×D)}{k d:D}(hd:JT S n k=some kvs)(hg:UH kvs k=some d):gIx (.ref n) k S=some (d,S):=by
 have hl:∀xs,S[n]?≠some (Ob.lst xs):=λxs z=>by
  unfold JT at hd
  rw [z] at hd
  cases hd
 show (match S[n]? with|some (Ob.lst xs)=>(match k with | .int i=>(atI xs i).map λd=>(d,S)|_=>none)|_=>(JT S n k).bind λkvs=>(UH kvs k).map λd=>(d,S))=_
 split
 ·rename_i xs q
  exact absurd q (hl xs)
 ·rw [hd,WZ,hg];rfl
end
section
variable {a:M D} {en:En} {S:Sto} {ds:List D} {n:Nat}
def kSq:Option (D×Sto)->Option (List D×Sto)
 |some (d,S)=>(Z2B d S).map λds=>(ds,S)
 |none=>none
theorem Z3e:mSq a en S=kSq (a en S):=by
 unfold mSq
 cases a en S<;>rfl
theorem OP:kSq (some (.tup ds,S))=some (ds,S):=rfl
end
section
variable {ms:M (List D)} {en:En} {S:Sto}
def Z4n:Option (List D×Sto)->Option (D×Sto)
 |some (ds,S)=>(M1 ds).map λss=>(.int ss.sum,S)
 |none=>none
theorem Z07:Z2N ms en S=Z4n (ms en S):=by
 unfold Z2N
 cases ms en S<;>rfl
theorem BY:∀(ss:List Int),M1 (ss.map D.int)=some ss
 |[]=>rfl
 |b :: bs=>by
  show (M1 (bs.map D.int)).map _=_
  rw [BY bs];rfl
end
section
variable {a b c:M D} {ms:M (List D)} {en:En} {S:Sto} {x y v:D} {ds:List D} {n:Nat}
def Ll (x:D):Option (D×Sto)->Option (ItD×Sto)
 |some (y,S)=>match x,y with
  | .int i,.int j=>if -(2 ^ 62)≤i/\i<2 ^ 62/\-(2 ^ 62)≤j/\j<2 ^ 62 then some ((B8 i (j-i).toNat,.no),S) else none
  |_,_=>none
 |none=>none
def Xf (b:M D)(en:En):Option (D×Sto)->Option (ItD×Sto)
 |some (x,S)=>Ll x (b en S)
 |none=>none
theorem CU:Oy a b en S=Xf b en (a en S):=by
 unfold Oy
 cases a en S with
 |none=>rfl
 |some p=>
  obtain⟨d,S1⟩:=p
  show ((b en S1).bind _)=Ll d (b en S1)
  cases b en S1 with
  |none=>rfl
  |some q=>rfl
theorem Ce {d:D}:Xf b en (some (d,S))=Ll d (b en S):=rfl
def Z4p:Option (D×Sto)->Option (ItD×Sto)
 |some (.int j,S)=>if -(2 ^ 62)≤j/\j<2 ^ 62 then some ((Z2C j.toNat,.no),S) else none
 |_=>none
theorem Z0c:Z2P a en S=Z4p (a en S):=by
 unfold Z2P
 cases a en S with
 |none=>rfl
 |some p=>obtain⟨d,s⟩:=p;cases d<;>rfl
def MR (y:Str):Option (D×Sto)->Option (D×Sto)
 |some (.str z,S)=>some (.int (Txt.find y z),S)
 |_=>none
def Xl (b:M D)(en:En):Option (D×Sto)->Option (D×Sto)
 |some (.str y,S)=>MR y (b en S)
 |_=>none
theorem Hh:OA a b en S=Xl b en (a en S):=by
 unfold OA
 cases a en S with
 |none=>rfl
 |some p=>
  obtain⟨d,S1⟩:=p
  cases d with
  |str y=>
   show ((b en S1).bind _)=MR y (b en S1)
   cases b en S1 with
   |none=>rfl
   |some q=>obtain⟨d2,S2⟩:=q;cases d2<;>rfl
  |_=>rfl
theorem Cs {y:Str}:Xl b en (some (.str y,S))=MR y (b en S):=rfl
theorem Li {y z:Str}:MR y (some (.str z,S))=some (.int (Txt.find y z),S):=rfl
def Z29:Option (List D×Sto)->Option (D×Sto)
 |some (ds,S)=>if Ou ds=true then some (Ov ds,S) else none
 |none=>none
theorem CZ:Oz ms en S=Z29 (ms en S):=by
 unfold Oz
 cases ms en S<;>rfl
end
end DL
namespace DL
open PySem L2
theorem EVS:type_of% (Ua @Z09 (Ua @OT (Ua @MI (Ua @MK (Ua @MJ (Ua @Z3i (Ua @Z3m (Ua @Z3l (Ua @Z0o (Ua @X9 (Ua @Cw (Ua @Z3k (Ua @Z0l (Ua @Z0k (Ua @Z0d (Ua @OU (Ua @CV (Ua @Hi (Ua @Ct (Ua @Z0j (Ua @OZ (Ua @Z04 (Ua @Z2S (Ua @Z0n (Ua @Z3h (Ua @OW (Ua @OV (Ua @e_T (Ua @k_T (Ua @Z0t (Ua @Cz (Ua @Z0r (Ua @Z3g (Ua @Z0e (Ua @Xb (Ua @Z2T (Ua @OX (Ua @CN (Ua @Z03 (Ua @CM (Ua @EW (Ua @ON (Ua @EV (Ua @PZ (Ua @Z3j (Ua @Z2U (Ua @LN (Ua @X8 (Ua @X7 (Ua @X6 (Ua @Z0f (Ua @Hj (Ua @Cu (Ua @Lj (Ua @Hl (Ua @Cv (Ua @Z06 (Ua @Z0g (Ua @Z0a (Ua @ML (Ua @MM (Ua @Z0h (Ua @Cq (Ua @Z0i (Ua @Z0s (Ua @Z0q (Ua @Hc (Ua @BN (Ua @La (Ua @Lb (Ua @Z0b (Ua @Z0m (Ua @Lg (Ua @MN (Ua @Lh (Ua @Hk (Ua @MP (Ua @BS (Ua @Lf (Ua @MO (Ua @MQ (Ua @Ha (Ua @Cr (Ua @Hb (Ua @L9 (Ua @Z3f (Ua @OS (Ua @OR (Ua @OQ (Ua @CW (Ua @Cf (Ua @K5 (Ua @CS (Ua @CL (Ua @CJ (Ua @XH (Ua @XI (Ua @XN (Ua @XO (Ua @XR (Ua @XQ (Ua @XS (Ua @XF (Ua @XE (Ua @N0 (Ua @CK (Ua @LH (Ua @LG (Ua @LF (Ua @XM (Ua @XL (Ua @XJ (Ua @Hf (Ua @Hg (Ua @BP (Ua @BQ (Ua @BR (Ua @BO (Ua @Cd (Ua @Cp (Ua @Cc (Ua @Co (Ua @C9 (Ua @Cn (Ua @C8 (Ua @Cm (Ua @C7 (Ua @Cl (Ua @C6 (Ua @Ck (Ua @C5 (Ua @Cj (Ua @C4 (Ua @Ci (Ua @C0 (Ua @Ch (Ua @EZ (Ua @Cg (Ua @L5 (Ua @L8 (Ua @L4 (Ua @L7 (Ua @L3 (Ua @L6 (Ua @Z3p (Ua @Z3q (Ua @Z3o (Ua @Z3r (Ua @Ex (Ua @Ew (Ua @EK (Ua @EI (Ua @EJ (Ua @EB (Ua @EA (Ua @ER (Ua @EO (Ua @EQ (Ua @MG (Ua @MF (Ua @EL (Ua @EN (Ua @EM (Ua @Ez (Ua @Ey (Ua @EE (Ua @EF (Ua @EC (Ua @ED (Ua @EG (Ua @EH (Ua @Z0p (Ua @Cy (Ua @CO (Ua @L0 (Ua @L1 (Ua @CQ (Ua @EY (Ua @CY (Ua @LM (Ua @Hd (Ua @Z02 (Ua @OM (Ua @EU (Ua @Z05 (Ua @OO (Ua @EX (Ua @He (Ua @Ld (Ua @Le (Ua @Z08 (Ua @CT (Ua @Z3e (Ua @OP (Ua @Z07 (Ua @CU (Ua @Ce (Ua @Z0c (Ua @Hh (Ua @Cs (Ua @Li (Ua @CZ (Ua @Be (Ua @and_true (Ua @true_and (Ua @decide_true (Ua @decide_false (Ua @W07 (Ua @W1O (Ua @WL (Ua @Nat.add_zero (Ua @Nat.zero_add @Nat.sub_zero)))))))))))))))))))))))))))))))))))))))))))))))))))))))))))))))))))))))))))))))))))))))))))))))))))))))))))))))))))))))))))))))))))))))))))))))))))))))))))))))))))))))))))))))))))))))))))))))))))))))))))))))))))):=(Ua @Z09 (Ua @OT (Ua @MI (Ua @MK (Ua @MJ (Ua @Z3i (Ua @Z3m (Ua @Z3l (Ua @Z0o (Ua @X9 (Ua @Cw (Ua @Z3k (Ua @Z0l (Ua @Z0k (Ua @Z0d (Ua @OU (Ua @CV (Ua @Hi (Ua @Ct (Ua @Z0j (Ua @OZ (Ua @Z04 (Ua @Z2S (Ua @Z0n (Ua @Z3h (Ua @OW (Ua @OV (Ua @e_T (Ua @k_T (Ua @Z0t (Ua @Cz (Ua @Z0r (Ua @Z3g (Ua @Z0e (Ua @Xb (Ua @Z2T (Ua @OX (Ua @CN (Ua @Z03 (Ua @CM (Ua @EW (Ua @ON (Ua @EV (Ua @PZ (Ua @Z3j (Ua @Z2U (Ua @LN (Ua @X8 (Ua @X7 (Ua @X6 (Ua @Z0f (Ua @Hj (Ua @Cu (Ua @Lj (Ua @Hl (Ua @Cv (Ua @Z06 (Ua @Z0g (Ua @Z0a (Ua @ML (Ua @MM (Ua @Z0h (Ua @Cq (Ua @Z0i (Ua @Z0s (Ua @Z0q (Ua @Hc (Ua @BN (Ua @La (Ua @Lb (Ua @Z0b (Ua @Z0m (Ua @Lg (Ua @MN (Ua @Lh (Ua @Hk (Ua @MP (Ua @BS (Ua @Lf (Ua @MO (Ua @MQ (Ua @Ha (Ua @Cr (Ua @Hb (Ua @L9 (Ua @Z3f (Ua @OS (Ua @OR (Ua @OQ (Ua @CW (Ua @Cf (Ua @K5 (Ua @CS (Ua @CL (Ua @CJ (Ua @XH (Ua @XI (Ua @XN (Ua @XO (Ua @XR (Ua @XQ (Ua @XS (Ua @XF (Ua @XE (Ua @N0 (Ua @CK (Ua @LH (Ua @LG (Ua @LF (Ua @XM (Ua @XL (Ua @XJ (Ua @Hf (Ua @Hg (Ua @BP (Ua @BQ (Ua @BR (Ua @BO (Ua @Cd (Ua @Cp (Ua @Cc (Ua @Co (Ua @C9 (Ua @Cn (Ua @C8 (Ua @Cm (Ua @C7 (Ua @Cl (Ua @C6 (Ua @Ck (Ua @C5 (Ua @Cj (Ua @C4 (Ua @Ci (Ua @C0 (Ua @Ch (Ua @EZ (Ua @Cg (Ua @L5 (Ua @L8 (Ua @L4 (Ua @L7 (Ua @L3 (Ua @L6 (Ua @Z3p (Ua @Z3q (Ua @Z3o (Ua @Z3r (Ua @Ex (Ua @Ew (Ua @EK (Ua @EI (Ua @EJ (Ua @EB (Ua @EA (Ua @ER (Ua @EO (Ua @EQ (Ua @MG (Ua @MF (Ua @EL (Ua @EN (Ua @EM (Ua @Ez (Ua @Ey (Ua @EE (Ua @EF (Ua @EC (Ua @ED (Ua @EG (Ua @EH (Ua @Z0p (Ua @Cy (Ua @CO (Ua @L0 (Ua @L1 (Ua @CQ (Ua @EY (Ua @CY (Ua @LM (Ua @Hd (Ua @Z02 (Ua @OM (Ua @EU (Ua @Z05 (Ua @OO (Ua @EX (Ua @He (Ua @Ld (Ua @Le (Ua @Z08 (Ua @CT (Ua @Z3e (Ua @OP (Ua @Z07 (Ua @CU (Ua @Ce (Ua @Z0c (Ua @Hh (Ua @Cs (Ua @Li (Ua @CZ (Ua @Be (Ua @and_true (Ua @true_and (Ua @decide_true (Ua @decide_false (Ua @W07 (Ua @W1O (Ua @WL (Ua @Nat.add_zero (Ua @Nat.zero_add @Nat.sub_zero))))))))))))))))))))))))))))))))))))))))))))))))))))))))))))))))))))))))))))))))))))))))))))))))))))))))))))))))))))))))))))))))))))))))))))))))))))))))))))))))))))))))))))))))))))))))))))))))))))))))))))))))))))
end DL
namespace DL
open PySem L2
section
variable {α:Type} {ds0:List D} {gd:Gd} {cap:En} {g:D->En->Option En} {c:M Bool} {m:M D} {S:Sto}
theorem JD (xs:List α)(enc:α->D)(p:α->Bool)(f:α->D)(hg:Kg gd ds0 S)(hl:xs.length≤Wk)(h:∀a∈xs,∃en,g (enc a) cap=some en/\c en S=some (p a,S)/\(p a=true->m en S=some (f a,S))) :
  ZW ds0 gd cap g c m (xs.map enc) [] S=some ((xs.filter p).map f,S):=by
 have key:∀(l:List α) (acc:List D),acc.length+l.length≤Wk->(∀a∈l,∃en,g (enc a) cap=some en/\c en S=some (p a,S)/\(p a=true->m en S=some (f a,S)))->
   ZW ds0 gd cap g c m (l.map enc) acc S=some (acc++(l.filter p).map f,S):=by
  intro l
  induction l with
  |nil=>
   intro acc hl _
   unfold ZW
   simp only [Wc]
   rw [if_pos ⟨hg,by simpa using hl⟩]
   simp
  |cons a l ih=>
   intro acc hl h
   obtain⟨en,h1,h2,h3⟩:=h a Ws
   rw [WX] at hl
   rw [W1]
   unfold ZW
   rw [if_pos ⟨hg,by omega⟩,h1,WZ,h2,WZ]
   dsimp only
   cases hp:p a with
   |true=>
    rw [if_pos rfl,h3 hp,WZ,ih (acc++[f a]) (by rw [WN,W0C];omega) λd' hd'=>h d' (Wz _ hd')]
    rw [W0M hp,W1,WS]
    rfl
   |false=>
    rw [if_neg Wu,ih acc (by omega) λd' hd'=>h d' (Wz _ hd')]
    rw [W0p (by simp [hp])]
 simpa using key xs [] (by simpa using hl) h
theorem Ye (xs:List α)(enc:α->D)(f:α->D)(hg:Kg gd ds0 S)(hl:xs.length≤Wk)(h:∀a∈xs,∃en,g (enc a) cap=some en/\m en S=some (f a,S)) :
  ZW ds0 gd cap g YO m (xs.map enc) [] S=some (xs.map f,S):=by
 have:=JD (c:=YO) xs enc (λ_=>true) f hg hl (λa ha=>by
  obtain⟨en,h1,h2⟩:=h a ha
  exact⟨en,h1,rfl,λ_=>h2⟩)
 rw [List.filter_eq_self.mpr λ_ _=>rfl] at this
 exact this
theorem ZG {ds:List D}{S:Sto}:Kg .no ds S:=trivial
theorem U2 (n:Nat):B8 0 n=(W7 n).map λi=>D.int (i:Nat):=by
 unfold B8
 simp
theorem Jn {body:MS}(xs:List α)(enc:α->D)(P:List α->En->Sto->Prop)(h:∀pre a post en S,xs=pre++a :: post->P pre en S->∃en1,g (enc a) en=some en1/\∃en2 S2,body en1 S=some (.nx,en2,S2)/\P (pre++[a]) en2 S2)
  (hg:∀pre en S,P pre en S->Kg gd ds0 S) {en:En} {S:Sto} (h0:P [] en S):∃en' S',Qd ds0 gd g body (xs.map enc) en S=some (.nx,en',S')/\P xs en' S':=by
 have key:∀(post pre:List α) en S,xs=pre++post->P pre en S->∃en' S',Qd ds0 gd g body (post.map enc) en S=some (.nx,en',S')/\P xs en' S':=by
  intro post
  induction post with
  |nil=>
   intro pre en S e hp
   unfold Qd
   simp only [Wc]
   rw [if_pos (hg pre en S hp)]
   rw [W02] at e
   exact⟨en,S,rfl,e ▸ hp⟩
  |cons a post ih=>
   intro pre en S e hp
   obtain⟨en1,h1,en2,S2,h2,h3⟩:=h pre a post en S e hp
   rw [W1]
   unfold Qd
   rw [if_pos (hg pre en S hp),h1,WZ,h2,WZ]
   exact ih (pre++[a]) en2 S2 (by rw [e,WS];rfl) h3
 exact key xs [] en S rfl h0
end
theorem M8 (l:List Nat):cs ⟨l.toArray⟩=l:=by simp [cs]
theorem Ot (x:Str):(⟨(cs x).toArray⟩:Str)=x:=by cases x;simp [cs]
theorem HR {x y:Str}(h:cs x=cs y):x=y:=by rw [←Ot x,←Ot y,h]
theorem OB (a b:Nat):([a] < [b])↔a<b:=by
 constructor
 ·intro h
  cases h with
  |rel h=>exact h
  |cons h=>cases h
 ·exact λh=>.rel h
end DL
namespace K04
open PySem PySem.Spec PyProof.Rows L2 DL
def top (i:Nat):Stmt:=PySem.Challenge.pw_twinshelves_k04_whole_put_together.main.body.getD i (.Pass ⟨0,0,0,0⟩)
abbrev ZR:Stmt:=top 14
abbrev Y3:Stmt:=top 15
abbrev Zh:Stmt:=top 5
abbrev YC:Stmt:=top 6
abbrev Zd:Stmt:=top 8
abbrev Yj:Stmt:=top 4
abbrev Yy:Stmt:=top 9
abbrev Yr:Stmt:=top 10
abbrev Y2:Stmt:=top 12
abbrev Yi:Stmt:=top 13
abbrev ZA:Stmt:=top 16
abbrev Zf:Stmt:=top 17
abbrev Yd:Stmt:=top 18
abbrev YX:Stmt:=top 7
abbrev Yc:Stmt:=top 19
abbrev YY:Stmt:=top 20
abbrev ZB:Stmt:=top 21
abbrev Zt:Stmt:=top 22
abbrev Zz:Stmt:=top 23
abbrev ZQ:Stmt:=top 24
abbrev Qu:Stmt:=top 26
abbrev Qb:Stmt:=top 27
abbrev YS:Stmt:=top 28
abbrev Qg:Stmt:=top 30
abbrev YZ:Stmt:=top 33
abbrev Q0:Stmt:=top 31
abbrev Qf:Stmt:=top 29
abbrev Yk:Stmt:=top 32
abbrev Qt:Stmt:=top 34
abbrev U1:Stmt:=top 35
abbrev YD:Stmt:=top 36
abbrev YE:Stmt:=top 37
abbrev G2:Stmt:=top 38
theorem nd0:(["mark", "known"]:List Str).Nodup:=by decide +kernel
theorem nd1:(["heard", "mark"]:List Str).Nodup:=by decide +kernel
theorem nd2:(["known", "other"]:List Str).Nodup:=by decide +kernel
theorem nd3:(["text", "least", "greatest"]:List Str).Nodup:=by decide +kernel
theorem nd4:(["sign", "least", "greatest"]:List Str).Nodup:=by decide +kernel
theorem nd5:(["thing"]:List Str).Nodup:=by decide +kernel
theorem nd6:(["thing", "length"]:List Str).Nodup:=by decide +kernel
theorem nd7:(["row"]:List Str).Nodup:=by decide +kernel
theorem nd8:(["before", "behind"]:List Str).Nodup:=by decide +kernel
theorem nd9:(["mark"]:List Str).Nodup:=by decide +kernel
theorem Z2M:(["thing", "known", "marks"]:List Str).Nodup:=by decide +kernel
theorem Z0M:(["pair"]:List Str).Nodup:=by decide +kernel
theorem Z0L:(["thing", "known"]:List Str).Nodup:=by decide +kernel
theorem Z21:(["known", "other", "counts", "mark"]:List Str).Nodup:=by decide +kernel
theorem Z4k:(["pairs", "other_pairs", "other_known"]:List Str).Nodup:=by decide +kernel
theorem Z4j:(["pair", "other_pairs", "other_known"]:List Str).Nodup:=by decide +kernel
theorem Z20:(["pairs", "known", "other_pairs", "other_known", "mine", "others"]:List Str).Nodup:=by decide +kernel
theorem Z1Z:(["one", "other", "names", "texts"]:List Str).Nodup:=by decide +kernel
theorem Z4i:(["_law_script", "_law_k"]:List Str).Nodup:=by decide +kernel
theorem Z4h:(["_law_cell_here", "_law_prime", "_law_many"]:List Str).Nodup:=by decide +kernel
theorem Oq:(["_law_cell_here", "_law_letters", "_law_many"]:List Str).Nodup:=by decide +kernel
theorem Z4g:(["_law_k", "_law_cell_here", "_law_letters"]:List Str).Nodup:=by decide +kernel
theorem Z4f:(["_law_found", "_law_due"]:List Str).Nodup:=by decide +kernel
theorem Z2L:(["_law_one", "_law_other"]:List Str).Nodup:=by decide +kernel
theorem Z4e:(["_law_cell_here"]:List Str).Nodup:=by decide +kernel
theorem Op:(["_law_cell_here", "_law_which_here", "_law_found", "_law_house", "_law_many"]:List Str).Nodup:=by decide +kernel
theorem Oo:(["_law_cell_here", "_law_signs", "_law_many"]:List Str).Nodup:=by decide +kernel
theorem Z4d:(["_law_k", "_law_cell_here", "_law_signs"]:List Str).Nodup:=by decide +kernel
theorem SU:(["_law_cell_here", "_law_known_here", "_law_kind", "_law_seed", "_law_found", "_law_k", "_law_house", "_law_most", "_law_mark", "_law_words"]:List Str).Nodup:=by decide +kernel
theorem Z4c:(["_law_mark", "_law_found"]:List Str).Nodup:=by decide +kernel
theorem Z2K:(["_law_cell_here", "_law_which_here", "_law_first", "_law_seed", "_law_known_here"]:List Str).Nodup:=by decide +kernel
theorem Z4b:(["_law_mark", "_law_known_here"]:List Str).Nodup:=by decide +kernel
theorem Z2J:(["_law_house", "_law_count", "_law_mark"]:List Str).Nodup:=by decide +kernel
theorem Z0K:(["_law_mine", "_law_my_known", "_law_yours", "_law_your_known", "_law_found"]:List Str).Nodup:=by decide +kernel
theorem Z4a:(["_law_pair", "_law_yours"]:List Str).Nodup:=by decide +kernel
theorem Z49:(["_law_pair", "_law_your_known"]:List Str).Nodup:=by decide +kernel
theorem Z48:(["_law_pair", "_law_my_known"]:List Str).Nodup:=by decide +kernel
theorem On:(["_law_one", "_law_other", "_law_known_here", "_law_house", "_law_many", "_law_names"]:List Str).Nodup:=by decide +kernel
theorem Z2I:(["_law_place", "_law_count", "_law_house"]:List Str).Nodup:=by decide +kernel
theorem A9:(["_law_script", "_law_k", "_law_cell_here", "_law_which_here", "_law_first", "_law_seed", "_law_one", "_law_other", "_law_due"]:List Str).Nodup:=by decide +kernel
theorem Q8:WH "all" = some (.builtin "all"):=by decide +kernel
theorem Nh:WH "any" = some (.builtin "any"):=by decide +kernel
theorem QI:WH "bool" = some (.type "bool"):=by decide +kernel
theorem KY:WH "dict" = some (.type "dict"):=by decide +kernel
theorem TV:WH "int" = some (.type "int"):=by decide +kernel
theorem Zc:WH "isinstance" = some (.builtin "isinstance"):=by decide +kernel
theorem YL:WH "len" = some (.builtin "len"):=by decide +kernel
theorem Ng:WH "max" = some (.builtin "max"):=by decide +kernel
theorem F6:WH "set" = some (.type "set"):=by decide +kernel
theorem Qx:WH "sorted" = some (.builtin "sorted"):=by decide +kernel
theorem TU:WH "str" = some (.type "str"):=by decide +kernel
theorem ZT:WH "tuple" = some (.type "tuple"):=by decide +kernel
theorem Nf:WH "zip" = some (.type "zip"):=by decide +kernel
structure Txt (K:Wd) (mg:Str->Option Value):Prop where
 n_all:mg "all" = none
 n_any:mg "any" = none
 n_bool:mg "bool" = none
 n_dict:mg "dict" = none
 n_int:mg "int" = none
 n_isinstance:mg "isinstance" = none
 n_len:mg "len" = none
 n_max:mg "max" = none
 n_range:mg "range" = none
 n_set:mg "set" = none
 n_sorted:mg "sorted" = none
 n_str:mg "str" = none
 n_tuple:mg "tuple" = none
 n_zip:mg "zip" = none
 c_HOUSES:∃t,mg "HOUSES" = some (.int 6 t)
 c_LONGEST_NAME:∃t,mg "LONGEST_NAME" = some (.int 6 t)
 c_LONGEST_TEXT:∃t,mg "LONGEST_TEXT" = some (.int 60 t)
def Ug:M D:=(UY (mOp gEq (mOp gIx (Z6 0) (Zg (D.int (0)))) (mOp gIx (Z6 1) (Zg (D.int (0))))) (mOp gGe (mOp gIx (Z6 0) (Zg (D.int (1)))) (mOp gIx (Z6 1) (Zg (D.int (1))))))
abbrev NL:MS:=(Qc (Df (YG (Qr (Z6 1)) 1 [0] (gN 0) YO Ug)))
def ZJ:List D->Sto->Option (D×Sto):=QM 2 2 NL
def QY:M D:=(Zj ZJ (Z3 (Z6 0) (Z3 (Z6 1) ZV)))
abbrev NN:MS:=(Qc (Re (YG (Qr (Z6 1)) 1 [0] (gN 0) YO QY)))
def ZK:List D->Sto->Option (D×Sto):=QM 2 2 NN
def Q5:M D:=(UU gLe gLe (Z6 1) (Z6 0) (Z6 2))
abbrev JQ:MS:=(Qc (Re (YG (Qr (Z6 0)) 1 [1,2] (gN 0) YO Q5)))
def Zx:List D->Sto->Option (D×Sto):=QM 3 3 JQ
abbrev Pv:MS:=(Qc (UY (BA "str" (Z6 0)) (UY (UU gLe gLe (Zg (D.int (1))) (MD (Z6 0)) (Zg (D.int 6))) (Zj Zx (Z3 (Z6 0) (Z3 (Zg (D.str (Wr "a"))) (Z3 (Zg (D.str (Wr "z"))) ZV)))))))
def Ys:List D->Sto->Option (D×Sto):=QM 1 1 Pv
abbrev JG:MS:=(Qc (UY (BA "tuple" (Z6 0)) (mOp gEq (MD (Z6 0)) (Z6 1))))
def Zi:List D->Sto->Option (D×Sto):=QM 2 2 JG
abbrev Kz:MS:=(Qc (UY (BA "int" (Z6 0)) (Dp (BA "bool" (Z6 0)))))
def YR:List D->Sto->Option (D×Sto):=QM 1 1 Kz
abbrev KB:MS:=(Qc (UY (Zj YR (Z3 (Z6 0) ZV)) (UU gLe gLt (Zg (D.int (0))) (Z6 0) (Zg (D.int 6)))))
def QJ:List D->Sto->Option (D×Sto):=QM 1 1 KB
abbrev Pw:MS:=(Qc (UY (Zj Zi (Z3 (Z6 0) (Z3 (Zg (D.int (2))) ZV))) (UY (Zj QJ (Z3 (mOp gIx (Z6 0) (Zg (D.int (0)))) ZV)) (UY (Zj YR (Z3 (mOp gIx (Z6 0) (Zg (D.int (1)))) ZV)) (mOp gGe (mOp gIx (Z6 0) (Zg (D.int (1)))) (Zg (D.int (1))))))))
def YN:List D->Sto->Option (D×Sto):=QM 1 1 Pw
def Uh:M D:=(mOp gLt (Z6 0) (Z6 1))
abbrev NM:MS:=(Qc (Re (YG (Db (Z6 0) (mSl (Z6 0) (PC (Zg (D.int (1)))) NQ)) 2 [] (gT 2 (YA (gN 0) (YA (gN 1) TK))) YO Uh)))
def Yx:List D->Sto->Option (D×Sto):=QM 1 1 NM
def Qw:M D:=(Zj YN (Z3 (Z6 0) ZV))
def Jq:M D:=(mOp gIx (Z6 0) (Zg (D.int (0))))
abbrev KA:MS:=(YF (T5 (mOr (Gf (Tz (BA "tuple" (Z6 0)))) (Gf (Tz (Re (YG (Qr (Z6 0)) 1 [] (gN 0) YO Qw))))) (Qc (Zg (D.bl false))) mNx) (Qc (Zj Yx (Z3 (Ji (YG (Qr (Z6 0)) 1 [] (gN 0) YO Jq)) ZV))))
def YB:List D->Sto->Option (D×Sto):=QM 1 1 KA
abbrev T3:MS:=(Qc (UY (Zj Zi (Z3 (Z6 0) (Z3 (Zg (D.int (2))) ZV))) (Zj YN (Z3 (mOp gIx (Z6 0) (Zg (D.int (0)))) ZV))))
def Yh:List D->Sto->Option (D×Sto):=QM 1 1 T3
def Y5:M D:=(Zj Yh (Z3 (Z6 0) ZV))
def Yn:M D:=(mOp gIx (Z6 0) (Zg (D.int (0))))
abbrev U7:MS:=(YF (T5 (mOr (Gf (Tz (BA "tuple" (Z6 0)))) (Gf (Tz (Re (YG (Qr (Z6 0)) 1 [] (gN 0) YO Y5))))) (Qc (Zg (D.bl false))) mNx) (YF (Qv (Ji (YG (Qr (Z6 0)) 1 [] (gN 0) YO Yn)) (gN 2)) (Qc (UY (Zj Yx (Z3 (Z6 2) ZV)) (Zj ZK (Z3 (Z6 1) (Z3 (Z6 2) ZV)))))))
def Zo:List D->Sto->Option (D×Sto):=QM 3 2 U7
def J0:M D:=(Zj Ys (Z3 (mOp gIx (Z6 0) (Zg (D.int (1)))) ZV))
abbrev NP:MS:=(Qc (UY (Zj Zo (Z3 (Z6 0) (Z3 (Z6 1) ZV))) (Re (YG (Qr (Z6 0)) 1 [] (gN 0) YO J0))))
def Qq:List D->Sto->Option (D×Sto):=QM 2 2 NP
abbrev Pu:MS:=(Qc (UY (BA "str" (Z6 0)) (UY (mOp gLe (MD (Z6 0)) (Zg (D.int 60))) (Zj Zx (Z3 (Z6 0) (Z3 (Zg (D.str (Wr " "))) (Z3 (Zg (D.str (Wr "~"))) ZV)))))))
def Q9:List D->Sto->Option (D×Sto):=QM 1 1 Pu
def QZ:M D:=(Zj Q9 (Z3 (mOp gIx (Z6 0) (Zg (D.int (1)))) ZV))
abbrev NO:MS:=(Qc (UY (Zj Zo (Z3 (Z6 0) (Z3 (Z6 1) ZV))) (Re (YG (Qr (Z6 0)) 1 [] (gN 0) YO QZ))))
def Qp:List D->Sto->Option (D×Sto):=QM 2 2 NO
abbrev Px:MS:=(YF (T5 (Gf (Tz (Zj Zi (Z3 (Z6 0) (Z3 (Zg (D.int (5))) ZV))))) (Qc (Zg (D.bl false))) mNx) (YF (Qv (mOp gIx (Z6 0) (Zg (D.int (2)))) (gN 1)) (YF (T5 (mOr (Gf (Tz (Zj YN (Z3 (mOp gIx (Z6 0) (Zg (D.int (0)))) ZV)))) (mOr (Gf (Tz (Zj Ys (Z3 (mOp gIx (Z6 0) (Zg (D.int (1)))) ZV)))) (Gf (Tz (Zj YB (Z3 (Z6 1) ZV)))))) (Qc (Zg (D.bl false))) mNx) (Qc (UY (Zj ZJ (Z3 (mOp gIx (Z6 0) (Zg (D.int (0)))) (Z3 (Z6 1) ZV))) (UY (Zj Qq (Z3 (mOp gIx (Z6 0) (Zg (D.int (3)))) (Z3 (Z6 1) ZV))) (Zj Qp (Z3 (mOp gIx (Z6 0) (Zg (D.int (4)))) (Z3 (Z6 1) ZV)))))))))
def Qo:List D->Sto->Option (D×Sto):=QM 2 1 Px
def YM:MS:=(QS (Ic CH (mOp gIx (Z6 3) (Zg (D.int (1)))) (KH (Z6 2) (mOp gIx (Z6 3) (Zg (D.int (0)))) (mOp gIx (Z6 3) (Zg (D.int (1)))))) (Z6 2) (mOp gIx (Z6 3) (Zg (D.int (0)))))
abbrev T4:MS:=(YF (Qv (BB (Z6 0)) (gN 2)) (YF (Ak (Qr (Z6 1)) (gN 3) YM) (Qc (By (Bz (Z6 2))))))
def ZZ:List D->Sto->Option (D×Sto):=QM 4 2 T4
def YK:M Bool:=(mOr (mT (mOp gIn (Z6 0) (Z6 1))) (Gf (Tz (Zj ZJ (Z3 (mOp gIx (Z6 0) (Zg (D.int (0)))) (Z3 (Z6 2) ZV))))))
def YJ:M D:=(Z6 0)
abbrev T1:MS:=(Qc (Ji (YG (Qr (Z6 0)) 1 [1,2] (gN 0) YK YJ)))
def ZC:List D->Sto->Option (D×Sto):=QM 3 3 T1
abbrev T0:MS:=(YF (Qv (Zj ZC (Z3 (Z6 0) (Z3 (Z6 2) (Z3 (Z6 3) ZV)))) (gN 4)) (YF (Qv (Zj ZC (Z3 (Z6 2) (Z3 (Z6 0) (Z3 (Z6 1) ZV)))) (gN 5)) (Qc (By (TB (mOp Jb (Z6 4) (Z6 5)))))))
def Zv:List D->Sto->Option (D×Sto):=QM 6 4 T0
abbrev G3:MS:=(YF (Qv (Zj Zv (Z3 (mOp gIx (Z6 0) (Zg (D.int (3)))) (Z3 (mOp gIx (Z6 0) (Zg (D.int (2)))) (Z3 (mOp gIx (Z6 1) (Zg (D.int (3)))) (Z3 (mOp gIx (Z6 1) (Zg (D.int (2)))) ZV))))) (gN 2)) (YF (Qv (Zj Zv (Z3 (mOp gIx (Z6 0) (Zg (D.int (4)))) (Z3 (mOp gIx (Z6 0) (Zg (D.int (2)))) (Z3 (mOp gIx (Z6 1) (Zg (D.int (4)))) (Z3 (mOp gIx (Z6 1) (Zg (D.int (2)))) ZV))))) (gN 3)) (Qc (KF (Z3 (mOp gIx (Z6 0) (Zg (D.int (0)))) (Z3 (mOp gIx (Z6 0) (Zg (D.int (1)))) (Z3 (Zj ZZ (Z3 (mOp gIx (Z6 0) (Zg (D.int (2)))) (Z3 (mOp gIx (Z6 1) (Zg (D.int (2)))) ZV))) (Z3 (Z6 2) (Z3 (Z6 3) ZV)))))))))
def Zs:List D->Sto->Option (D×Sto):=QM 4 2 G3
abbrev Aj:MS:=(YF (T5 (mT (mOp gLt (Z6 1) (MD (Z6 0)))) (Qc (mOp gIx (Z6 0) (Z6 1))) mNx) (Qc (Zg (D.int (0)))))
def Yu:List D->Sto->Option (D×Sto):=QM 2 2 Aj
abbrev Ib:MS:=(Qc (mOp Fp (mOp Fp (mOp M5 (Z6 0) (Zg (D.int (48271)))) (Z6 1)) (Z6 2)))
def ZU:List D->Sto->Option (D×Sto):=QM 3 3 Ib
def UC:M D:=(mOp gIx (Z6 2) (Zj ZU (Z3 (mOp Jb (Z6 1) (mOp M5 (Zg (D.int (7))) (Z6 0))) (Z3 (Zg (D.int (9967))) (Z3 (MD (Z6 2)) ZV)))))
abbrev Ag:MS:=(YF (Qv (Zg (D.str (Wr "abcdefghijklmnopqrstuvwxyz"))) (gN 1)) (YF (Qv (mOp Jb (Zg (D.int (1))) (Zj ZU (Z3 (Z6 0) (Z3 (Zg (D.int (9973))) (Z3 (Zg (D.int (6))) ZV))))) (gN 2)) (YF (T5 (mT (mOp gEq (mOp Fp (Z6 0) (Zg (D.int (3)))) (Zg (D.int (0))))) (YF (Qv (Zg (D.str (Wr "ab"))) (gN 1)) (Qv (mOp Jb (Zg (D.int (1))) (mOp Fp (Z6 2) (Zg (D.int (2))))) (gN 2))) mNx) (Qc (NR (Zg (D.str (Wr ""))) (YG (G4 (Z6 2)) 1 [0,1] (gN 0) YO UC))))))
def Qi:List D->Sto->Option (D×Sto):=QM 3 1 Ag
abbrev QR (Fr:List D->Sto->Option (D×Sto)):MS:=(YF (T5 (Tz (BA "tuple" (Z6 1))) (YF (T5 (mOr (Gf (Tz (BA "tuple" (Z6 0)))) (mT (mOp gNe (MD (Z6 0)) (MD (Z6 1))))) (Qc (Zg (D.bl false))) mNx) (Qc (Re (YG (Db (Z6 0) (Z6 1)) 2 [] (gT 2 (YA (gN 0) (YA (gN 1) TK))) YO (Zj Fr (Z3 (Z6 0) (Z3 (Z6 1) ZV))))))) mNx) (YF (T5 (mT (mOp gIs (Z6 1) (Zg D.non))) (Qc (mOp gIs (Z6 0) (Zg D.non))) mNx) (YF (T5 (mOr (Tz (BA "bool" (Z6 1))) (Tz (BA "bool" (Z6 0)))) (Qc (UY (BA "bool" (Z6 1)) (UY (BA "bool" (Z6 0)) (mOp gEq (Z6 0) (Z6 1))))) mNx) (Qc (UY (PH "int" "str" (Z6 0)) (mOp gEq (Z6 0) (Z6 1)))))))
def Yl:Nat->List D->Sto->Option (D×Sto)
 |0=>λ_ _=>none
 |k+1=>QM 2 2 (QR (Yl k))
abbrev Py:MS:=(Qc (KF (Z3 (Zj ZU (Z3 (Z6 0) (Z3 (Zg (D.int (9871))) (Z3 (Zg (D.int (6))) ZV)))) (Z3 (mOp Jb (mOp Jb (Zg (D.int (1))) (Zj ZU (Z3 (Z6 0) (Z3 (Zg (D.int (9859))) (Z3 (Zg (D.int (4))) ZV))))) (mOp M5 (Zg (D.int (9))) (mOp Fp (Z6 0) (Zg (D.int (2)))))) ZV))))
def Ju:List D->Sto->Option (D×Sto):=QM 1 1 Py
def Yw:MS:=(YF (Qv (Zj ZU (Z3 (mOp Jb (Z6 0) (mOp M5 (Zg (D.int (31))) (Z6 3))) (Z3 (Zg (D.int (9907))) (Z3 (Zg (D.int (3))) ZV)))) (gN 4)) (YF (T5 (mT (mOp gEq (Z6 3) (mOp gIx (Z6 1) (Zg (D.int (0)))))) (Qv (mOp Jb (Z6 4) (mOp gIx (Z6 1) (Zg (D.int (1))))) (gN 4)) mNx) (T5 (mT (mOp gGt (Z6 4) (Zg (D.int (0))))) (KI (Dd (Z6 2) (KF (Z3 (Z6 3) (Z3 (Z6 4) ZV))))) mNx)))
abbrev Pz:MS:=(YF (Qv (Dc ZV) (gN 2)) (YF (Ak (G4 (Zg (D.int (6)))) (gN 3) Yw) (Qc (KD (Z6 2)))))
def Jv:List D->Sto->Option (D×Sto):=QM 5 2 Pz
def JC:M D:=(mOp gIx (Z6 2) (Zj ZU (Z3 (mOp Jb (Z6 1) (mOp M5 (Zg (D.int (7))) (Z6 0))) (Z3 (Zg (D.int (9923))) (Z3 (MD (Z6 2)) ZV)))))
abbrev Af : MS := (YF (Qv (Zg (D.str (Wr " !\"#$&'()*+,-./0123456789:;<=>?\x40ABCDEFGHIJKLMNOPQRSTUVWXYZ[\\]^_`abcdefghijklmnopqrstuvwxyz{|}~"))) (gN 1)) (YF (Qv (Zj ZU (Z3 (Z6 0) (Z3 (Zg (D.int (9949))) (Z3 (Zg (D.int (5))) ZV)))) (gN 2)) (YF (T5 (mT (mOp gEq (Zj ZU (Z3 (Z6 0) (Z3 (Zg (D.int (9941))) (Z3 (Zg (D.int (9))) ZV)))) (Zg (D.int (0))))) (Qv (Zg (D.int (60))) (gN 2)) mNx) (YF (T5 (mT (mOp gEq (Zj ZU (Z3 (Z6 0) (Z3 (Zg (D.int (9941))) (Z3 (Zg (D.int (9))) ZV)))) (Zg (D.int (1))))) (Qv (Zj ZU (Z3 (Z6 0) (Z3 (Zg (D.int (9931))) (Z3 (Zg (D.int (61))) ZV)))) (gN 2)) mNx) (YF (T5 (mT (mOp gEq (mOp Fp (Z6 0) (Zg (D.int (4)))) (Zg (D.int (0))))) (Qc (mOp gIx (KF (Z3 (Zg (D.str (Wr ""))) (Z3 (Zg (D.str (Wr "a"))) (Z3 (Zg (D.str (Wr "hi;"))) ZV)))) (Zj ZU (Z3 (Z6 0) (Z3 (Zg (D.int (9929))) (Z3 (Zg (D.int (3))) ZV)))))) mNx) (Qc (NR (Zg (D.str (Wr ""))) (YG (G4 (Z6 2)) 1 [0, 1] (gN 0) YO JC))))))))
def Yt:List D->Sto->Option (D×Sto):=QM 3 1 Af
def Yb:MS:=(YF (Qv (mOp gIx (Z6 1) (Zj ZU (Z3 (mOp Jb (Z6 0) (mOp M5 (Zg (D.int (7))) (Z6 5))) (Z3 (Zg (D.int (9887))) (Z3 (MD (Z6 1)) ZV))))) (gT 2 (YA (gN 6) (YA (gN 7) TK)))) (YF (Qv (KF (Z3 (Z6 6) (Z3 (mOp Jb (Zg (D.int (1))) (Zj ZU (Z3 (mOp Jb (Z6 0) (mOp M5 (Zg (D.int (11))) (Z6 5))) (Z3 (Zg (D.int (9883))) (Z3 (Z6 7) ZV))))) ZV))) (gN 8)) (YF (Qv (mOp Jb (mOp Jb (Z6 3) (mOp M5 (Zg (D.int (97))) (mOp gIx (Z6 8) (Zg (D.int (0)))))) (mOp M5 (Zg (D.int (13))) (mOp gIx (Z6 8) (Zg (D.int (1)))))) (gN 9)) (YF (QS (Zj Qi (Z3 (Z6 9) ZV)) (Z6 4) (Z6 8)) (T5 (mT (mOp gEq (Z6 2) (Zg (D.int (1))))) (QS (Zj Yt (Z3 (Z6 9) ZV)) (Z6 4) (Z6 8)) mNx)))))
def Jr:M D:=(KF (Z3 (Z6 0) (Z3 (mOp gIx (Z6 1) (Z6 0)) ZV)))
abbrev KC:MS:=(YF (Qv Ig (gN 4)) (YF (Ak (G4 (Zj ZU (Z3 (Z6 0) (Z3 (Zg (D.int (9901))) (Z3 (Zg (D.int (4))) ZV))))) (gN 5) Yb) (Qc (By (YG (Qr (Ji (KG (Z6 4)))) 1 [4] (gN 0) YO Jr)))))
def Qj:List D->Sto->Option (D×Sto):=QM 10 4 KC
abbrev Ai:MS:=(YF (Qv (Zj Jv (Z3 (Z6 0) (Z3 (Z6 1) ZV))) (gN 4)) (Qc (KF (Z3 (Z6 1) (Z3 (Z6 2) (Z3 (Z6 4) (Z3 (Zj Qj (Z3 (mOp Jb (Z6 0) (Zg (D.int (1)))) (Z3 (Z6 4) (Z3 (Zg (D.int (0))) (Z3 (Z6 3) ZV))))) (Z3 (Zj Qj (Z3 (mOp Jb (Z6 0) (Zg (D.int (2)))) (Z3 (Z6 4) (Z3 (Zg (D.int (1))) (Z3 (mOp Jb (Z6 3) (Zg (D.int (5)))) ZV))))) ZV))))))))
def J3:List D->Sto->Option (D×Sto):=QM 5 4 Ai
def Tf:M D:=(UY (mOp gEq (Z6 0) (mOp gIx (Z6 2) (Zg (D.int (0))))) (mOp gGe (Z6 1) (mOp gIx (Z6 2) (Zg (D.int (1))))))
abbrev Ox:MS:=(Qc (Df (YG (Qr (Z6 1)) 2 [0] (gT 2 (YA (gN 0) (YA (gN 1) TK))) YO Tf)))
def UX:List D->Sto->Option (D×Sto):=QM 2 2 Ox
def UL:M Bool:=(mT (mOp gIn (Z6 0) (Z6 1)))
def UF:M D:=(Z6 0)
def UK:M Bool:=(Gf (Tz (Zj UX (Z3 (mOp gIx (Z6 0) (Zg (D.int (0)))) (Z3 (Z6 1) ZV)))))
def UE:M D:=(Z6 0)
def UJ:M Bool:=(Gf (Tz (Zj UX (Z3 (mOp gIx (Z6 0) (Zg (D.int (0)))) (Z3 (Z6 1) ZV)))))
def UD:M D:=(Z6 0)
abbrev Ah:MS:=(YF (Qv (Ji (YG (Qr (Z6 0)) 1 [2] (gN 0) UL UF)) (gN 4)) (YF (Qv (mOp Jb (Z6 4) (Ji (YG (Qr (Z6 0)) 1 [3] (gN 0) UK UE))) (gN 4)) (YF (Qv (mOp Jb (Z6 4) (Ji (YG (Qr (Z6 2)) 1 [1] (gN 0) UJ UD))) (gN 4)) (Qc (By (KG (Z6 4)))))))
def Qy:List D->Sto->Option (D×Sto):=QM 5 4 Ah
def J2:M Bool:=(mT (mOp gEq (Z6 0) (Z6 2)))
def J1:M D:=(Z6 1)
def Qn:MS:=(YF (Qv (PD (Ji (YG (Qr (mOp Jb (mOp gIx (Z6 0) (Zg (D.int (2)))) (mOp gIx (Z6 1) (Zg (D.int (2)))))) 2 [3] (gT 2 (YA (gN 0) (YA (gN 1) TK))) J2 J1)) (Zg (D.int (0)))) (gN 4)) (T5 (mT (mOp gGt (Z6 4) (Zg (D.int (0))))) (KI (Dd (Z6 2) (KF (Z3 (Z6 3) (Z3 (Z6 4) ZV))))) mNx))
abbrev PB:MS:=(YF (Qv (Dc ZV) (gN 2)) (YF (Ak (G4 (Zg (D.int (6)))) (gN 3) Qn) (YF (Qv (Zj Qy (Z3 (mOp gIx (Z6 0) (Zg (D.int (3)))) (Z3 (mOp gIx (Z6 0) (Zg (D.int (2)))) (Z3 (mOp gIx (Z6 1) (Zg (D.int (3)))) (Z3 (mOp gIx (Z6 1) (Zg (D.int (2)))) ZV))))) (gN 5)) (Qc (KF (Z3 (mOp gIx (Z6 0) (Zg (D.int (0)))) (Z3 (mOp gIx (Z6 0) (Zg (D.int (1)))) (Z3 (KD (Z6 2)) (Z3 (Z6 5) (Z3 (Zj Qy (Z3 (mOp gIx (Z6 0) (Zg (D.int (4)))) (Z3 (mOp gIx (Z6 0) (Zg (D.int (2)))) (Z3 (mOp gIx (Z6 1) (Zg (D.int (4)))) (Z3 (mOp gIx (Z6 1) (Zg (D.int (2)))) ZV))))) ZV))))))))))
def QK:List D->Sto->Option (D×Sto):=QM 6 2 PB
def B7:MS:=(YF (Qv (Zj Yu (Z3 (Z6 0) (Z3 (Z6 1) ZV))) (gN 2)) (YF (Qv (Zj Ju (Z3 (Zj Yu (Z3 (Z6 0) (Z3 (mOp Jb (Z6 1) (Zg (D.int (1)))) ZV))) ZV)) (gN 3)) (YF (Qv (Zj Qi (Z3 (Zj Yu (Z3 (Z6 0) (Z3 (Zg (D.int (3))) ZV))) ZV)) (gN 4)) (YF (Qv (Zj Yu (Z3 (Z6 0) (Z3 (Zg (D.int (2))) ZV))) (gN 5)) (YF (Qv (Zj J3 (Z3 (Z6 2) (Z3 (Z6 3) (Z3 (Z6 4) (Z3 (Z6 5) ZV))))) (gN 6)) (YF (Qv (Zj J3 (Z3 (mOp Jb (mOp Jb (Z6 2) (Zg (D.int (17)))) (Z6 1)) (Z3 (Z6 3) (Z3 (Z6 4) (Z3 (mOp Jb (Z6 5) (PJ (mOp gEq (mOp Fp (Z6 2) (Zg (D.int (7)))) (Zg (D.int (0)))))) ZV))))) (gN 7)) (YF (Qv (Zj QK (Z3 (Z6 6) (Z3 (Z6 7) ZV))) (gN 8)) (YF (T5 (mOr (Gf (Tz (Zj (Yl 12) (Z3 (Zj Zs (Z3 (Z6 6) (Z3 (Z6 7) ZV))) (Z3 (Z6 8) ZV))))) (Gf (Tz (Zj (Yl 12) (Z3 (Zj Zs (Z3 (Z6 6) (Z3 (Z6 7) ZV))) (Z3 (Z6 8) ZV)))))) (Qc (Zg (D.bl false))) mNx) (YF (T5 (mOr (mT (mOp N1 (Zj Qo (Z3 (Z6 8) ZV)) (Zg (D.bl true)))) (mOr (mT (mOp N1 (Zj ZK (Z3 (mOp gIx (Z6 8) (Zg (D.int (2)))) (Z3 (mOp gIx (Z6 6) (Zg (D.int (2)))) ZV))) (Zg (D.bl true)))) (mT (mOp N1 (Zj ZK (Z3 (mOp gIx (Z6 8) (Zg (D.int (2)))) (Z3 (mOp gIx (Z6 7) (Zg (D.int (2)))) ZV))) (Zg (D.bl true)))))) (Qc (Zg (D.bl false))) mNx) (YF (T5 (mOr (Gf (Tz (Zj (Yl 12) (Z3 (Zj Zs (Z3 (Z6 6) (Z3 (Z6 6) ZV))) (Z3 (Z6 6) ZV))))) (Gf (Tz (Zj (Yl 12) (Z3 (Zj Zs (Z3 (Z6 8) (Z3 (Z6 6) ZV))) (Z3 (Z6 8) ZV)))))) (Qc (Zg (D.bl false))) mNx) (T5 (mT (mOp gNe (Z6 6) (Zj J3 (Z3 (Z6 2) (Z3 (Z6 3) (Z3 (Z6 4) (Z3 (Z6 5) ZV))))))) (Qc (Zg (D.bl false))) mNx)))))))))))
abbrev Z22:MS:=(YF (Ak (G4 (Zg (D.int (3)))) (gN 1) B7) (Qc (Zg (D.bl true))))
def F_law:List D->Sto->Option (D×Sto):=QM 9 1 Z22
section
variable {P:Program} {w:World} {K:Wd} {mg:Str->Option Value} {base:Heap}
theorem Z15:FnScope ["mark", "known"] ["mark", "known"] (Z2 ZR):=⟨rfl,rfl,rfl,nd0,rfl,by decide +kernel,by decide +kernel⟩
theorem Z1G {f_28:Addr}{fd_28:FuncData}(T:Txt K mg)(O_28:Own K mg "is_within" ZR f_28 fd_28 ["mark", "known"]):FnOk P w K mg base CX0 1 f_28 fd_28 ["mark", "known"] (spD K 2 ZJ):=
 JI (k:=0) O_28.fn Z15 rfl rfl λcdv A outer s H E hr=>(Ze (Zp (Ec rfl (Qa (tgs:=["heard"]) (cn:=["mark"]) (caps:=[0]) rfl ⟨by decide +kernel,rfl,by decide +kernel,Y8 (Z2 ZR).names rfl (by decide +kernel),⟨⟨rfl,.inl rfl,rfl⟩,trivial⟩⟩ (Je (sv 1)) (Zn (by decide)) Zr (λ_ _ _ _=>(Zw (i:=0) nd1 rfl (Or.inl rfl))) (λ_ _ _ _=>Qk) (λ_ _ _ _=>(Yp (J7 (QD (Y0 hr)) (Zq (Y0 hr) (sv 0) Z4) (Zq (Y0 hr) (sv 1) Z4) (Y4 _)) (Ql (J7 Ph (Zq (Y0 hr) (sv 0) Z4) (Zq (Y0 hr) (sv 1) Z4) (Y4 _)))))) rfl T.n_any Nh)))
theorem Z1h:FnScope ["known", "other"] ["known", "other"] (Z2 Y3):=⟨rfl,rfl,rfl,nd2,rfl,by decide +kernel,by decide +kernel⟩
theorem Z1S {f_16:Addr}{fd_16:FuncData}(T:Txt K mg)(O_16:Own K mg "has_heard" Y3 f_16 fd_16 ["known", "other"]){f_28:Addr}{fd_28:FuncData}(O_28:Own K mg "is_within" ZR f_28 fd_28 ["mark", "known"])(G_28:FnOk P w K mg base CX0 1 f_28 fd_28 ["mark", "known"] (spD K 2 ZJ)):FnOk P w K mg base CX0 2 f_16 fd_16 ["known", "other"] (spD K 2 ZK):=
 JI (k:=1) O_16.fn Z1h rfl rfl λcdv A outer s H E hr=>(Ze (Zp (UP rfl (Qa (tgs:=["mark"]) (cn:=["known"]) (caps:=[0]) rfl ⟨by decide +kernel,rfl,by decide +kernel,Y8 (Z2 Y3).names rfl (by decide +kernel),⟨⟨rfl,.inl rfl,rfl⟩,trivial⟩⟩ (Je (sv 1)) (Zn (by decide)) Zr (λ_ _ _ _=>(Zw (i:=0) nd0 rfl (Or.inl rfl))) (λ_ _ _ _=>Qk) (λ_ _ _ _=>(Z5 G_28 (hr.mono (by omega)) rfl O_28.mgf O_28.fn.kp O_28.b (Z1 (sv 0) (Z1 (sv 1) Z8)) (Z0 (Z0 Z7))))) rfl T.n_all Q8)))
theorem Z1g:FnScope ["text", "least", "greatest"] ["text", "least", "greatest"] (Z2 Zh):=⟨rfl,rfl,rfl,nd3,rfl,by decide +kernel,by decide +kernel⟩
theorem Z1R {f_17:Addr}{fd_17:FuncData}(T:Txt K mg)(O_17:Own K mg "has_signs_between" Zh f_17 fd_17 ["text", "least", "greatest"]):FnOk P w K mg base CX0 1 f_17 fd_17 ["text", "least", "greatest"] (spD K 3 Zx):=
 JI (k:=0) O_17.fn Z1g rfl rfl λcdv A outer s H E hr=>(Ze (Zp (UP rfl (Qa (tgs:=["sign"]) (cn:=["least", "greatest"]) (caps:=[1,2]) rfl ⟨by decide +kernel,rfl,by decide +kernel,Y8 (Z2 Zh).names rfl (by decide +kernel),⟨⟨rfl,.inl rfl,rfl⟩,⟨⟨rfl,.inl rfl,rfl⟩,trivial⟩⟩⟩ (Je (sv 0)) (Zn (by decide)) Zr (λ_ _ _ _=>(Zw (i:=0) nd4 rfl (Or.inl rfl))) (λ_ _ _ _=>Qk) (λ_ _ _ _=>(GB Ge Ge (sv 1) (sv 0) (sv 2)))) rfl T.n_all Q8)))
theorem Z1a:FnScope ["thing"] ["thing"] (Z2 YC):=⟨rfl,rfl,rfl,nd5,rfl,by decide +kernel,by decide +kernel⟩
theorem Z1L {f_23:Addr}{fd_23:FuncData}(T:Txt K mg)(O_23:Own K mg "is_name" YC f_23 fd_23 ["thing"]){f_17:Addr}{fd_17:FuncData}(O_17:Own K mg "has_signs_between" Zh f_17 fd_17 ["text", "least", "greatest"])(G_17:FnOk P w K mg base CX0 1 f_17 fd_17 ["text", "least", "greatest"] (spD K 3 Zx)):FnOk P w K mg base CX0 2 f_23 fd_23 ["thing"] (spD K 1 Ys):=
 JI (k:=1) O_23.fn Z1a rfl rfl λcdv A outer s H E hr=>(Ze (Zp (Yp (QC (QW _) (sv 0) rfl T.n_isinstance Zc rfl T.n_str TU) (Yp (GB Ge Ge Z4 (U0 (sv 0) rfl T.n_len YL) (Nv rfl T.c_LONGEST_NAME)) (Ql (Z5 G_17 (hr.mono (by omega)) rfl O_17.mgf O_17.fn.kp O_17.b (Z1 (sv 0) (Z1 J6 (Z1 J6 Z8))) (Z0 (Z0 (Z0 Z7)))))))))
theorem Z17:FnScope ["thing", "length"] ["thing", "length"] (Z2 Zd):=⟨rfl,rfl,rfl,nd6,rfl,by decide +kernel,by decide +kernel⟩
theorem Z1I {f_26:Addr}{fd_26:FuncData}(T:Txt K mg)(O_26:Own K mg "is_tuple_of_length" Zd f_26 fd_26 ["thing", "length"]):FnOk P w K mg base CX0 1 f_26 fd_26 ["thing", "length"] (spD K 2 Zi):=
 JI (k:=0) O_26.fn Z17 rfl rfl λcdv A outer s H E hr=>(Ze (Zp (Yp (QC (Jk _) (sv 0) rfl T.n_isinstance Zc rfl T.n_tuple ZT) (Ql (J7 (QD (Y0 hr)) (U0 (sv 0) rfl T.n_len YL) (sv 1) (Y4 _))))))
theorem Z16:FnScope ["thing"] ["thing"] (Z2 Yj):=⟨rfl,rfl,rfl,nd5,rfl,by decide +kernel,by decide +kernel⟩
theorem Z1H {f_27:Addr}{fd_27:FuncData}(T:Txt K mg)(O_27:Own K mg "is_whole" Yj f_27 fd_27 ["thing"]):FnOk P w K mg base CX0 1 f_27 fd_27 ["thing"] (spD K 1 YR):=
 JI (k:=0) O_27.fn Z16 rfl rfl λcdv A outer s H E hr=>(Ze (Zp (Yp (QC (Lv _) (sv 0) rfl T.n_isinstance Zc rfl T.n_int TV) (Ql (DG (QC (Uc _) (sv 0) rfl T.n_isinstance Zc rfl T.n_bool QI))))))
theorem Z1e:FnScope ["thing"] ["thing"] (Z2 Yy):=⟨rfl,rfl,rfl,nd5,rfl,by decide +kernel,by decide +kernel⟩
theorem Z1P {f_19:Addr}{fd_19:FuncData}(T:Txt K mg)(O_19:Own K mg "is_house" Yy f_19 fd_19 ["thing"]){f_27:Addr}{fd_27:FuncData}(O_27:Own K mg "is_whole" Yj f_27 fd_27 ["thing"])(G_27:FnOk P w K mg base CX0 1 f_27 fd_27 ["thing"] (spD K 1 YR)):FnOk P w K mg base CX0 2 f_19 fd_19 ["thing"] (spD K 1 QJ):=
 JI (k:=1) O_19.fn Z1e rfl rfl λcdv A outer s H E hr=>(Ze (Zp (Yp (Z5 G_27 (hr.mono (by omega)) rfl O_27.mgf O_27.fn.kp O_27.b (Z1 (sv 0) Z8) (Z0 Z7)) (Ql (GB Ge (Pg (Y0 hr)) Z4 (sv 0) (Nv rfl T.c_HOUSES))))))
theorem Z1c:FnScope ["thing"] ["thing"] (Z2 Yr):=⟨rfl,rfl,rfl,nd5,rfl,by decide +kernel,by decide +kernel⟩
theorem Z1N {f_21:Addr}{fd_21:FuncData}(T:Txt K mg)(O_21:Own K mg "is_mark" Yr f_21 fd_21 ["thing"]){f_27:Addr}{fd_27:FuncData}(O_27:Own K mg "is_whole" Yj f_27 fd_27 ["thing"])(G_27:FnOk P w K mg base CX0 1 f_27 fd_27 ["thing"] (spD K 1 YR)){f_26:Addr}{fd_26:FuncData}(O_26:Own K mg "is_tuple_of_length" Zd f_26 fd_26 ["thing", "length"])(G_26:FnOk P w K mg base CX0 1 f_26 fd_26 ["thing", "length"] (spD K 2 Zi)){f_19:Addr}{fd_19:FuncData}(O_19:Own K mg "is_house" Yy f_19 fd_19 ["thing"])(G_19:FnOk P w K mg base CX0 2 f_19 fd_19 ["thing"] (spD K 1 QJ)):FnOk P w K mg base CX0 3 f_21 fd_21 ["thing"] (spD K 1 YN):=
 JI (k:=2) O_21.fn Z1c rfl rfl λcdv A outer s H E hr=>(Ze (Zp (Yp (Z5 G_26 (hr.mono (by omega)) rfl O_26.mgf O_26.fn.kp O_26.b (Z1 (sv 0) (Z1 Z4 Z8)) (Z0 (Z0 Z7))) (Yp (Z5 G_19 (hr.mono (by omega)) rfl O_19.mgf O_19.fn.kp O_19.b (Z1 (Zq (Y0 hr) (sv 0) Z4) Z8) (Z0 Z7)) (Yp (Z5 G_27 (hr.mono (by omega)) rfl O_27.mgf O_27.fn.kp O_27.b (Z1 (Zq (Y0 hr) (sv 0) Z4) Z8) (Z0 Z7)) (Ql (J7 Ph (Zq (Y0 hr) (sv 0) Z4) Z4 (Y4 _))))))))
theorem Z19:FnScope ["row"] ["row"] (Z2 Y2):=⟨rfl,rfl,rfl,nd7,rfl,by decide +kernel,by decide +kernel⟩
theorem Z1K {f_24:Addr}{fd_24:FuncData}(T:Txt K mg)(O_24:Own K mg "is_rising" Y2 f_24 fd_24 ["row"]):FnOk P w K mg base CX0 1 f_24 fd_24 ["row"] (spD K 1 Yx):=
 JI (k:=0) O_24.fn Z19 rfl rfl λcdv A outer s H E hr=>(Ze (Zp (UP rfl (Qa (tgs:=["before", "behind"]) (cn:=[]) (caps:=[]) rfl ⟨by decide +kernel,rfl,by decide +kernel,Y8 (Z2 Y2).names rfl (by decide +kernel),trivial⟩ (E9 (sv 0) (FP (sv 0) (HS Z4) HU) rfl T.n_zip Nf) (Te (Yz (Zn (by decide)) (Yz (Zn (by decide)) Ue ZY Q4) ZY (Jz ZY Q4))) (BZ (YV Zr (YV Zr TJ))) (λ_ _ _ _=>(Bs rfl (YT (Zw (i:=0) nd8 rfl (Or.inl rfl)) (YT (Zw (i:=1) nd8 rfl (Or.inl rfl)) Ts)))) (λ_ _ _ _=>Qk) (λ_ _ _ _=>(J7 (Pg (Y0 hr)) (sv 0) (sv 1) (Y4 _)))) rfl T.n_all Q8)))
theorem Z1d:FnScope ["thing"] ["thing"] (Z2 Yi):=⟨rfl,rfl,rfl,nd5,rfl,by decide +kernel,by decide +kernel⟩
theorem Z1O {f_20:Addr}{fd_20:FuncData}(T:Txt K mg)(O_20:Own K mg "is_known" Yi f_20 fd_20 ["thing"]){f_21:Addr}{fd_21:FuncData}(O_21:Own K mg "is_mark" Yr f_21 fd_21 ["thing"])(G_21:FnOk P w K mg base CX0 3 f_21 fd_21 ["thing"] (spD K 1 YN)){f_24:Addr}{fd_24:FuncData}(O_24:Own K mg "is_rising" Y2 f_24 fd_24 ["row"])(G_24:FnOk P w K mg base CX0 1 f_24 fd_24 ["row"] (spD K 1 Yx)):FnOk P w K mg base CX0 4 f_20 fd_20 ["thing"] (spD K 1 YB):=
 JI (k:=3) O_20.fn Z1d rfl rfl λcdv A outer s H E hr=>(Zb (QA (FF (Th (Qe (ZO (QC (Jk _) (sv 0) rfl T.n_isinstance Zc rfl T.n_tuple ZT))) (JX (Qe (ZO (UP rfl (Qa (tgs:=["mark"]) (cn:=[]) (caps:=[]) rfl ⟨by decide +kernel,rfl,by decide +kernel,Y8 (Z2 Yi).names rfl (by decide +kernel),trivial⟩ (Je (sv 0)) (Zn (by decide)) Zr (λ_ _ _ _=>(Zw (i:=0) nd9 rfl (Or.inl rfl))) (λ_ _ _ _=>Qk) (λ_ _ _ _=>(Z5 G_21 (hr.mono (by omega)) rfl O_21.mgf O_21.fn.kp O_21.b (Z1 (sv 0) Z8) (Z0 Z7)))) rfl T.n_all Q8)))))) (Ze (Zp Uu)) Yq)
   (Ze (Zp (Z5 G_24 (hr.mono (by omega)) rfl O_24.mgf O_24.fn.kp O_24.b (Z1 (Tn (tgs:=["mark"]) (cn:=[]) (caps:=[]) rfl ⟨by decide +kernel,rfl,by decide +kernel,Y8 (Z2 Yi).names rfl (by decide +kernel),trivial⟩ (Je (sv 0)) (Zn (by decide)) Zr (λ_ _ _ _=>(Zw (i:=0) nd9 rfl (Or.inl rfl))) (λ_ _ _ _=>Qk) (λ_ _ _ _=>(Zq (Y0 hr) (sv 0) Z4))) Z8) (Z0 Z7)))))
theorem Z1b:FnScope ["thing"] ["thing"] (Z2 ZA):=⟨rfl,rfl,rfl,nd5,rfl,by decide +kernel,by decide +kernel⟩
theorem Z1M {f_22:Addr}{fd_22:FuncData}(T:Txt K mg)(O_22:Own K mg "is_marked_pair" ZA f_22 fd_22 ["thing"]){f_26:Addr}{fd_26:FuncData}(O_26:Own K mg "is_tuple_of_length" Zd f_26 fd_26 ["thing", "length"])(G_26:FnOk P w K mg base CX0 1 f_26 fd_26 ["thing", "length"] (spD K 2 Zi)){f_21:Addr}{fd_21:FuncData}(O_21:Own K mg "is_mark" Yr f_21 fd_21 ["thing"])(G_21:FnOk P w K mg base CX0 3 f_21 fd_21 ["thing"] (spD K 1 YN)):FnOk P w K mg base CX0 4 f_22 fd_22 ["thing"] (spD K 1 Yh):=
 JI (k:=3) O_22.fn Z1b rfl rfl λcdv A outer s H E hr=>(Ze (Zp (Yp (Z5 G_26 (hr.mono (by omega)) rfl O_26.mgf O_26.fn.kp O_26.b (Z1 (sv 0) (Z1 Z4 Z8)) (Z0 (Z0 Z7))) (Ql (Z5 G_21 (hr.mono (by omega)) rfl O_21.mgf O_21.fn.kp O_21.b (Z1 (Zq (Y0 hr) (sv 0) Z4) Z8) (Z0 Z7))))))
theorem Z1l:FnScope ["thing", "known", "marks"] ["thing", "known"] (Z2 Zf):=⟨rfl,rfl,rfl,Z2M,rfl,by decide +kernel,by decide +kernel⟩
theorem Z1W {f_12:Addr}{fd_12:FuncData}(T:Txt K mg)(O_12:Own K mg "are_marked_pairs" Zf f_12 fd_12 ["thing", "known"]){f_24:Addr}{fd_24:FuncData}(O_24:Own K mg "is_rising" Y2 f_24 fd_24 ["row"])(G_24:FnOk P w K mg base CX0 1 f_24 fd_24 ["row"] (spD K 1 Yx)){f_16:Addr}{fd_16:FuncData}(O_16:Own K mg "has_heard" Y3 f_16 fd_16 ["known", "other"])(G_16:FnOk P w K mg base CX0 2 f_16 fd_16 ["known", "other"] (spD K 2 ZK)){f_22:Addr}{fd_22:FuncData}(O_22:Own K mg "is_marked_pair" ZA f_22 fd_22 ["thing"])(G_22:FnOk P w K mg base CX0 4 f_22 fd_22 ["thing"] (spD K 1 Yh)):FnOk P w K mg base CX0 5 f_12 fd_12 ["thing", "known"] (spD K 2 Zo):=
 JI (k:=4) O_12.fn Z1l rfl rfl λcdv A outer s H E hr=>(Zb (QA (FF (Th (Qe (ZO (QC (Jk _) (sv 0) rfl T.n_isinstance Zc rfl T.n_tuple ZT))) (JX (Qe (ZO (UP rfl (Qa (tgs:=["pair"]) (cn:=[]) (caps:=[]) rfl ⟨by decide +kernel,rfl,by decide +kernel,Y8 (Z2 Zf).names rfl (by decide +kernel),trivial⟩ (Je (sv 0)) (Zn (by decide)) Zr (λ_ _ _ _=>(Zw (i:=0) Z0M rfl (Or.inl rfl))) (λ_ _ _ _=>Qk) (λ_ _ _ _=>(Z5 G_22 (hr.mono (by omega)) rfl O_22.mgf O_22.fn.kp O_22.b (Z1 (sv 0) Z8) (Z0 Z7)))) rfl T.n_all Q8)))))) (Ze (Zp Uu)) Yq)
   (Zb (RB (i:=2) Z2M rfl rfl (tgs:=["pair"]) (cn:=[]) (caps:=[]) rfl ⟨by decide +kernel,rfl,by decide +kernel,Y8 (Z2 Zf).names rfl (by decide +kernel),trivial⟩ (Je (sv 0)) (Zn (by decide)) Zr (λ_ _ _ _=>(Zw (i:=0) Z0M rfl (Or.inl rfl))) (λ_ _ _ _=>Qk) (λ_ _ _ _=>(Zq (Y0 hr) (sv 0) Z4)))
   (Ze (Zp (Yp (Z5 G_24 (hr.mono (by omega)) rfl O_24.mgf O_24.fn.kp O_24.b (Z1 (sv 2) Z8) (Z0 Z7)) (Ql (Z5 G_16 (hr.mono (by omega)) rfl O_16.mgf O_16.fn.kp O_16.b (Z1 (sv 1) (Z1 (sv 2) Z8)) (Z0 (Z0 Z7)))))))))
theorem Z1k:FnScope ["thing", "known"] ["thing", "known"] (Z2 Yd):=⟨rfl,rfl,rfl,Z0L,rfl,by decide +kernel,by decide +kernel⟩
theorem Z1V {f_13:Addr}{fd_13:FuncData}(T:Txt K mg)(O_13:Own K mg "are_names" Yd f_13 fd_13 ["thing", "known"]){f_23:Addr}{fd_23:FuncData}(O_23:Own K mg "is_name" YC f_23 fd_23 ["thing"])(G_23:FnOk P w K mg base CX0 2 f_23 fd_23 ["thing"] (spD K 1 Ys)){f_12:Addr}{fd_12:FuncData}(O_12:Own K mg "are_marked_pairs" Zf f_12 fd_12 ["thing", "known"])(G_12:FnOk P w K mg base CX0 5 f_12 fd_12 ["thing", "known"] (spD K 2 Zo)):FnOk P w K mg base CX0 6 f_13 fd_13 ["thing", "known"] (spD K 2 Qq):=
 JI (k:=5) O_13.fn Z1k rfl rfl λcdv A outer s H E hr=>(Ze (Zp (Yp (Z5 G_12 (hr.mono (by omega)) rfl O_12.mgf O_12.fn.kp O_12.b (Z1 (sv 0) (Z1 (sv 1) Z8)) (Z0 (Z0 Z7))) (Ql (UP rfl (Qa (tgs:=["pair"]) (cn:=[]) (caps:=[]) rfl ⟨by decide +kernel,rfl,by decide +kernel,Y8 (Z2 Yd).names rfl (by decide +kernel),trivial⟩ (Je (sv 0)) (Zn (by decide)) Zr (λ_ _ _ _=>(Zw (i:=0) Z0M rfl (Or.inl rfl))) (λ_ _ _ _=>Qk) (λ_ _ _ _=>(Z5 G_23 (hr.mono (by omega)) rfl O_23.mgf O_23.fn.kp O_23.b (Z1 (Zq (Y0 hr) (sv 0) Z4) Z8) (Z0 Z7)))) rfl T.n_all Q8)))))
theorem Z18:FnScope ["thing"] ["thing"] (Z2 YX):=⟨rfl,rfl,rfl,nd5,rfl,by decide +kernel,by decide +kernel⟩
theorem Z1J {f_25:Addr}{fd_25:FuncData}(T:Txt K mg)(O_25:Own K mg "is_text" YX f_25 fd_25 ["thing"]){f_17:Addr}{fd_17:FuncData}(O_17:Own K mg "has_signs_between" Zh f_17 fd_17 ["text", "least", "greatest"])(G_17:FnOk P w K mg base CX0 1 f_17 fd_17 ["text", "least", "greatest"] (spD K 3 Zx)):FnOk P w K mg base CX0 2 f_25 fd_25 ["thing"] (spD K 1 Q9):=
 JI (k:=1) O_25.fn Z18 rfl rfl λcdv A outer s H E hr=>(Ze (Zp (Yp (QC (QW _) (sv 0) rfl T.n_isinstance Zc rfl T.n_str TU) (Yp (J7 Ge (U0 (sv 0) rfl T.n_len YL) (Nv rfl T.c_LONGEST_TEXT) (Y4 _)) (Ql (Z5 G_17 (hr.mono (by omega)) rfl O_17.mgf O_17.fn.kp O_17.b (Z1 (sv 0) (Z1 J6 (Z1 J6 Z8))) (Z0 (Z0 (Z0 Z7)))))))))
theorem Z1j:FnScope ["thing", "known"] ["thing", "known"] (Z2 Yc):=⟨rfl,rfl,rfl,Z0L,rfl,by decide +kernel,by decide +kernel⟩
theorem Z1U {f_14:Addr}{fd_14:FuncData}(T:Txt K mg)(O_14:Own K mg "are_texts" Yc f_14 fd_14 ["thing", "known"]){f_25:Addr}{fd_25:FuncData}(O_25:Own K mg "is_text" YX f_25 fd_25 ["thing"])(G_25:FnOk P w K mg base CX0 2 f_25 fd_25 ["thing"] (spD K 1 Q9)){f_12:Addr}{fd_12:FuncData}(O_12:Own K mg "are_marked_pairs" Zf f_12 fd_12 ["thing", "known"])(G_12:FnOk P w K mg base CX0 5 f_12 fd_12 ["thing", "known"] (spD K 2 Zo)):FnOk P w K mg base CX0 6 f_14 fd_14 ["thing", "known"] (spD K 2 Qp):=
 JI (k:=5) O_14.fn Z1j rfl rfl λcdv A outer s H E hr=>(Ze (Zp (Yp (Z5 G_12 (hr.mono (by omega)) rfl O_12.mgf O_12.fn.kp O_12.b (Z1 (sv 0) (Z1 (sv 1) Z8)) (Z0 (Z0 Z7))) (Ql (UP rfl (Qa (tgs:=["pair"]) (cn:=[]) (caps:=[]) rfl ⟨by decide +kernel,rfl,by decide +kernel,Y8 (Z2 Yc).names rfl (by decide +kernel),trivial⟩ (Je (sv 0)) (Zn (by decide)) Zr (λ_ _ _ _=>(Zw (i:=0) Z0M rfl (Or.inl rfl))) (λ_ _ _ _=>Qk) (λ_ _ _ _=>(Z5 G_25 (hr.mono (by omega)) rfl O_25.mgf O_25.fn.kp O_25.b (Z1 (Zq (Y0 hr) (sv 0) Z4) Z8) (Z0 Z7)))) rfl T.n_all Q8)))))
theorem Z1f:FnScope ["thing", "known"] ["thing"] (Z2 YY):=⟨rfl,rfl,rfl,Z0L,rfl,by decide +kernel,by decide +kernel⟩
theorem Z1Q {f_18:Addr}{fd_18:FuncData}(T:Txt K mg)(O_18:Own K mg "is_file" YY f_18 fd_18 ["thing"]){f_23:Addr}{fd_23:FuncData}(O_23:Own K mg "is_name" YC f_23 fd_23 ["thing"])(G_23:FnOk P w K mg base CX0 2 f_23 fd_23 ["thing"] (spD K 1 Ys)){f_26:Addr}{fd_26:FuncData}(O_26:Own K mg "is_tuple_of_length" Zd f_26 fd_26 ["thing", "length"])(G_26:FnOk P w K mg base CX0 1 f_26 fd_26 ["thing", "length"] (spD K 2 Zi)){f_21:Addr}{fd_21:FuncData}(O_21:Own K mg "is_mark" Yr f_21 fd_21 ["thing"])(G_21:FnOk P w K mg base CX0 3 f_21 fd_21 ["thing"] (spD K 1 YN)){f_20:Addr}{fd_20:FuncData}(O_20:Own K mg "is_known" Yi f_20 fd_20 ["thing"])(G_20:FnOk P w K mg base CX0 4 f_20 fd_20 ["thing"] (spD K 1 YB)){f_28:Addr}{fd_28:FuncData}(O_28:Own K mg "is_within" ZR f_28 fd_28 ["mark", "known"])(G_28:FnOk P w K mg base CX0 1 f_28 fd_28 ["mark", "known"] (spD K 2 ZJ)){f_13:Addr}{fd_13:FuncData}(O_13:Own K mg "are_names" Yd f_13 fd_13 ["thing", "known"])(G_13:FnOk P w K mg base CX0 6 f_13 fd_13 ["thing", "known"] (spD K 2 Qq)){f_14:Addr}{fd_14:FuncData}(O_14:Own K mg "are_texts" Yc f_14 fd_14 ["thing", "known"])(G_14:FnOk P w K mg base CX0 6 f_14 fd_14 ["thing", "known"] (spD K 2 Qp)):FnOk P w K mg base CX0 7 f_18 fd_18 ["thing"] (spD K 1 Qo):=
 JI (k:=6) O_18.fn Z1f rfl rfl λcdv A outer s H E hr=>(Zb (QA (Qe (ZO (Z5 G_26 (hr.mono (by omega)) rfl O_26.mgf O_26.fn.kp O_26.b (Z1 (sv 0) (Z1 Z4 Z8)) (Z0 (Z0 Z7))))) (Ze (Zp Uu)) Yq)
   (Zb (ZM (i:=1) Z0L rfl (Or.inl rfl) (Zq (Y0 hr) (sv 0) Z4))
   (Zb (QA (FF (Th (Qe (ZO (Z5 G_21 (hr.mono (by omega)) rfl O_21.mgf O_21.fn.kp O_21.b (Z1 (Zq (Y0 hr) (sv 0) Z4) Z8) (Z0 Z7)))) (Th (Qe (ZO (Z5 G_23 (hr.mono (by omega)) rfl O_23.mgf O_23.fn.kp O_23.b (Z1 (Zq (Y0 hr) (sv 0) Z4) Z8) (Z0 Z7)))) (JX (Qe (ZO (Z5 G_20 (hr.mono (by omega)) rfl O_20.mgf O_20.fn.kp O_20.b (Z1 (sv 1) Z8) (Z0 Z7)))))))) (Ze (Zp Uu)) Yq)
   (Ze (Zp (Yp (Z5 G_28 (hr.mono (by omega)) rfl O_28.mgf O_28.fn.kp O_28.b (Z1 (Zq (Y0 hr) (sv 0) Z4) (Z1 (sv 1) Z8)) (Z0 (Z0 Z7))) (Yp (Z5 G_13 (hr.mono (by omega)) rfl O_13.mgf O_13.fn.kp O_13.b (Z1 (Zq (Y0 hr) (sv 0) Z4) (Z1 (sv 1) Z8)) (Z0 (Z0 Z7))) (Ql (Z5 G_14 (hr.mono (by omega)) rfl O_14.mgf O_14.fn.kp O_14.b (Z1 (Zq (Y0 hr) (sv 0) Z4) (Z1 (sv 1) Z8)) (Z0 (Z0 Z7)))))))))))
theorem Z1i:FnScope ["known", "other", "counts", "mark"] ["known", "other"] (Z2 ZB):=⟨rfl,rfl,rfl,Z21,rfl,by decide +kernel,by decide +kernel⟩
theorem Z1T {f_15:Addr}{fd_15:FuncData}(T:Txt K mg)(O_15:Own K mg "greater_counts" ZB f_15 fd_15 ["known", "other"]):FnOk P w K mg base CX0 1 f_15 fd_15 ["known", "other"] (spD K 2 ZZ):=
 JI (k:=0) O_15.fn Z1i rfl rfl λcdv A outer s H E hr=>(Zb (ZM (i:=2) Z21 rfl (Or.inl rfl) (FQ rfl (sv 0) rfl T.n_dict KY))
   (Zb (Bi W1C rfl (Je (sv 1)) (Zw (i:=3) Z21 rfl (Or.inl rfl)) Zr (Ze (Ur (Y0 hr) (S5 rfl (Zq (Y0 hr) (sv 3) Z4) (S9 (Y0 hr) (sv 2) (Zq (Y0 hr) (sv 3) Z4) (Zq (Y0 hr) (sv 3) Z4)) rfl T.n_max Ng) (sv 2) (Zq (Y0 hr) (sv 3) Z4))))
   (Ze (Zp (GA (FJ rfl (Z0O hr) (sv 2) rfl T.n_sorted Qx) rfl T.n_tuple ZT)))))
theorem Z13:FnScope ["pairs", "other_pairs", "other_known"] ["pairs", "other_pairs", "other_known"] (Z2 Zt):=⟨rfl,rfl,rfl,Z4k,rfl,by decide +kernel,by decide +kernel⟩
theorem Z1E {f_30:Addr}{fd_30:FuncData}(T:Txt K mg)(O_30:Own K mg "not_taken_away" Zt f_30 fd_30 ["pairs", "other_pairs", "other_known"]){f_28:Addr}{fd_28:FuncData}(O_28:Own K mg "is_within" ZR f_28 fd_28 ["mark", "known"])(G_28:FnOk P w K mg base CX0 1 f_28 fd_28 ["mark", "known"] (spD K 2 ZJ)):FnOk P w K mg base CX0 2 f_30 fd_30 ["pairs", "other_pairs", "other_known"] (spD K 3 ZC):=
 JI (k:=1) O_30.fn Z13 rfl rfl λcdv A outer s H E hr=>(Ze (Zp (Tn (tgs:=["pair"]) (cn:=["other_pairs", "other_known"]) (caps:=[1,2]) rfl ⟨by decide +kernel,rfl,by decide +kernel,Y8 (Z2 Zt).names rfl (by decide +kernel),⟨⟨rfl,.inl rfl,rfl⟩,⟨⟨rfl,.inl rfl,rfl⟩,trivial⟩⟩⟩ (Je (sv 0)) (Zn (by decide)) Zr (λ_ _ _ _=>(Zw (i:=0) Z4j rfl (Or.inl rfl))) (λ_ _ _ _=>Bk (FF (Th (YQ (Em (Y0 hr)) (sv 0) (sv 1) (by with_unfolding_all rfl)) (JX (Qe (ZO (Z5 G_28 (hr.mono (by omega)) rfl O_28.mgf O_28.fn.kp O_28.b (Z1 (Zq (Y0 hr) (sv 0) Z4) (Z1 (sv 2) Z8)) (Z0 (Z0 Z7))))))))) (λ_ _ _ _=>(sv 0)))))
theorem Z12:FnScope ["pairs", "known", "other_pairs", "other_known", "mine", "others"] ["pairs", "known", "other_pairs", "other_known"] (Z2 Zz):=⟨rfl,rfl,rfl,Z20,rfl,by decide +kernel,by decide +kernel⟩
theorem Z1D {f_31:Addr}{fd_31:FuncData}(T:Txt K mg)(O_31:Own K mg "pairs_together" Zz f_31 fd_31 ["pairs", "known", "other_pairs", "other_known"]){f_30:Addr}{fd_30:FuncData}(O_30:Own K mg "not_taken_away" Zt f_30 fd_30 ["pairs", "other_pairs", "other_known"])(G_30:FnOk P w K mg base CX0 2 f_30 fd_30 ["pairs", "other_pairs", "other_known"] (spD K 3 ZC)):FnOk P w K mg base CX0 3 f_31 fd_31 ["pairs", "known", "other_pairs", "other_known"] (spD K 4 Zv):=
 JI (k:=2) O_31.fn Z12 rfl rfl λcdv A outer s H E hr=>(Zb (ZM (i:=4) Z20 rfl (Or.inl rfl) (Z5 G_30 (hr.mono (by omega)) rfl O_30.mgf O_30.fn.kp O_30.b (Z1 (sv 0) (Z1 (sv 2) (Z1 (sv 3) Z8))) (Z0 (Z0 (Z0 Z7)))))
   (Zb (ZM (i:=5) Z20 rfl (Or.inl rfl) (Z5 G_30 (hr.mono (by omega)) rfl O_30.mgf O_30.fn.kp O_30.b (Z1 (sv 2) (Z1 (sv 0) (Z1 (sv 1) Z8))) (Z0 (Z0 (Z0 Z7)))))
   (Ze (Zp (GA (RG rfl (Z0O hr) (Y9 ZP (sv 4) (sv 5)) rfl T.n_sorted Qx rfl T.n_set F6) rfl T.n_tuple ZT)))))
theorem Z11:FnScope ["one", "other", "names", "texts"] ["one", "other"] (Z2 ZQ):=⟨rfl,rfl,rfl,Z1Z,rfl,by decide +kernel,by decide +kernel⟩
theorem Z1C {f_32:Addr}{fd_32:FuncData}(T:Txt K mg)(O_32:Own K mg "put_together" ZQ f_32 fd_32 ["one", "other"]){f_15:Addr}{fd_15:FuncData}(O_15:Own K mg "greater_counts" ZB f_15 fd_15 ["known", "other"])(G_15:FnOk P w K mg base CX0 1 f_15 fd_15 ["known", "other"] (spD K 2 ZZ)){f_31:Addr}{fd_31:FuncData}(O_31:Own K mg "pairs_together" Zz f_31 fd_31 ["pairs", "known", "other_pairs", "other_known"])(G_31:FnOk P w K mg base CX0 3 f_31 fd_31 ["pairs", "known", "other_pairs", "other_known"] (spD K 4 Zv)):FnOk P w K mg base CX0 4 f_32 fd_32 ["one", "other"] (spD K 2 Zs):=
 JI (k:=3) O_32.fn Z11 rfl rfl λcdv A outer s H E hr=>(Zb (ZM (i:=2) Z1Z rfl (Or.inl rfl) (Z5 G_31 (hr.mono (by omega)) rfl O_31.mgf O_31.fn.kp O_31.b (Z1 (Zq (Y0 hr) (sv 0) Z4) (Z1 (Zq (Y0 hr) (sv 0) Z4) (Z1 (Zq (Y0 hr) (sv 1) Z4) (Z1 (Zq (Y0 hr) (sv 1) Z4) Z8)))) (Z0 (Z0 (Z0 (Z0 Z7))))))
   (Zb (ZM (i:=3) Z1Z rfl (Or.inl rfl) (Z5 G_31 (hr.mono (by omega)) rfl O_31.mgf O_31.fn.kp O_31.b (Z1 (Zq (Y0 hr) (sv 0) Z4) (Z1 (Zq (Y0 hr) (sv 0) Z4) (Z1 (Zq (Y0 hr) (sv 1) Z4) (Z1 (Zq (Y0 hr) (sv 1) Z4) Z8)))) (Z0 (Z0 (Z0 (Z0 Z7))))))
   (Ze (Zp (JZ (Z1 (Zq (Y0 hr) (sv 0) Z4) (Z1 (Zq (Y0 hr) (sv 0) Z4) (Z1 (Z5 G_15 (hr.mono (by omega)) rfl O_15.mgf O_15.fn.kp O_15.b (Z1 (Zq (Y0 hr) (sv 0) Z4) (Z1 (Zq (Y0 hr) (sv 1) Z4) Z8)) (Z0 (Z0 Z7))) (Z1 (sv 2) (Z1 (sv 3) Z8))))))))))
theorem Z3T:FnScope ["_law_script", "_law_k"] ["_law_script", "_law_k"] (Z2 Qu):=⟨rfl,rfl,rfl,Z4i,rfl,by decide +kernel,by decide +kernel⟩
theorem Z47 {f_0:Addr}{fd_0:FuncData}(T:Txt K mg)(O_0:Own K mg "_law_cell" Qu f_0 fd_0 ["_law_script", "_law_k"]):FnOk P w K mg base CX0 1 f_0 fd_0 ["_law_script", "_law_k"] (spD K 2 Yu):=
 JI (k:=0) O_0.fn Z3T rfl rfl λcdv A outer s H E hr=>(Zb (QA (YQ (Pg (Y0 hr)) (sv 1) (U0 (sv 0) rfl T.n_len YL) (Y4 _)) (Ze (Zp (Zq (Y0 hr) (sv 0) (sv 1)))) Yq)
   (Ze (Zp Z4)))
theorem Z3M:FnScope ["_law_cell_here", "_law_prime", "_law_many"] ["_law_cell_here", "_law_prime", "_law_many"] (Z2 Qb):=⟨rfl,rfl,rfl,Z4h,rfl,by decide +kernel,by decide +kernel⟩
theorem Z40 {f_7:Addr}{fd_7:FuncData}(T:Txt K mg)(O_7:Own K mg "_law_mix" Qb f_7 fd_7 ["_law_cell_here", "_law_prime", "_law_many"]):FnOk P w K mg base CX0 1 f_7 fd_7 ["_law_cell_here", "_law_prime", "_law_many"] (spD K 3 ZU):=
 JI (k:=0) O_7.fn Z3M rfl rfl λcdv A outer s H E hr=>(Ze (Zp (Y9 JP (Y9 JP (Y9 QQ (sv 0) Z4) (sv 1)) (sv 2))))
theorem Z3L:FnScope ["_law_cell_here", "_law_letters", "_law_many"] ["_law_cell_here"] (Z2 YS):=⟨rfl,rfl,rfl,Oq,rfl,by decide +kernel,by decide +kernel⟩
theorem Z3Z {f_8:Addr}{fd_8:FuncData}(T:Txt K mg)(O_8:Own K mg "_law_name" YS f_8 fd_8 ["_law_cell_here"]){f_7:Addr}{fd_7:FuncData}(O_7:Own K mg "_law_mix" Qb f_7 fd_7 ["_law_cell_here", "_law_prime", "_law_many"])(G_7:FnOk P w K mg base CX0 1 f_7 fd_7 ["_law_cell_here", "_law_prime", "_law_many"] (spD K 3 ZU)):FnOk P w K mg base CX0 2 f_8 fd_8 ["_law_cell_here"] (spD K 1 Qi):=
 JI (k:=1) O_8.fn Z3L rfl rfl λcdv A outer s H E hr=>(Zb (ZM (i:=1) Oq rfl (Or.inr rfl) J6)
   (Zb (ZM (i:=2) Oq rfl (Or.inl rfl) (Y9 ZP Z4 (Z5 G_7 (hr.mono (by omega)) rfl O_7.mgf O_7.fn.kp O_7.b (Z1 (sv 0) (Z1 Z4 (Z1 Z4 Z8))) (Z0 (Z0 (Z0 Z7))))))
   (Zb (QA (YQ (QD (Y0 hr)) (Y9 JP (sv 0) Z4) Z4 (Y4 _)) (Zb (ZM (i:=1) Oq rfl (Or.inr rfl) J6)
   (Ze (ZM (i:=2) Oq rfl (Or.inl rfl) (Y9 ZP Z4 (Y9 JP (sv 2) Z4))))) Yq)
   (Ze (Zp (Ms J6 (Qa (tgs:=["_law_k"]) (cn:=["_law_cell_here", "_law_letters"]) (caps:=[0,1]) rfl ⟨by decide +kernel,rfl,by decide +kernel,Y8 (Z2 YS).names rfl (by decide +kernel),⟨⟨rfl,.inl rfl,rfl⟩,⟨⟨rfl,.inl rfl,rfl⟩,trivial⟩⟩⟩ (Us (sv 2) rfl T.n_range) (Zn (by decide)) Zr (λ_ _ _ _=>(Zw (i:=0) Z4g rfl (Or.inl rfl))) (λ_ _ _ _=>Qk) (λ_ _ _ _=>(Zq (Y0 hr) (sv 2) (Z5 G_7 (hr.mono (by omega)) rfl O_7.mgf O_7.fn.kp O_7.b (Z1 (Y9 ZP (sv 1) (Y9 QQ Z4 (sv 0))) (Z1 Z4 (Z1 (U0 (sv 2) rfl T.n_len YL) Z8))) (Z0 (Z0 (Z0 Z7)))))))))))))
theorem Z3K:FnScope ["_law_found", "_law_due"] ["_law_found", "_law_due"] (Z2 Qg):=⟨rfl,rfl,rfl,Z4f,rfl,by decide +kernel,by decide +kernel⟩
theorem Z2H {f_9:Addr}{fd_9:FuncData}(T:Txt K mg)(O_9:Own K mg "_law_same" Qg f_9 fd_9 ["_law_found", "_law_due"]):∀k:Nat,FnOk P w K mg base CX0 (k+1) f_9 fd_9 ["_law_found", "_law_due"] (spD K 2 (Yl k))
 |0=>II rfl
 |k+1=>by
  have Gr:=Z2H T O_9 k
  exact JI O_9.fn Z3K rfl rfl λcdv A outer s H E hr=>(Zb (QA (ZO (QC (Jk _) (sv 1) rfl T.n_isinstance Zc rfl T.n_tuple ZT)) (Zb (QA (FF (Th (Qe (ZO (QC (Jk _) (sv 0) rfl T.n_isinstance Zc rfl T.n_tuple ZT))) (JX (YQ (Ek (Y0 hr)) (U0 (sv 0) rfl T.n_len YL) (U0 (sv 1) rfl T.n_len YL) (Y4 _))))) (Ze (Zp Uu)) Yq)
   (Ze (Zp (UP rfl (Qa (tgs:=["_law_one", "_law_other"]) (cn:=[]) (caps:=[]) rfl ⟨by decide +kernel,rfl,by decide +kernel,Y8 (Z2 Qg).names rfl (by decide +kernel),trivial⟩ (E9 (sv 0) (sv 1) rfl T.n_zip Nf) (Te (Yz (Zn (by decide)) (Yz (Zn (by decide)) Ue ZY Q4) ZY (Jz ZY Q4))) (BZ (YV Zr (YV Zr TJ))) (λ_ _ _ _=>(Bs rfl (YT (Zw (i:=0) Z2L rfl (Or.inl rfl)) (YT (Zw (i:=1) Z2L rfl (Or.inl rfl)) Ts)))) (λ_ _ _ _=>Qk) (λ_ _ _ _=>(Z5 Gr (hr.mono (by omega)) rfl O_9.mgf O_9.fn.kp O_9.b (Z1 (sv 0) (Z1 (sv 1) Z8)) (Z0 (Z0 Z7))))) rfl T.n_all Q8)))) Yq)
   (Zb (QA (YQ El (sv 1) Ea (Y4 _)) (Ze (Zp (J7 El (sv 0) Ea (Y4 _)))) Yq)
   (Zb (QA (FF (Th (ZO (QC (Uc _) (sv 1) rfl T.n_isinstance Zc rfl T.n_bool QI)) (JX (ZO (QC (Uc _) (sv 0) rfl T.n_isinstance Zc rfl T.n_bool QI))))) (Ze (Zp (Yp (QC (Uc _) (sv 1) rfl T.n_isinstance Zc rfl T.n_bool QI) (Yp (QC (Uc _) (sv 0) rfl T.n_isinstance Zc rfl T.n_bool QI) (Ql (J7 (QD (Y0 hr)) (sv 0) (sv 1) (Y4 _))))))) Yq)
   (Ze (Zp (Yp (S7 (Lv _) (QW _) (sv 0) rfl T.n_isinstance Zc rfl T.n_int TV rfl T.n_str TU) (Ql (J7 (QD (Y0 hr)) (sv 0) (sv 1) (Y4 _)))))))))
theorem Z1m:FnScope ["_law_cell_here"] ["_law_cell_here"] (Z2 YZ):=⟨rfl,rfl,rfl,Z4e,rfl,by decide +kernel,by decide +kernel⟩
theorem Z1X {f_11:Addr}{fd_11:FuncData}(T:Txt K mg)(O_11:Own K mg "_law_which" YZ f_11 fd_11 ["_law_cell_here"]){f_7:Addr}{fd_7:FuncData}(O_7:Own K mg "_law_mix" Qb f_7 fd_7 ["_law_cell_here", "_law_prime", "_law_many"])(G_7:FnOk P w K mg base CX0 1 f_7 fd_7 ["_law_cell_here", "_law_prime", "_law_many"] (spD K 3 ZU)):FnOk P w K mg base CX0 2 f_11 fd_11 ["_law_cell_here"] (spD K 1 Ju):=
 JI (k:=1) O_11.fn Z1m rfl rfl λcdv A outer s H E hr=>(Ze (Zp (JZ (Z1 (Z5 G_7 (hr.mono (by omega)) rfl O_7.mgf O_7.fn.kp O_7.b (Z1 (sv 0) (Z1 Z4 (Z1 Z4 Z8))) (Z0 (Z0 (Z0 Z7)))) (Z1 (Y9 ZP (Y9 ZP Z4 (Z5 G_7 (hr.mono (by omega)) rfl O_7.mgf O_7.fn.kp O_7.b (Z1 (sv 0) (Z1 Z4 (Z1 Z4 Z8))) (Z0 (Z0 (Z0 Z7))))) (Y9 QQ Z4 (Y9 JP (sv 0) Z4))) Z8)))))
theorem Z3O:FnScope ["_law_cell_here", "_law_which_here", "_law_found", "_law_house", "_law_many"] ["_law_cell_here", "_law_which_here"] (Z2 Q0):=⟨rfl,rfl,rfl,Op,rfl,by decide +kernel,by decide +kernel⟩
theorem Z42 {f_5:Addr}{fd_5:FuncData}(T:Txt K mg)(O_5:Own K mg "_law_known" Q0 f_5 fd_5 ["_law_cell_here", "_law_which_here"]){f_7:Addr}{fd_7:FuncData}(O_7:Own K mg "_law_mix" Qb f_7 fd_7 ["_law_cell_here", "_law_prime", "_law_many"])(G_7:FnOk P w K mg base CX0 1 f_7 fd_7 ["_law_cell_here", "_law_prime", "_law_many"] (spD K 3 ZU)):FnOk P w K mg base CX0 2 f_5 fd_5 ["_law_cell_here", "_law_which_here"] (spD K 2 Jv):=
 JI (k:=1) O_5.fn Z3O rfl rfl λcdv A outer s H E hr=>(Zb (ZM (i:=2) Op rfl (Or.inl rfl) (Eb Z8))
   (Zb (Bi W1C rfl (Us Z4 rfl T.n_range) (Zw (i:=3) Op rfl (Or.inl rfl)) Zr (Zb (ZM (i:=4) Op rfl (Or.inl rfl) (Z5 G_7 (hr.mono (by omega)) rfl O_7.mgf O_7.fn.kp O_7.b (Z1 (Y9 ZP (sv 0) (Y9 QQ Z4 (sv 3))) (Z1 Z4 (Z1 Z4 Z8))) (Z0 (Z0 (Z0 Z7)))))
   (Zb (QA (YQ (QD (Y0 hr)) (sv 3) (Zq (Y0 hr) (sv 1) Z4) (Y4 _)) (Ze (ZM (i:=4) Op rfl (Or.inl rfl) (Y9 ZP (sv 4) (Zq (Y0 hr) (sv 1) Z4)))) Yq)
   (Ze (QA (YQ Eo (sv 4) Z4 (Y4 _)) (Ze (RC (Bm (sv 2) (JZ (Z1 (sv 3) (Z1 (sv 4) Z8)))))) Yq)))))
   (Ze (Zp (RL (sv 2) rfl T.n_tuple ZT)))))
theorem Z1n:FnScope ["_law_cell_here", "_law_signs", "_law_many"] ["_law_cell_here"] (Z2 Qf):=⟨rfl,rfl,rfl,Oo,rfl,by decide +kernel,by decide +kernel⟩
theorem Z1Y {f_10:Addr}{fd_10:FuncData}(T:Txt K mg)(O_10:Own K mg "_law_text" Qf f_10 fd_10 ["_law_cell_here"]){f_7:Addr}{fd_7:FuncData}(O_7:Own K mg "_law_mix" Qb f_7 fd_7 ["_law_cell_here", "_law_prime", "_law_many"])(G_7:FnOk P w K mg base CX0 1 f_7 fd_7 ["_law_cell_here", "_law_prime", "_law_many"] (spD K 3 ZU)):FnOk P w K mg base CX0 2 f_10 fd_10 ["_law_cell_here"] (spD K 1 Yt):=
 JI (k:=1) O_10.fn Z1n rfl rfl λcdv A outer s H E hr=>(Zb (ZM (i:=1) Oo rfl (Or.inr rfl) J6)
   (Zb (ZM (i:=2) Oo rfl (Or.inl rfl) (Z5 G_7 (hr.mono (by omega)) rfl O_7.mgf O_7.fn.kp O_7.b (Z1 (sv 0) (Z1 Z4 (Z1 Z4 Z8))) (Z0 (Z0 (Z0 Z7)))))
   (Zb (QA (YQ (QD (Y0 hr)) (Z5 G_7 (hr.mono (by omega)) rfl O_7.mgf O_7.fn.kp O_7.b (Z1 (sv 0) (Z1 Z4 (Z1 Z4 Z8))) (Z0 (Z0 (Z0 Z7)))) Z4 (Y4 _)) (Ze (ZM (i:=2) Oo rfl (Or.inl rfl) Z4)) Yq)
   (Zb (QA (YQ (QD (Y0 hr)) (Z5 G_7 (hr.mono (by omega)) rfl O_7.mgf O_7.fn.kp O_7.b (Z1 (sv 0) (Z1 Z4 (Z1 Z4 Z8))) (Z0 (Z0 (Z0 Z7)))) Z4 (Y4 _)) (Ze (ZM (i:=2) Oo rfl (Or.inl rfl) (Z5 G_7 (hr.mono (by omega)) rfl O_7.mgf O_7.fn.kp O_7.b (Z1 (sv 0) (Z1 Z4 (Z1 Z4 Z8))) (Z0 (Z0 (Z0 Z7)))))) Yq)
   (Zb (QA (YQ (QD (Y0 hr)) (Y9 JP (sv 0) Z4) Z4 (Y4 _)) (Ze (Zp (Zq (Y0 hr) (JZ (Z1 J6 (Z1 J6 (Z1 J6 Z8)))) (Z5 G_7 (hr.mono (by omega)) rfl O_7.mgf O_7.fn.kp O_7.b (Z1 (sv 0) (Z1 Z4 (Z1 Z4 Z8))) (Z0 (Z0 (Z0 Z7))))))) Yq)
   (Ze (Zp (Ms J6 (Qa (tgs:=["_law_k"]) (cn:=["_law_cell_here", "_law_signs"]) (caps:=[0,1]) rfl ⟨by decide +kernel,rfl,by decide +kernel,Y8 (Z2 Qf).names rfl (by decide +kernel),⟨⟨rfl,.inl rfl,rfl⟩,⟨⟨rfl,.inl rfl,rfl⟩,trivial⟩⟩⟩ (Us (sv 2) rfl T.n_range) (Zn (by decide)) Zr (λ_ _ _ _=>(Zw (i:=0) Z4d rfl (Or.inl rfl))) (λ_ _ _ _=>Qk) (λ_ _ _ _=>(Zq (Y0 hr) (sv 2) (Z5 G_7 (hr.mono (by omega)) rfl O_7.mgf O_7.fn.kp O_7.b (Z1 (Y9 ZP (sv 1) (Y9 QQ Z4 (sv 0))) (Z1 Z4 (Z1 (U0 (sv 2) rfl T.n_len YL) Z8))) (Z0 (Z0 (Z0 Z7)))))))))))))))
theorem Z3N:FnScope ["_law_cell_here", "_law_known_here", "_law_kind", "_law_seed", "_law_found", "_law_k", "_law_house", "_law_most", "_law_mark", "_law_words"] ["_law_cell_here", "_law_known_here", "_law_kind", "_law_seed"] (Z2 Yk):=⟨rfl,rfl,rfl,SU,rfl,by decide +kernel,by decide +kernel⟩
theorem Z41 {f_6:Addr}{fd_6:FuncData}(T:Txt K mg)(O_6:Own K mg "_law_marked" Yk f_6 fd_6 ["_law_cell_here", "_law_known_here", "_law_kind", "_law_seed"]){f_7:Addr}{fd_7:FuncData}(O_7:Own K mg "_law_mix" Qb f_7 fd_7 ["_law_cell_here", "_law_prime", "_law_many"])(G_7:FnOk P w K mg base CX0 1 f_7 fd_7 ["_law_cell_here", "_law_prime", "_law_many"] (spD K 3 ZU)){f_8:Addr}{fd_8:FuncData}(O_8:Own K mg "_law_name" YS f_8 fd_8 ["_law_cell_here"])(G_8:FnOk P w K mg base CX0 2 f_8 fd_8 ["_law_cell_here"] (spD K 1 Qi)){f_10:Addr}{fd_10:FuncData}(O_10:Own K mg "_law_text" Qf f_10 fd_10 ["_law_cell_here"])(G_10:FnOk P w K mg base CX0 2 f_10 fd_10 ["_law_cell_here"] (spD K 1 Yt)):FnOk P w K mg base CX0 3 f_6 fd_6 ["_law_cell_here", "_law_known_here", "_law_kind", "_law_seed"] (spD K 4 Qj):=
 JI (k:=2) O_6.fn Z3N rfl rfl λcdv A outer s H E hr=>(Zb (ZM (i:=4) SU rfl (Or.inr rfl) HY)
   (Zb (Bi W1C rfl (Us (Z5 G_7 (hr.mono (by omega)) rfl O_7.mgf O_7.fn.kp O_7.b (Z1 (sv 0) (Z1 Z4 (Z1 Z4 Z8))) (Z0 (Z0 (Z0 Z7)))) rfl T.n_range) (Zw (i:=5) SU rfl (Or.inl rfl)) Zr (Zb (DA (Zq (Y0 hr) (sv 1) (Z5 G_7 (hr.mono (by omega)) rfl O_7.mgf O_7.fn.kp O_7.b (Z1 (Y9 ZP (sv 0) (Y9 QQ Z4 (sv 5))) (Z1 Z4 (Z1 (U0 (sv 1) rfl T.n_len YL) Z8))) (Z0 (Z0 (Z0 Z7))))) (Bs rfl (YT (Zw (i:=6) SU rfl (Or.inl rfl)) (YT (Zw (i:=7) SU rfl (Or.inl rfl)) Ts))) (BZ (YV Zr (YV Zr TJ))))
   (Zb (ZM (i:=8) SU rfl (Or.inl rfl) (JZ (Z1 (sv 6) (Z1 (Y9 ZP Z4 (Z5 G_7 (hr.mono (by omega)) rfl O_7.mgf O_7.fn.kp O_7.b (Z1 (Y9 ZP (sv 0) (Y9 QQ Z4 (sv 5))) (Z1 Z4 (Z1 (sv 7) Z8))) (Z0 (Z0 (Z0 Z7))))) Z8))))
   (Zb (ZM (i:=9) SU rfl (Or.inl rfl) (Y9 ZP (Y9 ZP (sv 3) (Y9 QQ Z4 (Zq (Y0 hr) (sv 8) Z4))) (Y9 QQ Z4 (Zq (Y0 hr) (sv 8) Z4))))
   (Zb (Ur (Y0 hr) (Z5 G_8 (hr.mono (by omega)) rfl O_8.mgf O_8.fn.kp O_8.b (Z1 (sv 9) Z8) (Z0 Z7)) (sv 4) (sv 8))
   (Ze (QA (YQ (QD (Y0 hr)) (sv 2) Z4 (Y4 _)) (Ze (Ur (Y0 hr) (Z5 G_10 (hr.mono (by omega)) rfl O_10.mgf O_10.fn.kp O_10.b (Z1 (sv 9) Z8) (Z0 Z7)) (sv 4) (sv 8))) Yq)))))))
   (Ze (Zp (GA (HW (tgs:=["_law_mark"]) (cn:=["_law_found"]) (caps:=[4]) rfl ⟨by decide +kernel,rfl,by decide +kernel,Y8 (Z2 Yk).names rfl (by decide +kernel),⟨⟨rfl,.inl rfl,rfl⟩,trivial⟩⟩ (Je (Z3J (Gb rfl (Z0O hr) (sv 4) rfl T.n_sorted Qx))) (Zn (by decide)) Zr (λ_ _ _ _=>(Zw (i:=0) Z4c rfl (Or.inl rfl))) (λ_ _ _ _=>Qk) (λ_ _ _ _=>(JZ (Z1 (sv 0) (Z1 (Zq (Y0 hr) (sv 1) (sv 0)) Z8))))) rfl T.n_tuple ZT)))))
theorem Z3S:FnScope ["_law_cell_here", "_law_which_here", "_law_first", "_law_seed", "_law_known_here"] ["_law_cell_here", "_law_which_here", "_law_first", "_law_seed"] (Z2 Qt):=⟨rfl,rfl,rfl,Z2K,rfl,by decide +kernel,by decide +kernel⟩
theorem Z46 {f_1:Addr}{fd_1:FuncData}(T:Txt K mg)(O_1:Own K mg "_law_file" Qt f_1 fd_1 ["_law_cell_here", "_law_which_here", "_law_first", "_law_seed"]){f_5:Addr}{fd_5:FuncData}(O_5:Own K mg "_law_known" Q0 f_5 fd_5 ["_law_cell_here", "_law_which_here"])(G_5:FnOk P w K mg base CX0 2 f_5 fd_5 ["_law_cell_here", "_law_which_here"] (spD K 2 Jv)){f_6:Addr}{fd_6:FuncData}(O_6:Own K mg "_law_marked" Yk f_6 fd_6 ["_law_cell_here", "_law_known_here", "_law_kind", "_law_seed"])(G_6:FnOk P w K mg base CX0 3 f_6 fd_6 ["_law_cell_here", "_law_known_here", "_law_kind", "_law_seed"] (spD K 4 Qj)):FnOk P w K mg base CX0 4 f_1 fd_1 ["_law_cell_here", "_law_which_here", "_law_first", "_law_seed"] (spD K 4 J3):=
 JI (k:=3) O_1.fn Z3S rfl rfl λcdv A outer s H E hr=>(Zb (ZM (i:=4) Z2K rfl (Or.inl rfl) (Z5 G_5 (hr.mono (by omega)) rfl O_5.mgf O_5.fn.kp O_5.b (Z1 (sv 0) (Z1 (sv 1) Z8)) (Z0 (Z0 Z7))))
   (Ze (Zp (JZ (Z1 (sv 1) (Z1 (sv 2) (Z1 (sv 4) (Z1 (Z5 G_6 (hr.mono (by omega)) rfl O_6.mgf O_6.fn.kp O_6.b (Z1 (Y9 ZP (sv 0) Z4) (Z1 (sv 4) (Z1 Z4 (Z1 (sv 3) Z8)))) (Z0 (Z0 (Z0 (Z0 Z7))))) (Z1 (Z5 G_6 (hr.mono (by omega)) rfl O_6.mgf O_6.fn.kp O_6.b (Z1 (Y9 ZP (sv 0) Z4) (Z1 (sv 4) (Z1 Z4 (Z1 (Y9 ZP (sv 3) Z4) Z8)))) (Z0 (Z0 (Z0 (Z0 Z7))))) Z8)))))))))
theorem Z3R:FnScope ["_law_mark", "_law_known_here"] ["_law_mark", "_law_known_here"] (Z2 U1):=⟨rfl,rfl,rfl,Z4b,rfl,by decide +kernel,by decide +kernel⟩
theorem Z45 {f_2:Addr}{fd_2:FuncData}(T:Txt K mg)(O_2:Own K mg "_law_in" U1 f_2 fd_2 ["_law_mark", "_law_known_here"]):FnOk P w K mg base CX0 1 f_2 fd_2 ["_law_mark", "_law_known_here"] (spD K 2 UX):=
 JI (k:=0) O_2.fn Z3R rfl rfl λcdv A outer s H E hr=>(Ze (Zp (Ec rfl (Qa (tgs:=["_law_house", "_law_count"]) (cn:=["_law_mark"]) (caps:=[0]) rfl ⟨by decide +kernel,rfl,by decide +kernel,Y8 (Z2 U1).names rfl (by decide +kernel),⟨⟨rfl,.inl rfl,rfl⟩,trivial⟩⟩ (Je (sv 1)) (Te (Yz (Zn (by decide)) (Yz (Zn (by decide)) Ue ZY Q4) ZY (Jz ZY Q4))) (BZ (YV Zr (YV Zr TJ))) (λ_ _ _ _=>(Bs rfl (YT (Zw (i:=0) Z2J rfl (Or.inl rfl)) (YT (Zw (i:=1) Z2J rfl (Or.inl rfl)) Ts)))) (λ_ _ _ _=>Qk) (λ_ _ _ _=>(Yp (J7 (QD (Y0 hr)) (sv 0) (Zq (Y0 hr) (sv 2) Z4) (Y4 _)) (Ql (J7 Ph (sv 1) (Zq (Y0 hr) (sv 2) Z4) (Y4 _)))))) rfl T.n_any Nh)))
theorem Z3P:FnScope ["_law_mine", "_law_my_known", "_law_yours", "_law_your_known", "_law_found"] ["_law_mine", "_law_my_known", "_law_yours", "_law_your_known"] (Z2 YD):=⟨rfl,rfl,rfl,Z0K,rfl,by decide +kernel,by decide +kernel⟩
theorem Z43 {f_4:Addr}{fd_4:FuncData}(T:Txt K mg)(O_4:Own K mg "_law_kept" YD f_4 fd_4 ["_law_mine", "_law_my_known", "_law_yours", "_law_your_known"]){f_2:Addr}{fd_2:FuncData}(O_2:Own K mg "_law_in" U1 f_2 fd_2 ["_law_mark", "_law_known_here"])(G_2:FnOk P w K mg base CX0 1 f_2 fd_2 ["_law_mark", "_law_known_here"] (spD K 2 UX)):FnOk P w K mg base CX0 2 f_4 fd_4 ["_law_mine", "_law_my_known", "_law_yours", "_law_your_known"] (spD K 4 Qy):=
 JI (k:=1) O_4.fn Z3P rfl rfl λcdv A outer s H E hr=>(Zb (RB (i:=4) Z0K rfl rfl (tgs:=["_law_pair"]) (cn:=["_law_yours"]) (caps:=[2]) rfl ⟨by decide +kernel,rfl,by decide +kernel,Y8 (Z2 YD).names rfl (by decide +kernel),⟨⟨rfl,.inl rfl,rfl⟩,trivial⟩⟩ (Je (sv 0)) (Zn (by decide)) Zr (λ_ _ _ _=>(Zw (i:=0) Z4a rfl (Or.inl rfl))) (λ_ _ _ _=>Bk (YQ (Em (Y0 hr)) (sv 0) (sv 1) (by with_unfolding_all rfl))) (λ_ _ _ _=>(sv 0)))
   (Zb (ZM (i:=4) Z0K rfl (Or.inl rfl) (Y9 ZP (sv 4) (Tn (tgs:=["_law_pair"]) (cn:=["_law_your_known"]) (caps:=[3]) rfl ⟨by decide +kernel,rfl,by decide +kernel,Y8 (Z2 YD).names rfl (by decide +kernel),⟨⟨rfl,.inl rfl,rfl⟩,trivial⟩⟩ (Je (sv 0)) (Zn (by decide)) Zr (λ_ _ _ _=>(Zw (i:=0) Z49 rfl (Or.inl rfl))) (λ_ _ _ _=>Bk (Qe (ZO (Z5 G_2 (hr.mono (by omega)) rfl O_2.mgf O_2.fn.kp O_2.b (Z1 (Zq (Y0 hr) (sv 0) Z4) (Z1 (sv 1) Z8)) (Z0 (Z0 Z7)))))) (λ_ _ _ _=>(sv 0)))))
   (Zb (ZM (i:=4) Z0K rfl (Or.inl rfl) (Y9 ZP (sv 4) (Tn (tgs:=["_law_pair"]) (cn:=["_law_my_known"]) (caps:=[1]) rfl ⟨by decide +kernel,rfl,by decide +kernel,Y8 (Z2 YD).names rfl (by decide +kernel),⟨⟨rfl,.inl rfl,rfl⟩,trivial⟩⟩ (Je (sv 2)) (Zn (by decide)) Zr (λ_ _ _ _=>(Zw (i:=0) Z48 rfl (Or.inl rfl))) (λ_ _ _ _=>Bk (Qe (ZO (Z5 G_2 (hr.mono (by omega)) rfl O_2.mgf O_2.fn.kp O_2.b (Z1 (Zq (Y0 hr) (sv 0) Z4) (Z1 (sv 1) Z8)) (Z0 (Z0 Z7)))))) (λ_ _ _ _=>(sv 0)))))
   (Ze (Zp (GA (Gb rfl (Z0O hr) (sv 4) rfl T.n_sorted Qx) rfl T.n_tuple ZT))))))
theorem Z3Q:FnScope ["_law_one", "_law_other", "_law_known_here", "_law_house", "_law_many", "_law_names"] ["_law_one", "_law_other"] (Z2 YE):=⟨rfl,rfl,rfl,On,rfl,by decide +kernel,by decide +kernel⟩
theorem Z44 {f_3:Addr}{fd_3:FuncData}(T:Txt K mg)(O_3:Own K mg "_law_joint" YE f_3 fd_3 ["_law_one", "_law_other"]){f_4:Addr}{fd_4:FuncData}(O_4:Own K mg "_law_kept" YD f_4 fd_4 ["_law_mine", "_law_my_known", "_law_yours", "_law_your_known"])(G_4:FnOk P w K mg base CX0 2 f_4 fd_4 ["_law_mine", "_law_my_known", "_law_yours", "_law_your_known"] (spD K 4 Qy)):FnOk P w K mg base CX0 3 f_3 fd_3 ["_law_one", "_law_other"] (spD K 2 QK):=
 JI (k:=2) O_3.fn Z3Q rfl rfl λcdv A outer s H E hr=>(Zb (ZM (i:=2) On rfl (Or.inl rfl) (Eb Z8))
   (Zb (Bi W1C rfl (Us Z4 rfl T.n_range) (Zw (i:=3) On rfl (Or.inr rfl)) Zr (Zb (ZM (i:=4) On rfl (Or.inl rfl) (HZ rfl (Tn (tgs:=["_law_place", "_law_count"]) (cn:=["_law_house"]) (caps:=[3]) rfl ⟨by decide +kernel,rfl,by decide +kernel,Y8 (Z2 YE).names rfl (by decide +kernel),⟨⟨rfl,.inl rfl,rfl⟩,trivial⟩⟩ (Je (Y9 ZP (Zq (Y0 hr) (sv 0) Z4) (Zq (Y0 hr) (sv 1) Z4))) (Te (Yz (Zn (by decide)) (Yz (Zn (by decide)) Ue ZY Q4) ZY (Jz ZY Q4))) (BZ (YV Zr (YV Zr TJ))) (λ_ _ _ _=>(Bs rfl (YT (Zw (i:=0) Z2I rfl (Or.inl rfl)) (YT (Zw (i:=1) Z2I rfl (Or.inl rfl)) Ts)))) (λ_ _ _ _=>Bk (YQ (QD (Y0 hr)) (sv 0) (sv 2) (Y4 _))) (λ_ _ _ _=>(sv 1))) Z4 rfl T.n_max Ng))
   (Ze (QA (YQ Eo (sv 4) Z4 (Y4 _)) (Ze (RC (Bm (sv 2) (JZ (Z1 (sv 3) (Z1 (sv 4) Z8)))))) Yq))))
   (Zb (ZM (i:=5) On rfl (Or.inl rfl) (Z5 G_4 (hr.mono (by omega)) rfl O_4.mgf O_4.fn.kp O_4.b (Z1 (Zq (Y0 hr) (sv 0) Z4) (Z1 (Zq (Y0 hr) (sv 0) Z4) (Z1 (Zq (Y0 hr) (sv 1) Z4) (Z1 (Zq (Y0 hr) (sv 1) Z4) Z8)))) (Z0 (Z0 (Z0 (Z0 Z7))))))
   (Ze (Zp (JZ (Z1 (Zq (Y0 hr) (sv 0) Z4) (Z1 (Zq (Y0 hr) (sv 0) Z4) (Z1 (RL (sv 2) rfl T.n_tuple ZT) (Z1 (sv 5) (Z1 (Z5 G_4 (hr.mono (by omega)) rfl O_4.mgf O_4.fn.kp O_4.b (Z1 (Zq (Y0 hr) (sv 0) Z4) (Z1 (Zq (Y0 hr) (sv 0) Z4) (Z1 (Zq (Y0 hr) (sv 1) Z4) (Z1 (Zq (Y0 hr) (sv 1) Z4) Z8)))) (Z0 (Z0 (Z0 (Z0 Z7))))) Z8)))))))))))
theorem Z14:FnScope ["_law_script", "_law_k", "_law_cell_here", "_law_which_here", "_law_first", "_law_seed", "_law_one", "_law_other", "_law_due"] ["_law_script"] (Z2 G2):=⟨rfl,rfl,rfl,A9,rfl,by decide +kernel,by decide +kernel⟩
theorem Z1F {f_29:Addr}{fd_29:FuncData}(T:Txt K mg)(O_29:Own K mg "law" G2 f_29 fd_29 ["_law_script"]){f_16:Addr}{fd_16:FuncData}(O_16:Own K mg "has_heard" Y3 f_16 fd_16 ["known", "other"])(G_16:FnOk P w K mg base CX0 2 f_16 fd_16 ["known", "other"] (spD K 2 ZK)){f_18:Addr}{fd_18:FuncData}(O_18:Own K mg "is_file" YY f_18 fd_18 ["thing"])(G_18:FnOk P w K mg base CX0 7 f_18 fd_18 ["thing"] (spD K 1 Qo)){f_32:Addr}{fd_32:FuncData}(O_32:Own K mg "put_together" ZQ f_32 fd_32 ["one", "other"])(G_32:FnOk P w K mg base CX0 4 f_32 fd_32 ["one", "other"] (spD K 2 Zs)){f_0:Addr}{fd_0:FuncData}(O_0:Own K mg "_law_cell" Qu f_0 fd_0 ["_law_script", "_law_k"])(G_0:FnOk P w K mg base CX0 1 f_0 fd_0 ["_law_script", "_law_k"] (spD K 2 Yu)){f_8:Addr}{fd_8:FuncData}(O_8:Own K mg "_law_name" YS f_8 fd_8 ["_law_cell_here"])(G_8:FnOk P w K mg base CX0 2 f_8 fd_8 ["_law_cell_here"] (spD K 1 Qi)){f_9:Addr}{fd_9:FuncData}(O_9:Own K mg "_law_same" Qg f_9 fd_9 ["_law_found", "_law_due"])(G_9:FnOk P w K mg base CX0 13 f_9 fd_9 ["_law_found", "_law_due"] (spD K 2 (Yl 12))){f_11:Addr}{fd_11:FuncData}(O_11:Own K mg "_law_which" YZ f_11 fd_11 ["_law_cell_here"])(G_11:FnOk P w K mg base CX0 2 f_11 fd_11 ["_law_cell_here"] (spD K 1 Ju)){f_1:Addr}{fd_1:FuncData}(O_1:Own K mg "_law_file" Qt f_1 fd_1 ["_law_cell_here", "_law_which_here", "_law_first", "_law_seed"])(G_1:FnOk P w K mg base CX0 4 f_1 fd_1 ["_law_cell_here", "_law_which_here", "_law_first", "_law_seed"] (spD K 4 J3)){f_3:Addr}{fd_3:FuncData}(O_3:Own K mg "_law_joint" YE f_3 fd_3 ["_law_one", "_law_other"])(G_3:FnOk P w K mg base CX0 3 f_3 fd_3 ["_law_one", "_law_other"] (spD K 2 QK)):FnOk P w K mg base CX0 14 f_29 fd_29 ["_law_script"] (spD K 1 F_law):=
 JI (k:=13) O_29.fn Z14 rfl rfl λcdv A outer s H E hr=>(Zb (Bi W1C rfl (Us Z4 rfl T.n_range) (Zw (i:=1) A9 rfl (Or.inl rfl)) Zr (Zb (ZM (i:=2) A9 rfl (Or.inl rfl) (Z5 G_0 (hr.mono (by omega)) rfl O_0.mgf O_0.fn.kp O_0.b (Z1 (sv 0) (Z1 (sv 1) Z8)) (Z0 (Z0 Z7))))
   (Zb (ZM (i:=3) A9 rfl (Or.inl rfl) (Z5 G_11 (hr.mono (by omega)) rfl O_11.mgf O_11.fn.kp O_11.b (Z1 (Z5 G_0 (hr.mono (by omega)) rfl O_0.mgf O_0.fn.kp O_0.b (Z1 (sv 0) (Z1 (Y9 ZP (sv 1) Z4) Z8)) (Z0 (Z0 Z7))) Z8) (Z0 Z7)))
   (Zb (ZM (i:=4) A9 rfl (Or.inl rfl) (Z5 G_8 (hr.mono (by omega)) rfl O_8.mgf O_8.fn.kp O_8.b (Z1 (Z5 G_0 (hr.mono (by omega)) rfl O_0.mgf O_0.fn.kp O_0.b (Z1 (sv 0) (Z1 Z4 Z8)) (Z0 (Z0 Z7))) Z8) (Z0 Z7)))
   (Zb (ZM (i:=5) A9 rfl (Or.inl rfl) (Z5 G_0 (hr.mono (by omega)) rfl O_0.mgf O_0.fn.kp O_0.b (Z1 (sv 0) (Z1 Z4 Z8)) (Z0 (Z0 Z7))))
   (Zb (ZM (i:=6) A9 rfl (Or.inl rfl) (Z5 G_1 (hr.mono (by omega)) rfl O_1.mgf O_1.fn.kp O_1.b (Z1 (sv 2) (Z1 (sv 3) (Z1 (sv 4) (Z1 (sv 5) Z8)))) (Z0 (Z0 (Z0 (Z0 Z7))))))
   (Zb (ZM (i:=7) A9 rfl (Or.inl rfl) (Z5 G_1 (hr.mono (by omega)) rfl O_1.mgf O_1.fn.kp O_1.b (Z1 (Y9 ZP (Y9 ZP (sv 2) Z4) (sv 1)) (Z1 (sv 3) (Z1 (sv 4) (Z1 (Y9 ZP (sv 5) (S8 (J7 (QD (Y0 hr)) (Y9 JP (sv 2) Z4) Z4 (Y4 _)) rfl T.n_int TV)) Z8)))) (Z0 (Z0 (Z0 (Z0 Z7))))))
   (Zb (ZM (i:=8) A9 rfl (Or.inl rfl) (Z5 G_3 (hr.mono (by omega)) rfl O_3.mgf O_3.fn.kp O_3.b (Z1 (sv 6) (Z1 (sv 7) Z8)) (Z0 (Z0 Z7))))
   (Zb (QA (FF (Th (Qe (ZO (Z5 G_9 (hr.mono (by omega)) rfl O_9.mgf O_9.fn.kp O_9.b (Z1 (Z5 G_32 (hr.mono (by omega)) rfl O_32.mgf O_32.fn.kp O_32.b (Z1 (sv 6) (Z1 (sv 7) Z8)) (Z0 (Z0 Z7))) (Z1 (sv 8) Z8)) (Z0 (Z0 Z7))))) (JX (Qe (ZO (Z5 G_9 (hr.mono (by omega)) rfl O_9.mgf O_9.fn.kp O_9.b (Z1 (Z5 G_32 (hr.mono (by omega)) rfl O_32.mgf O_32.fn.kp O_32.b (Z1 (sv 6) (Z1 (sv 7) Z8)) (Z0 (Z0 Z7))) (Z1 (sv 8) Z8)) (Z0 (Z0 Z7)))))))) (Ze (Zp Uu)) Yq)
   (Zb (QA (FF (Th (YQ Tt (Z5 G_18 (hr.mono (by omega)) rfl O_18.mgf O_18.fn.kp O_18.b (Z1 (sv 8) Z8) (Z0 Z7)) Uu (Y4 _)) (Th (YQ Tt (Z5 G_16 (hr.mono (by omega)) rfl O_16.mgf O_16.fn.kp O_16.b (Z1 (Zq (Y0 hr) (sv 8) Z4) (Z1 (Zq (Y0 hr) (sv 6) Z4) Z8)) (Z0 (Z0 Z7))) Uu (Y4 _)) (JX (YQ Tt (Z5 G_16 (hr.mono (by omega)) rfl O_16.mgf O_16.fn.kp O_16.b (Z1 (Zq (Y0 hr) (sv 8) Z4) (Z1 (Zq (Y0 hr) (sv 7) Z4) Z8)) (Z0 (Z0 Z7))) Uu (Y4 _)))))) (Ze (Zp Uu)) Yq)
   (Zb (QA (FF (Th (Qe (ZO (Z5 G_9 (hr.mono (by omega)) rfl O_9.mgf O_9.fn.kp O_9.b (Z1 (Z5 G_32 (hr.mono (by omega)) rfl O_32.mgf O_32.fn.kp O_32.b (Z1 (sv 6) (Z1 (sv 6) Z8)) (Z0 (Z0 Z7))) (Z1 (sv 6) Z8)) (Z0 (Z0 Z7))))) (JX (Qe (ZO (Z5 G_9 (hr.mono (by omega)) rfl O_9.mgf O_9.fn.kp O_9.b (Z1 (Z5 G_32 (hr.mono (by omega)) rfl O_32.mgf O_32.fn.kp O_32.b (Z1 (sv 8) (Z1 (sv 6) Z8)) (Z0 (Z0 Z7))) (Z1 (sv 8) Z8)) (Z0 (Z0 Z7)))))))) (Ze (Zp Uu)) Yq)
   (Ze (QA (YQ (Ek (Y0 hr)) (sv 6) (Z5 G_1 (hr.mono (by omega)) rfl O_1.mgf O_1.fn.kp O_1.b (Z1 (sv 2) (Z1 (sv 3) (Z1 (sv 4) (Z1 (sv 5) Z8)))) (Z0 (Z0 (Z0 (Z0 Z7))))) (Y4 _)) (Ze (Zp Uu)) Yq)))))))))))))
   (Ze (Zp Uu)))
end
theorem all_mk {l:PySem.W.OpenLaw}{w:World}{K:Wd}{h:Heap}{mg:Str->Option Value}{fa:Addr}(X:K.In h)(G:h.Ns Wx mg)(hfa:mg "law" = some (.ref fa))
  {od0 an0:Option Addr} {sl0:Array (Option Value)} {oc0 kV0 dc0 pm0 cd0 ct0:Value} {f0:Addr}
  {od1 an1:Option Addr} {sl1:Array (Option Value)} {oc1 kV1 dc1 pm1 cd1 ct1:Value} {f1:Addr}
  {od2 an2:Option Addr} {sl2:Array (Option Value)} {oc2 kV2 dc2 pm2 cd2 ct2:Value} {f2:Addr}
  {od3 an3:Option Addr} {sl3:Array (Option Value)} {oc3 kV3 dc3 pm3 cd3 ct3:Value} {f3:Addr}
  {od4 an4:Option Addr} {sl4:Array (Option Value)} {oc4 kV4 dc4 pm4 cd4 ct4:Value} {f4:Addr}
  {od5 an5:Option Addr} {sl5:Array (Option Value)} {oc5 kV5 dc5 pm5 cd5 ct5:Value} {f5:Addr}
  {od6 an6:Option Addr} {sl6:Array (Option Value)} {oc6 kV6 dc6 pm6 cd6 ct6:Value} {f6:Addr}
  {od7 an7:Option Addr} {sl7:Array (Option Value)} {oc7 kV7 dc7 pm7 cd7 ct7:Value} {f7:Addr}
  {od8 an8:Option Addr} {sl8:Array (Option Value)} {oc8 kV8 dc8 pm8 cd8 ct8:Value} {f8:Addr}
  {od9 an9:Option Addr} {sl9:Array (Option Value)} {oc9 kV9 dc9 pm9 cd9 ct9:Value} {f9:Addr}
  {od10 an10:Option Addr} {sl10:Array (Option Value)} {oc10 kV10 dc10 pm10 cd10 ct10:Value} {f10:Addr}
  {od11 an11:Option Addr} {sl11:Array (Option Value)} {oc11 kV11 dc11 pm11 cd11 ct11:Value} {f11:Addr}
  {od12 an12:Option Addr} {sl12:Array (Option Value)} {oc12 kV12 dc12 pm12 cd12 ct12:Value} {f12:Addr}
  {od13 an13:Option Addr} {sl13:Array (Option Value)} {oc13 kV13 dc13 pm13 cd13 ct13:Value} {f13:Addr}
  {od14 an14:Option Addr} {sl14:Array (Option Value)} {oc14 kV14 dc14 pm14 cd14 ct14:Value} {f14:Addr}
  {od15 an15:Option Addr} {sl15:Array (Option Value)} {oc15 kV15 dc15 pm15 cd15 ct15:Value} {f15:Addr}
  {od16 an16:Option Addr} {sl16:Array (Option Value)} {oc16 kV16 dc16 pm16 cd16 ct16:Value} {f16:Addr}
  {od17 an17:Option Addr} {sl17:Array (Option Value)} {oc17 kV17 dc17 pm17 cd17 ct17:Value} {f17:Addr}
  {od18 an18:Option Addr} {sl18:Array (Option Value)} {oc18 kV18 dc18 pm18 cd18 ct18:Value} {f18:Addr}
  {od19 an19:Option Addr} {sl19:Array (Option Value)} {oc19 kV19 dc19 pm19 cd19 ct19:Value} {f19:Addr}
  {od20 an20:Option Addr} {sl20:Array (Option Value)} {oc20 kV20 dc20 pm20 cd20 ct20:Value} {f20:Addr}
  {od21 an21:Option Addr} {sl21:Array (Option Value)} {oc21 kV21 dc21 pm21 cd21 ct21:Value} {f21:Addr}
  {od22 an22:Option Addr} {sl22:Array (Option Value)} {oc22 kV22 dc22 pm22 cd22 ct22:Value} {f22:Addr}
  {od23 an23:Option Addr} {sl23:Array (Option Value)} {oc23 kV23 dc23 pm23 cd23 ct23:Value} {f23:Addr}
  {od24 an24:Option Addr} {sl24:Array (Option Value)} {oc24 kV24 dc24 pm24 cd24 ct24:Value} {f24:Addr}
  {od25 an25:Option Addr} {sl25:Array (Option Value)} {oc25 kV25 dc25 pm25 cd25 ct25:Value} {f25:Addr}
  {od26 an26:Option Addr} {sl26:Array (Option Value)} {oc26 kV26 dc26 pm26 cd26 ct26:Value} {f26:Addr}
  {od27 an27:Option Addr} {sl27:Array (Option Value)} {oc27 kV27 dc27 pm27 cd27 ct27:Value} {f27:Addr}
  {od28 an28:Option Addr} {sl28:Array (Option Value)} {oc28 kV28 dc28 pm28 cd28 ct28:Value} {f28:Addr}
  {od29 an29:Option Addr} {sl29:Array (Option Value)} {oc29 kV29 dc29 pm29 cd29 ct29:Value} {f29:Addr}
  {od30 an30:Option Addr} {sl30:Array (Option Value)} {oc30 kV30 dc30 pm30 cd30 ct30:Value} {f30:Addr}
  {od31 an31:Option Addr} {sl31:Array (Option Value)} {oc31 kV31 dc31 pm31 cd31 ct31:Value} {f31:Addr}
  {od32 an32:Option Addr} {sl32:Array (Option Value)} {oc32 kV32 dc32 pm32 cd32 ct32:Value} {f32:Addr}
  (a0:WB K Wx "is_within" = some (some (.ref f0))) (l0:K.lookup f0=some ⟨oc0,od0,.func (WO "is_within" "is_within" (Zm ZR) (Zk ZR) (Z2 ZR) .none kV0 dc0 pm0 an0 cd0 ct0),sl0⟩) (c0:WI K cd0 "is_within" = true) (k0:WF K (.ref f0)=true)
  (a1:WB K Wx "has_heard" = some (some (.ref f1))) (l1:K.lookup f1=some ⟨oc1,od1,.func (WO "has_heard" "has_heard" (Zm Y3) (Zk Y3) (Z2 Y3) .none kV1 dc1 pm1 an1 cd1 ct1),sl1⟩) (c1:WI K cd1 "has_heard" = true) (k1:WF K (.ref f1)=true)
  (a2:WB K Wx "has_signs_between" = some (some (.ref f2))) (l2:K.lookup f2=some ⟨oc2,od2,.func (WO "has_signs_between" "has_signs_between" (Zm Zh) (Zk Zh) (Z2 Zh) .none kV2 dc2 pm2 an2 cd2 ct2),sl2⟩) (c2:WI K cd2 "has_signs_between" = true) (k2:WF K (.ref f2)=true)
  (a3:WB K Wx "is_name" = some (some (.ref f3))) (l3:K.lookup f3=some ⟨oc3,od3,.func (WO "is_name" "is_name" (Zm YC) (Zk YC) (Z2 YC) .none kV3 dc3 pm3 an3 cd3 ct3),sl3⟩) (c3:WI K cd3 "is_name" = true) (k3:WF K (.ref f3)=true)
  (a4:WB K Wx "is_tuple_of_length" = some (some (.ref f4))) (l4:K.lookup f4=some ⟨oc4,od4,.func (WO "is_tuple_of_length" "is_tuple_of_length" (Zm Zd) (Zk Zd) (Z2 Zd) .none kV4 dc4 pm4 an4 cd4 ct4),sl4⟩) (c4:WI K cd4 "is_tuple_of_length" = true) (k4:WF K (.ref f4)=true)
  (a5:WB K Wx "is_whole" = some (some (.ref f5))) (l5:K.lookup f5=some ⟨oc5,od5,.func (WO "is_whole" "is_whole" (Zm Yj) (Zk Yj) (Z2 Yj) .none kV5 dc5 pm5 an5 cd5 ct5),sl5⟩) (c5:WI K cd5 "is_whole" = true) (k5:WF K (.ref f5)=true)
  (a6:WB K Wx "is_house" = some (some (.ref f6))) (l6:K.lookup f6=some ⟨oc6,od6,.func (WO "is_house" "is_house" (Zm Yy) (Zk Yy) (Z2 Yy) .none kV6 dc6 pm6 an6 cd6 ct6),sl6⟩) (c6:WI K cd6 "is_house" = true) (k6:WF K (.ref f6)=true)
  (a7:WB K Wx "is_mark" = some (some (.ref f7))) (l7:K.lookup f7=some ⟨oc7,od7,.func (WO "is_mark" "is_mark" (Zm Yr) (Zk Yr) (Z2 Yr) .none kV7 dc7 pm7 an7 cd7 ct7),sl7⟩) (c7:WI K cd7 "is_mark" = true) (k7:WF K (.ref f7)=true)
  (a8:WB K Wx "is_rising" = some (some (.ref f8))) (l8:K.lookup f8=some ⟨oc8,od8,.func (WO "is_rising" "is_rising" (Zm Y2) (Zk Y2) (Z2 Y2) .none kV8 dc8 pm8 an8 cd8 ct8),sl8⟩) (c8:WI K cd8 "is_rising" = true) (k8:WF K (.ref f8)=true)
  (a9:WB K Wx "is_known" = some (some (.ref f9))) (l9:K.lookup f9=some ⟨oc9,od9,.func (WO "is_known" "is_known" (Zm Yi) (Zk Yi) (Z2 Yi) .none kV9 dc9 pm9 an9 cd9 ct9),sl9⟩) (c9:WI K cd9 "is_known" = true) (k9:WF K (.ref f9)=true)
  (a10:WB K Wx "is_marked_pair" = some (some (.ref f10))) (l10:K.lookup f10=some ⟨oc10,od10,.func (WO "is_marked_pair" "is_marked_pair" (Zm ZA) (Zk ZA) (Z2 ZA) .none kV10 dc10 pm10 an10 cd10 ct10),sl10⟩) (c10:WI K cd10 "is_marked_pair" = true) (k10:WF K (.ref f10)=true)
  (a11:WB K Wx "are_marked_pairs" = some (some (.ref f11))) (l11:K.lookup f11=some ⟨oc11,od11,.func (WO "are_marked_pairs" "are_marked_pairs" (Zm Zf) (Zk Zf) (Z2 Zf) .none kV11 dc11 pm11 an11 cd11 ct11),sl11⟩) (c11:WI K cd11 "are_marked_pairs" = true) (k11:WF K (.ref f11)=true)
  (a12:WB K Wx "are_names" = some (some (.ref f12))) (l12:K.lookup f12=some ⟨oc12,od12,.func (WO "are_names" "are_names" (Zm Yd) (Zk Yd) (Z2 Yd) .none kV12 dc12 pm12 an12 cd12 ct12),sl12⟩) (c12:WI K cd12 "are_names" = true) (k12:WF K (.ref f12)=true)
  (a13:WB K Wx "is_text" = some (some (.ref f13))) (l13:K.lookup f13=some ⟨oc13,od13,.func (WO "is_text" "is_text" (Zm YX) (Zk YX) (Z2 YX) .none kV13 dc13 pm13 an13 cd13 ct13),sl13⟩) (c13:WI K cd13 "is_text" = true) (k13:WF K (.ref f13)=true)
  (a14:WB K Wx "are_texts" = some (some (.ref f14))) (l14:K.lookup f14=some ⟨oc14,od14,.func (WO "are_texts" "are_texts" (Zm Yc) (Zk Yc) (Z2 Yc) .none kV14 dc14 pm14 an14 cd14 ct14),sl14⟩) (c14:WI K cd14 "are_texts" = true) (k14:WF K (.ref f14)=true)
  (a15:WB K Wx "is_file" = some (some (.ref f15))) (l15:K.lookup f15=some ⟨oc15,od15,.func (WO "is_file" "is_file" (Zm YY) (Zk YY) (Z2 YY) .none kV15 dc15 pm15 an15 cd15 ct15),sl15⟩) (c15:WI K cd15 "is_file" = true) (k15:WF K (.ref f15)=true)
  (a16:WB K Wx "greater_counts" = some (some (.ref f16))) (l16:K.lookup f16=some ⟨oc16,od16,.func (WO "greater_counts" "greater_counts" (Zm ZB) (Zk ZB) (Z2 ZB) .none kV16 dc16 pm16 an16 cd16 ct16),sl16⟩) (c16:WI K cd16 "greater_counts" = true) (k16:WF K (.ref f16)=true)
  (a17:WB K Wx "not_taken_away" = some (some (.ref f17))) (l17:K.lookup f17=some ⟨oc17,od17,.func (WO "not_taken_away" "not_taken_away" (Zm Zt) (Zk Zt) (Z2 Zt) .none kV17 dc17 pm17 an17 cd17 ct17),sl17⟩) (c17:WI K cd17 "not_taken_away" = true) (k17:WF K (.ref f17)=true)
  (a18:WB K Wx "pairs_together" = some (some (.ref f18))) (l18:K.lookup f18=some ⟨oc18,od18,.func (WO "pairs_together" "pairs_together" (Zm Zz) (Zk Zz) (Z2 Zz) .none kV18 dc18 pm18 an18 cd18 ct18),sl18⟩) (c18:WI K cd18 "pairs_together" = true) (k18:WF K (.ref f18)=true)
  (a19:WB K Wx "put_together" = some (some (.ref f19))) (l19:K.lookup f19=some ⟨oc19,od19,.func (WO "put_together" "put_together" (Zm ZQ) (Zk ZQ) (Z2 ZQ) .none kV19 dc19 pm19 an19 cd19 ct19),sl19⟩) (c19:WI K cd19 "put_together" = true) (k19:WF K (.ref f19)=true)
  (a20:WB K Wx "_law_cell" = some (some (.ref f20))) (l20:K.lookup f20=some ⟨oc20,od20,.func (WO "_law_cell" "_law_cell" (Zm Qu) (Zk Qu) (Z2 Qu) .none kV20 dc20 pm20 an20 cd20 ct20),sl20⟩) (c20:WI K cd20 "_law_cell" = true) (k20:WF K (.ref f20)=true)
  (a21:WB K Wx "_law_mix" = some (some (.ref f21))) (l21:K.lookup f21=some ⟨oc21,od21,.func (WO "_law_mix" "_law_mix" (Zm Qb) (Zk Qb) (Z2 Qb) .none kV21 dc21 pm21 an21 cd21 ct21),sl21⟩) (c21:WI K cd21 "_law_mix" = true) (k21:WF K (.ref f21)=true)
  (a22:WB K Wx "_law_name" = some (some (.ref f22))) (l22:K.lookup f22=some ⟨oc22,od22,.func (WO "_law_name" "_law_name" (Zm YS) (Zk YS) (Z2 YS) .none kV22 dc22 pm22 an22 cd22 ct22),sl22⟩) (c22:WI K cd22 "_law_name" = true) (k22:WF K (.ref f22)=true)
  (a23:WB K Wx "_law_same" = some (some (.ref f23))) (l23:K.lookup f23=some ⟨oc23,od23,.func (WO "_law_same" "_law_same" (Zm Qg) (Zk Qg) (Z2 Qg) .none kV23 dc23 pm23 an23 cd23 ct23),sl23⟩) (c23:WI K cd23 "_law_same" = true) (k23:WF K (.ref f23)=true)
  (a24:WB K Wx "_law_which" = some (some (.ref f24))) (l24:K.lookup f24=some ⟨oc24,od24,.func (WO "_law_which" "_law_which" (Zm YZ) (Zk YZ) (Z2 YZ) .none kV24 dc24 pm24 an24 cd24 ct24),sl24⟩) (c24:WI K cd24 "_law_which" = true) (k24:WF K (.ref f24)=true)
  (a25:WB K Wx "_law_known" = some (some (.ref f25))) (l25:K.lookup f25=some ⟨oc25,od25,.func (WO "_law_known" "_law_known" (Zm Q0) (Zk Q0) (Z2 Q0) .none kV25 dc25 pm25 an25 cd25 ct25),sl25⟩) (c25:WI K cd25 "_law_known" = true) (k25:WF K (.ref f25)=true)
  (a26:WB K Wx "_law_text" = some (some (.ref f26))) (l26:K.lookup f26=some ⟨oc26,od26,.func (WO "_law_text" "_law_text" (Zm Qf) (Zk Qf) (Z2 Qf) .none kV26 dc26 pm26 an26 cd26 ct26),sl26⟩) (c26:WI K cd26 "_law_text" = true) (k26:WF K (.ref f26)=true)
  (a27:WB K Wx "_law_marked" = some (some (.ref f27))) (l27:K.lookup f27=some ⟨oc27,od27,.func (WO "_law_marked" "_law_marked" (Zm Yk) (Zk Yk) (Z2 Yk) .none kV27 dc27 pm27 an27 cd27 ct27),sl27⟩) (c27:WI K cd27 "_law_marked" = true) (k27:WF K (.ref f27)=true)
  (a28:WB K Wx "_law_file" = some (some (.ref f28))) (l28:K.lookup f28=some ⟨oc28,od28,.func (WO "_law_file" "_law_file" (Zm Qt) (Zk Qt) (Z2 Qt) .none kV28 dc28 pm28 an28 cd28 ct28),sl28⟩) (c28:WI K cd28 "_law_file" = true) (k28:WF K (.ref f28)=true)
  (a29:WB K Wx "_law_in" = some (some (.ref f29))) (l29:K.lookup f29=some ⟨oc29,od29,.func (WO "_law_in" "_law_in" (Zm U1) (Zk U1) (Z2 U1) .none kV29 dc29 pm29 an29 cd29 ct29),sl29⟩) (c29:WI K cd29 "_law_in" = true) (k29:WF K (.ref f29)=true)
  (a30:WB K Wx "_law_kept" = some (some (.ref f30))) (l30:K.lookup f30=some ⟨oc30,od30,.func (WO "_law_kept" "_law_kept" (Zm YD) (Zk YD) (Z2 YD) .none kV30 dc30 pm30 an30 cd30 ct30),sl30⟩) (c30:WI K cd30 "_law_kept" = true) (k30:WF K (.ref f30)=true)
  (a31:WB K Wx "_law_joint" = some (some (.ref f31))) (l31:K.lookup f31=some ⟨oc31,od31,.func (WO "_law_joint" "_law_joint" (Zm YE) (Zk YE) (Z2 YE) .none kV31 dc31 pm31 an31 cd31 ct31),sl31⟩) (c31:WI K cd31 "_law_joint" = true) (k31:WF K (.ref f31)=true)
  (a32:WB K Wx "law" = some (some (.ref f32))) (l32:K.lookup f32=some ⟨oc32,od32,.func (WO "law" "law" (Zm G2) (Zk G2) (Z2 G2) .none kV32 dc32 pm32 an32 cd32 ct32),sl32⟩) (c32:WI K cd32 "law" = true) (k32:WF K (.ref f32)=true)
  (z_all:WB K Wx "all" = some none)
  (z_any:WB K Wx "any" = some none)
  (z_bool:WB K Wx "bool" = some none)
  (z_dict:WB K Wx "dict" = some none)
  (z_int:WB K Wx "int" = some none)
  (z_isinstance:WB K Wx "isinstance" = some none)
  (z_len:WB K Wx "len" = some none)
  (z_max:WB K Wx "max" = some none)
  (z_range:WB K Wx "range" = some none)
  (z_set:WB K Wx "set" = some none)
  (z_sorted:WB K Wx "sorted" = some none)
  (z_str:WB K Wx "str" = some none)
  (z_tuple:WB K Wx "tuple" = some none)
  (z_zip:WB K Wx "zip" = some none)
  {t_HOUSES:Tok} (y_HOUSES:WB K Wx "HOUSES" = some (some (.int 6 t_HOUSES)))
  {t_LONGEST_NAME:Tok} (y_LONGEST_NAME:WB K Wx "LONGEST_NAME" = some (some (.int 6 t_LONGEST_NAME)))
  {t_LONGEST_TEXT:Tok} (y_LONGEST_TEXT:WB K Wx "LONGEST_TEXT" = some (some (.int 60 t_LONGEST_TEXT))) :
  ∃fd:FuncData,(∀(s:Shared) (v:Value),BindsTo s fd ⟨[v],[]⟩ [("_law_script",v)])/\∀base:Heap,K.In base->base.Ns Wx mg->FnOk l.prog w K mg base CX0 14 fa fd ["_law_script"] (spD K 1 F_law):=by
 have e:=hfa.symm.trans (WM X G a32)
 cases e
 have T:Txt K mg:=⟨Vd X G z_all,Vd X G z_any,Vd X G z_bool,Vd X G z_dict,Vd X G z_int,Vd X G z_isinstance,Vd X G z_len,Vd X G z_max,Vd X G z_range,Vd X G z_set,Vd X G z_sorted,Vd X G z_str,Vd X G z_tuple,Vd X G z_zip,⟨_,WM X G y_HOUSES⟩,⟨_,WM X G y_LONGEST_NAME⟩,⟨_,WM X G y_LONGEST_TEXT⟩⟩
 have Fn0:=ZN (st:=ZR) l0 c0 k0
 have O_28:Own K mg "is_within" ZR _ _ ["mark", "known"]:=⟨Fn0,WM X G a0,Fn0.binds (ps:=["mark", "known"]) λ_ _ _ _ _ _ us hl=>match us,hl with|[_,_],_=>rfl⟩
 have Fn1:=ZN (st:=Y3) l1 c1 k1
 have O_16:Own K mg "has_heard" Y3 _ _ ["known", "other"]:=⟨Fn1,WM X G a1,Fn1.binds (ps:=["known", "other"]) λ_ _ _ _ _ _ us hl=>match us,hl with|[_,_],_=>rfl⟩
 have Fn2:=ZN (st:=Zh) l2 c2 k2
 have O_17:Own K mg "has_signs_between" Zh _ _ ["text", "least", "greatest"]:=⟨Fn2,WM X G a2,Fn2.binds (ps:=["text", "least", "greatest"]) λ_ _ _ _ _ _ us hl=>match us,hl with|[_,_,_],_=>rfl⟩
 have Fn3:=ZN (st:=YC) l3 c3 k3
 have O_23:Own K mg "is_name" YC _ _ ["thing"]:=⟨Fn3,WM X G a3,Fn3.binds (ps:=["thing"]) λ_ _ _ _ _ _ us hl=>match us,hl with|[_],_=>rfl⟩
 have Fn4:=ZN (st:=Zd) l4 c4 k4
 have O_26:Own K mg "is_tuple_of_length" Zd _ _ ["thing", "length"]:=⟨Fn4,WM X G a4,Fn4.binds (ps:=["thing", "length"]) λ_ _ _ _ _ _ us hl=>match us,hl with|[_,_],_=>rfl⟩
 have Fn5:=ZN (st:=Yj) l5 c5 k5
 have O_27:Own K mg "is_whole" Yj _ _ ["thing"]:=⟨Fn5,WM X G a5,Fn5.binds (ps:=["thing"]) λ_ _ _ _ _ _ us hl=>match us,hl with|[_],_=>rfl⟩
 have Fn6:=ZN (st:=Yy) l6 c6 k6
 have O_19:Own K mg "is_house" Yy _ _ ["thing"]:=⟨Fn6,WM X G a6,Fn6.binds (ps:=["thing"]) λ_ _ _ _ _ _ us hl=>match us,hl with|[_],_=>rfl⟩
 have Fn7:=ZN (st:=Yr) l7 c7 k7
 have O_21:Own K mg "is_mark" Yr _ _ ["thing"]:=⟨Fn7,WM X G a7,Fn7.binds (ps:=["thing"]) λ_ _ _ _ _ _ us hl=>match us,hl with|[_],_=>rfl⟩
 have Fn8:=ZN (st:=Y2) l8 c8 k8
 have O_24:Own K mg "is_rising" Y2 _ _ ["row"]:=⟨Fn8,WM X G a8,Fn8.binds (ps:=["row"]) λ_ _ _ _ _ _ us hl=>match us,hl with|[_],_=>rfl⟩
 have Fn9:=ZN (st:=Yi) l9 c9 k9
 have O_20:Own K mg "is_known" Yi _ _ ["thing"]:=⟨Fn9,WM X G a9,Fn9.binds (ps:=["thing"]) λ_ _ _ _ _ _ us hl=>match us,hl with|[_],_=>rfl⟩
 have Fn10:=ZN (st:=ZA) l10 c10 k10
 have O_22:Own K mg "is_marked_pair" ZA _ _ ["thing"]:=⟨Fn10,WM X G a10,Fn10.binds (ps:=["thing"]) λ_ _ _ _ _ _ us hl=>match us,hl with|[_],_=>rfl⟩
 have Fn11:=ZN (st:=Zf) l11 c11 k11
 have O_12:Own K mg "are_marked_pairs" Zf _ _ ["thing", "known"]:=⟨Fn11,WM X G a11,Fn11.binds (ps:=["thing", "known"]) λ_ _ _ _ _ _ us hl=>match us,hl with|[_,_],_=>rfl⟩
 have Fn12:=ZN (st:=Yd) l12 c12 k12
 have O_13:Own K mg "are_names" Yd _ _ ["thing", "known"]:=⟨Fn12,WM X G a12,Fn12.binds (ps:=["thing", "known"]) λ_ _ _ _ _ _ us hl=>match us,hl with|[_,_],_=>rfl⟩
 have Fn13:=ZN (st:=YX) l13 c13 k13
 have O_25:Own K mg "is_text" YX _ _ ["thing"]:=⟨Fn13,WM X G a13,Fn13.binds (ps:=["thing"]) λ_ _ _ _ _ _ us hl=>match us,hl with|[_],_=>rfl⟩
 have Fn14:=ZN (st:=Yc) l14 c14 k14
 have O_14:Own K mg "are_texts" Yc _ _ ["thing", "known"]:=⟨Fn14,WM X G a14,Fn14.binds (ps:=["thing", "known"]) λ_ _ _ _ _ _ us hl=>match us,hl with|[_,_],_=>rfl⟩
 have Fn15:=ZN (st:=YY) l15 c15 k15
 have O_18:Own K mg "is_file" YY _ _ ["thing"]:=⟨Fn15,WM X G a15,Fn15.binds (ps:=["thing"]) λ_ _ _ _ _ _ us hl=>match us,hl with|[_],_=>rfl⟩
 have Fn16:=ZN (st:=ZB) l16 c16 k16
 have O_15:Own K mg "greater_counts" ZB _ _ ["known", "other"]:=⟨Fn16,WM X G a16,Fn16.binds (ps:=["known", "other"]) λ_ _ _ _ _ _ us hl=>match us,hl with|[_,_],_=>rfl⟩
 have Fn17:=ZN (st:=Zt) l17 c17 k17
 have O_30:Own K mg "not_taken_away" Zt _ _ ["pairs", "other_pairs", "other_known"]:=⟨Fn17,WM X G a17,Fn17.binds (ps:=["pairs", "other_pairs", "other_known"]) λ_ _ _ _ _ _ us hl=>match us,hl with|[_,_,_],_=>rfl⟩
 have Fn18:=ZN (st:=Zz) l18 c18 k18
 have O_31:Own K mg "pairs_together" Zz _ _ ["pairs", "known", "other_pairs", "other_known"]:=⟨Fn18,WM X G a18,Fn18.binds (ps:=["pairs", "known", "other_pairs", "other_known"]) λ_ _ _ _ _ _ us hl=>match us,hl with|[_,_,_,_],_=>rfl⟩
 have Fn19:=ZN (st:=ZQ) l19 c19 k19
 have O_32:Own K mg "put_together" ZQ _ _ ["one", "other"]:=⟨Fn19,WM X G a19,Fn19.binds (ps:=["one", "other"]) λ_ _ _ _ _ _ us hl=>match us,hl with|[_,_],_=>rfl⟩
 have Fn20:=ZN (st:=Qu) l20 c20 k20
 have O_0:Own K mg "_law_cell" Qu _ _ ["_law_script", "_law_k"]:=⟨Fn20,WM X G a20,Fn20.binds (ps:=["_law_script", "_law_k"]) λ_ _ _ _ _ _ us hl=>match us,hl with|[_,_],_=>rfl⟩
 have Fn21:=ZN (st:=Qb) l21 c21 k21
 have O_7:Own K mg "_law_mix" Qb _ _ ["_law_cell_here", "_law_prime", "_law_many"]:=⟨Fn21,WM X G a21,Fn21.binds (ps:=["_law_cell_here", "_law_prime", "_law_many"]) λ_ _ _ _ _ _ us hl=>match us,hl with|[_,_,_],_=>rfl⟩
 have Fn22:=ZN (st:=YS) l22 c22 k22
 have O_8:Own K mg "_law_name" YS _ _ ["_law_cell_here"]:=⟨Fn22,WM X G a22,Fn22.binds (ps:=["_law_cell_here"]) λ_ _ _ _ _ _ us hl=>match us,hl with|[_],_=>rfl⟩
 have Fn23:=ZN (st:=Qg) l23 c23 k23
 have O_9:Own K mg "_law_same" Qg _ _ ["_law_found", "_law_due"]:=⟨Fn23,WM X G a23,Fn23.binds (ps:=["_law_found", "_law_due"]) λ_ _ _ _ _ _ us hl=>match us,hl with|[_,_],_=>rfl⟩
 have Fn24:=ZN (st:=YZ) l24 c24 k24
 have O_11:Own K mg "_law_which" YZ _ _ ["_law_cell_here"]:=⟨Fn24,WM X G a24,Fn24.binds (ps:=["_law_cell_here"]) λ_ _ _ _ _ _ us hl=>match us,hl with|[_],_=>rfl⟩
 have Fn25:=ZN (st:=Q0) l25 c25 k25
 have O_5:Own K mg "_law_known" Q0 _ _ ["_law_cell_here", "_law_which_here"]:=⟨Fn25,WM X G a25,Fn25.binds (ps:=["_law_cell_here", "_law_which_here"]) λ_ _ _ _ _ _ us hl=>match us,hl with|[_,_],_=>rfl⟩
 have Fn26:=ZN (st:=Qf) l26 c26 k26
 have O_10:Own K mg "_law_text" Qf _ _ ["_law_cell_here"]:=⟨Fn26,WM X G a26,Fn26.binds (ps:=["_law_cell_here"]) λ_ _ _ _ _ _ us hl=>match us,hl with|[_],_=>rfl⟩
 have Fn27:=ZN (st:=Yk) l27 c27 k27
 have O_6:Own K mg "_law_marked" Yk _ _ ["_law_cell_here", "_law_known_here", "_law_kind", "_law_seed"]:=⟨Fn27,WM X G a27,Fn27.binds (ps:=["_law_cell_here", "_law_known_here", "_law_kind", "_law_seed"]) λ_ _ _ _ _ _ us hl=>match us,hl with|[_,_,_,_],_=>rfl⟩
 have Fn28:=ZN (st:=Qt) l28 c28 k28
 have O_1:Own K mg "_law_file" Qt _ _ ["_law_cell_here", "_law_which_here", "_law_first", "_law_seed"]:=⟨Fn28,WM X G a28,Fn28.binds (ps:=["_law_cell_here", "_law_which_here", "_law_first", "_law_seed"]) λ_ _ _ _ _ _ us hl=>match us,hl with|[_,_,_,_],_=>rfl⟩
 have Fn29:=ZN (st:=U1) l29 c29 k29
 have O_2:Own K mg "_law_in" U1 _ _ ["_law_mark", "_law_known_here"]:=⟨Fn29,WM X G a29,Fn29.binds (ps:=["_law_mark", "_law_known_here"]) λ_ _ _ _ _ _ us hl=>match us,hl with|[_,_],_=>rfl⟩
 have Fn30:=ZN (st:=YD) l30 c30 k30
 have O_4:Own K mg "_law_kept" YD _ _ ["_law_mine", "_law_my_known", "_law_yours", "_law_your_known"]:=⟨Fn30,WM X G a30,Fn30.binds (ps:=["_law_mine", "_law_my_known", "_law_yours", "_law_your_known"]) λ_ _ _ _ _ _ us hl=>match us,hl with|[_,_,_,_],_=>rfl⟩
 have Fn31:=ZN (st:=YE) l31 c31 k31
 have O_3:Own K mg "_law_joint" YE _ _ ["_law_one", "_law_other"]:=⟨Fn31,WM X G a31,Fn31.binds (ps:=["_law_one", "_law_other"]) λ_ _ _ _ _ _ us hl=>match us,hl with|[_,_],_=>rfl⟩
 have Fn32:=ZN (st:=G2) l32 c32 k32
 have O_29:Own K mg "law" G2 _ _ ["_law_script"]:=⟨Fn32,WM X G a32,Fn32.binds (ps:=["_law_script"]) λ_ _ _ _ _ _ us hl=>match us,hl with|[_],_=>rfl⟩
 refine⟨WO "law" "law" (Zm G2) (Zk G2) (Z2 G2) .none kV32 dc32 pm32 an32 cd32 ct32,λs v=>.of_eq rfl,λbase _ _=>?_⟩
 have G_28:=Z1G (P:=l.prog) (w:=w) (base:=base) T O_28
 have G_16:=Z1S (P:=l.prog) (w:=w) (base:=base) T O_16 O_28 G_28
 have G_17:=Z1R (P:=l.prog) (w:=w) (base:=base) T O_17
 have G_23:=Z1L (P:=l.prog) (w:=w) (base:=base) T O_23 O_17 G_17
 have G_26:=Z1I (P:=l.prog) (w:=w) (base:=base) T O_26
 have G_27:=Z1H (P:=l.prog) (w:=w) (base:=base) T O_27
 have G_19:=Z1P (P:=l.prog) (w:=w) (base:=base) T O_19 O_27 G_27
 have G_21:=Z1N (P:=l.prog) (w:=w) (base:=base) T O_21 O_27 G_27 O_26 G_26 O_19 G_19
 have G_24:=Z1K (P:=l.prog) (w:=w) (base:=base) T O_24
 have G_20:=Z1O (P:=l.prog) (w:=w) (base:=base) T O_20 O_21 G_21 O_24 G_24
 have G_22:=Z1M (P:=l.prog) (w:=w) (base:=base) T O_22 O_26 G_26 O_21 G_21
 have G_12:=Z1W (P:=l.prog) (w:=w) (base:=base) T O_12 O_24 G_24 O_16 G_16 O_22 G_22
 have G_13:=Z1V (P:=l.prog) (w:=w) (base:=base) T O_13 O_23 G_23 O_12 G_12
 have G_25:=Z1J (P:=l.prog) (w:=w) (base:=base) T O_25 O_17 G_17
 have G_14:=Z1U (P:=l.prog) (w:=w) (base:=base) T O_14 O_25 G_25 O_12 G_12
 have G_18:=Z1Q (P:=l.prog) (w:=w) (base:=base) T O_18 O_23 G_23 O_26 G_26 O_21 G_21 O_20 G_20 O_28 G_28 O_13 G_13 O_14 G_14
 have G_15:=Z1T (P:=l.prog) (w:=w) (base:=base) T O_15
 have G_30:=Z1E (P:=l.prog) (w:=w) (base:=base) T O_30 O_28 G_28
 have G_31:=Z1D (P:=l.prog) (w:=w) (base:=base) T O_31 O_30 G_30
 have G_32:=Z1C (P:=l.prog) (w:=w) (base:=base) T O_32 O_15 G_15 O_31 G_31
 have G_0:=Z47 (P:=l.prog) (w:=w) (base:=base) T O_0
 have G_7:=Z40 (P:=l.prog) (w:=w) (base:=base) T O_7
 have G_8:=Z3Z (P:=l.prog) (w:=w) (base:=base) T O_8 O_7 G_7
 have G_9:=Z2H (P:=l.prog) (w:=w) (base:=base) T O_9 12
 have G_11:=Z1X (P:=l.prog) (w:=w) (base:=base) T O_11 O_7 G_7
 have G_5:=Z42 (P:=l.prog) (w:=w) (base:=base) T O_5 O_7 G_7
 have G_10:=Z1Y (P:=l.prog) (w:=w) (base:=base) T O_10 O_7 G_7
 have G_6:=Z41 (P:=l.prog) (w:=w) (base:=base) T O_6 O_7 G_7 O_8 G_8 O_10 G_10
 have G_1:=Z46 (P:=l.prog) (w:=w) (base:=base) T O_1 O_5 G_5 O_6 G_6
 have G_2:=Z45 (P:=l.prog) (w:=w) (base:=base) T O_2
 have G_4:=Z43 (P:=l.prog) (w:=w) (base:=base) T O_4 O_2 G_2
 have G_3:=Z44 (P:=l.prog) (w:=w) (base:=base) T O_3 O_4 G_4
 exact Z1F T O_29 O_16 G_16 O_18 G_18 O_32 G_32 O_0 G_0 O_8 G_8 O_9 G_9 O_11 G_11 O_1 G_1 O_3 G_3
end K04
namespace K04
open PySem L2 DL
theorem Q3 {c p m:Int}{S:Sto}(hp:0<p)(hm:0<m):ZU [.int c,.int p,.int m] S=some (.int (c*48271%p%m),S):=by
 unfold ZU
 simp only [EVS,W8,W9,Wf,W2,Wg,Wh,Wa,Wb,W4,↓reduceIte,reduceCtorEq,W1,Wc,W3,XG,Jm,hp,hm]
theorem B4 (ns:List Int)(k:Nat):∃c:Int,∀S,Yu [.scr ns,.int k] S=some (.int c,S):=by
 by_cases h:k<ns.length
 ·refine⟨ns[k],λS=>?_⟩
  unfold Yu
  simp only [EVS,W8,W9,Wf,W2,Wg,Wh,Wa,Wb,W4,↓reduceIte,reduceCtorEq,W1,Wc,W3,OY,Ev,Int.ofNat_lt,h,gIx,Mc (Wm h)]
 ·refine⟨0,λS=>?_⟩
  unfold Yu
  simp only [EVS,W8,W9,Wf,W2,Wg,Wh,Wa,Wb,W4,↓reduceIte,reduceCtorEq,W1,Wc,W3,OY,Ev,Int.ofNat_lt,h]
def btw (lo hi:Nat)(x:Str):Bool:=(cs x).all λc=>decide (lo≤c)&&decide (c≤hi)
theorem OG (a b:Nat)(S:Sto):gLe (.str ⟨#[a]⟩) (.str ⟨#[b]⟩) S=some (.bl (decide (a≤b)),S):=by
 rw [Z2h]
 have:(!decide ((⟨#[b]⟩:Str).cps.toList<(⟨#[a]⟩:Str).cps.toList))=decide (a≤b):=by
  have h:((⟨#[b]⟩:Str).cps.toList<(⟨#[a]⟩:Str).cps.toList)↔b<a:=OB b a
  by_cases hb:b<a
  ·rw [decide_eq_true (h.mpr hb),decide_eq_false (by omega)];rfl
  ·rw [decide_eq_false (λz=>hb (h.mp z)),decide_eq_true (by omega)];rfl
 rw [this]
theorem RN {x:Str}{lo hi:Nat}{S:Sto}(hx:x.length≤Wk):Zx [.str x,.str ⟨#[lo]⟩,.str ⟨#[hi]⟩] S=some (.bl (btw lo hi x),S):=by
 unfold Zx
 simp only [EVS,W8,W9,Wf,W2,Wg,Wh,Wa,Wb,W4,↓reduceIte,reduceCtorEq,W1,Wc,W3]
 rw [Ye (cs x) (λc=>D.str ⟨#[c]⟩) (λc=>D.bl (decide (lo≤c)&&decide (c≤hi))) ZG (by rw [←Jj];exact hx) λc hc=>⟨_,rfl,?_⟩]
 ·have e:(cs x).map (λc=>D.bl (decide (lo≤c)&&decide (c≤hi)))=((cs x).map λc=>(decide (lo≤c)&&decide (c≤hi))).map D.bl:=by rw [WJ];rfl
  rw [e,T7]
  simp only [EVS,W8,W9,Wf,W2,Wg,Wh,Wa,Wb,W4,↓reduceIte,reduceCtorEq,W1,Wc,W3,btw,VC]
  rfl
 ·simp only [Q5,EVS,W8,W9,Wf,W2,Wg,Wh,Wa,Wb,W4,↓reduceIte,reduceCtorEq,W1,Wc,W3,OG]
  by_cases h:lo≤c<;>simp [h]
theorem oa:(Wr "a")=⟨#[97]⟩:=by decide +kernel
theorem oz:(Wr "z")=⟨#[122]⟩:=by decide +kernel
theorem obl:(Wr " ")=⟨#[32]⟩:=by decide +kernel
theorem oti:(Wr "~")=⟨#[126]⟩:=by decide +kernel
def Gk (x:Str):Bool:=decide (1≤(cs x).length)&&(decide ((cs x).length≤6)&&btw 97 122 x)
def BV (x:Str):Bool:=decide ((cs x).length≤60)&&btw 32 126 x
theorem QW (x:Str)(S:Sto):Rf "str" (some (.str x,S))=some (.bl true,S):=rfl
theorem SV {x:Str}{S:Sto}(hx:x.length≤Wk):Ys [.str x] S=some (.bl (Gk x),S):=by
 unfold Ys Gk
 rw [Jj] at hx
 by_cases h1:1≤(cs x).length
 ·have i1:(1:Int)≤((cs x).length:Int):=by omega
  by_cases h2:(cs x).length≤6
  ·have i2:((cs x).length:Int)≤6:=by omega
   simp only [EVS,W8,W9,Wf,W2,Wg,Wh,Wa,Wb,W4,↓reduceIte,reduceCtorEq,W1,Wc,W3,QW,Gj,Jj,hx,oa,oz,RN,h1,h2,i1,i2,Vg]
  ·have i2:¬((cs x).length:Int)≤6:=by omega
   simp only [EVS,W8,W9,Wf,W2,Wg,Wh,Wa,Wb,W4,↓reduceIte,reduceCtorEq,W1,Wc,W3,QW,Gj,Jj,hx,oa,oz,RN,h1,h2,i1,i2,Vg,VB]
 ·have i1:¬(1:Int)≤((cs x).length:Int):=by omega
  simp only [EVS,W8,W9,Wf,W2,Wg,Wh,Wa,Wb,W4,↓reduceIte,reduceCtorEq,W1,Wc,W3,QW,Gj,Jj,hx,oa,oz,RN,h1,i1,Vg,VB]
theorem HL {x:Str}{S:Sto}(hx:x.length≤Wk):Q9 [.str x] S=some (.bl (BV x),S):=by
 unfold Q9 BV
 rw [Jj] at hx
 by_cases h2:(cs x).length≤60
 ·have i2:((cs x).length:Int)≤60:=by omega
  simp only [EVS,W8,W9,Wf,W2,Wg,Wh,Wa,Wb,W4,↓reduceIte,reduceCtorEq,W1,Wc,W3,QW,Gj,Jj,hx,obl,oti,RN,h2,i2,Vg]
 ·have i2:¬((cs x).length:Int)≤60:=by omega
  simp only [EVS,W8,W9,Wf,W2,Wg,Wh,Wa,Wb,W4,↓reduceIte,reduceCtorEq,W1,Wc,W3,QW,Gj,Jj,hx,obl,oti,RN,h2,i2,Vg,VB]
theorem ixS {z:Str}{i:Int}{S:Sto}(hz:z.length≤Wk)(h0:0≤i)(h1:i<(cs z).length):gIx (.str z) (.int i) S=some (.str ⟨#[(cs z).getD i.toNat 0]⟩,S):=by
 obtain⟨a,ha,e1,e2⟩:=Z0D (xs:=cs z) h0 h1
 show (if z.length≤Wk then (atI (cs z) i).map λc=>(D.str ⟨#[c]⟩,S) else none)=_
 rw [if_pos hz,e2]
 have:(cs z).getD i.toNat 0=a:=by simp [W0h,e1]
 rw [this]
 rfl
def Fn (z:Str)(c p:Int)(k:Nat):Nat:=(cs z).getD ((c+7*(k:Int))*48271%p%((cs z).length:Int)).toNat 0
theorem GM {z:Str}{c p:Int}{k:Nat}(hz:0<(cs z).length):Fn z c p k∈cs z:=by
 unfold Fn
 have h0:=Vk ((c+7*(k:Int))*48271%p) (b:=((cs z).length:Int)) (by omega)
 have h1:=Vs ((c+7*(k:Int))*48271%p) (b:=((cs z).length:Int)) (by omega)
 have hj:((c+7*(k:Int))*48271%p%((cs z).length:Int)).toNat<(cs z).length:=by omega
 rw [VD,Wm hj]
 exact W0l hj
theorem Jf {z:Str}{c p:Int}{n:Nat}{S:Sto}(hz:0<(cs z).length)(hz2:(cs z).length≤Wk)(hp:0<p)(hn:n≤1000) :
  Lm (Wr "") (ZW (B8 0 n) .no [none,some (.int c),some (.str z)] (gN 0) YO (mOp gIx (Z6 2) (Zj ZU (Z3 (mOp Jb (Z6 1) (mOp M5 (Zg (D.int (7))) (Z6 0))) (Z3 (Zg (D.int p)) (Z3 (MD (Z6 2)) ZV))))) (B8 0 n) [] S)
   = some (.str ⟨((W7 n).map (Fn z c p)).toArray⟩,S):=by
 have hl:n≤Wk:=WY hn (by decide)
 have hs:z.length≤Wk:=by rw [Jj];exact hz2
 rw [U2,Ye (W7 n) (λk=>D.int (k:Nat)) (λk=>D.str ⟨#[Fn z c p k]⟩) ZG (by simpa using hl) λk hk=>⟨_,rfl,?_⟩]
 ·have e:(W7 n).map (λk=>D.str ⟨#[Fn z c p k]⟩)=((W7 n).map λk=>(⟨#[Fn z c p k]⟩:Str)).map D.str:=by rw [WJ];rfl
  have hsum:∀(l:List Nat),((l.map λk=>(⟨#[Fn z c p k]⟩:Str)).map (·.length)).sum=l.length:=by
   intro l
   induction l with
   |nil=>rfl
   |cons a l ih=>rw [W1,W1,List.sum_cons,ih,WX];show 1+_=_;omega
  have he:(Wr "").length=0:=by decide +kernel
  rw [e,Il (by rw [hsum,he];simp;omega)]
  congr 2
  congr 1
  apply HR
  rw [B2,M8]
  generalize W7 n=l
  induction l with
  |nil=>rfl
  |cons a l ih=>rw [W1,List.flatMap_cons,ih];rfl
 ·have h0:=Vk ((c+7*(k:Int))*48271%p) (b:=((cs z).length:Int)) (by omega)
  have h1:=Vs ((c+7*(k:Int))*48271%p) (b:=((cs z).length:Int)) (by omega)
  have hz':(0:Int)<((cs z).length:Int):=by omega
  simp only [EVS,W8,W9,Wf,W2,Wg,Wh,Wa,Wb,W4,↓reduceIte,reduceCtorEq,W1,Wc,W3,UV,Gj,Jj,hz2,Q3,hp,hz']
  rw [ixS hs h0 h1]
  rfl
theorem Ps (c:Int):∃x,(1≤(cs x).length/\(cs x).length≤6)/\(∀ch∈cs x,97≤ch/\ch≤122)/\∀S,Qi [.int c] S=some (.str x,S):=by
 have ha:cs (Wr "abcdefghijklmnopqrstuvwxyz")=(W7 26).map (· + 97):=by decide +kernel
 have hab:cs (Wr "ab")=[97,98]:=by decide +kernel
 have m0:=Vk (c*48271%9973) (b:=6) (by decide)
 have m1:=Vs (c*48271%9973) (b:=6) (by decide)
 by_cases h3:c%3=0
 ·have n0:=Vk (1+c*48271%9973%6) (b:=2) (by decide)
  have n1:=Vs (1+c*48271%9973%6) (b:=2) (by decide)
  generalize hn:1+(1+c*48271%9973%6)%2=n at *
  refine⟨⟨((W7 n.toNat).map (Fn (Wr "ab") c 9967)).toArray⟩,?_,?_,λS=>?_⟩
  ·rw [M8];simp;omega
  ·rw [M8]
   intro ch hch
   obtain⟨k,_,rfl⟩:=WD.mp hch
   have:=GM (z:=Wr "ab") (c:=c) (p:=9967) (k:=k) (by rw [hab];decide)
   rw [hab] at this
   simp at this
   omega
  ·unfold Qi
   have hr : -(2 ^ 62)≤n/\n<2 ^ 62:=by omega
   simp only [EVS,W8,W9,Wf,W2,Wg,Wh,Wa,Wb,W4,↓reduceIte,reduceCtorEq,W1,Wc,W3,Q3,Jm,h3,hn,GY hr,UC]
   rw [Jf (by rw [hab];decide) (by rw [hab];decide) (by decide) (by omega)]
   simp only [EVS,W8,W9,Wf,W2,Wg,Wh,Wa,Wb,W4,↓reduceIte,reduceCtorEq,W1,Wc,W3]
 ·generalize hn:1+c*48271%9973%6=n at *
  refine⟨⟨((W7 n.toNat).map (Fn (Wr "abcdefghijklmnopqrstuvwxyz") c 9967)).toArray⟩,?_,?_,λS=>?_⟩
  ·rw [M8];simp;omega
  ·rw [M8]
   intro ch hch
   obtain⟨k,_,rfl⟩:=WD.mp hch
   have:=GM (z:=Wr "abcdefghijklmnopqrstuvwxyz") (c:=c) (p:=9967) (k:=k) (by rw [ha];decide)
   rw [ha] at this
   simp at this
   omega
  ·unfold Qi
   have hr : -(2 ^ 62)≤n/\n<2 ^ 62:=by omega
   simp only [EVS,W8,W9,Wf,W2,Wg,Wh,Wa,Wb,W4,↓reduceIte,reduceCtorEq,W1,Wc,W3,Q3,Jm,h3,hn,GY hr,UC]
   rw [Jf (by rw [ha];decide) (by rw [ha];decide) (by decide) (by omega)]
   simp only [EVS,W8,W9,Wf,W2,Wg,Wh,Wa,Wb,W4,↓reduceIte,reduceCtorEq,W1,Wc,W3]
theorem HJ (c:Int):∃x,(cs x).length≤60/\(∀ch∈cs x,32≤ch/\ch≤126)/\∀S,Yt [.int c] S=some (.str x,S):=by
 generalize hz : Wr " !\"#$&'()*+,-./0123456789:;<=>?\x40ABCDEFGHIJKLMNOPQRSTUVWXYZ[\\]^_`abcdefghijklmnopqrstuvwxyz{|}~" = z
 have hz1:(cs z).length=94:=by rw [←hz];decide +kernel
 have hz2:∀ch∈cs z,32≤ch/\ch≤126:=by rw [←hz];decide +kernel
 by_cases h4:c%4=0
 ·have m0:=Vk (c*48271%9929) (b:=3) (by decide)
  have m1:=Vs (c*48271%9929) (b:=3) (by decide)
  have key:∀x,(cs x).length≤60->(∀ch∈cs x,32≤ch/\ch≤126)->(∀S,gIx (.tup [.str (Wr ""),.str (Wr "a"),.str (Wr "hi;")]) (.int (c*48271%9929%3)) S=some (.str x,S))->
    ∃x,(cs x).length≤60/\(∀ch∈cs x,32≤ch/\ch≤126)/\∀S,Yt [.int c] S=some (.str x,S):=by
   intro x h1 h2 h3
   refine⟨x,h1,h2,λS=>?_⟩
   unfold Yt
   by_cases g0:c*48271%9941%9=0
   ·simp only [EVS,W8,W9,Wf,W2,Wg,Wh,Wa,Wb,W4,↓reduceIte,reduceCtorEq,W1,Wc,W3,Q3,Jm,h4,g0,JH (show [D.str (Wr ""),.str (Wr "a"),.str (Wr "hi;")].length≤Wk by decide),h3,Int.reduceEq]
   ·by_cases g1:c*48271%9941%9=1
    ·simp only [EVS,W8,W9,Wf,W2,Wg,Wh,Wa,Wb,W4,↓reduceIte,reduceCtorEq,W1,Wc,W3,Q3,Jm,h4,g1,JH (show [D.str (Wr ""),.str (Wr "a"),.str (Wr "hi;")].length≤Wk by decide),h3,Int.reduceEq]
    ·simp only [EVS,W8,W9,Wf,W2,Wg,Wh,Wa,Wb,W4,↓reduceIte,reduceCtorEq,W1,Wc,W3,Q3,Jm,h4,g0,g1,JH (show [D.str (Wr ""),.str (Wr "a"),.str (Wr "hi;")].length≤Wk by decide),h3,Int.reduceEq]
  have h012:c*48271%9929%3=0\/c*48271%9929%3=1\/c*48271%9929%3=2:=by omega
  rcases h012 with h|h|h
  ·exact key (Wr "") (by decide +kernel) (by decide +kernel) (λS=>by rw [h];simp only [LH,LG,LF])
  ·exact key (Wr "a") (by decide +kernel) (by decide +kernel) (λS=>by rw [h];simp only [LH,LG,LF])
  ·exact key (Wr "hi;") (by decide +kernel) (by decide +kernel) (λS=>by rw [h];simp only [LH,LG,LF])
 ·have key:∀n:Int,0≤n->n≤60->(∀S,Yt [.int c] S=some (.str ⟨((W7 n.toNat).map (Fn z c 9923)).toArray⟩,S))->
    ∃x,(cs x).length≤60/\(∀ch∈cs x,32≤ch/\ch≤126)/\∀S,Yt [.int c] S=some (.str x,S):=by
   intro n h0 h1 h2
   refine⟨_,?_,?_,h2⟩
   ·rw [M8];simp;omega
   ·rw [M8]
    intro ch hch
    obtain⟨k,_,rfl⟩:=WD.mp hch
    exact hz2 _ (GM (by omega))
  have m0:=Vk (c*48271%9949) (b:=5) (by decide)
  have m1:=Vs (c*48271%9949) (b:=5) (by decide)
  have n0:=Vk (c*48271%9931) (b:=61) (by decide)
  have n1:=Vs (c*48271%9931) (b:=61) (by decide)
  by_cases g0:c*48271%9941%9=0
  ·refine key 60 (by decide) (by decide) λS=>?_
   unfold Yt
   simp only [EVS,W8,W9,Wf,W2,Wg,Wh,Wa,Wb,W4,↓reduceIte,reduceCtorEq,W1,Wc,W3,Q3,Jm,h4,g0,hz,JC,GY (show -(2 ^ 62)≤(60:Int)/\(60:Int)<2 ^ 62 by decide),Int.reduceEq]
   rw [Jf (by omega) (by rw [hz1];decide) (by decide) (by decide)]
   simp only [EVS,W8,W9,Wf,W2,Wg,Wh,Wa,Wb,W4,↓reduceIte,reduceCtorEq,W1,Wc,W3]
  ·by_cases g1:c*48271%9941%9=1
   ·refine key (c*48271%9931%61) n0 (by omega) λS=>?_
    unfold Yt
    simp only [EVS,W8,W9,Wf,W2,Wg,Wh,Wa,Wb,W4,↓reduceIte,reduceCtorEq,W1,Wc,W3,Q3,Jm,h4,g1,hz,JC,GY (show -(2 ^ 62)≤c*48271%9931%61/\c*48271%9931%61<2 ^ 62 by omega),Int.reduceEq]
    rw [Jf (by omega) (by rw [hz1];decide) (by decide) (by omega)]
    simp only [EVS,W8,W9,Wf,W2,Wg,Wh,Wa,Wb,W4,↓reduceIte,reduceCtorEq,W1,Wc,W3]
   ·refine key (c*48271%9949%5) m0 (by omega) λS=>?_
    unfold Yt
    simp only [EVS,W8,W9,Wf,W2,Wg,Wh,Wa,Wb,W4,↓reduceIte,reduceCtorEq,W1,Wc,W3,Q3,Jm,h4,g0,g1,hz,JC,GY (show -(2 ^ 62)≤c*48271%9949%5/\c*48271%9949%5<2 ^ 62 by omega),Int.reduceEq]
    rw [Jf (by omega) (by rw [hz1];decide) (by decide) (by omega)]
    simp only [EVS,W8,W9,Wf,W2,Wg,Wh,Wa,Wb,W4,↓reduceIte,reduceCtorEq,W1,Wc,W3]
theorem OE:1000≤Wk:=by decide
theorem SN {d:D}{S:Sto}{T:String}(h:tyD d S=some T)(hT:QG T "str" = false):Ys [d] S=some (.bl false,S):=by
 unfold Ys
 simp only [EVS,W8,W9,Wf,W2,Wg,Wh,Wa,Wb,W4,↓reduceIte,reduceCtorEq,W1,Wc,W3,Lc,h,hT]
theorem SM {d:D}{S:Sto}{T:String}(h:tyD d S=some T)(hT:QG T "str" = false):Q9 [d] S=some (.bl false,S):=by
 unfold Q9
 simp only [EVS,W8,W9,Wf,W2,Wg,Wh,Wa,Wb,W4,↓reduceIte,reduceCtorEq,W1,Wc,W3,Lc,h,hT]
theorem Lw {x:Str}(h1:(cs x).length≤60)(h2:∀ch∈cs x,32≤ch/\ch≤126):BV x=true:=by
 unfold BV btw
 rw [Wl,decide_eq_true_eq,Wq]
 exact⟨h1,λch hc=>by have:=h2 ch hc;simp;omega⟩
abbrev Mk:=Int×Int
def enc (p:Mk):D:=.tup [.int p.1,.int p.2]
def J9 (p:Mk):D×D:=(.int p.1,.int p.2)
def Z9 (ms:List Mk)(q:Mk):Bool:=ms.any λp=>decide (p.1=q.1)&&decide (q.2≤p.2)
theorem Hv {α:Type}(f:α->Bool)(l:List α):(l.map f).any id=l.any f:=by rw [W1n];rfl
theorem JM {α:Type}(f:α->Bool)(l:List α):(l.map f).all id=l.all f:=by rw [VC];rfl
theorem JV {h n:Int}{ms:List Mk}{S:Sto}(hl:ms.length≤Wk):ZJ [.tup [.int h,.int n],.tup (ms.map enc)] S=some (.bl (Z9 ms (h,n)),S):=by
 unfold ZJ
 simp only [EVS,W8,W9,Wf,W2,Wg,Wh,Wa,Wb,W4,↓reduceIte,reduceCtorEq,W1,Wc,W3]
 rw [Ye ms enc (λp=>D.bl (decide (p.1=h)&&decide (n≤p.2))) ZG hl λp hp=>⟨_,rfl,?_⟩]
 ·have e:ms.map (λp=>D.bl (decide (p.1=h)&&decide (n≤p.2)))=(ms.map λp=>(decide (p.1=h)&&decide (n≤p.2))).map D.bl:=by rw [WJ];rfl
  rw [e,Xa,Hv]
  simp only [EVS,W8,W9,Wf,W2,Wg,Wh,Wa,Wb,W4,↓reduceIte,reduceCtorEq,W1,Wc,W3,Z9]
 ·simp only [Ug,EVS,W8,W9,Wf,W2,Wg,Wh,Wa,Wb,W4,↓reduceIte,reduceCtorEq,W1,Wc,W3,enc]
  by_cases q:p.1=h<;>simp [q]
theorem K0 {ms os:List Mk}{S:Sto}(hl:ms.length≤Wk)(ho:os.length≤Wk):ZK [.tup (ms.map enc),.tup (os.map enc)] S=some (.bl (os.all (Z9 ms)),S):=by
 unfold ZK
 simp only [EVS,W8,W9,Wf,W2,Wg,Wh,Wa,Wb,W4,↓reduceIte,reduceCtorEq,W1,Wc,W3]
 rw [Ye os enc (λp=>D.bl (Z9 ms p)) ZG ho λp hp=>⟨_,rfl,?_⟩]
 ·have e:os.map (λp=>D.bl (Z9 ms p))=(os.map (Z9 ms)).map D.bl:=by rw [WJ];rfl
  rw [e,T7,JM]
  simp only [EVS,W8,W9,Wf,W2,Wg,Wh,Wa,Wb,W4,↓reduceIte,reduceCtorEq,W1,Wc,W3]
 ·simp only [QY,EVS,W8,W9,Wf,W2,Wg,Wh,Wa,Wb,W4,↓reduceIte,reduceCtorEq,W1,Wc,W3,enc]
  exact JV hl
theorem Fx (c:Int):∃w:Nat,∃n:Int,w<6/\1≤n/\∀S,Ju [.int c] S=some (.tup [.int w,.int n],S):=by
 have a0:=Vk (c*48271%9871) (b:=6) (by decide)
 have a1:=Vs (c*48271%9871) (b:=6) (by decide)
 have b0:=Vk (c*48271%9859) (b:=4) (by decide)
 have c0:=Vk c (b:=2) (by decide)
 obtain⟨w,hw⟩:=Int.eq_ofNat_of_zero_le a0
 refine⟨w,1+c*48271%9859%4+9*(c%2),by omega,by omega,λS=>?_⟩
 unfold Ju
 simp only [EVS,W8,W9,Wf,W2,Wg,Wh,Wa,Wb,W4,↓reduceIte,reduceCtorEq,W1,Wc,W3,Q3,Jm,UV,hw,show (0:Int)<9871 by decide,show (0:Int)<9859 by decide,show (0:Int)<6 by decide,show (0:Int)<4 by decide,show (0:Int)<2 by decide]
def kn (f:Nat->Int)(l:List Nat):List Mk:=(l.filter λh=>decide (0<f h)).map λh:Nat=>((h:Int),f h)
theorem Ub (f:Nat->Int)(l:List Nat):(kn f l).length≤l.length:=by unfold kn;rw [We];exact Vt ..
theorem Ux (f:Nat->Int)(l:List Nat)(h:Nat):kn f (l++[h])=if 0<f h then kn f l++[((h:Int),f h)] else kn f l:=by
 unfold kn
 rw [List.filter_append,WU]
 by_cases q:0<f h<;>simp [q]
theorem NT (n:Nat)(ms:List Mk):JR n (D.tup (ms.map enc))=true:=by
 unfold JR
 induction ms with
 |nil=>unfold lowDs;rfl
 |cons p ms ih=>
  rw [W1]
  unfold lowDs
  rw [ih,W0q]
  unfold enc JR lowDs JR lowDs JR lowDs
  rfl
theorem Ao (c:Int)(w:Nat)(n:Int)(hw:w<6)(hn:1≤n):∃f:Nat->Int,(∀h,0≤f h)/\n≤f w/\∀S,Jv [.int c,.tup [.int w,.int n]] S=some (.tup ((kn f (W7 6)).map enc),S):=by
 refine⟨λh=>(c+31*(h:Int))*48271%9907%3+(if h=w then n else 0),λh=>?_,?_,λS=>?_⟩
 ·have:=Vk ((c+31*(h:Int))*48271%9907) (b:=3) (by decide)
  dsimp only
  split<;>omega
 ·have:=Vk ((c+31*(w:Int))*48271%9907) (b:=3) (by decide)
  dsimp only
  rw [if_pos rfl]
  omega
 ·generalize hf:(λh:Nat=>(c+31*(h:Int))*48271%9907%3+(if h=w then n else 0))=f
  have hfx:∀h:Nat,f h=(c+31*(h:Int))*48271%9907%3+(if h=w then n else 0):=λh=>by rw [←hf]
  have hS0:∀S:Sto,JR S.length (D.tup ((kn f (W7 6)).map enc))=true:=λS=>NT _ _
  let P:List Nat->En->Sto->Prop:=λpre en S'=>∃x3 x4,en=[some (.int c),some (.tup [.int w,.int n]),some (.ref S.length),x3,x4]/\S'=S++[.lst ((kn f pre).map enc)]
  have step:∀(pre:List Nat) (k:Nat) (post:List Nat) (en:En) (S1:Sto),W7 6=pre++k :: post->P pre en S1->∃en1,gN 3 (D.int (k:Nat)) en=some en1/\∃en2 S2,Yw en1 S1=some (.nx,en2,S2)/\P (pre++[k]) en2 S2:=by
   intro pre k post en S1 hpre hP
   obtain⟨x3,x4,rfl,rfl⟩:=hP
   refine⟨_,rfl,?_⟩
   have hlen:(kn f pre).length<Wk:=by
    have h1:=Ub f pre
    have h2:=congrArg Ve hpre
    simp at h2
    exact Nat.lt_of_le_of_lt (show (kn f pre).length≤6 by omega) (by decide)
   have hfk:=hfx k
   have q1:(0:Int)<9907:=by decide
   have q2:(0:Int)<3:=by decide
   by_cases hk:k=w
   ·subst hk
    rw [if_pos rfl] at hfk
    by_cases hp:0<f k
    ·refine⟨[some (.int c),some (.tup [.int (k:Nat),.int n]),some (.ref S.length),some (.int (k:Nat)),some (.int (f k))],_,?_,_,_,rfl,rfl⟩
     rw [Ux,if_pos hp,WU]
     simp only [Yw,EVS,W8,W9,Wf,W2,Wg,Wh,Wa,Wb,W4,↓reduceIte,reduceCtorEq,W1,Wc,W3,UV,Q3,q1,q2,←hfk,hp,F4,We,hlen]<;>rfl
    ·refine⟨[some (.int c),some (.tup [.int (k:Nat),.int n]),some (.ref S.length),some (.int (k:Nat)),some (.int (f k))],_,?_,_,_,rfl,rfl⟩
     rw [Ux,if_neg hp]
     simp only [Yw,EVS,W8,W9,Wf,W2,Wg,Wh,Wa,Wb,W4,↓reduceIte,reduceCtorEq,W1,Wc,W3,UV,Q3,q1,q2,←hfk,hp]<;>rfl
   ·have hk':¬((k:Nat):Int)=(w:Int):=λz=>hk (by omega)
    rw [if_neg hk,Int.add_zero] at hfk
    by_cases hp:0<f k
    ·refine⟨[some (.int c),some (.tup [.int w,.int n]),some (.ref S.length),some (.int (k:Nat)),some (.int (f k))],_,?_,_,_,rfl,rfl⟩
     rw [Ux,if_pos hp,WU]
     simp only [Yw,EVS,W8,W9,Wf,W2,Wg,Wh,Wa,Wb,W4,↓reduceIte,reduceCtorEq,W1,Wc,W3,UV,Q3,q1,q2,←hfk,hk',hp,F4,We,hlen]<;>rfl
    ·refine⟨[some (.int c),some (.tup [.int w,.int n]),some (.ref S.length),some (.int (k:Nat)),some (.int (f k))],_,?_,_,_,rfl,rfl⟩
     rw [Ux,if_neg hp]
     simp only [Yw,EVS,W8,W9,Wf,W2,Wg,Wh,Wa,Wb,W4,↓reduceIte,reduceCtorEq,W1,Wc,W3,UV,Q3,q1,q2,←hfk,hk',hp]<;>rfl
  obtain⟨en',S',e,x3,x4,e2,e3⟩:=Jn (g:=gN 3) (ds0:=B8 0 6) (gd:=.no) (body:=Yw) (W7 6) (λk=>D.int (k:Nat)) P step (λ_ _ _ _=>trivial)
   (en:=[some (.int c),some (.tup [.int w,.int n]),some (.ref S.length),none,none]) (S:=S++[.lst []]) ⟨_,_,rfl,rfl⟩
  rw [←U2] at e
  unfold Jv
  have h6:Int.toNat 6=6:=rfl
  simp only [EVS,W8,W9,Wf,W2,Wg,Wh,Wa,Wb,W4,↓reduceIte,reduceCtorEq,W1,Wc,W3,GY (show -(2 ^ 62)≤(6:Int)/\(6:Int)<2 ^ 62 by decide),h6,e]
  subst e2 e3
  simp only [EVS,W8,W9,Wf,W2,Wg,Wh,Wa,Wb,W4,↓reduceIte,reduceCtorEq,W1,Wc,W3]
  rw [Yo _ _ _ (hS0 S)]
theorem Rp (f:Nat->Int)(h:Nat)(h6:h<6)(n:Int):Z9 (kn f (W7 6)) ((h:Int),n)=(decide (0<f h)&&decide (n≤f h)):=by
 rw [VX]
 unfold Z9 kn
 simp only [W1n,V1,VJ,Vh,decide_eq_true_eq,Function.comp,Wl]
 constructor
 ·rintro⟨a,⟨_,h2⟩,h3,h4⟩
  have:a=h:=by omega
  subst this
  exact⟨h2,h4⟩
 ·rintro⟨h1,h2⟩
  exact⟨h,⟨h6,h1⟩,rfl,h2⟩
theorem Tx {f:Nat->Int}{p:Mk}(hp:p∈kn f (W7 6)):∃h:Nat,h<6/\0<f h/\p=((h:Int),f h):=by
 unfold kn at hp
 obtain⟨h,h1,rfl⟩:=WD.mp hp
 rw [VJ] at h1
 exact⟨h,by simpa using h1.1,by simpa using h1.2,rfl⟩
theorem GR (f:Nat->Int):((kn f (W7 6)).map (·.1)).Nodup:=by
 unfold kn
 rw [WJ]
 have h1:((W7 6).filter λh=>decide (0<f h)).Nodup:=W13 _ W0O
 exact List.Pairwise.map _ (λa b hab z=>hab (Int.ofNat.inj z)) h1
theorem Pe (ms:List Mk):U3 (ms.map enc)=some (ms.map J9):=by
 induction ms with
 |nil=>rfl
 |cons p ms ih=>
  rw [W1,W1]
  show (if (QE (D.int p.1)).isSome=true then (U3 (ms.map enc)).map λps=>(D.int p.1,D.int p.2) :: ps else none)=_
  rw [if_pos (show (QE (D.int p.1)).isSome=true from rfl),ih]
  rfl
theorem TF (a b:Int):kEq (.int a) (.int b)=decide (a=b):=by
 unfold kEq QE
 dsimp only
 rw [VX]
 simp
theorem AF (ms:List Mk)(h n:Int)(hn:h∉ms.map (·.1)):G1 (ms.map J9) (.int h) (.int n)=(ms++[(h,n)]).map J9:=by
 unfold G1
 rw [if_neg,WU]
 ·rfl
 ·rw [W1n,V1]
  rintro⟨p,p1,p2⟩
  have p3:kEq (.int p.1) (.int h)=true:=p2
  rw [TF,decide_eq_true_eq] at p3
  exact hn (WD.mpr ⟨p,p1,p3⟩)
theorem Gq:∀(ms acc:List Mk),((acc++ms).map (·.1)).Nodup->UW (acc.map J9) (ms.map J9)=(acc++ms).map J9
 |[],acc,_=>by rw [W02];rfl
 |p :: ms,acc,h=>by
  have e:acc++p :: ms=(acc++[p])++ms:=by rw [WS];rfl
  show UW (G1 (acc.map J9) (.int p.1) (.int p.2)) (ms.map J9)=_
  have hn:p.1∉acc.map (·.1):=by
   rw [WU,W1,W0J] at h
   intro z
   exact h.2.2 _ z p.1 Ws rfl
  rw [AF acc p.1 p.2 hn,Gq ms (acc++[p]) (by rw [←e];exact h),e]
theorem AJ {ms:List Mk}{S:Sto}(hl:ms.length≤Wk)(hn:(ms.map (·.1)).Nodup):Lp (some (.tup (ms.map enc),S))=some (.ref S.length,S++[.dct (ms.map J9)]):=by
 rw [IU (by simpa using hl) (Pe ms),show ([]:List (D×D))=([]:List Mk).map J9 from rfl,Gq ms [] (by simpa using hn)]
 rfl
theorem K7:∀{ms:List Mk} {h n:Int},(ms.map (·.1)).Nodup->(h,n)∈ms->UH (ms.map J9) (.int h)=some (.int n)
 |[],_,_,_,z=>by cases z
 |p :: ms,h,n,hn,hm=>by
  unfold UH
  rw [W1,VV]
  have e:kEq (J9 p).1 (.int h)=decide (p.1=h):=TF _ _
  rw [W1,W04] at hn
  by_cases q:p.1=h
  ·rw [e,decide_eq_true q]
   rcases Ww.mp hm with z|z
   ·rw [←z];rfl
   ·exact absurd (WD.mpr ⟨_,z,q.symm⟩) hn.1
  ·rw [e,decide_eq_false q]
   rcases Ww.mp hm with z|z
   ·rw [←z] at q;exact absurd rfl q
   ·exact K7 hn.2 z
theorem N6:∀{ms:List Mk} {h:Int},h∉ms.map (·.1)->UH (ms.map J9) (.int h)=none
 |[],_,_=>rfl
 |p :: ms,h,hn=>by
  unfold UH
  rw [W1,Ww,not_or] at hn
  rw [W1,VV]
  have e:kEq (J9 p).1 (.int h)=decide (p.1=h):=TF _ _
  rw [e,decide_eq_false (λz=>hn.1 z.symm)]
  exact N6 hn.2
theorem GU (ms:List Mk):((ms.map J9).all λp=>(QE p.1).isSome)=true:=by
 rw [VC,Wq]
 intro p _
 rfl
theorem IN {S:Sto}{n:Nat}{ms:List Mk}{h:Int}(e:S[n]? = some (.dct (ms.map J9))):JT S n (.int h)=some (ms.map J9):=by
 unfold JT
 rw [e]
 dsimp only
 rw [if_pos]
 show ((ms.map J9).all λp=>(QE p.1).isSome)=true
 exact GU ms
theorem Nm {ms:List Mk}{p:Mk}(h:p∈ms):Z9 ms p=true:=by
 unfold Z9
 rw [V1]
 exact⟨p,h,by simp⟩
def Ty (d:D)(S:Sto):Prop:=(tyD d S).isSome=true
def isW:D->Bool
 | .int _=>true
 |_=>false
theorem Mg {d:D}{S:Sto}(h:Ty d S):YR [d] S=some (.bl (isW d),S):=by
 have hty:∀C:String,∃T,tyD d S=some T/\Rf C (some (d,S))=some (.bl (QG T C),S):=λC=>by
  obtain⟨T,e⟩:=Vw.mp h
  exact⟨T,e,by rw [Lc,e];rfl⟩
 obtain⟨T,e,k1⟩:=hty "int"
 obtain⟨T',e',k2⟩:=hty "bool"
 rw [e] at e'
 cases e'
 unfold YR
 have fin:(QG T "int" = true->QG T "bool" = true->isW d=false)/\(QG T "int" = true->QG T "bool" = false->isW d=true)/\(QG T "int" = false->isW d=false):=by
  cases d with
  |ref n=>
   dsimp only [tyD] at e
   split at e<;>cases e<;>exact⟨λa=>absurd a (by decide),λa=>absurd a (by decide),λ_=>rfl⟩
  |scr n=>cases e
  |int i=>cases e;exact⟨λ_ a=>absurd a (by decide),λ_ _=>rfl,λa=>absurd a (by decide)⟩
  |bl i=>cases e;exact⟨λ_ _=>rfl,λ_ a=>absurd a (by decide),λa=>absurd a (by decide)⟩
  |_=>cases e<;>exact⟨λa=>absurd a (by decide),λa=>absurd a (by decide),λ_=>rfl⟩
 cases h1:QG T "int" with
 |false=>
  rw [h1] at k1
  simp only [EVS,W8,W9,Wf,W2,Wg,Wh,Wa,Wb,W4,↓reduceIte,reduceCtorEq,W1,Wc,W3,k1,fin.2.2 h1]
 |true=>
  rw [h1] at k1
  cases h2:QG T "bool" with
  |false=>
   rw [h2] at k2
   simp only [EVS,W8,W9,Wf,W2,Wg,Wh,Wa,Wb,W4,↓reduceIte,reduceCtorEq,W1,Wc,W3,k1,k2,fin.2.1 h1 h2]
  |true=>
   rw [h2] at k2
   simp only [EVS,W8,W9,Wf,W2,Wg,Wh,Wa,Wb,W4,↓reduceIte,reduceCtorEq,W1,Wc,W3,k1,k2,fin.1 h1 h2]
def isH:D->Bool
 | .int i=>decide (0≤i)&&decide (i<6)
 |_=>false
theorem Ax {d:D}{S:Sto}(h:Ty d S):QJ [d] S=some (.bl (isH d),S):=by
 unfold QJ
 have hw:=Mg h
 cases d with
 |int i=>
  by_cases a:0≤i<;>by_cases b:i<6<;>simp only [EVS,W8,W9,Wf,W2,Wg,Wh,Wa,Wb,W4,↓reduceIte,reduceCtorEq,W1,Wc,W3,hw,isW,isH,a,b,W0q,W2o]
 |_=>simp only [EVS,W8,W9,Wf,W2,Wg,Wh,Wa,Wb,W4,↓reduceIte,reduceCtorEq,W1,Wc,W3,hw,isW,isH]
def isT (n:Int):D->Bool
 | .tup ds=>decide ((ds.length:Int)=n)
 |_=>false
theorem Rx {d:D}{n:Int}{S:Sto}(h:Ty d S):Zi [d,.int n] S=some (.bl (isT n d),S):=by
 unfold Zi
 obtain⟨T,e⟩:=Vw.mp h
 have k1:Rf "tuple" (some (d,S))=some (.bl (QG T "tuple"),S):=by rw [Lc,e];rfl
 cases d with
 |tup ds=>
  cases e
  have i2:QG "tuple" "tuple" = true:=by decide
  rw [i2] at k1
  simp only [EVS,W8,W9,Wf,W2,Wg,Wh,Wa,Wb,W4,↓reduceIte,reduceCtorEq,W1,Wc,W3,k1,isT]
 |ref n=>
  dsimp only [tyD] at e
  have i2:QG T "tuple" = false:=by split at e<;>cases e<;>decide
  rw [i2] at k1
  simp only [EVS,W8,W9,Wf,W2,Wg,Wh,Wa,Wb,W4,↓reduceIte,reduceCtorEq,W1,Wc,W3,k1,isT]
 |scr n=>cases e
 |_=>
  cases e
  simp only [EVS,W8,W9,Wf,W2,Wg,Wh,Wa,Wb,W4,↓reduceIte,reduceCtorEq,W1,Wc,W3,k1,isT,show QG "NoneType" "tuple" = false by decide,show QG "bool" "tuple" = false by decide,show QG "int" "tuple" = false by decide,show QG "str" "tuple" = false by decide]
def isN:D->Bool
 | .int n=>decide (1≤n)
 |_=>false
def isM:D->Bool
 | .tup [a,b]=>isH a&&isN b
 |_=>false
def TyM (d:D)(S:Sto):Prop:=Ty d S/\∀a b,d = .tup [a,b]->Ty a S/\Ty b S
theorem NK {d:D}{S:Sto}(h:TyM d S):YN [d] S=some (.bl (isM d),S):=by
 unfold YN
 have ht:=Rx (n:=2) h.1
 cases ht2:isT 2 d with
 |false=>
  rw [ht2] at ht
  have:isM d=false:=by
   unfold isM
   split
   ·simp [isT] at ht2
   ·rfl
  simp only [EVS,W8,W9,Wf,W2,Wg,Wh,Wa,Wb,W4,↓reduceIte,reduceCtorEq,W1,Wc,W3,ht,this]
 |true=>
  rw [ht2] at ht
  obtain⟨a,b,rfl⟩:∃a b,d = .tup [a,b]:=by
   cases d with
   |tup ds=>
    match ds,ht2 with
    |[a,b],_=>exact⟨a,b,rfl⟩
    |[],z=>simp [isT] at z
    |[_],z=>simp [isT] at z
    |_ :: _ :: _ :: l,z=>simp [isT] at z;omega
   |_=>cases ht2
  obtain⟨ha,hb⟩:=h.2 a b rfl
  have h1:=Ax ha
  have h2:=Mg hb
  cases q1:isH a with
  |false=>
   rw [q1] at h1
   simp only [EVS,W8,W9,Wf,W2,Wg,Wh,Wa,Wb,W4,↓reduceIte,reduceCtorEq,W1,Wc,W3,ht,h1,isM,q1,VB]
  |true=>
   rw [q1] at h1
   cases b with
   |int n=>
    by_cases c:1≤n<;>simp only [EVS,W8,W9,Wf,W2,Wg,Wh,Wa,Wb,W4,↓reduceIte,reduceCtorEq,W1,Wc,W3,ht,h1,h2,isW,isM,isN,q1,c,Vg]
   |_=>simp only [EVS,W8,W9,Wf,W2,Wg,Wh,Wa,Wb,W4,↓reduceIte,reduceCtorEq,W1,Wc,W3,ht,h1,h2,isW,isM,isN,q1,W2o]
def rise (ds:List D):Bool:=(ds.zip (ds.drop 1)).all λp=>ltD p.1 p.2
theorem Bn {n:Nat}{S:Sto}{ds:List D}(hn:S[n]? = some (.lst ds))(hl:ds.length≤Wk)(hc:∀p∈ds.zip (ds.drop 1),∀S',gLt p.1 p.2 S'=some (.bl (ltD p.1 p.2),S')):Yx [.ref n] S=some (.bl (rise ds),S):=by
 unfold Yx
 have hs:slD (.ref n) (some 1) none S=some (.ref S.length,S++[.lst (ds.drop 1)]):=by
  dsimp only [slD]
  rw [hn]
  have e:Fs ds (some 1) none=ds.drop 1:=by
   unfold Fs
   rw [show (some (1:Int))=some ((1:Nat):Int) from rfl,HT.sIx_nat,HT.sIx_none]
   by_cases q:1≤ds.length
   ·rw [show min 1 ds.length=1 by omega,List.take_of_length_le (by rw [List.length_drop];omega)]
   ·have:ds=[]:=W0o.mp (by omega)
    subst this
    rfl
  dsimp only
  rw [e]
 have hlt:=(Wo.mp hn).1
 have h1:(S++[Ob.lst (ds.drop 1)])[n]? = some (.lst ds):=by rw [V2 hlt];exact hn
 have h2:(S++[Ob.lst (ds.drop 1)])[S.length]? = some (.lst (ds.drop 1)):=WC ..
 have hgd:Kg (.zl [(n,ds),(S.length,ds.drop 1)]) ((ds.zip (ds.drop 1)).map λp=>D.tup [p.1,p.2]) (S++[Ob.lst (ds.drop 1)]):=λq hq=>by
  simp only [Ww,WP,or_false] at hq
  rcases hq with rfl|rfl
  ·exact h1
  ·exact h2
 simp only [EVS,W8,W9,Wf,W2,Wg,Wh,Wa,Wb,W4,↓reduceIte,reduceCtorEq,W1,Wc,W3,hs,Z0B h1 h2]
 unfold Fj
 rw [Ye (ds.zip (ds.drop 1)) (λp=>D.tup [p.1,p.2]) (λp=>D.bl (ltD p.1 p.2)) hgd (by rw [VA];omega) λp hp=>⟨_,rfl,?_⟩]
 ·have e:(ds.zip (ds.drop 1)).map (λp=>D.bl (ltD p.1 p.2))=((ds.zip (ds.drop 1)).map λp=>ltD p.1 p.2).map D.bl:=by rw [WJ];rfl
  rw [e,T7,JM]
  simp only [EVS,W8,W9,Wf,W2,Wg,Wh,Wa,Wb,W4,↓reduceIte,reduceCtorEq,W1,Wc,W3,Yo _ _ (.bl _) rfl]
  rfl
 ·simp only [Uh,EVS,W8,W9,Wf,W2,Wg,Wh,Wa,Wb,W4,↓reduceIte,reduceCtorEq,W1,Wc,W3,hc p hp]
theorem U6:∀{ds:List D},ds.all isM=true->∃ms:List Mk,ds=ms.map enc/\∀p∈ms,(0≤p.1/\p.1<6)/\1≤p.2
 |[],_=>⟨[],rfl,λp hp=>by cases hp⟩
 |d :: ds,h=>by
  rw [Vf,Wl] at h
  obtain⟨ms,e,hm⟩:=U6 h.2
  have h1:=h.1
  unfold isM at h1
  split at h1
  ·rename_i a b
   rw [Wl] at h1
   cases a with
   |int i=>
    cases b with
    |int n=>
     have q1:=h1.1
     have q2:=h1.2
     simp only [isH,isN,Wl,decide_eq_true_eq] at q1 q2
     refine⟨(i,n) :: ms,by rw [W1,←e];rfl,λp hp=>?_⟩
     rcases Ww.mp hp with z|z
     ·subst z;exact⟨q1,q2⟩
     ·exact hm p z
    |_=>cases h1.2
   |_=>cases h1.1
  ·cases h1
theorem IC {p:Mk}:isM (enc p)=(decide (0≤p.1)&&decide (p.1<6)&&decide (1≤p.2)):=rfl
def hd1:D->D
 | .tup (a :: _)=>a
 |_=>.non
def isK (ds:List D):Bool:=ds.all isM&&rise (ds.map hd1)
theorem Bd (l:List D)(S:Sto):Rf "tuple" (some (.tup l,S))=some (.bl true,S):=rfl
theorem ID {l:List Int}:∀p∈(l.map D.int).zip ((l.map D.int).drop 1),∀S',gLt p.1 p.2 S'=some (.bl (ltD p.1 p.2),S'):=λp hp S'=>by
 obtain⟨h1,h2⟩:=W1s (a:=p.1) (b:=p.2) hp
 obtain⟨i,_,e1⟩:=WD.mp h1
 obtain⟨j,_,e2⟩:=WD.mp (W20 h2)
 rw [←e1,←e2]
 rfl
theorem Xx {ds:List D}{S:Sto}(h:∀d∈ds,TyM d S)(hl:ds.length≤Wk):YB [.tup ds] S=some (.bl (isK ds),S):=by
 unfold YB
 have c1:ZW ds .no [none] (gN 0) YO Qw ds [] S=some ((ds.map isM).map D.bl,S):=by
  have:=Ye (ds0:=ds) (gd:=.no) (cap:=[none]) (g:=gN 0) (m:=Qw) (S:=S) ds id (λd=>D.bl (isM d)) ZG hl λd hd=>⟨_,rfl,by simp only [Qw,EVS,W8,W9,Wf,W2,Wg,Wh,Wa,Wb,W4,↓reduceIte,reduceCtorEq,W1,Wc,W3,id];exact NK (h d hd)⟩
  rw [W2e] at this
  rw [this,WJ]
  rfl
 unfold isK
 cases ha:ds.all isM with
 |false=>simp only [EVS,W8,W9,Wf,W2,Wg,Wh,Wa,Wb,W4,↓reduceIte,reduceCtorEq,W1,Wc,W3,Bd,c1,T7,JM,ha,VB]
 |true=>
  obtain⟨ms,e,hm⟩:=U6 ha
  subst e
  rw [We] at hl
  have c2:ZW (ms.map enc) .no [none] (gN 0) YO Jq (ms.map enc) [] S=some ((ms.map (·.1)).map D.int,S):=by
   rw [Ye ms enc (λp=>D.int p.1) ZG hl λp hp=>⟨_,rfl,by simp only [Jq,EVS,W8,W9,Wf,W2,Wg,Wh,Wa,Wb,W4,↓reduceIte,reduceCtorEq,W1,Wc,W3,enc]⟩,WJ]
   rfl
  have e3:(ms.map enc).map hd1=(ms.map (·.1)).map D.int:=by rw [WJ,WJ];rfl
  have r:=Bn (n:=S.length) (S:=S++[Ob.lst ((ms.map (·.1)).map D.int)]) (WC ..) (by simpa using hl) ID
  rw [e3]
  simp only [EVS,W8,W9,Wf,W2,Wg,Wh,Wa,Wb,W4,↓reduceIte,reduceCtorEq,W1,Wc,W3,Bd,c1,T7,JM,ha,c2,r,Vg,Yo _ _ (.bl _) rfl]
theorem Xu {S:Sto}{n:Nat}{ds:List D}(h:S[n]? = some (.lst ds)):Ln (some (.ref n,S))=some ((ds,.lst n),S):=by
 show Ls (.ref n) S=_
 dsimp only [Ls]
 rw [h]
theorem LD {ms os:List Mk}{n:Nat}{S:Sto}(hn:S[n]? = some (.lst (os.map enc)))(hl:ms.length≤Wk)(ho:os.length≤Wk):ZK [.tup (ms.map enc),.ref n] S=some (.bl (os.all (Z9 ms)),S):=by
 unfold ZK
 simp only [EVS,W8,W9,Wf,W2,Wg,Wh,Wa,Wb,W4,↓reduceIte,reduceCtorEq,W1,Wc,W3,Xu hn]
 rw [Ye os enc (λp=>D.bl (Z9 ms p)) (show Kg (.lst n) (os.map enc) S from hn) ho λp hp=>⟨_,rfl,?_⟩]
 ·have e:os.map (λp=>D.bl (Z9 ms p))=(os.map (Z9 ms)).map D.bl:=by rw [WJ];rfl
  rw [e,T7,JM]
  simp only [EVS,W8,W9,Wf,W2,Wg,Wh,Wa,Wb,W4,↓reduceIte,reduceCtorEq,W1,Wc,W3]
 ·simp only [QY,EVS,W8,W9,Wf,W2,Wg,Wh,Wa,Wb,W4,↓reduceIte,reduceCtorEq,W1,Wc,W3,enc]
  exact JV hl
def isP:D->Bool
 | .tup [m,_]=>isM m
 |_=>false
def TyP (d:D)(S:Sto):Prop:=Ty d S/\∀m x,d = .tup [m,x]->TyM m S
theorem Ad {d:D}{S:Sto}(h:TyP d S):Yh [d] S=some (.bl (isP d),S):=by
 unfold Yh
 have ht:=Rx (n:=2) h.1
 cases ht2:isT 2 d with
 |false=>
  rw [ht2] at ht
  have:isP d=false:=by
   unfold isP
   split
   ·simp [isT] at ht2
   ·rfl
  simp only [EVS,W8,W9,Wf,W2,Wg,Wh,Wa,Wb,W4,↓reduceIte,reduceCtorEq,W1,Wc,W3,ht,this]
 |true=>
  rw [ht2] at ht
  obtain⟨a,b,rfl⟩:∃a b,d = .tup [a,b]:=by
   cases d with
   |tup ds=>
    match ds,ht2 with
    |[a,b],_=>exact⟨a,b,rfl⟩
    |[],z=>simp [isT] at z
    |[_],z=>simp [isT] at z
    |_ :: _ :: _ :: l,z=>simp [isT] at z;omega
   |_=>cases ht2
  simp only [EVS,W8,W9,Wf,W2,Wg,Wh,Wa,Wb,W4,↓reduceIte,reduceCtorEq,W1,Wc,W3,ht,NK (h.2 a b rfl),isP]
def QX (p:Mk×D):D:=.tup [enc p.1,p.2]
theorem GN:∀{ds:List D},ds.all isP=true->∃ps:List (Mk×D),ds=ps.map QX/\∀p∈ps,(0≤p.1.1/\p.1.1<6)/\1≤p.1.2
 |[],_=>⟨[],rfl,λp hp=>by cases hp⟩
 |d :: ds,h=>by
  rw [Vf,Wl] at h
  obtain⟨ps,e,hm⟩:=GN h.2
  have h1:=h.1
  unfold isP at h1
  split at h1
  ·rename_i m x
   obtain⟨ms,e1,hm1⟩:=U6 (ds:=[m]) (by simpa using h1)
   match ms,e1 with
   |[q],e1=>
    simp only [W1,Wc,VO,and_true] at e1
    refine⟨(q,x) :: ps,by rw [W1,←e,e1];rfl,λp hp=>?_⟩
    rcases Ww.mp hp with z|z
    ·subst z;exact hm1 q Ws
    ·exact hm p z
  ·cases h1
theorem Am (p q:Mk)(S:Sto):gLt (enc p) (enc q) S=some (.bl (ltD (enc p) (enc q)),S):=by
 unfold enc gLt
 exact if_pos rfl
theorem Ae {l:List Mk}:∀p∈(l.map enc).zip ((l.map enc).drop 1),∀S',gLt p.1 p.2 S'=some (.bl (ltD p.1 p.2),S'):=λp hp S'=>by
 obtain⟨h1,h2⟩:=W1s (a:=p.1) (b:=p.2) hp
 obtain⟨i,_,e1⟩:=WD.mp h1
 obtain⟨j,_,e2⟩:=WD.mp (W20 h2)
 rw [←e1,←e2]
 exact Am i j S'
def dec:D->Mk
 | .tup [.int a,.int b]=>(a,b)
 |_=>(0,0)
def Ri (ks:List Mk)(ds:List D):Bool:=ds.all isP&&(rise (ds.map hd1)&&(ds.map hd1).all λd=>Z9 ks (dec d))
theorem Hx {ks:List Mk}{ds:List D}{S:Sto}(h:∀d∈ds,TyP d S)(hl:ds.length≤Wk)(hk:ks.length≤Wk):Zo [.tup ds,.tup (ks.map enc)] S=some (.bl (Ri ks ds),S):=by
 unfold Zo
 have c1:ZW ds .no [none] (gN 0) YO Y5 ds [] S=some ((ds.map isP).map D.bl,S):=by
  have:=Ye (ds0:=ds) (gd:=.no) (cap:=[none]) (g:=gN 0) (m:=Y5) (S:=S) ds id (λd=>D.bl (isP d)) ZG hl λd hd=>⟨_,rfl,by simp only [Y5,EVS,W8,W9,Wf,W2,Wg,Wh,Wa,Wb,W4,↓reduceIte,reduceCtorEq,W1,Wc,W3,id];exact Ad (h d hd)⟩
  rw [W2e] at this
  rw [this,WJ]
  rfl
 unfold Ri
 cases ha:ds.all isP with
 |false=>simp only [EVS,W8,W9,Wf,W2,Wg,Wh,Wa,Wb,W4,↓reduceIte,reduceCtorEq,W1,Wc,W3,Bd,c1,T7,JM,ha,VB]
 |true=>
  obtain⟨ps,e,hm⟩:=GN ha
  subst e
  rw [We] at hl
  have c2:ZW (ps.map QX) .no [none] (gN 0) YO Yn (ps.map QX) [] S=some ((ps.map (·.1)).map enc,S):=by
   rw [Ye ps QX (λp=>enc p.1) ZG hl λp hp=>⟨_,rfl,by simp only [Yn,EVS,W8,W9,Wf,W2,Wg,Wh,Wa,Wb,W4,↓reduceIte,reduceCtorEq,W1,Wc,W3,QX]⟩,WJ]
   rfl
  have e3:(ps.map QX).map hd1=(ps.map (·.1)).map enc:=by rw [WJ,WJ];rfl
  have e4:(((ps.map (·.1)).map enc).all λd=>Z9 ks (dec d))=(ps.map (·.1)).all (Z9 ks):=by rw [VC];rfl
  have r:=Bn (n:=S.length) (S:=S++[Ob.lst ((ps.map (·.1)).map enc)]) (WC ..) (by simpa using hl) Ae
  have r2:=LD (ms:=ks) (os:=ps.map (·.1)) (n:=S.length) (S:=S++[Ob.lst ((ps.map (·.1)).map enc)]) (WC ..) hk (by simpa using hl)
  rw [e3,e4]
  cases hr:rise ((ps.map (·.1)).map enc) with
  |false=>
   rw [hr] at r
   simp only [EVS,W8,W9,Wf,W2,Wg,Wh,Wa,Wb,W4,↓reduceIte,reduceCtorEq,W1,Wc,W3,Bd,c1,T7,JM,ha,c2,r,Vg,VB,Yo _ _ (.bl _) rfl]
  |true=>
   rw [hr] at r
   simp only [EVS,W8,W9,Wf,W2,Wg,Wh,Wa,Wb,W4,↓reduceIte,reduceCtorEq,W1,Wc,W3,Bd,c1,T7,JM,ha,c2,r,r2,Vg,Yo _ _ (.bl _) rfl]
def Lx:D->Bool
 | .str x=>Gk x
 |_=>false
def IB:D->Bool
 | .str x=>BV x
 |_=>false
def Fc (d:D):Prop:=∀x,d = .str x->x.length≤Wk
theorem Pn {d:D}{S:Sto}{T:String}(e:tyD d S=some T)(hs:∀x,d≠.str x):QG T "str" = false:=by
 cases d with
 |str x=>exact absurd rfl (hs x)
 |ref n=>dsimp only [tyD] at e;split at e<;>cases e<;>decide
 |scr n=>cases e
 |_=>cases e<;>decide
theorem Om {d:D}{S:Sto}(h:Ty d S)(hs:Fc d):Ys [d] S=some (.bl (Lx d),S):=by
 by_cases q:∃x,d = .str x
 ·obtain⟨x,rfl⟩:=q
  exact SV (hs x rfl)
 ·obtain⟨T,e⟩:=Vw.mp h
  have:=SN e (Pn e λx z=>q ⟨x,z⟩)
  rw [this]
  cases d with
  |str x=>exact absurd ⟨x,rfl⟩ q
  |_=>rfl
theorem Z0T {d:D}{S:Sto}(h:Ty d S)(hs:Fc d):Q9 [d] S=some (.bl (IB d),S):=by
 by_cases q:∃x,d = .str x
 ·obtain⟨x,rfl⟩:=q
  exact HL (hs x rfl)
 ·obtain⟨T,e⟩:=Vw.mp h
  have:=SM e (Pn e λx z=>q ⟨x,z⟩)
  rw [this]
  cases d with
  |str x=>exact absurd ⟨x,rfl⟩ q
  |_=>rfl
def D8:D->D
 | .tup (_ :: b :: _)=>b
 |_=>.non
def Z0F (d:D)(S:Sto):Prop:=Ty d S/\∀ds,d = .tup ds->ds.length≤Wk/\∀e∈ds,TyP e S/\∀m x,e = .tup [m,x]->Ty x S/\Fc x
def Hu (ks:List Mk):D->Bool
 | .tup ds=>Ri ks ds&&ds.all λd=>Lx (D8 d)
 |_=>false
def IZ (ks:List Mk):D->Bool
 | .tup ds=>Ri ks ds&&ds.all λd=>IB (D8 d)
 |_=>false
theorem Pm {d:D}{S:Sto}(h:Ty d S)(hs:∀l,d≠.tup l):Rf "tuple" (some (d,S))=some (.bl false,S):=by
 obtain⟨T,e⟩:=Vw.mp h
 have:QG T "tuple" = false:=by
  cases d with
  |tup x=>exact absurd rfl (hs x)
  |ref n=>dsimp only [tyD] at e;split at e<;>cases e<;>decide
  |scr n=>cases e
  |_=>cases e<;>decide
 rw [Lc,e]
 show some (D.bl (QG T "tuple"),S)=_
 rw [this]
theorem Hw {d k:D}{S:Sto}(h:Ty d S)(hs:∀l,d≠.tup l):Zo [d,k] S=some (.bl false,S):=by
 unfold Zo
 simp only [EVS,W8,W9,Wf,W2,Wg,Wh,Wa,Wb,W4,↓reduceIte,reduceCtorEq,W1,Wc,W3,Pm h hs]
theorem F9 {ks:List Mk}{ds:List D}(h:Ri ks ds=true):∃ps:List (Mk×D),ds=ps.map QX:=by
 unfold Ri at h
 rw [Wl] at h
 obtain⟨ps,e,_⟩:=GN h.1
 exact⟨ps,e⟩
theorem Z2v {ks:List Mk}{d:D}{S:Sto}(h:Z0F d S)(hk:ks.length≤Wk):Qq [d,.tup (ks.map enc)] S=some (.bl (Hu ks d),S):=by
 unfold Qq
 by_cases q:∃ds,d = .tup ds
 ·obtain⟨ds,rfl⟩:=q
  obtain⟨hl,hd⟩:=h.2 ds rfl
  have ha:=Hx (ks:=ks) (λe he=>(hd e he).1) hl hk (S:=S)
  unfold Hu
  cases q:Ri ks ds with
  |false=>
   rw [q] at ha
   simp only [EVS,W8,W9,Wf,W2,Wg,Wh,Wa,Wb,W4,↓reduceIte,reduceCtorEq,W1,Wc,W3,ha,q,VB]
  |true=>
   rw [q] at ha
   obtain⟨ps,rfl⟩:=F9 q
   rw [We] at hl
   have c1:ZW (ps.map QX) .no [none] (gN 0) YO J0 (ps.map QX) [] S=some ((ps.map λp=>Lx p.2).map D.bl,S):=by
    rw [Ye ps QX (λp=>D.bl (Lx p.2)) ZG hl λp hp=>⟨_,rfl,?_⟩,WJ]
    ·rfl
    ·have hp':=(hd (QX p) (WD.mpr ⟨p,hp,rfl⟩)).2 _ _ rfl
     simp only [J0,EVS,W8,W9,Wf,W2,Wg,Wh,Wa,Wb,W4,↓reduceIte,reduceCtorEq,W1,Wc,W3,QX,Om hp'.1 hp'.2]
   have e4:((ps.map QX).all λd=>Lx (D8 d))=ps.all λp=>Lx p.2:=by rw [VC];rfl
   simp only [EVS,W8,W9,Wf,W2,Wg,Wh,Wa,Wb,W4,↓reduceIte,reduceCtorEq,W1,Wc,W3,ha,c1,T7,JM,e4,q,Vg]
 ·have ha:=Hw (k:=.tup (ks.map enc)) h.1 λl z=>q ⟨l,z⟩
  have:Hu ks d=false:=by
   cases d with
   |tup l=>exact absurd ⟨l,rfl⟩ q
   |_=>rfl
  simp only [EVS,W8,W9,Wf,W2,Wg,Wh,Wa,Wb,W4,↓reduceIte,reduceCtorEq,W1,Wc,W3,ha,this]
theorem Z2s {ks:List Mk}{d:D}{S:Sto}(h:Z0F d S)(hk:ks.length≤Wk):Qp [d,.tup (ks.map enc)] S=some (.bl (IZ ks d),S):=by
 unfold Qp
 by_cases q:∃ds,d = .tup ds
 ·obtain⟨ds,rfl⟩:=q
  obtain⟨hl,hd⟩:=h.2 ds rfl
  have ha:=Hx (ks:=ks) (λe he=>(hd e he).1) hl hk (S:=S)
  unfold IZ
  cases q:Ri ks ds with
  |false=>
   rw [q] at ha
   simp only [EVS,W8,W9,Wf,W2,Wg,Wh,Wa,Wb,W4,↓reduceIte,reduceCtorEq,W1,Wc,W3,ha,q,VB]
  |true=>
   rw [q] at ha
   obtain⟨ps,rfl⟩:=F9 q
   rw [We] at hl
   have c1:ZW (ps.map QX) .no [none] (gN 0) YO QZ (ps.map QX) [] S=some ((ps.map λp=>IB p.2).map D.bl,S):=by
    rw [Ye ps QX (λp=>D.bl (IB p.2)) ZG hl λp hp=>⟨_,rfl,?_⟩,WJ]
    ·rfl
    ·have hp':=(hd (QX p) (WD.mpr ⟨p,hp,rfl⟩)).2 _ _ rfl
     simp only [QZ,EVS,W8,W9,Wf,W2,Wg,Wh,Wa,Wb,W4,↓reduceIte,reduceCtorEq,W1,Wc,W3,QX,Z0T hp'.1 hp'.2]
   have e4:((ps.map QX).all λd=>IB (D8 d))=ps.all λp=>IB p.2:=by rw [VC];rfl
   simp only [EVS,W8,W9,Wf,W2,Wg,Wh,Wa,Wb,W4,↓reduceIte,reduceCtorEq,W1,Wc,W3,ha,c1,T7,JM,e4,q,Vg]
 ·have ha:=Hw (k:=.tup (ks.map enc)) h.1 λl z=>q ⟨l,z⟩
  have:IZ ks d=false:=by
   cases d with
   |tup l=>exact absurd ⟨l,rfl⟩ q
   |_=>rfl
  simp only [EVS,W8,W9,Wf,W2,Wg,Wh,Wa,Wb,W4,↓reduceIte,reduceCtorEq,W1,Wc,W3,ha,this]
def XA:D->Bool
 | .tup ds=>isK ds
 |_=>false
def LR:D->List Mk
 | .tup ds=>ds.map dec
 |_=>[]
def isF:D->Bool
 | .tup [a,nm,kn,ns,ts]=>isM a&&(Lx nm&&(XA kn&&(Z9 (LR kn) (dec a)&&(Hu (LR kn) ns&&IZ (LR kn) ts))))
 |_=>false
structure TyF (d:D) (S:Sto):Prop where
 ty:Ty d S
 parts:∀a nm kn ns ts,d = .tup [a,nm,kn,ns,ts]->TyM a S/\(Ty nm S/\Fc nm)/\(Ty kn S/\∀ds,kn = .tup ds->(∀e∈ds,TyM e S)/\ds.length≤Wk)/\Z0F ns S/\Z0F ts S
theorem Xw {d:D}{S:Sto}(h:Ty d S)(hs:∀l,d≠.tup l):YB [d] S=some (.bl false,S):=by
 unfold YB
 simp only [EVS,W8,W9,Wf,W2,Wg,Wh,Wa,Wb,W4,↓reduceIte,reduceCtorEq,W1,Wc,W3,Pm h hs]
theorem IK {d:D}{S:Sto}(h:TyF d S):Qo [d] S=some (.bl (isF d),S):=by
 unfold Qo
 have ht:=Rx (n:=5) h.ty
 cases ht2:isT 5 d with
 |false=>
  rw [ht2] at ht
  have:isF d=false:=by
   unfold isF
   split
   ·simp [isT] at ht2
   ·rfl
  simp only [EVS,W8,W9,Wf,W2,Wg,Wh,Wa,Wb,W4,↓reduceIte,reduceCtorEq,W1,Wc,W3,ht,this]
 |true=>
  rw [ht2] at ht
  obtain⟨a,nm,kn,ns,ts,rfl⟩:∃a nm kn ns ts,d = .tup [a,nm,kn,ns,ts]:=by
   cases d with
   |tup ds=>
    match ds,ht2 with
    |[a,b,c,d,e],_=>exact⟨a,b,c,d,e,rfl⟩
    |[],z=>simp [isT] at z
    |[_],z=>simp [isT] at z
    |[_,_],z=>simp [isT] at z
    |[_,_,_],z=>simp [isT] at z
    |[_,_,_,_],z=>simp [isT] at z
    |_ :: _ :: _ :: _ :: _ :: _ :: l,z=>simp [isT] at z;omega
   |_=>cases ht2
  obtain⟨ha,hnm,hkn,hns,hts⟩:=h.parts a nm kn ns ts rfl
  have h1:=NK ha
  have h2:=Om hnm.1 hnm.2
  have h3:YB [kn] S=some (.bl (XA kn),S):=by
   by_cases q:∃l,kn = .tup l
   ·obtain⟨l,rfl⟩:=q
    exact Xx (hkn.2 l rfl).1 (hkn.2 l rfl).2
   ·rw [Xw hkn.1 λl z=>q ⟨l,z⟩]
    cases kn with
    |tup l=>exact absurd ⟨l,rfl⟩ q
    |_=>rfl
  have eF:isF (.tup [a,nm,kn,ns,ts])=(isM a&&(Lx nm&&(XA kn&&(Z9 (LR kn) (dec a)&&(Hu (LR kn) ns&&IZ (LR kn) ts))))):=rfl
  rw [eF]
  cases q1:isM a with
  |false=>rw [q1] at h1;simp only [EVS,W8,W9,Wf,W2,Wg,Wh,Wa,Wb,W4,↓reduceIte,reduceCtorEq,W1,Wc,W3,ht,h1,VB]
  |true=>
   rw [q1] at h1
   cases q2:Lx nm with
   |false=>rw [q2] at h2;simp only [EVS,W8,W9,Wf,W2,Wg,Wh,Wa,Wb,W4,↓reduceIte,reduceCtorEq,W1,Wc,W3,ht,h1,h2,Vg,VB]
   |true=>
    rw [q2] at h2
    cases q3:XA kn with
    |false=>rw [q3] at h3;simp only [EVS,W8,W9,Wf,W2,Wg,Wh,Wa,Wb,W4,↓reduceIte,reduceCtorEq,W1,Wc,W3,ht,h1,h2,h3,Vg,VB]
    |true=>
     rw [q3] at h3
     obtain⟨l,rfl⟩:∃l,kn = .tup l:=by
      cases kn with
      |tup l=>exact⟨l,rfl⟩
      |_=>cases q3
     have q3':=q3
     unfold XA isK at q3'
     rw [Wl] at q3'
     obtain⟨ms,rfl,hms⟩:=U6 q3'.1
     have hml:ms.length≤Wk:=by have:=(hkn.2 _ rfl).2;simpa using this
     obtain⟨as,e1,_⟩:=U6 (ds:=[a]) (by simpa using q1)
     obtain⟨p,rfl⟩:∃p,a=enc p:=by
      match as,e1 with
      |[p],e1=>simp only [W1,Wc,VO,and_true] at e1;exact⟨p,e1⟩
     have e2:LR (.tup (ms.map enc))=ms:=by
      show (ms.map enc).map dec=ms
      rw [WJ]
      exact List.map_id' ms
     have e3:dec (enc p)=p:=rfl
     have h4:ZJ [enc p,.tup (ms.map enc)] S=some (.bl (Z9 ms p),S):=JV hml
     have h5:=Z2v (ks:=ms) hns hml
     have h6:=Z2s (ks:=ms) hts hml
     rw [e2,e3]
     cases q4:Z9 ms p with
     |false=>rw [q4] at h4;simp only [EVS,W8,W9,Wf,W2,Wg,Wh,Wa,Wb,W4,↓reduceIte,reduceCtorEq,W1,Wc,W3,ht,h1,h2,h3,h4,Vg,VB]
     |true=>
      rw [q4] at h4
      cases q5:Hu ms ns with
      |false=>rw [q5] at h5;simp only [EVS,W8,W9,Wf,W2,Wg,Wh,Wa,Wb,W4,↓reduceIte,reduceCtorEq,W1,Wc,W3,ht,h1,h2,h3,h4,h5,Vg,VB]
      |true=>rw [q5] at h5;simp only [EVS,W8,W9,Wf,W2,Wg,Wh,Wa,Wb,W4,↓reduceIte,reduceCtorEq,W1,Wc,W3,ht,h1,h2,h3,h4,h5,h6,Vg]
def Uo (p:Mk×Str):D×D:=(enc p.1,.str p.2)
theorem BH (p:Mk):QV (enc p)=some [.inl p.1,.inl p.2]:=rfl
theorem M0 (p q:Mk):kEq (enc p) (enc q)=decide (p=q):=by
 rw [Xm (BH p) (BH q)]
 rw [VX]
 simp only [decide_eq_true_eq,VO,and_true,Sum.inl.injEq]
 constructor
 ·rintro⟨h1,h2⟩;exact Prod.ext h1 h2
 ·rintro rfl;exact⟨rfl,rfl⟩
def Tp (ps:List (Mk×Str))(m:Mk)(x:Str):List (Mk×Str):=if (ps.any λp=>decide (p.1=m))=true then ps.map (λp=>if p.1=m then (p.1,x) else p) else ps++[(m,x)]
theorem AH (ps:List (Mk×Str))(m:Mk)(x:Str):G1 (ps.map Uo) (enc m) (.str x)=(Tp ps m x).map Uo:=by
 unfold G1 Tp
 have e1:((ps.map Uo).any λp=>kEq p.1 (enc m))=ps.any λp=>decide (p.1=m):=by
  rw [W1n]
  congr 1
  funext p
  exact M0 p.1 m
 rw [e1]
 split
 ·rw [WJ,WJ]
  apply VP
  intro p _
  show (if kEq (enc p.1) (enc m)=true then (enc p.1,D.str x) else Uo p)=Uo (if p.1=m then (p.1,x) else p)
  rw [M0]
  by_cases q:p.1=m
  ·rw [if_pos q,if_pos (decide_eq_true q)];rfl
  ·rw [if_neg q,if_neg (by simpa using q)]
 ·rw [WU];rfl
theorem Mt (ps:List (Mk×Str))(m:Mk):Qs (ps.map Uo) (enc m)=true:=by
 show ((ps.map Uo).all λp=>(QV p.1).isSome)=true
 rw [VC,Wq]
 intro p _
 rfl
theorem K8:∀{ps:List (Mk×Str)} {m:Mk} {x:Str},(ps.map (·.1)).Nodup->(m,x)∈ps->UH (ps.map Uo) (enc m)=some (.str x)
 |[],_,_,_,z=>by cases z
 |p :: ps,m,x,hn,hm=>by
  unfold UH
  rw [W1,VV]
  have e:kEq (Uo p).1 (enc m)=decide (p.1=m):=M0 _ _
  rw [W1,W04] at hn
  by_cases q:p.1=m
  ·rw [e,decide_eq_true q]
   rcases Ww.mp hm with z|z
   ·rw [←z];rfl
   ·exact absurd (WD.mpr ⟨_,z,q.symm⟩) hn.1
  ·rw [e,decide_eq_false q]
   rcases Ww.mp hm with z|z
   ·rw [←z] at q;exact absurd rfl q
   ·exact K8 hn.2 z
theorem GK (ps:List (Mk×Str))(m:Mk)(x:Str)(hn:(ps.map (·.1)).Nodup):((Tp ps m x).map (·.1)).Nodup:=by
 unfold Tp
 split
 ·have:(ps.map λp=>if p.1=m then (p.1,x) else p).map (·.1)=ps.map (·.1):=by
   rw [WJ]
   apply VP
   intro p _
   show (if p.1=m then (p.1,x) else p).1=p.1
   split<;>rfl
  rw [this];exact hn
 ·rename_i h
  rw [WU,W0J]
  refine⟨hn,by simp,λa ha b hb=>?_⟩
  simp only [W1,Wc,V3] at hb
  subst hb
  intro e
  subst e
  obtain⟨p,p1,p2⟩:=WD.mp ha
  exact h (V1.mpr ⟨p,p1,by simpa using p2⟩)
theorem Nw {ps:List (Mk×Str)}{m:Mk}{x:Str}{p:Mk×Str}(h:p∈Tp ps m x):p=(m,x)\/p∈ps:=by
 unfold Tp at h
 split at h
 ·obtain⟨q,q1,q2⟩:=WD.mp h
  split at q2
  ·rename_i e
   exact .inl (by rw [←q2,e])
  ·exact .inr (q2 ▸ q1)
 ·rcases Va.mp h with z|z
  ·exact .inr z
  ·exact .inl (V3.mp z)
theorem Nx (ps:List (Mk×Str))(m:Mk)(x:Str):(Tp ps m x).length≤ps.length+1:=by
 unfold Tp
 split
 ·rw [We];omega
 ·rw [WN];exact Wp _
theorem JE (l:List Mk):Q6 30 (l.map enc):=by
 refine⟨λa ha=>?_,λa ha b hb=>?_⟩
 ·obtain⟨p,_,rfl⟩:=WD.mp ha;rfl
 ·obtain⟨p,_,rfl⟩:=WD.mp ha
  obtain⟨q,_,rfl⟩:=WD.mp hb
  rfl
theorem G9 (l:List Mk)(h:l.length<64):Yg (l.map enc)=true:=by
 obtain⟨h1,h2⟩:=JE l
 have a:FK (l.map enc)=true:=by
  unfold FK
  rw [V1]
  refine⟨2,by simp,?_⟩
  rw [VC,Wq]
  intro p _
  rfl
 have b:Ft (l.map enc)=true:=by
  unfold Ft
  rw [Wl,Wq,Wq]
  exact⟨h1,λx hx=>Wq.mpr (h2 x hx)⟩
 unfold Yg
 rw [a,b,We,decide_eq_true h]
 simp
theorem FH (l:List Mk)(hn:l.Nodup):∃l':List Mk,Y6 (l.map enc)=l'.map enc/\l'.Perm l/\rise (l'.map enc)=true:=by
 have hp:=Yf (l.map enc)
 have hs:=Yv (JE l) (l:=l.map enc) λ_ z=>z
 have hed:∀e∈Y6 (l.map enc),enc (dec e)=e:=λe he=>by
  obtain⟨p,_,rfl⟩:=WD.mp (hp.mem_iff.mp he)
  rfl
 have e1:((Y6 (l.map enc)).map dec).map enc=Y6 (l.map enc):=by
  rw [WJ]
  conv=>rhs;rw [←W2e (Y6 (l.map enc))]
  exact VP λe he=>hed e he
 have e2:(l.map enc).map dec=l:=by rw [WJ];exact List.map_id' l
 have hpl:((Y6 (l.map enc)).map dec).Perm l:=by have:=hp.map dec;rw [e2] at this;exact this
 refine⟨(Y6 (l.map enc)).map dec,e1.symm,hpl,?_⟩
 rw [e1]
 have hnd:(Y6 (l.map enc)).Nodup:=hp.nodup_iff.mpr (List.Pairwise.map _ (λa b hab z=>hab (by have:=congrArg dec z;exact this)) hn)
 have hmem:∀e∈Y6 (l.map enc),e∈l.map enc:=λe he=>hp.mem_iff.mp he
 generalize Y6 (l.map enc)=ds at *
 unfold rise
 have key:∀ds:List D,ds.Pairwise leD->ds.Nodup->(∀e∈ds,e∈l.map enc)->((ds.zip (ds.drop 1)).all λp=>ltD p.1 p.2)=true:=by
  intro ds
  induction ds with
  |nil=>intro _ _ _;rfl
  |cons a r ih=>
   intro h1 h2 h3
   cases r with
   |nil=>rfl
   |cons b r=>
    rw [VS] at h1
    rw [W04] at h2
    have i:=ih h1.2 h2.2 λe he=>h3 e (Wz _ he)
    show ((ltD a b)&&(((b :: r).zip ((b :: r).drop 1)).all λp=>ltD p.1 p.2))=true
    rw [i,W0q]
    have hab:a≠b:=λz=>h2.1 (by rw [z];exact Ws)
    have hc:=JE l
    rcases TC 30 a b (hc.2 a (h3 a Ws) b (h3 b (by simp))) (hc.1 a (h3 a Ws)) (hc.1 b (h3 b (by simp))) with z|z|z
    ·exact absurd z hab
    ·exact z
    ·have:=h1.1 b Ws
     rw [this] at z
     cases z
 exact key ds hs hnd hmem
theorem DS {ps:List (Mk×Str)}{m:Mk}{x:Str}{p:Mk×Str}(h:p∈Tp ps m x)(e:p.1=m):p.2=x:=by
 unfold Tp at h
 split at h
 ·obtain⟨q,q1,q2⟩:=WD.mp h
  split at q2
  ·rw [←q2]
  ·rename_i z;rw [q2] at z;exact absurd e z
 ·rename_i z
  rcases Va.mp h with y|y
  ·exact absurd (V1.mpr ⟨p,y,by simpa using e⟩) z
  ·rw [V3.mp y]
theorem Uv (ps:List (Mk×Str))(m:Mk)(x:Str):((Tp ps m x).any λp=>decide (p.1=m))=true:=by
 unfold Tp
 split
 ·rename_i h
  obtain⟨p,p1,p2⟩:=V1.mp h
  have e:p.1=m:=by simpa using p2
  rw [W1n,V1]
  refine⟨p,p1,?_⟩
  show decide ((if p.1=m then (p.1,x) else p).1=m)=true
  rw [if_pos e]
  exact decide_eq_true e
 ·rw [List.any_append];simp
theorem FW (ps:List (Mk×Str))(m:Mk)(x y:Str):(Tp (Tp ps m x) m y).length=(Tp ps m x).length:=by
 have h:=Uv ps m x
 generalize Tp ps m x=qs at *
 unfold Tp
 rw [if_pos h,We]
theorem Ut {mv ma mb:M D}{en:En}{S S':Sto}{v k:D}{n:Nat}(h1:mv en S=some (v,S))(h2:ma en S=some (.ref n,S))(h3:mb en S=some (k,S))(h4:HX (.ref n) k v S=some S'):QS mv ma mb en S=some (.nx,en,S'):=by
 unfold QS
 rw [h1,WZ,h2,WZ,h3,WZ]
 dsimp only
 rw [h4]
 rfl
theorem Mr {S:Sto}{ps:List (Mk×Str)}{m:Mk}{x:Str}(h:ps.length<Wk):HX (.ref S.length) (enc m) (.str x) (S++[.dct (ps.map Uo)])=some (S++[.dct ((Tp ps m x).map Uo)]):=by
 dsimp only [HX]
 rw [WC]
 dsimp only
 rw [Mt,We,decide_eq_true h,AH]
 simp
def okW (kind:Int)(x:Str):Prop:=if kind=1 then (cs x).length≤60/\∀ch∈cs x,32≤ch/\ch≤126 else (1≤(cs x).length/\(cs x).length≤6)/\∀ch∈cs x,97≤ch/\ch≤122
def D9 (ks:List Mk)(m:Mk):Prop:=∃q∈ks,q.1=m.1/\1≤m.2/\m.2≤q.2
def Fi (ks:List Mk)(kind:Int)(ps:List (Mk×Str)):Prop:=(ps.map (·.1)).Nodup/\∀p∈ps,D9 ks p.1/\okW kind p.2
theorem FI {α:Type}{P:List α->Prop}(h0:P [])(h1:∀l a,P l->P (l++[a]))(l:List α):P l:=by
 have:∀r:List α,P r.reverse:=λr=>by
  induction r with
  |nil=>exact h0
  |cons a r ih=>rw [List.reverse_cons];exact h1 _ a ih
 rw [←List.reverse_reverse l]
 exact this _
theorem Z0U {ks:List Mk}{c kind seed:Int}(h0:0<ks.length)(hk:∀q∈ks,1≤q.2)(k:Nat){ps:List (Mk×Str)}(hps:ps.length<60)(hg:Fi ks kind ps) :
  ∃ps',Fi ks kind ps'/\ps'.length≤ps.length+1/\∀(S:Sto) (x6 x7 x8 x9:Option D),∃y6 y7 y8 y9,Yb [some (.int c),some (.tup (ks.map enc)),some (.int kind),some (.int seed),some (.ref S.length),some (.int (k:Nat)),x6,x7,x8,x9] (S++[.dct (ps.map Uo)])
   = some (.nx,[some (.int c),some (.tup (ks.map enc)),some (.int kind),some (.int seed),some (.ref S.length),some (.int (k:Nat)),y6,y7,y8,y9],S++[.dct (ps'.map Uo)]):=by
 have hL:(0:Int)<(ks.length:Int):=by omega
 have a0:=Vk ((c+7*(k:Int))*48271%9887) (b:=(ks.length:Int)) (by omega)
 have a1:=Vs ((c+7*(k:Int))*48271%9887) (b:=(ks.length:Int)) (by omega)
 obtain⟨a,ea⟩:∃a:Nat,(c+7*(k:Int))*48271%9887%(ks.length:Int)=(a:Int):=⟨_,(Int.toNat_of_nonneg a0).symm⟩
 have ha:a<ks.length:=by omega
 obtain⟨⟨h,most⟩,hp⟩:∃p,ks[a]? = some p:=⟨_,Wm ha⟩
 have hmem:(h,most)∈ks:=V4 hp
 have hm1:=hk _ hmem
 dsimp only at hm1
 have hm0:(0:Int)<most:=by omega
 have b0:=Vk ((c+11*(k:Int))*48271%9883) (b:=most) (by omega)
 have b1:=Vs ((c+11*(k:Int))*48271%9883) (b:=most) (by omega)
 have hix:∀S,gIx (.tup (ks.map enc)) (.int (a:Int)) S=some (.tup [.int h,.int most],S):=λS=>M3 (by rw [WG,hp];rfl)
 generalize hcount:1+(c+11*(k:Int))*48271%9883%most=cnt
 generalize hw:seed+97*h+13*cnt=w
 obtain⟨x,hx1,hx2,hx⟩:=Ps w
 obtain⟨y,hy1,hy2,hy⟩:=HJ w
 have hok:D9 ks (h,cnt):=⟨_,hmem,rfl,by show 1≤cnt;omega,by show cnt≤most;omega⟩
 have hz:ps.length<Wk:=Nat.lt_trans hps (by decide)
 have hz2:(Tp ps (h,cnt) x).length<Wk:=Nat.lt_of_le_of_lt (Nx ps (h,cnt) x) (WQ (show ps.length+1<64 by omega) (by decide))
 have q1:(0:Int)<9887:=by decide
 have q2:(0:Int)<9883:=by decide
 have s1:=λS:Sto=>Ut (mv:=Zj Qi (Z3 (Z6 9) ZV)) (ma:=Z6 4) (mb:=Z6 8) (en:=[some (.int c),some (.tup (ks.map enc)),some (.int kind),some (.int seed),some (.ref S.length),some (.int (k:Nat)),some (.int h),some (.int most),some (.tup [.int h,.int cnt]),some (.int w)])
  (S:=S++[.dct (ps.map Uo)]) (v:=.str x) (n:=S.length) (k:=enc (h,cnt)) (by simp only [EVS,W8,W9,Wf,W2,Wg,Wh,Wa,Wb,W4,↓reduceIte,reduceCtorEq,W1,Wc,W3,hx]) rfl rfl (Mr hz)
 have s2:=λS:Sto=>Ut (mv:=Zj Yt (Z3 (Z6 9) ZV)) (ma:=Z6 4) (mb:=Z6 8) (en:=[some (.int c),some (.tup (ks.map enc)),some (.int kind),some (.int seed),some (.ref S.length),some (.int (k:Nat)),some (.int h),some (.int most),some (.tup [.int h,.int cnt]),some (.int w)])
  (S:=S++[.dct ((Tp ps (h,cnt) x).map Uo)]) (v:=.str y) (n:=S.length) (k:=enc (h,cnt)) (by simp only [EVS,W8,W9,Wf,W2,Wg,Wh,Wa,Wb,W4,↓reduceIte,reduceCtorEq,W1,Wc,W3,hy]) rfl rfl (Mr hz2)
 by_cases kd:kind=1
 ·subst kd
  refine⟨Tp (Tp ps (h,cnt) x) (h,cnt) y,⟨GK _ _ _ (GK _ _ _ hg.1),λp hp=>?_⟩,?_,λS x6 x7 x8 x9=>⟨some (.int h),some (.int most),some (.tup [.int h,.int cnt]),some (.int w),?_⟩⟩
  rotate_left 2
  ·have s1:=s1 S
   have s2:=s2 S
   simp only [Yb,EVS,W8,W9,Wf,W2,Wg,Wh,Wa,Wb,W4,↓reduceIte,reduceCtorEq,W1,Wc,W3,UV,We,Q3,q1,q2,hL,hm0,ea,hix,hcount,hw,s1,s2]
  ·have okY:okW 1 y:=by unfold okW;rw [if_pos rfl];exact⟨hy1,hy2⟩
   by_cases e:p.1=(h,cnt)
   ·have:=DS hp e
    rw [e,this]
    exact⟨hok,okY⟩
   ·rcases Nw hp with z|z
    ·rw [z] at e;exact absurd rfl e
    ·rcases Nw z with z|z
     ·rw [z] at e;exact absurd rfl e
     ·exact hg.2 p z
  ·have h1:=Nx ps (h,cnt) x
   have h2:=FW ps (h,cnt) x y
   omega
 ·refine⟨Tp ps (h,cnt) x,⟨GK _ _ _ hg.1,λp hp=>?_⟩,Nx _ _ _,λS x6 x7 x8 x9=>⟨some (.int h),some (.int most),some (.tup [.int h,.int cnt]),some (.int w),?_⟩⟩
  rotate_left 1
  ·have s1:=s1 S
   simp only [Yb,EVS,W8,W9,Wf,W2,Wg,Wh,Wa,Wb,W4,↓reduceIte,reduceCtorEq,W1,Wc,W3,UV,We,Q3,q1,q2,hL,hm0,ea,hix,hcount,hw,s1,kd]
  ·rcases Nw hp with z|z
   ·rw [z]
    exact⟨hok,by unfold okW;rw [if_neg kd];exact⟨hx1,hx2⟩⟩
   ·exact hg.2 p z
theorem Gc {ps:List (Mk×Str)}:∀l:List Mk,(∀m∈l,m∈ps.map (·.1))->∃qs:List (Mk×Str),qs.map (·.1)=l/\∀p∈qs,p∈ps
 |[],_=>⟨[],rfl,λp hp=>by cases hp⟩
 |m :: l,h=>by
  obtain⟨qs,e,hq⟩:=Gc l λm hm=>h m (Wz _ hm)
  obtain⟨p,p1,p2⟩:=WD.mp (h m Ws)
  refine⟨p :: qs,by rw [W1,e,p2],λq hq'=>?_⟩
  rcases Ww.mp hq' with z|z
  ·rw [z];exact p1
  ·exact hq q z
theorem BC (n:Nat)(ps:List (Mk×Str)):JR n (D.tup (ps.map λp=>.tup [enc p.1,.str p.2]))=true:=by
 unfold JR
 induction ps with
 |nil=>unfold lowDs;rfl
 |cons p ms ih=>
  rw [W1]
  unfold lowDs
  rw [ih,W0q]
  simp [enc,JR,lowDs]
theorem Bx {ks:List Mk}{c kind seed:Int}(h0:0<ks.length)(hk:∀q∈ks,1≤q.2) :
  ∃ps:List (Mk×Str),ps.length≤3/\Fi ks kind ps/\rise ((ps.map (·.1)).map enc)=true/\∀S,Qj [.int c,.tup (ks.map enc),.int kind,.int seed] S=some (.tup (ps.map λp=>.tup [enc p.1,.str p.2]),S):=by
 have m0:=Vk (c*48271%9901) (b:=4) (by decide)
 have m1:=Vs (c*48271%9901) (b:=4) (by decide)
 obtain⟨n,hn⟩:∃n:Nat,c*48271%9901%4=(n:Int):=⟨_,(Int.toNat_of_nonneg m0).symm⟩
 have hn3:n≤3:=by omega
 let T:Nat->List (Mk×Str)->List (Mk×Str)->Prop:=λk ps ps'=>Fi ks kind ps'/\ps'.length≤ps.length+1/\∀(S:Sto) (x6 x7 x8 x9:Option D),∃y6 y7 y8 y9,Yb [some (.int c),some (.tup (ks.map enc)),some (.int kind),some (.int seed),some (.ref S.length),some (.int (k:Nat)),x6,x7,x8,x9] (S++[.dct (ps.map Uo)])
   = some (.nx,[some (.int c),some (.tup (ks.map enc)),some (.int kind),some (.int seed),some (.ref S.length),some (.int (k:Nat)),y6,y7,y8,y9],S++[.dct (ps'.map Uo)])
 obtain⟨nxt,hnx⟩:∃nxt:Nat->List (Mk×Str)->List (Mk×Str),∀k ps,ps.length<60->Fi ks kind ps->T k ps (nxt k ps):=by
  have:∀k ps,∃ps',ps.length<60->Fi ks kind ps->T k ps ps':=λk ps=>by
   by_cases q:ps.length<60/\Fi ks kind ps
   ·obtain⟨ps',z⟩:=Z0U (c:=c) (seed:=seed) h0 hk k q.1 q.2
    exact⟨ps',λ_ _=>z⟩
   ·exact⟨[],λz1 z2=>absurd ⟨z1,z2⟩ q⟩
  exact⟨λk ps=>Classical.choose (this k ps),λk ps=>W1W (this k ps)⟩
 have hgo:∀pre:List Nat,pre.length≤3->Fi ks kind (pre.foldl (λps k=>nxt k ps) [])/\(pre.foldl (λps k=>nxt k ps) []).length≤pre.length:=by
  intro pre
  refine FI (P:=λpre=>pre.length≤3->Fi ks kind (pre.foldl (λps k=>nxt k ps) [])/\(pre.foldl (λps k=>nxt k ps) []).length≤pre.length) ?_ ?_ pre
  ·exact λ_=>⟨⟨List.nodup_nil,λp hp=>by cases hp⟩,Wp _⟩
  ·intro pre k ih hl
   rw [WN,W0C] at hl
   obtain⟨g1,g2⟩:=ih (by omega)
   rw [W2t,W29,List.foldl_nil,WN,W0C]
   obtain⟨z1,z2,_⟩:=hnx k _ (by omega) g1
   exact⟨z1,by omega⟩
 generalize hpsd:(W7 n).foldl (λps k=>nxt k ps) []=ps
 have hg:Fi ks kind ps:=by rw [←hpsd];exact (hgo _ (by rw [Vc];exact hn3)).1
 have hl:ps.length≤n:=by
  have:=(hgo (W7 n) (by rw [Vc];exact hn3)).2
  rw [hpsd,Vc] at this
  exact this
 have loop:∀S:Sto,∃x5 x6 x7 x8 x9,Qd (B8 0 n) .no (gN 5) Yb (B8 0 n) [some (.int c),some (.tup (ks.map enc)),some (.int kind),some (.int seed),some (.ref S.length),none,none,none,none,none] (S++[.dct []])
   = some (.nx,[some (.int c),some (.tup (ks.map enc)),some (.int kind),some (.int seed),some (.ref S.length),x5,x6,x7,x8,x9],S++[.dct (ps.map Uo)]):=λS=>by
  let P:List Nat->En->Sto->Prop:=λpre en S'=>∃x5 x6 x7 x8 x9,en=[some (.int c),some (.tup (ks.map enc)),some (.int kind),some (.int seed),some (.ref S.length),x5,x6,x7,x8,x9]/\S'=S++[.dct ((pre.foldl (λps k=>nxt k ps) []).map Uo)]
  have step:∀(pre:List Nat) (k:Nat) (post:List Nat) (en:En) (S1:Sto),W7 n=pre++k :: post->P pre en S1->∃en1,gN 5 (D.int (k:Nat)) en=some en1/\∃en2 S2,Yb en1 S1=some (.nx,en2,S2)/\P (pre++[k]) en2 S2:=by
   intro pre k post en S1 hpre hP
   obtain⟨x5,x6,x7,x8,x9,rfl,rfl⟩:=hP
   have h2:=congrArg Ve hpre
   simp at h2
   obtain⟨g1,g2⟩:=hgo pre (by omega)
   obtain⟨_,_,z⟩:=hnx k _ (by omega) g1
   obtain⟨y6,y7,y8,y9,e⟩:=z S x6 x7 x8 x9
   refine⟨_,rfl,_,_,e,_,_,_,_,_,rfl,?_⟩
   rw [W2t,W29,List.foldl_nil]
  obtain⟨en',S',e,x5,x6,x7,x8,x9,e2,e3⟩:=Jn (g:=gN 5) (ds0:=B8 0 n) (gd:=.no) (body:=Yb) (W7 n) (λk=>D.int (k:Nat)) P step (λ_ _ _ _=>trivial)
   (en:=[some (.int c),some (.tup (ks.map enc)),some (.int kind),some (.int seed),some (.ref S.length),none,none,none,none,none]) (S:=S++[.dct []]) ⟨_,_,_,_,_,rfl,rfl⟩
  rw [←U2] at e
  subst e2 e3
  rw [hpsd] at e
  exact⟨_,_,_,_,_,e⟩
 obtain⟨l,l1,l2,l3⟩:=FH (ps.map (·.1)) hg.1
 have hlen:l.length=ps.length:=by have:=l2.length_eq;simpa using this
 have hsz:64≤Wk:=by decide
 have hsrt:∀S:Sto,E7 (.ref S.length) (S++[.dct (ps.map Uo)])=some ((ps.map (·.1)).map enc):=λS=>by
  dsimp only [E7]
  rw [WC]
  dsimp only
  rw [WJ,WJ]
  rfl
 have hk1:∀S:Sto,Aq (some (.ref S.length,S++[Ob.dct (ps.map Uo)]))=some (l.map enc,S++[Ob.dct (ps.map Uo)]):=λS=>by
  rw [Hs (hsrt S) (G9 _ (by rw [We];omega)),l1]
 obtain⟨qs,hq1,hq2⟩:=Gc (ps:=ps) l λm hm=>l2.mem_iff.mp hm
 subst hq1
 have hql:qs.length=ps.length:=by rw [We] at hlen;exact hlen
 refine⟨qs,by omega,⟨l2.nodup_iff.mpr hg.1,λp hp=>hg.2 p (hq2 p hp)⟩,l3,λS=>?_⟩
 have hk1:=hk1 S
 obtain⟨x5,x6,x7,x8,x9,e⟩:=loop S
 have e5:(qs.map (·.1)).map enc=qs.map λp=>enc p.1:=by rw [WJ];rfl
 rw [e5] at hk1
 generalize hS2:S++[Ob.dct (ps.map Uo)]++[Ob.lst (qs.map λp=>enc p.1)]=S2
 have hd2:S2[S.length]? = some (.dct (ps.map Uo)):=by rw [←hS2];simp
 have hi2:S2[(S++[Ob.dct (ps.map Uo)]).length]? = some (.lst (qs.map λp=>enc p.1)):=by rw [←hS2,WC]
 have c2:ZW (qs.map λp=>enc p.1) (.lst (S++[Ob.dct (ps.map Uo)]).length) [none,some (.ref S.length)] (gN 0) YO Jr (qs.map λp=>enc p.1) [] S2=some (qs.map λp=>.tup [enc p.1,.str p.2],S2):=by
  refine Ye qs (λp=>enc p.1) (λp=>.tup [enc p.1,.str p.2]) (show Kg (.lst _) _ S2 from hi2) (by omega) λp hp=>⟨_,rfl,?_⟩
  have hdc:JT S2 S.length (enc p.1)=some (ps.map Uo):=by
   unfold JT
   rw [hd2]
   exact if_pos (Mt ps p.1)
  have hix:=Xt hdc (K8 hg.1 (hq2 p hp))
  simp only [Jr,EVS,W8,W9,Wf,W2,Wg,Wh,Wa,Wb,W4,↓reduceIte,reduceCtorEq,W1,Wc,W3,hix]
 unfold Qj
 have q1:(0:Int)<9901:=by decide
 have q2:(0:Int)<4:=by decide
 have hrg : -(2 ^ 62)≤(n:Int)/\(n:Int)<2 ^ 62:=⟨by omega,by omega⟩
 have hnn:Int.toNat (n:Int)=n:=by omega
 simp only [EVS,W8,W9,Wf,W2,Wg,Wh,Wa,Wb,W4,↓reduceIte,reduceCtorEq,W1,Wc,W3,Q3,q1,q2,hn,GY hrg,hnn,e,hk1,hS2,Xu hi2,c2]
 have hS3:S2=S++([Ob.dct (ps.map Uo)]++[Ob.lst (qs.map λp=>enc p.1)]):=by rw [←hS2,WS]
 rw [hS3,Yo _ _ _ (BC _ _)]
mutual
def wtD (S:Sto):D->Bool
 | .tup ds=>decide (ds.length≤Wk)&&wtDs S ds
 | .ref n=>(tyD (.ref n) S).isSome
 | .str x=>decide (x.length≤Wk)
 | .scr _=>false
 | .non=>true
 | .bl _=>true
 | .int _=>true
def wtDs (S:Sto):List D->Bool
 |[]=>true
 |d :: ds=>wtD S d&&wtDs S ds
end
theorem Mf {S:Sto}:∀{ds:List D},wtDs S ds=true↔∀d∈ds,wtD S d=true
 |[]=>by rw [wtDs];simp
 |d :: ds=>by rw [wtDs,Wl,Mf (ds:=ds)];simp
theorem UO {S:Sto}{ds:List D}:wtD S (.tup ds)=true↔ds.length≤Wk/\∀d∈ds,wtD S d=true:=by
 rw [←Mf,wtD,Wl,decide_eq_true_eq]
theorem Gw {d:D}{S:Sto}(h:wtD S d=true):Ty d S:=by
 cases d with
 |ref n=>rw [wtD] at h;exact h
 |scr n=>rw [wtD] at h;cases h
 |_=>rfl
theorem AZ {d:D}{S:Sto}(h:wtD S d=true):Fc d:=λx e=>by
 subst e
 rw [wtD] at h
 exact of_decide_eq_true h
theorem J4 {S:Sto}{ds:List D}(h:wtD S (.tup ds)=true){d:D}(hd:d∈ds):wtD S d=true:=(UO.mp h).2 d hd
theorem Z0S {d:D}{S:Sto}(h:wtD S d=true):TyM d S:=⟨Gw h,λa b e=>by subst e;exact⟨Gw (J4 h (by simp)),Gw (J4 h (by simp))⟩⟩
theorem Z3y {d:D}{S:Sto}(h:wtD S d=true):TyP d S:=⟨Gw h,λm x e=>by subst e;exact Z0S (J4 h (by simp))⟩
theorem Dn {d:D}{S:Sto}(h:wtD S d=true):Z0F d S:=⟨Gw h,λds e=>by
 subst e
 refine⟨(UO.mp h).1,λe he=>?_⟩
 have h1:=J4 h he
 refine⟨Z3y h1,λm x q=>?_⟩
 subst q
 exact⟨Gw (J4 h1 (by simp)),AZ (J4 h1 (by simp))⟩⟩
theorem Z3z {d:D}{S:Sto}(h:wtD S d=true):TyF d S:=⟨Gw h,λa nm kn ns ts e=>by
 subst e
 have h1:wtD S a=true:=J4 h (by simp)
 have h2:wtD S nm=true:=J4 h (by simp)
 have h3:wtD S kn=true:=J4 h (by simp)
 have h4:wtD S ns=true:=J4 h (by simp)
 have h5:wtD S ts=true:=J4 h (by simp)
 refine⟨Z0S h1,⟨Gw h2,AZ h2⟩,⟨Gw h3,λds q=>?_⟩,Dn h4,Dn h5⟩
 subst q
 exact⟨λe he=>Z0S (J4 h3 he),(UO.mp h3).1⟩⟩
theorem GC {α:Type}(g:α->D)(r:α->α->Prop)(hr:∀a b,ltD (g a) (g b)=true↔r a b)(ht:∀a b c,r a b->r b c->r a c):∀l:List α,rise (l.map g)=true↔l.Pairwise r
 |[]=>⟨λ_=>.nil,λ_=>rfl⟩
 |[a]=>⟨λ_=>by simp,λ_=>rfl⟩
 |a :: b :: l=>by
  have ih:=GC g r hr ht (b :: l)
  have e:rise ((a :: b :: l).map g)=(ltD (g a) (g b)&&rise ((b :: l).map g)):=rfl
  rw [e,Wl,ih,hr,VS (l:=b :: l)]
  constructor
  ·rintro⟨h1,h2⟩
   refine⟨λx hx=>?_,h2⟩
   rcases Ww.mp hx with z|z
   ·rw [z];exact h1
   ·exact ht a b x h1 ((VS.mp h2).1 x z)
  ·rintro⟨h1,h2⟩
   exact⟨h1 b Ws,h2⟩
def BE (p q:Mk):Prop:=p.1<q.1\/(p.1=q.1/\p.2<q.2)
theorem lt_int (i j:Int):ltD (.int i) (.int j)=true↔i<j:=by
 have e:ltD (.int i) (.int j)=decide (i<j):=by unfold ltD;rfl
 rw [e,decide_eq_true_eq]
theorem ME (p q:Mk):ltD (enc p) (enc q)=true↔BE p q:=by
 unfold BE
 obtain⟨a,b⟩:=p
 obtain⟨c,d⟩:=q
 show ltD (.tup [.int a,.int b]) (.tup [.int c,.int d])=true↔_
 rw [QT,YH,YH]
 have e1:∀i j:Int,eqD (.int i) (.int j)=decide (i=j):=λi j=>by unfold eqD;rfl
 have e2:∀i j:Int,ltD (.int i) (.int j)=decide (i<j):=λi j=>by unfold ltD;rfl
 rw [e1,e1,e2,e2]
 have e3:ltDs [] []=false:=by unfold ltDs;rfl
 rw [e3]
 dsimp only
 by_cases h1:a=c
 ·rw [decide_eq_true h1,if_pos rfl]
  by_cases h2:b=d
  ·rw [decide_eq_true h2,if_pos rfl]
   exact⟨λz=>(by cases z),λz=>(by omega)⟩
  ·rw [decide_eq_false h2,if_neg (by decide),decide_eq_true_eq]
   exact⟨λz=>.inr ⟨h1,z⟩,λz=>by omega⟩
 ·rw [decide_eq_false h1,if_neg (by decide),decide_eq_true_eq]
  exact⟨λz=>.inl z,λz=>by omega⟩
theorem KJ (a b c:Mk)(h1:BE a b)(h2:BE b c):BE a c:=by
 unfold BE at *
 omega
theorem Z1o (l:List Mk):rise (l.map λp=>D.int p.1)=true↔l.Pairwise λa b=>a.1<b.1:=GC (λp:Mk=>D.int p.1) (λa b:Mk=>a.1<b.1) (λa b=>lt_int a.1 b.1) (λ_ _ _ h1 h2=>Int.lt_trans h1 h2) l
theorem DJ (l:List Mk):rise (l.map enc)=true↔l.Pairwise BE:=GC enc BE ME KJ l
def Zu (p:Mk×Str):D:=.tup [enc p.1,.str p.2]
def mkF (p:Mk)(x:Str)(ks:List Mk)(ns ts:List (Mk×Str)):D:=.tup [enc p,.str x,.tup (ks.map enc),.tup (ns.map Zu),.tup (ts.map Zu)]
def Ku (ks:List Mk)(kind:Int)(ps:List (Mk×Str)):Prop:=ps.length≤20/\Fi ks kind ps/\rise ((ps.map (·.1)).map enc)=true
structure GF (p:Mk) (x:Str) (ks:List Mk) (ns ts:List (Mk×Str)):Prop where
 hp:(0≤p.1/\p.1<6)/\1≤p.2
 hw:Z9 ks p=true
 hx:(1≤(cs x).length/\(cs x).length≤6)/\∀ch∈cs x,97≤ch/\ch≤122
 hk0:0<ks.length
 hk6:ks.length≤6
 hkm:∀q∈ks,(0≤q.1/\q.1<6)/\1≤q.2
 hkr:ks.Pairwise λa b=>a.1<b.1
 hn:Ku ks 0 ns
 ht:Ku ks 1 ts
theorem Ly {p:Mk}(h:(0≤p.1/\p.1<6)/\1≤p.2):isM (enc p)=true:=by
 rw [IC,decide_eq_true h.1.1,decide_eq_true h.1.2,decide_eq_true h.2];rfl
theorem Xz {ks:List Mk}(hm:∀q∈ks,(0≤q.1/\q.1<6)/\1≤q.2)(hr:ks.Pairwise λa b=>a.1<b.1):isK (ks.map enc)=true:=by
 unfold isK
 rw [Wl]
 refine⟨?_,?_⟩
 ·rw [VC,Wq]
  exact λq hq=>Ly (hm q hq)
 ·rw [WJ]
  exact (Z1o ks).mpr hr
theorem BW {x:Str}(h:(1≤(cs x).length/\(cs x).length≤6)/\∀ch∈cs x,97≤ch/\ch≤122):Gk x=true:=by
 unfold Gk btw
 rw [Wl,Wl,Wq]
 refine⟨decide_eq_true h.1.1,decide_eq_true h.1.2,λc hc=>?_⟩
 rw [decide_eq_true (h.2 c hc).1,decide_eq_true (h.2 c hc).2];rfl
theorem AL (ms:List Mk):LR (.tup (ms.map enc))=ms:=by
 show (ms.map enc).map dec=ms
 rw [WJ]
 exact List.map_id' ms
theorem Tu {ks:List Mk}{m:Mk}(h:D9 ks m):Z9 ks m=true:=by
 obtain⟨q,q1,q2,_,q4⟩:=h
 unfold Z9
 rw [V1]
 exact⟨q,q1,by rw [decide_eq_true q2,decide_eq_true q4];rfl⟩
theorem A7 {ks:List Mk}{m:Mk}(hm:∀q∈ks,(0≤q.1/\q.1<6)/\1≤q.2)(h:D9 ks m):isM (enc m)=true:=by
 obtain⟨q,q1,q2,q3,q4⟩:=h
 have:=hm q q1
 exact Ly ⟨⟨by omega,by omega⟩,q3⟩
theorem F8 {ks:List Mk}{kind:Int}{ps:List (Mk×Str)}(hm:∀q∈ks,(0≤q.1/\q.1<6)/\1≤q.2)(h:Ku ks kind ps):Ri ks (ps.map Zu)=true:=by
 unfold Ri
 have e3:(ps.map Zu).map hd1=(ps.map (·.1)).map enc:=by rw [WJ,WJ];rfl
 rw [e3,h.2.2,Wl,Wl]
 refine⟨?_,rfl,?_⟩
 ·rw [VC,Wq]
  exact λp hp=>A7 hm (h.2.1.2 p hp).1
 ·rw [VC,VC,Wq]
  exact λp hp=>Tu (h.2.1.2 p hp).1
theorem D0 {ks:List Mk}{ps:List (Mk×Str)}(hm:∀q∈ks,(0≤q.1/\q.1<6)/\1≤q.2)(h:Ku ks 0 ps):Hu ks (.tup (ps.map Zu))=true:=by
 show (Ri ks (ps.map Zu)&&(ps.map Zu).all λd=>Lx (D8 d))=true
 rw [F8 hm h,Vg,VC,Wq]
 intro p hp
 have:=(h.2.1.2 p hp).2
 unfold okW at this
 rw [if_neg (by decide)] at this
 exact BW this
theorem IY {ks:List Mk}{ps:List (Mk×Str)}(hm:∀q∈ks,(0≤q.1/\q.1<6)/\1≤q.2)(h:Ku ks 1 ps):IZ ks (.tup (ps.map Zu))=true:=by
 show (Ri ks (ps.map Zu)&&(ps.map Zu).all λd=>IB (D8 d))=true
 rw [F8 hm h,Vg,VC,Wq]
 intro p hp
 have:=(h.2.1.2 p hp).2
 unfold okW at this
 rw [if_pos rfl] at this
 exact Lw this.1 this.2
theorem Av {p:Mk}{x:Str}{ks:List Mk}{ns ts:List (Mk×Str)}(h:GF p x ks ns ts):isF (mkF p x ks ns ts)=true:=by
 show (isM (enc p)&&(Lx (.str x)&&(isK (ks.map enc)&&(Z9 (LR (.tup (ks.map enc))) p&&(Hu (LR (.tup (ks.map enc))) _&&IZ (LR (.tup (ks.map enc))) _)))))=true
 rw [AL,Ly h.hp,Xz h.hkm h.hkr,h.hw,D0 h.hkm h.hn,IY h.hkm h.ht]
 show (true&&(Gk x&&_))=true
 rw [BW h.hx];rfl
theorem Dm (S:Sto)(i:Int):wtD S (.int i)=true:=by rw [wtD]
theorem Ro (S:Sto)(p:Mk):wtD S (enc p)=true:=UO.mpr ⟨(show 2≤Wk by decide),λd hd=>by
 simp only [Ww,WP,or_false] at hd
 rcases hd with rfl|rfl<;>exact Dm _ _⟩
theorem Z0R {S:Sto}{ks:List Mk}(h:ks.length≤Wk):wtD S (.tup (ks.map enc))=true:=UO.mpr ⟨by rw [We];exact h,λd hd=>by
 obtain⟨p,_,rfl⟩:=WD.mp hd
 exact Ro _ _⟩
theorem Z2z {S:Sto}{x:Str}(h:(cs x).length≤1000):wtD S (.str x)=true:=by
 rw [wtD]
 have:x.length=(cs x).length:=Jj x
 exact decide_eq_true (WY (by omega) OE)
theorem SJ {kind:Int}{x:Str}(h:okW kind x):(cs x).length≤1000:=by
 unfold okW at h
 split at h<;>omega
theorem Dl {S:Sto}{ks:List Mk}{kind:Int}{ps:List (Mk×Str)}(h:Ku ks kind ps):wtD S (.tup (ps.map Zu))=true:=UO.mpr ⟨by rw [We];exact WY h.1 (by decide),λd hd=>by
 obtain⟨p,hp,rfl⟩:=WD.mp hd
 refine UO.mpr ⟨(show 2≤Wk by decide),λd hd=>?_⟩
 simp only [Ww,WP,or_false] at hd
 rcases hd with rfl|rfl
 ·exact Ro _ _
 ·exact Z2z (SJ (h.2.1.2 p hp).2)⟩
theorem Z3A {S:Sto}{a b c d e:D}(h1:wtD S a=true)(h2:wtD S b=true)(h3:wtD S c=true)(h4:wtD S d=true)(h5:wtD S e=true):wtD S (.tup [a,b,c,d,e])=true:=UO.mpr ⟨(show 5≤Wk by decide),λd hd=>by
 simp only [Ww,WP,or_false] at hd
 rcases hd with rfl|rfl|rfl|rfl|rfl<;>assumption⟩
section
variable {p:Mk} {x:Str} {ks:List Mk} {ns ts:List (Mk×Str)} {S:Sto}
theorem GF.wk (h:GF p x ks ns ts):wtD S (.tup (ks.map enc))=true:=Z0R (WY h.hk6 (by decide))
theorem GF.wx (h:GF p x ks ns ts):wtD S (.str x)=true:=Z2z (by have:=h.hx.1.2;omega)
theorem GF.wt (h:GF p x ks ns ts):wtD S (mkF p x ks ns ts)=true:=Z3A (Ro _ _) h.wx h.wk (Dl h.hn) (Dl h.ht)
theorem IF (h:GF p x ks ns ts):Qo [mkF p x ks ns ts] S=some (.bl true,S):=by rw [IK (Z3z h.wt),Av h]
end
section
variable {a b c d e x:D} {S:Sto}
end
theorem Rw {S S':Sto}{n:Nat}(h:S.length≤n):Ml S (.ref n,S')=(.ref n,S'):=by
 unfold Ml
 rw [if_neg]
 rintro⟨_,q⟩
 rw [JR] at q
 have:=of_decide_eq_true q
 omega
theorem LL (c:Int)(w:Nat)(n:Int)(x:Str)(seed:Int)(hw:w<6)(hn:1≤n)(hx:(1≤(cs x).length/\(cs x).length≤6)/\∀ch∈cs x,97≤ch/\ch≤122):∃f ns ts,(∀h,0≤f h)/\n≤f w/\GF ((w:Int),n) x (kn f (W7 6)) ns ts/\(ns.length≤3/\ts.length≤3)/\∀S,J3 [.int c,.tup [.int w,.int n],.str x,.int seed] S=some (mkF ((w:Int),n) x (kn f (W7 6)) ns ts,S):=by
 obtain⟨f,hf,hfw,hk⟩:=Ao c w n hw hn
 have hm:((w:Int),f w)∈kn f (W7 6):=by
  unfold kn
  exact WD.mpr ⟨w,by simp [hw];omega,rfl⟩
 have h0:0<(kn f (W7 6)).length:=W1G hm
 have hk1:∀q∈kn f (W7 6),(0≤q.1/\q.1<6)/\1≤q.2:=λq hq=>by
  obtain⟨h,h1,h2,rfl⟩:=Tx hq
  exact⟨⟨by show (0:Int)≤(h:Int);omega,by show (h:Int)<6;omega⟩,by show 1≤f h;omega⟩
 have hr:(kn f (W7 6)).Pairwise λa b=>a.1<b.1:=by
  unfold kn
  rw [VG]
  refine W13 _ ?_
  exact W1M (λ{a b} (q:a<b)=>by show (a:Int)<(b:Int);omega) W1H
 obtain⟨ns,n2,n3,n4,n1⟩:=Bx (ks:=kn f (W7 6)) (c:=c+1) (kind:=0) (seed:=seed) h0 λq hq=>(hk1 q hq).2
 obtain⟨ts,t2,t3,t4,t1⟩:=Bx (ks:=kn f (W7 6)) (c:=c+2) (kind:=1) (seed:=seed+5) h0 λq hq=>(hk1 q hq).2
 refine⟨f,ns,ts,hf,hfw,⟨⟨⟨by show (0:Int)≤(w:Int);omega,by show (w:Int)<6;omega⟩,hn⟩,?_,hx,h0,Ub f _,hk1,hr,⟨by omega,n3,n4⟩,⟨by omega,t3,t4⟩⟩,⟨n2,t2⟩,λS=>?_⟩
 ·rw [Rp f w hw,decide_eq_true (show 0<f w by omega),decide_eq_true hfw];rfl
 ·unfold J3
  simp only [EVS,W8,W9,Wf,W2,Wg,Wh,Wa,Wb,W4,↓reduceIte,reduceCtorEq,W1,Wc,W3,hk,n1,t1]
  rfl
end K04
namespace DL
open PySem L2
theorem RD {a:M D}{en:En}{S S1:Sto}{n:Nat}{ds:List D}(h1:a en S=some (.ref n,S1))(h3:S1[n]? = some (.lst ds))(ok:RI ds=true):TB a en S=some (Y6 (ddD ds),S1):=by
 unfold TB
 rw [h1,WZ]
 dsimp only
 rw [h3]
 dsimp only
 rw [if_pos ok]
theorem FG {a:M D}{en:En}{S S1:Sto}{n:Nat}{kvs:List (D×D)}(h1:a en S=some (.ref n,S1))(h3:S1[n]? = some (.dct kvs))(ok:Xv kvs=true):Bz a en S=some (Y6 (Fk (kvs.map (·.1)) (kvs.map (·.2))),S1):=by
 unfold Bz
 rw [h1,WZ]
 dsimp only
 rw [h3]
 dsimp only
 rw [if_pos ok]
theorem Ia {a d:M D}{en:En}{S S1 S2:Sto}{n:Nat}{v:D}{ss:List Int}(h1:a en S=some (.ref n,S1))(h2:d en S1=some (v,S2))(h3:S2[n]? = some (.lst (ss.map D.int))):PD a d en S=some (if ss.isEmpty then v else .int (Kw ss),S2):=by
 unfold PD
 rw [h1,WZ]
 dsimp only
 rw [h2,WZ]
 dsimp only
 rw [h3]
 dsimp only
 rw [BY]
 rfl
theorem Er (a:Int):Kw [a]=a:=rfl
theorem Ow (a b:Int):Kw [a,b]=max a b:=by
 show ([a,b].getD (argBest (KP [a,b]) 1) default)=_
 unfold argBest
 show ([a,b].getD (if KP [a,b] 1 0=true then 1 else 0) default)=_
 have e:KP [a,b] 1 0=decide (b>a):=rfl
 rw [e]
 by_cases h:b>a
 ·rw [decide_eq_true h,if_pos rfl]
  show b=_
  omega
 ·rw [decide_eq_false h,if_neg Wu]
  show a=_
  omega
theorem MA (key:Nat->D):∀n,((nwI key n).map key).Nodup/\∀d,d∈(nwI key n).map key↔d∈(W7 n).map key
 |0=>⟨by simp [nwI],λd=>by simp [nwI]⟩
 |n+1=>by
  obtain⟨h1,h2⟩:=MA key n
  unfold nwI
  split
  ·rename_i h
   refine⟨h1,λd=>?_⟩
   rw [h2,List.range_succ,WU,Va]
   refine⟨.inl,λz=>?_⟩
   rcases z with z|z
   ·exact z
   ·rw [W1,Wc,V3] at z
    rw [z];exact h
  ·rename_i h
   rw [WU]
   refine⟨W0J.mpr ⟨h1,by simp,λa ha b hb z=>?_⟩,λd=>?_⟩
   ·rw [W1,Wc,V3] at hb
    rw [z,hb] at ha
    exact h ((h2 _).mp ha)
   ·rw [Va,h2,List.range_succ,WU,Va]
theorem RU (ds:List D):(W7 ds.length).map (λi=>ds.getD i .non)=ds:=by
 refine W2x λi=>?_
 rw [WG]
 by_cases q:i<ds.length
 ·rw [List.getElem?_range q,W3,VD,Wm q];rfl
 ·rw [W1V (by rw [Vc];omega),W1V (by omega)];rfl
theorem K9 (ds:List D):(ddD ds).Nodup/\∀d,d∈ddD ds↔d∈ds:=by
 have h:=MA (λi=>ds.getD i .non) ds.length
 rw [RU] at h
 exact h
theorem RE {l L:List D}(hc:Q6 30 l)(hp:l.Perm L)(hs:L.Pairwise leD):Y6 l=L:=Tj hc ((Yf l).trans hp) (Yv hc λ_ h=>h) hs λa ha=>(Yf l).mem_iff.mp ha
end DL
namespace K04
open PySem L2 DL
def Di:D->Mk×Str
 | .tup [m,.str x]=>(dec m,x)
 |_=>((0,0),default)
theorem AD {p q:Mk×Str}(h:Zu p=Zu q):p=q:=congrArg Di h
theorem JU (l:List (Mk×Str)):Q6 30 (l.map Zu):=by
 refine⟨λa ha=>?_,λa ha b hb=>?_⟩
 ·obtain⟨p,_,rfl⟩:=WD.mp ha;rfl
 ·obtain⟨p,_,rfl⟩:=WD.mp ha
  obtain⟨q,_,rfl⟩:=WD.mp hb
  rfl
theorem Tk (l:List (Mk×Str))(h:l.length<64):Yg (l.map Zu)=true:=by
 obtain⟨h1,h2⟩:=JU l
 have a:FK (l.map Zu)=true:=by
  unfold FK
  rw [V1]
  refine⟨4,by simp,?_⟩
  rw [VC,Wq]
  intro p _
  rfl
 have b:Ft (l.map Zu)=true:=by
  unfold Ft
  rw [Wl,Wq,Wq]
  exact⟨h1,λx hx=>Wq.mpr (h2 x hx)⟩
 unfold Yg
 rw [a,b,We,decide_eq_true h]
 simp
theorem Z3d (i j:Int):eqD (.int i) (.int j)=decide (i=j):=by unfold eqD;exact Js i j
theorem Z4z (i j:Str):eqD (.str i) (.str j)=decide (i=j):=by unfold eqD;exact Js i j
theorem AC (a b:D)(as bs:List D):eqDs (a :: as) (b :: bs)=(eqD a b&&eqDs as bs):=by conv=>lhs;unfold eqDs
theorem XZ:eqDs [] []=true:=by unfold eqDs;rfl
theorem Z2m (p q:Mk):eqD (enc p) (enc q)=decide (p=q):=by
 obtain⟨a,b⟩:=p
 obtain⟨c,d⟩:=q
 show eqD (.tup [.int a,.int b]) (.tup [.int c,.int d])=_
 rw [Jo,AC,AC,XZ,Z3d,Z3d,W0q,VX,Wl,decide_eq_true_eq,decide_eq_true_eq,decide_eq_true_eq,Prod.mk.injEq]
theorem Z3c (p q:Mk×Str):eqD (Zu p) (Zu q)=decide (p=q):=by
 obtain⟨a,b⟩:=p
 obtain⟨c,d⟩:=q
 show eqD (.tup [enc a,.str b]) (.tup [enc c,.str d])=_
 rw [Jo,AC,AC,XZ,Z2m,Z4z,W0q,VX,Wl,decide_eq_true_eq,decide_eq_true_eq,decide_eq_true_eq]
 exact⟨λz=>by rw [z.1,z.2],λz=>by cases z;exact⟨rfl,rfl⟩⟩
theorem XC (p:Mk×Str)(B:List (Mk×Str))(S:Sto):gIn (Zu p) (.tup (B.map Zu)) S=some (.bl (decide (p∈B)),S):=by
 unfold gIn inD
 dsimp only
 have hpl:(pln 30 (Zu p)&&(B.map Zu).all (pln 30))=true:=by
  rw [Wl]
  refine⟨rfl,?_⟩
  rw [VC,Wq]
  intro x _
  rfl
 rw [if_pos hpl,W3]
 have:((B.map Zu).any λy=>eqD y (Zu p))=decide (p∈B):=by
  rw [W1n,VX,V1,decide_eq_true_eq]
  constructor
  ·rintro⟨x,x1,x2⟩
   have x3:eqD (Zu x) (Zu p)=true:=x2
   rw [Z3c,decide_eq_true_eq] at x3
   rw [←x3];exact x1
  ·intro x1
   refine⟨p,x1,?_⟩
   show eqD (Zu p) (Zu p)=true
   rw [Z3c];exact decide_eq_true rfl
 rw [this]
theorem Z2R {p q:Mk×Str}(h:BE p.1 q.1):ltD (Zu p) (Zu q)=true/\ltD (Zu q) (Zu p)=false:=by
 obtain⟨a,b⟩:=p
 obtain⟨c,d⟩:=q
 have hne:a≠c:=λz=>by
  subst z
  unfold BE at h
  dsimp only at h
  omega
 have hnl:¬BE c a:=λz=>by
  unfold BE at h z
  dsimp only at h z
  omega
 constructor
 ·show ltD (.tup [enc a,.str b]) (.tup [enc c,.str d])=_
  rw [QT,YH,Z2m,decide_eq_false hne,if_neg Wu]
  exact (ME a c).mpr h
 ·show ltD (.tup [enc c,.str d]) (.tup [enc a,.str b])=_
  rw [QT,YH,Z2m,decide_eq_false (Ne.symm hne),if_neg Wu]
  rw [←W1X]
  exact λz=>hnl ((ME c a).mp z)
theorem Gi {ps:List (Mk×Str)}(h:rise ((ps.map (·.1)).map enc)=true):(ps.map Zu).Pairwise leD:=by
 rw [DJ,VG] at h
 rw [VG]
 exact h.imp λ{a b} q=>(Z2R q).2
theorem Kp {ps:List (Mk×Str)}(hn:(ps.map (·.1)).Nodup)(h:(ps.map Zu).Pairwise leD):rise ((ps.map (·.1)).map enc)=true:=by
 rw [DJ,VG]
 unfold List.Nodup at hn
 rw [VG] at h hn
 refine (h.and hn).imp λ{a b} q=>?_
 by_cases z:BE a.1 b.1
 ·exact z
 ·have:BE b.1 a.1:=by
   have q2:=q.2
   unfold BE at z ⊢
   have:¬(a.1.1=b.1.1/\a.1.2=b.1.2):=λw=>q2 (Prod.ext w.1 w.2)
   omega
  have l:=(Z2R this).1
  have q1:ltD (Zu b) (Zu a)=false:=q.1
  rw [q1] at l
  cases l
theorem NW {ms:List Mk}(h:ms.Pairwise BE):(ms.map enc).Pairwise leD:=by
 rw [VG]
 refine h.imp λ{a b} q=>?_
 show ltD (enc b) (enc a)=false
 rw [←W1X,ME]
 intro z
 unfold BE at q z
 omega
theorem Ya {α β:Type}{l:List (α×β)}(h:(l.map (·.1)).Nodup):l.Nodup:=by
 unfold List.Nodup at h ⊢
 rw [VG] at h
 exact h.imp λ{a b} (q:a.1≠b.1) (z:a=b)=>q (by rw [z])
theorem U5 {α β:Type}{f:α->β}{l:List α}(hf:∀a∈l,∀b∈l,f a=f b->a=b)(h:l.Nodup):(l.map f).Nodup:=by
 unfold List.Nodup at h ⊢
 rw [VG]
 exact h.imp_of_mem λ{a b} ha hb q z=>q (hf a ha b hb z)
theorem Jh {α:Type}{p:α->Bool}{l:List α}(h:l.Nodup):(l.filter p).Nodup:=W13 p h
def kept (A:List (Mk×Str))(wf:Mk->Bool)(B:List (Mk×Str))(wg:Mk->Bool):List (Mk×Str):=A.filter (λp=>decide (p∈B))++A.filter (λp=>!wg p.1)++B.filter (λp=>!wf p.1)
def stay (A B:List (Mk×Str))(wg:Mk->Bool):List (Mk×Str):=A.filter λp=>decide (p∈B) || !wg p.1
def J (A:List (Mk×Str))(wf:Mk->Bool)(B:List (Mk×Str))(wg:Mk->Bool):List (Mk×Str):=(Y6 ((kept A wf B wg).map Zu)).map Di
theorem Jy {A B:List (Mk×Str)}{wf wg:Mk->Bool}{p:Mk×Str}:p∈kept A wf B wg↔(p∈A/\p∈B)\/(p∈A/\wg p.1=false)\/(p∈B/\wf p.1=false):=by
 unfold kept
 simp [Va,VJ,or_assoc]
theorem MC {A B:List (Mk×Str)}{wg:Mk->Bool}{p:Mk×Str}:p∈stay A B wg↔p∈A/\(p∈B\/wg p.1=false):=by
 unfold stay
 simp [VJ]
theorem AW (A:List (Mk×Str))(wf:Mk->Bool)(B:List (Mk×Str))(wg:Mk->Bool):(J A wf B wg).map Zu=Y6 ((kept A wf B wg).map Zu):=by
 unfold J
 rw [WJ]
 conv=>rhs;rw [←W2e (Y6 ((kept A wf B wg).map Zu))]
 refine VP λe he=>?_
 obtain⟨p,_,rfl⟩:=WD.mp ((Yf _).mem_iff.mp he)
 rfl
theorem Kf (A:List (Mk×Str))(wf:Mk->Bool)(B:List (Mk×Str))(wg:Mk->Bool):(J A wf B wg).Perm (kept A wf B wg):=by
 have h:=(Yf ((kept A wf B wg).map Zu)).map Di
 rw [WJ] at h
 have e:(kept A wf B wg).map (Di ∘ Zu)=kept A wf B wg:=by
  conv=>rhs;rw [←W2e (kept A wf B wg)]
  exact VP λ_ _=>rfl
 rw [e] at h
 exact h
theorem GX (A:List (Mk×Str))(wf:Mk->Bool)(B:List (Mk×Str))(wg:Mk->Bool):(kept A wf B wg).length≤A.length+A.length+B.length:=by
 unfold kept
 rw [WN,WN]
 have h1:=Vt (λp=>decide (p∈B)) A
 have h2:=Vt (λp:Mk×Str=>!wg p.1) A
 have h3:=Vt (λp:Mk×Str=>!wf p.1) B
 omega
theorem K3 {α:Type}(p q:α->Bool):∀(l:List α),(∀a∈l,p a=true->q a=false)->(l.filter p).length+(l.filter q).length≤l.length
 |[],_=>Wp 0
 |a :: l,h=>by
  have ih:=K3 p q l λb hb=>h b (Wz _ hb)
  have ha:=h a Ws
  cases hp:p a with
  |true=>
   rw [W0M hp,W0p (by rw [ha hp];exact Wu),WX,WX]
   omega
  |false=>
   rw [W0p (by rw [hp];exact Wu),WX]
   cases hq:q a with
   |true=>rw [W0M hq,WX];omega
   |false=>rw [W0p (by rw [hq];exact Wu)];omega
theorem PY {A:List (Mk×Str)}(wf:Mk->Bool){B:List (Mk×Str)}{wg:Mk->Bool}(hb:∀p∈B,wg p.1=true):(kept A wf B wg).length≤A.length+B.length:=by
 unfold kept
 rw [WN,WN]
 have h1:=K3 (λp=>decide (p∈B)) (λp:Mk×Str=>!wg p.1) A λa _ ha=>by
  have h2:=hb a (of_decide_eq_true ha)
  show (!wg a.1)=false
  rw [h2];rfl
 have h3:=Vt (λp:Mk×Str=>!wf p.1) B
 omega
theorem D5 (A:List (Mk×Str))(wf:Mk->Bool)(B:List (Mk×Str))(wg:Mk->Bool):(J A wf B wg).length≤A.length+A.length+B.length:=by
 rw [(Kf A wf B wg).length_eq];exact GX A wf B wg
section
variable {A B:List (Mk×Str)} {wf wg:Mk->Bool}
theorem QF (hA:A.Nodup)(hB:B.Nodup)(ha:∀p∈A,wf p.1=true)(hb:∀p∈B,wg p.1=true):(kept A wf B wg).Nodup:=by
 unfold kept
 refine W0J.mpr ⟨W0J.mpr ⟨Jh hA,Jh hA,λa h1 b h2 z=>?_⟩,Jh hB,λa h1 b h2 z=>?_⟩
 ·subst z
  rw [VJ] at h1 h2
  have:=hb a (of_decide_eq_true h1.2)
  rw [this] at h2
  cases h2.2
 ·subst z
  rw [Va,VJ,VJ] at h1
  rw [VJ] at h2
  have:a∈A:=h1.elim (·.1) (·.1)
  have:=ha a this
  rw [this] at h2
  cases h2.2
theorem FM (hA:A.Nodup)(hB:B.Nodup)(ha:∀p∈A,wf p.1=true)(hb:∀p∈B,wg p.1=true):(ddD ((stay A B wg++stay B A wf).map Zu)).Perm ((kept A wf B wg).map Zu):=by
 refine (W09 (K9 _).1 (U5 (λa _ b _ z=>AD z) (QF hA hB ha hb))).mpr λd=>?_
 rw [(K9 _).2,WD,WD]
 refine exists_congr λp=>and_congr_left λ_=>?_
 rw [Va,MC,MC,Jy]
 constructor
 ·rintro (⟨h1,h2|h2⟩|⟨h1,h2|h2⟩)
  ·exact .inl ⟨h1,h2⟩
  ·exact .inr (.inl ⟨h1,h2⟩)
  ·exact .inl ⟨h2,h1⟩
  ·exact .inr (.inr ⟨h1,h2⟩)
 ·rintro (⟨h1,h2⟩|⟨h1,h2⟩|⟨h1,h2⟩)
  ·exact .inl ⟨h1,.inl h2⟩
  ·exact .inl ⟨h1,.inr h2⟩
  ·exact .inr ⟨h1,.inr h2⟩
theorem KL (hA:(A.map (·.1)).Nodup)(hB:(B.map (·.1)).Nodup)(ha:∀p∈A,wf p.1=true)(hb:∀p∈B,wg p.1=true):((kept A wf B wg).map (·.1)).Nodup:=by
 have inj:∀{l:List (Mk×Str)},(l.map (·.1)).Nodup->∀p∈l,∀q∈l,p.1=q.1->p=q:=λ{l} h=>by
  induction l with
  |nil=>intro p hp;cases hp
  |cons a l ih=>
   rw [W1,W04] at h
   intro p hp q hq e
   rcases Ww.mp hp with z|z<;>rcases Ww.mp hq with y|y
   ·rw [z,y]
   ·exact absurd (WD.mpr ⟨q,y,by rw [←e,z]⟩) h.1
   ·exact absurd (WD.mpr ⟨p,z,by rw [e,y]⟩) h.1
   ·exact ih h.2 p z q y e
 refine U5 (λp hp q hq e=>?_) (QF (Ya hA) (Ya hB) ha hb)
 rw [Jy] at hp hq
 have cross:∀p q:Mk×Str,p∈A/\(p∈B\/wg p.1=false)->q∈B->p.1=q.1->p=q:=λp q hp hq e=>by
  rcases hp.2 with z|z
  ·exact inj hB p z q hq e
  ·rw [e,hb q hq] at z;cases z
 have sA:∀p:Mk×Str,(p∈A/\p∈B)\/(p∈A/\wg p.1=false)\/(p∈B/\wf p.1=false)->(p∈A/\(p∈B\/wg p.1=false))\/p∈B:=λp h=>by
  rcases h with h|h|h
  ·exact .inl ⟨h.1,.inl h.2⟩
  ·exact .inl ⟨h.1,.inr h.2⟩
  ·exact .inr h.1
 rcases sA p hp with z|z<;>rcases sA q hq with y|y
 ·exact inj hA p z.1 q y.1 e
 ·exact cross p q z y e
 ·exact (cross q p y z e.symm).symm
 ·exact inj hB p z q y e
theorem Z3v:((J A wf B wg).map Zu).Pairwise leD:=by
 rw [AW]
 exact Yv (JU _) λ_ h=>h
theorem Z3w {L:List (Mk×Str)}(hp:(kept A wf B wg).Perm L)(hs:(L.map Zu).Pairwise leD):J A wf B wg=L:=by
 have e:(J A wf B wg).map Zu=L.map Zu:=by rw [AW];exact RE (JU _) (hp.map Zu) hs
 have:=congrArg (List.map Di) e
 rw [WJ,WJ] at this
 have i:∀l:List (Mk×Str),l.map (Di ∘ Zu)=l:=λl=>by
  conv=>rhs;rw [←W2e l]
  exact VP λ_ _=>rfl
 rw [i,i] at this
 exact this
theorem HC (hn:A.Nodup)(ha:∀p∈A,wf p.1=true)(hs:(A.map Zu).Pairwise leD):J A wf A wf=A:=by
 refine Z3w ((W09 (QF hn hn ha ha) hn).mpr λp=>?_) hs
 rw [Jy]
 constructor
 ·rintro (h|h|h)<;>exact h.1
 ·exact λh=>.inl ⟨h,h⟩
theorem Fh {wh:Mk->Bool}(hA:(A.map (·.1)).Nodup)(hB:(B.map (·.1)).Nodup)(ha:∀p∈A,wf p.1=true)(hb:∀p∈B,wg p.1=true)(hfh:∀m,wf m=true->wh m=true)(hgh:∀m,wg m=true->wh m=true):J (J A wf B wg) wh A wf=J A wf B wg:=by
 have jm:∀p,p∈J A wf B wg↔(p∈A/\p∈B)\/(p∈A/\wg p.1=false)\/(p∈B/\wf p.1=false):=λp=>by rw [(Kf A wf B wg).mem_iff,Jy]
 have jn:(J A wf B wg).Nodup:=(Kf A wf B wg).nodup_iff.mpr (QF (Ya hA) (Ya hB) ha hb)
 have jh:∀p∈J A wf B wg,wh p.1=true:=λp hp=>by
  rcases (jm p).mp hp with h|h|h
  ·exact hfh _ (ha p h.1)
  ·exact hfh _ (ha p h.1)
  ·exact hgh _ (hb p h.1)
 refine Z3w ((W09 (QF jn (Ya hA) jh ha) jn).mpr λp=>?_) Z3v
 rw [Jy]
 constructor
 ·rintro (h|h|h)
  ·exact h.1
  ·exact h.1
  ·rw [hfh _ (ha p h.1)] at h;cases h.2
 ·intro h
  rcases (jm p).mp h with z|z|z
  ·exact .inl ⟨h,z.1⟩
  ·exact .inl ⟨h,z.1⟩
  ·exact .inr (.inl ⟨h,z.2⟩)
end
end K04
namespace K04
open PySem L2 DL
theorem Fa {S:Sto}{a b:Nat}{A B:List D}(h1:S[a]? = some (.lst A))(h2:S[b]? = some (.lst B))(h:A.length+B.length≤Wk):Jb (.ref a) (.ref b) S=some (.ref S.length,S++[.lst (A++B)]):=by
 dsimp only [Jb]
 rw [h1,h2]
 exact if_pos h
theorem Ih (n:Nat)(ps:List (Mk×Str)):JR n (D.tup (ps.map Zu))=true:=BC n ps
theorem Z2t {S:Sto}{o o2:Ob}:(S++[o]++[o2])[S.length]? = some o:=by rw [WS];simp
theorem HE {m:Mk}{ks:List Mk}{S:Sto}(hl:ks.length≤6):ZJ [enc m,.tup (ks.map enc)] S=some (.bl (Z9 ks m),S):=JV (WY hl (by decide))
theorem Eu {m:Mk}{ks:List Mk}{S:Sto}(hl:ks.length≤6):UX [enc m,.tup (ks.map enc)] S=some (.bl (Z9 ks m),S):=by
 unfold UX enc
 simp only [EVS,W8,W9,Wf,W2,Wg,Wh,Wa,Wb,W4,↓reduceIte,reduceCtorEq,W1,Wc,W3]
 have c1:=Ye (ds0:=ks.map enc) (gd:=.no) (cap:=[none,none,some (.tup [.int m.1,.int m.2])]) (g:=gT 2 (YA (gN 0) (YA (gN 1) TK))) (m:=Tf) (S:=S) ks enc (λp=>D.bl (decide (p.1=m.1)&&decide (m.2≤p.2))) ZG (WY hl (by decide)) λp hp=>⟨_,rfl,by
  simp only [Tf,EVS,W8,W9,Wf,W2,Wg,Wh,Wa,Wb,W4,↓reduceIte,reduceCtorEq,W1,Wc,W3]
  by_cases q:p.1=m.1<;>simp [q]⟩
 have e:ks.map (λp=>D.bl (decide (p.1=m.1)&&decide (m.2≤p.2)))=(ks.map λp=>(decide (p.1=m.1)&&decide (m.2≤p.2))).map D.bl:=by rw [WJ];rfl
 rw [e] at c1
 have c2:ZW (ks.map λp:Mk=>D.tup [.int p.1,.int p.2]) .no [none,none,some (.tup [.int m.1,.int m.2])] (gT 2 (YA (gN 0) (YA (gN 1) TK))) YO Tf (ks.map λp:Mk=>D.tup [.int p.1,.int p.2]) [] S=_:=c1
 simp only [EVS,W8,W9,Wf,W2,Wg,Wh,Wa,Wb,W4,↓reduceIte,reduceCtorEq,W1,Wc,W3,c2,Xa,Hv,Z9]
section
variable {A B:List (Mk×Str)} {kf kg:List Mk} {S:Sto}
theorem Z2d (p:Mk×Str)(S:Sto):gIx (Zu p) (.int 0) S=some (enc p.1,S):=rfl
theorem Ep (hA:A.length≤20)(hk:kg.length≤6):ZC [.tup (A.map Zu),.tup (B.map Zu),.tup (kg.map enc)] S=some (.ref S.length,S++[.lst ((stay A B (Z9 kg)).map Zu)]):=by
 unfold ZC
 have c1:ZW (A.map Zu) .no [none,some (.tup (B.map Zu)),some (.tup (kg.map enc))] (gN 0) YK YJ (A.map Zu) [] S=some ((stay A B (Z9 kg)).map Zu,S):=by
  refine JD A Zu (λp=>decide (p∈B) || !Z9 kg p.1) Zu ZG (WY hA (by decide)) λp hp=>⟨_,rfl,?_,λ_=>by simp only [YJ,EVS,W8,W9,Wf,W2,Wg,Wh,Wa,Wb,W4,↓reduceIte,reduceCtorEq,W1,Wc,W3]⟩
  have hi:=XC p B S
  have hw:ZJ [enc p.1,.tup (kg.map enc)] S=_:=HE hk
  simp only [YK,EVS,W8,W9,Wf,W2,Wg,Wh,Wa,Wb,W4,↓reduceIte,reduceCtorEq,W1,Wc,W3,hi,Z2d,hw]
  by_cases q:p∈B
  ·simp [q,EVS,W8,W9,Wf,W2,Wg,Wh,Wa,Wb,W4,↓reduceIte,reduceCtorEq,W1,Wc,W3]
  ·simp [q,EVS,W8,W9,Wf,W2,Wg,Wh,Wa,Wb,W4,↓reduceIte,reduceCtorEq,W1,Wc,W3]
 simp only [EVS,W8,W9,Wf,W2,Wg,Wh,Wa,Wb,W4,↓reduceIte,reduceCtorEq,W1,Wc,W3,c1]
 rw [Rw (Wp _)]
theorem Sd (hA:A.length≤20)(hB:B.length≤20)(hK:(kept A (Z9 kf) B (Z9 kg)).length≤18)(hf:kf.length≤6)(hg:kg.length≤6)(nA:A.Nodup)(nB:B.Nodup)(ha:∀p∈A,Z9 kf p.1=true)(hb:∀p∈B,Z9 kg p.1=true) :
  Zv [.tup (A.map Zu),.tup (kf.map enc),.tup (B.map Zu),.tup (kg.map enc)] S=some (.tup ((J A (Z9 kf) B (Z9 kg)).map Zu),S):=by
 unfold Zv
 have h1:ZC [.tup (A.map Zu),.tup (B.map Zu),.tup (kg.map enc)] S=_:=Ep (by omega) hg
 have h2:ZC [.tup (B.map Zu),.tup (A.map Zu),.tup (kf.map enc)] (S++[.lst ((stay A B (Z9 kg)).map Zu)])=_:=Ep (by omega) hf
 have l1:(stay A B (Z9 kg)).length≤A.length:=Vt _ _
 have l2:(stay B A (Z9 kf)).length≤B.length:=Vt _ _
 generalize hS2:S++[Ob.lst ((stay A B (Z9 kg)).map Zu)]++[Ob.lst ((stay B A (Z9 kf)).map Zu)]=S2 at h2
 have hz:100≤Wk:=by decide
 have h3:=Fa (S:=S2) (a:=S.length) (b:=(S++[Ob.lst ((stay A B (Z9 kg)).map Zu)]).length) (by rw [←hS2];exact Z2t) (by rw [←hS2];exact WC ..) (by rw [We,We];omega)
 rw [←WU] at h3
 have hp:=FM nA nB ha hb
 have hk:=GX A (Z9 kf) B (Z9 kg)
 obtain⟨s1,s2⟩:=G8 hp (Tk _ (by omega))
 have ok:RI ((stay A B (Z9 kg)++stay B A (Z9 kf)).map Zu)=true:=by
  unfold RI
  rw [s1,decide_eq_true (show (ddD ((stay A B (Z9 kg)++stay B A (Z9 kf)).map Zu)).length≤18 by rw [hp.length_eq,We];exact hK),W0q,Vg,VC,Wq]
  intro p _
  rfl
 have h4:=RD (a:=mOp Jb (Z6 4) (Z6 5)) (en:=[some (.tup (A.map Zu)),some (.tup (kf.map enc)),some (.tup (B.map Zu)),some (.tup (kg.map enc)),some (.ref S.length),some (.ref (S++[Ob.lst ((stay A B (Z9 kg)).map Zu)]).length)]) (S:=S2) (S1:=S2++[.lst ((stay A B (Z9 kg)++stay B A (Z9 kf)).map Zu)]) (n:=S2.length) (by simp only [EVS,W8,W9,Wf,W2,Wg,Wh,Wa,Wb,W4,↓reduceIte,reduceCtorEq,W1,Wc,W3,h3]) (WC ..) ok
 rw [s2,←AW] at h4
 simp only [EVS,W8,W9,Wf,W2,Wg,Wh,Wa,Wb,W4,↓reduceIte,reduceCtorEq,W1,Wc,W3,h1,h2,h4]
 rw [←hS2,WS,WS,Yo _ _ _ (Ih _ _)]
theorem DU (hA:A.length≤9)(hB:B.length≤9)(hf:kf.length≤6)(hg:kg.length≤6)(nA:A.Nodup)(nB:B.Nodup)(ha:∀p∈A,Z9 kf p.1=true)(hb:∀p∈B,Z9 kg p.1=true) :
  Zv [.tup (A.map Zu),.tup (kf.map enc),.tup (B.map Zu),.tup (kg.map enc)] S=some (.tup ((J A (Z9 kf) B (Z9 kg)).map Zu),S):=
 Sd (by omega) (by omega) (by have:=PY (A:=A) (Z9 kf) hb;omega) hf hg nA nB ha hb
theorem OD (hA:A.length≤9)(hB:B.length≤9)(hf:kf.length≤6)(hg:kg.length≤6) :
  Qy [.tup (A.map Zu),.tup (kf.map enc),.tup (B.map Zu),.tup (kg.map enc)] S=some (.tup ((J A (Z9 kf) B (Z9 kg)).map Zu),S):=by
 unfold Qy
 have hz:100≤Wk:=by decide
 let X1:=A.filter λp=>decide (p∈B)
 let X2:=A.filter λp:Mk×Str=>!Z9 kg p.1
 let X3:=B.filter λp:Mk×Str=>!Z9 kf p.1
 have l1:X1.length≤A.length:=Vt _ _
 have l2:X2.length≤A.length:=Vt _ _
 have l3:X3.length≤B.length:=Vt _ _
 have c1:∀S,ZW (A.map Zu) .no [none,some (.tup (B.map Zu))] (gN 0) UL UF (A.map Zu) [] S=some (X1.map Zu,S):=λS=>by
  refine JD A Zu (λp=>decide (p∈B)) Zu ZG (by omega) λp hp=>⟨_,rfl,?_,λ_=>by simp only [UF,EVS,W8,W9,Wf,W2,Wg,Wh,Wa,Wb,W4,↓reduceIte,reduceCtorEq,W1,Wc,W3]⟩
  have hi:=XC p B S
  simp only [UL,EVS,W8,W9,Wf,W2,Wg,Wh,Wa,Wb,W4,↓reduceIte,reduceCtorEq,W1,Wc,W3,hi]
 have c2:∀S,ZW (A.map Zu) .no [none,some (.tup (kg.map enc))] (gN 0) UK UE (A.map Zu) [] S=some (X2.map Zu,S):=λS=>by
  refine JD A Zu (λp=>!Z9 kg p.1) Zu ZG (by omega) λp hp=>⟨_,rfl,?_,λ_=>by simp only [UE,EVS,W8,W9,Wf,W2,Wg,Wh,Wa,Wb,W4,↓reduceIte,reduceCtorEq,W1,Wc,W3]⟩
  have hw:UX [enc p.1,.tup (kg.map enc)] S=_:=Eu hg
  simp only [UK,EVS,W8,W9,Wf,W2,Wg,Wh,Wa,Wb,W4,↓reduceIte,reduceCtorEq,W1,Wc,W3,Z2d,hw]
 have c3:∀S,ZW (B.map Zu) .no [none,some (.tup (kf.map enc))] (gN 0) UJ UD (B.map Zu) [] S=some (X3.map Zu,S):=λS=>by
  refine JD B Zu (λp=>!Z9 kf p.1) Zu ZG (by omega) λp hp=>⟨_,rfl,?_,λ_=>by simp only [UD,EVS,W8,W9,Wf,W2,Wg,Wh,Wa,Wb,W4,↓reduceIte,reduceCtorEq,W1,Wc,W3]⟩
  have hw:UX [enc p.1,.tup (kf.map enc)] S=_:=Eu hf
  simp only [UJ,EVS,W8,W9,Wf,W2,Wg,Wh,Wa,Wb,W4,↓reduceIte,reduceCtorEq,W1,Wc,W3,Z2d,hw]
 generalize hS2:S++[Ob.lst (X1.map Zu)]++[Ob.lst (X2.map Zu)]=S2
 have h3:=Fa (S:=S2) (a:=S.length) (b:=(S++[Ob.lst (X1.map Zu)]).length) (by rw [←hS2];exact Z2t) (by rw [←hS2];exact WC ..) (by rw [We,We];omega)
 rw [←WU] at h3
 generalize hS3:S2++[Ob.lst ((X1++X2).map Zu)]++[Ob.lst (X3.map Zu)]=S3
 have h4:=Fa (S:=S3) (a:=S2.length) (b:=(S2++[Ob.lst ((X1++X2).map Zu)]).length) (by rw [←hS3];exact Z2t) (by rw [←hS3];exact WC ..) (by rw [We,We,WN];omega)
 rw [←WU] at h4
 have hX:X1++X2++X3=kept A (Z9 kf) B (Z9 kg):=rfl
 rw [hX] at h4
 have hk:=GX A (Z9 kf) B (Z9 kg)
 have h5:Aq (some (.ref S3.length,S3++[Ob.lst ((kept A (Z9 kf) B (Z9 kg)).map Zu)]))=some ((J A (Z9 kf) B (Z9 kg)).map Zu,S3++[Ob.lst ((kept A (Z9 kf) B (Z9 kg)).map Zu)]):=by
  rw [Hs (ds:=(kept A (Z9 kf) B (Z9 kg)).map Zu) (by dsimp only [E7];rw [WC]) (Tk _ (by omega)),AW]
 simp only [EVS,W8,W9,Wf,W2,Wg,Wh,Wa,Wb,W4,↓reduceIte,reduceCtorEq,W1,Wc,W3,c1,hS2,h3,c2,c3,hS3,h4,h5]
 rw [←hS3,←hS2,WS,WS,WS,WS,Yo _ _ _ (Ih _ _)]
end
theorem Z4r:∀(x:Str) (S:Sto),Rf "tuple" (some (.str x,S))=some (.bl false,S):=λ_ _=>rfl
theorem Z4t:∀(x:Str) (S:Sto),Rf "bool" (some (.str x,S))=some (.bl false,S):=λ_ _=>rfl
theorem Z4s:∀(x:Str) (S:Sto),Io "int" "str" (some (.str x,S))=some (.bl true,S):=λ_ _=>rfl
theorem Z4u:∀(x:Int) (S:Sto),Rf "tuple" (some (.int x,S))=some (.bl false,S):=λ_ _=>rfl
theorem Z4w:∀(x:Int) (S:Sto),Rf "bool" (some (.int x,S))=some (.bl false,S):=λ_ _=>rfl
theorem Z4v:∀(x:Int) (S:Sto),Io "int" "str" (some (.int x,S))=some (.bl true,S):=λ_ _=>rfl
theorem Z4q:∀(l:List D) (S:Sto),Rf "tuple" (some (.tup l,S))=some (.bl true,S):=λ_ _=>rfl
theorem IA (x:Str)(S:Sto):gIs (.str x) .non S=some (.bl false,S):=rfl
theorem Au (x:Int)(S:Sto):gIs (.int x) .non S=some (.bl false,S):=rfl
def SD:Nat->D->Prop
 |_,.int _=>True
 |_,.str _=>True
 |n+1,.tup ds=>ds.length≤100/\∀d∈ds,SD n d
 |_,_=>False
theorem RO:∀(n:Nat) (d:D) (k:Nat) (S:Sto),SD n d->Yl (n+k+1) [d,d] S=some (.bl true,S)
 |n,.int i,k,S,_=>by
  show QM 2 2 (QR (Yl (n+k))) _ S=_
  simp only [QR,EVS,W8,W9,Wf,W2,Wg,Wh,Wa,Wb,W4,↓reduceIte,reduceCtorEq,W1,Wc,W3,Z4u,Z4w,Z4v,Au]
 |n,.str i,k,S,_=>by
  show QM 2 2 (QR (Yl (n+k))) _ S=_
  simp only [QR,EVS,W8,W9,Wf,W2,Wg,Wh,Wa,Wb,W4,↓reduceIte,reduceCtorEq,W1,Wc,W3,Z4r,Z4t,Z4s,IA]
 |n+1,.tup ds,k,S,h=>by
  unfold SD at h
  show QM 2 2 (QR (Yl (n+1+k))) _ S=_
  simp only [QR,EVS,W8,W9,Wf,W2,Wg,Wh,Wa,Wb,W4,↓reduceIte,reduceCtorEq,W1,Wc,W3,Z4q]
  have hz:Fj ds ds=ds.map λx=>D.tup [x,x]:=by
   unfold Fj
   have:∀l:List D,(l.zip l).map (λp=>D.tup [p.1,p.2])=l.map λx=>D.tup [x,x]:=λl=>by
    induction l with
    |nil=>rfl
    |cons x xs ih=>simp only [WR,W1,ih]
   first|exact this ds|simpa using this ds
  rw [hz,Ye ds (λx=>D.tup [x,x]) (λ_=>D.bl true) ZG (WY h.1 (by decide)) λx hx=>⟨_,rfl,?_⟩]
  ·have e:ds.map (λ_=>D.bl true)=(ds.map λ_=>true).map D.bl:=by rw [WJ];rfl
   rw [e,T7]
   have:(ds.map λ_=>true).all id=true:=by simp
   simp only [EVS,W8,W9,Wf,W2,Wg,Wh,Wa,Wb,W4,↓reduceIte,reduceCtorEq,W1,Wc,W3,this]
  ·simp only [EVS,W8,W9,Wf,W2,Wg,Wh,Wa,Wb,W4,↓reduceIte,reduceCtorEq,W1,Wc,W3]
   have:=RO n x k S (h.2 x hx)
   rw [show n+1+k=n+k+1 by omega]
   exact this
 |0,.tup _,_,_,h=>h.elim
 |0,.non,_,_,h=>h.elim
 |0,.bl _,_,_,h=>h.elim
 |0,.ref _,_,_,h=>h.elim
 |0,.scr _,_,_,h=>h.elim
 |_+1,.non,_,_,h=>h.elim
 |_+1,.bl _,_,_,h=>h.elim
 |_+1,.ref _,_,_,h=>h.elim
 |_+1,.scr _,_,_,h=>h.elim
end K04
namespace K04
open PySem L2 DL
def mx (f g:Nat->Int):Nat->Int:=λi=>max (f i) (g i)
theorem MY (i j:Int):CH i j=max i j:=by
 unfold CH
 split<;>omega
theorem MH {f g:Nat->Int}{l:List Nat}(h:∀i∈l,f i=g i):kn f l=kn g l:=by
 unfold kn
 rw [List.filter_congr λi hi=>by rw [h i hi]]
 exact VP λi hi=>by rw [h i (VJ.mp hi).1]
theorem PN (f:Nat->Int):(kn f (W7 6)).Pairwise λa b=>a.1<b.1:=by
 unfold kn
 rw [VG]
 refine W13 _ ?_
 exact W1M (λ{a b} (q:a<b)=>by show (a:Int)<(b:Int);omega) W1H
theorem Z27 (f:Nat->Int):((kn f (W7 6)).map enc).Pairwise leD:=NW ((PN f).imp λ{a b} q=>.inl q)
theorem Uw {f:Nat->Int}{h:Nat}(h6:h<6)(h0:0<f h):((h:Int),f h)∈kn f (W7 6):=by
 unfold kn
 exact WD.mpr ⟨h,by simp [h6,h0],rfl⟩
def Ee (ms:List Mk)(h n:Int):List Mk:=if (ms.any λp=>decide (p.1=h))=true then ms.map (λp=>if p.1=h then (p.1,n) else p) else ms++[(h,n)]
theorem AG (ms:List Mk)(h n:Int):G1 (ms.map J9) (.int h) (.int n)=(Ee ms h n).map J9:=by
 unfold G1 Ee
 have e:((ms.map J9).any λp=>kEq p.1 (.int h))=ms.any λp=>decide (p.1=h):=by
  rw [W1n]
  congr 1
  funext p
  exact TF p.1 h
 rw [e]
 split
 ·rw [WJ,WJ]
  refine VP λp _=>?_
  show (if kEq (.int p.1) (.int h)=true then ((.int p.1:D),D.int n) else J9 p)=J9 (if p.1=h then (p.1,n) else p)
  rw [TF]
  by_cases q:p.1=h
  ·rw [if_pos (decide_eq_true q),if_pos q];rfl
  ·rw [if_neg (by simp [q]),if_neg q]
 ·rw [WU];rfl
theorem FX (ms:List Mk)(h n:Int)(q:Mk):q∈Ee ms h n↔q=(h,n)\/(q∈ms/\q.1≠h):=by
 unfold Ee
 split
 ·rename_i e
  rw [V1] at e
  obtain⟨p,p1,p2⟩:=e
  rw [decide_eq_true_eq] at p2
  rw [WD]
  constructor
  ·rintro⟨r,r1,r2⟩
   by_cases z:r.1=h
   ·rw [if_pos z] at r2
    left;rw [←r2,z]
   ·rw [if_neg z] at r2
    subst r2
    exact .inr ⟨r1,z⟩
  ·rintro (z|⟨z1,z2⟩)
   ·exact⟨p,p1,by rw [if_pos p2,z,p2]⟩
   ·exact⟨q,z1,if_neg z2⟩
 ·rename_i e
  rw [Va,V3]
  constructor
  ·rintro (z|z)
   ·refine .inr ⟨z,λw=>e (V1.mpr ⟨q,z,decide_eq_true w⟩)⟩
   ·exact .inl z
  ·rintro (z|z)
   ·exact .inr z
   ·exact .inl z.1
theorem RX (ms:List Mk)(h n:Int)(hn:(ms.map (·.1)).Nodup):((Ee ms h n).map (·.1)).Nodup:=by
 unfold Ee
 split
 ·have:(ms.map (λp:Mk=>if p.1=h then (p.1,n) else p)).map (·.1)=ms.map (·.1):=by
   rw [WJ]
   refine VP λp _=>?_
   show (if p.1=h then (p.1,n) else p).1=p.1
   split<;>rfl
  rw [this];exact hn
 ·rename_i e
  rw [WU]
  refine W0J.mpr ⟨hn,by simp,λa ha b hb z=>?_⟩
  rw [W1,Wc,V3] at hb
  subst hb
  subst z
  obtain⟨p,p1,p2⟩:=WD.mp ha
  exact e (V1.mpr ⟨p,p1,decide_eq_true p2⟩)
theorem FO {S:Sto}{ms:List Mk}{h n:Int}(hl:ms.length<Wk):HX (.ref S.length) (.int h) (.int n) (S++[.dct (ms.map J9)])=some (S++[.dct ((Ee ms h n).map J9)]):=by
 dsimp only [HX]
 rw [WC]
 dsimp only
 have hs:Qs (ms.map J9) (.int h)=true:=GU ms
 rw [hs,We,decide_eq_true hl,AG]
 simp
theorem Nz:∀ms:List Mk,Fk ((ms.map J9).map (·.1)) ((ms.map J9).map (·.2))=ms.map enc
 |[]=>rfl
 |p :: ms=>by
  have:=Nz ms
  unfold Fk at this ⊢
  rw [W1,W1,W1,WR,W1,this]
  rfl
def Fm (f g:Nat->Int)(pre:List Mk):Nat->Int:=λi=>max (f i) (if (i:Int)∈pre.map (·.1) then g i else 0)
theorem Pc {cur:List Mk}{F:Nat->Int}(hn:(cur.map (·.1)).Nodup)(hm:∀q,q∈cur↔q∈kn F (W7 6)):cur.Perm (kn F (W7 6)):=(W09 (Ya hn) (Ya (GR F))).mpr hm
theorem Z2g {f g:Nat->Int}{S:Sto}(hf:∀h,0≤f h)(hg:∀h,0≤g h)(h0:0<(kn (mx f g) (W7 6)).length) :
  ZZ [.tup ((kn f (W7 6)).map enc),.tup ((kn g (W7 6)).map enc)] S=some (.tup ((kn (mx f g) (W7 6)).map enc),S):=by
 have hz:100≤Wk:=by decide
 have f6:=Ub f (W7 6)
 rw [Vc] at f6
 let P:List Mk->En->Sto->Prop:=λpre en S'=>∃(cur:List Mk) (x3:Option D),en=[some (.tup ((kn f (W7 6)).map enc)),some (.tup ((kn g (W7 6)).map enc)),some (.ref S.length),x3]/\S'=S++[.dct (cur.map J9)]/\(cur.map (·.1)).Nodup/\∀q,q∈cur↔q∈kn (Fm f g pre) (W7 6)
 have step:∀(pre:List Mk) (a:Mk) (post:List Mk) (en:En) (S1:Sto),kn g (W7 6)=pre++a :: post->P pre en S1->∃en1,gN 3 (enc a) en=some en1/\∃en2 S2,YM en1 S1=some (.nx,en2,S2)/\P (pre++[a]) en2 S2:=by
  intro pre a post en S1 hpre hP
  obtain⟨cur,x3,rfl,rfl,hn,hm⟩:=hP
  refine⟨_,rfl,?_⟩
  have ha:a∈kn g (W7 6):=by rw [hpre];simp
  obtain⟨j,j6,j0,rfl⟩:=Tx ha
  have hperm:=Pc hn hm
  have hcl:cur.length≤6:=by
   have h1:=Ub (Fm f g pre) (W7 6)
   rw [Vc] at h1
   rw [hperm.length_eq];exact h1
  have hlook:CH (g j) (match (UH (cur.map J9) (.int j)).getD (.int (g j)) with | .int v=>v|_=>0)=max (f j) (g j)/\∃v,(UH (cur.map J9) (.int j)).getD (.int (g j)) = .int v:=by
   have fj:=hf j
   by_cases q:0<Fm f g pre j
   ·have hin:((j:Int),Fm f g pre j)∈cur:=(hm _).mpr (Uw j6 q)
    rw [K7 hn hin]
    refine⟨?_,_,rfl⟩
    show CH (g j) (Fm f g pre j)=_
    rw [MY]
    unfold Fm
    split<;>omega
   ·have hin:(j:Int)∉cur.map (·.1):=λz=>by
     obtain⟨p,p1,p2⟩:=WD.mp z
     obtain⟨i,i1,i2,rfl⟩:=Tx ((hm p).mp p1)
     have:i=j:=by have:(i:Int)=(j:Int):=p2;omega
     subst this
     exact q i2
    rw [N6 hin]
    refine⟨?_,_,rfl⟩
    show CH (g j) (g j)=_
    rw [MY]
    unfold Fm at q
    omega
  obtain⟨hv,v,ev⟩:=hlook
  rw [ev] at hv
  dsimp only at hv
  have hdc:JT (S++[Ob.dct (cur.map J9)]) S.length (.int j)=some (cur.map J9):=IN (WC ..)
  have hget:=IG (a:=Z6 2) (b:=mOp gIx (Z6 3) (Zg (D.int (0)))) (c:=mOp gIx (Z6 3) (Zg (D.int (1)))) (en:=[some (.tup ((kn f (W7 6)).map enc)),some (.tup ((kn g (W7 6)).map enc)),some (.ref S.length),some (.tup [.int (j:Int),.int (g j)])]) (S:=S++[Ob.dct (cur.map J9)]) (n:=S.length) (k:=.int (j:Int)) (x:=.int (g j)) rfl (by simp only [EVS,W8,W9,Wf,W2,Wg,Wh,Wa,Wb,W4,↓reduceIte,reduceCtorEq,W1,Wc,W3]) (by simp only [EVS,W8,W9,Wf,W2,Wg,Wh,Wa,Wb,W4,↓reduceIte,reduceCtorEq,W1,Wc,W3]) hdc
  rw [ev] at hget
  have s1:=Ut (mv:=Ic CH (mOp gIx (Z6 3) (Zg (D.int (1)))) (KH (Z6 2) (mOp gIx (Z6 3) (Zg (D.int (0)))) (mOp gIx (Z6 3) (Zg (D.int (1)))))) (ma:=Z6 2) (mb:=mOp gIx (Z6 3) (Zg (D.int (0)))) (en:=[some (.tup ((kn f (W7 6)).map enc)),some (.tup ((kn g (W7 6)).map enc)),some (.ref S.length),some (.tup [.int (j:Int),.int (g j)])])
   (S:=S++[.dct (cur.map J9)]) (v:=.int (max (f j) (g j))) (n:=S.length) (k:=.int (j:Int)) (by simp only [EVS,W8,W9,Wf,W2,Wg,Wh,Wa,Wb,W4,↓reduceIte,reduceCtorEq,W1,Wc,W3,hget,hv]) rfl (by simp only [EVS,W8,W9,Wf,W2,Wg,Wh,Wa,Wb,W4,↓reduceIte,reduceCtorEq,W1,Wc,W3]) (FO (by omega))
  refine⟨_,_,s1,Ee cur j (max (f j) (g j)),_,rfl,rfl,RX _ _ _ hn,λq=>?_⟩
  have fj:Fm f g (pre++[((j:Int),g j)]) j=max (f j) (g j):=by
   unfold Fm
   rw [if_pos (by simp)]
  have fo:∀i:Nat,i≠j->Fm f g (pre++[((j:Int),g j)]) i=Fm f g pre i:=λi hi=>by
   unfold Fm
   have:((i:Int)∈(pre++[((j:Int),g j)]).map (·.1))↔((i:Int)∈pre.map (·.1)):=by
    rw [WU,Va]
    simp
    intro z;omega
   simp only [this]
  rw [FX,hm]
  constructor
  ·rintro (z|⟨z1,z2⟩)
   ·rw [z,←fj]
    exact Uw j6 (by rw [fj];omega)
   ·obtain⟨i,i1,i2,rfl⟩:=Tx z1
    have hij:i≠j:=λw=>z2 (by rw [w])
    rw [←fo i hij] at i2 ⊢
    exact Uw i1 i2
  ·intro z
   obtain⟨i,i1,i2,rfl⟩:=Tx z
   by_cases hij:i=j
   ·subst hij
    left;rw [fj]
   ·rw [fo i hij] at i2 ⊢
    exact .inr ⟨Uw i1 i2,by show (i:Int)≠(j:Int);omega⟩
 have f0:kn (Fm f g []) (W7 6)=kn f (W7 6):=MH λi _=>by
  have:=hf i
  unfold Fm
  simp
  omega
 obtain⟨en',S',e,cur,x3,e2,e3,hn,hm⟩:=Jn (g:=gN 3) (ds0:=(kn g (W7 6)).map enc) (gd:=.no) (body:=YM) (kn g (W7 6)) enc P step (λ_ _ _ _=>trivial)
  (en:=[some (.tup ((kn f (W7 6)).map enc)),some (.tup ((kn g (W7 6)).map enc)),some (.ref S.length),none]) (S:=S++[.dct ((kn f (W7 6)).map J9)]) ⟨_,_,rfl,rfl,GR f,λq=>by rw [f0]⟩
 subst e2 e3
 have fe:kn (Fm f g (kn g (W7 6))) (W7 6)=kn (mx f g) (W7 6):=MH λi hi=>by
  have i6:=Vh.mp hi
  have g0:=hg i
  unfold Fm mx
  by_cases q:0<g i
  ·rw [if_pos (WD.mpr ⟨_,Uw i6 q,rfl⟩)]
  ·split<;>omega
 rw [fe] at hm
 have hperm:=Pc hn hm
 have hcl:cur.length≤6:=by
  have h1:=Ub (mx f g) (W7 6)
  rw [Vc] at h1
  rw [hperm.length_eq];exact h1
 have ok:Xv (cur.map J9)=true:=by
  unfold Xv
  rw [Nz,G9 _ (by omega),GU,W0q,W0q]
  have:=hperm.length_eq
  cases cur with
  |nil=>rw [←this] at h0;cases h0
  |cons _ _=>rfl
 have h4:=FG (a:=Z6 2) (en:=[some (.tup ((kn f (W7 6)).map enc)),some (.tup ((kn g (W7 6)).map enc)),some (.ref S.length),x3]) (S:=S++[.dct (cur.map J9)]) (n:=S.length) rfl (WC ..) ok
 rw [Nz,RE (JE cur) (hperm.map enc) (Z27 _)] at h4
 unfold ZZ
 simp only [EVS,W8,W9,Wf,W2,Wg,Wh,Wa,Wb,W4,↓reduceIte,reduceCtorEq,W1,Wc,W3,AJ (S:=S) (show (kn f (W7 6)).length≤Wk by omega) (GR f),e,h4]
 rw [Yo _ _ _ (NT _ _)]
theorem Z4B {b:M D}{en:En}{S:Sto}{ds:List D}{G:Sto}:Z2c b en (some (.ref S.length,S++[Ob.lst ds]++G))=G5 S.length (b en (S++[Ob.lst ds]++G)):=by
 show (match (S++[Ob.lst ds]++G)[S.length]? with|some (Ob.lst _)=>G5 S.length (b en (S++[Ob.lst ds]++G))|_=>(b en (S++[Ob.lst ds]++G)).bind λ_=>none)=_
 rw [WS,WV (Wp _),Nat.sub_self]
 rfl
theorem Z2u {S:Sto}{ds:List D}{G:Sto}{v:D}(h:ds.length<Wk):G5 S.length (some (v,S++[Ob.lst ds]++G))=some (.non,S++[Ob.lst (ds++[v])]++G):=by
 show (match (S++[Ob.lst ds]++G)[S.length]? with|some (Ob.lst ds')=>if ds'.length<Wk then some (D.non,(S++[Ob.lst ds]++G).set S.length (Ob.lst (ds'++[v]))) else none|_=>none)=_
 have e:(S++[Ob.lst ds]++G)[S.length]? = some (Ob.lst ds):=by rw [WS,WV (Wp _),Nat.sub_self];rfl
 rw [e]
 dsimp only
 rw [if_pos h]
 simp
theorem Ij (f:Nat->Int)(k:Nat):∀l:List Nat,l.Nodup->((kn f l).filter λp=>decide (p.1=(k:Int))).map (·.2)=if k∈l/\0<f k then [f k] else []
 |[],_=>by simp [kn]
 |h :: l,hn=>by
  rw [W04] at hn
  have ih:=Ij f k l hn.2
  have hc:kn f (h :: l)=if 0<f h then ((h:Int),f h) :: kn f l else kn f l:=by
   unfold kn
   rw [List.filter_cons]
   by_cases q:0<f h<;>simp [q]
  rw [hc]
  by_cases e:h=k
  ·subst e
   have hnl:¬(h∈l/\0<f h):=λz=>hn.1 z.1
   rw [if_neg hnl] at ih
   by_cases q:0<f h
   ·rw [if_pos q,W0M (by simp),W1,ih,if_pos ⟨Ws,q⟩]
   ·rw [if_neg q,ih,if_neg λz=>q z.2]
  ·have hm:(k∈h :: l/\0<f k)↔(k∈l/\0<f k):=by
    rw [Ww]
    constructor
    ·rintro⟨z|z,w⟩
     ·exact absurd z.symm e
     ·exact⟨z,w⟩
    ·exact λz=>⟨.inr z.1,z.2⟩
   by_cases q:0<f h
   ·rw [if_pos q,W0p (by rw [decide_eq_true_eq];show ¬(h:Int)=(k:Int);omega),ih]
    simp only [hm]
   ·rw [if_neg q,ih]
    simp only [hm]
theorem Z24 (n:Nat)(a:Mk)(x:Str)(ks:List Mk)(ns ts:List (Mk×Str)):JR n (mkF a x ks ns ts)=true:=by
 unfold mkF
 rw [JR]
 simp only [lowDs,NT,Ih,W0q,Vg]
 unfold enc JR lowDs JR lowDs JR lowDs
 simp [JR]
section
variable {f g:Nat->Int} {a:Mk} {x y:Str} {ns ts ns' ts':List (Mk×Str)} {S:Sto}
theorem Ar (hf:∀h,0≤f h)(hg:∀h,0≤g h)(l1:ns.length≤9)(l2:ts.length≤9)(l3:ns'.length≤9)(l4:ts'.length≤9) :
  QK [mkF a x (kn f (W7 6)) ns ts,mkF a y (kn g (W7 6)) ns' ts'] S=some (mkF a x (kn (mx f g) (W7 6)) (J ns (Z9 (kn f (W7 6))) ns' (Z9 (kn g (W7 6)))) (J ts (Z9 (kn f (W7 6))) ts' (Z9 (kn g (W7 6)))),S):=by
 have hz:100≤Wk:=by decide
 have f6:=Ub f (W7 6)
 have g6:=Ub g (W7 6)
 rw [Vc] at f6 g6
 generalize hA:mkF a x (kn f (W7 6)) ns ts=A
 generalize hB:mkF a y (kn g (W7 6)) ns' ts'=B
 have a0:∀S,gIx A (.int 0) S=some (enc a,S):=λS=>by rw [←hA];rfl
 have a1:∀S,gIx A (.int 1) S=some (.str x,S):=λS=>by rw [←hA];rfl
 have a2:∀S,gIx A (.int 2) S=some (.tup ((kn f (W7 6)).map enc),S):=λS=>by rw [←hA];rfl
 have a3:∀S,gIx A (.int 3) S=some (.tup (ns.map Zu),S):=λS=>by rw [←hA];rfl
 have a4:∀S,gIx A (.int 4) S=some (.tup (ts.map Zu),S):=λS=>by rw [←hA];rfl
 have b2:∀S,gIx B (.int 2) S=some (.tup ((kn g (W7 6)).map enc),S):=λS=>by rw [←hB];rfl
 have b3:∀S,gIx B (.int 3) S=some (.tup (ns'.map Zu),S):=λS=>by rw [←hB];rfl
 have b4:∀S,gIx B (.int 4) S=some (.tup (ts'.map Zu),S):=λS=>by rw [←hB];rfl
 have gA:∀S,Jb (.tup ((kn f (W7 6)).map enc)) (.tup ((kn g (W7 6)).map enc)) S=some (.tup ((kn f (W7 6)++kn g (W7 6)).map enc),S):=λS=>by
  rw [XT (by rw [We,We];omega),WU]
 let P:List Nat->En->Sto->Prop:=λpre en S'=>∃x3 x4 G,en=[some A,some B,some (.ref S.length),x3,x4,none]/\S'=S++[.lst ((kn (mx f g) pre).map enc)]++G
 have step:∀(pre:List Nat) (k:Nat) (post:List Nat) (en:En) (S1:Sto),W7 6=pre++k :: post->P pre en S1->∃en1,gN 3 (D.int (k:Nat)) en=some en1/\∃en2 S2,Qn en1 S1=some (.nx,en2,S2)/\P (pre++[k]) en2 S2:=by
  intro pre k post en S1 hpre hP
  obtain⟨x3,x4,G,rfl,rfl⟩:=hP
  refine⟨_,rfl,?_⟩
  have hk6:k<6:=Vh.mp (by rw [hpre];simp)
  have hlen:(kn (mx f g) pre).length<Wk:=by
   have h1:=Ub (mx f g) pre
   have h2:=congrArg Ve hpre
   simp at h2
   omega
  let ss:List Int:=(if 0<f k then [f k] else [])++(if 0<g k then [g k] else [])
  have hss:((kn f (W7 6)++kn g (W7 6)).filter λp=>decide (p.1=(k:Int))).map (λp=>D.int p.2)=ss.map D.int:=by
   have e1:=Ij f k (W7 6) W0O
   have e2:=Ij g k (W7 6) W0O
   have m6:k∈W7 6:=Vh.mpr hk6
   have:((kn f (W7 6)++kn g (W7 6)).filter λp=>decide (p.1=(k:Int))).map (·.2)=ss:=by
    rw [List.filter_append,WU,e1,e2]
    simp only [m6,true_and]
    rfl
   rw [←this,WJ]
   rfl
  generalize hS1:S++[Ob.lst ((kn (mx f g) pre).map enc)]++G=S1
  have c1:ZW ((kn f (W7 6)++kn g (W7 6)).map enc) .no [none,none,some (.int (k:Nat))] (gT 2 (YA (gN 0) (YA (gN 1) TK))) J2 J1 ((kn f (W7 6)++kn g (W7 6)).map enc) [] S1=some (ss.map D.int,S1):=by
   rw [←hss]
   exact JD _ enc (λp=>decide (p.1=(k:Int))) (λp=>D.int p.2) ZG (by rw [WN];omega) λp hp=>⟨_,rfl,by simp only [J2,EVS,W8,W9,Wf,W2,Wg,Wh,Wa,Wb,W4,↓reduceIte,reduceCtorEq,W1,Wc,W3],λ_=>by simp only [J1,EVS,W8,W9,Wf,W2,Wg,Wh,Wa,Wb,W4,↓reduceIte,reduceCtorEq,W1,Wc,W3]⟩
  have hmax:=Ia (a:=Ji (YG (Qr (mOp Jb (mOp gIx (Z6 0) (Zg (D.int (2)))) (mOp gIx (Z6 1) (Zg (D.int (2)))))) 2 [3] (gT 2 (YA (gN 0) (YA (gN 1) TK))) J2 J1)) (d:=Zg (D.int (0))) (en:=[some A,some B,some (.ref S.length),some (.int (k:Nat)),x4,none]) (S:=S1) (S1:=S1++[Ob.lst (ss.map D.int)]) (S2:=S1++[Ob.lst (ss.map D.int)]) (n:=S1.length) (v:=.int 0) (ss:=ss)
   (by simp only [EVS,W8,W9,Wf,W2,Wg,Wh,Wa,Wb,W4,↓reduceIte,reduceCtorEq,W1,Wc,W3,a2,b2,gA,c1]) rfl (WC ..)
  have hval:(if ss.isEmpty then D.int 0 else .int (Kw ss)) = .int (mx f g k):=by
   have fk:=hf k
   have gk:=hg k
   show (if ((if 0<f k then [f k] else [])++(if 0<g k then [g k] else [])).isEmpty then D.int 0 else .int (Kw ((if 0<f k then [f k] else [])++(if 0<g k then [g k] else [])))) = .int (max (f k) (g k))
   by_cases p:0<f k<;>by_cases q:0<g k
   ·rw [if_pos p,if_pos q]
    show D.int (Kw [f k,g k])=_
    rw [Ow]
   ·rw [if_pos p,if_neg q]
    show D.int (Kw [f k])=_
    rw [Er]
    congr 1
    omega
   ·rw [if_neg p,if_pos q]
    show D.int (Kw [g k])=_
    rw [Er]
    congr 1
    omega
   ·rw [if_neg p,if_neg q]
    show D.int 0=_
    congr 1
    omega
  rw [hval] at hmax
  have hS2:S1++[Ob.lst (ss.map D.int)]=S++[Ob.lst ((kn (mx f g) pre).map enc)]++(G++[Ob.lst (ss.map D.int)]):=by rw [←hS1,WS]
  rw [hS2] at hmax
  by_cases hp:0<mx f g k
  ·refine⟨[some A,some B,some (.ref S.length),some (.int (k:Nat)),some (.int (mx f g k)),none],S++[.lst ((kn (mx f g) (pre++[k])).map enc)]++(G++[Ob.lst (ss.map D.int)]),?_,_,_,_,rfl,rfl⟩
   rw [Ux,if_pos hp,WU]
   simp only [Qn,EVS,W8,W9,Wf,W2,Wg,Wh,Wa,Wb,W4,↓reduceIte,reduceCtorEq,W1,Wc,W3,hmax,hp,Z4B,Z2u,We,hlen]<;>rfl
  ·refine⟨[some A,some B,some (.ref S.length),some (.int (k:Nat)),some (.int (mx f g k)),none],S++[.lst ((kn (mx f g) (pre++[k])).map enc)]++(G++[Ob.lst (ss.map D.int)]),?_,_,_,_,rfl,rfl⟩
   rw [Ux,if_neg hp]
   simp only [Qn,EVS,W8,W9,Wf,W2,Wg,Wh,Wa,Wb,W4,↓reduceIte,reduceCtorEq,W1,Wc,W3,hmax,hp]<;>rfl
 obtain⟨en',S',e,x3,x4,G,e2,e3⟩:=Jn (g:=gN 3) (ds0:=B8 0 6) (gd:=.no) (body:=Qn) (W7 6) (λk=>D.int (k:Nat)) P step (λ_ _ _ _=>trivial)
  (en:=[some A,some B,some (.ref S.length),none,none,none]) (S:=S++[.lst []]) ⟨_,_,[],rfl,(W02 _).symm⟩
 rw [←U2] at e
 subst e2 e3
 have h6:Int.toNat 6=6:=rfl
 have k1:∀S,Qy [.tup (ns.map Zu),.tup ((kn f (W7 6)).map enc),.tup (ns'.map Zu),.tup ((kn g (W7 6)).map enc)] S=_:=λS=>OD l1 l3 f6 g6
 have k2:∀S,Qy [.tup (ts.map Zu),.tup ((kn f (W7 6)).map enc),.tup (ts'.map Zu),.tup ((kn g (W7 6)).map enc)] S=_:=λS=>OD l2 l4 f6 g6
 have hT:Lk (some (.ref S.length,S++[Ob.lst ((kn (mx f g) (W7 6)).map enc)]++G))=some (.tup ((kn (mx f g) (W7 6)).map enc),S++[Ob.lst ((kn (mx f g) (W7 6)).map enc)]++G):=F3 (by rw [WS,WV (Wp _),Nat.sub_self];rfl)
 have z5:5≤Wk:=by decide
 unfold QK
 simp only [EVS,W8,W9,Wf,W2,Wg,Wh,Wa,Wb,W4,↓reduceIte,reduceCtorEq,W1,Wc,W3,GY (show -(2 ^ 62)≤(6:Int)/\(6:Int)<2 ^ 62 by decide),h6,e,a0,a1,a2,a3,a4,b2,b3,b4,k1,k2,hT,z5]
 rw [WS]
 exact congrArg some (Yo _ _ _ (Z24 _ _ _ _ _ _))
end
end K04
namespace K04
open PySem L2 DL
theorem Aa (f g:Nat->Int)(i:Nat):f i≤mx f g i:=by unfold mx;omega
theorem Z0N (f g:Nat->Int)(i:Nat):g i≤mx f g i:=by unfold mx;omega
theorem Ii {f h:Nat->Int}(hfh:∀i,f i≤h i){q:Mk}(hq:q∈kn f (W7 6)):∃r∈kn h (W7 6),r.1=q.1/\q.2≤r.2:=by
 obtain⟨i,i1,i2,rfl⟩:=Tx hq
 have:=hfh i
 exact⟨_,Uw (f:=h) i1 (by omega),rfl,this⟩
theorem QB {f h:Nat->Int}(hfh:∀i,f i≤h i)(m:Mk)(hw:Z9 (kn f (W7 6)) m=true):Z9 (kn h (W7 6)) m=true:=by
 unfold Z9 at hw ⊢
 rw [V1] at hw ⊢
 obtain⟨q,q1,q2⟩:=hw
 rw [Wl,decide_eq_true_eq,decide_eq_true_eq] at q2
 obtain⟨r,r1,r2,r3⟩:=Ii hfh q1
 refine⟨r,r1,?_⟩
 rw [Wl,decide_eq_true_eq,decide_eq_true_eq]
 exact⟨by rw [r2,q2.1],Int.le_trans q2.2 r3⟩
theorem NF {f h:Nat->Int}(hfh:∀i,f i≤h i){m:Mk}(hw:D9 (kn f (W7 6)) m):D9 (kn h (W7 6)) m:=by
 obtain⟨q,q1,q2,q3,q4⟩:=hw
 obtain⟨r,r1,r2,r3⟩:=Ii hfh q1
 exact⟨r,r1,by rw [r2,q2],q3,Int.le_trans q4 r3⟩
theorem MZ {f h:Nat->Int}(hfh:∀i,f i≤h i):(kn f (W7 6)).all (Z9 (kn h (W7 6)))=true:=by
 rw [Wq]
 exact λq hq=>QB hfh q (Nm hq)
abbrev wk (f:Nat->Int):Mk->Bool:=Z9 (kn f (W7 6))
theorem Ku.wi {ks:List Mk}{kind:Int}{A:List (Mk×Str)}(h:Ku ks kind A):∀p∈A,Z9 ks p.1=true:=λp hp=>Tu (h.2.1.2 p hp).1
theorem Ku.nd {ks:List Mk}{kind:Int}{A:List (Mk×Str)}(h:Ku ks kind A):A.Nodup:=Ya h.2.1.1
theorem okJ {f g:Nat->Int}{kind:Int}{A B:List (Mk×Str)}(hA:Ku (kn f (W7 6)) kind A)(hB:Ku (kn g (W7 6)) kind B)(lA:A.length≤3)(lB:B.length≤3):Ku (kn (mx f g) (W7 6)) kind (J A (wk f) B (wk g)):=by
 have hl:=D5 A (wk f) B (wk g)
 have hp:=Kf A (wk f) B (wk g)
 have hm:((J A (wk f) B (wk g)).map (·.1)).Nodup:=(hp.map (·.1)).nodup_iff.mpr (KL hA.2.1.1 hB.2.1.1 hA.wi hB.wi)
 refine⟨by omega,⟨hm,λp hq=>?_⟩,Kp hm Z3v⟩
 rcases Jy.mp (hp.mem_iff.mp hq) with z|z|z
 ·exact⟨NF (Aa f g) (hA.2.1.2 p z.1).1,(hA.2.1.2 p z.1).2⟩
 ·exact⟨NF (Aa f g) (hA.2.1.2 p z.1).1,(hA.2.1.2 p z.1).2⟩
 ·exact⟨NF (Z0N f g) (hB.2.1.2 p z.1).1,(hB.2.1.2 p z.1).2⟩
section
variable {f g:Nat->Int} {a b:Mk} {x y:Str} {ns ts ns' ts':List (Mk×Str)} {S:Sto}
theorem ES (hfh:∀i,f i≤g i)(h:0<(kn f (W7 6)).length):0<(kn g (W7 6)).length:=by
 obtain⟨q,hq⟩:=List.exists_mem_of_length_pos h
 obtain⟨r,r1,_⟩:=Ii hfh hq
 exact W1G r1
theorem AY (h1:GF a x (kn f (W7 6)) ns ts)(h2:GF b y (kn g (W7 6)) ns' ts')(l:(ns.length≤3/\ts.length≤3)/\ns'.length≤3/\ts'.length≤3):GF a x (kn (mx f g) (W7 6)) (J ns (wk f) ns' (wk g)) (J ts (wk f) ts' (wk g)):=by
 refine⟨h1.hp,QB (Aa f g) _ h1.hw,h1.hx,ES (Aa f g) h1.hk0,Ub _ _,λq hq=>?_,PN _,okJ h1.hn h2.hn l.1.1 l.2.1,okJ h1.ht h2.ht l.1.2 l.2.2⟩
 obtain⟨h,q1,q2,rfl⟩:=Tx hq
 exact⟨⟨by show (0:Int)≤(h:Int);omega,by show (h:Int)<6;omega⟩,by show 1≤mx f g h;omega⟩
theorem RW (hf:∀h,0≤f h)(hg:∀h,0≤g h)(h1:GF a x (kn f (W7 6)) ns ts)(h2:GF b y (kn g (W7 6)) ns' ts')(l1:ns.length≤9)(l2:ts.length≤9)(l3:ns'.length≤9)(l4:ts'.length≤9) :
  Zs [mkF a x (kn f (W7 6)) ns ts,mkF b y (kn g (W7 6)) ns' ts'] S=some (mkF a x (kn (mx f g) (W7 6)) (J ns (wk f) ns' (wk g)) (J ts (wk f) ts' (wk g)),S):=by
 have hz:5≤Wk:=by decide
 generalize hA:mkF a x (kn f (W7 6)) ns ts=A
 generalize hB:mkF b y (kn g (W7 6)) ns' ts'=B
 have a0:∀S,gIx A (.int 0) S=some (enc a,S):=λS=>by rw [←hA];rfl
 have a1:∀S,gIx A (.int 1) S=some (.str x,S):=λS=>by rw [←hA];rfl
 have a2:∀S,gIx A (.int 2) S=some (.tup ((kn f (W7 6)).map enc),S):=λS=>by rw [←hA];rfl
 have a3:∀S,gIx A (.int 3) S=some (.tup (ns.map Zu),S):=λS=>by rw [←hA];rfl
 have a4:∀S,gIx A (.int 4) S=some (.tup (ts.map Zu),S):=λS=>by rw [←hA];rfl
 have b2:∀S,gIx B (.int 2) S=some (.tup ((kn g (W7 6)).map enc),S):=λS=>by rw [←hB];rfl
 have b3:∀S,gIx B (.int 3) S=some (.tup (ns'.map Zu),S):=λS=>by rw [←hB];rfl
 have b4:∀S,gIx B (.int 4) S=some (.tup (ts'.map Zu),S):=λS=>by rw [←hB];rfl
 have p1:∀S,Zv [.tup (ns.map Zu),.tup ((kn f (W7 6)).map enc),.tup (ns'.map Zu),.tup ((kn g (W7 6)).map enc)] S=_:=λS=>DU l1 l3 h1.hk6 h2.hk6 h1.hn.nd h2.hn.nd h1.hn.wi h2.hn.wi
 have p2:∀S,Zv [.tup (ts.map Zu),.tup ((kn f (W7 6)).map enc),.tup (ts'.map Zu),.tup ((kn g (W7 6)).map enc)] S=_:=λS=>DU l2 l4 h1.hk6 h2.hk6 h1.ht.nd h2.ht.nd h1.ht.wi h2.ht.wi
 have p3:∀S,ZZ [.tup ((kn f (W7 6)).map enc),.tup ((kn g (W7 6)).map enc)] S=_:=λS=>Z2g hf hg (ES (Aa f g) h1.hk0)
 unfold Zs
 simp only [EVS,W8,W9,Wf,W2,Wg,Wh,Wa,Wb,W4,↓reduceIte,reduceCtorEq,W1,Wc,W3,a0,a1,a2,a3,a4,b2,b3,b4,p1,p2,p3,hz]
 rfl
end
theorem Fe (n:Nat)(p:Mk):SD (n+1) (enc p):=⟨(show 2≤100 by decide),λd hd=>by
 simp only [Ww,WP,or_false] at hd
 rcases hd with z|z<;>rw [z]<;>cases n<;>trivial⟩
theorem Hz (n:Nat)(x:Str):SD n (.str x):=by cases n<;>trivial
theorem Z3u {a:Mk}{x:Str}{ks:List Mk}{ns ts:List (Mk×Str)}(hk:ks.length≤6)(h1:ns.length≤20)(h2:ts.length≤20):SD 5 (mkF a x ks ns ts):=by
 have hp:∀ps:List (Mk×Str),ps.length≤20->SD 4 (.tup (ps.map Zu)):=λps hl=>⟨by rw [We];omega,λd hd=>by
  obtain⟨p,_,rfl⟩:=WD.mp hd
  refine⟨(show 2≤100 by decide),λe he=>?_⟩
  simp only [Ww,WP,or_false] at he
  rcases he with z|z<;>rw [z]
  ·exact Fe 1 p.1
  ·exact Hz 2 p.2⟩
 refine⟨(show 5≤100 by decide),λd hd=>?_⟩
 simp only [Ww,WP,or_false] at hd
 rcases hd with z|z|z|z|z<;>rw [z]
 ·exact Fe 3 a
 ·exact Hz 4 x
 ·refine⟨by rw [We];omega,λe he=>?_⟩
  obtain⟨p,_,rfl⟩:=WD.mp he
  exact Fe 2 p
 ·exact hp ns h1
 ·exact hp ts h2
theorem HA:∀(n m:Nat) (d:D),n≤m->SD n d->pln m d=true
 |n,m,.int _,_,_=>by cases m<;>rfl
 |n,m,.str _,_,_=>by cases m<;>rfl
 |n+1,0,.tup _,h,_=>by omega
 |n+1,m+1,.tup ds,h,hs=>by
  unfold SD at hs
  unfold pln
  rw [Wq]
  exact λd hd=>HA n m d (by omega) (hs.2 d hd)
 |0,_,.tup _,_,h=>h.elim
 |0,_,.non,_,h=>h.elim
 |0,_,.bl _,_,h=>h.elim
 |0,_,.ref _,_,h=>h.elim
 |0,_,.scr _,_,h=>h.elim
 |_+1,_,.non,_,h=>h.elim
 |_+1,_,.bl _,_,h=>h.elim
 |_+1,_,.ref _,_,h=>h.elim
 |_+1,_,.scr _,_,h=>h.elim
theorem SR {ds:List D}{S:Sto}(h:SD 5 (.tup ds)):gNe (.tup ds) (.tup ds) S=some (.bl false,S):=by
 have hp:=HA 5 30 _ (by omega) h
 show (if Dh (.tup ds) (.tup ds)=true then some (D.bl (!eqD (.tup ds) (.tup ds)),S) else none)=_
 rw [if_pos (by unfold Dh;rw [hp];rfl),YW 30 _ hp]
 rfl
theorem SX (f:Nat->Int):mx f f=f:=funext λi=>by unfold mx;omega
theorem Ab (f g:Nat->Int):mx (mx f g) f=mx f g:=funext λi=>by unfold mx;omega
def Sh (ns:List Int)(en:En):Prop:=∃x1 x2 x3 x4 x5 x6 x7 x8,en=[some (.scr ns),x1,x2,x3,x4,x5,x6,x7,x8]
theorem turn (ns:List Int)(k:Nat){en:En}{S:Sto}(he:Sh ns en):∃en' S',B7 (en.set 1 (some (.int (k:Nat)))) S=some (.nx,en',S')/\Sh ns en':=by
 obtain⟨x1,x2,x3,x4,x5,x6,x7,x8,rfl⟩:=he
 obtain⟨c,hc⟩:=B4 ns k
 obtain⟨c1,hc1⟩:=B4 ns (k+1)
 obtain⟨c3,hc3⟩:=B4 ns 3
 obtain⟨c2,hc2⟩:=B4 ns 2
 have hc1':∀S,Yu [.scr ns,.int ((k:Int)+1)] S=some (.int c1,S):=λS=>hc1 S
 have hc2':∀S,Yu [.scr ns,.int 2] S=some (.int c2,S):=λS=>hc2 S
 have hc3':∀S,Yu [.scr ns,.int 3] S=some (.int c3,S):=λS=>hc3 S
 obtain⟨w,n,hw,hn,hwh⟩:=Fx c1
 obtain⟨x,hx1,hx2,hx⟩:=Ps c3
 generalize hsd:c2+(if decide (c%7=0)=true then (1:Int) else 0)=sd
 obtain⟨f,n1,t1,hf,hfw,hG1,l1,e1⟩:=LL c w n x c2 hw hn ⟨hx1,hx2⟩
 obtain⟨g,n2,t2,hg,hgw,hG2,l2,e2⟩:=LL (c+17+(k:Int)) w n x sd hw hn ⟨hx1,hx2⟩
 have hGd:=AY hG1 hG2 ⟨l1,l2⟩
 have hhd:∀i,0≤mx f g i:=λi=>Int.le_trans (hf i) (Aa f g i)
 have lN:=D5 n1 (wk f) n2 (wk g)
 have lT:=D5 t1 (wk f) t2 (wk g)
 obtain⟨⟨l11,l12⟩,l21,l22⟩:=Ua l1 l2
 have ej:∀S,QK [mkF ((w:Int),n) x (kn f (W7 6)) n1 t1,mkF ((w:Int),n) x (kn g (W7 6)) n2 t2] S=_:=λS=>Ar hf hg (by omega) (by omega) (by omega) (by omega)
 have ep:∀S,Zs [mkF ((w:Int),n) x (kn f (W7 6)) n1 t1,mkF ((w:Int),n) x (kn g (W7 6)) n2 t2] S=_:=λS=>RW hf hg hG1 hG2 (by omega) (by omega) (by omega) (by omega)
 have es:∀S,Zs [mkF ((w:Int),n) x (kn f (W7 6)) n1 t1,mkF ((w:Int),n) x (kn f (W7 6)) n1 t1] S=_:=λS=>RW hf hf hG1 hG1 (by omega) (by omega) (by omega) (by omega)
 rw [SX,HC hG1.hn.nd hG1.hn.wi (Gi hG1.hn.2.2),HC hG1.ht.nd hG1.ht.wi (Gi hG1.ht.2.2)] at es
 have ea:∀S,Zs [mkF ((w:Int),n) x (kn (mx f g) (W7 6)) (J n1 (wk f) n2 (wk g)) (J t1 (wk f) t2 (wk g)),mkF ((w:Int),n) x (kn f (W7 6)) n1 t1] S=_:=λS=>RW hhd hf hGd hG1 (by omega) (by omega) (by omega) (by omega)
 rw [Ab,Fh hG1.hn.2.1.1 hG2.hn.2.1.1 hG1.hn.wi hG2.hn.wi (λm=>QB (Aa f g) m) (λm=>QB (Z0N f g) m),Fh hG1.ht.2.1.1 hG2.ht.2.1.1 hG1.ht.wi hG2.ht.wi (λm=>QB (Aa f g) m) (λm=>QB (Z0N f g) m)] at ea
 have hi:∀S,Qo [mkF ((w:Int),n) x (kn (mx f g) (W7 6)) (J n1 (wk f) n2 (wk g)) (J t1 (wk f) t2 (wk g))] S=some (.bl true,S):=λS=>IF hGd
 have hz:6≤Wk:=by decide
 have hh1:∀S,ZK [.tup ((kn (mx f g) (W7 6)).map enc),.tup ((kn f (W7 6)).map enc)] S=some (.bl true,S):=λS=>by rw [K0 (WY hGd.hk6 hz) (WY hG1.hk6 hz),MZ (Aa f g)]
 have hh2:∀S,ZK [.tup ((kn (mx f g) (W7 6)).map enc),.tup ((kn g (W7 6)).map enc)] S=some (.bl true,S):=λS=>by rw [K0 (WY hGd.hk6 hz) (WY hG2.hk6 hz),MZ (Z0N f g)]
 have s1:=Z3u (a:=((w:Int),n)) (x:=x) hG1.hk6 (show n1.length≤20 by omega) (show t1.length≤20 by omega)
 have sd3:=Z3u (a:=((w:Int),n)) (x:=x) hGd.hk6 hGd.hn.1 hGd.ht.1
 have q1:∀S,Yl 12 [mkF ((w:Int),n) x (kn f (W7 6)) n1 t1,mkF ((w:Int),n) x (kn f (W7 6)) n1 t1] S=some (.bl true,S):=λS=>RO 5 _ 6 S s1
 have q3:∀S,Yl 12 [mkF ((w:Int),n) x (kn (mx f g) (W7 6)) (J n1 (wk f) n2 (wk g)) (J t1 (wk f) t2 (wk g)),mkF ((w:Int),n) x (kn (mx f g) (W7 6)) (J n1 (wk f) n2 (wk g)) (J t1 (wk f) t2 (wk g))] S=some (.bl true,S):=λS=>RO 5 _ 6 S sd3
 have qn:∀S,gNe (mkF ((w:Int),n) x (kn f (W7 6)) n1 t1) (mkF ((w:Int),n) x (kn f (W7 6)) n1 t1) S=some (.bl false,S):=λS=>SR s1
 generalize hA:mkF ((w:Int),n) x (kn f (W7 6)) n1 t1=A at *
 generalize hB:mkF ((w:Int),n) x (kn g (W7 6)) n2 t2=B at *
 generalize hD:mkF ((w:Int),n) x (kn (mx f g) (W7 6)) (J n1 (wk f) n2 (wk g)) (J t1 (wk f) t2 (wk g))=C at *
 have a2:∀S,gIx A (.int 2) S=some (.tup ((kn f (W7 6)).map enc),S):=λS=>by rw [←hA];rfl
 have b2:∀S,gIx B (.int 2) S=some (.tup ((kn g (W7 6)).map enc),S):=λS=>by rw [←hB];rfl
 have d2:∀S,gIx C (.int 2) S=some (.tup ((kn (mx f g) (W7 6)).map enc),S):=λS=>by rw [←hD];rfl
 have m7:∀S,Fp (.int c) (.int 7) S=some (.int (c%7),S):=λS=>Jm (by decide)
 refine⟨[some (.scr ns),some (.int (k:Nat)),some (.int c),some (.tup [.int (w:Int),.int n]),some (.str x),some (.int c2),some A,some B,some C],S,?_,_,_,_,_,_,_,_,_,rfl⟩
 simp only [B7,EVS,W8,W9,Wf,W2,Wg,Wh,Wa,Wb,W4,↓reduceIte,reduceCtorEq,W1,Wc,W3,hc,hc1',hc2',hc3',hwh,hx,e1,m7,hsd,e2,ej,ep,es,ea,hi,hh1,hh2,q1,q3,qn,a2,b2,d2]
theorem law_true (ns:List Int)(_:ns.length≤63):∃S',F_law [.scr ns] []=some (.bl true,S'):=by
 unfold F_law
 have h0:Sh ns [some (.scr ns),none,none,none,none,none,none,none,none]:=⟨_,_,_,_,_,_,_,_,rfl⟩
 obtain⟨en',S',e,_⟩:=Jn (g:=gN 1) (ds0:=B8 0 3) (gd:=.no) (body:=B7) (W7 3) (λk=>D.int (k:Nat)) (λ_ en _=>Sh ns en)
  (λ_ k _ en S _ hP=>⟨_,rfl,turn ns k hP⟩) (λ_ _ _ _=>trivial) (S:=[]) h0
 rw [←U2] at e
 have h3:Int.toNat 3=3:=rfl
 simp only [EVS,W8,W9,Wf,W2,Wg,Wh,Wa,Wb,W4,↓reduceIte,reduceCtorEq,W1,Wc,W3,GY (show -(2 ^ 62)≤(3:Int)/\(3:Int)<2 ^ 62 by decide),h3,e]
 exact⟨_,rfl⟩
end K04
open PySem PySem.W PyProof.Rows
local macro_rules
  | `(tactic| o_head $H) => `(tactic| (refine holds_open (q := (PySem.Challenge.rw_twinshelves_k04_whole_put_together.prog)) (loose := []) (Xt := fun s => xlAt (PySem.Challenge.rw_twinshelves_k04_whole_put_together.prog) [] s && recOk (RowW.records (OpenRow.toRowW (OpenLaw.row PySem.Challenge.rw_twinshelves_k04_whole_put_together))) s) (XP := XL (PySem.Challenge.rw_twinshelves_k04_whole_put_together.prog) []) (Yf := Hook.obs $H) (Ya := Hook.val $H) (YP := Hook.says $H) (N := 2116) ?hl (Hook.of $H) (Hook.keeps $H) (fun s e => xl_of s (Bool.and_eq_true_iff.mp e).1) XL.keeps (by rfl) (by rfl) (by rfl) (fun s e => recFacts_of (Bool.and_eq_true_iff.mp e).2) (by rfl) (by first | assumption | decide +kernel) (by decide +kernel) ⟨rfl, rfl, rfl, rfl, rfl, by decide +kernel⟩ ?hw ?hc; (case hl => (intro w; kernel_rfl)); (case hw => w_witness2)))
set_option maxRecDepth 100000 in
set_option maxHeartbeats 0 in
theorem PySem.Challenge.cw_twinshelves_k04_whole_put_together_holds : PySem.Challenge.rw_twinshelves_k04_whole_put_together.Holds := by
 w_on;o_law;k_head
 k_fill
 refine DL.walk_d (l:=PySem.Challenge.rw_twinshelves_k04_whole_put_together) (F:=K04.F_law) (k:=14) (x:="_law_script") rfl rfl ⟨rfl,by decide,by decide⟩ (λw h Y=>PySem.W.kIn_of Y) ?F K04.law_true
 case F=>
  intro w mg fa h KX G hmg
  refine' K04.all_mk KX G hmg ?a0 ?l0 ?c0 ?k0 ?a1 ?l1 ?c1 ?k1 ?a2 ?l2 ?c2 ?k2 ?a3 ?l3 ?c3 ?k3 ?a4 ?l4 ?c4 ?k4 ?a5 ?l5 ?c5 ?k5 ?a6 ?l6 ?c6 ?k6 ?a7 ?l7 ?c7 ?k7 ?a8 ?l8 ?c8 ?k8 ?a9 ?l9 ?c9 ?k9 ?a10 ?l10 ?c10 ?k10 ?a11 ?l11 ?c11 ?k11 ?a12 ?l12 ?c12 ?k12 ?a13 ?l13 ?c13 ?k13 ?a14 ?l14 ?c14 ?k14 ?a15 ?l15 ?c15 ?k15 ?a16 ?l16 ?c16 ?k16 ?a17 ?l17 ?c17 ?k17 ?a18 ?l18 ?c18 ?k18 ?a19 ?l19 ?c19 ?k19 ?a20 ?l20 ?c20 ?k20 ?a21 ?l21 ?c21 ?k21 ?a22 ?l22 ?c22 ?k22 ?a23 ?l23 ?c23 ?k23 ?a24 ?l24 ?c24 ?k24 ?a25 ?l25 ?c25 ?k25 ?a26 ?l26 ?c26 ?k26 ?a27 ?l27 ?c27 ?k27 ?a28 ?l28 ?c28 ?k28 ?a29 ?l29 ?c29 ?k29 ?a30 ?l30 ?c30 ?k30 ?a31 ?l31 ?c31 ?k31 ?a32 ?l32 ?c32 ?k32 ?z_all ?z_any ?z_bool ?z_dict ?z_int ?z_isinstance ?z_len ?z_max ?z_range ?z_set ?z_sorted ?z_str ?z_tuple ?z_zip ?y_HOUSES ?y_LONGEST_NAME ?y_LONGEST_TEXT
  (case a0=>k_is)
  (case l0=>k_is)
  (case c0=>k_is)
  (case k0=>k_is)
  (case a1=>k_is)
  (case l1=>k_is)
  (case c1=>k_is)
  (case k1=>k_is)
  (case a2=>k_is)
  (case l2=>k_is)
  (case c2=>k_is)
  (case k2=>k_is)
  (case a3=>k_is)
  (case l3=>k_is)
  (case c3=>k_is)
  (case k3=>k_is)
  (case a4=>k_is)
  (case l4=>k_is)
  (case c4=>k_is)
  (case k4=>k_is)
  (case a5=>k_is)
  (case l5=>k_is)
  (case c5=>k_is)
  (case k5=>k_is)
  (case a6=>k_is)
  (case l6=>k_is)
  (case c6=>k_is)
  (case k6=>k_is)
  (case a7=>k_is)
  (case l7=>k_is)
  (case c7=>k_is)
  (case k7=>k_is)
  (case a8=>k_is)
  (case l8=>k_is)
  (case c8=>k_is)
  (case k8=>k_is)
  (case a9=>k_is)
  (case l9=>k_is)
  (case c9=>k_is)
  (case k9=>k_is)
  (case a10=>k_is)
  (case l10=>k_is)
  (case c10=>k_is)
  (case k10=>k_is)
  (case a11=>k_is)
  (case l11=>k_is)
  (case c11=>k_is)
  (case k11=>k_is)
  (case a12=>k_is)
  (case l12=>k_is)
  (case c12=>k_is)
  (case k12=>k_is)
  (case a13=>k_is)
  (case l13=>k_is)
  (case c13=>k_is)
  (case k13=>k_is)
  (case a14=>k_is)
  (case l14=>k_is)
  (case c14=>k_is)
  (case k14=>k_is)
  (case a15=>k_is)
  (case l15=>k_is)
  (case c15=>k_is)
  (case k15=>k_is)
  (case a16=>k_is)
  (case l16=>k_is)
  (case c16=>k_is)
  (case k16=>k_is)
  (case a17=>k_is)
  (case l17=>k_is)
  (case c17=>k_is)
  (case k17=>k_is)
  (case a18=>k_is)
  (case l18=>k_is)
  (case c18=>k_is)
  (case k18=>k_is)
  (case a19=>k_is)
  (case l19=>k_is)
  (case c19=>k_is)
  (case k19=>k_is)
  (case a20=>k_is)
  (case l20=>k_is)
  (case c20=>k_is)
  (case k20=>k_is)
  (case a21=>k_is)
  (case l21=>k_is)
  (case c21=>k_is)
  (case k21=>k_is)
  (case a22=>k_is)
  (case l22=>k_is)
  (case c22=>k_is)
  (case k22=>k_is)
  (case a23=>k_is)
  (case l23=>k_is)
  (case c23=>k_is)
  (case k23=>k_is)
  (case a24=>k_is)
  (case l24=>k_is)
  (case c24=>k_is)
  (case k24=>k_is)
  (case a25=>k_is)
  (case l25=>k_is)
  (case c25=>k_is)
  (case k25=>k_is)
  (case a26=>k_is)
  (case l26=>k_is)
  (case c26=>k_is)
  (case k26=>k_is)
  (case a27=>k_is)
  (case l27=>k_is)
  (case c27=>k_is)
  (case k27=>k_is)
  (case a28=>k_is)
  (case l28=>k_is)
  (case c28=>k_is)
  (case k28=>k_is)
  (case a29=>k_is)
  (case l29=>k_is)
  (case c29=>k_is)
  (case k29=>k_is)
  (case a30=>k_is)
  (case l30=>k_is)
  (case c30=>k_is)
  (case k30=>k_is)
  (case a31=>k_is)
  (case l31=>k_is)
  (case c31=>k_is)
  (case k31=>k_is)
  (case a32=>k_is)
  (case l32=>k_is)
  (case c32=>k_is)
  (case k32=>k_is)
  (case z_all=>k_is)
  (case z_any=>k_is)
  (case z_bool=>k_is)
  (case z_dict=>k_is)
  (case z_int=>k_is)
  (case z_isinstance=>k_is)
  (case z_len=>k_is)
  (case z_max=>k_is)
  (case z_range=>k_is)
  (case z_set=>k_is)
  (case z_sorted=>k_is)
  (case z_str=>k_is)
  (case z_tuple=>k_is)
  (case z_zip=>k_is)
  (case y_HOUSES=>k_is)
  (case y_LONGEST_NAME=>k_is)
  (case y_LONGEST_TEXT=>k_is)
