import PyProof.Rows.All
import Wide.All
import OpenK.AllK
import Wide.FinOn
import Lean
import PyProof.EqAt
import PyProof.EqKinds
import PyProof.TupleCall
import KE.KRevIter
import KE.KRevSl
import PyProof.SumWalkG
import PySem.Challenge.RW_twinshelves_k07_one_house
set_option Elab.async false
set_option linter.all false
namespace DL
open PySem PySem.W
/-- the run of the top, the heap a tree -/
noncomputable def topT (tb : String -> Option Builtin) (p : Program) (w : World) (m : Nat) (an : Option Value) : Nat -> SharedT -> Thread -> Option SharedT
  | 0, _, _ => none
  | n + 1, s, t => match through t with
    | true => some s
    | false => match stepOk m an t with
      | false => none
      | true => match stepT (denote tb) p w s t with
        | some (s', t') => topT tb p w m an n s' t'
        | none => none
theorem topT_of {tb : String -> Option Builtin} {p : Program} {w : World} {m : Nat} {an : Option Value} : ∀ {n : Nat} {s r : SharedT} {t : Thread}, topT tb p w m an n s t = some r -> topRun tb p w m an n s.abs t = some r.abs
  | 0, _, _, _, h => by cases h
  | n + 1, s, r, t, h => by
    unfold topT at h;unfold topRun;cases h1 : through t with
    | true =>
      rw [h1] at h;cases h;rfl
    | false =>
      rw [h1] at h;cases h2 : stepOk m an t with
      | false =>
        rw [h2] at h;cases h
      | true =>
        rw [h2] at h;cases h3 : stepT (denote tb) p w s t with
        | none =>
          rw [h3] at h;cases h
        | some z =>
          obtain ⟨s2, t2⟩ := z
          rw [h3] at h;dsimp only at h ⊢
          rw [stepT_spec h3];exact topT_of h
noncomputable def tree0 (P : Params) : BT := ((boot_heap P).objs.toList.foldl (fun (x : BT × Nat) o => (x.1.ins x.2 o, x.2 + 1)) (BT.nil, 0)).1
theorem tree0_abs (P : Params) : absHeap (tree0 P) 11 (boot_heap P).life = boot_heap P := by kernel_rfl
theorem boot_at (P : Params) : ((boot_heap P).isNs mainGlobals && (Array.mk [] : Array GenState).size == 0, (boot_heap P).objs.size, (boot_heap P).nsMap mainGlobals "__annotations__") = (true, 11, some (.ref 6)) := by kernel_rfl
noncomputable def ran (p : Program) (N : Nat) (w : World) (os : OsState) : Option SharedT := topT treeTable p w 11 (some (.ref 6)) N ⟨tree0 w.params, 11, (boot_heap w.params).life, Array.mk [], boot_drawn, boot_toks, os⟩ (topStub p)
theorem left_tree {p q : Program} {loose : List Str} {Xt : Shared -> Bool} {A : Type} {Yf : Shared -> A} {Ya : World -> A} {N : Nat}
    (hB : ∀ (w : World) (os : OsState), ((ran p N w os).map fun s => staticsOk (importedModules p.main.body) (boot_heap w.params) s.abs.heap && namesBound p s.abs.heap && gensDone s.abs && laidKept (boot_heap w.params) s.abs.heap) = some true)
    (hC : ∀ (w : World) (os : OsState), ((ran p N w os).map fun s => openSeen q loose (importedModules p.main.body) Xt true s.abs) = some (openGood q loose))
    (e : opening p = plainProg p.main.scope.names) (hN : Nat.ble 600 N = true) (f : ∀ s, fenceModules? p s = some s)
    (hD : ∀ (w : World) (os : OsState), ((ran p N w os).map fun s => Yf s.abs) = some (Ya w)) :
    LeftO p q loose Xt Yf Ya N := fun w => by
  obtain ⟨⟨hp, g, d, k, os⟩, e1, e2⟩ := Option.map_eq_some_iff.mp (boot_open e hN f w)
  obtain ⟨rfl, rfl, rfl, rfl⟩ : hp = boot_heap w.params ∧ g = Array.mk [] ∧ d = boot_drawn ∧ k = boot_toks := by simpa using e2
  obtain ⟨s, e3, l1⟩ := Option.map_eq_some_iff.mp (hB w os)
  have l2 := hC w os
  have l3 := hD w os
  rw [e3] at l2 l3;replace l2 := Option.some.inj l2
  replace l3 := Option.some.inj l3
  obtain ⟨z1, z2, z3⟩ : _ ∧ _ ∧ _ := by simpa only [Prod.mk.injEq] using boot_at w.params
  have r := topT_of e3
  have a0 : SharedT.abs ⟨tree0 w.params, 11, (boot_heap w.params).life, Array.mk [], boot_drawn, boot_toks, os⟩ = ⟨boot_heap w.params, Array.mk [], boot_drawn, boot_toks, os⟩ := by
    unfold SharedT.abs;dsimp only;rw [tree0_abs]
  rw [a0] at r;have t : topFrom treeTable p w N ⟨boot_heap w.params, Array.mk [], boot_drawn, boot_toks, os⟩ = some s.abs := by
    unfold topFrom;dsimp only;rw [z1, z2, z3, r];show (match staticsOk (importedModules p.main.body) (boot_heap w.params) s.abs.heap && namesBound p s.abs.heap && gensDone s.abs && laidKept (boot_heap w.params) s.abs.heap with | true => _ | false => _) = _
    rw [l1]
  unfold openEnds;rw [e1];show (topFrom treeTable p w N _).map _ = _
  rw [t];exact congrArg some (Prod.ext l2 l3)
end DL
section
open PySem PySem.W
set_option maxRecDepth 100000 in
theorem DL.hC (w : World) (os : OsState) : ((DL.ran PySem.Challenge.rw_twinshelves_k07_one_house.prog 5038 w os).map fun s => openSeen PySem.Challenge.rw_twinshelves_k07_one_house.prog [] (importedModules PySem.Challenge.rw_twinshelves_k07_one_house.prog.main.body) (fun s => PySem.W.xlAt PySem.Challenge.rw_twinshelves_k07_one_house.prog [] s && PySem.W.recOk (PySem.W.RowW.records (PySem.W.OpenRow.toRowW (PySem.W.OpenLaw.row PySem.Challenge.rw_twinshelves_k07_one_house))) s) true s.abs) = some (openGood PySem.Challenge.rw_twinshelves_k07_one_house.prog []) := by kernel_rfl
set_option maxRecDepth 100000 in
theorem DL.hB (w : World) (os : OsState) : ((DL.ran PySem.Challenge.rw_twinshelves_k07_one_house.prog 5038 w os).map fun s => staticsOk (importedModules PySem.Challenge.rw_twinshelves_k07_one_house.prog.main.body) (boot_heap w.params) s.abs.heap && namesBound PySem.Challenge.rw_twinshelves_k07_one_house.prog s.abs.heap && gensDone s.abs && laidKept (boot_heap w.params) s.abs.heap) = some true := by kernel_rfl
end
open Array renaming length_toList -> VW, getElem?_toList -> W03, getElem?_eq_some_iff -> W08, getD_eq_getD_getElem? -> W12, getElem?_eq_getElem -> W1f
open Bool renaming and_eq_true -> Wr, false_ne_true -> WI, false_eq_true -> VP, eq_iff_iff -> W04, true_and -> W0x, and_true -> W0V, false_and -> W1d
open Int renaming reduceToNat -> W6, reduceNeg -> W9, reducePow -> Wa, reduceLT -> We, reduceLE -> Wg, emod_lt_of_pos -> Vn, emod_nonneg -> VJ, toNat_natCast -> W06
open List renaming map_cons -> W0, map_nil -> Wb, getElem?_eq_some_iff -> Wi, length_map -> Wl, getElem?_eq_getElem -> Wm, size_toArray -> Wn, range -> Wo, getElem?_concat_length -> Wu, mem_cons -> Wx, zip_cons_cons -> Wz, getElem?_map -> WB, mem_cons_self -> WC, mem_cons_of_mem -> WD, getElem?_set_ne -> WL, not_mem_nil -> WM, all_eq_true -> WN, mem_append_right -> WO, length_append -> WP, getElem?_set_self -> WQ, length_cons -> WR, getElem?_append_left -> WU, getElem?_append_right -> WX, length_zip -> V0, length -> V4, getElem?_take_of_lt -> V6, all_cons -> V8, lookup_cons -> V9, getD_eq_getElem?_getD -> Vd, append_assoc -> Vj, find?_cons -> Vm, mem_of_getElem? -> Vo, map_map -> Vp, append_nil -> Vu, map_append -> Vv, mem_map -> Vw, length_take -> Vy, getElem_mem -> VA, getElem?_replicate -> VB, toArray -> VE, length_replicate -> VN, replicate -> VQ, lookup -> VY, pairwise_cons -> W00, nodup_cons -> W01, getElem?_toArray -> W02, any_cons -> W07, mem_iff_getElem -> W09, getElem?_zip_eq_some -> W0e, any_eq_true -> W0i, getD -> W0v, pairwise_map -> W0E, length_singleton -> W0K, length_filter_le -> W0L, getElem_zip -> W0M, mem_append_left -> W0N, getElem?_mapIdx -> W0R, mem_filter -> W0W, filterMap_cons -> W0X, all_map -> W1b, mem_singleton -> W1c, pairwise_iff_getElem -> W1i, length_range -> W1r
open List.cons renaming injEq -> W05
open Nat renaming reduceLeDiff -> W4, reduceAdd -> W7, reduceSub -> W8, reduceLT -> Wd, le_refl -> Wq, lt_of_lt_of_le -> WH, ne_of_lt -> WT, le_trans -> V2, lt_irrefl -> Vk, zero_le -> Vq, le_of_not_lt -> W0g, ne_of_gt -> W0l
open Option renaming bind_eq_some_iff -> W1, map_some -> W5, map_eq_some_iff -> Wh, bind_some -> WK, isSome_iff_exists -> W1o
open Option.some renaming inj -> WS
open PyProof.Rows renaming slot_tuple_getitem -> V7, callWith_type1 -> VH, callWith_builtin1 -> W0G, mirror_size -> W13
open PySem renaming wpAny_bind -> W2, sizeLine -> Wc, wpAny_pure -> Wk, starEach -> Ws, mainGlobals -> WA, bootBuiltins -> WG, wpAny_callSpecial?_slot -> V3, wpAny_newObj_type -> Vb, wpAny_call_entry -> Vg, wpAny_field -> Vl, mem_of_lookup -> Vr, wpAny_holding -> Vs, wpAny_Call_Name_kw -> Vx, wpAny_typeNameOfWhole_keyiter -> Vz, wpAny_seqItems -> VD, wpAny_mono -> VF, wpAny_setField_rec -> VO, wpAny_typeNameOf_keyiter -> VU, sizeLine_eq -> VX, wpAny_getItem_str_slice -> VZ, wpAny_passesOwn -> W0n, tupleKind_room_in1 -> W0q, wpAny_callSpecial?_none -> W0s, wpAny_pyIter_tuple -> W0u, wpAny_truthy_bool -> W0A, wpAny_dictEntries -> W0C, wpAny_isOneOf_keyiter -> W0J, wpAny_updateSeq_pair -> W0P, wpAny_pyIter_keyiter -> W0Q, post_val_or_str -> W14, wpAny_typeOf -> W19, wpAny_setField -> W1g, wpAny_fieldsOf -> W1h, wpAny_rule -> W1p, wpAny_pyIter_list -> W1q
open PySem.Around renaming under_plainId -> W0O
open PySem.Builtin.Dict_items renaming ownsTuple -> W0T
open PySem.Builtin.Slice renaming slicePlaces -> VR, sliceAdjust -> W0a, sliceApplied -> W16
open PySem.Builtin.SmallTypes renaming nextOf -> Vf, ownedTupleIsFree -> Vh, ownedTupleHandOut -> W0b
open PySem.Builtin.Tuple renaming tupleExact -> VT, tupleItemsOf -> W17
open PySem.Calls renaming call_function_entry -> VS, spliced_cons -> W0o, callWith_builtin -> W0z, Name_function_global -> W15, spliced_nil -> W1n
open PySem.F renaming slot_dict_keyiterator_next -> Va, slot_tuple_iterator_next -> VL, slot_tuple_getattribute -> W0c, args_dict_keyiterator_next_1 -> W0d, entry_dict_keyiterator_next -> W0k, args_tuple_add_2 -> W0m, entry_tuple_add -> W0p, slot_dict_len -> W0r, slot_tuple_add -> W0y, slot_dict_get -> W0I, args_tuple_iterator_next_1 -> W0S, entry_tuple_iterator_next -> W0Z, slot_zip_next -> W10
open PySem.Heap renaming get?_push_of_some -> Wj, get?_push_size -> Wt, lt_size -> Ww, size_push -> VC, SameBut -> VM, get?_update_self -> W0H
open PySem.Heap.SameBut renaming update -> VI
open PySem.Obj renaming mapSeq -> Vc, data_mapFields -> W0t
open PySem.Paired renaming length -> VV
open PySem.PassesOwn renaming never -> W0w
open PySem.SeqAt renaming RcNeAt -> WV, EqAt -> WW, RcAt -> V1
open PySem.Str renaming ofString -> Wp
open PySem.Txt renaming join -> W0U
open PySem.W renaming Frag -> W3, keepIn -> Wv, codeIn -> Wy, fnOf -> WE, findIn -> WF, nsIn -> WJ, mg_of -> WY, mg_none_of -> WZ, isFn -> V5, kia_one -> Ve, emptyDict -> Vi, kitOne -> Vt, instObj -> VG, plainGet -> W0f, kas_desc -> W0h, kas_rev -> W0j, hasDictIn -> W0B, kas_asc -> W0D, kas_sort -> W0F, plainGet_of -> W0Y, kas_place -> W11, callWith_K -> W18, kas_descPart -> W1a, lookIn -> W1e, methodObj -> W1j, plainOver -> W1k, kitx_list -> W1l, kitx_dict -> W1m
noncomputable section
theorem Ua {a b:Prop}(x:a)(y:b):a∧b:=⟨x,y⟩
set_option Elab.async false
set_option linter.all false
set_option maxRecDepth 100000
namespace L2
open PySem PySem.Spec PyProof.Rows
abbrev Key:=Sum Int Str
def Nm:Key->Value->Bool
 | .inl k,v=>Value.isInt k v
 | .inr x,v=>Value.isStrOf x v
def Z0n (w:World):Key->Int
 | .inl k=>hashInt k
 | .inr x=>hashStr w x
theorem ZU:∀{k:Key} {v:Value},Nm k v=true->(∃i t,k=Sum.inl i/\v=Value.int i t)\/(∃x t,k=Sum.inr x/\v=Value.str x t)
 | .inl i,v,h=>by
  obtain⟨t,e⟩:=Value.isInt_shape (k:=i) (v:=v) h
  exact .inl ⟨i,t,rfl,e⟩
 | .inr x,v,h=>by
  obtain⟨t,e⟩:=Value.isStrOf_shape (x:=x) (v:=v) h
  exact .inr ⟨x,t,rfl,e⟩
theorem Rw (i:Int)(t:Tok):Nm (.inl i) (.int i t)=true:=by simp [Nm,Value.isInt]
theorem Rv (x:Str)(t:Tok):Nm (.inr x) (.str x t)=true:=by simp [Nm,Value.isStrOf]
theorem Se (a b:Int):decide ((Sum.inl a:Key)=Sum.inl b)=(a == b):=by
 by_cases e:a=b
 ·subst e;simp
 ·have h:¬(Sum.inl a:Key)=Sum.inl b:=λq=>e (Sum.inl.inj q)
  rw [decide_eq_false h];exact (beq_eq_false_iff_ne.mpr e).symm
theorem Sb (a b:Str):decide ((Sum.inr a:Key)=Sum.inr b)=decide (a=b):=by
 by_cases e:a=b
 ·subst e;simp
 ·have h:¬(Sum.inr a:Key)=Sum.inr b:=λq=>e (Sum.inr.inj q)
  rw [decide_eq_false h,decide_eq_false e]
theorem Sd (a:Int)(b:Str):decide ((Sum.inl a:Key)=Sum.inr b)=false:=decide_eq_false (λq=>nomatch q)
theorem Sc (a:Str)(b:Int):decide ((Sum.inr a:Key)=Sum.inl b)=false:=decide_eq_false (λq=>nomatch q)
def ZT (prog:Program)(w:World):PySem.KeyKind prog w Key where
 is:=Nm
 hash:=Z0n w
 inj:=λv a b ha hb=>by
  rcases ZU ha with ⟨i,t,rfl,rfl⟩|⟨x,t,rfl,rfl⟩
  ·rcases ZU hb with ⟨j,u,rfl,e⟩|⟨y,u,rfl,e⟩
   ·injection e with e1 _;rw [e1]
   ·exact nomatch e
  ·rcases ZU hb with ⟨j,u,rfl,e⟩|⟨y,u,rfl,e⟩
   ·exact nomatch e
   ·injection e with e1 _;rw [e1]
 byValue:=λk v h=>by
  rcases ZU h with ⟨i,t,rfl,rfl⟩|⟨x,t,rfl,rfl⟩<;>rfl
 pyHash:=λhv h=>by
  rcases ZU hv with ⟨i,t,rfl,rfl⟩|⟨x,t,rfl,rfl⟩
  ·exact wpAny_pyHash_int h
  ·exact wpAny_pyHash_str h
 eqBool:=λhu hv h=>by
  rcases ZU hu with ⟨i,t,rfl,rfl⟩|⟨x,t,rfl,rfl⟩
  ·rcases ZU hv with ⟨j,u,rfl,rfl⟩|⟨y,u,rfl,rfl⟩
   ·rw [Se] at h;exact wpAny_eqBool_int h
   ·rw [Sd] at h;exact WW.int_str i t y u _ _ _ _ h
  ·rcases ZU hv with ⟨j,u,rfl,rfl⟩|⟨y,u,rfl,rfl⟩
   ·rw [Sc] at h;exact WW.str_int x t j u _ _ _ _ h
   ·rw [Sb] at h;exact wpAny_eqBool_str h
 «strs»:=λk x t v h=>by
  rcases ZU h with ⟨i,u,rfl,e⟩|⟨y,u,rfl,e⟩
  ·exact nomatch e
  ·injection e with e1 _
   subst e1;cases v<;>rfl
theorem N3 (prog:Program)(w:World)(i:Int)(t:Tok):(ZT prog w).is (.inl i) (.int i t)=true:=Rw i t
theorem N2 (prog:Program)(w:World)(x:Str)(t:Tok):(ZT prog w).is (.inr x) (.str x t)=true:=Rv x t
end L2
namespace L2
open PySem PySem.Spec PyProof.Rows
inductive V where
 |non|bl (b:Bool)|int (i:Int)|str (x:Str)|byt (b:Array UInt8)|flt (b:UInt64)|ref (a:Addr)|ty (n:String)
 deriving DecidableEq
def ZC:V->Value->Prop
 | .non,u=>u=Value.none
 | .bl b,u=>u=Value.bool b
 | .int i,u=>∃t,u=Value.int i t
 | .str x,u=>∃t,u=Value.str x t
 | .byt b,u=>∃t,u=Value.bytes b t
 | .flt b,u=>∃t,u=Value.float b t
 | .ref a,u=>u=Value.ref a
 | .ty n,u=>u=Value.type n
abbrev Y2:List V->List Value->Prop:=Paired ZC
theorem Y2.length {xs:List V}{us:List Value}(r:Y2 xs us):xs.length=us.length:=VV r
theorem Y2.get:∀{xs:List V} {us:List Value} {i:Nat} {x:V},Y2 xs us->xs[i]? = some x->∃u,us[i]? = some u/\ZC x u
 |_,_,_,_,.nil,e=>by simp at e
 |_,_,0,_,.cons r _,e=>by simp at e;subst e;exact⟨_,rfl,r⟩
 |_,_,i+1,x,.cons _ t,e=>by
  obtain⟨u,h1,h2⟩:=Y2.get (i:=i) (x:=x) t (by simpa using e)
  exact⟨u,by simpa using h1,h2⟩
theorem Y2.set {x:V}{u:Value}(r:ZC x u):∀{xs:List V} {us:List Value} (i:Nat),Y2 xs us->Y2 (xs.set i x) (us.set i u)
 |_,_,_,.nil=>.nil
 |_,_,0,.cons _ t=>.cons r t
 |_,_,i+1,.cons q t=>.cons q (Y2.set r i t)
theorem Y2.append:∀{xs ys:List V} {us ws:List Value},Y2 xs us->Y2 ys ws->Y2 (xs++ys) (us++ws)
 |_,_,_,_,.nil,s=>s
 |_,_,_,_,.cons r t,s=>.cons r (Y2.append t s)
theorem Y2.take:∀{xs:List V} {us:List Value} (n:Nat),Y2 xs us->Y2 (xs.take n) (us.take n)
 |_,_,0,_=>.nil
 |_,_,_+1,.nil=>.nil
 |_,_,n+1,.cons r t=>.cons r (Y2.take n t)
theorem Y2.drop:∀{xs:List V} {us:List Value} (n:Nat),Y2 xs us->Y2 (xs.drop n) (us.drop n)
 |_,_,0,r=>r
 |_,_,_+1,.nil=>.nil
 |_,_,n+1,.cons _ t=>Y2.drop n t
def Gu:Option V->Option Value->Prop
 |some v,some u=>ZC v u
 |none,none=>True
 |_,_=>False
def KV {κ:Type}:List (κ×V)->List (κ×Value)->Prop:=Paired λ(p:κ×V) (q:κ×Value)=>p.1=q.1/\ZC p.2 q.2
def kV:Key->V
 | .inl i=>.int i
 | .inr x=>.str x
inductive HO where
 /-- a list -/
 |lst (xs:List V)
 /-- a tuple (never changes) -/
 |tup (xs:List V)
 /-- a dict whose keys are ints and texts;one whose keys are tuples of ints and texts (the empty one is both) -/
 |dK (kvs:List (Key×V))|dT (kvs:List (List Key×V))
 /-- a set of ints: its members,its size -/
 |set (S:Int->Bool) (n:Nat)
 /-- an instance of the class at C,its dict at dx,its attributes -/
 |ins (C dx:Addr) (fs:List (Str×V))
 /-- the dict of the instance at x -/
 |own (x:Addr)
 /-- the dict of an exception -/
 |xd (fs:List (Str×V))
 /-- a bound method,f of x -/
 |met (f x:Addr)
 /-- a range object lo,lo+1,.. below hi -/
 |rng (lo hi:Int)
 /-- a thing that is known to the object (the script;a dict while a loop walks it): read,never written while it is so -/
 |frz (o:Obj) (u:HO)
 /-- a code object's table -/
 |tbl (ps:Array Value)
 /-- any other thing,by what is true of its one object (a def of one's own: SetO a S n:=HO.ext λh=>..) -/
 |ext (φ:Heap->Prop)
abbrev Hp:=Addr->Option HO
def upd (H:Hp)(a:Addr)(o:HO):Hp:=λb=>if b=a then some o else H b
theorem Z6 {H:Hp}{a:Addr}{o:HO}:upd H a o a=some o:=by unfold upd;rw [if_pos rfl]
theorem Ze {H:Hp}{a b:Addr}{o:HO}(h:b≠a):upd H a o b=H b:=by unfold upd;rw [if_neg h]
theorem Qp {H:Hp}{a:Addr}{o u:HO}:upd (upd H a o) a u=upd H a u:=by
 funext b;unfold upd;split<;>rfl
theorem JD {H:Hp}{a b:Addr}{o u:HO}(h:H a=some o)(h':H b=some u)(d:o≠u):a≠b:=by
 intro e;subst e;rw [h] at h';exact d (WS h')
theorem Zw {H:Hp}{a b:Addr}{o:HO}(h:H a=some o)(h':H b=none):a≠b:=by
 intro e;subst e;rw [h] at h';cases h'
def LV (h:Heap)(a:Addr)(items:Array Value):Prop:=IsTup h a items/\∃o,h.get? a=some o/\o.dict=none
theorem LV.new (h:Heap)(items:Array Value):LV (h.push { cls:=.type "tuple",data:=.seq items }) h.objs.size items:=⟨IsTup.new h items,_,Wt _ rfl,rfl⟩
section
variable (P:Program) (w:World)
def Zz (H:Hp)(h:Heap)(a:Addr):HO->Prop
 | .lst xs=>xs.length<=Wc/\∃(its:List Value) (n:Nat),Y2 xs its/\h.get? a=some { cls:=.type "list",data:=.seq its.toArray n }
 | .tup xs=>xs.length<=Wc/\∃its:List Value,Y2 xs its/\LV h a its.toArray
 | .dK kvs=>kvs.length<=Wc/\(a == sysModules)=false/\∃vs,KV kvs vs/\h.DictOf (ZT P w) a vs
 | .dT kvs=>kvs.length<=Wc/\(a == sysModules)=false/\∃xs:List (List Key×Addr×Value),
   Paired (λ(p:List Key×V) (q:List Key×Addr×Value)=>p.1=q.1/\H q.2.1=some (.tup (p.1.map kV))/\ZC p.2 q.2.2) kvs xs/\
   ∃o es ep,h.get? a=some o/\o.ExactDict/\o.data = .dict es ep/\es.toList=xs.map (entryOfKey (tupleKind (ZT P w)))/\(xs.map (·.1)).Nodup
 | .set S n=>h.SetOf (intKind P w) a S n
 | .ins C dx fs=>H dx=some (.own a)/\fs.length<=1000/\dx≠a/\h.get? a=some (VG C dx)/\
   ∃mA,h.Ns1 dx mA/\(∀f,Gu (fs.lookup f) (mA f))/\PySem.Within mA (fs.map (·.1))
 | .own _=>∃o,h.get? a=some o
 | .xd fs=>∃mA,h.Ns1 a mA/\∀f,Gu (fs.lookup f) (mA f)
 | .rng lo hi=>∃t u v,h.get? a=some { cls:=.type "range",data:=.fields #[.int lo t,.int hi u,.int 1 v] }
 | .frz o u=>h.get? a=some o/\Zz H h a u
 | .tbl ps=>h.get? a=some { cls:=.none,data:=.fields ps }
 | .met f x=>h.get? a=some (W1j (.ref f) (.ref x))
 | .ext φ=>φ h/\(∃o,h.get? a=some o)/\∀h1 h2:Heap,φ h1->(∀o,h1.get? a=some o->h2.get? a=some o)->φ h2
def HOk (H:Hp)(h:Heap):Prop:=∀a o,H a=some o->Zz P w H h a o
end
section
variable {P:Program} {w:World} {H H':Hp} {h h':Heap} {a:Addr} {o:HO}
theorem Zz.lt (x:Zz P w H h a o):a<h.objs.size:=by
 cases o with
 |lst xs=>obtain⟨_,_,_,_,e⟩:=x;exact Ww e
 |tup xs=>obtain⟨_,_,_,p⟩:=x;exact p.1.lt
 |dK kvs=>obtain⟨_,_,_,_,o,_,_,e,_⟩:=x;exact Ww e
 |dT kvs=>obtain⟨_,_,_,_,o,_,_,e,_⟩:=x;exact Ww e
 |set S n=>obtain⟨o,_,_,_,e,_⟩:=x;exact Ww e
 |ins C dx fs=>obtain⟨_,_,_,e,_⟩:=x;exact Ww e
 |own y=>obtain⟨_,e⟩:=x;exact Ww e
 |xd fs=>obtain⟨_,⟨_,_,_,e,_⟩,_⟩:=x;exact Ww e
 |rng lo hi=>obtain⟨_,_,_,e⟩:=x;exact Ww e
 |frz ob u=>obtain⟨e,_⟩:=x;exact Ww e
 |tbl ps=>exact Ww (show h.get? a=some _ from x)
 |met f y=>exact Ww (show h.get? a=some _ from x)
 |ext φ=>obtain⟨_,⟨_,e⟩,_⟩:=x;exact Ww e
theorem Paired.mapP {α β:Type}{F G:α->β->Prop}:∀{l₁:List α} {l₂:List β},Paired F l₁ l₂->(∀a b,F a b->G a b)->Paired G l₁ l₂
 |_,_,.nil,_=>.nil
 |_,_,.cons r t,f=>.cons (f _ _ r) (Paired.mapP t f)
theorem Zz.stay (x:Zz P w H h a o)(k:∀b u,(b=a\/H b=some (.own a))->h.get? b=some u->h'.get? b=some u)
  (ho:∀b,H b=some (.own a)->H' b=some (.own a)) (ht:∀b xs,H b=some (.tup xs)->H' b=some (.tup xs)):Zz P w H' h' a o:=by
 induction o with
 |lst xs=>obtain⟨z,its,n,r,e⟩:=x;exact⟨z,its,n,r,k _ _ (.inl rfl) e⟩
 |tup xs=>obtain⟨z,its,r,⟨ob,e,c⟩,ob2,e2,c2⟩:=x;exact⟨z,its,r,⟨ob,k _ _ (.inl rfl) e,c⟩,ob2,k _ _ (.inl rfl) e2,c2⟩
 |dK kvs=>obtain⟨z,y,vs,r,ob,es,ep,e,c⟩:=x;exact⟨z,y,vs,r,ob,es,ep,k _ _ (.inl rfl) e,c⟩
 |dT kvs=>
  obtain⟨z,y,xs,r,ob,es,ep,e,c⟩:=x
  exact⟨z,y,xs,Paired.mapP r λp q z=>⟨z.1,ht _ _ z.2.1,z.2.2⟩,ob,es,ep,k _ _ (.inl rfl) e,c⟩
 |set S n=>obtain⟨ob,es,ep,t,e,c⟩:=x;exact⟨ob,es,ep,t,k _ _ (.inl rfl) e,c⟩
 |ins C dx fs=>
  obtain⟨d,z,ne,e,mA,⟨od,es,ep,e2,c⟩,r⟩:=x
  exact⟨ho _ d,z,ne,k _ _ (.inl rfl) e,mA,⟨od,es,ep,k _ _ (.inr d) e2,c⟩,r⟩
 |own y=>obtain⟨ob,e⟩:=x;exact⟨ob,k _ _ (.inl rfl) e⟩
 |xd fs=>obtain⟨mA,⟨od,es,ep,e,c⟩,r⟩:=x;exact⟨mA,⟨od,es,ep,k _ _ (.inl rfl) e,c⟩,r⟩
 |rng lo hi=>obtain⟨t,u,v,e⟩:=x;exact⟨t,u,v,k _ _ (.inl rfl) e⟩
 |frz ob u ih=>obtain⟨e,q⟩:=x;exact⟨k _ _ (.inl rfl) e,ih q⟩
 |tbl ps=>
  have e:h.get? a=some { cls:=.none,data:=.fields ps }:=x
  show h'.get? a=some { cls:=.none,data:=.fields ps }
  exact k a _ (.inl rfl) e
 |met f y=>
  have e:h.get? a=some (W1j (.ref f) (.ref y)):=x
  show h'.get? a=some (W1j (.ref f) (.ref y))
  exact k a _ (.inl rfl) e
 |ext φ=>obtain⟨p,⟨o,e⟩,st⟩:=x;exact⟨st _ _ p λo q=>k _ _ (.inl rfl) q,⟨o,k _ _ (.inl rfl) e⟩,st⟩
theorem HOk.lt (x:HOk P w H h)(e:H a=some o):a<h.objs.size:=(x a o e).lt
theorem HOk.fresh (x:HOk P w H h)(e:h.objs.size<=a):H a=none:=by
 cases q:H a with
 |none=>rfl
 |some u=>exact absurd (WH (x.lt q) e) (Vk _)
theorem HOk.kept (x:HOk P w H h)(k:∀b u,h.get? b=some u->h'.get? b=some u):HOk P w H h':=λa o e=>
 (x a o e).stay (λb u _ q=>k b u q) (λ_ q=>q) λ_ _ q=>q
theorem HOk.laid (x:HOk P w H h)(k:∀b u,h.get? b=some u->h'.get? b=some u)(hp:h.objs.size<=a)(new:Zz P w (upd H a o) h' a o):HOk P w (upd H a o) h':=λb u e=>by
 have hn:=x.fresh hp
 by_cases hb:b=a
 ·subst hb;rw [Z6] at e;cases e;exact new
 ·rw [Ze hb] at e
  exact (x b u e).stay (λc v _ q=>k c v q) (λc q=>by rw [Ze (Zw q hn)];exact q) λc xs q=>by rw [Ze (Zw q hn)];exact q
end
def Rd (H:Hp)(a:Addr)(u:HO):Prop:=H a=some u\/∃o,H a=some (.frz o u)
theorem Rd.ok {P:Program}{w:World}{H:Hp}{h:Heap}{a:Addr}{u:HO}(r:Rd H a u)(x:HOk P w H h):Zz P w H h a u:=by
 rcases r with r|⟨o,r⟩
 ·exact x a u r
 ·obtain⟨_,q⟩:=x a _ r
  exact q
def Mut:Option HO->Prop
 |some (.lst _)=>True
 |some (.dK _)=>True
 |some (.dT _)=>True
 |some (.set _ _)=>True
 |some (.ins _ _ _)=>True
 |some (.ext _)=>True
 |_=>False
section
variable {P:Program} {w:World} {H:Hp} {h h':Heap} {x e:Addr} {o':HO}
theorem HOk.write (ok:HOk P w H h)(mu:Mut (H x))(he:e=x\/H e=some (.own x))(k:∀b u,b≠e->h.get? b=some u->h'.get? b=some u)(heo:∃u,h'.get? e=some u)
  (new:Zz P w (upd H x o') h' x o'):HOk P w (upd H x o') h':=λb u q=>by
 have nown:∀c y,H c=some (.own y)->c≠x:=λc y r z=>by subst z;rw [r] at mu;exact mu
 have ntup:∀c xs,H c=some (.tup xs)->c≠x:=λc xs r z=>by subst z;rw [r] at mu;exact mu
 by_cases hb:b=x
 ·subst hb;rw [Z6] at q;cases q;exact new
 ·rw [Ze hb] at q
  by_cases hbe:b=e
  ·have q':H b=some (.own x):=by
    rcases he with z|z
    ·exact absurd (hbe.trans z) hb
    ·rw [hbe];exact z
   rw [q] at q';cases q'
   obtain⟨v,hv⟩:=heo
   exact⟨v,by rw [hbe];exact hv⟩
  ·refine (ok b u q).stay (λc v hc r=>k c v ?_ r) (λc r=>by rw [Ze (nown c b r)];exact r) λc xs r=>by rw [Ze (ntup c xs r)];exact r
   rcases hc with rfl|hc
   ·exact hbe
   ·rintro rfl
    rcases he with z|z
    ·exact nown c b hc z
    ·rw [hc] at z;cases z;exact hb rfl
end
structure Un (fs ex:List Addr) (H H':Hp) (h h':Heap):Prop where
 keep:∀b o,h.get? b=some o->H b=none->b∉fs->b∉ex->h'.get? b=some o
 slot:∀b o,h.get? b=some o->H b=none->b∈fs->b∉ex->∃sl,h'.get? b=some { o with slots:=sl }
 free:∀b o,h.get? b=some o->H b=none->b∉ex->H' b=none
 there:∀b o,h.get? b=some o->b∉ex->∃o',h'.get? b=some o'
 tups:∀b xs,H b=some (.tup xs)->H' b=some (.tup xs)
 frzs:∀b o u,H b=some (.frz o u)->H' b=some (.frz o u)
 tbls:∀b ps,H b=some (.tbl ps)->∃more,H' b=some (.tbl (ps++more))
section
variable {fs fs' ex ex':List Addr} {H H1 H2:Hp} {h h1 h2 h':Heap} {a x e:Addr} {o:HO}
theorem Un.any (u:Un fs ex H H1 h h1){b:Addr}{ob:Obj}(q:h.get? b=some ob)(n:H b=none)(hx:b∉ex):∃sl,h1.get? b=some { ob with slots:=sl }:=by
 by_cases hb:b∈fs
 ·exact u.slot b ob q n hb hx
 ·exact⟨ob.slots,u.keep b ob q n hb hx⟩
theorem Un.kept (k:∀b u,h.get? b=some u->h'.get? b=some u):Un fs ex H H h h':=
 ⟨λb ob q _ _ _=>k b ob q,λb ob q _ _ _=>⟨ob.slots,k b ob q⟩,λ_ _ _ n _=>n,λb ob q _=>⟨ob,k b ob q⟩,λ_ _ q=>q,λ_ _ _ q=>q,λ_ ps q=>⟨#[],by rw [q];simp⟩⟩
theorem Un.refl:Un fs ex H H h h:=Un.kept λ_ _ q=>q
theorem Un.laid (k:∀b u,h.get? b=some u->h'.get? b=some u)(hp:h.objs.size<=a)(hn:H a=none):Un fs ex H (upd H a o) h h' where
 keep:=λb u q _ _ _=>k b u q
 slot:=λb u q _ _ _=>⟨u.slots,k b u q⟩
 free:=λb u q n _=>by rw [Ze (WT (WH (Ww q) hp))];exact n
 there:=λb u q _=>⟨u,k b u q⟩
 tups:=λb xs q=>by rw [Ze (Zw q hn)];exact q
 frzs:=λb u xs q=>by rw [Ze (Zw q hn)];exact q
 tbls:=λb ps q=>⟨#[],by rw [Ze (Zw q hn),q];simp⟩
theorem Un.write (mu:Mut (H x))(he:e=x\/H e=some (.own x))(k:∀b u,b≠e->h.get? b=some u->h'.get? b=some u)(heo:∃u,h'.get? e=some u):Un fs ex H (upd H x o) h h':=by
 have hx:∀b,H b=none->b≠x:=λb n z=>by subst z;rw [n] at mu;exact mu
 have hb:∀b,H b=none->b≠e:=λb n z=>by
  subst z;rcases he with r|r
  ·exact hx b n r
  ·rw [n] at r;cases r
 have hm:∀b u,H b=some u->¬Mut (some u)->b≠x:=λb u q nm z=>by subst z;rw [q] at mu;exact nm mu
 refine⟨λb u q n _ _=>k b u (hb b n) q,λb u q n _ _=>⟨u.slots,k b u (hb b n) q⟩,λb u q n _=>by rw [Ze (hx b n)];exact n,λb u q _=>?_,
  λb xs q=>by rw [Ze (hm b _ q λz=>z)];exact q,λb u xs q=>by rw [Ze (hm b _ q λz=>z)];exact q,λb ps q=>⟨#[],by rw [Ze (hm b _ q λz=>z),q];simp⟩⟩
 by_cases hbe:b=e
 ·subst hbe;exact heo
 ·exact⟨u,k b u hbe q⟩
end
def trk (h:Heap)(H:Hp):List Addr:=(Wo h.objs.size).filter λa=>(H a).isSome
def LG (h:Heap)(H:Hp):Heap:=PySem.W.hideAll h (trk h H)
theorem RW (h:Heap)(H:Hp):(LG h H).objs.size=h.objs.size:=PySem.W.hideAll_size _ _
theorem LF {h:Heap}{H:Hp}{b:Addr}{o:Obj}(e:h.get? b=some o)(n:H b=none):(LG h H).get? b=some o:=
 PySem.W.hideAll_get _ e λhm=>by
  have q:(H b).isSome=true:=(W0W.mp hm).2
  rw [n] at q;simp at q
theorem ED {h:Heap}{H:Hp}{b:Addr}{o:Obj}(e:(LG h H).get? b=some o):h.get? b=some o/\H b=none:=by
 have e':h.get? b=some o:=PySem.W.of_hideAll (trk h H) e
 refine⟨e',?_⟩
 cases q:H b with
 |none=>rfl
 |some x=>
  have hm:b∈trk h H:=W0W.mpr ⟨List.mem_range.mpr (Ww e'),by simp [q]⟩
  have z:(LG h H).get? b=none:=PySem.W.hideAll_none (trk h H) hm
  rw [z] at e;cases e
def Cv (g h:Heap)(L:Addr):List (Addr×Obj):=(Wo h.objs.size).filterMap λa=>if a=L\/(g.get? a).isSome=true then none else (h.get? a).map λo=>(a,o)
def JL (g h:Heap)(L d:Addr):List (Addr×Obj):=(Cv g h L).filter λp=>decide (p.1≠d)
end L2
namespace L2
open PySem PySem.Spec PyProof.Rows
structure Mod (K:W3) (mg:Str->Option Value) (base:Heap):Prop where
 kin:K.In base
 glob:base.Ns WA mg
 blt:∃mb,base.Ns builtinsNs mb/\∀x:Str,x≠"__name__"->mb x=WG x
 nolimit:base.NoLimit
structure Cx where
 prog:Program
 w:World
 K:W3
 mg:Str->Option Value
 base:Heap
 A:Around
 N:List Str
 s₀:Shared
 H₀:Hp
 env:Env
 outer:List Env
 stack:List Env
 ex:List Addr
 fn:Str->Bool
 calm:Bool
 pn:List (Addr×Obj)
 xe:Value->Shared->Prop
def frs (l:List Env):List Addr:=l.filterMap (·.frame)
abbrev Cx.fs (X:Cx):List Addr:=frs X.outer
def Vis (sc:Scope)(x:Str):Prop:=sc.names.lookup x=some .local\/sc.names.lookup x=some .cell\/sc.names.lookup x=some .free
def Loc (sc:Scope)(x:Str):Prop:=sc.names.lookup x=some .local\/sc.names.lookup x=some .cell
def Z0z (env:Env)(h:Heap)(m:Str->Option Value)(x:Str)(u:Value):Prop:=
 (env.kindOf x=some .local/\m x=some u)\/((env.kindOf x=some .cell\/env.kindOf x=some .free)/\∃c,env.cells.lookup x=some c/\h.IsCell c (some u))
structure Cx.Ok (X:Cx):Prop where
 mod:Mod X.K X.mg X.base
 kind:X.env.scope.kind = .function
 glob:X.env.globals=WA
 blt:X.env.builtins=builtinsNs
 above:X.s₀.heap.objs.size<=X.env.locals
 inj:∀x y c,X.env.cells.lookup x=some c->X.env.cells.lookup y=some c->x=y
 has:∀x,(X.env.kindOf x=some .cell\/X.env.kindOf x=some .free)->∃c,X.env.cells.lookup x=some c
 cab:∀x c,X.fn x=true->X.env.cells.lookup x=some c->X.s₀.heap.objs.size<=c
 hd:X.calm=true->X.A.handled=none
 frames:X.A.frames=some X.stack
 stk:X.stack=X.outer\/(X.stack=X.env :: X.outer/\X.env.frame=some X.env.locals)
 exf:∀b∈X.ex,b≠X.env.locals/\∀x c,X.env.cells.lookup x=some c->c≠b
 bs:∀b o,X.base.get? b=some o->X.s₀.heap.get? b=some o/\X.H₀ b=none
 bsz:X.base.objs.size<=X.s₀.heap.objs.size
 noex:∀b o,X.base.get? b=some o->b∉X.ex
 exfs:∀b∈X.ex,b∉X.fs
 funs:X.s₀.heap.FunFrames X.base X.outer
 frf:∀b∈X.fs,X.H₀ b=none
structure Inv (X:Cx) (pins:List (Addr×Obj)) (σ:List (Option V)) (H:Hp) (s:Shared):Prop where
 ok:X.Ok
 os:s.os=X.s₀.os
 bare:AllBare s.gens
 base:Un X.fs X.ex X.H₀ H X.s₀.heap s.heap
 loc:∃m,s.heap.Ns X.env.locals m/\∀(i:Nat) (x:Str) (v:V),X.N[i]? = some x->σ[i]? = some (some v)->Vis X.env.scope x->∃u,ZC v u/\Z0z X.env s.heap m x u
 cell:∀x c,X.env.cells.lookup x=some c->∃v,s.heap.IsCell c v
 free:H X.env.locals=none
 freeC:∀x c,X.env.cells.lookup x=some c->H c=none
 pin:∀p∈X.pn++pins,s.heap.get? p.1=some p.2/\H p.1=none/\p.1≠X.env.locals/\p.1∉X.fs/\∀v,p.2.data≠.cell v
 hok:HOk X.prog X.w H s.heap
 len:σ.length=X.N.length
section
variable {X:Cx} {pins:List (Addr×Obj)} {σ:List (Option V)} {H H':Hp} {s:Shared} {h':Heap}
theorem Cx.Ok.nofr (ok:X.Ok){b:Addr}{o:Obj}(e:X.base.get? b=some o):b∉X.fs:=λhb=>by
 have:=(ok.funs.mem hb).1
 rw [e] at this;cases this
theorem Inv.bs (I:Inv X pins σ H s):∀b o,X.base.get? b=some o->s.heap.get? b=some o/\H b=none:=λb o e=>
 ⟨I.base.keep b o (I.ok.bs b o e).1 (I.ok.bs b o e).2 (I.ok.nofr e) (I.ok.noex b o e),I.base.free b o (I.ok.bs b o e).1 (I.ok.bs b o e).2 (I.ok.noex b o e)⟩
theorem Inv.bk (I:Inv X pins σ H s):∀b o,X.base.get? b=some o->s.heap.get? b=some o:=λb o e=>(I.bs b o e).1
theorem Inv.mod (I:Inv X pins σ H s):Mod X.K X.mg X.base:=I.ok.mod
theorem Inv.kIn (I:Inv X pins σ H s):X.K.In s.heap:=I.ok.mod.kin.keeps I.bk
theorem Inv.lt (I:Inv X pins σ H s):X.env.locals<s.heap.objs.size:=let ⟨_,hn,_⟩:=I.loc;hn.lt
theorem Inv.sz (I:Inv X pins σ H s):X.s₀.heap.objs.size<=s.heap.objs.size:=V2 I.ok.above (Nat.le_of_lt I.lt)
theorem Inv.nofs (I:Inv X pins σ H s){a:Addr}(h:s.heap.objs.size<=a):a∉X.fs:=λhb=>by
 obtain⟨_,o,ho,_⟩:=I.ok.funs.mem hb
 exact absurd (WH (Ww ho) (V2 I.sz h)) (Vk _)
theorem Inv.cne (I:Inv X pins σ H s):∀x c,X.env.cells.lookup x=some c->c≠X.env.locals:=λx c e z=>by
 obtain⟨v,o,ho,hd⟩:=I.cell x c e
 obtain⟨m,⟨o',es,ep,ho',hd',_⟩,_⟩:=I.loc
 rw [z,ho'] at ho;cases ho;rw [hd'] at hd;cases hd
theorem Inv.funs (I:Inv X pins σ H s):s.heap.FunFrames X.base X.outer:=by
 have all:∀(l:List Env),(∀b∈frs l,b∈X.fs)->X.s₀.heap.FunFrames X.base l->s.heap.FunFrames X.base l:=by
  intro l
  induction l with
  |nil=>intro _ _;trivial
  |cons env r ih=>
   intro hs hl;obtain⟨hk,⟨L,o,hf,hn,ho,hd⟩,hr⟩:=hl
   have hL:L∈X.fs:=hs L (by unfold frs;rw [W0X,hf];exact WC)
   obtain⟨sl,e⟩:=I.base.slot L o ho (I.ok.frf L hL) hL λz=>I.ok.exfs L z hL
   exact⟨hk,⟨L,_,hf,hn,e,hd⟩,ih (λb hb=>hs b (by unfold frs;rw [W0X,hf];exact WD _ hb)) hr⟩
 exact all X.outer (λ_ hb=>hb) I.ok.funs
theorem Inv.stack (I:Inv X pins σ H s):s.heap.FunFrames X.base X.stack:=by
 rcases I.ok.stk with e|⟨e,hf⟩
 ·rw [e];exact I.funs
 ·rw [e]
  obtain⟨m,hn,_⟩:=I.loc
  refine .cons (by rw [I.ok.kind];decide) hf hn ?_ I.funs
  exact Heap.get?_none_of_le (V2 I.ok.bsz I.ok.above)
theorem Inv.stkSub (I:Inv X pins σ H s):∀b∈frs X.stack,b∈X.env.locals :: X.fs:=λb hb=>by
 rcases I.ok.stk with e|⟨e,hf⟩
 ·rw [e] at hb;exact WD _ hb
 ·rw [e] at hb
  unfold frs at hb;rw [W0X,hf] at hb;exact hb
theorem Inv.stkFree (I:Inv X pins σ H s):∀b∈frs X.stack,H b=none:=λb hb=>by
 rcases Wx.mp (I.stkSub b hb) with e|hb
 ·rw [e];exact I.free
 ·obtain⟨_,o,ho,_⟩:=I.ok.funs.mem hb
  exact I.base.free b o ho (I.ok.frf b hb) λz=>I.ok.exfs b z hb
theorem Inv.step {g':Array GenState}{t':Nat}{d':Drawn}{ch:List Addr}(I:Inv X pins σ H s)
  (hch:∀b∈ch,(b∈X.ex\/X.s₀.heap.objs.size<=b)/\b≠X.env.locals/\(∀x c,X.env.cells.lookup x=some c->c≠b)/\∀p∈X.pn++pins,p.1≠b)
  (keep:∀b o,b≠X.env.locals->b∉X.fs->b∉ch->s.heap.get? b=some o->H b=none->h'.get? b=some o)
  (slot:∀b o,b≠X.env.locals->b∈X.fs->b∉ch->s.heap.get? b=some o->H b=none->∃sl,h'.get? b=some { o with slots:=sl }) (free:∀b o,b∉ch->s.heap.get? b=some o->H b=none->H' b=none)
  (there:∀b o,b∉ch->s.heap.get? b=some o->∃o',h'.get? b=some o')
  (tups:∀b xs,H b=some (.tup xs)->H' b=some (.tup xs)) (frzs:∀b o u,H b=some (.frz o u)->H' b=some (.frz o u)) (tbls:∀b ps,H b=some (.tbl ps)->∃more,H' b=some (.tbl (ps++more)))
  (ns:∀m,s.heap.Ns X.env.locals m->h'.Ns X.env.locals m) (hok:HOk X.prog X.w H' h') (hg:AllBare g') :
  Inv X pins σ H' { s with heap:=h',gens:=g',drawn:=d',toks:=t' }:=by
 have neL:∀b o,X.s₀.heap.get? b=some o->b≠X.env.locals:=λb o e=>WT (WH (Ww e) I.ok.above)
 have neC:∀b o,X.s₀.heap.get? b=some o->b∉X.ex->b∉ch:=λb o e hx hb=>by
  rcases (hch b hb).1 with z|z
  ·exact hx z
  ·exact absurd (WH (Ww e) z) (Vk _)
 have cellK:∀x c,X.env.cells.lookup x=some c->∀v,s.heap.IsCell c v->h'.IsCell c v:=λx c e v ⟨o,ho,hd⟩=>by
  have nch:c∉ch:=λz=>(hch c z).2.2.1 x c e rfl
  by_cases hc:c∈X.fs
  ·obtain⟨sl,q⟩:=slot c o (I.cne x c e) hc nch ho (I.freeC x c e)
   exact⟨_,q,hd⟩
  ·exact⟨o,keep c o (I.cne x c e) hc nch ho (I.freeC x c e),hd⟩
 refine⟨I.ok,I.os,hg,⟨λb o e n hb hx=>?_,λb o e n hb hx=>?_,λb o e n hx=>?_,λb o e hx=>?_,λb xs e=>tups b xs (I.base.tups b xs e),λb o xs e=>frzs b o xs (I.base.frzs b o xs e),λb ps e=>?_⟩,?_,λx c e=>?_,?_,λx c e=>?_,λp hp=>?_,hok,I.len⟩
 ·exact keep b o (neL b o e) hb (neC b o e hx) (I.base.keep b o e n hb hx) (I.base.free b o e n hx)
 ·obtain⟨sl,e1⟩:=I.base.slot b o e n hb hx
  obtain⟨sl',e2⟩:=slot b _ (neL b o e) hb (neC b o e hx) e1 (I.base.free b o e n hx)
  exact⟨sl',e2⟩
 ·obtain⟨o',e1⟩:=I.base.there b o e hx
  exact free b o' (neC b o e hx) e1 (I.base.free b o e n hx)
 ·obtain⟨o',e1⟩:=I.base.there b o e hx
  exact there b o' (neC b o e hx) e1
 ·obtain⟨m1,e1⟩:=I.base.tbls b ps e
  obtain⟨m2,e2⟩:=tbls b _ e1
  exact⟨m1++m2,by rw [e2,Array.append_assoc]⟩
 ·obtain⟨m,hn,hl⟩:=I.loc
  refine⟨m,ns m hn,λi x v e1 e2 e3=>?_⟩
  obtain⟨u,r,l⟩:=hl i x v e1 e2 e3
  refine⟨u,r,?_⟩
  rcases l with l|⟨k,c,e,z⟩
  ·exact .inl l
  ·exact .inr ⟨k,c,e,cellK x c e _ z⟩
 ·obtain⟨v,z⟩:=I.cell x c e
  exact⟨v,cellK x c e v z⟩
 ·obtain⟨m,⟨o,_,_,ho,_⟩,_⟩:=I.loc
  exact free _ o (λz=>(hch _ z).2.1 rfl) ho I.free
 ·obtain⟨v,o,ho,hd⟩:=I.cell x c e
  exact free c o (λz=>(hch c z).2.2.1 x c e rfl) ho (I.freeC x c e)
 ·obtain⟨e,n,ne,nf,d⟩:=I.pin p hp
  have nch:p.1∉ch:=λz=>(hch p.1 z).2.2.2 p hp rfl
  exact⟨keep p.1 p.2 ne nf nch e n,free p.1 p.2 nch e n,ne,nf,d⟩
theorem Inv.un {t':Nat}(I:Inv X pins σ H s)(u:Un X.fs [] H H' s.heap h')(hok:HOk X.prog X.w H' h'):Inv X pins σ H' { s with heap:=h',toks:=t' }:=by
 obtain⟨m,⟨o,es,ep,ho,r⟩,_⟩:=id I.loc
 obtain⟨sl,hL⟩:=u.any ho I.free (by simp)
 exact I.step (g':=s.gens) (d':=s.drawn) (ch:=[]) (λ_ z=>nomatch z) (λb o _ hb _ e n=>u.keep b o e n hb (by simp)) (λb o _ hb _ e n=>u.slot b o e n hb (by simp)) (λb o _ e n=>u.free b o e n (by simp)) (λb o _ e=>u.there b o e (by simp)) u.tups u.frzs u.tbls (λm' hm=>by
  obtain⟨o',es',ep',ho',r'⟩:=hm
  rw [ho] at ho';cases ho'
  exact⟨_,es',ep',hL,r'⟩) hok I.bare
theorem Inv.call {g':Array GenState}{t':Nat}{d':Drawn}{ch:List Addr}(I:Inv X pins σ H s)(u:Un (frs X.stack) ch H H' s.heap h')(hok:HOk X.prog X.w H' h')(hg:AllBare g')
  (hch:∀b∈ch,(b∈X.ex\/X.s₀.heap.objs.size<=b)/\b≠X.env.locals/\(∀x c,X.env.cells.lookup x=some c->c≠b)/\∀p∈X.pn++pins,p.1≠b) :
  Inv X pins σ H' { s with heap:=h',gens:=g',drawn:=d',toks:=t' }:=by
 obtain⟨m,⟨o,es,ep,ho,r⟩,_⟩:=id I.loc
 obtain⟨sl,hL⟩:=u.any ho I.free λz=>(hch _ z).2.1 rfl
 exact I.step (ch:=ch) hch (λb o hL hb hc e n=>u.keep b o e n (λz=>(Wx.mp (I.stkSub b z)).elim hL hb) hc) (λb o _ _ hc e n=>u.any e n hc) (λb o hc e n=>u.free b o e n hc) (λb o hc e=>u.there b o e hc) u.tups u.frzs u.tbls (λm' hm=>by
  obtain⟨o',es',ep',ho',r'⟩:=hm
  rw [ho] at ho';cases ho'
  exact⟨_,es',ep',hL,r'⟩) hok hg
theorem Inv.turned {t':Nat}{it:Addr}(I:Inv X pins σ H s)(k:∀b o,b≠it->s.heap.get? b=some o->h'.get? b=some o)(hn:H it=none)(hL:it≠X.env.locals)
  (h1:it∈X.ex\/X.s₀.heap.objs.size<=it) (h2:∀x c,X.env.cells.lookup x=some c->c≠it) (h3:∀p∈X.pn++pins,p.1≠it):Inv X pins σ H { s with heap:=h',toks:=t' }:=by
 have nit:∀b u,H b=some u->b≠it:=λb u e z=>by rw [z,hn] at e;cases e
 refine I.step (g':=s.gens) (d':=s.drawn) (ch:=[it]) (λb hb=>?_) (λb o _ _ hc e _=>k b o (λz=>hc (by simp [z])) e) (λb o _ _ hc e _=>⟨o.slots,k b o (λz=>hc (by simp [z])) e⟩) (λ_ _ _ _ n=>n)
  (λb o hc e=>⟨o,k b o (λz=>hc (by simp [z])) e⟩) (λ_ _ e=>e) (λ_ _ _ e=>e) (λb ps e=>⟨#[],by rw [e];simp⟩) (λm hm=>?_) (λb u e=>?_) I.bare
 ·have e:b=it:=by simpa using hb
  subst e;exact⟨h1,hL,h2,h3⟩
 ·obtain⟨o,es,ep,ho,r⟩:=hm
  exact⟨o,es,ep,k _ o (Ne.symm hL) ho,r⟩
 ·refine (I.hok b u e).stay (λc v hc q=>k c v ?_ q) (λ_ q=>q) λ_ _ q=>q
  rcases hc with z|z
  ·rw [z];exact nit b u e
  ·exact nit c _ z
theorem Inv.tok (I:Inv X pins σ H s)(t:Nat):Inv X pins σ H { s with toks:=t }:=I.un (h':=s.heap) (t':=t) Un.refl I.hok
theorem Inv.kept {t':Nat}(I:Inv X pins σ H s)(k:∀b u,s.heap.get? b=some u->h'.get? b=some u):Inv X pins σ H { s with heap:=h',toks:=t' }:=I.un (Un.kept k) (I.hok.kept k)
theorem Inv.laid {a:Addr}{o:HO}{t':Nat}(I:Inv X pins σ H s)(k:∀b u,s.heap.get? b=some u->h'.get? b=some u)(hp:s.heap.objs.size<=a)(new:Zz X.prog X.w (upd H a o) h' a o) :
  Inv X pins σ (upd H a o) { s with heap:=h',toks:=t' }:=I.un (Un.laid k hp (I.hok.fresh hp)) (I.hok.laid k hp new)
theorem Inv.write {x e:Addr}{o:HO}{t':Nat}(I:Inv X pins σ H s)(mu:Mut (H x))(he:e=x\/H e=some (.own x))(k:∀b u,b≠e->s.heap.get? b=some u->h'.get? b=some u)(heo:∃u,h'.get? e=some u)
  (new:Zz X.prog X.w (upd H x o) h' x o):Inv X pins σ (upd H x o) { s with heap:=h',toks:=t' }:=I.un (Un.write mu he k heo) (I.hok.write mu he k heo new)
theorem Inv.weak {σ':List (Option V)}(I:Inv X pins σ H s)(hl:σ'.length=σ.length)(w:∀(i:Nat) v,σ'[i]? = some (some v)->σ[i]? = some (some v)):Inv X pins σ' H s:=
 ⟨I.ok,I.os,I.bare,I.base,let ⟨m,hn,hl'⟩:=I.loc;⟨m,hn,λi x v e1 e2 e3=>hl' i x v e1 (w i v e2) e3⟩,I.cell,I.free,I.freeC,I.pin,I.hok,hl.trans I.len⟩
theorem Inv.pins_of {pins':List (Addr×Obj)}(I:Inv X pins σ H s)(h:∀p∈pins',s.heap.get? p.1=some p.2/\H p.1=none/\p.1≠X.env.locals/\p.1∉X.fs/\∀v,p.2.data≠.cell v):Inv X pins' σ H s:=
 ⟨I.ok,I.os,I.bare,I.base,I.loc,I.cell,I.free,I.freeC,λp hp=>(List.mem_append.mp hp).elim (λz=>I.pin p (W0N _ z)) (h p),I.hok,I.len⟩
theorem M0 {N:List Str}(hN:N.Nodup){i j:Nat}{x:Str}(a:N[i]? = some x)(b:N[j]? = some x):i=j:=by
 obtain⟨h1,e1⟩:=Wi.mp a
 obtain⟨h2,e2⟩:=Wi.mp b
 exact (List.getElem_inj hN).mp (e1.trans e2.symm)
theorem GC {M:Model}{A:Around}{E:Value->Shared->Prop}{i:Nat}{x:Str}{v:V}{u:Value}{Q:Unit->Shared->Prop}(I:Inv X pins σ H s)(hN:X.N.Nodup)(hi:X.N[i]? = some x)(hx:Loc X.env.scope x)(r:ZC v u)
  (h:∀s',Inv X pins (σ.set i (some v)) H s'->(∃a,VM a s.heap s'.heap/\(a=X.env.locals\/X.env.cells.lookup x=some a))->Q () s') (hf:X.fn x=true\/X.env.scope.names.lookup x=some .local:=by first|exact .inl rfl|exact .inr rfl|assumption):wpAny M A (storeName X.env x u) Q E s:=by
 obtain⟨m,hn,hl⟩:=id I.loc
 have hcls:(X.env.scope.kind == .class||(X.env.scope.kind == .module&&X.env.locals != X.env.globals))=false:=by rw [I.ok.kind];rfl
 have hiσ:i<σ.length:=by rw [I.len];exact (Wi.mp hi).1
 have cne:=I.cne
 have tracked:∀{a:Addr} {h':Heap},(∃o,s.heap.get? a=some o/\H a=none)->VM a s.heap h'->HOk X.prog X.w H h':=λ{a h'} ha hs b ob e=>by
  obtain⟨_,_,hfree⟩:=ha
  refine (I.hok b ob e).stay (λc w' hc q=>(hs.2 c ?_).trans q) (λ_ q=>q) λ_ _ q=>q
  rintro rfl
  rcases hc with rfl|hc
  ·rw [hfree] at e;cases e
  ·rw [hfree] at hc;cases hc
 rcases hx with hk|hk
 ·refine wpAny_storeName_local hk hn (λh' hn' hs=>?_) hcls
  obtain⟨oL,_,_,hoL,_⟩:=id hn
  refine h _ ⟨I.ok,I.os,I.bare,⟨λb o e n hb hx=>?_,λb o e n hb hx=>?_,I.base.free,λb o e hx=>?_,I.base.tups,I.base.frzs,I.base.tbls⟩,⟨_,hn',λj y v' e1 e2 e3=>?_⟩,λy c e=>?_,I.free,I.freeC,λp hp=>?_,tracked ⟨oL,hoL,I.free⟩ hs,by simpa using I.len⟩ ⟨_,hs,.inl rfl⟩
  ·exact (hs.2 b (WT (WH (Ww e) I.ok.above))).trans (I.base.keep b o e n hb hx)
  ·obtain⟨sl,e1⟩:=I.base.slot b o e n hb hx
   exact⟨sl,(hs.2 b (WT (WH (Ww e) I.ok.above))).trans e1⟩
  ·obtain⟨o',e1⟩:=I.base.there b o e hx
   exact⟨o',(hs.2 b (WT (WH (Ww e) I.ok.above))).trans e1⟩
  ·by_cases hj:j=i
   ·subst hj
    rw [hi] at e1;cases e1
    rw [WQ hiσ] at e2;cases e2;exact⟨u,r,.inl ⟨hk,by simp⟩⟩
   ·rw [WL (Ne.symm hj)] at e2
    obtain⟨u',r',q⟩:=hl j y v' e1 e2 e3
    refine⟨u',r',?_⟩
    rcases q with ⟨k,e⟩|⟨k,c,e,z⟩
    ·refine .inl ⟨k,?_⟩
     have:y≠x:=λe=>hj (M0 hN e1 (e ▸ hi))
     simp [this,e]
    ·exact .inr ⟨k,c,e,z.sameBut hs (cne y c e)⟩
  ·obtain⟨w',z⟩:=I.cell y c e
   exact⟨w',z.sameBut hs (cne y c e)⟩
  ·obtain⟨e,n,ne,nf,d⟩:=I.pin p hp
   exact⟨(hs.2 p.1 ne).trans e,n,ne,nf,d⟩
 ·have hfn:X.fn x=true:=by
   rcases hf with z|z
   ·exact z
   ·rw [z] at hk;cases hk
  obtain⟨c,hc⟩:=I.ok.has x (.inl hk)
  obtain⟨w',z⟩:=I.cell x c hc
  refine wpAny_storeName_cell I.ok.kind hk hc z (λh' hc' hs=>?_)
  obtain⟨oc,hoc,hocd⟩:=id z
  refine h { s with heap:=h' } ⟨I.ok,I.os,I.bare,⟨λb o e n hb hx=>?_,λb o e n hb hx=>?_,I.base.free,λb o e hx=>?_,I.base.tups,I.base.frzs,I.base.tbls⟩,⟨m,hn.sameBut hs (Ne.symm (cne x c hc)),λj y v' e1 e2 e3=>?_⟩,λy c' e=>?_,I.free,I.freeC,λp hp=>?_,tracked ⟨oc,hoc,I.freeC x c hc⟩ hs,by simpa using I.len⟩ ⟨c,hs,.inr hc⟩
  ·exact (hs.2 b (WT (WH (Ww e) (I.ok.cab x c hfn hc)))).trans (I.base.keep b o e n hb hx)
  ·obtain⟨sl,e1⟩:=I.base.slot b o e n hb hx
   exact⟨sl,(hs.2 b (WT (WH (Ww e) (I.ok.cab x c hfn hc)))).trans e1⟩
  ·obtain⟨o',e1⟩:=I.base.there b o e hx
   exact⟨o',(hs.2 b (WT (WH (Ww e) (I.ok.cab x c hfn hc)))).trans e1⟩
  ·by_cases hj:j=i
   ·subst hj
    rw [hi] at e1;cases e1
    rw [WQ hiσ] at e2;cases e2;exact⟨u,r,.inr ⟨.inl hk,c,hc,hc'⟩⟩
   ·rw [WL (Ne.symm hj)] at e2
    obtain⟨u',r',q⟩:=hl j y v' e1 e2 e3
    refine⟨u',r',?_⟩
    rcases q with q|⟨k,c',e,z'⟩
    ·exact .inl q
    ·refine .inr ⟨k,c',e,z'.sameBut hs ?_⟩
     rintro rfl
     exact hj (M0 hN e1 (I.ok.inj _ _ _ e hc ▸ hi))
  ·by_cases hcc:c'=c
   ·subst hcc;exact⟨_,hc'⟩
   ·obtain⟨w2,z2⟩:=I.cell y c' e
    exact⟨w2,z2.sameBut hs hcc⟩
  ·obtain⟨e,n,ne,nf,d⟩:=I.pin p hp
   refine⟨(hs.2 p.1 ?_).trans e,n,ne,nf,d⟩
   intro q;rw [q,hoc] at e;have q':oc=p.2:=WS e
   exact d w' (by rw [<-q'];exact hocd)
theorem NK {M:Model}{A:Around}{E:Value->Shared->Prop}{i:Nat}{x:Str}{v:V}{u:Value}{Q:Unit->Shared->Prop}(I:Inv X pins σ H s)(hN:X.N.Nodup)(hi:X.N[i]? = some x)(hx:Loc X.env.scope x)(r:ZC v u)
  (h:∀s',Inv X pins (σ.set i (some v)) H s'->Q () s') (hf:X.fn x=true\/X.env.scope.names.lookup x=some .local:=by first|exact .inl rfl|exact .inr rfl|assumption):wpAny M A (storeName X.env x u) Q E s:=
 GC I hN hi hx r (λs' I' _=>h s' I') hf
theorem Inv.call' {s':Shared}{ch:List Addr}(I:Inv X pins σ H s)(ho:s'.os=s.os)(u:Un (frs X.stack) ch H H' s.heap s'.heap)(hok:HOk X.prog X.w H' s'.heap)(hg:AllBare s'.gens)
  (hch:∀b∈ch,(b∈X.ex\/X.s₀.heap.objs.size<=b)/\b≠X.env.locals/\(∀x c,X.env.cells.lookup x=some c->c≠b)/\∀p∈X.pn++pins,p.1≠b):Inv X pins σ H' s':=by
 obtain⟨h',g',d',t',o'⟩:=s'
 have e:o'=s.os:=ho
 subst e;exact I.call (g':=g') (t':=t') (d':=d') u hok hg hch
end
abbrev XK:=Value->Option Addr->Hp->Prop
abbrev St:=List (Option V)
abbrev VK:=V->Hp->Prop
abbrev TE:=St->Hp->VK->Prop
abbrev TT:=St->Hp->(Bool->Hp->Prop)->Prop
abbrev TA:=St->Hp->(List V->Hp->Prop)->Prop
structure Ends where
 nx:St->Hp->Prop
 rt:VK
 bk:St->Hp->Prop:=λ_ _=>False
 ct:St->Hp->Prop:=λ_ _=>False
abbrev TS:=Ends->St->Hp->Prop
def EP (X:Cx)(pins:List (Addr×Obj))(σ:St)(Q:VK)(u:Value)(s':Shared):Prop:=∃v H',Inv X pins σ H' s'/\ZC v u/\Q v H'
def TP (X:Cx)(pins:List (Addr×Obj))(σ:St)(Q:Bool->Hp->Prop)(b:Bool)(s':Shared):Prop:=∃H',Inv X pins σ H' s'/\Q b H'
def AP (X:Cx)(pins:List (Addr×Obj))(σ:St)(Q:List V->Hp->Prop)(us:List Value)(s':Shared):Prop:=∃vs H',Inv X pins σ H' s'/\Y2 vs us/\Q vs H'
def SP (X:Cx)(pins:List (Addr×Obj))(D:Ends)(f:Flow)(s':Shared):Prop:=
 match f with
 | .next=>∃σ' H',Inv X pins σ' H' s'/\D.nx σ' H'
 | .brk=>∃σ' H',Inv X pins σ' H' s'/\D.bk σ' H'
 | .cont=>∃σ' H',Inv X pins σ' H' s'/\D.ct σ' H'
 | .ret u=>∃v σ' H',Inv X pins σ' H' s'/\ZC v u/\D.rt v H'
def PE (X:Cx)(e:Expr)(t:TE):Prop:=
 ∀(pins:List (Addr×Obj)) (s:Shared) (σ:St) (H:Hp) (Q:VK),Inv X pins σ H s->t σ H Q->wpAny (model X.prog X.w) X.A (eval e X.env) (EP X pins σ Q) X.xe s
def PT (X:Cx)(e:Expr)(t:TT):Prop:=
 ∀(pins:List (Addr×Obj)) (s:Shared) (σ:St) (H:Hp) (Q:Bool->Hp->Prop),Inv X pins σ H s->t σ H Q->wpAny (model X.prog X.w) X.A (isTrue e X.env (eval e X.env)) (TP X pins σ Q) X.xe s
def PW (X:Cx)(e:Expr)(t:TT):Prop:=
 ∀(whole:Sem Value) (pins:List (Addr×Obj)) (s:Shared) (σ:St) (H:Hp) (Q:Bool->Hp->Prop),Inv X pins σ H s->t σ H Q->wpAny (model X.prog X.w) X.A (isTrue e X.env whole) (TP X pins σ Q) X.xe s
theorem PW.pt {X:Cx}{e:Expr}{t:TT}(h:PW X e t):PT X e t:=h _
def PA (X:Cx)(es:List Expr)(t:TA):Prop:=
 ∀(pos:Pos) (pins:List (Addr×Obj)) (s:Shared) (σ:St) (H:Hp) (Q:List V->Hp->Prop),Inv X pins σ H s->t σ H Q->wpAny (model X.prog X.w) X.A (spliced (backTo pos (Ws es X.env))) (AP X pins σ Q) X.xe s
def PS (X:Cx)(st:Stmt)(t:TS):Prop:=
 ∀(pins:List (Addr×Obj)) (s:Shared) (σ:St) (H:Hp) (D:Ends),Inv X pins σ H s->t D σ H->wpAny (model X.prog X.w) X.A (exec st X.env) (SP X pins D) X.xe s
def PSs (X:Cx)(st:List Stmt)(t:TS):Prop:=
 ∀(pins:List (Addr×Obj)) (s:Shared) (σ:St) (H:Hp) (D:Ends),Inv X pins σ H s->t D σ H->wpAny (model X.prog X.w) X.A (execs st X.env) (SP X pins D) X.xe s
theorem thn {α:Type}{t:Sem α}{Q Q':α->Shared->Prop}{M:Model}{A:Around}{E:Value->Shared->Prop}{s:Shared}(h:wpAny M A t Q E s)(hQ:∀a s,Q a s->Q' a s):wpAny M A t Q' E s:=VF h hQ λ_ _ x=>x
end L2
namespace L2
open PySem PySem.Spec PyProof.Rows
section
variable {X:Cx}
def OV (i:Nat):TE:=λσ H Q=>∃v,σ[i]? = some (some v)/\Q v H
def tC (v:V):TE:=λ_ H Q=>Q v H
theorem HC {i:Nat}{x:Str}{pos:Pos}(hN:X.N[i]? = some x)(hv:Vis X.env.scope x)(hd:(x == ("__debug__" : Str))=false:=by decide)(hcd:(x == ("__classdict__" : Str))=false:=by decide):PE X (.Name x pos) (OV i):=by
 intro pins s σ H Q I h;obtain⟨v,e,h⟩:=h
 obtain⟨m,hn,hl⟩:=I.loc
 obtain⟨u,r,l⟩:=hl i x v hN e hv
 have fin:EP X pins σ Q u s:=⟨v,H,I,r,h⟩
 rcases l with ⟨hk,hm⟩|⟨hk,c,hc,hcell⟩
 ·exact wpAny_Name (wpAny_loadName_local I.ok.kind hk hn hm fin) hd
 ·rcases hk with hk|hk
  ·exact wpAny_Name (wpAny_loadName_cell I.ok.kind hk hc hcell fin) hd
  ·exact wpAny_Name (wpAny_loadName_free I.ok.kind hk hc hcell fin hcd) hd
theorem Fa {i j pos}:PE X (.Constant (.int i) j pos) (tC (.int i)):=λ_ _ _ H _ I h=>wpAny_Constant_int ⟨.int i,H,I.tok _,⟨_,rfl⟩,h⟩
theorem O3 {b j pos}:PE X (.Constant (.bool b) j pos) (tC (.bl b)):=λ_ _ _ H _ I h=>Constant_bool ⟨.bl b,H,I,rfl,h⟩
theorem HF {j pos}:PE X (.Constant .none j pos) (tC .non):=λ_ _ _ H _ I h=>Constant_none ⟨.non,H,I,rfl,h⟩
theorem HD {x j pos}:PE X (.Constant (.str x) j pos) (tC (.str x)):=λ_ _ _ H _ I h=>Calls.Constant_str ⟨.str x,H,I.tok _,⟨_,rfl⟩,h⟩
def Gl (X:Cx)(x:Str):Prop:=X.env.kindOf x=some .globalImplicit
theorem Nj {E:Value->Shared->Prop}{pins:List (Addr×Obj)}{s:Shared}{σ:St}{H:Hp}{x:Str}{u:Value}{pos:Pos}{Q:Value->Shared->Prop}(I:Inv X pins σ H s)(hg:Gl X x)(hm:X.mg x=some u)(h:Q u s)
  (hd:(x == ("__debug__" : Str))=false:=by decide):wpAny (model X.prog X.w) X.A (eval (.Name x pos) X.env) Q E s:=
 W15 I.ok.kind hg (Calls.loadGlobal_global (by rw [I.ok.glob];exact I.mod.glob.keeps I.bk) hm h) hd
theorem UG {E:Value->Shared->Prop}{pins:List (Addr×Obj)}{s:Shared}{σ:St}{H:Hp}{x:Str}{u:Value}{pos:Pos}{Q:Value->Shared->Prop}(I:Inv X pins σ H s)(hg:Gl X x)(hm:X.mg x=none)(hv:WG x=some u)(h:Q u s)
  (hn:x≠"__name__":=by decide) (hd:(x == ("__debug__" : Str))=false:=by decide):wpAny (model X.prog X.w) X.A (eval (.Name x pos) X.env) Q E s:=by
 obtain⟨mb,h1,h2⟩:=I.mod.blt
 exact W15 I.ok.kind hg (Calls.loadGlobal_builtin (by rw [I.ok.glob];exact I.mod.glob.keeps I.bk) hm (by rw [I.ok.blt];exact h1.keeps I.bk) ((h2 x hn).trans hv) h) hd
theorem Ev {x:Str}{v:V}{u:Value}{pos:Pos}(hg:Gl X x)(hm:X.mg x=some u)(r:ZC v u)(hd:(x == ("__debug__" : Str))=false:=by decide):PE X (.Name x pos) (tC v):=
 λ_ _ _ H _ I h=>Nj I hg hm ⟨v,H,I,r,h⟩ hd
theorem N0 {x:Str}{v:V}{u:Value}{pos:Pos}(hg:Gl X x)(hm:X.mg x=none)(hv:WG x=some u)(r:ZC v u)(hn:x≠"__name__":=by decide)(hd:(x == ("__debug__" : Str))=false:=by decide):PE X (.Name x pos) (tC v):=
 λ_ _ _ H _ I h=>UG I hg hm hv ⟨v,H,I,r,h⟩ hn hd
variable {a b:Expr} {ta tb:TE} {pos:Pos}
variable {tA tB':TT} {JL:List Expr}
def tOr (t u:TT):TT:=λσ H Q=>t σ H λc H1=>if c=true then Q true H1 else u σ H1 Q
def XD (t:TT):TT:=λσ H Q=>t σ H λc H1=>Q (!c) H1
theorem Ho (ha:PT X a tA):PW X (.BoolOp .Or [a] pos) tA:=by
 intro wh pins s σ H Q I h;refine isTrue_or (thn (ha pins s σ H Q I h) λc s1 e=>?_)
 cases c with
 |false=>exact isTrue_or_nil e
 |true=>exact e
theorem DX (ha:PT X a tA)(hb:PW X (.BoolOp .Or (b :: JL) pos) tB'):PW X (.BoolOp .Or (a :: b :: JL) pos) (tOr tA tB'):=by
 intro wh pins s σ H Q I h;refine isTrue_or (thn (ha pins s σ H _ I h) λc s1 ⟨H1,I1,q1⟩=>?_)
 cases c with
 |true=>exact⟨H1,I1,q1⟩
 |false=>exact hb wh pins s1 σ H1 Q I1 q1
theorem Hs (ha:PT X a tA):PT X (.UnaryOp .Not a pos) (XD tA):=by
 intro pins s σ H Q I h;exact isTrue_not (ha pins s σ H (λc H1=>Q (!c) H1) I h)
theorem HE {op}{t:TE}(h:PE X a t):PE X (.BoolOp op [a] pos) t:=λpins s σ H Q I hw=>BoolOp_one (h pins s σ H Q I hw)
end
end L2
namespace L2
open PySem PySem.Spec PyProof.Rows
def SqL (K:W3)(H:Hp)(a:Addr)(xs:List V):Prop:=
 Rd H a (.lst xs)\/
  ∃(o:Obj) (its:Array Value) (n:Nat),K.lookup a=some o/\o.cls = .type "list"/\o.dict=none/\o.data = .seq its n/\its.size<=Wc/\Y2 xs its.toList
def SqT (K:W3)(H:Hp)(a:Addr)(xs:List V):Prop:=
 Rd H a (.tup xs)\/
  ∃(o:Obj) (its:Array Value) (n:Nat),K.lookup a=some o/\o.cls = .type "tuple"/\o.data = .seq its n/\its.size<=Wc/\Y2 xs its.toList
def Z0x:Value->Option V
 | .none=>some .non
 | .bool b=>some (.bl b)
 | .int i _=>some (.int i)
 | .str x _=>some (.str x)
 | .bytes b _=>some (.byt b)
 | .float b _=>some (.flt b)
 | .ref a=>some (.ref a)
 | .type n=>some (.ty n)
 |_=>none
theorem ZC.abs {x:V}{u:Value}(r:ZC x u):Z0x u=some x:=by
 cases x with
 |non=>cases r;rfl
 |bl _=>cases r;rfl
 |int _=>obtain⟨t,rfl⟩:=r;rfl
 |str _=>obtain⟨t,rfl⟩:=r;rfl
 |byt _=>obtain⟨t,rfl⟩:=r;rfl
 |flt _=>obtain⟨t,rfl⟩:=r;rfl
 |ref _=>cases r;rfl
 |ty _=>cases r;rfl
theorem ZC.inj {x y:V}{u:Value}(r:ZC x u)(q:ZC y u):x=y:=WS (r.abs.symm.trans q.abs)
theorem Y2.inj:∀{xs ys:List V} {us:List Value},Y2 xs us->Y2 ys us->xs=ys
 |_,_,_,.nil,.nil=>rfl
 |_,_,_,.cons r t,.cons r' t'=>by rw [r.inj r',Y2.inj t t']
section
variable {X:Cx} {pins:List (Addr×Obj)} {σ:St} {H:Hp} {s:Shared} {a:Addr} {xs ys:List V}
theorem SqL.of {K:W3}(h:H a=some (.lst xs)):SqL K H a xs:=.inl (.inl h)
theorem SqT.of {K:W3}(h:H a=some (.tup xs)):SqT K H a xs:=.inl (.inl h)
theorem Inv.list (I:Inv X pins σ H s)(h:SqL X.K H a xs):∃its:List Value,Y2 xs its/\PlainL s.heap a its.toArray/\xs.length<=Wc:=by
 rcases h with h|⟨o,its,n,hk,hc,hd,hs,hz,r⟩
 ·obtain⟨z,its,n,r,e⟩:=h.ok I.hok
  exact⟨its,r,⟨_,n,e,rfl,rfl,rfl⟩,z⟩
 ·refine⟨its.toList,r,⟨o,n,I.kIn a o hk,hc,hd,by simpa using hs⟩,?_⟩
  have e:=r.length
  simp only [VW] at e
  omega
theorem Inv.tuple (I:Inv X pins σ H s)(h:SqT X.K H a xs):∃its:List Value,Y2 xs its/\IsTup s.heap a its.toArray/\xs.length<=Wc:=by
 rcases h with h|⟨o,its,n,hk,hc,hs,hz,r⟩
 ·obtain⟨z,its,r,p⟩:=h.ok I.hok
  exact⟨its,r,p.1,z⟩
 ·refine⟨its.toList,r,⟨o,I.kIn a o hk,hc,n,by simpa using hs⟩,?_⟩
  have e:=r.length
  simp only [VW] at e
  omega
theorem Inv.list_inj (I:Inv X pins σ H s)(h:SqL X.K H a xs)(h':SqL X.K H a ys):xs=ys:=by
 obtain⟨its,r,⟨o,n,e,_,_,d⟩,_⟩:=I.list h
 obtain⟨its',r',⟨o',n',e',_,_,d'⟩,_⟩:=I.list h'
 rw [e] at e';cases e'
 rw [d] at d'
 injection d' with d1 _
 have:its=its':=by simpa using congrArg Array.toList d1
 subst this;exact r.inj r'
theorem Inv.tuple_inj (I:Inv X pins σ H s)(h:SqT X.K H a xs)(h':SqT X.K H a ys):xs=ys:=by
 obtain⟨its,r,⟨o,e,_,n,d⟩,_⟩:=I.tuple h
 obtain⟨its',r',⟨o',e',_,n',d'⟩,_⟩:=I.tuple h'
 rw [e] at e';cases e'
 rw [d] at d'
 injection d' with d1 _
 have:its=its':=by simpa using congrArg Array.toList d1
 subst this;exact r.inj r'
end
abbrev Cx.wish (X:Cx)(E:Value->Shared->Prop):Cx:={ X with xe:=E }
abbrev Cx.nox (X:Cx):Cx:=X.wish λ_ _=>False
theorem Cx.Ok.wish {X:Cx}(ok:X.Ok)(E:Value->Shared->Prop):(X.wish E).Ok:=
 ⟨ok.mod,ok.kind,ok.glob,ok.blt,ok.above,ok.inj,ok.has,ok.cab,ok.hd,ok.frames,ok.stk,ok.exf,ok.bs,ok.bsz,ok.noex,ok.exfs,ok.funs,ok.frf⟩
theorem Cx.Ok.unwish {X:Cx}{E:Value->Shared->Prop}(ok:(X.wish E).Ok):X.Ok:=
 ⟨ok.mod,ok.kind,ok.glob,ok.blt,ok.above,ok.inj,ok.has,ok.cab,ok.hd,ok.frames,ok.stk,ok.exf,ok.bs,ok.bsz,ok.noex,ok.exfs,ok.funs,ok.frf⟩
section
variable {X:Cx} {pins:List (Addr×Obj)} {σ:St} {H:Hp} {s:Shared} {E:Value->Shared->Prop}
theorem Inv.wish (I:Inv X pins σ H s)(E:Value->Shared->Prop):Inv (X.wish E) pins σ H s:=⟨I.ok.wish E,I.os,I.bare,I.base,I.loc,I.cell,I.free,I.freeC,I.pin,I.hok,I.len⟩
theorem Inv.unwish (I:Inv (X.wish E) pins σ H s):Inv X pins σ H s:=⟨I.ok.unwish,I.os,I.bare,I.base,I.loc,I.cell,I.free,I.freeC,I.pin,I.hok,I.len⟩
theorem SP.unwish {D:Ends}{f:Flow}{s':Shared}(h:SP (X.wish E) pins D f s'):SP X pins D f s':=by
 cases f with
 |next=>obtain⟨σ',H',I,q⟩:=h;exact⟨σ',H',I.unwish,q⟩
 |brk=>obtain⟨σ',H',I,q⟩:=h;exact⟨σ',H',I.unwish,q⟩
 |cont=>obtain⟨σ',H',I,q⟩:=h;exact⟨σ',H',I.unwish,q⟩
 |ret u=>obtain⟨v,σ',H',I,r,q⟩:=h;exact⟨v,σ',H',I.unwish,r,q⟩
theorem PSs.nox {st:List Stmt}{t:TS}(h:PSs X.nox st t):PSs X st t:=λpins s σ H D I hw=>
 VF (h pins s σ H D (I.wish _) hw) (λ_ _ q=>q.unwish) λ_ _ z=>False.elim z
end
section
variable {X:Cx} {st:Stmt} {JL:List Stmt} {t u:TS} {e:Expr} {te:TE} {pos:Pos}
def Ds:TS:=λD σ H=>D.nx σ H
def XB (t u:TS):TS:=λD σ H=>t { D with nx:=u D } σ H
theorem Ej:PSs X [] Ds:=λ_ _ σ H _ I h=>wpAny_execs_nil ⟨σ,H,I,h⟩
theorem La (h1:PS X st t)(h2:PSs X JL u):PSs X (st :: JL) (XB t u):=by
 intro pins s σ H D I h;refine wpAny_execs_cons (thn (h1 pins s σ H { D with nx:=u D } I h) λf s1 q=>?_)
 cases f with
 |next=>
  obtain⟨σ',H',I',q⟩:=q
  exact h2 pins s1 σ' H' D I' q
 |ret v=>exact q
 |brk=>exact q
 |cont=>exact q
theorem Ei (h1:PS X st t):PSs X [st] t:=by
 intro pins s σ H D I h;refine wpAny_execs_cons (thn (h1 pins s σ H D I h) λf s1 q=>?_)
 cases f with
 |next=>exact wpAny_execs_nil q
 |ret v=>exact q
 |brk=>exact q
 |cont=>exact q
theorem Inv.quiet {pins:List (Addr×Obj)}{σ:St}{H:Hp}{s:Shared}(I:Inv X pins σ H s):interactive X.env=false:=by simp [interactive,I.ok.kind]
def Dt (te:TE):TS:=λD σ H=>te σ H λ_ H1=>D.nx σ H1
theorem El (he:PE X e te)(hs:swapsWith e none pos.line X.env=pure false:=by rfl):PS X (.Expr e pos) (Dt te):=by
 intro pins s σ H D I h;exact wpAny_Expr_any (thn (he pins s σ H _ I h) λv s1 ⟨x,H1,I1,r1,q1⟩=>⟨σ,H1,I1,q1⟩) I.quiet hs
def XC (te:TE):TS:=λD σ H=>te σ H D.rt
theorem Hu (he:PE X e te):PS X (.Return (some e) pos) (XC te):=by
 intro pins s σ H D I h;exact wpAny_Return_some (thn (he pins s σ H _ I h) λv s1 ⟨x,H1,I1,r1,q1⟩=>⟨x,σ,H1,I1,r1,q1⟩)
def XF (c:TT)(t u:TS):TS:=λD σ H=>c σ H λb H1=>if b=true then t D σ H1 else u D σ H1
theorem DY {c:Expr}{a b:List Stmt}{tc:TT}(hc:PT X c tc)(ha:PSs X a t)(hb:PSs X b u):PS X (.If c a b pos) (XF tc t u):=by
 intro pins s σ H D I h;refine wpAny_If (thn (hc pins s σ H _ I h) λd s1 ⟨H1,I1,q1⟩=>?_)
 cases d with
 |true=>exact ha pins s1 σ H1 D I1 q1
 |false=>exact hb pins s1 σ H1 D I1 q1
end
abbrev TG:=V->St->Hp->(St->Hp->Prop)->Prop
abbrev TGs:=List V->St->Hp->(St->Hp->Prop)->Prop
def PG (X:Cx)(target:Expr)(t:TG):Prop:=
 ∀(pins:List (Addr×Obj)) (s:Shared) (σ:St) (H:Hp) (v:V) (u:Value) (Q:St->Hp->Prop),Inv X pins σ H s->ZC v u->t v σ H Q->
  wpAny (model X.prog X.w) X.A (assign target X.env u) (λ_ s'=>∃σ' H',Inv X pins σ' H' s'/\Q σ' H') X.xe s
def PGs (X:Cx)(ts:List Expr)(t:TGs):Prop:=
 ∀(pins:List (Addr×Obj)) (s:Shared) (σ:St) (H:Hp) (vs:List V) (us:List Value) (Q:St->Hp->Prop),Inv X pins σ H s->Y2 vs us->t vs σ H Q->
  wpAny (model X.prog X.w) X.A (assignInOrder ((assignEach ts X.env).map (·.2)) us) (λ_ s'=>∃σ' H',Inv X pins σ' H' s'/\Q σ' H') X.xe s
abbrev Dp:=V->V->V->Hp->(Hp->Prop)->Prop
def AM (X:Cx)(t:Dp):Prop:=
 ∀(pins:List (Addr×Obj)) (s:Shared) (σ:St) (H:Hp) (o i v:V) (ov iv u:Value) (Q:Hp->Prop),Inv X pins σ H s->ZC o ov->ZC i iv->ZC v u->t o i v H Q->
  wpAny (model X.prog X.w) X.A (setItem ov iv u) (λ_ s'=>∃H',Inv X pins σ H' s'/\Q H') X.xe s
section
variable {X:Cx} {pos:Pos}
def Bt (i:Nat):TG:=λv σ H Q=>Q (σ.set i (some v)) H
theorem Zy {i:Nat}{x:Str}(hN:X.N.Nodup)(hi:X.N[i]? = some x)(hx:Loc X.env.scope x)(hf:X.fn x=true\/X.env.scope.names.lookup x=some .local:=by first|exact .inl rfl|exact .inr rfl|assumption):PG X (.Name x pos) (Bt i):=by
 intro pins s σ H v u Q I r h;exact wpAny_assign_Name (NK I hN hi hx r (λs' I'=>⟨_,H,I',h⟩) hf)
def Iw:TGs:=λvs σ H Q=>vs=[]/\Q σ H
def P6 (t:TG)(u:TGs):TGs:=λvs σ H Q=>∃v r,vs=v :: r/\t v σ H λσ' H'=>u r σ' H' Q
theorem TY:PGs X [] Iw:=by
 intro pins s σ H vs us Q I r h;obtain⟨e,h⟩:=h
 subst e;cases r;exact assignInOrder_nil ⟨σ,H,I,h⟩
theorem Yp {e:Expr}{es:List Expr}{t:TG}{u:TGs}(h1:PG X e t)(h2:PGs X es u)
  (hs:(assignEach (e :: es) X.env).map (·.2)=assign e X.env :: (assignEach es X.env).map (·.2):=by rfl):PGs X (e :: es) (P6 t u):=by
 intro pins s σ H vs us Q I r h;obtain⟨v,vr,e1,h⟩:=h
 subst e1;cases r with
 |cons r rr=>
  rw [hs];refine assignInOrder_cons (thn (h1 pins s σ H _ _ _ I r h) λ_ s1 ⟨σ1,H1,I1,q1⟩=>?_)
  exact h2 pins s1 σ1 H1 _ _ Q I1 rr q1
def OL (K:W3)(n:Nat)(t:TGs):TG:=λv σ H Q=>∃a xs,v = .ref a/\SqT K H a xs/\xs.length=n/\t xs σ H Q
theorem NZ {es:List Expr}{k:Nat}{t:TGs}{n:Nat}(hc:X.calm=true)(h:PGs X es t)
  (hn:(assignEach es X.env).length=n:=by rfl) (hst:(assignEach es X.env).findIdx? (·.1)=none:=by rfl):PG X (.Tuple es k pos) (OL X.K n t):=by
 intro pins s σ H v u Q I r hw;obtain⟨a,xs,e1,hq,hl,hw⟩:=hw
 subst e1;cases r;obtain⟨its,rv,ht,hz⟩:=I.tuple hq
 refine assign_Tuple_tuple (I.ok.hd hc) ht (by simp [hn,<-hl,rv.length]) hst λh' hx=>?_
 have I1:Inv X pins σ H { s with heap:=h' }:=I.kept (t':=s.toks) λb o e=>hx b o (WT (Ww e)) e
 exact h pins _ σ H xs _ Q I1 (by simpa using rv) hw
def Xm (to ti:TE)(t:Dp):TG:=λv σ H Q=>to σ H λo H1=>ti σ H1 λi H2=>t o i v H2 λH3=>Q σ H3
theorem Hz {o i:Expr}{to ti:TE}{t:Dp}(ho:PE X o to)(hi:PE X i ti)(hs:AM X t)
  (ha:∀v,assign (.Subscript o i pos) X.env v=(do
   let ov <-holding [v] (eval o X.env)
   let iv <-holding [v,ov] (eval i X.env)
   standAt pos
   holding [v,ov,iv] (setItem ov iv v)
   release [v,ov,iv] []):=by intro _;rfl):PG X (.Subscript o i pos) (Xm to ti t):=by
 intro pins s σ H v u Q I r h;rw [ha];refine W2 (Vs (thn (ho pins s σ H _ I h) λov s1 ⟨x,H1,I1,r1,q1⟩=>?_))
 refine W2 (Vs (thn (hi pins s1 σ H1 _ I1 q1) λiv s2 ⟨y,H2,I2,r2,q2⟩=>?_))
 refine W2 (wpAny_standAt (W2 (Vs (thn (hs pins s2 σ H2 x y v ov iv u _ I2 r1 r2 r q2) λ_ s3 ⟨H3,I3,q3⟩=>?_))))
 exact wpAny_release ⟨σ,H3,I3,q3⟩
def Dg (te:TE)(g:TG):TS:=λD σ H=>te σ H λx H1=>g x σ H1 D.nx
theorem F8 {tg e:Expr}{te:TE}{g:TG}(he:PE X e te)(hg:PG X tg g)(hs:swapsWithSole [tg] e pos.line X.env=pure false:=by rfl)(hw:swappedStores [tg] e X.env=pure none:=by rfl)
  (h1:(assignEach [tg] X.env).map (·.2)=[assign tg X.env]:=by rfl):PS X (.Assign [tg] e pos) (Dg te g):=by
 intro pins s σ H D I h;refine wpAny_Assign_stores (thn (he pins s σ H _ I h) λv s1 ⟨x,H1,I1,r1,q1⟩=>?_) hs hw
 rw [h1];exact thn (hg pins s1 σ H1 x v _ I1 r1 q1) λ_ s2 q=>q
theorem Ht {i:Nat}{x:Str}{e:Expr}{te:TE}{pos':Pos}(hN:X.N.Nodup)(hi:X.N[i]? = some x)(hx:Loc X.env.scope x)(he:PE X e te)(hs:swapsWith e (some (.Name x pos')) pos.line X.env=pure false:=by rfl)(hf:X.fn x=true\/X.env.scope.names.lookup x=some .local:=by first|exact .inl rfl|exact .inr rfl|assumption) :
  PS X (.Assign [.Name x pos'] e pos) (Dg te (Bt i)):=by
 intro pins s σ H D I h;refine wpAny_Assign_Name (thn (he pins s σ H _ I h) λv s1 ⟨y,H1,I1,r1,q1⟩=>?_) hs
 exact NK I1 hN hi hx r1 (λs2 I2=>⟨_,H1,I2,q1⟩) hf
end
section
variable {X:Cx} {pos:Pos}
end
structure It where
 go:Nat->Hp->Prop
 yld:Nat->Hp->V->Hp->Prop
 stop:Nat->Hp->Prop
def Kc (X:Cx)(pins:List (Addr×Obj))(H:Hp)(b:Addr):Prop:=
 H b=none/\b≠X.env.locals/\b∉X.fs/\(b∈X.ex\/X.s₀.heap.objs.size<=b)/\(∀x c,X.env.cells.lookup x=some c->c≠b)/\∀p∈X.pn++pins,p.1≠b
theorem Inv.fpOk {X:Cx}{pins:List (Addr×Obj)}{σ:St}{H H':Hp}{s:Shared}{b:Addr}(I:Inv X pins σ H s)(hb:s.heap.objs.size<=b)(hn:H' b=none):Kc X pins H' b:=by
 refine⟨hn,W0l (WH I.lt hb),I.nofs hb,.inr (V2 I.sz hb),λx c e z=>?_,λp hp z=>?_⟩
 ·obtain⟨v,q⟩:=I.cell x c e
  exact absurd (WH q.lt (by rw [z];exact hb)) (Vk _)
 ·exact absurd (WH (Ww (I.pin p hp).1) (by rw [z];exact hb)) (Vk _)
structure Turn (P:Program) (w:World) (K:W3) (tg:Expr) (J:It) (fp:List Addr) (it:Addr) (tn:Nat->Heap->Prop):Prop where
 mem:it∈fp
 obj:∀i h,tn i h->∀b∈fp,∃o,h.get? b=some o/\∀v,o.data≠.cell v
 keep:∀i h h',tn i h->(∀b∈fp,∀o,h.get? b=some o->h'.get? b=some o)->tn i h'
 item:∀(X:Cx),X.prog=P->X.w=w->X.K=K->X.calm=true->∀(i:Nat) (pins:List (Addr×Obj)) (s:Shared) (σ:St) (H:Hp) (E:Value->Shared->Prop),Inv X pins σ H s->(∀b∈fp,Kc X pins H b)->tn i s.heap->J.go i H->
  wpAny (model P w) X.A (pyNext (.ref it)) (λr s1=>∃u,r=some u/\
   wpAny (model P w) X.A (letOwnedTupleGo tg (.ref it) u) (λ_ s2=>∃x H',Inv X pins σ H' s2/\ZC x u/\J.yld i H x H'/\tn (i+1) s2.heap/\∀b∈fp,H' b=none) E s1) E s
 done:∀(X:Cx),X.prog=P->X.w=w->X.K=K->X.calm=true->∀(i:Nat) (pins:List (Addr×Obj)) (s:Shared) (σ:St) (H:Hp) (E:Value->Shared->Prop),Inv X pins σ H s->(∀b∈fp,Kc X pins H b)->tn i s.heap->J.stop i H->
  wpAny (model P w) X.A (pyNext (.ref it)) (λr s1=>r=none/\Inv X pins σ H s1) E s
 self:∀(A:Around) (i:Nat) (s:Shared) (Q:Value->Shared->Prop) (E:Value->Shared->Prop),tn i s.heap->Q (.ref it) s->wpAny (model P w) A (pyIter (.ref it)) Q E s
abbrev TI:=St->Hp->(It->Hp->Prop)->Prop
def PIE (X:Cx)(pins:List (Addr×Obj))(σ:St)(tg:Expr)(R:It->Hp->Prop)(itv:Value)(s2:Shared):Prop:=
 ∃(it:Addr) (fp:List Addr) (tn:Nat->Heap->Prop) (J:It) (H':Hp),itv = .ref it/\Inv X pins σ H' s2/\Turn X.prog X.w X.K tg J fp it tn/\tn 0 s2.heap/\(∀b∈fp,Kc X pins H' b)/\R J H'
def PI (X:Cx)(tg iter:Expr)(wi:TI):Prop:=
 ∀(pins:List (Addr×Obj)) (s:Shared) (σ:St) (H:Hp) (R:It->Hp->Prop),Inv X pins σ H s->wi σ H R->
  wpAny (model X.prog X.w) X.A (eval iter X.env) (λv s1=>wpAny (model X.prog X.w) X.A (pyIter v) (PIE X pins σ tg R) X.xe s1) X.xe s
theorem RZ {M:Model}{A:Around}{E:Value->Shared->Prop}{s:Shared}{tg:Expr}{it:Addr}{u:Value}{o:Obj}{n:String}{vs:Array Value}{Q:Unit->Shared->Prop}(ho:s.heap.get? it=some o)(hc:o.cls = .type n)(hd:o.data = .fields vs)
  (hn:["enumerate", "zip", "dict_itemiterator", "dict_reverseitemiterator", "odict_iterator", "itertools.zip_longest", "itertools.pairwise"].contains n=false) (hQ:Q () s):wpAny M A (letOwnedTupleGo tg (.ref it) u) Q E s:=by
 unfold letOwnedTupleGo;cases tg<;>first
  |exact Wk hQ
  | (cases u<;>first
     |exact Wk hQ
     | (refine W2 (wpAny_load ho ?_)
        rw [hc,hd];show wpAny M A (if (["enumerate", "zip", "dict_itemiterator", "dict_reverseitemiterator", "odict_iterator", "itertools.zip_longest", "itertools.pairwise"].contains n&&vs[0]? == some (rawInt _))=true then _ else _) Q E s
        rw [if_neg (by intro h;rw [hn,W1d] at h;cases h)]
        exact Wk hQ))
def Itl (K:W3)(a:Addr):It:=
 ⟨λi H=>∃xs x,SqL K H a xs/\xs[i]? = some x,λi H x H'=>H'=H/\∀xs,SqL K H a xs->xs[i]? = some x,λi H=>∃xs,SqL K H a xs/\xs.length<=i⟩
def Itt (K:W3)(a:Addr):It:=
 ⟨λi H=>∃xs x,SqT K H a xs/\xs[i]? = some x,λi H x H'=>H'=H/\∀xs,SqT K H a xs->xs[i]? = some x,λi H=>∃xs,SqT K H a xs/\xs.length<=i⟩
def Itr (lo:Int)(n:Nat):It:=⟨λi _=>i<n,λi H x H'=>H'=H/\x = .int (lo+i),λi _=>n<=i⟩
theorem Kn {P:Program}{w:World}{K:W3}{tg:Expr}(a it:Addr):Turn P w K tg (Itl K a) [it] it (λi h=>h.IsListIter it a i) where
 mem:=by simp
 obj:=λi h st b hb=>by
  have e:b=it:=by simpa using hb
  subst e;obtain⟨o,e,c,d⟩:=st
  exact⟨o,e,λv z=>by rw [d] at z;cases z⟩
 keep:=λi h h' st k=>st.at λo e=>k it (by simp) o e
 item:=by
  intro X hP hw hK hc i pins s σ H E I hf st hg;subst hP hw hK;obtain⟨xs,x,hq,hx⟩:=hg
  obtain⟨its,rv,p,hz⟩:=I.list hq
  obtain⟨u,hu,ru⟩:=rv.get hx
  obtain⟨f0,f1,f2,f3,f4,f5⟩:=hf it (by simp)
  refine wpAny_pyNext_list_item st p.isList (x:=u) (by simpa using hu) λh' st' sb=>?_
  have I1:Inv X pins σ H { s with heap:=h' }:=I.turned (t':=s.toks) (λb o hb e=>(sb.2 b hb).trans e) f0 f1 f3 f4 f5
  obtain⟨o,e,c,d⟩:=id st'
  exact⟨u,rfl,RZ (s:={ s with heap:=h' }) e c d (by decide) ⟨x,H,I1,ru,⟨rfl,λys hy=>by rw [I.list_inj hy hq];exact hx⟩,st',λb hb=>(hf b hb).1⟩⟩
 done:=by
  intro X hP hw hK hc i pins s σ H E I hf st hg;subst hP hw hK;obtain⟨xs,hq,hx⟩:=hg
  obtain⟨its,rv,p,hz⟩:=I.list hq
  obtain⟨f0,f1,f2,f3,f4,f5⟩:=hf it (by simp)
  have hl:=rv.length
  exact wpAny_pyNext_list_end (I.ok.hd hc) st p.isList (by simp;omega) λh' eb=>⟨rfl,I.turned (t':=s.toks) (λb o hb e=>eb b o hb e) f0 f1 f3 f4 f5⟩
 self:=λ_ _ _ _ _ st h=>wpAny_pyIter_listiter st h
theorem MD {P:Program}{w:World}{K:W3}{tg:Expr}(a it:Addr):Turn P w K tg (Itt K a) [it] it (λi h=>h.IsTupleIter it a i) where
 mem:=by simp
 obj:=λi h st b hb=>by
  have e:b=it:=by simpa using hb
  subst e;obtain⟨o,e,c,d⟩:=st
  exact⟨o,e,λv z=>by rw [d] at z;cases z⟩
 keep:=λi h h' st k=>st.at λo e=>k it (by simp) o e
 item:=by
  intro X hP hw hK hc i pins s σ H E I hf st hg;subst hP hw hK;obtain⟨xs,x,hq,hx⟩:=hg
  obtain⟨its,rv,p,hz⟩:=I.tuple hq
  obtain⟨u,hu,ru⟩:=rv.get hx
  obtain⟨f0,f1,f2,f3,f4,f5⟩:=hf it (by simp)
  refine wpAny_pyNext_tuple_item st (show s.heap.IsTuple a its.toArray from p) (x:=u) (by simpa using hu) λh' st' sb=>?_
  have I1:Inv X pins σ H { s with heap:=h' }:=I.turned (t':=s.toks) (λb o hb e=>(sb.2 b hb).trans e) f0 f1 f3 f4 f5
  obtain⟨o,e,c,d⟩:=id st'
  exact⟨u,rfl,RZ (s:={ s with heap:=h' }) e c d (by decide) ⟨x,H,I1,ru,⟨rfl,λys hy=>by rw [I.tuple_inj hy hq];exact hx⟩,st',λb hb=>(hf b hb).1⟩⟩
 done:=by
  intro X hP hw hK hc i pins s σ H E I hf st hg;subst hP hw hK;obtain⟨xs,hq,hx⟩:=hg
  obtain⟨its,rv,p,hz⟩:=I.tuple hq
  obtain⟨f0,f1,f2,f3,f4,f5⟩:=hf it (by simp)
  have hl:=rv.length
  exact wpAny_pyNext_tuple_end (I.ok.hd hc) st (show s.heap.IsTuple a its.toArray from p) (by simp;omega) λh' eb=>⟨rfl,I.turned (t':=s.toks) (λb o hb e=>eb b o hb e) f0 f1 f3 f4 f5⟩
 self:=λ_ _ _ _ _ st h=>wpAny_pyIter_tupleiter st h
theorem ME {P:Program}{w:World}{K:W3}{tg:Expr}(it:Addr)(lo:Int)(n:Nat):Turn P w K tg (Itr lo n) [it] it (λi h=>IsRangeIter h it (lo+(i:Nat)*1) ((n:Int)-(i:Nat)) 1) where
 mem:=by simp
 obj:=λi h st b hb=>by
  have e:b=it:=by simpa using hb
  subst e;exact⟨_,st,λv z=>by
   have z':Data.fields _=Data.cell v:=z
   cases z'⟩
 keep:=λi h h' st k=>k it (by simp) _ st
 item:=by
  intro X hP hw hK hc i pins s σ H E I hf st hg;subst hP hw hK;obtain⟨f0,f1,f2,f3,f4,f5⟩:=hf it (by simp)
  have W:=Walks.range (prog:=X.prog) (w:=X.w) (I.ok.hd hc) it lo 1 n
  refine W.item i s _ _ hg st λv h' tk hv st' kk=>?_
  obtain⟨t,rfl⟩:=hv
  have I1:Inv X pins σ H { s with heap:=h',toks:=tk }:=I.turned (λb o hb e=>kk b o (by simpa using hb) e) f0 f1 f3 f4 f5
  refine⟨_,rfl,RZ (s:={ s with heap:=h',toks:=tk }) (n:="range_iterator") st' rfl rfl (by decide) ⟨.int (lo+i),H,I1,⟨t,?_⟩,⟨rfl,rfl⟩,st',λb hb=>(hf b hb).1⟩⟩
  rw [Int.mul_one]
 done:=by
  intro X hP hw hK hc i pins s σ H E I hf st hg;subst hP hw hK;obtain⟨f0,f1,f2,f3,f4,f5⟩:=hf it (by simp)
  exact wpAny_pyNext_range_end (I.ok.hd hc) st (by have:n<=i:=hg;omega) λh' eb=>⟨rfl,I.turned (t':=s.toks) (λb o hb e=>eb b o hb e) f0 f1 f3 f4 f5⟩
 self:=λ_ _ _ _ _ st h=>wpAny_pyIter_rangeiter st h
end L2
namespace L2
open PySem PySem.Spec PyProof.Rows
section
variable {X:Cx} {tg:Expr}
theorem L8 {pins:List (Addr×Obj)}{σ:St}{H:Hp}{s:Shared}{R:It->Hp->Prop}{E:Value->Shared->Prop}{lo hi:Int}{t u v:Tok}{tk:Nat}(I:Inv X pins σ H s)(h1 : -(2 ^ 62)<=lo)(h2:lo<2 ^ 62)(h3 : -(2 ^ 62)<=hi)(h4:hi<2 ^ 62)
  (q:R (Itr lo (hi-lo).toNat) H):wpAny (model X.prog X.w) X.A (pyIter (.ref s.heap.objs.size)) (PIE X pins σ tg R) E { s with heap:=s.heap.push { cls:=.type "range",data:=.fields #[.int lo t,.int hi u,.int 1 v] },toks:=tk }:=by
 refine wpAny_pyIter_range (IsRange.new ..) (small_one h1 h2 h3 h4) ?_
 have I1:Inv X pins σ H { s with heap:=s.heap.push { cls:=.type "range",data:=.fields #[.int lo t,.int hi u,.int 1 v] },toks:=tk }:=I.kept λb o e=>Wj _ e
 refine⟨(s.heap.push { cls:=.type "range",data:=.fields #[.int lo t,.int hi u,.int 1 v] }).objs.size,[(s.heap.push { cls:=.type "range",data:=.fields #[.int lo t,.int hi u,.int 1 v] }).objs.size],_,_,H,rfl,
  I1.kept (t':=tk) λb o e=>Wj _ e,ME _ lo (hi-lo).toNat,?_,λb hb=>?_,q⟩
 ·have e1:lo+((0:Nat):Int)*1=lo:=by simp
  have e2:(((hi-lo).toNat:Nat):Int)-((0:Nat):Int)=Builtin.Range.rangeSize lo hi 1:=by rw [rangeSize_one];split<;>omega
  show IsRangeIter _ _ (lo+((0:Nat):Int)*1) ((((hi-lo).toNat:Nat):Int)-((0:Nat):Int)) 1
  rw [e1,e2];exact Wt _ rfl
 ·have e:b=(s.heap.push { cls:=.type "range",data:=.fields #[.int lo t,.int hi u,.int 1 v] }).objs.size:=by simpa using hb
  subst e;exact I1.fpOk (Wq _) (I1.hok.fresh (Wq _))
def OH (ta:TA):TI:=λσ H R=>ta σ H λvs H1=>∃j:Int,vs=[.int j]/\-(2 ^ 62)<=j/\j<2 ^ 62/\R (Itr 0 j.toNat) H1
theorem KY {a:Expr}{ta:TA}{p pos:Pos}(hg:Gl X "range")(hm:X.mg "range" = none)(ha:PA X [a] ta)(hs:Ws [a] X.env=[(false,eval a X.env)]:=by rfl):PI X tg (.Call (.Name "range" p) [a] [] pos) (OH ta):=by
 intro pins s σ H R I h;refine Call_ (UG I hg hm boot_range (VH (thn (ha pos pins s σ H _ I h) λus s1 ⟨vs,H1,I1,r1,q1⟩=>?_) hs rfl))
 obtain⟨j,e,q1,q2,q⟩:=q1
 subst e;cases r1 with
 |cons r rr=>
  cases rr;obtain⟨t,rfl⟩:=r
  exact call_range_1 (L8 I1 (by omega) (by omega) q1 q2 (by simpa using q))
def XG (wi:TI)(g:TG)(tb:TS):TS:=λD σ H=>wi σ H λJ H1=>∃W:Nat->Nat->St->Hp->Prop,(∃m,W 0 m σ H1)/\∀i m σ H,W i m σ H->
 (J.stop i H/\D.nx σ H)\/(J.go i H/\∃N:St->Hp->Prop,(∀σ' H',N σ' H'->∃m',m'<m/\W (i+1) m' σ' H')/\∀x H',J.yld i H x H'->g x σ H' λσ2 H2=>tb { D with nx:=N,ct:=N,bk:=D.nx } σ2 H2)
def GS (fp:List Addr)(h:Heap):List (Addr×Obj):=fp.filterMap λb=>(h.get? b).map λo=>(b,o)
theorem Jc {fp:List Addr}{h:Heap}{b:Addr}{o:Obj}(hb:b∈fp)(e:h.get? b=some o):(b,o)∈GS fp h:=List.mem_filterMap.mpr ⟨b,hb,by rw [e];rfl⟩
theorem Ra {fp:List Addr}{h:Heap}{p:Addr×Obj}(hp:p∈GS fp h):p.1∈fp/\h.get? p.1=some p.2:=by
 obtain⟨b,hb,e⟩:=List.mem_filterMap.mp hp
 cases q:h.get? b with
 |none=>rw [q] at e;cases e
 |some o=>
  rw [q] at e;have e':(b,o)=p:=WS e
  subst e'
  exact⟨hb,q⟩
theorem Inv.pinned {pins:List (Addr×Obj)}{σ:St}{H:Hp}{s:Shared}{fp:List Addr}(I:Inv X pins σ H s)(hf:∀b∈fp,Kc X pins H b)(ho:∀b∈fp,∃o,s.heap.get? b=some o/\∀v,o.data≠.cell v):Inv X (pins++GS fp s.heap) σ H s:=
 I.pins_of λp hp=>(List.mem_append.mp hp).elim (λz=>I.pin p (WO _ z)) λz=>by
  obtain⟨hb,e⟩:=Ra z
  obtain⟨f0,f1,f2,_⟩:=hf p.1 hb
  obtain⟨o,e',d⟩:=ho p.1 hb
  rw [e] at e';cases e'
  exact⟨e,f0,f1,f2,d⟩
theorem Inv.unpinned {pins pl:List (Addr×Obj)}{σ:St}{H:Hp}{s:Shared}(I:Inv X (pins++pl) σ H s):Inv X pins σ H s:=I.pins_of λp hp=>I.pin p (WO _ (W0N _ hp))
theorem Hv {iter:Expr}{body:List Stmt}{wi:TI}{g:TG}{tb:TS}{pos:Pos}(hp:PassesOwn (model X.prog X.w) X.A X.env X.xe)(hc:X.calm=true)(hi:PI X tg iter wi)(hg:PG X tg g)(hb:PSs X body tb)
  (hs:∀x,foldedSetIterable iter X.env x=pure x:=by intro _;rfl):PS X (.For tg iter body [] pos) (XG wi g tb):=by
 intro pins s σ H D I h;refine wpAny_For (thn (hi pins s σ H _ I h) λv s1 h1=>thn h1 λitv s2 h2=>?_) hs
 obtain⟨it,fp,tn,J,H2,e,I2,T,st2,f2,W,⟨m0,w0⟩,turn⟩:=h2
 subst e
 -- what stays true of the iterator's objects through the loop
 have stat:∀{H':Hp},(∀b∈fp,H' b=none)->∀b∈fp,Kc X pins H' b:=λhn b hb=>⟨hn b hb,(f2 b hb).2⟩
 refine codeAny_forLoop_any (λn s'=>∃i σ' H',Inv X pins σ' H' s'/\tn i s'.heap/\(∀b∈fp,H' b=none)/\W i n σ' H') ?_ m0 ⟨0,σ,H2,I2,st2,λb hb=>(f2 b hb).1,w0⟩
 rintro n s3 ⟨i,σ3,H3,I3,st3,fr3,w3⟩
 rcases turn i n σ3 H3 w3 with ⟨stop,qn⟩|⟨go,N,hN,step⟩
 ·refine W0n hp (thn (T.done X rfl rfl rfl hc i pins s3 σ3 H3 X.xe I3 (stat fr3) st3 stop) λr s4 ⟨hr,I4⟩=>?_)
  subst hr;exact wpAny_execs_nil ⟨σ3,H3,I4,qn⟩
 ·refine W0n hp (thn (T.item X rfl rfl rfl hc i pins s3 σ3 H3 X.xe I3 (stat fr3) st3 go) λr s4 ⟨u,hr,h4⟩=>?_)
  subst hr;refine W0n hp (thn h4 λ_ s5 ⟨x,H5,I5,r5,y5,st5,fr5⟩=>?_)
  have I5':=I5.pinned (stat fr5) (T.obj _ _ st5)
  refine W0n hp (thn (hg _ s5 σ3 H5 x u _ I5' r5 (step x H5 y5)) λ_ s6 ⟨σ6,H6,I6,q6⟩=>?_)
  refine W0n hp (thn (hb _ s6 σ6 H6 _ I6 q6) λf s7 q7=>?_)
  have again:∀{σ7:St} {H7:Hp},Inv X (pins++GS fp s5.heap) σ7 H7 s7->N σ7 H7->∃m,m<n/\∃i σ' H',Inv X pins σ' H' s7/\tn i s7.heap/\(∀b∈fp,H' b=none)/\W i m σ' H':=λ{σ7 H7} I7 n7=>by
   obtain⟨m',hm,w7⟩:=hN σ7 H7 n7
   refine⟨m',hm,i+1,σ7,H7,I7.unpinned,T.keep _ _ _ st5 λb hb o e=>(I7.pin (b,o) (WO _ (WO _ (Jc hb e)))).1,λb hb=>?_,w7⟩
   obtain⟨o,e,d⟩:=T.obj _ _ st5 b hb
   exact (I7.pin (b,o) (WO _ (WO _ (Jc hb e)))).2.1
  cases f with
  |next=>obtain⟨σ7,H7,I7,n7⟩:=q7;exact again I7 n7
  |cont=>obtain⟨σ7,H7,I7,n7⟩:=q7;exact again I7 n7
  |brk=>obtain⟨σ7,H7,I7,q7⟩:=q7;exact⟨σ7,H7,I7.unpinned,q7⟩
  |ret v=>obtain⟨x7,σ7,H7,I7,r7,q7⟩:=q7;exact⟨x7,σ7,H7,I7.unpinned,r7,q7⟩
end
end L2
namespace L2
open PySem PySem.Spec PyProof.Rows
abbrev R2:=V->V->Hp->VK->Prop
def OpR (X:Cx)(f:Value->Value->Sem Value)(r:R2):Prop:=
 ∀(pins:List (Addr×Obj)) (s:Shared) (σ:St) (H:Hp) (x y:V) (v u:Value) (Q:VK),Inv X pins σ H s->ZC x v->ZC y u->r x y H Q->
  wpAny (model X.prog X.w) X.A (f v u) (EP X pins σ Q) X.xe s
def UnR (X:Cx)(f:Value->Sem Value)(r:V->Hp->VK->Prop):Prop:=
 ∀(pins:List (Addr×Obj)) (s:Shared) (σ:St) (H:Hp) (x:V) (v:Value) (Q:VK),Inv X pins σ H s->ZC x v->r x H Q->
  wpAny (model X.prog X.w) X.A (f v) (EP X pins σ Q) X.xe s
def QU (X:Cx)(f:Value)(r:List V->Hp->VK->Prop):Prop:=
 ∀(pins:List (Addr×Obj)) (s:Shared) (σ:St) (H:Hp) (xs:List V) (us:List Value) (Q:VK),Inv X pins σ H s->Y2 xs us->r xs H Q->
  wpAny (model X.prog X.w) X.A (call f us) (EP X pins σ Q) X.xe s
def Xx (X:Cx)(r:V->Hp->(Bool->Hp->Prop)->Prop):Prop:=
 ∀(pins:List (Addr×Obj)) (s:Shared) (σ:St) (H:Hp) (x:V) (v:Value) (Q:Bool->Hp->Prop),Inv X pins σ H s->ZC x v->r x H Q->
  wpAny (model X.prog X.w) X.A (truthy v) (TP X pins σ Q) X.xe s
def tOp (r:R2)(ta tb:TE):TE:=λσ H Q=>ta σ H λx H1=>tb σ H1 λy H2=>r x y H2 Q
def tUn (r:V->Hp->VK->Prop)(ta:TE):TE:=λσ H Q=>ta σ H λx H1=>r x H1 Q
def rI (C:Int->Int->Prop)(g:Int->Int->V):R2:=λx y H Q=>∃i j,x = .int i/\y = .int j/\C i j/\Q (g i j) H
def rI0 (g:Int->Int->V):R2:=λx y H Q=>∃i j,x = .int i/\y = .int j/\Q (g i j) H
def rU (g:Int->V):V->Hp->VK->Prop:=λx H Q=>∃i,x = .int i/\Q (g i) H
section
variable {X:Cx} {a b c:Expr} {ta tb tc:TE} {pos:Pos}
theorem OR (ha:PE X a ta)(hb:PE X b tb){pins:List (Addr×Obj)}{s:Shared}{σ:St}{H:Hp}{R:V->V->Hp->Prop}(I:Inv X pins σ H s)
  (h:ta σ H λx H1=>tb σ H1 λy H2=>R x y H2) {Q:Value->Shared->Prop} {f:Value->Value->Sem Value}
  (hf:∀v u s2 x y H2,Inv X pins σ H2 s2->ZC x v->ZC y u->R x y H2->wpAny (model X.prog X.w) X.A (f v u) Q X.xe s2) :
  wpAny (model X.prog X.w) X.A (eval a X.env) (λv s₁=>wpAny (model X.prog X.w) X.A (eval b X.env) (λu s₂=>wpAny (model X.prog X.w) X.A (f v u) Q X.xe s₂) X.xe s₁) X.xe s:=by
 refine thn (ha pins s σ H _ I h) λv s1 ⟨x,H1,I1,r1,q1⟩=>?_
 refine thn (hb pins s1 σ H1 _ I1 q1) λu s2 ⟨y,H2,I2,r2,q2⟩=>?_
 exact hf v u s2 x y H2 I2 r1 r2 q2
theorem O0 {op:Operator}{r:R2}(ho:OpR X (binaryOp op) r)(ha:PE X a ta)(hb:PE X b tb):PE X (.BinOp a op b pos) (tOp r ta tb):=by
 intro pins s σ H Q I h;exact wpAny_BinOp (OR ha hb I h λv u s2 x y H2 I2 rx ry q=>ho pins s2 σ H2 x y v u Q I2 rx ry q)
theorem DZ {op:UnaryOp}{r:V->Hp->VK->Prop}(ho:UnR X (unaryOp op) r)(ha:PE X a ta):PE X (.UnaryOp op a pos) (tUn r ta):=by
 intro pins s σ H Q I h;exact UnaryOp_ (thn (ha pins s σ H _ I h) λv s1 ⟨x,H1,I1,r1,q1⟩=>ho pins s1 σ H1 x v Q I1 r1 q1)
theorem opI {f:Value->Value->Sem Value}{C:Int->Int->Prop}{g:Int->Int->Int}
  (rule:∀(i j:Int) (t u:Tok) (s:Shared) (Q:Value->Shared->Prop) (E:Value->Shared->Prop),C i j->Q (.int (g i j) s.toks) { s with toks:=s.toks+1 }->wpAny (model X.prog X.w) X.A (f (.int i t) (.int j u)) Q E s) :
  OpR X f (rI C λi j=>.int (g i j)):=by
 intro pins s σ H x y v u Q I rx ry h;obtain⟨i,j,rfl,rfl,hc,q⟩:=h
 obtain⟨t,rfl⟩:=rx
 obtain⟨t',rfl⟩:=ry
 exact rule i j t t' s _ _ hc ⟨.int (g i j),H,I.tok _,⟨_,rfl⟩,q⟩
theorem Z03 {f:Value->Value->Sem Value}{g:Int->Int->Int}
  (rule:∀(i j:Int) (t u:Tok) (s:Shared) (Q:Value->Shared->Prop) (E:Value->Shared->Prop),Q (.int (g i j) s.toks) { s with toks:=s.toks+1 }->wpAny (model X.prog X.w) X.A (f (.int i t) (.int j u)) Q E s) :
  OpR X f (rI0 λi j=>.int (g i j)):=by
 intro pins s σ H x y v u Q I rx ry h;obtain⟨i,j,rfl,rfl,q⟩:=h
 obtain⟨t,rfl⟩:=rx
 obtain⟨t',rfl⟩:=ry
 exact rule i j t t' s _ _ ⟨.int (g i j),H,I.tok _,⟨_,rfl⟩,q⟩
theorem Z04 {f:Value->Value->Sem Value}{g:Int->Int->Bool}
  (rule:∀(i j:Int) (t u:Tok) (s:Shared) (Q:Value->Shared->Prop) (E:Value->Shared->Prop),Q (.bool (g i j)) s->wpAny (model X.prog X.w) X.A (f (.int i t) (.int j u)) Q E s) :
  OpR X f (rI0 λi j=>.bl (g i j)):=by
 intro pins s σ H x y v u Q I rx ry h;obtain⟨i,j,rfl,rfl,q⟩:=h
 obtain⟨t,rfl⟩:=rx
 obtain⟨t',rfl⟩:=ry
 exact rule i j t t' s _ _ ⟨.bl (g i j),H,I,rfl,q⟩
def OT (i j:Int):Prop:=(-(2 ^ 64)<i/\i<2 ^ 64)\/(-(2 ^ 64)<j/\j<2 ^ 64)
theorem OT.ok {i j:Int}(h:OT i j):IntMulOk i j:=by
 rcases h with ⟨h1,h2⟩|⟨h1,h2⟩
 ·exact .of_left (intBits_le_64 h1 h2)
 ·exact .of_right (intBits_le_64 h1 h2)
theorem HR:OpR X (binaryOp .Add) (rI0 λi j=>.int (i+j)):=Z03 λ_ _ _ _ _ _ _ q=>add_int q
theorem HK:OpR X (binaryOp .Mult) (rI OT λi j=>.int (i*j)):=opI λ_ _ _ _ _ _ _ hc q=>mul_int q hc.ok
theorem HL:OpR X (binaryOp .Mod) (rI (λ_ j=>0<j) λi j=>.int (i%j)):=opI λi j _ _ _ _ _ hc q=>by
 have h1:(0:Int)<j:=hc
 exact mod_int' (by omega) (by rw [Int.fmod_eq_emod_of_nonneg i (by omega)];exact q)
theorem unI {f:Value->Sem Value}{g:Int->Int}
  (rule:∀(i:Int) (t:Tok) (s:Shared) (Q:Value->Shared->Prop) (E:Value->Shared->Prop),Q (.int (g i) s.toks) { s with toks:=s.toks+1 }->wpAny (model X.prog X.w) X.A (f (.int i t)) Q E s) :
  UnR X f (rU λi=>.int (g i)):=by
 intro pins s σ H x v Q I rx h;obtain⟨i,rfl,q⟩:=h
 obtain⟨t,rfl⟩:=rx
 exact rule i t s _ _ ⟨.int (g i),H,I.tok _,⟨_,rfl⟩,q⟩
theorem CQ:UnR X (unaryOp .USub) (rU λi=>.int (-i)):=unI λ_ _ _ _ _ q=>neg_int q
end
section
variable {X:Cx} {a b c:Expr} {ta tb tc:TE} {pos:Pos}
theorem Jr {pins:List (Addr×Obj)}{σ:St}{H:Hp}{s:Shared}{Q:VK}{k k':Bool}(I:Inv X pins σ H s)(q:Q (.bl k) H)(e:k=k'):EP X pins σ Q (.bool k') s:=by
 subst e;exact⟨.bl k,H,I,rfl,q⟩
theorem O5:OpR X (compareOp .LtE) (rI0 λi j=>.bl (decide (i<=j))):=Z04 λ_ _ _ _ _ _ _ q=>le_int q
theorem HM:OpR X (compareOp .Is) (λx y H Q=>y = .non/\Q (.bl (decide (x = .non))) H):=by
 intro pins s σ H x y v u Q I rx ry h;obtain⟨rfl,q⟩:=h
 cases ry;refine is_none_gen (Jr I q ?_)
 cases x<;>first
  | (cases rx;rfl)
  | (obtain⟨t,rfl⟩:=rx;rfl)
theorem OpR.or {f:Value->Value->Sem Value}{r r':R2}(h:OpR X f r)(h':OpR X f r'):OpR X f (λx y H Q=>r x y H Q\/r' x y H Q):=by
 intro pins s σ H x y v u Q I rx ry q;rcases q with q|q
 ·exact h pins s σ H x y v u Q I rx ry q
 ·exact h' pins s σ H x y v u Q I rx ry q
theorem YA (b:Expr){op:CmpOp}(h:op≠.In:=by decide)(h2:op≠.NotIn:=by decide):behindInMarks op b=false:=by
 have e1:(op == CmpOp.In)=false:=by cases op<;>first|rfl|exact absurd rfl h
 have e2:(op == CmpOp.NotIn)=false:=by cases op<;>first|rfl|exact absurd rfl h2
 cases b<;>simp [behindInMarks,e1,e2]
theorem Ew {op:CmpOp}{r:R2}(ho:OpR X (compareOp op) r)(ha:PE X a ta)(hb:PE X b tb)(hm:behindInMarks op b=false):PE X (.Compare a [op] [b] pos) (tOp r ta tb):=by
 intro pins s σ H Q I h;exact wpAny_Compare1 (OR ha hb I h λv u s2 x y H2 I2 rx ry q=>ho pins s2 σ H2 x y v u Q I2 rx ry q) hm
def CZ (t:TE):TT:=λσ H Q=>t σ H λx H'=>∃k,x = .bl k/\Q k H'
theorem Eh {op:CmpOp}{r:R2}(ho:OpR X (compareOp op) r)(ha:PE X a ta)(hb:PE X b tb)(hm:behindInMarks op b=false):PT X (.Compare a [op] [b] pos) (CZ (tOp r ta tb)):=by
 intro pins s σ H Q I h;refine wpAny_isTrue_Compare1 (thn (ha pins s σ H _ I h) λv s1 ⟨x,H1,I1,r1,q1⟩=>thn (hb pins s1 σ H1 _ I1 q1) λu s2 ⟨y,H2,I2,r2,q2⟩=>
  thn (ho pins s2 σ H2 x y v u _ I2 r1 r2 q2) λc s3 ⟨z,H3,I3,r3,k,e,q3⟩=>?_) hm
 subst e;cases r3;exact W0A ⟨H3,I3,q3⟩
def F2 (r r':R2)(ta tb tc:TE):TE:=λσ H Q=>ta σ H λx H1=>tb σ H1 λy H2=>r x y H2 λz H3=>∃k,z = .bl k/\
 (if k=true then tc σ H3 λw' H4=>r' y w' H4 Q else Q (.bl false) H3)
theorem Li {op op':CmpOp}{r r':R2}(ho:OpR X (compareOp op) r)(ho':OpR X (compareOp op') r')(ha:PE X a ta)(hb:PE X b tb)(hc:PE X c tc)
  (hm:lastMarks [op,op'] [b,c]=false:=by with_unfolding_all rfl):PE X (.Compare a [op,op'] [b,c] pos) (F2 r r' ta tb tc):=by
 intro pins s σ H Q I h;refine Compare_chain (thn (ha pins s σ H _ I h) λv s1 ⟨x,H1,I1,r1,q1⟩=>chain_link (thn (hb pins s1 σ H1 _ I1 q1) λu s2 ⟨y,H2,I2,r2,q2⟩=>
  thn (ho pins s2 σ H2 x y v u _ I2 r1 r2 q2) λd s3 ⟨z,H3,I3,r3,k,e,q3⟩=>?_)) hm
 subst e;cases r3;refine W0A ?_
 cases k with
 |false=>exact ite_ff ⟨.bl false,H3,I3,rfl,q3⟩
 |true=>exact ite_tt (chain_last (thn (hc pins s3 σ H3 _ I3 q3) λw' s4 ⟨z',H4,I4,r4,q4⟩=>ho' pins s4 σ H4 y z' u w' Q I4 r2 r4 q4))
def Xw (K:W3)(x:V)(H:Hp)(k:Bool):Prop:=
 match x with
 | .non=>k=false
 | .bl b=>k=b
 | .int i=>k=(i != 0)
 | .str y=>y.length<=Wc/\k=((y.length:Int) != 0)
 | .byt y=>y.size<=Wc/\k=((y.size:Int) != 0)
 | .ref p=>(∃xs,SqL K H p xs/\k = !xs.isEmpty)\/(∃xs,SqT K H p xs/\k = !xs.isEmpty)\/∃kvs,H p=some (.dK kvs)/\k = !kvs.isEmpty
 |_=>False
theorem MZ {κ:Type}{kvs:List (κ×V)}{vs:List (κ×Value)}(r:KV kvs vs):(!vs.isEmpty) = !kvs.isEmpty:=by
 cases r<;>rfl
theorem Tp {xs:List V}{its:List Value}(r:Y2 xs its):(!its.toArray.isEmpty) = !xs.isEmpty:=by
 cases r<;>simp
theorem UE:(Wc:Nat)<2 ^ 63:=by rw [VX];decide
theorem CT:Xx X (λx H Q=>∃k,Xw X.K x H k/\Q k H):=by
 intro pins s σ H x v Q I rx h;obtain⟨k,e,q⟩:=h
 have hl:=UE
 have hs:Wc=16777216:=VX
 cases x with
 |non=>
  cases rx;have e':k=false:=e
  subst e'
  exact truthy_none ⟨H,I,q⟩
 |bl b=>
  cases rx;have e':k=b:=e
  subst e'
  exact W0A ⟨H,I,q⟩
 |int i=>
  obtain⟨t,rfl⟩:=rx
  have e':k=(i != 0):=e
  subst e'
  exact PySem.P.truthy_int ⟨H,I,q⟩
 |str y=>
  obtain⟨t,rfl⟩:=rx
  obtain⟨hy,e'⟩:y.length<=Wc/\k=((y.length:Int) != 0):=e
  subst e'
  exact PySem.P.truthy_str (by omega) ⟨H,I.tok _,q⟩
 |byt y=>
  obtain⟨t,rfl⟩:=rx
  obtain⟨hy,e'⟩:y.size<=Wc/\k=((y.size:Int) != 0):=e
  subst e'
  exact PySem.W.truthy_bytes (by omega) ⟨H,I.tok _,q⟩
 |ref p=>
  cases rx;have e':(∃xs,SqL X.K H p xs/\k = !xs.isEmpty)\/(∃xs,SqT X.K H p xs/\k = !xs.isEmpty)\/∃kvs,H p=some (.dK kvs)/\k = !kvs.isEmpty:=e
  rcases e' with ⟨xs,hx,e'⟩|⟨xs,hx,e'⟩|⟨kvs,hx,e'⟩
  ·subst e'
   obtain⟨its,r,pl,hz⟩:=I.list hx
   have hlen:=r.length
   exact wpAny_truthy_list pl.isList (by simp only [Wn];omega) ⟨H,I.tok _,by rw [Tp r];exact q⟩
  ·subst e'
   obtain⟨its,r,pl,hz⟩:=I.tuple hx
   have hlen:=r.length
   exact truthy_tuple pl (by simp only [Wn];omega) ⟨H,I.tok _,by rw [Tp r];exact q⟩
  ·subst e'
   obtain⟨hz,hS,vs,r,m⟩:kvs.length<=Wc/\(p == sysModules)=false/\∃vs,KV kvs vs/\s.heap.DictOf (ZT X.prog X.w) p vs:=I.hok p _ hx
   have hlen:kvs.length=vs.length:=VV r
   exact wpAny_truthy_dict hS m (by omega) ⟨H,I.tok _,by rw [MZ r];exact q⟩
 |_=>exact (show False from e).elim
theorem MN:OpR X (binaryOp .Add) (λx y H Q=>∃i j,x = .str i/\y = .str j/\i.length+j.length<=Wc/\Q (.str (i++j)) H):=by
 intro pins s σ H x y v u Q I rx ry h;obtain⟨i,j,rfl,rfl,hz,q⟩:=h
 obtain⟨t,rfl⟩:=rx
 obtain⟨t',rfl⟩:=ry
 exact add_str (λt' tk=>⟨.str (i++j),H,I.tok _,⟨_,rfl⟩,q⟩) hz
theorem TD {x:V}{us:List Value}(r:Y2 [x] us):∃u,us=[u]/\ZC x u:=by
 cases r with
 |cons r1 r2=>cases r2;exact⟨_,rfl,r1⟩
theorem MC {x y:V}{us:List Value}(r:Y2 [x,y] us):∃u w',us=[u,w']/\ZC x u/\ZC y w':=by
 cases r with
 |cons r1 r2=>
  cases r2 with
  |cons r3 r4=>cases r4;exact⟨_,_,rfl,r1,r3⟩
theorem Pm (hc:X.calm=true):QU X (.builtin "max") (λxs H Q=>∃i j,xs=[.int i,.int j]/\Q (.int (if j>i then j else i)) H):=by
 intro pins s σ H xs us Q I r h;obtain⟨i,j,rfl,q⟩:=h
 obtain⟨u,w',rfl,⟨t,rfl⟩,⟨t',rfl⟩⟩:=MC r
 refine max_two_ints (I.ok.hd hc) λh' tk k=>⟨_,H,I.kept k,?_,q⟩
 by_cases hj:j>i
 ·rw [if_pos hj,if_pos hj];exact⟨_,rfl⟩
 ·rw [if_neg hj,if_neg hj];exact⟨_,rfl⟩
end
end L2
namespace L2
open PySem PySem.Spec PyProof.Rows
structure ObjM (h:Heap) (x dx C:Addr) (mA:Str->Option Value):Prop where
 obj:h.get? x=some (VG C dx)
 ns:h.Ns1 dx mA
 ne:dx≠x
theorem Rr {h:Heap}{dx:Addr}{mA:Str->Option Value}(n:h.Ns1 dx mA):∃od,h.get? dx=some od/\∀name,W1e name od=some (mA name):=by
 obtain⟨o,es,ep,ho,hd,hk,_,hm⟩:=n
 refine⟨o,ho,λname=>?_⟩
 have e:=hm name
 unfold nsFind findBy at e;rw [<-Array.find?_toList] at e;unfold W1e;rw [hd];dsimp only;split
 ·rename_i y q
  rw [q] at e;exact congrArg some e
 ·rename_i q
  rw [q] at e;have a:es.toList.any (·.refKey)=false:=by
   rw [List.any_eq_false];intro y hy;obtain⟨z,t,hkey⟩:=hk y (Array.mem_toList_iff.mp hy)
   simp [DictEntry.refKey,hkey]
  have a':¬es.toList.any (·.refKey)=true:=by rw [a];exact WI
  rw [if_neg a'];exact congrArg some e
theorem ObjM.look {h:Heap}{x dx C:Addr}{mA:Str->Option Value}(I:ObjM h x dx C mA):∃od,PySem.W.InstAt h x (VG C dx) C (some od)/\∀name,W1e name od=some (mA name):=
 let ⟨od,ho,hl⟩:=Rr I.ns
 ⟨od,⟨I.obj,rfl,rfl,ho⟩,hl⟩
section
variable {prog:Program} {w:World} {A:Around} {E:Value->Shared->Prop} {s:Shared} {K:W3} {x dx C f:Addr} {mA:Str->Option Value} {name:Str} {v:Value}
theorem Cd {expr:Bool}{Q:Value->Shared->Prop}(X:K.In s.heap)(I:ObjM s.heap x dx C mA)(hg:W0f K C name=true)(hh:W0B K C=true)
  (ha:WF K (.ref C) name=some none) (hv:mA name=some v) (hv':PySem.W.handedIn v=true) (h:Q v { s with toks:=s.toks+1 }) :
  wpAny (model prog w) A (getAttr (.ref x) name expr) Q E s:=by
 obtain⟨od,J,hl⟩:=I.look
 exact PySem.W.get_value X J (W0Y hg).1 (PySem.W.findObj_own hh ha rfl (by rw [hl,hv])) hv' h
theorem LK {pl:Sem Bool}{Q:Value×List Value->Shared->Prop}(X:K.In s.heap)(I:ObjM s.heap x dx C mA)(hg:W0f K C name=true)
  (hf:WF K (.ref C) name=some (some (.ref f))) (ht:V5 K (.ref f)=true) (hv:mA name=none) (h:Q (.ref f,[.ref x]) s) :
  wpAny (model prog w) A (getMethod (.ref x) name pl) Q E s:=by
 obtain⟨od,J,hl⟩:=I.look
 exact PySem.W.method_fn X J (W0Y hg).1 (W0Y hg).2 hf (beq_iff_eq.mp ht) (by show (W1e name od).map (·.isSome)=some false;rw [hl,hv];rfl) h
theorem E7 {ns:List Str}{Q:Unit->Shared->Prop}(X:K.In s.heap)(I:ObjM s.heap x dx C mA)
  (hs:WF K (.ref C) "__setattr__" = some (some (.builtin "object.__setattr__"))) (hp:W1k K C=true) (ht:PySem.W.takerIn K C name=some none) (hh:W0B K C=true)
  (hw:PySem.Within mA ns) (hsz:ns.length<=Wc)
  (h:∀h',ObjM h' x dx C (λy=>if y=name then some v else mA y)->VM dx s.heap h'->Q () { s with heap:=h',toks:=s.toks+2 }) :
  wpAny (model prog w) A (setAttr (.ref x) name v) Q E s:=by
 obtain⟨od,J,hl⟩:=I.look
 refine PySem.W.set_plain X J hs (PySem.W.osa_open (s:={ s with toks:=s.toks+1 }) (r:=none) X J hp ht λb=>?_)
 obtain⟨cd,hc,hd'⟩:=PySem.W.any_some hh
 have hx:s.heap.get? x=some ⟨.ref C,some dx,.plain,#[]⟩:=I.obj
 refine W2 (Wk (W2 (W2 (wpAny_loadPart hx (W2 (PySem.W.Looks.here (s:={ s with toks:=s.toks+1 }) (PySem.W.looks_clsIn X hc) ?_))))))
 rw [hd'];refine Wk (a:=some dx) (W2 (Wk (W2 ?_)))
 refine wpAny_nsSet1 (s:={ s with toks:=s.toks+1 }) I.ns λh' hn2 hs2=>?_
 obtain⟨oD,esD,epD,hoD,hdD,hcD⟩:=hn2.count (PySem.Within.cons name v hw)
 refine W2 (wpAny_lookBehind hoD (by rw [hdD];exact pastItsLine_dict (V2 hcD (by rw [WR];omega))) ?_)
 exact Wk (h _ ⟨(hs2.2 _ (Ne.symm I.ne)).trans I.obj,hn2,I.ne⟩ hs2)
theorem Lm {R:Result->Shared->Prop}{vs:List Value}{kw:List (Str×Value)}(X:K.In s.heap)(hm:PySem.W.makesIn K C=true)
  (hi:WF K (.ref C) "__init__" = some (some (.ref f))) (hf:PySem.W.typeIn K (.ref f)=some (.type "function"))
  (h:codeAny (model prog w) (A.under (.builtin "type.__call__" ⟨.ref C :: vs,kw⟩)) (.call (.ref f) ⟨.ref (s.heap.objs.size+1) :: vs,kw⟩) (PySem.W.InitBack (s.heap.objs.size+1) R)
   { s with heap:=(s.heap.push Vi).push (VG C s.heap.objs.size) }) :
  codeAny (model prog w) A (.call (.ref C) ⟨vs,kw⟩) R s:=by
 obtain⟨hh,g,d,t,os⟩:=s
 exact PySem.W.make_core (PySem.W.makes_of X hm) (PySem.W.looks_findIn X hi) (λself=>PySem.W.bind_fn X self hf) (.inl rfl) h
end
def T7 (f:Str)(v:V):List (Str×V)->List (Str×V)
 |[]=>[(f,v)]
 | (g,x) :: r=>if g=f then (g,v) :: r else (g,x) :: T7 f v r
theorem UD (f g:Str)(v:V):∀fs:List (Str×V),(T7 f v fs).lookup g=if g=f then some v else fs.lookup g
 |[]=>by
  show VY g [(f,v)]=_
  by_cases h:g=f
  ·have hb:(g == f)=true:=beq_iff_eq.mpr h
   simp only [VY,hb,if_pos h]
  ·have hb:(g == f)=false:=beq_eq_false_iff_ne.mpr h
   simp only [VY,hb,if_neg h]
 | (k,x) :: r=>by
  have ih:=UD f g v r
  rw [show T7 f v ((k,x) :: r)=(if k=f then (k,v) :: r else (k,x) :: T7 f v r) from rfl];by_cases hk:k=f
  ·rw [if_pos hk]
   by_cases h:g=k
   ·have hb:(g == k)=true:=beq_iff_eq.mpr h
    simp only [VY,hb,if_pos (h.trans hk)]
   ·have hb:(g == k)=false:=beq_eq_false_iff_ne.mpr h
    simp only [VY,hb,if_neg (λe:g=f=>h (e.trans hk.symm))]
  ·rw [if_neg hk]
   by_cases h:g=k
   ·have hb:(g == k)=true:=beq_iff_eq.mpr h
    simp only [VY,hb,if_neg (λe:g=f=>hk (h.symm.trans e))]
   ·have hb:(g == k)=false:=beq_eq_false_iff_ne.mpr h
    simp only [VY,hb]
    exact ih
theorem UH (f:Str)(v:V):∀fs:List (Str×V),f∈(T7 f v fs).map (·.1)/\∀g,g∈fs.map (·.1)->g∈(T7 f v fs).map (·.1)
 |[]=>⟨by simp [T7],λg h=>by simp at h⟩
 | (k,x) :: r=>by
  obtain⟨i1,i2⟩:=UH f v r
  rw [show T7 f v ((k,x) :: r)=(if k=f then (k,v) :: r else (k,x) :: T7 f v r) from rfl];by_cases hk:k=f
  ·rw [if_pos hk]
   subst hk;exact⟨by simp,λg h=>by simpa using h⟩
  ·rw [if_neg hk]
   refine⟨?_,λg h=>?_⟩
   ·rw [W0]
    exact WD _ i1
   ·rw [W0] at h ⊢
    rcases Wx.mp h with e|e
    ·exact Wx.mpr (.inl e)
    ·exact WD _ (i2 g e)
theorem UF (f:Str)(v:V):∀fs:List (Str×V),(T7 f v fs).length<=fs.length+1
 |[]=>by simp [T7]
 | (k,x) :: r=>by
  have ih:=UF f v r
  rw [show T7 f v ((k,x) :: r)=(if k=f then (k,v) :: r else (k,x) :: T7 f v r) from rfl];by_cases hk:k=f
  ·rw [if_pos hk,WR,WR];omega
  ·rw [if_neg hk,WR,WR];omega
theorem Gu.some_of {v:V}{o:Option Value}(r:Gu (some v) o):∃u,o=some u/\ZC v u:=by
 cases o with
 |none=>exact (show False from r).elim
 |some u=>exact⟨u,rfl,r⟩
theorem Gu.none_of {o:Option Value}(r:Gu none o):o=none:=by
 cases o with
 |none=>rfl
 |some u=>exact (show False from r).elim
theorem RX {v:V}{u:Value}(r:ZC v u):PySem.W.handedIn u=true:=by
 cases v with
 |non=>cases (show u=Value.none from r);rfl
 |bl b=>cases (show u=Value.bool b from r);rfl
 |int i=>obtain⟨t,e⟩:=(show ∃t,u=Value.int i t from r);cases e;rfl
 |str x=>obtain⟨t,e⟩:=(show ∃t,u=Value.str x t from r);cases e;rfl
 |byt b=>obtain⟨t,e⟩:=(show ∃t,u=Value.bytes b t from r);cases e;rfl
 |flt b=>obtain⟨t,e⟩:=(show ∃t,u=Value.float b t from r);cases e;rfl
 |ref a=>cases (show u=Value.ref a from r);rfl
 |ty n=>cases (show u=Value.type n from r);rfl
section
variable {P:Program} {w:World} {H H':Hp} {h h':Heap} {a C dx:Addr} {fs fs':List (Str×V)}
theorem Gh (hok:HOk P w H h)(e:H a=some (.ins C dx fs)):∃mA,ObjM h a dx C mA/\(∀f,Gu (fs.lookup f) (mA f))/\PySem.Within mA (fs.map (·.1))/\fs.length<=1000/\H dx=some (.own a):=by
 obtain⟨d,z,ne,ob,mA,n,r,q⟩:=(show Zz P w H h a (.ins C dx fs) from hok a _ e)
 exact⟨mA,⟨ob,n,ne⟩,r,q,z,d⟩
end
structure Cls (K:W3) (C:Addr):Prop where
 pg:W0f K C Str.empty=true
 hd:W0B K C=true
 po:W1k K C=true
 sa:WF K (.ref C) "__setattr__" = some (some (.builtin "object.__setattr__"))
theorem Cls.get {K:W3}{C:Addr}(c:Cls K C)(f:Str):W0f K C f=true:=c.pg
def Qo (K:W3)(C:Addr)(f:Str):Prop:=WF K (.ref C) f=some none
theorem Qo.taker {K:W3}{C:Addr}{f:Str}(n:Qo K C f):PySem.W.takerIn K C f=some none:=by
 unfold PySem.W.takerIn;rw [show WF K (.ref C) f=some none from n];rfl
structure Meth (K:W3) (C:Addr) (m:Str) (f:Addr):Prop where
 at_:WF K (.ref C) m=some (some (.ref f))
 fn:V5 K (.ref f)=true
 kp:Wv K (.ref f)=true
section
variable {X:Cx} {pins:List (Addr×Obj)} {σ:St} {H:Hp} {s:Shared} {a C dx:Addr} {fs:List (Str×V)} {f:Str} {v:V} {A:Around} {E:Value->Shared->Prop}
theorem Tt {b:Bool}{Q:Value->Shared->Prop}(I:Inv X pins σ H s)(e:H a=some (.ins C dx fs))(c:Cls X.K C)(n:Qo X.K C f)(l:fs.lookup f=some v)
  (h:∀u s',Inv X pins σ H s'->ZC v u->Q u s'):wpAny (model X.prog X.w) A (getAttr (.ref a) f b) Q E s:=by
 obtain⟨mA,O,r,_,_,_⟩:=Gh I.hok e
 obtain⟨u,hu,ru⟩:=Gu.some_of (v:=v) (o:=mA f) (by rw [<-l];exact r f)
 exact Cd I.kIn O (c.get f) c.hd n hu (RX ru) (h u _ (I.tok _) ru)
theorem Ts {m:Str}{g:Addr}{pl:Sem Bool}{Q:Value×List Value->Shared->Prop}(I:Inv X pins σ H s)(e:H a=some (.ins C dx fs))(c:Cls X.K C)(k:Meth X.K C m g)(l:fs.lookup m=none)
  (h:Q (.ref g,[.ref a]) s):wpAny (model X.prog X.w) A (getMethod (.ref a) m pl) Q E s:=by
 obtain⟨mA,O,r,_,_,_⟩:=Gh I.hok e
 have hn:mA m=none:=Gu.none_of (by rw [<-l];exact r m)
 exact LK I.kIn O (c.get m) k.at_ k.fn hn h
theorem Tf {y:V}{u:Value}{Q:Unit->Shared->Prop}(I:Inv X pins σ H s)(e:H a=some (.ins C dx fs))(c:Cls X.K C)(n:Qo X.K C f)(hl:fs.length<1000)(ry:ZC y u)
  (h:∀s',Inv X pins σ (upd H a (.ins C dx (T7 f y fs))) s'->Q () s'):wpAny (model X.prog X.w) A (setAttr (.ref a) f u) Q E s:=by
 obtain⟨mA,O,r,wi,_,ho⟩:=Gh I.hok e
 have hz:(fs.map (·.1)).length<=Wc:=by rw [Wl,VX];omega
 refine E7 I.kIn O c.sa c.po n.taker c.hd wi hz λh' O' sb=>h _ ?_
 have hd:∃o,h'.get? dx=some o:=let ⟨o,_,_,e',_⟩:=O'.ns;⟨o,e'⟩
 refine I.write (x:=a) (e:=dx) (by rw [e];exact True.intro) (.inr ho) (λb q hb z=>(sb.2 b hb).trans z) hd ?_
 refine⟨by rw [Ze O.ne];exact ho,?_,O.ne,O'.obj,_,O'.ns,λg=>?_,λg hg=>?_⟩
 ·have:=UF f y fs;omega
 ·show Gu ((T7 f y fs).lookup g) (if g=f then some u else mA g)
  rw [UD];by_cases q:g=f
  ·rw [if_pos q,if_pos q];exact ry
  ·rw [if_neg q,if_neg q];exact r g
 ·by_cases q:g=f
  ·rw [q];exact (UH f y fs).1
  ·refine (UH f y fs).2 g (wi g λz=>hg ?_)
   show (if g=f then some u else mA g)=none
   rw [if_neg q];exact z
theorem Inv.made (I:Inv X pins σ H s):Inv X pins σ (upd (upd H s.heap.objs.size (.own (s.heap.objs.size+1))) (s.heap.objs.size+1) (.ins C s.heap.objs.size []))
  { s with heap:=(s.heap.push Vi).push (VG C s.heap.objs.size) }:=by
 have e1:(s.heap.push Vi).get? s.heap.objs.size=some Vi:=Wt s.heap rfl
 have e2:((s.heap.push Vi).push (VG C s.heap.objs.size)).get? (s.heap.objs.size+1)=some (VG C s.heap.objs.size):=by
  have:=Wt (s.heap.push Vi) (o:=VG C s.heap.objs.size) rfl
  rwa [VC] at this
 have e3:(s.heap.push Vi).Ns s.heap.objs.size (λ_=>none):=⟨Vi,#[],_,e1,rfl,(λe he=>absurd he (by simp)),λ_=>rfl⟩
 have I1:=I.laid (a:=s.heap.objs.size) (o:=.own (s.heap.objs.size+1)) (h':=s.heap.push Vi) (t':=s.toks) (λb u q=>Wj _ q) (Wq _) ⟨_,e1⟩
 refine I1.laid (a:=s.heap.objs.size+1) (o:=.ins C s.heap.objs.size []) (t':=s.toks) (λb u q=>Wj _ q) (Nat.le_of_eq (VC _ _)) ?_
 have ne:s.heap.objs.size≠s.heap.objs.size+1:=WT (Nat.lt_succ_self _)
 refine⟨by rw [Ze ne,Z6],Vq _,ne,e2,λ_=>none,(Heap.Ns1.of_empty e3).at λo q=>Wj _ q,λ_=>True.intro,λy hy=>absurd rfl hy⟩
theorem Cs {prog:Program}{w:World}{env:Env}{e:Expr}{f:Str}{pos:Pos}{s:Shared}{Q:Value->Shared->Prop}(hb:attributeBase e f env (eval e env)=eval e env)
  (h:wpAny (model prog w) A (eval e env) (λo s₁=>wpAny (model prog w) A (getAttr o f true) Q E s₁) E s):wpAny (model prog w) A (eval (.Attribute e f pos) env) Q E s:=
 Attribute_any_ h (by rw [arm_eval_Attribute,hb])
end
def XH (K:W3)(ta:TE)(f:Str):TE:=λσ H Q=>ta σ H λx H1=>∃a C dx fs v,x = .ref a/\H1 a=some (.ins C dx fs)/\Cls K C/\Qo K C f/\fs.lookup f=some v/\Q v H1
def XW (K:W3)(ta tv:TE)(f:Str):TS:=λD σ H=>tv σ H λy H1=>ta σ H1 λx H2=>∃a C dx fs,x = .ref a/\H2 a=some (.ins C dx fs)/\Cls K C/\Qo K C f/\fs.length<1000/\
 D.nx σ (upd H2 a (.ins C dx (T7 f y fs)))
def Xy (X:Cx)(op:Operator)(rd:V->V->Hp->VK->Prop):Prop:=
 ∀(pins:List (Addr×Obj)) (s:Shared) (σ:St) (H:Hp) (x y:V) (u v:Value) (Q:VK),Inv X pins σ H s->ZC x u->ZC y v->rd x y H Q->wpAny (model X.prog X.w) X.A (inplaceOp op u v) (EP X pins σ Q) X.xe s
def Ef (K:W3)(ta tv:TE)(rd:V->V->Hp->VK->Prop)(f:Str):TS:=λD σ H=>ta σ H λx H1=>∃a C dx fs v,x = .ref a/\H1 a=some (.ins C dx fs)/\Cls K C/\Qo K C f/\fs.lookup f=some v/\
 tv σ H1 λy H2=>rd v y H2 λz H3=>∃dx' fs',H3 a=some (.ins C dx' fs')/\fs'.length<1000/\D.nx σ (upd H3 a (.ins C dx' (T7 f z fs')))
section
variable {X:Cx} {o e value:Expr} {f:Str} {pos pos' tpos:Pos} {ta tv:TE}
theorem HH (he:PE X e ta)(hb:attributeBase e f X.env (eval e X.env)=eval e X.env):PE X (.Attribute e f pos) (XH X.K ta f):=by
 intro pins s σ H Q I h;refine Cs hb (thn (he pins s σ H _ I h) λu s1 ⟨x,H1,I1,rx,a,C,dx,fs,v,ex,ea,c,n,l,q⟩=>?_)
 subst ex;obtain rfl:u=Value.ref a:=rx
 exact Tt I1 ea c n l λu' s2 I2 ru=>⟨v,H1,I2,ru,q⟩
theorem Hw (ha:PE X o ta)(hv:PE X value tv)(hs:swapsWith value (some (.Attribute o f pos')) pos.line X.env=pure false):PS X (.Assign [.Attribute o f pos'] value pos) (XW X.K ta tv f):=by
 intro pins s σ H D I h;refine plainObj_wpAny_Assign_Attribute (thn (hv pins s σ H _ I h) λu s1 ⟨y,H1,I1,ry,q⟩=>thn (ha pins s1 σ H1 _ I1 q) λov s2 ⟨x,H2,I2,rx,a,C,dx,fs,ex,ea,c,n,l,q2⟩=>?_) hs
 subst ex;obtain rfl:ov=Value.ref a:=rx
 exact Tf I2 ea c n l ry λs3 I3=>⟨σ,_,I3,q2⟩
theorem KQ {op:Operator}{rd:V->V->Hp->VK->Prop}(ha:PE X o ta)(hv:PE X value tv)(hop:Xy X op rd):PS X (.AugAssign (.Attribute o f tpos) op value pos) (Ef X.K ta tv rd f):=by
 intro pins s σ H D I h;refine wpAny_AugAssign_AttributeAny (thn (ha pins s σ H _ I h) λov s1 ⟨x,H1,I1,rx,a,C,dx,fs,v,ex,ea,c,n,l,q⟩=>?_)
 subst ex;obtain rfl:ov=Value.ref a:=rx
 refine Tt I1 ea c n l λu s2 I2 ru=>thn (hv pins s2 σ H1 _ I2 q) λw3 s3 ⟨y,H2,I3,ry,q3⟩=>thn (hop pins s3 σ H2 v y u w3 _ I3 ru ry q3) λw4 s4 ⟨z,H3,I4,rz,dx',fs',ea',l',q4⟩=>?_
 exact Tf I4 ea' c n l' rz λs5 I5=>⟨σ,_,I5,q4⟩
def Z02:V->V->Hp->VK->Prop:=λx y H Q=>∃i j,x = .int i/\y = .int j/\Q (.int (i+j)) H
theorem Ig:Xy X .Add Z02:=by
 rintro pins s σ H x y u v Q I rx ry ⟨i,j,rfl,rfl,q⟩
 obtain⟨t,rfl⟩:=(show ∃t,u=Value.int i t from rx)
 obtain⟨t',rfl⟩:=(show ∃t',v=Value.int j t' from ry)
 exact PyProof.Rows.iadd_int ⟨.int (i+j),H,I.tok _,⟨_,rfl⟩,q⟩
end
section
variable {X:Cx} {pins:List (Addr×Obj)} {σ:St} {H:Hp} {s:Shared} {A:Around} {E:Value->Shared->Prop} {Q:Value->Shared->Prop} {c:Value} {b:Bool}
inductive TyOf (K:W3) (H:Hp):V->Value->Prop where
 |non:TyOf K H .non (.type "NoneType")
 |bl (x:Bool):TyOf K H (.bl x) (.type "bool")
 |int (i:Int):TyOf K H (.int i) (.type "int")
 |str (x:Str):TyOf K H (.str x) (.type "str")
 |flt (x:UInt64):TyOf K H (.flt x) (.type "float")
 |lst {a:Addr} {xs:List V} (e:H a=some (.lst xs)):TyOf K H (.ref a) (.type "list")
 |frz {a:Addr} {o:Obj} {xs:List V} (e:H a=some (.frz o (.lst xs))):TyOf K H (.ref a) (.type "list")
 |tup {a:Addr} {xs:List V} (e:H a=some (.tup xs)):TyOf K H (.ref a) (.type "tuple")
 |dK {a:Addr} {kvs:List (Key×V)} (e:H a=some (.dK kvs)):TyOf K H (.ref a) (.type "dict")
 |dT {a:Addr} {kvs:List (List Key×V)} (e:H a=some (.dT kvs)):TyOf K H (.ref a) (.type "dict")
 |ins {a C dx:Addr} {fs:List (Str×V)} (e:H a=some (.ins C dx fs)) (cl:Cls K C) (ha:WF K (.ref C) "__class__" = some (some (.builtin "object.__class__")))
   (hn:PySem.W.specialIn K (.builtin "object.__class__") "__get__" = some (some (.builtin "getset_descriptor.__get__"))) (htk:PySem.W.takesIn K (.builtin "object.__class__")=some true)
   (hm:PySem.W.mroIn K C (.type "object")=some true):TyOf K H (.ref a) (.ref C)
theorem RQ {x:V}{u t:Value}(I:Inv X pins σ H s)(rx:ZC x u)(ty:TyOf X.K H x t)(e:Vt X.K t c=some b)(h:∀tk,Q (.bool b) { s with toks:=tk }) :
  wpAny (model X.prog X.w) A (call (.builtin "isinstance") [u,c]) Q E s:=by
 cases ty with
 |non=>cases (show u=Value.none from rx);exact Ve PySem.W.kitx_none I.kIn True.intro e (λz=>nomatch z) h
 |bl y=>cases (show u=Value.bool y from rx);exact Ve PySem.W.kitx_bool I.kIn True.intro e (λz=>nomatch z) h
 |int i=>obtain⟨t,q⟩:=(show ∃t,u=Value.int i t from rx);cases q;exact Ve PySem.W.kitx_int I.kIn True.intro e (λz=>nomatch z) h
 |str y=>obtain⟨t,q⟩:=(show ∃t,u=Value.str y t from rx);cases q;exact Ve PySem.W.kitx_str I.kIn True.intro e (λz=>nomatch z) h
 |flt y=>obtain⟨t,q⟩:=(show ∃t,u=Value.float y t from rx);cases q;exact Ve PySem.W.kitx_float I.kIn True.intro e (λz=>nomatch z) h
 | @lst a xs ea=>
  cases (show u=Value.ref a from rx)
  obtain⟨_,_,n,_,h1⟩:=(show Zz X.prog X.w H s.heap a (.lst xs) from I.hok a _ ea)
  exact Ve W1l I.kIn ⟨_,h1,rfl⟩ e (λz=>nomatch z) h
 | @frz a ob xs ea=>
  cases (show u=Value.ref a from rx)
  obtain⟨_,_,_,n,_,h1⟩:=(show Zz X.prog X.w H s.heap a (.frz ob (.lst xs)) from I.hok a _ ea)
  exact Ve W1l I.kIn ⟨_,h1,rfl⟩ e (λz=>nomatch z) h
 | @tup a xs ea=>
  cases (show u=Value.ref a from rx)
  obtain⟨_,_,_,p⟩:=(show Zz X.prog X.w H s.heap a (.tup xs) from I.hok a _ ea)
  obtain⟨⟨o,h1,h2,_⟩,_⟩:=p
  exact Ve PySem.W.kitx_tuple I.kIn ⟨o,h1,h2⟩ e (λz=>nomatch z) h
 | @dK a kvs ea=>
  cases (show u=Value.ref a from rx)
  obtain⟨_,_,vs,_,p⟩:=(show Zz X.prog X.w H s.heap a (.dK kvs) from I.hok a _ ea)
  obtain⟨o,es,ep,h1,h2,_⟩:=p
  exact Ve W1m I.kIn ⟨o,h1,h2.1⟩ e (λz=>nomatch z) h
 | @dT a kvs ea=>
  cases (show u=Value.ref a from rx)
  obtain⟨_,_,xs,_,o,es,ep,h1,h2,_⟩:=(show Zz X.prog X.w H s.heap a (.dT kvs) from I.hok a _ ea)
  exact Ve W1m I.kIn ⟨o,h1,h2.1⟩ e (λz=>nomatch z) h
 | @ins a C dx fs ea cl ha hn htk hm=>
  cases (show u=Value.ref a from rx)
  obtain⟨mA,O,_⟩:=Gh I.hok ea
  obtain⟨od,J,_⟩:=O.look
  exact Ve (PySem.W.kitx_own (cl.get _) cl.hd ha hn htk hm) I.kIn J e (λz=>nomatch z) h
end
end L2
namespace L2
open PySem PySem.Spec PyProof.Rows
structure Room (k:Nat) (A:Around):Prop where
 hd:A.handled=none
 dp:A.depth+3*k+5<recursionLimit
 un:A.units+16*k+200<cLine
theorem Room.mono {j k:Nat}{A:Around}(r:Room k A)(h:j<=k):Room j A:=⟨r.hd,by have:=r.dp;omega,by have:=r.un;omega⟩
theorem Room.deeper {k:Nat}{A:Around}(r:Room (k+1) A)(env:Env):Room k (A.deeper env):=
 ⟨r.hd,by have:=r.dp;show A.depth+1+3*k+5<_;omega,by have:=r.un;show A.units+3+16*k+200<_;omega⟩
theorem MR {A:Around}{C:Addr}{us:List Value}{kw:List (Str×Value)}:(A.under (.builtin "type.__call__" ⟨.ref C :: us,kw⟩)).depth=A.depth+1:=by
 first|rfl|simp [Around.under,Code.weight,Code.isCreation,Code.isGuard,Code.isCaller,Code.frames,Code.isFrame,guardIds]
theorem MQ {A:Around}{C:Addr}{us:List Value}{kw:List (Str×Value)}:(A.under (.builtin "type.__call__" ⟨.ref C :: us,kw⟩)).units=A.units+1:=by
 first|rfl|simp [Around.under,Code.cUnits,Code.frames,Code.isFrame]
theorem Room.make {k:Nat}{A:Around}(r:Room (k+1) A)(C:Addr)(us:List Value)(kw:List (Str×Value)):Room k (A.under (.builtin "type.__call__" ⟨.ref C :: us,kw⟩)):=
 ⟨r.hd,by have:=r.dp;rw [MR];omega,by have:=r.un;rw [MQ];omega⟩
theorem Room.depth {k:Nat}{A:Around}(r:Room k A):A.depth<recursionLimit:=by have:=r.dp;omega
def Hb:TA:=λ_ H Q=>Q [] H
def Kw (ta:TE)(tr:TA):TA:=λσ H Q=>ta σ H λx H1=>tr σ H1 λxs H2=>Q (x :: xs) H2
section
variable {X:Cx} {e:Expr} {es:List Expr} {te:TE} {t:TA} {pos:Pos}
theorem YI:PA X [] Hb:=λ_ _ _ _ H Q I h=>W1n ⟨[],H,I,.nil,h⟩
theorem ZS (ha:PE X e te)(hr:PA X es t)(hs:Ws (e :: es) X.env=(false,eval e X.env) :: Ws es X.env:=by rfl):PA X (e :: es) (Kw te t):=by
 intro pos pins s σ H Q I h;rw [hs];show wpAny _ _ (spliced ((false,eval e X.env) :: backTo pos (Ws es X.env))) _ _ s
 refine W0o (thn (ha pins s σ H _ I h) λu s1 ⟨x,H1,I1,r1,q1⟩=>?_)
 exact thn (hr pos pins s1 σ H1 _ I1 q1) λus s2 ⟨xs,H2,I2,r2,q2⟩=>⟨x :: xs,H2,I2,.cons r1 r2,q2⟩
def XA (t:TA):TE:=λσ H Q=>t σ H λxs H1=>xs.length<=Wc/\∀p,H1 p=none->Q (.ref p) (upd H1 p (.tup xs))
def XE (t:TA):TE:=λσ H Q=>t σ H λxs H1=>xs.length<=Wc/\∀p,H1 p=none->Q (.ref p) (upd H1 p (.lst xs))
theorem F9 {x1}(h:PA X es t):PE X (.Tuple es x1 pos) (XA t):=by
 intro pins s σ H Q I hq;refine wpAny_Tuple_spliced (thn (h pos pins s σ H _ I hq) λus s1 ⟨xs,H1,I1,r,z,q⟩=>⟨by rw [<-r.length];exact z,?_⟩)
 have hf:H1 s1.heap.objs.size=none:=I1.hok.fresh (Wq _)
 refine⟨.ref s1.heap.objs.size,upd H1 s1.heap.objs.size (.tup xs),I1.laid (t':=s1.toks) (λb u e=>Wj _ e) (Wq _) ?_,rfl,q _ hf⟩
 exact⟨z,us,r,LV.new _ _⟩
theorem HG (h:PA X es t):PE X (.List es pos) (XE t):=by
 intro pins s σ H Q I hq;refine wpAny_List_spliced (thn (h pos pins s σ H _ I hq) λus s1 ⟨xs,H1,I1,r,z,q⟩=>⟨by rw [<-r.length];exact z,?_⟩)
 have hf:H1 s1.heap.objs.size=none:=I1.hok.fresh (Wq _)
 refine⟨.ref s1.heap.objs.size,upd H1 s1.heap.objs.size (.lst xs),I1.laid (t':=s1.toks) (λb u e=>Wj _ e) (Wq _) ?_,rfl,q _ hf⟩
 exact⟨z,us,0,r,Wt _ rfl⟩
end
abbrev Sp:=List V->Hp->VK->XK->Prop
abbrev CXT:=List Env->Hp->Shared->XK->Value->Shared->Prop
structure Env0 (P:Program) (w:World) (K:W3) (mg:Str->Option Value) (base:Heap) (A:Around) (outer:List Env) (s:Shared) (H:Hp):Prop where
 frames:A.frames=some outer
 mod:Mod K mg base
 bs:∀b o,base.get? b=some o->s.heap.get? b=some o/\H b=none
 bsz:base.objs.size<=s.heap.objs.size
 funs:s.heap.FunFrames base outer
 frf:∀b∈frs outer,H b=none
 hok:HOk P w H s.heap
 bare:AllBare s.gens
def CE (outer:List Env)(P:Program)(w:World)(H:Hp)(s:Shared)(Q:VK)(u:Value)(s':Shared):Prop:=
 ∃v H',s'.os=s.os/\AllBare s'.gens/\Un (frs outer) [] H H' s.heap s'.heap/\HOk P w H' s'.heap/\ZC v u/\Q v H'
def CR (CX:CXT)(outer:List Env)(P:Program)(w:World)(H:Hp)(s:Shared)(Q:VK)(E:XK)(r:Result)(s':Shared):Prop:=
 match r with
 | .ok (.ret u)=>CE outer P w H s Q u s'
 | .ok _=>False
 | .error e=>CX outer H s E e s'
structure FnOk (P:Program) (w:World) (K:W3) (mg:Str->Option Value) (base:Heap) (CX:CXT) (k:Nat) (f:Addr) (fd:FuncData) (ps:List Str) (sp:Sp):Prop where
 len:∀vs H Q E,sp vs H Q E->vs.length=ps.length
 run:∀(A:Around) (outer:List Env) (s:Shared) (H:Hp) (args:Args) (us:List Value) (vs:List V) (Q:VK) (E:XK),Room k A->Env0 P w K mg base A outer s H->BindsTo s fd args (ps.zip us)->Y2 vs us->sp vs H Q E->
  codeAny (model P w) A (.call (.ref f) args) (CR CX outer P w H s Q E) s
theorem Env0.make {P:Program}{w:World}{K:W3}{mg:Str->Option Value}{base:Heap}{A:Around}{outer:List Env}{s:Shared}{H:Hp}(e:Env0 P w K mg base A outer s H)(C:Addr)(us:List Value)(kw:List (Str×Value)) :
  Env0 P w K mg base (A.under (.builtin "type.__call__" ⟨.ref C :: us,kw⟩)) outer s H:=⟨by first|exact e.frames|(simpa [Around.under,Code.envs,Code.isFrame,pushEnvs] using e.frames),e.mod,e.bs,e.bsz,e.funs,e.frf,e.hok,e.bare⟩
section
variable {X:Cx} {pins:List (Addr×Obj)} {σ:St} {H:Hp} {s s':Shared}
theorem Inv.env0 (I:Inv X pins σ H s):Env0 X.prog X.w X.K X.mg X.base X.A X.stack s H:=
 ⟨I.ok.frames,I.ok.mod,I.bs,V2 I.ok.bsz I.sz,I.stack,I.stkFree,I.hok,I.bare⟩
theorem Inv.after {Q:VK}{u:Value}(I:Inv X pins σ H s)(h:CE X.stack X.prog X.w H s Q u s'):EP X pins σ Q u s':=by
 obtain⟨v,H',os,bare,un,hok,r,q⟩:=h
 obtain⟨hh,g,d,t,os'⟩:=s'
 obtain rfl:os'=s.os:=os
 exact⟨v,H',I.call (h':=hh) (g':=g) (d':=d) (t':=t) (ch:=[]) un hok bare (λb z=>absurd z (by simp)),r,q⟩
end
def Du (sp:Sp)(dvs:List V)(E:XK)(t:TA):TE:=λσ H Q=>t σ H λvs H1=>sp (vs++dvs) H1 Q E
def AV (C:Addr)(m:Str)(sp:Sp)(dvs:List V)(E:XK)(ta:TE)(t:TA):TE:=λσ H Q=>ta σ H λx H1=>∃a dx fs,x = .ref a/\H1 a=some (.ins C dx fs)/\fs.lookup m=none/\
 t σ H1 λvs H2=>sp (x :: (vs++dvs)) H2 Q E
def Hc (C:Addr)(sp:Sp)(dvs:List V)(E:XK)(t:TA):TE:=λσ H Q=>t σ H λvs H1=>∀x dx,H1 x=none->H1 dx=none->dx≠x->
 sp (.ref x :: (vs++dvs)) (upd (upd H1 dx (.own x)) x (.ins C dx [])) (λv H2=>v = .non/\Q (.ref x) H2) E
def Jm (K:W3)(fd:FuncData)(ps:List Str)(ds:List Value):Prop:=
 ∀(s:Shared) (us:List Value),K.In s.heap->(us++ds).length=ps.length->BindsTo s fd ⟨us,[]⟩ (ps.zip (us++ds))
theorem Jm.all {K:W3}{fd:FuncData}{ps:List Str}(h:∀us:List Value,us.length=ps.length->bindArgs fd ⟨us,[]⟩=pure (ps.zip us)):Jm K fd ps []:=λs us _ hl=>by
 rw [Vu] at hl ⊢
 exact .of_eq (h us hl)
def UY (CX:CXT)(X:Cx)(E:XK):Prop:=∀(pins:List (Addr×Obj)) (σ:St) (H:Hp) (s:Shared) (e:Value) (s':Shared),Inv X pins σ H s->CX X.stack H s E e s'->X.xe e s'
section
variable {X:Cx} {CX:CXT} {k:Nat} {f C:Addr} {fd:FuncData} {ps:List Str} {sp:Sp} {dvs:List V} {ds:List Value} {E:XK} {x m:Str} {p pos apos:Pos} {e o:Expr} {es:List Expr} {ta:TE} {t:TA}
theorem KI {pins:List (Addr×Obj)}{σ:St}{H:Hp}{s:Shared}{Q:VK}{us:List Value}{vs:List V}(F:FnOk X.prog X.w X.K X.mg X.base CX k f fd ps sp)(hr:Room k X.A)(hb:Jm X.K fd ps ds)(hd:Y2 dvs ds)(hx:UY CX X E)
  (I:Inv X pins σ H s) (r:Y2 vs us) (h:sp (vs++dvs) H Q E):wpAny (model X.prog X.w) X.A (call (.ref f) us) (EP X pins σ Q) X.xe s:=by
 have r2:Y2 (vs++dvs) (us++ds):=r.append hd
 have hl:(us++ds).length=ps.length:=by rw [<-r2.length];exact F.len _ _ _ _ h
 refine wpAny_call (codeAny_mono (F.run X.A X.stack s H ⟨us,[]⟩ (us++ds) (vs++dvs) Q E hr I.env0 (hb s us I.kIn hl) r2 h) λr s' hq=>?_)
 cases r with
 |error e=>exact hx pins σ H s e s' I hq
 |ok fl=>
  cases fl with
  |ret u=>exact I.after hq
  |next=>exact False.elim hq
  |brk=>exact False.elim hq
  |cont=>exact False.elim hq
theorem Ex (F:FnOk X.prog X.w X.K X.mg X.base CX k f fd ps sp)(hr:Room k X.A)(hg:Gl X x)(hm:X.mg x=some (.ref f))(hk:Wv X.K (.ref f)=true)(hb:Jm X.K fd ps ds)(hd:Y2 dvs ds)(hx:UY CX X E)
  (ha:PA X (e :: es) t) (hdb:(x == ("__debug__" : Str))=false:=by decide) (he:Ws (e :: es) X.env=(false,eval e X.env) :: Ws es X.env:=by rfl) (hpl:(backTo pos (Ws es X.env)).any (·.1)=false:=by rfl) :
  PE X (.Call (.Name x p) (e :: es) [] pos) (Du sp dvs E t):=by
 intro pins s σ H Q I h;refine Vx (Nj I hg hm ?_ hdb)
 refine W18 (h₀:=X.base) I.ok.mod.kin hk (thn (ha pos pins s σ H _ I h) λus s1 ⟨vs,H1,I1,r,q⟩=>⟨I1.kIn,?_⟩) he hpl
 exact KI F hr hb hd hx I1 r q
theorem Et {pl:Sem Bool}(he:PE X o ta)(c:Cls X.K C)(hm:Meth X.K C m f)(F:FnOk X.prog X.w X.K X.mg X.base CX k f fd ps sp)(hr:Room k X.A)(hb:Jm X.K fd ps ds)(hd:Y2 dvs ds)(hx:UY CX X E)(ha:PA X (e :: es) t)
  (hst:Ws (e :: es) X.env=(false,eval e X.env) :: Ws es X.env:=by rfl) (hpl:(backTo pos (Ws es X.env)).any (·.1)=false:=by rfl)
  (ht:eval (.Call (.Attribute o m apos) (e :: es) [] pos) X.env=(do
   let ov <-eval o X.env
   standAt apos.atName
   let (f,first) <-holding [ov] (getMethod ov m pl)
   callWith pos f first (backTo pos (Ws (e :: es) X.env)) (backToKw pos (keywordEach [] X.env))):=by rfl) :
  PE X (.Call (.Attribute o m apos) (e :: es) [] pos) (AV C m sp dvs E ta t):=by
 intro pins s σ H Q I h;refine PySem.W.methodCall_KW (pl:=pl) (thn (he pins s σ H _ I h) λu s1 ⟨x,H1,I1,rx,a,dx,fs,ex,ea,l,q⟩=>?_) ht
 subst ex;obtain rfl:u=Value.ref a:=rx
 refine Ts I1 ea c hm l ?_
 refine W18 (first:=[.ref a]) (h₀:=X.base) I.ok.mod.kin hm.kp (thn (ha pos pins s1 σ H1 _ I1 q) λus s2 ⟨vs,H2,I2,r,q2⟩=>⟨I2.kIn,?_⟩) hst hpl
 exact KI (us:=.ref a :: us) (vs:=.ref a :: vs) F hr hb hd hx I2 (.cons rfl r) q2
theorem Lf {pl:Sem Bool}(he:PE X o ta)(c:Cls X.K C)(hm:Meth X.K C m f)(F:FnOk X.prog X.w X.K X.mg X.base CX k f fd ps sp)(hr:Room k X.A)(hb:Jm X.K fd ps ds)(hd:Y2 dvs ds)(hx:UY CX X E)
  (ht:eval (.Call (.Attribute o m apos) [] [] pos) X.env=(do
   let ov <-eval o X.env
   standAt apos.atName
   let (f,first) <-holding [ov] (getMethod ov m pl)
   callWith pos f first (backTo pos (Ws [] X.env)) (backToKw pos (keywordEach [] X.env))):=by rfl) :
  PE X (.Call (.Attribute o m apos) [] [] pos) (AV C m sp dvs E ta Hb):=by
 intro pins s σ H Q I h;refine PySem.W.methodCall_KW (pl:=pl) (thn (he pins s σ H _ I h) λu s1 ⟨x,H1,I1,rx,a,dx,fs,ex,ea,l,q⟩=>?_) ht
 subst ex;obtain rfl:u=Value.ref a:=rx
 refine Ts I1 ea c hm l ?_
 exact PySem.W.callWith_K0 (first:=[.ref a]) I1.kIn hm.kp (KI (us:=[.ref a]) (vs:=[.ref a]) F hr hb hd hx I1 (.cons rfl .nil) q)
structure Mk (K:W3) (C f:Addr):Prop where
 makes:PySem.W.makesIn K C=true
 init:WF K (.ref C) "__init__" = some (some (.ref f))
 fn:V5 K (.ref f)=true
 kp:Wv K (.ref C)=true
theorem L5 {pins:List (Addr×Obj)}{σ:St}{H:Hp}{s:Shared}{Q:VK}{us:List Value}{vs:List V}(M:Mk X.K C f)(F:FnOk X.prog X.w X.K X.mg X.base CX k f fd ps sp)(hr:Room (k+1) X.A)(hb:Jm X.K fd ps ds)(hd:Y2 dvs ds)
  (hx:UY CX X E) (I:Inv X pins σ H s) (r:Y2 vs us)
  (h:∀x dx,H x=none->H dx=none->dx≠x->sp (.ref x :: (vs++dvs)) (upd (upd H dx (.own x)) x (.ins C dx [])) (λv H2=>v = .non/\Q (.ref x) H2) E) :
  wpAny (model X.prog X.w) X.A (call (.ref C) us) (EP X pins σ Q) X.xe s:=by
 have hq:=h (s.heap.objs.size+1) s.heap.objs.size (I.hok.fresh (Nat.le_succ _)) (I.hok.fresh (Wq _)) (WT (Nat.lt_succ_self _))
 have I2:=Inv.made (C:=C) I
 have r2:Y2 (V.ref (s.heap.objs.size+1) :: (vs++dvs)) (Value.ref (s.heap.objs.size+1) :: (us++ds)):=.cons rfl (r.append hd)
 have hl:(Value.ref (s.heap.objs.size+1) :: us++ds).length=ps.length:=by
  have e:=r2.length
  rw [F.len _ _ _ _ hq] at e;exact e.symm
 refine wpAny_call (Lm (f:=f) I.kIn M.makes M.init (beq_iff_eq.mp M.fn) (codeAny_mono (F.run _ X.stack _ _ ⟨Value.ref (s.heap.objs.size+1) :: us,[]⟩ (Value.ref (s.heap.objs.size+1) :: (us++ds)) _ _ E (hr.make C us [])
  (I2.env0.make C us []) (hb _ (Value.ref (s.heap.objs.size+1) :: us) I2.kIn hl) r2 hq) λr s' hq'=>?_))
 cases r with
 |error e=>exact hx pins σ _ _ e s' I2 hq'
 |ok fl=>
  cases fl with
  |ret u=>
   obtain⟨v,H',I3,rv,ev,q3⟩:=I2.after hq'
   subst ev;exact⟨rv,⟨V.ref (s.heap.objs.size+1),H',I3,rfl,q3⟩⟩
  |next=>exact False.elim hq'
  |brk=>exact False.elim hq'
  |cont=>exact False.elim hq'
theorem Eu (M:Mk X.K C f)(F:FnOk X.prog X.w X.K X.mg X.base CX k f fd ps sp)(hr:Room (k+1) X.A)(hg:Gl X x)(hm:X.mg x=some (.ref C))(hb:Jm X.K fd ps ds)(hd:Y2 dvs ds)(hx:UY CX X E)
  (ha:PA X (e :: es) t) (hdb:(x == ("__debug__" : Str))=false:=by decide) (he:Ws (e :: es) X.env=(false,eval e X.env) :: Ws es X.env:=by rfl) (hpl:(backTo pos (Ws es X.env)).any (·.1)=false:=by rfl) :
  PE X (.Call (.Name x p) (e :: es) [] pos) (Hc C sp dvs E t):=by
 intro pins s σ H Q I h;refine Vx (Nj I hg hm ?_ hdb)
 refine W18 (h₀:=X.base) I.ok.mod.kin M.kp (thn (ha pos pins s σ H _ I h) λus s1 ⟨vs,H1,I1,r,q⟩=>⟨I1.kIn,?_⟩) he hpl
 exact L5 M F hr hb hd hx I1 r q
end
section
variable {X:Cx} {CX:CXT} {k:Nat} {f C:Addr} {fd:FuncData} {ps ks:List Str} {sp:Sp} {E:XK} {x m:Str} {p pos apos kpos:Pos} {e o:Expr} {es:List Expr} {kws:List Keyword} {te ta:TE} {t tk:TA} {nm:Option Str}
variable {g:List Value->List Value->List Value} {gV:List V->List V->List V}
end
structure FnScope (N P:List Str) (sc:Scope):Prop where
 kind:sc.kind = .function
 co:sc.isCoroutine=false
 gen:sc.isGenerator=false
 nd:N.Nodup
 pre:N.take P.length=P
 par:∀x∈P,sc.names.lookup x=some .local\/sc.names.lookup x=some .cell
 nofree:∀y∈sc.names,y.2≠.free
theorem BJ {kindOf:Str->Option NameKind}{x:Str}:∀{binds:List (Str×Value)} {m:Str->Option Value},(∀v,(x,v)∉binds)->bindL kindOf binds m x=m x
 |[],_,_=>rfl
 | (n,v) :: r,m,h=>by
  unfold bindL;rw [BJ λw hw=>h w (WD _ hw)]
  split
  ·have:x≠n:=by rintro rfl;exact h v WC
   simp [this]
  ·rfl
theorem BL {kindOf:Str->Option NameKind}{x:Str}:∀{binds:List (Str×Value)} {m:Str->Option Value},(∀v,(x,v)∉binds)->bindC kindOf binds m x=m x
 |[],_,_=>rfl
 | (n,v) :: r,m,h=>by
  unfold bindC;rw [BL λw hw=>h w (WD _ hw)]
  split
  ·rfl
  ·have:x≠n:=by rintro rfl;exact h v WC
   simp [this]
theorem BK {kindOf:Str->Option NameKind}{x:Str}{v:Value}:∀{P:List Str} {vs:List Value} {i:Nat} {m:Str->Option Value},P.Nodup->P[i]? = some x->vs[i]? = some v->kindOf x=some .local->
  bindL kindOf (P.zip vs) m x=some v
 |[],_,_,_,_,h,_,_=>by simp at h
 |_ :: _,[],_,_,_,_,h,_=>by simp at h
 |p :: P,w :: vs,0,m,nd,h1,h2,hk=>by
  simp at h1 h2;subst h1;subst h2
  show bindL kindOf ((p,w) :: P.zip vs) m p=_
  unfold bindL;rw [BJ λv hv=>(W01.mp nd).1 (List.of_mem_zip hv).1,if_pos hk]
  simp
 |p :: P,w :: vs,i+1,m,nd,h1,h2,hk=>by
  show bindL kindOf ((p,w) :: P.zip vs) m x=_
  unfold bindL;exact BK (i:=i) (W01.mp nd).2 (by simpa using h1) (by simpa using h2) hk
theorem BM {kindOf:Str->Option NameKind}{x:Str}{v:Value}:∀{P:List Str} {vs:List Value} {i:Nat} {m:Str->Option Value},P.Nodup->P[i]? = some x->vs[i]? = some v->kindOf x≠some .local->
  bindC kindOf (P.zip vs) m x=some v
 |[],_,_,_,_,h,_,_=>by simp at h
 |_ :: _,[],_,_,_,_,h,_=>by simp at h
 |p :: P,w :: vs,0,m,nd,h1,h2,hk=>by
  simp at h1 h2;subst h1;subst h2
  show bindC kindOf ((p,w) :: P.zip vs) m p=_
  unfold bindC;rw [BL λv hv=>(W01.mp nd).1 (List.of_mem_zip hv).1,if_neg hk]
  simp
 |p :: P,w :: vs,i+1,m,nd,h1,h2,hk=>by
  show bindC kindOf ((p,w) :: P.zip vs) m x=_
  unfold bindC;exact BM (i:=i) (W01.mp nd).2 (by simpa using h1) (by simpa using h2) hk
def start (N:List Str)(vs:List V):St:=vs.map some++VQ (N.length-vs.length) none
def Co (CX:CXT)(P:Program)(w:World)(K:W3)(mg:Str->Option Value)(base:Heap)(N:List Str)(qual:Str)(scope:Scope)(f:Addr)(cd:Value)(A:Around)(outer:List Env)(s:Shared)(H:Hp)(E:XK):Cx where
 prog:=P
 w:=w
 K:=K
 mg:=mg
 base:=base
 A:=A.deeper (envOfC qual scope s.heap.objs.size f cd)
 N:=N
 s₀:=s
 H₀:=H
 env:=envOfC qual scope s.heap.objs.size f cd
 outer:=outer
 stack:=envOfC qual scope s.heap.objs.size f cd :: outer
 ex:=[]
 calm:=true
 fn:=λ_=>true
 pn:=[]
 xe:=λe s'=>wpAny (model P w) (A.deeper (envOfC qual scope s.heap.objs.size f cd)) (leaving (envOfC qual scope s.heap.objs.size f cd) e) (λ_ s''=>CX outer H s E e s'') (λe' s''=>CX outer H s E e' s'') s'
theorem Mz {sc:Scope}{n:Nat}{x:Str}(h:sc.names.lookup x=some .cell):∃c,(cellsFrom n sc.names []).lookup x=some c:=by
 have q:=PySem.W.cellsFrom_some sc.names n [] (.inl h)
 exact W1o.mp q
theorem RU {CX:CXT}{P:Program}{w:World}{K:W3}{mg:Str->Option Value}{base:Heap}{N ps:List Str}{qual:Str}{scope:Scope}{f:Addr}{cd:Value}{A:Around}{outer:List Env}{s s1:Shared}{H:Hp}{E:XK}{us:List Value}{vs:List V}
  (S:FnScope N ps scope) (hd:A.handled=none) (e0:Env0 P w K mg base A outer s H) (hl:vs.length=ps.length) (r:Y2 vs us)
  (x:InCallC s s.heap.objs.size (bindL (envOfC qual scope s.heap.objs.size f cd).kindOf (ps.zip us) λ_=>none) (cellsFrom (s.heap.objs.size+1) scope.names []) (bindC (envOfC qual scope s.heap.objs.size f cd).kindOf (ps.zip us) λ_=>none) s1) :
  Inv (Co CX P w K mg base N qual scope f cd A outer s H E) [] (start N vs) H s1:=by
 have hpl:ps.length<=N.length:=by have:=congrArg V4 S.pre;rw [Vy] at this;omega
 obtain⟨h1,tk,rfl,hk⟩:=x.done
 have noA:∀b:Addr,b∉(Co CX P w K mg base N qual scope f cd A outer s H E).ex:=λb z=>absurd (show b∈([]:List Addr) from z) (by simp)
 refine⟨⟨e0.mod,S.kind,rfl,rfl,Wq _,λy z c h1 h2=>?_,λy hy=>?_,λy c _ h=>?_,λ_=>hd,Around.frames_deeper e0.frames,.inr ⟨rfl,rfl⟩,λb z=>absurd z (noA b),e0.bs,e0.bsz,λb _ _=>noA b,λb z=>absurd z (noA b),e0.funs,e0.frf⟩,
  rfl,e0.bare,Un.kept hk,⟨_,x.toInCall.ns,λi y v h1 h2 h3=>?_⟩,λy c h=>⟨_,x.cell y c h⟩,e0.hok.fresh (Wq _),λy c h=>?_,λp hp=>absurd (show p∈([]:List (Addr×Obj)) from hp) (by simp),e0.hok.kept hk,?_⟩
 ·exact name_of_addr x.apart (Vr h1) (Vr h2)
 ·have hy:scope.names.lookup y=some .cell\/scope.names.lookup y=some .free:=hy
  rcases hy with hy|hy
  ·exact Mz hy
  ·exact absurd rfl (S.nofree _ (Vr hy))
 ·exact Nat.le_of_lt (x.above y c (Vr h))
 ·have hi:i<vs.length:=by
   unfold start at h2;by_cases hi:i<vs.length
   ·exact hi
   ·rw [WX (by simpa using hi)] at h2
    rw [VB] at h2;split at h2<;>cases h2
  have ha:vs[i]? = some v:=by
   unfold start at h2;rw [WU (by simpa using hi),WB] at h2
   cases e:vs[i]? with
   |none=>rw [e] at h2;cases h2
   |some a=>rw [e] at h2;cases h2;rfl
  obtain⟨u,hu,rv⟩:=r.get ha
  have hp:ps[i]? = some y:=by
   rw [<-S.pre,V6 (by omega)];exact h1
  have ndP:ps.Nodup:=by rw [<-S.pre];exact S.nd.sublist (List.take_sublist _ _)
  refine⟨u,rv,?_⟩
  rcases S.par y (Vo hp) with k|k
  ·exact .inl ⟨k,BK ndP hp hu k⟩
  ·obtain⟨c,e⟩:=Mz (n:=s.heap.objs.size+1) k
   refine .inr ⟨.inl k,c,e,?_⟩
   have q:=x.cell y c e
   rw [BM ndP hp hu (by show scope.names.lookup y≠_;rw [k];decide)] at q
   exact q
 ·exact e0.hok.fresh (Nat.le_of_lt (x.above y c (Vr h)))
 ·unfold start
  show _=N.length
  rw [WP,Wl,VN];omega
theorem OM {CX:CXT}{P:Program}{w:World}{K:W3}{mg:Str->Option Value}{base:Heap}{k:Nat}{f:Addr}{name qual:Str}{params:Arguments}{body:List Stmt}{scope:Scope}{dV kV doc pm cdv ct oc:Value}{an od:Option Addr}
  {osl:Array (Option Value)} {N ps:List Str} {sp:Sp} (lk:K.lookup f=some ⟨oc,od,.func (WE name qual params body scope dV kV doc pm an cdv ct),osl⟩) (hcd:Wy K cdv qual=true) (S:FnScope N ps scope)
  (len:∀vs H Q E,sp vs H Q E->vs.length=ps.length)
  (hbody:∀(A:Around) (outer:List Env) (s:Shared) (H:Hp) (vs:List V) (Q:VK) (E:XK),Room k (A.deeper (envOfC qual scope s.heap.objs.size f cdv))->sp vs H Q E->
   ∃t,PSs (Co CX P w K mg base N qual scope f cdv A outer s H E) body t/\t { nx:=λ_ H'=>Q .non H',rt:=Q } (start N vs) H) :
  FnOk P w K mg base CX (k+1) f (WE name qual params body scope dV kV doc pm an cdv ct) ps sp:=by
 refine⟨len,λA outer s H args us vs Q E hr e0 hb r hsp=>?_⟩
 have hl:=len _ _ _ _ hsp
 have KX:K.In s.heap:=e0.mod.kin.keeps λb o e=>(e0.bs b o e).1
 have lim:s.heap.NoLimit:=e0.mod.nolimit.keeps λb o e=>(e0.bs b o e).1
 have hkind:∀y∈ps.zip us,scope.names.lookup y.1=some .local\/(scope.names.lookup y.1=some .cell/\((cellsFrom (s.heap.objs.size+1) scope.names []).lookup y.1).isSome=true):=λ⟨n,v⟩ hy=>by
  rcases S.par n (List.of_mem_zip hy).1 with q|q
  ·exact .inl q
  ·exact .inr ⟨q,PySem.W.cellsFrom_some _ _ _ (.inl q)⟩
 refine codeAny_call_function hr.depth (KX _ _ lk) rfl S.co S.gen rfl (PySem.W.codeRec_of KX hcd) (hb _ _ _ _ ?_)
 refine wpAny_newFunctionEnv_cells S.kind hkind λenv he s1 x=>?_
 subst he;refine⟨lim.keeps x.toInCall.keep,codeAny_func ?_⟩
 obtain⟨t,ht,hq⟩:=hbody A outer s H vs Q E (hr.deeper _) hsp
 have I:Inv (Co CX P w K mg base N qual scope f cdv A outer s H E) [] (start N vs) H s1:=RU S hr.hd e0 hl r x
 refine VF (ht [] s1 (start N vs) H _ I hq) (λfl s' hs=>?_) λe s' hs=>hs
 have fin:∀{σ':St} {H':Hp} {v:V} {u:Value},Inv (Co CX P w K mg base N qual scope f cdv A outer s H E) [] σ' H' s'->ZC v u->Q v H'->CE outer P w H s Q u s':=
  λ{σ' H' v u} J rv q=>⟨v,H',J.os,J.bare,J.base,J.hok,rv,q⟩
 cases fl with
 |ret u=>
  obtain⟨v,σ',H',J,rv,q⟩:=hs
  exact fin J rv q
 |next=>
  obtain⟨σ',H',J,q⟩:=hs
  exact fin (v:=V.non) (u:=Value.none) J rfl q
 |brk=>
  obtain⟨_,_,_,q⟩:=hs
  exact False.elim q
 |cont=>
  obtain⟨_,_,_,q⟩:=hs
  exact False.elim q
end L2
namespace L2
open PySem PySem.Spec PyProof.Rows
section
variable {X:Cx} {x:Str} {p pos:Pos} {e:Expr} {es:List Expr} {t:TA} {id T:String} {r:List V->Hp->VK->Prop}
def tCB (r:List V->Hp->VK->Prop)(t:TA):TE:=λσ H Q=>t σ H λvs H1=>r vs H1 Q
theorem Jb (hc:QU X (.builtin id) r)(hg:Gl X x)(hm:X.mg x=none)(hv:WG x=some (.builtin id))(ha:PA X (e :: es) t)(hn:x≠"__name__":=by decide)(hdb:(x == ("__debug__" : Str))=false:=by decide)
  (he:Ws (e :: es) X.env=(false,eval e X.env) :: Ws es X.env:=by rfl) (hpl:(backTo pos (Ws es X.env)).any (·.1)=false:=by rfl):PE X (.Call (.Name x p) (e :: es) [] pos) (tCB r t):=by
 intro pins s σ H Q I h;refine Vx (UG I hg hm hv ?_ hn hdb)
 exact W0G (thn (ha pos pins s σ H _ I h) λus s1 ⟨vs,H1,I1,r1,q1⟩=>hc pins s1 σ H1 vs us Q I1 r1 q1) he hpl
theorem Jz (hc:QU X (.type T) r)(hg:Gl X x)(hm:X.mg x=none)(hv:WG x=some (.type T))(ha:PA X (e :: es) t)(hn:x≠"__name__":=by decide)(hdb:(x == ("__debug__" : Str))=false:=by decide)
  (he:Ws (e :: es) X.env=(false,eval e X.env) :: Ws es X.env:=by rfl) (hpl:(backTo pos (Ws es X.env)).any (·.1)=false:=by rfl):PE X (.Call (.Name x p) (e :: es) [] pos) (tCB r t):=by
 intro pins s σ H Q I h;refine Vx (UG I hg hm hv ?_ hn hdb)
 exact VH (thn (ha pos pins s σ H _ I h) λus s1 ⟨vs,H1,I1,r1,q1⟩=>hc pins s1 σ H1 vs us Q I1 r1 q1) he hpl
end
end L2
namespace HT
open PySem PyProof.Rows
section
open PySem.SeqAt
open PySem.AutoSeq1 (wpAny_loadPart')
open PySem.MeetsSeq PySem.MeetsSeq2 PySem.MeetsSeq3
end
section
variable {prog:Program} {w:World} {A:Around} {E:Value->Shared->Prop} {s:Shared}
theorem cat_tup {t b:Addr}{vs ws:List Value}{Q:Value->Shared->Prop}(ht:IsTup s.heap t vs.toArray)(hb:IsTup s.heap b ws.toArray)(hv:vs≠[])
  (h1:ws=[]->Q (.ref t) s) (h2:ws≠[]->Q (.ref s.heap.objs.size) { s with heap:=s.heap.push { cls:=.type "tuple",data:=.seq (vs++ws).toArray } })
  (hsz:vs.length+ws.length<=Wc):wpAny (model prog w) A (binaryOp .Add (.ref t) (.ref b)) Q E s:=by
 obtain⟨⟨cls,dd,data,sl⟩,ho,hc,n,hd⟩:=id ht
 obtain⟨⟨cls2,dd2,data2,sl2⟩,ho2,hc2,n2,hd2⟩:=id hb
 simp only at hc hd hc2 hd2
 subst hc hd hc2 hd2;have e:vs.toArray++ws.toArray=(vs++ws).toArray:=by simp
 by_cases hw:ws=[]
 ·exact concat_meets ⟨_,ho,rfl⟩ ⟨_,ho2,rfl⟩ noFill_tuple_add seq_tuple_add W0y W0p (W0m _ _)
   (tuple_addW1 t b vs.toArray ws.toArray n n2 dd dd2 sl sl2 (by simpa using hv) (by simp [hw])) ⟨ho,ho2,h1 hw⟩
 ·refine concat_meets ⟨_,ho,rfl⟩ ⟨_,ho2,rfl⟩ noFill_tuple_add seq_tuple_add W0y W0p (W0m _ _)
   (tuple_addW2 t b vs.toArray ws.toArray n n2 dd dd2 sl sl2 (by simpa using hv) (by simpa using hw) (by rw [Wn,Wn];exact hsz)) ⟨ho,ho2,?_⟩
  rw [e];exact h2 hw
def sIx (n d:Nat):Option Int->Nat
 |none=>d
 |some v=>if v<0 then (v+(n:Int)).toNat else min v.toNat n
theorem sIx_none (n d:Nat):sIx n d none=d:=rfl
theorem sIx_nat (n d k:Nat):sIx n d (some (k:Int))=min k n:=by
 show (if (k:Int)<0 then ((k:Int)+(n:Int)).toNat else min (k:Int).toNat n)=min k n
 rw [if_neg (by omega),W06]
theorem Hk (n d:Nat)(hd:d<=n)(o:Option Int):sIx n d o<=n:=by
 cases o with
 |none=>exact hd
 |some v=>
  show (if v<0 then (v+(n:Int)).toNat else min v.toNat n)<=n
  by_cases hv:v<0
  ·rw [if_pos hv];omega
  ·rw [if_neg hv];exact Nat.min_le_right _ _
theorem Pi (v:Int)(n d:Nat):(if v<0 then max (v+(n:Int)) 0 else min v (n:Int))=((sIx n d (some v):Nat):Int):=by
 show (if v<0 then max (v+(n:Int)) 0 else min v (n:Int))=(((if v<0 then (v+(n:Int)).toNat else min v.toNat n):Nat):Int)
 by_cases hv:v<0
 ·simp only [if_pos hv];omega
 ·simp only [if_neg hv];omega
theorem Ka (lo hi:Option Int)(n:Nat):W0a lo hi 1 (n:Int)=(((sIx n 0 lo:Nat):Int),((sIx n n hi:Nat):Int)):=by
 have h1:¬((1:Int)<0):=by omega
 unfold W0a;simp only [h1,if_false]
 refine Prod.ext ?_ ?_
 ·cases lo with
  |none=>rfl
  |some v=>exact Pi v n 0
 ·cases hi with
  |none=>rfl
  |some v=>exact Pi v n n
theorem MK (i j:Nat):VR (i:Int) (j:Int) 1=j-i:=by
 unfold VR;have h1:(1:Int)>0:=by omega
 simp only [h1,if_true,Int.ediv_one]
 split<;>omega
theorem Te {v:Value}{o:Option Int}{Q:Option Int->Shared->Prop}(p:IsPart v o)(h:Q o s):wpAny (model prog w) A (Builtin.Slice.slicePartIndex v) Q E s:=by
 cases p with
 |none=>exact slicePart_none h
 |int i t=>exact slicePart_int h
theorem QM {sl:Addr}{vl vu:Value}{lo hi:Option Int}{n:Nat}{Q:Int×Int×Nat->Shared->Prop}(hs:s.heap.IsSliceOf sl vl vu .none)(pl:IsPart vl lo)(pu:IsPart vu hi)
  (h:Q (((sIx n 0 lo:Nat):Int),1,sIx n n hi-sIx n 0 lo) s):wpAny (model prog w) A (W16 (.ref sl) (pure (n:Int))) Q E s:=by
 obtain⟨os,hos,hcs,hds⟩:=id hs
 unfold W16 Builtin.Slice.sliceFields;refine W2 (W2 (Vl hos hds (x:=vl) rfl (W2 (Vl hos hds (x:=vu) rfl (W2 (Vl hos hds (x:=.none) rfl (Wk ?_)))))))
 refine W2 (slicePart_none ?_)
 show wpAny _ _ (if ((1:Int) == 0)=true then _ else _) _ _ s
 rw [if_neg (by decide)]
 refine W2 (Te pl (W2 (Te pu (W2 (Wk ?_)))))
 show wpAny _ _ (match W0a lo hi 1 (n:Int) with|(lo,hi)=>pure (lo,(1:Int),VR lo hi 1)) _ _ s
 rw [Ka lo hi n];show wpAny _ _ (pure (((sIx n 0 lo:Nat):Int),(1:Int),VR ((sIx n 0 lo:Nat):Int) ((sIx n n hi:Nat):Int) 1)) _ _ s
 rw [MK];exact Wk h
theorem Lc (xs:Array Value)(i k:Nat):((Wo k).filterMap λ(m:Nat)=>xs[((i:Int)+(m:Int)*1).toNat]?).toArray=((xs.toList.drop i).take k).toArray:=by
 have e:(λ(m:Nat)=>xs[((i:Int)+(m:Int)*1).toNat]?)=λm=>xs[i+m]?:=by
  funext m
  have:((i:Int)+(m:Int)*1).toNat=i+m:=by omega
  rw [this]
 rw [e];have:=pick_run xs i k
 rw [List.filterMap_map] at this;have e2:((λx=>xs[x]?) ∘ λx=>i+x)=λm=>xs[i+m]?:=rfl
 rw [e2] at this;rw [this]
theorem getItem_tuple_cut {t sl:Addr}{items:Array Value}{vl vu:Value}{lo hi:Option Int}{Q:Value->Shared->Prop}(ht:IsTup s.heap t items)(hs:s.heap.IsSliceOf sl vl vu .none)(pl:IsPart vl lo)(pu:IsPart vu hi)
  (hw:¬(sIx items.size 0 lo=0/\sIx items.size items.size hi=items.size))
  (h:Q (.ref s.heap.objs.size) { s with heap:=s.heap.push { cls:=.type "tuple",data:=.seq ((items.toList.drop (sIx items.size 0 lo)).take (sIx items.size items.size hi-sIx items.size 0 lo)).toArray } })
  (hsz:items.size<=Wc):wpAny (model prog w) A (getItem (.ref t) (.ref sl)) Q E s:=by
 have htake:sizeOk (.seq ((items.toList.drop (sIx items.size 0 lo)).take (sIx items.size items.size hi-sIx items.size 0 lo)).toArray):=by
  show ((items.toList.drop (sIx items.size 0 lo)).take (sIx items.size items.size hi-sIx items.size 0 lo)).toArray.size<=Wc
  rw [Wn,Vy,List.length_drop,VW];omega
 have hj:sIx items.size items.size hi<=items.size:=Hk _ _ (Wq _) hi
 obtain⟨os,hos,hcs,hds⟩:=id hs
 have hTs:s.TypeIs (.ref sl) "slice":=⟨os,hos,hcs⟩
 unfold getItem
 try with_reducible refine Vs ?_
 first|refine W2 (Wk ?_)|skip
 refine W2 (wpAny_sequenceKey ht.typeIs (by decide) ?_)
 refine W2 (V3 (name:=Wp "__getitem__") ht.typeIs V7
  (Vg V7 ht.typeIs entry_tuple_getitem ?_ (args_tuple_getitem _ _)))
 show wpAny _ _ (W17 (.ref t) >>= _) _ _ s
 refine W2 (tupleItemsOf_ ht ?_)
 refine W2 (W19 hTs ?_)
 rw [if_pos (by decide)]
 refine W2 (QM hs pl pu ?_)
 have hno:¬((((sIx items.size 0 lo:Nat):Int) == 0&&(1:Int) == 1&&(sIx items.size items.size hi-sIx items.size 0 lo) == items.size)=true):=by
  intro q;rw [Wr,Wr] at q;have q1:((sIx items.size 0 lo:Nat):Int)=0:=eq_of_beq q.1.1
  have q2:sIx items.size items.size hi-sIx items.size 0 lo=items.size:=eq_of_beq q.2
  exact hw ⟨by omega,by omega⟩
 show wpAny _ _ (if (((sIx items.size 0 lo:Nat):Int) == 0&&(1:Int) == 1&&(sIx items.size items.size hi-sIx items.size 0 lo) == items.size)=true then _ else _) _ _ s
 rw [if_neg hno,Lc]
 first
  |exact W2 (m:=VT _) (Vb (Wk ⟨_,rfl,Wk h⟩) htake)
  |exact W2 (m:=VT _) (Vb (W2 (Wk (Wk ⟨_,rfl,Wk h⟩))) htake)
  |exact W2 (W2 (m:=VT _) (Vb (Wk (Wk ⟨_,rfl,Wk h⟩)) htake))
  |exact W2 (W2 (m:=VT _) (Vb (Wk ⟨_,rfl,Wk h⟩) htake))
end
end HT
namespace L2
open PySem PySem.Spec PyProof.Rows
abbrev TO:=St->Hp->(Option Int->Hp->Prop)->Prop
def PO (X:Cx)(e:Option Expr)(t:TO):Prop:=
 ∀(pins:List (Addr×Obj)) (s:Shared) (σ:St) (H:Hp) (Q:Option Int->Hp->Prop),Inv X pins σ H s->t σ H Q->
  wpAny (model X.prog X.w) X.A (evalPart e X.env) (λu s'=>∃o H',Inv X pins σ H' s'/\IsPart u o/\Q o H') X.xe s
def AU:TO:=λ_ H Q=>Q none H
def Dr (t:TE):TO:=λσ H Q=>t σ H λx H1=>∃i,x = .int i/\Q (some i) H1
section
variable {X:Cx} {e:Expr} {te:TE} {lo hi:Option Expr} {tl th:TO} {pos p2:Pos}
theorem Eo:PO X none AU:=by
 intro pins s σ H Q I h;rw [evalPart_none];exact Wk ⟨none,H,I,.none,h⟩
theorem Em (h:PE X e te):PO X (some e) (Dr te):=by
 intro pins s σ H Q I hw;rw [evalPart_some];refine thn (h pins s σ H _ I hw) λu s1 ⟨x,H1,I1,r1,q1⟩=>?_
 obtain⟨i,rfl,q⟩:=q1
 obtain⟨t,rfl⟩:=r1
 exact⟨some i,H1,I1,.int i t,q⟩
def SlR (X:Cx)(r:V->Option Int->Option Int->Hp->VK->Prop):Prop:=
 ∀(pins:List (Addr×Obj)) (s:Shared) (σ:St) (H:Hp) (x:V) (v vl vu:Value) (lo hi:Option Int) (sl:Addr) (Q:VK),Inv X pins σ H s->ZC x v->s.heap.IsSliceOf sl vl vu .none->IsPart vl lo->IsPart vu hi->r x lo hi H Q->
  ∃T id,typeLookup (.type T) "__getitem__" = pure (some (.builtin id))/\s.TypeIs v T/\wpAny (model X.prog X.w) X.A (getItem v (.ref sl)) (EP X pins σ Q) X.xe s
theorem SlR.or {r r':V->Option Int->Option Int->Hp->VK->Prop}(h:SlR X r)(h':SlR X r'):SlR X (λx lo hi H Q=>r x lo hi H Q\/r' x lo hi H Q):=by
 intro pins s σ H x v vl vu lo hi sl Q I rx hs pl pu q;rcases q with q|q
 ·exact h pins s σ H x v vl vu lo hi sl Q I rx hs pl pu q
 ·exact h' pins s σ H x v vl vu lo hi sl Q I rx hs pl pu q
def tSl (r:V->Option Int->Option Int->Hp->VK->Prop)(te:TE)(tl th:TO):TE:=λσ H Q=>te σ H λx H1=>tl σ H1 λl H2=>th σ H2 λu H3=>r x l u H3 Q
theorem Le {r:V->Option Int->Option Int->Hp->VK->Prop}(hr:SlR X r)(he:PE X e te)(hl:PO X lo tl)(hu:PO X hi th):PE X (.Subscript e (.Slice lo hi none p2) pos) (tSl r te tl th):=by
 intro pins s σ H Q I h;refine Subscript_ (thn (he pins s σ H _ I h) λv s1 ⟨x,H1,I1,r1,q1⟩=>?_)
 refine wpAny_Slice (thn (hl pins s1 σ H1 _ I1 q1) λvl s2 ⟨l,H2,I2,pl,q2⟩=>thn (hu pins s2 σ H2 _ I2 q2) λvu s3 ⟨u,H3,I3,pu,q3⟩=>?_)
 rw [evalPart_none];refine Wk ?_
 have I4:Inv X pins σ H3 { s3 with heap:=s3.heap.push { cls:=.type "slice",data:=.fields #[vl,vu,.none] } }:=I3.kept (t':=s3.toks) λb ob q=>Wj _ q
 obtain⟨T,id,hT,ht,hg⟩:=hr pins { s3 with heap:=s3.heap.push { cls:=.type "slice",data:=.fields #[vl,vu,.none] } } σ H3 x v vl vu l u s3.heap.objs.size Q I4 r1 (Heap.IsSliceOf.new ..) pl pu q3
 show wpAny (model X.prog X.w) X.A (subscriptTail e (.Slice lo hi none p2) v (.ref s3.heap.objs.size)) (EP X pins σ Q) X.xe { s3 with heap:=s3.heap.push { cls:=.type "slice",data:=.fields #[vl,vu,.none] } }
 exact tail_any (ops:=[.ref s3.heap.objs.size,v]) ht hT hg (by with_unfolding_all rfl)
def Pz (xs:List V)(lo hi:Option Int):List V:=(xs.drop (HT.sIx xs.length 0 lo)).take (HT.sIx xs.length xs.length hi-HT.sIx xs.length 0 lo)
theorem UR (xs:List V)(lo hi:Option Int):(Pz xs lo hi).length<=xs.length:=by
 unfold Pz;rw [Vy,List.length_drop];omega
def XY (K:W3):V->Option Int->Option Int->Hp->VK->Prop:=λx lo hi H Q=>∃a xs,x = .ref a/\SqT K H a xs/\
 ¬(HT.sIx xs.length 0 lo=0/\HT.sIx xs.length xs.length hi=xs.length)/\∀p,H p=none->Q (.ref p) (upd H p (.tup (Pz xs lo hi)))
theorem Hf:SlR X (XY X.K):=by
 intro pins s σ H x v vl vu lo hi sl Q I rx hs pl pu h;obtain⟨a,xs,rfl,hx,hw,q⟩:=h
 cases rx;obtain⟨its,r,ht,hz⟩:=I.tuple hx
 have hlen:its.toArray.size=xs.length:=by rw [Wn];exact r.length.symm
 refine⟨"tuple",_,V7.lookup,ht.typeIs,?_⟩
 refine HT.getItem_tuple_cut ht hs pl pu (by rw [hlen];exact hw) ?_ (by rw [hlen];exact hz)
 rw [hlen];refine⟨.ref s.heap.objs.size,_,I.laid (t':=s.toks) (o:=.tup (Pz xs lo hi)) (λb ob q=>Wj _ q) (Wq _) ?_,rfl,q _ (I.hok.fresh (Wq _))⟩
 exact⟨V2 (UR xs lo hi) hz,_,(r.drop (HT.sIx xs.length 0 lo)).take (HT.sIx xs.length xs.length hi-HT.sIx xs.length 0 lo),LV.new _ _⟩
def DW (K:W3):R2:=λx y H Q=>∃a b xs ys,x = .ref a/\y = .ref b/\SqT K H a xs/\SqT K H b ys/\xs≠[]/\xs.length+ys.length<=Wc/\
 (ys=[]->Q (.ref a) H)/\(ys≠[]->∀p,H p=none->Q (.ref p) (upd H p (.tup (xs++ys))))
theorem Y2.nil_iff {xs:List V}{us:List Value}(r:Y2 xs us):us=[]↔xs=[]:=by
 cases r with
 |nil=>simp
 |cons _ _=>simp
theorem EC:OpR X (binaryOp .Add) (DW X.K):=by
 intro pins s σ H x y v u Q I rx ry h;obtain⟨a,b,xs,ys,rfl,rfl,ha,hb,hx,hz,q1,q2⟩:=h
 cases rx;cases ry;obtain⟨its,r1,p1,_⟩:=I.tuple ha
 obtain⟨its2,r2,p2,_⟩:=I.tuple hb
 refine HT.cat_tup p1 p2 (λz=>hx (r1.nil_iff.mp z)) (λz=>⟨.ref a,H,I,rfl,q1 (r2.nil_iff.mp z)⟩) (λz=>?_) (by rw [<-r1.length,<-r2.length];exact hz)
 refine⟨.ref s.heap.objs.size,_,I.laid (t':=s.toks) (o:=.tup (xs++ys)) (λb ob q=>Wj _ q) (Wq _) ?_,rfl,q2 (λw=>z (r2.nil_iff.mpr w)) _ (I.hok.fresh (Wq _))⟩
 exact⟨by rw [WP];exact hz,_,r1.append r2,LV.new _ _⟩
end
end L2
namespace L2
open PySem PySem.Spec PyProof.Rows
def ixN (n:Nat)(i:Int):Option Nat:=if 0<=i then (if i<n then some i.toNat else none) else if -(n:Int)<=i then some (i+n).toNat else none
def atI {α:Type}(xs:List α)(i:Int):Option α:=(ixN xs.length i).bind λj=>xs[j]?
theorem RO {n:Nat}{i:Int}{j:Nat}(h:ixN n i=some j):seqIndex? i n=some j/\j<n/\-(n:Int)<=i/\i<n:=by
 unfold ixN at h;by_cases h0:0<=i
 ·rw [if_pos h0] at h
  by_cases h1:i<n
  ·rw [if_pos h1] at h
   have e:i.toNat=j:=WS h
   exact⟨by rw [seqIndex_of h0 h1,e],by omega,by omega,h1⟩
  ·rw [if_neg h1] at h;cases h
 ·rw [if_neg h0] at h
  by_cases h1 : -(n:Int)<=i
  ·rw [if_pos h1] at h
   have e:(i+n).toNat=j:=WS h
   exact⟨by rw [seqIndex_neg (by omega) h1,e],by omega,h1,by omega⟩
  ·rw [if_neg h1] at h;cases h
theorem NB {α:Type}{xs:List α}{i:Int}{v:α}(h:atI xs i=some v):∃j,seqIndex? i xs.length=some j/\xs[j]? = some v/\j<xs.length/\-(xs.length:Int)<=i/\i<xs.length:=by
 unfold atI at h;cases e:ixN xs.length i with
 |none=>rw [e] at h;cases h
 |some j=>
  rw [e] at h;obtain⟨h1,h2,h3,h4⟩:=RO e
  exact⟨j,h1,h,h2,h3,h4⟩
theorem Gs {α:Type}{xs:List α}{j:Nat}{v:α}(h:xs[j]? = some v):atI xs (j:Int)=some v:=by
 have hj:j<xs.length:=(Wi.mp h).1
 have e:ixN xs.length (j:Int)=some j:=by
  unfold ixN;rw [if_pos (by omega),if_pos (by omega)];simp
 unfold atI;rw [e];exact h
def Pt (b:Expr):Prop:=∀o i,subscripted b false o i=operate [o,i] (getItem o i)
def IxR (X:Cx)(r:R2):Prop:=
 ∀(value slice:Expr) (pins:List (Addr×Obj)) (s:Shared) (σ:St) (H:Hp) (x y:V) (v u:Value) (Q:VK),Inv X pins σ H s->ZC x v->ZC y u->r x y H Q->
  subscripted slice false v u=operate [v,u] (getItem v u)->wpAny (model X.prog X.w) X.A (subscriptTail value slice v u) (EP X pins σ Q) X.xe s
def MtR (X:Cx)(id:String)(r:V->List V->Hp->VK->Prop):Prop:=
 ∀(pins:List (Addr×Obj)) (s:Shared) (σ:St) (H:Hp) (x:V) (xs:List V) (v:Value) (us:List Value) (Q:VK),Inv X pins σ H s->ZC x v->Y2 xs us->r x xs H Q->
  wpAny (model X.prog X.w) X.A (call (.builtin id) (v :: us)) (EP X pins σ Q) X.xe s
section
variable {X:Cx} {a b:Expr} {ta tb:TE} {pos:Pos}
theorem IxR.or {r r':R2}(h:IxR X r)(h':IxR X r'):IxR X (λx y H Q=>r x y H Q\/r' x y H Q):=by
 intro value slice pins s σ H x y v u Q I rx ry q hs;rcases q with q|q
 ·exact h value slice pins s σ H x y v u Q I rx ry q hs
 ·exact h' value slice pins s σ H x y v u Q I rx ry q hs
theorem O1 {r:R2}(hr:IxR X r)(ha:PE X a ta)(hb:PE X b tb)(hs:Pt b):PE X (.Subscript a b pos) (tOp r ta tb):=by
 intro pins s σ H Q I h;exact Subscript_ (OR ha hb I h λv u s2 x y H2 I2 rx ry q=>hr a b pins s2 σ H2 x y v u Q I2 rx ry q (hs _ _))
def OY (K:W3):R2:=λx y H Q=>∃p xs i v,x = .ref p/\y = .int i/\SqL K H p xs/\atI xs i=some v/\Q v H
def OW (K:W3):R2:=λx y H Q=>∃p xs i v,x = .ref p/\y = .int i/\SqT K H p xs/\atI xs i=some v/\Q v H
def OX:R2:=λx y H Q=>∃z i c,x = .str z/\y = .int i/\z.length<=Wc/\atI z.cps.toList i=some c/\Q (.str ⟨#[c]⟩) H
theorem EX:IxR X (OY X.K):=by
 intro value slice pins s σ H x y v u Q I rx ry h hs;obtain⟨p,xs,i,z,rfl,rfl,hq,he,q⟩:=h
 cases rx;obtain⟨t,rfl⟩:=ry
 obtain⟨its,r,pl,hz⟩:=I.list hq
 obtain⟨j,h1,h2,h3,h4,h5⟩:=NB he
 obtain⟨w,ew,rw'⟩:=r.get h2
 have hl:=r.length
 have hn:=UE
 have fin:EP X pins σ Q w s:=⟨z,H,I,rw',q⟩
 by_cases h0:0<=i
 ·have hj:i.toNat=j:=by
   rw [seqIndex_of h0 h5] at h1;exact WS h1
  exact item_listR pl.isList h0 (by omega) (by rw [hj];simpa using ew) fin hs
 ·have hj:(i+(its.toArray.size:Int)).toNat=j:=by
   rw [seqIndex_neg (by omega) h4] at h1
   rw [Wn,<-hl];exact WS h1
  exact subscriptTail_builtinR (x:=w) pl.isList.typeIs slot_list_getitem.lookup
   (wpAny_getItem_list_neg (Q:=λr s'=>r=w/\EP X pins σ Q r s') pl.isList (by omega) (by rw [Wn]<;>omega) (by omega) (by rw [hj];simpa using ew) ⟨rfl,fin⟩) hs
theorem SY:IxR X (OW X.K):=by
 intro value slice pins s σ H x y v u Q I rx ry h hs;obtain⟨p,xs,i,z,rfl,rfl,hq,he,q⟩:=h
 cases rx;obtain⟨t,rfl⟩:=ry
 obtain⟨its,r,pl,hz⟩:=I.tuple hq
 obtain⟨j,h1,h2,h3,h4,h5⟩:=NB he
 obtain⟨w,ew,rw'⟩:=r.get h2
 have hl:=r.length
 have hn:=UE
 have fin:EP X pins σ Q w s:=⟨z,H,I,rw',q⟩
 exact subscriptTail_builtinR (x:=w) pl.typeIs slot_tuple_getitem.lookup
  (getItem_tuple (j:=j) (Q:=λr s'=>r=w/\EP X pins σ Q r s') pl (by omega) (by omega) (by rw [Wn,<-hl];exact h1) (by simpa using ew) ⟨rfl,fin⟩) hs
theorem SZ:IxR X OX:=by
 intro value slice pins s σ H x y v u Q I rx ry h hs;obtain⟨z,i,c,rfl,rfl,hz,he,q⟩:=h
 obtain⟨t,rfl⟩:=rx
 obtain⟨t',rfl⟩:=ry
 obtain⟨j,h1,h2,h3,h4,h5⟩:=NB he
 have hl:z.cps.toList.length=z.length:=by simp [Str.length]
 rw [hl] at h1 h4 h5;have hn:=UE
 exact tail_any (typeIs_str s z t) slot_str_getitem.lookup (getItem_str (c:=c) (by
  have e1:decide (i < -(2 ^ 63:Int))=false:=decide_eq_false (by omega)
  have e2:decide (i>=2 ^ 63)=false:=decide_eq_false (by omega)
  rw [e1,e2,Bool.or_false]) (by rw [h1];simpa using h2) ⟨.str ⟨#[c]⟩,H,I.tok _,⟨_,rfl⟩,q⟩) hs
def rIx (K:W3):R2:=λx y H Q=>OY K x y H Q\/OW K x y H Q\/OX x y H Q
theorem Ia:IxR X (rIx X.K):=EX.or (SY.or SZ)
theorem MP (its:List Value)(n j:Nat)(u:Value):Vc (·.setIfInBounds j u) { cls:=.type "list",data:=.seq its.toArray n }={ cls:=.type "list",data:=.seq (its.set j u).toArray n }:=by
 simp [Vc]
theorem Inv.lst {pins:List (Addr×Obj)}{σ:St}{H:Hp}{s:Shared}{p:Addr}{xs:List V}(I:Inv X pins σ H s)(h:H p=some (.lst xs)) :
  ∃(its:List Value) (n:Nat),Y2 xs its/\s.heap.get? p=some { cls:=.type "list",data:=.seq its.toArray n }/\xs.length<=Wc:=by
 obtain⟨z,its,n,r,e⟩:=I.hok p _ h
 exact⟨its,n,r,e,z⟩
theorem Inv.lstUpd {pins:List (Addr×Obj)}{σ:St}{H:Hp}{s:Shared}{p:Addr}{xs ys:List V}{its its':List Value}{n n':Nat}{f:Obj->Obj}(I:Inv X pins σ H s)(h:H p=some (.lst xs))
  (ho:s.heap.get? p=some { cls:=.type "list",data:=.seq its.toArray n }) (hf:f { cls:=.type "list",data:=.seq its.toArray n }={ cls:=.type "list",data:=.seq its'.toArray n' }) (r:Y2 ys its') (hz:ys.length<=Wc) (t:Nat) :
  Inv X pins σ (upd H p (.lst ys)) { s with heap:=s.heap.update p f,toks:=t }:=by
 have e:(s.heap.update p f).get? p=some { cls:=.type "list",data:=.seq its'.toArray n' }:=by
  rw [W0H f ho (by rw [hf]<;>rfl),hf]
 refine I.write (x:=p) (e:=p) (by rw [h];trivial) (.inl rfl) (λb u hb q=>(Heap.get?_update_other _ _ (Ne.symm hb)).trans q) ⟨_,e⟩ ?_
 exact⟨hz,its',n',r,e⟩
def DV:V->V->V->Hp->(Hp->Prop)->Prop:=λo i v H Q=>∃p xs k j,o = .ref p/\i = .int k/\H p=some (.lst xs)/\ixN xs.length k=some j/\Q (upd H p (.lst (xs.set j v)))
theorem PV:AM X DV:=by
 intro pins s σ H o i v ov iv u Q I ro ri rv h;obtain⟨p,xs,k,j,rfl,rfl,hp,hj,q⟩:=h
 cases ro;obtain⟨t,rfl⟩:=ri
 obtain⟨its,n,r,ho,hz⟩:=I.lst hp
 obtain⟨h1,h2,h3,h4⟩:=RO hj
 have hl:=r.length
 have hn:=UE
 have I':Inv X pins σ (upd H p (.lst (xs.set j v))) { s with heap:=s.heap.update p (Vc (·.setIfInBounds j u)) }:=
  I.lstUpd hp ho (MP its n j u) (r.set rv j) (by rw [List.length_set];exact hz) s.toks
 by_cases h0:0<=k
 ·have hk:k.toNat=j:=by
   rw [seqIndex_of h0 h4] at h1;exact WS h1
  exact PySem.W.ki_setAt ho h0 (by omega) (by rw [Wn,<-hl];exact h4) (by rw [hk];exact⟨_,I',q⟩)
 ·have hk:(k+(its.toArray.size:Int)).toNat=j:=by
   rw [seqIndex_neg (by omega) h3] at h1
   rw [Wn,<-hl];exact WS h1
  exact PySem.W.ki_setBack ho (by omega) (by rw [Wn,<-hl];exact h3) (by omega) (by rw [hk];exact⟨_,I',q⟩)
theorem GJ (lo hi:Option Int)(n:Nat):(sliceBounds lo hi none n).1=((HT.sIx n 0 lo:Nat):Int)/\(sliceBounds lo hi none n).2.1=((HT.sIx n n hi:Nat):Int)/\(sliceBounds lo hi none n).2.2=1:=by
 refine⟨?_,?_,rfl⟩
 ·cases lo with
  |none=>simp [sliceBounds,HT.sIx]
  |some i=>
   simp only [sliceBounds,HT.sIx,Option.getD_none,show (1:Int)>0 by decide,if_true]
   by_cases h:i<0
   ·simp only [h,if_true]<;>omega
   ·simp only [h,if_false]<;>omega
 ·cases hi with
  |none=>simp [sliceBounds,HT.sIx]
  |some i=>
   simp only [sliceBounds,HT.sIx,Option.getD_none,show (1:Int)>0 by decide,if_true]
   by_cases h:i<0
   ·simp only [h,if_true]<;>omega
   ·simp only [h,if_false]<;>omega
theorem TL (its:List Value)(lo hi:Option Int):slicePick its.toArray lo hi none=((its.drop (HT.sIx its.length 0 lo)).take (HT.sIx its.length its.length hi-HT.sIx its.length 0 lo)).toArray:=by
 obtain⟨h1,h2,h3⟩:=GJ lo hi its.toArray.size
 unfold slicePick;rw [h1,h2,h3];simp only [sliceRange_one,pick_run,Wn]<;>rfl
def XZ (K:W3):V->Option Int->Option Int->Hp->VK->Prop:=λx lo hi H Q=>∃a xs,x = .ref a/\SqL K H a xs/\∀p,H p=none->Q (.ref p) (upd H p (.lst (Pz xs lo hi)))
theorem Kz:SlR X (XZ X.K):=by
 intro pins s σ H x v vl vu lo hi sl Q I rx hs pl pu h;obtain⟨a,xs,rfl,hx,q⟩:=h
 cases rx;obtain⟨its,r,ht,hz⟩:=I.list hx
 have hlen:=r.length
 refine⟨"list",_,slot_list_getitem.lookup,ht.isList.typeIs,?_⟩
 refine wpAny_getItem_list_slice ht.isList hs pl pu .none (by simp) ?_ (by rw [Wn]<;>omega)
 rw [TL,<-hlen];refine⟨.ref s.heap.objs.size,_,I.laid (t':=s.toks) (o:=.lst (Pz xs lo hi)) (λb ob q=>Wj _ q) (Wq _) ?_,rfl,q _ (I.hok.fresh (Wq _))⟩
 exact⟨V2 (UR xs lo hi) hz,_,0,(r.drop (HT.sIx xs.length 0 lo)).take (HT.sIx xs.length xs.length hi-HT.sIx xs.length 0 lo),Wt _ rfl⟩
theorem BF:QU X (.builtin "len") (λxs H Q=>∃p ys,xs=[.ref p]/\(SqL X.K H p ys\/SqT X.K H p ys)/\Q (.int ys.length) H):=by
 intro pins s σ H xs us Q I r h;obtain⟨p,ys,rfl,hq,q⟩:=h
 obtain⟨u,rfl,rx⟩:=TD r
 cases rx;have hn:=UE
 rcases hq with hq|hq
 ·obtain⟨its,r',pl,hz⟩:=I.list hq
  have hlen:=r'.length
  exact Calls.call_len_list pl.isList (by simp only [Wn]<;>omega) ⟨.int ys.length,H,I.tok _,⟨s.toks+1,by rw [Wn,hlen]⟩,q⟩
 ·obtain⟨its,r',pl,hz⟩:=I.tuple hq
  have hlen:=r'.length
  exact len_tuple pl (by simp only [Wn]<;>omega) ⟨.int ys.length,H,I.tok _,⟨s.toks+1,by rw [Wn,hlen]⟩,q⟩
theorem BE:QU X (.builtin "len") (λxs H Q=>∃z,xs=[.str z]/\z.length<=Wc/\Q (.int z.length) H):=by
 intro pins s σ H xs us Q I r h;obtain⟨z,rfl,hz,q⟩:=h
 obtain⟨u,rfl,t,rfl⟩:=TD r
 have hn:=UE
 exact len_str (by omega) ⟨.int z.length,H,I.tok _,⟨_,rfl⟩,q⟩
theorem QU.or {f:Value}{r r':List V->Hp->VK->Prop}(h:QU X f r)(h':QU X f r'):QU X f (λxs H Q=>r xs H Q\/r' xs H Q):=by
 intro pins s σ H xs us Q I rs q;rcases q with q|q
 ·exact h pins s σ H xs us Q I rs q
 ·exact h' pins s σ H xs us Q I rs q
theorem BD:QU X (.type "list") (λxs H Q=>∃p ys,xs=[.ref p]/\(SqL X.K H p ys\/SqT X.K H p ys)/\∀l,H l=none->Q (.ref l) (upd H l (.lst ys))):=by
 intro pins s σ H xs us Q I r h;obtain⟨p,ys,rfl,hq,q⟩:=h
 obtain⟨u,rfl,rx⟩:=TD r
 cases rx;have fin:∀(its:List Value),Y2 ys its->ys.length<=Wc->∀(h':Heap) (c':Nat),(∀b o',s.heap.get? b=some o'->h'.get? b=some o')->
   h'.get? s.heap.objs.size=some { cls:=.type "list",dict:=none,data:=.seq its.toArray c',slots:=#[] }->EP X pins σ Q (.ref s.heap.objs.size) { s with heap:=h' }:=λits r' hz h' c' kp e=>
  ⟨.ref s.heap.objs.size,_,I.laid (t':=s.toks) kp (Wq _) (show Zz X.prog X.w _ h' _ (.lst ys) from ⟨hz,its,c',r',e⟩),rfl,q _ (I.hok.fresh (Wq _))⟩
 rcases hq with hq|hq
 ·obtain⟨its,r',pl,hz⟩:=I.list hq
  have hlen:=r'.length
  obtain⟨o,ho,hc,n,hd⟩:=pl.isList
  exact call_list_seq p (.inl rfl) ho hc hd (λh' c' kp e=>fin its r' hz h' c' kp e) (by simp only [Wn]<;>omega)
 ·obtain⟨its,r',pl,hz⟩:=I.tuple hq
  have hlen:=r'.length
  obtain⟨o,ho,hc,n,hd⟩:=pl
  exact call_list_seq p (.inr rfl) ho hc hd (λh' c' kp e=>fin its r' hz h' c' kp e) (by simp only [Wn]<;>omega)
theorem JJ:QU X (.type "tuple") (λxs H Q=>∃p ys,xs=[.ref p]/\((SqL X.K H p ys/\∀l,H l=none->Q (.ref l) (upd H l (.tup ys)))\/(SqT X.K H p ys/\Q (.ref p) H))):=by
 intro pins s σ H xs us Q I r h;obtain⟨p,ys,rfl,h⟩:=h
 obtain⟨u,rfl,rx⟩:=TD r
 cases rx;rcases h with ⟨hq,q⟩|⟨hq,q⟩
 ·obtain⟨its,r',pl,hz⟩:=I.list hq
  have hlen:=r'.length
  refine call_tuple_list pl.isList (λh' kp=>?_) (by simp only [Wn]<;>omega)
  have I1:Inv X pins σ H { s with heap:=h' }:=I.kept (t':=s.toks) kp
  have I2:Inv X pins σ (upd H h'.objs.size (.tup ys)) { s with heap:=h'.push { cls:=.type "tuple",data:=.seq its.toArray } }:=
   I1.laid (t':=s.toks) (λb o e=>Wj _ e) (Wq _) (show Zz X.prog X.w _ _ _ (.tup ys) from ⟨hz,its,r',LV.new _ _⟩)
  exact⟨.ref h'.objs.size,_,I2,rfl,q _ (I1.hok.fresh (Wq _))⟩
 ·obtain⟨its,r',pl,hz⟩:=I.tuple hq
  exact call_tuple_same pl ⟨.ref p,H,I,rfl,q⟩
def tyV (K:W3)(T:String)(x:V)(H:Hp):Prop:=match x with
 | .str _=>T = "str"
 | .int _=>T = "int"
 | .ref p=>(T = "list"/\∃xs,SqL K H p xs)\/(T = "tuple"/\∃o,K.lookup p=some o/\o.cls = .type "tuple"/\o.dict=none)\/
   (T = "dict"/\((∃kvs,H p=some (.dK kvs))\/∃kvs,H p=some (.dT kvs)))\/(T = "set"/\∃S n,H p=some (.set S n))
 |_=>False
theorem F0 {pins:List (Addr×Obj)}{σ:St}{H:Hp}{s:Shared}{T:String}{x:V}{v:Value}(I:Inv X pins σ H s)(r:ZC x v)(ty:tyV X.K T x H) :
  s.TypeIs v T/\∀a,v = .ref a->∃ob,s.heap.get? a=some ob/\ob.dict=none:=by
 cases x with
 |str z=>
  obtain⟨t,rfl⟩:=r
  cases (show T = "str" from ty)
  exact⟨typeIs_str s z t,λ_ e=>nomatch e⟩
 |int i=>
  obtain⟨t,rfl⟩:=r
  cases (show T = "int" from ty)
  exact⟨typeIs_int s i t,λ_ e=>nomatch e⟩
 |ref p=>
  cases r;rcases ty with ⟨rfl,xs,hq⟩|⟨rfl,o,hk,hc,hd⟩|⟨rfl,hk⟩|⟨rfl,S,n,hk⟩
  ·obtain⟨its,_,pl,_⟩:=I.list hq
   refine⟨pl.isList.typeIs,λa e=>?_⟩
   cases e;obtain⟨o,n,e,c,hd,_⟩:=pl
   exact⟨o,e,hd⟩
  ·refine⟨⟨o,I.kIn p o hk,hc⟩,λa e=>?_⟩
   cases e;exact⟨o,I.kIn _ o hk,hd⟩
  ·have z:∃o,s.heap.get? p=some o/\o.ExactDict:=by
    rcases hk with ⟨kvs,hk⟩|⟨kvs,hk⟩
    ·obtain⟨_,_,_,_,o,_,_,e,ex,_⟩:=I.hok p _ hk
     exact⟨o,e,ex⟩
    ·obtain⟨_,_,_,_,o,_,_,e,ex,_⟩:=I.hok p _ hk
     exact⟨o,e,ex⟩
   obtain⟨o,e,ex⟩:=z
   refine⟨⟨o,e,ex.1⟩,λa e2=>?_⟩
   cases e2;exact⟨o,e,ex.2.1⟩
  ·obtain⟨o,_,_,_,e,ex,_⟩:=I.hok p _ hk
   refine⟨⟨o,e,ex.1⟩,λa e2=>?_⟩
   cases e2;exact⟨o,e,ex.2.1⟩
 |_=>exact False.elim ty
def tBM (K:W3)(T:String)(r:V->List V->Hp->VK->Prop)(to:TE)(t:TA):TE:=λσ H Q=>to σ H λx H1=>tyV K T x H1/\t σ H1 λxs H2=>r x xs H2 Q
variable {o e:Expr} {es:List Expr} {to:TE} {t:TA} {name:Str} {apos cpos:Pos} {T id:String} {r:V->List V->Hp->VK->Prop}
theorem O2 (pa:PlainAttrs T)(slot:Slot T name id)(hty:typeOf (.builtin id)=pure (.type "method_descriptor"))(hm:MtR X id r)(ho:PE X o to)(ha:PA X (e :: es) t)
  (hbase:attributeBase o name X.env (eval o X.env)=eval o X.env:=by rfl)
  (hfew:((backTo cpos (Ws (e :: es) X.env)).all (λx=>!x.1)&&(backToKw cpos (keywordEach [] X.env)).all (λx=>x.1.isSome)
   && decide ((e :: es).length+([]:List Keyword).length+(if ([]:List Keyword).isEmpty then 0 else 1)<30))=true:=by rfl)
  (hline:(apos.endLine == cpos.line)=true:=by rfl) (hs:Ws (e :: es) X.env=(false,eval e X.env) :: Ws es X.env:=by rfl) (hplain:(backTo cpos (Ws es X.env)).any (·.1)=false:=by rfl) :
  PE X (.Call (.Attribute o name apos) (e :: es) [] cpos) (tBM X.K T r to t):=by
 intro pins s σ H Q I h;refine wpAny_Call_method_late hbase hfew hline rfl (thn (ho pins s σ H _ I h) λv s1 ⟨x,H1,I1,r1,ty,q1⟩=>?_)
 obtain⟨h1,h2⟩:=F0 I1 r1 ty
 refine⟨T,id,pa,slot,hty,h1,h2,?_⟩
 have hA:=ha cpos pins s1 σ H1 _ I1 q1
 rw [hs] at hA ⊢
 refine W0z (by show (false||(backTo cpos (Ws es X.env)).any (·.1))=false;rw [hplain]<;>rfl) (Calls.evalArgs_plain ?_)
 exact thn hA λus s2 ⟨vs,H2,I2,r2,q2⟩=>hm pins s2 σ H2 x vs v us Q I2 r1 r2 q2
/- xs.append(e),list.index on a module's tuple .. are MtR facts of 06m -/
end
end L2
namespace L2
open PySem PySem.Spec PyProof.Rows
theorem Y2.one:∀{x:V} {us:List Value},Y2 [x] us->∃u,us=[u]/\ZC x u
 |_,_,.cons r .nil=>⟨_,rfl,r⟩
section
variable {X:Cx} {pins:List (Addr×Obj)} {σ:St} {H:Hp} {s:Shared} {l b:Addr} {xs ys zs:List V}
theorem Inv.lnew {its:List Value}{t':Nat}(I:Inv X pins σ H s)(hv:Y2 ys its)(hz:ys.length<=Wc) :
  Inv X pins σ (upd H s.heap.objs.size (.lst ys)) { s with heap:=s.heap.push { cls:=.type "list",data:=.seq its.toArray },toks:=t' }:=
 I.laid (λ_ _ q=>Wj _ q) (Wq _) ⟨hz,its,0,hv,Wt _ rfl⟩
theorem Inv.fresh (I:Inv X pins σ H s):H s.heap.objs.size=none:=I.hok.fresh (Wq _)
theorem Inv.lstM (I:Inv X pins σ H s)(hH:H l=some (.lst xs)):xs.length<=Wc/\∃(its:List Value) (n:Nat),Y2 xs its/\xs.length=its.length/\s.heap.get? l=some { cls:=.type "list",data:=.seq its.toArray n }:=by
 obtain⟨z,its,n,r,e⟩:=I.hok l _ hH
 exact⟨z,its,n,r,r.length,e⟩
end
section
variable {X:Cx}
def Z01:R2:=λx y H Q=>∃l b xs zs,x = .ref l/\y = .ref b/\H l=some (.lst xs)/\H b=some (.lst zs)/\xs.length+zs.length<=Wc/\∀p,H p=none->Q (.ref p) (upd H p (.lst (xs++zs)))
theorem HQ:OpR X (binaryOp .Add) Z01:=by
 intro pins s σ H x y v u Q I rx ry h;obtain⟨l,b,xs,zs,rfl,rfl,hH,hB,hz,q⟩:=h
 cases rx;cases ry;obtain⟨z,its,n,r,hl,e⟩:=I.lstM hH
 obtain⟨z2,its2,n2,r2,hl2,e2⟩:=I.lstM hB
 refine PySem.P.add_list e e2 ?_ (by rw [Wn,Wn];omega)
 have ea:its.toArray++its2.toArray=(its++its2).toArray:=by simp
 rw [ea];exact⟨.ref _,_,I.lnew (t':=s.toks) (r.append r2) (by rw [WP];omega),rfl,q _ I.fresh⟩
end
section
variable {prog:Program} {w:World} {A:Around} {E:Value->Shared->Prop} {s:Shared}
end
section
variable {X:Cx}
end
end L2
namespace L2
open PySem PySem.Spec PyProof.Rows
section
variable {κ:Type} [DecidableEq κ]
def Ke (kvs:List (κ×V))(k:κ):Option V:=(kvs.find? λkv=>decide (kv.1=k)).map (·.2)
def T6 (kvs:List (κ×V))(k:κ)(v:V):List (κ×V):=
 if (kvs.any λkv=>decide (kv.1=k))=true then kvs.map (λkv=>if kv.1=k then (kv.1,v) else kv) else kvs++[(k,v)]
theorem Ug {p:κ×V}{r:List (κ×V)}{k:κ}(e:p.1=k):Ke (p :: r) k=some p.2:=by simp [Ke,Vm,e]
theorem Uh {p:κ×V}{r:List (κ×V)}{k:κ}(e:¬p.1=k):Ke (p :: r) k=Ke r k:=by simp [Ke,Vm,e]
theorem NF (k:κ):∀kvs:List (κ×V),(kvs.any λkv=>decide (kv.1=k))=(Ke kvs k).isSome
 |[]=>rfl
 |p :: r=>by
  rw [W07];by_cases e:p.1=k
  ·simp only [Ug e,decide_eq_true e,Bool.true_or,Option.isSome_some]
  ·rw [Uh e,decide_eq_false e,Bool.false_or];exact NF k r
theorem QD (kvs:List (κ×V))(k:κ)(v:V):(T6 kvs k v).length<=kvs.length+1:=by
 unfold T6;split
 ·rw [Wl];omega
 ·rw [WP,WR,List.length_nil];omega
theorem Gu.isSome_eq {o:Option V}{u:Option Value}(r:Gu o u):o.isSome=u.isSome:=by
 cases o with
 |none=>cases u with
  |none=>rfl
  |some _=>exact (show False from r).elim
 |some _=>cases u with
  |none=>exact (show False from r).elim
  |some _=>rfl
theorem Gu.getD {o:Option V}{u:Option Value}{d:V}{d':Value}(r:Gu o u)(rd:ZC d d'):ZC (o.getD d) (u.getD d'):=by
 cases o with
 |none=>cases u with
  |none=>exact rd
  |some _=>exact (show False from r).elim
 |some _=>cases u with
  |none=>exact (show False from r).elim
  |some _=>exact r
theorem KV.val {kvs:List (κ×V)}{vs:List (κ×Value)}(r:KV kvs vs)(k:κ):Gu (Ke kvs k) (valueAt vs k):=by
 unfold KV at r
 induction r with
 |nil=>exact True.intro
 | @cons p q ps qs h t ih=>
  obtain⟨h1,h2⟩:=h
  by_cases e:p.1=k
  ·have e':q.1=k:=h1.symm.trans e
   have b:valueAt (q :: qs) k=some q.2:=by simp [valueAt,Vm,e']
   rw [Ug e,b];exact h2
  ·have e':¬q.1=k:=λz=>e (h1.trans z)
   have b:valueAt (q :: qs) k=valueAt qs k:=by simp [valueAt,Vm,e']
   rw [Uh e,b];exact ih
theorem KV.any {kvs:List (κ×V)}{vs:List (κ×Value)}(r:KV kvs vs)(k:κ):(kvs.any λkv=>decide (kv.1=k))=vs.any λkv=>decide (kv.1=k):=by
 unfold KV at r
 induction r with
 |nil=>rfl
 |cons h t ih=>rw [W07,W07,ih,h.1]
theorem KV.repl {kvs:List (κ×V)}{vs:List (κ×Value)}(r:KV kvs vs)(k:κ){y:V}{u:Value}(ry:ZC y u) :
  KV (kvs.map λkv=>if kv.1=k then (kv.1,y) else kv) (vs.map λkv=>if kv.1=k then (kv.1,u) else kv):=by
 unfold KV at r ⊢
 induction r with
 |nil=>exact .nil
 | @cons p q ps qs h t ih=>
  rw [W0,W0];refine .cons ?_ ih
  obtain⟨h1,h2⟩:=h
  by_cases e:p.1=k
  ·rw [if_pos e,if_pos (h1.symm.trans e)];exact⟨h1,ry⟩
  ·rw [if_neg e,if_neg (λz=>e (h1.trans z))];exact⟨h1,h2⟩
theorem KV.put {kvs:List (κ×V)}{vs:List (κ×Value)}(r:KV kvs vs)(k:κ){y:V}{u:Value}(ry:ZC y u):KV (T6 kvs k y) (stored vs k u):=by
 unfold T6 stored;rw [r.any k];by_cases e:(vs.any λkv=>decide (kv.1=k))=true
 ·rw [if_pos e,if_pos e];exact r.repl k ry
 ·rw [if_neg e,if_neg e];exact Paired.snoc r ⟨rfl,ry⟩
theorem KV.length {kvs:List (κ×V)}{vs:List (κ×Value)}(r:KV kvs vs):kvs.length=vs.length:=VV r
end
theorem Bk {P:Program}{w:World}{k:Key}{u:Value}(r:ZC (kV k) u):(ZT P w).is k u=true:=by
 cases k with
 |inl i=>obtain⟨t,e⟩:=(show ∃t,u=Value.int i t from r);subst e;exact N3 P w i t
 |inr x=>obtain⟨t,e⟩:=(show ∃t,u=Value.str x t from r);subst e;exact N2 P w x t
theorem Bm {P:Program}{w:World}:∀{ks:List Key} {us:List Value},Y2 (ks.map kV) us->ItemsAre (ZT P w) ks us
 |[],_,r=>by rw [Wb] at r;cases r;exact .nil
 |k :: ks,_,r=>by
  rw [W0] at r;cases r with
  |cons h t=>exact .cons (Bk h) (Bm t)
abbrev KT (H:Hp):List (List Key×V)->List (List Key×Addr×Value)->Prop:=Paired λp q=>p.1=q.1/\H q.2.1=some (.tup (p.1.map kV))/\ZC p.2 q.2.2
theorem KT.val {H:Hp}{kvs:List (List Key×V)}{xs:List (List Key×Addr×Value)}(r:KT H kvs xs)(k:List Key):Gu (Ke kvs k) ((atKey xs k).map (·.2)):=by
 induction r with
 |nil=>exact True.intro
 | @cons p q ps qs h t ih=>
  obtain⟨h1,_,h2⟩:=h
  by_cases e:p.1=k
  ·have e':q.1=k:=h1.symm.trans e
   have b:atKey (q :: qs) k=some q.2:=by simp [atKey,Vm,e']
   rw [Ug e,b];exact h2
  ·have e':¬q.1=k:=λz=>e (h1.trans z)
   have b:atKey (q :: qs) k=atKey qs k:=by simp [atKey,Vm,e']
   rw [Uh e,b];exact ih
theorem KT.repl {H:Hp}{kvs:List (List Key×V)}{xs:List (List Key×Addr×Value)}(r:KT H kvs xs)(k:List Key){y:V}{u:Value}(ry:ZC y u) :
  KT H (kvs.map λkv=>if kv.1=k then (kv.1,y) else kv) (xs.map (putAt k u)):=by
 induction r with
 |nil=>exact .nil
 | @cons p q ps qs h t ih=>
  rw [W0,W0];refine .cons ?_ ih
  obtain⟨h1,h2,h3⟩:=h
  unfold putAt;by_cases e:p.1=k
  ·rw [if_pos e,if_pos (h1.symm.trans e)];exact⟨h1,h2,ry⟩
  ·rw [if_neg e,if_neg (λz=>e (h1.trans z))];exact⟨h1,h2,h3⟩
theorem KT.put {H:Hp}{kvs:List (List Key×V)}{xs:List (List Key×Addr×Value)}(r:KT H kvs xs)(k:List Key){b:Addr}{y:V}{u:Value}(hb:H b=some (.tup (k.map kV)))(ry:ZC y u) :
  KT H (T6 kvs k y) (storedH xs k b u):=by
 have e:(kvs.any λkv=>decide (kv.1=k))=(atKey xs k).isSome:=by
  rw [NF,(r.val k).isSome_eq,Option.isSome_map]
 unfold T6 storedH;rw [e];by_cases q:(atKey xs k).isSome=true
 ·rw [if_pos q,if_pos q];exact r.repl k ry
 ·rw [if_neg q,if_neg q];exact Paired.snoc r ⟨rfl,hb,ry⟩
theorem KT.keeps {H H':Hp}{kvs:List (List Key×V)}{xs:List (List Key×Addr×Value)}(r:KT H kvs xs)(ht:∀b ys,H b=some (.tup ys)->H' b=some (.tup ys)):KT H' kvs xs:=
 Paired.mapP r λ_ _ z=>⟨z.1,ht _ _ z.2.1,z.2.2⟩
section
variable {P:Program} {w:World} {H:Hp} {h:Heap} {a:Addr}
theorem Hl {u:HO}(ok:HOk P w H h)(e:Rd H a u):Zz P w H h a u:=e.ok ok
theorem BB {kvs:List (Key×V)}(ok:HOk P w H h)(e:Rd H a (.dK kvs)):kvs.length<=Wc/\(a == sysModules)=false/\∃vs,KV kvs vs/\h.DictOf (ZT P w) a vs:=
 show Zz P w H h a (.dK kvs) from Hl ok e
theorem IZ {kvs:List (Key×V)}(ok:HOk P w H h)(e:H a=some (.dK kvs)):kvs.length<=Wc/\(a == sysModules)=false/\∃vs,KV kvs vs/\h.DictOf (ZT P w) a vs:=BB ok (.inl e)
theorem Ba {ks:List Key}(ok:HOk P w H h)(e:H a=some (.tup (ks.map kV))):(tupleKind (ZT P w)).is h ks a:=by
 obtain⟨_,its,r,⟨o,h1,h2,n,h3⟩,_⟩:=(show Zz P w H h a (.tup (ks.map kV)) from ok a _ e)
 exact⟨o,its.toArray,n,h1,h2,h3,by simpa using Bm r⟩
theorem Bx {kvs:List (List Key×V)}(ok:HOk P w H h)(e:Rd H a (.dT kvs)):kvs.length<=Wc/\(a == sysModules)=false/\
  ∃xs,KT H kvs xs/\h.DictOfH (tupleKind (ZT P w)) a xs:=by
 obtain⟨z,y,xs,r,o,es,ep,h1,h2,h3,h4,h5⟩:=(show Zz P w H h a (.dT kvs) from Hl ok e)
 refine⟨z,y,xs,r,o,es,ep,h1,h2,h3,h4,λx hx=>?_,h5⟩
 have all:∀{l:List (List Key×V)} {m:List (List Key×Addr×Value)},KT H l m->∀x∈m,(tupleKind (ZT P w)).is h x.1 x.2.1:=by
  intro l m q
  induction q with
  |nil=>intro x hx;exact nomatch hx
  | @cons p q ps qs hq t ih=>
   intro x hx;rcases Wx.mp hx with e|hx
   ·subst e
    exact Ba ok (by rw [<-hq.1];exact hq.2.1)
   ·exact ih x hx
 exact all r x hx
theorem OP {kvs:List (List Key×V)}(ok:HOk P w H h)(e:H a=some (.dT kvs)):kvs.length<=Wc/\(a == sysModules)=false/\
  ∃xs,KT H kvs xs/\h.DictOfH (tupleKind (ZT P w)) a xs:=Bx ok (.inl e)
end
def Cz (H:Hp)(a:Addr)(y:V)(r:Option V):Prop:=
 (∃kvs k,Rd H a (.dK kvs)/\y=kV k/\r=Ke kvs k)\/∃kvs k b,Rd H a (.dT kvs)/\y = .ref b/\H b=some (.tup (k.map kV))/\r=Ke kvs k
def Xz (H:Hp)(a:Addr)(y v:V)(H':Hp):Prop:=
 (∃kvs k,H a=some (.dK kvs)/\y=kV k/\kvs.length<Wc/\H'=upd H a (.dK (T6 kvs k v)))\/
 ∃kvs k b,H a=some (.dT kvs)/\y = .ref b/\H b=some (.tup (k.map kV))/\kvs.length<Wc/\H'=upd H a (.dT (T6 kvs k v))
section
variable {X:Cx} {pins:List (Addr×Obj)} {σ:St} {H:Hp} {s:Shared} {a:Addr} {y v:V} {u r:Value} {o:Option V} {A:Around} {E:Value->Shared->Prop}
theorem Inv.big (I:Inv X pins σ H s):sysModules<s.heap.objs.size:=by
 have h:WA<s.heap.objs.size:=(I.mod.glob.keeps I.bk).lt
 exact Nat.lt_trans (by decide) h
theorem Pg {Q:Value->Shared->Prop}(hu:A.units+1<cLine)(I:Inv X pins σ H s)(g:Cz H a y (some v))(ry:ZC y u)(h:∀w' s',Inv X pins σ H s'->ZC v w'->Q w' s') :
  wpAny (model X.prog X.w) A (getItem (.ref a) u) Q E s:=by
 rcases g with ⟨kvs,k,e,ey,l⟩|⟨kvs,k,b,e,ey,eb,l⟩
 ·subst ey
  obtain⟨z,hd,vs,rel,dd⟩:=BB I.hok e
  obtain⟨w',hw,rw'⟩:=Gu.some_of (v:=v) (o:=valueAt vs k) (by rw [l];exact rel.val k)
  exact wpAny_getItem_of (Bk ry) dd.mapOf hw (h w' _ (I.tok _) rw')
 ·subst ey
  cases (show u=Value.ref b from ry)
  obtain⟨z,hd,xs,rel,dd⟩:=Bx I.hok e
  obtain⟨w',hw,rw'⟩:=Gu.some_of (v:=v) (o:=(atKey xs k).map (·.2)) (by rw [l];exact rel.val k)
  obtain⟨p,hp,hp2⟩:=Wh.mp hw
  refine wpAny_getItem_heap (W0q hu) (Ba I.hok eb) dd hp ?_
  rw [hp2];exact h w' _ (I.tok _) rw'
theorem Cm {Q:Value->Shared->Prop}(hu:A.units+1<cLine)(I:Inv X pins σ H s)(g:Cz H a y o)(ry:ZC y u)(h:∀s',Inv X pins σ H s'->Q (.bool (!o.isSome)) s') :
  wpAny (model X.prog X.w) A (compareOp .NotIn u (.ref a)) Q E s:=by
 rcases g with ⟨kvs,k,e,ey,l⟩|⟨kvs,k,b,e,ey,eb,l⟩
 ·subst ey
  obtain⟨z,hd,vs,rel,dd⟩:=BB I.hok e
  refine wpAny_notIn_of (Bk ry) hd dd.mapOf ?_
  rw [<-(rel.val k).isSome_eq,<-l];exact h _ (I.tok _)
 ·subst ey
  cases (show u=Value.ref b from ry)
  obtain⟨z,hd,xs,rel,dd⟩:=Bx I.hok e
  refine wpAny_notIn_heap (W0q hu) (Ba I.hok eb) hd dd ?_
  have q:=(rel.val k).isSome_eq
  rw [Option.isSome_map] at q;rw [<-q,<-l];exact h _ (I.tok _)
theorem JV {h':Heap}{t':Nat}{ob:HO}(I:Inv X pins σ H s)(mu:Mut (H a))(hs:VM a s.heap h')(he:∃q,h'.get? a=some q)(new:Zz X.prog X.w (upd H a ob) h' a ob) :
  Inv X pins σ (upd H a ob) { s with heap:=h',toks:=t' }:=
 I.write (x:=a) (e:=a) mu (.inl rfl) (λb q hb z=>(hs.2 b hb).trans z) he new
theorem AF {P:Program}{w:World}{H':Hp}{h':Heap}{kvs:List (Key×V)}{vs:List (Key×Value)}(z:kvs.length<=Wc)(hd:(a == sysModules)=false)(rel:KV kvs vs)(dd:h'.DictOf (ZT P w) a vs) :
  Zz P w H' h' a (.dK kvs):=⟨z,hd,vs,rel,dd⟩
theorem UQ {H':Hp}{Q:Unit->Shared->Prop}(hu:A.units+1<cLine)(I:Inv X pins σ H s)(g:Xz H a y v H')(ry:ZC y u)(rv:ZC v r)(h:∀s',Inv X pins σ H' s'->Q () s') :
  wpAny (model X.prog X.w) A (setItem (.ref a) u r) Q E s:=by
 rcases g with ⟨kvs,k,e,ey,l,eH⟩|⟨kvs,k,b,e,ey,eb,l,eH⟩
 ·subst ey eH
  obtain⟨z,hd,vs,rel,dd⟩:=IZ I.hok e
  have hz:vs.length<=Wc:=by rw [<-rel.length];exact z
  have hl:(T6 kvs k v).length<=Wc:=by have:=QD kvs k v;omega
  refine wpAny_setItem_pairs (hsz:=hz) (Bk ry) dd λh' dd' hs=>h _ ?_
  have he:∃q,h'.get? a=some q:=let ⟨q,_,_,hq,_⟩:=dd';⟨q,hq⟩
  exact JV I (by rw [e];exact True.intro) hs he (AF hl hd (rel.put k rv) dd')
 ·subst ey eH
  cases (show u=Value.ref b from ry)
  obtain⟨z,hd,xs,rel,dd⟩:=OP I.hok e
  have hz:xs.length<=Wc:=by rw [<-VV rel];exact z
  have hl:(T6 kvs k v).length<=Wc:=by have:=QD kvs k v;omega
  refine wpAny_setItem_heap (hsz:=hz) (W0q hu) (Ba I.hok eb) dd λh' dd' hs=>h _ ?_
  obtain⟨q,es,ep,hq,h2,h3,h4,_,h5⟩:=dd'
  refine JV I (by rw [e];exact True.intro) hs ⟨q,hq⟩ ⟨hl,hd,_,(rel.put k eb rv).keeps λc ys ec=>?_,q,es,ep,hq,h2,h3,h4,h5⟩
  rw [Ze (JD ec e (λz=>nomatch z))]
  exact ec
end
section
variable {X:Cx} {pins:List (Addr×Obj)} {σ:St} {H:Hp} {s:Shared} {a:Addr} {kvs:List (Key×V)} {k:Key} {u:Value} {A:Around} {E:Value->Shared->Prop}
theorem OQ {Q:Value->Shared->Prop}(I:Inv X pins σ H s)(e:Rd H a (.dK kvs))(h:∀t s',Inv X pins σ H s'->Q (.int kvs.length t) s'):wpAny (model X.prog X.w) A (call (.builtin "len") [.ref a]) Q E s:=by
 obtain⟨z,hd,vs,rel,dd⟩:=BB I.hok e
 refine call_len_dict hd dd (by rw [<-rel.length];rw [VX] at z;omega) ?_
 rw [<-rel.length];exact h _ _ (I.tok _)
theorem Cl {Q:Bool->Shared->Prop}(I:Inv X pins σ H s)(e:Rd H a (.dK kvs))(h:∀s',Inv X pins σ H s'->Q (!kvs.isEmpty) s'):wpAny (model X.prog X.w) A (truthy (.ref a)) Q E s:=by
 obtain⟨z,hd,vs,rel,dd⟩:=BB I.hok e
 refine wpAny_truthy_dict hd dd (by rw [<-rel.length];rw [VX] at z;omega) ?_
 have q:kvs.isEmpty=vs.isEmpty:=by cases rel<;>rfl
 rw [<-q];exact h _ (I.tok _)
end
theorem Nw {X:Cx}{pins:List (Addr×Obj)}{σ:St}{H:Hp}{s:Shared}{a:Addr}{y:V}{o:Option V}(I:Inv X pins σ H s)(g:Cz H a y o):s.TypeIs (.ref a) "dict":=by
 rcases g with ⟨kvs,k,e,_,_⟩|⟨kvs,k,b,e,_,_,_⟩
 ·obtain⟨_,_,vs,_,dd⟩:=BB I.hok e
  exact dd.typeIs
 ·obtain⟨_,_,xs,_,dd⟩:=Bx I.hok e
  exact dd.typeIs
section
variable {X:Cx} {o i e value:Expr} {pos pos' tpos:Pos} {td ty tv:TE}
end
theorem Ms {P:Program}{w:World}{H:Hp}(h:Heap)(hb:sysModules<h.objs.size):Zz P w H (h.push { cls:=.type "dict",data:=.dict #[] }) h.objs.size (.dK []):=
 ⟨Vq _,beq_eq_false_iff_ne.mpr (Ne.symm (WT hb)),[],.nil,Heap.DictOf.new h⟩
def Hd:TE:=λ_ H Q=>∀p,H p=none->Q (.ref p) (upd H p (.dK []))
section
variable {X:Cx} {pos:Pos}
theorem Lg:PE X (.Dict [] [] pos) Hd:=λpins s σ H Q I h=>
 wpAny_Dict_empty ⟨.ref s.heap.objs.size,_,I.laid (a:=s.heap.objs.size) (o:=.dK []) (t':=s.toks) (λ_ _ q=>Wj _ q) (Wq _) (Ms s.heap I.big),rfl,h _ (I.hok.fresh (Wq _))⟩
end
def Qf (kvs more:List (Key×V)):List (Key×V):=more.foldl (λacc kv=>T6 acc kv.1 kv.2) kvs
structure M2 (X:Cx) (o:Expr) (m:Str) (apos:Pos) (e f:Expr) (cpos:Pos):Prop where
 base:attributeBase o m X.env (eval o X.env)=eval o X.env
 few:((backTo cpos (Ws [e,f] X.env)).all (λx=>!x.1)&&(backToKw cpos (keywordEach [] X.env)).all (λx=>x.1.isSome)
  && decide (([e,f]:List Expr).length+([]:List Keyword).length+(if ([]:List Keyword).isEmpty then 0 else 1)<30))=true
 line:(apos.endLine == cpos.line)=true
 trees:backTo cpos (Ws [e,f] X.env)=[(false,eval e X.env),(false,eval f X.env)]
def IsD (H:Hp)(a:Addr):Prop:=(∃kvs,Rd H a (.dK kvs))\/∃kvs,Rd H a (.dT kvs)
theorem Ag {X:Cx}{pins:List (Addr×Obj)}{σ:St}{H:Hp}{s:Shared}{a:Addr}(I:Inv X pins σ H s)(d:IsD H a) :
  s.TypeIs (.ref a) "dict"/\(∀b,Value.ref a = .ref b->∃ob,s.heap.get? b=some ob/\ob.dict=none)/\(a == sysModules)=false:=by
 rcases d with ⟨kvs,e⟩|⟨kvs,e⟩
 ·obtain⟨_,hd,vs,_,dd⟩:=BB I.hok e
  refine⟨dd.typeIs,λb q=>?_,hd⟩
  cases q;obtain⟨ob,_,_,h1,h2,_⟩:=dd
  exact⟨ob,h1,h2.2.1⟩
 ·obtain⟨_,hd,xs,_,dd⟩:=Bx I.hok e
  refine⟨dd.typeIs,λb q=>?_,hd⟩
  cases q;obtain⟨ob,_,_,h1,h2,_⟩:=dd
  exact⟨ob,h1,h2.2.1⟩
section
variable {X:Cx} {pins:List (Addr×Obj)} {σ:St} {H:Hp} {s:Shared} {a:Addr} {y d:V} {u r:Value} {o:Option V} {A:Around} {E:Value->Shared->Prop}
theorem D3 {Q:Value->Shared->Prop}(hu:A.units+1<cLine)(I:Inv X pins σ H s)(g:Cz H a y o)(ry:ZC y u)(rd:ZC d r)(h:∀w' s',Inv X pins σ H s'->ZC (o.getD d) w'->Q w' s') :
  wpAny (model X.prog X.w) A (call (.builtin "dict.get") [.ref a,u,r]) Q E s:=by
 rcases g with ⟨kvs,k,e,ey,l⟩|⟨kvs,k,b,e,ey,eb,l⟩
 ·subst ey
  obtain⟨z,hd,vs,rel,dd⟩:=BB I.hok e
  refine call_meetsIn W0I dd.typeIs PySem.F.entry_dict_get (PySem.F.args_dict_get_3 _ _ _) (meets_dict_get_default (ZT X.prog X.w) a (Bk ry) hd r) ⟨_,dd.mapOf,h _ _ (I.tok _) ?_⟩
  rw [l];exact (rel.val k).getD rd
 ·subst ey
  cases (show u=Value.ref b from ry)
  obtain⟨z,hd,xs,rel,dd⟩:=Bx I.hok e
  refine call_meetsIn W0I dd.typeIs PySem.F.entry_dict_get (PySem.F.args_dict_get_3 _ _ _) (meetsH_dict_get_default (tupleKind (ZT X.prog X.w)) a b hd r) ⟨W0q hu,k,xs,Ba I.hok eb,dd,h _ _ (I.tok _) ?_⟩
  rw [l];exact (rel.val k).getD rd
end
section
variable {X:Cx} {o e f:Expr} {apos cpos:Pos} {td ty tx:TE}
end
section
variable {X:Cx} {pins:List (Addr×Obj)} {σ:St} {H:Hp} {s:Shared} {a:Addr} {kvs:List (Key×V)} {A:Around} {E:Value->Shared->Prop}
end
section
variable {X:Cx} {pins:List (Addr×Obj)} {σ:St} {H:Hp} {s:Shared} {a:Addr} {y:V} {u:Value} {A:Around} {E:Value->Shared->Prop}
end
end L2
namespace Att
open PySem PySem.W PySem.Calls PyProof.Rows
theorem UL {P:Params}{h:Heap}:∀(ns:List Int) (vs:List Value),WellAll P h vs (ns.map WData.int)->IntsAre vs ns:=by
 intro ns
 induction ns with
 |nil=>
  intro vs w;rw [Wb] at w;cases w;exact .nil
 |cons n ns ih=>
  intro vs w;rw [W0] at w;cases w with
  |cons a b=>
   cases a;exact .cons _ _ (ih _ b)
theorem KD {l:OpenLaw}{n:Nat}(hn:l.most=some n){P:Params}{h:Heap}{args:List WData}{vals:List Value}
  (hpre:l.row.toRowW.claim.pre args=true) (hwl:WellAll P h vals args) :
  ∃a vs ns,vals=[Value.ref a]/\args=[WData.list (ns.map WData.int)]/\h.get? a=some { cls:=.type "list",data:=.seq vs.toArray }/\IntsAre vs ns/\ns.length<=n:=by
 have hsh:WShape.hasAll [] args [.list .int]=true:=(pre_splitW hpre).1
 have hc:l.pre.holds [] { args:=args }=true:=(pre_splitW hpre).2
 obtain⟨d,r,rfl,h1,h2⟩:=hasAllW_cons hsh
 obtain rfl:=hasAllW_nil h2
 obtain⟨xs,rfl,h3⟩:=hasW_list h1
 obtain⟨ns,rfl⟩:=items_int h3
 have hlen:ns.length<=n:=by
  unfold OpenLaw.pre at hc;have h4:(WTm.not (.lt (.lit (.int (n:Int))) (.len (.arg 0)))).holds [] { args:=[.list (ns.map .int)] }=true:=by
   have h4:=(holds_andW hc).1
   rw [hn] at h4;exact h4
  have h5:=condW_of h4 (w_not (w_lt w_lit (w_len_list (w_arg rfl))))
  rw [Wl] at h5;refine W0g λq=>?_
  have q':(n:Int)<((ns.length:Nat):Int):=by omega
  first
   | (rw [decide_eq_true q'] at h5;exact absurd h5 (by decide))
   | (simp at h5;omega)
 cases hwl with
 |cons w1 w2=>
  cases w2;cases w1 with
  |list ho hall=>exact⟨_,_,ns,rfl,rfl,ho,UL ns _ hall,hlen⟩
theorem KR (l:OpenLaw)(args:List WData):l.row.toRowW.claim.post args (.bool true) args=true:=
 postW_of (r:=l.row.toRowW) (X:=(true == true))
  (show WShape.has [] (.bool true) .bool=true by first|rfl|decide|simp [WShape.has,WShape.arms,WShape.armsAll])
  (show (WTm.eq .res (.lit (.bool true))).value [] { args:=args,res:=some (.bool true),after:=args }=some (.bool (true == true)) from w_eq_bool (w_res rfl) w_lit) rfl
theorem attach_call {l:OpenLaw}{n:Nat}{q:Program}{loose:List Str}{XP:(Str->Option Value)->Heap->Prop}{YP:World->Heap->Prop}{d:DefRec}
  (hn:l.most=some n) (hdf:d.params.defaults=[])
  (call:∀(w:World) (s₀ s₁:Shared) (mg mb:Str->Option Value) (fa:Addr) (o:Obj) (pm cd doc:Value) (a:Addr) (vs:List Value) (ns:List Int),
   Ground q loose [] XP w s₀ mg mb s₁.heap->YP w s₁.heap->
   s₁.heap.get? fa=some o->o.data = .func (docDef d.name d.params d.body d.scope pm cd doc)->s₁.heap.CodeRec cd d.name->mg d.name=some (.ref fa)->
   s₁.heap.get? a=some { cls:=.type "list",data:=.seq vs.toArray }->IntsAre vs ns->ns.length<=n->s₁.gens = #[]->
   codeAny (model l.prog w) callerA (.call (.ref fa) ⟨[.ref a],[]⟩) (λr s'=>r = .ok (.ret (.bool true))/\OldK s₁.heap s'.heap/\s'.os=s₁.os/\AllBare s'.gens) s₁) :
  WalkO q loose XP YP l.row.toRowW d [] (λf vs=>PySem.call f vs):=by
 intro w s₀ s₁ mg mb G Y fa o pm cd doc dV kV ho hd hcd hD hmg hg args vals as hpre hlay hrd hwl hlo;obtain rfl:dV = .none:=Dflts.none hD hdf
 obtain rfl:kV = .none:=Dflts.noKw hD
 obtain⟨a,vs,ns,rfl,rfl,hobj,hints,hlen⟩:=KD hn hpre hwl
 refine enter_call (codeAny_mono (call w s₀ s₁ mg mb fa o pm cd doc a vs ns G Y ho (fd_plain hd) hcd hmg hobj hints hlen hg) λr s' hq=>?_)
 obtain⟨rfl,h2,h3,h4⟩:=hq
 exact⟨.inl ⟨.bool true,.bool true,[],rfl,λ_=>rfl,.bool true,KR l _,λ_=>⟨List.Pairwise.nil,λ_ hm=>(nomatch hm)⟩⟩,h2,h3,h4⟩
section
variable {prog:Program} {w:World} {A:Around} {E:Value->Shared->Prop} {s:Shared} {K:Frag}
end
end Att
namespace L2
open PySem PySem.Spec PyProof.Rows
theorem Gx:∀{vs:List Value} {ns:List Int},IntsAre vs ns->Y2 (ns.map V.int) vs
 |_,_,.nil=>.nil
 |_,_,.cons n t h=>.cons ⟨t,rfl⟩ (Gx h)
def OS (H:Hp):Prop:=∀b,H b=none\/∃o xs,H b=some (.frz o (.lst xs))
theorem Lu {P:Program}{w:World}{K:W3}{mg mb:Str->Option Value}{CX:CXT}{k:Nat}{fa a:Addr}{fd:FuncData}{x:Str}{sp:Sp}{s₁:Shared}{vs:List Value}{ns:List Int}
  (KX:K.In s₁.heap) (hns:s₁.heap.Ns WA mg) (hb:s₁.heap.Ns builtinsNs mb) (hbb:∀x:Str,x≠"__name__"->mb x=WG x) (hlim:s₁.heap.NoLimit) (hg:s₁.gens = #[])
  (ha:s₁.heap.get? a=some { cls:=.type "list",data:=.seq vs.toArray }) (hi:IntsAre vs ns) (hl:ns.length<=Wc) (hr:Room k callerA)
  (F:∀base:Heap,K.In base->base.Ns WA mg->FnOk P w K mg base CX k fa fd [x] sp) (hbind:∀(s:Shared) (u:Value),BindsTo s fd ⟨[u],[]⟩ [(x,u)])
  (hsp:∀H:Hp,OS H->SqL K H a (ns.map V.int)->sp [.ref a] H (λv _=>v = .bl true) λ_ _ _=>False)
  (hCX:∀H e s',CX [] H s₁ (λ_ _ _=>False) e s'->False) :
  codeAny (model P w) callerA (.call (.ref fa) ⟨[.ref a],[]⟩) (λr s'=>r = .ok (.ret (.bool true))/\OldK s₁.heap s'.heap/\s'.os=s₁.os/\AllBare s'.gens) s₁:=by
 have rv:=Gx hi
 have lenV:=hi.length
 -- from an abstract heap in which nothing but the script may be tracked
 have core:∀H:Hp,OS H->SqL K H a (ns.map V.int)->HOk P w H s₁.heap->(∀b,H b≠none->b=a)->(H a≠none->K.lookup a=none)->
   codeAny (model P w) callerA (.call (.ref fa) ⟨[.ref a],[]⟩) (λr s'=>r = .ok (.ret (.bool true))/\OldK s₁.heap s'.heap/\s'.os=s₁.os/\AllBare s'.gens) s₁:=by
  intro H hO hS hok hA hK;have base_of:∀{b:Addr} {o:Obj},s₁.heap.get? b=some o->H b=none->(LG s₁.heap H).get? b=some o:=λe n=>LF e n
  have noA:∀{b:Addr} {o:Obj} {es:Array DictEntry} {ep:Nat},s₁.heap.get? b=some o->o.data = .dict es ep->H b=none:=λ{b o es ep} e d=>by
   cases q:H b with
   |none=>rfl
   |some u=>
    have e':b=a:=hA b (by rw [q];simp)
    subst e'
    rw [ha] at e;cases e
    have d':Data.seq vs.toArray _=Data.dict es ep:=d
    cases d'
  have nsK:∀{b:Addr} {m:Str->Option Value},s₁.heap.Ns b m->(LG s₁.heap H).Ns b m:=λ{b m} ⟨o,es,ep,e,d,r⟩=>⟨o,es,ep,base_of e (noA e d),d,r⟩
  have hKb:K.In (LG s₁.heap H):=λb o e=>base_of (KX b o e) (by
   cases q:H b with
   |none=>rfl
   |some u=>
    have e':b=a:=hA b (by rw [q];simp)
    subst e'
    rw [hK (by rw [q];simp)] at e;cases e)
  have hM:Mod K mg (LG s₁.heap H):=⟨hKb,nsK hns,⟨mb,nsK hb,hbb⟩,let ⟨mc,h1,h2⟩:=hlim;⟨mc,nsK h1,h2⟩⟩
  have e0:Env0 P w K mg (LG s₁.heap H) callerA [] s₁ H:=⟨rfl,hM,λb o e=>ED e,Nat.le_of_eq (RW _ _),trivial,λb hb=>absurd (show b∈([]:List Addr) from hb) (by simp),hok,.of_eq hg⟩
  refine codeAny_mono ((F _ hKb (nsK hns)).run callerA [] s₁ H ⟨[.ref a],[]⟩ [.ref a] [.ref a] _ _ hr e0 (hbind s₁ (.ref a)) (.cons rfl .nil) (hsp H hO hS)) λr s' h=>?_
  cases r with
  |error e=>exact (hCX H e s' h).elim
  |ok fl=>
   cases fl with
   |next=>exact False.elim h
   |brk=>exact False.elim h
   |cont=>exact False.elim h
   |ret u=>
    obtain⟨v,H',os,bare,un,hok',r',q⟩:=h
    have q':v = .bl true:=q
    subst q'
    obtain rfl:u=Value.bool true:=r'
    refine⟨rfl,OldK.of_keep λb o e=>?_,os,bare⟩
    cases q:H b with
    |none=>exact un.keep b o e q (by intro z;exact absurd (show b∈([]:List Addr) from z) (by simp)) (by simp)
    |some u=>
     rcases hO b with z|⟨ob,xs,z⟩
     ·rw [q] at z;cases z
     ·have z2:=un.frzs b ob _ z
      obtain⟨e1,_⟩:=hok b _ z
      obtain⟨e2,_⟩:=hok' b _ z2
      rw [e] at e1;cases e1
      exact e2
 cases hk:K.lookup a with
 |some o=>
  -- the script is one of the module's own objects
  have e:=KX a o hk
  rw [ha] at e;cases e;refine core (λ_=>none) (λ_=>.inl rfl) (.inr ⟨_,vs.toArray,_,hk,rfl,rfl,rfl,by rw [Wn,lenV];exact hl,by simpa using rv⟩) (λb u z=>by have z':(none:Option HO)=some u:=z;cases z') (λb z=>absurd rfl z) λz=>absurd rfl z
 |none=>
  refine core (λb=>if b=a then some (.frz { cls:=.type "list",data:=.seq vs.toArray } (.lst (ns.map V.int))) else none) (λb=>?_) (.inl (.inr ⟨{ cls:=.type "list",data:=.seq vs.toArray },if_pos rfl⟩)) (λb u z=>?_) (λb z=>?_) λ_=>hk
  ·by_cases hb:b=a
   ·exact .inr ⟨_,_,if_pos hb⟩
   ·exact .inl (if_neg hb)
  ·by_cases hb:b=a
   ·have z':=(if_pos hb).symm.trans z
    cases z'
    subst hb;exact⟨ha,by rw [Wl];exact hl,vs,_,rv,ha⟩
   ·have z':=(if_neg hb).symm.trans z
    cases z'
  ·by_cases hb:b=a
   ·exact hb
   ·exact absurd (if_neg hb) z
end L2
namespace L2
open PySem PySem.Spec PyProof.Rows
theorem walk_of {l:PySem.W.OpenLaw}{n k:Nat}{q:Program}{loose:List Str}{XP:(Str->Option Value)->Heap->Prop}{YP:World->Heap->Prop}{d:DefRec}{K:Params->W3}{CX:World->CXT}{sp:World->Sp}{x:Str}
  (hn:l.most=some n) (hn2:n<=Wc) (hdf:d.params.defaults=[]) (hr:Room k callerA)
  (hY:∀(w:World) (h:Heap),YP w h->(K w.params).In h)
  (F:∀(w:World) (mg:Str->Option Value) (fa:Addr) (h:Heap),(K w.params).In h->h.Ns WA mg->mg d.name=some (.ref fa)->
   ∃fd:FuncData,(∀(s:Shared) (u:Value),BindsTo s fd ⟨[u],[]⟩ [(x,u)])/\
    ∀base:Heap,(K w.params).In base->base.Ns WA mg->FnOk l.prog w (K w.params) mg base (CX w) k fa fd [x] (sp w))
  (hsp:∀(w:World) (H:Hp) (a:Addr) (ns:List Int),ns.length<=n->OS H->SqL (K w.params) H a (ns.map V.int)->sp w [.ref a] H (λv _=>v = .bl true) λ_ _ _=>False)
  (hCX:∀(w:World) (H:Hp) (s:Shared) (e:Value) (s':Shared),CX w [] H s (λ_ _ _=>False) e s'->False) :
  PySem.W.WalkO q loose XP YP l.row.toRowW d [] (λf vs=>PySem.call f vs):=by
 refine Att.attach_call hn hdf λw s₀ s₁ mg mb fa o pm cd doc a vs ns G Y ho hd hcd hmg hobj hints hlen hg=>?_
 have KX:=hY w _ Y
 obtain⟨fd,hb,hF⟩:=F w mg fa _ KX G.T.g hmg
 exact Lu KX G.T.g G.T.b G.T.builtins G.T.nolimit hg hobj hints (V2 hlen hn2) hr hF hb (λH hO hS=>hsp w H a ns hlen hO hS) λH e s'=>hCX w H s₁ e s'
end L2
/- THE LAST THEOREM (shape;LID,My.* are yours):
 My.Adr: a structure of the addresses that your layer names (classes,functions);My.Txt K t: a structure (Prop) of the equations over K;
 My.txt_mk:{K} {implicit addresses ..} (e1:nsIn K WA "law" = some (some (.ref f))) (e2:K.lookup f=some ⟨oc,od,.func (fnOf "law" "law" params body scope dV kV doc pm an cdv ct),sl⟩) (e3:codeIn K cdv "law" = true) .. : ∃t,My.Txt K t
set_option maxRecDepth 100000 in
set_option maxHeartbeats 0 in
(the tactic k_is has no namespace: write k_is) -/
namespace L2
open PySem PySem.Spec PyProof.Rows
def Zl (s:Stmt):Arguments:=match s with
 | .FunctionDef _ a _ _ _ _ _ _ _ _=>a
 |_=>{ posonlyargs:=[],args:=[],vararg:=none,kwonlyargs:=[],kw_defaults:=[],kwarg:=none,defaults:=[] }
def Zj (s:Stmt):List Stmt:=match s with
 | .FunctionDef _ _ b _ _ _ _ _ _ _=>b
 |_=>[]
def Z3 (s:Stmt):Scope:=match s with
 | .FunctionDef _ _ _ _ _ _ sc _ _ _=>sc
 |_=>{ kind:=.function,names:=[],isGenerator:=false,isCoroutine:=false }
abbrev CX0:CXT:=λ_ _ _ _ _ _=>False
abbrev E0:XK:=λ_ _ _=>False
theorem Lj {X:Cx}:UY CX0 X E0:=λ_ _ _ _ _ _ _ h=>h.elim
structure Fun (K:W3) (x qual:Str) (st:Stmt) (f:Addr) (fd:FuncData):Prop where
 ex:∃(oc:Value) (od:Option Addr) (kV doc pm:Value) (an:Option Addr) (cdv ct:Value) (osl:Array (Option Value)),
  fd=WE x qual (Zl st) (Zj st) (Z3 st) .none kV doc pm an cdv ct/\K.lookup f=some ⟨oc,od,.func fd,osl⟩/\Wy K cdv qual=true
 kp:Wv K (.ref f)=true
section
variable {P:Program} {w:World} {K:W3} {mg:Str->Option Value} {base:Heap}
theorem Fun.ok {x qual:Str}{st:Stmt}{f:Addr}{fd:FuncData}{N ps:List Str}{k:Nat}{sp:Sp}(F:Fun K x qual st f fd)(S:FnScope N ps (Z3 st))(len:∀vs H Q E,sp vs H Q E->vs.length=ps.length)
  (hbody:∀(cdv:Value) (A:Around) (outer:List Env) (s:Shared) (H:Hp) (vs:List V) (Q:VK) (E:XK),Room k (A.deeper (envOfC qual (Z3 st) s.heap.objs.size f cdv))->sp vs H Q E->
   ∃t,PSs (Co CX0 P w K mg base N qual (Z3 st) f cdv A outer s H E).nox (Zj st) t/\t { nx:=λ_ H'=>Q .non H',rt:=Q } (start N vs) H):FnOk P w K mg base CX0 (k+1) f fd ps sp:=by
 obtain⟨oc,od,kV,doc,pm,an,cdv,ct,osl,rfl,lk,hcd⟩:=F.ex
 refine OM lk hcd S len λA outer s H vs Q E hr hsp=>?_
 obtain⟨t,h,q⟩:=hbody cdv A outer s H vs Q E hr hsp
 exact⟨t,h.nox,q⟩
theorem Fun.binds {x qual:Str}{st:Stmt}{f:Addr}{fd:FuncData}{ps:List Str}(F:Fun K x qual st f fd)
  (h:∀(kV doc pm:Value) (an:Option Addr) (cdv ct:Value) (us:List Value),us.length=ps.length->bindArgs (WE x qual (Zl st) (Zj st) (Z3 st) .none kV doc pm an cdv ct) ⟨us,[]⟩=pure (ps.zip us)):Jm K fd ps []:=by
 obtain⟨oc,od,kV,doc,pm,an,cdv,ct,osl,rfl,lk,hcd⟩:=F.ex
 exact .all (h kV doc pm an cdv ct)
theorem ZR {x qual:Str}{st:Stmt}{f:Addr}{oc:Value}{od an:Option Addr}{osl:Array (Option Value)}{kV doc pm cdv ct:Value}(l:K.lookup f=some ⟨oc,od,.func (WE x qual (Zl st) (Zj st) (Z3 st) .none kV doc pm an cdv ct),osl⟩)
  (c:Wy K cdv qual=true) (k:Wv K (.ref f)=true):Fun K x qual st f (WE x qual (Zl st) (Zj st) (Z3 st) .none kV doc pm an cdv ct):=⟨⟨oc,od,kV,doc,pm,an,cdv,ct,osl,rfl,l,c⟩,k⟩
end
section
variable {X:Cx}
end
end L2
set_option maxHeartbeats 4000000
namespace L2
open PySem PySem.Spec PyProof.Rows
theorem JG {α β:Type}{f:α->β->Sem (ForInStep β)}(g:α->β->β):∀(l:List α) (c:β),(∀x∈l,∀c,f x c=pure (.yield (g x c)))->
  forIn l c f=pure (l.foldl (λc x=>g x c) c)
 |[],_,_=>rfl
 |x :: l,c,h=>by
  rw [List.forIn_cons,h x WC,pure_bind];exact JG g l _ λy hy=>h y (WD _ hy)
def QP (env:Env)(cs:List (Str×Addr))(p:Str×NameKind):List (Str×Addr):=
 if p.2 == .free then (p.1,(env.cells.lookup p.1).getD 0) :: cs else cs
def Cq (scope:Scope)(env:Env):List (Str×Addr):=scope.names.foldl (QP env) []
theorem AH {env:Env}{x:Str}{c:Addr}:∀(l:List (Str×NameKind)) (acc:List (Str×Addr)),(x,c)∈l.foldl (QP env) acc->
  (x,c)∈acc\/((x,NameKind.free)∈l/\c=(env.cells.lookup x).getD 0)
 |[],_,h=>.inl h
 |p :: l,acc,h=>by
  rcases AH l _ h with q|⟨q,e⟩
  ·unfold QP at q
   by_cases hp:p.2 == .free
   ·rw [if_pos hp] at q
    rcases Wx.mp q with q|q
    ·have e1:x=p.1:=congrArg Prod.fst q
     have e2:c=(env.cells.lookup p.1).getD 0:=congrArg Prod.snd q
     have e3:p.2 = .free:=by simpa using hp
     refine .inr ⟨?_,by rw [e1];exact e2⟩
     have e4:p=(x,NameKind.free):=by rw [e1,<-e3]
     rw [e4];exact WC
    ·exact .inl q
   ·rw [if_neg hp] at q
    exact .inl q
  ·exact .inr ⟨WD _ q,e⟩
theorem Mx {env:Env}{p:Str×Addr}:∀(l:List (Str×NameKind)) (acc:List (Str×Addr)),p∈acc->p∈l.foldl (QP env) acc
 |[],_,h=>h
 |q :: l,acc,h=>by
  refine Mx l _ ?_
  unfold QP;split
  ·exact WD _ h
  ·exact h
theorem AI {env:Env}{x:Str}:∀(l:List (Str×NameKind)) (acc:List (Str×Addr)),(x,NameKind.free)∈l->∃c,(x,c)∈l.foldl (QP env) acc
 |[],_,h=>by cases h
 |p :: l,acc,h=>by
  rcases Wx.mp h with h|h
  ·subst h
   refine⟨(env.cells.lookup x).getD 0,Mx l _ ?_⟩
   unfold QP;rw [if_pos (by rfl)]
   exact WC
  ·exact AI l _ h
theorem JF {x:Str}{c:Addr}:∀{l:List (Str×Addr)},(x,c)∈l->∃c',l.lookup x=some c'
 |[],h=>by cases h
 |p :: l,h=>by
  obtain⟨n,a⟩:=p
  rw [V9];cases hx:x == n with
  |true=>exact⟨a,rfl⟩
  |false=>
   rcases Wx.mp h with h|h
   ·have e:x=n:=congrArg Prod.fst h
    rw [e] at hx;simp at hx
   ·exact JF h
def Kd (scope:Scope)(env:Env):Prop:=∀x,(x,NameKind.free)∈scope.names->∃c,env.cells.lookup x=some c
theorem Q2 {scope:Scope}{env:Env}(h:Kd scope env){x:Str}{c:Addr}(e:(Cq scope env).lookup x=some c):(x,NameKind.free)∈scope.names/\env.cells.lookup x=some c:=by
 rcases AH scope.names [] (Vr e) with q|⟨q,r⟩
 ·cases q
 ·obtain⟨c',hc⟩:=h x q
  rw [hc] at r;exact⟨q,by rw [hc,r];rfl⟩
theorem Pj {scope:Scope}{env:Env}(h:Kd scope env){x:Str}(q:(x,NameKind.free)∈scope.names):∃c,(Cq scope env).lookup x=some c/\env.cells.lookup x=some c:=by
 obtain⟨c,hc⟩:=AI (env:=env) scope.names [] q
 obtain⟨c',h'⟩:=JF hc
 exact⟨c',h',(Q2 h h').2⟩
theorem Ty {scope:Scope}{env:Env}(h:Kd scope env):closureFor scope env=pure (Cq scope env):=by
 unfold closureFor Cq;dsimp only;rw [JG (λp cs=>QP env cs p) scope.names [] (λp hp cs=>by
  obtain⟨n,k⟩:=p
  show (if (k == NameKind.free)=true then _ else _)=_
  by_cases hk:(k == NameKind.free)=true
  ·have e:k = .free:=by simpa using hk
   obtain⟨c,hc⟩:=h n (e ▸ hp)
   have e2:cellOf env n=pure c:=by unfold cellOf;rw [hc]
   rw [if_pos hk,e2];show _=pure (ForInStep.yield (QP env cs (n,k)))
   unfold QP;rw [if_pos hk,hc];rfl
  ·rw [if_neg hk]
   show _=pure (ForInStep.yield (QP env cs (n,k)))
   unfold QP;rw [if_neg hk])]
 rfl
theorem U2 {env:Env}:∀{names:List (Str×NameKind)} {x:Str},names.lookup x=some .free->
  (names.map λ(n,k)=>if (k == NameKind.free&&env.scope.kind == .function&&env.kindOf n == some .cell) then (n,NameKind.cell) else (n,k)).lookup x=some .free\/
  (names.map λ(n,k)=>if (k == NameKind.free&&env.scope.kind == .function&&env.kindOf n == some .cell) then (n,NameKind.cell) else (n,k)).lookup x=some .cell
 |[],_,h=>by simp at h
 | (n,k) :: r,x,h=>by
  have ih:=@U2 env r x
  rw [W0];dsimp only;cases hx:x == n with
  |true=>
   simp only [V9,hx] at h
   cases h;by_cases hc:(NameKind.free == NameKind.free&&env.scope.kind == .function&&env.kindOf n == some .cell)=true
   ·right
    show VY x ((if _ then _ else _) :: _)=_
    rw [if_pos hc];simp only [V9,hx]
   ·left
    show VY x ((if _ then _ else _) :: _)=_
    rw [if_neg hc];simp only [V9,hx]
  |false=>
   simp only [V9,hx] at h
   by_cases hc:(k == NameKind.free&&env.scope.kind == .function&&env.kindOf n == some .cell)=true
   ·have e:(if (k == NameKind.free&&env.scope.kind == .function&&env.kindOf n == some .cell)=true then (n,NameKind.cell) else (n,k))=(n,NameKind.cell):=if_pos hc
    rw [e];simp only [V9,hx];exact ih h
   ·have e:(if (k == NameKind.free&&env.scope.kind == .function&&env.kindOf n == some .cell)=true then (n,NameKind.cell) else (n,k))=(n,k):=if_neg hc
    rw [e];simp only [V9,hx];exact ih h
theorem U3 {env:Env}:∀{names:List (Str×NameKind)} {x:Str},(∀p∈names,p.2≠.cell)->
  ((names.map λ(n,k)=>if (k == NameKind.free&&env.scope.kind == .function&&env.kindOf n == some .cell) then (n,NameKind.cell) else (n,k)).lookup x=some .cell\/
  (names.map λ(n,k)=>if (k == NameKind.free&&env.scope.kind == .function&&env.kindOf n == some .cell) then (n,NameKind.cell) else (n,k)).lookup x=some .free)->(x,NameKind.free)∈names
 |[],_,_,h=>by simp at h
 | (n,k) :: r,x,hc0,h=>by
  have ih:=@U3 env r x (λp hp=>hc0 p (WD _ hp))
  rw [W0] at h;dsimp only at h;have key:∀K2:NameKind,(K2 = .cell\/K2 = .free)->VY x ((if (k == NameKind.free&&env.scope.kind == .function&&env.kindOf n == some .cell)=true then (n,NameKind.cell) else (n,k)) ::
    (r.map λ(n,k)=>if (k == NameKind.free&&env.scope.kind == .function&&env.kindOf n == some .cell) then (n,NameKind.cell) else (n,k)))=some K2->(x,NameKind.free)∈(n,k) :: r:=by
   intro K2 hK2 hl;cases hx:x == n with
   |true=>
    have exn:x=n:=by simpa using hx
    by_cases hc:(k == NameKind.free&&env.scope.kind == .function&&env.kindOf n == some .cell)=true
    ·have hk:k = .free:=by
      have:=(Wr _ _ ▸ (Wr _ _ ▸ hc).1).1
      simpa using this
     rw [exn,hk];exact WC
    ·rw [if_neg hc] at hl
     simp only [V9,hx] at hl
     have hk:k=K2:=WS hl
     rcases hK2 with q|q
     ·exact absurd (hk.trans q) (hc0 (n,k) WC)
     ·rw [exn,hk.trans q];exact WC
   |false=>
    refine WD _ (ih ?_)
    by_cases hc:(k == NameKind.free&&env.scope.kind == .function&&env.kindOf n == some .cell)=true
    ·rw [if_pos hc] at hl
     simp only [V9,hx] at hl
     rcases hK2 with q|q
     ·exact .inl (q ▸ hl)
     ·exact .inr (q ▸ hl)
    ·rw [if_neg hc] at hl
     simp only [V9,hx] at hl
     rcases hK2 with q|q
     ·exact .inl (q ▸ hl)
     ·exact .inr (q ▸ hl)
  rcases h with h|h
  ·exact key .cell (.inl rfl) h
  ·exact key .free (.inr rfl) h
def ZF (X:Cx)(scope:Scope)(N:List Str)(fp:List Addr)(s₂:Shared)(H₂:Hp)(C:Addr):Cx where
 prog:=X.prog
 w:=X.w
 K:=X.K
 mg:=X.mg
 base:=X.base
 A:=X.A
 N:=N
 s₀:=s₂
 H₀:=H₂
 env:=compEnvC scope (Cq scope X.env) C X.env
 outer:=X.stack
 stack:=X.stack
 ex:=fp
 fn:=λ_=>false
 calm:=X.calm
 pn:=[]
 xe:=λ_ _=>False
def T1 (X:Cx)(scope:Scope):List Str->List Nat->Prop
 |[],[]=>True
 |x :: xs,j :: js=>(X.N[j]? = some x/\(X.env.scope.names.lookup x=some .cell\/X.env.scope.names.lookup x=some .free)/\scope.names.lookup x=some .free)/\T1 X scope xs js
 |_,_=>False
def Jl (nT:Nat)(caps:List Nat)(σ:St):St:=VQ nT none++caps.map λj=>(σ[j]?).getD none
theorem T1.len {X:Cx}{scope:Scope}:∀{xs:List Str} {js:List Nat},T1 X scope xs js->xs.length=js.length
 |[],[],_=>rfl
 |_ :: _,_ :: _,h=>by simp only [WR];rw [T1.len h.2]
 |[],_ :: _,h=>h.elim
 |_ :: _,[],h=>h.elim
theorem T1.get {X:Cx}{scope:Scope}:∀{xs:List Str} {js:List Nat} {k:Nat} {x:Str} {j:Nat},T1 X scope xs js->xs[k]? = some x->js[k]? = some j->
  X.N[j]? = some x/\(X.env.scope.names.lookup x=some .cell\/X.env.scope.names.lookup x=some .free)/\scope.names.lookup x=some .free
 |[],_,_,_,_,_,h,_=>by simp at h
 |_ :: _,[],_,_,_,h,_,_=>h.elim
 |_ :: _,_ :: _,0,_,_,h,h1,h2=>by
  simp at h1 h2;subst h1;subst h2;exact h.1
 |_ :: _,_ :: _,k+1,_,_,h,h1,h2=>T1.get (k:=k) h.2 (by simpa using h1) (by simpa using h2)
def PF (X:Cx)(ifs:List Expr)(t:TT):Prop:=
 ∀(pins:List (Addr×Obj)) (s:Shared) (σ:St) (H:Hp) (Q:Bool->Hp->Prop),Inv X pins σ H s->t σ H Q->
  wpAny (model X.prog X.w) X.A (forIn ifs true λc r=>if r=true then do let ok <-isTrue c X.env (eval c X.env);pure (ForInStep.yield ok) else pure (ForInStep.yield r)) (TP X pins σ Q) X.xe s
def Dq:TT:=λ_ H Q=>Q true H
theorem HB {X:Cx}:PF X [] Dq:=λ_ _ _ H _ I h=>wpAny_tests_nil ⟨H,I,h⟩
theorem HA {X:Cx}{c:Expr}{t:TT}(h:PT X c t):PF X [c] t:=λpins s σ H Q I q=>wpAny_tests_one (h pins s σ H Q I q)
theorem Jk {prog:Program}{w:World}{A:Around}{R:Result->Shared->Prop}{s:Shared}{elt target iter:Expr}{ifs:List Expr}{scope:Scope}{pos:Pos}{it acc:Value}{env:Env}(I:Nat->Shared->Prop)
  (turn:∀n s,I n s->wpAny (model prog w) A (pyNext it) (λr s₁=>match r with
   |none=>R (.ok .next) s₁
   |some v=>wpAny (model prog w) A (letOwnedTupleGo target it v) (λ_ s₀=>wpAny (model prog w) A (assign target env v) (λ_ s₂=>
     wpAny (model prog w) A (forIn ifs true λc r=>if r=true then do let ok <-isTrue c env (eval c env);pure (ForInStep.yield ok) else pure (ForInStep.yield r)) (λok s₃=>
      if ok=true then wpAny (model prog w) A (eval elt env) (λx s₄=>
       wpAny (model prog w) A (call (.builtin "list.append") [acc,x]) (λ_ s₅=>∃m,m<n/\I m s₅) (λ_ _=>False) s₄) (λ_ _=>False) s₃
      else ∃m,m<n/\I m s₃) (λ_ _=>False) s₂) (λ_ _=>False) s₀) (λ_ _=>False) s₁) (λ_ _=>False) s)
  (n:Nat) (h:I n s) :
  codeAny (model prog w) A (.compLoop (.ListComp elt [⟨target,iter,ifs,0⟩] scope pos) 0 it acc env) R s:=by
 refine codeAny_loop rfl I (λn s hI=>?_) n h
 show wpAny _ A ((compTurn (.ListComp elt [⟨target,iter,ifs,0⟩] scope pos) 0 it acc env).onRaise (λx=>do noteFrame x env;theTreesLotGoes x)) _ _ s
 refine wpAny_noted ?_
 rw [compTurn_list];refine W2 (wpAny_standAt (W2 (VF (turn n s hI) (λr s₁ h₁=>?_) λ_ _ h'=>h'.elim)))
 cases r with
 |none=>exact Wk h₁
 |some v=>
  refine W2 (VF h₁ (λ_ s₀ h₀=>?_) λ_ _ h'=>h'.elim)
  refine W2 (VF h₀ (λ_ s₂ h₂=>W2 (VF h₂ (λok s₃ h₃=>?_) λ_ _ h'=>h'.elim)) λ_ _ h'=>h'.elim)
  cases ok with
  |false=>exact Wk ⟨rfl,h₃⟩
  |true=>
   exact W2 (W2 (VF h₃ (λx s₄ h₄=>W2 (VF h₄ (λ_ s₅ h₅=>Wk (Wk ⟨rfl,h₅⟩)) λ_ _ h'=>h'.elim)) λ_ _ h'=>h'.elim))
theorem HOk.track {P:Program}{w:World}{H:Hp}{h:Heap}{a:Addr}{o:HO}(x:HOk P w H h)(hn:H a=none)(new:Zz P w (upd H a o) h a o):HOk P w (upd H a o) h:=λb u e=>by
 by_cases hb:b=a
 ·subst hb;rw [Z6] at e;cases e;exact new
 ·rw [Ze hb] at e
  exact (x b u e).stay (λc v _ q=>q) (λc q=>by rw [Ze (Zw q hn)];exact q) λc xs q=>by rw [Ze (Zw q hn)];exact q
theorem HOk.but {P:Program}{w:World}{H:Hp}{h h':Heap}{a:Addr}(x:HOk P w H h)(hn:H a=none)(k:∀b o,b≠a->h.get? b=some o->h'.get? b=some o):HOk P w H h':=λb u e=>by
 refine (x b u e).stay (λc v hc q=>k c v ?_ q) (λ_ q=>q) λ_ _ q=>q
 rintro rfl
 rcases hc with z|z
 ·rw [<-z,hn] at e;cases e
 ·rw [hn] at z;cases z
abbrev Tj (its:List Value)(n:Nat):Obj:={ cls:=.type "list",data:=.seq its.toArray n }
def Df (J:It)(cap:St)(g:TG)(tt:TT)(te:TE)(Fin:List V->Hp->Prop)(H:Hp):Prop:=
 ∃W:Nat->Nat->List V->Hp->Prop,(∃m,W 0 m [] H)/\∀i m ys H,W i m ys H->
  (J.stop i H/\ys.length<=Wc/\Fin ys H)\/(J.go i H/\ys.length<=Wc/\∀x H',J.yld i H x H'->g x cap H' λσ2 H2=>tt σ2 H2 λb H3=>
   if b=true then te σ2 H3 λv H4=>∃m',m'<m/\W (i+1) m' (ys++[v]) H4 else ∃m',m'<m/\W (i+1) m' ys H3)
def PB (n:Nat)(g:TG):Prop:=∀v σ H Q,g v σ H Q->g v σ H λσ' H'=>(∀j,n<=j->σ'[j]? = σ[j]?)/\Q σ' H'
def LY (n:Nat)(g:TGs):Prop:=∀v σ H Q,g v σ H Q->g v σ H λσ' H'=>(∀j,n<=j->σ'[j]? = σ[j]?)/\Q σ' H'
theorem Y1 {n i:Nat}(h:i<n):PB n (Bt i):=λv σ H Q q=>⟨λj hj=>WL (by omega),q⟩
theorem RY {n:Nat}:LY n Iw:=λvs σ H Q q=>⟨q.1,λ_ _=>rfl,q.2⟩
theorem Tr {n:Nat}{t:TG}{u:TGs}(h1:PB n t)(h2:LY n u)(mono:∀v σ H Q Q',(∀σ' H',Q σ' H'->Q' σ' H')->t v σ H Q->t v σ H Q')(mono2:∀v σ H Q Q',(∀σ' H',Q σ' H'->Q' σ' H')->u v σ H Q->u v σ H Q'):LY n (P6 t u):=λvs σ H Q q=>by
 obtain⟨v,r,e,q⟩:=q
 refine⟨v,r,e,mono v σ H _ _ (λσ' H' z=>?_) (h1 v σ H _ q)⟩
 exact mono2 r σ' H' _ _ (λσ2 H2 y=>⟨λj hj=>(y.1 j hj).trans (z.1 j hj),y.2⟩) (h2 r σ' H' _ z.2)
theorem LJ {K:W3}{n k:Nat}{t:TGs}(h:LY n t):PB n (OL K k t):=λv σ H Q q=>by
 obtain⟨a,xs,e,h1,h2,q⟩:=q
 exact⟨a,xs,e,h1,h2,h xs σ H Q q⟩
theorem JR {i:Nat}:∀v σ H Q Q',(∀σ' H',Q σ' H'->Q' σ' H')->Bt i v σ H Q->Bt i v σ H Q':=λ_ _ _ _ _ h q=>h _ _ q
theorem Br:∀v σ H Q Q',(∀σ' H',Q σ' H'->Q' σ' H')->Iw v σ H Q->Iw v σ H Q':=λ_ _ _ _ _ h q=>⟨q.1,h _ _ q.2⟩
theorem K1 {t:TG}{u:TGs}(mono:∀v σ H Q Q',(∀σ' H',Q σ' H'->Q' σ' H')->t v σ H Q->t v σ H Q')(mono2:∀v σ H Q Q',(∀σ' H',Q σ' H'->Q' σ' H')->u v σ H Q->u v σ H Q') :
  ∀v σ H Q Q',(∀σ' H',Q σ' H'->Q' σ' H')->P6 t u v σ H Q->P6 t u v σ H Q':=λvs σ H Q Q' h q=>by
 obtain⟨v,r,e,q⟩:=q
 exact⟨v,r,e,mono v σ H _ _ (λσ' H' z=>mono2 r σ' H' _ _ h z) q⟩
section
variable {X:Cx} {pins:List (Addr×Obj)} {σ:St} {H₂:Hp} {s₂:Shared} {scope:Scope} {tg iter elt:Expr} {ifs:List Expr} {pos:Pos} {nT:Nat} {tgs caps_n:List Str} {caps:List Nat}
theorem Tx (I:Inv X pins σ H₂ s₂){it:Addr}{fp:List Addr}{tn:Nat->Heap->Prop}{J:It}(T:Turn X.prog X.w X.K tg J fp it tn)(st0:tn 0 s₂.heap)(hfp:∀b∈fp,Kc X pins H₂ b)
  (hc:X.calm=true) (hcell:∀y∈scope.names,y.2≠.cell) (hkind:scope.kind = .function) (hcl:Kd scope X.env) (hcap:T1 X scope caps_n caps)
  {g:TG} {tt:TT} {te:TE} (hlow:PB tgs.length g) (hg:∀s H C,PG (ZF X scope (tgs++caps_n) fp s H C) tg g) (hf:∀s H C,PF (ZF X scope (tgs++caps_n) fp s H C) ifs tt) (he:∀s H C,PE (ZF X scope (tgs++caps_n) fp s H C) elt te)
  {Fin:List V->Hp->Prop} (hw:Df J (Jl tgs.length caps σ) g tt te Fin H₂) {RR:Value->Addr->Result->Shared->Prop}
  (hRR:∀(D C:Addr) (ys:List V) (its:List Value) (n:Nat) (H3:Hp) (s3:Shared),s₂.heap.objs.size<=D->s₂.heap.objs.size<=C->D≠C->Inv (ZF X scope (tgs++caps_n) fp s₂ H₂ C) [(D,Tj its n)] (Jl tgs.length caps σ) H3 s3->Y2 ys its->ys.length<=Wc->Fin ys H3->RR (.ref D) C (.ok .next) s3)
  {E:Value->Shared->Prop} :
  wpAny (model X.prog X.w) X.A (newList []) (λacc s₃=>wpAny (model X.prog X.w) X.A (newFunctionEnv scope X.env.globals (Cq scope X.env) [] X.env.qual none .none (some X.env)) (λcenv s₄=>
   codeAny (model X.prog X.w) X.A (.compStart (.ListComp elt [⟨tg,iter,ifs,0⟩] scope pos) 0 (.ref it) acc { cenv with scope:=relabel scope X.env }) (RR acc cenv.locals) s₄) E s₃) E s₂:=by
 refine Vb (wpAny_newFunctionEnv hcell (by intro y hy;simp at hy) (λh₁ hns₁ hsb₁=>?_) hkind)
 dsimp only at hns₁ hsb₁ ⊢
 generalize hH2:s₂.heap.push { cls:=.type "list",dict:=none,data:=.seq ([]:List Value).toArray }=HP at hns₁ hsb₁ ⊢
 have hC:HP.objs.size=s₂.heap.objs.size+1:=by rw [<-hH2,VC]
 have hDC:s₂.heap.objs.size≠HP.objs.size:=by rw [hC];exact WT (Nat.lt_succ_self _)
 have hCle:s₂.heap.objs.size<=HP.objs.size:=by rw [hC];exact Nat.le_succ _
 have below:∀b,b<s₂.heap.objs.size->b≠HP.objs.size/\b≠s₂.heap.objs.size:=λb hb=>⟨by rw [hC];exact WT (Nat.lt_succ_of_lt hb),WT hb⟩
 have old:∀b o,s₂.heap.get? b=some o->h₁.get? b=some o:=λb o e=>hsb₁.extBut b o (below b (Ww e)).1 (Wj _ (hH2 ▸ Wj _ e))
 have hacc:h₁.get? s₂.heap.objs.size=some (Tj [] 0):=hsb₁.extBut _ _ hDC (Wj _ (hH2 ▸ Wt _ rfl))
 have fpl:∀b∈fp,b<s₂.heap.objs.size:=λb hb=>by
  obtain⟨o,e,_⟩:=T.obj 0 _ st0 b hb
  exact Ww e
 have stkl:∀b∈frs X.stack,b<s₂.heap.objs.size:=λb hb=>by
  obtain⟨_,o,ho,_⟩:=I.stack.mem hb
  exact Ww ho
 -- the block's context
 have ok:(ZF X scope (tgs++caps_n) fp s₂ H₂ HP.objs.size).Ok:=by
  refine⟨I.ok.mod,hkind,I.ok.glob,I.ok.blt,hCle,λx y c h1 h2=>I.ok.inj x y c (Q2 hcl h1).2 (Q2 hcl h2).2,λx hx=>?_,λx c h _=>(nomatch h),I.ok.hd,I.ok.frames,.inl rfl,
   λb hb=>⟨(below b (fpl b hb)).1,λx c h=>(hfp b hb).2.2.2.2.1 x c (Q2 hcl h).2⟩,I.bs,V2 I.ok.bsz I.sz,λb o e hb=>?_,λb hb z=>?_,I.stack,I.stkFree⟩
  ·obtain⟨c,h1,_⟩:=Pj hcl (U3 (env:=X.env) hcell hx)
   exact⟨c,h1⟩
  ·obtain⟨_,_,_,h4,_⟩:=hfp b hb
   rcases h4 with h4|h4
   ·exact I.ok.noex b o e h4
   ·exact absurd (WH (Ww (I.ok.bs b o e).1) h4) (Vk _)
  ·obtain⟨_,h2,h3,_⟩:=hfp b hb
   rcases Wx.mp (I.stkSub b z) with q|q
   ·exact h2 q
   ·exact h3 q
 have I0:∀tk,Inv (ZF X scope (tgs++caps_n) fp s₂ H₂ HP.objs.size) [(s₂.heap.objs.size,Tj [] 0)] (Jl tgs.length caps σ) H₂ { s₂ with heap:=h₁,toks:=tk }:=by
  intro tk;refine⟨ok,rfl,I.bare,Un.kept old,⟨_,hns₁,λi x v e1 e2 e3=>?_⟩,λx c h=>?_,I.hok.fresh hCle,λx c h=>I.freeC x c (Q2 hcl h).2,λp hp=>?_,I.hok.kept old,?_⟩
  ·unfold Jl at e2
   have hi:tgs.length<=i:=by
    by_cases hi:i<tgs.length
    ·rw [WU (by simpa using hi),VB] at e2
     split at e2<;>cases e2
    ·exact W0g hi
   rw [WX (by simpa using hi),VN,WB] at e2
   have e1':caps_n[i-tgs.length]? = some x:=by
    have e1'':(tgs++caps_n)[i]? = some x:=e1
    rw [WX hi] at e1''
    exact e1''
   cases ej:caps[i-tgs.length]? with
   |none=>rw [ej] at e2;cases e2
   |some j=>
    rw [ej] at e2;obtain⟨n1,n2,n3⟩:=hcap.get e1' ej
    have es:σ[j]? = some (some v):=by
     have e2':(σ[j]?).getD none=some v:=WS e2
     cases q:σ[j]? with
     |none=>rw [q] at e2';cases e2'
     |some z=>rw [q] at e2';rw [show z=some v from e2']
    obtain⟨m,hn,hl⟩:=I.loc
    obtain⟨u,ru,lk⟩:=hl j x v n1 es (.inr n2)
    refine⟨u,ru,?_⟩
    rcases lk with ⟨k1,_⟩|⟨_,c,k1,k2⟩
    ·have k1':X.env.scope.names.lookup x=some .local:=k1
     rcases n2 with n2|n2
     ·rw [n2] at k1';cases k1'
     ·rw [n2] at k1';cases k1'
    ·obtain⟨c',h1,h2⟩:=Pj hcl (Vr n3)
     rw [k1] at h2;cases h2
     refine .inr ⟨?_,c,h1,k2.keeps old⟩
     rcases U2 (env:=X.env) n3 with q|q
     ·exact .inr q
     ·exact .inl q
  ·obtain⟨v,z⟩:=I.cell x c (Q2 hcl h).2
   exact⟨v,z.keeps old⟩
  ·have e:p=(s₂.heap.objs.size,Tj [] 0):=by simpa [ZF] using hp
   subst e;exact⟨hacc,I.hok.fresh (Wq _),hDC,λz=>Vk _ (stkl _ z),λv z=>(nomatch z)⟩
  ·unfold Jl
   show _=(tgs++caps_n).length
   rw [WP,VN,Wl,WP,hcap.len]
 obtain⟨W,⟨m0,w0⟩,turn⟩:=hw
 have st1:tn 0 h₁:=T.keep 0 _ _ st0 λb _ o e=>old b o e
 have loop:∀tk,codeAny (model X.prog X.w) X.A (.compLoop (.ListComp elt [⟨tg,iter,ifs,0⟩] scope pos) 0 (.ref it) (.ref s₂.heap.objs.size) (compEnvC scope (Cq scope X.env) HP.objs.size X.env))
   (RR (.ref s₂.heap.objs.size) HP.objs.size) { s₂ with heap:=h₁,toks:=tk }:=by
  intro tk;have stat:∀{pins':List (Addr×Obj)} {H':Hp},(∀p∈pins',p.1∉fp)->(∀b∈fp,H' b=none)->∀b∈fp,Kc (ZF X scope (tgs++caps_n) fp s₂ H₂ HP.objs.size) pins' H' b:=λ{pins' H'} hp hn b hb=>
   ⟨hn b hb,(below b (fpl b hb)).1,ok.exfs b hb,.inl hb,λx c h=>(hfp b hb).2.2.2.2.1 x c (Q2 hcl h).2,λp hp' z=>hp p (by simpa [ZF] using hp') (z ▸ hb)⟩
  have offD:∀(its:List Value) (n:Nat),∀p∈[(s₂.heap.objs.size,Tj its n)],p.1∉fp:=λits n p hp z=>by
   have e:p=(s₂.heap.objs.size,Tj its n):=by simpa using hp
   rw [e] at z;exact Vk _ (fpl _ z)
  refine Jk (λn s'=>∃i ys its k H',Inv (ZF X scope (tgs++caps_n) fp s₂ H₂ HP.objs.size) [(s₂.heap.objs.size,Tj its k)] (Jl tgs.length caps σ) H' s'/\Y2 ys its/\tn i s'.heap/\(∀b∈fp,H' b=none)/\W i n ys H') ?_ m0
   ⟨0,[],[],0,H₂,I0 tk,.nil,st1,λb hb=>(hfp b hb).1,w0⟩
  rintro n s3 ⟨i,ys,its,k,H3,I3,rv,st3,fr3,w3⟩
  rcases turn i n ys H3 w3 with ⟨stop,hz,fin⟩|⟨go,hz,step⟩
  ·refine thn (T.done (ZF X scope (tgs++caps_n) fp s₂ H₂ HP.objs.size) rfl rfl rfl hc i _ s3 _ H3 (λ_ _=>False) I3 (stat (offD _ _) fr3) st3 stop) λr s4 ⟨hr,I4⟩=>?_
   subst hr;exact hRR _ _ ys its k H3 s4 (Wq _) hCle hDC I4 rv hz fin
  ·refine thn (T.item (ZF X scope (tgs++caps_n) fp s₂ H₂ HP.objs.size) rfl rfl rfl hc i _ s3 _ H3 (λ_ _=>False) I3 (stat (offD _ _) fr3) st3 go) λr s4 ⟨u,hr,h4⟩=>?_
   subst hr;refine thn h4 λ_ s5 ⟨x,H5,I5,r5,y5,st5,fr5⟩=>?_
   have I5':=I5.pinned (stat (offD _ _) fr5) (T.obj _ _ st5)
   refine thn (hg s₂ H₂ HP.objs.size _ s5 _ H5 x u _ I5' r5 (hlow _ _ _ _ (step x H5 y5))) λ_ s6 ⟨σ6,H6,I6,keep6,q6⟩=>?_
   refine thn (hf s₂ H₂ HP.objs.size _ s6 σ6 H6 _ I6 q6) λb s7 ⟨H7,I7,q7⟩=>?_
   have len6:σ6.length=(Jl tgs.length caps σ).length:=I6.len.trans I5.len.symm
   -- what stays of the iterator's objects
   have itk:∀{σ':St} {H':Hp} {s':Shared},Inv (ZF X scope (tgs++caps_n) fp s₂ H₂ HP.objs.size) ([(s₂.heap.objs.size,Tj its k)]++GS fp s5.heap) σ' H' s'->tn (i+1) s'.heap/\∀b∈fp,H' b=none:=λ{σ' H' s'} I'=>by
    refine⟨T.keep _ _ _ st5 λb hb o e=>(I'.pin (b,o) (WO _ (WO _ (Jc hb e)))).1,λb hb=>?_⟩
    obtain⟨o,e,d⟩:=T.obj _ _ st5 b hb
    exact (I'.pin (b,o) (WO _ (WO _ (Jc hb e)))).2.1
   -- the captured names' slots
   have slots:∀(j:Nat) v,(Jl tgs.length caps σ)[j]? = some (some v)->σ6[j]? = some (some v):=λj v e=>by
    by_cases hj:tgs.length<=j
    ·rw [keep6 j hj];exact e
    ·unfold Jl at e
     rw [WU (by simpa using hj),VB] at e
     split at e<;>cases e
   cases b with
   |false=>
    rw [if_neg WI];rw [if_neg WI] at q7;obtain⟨m',hm,w7⟩:=q7
    obtain⟨t7,f7⟩:=itk I7
    exact⟨m',hm,i+1,ys,its,k,H7,(I7.unpinned (pins:=[(s₂.heap.objs.size,Tj its k)])).weak len6.symm slots,rv,t7,f7,w7⟩
   |true=>
    rw [if_pos rfl];rw [if_pos rfl] at q7;refine thn (he s₂ H₂ HP.objs.size _ s7 σ6 H7 _ I7 q7) λxv s8 ⟨y,H8,I8,r8,m',hm,w8⟩=>?_
    obtain⟨t8,f8⟩:=itk I8
    have I8':Inv (ZF X scope (tgs++caps_n) fp s₂ H₂ HP.objs.size) [(s₂.heap.objs.size,Tj its k)] (Jl tgs.length caps σ) H8 s8:=(I8.unpinned (pins:=[(s₂.heap.objs.size,Tj its k)])).weak len6.symm slots
    obtain⟨eD,nD,neD,nfD,dD⟩:=I8'.pin (s₂.heap.objs.size,Tj its k) (WO _ (by simp))
    have hlen:its.toArray.size<=Wc:=by rw [Wn,<-rv.length];exact hz
    refine append_at (its:=its.toArray) (n:=k) eD (λh9 sb9 e9=>?_) hlen
    have I9:Inv (ZF X scope (tgs++caps_n) fp s₂ H₂ HP.objs.size) [] (Jl tgs.length caps σ) H8 { s8 with heap:=h9 }:=
     (I8'.pins_of (pins':=[]) (λp hp=>by cases hp)).turned (t':=s8.toks) (it:=s₂.heap.objs.size) (λb o hb e=>sb9.extBut b o hb e) nD neD (.inr (Wq _)) (λx c h z=>by
      obtain⟨v,q⟩:=I.cell x c (Q2 hcl h).2
      exact absurd q.lt (by rw [z];exact Vk _)) (λp hp=>by
       have hp':p∈([]:List (Addr×Obj)):=by simpa [ZF] using hp
       cases hp')
    have e9':h9.get? s₂.heap.objs.size=some (Tj (its++[xv]) (k+1)):=by
     rw [e9];simp [Tj]
    refine⟨m',hm,i+1,ys++[y],its++[xv],k+1,H8,I9.pins_of (λp hp=>?_),rv.append (.cons r8 .nil),T.keep _ _ _ t8 λb hb o e=>sb9.extBut b o (WT (fpl b hb)) e,f8,w8⟩
    have ep:p=(s₂.heap.objs.size,Tj (its++[xv]) (k+1)):=by simpa using hp
    subst ep;exact⟨e9',nD,neD,nfD,λv z=>(nomatch z)⟩
 exact codeAny_compStart_list (loop _) (T.self X.A 0 _ _ _ st1 (loop _))
theorem Mv (I:Inv X pins σ H₂ s₂){fp:List Addr}(hfp:∀b∈fp,Kc X pins H₂ b){D C:Addr}{ys:List V}{its:List Value}{n:Nat}{H3:Hp}{s3:Shared}{N':List Str}{σ':St}{h4:Heap}(hD:s₂.heap.objs.size<=D)(hC:s₂.heap.objs.size<=C)(hDC:D≠C)
  (I3:Inv (ZF X scope N' fp s₂ H₂ C) [(D,Tj its n)] σ' H3 s3) (rv:Y2 ys its) (hz:ys.length<=Wc) (hs:VM C s3.heap h4):Inv X pins σ (upd H3 D (.lst ys)) { s3 with heap:=h4 }:=by
 obtain⟨eD,nD,neD,nfD,dD⟩:=I3.pin (D,Tj its n) (WO _ (by simp))
 have eD4:h4.get? D=some (Tj its n):=hs.extBut D _ hDC eD
 have lt:∀b o,s₂.heap.get? b=some o->b≠C/\b≠D:=λb o e=>⟨WT (WH (Ww e) hC),WT (WH (Ww e) hD)⟩
 refine I.call' (ch:=fp) I3.os ?_ ?_ I3.bare (λb hb=>⟨(hfp b hb).2.2.2.1,(hfp b hb).2.1,(hfp b hb).2.2.2.2.1,(hfp b hb).2.2.2.2.2⟩)
 ·have u:=I3.base
  refine⟨λb o e nb hb hx=>hs.extBut b o (lt b o e).1 (u.keep b o e nb hb hx),λb o e nb hb hx=>?_,λb o e nb hx=>?_,λb o e hx=>?_,λb xs e=>?_,λb o xs e=>?_,λb ps e=>?_⟩
  ·obtain⟨sl,q⟩:=u.slot b o e nb hb hx
   exact⟨sl,hs.extBut b _ (lt b o e).1 q⟩
  ·rw [Ze (lt b o e).2];exact u.free b o e nb hx
  ·obtain⟨o',q⟩:=u.there b o e hx
   exact⟨o',hs.extBut b _ (lt b o e).1 q⟩
  ·have q:=u.tups b xs e
   rw [Ze (Zw q nD)];exact q
  ·have q:=u.frzs b o xs e
   rw [Ze (Zw q nD)];exact q
  ·obtain⟨more,q⟩:=u.tbls b ps e
   exact⟨more,by rw [Ze (Zw q nD)];exact q⟩
 ·refine HOk.track (I3.hok.but I3.free λb o hb e=>hs.extBut b o hb e) nD ?_
  exact⟨hz,its,n,rv,eD4⟩
def AW (wi:TI)(nT:Nat)(caps:List Nat)(g:TG)(tt:TT)(te:TE):TE:=λσ H Q=>wi σ H λJ H1=>Df J (Jl nT caps σ) g tt te (λys H3=>∀D,H3 D=none->Q (.ref D) (upd H3 D (.lst ys))) H1
theorem BZ {wi:TI}{g:TG}{tt:TT}{te:TE}(hc:X.calm=true)(hcell:∀y∈scope.names,y.2≠.cell)(hkind:scope.kind = .function)(hnames:∀y∈scope.names,y.2 = .local->scope.names.lookup y.1=some .local)
  (hfree:∀y∈scope.names,y.2 = .free->X.env.scope.names.lookup y.1=some .cell\/X.env.scope.names.lookup y.1=some .free) (hcap:T1 X scope caps_n caps) (hi:PI X tg iter wi) (hlow:PB tgs.length g)
  (hg:∀fp s H C,PG (ZF X scope (tgs++caps_n) fp s H C) tg g) (hf:∀fp s H C,PF (ZF X scope (tgs++caps_n) fp s H C) ifs tt) (he:∀fp s H C,PE (ZF X scope (tgs++caps_n) fp s H C) elt te)
  (hs:∀x,foldedSetIterable iter X.env x=pure x:=by intro _;rfl):PE X (.ListComp elt [⟨tg,iter,ifs,0⟩] scope pos) (AW wi tgs.length caps g tt te):=by
 intro pins s σ H Q I h;have hcl:Kd scope X.env:=λx hx=>I.ok.has x (hfree _ hx rfl)
 rw [eval_ListComp];refine wpAny_comprehension_free (use:=none) rfl hs (Ty hcl) hkind hnames (thn (hi pins s σ H _ I h) λv s1 h1=>thn h1 λitv s2 h2=>?_)
 obtain⟨it,fp,tn,J,H2,e,I2,T,st2,f2,hw⟩:=h2
 subst e;refine Tx I2 T st2 f2 hc hcell hkind hcl hcap hlow (hg fp) (hf fp) (he fp) hw (RR:=λacc C=>compPost (model X.prog X.w) X.A X.xe none (EP X pins σ Q) acc C) ?_
 intro D C ys its n H3 s3 hD hC hDC I3 rv hz fin;obtain⟨m,hn,_⟩:=I3.loc
 refine⟨m,hn,λh' hs'=>?_⟩
 obtain⟨eD,nD,_⟩:=I3.pin (D,Tj its n) (WO _ (by simp))
 exact⟨.ref D,_,Mv I2 f2 hD hC hDC I3 rv hz hs',rfl,fin D nD⟩
theorem Ek {wi:TI}{g:TG}{tt:TT}{te:TE}{i:Nat}{y:Str}{py spos:Pos}(hsw:swapsWith (.ListComp elt [⟨tg,iter,ifs,0⟩] scope pos) (some (.Name y py)) spos.line X.env=pure true)
  (hN:X.N.Nodup) (hy:X.N[i]? = some y) (hx:X.env.scope.names.lookup y=some .local)
  (hc:X.calm=true) (hcell:∀y∈scope.names,y.2≠.cell) (hkind:scope.kind = .function) (hnames:∀y∈scope.names,y.2 = .local->scope.names.lookup y.1=some .local)
  (hfree:∀y∈scope.names,y.2 = .free->X.env.scope.names.lookup y.1=some .cell\/X.env.scope.names.lookup y.1=some .free) (hcap:T1 X scope caps_n caps) (hi:PI X tg iter wi) (hlow:PB tgs.length g)
  (hg:∀fp s H C,PG (ZF X scope (tgs++caps_n) fp s H C) tg g) (hf:∀fp s H C,PF (ZF X scope (tgs++caps_n) fp s H C) ifs tt) (he:∀fp s H C,PE (ZF X scope (tgs++caps_n) fp s H C) elt te)
  (hs:∀x,foldedSetIterable iter X.env x=pure x:=by intro _;rfl):PS X (.Assign [.Name y py] (.ListComp elt [⟨tg,iter,ifs,0⟩] scope pos) spos) (Dg (AW wi tgs.length caps g tt te) (Bt i)):=by
 intro pins s σ H D I h;have hcl:Kd scope X.env:=λx hx=>I.ok.has x (hfree _ hx rfl)
 rw [exec_Assign_Name_used _ _ _ _ hsw];refine W2 (wpAny_standAt (W2 ?_))
 show wpAny _ X.A (do let _ <-comprehension (.ListComp elt [⟨tg,iter,ifs,0⟩] scope pos) scope X.env _ (newList []) false (eval iter X.env) (some (assign (.Name y py) X.env))) _ _ s
 refine W2 (VF (wpAny_comprehension_free (use:=some (assign (.Name y py) X.env)) (Q:=λ_ s'=>SP X pins D .next s') rfl hs (Ty hcl) hkind hnames
  (thn (hi pins s σ H _ I h) λv s1 h1=>thn h1 λitv s2 h2=>?_)) (λ_ s' hq=>Wk (Wk hq)) λ_ _ e=>e)
 obtain⟨it,fp,tn,J,H2,e,I2,T,st2,f2,hw⟩:=h2
 subst e;refine Tx I2 T st2 f2 hc hcell hkind hcl hcap hlow (hg fp) (hf fp) (he fp) hw (RR:=λacc C=>compPost (model X.prog X.w) X.A X.xe (some (assign (.Name y py) X.env)) (λ_ s'=>SP X pins D .next s') acc C) ?_
 intro Da C ys its n H3 s3 hD hC hDC I3 rv hz fin;obtain⟨m,hn,_⟩:=I3.loc
 obtain⟨eD,nD,_⟩:=I3.pin (Da,Tj its n) (WO _ (by simp))
 have I4:Inv X pins σ (upd H3 Da (.lst ys)) s3:=Mv I2 f2 hD hC hDC I3 rv hz (h4:=s3.heap) (VM.refl ..)
 have hLC:C≠X.env.locals:=W0l (WH I2.lt hC)
 show wpAny _ X.A (assign (.Name y py) X.env (.ref Da)) _ _ s3
 refine wpAny_assign_Name (GC I4 hN hy (.inl hx) (show ZC (.ref Da) (.ref Da) from rfl) (λs5 I5 hs5=>?_) (.inr hx))
 obtain⟨b5,sb5,hb5⟩:=hs5
 have hbC:C≠b5:=by
  rcases hb5 with z|z
  ·rw [z];exact hLC
  ·obtain⟨v,q⟩:=I2.cell y b5 z
   exact W0l (WH q.lt hC)
 refine⟨m,hn.sameBut sb5 hbC,λh6 sb6=>?_⟩
 have fC:upd H3 Da (.lst ys) C=none:=by rw [Ze (Ne.symm hDC)];exact I3.free
 refine⟨_,_,I5.turned (t':=s5.toks) (it:=C) (λb o hb e=>sb6.extBut b o hb e) fC hLC (.inr (V2 I2.sz hC)) (λx c e z=>?_) (λp hp z=>?_),fin Da nD⟩
 ·obtain⟨v,q⟩:=I2.cell x c e
  exact absurd (WH q.lt hC) (by rw [z];exact Vk _)
 ·exact absurd (WH (Ww (I2.pin p hp).1) hC) (by rw [z];exact Vk _)
end
end L2
namespace L2
open PySem PySem.Spec PyProof.Rows
section
variable {prog:Program} {w:World} {κ:Type} [DecidableEq κ] {kd:HeapKind prog w κ} {A:Around} {E:Value->Shared->Prop} {s:Shared} {a:Addr} {tab:List (κ×Addr×Value)}
theorem MW (ns:(a == sysModules)=false):MeetsIn prog w (Builtin.«dict.__len__» ⟨[.ref a],[]⟩) (λ_ R s=>∃tab,s.heap.DictOfH kd a tab/\R (.ok (.ret (.int tab.length s.toks))) { s with toks:=s.toks+1 }):=
 .of_wp λ_ R s ⟨tab,⟨o,es,ep,ho,_,hdat,he,_,_⟩,h⟩=>by
  have hz:es.size=tab.length:=by simpa using congrArg V4 he
  refine W2 (m:=dictSize a) (W2 (W0C ho hdat (Wk (W2 (m:=Builtin.Dict.pendingCount a) (wpAny_pendingCount_other ns (wpAny_ret_mkInt ?_))))))
  rw [Nat.add_zero,hz];exact h
theorem B7 {Q:Value->Shared->Prop}(ns:(a == sysModules)=false)(hm:s.heap.DictOfH kd a tab)(fit:(tab.length:Int)<2 ^ 63)(h:Q (.int tab.length (s.toks+1)) { s with toks:=s.toks+1+1 }) :
  wpAny (model prog w) A (Builtin.«len» ⟨[.ref a],[]⟩) (λfin s'=>∃r,fin = .done (.ret r)/\Q r s') E s:=by
 unfold Builtin.«len»
 refine W2 (m:=oneArg "len" _) (Wk (W2 (m:=callSpecial? (.ref a) (Wp "__len__")) (V3 (name:=Wp "__len__") hm.typeIs W0r ?_)))
 refine call_meetsIn W0r hm.typeIs F.entry_dict_len (F.args_dict_len_1 _) (MW ns) ⟨tab,hm,W2 (Vs (Wk (W2 (wpAny_letGo ?_))))⟩
 have n1:¬((tab.length:Nat):Int)<0:=by omega
 have n2:¬((tab.length:Nat):Int)>=2 ^ 63:=by omega
 show wpAny _ _ (if ((tab.length:Nat):Int)<0 then _ else _) _ _ _
 rw [if_neg n1];show wpAny _ _ (if ((tab.length:Nat):Int)>=2 ^ 63 then _ else _) _ _ _
 rw [if_neg n2];exact W2 (wpAny_mkInt (Wk (show ∃r,_ from ⟨_,rfl,h⟩)))
theorem Gp {Q:Value->Shared->Prop}(ns:(a == sysModules)=false)(hm:s.heap.DictOfH kd a tab)(fit:(tab.length:Int)<2 ^ 63)(h:Q (.int tab.length (s.toks+1)) { s with toks:=s.toks+1+1 }) :
  wpAny (model prog w) A (call (.builtin "len") [.ref a]) Q E s:=VS kind_len plain_len entry_len (args_len1 _) (B7 ns hm fit h)
theorem BQ {Q:Bool->Shared->Prop}(ns:(a == sysModules)=false)(hm:s.heap.DictOfH kd a tab)(fit:(tab.length:Int)<2 ^ 63)(h:Q (!tab.isEmpty) { s with toks:=s.toks+1+1 }) :
  wpAny (model prog w) A (truthy (.ref a)) Q E s:=by
 have ne:((tab.length:Int) != 0) = !tab.isEmpty:=by cases tab<;>simp<;>omega
 have run:wpAny (model prog w) A (runValue (.builtin "len" ⟨[.ref a],[]⟩)) (λr s'=>r = .int tab.length (s.toks+1)/\Q (!tab.isEmpty) s') E s:=by
  refine wpAny_runValue (codeAny_builtin entry_len (by
   rw [W0O plain_len _];exact VF (B7 (Q:=λr s'=>r = .int tab.length (s.toks+1)/\Q (!tab.isEmpty) s') ns hm fit ⟨rfl,h⟩) (λ_ _ q=>by obtain⟨_,e,q⟩:=q;subst e;exact q) λ_ _ z=>z))
 unfold truthy
 first
  |refine W2 (W0s (name:=Wp "__bool__") hm.typeIs noBool_dict (W2 (wpAny_specialOf (name:=Wp "__len__") hm.typeIs W0r.lookup ?_)))
  |refine W2 (Wk (W2 (W0s (name:=Wp "__bool__") hm.typeIs noBool_dict (W2 (wpAny_specialOf (name:=Wp "__len__") hm.typeIs W0r.lookup ?_)))))
  |refine W2 (Wk (W2 (W0s (name:=Wp "__bool__") hm.typeIs noBool_dict (W2 (Wk (W2 (wpAny_specialOf (name:=Wp "__len__") hm.typeIs W0r.lookup ?_)))))))
 first
  |exact W2 (VF run (λ_ _ q=>by rw [q.1];exact Wk (ne ▸ q.2)) λ_ _ z=>z)
  |exact W2 (Wk (W2 (VF run (λ_ _ q=>by rw [q.1];exact Wk (ne ▸ q.2)) λ_ _ z=>z)))
end
section
variable {X:Cx}
def LW (K:W3)(x:V)(H:Hp)(k:Bool):Prop:=Xw K x H k\/(∃p kvs,x = .ref p/\Rd H p (.dT kvs)/\k = !kvs.isEmpty)\/∃p kvs,x = .ref p/\Rd H p (.dK kvs)/\k = !kvs.isEmpty
theorem Kq:Xx X (λx H Q=>∃k,LW X.K x H k/\Q k H):=by
 intro pins s σ H x v Q I rx h;obtain⟨k,e,q⟩:=h
 rcases e with e|⟨p,kvs,rfl,hx,rfl⟩|⟨p,kvs,rfl,hx,rfl⟩
 ·exact CT pins s σ H x v Q I rx ⟨k,e,q⟩
 ·cases rx
  obtain⟨hz,hS,xs,r,m⟩:=Bx I.hok hx
  have hlen:kvs.length=xs.length:=VV r
  have hs:Wc=16777216:=VX
  refine BQ hS m (by omega) ⟨H,I.tok _,?_⟩
  have:(!xs.isEmpty) = !kvs.isEmpty:=by cases r<;>rfl
  rw [this];exact q
 ·cases rx
  exact Cl I hx λs' I'=>⟨H,I',q⟩
theorem KM {a:Expr}{ta:TE}(ha:PE X a ta)(he:∀whole,isTrue a X.env whole=(do let v <-whole;standAt a.pos;holding [v] (truthy v))) :
  PT X a (λσ H Q=>ta σ H λx H'=>∃k,LW X.K x H' k/\Q k H'):=by
 intro pins s σ H Q I h;exact isTrue_plain (thn (ha pins s σ H _ I h) λv s1 ⟨x,H1,I1,r1,q1⟩=>Kq pins s1 σ H1 x v Q I1 r1 q1) (he _)
end
end L2
namespace L2
open PySem PySem.Spec PyProof.Rows
section
variable {P:Program} {w:World} {H:Hp} {h:Heap} {a:Addr}
theorem LO (x:Zz P w H h a (.dK [])):Zz P w H h a (.dT []):=by
 obtain⟨z,hd,vs,rel,o,es,ep,h1,h2,h3,h4,h5,h6⟩:=(show (_:Nat)<=Wc/\(a == sysModules)=false/\∃vs,KV [] vs/\h.DictOf (ZT P w) a vs from x)
 cases rel;have he:es.toList=[]:=List.length_eq_zero_iff.mp h5.length
 exact⟨Vq _,hd,[],.nil,o,es,ep,h1,h2,h3,by rw [he];rfl,List.nodup_nil⟩
theorem LL (x:Zz P w H h a (.dT [])):Zz P w H h a (.dK []):=by
 obtain⟨z,hd,xs,rel,o,es,ep,h1,h2,h3,h4,h5⟩:=x
 cases rel;have he:es.toList=[]:=by rw [h4];rfl
 refine⟨Vq _,hd,[],.nil,o,es,ep,h1,h2,h3,λe hm=>?_,?_,List.nodup_nil⟩
 ·have:e∈es.toList:=Array.mem_toList_iff.mpr hm
  rw [he] at this;cases this
 ·rw [he];exact .nil
end
section
variable {X:Cx} {pins:List (Addr×Obj)} {σ:St} {H:Hp} {s:Shared} {a:Addr} {y v:V} {u r:Value} {o:Option V} {A:Around} {E:Value->Shared->Prop}
theorem Inv.view {o':HO}(I:Inv X pins σ H s)(mu:Mut (H a))(he:∃q,s.heap.get? a=some q)(f:Zz X.prog X.w (upd H a o') s.heap a o'):Inv X pins σ (upd H a o') s:=
 JV (h':=s.heap) (t':=s.toks) (ob:=o') I mu ⟨rfl,λ_ _=>rfl⟩ he f
theorem D0 {P:Program}{w:World}{H:Hp}{h:Heap}{a:Addr}{kvs:List (Key×V)}(x:Zz P w H h a (.dK kvs)):∃q,h.get? a=some q:=by
 obtain⟨_,_,vs,_,o,_,_,h1,_⟩:=x
 exact⟨o,h1⟩
theorem IX {P:Program}{w:World}{H:Hp}{h:Heap}{a:Addr}{kvs:List (List Key×V)}(x:Zz P w H h a (.dT kvs)):∃q,h.get? a=some q:=by
 obtain⟨_,_,xs,_,o,_,_,h1,_⟩:=x
 exact⟨o,h1⟩
theorem Inv.asT (I:Inv X pins σ H s)(e:H a=some (.dK [])):Inv X pins σ (upd H a (.dT [])) s:=by
 have ok:=I.hok a _ e
 refine I.view (by rw [e];exact True.intro) (D0 ok) ?_
 obtain⟨z,hd,xs,rel,r⟩:=LO ok
 cases rel;exact⟨z,hd,[],.nil,r⟩
theorem Inv.asK (I:Inv X pins σ H s)(e:H a=some (.dT [])):Inv X pins σ (upd H a (.dK [])) s:=by
 have ok:=I.hok a _ e
 refine I.view (by rw [e];exact True.intro) (IX ok) ?_
 obtain⟨z,hd,vs,r⟩:=LL ok
 exact⟨z,hd,vs,r⟩
theorem Inv.back {o:HO}(I:Inv X pins σ (upd H a o) s)(e:H a=some (.dK [])\/H a=some (.dT []))(ho:o = .dK []\/o = .dT []):Inv X pins σ H s:=by
 have eH:∀o',H a=some o'->upd (upd H a o) a o'=H:=λo' h=>by
  rw [Qp]
  funext b
  unfold upd;by_cases hb:b=a
  ·rw [if_pos hb,hb,h]
  ·rw [if_neg hb]
 rcases e with e|e<;>rcases ho with rfl|rfl
 ·have hu:upd H a (.dK [])=H:=by rw [<-Qp (o:=.dK [])];exact eH _ e
  rw [hu] at I;exact I
 ·have:=I.asK Z6
  rw [eH _ e] at this;exact this
 ·have:=I.asT Z6
  rw [eH _ e] at this;exact this
 ·have hu:upd H a (.dT [])=H:=by rw [<-Qp (o:=.dT [])];exact eH _ e
  rw [hu] at I;exact I
def Uf (H:Hp)(a:Addr)(y:V)(r:Option V):Prop:=Cz H a y r\/
 ((H a=some (.dK [])/\∃(k:List Key) (b:Addr),y = .ref b/\H b=some (.tup (k.map kV))/\r=none)\/(H a=some (.dT [])/\∃k:Key,y=kV k/\r=none))
theorem Uf.view (I:Inv X pins σ H s)(g:Uf H a y o):∃H',Inv X pins σ H' s/\Cz H' a y o/\∀s',Inv X pins σ H' s'->Inv X pins σ H s':=by
 rcases g with g|⟨e,k,b,ey,eb,er⟩|⟨e,k,ey,er⟩
 ·exact⟨H,I,g,λ_ h=>h⟩
 ·subst ey er
  have hb:b≠a:=JD eb e (λz=>nomatch z)
  exact⟨_,I.asT e,.inr ⟨[],k,b,.inl Z6,rfl,by rw [Ze hb];exact eb,rfl⟩,λs' h=>h.back (.inl e) (.inr rfl)⟩
 ·subst ey er
  exact⟨_,I.asK e,.inl ⟨[],k,.inl Z6,rfl,rfl⟩,λs' h=>h.back (.inr e) (.inl rfl)⟩
theorem Uf.ofSome {x:V}(g:Uf H a y (some x)):Cz H a y (some x):=by
 rcases g with g|⟨_,_,_,_,_,h⟩|⟨_,_,_,h⟩
 ·exact g
 ·cases h
 ·cases h
theorem Mu {Q:Value->Shared->Prop}(hu:A.units+1<cLine)(I:Inv X pins σ H s)(g:Uf H a y o)(ry:ZC y u)(h:∀s',Inv X pins σ H s'->Q (.bool (!o.isSome)) s') :
  wpAny (model X.prog X.w) A (compareOp .NotIn u (.ref a)) Q E s:=by
 obtain⟨H',I',g',back⟩:=g.view I
 exact Cm hu I' g' ry λs' I1=>h s' (back s' I1)
theorem Cn {d:V}{Q:Value->Shared->Prop}(hu:A.units+1<cLine)(I:Inv X pins σ H s)(g:Uf H a y o)(ry:ZC y u)(rd:ZC d r)(h:∀w' s',Inv X pins σ H s'->ZC (o.getD d) w'->Q w' s') :
  wpAny (model X.prog X.w) A (call (.builtin "dict.get") [.ref a,u,r]) Q E s:=by
 obtain⟨H',I',g',back⟩:=g.view I
 exact D3 hu I' g' ry rd λw' s' I1=>h w' s' (back s' I1)
def Cy (H:Hp)(a:Addr)(y v:V)(H':Hp):Prop:=Xz H a y v H'\/
 ((H a=some (.dK [])/\∃(k:List Key) (b:Addr),y = .ref b/\H b=some (.tup (k.map kV))/\H'=upd H a (.dT [(k,v)]))\/(H a=some (.dT [])/\∃k:Key,y=kV k/\H'=upd H a (.dK [(k,v)])))
theorem K6 {H':Hp}{Q:Unit->Shared->Prop}(hu:A.units+1<cLine)(I:Inv X pins σ H s)(g:Cy H a y v H')(ry:ZC y u)(rv:ZC v r)(h:∀s',Inv X pins σ H' s'->Q () s') :
  wpAny (model X.prog X.w) A (setItem (.ref a) u r) Q E s:=by
 have hz:0<Wc:=by decide
 rcases g with g|⟨e,k,b,ey,eb,er⟩|⟨e,k,ey,er⟩
 ·exact UQ hu I g ry rv h
 ·subst ey er
  have hb:b≠a:=JD eb e (λz=>nomatch z)
  refine UQ hu (I.asT e) (.inr ⟨[],k,b,Z6,rfl,by rw [Ze hb];exact eb,hz,rfl⟩) ry rv ?_
  rw [Qp];exact h
 ·subst ey er
  refine UQ hu (I.asK e) (.inl ⟨[],k,Z6,rfl,hz,rfl⟩) ry rv ?_
  rw [Qp];exact h
end
end L2
namespace L2
open PySem PySem.Spec PyProof.Rows
section
variable {X:Cx} {pins:List (Addr×Obj)} {σ:St} {H:Hp} {s:Shared}
theorem Inv.turnedL {h':Heap}{t':Nat}{ch:List Addr}(I:Inv X pins σ H s)(hf:∀b∈ch,Kc X pins H b)(k:∀b o,b∉ch->s.heap.get? b=some o->h'.get? b=some o):Inv X pins σ H { s with heap:=h',toks:=t' }:=by
 have nit:∀b u,H b=some u->b∉ch:=λb u e z=>by rw [(hf b z).1] at e;cases e
 have nL:X.env.locals∉ch:=λz=>(hf _ z).2.1 rfl
 refine I.step (g':=s.gens) (d':=s.drawn) (ch:=ch) (λb hb=>?_) (λb o _ _ hc e _=>k b o hc e) (λb o _ _ hc e _=>⟨o.slots,k b o hc e⟩) (λ_ _ _ _ n=>n)
  (λb o hc e=>⟨o,k b o hc e⟩) (λ_ _ e=>e) (λ_ _ _ e=>e) (λb ps e=>⟨#[],by rw [e];simp⟩) (λm hm=>?_) (λb u e=>?_) I.bare
 ·obtain⟨_,f1,_,f3,f4,f5⟩:=hf b hb
  exact⟨f3,f1,f4,f5⟩
 ·obtain⟨o,es,ep,ho,r⟩:=hm
  exact⟨o,es,ep,k _ o nL ho,r⟩
 ·refine (I.hok b u e).stay (λc v hc q=>k c v ?_ q) (λ_ q=>q) λ_ _ q=>q
  rcases hc with z|z
  ·rw [z];exact nit b u e
  ·exact nit c _ z
end
section
variable {prog:Program} {w:World} {A:Around} {E:Value->Shared->Prop} {s:Shared}
theorem K5 (hh:A.handled=none)(it l:Addr)(hne:l≠it)(items:Array Value) :
  Draws prog w A it [it,l] items.size (λi v=>items[i]? = some v) (λi h=>h.IsTupleIter it l i/\h.IsTuple l items) where
 live:=λ_ _ ⟨⟨o,ho,_⟩,_⟩=>⟨o,ho⟩
 frame:=λ_ _ _ ⟨⟨o,ho,r⟩,⟨ol,hol,r'⟩⟩ hk=>⟨⟨o,hk it WC o ho,r⟩,⟨ol,hk l (WD _ WC) ol hol,r'⟩⟩
 item:=λi s Q E hi st hQ=>by
  obtain⟨it1,ht⟩:=st
  obtain⟨o,ho,hc,hd⟩:=id it1
  obtain⟨ol,hol,hcl,nl,hdl⟩:=id ht
  have hx:items[i]? = some items[i]:=W1f hi
  unfold Vf;refine W2 (V3 (name:=Wp "__next__") it1.typeIs VL (Vg VL it1.typeIs W0Z ?_ (W0S _)))
  refine W2 (m:=field (.ref it) 0) (Vl ho hd (x:=.ref l) rfl ?_)
  dsimp only;rw [if_neg (show ¬(Value.ref l == Value.none)=true from WI)];refine W2 (m:=field (.ref it) 1) (Vl ho hd (x:=.int i 0) rfl (W2 (m:=seqItems? (.ref l)) (VD hol hdl ?_)))
  simp only [W06,hx]
  refine W2 (W1g ho hd (by simp) (Wk ⟨_,rfl,Wk ?_⟩))
  have sb:=VI s.heap it (Obj.mapFields (·.setIfInBounds 1 (rawInt ((i:Int)+1))))
  refine hQ _ _ s.toks hx ⟨⟨_,W0H _ ho (Obj.isFreed_of_fields (W0t hd _)),(Obj.cls_mapFields ..).trans hc,by rw [W0t hd];simp [rawInt]⟩,?_⟩ sb
  exact ht.extBut sb.extBut hne
 done:=λs Q E st hE=>by
  obtain⟨it1,ht⟩:=st
  obtain⟨o,ho,hc,hd⟩:=id it1
  obtain⟨ol,hol,hcl,nl,hdl⟩:=id ht
  have hx:items[items.size]? = none:=by simp
  unfold Vf;refine W2 (V3 (name:=Wp "__next__") it1.typeIs VL (Vg VL it1.typeIs W0Z ?_ (W0S _)))
  refine W2 (m:=field (.ref it) 0) (Vl ho hd (x:=.ref l) rfl ?_)
  dsimp only;rw [if_neg (show ¬(Value.ref l == Value.none)=true from WI)];refine W2 (m:=field (.ref it) 1) (Vl ho hd (x:=.int items.size 0) rfl (W2 (m:=seqItems? (.ref l)) (VD hol hdl ?_)))
  simp only [W06,hx]
  refine W2 (W1p (W2 (W1g ho hd (by simp) (W2 (m:=newExc (.type "StopIteration") []) ?_))))
  unfold newExc newTuple;refine W2 (Vb (W2 (m:=firstArgMember _ _) (wpAny_of_eq (a:=Value.none) (by first|rfl|(simp only [firstArgMember];rfl)) (Vb ?_ (by size_fits)))) (by size_fits))
  unfold raiseNew;refine W2 (wpAny_handled ?_)
  first|rw [show A.in1.handled=none from hh]|rw [hh]
  exact W2 (Wk (wpAny_throw (hE _ _ (((VI ..).extBut.push _).push _) ⟨_,Wt _ rfl,rfl⟩)))
structure ZAp (z TI TO i1 i2:Addr) (fp1 fp2:List Addr):Prop where
 a1:TI≠z
 a2:TO≠z
 a3:i1≠z
 a4:i2≠z
 a5:TI≠TO
 a6:TI≠i1
 a7:TI≠i2
 a8:TO≠i1
 a9:TO≠i2
 b1:i1≠i2
 b2:z∉fp1
 b3:z∉fp2
 b4:TO∉fp1
 b5:TO∉fp2
 b6:i1∉fp2
 b7:i2∉fp1
theorem G1 {b:Addr}{fp:List Addr}(h:b∉fp):∀c∈fp,c≠b:=λc hc z=>h (z ▸ hc)
theorem JU {it:Addr}{fp:List Addr}{n i:Nat}{P:Nat->Value->Prop}{St:Nat->Heap->Prop}{b:Addr}{h h':Heap}(D:Draws prog w A it fp n P St)(st:St i h)(sb:VM b h h')(hb:b∉fp):St i h':=
 D.frame i h h' st λc hc o e=>sb.extBut c o (G1 hb c hc) e
section
variable {z TI TO i1 i2:Addr} {fp1 fp2:List Addr} {n1 n2 k:Nat} {P1 P2:Nat->Value->Prop} {St1 St2:Nat->Heap->Prop} {a b:Value}
theorem Kl {Q:Value->Shared->Prop}(D1:Draws prog w A i1 fp1 n1 P1 St1)(D2:Draws prog w A i2 fp2 n2 P2 St2)(Z:ZAp z TI TO i1 i2 fp1 fp2)(hz:IsZip s.heap z TI TO .none)(hTI:IsPair s.heap TI (.ref i1) (.ref i2))(hTO:IsPair s.heap TO a b)
  (st1:St1 k s.heap) (st2:St2 k s.heap) (k1:k<n1) (k2:k<n2)
  (hQ:∀x y h' tk,P1 k x->P2 k y->IsZip h' z TI TO (rawInt s.heap.objs.size)->IsPair h' TO x y->St1 (k+1) h'->St2 (k+1) h'->IsPair h' s.heap.objs.size x y->h'.objs.size=s.heap.objs.size+1->
   (∀c o,c∉[z,TO,i1,i2]->s.heap.get? c=some o->h'.get? c=some o)->Q (.ref s.heap.objs.size) { s with heap:=h',toks:=tk }) :
  wpAny (model prog w) A (Builtin.«zip.__next__» ⟨[.ref z],[]⟩) (λfin s'=>∃v,fin = .done (.ret v)/\Q v s') E s:=by
 refine W2 (m:=field (.ref z) 2) (Vl hz rfl (x:=.bool false) rfl (W2 (m:=field (.ref z) 3) (Vl hz rfl (x:=.ref TI) rfl (W2 (VD hTI rfl ?_)))))
 refine W2 (m:=Vh (.ref z)) ?_
 unfold Vh;refine W2 (Vl hz rfl (x:=.none) rfl (Wk ?_))
 simp only [if_true]
 refine W2 (W1p (W2 (Vl hz rfl (x:=.ref TO) rfl (W2 (VO hz (by simp) λg1 hz1 sb1=>W2 ?_)))))
 have hz1':IsZip g1 z TI TO .ellipsis:=hz1
 simp only [List.zipIdx_cons,List.zipIdx_nil,List.forIn_cons,List.forIn_nil]
 refine W2 (W2 (wpAny_onRaise (W2 (m:=Vf (.ref i1)) ?_)))
 refine D1.item k _ _ _ k1 (JU D1 st1 sb1 Z.b2) λx g2 t2 hx st1' sb2=>Wk ?_
 have to2:IsPair g2 TO a b:=sb2.extBut _ _ Z.a8 (sb1.extBut _ _ Z.a2 hTO)
 refine W2 (VD to2 rfl (W2 (W0P to2 λg3 to3 sb3=>W2 (wpAny_letGo (Wk ?_)))))
 have to3':IsPair g3 TO x b:=to3
 refine W2 (W2 (wpAny_onRaise (W2 (m:=Vf (.ref i2)) ?_)))
 refine D2.item k _ _ _ k2 (JU D2 (JU D2 (JU D2 st2 sb1 Z.b3) sb2 Z.b6) sb3 Z.b5) λy g4 t4 hy st2' sb4=>Wk ?_
 have to4:IsPair g4 TO x b:=sb4.extBut _ _ Z.a9 to3'
 refine W2 (VD to4 rfl (W2 (W0P to4 λg5 to5 sb5=>W2 (wpAny_letGo (Wk (Wk ?_))))))
 have to5':IsPair g5 TO x y:=to5
 refine W2 (VD to5' rfl (W2 (wpAny_newTuple ?_)))
 have size5:g5.objs.size=s.heap.objs.size:=by rw [sb5.1,sb4.1,sb3.1,sb2.1,sb1.1]
 have z5:IsZip g5 z TI TO .ellipsis:=sb5.extBut _ _ Z.a2.symm (sb4.extBut _ _ Z.a4.symm (sb3.extBut _ _ Z.a2.symm (sb2.extBut _ _ Z.a3.symm hz1')))
 have kept5:∀c o,c∉[z,TO,i1,i2]->s.heap.get? c=some o->g5.get? c=some o:=λc o hc e=>by
  simp only [Wx,WM,or_false,not_or] at hc
  exact sb5.extBut _ _ hc.2.1 (sb4.extBut _ _ hc.2.2.2 (sb3.extBut _ _ hc.2.1 (sb2.extBut _ _ hc.2.2.1 (sb1.extBut _ _ hc.1 e))))
 have s15:St1 (k+1) g5:=JU D1 (JU D1 (JU D1 st1' sb3 Z.b4) sb4 Z.b7) sb5 Z.b4
 have s25:St2 (k+1) g5:=JU D2 st2' sb5 Z.b5
 have ltz:z<g5.objs.size:=Ww z5
 refine W2 (m:=W0b (.ref z) (.ref g5.objs.size)) ?_
 unfold W0b;have z6:IsZip (g5.push { cls:=.type "tuple",data:=.seq #[x,y] }) z TI TO .ellipsis:=Wj _ z5
 refine W2 (VO z6 (by simp) λg7 z7 sb7=>?_)
 have z7':IsZip g7 z TI TO (rawInt g5.objs.size):=z7
 refine VO z7' (by simp) λg8 z8 sb8=>?_
 have z8':IsZip g8 z TI TO (rawInt g5.objs.size):=z8
 have up8:∀c o,c≠z->g5.get? c=some o->g8.get? c=some o:=λc o hc e=>sb8.extBut _ _ hc (sb7.extBut _ _ hc (Wj _ e))
 have new8:IsPair g8 g5.objs.size x y:=sb8.extBut _ _ (W0l ltz) (sb7.extBut _ _ (W0l ltz) (Wt _ rfl))
 have size8:g8.objs.size=g5.objs.size+1:=by rw [sb8.1,sb7.1,VC]
 rw [size5] at z8' new8 size8
 refine Wk ⟨_,rfl,?_⟩
 show Q (.ref g5.objs.size) _
 rw [size5];exact hQ x y g8 _ hx hy z8' (up8 _ _ Z.a2 to5') (D1.frame _ _ _ s15 λc hc o e=>up8 c o (G1 Z.b2 c hc) e) (D2.frame _ _ _ s25 λc hc o e=>up8 c o (G1 Z.b3 c hc) e) new8 size8
  λc o hc e=>up8 c o (λq=>hc (by simp [q])) (kept5 c o hc e)
theorem PC {Q:PySem.Fin->Shared->Prop}(D1:Draws prog w A i1 fp1 n1 P1 St1)(D2:Draws prog w A i2 fp2 n2 P2 St2)(Z:ZAp z TI TO i1 i2 fp1 fp2)(hz:IsZip s.heap z TI TO .none)(hTI:IsPair s.heap TI (.ref i1) (.ref i2))(hTO:IsPair s.heap TO a b)
  (st1:St1 k s.heap) (st2:St2 k s.heap) (hk:k=n1\/(k<n1/\k=n2))
  (hE:∀h' e tk,(∀c o,c∉[z,TO,i1,i2]->s.heap.get? c=some o->h'.get? c=some o)->(∃o,h'.get? e=some o/\o.cls = .type "StopIteration")->E (.ref e) { s with heap:=h',toks:=tk }) :
  wpAny (model prog w) A (Builtin.«zip.__next__» ⟨[.ref z],[]⟩) Q E s:=by
 refine W2 (m:=field (.ref z) 2) (Vl hz rfl (x:=.bool false) rfl (W2 (m:=field (.ref z) 3) (Vl hz rfl (x:=.ref TI) rfl (W2 (VD hTI rfl ?_)))))
 refine W2 (m:=Vh (.ref z)) ?_
 unfold Vh;refine W2 (Vl hz rfl (x:=.none) rfl (Wk ?_))
 simp only [if_true]
 refine W2 (W1p (W2 (Vl hz rfl (x:=.ref TO) rfl (W2 (VO hz (by simp) λg1 hz1 sb1=>W2 ?_)))))
 have hz1':IsZip g1 z TI TO .ellipsis:=hz1
 simp only [List.zipIdx_cons,List.zipIdx_nil,List.forIn_cons,List.forIn_nil]
 refine W2 (W2 (wpAny_onRaise (W2 (m:=Vf (.ref i1)) ?_)))
 have fin:∀{g:Heap} {e:Addr} {tk:Nat},IsZip g z TI TO .ellipsis->(∀c o,c∉[z,TO,i1,i2]->s.heap.get? c=some o->g.get? c=some o)->(∃o,g.get? e=some o/\o.cls = .type "StopIteration")->
   ∀(h':Heap),VM z g h'->E (.ref e) { s with heap:=h',toks:=tk }:=by
  intro g e tk gz gk ⟨oe,he,ce⟩ h' sb
  have ez:e≠z:=λq=>by subst q;rw [gz] at he;cases he;simp at ce
  exact hE h' e tk (λc o hc q=>sb.extBut _ _ (λr=>hc (by simp [r])) (gk c o hc q)) ⟨oe,sb.extBut _ _ ez he,ce⟩
 rcases hk with rfl|⟨k1,rfl⟩
 ·refine D1.done _ _ _ (JU D1 st1 sb1 Z.b2) λg2 e sb2 he=>?_
  have z2:IsZip g2 z TI TO .ellipsis:=sb2 _ _ Z.a3.symm hz1'
  refine VO z2 (by simp) λg3 _ sb3=>fin z2 (λc o hc q=>?_) he g3 sb3
  simp only [Wx,WM,or_false,not_or] at hc
  exact sb2 _ _ hc.2.2.1 (sb1.extBut _ _ hc.1 q)
 ·refine D1.item k _ _ _ k1 (JU D1 st1 sb1 Z.b2) λx g2 t2 hx st1' sb2=>Wk ?_
  have to2:IsPair g2 TO a b:=sb2.extBut _ _ Z.a8 (sb1.extBut _ _ Z.a2 hTO)
  refine W2 (VD to2 rfl (W2 (W0P to2 λg3 to3 sb3=>W2 (wpAny_letGo (Wk ?_)))))
  refine W2 (W2 (wpAny_onRaise (W2 (m:=Vf (.ref i2)) ?_)))
  refine D2.done _ _ _ (JU D2 (JU D2 (JU D2 st2 sb1 Z.b3) sb2 Z.b6) sb3 Z.b5) λg4 e sb4 he=>?_
  have z4:IsZip g4 z TI TO .ellipsis:=sb4 _ _ Z.a4.symm (sb3.extBut _ _ Z.a2.symm (sb2.extBut _ _ Z.a3.symm hz1'))
  refine VO z4 (by simp) λg5 _ sb5=>fin z4 (λc o hc q=>?_) he g5 sb5
  simp only [Wx,WM,or_false,not_or] at hc
  exact sb4 _ _ hc.2.2.2 (sb3.extBut _ _ hc.2.1 (sb2.extBut _ _ hc.2.2.1 (sb1.extBut _ _ hc.1 q)))
theorem MO {Q:Option Value->Shared->Prop}(D1:Draws prog w A.in1 i1 fp1 n1 P1 St1)(D2:Draws prog w A.in1 i2 fp2 n2 P2 St2)(Z:ZAp z TI TO i1 i2 fp1 fp2)(hz:IsZip s.heap z TI TO .none)(hTI:IsPair s.heap TI (.ref i1) (.ref i2))(hTO:IsPair s.heap TO a b)
  (st1:St1 k s.heap) (st2:St2 k s.heap) (k1:k<n1) (k2:k<n2)
  (hQ:∀x y h' tk,P1 k x->P2 k y->IsZip h' z TI TO (rawInt s.heap.objs.size)->IsPair h' TO x y->St1 (k+1) h'->St2 (k+1) h'->IsPair h' s.heap.objs.size x y->h'.objs.size=s.heap.objs.size+1->
   (∀c o,c∉[z,TO,i1,i2]->s.heap.get? c=some o->h'.get? c=some o)->Q (some (.ref s.heap.objs.size)) { s with heap:=h',toks:=tk }) :
  wpAny (model prog w) A (pyNext (.ref z)) Q E s:=by
 have hT:s.TypeIs (.ref z) "zip":=⟨_,hz,rfl⟩
 unfold pyNext;refine W2 (wpAny_attempt (V3 (name:=Wp "__next__") hT W10 (Vg W10 hT F.entry_zip_next ?_ (F.args_zip_next_1 _))))
 exact Kl D1 D2 Z hz hTI hTO st1 st2 k1 k2 λx y h' tk c1 c2 c3 c4 c5 c6 c7 c8 c9=>Wk (hQ x y h' tk c1 c2 c3 c4 c5 c6 c7 c8 c9)
theorem Rc {Q:Option Value->Shared->Prop}(D1:Draws prog w A.in1 i1 fp1 n1 P1 St1)(D2:Draws prog w A.in1 i2 fp2 n2 P2 St2)(Z:ZAp z TI TO i1 i2 fp1 fp2)(hz:IsZip s.heap z TI TO .none)(hTI:IsPair s.heap TI (.ref i1) (.ref i2))(hTO:IsPair s.heap TO a b)
  (st1:St1 k s.heap) (st2:St2 k s.heap) (hk:k=n1\/(k<n1/\k=n2)) (hQ:∀h' tk,(∀c o,c∉[z,TO,i1,i2]->s.heap.get? c=some o->h'.get? c=some o)->Q none { s with heap:=h',toks:=tk }) :
  wpAny (model prog w) A (pyNext (.ref z)) Q E s:=by
 have hT:s.TypeIs (.ref z) "zip":=⟨_,hz,rfl⟩
 unfold pyNext;refine W2 (wpAny_attempt (V3 (name:=Wp "__next__") hT W10 (Vg W10 hT F.entry_zip_next ?_ (F.args_zip_next_1 _))))
 refine PC D1 D2 Z hz hTI hTO st1 st2 hk λh' e tk kp ⟨o,ho,hc⟩=>?_
 exact W2 (wpAny_isInstance (T:="StopIteration") (b:=true) ⟨o,ho,hc⟩ isSubtype_stop (Wk (hQ h' tk kp)))
end
def Uu:Bool->String
 |true=>"list_iterator"
 |false=>"tuple_iterator"
def Ps (sk:Bool)(h:Heap)(it l:Addr)(k:Nat):Prop:=match sk with|true=>h.IsListIter it l k|false=>h.IsTupleIter it l k
def Kb (sk:Bool)(h:Heap)(l:Addr)(items:Array Value):Prop:=match sk with|true=>h.IsList l items|false=>h.IsTuple l items
theorem Um (sk:Bool)(hh:A.handled=none)(it l:Addr)(hne:l≠it)(items:Array Value):Draws prog w A it [it,l] items.size (λi v=>items[i]? = some v) (λi h=>Ps sk h it l i/\Kb sk h l items):=by
 cases sk
 ·exact K5 hh it l hne items
 ·exact PySem.Draws.list hh it l hne items
theorem Mf (sk:Bool){l:Addr}{items:Array Value}{Q:Value->Shared->Prop}(hl:Kb sk s.heap l items)(hQ:Q (.ref s.heap.objs.size) { s with heap:=s.heap.push { cls:=.type (Uu sk),data:=.fields #[.ref l,.int 0 0] } }) :
  wpAny (model prog w) A (pyIter (.ref l)) Q E s:=by
 cases sk
 ·exact W0u hl hQ
 ·exact W1q hl hQ
theorem Kb.push {sk:Bool}{h:Heap}{l:Addr}{items:Array Value}(x:Kb sk h l items)(o:Obj):Kb sk (h.push o) l items:=by
 cases sk
 ·obtain⟨q,e,r⟩:=x
  exact⟨q,Wj _ e,r⟩
 ·exact Heap.IsList.push x _
theorem Ps.new {sk:Bool}{h:Heap}{it l:Addr}(e:h.get? it=some { cls:=.type (Uu sk),data:=.fields #[.ref l,.int 0 0] }):Ps sk h it l 0:=by
 cases sk
 ·exact⟨_,e,rfl,rfl⟩
 ·exact⟨_,e,rfl,rfl⟩
def zh (h:Heap)(c1 c2:Bool)(l1 l2:Addr):Heap:=
 ((((h.push { cls:=.type (Uu c1),data:=.fields #[.ref l1,.int 0 0] }).push { cls:=.type (Uu c2),data:=.fields #[.ref l2,.int 0 0] }).push { cls:=.type "tuple",data:=.seq #[.ref h.objs.size,.ref (h.objs.size+1)] }).push
  { cls:=.type "tuple",data:=.seq #[.none,.none] }).push { cls:=.type "zip",data:=.fields #[.none,.bool false,.bool false,.ref (h.objs.size+2),.ref (h.objs.size+3)] }
theorem CK (c1 c2:Bool)(l1 l2:Addr)(xs ys:Array Value) :
  Meets (Builtin.«zip.__new__» ⟨[.type "zip",.ref l1,.ref l2],[]⟩) (λ_ R s=>Kb c1 s.heap l1 xs/\Kb c2 s.heap l2 ys/\R (.ok (.ret (.ref (s.heap.objs.size+4)))) { s with heap:=zh s.heap c1 c2 l1 l2 }):=
 .of_wp λprog w A R s h=>by
  obtain⟨hp,g,d,tk,os⟩:=s
  obtain⟨q1,q2,h⟩:=h
  have hsub:=PySem.sub_zip
  have q1':Kb c1 (Shared.heap ⟨hp,g,d,tk,os⟩) l1 xs:=q1
  have q2':Kb c2 (Shared.heap ⟨hp.push { cls:=.type (Uu c1),data:=.fields #[.ref l1,.int 0 0] },g,d,tk,os⟩) l2 ys:=Kb.push q2 _
  wp_walk using Mf c1 q1',Mf c2 q2'
  refine⟨_,rfl,?_⟩
  simp only [VC] at h ⊢
  unfold zh at h;exact h
end
end L2
namespace L2
open PySem PySem.Spec PyProof.Rows
theorem Uw {h:Heap}{o:Obj}{n:Nat}(e:h.objs.size=n)(f:o.isFreed=false):(h.push o).get? n=some o:=by rw [<-e];exact Wt _ f
theorem CL (h:Heap)(c1 c2:Bool)(l1 l2:Addr):IsZip (zh h c1 c2 l1 l2) (h.objs.size+4) (h.objs.size+2) (h.objs.size+3) .none/\IsPair (zh h c1 c2 l1 l2) (h.objs.size+2) (.ref h.objs.size) (.ref (h.objs.size+1))/\
  IsPair (zh h c1 c2 l1 l2) (h.objs.size+3) .none .none/\(zh h c1 c2 l1 l2).get? h.objs.size=some { cls:=.type (Uu c1),data:=.fields #[.ref l1,.int 0 0] }/\(zh h c1 c2 l1 l2).get? (h.objs.size+1)=some { cls:=.type (Uu c2),data:=.fields #[.ref l2,.int 0 0] }/\
  ∀b o,h.get? b=some o->(zh h c1 c2 l1 l2).get? b=some o:=by
 unfold zh;have up:∀{h:Heap} {o p:Obj} {b:Addr},h.get? b=some o->(h.push p).get? b=some o:=λe=>Wj _ e
 exact⟨Uw (by simp [VC]) rfl,up (up (Uw (by simp [VC]) rfl)),up (Uw (by simp [VC]) rfl),up (up (up (up (Uw rfl rfl)))),up (up (up (Uw (by simp [VC]) rfl))),λb o e=>up (up (up (up (up e))))⟩
section
variable {prog:Program} {w:World} {A:Around} {E:Value->Shared->Prop} {s:Shared}
theorem Pl {c1 c2:Bool}{l1 l2:Addr}{xs ys:Array Value}{Q:Value->Shared->Prop}(h1:Kb c1 s.heap l1 xs)(h2:Kb c2 s.heap l2 ys)
  (h:Q (.ref (s.heap.objs.size+4)) { s with heap:=zh s.heap c1 c2 l1 l2 }):wpAny (model prog w) A (call (.type "zip") [.ref l1,.ref l2]) Q E s:=by
 refine callType_new F.called_zip (by decide) (F.typeCall_zip_2 _ _) (F.newCall_zip_2 _ _) (λobj=>F.args_object_init_3 obj _ _) F.entry_zip_new (CK c1 c2 l1 l2 xs ys) ⟨h1,h2,?_⟩
 exact⟨⟨_,(CL s.heap c1 c2 l1 l2).1,rfl⟩,h⟩
end
def TrS (c:Bool)(H:Hp)(l:Addr)(xs:List V):Prop:=match c with|true=>H l=some (.lst xs)|false=>H l=some (.tup xs)
theorem TrS.one {c:Bool}{H:Hp}{l:Addr}{xs ys:List V}(h:TrS c H l xs)(h':TrS c H l ys):xs=ys:=by
 cases c
 ·have h1:H l=some (.tup xs):=h
  have h2:H l=some (.tup ys):=h'
  rw [h1] at h2;cases h2;rfl
 ·have h1:H l=some (.lst xs):=h
  have h2:H l=some (.lst ys):=h'
  rw [h1] at h2;cases h2;rfl
theorem TrS.ne {c:Bool}{H:Hp}{l b:Addr}{xs:List V}(h:TrS c H l xs)(hb:H b=none):l≠b:=by
 cases c
 ·exact Zw (show H l=some (.tup xs) from h) hb
 ·exact Zw (show H l=some (.lst xs) from h) hb
theorem TrS.so {X:Cx}{pins:List (Addr×Obj)}{σ:St}{H:Hp}{s:Shared}{c:Bool}{l:Addr}{xs:List V}(I:Inv X pins σ H s)(h:TrS c H l xs):∃its:List Value,Y2 xs its/\Kb c s.heap l its.toArray/\xs.length<=Wc:=by
 cases c
 ·exact I.tuple (.of h)
 ·obtain⟨its,r,pl,z⟩:=I.list (.of h)
  exact⟨its,r,pl.isList,z⟩
def Itz (c1:Bool)(l1:Addr)(c2:Bool)(l2:Addr):It:=
 ⟨λi H=>∃xs ys x y,TrS c1 H l1 xs/\TrS c2 H l2 ys/\xs[i]? = some x/\ys[i]? = some y,
 λi H v H'=>∃p x y,v = .ref p/\H p=none/\H'=upd H p (.tup [x,y])/\(∀xs,TrS c1 H l1 xs->xs[i]? = some x)/\(∀ys,TrS c2 H l2 ys->ys[i]? = some y),
 λi H=>∃xs ys,TrS c1 H l1 xs/\TrS c2 H l2 ys/\(i=xs.length\/(i<xs.length/\i=ys.length))⟩
structure ZD (z TI TO i1 i2:Addr):Prop where
 a1:TI≠z
 a2:TO≠z
 a3:i1≠z
 a4:i2≠z
 a5:TI≠TO
 a6:TI≠i1
 a7:TI≠i2
 a8:TO≠i1
 a9:TO≠i2
 b1:i1≠i2
theorem ZD.ap {z TI TO i1 i2 l1 l2:Addr}(d:ZD z TI TO i1 i2)(h1:∀b∈[z,TI,TO,i1,i2],l1≠b)(h2:∀b∈[z,TI,TO,i1,i2],l2≠b):ZAp z TI TO i1 i2 [i1,l1] [i2,l2]:=by
 simp only [Wx,WM,or_false,forall_eq_or_imp,forall_eq] at h1 h2
 obtain⟨p1,p2,p3,p4,p5⟩:=h1
 obtain⟨q1,q2,q3,q4,q5⟩:=h2
 have no:∀{a b c:Addr},a≠b->a≠c->a∉[b,c]:=λx y z=>by
  simp only [Wx,WM,or_false] at z
  rcases z with z|z
  ·exact x z
  ·exact y z
 exact⟨d.a1,d.a2,d.a3,d.a4,d.a5,d.a6,d.a7,d.a8,d.a9,d.b1,no d.a3.symm p1.symm,no d.a4.symm q1.symm,no d.a8 p3.symm,no d.a9 q3.symm,no d.b1 q4.symm,no d.b1.symm p5.symm⟩
theorem Fb {P:Program}{w:World}{H:Hp}{h:Heap}{p:Addr}{x y:V}{u v:Value}(e:IsPair h p u v)(rx:ZC x u)(ry:ZC y v):Zz P w H h p (.tup [x,y]):=
 ⟨by show 2<=Wc;decide,[u,v],.cons rx (.cons ry .nil),⟨⟨_,e,rfl,_,rfl⟩,_,e,rfl⟩⟩
theorem PJ {P:Program}{w:World}{K:W3}{elts:List Expr}{kt:Nat}{pt:Pos}{c1 c2:Bool}{l1 l2 z TI TO i1 i2:Addr}(d:ZD z TI TO i1 i2) :
  Turn P w K (.Tuple elts kt pt) (Itz c1 l1 c2 l2) [z,TI,TO,i1,i2] z (λi h=>IsZip h z TI TO .none/\IsPair h TI (.ref i1) (.ref i2)/\(∃a b,IsPair h TO a b)/\Ps c1 h i1 l1 i/\Ps c2 h i2 l2 i) where
 mem:=by simp
 obj:=λi h st b hb=>by
  obtain⟨hz,hTI,⟨a,b',hTO⟩,s1,s2⟩:=st
  have seq:∀{c:Bool} {it l:Addr} {k:Nat},Ps c h it l k->∃o,h.get? it=some o/\∀v,o.data≠.cell v:=λ{c it l k} q=>by
   cases c
   ·obtain⟨o,e,_,q⟩:=q
    exact⟨o,e,λv z=>by rw [q] at z;cases z⟩
   ·obtain⟨o,e,_,q⟩:=q
    exact⟨o,e,λv z=>by rw [q] at z;cases z⟩
  simp only [Wx,WM,or_false] at hb
  rcases hb with rfl|rfl|rfl|rfl|rfl
  ·exact⟨_,hz,λv q=>nomatch q⟩
  ·exact⟨_,hTI,λv q=>nomatch q⟩
  ·exact⟨_,hTO,λv q=>nomatch q⟩
  ·exact seq s1
  ·exact seq s2
 keep:=λi h h' st k=>by
  obtain⟨hz,hTI,⟨a,b',hTO⟩,s1,s2⟩:=st
  have seq:∀{c:Bool} {it l:Addr} {k:Nat},(∀o,h.get? it=some o->h'.get? it=some o)->Ps c h it l k->Ps c h' it l k:=λ{c it l k} kp q=>by
   cases c
   ·obtain⟨o,e,q⟩:=q
    exact⟨o,kp o e,q⟩
   ·obtain⟨o,e,q⟩:=q
    exact⟨o,kp o e,q⟩
  exact⟨k z (by simp) _ hz,k TI (by simp) _ hTI,⟨a,b',k TO (by simp) _ hTO⟩,seq (k i1 (by simp)) s1,seq (k i2 (by simp)) s2⟩
 item:=by
  intro X hP hw hK hc i pins s σ H E I hf st hg;subst hP hw hK;obtain⟨xs,ys,x,y,t1,t2,hx,hy⟩:=hg
  obtain⟨hz,hTI,⟨a,b',hTO⟩,s1,s2⟩:=st
  obtain⟨its1,r1,o1,_⟩:=t1.so I
  obtain⟨its2,r2,o2,_⟩:=t2.so I
  have n1:∀b∈[z,TI,TO,i1,i2],l1≠b:=λb hb=>t1.ne (hf b hb).1
  have n2:∀b∈[z,TI,TO,i1,i2],l2≠b:=λb hb=>t2.ne (hf b hb).1
  have hh:X.A.in1.handled=none:=I.ok.hd hc
  have D1:=Um (prog:=X.prog) (w:=X.w) c1 hh i1 l1 (n1 i1 (by simp)) its1.toArray
  have D2:=Um (prog:=X.prog) (w:=X.w) c2 hh i2 l2 (n2 i2 (by simp)) its2.toArray
  have lx:i<its1.toArray.size:=by rw [Wn,<-r1.length];exact (Wi.mp hx).1
  have ly:i<its2.toArray.size:=by rw [Wn,<-r2.length];exact (Wi.mp hy).1
  refine MO D1 D2 (d.ap n1 n2) hz hTI hTO ⟨s1,o1⟩ ⟨s2,o2⟩ lx ly λu v h' tk p1 p2 z' to' st1 st2 new size kept=>?_
  obtain⟨u',eu,ru⟩:=r1.get hx
  obtain⟨v',ev,rv⟩:=r2.get hy
  have hu:u=u':=by
   have:its1.toArray[i]? = some u:=p1
   rw [W02,eu] at this;exact (WS this).symm
  have hv:v=v':=by
   have:its2.toArray[i]? = some v:=p2
   rw [W02,ev] at this;exact (WS this).symm
  subst hu hv;refine⟨_,rfl,wpAny_letOwnedTupleGo_zip (s:={ s with heap:=h',toks:=tk }) z' λh'' z'' sb=>?_⟩
  have kp:∀b o,b∉[z,TI,TO,i1,i2]->s.heap.get? b=some o->h''.get? b=some o:=λb o hb e=>by
   simp only [Wx,WM,or_false,not_or] at hb
   exact sb.extBut b o hb.1 (kept b o (by simp only [Wx,WM,or_false,not_or];exact⟨hb.1,hb.2.2.1,hb.2.2.2.1,hb.2.2.2.2⟩) e)
  have hn:H s.heap.objs.size=none:=I.hok.fresh (Wq _)
  have zlt:z<s.heap.objs.size:=Ww hz
  have lt:∀b∈[z,TI,TO,i1,i2],b<s.heap.objs.size:=λb hb=>by
   have seq:∀{c:Bool} {it l:Addr} {k:Nat},Ps c s.heap it l k->it<s.heap.objs.size:=λ{c it l k} q=>by
    cases c
    ·obtain⟨o,e,_⟩:=q;exact Ww e
    ·obtain⟨o,e,_⟩:=q;exact Ww e
   simp only [Wx,WM,or_false] at hb
   rcases hb with rfl|rfl|rfl|rfl|rfl
   ·exact zlt
   ·exact Ww hTI
   ·exact Ww hTO
   ·exact seq s1
   ·exact seq s2
  have new':IsPair h'' s.heap.objs.size u v:=sb.extBut _ _ (W0l zlt) new
  have keepTI:IsPair h'' TI (.ref i1) (.ref i2):=sb.extBut _ _ d.a1 (kept TI _ (by simp only [Wx,WM,or_false,not_or];exact⟨d.a1,d.a5,d.a6,d.a7⟩) hTI)
  have seq:∀{c:Bool} {it l:Addr} {k:Nat},it≠z->Ps c h' it l k->Ps c h'' it l k:=λ{c it l k} ne q=>by
   cases c
   ·obtain⟨o,e,q⟩:=q
    exact⟨o,sb.extBut _ _ ne e,q⟩
   ·obtain⟨o,e,q⟩:=q
    exact⟨o,sb.extBut _ _ ne e,q⟩
  refine⟨.ref s.heap.objs.size,upd H s.heap.objs.size (.tup [x,y]),?_,rfl,⟨_,x,y,rfl,hn,rfl,λws h=>?_,λws h=>?_⟩,⟨z'',keepTI,⟨_,_,sb.extBut _ _ d.a2 to'⟩,seq d.a3 st1.1,seq d.a4 st2.1⟩,λb hb=>?_⟩
  ·have I1:Inv X pins σ (upd H s.heap.objs.size (.tup [x,y])) { s with heap:=s.heap.push { cls:=.type "tuple",data:=.seq #[u,v] } }:=
    I.laid (t':=s.toks) (λb o e=>Wj _ e) (Wq _) (Fb (Wt _ rfl) ru rv)
   have fin:(∀b∈[z,TI,TO,i1,i2],Kc X pins (upd H s.heap.objs.size (.tup [x,y])) b)->(∀b o,b∉[z,TI,TO,i1,i2]->(s.heap.push { cls:=.type "tuple",data:=.seq #[u,v] }).get? b=some o->h''.get? b=some o)->
     Inv X pins σ (upd H s.heap.objs.size (.tup [x,y])) { s with heap:=h'',toks:=tk }:=λa1 a2=>Inv.turnedL (s:={ s with heap:=s.heap.push { cls:=.type "tuple",data:=.seq #[u,v] } }) (h':=h'') (t':=tk) (ch:=[z,TI,TO,i1,i2]) I1 a1 a2
   refine fin (λb hb=>?_) λb o hb e=>?_
   ·obtain⟨f0,f⟩:=hf b hb
    exact⟨by rw [Ze (WT (lt b hb))];exact f0,f⟩
   ·by_cases q:b=s.heap.objs.size
    ·subst q
     rw [Wt _ rfl] at e;cases e;exact new'
    ·rw [Heap.get?_push_ne _ _ _ q] at e
     exact kp b o hb e
  ·rw [h.one t1];exact hx
  ·rw [h.one t2];exact hy
  ·rw [Ze (WT (lt b hb))];exact (hf b hb).1
 done:=by
  intro X hP hw hK hc i pins s σ H E I hf st hg;subst hP hw hK;obtain⟨xs,ys,t1,t2,hend⟩:=hg
  obtain⟨hz,hTI,⟨a,b',hTO⟩,s1,s2⟩:=st
  obtain⟨its1,r1,o1,_⟩:=t1.so I
  obtain⟨its2,r2,o2,_⟩:=t2.so I
  have n1:∀b∈[z,TI,TO,i1,i2],l1≠b:=λb hb=>t1.ne (hf b hb).1
  have n2:∀b∈[z,TI,TO,i1,i2],l2≠b:=λb hb=>t2.ne (hf b hb).1
  have hh:X.A.in1.handled=none:=I.ok.hd hc
  have D1:=Um (prog:=X.prog) (w:=X.w) c1 hh i1 l1 (n1 i1 (by simp)) its1.toArray
  have D2:=Um (prog:=X.prog) (w:=X.w) c2 hh i2 l2 (n2 i2 (by simp)) its2.toArray
  refine Rc D1 D2 (d.ap n1 n2) hz hTI hTO ⟨s1,o1⟩ ⟨s2,o2⟩ (by rw [Wn,Wn,<-r1.length,<-r2.length];exact hend) λh' tk kept=>⟨rfl,I.turnedL hf λb o hb e=>?_⟩
  simp only [Wx,WM,or_false,not_or] at hb
  exact kept b o (by simp only [Wx,WM,or_false,not_or];exact⟨hb.1,hb.2.2.1,hb.2.2.2.1,hb.2.2.2.2⟩) e
 self:=λ_ _ _ _ _ st h=>wpAny_pyIter_zip st.1 h
section
variable {X:Cx} {e1 e2:Expr} {te1 te2:TE} {p pos:Pos}
def Z0v (ta:TA):TI:=λσ H R=>ta σ H λvs H1=>∃c1 l1 xs c2 l2 ys,vs=[.ref l1,.ref l2]/\TrS c1 H1 l1 xs/\TrS c2 H1 l2 ys/\R (Itz c1 l1 c2 l2) H1
theorem Hx {elts:List Expr}{kt:Nat}{pt:Pos}{ta:TA}(hg:Gl X "zip")(hm:X.mg "zip" = none)(hv:WG "zip" = some (.type "zip"))(ha:PA X [e1,e2] ta)
  (he:Ws [e1,e2] X.env=(false,eval e1 X.env) :: Ws [e2] X.env:=by rfl) (hpl:(backTo pos (Ws [e2] X.env)).any (·.1)=false:=by rfl) :
  PI X (.Tuple elts kt pt) (.Call (.Name "zip" p) [e1,e2] [] pos) (Z0v ta):=by
 intro pins s σ H R I h;refine Vx (UG I hg hm hv ?_ (by decide) (by decide))
 refine VH (thn (ha pos pins s σ H _ I h) λus s1 ⟨vs,H1,I1,r1,c1,l1,xs,c2,l2,ys,ev,t1,t2,q⟩=>?_) he hpl
 subst ev;obtain⟨u1,u2,rfl,ru1,ru2⟩:=MC r1
 cases ru1;cases ru2;obtain⟨its1,_,o1,_⟩:=t1.so I1
 obtain⟨its2,_,o2,_⟩:=t2.so I1
 refine Pl o1 o2 ?_
 obtain⟨z1,z2,z3,z4,z5,z6⟩:=CL s1.heap c1 c2 l1 l2
 refine wpAny_pyIter_zip (s:={ s1 with heap:=zh s1.heap c1 c2 l1 l2 }) z1 ?_
 have ne:∀{a b:Nat},a≠b->s1.heap.objs.size+a≠s1.heap.objs.size+b:=λh q=>h (Nat.add_left_cancel q)
 refine⟨_,_,_,_,H1,rfl,I1.kept (t':=s1.toks) z6,PJ (c1:=c1) (l1:=l1) (c2:=c2) (l2:=l2) ⟨ne (by decide),ne (by decide),ne (a:=0) (by decide),ne (by decide),ne (by decide),ne (b:=0) (by decide),ne (by decide),ne (b:=0) (by decide),ne (by decide),ne (a:=0) (by decide)⟩,⟨z1,z2,⟨_,_,z3⟩,.new z4,.new z5⟩,λb hb=>?_,q⟩
 have hb':s1.heap.objs.size<=b:=by
  simp only [Wx,WM,or_false] at hb
  rcases hb with rfl|rfl|rfl|rfl|rfl<;>omega
 exact I1.fpOk hb' (I1.hok.fresh hb')
end
end L2
namespace L2
open PySem PySem.Spec PyProof.Rows
theorem Ab {k:Key}{u:Value}(h:Nm k u=true):ZC (kV k) u:=by
 rcases ZU h with ⟨i,t,rfl,rfl⟩|⟨x,t,rfl,rfl⟩
 ·exact⟨t,rfl⟩
 ·exact⟨t,rfl⟩
def Itk (a:Addr)(o:Obj):It:=
 ⟨λi H=>∃(kvs:List (Key×V)) (k:Key) (v:V),H a=some (.frz o (.dK kvs))/\kvs[i]? = some (k,v),
 λi H x H'=>H'=H/\∀kvs:List (Key×V),H a=some (.frz o (.dK kvs))->∃k v,kvs[i]? = some (k,v)/\x=kV k,
 λi H=>∃kvs:List (Key×V),H a=some (.frz o (.dK kvs))/\i=kvs.length⟩
theorem P7 {X:Cx}{pins:List (Addr×Obj)}{σ:St}{H:Hp}{s:Shared}{a:Addr}{o:Obj}{kvs:List (Key×V)}(I:Inv X pins σ H s)(e:H a=some (.frz o (.dK kvs))){es:Array DictEntry}{ep:Nat}(hd:o.data = .dict es ep) :
  ∃vs:List (Key×Value),KV kvs vs/\s.heap.DictAt (ZT X.prog X.w) a vs ep/\es.size=vs.length:=by
 obtain⟨h1,_,_,vs,r,o',es',ep',h2,h3,h4,h5,h6,h7⟩:=(show Zz X.prog X.w H s.heap a (.frz o (.dK kvs)) from I.hok a _ e)
 rw [h1] at h2;cases h2;rw [hd] at h4;cases h4;exact⟨vs,r,⟨o,es,h1,h3,hd,h5,h6,h7⟩,by rw [<-h6.length];simp⟩
theorem KV.get {κ:Type}{kvs:List (κ×V)}{vs:List (κ×Value)}(r:KV kvs vs):∀{i:Nat} {k:κ} {v:V},kvs[i]? = some (k,v)->∃u,vs[i]? = some (k,u)/\ZC v u:=by
 unfold KV at r
 induction r with
 |nil=>intro i k v e;simp at e
 | @cons p q ps qs h t ih=>
  intro i k v e;cases i with
  |zero=>
   simp at e
   subst e;have h1:k=q.1:=h.1
   exact⟨q.2,by rw [h1];rfl,h.2⟩
  |succ i=>simpa using ih (by simpa using e)
theorem Ko {P:Program}{w:World}{K:W3}{tg:Expr}{a it:Addr}{o:Obj}{es:Array DictEntry}{ep:Nat}(hd:o.data = .dict es ep):Turn P w K tg (Itk a o) [it] it (λi h=>h.IsKeyIter it a i es.size ep) where
 mem:=by simp
 obj:=λi h st b hb=>by
  have e:b=it:=by simpa using hb
  subst e;obtain⟨q,e,_,d⟩:=st
  exact⟨q,e,λv z=>by rw [d] at z;cases z⟩
 keep:=λi h h' st k=>st.at λq e=>k it (by simp) q e
 item:=by
  intro X hP hw hK hc i pins s σ H E I hf st hg;subst hP hw hK;obtain⟨kvs,k,v,e,hx⟩:=hg
  obtain⟨vs,r,hm,hz⟩:=P7 I e hd
  obtain⟨u,hu,_⟩:=r.get hx
  obtain⟨f0,f1,f2,f3,f4,f5⟩:=hf it (by simp)
  rw [hz] at st;refine wpAny_pyNext_dict_item st hm hu λkey h' hk st' sb=>?_
  have I1:Inv X pins σ H { s with heap:=h' }:=I.turned (t':=s.toks) (λb q hb e=>(sb.2 b hb).trans e) f0 f1 f3 f4 f5
  obtain⟨q,eq,c,d⟩:=id st'
  refine⟨key,rfl,RZ (s:={ s with heap:=h' }) eq c d (by decide) ⟨kV k,H,I1,Ab hk,⟨rfl,λkvs' e'=>?_⟩,by rw [hz];exact st',λb hb=>(hf b hb).1⟩⟩
  rw [e] at e'
  cases e'
  exact⟨k,v,hx,rfl⟩
 done:=by
  intro X hP hw hK hc i pins s σ H E I hf st hg;subst hP hw hK;obtain⟨kvs,e,hx⟩:=hg
  obtain⟨vs,r,hm,hz⟩:=P7 I e hd
  obtain⟨f0,f1,f2,f3,f4,f5⟩:=hf it (by simp)
  rw [hz] at st;exact wpAny_pyNext_dict_end (I.ok.hd hc) st hm (by rw [hx,r.length];simp) λh' eb=>⟨rfl,I.turned (t':=s.toks) (λb q hb e=>eb b q hb e) f0 f1 f3 f4 f5⟩
 self:=λ_ _ _ _ _ st h=>W0Q st h
section
variable {X:Cx} {pins:List (Addr×Obj)} {σ:St} {H:Hp} {s:Shared} {a:Addr} {kvs:List (Key×V)} {tg:Expr} {E:Value->Shared->Prop} {R:It->Hp->Prop}
theorem Inv.freeze (I:Inv X pins σ H s)(e:H a=some (.dK kvs)):∃(o:Obj) (es:Array DictEntry) (ep:Nat),o.data = .dict es ep/\Inv X pins σ (upd H a (.frz o (.dK kvs))) s:=by
 obtain⟨z,hS,vs,r,o,es,ep,h1,h2,h3,h4⟩:=(show Zz X.prog X.w H s.heap a (.dK kvs) from I.hok a _ e)
 refine⟨o,es,ep,h3,I.view (by rw [e];exact True.intro) ⟨o,h1⟩ ⟨h1,z,hS,vs,r,o,es,ep,h1,h2,h3,h4⟩⟩
theorem KU {o:Obj}(I:Inv X pins σ H s)(e:H a=some (.frz o (.dK kvs)))(q:R (Itk a o) H):wpAny (model X.prog X.w) X.A (pyIter (.ref a)) (PIE X pins σ tg R) E s:=by
 obtain⟨h1,_,hS,_,_,o',es,ep,h2,_,hd,_⟩:=(show Zz X.prog X.w H s.heap a (.frz o (.dK kvs)) from I.hok a _ e)
 rw [h1] at h2;cases h2;obtain⟨vs,r,hm,hz⟩:=P7 I e hd
 refine wpAny_pyIter_dict hS hm ?_
 refine⟨s.heap.objs.size,[s.heap.objs.size],_,_,H,rfl,I.kept (t':=s.toks) λb o e=>Wj _ e,Ko (a:=a) hd,⟨_,Wt _ rfl,rfl,by rw [hz];rfl⟩,λb hb=>?_,q⟩
 have eb:b=s.heap.objs.size:=by simpa using hb
 subst eb;exact I.fpOk (Wq _) (I.hok.fresh (Wq _))
theorem Inv.notFrz (I:Inv X pins σ H s)(e:H a=some (.dK kvs)):∀o u,X.H₀ a≠some (.frz o u):=λo u z=>by
 have:=I.base.frzs a o u z
 rw [e] at this;cases this
theorem NX (I:Inv X pins σ H s)(e:H a=some (.dK kvs))(q:∀o,(∀o u,X.H₀ a≠some (.frz o u))->R (Itk a o) (upd H a (.frz o (.dK kvs)))):wpAny (model X.prog X.w) X.A (pyIter (.ref a)) (PIE X pins σ tg R) E s:=by
 obtain⟨o,es,ep,hd,I'⟩:=I.freeze e
 exact KU I' Z6 (q o (I.notFrz e))
end
end L2
namespace L2
open PySem PySem.Spec PyProof.Rows
theorem Uy:typeLookup (.type "tuple") "keys" = pure none:=by rw [typeLookup_type,builtinLookup_eq_fast];kernel_rfl
section
variable {prog:Program} {w:World} {A:Around} {E:Value->Shared->Prop} {s:Shared}
set_option maxRecDepth 8000 in
theorem G9 {a:Addr}{o:Obj}{xs:Array Value}{k:Nat}{Q:Option Value->Shared->Prop}(hx:s.heap.get? a=some o)(hc:o.cls = .type "tuple")(hdat:o.data = .seq xs k)(hd:o.dict=none)(hA:A.handled=none)
  (h:∀h' tk,(∀b o,s.heap.get? b=some o->h'.get? b=some o)->Q none { s with heap:=h',toks:=tk }):wpAny (model prog w) A (getAttr? (.ref a) "keys") Q E s:=by
 obtain⟨c,dct,dat,sl⟩:=o
 simp only at hc hdat hd
 subst hc hdat hd;obtain⟨hp,g,d,tk,os⟩:=s
 have hT:∀tk',(⟨hp,g,d,tk',os⟩:Shared).TypeIs (.ref a) "tuple":=λ_=>⟨_,hx,rfl⟩
 have f1:=sub_AttributeError
 have f3:=W0c.lookup
 have f4:=W0c.bind (.ref a)
 have f5:=am_tuple_getattr_none
 unfold getAttr? getAttrBy? getAttrBy
 repeat (any_goals (first|assumption|exact hT _|((with_reducible show wpAny _ _ (call (Value.builtin "tuple.__getattribute__") _ _) _ _ _);refine call_meets W0c (hT _) am_entry_tuple_getattribute (F.args_tuple_getattribute_2 _ _) (meets_getattribute_miss_tuple a xs k sl "keys" _ Uy (by decide +kernel) (by size_fits)) ⟨hx,hA,λh' tk' e hx'=>?_⟩)|wp_step))
 obtain⟨t',u',he⟩:=hx'.there
 show wpAny _ _ (getattributeRaised _ _ _ _ _ _ _) _ _ _
 unfold getattributeRaised;have hT2:(⟨h',g,d,tk',os⟩:Shared).TypeIs (.ref e) "AttributeError":=⟨_,he,rfl⟩
 repeat (any_goals (first|assumption|wp_step))
 exact h _ _ hx'.of.keeps
end
namespace DP
theorem entry_loop:entryFor table "dict.update.loop" = some Builtin.«dict.update.loop»:=entryFor_of_tree (by kernel_rfl)
theorem plain_loop:plainId "dict.update.loop" = true:=by decide +kernel
end DP
section
variable {X:Cx} {pins:List (Addr×Obj)} {σ:St} {A:Around}
theorem ML {H:Hp}{s:Shared}{p:Addr}{x y:V}{E:Value->Shared->Prop}{Q:List Value->Shared->Prop}(I:Inv X pins σ H s)(hp:H p=some (.tup [x,y]))(h:∀u v,ZC x u->ZC y v->Q [u,v] s) :
  wpAny (model X.prog X.w) A (Builtin.Dict.pairItems (.ref p)) Q E s:=by
 obtain⟨its,rv,ht,_⟩:=I.tuple (.of hp)
 obtain⟨o,ho,hc,n,hd⟩:=(show s.heap.IsTuple p its.toArray from ht)
 obtain⟨u,v,rfl,ru,rv'⟩:=MC rv
 unfold Builtin.Dict.pairItems;refine W2 (W19 (T:="tuple") ⟨o,ho,hc⟩ ?_)
 rw [if_pos (by decide)]
 exact W2 (VD ho hd (Wk (h u v ru rv')))
theorem GZ:∀(ps kvs:List (Key×V)),(Qf kvs ps).length<=kvs.length+ps.length
 |[],kvs=>by unfold Qf;simp
 |p :: ps,kvs=>by
  have h1:=GZ ps (T6 kvs p.1 p.2)
  have h2:=QD kvs p.1 p.2
  show (Qf (T6 kvs p.1 p.2) ps).length<=_
  rw [WR];omega
theorem N4 (ps kvs:List (Key×V))(p:Key×V):Qf kvs (ps++[p])=T6 (Qf kvs ps) p.1 p.2:=by unfold Qf;rw [List.foldl_append];rfl
theorem Ku {α:Type}{l:List α}{i:Nat}(h:i<l.length):l.take i++[l[i]]=l.take (i+1):=by simp
theorem Pe {d it l:Addr}{xs:List V}{ps:List (Key×V)}(hh:A.handled=none)(hlen:xs.length=ps.length)(hsz:ps.length<=Wc){R:Result->Shared->Prop} :
  ∀(m i:Nat) (s:Shared) (H:Hp),ps.length-i=m->i<=ps.length->Inv X pins σ H s->H d=some (.dK (Qf [] (ps.take i)))->H l=some (.tup xs)->
   (∀(j:Nat) k v,ps[j]? = some (k,v)->∃p,xs[j]? = some (.ref p)/\H p=some (.tup [kV k,v]))->Kc X pins H it->s.heap.IsTupleIter it l i->
   (∀s',Inv X pins σ (upd H d (.dK (Qf [] ps))) s'->R (.ok (.ret .none)) s')->
   codeAny (model X.prog X.w) A (.builtin "dict.update.loop" ⟨[.ref d,.ref it,rawInt i,.none],[]⟩) R s:=by
 intro m
 induction m with
 |zero=>
  intro i s H hm hi I hd hl hps hf st k;have e:i=ps.length:=by omega
  subst e;obtain⟨its,rv,p,_⟩:=I.tuple (.of hl)
  obtain⟨f0,f1,f2,f3,f4,f5⟩:=id hf
  refine codeAny_builtin DP.entry_loop ?_
  rw [W0O DP.plain_loop _];show wpAny _ A.in1 (pyNext (.ref it) >>= _) _ _ s
  refine W2 (wpAny_pyNext_tuple_end (by simpa using hh) st (show s.heap.IsTuple l its.toArray from p) (by have:=rv.length;simp;omega) λh' eb=>?_)
  have I1:Inv X pins σ H { s with heap:=h' }:=I.turned (t':=s.toks) (λb o hb e=>eb b o hb e) f0 f1 f3 f4 f5
  show wpAny _ A.in1 (Builtin.Dict.addKeywords d [] >>= _) _ _ _
  refine W2 (Wk (Wk (k _ ?_)))
  rw [List.take_length] at hd;have eu:upd H d (.dK (Qf [] ps))=H:=by
   funext b
   unfold upd;by_cases hb:b=d
   ·rw [if_pos hb,hb,hd]
   ·rw [if_neg hb]
  rw [eu];exact I1
 |succ m ih=>
  intro i s H hm hi I hd hl hps hf st k;have hlt:i<ps.length:=by omega
  obtain⟨its,rv,p,_⟩:=I.tuple (.of hl)
  obtain⟨f0,f1,f2,f3,f4,f5⟩:=id hf
  have hpi:ps[i]? = some (ps[i].1,ps[i].2):=Wm hlt
  obtain⟨q,hq,hH⟩:=hps i _ _ hpi
  obtain⟨u,hu,ru⟩:=rv.get hq
  cases ru;refine codeAny_builtin DP.entry_loop ?_
  rw [W0O DP.plain_loop _];show wpAny _ A.in1 (pyNext (.ref it) >>= _) _ _ s
  refine W2 (wpAny_pyNext_tuple_item st (show s.heap.IsTuple l its.toArray from p) (x:=.ref q) (by simpa using hu) λh' st' sb=>?_)
  have I1:Inv X pins σ H { s with heap:=h' }:=I.turned (t':=s.toks) (λb o hb e=>(sb.2 b hb).trans e) f0 f1 f3 f4 f5
  dsimp only;refine W2 (Vs (W2 (wpAny_tryCatch (ML I1 hH λa b ra rb=>?_))))
  dsimp only;refine Vs ?_
  obtain⟨z,hdS,vs,rel,dd⟩:=IZ I1.hok hd
  have hz:vs.length<=Wc:=by rw [<-rel.length];exact z
  have hl1:(T6 (Qf [] (ps.take i)) ps[i].1 ps[i].2).length<=Wc:=by
   have h1:=QD (Qf [] (ps.take i)) ps[i].1 ps[i].2
   have h2:=GZ (ps.take i) []
   rw [Vy] at h2;simp only [List.length_nil] at h2
   omega
  refine wpAny_dictSet_pairs (hsz:=hz) (Bk ra) dd λh2 dd' hs=>?_
  have he:∃q,h2.get? d=some q:=let ⟨q,_,_,hq,_⟩:=dd';⟨q,hq⟩
  have I2:Inv X pins σ (upd H d (.dK (T6 (Qf [] (ps.take i)) ps[i].1 ps[i].2))) { s with heap:=h2,toks:=s.toks+1 }:=JV (s:={ s with heap:=h' }) (h':=h2) (t':=s.toks+1) I1 (by rw [hd];exact True.intro) hs he (AF hl1 hdS (rel.put ps[i].1 rb) dd')
  have hit:it≠d:=λz=>by rw [z] at f0;rw [f0] at hd;cases hd
  have nd:∀(c:Addr) ys,H c=some (.tup ys)->c≠d:=λc ys e z=>by rw [z,hd] at e;cases e
  refine Wk ⟨plainId_quiet DP.plain_loop _,ih (i+1) _ _ (by omega) hlt I2 ?_ (by rw [Ze (nd l xs hl)];exact hl) (λj k v e=>?_) ⟨by rw [Ze hit];exact f0,f1,f2,f3,f4,f5⟩ ?_ λs' I'=>k s' ?_⟩
  ·rw [Z6,<-N4,Ku hlt]
  ·obtain⟨c,c1,c2⟩:=hps j k v e
   exact⟨c,c1,by rw [Ze (nd c _ c2)];exact c2⟩
  ·exact st'.at λo e=>(hs.2 it hit).trans e
  ·rw [Qp] at I'
   exact I'
theorem UT (hcalm:X.calm=true):QU X (.type "dict") (λvs H Q=>∃l xs ps,vs=[.ref l]/\H l=some (.tup xs)/\xs.length=ps.length/\ps.length<=Wc/\
  (∀(j:Nat) k v,ps[j]? = some (k,v)->∃p,xs[j]? = some (.ref p)/\H p=some (.tup [kV k,v]))/\∀d,H d=none->Q (.ref d) (upd H d (.dK (Qf [] ps)))):=by
 intro pins s σ H vs us Q I r h;obtain⟨l,xs,ps,rfl,hl,hlen,hsz,hps,q⟩:=h
 obtain⟨u,rfl,ru⟩:=TD r
 cases ru;have hh:X.A.handled=none:=I.ok.hd hcalm
 refine callType_codes (Q₁:=λobj s₁=>obj = .ref s.heap.objs.size/\s₁={ s with heap:=s.heap.push { cls:=.type "dict",data:=.dict #[] } }) PySem.F.kt_called_dict (PySem.F.kt_typeCall_dict_1 _) PySem.F.entry_dict_init (kt_code_dict_new _ ⟨rfl,rfl⟩) ?_
 rintro obj s₁ ⟨rfl,rfl⟩
 have hnew:(s.heap.push { cls:=.type "dict",data:=.dict #[] }).DictOf (ZT X.prog X.w) s.heap.objs.size []:=Heap.DictOf.new s.heap
 have hfr:H s.heap.objs.size=none:=I.hok.fresh (Wq _)
 have I1:Inv X pins σ (upd H s.heap.objs.size (.dK [])) { s with heap:=s.heap.push { cls:=.type "dict",data:=.dict #[] } }:=I.laid (a:=s.heap.objs.size) (o:=.dK []) (t':=s.toks) (λ_ _ q=>Wj _ q) (Wq _) (Ms s.heap I.big)
 have hnl:∀(c:Addr) o,H c=some o->c≠s.heap.objs.size:=λc o e z=>by rw [z,hfr] at e;cases e
 have hl1:upd H s.heap.objs.size (.dK []) l=some (.tup xs):=by rw [Ze (hnl l _ hl)];exact hl
 obtain⟨its,rv,ht,_⟩:=I1.tuple (.of hl1)
 obtain⟨o,ho,hc,n,hd⟩:=(show (s.heap.push { cls:=.type "dict",data:=.dict #[] }).IsTuple l its.toArray from ht)
 have hdn:o.dict=none:=by
  obtain⟨_,_,_,_,o',ho',hd'⟩:=(show Zz X.prog X.w _ (s.heap.push { cls:=.type "dict",data:=.dict #[] }) l (.tup xs) from I1.hok l _ hl1)
  rw [ho] at ho'
  cases ho'
  exact hd'
 refine⟨hnew.typeIs,PySem.F.args_dict_init_2 _ _,?_⟩
 unfold Builtin.«dict.__init__»
 refine W2 ?_
 unfold Builtin.Dict.selfAndRest;refine W2 (wpAny_notOrdered_dict hnew.typeIs ?_)
 show wpAny _ _ (pure (s.heap.objs.size,[Value.ref l])) _ _ _
 refine Wk ?_
 show wpAny _ _ (Builtin.Dict.updateFrom "dict.__init__" s.heap.objs.size (.ref l) [] .none) _ _ _
 unfold Builtin.Dict.updateFrom;refine W2 (W19 (T:="tuple") ⟨o,ho,hc⟩ ?_)
 rw [if_pos (by decide)]
 refine W2 (G9 ho hc hd hdn (by simpa using hh) λh2 tk hk=>?_)
 simp only [Option.isNone_none,if_true]
 have I2:Inv X pins σ (upd H s.heap.objs.size (.dK [])) { s with heap:=h2,toks:=tk }:=I1.kept (t':=tk) hk
 obtain⟨its2,rv2,ht2,_⟩:=I2.tuple (.of hl1)
 refine W2 (W1p (W2 (W0u (show h2.IsTuple l its2.toArray from ht2) ?_)))
 refine Wk ⟨plainId_quiet DP.plain_loop _,?_⟩
 have I3:Inv X pins σ (upd H s.heap.objs.size (.dK [])) { s with heap:=h2.push { cls:=.type "tuple_iterator",data:=.fields #[.ref l,.int 0 0] },toks:=tk }:=I2.kept (t':=tk) λb o e=>Wj _ e
 refine Pe (l:=l) (it:=h2.objs.size) (by simpa using hh) hlen hsz ps.length 0 _ _ (by omega) (Vq _) I3 Z6 hl1 (λj k v e=>?_) (I2.fpOk (Wq _) (I2.hok.fresh (Wq _))) ⟨_,Wt _ rfl,rfl,rfl⟩ λs' I'=>⟨rfl,?_⟩
 ·obtain⟨c,c1,c2⟩:=hps j k v e
  exact⟨c,c1,by rw [Ze (hnl c _ c2)];exact c2⟩
 ·rw [Qp] at I'
  exact⟨.ref s.heap.objs.size,_,I',rfl,q _ hfr⟩
end
end L2
namespace KS
open PySem PySem.W PyProof.Rows
def ev {α:Type}(lt:Nat->Nat->Bool):KasT α->α
 | .ret a=>a
 | .ask i j k=>ev lt (k (lt i j))
theorem JS {α β:Type}(lt:Nat->Nat->Bool)(f:α->KasT β):∀t:KasT α,ev lt (t.bind f)=ev lt (f (ev lt t))
 | .ret _=>rfl
 | .ask i j k=>JS lt f (k (lt i j))
def Rg {α:Type}(n:Nat):KasT α->Prop
 | .ret _=>True
 | .ask i j k=>i<n/\j<n/\∀b,Rg n (k b)
theorem TV {α β:Type}{n:Nat}{f:α->KasT β}:∀{t:KasT α},Rg n t->(∀a,Rg n (f a))->Rg n (t.bind f)
 | .ret a,_,h=>h a
 | .ask i j k,⟨h1,h2,h3⟩,h=>⟨h1,h2,λb=>TV (h3 b) h⟩
def Out {α:Type}(P:α->Prop):KasT α->Prop
 | .ret a=>P a
 | .ask _ _ k=>∀b,Out P (k b)
theorem TU {α β:Type}{n:Nat}{P:α->Prop}{f:α->KasT β}:∀{t:KasT α},Rg n t->Out P t->(∀a,P a->Rg n (f a))->Rg n (t.bind f)
 | .ret a,_,o,h=>h a o
 | .ask i j k,⟨h1,h2,h3⟩,o,h=>⟨h1,h2,λb=>TU (h3 b) (o b) h⟩
theorem Uk {α β:Type}{P:α->Prop}{P':β->Prop}{f:α->KasT β}:∀{t:KasT α},Out P t->(∀a,P a->Out P' (f a))->Out P' (t.bind f)
 | .ret a,o,h=>h a o
 | .ask i j k,o,h=>λb=>Uk (o b) h
def Al (n:Nat)(p:Array Nat):Prop:=∀x∈p,x<n
theorem Al.get {n:Nat}{p:Array Nat}(h:Al n p)(hn:0<n)(k:Nat):p.getD k 0<n:=by
 by_cases hk:k<p.size
 ·have e:p.getD k 0=p[k]:=by simp [Array.getD,hk]
  rw [e];exact h _ (Array.getElem_mem hk)
 ·have e:p.getD k 0=0:=by simp [Array.getD,hk]
  rw [e];exact hn
theorem Al.perm {n:Nat}{p q:Array Nat}(h:Al n p)(hp:q.Perm p):Al n q:=λx hx=>h x (hp.mem_iff.mp hx)
theorem Al.rev {n:Nat}{p:Array Nat}(h:Al n p)(i j:Nat):Al n (W0j p i j):=h.perm (mirror_perm _ _ _ _)
theorem Al.bub {n:Nat}{p:Array Nat}(h:Al n p)(i j:Nat):Al n (bubble p i j):=h.perm (bubble_perm _ _ _)
section
variable {n:Nat} (hn:0<n)
include hn
theorem KJ {p:Array Nat}(h:Al n p):∀f k,Rg n (W0D p f k)
 |0,_=>trivial
 |f+1,k=>⟨h.get hn _,h.get hn _,λb=>by
  cases b
  ·exact KJ h f (k+1)
  ·exact trivial⟩
theorem TR:∀f {p:Array Nat} (_:Al n p) k q,Rg n (W0h f p k q)
 |0,_,_,_,_=>trivial
 |f+1,p,h,k,q=>⟨h.get hn _,h.get hn _,λb=>by
  cases b
  ·refine⟨h.get hn _,h.get hn _,λb=>?_⟩
   cases b
   ·exact TR f h (k+1) (q+1)
   ·exact trivial
  ·show Rg n (if q>0 then W0h f (W0j p (k-(q+1)) k) (k+1) 0 else W0h f p (k+1) 0)
   split
   ·exact TR f (h.rev _ _) _ _
   ·exact TR f h _ _⟩
theorem JB:∀f {p:Array Nat} (_:Al n p) k q,Out (λr=>Al n r.1) (W0h f p k q)
 |0,_,h,_,_=>h
 |f+1,p,h,k,q=>λb=>by
  cases b
  ·intro b
   cases b
   ·exact JB f h (k+1) (q+1)
   ·exact h
  ·show Out _ (if q>0 then W0h f (W0j p (k-(q+1)) k) (k+1) 0 else W0h f p (k+1) 0)
   split
   ·exact JB f (h.rev _ _) _ _
   ·exact JB f h _ _
theorem NT {p:Array Nat}(h:Al n p)(a b:Nat):Rg n (kas_tail3 a b p):=TV (KJ hn (h.rev _ _) _ _) λ_=>trivial
theorem N1 {α:Type}{P:α->Prop}(h:∀a,P a):∀t:KasT α,Out P t
 | .ret a=>h a
 | .ask i j k=>λb=>N1 h (k b)
theorem GV {p:Array Nat}(h:Al n p)(a b:Nat):Out (λr=>Al n r.2) (kas_tail3 a b p):=Uk (P:=λ_=>True) (N1 hn (λ_=>trivial) _) λ_ _=>h.rev _ _
theorem Uv {p:Array Nat}(h:Al n p)(a b:Nat):Rg n (W1a a b p):=TU (TR hn _ h _ _) (JB hn _ h _ _) λr hr=>by
 split
 ·exact NT hn (hr.rev _ _) _ _
 ·exact NT hn hr _ _
theorem U4 {p:Array Nat}(h:Al n p)(a b:Nat):Out (λr=>Al n r.2) (W1a a b p):=Uk (JB hn _ h _ _) λr hr=>by
 split
 ·exact GV hn (Al.rev hr _ _) _ _
 ·exact GV hn hr _ _
theorem L6 {p:Array Nat}(h:Al n p)(a:Nat):Rg n (kas_count a p):=TV (KJ hn h _ _) λm=>by
 split
 ·exact trivial
 ·split
  ·refine⟨h.get hn _,h.get hn _,λb=>?_⟩
   cases b
   ·exact Uv hn (h.rev _ _) _ _
   ·exact trivial
  ·exact Uv hn h _ _
theorem R6 {p:Array Nat}(h:Al n p)(a:Nat):Out (λr=>Al n r.2) (kas_count a p):=Uk (P:=λ_=>True) (N1 hn (λ_=>trivial) _) λm _=>by
 split
 ·exact h
 ·split
  ·intro b
   cases b
   ·exact U4 hn (h.rev _ _) _ _
   ·exact h
  ·exact U4 hn h _ _
theorem TQ {p:Array Nat}(h:Al n p)(k:Nat):∀f l r,Rg n (W11 p k f l r)
 |0,_,_=>trivial
 |f+1,l,r=>by
  unfold W11;split
  ·exact trivial
  ·refine⟨h.get hn _,h.get hn _,λb=>?_⟩
   cases b
   ·exact TQ h k f _ _
   ·exact TQ h k f _ _
theorem F7:∀f {p:Array Nat} (_:Al n p) k,Rg n (kas_bin f p k)
 |0,_,_,_=>trivial
 |f+1,p,h,k=>TV (TQ hn h k _ _ _) λ_=>F7 f (h.bub _ _) _
end
theorem MB (n:Nat):Al n (VE (Wo n)):=λx hx=>by simpa using hx
theorem rg_sort {n:Nat}(hn:0<n):Rg n (W0F n):=TU (L6 hn (MB n) _) (R6 hn (MB n) _) λr hr=>by
 split
 ·exact F7 hn _ hr _
 ·exact trivial
structure Ord (lt:Nat->Nat->Bool):Prop where
 irr:∀i,lt i i=false
 tr:∀i j k,lt j i=false->lt k j=false->lt k i=false
 as:∀i j,lt i j=true->lt j i=false
section
variable {lt:Nat->Nat->Bool} (O:Ord lt) {p q:Array Nat}
abbrev le (lt:Nat->Nat->Bool)(i j:Nat):Prop:=lt j i=false
theorem Ord.lt_le (O:Ord lt){i j k:Nat}(h1:lt i j=true)(h2:le lt j k):lt i k=true:=by
 cases h:lt i k
 ·have:=O.tr j k i h2 h
  rw [h1] at this;cases this
 ·rfl
def So (lt:Nat->Nat->Bool)(p:Array Nat)(n:Nat):Prop:=∀i j,i<=j->j<n->le lt (p.getD i 0) (p.getD j 0)
def De (lt:Nat->Nat->Bool)(p:Array Nat)(n:Nat):Prop:=∀i j,i<=j->j<n->le lt (p.getD j 0) (p.getD i 0)
theorem Je {p:Array Nat}{i j:Nat}(hj:j<=p.size)(k:Nat):(W0j p i j).getD k 0=if i<=k/\k<j then p.getD (i+j-1-k) 0 else p.getD k 0:=by
 have:=getElem?_mirror_all (xs:=p) (i:=i) hj k
 simp only [W12]
 unfold W0j;rw [this];split<;>rfl
include O
theorem Pr:∀f n,1<=n->So lt p n->n<=ev lt (W0D p f n)/\ev lt (W0D p f n)<=n+f/\So lt p (ev lt (W0D p f n))/\(ev lt (W0D p f n)<n+f->lt (p.getD (ev lt (W0D p f n)) 0) (p.getD (ev lt (W0D p f n)-1) 0)=true)
 |0,n,_,h=>⟨Wq _,Wq _,h,λz=>absurd z (Vk _)⟩
 |f+1,n,h1,h=>by
  show n<=ev lt (if lt (p.getD n 0) (p.getD (n-1) 0)=true then KasT.ret n else W0D p f (n+1))/\ev lt (if lt (p.getD n 0) (p.getD (n-1) 0)=true then KasT.ret n else W0D p f (n+1))<=n+(f+1)/\So lt p (ev lt (if lt (p.getD n 0) (p.getD (n-1) 0)=true then KasT.ret n else W0D p f (n+1)))/\(ev lt (if lt (p.getD n 0) (p.getD (n-1) 0)=true then KasT.ret n else W0D p f (n+1))<n+(f+1)->lt (p.getD (ev lt (if lt (p.getD n 0) (p.getD (n-1) 0)=true then KasT.ret n else W0D p f (n+1))) 0) (p.getD (ev lt (if lt (p.getD n 0) (p.getD (n-1) 0)=true then KasT.ret n else W0D p f (n+1))-1) 0)=true)
  by_cases c:lt (p.getD n 0) (p.getD (n-1) 0)=true
  ·rw [if_pos c]
   exact⟨Wq _,Nat.le_add_right _ _,h,λ_=>c⟩
  ·rw [if_neg c]
   have h':So lt p (n+1):=λi j hij hj=>by
    by_cases q:j<n
    ·exact h i j hij q
    ·have ej:j=n:=by omega
     subst ej;by_cases q2:i=j
     ·rw [q2];exact O.irr _
     ·exact O.tr _ _ _ (h i (j-1) (by omega) (by omega)) (by simpa using c)
   obtain⟨a,b,c,d⟩:=Pr f (n+1) (by omega) h'
   exact⟨by omega,by omega,c,λz=>d (by omega)⟩
omit O in
theorem De.eqv {n:Nat}(O:Ord lt)(h:De lt p n)(e:∀k,k<n->le lt (q.getD k 0) (p.getD k 0)/\le lt (p.getD k 0) (q.getD k 0)):De lt q n:=λi j hij hj=>
 O.tr _ _ _ (e j hj).1 (O.tr _ _ _ (h i j hij hj) (e i (by omega)).2)
omit O in
theorem So.ofDe {n:Nat}(h:De lt p n)(hn:n<=p.size):So lt (W0j p 0 n) n:=λi j hij hj=>by
 rw [Je hn,Je hn,if_pos (by omega),if_pos (by omega)]
 exact h (0+n-1-j) (0+n-1-i) (by omega) (by omega)
def Run (lt:Nat->Nat->Bool)(p:Array Nat)(n q:Nat):Prop:=q+1<=n/\∀i,n-(q+1)<=i->i<n->le lt (p.getD i 0) (p.getD (n-1) 0)/\le lt (p.getD (n-1) 0) (p.getD i 0)
omit O in
theorem KH {n k:Nat}(O:Ord lt)(h:Run lt p n k)(hn:n<=p.size):∀i,i<p.size->le lt ((W0j p (n-(k+1)) n).getD i 0) (p.getD i 0)/\le lt (p.getD i 0) ((W0j p (n-(k+1)) n).getD i 0):=λi hi=>by
 rw [Je hn];by_cases c:n-(k+1)<=i/\i<n
 ·rw [if_pos c]
  have a:=h.2 (n-(k+1)+n-1-i) (by omega) (by omega)
  have b:=h.2 i c.1 c.2
  exact⟨O.tr _ _ _ a.1 b.2,O.tr _ _ _ b.1 a.2⟩
 ·rw [if_neg c]
  exact⟨O.irr _,O.irr _⟩
def DP (lt:Nat->Nat->Bool)(p:Array Nat)(a b:Nat)(r:Array Nat×Nat×Nat):Prop:=r.1.size=p.size/\r.1.Perm p/\a<=r.2.1/\r.2.1<=b/\De lt r.1 r.2.1/\Run lt r.1 r.2.1 r.2.2
theorem Pf:∀f (p:Array Nat) n k,De lt p n->Run lt p n k->n+f<=p.size->DP lt p n (n+f) (ev lt (W0h f p n k))
 |0,p,n,k,h,r,hz=>⟨rfl,.refl _,Wq _,Wq _,h,r⟩
 |f+1,p,n,k,h,r,hz=>by
  have h1:=r.1
  have step:∀(p1:Array Nat) (k1:Nat),p1.size=p.size->p1.Perm p->De lt p1 (n+1)->Run lt p1 (n+1) k1->DP lt p n (n+(f+1)) (ev lt (W0h f p1 (n+1) k1)):=λp1 k1 s1 pm d1 r1=>by
   obtain⟨a,b,c,d,e,g⟩:=Pf f p1 (n+1) k1 d1 r1 (by omega)
   exact⟨a.trans s1,b.trans pm,by omega,by omega,e,g⟩
  show DP lt p n (n+(f+1)) (ev lt (if lt (p.getD n 0) (p.getD (n-1) 0)=true then (if k>0 then W0h f (W0j p (n-(k+1)) n) (n+1) 0 else W0h f p (n+1) 0)
   else .ask (p.getD (n-1) 0) (p.getD n 0) λd=>if d=true then .ret (p,n,k) else W0h f p (n+1) (k+1)))
  have run0:∀p1:Array Nat,Run lt p1 (n+1) 0:=λp1=>⟨by omega,λi a b=>by
   have:i=n:=by omega
   subst this;exact⟨O.irr _,O.irr _⟩⟩
  have more:∀p1:Array Nat,De lt p1 n->p1.getD n 0=p.getD n 0->le lt (p.getD n 0) (p1.getD (n-1) 0)->De lt p1 (n+1):=λp1 d1 e1 l1 i j hij hj=>by
   by_cases c:j<n
   ·exact d1 i j hij c
   ·have ej:j=n:=by omega
    subst ej;by_cases c2:i=j
    ·rw [c2];exact O.irr _
    ·rw [e1]
     exact O.tr _ _ _ l1 (d1 i (j-1) (by omega) (by omega))
  by_cases c:lt (p.getD n 0) (p.getD (n-1) 0)=true
  ·rw [if_pos c]
   by_cases ck:k>0
   ·rw [if_pos ck]
    have rr:=KH O r (by omega)
    refine step _ 0 (W13 _ _ _ _) (mirror_perm _ _ _ _) (more _ (h.eqv O λi hi=>rr i (by omega)) ?_ ?_) (run0 _)
    ·rw [Je (by omega),if_neg (by omega)]
    ·exact O.tr _ _ _ (O.as _ _ c) (rr (n-1) (by omega)).2
   ·rw [if_neg ck]
    exact step p 0 rfl (.refl _) (more p h rfl (O.as _ _ c)) (run0 _)
  ·rw [if_neg c]
   show DP lt p n (n+(f+1)) (ev lt (if lt (p.getD (n-1) 0) (p.getD n 0)=true then .ret (p,n,k) else W0h f p (n+1) (k+1)))
   by_cases d:lt (p.getD (n-1) 0) (p.getD n 0)=true
   ·rw [if_pos d]
    exact⟨rfl,.refl _,Wq _,Nat.le_add_right _ _,h,r⟩
   ·rw [if_neg d]
    have c':le lt (p.getD (n-1) 0) (p.getD n 0):=by simpa using c
    have d':le lt (p.getD n 0) (p.getD (n-1) 0):=by simpa using d
    refine step p (k+1) rfl (.refl _) (more p h rfl d') ⟨by omega,λi a b=>?_⟩
    by_cases ci:i=n
    ·subst ci;exact⟨O.irr _,O.irr _⟩
    ·have z:=r.2 i (by omega) (by omega)
     exact⟨O.tr _ _ _ z.1 c',O.tr _ _ _ d' z.2⟩
def CP (lt:Nat->Nat->Bool)(p:Array Nat)(b:Nat)(r:Nat×Array Nat):Prop:=r.2.size=p.size/\r.2.Perm p/\1<=r.1/\r.1<=b/\So lt r.2 r.1
theorem NG {n b:Nat}(h:De lt p n)(h1:1<=n)(hb:n<=b)(hz:b<=p.size):CP lt p b (ev lt (kas_tail3 n b p)):=by
 unfold kas_tail3;rw [JS];obtain⟨x,y,z,_⟩:=Pr O (p:=W0j p 0 n) (b-n) n h1 (So.ofDe h (by omega))
 exact⟨W13 _ _ _ _,mirror_perm _ _ _ _,by show 1<=ev lt _;omega,by show ev lt _<=b;omega,z⟩
theorem UP {n b:Nat}(h:De lt p (n+1))(hb:n+1<=b)(hz:b<=p.size):CP lt p b (ev lt (W1a n b p)):=by
 unfold W1a;rw [JS];obtain⟨a,c,d,e,f,g⟩:=Pf O (b-(n+1)) p (n+1) 0 h ⟨by omega,λi x y=>by
  have:i=n+1-1:=by omega
  subst this;exact⟨O.irr _,O.irr _⟩⟩ (by omega)
 generalize ev lt (W0h (b-(n+1)) p (n+1) 0)=r at *
 split
 ·have rr:=KH O g (by omega)
  obtain⟨x1,x2,x3,x4,x5⟩:=NG O (p:=W0j r.1 (r.2.1-(r.2.2+1)) r.2.1) (n:=r.2.1) (b:=b) (f.eqv O λi hi=>rr i (by omega)) (by omega) (by omega) (by unfold W0j;rw [W13];omega)
  exact⟨x1.trans ((W13 _ _ _ _).trans a),x2.trans ((mirror_perm _ _ _ _).trans c),x3,x4,x5⟩
 ·obtain⟨x1,x2,x3,x4,x5⟩:=NG O (p:=r.1) (n:=r.2.1) (b:=b) f (by omega) (by omega) (by omega)
  exact⟨x1.trans a,x2.trans c,x3,x4,x5⟩
theorem LR (hz:1<=p.size):CP lt p p.size (ev lt (kas_count p.size p)):=by
 unfold kas_count;rw [JS];obtain⟨x,y,z,w⟩:=Pr O (p:=p) (p.size-1) 1 (Wq _) λi j hij hj=>by
  have h1:i=0:=by omega
  have h2:j=0:=by omega
  subst h1 h2;exact O.irr _
 generalize ev lt (W0D p (p.size-1) 1)=n at *
 split
 ·exact⟨rfl,.refl _,x,by show n<=p.size;omega,z⟩
 ·rename_i hne
  have hne':n≠p.size:=λe=>hne (by rw [e];exact beq_self_eq_true _)
  have wl:=w (by omega)
  split
  ·show CP lt p p.size (ev lt (if lt (p.getD 0 0) (p.getD (n-1) 0)=true then .ret (n,p) else W1a n p.size (W0j p 0 n)))
   by_cases c:lt (p.getD 0 0) (p.getD (n-1) 0)=true
   ·rw [if_pos c]
    exact⟨rfl,.refl _,x,by show n<=_;omega,z⟩
   ·rw [if_neg c]
    have c':le lt (p.getD (n-1) 0) (p.getD 0 0):=by simpa using c
    have all:∀i j,i<n->j<n->le lt (p.getD i 0) (p.getD j 0):=λi j hi hj=>O.tr _ _ _ (z i (n-1) (by omega) (by omega)) (O.tr _ _ _ c' (z 0 j (by omega) hj))
    have hd:De lt (W0j p 0 n) (n+1):=λi j hij hj=>by
     rw [Je (by omega),Je (by omega)]
     by_cases cj:j<n
     ·rw [if_pos (by omega),if_pos (by omega)]
      exact all _ _ (by omega) (by omega)
     ·have ej:j=n:=by omega
      subst ej;rw [if_neg (by omega)]
      by_cases ci:i=j
      ·rw [if_neg (by omega),ci];exact O.irr _
      ·rw [if_pos (by omega)]
       exact O.tr _ _ _ (O.as _ _ wl) (all _ _ (by omega) (by omega))
    obtain⟨x1,x2,x3,x4,x5⟩:=UP O (p:=W0j p 0 n) (n:=n) (b:=p.size) hd (by omega) (by unfold W0j;rw [W13];exact Wq _)
    exact⟨x1.trans (W13 _ _ _ _),x2.trans (mirror_perm _ _ _ _),x3,x4,x5⟩
  ·have en:n=1:=by omega
   subst en;refine UP O (λi j hij hj=>?_) (by omega) (Wq _)
   by_cases ci:i=j
   ·rw [ci];exact O.irr _
   ·have h1:i=0:=by omega
    have h2:j=1:=by omega
    subst h1 h2;exact O.as _ _ wl
theorem TW {k:Nat}(hs:So lt p k):∀f l r,l<=r->r<=k->r-l<=f->(∀i,i<l->le lt (p.getD i 0) (p.getD k 0))->(∀i,r<=i->i<k->lt (p.getD k 0) (p.getD i 0)=true)->
  ∃m,ev lt (W11 p k f l r)=m/\m<=k/\(∀i,i<m->le lt (p.getD i 0) (p.getD k 0))/\∀i,m<=i->i<k->lt (p.getD k 0) (p.getD i 0)=true
 |0,l,r,h1,h2,h3,a,b=>⟨l,rfl,by omega,a,λi x y=>b i (by omega) y⟩
 |f+1,l,r,h1,h2,h3,a,b=>by
  unfold W11;split
  ·exact⟨l,rfl,by omega,a,λi x y=>b i (by omega) y⟩
  ·rename_i hlr
   show ∃m,ev lt (if lt (p.getD k 0) (p.getD ((l+r) / 2) 0)=true then W11 p k f l ((l+r) / 2) else W11 p k f ((l+r) / 2+1) r)=m/\_
   by_cases c:lt (p.getD k 0) (p.getD ((l+r) / 2) 0)=true
   ·rw [if_pos c]
    refine TW hs f l ((l+r) / 2) (by omega) (by omega) (by omega) a λi x y=>?_
    exact O.lt_le c (hs _ _ x y)
   ·rw [if_neg c]
    refine TW hs f ((l+r) / 2+1) r (by omega) h2 (by omega) (λi x=>?_) b
    exact O.tr _ _ _ (hs i ((l+r) / 2) (by omega) (by omega)) (by simpa using c)
omit O in
theorem Mn {p:Array Nat}{k d:Nat}(hk:k<p.size)(hd:d<=k)(i:Nat):(bubble p k d).getD i 0=if i=k-d then p.getD k 0 else if k-d<i/\i<=k then p.getD (i-1) 0 else p.getD i 0:=by
 have:=getElem?_bubble (xs:=p) hk d hd i
 simp only [W12]
 rw [this];split
 ·rfl
 ·split<;>rfl
theorem AJ:∀f (p:Array Nat) k,So lt p k->k+f<=p.size->(ev lt (kas_bin f p k)).Perm p/\So lt (ev lt (kas_bin f p k)) (k+f)
 |0,p,k,h,_=>⟨.refl _,h⟩
 |f+1,p,k,h,hz=>by
  show (ev lt ((W11 p k k 0 k).bind λl=>kas_bin f (bubble p k (k-l)) (k+1))).Perm p/\So lt (ev lt ((W11 p k k 0 k).bind λl=>kas_bin f (bubble p k (k-l)) (k+1))) (k+(f+1))
  rw [JS];obtain⟨m,e,hm,a,b⟩:=TW O h k 0 k (Vq _) (Wq _) (by omega) (λi x=>by omega) (λi x y=>by omega)
  rw [e];have hs:So lt (bubble p k (k-m)) (k+1):=λi j hij hj=>by
   rw [Mn (by omega) (by omega),Mn (by omega) (by omega)]
   by_cases i1:i=k-(k-m)
   ·rw [if_pos i1]
    by_cases j1:j=k-(k-m)
    ·rw [if_pos j1];exact O.irr _
    ·rw [if_neg j1,if_pos (by omega)]
     exact O.as _ _ (b (j-1) (by omega) (by omega))
   ·rw [if_neg i1]
    by_cases i2:k-(k-m)<i/\i<=k
    ·rw [if_pos i2,if_neg (by omega),if_pos (by omega)]
     exact h (i-1) (j-1) (by omega) (by omega)
    ·rw [if_neg i2]
     by_cases j1:j=k-(k-m)
     ·rw [if_pos j1]
      exact a i (by omega)
     ·rw [if_neg j1]
      by_cases j2:k-(k-m)<j/\j<=k
      ·rw [if_pos j2]
       exact h i (j-1) (by omega) (by omega)
      ·rw [if_neg j2]
       exact h i j hij (by omega)
  obtain⟨x,y⟩:=AJ f (bubble p k (k-m)) (k+1) hs (by rw [bubble_size];omega)
  exact⟨x.trans (bubble_perm _ _ _),by rw [show k+(f+1)=k+1+f by omega];exact y⟩
theorem sort_ok {n:Nat}(hn:1<=n):(ev lt (W0F n)).Perm (VE (Wo n))/\So lt (ev lt (W0F n)) n:=by
 unfold W0F;rw [JS];have hz:(VE (Wo n)).size=n:=by simp
 obtain⟨a,b,c,d,e⟩:=LR O (p:=VE (Wo n)) (by omega)
 rw [hz] at a b c d e
 generalize ev lt (kas_count n (VE (Wo n)))=r at *
 split
 ·obtain⟨x,y⟩:=AJ O (n-max r.1 1) r.2 (max r.1 1) (by rw [show max r.1 1=r.1 by omega];exact e) (by omega)
  exact⟨x.trans b,by rw [show max r.1 1+(n-max r.1 1)=n by omega] at y;exact y⟩
 ·have:r.1=n:=by omega
  exact⟨b,by show So lt r.2 n;rw [<-this];exact e⟩
end
end KS
namespace L2
open PySem PySem.Spec PyProof.Rows
def JK (h:Heap)(d:Addr)(es:Array DictEntry)(ep:Nat):Prop:=∃o,h.get? d=some o/\o.ExactDict/\o.data = .dict es ep
theorem JK.ty {s:Shared}{d:Addr}{es:Array DictEntry}{ep:Nat}(h:JK s.heap d es ep):s.TypeIs (.ref d) "dict":=let ⟨o,h1,h2,_⟩:=h;⟨o,h1,h2.1⟩
theorem JK.keep {h h':Heap}{d:Addr}{es:Array DictEntry}{ep:Nat}(x:JK h d es ep)(k:∀o,h.get? d=some o->h'.get? d=some o):JK h' d es ep:=let ⟨o,h1,r⟩:=x;⟨o,k o h1,r⟩
section
variable {prog:Program} {w:World} {A:Around} {E:Value->Shared->Prop} {s:Shared} {it d:Addr} {es:Array DictEntry} {ep i:Nat}
theorem NV {Q:Value->Shared->Prop}(hd:(d == sysModules)=false)(hm:JK s.heap d es ep)
  (q:Q (.ref s.heap.objs.size) { s with heap:=s.heap.push { cls:=.type "dict_keyiterator",data:=.fields #[.ref d,.int 0 0,.int es.size 0,.int ep 0] } }):wpAny (model prog w) A (pyIter (.ref d)) Q E s:=by
 obtain⟨o,ho,hc,hdat⟩:=id hm
 refine wpAny_pyIter_slot hm.ty PySem.F.slot_dict_iter (Vg PySem.F.slot_dict_iter hm.ty PySem.F.entry_dict_iter ?_ (PySem.F.args_dict_iter_1 _))
 unfold Builtin.«dict.__iter__» Builtin.Dict.dictSlotNone
 refine W2 (W2 (wpAny_notOrdered_dict hm.ty (Wk ?_)))
 show wpAny _ _ (Builtin.Dict.showsAll d >>= _) _ _ s
 unfold Builtin.Dict.showsAll;rw [hd];refine W2 (Wk (W2 (W0C ho hdat (W2 (wpAny_dictEpoch ho hdat ?_)))))
 exact W2 (Vb (Wk ⟨_,rfl, "dict_keyiterator",_,⟨_,Wt _ rfl,rfl⟩,Va.lookup,by simpa [rawInt] using q⟩))
theorem NU {e:DictEntry}{Q:Option Value->Shared->Prop}(hit:s.heap.IsKeyIter it d i es.size ep)(hm:JK s.heap d es ep)(hx:es[i]? = some e)
  (q:∀h',h'.IsKeyIter it d (i+1) es.size ep->VM it s.heap h'->Q (some e.key) { s with heap:=h' }):wpAny (model prog w) A (pyNext (.ref it)) Q E s:=by
 obtain⟨o,ho,hc,hd⟩:=id hit
 obtain⟨od,hod,hcd,hdd⟩:=id hm
 have hlt:i<es.size:=(W08.mp hx).1
 have hown:W0T "dict_keyiterator" = false:=by decide
 unfold pyNext;refine W2 (wpAny_attempt (V3 (name:=Wp "__next__") hit.typeIs Va (Vg Va hit.typeIs W0k ?_ (W0d _))))
 refine W2 (Wk (W2 (W2 ?_)))
 first|refine W2 (Vz hit.typeIs (Wk (W2 (W1h ho hd ?_))))|refine W2 (VU hit.typeIs (Wk (W2 (W1h ho hd ?_))))
 simp only [hown,VP,if_false]
 show wpAny _ _ (if (Value.ref d == Value.none)=true then _ else _) _ _ s
 rw [if_neg (show ¬((Value.ref d == Value.none)=true) from WI)];refine W2 (Wk (W2 (W0C hod hdd ?_)))
 rw [if_neg (by simp)]
 refine W2 (Wk (W2 (wpAny_dictEpoch hod hdd ?_)))
 rw [if_neg (by simp)]
 refine Wk ?_
 simp only [show ¬((i:Int)<0) from by omega,if_false,W06,hx]
 refine W2 ?_
 first|refine W2 (Vz hit.typeIs (Wk (W2 (W0J hit.typeIs ?_))))|refine W2 (VU hit.typeIs (Wk (W2 (W0J hit.typeIs ?_))))
 show wpAny _ _ (setField (.ref it) 1 (rawInt ((i:Int)+1)) >>= _) _ _ s
 have hit':(s.heap.update it (Obj.mapFields (·.setIfInBounds 1 (rawInt ((i:Int)+1))))).IsKeyIter it d (i+1) es.size ep:=
  ⟨_,W0H _ ho (Obj.isFreed_of_fields (W0t hd _)),(Obj.cls_mapFields ..).trans hc,by rw [W0t hd];simp [rawInt]⟩
 refine W2 (W1g ho hd (by simp) (W2 (Vs ?_)))
 refine W2 (W0J (s:={ s with heap:=s.heap.update it (Obj.mapFields (·.setIfInBounds 1 (rawInt ((i:Int)+1)))) }) hit'.typeIs ?_)
 show wpAny _ _ (pure e.key) _ _ _
 exact Wk (Wk ⟨_,rfl,Wk (q _ hit' (VI ..))⟩)
theorem KL {Q:Option Value->Shared->Prop}(hh:A.handled=none)(hit:s.heap.IsKeyIter it d es.size es.size ep)(hm:JK s.heap d es ep)(q:∀h',Heap.ExtBut it s.heap h'->Q none { s with heap:=h' }):wpAny (model prog w) A (pyNext (.ref it)) Q E s:=by
 obtain⟨o,ho,hc,hd⟩:=id hit
 obtain⟨od,hod,hcd,hdd⟩:=id hm
 have hown:W0T "dict_keyiterator" = false:=by decide
 have hx:es[es.size]? = none:=by simp
 unfold pyNext;refine W2 (wpAny_attempt (V3 (name:=Wp "__next__") hit.typeIs Va (Vg Va hit.typeIs W0k ?_ (W0d _))))
 refine W2 (Wk (W2 (W2 ?_)))
 first|refine W2 (Vz hit.typeIs (Wk (W2 (W1h ho hd ?_))))|refine W2 (VU hit.typeIs (Wk (W2 (W1h ho hd ?_))))
 simp only [hown,VP,if_false]
 show wpAny _ _ (if (Value.ref d == Value.none)=true then _ else _) _ _ s
 rw [if_neg (show ¬((Value.ref d == Value.none)=true) from WI)];refine W2 (Wk (W2 (W0C hod hdd ?_)))
 rw [if_neg (by simp)]
 refine W2 (Wk (W2 (wpAny_dictEpoch hod hdd ?_)))
 rw [if_neg (by simp)]
 refine Wk ?_
 simp only [show ¬((es.size:Int)<0) from by omega,if_false,W06,hx]
 refine W2 ?_
 first|refine W2 (Vz hit.typeIs (Wk ?_))|refine W2 (VU hit.typeIs (Wk ?_))
 show wpAny _ _ (setField (.ref it) 0 .none >>= _) _ _ s
 refine W2 (W1g ho hd (by simp) ?_)
 show wpAny _ _ (newExc (.type "StopIteration") [] >>= _) _ _ _
 refine W2 ?_
 simp only [newExc,newTuple]
 refine W2 (Vb (W2 (m:=firstArgMember _ _) (wpAny_of_eq (a:=Value.none) (by first|rfl|(simp only [firstArgMember];rfl)) (Vb ?_ (by size_fits)))) (by size_fits))
 simp only [raiseNew]
 refine W2 (wpAny_handled ?_)
 rw [show A.in1.handled=none from hh];refine W2 (Wk (wpAny_throw ?_))
 refine W2 (wpAny_isInstance (T:="StopIteration") (b:=true) ⟨_,Wt _ rfl,rfl⟩ isSubtype_stop ?_)
 exact Wk (q _ (((VI ..).extBut.push _).push _))
theorem L7 (hh:A.handled=none)(I d:Addr)(hne:d≠I)(es:Array DictEntry)(ep:Nat) :
  Walks prog w A I [I,d] [I] es.size (λi v=>∃e,es[i]? = some e/\v=e.key) (λi h=>h.IsKeyIter I d i es.size ep/\JK h d es ep) where
 sub:=λb hb=>by simp at hb;simp [hb]
 frame:=λ_ _ _ st hk=>⟨st.1.at λo e=>hk I (by simp) o e,st.2.keep λo e=>hk d (by simp) o e⟩
 item:=λi s Q E hi st hQ=>by
  have hx:es[i]? = some es[i]:=W1f hi
  refine NU st.1 st.2 hx λh' hit' hs'=>?_
  exact hQ es[i].key h' s.toks ⟨_,hx,rfl⟩ ⟨hit',st.2.keep λo e=>hs'.extBut d o hne e⟩ λb o hb e=>hs'.extBut b o (λh=>hb (by simp [h])) e
 done:=λs Q E st hQ=>KL hh st.1 st.2 λh' he'=>hQ h' s.toks λb o hb e=>he' b o (λh=>hb (by simp [h])) e
 self:=λ_ _ _ _ st hQ=>W0Q st.1 hQ
theorem Eg (lo:(d == sysModules)=false):PySem.W.KdlSrc prog w "dict" d d es.size (λi v=>∃e,es[i]? = some e/\v=e.key) (λh=>JK h d es ep) where
 type:=λ_ hm=>hm.ty
 there:=λ_ hm=>let ⟨_,ho,_⟩:=hm;⟨Ww ho,Ww ho⟩
 keep:=λ_ _ hm hk=>hm.keep λo e=>hk d (.inl rfl) o e
 notList:=by decide
 notTuple:=by decide
 hint:=λ_ _ _ _ hm hq=>PySem.W.kdl_hint_dict hm.ty hq
 iter:=λ_ _ hh hm=>⟨_,_,(λ_ _ hq=>NV lo hm hq),L7 hh _ d (let ⟨_,ho,_⟩:=hm;WT (Ww ho)) es ep,⟨⟨_,Wt _ rfl,rfl,rfl⟩,hm.keep λo e=>Wj _ e⟩⟩
end
section
variable {X:Cx} {pins:List (Addr×Obj)} {σ:St} {H:Hp} {s:Shared} {a:Addr}
theorem EO {kvs:List (List Key×V)}(I:Inv X pins σ H s)(e:H a=some (.dT kvs)):(a == sysModules)=false/\kvs.length<=Wc/\∃es ep bs,JK s.heap a es ep/\es.size=kvs.length/\bs.length=kvs.length/\(∀(i:Nat) (e:DictEntry),es[i]? = some e->∃b:Addr,bs[i]? = some b/\e.key=Value.ref b)/\Paired (λ(p:List Key×V) (b:Addr)=>H b=some (.tup (p.1.map kV))) kvs bs:=by
 obtain⟨z,hS,xs,r,o,es,ep,h1,h2,h3,h4,_⟩:=(show Zz X.prog X.w H s.heap a (.dT kvs) from I.hok a _ e)
 have hl:kvs.length=xs.length:=VV r
 have hes:es.size=xs.length:=by have:=congrArg V4 h4;simpa using this
 refine⟨hS,z,es,ep,xs.map (·.2.1),⟨o,h1,h2,h3⟩,by omega,by rw [Wl];omega,λi e he=>?_,?_⟩
 ·have:es.toList[i]? = some e:=by rw [W03];exact he
  rw [h4,WB] at this;obtain⟨x,x1,x2⟩:=Wh.mp this
  exact⟨x.2.1,by rw [WB,x1];rfl,by rw [<-x2];rfl⟩
 ·clear hes h4 hl
  have:∀{l:List (List Key×V)} {m:List (List Key×Addr×Value)},Paired (λ(p:List Key×V) (q:List Key×Addr×Value)=>p.1=q.1/\H q.2.1=some (.tup (p.1.map kV))/\ZC p.2 q.2.2) l m->Paired (λ(p:List Key×V) (b:Addr)=>H b=some (.tup (p.1.map kV))) l (m.map (·.2.1)):=by
   intro l m h
   induction h with
   |nil=>exact .nil
   |cons h t ih=>exact .cons h.2.1 ih
  exact this r
theorem IY {P:Program}{w:World}{h:Heap}{kvs:List (Key×V)}(x:Zz P w H h a (.dK kvs)):(a == sysModules)=false/\kvs.length<=Wc/\∃es ep,JK h a es ep/\es.size=kvs.length/\∀(i:Nat) (e:DictEntry),es[i]? = some e->∃k v,kvs[i]? = some (k,v)/\ZC (kV k) e.key:=by
 obtain⟨z,hS,vs,r,o,es,ep,h1,h2,h3,h4,h5,_⟩:=x
 have hl:kvs.length=vs.length:=r.length
 have hes:es.size=vs.length:=by rw [<-h5.length];simp
 refine⟨hS,z,es,ep,⟨o,h1,h2,h3⟩,by omega,λi e he=>?_⟩
 have hi:i<es.size:=(W08.mp he).1
 have hv:vs[i]? = some (vs[i]'(by omega)):=Wm _
 have hk:=(h5.get? (e:=e) (by rw [W03];exact he) hv).1
 have key:∀{l:List (Key×V)} {m:List (Key×Value)},KV l m->∀{i:Nat} {q:Key×Value},m[i]? = some q->∃v,l[i]? = some (q.1,v):=by
  intro l m hh;unfold KV at hh
  induction hh with
  |nil=>intro i q e;simp at e
  | @cons p q' ps qs h t ih=>
   intro i q e;cases i with
   |zero=>
    simp at e
    subst e;have h1:p.1=q'.1:=h.1
    exact⟨p.2,by simp [<-h1]⟩
   |succ i=>simpa using ih (by simpa using e)
 obtain⟨v,hv2⟩:=key r hv
 exact⟨_,v,hv2,Ab hk⟩
end
end L2
namespace L2
open PySem PySem.Spec PyProof.Rows
def Itq (a:Addr)(o:Obj):It:=
 ⟨λi H=>∃(kvs:List (List Key×V)) (k:List Key) (v:V),H a=some (.frz o (.dT kvs))/\kvs[i]? = some (k,v),
 λi H x H'=>H'=H/\∀kvs:List (List Key×V),H a=some (.frz o (.dT kvs))->∃k v b,kvs[i]? = some (k,v)/\x = .ref b/\H b=some (.tup (k.map kV)),
 λi H=>∃kvs:List (List Key×V),H a=some (.frz o (.dT kvs))/\i=kvs.length⟩
theorem Nu {X:Cx}{pins:List (Addr×Obj)}{σ:St}{H:Hp}{s:Shared}{a:Addr}{o:Obj}{kvs:List (List Key×V)}(I:Inv X pins σ H s)(e:H a=some (.frz o (.dT kvs))){es:Array DictEntry}{ep:Nat}(hd:o.data = .dict es ep) :
  JK s.heap a es ep/\es.size=kvs.length/\∀(i:Nat) (k:List Key) (v:V),kvs[i]? = some (k,v)->∃(e:DictEntry) (b:Addr),es[i]? = some e/\e.key=Value.ref b/\H b=some (.tup (k.map kV)):=by
 obtain⟨h1,_,_,xs,r,o',es',ep',h2,h3,h4,h5,_⟩:=(show Zz X.prog X.w H s.heap a (.frz o (.dT kvs)) from I.hok a _ e)
 rw [h1] at h2;cases h2;rw [hd] at h4;cases h4;have hl:kvs.length=xs.length:=VV r
 have hes:es.size=xs.length:=by have:=congrArg V4 h5;simpa using this
 refine⟨⟨o,h1,h3,hd⟩,by omega,λi k v hi=>?_⟩
 have key:∀{l:List (List Key×V)} {m:List (List Key×Addr×Value)},Paired (λ(p:List Key×V) (q:List Key×Addr×Value)=>p.1=q.1/\H q.2.1=some (.tup (p.1.map kV))/\ZC p.2 q.2.2) l m->∀{i:Nat},l[i]? = some (k,v)->∃q,m[i]? = some q/\H q.2.1=some (.tup (k.map kV)):=by
  intro l m h
  induction h with
  |nil=>intro i e;simp at e
  | @cons p q ps qs h t ih=>
   intro i e;cases i with
   |zero=>simp at e;subst e;exact⟨q,rfl,h.2.1⟩
   |succ i=>simpa using ih (by simpa using e)
 obtain⟨q,q1,q2⟩:=key r hi
 have:es.toList[i]? = some (entryOfKey (tupleKind (ZT X.prog X.w)) q):=by rw [h5,WB,q1];rfl
 rw [W03] at this;exact⟨_,q.2.1,this,rfl,q2⟩
theorem MF {P:Program}{w:World}{K:W3}{tg:Expr}{a it:Addr}{o:Obj}{es:Array DictEntry}{ep:Nat}(hd:o.data = .dict es ep):Turn P w K tg (Itq a o) [it] it (λi h=>h.IsKeyIter it a i es.size ep) where
 mem:=by simp
 obj:=λi h st b hb=>by
  have e:b=it:=by simpa using hb
  subst e;obtain⟨q,e,_,d⟩:=st
  exact⟨q,e,λv z=>by rw [d] at z;cases z⟩
 keep:=λi h h' st k=>st.at λq e=>k it (by simp) q e
 item:=by
  intro X hP hw hK hc i pins s σ H E I hf st hg;subst hP hw hK;obtain⟨kvs,k,v,e,hx⟩:=hg
  obtain⟨hm,hz,hk⟩:=Nu I e hd
  obtain⟨en,b,h1,h2,h3⟩:=hk i k v hx
  obtain⟨f0,f1,f2,f3,f4,f5⟩:=hf it (by simp)
  refine NU st hm h1 λh' st' sb=>?_
  have I1:Inv X pins σ H { s with heap:=h' }:=I.turned (t':=s.toks) (λb q hb e=>(sb.2 b hb).trans e) f0 f1 f3 f4 f5
  obtain⟨q,eq,c,d⟩:=id st'
  refine⟨en.key,rfl,RZ (s:={ s with heap:=h' }) eq c d (by decide) ⟨.ref b,H,I1,by rw [h2];rfl,⟨rfl,λkvs' e'=>?_⟩,st',λb hb=>(hf b hb).1⟩⟩
  rw [e] at e'
  cases e'
  exact⟨k,v,b,hx,rfl,h3⟩
 done:=by
  intro X hP hw hK hc i pins s σ H E I hf st hg;subst hP hw hK;obtain⟨kvs,e,hx⟩:=hg
  obtain⟨hm,hz,hk⟩:=Nu I e hd
  obtain⟨f0,f1,f2,f3,f4,f5⟩:=hf it (by simp)
  rw [hx,<-hz] at st;exact KL (I.ok.hd hc) st hm λh' eb=>⟨rfl,I.turned (t':=s.toks) (λb q hb e=>eb b q hb e) f0 f1 f3 f4 f5⟩
 self:=λ_ _ _ _ _ st h=>W0Q st h
section
variable {X:Cx} {pins:List (Addr×Obj)} {σ:St} {H:Hp} {s:Shared} {a:Addr} {kvs:List (List Key×V)} {tg:Expr} {E:Value->Shared->Prop} {R:It->Hp->Prop}
theorem NW {o:Obj}(I:Inv X pins σ H s)(e:H a=some (.frz o (.dT kvs)))(q:R (Itq a o) H):wpAny (model X.prog X.w) X.A (pyIter (.ref a)) (PIE X pins σ tg R) E s:=by
 obtain⟨h1,_,hS,_,_,o',es,ep,h2,_,hd,_⟩:=(show Zz X.prog X.w H s.heap a (.frz o (.dT kvs)) from I.hok a _ e)
 rw [h1] at h2;cases h2;obtain⟨hm,hz,_⟩:=Nu I e hd
 refine NV hS hm ?_
 refine⟨s.heap.objs.size,[s.heap.objs.size],_,_,H,rfl,I.kept (t':=s.toks) λb o e=>Wj _ e,MF (a:=a) hd,⟨_,Wt _ rfl,rfl,rfl⟩,λb hb=>?_,q⟩
 have eb:b=s.heap.objs.size:=by simpa using hb
 subst eb;exact I.fpOk (Wq _) (I.hok.fresh (Wq _))
theorem KW (I:Inv X pins σ H s)(e:H a=some (.dT kvs))(q:∀o,(∀o u,X.H₀ a≠some (.frz o u))->R (Itq a o) (upd H a (.frz o (.dT kvs)))):wpAny (model X.prog X.w) X.A (pyIter (.ref a)) (PIE X pins σ tg R) E s:=by
 have ok:Zz X.prog X.w H s.heap a (.dT kvs):=I.hok a _ e
 obtain⟨z,hS,xs,r,o,es,ep,h1,h2⟩:=id ok
 have ok':Zz X.prog X.w (upd H a (.frz o (.dT kvs))) s.heap a (.dT kvs):=ok.stay (λ_ _ _ h=>h) (λc h=>by rw [Ze (JD h e (λz=>nomatch z))];exact h) λc xs h=>by rw [Ze (JD h e (λz=>nomatch z))];exact h
 have I':Inv X pins σ (upd H a (.frz o (.dT kvs))) s:=I.view (by rw [e];exact True.intro) ⟨o,h1⟩ ⟨h1,ok'⟩
 exact NW I' Z6 (q o λo u z=>by
  have:=I.base.frzs a o u z
  rw [e] at this;cases this)
end
end L2
namespace HT
open PySem PySem.Spec PyProof.Rows L2
section
variable {prog:Program} {w:World} {A:Around} {E:Value->Shared->Prop} {s:Shared}
theorem getItem_tuple_all {t sl:Addr}{items:Array Value}{vl vu:Value}{lo hi:Option Int}{Q:Value->Shared->Prop}(ht:IsTup s.heap t items)(hs:s.heap.IsSliceOf sl vl vu .none)(pl:IsPart vl lo)(pu:IsPart vu hi)
  (hw:sIx items.size 0 lo=0/\sIx items.size items.size hi=items.size) (h:Q (.ref t) s):wpAny (model prog w) A (getItem (.ref t) (.ref sl)) Q E s:=by
 obtain⟨os,hos,hcs,hds⟩:=id hs
 have hTs:s.TypeIs (.ref sl) "slice":=⟨os,hos,hcs⟩
 unfold getItem
 try with_reducible refine Vs ?_
 first|refine W2 (Wk ?_)|skip
 refine W2 (wpAny_sequenceKey ht.typeIs (by decide) ?_)
 refine W2 (V3 (name:=Wp "__getitem__") ht.typeIs V7
  (Vg V7 ht.typeIs entry_tuple_getitem ?_ (args_tuple_getitem _ _)))
 show wpAny _ _ (W17 (.ref t) >>= _) _ _ s
 refine W2 (tupleItemsOf_ ht ?_)
 refine W2 (W19 hTs ?_)
 rw [if_pos (by decide)]
 refine W2 (QM hs pl pu ?_)
 have hyes:(((sIx items.size 0 lo:Nat):Int) == 0&&(1:Int) == 1&&(sIx items.size items.size hi-sIx items.size 0 lo) == items.size)=true:=by
  rw [hw.1,hw.2];simp
 show wpAny _ _ (if (((sIx items.size 0 lo:Nat):Int) == 0&&(1:Int) == 1&&(sIx items.size items.size hi-sIx items.size 0 lo) == items.size)=true then _ else _) _ _ s
 rw [if_pos hyes];refine W2 (m:=Builtin.Tuple.tupleIsExact (.ref t)) (W2 (W19 ht.typeIs (Wk ?_)))
 rw [if_pos (by decide)]
 first
  |exact W2 (W1p (W2 (Wk (Wk ⟨_,rfl,Wk h⟩))))
  |exact W2 (W1p (Wk ⟨_,rfl,Wk h⟩))
end
end HT
namespace L2
open PySem PySem.Spec PyProof.Rows
section
variable {X:Cx}
def Z00 (K:W3):V->Option Int->Option Int->Hp->VK->Prop:=λx lo hi H Q=>∃a xs,x = .ref a/\SqT K H a xs/\
 (HT.sIx xs.length 0 lo=0/\HT.sIx xs.length xs.length hi=xs.length)/\Q (.ref a) H
theorem E5:SlR X (Z00 X.K):=by
 intro pins s σ H x v vl vu lo hi sl Q I rx hs pl pu h;obtain⟨a,xs,rfl,hx,hw,q⟩:=h
 cases rx;obtain⟨its,r,ht,hz⟩:=I.tuple hx
 have hlen:its.toArray.size=xs.length:=by rw [Wn];exact r.length.symm
 refine⟨"tuple",_,V7.lookup,ht.typeIs,?_⟩
 exact HT.getItem_tuple_all ht hs pl pu (by rw [hlen];exact hw) ⟨.ref a,H,I,rfl,q⟩
end
end L2
namespace L2
open PySem PySem.Spec PyProof.Rows
section
variable {prog:Program} {w:World} {A:Around} {d:Value}
end
end L2
namespace L2
open PySem PySem.Spec PyProof.Rows
section
variable {prog:Program} {w:World} {A:Around} {d:Value}
end
end L2
namespace L2
open PySem PySem.Spec PyProof.Rows
section
variable {prog:Program} {w:World} {A:Around} {J:Nat->Heap->Prop}
end
end L2
namespace L2
open PySem PySem.Spec PyProof.Rows
section
variable {prog:Program} {w:World} {B:Around} {K:Type} [DecidableEq K]
end
end L2
namespace L2
open PySem
def pth (t:SetTable)(h:Int):Nat->SetTable.Probe
 |0=>t.probeStart h
 |k+1=>t.advance (pth t h k)
end L2
namespace L2
open PySem
abbrev SL:=List (Nat×Int×Value)
end L2
namespace L2
open PySem
end L2
namespace L2
open PySem
structure Own (t:SetTable) (hs:List Int) (ow:Array (Option Nat)) (c:Nat):Prop where
 sz:ow.size=t.mask+1
 has:∀k,k<c->∃j:Nat,ow[j]? = some (some k)
 inj:∀(j j' k:Nat),ow[j]? = some (some k)->ow[j']? = some (some k)->j=j'
 path:∀(j k:Nat),ow[j]? = some (some k)->k<c/\∃h,hs[k]? = some h/\∃q,(pth t h q).j=j/\∀q',q'<q->∃k',ow[(pth t h q').j]? = some (some k')
end L2
namespace L2
open PySem
end L2
namespace L2
open PySem PySem.Spec PyProof.Rows
section
variable {prog:Program} {w:World} {h0:Heap} {U:Nat} {K:Type} [DecidableEq K] {A:Around} {E:Value->Shared->Prop} {s:Shared}
end
end L2
namespace L2
open PySem PySem.Spec PyProof.Rows
section
variable {prog:Program} {w:World} {h0:Heap} {U:Nat} {K:Type} [DecidableEq K] {A:Around} {E:Value->Shared->Prop} {s:Shared}
end
end L2
namespace L2
open PySem PySem.Spec PyProof.Rows
section
variable {prog:Program} {w:World} {A:Around} {E:Value->Shared->Prop} {s:Shared}
end
end L2
namespace L2
open PySem PySem.Spec PyProof.Rows
section
variable {prog:Program} {w:World} {A:Around}
end
end L2
namespace DL
open PySem PySem.Spec PyProof.Rows L2
inductive D where
 |non
 |bl (b:Bool)
 |int (i:Int)
 |str (x:Str)
 |tup (xs:List D)
 |ref (n:Nat)
 |scr (ns:List Int)
 deriving Inhabited
inductive Ob where
 |lst (xs:List D)
 |dct (kvs:List (D×D))
 |fdct (kvs:List (D×D))
 |ins (C:Str) (fs:List (Str×D))
 deriving Inhabited
abbrev Sto:=List Ob
abbrev En:=List (Option D)
abbrev M (α:Type):=En->Sto->Option (α×Sto)
inductive Fl where
 |nx|rt (d:D)|bk|ct
abbrev MS:=En->Sto->Option (Fl×En×Sto)
def LX (K:W3)(H:Hp)(a:Addr)(ns:List Int):Prop:=
 (∃o,H a=some (.frz o (.lst (ns.map V.int))))\/
  ∃(o:Obj) (its:Array Value) (n:Nat),K.lookup a=some o/\o.cls = .type "list"/\o.dict=none/\o.data = .seq its n/\its.size<=Wc/\Y2 (ns.map V.int) its.toList
theorem LX.seq {K:W3}{H:Hp}{a:Addr}{ns:List Int}(h:LX K H a ns):SqL K H a (ns.map V.int):=by
 rcases h with ⟨o,h⟩|h
 ·exact .inl (.inr ⟨o,h⟩)
 ·exact .inr h
mutual
def DR (K:W3)(ρ:List Addr)(H:Hp):D->V->Prop
 | .non,v=>v = .non
 | .bl b,v=>v = .bl b
 | .int i,v=>v = .int i
 | .str x,v=>v = .str x
 | .tup ds,v=>∃a xs,v = .ref a/\H a=some (.tup xs)/\DsR K ρ H ds xs
 | .ref n,v=>∃a,ρ[n]? = some a/\v = .ref a
 | .scr ns,v=>∃a,v = .ref a/\LX K H a ns
def DsR (K:W3)(ρ:List Addr)(H:Hp):List D->List V->Prop
 |[],xs=>xs=[]
 |d :: ds,xs=>∃x r,xs=x :: r/\DR K ρ H d x/\DsR K ρ H ds r
end
structure Ext (ρ:List Addr) (H:Hp) (ρ':List Addr) (H':Hp):Prop where
 pre:∀(n:Nat) a,ρ[n]? = some a->ρ'[n]? = some a
 tup:∀a xs,H a=some (.tup xs)->H' a=some (.tup xs)
 frz:∀a o u,H a=some (.frz o u)->H' a=some (.frz o u)
theorem Ext.refl {ρ:List Addr}{H:Hp}:Ext ρ H ρ H:=⟨λ_ _ h=>h,λ_ _ h=>h,λ_ _ _ h=>h⟩
theorem Ext.trans {ρ ρ1 ρ2:List Addr}{H H1 H2:Hp}(a:Ext ρ H ρ1 H1)(b:Ext ρ1 H1 ρ2 H2):Ext ρ H ρ2 H2:=
 ⟨λn x h=>b.pre n x (a.pre n x h),λx xs h=>b.tup x xs (a.tup x xs h),λx o u h=>b.frz x o u (a.frz x o u h)⟩
theorem Ext.new {ρ:List Addr}{H:Hp}{p:Addr}{o:HO}(hp:H p=none):Ext ρ H ρ (upd H p o):=
 ⟨λ_ _ h=>h,λa xs h=>by rw [Ze (Zw h hp)];exact h,λa u xs h=>by rw [Ze (Zw h hp)];exact h⟩
theorem Ext.newRef {ρ:List Addr}{H:Hp}{p:Addr}{o:HO}(hp:H p=none):Ext ρ H (ρ++[p]) (upd H p o):=
 ⟨λn a h=>by rw [WU (Wi.mp h).1];exact h,(Ext.new (ρ:=ρ) hp).tup,(Ext.new (ρ:=ρ) hp).frz⟩
theorem Ext.upd {ρ:List Addr}{H:Hp}{p:Addr}{o o':HO}(hp:H p=some o)(h1:∀xs,o≠.tup xs)(h2:∀ob u,o≠.frz ob u):Ext ρ H ρ (L2.upd H p o'):=
 ⟨λ_ _ h=>h,λa xs h=>by rw [Ze (JD h hp (Ne.symm (h1 xs)))];exact h,λa ob u h=>by rw [Ze (JD h hp (Ne.symm (h2 ob u)))];exact h⟩
structure Ext0 (ρ:List Addr) (H:Hp) (ρ':List Addr) (H':Hp):Prop where
 pre:∀(n:Nat) a,ρ[n]? = some a->ρ'[n]? = some a
 tup:∀a xs,H a=some (.tup xs)->H' a=some (.tup xs)
 lst:∀a o xs,H a=some (.frz o (.lst xs))->H' a=some (.frz o (.lst xs))
theorem Ext.weak {ρ ρ':List Addr}{H H':Hp}(e:Ext ρ H ρ' H'):Ext0 ρ H ρ' H':=⟨e.pre,e.tup,λa o xs h=>e.frz a o _ h⟩
section
variable {K:W3} {ρ ρ':List Addr} {H H':Hp}
theorem LX.mono {a:Addr}{ns:List Int}(e:Ext0 ρ H ρ' H')(h:LX K H a ns):LX K H' a ns:=by
 rcases h with ⟨o,h⟩|h
 ·exact .inl ⟨o,e.lst _ _ _ h⟩
 ·exact .inr h
mutual
theorem DR.mono (e:Ext0 ρ H ρ' H'):∀(d:D) (v:V),DR K ρ H d v->DR K ρ' H' d v
 | .non,v,h=>by unfold DR at h ⊢;exact h
 | .bl b,v,h=>by unfold DR at h ⊢;exact h
 | .int i,v,h=>by unfold DR at h ⊢;exact h
 | .str x,v,h=>by unfold DR at h ⊢;exact h
 | .tup ds,v,h=>by
  unfold DR at h ⊢
  obtain⟨a,xs,h1,h2,h3⟩:=h
  exact⟨a,xs,h1,e.tup a xs h2,DsR.mono e ds xs h3⟩
 | .ref n,v,h=>by
  unfold DR at h ⊢
  obtain⟨a,h1,h2⟩:=h
  exact⟨a,e.pre n a h1,h2⟩
 | .scr ns,v,h=>by
  unfold DR at h ⊢
  obtain⟨a,h1,h2⟩:=h
  exact⟨a,h1,h2.mono e⟩
theorem DsR.mono (e:Ext0 ρ H ρ' H'):∀(ds:List D) (xs:List V),DsR K ρ H ds xs->DsR K ρ' H' ds xs
 |[],xs,h=>by unfold DsR at h ⊢;exact h
 |d :: ds,xs,h=>by
  unfold DsR at h ⊢
  obtain⟨x,r,h1,h2,h3⟩:=h
  exact⟨x,r,h1,DR.mono e d x h2,DsR.mono e ds r h3⟩
end
theorem DR.up {d:D}{v:V}(h:DR K ρ H d v)(e:Ext ρ H ρ' H'):DR K ρ' H' d v:=DR.mono e.weak d v h
theorem DsR.up {ds:List D}{xs:List V}(h:DsR K ρ H ds xs)(e:Ext ρ H ρ' H'):DsR K ρ' H' ds xs:=DsR.mono e.weak ds xs h
theorem DsR.nil:DsR K ρ H [] []:=by unfold DsR;rfl
theorem DsR.cons {d:D}{ds:List D}{x:V}{xs:List V}(h:DR K ρ H d x)(t:DsR K ρ H ds xs):DsR K ρ H (d :: ds) (x :: xs):=by
 unfold DsR;exact⟨x,xs,rfl,h,t⟩
theorem DsR.length:∀{ds:List D} {xs:List V},DsR K ρ H ds xs->ds.length=xs.length
 |[],xs,h=>by unfold DsR at h;subst h;rfl
 |d :: ds,xs,h=>by
  unfold DsR at h;obtain⟨x,r,h1,_,h3⟩:=h
  rw [h1,WR,WR,DsR.length h3]
theorem DsR.get:∀{ds:List D} {xs:List V} {i:Nat} {d:D},DsR K ρ H ds xs->ds[i]? = some d->∃x,xs[i]? = some x/\DR K ρ H d x
 |[],_,_,_,_,e=>by simp at e
 |c :: ds,xs,i,d,h,e=>by
  unfold DsR at h;obtain⟨x,r,h1,h2,h3⟩:=h
  subst h1;cases i with
  |zero=>simp at e;subst e;exact⟨x,rfl,h2⟩
  |succ i=>
   obtain⟨y,e1,e2⟩:=DsR.get (i:=i) h3 (by simpa using e)
   exact⟨y,by simpa using e1,e2⟩
theorem DsR.append:∀{ds es:List D} {xs ys:List V},DsR K ρ H ds xs->DsR K ρ H es ys->DsR K ρ H (ds++es) (xs++ys)
 |[],_,xs,_,h,t=>by unfold DsR at h;subst h;exact t
 |d :: ds,_,xs,_,h,t=>by
  unfold DsR at h;obtain⟨x,r,h1,h2,h3⟩:=h
  subst h1;exact .cons h2 (DsR.append h3 t)
theorem DsR.drop:∀{ds:List D} {xs:List V} (n:Nat),DsR K ρ H ds xs->DsR K ρ H (ds.drop n) (xs.drop n)
 |[],xs,n,h=>by
  have e:xs=[]:=by unfold DsR at h;exact h
  subst e;simpa using h
 |d :: ds,xs,0,h=>by simpa using h
 |d :: ds,xs,n+1,h=>by
  unfold DsR at h;obtain⟨x,r,h1,h2,h3⟩:=h
  subst h1;exact DsR.drop n h3
theorem DsR.take:∀{ds:List D} {xs:List V} (n:Nat),DsR K ρ H ds xs->DsR K ρ H (ds.take n) (xs.take n)
 |[],xs,n,h=>by
  have e:xs=[]:=by unfold DsR at h;exact h
  subst e;simpa using h
 |d :: ds,xs,0,h=>by simpa using DsR.nil
 |d :: ds,xs,n+1,h=>by
  unfold DsR at h;obtain⟨x,r,h1,h2,h3⟩:=h
  subst h1;exact .cons h2 (DsR.take n h3)
theorem DsR.ints:∀(ns:List Int),DsR K ρ H (ns.map D.int) (ns.map V.int)
 |[]=>.nil
 |n :: ns=>.cons (by unfold DR;rfl) (DsR.ints ns)
theorem DR.flat_int {i:Int}:DR K ρ H (.int i) (.int i):=by unfold DR;rfl
theorem DR.flat_bl {b:Bool}:DR K ρ H (.bl b) (.bl b):=by unfold DR;rfl
theorem DR.flat_str {x:Str}:DR K ρ H (.str x) (.str x):=by unfold DR;rfl
theorem DR.flat_non:DR K ρ H .non .non:=by unfold DR;rfl
theorem DR.of_int {i:Int}{v:V}(h:DR K ρ H (.int i) v):v = .int i:=by unfold DR at h;exact h
theorem DR.of_bl {b:Bool}{v:V}(h:DR K ρ H (.bl b) v):v = .bl b:=by unfold DR at h;exact h
theorem DR.of_str {x:Str}{v:V}(h:DR K ρ H (.str x) v):v = .str x:=by unfold DR at h;exact h
theorem DR.of_non {v:V}(h:DR K ρ H .non v):v = .non:=by unfold DR at h;exact h
theorem DR.of_tup {ds:List D}{v:V}(h:DR K ρ H (.tup ds) v):∃a xs,v = .ref a/\H a=some (.tup xs)/\DsR K ρ H ds xs:=by unfold DR at h;exact h
theorem DR.tup {ds:List D}{a:Addr}{xs:List V}(h:H a=some (.tup xs))(t:DsR K ρ H ds xs):DR K ρ H (.tup ds) (.ref a):=by unfold DR;exact⟨a,xs,rfl,h,t⟩
theorem DR.of_ref {n:Nat}{v:V}(h:DR K ρ H (.ref n) v):∃a,ρ[n]? = some a/\v = .ref a:=by unfold DR at h;exact h
theorem DR.ref {n:Nat}{a:Addr}(h:ρ[n]? = some a):DR K ρ H (.ref n) (.ref a):=by unfold DR;exact⟨a,h,rfl⟩
theorem DR.of_scr {ns:List Int}{v:V}(h:DR K ρ H (.scr ns) v):∃a,v = .ref a/\LX K H a ns:=by unfold DR at h;exact h
end
def Qy:D->Option Key
 | .int i=>some (.inl i)
 | .str x=>some (.inr x)
 |_=>none
def MX:List D->Option (List Key)
 |[]=>some []
 |d :: ds=>(Qy d).bind λk=>(MX ds).map λks=>k :: ks
def YN:D->Option (List Key)
 | .tup ds=>MX ds
 |_=>none
def kEq (a b:D):Bool:=match Qy a,Qy b with
 |some x,some y=>decide (x=y)
 |_,_=>match YN a,YN b with
  |some x,some y=>decide (x=y)
  |_,_=>false
def Uo (kvs:List (D×D))(k:D):Option D:=(kvs.find? λp=>kEq p.1 k).map (·.2)
def JH (kvs:List (D×D))(k v:D):List (D×D):=if (kvs.any λp=>kEq p.1 k)=true then kvs.map (λp=>if kEq p.1 k=true then (p.1,v) else p) else kvs++[(k,v)]
def Yz (kvs:List (D×D))(k:D):Bool:=match Qy k with
 |some _=>kvs.all λp=>(Qy p.1).isSome
 |none=>match YN k with
  |some _=>kvs.all λp=>(YN p.1).isSome
  |none=>false
def J6 (S:Sto)(n:Nat)(k:D):Option (List (D×D)):=match S[n]? with
 |some (.dct kvs)=>if Yz kvs k=true then some kvs else none
 |some (.fdct kvs)=>if (Yz kvs k && !kvs.isEmpty)=true then some kvs else none
 |_=>none
def K0 (S:Sto)(n:Nat):Bool:=match S[n]? with
 |some (.dct _)=>true
 |some (.fdct _)=>true
 |_=>false
def ObR (K:W3)(ρ:List Addr)(H:Hp)(a:Addr):Ob->Prop
 | .lst ds=>∃xs,H a=some (.lst xs)/\DsR K ρ H ds xs
 | .dct kvs=>(∃(ks:List Key) (xs:List V),H a=some (.dK (ks.zip xs))/\ks.length=xs.length/\kvs.map (λp=>Qy p.1)=ks.map some/\DsR K ρ H (kvs.map (·.2)) xs)\/
   ∃(ks:List (List Key)) (xs:List V),H a=some (.dT (ks.zip xs))/\ks.length=xs.length/\kvs.map (λp=>YN p.1)=ks.map some/\DsR K ρ H (kvs.map (·.2)) xs
 | .fdct kvs=>∃(o:Obj),(∃(ks:List Key) (xs:List V),H a=some (.frz o (.dK (ks.zip xs)))/\ks.length=xs.length/\kvs.map (λp=>Qy p.1)=ks.map some/\DsR K ρ H (kvs.map (·.2)) xs)\/
   ∃(ks:List (List Key)) (xs:List V),H a=some (.frz o (.dT (ks.zip xs)))/\ks.length=xs.length/\kvs.map (λp=>YN p.1)=ks.map some/\DsR K ρ H (kvs.map (·.2)) xs
 | .ins C fs=>∃(Ca dx:Addr) (xs:List V),WJ K WA C=some (some (.ref Ca))/\H a=some (.ins Ca dx ((fs.map (·.1)).zip xs))/\DsR K ρ H (fs.map (·.2)) xs
structure StR (K:W3) (ρ:List Addr) (H:Hp) (S:Sto):Prop where
 len:ρ.length=S.length
 inj:∀(i j:Nat) a,ρ[i]? = some a->ρ[j]? = some a->i=j
 ob:∀(n:Nat) ob,S[n]? = some ob->∃a,ρ[n]? = some a/\ObR K ρ H a ob
structure EnR (K:W3) (ρ:List Addr) (H:Hp) (en:En) (σ:L2.St):Prop where
 len:en.length=σ.length
 get:∀(i:Nat) d,en[i]? = some (some d)->∃x,σ[i]? = some (some x)/\DR K ρ H d x
section
variable {K:W3} {ρ ρ':List Addr} {H H':Hp} {S:Sto} {en:En} {σ:L2.St}
theorem ObR.mono {a:Addr}{ob:Ob}(h:ObR K ρ H a ob)(e:Ext0 ρ H ρ' H')(he:H' a=H a):ObR K ρ' H' a ob:=by
 cases ob with
 |lst ds=>
  obtain⟨xs,h1,h2⟩:=h
  exact⟨xs,he.trans h1,DsR.mono e _ _ h2⟩
 |dct kvs=>
  rcases h with ⟨ks,xs,h1,h2,h3,h4⟩|⟨ks,xs,h1,h2,h3,h4⟩
  ·exact .inl ⟨ks,xs,he.trans h1,h2,h3,DsR.mono e _ _ h4⟩
  ·exact .inr ⟨ks,xs,he.trans h1,h2,h3,DsR.mono e _ _ h4⟩
 |fdct kvs=>
  rcases h with ⟨o,⟨ks,xs,h1,h2,h3,h4⟩|⟨ks,xs,h1,h2,h3,h4⟩⟩
  ·exact⟨o,.inl ⟨ks,xs,he.trans h1,h2,h3,DsR.mono e _ _ h4⟩⟩
  ·exact⟨o,.inr ⟨ks,xs,he.trans h1,h2,h3,DsR.mono e _ _ h4⟩⟩
 |ins C fs=>
  obtain⟨Ca,dx,xs,h1,h2,h3⟩:=h
  exact⟨Ca,dx,xs,h1,he.trans h2,DsR.mono e _ _ h3⟩
theorem ObR.there {a:Addr}{ob:Ob}(h:ObR K ρ H a ob):∃o,H a=some o:=by
 cases ob with
 |lst ds=>obtain⟨xs,h1,_⟩:=h;exact⟨_,h1⟩
 |dct kvs=>rcases h with ⟨ks,xs,h1,_⟩|⟨ks,xs,h1,_⟩<;>exact⟨_,h1⟩
 |fdct kvs=>rcases h with ⟨o,⟨ks,xs,h1,_⟩|⟨ks,xs,h1,_⟩⟩<;>exact⟨_,h1⟩
 |ins C fs=>obtain⟨Ca,dx,xs,_,h1,_⟩:=h;exact⟨_,h1⟩
theorem ObR.tracked {a:Addr}{ob:Ob}(h:ObR K ρ H a ob)(hf:∀kvs,ob≠.fdct kvs):∃o,H a=some o/\(∀xs,o≠.tup xs)/\∀ob u,o≠.frz ob u:=by
 cases ob with
 |lst ds=>
  obtain⟨xs,h1,_⟩:=h
  exact⟨_,h1,λ_ z=>(nomatch z),λ_ _ z=>(nomatch z)⟩
 |dct kvs=>
  rcases h with ⟨ks,xs,h1,_⟩|⟨ks,xs,h1,_⟩
  ·exact⟨_,h1,λ_ z=>(nomatch z),λ_ _ z=>(nomatch z)⟩
  ·exact⟨_,h1,λ_ z=>(nomatch z),λ_ _ z=>(nomatch z)⟩
 |fdct kvs=>exact absurd rfl (hf kvs)
 |ins C fs=>
  obtain⟨Ca,dx,xs,_,h1,_⟩:=h
  exact⟨_,h1,λ_ z=>(nomatch z),λ_ _ z=>(nomatch z)⟩
theorem StR.obj (R:StR K ρ H S){n:Nat}{a:Addr}(h:ρ[n]? = some a):∃ob,S[n]? = some ob/\ObR K ρ H a ob:=by
 have hl:n<S.length:=by rw [<-R.len];exact (Wi.mp h).1
 obtain⟨a',h1,h2⟩:=R.ob n S[n] (Wi.mpr ⟨hl,rfl⟩)
 rw [h] at h1;cases h1
 exact⟨S[n],Wi.mpr ⟨hl,rfl⟩,h2⟩
theorem StR.mono (R:StR K ρ H S)(e:Ext0 ρ H ρ H')(he:∀(n:Nat) a,ρ[n]? = some a->H' a=H a):StR K ρ H' S:=
 ⟨R.len,R.inj,λn ob h=>by
  obtain⟨a,h1,h2⟩:=R.ob n ob h
  exact⟨a,h1,h2.mono e (he n a h1)⟩⟩
theorem StR.fresh (R:StR K ρ H S){p:Addr}(hp:H p=none):∀(n:Nat) a,ρ[n]? = some a->a≠p:=λn a h z=>by
 obtain⟨ob,_,h2⟩:=R.obj h
 obtain⟨o,h3⟩:=h2.there
 rw [z,hp] at h3;cases h3
theorem StR.new (R:StR K ρ H S){p:Addr}{o:HO}(hp:H p=none):StR K ρ (upd H p o) S:=
 R.mono (Ext.new hp).weak λn a h=>Ze (R.fresh hp n a h)
theorem StR.push (R:StR K ρ H S){p:Addr}{o:HO}{ob:Ob}(hp:H p=none)(h:ObR K (ρ++[p]) (upd H p o) p ob):StR K (ρ++[p]) (upd H p o) (S++[ob]):=by
 refine⟨by simp [R.len],λi j a h1 h2=>?_,λn ob' e=>?_⟩
 ·have key:∀(i:Nat),(ρ++[p])[i]? = some a->(i<ρ.length/\ρ[i]? = some a)\/(i=ρ.length/\a=p):=λi e=>by
   by_cases hi:i<ρ.length
   ·rw [WU hi] at e;exact .inl ⟨hi,e⟩
   ·rw [WX (W0g hi)] at e
    have hl:=(Wi.mp e).1
    simp at hl
    have e0:i-ρ.length=0:=by omega
    rw [e0] at e;simp at e
    exact .inr ⟨by omega,e.symm⟩
  rcases key i h1 with ⟨_,q1⟩|⟨q1,r1⟩<;>rcases key j h2 with ⟨_,q2⟩|⟨q2,r2⟩
  ·exact R.inj i j a q1 q2
  ·exact absurd r2 (R.fresh hp i a q1)
  ·exact absurd r1 (R.fresh hp j a q2)
  ·rw [q1,q2]
 ·by_cases hn:n<S.length
  ·rw [WU hn] at e
   obtain⟨a,h1,h2⟩:=R.ob n ob' e
   exact⟨a,by rw [WU (by rw [R.len];exact hn)];exact h1,h2.mono (Ext.newRef hp).weak (Ze (R.fresh hp n a h1))⟩
  ·rw [WX (W0g hn)] at e
   have hl:=(Wi.mp e).1
   simp at hl
   have e0:n-S.length=0:=by omega
   rw [e0] at e;simp at e
   subst e;refine⟨p,?_,h⟩
   rw [WX (by rw [R.len];omega),R.len,e0]
   rfl
theorem StR.set0 (R:StR K ρ H S){n:Nat}{p:Addr}{o:HO}{ob:Ob}(hn:ρ[n]? = some p)(X:Ext0 ρ H ρ (upd H p o))(h:ObR K ρ (upd H p o) p ob):StR K ρ (upd H p o) (S.set n ob):=by
 obtain⟨ob0,e0,r0⟩:=R.obj hn
 refine⟨by simpa using R.len,R.inj,λm ob' e=>?_⟩
 by_cases hm:m=n
 ·subst hm
  rw [WQ (Wi.mp e0).1] at e;cases e;exact⟨p,hn,h⟩
 ·rw [WL (Ne.symm hm)] at e
  obtain⟨a,h1,h2⟩:=R.ob m ob' e
  refine⟨a,h1,h2.mono X (Ze ?_)⟩
  rintro rfl
  exact hm (R.inj m n _ h1 hn)
theorem StR.set (R:StR K ρ H S){n:Nat}{p:Addr}{o:HO}{ob:Ob}(hn:ρ[n]? = some p)(hf:∀kvs,S[n]?≠some (.fdct kvs))(h:ObR K ρ (upd H p o) p ob):StR K ρ (upd H p o) (S.set n ob)/\Ext ρ H ρ (upd H p o):=by
 obtain⟨ob0,e0,r0⟩:=R.obj hn
 obtain⟨o0,t1,t2,t3⟩:=r0.tracked λkvs z=>hf kvs (by rw [e0,z])
 have X:Ext ρ H ρ (upd H p o):=Ext.upd t1 t2 t3
 exact⟨R.set0 hn X.weak h,X⟩
theorem StR.thaw (R:StR K ρ H S){n:Nat}{a:Addr}{kvs:List (D×D)}(hn:ρ[n]? = some a)(e:S[n]? = some (.fdct kvs)):∃(o:Obj) (u:HO),H a=some (.frz o u)/\StR K ρ (upd H a u) (S.set n (.dct kvs))/\Ext0 ρ H ρ (upd H a u):=by
 obtain⟨ob,e1,r⟩:=R.obj hn
 rw [e] at e1;cases e1;have XX:∀{o:Obj} {u:HO},H a=some (.frz o u)->(∀xs,u≠.lst xs)->Ext0 ρ H ρ (upd H a u):=λh1 hu=>⟨λ_ _ h=>h,λb ys hb=>by rw [Ze (JD hb h1 (λz=>nomatch z))];exact hb,λb o' ys hb=>by rw [Ze (JD hb h1 (λz=>by injection z with _ z2;exact hu _ z2.symm))];exact hb⟩
 rcases r with ⟨o,⟨ks,xs,h1,h2,h3,h4⟩|⟨ks,xs,h1,h2,h3,h4⟩⟩
 ·have X:=XX h1 (λ_ z=>nomatch z)
  exact⟨o,_,h1,R.set0 hn X (.inl ⟨ks,xs,Z6,h2,h3,DsR.mono X _ _ h4⟩),X⟩
 ·have X:=XX h1 (λ_ z=>nomatch z)
  exact⟨o,_,h1,R.set0 hn X (.inr ⟨ks,xs,Z6,h2,h3,DsR.mono X _ _ h4⟩),X⟩
theorem EnR.up0 (E:EnR K ρ H en σ)(e:Ext0 ρ H ρ' H'):EnR K ρ' H' en σ:=⟨E.len,λi d h=>by
 obtain⟨x,h1,h2⟩:=E.get i d h
 exact⟨x,h1,DR.mono e _ _ h2⟩⟩
theorem EnR.up (E:EnR K ρ H en σ)(e:Ext ρ H ρ' H'):EnR K ρ' H' en σ:=⟨E.len,λi d h=>by
 obtain⟨x,h1,h2⟩:=E.get i d h
 exact⟨x,h1,h2.up e⟩⟩
theorem EnR.set (E:EnR K ρ H en σ){i:Nat}{d:D}{x:V}(h:DR K ρ H d x):EnR K ρ H (en.set i (some d)) (σ.set i (some x)):=⟨by simpa using E.len,λj c e=>by
 by_cases hj:j=i
 ·subst hj
  have hl:j<en.length:=by
   have:=(Wi.mp e).1
   simpa using this
  rw [WQ hl] at e;cases e;exact⟨x,by rw [WQ (by rw [<-E.len];exact hl)],h⟩
 ·rw [WL (Ne.symm hj)] at e
  obtain⟨y,h1,h2⟩:=E.get j c e
  exact⟨y,by rw [WL (Ne.symm hj)];exact h1,h2⟩⟩
end
inductive TM (K:W3) (m:M D) (σ:L2.St) (H:Hp) (Q:VK):Prop
 |mk (ρ:List Addr) (en:En) (S:Sto) (v:D) (S':Sto) (E:EnR K ρ H en σ) (R:StR K ρ H S) (e:m en S=some (v,S')) (k:∀x ρ' H',Ext ρ H ρ' H'->StR K ρ' H' S'->DR K ρ' H' v x->Q x H'):TM K m σ H Q
def tM (K:W3)(m:M D):TE:=λσ H Q=>TM K m σ H Q
def tMT (K:W3)(m:M Bool):TT:=λσ H Q=>∃ρ en S b S',EnR K ρ H en σ/\StR K ρ H S/\m en S=some (b,S')/\∀ρ' H',Ext ρ H ρ' H'->StR K ρ' H' S'->Q b H'
inductive TMA (K:W3) (m:M (List D)) (σ:L2.St) (H:Hp) (Q:List V->Hp->Prop):Prop
 |mk (ρ:List Addr) (en:En) (S:Sto) (ds:List D) (S':Sto) (E:EnR K ρ H en σ) (R:StR K ρ H S) (e:m en S=some (ds,S')) (k:∀xs ρ' H',Ext ρ H ρ' H'->StR K ρ' H' S'->DsR K ρ' H' ds xs->Q xs H'):TMA K m σ H Q
def tMA (K:W3)(m:M (List D)):TA:=λσ H Q=>TMA K m σ H Q
def tMQ (K:W3)(m:M (List D)):TE:=λσ H Q=>∃ρ en S ds S',EnR K ρ H en σ/\StR K ρ H S/\m en S=some (ds,S')/\
 ∀a xs ρ' H',Ext ρ H ρ' H'->StR K ρ' H' S'->(SqL K H' a xs\/SqT K H' a xs)->DsR K ρ' H' ds xs->Q (.ref a) H'
def tMS (K:W3)(m:MS):TS:=λD σ H=>∃ρ en S f en' S',EnR K ρ H en σ/\StR K ρ H S/\m en S=some (f,en',S')/\∀ρ' H' σ',Ext ρ H ρ' H'->StR K ρ' H' S'->EnR K ρ' H' en' σ'->
 match f with
 | .nx=>D.nx σ' H'
 | .rt d=>∀x,DR K ρ' H' d x->D.rt x H'
 | .bk=>D.bk σ' H'
 | .ct=>D.ct σ' H'
def rD (K:W3)(g:D->D->Sto->Option (D×Sto)):R2:=λx y H Q=>∃ρ S d1 d2 v S',StR K ρ H S/\DR K ρ H d1 x/\DR K ρ H d2 y/\g d1 d2 S=some (v,S')/\
 ∀z ρ' H',Ext ρ H ρ' H'->StR K ρ' H' S'->DR K ρ' H' v z->Q z H'
def rDs (K:W3)(g:List D->Sto->Option (D×Sto)):List V->Hp->VK->Prop:=λxs H Q=>∃ρ S ds v S',StR K ρ H S/\DsR K ρ H ds xs/\g ds S=some (v,S')/\
 ∀z ρ' H',Ext ρ H ρ' H'->StR K ρ' H' S'->DR K ρ' H' v z->Q z H'
def SE (X:Cx)(e:Expr)(m:M D):Prop:=PE X e (tM X.K m)
def ST (X:Cx)(e:Expr)(m:M Bool):Prop:=PT X e (tMT X.K m)
def SW (X:Cx)(e:Expr)(m:M Bool):Prop:=PW X e (tMT X.K m)
def SA (X:Cx)(es:List Expr)(m:M (List D)):Prop:=PA X es (tMA X.K m)
def SQ (X:Cx)(e:Expr)(m:M (List D)):Prop:=PE X e (tMQ X.K m)
def SS (X:Cx)(st:Stmt)(m:MS):Prop:=PS X st (tMS X.K m)
def SB (X:Cx)(st:List Stmt)(m:MS):Prop:=PSs X st (tMS X.K m)
def OpD (X:Cx)(f:Value->Value->Sem Value)(g:D->D->Sto->Option (D×Sto)):Prop:=OpR X f (rD X.K g)
section
variable {X:Cx} {e a b c:Expr} {es:List Expr} {pos:Pos}
theorem ZH {t t':TE}(h:PE X e t)(i:∀σ H Q,t' σ H Q->t σ H Q):PE X e t':=λpins s σ H Q I q=>h pins s σ H Q I (i σ H Q q)
theorem KN {t t':TT}(h:PT X e t)(i:∀σ H Q,t' σ H Q->t σ H Q):PT X e t':=λpins s σ H Q I q=>h pins s σ H Q I (i σ H Q q)
theorem Hq {t t':TT}(h:PW X e t)(i:∀σ H Q,t' σ H Q->t σ H Q):PW X e t':=λwhole pins s σ H Q I q=>h whole pins s σ H Q I (i σ H Q q)
theorem Fc {t t':TA}(h:PA X es t)(i:∀σ H Q,t' σ H Q->t σ H Q):PA X es t':=λp pins s σ H Q I q=>h p pins s σ H Q I (i σ H Q q)
theorem Jo {st:Stmt}{t t':TS}(h:PS X st t)(i:∀D σ H,t' D σ H->t D σ H):PS X st t':=λpins s σ H D I q=>h pins s σ H D I (i D σ H q)
theorem KO {st:List Stmt}{t t':TS}(h:PSs X st t)(i:∀D σ H,t' D σ H->t D σ H):PSs X st t':=λpins s σ H D I q=>h pins s σ H D I (i D σ H q)
theorem Ux {f:Value->Value->Sem Value}{r r':R2}(h:OpR X f r)(i:∀x y H Q,r' x y H Q->r x y H Q):OpR X f r':=λpins s σ H x y v u Q I rx ry q=>h pins s σ H x y v u Q I rx ry (i x y H Q q)
def Z4 (i:Nat):M D:=λen S=>(en[i]?.getD none).map λd=>(d,S)
def Zn (d:D):M D:=λ_ S=>some (d,S)
theorem Hi {x:Str}(i:Nat)(h:PE X (.Name x pos) (OV i)):SE X (.Name x pos) (Z4 i):=by
 refine ZH h ?_
 rintro σ H Q ⟨ρ,en,S,v,S',E,R,e,k⟩
 have e':en[i]? = some (some v)/\S=S':=by
  unfold Z4 at e;cases q:en[i]? with
  |none=>rw [q] at e;cases e
  |some o=>
   rw [q] at e;cases o with
   |none=>cases e
   |some d=>cases e;exact⟨rfl,rfl⟩
 obtain⟨x,h1,h2⟩:=E.get i v e'.1
 exact⟨x,h1,k x ρ H Ext.refl (e'.2 ▸ R) h2⟩
theorem GN {d:D}{v:V}(h:PE X e (tC v))(hd:∀ρ H,DR X.K ρ H d v):SE X e (Zn d):=by
 refine ZH h ?_
 rintro σ H Q ⟨ρ,en,S,v',S',E,R,e,k⟩
 cases e;exact k v ρ H Ext.refl R (hd ρ H)
theorem Z8 {i j}:SE X (.Constant (.int i) j pos) (Zn (.int i)):=GN Fa λ_ _=>.flat_int
theorem GO {i j}:SE X (.Constant (.bool i) j pos) (Zn (.bl i)):=GN O3 λ_ _=>.flat_bl
theorem QN {i j}:SE X (.Constant (.str i) j pos) (Zn (.str i)):=GN HD λ_ _=>.flat_str
theorem GM {j}:SE X (.Constant .none j pos) (Zn .non):=GN HF λ_ _=>.flat_non
theorem KC {x:Str}{i:Int}(hg:Gl X x)(hm:∃t,X.mg x=some (.int i t))(hd:(x == ("__debug__" : Str))=false:=by decide):SE X (.Name x pos) (Zn (.int i)):=by
 obtain⟨t,hm⟩:=hm
 exact GN (Ev (v:=V.int i) hg hm ⟨t,rfl⟩ hd) λ_ _=>.flat_int
def mOp (g:D->D->Sto->Option (D×Sto))(a b:M D):M D:=λen S=>(a en S).bind λp=>(b en p.2).bind λq=>g p.1 q.1 q.2
theorem G0 {K:W3}{g:D->D->Sto->Option (D×Sto)}{ma mb:M D}{σ:L2.St}{H:Hp}{Q:VK}(h:tM K (mOp g ma mb) σ H Q):tOp (rD K g) (tM K ma) (tM K mb) σ H Q:=by
 obtain⟨ρ,en,S,v,S',E,R,e,k⟩:=h
 unfold mOp at e;obtain⟨p,e1,e⟩:=W1.mp e
 obtain⟨q,e2,e3⟩:=W1.mp e
 refine⟨ρ,en,S,p.1,p.2,E,R,e1,λx ρ1 H1 X1 R1 d1=>⟨ρ1,en,p.2,q.1,q.2,E.up X1,R1,e2,λy ρ2 H2 X2 R2 d2=>⟨ρ2,q.2,p.1,q.1,v,S',R2,d1.up X2,d2,e3,λz ρ3 H3 X3 R3 d3=>?_⟩⟩⟩
 exact k z ρ3 H3 ((X1.trans X2).trans X3) R3 d3
theorem Qc {op:Operator}{g:D->D->Sto->Option (D×Sto)}{ma mb:M D}(ho:OpD X (binaryOp op) g)(ha:SE X a ma)(hb:SE X b mb):SE X (.BinOp a op b pos) (mOp g ma mb):=ZH (O0 ho ha hb) λ_ _ _=>G0
theorem U0 {op:CmpOp}{g:D->D->Sto->Option (D×Sto)}{ma mb:M D}(ho:OpD X (compareOp op) g)(ha:SE X a ma)(hb:SE X b mb)(hm:behindInMarks op b=false):SE X (.Compare a [op] [b] pos) (mOp g ma mb):=
 ZH (Ew ho ha hb hm) λ_ _ _=>G0
def mT (m:M D):M Bool:=λen S=>(m en S).bind λp=>match p.1 with | .bl b=>some (b,p.2)|_=>none
theorem EM {m:M D}{en:En}{S S':Sto}{b:Bool}(h:mT m en S=some (b,S')):m en S=some (.bl b,S'):=by
 unfold mT at h;obtain⟨p,e1,e2⟩:=W1.mp h
 obtain⟨d,S1⟩:=p
 cases d<;>first|cases e2;exact e1|cases e2
theorem Kt {K:W3}{m:M D}{t:TE}(i:∀σ H Q,tM K m σ H Q->t σ H Q){σ:L2.St}{H:Hp}{Q:Bool->Hp->Prop}(h:tMT K (mT m) σ H Q):CZ t σ H Q:=by
 obtain⟨ρ,en,S,b,S',E,R,e,k⟩:=h
 refine i σ H _ ⟨ρ,en,S,.bl b,S',E,R,EM e,λx ρ' H' X1 R1 d1=>⟨b,d1.of_bl,k ρ' H' X1 R1⟩⟩
theorem QL {op:CmpOp}{g:D->D->Sto->Option (D×Sto)}{ma mb:M D}(ho:OpD X (compareOp op) g)(ha:SE X a ma)(hb:SE X b mb)(hm:behindInMarks op b=false):ST X (.Compare a [op] [b] pos) (mT (mOp g ma mb)):=
 KN (Eh ho ha hb hm) λ_ _ _ h=>Kt (λ_ _ _=>G0) h
def UC (g g':D->D->Sto->Option (D×Sto))(a b c:M D):M D:=λen S=>(a en S).bind λp=>(b en p.2).bind λq=>(g p.1 q.1 q.2).bind λr=>match r.1 with
 | .bl true=>(c en r.2).bind λw=>g' q.1 w.1 w.2
 | .bl false=>some (.bl false,r.2)
 |_=>none
theorem K8 {K:W3}{g g':D->D->Sto->Option (D×Sto)}{ma mb mc:M D}{σ:L2.St}{H:Hp}{Q:VK}(h:tM K (UC g g' ma mb mc) σ H Q):F2 (rD K g) (rD K g') (tM K ma) (tM K mb) (tM K mc) σ H Q:=by
 obtain⟨ρ,en,S,v,S',E,R,e,k⟩:=h
 unfold UC at e;obtain⟨p,e1,e⟩:=W1.mp e
 obtain⟨q,e2,e⟩:=W1.mp e
 obtain⟨r,e3,e⟩:=W1.mp e
 refine⟨ρ,en,S,p.1,p.2,E,R,e1,λx ρ1 H1 X1 R1 d1=>⟨ρ1,en,p.2,q.1,q.2,E.up X1,R1,e2,λy ρ2 H2 X2 R2 d2=>⟨ρ2,q.2,p.1,q.1,r.1,r.2,R2,d1.up X2,d2,e3,λz ρ3 H3 X3 R3 d3=>?_⟩⟩⟩
 obtain⟨rd,rS⟩:=r
 dsimp only at e d3 R3;cases rd with
 |bl tb=>
  refine⟨tb,d3.of_bl,?_⟩
  cases tb with
  |true=>
   rw [if_pos rfl];dsimp only at e;obtain⟨w,e4,e5⟩:=W1.mp e
   refine⟨ρ3,en,rS,w.1,w.2,((E.up X1).up X2).up X3,R3,e4,λu ρ4 H4 X4 R4 d4=>⟨ρ4,w.2,q.1,w.1,v,S',R4,(d2.up X3).up X4,d4,e5,λt ρ5 H5 X5 R5 d5=>?_⟩⟩
   exact k t ρ5 H5 ((((X1.trans X2).trans X3).trans X4).trans X5) R5 d5
  |false=>
   rw [if_neg WI];dsimp only at e;cases e;exact k _ ρ3 H3 ((X1.trans X2).trans X3) R3 .flat_bl
 |_=>cases e
theorem NP {op op':CmpOp}{g g':D->D->Sto->Option (D×Sto)}{ma mb mc:M D}(ho:OpD X (compareOp op) g)(ho':OpD X (compareOp op') g')(ha:SE X a ma)(hb:SE X b mb)(hc:SE X c mc)
  (hm:lastMarks [op,op'] [b,c]=false:=by with_unfolding_all rfl):SE X (.Compare a [op,op'] [b,c] pos) (UC g g' ma mb mc):=ZH (Li ho ho' ha hb hc hm) λ_ _ _=>K8
def mOr (a b:M Bool):M Bool:=λen S=>(a en S).bind λp=>if p.1 then some (true,p.2) else b en p.2
def Gt (a:M Bool):M Bool:=λen S=>(a en S).map λp=>(!p.1,p.2)
theorem EA {K:W3}{ma mb:M Bool}{σ:L2.St}{H:Hp}{Q:Bool->Hp->Prop}(h:tMT K (mOr ma mb) σ H Q):tOr (tMT K ma) (tMT K mb) σ H Q:=by
 obtain⟨ρ,en,S,v,S',E,R,e,k⟩:=h
 unfold mOr at e;obtain⟨p,e1,e⟩:=W1.mp e
 refine⟨ρ,en,S,p.1,p.2,E,R,e1,λρ1 H1 X1 R1=>?_⟩
 by_cases hp:p.1=true
 ·rw [if_pos hp] at e ⊢
  cases e;exact k ρ1 H1 X1 R1
 ·rw [if_neg hp] at e ⊢
  exact⟨ρ1,en,p.2,v,S',E.up X1,R1,e,λρ2 H2 X2 R2=>k ρ2 H2 (X1.trans X2) R2⟩
theorem NI {ma:M Bool}(ha:ST X a ma):SW X (.BoolOp .Or [a] pos) ma:=Ho ha
theorem PN {JL:List Expr}{ma mb:M Bool}(ha:ST X a ma)(hb:SW X (.BoolOp .Or (b :: JL) pos) mb):SW X (.BoolOp .Or (a :: b :: JL) pos) (mOr ma mb):=Hq (DX ha hb) λ_ _ _=>EA
theorem Dh {m:M Bool}(h:SW X e m):ST X e m:=PW.pt h
theorem Qu {ma:M Bool}(ha:ST X a ma):ST X (.UnaryOp .Not a pos) (Gt ma):=by
 refine KN (Hs ha) ?_
 rintro σ H Q ⟨ρ,en,S,v,S',E,R,e,k⟩
 unfold Gt at e;obtain⟨p,e1,e2⟩:=Wh.mp e
 cases e2;exact⟨ρ,en,S,p.1,p.2,E,R,e1,λρ1 H1 X1 R1=>k ρ1 H1 X1 R1⟩
def PL:D->Sto->Option Bool
 | .non,_=>some false
 | .bl b,_=>some b
 | .int i,_=>some (i != 0)
 | .str x,_=>if x.length<=Wc then some ((x.length:Int) != 0) else none
 | .tup ds,_=>some (!ds.isEmpty)
 | .ref n,S=>match S[n]? with
  |some (.lst ds)=>some (!ds.isEmpty)
  |some (.dct kvs)=>some (!kvs.isEmpty)
  |some (.fdct kvs)=>some (!kvs.isEmpty)
  |_=>none
 | .scr ns,_=>some (!ns.isEmpty)
theorem Kr {K:W3}{ρ:List Addr}{H:Hp}{S:Sto}{d:D}{x:V}{b:Bool}(R:StR K ρ H S)(h:DR K ρ H d x)(e:PL d S=some b):LW K x H b:=by
 cases d with
 |non=>rw [h.of_non];cases e;exact .inl rfl
 |bl t=>rw [h.of_bl];cases e;exact .inl rfl
 |int i=>rw [h.of_int];cases e;exact .inl rfl
 |str y=>
  rw [h.of_str];dsimp only [PL] at e;split at e
  ·cases e;exact .inl ⟨by assumption,rfl⟩
  ·cases e
 |tup ds=>
  obtain⟨a,xs,rfl,h1,h2⟩:=h.of_tup
  cases e;refine .inl (.inr (.inl ⟨xs,.of h1,?_⟩))
  cases ds<;>cases xs<;>first|rfl|(have:=h2.length;simp at this)
 |ref n=>
  obtain⟨a,h1,rfl⟩:=h.of_ref
  obtain⟨ob,e1,r⟩:=R.obj h1
  dsimp only [PL] at e;rw [e1] at e;cases ob with
  |lst ds=>
   cases e;obtain⟨xs,h2,h3⟩:=r
   refine .inl (.inl ⟨xs,.of h2,?_⟩)
   cases ds<;>cases xs<;>first|rfl|(have:=h3.length;simp at this)
  |dct kvs=>
   cases e;rcases r with ⟨ks,xs,h2,h3,h4,h5⟩|⟨ks,xs,h2,h3,h4,h5⟩
   ·refine .inl (.inr (.inr ⟨_,h2,?_⟩))
    have l1:=congrArg V4 h4
    rw [Wl,Wl] at l1;cases kvs<;>cases ks<;>cases xs<;>simp_all
   ·refine .inr (.inl ⟨a,_,rfl,.inl h2,?_⟩)
    have l1:=congrArg V4 h4
    rw [Wl,Wl] at l1;cases kvs<;>cases ks<;>cases xs<;>simp_all
  |fdct kvs=>
   cases e;rcases r with ⟨o,⟨ks,xs,h2,h3,h4,h5⟩|⟨ks,xs,h2,h3,h4,h5⟩⟩
   ·refine .inr (.inr ⟨a,_,rfl,.inr ⟨o,h2⟩,?_⟩)
    have l1:=congrArg V4 h4
    rw [Wl,Wl] at l1;cases kvs<;>cases ks<;>cases xs<;>simp_all
   ·refine .inr (.inl ⟨a,_,rfl,.inr ⟨o,h2⟩,?_⟩)
    have l1:=congrArg V4 h4
    rw [Wl,Wl] at l1;cases kvs<;>cases ks<;>cases xs<;>simp_all
  |ins C fs=>cases e
 |scr ns=>
  obtain⟨a,rfl,h1⟩:=h.of_scr
  cases e;refine .inl (.inl ⟨_,h1.seq,?_⟩)
  cases ns<;>rfl
theorem Ey {JL:List Expr}{ta tb:TE}(ha:PE X a ta)(hb:PE X (.BoolOp .And (b :: JL) pos) tb):PE X (.BoolOp .And (a :: b :: JL) pos) (λσ H Q=>ta σ H λx H1=>∃k,LW X.K x H1 k/\if k=true then tb σ H1 Q else Q x H1):=by
 intro pins s σ H Q I h;refine BoolOp_and (thn (ha pins s σ H _ I h) λv s1 ⟨x,H1,I1,r1,k,t1,q1⟩=>thn (Kq pins s1 σ H1 x v (λc H2=>H2=H1/\c=k) I1 r1 ⟨k,t1,rfl,rfl⟩) λc s2 ⟨H2,I2,e1,e2⟩=>?_)
 subst e1 e2;cases c with
 |true=>exact hb pins s2 σ H2 Q I2 q1
 |false=>exact⟨x,H2,I2,r1,q1⟩
def Kf (a b:M D):M D:=λen S=>(a en S).bind λp=>(PL p.1 p.2).bind λt=>if t then b en p.2 else some (p.1,p.2)
theorem GL {op}{m:M D}(h:SE X a m):SE X (.BoolOp op [a] pos) m:=HE h
theorem U1 {JL:List Expr}{ma mb:M D}(ha:SE X a ma)(hb:SE X (.BoolOp .And (b :: JL) pos) mb):SE X (.BoolOp .And (a :: b :: JL) pos) (Kf ma mb):=by
 refine ZH (Ey ha hb) ?_
 rintro σ H Q ⟨ρ,en,S,v,S',E,R,e,k⟩
 unfold Kf at e;obtain⟨p,e1,e⟩:=W1.mp e
 obtain⟨t,e2,e⟩:=W1.mp e
 refine⟨ρ,en,S,p.1,p.2,E,R,e1,λx ρ1 H1 X1 R1 d1=>⟨t,Kr R1 d1 e2,?_⟩⟩
 cases t with
 |true=>
  rw [if_pos rfl] at e ⊢
  exact⟨ρ1,en,p.2,v,S',E.up X1,R1,e,λy ρ2 H2 X2 R2 d2=>k y ρ2 H2 (X1.trans X2) R2 d2⟩
 |false=>
  rw [if_neg WI] at e ⊢
  cases e;exact k _ ρ1 H1 X1 R1 d1
def Uc (m:M D):M Bool:=λen S=>(m en S).bind λp=>(PL p.1 p.2).map λb=>(b,p.2)
theorem ZG {m:M D}(h:SE X a m)(he:∀whole,isTrue a X.env whole=(do let v <-whole;standAt a.pos;holding [v] (truthy v)):=by intro _;rfl):ST X a (Uc m):=by
 refine KN (KM h he) ?_
 rintro σ H Q ⟨ρ,en,S,v,S',E,R,e,k⟩
 unfold Uc at e;obtain⟨p,e1,e⟩:=W1.mp e
 obtain⟨b,e2,e3⟩:=Wh.mp e
 cases e3;exact⟨ρ,en,S,p.1,p.2,E,R,e1,λx ρ1 H1 X1 R1 d1=>⟨v,Kr R1 d1 e2,k ρ1 H1 X1 R1⟩⟩
def Zo:M (List D):=λ_ S=>some ([],S)
def Z2 (a:M D)(r:M (List D)):M (List D):=λen S=>(a en S).bind λp=>(r en p.2).map λq=>(p.1 :: q.1,q.2)
theorem Z5:SA X [] Zo:=by
 refine Fc YI ?_
 rintro σ H Q ⟨ρ,en,S,ds,S',E,R,e,k⟩
 cases e;exact k [] ρ H Ext.refl R .nil
theorem Z0 {ma:M D}{mr:M (List D)}(ha:SE X a ma)(hr:SA X es mr)(hs:Ws (a :: es) X.env=(false,eval a X.env) :: Ws es X.env:=by rfl):SA X (a :: es) (Z2 ma mr):=by
 refine Fc (ZS ha hr hs) ?_
 rintro σ H Q ⟨ρ,en,S,ds,S',E,R,e,k⟩
 unfold Z2 at e;obtain⟨p,e1,e⟩:=W1.mp e
 obtain⟨q,e2,e3⟩:=Wh.mp e
 cases e3;refine⟨ρ,en,S,p.1,p.2,E,R,e1,λx ρ1 H1 X1 R1 d1=>⟨ρ1,en,p.2,q.1,q.2,E.up X1,R1,e2,λxs ρ2 H2 X2 R2 d2=>?_⟩⟩
 exact k (x :: xs) ρ2 H2 (X1.trans X2) R2 (.cons (d1.up X2) d2)
def YG (m:M (List D)):M D:=λen S=>(m en S).bind λp=>if p.1.length<=Wc then some (.tup p.1,p.2) else none
def CD (m:M (List D)):M D:=λen S=>(m en S).bind λp=>if p.1.length<=Wc then some (.ref p.2.length,p.2++[.lst p.1]) else none
theorem ZN {k0}{m:M (List D)}(h:SA X es m):SE X (.Tuple es k0 pos) (YG m):=by
 refine ZH (F9 h) ?_
 rintro σ H Q ⟨ρ,en,S,v,S',E,R,e,k⟩
 unfold YG at e;obtain⟨p,e1,e⟩:=W1.mp e
 split at e
 ·cases e
  refine⟨ρ,en,S,p.1,p.2,E,R,e1,λxs ρ1 H1 X1 R1 d1=>⟨by rw [<-d1.length];assumption,λa ha=>?_⟩⟩
  exact k _ ρ1 _ (X1.trans (Ext.new ha)) (R1.new ha) (.tup Z6 (d1.up (Ext.new ha)))
 ·cases e
theorem Hj {m:M (List D)}(h:SA X es m):SE X (.List es pos) (CD m):=by
 refine ZH (HG h) ?_
 rintro σ H Q ⟨ρ,en,S,v,S',E,R,e,k⟩
 unfold CD at e;obtain⟨p,e1,e⟩:=W1.mp e
 split at e
 ·cases e
  refine⟨ρ,en,S,p.1,p.2,E,R,e1,λxs ρ1 H1 X1 R1 d1=>⟨by rw [<-d1.length];assumption,λa ha=>?_⟩⟩
  refine k _ (ρ1++[a]) _ (X1.trans (Ext.newRef ha)) (R1.push ha ⟨xs,Z6,d1.up (Ext.newRef ha)⟩) (.ref ?_)
  rw [<-R1.len];simp
 ·cases e
end
end DL
namespace DL
open PySem PySem.Spec PyProof.Rows L2
section
variable {K:W3} {ρ:List Addr} {H:Hp}
theorem Bb {d:D}{k:Key}{x:V}(e:Qy d=some k)(h:DR K ρ H d x):x=kV k:=by
 cases d with
 |int i=>cases e;exact h.of_int
 |str z=>cases e;exact h.of_str
 |_=>cases e
theorem Rt:∀{ds:List D} {ks:List Key} {xs:List V},MX ds=some ks->DsR K ρ H ds xs->xs=ks.map kV
 |[],_,xs,e,h=>by
  cases e;unfold DsR at h;exact h
 |d :: ds,ks,xs,e,h=>by
  obtain⟨k,e1,e⟩:=W1.mp e
  obtain⟨ks',e2,e3⟩:=Wh.mp e
  subst e3;unfold DsR at h;obtain⟨x,r,rfl,h1,h2⟩:=h
  rw [W0,Bb e1 h1,Rt e2 h2]
theorem Nl {d:D}{ks:List Key}{x:V}(e:YN d=some ks)(h:DR K ρ H d x):∃b,x = .ref b/\H b=some (.tup (ks.map kV)):=by
 cases d with
 |tup ds=>
  obtain⟨a,xs,rfl,h1,h2⟩:=h.of_tup
  rw [Rt e h2] at h1;exact⟨a,rfl,h1⟩
 |_=>cases e
theorem Qx {d:D}{k:Key}(e:Qy d=some k):YN d=none:=by
 cases d<;>first|rfl|cases e
theorem OF {a b:D}{x y:Key}(ea:Qy a=some x)(eb:Qy b=some y):kEq a b=decide (x=y):=by
 unfold kEq;rw [ea,eb]
theorem SR {a b:D}{x y:List Key}(ea:YN a=some x)(eb:YN b=some y):kEq a b=decide (x=y):=by
 have na:Qy a=none:=by
  cases h:Qy a with
  |none=>rfl
  |some k=>rw [Qx h] at ea;cases ea
 unfold kEq;rw [na,ea,eb]
theorem Ur {κ:Type}[DecidableEq κ](f:D->Option κ){k:D}{k':κ}(hk:∀a x,f a=some x->kEq a k=decide (x=k')):∀{kvs:List (D×D)} {ks:List κ} {xs:List V},kvs.map (λp=>f p.1)=ks.map some->DsR K ρ H (kvs.map (·.2)) xs->
  (∀v,Uo kvs k=some v->∃x,Ke (ks.zip xs) k'=some x/\DR K ρ H v x)/\(Uo kvs k=none->Ke (ks.zip xs) k'=none)
 |[],ks,xs,e,h=>by
  cases ks with
  |nil=>exact⟨λv z=>(by cases z),λ_=>rfl⟩
  |cons _ _=>cases e
 |p :: kvs,ks,xs,e,h=>by
  cases ks with
  |nil=>cases e
  |cons k0 ks=>
   rw [W0,W0] at e
   injection e with e1 e2
   rw [W0] at h;unfold DsR at h;obtain⟨x,r,rfl,h1,h2⟩:=h
   have ih:=Ur f hk e2 h2
   have hq:=hk p.1 k0 e1
   rw [Wz];by_cases hc:k0=k'
   ·have hp:kEq p.1 k=true:=by rw [hq];exact decide_eq_true hc
    have hd:Uo (p :: kvs) k=some p.2:=by simp [Uo,Vm,hp]
    rw [hd,Ug (p:=(k0,x)) hc];exact⟨λv z=>by cases z;exact⟨x,rfl,h1⟩,λz=>by cases z⟩
   ·have hp:kEq p.1 k=false:=by rw [hq];exact decide_eq_false hc
    have hd:Uo (p :: kvs) k=Uo kvs k:=by simp [Uo,Vm,hp]
    rw [hd,Uh (p:=(k0,x)) hc];exact ih
theorem Kv {κ:Type}[DecidableEq κ](f:D->Option κ){k:D}{k':κ}(hk:∀a x,f a=some x->kEq a k=decide (x=k')):∀{kvs:List (D×D)} {ks:List κ} {xs:List V},kvs.map (λp=>f p.1)=ks.map some->ks.length=xs.length->
  (kvs.any λp=>kEq p.1 k)=((ks.zip xs).any λkv=>decide (kv.1=k'))
 |[],ks,xs,e,_=>by
  cases ks with
  |nil=>rfl
  |cons _ _=>cases e
 |p :: kvs,ks,xs,e,hl=>by
  cases ks with
  |nil=>cases e
  |cons k0 ks=>
   cases xs with
   |nil=>cases hl
   |cons x xs=>
    rw [W0,W0] at e
    injection e with e1 e2
    rw [Wz,W07,W07,hk p.1 k0 e1,Kv f hk e2 (by simpa using hl)]
theorem NH {κ:Type}[DecidableEq κ](f:D->Option κ){k v:D}{k':κ}{y:V}(hk:∀a x,f a=some x->kEq a k=decide (x=k'))(hv:DR K ρ H v y):∀{kvs:List (D×D)} {ks:List κ} {xs:List V},kvs.map (λp=>f p.1)=ks.map some->ks.length=xs.length->DsR K ρ H (kvs.map (·.2)) xs->
  ∃xs',(ks.zip xs).map (λkv=>if kv.1=k' then (kv.1,y) else kv)=ks.zip xs'/\ks.length=xs'.length/\DsR K ρ H ((kvs.map λp=>if kEq p.1 k=true then (p.1,v) else p).map (·.2)) xs'/\((kvs.map λp=>if kEq p.1 k=true then (p.1,v) else p).map λp=>f p.1)=ks.map some
 |[],ks,xs,e,hl,h=>by
  cases ks with
  |nil=>
   cases xs with
   |nil=>exact⟨[],rfl,rfl,.nil,rfl⟩
   |cons _ _=>cases hl
  |cons _ _=>cases e
 |p :: kvs,ks,xs,e,hl,h=>by
  cases ks with
  |nil=>cases e
  |cons k0 ks=>
   cases xs with
   |nil=>cases hl
   |cons x xs=>
    rw [W0,W0] at e
    injection e with e1 e2
    rw [W0] at h;unfold DsR at h;obtain⟨x0,r,hx,h1,h2⟩:=h
    injection hx with hx1 hx2
    subst hx1 hx2;obtain⟨xs',a1,a2,a3,a4⟩:=NH f hk hv e2 (by simpa using hl) h2
    have hq:=hk p.1 k0 e1
    by_cases hc:k0=k'
    ·have hp:kEq p.1 k=true:=by rw [hq];exact decide_eq_true hc
     refine⟨y :: xs',?_,by simp [a2],?_,?_⟩
     ·rw [Wz,W0,a1,if_pos hc,Wz]
     ·rw [W0,if_pos hp,W0];exact .cons hv a3
     ·rw [W0,if_pos hp,W0,a4,e1,W0]
    ·have hp:¬kEq p.1 k=true:=by rw [hq,decide_eq_false hc];exact WI
     refine⟨x :: xs',?_,by simp [a2],?_,?_⟩
     ·rw [Wz,W0,a1,if_neg hc,Wz]
     ·rw [W0,if_neg hp,W0];exact .cons h1 a3
     ·rw [W0,if_neg hp,W0,a4,e1,W0]
theorem BS {κ:Type}[DecidableEq κ](f:D->Option κ){k v:D}{k':κ}{y:V}(hf:f k=some k')(hk:∀a x,f a=some x->kEq a k=decide (x=k'))(hv:DR K ρ H v y){kvs:List (D×D)}{ks:List κ}{xs:List V}
  (e:kvs.map (λp=>f p.1)=ks.map some) (hl:ks.length=xs.length) (h:DsR K ρ H (kvs.map (·.2)) xs) :
  ∃(ks':List κ) (xs':List V),T6 (ks.zip xs) k' y=ks'.zip xs'/\ks'.length=xs'.length/\(JH kvs k v).map (λp=>f p.1)=ks'.map some/\DsR K ρ H ((JH kvs k v).map (·.2)) xs':=by
 unfold T6 JH;rw [Kv f hk e hl];by_cases ha:((ks.zip xs).any λkv=>decide (kv.1=k'))=true
 ·rw [if_pos ha,if_pos ha]
  obtain⟨xs',a1,a2,a3,a4⟩:=NH f hk hv e hl h
  exact⟨ks,xs',a1,a2,a4,a3⟩
 ·rw [if_neg ha,if_neg ha]
  refine⟨ks++[k'],xs++[y],?_,by simp [hl],?_,?_⟩
  ·rw [List.zip_append hl];rfl
  ·rw [Vv,Vv,e];simp [hf]
  ·rw [Vv];exact h.append (.cons hv .nil)
theorem Dm {k:D}{k':Key}(h:Qy k=some k'):∀a x,Qy a=some x->kEq a k=decide (x=k'):=λ_ _ e=>OF e h
theorem OJ {k:D}{k':List Key}(h:YN k=some k'):∀a x,YN a=some x->kEq a k=decide (x=k'):=λ_ _ e=>SR e h
theorem J7 {α:Type}{f:D->Option α}{kvs:List (D×D)}{β:Type}{g:D->Option β}{ks:List β}(e:kvs.map (λp=>g p.1)=ks.map some)(h:(kvs.all λp=>(f p.1).isSome)=true)(hd:∀d x,g d=some x->f d=none):kvs=[]:=by
 cases kvs with
 |nil=>rfl
 |cons p r=>
  cases ks with
  |nil=>cases e
  |cons k ks=>
   rw [W0,W0] at e
   injection e with e1 _
   rw [V8,hd _ _ e1] at h;simp at h
theorem Jd {d:D}{k:List Key}(e:YN d=some k):Qy d=none:=by
 cases d<;>first|rfl|cases e
theorem LQ {S:Sto}{n:Nat}{a:Addr}{kvs:List (D×D)}{k:D}{y:V}(R:StR K ρ H S)(ha:ρ[n]? = some a)(e:S[n]? = some (.dct kvs))(hs:Yz kvs k=true)(hk:DR K ρ H k y) :
  (∀v,Uo kvs k=some v->∃x,Uf H a y (some x)/\DR K ρ H v x)/\(Uo kvs k=none->Uf H a y none):=by
 obtain⟨ob,e1,r⟩:=R.obj ha
 rw [e] at e1;cases e1;unfold Yz at hs;cases h1:Qy k with
 |some k'=>
  rw [h1] at hs;have ey:=Bb h1 hk
  rcases r with ⟨ks,xs,q1,q2,q3,q4⟩|⟨ks,xs,q1,q2,q3,q4⟩
  ·obtain⟨g1,g2⟩:=Ur Qy (Dm h1) q3 q4
   refine⟨λv hv=>?_,λhv=>?_⟩
   ·obtain⟨x,x1,x2⟩:=g1 v hv
    exact⟨x,.inl (.inl ⟨_,k',.inl q1,ey,x1.symm⟩),x2⟩
   ·exact .inl (.inl ⟨_,k',.inl q1,ey,(g2 hv).symm⟩)
  ·have hn:=J7 q3 hs (λ_ _=>Jd)
   subst hn;cases ks with
   |nil=>exact⟨λv hv=>(by cases hv),λ_=>.inr (.inr ⟨q1,k',ey,rfl⟩)⟩
   |cons _ _=>cases q3
 |none=>
  rw [h1] at hs;cases h2:YN k with
  |none=>rw [h2] at hs;cases hs
  |some k'=>
   rw [h2] at hs;obtain⟨b,ey,eb⟩:=Nl h2 hk
   rcases r with ⟨ks,xs,q1,q2,q3,q4⟩|⟨ks,xs,q1,q2,q3,q4⟩
   ·have hn:=J7 q3 hs (λ_ _=>Qx)
    subst hn;cases ks with
    |nil=>exact⟨λv hv=>(by cases hv),λ_=>.inr (.inl ⟨q1,k',b,ey,eb,rfl⟩)⟩
    |cons _ _=>cases q3
   ·obtain⟨g1,g2⟩:=Ur YN (OJ h2) q3 q4
    refine⟨λv hv=>?_,λhv=>?_⟩
    ·obtain⟨x,x1,x2⟩:=g1 v hv
     exact⟨x,.inl (.inr ⟨_,k',b,.inl q1,ey,eb,x1.symm⟩),x2⟩
    ·exact .inl (.inr ⟨_,k',b,.inl q1,ey,eb,(g2 hv).symm⟩)
theorem Nx {S:Sto}{n:Nat}{a:Addr}{kvs:List (D×D)}{k:D}{y:V}(R:StR K ρ H S)(ha:ρ[n]? = some a)(e:J6 S n k=some kvs)(hk:DR K ρ H k y) :
  (∀v,Uo kvs k=some v->∃x,Uf H a y (some x)/\DR K ρ H v x)/\(Uo kvs k=none->Uf H a y none):=by
 unfold J6 at e;split at e
 ·rename_i kvs' hn
  split at e
  ·rename_i hs
   cases e;exact LQ R ha hn hs hk
  ·cases e
 ·rename_i kvs' hn
  split at e
  ·rename_i hs
   cases e;obtain⟨ob,e1,r⟩:=R.obj ha
   rw [hn] at e1;cases e1;rw [Wr] at hs;obtain⟨hs,he⟩:=hs
   unfold Yz at hs;obtain⟨o,r⟩:=r
   cases h1:Qy k with
   |some k'=>
    rw [h1] at hs;have ey:=Bb h1 hk
    rcases r with ⟨ks,xs,q1,q2,q3,q4⟩|⟨ks,xs,q1,q2,q3,q4⟩
    ·obtain⟨g1,g2⟩:=Ur Qy (Dm h1) q3 q4
     refine⟨λv hv=>?_,λhv=>?_⟩
     ·obtain⟨x,x1,x2⟩:=g1 v hv
      exact⟨x,.inl (.inl ⟨_,k',.inr ⟨o,q1⟩,ey,x1.symm⟩),x2⟩
     ·exact .inl (.inl ⟨_,k',.inr ⟨o,q1⟩,ey,(g2 hv).symm⟩)
    ·rw [J7 q3 hs (λ_ _=>Jd)] at he;cases he
   |none=>
    rw [h1] at hs;cases h2:YN k with
    |none=>rw [h2] at hs;cases hs
    |some k'=>
     rw [h2] at hs;obtain⟨b,ey,eb⟩:=Nl h2 hk
     rcases r with ⟨ks,xs,q1,q2,q3,q4⟩|⟨ks,xs,q1,q2,q3,q4⟩
     ·rw [J7 q3 hs (λ_ _=>Qx)] at he;cases he
     ·obtain⟨g1,g2⟩:=Ur YN (OJ h2) q3 q4
      refine⟨λv hv=>?_,λhv=>?_⟩
      ·obtain⟨x,x1,x2⟩:=g1 v hv
       exact⟨x,.inl (.inr ⟨_,k',b,.inr ⟨o,q1⟩,ey,eb,x1.symm⟩),x2⟩
      ·exact .inl (.inr ⟨_,k',b,.inr ⟨o,q1⟩,ey,eb,(g2 hv).symm⟩)
  ·cases e
 ·cases e
theorem Af {S:Sto}{n:Nat}{a:Addr}(R:StR K ρ H S)(ha:ρ[n]? = some a)(e:K0 S n=true):IsD H a:=by
 unfold K0 at e;obtain⟨ob,e1,r⟩:=R.obj ha
 rw [e1] at e;cases ob with
 |dct kvs=>
  rcases r with ⟨ks,xs,q,_⟩|⟨ks,xs,q,_⟩
  ·exact .inl ⟨_,.inl q⟩
  ·exact .inr ⟨_,.inl q⟩
 |fdct kvs=>
  rcases r with ⟨o,⟨ks,xs,q,_⟩|⟨ks,xs,q,_⟩⟩
  ·exact .inl ⟨_,.inr ⟨o,q⟩⟩
  ·exact .inr ⟨_,.inr ⟨o,q⟩⟩
 |_=>cases e
theorem Cj {S:Sto}{n:Nat}{a:Addr}{kvs:List (D×D)}{k v:D}{y x:V}(R:StR K ρ H S)(ha:ρ[n]? = some a)(e:S[n]? = some (.dct kvs))(hs:Yz kvs k=true)(hl:kvs.length<Wc)(hk:DR K ρ H k y)(hv:DR K ρ H v x) :
  ∃H',Cy H a y x H'/\StR K ρ H' (S.set n (.dct (JH kvs k v)))/\Ext ρ H ρ H':=by
 obtain⟨ob,e1,r⟩:=R.obj ha
 rw [e] at e1;cases e1;unfold Yz at hs;have up:∀{o:HO} {o':HO},H a=some o->(∀xs,o≠.tup xs)->(∀ob u,o≠.frz ob u)->Ext ρ H ρ (upd H a o'):=λh a1 a2=>Ext.upd h a1 a2
 cases h1:Qy k with
 |some k'=>
  rw [h1] at hs;have ey:=Bb h1 hk
  rcases r with ⟨ks,xs,q1,q2,q3,q4⟩|⟨ks,xs,q1,q2,q3,q4⟩
  ·obtain⟨ks',xs',z1,z2,z3,z4⟩:=BS Qy h1 (Dm h1) hv q3 q2 q4
   have len:(ks.zip xs).length<Wc:=by
    have:=congrArg V4 q3
    rw [Wl,Wl] at this;rw [V0];omega
   have E1:Ext ρ H ρ (upd H a (.dK (T6 (ks.zip xs) k' x))):=up q1 (λ_ z=>nomatch z) λ_ _ z=>nomatch z
   obtain⟨R2,E2⟩:=R.set (hf:=λ_ z=>by rw [e] at z;cases z) (o:=.dK (T6 (ks.zip xs) k' x)) (ob:=.dct (JH kvs k v)) ha (.inl ⟨ks',xs',by rw [Z6,z1],z2,z3,z4.up E1⟩)
   exact⟨_,.inl (.inl ⟨_,k',q1,ey,len,rfl⟩),R2,E2⟩
  ·have hn:=J7 q3 hs (λ_ _=>Jd)
   subst hn;have E1:Ext ρ H ρ (upd H a (.dK [(k',x)])):=up q1 (λ_ z=>nomatch z) λ_ _ z=>nomatch z
   cases ks with
   |nil=>
    obtain⟨R2,E2⟩:=R.set (hf:=λ_ z=>by rw [e] at z;cases z) (o:=.dK [(k',x)]) (ob:=.dct (JH [] k v)) ha (.inl ⟨[k'],[x],by rw [Z6];rfl,rfl,by simp [JH,h1],by simp [JH];exact .cons (hv.up E1) .nil⟩)
    exact⟨_,.inr (.inr ⟨q1,k',ey,rfl⟩),R2,E2⟩
   |cons _ _=>cases q3
 |none=>
  rw [h1] at hs;cases h2:YN k with
  |none=>rw [h2] at hs;cases hs
  |some k'=>
   rw [h2] at hs;obtain⟨b,ey,eb⟩:=Nl h2 hk
   rcases r with ⟨ks,xs,q1,q2,q3,q4⟩|⟨ks,xs,q1,q2,q3,q4⟩
   ·have hn:=J7 q3 hs (λ_ _=>Qx)
    subst hn;have E1:Ext ρ H ρ (upd H a (.dT [(k',x)])):=up q1 (λ_ z=>nomatch z) λ_ _ z=>nomatch z
    cases ks with
    |nil=>
     obtain⟨R2,E2⟩:=R.set (hf:=λ_ z=>by rw [e] at z;cases z) (o:=.dT [(k',x)]) (ob:=.dct (JH [] k v)) ha (.inr ⟨[k'],[x],by rw [Z6];rfl,rfl,by simp [JH,h2],by simp [JH];exact .cons (hv.up E1) .nil⟩)
     exact⟨_,.inr (.inl ⟨q1,k',b,ey,eb,rfl⟩),R2,E2⟩
    |cons _ _=>cases q3
   ·obtain⟨ks',xs',z1,z2,z3,z4⟩:=BS YN h2 (OJ h2) hv q3 q2 q4
    have len:(ks.zip xs).length<Wc:=by
     have:=congrArg V4 q3
     rw [Wl,Wl] at this;rw [V0];omega
    have E1:Ext ρ H ρ (upd H a (.dT (T6 (ks.zip xs) k' x))):=up q1 (λ_ z=>nomatch z) λ_ _ z=>nomatch z
    obtain⟨R2,E2⟩:=R.set (hf:=λ_ z=>by rw [e] at z;cases z) (o:=.dT (T6 (ks.zip xs) k' x)) (ob:=.dct (JH kvs k v)) ha (.inr ⟨ks',xs',by rw [Z6,z1],z2,z3,z4.up E1⟩)
    exact⟨_,.inl (.inr ⟨_,k',b,q1,ey,eb,len,rfl⟩),R2,E2⟩
end
end DL
namespace DL
open PySem PySem.Spec PyProof.Rows L2
mutual
def eqD:D->D->Bool
 | .non,b=>match b with | .non=>true|_=>false
 | .bl a,b=>match b with | .bl c=>a == c | .int c=>(if a then 1 else 0) == c|_=>false
 | .int a,b=>match b with | .bl c=>a == (if c then 1 else 0) | .int c=>a == c|_=>false
 | .str a,b=>match b with | .str c=>a == c|_=>false
 | .tup as,b=>match b with | .tup bs=>eqDs as bs|_=>false
 | .ref _,_=>false
 | .scr _,_=>false
def eqDs:List D->List D->Bool
 |[],b=>match b with|[]=>true|_ :: _=>false
 |a :: as,b=>match b with|[]=>false|b :: bs=>eqD a b&&eqDs as bs
end
def pln:Nat->D->Bool
 |_,.non=>true
 |_,.bl _=>true
 |_,.int _=>true
 |_,.str _=>true
 |0,.tup _=>false
 |n+1,.tup ds=>ds.all (pln n)
 |_,.ref _=>false
 |_,.scr _=>false
theorem Gk (as bs:List D):eqD (.tup as) (.tup bs)=eqDs as bs:=by unfold eqD;rfl
theorem Jg:∀(as bs:List D),eqDs as bs=((Wo (min as.length bs.length)).all (λj=>eqD (as.getD j .non) (bs.getD j .non))&&as.length == bs.length)
 |[],[]=>by simp [eqDs]
 |[],_ :: _=>by simp [eqDs]
 |_ :: _,[]=>by simp [eqDs]
 |a :: as,b :: bs=>by
  unfold eqDs;dsimp only;rw [Jg as bs,WR,WR,Nat.succ_min_succ,List.range_succ_eq_map,V8,W1b];have h1:((as.length+1) == (bs.length+1))=(as.length == bs.length):=by
   rw [W04];simp
  rw [h1,Bool.and_assoc];rfl
mutual
theorem Qm:∀(n:Nat) (d:D),pln n d=true->eqD d d=true
 |_,.non,_=>by unfold eqD;rfl
 |_,.bl b,_=>by unfold eqD;simp
 |_,.int i,_=>by unfold eqD;simp
 |_,.str x,_=>by unfold eqD;simp
 |0,.tup _,h=>by cases h
 |n+1,.tup ds,h=>by unfold eqD;exact eqDs_refl n ds (by unfold pln at h;exact h)
 |n,.ref _,h=>by cases n<;>cases h
 |n,.scr _,h=>by cases n<;>cases h
theorem eqDs_refl:∀(n:Nat) (ds:List D),ds.all (pln n)=true->eqDs ds ds=true
 |_,[],_=>by unfold eqDs;rfl
 |n,d :: ds,h=>by
  rw [V8,Wr] at h;unfold eqDs;dsimp only;rw [Qm n d h.1,eqDs_refl n ds h.2];rfl
end
section
variable {K:W3} {ρ ρ':List Addr} {H:Hp}
mutual
theorem DR.one:∀(n:Nat) (d d':D) (x:V),pln n d=true->pln n d'=true->DR K ρ H d x->DR K ρ' H d' x->d=d'
 |n,d,d',x,p,p',h,h'=>by
  cases d with
  |non=>
   rw [h.of_non] at h'
   cases d' with
   |non=>rfl
   |bl _=>cases h'.of_bl
   |int _=>cases h'.of_int
   |str _=>cases h'.of_str
   |tup _=>obtain⟨_,_,z,_⟩:=h'.of_tup;cases z
   |ref _=>cases n<;>cases p'
   |scr _=>cases n<;>cases p'
  |bl b=>
   rw [h.of_bl] at h'
   cases d' with
   |non=>cases h'.of_non
   |bl _=>cases h'.of_bl;rfl
   |int _=>cases h'.of_int
   |str _=>cases h'.of_str
   |tup _=>obtain⟨_,_,z,_⟩:=h'.of_tup;cases z
   |ref _=>cases n<;>cases p'
   |scr _=>cases n<;>cases p'
  |int b=>
   rw [h.of_int] at h'
   cases d' with
   |non=>cases h'.of_non
   |bl _=>cases h'.of_bl
   |int _=>cases h'.of_int;rfl
   |str _=>cases h'.of_str
   |tup _=>obtain⟨_,_,z,_⟩:=h'.of_tup;cases z
   |ref _=>cases n<;>cases p'
   |scr _=>cases n<;>cases p'
  |str b=>
   rw [h.of_str] at h'
   cases d' with
   |non=>cases h'.of_non
   |bl _=>cases h'.of_bl
   |int _=>cases h'.of_int
   |str _=>cases h'.of_str;rfl
   |tup _=>obtain⟨_,_,z,_⟩:=h'.of_tup;cases z
   |ref _=>cases n<;>cases p'
   |scr _=>cases n<;>cases p'
  |tup ds=>
   obtain⟨a,xs,rfl,h1,h2⟩:=h.of_tup
   cases d' with
   |non=>cases h'.of_non
   |bl _=>cases h'.of_bl
   |int _=>cases h'.of_int
   |str _=>cases h'.of_str
   |tup es=>
    obtain⟨a',xs',z,h3,h4⟩:=h'.of_tup
    cases z;rw [h1] at h3;cases h3;cases n with
    |zero=>cases p
    |succ n=>
     unfold pln at p p';rw [DsR.one n ds es xs p p' h2 h4]
   |ref _=>cases n<;>cases p'
   |scr _=>cases n<;>cases p'
  |ref _=>cases n<;>cases p
  |scr _=>cases n<;>cases p
termination_by n=>(n,0)
theorem DsR.one:∀(n:Nat) (ds ds':List D) (xs:List V),ds.all (pln n)=true->ds'.all (pln n)=true->DsR K ρ H ds xs->DsR K ρ' H ds' xs->ds=ds'
 |n,[],ds',xs,_,_,h,h'=>by
  unfold DsR at h;subst h;cases ds' with
  |nil=>rfl
  |cons _ _=>unfold DsR at h';obtain⟨_,_,z,_⟩:=h';cases z
 |n,d :: ds,ds',xs,p,p',h,h'=>by
  unfold DsR at h;obtain⟨x,r,rfl,h1,h2⟩:=h
  cases ds' with
  |nil=>unfold DsR at h';cases h'
  |cons d' ds'=>
   unfold DsR at h';obtain⟨x',r',z,h3,h4⟩:=h'
   cases z;rw [V8,Wr] at p p'
   rw [DR.one n d d' x p.1 p'.1 h1 h3,DsR.one n ds ds' r p.2 p'.2 h2 h4]
termination_by n ds=>(n,ds.length+1)
end
end
section
variable {X:Cx} {pins:List (Addr×Obj)} {σ:L2.St} {H:Hp} {s:Shared} {ρ:List Addr} (I:Inv X pins σ H s)
theorem Qz {A:Around}:A.in1.units=A.units+1:=rfl
include I in
theorem Tu:∀(n:Nat) {A:Around} {d1 d2:D} {x y:V} {u v:Value},A.units+n<cLine->pln n d1=true->pln n d2=true->DR X.K ρ H d1 x->DR X.K ρ H d2 y->ZC x u->ZC y v->WW A s u v (eqD d1 d2):=by
 intro n A d1 d2 x y u v hu p1 p2 h1 h2 ru rv;cases d1 with
 |non=>
  rw [h1.of_non] at ru;cases ru;cases d2 with
  |non=>rw [h2.of_non] at rv;cases rv;exact WW.same _
  |bl c=>rw [h2.of_bl] at rv;cases rv;exact WW.none_bool c
  |int c=>rw [h2.of_int] at rv;obtain⟨t',rfl⟩:=rv;exact WW.none_int c t'
  |str c=>rw [h2.of_str] at rv;obtain⟨t',rfl⟩:=rv;exact WW.none_str c t'
  |tup bs=>
   obtain⟨b,ys,rfl,b1,b2⟩:=h2.of_tup
   cases rv;obtain⟨its,_,pl,_⟩:=I.tuple (.of b1)
   exact WW.none_tuple pl (by omega)
  |ref _=>cases n<;>cases p2
  |scr _=>cases n<;>cases p2
 |bl a=>
  rw [h1.of_bl] at ru;cases ru;cases d2 with
  |non=>rw [h2.of_non] at rv;cases rv;exact WW.bool_none a
  |bl c=>rw [h2.of_bl] at rv;cases rv;exact WW.bool_bool a c
  |int c=>rw [h2.of_int] at rv;obtain⟨t',rfl⟩:=rv;exact WW.bool_int a c t'
  |str c=>rw [h2.of_str] at rv;obtain⟨t',rfl⟩:=rv;exact WW.bool_str a c t'
  |tup bs=>
   obtain⟨b,ys,rfl,b1,b2⟩:=h2.of_tup
   cases rv;obtain⟨its,_,pl,_⟩:=I.tuple (.of b1)
   exact WW.bool_tuple a pl (by omega)
  |ref _=>cases n<;>cases p2
  |scr _=>cases n<;>cases p2
 |int a=>
  rw [h1.of_int] at ru;obtain⟨t,rfl⟩:=ru
  cases d2 with
  |non=>rw [h2.of_non] at rv;cases rv;exact WW.int_none a t
  |bl c=>rw [h2.of_bl] at rv;cases rv;exact WW.int_bool a t c
  |int c=>rw [h2.of_int] at rv;obtain⟨t',rfl⟩:=rv;exact WW.int_int a t c t'
  |str c=>rw [h2.of_str] at rv;obtain⟨t',rfl⟩:=rv;exact WW.int_str a t c t'
  |tup bs=>
   obtain⟨b,ys,rfl,b1,b2⟩:=h2.of_tup
   cases rv;obtain⟨its,_,pl,_⟩:=I.tuple (.of b1)
   exact WW.int_tuple a t pl (by omega)
  |ref _=>cases n<;>cases p2
  |scr _=>cases n<;>cases p2
 |str a=>
  rw [h1.of_str] at ru;obtain⟨t,rfl⟩:=ru
  cases d2 with
  |non=>rw [h2.of_non] at rv;cases rv;exact WW.str_none a t
  |bl c=>rw [h2.of_bl] at rv;cases rv;exact WW.str_bool a t c
  |int c=>rw [h2.of_int] at rv;obtain⟨t',rfl⟩:=rv;exact WW.str_int a t c t'
  |str c=>rw [h2.of_str] at rv;obtain⟨t',rfl⟩:=rv;exact WW.str_str a t c t'
  |tup bs=>
   obtain⟨b,ys,rfl,b1,b2⟩:=h2.of_tup
   cases rv;obtain⟨its,_,pl,_⟩:=I.tuple (.of b1)
   exact WW.str_tuple a t pl (by omega)
  |ref _=>cases n<;>cases p2
  |scr _=>cases n<;>cases p2
 |tup as=>
  obtain⟨a,xs,rfl,a1,a2⟩:=h1.of_tup
  cases ru;cases d2 with
  |non=>
   rw [h2.of_non] at rv;cases rv;obtain⟨its,_,pl,_⟩:=I.tuple (.of a1)
   exact WW.tuple_none pl (by omega)
  |bl c=>
   rw [h2.of_bl] at rv;cases rv;obtain⟨its,_,pl,_⟩:=I.tuple (.of a1)
   exact WW.tuple_bool c pl (by omega)
  |int c=>
   rw [h2.of_int] at rv;obtain⟨t',rfl⟩:=rv
   obtain⟨its,_,pl,_⟩:=I.tuple (.of a1)
   exact WW.tuple_int c t' pl (by omega)
  |str c=>
   rw [h2.of_str] at rv;obtain⟨t',rfl⟩:=rv
   obtain⟨its,_,pl,_⟩:=I.tuple (.of a1)
   exact WW.tuple_str c t' pl (by omega)
  |tup bs=>
   obtain⟨b,ys,rfl,b1,b2⟩:=h2.of_tup
   cases rv;cases n with
   |zero=>cases p1
   |succ n=>
    unfold pln at p1 p2;obtain⟨its,r1,pl1,_⟩:=I.tuple (.of a1)
    obtain⟨its2,r2,pl2,_⟩:=I.tuple (.of b1)
    have he:eqD (.tup as) (.tup bs)=((Wo (min its.toArray.size its2.toArray.size)).all (λj=>eqD (as.getD j .non) (bs.getD j .non))&&its.toArray.size == its2.toArray.size):=by
     rw [Gk,Jg,Wn,Wn,<-r1.length,<-r2.length,<-a2.length,<-b2.length]
    have hj:∀j (h1:j<its.toArray.size) (h2:j<its2.toArray.size),WW A.in1 s its.toArray[j] its2.toArray[j] (eqD (as.getD j .non) (bs.getD j .non)):=by
     intro j j1 j2;rw [Wn] at j1 j2;have l1:j<as.length:=by rw [a2.length,r1.length];exact j1
     have l2:j<bs.length:=by rw [b2.length,r2.length];exact j2
     have g1:as[j]? = some (as.getD j .non):=by simp [W0v,Wm l1]
     have g2:bs[j]? = some (bs.getD j .non):=by simp [W0v,Wm l2]
     obtain⟨x,x1,x2⟩:=a2.get g1
     obtain⟨y,y1,y2⟩:=b2.get g2
     obtain⟨u,u1,u2⟩:=r1.get x1
     obtain⟨v,v1,v2⟩:=r2.get y1
     have e1:its.toArray[j]=u:=by rw [Wm j1] at u1;simpa using u1
     have e2:its2.toArray[j]=v:=by rw [Wm j2] at v1;simpa using v1
     rw [e1,e2];exact Tu n (by rw [Qz];omega) (WN.mp p1 _ (Vo g1)) (WN.mp p2 _ (Vo g2)) x2 y2 u2 v2
    by_cases hab:a=b
    ·subst hab
     have hsame:as=bs:=by
      rw [a1] at b1;cases b1;exact DsR.one n as bs xs p1 p2 a2 b2
     rw [hsame,Qm (n+1) (.tup bs) (by unfold pln;exact p2)]
     exact WW.same _
    ·rw [he]
     exact WW.of_refs hab (V1.tuples pl1 pl2 (by omega) hj)
  |ref _=>cases n<;>cases p2
  |scr _=>cases n<;>cases p2
 |ref _=>cases n<;>cases p1
 |scr _=>cases n<;>cases p1
include I in
theorem Hn:∀(n:Nat) {A:Around} {d1 d2:D} {x y:V} {u v:Value},A.units+n<cLine->pln n d1=true->pln n d2=true->DR X.K ρ H d1 x->DR X.K ρ H d2 y->ZC x u->ZC y v->V1 A s u v (eqD d1 d2):=by
 intro n A d1 d2 x y u v hu p1 p2 h1 h2 ru rv;cases d1 with
 |non=>
  rw [h1.of_non] at ru;cases ru;cases d2 with
  |non=>rw [h2.of_non] at rv;cases rv;exact V1.none_none
  |bl c=>rw [h2.of_bl] at rv;cases rv;exact V1.none_bool c
  |int c=>rw [h2.of_int] at rv;obtain⟨t',rfl⟩:=rv;exact V1.none_int c t'
  |str c=>rw [h2.of_str] at rv;obtain⟨t',rfl⟩:=rv;exact V1.none_str c t'
  |tup bs=>
   obtain⟨b,ys,rfl,b1,b2⟩:=h2.of_tup
   cases rv;obtain⟨its,_,pl,_⟩:=I.tuple (.of b1)
   exact V1.none_tuple pl (by omega)
  |ref _=>cases n<;>cases p2
  |scr _=>cases n<;>cases p2
 |bl a=>
  rw [h1.of_bl] at ru;cases ru;cases d2 with
  |non=>rw [h2.of_non] at rv;cases rv;exact V1.bool_none a
  |bl c=>rw [h2.of_bl] at rv;cases rv;exact V1.bool_bool a c
  |int c=>rw [h2.of_int] at rv;obtain⟨t',rfl⟩:=rv;exact V1.bool_int a c t'
  |str c=>rw [h2.of_str] at rv;obtain⟨t',rfl⟩:=rv;exact V1.bool_str a c t'
  |tup bs=>
   obtain⟨b,ys,rfl,b1,b2⟩:=h2.of_tup
   cases rv;obtain⟨its,_,pl,_⟩:=I.tuple (.of b1)
   exact V1.bool_tuple a pl (by omega)
  |ref _=>cases n<;>cases p2
  |scr _=>cases n<;>cases p2
 |int a=>
  rw [h1.of_int] at ru;obtain⟨t,rfl⟩:=ru
  cases d2 with
  |non=>rw [h2.of_non] at rv;cases rv;exact V1.int_none a t
  |bl c=>rw [h2.of_bl] at rv;cases rv;exact V1.int_bool a t c
  |int c=>rw [h2.of_int] at rv;obtain⟨t',rfl⟩:=rv;exact V1.int_int a t c t'
  |str c=>rw [h2.of_str] at rv;obtain⟨t',rfl⟩:=rv;exact V1.int_str a t c t'
  |tup bs=>
   obtain⟨b,ys,rfl,b1,b2⟩:=h2.of_tup
   cases rv;obtain⟨its,_,pl,_⟩:=I.tuple (.of b1)
   exact V1.int_tuple a t pl (by omega)
  |ref _=>cases n<;>cases p2
  |scr _=>cases n<;>cases p2
 |str a=>
  rw [h1.of_str] at ru;obtain⟨t,rfl⟩:=ru
  cases d2 with
  |non=>rw [h2.of_non] at rv;cases rv;exact V1.str_none a t
  |bl c=>rw [h2.of_bl] at rv;cases rv;exact V1.str_bool a t c
  |int c=>rw [h2.of_int] at rv;obtain⟨t',rfl⟩:=rv;exact V1.str_int a t c t'
  |str c=>rw [h2.of_str] at rv;obtain⟨t',rfl⟩:=rv;exact V1.str_str a t c t'
  |tup bs=>
   obtain⟨b,ys,rfl,b1,b2⟩:=h2.of_tup
   cases rv;obtain⟨its,_,pl,_⟩:=I.tuple (.of b1)
   exact V1.str_tuple a t pl (by omega)
  |ref _=>cases n<;>cases p2
  |scr _=>cases n<;>cases p2
 |tup as=>
  obtain⟨a,xs,rfl,a1,a2⟩:=h1.of_tup
  cases ru;cases d2 with
  |non=>
   rw [h2.of_non] at rv;cases rv;obtain⟨its,_,pl,_⟩:=I.tuple (.of a1)
   exact V1.tuple_none pl (by omega)
  |bl c=>
   rw [h2.of_bl] at rv;cases rv;obtain⟨its,_,pl,_⟩:=I.tuple (.of a1)
   exact V1.tuple_bool c pl (by omega)
  |int c=>
   rw [h2.of_int] at rv;obtain⟨t',rfl⟩:=rv
   obtain⟨its,_,pl,_⟩:=I.tuple (.of a1)
   exact V1.tuple_int c t' pl (by omega)
  |str c=>
   rw [h2.of_str] at rv;obtain⟨t',rfl⟩:=rv
   obtain⟨its,_,pl,_⟩:=I.tuple (.of a1)
   exact V1.tuple_str c t' pl (by omega)
  |tup bs=>
   obtain⟨b,ys,rfl,b1,b2⟩:=h2.of_tup
   cases rv;cases n with
   |zero=>cases p1
   |succ n=>
    unfold pln at p1 p2;obtain⟨its,r1,pl1,_⟩:=I.tuple (.of a1)
    obtain⟨its2,r2,pl2,_⟩:=I.tuple (.of b1)
    have he:eqD (.tup as) (.tup bs)=((Wo (min its.toArray.size its2.toArray.size)).all (λj=>eqD (as.getD j .non) (bs.getD j .non))&&its.toArray.size == its2.toArray.size):=by
     rw [Gk,Jg,Wn,Wn,<-r1.length,<-r2.length,<-a2.length,<-b2.length]
    have hj:∀j (h1:j<its.toArray.size) (h2:j<its2.toArray.size),WW A.in1 s its.toArray[j] its2.toArray[j] (eqD (as.getD j .non) (bs.getD j .non)):=by
     intro j j1 j2;rw [Wn] at j1 j2;have l1:j<as.length:=by rw [a2.length,r1.length];exact j1
     have l2:j<bs.length:=by rw [b2.length,r2.length];exact j2
     have g1:as[j]? = some (as.getD j .non):=by simp [W0v,Wm l1]
     have g2:bs[j]? = some (bs.getD j .non):=by simp [W0v,Wm l2]
     obtain⟨x,x1,x2⟩:=a2.get g1
     obtain⟨y,y1,y2⟩:=b2.get g2
     obtain⟨u,u1,u2⟩:=r1.get x1
     obtain⟨v,v1,v2⟩:=r2.get y1
     have e1:its.toArray[j]=u:=by rw [Wm j1] at u1;simpa using u1
     have e2:its2.toArray[j]=v:=by rw [Wm j2] at v1;simpa using v1
     rw [e1,e2];exact Tu I n (by rw [Qz];omega) (WN.mp p1 _ (Vo g1)) (WN.mp p2 _ (Vo g2)) x2 y2 u2 v2
    rw [he];exact V1.tuples pl1 pl2 (by omega) hj
  |ref _=>cases n<;>cases p2
  |scr _=>cases n<;>cases p2
 |ref _=>cases n<;>cases p1
 |scr _=>cases n<;>cases p1
include I in
theorem Hm:∀(n:Nat) {A:Around} {d1 d2:D} {x y:V} {u v:Value},A.units+n<cLine->pln n d1=true->pln n d2=true->DR X.K ρ H d1 x->DR X.K ρ H d2 y->ZC x u->ZC y v->WV A s u v (!eqD d1 d2):=by
 intro n A d1 d2 x y u v hu p1 p2 h1 h2 ru rv;cases d1 with
 |non=>
  rw [h1.of_non] at ru;cases ru;cases d2 with
  |non=>rw [h2.of_non] at rv;cases rv;exact WV.none_none
  |bl c=>rw [h2.of_bl] at rv;cases rv;exact WV.none_bool c
  |int c=>rw [h2.of_int] at rv;obtain⟨t',rfl⟩:=rv;exact WV.none_int c t'
  |str c=>rw [h2.of_str] at rv;obtain⟨t',rfl⟩:=rv;exact WV.none_str c t'
  |tup bs=>
   obtain⟨b,ys,rfl,b1,b2⟩:=h2.of_tup
   cases rv;obtain⟨its,_,pl,_⟩:=I.tuple (.of b1)
   exact WV.none_tuple pl (by omega)
  |ref _=>cases n<;>cases p2
  |scr _=>cases n<;>cases p2
 |bl a=>
  rw [h1.of_bl] at ru;cases ru;cases d2 with
  |non=>rw [h2.of_non] at rv;cases rv;exact WV.bool_none a
  |bl c=>rw [h2.of_bl] at rv;cases rv;exact WV.bool_bool a c
  |int c=>rw [h2.of_int] at rv;obtain⟨t',rfl⟩:=rv;exact WV.bool_int a c t'
  |str c=>rw [h2.of_str] at rv;obtain⟨t',rfl⟩:=rv;exact WV.bool_str a c t'
  |tup bs=>
   obtain⟨b,ys,rfl,b1,b2⟩:=h2.of_tup
   cases rv;obtain⟨its,_,pl,_⟩:=I.tuple (.of b1)
   exact WV.bool_tuple a pl (by omega)
  |ref _=>cases n<;>cases p2
  |scr _=>cases n<;>cases p2
 |int a=>
  rw [h1.of_int] at ru;obtain⟨t,rfl⟩:=ru
  cases d2 with
  |non=>rw [h2.of_non] at rv;cases rv;exact WV.int_none a t
  |bl c=>rw [h2.of_bl] at rv;cases rv;exact WV.int_bool a t c
  |int c=>rw [h2.of_int] at rv;obtain⟨t',rfl⟩:=rv;exact WV.int_int a t c t'
  |str c=>rw [h2.of_str] at rv;obtain⟨t',rfl⟩:=rv;exact WV.int_str a t c t'
  |tup bs=>
   obtain⟨b,ys,rfl,b1,b2⟩:=h2.of_tup
   cases rv;obtain⟨its,_,pl,_⟩:=I.tuple (.of b1)
   exact WV.int_tuple a t pl (by omega)
  |ref _=>cases n<;>cases p2
  |scr _=>cases n<;>cases p2
 |str a=>
  rw [h1.of_str] at ru;obtain⟨t,rfl⟩:=ru
  cases d2 with
  |non=>rw [h2.of_non] at rv;cases rv;exact WV.str_none a t
  |bl c=>rw [h2.of_bl] at rv;cases rv;exact WV.str_bool a t c
  |int c=>rw [h2.of_int] at rv;obtain⟨t',rfl⟩:=rv;exact WV.str_int a t c t'
  |str c=>rw [h2.of_str] at rv;obtain⟨t',rfl⟩:=rv;exact WV.str_str a t c t'
  |tup bs=>
   obtain⟨b,ys,rfl,b1,b2⟩:=h2.of_tup
   cases rv;obtain⟨its,_,pl,_⟩:=I.tuple (.of b1)
   exact WV.str_tuple a t pl (by omega)
  |ref _=>cases n<;>cases p2
  |scr _=>cases n<;>cases p2
 |tup as=>
  obtain⟨a,xs,rfl,a1,a2⟩:=h1.of_tup
  cases ru;cases d2 with
  |non=>
   rw [h2.of_non] at rv;cases rv;obtain⟨its,_,pl,_⟩:=I.tuple (.of a1)
   exact WV.tuple_none pl (by omega)
  |bl c=>
   rw [h2.of_bl] at rv;cases rv;obtain⟨its,_,pl,_⟩:=I.tuple (.of a1)
   exact WV.tuple_bool c pl (by omega)
  |int c=>
   rw [h2.of_int] at rv;obtain⟨t',rfl⟩:=rv
   obtain⟨its,_,pl,_⟩:=I.tuple (.of a1)
   exact WV.tuple_int c t' pl (by omega)
  |str c=>
   rw [h2.of_str] at rv;obtain⟨t',rfl⟩:=rv
   obtain⟨its,_,pl,_⟩:=I.tuple (.of a1)
   exact WV.tuple_str c t' pl (by omega)
  |tup bs=>
   obtain⟨b,ys,rfl,b1,b2⟩:=h2.of_tup
   cases rv;cases n with
   |zero=>cases p1
   |succ n=>
    unfold pln at p1 p2;obtain⟨its,r1,pl1,_⟩:=I.tuple (.of a1)
    obtain⟨its2,r2,pl2,_⟩:=I.tuple (.of b1)
    have he:eqD (.tup as) (.tup bs)=((Wo (min its.toArray.size its2.toArray.size)).all (λj=>eqD (as.getD j .non) (bs.getD j .non))&&its.toArray.size == its2.toArray.size):=by
     rw [Gk,Jg,Wn,Wn,<-r1.length,<-r2.length,<-a2.length,<-b2.length]
    have hj:∀j (h1:j<its.toArray.size) (h2:j<its2.toArray.size),WW A.in1 s its.toArray[j] its2.toArray[j] (eqD (as.getD j .non) (bs.getD j .non)):=by
     intro j j1 j2;rw [Wn] at j1 j2;have l1:j<as.length:=by rw [a2.length,r1.length];exact j1
     have l2:j<bs.length:=by rw [b2.length,r2.length];exact j2
     have g1:as[j]? = some (as.getD j .non):=by simp [W0v,Wm l1]
     have g2:bs[j]? = some (bs.getD j .non):=by simp [W0v,Wm l2]
     obtain⟨x,x1,x2⟩:=a2.get g1
     obtain⟨y,y1,y2⟩:=b2.get g2
     obtain⟨u,u1,u2⟩:=r1.get x1
     obtain⟨v,v1,v2⟩:=r2.get y1
     have e1:its.toArray[j]=u:=by rw [Wm j1] at u1;simpa using u1
     have e2:its2.toArray[j]=v:=by rw [Wm j2] at v1;simpa using v1
     rw [e1,e2];exact Tu I n (by rw [Qz];omega) (WN.mp p1 _ (Vo g1)) (WN.mp p2 _ (Vo g2)) x2 y2 u2 v2
    rw [he];exact WV.tuples pl1 pl2 (by omega) hj
  |ref _=>cases n<;>cases p2
  |scr _=>cases n<;>cases p2
 |ref _=>cases n<;>cases p1
 |scr _=>cases n<;>cases p1
end
end DL
namespace DL
open PySem PySem.Spec PyProof.Rows L2
def Cw (A:Around)(s:Shared)(y x:Value)(b:Bool):Prop:=
 ∀(prog:Program) (w:World) (E:Value->Shared->Prop) (Q:Value->Shared->Prop),Q (.bool b) s->wpAny (model prog w) A (compareOp .Lt y x) Q E s
def Nh:List (Bool×Bool)->Bool->Bool
 |[],fin=>fin
 |p :: r,fin=>if p.1=true then Nh r fin else p.2
section
open PySem.SeqAt
open PySem.AutoSeq1 (wpAny_loadPart')
open PySem.MeetsSeq PySem.MeetsSeq2 PySem.MeetsSeq3
def TB (A:Around)(s:Shared)(q:Value×Value)(p:Bool×Bool):Prop:=EqAt A s q.1 q.2 p.1/\(p.1=false->Cw A s q.1 q.2 p.2)
theorem MG (l b:Addr)(items items2:Array Value)(n n2:Nat)(dd dd2:Option Addr)(sl sl2:Array (Option Value))(ps:List (Bool×Bool)) :
  Meets (Builtin.«tuple.__lt__» ⟨[.ref l,.ref b],[]⟩)
   (λA R s=>s.heap.get? l=some { cls:=.type "tuple",dict:=dd,data:=.seq items n,slots:=sl }/\s.heap.get? b=some { cls:=.type "tuple",dict:=dd2,data:=.seq items2 n2,slots:=sl2 }/\
    Paired (TB A.in1 s) (items.toList.zip items2.toList) ps/\R (.ok (.ret (.bool (Nh ps (decide (items.size<items2.size)))))) s):=
 .of_wp λprog w A R s h=>by
  obtain⟨hp,g,d,tk,os⟩:=s;obtain⟨hl,hb,hps,h⟩:=h
  have f2:=AutoSeq1.sub_tuple_tuple
  wp_walk using wpAny_loadPart' hl,wpAny_loadPart' hb,wpAny_forIn_list _ (λJL b s'=>b.1=none/\s'=⟨hp,g,d,tk,os⟩/\∃(qs:List (Bool×Bool)),Paired (TB A.in1 ⟨hp,g,d,tk,os⟩) JL qs/\
   R (.ok (.ret (.bool (Nh qs (decide (items.size<items2.size)))))) ⟨hp,g,d,tk,os⟩) _
  case turn=>
   rintro⟨y,x⟩ JL b s' ⟨hb',rfl,qs,hq,hR⟩
   cases hq with
   | @cons _ p _ qs' hp1 hq'=>
    obtain⟨he,hlt⟩:=hp1
    refine W2 (he prog w _ _ ?_)
    obtain⟨pe,pl⟩:=p
    unfold Nh at hR;cases pe with
    |true=>
     rw [if_pos rfl] at hR
     wp_walk
     exact⟨rfl,rfl,qs',hq',hR⟩
    |false=>
     rw [if_neg WI] at hR;have hri:∀(E:Value->Shared->Prop) (Q:Value->Shared->Prop),Q (.bool pl) ⟨hp,g,d,tk,os⟩->wpAny (model prog w) A.in1 (richCompare .Lt y x) Q E ⟨hp,g,d,tk,os⟩:=hlt rfl prog w
     wp_walk using hri
     exact⟨_,rfl,by simpa using hR⟩
  case fin=>
   rintro⟨b1,b2⟩ s' ⟨hb',rfl,qs,hq,hR⟩
   simp only at hb'
   subst hb'
   cases hq;unfold Nh at hR
   wp_walk
   exact⟨_,rfl,by simpa [Builtin.Tuple.tupleCompareSizes] using hR⟩
  case h=>
   exact⟨rfl,rfl,ps,hps,h⟩
theorem Cw.tuples {A:Around}{s:Shared}{l b:Addr}{items items2:Array Value}{ps:List (Bool×Bool)}(hl:s.heap.IsTuple l items)(hb:s.heap.IsTuple b items2)(hu:A.units<cLine)(hp:Paired (TB A.in1 s) (items.toList.zip items2.toList) ps) :
  Cw A s (.ref l) (.ref b) (Nh ps (decide (items.size<items2.size))):=λprog w E Q h=>by
 obtain⟨⟨cls,dd,data,sl⟩,ho,hc,n,hd⟩:=id hl
 obtain⟨⟨cls2,dd2,data2,sl2⟩,ho2,hc2,n2,hd2⟩:=id hb
 simp only at hc hd hc2 hd2
 subst hc hd hc2 hd2;exact richCompare_meets_room (op:=.Lt) ⟨_,ho,rfl⟩ ⟨_,ho2,rfl⟩ PySem.F.slot_tuple_lt PySem.F.entry_tuple_lt (PySem.F.args_tuple_lt_2 _ _) (MG l b items items2 n n2 dd dd2 sl sl2 ps)
  ⟨ho,ho2,hp,show Value.bool (Nh ps (decide (items.size<items2.size)))≠Value.notImplemented/\Q (.bool (Nh ps (decide (items.size<items2.size)))) s from ⟨(λx=>nomatch x),h⟩⟩ hu
end
mutual
def ltD:D->D->Bool
 | .int a,b=>match b with | .int c=>decide (a<c)|_=>false
 | .str a,b=>match b with | .str c=>decide (a.cps.toList<c.cps.toList)|_=>false
 | .tup as,b=>match b with | .tup bs=>ltDs as bs|_=>false
 | .non,_=>false
 | .bl _,_=>false
 | .ref _,_=>false
 | .scr _,_=>false
def ltDs:List D->List D->Bool
 |[],b=>match b with|[]=>false|_ :: _=>true
 |a :: as,b=>match b with|[]=>false|b :: bs=>if eqD a b=true then ltDs as bs else ltD a b
end
def Qa:Nat->D->D->Bool
 |_,.int _,.int _=>true
 |_,.str _,.str _=>true
 |n+1,.tup as,.tup bs=>(as.zip bs).all λp=>Qa n p.1 p.2
 |_,_,_=>false
theorem Jv (as bs:List D):ltD (.tup as) (.tup bs)=ltDs as bs:=by unfold ltD;rfl
theorem Qh (a b:D)(as bs:List D):ltDs (a :: as) (b :: bs)=if eqD a b=true then ltDs as bs else ltD a b:=by conv=>lhs;unfold ltDs
theorem G6:∀(as bs:List D),ltDs as bs=Nh ((as.zip bs).map λp=>(eqD p.1 p.2,ltD p.1 p.2)) (decide (as.length<bs.length))
 |[],[]=>by simp [ltDs,Nh]
 |[],_ :: _=>by simp [ltDs,Nh]
 |_ :: _,[]=>by simp [ltDs,Nh]
 |a :: as,b :: bs=>by
  rw [Qh,G6 as bs,Wz,W0,WR,WR]
  conv=>rhs;unfold Nh
  have:decide (as.length+1<bs.length+1)=decide (as.length<bs.length):=by
   rw [W04];simp
  rw [this]
section
variable {X:Cx} {pins:List (Addr×Obj)} {σ:L2.St} {H:Hp} {s:Shared} {ρ:List Addr} (I:Inv X pins σ H s)
include I in
theorem Fe:∀(n:Nat) {A:Around} {d1 d2:D} {x y:V} {u v:Value},A.units+n<cLine->Qa n d1 d2=true->pln n d1=true->pln n d2=true->DR X.K ρ H d1 x->DR X.K ρ H d2 y->ZC x u->ZC y v->Cw A s u v (ltD d1 d2):=by
 intro n
 induction n with
 |zero=>
  intro A d1 d2 x y u v hu hc p1 p2 h1 h2 ru rv;cases d1 with
  |int a=>
   cases d2 with
   |int c=>
    rw [h1.of_int] at ru;rw [h2.of_int] at rv
    obtain⟨t,rfl⟩:=ru;obtain⟨t',rfl⟩:=rv
    exact λprog w E Q h=>lt_int (by unfold ltD at h;exact h)
   |_=>cases hc
  |str a=>
   cases d2 with
   |str c=>
    rw [h1.of_str] at ru;rw [h2.of_str] at rv
    obtain⟨t,rfl⟩:=ru;obtain⟨t',rfl⟩:=rv
    exact λprog w E Q h=>PySem.P.lt_str (by unfold ltD at h;exact h)
   |_=>cases hc
  |tup _=>cases p1
  |_=>cases hc
 |succ n ih=>
  intro A d1 d2 x y u v hu hc p1 p2 h1 h2 ru rv;cases d1 with
  |int a=>
   cases d2 with
   |int c=>
    rw [h1.of_int] at ru;rw [h2.of_int] at rv
    obtain⟨t,rfl⟩:=ru;obtain⟨t',rfl⟩:=rv
    exact λprog w E Q h=>lt_int (by unfold ltD at h;exact h)
   |_=>cases hc
  |str a=>
   cases d2 with
   |str c=>
    rw [h1.of_str] at ru;rw [h2.of_str] at rv
    obtain⟨t,rfl⟩:=ru;obtain⟨t',rfl⟩:=rv
    exact λprog w E Q h=>PySem.P.lt_str (by unfold ltD at h;exact h)
   |_=>cases hc
  |tup as=>
   cases d2 with
   |tup bs=>
    obtain⟨a,xs,rfl,a1,a2⟩:=h1.of_tup
    obtain⟨b,ys,rfl,b1,b2⟩:=h2.of_tup
    cases ru;cases rv;unfold pln at p1 p2;unfold Qa at hc;obtain⟨its,r1,pl1,_⟩:=I.tuple (.of a1)
    obtain⟨its2,r2,pl2,_⟩:=I.tuple (.of b1)
    have key:∀{as bs:List D} {xs ys:List V} {its its2:List Value},as.all (pln n)=true->bs.all (pln n)=true->((as.zip bs).all λp=>Qa n p.1 p.2)=true->DsR X.K ρ H as xs->DsR X.K ρ H bs ys->Y2 xs its->Y2 ys its2->
      Paired (TB A.in1 s) (its.zip its2) ((as.zip bs).map λp=>(eqD p.1 p.2,ltD p.1 p.2)):=by
     intro as
     induction as with
     |nil=>
      intro bs xs ys its its2 _ _ _ q1 _ q3 _;unfold DsR at q1;subst q1;cases q3;exact .nil
     |cons d as ih2=>
      intro bs xs ys its its2 z1 z2 z3 q1 q2 q3 q4;unfold DsR at q1;obtain⟨x,r,rfl,h1,h2⟩:=q1
      cases q3 with
      |cons r1 r2=>
       cases bs with
       |nil=>
        unfold DsR at q2;subst q2;cases q4;exact .nil
       |cons e bs=>
        unfold DsR at q2;obtain⟨y,r',rfl,h3,h4⟩:=q2
        cases q4 with
        |cons r3 r4=>
         rw [V8,Wr] at z1 z2;rw [Wz,V8,Wr] at z3;rw [Wz,Wz,W0];refine .cons ⟨Tu I n (by rw [Qz];omega) z1.1 z2.1 h1 h3 r1 r3,λ_=>ih (by rw [Qz];omega) z3.1 z1.1 z2.1 h1 h3 r1 r3⟩ (ih2 z1.2 z2.2 z3.2 h2 h4 r2 r4)
    have hl:=Cw.tuples (A:=A) pl1 pl2 (by omega) (key p1 p2 hc a2 b2 r1 r2)
    rw [Jv,G6,a2.length,b2.length,r1.length,r2.length]
    simpa using hl
   |_=>cases hc
  |_=>cases hc
end
end DL
namespace DL
open PySem L2
theorem Pa (a b:D)(as bs:List D):eqDs (a :: as) (b :: bs)=(eqD a b&&eqDs as bs):=by conv=>lhs;unfold eqDs
theorem K7:∀(n:Nat) (a b:D),Qa n a b=true->Qa n b a=true:=by
 intro n
 induction n with
 |zero=>
  intro a b h;cases a<;>cases b<;>first|rfl|cases h
 |succ n ih=>
  intro a b h;cases a<;>cases b<;>first|rfl|cases h|skip
  rename_i as bs
  unfold Qa at h ⊢
  rw [WN] at h ⊢
  intro p hp;refine ih _ _ (h (p.2,p.1) ?_)
  obtain⟨i,hi,e⟩:=W09.mp hp
  rw [V0] at hi;rw [W0M] at e;rw [<-e];refine W09.mpr ⟨i,by rw [V0];omega,?_⟩
  rw [W0M]
theorem ON:∀(n:Nat) (a b:D),Qa n a b=true->eqD a b=true->a=b:=by
 intro n
 induction n with
 |zero=>
  intro a b h e;cases a<;>cases b<;>first|cases h|skip
  ·unfold eqD at e;rw [eq_of_beq e]
  ·unfold eqD at e;rw [eq_of_beq e]
 |succ n ih=>
  intro a b h e;cases a<;>cases b<;>first|cases h|skip
  ·unfold eqD at e;rw [eq_of_beq e]
  ·unfold eqD at e;rw [eq_of_beq e]
  ·rename_i as bs
   unfold Qa at h;rw [Gk] at e
   congr 1
   induction as generalizing bs with
   |nil=>
    cases bs with
    |nil=>rfl
    |cons _ _=>unfold eqDs at e;cases e
   |cons x xs ih2=>
    cases bs with
    |nil=>unfold eqDs at e;cases e
    |cons y ys=>
     rw [Pa,Wr] at e;rw [Wz,V8,Wr] at h;rw [ih x y h.1 e.1,ih2 ys e.2 h.2]
theorem J5 {n:Nat}{a b:D}(h:Qa n a b=true)(ha:pln n a=true):(a=b->eqD a b=true)/\(a≠b->eqD a b=false):=by
 refine⟨λe=>?_,λe=>?_⟩
 ·subst e;exact Qm n a ha
 ·cases q:eqD a b
  ·rfl
  ·exact absurd (ON n a b h q) e
theorem Nd:∀(n:Nat) (a:D),pln n a=true->ltD a a=false:=by
 intro n
 induction n with
 |zero=>
  intro a h;cases a<;>first|cases h|skip
  ·unfold ltD;rfl
  ·unfold ltD;rfl
  ·unfold ltD;simp
  ·unfold ltD;simp only [decide_eq_false_iff_not];exact List.lt_irrefl _
 |succ n ih=>
  intro a h;cases a<;>first|cases h|skip
  ·unfold ltD;rfl
  ·unfold ltD;rfl
  ·unfold ltD;simp
  ·unfold ltD;simp only [decide_eq_false_iff_not];exact List.lt_irrefl _
  ·rename_i as
   unfold pln at h;rw [Jv]
   induction as with
   |nil=>unfold ltDs;rfl
   |cons x xs ih2=>
    rw [V8,Wr] at h;rw [Qh,if_pos (Qm n x h.1),ih2 h.2]
theorem G7:∀(n:Nat) (a b:D),Qa n a b=true->pln n a=true->pln n b=true->a=b\/ltD a b=true\/ltD b a=true:=by
 have hI:∀i j:Int,D.int i=D.int j\/ltD (.int i) (.int j)=true\/ltD (.int j) (.int i)=true:=λi j=>by
  unfold ltD;simp only [decide_eq_true_eq]
  rcases Int.lt_trichotomy i j with h|h|h
  ·exact .inr (.inl h)
  ·exact .inl (by rw [h])
  ·exact .inr (.inr h)
 have hS:∀x y:Str,D.str x=D.str y\/ltD (.str x) (.str y)=true\/ltD (.str y) (.str x)=true:=λx y=>by
  unfold ltD;simp only [decide_eq_true_eq]
  by_cases h1:x.cps.toList<y.cps.toList
  ·exact .inr (.inl h1)
  ·by_cases h2:y.cps.toList<x.cps.toList
   ·exact .inr (.inr h2)
   ·have e:x.cps.toList=y.cps.toList:=List.le_antisymm (List.not_lt.mp h2) (List.not_lt.mp h1)
    refine .inl ?_
    cases x;cases y
    cases Array.toList_inj.mp e
    rfl
 intro n
 induction n with
 |zero=>
  intro a b h ha hb;cases a<;>cases b<;>first|cases h|skip
  ·exact hI _ _
  ·exact hS _ _
 |succ n ih=>
  intro a b h ha hb;cases a<;>cases b<;>first|cases h|skip
  ·exact hI _ _
  ·exact hS _ _
  ·rename_i as bs
   unfold Qa at h;unfold pln at ha hb;rw [Jv,Jv,D.tup.injEq]
   induction as generalizing bs with
   |nil=>
    cases bs with
    |nil=>exact .inl rfl
    |cons _ _=>exact .inr (.inl (by unfold ltDs;rfl))
   |cons x xs ih2=>
    cases bs with
    |nil=>exact .inr (.inr (by unfold ltDs;rfl))
    |cons y ys=>
     rw [V8,Wr] at ha hb;rw [Wz,V8,Wr] at h;rw [Qh,Qh];by_cases q:x=y
     ·subst q
      rw [if_pos (Qm n x ha.1),if_pos (Qm n x ha.1)];rcases ih2 ys h.2 ha.2 hb.2 with z|z|z
      ·exact .inl (by rw [z])
      ·exact .inr (.inl z)
      ·exact .inr (.inr z)
     ·rw [(J5 h.1 ha.1).2 q,(J5 (K7 n x y h.1) hb.1).2 (Ne.symm q),if_neg WI,if_neg WI]
      rcases ih x y h.1 ha.1 hb.1 with z|z|z
      ·exact absurd z q
      ·exact .inr (.inl z)
      ·exact .inr (.inr z)
theorem Fd:∀(n:Nat) (a b c:D),Qa n a b=true->Qa n b c=true->Qa n a c=true->pln n a=true->pln n b=true->pln n c=true->ltD a b=true->ltD b c=true->ltD a c=true:=by
 have hI:∀i j k:Int,ltD (.int i) (.int j)=true->ltD (.int j) (.int k)=true->ltD (.int i) (.int k)=true:=λi j k h1 h2=>by
  unfold ltD at *
  simp only [decide_eq_true_eq] at *
  omega
 have hS:∀i j k:Str,ltD (.str i) (.str j)=true->ltD (.str j) (.str k)=true->ltD (.str i) (.str k)=true:=λi j k h1 h2=>by
  unfold ltD at *
  simp only [decide_eq_true_eq] at *
  exact List.lt_trans h1 h2
 intro n
 induction n with
 |zero=>
  intro a b c h1 h2 h3 ha hb hc l1 l2;cases a<;>cases b<;>first|cases h1|skip
  all_goals cases c<;>first|cases h2|skip
  ·exact hI _ _ _ l1 l2
  ·exact hS _ _ _ l1 l2
 |succ n ih=>
  intro a b c h1 h2 h3 ha hb hc l1 l2;cases a<;>cases b<;>first|cases h1|skip
  all_goals cases c<;>first|cases h2|skip
  ·exact hI _ _ _ l1 l2
  ·exact hS _ _ _ l1 l2
  ·rename_i as bs cs
   unfold Qa at h1 h2 h3;unfold pln at ha hb hc;rw [Jv] at l1 l2 ⊢
   induction as generalizing bs cs with
   |nil=>
    cases bs with
    |nil=>unfold ltDs at l1;cases l1
    |cons _ _=>
     cases cs with
     |nil=>unfold ltDs at l2;cases l2
     |cons _ _=>unfold ltDs;rfl
   |cons x xs ih2=>
    cases bs with
    |nil=>unfold ltDs at l1;cases l1
    |cons y ys=>
     cases cs with
     |nil=>unfold ltDs at l2;cases l2
     |cons z zs=>
      rw [V8,Wr] at ha hb hc;rw [Wz,V8,Wr] at h1 h2 h3;rw [Qh] at l1 l2 ⊢
      by_cases q1:x=y
      ·subst q1
       rw [if_pos (Qm n x ha.1)] at l1;by_cases q2:x=z
       ·subst q2
        rw [if_pos (Qm n x ha.1)] at l2 ⊢
        exact ih2 ys l1 zs l2 h1.2 h2.2 h3.2 ha.2 hb.2 hc.2
       ·rw [(J5 h2.1 hb.1).2 q2,if_neg WI] at l2
        rw [(J5 h3.1 ha.1).2 q2,if_neg WI];exact l2
      ·rw [(J5 h1.1 ha.1).2 q1,if_neg WI] at l1
       by_cases q2:y=z
       ·subst q2
        rw [(J5 h3.1 ha.1).2 q1,if_neg WI];exact l1
       ·rw [(J5 h2.1 hb.1).2 q2,if_neg WI] at l2
        have l3:=ih x y z h1.1 h2.1 h3.1 ha.1 hb.1 hc.1 l1 l2
        have q3:x≠z:=λe=>by
         subst e;rw [Nd n x ha.1] at l3;cases l3
        rw [(J5 h3.1 ha.1).2 q3,if_neg WI];exact l3
def Qi (n:Nat)(ds:List D):Prop:=(∀a∈ds,pln n a=true)/\∀a∈ds,∀b∈ds,Qa n a b=true
theorem Qi.as {n:Nat}{ds:List D}(h:Qi n ds){a b:D}(ha:a∈ds)(hb:b∈ds)(l:ltD a b=true):ltD b a=false:=by
 cases q:ltD b a
 ·rfl
 ·have:=Fd n a b a (h.2 a ha b hb) (h.2 b hb a ha) (h.2 a ha a ha) (h.1 a ha) (h.1 b hb) (h.1 a ha) l q
  rw [Nd n a (h.1 a ha)] at this;cases this
theorem Qi.le_tr {n:Nat}{ds:List D}(h:Qi n ds){a b c:D}(ha:a∈ds)(hb:b∈ds)(hc:c∈ds)(l1:ltD b a=false)(l2:ltD c b=false):ltD c a=false:=by
 rcases G7 n a b (h.2 a ha b hb) (h.1 a ha) (h.1 b hb) with z|z|z
 ·subst z;exact l2
 ·rcases G7 n b c (h.2 b hb c hc) (h.1 b hb) (h.1 c hc) with y|y|y
  ·subst y;exact l1
  ·exact h.as ha hc (Fd n a b c (h.2 a ha b hb) (h.2 b hb c hc) (h.2 a ha c hc) (h.1 a ha) (h.1 b hb) (h.1 c hc) z y)
  ·rw [l2] at y;cases y
 ·rw [l1] at z;cases z
theorem Qi.anti {n:Nat}{ds:List D}(h:Qi n ds){a b:D}(ha:a∈ds)(hb:b∈ds)(l1:ltD b a=false)(l2:ltD a b=false):a=b:=by
 rcases G7 n a b (h.2 a ha b hb) (h.1 a ha) (h.1 b hb) with z|z|z
 ·exact z
 ·rw [l2] at z;cases z
 ·rw [l1] at z;cases z
def CI (x:D):List D->List D
 |[]=>[x]
 |y :: r=>if ltD y x=true then y :: CI x r else x :: y :: r
def Qq:List D->List D
 |[]=>[]
 |x :: r=>CI x (Qq r)
theorem Gg (x:D):∀l:List D,(CI x l).Perm (x :: l)
 |[]=>.refl _
 |y :: r=>by
  unfold CI;split
  ·exact ((Gg x r).cons y).trans (.swap x y r)
  ·exact .refl _
theorem Qv:∀l:List D,(Qq l).Perm l
 |[]=>.refl _
 |x :: r=>(Gg x (Qq r)).trans ((Qv r).cons x)
abbrev leD (a b:D):Prop:=ltD b a=false
theorem Tq {n:Nat}{ds:List D}(h:Qi n ds){x:D}(hx:x∈ds):∀{l:List D},(∀a∈l,a∈ds)->l.Pairwise leD->(CI x l).Pairwise leD
 |[],_,_=>List.pairwise_singleton _ _
 |y :: r,hm,hs=>by
  rw [W00] at hs;have hy:=hm y WC
  unfold CI;split
  ·rename_i c
   rw [W00];refine⟨λa ha=>?_,Tq h hx (λa ha=>hm a (WD _ ha)) hs.2⟩
   rcases Wx.mp ((Gg x r).mem_iff.mp ha) with z|z
   ·subst z;exact h.as hy hx c
   ·exact hs.1 a z
  ·rename_i c
   have c':ltD y x=false:=by simpa using c
   rw [W00,W00];refine⟨λa ha=>?_,hs⟩
   rcases Wx.mp ha with z|z
   ·subst z;exact c'
   ·exact h.le_tr hx hy (hm a ha) c' (hs.1 a z)
theorem Jt {n:Nat}{ds:List D}(h:Qi n ds):∀{l:List D},(∀a∈l,a∈ds)->(Qq l).Pairwise leD
 |[],_=>.nil
 |x :: r,hm=>Tq h (hm x WC) (λa ha=>hm a (WD _ ((Qv r).mem_iff.mp ha))) (Jt h λa ha=>hm a (WD _ ha))
theorem BT {n:Nat}{ds out:List D}(h:Qi n ds)(hp:out.Perm ds)(hs:out.Pairwise leD):out=Qq ds:=
 List.Perm.eq_of_pairwise (le:=leD) (λa b ha hb l1 l2=>h.anti (hp.mem_iff.mp ha) ((Qv ds).mem_iff.mp hb) l1 l2) hs (Jt h λ_ z=>z) (hp.trans (Qv ds).symm)
end DL
namespace DL
open PySem PySem.Spec PyProof.Rows L2
section
variable {X:Cx} {e a b c:Expr} {es:List Expr} {pos:Pos} {st:Stmt} {JL:List Stmt}
def mNx:MS:=λen S=>some (.nx,en,S)
def Ya (a b:MS):MS:=λen S=>(a en S).bind λp=>match p.1 with | .nx=>b p.2.1 p.2.2|f=>some (f,p.2.1,p.2.2)
theorem Yc:SB X [] mNx:=by
 refine KO Ej ?_
 rintro D σ H ⟨ρ,en,S,f,en',S',E,R,e,k⟩
 cases e;exact k ρ H σ Ext.refl R E
theorem Zd {m:MS}(h:SS X st m):SB X [st] m:=Ei h
theorem Z7 {m n:MS}(h:SS X st m)(t:SB X JL n):SB X (st :: JL) (Ya m n):=by
 refine KO (La h t) ?_
 rintro D σ H ⟨ρ,en,S,f,en',S',E,R,e,k⟩
 unfold Ya at e;obtain⟨p,e1,e⟩:=W1.mp e
 obtain⟨fa,en1,S1⟩:=p
 refine⟨ρ,en,S,fa,en1,S1,E,R,e1,λρ1 H1 σ1 X1 R1 E1=>?_⟩
 cases fa with
 |nx=>exact⟨ρ1,en1,S1,f,en',S',E1,R1,e,λρ2 H2 σ2 X2 R2 E2=>k ρ2 H2 σ2 (X1.trans X2) R2 E2⟩
 |rt d=>cases e;exact k ρ1 H1 σ1 X1 R1 E1
 |bk=>cases e;exact k ρ1 H1 σ1 X1 R1 E1
 |ct=>cases e;exact k ρ1 H1 σ1 X1 R1 E1
def Ql (m:M D):MS:=λen S=>(m en S).map λp=>(.rt p.1,en,p.2)
theorem Zt {m:M D}(h:SE X e m):SS X (.Return (some e) pos) (Ql m):=by
 refine Jo (Hu h) ?_
 rintro D σ H ⟨ρ,en,S,f,en',S',E,R,e,k⟩
 unfold Ql at e;obtain⟨p,e1,e2⟩:=Wh.mp e
 cases e2;exact⟨ρ,en,S,p.1,p.2,E,R,e1,λx ρ1 H1 X1 R1 d1=>k ρ1 H1 σ X1 R1 (E.up X1) x d1⟩
def UB (m:M D):MS:=λen S=>(m en S).map λp=>(.nx,en,p.2)
theorem Js {m:M D}(h:SE X e m)(hs:swapsWith e none pos.line X.env=pure false:=by rfl):SS X (.Expr e pos) (UB m):=by
 refine Jo (El h hs) ?_
 rintro D σ H ⟨ρ,en,S,f,en',S',E,R,e,k⟩
 unfold UB at e;obtain⟨p,e1,e2⟩:=Wh.mp e
 cases e2;exact⟨ρ,en,S,p.1,p.2,E,R,e1,λx ρ1 H1 X1 R1 d1=>k ρ1 H1 σ X1 R1 (E.up X1)⟩
def JE (c:M Bool)(a b:MS):MS:=λen S=>(c en S).bind λp=>if p.1 then a en p.2 else b en p.2
theorem Qb {c:Expr}{A B:List Stmt}{mc:M Bool}{ma mb:MS}(hc:ST X c mc)(ha:SB X A ma)(hb:SB X B mb):SS X (.If c A B pos) (JE mc ma mb):=by
 refine Jo (DY hc ha hb) ?_
 rintro D σ H ⟨ρ,en,S,f,en',S',E,R,e,k⟩
 unfold JE at e;obtain⟨p,e1,e⟩:=W1.mp e
 refine⟨ρ,en,S,p.1,p.2,E,R,e1,λρ1 H1 X1 R1=>?_⟩
 by_cases hp:p.1=true
 ·rw [if_pos hp] at e ⊢
  exact⟨ρ1,en,p.2,f,en',S',E.up X1,R1,e,λρ2 H2 σ2 X2 R2 E2=>k ρ2 H2 σ2 (X1.trans X2) R2 E2⟩
 ·rw [if_neg hp] at e ⊢
  exact⟨ρ1,en,p.2,f,en',S',E.up X1,R1,e,λρ2 H2 σ2 X2 R2 E2=>k ρ2 H2 σ2 (X1.trans X2) R2 E2⟩
def GD (K:W3)(g:TG)(gd:D->En->Option En):Prop:=
 ∀ρ H en σ d v en',EnR K ρ H en σ->DR K ρ H d v->gd d en=some en'->∃σ',EnR K ρ H en' σ'/\∀Q:L2.St->Hp->Prop,Q σ' H->g v σ H Q
def GsD (K:W3)(g:TGs)(gd:List D->En->Option En):Prop:=
 ∀ρ H en σ ds vs en',EnR K ρ H en σ->DsR K ρ H ds vs->gd ds en=some en'->∃σ',EnR K ρ H en' σ'/\∀Q:L2.St->Hp->Prop,Q σ' H->g vs σ H Q
def gN (i:Nat):D->En->Option En:=λd en=>some (en.set i (some d))
def Gj:List D->En->Option En:=λds en=>match ds with|[]=>some en|_=>none
def Yj (g:D->En->Option En)(r:List D->En->Option En):List D->En->Option En:=λds en=>match ds with|[]=>none|d :: ds=>(g d en).bind (r ds)
def gT (n:Nat)(gs:List D->En->Option En):D->En->Option En:=λd en=>match d with | .tup ds=>if ds.length=n then gs ds en else none|_=>none
theorem Zv {K:W3}{i:Nat}:GD K (Bt i) (gN i):=by
 intro ρ H en σ d v en' E h e
 cases e;exact⟨_,E.set h,λQ q=>q⟩
theorem Gi {K:W3}:GsD K Iw Gj:=by
 intro ρ H en σ ds vs en' E h e
 cases ds with
 |nil=>
  cases e;have hv:vs=[]:=by unfold DsR at h;exact h
  exact⟨σ,E,λQ q=>⟨hv,q⟩⟩
 |cons d ds=>cases e
theorem Yq {K:W3}{t:TG}{u:TGs}{g:D->En->Option En}{r:List D->En->Option En}(h1:GD K t g)(h2:GsD K u r):GsD K (P6 t u) (Yj g r):=by
 intro ρ H en σ ds vs en' E h e
 cases ds with
 |nil=>cases e
 |cons d ds=>
  obtain⟨en1,e1,e2⟩:=W1.mp e
  unfold DsR at h;obtain⟨x,xs,rfl,d1,d2⟩:=h
  obtain⟨σ1,E1,k1⟩:=h1 ρ H en σ d x en1 E d1 e1
  obtain⟨σ2,E2,k2⟩:=h2 ρ H en1 σ1 ds xs en' E1 d2 e2
  exact⟨σ2,E2,λQ q=>⟨x,xs,rfl,k1 _ (k2 Q q)⟩⟩
theorem Mo {K:W3}{n:Nat}{t:TGs}{gs:List D->En->Option En}(h:GsD K t gs):GD K (OL K n t) (gT n gs):=by
 intro ρ H en σ d v en' E hd e
 cases d with
 |tup ds=>
  obtain⟨a,xs,rfl,h1,h2⟩:=hd.of_tup
  dsimp only [gT] at e;split at e
  ·obtain⟨σ',E',k⟩:=h ρ H en σ ds xs en' E h2 e
   exact⟨σ',E',λQ q=>⟨a,xs,rfl,.of h1,by rw [<-h2.length];assumption,k Q q⟩⟩
  ·cases e
 |_=>cases e
def Q5 (m:M D)(g:D->En->Option En):MS:=λen S=>(m en S).bind λp=>(g p.1 en).map λen'=>(.nx,en',p.2)
theorem MA {K:W3}{m:M D}{g:TG}{gd:D->En->Option En}(hg:GD K g gd){D:Ends}{σ:L2.St}{H:Hp}(h:tMS K (Q5 m gd) D σ H):Dg (tM K m) g D σ H:=by
 obtain⟨ρ,en,S,f,en',S',E,R,e,k⟩:=h
 unfold Q5 at e;obtain⟨p,e1,e⟩:=W1.mp e
 obtain⟨en1,e2,e3⟩:=Wh.mp e
 cases e3;refine⟨ρ,en,S,p.1,p.2,E,R,e1,λx ρ1 H1 X1 R1 d1=>?_⟩
 obtain⟨σ',E',q⟩:=hg ρ1 H1 en σ p.1 x _ (E.up X1) d1 e2
 exact q _ (k ρ1 H1 σ' X1 R1 E')
theorem F3 {tg:Expr}{m:M D}{g:TG}{gd:D->En->Option En}(he:SE X e m)(hp:PG X tg g)(hg:GD X.K g gd)(hs:swapsWithSole [tg] e pos.line X.env=pure false:=by rfl)(hw:swappedStores [tg] e X.env=pure none:=by rfl)
  (h1:(assignEach [tg] X.env).map (·.2)=[assign tg X.env]:=by rfl):SS X (.Assign [tg] e pos) (Q5 m gd):=Jo (F8 he hp hs hw h1) λ_ _ _=>MA hg
theorem Y5 {i:Nat}{x:Str}{m:M D}{pos':Pos}(hN:X.N.Nodup)(hi:X.N[i]? = some x)(hx:Loc X.env.scope x)(he:SE X e m)(hs:swapsWith e (some (.Name x pos')) pos.line X.env=pure false:=by rfl)
  (hf:X.fn x=true\/X.env.scope.names.lookup x=some .local:=by first|exact .inl rfl|exact .inr rfl|assumption):SS X (.Assign [.Name x pos'] e pos) (Q5 m (gN i)):=
 Jo (Ht hN hi hx he hs hf) λ_ _ _=>MA Zv
inductive Gd where
 |no
 |lst (n:Nat)
 |zl (gs:List (Nat×List D))
 |fr (n:Nat) (kvs:List (D×D)) (th:Bool)
def BP (gd:Gd)(ds:List D)(S:Sto):Prop:=match gd with | .no=>True | .lst n=>S[n]? = some (.lst ds) | .zl gs=>∀p∈gs,S[p.1]? = some (.lst p.2) | .fr n kvs _=>S[n]? = some (.fdct kvs)
def BR (gd:Gd)(S:Sto):Option Sto:=match gd with
 | .fr n _ true=>match S[n]? with|some (.fdct kvs)=>some (S.set n (.dct kvs))|_=>none
 |_=>some S
def ItR (K:W3)(ρ0:List Addr)(H0:Hp)(J:It)(ds:List D)(gd:Gd):Prop:=∀ρ H S,Ext ρ0 H0 ρ H->StR K ρ H S->BP gd ds S->
 (∀(i:Nat) d,ds[i]? = some d->J.go i H/\∀x H',J.yld i H x H'->Ext ρ H ρ H'/\StR K ρ H' S/\DR K ρ H' d x)/\J.stop ds.length H
abbrev ItD:=List D×Gd
def GF (X:Cx)(gd:Gd)(ρ:List Addr)(H:Hp):Prop:=match gd with
 | .fr n _ true=>∃a,ρ[n]? = some a/\(∀o u,H a≠some (.frz o u))/\(∀xs,H a≠some (.tup xs))/\∀o u,X.H₀ a≠some (.frz o u)
 |_=>True
def tMI (X:Cx)(mi:M ItD):TI:=λσ H R=>∃ρ en S r S',EnR X.K ρ H en σ/\StR X.K ρ H S/\mi en S=some (r,S')/\∀J ρ' H',Ext ρ H ρ' H'->StR X.K ρ' H' S'->ItR X.K ρ' H' J r.1 r.2->GF X r.2 ρ' H->R J H'
def SI (X:Cx)(tg iter:Expr)(mi:M ItD):Prop:=PI X tg iter (tMI X mi)
def Kh (X:Cx)(H H':Hp):Prop:=∀pins σ s,Inv X pins σ H s->Inv X pins σ H' s
theorem Kh.refl {X:Cx}{H:Hp}:Kh X H H:=λ_ _ _ h=>h
theorem BY {t:TE}(h:PE X e t):PE X e (λσ H Q=>t σ H λv H'=>∃H'',Kh X H' H''/\Q v H''):=by
 intro pins s σ H Q I q;exact thn (h pins s σ H _ I q) λv s1 ⟨x,H1,I1,r1,H2,th,q1⟩=>⟨x,H2,th _ _ _ I1,r1,q1⟩
theorem KP {st:Stmt}{t:TS}(h:PS X st t):PS X st (λD σ H=>t ⟨λσ H'=>∃H'',Kh X H' H''/\D.nx σ H'',λv H'=>∃H'',Kh X H' H''/\D.rt v H'',λσ H'=>∃H'',Kh X H' H''/\D.bk σ H'',λσ H'=>∃H'',Kh X H' H''/\D.ct σ H''⟩ σ H):=by
 intro pins s σ H D I q;refine thn (h pins s σ H _ I q) λf s1 z=>?_
 cases f with
 |next=>obtain⟨σ1,H1,I1,H2,th,q1⟩:=z;exact⟨σ1,H2,th _ _ _ I1,q1⟩
 |brk=>obtain⟨σ1,H1,I1,H2,th,q1⟩:=z;exact⟨σ1,H2,th _ _ _ I1,q1⟩
 |cont=>obtain⟨σ1,H1,I1,H2,th,q1⟩:=z;exact⟨σ1,H2,th _ _ _ I1,q1⟩
 |ret u=>obtain⟨v,σ1,H1,I1,r1,H2,th,q1⟩:=z;exact⟨v,σ1,H2,th _ _ _ I1,r1,q1⟩
theorem Mj {pins:List (Addr×Obj)}{σ:L2.St}{H:Hp}{s:Shared}{a:Addr}{o:Obj}{w:HO}(I:Inv X pins σ H s)(e:H a=some (.frz o w))(hn:∀o u,X.H₀ a≠some (.frz o u)):Inv X pins σ (upd H a w) s:=by
 have ho:Zz X.prog X.w H s.heap a (.frz o w):=I.hok a _ e
 have ok':HOk X.prog X.w (upd H a w) s.heap:=λb u hb=>by
  have st:Zz X.prog X.w H s.heap b u:=by
   by_cases q:b=a
   ·subst q
    rw [Z6] at hb;cases hb;exact ho.2
   ·rw [Ze q] at hb
    exact I.hok b u hb
  refine st.stay (λ_ _ _ h=>h) (λc h=>?_) λc xs h=>?_
  ·rw [Ze (JD h e (λz=>nomatch z))];exact h
  ·rw [Ze (JD h e (λz=>nomatch z))];exact h
 have ne0:∀{b:Addr},H b=none->upd H a w b=none:=λ{b} h=>by rw [Ze (Ne.symm (Zw e h))];exact h
 refine⟨I.ok,I.os,I.bare,⟨I.base.keep,I.base.slot,λb u h1 h2 h3=>ne0 (I.base.free b u h1 h2 h3),I.base.there,λb xs h=>?_,λb u v h=>?_,λb ps h=>?_⟩,I.loc,I.cell,ne0 I.free,λx c h=>ne0 (I.freeC x c h),λp hp=>?_,ok',I.len⟩
 ·have:=I.base.tups b xs h
  rw [Ze (JD this e (λz=>nomatch z))];exact this
 ·have:=I.base.frzs b u v h
  by_cases q:b=a
  ·subst q;exact absurd h (hn _ _)
  ·rw [Ze q];exact this
 ·obtain⟨more,this⟩:=I.base.tbls b ps h
  exact⟨more,by rw [Ze (JD this e (λz=>nomatch z))];exact this⟩
 ·obtain⟨p1,p2,p3⟩:=I.pin p hp
  exact⟨p1,ne0 p2,p3⟩
theorem TF {gd:Gd}{ρ ρ' ρ1:List Addr}{H H1 H':Hp}{S' S'':Sto}(X1:Ext ρ H ρ1 H1)(F:GF X gd ρ1 H)(X2:Ext ρ1 H1 ρ' H')(R:StR X.K ρ' H' S')(e:BR gd S'=some S'') :
  ∃H'',Kh X H' H''/\Ext ρ H ρ' H''/\StR X.K ρ' H'' S''/\Ext0 ρ' H' ρ' H''/\∀p o,H' p=none->H'' p=none/\Kh X (upd H' p o) (upd H'' p o):=by
 have triv:some S'=some S''->∃H'',Kh X H' H''/\Ext ρ H ρ' H''/\StR X.K ρ' H'' S''/\Ext0 ρ' H' ρ' H''/\∀p o,H' p=none->H'' p=none/\Kh X (upd H' p o) (upd H'' p o):=λz=>by
  cases z;exact⟨H',.refl,X1.trans X2,R,Ext.refl.weak,λp o h=>⟨h,.refl⟩⟩
 cases gd with
 |no=>exact triv e
 |lst n=>exact triv e
 |zl gs=>exact triv e
 |fr n kvs th=>
  cases th with
  |false=>exact triv e
  |true=>
   obtain⟨a,h1,h2,h3,h4⟩:=F
   dsimp only [BR] at e;split at e
   ·rename_i kvs' hn
    cases e;obtain⟨o,tab,t1,t2,t3⟩:=R.thaw (X2.pre n a h1) hn
    refine⟨_,λpins σ s I=>Mj I t1 h4,⟨λm b hb=>X2.pre m b (X1.pre m b hb),λb xs hb=>?_,λb o u hb=>?_⟩,t2,t3,λp ob hp=>?_⟩
    ·have:=(X1.trans X2).tup b xs hb
     rw [Ze (JD this t1 (λz=>nomatch z))];exact this
    ·have:=(X1.trans X2).frz b o u hb
     by_cases q:b=a
     ·subst q;exact absurd hb (h2 _ _)
     ·rw [Ze q];exact this
    ·have hpa:a≠p:=Zw t1 hp
     refine⟨by rw [Ze (Ne.symm hpa)];exact hp,λpins σ s I=>?_⟩
     have:=Mj (a:=a) (o:=o) (w:=tab) I (by rw [Ze hpa];exact t1) h4
     have eq:upd (upd H' p ob) a tab=upd (upd H' a tab) p ob:=by
      funext b
      unfold upd;by_cases q1:b=a
      ·rw [if_pos q1]
       by_cases q2:b=p
       ·exact absurd (q1.symm.trans q2) hpa
       ·rw [if_neg q2,if_pos q1]
      ·rw [if_neg q1]
       by_cases q2:b=p
       ·rw [if_pos q2,if_pos q2]
       ·rw [if_neg q2,if_neg q2,if_neg q1]
     rw [eq] at this;exact this
   ·cases e
theorem NY {tg iter:Expr}{w w':TI}(h:PI X tg iter w)(i:∀σ H R,w' σ H R->w σ H R):PI X tg iter w':=λpins s σ H R I q=>h pins s σ H R I (i σ H R q)
open Classical in
def Q9 (ds:List D)(gd:Gd)(g:D->En->Option En)(body:MS):List D->En->Sto->Option (Fl×En×Sto)
 |[],en,S=>if BP gd ds S then some (.nx,en,S) else none
 |d :: r,en,S=>if BP gd ds S then (g d en).bind λen1=>(body en1 S).bind λp=>match p.1 with
   | .nx=>Q9 ds gd g body r p.2.1 p.2.2
   | .ct=>Q9 ds gd g body r p.2.1 p.2.2
   | .bk=>some (.nx,p.2.1,p.2.2)
   | .rt v=>some (.rt v,p.2.1,p.2.2)
  else none
def thF (gd:Gd)(r:Option (Fl×En×Sto)):Option (Fl×En×Sto):=r.bind λq=>(BR gd q.2.2).map λS'=>(q.1,q.2.1,S')
def Ro (mi:M ItD)(g:D->En->Option En)(body:MS):MS:=λen S=>(mi en S).bind λp=>thF p.1.2 (Q9 p.1.1 p.1.2 g body p.1.1 en p.2)
theorem GH {tg iter:Expr}{body:List Stmt}{mi:M ItD}{g:TG}{gd:D->En->Option En}{mb:MS}(hp:PassesOwn (model X.prog X.w) X.A X.env X.xe)(hc:X.calm=true)(hi:SI X tg iter mi)(hg:PG X tg g)(hgd:GD X.K g gd)(hb:SB X body mb)
  (hs:∀x,foldedSetIterable iter X.env x=pure x:=by intro _;rfl):SS X (.For tg iter body [] pos) (Ro mi gd mb):=by
 refine Jo (KP (Hv hp hc hi hg hb hs)) ?_
 rintro D σ H ⟨ρ,en,S,f,enF,SF,E,R,e,k⟩
 unfold Ro at e;obtain⟨p,e1,e⟩:=W1.mp e
 obtain⟨⟨ds,gdn⟩,S1⟩:=p
 refine⟨ρ,en,S,(ds,gdn),S1,E,R,e1,λJ ρ1 H1 X1 R1 IT GG=>?_⟩
 dsimp only at e IT GG;unfold thF at e;obtain⟨⟨f0,en0,S0⟩,eg,e0⟩:=W1.mp e
 obtain⟨SF',e00,e0⟩:=Wh.mp e0
 injection e0 with z1 z2
 injection z2 with z2 z3
 dsimp only at z1 z2 z3 e00;subst z1 z2 z3;refine⟨λi m σ' H'=>m+i=ds.length/\∃ρ' en' S',Ext ρ1 H1 ρ' H'/\StR X.K ρ' H' S'/\EnR X.K ρ' H' en' σ'/\Q9 ds gdn gd mb (ds.drop i) en' S'=some (f0,en0,S0),⟨ds.length,by omega,ρ1,en,S1,Ext.refl,R1,E.up X1,by simpa using eg⟩,?_⟩
 rintro i m σ' H' ⟨hm,ρ',en1,S2,X2,R2,E2,e2⟩
 cases hd:ds.drop i with
 |nil=>
  rw [hd] at e2;unfold Q9 at e2;split at e2
  ·rename_i hg0
   cases e2;have hi:i=ds.length:=by
    have:=congrArg V4 hd
    simp at this
    omega
   subst hi;obtain⟨H9,t1,t2,t3,t4,t5⟩:=TF X1 GG X2 R2 e00
   exact .inl ⟨(IT ρ' H' _ X2 R2 hg0).2,H9,t1,k ρ' H9 σ' t2 t3 (E2.up0 t4)⟩
  ·cases e2
 |cons d r=>
  rw [hd] at e2;unfold Q9 at e2;split at e2
  ·rename_i hg0
   obtain⟨en3,e3,e2⟩:=W1.mp e2
   obtain⟨q,e4,e2⟩:=W1.mp e2
   obtain⟨fq,en4,S4⟩:=q
   have hlt:i<ds.length:=by
    have:=congrArg V4 hd
    simp at this
    omega
   have hdi:ds[i]? = some d:=by
    have:=congrArg (λl=>l[0]?) hd
    simpa using this
   have hr:ds.drop (i+1)=r:=by
    have:=congrArg List.tail hd
    simpa using this
   obtain⟨go,yl⟩:=(IT ρ' H' _ X2 R2 hg0).1 i d hdi
   refine .inr ⟨go,λσ'' H''=>∃ρ'' en'' S'',Ext ρ1 H1 ρ'' H''/\StR X.K ρ'' H'' S''/\EnR X.K ρ'' H'' en'' σ''/\Q9 ds gdn gd mb r en'' S''=some (f0,en0,S0),λσ'' H'' ⟨ρ'',en'',S'',a1,a2,a3,a4⟩=>⟨m-1,by omega,by omega,ρ'',en'',S'',a1,a2,a3,by rw [hr];exact a4⟩,λx H3 y=>?_⟩
   obtain⟨X3,R3,d3⟩:=yl x H3 y
   obtain⟨σ3,E3,gq⟩:=hgd ρ' H3 en1 σ' d x en3 (E2.up X3) d3 e3
   refine gq _ ⟨ρ',en3,S2,fq,en4,S4,E3,R3,e4,λρ4 H4 σ4 X4 R4 E4=>?_⟩
   cases fq with
   |nx=>exact⟨ρ4,en4,S4,(X2.trans X3).trans X4,R4,E4,e2⟩
   |ct=>exact⟨ρ4,en4,S4,(X2.trans X3).trans X4,R4,E4,e2⟩
   |bk=>
    cases e2;obtain⟨H9,t1,t2,t3,t4,t5⟩:=TF X1 GG ((X2.trans X3).trans X4) R4 e00
    exact⟨H9,t1,k ρ4 H9 σ4 t2 t3 (E4.up0 t4)⟩
   |rt v=>
    cases e2;obtain⟨H9,t1,t2,t3,t4,t5⟩:=TF X1 GG ((X2.trans X3).trans X4) R4 e00
    exact λx dx=>⟨H9,t1,k ρ4 H9 σ4 t2 t3 (E4.up0 t4) x (DR.mono t4 _ _ dx)⟩
  ·cases e2
open Classical in
def Yd (ds:List D)(gd:Gd)(cap:En)(g:D->En->Option En)(c:M Bool)(m:M D):List D->List D->Sto->Option (List D×Sto)
 |[],acc,S=>if BP gd ds S/\acc.length<=Wc then some (acc,S) else none
 |d :: r,acc,S=>if BP gd ds S/\acc.length<=Wc then (g d cap).bind λen=>(c en S).bind λp=>
   if p.1 then (m en p.2).bind λq=>Yd ds gd cap g c m r (acc++[q.1]) q.2 else Yd ds gd cap g c m r acc p.2
  else none
def QJ (nT:Nat)(caps:List Nat)(en:En):En:=VQ nT none++caps.map λj=>(en[j]?).getD none
def thC (gd:Gd)(r:Option (List D×Sto)):Option (List D×Sto):=r.bind λq=>(BR gd q.2).map λS'=>(q.1,S')
def Qg (mi:M ItD)(nT:Nat)(caps:List Nat)(g:D->En->Option En)(c:M Bool)(m:M D):M (List D):=λen S=>(mi en S).bind λp=>thC p.1.2 (Yd p.1.1 p.1.2 (QJ nT caps en) g c m p.1.1 [] p.2)
theorem D5 {K:W3}{ρ:List Addr}{H:Hp}{en:En}{σ:L2.St}{nT:Nat}{caps:List Nat}(E:EnR K ρ H en σ):EnR K ρ H (QJ nT caps en) (Jl nT caps σ):=by
 refine⟨by simp [QJ,Jl],λi d e=>?_⟩
 unfold QJ at e;have hi:nT<=i:=by
  by_cases hi:i<nT
  ·rw [WU (by simpa using hi),VB] at e
   split at e<;>cases e
  ·exact W0g hi
 rw [WX (by simpa using hi),VN,WB] at e
 unfold Jl;rw [WX (by simpa using hi),VN,WB]
 cases ej:caps[i-nT]? with
 |none=>rw [ej] at e;cases e
 |some j=>
  rw [ej] at e;have e':(en[j]?).getD none=some d:=WS e
  have e2:en[j]? = some (some d):=by
   cases q:en[j]? with
   |none=>rw [q] at e';cases e'
   |some z=>rw [q] at e';rw [show z=some d from e']
  obtain⟨x,h1,h2⟩:=E.get j d e2
  exact⟨x,by rw [W5,h1];rfl,h2⟩
def QR:M Bool:=λ_ S=>some (true,S)
theorem JI {mi:M ItD}{nT:Nat}{caps:List Nat}{g:TG}{gd:D->En->Option En}{tt:TT}{c:M Bool}{m:M D}(hgd:GD X.K g gd)(htt:∀σ H Q,tMT X.K c σ H Q->tt σ H Q){σ:L2.St}{H:Hp}{Q:VK}
  {ρ:List Addr} {en:En} {S S':Sto} {ds:List D} (E:EnR X.K ρ H en σ) (R:StR X.K ρ H S) (e:Qg mi nT caps gd c m en S=some (ds,S'))
  (k:∀a xs ρ' H',Ext ρ H ρ' H'->StR X.K ρ' H' S'->H' a=none->DsR X.K ρ' H' ds xs->Q (.ref a) (upd H' a (.lst xs))):AW (tMI X mi) nT caps g tt (tM X.K m) σ H (λv H'=>∃H'',Kh X H' H''/\Q v H''):=by
 unfold Qg at e;obtain⟨p,e1,e⟩:=W1.mp e
 obtain⟨⟨is,gdn⟩,S1⟩:=p
 refine⟨ρ,en,S,(is,gdn),S1,E,R,e1,λJ ρ1 H1 X1 R1 IT GG=>?_⟩
 dsimp only at e IT GG;unfold thC at e;obtain⟨⟨ds0,S0⟩,eg,e0⟩:=W1.mp e
 obtain⟨SF',e00,e0⟩:=Wh.mp e0
 injection e0 with z1 z2
 dsimp only at z1 z2 e00;subst z1 z2;refine⟨λi m0 ys H'=>m0+i=is.length/\∃ρ' S2 acc,Ext ρ1 H1 ρ' H'/\StR X.K ρ' H' S2/\DsR X.K ρ' H' acc ys/\Yd is gdn (QJ nT caps en) gd c m (is.drop i) acc S2=some (ds0,S0),⟨is.length,by omega,ρ1,S1,[],Ext.refl,R1,.nil,by simpa using eg⟩,?_⟩
 rintro i m0 ys H' ⟨hm,ρ',S2,acc,X2,R2,D2,e2⟩
 cases hd:is.drop i with
 |nil=>
  rw [hd] at e2;unfold Yd at e2;split at e2
  ·rename_i hg0
   cases e2;have hi:i=is.length:=by
    have:=congrArg V4 hd
    simp at this
    omega
   subst hi;refine .inl ⟨(IT ρ' H' _ X2 R2 hg0.1).2,by rw [<-D2.length];exact hg0.2,λa ha=>?_⟩
   obtain⟨H9,t1,t2,t3,t4,t5⟩:=TF X1 GG X2 R2 e00
   obtain⟨h9,t6⟩:=t5 a (.lst ys) ha
   exact⟨upd H9 a (.lst ys),t6,k a ys ρ' H9 t2 t3 h9 (DsR.mono t4 _ _ D2)⟩
  ·cases e2
 |cons d r=>
  rw [hd] at e2;unfold Yd at e2;split at e2
  ·rename_i hg0
   obtain⟨en3,e3,e2⟩:=W1.mp e2
   obtain⟨q,e4,e2⟩:=W1.mp e2
   have hlt:i<is.length:=by
    have:=congrArg V4 hd
    simp at this
    omega
   have hdi:is[i]? = some d:=by
    have:=congrArg (λl=>l[0]?) hd
    simpa using this
   have hr:is.drop (i+1)=r:=by
    have:=congrArg List.tail hd
    simpa using this
   obtain⟨go,yl⟩:=(IT ρ' H' _ X2 R2 hg0.1).1 i d hdi
   refine .inr ⟨go,by rw [<-D2.length];exact hg0.2,λx H3 y=>?_⟩
   obtain⟨X3,R3,d3⟩:=yl x H3 y
   obtain⟨σ3,E3,gq⟩:=hgd ρ' H3 (QJ nT caps en) (Jl nT caps σ) d x en3 (((D5 E).up X1).up X2 |>.up X3) d3 e3
   refine gq _ (htt _ _ _ ⟨ρ',en3,S2,q.1,q.2,E3,R3,e4,λρ4 H4 X4 R4=>?_⟩)
   by_cases hq:q.1=true
   ·rw [if_pos hq] at e2 ⊢
    obtain⟨w,e5,e2⟩:=W1.mp e2
    refine⟨ρ4,en3,q.2,w.1,w.2,E3.up X4,R4,e5,λv ρ5 H5 X5 R5 d5=>⟨m0-1,by omega,by omega,ρ5,w.2,acc++[w.1],((X2.trans X3).trans X4).trans X5,R5,?_,by rw [hr];exact e2⟩⟩
    exact (((D2.up X3).up X4).up X5).append (.cons d5 .nil)
   ·rw [if_neg hq] at e2 ⊢
    exact⟨m0-1,by omega,by omega,ρ4,q.2,acc,(X2.trans X3).trans X4,R4,(D2.up X3).up X4,by rw [hr];exact e2⟩
  ·cases e2
structure CompSc (X:Cx) (scope:Scope) (cn:List Str) (caps:List Nat):Prop where
 cell:∀y∈scope.names,y.2≠.cell
 kind:scope.kind = .function
 names:∀y∈scope.names,y.2 = .local->scope.names.lookup y.1=some .local
 free:∀y∈scope.names,y.2 = .free->X.env.scope.names.lookup y.1=some .cell\/X.env.scope.names.lookup y.1=some .free
 cap:T1 X scope cn caps
section
variable {tg iter elt:Expr} {ifs:List Expr} {scope:Scope} {tgs cn:List Str} {caps:List Nat} {mi:M ItD} {g:TG} {gd:D->En->Option En} {mc:M Bool} {m:M D}
def SF (X:Cx)(ifs:List Expr)(m:M Bool):Prop:=PF X ifs (tMT X.K m)
theorem JY:SF X [] QR:=by
 intro pins s σ H Q I q;obtain⟨ρ,en,S,b,S',E,R,e,k⟩:=q
 cases e;exact HB pins s σ H Q I (k ρ H Ext.refl R)
theorem GK {c:Expr}(h:ST X c mc):SF X [c] mc:=HA h
theorem TK (hc:X.calm=true)(sc:CompSc X scope cn caps)(hi:SI X tg iter mi)(hlow:PB tgs.length g)(hgd:GD X.K g gd)
  (hg:∀fp s H C,PG (ZF X scope (tgs++cn) fp s H C) tg g) (hf:∀fp s H C,SF (ZF X scope (tgs++cn) fp s H C) ifs mc) (he:∀fp s H C,SE (ZF X scope (tgs++cn) fp s H C) elt m)
  (hs:∀x,foldedSetIterable iter X.env x=pure x:=by intro _;rfl):SQ X (.ListComp elt [⟨tg,iter,ifs,0⟩] scope pos) (Qg mi tgs.length caps gd mc m):=by
 refine ZH (BY (BZ (tt:=tMT X.K mc) (te:=tM X.K m) hc sc.cell sc.kind sc.names sc.free sc.cap hi hlow hg hf he hs)) ?_
 rintro σ H Q ⟨ρ,en,S,ds,S',E,R,e,k⟩
 exact JI hgd (λ_ _ _ h=>h) E R e λa xs ρ' H' X1 R1 ha d1=>k a xs ρ' _ (X1.trans (Ext.new ha)) (R1.new ha) (.inl (.of Z6)) (d1.up (Ext.new ha))
def QS (m:M (List D)):M D:=λen S=>(m en S).map λp=>(.ref p.2.length,p.2++[.lst p.1])
theorem BW (hc:X.calm=true)(sc:CompSc X scope cn caps)(hi:SI X tg iter mi)(hlow:PB tgs.length g)(hgd:GD X.K g gd)
  (hg:∀fp s H C,PG (ZF X scope (tgs++cn) fp s H C) tg g) (hf:∀fp s H C,SF (ZF X scope (tgs++cn) fp s H C) ifs mc) (he:∀fp s H C,SE (ZF X scope (tgs++cn) fp s H C) elt m)
  (hs:∀x,foldedSetIterable iter X.env x=pure x:=by intro _;rfl):SE X (.ListComp elt [⟨tg,iter,ifs,0⟩] scope pos) (QS (Qg mi tgs.length caps gd mc m)):=by
 refine ZH (BY (BZ (tt:=tMT X.K mc) (te:=tM X.K m) hc sc.cell sc.kind sc.names sc.free sc.cap hi hlow hg hf he hs)) ?_
 rintro σ H Q ⟨ρ,en,S,v,S',E,R,e,k⟩
 unfold QS at e;obtain⟨p,e1,e2⟩:=Wh.mp e
 cases e2;refine JI hgd (λ_ _ _ h=>h) E R e1 λa xs ρ' H' X1 R1 ha d1=>?_
 refine k _ (ρ'++[a]) _ (X1.trans (Ext.newRef ha)) (R1.push ha ⟨xs,Z6,d1.up (Ext.newRef ha)⟩) (.ref ?_)
 rw [<-R1.len];simp
end
theorem TJ {tg iter elt:Expr}{ifs:List Expr}{scope:Scope}{tgs cn:List Str}{caps:List Nat}{mi:M ItD}{g:TG}{gd:D->En->Option En}{mc:M Bool}{m:M D}{i:Nat}{y:Str}{py spos:Pos}
  (hN:X.N.Nodup) (hy:X.N[i]? = some y) (hx:X.env.scope.names.lookup y=some .local)
  (hc:X.calm=true) (sc:CompSc X scope cn caps) (hi:SI X tg iter mi) (hlow:PB tgs.length g) (hgd:GD X.K g gd)
  (hg:∀fp s H C,PG (ZF X scope (tgs++cn) fp s H C) tg g) (hf:∀fp s H C,SF (ZF X scope (tgs++cn) fp s H C) ifs mc) (he:∀fp s H C,SE (ZF X scope (tgs++cn) fp s H C) elt m)
  (hsw:swapsWith (.ListComp elt [⟨tg,iter,ifs,0⟩] scope pos) (some (.Name y py)) spos.line X.env=pure true:=by rfl)
  (hs:∀x,foldedSetIterable iter X.env x=pure x:=by intro _;rfl):SS X (.Assign [.Name y py] (.ListComp elt [⟨tg,iter,ifs,0⟩] scope pos) spos) (Q5 (QS (Qg mi tgs.length caps gd mc m)) (gN i)):=by
 refine Jo (KP (Ek (tt:=tMT X.K mc) (te:=tM X.K m) hsw hN hy hx hc sc.cell sc.kind sc.names sc.free sc.cap hi hlow hg hf he hs)) ?_
 rintro D σ H ⟨ρ,en,S,f,en',S',E,R,e,k⟩
 unfold Q5 QS at e;obtain⟨p,e1,e⟩:=W1.mp e
 obtain⟨q,e2,e3⟩:=Wh.mp e1
 obtain⟨en1,e4,e5⟩:=Wh.mp e
 cases e3;cases e4;cases e5;refine JI (Q:=λv H''=>D.nx (σ.set i (some v)) H'') hgd (λ_ _ _ h=>h) E R e2 λa xs ρ' H' X1 R1 ha d1=>?_
 have d2:DR X.K (ρ'++[a]) (upd H' a (.lst xs)) (.ref q.2.length) (.ref a):=.ref (by rw [<-R1.len];simp)
 exact k (ρ'++[a]) _ _ (X1.trans (Ext.newRef ha)) (R1.push ha ⟨xs,Z6,d1.up (Ext.newRef ha)⟩) ((E.up (X1.trans (Ext.newRef ha))).set d2)
def spD (K:W3)(n:Nat)(F:List D->Sto->Option (D×Sto)):Sp:=λvs H Q _=>vs.length=n/\rDs K F vs H Q
def ZK (F:List D->Sto->Option (D×Sto))(m:M (List D)):M D:=λen S=>(m en S).bind λp=>F p.1 p.2
theorem Zg {x:Str}{p:Pos}{k n:Nat}{f:Addr}{fd:FuncData}{ps:List Str}{F:List D->Sto->Option (D×Sto)}{m:M (List D)}(hF:FnOk X.prog X.w X.K X.mg X.base CX0 k f fd ps (spD X.K n F))(hr:Room k X.A)(hg:Gl X x)(hm:X.mg x=some (.ref f))
  (hk:Wv X.K (.ref f)=true) (hb:Jm X.K fd ps []) (ha:SA X (a :: es) m)
  (hlen:∀en S r,m en S=some r->r.1.length=n)
  (hdb:(x == ("__debug__" : Str))=false:=by decide) (he:Ws (a :: es) X.env=(false,eval a X.env) :: Ws es X.env:=by rfl) (hpl:(backTo pos (Ws es X.env)).any (·.1)=false:=by rfl) :
  SE X (.Call (.Name x p) (a :: es) [] pos) (ZK F m):=by
 refine ZH (Ex hF hr hg hm hk hb .nil Lj ha hdb he hpl) ?_
 rintro σ H Q ⟨ρ,en,S,v,S',E,R,e,k⟩
 unfold ZK at e;obtain⟨r,e1,e2⟩:=W1.mp e
 refine⟨ρ,en,S,r.1,r.2,E,R,e1,λxs ρ1 H1 X1 R1 d1=>?_⟩
 show spD X.K n F (xs++[]) H1 Q E0
 rw [Vu];exact⟨by rw [<-d1.length];exact hlen _ _ _ e1,ρ1,r.2,r.1,v,S',R1,d1,e2,λz ρ2 H2 X2 R2 d2=>k z ρ2 H2 (X1.trans X2) R2 d2⟩
theorem Z9:∀en S r,Zo en S=some r->r.1.length=0:=by
 intro en S r e;cases e;rfl
theorem Z1 {ma:M D}{mr:M (List D)}{n:Nat}(h:∀en S r,mr en S=some r->r.1.length=n):∀en S r,Z2 ma mr en S=some r->r.1.length=n+1:=by
 intro en S r e;unfold Z2 at e;obtain⟨p,e1,e⟩:=W1.mp e
 obtain⟨q,e2,e3⟩:=Wh.mp e
 cases e3;rw [WR,h _ _ _ e2]
mutual
def Jp (n:Nat):D->Bool
 | .tup ds=>lowDs n ds
 | .ref k=>decide (k<n)
 |_=>true
def lowDs (n:Nat):List D->Bool
 |[]=>true
 |d :: ds=>Jp n d&&lowDs n ds
end
section
variable {K:W3} {ρ:List Addr} {H:Hp}
mutual
theorem S7:∀(d:D) (x:V),DR K ρ H d x->Jp ρ.length d=true
 | .non,_,_=>by unfold Jp;rfl
 | .bl _,_,_=>by unfold Jp;rfl
 | .int _,_,_=>by unfold Jp;rfl
 | .str _,_,_=>by unfold Jp;rfl
 | .scr _,_,_=>by unfold Jp;rfl
 | .tup ds,x,h=>by
  obtain⟨a,xs,_,_,h3⟩:=h.of_tup
  unfold Jp;exact lows_of ds xs h3
 | .ref n,x,h=>by
  obtain⟨a,h1,_⟩:=h.of_ref
  unfold Jp;exact decide_eq_true (Wi.mp h1).1
theorem lows_of:∀(ds:List D) (xs:List V),DsR K ρ H ds xs->lowDs ρ.length ds=true
 |[],_,_=>by unfold lowDs;rfl
 |d :: ds,xs,h=>by
  unfold DsR at h;obtain⟨x,r,_,h1,h2⟩:=h
  unfold lowDs;rw [S7 d x h1,lows_of ds r h2];rfl
end
mutual
theorem AG (n:Nat):∀(d:D) (x:V),DR K ρ H d x->Jp n d=true->DR K (ρ.take n) H d x
 | .non,_,h,_=>by unfold DR at h ⊢;exact h
 | .bl _,_,h,_=>by unfold DR at h ⊢;exact h
 | .int _,_,h,_=>by unfold DR at h ⊢;exact h
 | .str _,_,h,_=>by unfold DR at h ⊢;exact h
 | .scr _,_,h,_=>by unfold DR at h ⊢;exact h
 | .tup ds,x,h,l=>by
  obtain⟨a,xs,rfl,h2,h3⟩:=h.of_tup
  unfold Jp at l;exact .tup h2 (cuts_of n ds xs h3 l)
 | .ref k,x,h,l=>by
  obtain⟨a,h1,rfl⟩:=h.of_ref
  unfold Jp at l;exact .ref (by rw [V6 (of_decide_eq_true l)];exact h1)
theorem cuts_of (n:Nat):∀(ds:List D) (xs:List V),DsR K ρ H ds xs->lowDs n ds=true->DsR K (ρ.take n) H ds xs
 |[],_,h,_=>by unfold DsR at h ⊢;exact h
 |d :: ds,xs,h,l=>by
  unfold DsR at h;obtain⟨x,r,rfl,h1,h2⟩:=h
  unfold lowDs at l;rw [Wr] at l;exact .cons (AG n d x h1 l.1) (cuts_of n ds r h2 l.2)
end
end
theorem Dc {K:W3}{ρ ρ1:List Addr}{H H1:Hp}{S S1:Sto}(R:StR K ρ H S)(X:Ext ρ H ρ1 H1)(R1:StR K ρ1 H1 S1)(e:S1.take S.length=S):StR K (ρ1.take S.length) H1 S/\Ext ρ H (ρ1.take S.length) H1:=by
 have hl:S.length<=S1.length:=by
  have:=congrArg V4 e
  rw [Vy] at this;omega
 have low:∀(n:Nat) ob,S[n]? = some ob->n<S.length:=λn ob h=>(Wi.mp h).1
 refine⟨⟨by rw [Vy,R1.len];omega,λi j a h1 h2=>?_,λn ob h=>?_⟩,⟨λn a h=>?_,X.tup,X.frz⟩⟩
 ·have hi:i<S.length:=by
   have:=(Wi.mp h1).1
   rw [Vy] at this;omega
  have hj:j<S.length:=by
   have:=(Wi.mp h2).1
   rw [Vy] at this;omega
  rw [V6 hi] at h1;rw [V6 hj] at h2;exact R1.inj i j a h1 h2
 ·have hn:=low n ob h
  have h1:S1[n]? = some ob:=by rw [<-V6 hn,e];exact h
  obtain⟨a,e1,r1⟩:=R1.ob n ob h1
  obtain⟨a0,e0,r0⟩:=R.ob n ob h
  refine⟨a,by rw [V6 hn];exact e1,?_⟩
  cases ob with
  |lst ds=>
   obtain⟨xs,q1,q2⟩:=r1
   obtain⟨ys,p1,p2⟩:=r0
   have l:=lows_of ds ys p2
   rw [R.len] at l;exact⟨xs,q1,cuts_of _ ds xs q2 l⟩
  |dct kvs=>
   have l:lowDs S.length (kvs.map (·.2))=true:=by
    rcases r0 with ⟨ks0,ys,p1,p2,p3,p4⟩|⟨ks0,ys,p1,p2,p3,p4⟩
    ·have l:=lows_of _ ys p4
     rw [R.len] at l;exact l
    ·have l:=lows_of _ ys p4
     rw [R.len] at l;exact l
   rcases r1 with ⟨ks,xs,q1,q2,q3,q4⟩|⟨ks,xs,q1,q2,q3,q4⟩
   ·exact .inl ⟨ks,xs,q1,q2,q3,cuts_of _ _ xs q4 l⟩
   ·exact .inr ⟨ks,xs,q1,q2,q3,cuts_of _ _ xs q4 l⟩
  |fdct kvs=>
   have l:lowDs S.length (kvs.map (·.2))=true:=by
    rcases r0 with ⟨_,⟨_,ys,_,_,_,p4⟩|⟨_,ys,_,_,_,p4⟩⟩
    ·have l:=lows_of _ ys p4
     rw [R.len] at l;exact l
    ·have l:=lows_of _ ys p4
     rw [R.len] at l;exact l
   rcases r1 with ⟨o,⟨ks,xs,q1,q2,q3,q4⟩|⟨ks,xs,q1,q2,q3,q4⟩⟩
   ·exact⟨o,.inl ⟨ks,xs,q1,q2,q3,cuts_of _ _ xs q4 l⟩⟩
   ·exact⟨o,.inr ⟨ks,xs,q1,q2,q3,cuts_of _ _ xs q4 l⟩⟩
  |ins C fs=>
   obtain⟨Ca,dx,xs,q0,q1,q2⟩:=r1
   obtain⟨Ca0,dx0,ys,p0,p1,p2⟩:=r0
   have l:=lows_of _ ys p2
   rw [R.len] at l;exact⟨Ca,dx,xs,q0,q1,cuts_of _ _ xs q2 l⟩
 ·have hn:n<S.length:=by rw [<-R.len];exact (Wi.mp h).1
  rw [V6 hn];exact X.pre n a h
open Classical in
def Ui (S:Sto)(r:D×Sto):D×Sto:=if r.2.take S.length=S/\Jp S.length r.1=true then (r.1,S) else r
def Q6 (nN:Nat)(ds:List D):En:=ds.map some++VQ (nN-ds.length) none
def QB (nN n:Nat)(m:MS):List D->Sto->Option (D×Sto):=λds S=>if ds.length=n then (m (Q6 nN ds) S).bind λp=>match p.1 with
 | .rt v=>some (Ui S (v,p.2.2))
 | .nx=>some (Ui S (.non,p.2.2))
 |_=>none
 else none
theorem Ks {K:W3}{ρ ρ1:List Addr}{H H1:Hp}{S S1 S':Sto}{v v':D}{x:V}{Q:VK}(R:StR K ρ H S)(X:Ext ρ H ρ1 H1)(R1:StR K ρ1 H1 S1)(d:DR K ρ1 H1 v x)(e:Ui S (v,S1)=(v',S'))
  (k:∀z ρ' H',Ext ρ H ρ' H'->StR K ρ' H' S'->DR K ρ' H' v' z->Q z H'):Q x H1:=by
 unfold Ui at e;split at e
 ·rename_i h
  cases e;obtain⟨R2,X2⟩:=Dc R X R1 h.1
  exact k x _ H1 X2 R2 (AG _ v x d h.2)
 ·cases e
  exact k x ρ1 H1 X R1 d
theorem PQ {K:W3}{ρ:List Addr}{H:Hp}{ds:List D}{vs:List V}{N:List Str}(h:DsR K ρ H ds vs):EnR K ρ H (Q6 N.length ds) (L2.start N vs):=by
 unfold Q6 L2.start;refine⟨by simp [h.length],λi d e=>?_⟩
 by_cases hi:i<ds.length
 ·rw [WU (by simpa using hi),WB] at e
  rw [WU (by rw [Wl,<-h.length];exact hi),WB]
  cases q:ds[i]? with
  |none=>rw [q] at e;cases e
  |some c=>
   rw [q] at e;cases e
   obtain⟨x,h1,h2⟩:=h.get q
   exact⟨x,by rw [h1];rfl,h2⟩
 ·rw [WX (by simpa using hi),VB] at e
  split at e<;>cases e
theorem Jq {P:Program}{w:World}{K:W3}{mg:Str->Option Value}{base:Heap}{x qual:Str}{st:Stmt}{f:Addr}{fd:FuncData}{N ps:List Str}{k n nN:Nat}{m:MS}(F:Fun K x qual st f fd)(S:FnScope N ps (Z3 st))(hn:ps.length=n)(hN:N.length=nN)
  (hb:∀(cdv:Value) (A:Around) (outer:List Env) (s:Shared) (H:Hp) (E:XK),Room k (A.deeper (envOfC qual (Z3 st) s.heap.objs.size f cdv))->SB (Co CX0 P w K mg base N qual (Z3 st) f cdv A outer s H E).nox (Zj st) m) :
  FnOk P w K mg base CX0 (k+1) f fd ps (spD K n (QB nN n m)):=by
 refine F.ok S (λvs H Q E h=>by rw [h.1,hn]) (λcdv A outer s H vs Q E hr h=>?_)
 obtain⟨hl,ρ,S0,ds,v,S',R,d1,e,q⟩:=h
 refine⟨_,hb cdv A outer s H E hr,?_⟩
 unfold QB at e;split at e
 ·obtain⟨p,e1,e2⟩:=W1.mp e
  obtain⟨fl,en',S1⟩:=p
  refine⟨ρ,_,S0,fl,en',S1,hN ▸ PQ d1,R,e1,λρ1 H1 σ1 X1 R1 E1=>?_⟩
  cases fl with
  |rt u=>exact λz dz=>Ks R X1 R1 dz (WS e2) q
  |nx=>exact Ks R X1 R1 .flat_non (WS e2) q
  |bk=>cases e2
  |ct=>cases e2
 ·cases e
end
end DL
namespace DL
open PySem PySem.Spec PyProof.Rows L2
theorem YH {k:Nat}{A:Around}(hr:Room k A):A.units+64<cLine:=by have:=hr.un;omega
section
variable {X:Cx}
def gLt:D->D->Sto->Option (D×Sto)
 | .int i,.int j,S=>some (.bl (decide (i<j)),S)
 | .str i,.str j,S=>some (.bl (decide (i.cps.toList<j.cps.toList)),S)
 | .tup as,.tup bs,S=>if (Qa 30 (.tup as) (.tup bs)&&(pln 30 (.tup as)&&pln 30 (.tup bs)))=true then some (.bl (ltD (.tup as) (.tup bs)),S) else none
 |_,_,_=>none
theorem Iy {a b:D}{S S':Sto}{v:D}(e:gLt a b S=some (v,S')):v = .bl (ltD a b)/\S=S'/\Qa 30 a b=true/\pln 30 a=true/\pln 30 b=true:=by
 cases a with
 |int i=>
  cases b with
  |int j=>cases e;exact⟨by unfold ltD;rfl,rfl,rfl,rfl,rfl⟩
  |_=>cases e
 |str i=>
  cases b with
  |str j=>cases e;exact⟨by unfold ltD;rfl,rfl,rfl,rfl,rfl⟩
  |_=>cases e
 |tup as=>
  cases b with
  |tup bs=>
   dsimp only [gLt] at e;split at e
   ·rename_i hc
    cases e;rw [Wr,Wr] at hc;exact⟨rfl,rfl,hc.1,hc.2.1,hc.2.2⟩
   ·cases e
  |_=>cases e
 |_=>cases e
theorem R8 (hu:X.A.units+64<cLine):OpD X (compareOp .Lt) gLt:=by
 intro pins s σ H x y v u Q I rx ry h;obtain⟨ρ,S,d1,d2,z,S',R,h1,h2,e,k⟩:=h
 obtain⟨rfl,rfl,hc,p1,p2⟩:=Iy e
 exact Fe I 30 (by omega) hc p1 p2 h1 h2 rx ry _ _ _ _ ⟨.bl _,H,I,rfl,k _ ρ H Ext.refl R .flat_bl⟩
def Do (a b:D):Bool:=pln 30 a&&pln 30 b
def gEq:D->D->Sto->Option (D×Sto)
 | .int i,.int j,S=>some (.bl (decide (i=j)),S)
 | .str i,.str j,S=>some (.bl (decide (i=j)),S)
 | .bl i,.bl j,S=>some (.bl (decide (i=j)),S)
 |a,b,S=>if Do a b=true then some (.bl (eqD a b),S) else none
def gNe:D->D->Sto->Option (D×Sto)
 | .int i,.int j,S=>some (.bl (!decide (i=j)),S)
 | .str i,.str j,S=>some (.bl (!decide (i=j)),S)
 | .bl i,.bl j,S=>some (.bl (!decide (i=j)),S)
 |a,b,S=>if Do a b=true then some (.bl (!eqD a b),S) else none
theorem JX {α:Type}[BEq α][LawfulBEq α][DecidableEq α](a b:α):(a == b)=decide (a=b):=by
 rw [W04];simp
theorem Iz {a b:D}{S S':Sto}{v:D}(e:gEq a b S=some (v,S')):v = .bl (eqD a b)/\S=S'/\pln 30 a=true/\pln 30 b=true:=by
 unfold gEq at e;split at e
 ·cases e;exact⟨by unfold eqD;dsimp only;rw [JX],rfl,rfl,rfl⟩
 ·cases e;exact⟨by unfold eqD;dsimp only;rw [JX],rfl,rfl,rfl⟩
 ·cases e;exact⟨by unfold eqD;dsimp only;rw [JX],rfl,rfl,rfl⟩
 ·split at e
  ·rename_i hc
   cases e;unfold Do at hc;rw [Wr] at hc;exact⟨rfl,rfl,hc.1,hc.2⟩
  ·cases e
theorem Ix {a b:D}{S S':Sto}{v:D}(e:gNe a b S=some (v,S')):v = .bl (!eqD a b)/\S=S'/\pln 30 a=true/\pln 30 b=true:=by
 unfold gNe at e;split at e
 ·cases e;exact⟨by unfold eqD;dsimp only;rw [JX],rfl,rfl,rfl⟩
 ·cases e;exact⟨by unfold eqD;dsimp only;rw [JX],rfl,rfl,rfl⟩
 ·cases e;exact⟨by unfold eqD;dsimp only;rw [JX],rfl,rfl,rfl⟩
 ·split at e
  ·rename_i hc
   cases e;unfold Do at hc;rw [Wr] at hc;exact⟨rfl,rfl,hc.1,hc.2⟩
  ·cases e
theorem JC (hu:X.A.units+64<cLine):OpD X (compareOp .Eq) gEq:=by
 intro pins s σ H x y v u Q I rx ry h;obtain⟨ρ,S,d1,d2,z,S',R,h1,h2,e,k⟩:=h
 obtain⟨rfl,rfl,p1,p2⟩:=Iz e
 exact Hn I 30 (by omega) p1 p2 h1 h2 rx ry _ _ _ _ ⟨.bl _,H,I,rfl,k _ ρ H Ext.refl R .flat_bl⟩
theorem HJ (hu:X.A.units+64<cLine):OpD X (compareOp .NotEq) gNe:=by
 intro pins s σ H x y v u Q I rx ry h;obtain⟨ρ,S,d1,d2,z,S',R,h1,h2,e,k⟩:=h
 obtain⟨rfl,rfl,p1,p2⟩:=Ix e
 exact Hm I 30 (by omega) p1 p2 h1 h2 rx ry _ _ _ _ ⟨.bl _,H,I,rfl,k _ ρ H Ext.refl R .flat_bl⟩
def inD (x:D):D->Sto->Option Bool
 | .str j,_=>match x with | .str i=>some (!(Builtin.Str.occurrences j i 0 j.length 1).isEmpty)|_=>none
 | .tup ys,_=>if (pln 30 x&&ys.all (pln 30))=true then some (ys.any λy=>eqD y x) else none
 | .ref n,S=>match S[n]? with
  |some (.lst ys)=>if (pln 30 x&&ys.all (pln 30))=true then some (ys.any λy=>eqD y x) else none
  |_=>(J6 S n x).map λkvs=>(Uo kvs x).isSome
 |_,_=>none
def Bs:D->D->Sto->Option (D×Sto):=λa b S=>(inD a b S).map λr=>(.bl (!r),S)
theorem Mg {pins:List (Addr×Obj)}{σ:L2.St}{H:Hp}{s:Shared}{ρ:List Addr}{A:Around}{x:D}{vx:V}{ux:Value}{ys:List D}{vs:List V}{us:List Value}(I:Inv X pins σ H s)(hu:A.units+64<cLine)
  (px:pln 30 x=true) (py:ys.all (pln 30)=true) (hx:DR X.K ρ H x vx) (rx:ZC vx ux) (hy:DsR X.K ρ H ys vs) (ry:Y2 vs us) :
  ∃e:Value->Bool,(∀u,u∈us->WW A.in1 s u ux (e u))/\us.any e=ys.any λy=>eqD y x:=by
 classical
 let P:Value->D->Prop:=λu d=>pln 30 d=true/\∃v,ZC v u/\DR X.K ρ H d v
 refine⟨λu=>if h:∃d,P u d then eqD (Classical.choose h) x else false,?_,?_⟩
 ·intro u hm
  obtain⟨i,hi⟩:=List.mem_iff_getElem?.mp hm
  have hlen:=ry.length
  have hlen2:=hy.length
  have li:i<us.length:=(Wi.mp hi).1
  have g1:ys[i]? = some ys[i]:=Wm (by omega)
  obtain⟨v,v1,v2⟩:=hy.get g1
  obtain⟨u',u1,u2⟩:=ry.get v1
  rw [hi] at u1;cases u1;have pd:=WN.mp py _ (VA (by omega:i<ys.length))
  have h:∃d,P u d:=⟨ys[i],pd,v,u2,v2⟩
  dsimp only;rw [dif_pos h];obtain⟨q1,v',q2,q3⟩:=Classical.choose_spec h
  exact Tu I 30 (by rw [Qz];omega) q1 px q3 hx q2 rx
 ·have key:∀{ys:List D} {vs:List V} {us:List Value},ys.all (pln 30)=true->DsR X.K ρ H ys vs->Y2 vs us->us.any (λu=>if h:∃d,P u d then eqD (Classical.choose h) x else false)=ys.any λy=>eqD y x:=by
   intro ys
   induction ys with
   |nil=>
    intro vs us _ hy ry;unfold DsR at hy;subst hy;cases ry;rfl
   |cons d ys ih=>
    intro vs us py hy ry;unfold DsR at hy;obtain⟨v,r,rfl,h1,h2⟩:=hy
    cases ry with
    | @cons _ u _ us' r1 r2=>
     rw [V8,Wr] at py;rw [W07,W07,ih py.2 h2 r2];have h:∃d,P u d:=⟨d,py.1,v,r1,h1⟩
     rw [dif_pos h];obtain⟨q1,v',q2,q3⟩:=Classical.choose_spec h
     have hv:v'=v:=ZC.inj q2 r1
     subst hv;rw [DR.one 30 _ d _ q1 py.1 q3 h1]
  exact key py hy ry
theorem R7 (hu:X.A.units+64<cLine):OpD X (compareOp .NotIn) Bs:=by
 intro pins s σ H x y v u Q I rx ry h;obtain⟨ρ,S,d1,d2,z,S',R,h1,h2,e,k⟩:=h
 obtain⟨r,e1,e2⟩:=Wh.mp e
 cases e2;cases d2 with
 |str j=>
  cases d1 with
  |str i=>
   cases e1;rw [h1.of_str] at rx;rw [h2.of_str] at ry;obtain⟨t,rfl⟩:=rx
   obtain⟨t',rfl⟩:=ry
   exact notIn_str ⟨.bl _,H,I,rfl,k _ ρ H Ext.refl R .flat_bl⟩
  |_=>cases e1
 |tup ys=>
  dsimp only [inD] at e1;split at e1
  ·rename_i hc
   cases e1;rw [Wr] at hc;obtain⟨a,xs,rfl,a1,a2⟩:=h2.of_tup
   cases ry;obtain⟨its,q,pl,hz⟩:=I.tuple (.of a1)
   obtain⟨f,f1,f2⟩:=Mg I hu hc.1 hc.2 h1 rx a2 q
   refine SeqAt.notIn_tupleAt f pl (λw hw=>f1 w (by simpa using hw)) ⟨.bl _,H,I,rfl,?_⟩
   rw [show its.toArray.any f=its.any f by simp,f2]
   exact k _ ρ H Ext.refl R .flat_bl
  ·cases e1
 |ref n=>
  obtain⟨a,a1,rfl⟩:=h2.of_ref
  cases ry;dsimp only [inD] at e1;split at e1
  ·rename_i ys hn
   split at e1
   ·rename_i hc
    cases e1;rw [Wr] at hc;obtain⟨ob,eo,ro⟩:=R.obj a1
    rw [hn] at eo;cases eo;obtain⟨xs,x1,x2⟩:=ro
    obtain⟨its,q,pl,hz⟩:=I.list (.of x1)
    obtain⟨f,f1,f2⟩:=Mg I hu hc.1 hc.2 h1 rx x2 q
    refine SeqAt.notIn_listAt f pl.isList (λw hw=>f1 w (by simpa using hw)) ⟨.bl _,H,I,rfl,?_⟩
    rw [show its.toArray.any f=its.any f by simp,f2]
    exact k _ ρ H Ext.refl R .flat_bl
   ·cases e1
  ·obtain⟨kvs,e3,e4⟩:=Wh.mp e1
   subst e4;obtain⟨g1,g2⟩:=Nx R a1 e3 h1
   cases hd:Uo kvs d1 with
   |some w=>
    rw [hd] at k;obtain⟨x',x1,x2⟩:=g1 w hd
    exact Mu (by omega) I x1 rx λs' I'=>⟨.bl _,H,I',rfl,k _ ρ H Ext.refl R .flat_bl⟩
   |none=>
    rw [hd] at k;exact Mu (by omega) I (g2 hd) rx λs' I'=>⟨.bl _,H,I',rfl,k _ ρ H Ext.refl R .flat_bl⟩
 |_=>cases e1
end
end DL
namespace DL
open PySem PySem.Spec PyProof.Rows PySem.W L2
section
variable {X:Cx} {pins:List (Addr×Obj)} {σ:L2.St} {H:Hp} {s:Shared} {ρ:List Addr}
theorem Ez (I:Inv X pins σ H s)(n:Nat){A:Around}(hu:A.units+n<cLine):∀{as bs:List D} {xs ys:List V} {its its2:List Value},as.all (pln n)=true->bs.all (pln n)=true->((as.zip bs).all λp=>Qa n p.1 p.2)=true->DsR X.K ρ H as xs->DsR X.K ρ H bs ys->Y2 xs its->Y2 ys its2->
  Paired (TB A s) (its.zip its2) ((as.zip bs).map λp=>(eqD p.1 p.2,ltD p.1 p.2)):=by
 intro as
 induction as with
 |nil=>
  intro bs xs ys its its2 _ _ _ q1 _ q3 _;unfold DsR at q1;subst q1;cases q3;exact .nil
 |cons d as ih2=>
  intro bs xs ys its its2 z1 z2 z3 q1 q2 q3 q4;unfold DsR at q1;obtain⟨x,r,rfl,h1,h2⟩:=q1
  cases q3 with
  |cons r1 r2=>
   cases bs with
   |nil=>
    unfold DsR at q2;subst q2;cases q4;exact .nil
   |cons e bs=>
    unfold DsR at q2;obtain⟨y,r',rfl,h3,h4⟩:=q2
    cases q4 with
    |cons r3 r4=>
     rw [V8,Wr] at z1 z2;rw [Wz,V8,Wr] at z3;rw [Wz,Wz,W0];exact .cons ⟨Tu I n hu z1.1 z2.1 h1 h3 r1 r3,λ_=>Fe I n hu z3.1 z1.1 z2.1 h1 h3 r1 r3⟩ (ih2 z1.2 z2.2 z3.2 h2 h4 r2 r4)
def Dd (A:Around)(s:Shared)(k:Bool)(u v:Value)(b:Bool):Prop:=∀(prog:Program) (w:World) (E:Value->Shared->Prop) (Q:Bool->Shared->Prop),Q b s->wpAny (model prog w) A (oneLt' k u v) Q E s
theorem Cw.one {A:Around}{u v:Value}{b:Bool}(h:Cw A s u v b):Dd A s false u v b:=λprog w E Q hq=>kat_one u v (h prog w E _ hq)
theorem FD {A:Around}{b fin:Bool}{prog:Program}{w:World}{Q:Bool->Shared->Prop}:∀{zs:List (Value×Value)} {ps:List (Bool×Bool)} (i:Nat),Paired (TB A s) zs ps->
  (b=true->i=0->∀z r p q,zs=z :: r->ps=p :: q->p.1=false->Dd A s true z.1 z.2 p.2)->Q (Nh ps fin) s->KatLex prog w A b fin Q zs i s
 |[],_,i,.nil,_,h=>h
 |z :: zs,p :: ps,i,.cons hp ht,h1,h=>by
  unfold Nh at h;refine kat_cons (hp.1 prog w _ _ ?_)
  cases e:p.1 with
  |true=>
   rw [if_pos e] at h;exact kat_yes (FD (i+1) ht (λ_ z=>absurd z (Nat.succ_ne_zero i)) h)
  |false=>
   rw [if_neg (by rw [e];exact WI)] at h
   refine kat_no ?_
   have ho:=(hp.2 e).one
   cases hb:b&&i == 0 with
   |false=>exact ho prog w _ _ h
   |true=>
    rw [Wr] at hb;exact h1 hb.1 (eq_of_beq hb.2) z zs p ps rfl rfl e prog w _ _ h
def skD:D->Option Nat
 | .int _=>some 0
 | .str _=>some 1
 | .tup (.int _ :: _)=>some 2
 | .tup (.str _ :: _)=>some 3
 | .tup (.tup _ :: _)=>some 4
 |_=>none
def CB (ds:List D):Bool:=[0,1,2,3,4].any λc=>ds.all λd=>skD d == some c
def Cp (ds:List D):Bool:=ds.all (pln 30)&&ds.all λa=>ds.all λb=>Qa 30 a b
def Qw (ds:List D):Bool:=decide (ds.length<64)&&(decide (ds.length<2)||(CB ds&&Cp ds))
theorem Mw {ds:List D}(h:Cp ds=true):Qi 30 ds:=by
 unfold Cp at h;rw [Wr,WN,WN] at h;exact⟨h.1,λa ha b hb=>WN.mp (h.2 a ha) b hb⟩
theorem NE {ds:List D}{xs:List V}{vs:List Value}(h:DsR X.K ρ H ds xs)(r:Y2 xs vs){i:Nat}{d:D}(e:ds[i]? = some d):∃x v,DR X.K ρ H d x/\ZC x v/\vs[i]? = some v:=by
 obtain⟨x,x1,x2⟩:=h.get e
 obtain⟨v,v1,v2⟩:=r.get x1
 exact⟨x,v,x2,v2,v1⟩
theorem ND {ds:List D}{xs:List V}{vs:List Value}(h:DsR X.K ρ H ds xs)(r:Y2 xs vs){v:Value}(hv:v∈vs):∃d x,d∈ds/\DR X.K ρ H d x/\ZC x v:=by
 obtain⟨i,hi,e⟩:=W09.mp hv
 have hl:ds.length=vs.length:=h.length.trans r.length
 obtain⟨x,v',a,b,c⟩:=NE h r (i:=i) (Wm (by omega))
 rw [Wm hi,e] at c;cases c;exact⟨_,x,VA _,a,b⟩
theorem F4 {as:List D}{c:Nat}(e:skD (.tup as)=some c):∃h t,as=h :: t/\((∃i,h = .int i/\c=2)\/(∃x,h = .str x/\c=3)\/∃l,h = .tup l/\c=4):=by
 cases as with
 |nil=>cases e
 |cons h t=>
  cases h with
  |int i=>cases e;exact⟨_,t,rfl,.inl ⟨i,rfl,rfl⟩⟩
  |str i=>cases e;exact⟨_,t,rfl,.inr (.inl ⟨i,rfl,rfl⟩)⟩
  |tup i=>cases e;exact⟨_,t,rfl,.inr (.inr ⟨i,rfl,rfl⟩)⟩
  |_=>cases e
def tyC:Nat->String
 |2=>"int"
 |3=>"str"
 |_=>"tuple"
theorem Cg (I:Inv X pins σ H s){c:Nat}(hc:2<=c){d:D}{x:V}{v:Value}(e:skD d=some c)(h:DR X.K ρ H d x)(r:ZC x v) :
  ∃a o xs n f,v = .ref a/\s.heap.get? a=some o/\o.cls = .type "tuple"/\o.data = .seq xs n/\xs[0]? = some f/\∀M,Looks M s.heap (typeOf f) (.type (tyC c)):=by
 unfold skD at e;split at e
 ·cases e;omega
 ·cases e;omega
 all_goals first|(cases e;done)|skip
 all_goals
  cases e;obtain⟨a,xs,rfl,a1,a2⟩:=h.of_tup
  cases r;obtain⟨its,rv,⟨o,ho,hoc,n,hd⟩,_⟩:=I.tuple (.of a1)
  unfold DsR at a2;obtain⟨y,ys,rfl,b1,b2⟩:=a2
  cases rv with
  | @cons _ f _ fs r1 r2=>
   refine⟨a,o,_,n,f,rfl,ho,hoc,hd,by simp,?_⟩
   first
   | (rw [b1.of_int] at r1;obtain⟨t,rfl⟩:=r1;exact λM=>Looks.of_pure rfl)
   | (rw [b1.of_str] at r1;obtain⟨t,rfl⟩:=r1;exact λM=>Looks.of_pure rfl)
   | (obtain⟨b,zs,rfl,c1,_⟩:=b1.of_tup
      cases r1;obtain⟨_,_,⟨o2,ho2,hc2,_⟩,_⟩:=I.tuple (.of c1)
      exact λM=>kitAt_ty M s.heap ⟨o2,ho2,hc2⟩)
theorem Bc (I:Inv X pins σ H s){c:Nat}(hc:2<=c):∀{ds:List D} {xs:List V} {vs:List Value},(∀d∈ds,skD d=some c)->DsR X.K ρ H ds xs->Y2 xs vs->∃fs,KatTups s.heap vs fs/\fs.length=vs.length/\∀f∈fs,∀M,Looks M s.heap (typeOf f) (.type (tyC c))
 |[],xs,vs,_,h,r=>by
  unfold DsR at h;subst h;cases r;exact⟨[],trivial,rfl,λf hf=>by cases hf⟩
 |d :: ds,xs,vs,hk,h,r=>by
  unfold DsR at h;obtain⟨x,xr,rfl,h1,h2⟩:=h
  cases r with
  |cons r1 r2=>
   obtain⟨fs,f1,f2,f3⟩:=Bc I hc (λd hd=>hk d (WD _ hd)) h2 r2
   obtain⟨a,o,ys,n,f,rfl,g1,g2,g3,g4,g5⟩:=Cg I hc (hk d WC) h1 r1
   exact⟨f :: fs,KatTups.cons g1 g2 g3 g4 f1,by simp [f2],λg hg=>by
    rcases Wx.mp hg with z|z
    ·subst z;exact g5
    ·exact f3 g z⟩
theorem Ru (I:Inv X pins σ H s){A:Around}(hu:A.units+64<cLine){c:Nat}(hc:2<=c){d1 d2:D}{x y:V}{u v:Value}(e1:skD d1=some c)(e2:skD d2=some c)(p1:pln 30 d1=true)(p2:pln 30 d2=true)(hcm:Qa 30 d1 d2=true)
  (h1:DR X.K ρ H d1 x) (h2:DR X.K ρ H d2 y) (r1:ZC x u) (r2:ZC y v) {prog:Program} {w:World} {E:Value->Shared->Prop} {Q:Bool->Shared->Prop} (hq:Q (ltD d1 d2) s) :
  wpAny (model prog w) A (keyLt' (tuples' (Value.type (tyC c) != Value.type "tuple")) u v) Q E s:=by
 cases d1 with
 |tup as=>
  cases d2 with
  |tup bs=>
   obtain⟨a,xs,rfl,a1,a2⟩:=h1.of_tup
   obtain⟨b,ys,rfl,b1,b2⟩:=h2.of_tup
   cases r1;cases r2;obtain⟨its,rv1,⟨o,ho,hoc,n,hd⟩,_⟩:=I.tuple (.of a1)
   obtain⟨its2,rv2,⟨o2,ho2,hoc2,n2,hd2⟩,_⟩:=I.tuple (.of b1)
   have p1':as.all (pln 29)=true:=by unfold pln at p1;exact p1
   have p2':bs.all (pln 29)=true:=by unfold pln at p2;exact p2
   have hc':((as.zip bs).all λp=>Qa 29 p.1 p.2)=true:=by unfold Qa at hcm;exact hcm
   have hp:=Ez I 29 (A:=A) (by omega) p1' p2' hc' a2 b2 rv1 rv2
   refine kat_lt ho hd ho2 hd2 (FD 0 (by simpa using hp) (λhb _ z r p q ez ep e=>?_) ?_)
   ·obtain⟨h1',t1',rfl,w1⟩:=F4 e1
    obtain⟨h2',t2',rfl,w2⟩:=F4 e2
    unfold DsR at a2 b2;obtain⟨x,_,rfl,a2,_⟩:=a2
    obtain⟨y,_,rfl,b2,_⟩:=b2
    cases rv1 with
    |cons q1 q2=>
     cases rv2 with
     |cons q3 q4=>
      simp only [Wz,W0,W05] at ez ep
      obtain⟨rfl,_⟩:=ez
      obtain⟨rfl,_⟩:=ep
      rcases w1 with ⟨i,rfl,rfl⟩|⟨i,rfl,rfl⟩|⟨i,rfl,rfl⟩
      ·rcases w2 with ⟨j,rfl,z⟩|⟨j,rfl,z⟩|⟨j,rfl,z⟩
       ·rw [a2.of_int] at q1
        rw [b2.of_int] at q3;obtain⟨t,rfl⟩:=q1
        obtain⟨t',rfl⟩:=q3
        exact λprog w E Q hq=>oneLt_int (by unfold ltD at hq;exact hq)
       ·cases z
       ·cases z
      ·rcases w2 with ⟨j,rfl,z⟩|⟨j,rfl,z⟩|⟨j,rfl,z⟩
       ·cases z
       ·rw [a2.of_str] at q1
        rw [b2.of_str] at q3;obtain⟨t,rfl⟩:=q1
        obtain⟨t',rfl⟩:=q3
        exact λprog w E Q hq=>oneLt_str (by unfold ltD at hq;exact hq)
       ·cases z
      ·exact absurd hb (by decide)
   ·rw [Jv,G6,a2.length,b2.length,rv1.length,rv2.length] at hq
    simpa using hq
  |_=>cases hcm
 |int i=>unfold skD at e1;cases e1;omega
 |str i=>unfold skD at e1;cases e1;omega
 |_=>cases hcm
theorem D8 (I:Inv X pins σ H s){ds:List D}{xs:List V}{vs:List Value}(h:DsR X.K ρ H ds xs)(r:Y2 xs vs)(h2:2<=ds.length)(hk:CB ds=true)(hc:Cp ds=true) :
  ∃κ:SortKind,(∀(prog:Program) (w:World) (A:Around) (E:Value->Shared->Prop) (Q:SortKind->Shared->Prop),Q κ s->wpAny (model prog w) A (keyKind' vs.toArray) Q E s)/\
   ∀(prog:Program) (w:World) (A:Around),A.units+64<cLine->∀i j,i<ds.length->j<ds.length->∀C:Bool->Shared->Prop,C (ltD (ds.getD i .non) (ds.getD j .non)) s->kas_ask prog w A κ vs i j C s:=by
 have hl:ds.length=vs.length:=h.length.trans r.length
 obtain⟨hp,hcm⟩:=Mw hc
 unfold CB at hk;rw [W0i] at hk;obtain⟨c,hcm5,hall⟩:=hk
 have hall':∀d∈ds,skD d=some c:=λd hd=>eq_of_beq (WN.mp hall d hd)
 have at_:∀i,i<ds.length->∃x v,ds.getD i .non∈ds/\DR X.K ρ H (ds.getD i .non) x/\ZC x v/\vs.getD i Value.none=v:=λi hi=>by
  obtain⟨x,v,a,b,e⟩:=NE h r (i:=i) (Wm hi)
  have e1:ds.getD i .non=ds[i]:=by simp [hi]
  rw [e1];exact⟨x,v,VA _,a,b,by rw [Vd,e];rfl⟩
 by_cases c2:2<=c
 ·obtain⟨fs,f1,f2,f3⟩:=Bc I c2 hall' h r
  refine⟨tuples' (Value.type (tyC c) != Value.type "tuple"),λprog w A E Q hq=>kat_kind f1 (by omega) (λf hf=>f3 f hf _) (by exact beq_self_eq_true _) hq,λprog w A hu i j hi hj C hC=>?_⟩
  obtain⟨x,u,m1,a1,b1,e1⟩:=at_ i hi
  obtain⟨y,v,m2,a2,b2,e2⟩:=at_ j hj
  unfold kas_ask;rw [e1,e2];exact Ru I hu c2 (hall' _ m1) (hall' _ m2) (hp _ m1) (hp _ m2) (hcm _ m1 _ m2) a1 a2 b1 b2 hC
 ·by_cases c0:c=0
  ·subst c0
   have isI:∀d∈ds,∃i,d = .int i:=λd hd=>by
    have e:=hall' d hd
    unfold skD at e;split at e<;>first|(cases e;done)|exact⟨_,rfl⟩
   refine⟨oneType',λprog w A E Q hq=>kas_kind (T:=.type "int") (by omega) (λv hv=>?_) (by decide) (by decide) hq,λprog w A hu i j hi hj C hC=>?_⟩
   ·obtain⟨d,x,m,a,b⟩:=ND h r hv
    obtain⟨i,rfl⟩:=isI d m
    rw [a.of_int] at b;obtain⟨t,rfl⟩:=b
    exact Looks.of_pure rfl
   ·obtain⟨x,u,m1,a1,b1,e1⟩:=at_ i hi
    obtain⟨y,v,m2,a2,b2,e2⟩:=at_ j hj
    unfold kas_ask;rw [e1,e2];obtain⟨p,ep⟩:=isI _ m1
    obtain⟨q,eq⟩:=isI _ m2
    rw [ep] at a1 hC;rw [eq] at a2 hC;rw [a1.of_int] at b1;rw [a2.of_int] at b2;obtain⟨t,rfl⟩:=b1
    obtain⟨t',rfl⟩:=b2
    exact oneLt_int (by unfold ltD at hC;exact hC)
  ·have c1:c=1:=by omega
   subst c1;have isS:∀d∈ds,∃i,d = .str i:=λd hd=>by
    have e:=hall' d hd
    unfold skD at e;split at e<;>first|(cases e;done)|exact⟨_,rfl⟩
   refine⟨oneType',λprog w A E Q hq=>kas_kind (T:=.type "str") (by omega) (λv hv=>?_) (by decide) (by decide) hq,λprog w A hu i j hi hj C hC=>?_⟩
   ·obtain⟨d,x,m,a,b⟩:=ND h r hv
    obtain⟨i,rfl⟩:=isS d m
    rw [a.of_str] at b;obtain⟨t,rfl⟩:=b
    exact Looks.of_pure rfl
   ·obtain⟨x,u,m1,a1,b1,e1⟩:=at_ i hi
    obtain⟨y,v,m2,a2,b2,e2⟩:=at_ j hj
    unfold kas_ask;rw [e1,e2];obtain⟨p,ep⟩:=isS _ m1
    obtain⟨q,eq⟩:=isS _ m2
    rw [ep] at a1 hC;rw [eq] at a2 hC;rw [a1.of_str] at b1;rw [a2.of_str] at b2;obtain⟨t,rfl⟩:=b1
    obtain⟨t',rfl⟩:=b2
    exact oneLt_str (by unfold ltD at hC;exact hC)
end
def ltI (ds:List D)(i j:Nat):Bool:=if i<ds.length then (if j<ds.length then ltD (ds.getD i .non) (ds.getD j .non) else true) else (if j<ds.length then false else decide (i<j))
theorem Jf {ds:List D}{i:Nat}(h:i<ds.length):ds.getD i .non∈ds:=by
 have e1:ds.getD i .non=ds[i]:=by simp [h]
 rw [e1];exact VA _
theorem HI {ds:List D}(h:Qi 30 ds):KS.Ord (ltI ds) where
 irr:=λi=>by
  unfold ltI;by_cases hi:i<ds.length
  ·rw [if_pos hi,if_pos hi];exact Nd 30 _ (h.1 _ (Jf hi))
  ·rw [if_neg hi,if_neg hi];simp
 as:=λi j=>by
  unfold ltI;by_cases hi:i<ds.length<;>by_cases hj:j<ds.length<;>simp only [hi,hj,if_true,if_false]
  ·exact h.as (Jf hi) (Jf hj)
  ·intro _;trivial
  ·intro z;cases z
  ·simp only [decide_eq_true_eq,decide_eq_false_iff_not];omega
 tr:=λi j k=>by
  unfold ltI;by_cases hi:i<ds.length<;>by_cases hj:j<ds.length<;>by_cases hk:k<ds.length<;>simp only [hi,hj,hk,if_true,if_false]<;>(try (intro _ _;first|rfl|trivial))<;>(try (intro z;cases z;done))<;>(try (intro _ z;cases z;done))
  ·exact h.le_tr (Jf hi) (Jf hj) (Jf hk)
  ·simp only [decide_eq_false_iff_not] at *;omega
theorem CM {α:Type}{n:Nat}{lt:Nat->Nat->Bool}{cmp:Nat->Nat->(Bool->Shared->Prop)->Shared->Prop}{s:Shared}(hc:∀i j,i<n->j<n->∀C:Bool->Shared->Prop,C (lt i j) s->cmp i j C s) :
  ∀(t:KasT α) (Q:α->Shared->Prop),KS.Rg n t->Q (KS.ev lt t) s->t.kasWp cmp Q s
 | .ret _,_,_,h=>h
 | .ask i j k,Q,⟨h1,h2,h3⟩,h=>hc i j h1 h2 _ (CM hc (k (lt i j)) Q (h3 _) h)
theorem O4 {ds:List D}(h:Qi 30 ds)(hn:1<=ds.length):((KS.ev (ltI ds) (W0F ds.length)).toList.map λi=>ds.getD i .non)=Qq ds:=by
 obtain⟨hp,hs⟩:=KS.sort_ok (HI h) hn
 generalize KS.ev (ltI ds) (W0F ds.length)=p at *
 have hpl:p.toList.Perm (Wo ds.length):=hp.toList
 have hsz:p.size=ds.length:=by have:=hpl.length_eq;simpa using this
 have hr:(Wo ds.length).map (λi=>ds.getD i .non)=ds:=by
  apply List.ext_getElem
  ·simp
  ·intro i h1 h2
   simp [h2]
 refine BT h ?_ ?_
 ·have:=hpl.map λi=>ds.getD i D.non
  rw [hr] at this;exact this
 ·rw [W1i]
  intro i j hi hj hij;simp only [Wl,VW] at hi hj
  simp only [List.getElem_map,Array.getElem_toList]
  have hs':=hs i j (by omega) (by omega)
  have e1:p.getD i 0=p[i]:=by simp [Array.getD,hi]
  have e2:p.getD j 0=p[j]:=by simp [Array.getD,hj]
  rw [e1,e2] at hs'
  have m1:p[i]<ds.length:=by
   have:p[i]∈Wo ds.length:=hpl.mem_iff.mp (by simp)
   simpa using this
  have m2:p[j]<ds.length:=by
   have:p[j]∈Wo ds.length:=hpl.mem_iff.mp (by simp)
   simpa using this
  show ltD (ds.getD p[j] .non) (ds.getD p[i] .non)=false
  have:ltI ds p[j] p[i]=false:=hs'
  unfold ltI at this;rw [if_pos m2,if_pos m1] at this;exact this
end DL
namespace DL
open PySem PySem.Spec PyProof.Rows PySem.W L2
theorem Xl {k:Nat}{A:Around}(hr:Room k A):A.units+70<cLine:=by have:=hr.un;omega
section
variable {X:Cx} {pins:List (Addr×Obj)} {σ:L2.St} {H:Hp} {s:Shared} {ρ:List Addr}
theorem Gw {xs:List V}{vs:List Value}(r:Y2 xs vs):∀is:List Nat,(∀i∈is,i<xs.length)->Y2 (is.map λi=>xs.getD i .non) (is.map λi=>vs.getD i Value.none)
 |[],_=>.nil
 |i :: is,h=>by
  have hi:=h i WC
  obtain⟨v,e,q⟩:=r.get (Wm hi)
  refine .cons ?_ (Gw r is λj hj=>h j (WD _ hj))
  show ZC (xs.getD i .non) (vs.getD i Value.none)
  rw [Vd,Vd,Wm hi,e];exact q
theorem Pd {ds:List D}{xs:List V}(h:DsR X.K ρ H ds xs):∀is:List Nat,(∀i∈is,i<ds.length)->DsR X.K ρ H (is.map λi=>ds.getD i .non) (is.map λi=>xs.getD i .non)
 |[],_=>.nil
 |i :: is,hh=>by
  have hi:=hh i WC
  obtain⟨x,e,q⟩:=h.get (Wm hi)
  refine .cons ?_ (Pd h is λj hj=>hh j (WD _ hj))
  show DR X.K ρ H (ds.getD i .non) (xs.getD i .non)
  rw [Vd,Vd,Wm hi,e];exact q
theorem Ng {A:Around}{E:Value->Shared->Prop}{P:PySem.Fin->Shared->Prop}{a:Addr}{ds:List D}{xs:List V}(I:Inv X pins σ H s)(hu:A.units+64<cLine)(ha:H a=some (.lst xs))(h:DsR X.K ρ H ds xs)(ok:Qw ds=true)
  (q:∀(is:List Nat) s',(∀i∈is,i<ds.length)->(is.map λi=>ds.getD i D.non)=Qq ds->Inv X pins σ (upd H a (.lst (is.map λi=>xs.getD i .non))) s'->P (.done (.ret .none)) s') :
  wpAny (model X.prog X.w) A (Builtin.«list.sort» ⟨[.ref a],[]⟩) P E s:=by
 obtain⟨hz,vs,n,rv,ho⟩:=(show Zz X.prog X.w H s.heap a (.lst xs) from I.hok a _ ha)
 have hl:ds.length=vs.length:=h.length.trans rv.length
 unfold Qw at ok;rw [Wr,decide_eq_true_eq] at ok;have h64:vs.length<64:=by omega
 have s1:=VI s.heap a (Vc λ_=>(#[]:Array Value))
 obtain⟨e1,ho1⟩:∃e1,(s.heap.update a (Vc λ_=>(#[]:Array Value))).get? a=some (seqObj "list" #[] e1):=⟨_,get?_update_seq ho λ_=>#[]⟩
 have hX:∀o,Ext ρ H ρ (upd H a o):=λo=>Ext.upd ha (λ_ z=>nomatch z) λ_ _ z=>nomatch z
 have I1:Inv X pins σ (upd H a (.lst [])) { s with heap:=s.heap.update a (Vc λ_=>(#[]:Array Value)) }:=JV (s:=s) (t':=s.toks) I (by rw [ha];exact True.intro) s1 ⟨_,ho1⟩ (show Zz X.prog X.w _ _ a (.lst []) from ⟨Vq _,[],e1,.nil,ho1⟩)
 have I3:Inv X pins σ (upd H a (.lst [])) { s with heap:=((s.heap.update a (Vc λ_=>(#[]:Array Value))).push (seqObj "tuple" vs.toArray 0)).push (seqObj "list" #[] 0) }:=
  I1.kept (t':=s.toks) λb o e=>Wj _ (Wj _ e)
 have ho3:(((s.heap.update a (Vc λ_=>(#[]:Array Value))).push (seqObj "tuple" vs.toArray 0)).push (seqObj "list" #[] 0)).get? a=some (seqObj "list" #[] e1):=Wj _ (Wj _ ho1)
 have fin:∀(is:List Nat),(∀i∈is,i<ds.length)->is.length<=Wc->(is.map λi=>ds.getD i D.non)=Qq ds->P (.done (.ret .none)) { s with heap:=(((s.heap.update a (Vc λ_=>(#[]:Array Value))).push (seqObj "tuple" vs.toArray 0)).push (seqObj "list" #[] 0)).update a (Vc λ_=>VE (is.map λi=>vs.getD i Value.none)) }:=λis hi hlen e=>by
  have s2:=VI (((s.heap.update a (Vc λ_=>(#[]:Array Value))).push (seqObj "tuple" vs.toArray 0)).push (seqObj "list" #[] 0)) a (Vc λ_=>VE (is.map λi=>vs.getD i Value.none))
  obtain⟨e2,ho4⟩:∃e2,((((s.heap.update a (Vc λ_=>(#[]:Array Value))).push (seqObj "tuple" vs.toArray 0)).push (seqObj "list" #[] 0)).update a (Vc λ_=>VE (is.map λi=>vs.getD i Value.none))).get? a=some (seqObj "list" (VE (is.map λi=>vs.getD i Value.none)) e2):=
   ⟨_,get?_update_seq ho3 λ_=>VE (is.map λi=>vs.getD i Value.none)⟩
  have I4:=JV (s:={ s with heap:=((s.heap.update a (Vc λ_=>(#[]:Array Value))).push (seqObj "tuple" vs.toArray 0)).push (seqObj "list" #[] 0) }) (t':=s.toks) (ob:=.lst (is.map λi=>xs.getD i .non)) I3 (by rw [Z6];exact True.intro) s2 ⟨_,ho4⟩
   (show Zz X.prog X.w _ _ a (.lst (is.map λi=>xs.getD i .non)) from ⟨by rw [Wl];exact hlen,_,e2,Gw rv is (λi z=>by rw [<-h.length];exact hi i z),ho4⟩)
  rw [Qp] at I4;exact q is _ hi e I4
 rw [list_sort_plain];refine W2 (listItems_at ho rfl ?_)
 refine W2 (listUpdate_at ho rfl ?_ (by rw [Wn,VX];omega) (Vq _))
 refine W2 (seqEpoch_at ho1 rfl ?_)
 refine W2 (wpAny_newTuple ?_ (by show vs.length<=_;rw [VX];omega))
 refine W2 (wpAny_newList ?_ (Vq _))
 refine Vs ?_
 show wpAny (model X.prog X.w) A _ P E { s with heap:=((s.heap.update a (Vc λ_=>(#[]:Array Value))).push (seqObj "tuple" vs.toArray 0)).push (seqObj "list" #[] 0) }
 dsimp only;have hsl:64<=Wc:=by decide
 by_cases h2:vs.length<2
 ·have hn2:vs.toArray.size<2:=by rw [Wn];exact h2
  rw [if_pos hn2,if_pos hn2];refine W2 (Wk ?_)
  refine W2 (Wk ?_)
  dsimp only;have hout:(arrOf (SortSt.mk' general' (vs.toArray.zip vs.toArray) #[] 7 none)).map (·.2)=VE ((Wo ds.length).map λi=>vs.getD i Value.none):=by
   show (vs.toArray.zip vs.toArray).map (·.2)=_
   apply Array.toList_inj.mp
   rw [hl]
   apply List.ext_getElem
   ·simp
   ·intro i h1 h2
    simp at h1
    simp [h1]
  refine W2 (seqEpoch_at ho3 rfl ?_)
  rw [hout];refine W2 (listUpdate_at ho3 rfl ?_ (Vq _) (by simp only [Wn,Wl,W1r];omega))
  simp only [bne_self_eq_false,VP,if_false]
  refine Wk (fin _ (λi hi=>by simpa using hi) (by simp;omega) ?_)
  have hr:(Wo ds.length).map (λi=>ds.getD i D.non)=ds:=by
   apply List.ext_getElem
   ·simp
   ·intro i h1 h2
    simp [h2]
  rw [hr]
  match ds,hl with
  |[],_=>rfl
  |[_],_=>rfl
  |_ :: _ :: _,e=>exact absurd h2 (by rw [<-e];simp)
 ·have hn2:¬vs.toArray.size<2:=by rw [Wn];exact h2
  rw [if_neg hn2,if_neg hn2];have hok:CB ds=true/\Cp ds=true:=by
   have:=ok.2
   rw [decide_eq_false (by omega),Bool.false_or,Wr] at this
   exact this
  obtain⟨κ,hk1,hk2⟩:=D8 (s:={ s with heap:=((s.heap.update a (Vc λ_=>(#[]:Array Value))).push (seqObj "tuple" vs.toArray 0)).push (seqObj "list" #[] 0) }) I3 (h.up (hX _)) rv (by omega) hok.1 hok.2
  refine W2 (hk1 _ _ A _ _ ?_)
  have hca:=Mw hok.2
  have hw:(W0F vs.length).kasWp (kas_ask X.prog X.w A κ vs) (λp s'=>p=KS.ev (ltI ds) (W0F ds.length)/\s'={ s with heap:=((s.heap.update a (Vc λ_=>(#[]:Array Value))).push (seqObj "tuple" vs.toArray 0)).push (seqObj "list" #[] 0) })
    { s with heap:=((s.heap.update a (Vc λ_=>(#[]:Array Value))).push (seqObj "tuple" vs.toArray 0)).push (seqObj "list" #[] 0) }:=by
   rw [<-hl];refine CM (n:=ds.length) (lt:=ltI ds) (λi j hi hj C hC=>hk2 _ _ A hu i j hi hj C ?_) _ _ (KS.rg_sort (by omega)) ⟨rfl,rfl⟩
   unfold ltI at hC;rw [if_pos hi,if_pos hj] at hC;exact hC
  refine W2 (VF (kat_run (Q:=λst' s'=>arrOf st'=(KS.ev (ltI ds) (W0F ds.length)).map (kas_item (vs.toArray.zip vs.toArray))/\failedOf st'=none/\s'={ s with heap:=((s.heap.update a (Vc λ_=>(#[]:Array Value))).push (seqObj "tuple" vs.toArray 0)).push (seqObj "list" #[] 0) })
   rfl (by omega) h64 (λp' st' s' a1 a2 a3 a4=>⟨by rw [<-a4.1];exact a2,a3,a4.2⟩) hw) ?_ λ_ _ e=>e)
  rintro⟨⟨⟩,st'⟩ s' ⟨har,hf,rfl⟩
  dsimp only;have hout:=kat_snds (ks:=vs) (vs:=vs) rfl har
  obtain⟨hp,_⟩:=KS.sort_ok (HI hca) (n:=ds.length) (by omega)
  have hpl:(KS.ev (ltI ds) (W0F ds.length)).toList.Perm (Wo ds.length):=hp.toList
  have hpn:(KS.ev (ltI ds) (W0F ds.length)).toList.length=ds.length:=by have:=hpl.length_eq;simpa using this
  rw [hout];refine W2 (seqEpoch_at ho3 rfl ?_)
  refine W2 (listUpdate_at ho3 rfl ?_ (Vq _) (by simp only [Wn,Wl,hpn];omega))
  rw [hf];simp only [bne_self_eq_false,VP,if_false]
  exact Wk (fin _ (λi hi=>by simpa using hpl.mem_iff.mp hi) (by rw [hpn];omega) (O4 hca (by omega)))
theorem Jx {s1:Shared}{ds:List D}{xs:List V}{vs:List Value}{Q:VK}(I1:Inv X pins σ H s1)(hu:X.A.units+70<cLine)(hd:DsR X.K ρ H ds xs)(rv:Y2 xs vs)(hz:xs.length<=Wc)(ok:Qw ds=true)
  (q:∀a xs',H a=none->DsR X.K ρ H (Qq ds) xs'->Q (.ref a) (upd H a (.lst xs'))):wpAny (model X.prog X.w) X.A.in1 (do
   let l <-newList vs
   let _ <-holding [l] (call (.builtin "list.sort") [l] [])
   ret l) (λfin s'=>∃r,fin = .done (.ret r)/\EP X pins σ Q r s') (λe s'=>X.xe e s') s1:=by
 have hl:ds.length=vs.length:=hd.length.trans rv.length
 have hf:H s1.heap.objs.size=none:=I1.hok.fresh (Wq _)
 refine W2 (wpAny_newList ?_ (by rw [<-rv.length];exact hz))
 have ho:(s1.heap.push (seqObj "list" vs.toArray 0)).get? s1.heap.objs.size=some (seqObj "list" vs.toArray 0):=Wt _ rfl
 have I2:Inv X pins σ (upd H s1.heap.objs.size (.lst xs)) { s1 with heap:=s1.heap.push (seqObj "list" vs.toArray 0) }:=I1.laid (t':=s1.toks) (λb o e=>Wj _ e) (Wq _) (show Zz X.prog X.w _ _ _ (.lst xs) from ⟨hz,vs,0,rv,ho⟩)
 refine W2 (Vs (Vg slot_list_sort ⟨_,ho,rfl⟩ entry_list_sort ?body (args_list_sort _)))
 case body=>
  refine Ng (s:={ s1 with heap:=s1.heap.push (seqObj "list" vs.toArray 0) }) I2 (by show X.A.units+1+1+64<cLine;omega) Z6 (hd.up (Ext.new hf)) ok λis s' hi e I'=>?_
  rw [Qp] at I'
  exact⟨_,rfl,Wk ⟨_,rfl,.ref s1.heap.objs.size,_,I',rfl,q _ _ hf (by rw [<-e];exact Pd hd is hi)⟩⟩
theorem Nz (hu:X.A.units+70<cLine):QU X (.builtin "sorted") (λws H Q=>∃l xs ρ ds,ws=[.ref l]/\(SqL X.K H l xs\/SqT X.K H l xs)/\DsR X.K ρ H ds xs/\Qw ds=true/\∀a xs',H a=none->DsR X.K ρ H (Qq ds) xs'->Q (.ref a) (upd H a (.lst xs'))):=by
 intro pins s σ H ws us Q I r h;obtain⟨l,xs,ρ,ds,rfl,hq,hd,ok,q⟩:=h
 obtain⟨u,rfl,ru⟩:=TD r
 cases ru;refine VS kind_sorted plain_sorted entry_sorted (args_sorted1 _) ?_
 unfold Builtin.«sorted»
 refine W2 (m:=checkCount "sorted" 1 1 _) (Wk ?_)
 rcases hq with hq|hq
 ·obtain⟨its,rv,pl,hz⟩:=I.list hq
  obtain⟨o,ho,hc,n,hdd⟩:=pl.isList
  refine W2 (wpAny_collect_seq l (.inl rfl) ho hc hdd (λh' kp=>?_) (by simp only [Wn];rw [<-rv.length];exact hz))
  exact Jx (I.kept (t':=s.toks) kp) hu hd (by simpa using rv) hz ok q
 ·obtain⟨its,rv,pl,hz⟩:=I.tuple hq
  obtain⟨o,ho,hc,n,hdd⟩:=pl
  refine W2 (wpAny_collect_seq l (.inr rfl) ho hc hdd (λh' kp=>?_) (by simp only [Wn];rw [<-rv.length];exact hz))
  exact Jx (I.kept (t':=s.toks) kp) hu hd (by simpa using rv) hz ok q
theorem AN {xs:List V}{vs:List Value}(hl:xs.length=vs.length)(h:∀(i:Nat) v,vs[i]? = some v->∃x,xs[i]? = some x/\ZC x v):Y2 xs vs:=by
 induction xs generalizing vs with
 |nil=>
  cases vs with
  |nil=>exact .nil
  |cons _ _=>cases hl
 |cons x xs ih=>
  cases vs with
  |nil=>cases hl
  |cons v vs=>
   obtain⟨x',e,r⟩:=h 0 v rfl
   simp at e
   subst e;exact .cons r (ih (by simpa using hl) λi w hw=>by simpa using h (i+1) w (by simpa using hw))
theorem BC (hcalm:X.calm=true)(hu:X.A.units+70<cLine):QU X (.builtin "sorted") (λws H Q=>∃a ρ ds,ws=[.ref a]/\Qw ds=true/\(∀b xs',H b=none->DsR X.K ρ H (Qq ds) xs'->Q (.ref b) (upd H b (.lst xs')))/\
  ((∃(ks:List Key) (vs:List V),(H a=some (.dK (ks.zip vs))\/∃o,H a=some (.frz o (.dK (ks.zip vs))))/\ks.length=vs.length/\DsR X.K ρ H ds (ks.map kV))\/
   ∃kvs,H a=some (.dT kvs)/\∀bs,Paired (λ(p:List Key×V) (b:Addr)=>H b=some (.tup (p.1.map kV))) kvs bs->DsR X.K ρ H ds (bs.map V.ref))):=by
 intro pins s σ H ws us Q I r h;obtain⟨a,ρ,ds,rfl,ok,q,hq⟩:=h
 obtain⟨u,rfl,ru⟩:=TD r
 cases ru;have hh:X.A.handled=none:=I.ok.hd hcalm
 refine VS kind_sorted plain_sorted entry_sorted (args_sorted1 _) ?_
 unfold Builtin.«sorted»
 refine W2 (m:=checkCount "sorted" 1 1 _) (Wk ?_)
 have fin:∀(es:Array DictEntry) (ep:Nat) (xs:List V),(a == sysModules)=false->JK s.heap a es ep->es.size=xs.length->xs.length<=Wc->(∀(i:Nat) (e:DictEntry),es[i]? = some e->∃x,xs[i]? = some x/\ZC x e.key)->DsR X.K ρ H ds xs->
   wpAny (model X.prog X.w) X.A.in1 (collect (.ref a)) (λvs s'=>wpAny (model X.prog X.w) X.A.in1 (do
    let l <-newList vs
    let _ <-holding [l] (call (.builtin "list.sort") [l] [])
    ret l) (λfin s'=>∃r,fin = .done (.ret r)/\EP X pins σ Q r s') (λe s'=>X.xe e s') s') (λe s'=>X.xe e s') s:=λes ep xs hS hm hl hz hk hd=>by
  refine kdu_collect (Eg hS) (by simpa using hh) hm (by omega) λh' tk acc kp hacc=>?_
  have hal:acc.toList.length=es.size:=by rw [VW];exact hacc.1
  refine Jx (s1:={ s with heap:=h',toks:=tk }) (I.kept (t':=tk) kp) hu hd (AN (by omega) λi v hv=>?_) hz ok q
  obtain⟨e,e1,rfl⟩:=hacc.2 i v (by rw [<-W03];exact hv)
  exact hk i e e1
 rcases hq with ⟨ks,vs,hH,hkl,hd⟩|⟨kvs,hH,hd⟩
 ·have hok:Zz X.prog X.w H s.heap a (.dK (ks.zip vs)):=by
   rcases hH with hH|⟨o,hH⟩
   ·exact I.hok a _ hH
   ·exact (show Zz X.prog X.w H s.heap a (.frz o (.dK (ks.zip vs))) from I.hok a _ hH).2
  obtain⟨hS,hz,es,ep,hm,hes,hk⟩:=IY hok
  have hzl:(ks.zip vs).length=ks.length:=by rw [V0];omega
  refine W2 (fin es ep (ks.map kV) hS hm (by rw [Wl];omega) (by rw [Wl];omega) (λi e he=>?_) hd)
  obtain⟨k,v,k1,k2⟩:=hk i e he
  have:=(W0e.mp k1).1
  exact⟨kV k,by rw [WB,this];rfl,k2⟩
 ·obtain⟨hS,hz,es,ep,bs,hm,hes,hbl,hk,hp⟩:=EO I hH
  refine W2 (fin es ep (bs.map V.ref) hS hm (by rw [Wl];omega) (by rw [Wl];omega) (λi e he=>?_) (hd bs hp))
  obtain⟨b,b1,b2⟩:=hk i e he
  exact⟨.ref b,by rw [WB,b1];rfl,by rw [b2];rfl⟩
end
end DL
namespace L2
open PySem PySem.Spec PyProof.Rows
section
variable {X:Cx}
theorem HN:OpR X (compareOp .Is) (λx y H Q=>∃c,y = .bl c/\Q (.bl (decide (x = .bl c))) H):=by
 intro pins s σ H x y v u Q I rx ry h;obtain⟨c,rfl,q⟩:=h
 cases ry;cases x with
 |bl b=>cases rx;exact is_bool (Jr I q (by cases b<;>cases c<;>decide))
 |non=>cases rx;exact Wk (Jr I q (by cases c<;>decide))
 |int i=>obtain⟨t,rfl⟩:=rx;exact Wk (Jr I q (by cases c<;>rfl))
 |str i=>obtain⟨t,rfl⟩:=rx;exact Wk (Jr I q (by cases c<;>rfl))
 |byt i=>obtain⟨t,rfl⟩:=rx;exact Wk (Jr I q (by cases c<;>rfl))
 |flt i=>obtain⟨t,rfl⟩:=rx;exact Wk (Jr I q (by cases c<;>rfl))
 |ref a=>cases rx;exact Wk (Jr I q (by cases c<;>rfl))
 |ty n=>cases rx;exact Wk (Jr I q (by cases c<;>rfl))
theorem R9:OpR X (compareOp .LtE) (λx y H Q=>∃i j,x = .str i/\y = .str j/\Q (.bl (!decide (j.cps.toList<i.cps.toList))) H):=by
 intro pins s σ H x y v u Q I rx ry h;obtain⟨i,j,rfl,rfl,q⟩:=h
 obtain⟨t,rfl⟩:=rx
 obtain⟨t',rfl⟩:=ry
 exact PySem.P.le_str (Jr I q rfl)
theorem Lk:OpR X (binaryOp .Add) (λx y H Q=>∃a b ys,x = .ref a/\y = .ref b/\SqT X.K H a []/\SqT X.K H b ys/\Q (.ref b) H):=by
 intro pins s σ H x y v u Q I rx ry h;obtain⟨a,b,ys,rfl,rfl,ha,hb,q⟩:=h
 cases rx;cases ry;obtain⟨its,r1,p1,_⟩:=I.tuple ha
 obtain⟨its2,r2,p2,_⟩:=I.tuple hb
 have hv:its=[]:=r1.nil_iff.mpr rfl
 subst hv;obtain⟨⟨cls,dd,data,sl⟩,ho,hc,n,hd⟩:=id p1
 obtain⟨⟨cls2,dd2,data2,sl2⟩,ho2,hc2,n2,hd2⟩:=id p2
 simp only at hc hd hc2 hd2
 subst hc hd hc2 hd2;exact concat_meets ⟨_,ho,rfl⟩ ⟨_,ho2,rfl⟩ noFill_tuple_add seq_tuple_add W0y W0p (W0m _ _)
  (tuple_addW0 a b _ _ n n2 dd dd2 sl sl2 (by simp)) ⟨ho,ho2,⟨.ref b,H,I,rfl,q⟩⟩
theorem MM:OpR X (binaryOp .Mult) (λx y H Q=>∃z n,x = .str z/\y = .int n/\MulOk z n/\Q (.str (Txt.mul z n)) H):=by
 intro pins s σ H x y v u Q I rx ry h;obtain⟨z,n,rfl,rfl,hok,q⟩:=h
 obtain⟨t,rfl⟩:=rx
 obtain⟨t',rfl⟩:=ry
 exact SB.mul hok λt'' k=>⟨.str (Txt.mul z n),H,I.tok k,⟨t'',rfl⟩,q⟩
theorem Hg:SlR X (λx lo hi H Q=>∃z,x = .str z/\z.length<=Wc/\Q (.str (Txt.slice z lo hi)) H):=by
 intro pins s σ H x v vl vu lo hi sl Q I rx hs pl pu h;obtain⟨z,rfl,hz,q⟩:=h
 obtain⟨t,rfl⟩:=rx
 refine⟨"str",_,F.slot_str_getitem.lookup,typeIs_str _ _ _,?_⟩
 have fin:∀t' k,EP X pins σ Q (.str (Txt.slice z lo hi) t') { s with toks:=k }:=λt' k=>⟨.str (Txt.slice z lo hi),H,I.tok k,⟨t',rfl⟩,q⟩
 obtain⟨o,e1,e2,e3⟩:=hs
 cases pl with
 |none=>
  cases pu with
  |none=>exact VZ (l:=none) (u:=none) (st:=none) ⟨o,e1,e2,e3⟩ rfl (W14 ⟨V2 (Txt.slice_le z _ _) hz,λt' k=>fin t' k⟩)
  |int j tj=>exact VZ (l:=none) (u:=some (j,tj)) (st:=none) ⟨o,e1,e2,e3⟩ rfl (W14 ⟨V2 (Txt.slice_le z _ _) hz,λt' k=>fin t' k⟩)
 |int i ti=>
  cases pu with
  |none=>exact VZ (l:=some (i,ti)) (u:=none) (st:=none) ⟨o,e1,e2,e3⟩ rfl (W14 ⟨V2 (Txt.slice_le z _ _) hz,λt' k=>fin t' k⟩)
  |int j tj=>exact VZ (l:=some (i,ti)) (u:=some (j,tj)) (st:=none) ⟨o,e1,e2,e3⟩ rfl (W14 ⟨V2 (Txt.slice_le z _ _) hz,λt' k=>fin t' k⟩)
theorem TC:∀{bs:List Bool} {us:List Value},Y2 (bs.map V.bl) us->us=bs.map Value.bool
 |[],_,h=>by cases h;rfl
 |b :: bs,_,h=>by
  cases h with
  |cons r t=>
   have e:=TC t
   rw [W0,<-e,show _=Value.bool b from r]
theorem GR (bs:List Bool):((Wo bs.length).all λi=>bs.getD i true)=bs.all id:=by
 rw [W04,WN,WN]
 constructor
 ·intro h b hb
  obtain⟨i,hi,rfl⟩:=W09.mp hb
  have:=h i (List.mem_range.mpr hi)
  simpa [W0v,hi] using this
 ·intro h i hi
  have hi':=List.mem_range.mp hi
  have:=h bs[i] (VA hi')
  simpa [W0v,hi'] using this
theorem Uq (prog:Program)(w:World)(A:Around)(bs:List Bool):TruthOf prog w A (λi v=>((bs.map Value.bool).toArray)[i]? = some v) (λi=>bs.getD i true):=by
 intro i v s Q E h q;have h':bs[i]?.map Value.bool=some v:=by simpa using h
 cases e:bs[i]? with
 |none=>rw [e] at h';cases h'
 |some b=>
  rw [e] at h'
  cases h'
  have:bs.getD i true=b:=by simp [W0v,e]
  have q':Q (bs.getD i true) s:=q
  rw [this] at q'
  exact W0A q'
theorem BG (hc:X.calm=true):QU X (.builtin "all") (λxs H Q=>∃(a:Addr) (bs:List Bool),xs=[.ref a]/\(SqL X.K H a (bs.map V.bl)\/SqT X.K H a (bs.map V.bl))/\Q (.bl (bs.all id)) H):=by
 intro pins s σ H xs us Q I r h;obtain⟨a,bs,rfl,hq,q⟩:=h
 obtain⟨u,rfl,ru⟩:=TD r
 cases ru;refine call_all_walk ?_
 rcases hq with hq|hq
 ·obtain⟨its,rv,p,hz⟩:=I.list hq
  have e:=TC rv
  subst e;refine W1q p.isList ?_
  have ne:a≠s.heap.objs.size:=by
   obtain⟨o,e,_⟩:=p.isList
   exact WT (Ww e)
  refine⟨_,_,_,_,_,_,λi=>bs.getD i true,rfl,Walks.list (A:=X.A.in1) (show X.A.in1.handled=none from I.ok.hd hc) _ a ne (bs.map Value.bool).toArray,⟨⟨_,Wt _ rfl,rfl,rfl⟩,p.isList.extBut (λb o _ e=>Wj _ e) ne⟩,Uq _ _ _ bs,λh' tk k=>?_⟩
  have e2:(List.map Value.bool bs).toArray.size=bs.length:=by simp
  rw [e2,GR];exact⟨.bl (bs.all id),H,I.kept (h':=h') (t':=tk) (λb o e=>k b o (by simp [WT (Ww e)]) (Wj _ e)),rfl,q⟩
 ·obtain⟨its,rv,p,hz⟩:=I.tuple hq
  have e:=TC rv
  subst e;refine W0u (show s.heap.IsTuple a (bs.map Value.bool).toArray from p) ?_
  have ne:a≠s.heap.objs.size:=WT p.lt
  refine⟨_,_,_,_,_,_,λi=>bs.getD i true,rfl,Walks.tuple (A:=X.A.in1) (show X.A.in1.handled=none from I.ok.hd hc) _ a ne (bs.map Value.bool).toArray,⟨⟨_,Wt _ rfl,rfl,rfl⟩,Heap.IsTuple.extBut (show s.heap.IsTuple a (bs.map Value.bool).toArray from p) (λb o _ e=>Wj _ e) ne⟩,Uq _ _ _ bs,λh' tk k=>?_⟩
  have e2:(List.map Value.bool bs).toArray.size=bs.length:=by simp
  rw [e2,GR];exact⟨.bl (bs.all id),H,I.kept (h':=h') (t':=tk) (λb o e=>k b o (by simp [WT (Ww e)]) (Wj _ e)),rfl,q⟩
theorem JN:∀{ys:List Str} {us:List Value},Y2 (ys.map V.str) us->StrsAre us ys
 |[],_,h=>by cases h;exact .nil
 |y :: ys,_,h=>by
  cases h with
  |cons r t=>
   obtain⟨tk,rfl⟩:=r
   exact .cons y tk (JN t)
theorem EH:MtR X "str.join" (λx xs H Q=>∃(sep:Str) (a:Addr) (ys:List Str),x = .str sep/\xs=[.ref a]/\(SqL X.K H a (ys.map V.str)\/SqT X.K H a (ys.map V.str))/\(ys.map (·.length)).sum+ys.length*sep.length<=16777216/\Q (.str (W0U sep ys)) H):=by
 intro pins s σ H x xs v us Q I rx rs h;obtain⟨sep,a,ys,rfl,rfl,hq,hz,q⟩:=h
 obtain⟨t,rfl⟩:=rx
 obtain⟨u,rfl,ru⟩:=TD rs
 cases ru;rcases hq with hq|hq
 ·obtain⟨its,rv,p,_⟩:=I.list hq
  exact join_list p.isList (by simpa using JN rv) hz λt' k=>⟨.str (W0U sep ys),H,I.tok k,⟨t',rfl⟩,q⟩
 ·obtain⟨its,rv,p,_⟩:=I.tuple hq
  exact join_tuple p (by simpa using JN rv) hz λt' k=>⟨.str (W0U sep ys),H,I.tok k,⟨t',rfl⟩,q⟩
section
variable {tg:Expr} {pins:List (Addr×Obj)} {σ:St} {H1:Hp} {s1:Shared} {R:It->Hp->Prop} {E:Value->Shared->Prop} {a:Addr} {xs:List V}
theorem Lb (I1:Inv X pins σ H1 s1)(hq:SqL X.K H1 a xs)(q:R (Itl X.K a) H1):wpAny (model X.prog X.w) X.A (pyIter (.ref a)) (PIE X pins σ tg R) E s1:=by
 obtain⟨its,rv,p,hz⟩:=I1.list hq
 refine W1q p.isList ?_
 refine⟨s1.heap.objs.size,[s1.heap.objs.size],_,_,H1,rfl,I1.kept (t':=s1.toks) λb o e=>Wj _ e,Kn a _,⟨_,Wt _ rfl,rfl,rfl⟩,λb hb=>?_,q⟩
 have e:b=s1.heap.objs.size:=by simpa using hb
 subst e;exact I1.fpOk (Wq _) (I1.hok.fresh (Wq _))
theorem Ep (I1:Inv X pins σ H1 s1)(hq:SqT X.K H1 a xs)(q:R (Itt X.K a) H1):wpAny (model X.prog X.w) X.A (pyIter (.ref a)) (PIE X pins σ tg R) E s1:=by
 obtain⟨its,rv,p,hz⟩:=I1.tuple hq
 refine W0u (show s1.heap.IsTuple a its.toArray from p) ?_
 refine⟨s1.heap.objs.size,[s1.heap.objs.size],_,_,H1,rfl,I1.kept (t':=s1.toks) λb o e=>Wj _ e,MD a _,⟨_,Wt _ rfl,rfl,rfl⟩,λb hb=>?_,q⟩
 have e:b=s1.heap.objs.size:=by simpa using hb
 subst e;exact I1.fpOk (Wq _) (I1.hok.fresh (Wq _))
def Its (x:Str):It:=⟨λi _=>i<x.cps.size,λi H v H'=>H'=H/\∃c,x.cps[i]? = some c/\v = .str ⟨#[c]⟩,λi _=>i=x.cps.size⟩
theorem Gv (P:Program)(w:World){A:Around}(hh:A.handled=none)(it:Addr)(x:Str)(t:Tok):Walks P w A it [it] [it] x.cps.size (SignAt x) (λi h=>h.IsStrIter it (strIterType x) x t i):=by
 cases ha:x.cps.all (· < 128)
 ·have e:strIterType x = "str_iterator":=by simp [strIterType,ha]
  rw [e];exact Walks.strWide hh it x t
 ·have e:strIterType x = "str_ascii_iterator":=by simp [strIterType,ha]
  rw [e];exact Walks.strAscii hh it x t
theorem PK {P:Program}{w:World}{K:W3}(x:Str)(t:Tok)(it:Addr):Turn P w K tg (Its x) [it] it (λi h=>h.IsStrIter it (strIterType x) x t i) where
 mem:=by simp
 obj:=λi h st b hb=>by
  have e:b=it:=by simpa using hb
  subst e;obtain⟨o,e,c,d⟩:=st
  exact⟨o,e,λv z=>by rw [d] at z;cases z⟩
 keep:=λi h h' st k=>let ⟨o,e,r⟩:=st;⟨o,k it (by simp) o e,r⟩
 item:=by
  intro X hP hw hK hc i pins s σ H E I hf st hg;subst hP hw hK;obtain⟨f0,f1,f2,f3,f4,f5⟩:=hf it (by simp)
  refine (Gv X.prog X.w (I.ok.hd hc) it x t).item i s _ _ hg st λv h' tk hv st' kk=>?_
  obtain⟨c,u,hc',rfl⟩:=hv
  have I1:Inv X pins σ H { s with heap:=h',toks:=tk }:=I.turned (λb o hb e=>kk b o (by simpa using hb) e) f0 f1 f3 f4 f5
  obtain⟨o,e1,e2,e3⟩:=id st'
  refine⟨_,rfl,?_⟩
  have fin:∃y H',Inv X pins σ H' { s with heap:=h',toks:=tk }/\ZC y (.str ⟨#[c]⟩ u)/\(Its x).yld i H y H'/\Heap.IsStrIter h' it (strIterType x) x t (i+1)/\∀b∈[it],H' b=none:=⟨.str ⟨#[c]⟩,H,I1,⟨u,rfl⟩,⟨rfl,c,hc',rfl⟩,st',λb hb=>(hf b hb).1⟩
  unfold letOwnedTupleGo;cases tg<;>exact Wk fin
 done:=by
  intro X hP hw hK hc i pins s σ H E I hf st hg;subst hP hw hK;obtain⟨f0,f1,f2,f3,f4,f5⟩:=hf it (by simp)
  have hi:i=x.cps.size:=hg
  subst hi;exact (Gv X.prog X.w (I.ok.hd hc) it x t).done s _ _ st λh' tk kk=>⟨rfl,I.turned (λb o hb e=>kk b o (by simpa using hb) e) f0 f1 f3 f4 f5⟩
 self:=λA i s Q E st h=>by
  cases ha:x.cps.all (· < 128)
  ·have e:strIterType x = "str_iterator":=by simp [strIterType,ha]
   rw [e] at st;exact wpAny_pyIter_striter_wide st h
  ·have e:strIterType x = "str_ascii_iterator":=by simp [strIterType,ha]
   rw [e] at st;exact wpAny_pyIter_striter_ascii st h
theorem Er {x:Str}{t:Tok}(I1:Inv X pins σ H1 s1)(q:R (Its x) H1):wpAny (model X.prog X.w) X.A (pyIter (.str x t)) (PIE X pins σ tg R) E s1:=by
 refine wpAny_pyIter_strU ?_
 refine⟨s1.heap.objs.size,[s1.heap.objs.size],_,_,H1,rfl,I1.kept (t':=s1.toks) λb o e=>Wj _ e,PK x t _,⟨_,Wt _ rfl,rfl,rfl⟩,λb hb=>?_,q⟩
 have e:b=s1.heap.objs.size:=by simpa using hb
 subst e;exact I1.fpOk (Wq _) (I1.hok.fresh (Wq _))
end
def Z0w (X:Cx)(tl:TE):TI:=λσ H R=>tl σ H λx H1=>(∃a xs,x = .ref a/\SqL X.K H1 a xs/\R (Itl X.K a) H1)\/(∃a xs,x = .ref a/\SqT X.K H1 a xs/\R (Itt X.K a) H1)\/(∃z,x = .str z/\R (Its z) H1)\/
 (∃a kvs,x = .ref a/\H1 a=some (.dK kvs)/\∀o,(∀o u,X.H₀ a≠some (.frz o u))->R (Itk a o) (upd H1 a (.frz o (.dK kvs))))\/(∃a o kvs,x = .ref a/\H1 a=some (.frz o (.dK kvs))/\R (Itk a o) H1)\/
 (∃a,x = .ref a/\H1 a=some (.dT [])/\∀o,(∀o u,X.H₀ a≠some (.frz o u))->R (Itk a o) (upd H1 a (.frz o (.dK []))))\/
 (∃a kvs,x = .ref a/\H1 a=some (.dT kvs)/\∀o,(∀o u,X.H₀ a≠some (.frz o u))->R (Itq a o) (upd H1 a (.frz o (.dT kvs))))\/∃a o kvs,x = .ref a/\H1 a=some (.frz o (.dT kvs))/\R (Itq a o) H1
theorem Hy {tg l:Expr}{tl:TE}(hl:PE X l tl):PI X tg l (Z0w X tl):=by
 intro pins s σ H R I h;refine thn (hl pins s σ H _ I h) λv s1 ⟨x,H1,I1,r1,q1⟩=>?_
 rcases q1 with ⟨a,xs,rfl,hq,q⟩|⟨a,xs,rfl,hq,q⟩|⟨z,rfl,q⟩|⟨a,kvs,rfl,hq,q⟩|⟨a,o,kvs,rfl,hq,q⟩|⟨a,rfl,hq,q⟩|⟨a,kvs,rfl,hq,q⟩|⟨a,o,kvs,rfl,hq,q⟩
 ·cases r1;exact Lb I1 hq q
 ·cases r1;exact Ep I1 hq q
 ·obtain⟨t,rfl⟩:=r1;exact Er I1 q
 ·cases r1;exact NX I1 hq q
 ·cases r1;exact KU I1 hq q
 ·cases r1
  refine NX (I1.asK hq) Z6 λo hn=>?_
  rw [Qp];exact q o hn
 ·cases r1;exact KW I1 hq q
 ·cases r1;exact NW I1 hq q
end
end L2
namespace DL
open PySem PySem.Spec PyProof.Rows L2
section
variable {X:Cx} {e a b c:Expr} {es:List Expr} {pos:Pos}
def Ue:D->D->Sto->Option (D×Sto)
 | .int i,.int j,S=>some (.int (i+j),S)
 | .str x,.str y,S=>if x.length+y.length<=Wc then some (.str (x++y),S) else none
 | .tup xs,.tup ys,S=>if xs.length+ys.length<=Wc then some (.tup (xs++ys),S) else none
 | .ref n,.ref m,S=>match S[n]?,S[m]? with
  |some (.lst xs),some (.lst ys)=>if xs.length+ys.length<=Wc then some (.ref S.length,S++[.lst (xs++ys)]) else none
  |_,_=>none
 |_,_,_=>none
theorem Qe:OpD X (binaryOp .Add) Ue:=by
 refine Ux (HR.or (MN.or (Lk.or (EC.or HQ)))) ?_
 rintro x y H Q ⟨ρ,S,d1,d2,v,S',R,h1,h2,e,k⟩
 cases d1 with
 |int i=>
  cases d2 with
  |int j=>
   cases e;exact .inl ⟨i,j,h1.of_int,h2.of_int,k _ ρ H Ext.refl R .flat_int⟩
  |_=>cases e
 |str i=>
  cases d2 with
  |str j=>
   dsimp only [Ue] at e;split at e
   ·cases e
    exact .inr (.inl ⟨i,j,h1.of_str,h2.of_str,by assumption,k _ ρ H Ext.refl R .flat_str⟩)
   ·cases e
  |_=>cases e
 |tup xs=>
  cases d2 with
  |tup ys=>
   dsimp only [Ue] at e;split at e
   ·rename_i hz
    cases e;obtain⟨a,us,rfl,a1,a2⟩:=h1.of_tup
    obtain⟨b,ws,rfl,b1,b2⟩:=h2.of_tup
    cases xs with
    |nil=>
     have:us=[]:=by unfold DsR at a2;exact a2
     subst this;exact .inr (.inr (.inl ⟨a,b,ws,rfl,rfl,.of a1,.of b1,k _ ρ H Ext.refl R (.tup b1 b2)⟩))
    |cons x0 xs=>
     refine .inr (.inr (.inr (.inl ⟨a,b,us,ws,rfl,rfl,.of a1,.of b1,?_,by rw [<-a2.length,<-b2.length];exact hz,λhw=>?_,λhw p hp=>?_⟩)))
     ·intro z
      rw [z] at a2;have:=a2.length
      simp at this
     ·subst hw
      have:ys=[]:=by
       have:=b2.length
       simpa using this
      subst this;rw [Vu] at k;exact k _ ρ H Ext.refl R (.tup a1 a2)
     ·exact k _ ρ _ (Ext.new hp) (R.new hp) (.tup Z6 ((a2.append b2).up (Ext.new hp)))
   ·cases e
  |_=>cases e
 |ref n=>
  cases d2 with
  |ref m=>
   obtain⟨a,a1,rfl⟩:=h1.of_ref
   obtain⟨b,b1,rfl⟩:=h2.of_ref
   obtain⟨oa,ea,ra⟩:=R.obj a1
   obtain⟨ob,eb,rb⟩:=R.obj b1
   dsimp only [Ue] at e;rw [ea,eb] at e;cases oa with
   |lst xs=>
    cases ob with
    |lst ys=>
     dsimp only at e;split at e
     ·rename_i hz
      cases e;obtain⟨us,u1,u2⟩:=ra
      obtain⟨ws,w1,w2⟩:=rb
      refine .inr (.inr (.inr (.inr ⟨a,b,us,ws,rfl,rfl,u1,w1,by rw [<-u2.length,<-w2.length];exact hz,λp hp=>?_⟩)))
      refine k _ (ρ++[p]) _ (Ext.newRef hp) (R.push hp ⟨_,Z6,(u2.append w2).up (Ext.newRef hp)⟩) (.ref ?_)
      rw [<-R.len];simp
     ·cases e
    |dct _=>cases e
    |fdct _=>cases e
    |ins _ _=>cases e
   |dct _=>cases e
   |fdct _=>cases e
   |ins _ _=>cases e
  |_=>cases e
 |_=>cases e
def Dn (C:Int->Int->Bool)(f:Int->Int->D):D->D->Sto->Option (D×Sto)
 | .int i,.int j,S=>if C i j then some (f i j,S) else none
 |_,_,_=>none
theorem EB {f:Value->Value->Sem Value}{C:Int->Int->Prop}{Cb:Int->Int->Bool}{g:Int->Int->V}{gd:Int->Int->D}(h:OpR X f (rI C g))(hC:∀i j,Cb i j=true->C i j)(hg:∀ρ H i j,DR X.K ρ H (gd i j) (g i j)):OpD X f (Dn Cb gd):=by
 refine Ux h ?_
 rintro x y H Q ⟨ρ,S,d1,d2,v,S',R,h1,h2,e,k⟩
 cases d1 with
 |int i=>
  cases d2 with
  |int j=>
   dsimp only [Dn] at e;split at e
   ·cases e
    exact⟨i,j,h1.of_int,h2.of_int,hC i j (by assumption),k _ ρ H Ext.refl R (hg ρ H i j)⟩
   ·cases e
  |_=>cases e
 |_=>cases e
def Xm:D->D->Sto->Option (D×Sto):=Dn (λ_ _=>true) λi j=>.int (i-j)
def K4:D->D->Sto->Option (D×Sto):=Dn (λ_ j=>decide (0<j)) λi j=>.int (i%j)
theorem QX:OpD X (binaryOp .Mod) K4:=EB HL (λ_ _ h=>of_decide_eq_true h) λ_ _ _ _=>.flat_int
def HX (z:Str)(n:Int):Bool:=decide (0<=n/\n<=1000/\z.length<=1000)
def P5:D->D->Sto->Option (D×Sto)
 | .int i,.int j,S=>if (-(2 ^ 64)<i/\i<2 ^ 64)\/(-(2 ^ 64)<j/\j<2 ^ 64) then some (.int (i*j),S) else none
 | .str z,.int n,S=>if HX z n then some (.str (Txt.mul z n),S) else none
 |_,_,_=>none
theorem Ll {z:Str}{n:Int}(h:HX z n=true):MulOk z n:=by
 obtain⟨h1,h2,h3⟩:=of_decide_eq_true h
 refine⟨?_,λa b=>?_,λa b=>?_⟩
 ·have e1:decide (n < -(2 ^ 63:Int))=false:=decide_eq_false (by omega)
  have e2:decide (n>=2 ^ 63)=false:=decide_eq_false (by omega)
  rw [e1,e2];rfl
 ·intro q
  have hb:(1000:Int)<=(2 ^ 63-1) / n:=by
   rw [Int.le_ediv_iff_mul_le (by omega)]
   omega
  omega
 ·have hm:z.length*n.toNat<=1000*1000:=Nat.mul_le_mul h3 (by omega)
  unfold Builtin.Str.tooLong;have hs:Wc=16777216:=VX
  first
   | (rw [decide_eq_false];omega)
   | (simp;omega)
theorem TZ:OpD X (binaryOp .Mult) P5:=by
 refine Ux (HK.or MM) ?_
 rintro x y H Q ⟨ρ,S,d1,d2,v,S',R,h1,h2,e,k⟩
 cases d1 with
 |int i=>
  cases d2 with
  |int j=>
   dsimp only [P5] at e;split at e
   ·cases e
    exact .inl ⟨i,j,h1.of_int,h2.of_int,by assumption,k _ ρ H Ext.refl R .flat_int⟩
   ·cases e
  |_=>cases e
 |str z=>
  cases d2 with
  |int j=>
   dsimp only [P5] at e;split at e
   ·cases e
    exact .inr ⟨z,j,h1.of_str,h2.of_int,Ll (by assumption),k _ ρ H Ext.refl R .flat_str⟩
   ·cases e
  |_=>cases e
 |_=>cases e
def gLe:D->D->Sto->Option (D×Sto)
 | .int i,.int j,S=>some (.bl (decide (i<=j)),S)
 | .str i,.str j,S=>some (.bl (!decide (j.cps.toList<i.cps.toList)),S)
 |_,_,_=>none
theorem GW:OpD X (compareOp .LtE) gLe:=by
 refine Ux (O5.or R9) ?_
 rintro x y H Q ⟨ρ,S,d1,d2,v,S',R,h1,h2,e,k⟩
 cases d1 with
 |int i=>
  cases d2 with
  |int j=>cases e;exact .inl ⟨i,j,h1.of_int,h2.of_int,k _ ρ H Ext.refl R .flat_bl⟩
  |_=>cases e
 |str i=>
  cases d2 with
  |str j=>cases e;exact .inr ⟨i,j,h1.of_str,h2.of_str,k _ ρ H Ext.refl R .flat_bl⟩
  |_=>cases e
 |_=>cases e
def isD:D->D->Option Bool
 | .bl b,.bl c=>some (b == c)
 |_,.bl _=>some false
 | .non,.non=>some true
 |_,.non=>some false
 |_,_=>none
def gIs:D->D->Sto->Option (D×Sto):=λa b S=>(isD a b).map λr=>(.bl r,S)
theorem Ie {K:W3}{ρ:List Addr}{H:Hp}{d:D}{x:V}{c r:Bool}(h:DR K ρ H d x)(e:isD d (.bl c)=some r):decide (x = .bl c)=r:=by
 cases d with
 |bl b=>rw [h.of_bl];cases e;cases b<;>cases c<;>rfl
 |non=>rw [h.of_non];cases e;rfl
 |int i=>rw [h.of_int];cases e;rfl
 |str i=>rw [h.of_str];cases e;rfl
 |tup xs=>obtain⟨a,us,rfl,_⟩:=h.of_tup;cases e;rfl
 |ref n=>obtain⟨a,_,rfl⟩:=h.of_ref;cases e;rfl
 |scr ns=>obtain⟨a,rfl,_⟩:=h.of_scr;cases e;rfl
theorem C9 {K:W3}{ρ:List Addr}{H:Hp}{d:D}{x:V}{r:Bool}(h:DR K ρ H d x)(e:isD d .non=some r):decide (x = .non)=r:=by
 cases d with
 |bl b=>rw [h.of_bl];cases e;rfl
 |non=>rw [h.of_non];cases e;rfl
 |int i=>rw [h.of_int];cases e;rfl
 |str i=>rw [h.of_str];cases e;rfl
 |tup xs=>obtain⟨a,us,rfl,_⟩:=h.of_tup;cases e;rfl
 |ref n=>obtain⟨a,_,rfl⟩:=h.of_ref;cases e;rfl
 |scr ns=>obtain⟨a,rfl,_⟩:=h.of_scr;cases e;rfl
theorem RT {d1 d2:D}{r:Bool}(e:isD d1 d2=some r):(∃c,d2 = .bl c)\/d2 = .non:=by
 cases d2 with
 |bl c=>exact .inl ⟨c,rfl⟩
 |non=>exact .inr rfl
 |_=>cases d1<;>cases e
theorem GX:OpD X (compareOp .Is) gIs:=by
 refine Ux (HN.or HM) ?_
 rintro x y H Q ⟨ρ,S,d1,d2,v,S',R,h1,h2,e,k⟩
 obtain⟨r,e1,e2⟩:=Wh.mp e
 cases e2;rcases RT e1 with ⟨c,rfl⟩|rfl
 ·exact .inl ⟨c,h2.of_bl,by rw [Ie h1 e1];exact k _ ρ H Ext.refl R .flat_bl⟩
 ·exact .inr ⟨h2.of_non,by rw [C9 h1 e1];exact k _ ρ H Ext.refl R .flat_bl⟩
def gIx:D->D->Sto->Option (D×Sto)
 | .tup xs,.int i,S=>(atI xs i).map λd=>(d,S)
 | .str z,.int i,S=>if z.length<=Wc then (atI z.cps.toList i).map λc=>(.str ⟨#[c]⟩,S) else none
 | .scr ns,.int i,S=>(atI ns i).map λn=>(.int n,S)
 | .ref n,k,S=>match S[n]? with
  |some (.lst xs)=>(match k with | .int i=>(atI xs i).map λd=>(d,S)|_=>none)
  |_=>(J6 S n k).bind λkvs=>(Uo kvs k).map λd=>(d,S)
 |_,_,_=>none
theorem Ct {K:W3}{ρ:List Addr}{H:Hp}{ds:List D}{xs:List V}{i:Int}{d:D}(h:DsR K ρ H ds xs)(e:atI ds i=some d):∃x,atI xs i=some x/\DR K ρ H d x:=by
 unfold atI at e ⊢
 rw [h.length] at e;obtain⟨j,e1,e2⟩:=W1.mp e
 obtain⟨x,h1,h2⟩:=h.get e2
 exact⟨x,by rw [e1];exact h1,h2⟩
theorem Cu {α β:Type}{f:α->β}{xs:List α}{i:Int}{a:α}(h:atI xs i=some a):atI (xs.map f) i=some (f a):=by
 unfold atI at h ⊢
 rw [Wl];obtain⟨j,e1,e2⟩:=W1.mp h
 rw [e1];show (xs.map f)[j]? = _
 rw [WB,e2];rfl
def OZ:R2:=λx y H Q=>∃a v,x = .ref a/\Uf H a y (some v)/\Q v H
theorem EY (hu:X.A.units+64<cLine):IxR X OZ:=by
 intro value slice pins s σ H x y v u Q I rx ry h hs;obtain⟨a,z,rfl,g,q⟩:=h
 cases rx;have g':=g.ofSome
 exact tail_any (Nw I g') PySem.F.slot_dict_getitem.lookup (Pg (by omega) I g' ry λw' s3 I3 rw'=>⟨z,H,I3,rw',q⟩) hs
theorem EW {K:W3}{x y:V}{H:Hp}{Q:VK}(h:rD K gIx x y H Q):rIx K x y H Q\/OZ x y H Q:=by
 obtain⟨ρ,S,d1,d2,v,S',R,h1,h2,e,k⟩:=h
 have seq:∀{a:Addr} {xs:List V} {ds:List D} {i:Int},x = .ref a->d2 = .int i->(SqL K H a xs\/SqT K H a xs)->DsR K ρ H ds xs->(atI ds i).map (λd=>(d,S))=some (v,S')->rIx K x y H Q:=by
  intro a xs ds i ex ei hs hd em;subst ex ei;obtain⟨d,e1,e2⟩:=Wh.mp em
  cases e2;obtain⟨z,z1,z2⟩:=Ct hd e1
  rcases hs with hs|hs
  ·exact .inl ⟨a,xs,i,z,rfl,h2.of_int,hs,z1,k _ ρ H Ext.refl R z2⟩
  ·exact .inr (.inl ⟨a,xs,i,z,rfl,h2.of_int,hs,z1,k _ ρ H Ext.refl R z2⟩)
 cases d1 with
 |tup ds=>
  cases d2 with
  |int i=>
   obtain⟨a,xs,rfl,a1,a2⟩:=h1.of_tup
   exact .inl (seq rfl rfl (.inr (.of a1)) a2 e)
  |_=>cases e
 |str z=>
  cases d2 with
  |int i=>
   dsimp only [gIx] at e;split at e
   ·rename_i hz
    obtain⟨c,e1,e2⟩:=Wh.mp e
    cases e2;exact .inl (.inr (.inr ⟨z,i,c,h1.of_str,h2.of_int,hz,e1,k _ ρ H Ext.refl R .flat_str⟩))
   ·cases e
  |_=>cases e
 |scr ns=>
  cases d2 with
  |int i=>
   obtain⟨d,e1,e2⟩:=Wh.mp e
   cases e2;obtain⟨a,rfl,a1⟩:=h1.of_scr
   exact .inl (.inl ⟨a,_,i,_,rfl,h2.of_int,a1.seq,Cu e1,k _ ρ H Ext.refl R .flat_int⟩)
  |_=>cases e
 |ref n=>
  obtain⟨a,a1,rfl⟩:=h1.of_ref
  dsimp only [gIx] at e;split at e
  ·rename_i xs hn
   obtain⟨ob,eo,ro⟩:=R.obj a1
   rw [hn] at eo;cases eo;obtain⟨ys,y1,y2⟩:=ro
   cases d2 with
   |int i=>exact .inl (seq rfl rfl (.inl (.of y1)) y2 e)
   |_=>cases e
  ·obtain⟨kvs,e3,e⟩:=W1.mp e
   obtain⟨d,e1,e2⟩:=Wh.mp e
   cases e2;obtain⟨g1,_⟩:=Nx R a1 e3 h2
   obtain⟨z,z1,z2⟩:=g1 _ e1
   exact .inr ⟨a,z,rfl,z1,k _ ρ H Ext.refl R z2⟩
 |_=>cases d2<;>cases e
theorem Yb {ma mb:M D}(hu:X.A.units+64<cLine)(ha:SE X a ma)(hb:SE X b mb)(hs:Pt b:=by intro _ _;rfl):SE X (.Subscript a b pos) (mOp gIx ma mb):=by
 refine ZH (O1 (Ia.or (EY hu)) ha hb hs) ?_
 intro σ H Q h;obtain⟨ρ,en,S,v,S',E,R,e,k⟩:=G0 h
 exact⟨ρ,en,S,v,S',E,R,e,λx ρ1 H1 X1 R1 d1=>by
  obtain⟨ρ2,en2,S2,v2,S2',E2,R2,e2,k2⟩:=k x ρ1 H1 X1 R1 d1
  exact⟨ρ2,en2,S2,v2,S2',E2,R2,e2,λy ρ3 H3 X3 R3 d3=>EW (k2 y ρ3 H3 X3 R3 d3)⟩⟩
def Ph {α:Type}(xs:List α)(lo hi:Option Int):List α:=(xs.drop (HT.sIx xs.length 0 lo)).take (HT.sIx xs.length xs.length hi-HT.sIx xs.length 0 lo)
def slD:D->Option Int->Option Int->Sto->Option (D×Sto)
 | .str z,lo,hi,S=>if z.length<=Wc then some (.str (Txt.slice z lo hi),S) else none
 | .tup ds,lo,hi,S=>some (.tup (Ph ds lo hi),S)
 | .ref n,lo,hi,S=>match S[n]? with|some (.lst ds)=>some (.ref S.length,S++[.lst (Ph ds lo hi)])|_=>none
 |_,_,_,_=>none
def MU (m:M D):M (Option Int):=λen S=>(m en S).bind λp=>match p.1 with | .int i=>some (some i,p.2)|_=>none
def G5:M (Option Int):=λ_ S=>some (none,S)
def tMO (K:W3)(m:M (Option Int)):TO:=λσ H Q=>∃ρ en S o S',EnR K ρ H en σ/\StR K ρ H S/\m en S=some (o,S')/\∀ρ' H',Ext ρ H ρ' H'->StR K ρ' H' S'->Q o H'
def SO (X:Cx)(e:Option Expr)(m:M (Option Int)):Prop:=PO X e (tMO X.K m)
theorem AZ:SO X none G5:=by
 intro pins s σ H Q I q;obtain⟨ρ,en,S,o,S',E,R,e,k⟩:=q
 cases e;exact Eo pins s σ H Q I (k ρ H Ext.refl R)
theorem AY {m:M D}(h:SE X e m):SO X (some e) (MU m):=by
 intro pins s σ H Q I q;refine Em h pins s σ H Q I ?_
 obtain⟨ρ,en,S,o,S',E,R,e,k⟩:=q
 unfold MU at e;obtain⟨p,e1,e⟩:=W1.mp e
 obtain⟨d,S1⟩:=p
 cases d with
 |int i=>
  cases e;exact⟨ρ,en,S,.int i,_,E,R,e1,λx ρ1 H1 X1 R1 d1=>⟨i,d1.of_int,k ρ1 H1 X1 R1⟩⟩
 |_=>cases e
def mSl (m:M D)(lo hi:M (Option Int)):M D:=λen S=>(m en S).bind λp=>(lo en p.2).bind λl=>(hi en l.2).bind λu=>slD p.1 l.1 u.1 u.2
theorem L0 {lo hi:Option Expr}{p2:Pos}{m:M D}{ml mh:M (Option Int)}(he:SE X e m)(hl:SO X lo ml)(hh:SO X hi mh):SE X (.Subscript e (.Slice lo hi none p2) pos) (mSl m ml mh):=by
 refine ZH (Le (Hg.or ((Hf.or E5).or Kz)) he hl hh) ?_
 rintro σ H Q ⟨ρ,en,S,v,S',E,R,e,k⟩
 unfold mSl at e;obtain⟨p,e1,e⟩:=W1.mp e
 obtain⟨l,e2,e⟩:=W1.mp e
 obtain⟨u,e3,e⟩:=W1.mp e
 refine⟨ρ,en,S,p.1,p.2,E,R,e1,λx ρ1 H1 X1 R1 d1=>⟨ρ1,en,p.2,l.1,l.2,E.up X1,R1,e2,λρ2 H2 X2 R2=>⟨ρ2,en,l.2,u.1,u.2,(E.up X1).up X2,R2,e3,λρ3 H3 X3 R3=>?_⟩⟩⟩
 have d3:=(d1.up X2).up X3
 have XX:=(X1.trans X2).trans X3
 obtain⟨d,S1⟩:=p
 dsimp only at d3 e;cases d with
 |str z=>
  dsimp only [slD] at e;split at e
  ·cases e
   exact .inl ⟨z,d3.of_str,by assumption,k _ ρ3 H3 XX R3 .flat_str⟩
  ·cases e
 |tup ds=>
  dsimp only [slD] at e;cases e;obtain⟨a,xs,rfl,a1,a2⟩:=d3.of_tup
  have cut:DsR X.K ρ3 H3 (Ph ds l.1 u.1) (Pz xs l.1 u.1):=by
   unfold Ph Pz;rw [a2.length];exact (a2.drop _).take _
  by_cases hw:HT.sIx xs.length 0 l.1=0/\HT.sIx xs.length xs.length u.1=xs.length
  ·refine .inr (.inl (.inr ⟨a,xs,rfl,.of a1,hw,?_⟩))
   have e4:Ph ds l.1 u.1=ds:=by
    unfold Ph;rw [a2.length,hw.1,hw.2,<-a2.length];simp
   rw [e4] at k;exact k _ ρ3 H3 XX R3 (.tup a1 a2)
  ·exact .inr (.inl (.inl ⟨a,xs,rfl,.of a1,hw,λq hq=>k _ ρ3 _ (XX.trans (Ext.new hq)) (R3.new hq) (.tup Z6 (cut.up (Ext.new hq)))⟩))
 |ref n=>
  obtain⟨a,a1,rfl⟩:=d3.of_ref
  obtain⟨ob,eo,ro⟩:=R3.obj a1
  dsimp only [slD] at e;rw [eo] at e;cases ob with
  |lst ds=>
   cases e;obtain⟨xs,x1,x2⟩:=ro
   have cut:DsR X.K ρ3 H3 (Ph ds l.1 u.1) (Pz xs l.1 u.1):=by
    unfold Ph Pz;rw [x2.length];exact (x2.drop _).take _
   refine .inr (.inr ⟨a,xs,rfl,.of x1,λq hq=>?_⟩)
   refine k _ (ρ3++[q]) _ (XX.trans (Ext.newRef hq)) (R3.push hq ⟨_,Z6,cut.up (Ext.newRef hq)⟩) (.ref ?_)
   rw [<-R3.len];simp
  |dct _=>cases e
  |fdct _=>cases e
  |ins _ _=>cases e
 |_=>cases e
def UX:List D->Option (List Bool)
 |[]=>some []
 | .bl b :: r=>(UX r).map λbs=>b :: bs
 |_=>none
theorem BI {K:W3}{ρ:List Addr}{H:Hp}:∀{ds:List D} {xs:List V} {bs:List Bool},DsR K ρ H ds xs->UX ds=some bs->xs=bs.map V.bl
 |[],xs,bs,h,e=>by
  cases e;unfold DsR at h;rw [h];rfl
 |d :: ds,xs,bs,h,e=>by
  unfold DsR at h;obtain⟨x,r,rfl,h1,h2⟩:=h
  cases d with
  |bl b=>
   obtain⟨cs,e1,e2⟩:=Wh.mp e
   cases e2;rw [W0,h1.of_bl,BI h2 e1]
  |_=>cases e
def GB:List D->Option (List Str)
 |[]=>some []
 | .str b :: r=>(GB r).map λbs=>b :: bs
 |_=>none
theorem NJ {K:W3}{ρ:List Addr}{H:Hp}:∀{ds:List D} {xs:List V} {bs:List Str},DsR K ρ H ds xs->GB ds=some bs->xs=bs.map V.str
 |[],xs,bs,h,e=>by
  cases e;unfold DsR at h;rw [h];rfl
 |d :: ds,xs,bs,h,e=>by
  unfold DsR at h;obtain⟨x,r,rfl,h1,h2⟩:=h
  cases d with
  |str b=>
   obtain⟨cs,e1,e2⟩:=Wh.mp e
   cases e2;rw [W0,h1.of_str,NJ h2 e1]
  |_=>cases e
def CF (m:M (List D)):M D:=λen S=>(m en S).bind λp=>(UX p.1).map λbs=>(.bl (bs.all id),p.2)
theorem F6 {p:Pos}{m:M (List D)}(hc:X.calm=true)(h:SQ X e m)(hg:Gl X "all")(hm:X.mg "all" = none)(hv:WG "all" = some (.builtin "all"))
  (he:Ws [e] X.env=(false,eval e X.env) :: Ws [] X.env:=by rfl):SE X (.Call (.Name "all" p) [e] [] pos) (CF m):=by
 refine ZH (Jb (BG hc) hg hm hv (ZS h YI he) (by decide) (by decide) he (by rfl)) ?_
 rintro σ H Q ⟨ρ,en,S,v,S',E,R,e,k⟩
 unfold CF at e;obtain⟨r,e1,e⟩:=W1.mp e
 obtain⟨bs,e2,e3⟩:=Wh.mp e
 cases e3;refine⟨ρ,en,S,r.1,r.2,E,R,e1,λa xs ρ1 H1 X1 R1 sq d1=>⟨a,bs,rfl,?_,k _ ρ1 H1 X1 R1 .flat_bl⟩⟩
 rw [<-BI d1 e2];exact sq
def Ls:D->Sto->Option Nat
 | .str x,_=>if x.length<=Wc then some x.length else none
 | .tup ds,_=>some ds.length
 | .ref n,S=>match S[n]? with|some (.lst ds)=>some ds.length|some (.dct kvs)=>some kvs.length|_=>none
 | .scr ns,_=>some ns.length
 |_,_=>none
def N9 (m:M D):M D:=λen S=>(m en S).bind λp=>(Ls p.1 p.2).map λn=>(.int n,p.2)
theorem Tc:QU X (.builtin "len") (λxs H Q=>∃a,xs=[V.ref a]/\((∃kvs,Rd H a (.dK kvs)/\Q (.int kvs.length) H)\/∃kvs,Rd H a (.dT kvs)/\Q (.int kvs.length) H)):=by
 intro pins s σ H xs us Q I rx h;obtain⟨a,rfl,h⟩:=h
 obtain⟨u,rfl,ru⟩:=Y2.one rx
 cases ru;rcases h with ⟨kvs,h1,q⟩|⟨kvs,h1,q⟩
 ·exact OQ I h1 λt s' I'=>⟨.int kvs.length,H,I',⟨t,rfl⟩,q⟩
 ·obtain⟨hz,hS,xs,r,m⟩:=Bx I.hok h1
  have hlen:kvs.length=xs.length:=VV r
  have hs:Wc=16777216:=VX
  refine Gp hS m (by omega) ?_
  rw [<-hlen];exact⟨.int kvs.length,H,I.tok _,⟨_,rfl⟩,q⟩
theorem Jy {p:Pos}{m:M D}(h:SE X e m)(hg:Gl X "len")(hm:X.mg "len" = none)(hv:WG "len" = some (.builtin "len"))
  (he:Ws [e] X.env=(false,eval e X.env) :: Ws [] X.env:=by rfl):SE X (.Call (.Name "len" p) [e] [] pos) (N9 m):=by
 refine ZH (Jb (BF.or (BE.or Tc)) hg hm hv (ZS h YI he) (by decide) (by decide) he (by rfl)) ?_
 rintro σ H Q ⟨ρ,en,S,v,S',E,R,e,k⟩
 unfold N9 at e;obtain⟨r,e1,e⟩:=W1.mp e
 obtain⟨n,e2,e3⟩:=Wh.mp e
 cases e3;refine⟨ρ,en,S,r.1,r.2,E,R,e1,λx ρ1 H1 X1 R1 d1=>?_⟩
 obtain⟨d,S1⟩:=r
 dsimp only at e2 d1 R1 k;cases d with
 |str z=>
  dsimp only [Ls] at e2;split at e2
  ·cases e2
   exact .inr (.inl ⟨z,by rw [d1.of_str],by assumption,k _ ρ1 H1 X1 R1 .flat_int⟩)
  ·cases e2
 |tup ds=>
  cases e2;obtain⟨a,xs,rfl,a1,a2⟩:=d1.of_tup
  exact .inl ⟨a,xs,rfl,.inr (.of a1),by rw [<-a2.length];exact k _ ρ1 H1 X1 R1 .flat_int⟩
 |ref m0=>
  obtain⟨a,a1,rfl⟩:=d1.of_ref
  obtain⟨ob,eo,ro⟩:=R1.obj a1
  dsimp only [Ls] at e2;rw [eo] at e2;cases ob with
  |lst ds=>
   cases e2;obtain⟨xs,x1,x2⟩:=ro
   exact .inl ⟨a,xs,rfl,.inl (.of x1),by rw [<-x2.length];exact k _ ρ1 H1 X1 R1 .flat_int⟩
  |dct kvs=>
   cases e2;rcases ro with ⟨ks,xs,x1,x2,x3,x4⟩|⟨ks,xs,x1,x2,x3,x4⟩
   ·have l1:=congrArg V4 x3
    rw [Wl,Wl] at l1;refine .inr (.inr ⟨a,rfl,.inl ⟨_,.inl x1,?_⟩⟩)
    rw [V0,<-x2,Nat.min_self,<-l1];exact k _ ρ1 H1 X1 R1 .flat_int
   ·have l1:=congrArg V4 x3
    rw [Wl,Wl] at l1;refine .inr (.inr ⟨a,rfl,.inr ⟨_,.inl x1,?_⟩⟩)
    rw [V0,<-x2,Nat.min_self,<-l1];exact k _ ρ1 H1 X1 R1 .flat_int
  |fdct kvs=>cases e2
  |ins _ _=>cases e2
 |scr ns=>
  cases e2;obtain⟨a,rfl,a1⟩:=d1.of_scr
  exact .inl ⟨a,_,rfl,.inl a1.seq,by rw [Wl];exact k _ ρ1 H1 X1 R1 .flat_int⟩
 |_=>cases e2
def tyD:D->Sto->Option String
 | .non,_=>some "NoneType"
 | .bl _,_=>some "bool"
 | .int _,_=>some "int"
 | .str _,_=>some "str"
 | .tup _,_=>some "tuple"
 | .ref n,S=>match S[n]? with|some (.lst _)=>some "list" |some (.dct _)=>some "dict" |_=>none
 | .scr _,_=>none
theorem CS {K:W3}{ρ:List Addr}{H:Hp}{S:Sto}{d:D}{x:V}{T:String}(R:StR K ρ H S)(h:DR K ρ H d x)(e:tyD d S=some T):TyOf K H x (.type T):=by
 cases d with
 |non=>rw [h.of_non];cases e;exact .non
 |bl b=>rw [h.of_bl];cases e;exact .bl b
 |int i=>rw [h.of_int];cases e;exact .int i
 |str z=>rw [h.of_str];cases e;exact .str z
 |tup ds=>
  obtain⟨a,xs,rfl,a1,_⟩:=h.of_tup
  cases e;exact .tup a1
 |ref n=>
  obtain⟨a,a1,rfl⟩:=h.of_ref
  obtain⟨ob,eo,ro⟩:=R.obj a1
  dsimp only [tyD] at e;rw [eo] at e;cases ob with
  |lst ds=>
   cases e;obtain⟨xs,x1,_⟩:=ro
   exact .lst x1
  |dct kvs=>
   cases e;rcases ro with ⟨ks,xs,x1,_⟩|⟨ks,xs,x1,_⟩
   ·exact .dK x1
   ·exact .dT x1
  |fdct _=>cases e
  |ins _ _=>cases e
 |scr ns=>cases e
def Tn (T C:String):Bool:=T == C||(T == "bool" && C == "int")
def Isi (K:W3)(C:String):Prop:=∀T∈["NoneType", "bool", "int", "str", "tuple", "list", "dict"],Vt K (.type T) (.type C)=some (Tn T C)
theorem Km {d:D}{S:Sto}{T:String}(e:tyD d S=some T):T∈["NoneType", "bool", "int", "str", "tuple", "list", "dict"]:=by
 cases d with
 |ref n=>
  dsimp only [tyD] at e;split at e<;>cases e<;>simp
 |_=>cases e<;>simp
def Kg (C:String)(m:M D):M D:=λen S=>(m en S).bind λp=>(tyD p.1 p.2).map λT=>(.bl (Tn T C),p.2)
theorem LU {C:String}:QU X (.builtin "isinstance") (λxs H Q=>∃x t b,xs=[x,.ty C]/\TyOf X.K H x t/\Vt X.K t (.type C)=some b/\Q (.bl b) H):=by
 intro pins s σ H xs us Q I r h;obtain⟨x,t,b,rfl,ty,e,q⟩:=h
 obtain⟨u,w',rfl,ru,rw'⟩:=MC r
 cases rw'
 exact RQ I ru ty e λtk=>⟨.bl b,H,I.tok tk,rfl,q⟩
theorem JZ {p p2:Pos}{C:String}{x:Str}{m:M D}(hi:Isi X.K C)(h:SE X a m)(hg:Gl X "isinstance")(hm:X.mg "isinstance" = none)(hv:WG "isinstance" = some (.builtin "isinstance"))
  (hg2:Gl X x) (hm2:X.mg x=none) (hv2:WG x=some (.type C)) (hn2:x≠"__name__":=by decide) (hd2:(x == ("__debug__" : Str))=false:=by decide)
  (he:Ws [a,.Name x p2] X.env=(false,eval a X.env) :: Ws [.Name x p2] X.env:=by rfl) (he2:Ws [.Name x p2] X.env=(false,eval (.Name x p2) X.env) :: Ws [] X.env:=by rfl) :
  SE X (.Call (.Name "isinstance" p) [a,.Name x p2] [] pos) (Kg C m):=by
 refine ZH (Jb (LU (C:=C)) hg hm hv (ZS h (ZS (N0 hg2 hm2 hv2 (show ZC (.ty C) (.type C) from rfl) hn2 hd2) YI he2) he) (by decide) (by decide) he (by rw [he2];rfl)) ?_
 rintro σ H Q ⟨ρ,en,S,v,S',E,R,e,k⟩
 unfold Kg at e;obtain⟨r,e1,e⟩:=W1.mp e
 obtain⟨T,e2,e3⟩:=Wh.mp e
 cases e3;exact⟨ρ,en,S,r.1,r.2,E,R,e1,λx ρ1 H1 X1 R1 d1=>⟨x,_,_,rfl,CS R1 d1 e2,hi T (Km e2),k _ ρ1 H1 X1 R1 .flat_bl⟩⟩
def Na (sep:M D)(m:M (List D)):M D:=λen S=>(sep en S).bind λq=>match q.1 with
 | .str x=>(m en q.2).bind λp=>(GB p.1).bind λys=>if (ys.map (·.length)).sum+ys.length*x.length<=16777216 then some (.str (W0U x ys),p.2) else none
 |_=>none
theorem Eb {p:Pos}{sep:M D}{m:M (List D)}(hs:SE X a sep)(h:SQ X e m)(he:PA X [e] (Kw (tMQ X.K m) Hb):=by exact ZS h YI)
  (hb:PE X (.Call (.Attribute a "join" p) [e] [] pos) (tBM X.K "str" (λx xs H Q=>∃(sep:Str) (a:Addr) (ys:List Str),x = .str sep/\xs=[.ref a]/\(SqL X.K H a (ys.map V.str)\/SqT X.K H a (ys.map V.str))/\(ys.map (·.length)).sum+ys.length*sep.length<=16777216/\Q (.str (W0U sep ys)) H) (tM X.K sep) (Kw (tMQ X.K m) Hb))) :
  SE X (.Call (.Attribute a "join" p) [e] [] pos) (Na sep m):=by
 refine ZH hb ?_
 rintro σ H Q ⟨ρ,en,S,v,S',E,R,e,k⟩
 unfold Na at e;obtain⟨q,e0,e⟩:=W1.mp e
 obtain⟨d,S0⟩:=q
 cases d with
 |str x=>
  dsimp only at e;obtain⟨r,e1,e⟩:=W1.mp e
  obtain⟨ys,e2,e⟩:=W1.mp e
  split at e
  ·rename_i hz
   cases e;refine⟨ρ,en,S,.str x,S0,E,R,e0,λz ρ0 H0 X0 R0 d0=>?_⟩
   rw [d0.of_str];refine⟨rfl,ρ0,en,S0,r.1,r.2,E.up X0,R0,e1,λa xs ρ1 H1 X1 R1 sq d1=>⟨x,a,ys,rfl,rfl,?_,hz,k _ ρ1 H1 (X0.trans X1) R1 .flat_str⟩⟩
   rw [<-NJ d1 e2];exact sq
  ·cases e
 |_=>cases e
def Nq:D->Sto->Option (ItD×Sto)
 | .tup ds,S=>some ((ds,.no),S)
 | .ref n,S=>match S[n]? with
  |some (.lst ds)=>some ((ds,.lst n),S)
  |some (.dct kvs)=>if (kvs.all λp=>(Qy p.1).isSome)=true then some ((kvs.map (·.1),.fr n kvs true),S.set n (.fdct kvs)) else if (kvs.all λp=>(YN p.1).isSome)=true then some ((kvs.map (·.1),.fr n kvs true),S.set n (.fdct kvs)) else none
  |some (.fdct kvs)=>some ((kvs.map (·.1),.fr n kvs false),S)
  |_=>none
 | .scr ns,S=>some ((ns.map D.int,.no),S)
 | .str x,S=>some ((x.cps.toList.map λc=>D.str ⟨#[c]⟩,.no),S)
 |_,_=>none
def QT (m:M D):M ItD:=λen S=>(m en S).bind λp=>Nq p.1 p.2
theorem Ly {K:W3}{ρ0:List Addr}{H0:Hp}{n:Nat}{a:Addr}{ds:List D}(ha:ρ0[n]? = some a):ItR K ρ0 H0 (Itl K a) ds (.lst n):=by
 intro ρ H S X R g;have g':S[n]? = some (.lst ds):=g
 obtain⟨a',h1,xs,h2,h3⟩:=R.ob n _ g'
 have e:a'=a:=by
  have:=X.pre n a ha
  rw [this] at h1;exact (WS h1).symm
 subst e;refine⟨λi d hd=>?_,xs,.of h2,by rw [<-h3.length];exact Wq _⟩
 obtain⟨x,x1,x2⟩:=h3.get hd
 refine⟨⟨xs,x,.of h2,x1⟩,λy H' hy=>?_⟩
 obtain⟨rfl,hy⟩:=hy
 have:=hy xs (.of h2)
 rw [x1] at this;cases this;exact⟨Ext.refl,R,x2⟩
theorem C0 {K:W3}{ρ0:List Addr}{H0:Hp}{a:Addr}{ds:List D}{xs:List V}(ha:H0 a=some (.tup xs))(h3:DsR K ρ0 H0 ds xs):ItR K ρ0 H0 (Itt K a) ds .no:=by
 intro ρ H S X R g;have h2:=X.tup a xs ha
 have h3:=h3.up X
 refine⟨λi d hd=>?_,xs,.of h2,by rw [<-h3.length];exact Wq _⟩
 obtain⟨x,x1,x2⟩:=h3.get hd
 refine⟨⟨xs,x,.of h2,x1⟩,λy H' hy=>?_⟩
 obtain⟨rfl,hy⟩:=hy
 have:=hy xs (.of h2)
 rw [x1] at this;cases this;exact⟨Ext.refl,R,x2⟩
theorem C5 {K:W3}{ρ0:List Addr}{H0:Hp}{a:Addr}{ns:List Int}(ha:LX K H0 a ns):ItR K ρ0 H0 (Itl K a) (ns.map D.int) .no:=by
 intro ρ H S X R g;have h2:=(ha.mono X.weak).seq
 have h3:DsR K ρ H (ns.map D.int) (ns.map V.int):=.ints ns
 refine⟨λi d hd=>?_,_,h2,by rw [<-h3.length];exact Wq _⟩
 obtain⟨x,x1,x2⟩:=h3.get hd
 refine⟨⟨_,x,h2,x1⟩,λy H' hy=>?_⟩
 obtain⟨rfl,hy⟩:=hy
 have:=hy _ h2
 rw [x1] at this;cases this;exact⟨Ext.refl,R,x2⟩
theorem C3 {K:W3}{ρ0:List Addr}{H0:Hp}{x:Str}:ItR K ρ0 H0 (Its x) (x.cps.toList.map λc=>D.str ⟨#[c]⟩) .no:=by
 intro ρ H S X R g;refine⟨λi d hd=>?_,by show _=x.cps.size;simp⟩
 rw [WB] at hd;have hd':∃c,x.cps[i]? = some c/\d=D.str ⟨#[c]⟩:=by
  cases q:x.cps.toList[i]? with
  |none=>rw [q] at hd;cases hd
  |some c=>rw [q] at hd;cases hd;exact⟨c,by simpa using q,rfl⟩
 obtain⟨c,hc,rfl⟩:=hd'
 refine⟨(W08.mp hc).1,λy H' hy=>?_⟩
 obtain⟨rfl,c',h1,rfl⟩:=hy
 rw [hc] at h1;cases h1;exact⟨Ext.refl,R,.flat_str⟩
theorem UJ {K:W3}{ρ:List Addr}{H:Hp}{d:D}{k:Key}(e:Qy d=some k):DR K ρ H d (kV k):=by
 cases d with
 |int i=>cases e;exact .flat_int
 |str x=>cases e;exact .flat_str
 |_=>cases e
theorem Gf {K:W3}{ρ0:List Addr}{H0:Hp}{n:Nat}{a:Addr}{o:Obj}{tab:List (Key×V)}{kvs:List (D×D)}{th:Bool}(ha:ρ0[n]? = some a)(h0:H0 a=some (.frz o (.dK tab))):ItR K ρ0 H0 (Itk a o) (kvs.map (·.1)) (.fr n kvs th):=by
 intro ρ H S X1 R hg;have hH:=X1.frz a o _ h0
 obtain⟨ob,e1,r⟩:=R.obj (X1.pre n a ha)
 have hg':S[n]? = some (.fdct kvs):=hg
 rw [hg'] at e1;cases e1;rcases r with ⟨o',⟨ks,xs,q1,q2,q3,q4⟩|⟨_,_,q1,_⟩⟩
 rotate_left
 ·rw [hH] at q1;cases q1
 rw [hH] at q1;cases q1;have l1:=congrArg V4 q3
 rw [Wl,Wl] at l1;refine⟨λi d hd=>?_,⟨_,hH,by rw [Wl,V0,<-q2,Nat.min_self,l1]⟩⟩
 rw [WB] at hd;obtain⟨p,p1,p2⟩:=Wh.mp hd
 have li:i<ks.length:=by rw [<-l1];exact (Wi.mp p1).1
 have hk:Qy d=some ks[i]:=by
  have:=congrArg (λl=>l[i]?) q3
  simp only [WB,p1,W5,Wm li] at this
  rw [<-p2];exact WS this
 have hz:(ks.zip xs)[i]? = some (ks[i],xs[i]'(by omega)):=by
  rw [Wm (by rw [V0];omega),W0M]
 refine⟨⟨_,ks[i],xs[i]'(by omega),hH,hz⟩,λx H' y=>?_⟩
 obtain⟨rfl,y2⟩:=y
 obtain⟨k,v,y3,rfl⟩:=y2 _ hH
 rw [hz] at y3;cases y3;exact⟨Ext.refl,R,UJ hk⟩
theorem M7 {K:W3}{ρ:List Addr}{H:Hp}:∀{ds:List D} {ks:List Key},MX ds=some ks->DsR K ρ H ds (ks.map kV)
 |[],_,e=>by cases e;exact .nil
 |d :: ds,ks,e=>by
  obtain⟨k,e1,e⟩:=W1.mp e
  obtain⟨ks',e2,e3⟩:=Wh.mp e
  subst e3;exact .cons (UJ e1) (M7 e2)
theorem Bl {K:W3}{ρ0:List Addr}{H0:Hp}{n:Nat}{a:Addr}{o:Obj}{tab:List (List Key×V)}{kvs:List (D×D)}{th:Bool}(ha:ρ0[n]? = some a)(h0:H0 a=some (.frz o (.dT tab))):ItR K ρ0 H0 (Itq a o) (kvs.map (·.1)) (.fr n kvs th):=by
 intro ρ H S X1 R hg;have hH:=X1.frz a o _ h0
 obtain⟨ob,e1,r⟩:=R.obj (X1.pre n a ha)
 have hg':S[n]? = some (.fdct kvs):=hg
 rw [hg'] at e1;cases e1;rcases r with ⟨o',⟨_,_,q1,_⟩|⟨ks,xs,q1,q2,q3,q4⟩⟩
 ·rw [hH] at q1;cases q1
 rw [hH] at q1;cases q1;have l1:=congrArg V4 q3
 rw [Wl,Wl] at l1;refine⟨λi d hd=>?_,⟨_,hH,by rw [Wl,V0,<-q2,Nat.min_self,l1]⟩⟩
 rw [WB] at hd;obtain⟨p,p1,p2⟩:=Wh.mp hd
 have li:i<ks.length:=by rw [<-l1];exact (Wi.mp p1).1
 have hk:YN d=some ks[i]:=by
  have:=congrArg (λl=>l[i]?) q3
  simp only [WB,p1,W5,Wm li] at this
  rw [<-p2];exact WS this
 have hz:(ks.zip xs)[i]? = some (ks[i],xs[i]'(by omega)):=by
  rw [Wm (by rw [V0];omega),W0M]
 refine⟨⟨_,ks[i],xs[i]'(by omega),hH,hz⟩,λx H' y=>?_⟩
 obtain⟨rfl,y2⟩:=y
 obtain⟨k,v,b,y3,rfl,hb⟩:=y2 _ hH
 rw [hz] at y3;cases y3;refine⟨Ext.refl,R,?_⟩
 cases d with
 |tup ds=>exact .tup hb (M7 hk)
 |_=>cases hk
theorem Ut {tg:Expr}{m:M D}(h:SE X e m):SI X tg e (QT m):=by
 refine NY (Hy h) ?_
 rintro σ H Q ⟨ρ,en,S,r,S',E,R,e,k⟩
 unfold QT at e;obtain⟨p,e1,e2⟩:=W1.mp e
 refine⟨ρ,en,S,p.1,p.2,E,R,e1,λx ρ1 H1 X1 R1 d1=>?_⟩
 obtain⟨d,S1⟩:=p
 dsimp only at e2 d1 R1 k;cases d with
 |tup ds=>
  cases e2;obtain⟨a,xs,rfl,a1,a2⟩:=d1.of_tup
  exact .inr (.inl ⟨a,xs,rfl,.of a1,k _ ρ1 H1 X1 R1 (C0 a1 a2) trivial⟩)
 |ref n=>
  obtain⟨a,a1,rfl⟩:=d1.of_ref
  obtain⟨ob,eo,ro⟩:=R1.obj a1
  dsimp only [Nq] at e2;rw [eo] at e2;cases ob with
  |lst ds=>
   cases e2;obtain⟨xs,x1,x2⟩:=ro
   exact .inl ⟨a,xs,rfl,.of x1,k _ ρ1 H1 X1 R1 (Ly a1) trivial⟩
  |dct kvs=>
   dsimp only at e2;split at e2
   ·rename_i hk
    cases e2;have ro':∃(ks:List Key) (xs:List V),(H1 a=some (.dK (ks.zip xs))\/(H1 a=some (.dT [])/\ks=[]/\xs=[]))/\ks.length=xs.length/\kvs.map (λp=>Qy p.1)=ks.map some/\DsR X.K ρ1 H1 (kvs.map (·.2)) xs:=by
     rcases ro with ⟨ks,xs,q1,q2,q3,q4⟩|⟨ks,xs,q1,q2,q3,q4⟩
     ·exact⟨ks,xs,.inl q1,q2,q3,q4⟩
     ·have hn:=J7 q3 hk (λ_ _=>Jd)
      subst hn;cases ks with
      |nil=>exact⟨[],[],.inr ⟨q1,rfl,rfl⟩,rfl,rfl,.nil⟩
      |cons _ _=>cases q3
    obtain⟨ks,xs,q1,q2,q3,q4⟩:=ro'
    have goK:∀o,(∀o u,X.H₀ a≠some (.frz o u))->H1 a=some (.dK (ks.zip xs))->Q (Itk a o) (upd H1 a (.frz o (.dK (ks.zip xs)))):=λo hn hq=>by
     have hE:Ext ρ1 H1 ρ1 (upd H1 a (.frz o (.dK (ks.zip xs)))):=Ext.upd hq (λ_ z=>nomatch z) λ_ _ z=>nomatch z
     obtain⟨R2,X2⟩:=R1.set (o:=.frz o (.dK (ks.zip xs))) (ob:=.fdct kvs) a1 (λ_ z=>by rw [eo] at z;cases z) ⟨o,.inl ⟨ks,xs,Z6,q2,q3,q4.up hE⟩⟩
     have hX:∀o u,H a≠some (.frz o u):=λo u z=>by have:=X1.frz a o u z;rw [hq] at this;cases this
     have hT:∀ys,H a≠some (.tup ys):=λys z=>by have:=X1.tup a ys z;rw [hq] at this;cases this
     exact k _ ρ1 _ (X1.trans X2) R2 (Gf a1 Z6) ⟨a,a1,hX,hT,hn⟩
    have goT:∀o,(∀o u,X.H₀ a≠some (.frz o u))->H1 a=some (.dT [])->kvs=[]->Q (Itk a o) (upd H1 a (.frz o (.dK []))):=λo hn hq hk=>by
     subst hk;obtain⟨R2,X2⟩:=R1.set (o:=.frz o (.dK [])) (ob:=.fdct []) a1 (λ_ z=>by rw [eo] at z;cases z) ⟨o,.inl ⟨[],[],Z6,rfl,rfl,.nil⟩⟩
     have hX:∀o u,H a≠some (.frz o u):=λo u z=>by have:=X1.frz a o u z;rw [hq] at this;cases this
     have hT:∀ys,H a≠some (.tup ys):=λys z=>by have:=X1.tup a ys z;rw [hq] at this;cases this
     exact k _ ρ1 _ (X1.trans X2) R2 (Gf a1 Z6) ⟨a,a1,hX,hT,hn⟩
    rcases q1 with q1|⟨q1,rfl,rfl⟩
    ·exact .inr (.inr (.inr (.inl ⟨a,_,rfl,q1,λo hn=>goK o hn q1⟩)))
    ·cases kvs with
     |nil=>exact .inr (.inr (.inr (.inr (.inr (.inl ⟨a,rfl,q1,λo hn=>goT o hn q1 rfl⟩)))))
     |cons _ _=>cases q3
   ·rename_i hk0
    split at e2
    ·rename_i hk
     cases e2;rcases ro with ⟨ks,xs,q1,q2,q3,q4⟩|⟨ks,xs,q1,q2,q3,q4⟩
     ·have hn:=J7 q3 hk (λ_ _=>Qx)
      subst hn;exact absurd rfl hk0
     ·refine .inr (.inr (.inr (.inr (.inr (.inr (.inl ⟨a,_,rfl,q1,λo hn=>?_⟩))))))
      have hE:Ext ρ1 H1 ρ1 (upd H1 a (.frz o (.dT (ks.zip xs)))):=Ext.upd q1 (λ_ z=>nomatch z) λ_ _ z=>nomatch z
      obtain⟨R2,X2⟩:=R1.set (o:=.frz o (.dT (ks.zip xs))) (ob:=.fdct kvs) a1 (λ_ z=>by rw [eo] at z;cases z) ⟨o,.inr ⟨ks,xs,Z6,q2,q3,q4.up hE⟩⟩
      have hX:∀o u,H a≠some (.frz o u):=λo u z=>by have:=X1.frz a o u z;rw [q1] at this;cases this
      have hT:∀ys,H a≠some (.tup ys):=λys z=>by have:=X1.tup a ys z;rw [q1] at this;cases this
      exact k _ ρ1 _ (X1.trans X2) R2 (Bl a1 Z6) ⟨a,a1,hX,hT,hn⟩
    ·cases e2
  |fdct kvs=>
   cases e2;rcases ro with ⟨o,⟨ks,xs,q1,q2,q3,q4⟩|⟨ks,xs,q1,q2,q3,q4⟩⟩
   ·exact .inr (.inr (.inr (.inr (.inl ⟨a,o,_,rfl,q1,k _ ρ1 H1 X1 R1 (Gf a1 q1) trivial⟩))))
   ·exact .inr (.inr (.inr (.inr (.inr (.inr (.inr ⟨a,o,_,rfl,q1,k _ ρ1 H1 X1 R1 (Bl a1 q1) trivial⟩))))))
  |ins _ _=>cases e2
 |scr ns=>
  cases e2;obtain⟨a,rfl,a1⟩:=d1.of_scr
  exact .inl ⟨a,_,rfl,a1.seq,k _ ρ1 H1 X1 R1 (C5 a1) trivial⟩
 |str z=>
  cases e2;exact .inr (.inr (.inl ⟨z,d1.of_str,k _ ρ1 H1 X1 R1 C3 trivial⟩))
 |_=>cases e2
def BO (lo:Int)(n:Nat):List D:=(Wo n).map λi=>D.int (lo+(i:Nat))
def Tb (m:M D):M ItD:=λen S=>(m en S).bind λp=>match p.1 with | .int j=>if -(2 ^ 62)<=j/\j<2 ^ 62 then some ((BO 0 j.toNat,.no),p.2) else none|_=>none
theorem C6 {K:W3}{ρ0:List Addr}{H0:Hp}{lo:Int}{n:Nat}:ItR K ρ0 H0 (Itr lo n) (BO lo n) .no:=by
 intro ρ H S X R g;refine⟨λi d hd=>?_,by show n<=_;simp [BO]⟩
 unfold BO at hd;rw [WB] at hd;cases q:(Wo n)[i]? with
 |none=>rw [q] at hd;cases hd
 |some c=>
  rw [q] at hd;cases hd;obtain⟨h1,h2⟩:=Wi.mp q
  simp at h1 h2
  subst h2;refine⟨h1,λy H' hy=>?_⟩
  obtain⟨rfl,rfl⟩:=hy
  exact⟨Ext.refl,R,.flat_int⟩
theorem Us {tg:Expr}{p:Pos}{m:M D}(h:SE X a m)(hg:Gl X "range")(hm:X.mg "range" = none)(hs:Ws [a] X.env=[(false,eval a X.env)]:=by rfl):SI X tg (.Call (.Name "range" p) [a] [] pos) (Tb m):=by
 refine NY (KY hg hm (ZS h YI (by rw [hs];rfl)) hs) ?_
 rintro σ H Q ⟨ρ,en,S,r,S',E,R,e,k⟩
 unfold Tb at e;obtain⟨q,e1,e⟩:=W1.mp e
 obtain⟨d,S1⟩:=q
 cases d with
 |int j=>
  dsimp only at e;split at e
  ·rename_i hj
   cases e;exact⟨ρ,en,S,.int j,_,E,R,e1,λx ρ1 H1 X1 R1 d1=>⟨j,by rw [d1.of_int],hj.1,hj.2,k _ ρ1 H1 X1 R1 C6 trivial⟩⟩
  ·cases e
 |_=>cases e
end
end DL
namespace DL
open PySem PySem.Spec PyProof.Rows L2
section
variable {X:Cx} {e a b c:Expr} {es:List Expr} {pos:Pos}
def tML (K:W3)(m:M (List D)):TE:=λσ H Q=>∃ρ en S ds S',EnR K ρ H en σ/\StR K ρ H S/\m en S=some (ds,S')/\
 ∀a xs ρ' H',Ext ρ H ρ' H'->StR K ρ' H' S'->H' a=none->DsR K ρ' H' ds xs->Q (.ref a) (upd H' a (.lst xs))
def SL (X:Cx)(e:Expr)(m:M (List D)):Prop:=PE X e (tML X.K m)
theorem XI {m:M (List D)}(h:SL X e m):SE X e (QS m):=by
 refine ZH h ?_
 rintro σ H Q ⟨ρ,en,S,v,S',E,R,e,k⟩
 unfold QS at e;obtain⟨p,e1,e2⟩:=Wh.mp e
 cases e2;refine⟨ρ,en,S,p.1,p.2,E,R,e1,λa xs ρ' H' X1 R1 ha d1=>?_⟩
 refine k _ (ρ'++[a]) _ (X1.trans (Ext.newRef ha)) (R1.push ha ⟨xs,Z6,d1.up (Ext.newRef ha)⟩) (.ref ?_)
 rw [<-R1.len];simp
section
variable {tg iter elt:Expr} {ifs:List Expr} {scope:Scope} {tgs cn:List Str} {caps:List Nat} {mi:M ItD} {g:TG} {gd:D->En->Option En} {mc:M Bool} {m:M D}
theorem KA (hc:X.calm=true)(sc:CompSc X scope cn caps)(hi:SI X tg iter mi)(hlow:PB tgs.length g)(hgd:GD X.K g gd)
  (hg:∀fp s H C,PG (ZF X scope (tgs++cn) fp s H C) tg g) (hf:∀fp s H C,SF (ZF X scope (tgs++cn) fp s H C) ifs mc) (he:∀fp s H C,SE (ZF X scope (tgs++cn) fp s H C) elt m)
  (hs:∀x,foldedSetIterable iter X.env x=pure x:=by intro _;rfl):SL X (.ListComp elt [⟨tg,iter,ifs,0⟩] scope pos) (Qg mi tgs.length caps gd mc m):=by
 refine ZH (BY (BZ (tt:=tMT X.K mc) (te:=tM X.K m) hc sc.cell sc.kind sc.names sc.free sc.cap hi hlow hg hf he hs)) ?_
 rintro σ H Q ⟨ρ,en,S,ds,S',E,R,e,k⟩
 exact JI hgd (λ_ _ _ h=>h) E R e k
end
theorem Ti {K:W3}{ρ:List Addr}{H:Hp}{S:Sto}{n:Nat}{a:Addr}{ds:List D}(R:StR K ρ H S)(h:ρ[n]? = some a)(e:S[n]? = some (.lst ds)):∃xs,H a=some (.lst xs)/\DsR K ρ H ds xs:=by
 obtain⟨ob,e1,r⟩:=R.obj h
 rw [e] at e1;cases e1;exact r
def Rm:M D:=λ_ S=>some (.ref S.length,S++[.dct []])
theorem BV:SE X (.Dict [] [] pos) Rm:=by
 refine ZH Lg ?_
 rintro σ H Q ⟨ρ,en,S,v,S',E,R,e,k⟩
 cases e;intro p hp;refine k _ (ρ++[p]) _ (Ext.newRef hp) (R.push hp (.inl ⟨[],[],Z6,rfl,rfl,.nil⟩)) (.ref ?_)
 rw [<-R.len];simp
theorem AM.or {t t':Dp}(h:AM X t)(h':AM X t'):AM X (λo i v H Q=>t o i v H Q\/t' o i v H Q):=by
 intro pins s σ H o i v ov iv u Q I ro ri rv q;rcases q with q|q
 ·exact h pins s σ H o i v ov iv u Q I ro ri rv q
 ·exact h' pins s σ H o i v ov iv u Q I ro ri rv q
theorem PX (hu:X.A.units+64<cLine):AM X (λo i v H Q=>∃a H',o = .ref a/\Cy H a i v H'/\Q H'):=by
 intro pins s σ H o i v ov iv u Q I ro ri rv h;obtain⟨a,H',rfl,g,q⟩:=h
 cases ro;exact K6 (by omega) I g ri rv λs' I'=>⟨H',I',q⟩
def F5 (a k v:D)(S:Sto):Option Sto:=match a with
 | .ref n=>match S[n]? with
  |some (.lst ds)=>(match k with
   | .int i=>(ixN ds.length i).map λj=>S.set n (.lst (ds.set j v))
   |_=>none)
  |some (.dct kvs)=>if (Yz kvs k&&decide (kvs.length<Wc))=true then some (S.set n (.dct (JH kvs k v))) else none
  |_=>none
 |_=>none
def YB (mv ma mb:M D):MS:=λen S=>(mv en S).bind λp=>(ma en p.2).bind λq=>(mb en q.2).bind λr=>(F5 q.1 r.1 p.1 r.2).map λS'=>(.nx,en,S')
theorem DsR.setAt {K:W3}{ρ:List Addr}{H:Hp}{d:D}{x:V}(h:DR K ρ H d x):∀{ds:List D} {xs:List V} (j:Nat),DsR K ρ H ds xs->DsR K ρ H (ds.set j d) (xs.set j x)
 |[],xs,j,t=>by unfold DsR at t;subst t;exact .nil
 |c :: ds,xs,j,t=>by
  unfold DsR at t;obtain⟨y,r,rfl,t1,t2⟩:=t
  cases j with
  |zero=>exact .cons h t2
  |succ j=>exact .cons t1 (DsR.setAt h j t2)
theorem YJ {v:Expr}{p1:Pos}{mv ma mb:M D}(hu:X.A.units+64<cLine)(hv:SE X v mv)(ha:SE X a ma)(hb:SE X b mb)
  (hs:swapsWithSole [.Subscript a b p1] v pos.line X.env=pure false:=by rfl) (hw:swappedStores [.Subscript a b p1] v X.env=pure none:=by rfl)
  (h1:(assignEach [.Subscript a b p1] X.env).map (·.2)=[assign (.Subscript a b p1) X.env]:=by rfl)
  (hq:∀v,assign (.Subscript a b p1) X.env v=(do
   let ov <-holding [v] (eval a X.env)
   let iv <-holding [v,ov] (eval b X.env)
   standAt p1
   holding [v,ov,iv] (setItem ov iv v)
   release [v,ov,iv] []):=by intro _;rfl):SS X (.Assign [.Subscript a b p1] v pos) (YB mv ma mb):=by
 refine Jo (F8 hv (Hz ha hb (AM.or PV (PX hu)) hq) hs hw h1) ?_
 rintro DD σ H ⟨ρ,en,S,f,en',S',E,R,e,k⟩
 unfold YB at e;obtain⟨p,e1,e⟩:=W1.mp e
 obtain⟨q,e2,e⟩:=W1.mp e
 obtain⟨r,e3,e⟩:=W1.mp e
 obtain⟨S3,e4,e5⟩:=Wh.mp e
 cases e5;refine⟨ρ,en,S,p.1,p.2,E,R,e1,λx ρ1 H1 X1 R1 d1=>⟨ρ1,en,p.2,q.1,q.2,E.up X1,R1,e2,λy ρ2 H2 X2 R2 d2=>⟨ρ2,en,q.2,r.1,r.2,(E.up X1).up X2,R2,e3,λz ρ3 H3 X3 R3 d3=>?_⟩⟩⟩
 obtain⟨qd,qS⟩:=q
 obtain⟨rd,rS⟩:=r
 dsimp only at e4 d2 d3 R3;have d1':=(d1.up X2).up X3
 have d2':=d2.up X3
 cases qd with
 |ref n=>
  obtain⟨l,a1,rfl⟩:=d2'.of_ref
  dsimp only [F5] at e4;split at e4
  ·rename_i ds hn
   cases rd with
   |int i=>
    obtain⟨j,j1,j2⟩:=Wh.mp e4
    subst j2;obtain⟨xs,h1,h2⟩:=Ti R3 a1 hn
    refine .inl ⟨l,xs,i,j,rfl,d3.of_int,h1,by rw [<-h2.length];exact j1,?_⟩
    have hE:Ext ρ3 H3 ρ3 (upd H3 l (.lst (xs.set j x))):=Ext.upd h1 (λ_ z=>nomatch z) λ_ _ z=>nomatch z
    obtain⟨R4,X4⟩:=R3.set (o:=.lst (xs.set j x)) (ob:=.lst (ds.set j p.1)) a1 (λ_ z=>by rw [hn] at z;cases z) ⟨_,Z6,(DsR.setAt d1' j h2).up hE⟩
    exact k ρ3 _ σ (((X1.trans X2).trans X3).trans X4) R4 (E.up (((X1.trans X2).trans X3).trans X4))
   |_=>cases e4
  ·rename_i kvs hn
   split at e4
   ·rename_i hc
    cases e4;rw [Wr,decide_eq_true_eq] at hc;obtain⟨H4,g,R4,X4⟩:=Cj R3 a1 hn hc.1 hc.2 d3 d1'
    exact .inr ⟨l,H4,rfl,g,k ρ3 H4 σ (((X1.trans X2).trans X3).trans X4) R4 (E.up (((X1.trans X2).trans X3).trans X4))⟩
   ·cases e4
  ·cases e4
 |_=>cases e4
def Nb (ma mb mc:M D):M D:=λen S=>(ma en S).bind λp=>(mb en p.2).bind λq=>(mc en q.2).bind λr=>match p.1 with
 | .ref n=>if K0 p.2 n=true then (J6 r.2 n q.1).map λkvs=>((Uo kvs q.1).getD r.1,r.2) else none
 |_=>none
theorem Lh {o e f:Expr}{apos cpos:Pos}{td ty tx:TE}(hu:X.A.units+64<cLine)(ho:PE X o td)(he:PE X e ty)(hf:PE X f tx)(m:M2 X o "get" apos e f cpos) :
  PE X (.Call (.Attribute o "get" apos) [e,f] [] cpos) (λσ H Q=>td σ H λx H1=>∃a,x = .ref a/\IsD H1 a/\ty σ H1 λy H2=>tx σ H2 λz H3=>∃o,Uf H3 a y o/\Q (o.getD z) H3):=by
 intro pins s σ H Q I h;refine wpAny_Call_method m.base m.few m.line PySem.F.plainAttrs_dict W0I PySem.F.type_dict_get (thn (ho pins s σ H _ I h) λu s1 ⟨x,H1,I1,rx,a,ex,d,q1⟩=>?_)
 subst ex;obtain rfl:u=Value.ref a:=rx
 obtain⟨t1,t2,_⟩:=Ag I1 d
 refine⟨t1,t2,?_⟩
 rw [m.trees];refine W0z rfl (Calls.evalArgs_plain (W0o (thn (he pins s1 σ H1 _ I1 q1) λiv s2 ⟨y,H2,I2,ry,q2⟩=>
  W0o (thn (hf pins s2 σ H2 _ I2 q2) λfv s3 ⟨z,H3,I3,rz,ov,g,q3⟩=>W1n ?_))))
 exact Cn (by omega) I3 g ry rz λw' s4 I4 rw'=>⟨_,H3,I4,rw',q3⟩
theorem Ed {apos:Pos}{ma mb mc:M D}(hu:X.A.units+64<cLine)(ha:SE X a ma)(hb:SE X b mb)(hc:SE X c mc)(m:M2 X a "get" apos b c pos:=by exact⟨by rfl,by rfl,by rfl,by rfl⟩) :
  SE X (.Call (.Attribute a "get" apos) [b,c] [] pos) (Nb ma mb mc):=by
 refine ZH (Lh hu ha hb hc m) ?_
 rintro σ H Q ⟨ρ,en,S,v,S',E,R,e,k⟩
 unfold Nb at e;obtain⟨p,e1,e⟩:=W1.mp e
 obtain⟨q,e2,e⟩:=W1.mp e
 obtain⟨r,e3,e⟩:=W1.mp e
 obtain⟨pd,pS⟩:=p
 refine⟨ρ,en,S,pd,pS,E,R,e1,λx ρ1 H1 X1 R1 d1=>?_⟩
 cases pd with
 |ref n=>
  dsimp only at e;split at e
  ·rename_i hn0
   obtain⟨kvs,hn,e⟩:=Wh.mp e
   ·cases e
    obtain⟨l,a1,rfl⟩:=d1.of_ref
    refine⟨l,rfl,Af R1 a1 hn0,ρ1,en,pS,q.1,q.2,E.up X1,R1,e2,λy ρ2 H2 X2 R2 d2=>⟨ρ2,en,q.2,r.1,r.2,(E.up X1).up X2,R2,e3,λz ρ3 H3 X3 R3 d3=>?_⟩⟩
    obtain⟨g1,g2⟩:=Nx R3 (X3.pre n l (X2.pre n l a1)) hn (d2.up X3)
    cases hd:Uo kvs q.1 with
    |some w=>
     rw [hd] at k;obtain⟨x',x1,x2⟩:=g1 w hd
     exact⟨some x',x1,k _ ρ3 H3 ((X1.trans X2).trans X3) R3 x2⟩
    |none=>
     rw [hd] at k;exact⟨none,g2 hd,k _ ρ3 H3 ((X1.trans X2).trans X3) R3 d3⟩
  ·cases e
 |_=>cases e
def AO:D->Sto->Option (List D)
 | .tup ds,_=>some ds
 | .ref n,S=>match S[n]? with|some (.lst ds)=>some ds|_=>none
 | .scr ns,_=>some (ns.map D.int)
 |_,_=>none
def MT (m:M D):M D:=λen S=>(m en S).bind λp=>(AO p.1 p.2).map λds=>(.tup ds,p.2)
theorem KB {p:Pos}{m:M D}(h:SE X e m)(hg:Gl X "tuple")(hm:X.mg "tuple" = none)(hv:WG "tuple" = some (.type "tuple"))
  (he:Ws [e] X.env=(false,eval e X.env) :: Ws [] X.env:=by rfl):SE X (.Call (.Name "tuple" p) [e] [] pos) (MT m):=by
 refine ZH (Jz JJ hg hm hv (ZS h YI he) (by decide) (by decide) he (by rfl)) ?_
 rintro σ H Q ⟨ρ,en,S,v,S',E,R,e,k⟩
 unfold MT at e;obtain⟨q,e1,e⟩:=W1.mp e
 obtain⟨ds,e2,e3⟩:=Wh.mp e
 cases e3;refine⟨ρ,en,S,q.1,q.2,E,R,e1,λx ρ1 H1 X1 R1 d1=>?_⟩
 obtain⟨d,S1⟩:=q
 dsimp only at e2 d1 R1 k;cases d with
 |tup es=>
  cases e2;obtain⟨a,xs,rfl,a1,a2⟩:=d1.of_tup
  exact⟨a,xs,rfl,.inr ⟨.of a1,k _ ρ1 H1 X1 R1 d1⟩⟩
 |ref n=>
  obtain⟨a,a1,rfl⟩:=d1.of_ref
  dsimp only [AO] at e2;split at e2
  ·rename_i es hn
   cases e2;obtain⟨xs,h1,h2⟩:=Ti R1 a1 hn
   exact⟨a,xs,rfl,.inl ⟨.of h1,λl hl=>k _ ρ1 _ (X1.trans (Ext.new hl)) (R1.new hl) (.tup Z6 (h2.up (Ext.new hl)))⟩⟩
  ·cases e2
 |scr ns=>
  cases e2;obtain⟨a,rfl,a1⟩:=d1.of_scr
  exact⟨a,_,rfl,.inl ⟨a1.seq,λl hl=>k _ ρ1 _ (X1.trans (Ext.new hl)) (R1.new hl) (.tup Z6 ((DsR.ints ns).up (Ext.new hl)))⟩⟩
 |_=>cases e2
def N8 (m:M (List D)):M D:=λen S=>(m en S).map λp=>(.tup p.1,p.2)
theorem BU {p:Pos}{m:M (List D)}(h:SL X e m)(hg:Gl X "tuple")(hm:X.mg "tuple" = none)(hv:WG "tuple" = some (.type "tuple"))
  (he:Ws [e] X.env=(false,eval e X.env) :: Ws [] X.env:=by rfl):SE X (.Call (.Name "tuple" p) [e] [] pos) (N8 m):=by
 refine ZH (Jz JJ hg hm hv (ZS h YI he) (by decide) (by decide) he (by rfl)) ?_
 rintro σ H Q ⟨ρ,en,S,v,S',E,R,e,k⟩
 unfold N8 at e;obtain⟨q,e1,e2⟩:=Wh.mp e
 cases e2;refine⟨ρ,en,S,q.1,q.2,E,R,e1,λa xs ρ1 H1 X1 R1 ha d1=>⟨a,xs,rfl,.inl ⟨.of Z6,λl hl=>?_⟩⟩⟩
 exact k _ ρ1 _ ((X1.trans (Ext.new ha)).trans (Ext.new hl)) ((R1.new ha).new hl) (.tup Z6 ((d1.up (Ext.new ha)).up (Ext.new hl)))
theorem Kz {p:Pos}{m:M (List D)}(h:SQ X e m)(hg:Gl X "list")(hm:X.mg "list" = none)(hv:WG "list" = some (.type "list"))
  (he:Ws [e] X.env=(false,eval e X.env) :: Ws [] X.env:=by rfl):SL X (.Call (.Name "list" p) [e] [] pos) m:=by
 refine ZH (Jz BD hg hm hv (ZS h YI he) (by decide) (by decide) he (by rfl)) ?_
 rintro σ H Q ⟨ρ,en,S,ds,S',E,R,e,k⟩
 refine⟨ρ,en,S,ds,S',E,R,e,λa xs ρ1 H1 X1 R1 hq d1=>⟨a,xs,rfl,hq,λl hl=>k l xs ρ1 H1 X1 R1 hl d1⟩⟩
def CA:D->Sto->Option (List D)
 | .tup ds,_=>some ds
 | .ref n,S=>match S[n]? with
  |some (.lst ds)=>some ds
  |some (.dct kvs)=>some (kvs.map (·.1))
  |_=>none
 | .scr ns,_=>some (ns.map D.int)
 |_,_=>none
def Rl (m:M D):M (List D):=λen S=>(m en S).bind λp=>(CA p.1 p.2).bind λds=>if Qw ds=true then some (Qq ds,p.2) else none
theorem M6 {K:W3}{ρ:List Addr}{H:Hp}:∀{kvs:List (D×D)} {ks:List Key},kvs.map (λp=>Qy p.1)=ks.map some->DsR K ρ H (kvs.map (·.1)) (ks.map kV)
 |[],ks,e=>by
  cases ks with
  |nil=>exact .nil
  |cons _ _=>cases e
 |p :: kvs,ks,e=>by
  cases ks with
  |nil=>cases e
  |cons k ks=>
   simp only [W0,W05] at e
   exact .cons (UJ e.1) (M6 e.2)
theorem B9 {K:W3}{ρ:List Addr}{H:Hp}:∀{ds:List D} {ks:List Key},MX ds=some ks->DsR K ρ H ds (ks.map kV)
 |[],ks,e=>by cases e;exact .nil
 |d :: ds,ks,e=>by
  unfold MX at e;obtain⟨k,e1,e⟩:=W1.mp e
  obtain⟨ks',e2,e3⟩:=Wh.mp e
  subst e3;exact .cons (UJ e1) (B9 e2)
theorem B8 {K:W3}{ρ:List Addr}{H:Hp}:∀{kvs:List (D×D)} {ks:List (List Key)} {xs:List V} {bs:List Addr},kvs.map (λp=>YN p.1)=ks.map some->ks.length=xs.length->Paired (λ(p:List Key×V) (b:Addr)=>H b=some (.tup (p.1.map kV))) (ks.zip xs) bs->DsR K ρ H (kvs.map (·.1)) (bs.map V.ref)
 |[],ks,xs,bs,e,hl,h=>by
  cases ks with
  |nil=>cases h;exact .nil
  |cons _ _=>cases e
 |p :: kvs,ks,xs,bs,e,hl,h=>by
  cases ks with
  |nil=>cases e
  |cons k ks=>
   cases xs with
   |nil=>cases hl
   |cons x xs=>
    simp only [W0,W05] at e
    rw [Wz] at h;cases h with
    |cons h1 h2=>
     obtain⟨d,v⟩:=p
     refine .cons ?_ (B8 e.2 (by simpa using hl) h2)
     have e1:=e.1
     cases d with
     |tup ds=>exact .tup h1 (B9 e1)
     |_=>cases e1
theorem MI {p:Pos}{m:M D}(hcalm:X.calm=true)(hu:X.A.units+70<cLine)(h:SE X e m)(hg:Gl X "sorted")(hm:X.mg "sorted" = none)(hv:WG "sorted" = some (.builtin "sorted"))
  (he:Ws [e] X.env=(false,eval e X.env) :: Ws [] X.env:=by rfl):SL X (.Call (.Name "sorted" p) [e] [] pos) (Rl m):=by
 refine ZH (Jb ((Nz hu).or (BC hcalm hu)) hg hm hv (ZS h YI he) (by decide) (by decide) he (by rfl)) ?_
 rintro σ H Q ⟨ρ,en,S,ds,S',E,R,e,k⟩
 unfold Rl at e;obtain⟨q,e1,e⟩:=W1.mp e
 obtain⟨ds0,e2,e⟩:=W1.mp e
 split at e
 ·rename_i ok
  cases e;refine⟨ρ,en,S,q.1,q.2,E,R,e1,λx ρ1 H1 X1 R1 d1=>?_⟩
  obtain⟨d,S1⟩:=q
  dsimp only at e2 d1 R1 k;have fin:∀b xs',H1 b=none->DsR X.K ρ1 H1 (Qq ds0) xs'->Q (.ref b) (upd H1 b (.lst xs')):=λl xs' hl d'=>k l xs' ρ1 H1 X1 R1 hl d'
  cases d with
  |tup es=>
   cases e2;obtain⟨a,xs,rfl,a1,a2⟩:=d1.of_tup
   exact .inl ⟨a,xs,ρ1,_,rfl,.inr (.of a1),a2,ok,fin⟩
  |scr ns=>
   cases e2;obtain⟨a,rfl,a1⟩:=d1.of_scr
   exact .inl ⟨a,_,ρ1,_,rfl,.inl a1.seq,.ints ns,ok,fin⟩
  |ref n=>
   obtain⟨a,a1,rfl⟩:=d1.of_ref
   obtain⟨ob,eo,ro⟩:=R1.obj a1
   dsimp only [CA] at e2;rw [eo] at e2;cases ob with
   |lst es=>
    cases e2;obtain⟨xs,x1,x2⟩:=ro
    exact .inl ⟨a,xs,ρ1,_,rfl,.inl (.of x1),x2,ok,fin⟩
   |dct kvs=>
    cases e2;rcases ro with ⟨ks,xs,q1,q2,q3,q4⟩|⟨ks,xs,q1,q2,q3,q4⟩
    ·exact .inr ⟨a,ρ1,_,rfl,ok,fin,.inl ⟨ks,xs,.inl q1,q2,M6 q3⟩⟩
    ·exact .inr ⟨a,ρ1,_,rfl,ok,fin,.inr ⟨_,q1,λbs hb=>B8 q3 q2 hb⟩⟩
   |fdct kvs=>cases e2
   |ins _ _=>cases e2
  |_=>cases e2
 ·cases e
end
end DL
namespace DL
open PySem PySem.Spec PyProof.Rows L2
section
variable {X:Cx} {e a b c:Expr} {es:List Expr} {pos:Pos}
def LZ (xs ys:List D):List D:=(xs.zip ys).map λp=>.tup [p.1,p.2]
def MJ:D->Sto->Option (List D×List (Nat×List D))
 | .tup ds,_=>some (ds,[])
 | .ref n,S=>match S[n]? with|some (.lst ds)=>some (ds,[(n,ds)])|_=>none
 |_,_=>none
def gdZ:List (Nat×List D)->Gd
 |[]=>.no
 |g=>.zl g
def HZ (ma mb:M D):M ItD:=λen S=>(ma en S).bind λp=>(mb en p.2).bind λq=>(MJ p.1 q.2).bind λx=>(MJ q.1 q.2).map λy=>((LZ x.1 y.1,gdZ (x.2++y.2)),q.2)
theorem Ah {gs:List (Nat×List D)}{ds:List D}{S:Sto}(h:BP (gdZ gs) ds S):∀p∈gs,S[p.1]? = some (.lst p.2):=by
 cases gs with
 |nil=>intro p hp;cases hp
 |cons _ _=>exact h
def SdR (K:W3)(ρ:List Addr)(H:Hp)(c:Bool)(l:Addr)(ds:List D)(gs:List (Nat×List D)):Prop:=(c=false/\∃vs,H l=some (.tup vs)/\DsR K ρ H ds vs)\/(c=true/\∃n,ρ[n]? = some l/\(n,ds)∈gs)
theorem NM {K:W3}{ρ:List Addr}{H:Hp}{S:Sto}{d:D}{x:V}{r:List D×List (Nat×List D)}(R:StR K ρ H S)(h:DR K ρ H d x)(e:MJ d S=some r):∃c l vs,x = .ref l/\TrS c H l vs/\SdR K ρ H c l r.1 r.2:=by
 cases d with
 |tup ds=>
  cases e;obtain⟨a,xs,rfl,a1,a2⟩:=h.of_tup
  exact⟨false,a,xs,rfl,a1,.inl ⟨rfl,xs,a1,a2⟩⟩
 |ref n=>
  obtain⟨a,a1,rfl⟩:=h.of_ref
  dsimp only [MJ] at e;split at e
  ·rename_i ds hn
   cases e;obtain⟨xs,x1,x2⟩:=Ti R a1 hn
   exact⟨true,a,xs,rfl,x1,.inr ⟨rfl,n,a1,WC⟩⟩
  ·cases e
 |_=>cases e
theorem SdR.mono {K:W3}{ρ:List Addr}{H:Hp}{c:Bool}{l:Addr}{ds:List D}{gs gs':List (Nat×List D)}(h:SdR K ρ H c l ds gs)(hs:∀p∈gs,p∈gs'):SdR K ρ H c l ds gs':=by
 rcases h with h|⟨h1,n,h2,h3⟩
 ·exact .inl h
 ·exact .inr ⟨h1,n,h2,hs _ h3⟩
theorem SdR.at {K:W3}{ρ0 ρ:List Addr}{H0 H:Hp}{S:Sto}{c:Bool}{l:Addr}{ds:List D}{gs:List (Nat×List D)}(h:SdR K ρ0 H0 c l ds gs)(X1:Ext ρ0 H0 ρ H)(R:StR K ρ H S)(g:∀p∈gs,S[p.1]? = some (.lst p.2)):∃vs,TrS c H l vs/\DsR K ρ H ds vs:=by
 rcases h with ⟨rfl,vs,h1,h2⟩|⟨rfl,n,h1,h2⟩
 ·exact⟨vs,X1.tup _ _ h1,h2.up X1⟩
 ·obtain⟨xs,x1,x2⟩:=Ti R (X1.pre n l h1) (g _ h2)
  exact⟨xs,x1,x2⟩
theorem EZ {K:W3}{ρ0:List Addr}{H0:Hp}{c1 c2:Bool}{l1 l2:Addr}{xs ys:List D}{gs:List (Nat×List D)}(s1:SdR K ρ0 H0 c1 l1 xs gs)(s2:SdR K ρ0 H0 c2 l2 ys gs) :
  ItR K ρ0 H0 (Itz c1 l1 c2 l2) (LZ xs ys) (gdZ gs):=by
 intro ρ H S X1 R g;obtain⟨vs,t1,d1⟩:=s1.at X1 R (Ah g)
 obtain⟨ws,t2,d2⟩:=s2.at X1 R (Ah g)
 refine⟨λi d hd=>?_,vs,ws,t1,t2,?_⟩
 ·unfold LZ at hd
  rw [WB] at hd;obtain⟨q,q1,q2⟩:=Wh.mp hd
  obtain⟨z1,z2⟩:=W0e.mp q1
  obtain⟨x,x1,x2⟩:=d1.get z1
  obtain⟨y,y1,y2⟩:=d2.get z2
  refine⟨⟨vs,ws,x,y,t1,t2,x1,y1⟩,λv H' hy=>?_⟩
  obtain⟨p,x',y',rfl,hn,rfl,e1,e2⟩:=hy
  have e1:=e1 _ t1
  have e2:=e2 _ t2
  rw [x1] at e1;rw [y1] at e2;cases e1;cases e2;subst q2;exact⟨Ext.new hn,R.new hn,.tup Z6 ((DsR.cons x2 (.cons y2 .nil)).up (Ext.new hn))⟩
 ·have l1:=d1.length
  have l2:=d2.length
  unfold LZ;rw [Wl,V0];omega
theorem Hh {elts:List Expr}{kt:Nat}{pt p:Pos}{ma mb:M D}(ha:SE X a ma)(hb:SE X b mb)(hg:Gl X "zip")(hm:X.mg "zip" = none)(hv:WG "zip" = some (.type "zip"))
  (he:Ws [a,b] X.env=(false,eval a X.env) :: Ws [b] X.env:=by rfl) (he2:Ws [b] X.env=(false,eval b X.env) :: Ws [] X.env:=by rfl) :
  SI X (.Tuple elts kt pt) (.Call (.Name "zip" p) [a,b] [] pos) (HZ ma mb):=by
 refine NY (Hx hg hm hv (ZS ha (ZS hb YI he2) he) he (by rw [he2];rfl)) ?_
 rintro σ H Q ⟨ρ,en,S,r,S',E,R,e,k⟩
 unfold HZ at e;obtain⟨p,e1,e⟩:=W1.mp e
 obtain⟨q,e2,e⟩:=W1.mp e
 obtain⟨x,e3,e⟩:=W1.mp e
 obtain⟨y,e4,e⟩:=Wh.mp e
 cases e;refine⟨ρ,en,S,p.1,p.2,E,R,e1,λu ρ1 H1 X1 R1 d1=>⟨ρ1,en,p.2,q.1,q.2,E.up X1,R1,e2,λv ρ2 H2 X2 R2 d2=>?_⟩⟩
 obtain⟨c1,l1,vs,rfl,t1,s1⟩:=NM R2 (d1.up X2) e3
 obtain⟨c2,l2,ws,rfl,t2,s2⟩:=NM R2 d2 e4
 refine⟨c1,l1,vs,c2,l2,ws,rfl,t1,t2,k _ ρ2 H2 (X1.trans X2) R2 (EZ (s1.mono λp hp=>W0N _ hp) (s2.mono λp hp=>WO _ hp)) ?_⟩
 show GF X (gdZ (x.2++y.2)) ρ2 H
 cases x.2++y.2<;>trivial
theorem E8 {n:Int}{j:Nat}{p2:Pos}:SE X (.UnaryOp .USub (.Constant (.int n) j p2) pos) (Zn (.int (-n))):=by
 refine ZH (DZ CQ Fa) ?_
 rintro σ H Q ⟨ρ,en,S,v,S',E,R,e,k⟩
 cases e;exact⟨n,rfl,k _ ρ H Ext.refl R .flat_int⟩
def EL (f:Int->Int->Int)(a b:M D):M D:=λen S=>(a en S).bind λp=>(b en p.2).bind λq=>match p.1,q.1 with | .int i,.int j=>some (.int (f i j),q.2)|_,_=>none
def CJ (i j:Int):Int:=if j>i then j else i
theorem PH {f:Int->Int->Int}{ma mb:M D}{σ:L2.St}{H:Hp}{Q:VK}(h:tM X.K (EL f ma mb) σ H Q):Kw (tM X.K ma) (Kw (tM X.K mb) Hb) σ H (λxs H'=>∃i j,xs=[.int i,.int j]/\Q (.int (f i j)) H'):=by
 obtain⟨ρ,en,S,v,S',E,R,e,k⟩:=h
 unfold EL at e;obtain⟨p,e1,e⟩:=W1.mp e
 obtain⟨q,e2,e⟩:=W1.mp e
 obtain⟨d,S1⟩:=p
 obtain⟨d',S2⟩:=q
 refine⟨ρ,en,S,d,S1,E,R,e1,λx ρ1 H1 X1 R1 d1=>⟨ρ1,en,S1,d',S2,E.up X1,R1,e2,λy ρ2 H2 X2 R2 d2=>?_⟩⟩
 cases d with
 |int i=>
  cases d' with
  |int j=>
   cases e;exact⟨i,j,by rw [d1.of_int,d2.of_int],k _ ρ2 H2 (X1.trans X2) R2 .flat_int⟩
  |_=>cases e
 |_=>cases e
theorem E9 {p:Pos}{ma mb:M D}(hc:X.calm=true)(ha:SE X a ma)(hb:SE X b mb)(hg:Gl X "max")(hm:X.mg "max" = none)(hv:WG "max" = some (.builtin "max"))
  (he:Ws [a,b] X.env=(false,eval a X.env) :: Ws [b] X.env:=by rfl) (he2:Ws [b] X.env=(false,eval b X.env) :: Ws [] X.env:=by rfl):SE X (.Call (.Name "max" p) [a,b] [] pos) (EL CJ ma mb):=
 ZH (Jb (Pm hc) hg hm hv (ZS ha (ZS hb YI he2) he) (by decide) (by decide) he (by rw [he2];rfl)) λ_ _ _ h=>PH h
theorem Sa {pins:List (Addr×Obj)}{σ:L2.St}{H:Hp}{s:Shared}{ρ:List Addr}{S:Sto}{d:D}{x:V}{u:Value}{T:String}(I:Inv X pins σ H s)(R:StR X.K ρ H S)(h:DR X.K ρ H d x)(rx:ZC x u)(e:tyD d S=some T) :
  ∃Z,PySem.W.KitX X.K u (.type T) Z/\Z s.heap/\u≠.builtin "__main__.__loader__#opaque":=by
 cases d with
 |non=>rw [h.of_non] at rx;cases e;cases (show u=Value.none from rx);exact⟨_,PySem.W.kitx_none,True.intro,λz=>nomatch z⟩
 |bl b=>rw [h.of_bl] at rx;cases e;cases (show u=Value.bool b from rx);exact⟨_,PySem.W.kitx_bool,True.intro,λz=>nomatch z⟩
 |int i=>rw [h.of_int] at rx;cases e;obtain⟨t,q⟩:=(show ∃t,u=Value.int i t from rx);cases q;exact⟨_,PySem.W.kitx_int,True.intro,λz=>nomatch z⟩
 |str i=>rw [h.of_str] at rx;cases e;obtain⟨t,q⟩:=(show ∃t,u=Value.str i t from rx);cases q;exact⟨_,PySem.W.kitx_str,True.intro,λz=>nomatch z⟩
 |tup ds=>
  obtain⟨a,xs,rfl,a1,_⟩:=h.of_tup
  cases e;cases (show u=Value.ref a from rx)
  obtain⟨its,rv,⟨o,ho,hc,_⟩,_⟩:=I.tuple (.of a1)
  exact⟨_,PySem.W.kitx_tuple,⟨o,ho,hc⟩,λz=>nomatch z⟩
 |ref n=>
  obtain⟨a,a1,rfl⟩:=h.of_ref
  cases (show u=Value.ref a from rx)
  obtain⟨ob,eo,ro⟩:=R.obj a1
  dsimp only [tyD] at e;rw [eo] at e;cases ob with
  |lst ds=>
   cases e;obtain⟨xs,x1,_⟩:=ro
   obtain⟨_,_,n,_,h1⟩:=(show Zz X.prog X.w H s.heap a (.lst xs) from I.hok a _ x1)
   exact⟨_,W1l,⟨_,h1,rfl⟩,λz=>nomatch z⟩
  |dct kvs=>
   cases e;have:IsD H a:=Af R a1 (by unfold K0;rw [eo])
   obtain⟨t1,_⟩:=Ag I this
   obtain⟨o,ho,hc⟩:=t1
   exact⟨_,W1m,⟨o,ho,hc⟩,λz=>nomatch z⟩
  |fdct _=>cases e
  |ins _ _=>cases e
 |scr ns=>cases e
def Rn (C1 C2:String)(m:M D):M D:=λen S=>(m en S).bind λp=>(tyD p.1 p.2).map λT=>(.bl (Tn T C1||Tn T C2),p.2)
theorem Pn {C1 C2:String}(h1:Isi X.K C1)(h2:Isi X.K C2):QU X (.builtin "isinstance") (λxs H Q=>∃x p ρ S d T,xs=[x,.ref p]/\H p=some (.tup [.ty C1,.ty C2])/\StR X.K ρ H S/\DR X.K ρ H d x/\tyD d S=some T/\Q (.bl (Tn T C1||Tn T C2)) H):=by
 intro pins s σ H xs us Q I r h;obtain⟨x,p,ρ,S,d,T,rfl,hp,R,dx,ty,q⟩:=h
 obtain⟨u,w',rfl,ru,rw'⟩:=MC r
 cases rw'
 obtain⟨Z,z1,z2,z3⟩:=Sa I R dx ru ty
 obtain⟨its,rv,⟨o,ho,hc,n,hd⟩,_⟩:=I.tuple (.of hp)
 obtain⟨v1,v2,rfl,r1,r2⟩:=MC rv
 cases (show v1=Value.type C1 from r1)
 cases (show v2=Value.type C2 from r2)
 obtain⟨oc,od,odt,osl⟩:=o
 dsimp only at hc hd;subst hc hd;refine PySem.W.kia_tup z1 I.kIn z2 ho (b:=Tn T C1||Tn T C2) ?_ z3 λtk=>⟨.bl _,H,I.tok tk,rfl,q⟩
 unfold PySem.W.kitAny;rw [h1 T (Km ty)];cases Tn T C1 with
 |true=>rfl
 |false=>
  dsimp only;unfold PySem.W.kitAny;rw [h2 T (Km ty)];cases Tn T C2<;>rfl
theorem Ec {p p1 p2 p3:Pos}{k3:Nat}{C1 C2:String}{x1 x2:Str}{m:M D}(hi1:Isi X.K C1)(hi2:Isi X.K C2)(h:SE X a m)(hg:Gl X "isinstance")(hm:X.mg "isinstance" = none)(hv:WG "isinstance" = some (.builtin "isinstance"))
  (hg1:Gl X x1) (hm1:X.mg x1=none) (hv1:WG x1=some (.type C1)) (hg2:Gl X x2) (hm2:X.mg x2=none) (hv2:WG x2=some (.type C2))
  (hn1:x1≠"__name__":=by decide) (hd1:(x1 == ("__debug__" : Str))=false:=by decide) (hn2:x2≠"__name__":=by decide) (hd2:(x2 == ("__debug__" : Str))=false:=by decide)
  (he:Ws [a,.Tuple [.Name x1 p1,.Name x2 p2] k3 p3] X.env=(false,eval a X.env) :: Ws [.Tuple [.Name x1 p1,.Name x2 p2] k3 p3] X.env:=by rfl)
  (he2:Ws [.Tuple [.Name x1 p1,.Name x2 p2] k3 p3] X.env=(false,eval (.Tuple [.Name x1 p1,.Name x2 p2] k3 p3) X.env) :: Ws [] X.env:=by rfl)
  (hf1:Ws [.Name x1 p1,.Name x2 p2] X.env=(false,eval (.Name x1 p1) X.env) :: Ws [.Name x2 p2] X.env:=by rfl) (hf2:Ws [.Name x2 p2] X.env=(false,eval (.Name x2 p2) X.env) :: Ws [] X.env:=by rfl) :
  SE X (.Call (.Name "isinstance" p) [a,.Tuple [.Name x1 p1,.Name x2 p2] k3 p3] [] pos) (Rn C1 C2 m):=by
 refine ZH (Jb (Pn (C1:=C1) (C2:=C2) hi1 hi2) hg hm hv (ZS h (ZS (F9 (ZS (N0 hg1 hm1 hv1 (show ZC (.ty C1) (.type C1) from rfl) hn1 hd1) (ZS (N0 hg2 hm2 hv2 (show ZC (.ty C2) (.type C2) from rfl) hn2 hd2) YI hf2) hf1)) YI he2) he) (by decide) (by decide) he (by rw [he2];rfl)) ?_
 rintro σ H Q ⟨ρ,en,S,v,S',E,R,e,k⟩
 unfold Rn at e;obtain⟨r,e1,e⟩:=W1.mp e
 obtain⟨T,e2,e3⟩:=Wh.mp e
 cases e3;refine⟨ρ,en,S,r.1,r.2,E,R,e1,λx ρ1 H1 X1 R1 d1=>⟨by show 2<=Wc;decide,λq hq=>⟨x,q,ρ1,r.2,r.1,T,rfl,Z6,R1.new hq,d1.up (Ext.new hq),e2,k _ ρ1 _ (X1.trans (Ext.new hq)) (R1.new hq) .flat_bl⟩⟩⟩
def JA:List D->Option (List (D×D))
 |[]=>some []
 | .tup [k,v] :: r=>if (Qy k).isSome=true then (JA r).map λps=>(k,v) :: ps else none
 |_=>none
def U5 (kvs:List (D×D))(ps:List (D×D)):List (D×D):=ps.foldl (λacc p=>JH acc p.1 p.2) kvs
def B6 (m:M D):M D:=λen S=>(m en S).bind λp=>match p.1 with
 | .tup ds=>if ds.length<=Wc then (JA ds).map λps=>(.ref p.2.length,p.2++[.dct (U5 [] ps)]) else none
 |_=>none
theorem GU {K:W3}{ρ:List Addr}{H:Hp}:∀{ds:List D} {qs:List (D×D)} {xs:List V},JA ds=some qs->DsR K ρ H ds xs->
  ∃ps:List (Key×V),xs.length=ps.length/\(∀(j:Nat) k v,ps[j]? = some (k,v)->∃p,xs[j]? = some (.ref p)/\H p=some (.tup [kV k,v]))/\qs.map (λp=>Qy p.1)=ps.map (λp=>some p.1)/\DsR K ρ H (qs.map (·.2)) (ps.map (·.2))
 |[],qs,xs,e,h=>by
  cases e;unfold DsR at h;subst h;exact⟨[],rfl,λj k v z=>by simp at z,rfl,.nil⟩
 |d :: ds,qs,xs,e,h=>by
  unfold DsR at h;obtain⟨x,r,rfl,h1,h2⟩:=h
  unfold JA at e;split at e
  ·rename_i heq;cases heq
  ·rename_i k v r' heq
   cases heq;split at e
   ·rename_i hk
    obtain⟨qs',e1,e2⟩:=Wh.mp e
    subst e2;obtain⟨ps,p1,p2,p3,p4⟩:=GU e1 h2
    obtain⟨a,us,rfl,a1,a2⟩:=h1.of_tup
    unfold DsR at a2;obtain⟨x1,r1,rfl,b1,b2⟩:=a2
    unfold DsR at b2;obtain⟨x2,r2,rfl,b3,b4⟩:=b2
    unfold DsR at b4;subst b4;obtain⟨k',hk'⟩:=W1o.mp hk
    have ek:=Bb hk' b1
    subst ek;refine⟨(k',x2) :: ps,by simp [p1],λj k v z=>?_,by simp [p3,hk'],.cons b3 p4⟩
    cases j with
    |zero=>
     simp at z
     obtain⟨rfl,rfl⟩:=z
     exact⟨a,by simp,a1⟩
    |succ j=>exact p2 j k v (by simpa using z)
   ·cases e
  ·cases e
theorem BA {K:W3}{ρ:List Addr}{H:Hp}:∀{qs:List (D×D)} {ps:List (Key×V)} {kvs:List (D×D)} {ks:List Key} {xs:List V},qs.map (λp=>Qy p.1)=ps.map (λp=>some p.1)->DsR K ρ H (qs.map (·.2)) (ps.map (·.2))->
  kvs.map (λp=>Qy p.1)=ks.map some->ks.length=xs.length->DsR K ρ H (kvs.map (·.2)) xs->
  ∃(ks':List Key) (xs':List V),Qf (ks.zip xs) ps=ks'.zip xs'/\ks'.length=xs'.length/\(U5 kvs qs).map (λp=>Qy p.1)=ks'.map some/\DsR K ρ H ((U5 kvs qs).map (·.2)) xs'
 |[],ps,kvs,ks,xs,h1,h2,h3,h4,h5=>by
  cases ps with
  |nil=>exact⟨ks,xs,rfl,h4,h3,h5⟩
  |cons _ _=>cases h1
 |q :: qs,ps,kvs,ks,xs,h1,h2,h3,h4,h5=>by
  cases ps with
  |nil=>cases h1
  |cons p ps=>
   simp only [W0,W05] at h1
   obtain⟨g1,g2⟩:=h1
   simp only [W0] at h2
   unfold DsR at h2;obtain⟨x,r,ex,g3,g4⟩:=h2
   cases ex;obtain⟨ks',xs',z1,z2,z3,z4⟩:=BS Qy g1 (Dm g1) g3 h3 h4 h5
   obtain⟨ks2,xs2,w1,w2,w3,w4⟩:=BA (kvs:=JH kvs q.1 q.2) (ks:=ks') (xs:=xs') g2 g4 z3 z2 z4
   refine⟨ks2,xs2,?_,w2,w3,w4⟩
   rw [<-w1,<-z1];rfl
theorem L1 {p:Pos}{m:M D}(hcalm:X.calm=true)(h:SE X e m)(hg:Gl X "dict")(hm:X.mg "dict" = none)(hv:WG "dict" = some (.type "dict"))
  (he:Ws [e] X.env=(false,eval e X.env) :: Ws [] X.env:=by rfl):SE X (.Call (.Name "dict" p) [e] [] pos) (B6 m):=by
 refine ZH (Jz (UT hcalm) hg hm hv (ZS h YI he) (by decide) (by decide) he (by rfl)) ?_
 rintro σ H Q ⟨ρ,en,S,v,S',E,R,e,k⟩
 unfold B6 at e;obtain⟨q,e1,e⟩:=W1.mp e
 refine⟨ρ,en,S,q.1,q.2,E,R,e1,λx ρ1 H1 X1 R1 d1=>?_⟩
 obtain⟨d,S1⟩:=q
 dsimp only at e d1 R1 k;cases d with
 |tup ds=>
  dsimp only at e;split at e
  ·rename_i hz
   obtain⟨qs,e2,e3⟩:=Wh.mp e
   cases e3;obtain⟨a,xs,rfl,a1,a2⟩:=d1.of_tup
   obtain⟨ps,p1,p2,p3,p4⟩:=GU e2 a2
   refine⟨a,xs,ps,rfl,a1,p1,by rw [<-p1,<-a2.length];exact hz,p2,λl hl=>?_⟩
   obtain⟨ks,vs,z1,z2,z3,z4⟩:=BA (kvs:=[]) (ks:=[]) (xs:=[]) p3 p4 rfl rfl .nil
   have z1':Qf [] ps=ks.zip vs:=z1
   refine k _ (ρ1++[l]) _ (X1.trans (Ext.newRef hl)) (R1.push hl (.inl ⟨ks,vs,by rw [Z6,z1'],z2,z3,z4.up (Ext.newRef hl)⟩)) (.ref ?_)
   rw [<-R1.len];simp
  ·cases e
 |_=>cases e
end
end DL
namespace DL
open PySem L2 PySem.Spec PyProof.Rows
section
variable {X:Cx} {e a d:Expr} {pos:Pos}
end
end DL
namespace DL
open PySem L2 PySem.Spec PyProof.Rows
mutual
def IsD (h:Heap):D->Value->Prop
 | .int i,v=>∃t,v = .int i t
 | .str x,v=>∃t,v = .str x t
 | .tup ds,v=>∃a its,v = .ref a/\h.IsTuple a its/\IsDs h ds its.toList
 | .non,_=>False
 | .bl _,_=>False
 | .ref _,_=>False
 | .scr _,_=>False
def IsDs (h:Heap):List D->List Value->Prop
 |[],vs=>vs=[]
 |d :: ds,vs=>∃v r,vs=v :: r/\IsD h d v/\IsDs h ds r
end
end DL
namespace DL
open PySem L2 PySem.Spec PyProof.Rows
section
variable {prog:Program} {w:World}
end
end DL
namespace DL
open PySem L2 PySem.Spec PyProof.Rows
section
variable {prog:Program} {w:World}
end
end DL
namespace DL
open PySem L2 PySem.Spec PyProof.Rows
theorem GI {n:Nat}{ds:List D}(hc:Qi n ds):∀{l1 l2:List D},l1.Perm l2->l1.Pairwise leD->l2.Pairwise leD->(∀a∈l1,a∈ds)->l1=l2
 |[],l2,p,_,_,_=>(List.Perm.nil_eq p)
 |a :: l1,[],p,_,_,_=>absurd p.length_eq (by simp)
 |a :: l1,b :: l2,p,h1,h2,hm=>by
  rw [W00] at h1 h2;have hb:b∈a :: l1:=p.mem_iff.mpr WC
  have ha:a∈b :: l2:=p.mem_iff.mp WC
  have e:a=b:=by
   rcases Wx.mp hb with z|z
   ·exact z.symm
   ·rcases Wx.mp ha with y|y
    ·exact y
    ·have l1':=h1.1 b z
     have l2':=h2.1 a y
     rcases G7 n a b (hc.2 a (hm a WC) b (hm b hb)) (hc.1 a (hm a WC)) (hc.1 b (hm b hb)) with w|w|w
     ·exact w
     ·unfold leD at l2';rw [l2'] at w;cases w
     ·unfold leD at l1';rw [l1'] at w;cases w
  subst e;rw [GI hc (List.perm_cons a |>.mp p) h1.2 h2.2 λx hx=>hm x (WD _ hx)]
section
variable {X:Cx} {e:Expr} {pos:Pos}
end
end DL
namespace DL
open PySem L2 PySem.Spec PyProof.Rows
def Pw (H:Hp)(as:List Addr)(f:Nat->List V):Hp:=λb=>match as.findIdx? (λa=>a == b) with
 |some j=>some (.tup (f j))
 |none=>H b
theorem YS {H:Hp}{as:List Addr}{f:Nat->List V}{b:Addr}(h:b∉as):Pw H as f b=H b:=by
 unfold Pw;have:as.findIdx? (λa=>a == b)=none:=List.findIdx?_eq_none_iff.mpr λa ha=>by
  simp only [beq_eq_false_iff_ne]
  exact λz=>h (z ▸ ha)
 rw [this]
theorem Re {H:Hp}{as:List Addr}{f:Nat->List V}(hr:as.Pairwise (· < ·)){j:Nat}{a:Addr}(h:as[j]? = some a):Pw H as f a=some (.tup (f j)):=by
 unfold Pw;have:as.findIdx? (λx=>x == a)=some j:=by
  obtain⟨hj,e⟩:=Wi.mp h
  rw [List.findIdx?_eq_some_iff_getElem];refine⟨hj,by simp [e],λi hi=>?_⟩
  have:=W1i.mp hr i j (by omega) hj hi
  rw [e] at this;simp only [beq_iff_eq]
  exact WT this
 rw [this]
section
variable {X:Cx} {pins:List (Addr×Obj)} {σ:L2.St} {H:Hp} {s:Shared}
theorem LB (I:Inv X pins σ H s){h':Heap}{t':Nat}{as:List Addr}{f:Nat->List V}(k:∀b o,s.heap.get? b=some o->h'.get? b=some o)(hr:as.Pairwise (· < ·))(ha:∀a∈as,s.heap.objs.size<=a)
  (hn:∀(j:Nat) a,as[j]? = some a->∃its:List Value,Y2 (f j) its/\(f j).length<=Wc/\LV h' a its.toArray):Inv X pins σ (Pw H as f) { s with heap:=h',toks:=t' }:=by
 have low:∀b o,s.heap.get? b=some o->b∉as:=λb o e z=>absurd (Ww e) (Nat.not_lt.mpr (ha b z))
 have lowH:∀b o,H b=some o->b∉as:=λb o e z=>by
  have:=I.hok.fresh (ha b z)
  rw [this] at e;cases e
 refine I.un ⟨λb o e _ _ _=>k b o e,λb o e _ _ _=>⟨o.slots,k b o e⟩,λb o e n _=>by rw [YS (low b o e)];exact n,λb o e _=>⟨o,k b o e⟩,λb xs e=>by rw [YS (lowH b _ e)];exact e,λb o u e=>by rw [YS (lowH b _ e)];exact e,λb ps e=>⟨#[],by rw [YS (lowH b _ e),e];simp⟩⟩ λb u e=>?_
 by_cases hb:b∈as
 ·obtain⟨j,hj⟩:=List.mem_iff_getElem?.mp hb
  rw [Re hr hj] at e;cases e;obtain⟨its,q1,q2,q3⟩:=hn j b hj
  exact⟨q2,its,q1,q3⟩
 ·rw [YS hb] at e
  exact (I.hok b u e).stay (λc v _ q=>k c v q) (λc q=>by rw [YS (lowH c _ q)];exact q) λc xs q=>by rw [YS (lowH c _ q)];exact q
theorem Mq (I:Inv X pins σ H s){ρ:List Addr}{as:List Addr}{f:Nat->List V}(ha:∀a∈as,s.heap.objs.size<=a):Ext ρ H ρ (Pw H as f):=by
 have lowH:∀b o,H b=some o->b∉as:=λb o e z=>by
  have:=I.hok.fresh (ha b z)
  rw [this] at e;cases e
 exact⟨λ_ _ h=>h,λa xs h=>by rw [YS (lowH a _ h)];exact h,λa o u h=>by rw [YS (lowH a _ h)];exact h⟩
theorem PP (I:Inv X pins σ H s){ρ:List Addr}{S:Sto}(R:StR X.K ρ H S){as:List Addr}{f:Nat->List V}(ha:∀a∈as,s.heap.objs.size<=a):StR X.K ρ (Pw H as f) S:=by
 refine R.mono (Mq I ha).weak λn a h=>?_
 obtain⟨ob,_,ro⟩:=R.obj h
 obtain⟨o,e⟩:=ro.there
 refine YS λz=>?_
 have:=I.hok.fresh (ha a z)
 rw [this] at e;cases e
end
theorem OC {kvs:List (Key×V)}{vs:List (Key×Value)}(h:KV kvs vs):∀{j:Nat} {p:Key×V},kvs[j]? = some p->∃q,vs[j]? = some q/\p.1=q.1/\ZC p.2 q.2:=by
 unfold KV at h
 induction h with
 |nil=>intro j p e;cases e
 |cons r t ih=>
  intro j p e;cases j with
  |zero=>cases e;exact⟨_,rfl,r⟩
  |succ j=>exact ih e
theorem Bk {P:Program}{w:World}{k:Key}{v:Value}(h:(ZT P w).is k v=true):ZC (kV k) v:=by
 rcases ZU (k:=k) (v:=v) h with ⟨i,t,rfl,rfl⟩|⟨x,t,rfl,rfl⟩
 ·exact⟨t,rfl⟩
 ·exact⟨t,rfl⟩
theorem GQ:∀as:List Addr,Y2 (as.map V.ref) (as.map Value.ref)
 |[]=>.nil
 |a :: as=>.cons rfl (GQ as)
theorem AE {K:W3}{ρ:List Addr}{H:Hp}:∀{ds:List D} {xs:List V},ds.length=xs.length->(∀(j:Nat) d,ds[j]? = some d->∃x,xs[j]? = some x/\DR K ρ H d x)->DsR K ρ H ds xs
 |[],[],_,_=>.nil
 |d :: ds,x :: xs,hl,h=>by
  obtain⟨y,y1,y2⟩:=h 0 d rfl
  cases y1;exact .cons y2 (AE (Nat.succ.inj hl) λj e he=>h (j+1) e he)
def Pu (dk dv:List D):List D:=(dk.zip dv).map λp=>.tup [p.1,p.2]
def Ha (to:TE)(K:W3):TE:=λσ H Q=>to σ H λx H1=>∃(a:Addr) (kvs:List (Key×V)) (ρ:List Addr) (S:Sto) (dk dv:List D),x = .ref a/\H1 a=some (.dK kvs)/\dk.map Qy=kvs.map (λp=>some p.1)/\DsR K ρ H1 dv (kvs.map (·.2))/\StR K ρ H1 S/\Qw (Pu dk dv)=true/\
 ∀H2 l xs',Ext ρ H1 ρ H2->StR K ρ H2 S->H2 l=none->DsR K ρ H2 (Qq (Pu dk dv)) xs'->Q (.ref l) (upd H2 l (.lst xs'))
section
variable {X:Cx} {o:Expr} {pos:Pos}
theorem Ld {p ap cp:Pos}{to:TE}(hcalm:X.calm=true)(hu:X.A.units+70<cLine)(h:PE X o to)(hg:Gl X "sorted")(hm:X.mg "sorted" = none)(hv:WG "sorted" = some (.builtin "sorted"))
  (hbase:attributeBase o "items" X.env (eval o X.env)=eval o X.env:=by rfl) (hline:(ap.endLine == cp.line)=true:=by rfl)
  (he2:Ws [.Call (.Attribute o "items" ap) [] [] cp] X.env=(false,eval (.Call (.Attribute o "items" ap) [] [] cp) X.env) :: Ws [] X.env:=by rfl) :
  PE X (.Call (.Name "sorted" p) [.Call (.Attribute o "items" ap) [] [] cp] [] pos) (Ha to X.K):=by
 intro pins s σ H Q I hq;have hh:X.A.handled=none:=I.ok.hd hcalm
 refine Vx (UG I hg hm hv ?_ (by decide) (by decide))
 refine W0G ?_ he2 rfl
 rw [he2];show wpAny _ _ (spliced ((false,eval (.Call (.Attribute o "items" ap) [] [] cp) X.env) :: backTo pos (Ws [] X.env))) _ _ s
 refine W0o ?_
 refine wpAny_Call_method0_late hbase hline (thn (h pins s σ H _ I hq) λv s1 ⟨x,H1,I1,r1,q1⟩=>?_)
 obtain⟨a,kvs,ρ,S,dk,dv,rfl,hH,hk,hdv,R,ok,k⟩:=q1
 cases r1;obtain⟨hz,hsys,vs,hkv,hdo⟩:=(show Zz X.prog X.w H1 s1.heap a (.dK kvs) from I1.hok a _ hH)
 obtain⟨ep,hda⟩:=hdo.dictAt
 obtain⟨h1,h2⟩:=F0 I1 (show ZC (.ref a) (.ref a) from rfl) (T:="dict") (.inr (.inr (.inl ⟨rfl,.inl ⟨kvs,hH⟩⟩)))
 refine⟨"dict", "dict.items",PySem.F.plainAttrs_dict,PySem.F.slot_dict_items,PySem.F.type_dict_items,h1,h2,W0z rfl (PySem.evalArgs_none ?_)⟩
 refine call_meetsIn PySem.F.slot_dict_items h1 PySem.F.entry_dict_items (PySem.F.args_dict_items_1 _) (meets_dict_items (ZT X.prog X.w) a hsys) ⟨⟨vs,hdo⟩,?_⟩
 refine W1n ?_
 have I2:=I1.kept (h':=s1.heap.push { cls:=.type "dict_items",data:=.fields #[.ref a] }) (t':=s1.toks) λb u e=>Wj _ e
 refine VS kind_sorted plain_sorted entry_sorted (args_sorted1 _) ?_
 unfold Builtin.«sorted»
 refine W2 (m:=checkCount "sorted" 1 1 _) (Wk ?_)
 have hlen:kvs.length=vs.length:=hkv.length
 have hda2:(s1.heap.push { cls:=.type "dict_items",data:=.fields #[.ref a] }).DictAt (ZT X.prog X.w) a vs ep:=hda.push _
 refine W2 (PySem.W.kdx_collect (A:=X.A.in1) (s:={ s1 with heap:=s1.heap.push { cls:=.type "dict_items",data:=.fields #[.ref a] } }) (r:=s1.heap.objs.size) (by simpa using hh) ⟨_,Wt _ rfl,rfl,rfl⟩ hda2 (by omega) λh' tk as keep hal hG=>?_)
 have hal':as.length=kvs.length:=by rw [hal,hlen]
 have above:∀b∈as,(s1.heap.push { cls:=.type "dict_items",data:=.fields #[.ref a] }).objs.size<=b:=λb hb=>Nat.le_of_lt (hG.above b hb)
 let f:Nat->List V:=λj=>match kvs[j]? with
  |some p=>[kV p.1,p.2]
  |none=>[]
 have each:∀(j:Nat) b,as[j]? = some b->∃p:Key×V,kvs[j]? = some p/\f j=[kV p.1,p.2]/\∃its:List Value,Y2 (f j) its/\LV h' b its.toArray:=λj b hb=>by
  obtain⟨key,kk,x,e1,e2,e3⟩:=hG.pairs j b hb
  have hj:j<kvs.length:=by rw [<-hal'];exact (Wi.mp hb).1
  obtain⟨p,hp⟩:∃p,kvs[j]? = some p:=⟨_,Wm hj⟩
  have hf:f j=[kV p.1,p.2]:=by show (match kvs[j]? with|some p=>[kV p.1,p.2]|none=>[])=_;rw [hp]
  obtain⟨q,g1,g2⟩:=OC hkv hp
  rw [e1] at g1;cases g1;refine⟨p,hp,hf,[key,x],?_,⟨⟨_,e3,rfl,_,rfl⟩,_,e3,rfl⟩⟩
  rw [hf];refine .cons ?_ (.cons g2.2 .nil)
  have g3:p.1=kk:=g2.1
  rw [g3];exact Bk e2
 have I3:=LB I2 (h':=h') (t':=tk) (as:=as) (f:=f) keep hG.rise above λj b hb=>by
  obtain⟨p,hp,hf,its,v1,v2⟩:=each j b hb
  exact⟨its,v1,by rw [hf];exact (show 2<=Wc by decide),v2⟩
 have E2:Ext ρ H1 ρ (Pw H1 as f):=Mq I2 above
 have R2:StR X.K ρ (Pw H1 as f) S:=PP I2 R above
 have hds:DsR X.K ρ (Pw H1 as f) (Pu dk dv) (as.map V.ref):=by
  have l1:dk.length=kvs.length:=by have:=congrArg V4 hk;simpa using this
  have l2:dv.length=kvs.length:=by have:=hdv.length;simpa using this
  refine AE (by unfold Pu;rw [Wl,V0,Wl];omega) λj d hd=>?_
  unfold Pu at hd;rw [WB] at hd;obtain⟨q,q1,rfl⟩:=Wh.mp hd
  have hj:j<kvs.length:=by
   have:=(Wi.mp q1).1
   rw [V0] at this;omega
  obtain⟨b,hb⟩:∃b,as[j]? = some b:=⟨_,Wm (by omega)⟩
  obtain⟨p,hp,hf,_⟩:=each j b hb
  refine⟨.ref b,by rw [WB,hb];rfl,?_⟩
  have q2:=W0e.mp q1
  have kd:Qy q.1=some p.1:=by
   have:=congrArg (λl=>l[j]?) hk
   simp only [WB,q2.1,hp,W5] at this
   exact WS this
  obtain⟨y,y1,y2⟩:=hdv.get q2.2
  rw [WB,hp] at y1;cases y1;have at':=Re (H:=H1) (f:=f) hG.rise hb
  rw [hf] at at'
  exact .tup at' (.cons (UJ kd) (.cons (y2.up E2) .nil))
 refine Jx I3 hu hds (GQ as) (by rw [Wl,hal'];exact hz) ok λl xs' hl d'=>k _ l xs' E2 R2 hl d'
end
end DL
namespace DL
open PySem L2 PySem.Spec PyProof.Rows
section
variable {X:Cx} {e a d o:Expr} {pos:Pos}
def Ic (kvs:List (D×D)):Bool:=!kvs.isEmpty&&(kvs.all λq=>(Qy q.1).isSome)&&Qw (Pu (kvs.map (·.1)) (kvs.map (·.2)))
def Th (ma:M D):M (List D):=λen S=>(ma en S).bind λp=>match p.1 with
 | .ref n=>match p.2[n]? with
  |some (.dct kvs)=>if Ic kvs=true then some (Qq (Pu (kvs.map (·.1)) (kvs.map (·.2))),p.2) else none
  |_=>none
 |_=>none
theorem Kk:∀{ks:List Key} {xs:List V},ks.length=xs.length->(ks.zip xs).map (λp=>some p.1)=ks.map some
 |[],[],_=>rfl
 |k :: ks,x :: xs,h=>by
  rw [Wz,W0,W0,Kk (Nat.succ.inj h)]
theorem Ki:∀{ks:List Key} {xs:List V},ks.length=xs.length->(ks.zip xs).map (·.2)=xs
 |[],[],_=>rfl
 |k :: ks,x :: xs,h=>by
  rw [Wz,W0,Ki (Nat.succ.inj h)]
theorem PU {p ap cp:Pos}{ma:M D}(hcalm:X.calm=true)(hu:X.A.units+70<cLine)(h:SE X o ma)(hg:Gl X "sorted")(hm:X.mg "sorted" = none)(hv:WG "sorted" = some (.builtin "sorted"))
  (hbase:attributeBase o "items" X.env (eval o X.env)=eval o X.env:=by rfl) (hline:(ap.endLine == cp.line)=true:=by rfl)
  (he2:Ws [.Call (.Attribute o "items" ap) [] [] cp] X.env=(false,eval (.Call (.Attribute o "items" ap) [] [] cp) X.env) :: Ws [] X.env:=by rfl) :
  SL X (.Call (.Name "sorted" p) [.Call (.Attribute o "items" ap) [] [] cp] [] pos) (Th ma):=by
 refine ZH (Ld hcalm hu h hg hm hv hbase hline he2) ?_
 rintro σ H Q ⟨ρ,en,S,ds,S',E,R,e,k⟩
 unfold Th at e;obtain⟨⟨d1,S1⟩,e1,e⟩:=W1.mp e
 cases d1 with
 |ref n=>
  dsimp only at e;split at e
  ·rename_i kvs hn
   split at e
   ·rename_i ok
    cases e;unfold Ic at ok;rw [Wr,Wr] at ok;refine⟨ρ,en,S,.ref n,_,E,R,e1,λx ρ1 H1 X1 R1 d1=>?_⟩
    obtain⟨a,a1,rfl⟩:=d1.of_ref
    obtain⟨ob,eo,ro⟩:=R1.obj a1
    rw [hn] at eo;cases eo;rcases ro with ⟨ks,xs,x1,x2,x3,x4⟩|⟨ks,xs,x1,x2,x3,x4⟩
    ·refine⟨a,ks.zip xs,ρ1,_,kvs.map (·.1),kvs.map (·.2),rfl,x1,?_,by rw [Ki x2];exact x4,R1,ok.2,λH2 l xs' X2 R2 hl d'=>k l xs' ρ1 H2 (X1.trans X2) R2 hl d'⟩
     rw [Kk x2,<-x3,Vp];rfl
    ·exfalso
     cases kvs with
     |nil=>cases ok.1.1
     |cons q kvs=>
      have o2:=ok.1.2
      rw [V8,Wr] at o2;cases ks with
      |nil=>cases x3
      |cons k0 ks=>
       rw [W0,W0,W05] at x3;obtain⟨q1,q2⟩:=q
       cases q1 with
       |tup l=>cases o2.1
       |_=>cases x3.1
   ·cases e
  ·cases e
 |_=>cases e
end
end DL
namespace DL
open PySem L2 PySem.Spec PyProof.Rows
section
variable {X:Cx} {e a b:Expr} {pos:Pos}
end
end DL
namespace DL
open PySem L2 PySem.Spec PyProof.Rows
structure ClsD (K:W3) (cn:Str) (Ca:Addr):Prop where
 ns:WJ K WA cn=some (some (.ref Ca))
 cls:Cls K Ca
def J2 (S:Sto)(n:Nat)(cn:Str):Option (List (Str×D)):=match S[n]? with
 |some (.ins C fs)=>if C=cn then some fs else none
 |_=>none
theorem Ml {S:Sto}{n:Nat}{cn:Str}{fs:List (Str×D)}(h:J2 S n cn=some fs):S[n]? = some (.ins cn fs):=by
 unfold J2 at h;split at h
 ·rename_i C fs' e
  split at h
  ·rename_i q
   cases h;rw [e,q]
  ·cases h
 ·cases h
theorem Bp {K:W3}{ρ:List Addr}{H:Hp}{S:Sto}{n:Nat}{a Ca:Addr}{cn:Str}{fs:List (Str×D)}(R:StR K ρ H S)(h:ρ[n]? = some a)(e:J2 S n cn=some fs)(c:ClsD K cn Ca) :
  ∃dx xs,H a=some (.ins Ca dx ((fs.map (·.1)).zip xs))/\DsR K ρ H (fs.map (·.2)) xs:=by
 obtain⟨ob,e1,r⟩:=R.obj h
 rw [Ml e] at e1;cases e1;obtain⟨Ca',dx,xs,h1,h2,h3⟩:=r
 rw [c.ns] at h1;cases h1;exact⟨dx,xs,h2,h3⟩
theorem JM {K:W3}{ρ:List Addr}{H:Hp}{f:Str}{d:D}:∀{fs:List (Str×D)} {xs:List V},DsR K ρ H (fs.map (·.2)) xs->fs.lookup f=some d->∃x,((fs.map (·.1)).zip xs).lookup f=some x/\DR K ρ H d x
 |[],xs,_,h=>by cases h
 | (g,e) :: fs,xs,h,hl=>by
  rw [W0] at h;unfold DsR at h;obtain⟨x,r,rfl,h1,h2⟩:=h
  rw [W0,Wz];rw [V9] at hl ⊢
  cases q:f == g with
  |true=>
   rw [q] at hl;cases hl;exact⟨x,rfl,h1⟩
  |false=>
   rw [q] at hl;exact JM h2 hl
def L9 (f:Str)(v:D):List (Str×D)->List (Str×D)
 |[]=>[(f,v)]
 | (g,x) :: r=>if g=f then (g,v) :: r else (g,x) :: L9 f v r
theorem Kj {K:W3}{ρ:List Addr}{H:Hp}{f:Str}{d:D}{y:V}(hd:DR K ρ H d y):∀{fs:List (Str×D)} {xs:List V},DsR K ρ H (fs.map (·.2)) xs->∃ys,T7 f y ((fs.map (·.1)).zip xs)=((L9 f d fs).map (·.1)).zip ys/\DsR K ρ H ((L9 f d fs).map (·.2)) ys
 |[],xs,h=>⟨[y],rfl,.cons hd .nil⟩
 | (g,e) :: fs,xs,h=>by
  rw [W0] at h;unfold DsR at h;obtain⟨x,r,rfl,h1,h2⟩:=h
  rw [W0,Wz];unfold T7 L9;by_cases q:g=f
  ·rw [if_pos q,if_pos q]
   exact⟨y :: r,rfl,.cons hd h2⟩
  ·rw [if_neg q,if_neg q]
   obtain⟨ys,y1,y2⟩:=Kj hd h2
   exact⟨x :: ys,by rw [y1];rfl,.cons h1 y2⟩
section
variable {X:Cx} {e o value:Expr} {pos pos' tpos:Pos} {cn f:Str} {Ca:Addr}
def Nc (cn f:Str)(m:M D):M D:=λen S=>(m en S).bind λp=>match p.1 with
 | .ref n=>(J2 p.2 n cn).bind λfs=>(fs.lookup f).map λv=>(v,p.2)
 |_=>none
theorem Jn {m:M D}(c:ClsD X.K cn Ca)(na:Qo X.K Ca f)(h:SE X e m)(hb:attributeBase e f X.env (eval e X.env)=eval e X.env:=by rfl):SE X (.Attribute e f pos) (Nc cn f m):=by
 refine ZH (HH h hb) ?_
 rintro σ H Q ⟨ρ,en,S,v,S',E,R,e,k⟩
 unfold Nc at e;obtain⟨⟨d1,S1⟩,e1,e⟩:=W1.mp e
 cases d1 with
 |ref n=>
  dsimp only at e;obtain⟨fs,e2,e⟩:=W1.mp e
  obtain⟨w,e3,e4⟩:=Wh.mp e
  cases e4;refine⟨ρ,en,S,.ref n,_,E,R,e1,λx ρ1 H1 X1 R1 d1=>?_⟩
  obtain⟨a,a1,rfl⟩:=d1.of_ref
  obtain⟨dx,xs,h1,h2⟩:=Bp R1 a1 e2 c
  obtain⟨y,y1,y2⟩:=JM h2 e3
  exact⟨a,Ca,dx,_,y,rfl,h1,c.cls,na,y1,k y ρ1 H1 X1 R1 y2⟩
 |_=>cases e
theorem RV {K:W3}{ρ:List Addr}{H:Hp}{S:Sto}{n:Nat}{a dx:Addr}{fs:List (Str×D)}{xs:List V}{d:D}{y:V}(R:StR K ρ H S)(c:ClsD K cn Ca)(ha:ρ[n]? = some a)(e:J2 S n cn=some fs)(h1:H a=some (.ins Ca dx ((fs.map (·.1)).zip xs)))(h2:DsR K ρ H (fs.map (·.2)) xs)(hd:DR K ρ H d y) :
  StR K ρ (upd H a (.ins Ca dx (T7 f y ((fs.map (·.1)).zip xs)))) (S.set n (.ins cn (L9 f d fs)))/\Ext ρ H ρ (upd H a (.ins Ca dx (T7 f y ((fs.map (·.1)).zip xs)))):=by
 obtain⟨ys,y1,y2⟩:=Kj (f:=f) hd h2
 rw [y1];have hE:Ext ρ H ρ (upd H a (.ins Ca dx (((L9 f d fs).map (·.1)).zip ys))):=Ext.upd h1 (λ_ z=>nomatch z) λ_ _ z=>nomatch z
 exact R.set (ob:=.ins cn (L9 f d fs)) ha (λ_ z=>by rw [Ml e] at z;cases z) ⟨Ca,dx,ys,c.ns,Z6,y2.up hE⟩
def JP (cn f:Str)(mv mo:M D):MS:=λen S=>(mv en S).bind λp=>(mo en p.2).bind λq=>match q.1 with
 | .ref n=>(J2 q.2 n cn).bind λfs=>if fs.length<1000 then some (.nx,en,q.2.set n (.ins cn (L9 f p.1 fs))) else none
 |_=>none
theorem NL {mv mo:M D}(c:ClsD X.K cn Ca)(na:Qo X.K Ca f)(ho:SE X o mo)(hv:SE X value mv)(hs:swapsWith value (some (.Attribute o f pos')) pos.line X.env=pure false:=by rfl):SS X (.Assign [.Attribute o f pos'] value pos) (JP cn f mv mo):=by
 refine Jo (Hw ho hv hs) ?_
 rintro DD σ H ⟨ρ,en,S,fl,en',S',E,R,e,k⟩
 unfold JP at e;obtain⟨⟨d1,S1⟩,e1,e⟩:=W1.mp e
 obtain⟨⟨d2,S2⟩,e2,e⟩:=W1.mp e
 cases d2 with
 |ref n=>
  dsimp only at e;obtain⟨fs,e3,e⟩:=W1.mp e
  split at e
  ·rename_i hl
   cases e;refine⟨ρ,en,S,d1,S1,E,R,e1,λy ρ1 H1 X1 R1 dy=>⟨ρ1,en,S1,.ref n,S2,E.up X1,R1,e2,λx ρ2 H2 X2 R2 dx'=>?_⟩⟩
   obtain⟨a,a1,rfl⟩:=dx'.of_ref
   obtain⟨dx,xs,h1,h2⟩:=Bp R2 a1 e3 c
   obtain⟨R3,X3⟩:=RV (f:=f) R2 c a1 e3 h1 h2 (dy.up X2)
   refine⟨a,Ca,dx,_,rfl,h1,c.cls,na,?_,k ρ2 _ σ ((X1.trans X2).trans X3) R3 (E.up ((X1.trans X2).trans X3))⟩
   rw [V0,Wl];omega
  ·cases e
 |_=>cases e
end
end DL
namespace DL
open PySem L2 PySem.Spec PyProof.Rows
theorem NC {f:Str}:∀{fs:List (Str×D)} {xs:List V},fs.lookup f=none->((fs.map (·.1)).zip xs).lookup f=none
 |[],xs,_=>by simp
 | (g,e) :: fs,[],_=>by simp
 | (g,e) :: fs,x :: xs,h=>by
  rw [W0,Wz];rw [V9] at h ⊢
  cases q:f == g with
  |true=>rw [q] at h;cases h
  |false=>
   rw [q] at h;exact NC h
section
variable {X:Cx} {a o:Expr} {es:List Expr} {pos apos:Pos} {cn m:Str} {Ca:Addr}
def Yw (cn m:Str)(F:List D->Sto->Option (D×Sto))(mo:M D)(ma:M (List D)):M D:=λen S=>(mo en S).bind λp=>match p.1 with
 | .ref n=>(J2 p.2 n cn).bind λfs=>if (fs.lookup m).isNone=true then (ma en p.2).bind λr=>F (.ref n :: r.1) r.2 else none
 |_=>none
theorem GY {mo:M D}{ma:M (List D)}{n:Nat}{F:List D->Sto->Option (D×Sto)}(c:ClsD X.K cn Ca)(hlen:∀en S r,ma en S=some r->r.1.length=n){σ:L2.St}{H:Hp}{Q:VK}(h:tM X.K (Yw cn m F mo ma) σ H Q):AV Ca m (spD X.K (n+1) F) [] E0 (tM X.K mo) (tMA X.K ma) σ H Q:=by
 obtain⟨ρ,en,S,v,S',E,R,e,k⟩:=h
 unfold Yw at e;obtain⟨⟨d1,S1⟩,e1,e⟩:=W1.mp e
 cases d1 with
 |ref j=>
  dsimp only at e;obtain⟨fs,e2,e⟩:=W1.mp e
  split at e
  ·rename_i hl
   obtain⟨r,e3,e4⟩:=W1.mp e
   refine⟨ρ,en,S,.ref j,S1,E,R,e1,λx ρ1 H1 X1 R1 d1=>?_⟩
   obtain⟨l,a1,rfl⟩:=d1.of_ref
   obtain⟨dx,xs,h1,h2⟩:=Bp R1 a1 e2 c
   refine⟨l,dx,_,rfl,h1,NC (by cases q:fs.lookup m with|none=>rfl|some _=>rw [q] at hl;cases hl),ρ1,en,S1,r.1,r.2,E.up X1,R1,e3,λvs ρ2 H2 X2 R2 d2=>?_⟩
   show spD X.K (n+1) F (.ref l :: (vs++[])) H2 Q E0
   rw [Vu];exact⟨by rw [WR,<-d2.length,hlen _ _ _ e3],ρ2,r.2,.ref j :: r.1,v,S',R2,.cons (d1.up X2) d2,e4,λz ρ3 H3 X3 R3 d3=>k z ρ3 H3 ((X1.trans X2).trans X3) R3 d3⟩
  ·cases e
 |_=>cases e
def MV (cn:Str)(F:List D->Sto->Option (D×Sto))(ma:M (List D)):M D:=λen S=>(ma en S).bind λr=>(F (.ref r.2.length :: r.1) (r.2++[.ins cn []])).bind λq=>match q.1 with
 | .non=>some (.ref r.2.length,q.2)
 |_=>none
theorem Rf {ma:M (List D)}{n:Nat}{F:List D->Sto->Option (D×Sto)}(c:ClsD X.K cn Ca)(hlen:∀en S r,ma en S=some r->r.1.length=n){σ:L2.St}{H:Hp}{Q:VK}(h:tM X.K (MV cn F ma) σ H Q):Hc Ca (spD X.K (n+1) F) [] E0 (tMA X.K ma) σ H Q:=by
 obtain⟨ρ,en,S,v,S',E,R,e,k⟩:=h
 unfold MV at e;obtain⟨r,e1,e⟩:=W1.mp e
 obtain⟨⟨d2,S2⟩,e2,e⟩:=W1.mp e
 cases d2 with
 |non=>
  cases e;refine⟨ρ,en,S,r.1,r.2,E,R,e1,λvs ρ1 H1 X1 R1 d1 x dx hx hdx hne=>?_⟩
  have hx':upd H1 dx (.own x) x=none:=by rw [Ze (Ne.symm hne)];exact hx
  have R2:=(R1.new (o:=.own x) hdx).push (o:=.ins Ca dx []) (ob:=.ins cn []) hx' ⟨Ca,dx,[],c.ns,Z6,.nil⟩
  have X2:Ext ρ1 H1 (ρ1++[x]) (upd (upd H1 dx (.own x)) x (.ins Ca dx [])):=(Ext.new hdx).trans (Ext.newRef hx')
  have hat:(ρ1++[x])[r.2.length]? = some x:=by rw [<-R1.len];simp
  rw [Vu];exact⟨by rw [WR,<-d1.length,hlen _ _ _ e1],ρ1++[x],r.2++[.ins cn []],.ref r.2.length :: r.1,.non,S2,R2,.cons (.ref hat) (d1.up X2),e2,λz ρ3 H3 X3 R3 d3=>⟨d3.of_non,k _ ρ3 H3 ((X1.trans X2).trans X3) R3 (.ref (X3.pre _ _ hat))⟩⟩
 |_=>cases e
variable {k n:Nat} {f:Addr} {fd:FuncData} {ps:List Str} {F:List D->Sto->Option (D×Sto)} {mo:M D} {ma:M (List D)}
theorem Yy {pl:Sem Bool}(c:ClsD X.K cn Ca)(ho:SE X o mo)(hm:Meth X.K Ca m f)(hF:FnOk X.prog X.w X.K X.mg X.base CX0 k f fd ps (spD X.K (n+1) F))(hr:Room k X.A)(hb:Jm X.K fd ps [])(ha:SA X (a :: es) ma)(hlen:∀en S r,ma en S=some r->r.1.length=n)
  (hst:Ws (a :: es) X.env=(false,eval a X.env) :: Ws es X.env:=by rfl) (hpl:(backTo pos (Ws es X.env)).any (·.1)=false:=by rfl)
  (ht:eval (.Call (.Attribute o m apos) (a :: es) [] pos) X.env=(do
   let ov <-eval o X.env
   standAt apos.atName
   let (f,first) <-holding [ov] (getMethod ov m pl)
   callWith pos f first (backTo pos (Ws (a :: es) X.env)) (backToKw pos (keywordEach [] X.env))):=by rfl):SE X (.Call (.Attribute o m apos) (a :: es) [] pos) (Yw cn m F mo ma):=
 ZH (Et ho c.cls hm hF hr hb .nil Lj ha hst hpl ht) λ_ _ _=>GY c hlen
theorem Ea {x:Str}{p:Pos}(c:ClsD X.K cn Ca)(M:L2.Mk X.K Ca f)(hF:FnOk X.prog X.w X.K X.mg X.base CX0 k f fd ps (spD X.K (n+1) F))(hr:Room (k+1) X.A)(hg:Gl X x)(hm:X.mg x=some (.ref Ca))(hb:Jm X.K fd ps [])(ha:SA X (a :: es) ma)(hlen:∀en S r,ma en S=some r->r.1.length=n)
  (hdb:(x == ("__debug__" : Str))=false:=by decide) (he:Ws (a :: es) X.env=(false,eval a X.env) :: Ws es X.env:=by rfl) (hpl:(backTo pos (Ws es X.env)).any (·.1)=false:=by rfl):SE X (.Call (.Name x p) (a :: es) [] pos) (MV cn F ma):=
 ZH (Eu M hF hr hg hm hb .nil Lj ha hdb he hpl) λ_ _ _=>Rf c hlen
theorem Yx {pl:Sem Bool}(c:ClsD X.K cn Ca)(ho:SE X o mo)(hm:Meth X.K Ca m f)(hF:FnOk X.prog X.w X.K X.mg X.base CX0 k f fd ps (spD X.K 1 F))(hr:Room k X.A)(hb:Jm X.K fd ps [])
  (ht:eval (.Call (.Attribute o m apos) [] [] pos) X.env=(do
   let ov <-eval o X.env
   standAt apos.atName
   let (f,first) <-holding [ov] (getMethod ov m pl)
   callWith pos f first (backTo pos (Ws [] X.env)) (backToKw pos (keywordEach [] X.env))):=by rfl):SE X (.Call (.Attribute o m apos) [] [] pos) (Yw cn m F mo Zo):=by
 refine ZH (Lf ho c.cls hm hF hr hb .nil Lj ht) λσ H Q h=>?_
 obtain⟨ρ,en,S,v,S',E,R,e,q⟩:=GY (n:=0) c (λen S r e=>by cases e;rfl) h
 refine⟨ρ,en,S,v,S',E,R,e,λx ρ1 H1 X1 R1 d1=>?_⟩
 obtain⟨l,dx,fs,h1,h2,h3,ρ2,en2,S2,ds,S3,E2,R2,e3,q2⟩:=q x ρ1 H1 X1 R1 d1
 cases e3;exact⟨l,dx,fs,h1,h2,h3,q2 [] ρ2 H1 Ext.refl R2 .nil⟩
end
end DL
namespace DL
open PySem L2 PySem.Spec PyProof.Rows
section
variable {X:Cx} {o value:Expr} {pos tpos:Pos} {cn f:Str} {Ca:Addr}
def Rk:MS:=λ_ _=>none
theorem TH {st:Stmt}:SS X st Rk:=by
 intro pins s σ H D I h;obtain⟨ρ,en,S,fl,en',S',E,R,e,k⟩:=h
 cases e
def UA (cn f:Str)(mv mo:M D):MS:=λen S=>(mo en S).bind λp=>match p.1 with
 | .ref n=>(J2 p.2 n cn).bind λfs=>match fs.lookup f with
  |some (.int i)=>(mv en p.2).bind λq=>match q.1 with
   | .int j=>(J2 q.2 n cn).bind λgs=>if gs.length<1000 then some (.nx,en,q.2.set n (.ins cn (L9 f (.int (i+j)) gs))) else none
   |_=>none
  |_=>none
 |_=>none
theorem Kx {mv mo:M D}(c:ClsD X.K cn Ca)(na:Qo X.K Ca f)(ho:SE X o mo)(hv:SE X value mv):SS X (.AugAssign (.Attribute o f tpos) .Add value pos) (UA cn f mv mo):=by
 refine Jo (KQ ho hv Ig) ?_
 rintro DD σ H ⟨ρ,en,S,fl,en',S',E,R,e,k⟩
 unfold UA at e;obtain⟨⟨d1,S1⟩,e1,e⟩:=W1.mp e
 cases d1 with
 |ref n=>
  dsimp only at e;obtain⟨fs,e2,e⟩:=W1.mp e
  split at e
  ·rename_i i hi
   obtain⟨⟨d2,S2⟩,e3,e⟩:=W1.mp e
   cases d2 with
   |int j=>
    dsimp only at e;obtain⟨gs,e4,e⟩:=W1.mp e
    split at e
    ·rename_i hl
     cases e;refine⟨ρ,en,S,.ref n,S1,E,R,e1,λx ρ1 H1 X1 R1 d1=>?_⟩
     obtain⟨a,a1,rfl⟩:=d1.of_ref
     obtain⟨dx,xs,h1,h2⟩:=Bp R1 a1 e2 c
     obtain⟨y,y1,y2⟩:=JM h2 hi
     refine⟨a,Ca,dx,_,y,rfl,h1,c.cls,na,y1,ρ1,en,S1,.int j,S2,E.up X1,R1,e3,λz ρ2 H2 X2 R2 d2=>?_⟩
     have a2:=X2.pre n a a1
     obtain⟨dx2,zs,g1,g2⟩:=Bp R2 a2 e4 c
     rw [y2.of_int,d2.of_int];obtain⟨R3,X3⟩:=RV (f:=f) R2 c a2 e4 g1 g2 (DR.flat_int (i:=i+j))
     refine⟨i,j,rfl,rfl,dx2,_,g1,?_,k ρ2 _ σ ((X1.trans X2).trans X3) R3 (E.up ((X1.trans X2).trans X3))⟩
     rw [V0,Wl];omega
    ·cases e
   |_=>cases e
  ·cases e
 |_=>cases e
end
end DL
namespace DL
open PySem L2 PySem.Spec PyProof.Rows
section
variable {X:Cx} {a b:Expr} {pos:Pos}
end
end DL
namespace DL
open PySem L2 PySem.Spec PyProof.Rows
section
variable {X:Cx} {e:Expr} {pos:Pos}
end
end DL
namespace DL
open PySem PySem.Spec PyProof.Rows L2
section
open PySem.SeqAt
open PySem.AutoSeq1 (wpAny_loadPart')
open PySem.MeetsSeq PySem.MeetsSeq2 PySem.MeetsSeq3
end
section
variable {X:Cx} {pins:List (Addr×Obj)} {σ:L2.St} {H:Hp} {s:Shared} {ρ:List Addr} (I:Inv X pins σ H s)
include I in
include I in
end
end DL
namespace L2
open PySem PySem.Spec PyProof.Rows
section
variable {prog:Program} {w:World} {A:Around}
end
section
variable {prog:Program} {w:World} {A:Around} {E:Value->Shared->Prop} {s:Shared}
end
end L2
namespace DL
open PySem L2 PySem.Spec PyProof.Rows
section
variable {X:Cx} {e a b:Expr} {es:List Expr} {pos:Pos}
end
end DL
namespace DL
open PySem L2
theorem Gy (S:Sto)(v:D):Ui S (v,S)=(v,S):=by unfold Ui;split<;>rfl
theorem Jw (S G:Sto)(v:D)(h:Jp S.length v=true):Ui S (v,S++G)=(v,S):=by
 unfold Ui;rw [if_pos ⟨by simp,h⟩]
theorem D7 {α:Type}{xs:List α}{i:Int}(h0:0<=i)(h1:i<xs.length):∃a,a∈xs/\xs[i.toNat]? = some a/\atI xs i=some a:=by
 obtain⟨n,rfl⟩:=Int.eq_ofNat_of_zero_le h0
 have hn:n<xs.length:=by omega
 refine⟨xs[n],VA hn,by simp [hn],Gs (by simp [hn])⟩
def cs (x:Str):List Nat:=x.cps.toList
theorem J1 (x:Str):x.length=(cs x).length:=by simp [Str.length,cs]
theorem Go (ys:List Str):cs (W0U (Wp "") ys)=ys.flatMap cs:=by
 have e:(Wp "").cps = #[]:=by decide +kernel
 have key:∀(l:List Str) (acc:Array Nat),(l.foldl (λacc p=>acc++(Wp "").cps++p.cps) acc).toList=acc.toList++l.flatMap cs:=by
  intro l
  induction l with
  |nil=>intro acc;simp
  |cons p l ih=>intro acc;rw [List.foldl_cons,ih,e];simp [cs]
 unfold W0U Builtin.Str.glued;cases ys with
 |nil=>rfl
 |cons y ys=>exact key ys y.cps
end DL
namespace DL
open PySem PySem.Spec PyProof.Rows L2
section
variable {X:Cx} {e a b c:Expr} {es:List Expr} {pos:Pos}
theorem sv (i:Nat){x:Str}{pos:Pos}(hN:X.N[i]? = some x:=by rfl)(hv:Vis X.env.scope x:=by first|exact Or.inl rfl|exact Or.inr (Or.inl rfl)|exact Or.inr (Or.inr rfl))(hd:(x == ("__debug__" : Str))=false:=by decide)
  (hcd:(x == ("__classdict__" : Str))=false:=by decide):SE X (.Name x pos) (Z4 i):=Hi i (HC hN hv hd hcd)
theorem YO {scope:Scope}(names0:List (Str×NameKind))(h0:X.env.scope.names=names0)(h:∀y∈scope.names,y.2 = .free->names0.lookup y.1=some .cell\/names0.lookup y.1=some .free) :
  ∀y∈scope.names,y.2 = .free->X.env.scope.names.lookup y.1=some .cell\/X.env.scope.names.lookup y.1=some .free:=by rw [h0];exact h
theorem Mh {K:W3}{C:String}(h1:Vt K (.type "NoneType") (.type C)=some (Tn "NoneType" C))(h2:Vt K (.type "bool") (.type C)=some (Tn "bool" C))(h3:Vt K (.type "int") (.type C)=some (Tn "int" C))
  (h4:Vt K (.type "str") (.type C)=some (Tn "str" C)) (h5:Vt K (.type "tuple") (.type C)=some (Tn "tuple" C)) (h6:Vt K (.type "list") (.type C)=some (Tn "list" C)) (h7:Vt K (.type "dict") (.type C)=some (Tn "dict" C)):Isi K C:=by
 intro T hT;simp only [Wx,WM,or_false] at hT
 rcases hT with rfl|rfl|rfl|rfl|rfl|rfl|rfl
 ·exact h1
 ·exact h2
 ·exact h3
 ·exact h4
 ·exact h5
 ·exact h6
 ·exact h7
theorem QF (K:W3):Isi K "str":=Mh (by kernel_rfl) (by kernel_rfl) (by kernel_rfl) (by kernel_rfl) (by kernel_rfl) (by kernel_rfl) (by kernel_rfl)
theorem C7 (K:W3):Isi K "int":=Mh (by kernel_rfl) (by kernel_rfl) (by kernel_rfl) (by kernel_rfl) (by kernel_rfl) (by kernel_rfl) (by kernel_rfl)
theorem Ul (K:W3):Isi K "bool":=Mh (by kernel_rfl) (by kernel_rfl) (by kernel_rfl) (by kernel_rfl) (by kernel_rfl) (by kernel_rfl) (by kernel_rfl)
theorem Bn (K:W3):Isi K "tuple":=Mh (by kernel_rfl) (by kernel_rfl) (by kernel_rfl) (by kernel_rfl) (by kernel_rfl) (by kernel_rfl) (by kernel_rfl)
theorem NO {p:Pos}{sep:M D}{m:M (List D)}(hs:SE X a sep)(h:SQ X e m)(he:Ws [e] X.env=(false,eval e X.env) :: Ws [] X.env:=by rfl)
  (hbase:attributeBase a ("join" : Str) X.env (eval a X.env)=eval a X.env:=by rfl)
  (hfew:((backTo pos (Ws [e] X.env)).all (λx=>!x.1)&&(backToKw pos (keywordEach [] X.env)).all (λx=>x.1.isSome)
   && decide ([e].length+([]:List Keyword).length+(if ([]:List Keyword).isEmpty then 0 else 1)<30))=true:=by rfl)
  (hline:(p.endLine == pos.line)=true:=by rfl) (hplain:(backTo pos (Ws [] X.env)).any (·.1)=false:=by rfl) :
  SE X (.Call (.Attribute a "join" p) [e] [] pos) (Na sep m):=
 Eb hs h (ZS h YI he) (O2 PySem.F.plainAttrs_str PySem.F.slot_str_join PySem.F.type_str_join EH hs (ZS h YI he) hbase hfew hline he hplain)
end
structure Own (K:W3) (mg:Str->Option Value) (x:Str) (st:Stmt) (f:Addr) (fd:FuncData) (ps:List Str):Prop where
 fn:Fun K x x st f fd
 mgf:mg x=some (.ref f)
 b:Jm K fd ps []
theorem Cf {P:Program}{w:World}{K:W3}{mg:Str->Option Value}{base:Heap}{k n:Nat}{f:Addr}{fd:FuncData}{ps:List Str}(hn:ps.length=n):FnOk P w K mg base CX0 k f fd ps (spD K n λ_ _=>none):=
 ⟨λvs H Q E h=>by rw [h.1,hn],λA outer s H args us vs Q E _ _ _ _ h=>by
  obtain⟨_,ρ,S,ds,v,S',_,_,e,_⟩:=h
  cases e⟩
theorem walk_d {l:PySem.W.OpenLaw}{k:Nat}{q:Program}{loose:List Str}{XP:(Str->Option Value)->Heap->Prop}{YP:World->Heap->Prop}{d:DefRec}{K:Params->W3}{x:Str}{F:List D->Sto->Option (D×Sto)}
  (hn:l.most=some 63) (hdf:d.params.defaults=[]) (hr:Room k callerA)
  (hY:∀(w:World) (h:Heap),YP w h->(K w.params).In h)
  (hF:∀(w:World) (mg:Str->Option Value) (fa:Addr) (h:Heap),(K w.params).In h->h.Ns WA mg->mg d.name=some (.ref fa)->
   ∃fd:FuncData,(∀(s:Shared) (u:Value),BindsTo s fd ⟨[u],[]⟩ [(x,u)])/\
    ∀base:Heap,(K w.params).In base->base.Ns WA mg->FnOk l.prog w (K w.params) mg base CX0 k fa fd [x] (spD (K w.params) 1 F))
  (hl:∀ns:List Int,ns.length<=63->∃S',F [.scr ns] []=some (.bl true,S')) :
  PySem.W.WalkO q loose XP YP l.row.toRowW d [] (λf vs=>PySem.call f vs):=by
 refine L2.walk_of (n:=63) (k:=k) (x:=x) (CX:=λ_=>CX0) (sp:=λw=>spD (K w.params) 1 F) hn (by decide) hdf hr hY hF (λw H a ns hlen hO hS=>?_) λ_ _ _ _ _ z=>z
 obtain⟨S',e⟩:=hl ns hlen
 have hs:LX (K w.params) H a ns:=by
  rcases hS with (h|⟨o,h⟩)|h
  ·rcases hO a with z|⟨o,xs,z⟩
   ·rw [h] at z;cases z
   ·rw [h] at z;cases z
  ·exact .inl ⟨o,h⟩
  ·exact .inr h
 refine⟨rfl,[],[],[.scr ns],.bl true,S',⟨rfl,λi j a h=>by simp at h,λn ob h=>by simp at h⟩,.cons (by unfold DR;exact⟨a,rfl,hs⟩) .nil,e,λz ρ' H' _ _ dz=>dz.of_bl⟩
end DL
namespace DL
open PySem L2
section
variable {a b c:M D} {ba bb:M Bool} {sa sb:MS} {ms:M (List D)} {en en':En} {S S':Sto} {x y v:D} {g g':D->D->Sto->Option (D×Sto)} {F:List D->Sto->Option (D×Sto)}
def SC (b:MS):Option (Fl×En×Sto)->Option (Fl×En×Sto)
 |some (.nx,en,S)=>b en S
 |r=>r
theorem IE:Ya sa sb en S=SC sb (sa en S):=by
 unfold Ya;cases sa en S with
 |none=>rfl
 |some p=>obtain⟨f,e,s⟩:=p;cases f<;>rfl
theorem Sk:SC sb (some (.nx,en,S))=sb en S:=rfl
theorem M8:SC sb (some (.rt v,en,S))=some (.rt v,en,S):=rfl
theorem Ma:SC sb (some (.bk,en,S))=some (.bk,en,S):=rfl
theorem M9:SC sb (some (.ct,en,S))=some (.ct,en,S):=rfl
theorem Xq:mNx en S=some (.nx,en,S):=rfl
def OG (g:D->En->Option En)(en:En):Option (D×Sto)->Option (Fl×En×Sto)
 |some (v,S)=>(g v en).map λen'=>(.nx,en',S)
 |none=>none
theorem IS {g:D->En->Option En}:Q5 a g en S=OG g en (a en S):=by
 unfold Q5;cases a en S<;>rfl
theorem Sw {i:Nat}:OG (gN i) en (some (v,S))=some (.nx,en.set i (some v),S):=rfl
theorem A9 {n:Nat}{gs:List D->En->Option En}:OG (gT n gs) en (some (v,S))=(gT n gs v en).map λen'=>(.nx,en',S):=rfl
theorem Xr {n:Nat}{gs:List D->En->Option En}{ds:List D}(h:ds.length=n):gT n gs (.tup ds) en=gs ds en:=if_pos h
theorem IP {i:Nat}{gs:List D->En->Option En}{ds:List D}:Yj (gN i) gs (v :: ds) en=gs ds (en.set i (some v)):=rfl
theorem IN:Gj [] en=some en:=rfl
def Xf (en:En):Option (D×Sto)->Option (Fl×En×Sto)
 |some (v,S)=>some (.rt v,en,S)
 |none=>none
theorem IG:Ql a en S=Xf en (a en S):=by
 unfold Ql;cases a en S<;>rfl
theorem Sl:Xf en (some (v,S))=some (.rt v,en,S):=rfl
def SU (en:En):Option (D×Sto)->Option (Fl×En×Sto)
 |some (_,S)=>some (.nx,en,S)
 |none=>none
theorem AA:UB a en S=SU en (a en S):=by
 unfold UB;cases a en S<;>rfl
theorem A6:SU en (some (v,S))=some (.nx,en,S):=rfl
def Xh (sa sb:MS)(en:En):Option (Bool×Sto)->Option (Fl×En×Sto)
 |some (c,S)=>if c=true then sa en S else sb en S
 |none=>none
theorem IM:JE ba sa sb en S=Xh sa sb en (ba en S):=by
 unfold JE;cases ba en S<;>rfl
theorem Sr {c:Bool}:Xh sa sb en (some (c,S))=if c=true then sa en S else sb en S:=rfl
def kV1 (S:Sto):Option D->Option (D×Sto)
 |some d=>some (d,S)
 |none=>none
theorem IB {i:Nat}:Z4 i en S=kV1 S (en[i]?.getD none):=by
 unfold Z4;cases en[i]?.getD none<;>rfl
theorem X7:kV1 S (some x)=some (x,S):=rfl
theorem IR:Zn x en S=some (x,S):=rfl
def Xg (g:D->D->Sto->Option (D×Sto))(b:M D)(en:En):Option (D×Sto)->Option (D×Sto)
 |some (x,S)=>(b en S).bind λq=>g x q.1 q.2
 |none=>none
def SJ (g:D->D->Sto->Option (D×Sto))(x:D):Option (D×Sto)->Option (D×Sto)
 |some (y,S)=>g x y S
 |none=>none
theorem Xp:mOp g a b en S=Xg g b en (a en S):=by
 unfold mOp;cases a en S<;>rfl
theorem Sn:Xg g b en (some (x,S))=SJ g x (b en S):=by
 show (b en S).bind _=_
 cases b en S<;>rfl
theorem Sm:SJ g x (some (y,S))=g x y S:=rfl
def kT:Option (D×Sto)->Option (Bool×Sto)
 |some (.bl b,S)=>some (b,S)
 |_=>none
theorem e_T:mT a en S=kT (a en S):=by
 unfold mT;cases a en S with
 |none=>rfl
 |some p=>obtain⟨d,s⟩:=p;cases d<;>rfl
theorem k_T {t:Bool}:kT (some (.bl t,S))=some (t,S):=rfl
def CG:Option (D×Sto)->Option (Bool×Sto)
 |some (d,S)=>(PL d S).map λb=>(b,S)
 |none=>none
theorem IV:Uc a en S=CG (a en S):=by
 unfold Uc;cases a en S<;>rfl
theorem OD:CG (some (v,S))=(PL v S).map λb=>(b,S):=rfl
theorem Aa {t:Bool}:CG (some (.bl t,S))=some (t,S):=rfl
def kOr (b:M Bool)(en:En):Option (Bool×Sto)->Option (Bool×Sto)
 |some (c,S)=>if c=true then some (true,S) else b en S
 |none=>none
def Dk:Option (Bool×Sto)->Option (Bool×Sto)
 |some (c,S)=>some (!c,S)
 |none=>none
theorem Xo:mOr ba bb en S=kOr bb en (ba en S):=by
 unfold mOr;cases ba en S<;>rfl
theorem IH:Gt ba en S=Dk (ba en S):=by
 unfold Gt;cases ba en S<;>rfl
theorem X8 {c:Bool}:kOr bb en (some (c,S))=if c=true then some (true,S) else bb en S:=rfl
theorem Sq {c:Bool}:Dk (some (c,S))=some (!c,S):=rfl
def Sy (b:M D)(en:En):Option (D×Sto)->Option (D×Sto)
 |some (d,S)=>(PL d S).bind λc=>if c=true then b en S else some (d,S)
 |none=>none
theorem Am:Kf a b en S=Sy b en (a en S):=by
 unfold Kf;cases a en S<;>rfl
theorem FF {c:Bool}:Sy b en (some (.bl c,S))=if c=true then b en S else some (.bl false,S):=by cases c<;>rfl
def Xk (g g':D->D->Sto->Option (D×Sto))(b c:M D)(en:En):Option (D×Sto)->Option (D×Sto)
 |some (x,S)=>(b en S).bind λq=>(g x q.1 q.2).bind λr=>match r.1 with
  | .bl true=>(c en r.2).bind λw=>g' q.1 w.1 w.2
  | .bl false=>some (.bl false,r.2)
  |_=>none
 |none=>none
def Xj (g g':D->D->Sto->Option (D×Sto))(x:D)(c:M D)(en:En):Option (D×Sto)->Option (D×Sto)
 |some (y,S)=>(g x y S).bind λr=>match r.1 with
  | .bl true=>(c en r.2).bind λw=>g' y w.1 w.2
  | .bl false=>some (.bl false,r.2)
  |_=>none
 |none=>none
def Xi (g':D->D->Sto->Option (D×Sto))(y:D)(c:M D)(en:En):Option (D×Sto)->Option (D×Sto)
 |some (.bl t,S)=>if t=true then SJ g' y (c en S) else some (.bl false,S)
 |_=>none
theorem Pc:UC g g' a b c en S=Xk g g' b c en (a en S):=by
 unfold UC;cases a en S<;>rfl
theorem Sv:Xk g g' b c en (some (x,S))=Xj g g' x c en (b en S):=by
 show (b en S).bind _=_
 cases b en S<;>rfl
theorem Su:Xj g g' x c en (some (y,S))=Xi g' y c en (g x y S):=by
 show (g x y S).bind _=_
 cases g x y S with
 |none=>rfl
 |some r=>
  obtain⟨d,s⟩:=r
  cases d with
  |bl t=>
   cases t
   ·rfl
   ·show (c en s).bind _=SJ g' y (c en s)
    cases c en s<;>rfl
  |_=>rfl
theorem Ss {t:Bool}:Xi g' y c en (some (.bl t,S))=if t=true then SJ g' y (c en S) else some (.bl false,S):=rfl
theorem II:Zo en S=some ([],S):=rfl
def SV (r:M (List D))(en:En):Option (D×Sto)->Option (List D×Sto)
 |some (x,S)=>(r en S).map λq=>(x :: q.1,q.2)
 |none=>none
def Ad (x:D):Option (List D×Sto)->Option (List D×Sto)
 |some (xs,S)=>some (x :: xs,S)
 |none=>none
theorem AB:Z2 a ms en S=SV ms en (a en S):=by
 unfold Z2;cases a en S<;>rfl
theorem A7:SV ms en (some (x,S))=Ad x (ms en S):=by
 show (ms en S).map _=_
 cases ms en S<;>rfl
theorem RK {xs:List D}:Ad x (some (xs,S))=some (x :: xs,S):=rfl
def SX (F:List D->Sto->Option (D×Sto)):Option (List D×Sto)->Option (D×Sto)
 |some (xs,S)=>F xs S
 |none=>none
theorem AD:ZK F ms en S=SX F (ms en S):=by
 unfold ZK;cases ms en S<;>rfl
theorem A8 {xs:List D}:SX F (some (xs,S))=F xs S:=rfl
def No:Option (List D×Sto)->Option (D×Sto)
 |some (xs,S)=>if xs.length<=Wc then some (.tup xs,S) else none
 |none=>none
theorem ID:YG ms en S=No (ms en S):=by
 unfold YG;cases ms en S<;>rfl
theorem Jj {xs:List D}(h:xs.length<=Wc):No (some (xs,S))=some (.tup xs,S):=if_pos h
def Np:Option (List D×Sto)->Option (D×Sto)
 |some (xs,S)=>if xs.length<=Wc then some (.ref S.length,S++[.lst xs]) else none
 |none=>none
theorem IJ:CD ms en S=Np (ms en S):=by
 unfold CD;cases ms en S<;>rfl
theorem JQ {xs:List D}(h:xs.length<=Wc):Np (some (xs,S))=some (.ref S.length,S++[.lst xs]):=if_pos h
def OE (S0:Sto):Option (Fl×En×Sto)->Option (D×Sto)
 |some (.rt v,_,S)=>some (Ui S0 (v,S))
 |some (.nx,_,S)=>some (Ui S0 (.non,S))
 |_=>none
theorem Bv {nN n:Nat}{m:MS}{ds:List D}(h:ds.length=n):QB nN n m ds S=OE S (m (Q6 nN ds) S):=by
 unfold QB;rw [if_pos h];cases m (Q6 nN ds) S with
 |none=>rfl
 |some p=>obtain⟨f,e,s⟩:=p;cases f<;>rfl
theorem QE:OE S (some (.rt v,en,S'))=some (Ui S (v,S')):=rfl
theorem Gb:OE S (some (.nx,en,S'))=some (Ui S (.non,S')):=rfl
def CH:Option (D×Sto)->Option (D×Sto)
 |some (d,S)=>(Ls d S).map λ(n:Nat)=>(.int n,S)
 |none=>none
theorem IK:N9 a en S=CH (a en S):=by
 unfold N9 CH;cases a en S with
 |none=>rfl
 |some p=>
  obtain⟨d,s⟩:=p
  dsimp only [WK];cases Ls d s<;>rfl
theorem EQ:CH (some (x,S))=(Ls x S).map λ(n:Nat)=>(.int n,S):=rfl
theorem Tk {z:Str}(h:z.length<=Wc):CH (some (.str z,S))=some (.int z.length,S):=by
 show (if z.length<=Wc then some z.length else none).map _=_
 rw [if_pos h];rfl
theorem A4 {ds:List D}:CH (some (.tup ds,S))=some (.int ds.length,S):=rfl
def EU (C:String):Option (D×Sto)->Option (D×Sto)
 |some (d,S)=>(tyD d S).map λT=>(.bl (Tn T C),S)
 |none=>none
theorem IL {C:String}:Kg C a en S=EU C (a en S):=by
 unfold Kg;cases a en S<;>rfl
def kBs (f:List Bool->Bool):Option (List D×Sto)->Option (D×Sto)
 |some (ds,S)=>(UX ds).map λbs=>(.bl (f bs),S)
 |none=>none
theorem IU:CF ms en S=kBs (λbs=>bs.all id) (ms en S):=by
 unfold CF;cases ms en S<;>rfl
theorem Tz:∀(bs:List Bool),UX (bs.map D.bl)=some bs
 |[]=>rfl
 |b :: bs=>by
  show (UX (bs.map D.bl)).map _=_
  rw [Tz bs];rfl
theorem Sx {bs:List Bool}:kBs (λbs=>bs.all id) (some (bs.map D.bl,S))=some (.bl (bs.all id),S):=by
 show (UX (bs.map D.bl)).map _=_
 rw [Tz];rfl
def Ud:Option (D×Sto)->Option (ItD×Sto)
 |some (d,S)=>Nq d S
 |none=>none
theorem Aw:QT a en S=Ud (a en S):=by
 unfold QT;cases a en S<;>rfl
theorem Be {ns:List Int}:Ud (some (.scr ns,S))=some ((ns.map D.int,.no),S):=rfl
theorem RG {ds:List D}:Ud (some (.tup ds,S))=some ((ds,.no),S):=rfl
theorem RH {z:Str}:Ud (some (.str z,S))=some (((cs z).map λc=>D.str ⟨#[c]⟩,.no),S):=rfl
def Xe:Option (D×Sto)->Option (ItD×Sto)
 |some (.int j,S)=>if -(2 ^ 62)<=j/\j<2 ^ 62 then some ((BO 0 j.toNat,.no),S) else none
 |_=>none
theorem IF:Tb a en S=Xe (a en S):=by
 unfold Tb;cases a en S with
 |none=>rfl
 |some p=>obtain⟨d,s⟩:=p;cases d<;>rfl
theorem Bd {j:Int}(h : -(2 ^ 62)<=j/\j<2 ^ 62):Xe (some (.int j,S))=some ((BO 0 j.toNat,.no),S):=if_pos h
def SN (g:D->En->Option En)(body:MS)(en:En):Option (ItD×Sto)->Option (Fl×En×Sto)
 |some (r,S)=>thF r.2 (Q9 r.1 r.2 g body r.1 en S)
 |none=>none
theorem IQ {mi:M ItD}{g:D->En->Option En}:Ro mi g sa en S=SN g sa en (mi en S):=by
 unfold Ro;cases mi en S<;>rfl
theorem CV {r:Option (Fl×En×Sto)}:thF .no r=r:=by cases r<;>rfl
theorem AR {n:Nat}{r:Option (Fl×En×Sto)}:thF (.lst n) r=r:=by cases r<;>rfl
theorem CY {r:Option (List D×Sto)}:thC .no r=r:=by cases r<;>rfl
theorem AS {n:Nat}{r:Option (List D×Sto)}:thC (.lst n) r=r:=by cases r<;>rfl
theorem RJ {ds:List D}{g:D->En->Option En}:SN g sa en (some ((ds,.no),S))=Q9 ds .no g sa ds en S:=CV
theorem Mb {ds:List D}{n:Nat}{g:D->En->Option En}:SN g sa en (some ((ds,.lst n),S))=Q9 ds (.lst n) g sa ds en S:=AR
theorem Nn {ds:List D}{n:Nat}{kvs:List (D×D)}{th:Bool}{g:D->En->Option En}:SN g sa en (some ((ds,.fr n kvs th),S))=thF (.fr n kvs th) (Q9 ds (.fr n kvs th) g sa ds en S):=rfl
def UK (nT:Nat)(caps:List Nat)(g:D->En->Option En)(c:M Bool)(m:M D)(en:En):Option (ItD×Sto)->Option (List D×Sto)
 |some (r,S)=>thC r.2 (Yd r.1 r.2 (QJ nT caps en) g c m r.1 [] S)
 |none=>none
theorem AC {mi:M ItD}{nT:Nat}{caps:List Nat}{g:D->En->Option En}:Qg mi nT caps g ba a en S=UK nT caps g ba a en (mi en S):=by
 unfold Qg;cases mi en S<;>rfl
theorem Md {ds:List D}{nT:Nat}{caps:List Nat}{g:D->En->Option En}:UK nT caps g ba a en (some ((ds,.no),S))=Yd ds .no (QJ nT caps en) g ba a ds [] S:=CY
theorem Bj {ds:List D}{n:Nat}{nT:Nat}{caps:List Nat}{g:D->En->Option En}:UK nT caps g ba a en (some ((ds,.lst n),S))=Yd ds (.lst n) (QJ nT caps en) g ba a ds [] S:=AS
theorem CU {gs:List (Nat×List D)}{r:Option (Fl×En×Sto)}:thF (.zl gs) r=r:=by cases r<;>rfl
theorem CW {gs:List (Nat×List D)}{r:Option (List D×Sto)}:thC (.zl gs) r=r:=by cases r<;>rfl
theorem RI {ds:List D}{gs:List (Nat×List D)}{g:D->En->Option En}:SN g sa en (some ((ds,.zl gs),S))=Q9 ds (.zl gs) g sa ds en S:=CU
theorem Mc {ds:List D}{gs:List (Nat×List D)}{nT:Nat}{caps:List Nat}{g:D->En->Option En}:UK nT caps g ba a en (some ((ds,.zl gs),S))=Yd ds (.zl gs) (QJ nT caps en) g ba a ds [] S:=CW
theorem Gc {ds:List D}{n:Nat}{kvs:List (D×D)}{th:Bool}{nT:Nat}{caps:List Nat}{g:D->En->Option En}:UK nT caps g ba a en (some ((ds,.fr n kvs th),S))=thC (.fr n kvs th) (Yd ds (.fr n kvs th) (QJ nT caps en) g ba a ds [] S):=rfl
def SM:Option (List D×Sto)->Option (D×Sto)
 |some (ds,S)=>some (.ref S.length,S++[.lst ds])
 |none=>none
theorem Au:QS ms en S=SM (ms en S):=by
 unfold QS;cases ms en S<;>rfl
theorem A5 {ds:List D}:SM (some (ds,S))=some (.ref S.length,S++[.lst ds]):=rfl
def Ac (ms:M (List D))(en:En):Option (D×Sto)->Option (D×Sto)
 |some (.str x,S)=>(ms en S).bind λp=>(GB p.1).bind λys=>if (ys.map (·.length)).sum+ys.length*x.length<=16777216 then some (.str (W0U x ys),p.2) else none
 |_=>none
def RL (x:Str):Option (List D×Sto)->Option (D×Sto)
 |some (ds,S)=>(GB ds).bind λys=>if (ys.map (·.length)).sum+ys.length*x.length<=16777216 then some (.str (W0U x ys),S) else none
 |none=>none
theorem Av:Na a ms en S=Ac ms en (a en S):=by
 unfold Na;cases a en S with
 |none=>rfl
 |some p=>obtain⟨d,s⟩:=p;cases d<;>rfl
theorem RF {z:Str}:Ac ms en (some (.str z,S))=RL z (ms en S):=by
 show (ms en S).bind _=_
 cases ms en S<;>rfl
theorem GA:∀(ys:List Str),GB (ys.map D.str)=some ys
 |[]=>rfl
 |y :: ys=>by
  show (GB (ys.map D.str)).map _=_
  rw [GA ys];rfl
theorem ER {z:Str}{ys:List Str}(h:(ys.map (·.length)).sum+ys.length*z.length<=16777216):RL z (some (ys.map D.str,S))=some (.str (W0U z ys),S):=by
 show (GB (ys.map D.str)).bind _=_
 rw [GA,WK,if_pos h]
def Xd (lo hi:M (Option Int))(en:En):Option (D×Sto)->Option (D×Sto)
 |some (x,S)=>(lo en S).bind λl=>(hi en l.2).bind λu=>slD x l.1 u.1 u.2
 |none=>none
def Xc (x:D)(hi:M (Option Int))(en:En):Option (Option Int×Sto)->Option (D×Sto)
 |some (l,S)=>(hi en S).bind λu=>slD x l u.1 u.2
 |none=>none
def Xb (x:D)(l:Option Int):Option (Option Int×Sto)->Option (D×Sto)
 |some (u,S)=>slD x l u S
 |none=>none
theorem Xn {lo hi:M (Option Int)}:mSl a lo hi en S=Xd lo hi en (a en S):=by
 unfold mSl;cases a en S<;>rfl
theorem Sj {lo hi:M (Option Int)}:Xd lo hi en (some (x,S))=Xc x hi en (lo en S):=by
 show (lo en S).bind _=_
 cases lo en S<;>rfl
theorem Si {hi:M (Option Int)}{l:Option Int}:Xc x hi en (some (l,S))=Xb x l (hi en S):=by
 show (hi en S).bind _=_
 cases hi en S<;>rfl
theorem Sh {l u:Option Int}:Xb x l (some (u,S))=slD x l u S:=rfl
def SH:Option (D×Sto)->Option (Option Int×Sto)
 |some (.int i,S)=>some (some i,S)
 |_=>none
theorem Ar:MU a en S=SH (a en S):=by
 unfold MU;cases a en S with
 |none=>rfl
 |some p=>obtain⟨d,s⟩:=p;cases d<;>rfl
theorem FS {i:Int}:SH (some (.int i,S))=some (some i,S):=rfl
theorem Mr:G5 en S=some (none,S):=rfl
theorem Ap:QR en S=some (true,S):=rfl
end
section
variable {S:Sto} {i j:Int} {x y:Str} {p q:Bool}
theorem Ak:Ue (.int i) (.int j) S=some (.int (i+j),S):=rfl
theorem Ik (h : -(2 ^ 64)<j/\j<2 ^ 64):P5 (.int i) (.int j) S=some (.int (i*j),S):=if_pos (Or.inr h)
theorem Ai (h : -(2 ^ 64)<i/\i<2 ^ 64):P5 (.int i) (.int j) S=some (.int (i*j),S):=if_pos (Or.inl h)
theorem J3 (h:0<j):K4 (.int i) (.int j) S=some (.int (i%j),S):=if_pos (decide_eq_true h)
theorem Il:gLt (.int i) (.int j) S=some (.bl (decide (i<j)),S):=rfl
theorem Im:gLe (.int i) (.int j) S=some (.bl (decide (i<=j)),S):=rfl
theorem OK:gLe (.str x) (.str y) S=some (.bl (!decide (y.cps.toList<x.cps.toList)),S):=rfl
theorem Iu:gEq (.int i) (.int j) S=some (.bl (decide (i=j)),S):=rfl
theorem Ir:gEq (.str x) (.str y) S=some (.bl (decide (x=y)),S):=rfl
theorem Iv:gEq (.bl p) (.bl q) S=some (.bl (decide (p=q)),S):=rfl
theorem Ij:gNe (.int i) (.int j) S=some (.bl (!decide (i=j)),S):=rfl
theorem Ii:gNe (.str x) (.str y) S=some (.bl (!decide (x=y)),S):=rfl
theorem Aj:gIs (.bl p) (.bl q) S=some (.bl (p == q),S):=rfl
theorem K3 {ds:List D}{k:Nat}{d:D}(h:ds[k]? = some d):gIx (.tup ds) (.int (k:Nat)) S=some (d,S):=by
 show (atI ds (k:Int)).map _=_
 rw [Gs h];rfl
section
variable {a b c d e f:D} {l:List D}
theorem P4:gIx (.tup (a :: l)) (.int 0) S=some (a,S):=K3 (k:=0) rfl
theorem P3:gIx (.tup (a :: b :: l)) (.int 1) S=some (b,S):=K3 (k:=1) rfl
theorem P0:gIx (.tup (a :: b :: c :: l)) (.int 2) S=some (c,S):=K3 (k:=2) rfl
theorem Iq:gIx (.tup (a :: b :: c :: d :: l)) (.int 3) S=some (d,S):=K3 (k:=3) rfl
theorem Ip:gIx (.tup (a :: b :: c :: d :: e :: l)) (.int 4) S=some (e,S):=K3 (k:=4) rfl
theorem Io:gIx (.tup (a :: b :: c :: d :: e :: f :: l)) (.int 5) S=some (f,S):=K3 (k:=5) rfl
end
end
section
variable {ds0 r:List D} {g:D->En->Option En} {body:MS} {en:En} {S:Sto} {d v:D}
def RM (ds0:List D)(g:D->En->Option En)(body:MS)(r:List D):Option (Fl×En×Sto)->Option (Fl×En×Sto)
 |some (.nx,en,S)=>Q9 ds0 .no g body r en S
 |some (.ct,en,S)=>Q9 ds0 .no g body r en S
 |some (.bk,en,S)=>some (.nx,en,S)
 |some (.rt v,en,S)=>some (.rt v,en,S)
 |none=>none
theorem Ay:Q9 ds0 .no g body [] en S=some (.nx,en,S):=by
 unfold Q9;exact if_pos trivial
theorem Az {i:Nat}:Q9 ds0 .no (gN i) body (d :: r) en S=RM ds0 (gN i) body r (body (en.set i (some d)) S):=by
 rw [Q9];rw [if_pos (show BP .no ds0 S from trivial)];show (body (en.set i (some d)) S).bind _=_
 cases body (en.set i (some d)) S with
 |none=>rfl
 |some p=>obtain⟨f,e,s⟩:=p;cases f<;>rfl
theorem Bg:RM ds0 g body r (some (.nx,en,S))=Q9 ds0 .no g body r en S:=rfl
theorem Bh:RM ds0 g body r (some (.ct,en,S))=Q9 ds0 .no g body r en S:=rfl
theorem Bi:RM ds0 g body r (some (.bk,en,S))=some (.nx,en,S):=rfl
theorem Bf:RM ds0 g body r (some (.rt v,en,S))=some (.rt v,en,S):=rfl
end
section
variable {a b c d e f g h i j k l:D} {S:Sto}
theorem FR:No (some (([]:List D),S))=some (.tup [],S):=Jj (show 0<=Wc by decide)
theorem A3:Np (some (([]:List D),S))=some (.ref S.length,S++[.lst []]):=JQ (show 0<=Wc by decide)
theorem FQ:No (some ([a],S))=some (.tup [a],S):=Jj (show 1<=Wc by decide)
theorem A2:Np (some ([a],S))=some (.ref S.length,S++[.lst [a]]):=JQ (show 1<=Wc by decide)
theorem FP:No (some ([a,b],S))=some (.tup [a,b],S):=Jj (show 2<=Wc by decide)
theorem A0:Np (some ([a,b],S))=some (.ref S.length,S++[.lst [a,b]]):=JQ (show 2<=Wc by decide)
theorem FO:No (some ([a,b,c],S))=some (.tup [a,b,c],S):=Jj (show 3<=Wc by decide)
theorem FZ:Np (some ([a,b,c],S))=some (.ref S.length,S++[.lst [a,b,c]]):=JQ (show 3<=Wc by decide)
theorem FN:No (some ([a,b,c,d],S))=some (.tup [a,b,c,d],S):=Jj (show 4<=Wc by decide)
theorem FY:Np (some ([a,b,c,d],S))=some (.ref S.length,S++[.lst [a,b,c,d]]):=JQ (show 4<=Wc by decide)
theorem FM:No (some ([a,b,c,d,e],S))=some (.tup [a,b,c,d,e],S):=Jj (show 5<=Wc by decide)
theorem FX:Np (some ([a,b,c,d,e],S))=some (.ref S.length,S++[.lst [a,b,c,d,e]]):=JQ (show 5<=Wc by decide)
theorem FL:No (some ([a,b,c,d,e,f],S))=some (.tup [a,b,c,d,e,f],S):=Jj (show 6<=Wc by decide)
theorem FW:Np (some ([a,b,c,d,e,f],S))=some (.ref S.length,S++[.lst [a,b,c,d,e,f]]):=JQ (show 6<=Wc by decide)
theorem FK:No (some ([a,b,c,d,e,f,g],S))=some (.tup [a,b,c,d,e,f,g],S):=Jj (show 7<=Wc by decide)
theorem FV:Np (some ([a,b,c,d,e,f,g],S))=some (.ref S.length,S++[.lst [a,b,c,d,e,f,g]]):=JQ (show 7<=Wc by decide)
theorem FJ:No (some ([a,b,c,d,e,f,g,h],S))=some (.tup [a,b,c,d,e,f,g,h],S):=Jj (show 8<=Wc by decide)
theorem FU:Np (some ([a,b,c,d,e,f,g,h],S))=some (.ref S.length,S++[.lst [a,b,c,d,e,f,g,h]]):=JQ (show 8<=Wc by decide)
theorem FI:No (some ([a,b,c,d,e,f,g,h,i],S))=some (.tup [a,b,c,d,e,f,g,h,i],S):=Jj (show 9<=Wc by decide)
theorem FT:Np (some ([a,b,c,d,e,f,g,h,i],S))=some (.ref S.length,S++[.lst [a,b,c,d,e,f,g,h,i]]):=JQ (show 9<=Wc by decide)
theorem RB:No (some ([a,b,c,d,e,f,g,h,i,j],S))=some (.tup [a,b,c,d,e,f,g,h,i,j],S):=Jj (show 10<=Wc by decide)
theorem RE:Np (some ([a,b,c,d,e,f,g,h,i,j],S))=some (.ref S.length,S++[.lst [a,b,c,d,e,f,g,h,i,j]]):=JQ (show 10<=Wc by decide)
theorem RA:No (some ([a,b,c,d,e,f,g,h,i,j,k],S))=some (.tup [a,b,c,d,e,f,g,h,i,j,k],S):=Jj (show 11<=Wc by decide)
theorem RD:Np (some ([a,b,c,d,e,f,g,h,i,j,k],S))=some (.ref S.length,S++[.lst [a,b,c,d,e,f,g,h,i,j,k]]):=JQ (show 11<=Wc by decide)
theorem Rz:No (some ([a,b,c,d,e,f,g,h,i,j,k,l],S))=some (.tup [a,b,c,d,e,f,g,h,i,j,k,l],S):=Jj (show 12<=Wc by decide)
theorem RC:Np (some ([a,b,c,d,e,f,g,h,i,j,k,l],S))=some (.ref S.length,S++[.lst [a,b,c,d,e,f,g,h,i,j,k,l]]):=JQ (show 12<=Wc by decide)
end
theorem Xt:(true == false)=false:=rfl
theorem Xu:(false == true)=false:=rfl
theorem Xs:(true == true)=true:=rfl
theorem Xv:(false == false)=true:=rfl
section
variable {a b:Option D} {l m:En} {d e:D} {ds es:List D} {n:Nat} {x y:Option (Fl×En×Sto)} {u v:Option (D×Sto)} {p q:Option (Bool×Sto)}
theorem Fg:(a :: l).set 0 b=b :: l:=rfl
theorem Ff:(a :: l).set (n+1) b=a :: l.set n b:=rfl
theorem Fv:(a :: l)[0]? = some a:=rfl
theorem Ft:(a :: l)[n+1]? = l[n]?:=List.getElem?_cons_succ
theorem Fu:(some a).getD none=a:=rfl
theorem Fk:([]:List D).length=0:=rfl
theorem Fj:(d :: ds).length=ds.length+1:=rfl
theorem FB:([]:List D)++ds=ds:=rfl
theorem Fz:(d :: ds)++es=d :: (ds++es):=rfl
theorem FA:ds++[]=ds:=Vu ds
theorem M4:Q6 n []=VQ n none:=rfl
theorem M3:Q6 (n+1) (d :: ds)=some d :: Q6 n ds:=by
 unfold Q6;simp
theorem Fw {caps:List Nat}:QJ (n+1) caps l=none :: QJ n caps l:=rfl
theorem Fy {j:Nat}{caps:List Nat}:QJ 0 (j :: caps) l=(l[j]?.getD none) :: QJ 0 caps l:=rfl
theorem Fx:QJ 0 [] l=[]:=rfl
theorem Fi:VQ 0 (none:Option D)=[]:=rfl
theorem Fh:VQ (n+1) (none:Option D)=none :: VQ n none:=rfl
theorem Fo:(if True then x else y)=x:=if_pos trivial
theorem Fp:(if False then x else y)=y:=if_neg id
theorem Fm:(if True then u else v)=u:=if_pos trivial
theorem Fn:(if False then u else v)=v:=if_neg id
theorem Fq:(if True then p else q)=p:=if_pos trivial
theorem Fs:(if False then p else q)=q:=if_neg id
end
end DL
namespace DL
open PySem L2
section
variable {a b c:M D} {ms:M (List D)} {en:En} {S:Sto} {x v:D} {ds:List D} {n:Nat}
def Lx:Option (D×Sto)->Option (D×Sto)
 |some (d,S)=>(AO d S).map λds=>(.tup ds,S)
 |none=>none
theorem An:MT a en S=Lx (a en S):=by
 unfold MT;cases a en S<;>rfl
theorem Rx:Lx (some (.tup ds,S))=some (.tup ds,S):=rfl
theorem NA (h:S[n]? = some (Ob.lst ds)):Lx (some (.ref n,S))=some (.tup ds,S):=by
 show ((match S[n]? with|some (Ob.lst ds)=>some ds|_=>none).map λds=>(D.tup ds,S))=_
 rw [h];rfl
theorem Ry:Lx (some (.ref S.length,S++[Ob.lst ds]))=some (.tup ds,S++[Ob.lst ds]):=NA (Wu ..)
def Sz:Option (List D×Sto)->Option (D×Sto)
 |some (ds,S)=>some (.tup ds,S)
 |none=>none
theorem Ao:N8 ms en S=Sz (ms en S):=by
 unfold N8;cases ms en S<;>rfl
theorem FH:Sz (some (ds,S))=some (.tup ds,S):=rfl
theorem As:Rm en S=some (.ref S.length,S++[Ob.dct []]):=rfl
def Me:Option (D×Sto)->Option (D×Sto)
 |some (.tup ds,S)=>if ds.length<=Wc then (JA ds).map λps=>(.ref S.length,S++[Ob.dct (U5 [] ps)]) else none
 |_=>none
theorem Pb:B6 a en S=Me (a en S):=by
 unfold B6;cases a en S with
 |none=>rfl
 |some p=>obtain⟨d,s⟩:=p;cases d<;>rfl
theorem Cr {ps:List (D×D)}(h:ds.length<=Wc)(e:JA ds=some ps):Me (some (.tup ds,S))=some (.ref S.length,S++[Ob.dct (U5 [] ps)]):=by
 show (if ds.length<=Wc then (JA ds).map λps=>(D.ref S.length,S++[Ob.dct (U5 [] ps)]) else none)=_
 rw [if_pos h,e];rfl
def ET (C1 C2:String):Option (D×Sto)->Option (D×Sto)
 |some (d,S)=>(tyD d S).map λT=>(.bl (Tn T C1||Tn T C2),S)
 |none=>none
theorem Ax {C1 C2:String}:Rn C1 C2 a en S=ET C1 C2 (a en S):=by
 unfold Rn;cases a en S<;>rfl
def Lv (d:D):Option (D×Sto)->Option (ItD×Sto)
 |some (d',S)=>(MJ d S).bind λx=>(MJ d' S).map λy=>((LZ x.1 y.1,gdZ (x.2++y.2)),S)
 |none=>none
def X9 (b:M D)(en:En):Option (D×Sto)->Option (ItD×Sto)
 |some (d,S)=>Lv d (b en S)
 |none=>none
theorem IA:HZ a b en S=X9 b en (a en S):=by
 unfold HZ;cases a en S with
 |none=>rfl
 |some p=>
  obtain⟨d,S1⟩:=p
  show ((b en S1).bind _)=Lv d (b en S1)
  cases b en S1 with
  |none=>rfl
  |some q=>rfl
theorem Sf {d:D}:X9 b en (some (d,S))=Lv d (b en S):=rfl
theorem FE {xs ys:List D}:Lv (.tup xs) (some (.tup ys,S))=some ((LZ xs ys,.no),S):=rfl
def Lw (f:Int->Int->Int)(d:D):Option (D×Sto)->Option (D×Sto)
 |some (d',S)=>match d,d' with | .int i,.int j=>some (.int (f i j),S)|_,_=>none
 |none=>none
def Xa (f:Int->Int->Int)(b:M D)(en:En):Option (D×Sto)->Option (D×Sto)
 |some (d,S)=>Lw f d (b en S)
 |none=>none
theorem IC {f:Int->Int->Int}:EL f a b en S=Xa f b en (a en S):=by
 unfold EL;cases a en S with
 |none=>rfl
 |some p=>
  obtain⟨d,S1⟩:=p
  show ((b en S1).bind _)=Lw f d (b en S1)
  cases b en S1 with
  |none=>rfl
  |some q=>rfl
theorem Sg {f:Int->Int->Int}{d:D}:Xa f b en (some (d,S))=Lw f d (b en S):=rfl
theorem FG {f:Int->Int->Int}{i j:Int}:Lw f (.int i) (some (.int j,S))=some (.int (f i j),S):=rfl
def ES:Option (D×Sto)->Option (List D×Sto)
 |some (d,S)=>(CA d S).bind λds=>if Qw ds=true then some (Qq ds,S) else none
 |none=>none
theorem Aq:Rl a en S=ES (a en S):=by
 unfold Rl;cases a en S<;>rfl
theorem D6 {d:D}(e:CA d S=some ds)(h:Qw ds=true):ES (some (d,S))=some (Qq ds,S):=by
 show ((CA d S).bind λds=>if Qw ds=true then some (Qq ds,S) else none)=_
 rw [e,WK,if_pos h]
theorem Ce {kvs:List (D×D)}{k:D}(h1:a en S=some (.ref n,S))(h2:b en S=some (k,S))(h3:c en S=some (x,S))(hd:J6 S n k=some kvs):Nb a b c en S=some ((Uo kvs k).getD x,S):=by
 unfold Nb;have hi:K0 S n=true:=by
  unfold J6 at hd;unfold K0;split at hd
  ·rfl
  ·rfl
  ·cases hd
 rw [h1,WK,h2,WK,h3,WK];dsimp only;rw [if_pos hi,hd];rfl
theorem Ae {kvs:List (D×D)}{k d:D}(hd:J6 S n k=some kvs)(hg:Uo kvs k=some d):gIx (.ref n) k S=some (d,S):=by
 have hl:∀xs,S[n]?≠some (Ob.lst xs):=λxs z=>by
  unfold J6 at hd;rw [z] at hd;cases hd
 show (match S[n]? with|some (Ob.lst xs)=>(match k with | .int i=>(atI xs i).map λd=>(d,S)|_=>none)|_=>(J6 S n k).bind λkvs=>(Uo kvs k).map λd=>(d,S))=_
 split
 ·rename_i xs q
  exact absurd q (hl xs)
 ·rw [hd,WK,hg];rfl
end
section
variable {a:M D} {en:En} {S:Sto} {ds:List D} {n:Nat}
end
section
variable {ms:M (List D)} {en:En} {S:Sto}
end
section
variable {a b c:M D} {ms:M (List D)} {en:En} {S:Sto} {x y v:D} {ds:List D} {n:Nat}
end
end DL
namespace DL
open PySem L2
theorem EVS:type_of% (Ua @IE (Ua @Sk (Ua @M8 (Ua @Ma (Ua @M9 (Ua @Xq (Ua @IS (Ua @Sw (Ua @A9 (Ua @Xr (Ua @IP (Ua @IN (Ua @IG (Ua @Sl (Ua @AA (Ua @A6 (Ua @IM (Ua @Sr (Ua @IB (Ua @X7 (Ua @IR (Ua @Xp (Ua @Sn (Ua @Sm (Ua @e_T (Ua @k_T (Ua @IV (Ua @Aa (Ua @Xo (Ua @IH (Ua @X8 (Ua @Sq (Ua @Am (Ua @FF (Ua @Pc (Ua @Sv (Ua @Su (Ua @Ss (Ua @II (Ua @AB (Ua @A7 (Ua @RK (Ua @AD (Ua @A8 (Ua @ID (Ua @IJ (Ua @Bv (Ua @QE (Ua @Gb (Ua @IK (Ua @A4 (Ua @IL (Ua @IU (Ua @Aw (Ua @Be (Ua @RG (Ua @RH (Ua @IF (Ua @IQ (Ua @RJ (Ua @Mb (Ua @Nn (Ua @AC (Ua @Md (Ua @Bj (Ua @RI (Ua @Mc (Ua @Gc (Ua @Au (Ua @A5 (Ua @Av (Ua @RF (Ua @Xn (Ua @Sj (Ua @Si (Ua @Sh (Ua @Ar (Ua @FS (Ua @Mr (Ua @Ap (Ua @Ak (Ua @Il (Ua @Im (Ua @Iu (Ua @Ir (Ua @Iv (Ua @Ij (Ua @Ii (Ua @Aj (Ua @P4 (Ua @P3 (Ua @P0 (Ua @Iq (Ua @Ip (Ua @Io (Ua @Ay (Ua @Az (Ua @Bg (Ua @Bh (Ua @Bi (Ua @Bf (Ua @FR (Ua @A3 (Ua @FQ (Ua @A2 (Ua @FP (Ua @A0 (Ua @FO (Ua @FZ (Ua @FN (Ua @FY (Ua @FM (Ua @FX (Ua @FL (Ua @FW (Ua @FK (Ua @FV (Ua @FJ (Ua @FU (Ua @FI (Ua @FT (Ua @RB (Ua @RE (Ua @RA (Ua @RD (Ua @Rz (Ua @RC (Ua @Xt (Ua @Xu (Ua @Xs (Ua @Xv (Ua @Fg (Ua @Ff (Ua @Fv (Ua @Ft (Ua @Fu (Ua @Fk (Ua @Fj (Ua @FB (Ua @Fz (Ua @FA (Ua @M4 (Ua @M3 (Ua @Fw (Ua @Fy (Ua @Fx (Ua @Fi (Ua @Fh (Ua @Fo (Ua @Fp (Ua @Fm (Ua @Fn (Ua @Fq (Ua @Fs (Ua @An (Ua @Rx (Ua @Ry (Ua @Ao (Ua @FH (Ua @As (Ua @Pb (Ua @Ax (Ua @IA (Ua @Sf (Ua @FE (Ua @IC (Ua @Sg (Ua @FG (Ua @Aq (Ua @Gy (Ua @and_true (Ua @true_and (Ua @decide_true (Ua @decide_false (Ua @Bool.not_true (Ua @Bool.not_false (Ua @VP (Ua @Nat.add_zero (Ua @Nat.zero_add @Nat.sub_zero))))))))))))))))))))))))))))))))))))))))))))))))))))))))))))))))))))))))))))))))))))))))))))))))))))))))))))))))))))))))))))))))))))))))))))))))))))))))))))))))))))))))))))))))))):=
  (Ua @IE (Ua @Sk (Ua @M8 (Ua @Ma (Ua @M9 (Ua @Xq (Ua @IS (Ua @Sw (Ua @A9 (Ua @Xr (Ua @IP (Ua @IN (Ua @IG (Ua @Sl (Ua @AA (Ua @A6 (Ua @IM (Ua @Sr (Ua @IB (Ua @X7 (Ua @IR (Ua @Xp (Ua @Sn (Ua @Sm (Ua @e_T (Ua @k_T (Ua @IV (Ua @Aa (Ua @Xo (Ua @IH (Ua @X8 (Ua @Sq (Ua @Am (Ua @FF (Ua @Pc (Ua @Sv (Ua @Su (Ua @Ss (Ua @II (Ua @AB (Ua @A7 (Ua @RK (Ua @AD (Ua @A8 (Ua @ID (Ua @IJ (Ua @Bv (Ua @QE (Ua @Gb (Ua @IK (Ua @A4 (Ua @IL (Ua @IU (Ua @Aw (Ua @Be (Ua @RG (Ua @RH (Ua @IF (Ua @IQ (Ua @RJ (Ua @Mb (Ua @Nn (Ua @AC (Ua @Md (Ua @Bj (Ua @RI (Ua @Mc (Ua @Gc (Ua @Au (Ua @A5 (Ua @Av (Ua @RF (Ua @Xn (Ua @Sj (Ua @Si (Ua @Sh (Ua @Ar (Ua @FS (Ua @Mr (Ua @Ap (Ua @Ak (Ua @Il (Ua @Im (Ua @Iu (Ua @Ir (Ua @Iv (Ua @Ij (Ua @Ii (Ua @Aj (Ua @P4 (Ua @P3 (Ua @P0 (Ua @Iq (Ua @Ip (Ua @Io (Ua @Ay (Ua @Az (Ua @Bg (Ua @Bh (Ua @Bi (Ua @Bf (Ua @FR (Ua @A3 (Ua @FQ (Ua @A2 (Ua @FP (Ua @A0 (Ua @FO (Ua @FZ (Ua @FN (Ua @FY (Ua @FM (Ua @FX (Ua @FL (Ua @FW (Ua @FK (Ua @FV (Ua @FJ (Ua @FU (Ua @FI (Ua @FT (Ua @RB (Ua @RE (Ua @RA (Ua @RD (Ua @Rz (Ua @RC (Ua @Xt (Ua @Xu (Ua @Xs (Ua @Xv (Ua @Fg (Ua @Ff (Ua @Fv (Ua @Ft (Ua @Fu (Ua @Fk (Ua @Fj (Ua @FB (Ua @Fz (Ua @FA (Ua @M4 (Ua @M3 (Ua @Fw (Ua @Fy (Ua @Fx (Ua @Fi (Ua @Fh (Ua @Fo (Ua @Fp (Ua @Fm (Ua @Fn (Ua @Fq (Ua @Fs (Ua @An (Ua @Rx (Ua @Ry (Ua @Ao (Ua @FH (Ua @As (Ua @Pb (Ua @Ax (Ua @IA (Ua @Sf (Ua @FE (Ua @IC (Ua @Sg (Ua @FG (Ua @Aq (Ua @Gy (Ua @and_true (Ua @true_and (Ua @decide_true (Ua @decide_false (Ua @Bool.not_true (Ua @Bool.not_false (Ua @VP (Ua @Nat.add_zero (Ua @Nat.zero_add @Nat.sub_zero)))))))))))))))))))))))))))))))))))))))))))))))))))))))))))))))))))))))))))))))))))))))))))))))))))))))))))))))))))))))))))))))))))))))))))))))))))))))))))))))))))))))))))))))))))
end DL
namespace DL
open PySem L2
section
variable {α:Type} {ds0:List D} {gd:Gd} {cap:En} {g:D->En->Option En} {c:M Bool} {m:M D} {S:Sto}
theorem Up (xs:List α)(enc:α->D)(p:α->Bool)(f:α->D)(hg:BP gd ds0 S)(hl:xs.length<=Wc)(h:∀a∈xs,∃en,g (enc a) cap=some en/\c en S=some (p a,S)/\(p a=true->m en S=some (f a,S))) :
  Yd ds0 gd cap g c m (xs.map enc) [] S=some ((xs.filter p).map f,S):=by
 have key:∀(l:List α) (acc:List D),acc.length+l.length<=Wc->(∀a∈l,∃en,g (enc a) cap=some en/\c en S=some (p a,S)/\(p a=true->m en S=some (f a,S)))->
   Yd ds0 gd cap g c m (l.map enc) acc S=some (acc++(l.filter p).map f,S):=by
  intro l
  induction l with
  |nil=>
   intro acc hl _;unfold Yd;simp only [Wb]
   rw [if_pos ⟨hg,by simpa using hl⟩]
   simp
  |cons a l ih=>
   intro acc hl h;obtain⟨en,h1,h2,h3⟩:=h a WC
   rw [WR] at hl;rw [W0];unfold Yd;rw [if_pos ⟨hg,by omega⟩,h1,WK,h2,WK]
   dsimp only;cases hp:p a with
   |true=>
    rw [if_pos rfl,h3 hp,WK,ih (acc++[f a]) (by rw [WP,W0K];omega) λd' hd'=>h d' (WD _ hd')]
    rw [List.filter_cons_of_pos hp,W0,Vj];rfl
   |false=>
    rw [if_neg WI,ih acc (by omega) λd' hd'=>h d' (WD _ hd')]
    rw [List.filter_cons_of_neg (by simp [hp])]
 simpa using key xs [] (by simpa using hl) h
theorem QI (xs:List α)(enc:α->D)(f:α->D)(hg:BP gd ds0 S)(hl:xs.length<=Wc)(h:∀a∈xs,∃en,g (enc a) cap=some en/\m en S=some (f a,S)) :
  Yd ds0 gd cap g QR m (xs.map enc) [] S=some (xs.map f,S):=by
 have:=Up (c:=QR) xs enc (λ_=>true) f hg hl (λa ha=>by
  obtain⟨en,h1,h2⟩:=h a ha
  exact⟨en,h1,rfl,λ_=>h2⟩)
 rw [List.filter_eq_self.mpr λ_ _=>rfl] at this
 exact this
theorem UM {ds:List D}{S:Sto}:BP .no ds S:=trivial
theorem TN (n:Nat):BO 0 n=(Wo n).map λi=>D.int (i:Nat):=by
 unfold BO;simp
theorem UN {body:MS}(xs:List α)(enc:α->D)(P:List α->En->Sto->Prop)(h:∀pre a post en S,xs=pre++a :: post->P pre en S->∃en1,g (enc a) en=some en1/\∃en2 S2,body en1 S=some (.nx,en2,S2)/\P (pre++[a]) en2 S2)
  (hg:∀pre en S,P pre en S->BP gd ds0 S) {en:En} {S:Sto} (h0:P [] en S):∃en' S',Q9 ds0 gd g body (xs.map enc) en S=some (.nx,en',S')/\P xs en' S':=by
 have key:∀(post pre:List α) en S,xs=pre++post->P pre en S->∃en' S',Q9 ds0 gd g body (post.map enc) en S=some (.nx,en',S')/\P xs en' S':=by
  intro post
  induction post with
  |nil=>
   intro pre en S e hp;unfold Q9;simp only [Wb]
   rw [if_pos (hg pre en S hp)];rw [Vu] at e;exact⟨en,S,rfl,e ▸ hp⟩
  |cons a post ih=>
   intro pre en S e hp;obtain⟨en1,h1,en2,S2,h2,h3⟩:=h pre a post en S e hp
   rw [W0];unfold Q9;rw [if_pos (hg pre en S hp),h1,WK,h2,WK];exact ih (pre++[a]) en2 S2 (by rw [e,Vj];rfl) h3
 exact key xs [] en S rfl h0
end
theorem PY {S:Sto}{n:Nat}{o o':Ob}(h:S[n]? = some o):(S.set n o').set n o=S:=by
 rw [List.set_set]
 apply List.ext_getElem?
 intro i;rw [List.getElem?_set];by_cases hi:n=i
 ·subst hi
  rw [if_pos rfl,h,if_pos (Wi.mp h).1]
 ·rw [if_neg hi]
theorem Ny (l:List Nat):cs ⟨l.toArray⟩=l:=by simp [cs]
theorem HY (x:Str):(⟨(cs x).toArray⟩:Str)=x:=by cases x;simp [cs]
theorem AX {x y:Str}(h:cs x=cs y):x=y:=by rw [<-HY x,<-HY y,h]
theorem S5 (a b:Nat):([a] < [b])↔a<b:=by
 constructor
 ·intro h
  cases h with
  |rel h=>exact h
  |cons h=>cases h
 ·exact λh=>.rel h
end DL
namespace L2
open PySem PySem.Spec PyProof.Rows
section
variable {prog:Program} {w:World} {A:Around} {E:Value->Shared->Prop} {s:Shared}
end
section
variable {X:Cx} {e st:Expr} {te:TE} {tk:TO} {pos p2:Pos}
end
end L2
namespace DL
open PySem L2 PySem.Spec PyProof.Rows
section
variable {X:Cx} {e a b st:Expr} {pos:Pos}
end
end DL
namespace DL
open PySem L2 PySem.Spec PyProof.Rows
section
variable {X:Cx} {a b:Expr} {pos:Pos}
end
end DL
namespace DL
open PySem L2 PySem.Spec PyProof.Rows
structure OwnM (K:W3) (C:Addr) (x qual:Str) (st:Stmt) (f:Addr) (fd:FuncData) (ps:List Str):Prop where
 fn:Fun K x qual st f fd
 meth:L2.Meth K C x f
 b:Jm K fd ps []
structure OwnI (K:W3) (C:Addr) (qual:Str) (st:Stmt) (f:Addr) (fd:FuncData) (ps:List Str):Prop where
 fn:Fun K "__init__" qual st f fd
 mkr:L2.Mk K C f
 b:Jm K fd ps []
end DL
namespace L2
open PySem PySem.Spec PyProof.Rows
def Ite (l:Addr):It:=
 ⟨λi H=>∃xs x,H l=some (.lst xs)/\xs[i]? = some x,
 λi H v H'=>∃p x,v = .ref p/\H p=none/\H'=upd H p (.tup [.int (i:Nat),x])/\∀xs,H l=some (.lst xs)->xs[i]? = some x,
 λi H=>∃xs,H l=some (.lst xs)/\i=xs.length⟩
theorem Kp {P:Program}{w:World}{K:W3}{elts:List Expr}{kt:Nat}{pt:Pos}{l e it:Addr}(d:e≠it) :
  Turn P w K (.Tuple elts kt pt) (Ite l) [e,it] e (λi h=>(∃old,IsEnum h e it ((i:Nat):Int) old)/\h.IsListIter it l i) where
 mem:=by simp
 obj:=λi h st b hb=>by
  obtain⟨⟨old,he⟩,o,e1,_,e2⟩:=st
  simp only [Wx,WM,or_false] at hb
  rcases hb with rfl|rfl
  ·exact⟨_,he,λv q=>nomatch q⟩
  ·exact⟨o,e1,λv z=>by rw [e2] at z;cases z⟩
 keep:=λi h h' st k=>by
  obtain⟨⟨old,he⟩,o,e1,e2⟩:=st
  exact⟨⟨old,k e (by simp) _ he⟩,o,k it (by simp) _ e1,e2⟩
 item:=by
  intro X hP hw hK hc i pins s σ H E I hf st hg;subst hP hw hK;obtain⟨xs,x,t1,hx⟩:=hg
  obtain⟨⟨old,he⟩,hit⟩:=st
  obtain⟨its,r1,pl,_⟩:=I.list (.of t1)
  obtain⟨u,eu,ru⟩:=r1.get hx
  have hlt:e<s.heap.objs.size:=Ww he
  have ilt:it<s.heap.objs.size:=by obtain⟨o,e1,_⟩:=id hit;exact Ww e1
  refine wpAny_pyNext_enum_item he hit pl.isList (x:=u) (by rw [W02];exact eu) d λh1 heo hit1 ht1 hz1 hk1=>⟨_,rfl,wpAny_letOwnedTupleGo_enum (s:={ s with heap:=h1,toks:=s.toks+1 }) heo λh2 he2 hs2=>?_⟩
  replace hs2:VM e h1 h2:=hs2
  have hn:H s.heap.objs.size=none:=I.hok.fresh (Wq _)
  have lt:∀b∈[e,it],b<s.heap.objs.size:=λb hb=>by
   simp only [Wx,WM,or_false] at hb
   rcases hb with rfl|rfl
   ·exact hlt
   ·exact ilt
  have new2:IsPair h2 s.heap.objs.size (.int (i:Nat) s.toks) u:=hs2.extBut _ _ (W0l hlt) ht1
  refine⟨.ref s.heap.objs.size,upd H s.heap.objs.size (.tup [.int (i:Nat),x]),?_,rfl,⟨_,x,rfl,hn,rfl,λws h=>?_⟩,⟨⟨u,?_⟩,?_⟩,λb hb=>?_⟩
  ·have I1:Inv X pins σ (upd H s.heap.objs.size (.tup [.int (i:Nat),x])) { s with heap:=s.heap.push { cls:=.type "tuple",data:=.seq #[.int (i:Nat) s.toks,u] } }:=
    I.laid (t':=s.toks) (λb o e=>Wj _ e) (Wq _) (Fb (Wt _ rfl) (show ZC (.int (i:Nat)) (.int (i:Nat) s.toks) from ⟨_,rfl⟩) ru)
   have fin:(∀b∈[e,it],Kc X pins (upd H s.heap.objs.size (.tup [.int (i:Nat),x])) b)->(∀b o,b∉[e,it]->(s.heap.push { cls:=.type "tuple",data:=.seq #[.int (i:Nat) s.toks,u] }).get? b=some o->h2.get? b=some o)->
     Inv X pins σ (upd H s.heap.objs.size (.tup [.int (i:Nat),x])) { s with heap:=h2,toks:=s.toks+1 }:=λa1 a2=>Inv.turnedL (s:={ s with heap:=s.heap.push { cls:=.type "tuple",data:=.seq #[.int (i:Nat) s.toks,u] } }) (h':=h2) (t':=s.toks+1) (ch:=[e,it]) I1 a1 a2
   refine fin (λb hb=>?_) λb o hb e0=>?_
   ·obtain⟨f0,f⟩:=hf b hb
    exact⟨by rw [Ze (WT (lt b hb))];exact f0,f⟩
   ·simp only [Wx,WM,or_false,not_or] at hb
    by_cases q:b=s.heap.objs.size
    ·subst q
     rw [Wt _ rfl] at e0;cases e0;exact new2
    ·rw [Heap.get?_push_ne _ _ _ q] at e0
     exact hs2.extBut b o hb.1 (hk1 b o hb.1 hb.2 e0)
  ·rw [t1] at h
   cases h;exact hx
  ·have:((i+1:Nat):Int)=(i:Int)+1:=by push_cast;rfl
   rw [this];exact he2
  ·obtain⟨o,e1,e2⟩:=hit1
   exact⟨o,hs2.extBut _ _ (Ne.symm d) e1,e2⟩
  ·rw [Ze (WT (lt b hb))]
   exact (hf b hb).1
 done:=by
  intro X hP hw hK hc i pins s σ H E I hf st hg;subst hP hw hK;obtain⟨xs,t1,hend⟩:=hg
  obtain⟨⟨old,he⟩,hit⟩:=st
  obtain⟨its,r1,pl,_⟩:=I.list (.of t1)
  have hh:X.A.handled=none:=I.ok.hd hc
  refine wpAny_pyNext_enum_end hh he hit pl.isList (by rw [W02,List.getElem?_eq_none];rw [<-r1.length];omega) λh' kept=>⟨rfl,?_⟩
  have fin:(∀b o,b∉[e,it]->s.heap.get? b=some o->h'.get? b=some o)->Inv X pins σ H { s with heap:=h',toks:=s.toks }:=λa=>I.turnedL hf a
  refine fin λb o hb e0=>?_
  simp only [Wx,WM,or_false,not_or] at hb
  exact kept b o hb.2 e0
 self:=λ_ _ _ _ _ st h=>by
  obtain⟨⟨old,he⟩,_⟩:=st
  exact wpAny_pyIter_enum he h
section
variable {X:Cx} {e1:Expr} {p pos:Pos}
def OI (ta:TA):TI:=λσ H R=>ta σ H λvs H1=>∃l xs,vs=[.ref l]/\H1 l=some (.lst xs)/\R (Ite l) H1
theorem Es {elts:List Expr}{kt:Nat}{pt:Pos}{ta:TA}(hg:Gl X "enumerate")(hm:X.mg "enumerate" = none)(hv:WG "enumerate" = some (.type "enumerate"))(ha:PA X [e1] ta)
  (he:Ws [e1] X.env=(false,eval e1 X.env) :: Ws [] X.env:=by rfl) (hpl:(backTo pos (Ws [] X.env)).any (·.1)=false:=by rfl) :
  PI X (.Tuple elts kt pt) (.Call (.Name "enumerate" p) [e1] [] pos) (OI ta):=by
 intro pins s σ H R I h;refine Vx (UG I hg hm hv ?_ (by decide) (by decide))
 refine VH (thn (ha pos pins s σ H _ I h) λus s1 ⟨vs,H1,I1,r1,l,xs,ev,t1,q⟩=>?_) he hpl
 subst ev;cases r1 with
 |cons ru rr=>
  cases rr;cases ru;obtain⟨its,_,pl,_⟩:=I1.list (.of t1)
  refine call_enumerate_list pl.isList λh' hE hI hsz hk=>?_
  refine wpAny_pyIter_enum (s:={ s1 with heap:=h' }) hE ?_
  refine⟨_,_,_,_,H1,rfl,I1.kept (t':=s1.toks) hk,Kp (l:=l) (Nat.succ_ne_self _),⟨⟨_,hE⟩,hI⟩,λb hb=>?_,q⟩
  have hb':s1.heap.objs.size<=b:=by
   simp only [Wx,WM,or_false] at hb
   rcases hb with rfl|rfl<;>omega
  exact I1.fpOk hb' (I1.hok.fresh hb')
end
end L2
namespace DL
open PySem PySem.Spec PyProof.Rows L2
section
variable {X:Cx} {e a b c:Expr} {es:List Expr} {pos:Pos}
def Bu (ds:List D):List D:=ds.mapIdx λi d=>.tup [.int (i:Nat),d]
def Rp (ma:M D):M ItD:=λen S=>(ma en S).bind λp=>match p.1 with
 | .ref n=>match p.2[n]? with
  |some (.lst ds)=>some ((Bu ds,.zl [(n,ds)]),p.2)
  |_=>none
 |_=>none
theorem Lz {K:W3}{ρ0:List Addr}{H0:Hp}{l:Addr}{n:Nat}{ds:List D}(h:ρ0[n]? = some l):ItR K ρ0 H0 (Ite l) (Bu ds) (.zl [(n,ds)]):=by
 intro ρ H S X1 R g;obtain⟨vs,t1,d1⟩:=Ti R (X1.pre n l h) (g (n,ds) WC)
 refine⟨λi d hd=>?_,vs,t1,?_⟩
 ·unfold Bu at hd
  rw [W0R] at hd;obtain⟨q,q1,q2⟩:=Wh.mp hd
  obtain⟨x,x1,x2⟩:=d1.get q1
  refine⟨⟨vs,x,t1,x1⟩,λv H' hy=>?_⟩
  obtain⟨p,x',rfl,hn,rfl,e1⟩:=hy
  have e1:=e1 _ t1
  rw [x1] at e1;cases e1;subst q2;exact⟨Ext.new hn,R.new hn,.tup Z6 ((DsR.cons (by unfold DR;rfl) (.cons x2 .nil)).up (Ext.new hn))⟩
 ·have l1:=d1.length
  unfold Bu;rw [List.length_mapIdx];omega
theorem E6 {elts:List Expr}{kt:Nat}{pt p:Pos}{ma:M D}(ha:SE X a ma)(hg:Gl X "enumerate")(hm:X.mg "enumerate" = none)(hv:WG "enumerate" = some (.type "enumerate"))
  (he:Ws [a] X.env=(false,eval a X.env) :: Ws [] X.env:=by rfl) :
  SI X (.Tuple elts kt pt) (.Call (.Name "enumerate" p) [a] [] pos) (Rp ma):=by
 refine NY (Es hg hm hv (ZS ha YI he) he) ?_
 rintro σ H Q ⟨ρ,en,S,r,S',E,R,e,k⟩
 unfold Rp at e;obtain⟨⟨d,S1⟩,e1,e⟩:=W1.mp e
 cases d with
 |ref n=>
  dsimp only at e;split at e
  ·rename_i ds hn
   cases e;refine⟨ρ,en,S,.ref n,_,E,R,e1,λu ρ1 H1 X1 R1 d1=>?_⟩
   obtain⟨l,a1,rfl⟩:=d1.of_ref
   obtain⟨xs,x1,x2⟩:=Ti R1 a1 hn
   exact⟨l,xs,rfl,x1,k _ ρ1 H1 X1 R1 (Lz a1) trivial⟩
  ·cases e
 |_=>cases e
end
end DL
namespace K07
open PySem PySem.Spec PyProof.Rows L2 DL
def top (i:Nat):Stmt:=PySem.Challenge.pw_twinshelves_k07_one_house.main.body.getD i (.Pass ⟨0,0,0,0⟩)
def mth:Stmt->Nat->Stmt
 | .ClassDef _ _ _ b _ _ _ _ _ _ _,j=>b.getD j (.Pass ⟨0,0,0,0⟩)
 |s,_=>s
abbrev Y7:Stmt:=mth (top 18) 0
abbrev Qk:Stmt:=top 20
abbrev Qd:Stmt:=top 21
abbrev ZQ:Stmt:=mth (top 18) 1
abbrev Y0:Stmt:=mth (top 18) 2
abbrev ZZ:Stmt:=mth (top 18) 10
abbrev Yk:Stmt:=top 13
abbrev Zk:Stmt:=mth (top 18) 12
abbrev Zc:Stmt:=mth (top 18) 13
abbrev Y9:Stmt:=mth (top 18) 14
abbrev ZY:Stmt:=mth (top 18) 15
abbrev Za:Stmt:=mth (top 18) 11
abbrev ZE:Stmt:=mth (top 18) 16
abbrev YR:Stmt:=top 24
abbrev QV:Stmt:=top 25
abbrev ZO:Stmt:=top 26
abbrev Zf:Stmt:=top 9
abbrev YY:Stmt:=top 10
abbrev Zq:Stmt:=top 16
abbrev YX:Stmt:=top 11
abbrev Zp:Stmt:=top 17
abbrev Zh:Stmt:=mth (top 18) 4
abbrev Y6:Stmt:=mth (top 18) 5
abbrev Zx:Stmt:=top 14
abbrev Zu:Stmt:=mth (top 18) 9
abbrev ZX:Stmt:=mth (top 18) 6
abbrev ZP:Stmt:=mth (top 18) 7
abbrev Y8:Stmt:=mth (top 18) 8
abbrev Q8:Stmt:=top 22
abbrev Q7:Stmt:=top 23
abbrev QA:Stmt:=top 27
abbrev U7:Stmt:=top 28
theorem nd0:(["self", "number"]:List Str).Nodup:=by decide +kernel
theorem nd1:(["_law_script", "_law_k"]:List Str).Nodup:=by decide +kernel
theorem nd2:(["_law_cell_here", "_law_prime", "_law_many"]:List Str).Nodup:=by decide +kernel
theorem nd3:(["self"]:List Str).Nodup:=by decide +kernel
theorem nd4:(["self", "which"]:List Str).Nodup:=by decide +kernel
theorem nd5:(["file"]:List Str).Nodup:=by decide +kernel
theorem nd6:(["which", "self"]:List Str).Nodup:=by decide +kernel
theorem nd7:(["self", "which", "file"]:List Str).Nodup:=by decide +kernel
theorem nd8:(["_law_found", "_law_due_here"]:List Str).Nodup:=by decide +kernel
theorem nd9:(["_law_one", "_law_other"]:List Str).Nodup:=by decide +kernel
theorem HW:(["_law_number", "_law_which", "_law_file", "_law_first", "_law_last", "_law_names", "_law_texts"]:List Str).Nodup:=by decide +kernel
theorem CC:(["_law_house", "_law_number", "_law_many", "_law_files", "_law_live", "_law_which", "_law_turn", "_law_gone"]:List Str).Nodup:=by decide +kernel
theorem Ox:(["_law_which", "_law_files"]:List Str).Nodup:=by decide +kernel
theorem Z0l:(["text", "least", "greatest"]:List Str).Nodup:=by decide +kernel
theorem Z0k:(["sign", "least", "greatest"]:List Str).Nodup:=by decide +kernel
theorem Di:(["thing"]:List Str).Nodup:=by decide +kernel
theorem X6:(["self", "name", "text", "mark"]:List Str).Nodup:=by decide +kernel
theorem Ow:(["known", "other", "counts", "mark"]:List Str).Nodup:=by decide +kernel
theorem Z0j:(["self", "file", "mark", "names", "texts"]:List Str).Nodup:=by decide +kernel
theorem Ov:(["self", "which", "text", "file", "mark"]:List Str).Nodup:=by decide +kernel
theorem Ou:(["self", "which", "name", "file", "mark"]:List Str).Nodup:=by decide +kernel
theorem HV:(["_law_cell_here", "_law_letters", "_law_many"]:List Str).Nodup:=by decide +kernel
theorem Z0i:(["_law_k", "_law_cell_here", "_law_letters"]:List Str).Nodup:=by decide +kernel
theorem HU:(["_law_cell_here", "_law_signs", "_law_many"]:List Str).Nodup:=by decide +kernel
theorem Z0h:(["_law_k", "_law_cell_here", "_law_signs"]:List Str).Nodup:=by decide +kernel
theorem Py:(["_law_house", "_law_number", "_law_many", "_law_files", "_law_cell_here", "_law_kind", "_law_mark", "_law_name_here", "_law_text_here", "_law_live", "_law_which", "_law_first", "_law_last", "_law_names", "_law_texts"]:List Str).Nodup:=by decide +kernel
theorem Px:(["_law_script", "_law_number", "_law_house", "_law_files", "_law_many", "_law_kinds", "_law_k", "_law_kind"]:List Str).Nodup:=by decide +kernel
theorem Z0g:(["_law_k", "_law_script"]:List Str).Nodup:=by decide +kernel
theorem Z0f:(["_law_k"]:List Str).Nodup:=by decide +kernel
theorem BH:WG "all" = some (.builtin "all"):=by decide +kernel
theorem Ji:WG "bool" = some (.type "bool"):=by decide +kernel
theorem K9:WG "dict" = some (.type "dict"):=by decide +kernel
theorem UW:WG "enumerate" = some (.type "enumerate"):=by decide +kernel
theorem Pq:WG "int" = some (.type "int"):=by decide +kernel
theorem Zr:WG "isinstance" = some (.builtin "isinstance"):=by decide +kernel
theorem YC:WG "len" = some (.builtin "len"):=by decide +kernel
theorem Pp:WG "max" = some (.builtin "max"):=by decide +kernel
theorem U6:WG "sorted" = some (.builtin "sorted"):=by decide +kernel
theorem UV:WG "str" = some (.type "str"):=by decide +kernel
theorem Yt:WG "tuple" = some (.type "tuple"):=by decide +kernel
theorem Po:WG "zip" = some (.type "zip"):=by decide +kernel
structure Txt (K:W3) (mg:Str->Option Value) (C_House:Addr):Prop where
 k_House:ClsD K "House" C_House
 g_House:mg "House" = some (.ref C_House)
 na_House_acts:Qo K C_House "acts"
 na_House_files:Qo K C_House "files"
 na_House_own_number:Qo K C_House "own_number"
 na_House_told:Qo K C_House "told"
 n_all:mg "all" = none
 n_bool:mg "bool" = none
 n_dict:mg "dict" = none
 n_enumerate:mg "enumerate" = none
 n_int:mg "int" = none
 n_isinstance:mg "isinstance" = none
 n_len:mg "len" = none
 n_max:mg "max" = none
 n_range:mg "range" = none
 n_sorted:mg "sorted" = none
 n_str:mg "str" = none
 n_tuple:mg "tuple" = none
 n_zip:mg "zip" = none
 c_LONGEST_NAME:∃t,mg "LONGEST_NAME" = some (.int 6 t)
 c_LONGEST_TEXT:∃t,mg "LONGEST_TEXT" = some (.int 60 t)
abbrev QZ:MS:=(Ya (JP "House" "own_number" (Z4 1) (Z4 0)) (Ya (JP "House" "acts" (Zn (D.int (0))) (Z4 0)) (Ya (JP "House" "files" Rm (Z4 0)) (JP "House" "told" Rm (Z4 0)))))
def Yf:List D->Sto->Option (D×Sto):=QB 2 2 QZ
abbrev Lp:MS:=(Ya (JE (mT (mOp gLt (Z4 1) (N9 (Z4 0)))) (Ql (mOp gIx (Z4 0) (Z4 1))) mNx) (Ql (Zn (D.int (0)))))
def Yh:List D->Sto->Option (D×Sto):=QB 2 2 Lp
abbrev EK:MS:=(Ql (mOp K4 (mOp K4 (mOp P5 (Z4 0) (Zn (D.int (48271)))) (Z4 1)) (Z4 2)))
def ZV:List D->Sto->Option (D×Sto):=QB 3 3 EK
abbrev T9:MS:=(Ql (Nc "House" "own_number" (Z4 0)))
def Yo:List D->Sto->Option (D×Sto):=QB 1 1 T9
abbrev G4:MS:=(Ql (Nc "House" "acts" (Z4 0)))
def YF:List D->Sto->Option (D×Sto):=QB 1 1 G4
abbrev B4:MS:=(Ya (JE (mT (mOp Bs (Z4 1) (Nc "House" "files" (Z4 0)))) Rk mNx) (Ql (mOp gIx (Nc "House" "files" (Z4 0)) (Z4 1))))
def Yg:List D->Sto->Option (D×Sto):=QB 2 2 B4
abbrev Rj:MS:=(Ql (mOp gEq (N9 (mOp gIx (Z4 0) (Zn (D.int (4))))) (Zn (D.int (0)))))
def YD:List D->Sto->Option (D×Sto):=QB 1 1 Rj
def Ys:M D:=(mOp gIx (Nc "House" "files" (Z4 1)) (Z4 0))
abbrev JO:MS:=(Ql (QS (Qg (QT (QS (Rl (Nc "House" "files" (Z4 0))))) 1 [0] (gN 0) QR Ys)))
def ZB:List D->Sto->Option (D×Sto):=QB 1 1 JO
def Y4:M Bool:=(Gt (Uc (ZK YD (Z2 (Z4 0) Zo))))
def Y3:M D:=(Z4 0)
abbrev QQ:MS:=(Ql (QS (Qg (QT (Yw "House" "all_files" ZB (Z4 0) Zo)) 1 [] (gN 0) Y4 Y3)))
def ZA:List D->Sto->Option (D×Sto):=QB 1 1 QQ
def QH:M D:=(mOp gIx (Z4 0) (Zn (D.int (0))))
abbrev N7:MS:=(Ql (N8 (Qg (QT (Yw "House" "files_on_shelf" ZA (Z4 0) Zo)) 1 [] (gN 0) QR QH)))
def YQ:List D->Sto->Option (D×Sto):=QB 1 1 N7
def Qs:M Bool:=(Uc (ZK YD (Z2 (Z4 0) Zo)))
def Qr:M D:=(mOp gIx (Z4 0) (Zn (D.int (0))))
abbrev B3:MS:=(Ql (N8 (Qg (QT (Yw "House" "all_files" ZB (Z4 0) Zo)) 1 [] (gN 0) Qs Qr)))
def Yv:List D->Sto->Option (D×Sto):=QB 1 1 B3
abbrev J0:MS:=(Ya (Q5 (Yw "House" "file" Yg (Z4 0) (Z2 (Z4 1) Zo)) (gN 2)) (Ya (JE (Uc (ZK YD (Z2 (Z4 2) Zo))) Rk mNx) (Ql (Z4 2))))
def Zb:List D->Sto->Option (D×Sto):=QB 3 2 J0
abbrev Uz:MS:=(Ql (mOp gIx (mOp gIx (mOp gIx (Yw "House" "file_on_shelf" Zb (Z4 0) (Z2 (Z4 1) Zo)) (Zn (D.int (4)))) (Zn (D.int (-1)))) (Zn (D.int (1)))))
def Ye:List D->Sto->Option (D×Sto):=QB 2 2 Uz
abbrev QC (Fr:List D->Sto->Option (D×Sto)):MS:=(Ya (JE (Uc (Kg "tuple" (Z4 1))) (Ya (JE (mOr (Gt (Uc (Kg "tuple" (Z4 0)))) (mT (mOp gNe (N9 (Z4 0)) (N9 (Z4 1))))) (Ql (Zn (D.bl false))) mNx) (Ql (CF (Qg (HZ (Z4 0) (Z4 1)) 2 [] (gT 2 (Yj (gN 0) (Yj (gN 1) Gj))) QR (ZK Fr (Z2 (Z4 0) (Z2 (Z4 1) Zo))))))) mNx) (Ya (JE (mT (mOp gIs (Z4 1) (Zn D.non))) (Ql (mOp gIs (Z4 0) (Zn D.non))) mNx) (Ya (JE (mOr (Uc (Kg "bool" (Z4 1))) (Uc (Kg "bool" (Z4 0)))) (Ql (Kf (Kg "bool" (Z4 1)) (Kf (Kg "bool" (Z4 0)) (mOp gEq (Z4 0) (Z4 1))))) mNx) (Ql (Kf (Rn "int" "str" (Z4 0)) (mOp gEq (Z4 0) (Z4 1)))))))
def ZI:Nat->List D->Sto->Option (D×Sto)
 |0=>λ_ _=>none
 |k+1=>QB 2 2 (QC (ZI k))
abbrev N5:MS:=(Ya (Q5 (Z4 2) (gT 4 (Yj (gN 3) (Yj (gN 4) (Yj (gN 5) (Yj (gN 6) Gj)))))) (Ql (YG (Z2 (Z4 1) (Z2 (Z4 3) (Z2 (YG (Z2 (YG (Z2 (Z4 0) (Z2 (Z4 4) Zo))) Zo)) (Z2 (Z4 5) (Z2 (Z4 6) Zo))))))))
def UZ:List D->Sto->Option (D×Sto):=QB 7 3 N5
def YW:M Bool:=(Uc (mOp gIx (mOp gIx (Z4 1) (Z4 0)) (Zn (D.int (3)))))
def YU:M D:=(Z4 0)
def Qt:MS:=(JE (Gt (Uc (ZK (ZI 12) (Z2 (Yw "House" "file" Yg (Z4 0) (Z2 (Z4 5) Zo)) (Z2 (ZK UZ (Z2 (Z4 1) (Z2 (Z4 5) (Z2 (mOp gIx (Z4 3) (Z4 5)) Zo)))) Zo))))) (Ql (Zn (D.bl false))) mNx)
def Ym:MS:=(Ro (Tb (Zn (D.int (2)))) (gN 6) Qt)
def Yl:MS:=(JE (Gt (Uc (ZK (ZI 12) (Z2 (Yw "House" "text_of" Ye (Z4 0) (Z2 (Z4 5) Zo)) (Z2 (mOp gIx (mOp gIx (mOp gIx (mOp gIx (Z4 3) (Z4 5)) (Zn (D.int (3)))) (Zn (D.int (0)))) (Zn (D.int (1)))) Zo))))) (Ql (Zn (D.bl false))) mNx)
def YV:M Bool:=(Gt (Uc (mOp gIx (mOp gIx (Z4 1) (Z4 0)) (Zn (D.int (3))))))
def YT:M D:=(Z4 0)
abbrev QY:MS:=(Ya (Q5 (QS (Qg (QT (Z4 3)) 1 [3] (gN 0) YW YU)) (gN 4)) (Ya (JE (mOr (Gt (Uc (ZK (ZI 12) (Z2 (Yw "House" "number" Yo (Z4 0) Zo) (Z2 (Z4 1) Zo))))) (Gt (Uc (ZK (ZI 12) (Z2 (Yw "House" "count" YF (Z4 0) Zo) (Z2 (Z4 2) Zo)))))) (Ql (Zn (D.bl false))) mNx) (Ya (Ro (QT (Z4 3)) (gN 5) Ym) (Ya (Ro (QT (Z4 4)) (gN 5) Yl) (Ya (Q5 (QS (Qg (QT (Z4 3)) 1 [3] (gN 0) YV YT)) (gN 7)) (Ql (Kf (ZK (ZI 12) (Z2 (Yw "House" "ids" YQ (Z4 0) Zo) (Z2 (MT (Z4 4)) Zo))) (ZK (ZI 12) (Z2 (Yw "House" "gone" Yv (Z4 0) Zo) (Z2 (MT (Z4 7)) Zo))))))))))
def Yu:List D->Sto->Option (D×Sto):=QB 8 4 QY
def Q1:M D:=(UC gLe gLe (Z4 1) (Z4 0) (Z4 2))
abbrev Ju:MS:=(Ql (CF (Qg (QT (Z4 0)) 1 [1,2] (gN 0) QR Q1)))
def Zs:List D->Sto->Option (D×Sto):=QB 3 3 Ju
abbrev Ri:MS:=(Ql (Kf (Kg "str" (Z4 0)) (Kf (UC gLe gLe (Zn (D.int (1))) (N9 (Z4 0)) (Zn (D.int 6))) (ZK Zs (Z2 (Z4 0) (Z2 (Zn (D.str (Wp "a"))) (Z2 (Zn (D.str (Wp "z"))) Zo)))))))
def J9:List D->Sto->Option (D×Sto):=QB 1 1 Ri
abbrev U9:MS:=(JE (Gt (Uc (ZK J9 (Z2 (Z4 0) Zo)))) Rk mNx)
def ZM:List D->Sto->Option (D×Sto):=QB 1 1 U9
abbrev Rh:MS:=(Ql (Kf (Kg "str" (Z4 0)) (Kf (mOp gLe (N9 (Z4 0)) (Zn (D.int 60))) (ZK Zs (Z2 (Z4 0) (Z2 (Zn (D.str (Wp " "))) (Z2 (Zn (D.str (Wp "~"))) Zo)))))))
def J8:List D->Sto->Option (D×Sto):=QB 1 1 Rh
abbrev U8:MS:=(JE (Gt (Uc (ZK J8 (Z2 (Z4 0) Zo)))) Rk mNx)
def ZL:List D->Sto->Option (D×Sto):=QB 1 1 U8
abbrev YM:MS:=(Ya (UA "House" "acts" (Zn (D.int (1))) (Z4 0)) (Ql (YG (Z2 (Nc "House" "own_number" (Z4 0)) (Z2 (Nc "House" "acts" (Z4 0)) Zo)))))
def Zi:List D->Sto->Option (D×Sto):=QB 1 1 YM
abbrev B0:MS:=(Ya (UB (ZK ZM (Z2 (Z4 1) Zo))) (Ya (UB (ZK ZL (Z2 (Z4 2) Zo))) (Ya (Q5 (Yw "House" "next_mark" Zi (Z4 0) Zo) (gN 3)) (Ya (YB (YG (Z2 (Z4 3) (Z2 (Z4 1) (Z2 (YG (Z2 (Z4 3) Zo)) (Z2 (YG Zo) (Z2 (YG (Z2 (YG (Z2 (Z4 3) (Z2 (Z4 2) Zo))) Zo)) Zo)))))) (Nc "House" "files" (Z4 0)) (Z4 3)) (Ql (Z4 3))))))
def Q3:List D->Sto->Option (D×Sto):=QB 4 3 B0
def Qn:MS:=(YB (EL CJ (mOp gIx (Z4 3) (Zn (D.int (1)))) (Nb (Z4 2) (mOp gIx (Z4 3) (Zn (D.int (0)))) (mOp gIx (Z4 3) (Zn (D.int (1)))))) (Z4 2) (mOp gIx (Z4 3) (Zn (D.int (0)))))
abbrev Ub:MS:=(Ya (Q5 (B6 (Z4 0)) (gN 2)) (Ya (Ro (QT (Z4 1)) (gN 3) Qn) (Ql (N8 (Th (Z4 2))))))
def ZW:List D->Sto->Option (D×Sto):=QB 4 2 Ub
abbrev Ta:MS:=(YB (YG (Z2 (mOp gIx (Z4 1) (Zn (D.int (0)))) (Z2 (mOp gIx (Z4 1) (Zn (D.int (1)))) (Z2 (ZK ZW (Z2 (mOp gIx (Z4 1) (Zn (D.int (2)))) (Z2 (YG (Z2 (Z4 2) Zo)) Zo))) (Z2 (Z4 3) (Z2 (Z4 4) Zo)))))) (Nc "House" "files" (Z4 0)) (mOp gIx (Z4 1) (Zn (D.int (0)))))
def Zm:List D->Sto->Option (D×Sto):=QB 5 5 Ta
abbrev G3:MS:=(Ya (Q5 (Yw "House" "file_on_shelf" Zb (Z4 0) (Z2 (Z4 1) Zo)) (gN 3)) (Ya (UB (ZK ZL (Z2 (Z4 2) Zo))) (Ya (Q5 (Yw "House" "next_mark" Zi (Z4 0) Zo) (gN 4)) (UB (Yw "House" "change" Zm (Z4 0) (Z2 (Z4 3) (Z2 (Z4 4) (Z2 (mOp gIx (Z4 3) (Zn (D.int (3)))) (Z2 (YG (Z2 (YG (Z2 (Z4 4) (Z2 (Z4 2) Zo))) Zo)) Zo)))))))))
def YE:List D->Sto->Option (D×Sto):=QB 5 3 G3
abbrev T8:MS:=(Ya (Q5 (Yw "House" "file_on_shelf" Zb (Z4 0) (Z2 (Z4 1) Zo)) (gN 3)) (Ya (UB (ZK ZM (Z2 (Z4 2) Zo))) (Ya (Q5 (Yw "House" "next_mark" Zi (Z4 0) Zo) (gN 4)) (UB (Yw "House" "change" Zm (Z4 0) (Z2 (Z4 3) (Z2 (Z4 4) (Z2 (YG (Z2 (YG (Z2 (Z4 4) (Z2 (Z4 2) Zo))) Zo)) (Z2 (mOp gIx (Z4 3) (Zn (D.int (4)))) Zo)))))))))
def Yn:List D->Sto->Option (D×Sto):=QB 5 3 T8
abbrev B5:MS:=(Ya (Q5 (Yw "House" "file_on_shelf" Zb (Z4 0) (Z2 (Z4 1) Zo)) (gN 2)) (UB (Yw "House" "change" Zm (Z4 0) (Z2 (Z4 2) (Z2 (Yw "House" "next_mark" Zi (Z4 0) Zo) (Z2 (YG Zo) (Z2 (YG Zo) Zo)))))))
def Q4:List D->Sto->Option (D×Sto):=QB 3 2 B5
def JT:M D:=(mOp gIx (Z4 2) (ZK ZV (Z2 (mOp Ue (Z4 1) (mOp P5 (Zn (D.int (7))) (Z4 0))) (Z2 (Zn (D.int (9967))) (Z2 (N9 (Z4 2)) Zo)))))
abbrev Lo:MS:=(Ya (Q5 (Zn (D.str (Wp "abcdefghijklmnopqrstuvwxyz"))) (gN 1)) (Ya (Q5 (mOp Ue (Zn (D.int (1))) (ZK ZV (Z2 (Z4 0) (Z2 (Zn (D.int (9973))) (Z2 (Zn (D.int (6))) Zo))))) (gN 2)) (Ya (JE (mT (mOp gEq (mOp K4 (Z4 0) (Zn (D.int (3)))) (Zn (D.int (0))))) (Ya (Q5 (Zn (D.str (Wp "ab"))) (gN 1)) (Q5 (mOp Ue (Zn (D.int (1))) (mOp K4 (Z4 2) (Zn (D.int (2))))) (gN 2))) mNx) (Ql (Na (Zn (D.str (Wp ""))) (Qg (Tb (Z4 2)) 1 [0,1] (gN 0) QR JT))))))
def QK:List D->Sto->Option (D×Sto):=QB 3 1 Lo
def Jh:M D:=(mOp gIx (Z4 2) (ZK ZV (Z2 (mOp Ue (Z4 1) (mOp P5 (Zn (D.int (7))) (Z4 0))) (Z2 (Zn (D.int (9923))) (Z2 (N9 (Z4 2)) Zo)))))
abbrev Ln : MS := (Ya (Q5 (Zn (D.str (Wp " !\"#$&'()*+,-./0123456789:;<=>?\x40ABCDEFGHIJKLMNOPQRSTUVWXYZ[\\]^_`abcdefghijklmnopqrstuvwxyz{|}~"))) (gN 1)) (Ya (Q5 (ZK ZV (Z2 (Z4 0) (Z2 (Zn (D.int (9949))) (Z2 (Zn (D.int (5))) Zo)))) (gN 2)) (Ya (JE (mT (mOp gEq (ZK ZV (Z2 (Z4 0) (Z2 (Zn (D.int (9941))) (Z2 (Zn (D.int (9))) Zo)))) (Zn (D.int (0))))) (Q5 (Zn (D.int (60))) (gN 2)) mNx) (Ya (JE (mT (mOp gEq (ZK ZV (Z2 (Z4 0) (Z2 (Zn (D.int (9941))) (Z2 (Zn (D.int (9))) Zo)))) (Zn (D.int (1))))) (Q5 (ZK ZV (Z2 (Z4 0) (Z2 (Zn (D.int (9931))) (Z2 (Zn (D.int (61))) Zo)))) (gN 2)) mNx) (Ya (JE (mT (mOp gEq (mOp K4 (Z4 0) (Zn (D.int (4)))) (Zn (D.int (0))))) (Ql (mOp gIx (YG (Z2 (Zn (D.str (Wp ""))) (Z2 (Zn (D.str (Wp "a"))) (Z2 (Zn (D.str (Wp "hi;"))) Zo)))) (ZK ZV (Z2 (Z4 0) (Z2 (Zn (D.int (9929))) (Z2 (Zn (D.int (3))) Zo)))))) mNx) (Ql (Na (Zn (D.str (Wp ""))) (Qg (Tb (Z4 2)) 1 [0, 1] (gN 0) QR Jh))))))))
def Yr:List D->Sto->Option (D×Sto):=QB 3 1 Ln
def UU:M Bool:=(Uc (mOp gIx (mOp gIx (Z4 1) (Z4 0)) (Zn (D.int (3)))))
def UO:M D:=(Z4 0)
abbrev N6:MS:=(Ya (Q5 (YG (Z2 (Z4 1) (Z2 (Z4 2) Zo))) (gN 6)) (Ya (Q5 (ZK QK (Z2 (mOp Ue (Z4 4) (Zn (D.int (1)))) Zo)) (gN 7)) (Ya (Q5 (ZK Yr (Z2 (mOp Ue (Z4 4) (Zn (D.int (2)))) Zo)) (gN 8)) (Ya (Q5 (QS (Qg (QT (Z4 3)) 1 [3] (gN 0) UU UO)) (gN 9)) (Ya (JE (mOr (mT (mOp gEq (Z4 5) (Zn (D.int (0))))) (Gt (Uc (Z4 9)))) (Ya (YB (YG (Z2 (Z4 7) (Z2 (Z4 2) (Z2 (YG Zo) (Z2 (YG (Z2 (YG (Z2 (Z4 6) (Z2 (Z4 8) Zo))) Zo)) Zo))))) (Z4 3) (Z4 6)) (Ql (ZK (ZI 12) (Z2 (Yw "House" "make" Q3 (Z4 0) (Z2 (Z4 7) (Z2 (Z4 8) Zo))) (Z2 (Z4 6) Zo))))) mNx) (Ya (Q5 (mOp gIx (Z4 9) (ZK ZV (Z2 (Z4 4) (Z2 (Zn (D.int (9811))) (Z2 (N9 (Z4 9)) Zo))))) (gN 10)) (Ya (Q5 (mOp gIx (Z4 3) (Z4 10)) (gT 4 (Yj (gN 11) (Yj (gN 12) (Yj (gN 13) (Yj (gN 14) Gj)))))) (Ya (JE (mT (mOp gLt (Z4 5) (Zn (D.int (3))))) (Ya (YB (YG (Z2 (Z4 11) (Z2 (Z4 2) (Z2 (Z4 13) (Z2 (YG (Z2 (YG (Z2 (Z4 6) (Z2 (Z4 8) Zo))) Zo)) Zo))))) (Z4 3) (Z4 10)) (Ql (mOp gIs (Yw "House" "write" YE (Z4 0) (Z2 (Z4 10) (Z2 (Z4 8) Zo))) (Zn D.non)))) mNx) (Ya (JE (mT (mOp gLt (Z4 5) (Zn (D.int (5))))) (Ya (YB (YG (Z2 (Z4 11) (Z2 (Z4 2) (Z2 (YG (Z2 (YG (Z2 (Z4 6) (Z2 (Z4 7) Zo))) Zo)) (Z2 (Z4 14) Zo))))) (Z4 3) (Z4 10)) (Ql (mOp gIs (Yw "House" "rename" Yn (Z4 0) (Z2 (Z4 10) (Z2 (Z4 7) Zo))) (Zn D.non)))) mNx) (Ya (YB (YG (Z2 (Z4 11) (Z2 (Z4 2) (Z2 (YG Zo) (Z2 (YG Zo) Zo))))) (Z4 3) (Z4 10)) (Ql (mOp gIs (Yw "House" "drop" Q4 (Z4 0) (Z2 (Z4 10) Zo)) (Zn D.non)))))))))))))
def T0:List D->Sto->Option (D×Sto):=QB 15 6 N6
def Gm:M D:=(ZK ZV (Z2 (mOp Ue (ZK Yh (Z2 (Z4 1) (Z2 (mOp K4 (Z4 0) (Zn (D.int (9)))) Zo))) (Z4 0)) (Z2 (Zn (D.int (9791))) (Z2 (Zn (D.int (6))) Zo))))
def Nv:M D:=(Zn (D.int (1)))
def Gq:MS:=(Ya (Q5 (mOp Ue (Z4 4) (Zn (D.int (1)))) (gN 4)) (Ya (JE (Gt (Uc (ZK T0 (Z2 (Z4 2) (Z2 (Z4 1) (Z2 (Z4 4) (Z2 (Z4 3) (Z2 (mOp Ue (ZK Yh (Z2 (Z4 0) (Z2 (mOp K4 (Z4 6) (Zn (D.int (9)))) Zo))) (mOp P5 (Zn (D.int (101))) (Z4 6))) (Z2 (Z4 7) Zo))))))))) (Ql (Zn (D.bl false))) mNx) (JE (Gt (Uc (ZK Yu (Z2 (Z4 2) (Z2 (Z4 1) (Z2 (Z4 4) (Z2 (Z4 3) Zo))))))) (Ql (Zn (D.bl false))) mNx)))
abbrev EJ:MS:=(Ya (Q5 (ZK ZV (Z2 (ZK Yh (Z2 (Z4 0) (Z2 (Zn (D.int (0))) Zo))) (Z2 (Zn (D.int (9803))) (Z2 (Zn (D.int (6))) Zo)))) (gN 1)) (Ya (Q5 (MV "House" Yf (Z2 (Z4 1) Zo)) (gN 2)) (Ya (Q5 Rm (gN 3)) (Ya (Q5 (Zn (D.int (0))) (gN 4)) (Ya (JE (Gt (Uc (ZK Yu (Z2 (Z4 2) (Z2 (Z4 1) (Z2 (Z4 4) (Z2 (Z4 3) Zo))))))) (Ql (Zn (D.bl false))) mNx) (Ya (Q5 (QS (Qg (Tb (Zn (D.int (10)))) 1 [0] (gN 0) QR Gm)) (gN 5)) (Ya (JE (mT (mOp gEq (mOp K4 (ZK Yh (Z2 (Z4 0) (Z2 (Zn (D.int (1))) Zo))) (Zn (D.int (4)))) (Zn (D.int (0))))) (Q5 (mOp Ue (mOp Ue (CD (Z2 (Zn (D.int (0))) Zo)) (QS (Qg (Tb (Zn (D.int (9)))) 1 [] (gN 0) QR Nv))) (mSl (Z4 5) G5 (MU (Zn (D.int (4)))))) (gN 5)) mNx) (Ya (Ro (Rp (Z4 5)) (gT 2 (Yj (gN 6) (Yj (gN 7) Gj))) Gq) (Ql (Zn (D.bl true)))))))))))
def F_law:List D->Sto->Option (D×Sto):=QB 8 1 EJ
section
variable {P:Program} {w:World} {K:W3} {mg:Str->Option Value} {base:Heap} {C_House:Addr}
theorem XL:FnScope ["self", "number"] ["self", "number"] (Z3 Y7):=⟨rfl,rfl,rfl,nd0,rfl,by decide +kernel,by decide +kernel⟩
theorem Z05 {f_9:Addr}{fd_9:FuncData}(T:Txt K mg C_House)(O_9:OwnI K C_House "House.__init__" Y7 f_9 fd_9 ["self", "number"]):FnOk P w K mg base CX0 1 f_9 fd_9 ["self", "number"] (spD K 2 Yf):=
 Jq (k:=0) O_9.fn XL rfl rfl λcdv A outer s H E hr=>(Z7 (NL T.k_House T.na_House_own_number (sv 0) (sv 1))
   (Z7 (NL T.k_House T.na_House_acts (sv 0) Z8)
   (Z7 (NL T.k_House T.na_House_files (sv 0) BV)
   (Zd (NL T.k_House T.na_House_told (sv 0) BV)))))
theorem DK:FnScope ["_law_script", "_law_k"] ["_law_script", "_law_k"] (Z3 Qk):=⟨rfl,rfl,rfl,nd1,rfl,by decide +kernel,by decide +kernel⟩
theorem Ol {f_17:Addr}{fd_17:FuncData}(T:Txt K mg C_House)(O_17:Own K mg "_law_cell" Qk f_17 fd_17 ["_law_script", "_law_k"]):FnOk P w K mg base CX0 1 f_17 fd_17 ["_law_script", "_law_k"] (spD K 2 Yh):=
 Jq (k:=0) O_17.fn DK rfl rfl λcdv A outer s H E hr=>(Z7 (Qb (QL (R8 (YH hr)) (sv 1) (Jy (sv 0) rfl T.n_len YC) (YA _)) (Zd (Zt (Yb (YH hr) (sv 0) (sv 1)))) Yc)
   (Zd (Zt Z8)))
theorem DH:FnScope ["_law_cell_here", "_law_prime", "_law_many"] ["_law_cell_here", "_law_prime", "_law_many"] (Z3 Qd):=⟨rfl,rfl,rfl,nd2,rfl,by decide +kernel,by decide +kernel⟩
theorem Oh {f_20:Addr}{fd_20:FuncData}(T:Txt K mg C_House)(O_20:Own K mg "_law_mix" Qd f_20 fd_20 ["_law_cell_here", "_law_prime", "_law_many"]):FnOk P w K mg base CX0 1 f_20 fd_20 ["_law_cell_here", "_law_prime", "_law_many"] (spD K 3 ZV):=
 Jq (k:=0) O_20.fn DH rfl rfl λcdv A outer s H E hr=>(Zd (Zt (Qc QX (Qc QX (Qc TZ (sv 0) Z8) (sv 1)) (sv 2))))
theorem DS:FnScope ["self"] ["self"] (Z3 ZQ):=⟨rfl,rfl,rfl,nd3,rfl,by decide +kernel,by decide +kernel⟩
theorem Oq {f_12:Addr}{fd_12:FuncData}(T:Txt K mg C_House)(O_12:OwnM K C_House "number" "House.number" ZQ f_12 fd_12 ["self"]):FnOk P w K mg base CX0 1 f_12 fd_12 ["self"] (spD K 1 Yo):=
 Jq (k:=0) O_12.fn DS rfl rfl λcdv A outer s H E hr=>(Zd (Zt (Jn T.k_House T.na_House_own_number (sv 0))))
theorem XT:FnScope ["self"] ["self"] (Z3 Y0):=⟨rfl,rfl,rfl,nd3,rfl,by decide +kernel,by decide +kernel⟩
theorem Z0c {f_2:Addr}{fd_2:FuncData}(T:Txt K mg C_House)(O_2:OwnM K C_House "count" "House.count" Y0 f_2 fd_2 ["self"]):FnOk P w K mg base CX0 1 f_2 fd_2 ["self"] (spD K 1 YF):=
 Jq (k:=0) O_2.fn XT rfl rfl λcdv A outer s H E hr=>(Zd (Zt (Jn T.k_House T.na_House_acts (sv 0))))
theorem XR:FnScope ["self", "which"] ["self", "which"] (Z3 ZZ):=⟨rfl,rfl,rfl,nd4,rfl,by decide +kernel,by decide +kernel⟩
theorem Z0a {f_4:Addr}{fd_4:FuncData}(T:Txt K mg C_House)(O_4:OwnM K C_House "file" "House.file" ZZ f_4 fd_4 ["self", "which"]):FnOk P w K mg base CX0 1 f_4 fd_4 ["self", "which"] (spD K 2 Yg):=
 Jq (k:=0) O_4.fn XR rfl rfl λcdv A outer s H E hr=>(Z7 (Qb (QL (R7 (YH hr)) (sv 1) (Jn T.k_House T.na_House_files (sv 0)) (by with_unfolding_all rfl)) (Zd TH) Yc)
   (Zd (Zt (Yb (YH hr) (Jn T.k_House T.na_House_files (sv 0)) (sv 1)))))
theorem DA:FnScope ["file"] ["file"] (Z3 Yk):=⟨rfl,rfl,rfl,nd5,rfl,by decide +kernel,by decide +kernel⟩
theorem Oc {f_26:Addr}{fd_26:FuncData}(T:Txt K mg C_House)(O_26:Own K mg "is_gone" Yk f_26 fd_26 ["file"]):FnOk P w K mg base CX0 1 f_26 fd_26 ["file"] (spD K 1 YD):=
 Jq (k:=0) O_26.fn DA rfl rfl λcdv A outer s H E hr=>(Zd (Zt (U0 (JC (YH hr)) (Jy (Yb (YH hr) (sv 0) Z8) rfl T.n_len YC) Z8 (YA _))))
theorem XV:FnScope ["self"] ["self"] (Z3 Zk):=⟨rfl,rfl,rfl,nd3,rfl,by decide +kernel,by decide +kernel⟩
theorem Z0e {f_0:Addr}{fd_0:FuncData}(T:Txt K mg C_House)(O_0:OwnM K C_House "all_files" "House.all_files" Zk f_0 fd_0 ["self"]):FnOk P w K mg base CX0 1 f_0 fd_0 ["self"] (spD K 1 ZB):=
 Jq (k:=0) O_0.fn XV rfl rfl λcdv A outer s H E hr=>(Zd (Zt (BW (tgs:=["which"]) (cn:=["self"]) (caps:=[0]) rfl ⟨by decide +kernel,rfl,by decide +kernel,YO (Z3 Zk).names rfl (by decide +kernel),⟨⟨rfl,.inl rfl,rfl⟩,trivial⟩⟩ (Ut (XI (MI rfl (Xl hr) (Jn T.k_House T.na_House_files (sv 0)) rfl T.n_sorted U6))) (Y1 (by decide)) Zv (λ_ _ _ _=>(Zy (i:=0) nd6 rfl (Or.inl rfl))) (λ_ _ _ _=>JY) (λ_ _ _ _=>(Yb (YH hr) (Jn T.k_House T.na_House_files (sv 1)) (sv 0))))))
theorem XO:FnScope ["self"] ["self"] (Z3 Zc):=⟨rfl,rfl,rfl,nd3,rfl,by decide +kernel,by decide +kernel⟩
theorem Z08 {f_6:Addr}{fd_6:FuncData}(T:Txt K mg C_House)(O_6:OwnM K C_House "files_on_shelf" "House.files_on_shelf" Zc f_6 fd_6 ["self"]){f_26:Addr}{fd_26:FuncData}(O_26:Own K mg "is_gone" Yk f_26 fd_26 ["file"])(G_26:FnOk P w K mg base CX0 1 f_26 fd_26 ["file"] (spD K 1 YD)){f_0:Addr}{fd_0:FuncData}(O_0:OwnM K C_House "all_files" "House.all_files" Zk f_0 fd_0 ["self"])(G_0:FnOk P w K mg base CX0 1 f_0 fd_0 ["self"] (spD K 1 ZB)):FnOk P w K mg base CX0 2 f_6 fd_6 ["self"] (spD K 1 ZA):=
 Jq (k:=1) O_6.fn XO rfl rfl λcdv A outer s H E hr=>(Zd (Zt (BW (tgs:=["file"]) (cn:=[]) (caps:=[]) rfl ⟨by decide +kernel,rfl,by decide +kernel,YO (Z3 Zc).names rfl (by decide +kernel),trivial⟩ (Ut (Yx T.k_House (sv 0) O_0.meth G_0 (hr.mono (by omega)) O_0.b)) (Y1 (by decide)) Zv (λ_ _ _ _=>(Zy (i:=0) nd5 rfl (Or.inl rfl))) (λ_ _ _ _=>GK (Qu (ZG (Zg G_26 (hr.mono (by omega)) rfl O_26.mgf O_26.fn.kp O_26.b (Z0 (sv 0) Z5) (Z1 Z9))))) (λ_ _ _ _=>(sv 0)))))
theorem XM:FnScope ["self"] ["self"] (Z3 Y9):=⟨rfl,rfl,rfl,nd3,rfl,by decide +kernel,by decide +kernel⟩
theorem Z06 {f_8:Addr}{fd_8:FuncData}(T:Txt K mg C_House)(O_8:OwnM K C_House "ids" "House.ids" Y9 f_8 fd_8 ["self"]){f_6:Addr}{fd_6:FuncData}(O_6:OwnM K C_House "files_on_shelf" "House.files_on_shelf" Zc f_6 fd_6 ["self"])(G_6:FnOk P w K mg base CX0 2 f_6 fd_6 ["self"] (spD K 1 ZA)):FnOk P w K mg base CX0 3 f_8 fd_8 ["self"] (spD K 1 YQ):=
 Jq (k:=2) O_8.fn XM rfl rfl λcdv A outer s H E hr=>(Zd (Zt (BU (KA (tgs:=["file"]) (cn:=[]) (caps:=[]) rfl ⟨by decide +kernel,rfl,by decide +kernel,YO (Z3 Y9).names rfl (by decide +kernel),trivial⟩ (Ut (Yx T.k_House (sv 0) O_6.meth G_6 (hr.mono (by omega)) O_6.b)) (Y1 (by decide)) Zv (λ_ _ _ _=>(Zy (i:=0) nd5 rfl (Or.inl rfl))) (λ_ _ _ _=>JY) (λ_ _ _ _=>(Yb (YH hr) (sv 0) Z8))) rfl T.n_tuple Yt)))
theorem XN:FnScope ["self"] ["self"] (Z3 ZY):=⟨rfl,rfl,rfl,nd3,rfl,by decide +kernel,by decide +kernel⟩
theorem Z07 {f_7:Addr}{fd_7:FuncData}(T:Txt K mg C_House)(O_7:OwnM K C_House "gone" "House.gone" ZY f_7 fd_7 ["self"]){f_26:Addr}{fd_26:FuncData}(O_26:Own K mg "is_gone" Yk f_26 fd_26 ["file"])(G_26:FnOk P w K mg base CX0 1 f_26 fd_26 ["file"] (spD K 1 YD)){f_0:Addr}{fd_0:FuncData}(O_0:OwnM K C_House "all_files" "House.all_files" Zk f_0 fd_0 ["self"])(G_0:FnOk P w K mg base CX0 1 f_0 fd_0 ["self"] (spD K 1 ZB)):FnOk P w K mg base CX0 2 f_7 fd_7 ["self"] (spD K 1 Yv):=
 Jq (k:=1) O_7.fn XN rfl rfl λcdv A outer s H E hr=>(Zd (Zt (BU (KA (tgs:=["file"]) (cn:=[]) (caps:=[]) rfl ⟨by decide +kernel,rfl,by decide +kernel,YO (Z3 ZY).names rfl (by decide +kernel),trivial⟩ (Ut (Yx T.k_House (sv 0) O_0.meth G_0 (hr.mono (by omega)) O_0.b)) (Y1 (by decide)) Zv (λ_ _ _ _=>(Zy (i:=0) nd5 rfl (Or.inl rfl))) (λ_ _ _ _=>GK (ZG (Zg G_26 (hr.mono (by omega)) rfl O_26.mgf O_26.fn.kp O_26.b (Z0 (sv 0) Z5) (Z1 Z9)))) (λ_ _ _ _=>(Yb (YH hr) (sv 0) Z8))) rfl T.n_tuple Yt)))
theorem XQ:FnScope ["self", "which", "file"] ["self", "which"] (Z3 Za):=⟨rfl,rfl,rfl,nd7,rfl,by decide +kernel,by decide +kernel⟩
theorem Z09 {f_5:Addr}{fd_5:FuncData}(T:Txt K mg C_House)(O_5:OwnM K C_House "file_on_shelf" "House.file_on_shelf" Za f_5 fd_5 ["self", "which"]){f_26:Addr}{fd_26:FuncData}(O_26:Own K mg "is_gone" Yk f_26 fd_26 ["file"])(G_26:FnOk P w K mg base CX0 1 f_26 fd_26 ["file"] (spD K 1 YD)){f_4:Addr}{fd_4:FuncData}(O_4:OwnM K C_House "file" "House.file" ZZ f_4 fd_4 ["self", "which"])(G_4:FnOk P w K mg base CX0 1 f_4 fd_4 ["self", "which"] (spD K 2 Yg)):FnOk P w K mg base CX0 2 f_5 fd_5 ["self", "which"] (spD K 2 Zb):=
 Jq (k:=1) O_5.fn XQ rfl rfl λcdv A outer s H E hr=>(Z7 (Y5 (i:=2) nd7 rfl (Or.inl rfl) (Yy T.k_House (sv 0) O_4.meth G_4 (hr.mono (by omega)) O_4.b (Z0 (sv 1) Z5) (Z1 Z9)))
   (Z7 (Qb (ZG (Zg G_26 (hr.mono (by omega)) rfl O_26.mgf O_26.fn.kp O_26.b (Z0 (sv 2) Z5) (Z1 Z9))) (Zd TH) Yc)
   (Zd (Zt (sv 2)))))
theorem DO:FnScope ["self", "which"] ["self", "which"] (Z3 ZE):=⟨rfl,rfl,rfl,nd4,rfl,by decide +kernel,by decide +kernel⟩
theorem Oo {f_14:Addr}{fd_14:FuncData}(T:Txt K mg C_House)(O_14:OwnM K C_House "text_of" "House.text_of" ZE f_14 fd_14 ["self", "which"]){f_5:Addr}{fd_5:FuncData}(O_5:OwnM K C_House "file_on_shelf" "House.file_on_shelf" Za f_5 fd_5 ["self", "which"])(G_5:FnOk P w K mg base CX0 2 f_5 fd_5 ["self", "which"] (spD K 2 Zb)):FnOk P w K mg base CX0 3 f_14 fd_14 ["self", "which"] (spD K 2 Ye):=
 Jq (k:=2) O_14.fn DO rfl rfl λcdv A outer s H E hr=>(Zd (Zt (Yb (YH hr) (Yb (YH hr) (Yb (YH hr) (Yy T.k_House (sv 0) O_5.meth G_5 (hr.mono (by omega)) O_5.b (Z0 (sv 1) Z5) (Z1 Z9)) Z8) E8) Z8)))
theorem DF:FnScope ["_law_found", "_law_due_here"] ["_law_found", "_law_due_here"] (Z3 YR):=⟨rfl,rfl,rfl,nd8,rfl,by decide +kernel,by decide +kernel⟩
theorem HS {f_22:Addr}{fd_22:FuncData}(T:Txt K mg C_House)(O_22:Own K mg "_law_same" YR f_22 fd_22 ["_law_found", "_law_due_here"]):∀k:Nat,FnOk P w K mg base CX0 (k+1) f_22 fd_22 ["_law_found", "_law_due_here"] (spD K 2 (ZI k))
 |0=>Cf rfl
 |k+1=>by
  have Gr:=HS T O_22 k
  exact Jq O_22.fn DF rfl rfl λcdv A outer s H E hr=>(Z7 (Qb (ZG (JZ (Bn _) (sv 1) rfl T.n_isinstance Zr rfl T.n_tuple Yt)) (Z7 (Qb (Dh (PN (Qu (ZG (JZ (Bn _) (sv 0) rfl T.n_isinstance Zr rfl T.n_tuple Yt))) (NI (QL (HJ (YH hr)) (Jy (sv 0) rfl T.n_len YC) (Jy (sv 1) rfl T.n_len YC) (YA _))))) (Zd (Zt GO)) Yc)
   (Zd (Zt (F6 rfl (TK (tgs:=["_law_one", "_law_other"]) (cn:=[]) (caps:=[]) rfl ⟨by decide +kernel,rfl,by decide +kernel,YO (Z3 YR).names rfl (by decide +kernel),trivial⟩ (Hh (sv 0) (sv 1) rfl T.n_zip Po) (LJ (Tr (Y1 (by decide)) (Tr (Y1 (by decide)) RY JR Br) JR (K1 JR Br))) (Mo (Yq Zv (Yq Zv Gi))) (λ_ _ _ _=>(NZ rfl (Yp (Zy (i:=0) nd9 rfl (Or.inl rfl)) (Yp (Zy (i:=1) nd9 rfl (Or.inl rfl)) TY)))) (λ_ _ _ _=>JY) (λ_ _ _ _=>(Zg Gr (hr.mono (by omega)) rfl O_22.mgf O_22.fn.kp O_22.b (Z0 (sv 0) (Z0 (sv 1) Z5)) (Z1 (Z1 Z9))))) rfl T.n_all BH)))) Yc)
   (Z7 (Qb (QL GX (sv 1) GM (YA _)) (Zd (Zt (U0 GX (sv 0) GM (YA _)))) Yc)
   (Z7 (Qb (Dh (PN (ZG (JZ (Ul _) (sv 1) rfl T.n_isinstance Zr rfl T.n_bool Ji)) (NI (ZG (JZ (Ul _) (sv 0) rfl T.n_isinstance Zr rfl T.n_bool Ji))))) (Zd (Zt (U1 (JZ (Ul _) (sv 1) rfl T.n_isinstance Zr rfl T.n_bool Ji) (U1 (JZ (Ul _) (sv 0) rfl T.n_isinstance Zr rfl T.n_bool Ji) (GL (U0 (JC (YH hr)) (sv 0) (sv 1) (YA _))))))) Yc)
   (Zd (Zt (U1 (Ec (C7 _) (QF _) (sv 0) rfl T.n_isinstance Zr rfl T.n_int Pq rfl T.n_str UV) (GL (U0 (JC (YH hr)) (sv 0) (sv 1) (YA _)))))))))
theorem DJ:FnScope ["_law_number", "_law_which", "_law_file", "_law_first", "_law_last", "_law_names", "_law_texts"] ["_law_number", "_law_which", "_law_file"] (Z3 QV):=⟨rfl,rfl,rfl,HW,rfl,by decide +kernel,by decide +kernel⟩
theorem Oj {f_18:Addr}{fd_18:FuncData}(T:Txt K mg C_House)(O_18:Own K mg "_law_due" QV f_18 fd_18 ["_law_number", "_law_which", "_law_file"]):FnOk P w K mg base CX0 1 f_18 fd_18 ["_law_number", "_law_which", "_law_file"] (spD K 3 UZ):=
 Jq (k:=0) O_18.fn DJ rfl rfl λcdv A outer s H E hr=>(Z7 (F3 (sv 2) (NZ rfl (Yp (Zy (i:=3) HW rfl (Or.inl rfl)) (Yp (Zy (i:=4) HW rfl (Or.inl rfl)) (Yp (Zy (i:=5) HW rfl (Or.inl rfl)) (Yp (Zy (i:=6) HW rfl (Or.inl rfl)) TY))))) (Mo (Yq Zv (Yq Zv (Yq Zv (Yq Zv Gi))))))
   (Zd (Zt (ZN (Z0 (sv 1) (Z0 (sv 3) (Z0 (ZN (Z0 (ZN (Z0 (sv 0) (Z0 (sv 4) Z5))) Z5)) (Z0 (sv 5) (Z0 (sv 6) Z5)))))))))
theorem DI:FnScope ["_law_house", "_law_number", "_law_many", "_law_files", "_law_live", "_law_which", "_law_turn", "_law_gone"] ["_law_house", "_law_number", "_law_many", "_law_files"] (Z3 ZO):=⟨rfl,rfl,rfl,CC,rfl,by decide +kernel,by decide +kernel⟩
theorem Oi {f_19:Addr}{fd_19:FuncData}(T:Txt K mg C_House)(O_19:Own K mg "_law_is_right" ZO f_19 fd_19 ["_law_house", "_law_number", "_law_many", "_law_files"]){f_12:Addr}{fd_12:FuncData}(O_12:OwnM K C_House "number" "House.number" ZQ f_12 fd_12 ["self"])(G_12:FnOk P w K mg base CX0 1 f_12 fd_12 ["self"] (spD K 1 Yo)){f_2:Addr}{fd_2:FuncData}(O_2:OwnM K C_House "count" "House.count" Y0 f_2 fd_2 ["self"])(G_2:FnOk P w K mg base CX0 1 f_2 fd_2 ["self"] (spD K 1 YF)){f_4:Addr}{fd_4:FuncData}(O_4:OwnM K C_House "file" "House.file" ZZ f_4 fd_4 ["self", "which"])(G_4:FnOk P w K mg base CX0 1 f_4 fd_4 ["self", "which"] (spD K 2 Yg)){f_8:Addr}{fd_8:FuncData}(O_8:OwnM K C_House "ids" "House.ids" Y9 f_8 fd_8 ["self"])(G_8:FnOk P w K mg base CX0 3 f_8 fd_8 ["self"] (spD K 1 YQ)){f_7:Addr}{fd_7:FuncData}(O_7:OwnM K C_House "gone" "House.gone" ZY f_7 fd_7 ["self"])(G_7:FnOk P w K mg base CX0 2 f_7 fd_7 ["self"] (spD K 1 Yv)){f_14:Addr}{fd_14:FuncData}(O_14:OwnM K C_House "text_of" "House.text_of" ZE f_14 fd_14 ["self", "which"])(G_14:FnOk P w K mg base CX0 3 f_14 fd_14 ["self", "which"] (spD K 2 Ye)){f_22:Addr}{fd_22:FuncData}(O_22:Own K mg "_law_same" YR f_22 fd_22 ["_law_found", "_law_due_here"])(G_22:FnOk P w K mg base CX0 13 f_22 fd_22 ["_law_found", "_law_due_here"] (spD K 2 (ZI 12))){f_18:Addr}{fd_18:FuncData}(O_18:Own K mg "_law_due" QV f_18 fd_18 ["_law_number", "_law_which", "_law_file"])(G_18:FnOk P w K mg base CX0 1 f_18 fd_18 ["_law_number", "_law_which", "_law_file"] (spD K 3 UZ)):FnOk P w K mg base CX0 14 f_19 fd_19 ["_law_house", "_law_number", "_law_many", "_law_files"] (spD K 4 Yu):=
 Jq (k:=13) O_19.fn DI rfl rfl λcdv A outer s H E hr=>(Z7 (TJ (i:=4) CC rfl rfl (tgs:=["_law_which"]) (cn:=["_law_files"]) (caps:=[3]) rfl ⟨by decide +kernel,rfl,by decide +kernel,YO (Z3 ZO).names rfl (by decide +kernel),⟨⟨rfl,.inl rfl,rfl⟩,trivial⟩⟩ (Ut (sv 3)) (Y1 (by decide)) Zv (λ_ _ _ _=>(Zy (i:=0) Ox rfl (Or.inl rfl))) (λ_ _ _ _=>GK (ZG (Yb (YH hr) (Yb (YH hr) (sv 1) (sv 0)) Z8))) (λ_ _ _ _=>(sv 0)))
   (Z7 (Qb (Dh (PN (Qu (ZG (Zg G_22 (hr.mono (by omega)) rfl O_22.mgf O_22.fn.kp O_22.b (Z0 (Yx T.k_House (sv 0) O_12.meth G_12 (hr.mono (by omega)) O_12.b) (Z0 (sv 1) Z5)) (Z1 (Z1 Z9))))) (NI (Qu (ZG (Zg G_22 (hr.mono (by omega)) rfl O_22.mgf O_22.fn.kp O_22.b (Z0 (Yx T.k_House (sv 0) O_2.meth G_2 (hr.mono (by omega)) O_2.b) (Z0 (sv 2) Z5)) (Z1 (Z1 Z9)))))))) (Zd (Zt GO)) Yc)
   (Z7 (GH W0w rfl (Ut (sv 3)) (Zy (i:=5) CC rfl (Or.inl rfl)) Zv (Zd (GH W0w rfl (Us Z8 rfl T.n_range) (Zy (i:=6) CC rfl (Or.inl rfl)) Zv (Zd (Qb (Qu (ZG (Zg G_22 (hr.mono (by omega)) rfl O_22.mgf O_22.fn.kp O_22.b (Z0 (Yy T.k_House (sv 0) O_4.meth G_4 (hr.mono (by omega)) O_4.b (Z0 (sv 5) Z5) (Z1 Z9)) (Z0 (Zg G_18 (hr.mono (by omega)) rfl O_18.mgf O_18.fn.kp O_18.b (Z0 (sv 1) (Z0 (sv 5) (Z0 (Yb (YH hr) (sv 3) (sv 5)) Z5))) (Z1 (Z1 (Z1 Z9)))) Z5)) (Z1 (Z1 Z9))))) (Zd (Zt GO)) Yc)))))
   (Z7 (GH W0w rfl (Ut (sv 4)) (Zy (i:=5) CC rfl (Or.inl rfl)) Zv (Zd (Qb (Qu (ZG (Zg G_22 (hr.mono (by omega)) rfl O_22.mgf O_22.fn.kp O_22.b (Z0 (Yy T.k_House (sv 0) O_14.meth G_14 (hr.mono (by omega)) O_14.b (Z0 (sv 5) Z5) (Z1 Z9)) (Z0 (Yb (YH hr) (Yb (YH hr) (Yb (YH hr) (Yb (YH hr) (sv 3) (sv 5)) Z8) Z8) Z8) Z5)) (Z1 (Z1 Z9))))) (Zd (Zt GO)) Yc)))
   (Z7 (TJ (i:=7) CC rfl rfl (tgs:=["_law_which"]) (cn:=["_law_files"]) (caps:=[3]) rfl ⟨by decide +kernel,rfl,by decide +kernel,YO (Z3 ZO).names rfl (by decide +kernel),⟨⟨rfl,.inl rfl,rfl⟩,trivial⟩⟩ (Ut (sv 3)) (Y1 (by decide)) Zv (λ_ _ _ _=>(Zy (i:=0) Ox rfl (Or.inl rfl))) (λ_ _ _ _=>GK (Qu (ZG (Yb (YH hr) (Yb (YH hr) (sv 1) (sv 0)) Z8)))) (λ_ _ _ _=>(sv 0)))
   (Zd (Zt (U1 (Zg G_22 (hr.mono (by omega)) rfl O_22.mgf O_22.fn.kp O_22.b (Z0 (Yx T.k_House (sv 0) O_8.meth G_8 (hr.mono (by omega)) O_8.b) (Z0 (KB (sv 4) rfl T.n_tuple Yt) Z5)) (Z1 (Z1 Z9))) (GL (Zg G_22 (hr.mono (by omega)) rfl O_22.mgf O_22.fn.kp O_22.b (Z0 (Yx T.k_House (sv 0) O_7.meth G_7 (hr.mono (by omega)) O_7.b) (Z0 (KB (sv 7) rfl T.n_tuple Yt) Z5)) (Z1 (Z1 Z9))))))))))))
theorem DB:FnScope ["text", "least", "greatest"] ["text", "least", "greatest"] (Z3 Zf):=⟨rfl,rfl,rfl,Z0l,rfl,by decide +kernel,by decide +kernel⟩
theorem Od {f_25:Addr}{fd_25:FuncData}(T:Txt K mg C_House)(O_25:Own K mg "has_signs_between" Zf f_25 fd_25 ["text", "least", "greatest"]):FnOk P w K mg base CX0 1 f_25 fd_25 ["text", "least", "greatest"] (spD K 3 Zs):=
 Jq (k:=0) O_25.fn DB rfl rfl λcdv A outer s H E hr=>(Zd (Zt (F6 rfl (TK (tgs:=["sign"]) (cn:=["least", "greatest"]) (caps:=[1,2]) rfl ⟨by decide +kernel,rfl,by decide +kernel,YO (Z3 Zf).names rfl (by decide +kernel),⟨⟨rfl,.inl rfl,rfl⟩,⟨⟨rfl,.inl rfl,rfl⟩,trivial⟩⟩⟩ (Ut (sv 0)) (Y1 (by decide)) Zv (λ_ _ _ _=>(Zy (i:=0) Z0k rfl (Or.inl rfl))) (λ_ _ _ _=>JY) (λ_ _ _ _=>(NP GW GW (sv 1) (sv 0) (sv 2)))) rfl T.n_all BH)))
theorem Dz:FnScope ["thing"] ["thing"] (Z3 YY):=⟨rfl,rfl,rfl,Di,rfl,by decide +kernel,by decide +kernel⟩
theorem Oa {f_27:Addr}{fd_27:FuncData}(T:Txt K mg C_House)(O_27:Own K mg "is_name" YY f_27 fd_27 ["thing"]){f_25:Addr}{fd_25:FuncData}(O_25:Own K mg "has_signs_between" Zf f_25 fd_25 ["text", "least", "greatest"])(G_25:FnOk P w K mg base CX0 1 f_25 fd_25 ["text", "least", "greatest"] (spD K 3 Zs)):FnOk P w K mg base CX0 2 f_27 fd_27 ["thing"] (spD K 1 J9):=
 Jq (k:=1) O_27.fn Dz rfl rfl λcdv A outer s H E hr=>(Zd (Zt (U1 (JZ (QF _) (sv 0) rfl T.n_isinstance Zr rfl T.n_str UV) (U1 (NP GW GW Z8 (Jy (sv 0) rfl T.n_len YC) (KC rfl T.c_LONGEST_NAME)) (GL (Zg G_25 (hr.mono (by omega)) rfl O_25.mgf O_25.fn.kp O_25.b (Z0 (sv 0) (Z0 QN (Z0 QN Z5))) (Z1 (Z1 (Z1 Z9)))))))))
theorem Dw:FnScope ["thing"] ["thing"] (Z3 Zq):=⟨rfl,rfl,rfl,Di,rfl,by decide +kernel,by decide +kernel⟩
theorem O7 {f_30:Addr}{fd_30:FuncData}(T:Txt K mg C_House)(O_30:Own K mg "refuse_no_name" Zq f_30 fd_30 ["thing"]){f_27:Addr}{fd_27:FuncData}(O_27:Own K mg "is_name" YY f_27 fd_27 ["thing"])(G_27:FnOk P w K mg base CX0 2 f_27 fd_27 ["thing"] (spD K 1 J9)):FnOk P w K mg base CX0 3 f_30 fd_30 ["thing"] (spD K 1 ZM):=
 Jq (k:=2) O_30.fn Dw rfl rfl λcdv A outer s H E hr=>(Zd (Qb (Qu (ZG (Zg G_27 (hr.mono (by omega)) rfl O_27.mgf O_27.fn.kp O_27.b (Z0 (sv 0) Z5) (Z1 Z9)))) (Zd TH) Yc))
theorem Dy:FnScope ["thing"] ["thing"] (Z3 YX):=⟨rfl,rfl,rfl,Di,rfl,by decide +kernel,by decide +kernel⟩
theorem O9 {f_28:Addr}{fd_28:FuncData}(T:Txt K mg C_House)(O_28:Own K mg "is_text" YX f_28 fd_28 ["thing"]){f_25:Addr}{fd_25:FuncData}(O_25:Own K mg "has_signs_between" Zf f_25 fd_25 ["text", "least", "greatest"])(G_25:FnOk P w K mg base CX0 1 f_25 fd_25 ["text", "least", "greatest"] (spD K 3 Zs)):FnOk P w K mg base CX0 2 f_28 fd_28 ["thing"] (spD K 1 J8):=
 Jq (k:=1) O_28.fn Dy rfl rfl λcdv A outer s H E hr=>(Zd (Zt (U1 (JZ (QF _) (sv 0) rfl T.n_isinstance Zr rfl T.n_str UV) (U1 (U0 GW (Jy (sv 0) rfl T.n_len YC) (KC rfl T.c_LONGEST_TEXT) (YA _)) (GL (Zg G_25 (hr.mono (by omega)) rfl O_25.mgf O_25.fn.kp O_25.b (Z0 (sv 0) (Z0 QN (Z0 QN Z5))) (Z1 (Z1 (Z1 Z9)))))))))
theorem Dv:FnScope ["thing"] ["thing"] (Z3 Zp):=⟨rfl,rfl,rfl,Di,rfl,by decide +kernel,by decide +kernel⟩
theorem O6 {f_31:Addr}{fd_31:FuncData}(T:Txt K mg C_House)(O_31:Own K mg "refuse_no_text" Zp f_31 fd_31 ["thing"]){f_28:Addr}{fd_28:FuncData}(O_28:Own K mg "is_text" YX f_28 fd_28 ["thing"])(G_28:FnOk P w K mg base CX0 2 f_28 fd_28 ["thing"] (spD K 1 J8)):FnOk P w K mg base CX0 3 f_31 fd_31 ["thing"] (spD K 1 ZL):=
 Jq (k:=2) O_31.fn Dv rfl rfl λcdv A outer s H E hr=>(Zd (Qb (Qu (ZG (Zg G_28 (hr.mono (by omega)) rfl O_28.mgf O_28.fn.kp O_28.b (Z0 (sv 0) Z5) (Z1 Z9)))) (Zd TH) Yc))
theorem DT:FnScope ["self"] ["self"] (Z3 Zh):=⟨rfl,rfl,rfl,nd3,rfl,by decide +kernel,by decide +kernel⟩
theorem Os {f_11:Addr}{fd_11:FuncData}(T:Txt K mg C_House)(O_11:OwnM K C_House "next_mark" "House.next_mark" Zh f_11 fd_11 ["self"]):FnOk P w K mg base CX0 1 f_11 fd_11 ["self"] (spD K 1 Zi):=
 Jq (k:=0) O_11.fn DT rfl rfl λcdv A outer s H E hr=>(Z7 (Kx T.k_House T.na_House_acts (sv 0) Z8)
   (Zd (Zt (ZN (Z0 (Jn T.k_House T.na_House_own_number (sv 0)) (Z0 (Jn T.k_House T.na_House_acts (sv 0)) Z5))))))
theorem DU:FnScope ["self", "name", "text", "mark"] ["self", "name", "text"] (Z3 Y6):=⟨rfl,rfl,rfl,X6,rfl,by decide +kernel,by decide +kernel⟩
theorem Ot {f_10:Addr}{fd_10:FuncData}(T:Txt K mg C_House)(O_10:OwnM K C_House "make" "House.make" Y6 f_10 fd_10 ["self", "name", "text"]){f_30:Addr}{fd_30:FuncData}(O_30:Own K mg "refuse_no_name" Zq f_30 fd_30 ["thing"])(G_30:FnOk P w K mg base CX0 3 f_30 fd_30 ["thing"] (spD K 1 ZM)){f_31:Addr}{fd_31:FuncData}(O_31:Own K mg "refuse_no_text" Zp f_31 fd_31 ["thing"])(G_31:FnOk P w K mg base CX0 3 f_31 fd_31 ["thing"] (spD K 1 ZL)){f_11:Addr}{fd_11:FuncData}(O_11:OwnM K C_House "next_mark" "House.next_mark" Zh f_11 fd_11 ["self"])(G_11:FnOk P w K mg base CX0 1 f_11 fd_11 ["self"] (spD K 1 Zi)):FnOk P w K mg base CX0 4 f_10 fd_10 ["self", "name", "text"] (spD K 3 Q3):=
 Jq (k:=3) O_10.fn DU rfl rfl λcdv A outer s H E hr=>(Z7 (Js (Zg G_30 (hr.mono (by omega)) rfl O_30.mgf O_30.fn.kp O_30.b (Z0 (sv 1) Z5) (Z1 Z9)))
   (Z7 (Js (Zg G_31 (hr.mono (by omega)) rfl O_31.mgf O_31.fn.kp O_31.b (Z0 (sv 2) Z5) (Z1 Z9)))
   (Z7 (Y5 (i:=3) X6 rfl (Or.inl rfl) (Yx T.k_House (sv 0) O_11.meth G_11 (hr.mono (by omega)) O_11.b))
   (Z7 (YJ (YH hr) (ZN (Z0 (sv 3) (Z0 (sv 1) (Z0 (ZN (Z0 (sv 3) Z5)) (Z0 (ZN Z5) (Z0 (ZN (Z0 (ZN (Z0 (sv 3) (Z0 (sv 2) Z5))) Z5)) Z5)))))) (Jn T.k_House T.na_House_files (sv 0)) (sv 3))
   (Zd (Zt (sv 3)))))))
theorem DC:FnScope ["known", "other", "counts", "mark"] ["known", "other"] (Z3 Zx):=⟨rfl,rfl,rfl,Ow,rfl,by decide +kernel,by decide +kernel⟩
theorem Oe {f_24:Addr}{fd_24:FuncData}(T:Txt K mg C_House)(O_24:Own K mg "greater_counts" Zx f_24 fd_24 ["known", "other"]):FnOk P w K mg base CX0 1 f_24 fd_24 ["known", "other"] (spD K 2 ZW):=
 Jq (k:=0) O_24.fn DC rfl rfl λcdv A outer s H E hr=>(Z7 (Y5 (i:=2) Ow rfl (Or.inl rfl) (L1 rfl (sv 0) rfl T.n_dict K9))
   (Z7 (GH W0w rfl (Ut (sv 1)) (Zy (i:=3) Ow rfl (Or.inl rfl)) Zv (Zd (YJ (YH hr) (E9 rfl (Yb (YH hr) (sv 3) Z8) (Ed (YH hr) (sv 2) (Yb (YH hr) (sv 3) Z8) (Yb (YH hr) (sv 3) Z8)) rfl T.n_max Pp) (sv 2) (Yb (YH hr) (sv 3) Z8))))
   (Zd (Zt (BU (PU rfl (Xl hr) (sv 2) rfl T.n_sorted U6) rfl T.n_tuple Yt)))))
theorem XU:FnScope ["self", "file", "mark", "names", "texts"] ["self", "file", "mark", "names", "texts"] (Z3 Zu):=⟨rfl,rfl,rfl,Z0j,rfl,by decide +kernel,by decide +kernel⟩
theorem Z0d {f_1:Addr}{fd_1:FuncData}(T:Txt K mg C_House)(O_1:OwnM K C_House "change" "House.change" Zu f_1 fd_1 ["self", "file", "mark", "names", "texts"]){f_24:Addr}{fd_24:FuncData}(O_24:Own K mg "greater_counts" Zx f_24 fd_24 ["known", "other"])(G_24:FnOk P w K mg base CX0 1 f_24 fd_24 ["known", "other"] (spD K 2 ZW)):FnOk P w K mg base CX0 2 f_1 fd_1 ["self", "file", "mark", "names", "texts"] (spD K 5 Zm):=
 Jq (k:=1) O_1.fn XU rfl rfl λcdv A outer s H E hr=>(Zd (YJ (YH hr) (ZN (Z0 (Yb (YH hr) (sv 1) Z8) (Z0 (Yb (YH hr) (sv 1) Z8) (Z0 (Zg G_24 (hr.mono (by omega)) rfl O_24.mgf O_24.fn.kp O_24.b (Z0 (Yb (YH hr) (sv 1) Z8) (Z0 (ZN (Z0 (sv 2) Z5)) Z5)) (Z1 (Z1 Z9))) (Z0 (sv 3) (Z0 (sv 4) Z5)))))) (Jn T.k_House T.na_House_files (sv 0)) (Yb (YH hr) (sv 1) Z8)))
theorem DN:FnScope ["self", "which", "text", "file", "mark"] ["self", "which", "text"] (Z3 ZX):=⟨rfl,rfl,rfl,Ov,rfl,by decide +kernel,by decide +kernel⟩
theorem On {f_15:Addr}{fd_15:FuncData}(T:Txt K mg C_House)(O_15:OwnM K C_House "write" "House.write" ZX f_15 fd_15 ["self", "which", "text"]){f_31:Addr}{fd_31:FuncData}(O_31:Own K mg "refuse_no_text" Zp f_31 fd_31 ["thing"])(G_31:FnOk P w K mg base CX0 3 f_31 fd_31 ["thing"] (spD K 1 ZL)){f_11:Addr}{fd_11:FuncData}(O_11:OwnM K C_House "next_mark" "House.next_mark" Zh f_11 fd_11 ["self"])(G_11:FnOk P w K mg base CX0 1 f_11 fd_11 ["self"] (spD K 1 Zi)){f_1:Addr}{fd_1:FuncData}(O_1:OwnM K C_House "change" "House.change" Zu f_1 fd_1 ["self", "file", "mark", "names", "texts"])(G_1:FnOk P w K mg base CX0 2 f_1 fd_1 ["self", "file", "mark", "names", "texts"] (spD K 5 Zm)){f_5:Addr}{fd_5:FuncData}(O_5:OwnM K C_House "file_on_shelf" "House.file_on_shelf" Za f_5 fd_5 ["self", "which"])(G_5:FnOk P w K mg base CX0 2 f_5 fd_5 ["self", "which"] (spD K 2 Zb)):FnOk P w K mg base CX0 4 f_15 fd_15 ["self", "which", "text"] (spD K 3 YE):=
 Jq (k:=3) O_15.fn DN rfl rfl λcdv A outer s H E hr=>(Z7 (Y5 (i:=3) Ov rfl (Or.inl rfl) (Yy T.k_House (sv 0) O_5.meth G_5 (hr.mono (by omega)) O_5.b (Z0 (sv 1) Z5) (Z1 Z9)))
   (Z7 (Js (Zg G_31 (hr.mono (by omega)) rfl O_31.mgf O_31.fn.kp O_31.b (Z0 (sv 2) Z5) (Z1 Z9)))
   (Z7 (Y5 (i:=4) Ov rfl (Or.inl rfl) (Yx T.k_House (sv 0) O_11.meth G_11 (hr.mono (by omega)) O_11.b))
   (Zd (Js (Yy T.k_House (sv 0) O_1.meth G_1 (hr.mono (by omega)) O_1.b (Z0 (sv 3) (Z0 (sv 4) (Z0 (Yb (YH hr) (sv 3) Z8) (Z0 (ZN (Z0 (ZN (Z0 (sv 4) (Z0 (sv 2) Z5))) Z5)) Z5)))) (Z1 (Z1 (Z1 (Z1 Z9))))))))))
theorem DQ:FnScope ["self", "which", "name", "file", "mark"] ["self", "which", "name"] (Z3 ZP):=⟨rfl,rfl,rfl,Ou,rfl,by decide +kernel,by decide +kernel⟩
theorem Op {f_13:Addr}{fd_13:FuncData}(T:Txt K mg C_House)(O_13:OwnM K C_House "rename" "House.rename" ZP f_13 fd_13 ["self", "which", "name"]){f_30:Addr}{fd_30:FuncData}(O_30:Own K mg "refuse_no_name" Zq f_30 fd_30 ["thing"])(G_30:FnOk P w K mg base CX0 3 f_30 fd_30 ["thing"] (spD K 1 ZM)){f_11:Addr}{fd_11:FuncData}(O_11:OwnM K C_House "next_mark" "House.next_mark" Zh f_11 fd_11 ["self"])(G_11:FnOk P w K mg base CX0 1 f_11 fd_11 ["self"] (spD K 1 Zi)){f_1:Addr}{fd_1:FuncData}(O_1:OwnM K C_House "change" "House.change" Zu f_1 fd_1 ["self", "file", "mark", "names", "texts"])(G_1:FnOk P w K mg base CX0 2 f_1 fd_1 ["self", "file", "mark", "names", "texts"] (spD K 5 Zm)){f_5:Addr}{fd_5:FuncData}(O_5:OwnM K C_House "file_on_shelf" "House.file_on_shelf" Za f_5 fd_5 ["self", "which"])(G_5:FnOk P w K mg base CX0 2 f_5 fd_5 ["self", "which"] (spD K 2 Zb)):FnOk P w K mg base CX0 4 f_13 fd_13 ["self", "which", "name"] (spD K 3 Yn):=
 Jq (k:=3) O_13.fn DQ rfl rfl λcdv A outer s H E hr=>(Z7 (Y5 (i:=3) Ou rfl (Or.inl rfl) (Yy T.k_House (sv 0) O_5.meth G_5 (hr.mono (by omega)) O_5.b (Z0 (sv 1) Z5) (Z1 Z9)))
   (Z7 (Js (Zg G_30 (hr.mono (by omega)) rfl O_30.mgf O_30.fn.kp O_30.b (Z0 (sv 2) Z5) (Z1 Z9)))
   (Z7 (Y5 (i:=4) Ou rfl (Or.inl rfl) (Yx T.k_House (sv 0) O_11.meth G_11 (hr.mono (by omega)) O_11.b))
   (Zd (Js (Yy T.k_House (sv 0) O_1.meth G_1 (hr.mono (by omega)) O_1.b (Z0 (sv 3) (Z0 (sv 4) (Z0 (ZN (Z0 (ZN (Z0 (sv 4) (Z0 (sv 2) Z5))) Z5)) (Z0 (Yb (YH hr) (sv 3) Z8) Z5)))) (Z1 (Z1 (Z1 (Z1 Z9))))))))))
theorem XS:FnScope ["self", "which", "file"] ["self", "which"] (Z3 Y8):=⟨rfl,rfl,rfl,nd7,rfl,by decide +kernel,by decide +kernel⟩
theorem Z0b {f_3:Addr}{fd_3:FuncData}(T:Txt K mg C_House)(O_3:OwnM K C_House "drop" "House.drop" Y8 f_3 fd_3 ["self", "which"]){f_11:Addr}{fd_11:FuncData}(O_11:OwnM K C_House "next_mark" "House.next_mark" Zh f_11 fd_11 ["self"])(G_11:FnOk P w K mg base CX0 1 f_11 fd_11 ["self"] (spD K 1 Zi)){f_1:Addr}{fd_1:FuncData}(O_1:OwnM K C_House "change" "House.change" Zu f_1 fd_1 ["self", "file", "mark", "names", "texts"])(G_1:FnOk P w K mg base CX0 2 f_1 fd_1 ["self", "file", "mark", "names", "texts"] (spD K 5 Zm)){f_5:Addr}{fd_5:FuncData}(O_5:OwnM K C_House "file_on_shelf" "House.file_on_shelf" Za f_5 fd_5 ["self", "which"])(G_5:FnOk P w K mg base CX0 2 f_5 fd_5 ["self", "which"] (spD K 2 Zb)):FnOk P w K mg base CX0 3 f_3 fd_3 ["self", "which"] (spD K 2 Q4):=
 Jq (k:=2) O_3.fn XS rfl rfl λcdv A outer s H E hr=>(Z7 (Y5 (i:=2) nd7 rfl (Or.inl rfl) (Yy T.k_House (sv 0) O_5.meth G_5 (hr.mono (by omega)) O_5.b (Z0 (sv 1) Z5) (Z1 Z9)))
   (Zd (Js (Yy T.k_House (sv 0) O_1.meth G_1 (hr.mono (by omega)) O_1.b (Z0 (sv 2) (Z0 (Yx T.k_House (sv 0) O_11.meth G_11 (hr.mono (by omega)) O_11.b) (Z0 (ZN Z5) (Z0 (ZN Z5) Z5)))) (Z1 (Z1 (Z1 (Z1 Z9))))))))
theorem DG:FnScope ["_law_cell_here", "_law_letters", "_law_many"] ["_law_cell_here"] (Z3 Q8):=⟨rfl,rfl,rfl,HV,rfl,by decide +kernel,by decide +kernel⟩
theorem Og {f_21:Addr}{fd_21:FuncData}(T:Txt K mg C_House)(O_21:Own K mg "_law_name" Q8 f_21 fd_21 ["_law_cell_here"]){f_20:Addr}{fd_20:FuncData}(O_20:Own K mg "_law_mix" Qd f_20 fd_20 ["_law_cell_here", "_law_prime", "_law_many"])(G_20:FnOk P w K mg base CX0 1 f_20 fd_20 ["_law_cell_here", "_law_prime", "_law_many"] (spD K 3 ZV)):FnOk P w K mg base CX0 2 f_21 fd_21 ["_law_cell_here"] (spD K 1 QK):=
 Jq (k:=1) O_21.fn DG rfl rfl λcdv A outer s H E hr=>(Z7 (Y5 (i:=1) HV rfl (Or.inr rfl) QN)
   (Z7 (Y5 (i:=2) HV rfl (Or.inl rfl) (Qc Qe Z8 (Zg G_20 (hr.mono (by omega)) rfl O_20.mgf O_20.fn.kp O_20.b (Z0 (sv 0) (Z0 Z8 (Z0 Z8 Z5))) (Z1 (Z1 (Z1 Z9))))))
   (Z7 (Qb (QL (JC (YH hr)) (Qc QX (sv 0) Z8) Z8 (YA _)) (Z7 (Y5 (i:=1) HV rfl (Or.inr rfl) QN)
   (Zd (Y5 (i:=2) HV rfl (Or.inl rfl) (Qc Qe Z8 (Qc QX (sv 2) Z8))))) Yc)
   (Zd (Zt (NO QN (TK (tgs:=["_law_k"]) (cn:=["_law_cell_here", "_law_letters"]) (caps:=[0,1]) rfl ⟨by decide +kernel,rfl,by decide +kernel,YO (Z3 Q8).names rfl (by decide +kernel),⟨⟨rfl,.inl rfl,rfl⟩,⟨⟨rfl,.inl rfl,rfl⟩,trivial⟩⟩⟩ (Us (sv 2) rfl T.n_range) (Y1 (by decide)) Zv (λ_ _ _ _=>(Zy (i:=0) Z0i rfl (Or.inl rfl))) (λ_ _ _ _=>JY) (λ_ _ _ _=>(Yb (YH hr) (sv 2) (Zg G_20 (hr.mono (by omega)) rfl O_20.mgf O_20.fn.kp O_20.b (Z0 (Qc Qe (sv 1) (Qc TZ Z8 (sv 0))) (Z0 Z8 (Z0 (Jy (sv 2) rfl T.n_len YC) Z5))) (Z1 (Z1 (Z1 Z9)))))))))))))
theorem DE:FnScope ["_law_cell_here", "_law_signs", "_law_many"] ["_law_cell_here"] (Z3 Q7):=⟨rfl,rfl,rfl,HU,rfl,by decide +kernel,by decide +kernel⟩
theorem Of {f_23:Addr}{fd_23:FuncData}(T:Txt K mg C_House)(O_23:Own K mg "_law_text" Q7 f_23 fd_23 ["_law_cell_here"]){f_20:Addr}{fd_20:FuncData}(O_20:Own K mg "_law_mix" Qd f_20 fd_20 ["_law_cell_here", "_law_prime", "_law_many"])(G_20:FnOk P w K mg base CX0 1 f_20 fd_20 ["_law_cell_here", "_law_prime", "_law_many"] (spD K 3 ZV)):FnOk P w K mg base CX0 2 f_23 fd_23 ["_law_cell_here"] (spD K 1 Yr):=
 Jq (k:=1) O_23.fn DE rfl rfl λcdv A outer s H E hr=>(Z7 (Y5 (i:=1) HU rfl (Or.inr rfl) QN)
   (Z7 (Y5 (i:=2) HU rfl (Or.inl rfl) (Zg G_20 (hr.mono (by omega)) rfl O_20.mgf O_20.fn.kp O_20.b (Z0 (sv 0) (Z0 Z8 (Z0 Z8 Z5))) (Z1 (Z1 (Z1 Z9)))))
   (Z7 (Qb (QL (JC (YH hr)) (Zg G_20 (hr.mono (by omega)) rfl O_20.mgf O_20.fn.kp O_20.b (Z0 (sv 0) (Z0 Z8 (Z0 Z8 Z5))) (Z1 (Z1 (Z1 Z9)))) Z8 (YA _)) (Zd (Y5 (i:=2) HU rfl (Or.inl rfl) Z8)) Yc)
   (Z7 (Qb (QL (JC (YH hr)) (Zg G_20 (hr.mono (by omega)) rfl O_20.mgf O_20.fn.kp O_20.b (Z0 (sv 0) (Z0 Z8 (Z0 Z8 Z5))) (Z1 (Z1 (Z1 Z9)))) Z8 (YA _)) (Zd (Y5 (i:=2) HU rfl (Or.inl rfl) (Zg G_20 (hr.mono (by omega)) rfl O_20.mgf O_20.fn.kp O_20.b (Z0 (sv 0) (Z0 Z8 (Z0 Z8 Z5))) (Z1 (Z1 (Z1 Z9)))))) Yc)
   (Z7 (Qb (QL (JC (YH hr)) (Qc QX (sv 0) Z8) Z8 (YA _)) (Zd (Zt (Yb (YH hr) (ZN (Z0 QN (Z0 QN (Z0 QN Z5)))) (Zg G_20 (hr.mono (by omega)) rfl O_20.mgf O_20.fn.kp O_20.b (Z0 (sv 0) (Z0 Z8 (Z0 Z8 Z5))) (Z1 (Z1 (Z1 Z9))))))) Yc)
   (Zd (Zt (NO QN (TK (tgs:=["_law_k"]) (cn:=["_law_cell_here", "_law_signs"]) (caps:=[0,1]) rfl ⟨by decide +kernel,rfl,by decide +kernel,YO (Z3 Q7).names rfl (by decide +kernel),⟨⟨rfl,.inl rfl,rfl⟩,⟨⟨rfl,.inl rfl,rfl⟩,trivial⟩⟩⟩ (Us (sv 2) rfl T.n_range) (Y1 (by decide)) Zv (λ_ _ _ _=>(Zy (i:=0) Z0h rfl (Or.inl rfl))) (λ_ _ _ _=>JY) (λ_ _ _ _=>(Yb (YH hr) (sv 2) (Zg G_20 (hr.mono (by omega)) rfl O_20.mgf O_20.fn.kp O_20.b (Z0 (Qc Qe (sv 1) (Qc TZ Z8 (sv 0))) (Z0 Z8 (Z0 (Jy (sv 2) rfl T.n_len YC) Z5))) (Z1 (Z1 (Z1 Z9)))))))))))))))
theorem DM:FnScope ["_law_house", "_law_number", "_law_many", "_law_files", "_law_cell_here", "_law_kind", "_law_mark", "_law_name_here", "_law_text_here", "_law_live", "_law_which", "_law_first", "_law_last", "_law_names", "_law_texts"] ["_law_house", "_law_number", "_law_many", "_law_files", "_law_cell_here", "_law_kind"] (Z3 QA):=⟨rfl,rfl,rfl,Py,rfl,by decide +kernel,by decide +kernel⟩
theorem Om {f_16:Addr}{fd_16:FuncData}(T:Txt K mg C_House)(O_16:Own K mg "_law_act" QA f_16 fd_16 ["_law_house", "_law_number", "_law_many", "_law_files", "_law_cell_here", "_law_kind"]){f_10:Addr}{fd_10:FuncData}(O_10:OwnM K C_House "make" "House.make" Y6 f_10 fd_10 ["self", "name", "text"])(G_10:FnOk P w K mg base CX0 4 f_10 fd_10 ["self", "name", "text"] (spD K 3 Q3)){f_15:Addr}{fd_15:FuncData}(O_15:OwnM K C_House "write" "House.write" ZX f_15 fd_15 ["self", "which", "text"])(G_15:FnOk P w K mg base CX0 4 f_15 fd_15 ["self", "which", "text"] (spD K 3 YE)){f_13:Addr}{fd_13:FuncData}(O_13:OwnM K C_House "rename" "House.rename" ZP f_13 fd_13 ["self", "which", "name"])(G_13:FnOk P w K mg base CX0 4 f_13 fd_13 ["self", "which", "name"] (spD K 3 Yn)){f_3:Addr}{fd_3:FuncData}(O_3:OwnM K C_House "drop" "House.drop" Y8 f_3 fd_3 ["self", "which"])(G_3:FnOk P w K mg base CX0 3 f_3 fd_3 ["self", "which"] (spD K 2 Q4)){f_20:Addr}{fd_20:FuncData}(O_20:Own K mg "_law_mix" Qd f_20 fd_20 ["_law_cell_here", "_law_prime", "_law_many"])(G_20:FnOk P w K mg base CX0 1 f_20 fd_20 ["_law_cell_here", "_law_prime", "_law_many"] (spD K 3 ZV)){f_21:Addr}{fd_21:FuncData}(O_21:Own K mg "_law_name" Q8 f_21 fd_21 ["_law_cell_here"])(G_21:FnOk P w K mg base CX0 2 f_21 fd_21 ["_law_cell_here"] (spD K 1 QK)){f_23:Addr}{fd_23:FuncData}(O_23:Own K mg "_law_text" Q7 f_23 fd_23 ["_law_cell_here"])(G_23:FnOk P w K mg base CX0 2 f_23 fd_23 ["_law_cell_here"] (spD K 1 Yr)){f_22:Addr}{fd_22:FuncData}(O_22:Own K mg "_law_same" YR f_22 fd_22 ["_law_found", "_law_due_here"])(G_22:FnOk P w K mg base CX0 13 f_22 fd_22 ["_law_found", "_law_due_here"] (spD K 2 (ZI 12))):FnOk P w K mg base CX0 14 f_16 fd_16 ["_law_house", "_law_number", "_law_many", "_law_files", "_law_cell_here", "_law_kind"] (spD K 6 T0):=
 Jq (k:=13) O_16.fn DM rfl rfl λcdv A outer s H E hr=>(Z7 (Y5 (i:=6) Py rfl (Or.inl rfl) (ZN (Z0 (sv 1) (Z0 (sv 2) Z5))))
   (Z7 (Y5 (i:=7) Py rfl (Or.inl rfl) (Zg G_21 (hr.mono (by omega)) rfl O_21.mgf O_21.fn.kp O_21.b (Z0 (Qc Qe (sv 4) Z8) Z5) (Z1 Z9)))
   (Z7 (Y5 (i:=8) Py rfl (Or.inl rfl) (Zg G_23 (hr.mono (by omega)) rfl O_23.mgf O_23.fn.kp O_23.b (Z0 (Qc Qe (sv 4) Z8) Z5) (Z1 Z9)))
   (Z7 (by refine TJ (i:=9) (tgs:=["_law_which"]) (cn:=["_law_files"]) (caps:=[3]) (g:=Bt 0) (hsw:=?h1) (hs:=?h2) ?a1 ?a2 ?a3 ?a4 ?a5 ?a6 ?a7 ?a8 ?a9 ?a10 ?a11;(case a1=>exact Py);(case a2=>exact rfl);(case a3=>exact rfl);(case a4=>exact rfl);(case a5=>exact⟨by decide +kernel,rfl,by decide +kernel,YO (Z3 QA).names rfl (by decide +kernel),⟨⟨rfl,.inl rfl,rfl⟩,trivial⟩⟩);(case a6=>exact (Ut (sv 3)));(case a7=>exact (Y1 (by decide)));(case a8=>exact Zv);(case a9=>exact (λ_ _ _ _=>(Zy (i:=0) Ox rfl (Or.inl rfl))));(case a10=>exact (λ_ _ _ _=>GK (ZG (Yb (YH hr) (Yb (YH hr) (sv 1) (sv 0)) Z8))));(case a11=>exact (λ_ _ _ _=>(sv 0)));(case h1=>rfl);(case h2=>(intro _;rfl)))
   (Z7 (Qb (Dh (PN (QL (JC (YH hr)) (sv 5) Z8 (YA _)) (NI (Qu (ZG (sv 9)))))) (Z7 (YJ (YH hr) (ZN (Z0 (sv 7) (Z0 (sv 2) (Z0 (ZN Z5) (Z0 (ZN (Z0 (ZN (Z0 (sv 6) (Z0 (sv 8) Z5))) Z5)) Z5))))) (sv 3) (sv 6))
   (Zd (Zt (Zg G_22 (hr.mono (by omega)) rfl O_22.mgf O_22.fn.kp O_22.b (Z0 (Yy T.k_House (sv 0) O_10.meth G_10 (hr.mono (by omega)) O_10.b (Z0 (sv 7) (Z0 (sv 8) Z5)) (Z1 (Z1 Z9))) (Z0 (sv 6) Z5)) (Z1 (Z1 Z9)))))) Yc)
   (Z7 (Y5 (i:=10) Py rfl (Or.inl rfl) (Yb (YH hr) (sv 9) (Zg G_20 (hr.mono (by omega)) rfl O_20.mgf O_20.fn.kp O_20.b (Z0 (sv 4) (Z0 Z8 (Z0 (Jy (sv 9) rfl T.n_len YC) Z5))) (Z1 (Z1 (Z1 Z9))))))
   (Z7 (F3 (Yb (YH hr) (sv 3) (sv 10)) (NZ rfl (Yp (Zy (i:=11) Py rfl (Or.inl rfl)) (Yp (Zy (i:=12) Py rfl (Or.inl rfl)) (Yp (Zy (i:=13) Py rfl (Or.inl rfl)) (Yp (Zy (i:=14) Py rfl (Or.inl rfl)) TY))))) (Mo (Yq Zv (Yq Zv (Yq Zv (Yq Zv Gi))))))
   (Z7 (Qb (QL (R8 (YH hr)) (sv 5) Z8 (YA _)) (Z7 (YJ (YH hr) (ZN (Z0 (sv 11) (Z0 (sv 2) (Z0 (sv 13) (Z0 (ZN (Z0 (ZN (Z0 (sv 6) (Z0 (sv 8) Z5))) Z5)) Z5))))) (sv 3) (sv 10))
   (Zd (Zt (U0 GX (Yy T.k_House (sv 0) O_15.meth G_15 (hr.mono (by omega)) O_15.b (Z0 (sv 10) (Z0 (sv 8) Z5)) (Z1 (Z1 Z9))) GM (YA _))))) Yc)
   (Z7 (Qb (QL (R8 (YH hr)) (sv 5) Z8 (YA _)) (Z7 (YJ (YH hr) (ZN (Z0 (sv 11) (Z0 (sv 2) (Z0 (ZN (Z0 (ZN (Z0 (sv 6) (Z0 (sv 7) Z5))) Z5)) (Z0 (sv 14) Z5))))) (sv 3) (sv 10))
   (Zd (Zt (U0 GX (Yy T.k_House (sv 0) O_13.meth G_13 (hr.mono (by omega)) O_13.b (Z0 (sv 10) (Z0 (sv 7) Z5)) (Z1 (Z1 Z9))) GM (YA _))))) Yc)
   (Z7 (YJ (YH hr) (ZN (Z0 (sv 11) (Z0 (sv 2) (Z0 (ZN Z5) (Z0 (ZN Z5) Z5))))) (sv 3) (sv 10))
   (Zd (Zt (U0 GX (Yy T.k_House (sv 0) O_3.meth G_3 (hr.mono (by omega)) O_3.b (Z0 (sv 10) Z5) (Z1 Z9)) GM (YA _))))))))))))))
theorem Dx:FnScope ["_law_script", "_law_number", "_law_house", "_law_files", "_law_many", "_law_kinds", "_law_k", "_law_kind"] ["_law_script"] (Z3 U7):=⟨rfl,rfl,rfl,Px,rfl,by decide +kernel,by decide +kernel⟩
theorem O8 {f_29:Addr}{fd_29:FuncData}(T:Txt K mg C_House)(O_29:Own K mg "law" U7 f_29 fd_29 ["_law_script"]){f_9:Addr}{fd_9:FuncData}(O_9:OwnI K C_House "House.__init__" Y7 f_9 fd_9 ["self", "number"])(G_9:FnOk P w K mg base CX0 1 f_9 fd_9 ["self", "number"] (spD K 2 Yf)){f_17:Addr}{fd_17:FuncData}(O_17:Own K mg "_law_cell" Qk f_17 fd_17 ["_law_script", "_law_k"])(G_17:FnOk P w K mg base CX0 1 f_17 fd_17 ["_law_script", "_law_k"] (spD K 2 Yh)){f_20:Addr}{fd_20:FuncData}(O_20:Own K mg "_law_mix" Qd f_20 fd_20 ["_law_cell_here", "_law_prime", "_law_many"])(G_20:FnOk P w K mg base CX0 1 f_20 fd_20 ["_law_cell_here", "_law_prime", "_law_many"] (spD K 3 ZV)){f_19:Addr}{fd_19:FuncData}(O_19:Own K mg "_law_is_right" ZO f_19 fd_19 ["_law_house", "_law_number", "_law_many", "_law_files"])(G_19:FnOk P w K mg base CX0 14 f_19 fd_19 ["_law_house", "_law_number", "_law_many", "_law_files"] (spD K 4 Yu)){f_16:Addr}{fd_16:FuncData}(O_16:Own K mg "_law_act" QA f_16 fd_16 ["_law_house", "_law_number", "_law_many", "_law_files", "_law_cell_here", "_law_kind"])(G_16:FnOk P w K mg base CX0 14 f_16 fd_16 ["_law_house", "_law_number", "_law_many", "_law_files", "_law_cell_here", "_law_kind"] (spD K 6 T0)):FnOk P w K mg base CX0 15 f_29 fd_29 ["_law_script"] (spD K 1 F_law):=
 Jq (k:=14) O_29.fn Dx rfl rfl λcdv A outer s H E hr=>(Z7 (Y5 (i:=1) Px rfl (Or.inl rfl) (Zg G_20 (hr.mono (by omega)) rfl O_20.mgf O_20.fn.kp O_20.b (Z0 (Zg G_17 (hr.mono (by omega)) rfl O_17.mgf O_17.fn.kp O_17.b (Z0 (sv 0) (Z0 Z8 Z5)) (Z1 (Z1 Z9))) (Z0 Z8 (Z0 Z8 Z5))) (Z1 (Z1 (Z1 Z9)))))
   (Z7 (Y5 (i:=2) Px rfl (Or.inl rfl) (Ea T.k_House O_9.mkr G_9 (hr.mono (by omega)) rfl T.g_House O_9.b (Z0 (sv 1) Z5) (Z1 Z9)))
   (Z7 (Y5 (i:=3) Px rfl (Or.inl rfl) BV)
   (Z7 (Y5 (i:=4) Px rfl (Or.inl rfl) Z8)
   (Z7 (Qb (Qu (ZG (Zg G_19 (hr.mono (by omega)) rfl O_19.mgf O_19.fn.kp O_19.b (Z0 (sv 2) (Z0 (sv 1) (Z0 (sv 4) (Z0 (sv 3) Z5)))) (Z1 (Z1 (Z1 (Z1 Z9))))))) (Zd (Zt GO)) Yc)
   (Z7 (TJ (i:=5) Px rfl rfl (tgs:=["_law_k"]) (cn:=["_law_script"]) (caps:=[0]) rfl ⟨by decide +kernel,rfl,by decide +kernel,YO (Z3 U7).names rfl (by decide +kernel),⟨⟨rfl,.inl rfl,rfl⟩,trivial⟩⟩ (Us Z8 rfl T.n_range) (Y1 (by decide)) Zv (λ_ _ _ _=>(Zy (i:=0) Z0g rfl (Or.inl rfl))) (λ_ _ _ _=>JY) (λ_ _ _ _=>(Zg G_20 (hr.mono (by omega)) rfl O_20.mgf O_20.fn.kp O_20.b (Z0 (Qc Qe (Zg G_17 (hr.mono (by omega)) rfl O_17.mgf O_17.fn.kp O_17.b (Z0 (sv 1) (Z0 (Qc QX (sv 0) Z8) Z5)) (Z1 (Z1 Z9))) (sv 0)) (Z0 Z8 (Z0 Z8 Z5))) (Z1 (Z1 (Z1 Z9))))))
   (Z7 (Qb (QL (JC (YH hr)) (Qc QX (Zg G_17 (hr.mono (by omega)) rfl O_17.mgf O_17.fn.kp O_17.b (Z0 (sv 0) (Z0 Z8 Z5)) (Z1 (Z1 Z9))) Z8) Z8 (YA _)) (Zd (Y5 (i:=5) Px rfl (Or.inl rfl) (Qc Qe (Qc Qe (Hj (Z0 Z8 Z5)) (BW (tgs:=["_law_k"]) (cn:=[]) (caps:=[]) rfl ⟨by decide +kernel,rfl,by decide +kernel,YO (Z3 U7).names rfl (by decide +kernel),trivial⟩ (Us Z8 rfl T.n_range) (Y1 (by decide)) Zv (λ_ _ _ _=>(Zy (i:=0) Z0f rfl (Or.inl rfl))) (λ_ _ _ _=>JY) (λ_ _ _ _=>Z8))) (L0 (sv 5) AZ (AY Z8))))) Yc)
   (Z7 (GH W0w rfl (E6 (sv 5) rfl T.n_enumerate UW) (NZ rfl (Yp (Zy (i:=6) Px rfl (Or.inl rfl)) (Yp (Zy (i:=7) Px rfl (Or.inl rfl)) TY))) (Mo (Yq Zv (Yq Zv Gi))) (Z7 (Y5 (i:=4) Px rfl (Or.inl rfl) (Qc Qe (sv 4) Z8))
   (Z7 (Qb (Qu (ZG (Zg G_16 (hr.mono (by omega)) rfl O_16.mgf O_16.fn.kp O_16.b (Z0 (sv 2) (Z0 (sv 1) (Z0 (sv 4) (Z0 (sv 3) (Z0 (Qc Qe (Zg G_17 (hr.mono (by omega)) rfl O_17.mgf O_17.fn.kp O_17.b (Z0 (sv 0) (Z0 (Qc QX (sv 6) Z8) Z5)) (Z1 (Z1 Z9))) (Qc TZ Z8 (sv 6))) (Z0 (sv 7) Z5)))))) (Z1 (Z1 (Z1 (Z1 (Z1 (Z1 Z9))))))))) (Zd (Zt GO)) Yc)
   (Zd (Qb (Qu (ZG (Zg G_19 (hr.mono (by omega)) rfl O_19.mgf O_19.fn.kp O_19.b (Z0 (sv 2) (Z0 (sv 1) (Z0 (sv 4) (Z0 (sv 3) Z5)))) (Z1 (Z1 (Z1 (Z1 Z9))))))) (Zd (Zt GO)) Yc)))))
   (Zd (Zt GO))))))))))
end
theorem all_mk {l:PySem.W.OpenLaw}{w:World}{K:W3}{h:Heap}{mg:Str->Option Value}{fa:Addr}(X:K.In h)(G:h.Ns WA mg)(hfa:mg "law" = some (.ref fa))
  {C_House:Addr} (cg_House:WJ K WA "House" = some (some (.ref C_House))) (ca_House:W0f K C_House Str.empty=true) (cb_House:W0B K C_House=true) (cc_House:W1k K C_House=true) (ce_House:WF K (.ref C_House) "__setattr__" = some (some (.builtin "object.__setattr__"))) (cm_House:PySem.W.makesIn K C_House=true) (ck_House:Wv K (.ref C_House)=true)
  (cn_House_acts:WF K (.ref C_House) "acts" = some none)
  (cn_House_files:WF K (.ref C_House) "files" = some none)
  (cn_House_own_number:WF K (.ref C_House) "own_number" = some none)
  (cn_House_told:WF K (.ref C_House) "told" = some none)
  {od0 an0:Option Addr} {sl0:Array (Option Value)} {oc0 kV0 dc0 pm0 cd0 ct0:Value} {f0:Addr}
  {od1 an1:Option Addr} {sl1:Array (Option Value)} {oc1 kV1 dc1 pm1 cd1 ct1:Value} {f1:Addr}
  {od2 an2:Option Addr} {sl2:Array (Option Value)} {oc2 kV2 dc2 pm2 cd2 ct2:Value} {f2:Addr}
  {od3 an3:Option Addr} {sl3:Array (Option Value)} {oc3 kV3 dc3 pm3 cd3 ct3:Value} {f3:Addr}
  {od4 an4:Option Addr} {sl4:Array (Option Value)} {oc4 kV4 dc4 pm4 cd4 ct4:Value} {f4:Addr}
  {od5 an5:Option Addr} {sl5:Array (Option Value)} {oc5 kV5 dc5 pm5 cd5 ct5:Value} {f5:Addr}
  {od6 an6:Option Addr} {sl6:Array (Option Value)} {oc6 kV6 dc6 pm6 cd6 ct6:Value} {f6:Addr}
  {od7 an7:Option Addr} {sl7:Array (Option Value)} {oc7 kV7 dc7 pm7 cd7 ct7:Value} {f7:Addr}
  {od8 an8:Option Addr} {sl8:Array (Option Value)} {oc8 kV8 dc8 pm8 cd8 ct8:Value} {f8:Addr}
  {od9 an9:Option Addr} {sl9:Array (Option Value)} {oc9 kV9 dc9 pm9 cd9 ct9:Value} {f9:Addr}
  {od10 an10:Option Addr} {sl10:Array (Option Value)} {oc10 kV10 dc10 pm10 cd10 ct10:Value} {f10:Addr}
  {od11 an11:Option Addr} {sl11:Array (Option Value)} {oc11 kV11 dc11 pm11 cd11 ct11:Value} {f11:Addr}
  {od12 an12:Option Addr} {sl12:Array (Option Value)} {oc12 kV12 dc12 pm12 cd12 ct12:Value} {f12:Addr}
  {od13 an13:Option Addr} {sl13:Array (Option Value)} {oc13 kV13 dc13 pm13 cd13 ct13:Value} {f13:Addr}
  {od14 an14:Option Addr} {sl14:Array (Option Value)} {oc14 kV14 dc14 pm14 cd14 ct14:Value} {f14:Addr}
  {od15 an15:Option Addr} {sl15:Array (Option Value)} {oc15 kV15 dc15 pm15 cd15 ct15:Value} {f15:Addr}
  {od16 an16:Option Addr} {sl16:Array (Option Value)} {oc16 kV16 dc16 pm16 cd16 ct16:Value} {f16:Addr}
  {od17 an17:Option Addr} {sl17:Array (Option Value)} {oc17 kV17 dc17 pm17 cd17 ct17:Value} {f17:Addr}
  {od18 an18:Option Addr} {sl18:Array (Option Value)} {oc18 kV18 dc18 pm18 cd18 ct18:Value} {f18:Addr}
  {od19 an19:Option Addr} {sl19:Array (Option Value)} {oc19 kV19 dc19 pm19 cd19 ct19:Value} {f19:Addr}
  {od20 an20:Option Addr} {sl20:Array (Option Value)} {oc20 kV20 dc20 pm20 cd20 ct20:Value} {f20:Addr}
  {od21 an21:Option Addr} {sl21:Array (Option Value)} {oc21 kV21 dc21 pm21 cd21 ct21:Value} {f21:Addr}
  {od22 an22:Option Addr} {sl22:Array (Option Value)} {oc22 kV22 dc22 pm22 cd22 ct22:Value} {f22:Addr}
  {od23 an23:Option Addr} {sl23:Array (Option Value)} {oc23 kV23 dc23 pm23 cd23 ct23:Value} {f23:Addr}
  {od24 an24:Option Addr} {sl24:Array (Option Value)} {oc24 kV24 dc24 pm24 cd24 ct24:Value} {f24:Addr}
  {od25 an25:Option Addr} {sl25:Array (Option Value)} {oc25 kV25 dc25 pm25 cd25 ct25:Value} {f25:Addr}
  {od26 an26:Option Addr} {sl26:Array (Option Value)} {oc26 kV26 dc26 pm26 cd26 ct26:Value} {f26:Addr}
  {od27 an27:Option Addr} {sl27:Array (Option Value)} {oc27 kV27 dc27 pm27 cd27 ct27:Value} {f27:Addr}
  {od28 an28:Option Addr} {sl28:Array (Option Value)} {oc28 kV28 dc28 pm28 cd28 ct28:Value} {f28:Addr}
  {od29 an29:Option Addr} {sl29:Array (Option Value)} {oc29 kV29 dc29 pm29 cd29 ct29:Value} {f29:Addr}
  {od30 an30:Option Addr} {sl30:Array (Option Value)} {oc30 kV30 dc30 pm30 cd30 ct30:Value} {f30:Addr}
  {od31 an31:Option Addr} {sl31:Array (Option Value)} {oc31 kV31 dc31 pm31 cd31 ct31:Value} {f31:Addr}
  (a0:WF K (.ref C_House) "__init__" = some (some (.ref f0))) (l0:K.lookup f0=some ⟨oc0,od0,.func (WE "__init__" "House.__init__" (Zl Y7) (Zj Y7) (Z3 Y7) .none kV0 dc0 pm0 an0 cd0 ct0),sl0⟩) (c0:Wy K cd0 "House.__init__" = true) (k0:Wv K (.ref f0)=true) (e0:V5 K (.ref f0)=true)
  (a1:WJ K WA "_law_cell" = some (some (.ref f1))) (l1:K.lookup f1=some ⟨oc1,od1,.func (WE "_law_cell" "_law_cell" (Zl Qk) (Zj Qk) (Z3 Qk) .none kV1 dc1 pm1 an1 cd1 ct1),sl1⟩) (c1:Wy K cd1 "_law_cell" = true) (k1:Wv K (.ref f1)=true)
  (a2:WJ K WA "_law_mix" = some (some (.ref f2))) (l2:K.lookup f2=some ⟨oc2,od2,.func (WE "_law_mix" "_law_mix" (Zl Qd) (Zj Qd) (Z3 Qd) .none kV2 dc2 pm2 an2 cd2 ct2),sl2⟩) (c2:Wy K cd2 "_law_mix" = true) (k2:Wv K (.ref f2)=true)
  (a3:WF K (.ref C_House) "number" = some (some (.ref f3))) (l3:K.lookup f3=some ⟨oc3,od3,.func (WE "number" "House.number" (Zl ZQ) (Zj ZQ) (Z3 ZQ) .none kV3 dc3 pm3 an3 cd3 ct3),sl3⟩) (c3:Wy K cd3 "House.number" = true) (k3:Wv K (.ref f3)=true) (e3:V5 K (.ref f3)=true)
  (a4:WF K (.ref C_House) "count" = some (some (.ref f4))) (l4:K.lookup f4=some ⟨oc4,od4,.func (WE "count" "House.count" (Zl Y0) (Zj Y0) (Z3 Y0) .none kV4 dc4 pm4 an4 cd4 ct4),sl4⟩) (c4:Wy K cd4 "House.count" = true) (k4:Wv K (.ref f4)=true) (e4:V5 K (.ref f4)=true)
  (a5:WF K (.ref C_House) "file" = some (some (.ref f5))) (l5:K.lookup f5=some ⟨oc5,od5,.func (WE "file" "House.file" (Zl ZZ) (Zj ZZ) (Z3 ZZ) .none kV5 dc5 pm5 an5 cd5 ct5),sl5⟩) (c5:Wy K cd5 "House.file" = true) (k5:Wv K (.ref f5)=true) (e5:V5 K (.ref f5)=true)
  (a6:WJ K WA "is_gone" = some (some (.ref f6))) (l6:K.lookup f6=some ⟨oc6,od6,.func (WE "is_gone" "is_gone" (Zl Yk) (Zj Yk) (Z3 Yk) .none kV6 dc6 pm6 an6 cd6 ct6),sl6⟩) (c6:Wy K cd6 "is_gone" = true) (k6:Wv K (.ref f6)=true)
  (a7:WF K (.ref C_House) "all_files" = some (some (.ref f7))) (l7:K.lookup f7=some ⟨oc7,od7,.func (WE "all_files" "House.all_files" (Zl Zk) (Zj Zk) (Z3 Zk) .none kV7 dc7 pm7 an7 cd7 ct7),sl7⟩) (c7:Wy K cd7 "House.all_files" = true) (k7:Wv K (.ref f7)=true) (e7:V5 K (.ref f7)=true)
  (a8:WF K (.ref C_House) "files_on_shelf" = some (some (.ref f8))) (l8:K.lookup f8=some ⟨oc8,od8,.func (WE "files_on_shelf" "House.files_on_shelf" (Zl Zc) (Zj Zc) (Z3 Zc) .none kV8 dc8 pm8 an8 cd8 ct8),sl8⟩) (c8:Wy K cd8 "House.files_on_shelf" = true) (k8:Wv K (.ref f8)=true) (e8:V5 K (.ref f8)=true)
  (a9:WF K (.ref C_House) "ids" = some (some (.ref f9))) (l9:K.lookup f9=some ⟨oc9,od9,.func (WE "ids" "House.ids" (Zl Y9) (Zj Y9) (Z3 Y9) .none kV9 dc9 pm9 an9 cd9 ct9),sl9⟩) (c9:Wy K cd9 "House.ids" = true) (k9:Wv K (.ref f9)=true) (e9:V5 K (.ref f9)=true)
  (a10:WF K (.ref C_House) "gone" = some (some (.ref f10))) (l10:K.lookup f10=some ⟨oc10,od10,.func (WE "gone" "House.gone" (Zl ZY) (Zj ZY) (Z3 ZY) .none kV10 dc10 pm10 an10 cd10 ct10),sl10⟩) (c10:Wy K cd10 "House.gone" = true) (k10:Wv K (.ref f10)=true) (e10:V5 K (.ref f10)=true)
  (a11:WF K (.ref C_House) "file_on_shelf" = some (some (.ref f11))) (l11:K.lookup f11=some ⟨oc11,od11,.func (WE "file_on_shelf" "House.file_on_shelf" (Zl Za) (Zj Za) (Z3 Za) .none kV11 dc11 pm11 an11 cd11 ct11),sl11⟩) (c11:Wy K cd11 "House.file_on_shelf" = true) (k11:Wv K (.ref f11)=true) (e11:V5 K (.ref f11)=true)
  (a12:WF K (.ref C_House) "text_of" = some (some (.ref f12))) (l12:K.lookup f12=some ⟨oc12,od12,.func (WE "text_of" "House.text_of" (Zl ZE) (Zj ZE) (Z3 ZE) .none kV12 dc12 pm12 an12 cd12 ct12),sl12⟩) (c12:Wy K cd12 "House.text_of" = true) (k12:Wv K (.ref f12)=true) (e12:V5 K (.ref f12)=true)
  (a13:WJ K WA "_law_same" = some (some (.ref f13))) (l13:K.lookup f13=some ⟨oc13,od13,.func (WE "_law_same" "_law_same" (Zl YR) (Zj YR) (Z3 YR) .none kV13 dc13 pm13 an13 cd13 ct13),sl13⟩) (c13:Wy K cd13 "_law_same" = true) (k13:Wv K (.ref f13)=true)
  (a14:WJ K WA "_law_due" = some (some (.ref f14))) (l14:K.lookup f14=some ⟨oc14,od14,.func (WE "_law_due" "_law_due" (Zl QV) (Zj QV) (Z3 QV) .none kV14 dc14 pm14 an14 cd14 ct14),sl14⟩) (c14:Wy K cd14 "_law_due" = true) (k14:Wv K (.ref f14)=true)
  (a15:WJ K WA "_law_is_right" = some (some (.ref f15))) (l15:K.lookup f15=some ⟨oc15,od15,.func (WE "_law_is_right" "_law_is_right" (Zl ZO) (Zj ZO) (Z3 ZO) .none kV15 dc15 pm15 an15 cd15 ct15),sl15⟩) (c15:Wy K cd15 "_law_is_right" = true) (k15:Wv K (.ref f15)=true)
  (a16:WJ K WA "has_signs_between" = some (some (.ref f16))) (l16:K.lookup f16=some ⟨oc16,od16,.func (WE "has_signs_between" "has_signs_between" (Zl Zf) (Zj Zf) (Z3 Zf) .none kV16 dc16 pm16 an16 cd16 ct16),sl16⟩) (c16:Wy K cd16 "has_signs_between" = true) (k16:Wv K (.ref f16)=true)
  (a17:WJ K WA "is_name" = some (some (.ref f17))) (l17:K.lookup f17=some ⟨oc17,od17,.func (WE "is_name" "is_name" (Zl YY) (Zj YY) (Z3 YY) .none kV17 dc17 pm17 an17 cd17 ct17),sl17⟩) (c17:Wy K cd17 "is_name" = true) (k17:Wv K (.ref f17)=true)
  (a18:WJ K WA "refuse_no_name" = some (some (.ref f18))) (l18:K.lookup f18=some ⟨oc18,od18,.func (WE "refuse_no_name" "refuse_no_name" (Zl Zq) (Zj Zq) (Z3 Zq) .none kV18 dc18 pm18 an18 cd18 ct18),sl18⟩) (c18:Wy K cd18 "refuse_no_name" = true) (k18:Wv K (.ref f18)=true)
  (a19:WJ K WA "is_text" = some (some (.ref f19))) (l19:K.lookup f19=some ⟨oc19,od19,.func (WE "is_text" "is_text" (Zl YX) (Zj YX) (Z3 YX) .none kV19 dc19 pm19 an19 cd19 ct19),sl19⟩) (c19:Wy K cd19 "is_text" = true) (k19:Wv K (.ref f19)=true)
  (a20:WJ K WA "refuse_no_text" = some (some (.ref f20))) (l20:K.lookup f20=some ⟨oc20,od20,.func (WE "refuse_no_text" "refuse_no_text" (Zl Zp) (Zj Zp) (Z3 Zp) .none kV20 dc20 pm20 an20 cd20 ct20),sl20⟩) (c20:Wy K cd20 "refuse_no_text" = true) (k20:Wv K (.ref f20)=true)
  (a21:WF K (.ref C_House) "next_mark" = some (some (.ref f21))) (l21:K.lookup f21=some ⟨oc21,od21,.func (WE "next_mark" "House.next_mark" (Zl Zh) (Zj Zh) (Z3 Zh) .none kV21 dc21 pm21 an21 cd21 ct21),sl21⟩) (c21:Wy K cd21 "House.next_mark" = true) (k21:Wv K (.ref f21)=true) (e21:V5 K (.ref f21)=true)
  (a22:WF K (.ref C_House) "make" = some (some (.ref f22))) (l22:K.lookup f22=some ⟨oc22,od22,.func (WE "make" "House.make" (Zl Y6) (Zj Y6) (Z3 Y6) .none kV22 dc22 pm22 an22 cd22 ct22),sl22⟩) (c22:Wy K cd22 "House.make" = true) (k22:Wv K (.ref f22)=true) (e22:V5 K (.ref f22)=true)
  (a23:WJ K WA "greater_counts" = some (some (.ref f23))) (l23:K.lookup f23=some ⟨oc23,od23,.func (WE "greater_counts" "greater_counts" (Zl Zx) (Zj Zx) (Z3 Zx) .none kV23 dc23 pm23 an23 cd23 ct23),sl23⟩) (c23:Wy K cd23 "greater_counts" = true) (k23:Wv K (.ref f23)=true)
  (a24:WF K (.ref C_House) "change" = some (some (.ref f24))) (l24:K.lookup f24=some ⟨oc24,od24,.func (WE "change" "House.change" (Zl Zu) (Zj Zu) (Z3 Zu) .none kV24 dc24 pm24 an24 cd24 ct24),sl24⟩) (c24:Wy K cd24 "House.change" = true) (k24:Wv K (.ref f24)=true) (e24:V5 K (.ref f24)=true)
  (a25:WF K (.ref C_House) "write" = some (some (.ref f25))) (l25:K.lookup f25=some ⟨oc25,od25,.func (WE "write" "House.write" (Zl ZX) (Zj ZX) (Z3 ZX) .none kV25 dc25 pm25 an25 cd25 ct25),sl25⟩) (c25:Wy K cd25 "House.write" = true) (k25:Wv K (.ref f25)=true) (e25:V5 K (.ref f25)=true)
  (a26:WF K (.ref C_House) "rename" = some (some (.ref f26))) (l26:K.lookup f26=some ⟨oc26,od26,.func (WE "rename" "House.rename" (Zl ZP) (Zj ZP) (Z3 ZP) .none kV26 dc26 pm26 an26 cd26 ct26),sl26⟩) (c26:Wy K cd26 "House.rename" = true) (k26:Wv K (.ref f26)=true) (e26:V5 K (.ref f26)=true)
  (a27:WF K (.ref C_House) "drop" = some (some (.ref f27))) (l27:K.lookup f27=some ⟨oc27,od27,.func (WE "drop" "House.drop" (Zl Y8) (Zj Y8) (Z3 Y8) .none kV27 dc27 pm27 an27 cd27 ct27),sl27⟩) (c27:Wy K cd27 "House.drop" = true) (k27:Wv K (.ref f27)=true) (e27:V5 K (.ref f27)=true)
  (a28:WJ K WA "_law_name" = some (some (.ref f28))) (l28:K.lookup f28=some ⟨oc28,od28,.func (WE "_law_name" "_law_name" (Zl Q8) (Zj Q8) (Z3 Q8) .none kV28 dc28 pm28 an28 cd28 ct28),sl28⟩) (c28:Wy K cd28 "_law_name" = true) (k28:Wv K (.ref f28)=true)
  (a29:WJ K WA "_law_text" = some (some (.ref f29))) (l29:K.lookup f29=some ⟨oc29,od29,.func (WE "_law_text" "_law_text" (Zl Q7) (Zj Q7) (Z3 Q7) .none kV29 dc29 pm29 an29 cd29 ct29),sl29⟩) (c29:Wy K cd29 "_law_text" = true) (k29:Wv K (.ref f29)=true)
  (a30:WJ K WA "_law_act" = some (some (.ref f30))) (l30:K.lookup f30=some ⟨oc30,od30,.func (WE "_law_act" "_law_act" (Zl QA) (Zj QA) (Z3 QA) .none kV30 dc30 pm30 an30 cd30 ct30),sl30⟩) (c30:Wy K cd30 "_law_act" = true) (k30:Wv K (.ref f30)=true)
  (a31:WJ K WA "law" = some (some (.ref f31))) (l31:K.lookup f31=some ⟨oc31,od31,.func (WE "law" "law" (Zl U7) (Zj U7) (Z3 U7) .none kV31 dc31 pm31 an31 cd31 ct31),sl31⟩) (c31:Wy K cd31 "law" = true) (k31:Wv K (.ref f31)=true)
  (z_all:WJ K WA "all" = some none)
  (z_bool:WJ K WA "bool" = some none)
  (z_dict:WJ K WA "dict" = some none)
  (z_enumerate:WJ K WA "enumerate" = some none)
  (z_int:WJ K WA "int" = some none)
  (z_isinstance:WJ K WA "isinstance" = some none)
  (z_len:WJ K WA "len" = some none)
  (z_max:WJ K WA "max" = some none)
  (z_range:WJ K WA "range" = some none)
  (z_sorted:WJ K WA "sorted" = some none)
  (z_str:WJ K WA "str" = some none)
  (z_tuple:WJ K WA "tuple" = some none)
  (z_zip:WJ K WA "zip" = some none)
  {t_LONGEST_NAME:Tok} (y_LONGEST_NAME:WJ K WA "LONGEST_NAME" = some (some (.int 6 t_LONGEST_NAME)))
  {t_LONGEST_TEXT:Tok} (y_LONGEST_TEXT:WJ K WA "LONGEST_TEXT" = some (some (.int 60 t_LONGEST_TEXT))) :
  ∃fd:FuncData,(∀(s:Shared) (v:Value),BindsTo s fd ⟨[v],[]⟩ [("_law_script",v)])/\∀base:Heap,K.In base->base.Ns WA mg->FnOk l.prog w K mg base CX0 15 fa fd ["_law_script"] (spD K 1 F_law):=by
 have e:=hfa.symm.trans (WY X G a31)
 cases e;have T:Txt K mg C_House:=⟨⟨cg_House,⟨ca_House,cb_House,cc_House,ce_House⟩⟩,WY X G cg_House,cn_House_acts,cn_House_files,cn_House_own_number,cn_House_told,WZ X G z_all,WZ X G z_bool,WZ X G z_dict,WZ X G z_enumerate,WZ X G z_int,WZ X G z_isinstance,WZ X G z_len,WZ X G z_max,WZ X G z_range,WZ X G z_sorted,WZ X G z_str,WZ X G z_tuple,WZ X G z_zip,⟨_,WY X G y_LONGEST_NAME⟩,⟨_,WY X G y_LONGEST_TEXT⟩⟩
 have Fn0:=ZR (st:=Y7) l0 c0 k0
 have O_9:OwnI K C_House "House.__init__" Y7 _ _ ["self", "number"]:=⟨Fn0,⟨cm_House,a0,e0,ck_House⟩,Fn0.binds (ps:=["self", "number"]) λ_ _ _ _ _ _ us hl=>match us,hl with|[_,_],_=>rfl⟩
 have Fn1:=ZR (st:=Qk) l1 c1 k1
 have O_17:Own K mg "_law_cell" Qk _ _ ["_law_script", "_law_k"]:=⟨Fn1,WY X G a1,Fn1.binds (ps:=["_law_script", "_law_k"]) λ_ _ _ _ _ _ us hl=>match us,hl with|[_,_],_=>rfl⟩
 have Fn2:=ZR (st:=Qd) l2 c2 k2
 have O_20:Own K mg "_law_mix" Qd _ _ ["_law_cell_here", "_law_prime", "_law_many"]:=⟨Fn2,WY X G a2,Fn2.binds (ps:=["_law_cell_here", "_law_prime", "_law_many"]) λ_ _ _ _ _ _ us hl=>match us,hl with|[_,_,_],_=>rfl⟩
 have Fn3:=ZR (st:=ZQ) l3 c3 k3
 have O_12:OwnM K C_House "number" "House.number" ZQ _ _ ["self"]:=⟨Fn3,⟨a3,e3,k3⟩,Fn3.binds (ps:=["self"]) λ_ _ _ _ _ _ us hl=>match us,hl with|[_],_=>rfl⟩
 have Fn4:=ZR (st:=Y0) l4 c4 k4
 have O_2:OwnM K C_House "count" "House.count" Y0 _ _ ["self"]:=⟨Fn4,⟨a4,e4,k4⟩,Fn4.binds (ps:=["self"]) λ_ _ _ _ _ _ us hl=>match us,hl with|[_],_=>rfl⟩
 have Fn5:=ZR (st:=ZZ) l5 c5 k5
 have O_4:OwnM K C_House "file" "House.file" ZZ _ _ ["self", "which"]:=⟨Fn5,⟨a5,e5,k5⟩,Fn5.binds (ps:=["self", "which"]) λ_ _ _ _ _ _ us hl=>match us,hl with|[_,_],_=>rfl⟩
 have Fn6:=ZR (st:=Yk) l6 c6 k6
 have O_26:Own K mg "is_gone" Yk _ _ ["file"]:=⟨Fn6,WY X G a6,Fn6.binds (ps:=["file"]) λ_ _ _ _ _ _ us hl=>match us,hl with|[_],_=>rfl⟩
 have Fn7:=ZR (st:=Zk) l7 c7 k7
 have O_0:OwnM K C_House "all_files" "House.all_files" Zk _ _ ["self"]:=⟨Fn7,⟨a7,e7,k7⟩,Fn7.binds (ps:=["self"]) λ_ _ _ _ _ _ us hl=>match us,hl with|[_],_=>rfl⟩
 have Fn8:=ZR (st:=Zc) l8 c8 k8
 have O_6:OwnM K C_House "files_on_shelf" "House.files_on_shelf" Zc _ _ ["self"]:=⟨Fn8,⟨a8,e8,k8⟩,Fn8.binds (ps:=["self"]) λ_ _ _ _ _ _ us hl=>match us,hl with|[_],_=>rfl⟩
 have Fn9:=ZR (st:=Y9) l9 c9 k9
 have O_8:OwnM K C_House "ids" "House.ids" Y9 _ _ ["self"]:=⟨Fn9,⟨a9,e9,k9⟩,Fn9.binds (ps:=["self"]) λ_ _ _ _ _ _ us hl=>match us,hl with|[_],_=>rfl⟩
 have Fn10:=ZR (st:=ZY) l10 c10 k10
 have O_7:OwnM K C_House "gone" "House.gone" ZY _ _ ["self"]:=⟨Fn10,⟨a10,e10,k10⟩,Fn10.binds (ps:=["self"]) λ_ _ _ _ _ _ us hl=>match us,hl with|[_],_=>rfl⟩
 have Fn11:=ZR (st:=Za) l11 c11 k11
 have O_5:OwnM K C_House "file_on_shelf" "House.file_on_shelf" Za _ _ ["self", "which"]:=⟨Fn11,⟨a11,e11,k11⟩,Fn11.binds (ps:=["self", "which"]) λ_ _ _ _ _ _ us hl=>match us,hl with|[_,_],_=>rfl⟩
 have Fn12:=ZR (st:=ZE) l12 c12 k12
 have O_14:OwnM K C_House "text_of" "House.text_of" ZE _ _ ["self", "which"]:=⟨Fn12,⟨a12,e12,k12⟩,Fn12.binds (ps:=["self", "which"]) λ_ _ _ _ _ _ us hl=>match us,hl with|[_,_],_=>rfl⟩
 have Fn13:=ZR (st:=YR) l13 c13 k13
 have O_22:Own K mg "_law_same" YR _ _ ["_law_found", "_law_due_here"]:=⟨Fn13,WY X G a13,Fn13.binds (ps:=["_law_found", "_law_due_here"]) λ_ _ _ _ _ _ us hl=>match us,hl with|[_,_],_=>rfl⟩
 have Fn14:=ZR (st:=QV) l14 c14 k14
 have O_18:Own K mg "_law_due" QV _ _ ["_law_number", "_law_which", "_law_file"]:=⟨Fn14,WY X G a14,Fn14.binds (ps:=["_law_number", "_law_which", "_law_file"]) λ_ _ _ _ _ _ us hl=>match us,hl with|[_,_,_],_=>rfl⟩
 have Fn15:=ZR (st:=ZO) l15 c15 k15
 have O_19:Own K mg "_law_is_right" ZO _ _ ["_law_house", "_law_number", "_law_many", "_law_files"]:=⟨Fn15,WY X G a15,Fn15.binds (ps:=["_law_house", "_law_number", "_law_many", "_law_files"]) λ_ _ _ _ _ _ us hl=>match us,hl with|[_,_,_,_],_=>rfl⟩
 have Fn16:=ZR (st:=Zf) l16 c16 k16
 have O_25:Own K mg "has_signs_between" Zf _ _ ["text", "least", "greatest"]:=⟨Fn16,WY X G a16,Fn16.binds (ps:=["text", "least", "greatest"]) λ_ _ _ _ _ _ us hl=>match us,hl with|[_,_,_],_=>rfl⟩
 have Fn17:=ZR (st:=YY) l17 c17 k17
 have O_27:Own K mg "is_name" YY _ _ ["thing"]:=⟨Fn17,WY X G a17,Fn17.binds (ps:=["thing"]) λ_ _ _ _ _ _ us hl=>match us,hl with|[_],_=>rfl⟩
 have Fn18:=ZR (st:=Zq) l18 c18 k18
 have O_30:Own K mg "refuse_no_name" Zq _ _ ["thing"]:=⟨Fn18,WY X G a18,Fn18.binds (ps:=["thing"]) λ_ _ _ _ _ _ us hl=>match us,hl with|[_],_=>rfl⟩
 have Fn19:=ZR (st:=YX) l19 c19 k19
 have O_28:Own K mg "is_text" YX _ _ ["thing"]:=⟨Fn19,WY X G a19,Fn19.binds (ps:=["thing"]) λ_ _ _ _ _ _ us hl=>match us,hl with|[_],_=>rfl⟩
 have Fn20:=ZR (st:=Zp) l20 c20 k20
 have O_31:Own K mg "refuse_no_text" Zp _ _ ["thing"]:=⟨Fn20,WY X G a20,Fn20.binds (ps:=["thing"]) λ_ _ _ _ _ _ us hl=>match us,hl with|[_],_=>rfl⟩
 have Fn21:=ZR (st:=Zh) l21 c21 k21
 have O_11:OwnM K C_House "next_mark" "House.next_mark" Zh _ _ ["self"]:=⟨Fn21,⟨a21,e21,k21⟩,Fn21.binds (ps:=["self"]) λ_ _ _ _ _ _ us hl=>match us,hl with|[_],_=>rfl⟩
 have Fn22:=ZR (st:=Y6) l22 c22 k22
 have O_10:OwnM K C_House "make" "House.make" Y6 _ _ ["self", "name", "text"]:=⟨Fn22,⟨a22,e22,k22⟩,Fn22.binds (ps:=["self", "name", "text"]) λ_ _ _ _ _ _ us hl=>match us,hl with|[_,_,_],_=>rfl⟩
 have Fn23:=ZR (st:=Zx) l23 c23 k23
 have O_24:Own K mg "greater_counts" Zx _ _ ["known", "other"]:=⟨Fn23,WY X G a23,Fn23.binds (ps:=["known", "other"]) λ_ _ _ _ _ _ us hl=>match us,hl with|[_,_],_=>rfl⟩
 have Fn24:=ZR (st:=Zu) l24 c24 k24
 have O_1:OwnM K C_House "change" "House.change" Zu _ _ ["self", "file", "mark", "names", "texts"]:=⟨Fn24,⟨a24,e24,k24⟩,Fn24.binds (ps:=["self", "file", "mark", "names", "texts"]) λ_ _ _ _ _ _ us hl=>match us,hl with|[_,_,_,_,_],_=>rfl⟩
 have Fn25:=ZR (st:=ZX) l25 c25 k25
 have O_15:OwnM K C_House "write" "House.write" ZX _ _ ["self", "which", "text"]:=⟨Fn25,⟨a25,e25,k25⟩,Fn25.binds (ps:=["self", "which", "text"]) λ_ _ _ _ _ _ us hl=>match us,hl with|[_,_,_],_=>rfl⟩
 have Fn26:=ZR (st:=ZP) l26 c26 k26
 have O_13:OwnM K C_House "rename" "House.rename" ZP _ _ ["self", "which", "name"]:=⟨Fn26,⟨a26,e26,k26⟩,Fn26.binds (ps:=["self", "which", "name"]) λ_ _ _ _ _ _ us hl=>match us,hl with|[_,_,_],_=>rfl⟩
 have Fn27:=ZR (st:=Y8) l27 c27 k27
 have O_3:OwnM K C_House "drop" "House.drop" Y8 _ _ ["self", "which"]:=⟨Fn27,⟨a27,e27,k27⟩,Fn27.binds (ps:=["self", "which"]) λ_ _ _ _ _ _ us hl=>match us,hl with|[_,_],_=>rfl⟩
 have Fn28:=ZR (st:=Q8) l28 c28 k28
 have O_21:Own K mg "_law_name" Q8 _ _ ["_law_cell_here"]:=⟨Fn28,WY X G a28,Fn28.binds (ps:=["_law_cell_here"]) λ_ _ _ _ _ _ us hl=>match us,hl with|[_],_=>rfl⟩
 have Fn29:=ZR (st:=Q7) l29 c29 k29
 have O_23:Own K mg "_law_text" Q7 _ _ ["_law_cell_here"]:=⟨Fn29,WY X G a29,Fn29.binds (ps:=["_law_cell_here"]) λ_ _ _ _ _ _ us hl=>match us,hl with|[_],_=>rfl⟩
 have Fn30:=ZR (st:=QA) l30 c30 k30
 have O_16:Own K mg "_law_act" QA _ _ ["_law_house", "_law_number", "_law_many", "_law_files", "_law_cell_here", "_law_kind"]:=⟨Fn30,WY X G a30,Fn30.binds (ps:=["_law_house", "_law_number", "_law_many", "_law_files", "_law_cell_here", "_law_kind"]) λ_ _ _ _ _ _ us hl=>match us,hl with|[_,_,_,_,_,_],_=>rfl⟩
 have Fn31:=ZR (st:=U7) l31 c31 k31
 have O_29:Own K mg "law" U7 _ _ ["_law_script"]:=⟨Fn31,WY X G a31,Fn31.binds (ps:=["_law_script"]) λ_ _ _ _ _ _ us hl=>match us,hl with|[_],_=>rfl⟩
 refine⟨WE "law" "law" (Zl U7) (Zj U7) (Z3 U7) .none kV31 dc31 pm31 an31 cd31 ct31,λs v=>.of_eq rfl,λbase _ _=>?_⟩
 have G_9:=Z05 (P:=l.prog) (w:=w) (base:=base) T O_9
 have G_17:=Ol (P:=l.prog) (w:=w) (base:=base) T O_17
 have G_20:=Oh (P:=l.prog) (w:=w) (base:=base) T O_20
 have G_12:=Oq (P:=l.prog) (w:=w) (base:=base) T O_12
 have G_2:=Z0c (P:=l.prog) (w:=w) (base:=base) T O_2
 have G_4:=Z0a (P:=l.prog) (w:=w) (base:=base) T O_4
 have G_26:=Oc (P:=l.prog) (w:=w) (base:=base) T O_26
 have G_0:=Z0e (P:=l.prog) (w:=w) (base:=base) T O_0
 have G_6:=Z08 (P:=l.prog) (w:=w) (base:=base) T O_6 O_26 G_26 O_0 G_0
 have G_8:=Z06 (P:=l.prog) (w:=w) (base:=base) T O_8 O_6 G_6
 have G_7:=Z07 (P:=l.prog) (w:=w) (base:=base) T O_7 O_26 G_26 O_0 G_0
 have G_5:=Z09 (P:=l.prog) (w:=w) (base:=base) T O_5 O_26 G_26 O_4 G_4
 have G_14:=Oo (P:=l.prog) (w:=w) (base:=base) T O_14 O_5 G_5
 have G_22:=HS (P:=l.prog) (w:=w) (base:=base) T O_22 12
 have G_18:=Oj (P:=l.prog) (w:=w) (base:=base) T O_18
 have G_19:=Oi (P:=l.prog) (w:=w) (base:=base) T O_19 O_12 G_12 O_2 G_2 O_4 G_4 O_8 G_8 O_7 G_7 O_14 G_14 O_22 G_22 O_18 G_18
 have G_25:=Od (P:=l.prog) (w:=w) (base:=base) T O_25
 have G_27:=Oa (P:=l.prog) (w:=w) (base:=base) T O_27 O_25 G_25
 have G_30:=O7 (P:=l.prog) (w:=w) (base:=base) T O_30 O_27 G_27
 have G_28:=O9 (P:=l.prog) (w:=w) (base:=base) T O_28 O_25 G_25
 have G_31:=O6 (P:=l.prog) (w:=w) (base:=base) T O_31 O_28 G_28
 have G_11:=Os (P:=l.prog) (w:=w) (base:=base) T O_11
 have G_10:=Ot (P:=l.prog) (w:=w) (base:=base) T O_10 O_30 G_30 O_31 G_31 O_11 G_11
 have G_24:=Oe (P:=l.prog) (w:=w) (base:=base) T O_24
 have G_1:=Z0d (P:=l.prog) (w:=w) (base:=base) T O_1 O_24 G_24
 have G_15:=On (P:=l.prog) (w:=w) (base:=base) T O_15 O_31 G_31 O_11 G_11 O_1 G_1 O_5 G_5
 have G_13:=Op (P:=l.prog) (w:=w) (base:=base) T O_13 O_30 G_30 O_11 G_11 O_1 G_1 O_5 G_5
 have G_3:=Z0b (P:=l.prog) (w:=w) (base:=base) T O_3 O_11 G_11 O_1 G_1 O_5 G_5
 have G_21:=Og (P:=l.prog) (w:=w) (base:=base) T O_21 O_20 G_20
 have G_23:=Of (P:=l.prog) (w:=w) (base:=base) T O_23 O_20 G_20
 have G_16:=Om (P:=l.prog) (w:=w) (base:=base) T O_16 O_10 G_10 O_15 G_15 O_13 G_13 O_3 G_3 O_20 G_20 O_21 G_21 O_23 G_23 O_22 G_22
 exact O8 T O_29 O_9 G_9 O_17 G_17 O_20 G_20 O_19 G_19 O_16 G_16
end K07
namespace DL
open PySem L2
theorem PR {a:M D}{en:En}{S S1:Sto}{n:Nat}{kvs:List (D×D)}(h1:a en S=some (.ref n,S1))(h3:S1[n]? = some (.dct kvs))(ok:Ic kvs=true):Th a en S=some (Qq (Pu (kvs.map (·.1)) (kvs.map (·.2))),S1):=by
 unfold Th;rw [h1,WK];dsimp only;rw [h3];dsimp only;rw [if_pos ok]
theorem Ky {l L:List D}(hc:Qi 30 l)(hp:l.Perm L)(hs:L.Pairwise leD):Qq l=L:=GI hc ((Qv l).trans hp) (Jt hc λ_ h=>h) hs λa ha=>(Qv l).mem_iff.mp ha
end DL
namespace K07
open PySem L2 DL
theorem QO {c p m:Int}{S:Sto}(hp:0<p)(hm:0<m):ZV [.int c,.int p,.int m] S=some (.int (c*48271%p%m),S):=by
 unfold ZV;simp only [EVS,W7,W8,Wd,W4,We,Wg,W9,Wa,W6,↓reduceIte,reduceCtorEq,W0,Wb,W5,Ik,J3,hp,hm]
theorem Pk (ns:List Int)(k:Nat):∃c:Int,∀S,Yh [.scr ns,.int k] S=some (.int c,S):=by
 by_cases h:k<ns.length
 ·refine⟨ns[k],λS=>?_⟩
  unfold Yh;simp only [EVS,W7,W8,Wd,W4,We,Wg,W9,Wa,W6,↓reduceIte,reduceCtorEq,W0,Wb,W5,EQ,Ls,Int.ofNat_lt,h,gIx,Gs (Wm h)]
 ·refine⟨0,λS=>?_⟩
  unfold Yh;simp only [EVS,W7,W8,Wd,W4,We,Wg,W9,Wa,W6,↓reduceIte,reduceCtorEq,W0,Wb,W5,EQ,Ls,Int.ofNat_lt,h]
def btw (lo hi:Nat)(x:Str):Bool:=(cs x).all λc=>decide (lo<=c)&&decide (c<=hi)
theorem S9 (a b:Nat)(S:Sto):gLe (.str ⟨#[a]⟩) (.str ⟨#[b]⟩) S=some (.bl (decide (a<=b)),S):=by
 rw [OK];have:(!decide ((⟨#[b]⟩:Str).cps.toList<(⟨#[a]⟩:Str).cps.toList))=decide (a<=b):=by
  have h:((⟨#[b]⟩:Str).cps.toList<(⟨#[a]⟩:Str).cps.toList)↔b<a:=S5 b a
  by_cases hb:b<a
  ·rw [decide_eq_true (h.mpr hb),decide_eq_false (by omega)];rfl
  ·rw [decide_eq_false (λz=>hb (h.mp z)),decide_eq_true (by omega)];rfl
 rw [this]
theorem KF {x:Str}{lo hi:Nat}{S:Sto}(hx:x.length<=Wc):Zs [.str x,.str ⟨#[lo]⟩,.str ⟨#[hi]⟩] S=some (.bl (btw lo hi x),S):=by
 unfold Zs;simp only [EVS,W7,W8,Wd,W4,We,Wg,W9,Wa,W6,↓reduceIte,reduceCtorEq,W0,Wb,W5]
 rw [QI (cs x) (λc=>D.str ⟨#[c]⟩) (λc=>D.bl (decide (lo<=c)&&decide (c<=hi))) UM (by rw [<-J1];exact hx) λc hc=>⟨_,rfl,?_⟩]
 ·have e:(cs x).map (λc=>D.bl (decide (lo<=c)&&decide (c<=hi)))=((cs x).map λc=>(decide (lo<=c)&&decide (c<=hi))).map D.bl:=by rw [Vp];rfl
  rw [e,Sx];simp only [EVS,W7,W8,Wd,W4,We,Wg,W9,Wa,W6,↓reduceIte,reduceCtorEq,W0,Wb,W5,btw,W1b]
  rfl
 ·simp only [Q1,EVS,W7,W8,Wd,W4,We,Wg,W9,Wa,W6,↓reduceIte,reduceCtorEq,W0,Wb,W5,S9]
  by_cases h:lo<=c<;>simp [h]
theorem oa:(Wp "a")=⟨#[97]⟩:=by decide +kernel
theorem oz:(Wp "z")=⟨#[122]⟩:=by decide +kernel
theorem obl:(Wp " ")=⟨#[32]⟩:=by decide +kernel
theorem oti:(Wp "~")=⟨#[126]⟩:=by decide +kernel
def Mi (x:Str):Bool:=decide (1<=(cs x).length)&&(decide ((cs x).length<=6)&&btw 97 122 x)
def To (x:Str):Bool:=decide ((cs x).length<=60)&&btw 32 126 x
theorem QF (x:Str)(S:Sto):EU "str" (some (.str x,S))=some (.bl true,S):=rfl
theorem EG {x:Str}{S:Sto}(hx:x.length<=Wc):J9 [.str x] S=some (.bl (Mi x),S):=by
 unfold J9 Mi;rw [J1] at hx;by_cases h1:1<=(cs x).length
 ·have i1:(1:Int)<=((cs x).length:Int):=by omega
  by_cases h2:(cs x).length<=6
  ·have i2:((cs x).length:Int)<=6:=by omega
   simp only [EVS,W7,W8,Wd,W4,We,Wg,W9,Wa,W6,↓reduceIte,reduceCtorEq,W0,Wb,W5,QF,Tk,J1,hx,oa,oz,KF,h1,h2,i1,i2,W0x]
  ·have i2:¬((cs x).length:Int)<=6:=by omega
   simp only [EVS,W7,W8,Wd,W4,We,Wg,W9,Wa,W6,↓reduceIte,reduceCtorEq,W0,Wb,W5,QF,Tk,J1,hx,oa,oz,KF,h1,h2,i1,i2,W0x,W1d]
 ·have i1:¬(1:Int)<=((cs x).length:Int):=by omega
  simp only [EVS,W7,W8,Wd,W4,We,Wg,W9,Wa,W6,↓reduceIte,reduceCtorEq,W0,Wb,W5,QF,Tk,J1,hx,oa,oz,KF,h1,i1,W0x,W1d]
theorem AT {x:Str}{S:Sto}(hx:x.length<=Wc):J8 [.str x] S=some (.bl (To x),S):=by
 unfold J8 To;rw [J1] at hx;by_cases h2:(cs x).length<=60
 ·have i2:((cs x).length:Int)<=60:=by omega
  simp only [EVS,W7,W8,Wd,W4,We,Wg,W9,Wa,W6,↓reduceIte,reduceCtorEq,W0,Wb,W5,QF,Tk,J1,hx,obl,oti,KF,h2,i2,W0x]
 ·have i2:¬((cs x).length:Int)<=60:=by omega
  simp only [EVS,W7,W8,Wd,W4,We,Wg,W9,Wa,W6,↓reduceIte,reduceCtorEq,W0,Wb,W5,QF,Tk,J1,hx,obl,oti,KF,h2,i2,W0x,W1d]
theorem ixS {z:Str}{i:Int}{S:Sto}(hz:z.length<=Wc)(h0:0<=i)(h1:i<(cs z).length):gIx (.str z) (.int i) S=some (.str ⟨#[(cs z).getD i.toNat 0]⟩,S):=by
 obtain⟨a,ha,e1,e2⟩:=D7 (xs:=cs z) h0 h1
 show (if z.length<=Wc then (atI (cs z) i).map λc=>(D.str ⟨#[c]⟩,S) else none)=_
 rw [if_pos hz,e2];have:(cs z).getD i.toNat 0=a:=by simp [W0v,e1]
 rw [this];rfl
def Pv (z:Str)(c p:Int)(k:Nat):Nat:=(cs z).getD ((c+7*(k:Int))*48271%p%((cs z).length:Int)).toNat 0
theorem TX {z:Str}{c p:Int}{k:Nat}(hz:0<(cs z).length):Pv z c p k∈cs z:=by
 unfold Pv;have h0:=VJ ((c+7*(k:Int))*48271%p) (b:=((cs z).length:Int)) (by omega)
 have h1:=Vn ((c+7*(k:Int))*48271%p) (b:=((cs z).length:Int)) (by omega)
 have hj:((c+7*(k:Int))*48271%p%((cs z).length:Int)).toNat<(cs z).length:=by omega
 rw [Vd,Wm hj];exact VA hj
theorem QW {z:Str}{c p:Int}{n:Nat}{S:Sto}(hz:0<(cs z).length)(hz2:(cs z).length<=Wc)(hp:0<p)(hn:n<=1000) :
  RL (Wp "") (Yd (BO 0 n) .no [none,some (.int c),some (.str z)] (gN 0) QR (mOp gIx (Z4 2) (ZK ZV (Z2 (mOp Ue (Z4 1) (mOp P5 (Zn (D.int (7))) (Z4 0))) (Z2 (Zn (D.int p)) (Z2 (N9 (Z4 2)) Zo))))) (BO 0 n) [] S)
   = some (.str ⟨((Wo n).map (Pv z c p)).toArray⟩,S):=by
 have hl:n<=Wc:=V2 hn (by decide)
 have hs:z.length<=Wc:=by rw [J1];exact hz2
 rw [TN,QI (Wo n) (λk=>D.int (k:Nat)) (λk=>D.str ⟨#[Pv z c p k]⟩) UM (by simpa using hl) λk hk=>⟨_,rfl,?_⟩]
 ·have e:(Wo n).map (λk=>D.str ⟨#[Pv z c p k]⟩)=((Wo n).map λk=>(⟨#[Pv z c p k]⟩:Str)).map D.str:=by rw [Vp];rfl
  have hsum:∀(l:List Nat),((l.map λk=>(⟨#[Pv z c p k]⟩:Str)).map (·.length)).sum=l.length:=by
   intro l
   induction l with
   |nil=>rfl
   |cons a l ih=>rw [W0,W0,List.sum_cons,ih,WR];show 1+_=_;omega
  have he:(Wp "").length=0:=by decide +kernel
  rw [e,ER (by rw [hsum,he];simp;omega)]
  congr 2
  congr 1
  apply AX
  rw [Go,Ny]
  generalize Wo n=l
  induction l with
  |nil=>rfl
  |cons a l ih=>rw [W0,List.flatMap_cons,ih];rfl
 ·have h0:=VJ ((c+7*(k:Int))*48271%p) (b:=((cs z).length:Int)) (by omega)
  have h1:=Vn ((c+7*(k:Int))*48271%p) (b:=((cs z).length:Int)) (by omega)
  have hz':(0:Int)<((cs z).length:Int):=by omega
  simp only [EVS,W7,W8,Wd,W4,We,Wg,W9,Wa,W6,↓reduceIte,reduceCtorEq,W0,Wb,W5,Ai,Tk,J1,hz2,QO,hp,hz']
  rw [ixS hs h0 h1];rfl
theorem EF (c:Int):∃x,(1<=(cs x).length/\(cs x).length<=6)/\(∀ch∈cs x,97<=ch/\ch<=122)/\∀S,QK [.int c] S=some (.str x,S):=by
 have ha:cs (Wp "abcdefghijklmnopqrstuvwxyz")=(Wo 26).map (· + 97):=by decide +kernel
 have hab:cs (Wp "ab")=[97,98]:=by decide +kernel
 have m0:=VJ (c*48271%9973) (b:=6) (by decide)
 have m1:=Vn (c*48271%9973) (b:=6) (by decide)
 by_cases h3:c%3=0
 ·have n0:=VJ (1+c*48271%9973%6) (b:=2) (by decide)
  have n1:=Vn (1+c*48271%9973%6) (b:=2) (by decide)
  generalize hn:1+(1+c*48271%9973%6)%2=n at *
  refine⟨⟨((Wo n.toNat).map (Pv (Wp "ab") c 9967)).toArray⟩,?_,?_,λS=>?_⟩
  ·rw [Ny];simp;omega
  ·rw [Ny]
   intro ch hch;obtain⟨k,_,rfl⟩:=Vw.mp hch
   have:=TX (z:=Wp "ab") (c:=c) (p:=9967) (k:=k) (by rw [hab];decide)
   rw [hab] at this;simp at this
   omega
  ·unfold QK
   have hr : -(2 ^ 62)<=n/\n<2 ^ 62:=by omega
   simp only [EVS,W7,W8,Wd,W4,We,Wg,W9,Wa,W6,↓reduceIte,reduceCtorEq,W0,Wb,W5,QO,J3,h3,hn,Bd hr,JT]
   rw [QW (by rw [hab];decide) (by rw [hab];decide) (by decide) (by omega)]
   simp only [EVS,W7,W8,Wd,W4,We,Wg,W9,Wa,W6,↓reduceIte,reduceCtorEq,W0,Wb,W5]
 ·generalize hn:1+c*48271%9973%6=n at *
  refine⟨⟨((Wo n.toNat).map (Pv (Wp "abcdefghijklmnopqrstuvwxyz") c 9967)).toArray⟩,?_,?_,λS=>?_⟩
  ·rw [Ny];simp;omega
  ·rw [Ny]
   intro ch hch;obtain⟨k,_,rfl⟩:=Vw.mp hch
   have:=TX (z:=Wp "abcdefghijklmnopqrstuvwxyz") (c:=c) (p:=9967) (k:=k) (by rw [ha];decide)
   rw [ha] at this;simp at this
   omega
  ·unfold QK
   have hr : -(2 ^ 62)<=n/\n<2 ^ 62:=by omega
   simp only [EVS,W7,W8,Wd,W4,We,Wg,W9,Wa,W6,↓reduceIte,reduceCtorEq,W0,Wb,W5,QO,J3,h3,hn,Bd hr,JT]
   rw [QW (by rw [ha];decide) (by rw [ha];decide) (by decide) (by omega)]
   simp only [EVS,W7,W8,Wd,W4,We,Wg,W9,Wa,W6,↓reduceIte,reduceCtorEq,W0,Wb,W5]
theorem text_of (c:Int):∃x,(cs x).length<=60/\(∀ch∈cs x,32<=ch/\ch<=126)/\∀S,Yr [.int c] S=some (.str x,S):=by
 generalize hz : Wp " !\"#$&'()*+,-./0123456789:;<=>?\x40ABCDEFGHIJKLMNOPQRSTUVWXYZ[\\]^_`abcdefghijklmnopqrstuvwxyz{|}~" = z
 have hz1:(cs z).length=94:=by rw [<-hz];decide +kernel
 have hz2:∀ch∈cs z,32<=ch/\ch<=126:=by rw [<-hz];decide +kernel
 by_cases h4:c%4=0
 ·have m0:=VJ (c*48271%9929) (b:=3) (by decide)
  have m1:=Vn (c*48271%9929) (b:=3) (by decide)
  have key:∀x,(cs x).length<=60->(∀ch∈cs x,32<=ch/\ch<=126)->(∀S,gIx (.tup [.str (Wp ""),.str (Wp "a"),.str (Wp "hi;")]) (.int (c*48271%9929%3)) S=some (.str x,S))->
    ∃x,(cs x).length<=60/\(∀ch∈cs x,32<=ch/\ch<=126)/\∀S,Yr [.int c] S=some (.str x,S):=by
   intro x h1 h2 h3;refine⟨x,h1,h2,λS=>?_⟩
   unfold Yr;by_cases g0:c*48271%9941%9=0
   ·simp only [EVS,W7,W8,Wd,W4,We,Wg,W9,Wa,W6,↓reduceIte,reduceCtorEq,W0,Wb,W5,QO,J3,h4,g0,Jj (show [D.str (Wp ""),.str (Wp "a"),.str (Wp "hi;")].length<=Wc by decide),h3,Int.reduceEq]
   ·by_cases g1:c*48271%9941%9=1
    ·simp only [EVS,W7,W8,Wd,W4,We,Wg,W9,Wa,W6,↓reduceIte,reduceCtorEq,W0,Wb,W5,QO,J3,h4,g1,Jj (show [D.str (Wp ""),.str (Wp "a"),.str (Wp "hi;")].length<=Wc by decide),h3,Int.reduceEq]
    ·simp only [EVS,W7,W8,Wd,W4,We,Wg,W9,Wa,W6,↓reduceIte,reduceCtorEq,W0,Wb,W5,QO,J3,h4,g0,g1,Jj (show [D.str (Wp ""),.str (Wp "a"),.str (Wp "hi;")].length<=Wc by decide),h3,Int.reduceEq]
  have h012:c*48271%9929%3=0\/c*48271%9929%3=1\/c*48271%9929%3=2:=by omega
  rcases h012 with h|h|h
  ·exact key (Wp "") (by decide +kernel) (by decide +kernel) (λS=>by rw [h];simp only [P4,P3,P0])
  ·exact key (Wp "a") (by decide +kernel) (by decide +kernel) (λS=>by rw [h];simp only [P4,P3,P0])
  ·exact key (Wp "hi;") (by decide +kernel) (by decide +kernel) (λS=>by rw [h];simp only [P4,P3,P0])
 ·have key:∀n:Int,0<=n->n<=60->(∀S,Yr [.int c] S=some (.str ⟨((Wo n.toNat).map (Pv z c 9923)).toArray⟩,S))->
    ∃x,(cs x).length<=60/\(∀ch∈cs x,32<=ch/\ch<=126)/\∀S,Yr [.int c] S=some (.str x,S):=by
   intro n h0 h1 h2;refine⟨_,?_,?_,h2⟩
   ·rw [Ny];simp;omega
   ·rw [Ny]
    intro ch hch;obtain⟨k,_,rfl⟩:=Vw.mp hch
    exact hz2 _ (TX (by omega))
  have m0:=VJ (c*48271%9949) (b:=5) (by decide)
  have m1:=Vn (c*48271%9949) (b:=5) (by decide)
  have n0:=VJ (c*48271%9931) (b:=61) (by decide)
  have n1:=Vn (c*48271%9931) (b:=61) (by decide)
  by_cases g0:c*48271%9941%9=0
  ·refine key 60 (by decide) (by decide) λS=>?_
   unfold Yr;simp only [EVS,W7,W8,Wd,W4,We,Wg,W9,Wa,W6,↓reduceIte,reduceCtorEq,W0,Wb,W5,QO,J3,h4,g0,hz,Jh,Bd (show -(2 ^ 62)<=(60:Int)/\(60:Int)<2 ^ 62 by decide),Int.reduceEq]
   rw [QW (by omega) (by rw [hz1];decide) (by decide) (by decide)]
   simp only [EVS,W7,W8,Wd,W4,We,Wg,W9,Wa,W6,↓reduceIte,reduceCtorEq,W0,Wb,W5]
  ·by_cases g1:c*48271%9941%9=1
   ·refine key (c*48271%9931%61) n0 (by omega) λS=>?_
    unfold Yr;simp only [EVS,W7,W8,Wd,W4,We,Wg,W9,Wa,W6,↓reduceIte,reduceCtorEq,W0,Wb,W5,QO,J3,h4,g1,hz,Jh,Bd (show -(2 ^ 62)<=c*48271%9931%61/\c*48271%9931%61<2 ^ 62 by omega),Int.reduceEq]
    rw [QW (by omega) (by rw [hz1];decide) (by decide) (by omega)]
    simp only [EVS,W7,W8,Wd,W4,We,Wg,W9,Wa,W6,↓reduceIte,reduceCtorEq,W0,Wb,W5]
   ·refine key (c*48271%9949%5) m0 (by omega) λS=>?_
    unfold Yr;simp only [EVS,W7,W8,Wd,W4,We,Wg,W9,Wa,W6,↓reduceIte,reduceCtorEq,W0,Wb,W5,QO,J3,h4,g0,g1,hz,Jh,Bd (show -(2 ^ 62)<=c*48271%9949%5/\c*48271%9949%5<2 ^ 62 by omega),Int.reduceEq]
    rw [QW (by omega) (by rw [hz1];decide) (by decide) (by omega)]
    simp only [EVS,W7,W8,Wd,W4,We,Wg,W9,Wa,W6,↓reduceIte,reduceCtorEq,W0,Wb,W5]
theorem S8:1000<=Wc:=by decide
theorem MY {x:Str}(h:To x=true):x.length<=Wc:=by
 unfold To at h;rw [Wr,decide_eq_true_eq] at h;rw [J1];exact V2 h.1 (by decide)
theorem Bo {x:Str}(h1:(cs x).length<=60)(h2:∀ch∈cs x,32<=ch/\ch<=126):To x=true:=by
 unfold To btw;rw [Wr,decide_eq_true_eq,WN];exact⟨h1,λch hc=>by have:=h2 ch hc;simp;omega⟩
abbrev Mk:=Int×Int
def enc (p:Mk):D:=.tup [.int p.1,.int p.2]
def QG (p:Mk):D×D:=(.int p.1,.int p.2)
theorem Nf (n:Nat)(ms:List Mk):Jp n (D.tup (ms.map enc))=true:=by
 unfold Jp
 induction ms with
 |nil=>unfold lowDs;rfl
 |cons p ms ih=>
  rw [W0];unfold lowDs;rw [ih,W0V];unfold enc Jp lowDs Jp lowDs Jp lowDs;rfl
theorem KZ (ms:List Mk):JA (ms.map enc)=some (ms.map QG):=by
 induction ms with
 |nil=>rfl
 |cons p ms ih=>
  rw [W0,W0];show (if (Qy (D.int p.1)).isSome=true then (JA (ms.map enc)).map λps=>(D.int p.1,D.int p.2) :: ps else none)=_
  rw [if_pos (show (Qy (D.int p.1)).isSome=true from rfl),ih];rfl
theorem Ge (a b:Int):kEq (.int a) (.int b)=decide (a=b):=by
 unfold kEq Qy;dsimp only;rw [W04];simp
theorem LM (ms:List Mk)(h n:Int)(hn:h∉ms.map (·.1)):JH (ms.map QG) (.int h) (.int n)=(ms++[(h,n)]).map QG:=by
 unfold JH;rw [if_neg,Vv]
 ·rfl
 ·rw [List.any_map,W0i]
  rintro⟨p,p1,p2⟩
  have p3:kEq (.int p.1) (.int h)=true:=p2
  rw [Ge,decide_eq_true_eq] at p3;exact hn (Vw.mpr ⟨p,p1,p3⟩)
theorem Tv:∀(ms acc:List Mk),((acc++ms).map (·.1)).Nodup->U5 (acc.map QG) (ms.map QG)=(acc++ms).map QG
 |[],acc,_=>by rw [Vu];rfl
 |p :: ms,acc,h=>by
  have e:acc++p :: ms=(acc++[p])++ms:=by rw [Vj];rfl
  show U5 (JH (acc.map QG) (.int p.1) (.int p.2)) (ms.map QG)=_
  have hn:p.1∉acc.map (·.1):=by
   rw [Vv,W0,List.nodup_append] at h;intro z;exact h.2.2 _ z p.1 WC rfl
  rw [LM acc p.1 p.2 hn,Tv ms (acc++[p]) (by rw [<-e];exact h),e]
theorem LP {ms:List Mk}{S:Sto}(hl:ms.length<=Wc)(hn:(ms.map (·.1)).Nodup):Me (some (.tup (ms.map enc),S))=some (.ref S.length,S++[.dct (ms.map QG)]):=by
 rw [Cr (by simpa using hl) (KZ ms),show ([]:List (D×D))=([]:List Mk).map QG from rfl,Tv ms [] (by simpa using hn)]
 rfl
theorem Mt:∀{ms:List Mk} {h n:Int},(ms.map (·.1)).Nodup->(h,n)∈ms->Uo (ms.map QG) (.int h)=some (.int n)
 |[],_,_,_,z=>by cases z
 |p :: ms,h,n,hn,hm=>by
  unfold Uo;rw [W0,Vm];have e:kEq (QG p).1 (.int h)=decide (p.1=h):=Ge _ _
  rw [W0,W01] at hn;by_cases q:p.1=h
  ·rw [e,decide_eq_true q]
   rcases Wx.mp hm with z|z
   ·rw [<-z];rfl
   ·exact absurd (Vw.mpr ⟨_,z,q.symm⟩) hn.1
  ·rw [e,decide_eq_false q]
   rcases Wx.mp hm with z|z
   ·rw [<-z] at q;exact absurd rfl q
   ·exact Mt hn.2 z
theorem Ga (ms:List Mk):((ms.map QG).all λp=>(Qy p.1).isSome)=true:=by
 rw [W1b,WN];intro p _;rfl
theorem Ck {S:Sto}{n:Nat}{ms:List Mk}{h:Int}(e:S[n]? = some (.dct (ms.map QG))):J6 S n (.int h)=some (ms.map QG):=by
 unfold J6;rw [e];dsimp only;rw [if_pos];show ((ms.map QG).all λp=>(Qy p.1).isSome)=true
 exact Ga ms
def hd1:D->D
 | .tup (a :: _)=>a
 |_=>.non
theorem RP {S:Sto}{n:Nat}{ds:List D}(h:S[n]? = some (.lst ds)):Ud (some (.ref n,S))=some ((ds,.lst n),S):=by
 show Nq (.ref n) S=_
 dsimp only [Nq];rw [h]
theorem UI (p:Mk):YN (enc p)=some [.inl p.1,.inl p.2]:=rfl
theorem EV (p q:Mk):kEq (enc p) (enc q)=decide (p=q):=by
 rw [SR (UI p) (UI q)];rw [W04];simp only [decide_eq_true_eq,W05,and_true,Sum.inl.injEq]
 constructor
 ·rintro⟨h1,h2⟩;exact Prod.ext h1 h2
 ·rintro rfl;exact⟨rfl,rfl⟩
theorem JW (l:List Mk):Qi 30 (l.map enc):=by
 refine⟨λa ha=>?_,λa ha b hb=>?_⟩
 ·obtain⟨p,_,rfl⟩:=Vw.mp ha;rfl
 ·obtain⟨p,_,rfl⟩:=Vw.mp ha
  obtain⟨q,_,rfl⟩:=Vw.mp hb
  rfl
theorem Td (l:List Mk)(h:l.length<64):Qw (l.map enc)=true:=by
 obtain⟨h1,h2⟩:=JW l
 have a:CB (l.map enc)=true:=by
  unfold CB;rw [W0i];refine⟨2,by simp,?_⟩
  rw [W1b,WN];intro p _;rfl
 have b:Cp (l.map enc)=true:=by
  unfold Cp;rw [Wr,WN,WN];exact⟨h1,λx hx=>WN.mpr (h2 x hx)⟩
 unfold Qw;rw [a,b,Wl,decide_eq_true h];simp
theorem YL {mv ma mb:M D}{en:En}{S S':Sto}{v k:D}{n:Nat}(h1:mv en S=some (v,S))(h2:ma en S=some (.ref n,S))(h3:mb en S=some (k,S))(h4:F5 (.ref n) k v S=some S'):YB mv ma mb en S=some (.nx,en,S'):=by
 unfold YB;rw [h1,WK,h2,WK,h3,WK];dsimp only;rw [h4];rfl
theorem Rq (n:Nat)(ps:List (Mk×Str)):Jp n (D.tup (ps.map λp=>.tup [enc p.1,.str p.2]))=true:=by
 unfold Jp
 induction ps with
 |nil=>unfold lowDs;rfl
 |cons p ms ih=>
  rw [W0];unfold lowDs;rw [ih,W0V];simp [enc,Jp,lowDs]
def Dj (p q:Mk):Prop:=p.1<q.1\/(p.1=q.1/\p.2<q.2)
theorem lt_int (i j:Int):ltD (.int i) (.int j)=true↔i<j:=by
 have e:ltD (.int i) (.int j)=decide (i<j):=by unfold ltD;rfl
 rw [e,decide_eq_true_eq]
theorem S6 (p q:Mk):ltD (enc p) (enc q)=true↔Dj p q:=by
 unfold Dj;obtain⟨a,b⟩:=p
 obtain⟨c,d⟩:=q
 show ltD (.tup [.int a,.int b]) (.tup [.int c,.int d])=true↔_
 rw [Jv,Qh,Qh];have e1:∀i j:Int,eqD (.int i) (.int j)=decide (i=j):=λi j=>by unfold eqD;rfl
 have e2:∀i j:Int,ltD (.int i) (.int j)=decide (i<j):=λi j=>by unfold ltD;rfl
 rw [e1,e1,e2,e2];have e3:ltDs [] []=false:=by unfold ltDs;rfl
 rw [e3];dsimp only;by_cases h1:a=c
 ·rw [decide_eq_true h1,if_pos rfl]
  by_cases h2:b=d
  ·rw [decide_eq_true h2,if_pos rfl]
   exact⟨λz=>(by cases z),λz=>(by omega)⟩
  ·rw [decide_eq_false h2,if_neg (by decide),decide_eq_true_eq]
   exact⟨λz=>.inr ⟨h1,z⟩,λz=>by omega⟩
 ·rw [decide_eq_false h1,if_neg (by decide),decide_eq_true_eq]
  exact⟨λz=>.inl z,λz=>by omega⟩
def Qj (p:Mk×Str):D:=.tup [enc p.1,.str p.2]
def mkF (p:Mk)(x:Str)(ks:List Mk)(ns ts:List (Mk×Str)):D:=.tup [enc p,.str x,.tup (ks.map enc),.tup (ns.map Qj),.tup (ts.map Qj)]
theorem RS {x:Str}(h:(1<=(cs x).length/\(cs x).length<=6)/\∀ch∈cs x,97<=ch/\ch<=122):Mi x=true:=by
 unfold Mi btw;rw [Wr,Wr,WN];refine⟨decide_eq_true h.1.1,decide_eq_true h.1.2,λc hc=>?_⟩
 rw [decide_eq_true (h.2 c hc).1,decide_eq_true (h.2 c hc).2];rfl
section
variable {p:Mk} {x:Str} {ks:List Mk} {ns ts:List (Mk×Str)} {S:Sto}
end
theorem XJ {ds:List D}{a:Nat}{S:Sto}(h:a<=ds.length):slD (.tup ds) none (some (a:Int)) S=some (.tup (ds.take a),S):=by
 dsimp only [slD];unfold Ph;rw [HT.sIx_nat,HT.sIx_none,List.drop_zero,show min a ds.length-0=a by omega]
section
variable {a b c d e x:D} {S:Sto}
end
theorem Ib {ds:List D}{d:D}{S:Sto}:gIx (.tup (ds++[d])) (.int (-1)) S=some (d,S):=by
 show (atI (ds++[d]) (-1)).map _=_
 have:atI (ds++[d]) (-1)=some d:=by
  unfold atI ixN;rw [if_neg (by decide),if_pos (by rw [WP];simp;omega)]
  rw [WK,show ((-1:Int)+((ds++[d]).length:Nat)).toNat=ds.length by rw [WP];simp;omega]
  exact Wu ..
 rw [this];rfl
theorem Gz {S S':Sto}{n:Nat}(h:S.length<=n):Ui S (.ref n,S')=(.ref n,S'):=by
 unfold Ui;rw [if_neg]
 rintro⟨_,q⟩
 rw [Jp] at q;have:=of_decide_eq_true q
 omega
theorem Ni {ms:List Mk}(h:ms.Pairwise Dj):(ms.map enc).Pairwise leD:=by
 rw [W0E];refine h.imp λ{a b} q=>?_
 show ltD (enc b) (enc a)=false
 rw [<-Bool.not_eq_true,S6];intro z;unfold Dj at q z;omega
def kept (A:List (Mk×Str))(wf:Mk->Bool)(B:List (Mk×Str))(wg:Mk->Bool):List (Mk×Str):=A.filter (λp=>decide (p∈B))++A.filter (λp=>!wg p.1)++B.filter (λp=>!wf p.1)
section
variable {A B:List (Mk×Str)} {wf wg:Mk->Bool}
end
theorem AK {S:Sto}{a b:Nat}{A B:List D}(h1:S[a]? = some (.lst A))(h2:S[b]? = some (.lst B))(h:A.length+B.length<=Wc):Ue (.ref a) (.ref b) S=some (.ref S.length,S++[.lst (A++B)]):=by
 dsimp only [Ue];rw [h1,h2];exact if_pos h
theorem Oy (n:Nat)(ps:List (Mk×Str)):Jp n (D.tup (ps.map Qj))=true:=Rq n ps
section
variable {A B:List (Mk×Str)} {kf kg:List Mk} {S:Sto}
end
theorem Z0p:∀(x:Str) (S:Sto),EU "tuple" (some (.str x,S))=some (.bl false,S):=λ_ _=>rfl
theorem Z0r:∀(x:Str) (S:Sto),EU "bool" (some (.str x,S))=some (.bl false,S):=λ_ _=>rfl
theorem Z0q:∀(x:Str) (S:Sto),ET "int" "str" (some (.str x,S))=some (.bl true,S):=λ_ _=>rfl
theorem Z0s:∀(x:Int) (S:Sto),EU "tuple" (some (.int x,S))=some (.bl false,S):=λ_ _=>rfl
theorem Z0u:∀(x:Int) (S:Sto),EU "bool" (some (.int x,S))=some (.bl false,S):=λ_ _=>rfl
theorem Z0t:∀(x:Int) (S:Sto),ET "int" "str" (some (.int x,S))=some (.bl true,S):=λ_ _=>rfl
theorem Z0o:∀(l:List D) (S:Sto),EU "tuple" (some (.tup l,S))=some (.bl true,S):=λ_ _=>rfl
theorem C8 (x:Str)(S:Sto):gIs (.str x) .non S=some (.bl false,S):=rfl
theorem LA (x:Int)(S:Sto):gIs (.int x) .non S=some (.bl false,S):=rfl
def SD:Nat->D->Prop
 |_,.int _=>True
 |_,.str _=>True
 |n+1,.tup ds=>ds.length<=100/\∀d∈ds,SD n d
 |_,_=>False
theorem Tg:∀(n:Nat) (d:D) (k:Nat) (S:Sto),SD n d->ZI (n+k+1) [d,d] S=some (.bl true,S)
 |n,.int i,k,S,_=>by
  show QB 2 2 (QC (ZI (n+k))) _ S=_
  simp only [QC,EVS,W7,W8,Wd,W4,We,Wg,W9,Wa,W6,↓reduceIte,reduceCtorEq,W0,Wb,W5,Z0s,Z0u,Z0t,LA]
 |n,.str i,k,S,_=>by
  show QB 2 2 (QC (ZI (n+k))) _ S=_
  simp only [QC,EVS,W7,W8,Wd,W4,We,Wg,W9,Wa,W6,↓reduceIte,reduceCtorEq,W0,Wb,W5,Z0p,Z0r,Z0q,C8]
 |n+1,.tup ds,k,S,h=>by
  unfold SD at h;show QB 2 2 (QC (ZI (n+1+k))) _ S=_
  simp only [QC,EVS,W7,W8,Wd,W4,We,Wg,W9,Wa,W6,↓reduceIte,reduceCtorEq,W0,Wb,W5,Z0o]
  have hz:LZ ds ds=ds.map λx=>D.tup [x,x]:=by
   unfold LZ;have:∀l:List D,(l.zip l).map (λp=>D.tup [p.1,p.2])=l.map λx=>D.tup [x,x]:=λl=>by
    induction l with
    |nil=>rfl
    |cons x xs ih=>simp only [Wz,W0,ih]
   first|exact this ds|simpa using this ds
  rw [hz,QI ds (λx=>D.tup [x,x]) (λ_=>D.bl true) UM (V2 h.1 (by decide)) λx hx=>⟨_,rfl,?_⟩]
  ·have e:ds.map (λ_=>D.bl true)=(ds.map λ_=>true).map D.bl:=by rw [Vp];rfl
   rw [e,Sx];have:(ds.map λ_=>true).all id=true:=by simp
   simp only [EVS,W7,W8,Wd,W4,We,Wg,W9,Wa,W6,↓reduceIte,reduceCtorEq,W0,Wb,W5,this]
  ·simp only [EVS,W7,W8,Wd,W4,We,Wg,W9,Wa,W6,↓reduceIte,reduceCtorEq,W0,Wb,W5]
   have:=Tg n x k S (h.2 x hx)
   rw [show n+1+k=n+k+1 by omega]
   exact this
 |0,.tup _,_,_,h=>h.elim
 |0,.non,_,_,h=>h.elim
 |0,.bl _,_,_,h=>h.elim
 |0,.ref _,_,_,h=>h.elim
 |0,.scr _,_,_,h=>h.elim
 |_+1,.non,_,_,h=>h.elim
 |_+1,.bl _,_,_,h=>h.elim
 |_+1,.ref _,_,_,h=>h.elim
 |_+1,.scr _,_,_,h=>h.elim
theorem LD (i j:Int):CJ i j=max i j:=by
 unfold CJ;split<;>omega
def Hr (ms:List Mk)(h n:Int):List Mk:=if (ms.any λp=>decide (p.1=h))=true then ms.map (λp=>if p.1=h then (p.1,n) else p) else ms++[(h,n)]
theorem LN (ms:List Mk)(h n:Int):JH (ms.map QG) (.int h) (.int n)=(Hr ms h n).map QG:=by
 unfold JH Hr;have e:((ms.map QG).any λp=>kEq p.1 (.int h))=ms.any λp=>decide (p.1=h):=by
  rw [List.any_map]
  congr 1
  funext p
  exact Ge p.1 h
 rw [e];split
 ·rw [Vp,Vp]
  refine List.map_congr_left λp _=>?_
  show (if kEq (.int p.1) (.int h)=true then ((.int p.1:D),D.int n) else QG p)=QG (if p.1=h then (p.1,n) else p)
  rw [Ge];by_cases q:p.1=h
  ·rw [if_pos (decide_eq_true q),if_pos q];rfl
  ·rw [if_neg (by simp [q]),if_neg q]
 ·rw [Vv];rfl
theorem PZ {S:Sto}{ms:List Mk}{h n:Int}(hl:ms.length<Wc):F5 (.ref S.length) (.int h) (.int n) (S++[.dct (ms.map QG)])=some (S++[.dct ((Hr ms h n).map QG)]):=by
 dsimp only [F5];rw [Wu];dsimp only;have hs:Yz (ms.map QG) (.int h)=true:=Ga ms
 rw [hs,Wl,decide_eq_true hl,LN];simp
theorem BX:∀ms:List Mk,Pu ((ms.map QG).map (·.1)) ((ms.map QG).map (·.2))=ms.map enc
 |[]=>rfl
 |p :: ms=>by
  have:=BX ms
  unfold Pu at this ⊢
  rw [W0,W0,W0,Wz,W0,this];rfl
theorem Oz (n:Nat)(a:Mk)(x:Str)(ks:List Mk)(ns ts:List (Mk×Str)):Jp n (mkF a x ks ns ts)=true:=by
 unfold mkF;rw [Jp];simp only [lowDs,Nf,Oy,W0V,W0x]
 unfold enc Jp lowDs Jp lowDs Jp lowDs;simp [Jp]
section
variable {f g:Nat->Int} {a:Mk} {x y:Str} {ns ts ns' ts':List (Mk×Str)} {S:Sto}
end
end K07
namespace K07
open PySem L2 DL
theorem BN (n:Nat)(p:Mk):SD (n+1) (enc p):=⟨(show 2<=100 by decide),λd hd=>by
 simp only [Wx,WM,or_false] at hd
 rcases hd with z|z<;>rw [z]<;>cases n<;>trivial⟩
theorem AL (n:Nat)(x:Str):SD n (.str x):=by cases n<;>trivial
theorem Z0y {a:Mk}{x:Str}{ks:List Mk}{ns ts:List (Mk×Str)}(hk:ks.length<=6)(h1:ns.length<=20)(h2:ts.length<=20):SD 5 (mkF a x ks ns ts):=by
 have hp:∀ps:List (Mk×Str),ps.length<=20->SD 4 (.tup (ps.map Qj)):=λps hl=>⟨by rw [Wl];omega,λd hd=>by
  obtain⟨p,_,rfl⟩:=Vw.mp hd
  refine⟨(show 2<=100 by decide),λe he=>?_⟩
  simp only [Wx,WM,or_false] at he
  rcases he with z|z<;>rw [z]
  ·exact BN 1 p.1
  ·exact AL 2 p.2⟩
 refine⟨(show 5<=100 by decide),λd hd=>?_⟩
 simp only [Wx,WM,or_false] at hd
 rcases hd with z|z|z|z|z<;>rw [z]
 ·exact BN 3 a
 ·exact AL 4 x
 ·refine⟨by rw [Wl];omega,λe he=>?_⟩
  obtain⟨p,_,rfl⟩:=Vw.mp he
  exact BN 2 p
 ·exact hp ns h1
 ·exact hp ts h2
section
variable {en:En} {S S1:Sto}
def Dl (cn f:Str)(o:Option (D×Sto)):Option (D×Sto):=o.bind λp=>match p.1 with
 | .ref n=>(J2 p.2 n cn).bind λfs=>(fs.lookup f).map λv=>(v,p.2)
 |_=>none
theorem Bw {cn f:Str}{m:M D}:Nc cn f m en S=Dl cn f (m en S):=rfl
def SG (F:List D->Sto->Option (D×Sto))(n:Nat)(o:Option (List D×Sto)):Option (D×Sto):=o.bind λr=>F (.ref n :: r.1) r.2
theorem YZ {F:List D->Sto->Option (D×Sto)}{n:Nat}{ds:List D}:SG F n (some (ds,S))=F (.ref n :: ds) S:=rfl
def SK (cn m:Str)(F:List D->Sto->Option (D×Sto))(ma:M (List D))(en:En)(o:Option (D×Sto)):Option (D×Sto):=o.bind λp=>match p.1 with
 | .ref n=>(J2 p.2 n cn).bind λfs=>if (fs.lookup m).isNone=true then (ma en p.2).bind λr=>F (.ref n :: r.1) r.2 else none
 |_=>none
theorem Q0 {cn m:Str}{F:List D->Sto->Option (D×Sto)}{mo:M D}{ma:M (List D)}:Yw cn m F mo ma en S=SK cn m F ma en (mo en S):=rfl
theorem Ja {S':Sto}{v:D}(h:S'.length=S.length):Ui S (v,S')=(v,S'):=by
 unfold Ui;split
 ·rename_i q
  have:=q.1
  rw [<-h,List.take_length] at this;rw [this]
 ·rfl
theorem AQ {S':Sto}{v:D}{k:Nat}(hk:k<S.length)(h:S'[k]?≠S[k]?):Ui S (v,S')=(v,S'):=by
 unfold Ui;rw [if_neg]
 rintro⟨z,_⟩
 exact h (by rw [<-V6 hk,z])
theorem YK {n:Nat}{o:Ob}:(S.set n o).length=S.length:=List.length_set
theorem up {G:Sto}{n:Nat}{o:Ob}(h:S[n]? = some o):(S++G)[n]? = some o:=by rw [WU (Wi.mp h).1];exact h
theorem Yi {a b:MS}{en en1:En}{S S1:Sto}{r:Option (DL.Fl×En×Sto)}(h1:a en S=some (.nx,en1,S1))(h2:b en1 S1=r):Ya a b en S=r:=by
 unfold Ya;rw [h1];exact h2
end
theorem Tl {S:Sto}{n:Nat}{kvs:List (D×D)}(hS:S[n]? = some (.dct kvs))(hk:(kvs.all λp=>(YN p.1).isSome)=true):Ud (some (.ref n,S))=some ((kvs.map (·.1),.fr n kvs true),S.set n (.fdct kvs)):=by
 show Nq (.ref n) S=_
 dsimp only [Nq];rw [hS];dsimp only;rw [if_pos hk];split<;>rfl
theorem F1 {S:Sto}{n:Nat}{kvs:List (D×D)}(hS:S[n]? = some (.dct kvs)):BR (.fr n kvs true) (S.set n (.fdct kvs))=some S:=by
 have hg:(S.set n (.fdct kvs))[n]? = some (.fdct kvs):=by rw [WQ (Wi.mp hS).1]
 unfold BR;dsimp only;rw [hg];dsimp only;rw [PY hS]
theorem Tw {α:Type}{S:Sto}{n:Nat}{kvs:List (D×D)}{nT:Nat}{caps:List Nat}{en:En}{g:D->En->Option En}{c:M Bool}{m:M D}(hS:S[n]? = some (.dct kvs))(hk:(kvs.all λp=>(YN p.1).isSome)=true)
  (xs:List α) (enc:α->D) (hx:kvs.map (·.1)=xs.map enc) (p:α->Bool) (f:α->D) (hl:xs.length<=Wc) (h:∀a∈xs,∃en',g (enc a) (QJ nT caps en)=some en'/\c en' (S.set n (.fdct kvs))=some (p a,S.set n (.fdct kvs))/\(p a=true->m en' (S.set n (.fdct kvs))=some (f a,S.set n (.fdct kvs)))) :
  UK nT caps g c m en (Ud (some (.ref n,S)))=some ((xs.filter p).map f,S):=by
 have hg:(S.set n (.fdct kvs))[n]? = some (.fdct kvs):=by rw [WQ (Wi.mp hS).1]
 rw [Tl hS hk,Gc,hx,Up xs enc p f (show BP (.fr n kvs true) (xs.map enc) _ from hg) hl h];show (BR (.fr n kvs true) (S.set n (.fdct kvs))).map (λS'=>((xs.filter p).map f,S'))=_
 rw [F1 hS];rfl
structure Ent where
 c:Int
 x:Str
 l:Int
 ns:List (Mk×Str)
 ts:List (Mk×Str)
def key (i:Int)(e:Ent):D:=enc (i,e.c)
def fl (i:Int)(e:Ent):D:=mkF (i,e.c) e.x [(i,e.l)] e.ns e.ts
def lv (e:Ent):D:=.tup [.str e.x,.int e.l,.tup (e.ns.map Qj),.tup (e.ts.map Qj)]
def kv (i:Int)(f:Ent->D)(E:List Ent):List (D×D):=E.map λe=>(key i e,f e)
def T5 (E:List Ent)(t:Ent):List Ent:=E.map λe=>if e.c=t.c then t else e
section
variable {i:Int} {f:Ent->D} {E:List Ent} {S:Sto} {n:Nat}
theorem EN (i:Int)(e:Ent)(c:Int):kEq (key i e) (enc (i,c))=decide (e.c=c):=by
 unfold key;rw [EV];refine decide_eq_decide.mpr ⟨λh=>(Prod.mk.inj h).2,λh=>by rw [h]⟩
theorem G8:(kv i f E).map (·.1)=E.map (key i):=by
 unfold kv;rw [Vp];rfl
theorem M5:((kv i f E).all λp=>(YN p.1).isSome)=true:=by
 unfold kv;rw [W1b,WN];intro e _;rfl
theorem Nk (c:Int):Yz (kv i f E) (enc (i,c))=true:=by
 unfold Yz;show (match YN (enc (i,c)) with|some _=>_|none=>false)=true
 rw [UI];exact M5
theorem Gn:∀{E:List Ent} {e:Ent},(E.map (·.c)).Nodup->e∈E->Uo (kv i f E) (enc (i,e.c))=some (f e)
 |a :: E,e,hn,he=>by
  rw [W0,W01] at hn;unfold Uo kv;rw [W0,Vm];have q:kEq (key i a) (enc (i,e.c))=decide (a.c=e.c):=EN i a e.c
  dsimp only;rw [q];rcases Wx.mp he with rfl|z
  ·rw [decide_eq_true rfl];rfl
  ·have ne:¬a.c=e.c:=λw=>hn.1 (w ▸ List.mem_map_of_mem (f:=λx:Ent=>x.c) z)
   rw [decide_eq_false ne];exact Gn hn.2 z
theorem FC (c:Int):((kv i f E).any λp=>kEq p.1 (enc (i,c)))=E.any λe=>decide (e.c=c):=by
 unfold kv;rw [List.any_map];exact congrArg (E.any ·) (funext λe=>EN i e c)
theorem By {t e:Ent}(he:e∈E)(h:e.c=t.c):JH (kv i f E) (enc (i,t.c)) (f t)=kv i f (T5 E t):=by
 unfold JH;rw [FC,if_pos (W0i.mpr ⟨e,he,decide_eq_true h⟩)];unfold kv T5;rw [Vp,Vp];refine List.map_congr_left λa _=>?_
 show (if kEq (key i a) (enc (i,t.c))=true then (key i a,f t) else (key i a,f a))=(key i (if a.c=t.c then t else a),f (if a.c=t.c then t else a))
 rw [EN];by_cases q:a.c=t.c
 ·rw [if_pos (decide_eq_true q),if_pos q]
  unfold key;rw [q]
 ·rw [if_neg (by rw [decide_eq_true_eq];exact q),if_neg q]
theorem Bz {t:Ent}(h:∀e∈E,e.c≠t.c):JH (kv i f E) (enc (i,t.c)) (f t)=kv i f (E++[t]):=by
 unfold JH;rw [FC,if_neg]
 ·unfold kv
  rw [Vv];rfl
 ·rw [W0i]
  rintro⟨e,he,q⟩
  exact h e he (of_decide_eq_true q)
theorem NN {c:Int}{v:D}(h:S[n]? = some (.dct (kv i f E)))(hl:E.length<=20):F5 (.ref n) (enc (i,c)) v S=some (S.set n (.dct (JH (kv i f E) (enc (i,c)) v))):=by
 have hz:100<=Wc:=by decide
 have hk:(kv i f E).length=E.length:=by unfold kv;rw [Wl]
 dsimp only [F5];rw [h];dsimp only;rw [Nk,hk,decide_eq_true (show E.length<Wc by omega)]
 rfl
theorem LC {e:Ent}(hn:(E.map (·.c)).Nodup)(h:S[n]? = some (.dct (kv i f E)))(he:e∈E):Bs (key i e) (.ref n) S=some (.bl false,S)/\gIx (.ref n) (key i e) S=some (f e,S):=by
 have e2:J6 S n (enc (i,e.c))=some (kv i f E):=by unfold J6;rw [h];dsimp only;rw [if_pos (Nk _)]
 have e3:inD (enc (i,e.c)) (.ref n) S=some true:=by
  show (match S[n]? with|some (Ob.lst ys)=>_|_=>(J6 S n (enc (i,e.c))).map λkvs=>(Uo kvs (enc (i,e.c))).isSome)=_
  rw [h];dsimp only;rw [e2,W5,Gn hn he];rfl
 refine⟨?_,Ae e2 (Gn hn he)⟩
 show Bs (enc (i,e.c)) (.ref n) S=_
 unfold Bs;rw [e3];rfl
theorem RN {e:Ent}(hn:(E.map (·.c)).Nodup)(h:S[n]? = some (.fdct (kv i f E)))(he:e∈E):gIx (.ref n) (key i e) S=some (f e,S):=by
 have hne:(kv i f E).isEmpty=false:=by
  cases E with
  |nil=>cases he
  |cons _ _=>rfl
 have e2:J6 S n (enc (i,e.c))=some (kv i f E):=by unfold J6;rw [h];dsimp only;rw [Nk,hne];rfl
 exact Ae e2 (Gn hn he)
theorem M1 (m:Nat)(l:List Ent):Jp m (.tup (l.map (key i)))=true:=by
 have:=Nf m (l.map λe=>(i,e.c))
 rw [Vp] at this;exact this
end
def hf (i n:Int):List (Str×D):=[("own_number",.int i),("acts",.int n),("files",.ref 1),("told",.ref 2)]
def hs (i n:Int):Ob:=.ins "House" (hf i n)
structure At (S:Sto) (i n:Int) (E:List Ent):Prop where
 h0:S[0]? = some (hs i n)
 h1:S[1]? = some (.dct (kv i (fl i) E))
theorem At.up {S G:Sto}{i n:Int}{E:List Ent}(h:At S i n E):At (S++G) i n E:=⟨K07.up h.h0,K07.up h.h1⟩
structure Wf (n:Int) (E:List Ent):Prop where
 ri:E.Pairwise λa b=>a.c<b.c
 ub:∀e∈E,e.c<=n/\e.l<=n/\e.ns.length<=1/\e.ts.length<=1
 ln:(E.length:Int)<=n
 n14:n<=15
theorem Wf.nd {n:Int}{E:List Ent}(w:Wf n E):(E.map (·.c)).Nodup:=by
 unfold List.Nodup;rw [W0E];exact w.ri.imp λ{a b} q=>by omega
theorem Wf.l {n:Int}{E:List Ent}(w:Wf n E):E.length<=15:=by have:=w.ln;have:=w.n14;omega
section
variable {S:Sto} {i n:Int} {E:List Ent} {en:En}
theorem Bq (h:At S i n E):J2 S 0 "House" = some (hf i n):=by
 unfold J2;rw [h.h0];exact if_pos rfl
theorem J4 (h:At S i n E):Dl "House" "files" (some (.ref 0,S))=some (.ref 1,S):=by
 show (J2 S 0 "House").bind _=_
 rw [Bq h];rfl
theorem Mp (h:At S i n E):Dl "House" "acts" (some (.ref 0,S))=some (.int n,S):=by
 show (J2 S 0 "House").bind _=_
 rw [Bq h];rfl
theorem P8 (h:At S i n E):Dl "House" "own_number" (some (.ref 0,S))=some (.int i,S):=by
 show (J2 S 0 "House").bind _=_
 rw [Bq h];rfl
theorem ZJ {m:Str}{F:List D->Sto->Option (D×Sto)}{ma:M (List D)}(h:At S i n E)(hm:∀i n:Int,((hf i n).lookup m).isNone=true):SK "House" m F ma en (some (.ref 0,S))=SG F 0 (ma en S):=by
 show (J2 S 0 "House").bind _=_
 rw [Bq h];show (if _ then _ else _)=_
 rw [if_pos (hm i n)];rfl
theorem LS (h:At S i n E):YF [.ref 0] S=some (.int n,S):=by
 unfold YF;simp only [EVS,W7,W8,Wd,W4,We,Wg,W9,Wa,W6,↓reduceIte,reduceCtorEq,W0,Wb,W5,Bw,Mp h]
theorem Rb (h:At S i n E):Yo [.ref 0] S=some (.int i,S):=by
 unfold Yo;simp only [EVS,W7,W8,Wd,W4,We,Wg,W9,Wa,W6,↓reduceIte,reduceCtorEq,W0,Wb,W5,Bw,P8 h]
theorem Mm (h:At S i n E)(w:Wf n E){e:Ent}(he:e∈E):Yg [.ref 0,key i e] S=some (fl i e,S):=by
 obtain⟨i2,i3⟩:=LC w.nd h.h1 he
 unfold Yg;simp only [EVS,W7,W8,Wd,W4,We,Wg,W9,Wa,W6,↓reduceIte,reduceCtorEq,W0,Wb,W5,Bw,J4 h,i2,i3]
theorem He (h:At S i n E)(w:Wf n E):ES (some (.ref 1,S))=some (E.map (key i),S):=by
 have em:E.map (key i)=(E.map λe=>(i,e.c)).map enc:=by rw [Vp];rfl
 have hs:Qq (E.map (key i))=E.map (key i):=by
  rw [em];refine Ky (JW _) (List.Perm.refl _) (Ni ?_)
  rw [W0E];exact w.ri.imp λ{a b} q=>.inr ⟨rfl,q⟩
 have:=D6 (d:=.ref 1) (S:=S) (ds:=E.map (key i)) (by
  dsimp only [CA];rw [h.h1];dsimp only;rw [G8]) (by
  rw [em];exact Td _ (by have:=w.l;rw [Wl];omega))
 rw [hs] at this;exact this
theorem D9 (h:At S i n E)(w:Wf n E):ZB [.ref 0] S=some (.ref (S++[Ob.lst (E.map (key i))]).length,S++[Ob.lst (E.map (key i))]++[.lst (E.map (fl i))]):=by
 have hz:100<=Wc:=by decide
 have l:=w.l
 have h2:At (S++[.lst (E.map (key i))]) i n E:=h.up
 have hat:(S++[Ob.lst (E.map (key i))])[S.length]? = some (.lst (E.map (key i))):=Wu ..
 have c1:Yd (E.map (key i)) (.lst S.length) [none,some (.ref 0)] (gN 0) QR Ys (E.map (key i)) [] (S++[.lst (E.map (key i))])=some (E.map (fl i),S++[.lst (E.map (key i))]):=
  QI E (key i) (fl i) (show BP (.lst S.length) _ _ from hat) (by omega) λe he=>⟨_,rfl,by
   have i3:=(LC w.nd h2.h1 he).2
   simp only [Ys,EVS,W7,W8,Wd,W4,We,Wg,W9,Wa,W6,↓reduceIte,reduceCtorEq,W0,Wb,W5,Bw,J4 h2,i3]⟩
 unfold ZB;simp only [EVS,W7,W8,Wd,W4,We,Wg,W9,Wa,W6,↓reduceIte,reduceCtorEq,W0,Wb,W5,Bw,J4 h,He h w,RP hat,c1]
 rw [Gz (by simp)]
theorem Nr (e:Ent):YD [fl i e] S=some (.bl (e.ts.isEmpty),S):=by
 have i4:gIx (fl i e) (.int 4) S=some (.tup (e.ts.map Qj),S):=rfl
 unfold YD;simp only [EVS,W7,W8,Wd,W4,We,Wg,W9,Wa,W6,↓reduceIte,reduceCtorEq,W0,Wb,W5,i4,Wl]
 cases e.ts<;>rfl
theorem Ih (h:At S i n E)(w:Wf n E):YQ [.ref 0] S=some (.tup ((E.filter λe=>!e.ts.isEmpty).map (key i)),S):=by
 have hz:100<=Wc:=by decide
 have l:=w.l
 generalize hT:S++[Ob.lst (E.map (key i))]++[.lst (E.map (fl i))]=T
 have hat:T[(S++[Ob.lst (E.map (key i))]).length]? = some (.lst (E.map (fl i))):=by rw [<-hT];exact Wu ..
 have a1:=D9 h w
 rw [hT] at a1;have c1:Yd (E.map (fl i)) (.lst (S++[Ob.lst (E.map (key i))]).length) [none] (gN 0) Y4 Y3 (E.map (fl i)) [] T=some ((E.filter λe=>!e.ts.isEmpty).map (fl i),T):=
  Up E (fl i) (λe=>!e.ts.isEmpty) (fl i) (show BP (.lst _) _ _ from hat) (by omega) λe he=>⟨_,rfl,by
   have:=Nr (i:=i) (S:=T) e
   simp only [Y4,EVS,W7,W8,Wd,W4,We,Wg,W9,Wa,W6,↓reduceIte,reduceCtorEq,W0,Wb,W5,this],λ_=>by simp only [Y3,EVS,W7,W8,Wd,W4,We,Wg,W9,Wa,W6,↓reduceIte,reduceCtorEq,W0,Wb,W5]⟩
 have f1:ZA [.ref 0] S=some (.ref T.length,T++[.lst ((E.filter λe=>!e.ts.isEmpty).map (fl i))]):=by
  unfold ZA;simp only [EVS,W7,W8,Wd,W4,We,Wg,W9,Wa,W6,↓reduceIte,reduceCtorEq,W0,Wb,W5,Q0,ZJ (m:="all_files") h (λ_ _=>rfl),YZ,a1,RP hat,c1]
  rw [Gz (by rw [<-hT];simp)]
 have hat2:(T++[Ob.lst ((E.filter λe=>!e.ts.isEmpty).map (fl i))])[T.length]? = some (.lst ((E.filter λe=>!e.ts.isEmpty).map (fl i))):=Wu ..
 have hlf:(E.filter λe=>!e.ts.isEmpty).length<=E.length:=W0L _ _
 have c2:Yd ((E.filter λe=>!e.ts.isEmpty).map (fl i)) (.lst T.length) [none] (gN 0) QR QH ((E.filter λe=>!e.ts.isEmpty).map (fl i)) [] (T++[Ob.lst ((E.filter λe=>!e.ts.isEmpty).map (fl i))])=some ((E.filter λe=>!e.ts.isEmpty).map (key i),T++[Ob.lst ((E.filter λe=>!e.ts.isEmpty).map (fl i))]):=
  QI _ (fl i) (key i) (show BP (.lst _) _ _ from hat2) (by omega) λe he=>⟨_,rfl,by
   have i0:gIx (fl i e) (.int 0) (T++[Ob.lst ((E.filter λe=>!e.ts.isEmpty).map (fl i))])=some (key i e,_):=rfl
   simp only [QH,EVS,W7,W8,Wd,W4,We,Wg,W9,Wa,W6,↓reduceIte,reduceCtorEq,W0,Wb,W5,i0]⟩
 unfold YQ;simp only [EVS,W7,W8,Wd,W4,We,Wg,W9,Wa,W6,↓reduceIte,reduceCtorEq,W0,Wb,W5,Q0,ZJ (m:="files_on_shelf") h (λ_ _=>rfl),YZ,f1,RP hat2,c2]
 rw [<-hT,Vj,Vj,Jw _ _ _ (M1 _ _)]
theorem LH (h:At S i n E)(w:Wf n E):Yv [.ref 0] S=some (.tup ((E.filter λe=>e.ts.isEmpty).map (key i)),S):=by
 have hz:100<=Wc:=by decide
 have l:=w.l
 generalize hT:S++[Ob.lst (E.map (key i))]++[.lst (E.map (fl i))]=T
 have hat:T[(S++[Ob.lst (E.map (key i))]).length]? = some (.lst (E.map (fl i))):=by rw [<-hT];exact Wu ..
 have a1:=D9 h w
 rw [hT] at a1;have c1:Yd (E.map (fl i)) (.lst (S++[Ob.lst (E.map (key i))]).length) [none] (gN 0) Qs Qr (E.map (fl i)) [] T=some ((E.filter λe=>e.ts.isEmpty).map (key i),T):=
  Up E (fl i) (λe=>e.ts.isEmpty) (key i) (show BP (.lst _) _ _ from hat) (by omega) λe he=>⟨_,rfl,by
   have:=Nr (i:=i) (S:=T) e
   simp only [Qs,EVS,W7,W8,Wd,W4,We,Wg,W9,Wa,W6,↓reduceIte,reduceCtorEq,W0,Wb,W5,this],λ_=>by
   have i0:gIx (fl i e) (.int 0) T=some (key i e,_):=rfl
   simp only [Qr,EVS,W7,W8,Wd,W4,We,Wg,W9,Wa,W6,↓reduceIte,reduceCtorEq,W0,Wb,W5,i0]⟩
 unfold Yv;simp only [EVS,W7,W8,Wd,W4,We,Wg,W9,Wa,W6,↓reduceIte,reduceCtorEq,W0,Wb,W5,Q0,ZJ (m:="all_files") h (λ_ _=>rfl),YZ,a1,RP hat,c1]
 rw [<-hT,Vj,Jw _ _ _ (M1 _ _)]
theorem Uj (h:At S i n E)(w:Wf n E){e:Ent}(he:e∈E)(ht:e.ts.isEmpty=false):Zb [.ref 0,key i e] S=some (fl i e,S):=by
 have g1:=Nr (i:=i) (S:=S) e
 rw [ht] at g1;unfold Zb;simp only [EVS,W7,W8,Wd,W4,We,Wg,W9,Wa,W6,↓reduceIte,reduceCtorEq,W0,Wb,W5,Q0,ZJ (m:="file") h (λ_ _=>rfl),YZ,Mm h w he,g1]
theorem MH (h:At S i n E)(w:Wf n E){e:Ent}(he:e∈E){p:Mk×Str}(ht:e.ts=[p]):Ye [.ref 0,key i e] S=some (.str p.2,S):=by
 have s1:=Uj h w he (by rw [ht];rfl)
 have i4:gIx (fl i e) (.int 4) S=some (.tup [Qj p],S):=by
  show some (D.tup (e.ts.map Qj),S)=_
  rw [ht];rfl
 have i5:gIx (.tup [Qj p]) (.int (-1)) S=some (Qj p,S):=Ib (ds:=[])
 have i6:gIx (Qj p) (.int 1) S=some (.str p.2,S):=rfl
 unfold Ye;simp only [EVS,W7,W8,Wd,W4,We,Wg,W9,Wa,W6,↓reduceIte,reduceCtorEq,W0,Wb,W5,Q0,ZJ (m:="file_on_shelf") h (λ_ _=>rfl),YZ,s1,i4,i5,i6]
end
end K07
namespace K07
open PySem L2 DL
section
variable {S:Sto} {i n:Int} {E:List Ent} {en:En}
theorem At.tick (h:At S i n E):At (S.set 0 (hs i (n+1))) i (n+1) E:=⟨WQ (Wi.mp h.h0).1,by rw [WL (by decide)];exact h.h1⟩
theorem P9 (h:At S i n E):UA "House" "acts" (Zn (D.int 1)) (Z4 0) (some (.ref 0) :: en) S=some (.nx,some (.ref 0) :: en,S.set 0 (hs i (n+1))):=by
 have r:Z4 0 (some (.ref 0) :: en) S=some (.ref 0,S):=rfl
 have e:=Bq h
 have l:(hf i n).lookup ("acts" : Str)=some (D.int n):=rfl
 unfold UA;rw [r,WK];dsimp only;rw [e,WK,l];dsimp only [Zn];rw [WK];dsimp only;rw [e,WK,if_pos (show (hf i n).length<1000 from (show 4<1000 by decide))]
 rfl
theorem G2 (h:At S i n E):Zi [.ref 0] S=some (enc (i,n+1),S.set 0 (hs i (n+1))):=by
 have z2:2<=Wc:=by decide
 have h':=h.tick
 have r:=Bv (nN:=1) (n:=1) (m:=YM) (ds:=[.ref 0]) (S:=S) rfl
 unfold Zi;rw [r];have e:YM (Q6 1 [.ref 0]) S=some (.rt (enc (i,n+1)),[some (.ref 0)],S.set 0 (hs i (n+1))):=by
  refine Yi (P9 h) ?_
  simp only [EVS,W7,W8,Wd,W4,We,Wg,W9,Wa,W6,↓reduceIte,reduceCtorEq,W0,Wb,W5,Bw,P8 h',Mp h',z2]
  rfl
 rw [e,QE,Ja YK]
theorem NR {x:Str}(hx:(1<=(cs x).length/\(cs x).length<=6)/\∀ch∈cs x,97<=ch/\ch<=122):ZM [.str x] S=some (.non,S):=by
 have hz:1000<=Wc:=S8
 have hl:=hx.1.2
 have e:x.length=(cs x).length:=by simp [cs,Str.length]
 have n1:=EG (x:=x) (S:=S) (by omega)
 rw [RS hx] at n1;unfold ZM;simp only [EVS,W7,W8,Wd,W4,We,Wg,W9,Wa,W6,↓reduceIte,reduceCtorEq,W0,Wb,W5,n1]
theorem NQ {x:Str}(h1:(cs x).length<=60)(h2:∀ch∈cs x,32<=ch/\ch<=126):ZL [.str x] S=some (.non,S):=by
 have n1:=AT (x:=x) (S:=S) (MY (Bo h1 h2))
 rw [Bo h1 h2] at n1;unfold ZL;simp only [EVS,W7,W8,Wd,W4,We,Wg,W9,Wa,W6,↓reduceIte,reduceCtorEq,W0,Wb,W5,n1]
theorem gc1 {l m:Int}(hl:l<=m):ZW [.tup [enc (i,l)],.tup [enc (i,m)]] S=some (.tup [enc (i,m)],S):=by
 have hz:100<=Wc:=by decide
 have d1:=LP (ms:=[(i,l)]) (S:=S) (show 1<=Wc by omega) (by simp)
 have d1':Me (some (.tup [enc (i,l)],S))=some (.ref S.length,S++[.dct [QG (i,l)]]):=d1
 have hat:(S++[Ob.dct ([(i,l)].map QG)])[S.length]? = some (.dct ([(i,l)].map QG)):=Wu ..
 have g:=Ce (a:=Z4 2) (b:=mOp gIx (Z4 3) (Zn (D.int (0)))) (c:=mOp gIx (Z4 3) (Zn (D.int (1)))) (en:=[some (.tup [enc (i,l)]),some (.tup [enc (i,m)]),some (.ref S.length),some (enc (i,m))]) (S:=S++[Ob.dct ([(i,l)].map QG)]) (n:=S.length) (k:=.int i) (x:=.int m) rfl rfl rfl (Ck hat)
 rw [Mt (ms:=[(i,l)]) (h:=i) (n:=l) (by simp) (by simp)] at g
 have g':Nb (Z4 2) (mOp gIx (Z4 3) (Zn (D.int (0)))) (mOp gIx (Z4 3) (Zn (D.int (1)))) [some (.tup [enc (i,l)]),some (.tup [enc (i,m)]),some (.ref S.length),some (enc (i,m))] (S++[Ob.dct [QG (i,l)]])=some (.int l,S++[Ob.dct [QG (i,l)]]):=g
 have mxe:CJ m l=m:=by rw [LD];omega
 have i1:∀S,gIx (enc (i,m)) (.int 1) S=some (.int m,S):=λ_=>rfl
 have pe:Hr [(i,l)] i m=[(i,m)]:=by simp [Hr]
 have s1:=YL (mv:=EL CJ (mOp gIx (Z4 3) (Zn (D.int (1)))) (Nb (Z4 2) (mOp gIx (Z4 3) (Zn (D.int (0)))) (mOp gIx (Z4 3) (Zn (D.int (1)))))) (ma:=Z4 2) (mb:=mOp gIx (Z4 3) (Zn (D.int (0)))) (en:=[some (.tup [enc (i,l)]),some (.tup [enc (i,m)]),some (.ref S.length),some (enc (i,m))]) (S:=S++[Ob.dct ([(i,l)].map QG)]) (n:=S.length) (k:=.int i) (v:=.int m)
  (by simp only [EVS,W7,W8,Wd,W4,We,Wg,W9,Wa,W6,↓reduceIte,reduceCtorEq,W0,Wb,W5,g',i1,mxe]) rfl rfl (PZ (ms:=[(i,l)]) (show 1<Wc by omega))
 rw [pe] at s1;have b1:Qn [some (.tup [enc (i,l)]),some (.tup [enc (i,m)]),some (.ref S.length),some (enc (i,m))] (S++[Ob.dct [QG (i,l)]])=some (.nx,_,S++[.dct [QG (i,m)]]):=s1
 have ok:Ic ([(i,m)].map QG)=true:=by
  unfold Ic;rw [BX,Td [(i,m)] (show 1<64 by decide),Ga,W0V,W0V]
  rfl
 have h4:=PR (a:=Z4 2) (en:=[some (.tup [enc (i,l)]),some (.tup [enc (i,m)]),some (.ref S.length),some (enc (i,m))]) (S:=S++[.dct ([(i,m)].map QG)]) (n:=S.length) rfl (Wu ..) ok
 rw [BX,Ky (JW [(i,m)]) (List.Perm.refl _) (by simp)] at h4
 have h5:Th (Z4 2) [some (.tup [enc (i,l)]),some (.tup [enc (i,m)]),some (.ref S.length),some (enc (i,m))] (S++[.dct [QG (i,m)]])=some ([enc (i,m)],S++[.dct [QG (i,m)]]):=h4
 unfold ZW;simp only [EVS,W7,W8,Wd,W4,We,Wg,W9,Wa,W6,↓reduceIte,reduceCtorEq,W0,Wb,W5,d1',b1,h5]
 exact congrArg some (Jw _ _ _ (Nf _ [(i,m)]))
theorem CO (w:Wf n E){x t:Str}(hn:n+1<=15):Wf (n+1) (E++[⟨n+1,x,n+1,[],[((i,n+1),t)]⟩]):=by
 refine⟨?_,λe he=>?_,?_,hn⟩
 ·rw [List.pairwise_append]
  refine⟨w.ri,List.pairwise_singleton ..,λa ha b hb=>?_⟩
  rw [W1c] at hb;subst hb;have:=(w.ub a ha).1
  show a.c<n+1
  omega
 ·rcases List.mem_append.mp he with z|z
  ·have:=w.ub e z
   exact⟨by omega,by omega,this.2.2⟩
  ·rw [W1c] at z
   subst z;exact⟨Int.le_refl _,Int.le_refl _,Vq _,Wq _⟩
 ·have:=w.ln
  rw [WP,W0K];omega
theorem CN (w:Wf n E){t:Ent}(hc:t.c<=n)(hl:t.l=n+1)(h1:t.ns.length<=1)(h2:t.ts.length<=1)(hn:n+1<=15):Wf (n+1) (T5 E t):=by
 refine⟨?_,λe he=>?_,?_,hn⟩
 ·unfold T5
  rw [W0E];refine w.ri.imp λ{a b} q=>?_
  have key:∀a:Ent,(if a.c=t.c then t else a).c=a.c:=λa=>by
   split
   ·rename_i z;exact z.symm
   ·rfl
  rw [key,key];exact q
 ·obtain⟨a,ha,rfl⟩:=Vw.mp he
  have:=w.ub a ha
  split
  ·exact⟨by omega,by omega,h1,h2⟩
  ·exact⟨by omega,by omega,this.2.2⟩
 ·have:=w.ln
  unfold T5;rw [Wl];omega
theorem EI (h:At S i n E)(w:Wf n E){x t:Str}(hx:(1<=(cs x).length/\(cs x).length<=6)/\∀ch∈cs x,97<=ch/\ch<=122)(t1:(cs t).length<=60)(t2:∀ch∈cs t,32<=ch/\ch<=126) :
  Q3 [.ref 0,.str x,.str t] S=some (enc (i,n+1),(S.set 0 (hs i (n+1))).set 1 (.dct (kv i (fl i) (E++[⟨n+1,x,n+1,[],[((i,n+1),t)]⟩])))):=by
 have h':=h.tick
 have s1:=NN (c:=n+1) (v:=fl i ⟨n+1,x,n+1,[],[((i,n+1),t)]⟩) h'.h1 (by have:=w.l;omega)
 have e1:=Bz (i:=i) (f:=fl i) (E:=E) (t:=⟨n+1,x,n+1,[],[((i,n+1),t)]⟩) λe he=>by have:=(w.ub e he).1;show e.c≠n+1;omega
 have e1':JH (kv i (fl i) E) (enc (i,n+1)) (fl i ⟨n+1,x,n+1,[],[((i,n+1),t)]⟩)=_:=e1
 rw [e1'] at s1;have g:=YL (mv:=YG (Z2 (Z4 3) (Z2 (Z4 1) (Z2 (YG (Z2 (Z4 3) Zo)) (Z2 (YG Zo) (Z2 (YG (Z2 (YG (Z2 (Z4 3) (Z2 (Z4 2) Zo))) Zo)) Zo)))))) (ma:=Nc "House" "files" (Z4 0)) (mb:=Z4 3) (en:=[some (.ref 0),some (.str x),some (.str t),some (enc (i,n+1))]) (S:=S.set 0 (hs i (n+1))) (n:=1) (k:=enc (i,n+1)) (v:=fl i ⟨n+1,x,n+1,[],[((i,n+1),t)]⟩)
  (by
   have z5:5<=Wc:=by decide
   have z2:2<=Wc:=by decide
   have z1:1<=Wc:=by decide
   have z0:0<=Wc:=by decide
   simp only [EVS,W7,W8,Wd,W4,We,Wg,W9,Wa,W6,↓reduceIte,reduceCtorEq,W0,Wb,W5,z5,z2,z1,z0]
   rfl) (by simp only [EVS,W7,W8,Wd,W4,We,Wg,W9,Wa,W6,↓reduceIte,reduceCtorEq,W0,Wb,W5,Bw,J4 h']) rfl s1
 unfold Q3;simp only [EVS,W7,W8,Wd,W4,We,Wg,W9,Wa,W6,↓reduceIte,reduceCtorEq,W0,Wb,W5,NR hx,NQ t1 t2,Q0,ZJ (m:="next_mark") h (λ_ _=>rfl),YZ,G2 h,g]
 rw [Ja (by rw [YK,YK])]
theorem US (h:At S i n E)(hl:E.length<=20){e:Ent}(he:e∈E){m:Int}(hm:e.l<=m)(ns ts:List (Mk×Str)):Zm [.ref 0,fl i e,enc (i,m),.tup (ns.map Qj),.tup (ts.map Qj)] S=some (.non,S.set 1 (.dct (kv i (fl i) (T5 E ⟨e.c,e.x,m,ns,ts⟩)))):=by
 have s1:=NN (c:=e.c) (v:=fl i ⟨e.c,e.x,m,ns,ts⟩) h.h1 hl
 have e1:JH (kv i (fl i) E) (enc (i,e.c)) (fl i ⟨e.c,e.x,m,ns,ts⟩)=_:=By (t:=⟨e.c,e.x,m,ns,ts⟩) he rfl
 rw [e1] at s1;have i0:∀S,gIx (fl i e) (.int 0) S=some (enc (i,e.c),S):=λ_=>rfl
 have i1:∀S,gIx (fl i e) (.int 1) S=some (.str e.x,S):=λ_=>rfl
 have i2:∀S,gIx (fl i e) (.int 2) S=some (.tup [enc (i,e.l)],S):=λ_=>rfl
 have g:=YL (mv:=YG (Z2 (mOp gIx (Z4 1) (Zn (D.int (0)))) (Z2 (mOp gIx (Z4 1) (Zn (D.int (1)))) (Z2 (ZK ZW (Z2 (mOp gIx (Z4 1) (Zn (D.int (2)))) (Z2 (YG (Z2 (Z4 2) Zo)) Zo))) (Z2 (Z4 3) (Z2 (Z4 4) Zo)))))) (ma:=Nc "House" "files" (Z4 0)) (mb:=mOp gIx (Z4 1) (Zn (D.int (0)))) (en:=[some (.ref 0),some (fl i e),some (enc (i,m)),some (.tup (ns.map Qj)),some (.tup (ts.map Qj))]) (S:=S) (n:=1) (k:=enc (i,e.c)) (v:=fl i ⟨e.c,e.x,m,ns,ts⟩)
  (by
   have z5:5<=Wc:=by decide
   have z1:1<=Wc:=by decide
   simp only [EVS,W7,W8,Wd,W4,We,Wg,W9,Wa,W6,↓reduceIte,reduceCtorEq,W0,Wb,W5,i0,i1,i2,gc1 hm,z5,z1]
   rfl) (by simp only [EVS,W7,W8,Wd,W4,We,Wg,W9,Wa,W6,↓reduceIte,reduceCtorEq,W0,Wb,W5,Bw,J4 h]) (by simp only [EVS,W7,W8,Wd,W4,We,Wg,W9,Wa,W6,↓reduceIte,reduceCtorEq,W0,Wb,W5,i0]) s1
 unfold Zm;simp only [EVS,W7,W8,Wd,W4,We,Wg,W9,Wa,W6,↓reduceIte,reduceCtorEq,W0,Wb,W5,g]
 rw [Ja YK]
theorem PD (h:At S i n E)(w:Wf n E){e:Ent}(he:e∈E)(ht:e.ts.isEmpty=false){t:Str}(t1:(cs t).length<=60)(t2:∀ch∈cs t,32<=ch/\ch<=126) :
  YE [.ref 0,key i e,.str t] S=some (.non,(S.set 0 (hs i (n+1))).set 1 (.dct (kv i (fl i) (T5 E ⟨e.c,e.x,n+1,e.ns,[((i,n+1),t)]⟩)))):=by
 have h':=h.tick
 have z2:2<=Wc:=by decide
 have z1:1<=Wc:=by decide
 have i3:∀S,gIx (fl i e) (.int 3) S=some (.tup (e.ns.map Qj),S):=λ_=>rfl
 have c:=US h' (by have:=w.l;omega) he (m:=n+1) (by have:=(w.ub e he).2.1;omega) e.ns [((i,n+1),t)]
 have c':Zm [.ref 0,fl i e,enc (i,n+1),.tup (e.ns.map Qj),.tup [.tup [enc (i,n+1),.str t]]] (S.set 0 (hs i (n+1)))=_:=c
 unfold YE;simp only [EVS,W7,W8,Wd,W4,We,Wg,W9,Wa,W6,↓reduceIte,reduceCtorEq,W0,Wb,W5,Q0,ZJ (m:="file_on_shelf") h (λ_ _=>rfl),YZ,Uj h w he ht,NQ t1 t2,ZJ (m:="next_mark") h (λ_ _=>rfl),G2 h,ZJ (m:="change") h' (λ_ _=>rfl),i3,z2,z1,c']
 rw [Ja (by rw [YK,YK])]
theorem KK (h:At S i n E)(w:Wf n E){e:Ent}(he:e∈E)(ht:e.ts.isEmpty=false){x:Str}(hx:(1<=(cs x).length/\(cs x).length<=6)/\∀ch∈cs x,97<=ch/\ch<=122) :
  Yn [.ref 0,key i e,.str x] S=some (.non,(S.set 0 (hs i (n+1))).set 1 (.dct (kv i (fl i) (T5 E ⟨e.c,e.x,n+1,[((i,n+1),x)],e.ts⟩)))):=by
 have h':=h.tick
 have z2:2<=Wc:=by decide
 have z1:1<=Wc:=by decide
 have i3:∀S,gIx (fl i e) (.int 4) S=some (.tup (e.ts.map Qj),S):=λ_=>rfl
 have c:=US h' (by have:=w.l;omega) he (m:=n+1) (by have:=(w.ub e he).2.1;omega) [((i,n+1),x)] e.ts
 have c':Zm [.ref 0,fl i e,enc (i,n+1),.tup [.tup [enc (i,n+1),.str x]],.tup (e.ts.map Qj)] (S.set 0 (hs i (n+1)))=_:=c
 unfold Yn;simp only [EVS,W7,W8,Wd,W4,We,Wg,W9,Wa,W6,↓reduceIte,reduceCtorEq,W0,Wb,W5,Q0,ZJ (m:="file_on_shelf") h (λ_ _=>rfl),YZ,Uj h w he ht,NR hx,ZJ (m:="next_mark") h (λ_ _=>rfl),G2 h,ZJ (m:="change") h' (λ_ _=>rfl),i3,z2,z1,c']
 rw [Ja (by rw [YK,YK])]
theorem Ci (h:At S i n E)(w:Wf n E){e:Ent}(he:e∈E)(ht:e.ts.isEmpty=false) :
  Q4 [.ref 0,key i e] S=some (.non,(S.set 0 (hs i (n+1))).set 1 (.dct (kv i (fl i) (T5 E ⟨e.c,e.x,n+1,[],[]⟩)))):=by
 have h':=h.tick
 have z0:0<=Wc:=by decide
 have c:=US h' (by have:=w.l;omega) he (m:=n+1) (by have:=(w.ub e he).2.1;omega) [] []
 have c':Zm [.ref 0,fl i e,enc (i,n+1),.tup [],.tup []] (S.set 0 (hs i (n+1)))=_:=c
 unfold Q4;simp only [EVS,W7,W8,Wd,W4,We,Wg,W9,Wa,W6,↓reduceIte,reduceCtorEq,W0,Wb,W5,Q0,ZJ (m:="file_on_shelf") h (λ_ _=>rfl),YZ,Uj h w he ht,ZJ (m:="next_mark") h (λ_ _=>rfl),G2 h,ZJ (m:="change") h (λ_ _=>rfl),z0,c']
 rw [Ja (by rw [YK,YK])]
end
end K07
namespace K07
open PySem L2 DL
section
variable {S:Sto} {i n:Int} {E:List Ent} {en:En}
theorem Ee {e:Ent}(h:e.ns.length<=1/\e.ts.length<=1)(S:Sto):ZI 12 [fl i e,fl i e] S=some (.bl true,S):=Tg 5 _ 6 S (Z0y (show 1<=6 by decide) (by omega) (by omega))
theorem L4 (k:Int)(S:Sto):ZI 12 [.int k,.int k] S=some (.bl true,S):=Tg 1 _ 10 S (by unfold SD;trivial)
theorem L3 (k:Str)(S:Sto):ZI 12 [.str k,.str k] S=some (.bl true,S):=Tg 1 _ 10 S (by unfold SD;trivial)
theorem KG (p:Mk)(S:Sto):ZI 12 [enc p,enc p] S=some (.bl true,S):=Tg 5 _ 6 S (BN 4 p)
theorem GP {l:List Ent}(hl:l.length<=20)(S:Sto):ZI 12 [.tup (l.map (key i)),.tup (l.map (key i))] S=some (.bl true,S):=Tg 5 _ 6 S ⟨by rw [Wl];omega,λd hd=>by
 obtain⟨e,_,rfl⟩:=Vw.mp hd
 exact BN 3 _⟩
theorem IW (e:Ent)(S:Sto):UZ [.int i,key i e,lv e] S=some (fl i e,S):=by
 have z5:5<=Wc:=by decide
 have z2:2<=Wc:=by decide
 have z1:1<=Wc:=by decide
 unfold UZ;rw [Bv (nN:=7) (n:=3) (m:=N5) (ds:=[.int i,key i e,lv e]) (S:=S) rfl]
 have r:N5 (Q6 7 [.int i,key i e,lv e]) S=some (.rt (fl i e),[some (.int i),some (key i e),some (lv e),some (.str e.x),some (.int e.l),some (.tup (e.ns.map Qj)),some (.tup (e.ts.map Qj))],S):=by
  refine Yi (en1:=[some (.int i),some (key i e),some (lv e),some (.str e.x),some (.int e.l),some (.tup (e.ns.map Qj)),some (.tup (e.ts.map Qj))]) (S1:=S) rfl ?_
  simp only [EVS,W7,W8,Wd,W4,We,Wg,W9,Wa,W6,↓reduceIte,reduceCtorEq,W0,Wb,W5,z5,z2,z1]
  rfl
 rw [r,QE];have l:Jp S.length (fl i e)=true:=Oz ..
 unfold Ui;split<;>rfl
def live (E:List Ent):List Ent:=E.filter λe=>!e.ts.isEmpty
def Nt (E:List Ent):List Ent:=E.filter λe=>e.ts.isEmpty
theorem Lq (w:Wf n E):(live E).length<=15:=V2 (W0L _ _) w.l
theorem Lr (w:Wf n E):(Nt E).length<=15:=V2 (W0L _ _) w.l
theorem Rs {c:M Bool}{m:M D}{nT:Nat}{caps:List Nat}(h3:S[3]? = some (.dct (kv i lv E)))(w:Wf n E)(hc:QJ nT caps en=[none,some (.ref 3)])(e1:c=YW)(e2:m=YU) :
  UK nT caps (gN 0) c m en (Ud (some (.ref 3,S)))=some ((live E).map (key i),S):=by
 have hz:100<=Wc:=by decide
 have l:=w.l
 subst e1 e2;refine Tw h3 M5 E (key i) G8 (λe=>!e.ts.isEmpty) (key i) (by omega) λe he=>?_
 rw [hc];have hg:(S.set 3 (.fdct (kv i lv E)))[3]? = some (.fdct (kv i lv E)):=by rw [WQ (Wi.mp h3).1]
 have ix:=RN w.nd hg he
 have i3:∀S,gIx (lv e) (.int 3) S=some (.tup (e.ts.map Qj),S):=λ_=>rfl
 refine⟨_,rfl,?_,λ_=>?_⟩
 ·simp only [YW,EVS,W7,W8,Wd,W4,We,Wg,W9,Wa,W6,↓reduceIte,reduceCtorEq,W0,Wb,W5,ix,i3]
  cases e.ts<;>rfl
 ·simp only [YU,EVS,W7,W8,Wd,W4,We,Wg,W9,Wa,W6,↓reduceIte,reduceCtorEq,W0,Wb,W5]
theorem LI {nT:Nat}{caps:List Nat}(h3:S[3]? = some (.dct (kv i lv E)))(w:Wf n E)(hc:QJ nT caps en=[none,some (.ref 3)]) :
  UK nT caps (gN 0) YV YT en (Ud (some (.ref 3,S)))=some ((Nt E).map (key i),S):=by
 have hz:100<=Wc:=by decide
 have l:=w.l
 refine Tw h3 M5 E (key i) G8 (λe=>e.ts.isEmpty) (key i) (by omega) λe he=>?_
 rw [hc];have hg:(S.set 3 (.fdct (kv i lv E)))[3]? = some (.fdct (kv i lv E)):=by rw [WQ (Wi.mp h3).1]
 have ix:=RN w.nd hg he
 have i3:∀S,gIx (lv e) (.int 3) S=some (.tup (e.ts.map Qj),S):=λ_=>rfl
 refine⟨_,rfl,?_,λ_=>?_⟩
 ·simp only [YV,EVS,W7,W8,Wd,W4,We,Wg,W9,Wa,W6,↓reduceIte,reduceCtorEq,W0,Wb,W5,ix,i3]
  cases e.ts<;>rfl
 ·simp only [YT,EVS,W7,W8,Wd,W4,We,Wg,W9,Wa,W6,↓reduceIte,reduceCtorEq,W0,Wb,W5]
theorem OB (h:At S i n E)(h3:S[3]? = some (.dct (kv i lv E)))(w:Wf n E)(x4:Option D):∃x5 x6,Ro (QT (Z4 3)) (gN 5) Ym [some (.ref 0),some (.int i),some (.int n),some (.ref 3),x4,none,none,none] S=some (.nx,[some (.ref 0),some (.int i),some (.int n),some (.ref 3),x4,x5,x6,none],S):=by
 generalize hT:S.set 3 (.fdct (kv i lv E))=T
 have hg:T[3]? = some (.fdct (kv i lv E)):=by rw [<-hT,WQ (Wi.mp h3).1]
 have hA:At T i n E:=by rw [<-hT];exact⟨by rw [WL (by decide)];exact h.h0,by rw [WL (by decide)];exact h.h1⟩
 let P:List Ent->En->Sto->Prop:=λpre en S'=>∃x5 x6,en=[some (.ref 0),some (.int i),some (.int n),some (.ref 3),x4,x5,x6,none]/\S'=T
 have step:∀(pre:List Ent) (e:Ent) (post:List Ent) (en:En) (S1:Sto),E=pre++e :: post->P pre en S1->∃en1,gN 5 (key i e) en=some en1/\∃en2 S2,Ym en1 S1=some (.nx,en2,S2)/\P (pre++[e]) en2 S2:=by
  intro pre e post en S1 hpre hP;obtain⟨x5,x6,rfl,rfl⟩:=hP
  have he:e∈E:=by rw [hpre];simp
  have f1:=Mm hA w he
  have f2:=RN w.nd hg he
  have f3:=IW (i:=i) e S1
  have f4:=Ee (i:=i) (w.ub e he).2.2 S1
  have b0:∀y:Option D,Qt [some (.ref 0),some (.int i),some (.int n),some (.ref 3),x4,some (key i e),y,none] S1=some (.nx,[some (.ref 0),some (.int i),some (.int n),some (.ref 3),x4,some (key i e),y,none],S1):=λy=>by
   simp only [Qt,EVS,W7,W8,Wd,W4,We,Wg,W9,Wa,W6,↓reduceIte,reduceCtorEq,W0,Wb,W5,Q0,ZJ (m:="file") hA (λ_ _=>rfl),YZ,f1,f2,f3,f4]
  refine⟨_,rfl,[some (.ref 0),some (.int i),some (.int n),some (.ref 3),x4,some (key i e),some (.int 1),none],S1,?_,_,_,rfl,rfl⟩
  have h2:BO 0 2=[.int 0,.int 1]:=by simp [BO,Wo,Wo.loop]
  simp only [Ym,EVS,W7,W8,Wd,W4,We,Wg,W9,Wa,W6,↓reduceIte,reduceCtorEq,W0,Wb,W5,Bd (show -(2 ^ 62)<=(2:Int)/\(2:Int)<2 ^ 62 by decide),h2,b0]
 obtain⟨en',S',e,x5,x6,e4,e5⟩:=UN (g:=gN 5) (ds0:=E.map (key i)) (gd:=.fr 3 (kv i lv E) true) (body:=Ym) E (key i) P step (λpre en S' hP=>by
  obtain⟨_,_,_,rfl⟩:=hP
  exact hg) (en:=[some (.ref 0),some (.int i),some (.int n),some (.ref 3),x4,none,none,none]) (S:=T) ⟨_,_,rfl,rfl⟩
 rw [e4,e5] at e;refine⟨x5,x6,?_⟩
 have tw:=F1 h3
 rw [hT] at tw;simp only [EVS,W7,W8,Wd,W4,We,Wg,W9,Wa,W6,↓reduceIte,reduceCtorEq,W0,Wb,W5,Tl h3 M5,G8,hT,Nn,e]
 unfold thF;rw [WK];dsimp only;rw [tw];rfl
theorem OA (h:At S i n E)(h3:S[3]? = some (.dct (kv i lv E)))(w:Wf n E){k:Nat}(hk:S[k]? = some (.lst ((live E).map (key i))))(x5 x6:Option D):∃y5,Ro (QT (Z4 4)) (gN 5) Yl [some (.ref 0),some (.int i),some (.int n),some (.ref 3),some (.ref k),x5,x6,none] S=some (.nx,[some (.ref 0),some (.int i),some (.int n),some (.ref 3),some (.ref k),y5,x6,none],S):=by
 let P:List Ent->En->Sto->Prop:=λpre en S'=>∃y5,en=[some (.ref 0),some (.int i),some (.int n),some (.ref 3),some (.ref k),y5,x6,none]/\S'=S
 have step:∀(pre:List Ent) (e:Ent) (post:List Ent) (en:En) (S1:Sto),live E=pre++e :: post->P pre en S1->∃en1,gN 5 (key i e) en=some en1/\∃en2 S2,Yl en1 S1=some (.nx,en2,S2)/\P (pre++[e]) en2 S2:=by
  intro pre e post en S1 hpre hP;obtain⟨y5,rfl,rfl⟩:=hP
  have hm:e∈live E:=by rw [hpre];simp
  obtain⟨he,hte⟩:=W0W.mp hm
  obtain⟨p,hp⟩:∃p,e.ts=[p]:=by
   have:=(w.ub e he).2.2.2
   cases ht:e.ts with
   |nil=>rw [ht] at hte;cases hte
   |cons p r=>
    cases r with
    |nil=>exact⟨p,rfl⟩
    |cons _ _=>rw [ht] at this;simp at this
  have f1:=MH h w he hp
  have f2:=(LC w.nd h3 he).2
  have i3:gIx (lv e) (.int 3) S1=some (.tup [Qj p],S1):=by
   show some (D.tup (e.ts.map Qj),S1)=_
   rw [hp];rfl
  have i0:gIx (.tup [Qj p]) (.int 0) S1=some (Qj p,S1):=rfl
  have i1:gIx (Qj p) (.int 1) S1=some (.str p.2,S1):=rfl
  have f4:=L3 p.2 S1
  refine⟨_,rfl,[some (.ref 0),some (.int i),some (.int n),some (.ref 3),some (.ref k),some (key i e),x6,none],S1,?_,_,rfl,rfl⟩
  simp only [Yl,EVS,W7,W8,Wd,W4,We,Wg,W9,Wa,W6,↓reduceIte,reduceCtorEq,W0,Wb,W5,Q0,ZJ (m:="text_of") h (λ_ _=>rfl),YZ,f1,f2,i3,i0,i1,f4]
 obtain⟨en',S',e,y5,e4,e5⟩:=UN (g:=gN 5) (ds0:=(live E).map (key i)) (gd:=.lst k) (body:=Yl) (live E) (key i) P step (λpre en S' hP=>by
  obtain⟨_,_,rfl⟩:=hP
  exact hk) (en:=[some (.ref 0),some (.int i),some (.int n),some (.ref 3),some (.ref k),x5,x6,none]) (S:=S) ⟨_,rfl,rfl⟩
 rw [e4,e5] at e;refine⟨y5,?_⟩
 simp only [EVS,W7,W8,Wd,W4,We,Wg,W9,Wa,W6,↓reduceIte,reduceCtorEq,W0,Wb,W5,RP hk,e]
theorem NS (h:At S i n E)(h3:S[3]? = some (.dct (kv i lv E)))(w:Wf n E):Yu [.ref 0,.int i,.int n,.ref 3] S=some (.bl true,S):=by
 have hz:100<=Wc:=by decide
 generalize hT:S++[Ob.lst ((live E).map (key i))]=T
 have hat:T[S.length]? = some (.lst ((live E).map (key i))):=by rw [<-hT];exact Wu ..
 have hA:At T i n E:=by rw [<-hT];exact h.up
 have hA3:T[3]? = some (.dct (kv i lv E)):=by rw [<-hT];exact up h3
 generalize hU:T++[Ob.lst ((Nt E).map (key i))]=U
 have hat2:U[S.length]? = some (.lst ((live E).map (key i))):=by rw [<-hU];exact up hat
 have hat3:U[T.length]? = some (.lst ((Nt E).map (key i))):=by rw [<-hU];exact Wu ..
 have hB:At U i n E:=by rw [<-hU];exact hA.up
 obtain⟨x5,x6,l1⟩:=OB hA hA3 w (some (.ref S.length))
 obtain⟨y5,l2⟩:=OA hA hA3 w hat x5 x6
 have c0:UK 1 [3] (gN 0) YW YU [some (.ref 0),some (.int i),some (.int n),some (.ref 3),none,none,none,none] (Ud (some (.ref 3,S)))=some ((live E).map (key i),S):=Rs h3 w rfl rfl rfl
 have c1:UK 1 [3] (gN 0) YV YT [some (.ref 0),some (.int i),some (.int n),some (.ref 3),some (.ref S.length),y5,x6,none] (Ud (some (.ref 3,T)))=some ((Nt E).map (key i),T):=LI hA3 w rfl
 have q1:=GP (i:=i) (l:=live E) (by have:=Lq w;omega) U
 have q2:=GP (i:=i) (l:=Nt E) (by have:=Lr w;omega) U
 have d1:YQ [.ref 0] U=some (.tup ((live E).map (key i)),U):=Ih hB w
 have d2:Yv [.ref 0] U=some (.tup ((Nt E).map (key i)),U):=LH hB w
 have t1:=NA hat2
 have t2:=NA hat3
 unfold Yu;rw [Bv (nN:=8) (n:=4) (m:=QY) (ds:=[.ref 0,.int i,.int n,.ref 3]) (S:=S) rfl]
 have r:QY (Q6 8 [.ref 0,.int i,.int n,.ref 3]) S=some (.rt (.bl true),[some (.ref 0),some (.int i),some (.int n),some (.ref 3),some (.ref S.length),y5,x6,some (.ref T.length)],U):=by
  refine Yi (en1:=[some (.ref 0),some (.int i),some (.int n),some (.ref 3),some (.ref S.length),none,none,none]) (S1:=T) ?_ ?_
  ·show Q5 _ _ [some (.ref 0),some (.int i),some (.int n),some (.ref 3),none,none,none,none] S=_
   simp only [EVS,W7,W8,Wd,W4,We,Wg,W9,Wa,W6,↓reduceIte,reduceCtorEq,W0,Wb,W5,c0,hT]
  refine Yi (en1:=[some (.ref 0),some (.int i),some (.int n),some (.ref 3),some (.ref S.length),none,none,none]) (S1:=T) ?_ ?_
  ·simp only [EVS,W7,W8,Wd,W4,We,Wg,W9,Wa,W6,↓reduceIte,reduceCtorEq,W0,Wb,W5,Q0,ZJ (m:="number") hA (λ_ _=>rfl),ZJ (m:="count") hA (λ_ _=>rfl),YZ,Rb hA,LS hA,L4]
  refine Yi l1 ?_
  refine Yi l2 ?_
  refine Yi (en1:=[some (.ref 0),some (.int i),some (.int n),some (.ref 3),some (.ref S.length),y5,x6,some (.ref T.length)]) (S1:=U) ?_ ?_
  ·simp only [EVS,W7,W8,Wd,W4,We,Wg,W9,Wa,W6,↓reduceIte,reduceCtorEq,W0,Wb,W5,c1,hU]
  ·simp only [EVS,W7,W8,Wd,W4,We,Wg,W9,Wa,W6,↓reduceIte,reduceCtorEq,W0,Wb,W5,Q0,ZJ (m:="ids") hB (λ_ _=>rfl),ZJ (m:="gone") hB (λ_ _=>rfl),YZ,d1,d2,t1,t2,q1,q2]
 rw [r,QE,<-hU,<-hT,Vj,Jw _ _ _ rfl]
end
end K07
namespace K07
open PySem L2 DL
theorem ixL {S:Sto}{n k:Nat}{ds:List D}{d:D}(hS:S[n]? = some (.lst ds))(hd:ds[k]? = some d):gIx (.ref n) (.int (k:Int)) S=some (d,S):=by
 show (match S[n]? with|some (Ob.lst xs)=>_|_=>_)=_
 rw [hS];dsimp only;have ha:atI ds (k:Int)=some d:=Gs hd
 rw [ha];rfl
theorem Z0m {S:Sto}{n:Nat}{ds:List D}(hS:S[n]? = some (.lst ds)):CH (some (.ref n,S))=some (.int ds.length,S):=by
 rw [EQ];dsimp only [Ls];rw [hS];rfl
theorem OU {S:Sto}{n:Nat}{ds:List D}(hS:S[n]? = some (.lst ds)):CG (some (.ref n,S))=some (!ds.isEmpty,S):=by
 rw [OD];dsimp only [PL];rw [hS];rfl
structure Did (S S':Sto) (i n:Int) (E:List Ent):Prop where
 a:At S' i n E
 f:S'[3]? = some (.dct (kv i lv E))
 w:Wf n E
 k:∀(k:Nat) o,4<=k->S[k]? = some o->S'[k]? = some o
section
variable {S:Sto} {i n:Int} {E:List Ent} {en:En}
theorem did (h:At S i n E)(h3:S[3]? = some (.dct (kv i lv E)))(G:Sto)(E':List Ent)(w:Wf (n+1) E'):Did S ((((S++G).set 3 (.dct (kv i lv E'))).set 0 (hs i (n+1))).set 1 (.dct (kv i (fl i) E'))) i (n+1) E':=by
 have l3:=(Wi.mp h3).1
 have l3':3<(S++G).length:=by rw [WP];omega
 refine⟨⟨?_,?_⟩,?_,w,λk o hk ho=>?_⟩
 ·rw [WL (by decide),WQ (by rw [YK];omega)]
 ·rw [WQ (by rw [YK,YK];omega)]
 ·rw [WL (by decide),WL (by decide),WQ l3']
 ·rw [WL (by omega),WL (by omega),WL (by omega)]
  exact up ho
theorem PM {S':Sto}{v:D}{E':List Ent}(h:At S i n E)(d:Did S S' i (n+1) E'):Ui S (v,S')=(v,S'):=by
 refine AQ (k:=0) (Wi.mp h.h0).1 ?_
 rw [h.h0,d.a.h0];intro z
 injection z with z
 injection z with _ z
 have z1:=congrArg (λl:List (Str×D)=>l[1]?) z
 have z2:some (("acts" : Str),D.int (n+1))=some (("acts" : Str),D.int n):=z1
 injection z2 with z2
 injection z2 with _ z2
 injection z2 with z2
 omega
theorem Db (h:At S i n E)(h3:S[3]? = some (.dct (kv i lv E)))(w:Wf n E)(hn:n+1<=15)(c kind:Int):∃S' E',T0 [.ref 0,.int i,.int (n+1),.ref 3,.int c,.int kind] S=some (.bl true,S')/\Did S S' i (n+1) E':=by
 have hz:100<=Wc:=by decide
 have z4:4<=Wc:=by decide
 have z2:2<=Wc:=by decide
 have z1:1<=Wc:=by decide
 have z0:0<=Wc:=by decide
 obtain⟨x,hx1,hx2,hx⟩:=EF (c+1)
 obtain⟨t,ht1,ht2,ht⟩:=text_of (c+2)
 have hX:(1<=(cs x).length/\(cs x).length<=6)/\∀ch∈cs x,97<=ch/\ch<=122:=⟨hx1,hx2⟩
 generalize hT:S++[Ob.lst ((live E).map (key i))]=T
 have hat:T[S.length]? = some (.lst ((live E).map (key i))):=by rw [<-hT];exact Wu ..
 have hA3:T[3]? = some (.dct (kv i lv E)):=by rw [<-hT];exact up h3
 have hA:At T i n E:=by rw [<-hT];exact h.up
 have c0:UK 1 [3] (gN 0) UU UO [some (.ref 0),some (.int i),some (.int (n+1)),some (.ref 3),some (.int c),some (.int kind),some (enc (i,n+1)),some (.str x),some (.str t),none,none,none,none,none,none] (Ud (some (.ref 3,S)))=some ((live E).map (key i),S):=Rs h3 w rfl rfl rfl
 have At3:∀o,At (T.set 3 o) i n E:=λo=>⟨by rw [WL (by decide)];exact hA.h0,by rw [WL (by decide)];exact hA.h1⟩
 have is1:∀S:Sto,gIs .non .non S=some (.bl true,S):=λ_=>rfl
 -- the JL of the body,from the choice on
 suffices q:∃E' en',Did S ((((T).set 3 (.dct (kv i lv E'))).set 0 (hs i (n+1))).set 1 (.dct (kv i (fl i) E'))) i (n+1) E'/\N6 (Q6 15 [.ref 0,.int i,.int (n+1),.ref 3,.int c,.int kind]) S=some (.rt (.bl true),en',(((T).set 3 (.dct (kv i lv E'))).set 0 (hs i (n+1))).set 1 (.dct (kv i (fl i) E'))) by
  obtain⟨E',en',d,r⟩:=q
  refine⟨_,E',?_,d⟩
  unfold T0;rw [Bv (nN:=15) (n:=6) (m:=N6) (ds:=[.ref 0,.int i,.int (n+1),.ref 3,.int c,.int kind]) (S:=S) rfl,r,QE,PM h d]
 have start:∀{r:Option (DL.Fl×En×Sto)} {JL:MS},JL [some (.ref 0),some (.int i),some (.int (n+1)),some (.ref 3),some (.int c),some (.int kind),some (enc (i,n+1)),some (.str x),some (.str t),some (.ref S.length),none,none,none,none,none] T=r->
   (Ya (Q5 (YG (Z2 (Z4 1) (Z2 (Z4 2) Zo))) (gN 6)) (Ya (Q5 (ZK QK (Z2 (mOp Ue (Z4 4) (Zn (D.int (1)))) Zo)) (gN 7)) (Ya (Q5 (ZK Yr (Z2 (mOp Ue (Z4 4) (Zn (D.int (2)))) Zo)) (gN 8)) (Ya (Q5 (QS (Qg (QT (Z4 3)) 1 [3] (gN 0) UU UO)) (gN 9)) JL)))) (Q6 15 [.ref 0,.int i,.int (n+1),.ref 3,.int c,.int kind]) S=r:=λhr=>by
  refine Yi (en1:=[some (.ref 0),some (.int i),some (.int (n+1)),some (.ref 3),some (.int c),some (.int kind),some (enc (i,n+1)),none,none,none,none,none,none,none,none]) (S1:=S) rfl ?_
  refine Yi (en1:=[some (.ref 0),some (.int i),some (.int (n+1)),some (.ref 3),some (.int c),some (.int kind),some (enc (i,n+1)),some (.str x),none,none,none,none,none,none,none]) (S1:=S) (by simp only [EVS,W7,W8,Wd,W4,We,Wg,W9,Wa,W6,↓reduceIte,reduceCtorEq,W0,Wb,W5,hx]) ?_
  refine Yi (en1:=[some (.ref 0),some (.int i),some (.int (n+1)),some (.ref 3),some (.int c),some (.int kind),some (enc (i,n+1)),some (.str x),some (.str t),none,none,none,none,none,none]) (S1:=S) (by simp only [EVS,W7,W8,Wd,W4,We,Wg,W9,Wa,W6,↓reduceIte,reduceCtorEq,W0,Wb,W5,ht]) ?_
  exact Yi (en1:=[some (.ref 0),some (.int i),some (.int (n+1)),some (.ref 3),some (.int c),some (.int kind),some (enc (i,n+1)),some (.str x),some (.str t),some (.ref S.length),none,none,none,none,none]) (S1:=T) (by simp only [EVS,W7,W8,Wd,W4,We,Wg,W9,Wa,W6,↓reduceIte,reduceCtorEq,W0,Wb,W5,c0,hT]) hr
 have emp:((live E).map (key i)).isEmpty=(live E).isEmpty:=by cases live E<;>rfl
 by_cases hk:kind=0\/(live E).isEmpty=true
 ·-- a new file
  refine⟨E++[⟨n+1,x,n+1,[],[((i,n+1),t)]⟩],[some (.ref 0),some (.int i),some (.int (n+1)),some (.ref 3),some (.int c),some (.int kind),some (enc (i,n+1)),some (.str x),some (.str t),some (.ref S.length),none,none,none,none,none],by rw [<-hT];exact did h h3 _ _ (CO w hn),?_⟩
  refine start ?_
  have s1:=NN (c:=n+1) (v:=lv ⟨n+1,x,n+1,[],[((i,n+1),t)]⟩) hA3 (by have:=w.l;omega)
  have e1:=Bz (i:=i) (f:=lv) (E:=E) (t:=⟨n+1,x,n+1,[],[((i,n+1),t)]⟩) λe he=>by have:=(w.ub e he).1;show e.c≠n+1;omega
  have e1':JH (kv i lv E) (enc (i,n+1)) (lv ⟨n+1,x,n+1,[],[((i,n+1),t)]⟩)=_:=e1
  rw [e1'] at s1;have g:=YL (mv:=YG (Z2 (Z4 7) (Z2 (Z4 2) (Z2 (YG Zo) (Z2 (YG (Z2 (YG (Z2 (Z4 6) (Z2 (Z4 8) Zo))) Zo)) Zo))))) (ma:=Z4 3) (mb:=Z4 6) (en:=[some (.ref 0),some (.int i),some (.int (n+1)),some (.ref 3),some (.int c),some (.int kind),some (enc (i,n+1)),some (.str x),some (.str t),some (.ref S.length),none,none,none,none,none]) (S:=T) (n:=3) (k:=enc (i,n+1)) (v:=lv ⟨n+1,x,n+1,[],[((i,n+1),t)]⟩)
   (by
    simp only [EVS,W7,W8,Wd,W4,We,Wg,W9,Wa,W6,↓reduceIte,reduceCtorEq,W0,Wb,W5,z4,z2,z1,z0]
    rfl) rfl rfl s1
  have mk:=EI (At3 (.dct (kv i lv (E++[⟨n+1,x,n+1,[],[((i,n+1),t)]⟩])))) w hX ht1 ht2
  have cond:(if decide (kind=0)=true then some (true,T) else Dk (CG (some (D.ref S.length,T))))=some (true,T):=by
   by_cases q:kind=0
   ·rw [if_pos (decide_eq_true q)]
   ·have em:=hk.resolve_left q
    rw [<-emp] at em;rw [if_neg (by rw [decide_eq_true_eq];exact q),OU hat,em]
    rfl
  have sm:=λS=>KG (i,n+1) S
  simp only [EVS,W7,W8,Wd,W4,We,Wg,W9,Wa,W6,↓reduceIte,reduceCtorEq,W0,Wb,W5,cond,g,Q0,ZJ (m:="make") (At3 (.dct (kv i lv (E++[⟨n+1,x,n+1,[],[((i,n+1),t)]⟩])))) (λ_ _=>rfl),YZ,mk,sm]
 ·-- an older one
  have hk0:kind≠0:=λz=>hk (.inl z)
  have hk1:(live E).isEmpty=false:=by
   cases q:(live E).isEmpty with
   |false=>rfl
   |true=>exact absurd (.inr q) hk
  have hpos:0<(live E).length:=by
   cases q:live E with
   |nil=>rw [q] at hk1;cases hk1
   |cons _ _=>exact Nat.succ_pos _
  have hlen:((live E).map (key i)).length=(live E).length:=Wl ..
  have mx:∀S,ZV [.int c,.int 9811,.int ((live E).length:Nat)] S=some (.int (c*48271%9811%((live E).length:Nat)),S):=λS=>QO (by decide) (by omega)
  obtain⟨a,ha,hal⟩:∃a:Nat,c*48271%9811%((live E).length:Nat)=(a:Int)/\a<(live E).length:=by
   have h1:=VJ (c*48271%9811) (show ((live E).length:Int)≠0 by omega)
   have h2:=Vn (c*48271%9811) (show 0<((live E).length:Int) by omega)
   exact⟨(c*48271%9811%((live E).length:Nat)).toNat,by omega,by omega⟩
  rw [ha] at mx
  generalize hee:(live E)[a]=e
  have hem:e∈live E:=by rw [<-hee];exact VA hal
  obtain⟨he,hte⟩:=W0W.mp hem
  have hte':e.ts.isEmpty=false:=by simpa using hte
  have ix:gIx (.ref S.length) (.int (a:Int)) T=some (key i e,T):=ixL hat (by rw [WB,Wm hal,hee];rfl)
  have f2:=(LC w.nd hA3 he).2
  have cond:(if decide (kind=0)=true then some (true,T) else Dk (CG (some (D.ref S.length,T))))=some (false,T):=by
   rw [<-emp] at hk1;rw [if_neg (by rw [decide_eq_true_eq];exact hk0),OU hat,hk1]
   rfl
  have ub:=w.ub e he
  have sT:∀(ns ts:List (Mk×Str)),F5 (.ref 3) (key i e) (lv ⟨e.c,e.x,n+1,ns,ts⟩) T=some (T.set 3 (.dct (kv i lv (T5 E ⟨e.c,e.x,n+1,ns,ts⟩)))):=λns ts=>by
   have s1:=NN (c:=e.c) (v:=lv ⟨e.c,e.x,n+1,ns,ts⟩) hA3 (by have:=w.l;omega)
   have e1:JH (kv i lv E) (enc (i,e.c)) (lv ⟨e.c,e.x,n+1,ns,ts⟩)=_:=By (t:=⟨e.c,e.x,n+1,ns,ts⟩) he rfl
   rw [e1] at s1;exact s1
  have dd:∀(ns ts:List (Mk×Str)),ns.length<=1->ts.length<=1->Did S (((T.set 3 (.dct (kv i lv (T5 E ⟨e.c,e.x,n+1,ns,ts⟩)))).set 0 (hs i (n+1))).set 1 (.dct (kv i (fl i) (T5 E ⟨e.c,e.x,n+1,ns,ts⟩)))) i (n+1) (T5 E ⟨e.c,e.x,n+1,ns,ts⟩):=λns ts h1 h2=>by
   rw [<-hT];exact did h h3 _ _ (CN w ub.1 rfl h1 h2 hn)
  have mid:∀{r:Option (DL.Fl×En×Sto)} {A JL:MS},JL [some (.ref 0),some (.int i),some (.int (n+1)),some (.ref 3),some (.int c),some (.int kind),some (enc (i,n+1)),some (.str x),some (.str t),some (.ref S.length),some (key i e),some (.str e.x),some (.int e.l),some (.tup (e.ns.map Qj)),some (.tup (e.ts.map Qj))] T=r->
    (Ya (JE (mOr (mT (mOp gEq (Z4 5) (Zn (D.int (0))))) (Gt (Uc (Z4 9)))) A mNx) (Ya (Q5 (mOp gIx (Z4 9) (ZK ZV (Z2 (Z4 4) (Z2 (Zn (D.int (9811))) (Z2 (N9 (Z4 9)) Zo))))) (gN 10)) (Ya (Q5 (mOp gIx (Z4 3) (Z4 10)) (gT 4 (Yj (gN 11) (Yj (gN 12) (Yj (gN 13) (Yj (gN 14) Gj)))))) JL))) [some (.ref 0),some (.int i),some (.int (n+1)),some (.ref 3),some (.int c),some (.int kind),some (enc (i,n+1)),some (.str x),some (.str t),some (.ref S.length),none,none,none,none,none] T=r:=λhr=>by
   refine Yi (en1:=[some (.ref 0),some (.int i),some (.int (n+1)),some (.ref 3),some (.int c),some (.int kind),some (enc (i,n+1)),some (.str x),some (.str t),some (.ref S.length),none,none,none,none,none]) (S1:=T) (by simp only [EVS,W7,W8,Wd,W4,We,Wg,W9,Wa,W6,↓reduceIte,reduceCtorEq,W0,Wb,W5,cond]) ?_
   refine Yi (en1:=[some (.ref 0),some (.int i),some (.int (n+1)),some (.ref 3),some (.int c),some (.int kind),some (enc (i,n+1)),some (.str x),some (.str t),some (.ref S.length),some (key i e),none,none,none,none]) (S1:=T) (by simp only [EVS,W7,W8,Wd,W4,We,Wg,W9,Wa,W6,↓reduceIte,reduceCtorEq,W0,Wb,W5,Z0m hat,hlen,mx,ix]) ?_
   refine Yi ?_ hr
   have v:mOp gIx (Z4 3) (Z4 10) [some (.ref 0),some (.int i),some (.int (n+1)),some (.ref 3),some (.int c),some (.int kind),some (enc (i,n+1)),some (.str x),some (.str t),some (.ref S.length),some (key i e),none,none,none,none] T=some (lv e,T):=by simp only [EVS,W7,W8,Wd,W4,We,Wg,W9,Wa,W6,↓reduceIte,reduceCtorEq,W0,Wb,W5,f2]
   unfold Q5;rw [v];rfl
  by_cases hk3:kind<3
  ·refine⟨T5 E ⟨e.c,e.x,n+1,e.ns,[((i,n+1),t)]⟩,[some (.ref 0),some (.int i),some (.int (n+1)),some (.ref 3),some (.int c),some (.int kind),some (enc (i,n+1)),some (.str x),some (.str t),some (.ref S.length),some (key i e),some (.str e.x),some (.int e.l),some (.tup (e.ns.map Qj)),some (.tup (e.ts.map Qj))],dd _ _ ub.2.2.1 (Wq _),start (mid ?_)⟩
   have g:=YL (mv:=YG (Z2 (Z4 11) (Z2 (Z4 2) (Z2 (Z4 13) (Z2 (YG (Z2 (YG (Z2 (Z4 6) (Z2 (Z4 8) Zo))) Zo)) Zo))))) (ma:=Z4 3) (mb:=Z4 10) (en:=[some (.ref 0),some (.int i),some (.int (n+1)),some (.ref 3),some (.int c),some (.int kind),some (enc (i,n+1)),some (.str x),some (.str t),some (.ref S.length),some (key i e),some (.str e.x),some (.int e.l),some (.tup (e.ns.map Qj)),some (.tup (e.ts.map Qj))]) (S:=T) (n:=3) (k:=key i e) (v:=lv ⟨e.c,e.x,n+1,e.ns,[((i,n+1),t)]⟩)
    (by
     simp only [EVS,W7,W8,Wd,W4,We,Wg,W9,Wa,W6,↓reduceIte,reduceCtorEq,W0,Wb,W5,z4,z2,z1]
     rfl) rfl rfl (sT _ _)
   have wr:=PD (At3 (.dct (kv i lv (T5 E ⟨e.c,e.x,n+1,e.ns,[((i,n+1),t)]⟩)))) w he hte' ht1 ht2
   simp only [EVS,W7,W8,Wd,W4,We,Wg,W9,Wa,W6,↓reduceIte,reduceCtorEq,W0,Wb,W5,decide_eq_true hk3,g,Q0,ZJ (m:="write") (At3 (.dct (kv i lv (T5 E ⟨e.c,e.x,n+1,e.ns,[((i,n+1),t)]⟩)))) (λ_ _=>rfl),YZ,wr,is1]
  ·by_cases hk5:kind<5
   ·refine⟨T5 E ⟨e.c,e.x,n+1,[((i,n+1),x)],e.ts⟩,[some (.ref 0),some (.int i),some (.int (n+1)),some (.ref 3),some (.int c),some (.int kind),some (enc (i,n+1)),some (.str x),some (.str t),some (.ref S.length),some (key i e),some (.str e.x),some (.int e.l),some (.tup (e.ns.map Qj)),some (.tup (e.ts.map Qj))],dd _ _ (Wq _) ub.2.2.2,start (mid ?_)⟩
    have g:=YL (mv:=YG (Z2 (Z4 11) (Z2 (Z4 2) (Z2 (YG (Z2 (YG (Z2 (Z4 6) (Z2 (Z4 7) Zo))) Zo)) (Z2 (Z4 14) Zo))))) (ma:=Z4 3) (mb:=Z4 10) (en:=[some (.ref 0),some (.int i),some (.int (n+1)),some (.ref 3),some (.int c),some (.int kind),some (enc (i,n+1)),some (.str x),some (.str t),some (.ref S.length),some (key i e),some (.str e.x),some (.int e.l),some (.tup (e.ns.map Qj)),some (.tup (e.ts.map Qj))]) (S:=T) (n:=3) (k:=key i e) (v:=lv ⟨e.c,e.x,n+1,[((i,n+1),x)],e.ts⟩)
     (by
      simp only [EVS,W7,W8,Wd,W4,We,Wg,W9,Wa,W6,↓reduceIte,reduceCtorEq,W0,Wb,W5,z4,z2,z1]
      rfl) rfl rfl (sT _ _)
    have wr:=KK (At3 (.dct (kv i lv (T5 E ⟨e.c,e.x,n+1,[((i,n+1),x)],e.ts⟩)))) w he hte' hX
    simp only [EVS,W7,W8,Wd,W4,We,Wg,W9,Wa,W6,↓reduceIte,reduceCtorEq,W0,Wb,W5,decide_eq_false hk3,decide_eq_true hk5,g,Q0,ZJ (m:="rename") (At3 (.dct (kv i lv (T5 E ⟨e.c,e.x,n+1,[((i,n+1),x)],e.ts⟩)))) (λ_ _=>rfl),YZ,wr,is1]
   ·refine⟨T5 E ⟨e.c,e.x,n+1,[],[]⟩,[some (.ref 0),some (.int i),some (.int (n+1)),some (.ref 3),some (.int c),some (.int kind),some (enc (i,n+1)),some (.str x),some (.str t),some (.ref S.length),some (key i e),some (.str e.x),some (.int e.l),some (.tup (e.ns.map Qj)),some (.tup (e.ts.map Qj))],dd _ _ (Vq _) (Vq _),start (mid ?_)⟩
    have g:=YL (mv:=YG (Z2 (Z4 11) (Z2 (Z4 2) (Z2 (YG Zo) (Z2 (YG Zo) Zo))))) (ma:=Z4 3) (mb:=Z4 10) (en:=[some (.ref 0),some (.int i),some (.int (n+1)),some (.ref 3),some (.int c),some (.int kind),some (enc (i,n+1)),some (.str x),some (.str t),some (.ref S.length),some (key i e),some (.str e.x),some (.int e.l),some (.tup (e.ns.map Qj)),some (.tup (e.ts.map Qj))]) (S:=T) (n:=3) (k:=key i e) (v:=lv ⟨e.c,e.x,n+1,[],[]⟩)
     (by
      simp only [EVS,W7,W8,Wd,W4,We,Wg,W9,Wa,W6,↓reduceIte,reduceCtorEq,W0,Wb,W5,z4,z0]
      rfl) rfl rfl (sT _ _)
    have wr:=Ci (At3 (.dct (kv i lv (T5 E ⟨e.c,e.x,n+1,[],[]⟩)))) w he hte'
    simp only [EVS,W7,W8,Wd,W4,We,Wg,W9,Wa,W6,↓reduceIte,reduceCtorEq,W0,Wb,W5,decide_eq_false hk3,decide_eq_false hk5,g,Q0,ZJ (m:="drop") (At3 (.dct (kv i lv (T5 E ⟨e.c,e.x,n+1,[],[]⟩)))) (λ_ _=>rfl),YZ,wr,is1]
end
end K07
namespace K07
open PySem L2 DL
theorem D4 {ds:List D}{a:Nat}(h:a<=ds.length):Ph ds none (some (a:Int))=ds.take a:=by
 have:=XJ (S:=[]) h
 dsimp only [slD] at this
 injection this with this
 injection this with this _
 injection this
theorem Cc (i:Int):Yf [.ref 0,.int i] [.ins "House" []]=some (.non,[hs i 0,.dct [],.dct []]):=by
 have e:QZ (Q6 2 [.ref 0,.int i]) [.ins "House" []]=some (.nx,[some (.ref 0),some (.int i)],[hs i 0,.dct [],.dct []]):=rfl
 have t:Ui [.ins "House" []] (.non,[hs i 0,.dct [],.dct []])=(.non,[hs i 0,.dct [],.dct []]):=by
  unfold Ui;rw [if_neg]
  rintro⟨z,_⟩
  simp [hs,hf] at z
 have r:=Bv (nN:=2) (n:=2) (m:=QZ) (ds:=[.ref 0,.int i]) (S:=[.ins "House" []]) rfl
 unfold Yf;rw [r,e,Gb,t]
theorem EE {ma:M (List D)}{en:En}{i:Int}(h:ma en []=some ([.int i],[])):MV "House" Yf ma en []=some (.ref 0,[hs i 0,.dct [],.dct []]):=by
 unfold MV;have e:Yf (D.ref (V4 ([]:Sto)) :: [D.int i]) (([]:Sto)++[Ob.ins "House" []])=some (.non,[hs i 0,.dct [],.dct []]):=Cc i
 rw [h,WK];dsimp only;rw [e];rfl
def OO (p:Nat×Int):D:=.tup [.int (p.1:Nat),.int p.2]
theorem Ch (ks:List Int):Bu (ks.map D.int)=(ks.mapIdx Prod.mk).map OO:=by
 unfold Bu
 apply List.ext_getElem?
 intro a;rw [W0R,WB,WB,W0R];cases ks[a]?<;>rfl
theorem law_true (ns:List Int)(_:ns.length<=63):∃S',F_law [.scr ns] []=some (.bl true,S'):=by
 have hz:100<=Wc:=by decide
 have z1:1<=Wc:=by decide
 obtain⟨cf,hcf⟩:∃f:Nat->Int,∀(k:Nat) S,Yh [.scr ns,.int (k:Nat)] S=some (.int (f k),S):=⟨λk=>(Pk ns k).choose,λk S=>(Pk ns k).choose_spec S⟩
 have hc0:∀S,Yh [.scr ns,.int 0] S=some (.int (cf 0),S):=λS=>hcf 0 S
 have hc1:∀S,Yh [.scr ns,.int 1] S=some (.int (cf 1),S):=λS=>hcf 1 S
 have hmx:∀S,ZV [.int (cf 0),.int 9803,.int 6] S=some (.int (cf 0*48271%9803%6),S):=λS=>QO (by decide) (by decide)
 generalize cf 0*48271%9803%6=i at hmx
 have m9:∀(k:Nat) S,K4 (.int (k:Nat)) (.int 9) S=some (.int ((k%9:Nat):Int),S):=λk S=>by rw [J3 (by decide)];rfl
 have m4:∀S,K4 (.int (cf 1)) (.int 4) S=some (.int (cf 1%4),S):=λS=>J3 (by decide)
 have mkh:=EE (ma:=Z2 (Z4 1) Zo) (en:=[some (.scr ns),some (.int i),none,none,none,none,none,none]) (i:=i) rfl
 generalize hS0:([hs i 0,.dct [],.dct [],.dct []]:Sto)=S0
 have a0:At S0 i 0 []:=by rw [<-hS0];exact⟨rfl,rfl⟩
 have b0:S0[3]? = some (.dct (kv i lv [])):=by rw [<-hS0];rfl
 have w0:Wf 0 []:=⟨.nil,(λe he=>by cases he),by simp,by decide⟩
 have l0:S0.length=4:=by rw [<-hS0];rfl
 have rt0:=NS a0 b0 w0
 have kd:∃f:Nat->Int,∀(k:Nat) S,Gm [some (.int (k:Nat)),some (.scr ns)] S=some (.int (f k),S):=⟨λk=>(cf (k%9)+(k:Int))*48271%9791%6,λk S=>by
  have mx:∀S,ZV [.int (cf (k%9)+(k:Int)),.int 9791,.int 6] S=some (.int ((cf (k%9)+(k:Int))*48271%9791%6),S):=λS=>QO (by decide) (by decide)
  simp only [Gm,EVS,W7,W8,Wd,W4,We,Wg,W9,Wa,W6,↓reduceIte,reduceCtorEq,W0,Wb,W5,m9,hcf,mx]⟩
 obtain⟨kf,hkf⟩:=kd
 have h10:Int.toNat 10=10:=rfl
 have h9:Int.toNat 9=9:=rfl
 have c0:Yd (BO 0 10) .no [none,some (.scr ns)] (gN 0) QR Gm (BO 0 10) [] S0=some (((Wo 10).map kf).map D.int,S0):=by
  rw [TN,Vp];exact QI (Wo 10) (λk=>D.int (k:Nat)) (λk=>D.int (kf k)) trivial (by rw [W1r];omega) λk _=>⟨_,rfl,hkf k S0⟩
 generalize hS1:S0++[Ob.lst (((Wo 10).map kf).map D.int)]=S1
 have hl1:S1.length=5:=by rw [<-hS1,WP,l0];rfl
 have at4:S1[4]? = some (.lst (((Wo 10).map kf).map D.int)):=by rw [<-hS1,<-l0];exact Wu ..
 -- the kinds
 obtain⟨m,ks,S2,G,hm4,hks,hS2,hm,st7⟩:∃(m:Nat) (ks:List Int) (S2 G:Sto),4<=m/\ks.length<=14/\S2=S1++G/\S2[m]? = some (.lst (ks.map D.int))/\
   (JE (mT (mOp gEq (mOp K4 (ZK Yh (Z2 (Z4 0) (Z2 (Zn (D.int (1))) Zo))) (Zn (D.int (4)))) (Zn (D.int (0))))) (Q5 (mOp Ue (mOp Ue (CD (Z2 (Zn (D.int (0))) Zo)) (QS (Qg (Tb (Zn (D.int (9)))) 1 [] (gN 0) QR Nv))) (mSl (Z4 5) G5 (MU (Zn (D.int (4)))))) (gN 5)) mNx) [some (.scr ns),some (.int i),some (.ref 0),some (.ref 3),some (.int 0),some (.ref 4),none,none] S1 =
    some (.nx,[some (.scr ns),some (.int i),some (.ref 0),some (.ref 3),some (.int 0),some (.ref m),none,none],S2):=by
  by_cases q:cf 1%4=0
  ·have A1:(S1++[Ob.lst [D.int 0]])[5]? = some (.lst ([0].map D.int)):=by rw [<-hl1];exact Wu ..
   have c9:∀S,Yd (BO 0 9) .no [none] (gN 0) QR Nv (BO 0 9) [] S=some (((Wo 9).map λ_=>(1:Int)).map D.int,S):=λS=>by
    rw [TN,Vp];exact QI (Wo 9) (λk=>D.int (k:Nat)) (λ_=>D.int 1) trivial (by rw [W1r];omega) λk _=>⟨_,rfl,rfl⟩
   generalize hT2:S1++[Ob.lst [D.int 0]]++[Ob.lst (((Wo 9).map λ_=>(1:Int)).map D.int)]=T2
   have lT1:(S1++[Ob.lst [D.int 0]]).length=6:=by rw [WP,hl1];rfl
   have lT2:T2.length=7:=by rw [<-hT2,WP,lT1];rfl
   have B1:T2[5]? = some (.lst ([0].map D.int)):=by rw [<-hT2];exact up A1
   have B2:T2[6]? = some (.lst (((Wo 9).map λ_=>(1:Int)).map D.int)):=by rw [<-hT2,<-lT1];exact Wu ..
   have ad1:Ue (.ref 5) (.ref 6) T2=some (.ref 7,T2++[Ob.lst ([0].map D.int++((Wo 9).map λ_=>(1:Int)).map D.int)]):=by
    rw [<-lT2];exact AK B1 B2 (by simp;omega)
   generalize hT3:T2++[Ob.lst ([0].map D.int++((Wo 9).map λ_=>(1:Int)).map D.int)]=T3 at ad1
   have lT3:T3.length=8:=by rw [<-hT3,WP,lT2];rfl
   have C1:T3[7]? = some (.lst ([0].map D.int++((Wo 9).map λ_=>(1:Int)).map D.int)):=by rw [<-hT3,<-lT2];exact Wu ..
   have C4:T3[4]? = some (.lst (((Wo 10).map kf).map D.int)):=by rw [<-hT3,<-hT2];exact up (up (up at4))
   have sl:slD (.ref 4) none (some 4) T3=some (.ref 8,T3++[Ob.lst ((((Wo 10).map kf).take 4).map D.int)]):=by
    dsimp only [slD];rw [C4];dsimp only;have:=D4 (ds:=((Wo 10).map kf).map D.int) (a:=4) (by simp)
    have this':Ph (((Wo 10).map kf).map D.int) none (some 4)=_:=this
    rw [this',lT3,List.map_take]
   generalize hT4:T3++[Ob.lst ((((Wo 10).map kf).take 4).map D.int)]=T4 at sl
   have lT4:T4.length=9:=by rw [<-hT4,WP,lT3];rfl
   have D1:T4[7]? = some (.lst ([0].map D.int++((Wo 9).map λ_=>(1:Int)).map D.int)):=by rw [<-hT4];exact up C1
   have D2:T4[8]? = some (.lst ((((Wo 10).map kf).take 4).map D.int)):=by rw [<-hT4,<-lT3];exact Wu ..
   have ad2:Ue (.ref 7) (.ref 8) T4=some (.ref 9,T4++[Ob.lst (([0]++((Wo 9).map λ_=>(1:Int))++((Wo 10).map kf).take 4).map D.int)]):=by
    have q:=AK D1 D2 (by simp;omega)
    rw [lT4] at q;rw [Vv,Vv];exact q
   refine⟨9,[0]++((Wo 9).map λ_=>(1:Int))++((Wo 10).map kf).take 4,_,[Ob.lst [D.int 0],Ob.lst (((Wo 9).map λ_=>(1:Int)).map D.int),Ob.lst ([0].map D.int++((Wo 9).map λ_=>(1:Int)).map D.int),Ob.lst ((((Wo 10).map kf).take 4).map D.int),Ob.lst (([0]++((Wo 9).map λ_=>(1:Int))++((Wo 10).map kf).take 4).map D.int)],by decide,by simp,rfl,?_,?_⟩
   ·have:S1++[Ob.lst [D.int 0],Ob.lst (((Wo 9).map λ_=>(1:Int)).map D.int),Ob.lst ([0].map D.int++((Wo 9).map λ_=>(1:Int)).map D.int),Ob.lst ((((Wo 10).map kf).take 4).map D.int),Ob.lst (([0]++((Wo 9).map λ_=>(1:Int))++((Wo 10).map kf).take 4).map D.int)]=T4++[Ob.lst (([0]++((Wo 9).map λ_=>(1:Int))++((Wo 10).map kf).take 4).map D.int)]:=by
     rw [<-hT4,<-hT3,<-hT2];simp only [Vj,List.cons_append,List.nil_append]
    rw [this,<-lT4];exact Wu ..
   ·have this:S1++[Ob.lst [D.int 0],Ob.lst (((Wo 9).map λ_=>(1:Int)).map D.int),Ob.lst ([0].map D.int++((Wo 9).map λ_=>(1:Int)).map D.int),Ob.lst ((((Wo 10).map kf).take 4).map D.int),Ob.lst (([0]++((Wo 9).map λ_=>(1:Int))++((Wo 10).map kf).take 4).map D.int)]=T4++[Ob.lst (([0]++((Wo 9).map λ_=>(1:Int))++((Wo 10).map kf).take 4).map D.int)]:=by
     rw [<-hT4,<-hT3,<-hT2];simp only [Vj,List.cons_append,List.nil_append]
    rw [this];simp only [EVS,W7,W8,Wd,W4,We,Wg,W9,Wa,W6,↓reduceIte,reduceCtorEq,W0,Wb,W5,hc1,m4,decide_eq_true q,z1,hl1,Bd (show -(2 ^ 62)<=(9:Int)/\(9:Int)<2 ^ 62 by decide),h9,c9,lT1,hT2,ad1,sl,ad2]
  ·refine⟨4,(Wo 10).map kf,S1,[],by decide,by simp,by rw [Vu],at4,?_⟩
   simp only [EVS,W7,W8,Wd,W4,We,Wg,W9,Wa,W6,↓reduceIte,reduceCtorEq,W0,Wb,W5,hc1,m4,decide_eq_false q]
 have a2:At S2 i 0 []:=by rw [hS2,<-hS1];exact a0.up.up
 have b2:S2[3]? = some (.dct (kv i lv [])):=by rw [hS2,<-hS1];exact up (up b0)
 let P:List (Nat×Int)->En->Sto->Prop:=λpre en S'=>∃E x6 x7,en=[some (.scr ns),some (.int i),some (.ref 0),some (.ref 3),some (.int (pre.length:Nat)),some (.ref m),x6,x7]/\At S' i (pre.length:Nat) E/\S'[3]? = some (.dct (kv i lv E))/\Wf (pre.length:Nat) E/\S'[m]? = some (.lst (ks.map D.int))
 have step:∀(pre:List (Nat×Int)) (p:Nat×Int) (post:List (Nat×Int)) (en:En) (S1:Sto),ks.mapIdx Prod.mk=pre++p :: post->P pre en S1->∃en1,gT 2 (Yj (gN 6) (Yj (gN 7) Gj)) (OO p) en=some en1/\∃en2 S2,Gq en1 S1=some (.nx,en2,S2)/\P (pre++[p]) en2 S2:=by
  intro pre p post en S1 hpre hP;obtain⟨E,x6,x7,rfl,hA,hA3,w,hm⟩:=hP
  have hlen:pre.length+1<=14:=by
   have:=congrArg V4 hpre
   rw [List.length_mapIdx,WP,WR] at this;omega
  have m9':=m9 p.1
  have hc:=hcf (p.1%9)
  obtain⟨S',E',e,d⟩:=Db hA hA3 w (by omega) (cf (p.1%9)+101*(p.1:Int)) p.2
  have rt:=NS d.a d.f d.w
  have ln:((pre++[p]).length:Int)=(pre.length:Int)+1:=by rw [WP,W0K];omega
  refine⟨[some (.scr ns),some (.int i),some (.ref 0),some (.ref 3),some (.int (pre.length:Nat)),some (.ref m),some (.int (p.1:Nat)),some (.int p.2)],rfl,[some (.scr ns),some (.int i),some (.ref 0),some (.ref 3),some (.int ((pre.length:Nat)+1)),some (.ref m),some (.int (p.1:Nat)),some (.int p.2)],S',?_,E',some (.int (p.1:Nat)),some (.int p.2),by rw [ln],by rw [ln];exact d.a,d.f,by rw [ln];exact d.w,d.k m _ hm4 hm⟩
  have mu:∀S,P5 (.int 101) (.int (p.1:Nat)) S=some (.int (101*(p.1:Int)),S):=λS=>Ai (by decide)
  simp only [Gq,EVS,W7,W8,Wd,W4,We,Wg,W9,Wa,W6,↓reduceIte,reduceCtorEq,W0,Wb,W5,m9',hc,mu,e,rt]
 obtain⟨en',S',e,E,x6,x7,e2,hA,hA3,w,hm'⟩:=UN (g:=gT 2 (Yj (gN 6) (Yj (gN 7) Gj))) (ds0:=Bu (ks.map D.int)) (gd:=.zl [(m,ks.map D.int)]) (body:=Gq) (ks.mapIdx Prod.mk) OO P step (λpre en S' hP=>by
   obtain⟨_,_,_,_,_,_,_,hm⟩:=hP
   intro q hq;rw [W1c] at hq;subst hq;exact hm) (en:=[some (.scr ns),some (.int i),some (.ref 0),some (.ref 3),some (.int 0),some (.ref m),none,none]) (S:=S2) ⟨[],none,none,rfl,a2,b2,w0,hm⟩
 rw [<-Ch] at e;unfold F_law;refine⟨(Ui [] (.bl true,S')).2,?_⟩
 rw [Bv (nN:=8) (n:=1) (m:=EJ) (ds:=[.scr ns]) (S:=[]) rfl]
 have run:EJ (Q6 8 [.scr ns]) []=some (.rt (.bl true),en',S'):=by
  refine Yi (en1:=[some (.scr ns),some (.int i),none,none,none,none,none,none]) (S1:=[]) ?_ ?_
  ·show Q5 _ _ [some (.scr ns),none,none,none,none,none,none,none] []=_
   simp only [EVS,W7,W8,Wd,W4,We,Wg,W9,Wa,W6,↓reduceIte,reduceCtorEq,W0,Wb,W5,hc0,hmx]
  refine Yi (en1:=[some (.scr ns),some (.int i),some (.ref 0),none,none,none,none,none]) (S1:=[hs i 0,.dct [],.dct []]) ?_ ?_
  ·unfold Q5
   rw [mkh];rfl
  refine Yi (en1:=[some (.scr ns),some (.int i),some (.ref 0),some (.ref 3),none,none,none,none]) (S1:=S0) (by rw [<-hS0];rfl) ?_
  refine Yi (en1:=[some (.scr ns),some (.int i),some (.ref 0),some (.ref 3),some (.int 0),none,none,none]) (S1:=S0) rfl ?_
  refine Yi (en1:=[some (.scr ns),some (.int i),some (.ref 0),some (.ref 3),some (.int 0),none,none,none]) (S1:=S0) (by simp only [EVS,W7,W8,Wd,W4,We,Wg,W9,Wa,W6,↓reduceIte,reduceCtorEq,W0,Wb,W5,rt0]) ?_
  refine Yi (en1:=[some (.scr ns),some (.int i),some (.ref 0),some (.ref 3),some (.int 0),some (.ref 4),none,none]) (S1:=S1) ?_ ?_
  ·simp only [EVS,W7,W8,Wd,W4,We,Wg,W9,Wa,W6,↓reduceIte,reduceCtorEq,W0,Wb,W5,Bd (show -(2 ^ 62)<=(10:Int)/\(10:Int)<2 ^ 62 by decide),h10,c0,hS1,l0]
  refine Yi st7 ?_
  refine Yi (en1:=en') (S1:=S') ?_ rfl
  have en5:Rp (Z4 5) [some (.scr ns),some (.int i),some (.ref 0),some (.ref 3),some (.int 0),some (.ref m),none,none] S2=some ((Bu (ks.map D.int),.zl [(m,ks.map D.int)]),S2):=by
   unfold Rp;show (match S2[m]? with|some (Ob.lst ds)=>_|_=>_)=_
   rw [hm]
  simp only [EVS,W7,W8,Wd,W4,We,Wg,W9,Wa,W6,↓reduceIte,reduceCtorEq,W0,Wb,W5,en5,e]
 rw [run,QE];unfold Ui;split<;>rfl
end K07
open PySem PySem.W PyProof.Rows
local macro_rules
  | `(tactic| o_head $H) => `(tactic| (refine holds_open (q := PySem.Challenge.rw_twinshelves_k07_one_house.prog) (loose := []) (Xt := (fun s => PySem.W.xlAt PySem.Challenge.rw_twinshelves_k07_one_house.prog [] s && PySem.W.recOk (PySem.W.RowW.records (PySem.W.OpenRow.toRowW (PySem.W.OpenLaw.row PySem.Challenge.rw_twinshelves_k07_one_house))) s)) (XP := XL PySem.Challenge.rw_twinshelves_k07_one_house.prog []) (Yf := Hook.obs $H) (Ya := Hook.val $H) (YP := Hook.says $H) (N := 5038) ?hl (Hook.of $H) (Hook.keeps $H) (fun s e => xl_of s (Bool.and_eq_true_iff.mp e).1) XL.keeps (by rfl) (by rfl) (by rfl) (fun s e => recFacts_of (Bool.and_eq_true_iff.mp e).2) (by rfl) (by first | assumption | decide +kernel) (by decide +kernel) ⟨rfl, rfl, rfl, rfl, rfl, by decide +kernel⟩ ?hw ?hc; (case hl => exact DL.left_tree DL.hB DL.hC (by kernel_rfl) (by decide +kernel) (fun s => by kernel_rfl) (fun w os => by kernel_rfl)); (case hw => w_witness2)))
set_option maxRecDepth 100000 in
set_option maxHeartbeats 0 in
theorem PySem.Challenge.cw_twinshelves_k07_one_house_holds : PySem.Challenge.rw_twinshelves_k07_one_house.Holds := by
 w_on;o_law;k_head
 k_fill
 refine DL.walk_d (l:=PySem.Challenge.rw_twinshelves_k07_one_house) (F:=K07.F_law) (k:=15) (x:="_law_script") rfl rfl ⟨rfl,by decide,by decide⟩ (λw h Y=>PySem.W.kIn_of Y) ?F K07.law_true
 case F=>
  intro w mg fa h KX G hmg;refine' K07.all_mk KX G hmg ?_ ?_ ?_ ?_ ?_ ?_ ?_ ?_ ?_ ?_ ?_ ?_ ?_ ?_ ?_ ?_ ?_ ?_ ?_ ?_ ?_ ?_ ?_ ?_ ?_ ?_ ?_ ?_ ?_ ?_ ?_ ?_ ?_ ?_ ?_ ?_ ?_ ?_ ?_ ?_ ?_ ?_ ?_ ?_ ?_ ?_ ?_ ?_ ?_ ?_ ?_ ?_ ?_ ?_ ?_ ?_ ?_ ?_ ?_ ?_ ?_ ?_ ?_ ?_ ?_ ?_ ?_ ?_ ?_ ?_ ?_ ?_ ?_ ?_ ?_ ?_ ?_ ?_ ?_ ?_ ?_ ?_ ?_ ?_ ?_ ?_ ?_ ?_ ?_ ?_ ?_ ?_ ?_ ?_ ?_ ?_ ?_ ?_ ?_ ?_ ?_ ?_ ?_ ?_ ?_ ?_ ?_ ?_ ?_ ?_ ?_ ?_ ?_ ?_ ?_ ?_ ?_ ?_ ?_ ?_ ?_ ?_ ?_ ?_ ?_ ?_ ?_ ?_ ?_ ?_ ?_ ?_ ?_ ?_ ?_ ?_ ?_ ?_ ?_ ?_ ?_ ?_ ?_ ?_ ?_ ?_ ?_ ?_ ?_ ?_ ?_ ?_ ?_ ?_ ?_ ?_ ?_ ?_ ?_ ?_ ?_ ?_ ?_ ?_ ?_ ?_ ?_ ?_ ?_ ?_
  all_goals try k_is
