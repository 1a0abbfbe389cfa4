import PyProof.Rows.All
import Wide.All
import OpenK.AllK
import Wide.FinOn
import Lean
import PyProof.EqAt
import PyProof.EqKinds
import PyProof.TupleCall
import KE.KRevIter
import KE.KRevSl
import PyProof.SumWalkG
import PySem.Challenge.RW_twinshelves_k09_files_taken
set_option Elab.async false
set_option linter.all false
namespace DL
open PySem PySem.W
/-- the run of the top, the heap a tree -/
noncomputable def topT (tb : String -> Option Builtin) (p : Program) (w : World) (m : Nat) (an : Option Value) : Nat -> SharedT -> Thread -> Option SharedT
  | 0, _, _ => none
  | n + 1, s, t => match through t with
    | true => some s
    | false => match stepOk m an t with
      | false => none
      | true => match stepT (denote tb) p w s t with
        | some (s', t') => topT tb p w m an n s' t'
        | none => none
theorem topT_of {tb : String -> Option Builtin} {p : Program} {w : World} {m : Nat} {an : Option Value} : ∀ {n : Nat} {s r : SharedT} {t : Thread}, topT tb p w m an n s t = some r -> topRun tb p w m an n s.abs t = some r.abs
  | 0, _, _, _, h => by cases h
  | n + 1, s, r, t, h => by
    unfold topT at h;unfold topRun;cases h1 : through t with
    | true =>
      rw [h1] at h;cases h;rfl
    | false =>
      rw [h1] at h;cases h2 : stepOk m an t with
      | false =>
        rw [h2] at h;cases h
      | true =>
        rw [h2] at h;cases h3 : stepT (denote tb) p w s t with
        | none =>
          rw [h3] at h;cases h
        | some z =>
          obtain ⟨s2, t2⟩ := z
          rw [h3] at h;dsimp only at h ⊢
          rw [stepT_spec h3];exact topT_of h
noncomputable def tree0 (P : Params) : BT := ((boot_heap P).objs.toList.foldl (fun (x : BT × Nat) o => (x.1.ins x.2 o, x.2 + 1)) (BT.nil, 0)).1
theorem tree0_abs (P : Params) : absHeap (tree0 P) 11 (boot_heap P).life = boot_heap P := by kernel_rfl
theorem boot_at (P : Params) : ((boot_heap P).isNs mainGlobals && (Array.mk [] : Array GenState).size == 0, (boot_heap P).objs.size, (boot_heap P).nsMap mainGlobals "__annotations__") = (true, 11, some (.ref 6)) := by kernel_rfl
noncomputable def ran (p : Program) (N : Nat) (w : World) (os : OsState) : Option SharedT := topT treeTable p w 11 (some (.ref 6)) N ⟨tree0 w.params, 11, (boot_heap w.params).life, Array.mk [], boot_drawn, boot_toks, os⟩ (topStub p)
theorem left_tree {p q : Program} {loose : List Str} {Xt : Shared -> Bool} {A : Type} {Yf : Shared -> A} {Ya : World -> A} {N : Nat}
    (hB : ∀ (w : World) (os : OsState), ((ran p N w os).map fun s => staticsOk (importedModules p.main.body) (boot_heap w.params) s.abs.heap && namesBound p s.abs.heap && gensDone s.abs && laidKept (boot_heap w.params) s.abs.heap) = some true)
    (hC : ∀ (w : World) (os : OsState), ((ran p N w os).map fun s => openSeen q loose (importedModules p.main.body) Xt true s.abs) = some (openGood q loose))
    (e : opening p = plainProg p.main.scope.names) (hN : Nat.ble 600 N = true) (f : ∀ s, fenceModules? p s = some s)
    (hD : ∀ (w : World) (os : OsState), ((ran p N w os).map fun s => Yf s.abs) = some (Ya w)) :
    LeftO p q loose Xt Yf Ya N := fun w => by
  obtain ⟨⟨hp, g, d, k, os⟩, e1, e2⟩ := Option.map_eq_some_iff.mp (boot_open e hN f w)
  obtain ⟨rfl, rfl, rfl, rfl⟩ : hp = boot_heap w.params ∧ g = Array.mk [] ∧ d = boot_drawn ∧ k = boot_toks := by simpa using e2
  obtain ⟨s, e3, l1⟩ := Option.map_eq_some_iff.mp (hB w os)
  have l2 := hC w os
  have l3 := hD w os
  rw [e3] at l2 l3;replace l2 := Option.some.inj l2
  replace l3 := Option.some.inj l3
  obtain ⟨z1, z2, z3⟩ : _ ∧ _ ∧ _ := by simpa only [Prod.mk.injEq] using boot_at w.params
  have r := topT_of e3
  have a0 : SharedT.abs ⟨tree0 w.params, 11, (boot_heap w.params).life, Array.mk [], boot_drawn, boot_toks, os⟩ = ⟨boot_heap w.params, Array.mk [], boot_drawn, boot_toks, os⟩ := by
    unfold SharedT.abs;dsimp only;rw [tree0_abs]
  rw [a0] at r;have t : topFrom treeTable p w N ⟨boot_heap w.params, Array.mk [], boot_drawn, boot_toks, os⟩ = some s.abs := by
    unfold topFrom;dsimp only;rw [z1, z2, z3, r];show (match staticsOk (importedModules p.main.body) (boot_heap w.params) s.abs.heap && namesBound p s.abs.heap && gensDone s.abs && laidKept (boot_heap w.params) s.abs.heap with | true => _ | false => _) = _
    rw [l1]
  unfold openEnds;rw [e1];show (topFrom treeTable p w N _).map _ = _
  rw [t];exact congrArg some (Prod.ext l2 l3)
end DL
section
open PySem PySem.W
set_option maxRecDepth 100000 in
theorem DL.hC (w : World) (os : OsState) : ((DL.ran PySem.Challenge.rw_twinshelves_k09_files_taken.prog 4980 w os).map fun s => openSeen PySem.Challenge.rw_twinshelves_k09_files_taken.prog [] (importedModules PySem.Challenge.rw_twinshelves_k09_files_taken.prog.main.body) (fun s => PySem.W.xlAt PySem.Challenge.rw_twinshelves_k09_files_taken.prog [] s && PySem.W.recOk (PySem.W.RowW.records (PySem.W.OpenRow.toRowW (PySem.W.OpenLaw.row PySem.Challenge.rw_twinshelves_k09_files_taken))) s) true s.abs) = some (openGood PySem.Challenge.rw_twinshelves_k09_files_taken.prog []) := by kernel_rfl
set_option maxRecDepth 100000 in
theorem DL.hB (w : World) (os : OsState) : ((DL.ran PySem.Challenge.rw_twinshelves_k09_files_taken.prog 4980 w os).map fun s => staticsOk (importedModules PySem.Challenge.rw_twinshelves_k09_files_taken.prog.main.body) (boot_heap w.params) s.abs.heap && namesBound PySem.Challenge.rw_twinshelves_k09_files_taken.prog s.abs.heap && gensDone s.abs && laidKept (boot_heap w.params) s.abs.heap) = some true := by kernel_rfl
end
open Array renaming getElem?_eq_getElem -> WD, length_toList -> WF, getElem?_toList -> Vd, getElem?_eq_some_iff -> Vn, getD_eq_getD_getElem? -> Vz, getElem?_eq_none -> W0x, forIn_toList -> W1B
open Bool renaming and_eq_true -> Wm, false_ne_true -> Wy, false_eq_true -> WL, eq_iff_iff -> VX, not_true -> W05, and_true -> W0o, not_false -> W1P, not_eq_true -> W1Z
open Classical renaming byContradiction -> W0e, choose_spec -> W1Y
open Int renaming reduceToNat -> W5, reduceNeg -> Wb, reducePow -> Wc, reduceLT -> Wg, reduceLE -> Wh, emod_nonneg -> Vg, emod_lt_of_pos -> Vi, toNat_natCast -> VH, toNat_of_nonneg -> W2h
open List renaming map_cons -> W1, range -> W6, length_map -> W7, map_nil -> We, getElem?_eq_getElem -> Wl, getElem?_eq_some_iff -> Wn, size_toArray -> Wo, mem_cons_self -> Wp, mem_cons_of_mem -> Wu, mem_cons -> Wv, all_eq_true -> Ww, getElem?_concat_length -> Wz, mem_singleton -> WA, mem_map -> WB, length_append -> WC, getElem?_map -> WE, mem_append -> WH, zip_cons_cons -> WM, append_assoc -> WN, mem_append_right -> WO, map_append -> WP, length_cons -> WS, getElem?_append_right -> WV, not_mem_nil -> WX, map_map -> WY, any_eq_true -> WZ, getElem?_append_left -> V3, mem_of_getElem? -> V4, length_range -> V5, length_filter_le -> V9, length -> Va, mem_range -> Vf, map_congr_left -> Vj, mem_append_left -> Vk, all_cons -> Vs, mem_filter -> Vw, length_zip -> VA, getD_eq_getElem?_getD -> VB, nodup_cons -> VE, lookup_cons -> VF, pairwise_map -> VI, getElem?_take_of_lt -> VJ, append_nil -> VL, find?_cons -> VN, mem_iff_getElem? -> VP, pairwise_cons -> VT, getElem_mem -> W08, length_singleton -> W0g, toArray -> W0i, getD -> W0j, getElem?_set_ne -> W0m, getElem?_replicate -> W0n, nodup_append -> W0q, filterMap_cons -> W0s, getElem?_set_self -> W0w, perm_ext_iff_of_nodup -> W0z, length_replicate -> W0C, replicate -> W0E, mem_iff_getElem -> W0F, lookup -> W0K, length_eq_zero_iff -> W0L, length_take -> W0M, nodup_range -> W0O, length_pos_of_mem -> W0S, any_map -> W0W, any_cons -> W0Z, pairwise_iff_getElem -> W1a, getElem?_zip_eq_some -> W1b, mem_map_of_mem -> W1k, all_map -> W1o, mem_filterMap -> W1r, length_nil -> W1u, filter_cons_of_pos -> W1C, filter_cons_of_neg -> W1D, filter_append -> W1E, pairwise_lt_range -> W1H, getElem?_toArray -> W1T, take_append_drop -> W1W, getElem?_eq_none -> W1X, foldl_cons -> W2d, length_eraseIdx_of_lt -> W2j, foldl_append -> W2z, length_erase_of_mem -> W2C, ext_getElem? -> W2E
open List.Pairwise renaming filter -> W13, imp -> W1N, imp_of_mem -> W2D
open List.cons renaming injEq -> W06
open Nat renaming reduceLeDiff -> W2, reduceAdd -> W9, reduceSub -> Wa, reduceLT -> Wf, le_refl -> Wq, ne_of_lt -> WG, lt_of_lt_of_le -> WR, le_trans -> V7, zero_le -> Vx, lt_irrefl -> VC, lt_succ_self -> W07, le_of_not_lt -> W0N, not_lt_zero -> W0U, lt_succ_of_lt -> W10, ne_of_gt -> W1l, le_of_lt -> W2k, sub_self -> W2o, mod_lt -> W2B
open Option renaming map_some -> W3, bind_eq_some_iff -> W4, map_eq_some_iff -> Wi, bind_some -> V0, isSome_iff_exists -> W1m, isSome_map -> W2y
open Option.some renaming inj -> WW
open PyProof.Rows renaming callWith_type1 -> W0t, callWith_builtin1 -> W0I, mirror_size -> W2b
open PyProof.Rows.F renaming plain_set_update_loop -> W0p, entry_set_update_loop -> W19
open PySem renaming wpAny_bind -> W0, wpAny_pure -> Wd, sizeLine -> Wk, starEach -> Wr, mainGlobals -> WJ, bootBuiltins -> WK, wpAny_setField_rec -> Vb, wpAny_seqItems -> Vm, wpAny_setState_of -> Vp, wpAny_callSpecial?_slot -> Vq, wpAny_call_entry -> Vv, wpAny_newObj_type -> Vy, wpAny_holding -> VD, codeAny_builtin -> VO, wpAny_Call_Name_kw -> VS, wpAny_askSetting -> VY, mem_of_lookup -> W0a, plainId_quiet -> W0d, wpAny_mono -> W0k, wpAny_typeNameOfWhole_keyiter -> W0l, wpAny_specialOf -> W0u, wpAny_field -> W0v, tupleKind_room_in1 -> W0D, wpAny_pyIter_list -> W0G, wpAny_typeNameOf_keyiter -> W0H, sizeLine_eq -> W0J, wpAny_forIn_list -> W0P, wpAny_pyIter_tuple -> W0T, wpAny_tryCatch -> W16, wpAny_fieldsOf -> W18, wpAny_isInstance -> W1e, wpAny_letGo -> W1g, wpAny_of_eq -> W1h, wpAny_passesOwn -> W1s, wpAny_callSpecial?_none -> W1w, wpAny_attempt -> W1y, wpAny_updateSeq -> W1z, wpAny_truthy_bool -> W1I, wpAny_dictEntries -> W1K, codeAny_mono -> W1R, call_meetsIn -> W1S, builtinLookup_eq_fast -> W1U, wpAny_isOneOf_keyiter -> W1V, wpAny_updateSeq_pair -> W22, wpAny_rule -> W26, wpAny_setEntries_of -> W2e, wpAny_typeOf -> W2m, wpAny_setField -> W2s, wpAny_pyIter_slot -> W2A, eqIsQuiet_byValue -> W2H
open PySem.Around renaming under_plainId -> Vl
open PySem.Builtin.Builtins renaming bindParams -> W2c
open PySem.Builtin.Dict_items renaming ownsTuple -> W24
open PySem.Builtin.List renaming listLengthHint -> W2f, listExtendWith -> W2g, listSameRef -> W2F
open PySem.Builtin.SmallTypes renaming nextOf -> VW, ownedTupleIsFree -> W00, ownedTupleHandOut -> W14
open PySem.Builtin.Tuple renaming tupleHashOf -> W1c
open PySem.Calls renaming call_function_entry -> W0c, spliced_cons -> W0B, callWith_builtin -> W0Q, spliced_nil -> W0Y, evalArgs_plain -> W21, Name_function_global -> W2i
open PySem.F renaming slot_dict_keyiterator_next -> VG, plain_max_loop -> VU, called_set -> W04, slot_dict_get -> W0h, slot_tuple_iterator_next -> W0y, entry_dict_get -> W0R, slot_tuple_hash -> W12, slot_tuple_getattribute -> W15, args_dict_keyiterator_next_1 -> W17, entry_dict_keyiterator_next -> W1j, args_tuple_add_2 -> W1n, entry_tuple_add -> W1t, slot_dict_len -> W1v, plainAttrs_dict -> W1A, slot_tuple_add -> W1F, entry_max_loop -> W1G, args_tuple_iterator_next_1 -> W23, entry_tuple_iterator_next -> W28, slot_zip_next -> W29, plain_extend_loop -> W2t
open PySem.Heap renaming get?_push_of_some -> Wj, get?_push_size -> Ws, lt_size -> Wt, get?_update_other -> Vu, get?_update_self -> VM, SameBut -> W01, size_push -> W03
open PySem.Heap.SameBut renaming update -> VZ
open PySem.Obj renaming mapSeq -> Vo, data_mapFields -> W1x
open PySem.Paired renaming length -> W0X
open PySem.PassesOwn renaming never -> W0V
open PySem.SeqAt renaming EqAt -> V6, RcNeAt -> V8, RcAt -> Vt
open PySem.SeqAt.EqAt renaming int_str -> W1p, str_int -> W1q, int_int -> W2p, str_str -> W2q
open PySem.SeqAt.RcAt renaming tuples -> W2G
open PySem.SetTable renaming runEnd -> V2, below -> Vh, bits -> Vr, turns -> VQ, insertAt -> VR, advance -> W0A, grown -> W1Q, tooFull -> W20, layClean -> W2I
open PySem.SetTable.below renaming go -> W11
open PySem.SetTable.layClean renaming free -> W09
open PySem.SetTable.probe renaming go -> W1M
open PySem.Str renaming ofString -> Wx
open PySem.Txt renaming join -> W25
open PySem.W renaming Frag -> W8, keepIn -> WI, codeIn -> WQ, nsIn -> WT, fnOf -> WU, findIn -> V1, mg_of -> Vc, mg_none_of -> Ve, kia_one -> VV, emptyDict -> W02, kitOne -> W0b, isFn -> W0f, instObj -> W0r, plainGet -> W1d, kas_desc -> W1f, kas_rev -> W1i, hasDictIn -> W1J, kas_asc -> W1L, kas_sort -> W1O, plainGet_of -> W27, kas_place -> W2a, callWith_K -> W2l, kas_descPart -> W2n, lookIn -> W2r, methodObj -> W2u, plainOver -> W2v, kitx_list -> W2w, kitx_dict -> W2x
noncomputable section
theorem Ua {a b:Prop}(x:a)(y:b):a∧b:=⟨x,y⟩
set_option Elab.async false
set_option linter.all false
set_option maxRecDepth 100000
namespace L2
open PySem PySem.Spec PyProof.Rows
abbrev Key:=Sum Int Str
def M9:Key->Value->Bool
 | .inl k,v=>Value.isInt k v
 | .inr x,v=>Value.isStrOf x v
def Z2W (w:World):Key->Int
 | .inl k=>hashInt k
 | .inr x=>hashStr w x
theorem ZS:∀{k:Key} {v:Value},M9 k v=true->(∃i t,k=Sum.inl i/\v=Value.int i t)\/(∃x t,k=Sum.inr x/\v=Value.str x t)
 | .inl i,v,h=>by
  obtain⟨t,e⟩:=Value.isInt_shape (k:=i) (v:=v) h
  exact .inl ⟨i,t,rfl,e⟩
 | .inr x,v,h=>by
  obtain⟨t,e⟩:=Value.isStrOf_shape (x:=x) (v:=v) h
  exact .inr ⟨x,t,rfl,e⟩
theorem PX (i:Int)(t:Tok):M9 (.inl i) (.int i t)=true:=by simp [M9,Value.isInt]
theorem PV (x:Str)(t:Tok):M9 (.inr x) (.str x t)=true:=by simp [M9,Value.isStrOf]
theorem Og (a b:Int):decide ((Sum.inl a:Key)=Sum.inl b)=(a == b):=by
 by_cases e:a=b
 ·subst e;simp
 ·have h:¬(Sum.inl a:Key)=Sum.inl b:=λq=>e (Sum.inl.inj q)
  rw [decide_eq_false h];exact (beq_eq_false_iff_ne.mpr e).symm
theorem Od (a b:Str):decide ((Sum.inr a:Key)=Sum.inr b)=decide (a=b):=by
 by_cases e:a=b
 ·subst e;simp
 ·have h:¬(Sum.inr a:Key)=Sum.inr b:=λq=>e (Sum.inr.inj q)
  rw [decide_eq_false h,decide_eq_false e]
theorem Of (a:Int)(b:Str):decide ((Sum.inl a:Key)=Sum.inr b)=false:=decide_eq_false (λq=>nomatch q)
theorem Oe (a:Str)(b:Int):decide ((Sum.inr a:Key)=Sum.inl b)=false:=decide_eq_false (λq=>nomatch q)
def ZN (prog:Program)(w:World):PySem.KeyKind prog w Key where
 is:=M9
 hash:=Z2W w
 inj:=λv a b ha hb=>by
  rcases ZS ha with ⟨i,t,rfl,rfl⟩|⟨x,t,rfl,rfl⟩
  ·rcases ZS hb with ⟨j,u,rfl,e⟩|⟨y,u,rfl,e⟩
   ·injection e with e1 _;rw [e1]
   ·exact nomatch e
  ·rcases ZS hb with ⟨j,u,rfl,e⟩|⟨y,u,rfl,e⟩
   ·exact nomatch e
   ·injection e with e1 _;rw [e1]
 byValue:=λk v h=>by
  rcases ZS h with ⟨i,t,rfl,rfl⟩|⟨x,t,rfl,rfl⟩<;>rfl
 pyHash:=λhv h=>by
  rcases ZS hv with ⟨i,t,rfl,rfl⟩|⟨x,t,rfl,rfl⟩
  ·exact wpAny_pyHash_int h
  ·exact wpAny_pyHash_str h
 eqBool:=λhu hv h=>by
  rcases ZS hu with ⟨i,t,rfl,rfl⟩|⟨x,t,rfl,rfl⟩
  ·rcases ZS hv with ⟨j,u,rfl,rfl⟩|⟨y,u,rfl,rfl⟩
   ·rw [Og] at h;exact wpAny_eqBool_int h
   ·rw [Of] at h;exact W1p i t y u _ _ _ _ h
  ·rcases ZS hv with ⟨j,u,rfl,rfl⟩|⟨y,u,rfl,rfl⟩
   ·rw [Oe] at h;exact W1q x t j u _ _ _ _ h
   ·rw [Od] at h;exact wpAny_eqBool_str h
 «strs»:=λk x t v h=>by
  rcases ZS h with ⟨i,u,rfl,e⟩|⟨y,u,rfl,e⟩
  ·exact nomatch e
  ·injection e with e1 _
   subst e1;cases v<;>rfl
theorem NX (prog:Program)(w:World)(i:Int)(t:Tok):(ZN prog w).is (.inl i) (.int i t)=true:=PX i t
theorem NW (prog:Program)(w:World)(x:Str)(t:Tok):(ZN prog w).is (.inr x) (.str x t)=true:=PV x t
end L2
namespace L2
open PySem PySem.Spec PyProof.Rows
inductive V where
 |non|bl (b:Bool)|int (i:Int)|str (x:Str)|byt (b:Array UInt8)|flt (b:UInt64)|ref (a:Addr)|ty (n:String)
 deriving DecidableEq
def ZC:V->Value->Prop
 | .non,u=>u=Value.none
 | .bl b,u=>u=Value.bool b
 | .int i,u=>∃t,u=Value.int i t
 | .str x,u=>∃t,u=Value.str x t
 | .byt b,u=>∃t,u=Value.bytes b t
 | .flt b,u=>∃t,u=Value.float b t
 | .ref a,u=>u=Value.ref a
 | .ty n,u=>u=Value.type n
abbrev ZZ:List V->List Value->Prop:=Paired ZC
theorem ZZ.length {xs:List V}{us:List Value}(r:ZZ xs us):xs.length=us.length:=W0X r
theorem ZZ.get:∀{xs:List V} {us:List Value} {i:Nat} {x:V},ZZ xs us->xs[i]? = some x->∃u,us[i]? = some u/\ZC x u
 |_,_,_,_,.nil,e=>by simp at e
 |_,_,0,_,.cons r _,e=>by simp at e;subst e;exact⟨_,rfl,r⟩
 |_,_,i+1,x,.cons _ t,e=>by
  obtain⟨u,h1,h2⟩:=ZZ.get (i:=i) (x:=x) t (by simpa using e)
  exact⟨u,by simpa using h1,h2⟩
theorem ZZ.set {x:V}{u:Value}(r:ZC x u):∀{xs:List V} {us:List Value} (i:Nat),ZZ xs us->ZZ (xs.set i x) (us.set i u)
 |_,_,_,.nil=>.nil
 |_,_,0,.cons _ t=>.cons r t
 |_,_,i+1,.cons q t=>.cons q (ZZ.set r i t)
theorem ZZ.append:∀{xs ys:List V} {us ws:List Value},ZZ xs us->ZZ ys ws->ZZ (xs++ys) (us++ws)
 |_,_,_,_,.nil,s=>s
 |_,_,_,_,.cons r t,s=>.cons r (ZZ.append t s)
def Bp:Option V->Option Value->Prop
 |some v,some u=>ZC v u
 |none,none=>True
 |_,_=>False
def KV {κ:Type}:List (κ×V)->List (κ×Value)->Prop:=Paired λ(p:κ×V) (q:κ×Value)=>p.1=q.1/\ZC p.2 q.2
def kV:Key->V
 | .inl i=>.int i
 | .inr x=>.str x
inductive HO where
 /-- a list -/
 |lst (xs:List V)
 /-- a tuple (never changes) -/
 |tup (xs:List V)
 /-- a dict whose keys are ints and texts;one whose keys are tuples of ints and texts (the empty one is both) -/
 |dK (kvs:List (Key×V))|dT (kvs:List (List Key×V))
 /-- a set of ints: its members,its size -/
 |set (S:Int->Bool) (n:Nat)
 /-- an instance of the class at C,its dict at dx,its attributes -/
 |ins (C dx:Addr) (fs:List (Str×V))
 /-- the dict of the instance at x -/
 |own (x:Addr)
 /-- the dict of an exception -/
 |xd (fs:List (Str×V))
 /-- a bound method,f of x -/
 |met (f x:Addr)
 /-- a range object lo,lo+1,.. below hi -/
 |rng (lo hi:Int)
 /-- a thing that is known to the object (the script;a dict while a loop walks it): read,never written while it is so -/
 |frz (o:Obj) (u:HO)
 /-- a code object's table -/
 |tbl (ps:Array Value)
 /-- any other thing,by what is true of its one object (a def of one's own: SetO a S n:=HO.ext λh=>..) -/
 |ext (φ:Heap->Prop)
abbrev Hp:=Addr->Option HO
def upd (H:Hp)(a:Addr)(o:HO):Hp:=λb=>if b=a then some o else H b
theorem Z7 {H:Hp}{a:Addr}{o:HO}:upd H a o a=some o:=by unfold upd;rw [if_pos rfl]
theorem Zf {H:Hp}{a b:Addr}{o:HO}(h:b≠a):upd H a o b=H b:=by unfold upd;rw [if_neg h]
theorem Qy {H:Hp}{a:Addr}{o u:HO}:upd (upd H a o) a u=upd H a u:=by
 funext b;unfold upd;split<;>rfl
theorem UW {H:Hp}{a b:Addr}{o u:HO}(h:H a=some o)(h':H b=some u)(d:o≠u):a≠b:=by
 intro e;subst e;rw [h] at h';exact d (WW h')
theorem Zv {H:Hp}{a b:Addr}{o:HO}(h:H a=some o)(h':H b=none):a≠b:=by
 intro e;subst e;rw [h] at h';cases h'
def Hi (h:Heap)(a:Addr)(items:Array Value):Prop:=IsTup h a items/\∃o,h.get? a=some o/\o.dict=none
theorem Hi.new (h:Heap)(items:Array Value):Hi (h.push { cls:=.type "tuple",data:=.seq items }) h.objs.size items:=⟨IsTup.new h items,_,Ws _ rfl,rfl⟩
section
variable (P:Program) (w:World)
def ZL (H:Hp)(h:Heap)(a:Addr):HO->Prop
 | .lst xs=>xs.length<=Wk/\∃(its:List Value) (n:Nat),ZZ xs its/\h.get? a=some { cls:=.type "list",data:=.seq its.toArray n }
 | .tup xs=>xs.length<=Wk/\∃its:List Value,ZZ xs its/\Hi h a its.toArray
 | .dK kvs=>kvs.length<=Wk/\(a == sysModules)=false/\∃vs,KV kvs vs/\h.DictOf (ZN P w) a vs
 | .dT kvs=>kvs.length<=Wk/\(a == sysModules)=false/\∃xs:List (List Key×Addr×Value),
   Paired (λ(p:List Key×V) (q:List Key×Addr×Value)=>p.1=q.1/\H q.2.1=some (.tup (p.1.map kV))/\ZC p.2 q.2.2) kvs xs/\
   ∃o es ep,h.get? a=some o/\o.ExactDict/\o.data = .dict es ep/\es.toList=xs.map (entryOfKey (tupleKind (ZN P w)))/\(xs.map (·.1)).Nodup
 | .set S n=>h.SetOf (intKind P w) a S n
 | .ins C dx fs=>H dx=some (.own a)/\fs.length<=1000/\dx≠a/\h.get? a=some (W0r C dx)/\
   ∃mA,h.Ns1 dx mA/\(∀f,Bp (fs.lookup f) (mA f))/\PySem.Within mA (fs.map (·.1))
 | .own _=>∃o,h.get? a=some o
 | .xd fs=>∃mA,h.Ns1 a mA/\∀f,Bp (fs.lookup f) (mA f)
 | .rng lo hi=>∃t u v,h.get? a=some { cls:=.type "range",data:=.fields #[.int lo t,.int hi u,.int 1 v] }
 | .frz o u=>h.get? a=some o/\ZL H h a u
 | .tbl ps=>h.get? a=some { cls:=.none,data:=.fields ps }
 | .met f x=>h.get? a=some (W2u (.ref f) (.ref x))
 | .ext φ=>φ h/\(∃o,h.get? a=some o)/\∀h1 h2:Heap,φ h1->(∀o,h1.get? a=some o->h2.get? a=some o)->φ h2
def HOk (H:Hp)(h:Heap):Prop:=∀a o,H a=some o->ZL P w H h a o
end
section
variable {P:Program} {w:World} {H H':Hp} {h h':Heap} {a:Addr} {o:HO}
theorem ZL.lt (x:ZL P w H h a o):a<h.objs.size:=by
 cases o with
 |lst xs=>obtain⟨_,_,_,_,e⟩:=x;exact Wt e
 |tup xs=>obtain⟨_,_,_,p⟩:=x;exact p.1.lt
 |dK kvs=>obtain⟨_,_,_,_,o,_,_,e,_⟩:=x;exact Wt e
 |dT kvs=>obtain⟨_,_,_,_,o,_,_,e,_⟩:=x;exact Wt e
 |set S n=>obtain⟨o,_,_,_,e,_⟩:=x;exact Wt e
 |ins C dx fs=>obtain⟨_,_,_,e,_⟩:=x;exact Wt e
 |own y=>obtain⟨_,e⟩:=x;exact Wt e
 |xd fs=>obtain⟨_,⟨_,_,_,e,_⟩,_⟩:=x;exact Wt e
 |rng lo hi=>obtain⟨_,_,_,e⟩:=x;exact Wt e
 |frz ob u=>obtain⟨e,_⟩:=x;exact Wt e
 |tbl ps=>exact Wt (show h.get? a=some _ from x)
 |met f y=>exact Wt (show h.get? a=some _ from x)
 |ext φ=>obtain⟨_,⟨_,e⟩,_⟩:=x;exact Wt e
theorem Paired.mapP {α β:Type}{F G:α->β->Prop}:∀{l₁:List α} {l₂:List β},Paired F l₁ l₂->(∀a b,F a b->G a b)->Paired G l₁ l₂
 |_,_,.nil,_=>.nil
 |_,_,.cons r t,f=>.cons (f _ _ r) (Paired.mapP t f)
theorem ZL.stay (x:ZL P w H h a o)(k:∀b u,(b=a\/H b=some (.own a))->h.get? b=some u->h'.get? b=some u)
  (ho:∀b,H b=some (.own a)->H' b=some (.own a)) (ht:∀b xs,H b=some (.tup xs)->H' b=some (.tup xs)):ZL P w H' h' a o:=by
 induction o with
 |lst xs=>obtain⟨z,its,n,r,e⟩:=x;exact⟨z,its,n,r,k _ _ (.inl rfl) e⟩
 |tup xs=>obtain⟨z,its,r,⟨ob,e,c⟩,ob2,e2,c2⟩:=x;exact⟨z,its,r,⟨ob,k _ _ (.inl rfl) e,c⟩,ob2,k _ _ (.inl rfl) e2,c2⟩
 |dK kvs=>obtain⟨z,y,vs,r,ob,es,ep,e,c⟩:=x;exact⟨z,y,vs,r,ob,es,ep,k _ _ (.inl rfl) e,c⟩
 |dT kvs=>
  obtain⟨z,y,xs,r,ob,es,ep,e,c⟩:=x
  exact⟨z,y,xs,Paired.mapP r λp q z=>⟨z.1,ht _ _ z.2.1,z.2.2⟩,ob,es,ep,k _ _ (.inl rfl) e,c⟩
 |set S n=>obtain⟨ob,es,ep,t,e,c⟩:=x;exact⟨ob,es,ep,t,k _ _ (.inl rfl) e,c⟩
 |ins C dx fs=>
  obtain⟨d,z,ne,e,mA,⟨od,es,ep,e2,c⟩,r⟩:=x
  exact⟨ho _ d,z,ne,k _ _ (.inl rfl) e,mA,⟨od,es,ep,k _ _ (.inr d) e2,c⟩,r⟩
 |own y=>obtain⟨ob,e⟩:=x;exact⟨ob,k _ _ (.inl rfl) e⟩
 |xd fs=>obtain⟨mA,⟨od,es,ep,e,c⟩,r⟩:=x;exact⟨mA,⟨od,es,ep,k _ _ (.inl rfl) e,c⟩,r⟩
 |rng lo hi=>obtain⟨t,u,v,e⟩:=x;exact⟨t,u,v,k _ _ (.inl rfl) e⟩
 |frz ob u ih=>obtain⟨e,q⟩:=x;exact⟨k _ _ (.inl rfl) e,ih q⟩
 |tbl ps=>
  have e:h.get? a=some { cls:=.none,data:=.fields ps }:=x
  show h'.get? a=some { cls:=.none,data:=.fields ps }
  exact k a _ (.inl rfl) e
 |met f y=>
  have e:h.get? a=some (W2u (.ref f) (.ref y)):=x
  show h'.get? a=some (W2u (.ref f) (.ref y))
  exact k a _ (.inl rfl) e
 |ext φ=>obtain⟨p,⟨o,e⟩,st⟩:=x;exact⟨st _ _ p λo q=>k _ _ (.inl rfl) q,⟨o,k _ _ (.inl rfl) e⟩,st⟩
theorem HOk.lt (x:HOk P w H h)(e:H a=some o):a<h.objs.size:=(x a o e).lt
theorem HOk.fresh (x:HOk P w H h)(e:h.objs.size<=a):H a=none:=by
 cases q:H a with
 |none=>rfl
 |some u=>exact absurd (WR (x.lt q) e) (VC _)
theorem HOk.kept (x:HOk P w H h)(k:∀b u,h.get? b=some u->h'.get? b=some u):HOk P w H h':=λa o e=>
 (x a o e).stay (λb u _ q=>k b u q) (λ_ q=>q) λ_ _ q=>q
theorem HOk.laid (x:HOk P w H h)(k:∀b u,h.get? b=some u->h'.get? b=some u)(hp:h.objs.size<=a)(new:ZL P w (upd H a o) h' a o):HOk P w (upd H a o) h':=λb u e=>by
 have hn:=x.fresh hp
 by_cases hb:b=a
 ·subst hb;rw [Z7] at e;cases e;exact new
 ·rw [Zf hb] at e
  exact (x b u e).stay (λc v _ q=>k c v q) (λc q=>by rw [Zf (Zv q hn)];exact q) λc xs q=>by rw [Zf (Zv q hn)];exact q
end
def Rd (H:Hp)(a:Addr)(u:HO):Prop:=H a=some u\/∃o,H a=some (.frz o u)
theorem Rd.ok {P:Program}{w:World}{H:Hp}{h:Heap}{a:Addr}{u:HO}(r:Rd H a u)(x:HOk P w H h):ZL P w H h a u:=by
 rcases r with r|⟨o,r⟩
 ·exact x a u r
 ·obtain⟨_,q⟩:=x a _ r
  exact q
def Mut:Option HO->Prop
 |some (.lst _)=>True
 |some (.dK _)=>True
 |some (.dT _)=>True
 |some (.set _ _)=>True
 |some (.ins _ _ _)=>True
 |some (.ext _)=>True
 |_=>False
section
variable {P:Program} {w:World} {H:Hp} {h h':Heap} {x e:Addr} {o':HO}
theorem HOk.write (ok:HOk P w H h)(mu:Mut (H x))(he:e=x\/H e=some (.own x))(k:∀b u,b≠e->h.get? b=some u->h'.get? b=some u)(heo:∃u,h'.get? e=some u)
  (new:ZL P w (upd H x o') h' x o'):HOk P w (upd H x o') h':=λb u q=>by
 have nown:∀c y,H c=some (.own y)->c≠x:=λc y r z=>by subst z;rw [r] at mu;exact mu
 have ntup:∀c xs,H c=some (.tup xs)->c≠x:=λc xs r z=>by subst z;rw [r] at mu;exact mu
 by_cases hb:b=x
 ·subst hb;rw [Z7] at q;cases q;exact new
 ·rw [Zf hb] at q
  by_cases hbe:b=e
  ·have q':H b=some (.own x):=by
    rcases he with z|z
    ·exact absurd (hbe.trans z) hb
    ·rw [hbe];exact z
   rw [q] at q';cases q'
   obtain⟨v,hv⟩:=heo
   exact⟨v,by rw [hbe];exact hv⟩
  ·refine (ok b u q).stay (λc v hc r=>k c v ?_ r) (λc r=>by rw [Zf (nown c b r)];exact r) λc xs r=>by rw [Zf (ntup c xs r)];exact r
   rcases hc with rfl|hc
   ·exact hbe
   ·rintro rfl
    rcases he with z|z
    ·exact nown c b hc z
    ·rw [hc] at z;cases z;exact hb rfl
end
structure Un (fs ex:List Addr) (H H':Hp) (h h':Heap):Prop where
 keep:∀b o,h.get? b=some o->H b=none->b∉fs->b∉ex->h'.get? b=some o
 slot:∀b o,h.get? b=some o->H b=none->b∈fs->b∉ex->∃sl,h'.get? b=some { o with slots:=sl }
 free:∀b o,h.get? b=some o->H b=none->b∉ex->H' b=none
 there:∀b o,h.get? b=some o->b∉ex->∃o',h'.get? b=some o'
 tups:∀b xs,H b=some (.tup xs)->H' b=some (.tup xs)
 frzs:∀b o u,H b=some (.frz o u)->H' b=some (.frz o u)
 tbls:∀b ps,H b=some (.tbl ps)->∃more,H' b=some (.tbl (ps++more))
section
variable {fs fs' ex ex':List Addr} {H H1 H2:Hp} {h h1 h2 h':Heap} {a x e:Addr} {o:HO}
theorem Un.any (u:Un fs ex H H1 h h1){b:Addr}{ob:Obj}(q:h.get? b=some ob)(n:H b=none)(hx:b∉ex):∃sl,h1.get? b=some { ob with slots:=sl }:=by
 by_cases hb:b∈fs
 ·exact u.slot b ob q n hb hx
 ·exact⟨ob.slots,u.keep b ob q n hb hx⟩
theorem Un.kept (k:∀b u,h.get? b=some u->h'.get? b=some u):Un fs ex H H h h':=
 ⟨λb ob q _ _ _=>k b ob q,λb ob q _ _ _=>⟨ob.slots,k b ob q⟩,λ_ _ _ n _=>n,λb ob q _=>⟨ob,k b ob q⟩,λ_ _ q=>q,λ_ _ _ q=>q,λ_ ps q=>⟨#[],by rw [q];simp⟩⟩
theorem Un.refl:Un fs ex H H h h:=Un.kept λ_ _ q=>q
theorem Un.laid (k:∀b u,h.get? b=some u->h'.get? b=some u)(hp:h.objs.size<=a)(hn:H a=none):Un fs ex H (upd H a o) h h' where
 keep:=λb u q _ _ _=>k b u q
 slot:=λb u q _ _ _=>⟨u.slots,k b u q⟩
 free:=λb u q n _=>by rw [Zf (WG (WR (Wt q) hp))];exact n
 there:=λb u q _=>⟨u,k b u q⟩
 tups:=λb xs q=>by rw [Zf (Zv q hn)];exact q
 frzs:=λb u xs q=>by rw [Zf (Zv q hn)];exact q
 tbls:=λb ps q=>⟨#[],by rw [Zf (Zv q hn),q];simp⟩
theorem Un.write (mu:Mut (H x))(he:e=x\/H e=some (.own x))(k:∀b u,b≠e->h.get? b=some u->h'.get? b=some u)(heo:∃u,h'.get? e=some u):Un fs ex H (upd H x o) h h':=by
 have hx:∀b,H b=none->b≠x:=λb n z=>by subst z;rw [n] at mu;exact mu
 have hb:∀b,H b=none->b≠e:=λb n z=>by
  subst z;rcases he with r|r
  ·exact hx b n r
  ·rw [n] at r;cases r
 have hm:∀b u,H b=some u->¬Mut (some u)->b≠x:=λb u q nm z=>by subst z;rw [q] at mu;exact nm mu
 refine⟨λb u q n _ _=>k b u (hb b n) q,λb u q n _ _=>⟨u.slots,k b u (hb b n) q⟩,λb u q n _=>by rw [Zf (hx b n)];exact n,λb u q _=>?_,
  λb xs q=>by rw [Zf (hm b _ q λz=>z)];exact q,λb u xs q=>by rw [Zf (hm b _ q λz=>z)];exact q,λb ps q=>⟨#[],by rw [Zf (hm b _ q λz=>z),q];simp⟩⟩
 by_cases hbe:b=e
 ·subst hbe;exact heo
 ·exact⟨u,k b u hbe q⟩
end
def trk (h:Heap)(H:Hp):List Addr:=(W6 h.objs.size).filter λa=>(H a).isSome
def AA (h:Heap)(H:Hp):Heap:=PySem.W.hideAll h (trk h H)
theorem Ly (h:Heap)(H:Hp):(AA h H).objs.size=h.objs.size:=PySem.W.hideAll_size _ _
theorem Az {h:Heap}{H:Hp}{b:Addr}{o:Obj}(e:h.get? b=some o)(n:H b=none):(AA h H).get? b=some o:=
 PySem.W.hideAll_get _ e λhm=>by
  have q:(H b).isSome=true:=(Vw.mp hm).2
  rw [n] at q;simp at q
theorem Sh {h:Heap}{H:Hp}{b:Addr}{o:Obj}(e:(AA h H).get? b=some o):h.get? b=some o/\H b=none:=by
 have e':h.get? b=some o:=PySem.W.of_hideAll (trk h H) e
 refine⟨e',?_⟩
 cases q:H b with
 |none=>rfl
 |some x=>
  have hm:b∈trk h H:=Vw.mpr ⟨Vf.mpr (Wt e'),by simp [q]⟩
  have z:(AA h H).get? b=none:=PySem.W.hideAll_none (trk h H) hm
  rw [z] at e;cases e
def Iy (g h:Heap)(L:Addr):List (Addr×Obj):=(W6 h.objs.size).filterMap λa=>if a=L\/(g.get? a).isSome=true then none else (h.get? a).map λo=>(a,o)
def Qn (g h:Heap)(L d:Addr):List (Addr×Obj):=(Iy g h L).filter λp=>decide (p.1≠d)
end L2
namespace L2
open PySem PySem.Spec PyProof.Rows
structure Mod (K:W8) (mg:Str->Option Value) (base:Heap):Prop where
 kin:K.In base
 glob:base.Ns WJ mg
 blt:∃mb,base.Ns builtinsNs mb/\∀x:Str,x≠"__name__"->mb x=WK x
 nolimit:base.NoLimit
structure Cx where
 prog:Program
 w:World
 K:W8
 mg:Str->Option Value
 base:Heap
 A:Around
 N:List Str
 s₀:Shared
 H₀:Hp
 env:Env
 outer:List Env
 stack:List Env
 ex:List Addr
 fn:Str->Bool
 calm:Bool
 pn:List (Addr×Obj)
 xe:Value->Shared->Prop
def frs (l:List Env):List Addr:=l.filterMap (·.frame)
abbrev Cx.fs (X:Cx):List Addr:=frs X.outer
def Vis (sc:Scope)(x:Str):Prop:=sc.names.lookup x=some .local\/sc.names.lookup x=some .cell\/sc.names.lookup x=some .free
def Loc (sc:Scope)(x:Str):Prop:=sc.names.lookup x=some .local\/sc.names.lookup x=some .cell
def Z3b (env:Env)(h:Heap)(m:Str->Option Value)(x:Str)(u:Value):Prop:=
 (env.kindOf x=some .local/\m x=some u)\/((env.kindOf x=some .cell\/env.kindOf x=some .free)/\∃c,env.cells.lookup x=some c/\h.IsCell c (some u))
structure Cx.Ok (X:Cx):Prop where
 mod:Mod X.K X.mg X.base
 kind:X.env.scope.kind = .function
 glob:X.env.globals=WJ
 blt:X.env.builtins=builtinsNs
 above:X.s₀.heap.objs.size<=X.env.locals
 inj:∀x y c,X.env.cells.lookup x=some c->X.env.cells.lookup y=some c->x=y
 has:∀x,(X.env.kindOf x=some .cell\/X.env.kindOf x=some .free)->∃c,X.env.cells.lookup x=some c
 cab:∀x c,X.fn x=true->X.env.cells.lookup x=some c->X.s₀.heap.objs.size<=c
 hd:X.calm=true->X.A.handled=none
 frames:X.A.frames=some X.stack
 stk:X.stack=X.outer\/(X.stack=X.env :: X.outer/\X.env.frame=some X.env.locals)
 exf:∀b∈X.ex,b≠X.env.locals/\∀x c,X.env.cells.lookup x=some c->c≠b
 bs:∀b o,X.base.get? b=some o->X.s₀.heap.get? b=some o/\X.H₀ b=none
 bsz:X.base.objs.size<=X.s₀.heap.objs.size
 noex:∀b o,X.base.get? b=some o->b∉X.ex
 exfs:∀b∈X.ex,b∉X.fs
 funs:X.s₀.heap.FunFrames X.base X.outer
 frf:∀b∈X.fs,X.H₀ b=none
structure Inv (X:Cx) (pins:List (Addr×Obj)) (σ:List (Option V)) (H:Hp) (s:Shared):Prop where
 ok:X.Ok
 os:s.os=X.s₀.os
 bare:AllBare s.gens
 base:Un X.fs X.ex X.H₀ H X.s₀.heap s.heap
 loc:∃m,s.heap.Ns X.env.locals m/\∀(i:Nat) (x:Str) (v:V),X.N[i]? = some x->σ[i]? = some (some v)->Vis X.env.scope x->∃u,ZC v u/\Z3b X.env s.heap m x u
 cell:∀x c,X.env.cells.lookup x=some c->∃v,s.heap.IsCell c v
 free:H X.env.locals=none
 freeC:∀x c,X.env.cells.lookup x=some c->H c=none
 pin:∀p∈X.pn++pins,s.heap.get? p.1=some p.2/\H p.1=none/\p.1≠X.env.locals/\p.1∉X.fs/\∀v,p.2.data≠.cell v
 hok:HOk X.prog X.w H s.heap
 len:σ.length=X.N.length
section
variable {X:Cx} {pins:List (Addr×Obj)} {σ:List (Option V)} {H H':Hp} {s:Shared} {h':Heap}
theorem Cx.Ok.nofr (ok:X.Ok){b:Addr}{o:Obj}(e:X.base.get? b=some o):b∉X.fs:=λhb=>by
 have:=(ok.funs.mem hb).1
 rw [e] at this;cases this
theorem Inv.bs (I:Inv X pins σ H s):∀b o,X.base.get? b=some o->s.heap.get? b=some o/\H b=none:=λb o e=>
 ⟨I.base.keep b o (I.ok.bs b o e).1 (I.ok.bs b o e).2 (I.ok.nofr e) (I.ok.noex b o e),I.base.free b o (I.ok.bs b o e).1 (I.ok.bs b o e).2 (I.ok.noex b o e)⟩
theorem Inv.bk (I:Inv X pins σ H s):∀b o,X.base.get? b=some o->s.heap.get? b=some o:=λb o e=>(I.bs b o e).1
theorem Inv.mod (I:Inv X pins σ H s):Mod X.K X.mg X.base:=I.ok.mod
theorem Inv.kIn (I:Inv X pins σ H s):X.K.In s.heap:=I.ok.mod.kin.keeps I.bk
theorem Inv.lt (I:Inv X pins σ H s):X.env.locals<s.heap.objs.size:=let ⟨_,hn,_⟩:=I.loc;hn.lt
theorem Inv.sz (I:Inv X pins σ H s):X.s₀.heap.objs.size<=s.heap.objs.size:=V7 I.ok.above (W2k I.lt)
theorem Inv.nofs (I:Inv X pins σ H s){a:Addr}(h:s.heap.objs.size<=a):a∉X.fs:=λhb=>by
 obtain⟨_,o,ho,_⟩:=I.ok.funs.mem hb
 exact absurd (WR (Wt ho) (V7 I.sz h)) (VC _)
theorem Inv.cne (I:Inv X pins σ H s):∀x c,X.env.cells.lookup x=some c->c≠X.env.locals:=λx c e z=>by
 obtain⟨v,o,ho,hd⟩:=I.cell x c e
 obtain⟨m,⟨o',es,ep,ho',hd',_⟩,_⟩:=I.loc
 rw [z,ho'] at ho;cases ho;rw [hd'] at hd;cases hd
theorem Inv.funs (I:Inv X pins σ H s):s.heap.FunFrames X.base X.outer:=by
 have all:∀(l:List Env),(∀b∈frs l,b∈X.fs)->X.s₀.heap.FunFrames X.base l->s.heap.FunFrames X.base l:=by
  intro l
  induction l with
  |nil=>intro _ _;trivial
  |cons env r ih=>
   intro hs hl;obtain⟨hk,⟨L,o,hf,hn,ho,hd⟩,hr⟩:=hl
   have hL:L∈X.fs:=hs L (by unfold frs;rw [W0s,hf];exact Wp)
   obtain⟨sl,e⟩:=I.base.slot L o ho (I.ok.frf L hL) hL λz=>I.ok.exfs L z hL
   exact⟨hk,⟨L,_,hf,hn,e,hd⟩,ih (λb hb=>hs b (by unfold frs;rw [W0s,hf];exact Wu _ hb)) hr⟩
 exact all X.outer (λ_ hb=>hb) I.ok.funs
theorem Inv.stack (I:Inv X pins σ H s):s.heap.FunFrames X.base X.stack:=by
 rcases I.ok.stk with e|⟨e,hf⟩
 ·rw [e];exact I.funs
 ·rw [e]
  obtain⟨m,hn,_⟩:=I.loc
  refine .cons (by rw [I.ok.kind];decide) hf hn ?_ I.funs
  exact Heap.get?_none_of_le (V7 I.ok.bsz I.ok.above)
theorem Inv.stkSub (I:Inv X pins σ H s):∀b∈frs X.stack,b∈X.env.locals :: X.fs:=λb hb=>by
 rcases I.ok.stk with e|⟨e,hf⟩
 ·rw [e] at hb;exact Wu _ hb
 ·rw [e] at hb
  unfold frs at hb;rw [W0s,hf] at hb;exact hb
theorem Inv.stkFree (I:Inv X pins σ H s):∀b∈frs X.stack,H b=none:=λb hb=>by
 rcases Wv.mp (I.stkSub b hb) with e|hb
 ·rw [e];exact I.free
 ·obtain⟨_,o,ho,_⟩:=I.ok.funs.mem hb
  exact I.base.free b o ho (I.ok.frf b hb) λz=>I.ok.exfs b z hb
theorem Inv.step {g':Array GenState}{t':Nat}{d':Drawn}{ch:List Addr}(I:Inv X pins σ H s)
  (hch:∀b∈ch,(b∈X.ex\/X.s₀.heap.objs.size<=b)/\b≠X.env.locals/\(∀x c,X.env.cells.lookup x=some c->c≠b)/\∀p∈X.pn++pins,p.1≠b)
  (keep:∀b o,b≠X.env.locals->b∉X.fs->b∉ch->s.heap.get? b=some o->H b=none->h'.get? b=some o)
  (slot:∀b o,b≠X.env.locals->b∈X.fs->b∉ch->s.heap.get? b=some o->H b=none->∃sl,h'.get? b=some { o with slots:=sl }) (free:∀b o,b∉ch->s.heap.get? b=some o->H b=none->H' b=none)
  (there:∀b o,b∉ch->s.heap.get? b=some o->∃o',h'.get? b=some o')
  (tups:∀b xs,H b=some (.tup xs)->H' b=some (.tup xs)) (frzs:∀b o u,H b=some (.frz o u)->H' b=some (.frz o u)) (tbls:∀b ps,H b=some (.tbl ps)->∃more,H' b=some (.tbl (ps++more)))
  (ns:∀m,s.heap.Ns X.env.locals m->h'.Ns X.env.locals m) (hok:HOk X.prog X.w H' h') (hg:AllBare g') :
  Inv X pins σ H' { s with heap:=h',gens:=g',drawn:=d',toks:=t' }:=by
 have neL:∀b o,X.s₀.heap.get? b=some o->b≠X.env.locals:=λb o e=>WG (WR (Wt e) I.ok.above)
 have neC:∀b o,X.s₀.heap.get? b=some o->b∉X.ex->b∉ch:=λb o e hx hb=>by
  rcases (hch b hb).1 with z|z
  ·exact hx z
  ·exact absurd (WR (Wt e) z) (VC _)
 have cellK:∀x c,X.env.cells.lookup x=some c->∀v,s.heap.IsCell c v->h'.IsCell c v:=λx c e v ⟨o,ho,hd⟩=>by
  have nch:c∉ch:=λz=>(hch c z).2.2.1 x c e rfl
  by_cases hc:c∈X.fs
  ·obtain⟨sl,q⟩:=slot c o (I.cne x c e) hc nch ho (I.freeC x c e)
   exact⟨_,q,hd⟩
  ·exact⟨o,keep c o (I.cne x c e) hc nch ho (I.freeC x c e),hd⟩
 refine⟨I.ok,I.os,hg,⟨λb o e n hb hx=>?_,λb o e n hb hx=>?_,λb o e n hx=>?_,λb o e hx=>?_,λb xs e=>tups b xs (I.base.tups b xs e),λb o xs e=>frzs b o xs (I.base.frzs b o xs e),λb ps e=>?_⟩,?_,λx c e=>?_,?_,λx c e=>?_,λp hp=>?_,hok,I.len⟩
 ·exact keep b o (neL b o e) hb (neC b o e hx) (I.base.keep b o e n hb hx) (I.base.free b o e n hx)
 ·obtain⟨sl,e1⟩:=I.base.slot b o e n hb hx
  obtain⟨sl',e2⟩:=slot b _ (neL b o e) hb (neC b o e hx) e1 (I.base.free b o e n hx)
  exact⟨sl',e2⟩
 ·obtain⟨o',e1⟩:=I.base.there b o e hx
  exact free b o' (neC b o e hx) e1 (I.base.free b o e n hx)
 ·obtain⟨o',e1⟩:=I.base.there b o e hx
  exact there b o' (neC b o e hx) e1
 ·obtain⟨m1,e1⟩:=I.base.tbls b ps e
  obtain⟨m2,e2⟩:=tbls b _ e1
  exact⟨m1++m2,by rw [e2,Array.append_assoc]⟩
 ·obtain⟨m,hn,hl⟩:=I.loc
  refine⟨m,ns m hn,λi x v e1 e2 e3=>?_⟩
  obtain⟨u,r,l⟩:=hl i x v e1 e2 e3
  refine⟨u,r,?_⟩
  rcases l with l|⟨k,c,e,z⟩
  ·exact .inl l
  ·exact .inr ⟨k,c,e,cellK x c e _ z⟩
 ·obtain⟨v,z⟩:=I.cell x c e
  exact⟨v,cellK x c e v z⟩
 ·obtain⟨m,⟨o,_,_,ho,_⟩,_⟩:=I.loc
  exact free _ o (λz=>(hch _ z).2.1 rfl) ho I.free
 ·obtain⟨v,o,ho,hd⟩:=I.cell x c e
  exact free c o (λz=>(hch c z).2.2.1 x c e rfl) ho (I.freeC x c e)
 ·obtain⟨e,n,ne,nf,d⟩:=I.pin p hp
  have nch:p.1∉ch:=λz=>(hch p.1 z).2.2.2 p hp rfl
  exact⟨keep p.1 p.2 ne nf nch e n,free p.1 p.2 nch e n,ne,nf,d⟩
theorem Inv.un {t':Nat}(I:Inv X pins σ H s)(u:Un X.fs [] H H' s.heap h')(hok:HOk X.prog X.w H' h'):Inv X pins σ H' { s with heap:=h',toks:=t' }:=by
 obtain⟨m,⟨o,es,ep,ho,r⟩,_⟩:=id I.loc
 obtain⟨sl,hL⟩:=u.any ho I.free (by simp)
 exact I.step (g':=s.gens) (d':=s.drawn) (ch:=[]) (λ_ z=>nomatch z) (λb o _ hb _ e n=>u.keep b o e n hb (by simp)) (λb o _ hb _ e n=>u.slot b o e n hb (by simp)) (λb o _ e n=>u.free b o e n (by simp)) (λb o _ e=>u.there b o e (by simp)) u.tups u.frzs u.tbls (λm' hm=>by
  obtain⟨o',es',ep',ho',r'⟩:=hm
  rw [ho] at ho';cases ho'
  exact⟨_,es',ep',hL,r'⟩) hok I.bare
theorem Inv.call {g':Array GenState}{t':Nat}{d':Drawn}{ch:List Addr}(I:Inv X pins σ H s)(u:Un (frs X.stack) ch H H' s.heap h')(hok:HOk X.prog X.w H' h')(hg:AllBare g')
  (hch:∀b∈ch,(b∈X.ex\/X.s₀.heap.objs.size<=b)/\b≠X.env.locals/\(∀x c,X.env.cells.lookup x=some c->c≠b)/\∀p∈X.pn++pins,p.1≠b) :
  Inv X pins σ H' { s with heap:=h',gens:=g',drawn:=d',toks:=t' }:=by
 obtain⟨m,⟨o,es,ep,ho,r⟩,_⟩:=id I.loc
 obtain⟨sl,hL⟩:=u.any ho I.free λz=>(hch _ z).2.1 rfl
 exact I.step (ch:=ch) hch (λb o hL hb hc e n=>u.keep b o e n (λz=>(Wv.mp (I.stkSub b z)).elim hL hb) hc) (λb o _ _ hc e n=>u.any e n hc) (λb o hc e n=>u.free b o e n hc) (λb o hc e=>u.there b o e hc) u.tups u.frzs u.tbls (λm' hm=>by
  obtain⟨o',es',ep',ho',r'⟩:=hm
  rw [ho] at ho';cases ho'
  exact⟨_,es',ep',hL,r'⟩) hok hg
theorem Inv.turned {t':Nat}{it:Addr}(I:Inv X pins σ H s)(k:∀b o,b≠it->s.heap.get? b=some o->h'.get? b=some o)(hn:H it=none)(hL:it≠X.env.locals)
  (h1:it∈X.ex\/X.s₀.heap.objs.size<=it) (h2:∀x c,X.env.cells.lookup x=some c->c≠it) (h3:∀p∈X.pn++pins,p.1≠it):Inv X pins σ H { s with heap:=h',toks:=t' }:=by
 have nit:∀b u,H b=some u->b≠it:=λb u e z=>by rw [z,hn] at e;cases e
 refine I.step (g':=s.gens) (d':=s.drawn) (ch:=[it]) (λb hb=>?_) (λb o _ _ hc e _=>k b o (λz=>hc (by simp [z])) e) (λb o _ _ hc e _=>⟨o.slots,k b o (λz=>hc (by simp [z])) e⟩) (λ_ _ _ _ n=>n)
  (λb o hc e=>⟨o,k b o (λz=>hc (by simp [z])) e⟩) (λ_ _ e=>e) (λ_ _ _ e=>e) (λb ps e=>⟨#[],by rw [e];simp⟩) (λm hm=>?_) (λb u e=>?_) I.bare
 ·have e:b=it:=by simpa using hb
  subst e;exact⟨h1,hL,h2,h3⟩
 ·obtain⟨o,es,ep,ho,r⟩:=hm
  exact⟨o,es,ep,k _ o (Ne.symm hL) ho,r⟩
 ·refine (I.hok b u e).stay (λc v hc q=>k c v ?_ q) (λ_ q=>q) λ_ _ q=>q
  rcases hc with z|z
  ·rw [z];exact nit b u e
  ·exact nit c _ z
theorem Inv.tok (I:Inv X pins σ H s)(t:Nat):Inv X pins σ H { s with toks:=t }:=I.un (h':=s.heap) (t':=t) Un.refl I.hok
theorem Inv.kept {t':Nat}(I:Inv X pins σ H s)(k:∀b u,s.heap.get? b=some u->h'.get? b=some u):Inv X pins σ H { s with heap:=h',toks:=t' }:=I.un (Un.kept k) (I.hok.kept k)
theorem Inv.laid {a:Addr}{o:HO}{t':Nat}(I:Inv X pins σ H s)(k:∀b u,s.heap.get? b=some u->h'.get? b=some u)(hp:s.heap.objs.size<=a)(new:ZL X.prog X.w (upd H a o) h' a o) :
  Inv X pins σ (upd H a o) { s with heap:=h',toks:=t' }:=I.un (Un.laid k hp (I.hok.fresh hp)) (I.hok.laid k hp new)
theorem Inv.write {x e:Addr}{o:HO}{t':Nat}(I:Inv X pins σ H s)(mu:Mut (H x))(he:e=x\/H e=some (.own x))(k:∀b u,b≠e->s.heap.get? b=some u->h'.get? b=some u)(heo:∃u,h'.get? e=some u)
  (new:ZL X.prog X.w (upd H x o) h' x o):Inv X pins σ (upd H x o) { s with heap:=h',toks:=t' }:=I.un (Un.write mu he k heo) (I.hok.write mu he k heo new)
theorem Inv.weak {σ':List (Option V)}(I:Inv X pins σ H s)(hl:σ'.length=σ.length)(w:∀(i:Nat) v,σ'[i]? = some (some v)->σ[i]? = some (some v)):Inv X pins σ' H s:=
 ⟨I.ok,I.os,I.bare,I.base,let ⟨m,hn,hl'⟩:=I.loc;⟨m,hn,λi x v e1 e2 e3=>hl' i x v e1 (w i v e2) e3⟩,I.cell,I.free,I.freeC,I.pin,I.hok,hl.trans I.len⟩
theorem Inv.pins_of {pins':List (Addr×Obj)}(I:Inv X pins σ H s)(h:∀p∈pins',s.heap.get? p.1=some p.2/\H p.1=none/\p.1≠X.env.locals/\p.1∉X.fs/\∀v,p.2.data≠.cell v):Inv X pins' σ H s:=
 ⟨I.ok,I.os,I.bare,I.base,I.loc,I.cell,I.free,I.freeC,λp hp=>(WH.mp hp).elim (λz=>I.pin p (Vk _ z)) (h p),I.hok,I.len⟩
theorem MT {N:List Str}(hN:N.Nodup){i j:Nat}{x:Str}(a:N[i]? = some x)(b:N[j]? = some x):i=j:=by
 obtain⟨h1,e1⟩:=Wn.mp a
 obtain⟨h2,e2⟩:=Wn.mp b
 exact (List.getElem_inj hN).mp (e1.trans e2.symm)
theorem Bx {M:Model}{A:Around}{E:Value->Shared->Prop}{i:Nat}{x:Str}{v:V}{u:Value}{Q:Unit->Shared->Prop}(I:Inv X pins σ H s)(hN:X.N.Nodup)(hi:X.N[i]? = some x)(hx:Loc X.env.scope x)(r:ZC v u)
  (h:∀s',Inv X pins (σ.set i (some v)) H s'->(∃a,W01 a s.heap s'.heap/\(a=X.env.locals\/X.env.cells.lookup x=some a))->Q () s') (hf:X.fn x=true\/X.env.scope.names.lookup x=some .local:=by first|exact .inl rfl|exact .inr rfl|assumption):wpAny M A (storeName X.env x u) Q E s:=by
 obtain⟨m,hn,hl⟩:=id I.loc
 have hcls:(X.env.scope.kind == .class||(X.env.scope.kind == .module&&X.env.locals != X.env.globals))=false:=by rw [I.ok.kind];rfl
 have hiσ:i<σ.length:=by rw [I.len];exact (Wn.mp hi).1
 have cne:=I.cne
 have tracked:∀{a:Addr} {h':Heap},(∃o,s.heap.get? a=some o/\H a=none)->W01 a s.heap h'->HOk X.prog X.w H h':=λ{a h'} ha hs b ob e=>by
  obtain⟨_,_,hfree⟩:=ha
  refine (I.hok b ob e).stay (λc w' hc q=>(hs.2 c ?_).trans q) (λ_ q=>q) λ_ _ q=>q
  rintro rfl
  rcases hc with rfl|hc
  ·rw [hfree] at e;cases e
  ·rw [hfree] at hc;cases hc
 rcases hx with hk|hk
 ·refine wpAny_storeName_local hk hn (λh' hn' hs=>?_) hcls
  obtain⟨oL,_,_,hoL,_⟩:=id hn
  refine h _ ⟨I.ok,I.os,I.bare,⟨λb o e n hb hx=>?_,λb o e n hb hx=>?_,I.base.free,λb o e hx=>?_,I.base.tups,I.base.frzs,I.base.tbls⟩,⟨_,hn',λj y v' e1 e2 e3=>?_⟩,λy c e=>?_,I.free,I.freeC,λp hp=>?_,tracked ⟨oL,hoL,I.free⟩ hs,by simpa using I.len⟩ ⟨_,hs,.inl rfl⟩
  ·exact (hs.2 b (WG (WR (Wt e) I.ok.above))).trans (I.base.keep b o e n hb hx)
  ·obtain⟨sl,e1⟩:=I.base.slot b o e n hb hx
   exact⟨sl,(hs.2 b (WG (WR (Wt e) I.ok.above))).trans e1⟩
  ·obtain⟨o',e1⟩:=I.base.there b o e hx
   exact⟨o',(hs.2 b (WG (WR (Wt e) I.ok.above))).trans e1⟩
  ·by_cases hj:j=i
   ·subst hj
    rw [hi] at e1;cases e1
    rw [W0w hiσ] at e2;cases e2;exact⟨u,r,.inl ⟨hk,by simp⟩⟩
   ·rw [W0m (Ne.symm hj)] at e2
    obtain⟨u',r',q⟩:=hl j y v' e1 e2 e3
    refine⟨u',r',?_⟩
    rcases q with ⟨k,e⟩|⟨k,c,e,z⟩
    ·refine .inl ⟨k,?_⟩
     have:y≠x:=λe=>hj (MT hN e1 (e ▸ hi))
     simp [this,e]
    ·exact .inr ⟨k,c,e,z.sameBut hs (cne y c e)⟩
  ·obtain⟨w',z⟩:=I.cell y c e
   exact⟨w',z.sameBut hs (cne y c e)⟩
  ·obtain⟨e,n,ne,nf,d⟩:=I.pin p hp
   exact⟨(hs.2 p.1 ne).trans e,n,ne,nf,d⟩
 ·have hfn:X.fn x=true:=by
   rcases hf with z|z
   ·exact z
   ·rw [z] at hk;cases hk
  obtain⟨c,hc⟩:=I.ok.has x (.inl hk)
  obtain⟨w',z⟩:=I.cell x c hc
  refine wpAny_storeName_cell I.ok.kind hk hc z (λh' hc' hs=>?_)
  obtain⟨oc,hoc,hocd⟩:=id z
  refine h { s with heap:=h' } ⟨I.ok,I.os,I.bare,⟨λb o e n hb hx=>?_,λb o e n hb hx=>?_,I.base.free,λb o e hx=>?_,I.base.tups,I.base.frzs,I.base.tbls⟩,⟨m,hn.sameBut hs (Ne.symm (cne x c hc)),λj y v' e1 e2 e3=>?_⟩,λy c' e=>?_,I.free,I.freeC,λp hp=>?_,tracked ⟨oc,hoc,I.freeC x c hc⟩ hs,by simpa using I.len⟩ ⟨c,hs,.inr hc⟩
  ·exact (hs.2 b (WG (WR (Wt e) (I.ok.cab x c hfn hc)))).trans (I.base.keep b o e n hb hx)
  ·obtain⟨sl,e1⟩:=I.base.slot b o e n hb hx
   exact⟨sl,(hs.2 b (WG (WR (Wt e) (I.ok.cab x c hfn hc)))).trans e1⟩
  ·obtain⟨o',e1⟩:=I.base.there b o e hx
   exact⟨o',(hs.2 b (WG (WR (Wt e) (I.ok.cab x c hfn hc)))).trans e1⟩
  ·by_cases hj:j=i
   ·subst hj
    rw [hi] at e1;cases e1
    rw [W0w hiσ] at e2;cases e2;exact⟨u,r,.inr ⟨.inl hk,c,hc,hc'⟩⟩
   ·rw [W0m (Ne.symm hj)] at e2
    obtain⟨u',r',q⟩:=hl j y v' e1 e2 e3
    refine⟨u',r',?_⟩
    rcases q with q|⟨k,c',e,z'⟩
    ·exact .inl q
    ·refine .inr ⟨k,c',e,z'.sameBut hs ?_⟩
     rintro rfl
     exact hj (MT hN e1 (I.ok.inj _ _ _ e hc ▸ hi))
  ·by_cases hcc:c'=c
   ·subst hcc;exact⟨_,hc'⟩
   ·obtain⟨w2,z2⟩:=I.cell y c' e
    exact⟨w2,z2.sameBut hs hcc⟩
  ·obtain⟨e,n,ne,nf,d⟩:=I.pin p hp
   refine⟨(hs.2 p.1 ?_).trans e,n,ne,nf,d⟩
   intro q;rw [q,hoc] at e;have q':oc=p.2:=WW e
   exact d w' (by rw [<-q'];exact hocd)
theorem Mw {M:Model}{A:Around}{E:Value->Shared->Prop}{i:Nat}{x:Str}{v:V}{u:Value}{Q:Unit->Shared->Prop}(I:Inv X pins σ H s)(hN:X.N.Nodup)(hi:X.N[i]? = some x)(hx:Loc X.env.scope x)(r:ZC v u)
  (h:∀s',Inv X pins (σ.set i (some v)) H s'->Q () s') (hf:X.fn x=true\/X.env.scope.names.lookup x=some .local:=by first|exact .inl rfl|exact .inr rfl|assumption):wpAny M A (storeName X.env x u) Q E s:=
 Bx I hN hi hx r (λs' I' _=>h s' I') hf
theorem Inv.call' {s':Shared}{ch:List Addr}(I:Inv X pins σ H s)(ho:s'.os=s.os)(u:Un (frs X.stack) ch H H' s.heap s'.heap)(hok:HOk X.prog X.w H' s'.heap)(hg:AllBare s'.gens)
  (hch:∀b∈ch,(b∈X.ex\/X.s₀.heap.objs.size<=b)/\b≠X.env.locals/\(∀x c,X.env.cells.lookup x=some c->c≠b)/\∀p∈X.pn++pins,p.1≠b):Inv X pins σ H' s':=by
 obtain⟨h',g',d',t',o'⟩:=s'
 have e:o'=s.os:=ho
 subst e;exact I.call (g':=g') (t':=t') (d':=d') u hok hg hch
end
abbrev XK:=Value->Option Addr->Hp->Prop
abbrev St:=List (Option V)
abbrev VK:=V->Hp->Prop
abbrev TE:=St->Hp->VK->Prop
abbrev TT:=St->Hp->(Bool->Hp->Prop)->Prop
abbrev TA:=St->Hp->(List V->Hp->Prop)->Prop
structure Ends where
 nx:St->Hp->Prop
 rt:VK
 bk:St->Hp->Prop:=λ_ _=>False
 ct:St->Hp->Prop:=λ_ _=>False
abbrev TS:=Ends->St->Hp->Prop
def EP (X:Cx)(pins:List (Addr×Obj))(σ:St)(Q:VK)(u:Value)(s':Shared):Prop:=∃v H',Inv X pins σ H' s'/\ZC v u/\Q v H'
def TP (X:Cx)(pins:List (Addr×Obj))(σ:St)(Q:Bool->Hp->Prop)(b:Bool)(s':Shared):Prop:=∃H',Inv X pins σ H' s'/\Q b H'
def AP (X:Cx)(pins:List (Addr×Obj))(σ:St)(Q:List V->Hp->Prop)(us:List Value)(s':Shared):Prop:=∃vs H',Inv X pins σ H' s'/\ZZ vs us/\Q vs H'
def SP (X:Cx)(pins:List (Addr×Obj))(D:Ends)(f:Flow)(s':Shared):Prop:=
 match f with
 | .next=>∃σ' H',Inv X pins σ' H' s'/\D.nx σ' H'
 | .brk=>∃σ' H',Inv X pins σ' H' s'/\D.bk σ' H'
 | .cont=>∃σ' H',Inv X pins σ' H' s'/\D.ct σ' H'
 | .ret u=>∃v σ' H',Inv X pins σ' H' s'/\ZC v u/\D.rt v H'
def PE (X:Cx)(e:Expr)(t:TE):Prop:=
 ∀(pins:List (Addr×Obj)) (s:Shared) (σ:St) (H:Hp) (Q:VK),Inv X pins σ H s->t σ H Q->wpAny (model X.prog X.w) X.A (eval e X.env) (EP X pins σ Q) X.xe s
def PT (X:Cx)(e:Expr)(t:TT):Prop:=
 ∀(pins:List (Addr×Obj)) (s:Shared) (σ:St) (H:Hp) (Q:Bool->Hp->Prop),Inv X pins σ H s->t σ H Q->wpAny (model X.prog X.w) X.A (isTrue e X.env (eval e X.env)) (TP X pins σ Q) X.xe s
def PW (X:Cx)(e:Expr)(t:TT):Prop:=
 ∀(whole:Sem Value) (pins:List (Addr×Obj)) (s:Shared) (σ:St) (H:Hp) (Q:Bool->Hp->Prop),Inv X pins σ H s->t σ H Q->wpAny (model X.prog X.w) X.A (isTrue e X.env whole) (TP X pins σ Q) X.xe s
theorem PW.pt {X:Cx}{e:Expr}{t:TT}(h:PW X e t):PT X e t:=h _
def PA (X:Cx)(es:List Expr)(t:TA):Prop:=
 ∀(pos:Pos) (pins:List (Addr×Obj)) (s:Shared) (σ:St) (H:Hp) (Q:List V->Hp->Prop),Inv X pins σ H s->t σ H Q->wpAny (model X.prog X.w) X.A (spliced (backTo pos (Wr es X.env))) (AP X pins σ Q) X.xe s
def PS (X:Cx)(st:Stmt)(t:TS):Prop:=
 ∀(pins:List (Addr×Obj)) (s:Shared) (σ:St) (H:Hp) (D:Ends),Inv X pins σ H s->t D σ H->wpAny (model X.prog X.w) X.A (exec st X.env) (SP X pins D) X.xe s
def PSs (X:Cx)(st:List Stmt)(t:TS):Prop:=
 ∀(pins:List (Addr×Obj)) (s:Shared) (σ:St) (H:Hp) (D:Ends),Inv X pins σ H s->t D σ H->wpAny (model X.prog X.w) X.A (execs st X.env) (SP X pins D) X.xe s
theorem thn {α:Type}{t:Sem α}{Q Q':α->Shared->Prop}{M:Model}{A:Around}{E:Value->Shared->Prop}{s:Shared}(h:wpAny M A t Q E s)(hQ:∀a s,Q a s->Q' a s):wpAny M A t Q' E s:=W0k h hQ λ_ _ x=>x
end L2
namespace L2
open PySem PySem.Spec PyProof.Rows
section
variable {X:Cx}
def Z1w (i:Nat):TE:=λσ H Q=>∃v,σ[i]? = some (some v)/\Q v H
def tC (v:V):TE:=λ_ H Q=>Q v H
theorem Dw {i:Nat}{x:Str}{pos:Pos}(hN:X.N[i]? = some x)(hv:Vis X.env.scope x)(hd:(x == ("__debug__" : Str))=false:=by decide)(hcd:(x == ("__classdict__" : Str))=false:=by decide):PE X (.Name x pos) (Z1w i):=by
 intro pins s σ H Q I h;obtain⟨v,e,h⟩:=h
 obtain⟨m,hn,hl⟩:=I.loc
 obtain⟨u,r,l⟩:=hl i x v hN e hv
 have fin:EP X pins σ Q u s:=⟨v,H,I,r,h⟩
 rcases l with ⟨hk,hm⟩|⟨hk,c,hc,hcell⟩
 ·exact wpAny_Name (wpAny_loadName_local I.ok.kind hk hn hm fin) hd
 ·rcases hk with hk|hk
  ·exact wpAny_Name (wpAny_loadName_cell I.ok.kind hk hc hcell fin) hd
  ·exact wpAny_Name (wpAny_loadName_free I.ok.kind hk hc hcell fin hcd) hd
theorem DC {i j pos}:PE X (.Constant (.int i) j pos) (tC (.int i)):=λ_ _ _ H _ I h=>wpAny_Constant_int ⟨.int i,H,I.tok _,⟨_,rfl⟩,h⟩
theorem Z0J {b j pos}:PE X (.Constant (.bool b) j pos) (tC (.bl b)):=λ_ _ _ H _ I h=>Constant_bool ⟨.bl b,H,I,rfl,h⟩
theorem DA {j pos}:PE X (.Constant .none j pos) (tC .non):=λ_ _ _ H _ I h=>Constant_none ⟨.non,H,I,rfl,h⟩
theorem Dx {x j pos}:PE X (.Constant (.str x) j pos) (tC (.str x)):=λ_ _ _ H _ I h=>Calls.Constant_str ⟨.str x,H,I.tok _,⟨_,rfl⟩,h⟩
def Gl (X:Cx)(x:Str):Prop:=X.env.kindOf x=some .globalImplicit
theorem PN {E:Value->Shared->Prop}{pins:List (Addr×Obj)}{s:Shared}{σ:St}{H:Hp}{x:Str}{u:Value}{pos:Pos}{Q:Value->Shared->Prop}(I:Inv X pins σ H s)(hg:Gl X x)(hm:X.mg x=some u)(h:Q u s)
  (hd:(x == ("__debug__" : Str))=false:=by decide):wpAny (model X.prog X.w) X.A (eval (.Name x pos) X.env) Q E s:=
 W2i I.ok.kind hg (Calls.loadGlobal_global (by rw [I.ok.glob];exact I.mod.glob.keeps I.bk) hm h) hd
theorem U1 {E:Value->Shared->Prop}{pins:List (Addr×Obj)}{s:Shared}{σ:St}{H:Hp}{x:Str}{u:Value}{pos:Pos}{Q:Value->Shared->Prop}(I:Inv X pins σ H s)(hg:Gl X x)(hm:X.mg x=none)(hv:WK x=some u)(h:Q u s)
  (hn:x≠"__name__":=by decide) (hd:(x == ("__debug__" : Str))=false:=by decide):wpAny (model X.prog X.w) X.A (eval (.Name x pos) X.env) Q E s:=by
 obtain⟨mb,h1,h2⟩:=I.mod.blt
 exact W2i I.ok.kind hg (Calls.loadGlobal_builtin (by rw [I.ok.glob];exact I.mod.glob.keeps I.bk) hm (by rw [I.ok.blt];exact h1.keeps I.bk) ((h2 x hn).trans hv) h) hd
theorem NP {x:Str}{v:V}{u:Value}{pos:Pos}(hg:Gl X x)(hm:X.mg x=none)(hv:WK x=some u)(r:ZC v u)(hn:x≠"__name__":=by decide)(hd:(x == ("__debug__" : Str))=false:=by decide):PE X (.Name x pos) (tC v):=
 λ_ _ _ H _ I h=>U1 I hg hm hv ⟨v,H,I,r,h⟩ hn hd
variable {a b:Expr} {ta tb:TE} {pos:Pos}
variable {tA tB':TT} {Qn:List Expr}
def tOr (t u:TT):TT:=λσ H Q=>t σ H λc H1=>if c=true then Q true H1 else u σ H1 Q
def Z2f (t:TT):TT:=λσ H Q=>t σ H λc H1=>Q (!c) H1
theorem Dg (ha:PT X a tA):PW X (.BoolOp .Or [a] pos) tA:=by
 intro wh pins s σ H Q I h;refine isTrue_or (thn (ha pins s σ H Q I h) λc s1 e=>?_)
 cases c with
 |false=>exact isTrue_or_nil e
 |true=>exact e
theorem Z0F (ha:PT X a tA)(hb:PW X (.BoolOp .Or (b :: Qn) pos) tB'):PW X (.BoolOp .Or (a :: b :: Qn) pos) (tOr tA tB'):=by
 intro wh pins s σ H Q I h;refine isTrue_or (thn (ha pins s σ H _ I h) λc s1 ⟨H1,I1,q1⟩=>?_)
 cases c with
 |true=>exact⟨H1,I1,q1⟩
 |false=>exact hb wh pins s1 σ H1 Q I1 q1
theorem Dk (ha:PT X a tA):PT X (.UnaryOp .Not a pos) (Z2f tA):=by
 intro pins s σ H Q I h;exact isTrue_not (ha pins s σ H (λc H1=>Q (!c) H1) I h)
theorem Dz {op}{t:TE}(h:PE X a t):PE X (.BoolOp op [a] pos) t:=λpins s σ H Q I hw=>BoolOp_one (h pins s σ H Q I hw)
def tIf (t:TT)(ta tb:TE):TE:=λσ H Q=>t σ H λc H1=>if c=true then ta σ H1 Q else tb σ H1 Q
theorem A7 {c:Expr}(hc:PT X c tA)(ha:PE X a ta)(hb:PE X b tb):PE X (.IfExp c a b pos) (tIf tA ta tb):=by
 intro pins s σ H Q I h;refine wpAny_IfExp (thn (hc pins s σ H _ I h) λd s1 ⟨H1,I1,q1⟩=>?_)
 cases d with
 |true=>exact ha pins s1 σ H1 Q I1 q1
 |false=>exact hb pins s1 σ H1 Q I1 q1
end
end L2
namespace L2
open PySem PySem.Spec PyProof.Rows
def SqL (K:W8)(H:Hp)(a:Addr)(xs:List V):Prop:=
 Rd H a (.lst xs)\/
  ∃(o:Obj) (its:Array Value) (n:Nat),K.lookup a=some o/\o.cls = .type "list"/\o.dict=none/\o.data = .seq its n/\its.size<=Wk/\ZZ xs its.toList
def SqT (K:W8)(H:Hp)(a:Addr)(xs:List V):Prop:=
 Rd H a (.tup xs)\/
  ∃(o:Obj) (its:Array Value) (n:Nat),K.lookup a=some o/\o.cls = .type "tuple"/\o.data = .seq its n/\its.size<=Wk/\ZZ xs its.toList
def Z3a:Value->Option V
 | .none=>some .non
 | .bool b=>some (.bl b)
 | .int i _=>some (.int i)
 | .str x _=>some (.str x)
 | .bytes b _=>some (.byt b)
 | .float b _=>some (.flt b)
 | .ref a=>some (.ref a)
 | .type n=>some (.ty n)
 |_=>none
theorem ZC.abs {x:V}{u:Value}(r:ZC x u):Z3a u=some x:=by
 cases x with
 |non=>cases r;rfl
 |bl _=>cases r;rfl
 |int _=>obtain⟨t,rfl⟩:=r;rfl
 |str _=>obtain⟨t,rfl⟩:=r;rfl
 |byt _=>obtain⟨t,rfl⟩:=r;rfl
 |flt _=>obtain⟨t,rfl⟩:=r;rfl
 |ref _=>cases r;rfl
 |ty _=>cases r;rfl
theorem ZC.inj {x y:V}{u:Value}(r:ZC x u)(q:ZC y u):x=y:=WW (r.abs.symm.trans q.abs)
theorem ZZ.inj:∀{xs ys:List V} {us:List Value},ZZ xs us->ZZ ys us->xs=ys
 |_,_,_,.nil,.nil=>rfl
 |_,_,_,.cons r t,.cons r' t'=>by rw [r.inj r',ZZ.inj t t']
section
variable {X:Cx} {pins:List (Addr×Obj)} {σ:St} {H:Hp} {s:Shared} {a:Addr} {xs ys:List V}
theorem SqL.of {K:W8}(h:H a=some (.lst xs)):SqL K H a xs:=.inl (.inl h)
theorem SqT.of {K:W8}(h:H a=some (.tup xs)):SqT K H a xs:=.inl (.inl h)
theorem Inv.list (I:Inv X pins σ H s)(h:SqL X.K H a xs):∃its:List Value,ZZ xs its/\PlainL s.heap a its.toArray/\xs.length<=Wk:=by
 rcases h with h|⟨o,its,n,hk,hc,hd,hs,hz,r⟩
 ·obtain⟨z,its,n,r,e⟩:=h.ok I.hok
  exact⟨its,r,⟨_,n,e,rfl,rfl,rfl⟩,z⟩
 ·refine⟨its.toList,r,⟨o,n,I.kIn a o hk,hc,hd,by simpa using hs⟩,?_⟩
  have e:=r.length
  simp only [WF] at e
  omega
theorem Inv.tuple (I:Inv X pins σ H s)(h:SqT X.K H a xs):∃its:List Value,ZZ xs its/\IsTup s.heap a its.toArray/\xs.length<=Wk:=by
 rcases h with h|⟨o,its,n,hk,hc,hs,hz,r⟩
 ·obtain⟨z,its,r,p⟩:=h.ok I.hok
  exact⟨its,r,p.1,z⟩
 ·refine⟨its.toList,r,⟨o,I.kIn a o hk,hc,n,by simpa using hs⟩,?_⟩
  have e:=r.length
  simp only [WF] at e
  omega
theorem Inv.list_inj (I:Inv X pins σ H s)(h:SqL X.K H a xs)(h':SqL X.K H a ys):xs=ys:=by
 obtain⟨its,r,⟨o,n,e,_,_,d⟩,_⟩:=I.list h
 obtain⟨its',r',⟨o',n',e',_,_,d'⟩,_⟩:=I.list h'
 rw [e] at e';cases e'
 rw [d] at d'
 injection d' with d1 _
 have:its=its':=by simpa using congrArg Array.toList d1
 subst this;exact r.inj r'
theorem Inv.tuple_inj (I:Inv X pins σ H s)(h:SqT X.K H a xs)(h':SqT X.K H a ys):xs=ys:=by
 obtain⟨its,r,⟨o,e,_,n,d⟩,_⟩:=I.tuple h
 obtain⟨its',r',⟨o',e',_,n',d'⟩,_⟩:=I.tuple h'
 rw [e] at e';cases e'
 rw [d] at d'
 injection d' with d1 _
 have:its=its':=by simpa using congrArg Array.toList d1
 subst this;exact r.inj r'
end
abbrev Cx.wish (X:Cx)(E:Value->Shared->Prop):Cx:={ X with xe:=E }
abbrev Cx.nox (X:Cx):Cx:=X.wish λ_ _=>False
theorem Cx.Ok.wish {X:Cx}(ok:X.Ok)(E:Value->Shared->Prop):(X.wish E).Ok:=
 ⟨ok.mod,ok.kind,ok.glob,ok.blt,ok.above,ok.inj,ok.has,ok.cab,ok.hd,ok.frames,ok.stk,ok.exf,ok.bs,ok.bsz,ok.noex,ok.exfs,ok.funs,ok.frf⟩
theorem Cx.Ok.unwish {X:Cx}{E:Value->Shared->Prop}(ok:(X.wish E).Ok):X.Ok:=
 ⟨ok.mod,ok.kind,ok.glob,ok.blt,ok.above,ok.inj,ok.has,ok.cab,ok.hd,ok.frames,ok.stk,ok.exf,ok.bs,ok.bsz,ok.noex,ok.exfs,ok.funs,ok.frf⟩
section
variable {X:Cx} {pins:List (Addr×Obj)} {σ:St} {H:Hp} {s:Shared} {E:Value->Shared->Prop}
theorem Inv.wish (I:Inv X pins σ H s)(E:Value->Shared->Prop):Inv (X.wish E) pins σ H s:=⟨I.ok.wish E,I.os,I.bare,I.base,I.loc,I.cell,I.free,I.freeC,I.pin,I.hok,I.len⟩
theorem Inv.unwish (I:Inv (X.wish E) pins σ H s):Inv X pins σ H s:=⟨I.ok.unwish,I.os,I.bare,I.base,I.loc,I.cell,I.free,I.freeC,I.pin,I.hok,I.len⟩
theorem SP.unwish {D:Ends}{f:Flow}{s':Shared}(h:SP (X.wish E) pins D f s'):SP X pins D f s':=by
 cases f with
 |next=>obtain⟨σ',H',I,q⟩:=h;exact⟨σ',H',I.unwish,q⟩
 |brk=>obtain⟨σ',H',I,q⟩:=h;exact⟨σ',H',I.unwish,q⟩
 |cont=>obtain⟨σ',H',I,q⟩:=h;exact⟨σ',H',I.unwish,q⟩
 |ret u=>obtain⟨v,σ',H',I,r,q⟩:=h;exact⟨v,σ',H',I.unwish,r,q⟩
theorem PSs.nox {st:List Stmt}{t:TS}(h:PSs X.nox st t):PSs X st t:=λpins s σ H D I hw=>
 W0k (h pins s σ H D (I.wish _) hw) (λ_ _ q=>q.unwish) λ_ _ z=>False.elim z
end
section
variable {X:Cx} {st:Stmt} {Qn:List Stmt} {t u:TS} {e:Expr} {te:TE} {pos:Pos}
def Z0a:TS:=λD σ H=>D.nx σ H
def Z2d (t u:TS):TS:=λD σ H=>t { D with nx:=u D } σ H
theorem HW:PSs X [] Z0a:=λ_ _ σ H _ I h=>wpAny_execs_nil ⟨σ,H,I,h⟩
theorem A3 (h1:PS X st t)(h2:PSs X Qn u):PSs X (st :: Qn) (Z2d t u):=by
 intro pins s σ H D I h;refine wpAny_execs_cons (thn (h1 pins s σ H { D with nx:=u D } I h) λf s1 q=>?_)
 cases f with
 |next=>
  obtain⟨σ',H',I',q⟩:=q
  exact h2 pins s1 σ' H' D I' q
 |ret v=>exact q
 |brk=>exact q
 |cont=>exact q
theorem HV (h1:PS X st t):PSs X [st] t:=by
 intro pins s σ H D I h;refine wpAny_execs_cons (thn (h1 pins s σ H D I h) λf s1 q=>?_)
 cases f with
 |next=>exact wpAny_execs_nil q
 |ret v=>exact q
 |brk=>exact q
 |cont=>exact q
theorem Inv.quiet {pins:List (Addr×Obj)}{σ:St}{H:Hp}{s:Shared}(I:Inv X pins σ H s):interactive X.env=false:=by simp [interactive,I.ok.kind]
def Z0c (te:TE):TS:=λD σ H=>te σ H λ_ H1=>D.nx σ H1
theorem HY (he:PE X e te)(hs:swapsWith e none pos.line X.env=pure false:=by rfl):PS X (.Expr e pos) (Z0c te):=by
 intro pins s σ H D I h;exact wpAny_Expr_any (thn (he pins s σ H _ I h) λv s1 ⟨x,H1,I1,r1,q1⟩=>⟨σ,H1,I1,q1⟩) I.quiet hs
def Z2e (te:TE):TS:=λD σ H=>te σ H D.rt
theorem Dn (he:PE X e te):PS X (.Return (some e) pos) (Z2e te):=by
 intro pins s σ H D I h;exact wpAny_Return_some (thn (he pins s σ H _ I h) λv s1 ⟨x,H1,I1,r1,q1⟩=>⟨x,σ,H1,I1,r1,q1⟩)
def Z2h (c:TT)(t u:TS):TS:=λD σ H=>c σ H λb H1=>if b=true then t D σ H1 else u D σ H1
theorem Z0G {c:Expr}{a b:List Stmt}{tc:TT}(hc:PT X c tc)(ha:PSs X a t)(hb:PSs X b u):PS X (.If c a b pos) (Z2h tc t u):=by
 intro pins s σ H D I h;refine wpAny_If (thn (hc pins s σ H _ I h) λd s1 ⟨H1,I1,q1⟩=>?_)
 cases d with
 |true=>exact ha pins s1 σ H1 D I1 q1
 |false=>exact hb pins s1 σ H1 D I1 q1
end
abbrev TG:=V->St->Hp->(St->Hp->Prop)->Prop
abbrev TGs:=List V->St->Hp->(St->Hp->Prop)->Prop
def PG (X:Cx)(target:Expr)(t:TG):Prop:=
 ∀(pins:List (Addr×Obj)) (s:Shared) (σ:St) (H:Hp) (v:V) (u:Value) (Q:St->Hp->Prop),Inv X pins σ H s->ZC v u->t v σ H Q->
  wpAny (model X.prog X.w) X.A (assign target X.env u) (λ_ s'=>∃σ' H',Inv X pins σ' H' s'/\Q σ' H') X.xe s
def PGs (X:Cx)(ts:List Expr)(t:TGs):Prop:=
 ∀(pins:List (Addr×Obj)) (s:Shared) (σ:St) (H:Hp) (vs:List V) (us:List Value) (Q:St->Hp->Prop),Inv X pins σ H s->ZZ vs us->t vs σ H Q->
  wpAny (model X.prog X.w) X.A (assignInOrder ((assignEach ts X.env).map (·.2)) us) (λ_ s'=>∃σ' H',Inv X pins σ' H' s'/\Q σ' H') X.xe s
abbrev Z06:=V->V->V->Hp->(Hp->Prop)->Prop
def Hm (X:Cx)(t:Z06):Prop:=
 ∀(pins:List (Addr×Obj)) (s:Shared) (σ:St) (H:Hp) (o i v:V) (ov iv u:Value) (Q:Hp->Prop),Inv X pins σ H s->ZC o ov->ZC i iv->ZC v u->t o i v H Q->
  wpAny (model X.prog X.w) X.A (setItem ov iv u) (λ_ s'=>∃H',Inv X pins σ H' s'/\Q H') X.xe s
section
variable {X:Cx} {pos:Pos}
def Md (i:Nat):TG:=λv σ H Q=>Q (σ.set i (some v)) H
theorem Zq {i:Nat}{x:Str}(hN:X.N.Nodup)(hi:X.N[i]? = some x)(hx:Loc X.env.scope x)(hf:X.fn x=true\/X.env.scope.names.lookup x=some .local:=by first|exact .inl rfl|exact .inr rfl|assumption):PG X (.Name x pos) (Md i):=by
 intro pins s σ H v u Q I r h;exact wpAny_assign_Name (Mw I hN hi hx r (λs' I'=>⟨_,H,I',h⟩) hf)
def Xd:TGs:=λvs σ H Q=>vs=[]/\Q σ H
def LI (t:TG)(u:TGs):TGs:=λvs σ H Q=>∃v r,vs=v :: r/\t v σ H λσ' H'=>u r σ' H' Q
theorem GW:PGs X [] Xd:=by
 intro pins s σ H vs us Q I r h;obtain⟨e,h⟩:=h
 subst e;cases r;exact assignInOrder_nil ⟨σ,H,I,h⟩
theorem Qt {e:Expr}{es:List Expr}{t:TG}{u:TGs}(h1:PG X e t)(h2:PGs X es u)
  (hs:(assignEach (e :: es) X.env).map (·.2)=assign e X.env :: (assignEach es X.env).map (·.2):=by rfl):PGs X (e :: es) (LI t u):=by
 intro pins s σ H vs us Q I r h;obtain⟨v,vr,e1,h⟩:=h
 subst e1;cases r with
 |cons r rr=>
  rw [hs];refine assignInOrder_cons (thn (h1 pins s σ H _ _ _ I r h) λ_ s1 ⟨σ1,H1,I1,q1⟩=>?_)
  exact h2 pins s1 σ1 H1 _ _ Q I1 rr q1
def Z1i (K:W8)(n:Nat)(t:TGs):TG:=λv σ H Q=>∃a xs,v = .ref a/\SqT K H a xs/\xs.length=n/\t xs σ H Q
theorem MN {es:List Expr}{k:Nat}{t:TGs}{n:Nat}(hc:X.calm=true)(h:PGs X es t)
  (hn:(assignEach es X.env).length=n:=by rfl) (hst:(assignEach es X.env).findIdx? (·.1)=none:=by rfl):PG X (.Tuple es k pos) (Z1i X.K n t):=by
 intro pins s σ H v u Q I r hw;obtain⟨a,xs,e1,hq,hl,hw⟩:=hw
 subst e1;cases r;obtain⟨its,rv,ht,hz⟩:=I.tuple hq
 refine assign_Tuple_tuple (I.ok.hd hc) ht (by simp [hn,<-hl,rv.length]) hst λh' hx=>?_
 have I1:Inv X pins σ H { s with heap:=h' }:=I.kept (t':=s.toks) λb o e=>hx b o (WG (Wt e)) e
 exact h pins _ σ H xs _ Q I1 (by simpa using rv) hw
def Z1U (to ti:TE)(t:Z06):TG:=λv σ H Q=>to σ H λo H1=>ti σ H1 λi H2=>t o i v H2 λH3=>Q σ H3
theorem Dt {o i:Expr}{to ti:TE}{t:Z06}(ho:PE X o to)(hi:PE X i ti)(hs:Hm X t)
  (ha:∀v,assign (.Subscript o i pos) X.env v=(do
   let ov <-holding [v] (eval o X.env)
   let iv <-holding [v,ov] (eval i X.env)
   standAt pos
   holding [v,ov,iv] (setItem ov iv v)
   release [v,ov,iv] []):=by intro _;rfl):PG X (.Subscript o i pos) (Z1U to ti t):=by
 intro pins s σ H v u Q I r h;rw [ha];refine W0 (VD (thn (ho pins s σ H _ I h) λov s1 ⟨x,H1,I1,r1,q1⟩=>?_))
 refine W0 (VD (thn (hi pins s1 σ H1 _ I1 q1) λiv s2 ⟨y,H2,I2,r2,q2⟩=>?_))
 refine W0 (wpAny_standAt (W0 (VD (thn (hs pins s2 σ H2 x y v ov iv u _ I2 r1 r2 r q2) λ_ s3 ⟨H3,I3,q3⟩=>?_))))
 exact wpAny_release ⟨σ,H3,I3,q3⟩
def Z00 (te:TE)(g:TG):TS:=λD σ H=>te σ H λx H1=>g x σ H1 D.nx
theorem Eh {tg e:Expr}{te:TE}{g:TG}(he:PE X e te)(hg:PG X tg g)(hs:swapsWithSole [tg] e pos.line X.env=pure false:=by rfl)(hw:swappedStores [tg] e X.env=pure none:=by rfl)
  (h1:(assignEach [tg] X.env).map (·.2)=[assign tg X.env]:=by rfl):PS X (.Assign [tg] e pos) (Z00 te g):=by
 intro pins s σ H D I h;refine wpAny_Assign_stores (thn (he pins s σ H _ I h) λv s1 ⟨x,H1,I1,r1,q1⟩=>?_) hs hw
 rw [h1];exact thn (hg pins s1 σ H1 x v _ I1 r1 q1) λ_ s2 q=>q
theorem Dm {i:Nat}{x:Str}{e:Expr}{te:TE}{pos':Pos}(hN:X.N.Nodup)(hi:X.N[i]? = some x)(hx:Loc X.env.scope x)(he:PE X e te)(hs:swapsWith e (some (.Name x pos')) pos.line X.env=pure false:=by rfl)(hf:X.fn x=true\/X.env.scope.names.lookup x=some .local:=by first|exact .inl rfl|exact .inr rfl|assumption) :
  PS X (.Assign [.Name x pos'] e pos) (Z00 te (Md i)):=by
 intro pins s σ H D I h;refine wpAny_Assign_Name (thn (he pins s σ H _ I h) λv s1 ⟨y,H1,I1,r1,q1⟩=>?_) hs
 exact Mw I1 hN hi hx r1 (λs2 I2=>⟨_,H1,I2,q1⟩) hf
end
section
variable {X:Cx} {pos:Pos}
end
structure It where
 go:Nat->Hp->Prop
 yld:Nat->Hp->V->Hp->Prop
 stop:Nat->Hp->Prop
def Rp (X:Cx)(pins:List (Addr×Obj))(H:Hp)(b:Addr):Prop:=
 H b=none/\b≠X.env.locals/\b∉X.fs/\(b∈X.ex\/X.s₀.heap.objs.size<=b)/\(∀x c,X.env.cells.lookup x=some c->c≠b)/\∀p∈X.pn++pins,p.1≠b
theorem Inv.fpOk {X:Cx}{pins:List (Addr×Obj)}{σ:St}{H H':Hp}{s:Shared}{b:Addr}(I:Inv X pins σ H s)(hb:s.heap.objs.size<=b)(hn:H' b=none):Rp X pins H' b:=by
 refine⟨hn,W1l (WR I.lt hb),I.nofs hb,.inr (V7 I.sz hb),λx c e z=>?_,λp hp z=>?_⟩
 ·obtain⟨v,q⟩:=I.cell x c e
  exact absurd (WR q.lt (by rw [z];exact hb)) (VC _)
 ·exact absurd (WR (Wt (I.pin p hp).1) (by rw [z];exact hb)) (VC _)
structure Turn (P:Program) (w:World) (K:W8) (tg:Expr) (J:It) (fp:List Addr) (it:Addr) (tn:Nat->Heap->Prop):Prop where
 mem:it∈fp
 obj:∀i h,tn i h->∀b∈fp,∃o,h.get? b=some o/\∀v,o.data≠.cell v
 keep:∀i h h',tn i h->(∀b∈fp,∀o,h.get? b=some o->h'.get? b=some o)->tn i h'
 item:∀(X:Cx),X.prog=P->X.w=w->X.K=K->X.calm=true->∀(i:Nat) (pins:List (Addr×Obj)) (s:Shared) (σ:St) (H:Hp) (E:Value->Shared->Prop),Inv X pins σ H s->(∀b∈fp,Rp X pins H b)->tn i s.heap->J.go i H->
  wpAny (model P w) X.A (pyNext (.ref it)) (λr s1=>∃u,r=some u/\
   wpAny (model P w) X.A (letOwnedTupleGo tg (.ref it) u) (λ_ s2=>∃x H',Inv X pins σ H' s2/\ZC x u/\J.yld i H x H'/\tn (i+1) s2.heap/\∀b∈fp,H' b=none) E s1) E s
 done:∀(X:Cx),X.prog=P->X.w=w->X.K=K->X.calm=true->∀(i:Nat) (pins:List (Addr×Obj)) (s:Shared) (σ:St) (H:Hp) (E:Value->Shared->Prop),Inv X pins σ H s->(∀b∈fp,Rp X pins H b)->tn i s.heap->J.stop i H->
  wpAny (model P w) X.A (pyNext (.ref it)) (λr s1=>r=none/\Inv X pins σ H s1) E s
 self:∀(A:Around) (i:Nat) (s:Shared) (Q:Value->Shared->Prop) (E:Value->Shared->Prop),tn i s.heap->Q (.ref it) s->wpAny (model P w) A (pyIter (.ref it)) Q E s
abbrev TI:=St->Hp->(It->Hp->Prop)->Prop
def PIE (X:Cx)(pins:List (Addr×Obj))(σ:St)(tg:Expr)(R:It->Hp->Prop)(itv:Value)(s2:Shared):Prop:=
 ∃(it:Addr) (fp:List Addr) (tn:Nat->Heap->Prop) (J:It) (H':Hp),itv = .ref it/\Inv X pins σ H' s2/\Turn X.prog X.w X.K tg J fp it tn/\tn 0 s2.heap/\(∀b∈fp,Rp X pins H' b)/\R J H'
def PI (X:Cx)(tg iter:Expr)(wi:TI):Prop:=
 ∀(pins:List (Addr×Obj)) (s:Shared) (σ:St) (H:Hp) (R:It->Hp->Prop),Inv X pins σ H s->wi σ H R->
  wpAny (model X.prog X.w) X.A (eval iter X.env) (λv s1=>wpAny (model X.prog X.w) X.A (pyIter v) (PIE X pins σ tg R) X.xe s1) X.xe s
theorem AD {M:Model}{A:Around}{E:Value->Shared->Prop}{s:Shared}{tg:Expr}{it:Addr}{u:Value}{o:Obj}{n:String}{vs:Array Value}{Q:Unit->Shared->Prop}(ho:s.heap.get? it=some o)(hc:o.cls = .type n)(hd:o.data = .fields vs)
  (hn:["enumerate", "zip", "dict_itemiterator", "dict_reverseitemiterator", "odict_iterator", "itertools.zip_longest", "itertools.pairwise"].contains n=false) (hQ:Q () s):wpAny M A (letOwnedTupleGo tg (.ref it) u) Q E s:=by
 unfold letOwnedTupleGo;cases tg<;>first
  |exact Wd hQ
  | (cases u<;>first
     |exact Wd hQ
     | (refine W0 (wpAny_load ho ?_)
        rw [hc,hd];show wpAny M A (if (["enumerate", "zip", "dict_itemiterator", "dict_reverseitemiterator", "odict_iterator", "itertools.zip_longest", "itertools.pairwise"].contains n&&vs[0]? == some (rawInt _))=true then _ else _) Q E s
        rw [if_neg (by intro h;rw [hn,Bool.false_and] at h;cases h)]
        exact Wd hQ))
def Itl (K:W8)(a:Addr):It:=
 ⟨λi H=>∃xs x,SqL K H a xs/\xs[i]? = some x,λi H x H'=>H'=H/\∀xs,SqL K H a xs->xs[i]? = some x,λi H=>∃xs,SqL K H a xs/\xs.length<=i⟩
def Itt (K:W8)(a:Addr):It:=
 ⟨λi H=>∃xs x,SqT K H a xs/\xs[i]? = some x,λi H x H'=>H'=H/\∀xs,SqT K H a xs->xs[i]? = some x,λi H=>∃xs,SqT K H a xs/\xs.length<=i⟩
def Itr (lo:Int)(n:Nat):It:=⟨λi _=>i<n,λi H x H'=>H'=H/\x = .int (lo+i),λi _=>n<=i⟩
theorem RB {P:Program}{w:World}{K:W8}{tg:Expr}(a it:Addr):Turn P w K tg (Itl K a) [it] it (λi h=>h.IsListIter it a i) where
 mem:=by simp
 obj:=λi h st b hb=>by
  have e:b=it:=by simpa using hb
  subst e;obtain⟨o,e,c,d⟩:=st
  exact⟨o,e,λv z=>by rw [d] at z;cases z⟩
 keep:=λi h h' st k=>st.at λo e=>k it (by simp) o e
 item:=by
  intro X hP hw hK hc i pins s σ H E I hf st hg;subst hP hw hK;obtain⟨xs,x,hq,hx⟩:=hg
  obtain⟨its,rv,p,hz⟩:=I.list hq
  obtain⟨u,hu,ru⟩:=rv.get hx
  obtain⟨f0,f1,f2,f3,f4,f5⟩:=hf it (by simp)
  refine wpAny_pyNext_list_item st p.isList (x:=u) (by simpa using hu) λh' st' sb=>?_
  have I1:Inv X pins σ H { s with heap:=h' }:=I.turned (t':=s.toks) (λb o hb e=>(sb.2 b hb).trans e) f0 f1 f3 f4 f5
  obtain⟨o,e,c,d⟩:=id st'
  exact⟨u,rfl,AD (s:={ s with heap:=h' }) e c d (by decide) ⟨x,H,I1,ru,⟨rfl,λys hy=>by rw [I.list_inj hy hq];exact hx⟩,st',λb hb=>(hf b hb).1⟩⟩
 done:=by
  intro X hP hw hK hc i pins s σ H E I hf st hg;subst hP hw hK;obtain⟨xs,hq,hx⟩:=hg
  obtain⟨its,rv,p,hz⟩:=I.list hq
  obtain⟨f0,f1,f2,f3,f4,f5⟩:=hf it (by simp)
  have hl:=rv.length
  exact wpAny_pyNext_list_end (I.ok.hd hc) st p.isList (by simp;omega) λh' eb=>⟨rfl,I.turned (t':=s.toks) (λb o hb e=>eb b o hb e) f0 f1 f3 f4 f5⟩
 self:=λ_ _ _ _ _ st h=>wpAny_pyIter_listiter st h
theorem Kv {P:Program}{w:World}{K:W8}{tg:Expr}(a it:Addr):Turn P w K tg (Itt K a) [it] it (λi h=>h.IsTupleIter it a i) where
 mem:=by simp
 obj:=λi h st b hb=>by
  have e:b=it:=by simpa using hb
  subst e;obtain⟨o,e,c,d⟩:=st
  exact⟨o,e,λv z=>by rw [d] at z;cases z⟩
 keep:=λi h h' st k=>st.at λo e=>k it (by simp) o e
 item:=by
  intro X hP hw hK hc i pins s σ H E I hf st hg;subst hP hw hK;obtain⟨xs,x,hq,hx⟩:=hg
  obtain⟨its,rv,p,hz⟩:=I.tuple hq
  obtain⟨u,hu,ru⟩:=rv.get hx
  obtain⟨f0,f1,f2,f3,f4,f5⟩:=hf it (by simp)
  refine wpAny_pyNext_tuple_item st (show s.heap.IsTuple a its.toArray from p) (x:=u) (by simpa using hu) λh' st' sb=>?_
  have I1:Inv X pins σ H { s with heap:=h' }:=I.turned (t':=s.toks) (λb o hb e=>(sb.2 b hb).trans e) f0 f1 f3 f4 f5
  obtain⟨o,e,c,d⟩:=id st'
  exact⟨u,rfl,AD (s:={ s with heap:=h' }) e c d (by decide) ⟨x,H,I1,ru,⟨rfl,λys hy=>by rw [I.tuple_inj hy hq];exact hx⟩,st',λb hb=>(hf b hb).1⟩⟩
 done:=by
  intro X hP hw hK hc i pins s σ H E I hf st hg;subst hP hw hK;obtain⟨xs,hq,hx⟩:=hg
  obtain⟨its,rv,p,hz⟩:=I.tuple hq
  obtain⟨f0,f1,f2,f3,f4,f5⟩:=hf it (by simp)
  have hl:=rv.length
  exact wpAny_pyNext_tuple_end (I.ok.hd hc) st (show s.heap.IsTuple a its.toArray from p) (by simp;omega) λh' eb=>⟨rfl,I.turned (t':=s.toks) (λb o hb e=>eb b o hb e) f0 f1 f3 f4 f5⟩
 self:=λ_ _ _ _ _ st h=>wpAny_pyIter_tupleiter st h
theorem Kw {P:Program}{w:World}{K:W8}{tg:Expr}(it:Addr)(lo:Int)(n:Nat):Turn P w K tg (Itr lo n) [it] it (λi h=>IsRangeIter h it (lo+(i:Nat)*1) ((n:Int)-(i:Nat)) 1) where
 mem:=by simp
 obj:=λi h st b hb=>by
  have e:b=it:=by simpa using hb
  subst e;exact⟨_,st,λv z=>by
   have z':Data.fields _=Data.cell v:=z
   cases z'⟩
 keep:=λi h h' st k=>k it (by simp) _ st
 item:=by
  intro X hP hw hK hc i pins s σ H E I hf st hg;subst hP hw hK;obtain⟨f0,f1,f2,f3,f4,f5⟩:=hf it (by simp)
  have W:=Walks.range (prog:=X.prog) (w:=X.w) (I.ok.hd hc) it lo 1 n
  refine W.item i s _ _ hg st λv h' tk hv st' kk=>?_
  obtain⟨t,rfl⟩:=hv
  have I1:Inv X pins σ H { s with heap:=h',toks:=tk }:=I.turned (λb o hb e=>kk b o (by simpa using hb) e) f0 f1 f3 f4 f5
  refine⟨_,rfl,AD (s:={ s with heap:=h',toks:=tk }) (n:="range_iterator") st' rfl rfl (by decide) ⟨.int (lo+i),H,I1,⟨t,?_⟩,⟨rfl,rfl⟩,st',λb hb=>(hf b hb).1⟩⟩
  rw [Int.mul_one]
 done:=by
  intro X hP hw hK hc i pins s σ H E I hf st hg;subst hP hw hK;obtain⟨f0,f1,f2,f3,f4,f5⟩:=hf it (by simp)
  exact wpAny_pyNext_range_end (I.ok.hd hc) st (by have:n<=i:=hg;omega) λh' eb=>⟨rfl,I.turned (t':=s.toks) (λb o hb e=>eb b o hb e) f0 f1 f3 f4 f5⟩
 self:=λ_ _ _ _ _ st h=>wpAny_pyIter_rangeiter st h
end L2
namespace L2
open PySem PySem.Spec PyProof.Rows
section
variable {X:Cx} {tg:Expr}
theorem FZ {pins:List (Addr×Obj)}{σ:St}{H:Hp}{s:Shared}{R:It->Hp->Prop}{E:Value->Shared->Prop}{lo hi:Int}{t u v:Tok}{tk:Nat}(I:Inv X pins σ H s)(h1 : -(2 ^ 62)<=lo)(h2:lo<2 ^ 62)(h3 : -(2 ^ 62)<=hi)(h4:hi<2 ^ 62)
  (q:R (Itr lo (hi-lo).toNat) H):wpAny (model X.prog X.w) X.A (pyIter (.ref s.heap.objs.size)) (PIE X pins σ tg R) E { s with heap:=s.heap.push { cls:=.type "range",data:=.fields #[.int lo t,.int hi u,.int 1 v] },toks:=tk }:=by
 refine wpAny_pyIter_range (IsRange.new ..) (small_one h1 h2 h3 h4) ?_
 have I1:Inv X pins σ H { s with heap:=s.heap.push { cls:=.type "range",data:=.fields #[.int lo t,.int hi u,.int 1 v] },toks:=tk }:=I.kept λb o e=>Wj _ e
 refine⟨(s.heap.push { cls:=.type "range",data:=.fields #[.int lo t,.int hi u,.int 1 v] }).objs.size,[(s.heap.push { cls:=.type "range",data:=.fields #[.int lo t,.int hi u,.int 1 v] }).objs.size],_,_,H,rfl,
  I1.kept (t':=tk) λb o e=>Wj _ e,Kw _ lo (hi-lo).toNat,?_,λb hb=>?_,q⟩
 ·have e1:lo+((0:Nat):Int)*1=lo:=by simp
  have e2:(((hi-lo).toNat:Nat):Int)-((0:Nat):Int)=Builtin.Range.rangeSize lo hi 1:=by rw [rangeSize_one];split<;>omega
  show IsRangeIter _ _ (lo+((0:Nat):Int)*1) ((((hi-lo).toNat:Nat):Int)-((0:Nat):Int)) 1
  rw [e1,e2];exact Ws _ rfl
 ·have e:b=(s.heap.push { cls:=.type "range",data:=.fields #[.int lo t,.int hi u,.int 1 v] }).objs.size:=by simpa using hb
  subst e;exact I1.fpOk (Wq _) (I1.hok.fresh (Wq _))
def Z1f (ta:TA):TI:=λσ H R=>ta σ H λvs H1=>∃j:Int,vs=[.int j]/\-(2 ^ 62)<=j/\j<2 ^ 62/\R (Itr 0 j.toNat) H1
theorem Pi {a:Expr}{ta:TA}{p pos:Pos}(hg:Gl X "range")(hm:X.mg "range" = none)(ha:PA X [a] ta)(hs:Wr [a] X.env=[(false,eval a X.env)]:=by rfl):PI X tg (.Call (.Name "range" p) [a] [] pos) (Z1f ta):=by
 intro pins s σ H R I h;refine Call_ (U1 I hg hm boot_range (W0t (thn (ha pos pins s σ H _ I h) λus s1 ⟨vs,H1,I1,r1,q1⟩=>?_) hs rfl))
 obtain⟨j,e,q1,q2,q⟩:=q1
 subst e;cases r1 with
 |cons r rr=>
  cases rr;obtain⟨t,rfl⟩:=r
  exact call_range_1 (FZ I1 (by omega) (by omega) q1 q2 (by simpa using q))
def Z2i (wi:TI)(g:TG)(tb:TS):TS:=λD σ H=>wi σ H λJ H1=>∃W:Nat->Nat->St->Hp->Prop,(∃m,W 0 m σ H1)/\∀i m σ H,W i m σ H->
 (J.stop i H/\D.nx σ H)\/(J.go i H/\∃N:St->Hp->Prop,(∀σ' H',N σ' H'->∃m',m'<m/\W (i+1) m' σ' H')/\∀x H',J.yld i H x H'->g x σ H' λσ2 H2=>tb { D with nx:=N,ct:=N,bk:=D.nx } σ2 H2)
def BD (fp:List Addr)(h:Heap):List (Addr×Obj):=fp.filterMap λb=>(h.get? b).map λo=>(b,o)
theorem Jt {fp:List Addr}{h:Heap}{b:Addr}{o:Obj}(hb:b∈fp)(e:h.get? b=some o):(b,o)∈BD fp h:=W1r.mpr ⟨b,hb,by rw [e];rfl⟩
theorem Pq {fp:List Addr}{h:Heap}{p:Addr×Obj}(hp:p∈BD fp h):p.1∈fp/\h.get? p.1=some p.2:=by
 obtain⟨b,hb,e⟩:=W1r.mp hp
 cases q:h.get? b with
 |none=>rw [q] at e;cases e
 |some o=>
  rw [q] at e;have e':(b,o)=p:=WW e
  subst e'
  exact⟨hb,q⟩
theorem Inv.pinned {pins:List (Addr×Obj)}{σ:St}{H:Hp}{s:Shared}{fp:List Addr}(I:Inv X pins σ H s)(hf:∀b∈fp,Rp X pins H b)(ho:∀b∈fp,∃o,s.heap.get? b=some o/\∀v,o.data≠.cell v):Inv X (pins++BD fp s.heap) σ H s:=
 I.pins_of λp hp=>(WH.mp hp).elim (λz=>I.pin p (WO _ z)) λz=>by
  obtain⟨hb,e⟩:=Pq z
  obtain⟨f0,f1,f2,_⟩:=hf p.1 hb
  obtain⟨o,e',d⟩:=ho p.1 hb
  rw [e] at e';cases e'
  exact⟨e,f0,f1,f2,d⟩
theorem Inv.unpinned {pins pl:List (Addr×Obj)}{σ:St}{H:Hp}{s:Shared}(I:Inv X (pins++pl) σ H s):Inv X pins σ H s:=I.pins_of λp hp=>I.pin p (WO _ (Vk _ hp))
theorem Do {iter:Expr}{body:List Stmt}{wi:TI}{g:TG}{tb:TS}{pos:Pos}(hp:PassesOwn (model X.prog X.w) X.A X.env X.xe)(hc:X.calm=true)(hi:PI X tg iter wi)(hg:PG X tg g)(hb:PSs X body tb)
  (hs:∀x,foldedSetIterable iter X.env x=pure x:=by intro _;rfl):PS X (.For tg iter body [] pos) (Z2i wi g tb):=by
 intro pins s σ H D I h;refine wpAny_For (thn (hi pins s σ H _ I h) λv s1 h1=>thn h1 λitv s2 h2=>?_) hs
 obtain⟨it,fp,tn,J,H2,e,I2,T,st2,f2,W,⟨m0,w0⟩,turn⟩:=h2
 subst e
 -- what stays true of the iterator's objects through the loop
 have stat:∀{H':Hp},(∀b∈fp,H' b=none)->∀b∈fp,Rp X pins H' b:=λhn b hb=>⟨hn b hb,(f2 b hb).2⟩
 refine codeAny_forLoop_any (λn s'=>∃i σ' H',Inv X pins σ' H' s'/\tn i s'.heap/\(∀b∈fp,H' b=none)/\W i n σ' H') ?_ m0 ⟨0,σ,H2,I2,st2,λb hb=>(f2 b hb).1,w0⟩
 rintro n s3 ⟨i,σ3,H3,I3,st3,fr3,w3⟩
 rcases turn i n σ3 H3 w3 with ⟨stop,qn⟩|⟨go,N,hN,step⟩
 ·refine W1s hp (thn (T.done X rfl rfl rfl hc i pins s3 σ3 H3 X.xe I3 (stat fr3) st3 stop) λr s4 ⟨hr,I4⟩=>?_)
  subst hr;exact wpAny_execs_nil ⟨σ3,H3,I4,qn⟩
 ·refine W1s hp (thn (T.item X rfl rfl rfl hc i pins s3 σ3 H3 X.xe I3 (stat fr3) st3 go) λr s4 ⟨u,hr,h4⟩=>?_)
  subst hr;refine W1s hp (thn h4 λ_ s5 ⟨x,H5,I5,r5,y5,st5,fr5⟩=>?_)
  have I5':=I5.pinned (stat fr5) (T.obj _ _ st5)
  refine W1s hp (thn (hg _ s5 σ3 H5 x u _ I5' r5 (step x H5 y5)) λ_ s6 ⟨σ6,H6,I6,q6⟩=>?_)
  refine W1s hp (thn (hb _ s6 σ6 H6 _ I6 q6) λf s7 q7=>?_)
  have again:∀{σ7:St} {H7:Hp},Inv X (pins++BD fp s5.heap) σ7 H7 s7->N σ7 H7->∃m,m<n/\∃i σ' H',Inv X pins σ' H' s7/\tn i s7.heap/\(∀b∈fp,H' b=none)/\W i m σ' H':=λ{σ7 H7} I7 n7=>by
   obtain⟨m',hm,w7⟩:=hN σ7 H7 n7
   refine⟨m',hm,i+1,σ7,H7,I7.unpinned,T.keep _ _ _ st5 λb hb o e=>(I7.pin (b,o) (WO _ (WO _ (Jt hb e)))).1,λb hb=>?_,w7⟩
   obtain⟨o,e,d⟩:=T.obj _ _ st5 b hb
   exact (I7.pin (b,o) (WO _ (WO _ (Jt hb e)))).2.1
  cases f with
  |next=>obtain⟨σ7,H7,I7,n7⟩:=q7;exact again I7 n7
  |cont=>obtain⟨σ7,H7,I7,n7⟩:=q7;exact again I7 n7
  |brk=>obtain⟨σ7,H7,I7,q7⟩:=q7;exact⟨σ7,H7,I7.unpinned,q7⟩
  |ret v=>obtain⟨x7,σ7,H7,I7,r7,q7⟩:=q7;exact⟨x7,σ7,H7,I7.unpinned,r7,q7⟩
end
end L2
namespace L2
open PySem PySem.Spec PyProof.Rows
abbrev R2:=V->V->Hp->VK->Prop
def OpR (X:Cx)(f:Value->Value->Sem Value)(r:R2):Prop:=
 ∀(pins:List (Addr×Obj)) (s:Shared) (σ:St) (H:Hp) (x y:V) (v u:Value) (Q:VK),Inv X pins σ H s->ZC x v->ZC y u->r x y H Q->
  wpAny (model X.prog X.w) X.A (f v u) (EP X pins σ Q) X.xe s
def J8 (X:Cx)(f:Value)(r:List V->Hp->VK->Prop):Prop:=
 ∀(pins:List (Addr×Obj)) (s:Shared) (σ:St) (H:Hp) (xs:List V) (us:List Value) (Q:VK),Inv X pins σ H s->ZZ xs us->r xs H Q->
  wpAny (model X.prog X.w) X.A (call f us) (EP X pins σ Q) X.xe s
def Z28 (X:Cx)(r:V->Hp->(Bool->Hp->Prop)->Prop):Prop:=
 ∀(pins:List (Addr×Obj)) (s:Shared) (σ:St) (H:Hp) (x:V) (v:Value) (Q:Bool->Hp->Prop),Inv X pins σ H s->ZC x v->r x H Q->
  wpAny (model X.prog X.w) X.A (truthy v) (TP X pins σ Q) X.xe s
def tOp (r:R2)(ta tb:TE):TE:=λσ H Q=>ta σ H λx H1=>tb σ H1 λy H2=>r x y H2 Q
def rI (C:Int->Int->Prop)(g:Int->Int->V):R2:=λx y H Q=>∃i j,x = .int i/\y = .int j/\C i j/\Q (g i j) H
def rI0 (g:Int->Int->V):R2:=λx y H Q=>∃i j,x = .int i/\y = .int j/\Q (g i j) H
section
variable {X:Cx} {a b c:Expr} {ta tb tc:TE} {pos:Pos}
theorem Z1p (ha:PE X a ta)(hb:PE X b tb){pins:List (Addr×Obj)}{s:Shared}{σ:St}{H:Hp}{R:V->V->Hp->Prop}(I:Inv X pins σ H s)
  (h:ta σ H λx H1=>tb σ H1 λy H2=>R x y H2) {Q:Value->Shared->Prop} {f:Value->Value->Sem Value}
  (hf:∀v u s2 x y H2,Inv X pins σ H2 s2->ZC x v->ZC y u->R x y H2->wpAny (model X.prog X.w) X.A (f v u) Q X.xe s2) :
  wpAny (model X.prog X.w) X.A (eval a X.env) (λv s₁=>wpAny (model X.prog X.w) X.A (eval b X.env) (λu s₂=>wpAny (model X.prog X.w) X.A (f v u) Q X.xe s₂) X.xe s₁) X.xe s:=by
 refine thn (ha pins s σ H _ I h) λv s1 ⟨x,H1,I1,r1,q1⟩=>?_
 refine thn (hb pins s1 σ H1 _ I1 q1) λu s2 ⟨y,H2,I2,r2,q2⟩=>?_
 exact hf v u s2 x y H2 I2 r1 r2 q2
theorem Z0H {op:Operator}{r:R2}(ho:OpR X (binaryOp op) r)(ha:PE X a ta)(hb:PE X b tb):PE X (.BinOp a op b pos) (tOp r ta tb):=by
 intro pins s σ H Q I h;exact wpAny_BinOp (Z1p ha hb I h λv u s2 x y H2 I2 rx ry q=>ho pins s2 σ H2 x y v u Q I2 rx ry q)
theorem opI {f:Value->Value->Sem Value}{C:Int->Int->Prop}{g:Int->Int->Int}
  (rule:∀(i j:Int) (t u:Tok) (s:Shared) (Q:Value->Shared->Prop) (E:Value->Shared->Prop),C i j->Q (.int (g i j) s.toks) { s with toks:=s.toks+1 }->wpAny (model X.prog X.w) X.A (f (.int i t) (.int j u)) Q E s) :
  OpR X f (rI C λi j=>.int (g i j)):=by
 intro pins s σ H x y v u Q I rx ry h;obtain⟨i,j,rfl,rfl,hc,q⟩:=h
 obtain⟨t,rfl⟩:=rx
 obtain⟨t',rfl⟩:=ry
 exact rule i j t t' s _ _ hc ⟨.int (g i j),H,I.tok _,⟨_,rfl⟩,q⟩
theorem Z2w {f:Value->Value->Sem Value}{g:Int->Int->Int}
  (rule:∀(i j:Int) (t u:Tok) (s:Shared) (Q:Value->Shared->Prop) (E:Value->Shared->Prop),Q (.int (g i j) s.toks) { s with toks:=s.toks+1 }->wpAny (model X.prog X.w) X.A (f (.int i t) (.int j u)) Q E s) :
  OpR X f (rI0 λi j=>.int (g i j)):=by
 intro pins s σ H x y v u Q I rx ry h;obtain⟨i,j,rfl,rfl,q⟩:=h
 obtain⟨t,rfl⟩:=rx
 obtain⟨t',rfl⟩:=ry
 exact rule i j t t' s _ _ ⟨.int (g i j),H,I.tok _,⟨_,rfl⟩,q⟩
theorem Z1B {f:Value->Value->Sem Value}{g:Int->Int->Bool}
  (rule:∀(i j:Int) (t u:Tok) (s:Shared) (Q:Value->Shared->Prop) (E:Value->Shared->Prop),Q (.bool (g i j)) s->wpAny (model X.prog X.w) X.A (f (.int i t) (.int j u)) Q E s) :
  OpR X f (rI0 λi j=>.bl (g i j)):=by
 intro pins s σ H x y v u Q I rx ry h;obtain⟨i,j,rfl,rfl,q⟩:=h
 obtain⟨t,rfl⟩:=rx
 obtain⟨t',rfl⟩:=ry
 exact rule i j t t' s _ _ ⟨.bl (g i j),H,I,rfl,q⟩
def Z1v (i j:Int):Prop:=(-(2 ^ 64)<i/\i<2 ^ 64)\/(-(2 ^ 64)<j/\j<2 ^ 64)
theorem Z1v.ok {i j:Int}(h:Z1v i j):IntMulOk i j:=by
 rcases h with ⟨h1,h2⟩|⟨h1,h2⟩
 ·exact .of_left (intBits_le_64 h1 h2)
 ·exact .of_right (intBits_le_64 h1 h2)
theorem DS:OpR X (binaryOp .Add) (rI0 λi j=>.int (i+j)):=Z2w λ_ _ _ _ _ _ _ q=>add_int q
theorem DK:OpR X (binaryOp .Mult) (rI Z1v λi j=>.int (i*j)):=opI λ_ _ _ _ _ _ _ hc q=>mul_int q hc.ok
theorem DM:OpR X (binaryOp .Mod) (rI (λ_ j=>0<j) λi j=>.int (i%j)):=opI λi j _ _ _ _ _ hc q=>by
 have h1:(0:Int)<j:=hc
 exact mod_int' (by omega) (by rw [Int.fmod_eq_emod_of_nonneg i (by omega)];exact q)
end
section
variable {X:Cx} {a b c:Expr} {ta tb tc:TE} {pos:Pos}
theorem Ub {pins:List (Addr×Obj)}{σ:St}{H:Hp}{s:Shared}{Q:VK}{k k':Bool}(I:Inv X pins σ H s)(q:Q (.bl k) H)(e:k=k'):EP X pins σ Q (.bool k') s:=by
 subst e;exact⟨.bl k,H,I,rfl,q⟩
theorem Z0L:OpR X (compareOp .Gt) (rI0 λi j=>.bl (decide (j<i))):=Z1B λ_ _ _ _ _ _ _ q=>gt_int q
theorem Z0M:OpR X (compareOp .GtE) (rI0 λi j=>.bl (decide (j<=i))):=Z1B λ_ _ _ _ _ _ _ q=>ge_int q
theorem DN:OpR X (compareOp .Is) (λx y H Q=>y = .non/\Q (.bl (decide (x = .non))) H):=by
 intro pins s σ H x y v u Q I rx ry h;obtain⟨rfl,q⟩:=h
 cases ry;refine is_none_gen (Ub I q ?_)
 cases x<;>first
  | (cases rx;rfl)
  | (obtain⟨t,rfl⟩:=rx;rfl)
theorem OpR.or {f:Value->Value->Sem Value}{r r':R2}(h:OpR X f r)(h':OpR X f r'):OpR X f (λx y H Q=>r x y H Q\/r' x y H Q):=by
 intro pins s σ H x y v u Q I rx ry q;rcases q with q|q
 ·exact h pins s σ H x y v u Q I rx ry q
 ·exact h' pins s σ H x y v u Q I rx ry q
theorem Y9 (b:Expr){op:CmpOp}(h:op≠.In:=by decide)(h2:op≠.NotIn:=by decide):behindInMarks op b=false:=by
 have e1:(op == CmpOp.In)=false:=by cases op<;>first|rfl|exact absurd rfl h
 have e2:(op == CmpOp.NotIn)=false:=by cases op<;>first|rfl|exact absurd rfl h2
 cases b<;>simp [behindInMarks,e1,e2]
theorem Sa {op:CmpOp}{r:R2}(ho:OpR X (compareOp op) r)(ha:PE X a ta)(hb:PE X b tb)(hm:behindInMarks op b=false):PE X (.Compare a [op] [b] pos) (tOp r ta tb):=by
 intro pins s σ H Q I h;exact wpAny_Compare1 (Z1p ha hb I h λv u s2 x y H2 I2 rx ry q=>ho pins s2 σ H2 x y v u Q I2 rx ry q) hm
def IX (t:TE):TT:=λσ H Q=>t σ H λx H'=>∃k,x = .bl k/\Q k H'
theorem HU {op:CmpOp}{r:R2}(ho:OpR X (compareOp op) r)(ha:PE X a ta)(hb:PE X b tb)(hm:behindInMarks op b=false):PT X (.Compare a [op] [b] pos) (IX (tOp r ta tb)):=by
 intro pins s σ H Q I h;refine wpAny_isTrue_Compare1 (thn (ha pins s σ H _ I h) λv s1 ⟨x,H1,I1,r1,q1⟩=>thn (hb pins s1 σ H1 _ I1 q1) λu s2 ⟨y,H2,I2,r2,q2⟩=>
  thn (ho pins s2 σ H2 x y v u _ I2 r1 r2 q2) λc s3 ⟨z,H3,I3,r3,k,e,q3⟩=>?_) hm
 subst e;cases r3;exact W1I ⟨H3,I3,q3⟩
def Z27 (K:W8)(x:V)(H:Hp)(k:Bool):Prop:=
 match x with
 | .non=>k=false
 | .bl b=>k=b
 | .int i=>k=(i != 0)
 | .str y=>y.length<=Wk/\k=((y.length:Int) != 0)
 | .byt y=>y.size<=Wk/\k=((y.size:Int) != 0)
 | .ref p=>(∃xs,SqL K H p xs/\k = !xs.isEmpty)\/(∃xs,SqT K H p xs/\k = !xs.isEmpty)\/∃kvs,H p=some (.dK kvs)/\k = !kvs.isEmpty
 |_=>False
theorem R6 {κ:Type}{kvs:List (κ×V)}{vs:List (κ×Value)}(r:KV kvs vs):(!vs.isEmpty) = !kvs.isEmpty:=by
 cases r<;>rfl
theorem Gs {xs:List V}{its:List Value}(r:ZZ xs its):(!its.toArray.isEmpty) = !xs.isEmpty:=by
 cases r<;>simp
theorem TC:(Wk:Nat)<2 ^ 63:=by rw [W0J];decide
theorem IR:Z28 X (λx H Q=>∃k,Z27 X.K x H k/\Q k H):=by
 intro pins s σ H x v Q I rx h;obtain⟨k,e,q⟩:=h
 have hl:=TC
 have hs:Wk=16777216:=W0J
 cases x with
 |non=>
  cases rx;have e':k=false:=e
  subst e'
  exact truthy_none ⟨H,I,q⟩
 |bl b=>
  cases rx;have e':k=b:=e
  subst e'
  exact W1I ⟨H,I,q⟩
 |int i=>
  obtain⟨t,rfl⟩:=rx
  have e':k=(i != 0):=e
  subst e'
  exact PySem.P.truthy_int ⟨H,I,q⟩
 |str y=>
  obtain⟨t,rfl⟩:=rx
  obtain⟨hy,e'⟩:y.length<=Wk/\k=((y.length:Int) != 0):=e
  subst e'
  exact PySem.P.truthy_str (by omega) ⟨H,I.tok _,q⟩
 |byt y=>
  obtain⟨t,rfl⟩:=rx
  obtain⟨hy,e'⟩:y.size<=Wk/\k=((y.size:Int) != 0):=e
  subst e'
  exact PySem.W.truthy_bytes (by omega) ⟨H,I.tok _,q⟩
 |ref p=>
  cases rx;have e':(∃xs,SqL X.K H p xs/\k = !xs.isEmpty)\/(∃xs,SqT X.K H p xs/\k = !xs.isEmpty)\/∃kvs,H p=some (.dK kvs)/\k = !kvs.isEmpty:=e
  rcases e' with ⟨xs,hx,e'⟩|⟨xs,hx,e'⟩|⟨kvs,hx,e'⟩
  ·subst e'
   obtain⟨its,r,pl,hz⟩:=I.list hx
   have hlen:=r.length
   exact wpAny_truthy_list pl.isList (by simp only [Wo];omega) ⟨H,I.tok _,by rw [Gs r];exact q⟩
  ·subst e'
   obtain⟨its,r,pl,hz⟩:=I.tuple hx
   have hlen:=r.length
   exact truthy_tuple pl (by simp only [Wo];omega) ⟨H,I.tok _,by rw [Gs r];exact q⟩
  ·subst e'
   obtain⟨hz,hS,vs,r,m⟩:kvs.length<=Wk/\(p == sysModules)=false/\∃vs,KV kvs vs/\s.heap.DictOf (ZN X.prog X.w) p vs:=I.hok p _ hx
   have hlen:kvs.length=vs.length:=W0X r
   exact wpAny_truthy_dict hS m (by omega) ⟨H,I.tok _,by rw [R6 r];exact q⟩
 |_=>exact (show False from e).elim
theorem KH:OpR X (binaryOp .Add) (λx y H Q=>∃i j,x = .str i/\y = .str j/\i.length+j.length<=Wk/\Q (.str (i++j)) H):=by
 intro pins s σ H x y v u Q I rx ry h;obtain⟨i,j,rfl,rfl,hz,q⟩:=h
 obtain⟨t,rfl⟩:=rx
 obtain⟨t',rfl⟩:=ry
 exact add_str (λt' tk=>⟨.str (i++j),H,I.tok _,⟨_,rfl⟩,q⟩) hz
theorem UU {x:V}{us:List Value}(r:ZZ [x] us):∃u,us=[u]/\ZC x u:=by
 cases r with
 |cons r1 r2=>cases r2;exact⟨_,rfl,r1⟩
theorem Ku {x y:V}{us:List Value}(r:ZZ [x,y] us):∃u w',us=[u,w']/\ZC x u/\ZC y w':=by
 cases r with
 |cons r1 r2=>
  cases r2 with
  |cons r3 r4=>cases r4;exact⟨_,_,rfl,r1,r3⟩
theorem F1 (hc:X.calm=true):J8 X (.builtin "max") (λxs H Q=>∃i j,xs=[.int i,.int j]/\Q (.int (if j>i then j else i)) H):=by
 intro pins s σ H xs us Q I r h;obtain⟨i,j,rfl,q⟩:=h
 obtain⟨u,w',rfl,⟨t,rfl⟩,⟨t',rfl⟩⟩:=Ku r
 refine max_two_ints (I.ok.hd hc) λh' tk k=>⟨_,H,I.kept k,?_,q⟩
 by_cases hj:j>i
 ·rw [if_pos hj,if_pos hj];exact⟨_,rfl⟩
 ·rw [if_neg hj,if_neg hj];exact⟨_,rfl⟩
end
end L2
namespace L2
open PySem PySem.Spec PyProof.Rows
structure ObjM (h:Heap) (x dx C:Addr) (mA:Str->Option Value):Prop where
 obj:h.get? x=some (W0r C dx)
 ns:h.Ns1 dx mA
 ne:dx≠x
theorem PM {h:Heap}{dx:Addr}{mA:Str->Option Value}(n:h.Ns1 dx mA):∃od,h.get? dx=some od/\∀name,W2r name od=some (mA name):=by
 obtain⟨o,es,ep,ho,hd,hk,_,hm⟩:=n
 refine⟨o,ho,λname=>?_⟩
 have e:=hm name
 unfold nsFind findBy at e;rw [<-Array.find?_toList] at e;unfold W2r;rw [hd];dsimp only;split
 ·rename_i y q
  rw [q] at e;exact congrArg some e
 ·rename_i q
  rw [q] at e;have a:es.toList.any (·.refKey)=false:=by
   rw [List.any_eq_false];intro y hy;obtain⟨z,t,hkey⟩:=hk y (Array.mem_toList_iff.mp hy)
   simp [DictEntry.refKey,hkey]
  have a':¬es.toList.any (·.refKey)=true:=by rw [a];exact Wy
  rw [if_neg a'];exact congrArg some e
theorem ObjM.look {h:Heap}{x dx C:Addr}{mA:Str->Option Value}(I:ObjM h x dx C mA):∃od,PySem.W.InstAt h x (W0r C dx) C (some od)/\∀name,W2r name od=some (mA name):=
 let ⟨od,ho,hl⟩:=PM I.ns
 ⟨od,⟨I.obj,rfl,rfl,ho⟩,hl⟩
section
variable {prog:Program} {w:World} {A:Around} {E:Value->Shared->Prop} {s:Shared} {K:W8} {x dx C f:Addr} {mA:Str->Option Value} {name:Str} {v:Value}
theorem Ia {expr:Bool}{Q:Value->Shared->Prop}(X:K.In s.heap)(I:ObjM s.heap x dx C mA)(hg:W1d K C name=true)(hh:W1J K C=true)
  (ha:V1 K (.ref C) name=some none) (hv:mA name=some v) (hv':PySem.W.handedIn v=true) (h:Q v { s with toks:=s.toks+1 }) :
  wpAny (model prog w) A (getAttr (.ref x) name expr) Q E s:=by
 obtain⟨od,J,hl⟩:=I.look
 exact PySem.W.get_value X J (W27 hg).1 (PySem.W.findObj_own hh ha rfl (by rw [hl,hv])) hv' h
theorem AE {pl:Sem Bool}{Q:Value×List Value->Shared->Prop}(X:K.In s.heap)(I:ObjM s.heap x dx C mA)(hg:W1d K C name=true)
  (hf:V1 K (.ref C) name=some (some (.ref f))) (ht:W0f K (.ref f)=true) (hv:mA name=none) (h:Q (.ref f,[.ref x]) s) :
  wpAny (model prog w) A (getMethod (.ref x) name pl) Q E s:=by
 obtain⟨od,J,hl⟩:=I.look
 exact PySem.W.method_fn X J (W27 hg).1 (W27 hg).2 hf (beq_iff_eq.mp ht) (by show (W2r name od).map (·.isSome)=some false;rw [hl,hv];rfl) h
theorem HE {ns:List Str}{Q:Unit->Shared->Prop}(X:K.In s.heap)(I:ObjM s.heap x dx C mA)
  (hs:V1 K (.ref C) "__setattr__" = some (some (.builtin "object.__setattr__"))) (hp:W2v K C=true) (ht:PySem.W.takerIn K C name=some none) (hh:W1J K C=true)
  (hw:PySem.Within mA ns) (hsz:ns.length<=Wk)
  (h:∀h',ObjM h' x dx C (λy=>if y=name then some v else mA y)->W01 dx s.heap h'->Q () { s with heap:=h',toks:=s.toks+2 }) :
  wpAny (model prog w) A (setAttr (.ref x) name v) Q E s:=by
 obtain⟨od,J,hl⟩:=I.look
 refine PySem.W.set_plain X J hs (PySem.W.osa_open (s:={ s with toks:=s.toks+1 }) (r:=none) X J hp ht λb=>?_)
 obtain⟨cd,hc,hd'⟩:=PySem.W.any_some hh
 have hx:s.heap.get? x=some ⟨.ref C,some dx,.plain,#[]⟩:=I.obj
 refine W0 (Wd (W0 (W0 (wpAny_loadPart hx (W0 (PySem.W.Looks.here (s:={ s with toks:=s.toks+1 }) (PySem.W.looks_clsIn X hc) ?_))))))
 rw [hd'];refine Wd (a:=some dx) (W0 (Wd (W0 ?_)))
 refine wpAny_nsSet1 (s:={ s with toks:=s.toks+1 }) I.ns λh' hn2 hs2=>?_
 obtain⟨oD,esD,epD,hoD,hdD,hcD⟩:=hn2.count (PySem.Within.cons name v hw)
 refine W0 (wpAny_lookBehind hoD (by rw [hdD];exact pastItsLine_dict (V7 hcD (by rw [WS];omega))) ?_)
 exact Wd (h _ ⟨(hs2.2 _ (Ne.symm I.ne)).trans I.obj,hn2,I.ne⟩ hs2)
theorem Af {R:Result->Shared->Prop}{vs:List Value}{kw:List (Str×Value)}(X:K.In s.heap)(hm:PySem.W.makesIn K C=true)
  (hi:V1 K (.ref C) "__init__" = some (some (.ref f))) (hf:PySem.W.typeIn K (.ref f)=some (.type "function"))
  (h:codeAny (model prog w) (A.under (.builtin "type.__call__" ⟨.ref C :: vs,kw⟩)) (.call (.ref f) ⟨.ref (s.heap.objs.size+1) :: vs,kw⟩) (PySem.W.InitBack (s.heap.objs.size+1) R)
   { s with heap:=(s.heap.push W02).push (W0r C s.heap.objs.size) }) :
  codeAny (model prog w) A (.call (.ref C) ⟨vs,kw⟩) R s:=by
 obtain⟨hh,g,d,t,os⟩:=s
 exact PySem.W.make_core (PySem.W.makes_of X hm) (PySem.W.looks_findIn X hi) (λself=>PySem.W.bind_fn X self hf) (.inl rfl) h
end
def Gm (f:Str)(v:V):List (Str×V)->List (Str×V)
 |[]=>[(f,v)]
 | (g,x) :: r=>if g=f then (g,v) :: r else (g,x) :: Gm f v r
theorem TB (f g:Str)(v:V):∀fs:List (Str×V),(Gm f v fs).lookup g=if g=f then some v else fs.lookup g
 |[]=>by
  show W0K g [(f,v)]=_
  by_cases h:g=f
  ·have hb:(g == f)=true:=beq_iff_eq.mpr h
   simp only [W0K,hb,if_pos h]
  ·have hb:(g == f)=false:=beq_eq_false_iff_ne.mpr h
   simp only [W0K,hb,if_neg h]
 | (k,x) :: r=>by
  have ih:=TB f g v r
  rw [show Gm f v ((k,x) :: r)=(if k=f then (k,v) :: r else (k,x) :: Gm f v r) from rfl];by_cases hk:k=f
  ·rw [if_pos hk]
   by_cases h:g=k
   ·have hb:(g == k)=true:=beq_iff_eq.mpr h
    simp only [W0K,hb,if_pos (h.trans hk)]
   ·have hb:(g == k)=false:=beq_eq_false_iff_ne.mpr h
    simp only [W0K,hb,if_neg (λe:g=f=>h (e.trans hk.symm))]
  ·rw [if_neg hk]
   by_cases h:g=k
   ·have hb:(g == k)=true:=beq_iff_eq.mpr h
    simp only [W0K,hb,if_neg (λe:g=f=>hk (h.symm.trans e))]
   ·have hb:(g == k)=false:=beq_eq_false_iff_ne.mpr h
    simp only [W0K,hb]
    exact ih
theorem TF (f:Str)(v:V):∀fs:List (Str×V),f∈(Gm f v fs).map (·.1)/\∀g,g∈fs.map (·.1)->g∈(Gm f v fs).map (·.1)
 |[]=>⟨by simp [Gm],λg h=>by simp at h⟩
 | (k,x) :: r=>by
  obtain⟨i1,i2⟩:=TF f v r
  rw [show Gm f v ((k,x) :: r)=(if k=f then (k,v) :: r else (k,x) :: Gm f v r) from rfl];by_cases hk:k=f
  ·rw [if_pos hk]
   subst hk;exact⟨by simp,λg h=>by simpa using h⟩
  ·rw [if_neg hk]
   refine⟨?_,λg h=>?_⟩
   ·rw [W1]
    exact Wu _ i1
   ·rw [W1] at h ⊢
    rcases Wv.mp h with e|e
    ·exact Wv.mpr (.inl e)
    ·exact Wu _ (i2 g e)
theorem TD (f:Str)(v:V):∀fs:List (Str×V),(Gm f v fs).length<=fs.length+1
 |[]=>by simp [Gm]
 | (k,x) :: r=>by
  have ih:=TD f v r
  rw [show Gm f v ((k,x) :: r)=(if k=f then (k,v) :: r else (k,x) :: Gm f v r) from rfl];by_cases hk:k=f
  ·rw [if_pos hk,WS,WS];omega
  ·rw [if_neg hk,WS,WS];omega
theorem Bp.some_of {v:V}{o:Option Value}(r:Bp (some v) o):∃u,o=some u/\ZC v u:=by
 cases o with
 |none=>exact (show False from r).elim
 |some u=>exact⟨u,rfl,r⟩
theorem Bp.none_of {o:Option Value}(r:Bp none o):o=none:=by
 cases o with
 |none=>rfl
 |some u=>exact (show False from r).elim
theorem LA {v:V}{u:Value}(r:ZC v u):PySem.W.handedIn u=true:=by
 cases v with
 |non=>cases (show u=Value.none from r);rfl
 |bl b=>cases (show u=Value.bool b from r);rfl
 |int i=>obtain⟨t,e⟩:=(show ∃t,u=Value.int i t from r);cases e;rfl
 |str x=>obtain⟨t,e⟩:=(show ∃t,u=Value.str x t from r);cases e;rfl
 |byt b=>obtain⟨t,e⟩:=(show ∃t,u=Value.bytes b t from r);cases e;rfl
 |flt b=>obtain⟨t,e⟩:=(show ∃t,u=Value.float b t from r);cases e;rfl
 |ref a=>cases (show u=Value.ref a from r);rfl
 |ty n=>cases (show u=Value.type n from r);rfl
section
variable {P:Program} {w:World} {H H':Hp} {h h':Heap} {a C dx:Addr} {fs fs':List (Str×V)}
theorem Bg (hok:HOk P w H h)(e:H a=some (.ins C dx fs)):∃mA,ObjM h a dx C mA/\(∀f,Bp (fs.lookup f) (mA f))/\PySem.Within mA (fs.map (·.1))/\fs.length<=1000/\H dx=some (.own a):=by
 obtain⟨d,z,ne,ob,mA,n,r,q⟩:=(show ZL P w H h a (.ins C dx fs) from hok a _ e)
 exact⟨mA,⟨ob,n,ne⟩,r,q,z,d⟩
end
structure Cls (K:W8) (C:Addr):Prop where
 pg:W1d K C Str.empty=true
 hd:W1J K C=true
 po:W2v K C=true
 sa:V1 K (.ref C) "__setattr__" = some (some (.builtin "object.__setattr__"))
theorem Cls.get {K:W8}{C:Addr}(c:Cls K C)(f:Str):W1d K C f=true:=c.pg
def J3 (K:W8)(C:Addr)(f:Str):Prop:=V1 K (.ref C) f=some none
theorem J3.taker {K:W8}{C:Addr}{f:Str}(n:J3 K C f):PySem.W.takerIn K C f=some none:=by
 unfold PySem.W.takerIn;rw [show V1 K (.ref C) f=some none from n];rfl
structure Meth (K:W8) (C:Addr) (m:Str) (f:Addr):Prop where
 at_:V1 K (.ref C) m=some (some (.ref f))
 fn:W0f K (.ref f)=true
 kp:WI K (.ref f)=true
section
variable {X:Cx} {pins:List (Addr×Obj)} {σ:St} {H:Hp} {s:Shared} {a C dx:Addr} {fs:List (Str×V)} {f:Str} {v:V} {A:Around} {E:Value->Shared->Prop}
theorem R8 {b:Bool}{Q:Value->Shared->Prop}(I:Inv X pins σ H s)(e:H a=some (.ins C dx fs))(c:Cls X.K C)(n:J3 X.K C f)(l:fs.lookup f=some v)
  (h:∀u s',Inv X pins σ H s'->ZC v u->Q u s'):wpAny (model X.prog X.w) A (getAttr (.ref a) f b) Q E s:=by
 obtain⟨mA,O,r,_,_,_⟩:=Bg I.hok e
 obtain⟨u,hu,ru⟩:=Bp.some_of (v:=v) (o:=mA f) (by rw [<-l];exact r f)
 exact Ia I.kIn O (c.get f) c.hd n hu (LA ru) (h u _ (I.tok _) ru)
theorem Gw {m:Str}{g:Addr}{pl:Sem Bool}{Q:Value×List Value->Shared->Prop}(I:Inv X pins σ H s)(e:H a=some (.ins C dx fs))(c:Cls X.K C)(k:Meth X.K C m g)(l:fs.lookup m=none)
  (h:Q (.ref g,[.ref a]) s):wpAny (model X.prog X.w) A (getMethod (.ref a) m pl) Q E s:=by
 obtain⟨mA,O,r,_,_,_⟩:=Bg I.hok e
 have hn:mA m=none:=Bp.none_of (by rw [<-l];exact r m)
 exact AE I.kIn O (c.get m) k.at_ k.fn hn h
theorem KB {y:V}{u:Value}{Q:Unit->Shared->Prop}(I:Inv X pins σ H s)(e:H a=some (.ins C dx fs))(c:Cls X.K C)(n:J3 X.K C f)(hl:fs.length<1000)(ry:ZC y u)
  (h:∀s',Inv X pins σ (upd H a (.ins C dx (Gm f y fs))) s'->Q () s'):wpAny (model X.prog X.w) A (setAttr (.ref a) f u) Q E s:=by
 obtain⟨mA,O,r,wi,_,ho⟩:=Bg I.hok e
 have hz:(fs.map (·.1)).length<=Wk:=by rw [W7,W0J];omega
 refine HE I.kIn O c.sa c.po n.taker c.hd wi hz λh' O' sb=>h _ ?_
 have hd:∃o,h'.get? dx=some o:=let ⟨o,_,_,e',_⟩:=O'.ns;⟨o,e'⟩
 refine I.write (x:=a) (e:=dx) (by rw [e];exact True.intro) (.inr ho) (λb q hb z=>(sb.2 b hb).trans z) hd ?_
 refine⟨by rw [Zf O.ne];exact ho,?_,O.ne,O'.obj,_,O'.ns,λg=>?_,λg hg=>?_⟩
 ·have:=TD f y fs;omega
 ·show Bp ((Gm f y fs).lookup g) (if g=f then some u else mA g)
  rw [TB];by_cases q:g=f
  ·rw [if_pos q,if_pos q];exact ry
  ·rw [if_neg q,if_neg q];exact r g
 ·by_cases q:g=f
  ·rw [q];exact (TF f y fs).1
  ·refine (TF f y fs).2 g (wi g λz=>hg ?_)
   show (if g=f then some u else mA g)=none
   rw [if_neg q];exact z
theorem Inv.made (I:Inv X pins σ H s):Inv X pins σ (upd (upd H s.heap.objs.size (.own (s.heap.objs.size+1))) (s.heap.objs.size+1) (.ins C s.heap.objs.size []))
  { s with heap:=(s.heap.push W02).push (W0r C s.heap.objs.size) }:=by
 have e1:(s.heap.push W02).get? s.heap.objs.size=some W02:=Ws s.heap rfl
 have e2:((s.heap.push W02).push (W0r C s.heap.objs.size)).get? (s.heap.objs.size+1)=some (W0r C s.heap.objs.size):=by
  have:=Ws (s.heap.push W02) (o:=W0r C s.heap.objs.size) rfl
  rwa [W03] at this
 have e3:(s.heap.push W02).Ns s.heap.objs.size (λ_=>none):=⟨W02,#[],_,e1,rfl,(λe he=>absurd he (by simp)),λ_=>rfl⟩
 have I1:=I.laid (a:=s.heap.objs.size) (o:=.own (s.heap.objs.size+1)) (h':=s.heap.push W02) (t':=s.toks) (λb u q=>Wj _ q) (Wq _) ⟨_,e1⟩
 refine I1.laid (a:=s.heap.objs.size+1) (o:=.ins C s.heap.objs.size []) (t':=s.toks) (λb u q=>Wj _ q) (Nat.le_of_eq (W03 _ _)) ?_
 have ne:s.heap.objs.size≠s.heap.objs.size+1:=WG (W07 _)
 refine⟨by rw [Zf ne,Z7],Vx _,ne,e2,λ_=>none,(Heap.Ns1.of_empty e3).at λo q=>Wj _ q,λ_=>True.intro,λy hy=>absurd rfl hy⟩
theorem Iv {prog:Program}{w:World}{env:Env}{e:Expr}{f:Str}{pos:Pos}{s:Shared}{Q:Value->Shared->Prop}(hb:attributeBase e f env (eval e env)=eval e env)
  (h:wpAny (model prog w) A (eval e env) (λo s₁=>wpAny (model prog w) A (getAttr o f true) Q E s₁) E s):wpAny (model prog w) A (eval (.Attribute e f pos) env) Q E s:=
 Attribute_any_ h (by rw [arm_eval_Attribute,hb])
end
def Z2j (K:W8)(ta:TE)(f:Str):TE:=λσ H Q=>ta σ H λx H1=>∃a C dx fs v,x = .ref a/\H1 a=some (.ins C dx fs)/\Cls K C/\J3 K C f/\fs.lookup f=some v/\Q v H1
def Z2u (K:W8)(ta tv:TE)(f:Str):TS:=λD σ H=>tv σ H λy H1=>ta σ H1 λx H2=>∃a C dx fs,x = .ref a/\H2 a=some (.ins C dx fs)/\Cls K C/\J3 K C f/\fs.length<1000/\
 D.nx σ (upd H2 a (.ins C dx (Gm f y fs)))
section
variable {X:Cx} {o e value:Expr} {f:Str} {pos pos' tpos:Pos} {ta tv:TE}
theorem DE (he:PE X e ta)(hb:attributeBase e f X.env (eval e X.env)=eval e X.env):PE X (.Attribute e f pos) (Z2j X.K ta f):=by
 intro pins s σ H Q I h;refine Iv hb (thn (he pins s σ H _ I h) λu s1 ⟨x,H1,I1,rx,a,C,dx,fs,v,ex,ea,c,n,l,q⟩=>?_)
 subst ex;obtain rfl:u=Value.ref a:=rx
 exact R8 I1 ea c n l λu' s2 I2 ru=>⟨v,H1,I2,ru,q⟩
theorem Dp (ha:PE X o ta)(hv:PE X value tv)(hs:swapsWith value (some (.Attribute o f pos')) pos.line X.env=pure false):PS X (.Assign [.Attribute o f pos'] value pos) (Z2u X.K ta tv f):=by
 intro pins s σ H D I h;refine plainObj_wpAny_Assign_Attribute (thn (hv pins s σ H _ I h) λu s1 ⟨y,H1,I1,ry,q⟩=>thn (ha pins s1 σ H1 _ I1 q) λov s2 ⟨x,H2,I2,rx,a,C,dx,fs,ex,ea,c,n,l,q2⟩=>?_) hs
 subst ex;obtain rfl:ov=Value.ref a:=rx
 exact KB I2 ea c n l ry λs3 I3=>⟨σ,_,I3,q2⟩
end
section
variable {X:Cx} {pins:List (Addr×Obj)} {σ:St} {H:Hp} {s:Shared} {A:Around} {E:Value->Shared->Prop} {Q:Value->Shared->Prop} {c:Value} {b:Bool}
inductive TyOf (K:W8) (H:Hp):V->Value->Prop where
 |non:TyOf K H .non (.type "NoneType")
 |bl (x:Bool):TyOf K H (.bl x) (.type "bool")
 |int (i:Int):TyOf K H (.int i) (.type "int")
 |str (x:Str):TyOf K H (.str x) (.type "str")
 |flt (x:UInt64):TyOf K H (.flt x) (.type "float")
 |lst {a:Addr} {xs:List V} (e:H a=some (.lst xs)):TyOf K H (.ref a) (.type "list")
 |frz {a:Addr} {o:Obj} {xs:List V} (e:H a=some (.frz o (.lst xs))):TyOf K H (.ref a) (.type "list")
 |tup {a:Addr} {xs:List V} (e:H a=some (.tup xs)):TyOf K H (.ref a) (.type "tuple")
 |dK {a:Addr} {kvs:List (Key×V)} (e:H a=some (.dK kvs)):TyOf K H (.ref a) (.type "dict")
 |dT {a:Addr} {kvs:List (List Key×V)} (e:H a=some (.dT kvs)):TyOf K H (.ref a) (.type "dict")
 |ins {a C dx:Addr} {fs:List (Str×V)} (e:H a=some (.ins C dx fs)) (cl:Cls K C) (ha:V1 K (.ref C) "__class__" = some (some (.builtin "object.__class__")))
   (hn:PySem.W.specialIn K (.builtin "object.__class__") "__get__" = some (some (.builtin "getset_descriptor.__get__"))) (htk:PySem.W.takesIn K (.builtin "object.__class__")=some true)
   (hm:PySem.W.mroIn K C (.type "object")=some true):TyOf K H (.ref a) (.ref C)
theorem Ln {x:V}{u t:Value}(I:Inv X pins σ H s)(rx:ZC x u)(ty:TyOf X.K H x t)(e:W0b X.K t c=some b)(h:∀tk,Q (.bool b) { s with toks:=tk }) :
  wpAny (model X.prog X.w) A (call (.builtin "isinstance") [u,c]) Q E s:=by
 cases ty with
 |non=>cases (show u=Value.none from rx);exact VV PySem.W.kitx_none I.kIn True.intro e (λz=>nomatch z) h
 |bl y=>cases (show u=Value.bool y from rx);exact VV PySem.W.kitx_bool I.kIn True.intro e (λz=>nomatch z) h
 |int i=>obtain⟨t,q⟩:=(show ∃t,u=Value.int i t from rx);cases q;exact VV PySem.W.kitx_int I.kIn True.intro e (λz=>nomatch z) h
 |str y=>obtain⟨t,q⟩:=(show ∃t,u=Value.str y t from rx);cases q;exact VV PySem.W.kitx_str I.kIn True.intro e (λz=>nomatch z) h
 |flt y=>obtain⟨t,q⟩:=(show ∃t,u=Value.float y t from rx);cases q;exact VV PySem.W.kitx_float I.kIn True.intro e (λz=>nomatch z) h
 | @lst a xs ea=>
  cases (show u=Value.ref a from rx)
  obtain⟨_,_,n,_,h1⟩:=(show ZL X.prog X.w H s.heap a (.lst xs) from I.hok a _ ea)
  exact VV W2w I.kIn ⟨_,h1,rfl⟩ e (λz=>nomatch z) h
 | @frz a ob xs ea=>
  cases (show u=Value.ref a from rx)
  obtain⟨_,_,_,n,_,h1⟩:=(show ZL X.prog X.w H s.heap a (.frz ob (.lst xs)) from I.hok a _ ea)
  exact VV W2w I.kIn ⟨_,h1,rfl⟩ e (λz=>nomatch z) h
 | @tup a xs ea=>
  cases (show u=Value.ref a from rx)
  obtain⟨_,_,_,p⟩:=(show ZL X.prog X.w H s.heap a (.tup xs) from I.hok a _ ea)
  obtain⟨⟨o,h1,h2,_⟩,_⟩:=p
  exact VV PySem.W.kitx_tuple I.kIn ⟨o,h1,h2⟩ e (λz=>nomatch z) h
 | @dK a kvs ea=>
  cases (show u=Value.ref a from rx)
  obtain⟨_,_,vs,_,p⟩:=(show ZL X.prog X.w H s.heap a (.dK kvs) from I.hok a _ ea)
  obtain⟨o,es,ep,h1,h2,_⟩:=p
  exact VV W2x I.kIn ⟨o,h1,h2.1⟩ e (λz=>nomatch z) h
 | @dT a kvs ea=>
  cases (show u=Value.ref a from rx)
  obtain⟨_,_,xs,_,o,es,ep,h1,h2,_⟩:=(show ZL X.prog X.w H s.heap a (.dT kvs) from I.hok a _ ea)
  exact VV W2x I.kIn ⟨o,h1,h2.1⟩ e (λz=>nomatch z) h
 | @ins a C dx fs ea cl ha hn htk hm=>
  cases (show u=Value.ref a from rx)
  obtain⟨mA,O,_⟩:=Bg I.hok ea
  obtain⟨od,J,_⟩:=O.look
  exact VV (PySem.W.kitx_own (cl.get _) cl.hd ha hn htk hm) I.kIn J e (λz=>nomatch z) h
end
end L2
namespace L2
open PySem PySem.Spec PyProof.Rows
structure Room (k:Nat) (A:Around):Prop where
 hd:A.handled=none
 dp:A.depth+3*k+5<recursionLimit
 un:A.units+16*k+200<cLine
theorem Room.mono {j k:Nat}{A:Around}(r:Room k A)(h:j<=k):Room j A:=⟨r.hd,by have:=r.dp;omega,by have:=r.un;omega⟩
theorem Room.deeper {k:Nat}{A:Around}(r:Room (k+1) A)(env:Env):Room k (A.deeper env):=
 ⟨r.hd,by have:=r.dp;show A.depth+1+3*k+5<_;omega,by have:=r.un;show A.units+3+16*k+200<_;omega⟩
theorem KN {A:Around}{C:Addr}{us:List Value}{kw:List (Str×Value)}:(A.under (.builtin "type.__call__" ⟨.ref C :: us,kw⟩)).depth=A.depth+1:=by
 first|rfl|simp [Around.under,Code.weight,Code.isCreation,Code.isGuard,Code.isCaller,Code.frames,Code.isFrame,guardIds]
theorem KM {A:Around}{C:Addr}{us:List Value}{kw:List (Str×Value)}:(A.under (.builtin "type.__call__" ⟨.ref C :: us,kw⟩)).units=A.units+1:=by
 first|rfl|simp [Around.under,Code.cUnits,Code.frames,Code.isFrame]
theorem Room.make {k:Nat}{A:Around}(r:Room (k+1) A)(C:Addr)(us:List Value)(kw:List (Str×Value)):Room k (A.under (.builtin "type.__call__" ⟨.ref C :: us,kw⟩)):=
 ⟨r.hd,by have:=r.dp;rw [KN];omega,by have:=r.un;rw [KM];omega⟩
theorem Room.depth {k:Nat}{A:Around}(r:Room k A):A.depth<recursionLimit:=by have:=r.dp;omega
def ID:TA:=λ_ H Q=>Q [] H
def Ky (ta:TE)(tr:TA):TA:=λσ H Q=>ta σ H λx H1=>tr σ H1 λxs H2=>Q (x :: xs) H2
section
variable {X:Cx} {e:Expr} {es:List Expr} {te:TE} {t:TA} {pos:Pos}
theorem Ys:PA X [] ID:=λ_ _ _ _ H Q I h=>W0Y ⟨[],H,I,.nil,h⟩
theorem ZI (ha:PE X e te)(hr:PA X es t)(hs:Wr (e :: es) X.env=(false,eval e X.env) :: Wr es X.env:=by rfl):PA X (e :: es) (Ky te t):=by
 intro pos pins s σ H Q I h;rw [hs];show wpAny _ _ (spliced ((false,eval e X.env) :: backTo pos (Wr es X.env))) _ _ s
 refine W0B (thn (ha pins s σ H _ I h) λu s1 ⟨x,H1,I1,r1,q1⟩=>?_)
 exact thn (hr pos pins s1 σ H1 _ I1 q1) λus s2 ⟨xs,H2,I2,r2,q2⟩=>⟨x :: xs,H2,I2,.cons r1 r2,q2⟩
def Z2c (t:TA):TE:=λσ H Q=>t σ H λxs H1=>xs.length<=Wk/\∀p,H1 p=none->Q (.ref p) (upd H1 p (.tup xs))
def Z2g (t:TA):TE:=λσ H Q=>t σ H λxs H1=>xs.length<=Wk/\∀p,H1 p=none->Q (.ref p) (upd H1 p (.lst xs))
theorem Ej {x1}(h:PA X es t):PE X (.Tuple es x1 pos) (Z2c t):=by
 intro pins s σ H Q I hq;refine wpAny_Tuple_spliced (thn (h pos pins s σ H _ I hq) λus s1 ⟨xs,H1,I1,r,z,q⟩=>⟨by rw [<-r.length];exact z,?_⟩)
 have hf:H1 s1.heap.objs.size=none:=I1.hok.fresh (Wq _)
 refine⟨.ref s1.heap.objs.size,upd H1 s1.heap.objs.size (.tup xs),I1.laid (t':=s1.toks) (λb u e=>Wj _ e) (Wq _) ?_,rfl,q _ hf⟩
 exact⟨z,us,r,Hi.new _ _⟩
theorem DB (h:PA X es t):PE X (.List es pos) (Z2g t):=by
 intro pins s σ H Q I hq;refine wpAny_List_spliced (thn (h pos pins s σ H _ I hq) λus s1 ⟨xs,H1,I1,r,z,q⟩=>⟨by rw [<-r.length];exact z,?_⟩)
 have hf:H1 s1.heap.objs.size=none:=I1.hok.fresh (Wq _)
 refine⟨.ref s1.heap.objs.size,upd H1 s1.heap.objs.size (.lst xs),I1.laid (t':=s1.toks) (λb u e=>Wj _ e) (Wq _) ?_,rfl,q _ hf⟩
 exact⟨z,us,0,r,Ws _ rfl⟩
end
abbrev Sp:=List V->Hp->VK->XK->Prop
abbrev CXT:=List Env->Hp->Shared->XK->Value->Shared->Prop
structure Env0 (P:Program) (w:World) (K:W8) (mg:Str->Option Value) (base:Heap) (A:Around) (outer:List Env) (s:Shared) (H:Hp):Prop where
 frames:A.frames=some outer
 mod:Mod K mg base
 bs:∀b o,base.get? b=some o->s.heap.get? b=some o/\H b=none
 bsz:base.objs.size<=s.heap.objs.size
 funs:s.heap.FunFrames base outer
 frf:∀b∈frs outer,H b=none
 hok:HOk P w H s.heap
 bare:AllBare s.gens
def CE (outer:List Env)(P:Program)(w:World)(H:Hp)(s:Shared)(Q:VK)(u:Value)(s':Shared):Prop:=
 ∃v H',s'.os=s.os/\AllBare s'.gens/\Un (frs outer) [] H H' s.heap s'.heap/\HOk P w H' s'.heap/\ZC v u/\Q v H'
def CR (CX:CXT)(outer:List Env)(P:Program)(w:World)(H:Hp)(s:Shared)(Q:VK)(E:XK)(r:Result)(s':Shared):Prop:=
 match r with
 | .ok (.ret u)=>CE outer P w H s Q u s'
 | .ok _=>False
 | .error e=>CX outer H s E e s'
structure FnOk (P:Program) (w:World) (K:W8) (mg:Str->Option Value) (base:Heap) (CX:CXT) (k:Nat) (f:Addr) (fd:FuncData) (ps:List Str) (sp:Sp):Prop where
 len:∀vs H Q E,sp vs H Q E->vs.length=ps.length
 run:∀(A:Around) (outer:List Env) (s:Shared) (H:Hp) (args:Args) (us:List Value) (vs:List V) (Q:VK) (E:XK),Room k A->Env0 P w K mg base A outer s H->BindsTo s fd args (ps.zip us)->ZZ vs us->sp vs H Q E->
  codeAny (model P w) A (.call (.ref f) args) (CR CX outer P w H s Q E) s
theorem Env0.make {P:Program}{w:World}{K:W8}{mg:Str->Option Value}{base:Heap}{A:Around}{outer:List Env}{s:Shared}{H:Hp}(e:Env0 P w K mg base A outer s H)(C:Addr)(us:List Value)(kw:List (Str×Value)) :
  Env0 P w K mg base (A.under (.builtin "type.__call__" ⟨.ref C :: us,kw⟩)) outer s H:=⟨by first|exact e.frames|(simpa [Around.under,Code.envs,Code.isFrame,pushEnvs] using e.frames),e.mod,e.bs,e.bsz,e.funs,e.frf,e.hok,e.bare⟩
section
variable {X:Cx} {pins:List (Addr×Obj)} {σ:St} {H:Hp} {s s':Shared}
theorem Inv.env0 (I:Inv X pins σ H s):Env0 X.prog X.w X.K X.mg X.base X.A X.stack s H:=
 ⟨I.ok.frames,I.ok.mod,I.bs,V7 I.ok.bsz I.sz,I.stack,I.stkFree,I.hok,I.bare⟩
theorem Inv.after {Q:VK}{u:Value}(I:Inv X pins σ H s)(h:CE X.stack X.prog X.w H s Q u s'):EP X pins σ Q u s':=by
 obtain⟨v,H',os,bare,un,hok,r,q⟩:=h
 obtain⟨hh,g,d,t,os'⟩:=s'
 obtain rfl:os'=s.os:=os
 exact⟨v,H',I.call (h':=hh) (g':=g) (d':=d) (t':=t) (ch:=[]) un hok bare (λb z=>absurd z (by simp)),r,q⟩
end
def Z0d (sp:Sp)(dvs:List V)(E:XK)(t:TA):TE:=λσ H Q=>t σ H λvs H1=>sp (vs++dvs) H1 Q E
def Hy (C:Addr)(m:Str)(sp:Sp)(dvs:List V)(E:XK)(ta:TE)(t:TA):TE:=λσ H Q=>ta σ H λx H1=>∃a dx fs,x = .ref a/\H1 a=some (.ins C dx fs)/\fs.lookup m=none/\
 t σ H1 λvs H2=>sp (x :: (vs++dvs)) H2 Q E
def IZ (C:Addr)(sp:Sp)(dvs:List V)(E:XK)(t:TA):TE:=λσ H Q=>t σ H λvs H1=>∀x dx,H1 x=none->H1 dx=none->dx≠x->
 sp (.ref x :: (vs++dvs)) (upd (upd H1 dx (.own x)) x (.ins C dx [])) (λv H2=>v = .non/\Q (.ref x) H2) E
def JH (K:W8)(fd:FuncData)(ps:List Str)(ds:List Value):Prop:=
 ∀(s:Shared) (us:List Value),K.In s.heap->(us++ds).length=ps.length->BindsTo s fd ⟨us,[]⟩ (ps.zip (us++ds))
theorem JH.all {K:W8}{fd:FuncData}{ps:List Str}(h:∀us:List Value,us.length=ps.length->bindArgs fd ⟨us,[]⟩=pure (ps.zip us)):JH K fd ps []:=λs us _ hl=>by
 rw [VL] at hl ⊢
 exact .of_eq (h us hl)
def G1 (CX:CXT)(X:Cx)(E:XK):Prop:=∀(pins:List (Addr×Obj)) (σ:St) (H:Hp) (s:Shared) (e:Value) (s':Shared),Inv X pins σ H s->CX X.stack H s E e s'->X.xe e s'
section
variable {X:Cx} {CX:CXT} {k:Nat} {f C:Addr} {fd:FuncData} {ps:List Str} {sp:Sp} {dvs:List V} {ds:List Value} {E:XK} {x m:Str} {p pos apos:Pos} {e o:Expr} {es:List Expr} {ta:TE} {t:TA}
theorem RX {pins:List (Addr×Obj)}{σ:St}{H:Hp}{s:Shared}{Q:VK}{us:List Value}{vs:List V}(F:FnOk X.prog X.w X.K X.mg X.base CX k f fd ps sp)(hr:Room k X.A)(hb:JH X.K fd ps ds)(hd:ZZ dvs ds)(hx:G1 CX X E)
  (I:Inv X pins σ H s) (r:ZZ vs us) (h:sp (vs++dvs) H Q E):wpAny (model X.prog X.w) X.A (call (.ref f) us) (EP X pins σ Q) X.xe s:=by
 have r2:ZZ (vs++dvs) (us++ds):=r.append hd
 have hl:(us++ds).length=ps.length:=by rw [<-r2.length];exact F.len _ _ _ _ h
 refine wpAny_call (W1R (F.run X.A X.stack s H ⟨us,[]⟩ (us++ds) (vs++dvs) Q E hr I.env0 (hb s us I.kIn hl) r2 h) λr s' hq=>?_)
 cases r with
 |error e=>exact hx pins σ H s e s' I hq
 |ok fl=>
  cases fl with
  |ret u=>exact I.after hq
  |next=>exact False.elim hq
  |brk=>exact False.elim hq
  |cont=>exact False.elim hq
theorem Sb (F:FnOk X.prog X.w X.K X.mg X.base CX k f fd ps sp)(hr:Room k X.A)(hg:Gl X x)(hm:X.mg x=some (.ref f))(hk:WI X.K (.ref f)=true)(hb:JH X.K fd ps ds)(hd:ZZ dvs ds)(hx:G1 CX X E)
  (ha:PA X (e :: es) t) (hdb:(x == ("__debug__" : Str))=false:=by decide) (he:Wr (e :: es) X.env=(false,eval e X.env) :: Wr es X.env:=by rfl) (hpl:(backTo pos (Wr es X.env)).any (·.1)=false:=by rfl) :
  PE X (.Call (.Name x p) (e :: es) [] pos) (Z0d sp dvs E t):=by
 intro pins s σ H Q I h;refine VS (PN I hg hm ?_ hdb)
 refine W2l (h₀:=X.base) I.ok.mod.kin hk (thn (ha pos pins s σ H _ I h) λus s1 ⟨vs,H1,I1,r,q⟩=>⟨I1.kIn,?_⟩) he hpl
 exact RX F hr hb hd hx I1 r q
theorem S7 {pl:Sem Bool}(he:PE X o ta)(c:Cls X.K C)(hm:Meth X.K C m f)(F:FnOk X.prog X.w X.K X.mg X.base CX k f fd ps sp)(hr:Room k X.A)(hb:JH X.K fd ps ds)(hd:ZZ dvs ds)(hx:G1 CX X E)(ha:PA X (e :: es) t)
  (hst:Wr (e :: es) X.env=(false,eval e X.env) :: Wr es X.env:=by rfl) (hpl:(backTo pos (Wr es X.env)).any (·.1)=false:=by rfl)
  (ht:eval (.Call (.Attribute o m apos) (e :: es) [] pos) X.env=(do
   let ov <-eval o X.env
   standAt apos.atName
   let (f,first) <-holding [ov] (getMethod ov m pl)
   callWith pos f first (backTo pos (Wr (e :: es) X.env)) (backToKw pos (keywordEach [] X.env))):=by rfl) :
  PE X (.Call (.Attribute o m apos) (e :: es) [] pos) (Hy C m sp dvs E ta t):=by
 intro pins s σ H Q I h;refine PySem.W.methodCall_KW (pl:=pl) (thn (he pins s σ H _ I h) λu s1 ⟨x,H1,I1,rx,a,dx,fs,ex,ea,l,q⟩=>?_) ht
 subst ex;obtain rfl:u=Value.ref a:=rx
 refine Gw I1 ea c hm l ?_
 refine W2l (first:=[.ref a]) (h₀:=X.base) I.ok.mod.kin hm.kp (thn (ha pos pins s1 σ H1 _ I1 q) λus s2 ⟨vs,H2,I2,r,q2⟩=>⟨I2.kIn,?_⟩) hst hpl
 exact RX (us:=.ref a :: us) (vs:=.ref a :: vs) F hr hb hd hx I2 (.cons rfl r) q2
theorem A6 {pl:Sem Bool}(he:PE X o ta)(c:Cls X.K C)(hm:Meth X.K C m f)(F:FnOk X.prog X.w X.K X.mg X.base CX k f fd ps sp)(hr:Room k X.A)(hb:JH X.K fd ps ds)(hd:ZZ dvs ds)(hx:G1 CX X E)
  (ht:eval (.Call (.Attribute o m apos) [] [] pos) X.env=(do
   let ov <-eval o X.env
   standAt apos.atName
   let (f,first) <-holding [ov] (getMethod ov m pl)
   callWith pos f first (backTo pos (Wr [] X.env)) (backToKw pos (keywordEach [] X.env))):=by rfl) :
  PE X (.Call (.Attribute o m apos) [] [] pos) (Hy C m sp dvs E ta ID):=by
 intro pins s σ H Q I h;refine PySem.W.methodCall_KW (pl:=pl) (thn (he pins s σ H _ I h) λu s1 ⟨x,H1,I1,rx,a,dx,fs,ex,ea,l,q⟩=>?_) ht
 subst ex;obtain rfl:u=Value.ref a:=rx
 refine Gw I1 ea c hm l ?_
 exact PySem.W.callWith_K0 (first:=[.ref a]) I1.kIn hm.kp (RX (us:=[.ref a]) (vs:=[.ref a]) F hr hb hd hx I1 (.cons rfl .nil) q)
structure Mk (K:W8) (C f:Addr):Prop where
 makes:PySem.W.makesIn K C=true
 init:V1 K (.ref C) "__init__" = some (some (.ref f))
 fn:W0f K (.ref f)=true
 kp:WI K (.ref C)=true
theorem FU {pins:List (Addr×Obj)}{σ:St}{H:Hp}{s:Shared}{Q:VK}{us:List Value}{vs:List V}(M:Mk X.K C f)(F:FnOk X.prog X.w X.K X.mg X.base CX k f fd ps sp)(hr:Room (k+1) X.A)(hb:JH X.K fd ps ds)(hd:ZZ dvs ds)
  (hx:G1 CX X E) (I:Inv X pins σ H s) (r:ZZ vs us)
  (h:∀x dx,H x=none->H dx=none->dx≠x->sp (.ref x :: (vs++dvs)) (upd (upd H dx (.own x)) x (.ins C dx [])) (λv H2=>v = .non/\Q (.ref x) H2) E) :
  wpAny (model X.prog X.w) X.A (call (.ref C) us) (EP X pins σ Q) X.xe s:=by
 have hq:=h (s.heap.objs.size+1) s.heap.objs.size (I.hok.fresh (Nat.le_succ _)) (I.hok.fresh (Wq _)) (WG (W07 _))
 have I2:=Inv.made (C:=C) I
 have r2:ZZ (V.ref (s.heap.objs.size+1) :: (vs++dvs)) (Value.ref (s.heap.objs.size+1) :: (us++ds)):=.cons rfl (r.append hd)
 have hl:(Value.ref (s.heap.objs.size+1) :: us++ds).length=ps.length:=by
  have e:=r2.length
  rw [F.len _ _ _ _ hq] at e;exact e.symm
 refine wpAny_call (Af (f:=f) I.kIn M.makes M.init (beq_iff_eq.mp M.fn) (W1R (F.run _ X.stack _ _ ⟨Value.ref (s.heap.objs.size+1) :: us,[]⟩ (Value.ref (s.heap.objs.size+1) :: (us++ds)) _ _ E (hr.make C us [])
  (I2.env0.make C us []) (hb _ (Value.ref (s.heap.objs.size+1) :: us) I2.kIn hl) r2 hq) λr s' hq'=>?_))
 cases r with
 |error e=>exact hx pins σ _ _ e s' I2 hq'
 |ok fl=>
  cases fl with
  |ret u=>
   obtain⟨v,H',I3,rv,ev,q3⟩:=I2.after hq'
   subst ev;exact⟨rv,⟨V.ref (s.heap.objs.size+1),H',I3,rfl,q3⟩⟩
  |next=>exact False.elim hq'
  |brk=>exact False.elim hq'
  |cont=>exact False.elim hq'
theorem S9 (M:Mk X.K C f)(F:FnOk X.prog X.w X.K X.mg X.base CX k f fd ps sp)(hr:Room (k+1) X.A)(hg:Gl X x)(hm:X.mg x=some (.ref C))(hb:JH X.K fd ps ds)(hd:ZZ dvs ds)(hx:G1 CX X E)
  (ha:PA X (e :: es) t) (hdb:(x == ("__debug__" : Str))=false:=by decide) (he:Wr (e :: es) X.env=(false,eval e X.env) :: Wr es X.env:=by rfl) (hpl:(backTo pos (Wr es X.env)).any (·.1)=false:=by rfl) :
  PE X (.Call (.Name x p) (e :: es) [] pos) (IZ C sp dvs E t):=by
 intro pins s σ H Q I h;refine VS (PN I hg hm ?_ hdb)
 refine W2l (h₀:=X.base) I.ok.mod.kin M.kp (thn (ha pos pins s σ H _ I h) λus s1 ⟨vs,H1,I1,r,q⟩=>⟨I1.kIn,?_⟩) he hpl
 exact FU M F hr hb hd hx I1 r q
end
def PK (X:Cx)(kws:List Keyword)(t:TA):Prop:=
 ∀(pos:Pos) (pins:List (Addr×Obj)) (s:Shared) (σ:St) (H:Hp) (Q:List V->Hp->Prop),Inv X pins σ H s->t σ H Q->wpAny (model X.prog X.w) X.A (evalAll ((backToKw pos (keywordEach kws X.env)).map (·.2))) (AP X pins σ Q) X.xe s
section
variable {X:Cx} {CX:CXT} {k:Nat} {f C:Addr} {fd:FuncData} {ps ks:List Str} {sp:Sp} {E:XK} {x m:Str} {p pos apos kpos:Pos} {e o:Expr} {es:List Expr} {kws:List Keyword} {te ta:TE} {t tk:TA} {nm:Option Str}
theorem Dq:PK X [] ID:=λ_ _ _ _ H Q I h=>wpAny_evalAll_nil ⟨[],H,I,.nil,h⟩
theorem HZ (ha:PE X e te)(hr:PK X kws t):PK X (⟨nm,e,kpos⟩ :: kws) (Ky te t):=by
 intro pos pins s σ H Q I h;show wpAny _ _ (evalAll ((do let v <-eval e X.env;standAt pos;pure v) :: (backToKw pos (keywordEach kws X.env)).map (·.2))) _ _ s
 refine wpAny_evalAll_cons (W0 (thn (ha pins s σ H _ I h) λu s1 ⟨x,H1,I1,r1,q1⟩=>W0 (wpAny_standAt (Wd ?_))))
 exact thn (hr pos pins s1 σ H1 _ I1 q1) λus s2 ⟨xs,H2,I2,r2,q2⟩=>⟨x :: xs,H2,I2,.cons r1 r2,q2⟩
variable {g:List Value->List Value->List Value} {gV:List V->List V->List V}
end
structure FnScope (N P:List Str) (sc:Scope):Prop where
 kind:sc.kind = .function
 co:sc.isCoroutine=false
 gen:sc.isGenerator=false
 nd:N.Nodup
 pre:N.take P.length=P
 par:∀x∈P,sc.names.lookup x=some .local\/sc.names.lookup x=some .cell
 nofree:∀y∈sc.names,y.2≠.free
theorem Nt {kindOf:Str->Option NameKind}{x:Str}:∀{binds:List (Str×Value)} {m:Str->Option Value},(∀v,(x,v)∉binds)->bindL kindOf binds m x=m x
 |[],_,_=>rfl
 | (n,v) :: r,m,h=>by
  unfold bindL;rw [Nt λw hw=>h w (Wu _ hw)]
  split
  ·have:x≠n:=by rintro rfl;exact h v Wp
   simp [this]
  ·rfl
theorem Nv {kindOf:Str->Option NameKind}{x:Str}:∀{binds:List (Str×Value)} {m:Str->Option Value},(∀v,(x,v)∉binds)->bindC kindOf binds m x=m x
 |[],_,_=>rfl
 | (n,v) :: r,m,h=>by
  unfold bindC;rw [Nv λw hw=>h w (Wu _ hw)]
  split
  ·rfl
  ·have:x≠n:=by rintro rfl;exact h v Wp
   simp [this]
theorem Nu {kindOf:Str->Option NameKind}{x:Str}{v:Value}:∀{P:List Str} {vs:List Value} {i:Nat} {m:Str->Option Value},P.Nodup->P[i]? = some x->vs[i]? = some v->kindOf x=some .local->
  bindL kindOf (P.zip vs) m x=some v
 |[],_,_,_,_,h,_,_=>by simp at h
 |_ :: _,[],_,_,_,_,h,_=>by simp at h
 |p :: P,w :: vs,0,m,nd,h1,h2,hk=>by
  simp at h1 h2;subst h1;subst h2
  show bindL kindOf ((p,w) :: P.zip vs) m p=_
  unfold bindL;rw [Nt λv hv=>(VE.mp nd).1 (List.of_mem_zip hv).1,if_pos hk]
  simp
 |p :: P,w :: vs,i+1,m,nd,h1,h2,hk=>by
  show bindL kindOf ((p,w) :: P.zip vs) m x=_
  unfold bindL;exact Nu (i:=i) (VE.mp nd).2 (by simpa using h1) (by simpa using h2) hk
theorem Nw {kindOf:Str->Option NameKind}{x:Str}{v:Value}:∀{P:List Str} {vs:List Value} {i:Nat} {m:Str->Option Value},P.Nodup->P[i]? = some x->vs[i]? = some v->kindOf x≠some .local->
  bindC kindOf (P.zip vs) m x=some v
 |[],_,_,_,_,h,_,_=>by simp at h
 |_ :: _,[],_,_,_,_,h,_=>by simp at h
 |p :: P,w :: vs,0,m,nd,h1,h2,hk=>by
  simp at h1 h2;subst h1;subst h2
  show bindC kindOf ((p,w) :: P.zip vs) m p=_
  unfold bindC;rw [Nv λv hv=>(VE.mp nd).1 (List.of_mem_zip hv).1,if_neg hk]
  simp
 |p :: P,w :: vs,i+1,m,nd,h1,h2,hk=>by
  show bindC kindOf ((p,w) :: P.zip vs) m x=_
  unfold bindC;exact Nw (i:=i) (VE.mp nd).2 (by simpa using h1) (by simpa using h2) hk
def start (N:List Str)(vs:List V):St:=vs.map some++W0E (N.length-vs.length) none
def Ip (CX:CXT)(P:Program)(w:World)(K:W8)(mg:Str->Option Value)(base:Heap)(N:List Str)(qual:Str)(scope:Scope)(f:Addr)(cd:Value)(A:Around)(outer:List Env)(s:Shared)(H:Hp)(E:XK):Cx where
 prog:=P
 w:=w
 K:=K
 mg:=mg
 base:=base
 A:=A.deeper (envOfC qual scope s.heap.objs.size f cd)
 N:=N
 s₀:=s
 H₀:=H
 env:=envOfC qual scope s.heap.objs.size f cd
 outer:=outer
 stack:=envOfC qual scope s.heap.objs.size f cd :: outer
 ex:=[]
 calm:=true
 fn:=λ_=>true
 pn:=[]
 xe:=λe s'=>wpAny (model P w) (A.deeper (envOfC qual scope s.heap.objs.size f cd)) (leaving (envOfC qual scope s.heap.objs.size f cd) e) (λ_ s''=>CX outer H s E e s'') (λe' s''=>CX outer H s E e' s'') s'
theorem Kr {sc:Scope}{n:Nat}{x:Str}(h:sc.names.lookup x=some .cell):∃c,(cellsFrom n sc.names []).lookup x=some c:=by
 have q:=PySem.W.cellsFrom_some sc.names n [] (.inl h)
 exact W1m.mp q
theorem Ls {CX:CXT}{P:Program}{w:World}{K:W8}{mg:Str->Option Value}{base:Heap}{N ps:List Str}{qual:Str}{scope:Scope}{f:Addr}{cd:Value}{A:Around}{outer:List Env}{s s1:Shared}{H:Hp}{E:XK}{us:List Value}{vs:List V}
  (S:FnScope N ps scope) (hd:A.handled=none) (e0:Env0 P w K mg base A outer s H) (hl:vs.length=ps.length) (r:ZZ vs us)
  (x:InCallC s s.heap.objs.size (bindL (envOfC qual scope s.heap.objs.size f cd).kindOf (ps.zip us) λ_=>none) (cellsFrom (s.heap.objs.size+1) scope.names []) (bindC (envOfC qual scope s.heap.objs.size f cd).kindOf (ps.zip us) λ_=>none) s1) :
  Inv (Ip CX P w K mg base N qual scope f cd A outer s H E) [] (start N vs) H s1:=by
 have hpl:ps.length<=N.length:=by have:=congrArg Va S.pre;rw [W0M] at this;omega
 obtain⟨h1,tk,rfl,hk⟩:=x.done
 have noA:∀b:Addr,b∉(Ip CX P w K mg base N qual scope f cd A outer s H E).ex:=λb z=>absurd (show b∈([]:List Addr) from z) (by simp)
 refine⟨⟨e0.mod,S.kind,rfl,rfl,Wq _,λy z c h1 h2=>?_,λy hy=>?_,λy c _ h=>?_,λ_=>hd,Around.frames_deeper e0.frames,.inr ⟨rfl,rfl⟩,λb z=>absurd z (noA b),e0.bs,e0.bsz,λb _ _=>noA b,λb z=>absurd z (noA b),e0.funs,e0.frf⟩,
  rfl,e0.bare,Un.kept hk,⟨_,x.toInCall.ns,λi y v h1 h2 h3=>?_⟩,λy c h=>⟨_,x.cell y c h⟩,e0.hok.fresh (Wq _),λy c h=>?_,λp hp=>absurd (show p∈([]:List (Addr×Obj)) from hp) (by simp),e0.hok.kept hk,?_⟩
 ·exact name_of_addr x.apart (W0a h1) (W0a h2)
 ·have hy:scope.names.lookup y=some .cell\/scope.names.lookup y=some .free:=hy
  rcases hy with hy|hy
  ·exact Kr hy
  ·exact absurd rfl (S.nofree _ (W0a hy))
 ·exact W2k (x.above y c (W0a h))
 ·have hi:i<vs.length:=by
   unfold start at h2;by_cases hi:i<vs.length
   ·exact hi
   ·rw [WV (by simpa using hi)] at h2
    rw [W0n] at h2;split at h2<;>cases h2
  have ha:vs[i]? = some v:=by
   unfold start at h2;rw [V3 (by simpa using hi),WE] at h2
   cases e:vs[i]? with
   |none=>rw [e] at h2;cases h2
   |some a=>rw [e] at h2;cases h2;rfl
  obtain⟨u,hu,rv⟩:=r.get ha
  have hp:ps[i]? = some y:=by
   rw [<-S.pre,VJ (by omega)];exact h1
  have ndP:ps.Nodup:=by rw [<-S.pre];exact S.nd.sublist (List.take_sublist _ _)
  refine⟨u,rv,?_⟩
  rcases S.par y (V4 hp) with k|k
  ·exact .inl ⟨k,Nu ndP hp hu k⟩
  ·obtain⟨c,e⟩:=Kr (n:=s.heap.objs.size+1) k
   refine .inr ⟨.inl k,c,e,?_⟩
   have q:=x.cell y c e
   rw [Nw ndP hp hu (by show scope.names.lookup y≠_;rw [k];decide)] at q
   exact q
 ·exact e0.hok.fresh (W2k (x.above y c (W0a h)))
 ·unfold start
  show _=N.length
  rw [WC,W7,W0C];omega
theorem Z1j {CX:CXT}{P:Program}{w:World}{K:W8}{mg:Str->Option Value}{base:Heap}{k:Nat}{f:Addr}{name qual:Str}{params:Arguments}{body:List Stmt}{scope:Scope}{dV kV doc pm cdv ct oc:Value}{an od:Option Addr}
  {osl:Array (Option Value)} {N ps:List Str} {sp:Sp} (lk:K.lookup f=some ⟨oc,od,.func (WU name qual params body scope dV kV doc pm an cdv ct),osl⟩) (hcd:WQ K cdv qual=true) (S:FnScope N ps scope)
  (len:∀vs H Q E,sp vs H Q E->vs.length=ps.length)
  (hbody:∀(A:Around) (outer:List Env) (s:Shared) (H:Hp) (vs:List V) (Q:VK) (E:XK),Room k (A.deeper (envOfC qual scope s.heap.objs.size f cdv))->sp vs H Q E->
   ∃t,PSs (Ip CX P w K mg base N qual scope f cdv A outer s H E) body t/\t { nx:=λ_ H'=>Q .non H',rt:=Q } (start N vs) H) :
  FnOk P w K mg base CX (k+1) f (WU name qual params body scope dV kV doc pm an cdv ct) ps sp:=by
 refine⟨len,λA outer s H args us vs Q E hr e0 hb r hsp=>?_⟩
 have hl:=len _ _ _ _ hsp
 have KX:K.In s.heap:=e0.mod.kin.keeps λb o e=>(e0.bs b o e).1
 have lim:s.heap.NoLimit:=e0.mod.nolimit.keeps λb o e=>(e0.bs b o e).1
 have hkind:∀y∈ps.zip us,scope.names.lookup y.1=some .local\/(scope.names.lookup y.1=some .cell/\((cellsFrom (s.heap.objs.size+1) scope.names []).lookup y.1).isSome=true):=λ⟨n,v⟩ hy=>by
  rcases S.par n (List.of_mem_zip hy).1 with q|q
  ·exact .inl q
  ·exact .inr ⟨q,PySem.W.cellsFrom_some _ _ _ (.inl q)⟩
 refine codeAny_call_function hr.depth (KX _ _ lk) rfl S.co S.gen rfl (PySem.W.codeRec_of KX hcd) (hb _ _ _ _ ?_)
 refine wpAny_newFunctionEnv_cells S.kind hkind λenv he s1 x=>?_
 subst he;refine⟨lim.keeps x.toInCall.keep,codeAny_func ?_⟩
 obtain⟨t,ht,hq⟩:=hbody A outer s H vs Q E (hr.deeper _) hsp
 have I:Inv (Ip CX P w K mg base N qual scope f cdv A outer s H E) [] (start N vs) H s1:=Ls S hr.hd e0 hl r x
 refine W0k (ht [] s1 (start N vs) H _ I hq) (λfl s' hs=>?_) λe s' hs=>hs
 have fin:∀{σ':St} {H':Hp} {v:V} {u:Value},Inv (Ip CX P w K mg base N qual scope f cdv A outer s H E) [] σ' H' s'->ZC v u->Q v H'->CE outer P w H s Q u s':=
  λ{σ' H' v u} J rv q=>⟨v,H',J.os,J.bare,J.base,J.hok,rv,q⟩
 cases fl with
 |ret u=>
  obtain⟨v,σ',H',J,rv,q⟩:=hs
  exact fin J rv q
 |next=>
  obtain⟨σ',H',J,q⟩:=hs
  exact fin (v:=V.non) (u:=Value.none) J rfl q
 |brk=>
  obtain⟨_,_,_,q⟩:=hs
  exact False.elim q
 |cont=>
  obtain⟨_,_,_,q⟩:=hs
  exact False.elim q
end L2
namespace L2
open PySem PySem.Spec PyProof.Rows
section
variable {X:Cx} {x:Str} {p pos:Pos} {e:Expr} {es:List Expr} {t:TA} {id T:String} {r:List V->Hp->VK->Prop}
def tCB (r:List V->Hp->VK->Prop)(t:TA):TE:=λσ H Q=>t σ H λvs H1=>r vs H1 Q
theorem QS (hc:J8 X (.builtin id) r)(hg:Gl X x)(hm:X.mg x=none)(hv:WK x=some (.builtin id))(ha:PA X (e :: es) t)(hn:x≠"__name__":=by decide)(hdb:(x == ("__debug__" : Str))=false:=by decide)
  (he:Wr (e :: es) X.env=(false,eval e X.env) :: Wr es X.env:=by rfl) (hpl:(backTo pos (Wr es X.env)).any (·.1)=false:=by rfl):PE X (.Call (.Name x p) (e :: es) [] pos) (tCB r t):=by
 intro pins s σ H Q I h;refine VS (U1 I hg hm hv ?_ hn hdb)
 exact W0I (thn (ha pos pins s σ H _ I h) λus s1 ⟨vs,H1,I1,r1,q1⟩=>hc pins s1 σ H1 vs us Q I1 r1 q1) he hpl
theorem Tv (hc:J8 X (.type T) r)(hg:Gl X x)(hm:X.mg x=none)(hv:WK x=some (.type T))(ha:PA X (e :: es) t)(hn:x≠"__name__":=by decide)(hdb:(x == ("__debug__" : Str))=false:=by decide)
  (he:Wr (e :: es) X.env=(false,eval e X.env) :: Wr es X.env:=by rfl) (hpl:(backTo pos (Wr es X.env)).any (·.1)=false:=by rfl):PE X (.Call (.Name x p) (e :: es) [] pos) (tCB r t):=by
 intro pins s σ H Q I h;refine VS (U1 I hg hm hv ?_ hn hdb)
 exact W0t (thn (ha pos pins s σ H _ I h) λus s1 ⟨vs,H1,I1,r1,q1⟩=>hc pins s1 σ H1 vs us Q I1 r1 q1) he hpl
end
end L2
namespace HT
open PySem PyProof.Rows
section
open PySem.SeqAt
open PySem.AutoSeq1 (wpAny_loadPart')
open PySem.MeetsSeq PySem.MeetsSeq2 PySem.MeetsSeq3
end
section
variable {prog:Program} {w:World} {A:Around} {E:Value->Shared->Prop} {s:Shared}
theorem cat_tup {t b:Addr}{vs ws:List Value}{Q:Value->Shared->Prop}(ht:IsTup s.heap t vs.toArray)(hb:IsTup s.heap b ws.toArray)(hv:vs≠[])
  (h1:ws=[]->Q (.ref t) s) (h2:ws≠[]->Q (.ref s.heap.objs.size) { s with heap:=s.heap.push { cls:=.type "tuple",data:=.seq (vs++ws).toArray } })
  (hsz:vs.length+ws.length<=Wk):wpAny (model prog w) A (binaryOp .Add (.ref t) (.ref b)) Q E s:=by
 obtain⟨⟨cls,dd,data,sl⟩,ho,hc,n,hd⟩:=id ht
 obtain⟨⟨cls2,dd2,data2,sl2⟩,ho2,hc2,n2,hd2⟩:=id hb
 simp only at hc hd hc2 hd2
 subst hc hd hc2 hd2;have e:vs.toArray++ws.toArray=(vs++ws).toArray:=by simp
 by_cases hw:ws=[]
 ·exact concat_meets ⟨_,ho,rfl⟩ ⟨_,ho2,rfl⟩ noFill_tuple_add seq_tuple_add W1F W1t (W1n _ _)
   (tuple_addW1 t b vs.toArray ws.toArray n n2 dd dd2 sl sl2 (by simpa using hv) (by simp [hw])) ⟨ho,ho2,h1 hw⟩
 ·refine concat_meets ⟨_,ho,rfl⟩ ⟨_,ho2,rfl⟩ noFill_tuple_add seq_tuple_add W1F W1t (W1n _ _)
   (tuple_addW2 t b vs.toArray ws.toArray n n2 dd dd2 sl sl2 (by simpa using hv) (by simpa using hw) (by rw [Wo,Wo];exact hsz)) ⟨ho,ho2,?_⟩
  rw [e];exact h2 hw
end
end HT
namespace L2
open PySem PySem.Spec PyProof.Rows
section
variable {X:Cx} {e:Expr} {te:TE} {lo hi:Option Expr} {tl th:TO} {pos p2:Pos}
def Z0E (K:W8):R2:=λx y H Q=>∃a b xs ys,x = .ref a/\y = .ref b/\SqT K H a xs/\SqT K H b ys/\xs≠[]/\xs.length+ys.length<=Wk/\
 (ys=[]->Q (.ref a) H)/\(ys≠[]->∀p,H p=none->Q (.ref p) (upd H p (.tup (xs++ys))))
theorem ZZ.nil_iff {xs:List V}{us:List Value}(r:ZZ xs us):us=[]↔xs=[]:=by
 cases r with
 |nil=>simp
 |cons _ _=>simp
theorem Sg:OpR X (binaryOp .Add) (Z0E X.K):=by
 intro pins s σ H x y v u Q I rx ry h;obtain⟨a,b,xs,ys,rfl,rfl,ha,hb,hx,hz,q1,q2⟩:=h
 cases rx;cases ry;obtain⟨its,r1,p1,_⟩:=I.tuple ha
 obtain⟨its2,r2,p2,_⟩:=I.tuple hb
 refine HT.cat_tup p1 p2 (λz=>hx (r1.nil_iff.mp z)) (λz=>⟨.ref a,H,I,rfl,q1 (r2.nil_iff.mp z)⟩) (λz=>?_) (by rw [<-r1.length,<-r2.length];exact hz)
 refine⟨.ref s.heap.objs.size,_,I.laid (t':=s.toks) (o:=.tup (xs++ys)) (λb ob q=>Wj _ q) (Wq _) ?_,rfl,q2 (λw=>z (r2.nil_iff.mpr w)) _ (I.hok.fresh (Wq _))⟩
 exact⟨by rw [WC];exact hz,_,r1.append r2,Hi.new _ _⟩
end
end L2
namespace L2
open PySem PySem.Spec PyProof.Rows
def ixN (n:Nat)(i:Int):Option Nat:=if 0<=i then (if i<n then some i.toNat else none) else if -(n:Int)<=i then some (i+n).toNat else none
def atI {α:Type}(xs:List α)(i:Int):Option α:=(ixN xs.length i).bind λj=>xs[j]?
theorem Ll {n:Nat}{i:Int}{j:Nat}(h:ixN n i=some j):seqIndex? i n=some j/\j<n/\-(n:Int)<=i/\i<n:=by
 unfold ixN at h;by_cases h0:0<=i
 ·rw [if_pos h0] at h
  by_cases h1:i<n
  ·rw [if_pos h1] at h
   have e:i.toNat=j:=WW h
   exact⟨by rw [seqIndex_of h0 h1,e],by omega,by omega,h1⟩
  ·rw [if_neg h1] at h;cases h
 ·rw [if_neg h0] at h
  by_cases h1 : -(n:Int)<=i
  ·rw [if_pos h1] at h
   have e:(i+n).toNat=j:=WW h
   exact⟨by rw [seqIndex_neg (by omega) h1,e],by omega,h1,by omega⟩
  ·rw [if_neg h1] at h;cases h
theorem Mm {α:Type}{xs:List α}{i:Int}{v:α}(h:atI xs i=some v):∃j,seqIndex? i xs.length=some j/\xs[j]? = some v/\j<xs.length/\-(xs.length:Int)<=i/\i<xs.length:=by
 unfold atI at h;cases e:ixN xs.length i with
 |none=>rw [e] at h;cases h
 |some j=>
  rw [e] at h;obtain⟨h1,h2,h3,h4⟩:=Ll e
  exact⟨j,h1,h,h2,h3,h4⟩
theorem Bn {α:Type}{xs:List α}{j:Nat}{v:α}(h:xs[j]? = some v):atI xs (j:Int)=some v:=by
 have hj:j<xs.length:=(Wn.mp h).1
 have e:ixN xs.length (j:Int)=some j:=by
  unfold ixN;rw [if_pos (by omega),if_pos (by omega)];simp
 unfold atI;rw [e];exact h
def Ff (b:Expr):Prop:=∀o i,subscripted b false o i=operate [o,i] (getItem o i)
def IxR (X:Cx)(r:R2):Prop:=
 ∀(value slice:Expr) (pins:List (Addr×Obj)) (s:Shared) (σ:St) (H:Hp) (x y:V) (v u:Value) (Q:VK),Inv X pins σ H s->ZC x v->ZC y u->r x y H Q->
  subscripted slice false v u=operate [v,u] (getItem v u)->wpAny (model X.prog X.w) X.A (subscriptTail value slice v u) (EP X pins σ Q) X.xe s
def MtR (X:Cx)(id:String)(r:V->List V->Hp->VK->Prop):Prop:=
 ∀(pins:List (Addr×Obj)) (s:Shared) (σ:St) (H:Hp) (x:V) (xs:List V) (v:Value) (us:List Value) (Q:VK),Inv X pins σ H s->ZC x v->ZZ xs us->r x xs H Q->
  wpAny (model X.prog X.w) X.A (call (.builtin id) (v :: us)) (EP X pins σ Q) X.xe s
section
variable {X:Cx} {a b:Expr} {ta tb:TE} {pos:Pos}
theorem IxR.or {r r':R2}(h:IxR X r)(h':IxR X r'):IxR X (λx y H Q=>r x y H Q\/r' x y H Q):=by
 intro value slice pins s σ H x y v u Q I rx ry q hs;rcases q with q|q
 ·exact h value slice pins s σ H x y v u Q I rx ry q hs
 ·exact h' value slice pins s σ H x y v u Q I rx ry q hs
theorem Z0I {r:R2}(hr:IxR X r)(ha:PE X a ta)(hb:PE X b tb)(hs:Ff b):PE X (.Subscript a b pos) (tOp r ta tb):=by
 intro pins s σ H Q I h;exact Subscript_ (Z1p ha hb I h λv u s2 x y H2 I2 rx ry q=>hr a b pins s2 σ H2 x y v u Q I2 rx ry q (hs _ _))
def Z1z (K:W8):R2:=λx y H Q=>∃p xs i v,x = .ref p/\y = .int i/\SqL K H p xs/\atI xs i=some v/\Q v H
def Z1x (K:W8):R2:=λx y H Q=>∃p xs i v,x = .ref p/\y = .int i/\SqT K H p xs/\atI xs i=some v/\Q v H
def Z1y:R2:=λx y H Q=>∃z i c,x = .str z/\y = .int i/\z.length<=Wk/\atI z.cps.toList i=some c/\Q (.str ⟨#[c]⟩) H
theorem SH:IxR X (Z1z X.K):=by
 intro value slice pins s σ H x y v u Q I rx ry h hs;obtain⟨p,xs,i,z,rfl,rfl,hq,he,q⟩:=h
 cases rx;obtain⟨t,rfl⟩:=ry
 obtain⟨its,r,pl,hz⟩:=I.list hq
 obtain⟨j,h1,h2,h3,h4,h5⟩:=Mm he
 obtain⟨w,ew,rw'⟩:=r.get h2
 have hl:=r.length
 have hn:=TC
 have fin:EP X pins σ Q w s:=⟨z,H,I,rw',q⟩
 by_cases h0:0<=i
 ·have hj:i.toNat=j:=by
   rw [seqIndex_of h0 h5] at h1;exact WW h1
  exact item_listR pl.isList h0 (by omega) (by rw [hj];simpa using ew) fin hs
 ·have hj:(i+(its.toArray.size:Int)).toNat=j:=by
   rw [seqIndex_neg (by omega) h4] at h1
   rw [Wo,<-hl];exact WW h1
  exact subscriptTail_builtinR (x:=w) pl.isList.typeIs slot_list_getitem.lookup
   (wpAny_getItem_list_neg (Q:=λr s'=>r=w/\EP X pins σ Q r s') pl.isList (by omega) (by rw [Wo]<;>omega) (by omega) (by rw [hj];simpa using ew) ⟨rfl,fin⟩) hs
theorem OK:IxR X (Z1x X.K):=by
 intro value slice pins s σ H x y v u Q I rx ry h hs;obtain⟨p,xs,i,z,rfl,rfl,hq,he,q⟩:=h
 cases rx;obtain⟨t,rfl⟩:=ry
 obtain⟨its,r,pl,hz⟩:=I.tuple hq
 obtain⟨j,h1,h2,h3,h4,h5⟩:=Mm he
 obtain⟨w,ew,rw'⟩:=r.get h2
 have hl:=r.length
 have hn:=TC
 have fin:EP X pins σ Q w s:=⟨z,H,I,rw',q⟩
 exact subscriptTail_builtinR (x:=w) pl.typeIs slot_tuple_getitem.lookup
  (getItem_tuple (j:=j) (Q:=λr s'=>r=w/\EP X pins σ Q r s') pl (by omega) (by omega) (by rw [Wo,<-hl];exact h1) (by simpa using ew) ⟨rfl,fin⟩) hs
theorem OL:IxR X Z1y:=by
 intro value slice pins s σ H x y v u Q I rx ry h hs;obtain⟨z,i,c,rfl,rfl,hz,he,q⟩:=h
 obtain⟨t,rfl⟩:=rx
 obtain⟨t',rfl⟩:=ry
 obtain⟨j,h1,h2,h3,h4,h5⟩:=Mm he
 have hl:z.cps.toList.length=z.length:=by simp [Str.length]
 rw [hl] at h1 h4 h5;have hn:=TC
 exact tail_any (typeIs_str s z t) slot_str_getitem.lookup (getItem_str (c:=c) (by
  have e1:decide (i < -(2 ^ 63:Int))=false:=decide_eq_false (by omega)
  have e2:decide (i>=2 ^ 63)=false:=decide_eq_false (by omega)
  rw [e1,e2,Bool.or_false]) (by rw [h1];simpa using h2) ⟨.str ⟨#[c]⟩,H,I.tok _,⟨_,rfl⟩,q⟩) hs
def rIx (K:W8):R2:=λx y H Q=>Z1z K x y H Q\/Z1x K x y H Q\/Z1y x y H Q
theorem OM:IxR X (rIx X.K):=SH.or (OK.or OL)
theorem KL (its:List Value)(n j:Nat)(u:Value):Vo (·.setIfInBounds j u) { cls:=.type "list",data:=.seq its.toArray n }={ cls:=.type "list",data:=.seq (its.set j u).toArray n }:=by
 simp [Vo]
theorem Inv.lst {pins:List (Addr×Obj)}{σ:St}{H:Hp}{s:Shared}{p:Addr}{xs:List V}(I:Inv X pins σ H s)(h:H p=some (.lst xs)) :
  ∃(its:List Value) (n:Nat),ZZ xs its/\s.heap.get? p=some { cls:=.type "list",data:=.seq its.toArray n }/\xs.length<=Wk:=by
 obtain⟨z,its,n,r,e⟩:=I.hok p _ h
 exact⟨its,n,r,e,z⟩
theorem Inv.lstUpd {pins:List (Addr×Obj)}{σ:St}{H:Hp}{s:Shared}{p:Addr}{xs ys:List V}{its its':List Value}{n n':Nat}{f:Obj->Obj}(I:Inv X pins σ H s)(h:H p=some (.lst xs))
  (ho:s.heap.get? p=some { cls:=.type "list",data:=.seq its.toArray n }) (hf:f { cls:=.type "list",data:=.seq its.toArray n }={ cls:=.type "list",data:=.seq its'.toArray n' }) (r:ZZ ys its') (hz:ys.length<=Wk) (t:Nat) :
  Inv X pins σ (upd H p (.lst ys)) { s with heap:=s.heap.update p f,toks:=t }:=by
 have e:(s.heap.update p f).get? p=some { cls:=.type "list",data:=.seq its'.toArray n' }:=by
  rw [VM f ho (by rw [hf]<;>rfl),hf]
 refine I.write (x:=p) (e:=p) (by rw [h];trivial) (.inl rfl) (λb u hb q=>(Vu _ _ (Ne.symm hb)).trans q) ⟨_,e⟩ ?_
 exact⟨hz,its',n',r,e⟩
def Z0D:V->V->V->Hp->(Hp->Prop)->Prop:=λo i v H Q=>∃p xs k j,o = .ref p/\i = .int k/\H p=some (.lst xs)/\ixN xs.length k=some j/\Q (upd H p (.lst (xs.set j v)))
theorem FM:Hm X Z0D:=by
 intro pins s σ H o i v ov iv u Q I ro ri rv h;obtain⟨p,xs,k,j,rfl,rfl,hp,hj,q⟩:=h
 cases ro;obtain⟨t,rfl⟩:=ri
 obtain⟨its,n,r,ho,hz⟩:=I.lst hp
 obtain⟨h1,h2,h3,h4⟩:=Ll hj
 have hl:=r.length
 have hn:=TC
 have I':Inv X pins σ (upd H p (.lst (xs.set j v))) { s with heap:=s.heap.update p (Vo (·.setIfInBounds j u)) }:=
  I.lstUpd hp ho (KL its n j u) (r.set rv j) (by rw [List.length_set];exact hz) s.toks
 by_cases h0:0<=k
 ·have hk:k.toNat=j:=by
   rw [seqIndex_of h0 h4] at h1;exact WW h1
  exact PySem.W.ki_setAt ho h0 (by omega) (by rw [Wo,<-hl];exact h4) (by rw [hk];exact⟨_,I',q⟩)
 ·have hk:(k+(its.toArray.size:Int)).toNat=j:=by
   rw [seqIndex_neg (by omega) h3] at h1
   rw [Wo,<-hl];exact WW h1
  exact PySem.W.ki_setBack ho (by omega) (by rw [Wo,<-hl];exact h3) (by omega) (by rw [hk];exact⟨_,I',q⟩)
theorem Nl:J8 X (.builtin "len") (λxs H Q=>∃p ys,xs=[.ref p]/\(SqL X.K H p ys\/SqT X.K H p ys)/\Q (.int ys.length) H):=by
 intro pins s σ H xs us Q I r h;obtain⟨p,ys,rfl,hq,q⟩:=h
 obtain⟨u,rfl,rx⟩:=UU r
 cases rx;have hn:=TC
 rcases hq with hq|hq
 ·obtain⟨its,r',pl,hz⟩:=I.list hq
  have hlen:=r'.length
  exact Calls.call_len_list pl.isList (by simp only [Wo]<;>omega) ⟨.int ys.length,H,I.tok _,⟨s.toks+1,by rw [Wo,hlen]⟩,q⟩
 ·obtain⟨its,r',pl,hz⟩:=I.tuple hq
  have hlen:=r'.length
  exact len_tuple pl (by simp only [Wo]<;>omega) ⟨.int ys.length,H,I.tok _,⟨s.toks+1,by rw [Wo,hlen]⟩,q⟩
theorem Nk:J8 X (.builtin "len") (λxs H Q=>∃z,xs=[.str z]/\z.length<=Wk/\Q (.int z.length) H):=by
 intro pins s σ H xs us Q I r h;obtain⟨z,rfl,hz,q⟩:=h
 obtain⟨u,rfl,t,rfl⟩:=UU r
 have hn:=TC
 exact len_str (by omega) ⟨.int z.length,H,I.tok _,⟨_,rfl⟩,q⟩
theorem J8.or {f:Value}{r r':List V->Hp->VK->Prop}(h:J8 X f r)(h':J8 X f r'):J8 X f (λxs H Q=>r xs H Q\/r' xs H Q):=by
 intro pins s σ H xs us Q I rs q;rcases q with q|q
 ·exact h pins s σ H xs us Q I rs q
 ·exact h' pins s σ H xs us Q I rs q
theorem Ug:J8 X (.type "tuple") (λxs H Q=>∃p ys,xs=[.ref p]/\((SqL X.K H p ys/\∀l,H l=none->Q (.ref l) (upd H l (.tup ys)))\/(SqT X.K H p ys/\Q (.ref p) H))):=by
 intro pins s σ H xs us Q I r h;obtain⟨p,ys,rfl,h⟩:=h
 obtain⟨u,rfl,rx⟩:=UU r
 cases rx;rcases h with ⟨hq,q⟩|⟨hq,q⟩
 ·obtain⟨its,r',pl,hz⟩:=I.list hq
  have hlen:=r'.length
  refine call_tuple_list pl.isList (λh' kp=>?_) (by simp only [Wo]<;>omega)
  have I1:Inv X pins σ H { s with heap:=h' }:=I.kept (t':=s.toks) kp
  have I2:Inv X pins σ (upd H h'.objs.size (.tup ys)) { s with heap:=h'.push { cls:=.type "tuple",data:=.seq its.toArray } }:=
   I1.laid (t':=s.toks) (λb o e=>Wj _ e) (Wq _) (show ZL X.prog X.w _ _ _ (.tup ys) from ⟨hz,its,r',Hi.new _ _⟩)
  exact⟨.ref h'.objs.size,_,I2,rfl,q _ (I1.hok.fresh (Wq _))⟩
 ·obtain⟨its,r',pl,hz⟩:=I.tuple hq
  exact call_tuple_same pl ⟨.ref p,H,I,rfl,q⟩
def tyV (K:W8)(T:String)(x:V)(H:Hp):Prop:=match x with
 | .str _=>T = "str"
 | .int _=>T = "int"
 | .ref p=>(T = "list"/\∃xs,SqL K H p xs)\/(T = "tuple"/\∃o,K.lookup p=some o/\o.cls = .type "tuple"/\o.dict=none)\/
   (T = "dict"/\((∃kvs,H p=some (.dK kvs))\/∃kvs,H p=some (.dT kvs)))\/(T = "set"/\∃S n,H p=some (.set S n))
 |_=>False
theorem E9 {pins:List (Addr×Obj)}{σ:St}{H:Hp}{s:Shared}{T:String}{x:V}{v:Value}(I:Inv X pins σ H s)(r:ZC x v)(ty:tyV X.K T x H) :
  s.TypeIs v T/\∀a,v = .ref a->∃ob,s.heap.get? a=some ob/\ob.dict=none:=by
 cases x with
 |str z=>
  obtain⟨t,rfl⟩:=r
  cases (show T = "str" from ty)
  exact⟨typeIs_str s z t,λ_ e=>nomatch e⟩
 |int i=>
  obtain⟨t,rfl⟩:=r
  cases (show T = "int" from ty)
  exact⟨typeIs_int s i t,λ_ e=>nomatch e⟩
 |ref p=>
  cases r;rcases ty with ⟨rfl,xs,hq⟩|⟨rfl,o,hk,hc,hd⟩|⟨rfl,hk⟩|⟨rfl,S,n,hk⟩
  ·obtain⟨its,_,pl,_⟩:=I.list hq
   refine⟨pl.isList.typeIs,λa e=>?_⟩
   cases e;obtain⟨o,n,e,c,hd,_⟩:=pl
   exact⟨o,e,hd⟩
  ·refine⟨⟨o,I.kIn p o hk,hc⟩,λa e=>?_⟩
   cases e;exact⟨o,I.kIn _ o hk,hd⟩
  ·have z:∃o,s.heap.get? p=some o/\o.ExactDict:=by
    rcases hk with ⟨kvs,hk⟩|⟨kvs,hk⟩
    ·obtain⟨_,_,_,_,o,_,_,e,ex,_⟩:=I.hok p _ hk
     exact⟨o,e,ex⟩
    ·obtain⟨_,_,_,_,o,_,_,e,ex,_⟩:=I.hok p _ hk
     exact⟨o,e,ex⟩
   obtain⟨o,e,ex⟩:=z
   refine⟨⟨o,e,ex.1⟩,λa e2=>?_⟩
   cases e2;exact⟨o,e,ex.2.1⟩
  ·obtain⟨o,_,_,_,e,ex,_⟩:=I.hok p _ hk
   refine⟨⟨o,e,ex.1⟩,λa e2=>?_⟩
   cases e2;exact⟨o,e,ex.2.1⟩
 |_=>exact False.elim ty
def tBM (K:W8)(T:String)(r:V->List V->Hp->VK->Prop)(to:TE)(t:TA):TE:=λσ H Q=>to σ H λx H1=>tyV K T x H1/\t σ H1 λxs H2=>r x xs H2 Q
variable {o e:Expr} {es:List Expr} {to:TE} {t:TA} {name:Str} {apos cpos:Pos} {T id:String} {r:V->List V->Hp->VK->Prop}
theorem DF (pa:PlainAttrs T)(slot:Slot T name id)(hty:typeOf (.builtin id)=pure (.type "method_descriptor"))(hm:MtR X id r)(ho:PE X o to)(ha:PA X (e :: es) t)
  (hbase:attributeBase o name X.env (eval o X.env)=eval o X.env:=by rfl)
  (hfew:((backTo cpos (Wr (e :: es) X.env)).all (λx=>!x.1)&&(backToKw cpos (keywordEach [] X.env)).all (λx=>x.1.isSome)
   && decide ((e :: es).length+([]:List Keyword).length+(if ([]:List Keyword).isEmpty then 0 else 1)<30))=true:=by rfl)
  (hline:(apos.endLine == cpos.line)=true:=by rfl) (hs:Wr (e :: es) X.env=(false,eval e X.env) :: Wr es X.env:=by rfl) (hplain:(backTo cpos (Wr es X.env)).any (·.1)=false:=by rfl) :
  PE X (.Call (.Attribute o name apos) (e :: es) [] cpos) (tBM X.K T r to t):=by
 intro pins s σ H Q I h;refine wpAny_Call_method_late hbase hfew hline rfl (thn (ho pins s σ H _ I h) λv s1 ⟨x,H1,I1,r1,ty,q1⟩=>?_)
 obtain⟨h1,h2⟩:=E9 I1 r1 ty
 refine⟨T,id,pa,slot,hty,h1,h2,?_⟩
 have hA:=ha cpos pins s1 σ H1 _ I1 q1
 rw [hs] at hA ⊢
 refine W0Q (by show (false||(backTo cpos (Wr es X.env)).any (·.1))=false;rw [hplain]<;>rfl) (W21 ?_)
 exact thn hA λus s2 ⟨vs,H2,I2,r2,q2⟩=>hm pins s2 σ H2 x vs v us Q I2 r1 r2 q2
/- xs.append(e),list.index on a module's tuple .. are MtR facts of 06m -/
end
end L2
namespace L2
open PySem PySem.Spec PyProof.Rows
def MtM (X:Cx)(id:String)(r:V->List V->Hp->VK->Prop):Prop:=
 ∀(pins:List (Addr×Obj)) (s:Shared) (σ:St) (H:Hp) (x:V) (xs:List V) (v:Value) (us:List Value) (Q:VK),Inv X pins σ H s->ZC x v->ZZ xs us->r x xs H Q->
  wpAny (model X.prog X.w) X.A (call (.builtin id) (v :: us)) (EP X pins σ Q) X.xe s
theorem ZZ.one:∀{x:V} {us:List Value},ZZ [x] us->∃u,us=[u]/\ZC x u
 |_,_,.cons r .nil=>⟨_,rfl,r⟩
section
variable {X:Cx} {pins:List (Addr×Obj)} {σ:St} {H:Hp} {s:Shared} {l b:Addr} {xs ys zs:List V}
theorem Inv.lset {its its':List Value}{n:Nat}{f:Array Value->Array Value}{t':Nat}(I:Inv X pins σ H s)(hH:H l=some (.lst xs))
  (e:s.heap.get? l=some { cls:=.type "list",data:=.seq its.toArray n }) (hf:f its.toArray=its'.toArray) (hv:ZZ ys its') (hz:ys.length<=Wk) :
  Inv X pins σ (upd H l (.lst ys)) { s with heap:=s.heap.update l (Vo f),toks:=t' }:=by
 have q:=PySem.IsL.update e f
 rw [hf] at q;refine I.write (x:=l) (e:=l) (by rw [hH];exact trivial) (.inl rfl) (λb' u hb hu=>(Vu s.heap (Vo f) (Ne.symm hb)).trans hu) ⟨_,q⟩ ?_
 exact⟨hz,its',_,hv,q⟩
theorem Inv.lnew {its:List Value}{t':Nat}(I:Inv X pins σ H s)(hv:ZZ ys its)(hz:ys.length<=Wk) :
  Inv X pins σ (upd H s.heap.objs.size (.lst ys)) { s with heap:=s.heap.push { cls:=.type "list",data:=.seq its.toArray },toks:=t' }:=
 I.laid (λ_ _ q=>Wj _ q) (Wq _) ⟨hz,its,0,hv,Ws _ rfl⟩
theorem Inv.fresh (I:Inv X pins σ H s):H s.heap.objs.size=none:=I.hok.fresh (Wq _)
theorem Inv.lstM (I:Inv X pins σ H s)(hH:H l=some (.lst xs)):xs.length<=Wk/\∃(its:List Value) (n:Nat),ZZ xs its/\xs.length=its.length/\s.heap.get? l=some { cls:=.type "list",data:=.seq its.toArray n }:=by
 obtain⟨z,its,n,r,e⟩:=I.hok l _ hH
 exact⟨z,its,n,r,r.length,e⟩
end
section
variable {X:Cx}
def HS:V->List V->Hp->VK->Prop:=λx vs H Q=>∃l xs y,x = .ref l/\vs=[y]/\H l=some (.lst xs)/\xs.length<Wk/\Q .non (upd H l (.lst (xs++[y])))
theorem Px:MtM X "list.append" HS:=by
 intro pins s σ H x vs v us Q I rx rv h;obtain⟨l,xs,y,rfl,rfl,hH,hz,q⟩:=h
 cases rx;obtain⟨u,rfl,ru⟩:=rv.one
 obtain⟨z,its,n,r,hl,e⟩:=I.lstM hH
 refine call_meets F.slot_list_append ⟨_,e,rfl⟩ F.entry_list_append (F.args_list_append_2 _ _) (PySem.list_append l its.toArray n u (by rw [Wo];omega)) ⟨e,?_⟩
 refine⟨.non,_,I.lset (its':=its++[u]) hH e (by simp) (r.append (.cons ru .nil)) ?_,rfl,q⟩
 rw [WC,W0g];omega
def Z2v:R2:=λx y H Q=>∃l b xs zs,x = .ref l/\y = .ref b/\H l=some (.lst xs)/\H b=some (.lst zs)/\xs.length+zs.length<=Wk/\∀p,H p=none->Q (.ref p) (upd H p (.lst (xs++zs)))
theorem DQ:OpR X (binaryOp .Add) Z2v:=by
 intro pins s σ H x y v u Q I rx ry h;obtain⟨l,b,xs,zs,rfl,rfl,hH,hB,hz,q⟩:=h
 cases rx;cases ry;obtain⟨z,its,n,r,hl,e⟩:=I.lstM hH
 obtain⟨z2,its2,n2,r2,hl2,e2⟩:=I.lstM hB
 refine PySem.P.add_list e e2 ?_ (by rw [Wo,Wo];omega)
 have ea:its.toArray++its2.toArray=(its++its2).toArray:=by simp
 rw [ea];exact⟨.ref _,_,I.lnew (t':=s.toks) (r.append r2) (by rw [WC];omega),rfl,q _ I.fresh⟩
end
section
variable {prog:Program} {w:World} {A:Around} {E:Value->Shared->Prop} {s:Shared}
end
section
variable {X:Cx}
end
end L2
namespace L2
open PySem PySem.Spec PyProof.Rows
section
variable {κ:Type} [DecidableEq κ]
def Rl (kvs:List (κ×V))(k:κ):Option V:=(kvs.find? λkv=>decide (kv.1=k)).map (·.2)
def G3 (kvs:List (κ×V))(k:κ)(v:V):List (κ×V):=
 if (kvs.any λkv=>decide (kv.1=k))=true then kvs.map (λkv=>if kv.1=k then (kv.1,v) else kv) else kvs++[(k,v)]
theorem T4 {p:κ×V}{r:List (κ×V)}{k:κ}(e:p.1=k):Rl (p :: r) k=some p.2:=by simp [Rl,VN,e]
theorem T5 {p:κ×V}{r:List (κ×V)}{k:κ}(e:¬p.1=k):Rl (p :: r) k=Rl r k:=by simp [Rl,VN,e]
theorem Mq (k:κ):∀kvs:List (κ×V),(kvs.any λkv=>decide (kv.1=k))=(Rl kvs k).isSome
 |[]=>rfl
 |p :: r=>by
  rw [W0Z];by_cases e:p.1=k
  ·simp only [T4 e,decide_eq_true e,Bool.true_or,Option.isSome_some]
  ·rw [T5 e,decide_eq_false e,Bool.false_or];exact Mq k r
theorem QV (kvs:List (κ×V))(k:κ)(v:V):(G3 kvs k v).length<=kvs.length+1:=by
 unfold G3;split
 ·rw [W7];omega
 ·rw [WC,WS,W1u];omega
theorem Bp.isSome_eq {o:Option V}{u:Option Value}(r:Bp o u):o.isSome=u.isSome:=by
 cases o with
 |none=>cases u with
  |none=>rfl
  |some _=>exact (show False from r).elim
 |some _=>cases u with
  |none=>exact (show False from r).elim
  |some _=>rfl
theorem Bp.getD {o:Option V}{u:Option Value}{d:V}{d':Value}(r:Bp o u)(rd:ZC d d'):ZC (o.getD d) (u.getD d'):=by
 cases o with
 |none=>cases u with
  |none=>exact rd
  |some _=>exact (show False from r).elim
 |some _=>cases u with
  |none=>exact (show False from r).elim
  |some _=>exact r
theorem KV.val {kvs:List (κ×V)}{vs:List (κ×Value)}(r:KV kvs vs)(k:κ):Bp (Rl kvs k) (valueAt vs k):=by
 unfold KV at r
 induction r with
 |nil=>exact True.intro
 | @cons p q ps qs h t ih=>
  obtain⟨h1,h2⟩:=h
  by_cases e:p.1=k
  ·have e':q.1=k:=h1.symm.trans e
   have b:valueAt (q :: qs) k=some q.2:=by simp [valueAt,VN,e']
   rw [T4 e,b];exact h2
  ·have e':¬q.1=k:=λz=>e (h1.trans z)
   have b:valueAt (q :: qs) k=valueAt qs k:=by simp [valueAt,VN,e']
   rw [T5 e,b];exact ih
theorem KV.any {kvs:List (κ×V)}{vs:List (κ×Value)}(r:KV kvs vs)(k:κ):(kvs.any λkv=>decide (kv.1=k))=vs.any λkv=>decide (kv.1=k):=by
 unfold KV at r
 induction r with
 |nil=>rfl
 |cons h t ih=>rw [W0Z,W0Z,ih,h.1]
theorem KV.repl {kvs:List (κ×V)}{vs:List (κ×Value)}(r:KV kvs vs)(k:κ){y:V}{u:Value}(ry:ZC y u) :
  KV (kvs.map λkv=>if kv.1=k then (kv.1,y) else kv) (vs.map λkv=>if kv.1=k then (kv.1,u) else kv):=by
 unfold KV at r ⊢
 induction r with
 |nil=>exact .nil
 | @cons p q ps qs h t ih=>
  rw [W1,W1];refine .cons ?_ ih
  obtain⟨h1,h2⟩:=h
  by_cases e:p.1=k
  ·rw [if_pos e,if_pos (h1.symm.trans e)];exact⟨h1,ry⟩
  ·rw [if_neg e,if_neg (λz=>e (h1.trans z))];exact⟨h1,h2⟩
theorem KV.put {kvs:List (κ×V)}{vs:List (κ×Value)}(r:KV kvs vs)(k:κ){y:V}{u:Value}(ry:ZC y u):KV (G3 kvs k y) (stored vs k u):=by
 unfold G3 stored;rw [r.any k];by_cases e:(vs.any λkv=>decide (kv.1=k))=true
 ·rw [if_pos e,if_pos e];exact r.repl k ry
 ·rw [if_neg e,if_neg e];exact Paired.snoc r ⟨rfl,ry⟩
theorem KV.length {kvs:List (κ×V)}{vs:List (κ×Value)}(r:KV kvs vs):kvs.length=vs.length:=W0X r
end
theorem G7 {P:Program}{w:World}{k:Key}{u:Value}(r:ZC (kV k) u):(ZN P w).is k u=true:=by
 cases k with
 |inl i=>obtain⟨t,e⟩:=(show ∃t,u=Value.int i t from r);subst e;exact NX P w i t
 |inr x=>obtain⟨t,e⟩:=(show ∃t,u=Value.str x t from r);subst e;exact NW P w x t
theorem Na {P:Program}{w:World}:∀{ks:List Key} {us:List Value},ZZ (ks.map kV) us->ItemsAre (ZN P w) ks us
 |[],_,r=>by rw [We] at r;cases r;exact .nil
 |k :: ks,_,r=>by
  rw [W1] at r;cases r with
  |cons h t=>exact .cons (G7 h) (Na t)
abbrev KT (H:Hp):List (List Key×V)->List (List Key×Addr×Value)->Prop:=Paired λp q=>p.1=q.1/\H q.2.1=some (.tup (p.1.map kV))/\ZC p.2 q.2.2
theorem KT.val {H:Hp}{kvs:List (List Key×V)}{xs:List (List Key×Addr×Value)}(r:KT H kvs xs)(k:List Key):Bp (Rl kvs k) ((atKey xs k).map (·.2)):=by
 induction r with
 |nil=>exact True.intro
 | @cons p q ps qs h t ih=>
  obtain⟨h1,_,h2⟩:=h
  by_cases e:p.1=k
  ·have e':q.1=k:=h1.symm.trans e
   have b:atKey (q :: qs) k=some q.2:=by simp [atKey,VN,e']
   rw [T4 e,b];exact h2
  ·have e':¬q.1=k:=λz=>e (h1.trans z)
   have b:atKey (q :: qs) k=atKey qs k:=by simp [atKey,VN,e']
   rw [T5 e,b];exact ih
theorem KT.repl {H:Hp}{kvs:List (List Key×V)}{xs:List (List Key×Addr×Value)}(r:KT H kvs xs)(k:List Key){y:V}{u:Value}(ry:ZC y u) :
  KT H (kvs.map λkv=>if kv.1=k then (kv.1,y) else kv) (xs.map (putAt k u)):=by
 induction r with
 |nil=>exact .nil
 | @cons p q ps qs h t ih=>
  rw [W1,W1];refine .cons ?_ ih
  obtain⟨h1,h2,h3⟩:=h
  unfold putAt;by_cases e:p.1=k
  ·rw [if_pos e,if_pos (h1.symm.trans e)];exact⟨h1,h2,ry⟩
  ·rw [if_neg e,if_neg (λz=>e (h1.trans z))];exact⟨h1,h2,h3⟩
theorem KT.put {H:Hp}{kvs:List (List Key×V)}{xs:List (List Key×Addr×Value)}(r:KT H kvs xs)(k:List Key){b:Addr}{y:V}{u:Value}(hb:H b=some (.tup (k.map kV)))(ry:ZC y u) :
  KT H (G3 kvs k y) (storedH xs k b u):=by
 have e:(kvs.any λkv=>decide (kv.1=k))=(atKey xs k).isSome:=by
  rw [Mq,(r.val k).isSome_eq,W2y]
 unfold G3 storedH;rw [e];by_cases q:(atKey xs k).isSome=true
 ·rw [if_pos q,if_pos q];exact r.repl k ry
 ·rw [if_neg q,if_neg q];exact Paired.snoc r ⟨rfl,hb,ry⟩
theorem KT.keeps {H H':Hp}{kvs:List (List Key×V)}{xs:List (List Key×Addr×Value)}(r:KT H kvs xs)(ht:∀b ys,H b=some (.tup ys)->H' b=some (.tup ys)):KT H' kvs xs:=
 Paired.mapP r λ_ _ z=>⟨z.1,ht _ _ z.2.1,z.2.2⟩
section
variable {P:Program} {w:World} {H:Hp} {h:Heap} {a:Addr}
theorem D9 {u:HO}(ok:HOk P w H h)(e:Rd H a u):ZL P w H h a u:=e.ok ok
theorem Gc {kvs:List (Key×V)}(ok:HOk P w H h)(e:Rd H a (.dK kvs)):kvs.length<=Wk/\(a == sysModules)=false/\∃vs,KV kvs vs/\h.DictOf (ZN P w) a vs:=
 show ZL P w H h a (.dK kvs) from D9 ok e
theorem XL {kvs:List (Key×V)}(ok:HOk P w H h)(e:H a=some (.dK kvs)):kvs.length<=Wk/\(a == sysModules)=false/\∃vs,KV kvs vs/\h.DictOf (ZN P w) a vs:=Gc ok (.inl e)
theorem TJ {ks:List Key}(ok:HOk P w H h)(e:H a=some (.tup (ks.map kV))):(tupleKind (ZN P w)).is h ks a:=by
 obtain⟨_,its,r,⟨o,h1,h2,n,h3⟩,_⟩:=(show ZL P w H h a (.tup (ks.map kV)) from ok a _ e)
 exact⟨o,its.toArray,n,h1,h2,h3,by simpa using Na r⟩
theorem Gb {kvs:List (List Key×V)}(ok:HOk P w H h)(e:Rd H a (.dT kvs)):kvs.length<=Wk/\(a == sysModules)=false/\
  ∃xs,KT H kvs xs/\h.DictOfH (tupleKind (ZN P w)) a xs:=by
 obtain⟨z,y,xs,r,o,es,ep,h1,h2,h3,h4,h5⟩:=(show ZL P w H h a (.dT kvs) from D9 ok e)
 refine⟨z,y,xs,r,o,es,ep,h1,h2,h3,h4,λx hx=>?_,h5⟩
 have all:∀{l:List (List Key×V)} {m:List (List Key×Addr×Value)},KT H l m->∀x∈m,(tupleKind (ZN P w)).is h x.1 x.2.1:=by
  intro l m q
  induction q with
  |nil=>intro x hx;exact nomatch hx
  | @cons p q ps qs hq t ih=>
   intro x hx;rcases Wv.mp hx with e|hx
   ·subst e
    exact TJ ok (by rw [<-hq.1];exact hq.2.1)
   ·exact ih x hx
 exact all r x hx
theorem Z1m {kvs:List (List Key×V)}(ok:HOk P w H h)(e:H a=some (.dT kvs)):kvs.length<=Wk/\(a == sysModules)=false/\
  ∃xs,KT H kvs xs/\h.DictOfH (tupleKind (ZN P w)) a xs:=Gb ok (.inl e)
end
def E7 (H:Hp)(a:Addr)(y:V)(r:Option V):Prop:=
 (∃kvs k,Rd H a (.dK kvs)/\y=kV k/\r=Rl kvs k)\/∃kvs k b,Rd H a (.dT kvs)/\y = .ref b/\H b=some (.tup (k.map kV))/\r=Rl kvs k
def Z2a (H:Hp)(a:Addr)(y v:V)(H':Hp):Prop:=
 (∃kvs k,H a=some (.dK kvs)/\y=kV k/\kvs.length<Wk/\H'=upd H a (.dK (G3 kvs k v)))\/
 ∃kvs k b,H a=some (.dT kvs)/\y = .ref b/\H b=some (.tup (k.map kV))/\kvs.length<Wk/\H'=upd H a (.dT (G3 kvs k v))
section
variable {X:Cx} {pins:List (Addr×Obj)} {σ:St} {H:Hp} {s:Shared} {a:Addr} {y v:V} {u r:Value} {o:Option V} {A:Around} {E:Value->Shared->Prop}
theorem Inv.big (I:Inv X pins σ H s):sysModules<s.heap.objs.size:=by
 have h:WJ<s.heap.objs.size:=(I.mod.glob.keeps I.bk).lt
 exact Nat.lt_trans (by decide) h
theorem LU {Q:Value->Shared->Prop}(hu:A.units+1<cLine)(I:Inv X pins σ H s)(g:E7 H a y (some v))(ry:ZC y u)(h:∀w' s',Inv X pins σ H s'->ZC v w'->Q w' s') :
  wpAny (model X.prog X.w) A (getItem (.ref a) u) Q E s:=by
 rcases g with ⟨kvs,k,e,ey,l⟩|⟨kvs,k,b,e,ey,eb,l⟩
 ·subst ey
  obtain⟨z,hd,vs,rel,dd⟩:=Gc I.hok e
  obtain⟨w',hw,rw'⟩:=Bp.some_of (v:=v) (o:=valueAt vs k) (by rw [l];exact rel.val k)
  exact wpAny_getItem_of (G7 ry) dd.mapOf hw (h w' _ (I.tok _) rw')
 ·subst ey
  cases (show u=Value.ref b from ry)
  obtain⟨z,hd,xs,rel,dd⟩:=Gb I.hok e
  obtain⟨w',hw,rw'⟩:=Bp.some_of (v:=v) (o:=(atKey xs k).map (·.2)) (by rw [l];exact rel.val k)
  obtain⟨p,hp,hp2⟩:=Wi.mp hw
  refine wpAny_getItem_heap (W0D hu) (TJ I.hok eb) dd hp ?_
  rw [hp2];exact h w' _ (I.tok _) rw'
theorem Z38 {Q:Value->Shared->Prop}(hu:A.units+1<cLine)(I:Inv X pins σ H s)(g:E7 H a y o)(ry:ZC y u)(h:∀s',Inv X pins σ H s'->Q (.bool o.isSome) s') :
  wpAny (model X.prog X.w) A (compareOp .In u (.ref a)) Q E s:=by
 rcases g with ⟨kvs,k,e,ey,l⟩|⟨kvs,k,b,e,ey,eb,l⟩
 ·subst ey
  obtain⟨z,hd,vs,rel,dd⟩:=Gc I.hok e
  refine wpAny_in_of (G7 ry) hd dd.mapOf ?_
  rw [<-(rel.val k).isSome_eq,<-l];exact h _ (I.tok _)
 ·subst ey
  cases (show u=Value.ref b from ry)
  obtain⟨z,hd,xs,rel,dd⟩:=Gb I.hok e
  refine wpAny_in_heap (W0D hu) (TJ I.hok eb) hd dd ?_
  have q:=(rel.val k).isSome_eq
  rw [W2y] at q;rw [<-q,<-l];exact h _ (I.tok _)
theorem Il {Q:Value->Shared->Prop}(hu:A.units+1<cLine)(I:Inv X pins σ H s)(g:E7 H a y o)(ry:ZC y u)(h:∀s',Inv X pins σ H s'->Q (.bool (!o.isSome)) s') :
  wpAny (model X.prog X.w) A (compareOp .NotIn u (.ref a)) Q E s:=by
 rcases g with ⟨kvs,k,e,ey,l⟩|⟨kvs,k,b,e,ey,eb,l⟩
 ·subst ey
  obtain⟨z,hd,vs,rel,dd⟩:=Gc I.hok e
  refine wpAny_notIn_of (G7 ry) hd dd.mapOf ?_
  rw [<-(rel.val k).isSome_eq,<-l];exact h _ (I.tok _)
 ·subst ey
  cases (show u=Value.ref b from ry)
  obtain⟨z,hd,xs,rel,dd⟩:=Gb I.hok e
  refine wpAny_notIn_heap (W0D hu) (TJ I.hok eb) hd dd ?_
  have q:=(rel.val k).isSome_eq
  rw [W2y] at q;rw [<-q,<-l];exact h _ (I.tok _)
theorem UG {h':Heap}{t':Nat}{ob:HO}(I:Inv X pins σ H s)(mu:Mut (H a))(hs:W01 a s.heap h')(he:∃q,h'.get? a=some q)(new:ZL X.prog X.w (upd H a ob) h' a ob) :
  Inv X pins σ (upd H a ob) { s with heap:=h',toks:=t' }:=
 I.write (x:=a) (e:=a) mu (.inl rfl) (λb q hb z=>(hs.2 b hb).trans z) he new
theorem Hc {P:Program}{w:World}{H':Hp}{h':Heap}{kvs:List (Key×V)}{vs:List (Key×Value)}(z:kvs.length<=Wk)(hd:(a == sysModules)=false)(rel:KV kvs vs)(dd:h'.DictOf (ZN P w) a vs) :
  ZL P w H' h' a (.dK kvs):=⟨z,hd,vs,rel,dd⟩
theorem TV {H':Hp}{Q:Unit->Shared->Prop}(hu:A.units+1<cLine)(I:Inv X pins σ H s)(g:Z2a H a y v H')(ry:ZC y u)(rv:ZC v r)(h:∀s',Inv X pins σ H' s'->Q () s') :
  wpAny (model X.prog X.w) A (setItem (.ref a) u r) Q E s:=by
 rcases g with ⟨kvs,k,e,ey,l,eH⟩|⟨kvs,k,b,e,ey,eb,l,eH⟩
 ·subst ey eH
  obtain⟨z,hd,vs,rel,dd⟩:=XL I.hok e
  have hz:vs.length<=Wk:=by rw [<-rel.length];exact z
  have hl:(G3 kvs k v).length<=Wk:=by have:=QV kvs k v;omega
  refine wpAny_setItem_pairs (hsz:=hz) (G7 ry) dd λh' dd' hs=>h _ ?_
  have he:∃q,h'.get? a=some q:=let ⟨q,_,_,hq,_⟩:=dd';⟨q,hq⟩
  exact UG I (by rw [e];exact True.intro) hs he (Hc hl hd (rel.put k rv) dd')
 ·subst ey eH
  cases (show u=Value.ref b from ry)
  obtain⟨z,hd,xs,rel,dd⟩:=Z1m I.hok e
  have hz:xs.length<=Wk:=by rw [<-W0X rel];exact z
  have hl:(G3 kvs k v).length<=Wk:=by have:=QV kvs k v;omega
  refine wpAny_setItem_heap (hsz:=hz) (W0D hu) (TJ I.hok eb) dd λh' dd' hs=>h _ ?_
  obtain⟨q,es,ep,hq,h2,h3,h4,_,h5⟩:=dd'
  refine UG I (by rw [e];exact True.intro) hs ⟨q,hq⟩ ⟨hl,hd,_,(rel.put k eb rv).keeps λc ys ec=>?_,q,es,ep,hq,h2,h3,h4,h5⟩
  rw [Zf (UW ec e (λz=>nomatch z))]
  exact ec
end
section
variable {X:Cx} {pins:List (Addr×Obj)} {σ:St} {H:Hp} {s:Shared} {a:Addr} {kvs:List (Key×V)} {k:Key} {u:Value} {A:Around} {E:Value->Shared->Prop}
theorem Z1o {Q:Value->Shared->Prop}(I:Inv X pins σ H s)(e:Rd H a (.dK kvs))(h:∀t s',Inv X pins σ H s'->Q (.int kvs.length t) s'):wpAny (model X.prog X.w) A (call (.builtin "len") [.ref a]) Q E s:=by
 obtain⟨z,hd,vs,rel,dd⟩:=Gc I.hok e
 refine call_len_dict hd dd (by rw [<-rel.length];rw [W0J] at z;omega) ?_
 rw [<-rel.length];exact h _ _ (I.tok _)
theorem Ik {Q:Bool->Shared->Prop}(I:Inv X pins σ H s)(e:Rd H a (.dK kvs))(h:∀s',Inv X pins σ H s'->Q (!kvs.isEmpty) s'):wpAny (model X.prog X.w) A (truthy (.ref a)) Q E s:=by
 obtain⟨z,hd,vs,rel,dd⟩:=Gc I.hok e
 refine wpAny_truthy_dict hd dd (by rw [<-rel.length];rw [W0J] at z;omega) ?_
 have q:kvs.isEmpty=vs.isEmpty:=by cases rel<;>rfl
 rw [<-q];exact h _ (I.tok _)
end
theorem Mg {X:Cx}{pins:List (Addr×Obj)}{σ:St}{H:Hp}{s:Shared}{a:Addr}{y:V}{o:Option V}(I:Inv X pins σ H s)(g:E7 H a y o):s.TypeIs (.ref a) "dict":=by
 rcases g with ⟨kvs,k,e,_,_⟩|⟨kvs,k,b,e,_,_,_⟩
 ·obtain⟨_,_,vs,_,dd⟩:=Gc I.hok e
  exact dd.typeIs
 ·obtain⟨_,_,xs,_,dd⟩:=Gb I.hok e
  exact dd.typeIs
section
variable {X:Cx} {o i e value:Expr} {pos pos' tpos:Pos} {td ty tv:TE}
end
theorem Kk {P:Program}{w:World}{H:Hp}(h:Heap)(hb:sysModules<h.objs.size):ZL P w H (h.push { cls:=.type "dict",data:=.dict #[] }) h.objs.size (.dK []):=
 ⟨Vx _,beq_eq_false_iff_ne.mpr (Ne.symm (WG hb)),[],.nil,Heap.DictOf.new h⟩
def D0:TE:=λ_ H Q=>∀p,H p=none->Q (.ref p) (upd H p (.dK []))
section
variable {X:Cx} {pos:Pos}
theorem A8:PE X (.Dict [] [] pos) D0:=λpins s σ H Q I h=>
 wpAny_Dict_empty ⟨.ref s.heap.objs.size,_,I.laid (a:=s.heap.objs.size) (o:=.dK []) (t':=s.toks) (λ_ _ q=>Wj _ q) (Wq _) (Kk s.heap I.big),rfl,h _ (I.hok.fresh (Wq _))⟩
end
def Qe (kvs more:List (Key×V)):List (Key×V):=more.foldl (λacc kv=>G3 acc kv.1 kv.2) kvs
structure M1 (X:Cx) (o:Expr) (m:Str) (apos:Pos) (e:Expr) (cpos:Pos):Prop where
 base:attributeBase o m X.env (eval o X.env)=eval o X.env
 few:((backTo cpos (Wr [e] X.env)).all (λx=>!x.1)&&(backToKw cpos (keywordEach [] X.env)).all (λx=>x.1.isSome)
  && decide (([e]:List Expr).length+([]:List Keyword).length+(if ([]:List Keyword).isEmpty then 0 else 1)<30))=true
 line:(apos.endLine == cpos.line)=true
 trees:backTo cpos (Wr [e] X.env)=[(false,eval e X.env)]
structure M2 (X:Cx) (o:Expr) (m:Str) (apos:Pos) (e f:Expr) (cpos:Pos):Prop where
 base:attributeBase o m X.env (eval o X.env)=eval o X.env
 few:((backTo cpos (Wr [e,f] X.env)).all (λx=>!x.1)&&(backToKw cpos (keywordEach [] X.env)).all (λx=>x.1.isSome)
  && decide (([e,f]:List Expr).length+([]:List Keyword).length+(if ([]:List Keyword).isEmpty then 0 else 1)<30))=true
 line:(apos.endLine == cpos.line)=true
 trees:backTo cpos (Wr [e,f] X.env)=[(false,eval e X.env),(false,eval f X.env)]
def IsD (H:Hp)(a:Addr):Prop:=(∃kvs,Rd H a (.dK kvs))\/∃kvs,Rd H a (.dT kvs)
theorem Lr {X:Cx}{pins:List (Addr×Obj)}{σ:St}{H:Hp}{s:Shared}{a:Addr}(I:Inv X pins σ H s)(d:IsD H a) :
  s.TypeIs (.ref a) "dict"/\(∀b,Value.ref a = .ref b->∃ob,s.heap.get? b=some ob/\ob.dict=none)/\(a == sysModules)=false:=by
 rcases d with ⟨kvs,e⟩|⟨kvs,e⟩
 ·obtain⟨_,hd,vs,_,dd⟩:=Gc I.hok e
  refine⟨dd.typeIs,λb q=>?_,hd⟩
  cases q;obtain⟨ob,_,_,h1,h2,_⟩:=dd
  exact⟨ob,h1,h2.2.1⟩
 ·obtain⟨_,hd,xs,_,dd⟩:=Gb I.hok e
  refine⟨dd.typeIs,λb q=>?_,hd⟩
  cases q;obtain⟨ob,_,_,h1,h2,_⟩:=dd
  exact⟨ob,h1,h2.2.1⟩
section
variable {X:Cx} {pins:List (Addr×Obj)} {σ:St} {H:Hp} {s:Shared} {a:Addr} {y d:V} {u r:Value} {o:Option V} {A:Around} {E:Value->Shared->Prop}
theorem XO {Q:Value->Shared->Prop}(hu:A.units+1<cLine)(I:Inv X pins σ H s)(g:E7 H a y o)(ry:ZC y u)(h:∀w' s',Inv X pins σ H s'->ZC (o.getD .non) w'->Q w' s') :
  wpAny (model X.prog X.w) A (call (.builtin "dict.get") [.ref a,u]) Q E s:=by
 rcases g with ⟨kvs,k,e,ey,l⟩|⟨kvs,k,b,e,ey,eb,l⟩
 ·subst ey
  obtain⟨z,hd,vs,rel,dd⟩:=Gc I.hok e
  refine W1S W0h dd.typeIs W0R (PySem.F.args_dict_get_2 _ _) (meets_dict_get (ZN X.prog X.w) a (G7 ry) hd) ⟨_,dd.mapOf,h _ _ (I.tok _) ?_⟩
  rw [l];exact (rel.val k).getD rfl
 ·subst ey
  cases (show u=Value.ref b from ry)
  obtain⟨z,hd,xs,rel,dd⟩:=Gb I.hok e
  refine W1S W0h dd.typeIs W0R (PySem.F.args_dict_get_2 _ _) (meetsH_dict_get (tupleKind (ZN X.prog X.w)) a b hd) ⟨W0D hu,k,xs,TJ I.hok eb,dd,h _ _ (I.tok _) ?_⟩
  rw [l];exact (rel.val k).getD rfl
theorem XN {Q:Value->Shared->Prop}(hu:A.units+1<cLine)(I:Inv X pins σ H s)(g:E7 H a y o)(ry:ZC y u)(rd:ZC d r)(h:∀w' s',Inv X pins σ H s'->ZC (o.getD d) w'->Q w' s') :
  wpAny (model X.prog X.w) A (call (.builtin "dict.get") [.ref a,u,r]) Q E s:=by
 rcases g with ⟨kvs,k,e,ey,l⟩|⟨kvs,k,b,e,ey,eb,l⟩
 ·subst ey
  obtain⟨z,hd,vs,rel,dd⟩:=Gc I.hok e
  refine W1S W0h dd.typeIs W0R (PySem.F.args_dict_get_3 _ _ _) (meets_dict_get_default (ZN X.prog X.w) a (G7 ry) hd r) ⟨_,dd.mapOf,h _ _ (I.tok _) ?_⟩
  rw [l];exact (rel.val k).getD rd
 ·subst ey
  cases (show u=Value.ref b from ry)
  obtain⟨z,hd,xs,rel,dd⟩:=Gb I.hok e
  refine W1S W0h dd.typeIs W0R (PySem.F.args_dict_get_3 _ _ _) (meetsH_dict_get_default (tupleKind (ZN X.prog X.w)) a b hd r) ⟨W0D hu,k,xs,TJ I.hok eb,dd,h _ _ (I.tok _) ?_⟩
  rw [l];exact (rel.val k).getD rd
end
section
variable {X:Cx} {o e f:Expr} {apos cpos:Pos} {td ty tx:TE}
end
section
variable {X:Cx} {pins:List (Addr×Obj)} {σ:St} {H:Hp} {s:Shared} {a:Addr} {kvs:List (Key×V)} {A:Around} {E:Value->Shared->Prop}
end
section
variable {X:Cx} {pins:List (Addr×Obj)} {σ:St} {H:Hp} {s:Shared} {a:Addr} {y:V} {u:Value} {A:Around} {E:Value->Shared->Prop}
end
end L2
namespace Att
open PySem PySem.W PySem.Calls PyProof.Rows
theorem TL {P:Params}{h:Heap}:∀(ns:List Int) (vs:List Value),WellAll P h vs (ns.map WData.int)->IntsAre vs ns:=by
 intro ns
 induction ns with
 |nil=>
  intro vs w;rw [We] at w;cases w;exact .nil
 |cons n ns ih=>
  intro vs w;rw [W1] at w;cases w with
  |cons a b=>
   cases a;exact .cons _ _ (ih _ b)
theorem RU {l:OpenLaw}{n:Nat}(hn:l.most=some n){P:Params}{h:Heap}{args:List WData}{vals:List Value}
  (hpre:l.row.toRowW.claim.pre args=true) (hwl:WellAll P h vals args) :
  ∃a vs ns,vals=[Value.ref a]/\args=[WData.list (ns.map WData.int)]/\h.get? a=some { cls:=.type "list",data:=.seq vs.toArray }/\IntsAre vs ns/\ns.length<=n:=by
 have hsh:WShape.hasAll [] args [.list .int]=true:=(pre_splitW hpre).1
 have hc:l.pre.holds [] { args:=args }=true:=(pre_splitW hpre).2
 obtain⟨d,r,rfl,h1,h2⟩:=hasAllW_cons hsh
 obtain rfl:=hasAllW_nil h2
 obtain⟨xs,rfl,h3⟩:=hasW_list h1
 obtain⟨ns,rfl⟩:=items_int h3
 have hlen:ns.length<=n:=by
  unfold OpenLaw.pre at hc;have h4:(WTm.not (.lt (.lit (.int (n:Int))) (.len (.arg 0)))).holds [] { args:=[.list (ns.map .int)] }=true:=by
   have h4:=(holds_andW hc).1
   rw [hn] at h4;exact h4
  have h5:=condW_of h4 (w_not (w_lt w_lit (w_len_list (w_arg rfl))))
  rw [W7] at h5;refine W0N λq=>?_
  have q':(n:Int)<((ns.length:Nat):Int):=by omega
  first
   | (rw [decide_eq_true q'] at h5;exact absurd h5 (by decide))
   | (simp at h5;omega)
 cases hwl with
 |cons w1 w2=>
  cases w2;cases w1 with
  |list ho hall=>exact⟨_,_,ns,rfl,rfl,ho,TL ns _ hall,hlen⟩
theorem Pe (l:OpenLaw)(args:List WData):l.row.toRowW.claim.post args (.bool true) args=true:=
 postW_of (r:=l.row.toRowW) (X:=(true == true))
  (show WShape.has [] (.bool true) .bool=true by first|rfl|decide|simp [WShape.has,WShape.arms,WShape.armsAll])
  (show (WTm.eq .res (.lit (.bool true))).value [] { args:=args,res:=some (.bool true),after:=args }=some (.bool (true == true)) from w_eq_bool (w_res rfl) w_lit) rfl
theorem attach_call {l:OpenLaw}{n:Nat}{q:Program}{loose:List Str}{XP:(Str->Option Value)->Heap->Prop}{YP:World->Heap->Prop}{d:DefRec}
  (hn:l.most=some n) (hdf:d.params.defaults=[])
  (call:∀(w:World) (s₀ s₁:Shared) (mg mb:Str->Option Value) (fa:Addr) (o:Obj) (pm cd doc:Value) (a:Addr) (vs:List Value) (ns:List Int),
   Ground q loose [] XP w s₀ mg mb s₁.heap->YP w s₁.heap->
   s₁.heap.get? fa=some o->o.data = .func (docDef d.name d.params d.body d.scope pm cd doc)->s₁.heap.CodeRec cd d.name->mg d.name=some (.ref fa)->
   s₁.heap.get? a=some { cls:=.type "list",data:=.seq vs.toArray }->IntsAre vs ns->ns.length<=n->s₁.gens = #[]->
   codeAny (model l.prog w) callerA (.call (.ref fa) ⟨[.ref a],[]⟩) (λr s'=>r = .ok (.ret (.bool true))/\OldK s₁.heap s'.heap/\s'.os=s₁.os/\AllBare s'.gens) s₁) :
  WalkO q loose XP YP l.row.toRowW d [] (λf vs=>PySem.call f vs):=by
 intro w s₀ s₁ mg mb G Y fa o pm cd doc dV kV ho hd hcd hD hmg hg args vals as hpre hlay hrd hwl hlo;obtain rfl:dV = .none:=Dflts.none hD hdf
 obtain rfl:kV = .none:=Dflts.noKw hD
 obtain⟨a,vs,ns,rfl,rfl,hobj,hints,hlen⟩:=RU hn hpre hwl
 refine enter_call (W1R (call w s₀ s₁ mg mb fa o pm cd doc a vs ns G Y ho (fd_plain hd) hcd hmg hobj hints hlen hg) λr s' hq=>?_)
 obtain⟨rfl,h2,h3,h4⟩:=hq
 exact⟨.inl ⟨.bool true,.bool true,[],rfl,λ_=>rfl,.bool true,Pe l _,λ_=>⟨List.Pairwise.nil,λ_ hm=>(nomatch hm)⟩⟩,h2,h3,h4⟩
section
variable {prog:Program} {w:World} {A:Around} {E:Value->Shared->Prop} {s:Shared} {K:Frag}
end
end Att
namespace L2
open PySem PySem.Spec PyProof.Rows
theorem Bt:∀{vs:List Value} {ns:List Int},IntsAre vs ns->ZZ (ns.map V.int) vs
 |_,_,.nil=>.nil
 |_,_,.cons n t h=>.cons ⟨t,rfl⟩ (Bt h)
def Z1u (H:Hp):Prop:=∀b,H b=none\/∃o xs,H b=some (.frz o (.lst xs))
theorem An {P:Program}{w:World}{K:W8}{mg mb:Str->Option Value}{CX:CXT}{k:Nat}{fa a:Addr}{fd:FuncData}{x:Str}{sp:Sp}{s₁:Shared}{vs:List Value}{ns:List Int}
  (KX:K.In s₁.heap) (hns:s₁.heap.Ns WJ mg) (hb:s₁.heap.Ns builtinsNs mb) (hbb:∀x:Str,x≠"__name__"->mb x=WK x) (hlim:s₁.heap.NoLimit) (hg:s₁.gens = #[])
  (ha:s₁.heap.get? a=some { cls:=.type "list",data:=.seq vs.toArray }) (hi:IntsAre vs ns) (hl:ns.length<=Wk) (hr:Room k callerA)
  (F:∀base:Heap,K.In base->base.Ns WJ mg->FnOk P w K mg base CX k fa fd [x] sp) (hbind:∀(s:Shared) (u:Value),BindsTo s fd ⟨[u],[]⟩ [(x,u)])
  (hsp:∀H:Hp,Z1u H->SqL K H a (ns.map V.int)->sp [.ref a] H (λv _=>v = .bl true) λ_ _ _=>False)
  (hCX:∀H e s',CX [] H s₁ (λ_ _ _=>False) e s'->False) :
  codeAny (model P w) callerA (.call (.ref fa) ⟨[.ref a],[]⟩) (λr s'=>r = .ok (.ret (.bool true))/\OldK s₁.heap s'.heap/\s'.os=s₁.os/\AllBare s'.gens) s₁:=by
 have rv:=Bt hi
 have lenV:=hi.length
 -- from an abstract heap in which nothing but the script may be tracked
 have core:∀H:Hp,Z1u H->SqL K H a (ns.map V.int)->HOk P w H s₁.heap->(∀b,H b≠none->b=a)->(H a≠none->K.lookup a=none)->
   codeAny (model P w) callerA (.call (.ref fa) ⟨[.ref a],[]⟩) (λr s'=>r = .ok (.ret (.bool true))/\OldK s₁.heap s'.heap/\s'.os=s₁.os/\AllBare s'.gens) s₁:=by
  intro H hO hS hok hA hK;have base_of:∀{b:Addr} {o:Obj},s₁.heap.get? b=some o->H b=none->(AA s₁.heap H).get? b=some o:=λe n=>Az e n
  have noA:∀{b:Addr} {o:Obj} {es:Array DictEntry} {ep:Nat},s₁.heap.get? b=some o->o.data = .dict es ep->H b=none:=λ{b o es ep} e d=>by
   cases q:H b with
   |none=>rfl
   |some u=>
    have e':b=a:=hA b (by rw [q];simp)
    subst e'
    rw [ha] at e;cases e
    have d':Data.seq vs.toArray _=Data.dict es ep:=d
    cases d'
  have nsK:∀{b:Addr} {m:Str->Option Value},s₁.heap.Ns b m->(AA s₁.heap H).Ns b m:=λ{b m} ⟨o,es,ep,e,d,r⟩=>⟨o,es,ep,base_of e (noA e d),d,r⟩
  have hKb:K.In (AA s₁.heap H):=λb o e=>base_of (KX b o e) (by
   cases q:H b with
   |none=>rfl
   |some u=>
    have e':b=a:=hA b (by rw [q];simp)
    subst e'
    rw [hK (by rw [q];simp)] at e;cases e)
  have hM:Mod K mg (AA s₁.heap H):=⟨hKb,nsK hns,⟨mb,nsK hb,hbb⟩,let ⟨mc,h1,h2⟩:=hlim;⟨mc,nsK h1,h2⟩⟩
  have e0:Env0 P w K mg (AA s₁.heap H) callerA [] s₁ H:=⟨rfl,hM,λb o e=>Sh e,Nat.le_of_eq (Ly _ _),trivial,λb hb=>absurd (show b∈([]:List Addr) from hb) (by simp),hok,.of_eq hg⟩
  refine W1R ((F _ hKb (nsK hns)).run callerA [] s₁ H ⟨[.ref a],[]⟩ [.ref a] [.ref a] _ _ hr e0 (hbind s₁ (.ref a)) (.cons rfl .nil) (hsp H hO hS)) λr s' h=>?_
  cases r with
  |error e=>exact (hCX H e s' h).elim
  |ok fl=>
   cases fl with
   |next=>exact False.elim h
   |brk=>exact False.elim h
   |cont=>exact False.elim h
   |ret u=>
    obtain⟨v,H',os,bare,un,hok',r',q⟩:=h
    have q':v = .bl true:=q
    subst q'
    obtain rfl:u=Value.bool true:=r'
    refine⟨rfl,OldK.of_keep λb o e=>?_,os,bare⟩
    cases q:H b with
    |none=>exact un.keep b o e q (by intro z;exact absurd (show b∈([]:List Addr) from z) (by simp)) (by simp)
    |some u=>
     rcases hO b with z|⟨ob,xs,z⟩
     ·rw [q] at z;cases z
     ·have z2:=un.frzs b ob _ z
      obtain⟨e1,_⟩:=hok b _ z
      obtain⟨e2,_⟩:=hok' b _ z2
      rw [e] at e1;cases e1
      exact e2
 cases hk:K.lookup a with
 |some o=>
  -- the script is one of the module's own objects
  have e:=KX a o hk
  rw [ha] at e;cases e;refine core (λ_=>none) (λ_=>.inl rfl) (.inr ⟨_,vs.toArray,_,hk,rfl,rfl,rfl,by rw [Wo,lenV];exact hl,by simpa using rv⟩) (λb u z=>by have z':(none:Option HO)=some u:=z;cases z') (λb z=>absurd rfl z) λz=>absurd rfl z
 |none=>
  refine core (λb=>if b=a then some (.frz { cls:=.type "list",data:=.seq vs.toArray } (.lst (ns.map V.int))) else none) (λb=>?_) (.inl (.inr ⟨{ cls:=.type "list",data:=.seq vs.toArray },if_pos rfl⟩)) (λb u z=>?_) (λb z=>?_) λ_=>hk
  ·by_cases hb:b=a
   ·exact .inr ⟨_,_,if_pos hb⟩
   ·exact .inl (if_neg hb)
  ·by_cases hb:b=a
   ·have z':=(if_pos hb).symm.trans z
    cases z'
    subst hb;exact⟨ha,by rw [W7];exact hl,vs,_,rv,ha⟩
   ·have z':=(if_neg hb).symm.trans z
    cases z'
  ·by_cases hb:b=a
   ·exact hb
   ·exact absurd (if_neg hb) z
end L2
namespace L2
open PySem PySem.Spec PyProof.Rows
theorem walk_of {l:PySem.W.OpenLaw}{n k:Nat}{q:Program}{loose:List Str}{XP:(Str->Option Value)->Heap->Prop}{YP:World->Heap->Prop}{d:DefRec}{K:Params->W8}{CX:World->CXT}{sp:World->Sp}{x:Str}
  (hn:l.most=some n) (hn2:n<=Wk) (hdf:d.params.defaults=[]) (hr:Room k callerA)
  (hY:∀(w:World) (h:Heap),YP w h->(K w.params).In h)
  (F:∀(w:World) (mg:Str->Option Value) (fa:Addr) (h:Heap),(K w.params).In h->h.Ns WJ mg->mg d.name=some (.ref fa)->
   ∃fd:FuncData,(∀(s:Shared) (u:Value),BindsTo s fd ⟨[u],[]⟩ [(x,u)])/\
    ∀base:Heap,(K w.params).In base->base.Ns WJ mg->FnOk l.prog w (K w.params) mg base (CX w) k fa fd [x] (sp w))
  (hsp:∀(w:World) (H:Hp) (a:Addr) (ns:List Int),ns.length<=n->Z1u H->SqL (K w.params) H a (ns.map V.int)->sp w [.ref a] H (λv _=>v = .bl true) λ_ _ _=>False)
  (hCX:∀(w:World) (H:Hp) (s:Shared) (e:Value) (s':Shared),CX w [] H s (λ_ _ _=>False) e s'->False) :
  PySem.W.WalkO q loose XP YP l.row.toRowW d [] (λf vs=>PySem.call f vs):=by
 refine Att.attach_call hn hdf λw s₀ s₁ mg mb fa o pm cd doc a vs ns G Y ho hd hcd hmg hobj hints hlen hg=>?_
 have KX:=hY w _ Y
 obtain⟨fd,hb,hF⟩:=F w mg fa _ KX G.T.g hmg
 exact An KX G.T.g G.T.b G.T.builtins G.T.nolimit hg hobj hints (V7 hlen hn2) hr hF hb (λH hO hS=>hsp w H a ns hlen hO hS) λH e s'=>hCX w H s₁ e s'
end L2
/- THE LAST THEOREM (shape;LID,My.* are yours):
 My.Adr: a structure of the addresses that your layer names (classes,functions);My.Txt K t: a structure (Prop) of the equations over K;
 My.txt_mk:{K} {implicit addresses ..} (e1:nsIn K WJ "law" = some (some (.ref f))) (e2:K.lookup f=some ⟨oc,od,.func (fnOf "law" "law" params body scope dV kV doc pm an cdv ct),sl⟩) (e3:codeIn K cdv "law" = true) .. : ∃t,My.Txt K t
set_option maxRecDepth 100000 in
set_option maxHeartbeats 0 in
(the tactic k_is has no namespace: write k_is) -/
namespace L2
open PySem PySem.Spec PyProof.Rows
def Zk (s:Stmt):Arguments:=match s with
 | .FunctionDef _ a _ _ _ _ _ _ _ _=>a
 |_=>{ posonlyargs:=[],args:=[],vararg:=none,kwonlyargs:=[],kw_defaults:=[],kwarg:=none,defaults:=[] }
def Zi (s:Stmt):List Stmt:=match s with
 | .FunctionDef _ _ b _ _ _ _ _ _ _=>b
 |_=>[]
def Z2 (s:Stmt):Scope:=match s with
 | .FunctionDef _ _ _ _ _ _ sc _ _ _=>sc
 |_=>{ kind:=.function,names:=[],isGenerator:=false,isCoroutine:=false }
abbrev CX0:CXT:=λ_ _ _ _ _ _=>False
abbrev E0:XK:=λ_ _ _=>False
theorem Aa {X:Cx}:G1 CX0 X E0:=λ_ _ _ _ _ _ _ h=>h.elim
structure Fun (K:W8) (x qual:Str) (st:Stmt) (f:Addr) (fd:FuncData):Prop where
 ex:∃(oc:Value) (od:Option Addr) (kV doc pm:Value) (an:Option Addr) (cdv ct:Value) (osl:Array (Option Value)),
  fd=WU x qual (Zk st) (Zi st) (Z2 st) .none kV doc pm an cdv ct/\K.lookup f=some ⟨oc,od,.func fd,osl⟩/\WQ K cdv qual=true
 kp:WI K (.ref f)=true
section
variable {P:Program} {w:World} {K:W8} {mg:Str->Option Value} {base:Heap}
theorem Fun.ok {x qual:Str}{st:Stmt}{f:Addr}{fd:FuncData}{N ps:List Str}{k:Nat}{sp:Sp}(F:Fun K x qual st f fd)(S:FnScope N ps (Z2 st))(len:∀vs H Q E,sp vs H Q E->vs.length=ps.length)
  (hbody:∀(cdv:Value) (A:Around) (outer:List Env) (s:Shared) (H:Hp) (vs:List V) (Q:VK) (E:XK),Room k (A.deeper (envOfC qual (Z2 st) s.heap.objs.size f cdv))->sp vs H Q E->
   ∃t,PSs (Ip CX0 P w K mg base N qual (Z2 st) f cdv A outer s H E).nox (Zi st) t/\t { nx:=λ_ H'=>Q .non H',rt:=Q } (start N vs) H):FnOk P w K mg base CX0 (k+1) f fd ps sp:=by
 obtain⟨oc,od,kV,doc,pm,an,cdv,ct,osl,rfl,lk,hcd⟩:=F.ex
 refine Z1j lk hcd S len λA outer s H vs Q E hr hsp=>?_
 obtain⟨t,h,q⟩:=hbody cdv A outer s H vs Q E hr hsp
 exact⟨t,h.nox,q⟩
theorem Fun.binds {x qual:Str}{st:Stmt}{f:Addr}{fd:FuncData}{ps:List Str}(F:Fun K x qual st f fd)
  (h:∀(kV doc pm:Value) (an:Option Addr) (cdv ct:Value) (us:List Value),us.length=ps.length->bindArgs (WU x qual (Zk st) (Zi st) (Z2 st) .none kV doc pm an cdv ct) ⟨us,[]⟩=pure (ps.zip us)):JH K fd ps []:=by
 obtain⟨oc,od,kV,doc,pm,an,cdv,ct,osl,rfl,lk,hcd⟩:=F.ex
 exact .all (h kV doc pm an cdv ct)
theorem ZX {x qual:Str}{st:Stmt}{f:Addr}{oc:Value}{od an:Option Addr}{osl:Array (Option Value)}{kV doc pm cdv ct:Value}(l:K.lookup f=some ⟨oc,od,.func (WU x qual (Zk st) (Zi st) (Z2 st) .none kV doc pm an cdv ct),osl⟩)
  (c:WQ K cdv qual=true) (k:WI K (.ref f)=true):Fun K x qual st f (WU x qual (Zk st) (Zi st) (Z2 st) .none kV doc pm an cdv ct):=⟨⟨oc,od,kV,doc,pm,an,cdv,ct,osl,rfl,l,c⟩,k⟩
end
section
variable {X:Cx}
end
end L2
set_option maxHeartbeats 4000000
namespace L2
open PySem PySem.Spec PyProof.Rows
theorem U7 {α β:Type}{f:α->β->Sem (ForInStep β)}(g:α->β->β):∀(l:List α) (c:β),(∀x∈l,∀c,f x c=pure (.yield (g x c)))->
  forIn l c f=pure (l.foldl (λc x=>g x c) c)
 |[],_,_=>rfl
 |x :: l,c,h=>by
  rw [List.forIn_cons,h x Wp,pure_bind];exact U7 g l _ λy hy=>h y (Wu _ hy)
def J2 (env:Env)(cs:List (Str×Addr))(p:Str×NameKind):List (Str×Addr):=
 if p.2 == .free then (p.1,(env.cells.lookup p.1).getD 0) :: cs else cs
def Iq (scope:Scope)(env:Env):List (Str×Addr):=scope.names.foldl (J2 env) []
theorem He {env:Env}{x:Str}{c:Addr}:∀(l:List (Str×NameKind)) (acc:List (Str×Addr)),(x,c)∈l.foldl (J2 env) acc->
  (x,c)∈acc\/((x,NameKind.free)∈l/\c=(env.cells.lookup x).getD 0)
 |[],_,h=>.inl h
 |p :: l,acc,h=>by
  rcases He l _ h with q|⟨q,e⟩
  ·unfold J2 at q
   by_cases hp:p.2 == .free
   ·rw [if_pos hp] at q
    rcases Wv.mp q with q|q
    ·have e1:x=p.1:=congrArg Prod.fst q
     have e2:c=(env.cells.lookup p.1).getD 0:=congrArg Prod.snd q
     have e3:p.2 = .free:=by simpa using hp
     refine .inr ⟨?_,by rw [e1];exact e2⟩
     have e4:p=(x,NameKind.free):=by rw [e1,<-e3]
     rw [e4];exact Wp
    ·exact .inl q
   ·rw [if_neg hp] at q
    exact .inl q
  ·exact .inr ⟨Wu _ q,e⟩
theorem Kq {env:Env}{p:Str×Addr}:∀(l:List (Str×NameKind)) (acc:List (Str×Addr)),p∈acc->p∈l.foldl (J2 env) acc
 |[],_,h=>h
 |q :: l,acc,h=>by
  refine Kq l _ ?_
  unfold J2;split
  ·exact Wu _ h
  ·exact h
theorem Hf {env:Env}{x:Str}:∀(l:List (Str×NameKind)) (acc:List (Str×Addr)),(x,NameKind.free)∈l->∃c,(x,c)∈l.foldl (J2 env) acc
 |[],_,h=>by cases h
 |p :: l,acc,h=>by
  rcases Wv.mp h with h|h
  ·subst h
   refine⟨(env.cells.lookup x).getD 0,Kq l _ ?_⟩
   unfold J2;rw [if_pos (by rfl)]
   exact Wp
  ·exact Hf l _ h
theorem U0 {x:Str}{c:Addr}:∀{l:List (Str×Addr)},(x,c)∈l->∃c',l.lookup x=some c'
 |[],h=>by cases h
 |p :: l,h=>by
  obtain⟨n,a⟩:=p
  rw [VF];cases hx:x == n with
  |true=>exact⟨a,rfl⟩
  |false=>
   rcases Wv.mp h with h|h
   ·have e:x=n:=congrArg Prod.fst h
    rw [e] at hx;simp at hx
   ·exact U0 h
def Rk (scope:Scope)(env:Env):Prop:=∀x,(x,NameKind.free)∈scope.names->∃c,env.cells.lookup x=some c
theorem Q0 {scope:Scope}{env:Env}(h:Rk scope env){x:Str}{c:Addr}(e:(Iq scope env).lookup x=some c):(x,NameKind.free)∈scope.names/\env.cells.lookup x=some c:=by
 rcases He scope.names [] (W0a e) with q|⟨q,r⟩
 ·cases q
 ·obtain⟨c',hc⟩:=h x q
  rw [hc] at r;exact⟨q,by rw [hc,r];rfl⟩
theorem LW {scope:Scope}{env:Env}(h:Rk scope env){x:Str}(q:(x,NameKind.free)∈scope.names):∃c,(Iq scope env).lookup x=some c/\env.cells.lookup x=some c:=by
 obtain⟨c,hc⟩:=Hf (env:=env) scope.names [] q
 obtain⟨c',h'⟩:=U0 hc
 exact⟨c',h',(Q0 h h').2⟩
theorem GC {scope:Scope}{env:Env}(h:Rk scope env):closureFor scope env=pure (Iq scope env):=by
 unfold closureFor Iq;dsimp only;rw [U7 (λp cs=>J2 env cs p) scope.names [] (λp hp cs=>by
  obtain⟨n,k⟩:=p
  show (if (k == NameKind.free)=true then _ else _)=_
  by_cases hk:(k == NameKind.free)=true
  ·have e:k = .free:=by simpa using hk
   obtain⟨c,hc⟩:=h n (e ▸ hp)
   have e2:cellOf env n=pure c:=by unfold cellOf;rw [hc]
   rw [if_pos hk,e2];show _=pure (ForInStep.yield (J2 env cs (n,k)))
   unfold J2;rw [if_pos hk,hc];rfl
  ·rw [if_neg hk]
   show _=pure (ForInStep.yield (J2 env cs (n,k)))
   unfold J2;rw [if_neg hk])]
 rfl
theorem UO {env:Env}:∀{names:List (Str×NameKind)} {x:Str},names.lookup x=some .free->
  (names.map λ(n,k)=>if (k == NameKind.free&&env.scope.kind == .function&&env.kindOf n == some .cell) then (n,NameKind.cell) else (n,k)).lookup x=some .free\/
  (names.map λ(n,k)=>if (k == NameKind.free&&env.scope.kind == .function&&env.kindOf n == some .cell) then (n,NameKind.cell) else (n,k)).lookup x=some .cell
 |[],_,h=>by simp at h
 | (n,k) :: r,x,h=>by
  have ih:=@UO env r x
  rw [W1];dsimp only;cases hx:x == n with
  |true=>
   simp only [VF,hx] at h
   cases h;by_cases hc:(NameKind.free == NameKind.free&&env.scope.kind == .function&&env.kindOf n == some .cell)=true
   ·right
    show W0K x ((if _ then _ else _) :: _)=_
    rw [if_pos hc];simp only [VF,hx]
   ·left
    show W0K x ((if _ then _ else _) :: _)=_
    rw [if_neg hc];simp only [VF,hx]
  |false=>
   simp only [VF,hx] at h
   by_cases hc:(k == NameKind.free&&env.scope.kind == .function&&env.kindOf n == some .cell)=true
   ·have e:(if (k == NameKind.free&&env.scope.kind == .function&&env.kindOf n == some .cell)=true then (n,NameKind.cell) else (n,k))=(n,NameKind.cell):=if_pos hc
    rw [e];simp only [VF,hx];exact ih h
   ·have e:(if (k == NameKind.free&&env.scope.kind == .function&&env.kindOf n == some .cell)=true then (n,NameKind.cell) else (n,k))=(n,k):=if_neg hc
    rw [e];simp only [VF,hx];exact ih h
theorem UP {env:Env}:∀{names:List (Str×NameKind)} {x:Str},(∀p∈names,p.2≠.cell)->
  ((names.map λ(n,k)=>if (k == NameKind.free&&env.scope.kind == .function&&env.kindOf n == some .cell) then (n,NameKind.cell) else (n,k)).lookup x=some .cell\/
  (names.map λ(n,k)=>if (k == NameKind.free&&env.scope.kind == .function&&env.kindOf n == some .cell) then (n,NameKind.cell) else (n,k)).lookup x=some .free)->(x,NameKind.free)∈names
 |[],_,_,h=>by simp at h
 | (n,k) :: r,x,hc0,h=>by
  have ih:=@UP env r x (λp hp=>hc0 p (Wu _ hp))
  rw [W1] at h;dsimp only at h;have key:∀K2:NameKind,(K2 = .cell\/K2 = .free)->W0K x ((if (k == NameKind.free&&env.scope.kind == .function&&env.kindOf n == some .cell)=true then (n,NameKind.cell) else (n,k)) ::
    (r.map λ(n,k)=>if (k == NameKind.free&&env.scope.kind == .function&&env.kindOf n == some .cell) then (n,NameKind.cell) else (n,k)))=some K2->(x,NameKind.free)∈(n,k) :: r:=by
   intro K2 hK2 hl;cases hx:x == n with
   |true=>
    have exn:x=n:=by simpa using hx
    by_cases hc:(k == NameKind.free&&env.scope.kind == .function&&env.kindOf n == some .cell)=true
    ·have hk:k = .free:=by
      have:=(Wm _ _ ▸ (Wm _ _ ▸ hc).1).1
      simpa using this
     rw [exn,hk];exact Wp
    ·rw [if_neg hc] at hl
     simp only [VF,hx] at hl
     have hk:k=K2:=WW hl
     rcases hK2 with q|q
     ·exact absurd (hk.trans q) (hc0 (n,k) Wp)
     ·rw [exn,hk.trans q];exact Wp
   |false=>
    refine Wu _ (ih ?_)
    by_cases hc:(k == NameKind.free&&env.scope.kind == .function&&env.kindOf n == some .cell)=true
    ·rw [if_pos hc] at hl
     simp only [VF,hx] at hl
     rcases hK2 with q|q
     ·exact .inl (q ▸ hl)
     ·exact .inr (q ▸ hl)
    ·rw [if_neg hc] at hl
     simp only [VF,hx] at hl
     rcases hK2 with q|q
     ·exact .inl (q ▸ hl)
     ·exact .inr (q ▸ hl)
  rcases h with h|h
  ·exact key .cell (.inl rfl) h
  ·exact key .free (.inr rfl) h
def ZH (X:Cx)(scope:Scope)(N:List Str)(fp:List Addr)(s₂:Shared)(H₂:Hp)(C:Addr):Cx where
 prog:=X.prog
 w:=X.w
 K:=X.K
 mg:=X.mg
 base:=X.base
 A:=X.A
 N:=N
 s₀:=s₂
 H₀:=H₂
 env:=compEnvC scope (Iq scope X.env) C X.env
 outer:=X.stack
 stack:=X.stack
 ex:=fp
 fn:=λ_=>false
 calm:=X.calm
 pn:=[]
 xe:=λ_ _=>False
def G2 (X:Cx)(scope:Scope):List Str->List Nat->Prop
 |[],[]=>True
 |x :: xs,j :: js=>(X.N[j]? = some x/\(X.env.scope.names.lookup x=some .cell\/X.env.scope.names.lookup x=some .free)/\scope.names.lookup x=some .free)/\G2 X scope xs js
 |_,_=>False
def JF (nT:Nat)(caps:List Nat)(σ:St):St:=W0E nT none++caps.map λj=>(σ[j]?).getD none
theorem G2.len {X:Cx}{scope:Scope}:∀{xs:List Str} {js:List Nat},G2 X scope xs js->xs.length=js.length
 |[],[],_=>rfl
 |_ :: _,_ :: _,h=>by simp only [WS];rw [G2.len h.2]
 |[],_ :: _,h=>h.elim
 |_ :: _,[],h=>h.elim
theorem G2.get {X:Cx}{scope:Scope}:∀{xs:List Str} {js:List Nat} {k:Nat} {x:Str} {j:Nat},G2 X scope xs js->xs[k]? = some x->js[k]? = some j->
  X.N[j]? = some x/\(X.env.scope.names.lookup x=some .cell\/X.env.scope.names.lookup x=some .free)/\scope.names.lookup x=some .free
 |[],_,_,_,_,_,h,_=>by simp at h
 |_ :: _,[],_,_,_,h,_,_=>h.elim
 |_ :: _,_ :: _,0,_,_,h,h1,h2=>by
  simp at h1 h2;subst h1;subst h2;exact h.1
 |_ :: _,_ :: _,k+1,_,_,h,h1,h2=>G2.get (k:=k) h.2 (by simpa using h1) (by simpa using h2)
def PF (X:Cx)(ifs:List Expr)(t:TT):Prop:=
 ∀(pins:List (Addr×Obj)) (s:Shared) (σ:St) (H:Hp) (Q:Bool->Hp->Prop),Inv X pins σ H s->t σ H Q->
  wpAny (model X.prog X.w) X.A (forIn ifs true λc r=>if r=true then do let ok <-isTrue c X.env (eval c X.env);pure (ForInStep.yield ok) else pure (ForInStep.yield r)) (TP X pins σ Q) X.xe s
def Z09:TT:=λ_ H Q=>Q true H
theorem Dv {X:Cx}:PF X [] Z09:=λ_ _ _ H _ I h=>wpAny_tests_nil ⟨H,I,h⟩
theorem Du {X:Cx}{c:Expr}{t:TT}(h:PT X c t):PF X [c] t:=λpins s σ H Q I q=>wpAny_tests_one (h pins s σ H Q I q)
theorem JE {prog:Program}{w:World}{A:Around}{R:Result->Shared->Prop}{s:Shared}{elt target iter:Expr}{ifs:List Expr}{scope:Scope}{pos:Pos}{it acc:Value}{env:Env}(I:Nat->Shared->Prop)
  (turn:∀n s,I n s->wpAny (model prog w) A (pyNext it) (λr s₁=>match r with
   |none=>R (.ok .next) s₁
   |some v=>wpAny (model prog w) A (letOwnedTupleGo target it v) (λ_ s₀=>wpAny (model prog w) A (assign target env v) (λ_ s₂=>
     wpAny (model prog w) A (forIn ifs true λc r=>if r=true then do let ok <-isTrue c env (eval c env);pure (ForInStep.yield ok) else pure (ForInStep.yield r)) (λok s₃=>
      if ok=true then wpAny (model prog w) A (eval elt env) (λx s₄=>
       wpAny (model prog w) A (call (.builtin "list.append") [acc,x]) (λ_ s₅=>∃m,m<n/\I m s₅) (λ_ _=>False) s₄) (λ_ _=>False) s₃
      else ∃m,m<n/\I m s₃) (λ_ _=>False) s₂) (λ_ _=>False) s₀) (λ_ _=>False) s₁) (λ_ _=>False) s)
  (n:Nat) (h:I n s) :
  codeAny (model prog w) A (.compLoop (.ListComp elt [⟨target,iter,ifs,0⟩] scope pos) 0 it acc env) R s:=by
 refine codeAny_loop rfl I (λn s hI=>?_) n h
 show wpAny _ A ((compTurn (.ListComp elt [⟨target,iter,ifs,0⟩] scope pos) 0 it acc env).onRaise (λx=>do noteFrame x env;theTreesLotGoes x)) _ _ s
 refine wpAny_noted ?_
 rw [compTurn_list];refine W0 (wpAny_standAt (W0 (W0k (turn n s hI) (λr s₁ h₁=>?_) λ_ _ h'=>h'.elim)))
 cases r with
 |none=>exact Wd h₁
 |some v=>
  refine W0 (W0k h₁ (λ_ s₀ h₀=>?_) λ_ _ h'=>h'.elim)
  refine W0 (W0k h₀ (λ_ s₂ h₂=>W0 (W0k h₂ (λok s₃ h₃=>?_) λ_ _ h'=>h'.elim)) λ_ _ h'=>h'.elim)
  cases ok with
  |false=>exact Wd ⟨rfl,h₃⟩
  |true=>
   exact W0 (W0 (W0k h₃ (λx s₄ h₄=>W0 (W0k h₄ (λ_ s₅ h₅=>Wd (Wd ⟨rfl,h₅⟩)) λ_ _ h'=>h'.elim)) λ_ _ h'=>h'.elim))
theorem HOk.track {P:Program}{w:World}{H:Hp}{h:Heap}{a:Addr}{o:HO}(x:HOk P w H h)(hn:H a=none)(new:ZL P w (upd H a o) h a o):HOk P w (upd H a o) h:=λb u e=>by
 by_cases hb:b=a
 ·subst hb;rw [Z7] at e;cases e;exact new
 ·rw [Zf hb] at e
  exact (x b u e).stay (λc v _ q=>q) (λc q=>by rw [Zf (Zv q hn)];exact q) λc xs q=>by rw [Zf (Zv q hn)];exact q
theorem HOk.but {P:Program}{w:World}{H:Hp}{h h':Heap}{a:Addr}(x:HOk P w H h)(hn:H a=none)(k:∀b o,b≠a->h.get? b=some o->h'.get? b=some o):HOk P w H h':=λb u e=>by
 refine (x b u e).stay (λc v hc q=>k c v ?_ q) (λ_ q=>q) λ_ _ q=>q
 rintro rfl
 rcases hc with z|z
 ·rw [<-z,hn] at e;cases e
 ·rw [hn] at z;cases z
abbrev Gp (its:List Value)(n:Nat):Obj:={ cls:=.type "list",data:=.seq its.toArray n }
def XZ (J:It)(cap:St)(g:TG)(tt:TT)(te:TE)(Fin:List V->Hp->Prop)(H:Hp):Prop:=
 ∃W:Nat->Nat->List V->Hp->Prop,(∃m,W 0 m [] H)/\∀i m ys H,W i m ys H->
  (J.stop i H/\ys.length<=Wk/\Fin ys H)\/(J.go i H/\ys.length<=Wk/\∀x H',J.yld i H x H'->g x cap H' λσ2 H2=>tt σ2 H2 λb H3=>
   if b=true then te σ2 H3 λv H4=>∃m',m'<m/\W (i+1) m' (ys++[v]) H4 else ∃m',m'<m/\W (i+1) m' ys H3)
def Ft (n:Nat)(g:TG):Prop:=∀v σ H Q,g v σ H Q->g v σ H λσ' H'=>(∀j,n<=j->σ'[j]? = σ[j]?)/\Q σ' H'
def E5 (n:Nat)(g:TGs):Prop:=∀v σ H Q,g v σ H Q->g v σ H λσ' H'=>(∀j,n<=j->σ'[j]? = σ[j]?)/\Q σ' H'
theorem Zj {n i:Nat}(h:i<n):Ft n (Md i):=λv σ H Q q=>⟨λj hj=>W0m (by omega),q⟩
theorem TQ {n:Nat}:E5 n Xd:=λvs σ H Q q=>⟨q.1,λ_ _=>rfl,q.2⟩
theorem Qc {n:Nat}{t:TG}{u:TGs}(h1:Ft n t)(h2:E5 n u)(mono:∀v σ H Q Q',(∀σ' H',Q σ' H'->Q' σ' H')->t v σ H Q->t v σ H Q')(mono2:∀v σ H Q Q',(∀σ' H',Q σ' H'->Q' σ' H')->u v σ H Q->u v σ H Q'):E5 n (LI t u):=λvs σ H Q q=>by
 obtain⟨v,r,e,q⟩:=q
 refine⟨v,r,e,mono v σ H _ _ (λσ' H' z=>?_) (h1 v σ H _ q)⟩
 exact mono2 r σ' H' _ _ (λσ2 H2 y=>⟨λj hj=>(y.1 j hj).trans (z.1 j hj),y.2⟩) (h2 r σ' H' _ z.2)
theorem Bi {K:W8}{n k:Nat}{t:TGs}(h:E5 n t):Ft n (Z1i K k t):=λv σ H Q q=>by
 obtain⟨a,xs,e,h1,h2,q⟩:=q
 exact⟨a,xs,e,h1,h2,h xs σ H Q q⟩
theorem Yk {i:Nat}:∀v σ H Q Q',(∀σ' H',Q σ' H'->Q' σ' H')->Md i v σ H Q->Md i v σ H Q':=λ_ _ _ _ _ h q=>h _ _ q
theorem QN:∀v σ H Q Q',(∀σ' H',Q σ' H'->Q' σ' H')->Xd v σ H Q->Xd v σ H Q':=λ_ _ _ _ _ h q=>⟨q.1,h _ _ q.2⟩
theorem Uz {t:TG}{u:TGs}(mono:∀v σ H Q Q',(∀σ' H',Q σ' H'->Q' σ' H')->t v σ H Q->t v σ H Q')(mono2:∀v σ H Q Q',(∀σ' H',Q σ' H'->Q' σ' H')->u v σ H Q->u v σ H Q') :
  ∀v σ H Q Q',(∀σ' H',Q σ' H'->Q' σ' H')->LI t u v σ H Q->LI t u v σ H Q':=λvs σ H Q Q' h q=>by
 obtain⟨v,r,e,q⟩:=q
 exact⟨v,r,e,mono v σ H _ _ (λσ' H' z=>mono2 r σ' H' _ _ h z) q⟩
section
variable {X:Cx} {pins:List (Addr×Obj)} {σ:St} {H₂:Hp} {s₂:Shared} {scope:Scope} {tg iter elt:Expr} {ifs:List Expr} {pos:Pos} {nT:Nat} {tgs caps_n:List Str} {caps:List Nat}
theorem GB (I:Inv X pins σ H₂ s₂){it:Addr}{fp:List Addr}{tn:Nat->Heap->Prop}{J:It}(T:Turn X.prog X.w X.K tg J fp it tn)(st0:tn 0 s₂.heap)(hfp:∀b∈fp,Rp X pins H₂ b)
  (hc:X.calm=true) (hcell:∀y∈scope.names,y.2≠.cell) (hkind:scope.kind = .function) (hcl:Rk scope X.env) (hcap:G2 X scope caps_n caps)
  {g:TG} {tt:TT} {te:TE} (hlow:Ft tgs.length g) (hg:∀s H C,PG (ZH X scope (tgs++caps_n) fp s H C) tg g) (hf:∀s H C,PF (ZH X scope (tgs++caps_n) fp s H C) ifs tt) (he:∀s H C,PE (ZH X scope (tgs++caps_n) fp s H C) elt te)
  {Fin:List V->Hp->Prop} (hw:XZ J (JF tgs.length caps σ) g tt te Fin H₂) {RR:Value->Addr->Result->Shared->Prop}
  (hRR:∀(D C:Addr) (ys:List V) (its:List Value) (n:Nat) (H3:Hp) (s3:Shared),s₂.heap.objs.size<=D->s₂.heap.objs.size<=C->D≠C->Inv (ZH X scope (tgs++caps_n) fp s₂ H₂ C) [(D,Gp its n)] (JF tgs.length caps σ) H3 s3->ZZ ys its->ys.length<=Wk->Fin ys H3->RR (.ref D) C (.ok .next) s3)
  {E:Value->Shared->Prop} :
  wpAny (model X.prog X.w) X.A (newList []) (λacc s₃=>wpAny (model X.prog X.w) X.A (newFunctionEnv scope X.env.globals (Iq scope X.env) [] X.env.qual none .none (some X.env)) (λcenv s₄=>
   codeAny (model X.prog X.w) X.A (.compStart (.ListComp elt [⟨tg,iter,ifs,0⟩] scope pos) 0 (.ref it) acc { cenv with scope:=relabel scope X.env }) (RR acc cenv.locals) s₄) E s₃) E s₂:=by
 refine Vy (wpAny_newFunctionEnv hcell (by intro y hy;simp at hy) (λh₁ hns₁ hsb₁=>?_) hkind)
 dsimp only at hns₁ hsb₁ ⊢
 generalize hH2:s₂.heap.push { cls:=.type "list",dict:=none,data:=.seq ([]:List Value).toArray }=HP at hns₁ hsb₁ ⊢
 have hC:HP.objs.size=s₂.heap.objs.size+1:=by rw [<-hH2,W03]
 have hDC:s₂.heap.objs.size≠HP.objs.size:=by rw [hC];exact WG (W07 _)
 have hCle:s₂.heap.objs.size<=HP.objs.size:=by rw [hC];exact Nat.le_succ _
 have below:∀b,b<s₂.heap.objs.size->b≠HP.objs.size/\b≠s₂.heap.objs.size:=λb hb=>⟨by rw [hC];exact WG (W10 hb),WG hb⟩
 have old:∀b o,s₂.heap.get? b=some o->h₁.get? b=some o:=λb o e=>hsb₁.extBut b o (below b (Wt e)).1 (Wj _ (hH2 ▸ Wj _ e))
 have hacc:h₁.get? s₂.heap.objs.size=some (Gp [] 0):=hsb₁.extBut _ _ hDC (Wj _ (hH2 ▸ Ws _ rfl))
 have fpl:∀b∈fp,b<s₂.heap.objs.size:=λb hb=>by
  obtain⟨o,e,_⟩:=T.obj 0 _ st0 b hb
  exact Wt e
 have stkl:∀b∈frs X.stack,b<s₂.heap.objs.size:=λb hb=>by
  obtain⟨_,o,ho,_⟩:=I.stack.mem hb
  exact Wt ho
 -- the block's context
 have ok:(ZH X scope (tgs++caps_n) fp s₂ H₂ HP.objs.size).Ok:=by
  refine⟨I.ok.mod,hkind,I.ok.glob,I.ok.blt,hCle,λx y c h1 h2=>I.ok.inj x y c (Q0 hcl h1).2 (Q0 hcl h2).2,λx hx=>?_,λx c h _=>(nomatch h),I.ok.hd,I.ok.frames,.inl rfl,
   λb hb=>⟨(below b (fpl b hb)).1,λx c h=>(hfp b hb).2.2.2.2.1 x c (Q0 hcl h).2⟩,I.bs,V7 I.ok.bsz I.sz,λb o e hb=>?_,λb hb z=>?_,I.stack,I.stkFree⟩
  ·obtain⟨c,h1,_⟩:=LW hcl (UP (env:=X.env) hcell hx)
   exact⟨c,h1⟩
  ·obtain⟨_,_,_,h4,_⟩:=hfp b hb
   rcases h4 with h4|h4
   ·exact I.ok.noex b o e h4
   ·exact absurd (WR (Wt (I.ok.bs b o e).1) h4) (VC _)
  ·obtain⟨_,h2,h3,_⟩:=hfp b hb
   rcases Wv.mp (I.stkSub b z) with q|q
   ·exact h2 q
   ·exact h3 q
 have I0:∀tk,Inv (ZH X scope (tgs++caps_n) fp s₂ H₂ HP.objs.size) [(s₂.heap.objs.size,Gp [] 0)] (JF tgs.length caps σ) H₂ { s₂ with heap:=h₁,toks:=tk }:=by
  intro tk;refine⟨ok,rfl,I.bare,Un.kept old,⟨_,hns₁,λi x v e1 e2 e3=>?_⟩,λx c h=>?_,I.hok.fresh hCle,λx c h=>I.freeC x c (Q0 hcl h).2,λp hp=>?_,I.hok.kept old,?_⟩
  ·unfold JF at e2
   have hi:tgs.length<=i:=by
    by_cases hi:i<tgs.length
    ·rw [V3 (by simpa using hi),W0n] at e2
     split at e2<;>cases e2
    ·exact W0N hi
   rw [WV (by simpa using hi),W0C,WE] at e2
   have e1':caps_n[i-tgs.length]? = some x:=by
    have e1'':(tgs++caps_n)[i]? = some x:=e1
    rw [WV hi] at e1''
    exact e1''
   cases ej:caps[i-tgs.length]? with
   |none=>rw [ej] at e2;cases e2
   |some j=>
    rw [ej] at e2;obtain⟨n1,n2,n3⟩:=hcap.get e1' ej
    have es:σ[j]? = some (some v):=by
     have e2':(σ[j]?).getD none=some v:=WW e2
     cases q:σ[j]? with
     |none=>rw [q] at e2';cases e2'
     |some z=>rw [q] at e2';rw [show z=some v from e2']
    obtain⟨m,hn,hl⟩:=I.loc
    obtain⟨u,ru,lk⟩:=hl j x v n1 es (.inr n2)
    refine⟨u,ru,?_⟩
    rcases lk with ⟨k1,_⟩|⟨_,c,k1,k2⟩
    ·have k1':X.env.scope.names.lookup x=some .local:=k1
     rcases n2 with n2|n2
     ·rw [n2] at k1';cases k1'
     ·rw [n2] at k1';cases k1'
    ·obtain⟨c',h1,h2⟩:=LW hcl (W0a n3)
     rw [k1] at h2;cases h2
     refine .inr ⟨?_,c,h1,k2.keeps old⟩
     rcases UO (env:=X.env) n3 with q|q
     ·exact .inr q
     ·exact .inl q
  ·obtain⟨v,z⟩:=I.cell x c (Q0 hcl h).2
   exact⟨v,z.keeps old⟩
  ·have e:p=(s₂.heap.objs.size,Gp [] 0):=by simpa [ZH] using hp
   subst e;exact⟨hacc,I.hok.fresh (Wq _),hDC,λz=>VC _ (stkl _ z),λv z=>(nomatch z)⟩
  ·unfold JF
   show _=(tgs++caps_n).length
   rw [WC,W0C,W7,WC,hcap.len]
 obtain⟨W,⟨m0,w0⟩,turn⟩:=hw
 have st1:tn 0 h₁:=T.keep 0 _ _ st0 λb _ o e=>old b o e
 have loop:∀tk,codeAny (model X.prog X.w) X.A (.compLoop (.ListComp elt [⟨tg,iter,ifs,0⟩] scope pos) 0 (.ref it) (.ref s₂.heap.objs.size) (compEnvC scope (Iq scope X.env) HP.objs.size X.env))
   (RR (.ref s₂.heap.objs.size) HP.objs.size) { s₂ with heap:=h₁,toks:=tk }:=by
  intro tk;have stat:∀{pins':List (Addr×Obj)} {H':Hp},(∀p∈pins',p.1∉fp)->(∀b∈fp,H' b=none)->∀b∈fp,Rp (ZH X scope (tgs++caps_n) fp s₂ H₂ HP.objs.size) pins' H' b:=λ{pins' H'} hp hn b hb=>
   ⟨hn b hb,(below b (fpl b hb)).1,ok.exfs b hb,.inl hb,λx c h=>(hfp b hb).2.2.2.2.1 x c (Q0 hcl h).2,λp hp' z=>hp p (by simpa [ZH] using hp') (z ▸ hb)⟩
  have offD:∀(its:List Value) (n:Nat),∀p∈[(s₂.heap.objs.size,Gp its n)],p.1∉fp:=λits n p hp z=>by
   have e:p=(s₂.heap.objs.size,Gp its n):=by simpa using hp
   rw [e] at z;exact VC _ (fpl _ z)
  refine JE (λn s'=>∃i ys its k H',Inv (ZH X scope (tgs++caps_n) fp s₂ H₂ HP.objs.size) [(s₂.heap.objs.size,Gp its k)] (JF tgs.length caps σ) H' s'/\ZZ ys its/\tn i s'.heap/\(∀b∈fp,H' b=none)/\W i n ys H') ?_ m0
   ⟨0,[],[],0,H₂,I0 tk,.nil,st1,λb hb=>(hfp b hb).1,w0⟩
  rintro n s3 ⟨i,ys,its,k,H3,I3,rv,st3,fr3,w3⟩
  rcases turn i n ys H3 w3 with ⟨stop,hz,fin⟩|⟨go,hz,step⟩
  ·refine thn (T.done (ZH X scope (tgs++caps_n) fp s₂ H₂ HP.objs.size) rfl rfl rfl hc i _ s3 _ H3 (λ_ _=>False) I3 (stat (offD _ _) fr3) st3 stop) λr s4 ⟨hr,I4⟩=>?_
   subst hr;exact hRR _ _ ys its k H3 s4 (Wq _) hCle hDC I4 rv hz fin
  ·refine thn (T.item (ZH X scope (tgs++caps_n) fp s₂ H₂ HP.objs.size) rfl rfl rfl hc i _ s3 _ H3 (λ_ _=>False) I3 (stat (offD _ _) fr3) st3 go) λr s4 ⟨u,hr,h4⟩=>?_
   subst hr;refine thn h4 λ_ s5 ⟨x,H5,I5,r5,y5,st5,fr5⟩=>?_
   have I5':=I5.pinned (stat (offD _ _) fr5) (T.obj _ _ st5)
   refine thn (hg s₂ H₂ HP.objs.size _ s5 _ H5 x u _ I5' r5 (hlow _ _ _ _ (step x H5 y5))) λ_ s6 ⟨σ6,H6,I6,keep6,q6⟩=>?_
   refine thn (hf s₂ H₂ HP.objs.size _ s6 σ6 H6 _ I6 q6) λb s7 ⟨H7,I7,q7⟩=>?_
   have len6:σ6.length=(JF tgs.length caps σ).length:=I6.len.trans I5.len.symm
   -- what stays of the iterator's objects
   have itk:∀{σ':St} {H':Hp} {s':Shared},Inv (ZH X scope (tgs++caps_n) fp s₂ H₂ HP.objs.size) ([(s₂.heap.objs.size,Gp its k)]++BD fp s5.heap) σ' H' s'->tn (i+1) s'.heap/\∀b∈fp,H' b=none:=λ{σ' H' s'} I'=>by
    refine⟨T.keep _ _ _ st5 λb hb o e=>(I'.pin (b,o) (WO _ (WO _ (Jt hb e)))).1,λb hb=>?_⟩
    obtain⟨o,e,d⟩:=T.obj _ _ st5 b hb
    exact (I'.pin (b,o) (WO _ (WO _ (Jt hb e)))).2.1
   -- the captured names' slots
   have slots:∀(j:Nat) v,(JF tgs.length caps σ)[j]? = some (some v)->σ6[j]? = some (some v):=λj v e=>by
    by_cases hj:tgs.length<=j
    ·rw [keep6 j hj];exact e
    ·unfold JF at e
     rw [V3 (by simpa using hj),W0n] at e
     split at e<;>cases e
   cases b with
   |false=>
    rw [if_neg Wy];rw [if_neg Wy] at q7;obtain⟨m',hm,w7⟩:=q7
    obtain⟨t7,f7⟩:=itk I7
    exact⟨m',hm,i+1,ys,its,k,H7,(I7.unpinned (pins:=[(s₂.heap.objs.size,Gp its k)])).weak len6.symm slots,rv,t7,f7,w7⟩
   |true=>
    rw [if_pos rfl];rw [if_pos rfl] at q7;refine thn (he s₂ H₂ HP.objs.size _ s7 σ6 H7 _ I7 q7) λxv s8 ⟨y,H8,I8,r8,m',hm,w8⟩=>?_
    obtain⟨t8,f8⟩:=itk I8
    have I8':Inv (ZH X scope (tgs++caps_n) fp s₂ H₂ HP.objs.size) [(s₂.heap.objs.size,Gp its k)] (JF tgs.length caps σ) H8 s8:=(I8.unpinned (pins:=[(s₂.heap.objs.size,Gp its k)])).weak len6.symm slots
    obtain⟨eD,nD,neD,nfD,dD⟩:=I8'.pin (s₂.heap.objs.size,Gp its k) (WO _ (by simp))
    have hlen:its.toArray.size<=Wk:=by rw [Wo,<-rv.length];exact hz
    refine append_at (its:=its.toArray) (n:=k) eD (λh9 sb9 e9=>?_) hlen
    have I9:Inv (ZH X scope (tgs++caps_n) fp s₂ H₂ HP.objs.size) [] (JF tgs.length caps σ) H8 { s8 with heap:=h9 }:=
     (I8'.pins_of (pins':=[]) (λp hp=>by cases hp)).turned (t':=s8.toks) (it:=s₂.heap.objs.size) (λb o hb e=>sb9.extBut b o hb e) nD neD (.inr (Wq _)) (λx c h z=>by
      obtain⟨v,q⟩:=I.cell x c (Q0 hcl h).2
      exact absurd q.lt (by rw [z];exact VC _)) (λp hp=>by
       have hp':p∈([]:List (Addr×Obj)):=by simpa [ZH] using hp
       cases hp')
    have e9':h9.get? s₂.heap.objs.size=some (Gp (its++[xv]) (k+1)):=by
     rw [e9];simp [Gp]
    refine⟨m',hm,i+1,ys++[y],its++[xv],k+1,H8,I9.pins_of (λp hp=>?_),rv.append (.cons r8 .nil),T.keep _ _ _ t8 λb hb o e=>sb9.extBut b o (WG (fpl b hb)) e,f8,w8⟩
    have ep:p=(s₂.heap.objs.size,Gp (its++[xv]) (k+1)):=by simpa using hp
    subst ep;exact⟨e9',nD,neD,nfD,λv z=>(nomatch z)⟩
 exact codeAny_compStart_list (loop _) (T.self X.A 0 _ _ _ st1 (loop _))
theorem Kp (I:Inv X pins σ H₂ s₂){fp:List Addr}(hfp:∀b∈fp,Rp X pins H₂ b){D C:Addr}{ys:List V}{its:List Value}{n:Nat}{H3:Hp}{s3:Shared}{N':List Str}{σ':St}{h4:Heap}(hD:s₂.heap.objs.size<=D)(hC:s₂.heap.objs.size<=C)(hDC:D≠C)
  (I3:Inv (ZH X scope N' fp s₂ H₂ C) [(D,Gp its n)] σ' H3 s3) (rv:ZZ ys its) (hz:ys.length<=Wk) (hs:W01 C s3.heap h4):Inv X pins σ (upd H3 D (.lst ys)) { s3 with heap:=h4 }:=by
 obtain⟨eD,nD,neD,nfD,dD⟩:=I3.pin (D,Gp its n) (WO _ (by simp))
 have eD4:h4.get? D=some (Gp its n):=hs.extBut D _ hDC eD
 have lt:∀b o,s₂.heap.get? b=some o->b≠C/\b≠D:=λb o e=>⟨WG (WR (Wt e) hC),WG (WR (Wt e) hD)⟩
 refine I.call' (ch:=fp) I3.os ?_ ?_ I3.bare (λb hb=>⟨(hfp b hb).2.2.2.1,(hfp b hb).2.1,(hfp b hb).2.2.2.2.1,(hfp b hb).2.2.2.2.2⟩)
 ·have u:=I3.base
  refine⟨λb o e nb hb hx=>hs.extBut b o (lt b o e).1 (u.keep b o e nb hb hx),λb o e nb hb hx=>?_,λb o e nb hx=>?_,λb o e hx=>?_,λb xs e=>?_,λb o xs e=>?_,λb ps e=>?_⟩
  ·obtain⟨sl,q⟩:=u.slot b o e nb hb hx
   exact⟨sl,hs.extBut b _ (lt b o e).1 q⟩
  ·rw [Zf (lt b o e).2];exact u.free b o e nb hx
  ·obtain⟨o',q⟩:=u.there b o e hx
   exact⟨o',hs.extBut b _ (lt b o e).1 q⟩
  ·have q:=u.tups b xs e
   rw [Zf (Zv q nD)];exact q
  ·have q:=u.frzs b o xs e
   rw [Zf (Zv q nD)];exact q
  ·obtain⟨more,q⟩:=u.tbls b ps e
   exact⟨more,by rw [Zf (Zv q nD)];exact q⟩
 ·refine HOk.track (I3.hok.but I3.free λb o hb e=>hs.extBut b o hb e) nD ?_
  exact⟨hz,its,n,rv,eD4⟩
def Hz (wi:TI)(nT:Nat)(caps:List Nat)(g:TG)(tt:TT)(te:TE):TE:=λσ H Q=>wi σ H λJ H1=>XZ J (JF nT caps σ) g tt te (λys H3=>∀D,H3 D=none->Q (.ref D) (upd H3 D (.lst ys))) H1
theorem NO {wi:TI}{g:TG}{tt:TT}{te:TE}(hc:X.calm=true)(hcell:∀y∈scope.names,y.2≠.cell)(hkind:scope.kind = .function)(hnames:∀y∈scope.names,y.2 = .local->scope.names.lookup y.1=some .local)
  (hfree:∀y∈scope.names,y.2 = .free->X.env.scope.names.lookup y.1=some .cell\/X.env.scope.names.lookup y.1=some .free) (hcap:G2 X scope caps_n caps) (hi:PI X tg iter wi) (hlow:Ft tgs.length g)
  (hg:∀fp s H C,PG (ZH X scope (tgs++caps_n) fp s H C) tg g) (hf:∀fp s H C,PF (ZH X scope (tgs++caps_n) fp s H C) ifs tt) (he:∀fp s H C,PE (ZH X scope (tgs++caps_n) fp s H C) elt te)
  (hs:∀x,foldedSetIterable iter X.env x=pure x:=by intro _;rfl):PE X (.ListComp elt [⟨tg,iter,ifs,0⟩] scope pos) (Hz wi tgs.length caps g tt te):=by
 intro pins s σ H Q I h;have hcl:Rk scope X.env:=λx hx=>I.ok.has x (hfree _ hx rfl)
 rw [eval_ListComp];refine wpAny_comprehension_free (use:=none) rfl hs (GC hcl) hkind hnames (thn (hi pins s σ H _ I h) λv s1 h1=>thn h1 λitv s2 h2=>?_)
 obtain⟨it,fp,tn,J,H2,e,I2,T,st2,f2,hw⟩:=h2
 subst e;refine GB I2 T st2 f2 hc hcell hkind hcl hcap hlow (hg fp) (hf fp) (he fp) hw (RR:=λacc C=>compPost (model X.prog X.w) X.A X.xe none (EP X pins σ Q) acc C) ?_
 intro D C ys its n H3 s3 hD hC hDC I3 rv hz fin;obtain⟨m,hn,_⟩:=I3.loc
 refine⟨m,hn,λh' hs'=>?_⟩
 obtain⟨eD,nD,_⟩:=I3.pin (D,Gp its n) (WO _ (by simp))
 exact⟨.ref D,_,Kp I2 f2 hD hC hDC I3 rv hz hs',rfl,fin D nD⟩
theorem HX {wi:TI}{g:TG}{tt:TT}{te:TE}{i:Nat}{y:Str}{py spos:Pos}(hsw:swapsWith (.ListComp elt [⟨tg,iter,ifs,0⟩] scope pos) (some (.Name y py)) spos.line X.env=pure true)
  (hN:X.N.Nodup) (hy:X.N[i]? = some y) (hx:X.env.scope.names.lookup y=some .local)
  (hc:X.calm=true) (hcell:∀y∈scope.names,y.2≠.cell) (hkind:scope.kind = .function) (hnames:∀y∈scope.names,y.2 = .local->scope.names.lookup y.1=some .local)
  (hfree:∀y∈scope.names,y.2 = .free->X.env.scope.names.lookup y.1=some .cell\/X.env.scope.names.lookup y.1=some .free) (hcap:G2 X scope caps_n caps) (hi:PI X tg iter wi) (hlow:Ft tgs.length g)
  (hg:∀fp s H C,PG (ZH X scope (tgs++caps_n) fp s H C) tg g) (hf:∀fp s H C,PF (ZH X scope (tgs++caps_n) fp s H C) ifs tt) (he:∀fp s H C,PE (ZH X scope (tgs++caps_n) fp s H C) elt te)
  (hs:∀x,foldedSetIterable iter X.env x=pure x:=by intro _;rfl):PS X (.Assign [.Name y py] (.ListComp elt [⟨tg,iter,ifs,0⟩] scope pos) spos) (Z00 (Hz wi tgs.length caps g tt te) (Md i)):=by
 intro pins s σ H D I h;have hcl:Rk scope X.env:=λx hx=>I.ok.has x (hfree _ hx rfl)
 rw [exec_Assign_Name_used _ _ _ _ hsw];refine W0 (wpAny_standAt (W0 ?_))
 show wpAny _ X.A (do let _ <-comprehension (.ListComp elt [⟨tg,iter,ifs,0⟩] scope pos) scope X.env _ (newList []) false (eval iter X.env) (some (assign (.Name y py) X.env))) _ _ s
 refine W0 (W0k (wpAny_comprehension_free (use:=some (assign (.Name y py) X.env)) (Q:=λ_ s'=>SP X pins D .next s') rfl hs (GC hcl) hkind hnames
  (thn (hi pins s σ H _ I h) λv s1 h1=>thn h1 λitv s2 h2=>?_)) (λ_ s' hq=>Wd (Wd hq)) λ_ _ e=>e)
 obtain⟨it,fp,tn,J,H2,e,I2,T,st2,f2,hw⟩:=h2
 subst e;refine GB I2 T st2 f2 hc hcell hkind hcl hcap hlow (hg fp) (hf fp) (he fp) hw (RR:=λacc C=>compPost (model X.prog X.w) X.A X.xe (some (assign (.Name y py) X.env)) (λ_ s'=>SP X pins D .next s') acc C) ?_
 intro Da C ys its n H3 s3 hD hC hDC I3 rv hz fin;obtain⟨m,hn,_⟩:=I3.loc
 obtain⟨eD,nD,_⟩:=I3.pin (Da,Gp its n) (WO _ (by simp))
 have I4:Inv X pins σ (upd H3 Da (.lst ys)) s3:=Kp I2 f2 hD hC hDC I3 rv hz (h4:=s3.heap) (W01.refl ..)
 have hLC:C≠X.env.locals:=W1l (WR I2.lt hC)
 show wpAny _ X.A (assign (.Name y py) X.env (.ref Da)) _ _ s3
 refine wpAny_assign_Name (Bx I4 hN hy (.inl hx) (show ZC (.ref Da) (.ref Da) from rfl) (λs5 I5 hs5=>?_) (.inr hx))
 obtain⟨b5,sb5,hb5⟩:=hs5
 have hbC:C≠b5:=by
  rcases hb5 with z|z
  ·rw [z];exact hLC
  ·obtain⟨v,q⟩:=I2.cell y b5 z
   exact W1l (WR q.lt hC)
 refine⟨m,hn.sameBut sb5 hbC,λh6 sb6=>?_⟩
 have fC:upd H3 Da (.lst ys) C=none:=by rw [Zf (Ne.symm hDC)];exact I3.free
 refine⟨_,_,I5.turned (t':=s5.toks) (it:=C) (λb o hb e=>sb6.extBut b o hb e) fC hLC (.inr (V7 I2.sz hC)) (λx c e z=>?_) (λp hp z=>?_),fin Da nD⟩
 ·obtain⟨v,q⟩:=I2.cell x c e
  exact absurd (WR q.lt hC) (by rw [z];exact VC _)
 ·exact absurd (WR (Wt (I2.pin p hp).1) hC) (by rw [z];exact VC _)
end
end L2
namespace L2
open PySem PySem.Spec PyProof.Rows
section
variable {prog:Program} {w:World} {κ:Type} [DecidableEq κ] {kd:HeapKind prog w κ} {A:Around} {E:Value->Shared->Prop} {s:Shared} {a:Addr} {tab:List (κ×Addr×Value)}
theorem KY (ns:(a == sysModules)=false):MeetsIn prog w (Builtin.«dict.__len__» ⟨[.ref a],[]⟩) (λ_ R s=>∃tab,s.heap.DictOfH kd a tab/\R (.ok (.ret (.int tab.length s.toks))) { s with toks:=s.toks+1 }):=
 .of_wp λ_ R s ⟨tab,⟨o,es,ep,ho,_,hdat,he,_,_⟩,h⟩=>by
  have hz:es.size=tab.length:=by simpa using congrArg Va he
  refine W0 (m:=dictSize a) (W0 (W1K ho hdat (Wd (W0 (m:=Builtin.Dict.pendingCount a) (wpAny_pendingCount_other ns (wpAny_ret_mkInt ?_))))))
  rw [Nat.add_zero,hz];exact h
theorem BX {Q:Value->Shared->Prop}(ns:(a == sysModules)=false)(hm:s.heap.DictOfH kd a tab)(fit:(tab.length:Int)<2 ^ 63)(h:Q (.int tab.length (s.toks+1)) { s with toks:=s.toks+1+1 }) :
  wpAny (model prog w) A (Builtin.«len» ⟨[.ref a],[]⟩) (λfin s'=>∃r,fin = .done (.ret r)/\Q r s') E s:=by
 unfold Builtin.«len»
 refine W0 (m:=oneArg "len" _) (Wd (W0 (m:=callSpecial? (.ref a) (Wx "__len__")) (Vq (name:=Wx "__len__") hm.typeIs W1v ?_)))
 refine W1S W1v hm.typeIs F.entry_dict_len (F.args_dict_len_1 _) (KY ns) ⟨tab,hm,W0 (VD (Wd (W0 (W1g ?_))))⟩
 have n1:¬((tab.length:Nat):Int)<0:=by omega
 have n2:¬((tab.length:Nat):Int)>=2 ^ 63:=by omega
 show wpAny _ _ (if ((tab.length:Nat):Int)<0 then _ else _) _ _ _
 rw [if_neg n1];show wpAny _ _ (if ((tab.length:Nat):Int)>=2 ^ 63 then _ else _) _ _ _
 rw [if_neg n2];exact W0 (wpAny_mkInt (Wd (show ∃r,_ from ⟨_,rfl,h⟩)))
theorem Bl {Q:Value->Shared->Prop}(ns:(a == sysModules)=false)(hm:s.heap.DictOfH kd a tab)(fit:(tab.length:Int)<2 ^ 63)(h:Q (.int tab.length (s.toks+1)) { s with toks:=s.toks+1+1 }) :
  wpAny (model prog w) A (call (.builtin "len") [.ref a]) Q E s:=W0c kind_len plain_len entry_len (args_len1 _) (BX ns hm fit h)
theorem Nz {Q:Bool->Shared->Prop}(ns:(a == sysModules)=false)(hm:s.heap.DictOfH kd a tab)(fit:(tab.length:Int)<2 ^ 63)(h:Q (!tab.isEmpty) { s with toks:=s.toks+1+1 }) :
  wpAny (model prog w) A (truthy (.ref a)) Q E s:=by
 have ne:((tab.length:Int) != 0) = !tab.isEmpty:=by cases tab<;>simp<;>omega
 have run:wpAny (model prog w) A (runValue (.builtin "len" ⟨[.ref a],[]⟩)) (λr s'=>r = .int tab.length (s.toks+1)/\Q (!tab.isEmpty) s') E s:=by
  refine wpAny_runValue (VO entry_len (by
   rw [Vl plain_len _];exact W0k (BX (Q:=λr s'=>r = .int tab.length (s.toks+1)/\Q (!tab.isEmpty) s') ns hm fit ⟨rfl,h⟩) (λ_ _ q=>by obtain⟨_,e,q⟩:=q;subst e;exact q) λ_ _ z=>z))
 unfold truthy
 first
  |refine W0 (W1w (name:=Wx "__bool__") hm.typeIs noBool_dict (W0 (W0u (name:=Wx "__len__") hm.typeIs W1v.lookup ?_)))
  |refine W0 (Wd (W0 (W1w (name:=Wx "__bool__") hm.typeIs noBool_dict (W0 (W0u (name:=Wx "__len__") hm.typeIs W1v.lookup ?_)))))
  |refine W0 (Wd (W0 (W1w (name:=Wx "__bool__") hm.typeIs noBool_dict (W0 (Wd (W0 (W0u (name:=Wx "__len__") hm.typeIs W1v.lookup ?_)))))))
 first
  |exact W0 (W0k run (λ_ _ q=>by rw [q.1];exact Wd (ne ▸ q.2)) λ_ _ z=>z)
  |exact W0 (Wd (W0 (W0k run (λ_ _ q=>by rw [q.1];exact Wd (ne ▸ q.2)) λ_ _ z=>z)))
end
section
variable {X:Cx}
def Fd (K:W8)(x:V)(H:Hp)(k:Bool):Prop:=Z27 K x H k\/(∃p kvs,x = .ref p/\Rd H p (.dT kvs)/\k = !kvs.isEmpty)\/∃p kvs,x = .ref p/\Rd H p (.dK kvs)/\k = !kvs.isEmpty
theorem NA:Z28 X (λx H Q=>∃k,Fd X.K x H k/\Q k H):=by
 intro pins s σ H x v Q I rx h;obtain⟨k,e,q⟩:=h
 rcases e with e|⟨p,kvs,rfl,hx,rfl⟩|⟨p,kvs,rfl,hx,rfl⟩
 ·exact IR pins s σ H x v Q I rx ⟨k,e,q⟩
 ·cases rx
  obtain⟨hz,hS,xs,r,m⟩:=Gb I.hok hx
  have hlen:kvs.length=xs.length:=W0X r
  have hs:Wk=16777216:=W0J
  refine Nz hS m (by omega) ⟨H,I.tok _,?_⟩
  have:(!xs.isEmpty) = !kvs.isEmpty:=by cases r<;>rfl
  rw [this];exact q
 ·cases rx
  exact Ik I hx λs' I'=>⟨H,I',q⟩
theorem Pa {a:Expr}{ta:TE}(ha:PE X a ta)(he:∀whole,isTrue a X.env whole=(do let v <-whole;standAt a.pos;holding [v] (truthy v))) :
  PT X a (λσ H Q=>ta σ H λx H'=>∃k,Fd X.K x H' k/\Q k H'):=by
 intro pins s σ H Q I h;exact isTrue_plain (thn (ha pins s σ H _ I h) λv s1 ⟨x,H1,I1,r1,q1⟩=>NA pins s1 σ H1 x v Q I1 r1 q1) (he _)
end
end L2
namespace L2
open PySem PySem.Spec PyProof.Rows
section
variable {P:Program} {w:World} {H:Hp} {h:Heap} {a:Addr}
theorem AN (x:ZL P w H h a (.dK [])):ZL P w H h a (.dT []):=by
 obtain⟨z,hd,vs,rel,o,es,ep,h1,h2,h3,h4,h5,h6⟩:=(show (_:Nat)<=Wk/\(a == sysModules)=false/\∃vs,KV [] vs/\h.DictOf (ZN P w) a vs from x)
 cases rel;have he:es.toList=[]:=W0L.mp h5.length
 exact⟨Vx _,hd,[],.nil,o,es,ep,h1,h2,h3,by rw [he];rfl,List.nodup_nil⟩
theorem AJ (x:ZL P w H h a (.dT [])):ZL P w H h a (.dK []):=by
 obtain⟨z,hd,xs,rel,o,es,ep,h1,h2,h3,h4,h5⟩:=x
 cases rel;have he:es.toList=[]:=by rw [h4];rfl
 refine⟨Vx _,hd,[],.nil,o,es,ep,h1,h2,h3,λe hm=>?_,?_,List.nodup_nil⟩
 ·have:e∈es.toList:=Array.mem_toList_iff.mpr hm
  rw [he] at this;cases this
 ·rw [he];exact .nil
end
section
variable {X:Cx} {pins:List (Addr×Obj)} {σ:St} {H:Hp} {s:Shared} {a:Addr} {y v:V} {u r:Value} {o:Option V} {A:Around} {E:Value->Shared->Prop}
theorem Inv.view {o':HO}(I:Inv X pins σ H s)(mu:Mut (H a))(he:∃q,s.heap.get? a=some q)(f:ZL X.prog X.w (upd H a o') s.heap a o'):Inv X pins σ (upd H a o') s:=
 UG (h':=s.heap) (t':=s.toks) (ob:=o') I mu ⟨rfl,λ_ _=>rfl⟩ he f
theorem XM {P:Program}{w:World}{H:Hp}{h:Heap}{a:Addr}{kvs:List (Key×V)}(x:ZL P w H h a (.dK kvs)):∃q,h.get? a=some q:=by
 obtain⟨_,_,vs,_,o,_,_,h1,_⟩:=x
 exact⟨o,h1⟩
theorem XH {P:Program}{w:World}{H:Hp}{h:Heap}{a:Addr}{kvs:List (List Key×V)}(x:ZL P w H h a (.dT kvs)):∃q,h.get? a=some q:=by
 obtain⟨_,_,xs,_,o,_,_,h1,_⟩:=x
 exact⟨o,h1⟩
theorem Inv.asT (I:Inv X pins σ H s)(e:H a=some (.dK [])):Inv X pins σ (upd H a (.dT [])) s:=by
 have ok:=I.hok a _ e
 refine I.view (by rw [e];exact True.intro) (XM ok) ?_
 obtain⟨z,hd,xs,rel,r⟩:=AN ok
 cases rel;exact⟨z,hd,[],.nil,r⟩
theorem Inv.asK (I:Inv X pins σ H s)(e:H a=some (.dT [])):Inv X pins σ (upd H a (.dK [])) s:=by
 have ok:=I.hok a _ e
 refine I.view (by rw [e];exact True.intro) (XH ok) ?_
 obtain⟨z,hd,vs,r⟩:=AJ ok
 exact⟨z,hd,vs,r⟩
theorem Inv.back {o:HO}(I:Inv X pins σ (upd H a o) s)(e:H a=some (.dK [])\/H a=some (.dT []))(ho:o = .dK []\/o = .dT []):Inv X pins σ H s:=by
 have eH:∀o',H a=some o'->upd (upd H a o) a o'=H:=λo' h=>by
  rw [Qy]
  funext b
  unfold upd;by_cases hb:b=a
  ·rw [if_pos hb,hb,h]
  ·rw [if_neg hb]
 rcases e with e|e<;>rcases ho with rfl|rfl
 ·have hu:upd H a (.dK [])=H:=by rw [<-Qy (o:=.dK [])];exact eH _ e
  rw [hu] at I;exact I
 ·have:=I.asK Z7
  rw [eH _ e] at this;exact this
 ·have:=I.asT Z7
  rw [eH _ e] at this;exact this
 ·have hu:upd H a (.dT [])=H:=by rw [<-Qy (o:=.dT [])];exact eH _ e
  rw [hu] at I;exact I
def JQ (H:Hp)(a:Addr)(y:V)(r:Option V):Prop:=E7 H a y r\/
 ((H a=some (.dK [])/\∃(k:List Key) (b:Addr),y = .ref b/\H b=some (.tup (k.map kV))/\r=none)\/(H a=some (.dT [])/\∃k:Key,y=kV k/\r=none))
theorem JQ.view (I:Inv X pins σ H s)(g:JQ H a y o):∃H',Inv X pins σ H' s/\E7 H' a y o/\∀s',Inv X pins σ H' s'->Inv X pins σ H s':=by
 rcases g with g|⟨e,k,b,ey,eb,er⟩|⟨e,k,ey,er⟩
 ·exact⟨H,I,g,λ_ h=>h⟩
 ·subst ey er
  have hb:b≠a:=UW eb e (λz=>nomatch z)
  exact⟨_,I.asT e,.inr ⟨[],k,b,.inl Z7,rfl,by rw [Zf hb];exact eb,rfl⟩,λs' h=>h.back (.inl e) (.inr rfl)⟩
 ·subst ey er
  exact⟨_,I.asK e,.inl ⟨[],k,.inl Z7,rfl,rfl⟩,λs' h=>h.back (.inr e) (.inl rfl)⟩
theorem JQ.ofSome {x:V}(g:JQ H a y (some x)):E7 H a y (some x):=by
 rcases g with g|⟨_,_,_,_,_,h⟩|⟨_,_,_,h⟩
 ·exact g
 ·cases h
 ·cases h
theorem XQ {Q:Value->Shared->Prop}(hu:A.units+1<cLine)(I:Inv X pins σ H s)(g:JQ H a y o)(ry:ZC y u)(h:∀s',Inv X pins σ H s'->Q (.bool o.isSome) s') :
  wpAny (model X.prog X.w) A (compareOp .In u (.ref a)) Q E s:=by
 obtain⟨H',I',g',back⟩:=g.view I
 exact Z38 hu I' g' ry λs' I1=>h s' (back s' I1)
theorem Ko {Q:Value->Shared->Prop}(hu:A.units+1<cLine)(I:Inv X pins σ H s)(g:JQ H a y o)(ry:ZC y u)(h:∀s',Inv X pins σ H s'->Q (.bool (!o.isSome)) s') :
  wpAny (model X.prog X.w) A (compareOp .NotIn u (.ref a)) Q E s:=by
 obtain⟨H',I',g',back⟩:=g.view I
 exact Il hu I' g' ry λs' I1=>h s' (back s' I1)
theorem Io {Q:Value->Shared->Prop}(hu:A.units+1<cLine)(I:Inv X pins σ H s)(g:JQ H a y o)(ry:ZC y u)(h:∀w' s',Inv X pins σ H s'->ZC (o.getD .non) w'->Q w' s') :
  wpAny (model X.prog X.w) A (call (.builtin "dict.get") [.ref a,u]) Q E s:=by
 obtain⟨H',I',g',back⟩:=g.view I
 exact XO hu I' g' ry λw' s' I1=>h w' s' (back s' I1)
theorem Im {d:V}{Q:Value->Shared->Prop}(hu:A.units+1<cLine)(I:Inv X pins σ H s)(g:JQ H a y o)(ry:ZC y u)(rd:ZC d r)(h:∀w' s',Inv X pins σ H s'->ZC (o.getD d) w'->Q w' s') :
  wpAny (model X.prog X.w) A (call (.builtin "dict.get") [.ref a,u,r]) Q E s:=by
 obtain⟨H',I',g',back⟩:=g.view I
 exact XN hu I' g' ry rd λw' s' I1=>h w' s' (back s' I1)
def IC (H:Hp)(a:Addr)(y v:V)(H':Hp):Prop:=Z2a H a y v H'\/
 ((H a=some (.dK [])/\∃(k:List Key) (b:Addr),y = .ref b/\H b=some (.tup (k.map kV))/\H'=upd H a (.dT [(k,v)]))\/(H a=some (.dT [])/\∃k:Key,y=kV k/\H'=upd H a (.dK [(k,v)])))
theorem Ra {H':Hp}{Q:Unit->Shared->Prop}(hu:A.units+1<cLine)(I:Inv X pins σ H s)(g:IC H a y v H')(ry:ZC y u)(rv:ZC v r)(h:∀s',Inv X pins σ H' s'->Q () s') :
  wpAny (model X.prog X.w) A (setItem (.ref a) u r) Q E s:=by
 have hz:0<Wk:=by decide
 rcases g with g|⟨e,k,b,ey,eb,er⟩|⟨e,k,ey,er⟩
 ·exact TV hu I g ry rv h
 ·subst ey er
  have hb:b≠a:=UW eb e (λz=>nomatch z)
  refine TV hu (I.asT e) (.inr ⟨[],k,b,Z7,rfl,by rw [Zf hb];exact eb,hz,rfl⟩) ry rv ?_
  rw [Qy];exact h
 ·subst ey er
  refine TV hu (I.asK e) (.inl ⟨[],k,Z7,rfl,hz,rfl⟩) ry rv ?_
  rw [Qy];exact h
end
end L2
namespace L2
open PySem PySem.Spec PyProof.Rows
section
variable {X:Cx} {pins:List (Addr×Obj)} {σ:St} {H:Hp} {s:Shared}
theorem Inv.turnedL {h':Heap}{t':Nat}{ch:List Addr}(I:Inv X pins σ H s)(hf:∀b∈ch,Rp X pins H b)(k:∀b o,b∉ch->s.heap.get? b=some o->h'.get? b=some o):Inv X pins σ H { s with heap:=h',toks:=t' }:=by
 have nit:∀b u,H b=some u->b∉ch:=λb u e z=>by rw [(hf b z).1] at e;cases e
 have nL:X.env.locals∉ch:=λz=>(hf _ z).2.1 rfl
 refine I.step (g':=s.gens) (d':=s.drawn) (ch:=ch) (λb hb=>?_) (λb o _ _ hc e _=>k b o hc e) (λb o _ _ hc e _=>⟨o.slots,k b o hc e⟩) (λ_ _ _ _ n=>n)
  (λb o hc e=>⟨o,k b o hc e⟩) (λ_ _ e=>e) (λ_ _ _ e=>e) (λb ps e=>⟨#[],by rw [e];simp⟩) (λm hm=>?_) (λb u e=>?_) I.bare
 ·obtain⟨_,f1,_,f3,f4,f5⟩:=hf b hb
  exact⟨f3,f1,f4,f5⟩
 ·obtain⟨o,es,ep,ho,r⟩:=hm
  exact⟨o,es,ep,k _ o nL ho,r⟩
 ·refine (I.hok b u e).stay (λc v hc q=>k c v ?_ q) (λ_ q=>q) λ_ _ q=>q
  rcases hc with z|z
  ·rw [z];exact nit b u e
  ·exact nit c _ z
end
section
variable {prog:Program} {w:World} {A:Around} {E:Value->Shared->Prop} {s:Shared}
theorem R9 (hh:A.handled=none)(it l:Addr)(hne:l≠it)(items:Array Value) :
  Draws prog w A it [it,l] items.size (λi v=>items[i]? = some v) (λi h=>h.IsTupleIter it l i/\h.IsTuple l items) where
 live:=λ_ _ ⟨⟨o,ho,_⟩,_⟩=>⟨o,ho⟩
 frame:=λ_ _ _ ⟨⟨o,ho,r⟩,⟨ol,hol,r'⟩⟩ hk=>⟨⟨o,hk it Wp o ho,r⟩,⟨ol,hk l (Wu _ Wp) ol hol,r'⟩⟩
 item:=λi s Q E hi st hQ=>by
  obtain⟨it1,ht⟩:=st
  obtain⟨o,ho,hc,hd⟩:=id it1
  obtain⟨ol,hol,hcl,nl,hdl⟩:=id ht
  have hx:items[i]? = some items[i]:=WD hi
  unfold VW;refine W0 (Vq (name:=Wx "__next__") it1.typeIs W0y (Vv W0y it1.typeIs W28 ?_ (W23 _)))
  refine W0 (m:=field (.ref it) 0) (W0v ho hd (x:=.ref l) rfl ?_)
  dsimp only;rw [if_neg (show ¬(Value.ref l == Value.none)=true from Wy)];refine W0 (m:=field (.ref it) 1) (W0v ho hd (x:=.int i 0) rfl (W0 (m:=seqItems? (.ref l)) (Vm hol hdl ?_)))
  simp only [VH,hx]
  refine W0 (W2s ho hd (by simp) (Wd ⟨_,rfl,Wd ?_⟩))
  have sb:=VZ s.heap it (Obj.mapFields (·.setIfInBounds 1 (rawInt ((i:Int)+1))))
  refine hQ _ _ s.toks hx ⟨⟨_,VM _ ho (Obj.isFreed_of_fields (W1x hd _)),(Obj.cls_mapFields ..).trans hc,by rw [W1x hd];simp [rawInt]⟩,?_⟩ sb
  exact ht.extBut sb.extBut hne
 done:=λs Q E st hE=>by
  obtain⟨it1,ht⟩:=st
  obtain⟨o,ho,hc,hd⟩:=id it1
  obtain⟨ol,hol,hcl,nl,hdl⟩:=id ht
  have hx:items[items.size]? = none:=by simp
  unfold VW;refine W0 (Vq (name:=Wx "__next__") it1.typeIs W0y (Vv W0y it1.typeIs W28 ?_ (W23 _)))
  refine W0 (m:=field (.ref it) 0) (W0v ho hd (x:=.ref l) rfl ?_)
  dsimp only;rw [if_neg (show ¬(Value.ref l == Value.none)=true from Wy)];refine W0 (m:=field (.ref it) 1) (W0v ho hd (x:=.int items.size 0) rfl (W0 (m:=seqItems? (.ref l)) (Vm hol hdl ?_)))
  simp only [VH,hx]
  refine W0 (W26 (W0 (W2s ho hd (by simp) (W0 (m:=newExc (.type "StopIteration") []) ?_))))
  unfold newExc newTuple;refine W0 (Vy (W0 (m:=firstArgMember _ _) (W1h (a:=Value.none) (by first|rfl|(simp only [firstArgMember];rfl)) (Vy ?_ (by size_fits)))) (by size_fits))
  unfold raiseNew;refine W0 (wpAny_handled ?_)
  first|rw [show A.in1.handled=none from hh]|rw [hh]
  exact W0 (Wd (wpAny_throw (hE _ _ (((VZ ..).extBut.push _).push _) ⟨_,Ws _ rfl,rfl⟩)))
structure ZAp (z TI TO i1 i2:Addr) (fp1 fp2:List Addr):Prop where
 a1:TI≠z
 a2:TO≠z
 a3:i1≠z
 a4:i2≠z
 a5:TI≠TO
 a6:TI≠i1
 a7:TI≠i2
 a8:TO≠i1
 a9:TO≠i2
 b1:i1≠i2
 b2:z∉fp1
 b3:z∉fp2
 b4:TO∉fp1
 b5:TO∉fp2
 b6:i1∉fp2
 b7:i2∉fp1
theorem GZ {b:Addr}{fp:List Addr}(h:b∉fp):∀c∈fp,c≠b:=λc hc z=>h (z ▸ hc)
theorem UF {it:Addr}{fp:List Addr}{n i:Nat}{P:Nat->Value->Prop}{St:Nat->Heap->Prop}{b:Addr}{h h':Heap}(D:Draws prog w A it fp n P St)(st:St i h)(sb:W01 b h h')(hb:b∉fp):St i h':=
 D.frame i h h' st λc hc o e=>sb.extBut c o (GZ hb c hc) e
section
variable {z TI TO i1 i2:Addr} {fp1 fp2:List Addr} {n1 n2 k:Nat} {P1 P2:Nat->Value->Prop} {St1 St2:Nat->Heap->Prop} {a b:Value}
theorem Rt {Q:Value->Shared->Prop}(D1:Draws prog w A i1 fp1 n1 P1 St1)(D2:Draws prog w A i2 fp2 n2 P2 St2)(Z:ZAp z TI TO i1 i2 fp1 fp2)(hz:IsZip s.heap z TI TO .none)(hTI:IsPair s.heap TI (.ref i1) (.ref i2))(hTO:IsPair s.heap TO a b)
  (st1:St1 k s.heap) (st2:St2 k s.heap) (k1:k<n1) (k2:k<n2)
  (hQ:∀x y h' tk,P1 k x->P2 k y->IsZip h' z TI TO (rawInt s.heap.objs.size)->IsPair h' TO x y->St1 (k+1) h'->St2 (k+1) h'->IsPair h' s.heap.objs.size x y->h'.objs.size=s.heap.objs.size+1->
   (∀c o,c∉[z,TO,i1,i2]->s.heap.get? c=some o->h'.get? c=some o)->Q (.ref s.heap.objs.size) { s with heap:=h',toks:=tk }) :
  wpAny (model prog w) A (Builtin.«zip.__next__» ⟨[.ref z],[]⟩) (λfin s'=>∃v,fin = .done (.ret v)/\Q v s') E s:=by
 refine W0 (m:=field (.ref z) 2) (W0v hz rfl (x:=.bool false) rfl (W0 (m:=field (.ref z) 3) (W0v hz rfl (x:=.ref TI) rfl (W0 (Vm hTI rfl ?_)))))
 refine W0 (m:=W00 (.ref z)) ?_
 unfold W00;refine W0 (W0v hz rfl (x:=.none) rfl (Wd ?_))
 simp only [if_true]
 refine W0 (W26 (W0 (W0v hz rfl (x:=.ref TO) rfl (W0 (Vb hz (by simp) λg1 hz1 sb1=>W0 ?_)))))
 have hz1':IsZip g1 z TI TO .ellipsis:=hz1
 simp only [List.zipIdx_cons,List.zipIdx_nil,List.forIn_cons,List.forIn_nil]
 refine W0 (W0 (wpAny_onRaise (W0 (m:=VW (.ref i1)) ?_)))
 refine D1.item k _ _ _ k1 (UF D1 st1 sb1 Z.b2) λx g2 t2 hx st1' sb2=>Wd ?_
 have to2:IsPair g2 TO a b:=sb2.extBut _ _ Z.a8 (sb1.extBut _ _ Z.a2 hTO)
 refine W0 (Vm to2 rfl (W0 (W22 to2 λg3 to3 sb3=>W0 (W1g (Wd ?_)))))
 have to3':IsPair g3 TO x b:=to3
 refine W0 (W0 (wpAny_onRaise (W0 (m:=VW (.ref i2)) ?_)))
 refine D2.item k _ _ _ k2 (UF D2 (UF D2 (UF D2 st2 sb1 Z.b3) sb2 Z.b6) sb3 Z.b5) λy g4 t4 hy st2' sb4=>Wd ?_
 have to4:IsPair g4 TO x b:=sb4.extBut _ _ Z.a9 to3'
 refine W0 (Vm to4 rfl (W0 (W22 to4 λg5 to5 sb5=>W0 (W1g (Wd (Wd ?_))))))
 have to5':IsPair g5 TO x y:=to5
 refine W0 (Vm to5' rfl (W0 (wpAny_newTuple ?_)))
 have size5:g5.objs.size=s.heap.objs.size:=by rw [sb5.1,sb4.1,sb3.1,sb2.1,sb1.1]
 have z5:IsZip g5 z TI TO .ellipsis:=sb5.extBut _ _ Z.a2.symm (sb4.extBut _ _ Z.a4.symm (sb3.extBut _ _ Z.a2.symm (sb2.extBut _ _ Z.a3.symm hz1')))
 have kept5:∀c o,c∉[z,TO,i1,i2]->s.heap.get? c=some o->g5.get? c=some o:=λc o hc e=>by
  simp only [Wv,WX,or_false,not_or] at hc
  exact sb5.extBut _ _ hc.2.1 (sb4.extBut _ _ hc.2.2.2 (sb3.extBut _ _ hc.2.1 (sb2.extBut _ _ hc.2.2.1 (sb1.extBut _ _ hc.1 e))))
 have s15:St1 (k+1) g5:=UF D1 (UF D1 (UF D1 st1' sb3 Z.b4) sb4 Z.b7) sb5 Z.b4
 have s25:St2 (k+1) g5:=UF D2 st2' sb5 Z.b5
 have ltz:z<g5.objs.size:=Wt z5
 refine W0 (m:=W14 (.ref z) (.ref g5.objs.size)) ?_
 unfold W14;have z6:IsZip (g5.push { cls:=.type "tuple",data:=.seq #[x,y] }) z TI TO .ellipsis:=Wj _ z5
 refine W0 (Vb z6 (by simp) λg7 z7 sb7=>?_)
 have z7':IsZip g7 z TI TO (rawInt g5.objs.size):=z7
 refine Vb z7' (by simp) λg8 z8 sb8=>?_
 have z8':IsZip g8 z TI TO (rawInt g5.objs.size):=z8
 have up8:∀c o,c≠z->g5.get? c=some o->g8.get? c=some o:=λc o hc e=>sb8.extBut _ _ hc (sb7.extBut _ _ hc (Wj _ e))
 have new8:IsPair g8 g5.objs.size x y:=sb8.extBut _ _ (W1l ltz) (sb7.extBut _ _ (W1l ltz) (Ws _ rfl))
 have size8:g8.objs.size=g5.objs.size+1:=by rw [sb8.1,sb7.1,W03]
 rw [size5] at z8' new8 size8
 refine Wd ⟨_,rfl,?_⟩
 show Q (.ref g5.objs.size) _
 rw [size5];exact hQ x y g8 _ hx hy z8' (up8 _ _ Z.a2 to5') (D1.frame _ _ _ s15 λc hc o e=>up8 c o (GZ Z.b2 c hc) e) (D2.frame _ _ _ s25 λc hc o e=>up8 c o (GZ Z.b3 c hc) e) new8 size8
  λc o hc e=>up8 c o (λq=>hc (by simp [q])) (kept5 c o hc e)
theorem Fu {Q:PySem.Fin->Shared->Prop}(D1:Draws prog w A i1 fp1 n1 P1 St1)(D2:Draws prog w A i2 fp2 n2 P2 St2)(Z:ZAp z TI TO i1 i2 fp1 fp2)(hz:IsZip s.heap z TI TO .none)(hTI:IsPair s.heap TI (.ref i1) (.ref i2))(hTO:IsPair s.heap TO a b)
  (st1:St1 k s.heap) (st2:St2 k s.heap) (hk:k=n1\/(k<n1/\k=n2))
  (hE:∀h' e tk,(∀c o,c∉[z,TO,i1,i2]->s.heap.get? c=some o->h'.get? c=some o)->(∃o,h'.get? e=some o/\o.cls = .type "StopIteration")->E (.ref e) { s with heap:=h',toks:=tk }) :
  wpAny (model prog w) A (Builtin.«zip.__next__» ⟨[.ref z],[]⟩) Q E s:=by
 refine W0 (m:=field (.ref z) 2) (W0v hz rfl (x:=.bool false) rfl (W0 (m:=field (.ref z) 3) (W0v hz rfl (x:=.ref TI) rfl (W0 (Vm hTI rfl ?_)))))
 refine W0 (m:=W00 (.ref z)) ?_
 unfold W00;refine W0 (W0v hz rfl (x:=.none) rfl (Wd ?_))
 simp only [if_true]
 refine W0 (W26 (W0 (W0v hz rfl (x:=.ref TO) rfl (W0 (Vb hz (by simp) λg1 hz1 sb1=>W0 ?_)))))
 have hz1':IsZip g1 z TI TO .ellipsis:=hz1
 simp only [List.zipIdx_cons,List.zipIdx_nil,List.forIn_cons,List.forIn_nil]
 refine W0 (W0 (wpAny_onRaise (W0 (m:=VW (.ref i1)) ?_)))
 have fin:∀{g:Heap} {e:Addr} {tk:Nat},IsZip g z TI TO .ellipsis->(∀c o,c∉[z,TO,i1,i2]->s.heap.get? c=some o->g.get? c=some o)->(∃o,g.get? e=some o/\o.cls = .type "StopIteration")->
   ∀(h':Heap),W01 z g h'->E (.ref e) { s with heap:=h',toks:=tk }:=by
  intro g e tk gz gk ⟨oe,he,ce⟩ h' sb
  have ez:e≠z:=λq=>by subst q;rw [gz] at he;cases he;simp at ce
  exact hE h' e tk (λc o hc q=>sb.extBut _ _ (λr=>hc (by simp [r])) (gk c o hc q)) ⟨oe,sb.extBut _ _ ez he,ce⟩
 rcases hk with rfl|⟨k1,rfl⟩
 ·refine D1.done _ _ _ (UF D1 st1 sb1 Z.b2) λg2 e sb2 he=>?_
  have z2:IsZip g2 z TI TO .ellipsis:=sb2 _ _ Z.a3.symm hz1'
  refine Vb z2 (by simp) λg3 _ sb3=>fin z2 (λc o hc q=>?_) he g3 sb3
  simp only [Wv,WX,or_false,not_or] at hc
  exact sb2 _ _ hc.2.2.1 (sb1.extBut _ _ hc.1 q)
 ·refine D1.item k _ _ _ k1 (UF D1 st1 sb1 Z.b2) λx g2 t2 hx st1' sb2=>Wd ?_
  have to2:IsPair g2 TO a b:=sb2.extBut _ _ Z.a8 (sb1.extBut _ _ Z.a2 hTO)
  refine W0 (Vm to2 rfl (W0 (W22 to2 λg3 to3 sb3=>W0 (W1g (Wd ?_)))))
  refine W0 (W0 (wpAny_onRaise (W0 (m:=VW (.ref i2)) ?_)))
  refine D2.done _ _ _ (UF D2 (UF D2 (UF D2 st2 sb1 Z.b3) sb2 Z.b6) sb3 Z.b5) λg4 e sb4 he=>?_
  have z4:IsZip g4 z TI TO .ellipsis:=sb4 _ _ Z.a4.symm (sb3.extBut _ _ Z.a2.symm (sb2.extBut _ _ Z.a3.symm hz1'))
  refine Vb z4 (by simp) λg5 _ sb5=>fin z4 (λc o hc q=>?_) he g5 sb5
  simp only [Wv,WX,or_false,not_or] at hc
  exact sb4 _ _ hc.2.2.2 (sb3.extBut _ _ hc.2.1 (sb2.extBut _ _ hc.2.2.1 (sb1.extBut _ _ hc.1 q)))
theorem KI {Q:Option Value->Shared->Prop}(D1:Draws prog w A.in1 i1 fp1 n1 P1 St1)(D2:Draws prog w A.in1 i2 fp2 n2 P2 St2)(Z:ZAp z TI TO i1 i2 fp1 fp2)(hz:IsZip s.heap z TI TO .none)(hTI:IsPair s.heap TI (.ref i1) (.ref i2))(hTO:IsPair s.heap TO a b)
  (st1:St1 k s.heap) (st2:St2 k s.heap) (k1:k<n1) (k2:k<n2)
  (hQ:∀x y h' tk,P1 k x->P2 k y->IsZip h' z TI TO (rawInt s.heap.objs.size)->IsPair h' TO x y->St1 (k+1) h'->St2 (k+1) h'->IsPair h' s.heap.objs.size x y->h'.objs.size=s.heap.objs.size+1->
   (∀c o,c∉[z,TO,i1,i2]->s.heap.get? c=some o->h'.get? c=some o)->Q (some (.ref s.heap.objs.size)) { s with heap:=h',toks:=tk }) :
  wpAny (model prog w) A (pyNext (.ref z)) Q E s:=by
 have hT:s.TypeIs (.ref z) "zip":=⟨_,hz,rfl⟩
 unfold pyNext;refine W0 (W1y (Vq (name:=Wx "__next__") hT W29 (Vv W29 hT F.entry_zip_next ?_ (F.args_zip_next_1 _))))
 exact Rt D1 D2 Z hz hTI hTO st1 st2 k1 k2 λx y h' tk c1 c2 c3 c4 c5 c6 c7 c8 c9=>Wd (hQ x y h' tk c1 c2 c3 c4 c5 c6 c7 c8 c9)
theorem Pu {Q:Option Value->Shared->Prop}(D1:Draws prog w A.in1 i1 fp1 n1 P1 St1)(D2:Draws prog w A.in1 i2 fp2 n2 P2 St2)(Z:ZAp z TI TO i1 i2 fp1 fp2)(hz:IsZip s.heap z TI TO .none)(hTI:IsPair s.heap TI (.ref i1) (.ref i2))(hTO:IsPair s.heap TO a b)
  (st1:St1 k s.heap) (st2:St2 k s.heap) (hk:k=n1\/(k<n1/\k=n2)) (hQ:∀h' tk,(∀c o,c∉[z,TO,i1,i2]->s.heap.get? c=some o->h'.get? c=some o)->Q none { s with heap:=h',toks:=tk }) :
  wpAny (model prog w) A (pyNext (.ref z)) Q E s:=by
 have hT:s.TypeIs (.ref z) "zip":=⟨_,hz,rfl⟩
 unfold pyNext;refine W0 (W1y (Vq (name:=Wx "__next__") hT W29 (Vv W29 hT F.entry_zip_next ?_ (F.args_zip_next_1 _))))
 refine Fu D1 D2 Z hz hTI hTO st1 st2 hk λh' e tk kp ⟨o,ho,hc⟩=>?_
 exact W0 (W1e (T:="StopIteration") (b:=true) ⟨o,ho,hc⟩ isSubtype_stop (Wd (hQ h' tk kp)))
end
def Tj:Bool->String
 |true=>"list_iterator"
 |false=>"tuple_iterator"
def Fe (sk:Bool)(h:Heap)(it l:Addr)(k:Nat):Prop:=match sk with|true=>h.IsListIter it l k|false=>h.IsTupleIter it l k
def Rj (sk:Bool)(h:Heap)(l:Addr)(items:Array Value):Prop:=match sk with|true=>h.IsList l items|false=>h.IsTuple l items
theorem Tc (sk:Bool)(hh:A.handled=none)(it l:Addr)(hne:l≠it)(items:Array Value):Draws prog w A it [it,l] items.size (λi v=>items[i]? = some v) (λi h=>Fe sk h it l i/\Rj sk h l items):=by
 cases sk
 ·exact R9 hh it l hne items
 ·exact PySem.Draws.list hh it l hne items
theorem Kb (sk:Bool){l:Addr}{items:Array Value}{Q:Value->Shared->Prop}(hl:Rj sk s.heap l items)(hQ:Q (.ref s.heap.objs.size) { s with heap:=s.heap.push { cls:=.type (Tj sk),data:=.fields #[.ref l,.int 0 0] } }) :
  wpAny (model prog w) A (pyIter (.ref l)) Q E s:=by
 cases sk
 ·exact W0T hl hQ
 ·exact W0G hl hQ
theorem Rj.push {sk:Bool}{h:Heap}{l:Addr}{items:Array Value}(x:Rj sk h l items)(o:Obj):Rj sk (h.push o) l items:=by
 cases sk
 ·obtain⟨q,e,r⟩:=x
  exact⟨q,Wj _ e,r⟩
 ·exact Heap.IsList.push x _
theorem Fe.new {sk:Bool}{h:Heap}{it l:Addr}(e:h.get? it=some { cls:=.type (Tj sk),data:=.fields #[.ref l,.int 0 0] }):Fe sk h it l 0:=by
 cases sk
 ·exact⟨_,e,rfl,rfl⟩
 ·exact⟨_,e,rfl,rfl⟩
def zh (h:Heap)(c1 c2:Bool)(l1 l2:Addr):Heap:=
 ((((h.push { cls:=.type (Tj c1),data:=.fields #[.ref l1,.int 0 0] }).push { cls:=.type (Tj c2),data:=.fields #[.ref l2,.int 0 0] }).push { cls:=.type "tuple",data:=.seq #[.ref h.objs.size,.ref (h.objs.size+1)] }).push
  { cls:=.type "tuple",data:=.seq #[.none,.none] }).push { cls:=.type "zip",data:=.fields #[.none,.bool false,.bool false,.ref (h.objs.size+2),.ref (h.objs.size+3)] }
theorem IM (c1 c2:Bool)(l1 l2:Addr)(xs ys:Array Value) :
  Meets (Builtin.«zip.__new__» ⟨[.type "zip",.ref l1,.ref l2],[]⟩) (λ_ R s=>Rj c1 s.heap l1 xs/\Rj c2 s.heap l2 ys/\R (.ok (.ret (.ref (s.heap.objs.size+4)))) { s with heap:=zh s.heap c1 c2 l1 l2 }):=
 .of_wp λprog w A R s h=>by
  obtain⟨hp,g,d,tk,os⟩:=s
  obtain⟨q1,q2,h⟩:=h
  have hsub:=PySem.sub_zip
  have q1':Rj c1 (Shared.heap ⟨hp,g,d,tk,os⟩) l1 xs:=q1
  have q2':Rj c2 (Shared.heap ⟨hp.push { cls:=.type (Tj c1),data:=.fields #[.ref l1,.int 0 0] },g,d,tk,os⟩) l2 ys:=Rj.push q2 _
  wp_walk using Kb c1 q1',Kb c2 q2'
  refine⟨_,rfl,?_⟩
  simp only [W03] at h ⊢
  unfold zh at h;exact h
end
end L2
namespace L2
open PySem PySem.Spec PyProof.Rows
theorem Tt {h:Heap}{o:Obj}{n:Nat}(e:h.objs.size=n)(f:o.isFreed=false):(h.push o).get? n=some o:=by rw [<-e];exact Ws _ f
theorem IN (h:Heap)(c1 c2:Bool)(l1 l2:Addr):IsZip (zh h c1 c2 l1 l2) (h.objs.size+4) (h.objs.size+2) (h.objs.size+3) .none/\IsPair (zh h c1 c2 l1 l2) (h.objs.size+2) (.ref h.objs.size) (.ref (h.objs.size+1))/\
  IsPair (zh h c1 c2 l1 l2) (h.objs.size+3) .none .none/\(zh h c1 c2 l1 l2).get? h.objs.size=some { cls:=.type (Tj c1),data:=.fields #[.ref l1,.int 0 0] }/\(zh h c1 c2 l1 l2).get? (h.objs.size+1)=some { cls:=.type (Tj c2),data:=.fields #[.ref l2,.int 0 0] }/\
  ∀b o,h.get? b=some o->(zh h c1 c2 l1 l2).get? b=some o:=by
 unfold zh;have up:∀{h:Heap} {o p:Obj} {b:Addr},h.get? b=some o->(h.push p).get? b=some o:=λe=>Wj _ e
 exact⟨Tt (by simp [W03]) rfl,up (up (Tt (by simp [W03]) rfl)),up (Tt (by simp [W03]) rfl),up (up (up (up (Tt rfl rfl)))),up (up (up (Tt (by simp [W03]) rfl))),λb o e=>up (up (up (up (up e))))⟩
section
variable {prog:Program} {w:World} {A:Around} {E:Value->Shared->Prop} {s:Shared}
theorem LX {c1 c2:Bool}{l1 l2:Addr}{xs ys:Array Value}{Q:Value->Shared->Prop}(h1:Rj c1 s.heap l1 xs)(h2:Rj c2 s.heap l2 ys)
  (h:Q (.ref (s.heap.objs.size+4)) { s with heap:=zh s.heap c1 c2 l1 l2 }):wpAny (model prog w) A (call (.type "zip") [.ref l1,.ref l2]) Q E s:=by
 refine callType_new F.called_zip (by decide) (F.typeCall_zip_2 _ _) (F.newCall_zip_2 _ _) (λobj=>F.args_object_init_3 obj _ _) F.entry_zip_new (IM c1 c2 l1 l2 xs ys) ⟨h1,h2,?_⟩
 exact⟨⟨_,(IN s.heap c1 c2 l1 l2).1,rfl⟩,h⟩
end
def TrS (c:Bool)(H:Hp)(l:Addr)(xs:List V):Prop:=match c with|true=>H l=some (.lst xs)|false=>H l=some (.tup xs)
theorem TrS.one {c:Bool}{H:Hp}{l:Addr}{xs ys:List V}(h:TrS c H l xs)(h':TrS c H l ys):xs=ys:=by
 cases c
 ·have h1:H l=some (.tup xs):=h
  have h2:H l=some (.tup ys):=h'
  rw [h1] at h2;cases h2;rfl
 ·have h1:H l=some (.lst xs):=h
  have h2:H l=some (.lst ys):=h'
  rw [h1] at h2;cases h2;rfl
theorem TrS.ne {c:Bool}{H:Hp}{l b:Addr}{xs:List V}(h:TrS c H l xs)(hb:H b=none):l≠b:=by
 cases c
 ·exact Zv (show H l=some (.tup xs) from h) hb
 ·exact Zv (show H l=some (.lst xs) from h) hb
theorem TrS.so {X:Cx}{pins:List (Addr×Obj)}{σ:St}{H:Hp}{s:Shared}{c:Bool}{l:Addr}{xs:List V}(I:Inv X pins σ H s)(h:TrS c H l xs):∃its:List Value,ZZ xs its/\Rj c s.heap l its.toArray/\xs.length<=Wk:=by
 cases c
 ·exact I.tuple (.of h)
 ·obtain⟨its,r,pl,z⟩:=I.list (.of h)
  exact⟨its,r,pl.isList,z⟩
def Itz (c1:Bool)(l1:Addr)(c2:Bool)(l2:Addr):It:=
 ⟨λi H=>∃xs ys x y,TrS c1 H l1 xs/\TrS c2 H l2 ys/\xs[i]? = some x/\ys[i]? = some y,
 λi H v H'=>∃p x y,v = .ref p/\H p=none/\H'=upd H p (.tup [x,y])/\(∀xs,TrS c1 H l1 xs->xs[i]? = some x)/\(∀ys,TrS c2 H l2 ys->ys[i]? = some y),
 λi H=>∃xs ys,TrS c1 H l1 xs/\TrS c2 H l2 ys/\(i=xs.length\/(i<xs.length/\i=ys.length))⟩
structure ZD (z TI TO i1 i2:Addr):Prop where
 a1:TI≠z
 a2:TO≠z
 a3:i1≠z
 a4:i2≠z
 a5:TI≠TO
 a6:TI≠i1
 a7:TI≠i2
 a8:TO≠i1
 a9:TO≠i2
 b1:i1≠i2
theorem ZD.ap {z TI TO i1 i2 l1 l2:Addr}(d:ZD z TI TO i1 i2)(h1:∀b∈[z,TI,TO,i1,i2],l1≠b)(h2:∀b∈[z,TI,TO,i1,i2],l2≠b):ZAp z TI TO i1 i2 [i1,l1] [i2,l2]:=by
 simp only [Wv,WX,or_false,forall_eq_or_imp,forall_eq] at h1 h2
 obtain⟨p1,p2,p3,p4,p5⟩:=h1
 obtain⟨q1,q2,q3,q4,q5⟩:=h2
 have no:∀{a b c:Addr},a≠b->a≠c->a∉[b,c]:=λx y z=>by
  simp only [Wv,WX,or_false] at z
  rcases z with z|z
  ·exact x z
  ·exact y z
 exact⟨d.a1,d.a2,d.a3,d.a4,d.a5,d.a6,d.a7,d.a8,d.a9,d.b1,no d.a3.symm p1.symm,no d.a4.symm q1.symm,no d.a8 p3.symm,no d.a9 q3.symm,no d.b1 q4.symm,no d.b1.symm p5.symm⟩
theorem DG {P:Program}{w:World}{H:Hp}{h:Heap}{p:Addr}{x y:V}{u v:Value}(e:IsPair h p u v)(rx:ZC x u)(ry:ZC y v):ZL P w H h p (.tup [x,y]):=
 ⟨by show 2<=Wk;decide,[u,v],.cons rx (.cons ry .nil),⟨⟨_,e,rfl,_,rfl⟩,_,e,rfl⟩⟩
theorem Fx {P:Program}{w:World}{K:W8}{elts:List Expr}{kt:Nat}{pt:Pos}{c1 c2:Bool}{l1 l2 z TI TO i1 i2:Addr}(d:ZD z TI TO i1 i2) :
  Turn P w K (.Tuple elts kt pt) (Itz c1 l1 c2 l2) [z,TI,TO,i1,i2] z (λi h=>IsZip h z TI TO .none/\IsPair h TI (.ref i1) (.ref i2)/\(∃a b,IsPair h TO a b)/\Fe c1 h i1 l1 i/\Fe c2 h i2 l2 i) where
 mem:=by simp
 obj:=λi h st b hb=>by
  obtain⟨hz,hTI,⟨a,b',hTO⟩,s1,s2⟩:=st
  have seq:∀{c:Bool} {it l:Addr} {k:Nat},Fe c h it l k->∃o,h.get? it=some o/\∀v,o.data≠.cell v:=λ{c it l k} q=>by
   cases c
   ·obtain⟨o,e,_,q⟩:=q
    exact⟨o,e,λv z=>by rw [q] at z;cases z⟩
   ·obtain⟨o,e,_,q⟩:=q
    exact⟨o,e,λv z=>by rw [q] at z;cases z⟩
  simp only [Wv,WX,or_false] at hb
  rcases hb with rfl|rfl|rfl|rfl|rfl
  ·exact⟨_,hz,λv q=>nomatch q⟩
  ·exact⟨_,hTI,λv q=>nomatch q⟩
  ·exact⟨_,hTO,λv q=>nomatch q⟩
  ·exact seq s1
  ·exact seq s2
 keep:=λi h h' st k=>by
  obtain⟨hz,hTI,⟨a,b',hTO⟩,s1,s2⟩:=st
  have seq:∀{c:Bool} {it l:Addr} {k:Nat},(∀o,h.get? it=some o->h'.get? it=some o)->Fe c h it l k->Fe c h' it l k:=λ{c it l k} kp q=>by
   cases c
   ·obtain⟨o,e,q⟩:=q
    exact⟨o,kp o e,q⟩
   ·obtain⟨o,e,q⟩:=q
    exact⟨o,kp o e,q⟩
  exact⟨k z (by simp) _ hz,k TI (by simp) _ hTI,⟨a,b',k TO (by simp) _ hTO⟩,seq (k i1 (by simp)) s1,seq (k i2 (by simp)) s2⟩
 item:=by
  intro X hP hw hK hc i pins s σ H E I hf st hg;subst hP hw hK;obtain⟨xs,ys,x,y,t1,t2,hx,hy⟩:=hg
  obtain⟨hz,hTI,⟨a,b',hTO⟩,s1,s2⟩:=st
  obtain⟨its1,r1,o1,_⟩:=t1.so I
  obtain⟨its2,r2,o2,_⟩:=t2.so I
  have n1:∀b∈[z,TI,TO,i1,i2],l1≠b:=λb hb=>t1.ne (hf b hb).1
  have n2:∀b∈[z,TI,TO,i1,i2],l2≠b:=λb hb=>t2.ne (hf b hb).1
  have hh:X.A.in1.handled=none:=I.ok.hd hc
  have D1:=Tc (prog:=X.prog) (w:=X.w) c1 hh i1 l1 (n1 i1 (by simp)) its1.toArray
  have D2:=Tc (prog:=X.prog) (w:=X.w) c2 hh i2 l2 (n2 i2 (by simp)) its2.toArray
  have lx:i<its1.toArray.size:=by rw [Wo,<-r1.length];exact (Wn.mp hx).1
  have ly:i<its2.toArray.size:=by rw [Wo,<-r2.length];exact (Wn.mp hy).1
  refine KI D1 D2 (d.ap n1 n2) hz hTI hTO ⟨s1,o1⟩ ⟨s2,o2⟩ lx ly λu v h' tk p1 p2 z' to' st1 st2 new size kept=>?_
  obtain⟨u',eu,ru⟩:=r1.get hx
  obtain⟨v',ev,rv⟩:=r2.get hy
  have hu:u=u':=by
   have:its1.toArray[i]? = some u:=p1
   rw [W1T,eu] at this;exact (WW this).symm
  have hv:v=v':=by
   have:its2.toArray[i]? = some v:=p2
   rw [W1T,ev] at this;exact (WW this).symm
  subst hu hv;refine⟨_,rfl,wpAny_letOwnedTupleGo_zip (s:={ s with heap:=h',toks:=tk }) z' λh'' z'' sb=>?_⟩
  have kp:∀b o,b∉[z,TI,TO,i1,i2]->s.heap.get? b=some o->h''.get? b=some o:=λb o hb e=>by
   simp only [Wv,WX,or_false,not_or] at hb
   exact sb.extBut b o hb.1 (kept b o (by simp only [Wv,WX,or_false,not_or];exact⟨hb.1,hb.2.2.1,hb.2.2.2.1,hb.2.2.2.2⟩) e)
  have hn:H s.heap.objs.size=none:=I.hok.fresh (Wq _)
  have zlt:z<s.heap.objs.size:=Wt hz
  have lt:∀b∈[z,TI,TO,i1,i2],b<s.heap.objs.size:=λb hb=>by
   have seq:∀{c:Bool} {it l:Addr} {k:Nat},Fe c s.heap it l k->it<s.heap.objs.size:=λ{c it l k} q=>by
    cases c
    ·obtain⟨o,e,_⟩:=q;exact Wt e
    ·obtain⟨o,e,_⟩:=q;exact Wt e
   simp only [Wv,WX,or_false] at hb
   rcases hb with rfl|rfl|rfl|rfl|rfl
   ·exact zlt
   ·exact Wt hTI
   ·exact Wt hTO
   ·exact seq s1
   ·exact seq s2
  have new':IsPair h'' s.heap.objs.size u v:=sb.extBut _ _ (W1l zlt) new
  have keepTI:IsPair h'' TI (.ref i1) (.ref i2):=sb.extBut _ _ d.a1 (kept TI _ (by simp only [Wv,WX,or_false,not_or];exact⟨d.a1,d.a5,d.a6,d.a7⟩) hTI)
  have seq:∀{c:Bool} {it l:Addr} {k:Nat},it≠z->Fe c h' it l k->Fe c h'' it l k:=λ{c it l k} ne q=>by
   cases c
   ·obtain⟨o,e,q⟩:=q
    exact⟨o,sb.extBut _ _ ne e,q⟩
   ·obtain⟨o,e,q⟩:=q
    exact⟨o,sb.extBut _ _ ne e,q⟩
  refine⟨.ref s.heap.objs.size,upd H s.heap.objs.size (.tup [x,y]),?_,rfl,⟨_,x,y,rfl,hn,rfl,λws h=>?_,λws h=>?_⟩,⟨z'',keepTI,⟨_,_,sb.extBut _ _ d.a2 to'⟩,seq d.a3 st1.1,seq d.a4 st2.1⟩,λb hb=>?_⟩
  ·have I1:Inv X pins σ (upd H s.heap.objs.size (.tup [x,y])) { s with heap:=s.heap.push { cls:=.type "tuple",data:=.seq #[u,v] } }:=
    I.laid (t':=s.toks) (λb o e=>Wj _ e) (Wq _) (DG (Ws _ rfl) ru rv)
   have fin:(∀b∈[z,TI,TO,i1,i2],Rp X pins (upd H s.heap.objs.size (.tup [x,y])) b)->(∀b o,b∉[z,TI,TO,i1,i2]->(s.heap.push { cls:=.type "tuple",data:=.seq #[u,v] }).get? b=some o->h''.get? b=some o)->
     Inv X pins σ (upd H s.heap.objs.size (.tup [x,y])) { s with heap:=h'',toks:=tk }:=λa1 a2=>Inv.turnedL (s:={ s with heap:=s.heap.push { cls:=.type "tuple",data:=.seq #[u,v] } }) (h':=h'') (t':=tk) (ch:=[z,TI,TO,i1,i2]) I1 a1 a2
   refine fin (λb hb=>?_) λb o hb e=>?_
   ·obtain⟨f0,f⟩:=hf b hb
    exact⟨by rw [Zf (WG (lt b hb))];exact f0,f⟩
   ·by_cases q:b=s.heap.objs.size
    ·subst q
     rw [Ws _ rfl] at e;cases e;exact new'
    ·rw [Heap.get?_push_ne _ _ _ q] at e
     exact kp b o hb e
  ·rw [h.one t1];exact hx
  ·rw [h.one t2];exact hy
  ·rw [Zf (WG (lt b hb))];exact (hf b hb).1
 done:=by
  intro X hP hw hK hc i pins s σ H E I hf st hg;subst hP hw hK;obtain⟨xs,ys,t1,t2,hend⟩:=hg
  obtain⟨hz,hTI,⟨a,b',hTO⟩,s1,s2⟩:=st
  obtain⟨its1,r1,o1,_⟩:=t1.so I
  obtain⟨its2,r2,o2,_⟩:=t2.so I
  have n1:∀b∈[z,TI,TO,i1,i2],l1≠b:=λb hb=>t1.ne (hf b hb).1
  have n2:∀b∈[z,TI,TO,i1,i2],l2≠b:=λb hb=>t2.ne (hf b hb).1
  have hh:X.A.in1.handled=none:=I.ok.hd hc
  have D1:=Tc (prog:=X.prog) (w:=X.w) c1 hh i1 l1 (n1 i1 (by simp)) its1.toArray
  have D2:=Tc (prog:=X.prog) (w:=X.w) c2 hh i2 l2 (n2 i2 (by simp)) its2.toArray
  refine Pu D1 D2 (d.ap n1 n2) hz hTI hTO ⟨s1,o1⟩ ⟨s2,o2⟩ (by rw [Wo,Wo,<-r1.length,<-r2.length];exact hend) λh' tk kept=>⟨rfl,I.turnedL hf λb o hb e=>?_⟩
  simp only [Wv,WX,or_false,not_or] at hb
  exact kept b o (by simp only [Wv,WX,or_false,not_or];exact⟨hb.1,hb.2.2.1,hb.2.2.2.1,hb.2.2.2.2⟩) e
 self:=λ_ _ _ _ _ st h=>wpAny_pyIter_zip st.1 h
section
variable {X:Cx} {e1 e2:Expr} {te1 te2:TE} {p pos:Pos}
def Z35 (ta:TA):TI:=λσ H R=>ta σ H λvs H1=>∃c1 l1 xs c2 l2 ys,vs=[.ref l1,.ref l2]/\TrS c1 H1 l1 xs/\TrS c2 H1 l2 ys/\R (Itz c1 l1 c2 l2) H1
theorem Dr {elts:List Expr}{kt:Nat}{pt:Pos}{ta:TA}(hg:Gl X "zip")(hm:X.mg "zip" = none)(hv:WK "zip" = some (.type "zip"))(ha:PA X [e1,e2] ta)
  (he:Wr [e1,e2] X.env=(false,eval e1 X.env) :: Wr [e2] X.env:=by rfl) (hpl:(backTo pos (Wr [e2] X.env)).any (·.1)=false:=by rfl) :
  PI X (.Tuple elts kt pt) (.Call (.Name "zip" p) [e1,e2] [] pos) (Z35 ta):=by
 intro pins s σ H R I h;refine VS (U1 I hg hm hv ?_ (by decide) (by decide))
 refine W0t (thn (ha pos pins s σ H _ I h) λus s1 ⟨vs,H1,I1,r1,c1,l1,xs,c2,l2,ys,ev,t1,t2,q⟩=>?_) he hpl
 subst ev;obtain⟨u1,u2,rfl,ru1,ru2⟩:=Ku r1
 cases ru1;cases ru2;obtain⟨its1,_,o1,_⟩:=t1.so I1
 obtain⟨its2,_,o2,_⟩:=t2.so I1
 refine LX o1 o2 ?_
 obtain⟨z1,z2,z3,z4,z5,z6⟩:=IN s1.heap c1 c2 l1 l2
 refine wpAny_pyIter_zip (s:={ s1 with heap:=zh s1.heap c1 c2 l1 l2 }) z1 ?_
 have ne:∀{a b:Nat},a≠b->s1.heap.objs.size+a≠s1.heap.objs.size+b:=λh q=>h (Nat.add_left_cancel q)
 refine⟨_,_,_,_,H1,rfl,I1.kept (t':=s1.toks) z6,Fx (c1:=c1) (l1:=l1) (c2:=c2) (l2:=l2) ⟨ne (by decide),ne (by decide),ne (a:=0) (by decide),ne (by decide),ne (by decide),ne (b:=0) (by decide),ne (by decide),ne (b:=0) (by decide),ne (by decide),ne (a:=0) (by decide)⟩,⟨z1,z2,⟨_,_,z3⟩,.new z4,.new z5⟩,λb hb=>?_,q⟩
 have hb':s1.heap.objs.size<=b:=by
  simp only [Wv,WX,or_false] at hb
  rcases hb with rfl|rfl|rfl|rfl|rfl<;>omega
 exact I1.fpOk hb' (I1.hok.fresh hb')
end
end L2
namespace L2
open PySem PySem.Spec PyProof.Rows
theorem Cy {k:Key}{u:Value}(h:M9 k u=true):ZC (kV k) u:=by
 rcases ZS h with ⟨i,t,rfl,rfl⟩|⟨x,t,rfl,rfl⟩
 ·exact⟨t,rfl⟩
 ·exact⟨t,rfl⟩
def Itk (a:Addr)(o:Obj):It:=
 ⟨λi H=>∃(kvs:List (Key×V)) (k:Key) (v:V),H a=some (.frz o (.dK kvs))/\kvs[i]? = some (k,v),
 λi H x H'=>H'=H/\∀kvs:List (Key×V),H a=some (.frz o (.dK kvs))->∃k v,kvs[i]? = some (k,v)/\x=kV k,
 λi H=>∃kvs:List (Key×V),H a=some (.frz o (.dK kvs))/\i=kvs.length⟩
theorem LJ {X:Cx}{pins:List (Addr×Obj)}{σ:St}{H:Hp}{s:Shared}{a:Addr}{o:Obj}{kvs:List (Key×V)}(I:Inv X pins σ H s)(e:H a=some (.frz o (.dK kvs))){es:Array DictEntry}{ep:Nat}(hd:o.data = .dict es ep) :
  ∃vs:List (Key×Value),KV kvs vs/\s.heap.DictAt (ZN X.prog X.w) a vs ep/\es.size=vs.length:=by
 obtain⟨h1,_,_,vs,r,o',es',ep',h2,h3,h4,h5,h6,h7⟩:=(show ZL X.prog X.w H s.heap a (.frz o (.dK kvs)) from I.hok a _ e)
 rw [h1] at h2;cases h2;rw [hd] at h4;cases h4;exact⟨vs,r,⟨o,es,h1,h3,hd,h5,h6,h7⟩,by rw [<-h6.length];simp⟩
theorem KV.get {κ:Type}{kvs:List (κ×V)}{vs:List (κ×Value)}(r:KV kvs vs):∀{i:Nat} {k:κ} {v:V},kvs[i]? = some (k,v)->∃u,vs[i]? = some (k,u)/\ZC v u:=by
 unfold KV at r
 induction r with
 |nil=>intro i k v e;simp at e
 | @cons p q ps qs h t ih=>
  intro i k v e;cases i with
  |zero=>
   simp at e
   subst e;have h1:k=q.1:=h.1
   exact⟨q.2,by rw [h1];rfl,h.2⟩
  |succ i=>simpa using ih (by simpa using e)
theorem RC {P:Program}{w:World}{K:W8}{tg:Expr}{a it:Addr}{o:Obj}{es:Array DictEntry}{ep:Nat}(hd:o.data = .dict es ep):Turn P w K tg (Itk a o) [it] it (λi h=>h.IsKeyIter it a i es.size ep) where
 mem:=by simp
 obj:=λi h st b hb=>by
  have e:b=it:=by simpa using hb
  subst e;obtain⟨q,e,_,d⟩:=st
  exact⟨q,e,λv z=>by rw [d] at z;cases z⟩
 keep:=λi h h' st k=>st.at λq e=>k it (by simp) q e
 item:=by
  intro X hP hw hK hc i pins s σ H E I hf st hg;subst hP hw hK;obtain⟨kvs,k,v,e,hx⟩:=hg
  obtain⟨vs,r,hm,hz⟩:=LJ I e hd
  obtain⟨u,hu,_⟩:=r.get hx
  obtain⟨f0,f1,f2,f3,f4,f5⟩:=hf it (by simp)
  rw [hz] at st;refine wpAny_pyNext_dict_item st hm hu λkey h' hk st' sb=>?_
  have I1:Inv X pins σ H { s with heap:=h' }:=I.turned (t':=s.toks) (λb q hb e=>(sb.2 b hb).trans e) f0 f1 f3 f4 f5
  obtain⟨q,eq,c,d⟩:=id st'
  refine⟨key,rfl,AD (s:={ s with heap:=h' }) eq c d (by decide) ⟨kV k,H,I1,Cy hk,⟨rfl,λkvs' e'=>?_⟩,by rw [hz];exact st',λb hb=>(hf b hb).1⟩⟩
  rw [e] at e'
  cases e'
  exact⟨k,v,hx,rfl⟩
 done:=by
  intro X hP hw hK hc i pins s σ H E I hf st hg;subst hP hw hK;obtain⟨kvs,e,hx⟩:=hg
  obtain⟨vs,r,hm,hz⟩:=LJ I e hd
  obtain⟨f0,f1,f2,f3,f4,f5⟩:=hf it (by simp)
  rw [hz] at st;exact wpAny_pyNext_dict_end (I.ok.hd hc) st hm (by rw [hx,r.length];simp) λh' eb=>⟨rfl,I.turned (t':=s.toks) (λb q hb e=>eb b q hb e) f0 f1 f3 f4 f5⟩
 self:=λ_ _ _ _ _ st h=>wpAny_pyIter_keyiter st h
section
variable {X:Cx} {pins:List (Addr×Obj)} {σ:St} {H:Hp} {s:Shared} {a:Addr} {kvs:List (Key×V)} {tg:Expr} {E:Value->Shared->Prop} {R:It->Hp->Prop}
theorem Inv.freeze (I:Inv X pins σ H s)(e:H a=some (.dK kvs)):∃(o:Obj) (es:Array DictEntry) (ep:Nat),o.data = .dict es ep/\Inv X pins σ (upd H a (.frz o (.dK kvs))) s:=by
 obtain⟨z,hS,vs,r,o,es,ep,h1,h2,h3,h4⟩:=(show ZL X.prog X.w H s.heap a (.dK kvs) from I.hok a _ e)
 refine⟨o,es,ep,h3,I.view (by rw [e];exact True.intro) ⟨o,h1⟩ ⟨h1,z,hS,vs,r,o,es,ep,h1,h2,h3,h4⟩⟩
theorem Pf {o:Obj}(I:Inv X pins σ H s)(e:H a=some (.frz o (.dK kvs)))(q:R (Itk a o) H):wpAny (model X.prog X.w) X.A (pyIter (.ref a)) (PIE X pins σ tg R) E s:=by
 obtain⟨h1,_,hS,_,_,o',es,ep,h2,_,hd,_⟩:=(show ZL X.prog X.w H s.heap a (.frz o (.dK kvs)) from I.hok a _ e)
 rw [h1] at h2;cases h2;obtain⟨vs,r,hm,hz⟩:=LJ I e hd
 refine wpAny_pyIter_dict hS hm ?_
 refine⟨s.heap.objs.size,[s.heap.objs.size],_,_,H,rfl,I.kept (t':=s.toks) λb o e=>Wj _ e,RC (a:=a) hd,⟨_,Ws _ rfl,rfl,by rw [hz];rfl⟩,λb hb=>?_,q⟩
 have eb:b=s.heap.objs.size:=by simpa using hb
 subst eb;exact I.fpOk (Wq _) (I.hok.fresh (Wq _))
theorem Inv.notFrz (I:Inv X pins σ H s)(e:H a=some (.dK kvs)):∀o u,X.H₀ a≠some (.frz o u):=λo u z=>by
 have:=I.base.frzs a o u z
 rw [e] at this;cases this
theorem ML (I:Inv X pins σ H s)(e:H a=some (.dK kvs))(q:∀o,(∀o u,X.H₀ a≠some (.frz o u))->R (Itk a o) (upd H a (.frz o (.dK kvs)))):wpAny (model X.prog X.w) X.A (pyIter (.ref a)) (PIE X pins σ tg R) E s:=by
 obtain⟨o,es,ep,hd,I'⟩:=I.freeze e
 exact Pf I' Z7 (q o (I.notFrz e))
end
end L2
namespace L2
open PySem PySem.Spec PyProof.Rows
theorem Tx:typeLookup (.type "tuple") "keys" = pure none:=by rw [typeLookup_type,W1U];kernel_rfl
section
variable {prog:Program} {w:World} {A:Around} {E:Value->Shared->Prop} {s:Shared}
set_option maxRecDepth 8000 in
theorem B4 {a:Addr}{o:Obj}{xs:Array Value}{k:Nat}{Q:Option Value->Shared->Prop}(hx:s.heap.get? a=some o)(hc:o.cls = .type "tuple")(hdat:o.data = .seq xs k)(hd:o.dict=none)(hA:A.handled=none)
  (h:∀h' tk,(∀b o,s.heap.get? b=some o->h'.get? b=some o)->Q none { s with heap:=h',toks:=tk }):wpAny (model prog w) A (getAttr? (.ref a) "keys") Q E s:=by
 obtain⟨c,dct,dat,sl⟩:=o
 simp only at hc hdat hd
 subst hc hdat hd;obtain⟨hp,g,d,tk,os⟩:=s
 have hT:∀tk',(⟨hp,g,d,tk',os⟩:Shared).TypeIs (.ref a) "tuple":=λ_=>⟨_,hx,rfl⟩
 have f1:=sub_AttributeError
 have f3:=W15.lookup
 have f4:=W15.bind (.ref a)
 have f5:=am_tuple_getattr_none
 unfold getAttr? getAttrBy? getAttrBy
 repeat (any_goals (first|assumption|exact hT _|((with_reducible show wpAny _ _ (call (Value.builtin "tuple.__getattribute__") _ _) _ _ _);refine call_meets W15 (hT _) am_entry_tuple_getattribute (F.args_tuple_getattribute_2 _ _) (meets_getattribute_miss_tuple a xs k sl "keys" _ Tx (by decide +kernel) (by size_fits)) ⟨hx,hA,λh' tk' e hx'=>?_⟩)|wp_step))
 obtain⟨t',u',he⟩:=hx'.there
 show wpAny _ _ (getattributeRaised _ _ _ _ _ _ _) _ _ _
 unfold getattributeRaised;have hT2:(⟨h',g,d,tk',os⟩:Shared).TypeIs (.ref e) "AttributeError":=⟨_,he,rfl⟩
 repeat (any_goals (first|assumption|wp_step))
 exact h _ _ hx'.of.keeps
end
namespace DP
theorem entry_loop:entryFor table "dict.update.loop" = some Builtin.«dict.update.loop»:=entryFor_of_tree (by kernel_rfl)
theorem plain_loop:plainId "dict.update.loop" = true:=by decide +kernel
end DP
section
variable {X:Cx} {pins:List (Addr×Obj)} {σ:St} {A:Around}
theorem KF {H:Hp}{s:Shared}{p:Addr}{x y:V}{E:Value->Shared->Prop}{Q:List Value->Shared->Prop}(I:Inv X pins σ H s)(hp:H p=some (.tup [x,y]))(h:∀u v,ZC x u->ZC y v->Q [u,v] s) :
  wpAny (model X.prog X.w) A (Builtin.Dict.pairItems (.ref p)) Q E s:=by
 obtain⟨its,rv,ht,_⟩:=I.tuple (.of hp)
 obtain⟨o,ho,hc,n,hd⟩:=(show s.heap.IsTuple p its.toArray from ht)
 obtain⟨u,v,rfl,ru,rv'⟩:=Ku rv
 unfold Builtin.Dict.pairItems;refine W0 (W2m (T:="tuple") ⟨o,ho,hc⟩ ?_)
 rw [if_pos (by decide)]
 exact W0 (Vm ho hd (Wd (h u v ru rv')))
theorem BJ:∀(ps kvs:List (Key×V)),(Qe kvs ps).length<=kvs.length+ps.length
 |[],kvs=>by unfold Qe;simp
 |p :: ps,kvs=>by
  have h1:=BJ ps (G3 kvs p.1 p.2)
  have h2:=QV kvs p.1 p.2
  show (Qe (G3 kvs p.1 p.2) ps).length<=_
  rw [WS];omega
theorem NY (ps kvs:List (Key×V))(p:Key×V):Qe kvs (ps++[p])=G3 (Qe kvs ps) p.1 p.2:=by unfold Qe;rw [W2z];rfl
theorem RG {α:Type}{l:List α}{i:Nat}(h:i<l.length):l.take i++[l[i]]=l.take (i+1):=by simp
theorem LQ {d it l:Addr}{xs:List V}{ps:List (Key×V)}(hh:A.handled=none)(hlen:xs.length=ps.length)(hsz:ps.length<=Wk){R:Result->Shared->Prop} :
  ∀(m i:Nat) (s:Shared) (H:Hp),ps.length-i=m->i<=ps.length->Inv X pins σ H s->H d=some (.dK (Qe [] (ps.take i)))->H l=some (.tup xs)->
   (∀(j:Nat) k v,ps[j]? = some (k,v)->∃p,xs[j]? = some (.ref p)/\H p=some (.tup [kV k,v]))->Rp X pins H it->s.heap.IsTupleIter it l i->
   (∀s',Inv X pins σ (upd H d (.dK (Qe [] ps))) s'->R (.ok (.ret .none)) s')->
   codeAny (model X.prog X.w) A (.builtin "dict.update.loop" ⟨[.ref d,.ref it,rawInt i,.none],[]⟩) R s:=by
 intro m
 induction m with
 |zero=>
  intro i s H hm hi I hd hl hps hf st k;have e:i=ps.length:=by omega
  subst e;obtain⟨its,rv,p,_⟩:=I.tuple (.of hl)
  obtain⟨f0,f1,f2,f3,f4,f5⟩:=id hf
  refine VO DP.entry_loop ?_
  rw [Vl DP.plain_loop _];show wpAny _ A.in1 (pyNext (.ref it) >>= _) _ _ s
  refine W0 (wpAny_pyNext_tuple_end (by simpa using hh) st (show s.heap.IsTuple l its.toArray from p) (by have:=rv.length;simp;omega) λh' eb=>?_)
  have I1:Inv X pins σ H { s with heap:=h' }:=I.turned (t':=s.toks) (λb o hb e=>eb b o hb e) f0 f1 f3 f4 f5
  show wpAny _ A.in1 (Builtin.Dict.addKeywords d [] >>= _) _ _ _
  refine W0 (Wd (Wd (k _ ?_)))
  rw [List.take_length] at hd;have eu:upd H d (.dK (Qe [] ps))=H:=by
   funext b
   unfold upd;by_cases hb:b=d
   ·rw [if_pos hb,hb,hd]
   ·rw [if_neg hb]
  rw [eu];exact I1
 |succ m ih=>
  intro i s H hm hi I hd hl hps hf st k;have hlt:i<ps.length:=by omega
  obtain⟨its,rv,p,_⟩:=I.tuple (.of hl)
  obtain⟨f0,f1,f2,f3,f4,f5⟩:=id hf
  have hpi:ps[i]? = some (ps[i].1,ps[i].2):=Wl hlt
  obtain⟨q,hq,hH⟩:=hps i _ _ hpi
  obtain⟨u,hu,ru⟩:=rv.get hq
  cases ru;refine VO DP.entry_loop ?_
  rw [Vl DP.plain_loop _];show wpAny _ A.in1 (pyNext (.ref it) >>= _) _ _ s
  refine W0 (wpAny_pyNext_tuple_item st (show s.heap.IsTuple l its.toArray from p) (x:=.ref q) (by simpa using hu) λh' st' sb=>?_)
  have I1:Inv X pins σ H { s with heap:=h' }:=I.turned (t':=s.toks) (λb o hb e=>(sb.2 b hb).trans e) f0 f1 f3 f4 f5
  dsimp only;refine W0 (VD (W0 (W16 (KF I1 hH λa b ra rb=>?_))))
  dsimp only;refine VD ?_
  obtain⟨z,hdS,vs,rel,dd⟩:=XL I1.hok hd
  have hz:vs.length<=Wk:=by rw [<-rel.length];exact z
  have hl1:(G3 (Qe [] (ps.take i)) ps[i].1 ps[i].2).length<=Wk:=by
   have h1:=QV (Qe [] (ps.take i)) ps[i].1 ps[i].2
   have h2:=BJ (ps.take i) []
   rw [W0M] at h2;simp only [W1u] at h2
   omega
  refine wpAny_dictSet_pairs (hsz:=hz) (G7 ra) dd λh2 dd' hs=>?_
  have he:∃q,h2.get? d=some q:=let ⟨q,_,_,hq,_⟩:=dd';⟨q,hq⟩
  have I2:Inv X pins σ (upd H d (.dK (G3 (Qe [] (ps.take i)) ps[i].1 ps[i].2))) { s with heap:=h2,toks:=s.toks+1 }:=UG (s:={ s with heap:=h' }) (h':=h2) (t':=s.toks+1) I1 (by rw [hd];exact True.intro) hs he (Hc hl1 hdS (rel.put ps[i].1 rb) dd')
  have hit:it≠d:=λz=>by rw [z] at f0;rw [f0] at hd;cases hd
  have nd:∀(c:Addr) ys,H c=some (.tup ys)->c≠d:=λc ys e z=>by rw [z,hd] at e;cases e
  refine Wd ⟨W0d DP.plain_loop _,ih (i+1) _ _ (by omega) hlt I2 ?_ (by rw [Zf (nd l xs hl)];exact hl) (λj k v e=>?_) ⟨by rw [Zf hit];exact f0,f1,f2,f3,f4,f5⟩ ?_ λs' I'=>k s' ?_⟩
  ·rw [Z7,<-NY,RG hlt]
  ·obtain⟨c,c1,c2⟩:=hps j k v e
   exact⟨c,c1,by rw [Zf (nd c _ c2)];exact c2⟩
  ·exact st'.at λo e=>(hs.2 it hit).trans e
  ·rw [Qy] at I'
   exact I'
theorem TX (hcalm:X.calm=true):J8 X (.type "dict") (λvs H Q=>∃l xs ps,vs=[.ref l]/\H l=some (.tup xs)/\xs.length=ps.length/\ps.length<=Wk/\
  (∀(j:Nat) k v,ps[j]? = some (k,v)->∃p,xs[j]? = some (.ref p)/\H p=some (.tup [kV k,v]))/\∀d,H d=none->Q (.ref d) (upd H d (.dK (Qe [] ps)))):=by
 intro pins s σ H vs us Q I r h;obtain⟨l,xs,ps,rfl,hl,hlen,hsz,hps,q⟩:=h
 obtain⟨u,rfl,ru⟩:=UU r
 cases ru;have hh:X.A.handled=none:=I.ok.hd hcalm
 refine callType_codes (Q₁:=λobj s₁=>obj = .ref s.heap.objs.size/\s₁={ s with heap:=s.heap.push { cls:=.type "dict",data:=.dict #[] } }) PySem.F.kt_called_dict (PySem.F.kt_typeCall_dict_1 _) PySem.F.entry_dict_init (kt_code_dict_new _ ⟨rfl,rfl⟩) ?_
 rintro obj s₁ ⟨rfl,rfl⟩
 have hnew:(s.heap.push { cls:=.type "dict",data:=.dict #[] }).DictOf (ZN X.prog X.w) s.heap.objs.size []:=Heap.DictOf.new s.heap
 have hfr:H s.heap.objs.size=none:=I.hok.fresh (Wq _)
 have I1:Inv X pins σ (upd H s.heap.objs.size (.dK [])) { s with heap:=s.heap.push { cls:=.type "dict",data:=.dict #[] } }:=I.laid (a:=s.heap.objs.size) (o:=.dK []) (t':=s.toks) (λ_ _ q=>Wj _ q) (Wq _) (Kk s.heap I.big)
 have hnl:∀(c:Addr) o,H c=some o->c≠s.heap.objs.size:=λc o e z=>by rw [z,hfr] at e;cases e
 have hl1:upd H s.heap.objs.size (.dK []) l=some (.tup xs):=by rw [Zf (hnl l _ hl)];exact hl
 obtain⟨its,rv,ht,_⟩:=I1.tuple (.of hl1)
 obtain⟨o,ho,hc,n,hd⟩:=(show (s.heap.push { cls:=.type "dict",data:=.dict #[] }).IsTuple l its.toArray from ht)
 have hdn:o.dict=none:=by
  obtain⟨_,_,_,_,o',ho',hd'⟩:=(show ZL X.prog X.w _ (s.heap.push { cls:=.type "dict",data:=.dict #[] }) l (.tup xs) from I1.hok l _ hl1)
  rw [ho] at ho'
  cases ho'
  exact hd'
 refine⟨hnew.typeIs,PySem.F.args_dict_init_2 _ _,?_⟩
 unfold Builtin.«dict.__init__»
 refine W0 ?_
 unfold Builtin.Dict.selfAndRest;refine W0 (wpAny_notOrdered_dict hnew.typeIs ?_)
 show wpAny _ _ (pure (s.heap.objs.size,[Value.ref l])) _ _ _
 refine Wd ?_
 show wpAny _ _ (Builtin.Dict.updateFrom "dict.__init__" s.heap.objs.size (.ref l) [] .none) _ _ _
 unfold Builtin.Dict.updateFrom;refine W0 (W2m (T:="tuple") ⟨o,ho,hc⟩ ?_)
 rw [if_pos (by decide)]
 refine W0 (B4 ho hc hd hdn (by simpa using hh) λh2 tk hk=>?_)
 simp only [Option.isNone_none,if_true]
 have I2:Inv X pins σ (upd H s.heap.objs.size (.dK [])) { s with heap:=h2,toks:=tk }:=I1.kept (t':=tk) hk
 obtain⟨its2,rv2,ht2,_⟩:=I2.tuple (.of hl1)
 refine W0 (W26 (W0 (W0T (show h2.IsTuple l its2.toArray from ht2) ?_)))
 refine Wd ⟨W0d DP.plain_loop _,?_⟩
 have I3:Inv X pins σ (upd H s.heap.objs.size (.dK [])) { s with heap:=h2.push { cls:=.type "tuple_iterator",data:=.fields #[.ref l,.int 0 0] },toks:=tk }:=I2.kept (t':=tk) λb o e=>Wj _ e
 refine LQ (l:=l) (it:=h2.objs.size) (by simpa using hh) hlen hsz ps.length 0 _ _ (by omega) (Vx _) I3 Z7 hl1 (λj k v e=>?_) (I2.fpOk (Wq _) (I2.hok.fresh (Wq _))) ⟨_,Ws _ rfl,rfl,rfl⟩ λs' I'=>⟨rfl,?_⟩
 ·obtain⟨c,c1,c2⟩:=hps j k v e
  exact⟨c,c1,by rw [Zf (hnl c _ c2)];exact c2⟩
 ·rw [Qy] at I'
  exact⟨.ref s.heap.objs.size,_,I',rfl,q _ hfr⟩
end
end L2
namespace KS
open PySem PySem.W PyProof.Rows
def ev {α:Type}(lt:Nat->Nat->Bool):KasT α->α
 | .ret a=>a
 | .ask i j k=>ev lt (k (lt i j))
theorem UA {α β:Type}(lt:Nat->Nat->Bool)(f:α->KasT β):∀t:KasT α,ev lt (t.bind f)=ev lt (f (ev lt t))
 | .ret _=>rfl
 | .ask i j k=>UA lt f (k (lt i j))
def Rg {α:Type}(n:Nat):KasT α->Prop
 | .ret _=>True
 | .ask i j k=>i<n/\j<n/\∀b,Rg n (k b)
theorem GQ {α β:Type}{n:Nat}{f:α->KasT β}:∀{t:KasT α},Rg n t->(∀a,Rg n (f a))->Rg n (t.bind f)
 | .ret a,_,h=>h a
 | .ask i j k,⟨h1,h2,h3⟩,h=>⟨h1,h2,λb=>GQ (h3 b) h⟩
def Out {α:Type}(P:α->Prop):KasT α->Prop
 | .ret a=>P a
 | .ask _ _ k=>∀b,Out P (k b)
theorem GP {α β:Type}{n:Nat}{P:α->Prop}{f:α->KasT β}:∀{t:KasT α},Rg n t->Out P t->(∀a,P a->Rg n (f a))->Rg n (t.bind f)
 | .ret a,_,o,h=>h a o
 | .ask i j k,⟨h1,h2,h3⟩,o,h=>⟨h1,h2,λb=>GP (h3 b) (o b) h⟩
theorem T7 {α β:Type}{P:α->Prop}{P':β->Prop}{f:α->KasT β}:∀{t:KasT α},Out P t->(∀a,P a->Out P' (f a))->Out P' (t.bind f)
 | .ret a,o,h=>h a o
 | .ask i j k,o,h=>λb=>T7 (o b) h
def Al (n:Nat)(p:Array Nat):Prop:=∀x∈p,x<n
theorem Al.get {n:Nat}{p:Array Nat}(h:Al n p)(hn:0<n)(k:Nat):p.getD k 0<n:=by
 by_cases hk:k<p.size
 ·have e:p.getD k 0=p[k]:=by simp [Array.getD,hk]
  rw [e];exact h _ (Array.getElem_mem hk)
 ·have e:p.getD k 0=0:=by simp [Array.getD,hk]
  rw [e];exact hn
theorem Al.perm {n:Nat}{p q:Array Nat}(h:Al n p)(hp:q.Perm p):Al n q:=λx hx=>h x (hp.mem_iff.mp hx)
theorem Al.rev {n:Nat}{p:Array Nat}(h:Al n p)(i j:Nat):Al n (W1i p i j):=h.perm (mirror_perm _ _ _ _)
theorem Al.bub {n:Nat}{p:Array Nat}(h:Al n p)(i j:Nat):Al n (bubble p i j):=h.perm (bubble_perm _ _ _)
section
variable {n:Nat} (hn:0<n)
include hn
theorem RZ {p:Array Nat}(h:Al n p):∀f k,Rg n (W1L p f k)
 |0,_=>trivial
 |f+1,k=>⟨h.get hn _,h.get hn _,λb=>by
  cases b
  ·exact RZ h f (k+1)
  ·exact trivial⟩
theorem GO:∀f {p:Array Nat} (_:Al n p) k q,Rg n (W1f f p k q)
 |0,_,_,_,_=>trivial
 |f+1,p,h,k,q=>⟨h.get hn _,h.get hn _,λb=>by
  cases b
  ·refine⟨h.get hn _,h.get hn _,λb=>?_⟩
   cases b
   ·exact GO f h (k+1) (q+1)
   ·exact trivial
  ·show Rg n (if q>0 then W1f f (W1i p (k-(q+1)) k) (k+1) 0 else W1f f p (k+1) 0)
   split
   ·exact GO f (h.rev _ _) _ _
   ·exact GO f h _ _⟩
theorem JX:∀f {p:Array Nat} (_:Al n p) k q,Out (λr=>Al n r.1) (W1f f p k q)
 |0,_,h,_,_=>h
 |f+1,p,h,k,q=>λb=>by
  cases b
  ·intro b
   cases b
   ·exact JX f h (k+1) (q+1)
   ·exact h
  ·show Out _ (if q>0 then W1f f (W1i p (k-(q+1)) k) (k+1) 0 else W1f f p (k+1) 0)
   split
   ·exact JX f (h.rev _ _) _ _
   ·exact JX f h _ _
theorem MH {p:Array Nat}(h:Al n p)(a b:Nat):Rg n (kas_tail3 a b p):=GQ (RZ hn (h.rev _ _) _ _) λ_=>trivial
theorem NQ {α:Type}{P:α->Prop}(h:∀a,P a):∀t:KasT α,Out P t
 | .ret a=>h a
 | .ask i j k=>λb=>NQ h (k b)
theorem BG {p:Array Nat}(h:Al n p)(a b:Nat):Out (λr=>Al n r.2) (kas_tail3 a b p):=T7 (P:=λ_=>True) (NQ hn (λ_=>trivial) _) λ_ _=>h.rev _ _
theorem Tr {p:Array Nat}(h:Al n p)(a b:Nat):Rg n (W2n a b p):=GP (GO hn _ h _ _) (JX hn _ h _ _) λr hr=>by
 split
 ·exact MH hn (hr.rev _ _) _ _
 ·exact MH hn hr _ _
theorem UQ {p:Array Nat}(h:Al n p)(a b:Nat):Out (λr=>Al n r.2) (W2n a b p):=T7 (JX hn _ h _ _) λr hr=>by
 split
 ·exact BG hn (Al.rev hr _ _) _ _
 ·exact BG hn hr _ _
theorem FV {p:Array Nat}(h:Al n p)(a:Nat):Rg n (kas_count a p):=GQ (RZ hn h _ _) λm=>by
 split
 ·exact trivial
 ·split
  ·refine⟨h.get hn _,h.get hn _,λb=>?_⟩
   cases b
   ·exact Tr hn (h.rev _ _) _ _
   ·exact trivial
  ·exact Tr hn h _ _
theorem Po {p:Array Nat}(h:Al n p)(a:Nat):Out (λr=>Al n r.2) (kas_count a p):=T7 (P:=λ_=>True) (NQ hn (λ_=>trivial) _) λm _=>by
 split
 ·exact h
 ·split
  ·intro b
   cases b
   ·exact UQ hn (h.rev _ _) _ _
   ·exact h
  ·exact UQ hn h _ _
theorem GN {p:Array Nat}(h:Al n p)(k:Nat):∀f l r,Rg n (W2a p k f l r)
 |0,_,_=>trivial
 |f+1,l,r=>by
  unfold W2a;split
  ·exact trivial
  ·refine⟨h.get hn _,h.get hn _,λb=>?_⟩
   cases b
   ·exact GN h k f _ _
   ·exact GN h k f _ _
theorem Ed:∀f {p:Array Nat} (_:Al n p) k,Rg n (kas_bin f p k)
 |0,_,_,_=>trivial
 |f+1,p,h,k=>GQ (GN hn h k _ _ _) λ_=>Ed f (h.bub _ _) _
end
theorem Kt (n:Nat):Al n (W0i (W6 n)):=λx hx=>by simpa using hx
theorem rg_sort {n:Nat}(hn:0<n):Rg n (W1O n):=GP (FV hn (Kt n) _) (Po hn (Kt n) _) λr hr=>by
 split
 ·exact Ed hn _ hr _
 ·exact trivial
structure Ord (lt:Nat->Nat->Bool):Prop where
 irr:∀i,lt i i=false
 tr:∀i j k,lt j i=false->lt k j=false->lt k i=false
 as:∀i j,lt i j=true->lt j i=false
section
variable {lt:Nat->Nat->Bool} (O:Ord lt) {p q:Array Nat}
abbrev le (lt:Nat->Nat->Bool)(i j:Nat):Prop:=lt j i=false
theorem Ord.lt_le (O:Ord lt){i j k:Nat}(h1:lt i j=true)(h2:le lt j k):lt i k=true:=by
 cases h:lt i k
 ·have:=O.tr j k i h2 h
  rw [h1] at this;cases this
 ·rfl
def So (lt:Nat->Nat->Bool)(p:Array Nat)(n:Nat):Prop:=∀i j,i<=j->j<n->le lt (p.getD i 0) (p.getD j 0)
def De (lt:Nat->Nat->Bool)(p:Array Nat)(n:Nat):Prop:=∀i j,i<=j->j<n->le lt (p.getD j 0) (p.getD i 0)
theorem Jw {p:Array Nat}{i j:Nat}(hj:j<=p.size)(k:Nat):(W1i p i j).getD k 0=if i<=k/\k<j then p.getD (i+j-1-k) 0 else p.getD k 0:=by
 have:=getElem?_mirror_all (xs:=p) (i:=i) hj k
 simp only [Vz]
 unfold W1i;rw [this];split<;>rfl
include O
theorem Fb:∀f n,1<=n->So lt p n->n<=ev lt (W1L p f n)/\ev lt (W1L p f n)<=n+f/\So lt p (ev lt (W1L p f n))/\(ev lt (W1L p f n)<n+f->lt (p.getD (ev lt (W1L p f n)) 0) (p.getD (ev lt (W1L p f n)-1) 0)=true)
 |0,n,_,h=>⟨Wq _,Wq _,h,λz=>absurd z (VC _)⟩
 |f+1,n,h1,h=>by
  show n<=ev lt (if lt (p.getD n 0) (p.getD (n-1) 0)=true then KasT.ret n else W1L p f (n+1))/\ev lt (if lt (p.getD n 0) (p.getD (n-1) 0)=true then KasT.ret n else W1L p f (n+1))<=n+(f+1)/\So lt p (ev lt (if lt (p.getD n 0) (p.getD (n-1) 0)=true then KasT.ret n else W1L p f (n+1)))/\(ev lt (if lt (p.getD n 0) (p.getD (n-1) 0)=true then KasT.ret n else W1L p f (n+1))<n+(f+1)->lt (p.getD (ev lt (if lt (p.getD n 0) (p.getD (n-1) 0)=true then KasT.ret n else W1L p f (n+1))) 0) (p.getD (ev lt (if lt (p.getD n 0) (p.getD (n-1) 0)=true then KasT.ret n else W1L p f (n+1))-1) 0)=true)
  by_cases c:lt (p.getD n 0) (p.getD (n-1) 0)=true
  ·rw [if_pos c]
   exact⟨Wq _,Nat.le_add_right _ _,h,λ_=>c⟩
  ·rw [if_neg c]
   have h':So lt p (n+1):=λi j hij hj=>by
    by_cases q:j<n
    ·exact h i j hij q
    ·have ej:j=n:=by omega
     subst ej;by_cases q2:i=j
     ·rw [q2];exact O.irr _
     ·exact O.tr _ _ _ (h i (j-1) (by omega) (by omega)) (by simpa using c)
   obtain⟨a,b,c,d⟩:=Fb f (n+1) (by omega) h'
   exact⟨by omega,by omega,c,λz=>d (by omega)⟩
omit O in
theorem De.eqv {n:Nat}(O:Ord lt)(h:De lt p n)(e:∀k,k<n->le lt (q.getD k 0) (p.getD k 0)/\le lt (p.getD k 0) (q.getD k 0)):De lt q n:=λi j hij hj=>
 O.tr _ _ _ (e j hj).1 (O.tr _ _ _ (h i j hij hj) (e i (by omega)).2)
omit O in
theorem So.ofDe {n:Nat}(h:De lt p n)(hn:n<=p.size):So lt (W1i p 0 n) n:=λi j hij hj=>by
 rw [Jw hn,Jw hn,if_pos (by omega),if_pos (by omega)]
 exact h (0+n-1-j) (0+n-1-i) (by omega) (by omega)
def Run (lt:Nat->Nat->Bool)(p:Array Nat)(n q:Nat):Prop:=q+1<=n/\∀i,n-(q+1)<=i->i<n->le lt (p.getD i 0) (p.getD (n-1) 0)/\le lt (p.getD (n-1) 0) (p.getD i 0)
omit O in
theorem RW {n k:Nat}(O:Ord lt)(h:Run lt p n k)(hn:n<=p.size):∀i,i<p.size->le lt ((W1i p (n-(k+1)) n).getD i 0) (p.getD i 0)/\le lt (p.getD i 0) ((W1i p (n-(k+1)) n).getD i 0):=λi hi=>by
 rw [Jw hn];by_cases c:n-(k+1)<=i/\i<n
 ·rw [if_pos c]
  have a:=h.2 (n-(k+1)+n-1-i) (by omega) (by omega)
  have b:=h.2 i c.1 c.2
  exact⟨O.tr _ _ _ a.1 b.2,O.tr _ _ _ b.1 a.2⟩
 ·rw [if_neg c]
  exact⟨O.irr _,O.irr _⟩
def DP (lt:Nat->Nat->Bool)(p:Array Nat)(a b:Nat)(r:Array Nat×Nat×Nat):Prop:=r.1.size=p.size/\r.1.Perm p/\a<=r.2.1/\r.2.1<=b/\De lt r.1 r.2.1/\Run lt r.1 r.2.1 r.2.2
theorem LS:∀f (p:Array Nat) n k,De lt p n->Run lt p n k->n+f<=p.size->DP lt p n (n+f) (ev lt (W1f f p n k))
 |0,p,n,k,h,r,hz=>⟨rfl,.refl _,Wq _,Wq _,h,r⟩
 |f+1,p,n,k,h,r,hz=>by
  have h1:=r.1
  have step:∀(p1:Array Nat) (k1:Nat),p1.size=p.size->p1.Perm p->De lt p1 (n+1)->Run lt p1 (n+1) k1->DP lt p n (n+(f+1)) (ev lt (W1f f p1 (n+1) k1)):=λp1 k1 s1 pm d1 r1=>by
   obtain⟨a,b,c,d,e,g⟩:=LS f p1 (n+1) k1 d1 r1 (by omega)
   exact⟨a.trans s1,b.trans pm,by omega,by omega,e,g⟩
  show DP lt p n (n+(f+1)) (ev lt (if lt (p.getD n 0) (p.getD (n-1) 0)=true then (if k>0 then W1f f (W1i p (n-(k+1)) n) (n+1) 0 else W1f f p (n+1) 0)
   else .ask (p.getD (n-1) 0) (p.getD n 0) λd=>if d=true then .ret (p,n,k) else W1f f p (n+1) (k+1)))
  have run0:∀p1:Array Nat,Run lt p1 (n+1) 0:=λp1=>⟨by omega,λi a b=>by
   have:i=n:=by omega
   subst this;exact⟨O.irr _,O.irr _⟩⟩
  have more:∀p1:Array Nat,De lt p1 n->p1.getD n 0=p.getD n 0->le lt (p.getD n 0) (p1.getD (n-1) 0)->De lt p1 (n+1):=λp1 d1 e1 l1 i j hij hj=>by
   by_cases c:j<n
   ·exact d1 i j hij c
   ·have ej:j=n:=by omega
    subst ej;by_cases c2:i=j
    ·rw [c2];exact O.irr _
    ·rw [e1]
     exact O.tr _ _ _ l1 (d1 i (j-1) (by omega) (by omega))
  by_cases c:lt (p.getD n 0) (p.getD (n-1) 0)=true
  ·rw [if_pos c]
   by_cases ck:k>0
   ·rw [if_pos ck]
    have rr:=RW O r (by omega)
    refine step _ 0 (W2b _ _ _ _) (mirror_perm _ _ _ _) (more _ (h.eqv O λi hi=>rr i (by omega)) ?_ ?_) (run0 _)
    ·rw [Jw (by omega),if_neg (by omega)]
    ·exact O.tr _ _ _ (O.as _ _ c) (rr (n-1) (by omega)).2
   ·rw [if_neg ck]
    exact step p 0 rfl (.refl _) (more p h rfl (O.as _ _ c)) (run0 _)
  ·rw [if_neg c]
   show DP lt p n (n+(f+1)) (ev lt (if lt (p.getD (n-1) 0) (p.getD n 0)=true then .ret (p,n,k) else W1f f p (n+1) (k+1)))
   by_cases d:lt (p.getD (n-1) 0) (p.getD n 0)=true
   ·rw [if_pos d]
    exact⟨rfl,.refl _,Wq _,Nat.le_add_right _ _,h,r⟩
   ·rw [if_neg d]
    have c':le lt (p.getD (n-1) 0) (p.getD n 0):=by simpa using c
    have d':le lt (p.getD n 0) (p.getD (n-1) 0):=by simpa using d
    refine step p (k+1) rfl (.refl _) (more p h rfl d') ⟨by omega,λi a b=>?_⟩
    by_cases ci:i=n
    ·subst ci;exact⟨O.irr _,O.irr _⟩
    ·have z:=r.2 i (by omega) (by omega)
     exact⟨O.tr _ _ _ z.1 c',O.tr _ _ _ d' z.2⟩
def CP (lt:Nat->Nat->Bool)(p:Array Nat)(b:Nat)(r:Nat×Array Nat):Prop:=r.2.size=p.size/\r.2.Perm p/\1<=r.1/\r.1<=b/\So lt r.2 r.1
theorem Mt {n b:Nat}(h:De lt p n)(h1:1<=n)(hb:n<=b)(hz:b<=p.size):CP lt p b (ev lt (kas_tail3 n b p)):=by
 unfold kas_tail3;rw [UA];obtain⟨x,y,z,_⟩:=Fb O (p:=W1i p 0 n) (b-n) n h1 (So.ofDe h (by omega))
 exact⟨W2b _ _ _ _,mirror_perm _ _ _ _,by show 1<=ev lt _;omega,by show ev lt _<=b;omega,z⟩
theorem TU {n b:Nat}(h:De lt p (n+1))(hb:n+1<=b)(hz:b<=p.size):CP lt p b (ev lt (W2n n b p)):=by
 unfold W2n;rw [UA];obtain⟨a,c,d,e,f,g⟩:=LS O (b-(n+1)) p (n+1) 0 h ⟨by omega,λi x y=>by
  have:i=n+1-1:=by omega
  subst this;exact⟨O.irr _,O.irr _⟩⟩ (by omega)
 generalize ev lt (W1f (b-(n+1)) p (n+1) 0)=r at *
 split
 ·have rr:=RW O g (by omega)
  obtain⟨x1,x2,x3,x4,x5⟩:=Mt O (p:=W1i r.1 (r.2.1-(r.2.2+1)) r.2.1) (n:=r.2.1) (b:=b) (f.eqv O λi hi=>rr i (by omega)) (by omega) (by omega) (by unfold W1i;rw [W2b];omega)
  exact⟨x1.trans ((W2b _ _ _ _).trans a),x2.trans ((mirror_perm _ _ _ _).trans c),x3,x4,x5⟩
 ·obtain⟨x1,x2,x3,x4,x5⟩:=Mt O (p:=r.1) (n:=r.2.1) (b:=b) f (by omega) (by omega) (by omega)
  exact⟨x1.trans a,x2.trans c,x3,x4,x5⟩
theorem AR (hz:1<=p.size):CP lt p p.size (ev lt (kas_count p.size p)):=by
 unfold kas_count;rw [UA];obtain⟨x,y,z,w⟩:=Fb O (p:=p) (p.size-1) 1 (Wq _) λi j hij hj=>by
  have h1:i=0:=by omega
  have h2:j=0:=by omega
  subst h1 h2;exact O.irr _
 generalize ev lt (W1L p (p.size-1) 1)=n at *
 split
 ·exact⟨rfl,.refl _,x,by show n<=p.size;omega,z⟩
 ·rename_i hne
  have hne':n≠p.size:=λe=>hne (by rw [e];exact beq_self_eq_true _)
  have wl:=w (by omega)
  split
  ·show CP lt p p.size (ev lt (if lt (p.getD 0 0) (p.getD (n-1) 0)=true then .ret (n,p) else W2n n p.size (W1i p 0 n)))
   by_cases c:lt (p.getD 0 0) (p.getD (n-1) 0)=true
   ·rw [if_pos c]
    exact⟨rfl,.refl _,x,by show n<=_;omega,z⟩
   ·rw [if_neg c]
    have c':le lt (p.getD (n-1) 0) (p.getD 0 0):=by simpa using c
    have all:∀i j,i<n->j<n->le lt (p.getD i 0) (p.getD j 0):=λi j hi hj=>O.tr _ _ _ (z i (n-1) (by omega) (by omega)) (O.tr _ _ _ c' (z 0 j (by omega) hj))
    have hd:De lt (W1i p 0 n) (n+1):=λi j hij hj=>by
     rw [Jw (by omega),Jw (by omega)]
     by_cases cj:j<n
     ·rw [if_pos (by omega),if_pos (by omega)]
      exact all _ _ (by omega) (by omega)
     ·have ej:j=n:=by omega
      subst ej;rw [if_neg (by omega)]
      by_cases ci:i=j
      ·rw [if_neg (by omega),ci];exact O.irr _
      ·rw [if_pos (by omega)]
       exact O.tr _ _ _ (O.as _ _ wl) (all _ _ (by omega) (by omega))
    obtain⟨x1,x2,x3,x4,x5⟩:=TU O (p:=W1i p 0 n) (n:=n) (b:=p.size) hd (by omega) (by unfold W1i;rw [W2b];exact Wq _)
    exact⟨x1.trans (W2b _ _ _ _),x2.trans (mirror_perm _ _ _ _),x3,x4,x5⟩
  ·have en:n=1:=by omega
   subst en;refine TU O (λi j hij hj=>?_) (by omega) (Wq _)
   by_cases ci:i=j
   ·rw [ci];exact O.irr _
   ·have h1:i=0:=by omega
    have h2:j=1:=by omega
    subst h1 h2;exact O.as _ _ wl
theorem GU {k:Nat}(hs:So lt p k):∀f l r,l<=r->r<=k->r-l<=f->(∀i,i<l->le lt (p.getD i 0) (p.getD k 0))->(∀i,r<=i->i<k->lt (p.getD k 0) (p.getD i 0)=true)->
  ∃m,ev lt (W2a p k f l r)=m/\m<=k/\(∀i,i<m->le lt (p.getD i 0) (p.getD k 0))/\∀i,m<=i->i<k->lt (p.getD k 0) (p.getD i 0)=true
 |0,l,r,h1,h2,h3,a,b=>⟨l,rfl,by omega,a,λi x y=>b i (by omega) y⟩
 |f+1,l,r,h1,h2,h3,a,b=>by
  unfold W2a;split
  ·exact⟨l,rfl,by omega,a,λi x y=>b i (by omega) y⟩
  ·rename_i hlr
   show ∃m,ev lt (if lt (p.getD k 0) (p.getD ((l+r) / 2) 0)=true then W2a p k f l ((l+r) / 2) else W2a p k f ((l+r) / 2+1) r)=m/\_
   by_cases c:lt (p.getD k 0) (p.getD ((l+r) / 2) 0)=true
   ·rw [if_pos c]
    refine GU hs f l ((l+r) / 2) (by omega) (by omega) (by omega) a λi x y=>?_
    exact O.lt_le c (hs _ _ x y)
   ·rw [if_neg c]
    refine GU hs f ((l+r) / 2+1) r (by omega) h2 (by omega) (λi x=>?_) b
    exact O.tr _ _ _ (hs i ((l+r) / 2) (by omega) (by omega)) (by simpa using c)
omit O in
theorem Kh {p:Array Nat}{k d:Nat}(hk:k<p.size)(hd:d<=k)(i:Nat):(bubble p k d).getD i 0=if i=k-d then p.getD k 0 else if k-d<i/\i<=k then p.getD (i-1) 0 else p.getD i 0:=by
 have:=getElem?_bubble (xs:=p) hk d hd i
 simp only [Vz]
 rw [this];split
 ·rfl
 ·split<;>rfl
theorem Hg:∀f (p:Array Nat) k,So lt p k->k+f<=p.size->(ev lt (kas_bin f p k)).Perm p/\So lt (ev lt (kas_bin f p k)) (k+f)
 |0,p,k,h,_=>⟨.refl _,h⟩
 |f+1,p,k,h,hz=>by
  show (ev lt ((W2a p k k 0 k).bind λl=>kas_bin f (bubble p k (k-l)) (k+1))).Perm p/\So lt (ev lt ((W2a p k k 0 k).bind λl=>kas_bin f (bubble p k (k-l)) (k+1))) (k+(f+1))
  rw [UA];obtain⟨m,e,hm,a,b⟩:=GU O h k 0 k (Vx _) (Wq _) (by omega) (λi x=>by omega) (λi x y=>by omega)
  rw [e];have hs:So lt (bubble p k (k-m)) (k+1):=λi j hij hj=>by
   rw [Kh (by omega) (by omega),Kh (by omega) (by omega)]
   by_cases i1:i=k-(k-m)
   ·rw [if_pos i1]
    by_cases j1:j=k-(k-m)
    ·rw [if_pos j1];exact O.irr _
    ·rw [if_neg j1,if_pos (by omega)]
     exact O.as _ _ (b (j-1) (by omega) (by omega))
   ·rw [if_neg i1]
    by_cases i2:k-(k-m)<i/\i<=k
    ·rw [if_pos i2,if_neg (by omega),if_pos (by omega)]
     exact h (i-1) (j-1) (by omega) (by omega)
    ·rw [if_neg i2]
     by_cases j1:j=k-(k-m)
     ·rw [if_pos j1]
      exact a i (by omega)
     ·rw [if_neg j1]
      by_cases j2:k-(k-m)<j/\j<=k
      ·rw [if_pos j2]
       exact h i (j-1) (by omega) (by omega)
      ·rw [if_neg j2]
       exact h i j hij (by omega)
  obtain⟨x,y⟩:=Hg f (bubble p k (k-m)) (k+1) hs (by rw [bubble_size];omega)
  exact⟨x.trans (bubble_perm _ _ _),by rw [show k+(f+1)=k+1+f by omega];exact y⟩
theorem sort_ok {n:Nat}(hn:1<=n):(ev lt (W1O n)).Perm (W0i (W6 n))/\So lt (ev lt (W1O n)) n:=by
 unfold W1O;rw [UA];have hz:(W0i (W6 n)).size=n:=by simp
 obtain⟨a,b,c,d,e⟩:=AR O (p:=W0i (W6 n)) (by omega)
 rw [hz] at a b c d e
 generalize ev lt (kas_count n (W0i (W6 n)))=r at *
 split
 ·obtain⟨x,y⟩:=Hg O (n-max r.1 1) r.2 (max r.1 1) (by rw [show max r.1 1=r.1 by omega];exact e) (by omega)
  exact⟨x.trans b,by rw [show max r.1 1+(n-max r.1 1)=n by omega] at y;exact y⟩
 ·have:r.1=n:=by omega
  exact⟨b,by show So lt r.2 n;rw [<-this];exact e⟩
end
end KS
namespace L2
open PySem PySem.Spec PyProof.Rows
def UM (h:Heap)(d:Addr)(es:Array DictEntry)(ep:Nat):Prop:=∃o,h.get? d=some o/\o.ExactDict/\o.data = .dict es ep
theorem UM.ty {s:Shared}{d:Addr}{es:Array DictEntry}{ep:Nat}(h:UM s.heap d es ep):s.TypeIs (.ref d) "dict":=let ⟨o,h1,h2,_⟩:=h;⟨o,h1,h2.1⟩
theorem UM.keep {h h':Heap}{d:Addr}{es:Array DictEntry}{ep:Nat}(x:UM h d es ep)(k:∀o,h.get? d=some o->h'.get? d=some o):UM h' d es ep:=let ⟨o,h1,r⟩:=x;⟨o,k o h1,r⟩
section
variable {prog:Program} {w:World} {A:Around} {E:Value->Shared->Prop} {s:Shared} {it d:Addr} {es:Array DictEntry} {ep i:Nat}
theorem FY {Q:Value->Shared->Prop}(hd:(d == sysModules)=false)(hm:UM s.heap d es ep)
  (q:Q (.ref s.heap.objs.size) { s with heap:=s.heap.push { cls:=.type "dict_keyiterator",data:=.fields #[.ref d,.int 0 0,.int es.size 0,.int ep 0] } }):wpAny (model prog w) A (pyIter (.ref d)) Q E s:=by
 obtain⟨o,ho,hc,hdat⟩:=id hm
 refine W2A hm.ty PySem.F.slot_dict_iter (Vv PySem.F.slot_dict_iter hm.ty PySem.F.entry_dict_iter ?_ (PySem.F.args_dict_iter_1 _))
 unfold Builtin.«dict.__iter__» Builtin.Dict.dictSlotNone
 refine W0 (W0 (wpAny_notOrdered_dict hm.ty (Wd ?_)))
 show wpAny _ _ (Builtin.Dict.showsAll d >>= _) _ _ s
 unfold Builtin.Dict.showsAll;rw [hd];refine W0 (Wd (W0 (W1K ho hdat (W0 (wpAny_dictEpoch ho hdat ?_)))))
 exact W0 (Vy (Wd ⟨_,rfl, "dict_keyiterator",_,⟨_,Ws _ rfl,rfl⟩,VG.lookup,by simpa [rawInt] using q⟩))
theorem FX {e:DictEntry}{Q:Option Value->Shared->Prop}(hit:s.heap.IsKeyIter it d i es.size ep)(hm:UM s.heap d es ep)(hx:es[i]? = some e)
  (q:∀h',h'.IsKeyIter it d (i+1) es.size ep->W01 it s.heap h'->Q (some e.key) { s with heap:=h' }):wpAny (model prog w) A (pyNext (.ref it)) Q E s:=by
 obtain⟨o,ho,hc,hd⟩:=id hit
 obtain⟨od,hod,hcd,hdd⟩:=id hm
 have hlt:i<es.size:=(Vn.mp hx).1
 have hown:W24 "dict_keyiterator" = false:=by decide
 unfold pyNext;refine W0 (W1y (Vq (name:=Wx "__next__") hit.typeIs VG (Vv VG hit.typeIs W1j ?_ (W17 _))))
 refine W0 (Wd (W0 (W0 ?_)))
 first|refine W0 (W0l hit.typeIs (Wd (W0 (W18 ho hd ?_))))|refine W0 (W0H hit.typeIs (Wd (W0 (W18 ho hd ?_))))
 simp only [hown,WL,if_false]
 show wpAny _ _ (if (Value.ref d == Value.none)=true then _ else _) _ _ s
 rw [if_neg (show ¬((Value.ref d == Value.none)=true) from Wy)];refine W0 (Wd (W0 (W1K hod hdd ?_)))
 rw [if_neg (by simp)]
 refine W0 (Wd (W0 (wpAny_dictEpoch hod hdd ?_)))
 rw [if_neg (by simp)]
 refine Wd ?_
 simp only [show ¬((i:Int)<0) from by omega,if_false,VH,hx]
 refine W0 ?_
 first|refine W0 (W0l hit.typeIs (Wd (W0 (W1V hit.typeIs ?_))))|refine W0 (W0H hit.typeIs (Wd (W0 (W1V hit.typeIs ?_))))
 show wpAny _ _ (setField (.ref it) 1 (rawInt ((i:Int)+1)) >>= _) _ _ s
 have hit':(s.heap.update it (Obj.mapFields (·.setIfInBounds 1 (rawInt ((i:Int)+1))))).IsKeyIter it d (i+1) es.size ep:=
  ⟨_,VM _ ho (Obj.isFreed_of_fields (W1x hd _)),(Obj.cls_mapFields ..).trans hc,by rw [W1x hd];simp [rawInt]⟩
 refine W0 (W2s ho hd (by simp) (W0 (VD ?_)))
 refine W0 (W1V (s:={ s with heap:=s.heap.update it (Obj.mapFields (·.setIfInBounds 1 (rawInt ((i:Int)+1)))) }) hit'.typeIs ?_)
 show wpAny _ _ (pure e.key) _ _ _
 exact Wd (Wd ⟨_,rfl,Wd (q _ hit' (VZ ..))⟩)
theorem HR {Q:Option Value->Shared->Prop}(hh:A.handled=none)(hit:s.heap.IsKeyIter it d es.size es.size ep)(hm:UM s.heap d es ep)(q:∀h',Heap.ExtBut it s.heap h'->Q none { s with heap:=h' }):wpAny (model prog w) A (pyNext (.ref it)) Q E s:=by
 obtain⟨o,ho,hc,hd⟩:=id hit
 obtain⟨od,hod,hcd,hdd⟩:=id hm
 have hown:W24 "dict_keyiterator" = false:=by decide
 have hx:es[es.size]? = none:=by simp
 unfold pyNext;refine W0 (W1y (Vq (name:=Wx "__next__") hit.typeIs VG (Vv VG hit.typeIs W1j ?_ (W17 _))))
 refine W0 (Wd (W0 (W0 ?_)))
 first|refine W0 (W0l hit.typeIs (Wd (W0 (W18 ho hd ?_))))|refine W0 (W0H hit.typeIs (Wd (W0 (W18 ho hd ?_))))
 simp only [hown,WL,if_false]
 show wpAny _ _ (if (Value.ref d == Value.none)=true then _ else _) _ _ s
 rw [if_neg (show ¬((Value.ref d == Value.none)=true) from Wy)];refine W0 (Wd (W0 (W1K hod hdd ?_)))
 rw [if_neg (by simp)]
 refine W0 (Wd (W0 (wpAny_dictEpoch hod hdd ?_)))
 rw [if_neg (by simp)]
 refine Wd ?_
 simp only [show ¬((es.size:Int)<0) from by omega,if_false,VH,hx]
 refine W0 ?_
 first|refine W0 (W0l hit.typeIs (Wd ?_))|refine W0 (W0H hit.typeIs (Wd ?_))
 show wpAny _ _ (setField (.ref it) 0 .none >>= _) _ _ s
 refine W0 (W2s ho hd (by simp) ?_)
 show wpAny _ _ (newExc (.type "StopIteration") [] >>= _) _ _ _
 refine W0 ?_
 simp only [newExc,newTuple]
 refine W0 (Vy (W0 (m:=firstArgMember _ _) (W1h (a:=Value.none) (by first|rfl|(simp only [firstArgMember];rfl)) (Vy ?_ (by size_fits)))) (by size_fits))
 simp only [raiseNew]
 refine W0 (wpAny_handled ?_)
 rw [show A.in1.handled=none from hh];refine W0 (Wd (wpAny_throw ?_))
 refine W0 (W1e (T:="StopIteration") (b:=true) ⟨_,Ws _ rfl,rfl⟩ isSubtype_stop ?_)
 exact Wd (q _ (((VZ ..).extBut.push _).push _))
theorem FW (hh:A.handled=none)(I d:Addr)(hne:d≠I)(es:Array DictEntry)(ep:Nat) :
  Walks prog w A I [I,d] [I] es.size (λi v=>∃e,es[i]? = some e/\v=e.key) (λi h=>h.IsKeyIter I d i es.size ep/\UM h d es ep) where
 sub:=λb hb=>by simp at hb;simp [hb]
 frame:=λ_ _ _ st hk=>⟨st.1.at λo e=>hk I (by simp) o e,st.2.keep λo e=>hk d (by simp) o e⟩
 item:=λi s Q E hi st hQ=>by
  have hx:es[i]? = some es[i]:=WD hi
  refine FX st.1 st.2 hx λh' hit' hs'=>?_
  exact hQ es[i].key h' s.toks ⟨_,hx,rfl⟩ ⟨hit',st.2.keep λo e=>hs'.extBut d o hne e⟩ λb o hb e=>hs'.extBut b o (λh=>hb (by simp [h])) e
 done:=λs Q E st hQ=>HR hh st.1 st.2 λh' he'=>hQ h' s.toks λb o hb e=>he' b o (λh=>hb (by simp [h])) e
 self:=λ_ _ _ _ st hQ=>wpAny_pyIter_keyiter st.1 hQ
theorem HQ (lo:(d == sysModules)=false):PySem.W.KdlSrc prog w "dict" d d es.size (λi v=>∃e,es[i]? = some e/\v=e.key) (λh=>UM h d es ep) where
 type:=λ_ hm=>hm.ty
 there:=λ_ hm=>let ⟨_,ho,_⟩:=hm;⟨Wt ho,Wt ho⟩
 keep:=λ_ _ hm hk=>hm.keep λo e=>hk d (.inl rfl) o e
 notList:=by decide
 notTuple:=by decide
 hint:=λ_ _ _ _ hm hq=>PySem.W.kdl_hint_dict hm.ty hq
 iter:=λ_ _ hh hm=>⟨_,_,(λ_ _ hq=>FY lo hm hq),FW hh _ d (let ⟨_,ho,_⟩:=hm;WG (Wt ho)) es ep,⟨⟨_,Ws _ rfl,rfl,rfl⟩,hm.keep λo e=>Wj _ e⟩⟩
end
section
variable {X:Cx} {pins:List (Addr×Obj)} {σ:St} {H:Hp} {s:Shared} {a:Addr}
theorem Sy {kvs:List (List Key×V)}(I:Inv X pins σ H s)(e:H a=some (.dT kvs)):(a == sysModules)=false/\kvs.length<=Wk/\∃es ep bs,UM s.heap a es ep/\es.size=kvs.length/\bs.length=kvs.length/\(∀(i:Nat) (e:DictEntry),es[i]? = some e->∃b:Addr,bs[i]? = some b/\e.key=Value.ref b)/\Paired (λ(p:List Key×V) (b:Addr)=>H b=some (.tup (p.1.map kV))) kvs bs:=by
 obtain⟨z,hS,xs,r,o,es,ep,h1,h2,h3,h4,_⟩:=(show ZL X.prog X.w H s.heap a (.dT kvs) from I.hok a _ e)
 have hl:kvs.length=xs.length:=W0X r
 have hes:es.size=xs.length:=by have:=congrArg Va h4;simpa using this
 refine⟨hS,z,es,ep,xs.map (·.2.1),⟨o,h1,h2,h3⟩,by omega,by rw [W7];omega,λi e he=>?_,?_⟩
 ·have:es.toList[i]? = some e:=by rw [Vd];exact he
  rw [h4,WE] at this;obtain⟨x,x1,x2⟩:=Wi.mp this
  exact⟨x.2.1,by rw [WE,x1];rfl,by rw [<-x2];rfl⟩
 ·clear hes h4 hl
  have:∀{l:List (List Key×V)} {m:List (List Key×Addr×Value)},Paired (λ(p:List Key×V) (q:List Key×Addr×Value)=>p.1=q.1/\H q.2.1=some (.tup (p.1.map kV))/\ZC p.2 q.2.2) l m->Paired (λ(p:List Key×V) (b:Addr)=>H b=some (.tup (p.1.map kV))) l (m.map (·.2.1)):=by
   intro l m h
   induction h with
   |nil=>exact .nil
   |cons h t ih=>exact .cons h.2.1 ih
  exact this r
theorem XJ {P:Program}{w:World}{h:Heap}{kvs:List (Key×V)}(x:ZL P w H h a (.dK kvs)):(a == sysModules)=false/\kvs.length<=Wk/\∃es ep,UM h a es ep/\es.size=kvs.length/\∀(i:Nat) (e:DictEntry),es[i]? = some e->∃k v,kvs[i]? = some (k,v)/\ZC (kV k) e.key:=by
 obtain⟨z,hS,vs,r,o,es,ep,h1,h2,h3,h4,h5,_⟩:=x
 have hl:kvs.length=vs.length:=r.length
 have hes:es.size=vs.length:=by rw [<-h5.length];simp
 refine⟨hS,z,es,ep,⟨o,h1,h2,h3⟩,by omega,λi e he=>?_⟩
 have hi:i<es.size:=(Vn.mp he).1
 have hv:vs[i]? = some (vs[i]'(by omega)):=Wl _
 have hk:=(h5.get? (e:=e) (by rw [Vd];exact he) hv).1
 have key:∀{l:List (Key×V)} {m:List (Key×Value)},KV l m->∀{i:Nat} {q:Key×Value},m[i]? = some q->∃v,l[i]? = some (q.1,v):=by
  intro l m hh;unfold KV at hh
  induction hh with
  |nil=>intro i q e;simp at e
  | @cons p q' ps qs h t ih=>
   intro i q e;cases i with
   |zero=>
    simp at e
    subst e;have h1:p.1=q'.1:=h.1
    exact⟨p.2,by simp [<-h1]⟩
   |succ i=>simpa using ih (by simpa using e)
 obtain⟨v,hv2⟩:=key r hv
 exact⟨_,v,hv2,Cy hk⟩
end
end L2
namespace HT
open PySem PySem.Spec PyProof.Rows L2
section
variable {prog:Program} {w:World} {A:Around} {E:Value->Shared->Prop} {s:Shared}
end
end HT
namespace L2
open PySem PySem.Spec PyProof.Rows
section
variable {X:Cx}
end
end L2
namespace L2
open PySem PySem.Spec PyProof.Rows
theorem Z2b {M:Model}{A:Around}{E:Value->Shared->Prop}{s:Shared}{α:Type}{m:Sem α}{Q Q':α->Shared->Prop}(h:wpAny M A m Q E s)(k:∀a s',Q a s'->Q' a s'):wpAny M A m Q' E s:=W0k h k λ_ _ e=>e
abbrev dfl (d:Value):List (Str×Value):=[(Wx "default",d)]
section
variable {prog:Program} {w:World} {A:Around} {d:Value}
end
end L2
namespace L2
open PySem PySem.Spec PyProof.Rows
theorem Ri (a v:Value):argsOk "max" ⟨[a],[(Wx "default",v)]⟩:=by unfold argsOk;kernel_rfl
section
variable {prog:Program} {w:World} {A:Around} {d:Value}
theorem Sk {R:Result->Shared->Prop}{I S:Addr}{fp wr:List Addr}{n:Nat}{P:Nat->Value->Prop}{St:Nat->Heap->Prop}(W:Walks prog w A.in1 I fp wr n P St)(lt:Nat->Nat->Bool)(hc:CmpOf prog w A.in1 .Gt P lt)(off:S∉fp)(r:Nat) :
  ∀(i:Nat) (s:Shared) (v:Value) (q:Nat),n=i+1+r->St (i+1) s.heap->P (argBest lt i) v->s.heap.get? S=some { cls:=.type "list",dict:=none,data:=.seq #[v,v] q,slots:=#[] }->
   (∀u g tk,P (argBest lt (n-1)) u->(∀b o,b∉wr->b≠S->s.heap.get? b=some o->g.get? b=some o)->R (.ok (.ret u)) { s with heap:=g,toks:=tk })->
   codeAny (model prog w) A (.builtin "max.loop" ⟨[.ref I,.none,.ref S],dfl d⟩) R s:=by
 have offw:S∉wr:=λz=>off (W.sub _ z)
 have nm:(toString "max" ++ toString ".loop" : String) = "max.loop":=by decide
 induction r with
 |zero=>
  intro i s v q hn st hv hS out;refine VO W1G ?_
  rw [Vl VU _];refine W0 (m:=seqItems? (.ref S)) (Vm hS rfl ?_)
  refine W0 (m:=tryCatch (pyNext (.ref I)) _) (W16 (W.done s _ _ ((show i+1=n by omega) ▸ st) λg tk keep=>?_))
  refine W0 (m:=updateSeq S (λ_=>#[])) (W1z (keep S _ offw hS) rfl (W0 (W1g (Wd ?_))))
  exact out v _ tk (by rw [show n-1=i by omega];exact hv) λb o h1 h2 e=>(Vu _ _ (Ne.symm h2)).trans (keep b o h1 e)
 |succ r ih=>
  intro i s v q hn st hv hS out;refine VO W1G ?_
  rw [Vl VU _];refine W0 (m:=seqItems? (.ref S)) (Vm hS rfl ?_)
  refine W0 (m:=tryCatch (pyNext (.ref I)) _) (W16 (W.item (i+1) s _ _ (by omega) st λu g tk hu st' keep=>?_))
  have hS':=keep S _ offw hS
  refine W0 (m:=tryCatch (holding [u,u] (richCompare .Gt u v >>= _)) _) (W16 (VD (W0 (hc (i+1) (argBest lt i) u v _ _ _ hu hv ?_))))
  refine W0 (VD (W1I (W0 (W1g (Wd ?_)))))
  by_cases hb:lt (i+1) (argBest lt i)=true
  ·rw [hb,if_pos rfl]
   refine W0 (W1z hS' rfl (W0 (W1g ?_)))
   rw [nm];have key:=ih (i+1) { s with heap:=g.update S (Vo λ_=>#[u,u]),toks:=tk } u _ (by omega) (W.frame _ _ _ st' λb hbf o e=>(Vu _ _ (λz:S=b=>off (z ▸ hbf))).trans e)
    (by rw [show argBest lt (i+1)=i+1 from if_pos hb];exact hu) (VM _ hS' rfl) λu' g' tk' h1 h2=>out u' g' tk' h1 λb o h3 h4 e=>h2 b o h3 h4 ((Vu _ _ (Ne.symm h4)).trans (keep b o h3 e))
   exact Wd ⟨W0d VU _,key⟩
  ·rw [W1Z] at hb
   rw [hb,if_neg Wy];refine W0 (W1g ?_)
   rw [nm];have key:=ih (i+1) { s with heap:=g,toks:=tk } v q (by omega) st' (by rw [show argBest lt (i+1)=argBest lt i from if_neg (by rw [hb];exact Wy)];exact hv) hS' λu' g' tk' h1 h2=>out u' g' tk' h1 λb o h3 h4 e=>h2 b o h3 h4 (keep b o h3 e)
   exact Wd ⟨W0d VU _,key⟩
theorem KK {R:Result->Shared->Prop}{I S:Addr}{fp wr:List Addr}{n:Nat}{P:Nat->Value->Prop}{St:Nat->Heap->Prop}{s:Shared}{q:Nat}(W:Walks prog w A.in1 I fp wr n P St)(lt:Nat->Nat->Bool)(hc:CmpOf prog w A.in1 .Gt P lt)(off:S∉fp)(st:St 0 s.heap)
  (hS:s.heap.get? S=some { cls:=.type "list",dict:=none,data:=.seq #[] q,slots:=#[] })
  (none:n=0->∀g tk,(∀b o,b∉wr->b≠S->s.heap.get? b=some o->g.get? b=some o)->R (.ok (.ret d)) { s with heap:=g,toks:=tk })
  (out:0<n->∀u g tk,P (argBest lt (n-1)) u->(∀b o,b∉wr->b≠S->s.heap.get? b=some o->g.get? b=some o)->R (.ok (.ret u)) { s with heap:=g,toks:=tk }) :
  codeAny (model prog w) A (.builtin "max.loop" ⟨[.ref I,.none,.ref S],dfl d⟩) R s:=by
 have offw:S∉wr:=λz=>off (W.sub _ z)
 have nm:(toString "max" ++ toString ".loop" : String) = "max.loop":=by decide
 refine VO W1G ?_
 rw [Vl VU _];refine W0 (m:=seqItems? (.ref S)) (Vm hS rfl ?_)
 by_cases h0:n=0
 ·refine W0 (m:=tryCatch (pyNext (.ref I)) _) (W16 (W.done s _ _ (h0 ▸ st) λg tk keep=>?_))
  refine W0 (m:=rule _) (W26 (Wd ?_))
  exact none h0 g tk λb o h1 _ e=>keep b o h1 e
 ·have hn:0<n:=Nat.pos_of_ne_zero h0
  refine W0 (m:=tryCatch (pyNext (.ref I)) _) (W16 (W.item 0 s _ _ hn st λu g tk hu st' keep=>?_))
  have hS':=keep S _ offw hS
  refine W0 (m:=updateSeq S (λ_=>#[u,u])) (W1z hS' rfl ?_)
  rw [nm];have key:=Sk (d:=d) W lt hc off (n-1) 0 { s with heap:=g.update S (Vo λ_=>#[u,u]),toks:=tk } u _ (by omega) (W.frame _ _ _ st' λb hbf o e=>(Vu _ _ (λz:S=b=>off (z ▸ hbf))).trans e) hu (VM _ hS' rfl)
   λu' g' tk' h1 h2=>out hn u' g' tk' h1 λb o h3 h4 e=>h2 b o h3 h4 ((Vu _ _ (Ne.symm h4)).trans (keep b o h3 e))
  exact Wd ⟨W0d VU _,key⟩
theorem F0 {E:Value->Shared->Prop}{s:Shared}{x:Value}{Q:Value->Shared->Prop}
  (h:wpAny (model prog w) A.in1 (pyIter x) (λit s2=>∃I fp wr n P St lt,it = .ref I/\Walks prog w A.in1 I fp wr n P St/\St 0 s2.heap/\(∀b∈fp,b<s2.heap.objs.size)/\CmpOf prog w A.in1 .Gt P lt/\
   (n=0->∀g tk,(∀b o,b∉wr->s2.heap.get? b=some o->g.get? b=some o)->Q d { s2 with heap:=g,toks:=tk })/\
   (0<n->∀u g tk,P (argBest lt (n-1)) u->(∀b o,b∉wr->s2.heap.get? b=some o->g.get? b=some o)->Q u { s2 with heap:=g,toks:=tk })) E s) :
  wpAny (model prog w) A (call (.builtin "max") [x] (dfl d)) Q E s:=by
 have nm:(toString "max" ++ toString ".loop" : String) = "max.loop":=by decide
 refine kmb_tree PySem.F.kind_max PySem.F.plain_max PySem.F.entry_max (Ri _ _) ?_
 refine W0 (m:=W2c "max" ["key", "default"] 0 ⟨[],dfl d⟩) (W1h (show W2c "max" ["key", "default"] 0 ⟨[],dfl d⟩=pure [none,some d] from rfl) (W0 (Wd ?_)))
 refine W0 (Z2b h λit s2 h2=>?_)
 obtain⟨I,fp,wr,n,P,St,lt,rfl,W,st,hf,hc,h3,h4⟩:=h2
 refine W0 (Vy ?_)
 rw [nm];refine Wd ⟨W0d VU _,KK W lt hc (S:=s2.heap.objs.size) (λz=>VC _ (hf _ z)) (W.frame _ _ _ st λb _ o e=>Wj _ e) (Ws _ rfl) (λz g tk keep=>?_) λz u g tk hu keep=>?_⟩
 ·exact h3 z g tk λb o h1 e=>keep b o h1 (WG (Wt e)) (Wj _ e)
 ·exact h4 z u g tk hu λb o h1 e=>keep b o h1 (WG (Wt e)) (Wj _ e)
end
end L2
namespace L2
open PySem PySem.Spec PyProof.Rows
def JP (w:World):Bool:=!w.params.followText "set-order"
theorem NG {prog:Program}{w:World}{A:Around}{E:Value->Shared->Prop}{s:Shared}(a:Value){Q1:Value->Shared->Prop}
  (h:Q1 (.ref s.heap.objs.size) { s with heap:=s.heap.push { cls:=.type "set",dict:=none,data:=.set #[] 0 (.fresh 0 0 (JP w)) } }) :
  codeAny (model prog w) A (.call (.builtin "set.__new__") ⟨[.type "set",a],[]⟩) (wants Q1 E) s:=by
 refine codeAny_of_tree (W0 (m:=checkBuiltinCall "set.__new__" ⟨[.type "set",a],[]⟩) (W1h (PySem.F.newCall_set_1 a) (Wd ⟨W0d PySem.F.plain_set_new _,VO PySem.F.entry_set_new ?_⟩)))
 rw [Vl PySem.F.plain_set_new _];unfold Builtin.«set.__new__» Builtin.Frozenset.newClass
 have z:=sub_set_self
 obtain⟨hp,g,d,tk,os⟩:=s
 dsimp only
 wp_walk
 refine VY (Wd ?_)
 dsimp only [newObj];exact W0 (wpAny_alloc (Wd (Wd h)))
section
variable {prog:Program} {w:World} {A:Around} {J:Nat->Heap->Prop}
def Hq (prog:Program)(w:World)(A:Around)(S:Addr)(J:Nat->Heap->Prop)(P:Nat->Value->Prop):Prop:=
 ∀(i:Nat) (v:Value) (s:Shared) (E:Value->Shared->Prop) (Q:Bool->Shared->Prop),P i v->J i s.heap->(∀b h' tk,W01 S s.heap h'->J (i+1) h'->Q b { s with heap:=h',toks:=tk })->wpAny (model prog w) A (setAdd S v) Q E s
theorem RQ {R:Result->Shared->Prop}{I S:Addr}{fp wr:List Addr}{n:Nat}{P:Nat->Value->Prop}{St:Nat->Heap->Prop}(W:Walks prog w A.in1 I fp wr n P St)(off:S∉fp)
  (fr:∀i h h',J i h->(∀b o,b∉wr->h.get? b=some o->h'.get? b=some o)->J i h') (add:Hq prog w A.in1 S J P) (r:Nat) :
  ∀(i:Nat) (s:Shared),n=i+r->St i s.heap->J i s.heap->(∀h' tk,(∀b o,b∉wr->b≠S->s.heap.get? b=some o->h'.get? b=some o)->J n h'->R (.ok (.ret .none)) { s with heap:=h',toks:=tk })->
   codeAny (model prog w) A (.builtin "set.update.loop" ⟨[.ref S,.ref I],[]⟩) R s:=by
 induction r with
 |zero=>
  intro i s hn st hj out;refine VO W19 ?_
  rw [Vl W0p _];refine W0 (m:=pyNext (.ref I)) (W.done s _ _ ((show i=n by omega) ▸ st) λh' tk keep=>?_)
  exact Wd (out h' tk (λb o h1 _ e=>keep b o h1 e) ((show i=n by omega) ▸ fr i _ _ hj λb o h1 e=>keep b o h1 e))
 |succ r ih=>
  intro i s hn st hj out;refine VO W19 ?_
  rw [Vl W0p _];refine W0 (m:=pyNext (.ref I)) (W.item i s _ _ (by omega) st λv h' tk hv st' keep=>?_)
  refine W0 (m:=holding [v] (setAdd S v)) (VD (add i v _ _ _ hv (fr i _ _ hj λb o h1 e=>keep b o h1 e) λbb h2 tk2 sb hj2=>?_))
  refine Wd ⟨W0d W0p _,ih (i+1) _ (by omega) (W.frame _ _ _ st' λb hb o e=>?_) hj2 λh3 tk3 k3 j3=>?_⟩
  ·exact (sb.2 b (λz=>off (z ▸ hb))).trans e
  ·exact out h3 tk3 (λb o h1 h2' e=>k3 b o h1 h2' ((sb.2 b h2').trans (keep b o h1 e))) j3
set_option maxHeartbeats 3200000 in
theorem LZ {E:Value->Shared->Prop}{s:Shared}{l:Addr}{items:Array Value}{Q:Value->Shared->Prop}(hh:A.handled=none)(hl:s.heap.IsList l items)
  (fr:∀i h h',J i h->(∀b o,b∉[(s.heap.objs.size+1)]->h.get? b=some o->h'.get? b=some o)->J i h')
  (j0:∀h:Heap,(∀b o,s.heap.get? b=some o->h.get? b=some o)->h.get? s.heap.objs.size=some { cls:=.type "set",dict:=none,data:=.set #[] 0 (.fresh 0 0 (JP w)) }->J 0 h)
  (add:∀B:Around,B.units<=A.units+20->B.handled=none->Hq prog w B s.heap.objs.size J (λi v=>items[i]? = some v))
  (h:∀h' tk,J items.size h'->(∀b o,b<s.heap.objs.size->s.heap.get? b=some o->h'.get? b=some o)->Q (.ref s.heap.objs.size) { s with heap:=h',toks:=tk }) :
  wpAny (model prog w) A (call (.type "set") [.ref l]) Q E s:=by
 obtain⟨c,tl,hmro⟩:=W04.mro
 have y1:=W04.made
 have y2:=W04.sub
 refine wpAny_call (codeAny_of_tree ?_)
 show wpAny _ _ (callAny (.type "set") _) _ _ _
 refine Wd ⟨Code.quiet_builtin _ (by decide +kernel),VO PySem.F.entry_type_call ?_⟩
 rw [Around.under_plain (weight_type_call_type "set" [.ref l] []) rfl]
 have y3:=W04.notType
 have y4:=W04.canCreate
 have y5:=PySem.F.typeCall_set_1 (.ref l)
 repeat (any_goals (first|assumption|wp_step))
 refine W1R (NG (.ref l) (E:=E) (Q1:=λob s1=>ob = .ref s.heap.objs.size/\s1={ s with heap:=s.heap.push { cls:=.type "set",dict:=none,data:=.set #[] 0 (.fresh 0 0 (JP w)) } }) ⟨rfl,rfl⟩) λr s1 hr=>?_
 cases r with
 |error e=>exact hr
 |ok fl=>
  cases fl with
  |ret ob=>
   obtain⟨rfl,rfl⟩:=hr
   generalize hH1:s.heap.push { cls:=.type "set",dict:=none,data:=.set #[] 0 (.fresh 0 0 (JP w)) }=H1
   have z1:H1.objs.size=s.heap.objs.size+1:=by rw [<-hH1,W03]
   have k1:∀b o,s.heap.get? b=some o->H1.get? b=some o:=λb o e=>by rw [<-hH1];exact Wj _ e
   have hS:H1.get? s.heap.objs.size=some { cls:=.type "set",dict:=none,data:=.set #[] 0 (.fresh 0 0 (JP w)) }:=by rw [<-hH1];exact Ws _ rfl
   have hT:Shared.TypeIs { s with heap:=H1 } (.ref s.heap.objs.size) "set":=⟨_,hS,rfl⟩
   have y6:=W04.init.lookup
   have y7:=W04.init.bind (.ref s.heap.objs.size)
   repeat (any_goals (first|assumption|wp_step))
   refine W1R (codeAny_call_builtin (R:=wants (λr s2=>r = .none/\∃h' tk,s2={ s with heap:=h',toks:=tk }/\J items.size h'/\(∀b o,b<s.heap.objs.size->s.heap.get? b=some o->h'.get? b=some o)) E) W04.init.plain PySem.F.entry_set_init (check_set_init_1 hT ?_)) λr2 s2 hr2=>?_
   ·obtain⟨ol,hol,hcl,nl,hdl⟩:=id hl
    obtain⟨ocls,odict,odata,oslots⟩:=ol
    simp only at hcl hdl
    subst hcl;subst hdl
    have hol1:=k1 l _ hol
    have w1:=PySem.F.sub_list_set
    have w2:=PySem.F.sub_list_frozenset
    have w3:(Value.type "list" == Value.type "dict")=false:=by decide
    have hl1:H1.IsList l items:=⟨_,hol1,rfl,nl,rfl⟩
    unfold Builtin.«set.__init__» noKeywords Builtin.Frozenset.updateFrom
    generalize hPI:pyIter=PI
    wp_walk
    subst hPI;refine W0G hl1 ?_
    refine W0 (wpAny_runValue ?_)
    have lz:l<s.heap.objs.size:=Wt hol
    have a1:l≠H1.objs.size:=by rw [z1];exact WG (W10 lz)
    have a2:s.heap.objs.size∉[H1.objs.size,l]:=by
     simp only [Wv,WX,or_false,not_or]
     exact⟨by rw [z1];exact WG (W07 _),W1l lz⟩
    refine RQ (J:=J) (Walks.list (by simp [hh]) _ l a1 items) a2 (by rw [z1];exact fr) (add _ ?_ ?_) (items.size-0) 0 _ (by omega) ⟨⟨_,Ws _ rfl,rfl,rfl⟩,hl1.push _⟩ (j0 _ (λb o e=>Wj _ (k1 b o e)) (Wj _ hS)) λh' tk keep hj=>?_
    ·show A.in1.in1.in1.units<=A.units+20
     simp only [Around.in1_units]
     omega
    ·simp [hh]
    ·refine Wd (Wd ⟨rfl,h',tk,rfl,hj,λb o hb e=>keep b o ?_ (WG hb) (Wj _ (k1 b o e))⟩)
     simp only [Wv,WX,or_false]
     rw [z1];exact WG (W10 hb)
   ·cases r2 with
    |error e=>exact hr2
    |ok fl2=>
     cases fl2 with
     |ret r=>
      obtain⟨rfl,h',tk,rfl,hj,hk⟩:=hr2
      repeat (any_goals (first|assumption|wp_step))
      exact h _ _ hj hk
     |_=>exact hr2.elim
  |_=>exact hr.elim
end
end L2
namespace L2
open PySem PySem.Spec PyProof.Rows
section
variable {prog:Program} {w:World} {B:Around} {K:Type} [DecidableEq K]
end
end L2
namespace L2
open PySem
def bsP (mask:Nat)(h:Int):Nat->Nat×Nat
 |0=>(Vr h%(mask+1),Vr h)
 |m+1=>SetTable.leap mask (bsP mask h m).1 (bsP mask h m).2
def pth (t:SetTable)(h:Int):Nat->SetTable.Probe
 |0=>t.probeStart h
 |k+1=>t.advance (pth t h k)
theorem T6 {t t':SetTable}(e:t.mask=t'.mask)(h:Int):∀k,pth t h k=pth t' h k
 |0=>by unfold pth SetTable.probeStart;rw [e]
 |k+1=>by
  unfold pth W0A;rw [T6 e h k,e]
theorem Tu (t:SetTable)(h:Int):∀k,(pth t h k).dummy=none
 |0=>rfl
 |k+1=>by
  unfold pth W0A;split
  ·exact Tu t h k
  ·exact Tu t h k
theorem RY (mask i:Nat):V2 mask i-i<=9:=by
 unfold V2;split<;>omega
theorem MJ (t:SetTable)(h:Int):∀m,∃k,k<=10*m/\pth t h k={ j:=(bsP t.mask h m).1,more:=V2 t.mask (bsP t.mask h m).1-(bsP t.mask h m).1,i:=(bsP t.mask h m).1,perturb:=(bsP t.mask h m).2,dummy:=none }
 |0=>⟨0,Wq _,rfl⟩
 |m+1=>by
  obtain⟨k,k1,k2⟩:=MJ t h m
  generalize hb:bsP t.mask h m=b at k2
  have hr:=RY t.mask b.1
  generalize V2 t.mask b.1-b.1=r at k2 hr
  have key:∀q,q<=r->pth t h (k+q)={ j:=b.1+q,more:=r-q,i:=b.1,perturb:=b.2,dummy:=none }:=by
   intro q
   induction q with
   |zero=>intro _;exact k2
   |succ q ih=>
    intro hq;have e:=ih (by omega)
    show t.advance (pth t h (k+q))=_
    rw [e];unfold W0A;rw [if_pos (show r-q>0 by omega)]
    rfl
  refine⟨k+r+1,by omega,?_⟩
  show t.advance (pth t h (k+r))=_
  rw [key r (Wq _)];unfold W0A;rw [if_neg (show ¬r-r>0 by omega)]
  have e:bsP t.mask h (m+1)=SetTable.leap t.mask b.1 b.2:=by rw [<-hb];rfl
  rw [e]
theorem F6 (mask:Nat)(h:Int):∀m,(bsP mask h m).2=Vr h / 32 ^ m
 |0=>by show Vr h=_;simp
 |m+1=>by
  show (bsP mask h m).2 / 32=_
  rw [F6 mask h m,Nat.div_div_eq_div_mul,Nat.pow_succ]
theorem Iu (h:Int):Vr h<2 ^ 64:=by
 unfold Vr;have h1:=Vg h (b:=2 ^ 64) (by decide)
 have h2:=Vi h (b:=2 ^ 64) (by decide)
 omega
theorem AW (mask:Nat)(h:Int)(q:Nat):(bsP mask h (13+q)).2=0:=by
 rw [F6];refine Nat.div_eq_of_lt ?_
 have:=Iu h
 refine WR this ?_
 rw [Nat.pow_add];exact V7 (show 2 ^ 64<=32 ^ 13 by decide) (Nat.le_mul_of_pos_right _ (Nat.pow_pos (by decide)))
def lcg (mask:Nat):Nat->Nat->Nat
 |0,i=>i
 |q+1,i=>(lcg mask q i*5+1)%(mask+1)
theorem Ml (mask:Nat)(h:Int):∀q,(bsP mask h (13+q)).1=lcg mask q (bsP mask h 13).1
 |0=>rfl
 |q+1=>by
  show ((bsP mask h (13+q)).1*5+1+(bsP mask h (13+q)).2 / 32)%(mask+1)=_
  rw [AW,Ml mask h q];rfl
theorem XS (mask:Nat)(h:Int)(m:Nat):(bsP mask h m).1<mask+1:=by
 cases m with
 |zero=>exact W2B _ (Nat.succ_pos _)
 |succ m=>exact W2B _ (Nat.succ_pos _)
theorem Z2V:∀i,i<8->∀e,e<8->∃q,q<8/\lcg 7 q i=e:=by decide +kernel
theorem Z17:∀i,i<32->∀e,e<32->∃q,q<32/\lcg 31 q i=e:=by decide +kernel
def Ui (mask:Nat):Prop:=mask=7\/mask=31
theorem No {mask:Nat}(hm:Ui mask)(h:Int){e:Nat}(he:e<=mask):∃m,m<=13+mask/\(bsP mask h m).1=e:=by
 have h1:=XS mask h 13
 rcases hm with rfl|rfl
 ·obtain⟨q,q1,q2⟩:=Z2V _ h1 e (by omega)
  exact⟨13+q,by omega,(Ml 7 h q).trans q2⟩
 ·obtain⟨q,q1,q2⟩:=Z17 _ h1 e (by omega)
  exact⟨13+q,by omega,(Ml 31 h q).trans q2⟩
theorem P8 {t:SetTable}(hm:Ui t.mask)(h:Int){e:Nat}(he:e<=t.mask):∃k,k<10*VQ t.mask/\(pth t h k).j=e:=by
 obtain⟨m,m1,m2⟩:=No hm h he
 obtain⟨k,k1,k2⟩:=MJ t h m
 refine⟨k,?_,by rw [k2];exact m2⟩
 unfold VQ;omega
end L2
namespace L2
open PySem
abbrev SL:=List (Nat×Int×Value)
theorem Bm {xs:Array Nat}{j:Nat}(hs:∀(a b x y:Nat),a<b->xs[a]? = some x->xs[b]? = some y->x<y):∀(fuel lo hi:Nat),hi-lo<=fuel->lo<=hi->hi<=xs.size->
  (∀m x,m<lo->xs[m]? = some x->x<j)->(∀m x,hi<=m->xs[m]? = some x->j<=x)->
  (∀m x,m<W11 xs j fuel lo hi->xs[m]? = some x->x<j)/\(∀m x,W11 xs j fuel lo hi<=m->xs[m]? = some x->j<=x)/\W11 xs j fuel lo hi<=xs.size
 |0,lo,hi,h1,h2,h3,h4,h5=>by
  unfold W11;have:lo=hi:=by omega
  subst this;exact⟨h4,h5,h3⟩
 |fuel+1,lo,hi,h1,h2,h3,h4,h5=>by
  unfold W11;by_cases q:lo<hi
  ·rw [if_pos q]
   have hm:(lo+hi) / 2<xs.size:=by omega
   obtain⟨v,hv⟩:∃v,xs[(lo+hi) / 2]? = some v:=⟨_,WD hm⟩
   have e:xs.getD ((lo+hi) / 2) j=v:=by rw [Vz,hv];rfl
   dsimp only;rw [e];by_cases r:v<j
   ·rw [if_pos r]
    refine Bm hs fuel _ hi (by omega) (by omega) h3 (λm x hm' hx=>?_) h5
    by_cases z:m=(lo+hi) / 2
    ·subst z;rw [hv] at hx;cases hx;exact r
    ·have:=hs m ((lo+hi) / 2) x v (by omega) hx hv
     omega
   ·rw [if_neg r]
    refine Bm hs fuel lo _ (by omega) (by omega) (by omega) h4 λm x hm' hx=>?_
    by_cases z:m=(lo+hi) / 2
    ·subst z;rw [hv] at hx;cases hx;omega
    ·have:=hs ((lo+hi) / 2) m v x (by omega) hv hx
     omega
  ·rw [if_neg q]
   have:lo=hi:=by omega
   subst this;exact⟨h4,h5,h3⟩
def AZ (xs:Array Nat):Prop:=∀(a b x y:Nat),a<b->xs[a]? = some x->xs[b]? = some y->x<y
theorem JB {xs:Array Nat}(hs:AZ xs)(j:Nat):(∀m x,m<Vh xs j->xs[m]? = some x->x<j)/\(∀m x,Vh xs j<=m->xs[m]? = some x->j<=x)/\Vh xs j<=xs.size:=by
 unfold Vh;refine Bm hs _ 0 xs.size (by omega) (Vx _) (Wq _) (λm x h=>absurd h (W0U m)) λm x h e=>?_
 rw [W0x h] at e;cases e
theorem AX {xs:Array Nat}(hs:AZ xs){i j:Nat}(h:xs[i]? = some j):Vh xs j=i:=by
 obtain⟨h1,h2,h3⟩:=JB hs j
 rcases Nat.lt_trichotomy (Vh xs j) i with z|z|z
 ·have hb:Vh xs j<xs.size:=by have:=(Vn.mp h).1;omega
  obtain⟨v,hv⟩:∃v,xs[Vh xs j]? = some v:=⟨_,WD hb⟩
  have a1:=h2 _ v (Wq _) hv
  have a2:=hs _ _ _ _ z hv h
  omega
 ·exact z
 ·have:=h1 i j z h
  omega
theorem RL {t:SetTable}(hs:AZ t.place){i j:Nat}(h:t.place[i]? = some j):t.slot j = .live i:=by
 unfold SetTable.slot;rw [AX hs h];dsimp only;rw [h];simp
theorem Kz {t:SetTable}(hd:t.dummies = #[]){j:Nat}(h:∀i:Nat,t.place[i]?≠some j):t.slot j = .empty:=by
 unfold SetTable.slot;have e1:(t.place[Vh t.place j]? == some j)=false:=by
  rw [beq_eq_false_iff_ne];exact h _
 have e2:SetTable.has t.dummies j=false:=by
  rw [hd];unfold SetTable.has;rfl
 dsimp only;rw [e1,e2];rfl
structure Tbl (t:SetTable) (L:SL):Prop where
 mok:Ui t.mask
 dum:t.dummies = #[]
 pl:t.place.toList=L.map (·.1)
 ri:L.Pairwise λa b=>a.1<b.1
 bd:∀q∈L,q.1<=t.mask
 few:L.length<=t.mask
 path:∀q∈L,∃k,(pth t q.2.1 k).j=q.1/\∀k',k'<k->∃q'∈L,q'.1=(pth t q.2.1 k').j
theorem Tbl.at {t:SetTable}{L:SL}(T:Tbl t L)(i:Nat):t.place[i]? = L[i]?.map (·.1):=by
 rw [<-Vd,T.pl,WE]
theorem Tbl.rise {t:SetTable}{L:SL}(T:Tbl t L):AZ t.place:=λa b x y hab hx hy=>by
 rw [T.at] at hx hy;obtain⟨p,p1,rfl⟩:=Wi.mp hx
 obtain⟨q,q1,rfl⟩:=Wi.mp hy
 obtain⟨a1,a2⟩:=Wn.mp p1
 obtain⟨b1,b2⟩:=Wn.mp q1
 rw [<-a2,<-b2];exact W1a.mp T.ri a b a1 b1 hab
theorem Tbl.live {t:SetTable}{L:SL}(T:Tbl t L){i:Nat}{q:Nat×Int×Value}(h:L[i]? = some q):t.slot q.1 = .live i:=RL T.rise (by rw [T.at,h];rfl)
theorem Tbl.empty {t:SetTable}{L:SL}(T:Tbl t L){j:Nat}(h:∀q∈L,q.1≠j):t.slot j = .empty:=Kz T.dum λi z=>by
 rw [T.at] at z;obtain⟨p,p1,p2⟩:=Wi.mp z
 exact h p (V4 p1) p2
theorem QL {α:Type}[DecidableEq α]:∀(l l':List α),l.Nodup->(∀a∈l,a∈l')->l.length<=l'.length
 |[],_,_,_=>Vx _
 |a :: l,l',hn,hs=>by
  rw [VE] at hn;have ha:=hs a Wp
  have ih:=QL l (l'.erase a) hn.2 λb hb=>(List.mem_erase_of_ne (λz:b=a=>hn.1 (z ▸ hb))).mpr (hs b (Wu _ hb))
  rw [W2C ha] at ih;have:=W0S ha
  rw [WS];omega
theorem Tbl.free {t:SetTable}{L:SL}(T:Tbl t L):∃e,e<=t.mask/\∀q∈L,q.1≠e:=by
 have key:∃e∈W6 (t.mask+1),e∉L.map (·.1):=by
  refine W0e λz=>?_
  have h1:=QL (W6 (t.mask+1)) (L.map (·.1)) W0O λa ha=>W0e λw=>z ⟨a,ha,w⟩
  rw [V5,W7] at h1;have:=T.few
  omega
 obtain⟨e,e1,e2⟩:=key
 exact⟨e,by have:=Vf.mp e1;omega,λq hq z=>e2 (WB.mpr ⟨q,hq,z⟩)⟩
theorem Tbl.first {t:SetTable}{L:SL}(T:Tbl t L)(h:Int):∃k,k<10*VQ t.mask/\(∀q∈L,q.1≠(pth t h k).j)/\∀k',k'<k->∃q∈L,q.1=(pth t h k').j:=by
 obtain⟨e,e1,e2⟩:=T.free
 obtain⟨k,k1,k2⟩:=P8 T.mok h e1
 have key:∀n,(∃k,k<=n/\∀q∈L,q.1≠(pth t h k).j)->∃k,k<=n/\(∀q∈L,q.1≠(pth t h k).j)/\∀k',k'<k->∃q∈L,q.1=(pth t h k').j:=by
  intro n
  induction n with
  |zero=>
   rintro⟨k,hk,hq⟩
   have:k=0:=by omega
   subst this;exact⟨0,Wq _,hq,λk' z=>absurd z (W0U _)⟩
  |succ n ih=>
   rintro⟨k,hk,hq⟩
   by_cases z:∃k,k<=n/\∀q∈L,q.1≠(pth t h k).j
   ·obtain⟨a,a1,a2,a3⟩:=ih z
    exact⟨a,by omega,a2,a3⟩
   ·refine⟨k,hk,hq,λk' hk'=>W0e λw=>z ⟨k',by omega,λq hq' e=>w ⟨q,hq',e⟩⟩⟩
 obtain⟨a,a1,a2,a3⟩:=key k ⟨k,Wq _,λq hq=>by rw [k2];exact e2 q hq⟩
 exact⟨a,by omega,a2,a3⟩
theorem Tbl.go {t:SetTable}{L:SL}(T:Tbl t L)(h:Int)(hashAt:Nat->Int){K:Nat}(hK:∀q∈L,q.1≠(pth t h K).j)(hl:∀k',k'<K->∃q∈L,q.1=(pth t h k').j):∀(fuel k:Nat),K-k<fuel->k<=K->
  (W1M t hashAt h fuel (pth t h k)=some (.empty (pth t h K).j none)/\∀k' i q,k<=k'->k'<K->L[i]? = some q->q.1=(pth t h k').j->hashAt i≠h)\/
  ∃k' i q,k<=k'/\k'<K/\L[i]? = some q/\q.1=(pth t h k').j/\hashAt i=h/\W1M t hashAt h fuel (pth t h k)=some (.candidate (pth t h k').j i (pth t h (k'+1)))/\∀k'' i q,k<=k''->k''<k'->L[i]? = some q->q.1=(pth t h k'').j->hashAt i≠h
 |0,k,h1,_=>absurd h1 (W0U _)
 |fuel+1,k,h1,h2=>by
  by_cases hk:k=K
  ·subst hk
   refine .inl ⟨?_,λk' i q a b=>by omega⟩
   unfold W1M;rw [T.empty hK];dsimp only;rw [Tu]
  ·obtain⟨q,hq,e⟩:=hl k (by omega)
   obtain⟨i,hi⟩:=VP.mp hq
   have hs:t.slot (pth t h k).j = .live i:=by rw [<-e];exact T.live hi
   have uni:∀i' q',L[i']? = some q'->q'.1=(pth t h k).j->i'=i:=λi' q' hi' e'=>by
    have:=T.live hi'
    rw [e',hs] at this
    injection this with this
    exact this.symm
   unfold W1M;rw [hs];dsimp only;by_cases hh:hashAt i=h
   ·rw [if_pos (by simpa using hh)]
    exact .inr ⟨k,i,q,Wq _,by omega,hi,e,hh,rfl,λk'' i q a b=>by omega⟩
   ·rw [if_neg (by simpa using hh)]
    have ih:=T.go h hashAt hK hl fuel (k+1) (by omega) (by omega)
    have here:∀k' i' q',k<=k'->k'<k+1->L[i']? = some q'->q'.1=(pth t h k').j->hashAt i'≠h:=λk' i' q' a b c d=>by
     have:k'=k:=by omega
     subst this;rw [uni i' q' c d];exact hh
    rcases ih with ⟨a1,a2⟩|⟨k',i',q',a1,a2,a3,a4,a5,a6,a7⟩
    ·refine .inl ⟨a1,λk' i' q' b1 b2 b3 b4=>?_⟩
     by_cases z:k'<k+1
     ·exact here k' i' q' b1 z b3 b4
     ·exact a2 k' i' q' (by omega) b2 b3 b4
    ·refine .inr ⟨k',i',q',by omega,a2,a3,a4,a5,a6,λk'' i'' q'' b1 b2 b3 b4=>?_⟩
     by_cases z:k''<k+1
     ·exact here k'' i'' q'' b1 z b3 b4
     ·exact a7 k'' i'' q'' (by omega) b2 b3 b4
end L2
namespace L2
open PySem
theorem U3 {α:Type}(xs:Array α)(p:Nat)(x:α):(VR xs p x).toList=xs.toList.take p++[x]++xs.toList.drop p:=by
 unfold VR;simp [List.extract_eq_take_drop,List.take_of_length_le]
def Rn (L:SL)(p:Nat)(q:Nat×Int×Value):SL:=L.take p++[q]++L.drop p
theorem Jj (L:SL)(p:Nat)(q:Nat×Int×Value):(Rn L p q).Perm (L++[q]):=by
 unfold Rn;have h:(L.take p++[q]++L.drop p).Perm (L.take p++(L.drop p++[q])):=by
  rw [WN];exact List.Perm.append_left _ List.perm_append_comm
 refine h.trans ?_
 rw [<-WN,W1W]
theorem Ur {t:SetTable}(hd:t.dummies = #[])(j:Nat):t.put j=({ t with place:=VR t.place (Vh t.place j) j },Vh t.place j):=by
 unfold SetTable.put;have e2:SetTable.has t.dummies j=false:=by
  rw [hd];unfold SetTable.has;rfl
 dsimp only;rw [e2];simp
theorem Tbl.put {t:SetTable}{L:SL}(T:Tbl t L)(h:Int)(x:Value){K:Nat}(hK:∀q∈L,q.1≠(pth t h K).j)(hl:∀k',k'<K->∃q∈L,q.1=(pth t h k').j)(few:L.length+1<=t.mask)(bd:(pth t h K).j<=t.mask) :
  Tbl (t.put (pth t h K).j).1 (Rn L (t.put (pth t h K).j).2 ((pth t h K).j,h,x)):=by
 rw [Ur T.dum];dsimp only;obtain⟨b1,b2,b3⟩:=JB T.rise (pth t h K).j
 generalize Vh t.place (pth t h K).j=p at *
 have mem:∀q,q∈Rn L p ((pth t h K).j,h,x)↔q∈L\/q=((pth t h K).j,h,x):=λq=>by
  rw [(Jj L p _).mem_iff,WH,WA]
 have pm:∀h' k,pth { t with place:=VR t.place p (pth t h K).j } h' k=pth t h' k:=λh' k=>T6 (t:={ t with place:=VR t.place p (pth t h K).j }) (t':=t) rfl h' k
 refine⟨T.mok,T.dum,?_,?_,λq hq=>?_,?_,λq hq=>?_⟩
 ·rw [U3,T.pl]
  unfold Rn;simp
 ·unfold Rn
  rw [WN,List.pairwise_append];have hT:=T.ri
  rw [<-W1W p L,List.pairwise_append] at hT;refine⟨hT.1,?_,λa ha b hb=>?_⟩
  ·rw [List.singleton_append,VT]
   refine⟨λb hb=>?_,hT.2.1⟩
   obtain⟨i,hi⟩:=VP.mp hb
   rw [List.getElem?_drop] at hi;have h1:=b2 (p+i) b.1 (by omega) (by rw [T.at,hi];rfl)
   have h2:=hK b (List.mem_of_mem_drop hb)
   show (pth t h K).j<b.1
   omega
  ·have hat:a.1<(pth t h K).j:=by
    obtain⟨i,hi⟩:=VP.mp ha
    rw [List.getElem?_take] at hi;split at hi
    ·rename_i hip
     exact b1 i a.1 hip (by rw [T.at,hi];rfl)
    ·cases hi
   rcases WH.mp hb with z|z
   ·rw [WA.mp z];exact hat
   ·exact hT.2.2 a ha b z
 ·rcases (mem q).mp hq with z|z
  ·exact T.bd q z
  ·rw [z];exact bd
 ·rw [(Jj L p _).length_eq,WC]
  exact few
 ·rcases (mem q).mp hq with z|z
  ·obtain⟨k,k1,k2⟩:=T.path q z
   refine⟨k,by rw [pm];exact k1,λk' hk'=>?_⟩
   obtain⟨q',q1,q2⟩:=k2 k' hk'
   exact⟨q',(mem q').mpr (.inl q1),by rw [pm];exact q2⟩
  ·subst z
   refine⟨K,by rw [pm],λk' hk'=>?_⟩
   obtain⟨q',q1,q2⟩:=hl k' hk'
   exact⟨q',(mem q').mpr (.inl q1),by rw [pm];exact q2⟩
theorem P9 (t:SetTable)(h:Int)(m:Ui t.mask):∀k,(pth t h k).j+(pth t h k).more<=t.mask
 |0=>by
  show Vr h%(t.mask+1)+(V2 t.mask (Vr h%(t.mask+1))-Vr h%(t.mask+1))<=t.mask
  have:=W2B (Vr h) (show 0<t.mask+1 by omega)
  unfold V2;split<;>omega
 |k+1=>by
  have ih:=P9 t h m k
  show (t.advance (pth t h k)).j+(t.advance (pth t h k)).more<=t.mask
  generalize pth t h k=p at *
  unfold W0A;by_cases q:p.more>0
  ·rw [if_pos q]
   dsimp only;omega
  ·rw [if_neg q]
   unfold SetTable.leap;dsimp only;have:=W2B (p.i*5+1+p.perturb / 32) (show 0<t.mask+1 by omega)
   unfold V2;split<;>omega
end L2
namespace L2
open PySem
def kbP (mask:Nat)(h:Int):Nat->Nat
 |0=>0
 |m+1=>kbP mask h m+(V2 mask (bsP mask h m).1-(bsP mask h m).1)+1
theorem NL (t:SetTable)(h:Int){k r:Nat}{b:Nat×Nat}(e:pth t h k={ j:=b.1,more:=r,i:=b.1,perturb:=b.2,dummy:=none }):∀q,q<=r->pth t h (k+q)={ j:=b.1+q,more:=r-q,i:=b.1,perturb:=b.2,dummy:=none }
 |0,_=>e
 |q+1,hq=>by
  have e:=NL t h e q (by omega)
  show t.advance (pth t h (k+q))=_
  rw [e];unfold W0A;rw [if_pos (show r-q>0 by omega)]
  rfl
theorem Eg (t:SetTable)(h:Int):∀m,pth t h (kbP t.mask h m)={ j:=(bsP t.mask h m).1,more:=V2 t.mask (bsP t.mask h m).1-(bsP t.mask h m).1,i:=(bsP t.mask h m).1,perturb:=(bsP t.mask h m).2,dummy:=none }
 |0=>rfl
 |m+1=>by
  have e:=NL t h (Eg t h m) _ (Wq _)
  show t.advance (pth t h (kbP t.mask h m+(V2 t.mask (bsP t.mask h m).1-(bsP t.mask h m).1)))=_
  rw [e];unfold W0A;rw [if_neg (show ¬_-_>0 by omega)]
  rfl
structure Own (t:SetTable) (hs:List Int) (ow:Array (Option Nat)) (c:Nat):Prop where
 sz:ow.size=t.mask+1
 has:∀k,k<c->∃j:Nat,ow[j]? = some (some k)
 inj:∀(j j' k:Nat),ow[j]? = some (some k)->ow[j']? = some (some k)->j=j'
 path:∀(j k:Nat),ow[j]? = some (some k)->k<c/\∃h,hs[k]? = some h/\∃q,(pth t h q).j=j/\∀q',q'<q->∃k',ow[(pth t h q').j]? = some (some k')
theorem LK {t:SetTable}{ow:Array (Option Nat)}(mk:Ui t.mask)(sz:ow.size=t.mask+1)(h:Int){e:Nat}(he:ow[e]? = some none):∀(fuel m:Nat),(∃m1,m<=m1/\m1<m+fuel/\(bsP t.mask h m1).1=e)->
  (∀q',q'<kbP t.mask h m->∃k',ow[(pth t h q').j]? = some (some k'))->
  ∃q,W09 t.mask ow fuel (bsP t.mask h m).1 (bsP t.mask h m).2=some (pth t h q).j/\ow[(pth t h q).j]? = some none/\∀q',q'<q->∃k',ow[(pth t h q').j]? = some (some k')
 |0,m,h1,_=>by
  obtain⟨m1,a,b,_⟩:=h1
  omega
 |fuel+1,m,h1,h2=>by
  unfold W09;have win:∀k,k<=V2 t.mask (bsP t.mask h m).1-(bsP t.mask h m).1->(pth t h (kbP t.mask h m+k)).j=(bsP t.mask h m).1+k:=λk hk=>by rw [NL t h (Eg t h m) k hk]
  have bnd:∀k,k<=V2 t.mask (bsP t.mask h m).1-(bsP t.mask h m).1->(bsP t.mask h m).1+k<ow.size:=λk hk=>by
   have:=P9 t h mk (kbP t.mask h m+k)
   rw [win k hk] at this;omega
  have hle:(bsP t.mask h m).1<=V2 t.mask (bsP t.mask h m).1:=by unfold V2;split<;>omega
  have cell:∀k,k<=V2 t.mask (bsP t.mask h m).1-(bsP t.mask h m).1->ow.getD ((bsP t.mask h m).1+k) (some 0)=none->ow[(bsP t.mask h m).1+k]? = some none:=λk hk e=>by
   have hb:=bnd k hk
   rw [Vz,WD hb] at e;rw [WD hb];exact congrArg some e
  have cell2:∀k,k<=V2 t.mask (bsP t.mask h m).1-(bsP t.mask h m).1->ow.getD ((bsP t.mask h m).1+k) (some 0)≠none->∃k',ow[(bsP t.mask h m).1+k]? = some (some k'):=λk hk e=>by
   have hb:=bnd k hk
   rw [Vz,WD hb] at e;rw [WD hb];obtain⟨k',z⟩:=Option.ne_none_iff_exists'.mp e
   exact⟨k',congrArg some z⟩
  cases hf:(W6 (V2 t.mask (bsP t.mask h m).1+1-(bsP t.mask h m).1)).find? λk=>(ow.getD ((bsP t.mask h m).1+k) (some 0)).isNone with
  |some k=>
   obtain⟨f1,f2,f3⟩:=List.find?_range_eq_some.mp hf
   have hk:k<=V2 t.mask (bsP t.mask h m).1-(bsP t.mask h m).1:=by have:=Vf.mp f2;omega
   refine⟨kbP t.mask h m+k,by dsimp only;rw [win k hk],by rw [win k hk];exact cell k hk (Option.isNone_iff_eq_none.mp f1),λq' hq'=>?_⟩
   by_cases z:q'<kbP t.mask h m
   ·exact h2 q' z
   ·obtain⟨d,rfl⟩:∃d,q'=kbP t.mask h m+d:=⟨q'-kbP t.mask h m,by omega⟩
    rw [win d (by omega)]
    refine cell2 d (by omega) λw=>?_
    have:=f3 d (by omega)
    rw [w] at this;cases this
  |none=>
   have hall:=List.find?_range_eq_none.mp hf
   dsimp only;have own:∀k,k<=V2 t.mask (bsP t.mask h m).1-(bsP t.mask h m).1->∃k',ow[(bsP t.mask h m).1+k]? = some (some k'):=λk hk=>by
    refine cell2 k hk λw=>?_
    have:=hall k (by omega)
    rw [w] at this;cases this
   have ih:=LK mk sz h he fuel (m+1) (by
    obtain⟨m1,a,b,c⟩:=h1
    refine⟨m1,?_,by omega,c⟩
    rcases Nat.lt_or_ge m m1 with z|z
    ·exact z
    ·have:m1=m:=by omega
     subst this;obtain⟨k',w⟩:=own 0 (Vx _)
     rw [Nat.add_zero,c,he] at w;cases w) λq' hq'=>by
    by_cases z:q'<kbP t.mask h m
    ·exact h2 q' z
    ·obtain⟨d,rfl⟩:∃d,q'=kbP t.mask h m+d:=⟨q'-kbP t.mask h m,by omega⟩
     have hd:d<=V2 t.mask (bsP t.mask h m).1-(bsP t.mask h m).1:=by
      have:kbP t.mask h (m+1)=kbP t.mask h m+(V2 t.mask (bsP t.mask h m).1-(bsP t.mask h m).1)+1:=rfl
      omega
     rw [win d hd];exact own d hd
   exact ih
theorem Own.room {t:SetTable}{hs:List Int}{ow:Array (Option Nat)}{c:Nat}(O:Own t hs ow c)(hc:c<=t.mask):∃e:Nat,e<=t.mask/\ow[e]? = some none:=by
 refine W0e λz=>?_
 have all:∀e,e<=t.mask->∃k,ow[e]? = some (some k):=λe he=>by
  have hb:e<ow.size:=by rw [O.sz];omega
  cases w:ow[e] with
  |none=>exact absurd ⟨e,he,by rw [WD hb,w]⟩ z
  |some k=>exact⟨k,by rw [WD hb,w]⟩
 have h1:=QL ((W6 (t.mask+1)).map λj=>((ow[j]?).getD none).getD 0) (W6 c) (by
  refine VI.mpr ?_
  refine W2D ?_ (W0O (n:=t.mask+1))
  intro a b ha hb hab q;obtain⟨k,hk⟩:=all a (by have:=Vf.mp ha;omega)
  obtain⟨k',hk'⟩:=all b (by have:=Vf.mp hb;omega)
  rw [hk,hk'] at q;have q':k=k':=q
  subst q'
  exact hab (O.inj a b k hk hk')) λx hx=>by
  obtain⟨j,j1,j2⟩:=WB.mp hx
  obtain⟨k,hk⟩:=all j (by have:=Vf.mp j1;omega)
  rw [hk] at j2;have j3:k=x:=j2
  rw [<-j3,Vf];exact (O.path j k hk).1
 rw [W7,V5,V5] at h1;omega
theorem Own.step {t:SetTable}{hs:List Int}{ow:Array (Option Nat)}{c:Nat}(mk:Ui t.mask)(O:Own t hs ow c)(hc:c<=t.mask){h:Int}(hh:hs[c]? = some h) :
  ∃j,W09 t.mask ow (VQ t.mask) (Vr h%(t.mask+1)) (Vr h)=some j/\Own t hs (ow.setIfInBounds j (some c)) (c+1):=by
 obtain⟨e,e1,e2⟩:=O.room hc
 obtain⟨m,m1,m2⟩:=No mk h e1
 obtain⟨q,q1,q2,q3⟩:=LK mk O.sz h e2 (VQ t.mask) 0 ⟨m,Vx _,by unfold VQ;omega,m2⟩ λq' z=>absurd z (W0U _)
 refine⟨_,q1,?_⟩
 have hb:(pth t h q).j<ow.size:=(Vn.mp q2).1
 have get:∀i:Nat,(ow.setIfInBounds (pth t h q).j (some c))[i]? = if (pth t h q).j=i then some (some c) else ow[i]?:=λi=>by
  rw [Array.getElem?_setIfInBounds];by_cases z:(pth t h q).j=i
  ·rw [if_pos z,if_pos z,if_pos hb]
  ·rw [if_neg z,if_neg z]
 have up:∀(i k:Nat),ow[i]? = some (some k)->(ow.setIfInBounds (pth t h q).j (some c))[i]? = some (some k):=λi k w=>by
  rw [get];by_cases z:(pth t h q).j=i
  ·rw [z,w] at q2;cases q2
  ·rw [if_neg z];exact w
 refine⟨by rw [Array.size_setIfInBounds];exact O.sz,λk hk=>?_,λj j' k w w'=>?_,λj k w=>?_⟩
 ·by_cases z:k=c
  ·exact⟨(pth t h q).j,by rw [get,if_pos rfl,z]⟩
  ·obtain⟨j,hj⟩:=O.has k (by omega)
   exact⟨j,up j k hj⟩
 ·rw [get] at w w'
  by_cases z:(pth t h q).j=j
  ·rw [if_pos z] at w
   injection w with w
   injection w with w
   by_cases z':(pth t h q).j=j'
   ·omega
   ·rw [if_neg z'] at w'
    have:=(O.path j' k w').1
    omega
  ·rw [if_neg z] at w
   by_cases z':(pth t h q).j=j'
   ·rw [if_pos z'] at w'
    injection w' with w'
    injection w' with w'
    have:=(O.path j k w).1
    omega
   ·rw [if_neg z'] at w'
    exact O.inj j j' k w w'
 ·rw [get] at w
  by_cases z:(pth t h q).j=j
  ·rw [if_pos z] at w
   injection w with w
   injection w with w
   subst w;refine⟨W07 _,h,hh,q,z,λq' hq'=>?_⟩
   obtain⟨k',hk'⟩:=q3 q' hq'
   exact⟨k',up _ _ hk'⟩
  ·rw [if_neg z] at w
   obtain⟨a,h',a1,q',a2,a3⟩:=O.path j k w
   refine⟨by omega,h',a1,q',a2,λq'' hq''=>?_⟩
   obtain⟨k',hk'⟩:=a3 q'' hq''
   exact⟨k',up _ _ hk'⟩
end L2
namespace L2
open PySem
theorem Own.all {t:SetTable}{hs:List Int}(mk:Ui t.mask)(hl:hs.length<=t.mask):∀(l done:List Int) (ow:Array (Option Nat)),hs=done++l->Own t hs ow done.length->
  ∃ow',(l.foldl (λ(acc:Option (Array (Option Nat)×Nat)) h=>do
   let (owner,k) <-acc
   let j <-W09 t.mask owner (VQ t.mask) (Vr h%(t.mask+1)) (Vr h)
   pure (owner.setIfInBounds j (some k),k+1)) (some (ow,done.length)))=some (ow',hs.length)/\Own t hs ow' hs.length
 |[],done,ow,e,O=>by
  rw [VL] at e;subst e;exact⟨ow,rfl,O⟩
 |h :: l,done,ow,e,O=>by
  have hd:hs[done.length]? = some h:=by
   rw [e,WV (Wq _),W2o];rfl
  have hlt:done.length<=t.mask:=by
   have:=congrArg Va e
   rw [WC,WS] at this;omega
  obtain⟨j,j1,j2⟩:=O.step mk hlt hd
  have ih:=Own.all mk hl l (done++[h]) (ow.setIfInBounds j (some done.length)) (by rw [e,WN];rfl) (by rw [WC];exact j2)
  rw [W2d];have e1:(do
   let (owner,k) <-(some (ow,done.length):Option (Array (Option Nat)×Nat))
   let j <-W09 t.mask owner (VQ t.mask) (Vr h%(t.mask+1)) (Vr h)
   pure (owner.setIfInBounds j (some k),k+1))=some (ow.setIfInBounds j (some done.length),(done++[h]).length):=by
   show (W09 t.mask ow (VQ t.mask) (Vr h%(t.mask+1)) (Vr h)).bind _=_
   rw [j1,WC];rfl
  rw [e1];exact ih
theorem BY {t:SetTable}(mk:Ui t.mask)(hs:Array Int)(hl:hs.size<=t.mask):∃ow,W2I t.mask hs=some ow/\Own t hs.toList ow hs.size:=by
 have O0:Own t hs.toList (Array.replicate (t.mask+1) none) 0:=by
  have no:∀(j k:Nat),(Array.replicate (t.mask+1) (none:Option Nat))[j]?≠some (some k):=λj k w=>by
   rw [Array.getElem?_replicate] at w;split at w<;>cases w
  exact⟨by rw [Array.size_replicate],λk hk=>absurd hk (W0U _),λj j' k w=>absurd w (no j k),λj k w=>absurd w (no j k)⟩
 obtain⟨ow,e,O⟩:=Own.all (hs:=hs.toList) mk (by rw [WF];exact hl) hs.toList [] _ rfl O0
 have hz:hs.toList.length=hs.size:=WF
 rw [hz] at O;refine⟨ow,?_,O⟩
 unfold W2I;rw [<-Array.foldl_toList];exact congrArg (Option.map λx=>x.1) e
def T0 (mask:Nat)(ow:Array (Option Nat)):List (Nat×Nat):=(W6 (mask+1)).filterMap λj=>(ow.getD j none).map (j,·)
theorem Ju {t:SetTable}{hs:List Int}{ow:Array (Option Nat)}{c:Nat}(O:Own t hs ow c){p:Nat×Nat}:p∈T0 t.mask ow↔ow[p.1]? = some (some p.2):=by
 unfold T0;rw [W1r]
 constructor
 ·rintro⟨j,j1,j2⟩
  obtain⟨k,k1,rfl⟩:=Wi.mp j2
  rw [Vz] at k1;dsimp only;cases w:ow[j]? with
  |none=>rw [w] at k1;cases k1
  |some x=>rw [w] at k1;exact congrArg some k1
 ·intro w
  have hb:p.1<ow.size:=(Vn.mp w).1
  rw [O.sz] at hb;refine⟨p.1,Vf.mpr hb,?_⟩
  rw [Vz,w];rfl
theorem BV (mask:Nat)(ow:Array (Option Nat)):(T0 mask ow).Pairwise λa b=>a.1<b.1:=by
 unfold T0;rw [List.pairwise_filterMap];refine W1N ?_ (W1H (n:=mask+1))
 intro a b hab x hx y hy;obtain⟨_,_,rfl⟩:=Wi.mp hx
 obtain⟨_,_,rfl⟩:=Wi.mp hy
 exact hab
theorem P0 {t:SetTable}(mk:Ui t.mask)(es:Array (Int×Value))(hl:es.size<=t.mask)(finger moves:Nat)(led plain:Bool) :
  ∃t' order L,SetTable.laid t.mask finger moves led plain (es.map (·.1))=some (t',order)/\t'.mask=t.mask/\t'.led=led/\t'.plain=plain/\Tbl t' L/\(order.filterMap (es[·]?)).toList=L.map (·.2)/\(L.map (·.2)).Perm es.toList:=by
 obtain⟨ow,e,O⟩:=BY mk (es.map (·.1)) (by rw [Array.size_map];exact hl)
 rw [Array.size_map] at O;have hk:∀p∈T0 t.mask ow,p.2<es.size:=λp hp=>(O.path _ _ ((Ju O).mp hp)).1
 let L:SL:=(T0 t.mask ow).filterMap λp=>(es[p.2]?).map λx=>(p.1,x)
 have hL:∀l:List (Nat×Nat),(∀p∈l,p.2<es.size)->(l.filterMap λp=>(es[p.2]?).map λx=>(p.1,x)).map (·.1)=l.map (·.1)/\(l.filterMap λp=>(es[p.2]?).map λx=>(p.1,x)).map (·.2)=(l.map (·.2)).filterMap (es[·]?):=by
  intro l
  induction l with
  |nil=>intro _;exact⟨rfl,rfl⟩
  |cons p l ih=>
   intro hp;obtain⟨i1,i2⟩:=ih λq hq=>hp q (Wu _ hq)
   obtain⟨v,e2⟩:∃v,es[p.2]? = some v:=⟨_,WD (hp p Wp)⟩
   rw [W0s,e2];dsimp only [W3];rw [W1,W1,W1,W1,W0s,e2,i1,i2];exact⟨rfl,rfl⟩
 obtain⟨l1,l2⟩:=hL _ hk
 have memL:∀q∈L,∃k,ow[q.1]? = some (some k)/\es[k]? = some q.2:=λq hq=>by
  obtain⟨p,p1,p2⟩:=W1r.mp hq
  obtain⟨x,x1,rfl⟩:=Wi.mp p2
  exact⟨p.2,(Ju O).mp p1,x1⟩
 have Lmem:∀(j k:Nat),ow[j]? = some (some k)->∃q∈L,q.1=j:=λj k w=>by
  have hm:(j,k)∈T0 t.mask ow:=(Ju O).mpr w
  have:j∈L.map (·.1):=by rw [show L.map (·.1)=_ from l1];exact WB.mpr ⟨_,hm,rfl⟩
  obtain⟨q,q1,q2⟩:=WB.mp this
  exact⟨q,q1,q2⟩
 have ord:((T0 t.mask ow).map (·.2)).Perm (W6 es.size):=by
  refine (W0z ?_ W0O).mpr λk=>?_
  ·refine VI.mpr (W2D ?_ (BV t.mask ow))
   intro a b ha hb hab z;have h1:=(Ju O).mp ha
   have h2:=(Ju O).mp hb
   rw [<-z] at h2;have:=O.inj _ _ _ h1 h2
   omega
  ·rw [WB,Vf]
   constructor
   ·rintro⟨p,p1,rfl⟩;exact hk p p1
   ·intro z
    obtain⟨j,hj⟩:=O.has k z
    exact⟨(j,k),(Ju O).mpr hj,rfl⟩
 have rng:(W6 es.size).filterMap (es[·]?)=es.toList:=by
  have:∀l:List (Int×Value),(W6 l.length).filterMap (λk=>l[k]?)=l:=by
   intro l
   induction l with
   |nil=>rfl
   |cons a l ih=>
    rw [WS,List.range_succ_eq_map,W0s,List.filterMap_map];exact congrArg (a :: ·) ih
  have h:=this es.toList
  rw [WF] at h;have e3:(λk:Nat=>es.toList[k]?)=λk=>es[k]?:=funext λk=>Vd
  rw [e3] at h;exact h
 have hper:(L.map (·.2)).Perm es.toList:=by
  rw [show L.map (·.2)=_ from l2,<-rng];exact ord.filterMap _
 have hlen:L.length=es.size:=by
  have:=hper.length_eq
  rw [W7,WF] at this;exact this
 refine⟨{ mask:=t.mask,place:=((T0 t.mask ow).map (·.1)).toArray,dummies:=#[],finger:=finger,led:=led,moves:=moves,plain:=plain },((T0 t.mask ow).map (·.2)).toArray,L,?_,rfl,rfl,rfl,⟨mk,rfl,?_,?_,?_,?_,?_⟩,?_,hper⟩
 ·unfold SetTable.laid
  rw [e];rfl
 ·exact l1.symm
 ·refine List.pairwise_filterMap.mpr (W1N ?_ (BV t.mask ow))
  intro a b hab x hx y hy;obtain⟨_,_,rfl⟩:=Wi.mp hx
  obtain⟨_,_,rfl⟩:=Wi.mp hy
  exact hab
 ·intro q hq
  obtain⟨k,k1,_⟩:=memL q hq
  have:=(Vn.mp k1).1
  rw [O.sz] at this;show q.1<=t.mask
  omega
 ·show L.length<=t.mask
  omega
 ·intro q hq
  obtain⟨k,k1,k2⟩:=memL q hq
  obtain⟨_,h',a1,z,a2,a3⟩:=O.path _ _ k1
  have hq2:q.2.1=h':=by
   rw [Array.toList_map,WE,Vd,k2] at a1
   injection a1
  have pm:∀k,pth { mask:=t.mask,place:=((T0 t.mask ow).map (·.1)).toArray,dummies:=#[],finger:=finger,led:=led,moves:=moves,plain:=plain } q.2.1 k=pth t h' k:=λk=>by
   rw [hq2];exact T6 (t:={ mask:=t.mask,place:=((T0 t.mask ow).map (·.1)).toArray,dummies:=#[],finger:=finger,led:=led,moves:=moves,plain:=plain }) (t':=t) rfl h' k
  refine⟨z,by rw [pm];exact a2,λk' hk'=>?_⟩
  obtain⟨k2',w⟩:=a3 k' hk'
  rw [pm];exact Lmem _ _ w
 ·rw [show L.map (·.2)=_ from l2]
  simp
end L2
namespace L2
open PySem PySem.Spec PyProof.Rows
def Fs (h0 h:Heap):Prop:=∀b o,h0.get? b=some o->h.get? b=some o
structure HK (prog:Program) (w:World) (h0:Heap) (U:Nat) (K:Type) [DecidableEq K] where
 is:K->Value->Prop
 hash:K->Int
 ref:∀{k:K} {v:Value},is k v->∃a,v = .ref a
 inj:∀{k k':K} {v:Value},is k v->is k' v->k=k'
 pyHash:∀{A:Around} {E:Value->Shared->Prop} {s:Shared} {k:K} {v:Value} {Q:Int->Shared->Prop},A.units<=U->Fs h0 s.heap->is k v->(∀tk,Q (hash k) { s with toks:=tk })->wpAny (model prog w) A (PySem.pyHash v) Q E s
 eqBool:∀{A:Around} {E:Value->Shared->Prop} {s:Shared} {k k':K} {v v':Value} {Q:Bool->Shared->Prop},A.units<=U->Fs h0 s.heap->is k v->is k' v'->Q (decide (k=k')) s->wpAny (model prog w) A (PySem.eqBool v v') Q E s
 seen:∀{A:Around} {E:Value->Shared->Prop} {s:Shared} {k:K} {v:Value} {ys:List Value} {Q:Bool->Shared->Prop},Fs h0 s.heap->is k v->(∀y∈ys,∃k',is k' y)->Q false s->wpAny (model prog w) A (searchCouldBeSeen v ys) Q E s
 hbv:∀{A:Around} {E:Value->Shared->Prop} {s:Shared} {k:K} {v:Value} {Q:Bool->Shared->Prop},Fs h0 s.heap->is k v->(∀b,Q b s)->wpAny (model prog w) A (hashByValue 8 v) Q E s
theorem Tbl.fits {t:SetTable}{L:SL}(T:Tbl t L){n:Nat}(h:n=L.length):t.fits n=true:=by
 unfold SetTable.fits SetTable.fill;have e:t.place.size=L.length:=by
  have:=congrArg Va T.pl
  rw [W7,WF] at this;exact this
 have hf:=T.few
 rw [T.dum,h,e]
 simpa using hf
theorem Tbl.notGave {t:SetTable}{L:SL}(T:Tbl t L):t.gaveWay=false:=by
 unfold SetTable.gaveWay;rcases T.mok with e|e<;>rw [e]<;>rfl
section
variable {prog:Program} {w:World} {h0:Heap} {U:Nat} {K:Type} [DecidableEq K] {A:Around} {E:Value->Shared->Prop} {s:Shared}
theorem HK.search (M:HK prog w h0 U K)(ext:Fs h0 s.heap)(hu:A.units<=U){S:Addr}{o:Obj}{es:Array (Int×Value)}{ep:Nat}{t:SetTable}{L:SL}(ho:s.heap.get? S=some o)(hd:o.data = .set es ep t)(T:Tbl t L)(hes:es.toList=L.map (·.2))
  (hel:∀q∈L,∃k,M.is k q.2.2/\q.2.1=M.hash k) {k:K} {x:Value} (hx:M.is k x) {C:Nat} (hC:∀q∈L,q.1≠(pth t (M.hash k) C).j) (hl:∀c',c'<C->∃q∈L,q.1=(pth t (M.hash k) c').j) (hCt:C<10*VQ t.mask) {Q:SetFound->Shared->Prop}
  (yes:(∃q∈L,M.is k q.2.2)->Q (.there none) s) :
  ∀(fuel c:Nat) (stand:Option SetTable.Probe),C-c<fuel->c<=C->stand.getD (t.probeStart (M.hash k))=pth t (M.hash k) c->
   ((∀q∈L,∀c',c<=c'->c'<C->q.1=(pth t (M.hash k) c').j->¬M.is k q.2.2)->Q (.free (pth t (M.hash k) C).j false) s)->
   wpAny (model prog w) A (setSearchFrom S x (M.hash k) true fuel stand) Q E s
 |0,c,stand,h1,_,_,_=>absurd h1 (W0U _)
 |fuel+1,c,stand,h1,h2,h3,no=>by
  have hsz:es.size=L.length:=by rw [<-WF,hes,W7]
  have hf:=T.fits hsz
  have at':∀(i:Nat) q,L[i]? = some q->es[i]? = some q.2:=λi q e=>by rw [<-Vd,hes,WE,e];rfl
  unfold setSearchFrom;refine W0 (Vp ho hd hf ?_)
  dsimp only;rw [T.notGave];simp only [WL,if_false]
  rcases T.go (M.hash k) (λi=>(es[i]?.map (·.1)).getD 0) hC hl (10*VQ t.mask) c (by omega) h2 with ⟨g1,g2⟩|⟨c',i,q,c1,c2,c3,c4,c5,g1,g2⟩
  ·have e:t.probe (λi=>(es[i]?.map (·.1)).getD 0) (M.hash k) (stand.getD (t.probeStart (M.hash k)))=some (.empty (pth t (M.hash k) C).j none):=by rw [h3];exact g1
   split
   ·rename_i met hp
    have hp:=hp.symm.trans e
    injection hp with hp
    subst hp;dsimp only;exact Wd (no λq hq c' b1 b2 b3 b4=>by
     obtain⟨i,hi⟩:=VP.mp hq
     obtain⟨k',k1,k2⟩:=hel q hq
     refine g2 c' i q b1 b2 hi b3 ?_
     rw [at' i q hi,M.inj b4 k1];exact k2)
   ·rename_i hp
    exact absurd (hp _ e) id
  ·have e:t.probe (λi=>(es[i]?.map (·.1)).getD 0) (M.hash k) (stand.getD (t.probeStart (M.hash k)))=some (.candidate (pth t (M.hash k) c').j i (pth t (M.hash k) (c'+1))):=by rw [h3];exact g1
   split
   ·rename_i met hp
    have hp:=hp.symm.trans e
    injection hp with hp
    subst hp;dsimp only;have hq:q∈L:=V4 c3
    obtain⟨k',k1,k2⟩:=hel q hq
    have body:wpAny (model prog w) A (do
      let equal <-holding [q.2.2] (PySem.eqBool q.2.2 x)
      let __x <-setState S
      if (true&&equal)=true then pure (SetFound.there none)
      else match __x.2.snd.sameMemory t.moves t.mask with
       |some same=>match if same=true then __x.2.snd.slot (pth t (M.hash k) c').j else SetTable.Slot.empty with
        |SetTable.Slot.live i'=>match __x.fst[i']? with
         |some (_,y')=>do
          let b <-isSame y' q.2.2
          let still <-pure (if b=true then some i' else none)
          match still with
           |none=>do
            rule "set.search.anew"
            setSearchFrom S x (M.hash k) true fuel none
           |some i'=>if equal=true then pure (SetFound.there (some i')) else setSearchFrom S x (M.hash k) true fuel (some (pth t (M.hash k) (c'+1)))
         |none=>do
          let still <-(pure none:Sem (Option Nat))
          match still with
           |none=>do
            rule "set.search.anew"
            setSearchFrom S x (M.hash k) true fuel none
           |some i'=>if equal=true then pure (SetFound.there (some i')) else setSearchFrom S x (M.hash k) true fuel (some (pth t (M.hash k) (c'+1)))
        |_=>do
         let still <-(pure none:Sem (Option Nat))
         match still with
          |none=>do
           rule "set.search.anew"
           setSearchFrom S x (M.hash k) true fuel none
          |some i'=>if equal=true then pure (SetFound.there (some i')) else setSearchFrom S x (M.hash k) true fuel (some (pth t (M.hash k) (c'+1)))
       |_=>unsupported "set.changed-during-lookup:is-the-new-block-at-the-old-address") Q E s:=by
     refine W0 (VD (M.eqBool hu ext k1 hx ?_))
     refine W0 (Vp ho hd hf ?_)
     dsimp only;by_cases hkk:k'=k
     ·rw [decide_eq_true hkk]
      simp only [Bool.and_self,if_true]
      exact Wd (yes ⟨q,hq,hkk ▸ k1⟩)
     ·rw [decide_eq_false hkk]
      simp only [Bool.and_false,WL,if_false]
      have hsm:t.sameMemory t.moves t.mask=some true:=by unfold SetTable.sameMemory;simp
      rw [hsm];dsimp only;rw [if_pos rfl,<-c4,T.live c3];dsimp only;rw [at' i q c3];dsimp only;obtain⟨ad,had⟩:=M.ref k1
      rw [had];refine W0 (wpAny_isSame_ref_self ?_)
      rw [if_pos rfl];refine W0 (Wd ?_)
      dsimp only;refine M.search ext hu ho hd T hes hel hx hC hl hCt yes fuel (c'+1) (some (pth t (M.hash k) (c'+1))) (by omega) (by omega) rfl λhno=>no λq' hq' c'' b1 b2 b3 b4=>?_
      by_cases z:c''<c'+1
      ·by_cases z2:c''=c'
       ·subst z2
        have:q'=q:=by
         obtain⟨i',hi'⟩:=VP.mp hq'
         have l1:=T.live hi'
         have l2:=T.live c3
         rw [b3,<-c4,l2] at l1
         injection l1 with l1
         subst l1;rw [c3] at hi'
         exact (WW hi').symm
        subst this;exact hkk (M.inj k1 b4)
       ·obtain⟨i',hi'⟩:=VP.mp hq'
        obtain⟨k2',k21,k22⟩:=hel q' hq'
        refine g2 c'' i' q' b1 (by omega) hi' b3 ?_
        rw [at' i' q' hi',M.inj b4 k21];exact k22
      ·exact hno q' hq' c'' (by omega) b2 b3 b4
    cases hled:t.led with
    |true=>
     simp only [W05,WL,if_false]
     rw [at' i q c3];exact body
    |false=>
     simp only [W1P,if_true]
     refine W0 (M.seen ext hx (λy hy=>?_) ?_)
     ·obtain⟨p,p1,rfl⟩:=WB.mp hy
      have p2:p∈es.toList:=by
       rw [Array.toList_filter] at p1;exact (Vw.mp p1).1
      rw [hes] at p2;obtain⟨q',q1,rfl⟩:=WB.mp p2
      obtain⟨k2',k21,_⟩:=hel q' q1
      exact⟨k2',k21⟩
     ·simp only [WL,if_false]
      rw [at' i q c3];exact body
   ·rename_i hp
    exact absurd (hp _ e) id
end
end L2
namespace L2
open PySem PySem.Spec PyProof.Rows
section
variable {prog:Program} {w:World} {h0:Heap} {U:Nat} {K:Type} [DecidableEq K] {A:Around} {E:Value->Shared->Prop} {s:Shared}
def Hj (M:HK prog w h0 U K)(S:Addr)(h:Heap)(vs:List Value):Prop:=
 ∃o es ep t L,h.get? S=some o/\o.ExactSet/\o.data = .set es ep t/\Tbl t L/\es.toList=L.map (·.2)/\(∀q∈L,∃k,M.is k q.2.2/\q.2.1=M.hash k)/\(t.mask=7->L.length<=4)/\(L.map (·.2.2)).Perm vs/\t.led=JP w
theorem Tbl.same {t t':SetTable}{L:SL}(T:Tbl t L)(e1:t'.mask=t.mask)(e2:t'.place=t.place)(e3:t'.dummies=t.dummies):Tbl t' L:=by
 have pm:∀h k,pth t' h k=pth t h k:=λh k=>T6 e1 h k
 refine⟨by rw [e1];exact T.mok,by rw [e3];exact T.dum,by rw [e2];exact T.pl,T.ri,λq hq=>by rw [e1];exact T.bd q hq,by rw [e1];exact T.few,λq hq=>?_⟩
 obtain⟨k,k1,k2⟩:=T.path q hq
 refine⟨k,by rw [pm];exact k1,λk' hk'=>?_⟩
 rw [pm];exact k2 k' hk'
theorem Tf {h:Heap}{a:Addr}{o:Obj}{es es':Array (Int×Value)}{ep:Nat}{t t':SetTable}(ho:h.get? a=some o)(hd:o.data = .set es ep t):(h.update a (Obj.putSet es' t')).get? a=some { o with data:=.set es' (ep+1) t' }:=by
 have:=VM (Obj.putSet es' t') ho (by rw [putSet_of es' t' hd];rfl)
 rw [putSet_of es' t' hd] at this;exact this
theorem HK.relay (M:HK prog w h0 U K){S:Addr}{o:Obj}{es:Array (Int×Value)}{ep:Nat}{t:SetTable}(ho:s.heap.get? S=some o)(hx:o.ExactSet)(hd:o.data = .set es ep t)(hf:t.fits es.size=true)(h5:es.size=5)(hled:t.led=JP w){vs:List Value}
  (hel:∀e∈es.toList,∃k,M.is k e.2/\e.1=M.hash k) (hp:(es.toList.map (·.2)).Perm vs) {Q:Unit->Shared->Prop} (q:∀h',W01 S s.heap h'->Hj M S h' vs->Q () { s with heap:=h' }) :
  wpAny (model prog w) A (setRelay S (W1Q 5)) Q E s:=by
 obtain⟨t',order,L,e1,e2,e3,e4,T,e5,e6⟩:=P0 (t:={ t with mask:=31 }) (.inr rfl) es (by rw [h5];show 5<=31;decide) t.finger (t.movedTo 31) t.led t.plain
 have hr:t.relaid (es.map (·.1)) (W1Q 5)=some (t',order):=by
  unfold SetTable.relaid;rw [show SetTable.sizeAbove (W1Q 5)-1=31 by decide]
  exact e1
 have hlen:L.length=5:=by
  have:=e6.length_eq
  rw [W7] at this;exact this.trans (WF.trans h5)
 have hsz:(order.filterMap (es[·]?)).size=5:=by rw [<-WF,e5,W7,hlen]
 unfold setRelay;refine W0 (Vp ho hd hf ?_)
 dsimp only;rw [if_neg (show ¬SetTable.sizeAbove (W1Q 5)>Wk by decide),hr]
 refine W0 (W1h (a:=(order.filterMap (es[·]?),t')) ?_ ?_)
 ·show (if ((order.filterMap (es[·]?)).size != es.size)=true then _ else _)=_
  rw [if_neg (by rw [hsz,h5];decide)]
 ·dsimp only
  refine wpAny_storeSet_of ho hd ?_ (by rw [hsz];decide)
  refine q _ (VZ _ _ _) ⟨_,_,_,t',L,Tf ho hd,hx,rfl,T,e5,λp hp'=>?_,λz=>?_,?_,e3.trans hled⟩
  ·exact hel p.2 (e6.mem_iff.mp (WB.mpr ⟨p,hp',rfl⟩))
  ·rw [e2] at z;cases z
  ·refine List.Perm.trans ?_ hp
   have:=e6.map (·.2)
   rw [WY] at this;exact this
theorem HK.adds (M:HK prog w h0 U K)(ext:Fs h0 s.heap)(hu:A.units<=U){S:Addr}{vs:List Value}{k:K}{x:Value}(hS:Hj M S s.heap vs)(few0:(∀v∈vs,¬M.is k v)->vs.length<=17)(hx:M.is k x){Q:Bool->Shared->Prop}
  (yes:∀b,(∃v∈vs,M.is k v)->Q b s) (no:∀b h',(∀v∈vs,¬M.is k v)->W01 S s.heap h'->Hj M S h' (vs++[x])->Q b { s with heap:=h' }) :
  wpAny (model prog w) A (setAddHashed S x (M.hash k)) Q E s:=by
 obtain⟨o,es,ep,t,L,ho,hex,hd,T,hes,hel,h4,hp,hled⟩:=hS
 have hsz:es.size=L.length:=by rw [<-WF,hes,W7]
 have hLv:L.length=vs.length:=by have:=hp.length_eq;rw [W7] at this;exact this
 have hf:=T.fits hsz
 obtain⟨C,C1,C2,C3⟩:=T.first (M.hash k)
 obtain⟨ad,rfl⟩:=M.ref hx
 unfold setAddHashed setAddHashedIn;refine VD (W0 (Vp ho hd hf ?_))
 dsimp only;have hbs:byScan (.ref ad) es=false:=rfl
 rw [hbs];simp only [WL,if_false]
 unfold setSearch;have mvs:(∃q∈L,M.is k q.2.2)↔∃v∈vs,M.is k v:=by
  constructor
  ·rintro⟨q,q1,q2⟩;exact⟨q.2.2,hp.mem_iff.mp (WB.mpr ⟨q,q1,rfl⟩),q2⟩
  ·rintro⟨v,v1,v2⟩
   obtain⟨q,q1,rfl⟩:=WB.mp (hp.mem_iff.mpr v1)
   exact⟨q,q1,v2⟩
 have hT:VQ t.mask<=46:=by unfold VQ;rcases T.mok with e|e<;>rw [e]<;>decide
 refine W0 (M.search ext hu ho hd T hes hel hx C2 C3 C1 (λh=>?_) 100000 0 none (by omega) (Vx _) rfl λhno=>?_)
 ·dsimp only
  exact Wd (yes _ (mvs.mp h))
 ·dsimp only
  have hnv:∀v∈vs,¬M.is k v:=λv hv hk=>by
   obtain⟨q,q1,q2⟩:=mvs.mpr ⟨v,hv,hk⟩
   obtain⟨c,c1,c2⟩:=T.path q q1
   obtain⟨k',k1,k2⟩:=hel q q1
   rw [k2,M.inj k1 q2] at c1 c2;have hcC:c<C:=by
    refine W0e λz=>?_
    rcases Nat.lt_or_ge C c with w|w
    ·obtain⟨q',a1,a2⟩:=c2 C w
     exact C2 q' a1 a2
    ·have:c=C:=by omega
     subst this;exact C2 q q1 c1.symm
   exact hno q q1 c (Vx _) hcC c1.symm q2
  have few:=few0 hnv
  refine W0 (Vp ho hd hf ?_)
  dsimp only;have hfew:L.length+1<=t.mask:=by
   rcases T.mok with e|e
   ·have:=h4 e;omega
   ·omega
  have T':=T.put (M.hash k) (.ref ad) C2 C3 hfew (by have:=P9 t (M.hash k) T.mok C;omega)
  have hmask:(t.put (pth t (M.hash k) C).j).1.mask=t.mask:=by rw [Ur T.dum]
  have hpl:(t.put (pth t (M.hash k) C).j).2=Vh t.place (pth t (M.hash k) C).j:=by rw [Ur T.dum]
  have hled':(t.put (pth t (M.hash k) C).j).1.led=JP w:=by rw [Ur T.dum];exact hled
  generalize hput:t.put (pth t (M.hash k) C).j=tp at *
  have hL':(Rn L tp.2 ((pth t (M.hash k) C).j,M.hash k,.ref ad)).length=L.length+1:=by rw [(Jj L _ _).length_eq,WC];rfl
  have hes':(VR es tp.2 (M.hash k,Value.ref ad)).toList=(Rn L tp.2 ((pth t (M.hash k) C).j,M.hash k,.ref ad)).map (·.2):=by
   rw [U3,hes];unfold Rn;simp
  have hel':∀q∈Rn L tp.2 ((pth t (M.hash k) C).j,M.hash k,.ref ad),∃k,M.is k q.2.2/\q.2.1=M.hash k:=λq hq=>by
   rcases WH.mp ((Jj L _ _).mem_iff.mp hq) with z|z
   ·exact hel q z
   ·rw [WA.mp z];exact⟨k,hx,rfl⟩
  have hp':((Rn L tp.2 ((pth t (M.hash k) C).j,M.hash k,.ref ad)).map (·.2.2)).Perm (vs++[.ref ad]):=by
   refine ((Jj L _ _).map _).trans ?_
   rw [WP];exact hp.append_right _
  have fin:∀(pl:Bool),wpAny (model prog w) A (do
    storeSet S (VR es tp.2 (M.hash k,Value.ref ad)) { tp.1 with plain:=pl }
    if (!false&&W20 { tp.1 with plain:=pl })=true then do
     setRelay S (W1Q (es.size+1))
     pure true
    else pure true) Q E s:=λpl=>by
   have T2:Tbl { tp.1 with plain:=pl } (Rn L tp.2 ((pth t (M.hash k) C).j,M.hash k,.ref ad)):=T'.same rfl rfl rfl
   have hsz':(VR es tp.2 (M.hash k,Value.ref ad)).size=L.length+1:=by rw [<-WF,hes',W7,hL']
   have hfill:SetTable.fill { tp.1 with plain:=pl }=L.length+1:=by
    unfold SetTable.fill;have e1:=congrArg Va T2.pl
    rw [W7,hL'] at e1;have e2:=T2.dum
    rw [show ({ tp.1 with plain:=pl }:SetTable).place.size=L.length+1 from WF.symm.trans e1,e2]
    rfl
   refine W0 (wpAny_storeSet_of ho hd ?_ (by rw [hsz'];exact V7 (show _<=100 by omega) (by decide)))
   have sb:=VZ s.heap S (Obj.putSet (VR es tp.2 (M.hash k,Value.ref ad)) { tp.1 with plain:=pl })
   by_cases full:W20 { tp.1 with plain:=pl }=true
   ·rw [full]
    simp only [W1P,Bool.and_self,if_true]
    have h5:L.length+1=5:=by
     unfold W20 at full;rw [hfill] at full;have full:(L.length+1)*5>=tp.1.mask*3:=of_decide_eq_true full
     rw [hmask] at full;rcases T.mok with e|e
     ·have:=h4 e;rw [e] at full;omega
     ·rw [e] at full;omega
    rw [show es.size+1=5 by omega]
    refine W0 (M.relay (vs:=vs++[.ref ad]) (o:={ o with data:=.set (VR es tp.2 (M.hash k,Value.ref ad)) (ep+1) { tp.1 with plain:=pl } }) (Tf ho hd) hex rfl (T2.fits (by rw [hsz',hL'])) (by rw [hsz'];exact h5) hled' (λe he=>?_) ?_ λh' sb' hS=>?_)
    ·rw [hes'] at he
     obtain⟨q,q1,rfl⟩:=WB.mp he
     exact hel' q q1
    ·rw [hes',WY];exact hp'
    ·exact Wd (no _ _ hnv (sb.trans sb') hS)
   ·rw [W1Z] at full
    rw [full];simp only [Bool.and_false,WL,if_false]
    refine Wd (no _ _ hnv sb ⟨_,_,_,_,_,Tf ho hd,hex,rfl,T2,hes',hel',λz=>?_,hp',hled'⟩)
    rw [hL'];unfold W20 at full;rw [hfill] at full;have full:=of_decide_eq_false full
    have z:tp.1.mask=7:=z
    have:¬(L.length+1)*5>=tp.1.mask*3:=full
    rw [z] at this;omega
  have e0:({ tp.1 with plain:=tp.1.plain }:SetTable)=tp.1:=rfl
  have f1:=fin tp.1.plain
  have f2:=fin false
  rw [e0] at f1;cases hpp:tp.1.plain with
  |true=>
   rw [if_pos rfl];refine W0 (M.hbv ext hx λb=>?_)
   cases b with
   |true=>simp only [if_true];exact f1
   |false=>simp only [WL,if_false];exact f2
  |false=>
   rw [if_neg Wy];refine W0 (Wd ?_)
   simp only [if_true]
   exact f1
def nwV (key:Nat->K)(val:Nat->Value):Nat->List Value
 |0=>[]
 |i+1=>if key i∈(W6 i).map key then nwV key val i else nwV key val i++[val i]
theorem NU (M:HK prog w h0 U K){key:Nat->K}{val:Nat->Value}:∀(i:Nat),(∀j,j<i->M.is (key j) (val j))->∀k,(∃v∈nwV key val i,M.is k v)↔k∈(W6 i).map key
 |0,_,k=>by
  unfold nwV
  constructor
  ·rintro⟨v,h,_⟩;cases h
  ·intro h;cases h
 |i+1,h,k=>by
  have ih:=NU M i (λj hj=>h j (by omega)) k
  unfold nwV;rw [List.range_succ,WP,WH,W1,We,WA,<-ih];by_cases q:key i∈(W6 i).map key
  ·rw [if_pos q]
   constructor
   ·exact λz=>.inl z
   ·rintro (z|z)
    ·exact z
    ·rw [z];exact (NU M i (λj hj=>h j (by omega)) (key i)).mpr q
  ·rw [if_neg q]
   constructor
   ·rintro⟨v,v1,v2⟩
    rcases WH.mp v1 with z|z
    ·exact .inl ⟨v,z,v2⟩
    ·rw [WA.mp z] at v2
     exact .inr (M.inj v2 (h i (W07 _)))
   ·rintro (⟨v,v1,v2⟩|z)
    ·exact⟨v,Vk _ v1,v2⟩
    ·exact⟨val i,WO _ Wp,z ▸ h i (W07 _)⟩
theorem RP {M:HK prog w h0 U K}{S:Addr}{vs:List Value}{h h':Heap}(hS:Hj M S h vs)(k:∀o,h.get? S=some o->h'.get? S=some o):Hj M S h' vs:=by
 obtain⟨o,es,ep,t,L,ho,Qn⟩:=hS
 exact⟨o,es,ep,t,L,k o ho,Qn⟩
theorem KC (M:HK prog w h0 U K){S:Addr}{h:Heap}(e:h.get? S=some { cls:=.type "set",dict:=none,data:=.set #[] 0 (.fresh 0 0 (JP w)) }):Hj M S h []:=
 ⟨_,#[],0,_,[],e,⟨rfl,rfl,rfl⟩,rfl,⟨.inl rfl,rfl,rfl,.nil,λq hq=>(by cases hq),Vx _,λq hq=>(by cases hq)⟩,rfl,λq hq=>(by cases hq),λ_=>Vx _,.nil,rfl⟩
theorem Ad {K:Type}[DecidableEq K](key:Nat->K)(val:Nat->Value){i n:Nat}(h:i<=n):(nwV key val i).length<=(nwV key val n).length:=by
 induction h with
 |refl=>exact Wq _
 |step _ ih=>
  refine V7 ih ?_
  conv=>rhs;unfold nwV
  split
  ·exact Wq _
  ·rw [WC];omega
theorem LY {l:Addr}{items:Array Value}{Q:Value->Shared->Prop}(M:HK prog w s.heap U K)(key:Nat->K)(val:Nat->Value)(hh:A.handled=none)(hU:A.units+20<=U)(hl:s.heap.IsList l items)
  (hv:∀i v,items[i]? = some v->v=val i/\M.is (key i) v) (hn:(nwV key val items.size).length<=18)
  (h:∀h' tk,Hj M s.heap.objs.size h' (nwV key val items.size)->(∀b o,b<s.heap.objs.size->s.heap.get? b=some o->h'.get? b=some o)->Q (.ref s.heap.objs.size) { s with heap:=h',toks:=tk }) :
  wpAny (model prog w) A (call (.type "set") [.ref l]) Q E s:=by
 have hk:∀j,j<items.size->M.is (key j) (val j):=λj hj=>by
  obtain⟨e,q⟩:=hv j items[j] (WD hj)
  rw [<-e];exact q
 refine LZ (J:=λi h=>i<=items.size->Fs s.heap h/\Hj M s.heap.objs.size h (nwV key val i)) hh hl (λi h h' hj k hi=>?_) (λh k e _=>⟨k,KC M e⟩) (λB hB _=>?_) λh' tk hj k=>h h' tk (hj (Wq _)).2 k
 ·obtain⟨h1,h2⟩:=hj hi
  refine⟨λb o e=>k b o ?_ (h1 b o e),RP h2 λo e=>k _ o ?_ e⟩
  ·simp only [Wv,WX,or_false]
   exact WG (W10 (Wt e))
  ·simp only [Wv,WX,or_false]
   exact WG (W07 _)
 ·intro i v s1 E1 Q1 hp hj out
  have hi:i<items.size:=(Vn.mp hp).1
  obtain⟨ext,hS⟩:=hj (W2k hi)
  obtain⟨e,hx⟩:=hv i v hp
  unfold setAdd;refine VD (W0 (M.pyHash (by omega) ext hx λtk=>?_))
  have hmem:=NU M (key:=key) (val:=val) i (λj hj=>hk j (by omega)) (key i)
  refine M.adds (s:={ s1 with toks:=tk }) ext (by omega) hS (λhno=>by
   have h1:nwV key val (i+1)=nwV key val i++[val i]:=if_neg λz=>by
    obtain⟨v',v1,v2⟩:=hmem.mpr z
    exact hno v' v1 v2
   have h2:=Ad key val (show i+1<=items.size from hi)
   rw [h1,WC,W0g] at h2;omega) hx (λb hy=>?_) λb h' hno sb hS'=>?_
  ·refine out b s1.heap tk (W01.refl _ _) λ_=>⟨ext,?_⟩
   have:nwV key val (i+1)=nwV key val i:=if_pos (hmem.mp hy)
   rw [this];exact hS
  ·refine out b h' tk sb λ_=>⟨λb o e=>(sb.2 b (WG (Wt e))).trans (ext b o e),?_⟩
   have:nwV key val (i+1)=nwV key val i++[val i]:=if_neg λz=>by
    obtain⟨v',v1,v2⟩:=hmem.mpr z
    exact hno v' v1 v2
   rw [this,<-e];exact hS'
end
end L2
namespace L2
open PySem PySem.Spec PyProof.Rows
theorem Bq {M:Model}{A:Around}{E:Value->Shared->Prop}{s:Shared}{src:Source}{n:Nat}{Q:Nat->Shared->Prop}(hn:n≠0)(h:∀k d',k<n->Q k { s with drawn:=d' }):wpAny M A (choose src n) Q E s:=
 λ_ _ _=>⟨hn,h _ _ (W2B _ (Nat.pos_of_ne_zero hn))⟩
theorem Gx {α:Type}{l:List α}{k:Nat}(hk:k<l.length):(l[k] :: l.eraseIdx k).Perm l:=by
 rw [List.eraseIdx_eq_take_drop_succ];refine List.perm_middle.symm.trans ?_
 rw [List.getElem_cons_drop hk,W1W]
theorem Ue {M:Model}{A:Around}{E:Value->Shared->Prop}{α:Type}:∀(n:Nat) (xs:List α) {s:Shared} {Q:List α->Shared->Prop},n=xs.length->(∀ys d',ys.Perm xs->Q ys { s with drawn:=d' })->wpAny M A (drawOrder n xs) Q E s
 |0,xs,s,Q,hn,h=>by
  have:xs=[]:=W0L.mp hn.symm
  subst this;unfold drawOrder;exact Wd (h [] s.drawn .nil)
 |n+1,[],s,Q,hn,h=>by cases hn
 |n+1,x :: xs,s,Q,hn,h=>by
  unfold drawOrder;refine W0 (Bq (by rw [<-hn];omega) λk d' hk=>?_)
  have hg:(x :: xs)[k]? = some (x :: xs)[k]:=Wl hk
  rw [hg];dsimp only;refine W0 (Ue n ((x :: xs).eraseIdx k) (by rw [W2j hk];omega) λys d'' p=>?_)
  refine Wd (h _ _ ?_)
  refine (List.Perm.cons _ p).trans ?_
  exact Gx hk
theorem Ph {α:Type}(next:Nat->Nat):∀(fuel k:Nat) (left:List α) (out:Array α),fuel=left.length->(pickOrder.go next fuel k left out).toList.Perm (out.toList++left)
 |0,k,left,out,h=>by
  have:left=[]:=W0L.mp h.symm
  subst this;unfold pickOrder.go;rw [VL]
 |fuel+1,k,left,out,h=>by
  unfold pickOrder.go;have hk:next k%left.length<left.length:=W2B _ (by omega)
  have hg:left[next k%left.length]? = some left[next k%left.length]:=Wl hk
  rw [hg];dsimp only;refine (Ph next fuel (k+1) (left.eraseIdx (next k%left.length)) _ (by rw [W2j hk];omega)).trans ?_
  rw [Array.toList_push,WN];exact List.Perm.append_left _ (Gx hk)
theorem Pg {α:Type}(next:Nat->Nat)(xs:Array α):(pickOrder next xs).toList.Perm xs.toList:=by
 have:=Ph next xs.size 0 xs.toList #[] (WF).symm
 show (pickOrder.go next xs.size 0 xs.toList #[]).toList.Perm xs.toList
 simpa using this
theorem Ga:entryFor table "set.__iter__" = some Builtin.«frozenset.__iter__»:=
 entryFor_alias (id':="frozenset.__iter__") (by kernel_rfl) rfl (by decide +kernel) (by kernel_rfl)
theorem Y2:Slot "set_iterator" "__next__" "set_iterator.__next__":=
 Slot.of (owner:="set_iterator") (n:="__next__") (by rw [typeLookup_type,W1U];kernel_rfl) (by decide +kernel) (by decide +kernel) (by decide +kernel) (by first|exact .inl (by decide +kernel)|exact .inr (by decide +kernel)) (by rw [isSubtype_type];kernel_rfl)
theorem Jc:Slot "set_iterator" "__iter__" "set_iterator.__iter__":=
 Slot.of (owner:="set_iterator") (n:="__iter__") (by rw [typeLookup_type,W1U];kernel_rfl) (by decide +kernel) (by decide +kernel) (by decide +kernel) (by first|exact .inl (by decide +kernel)|exact .inr (by decide +kernel)) (by rw [isSubtype_type];kernel_rfl)
theorem J0:entryFor table "set_iterator.__next__" = some Builtin.«set_iterator.__next__»:=entryFor_of_tree (by kernel_rfl)
theorem Jp (a:Value):argsOk "set_iterator.__next__" ⟨[a],[]⟩:=by unfold argsOk;kernel_rfl
inductive SetGo (w:World) (S:Addr) (es:Array (Int×Value)) (ep:Nat) (t:SetTable) (h:Heap):List Value->Nat->Value->Prop
 |text (i:Nat):w.params.followText "set-order" = true->SetGo w S es ep t h ((pickOrder (w.params.setOrder S ep) es).toList.map (·.2)) i (rawInt 0)
 |drawn (i:Nat) (a:Addr) (ps:List Nat):w.params.followText "set-order" = false->ps.Perm (W6 es.size)->h.IsTuple a ((ps.map λ(k:Nat)=>rawInt k).toArray)->SetGo w S es ep t h (ps.map λk=>((es[k]?).map (·.2)).getD .none) i (.ref a)
 |places (i slot:Nat):w.params.followText "set-order" = false->(!t.plain&&decide (es.size>1))=false->Vh t.place slot=i->SetGo w S es ep t h (es.toList.map (·.2)) i (rawInt slot)
section
variable {prog:Program} {w:World} {A:Around} {E:Value->Shared->Prop} {s:Shared}
theorem Av {S:Addr}{o:Obj}{es:Array (Int×Value)}{ep:Nat}{t:SetTable}{Q:Value->Shared->Prop}(ho:s.heap.get? S=some o)(hx:o.ExactSet)(hd:o.data = .set es ep t)(hf:t.fits es.size=true)(hz:es.size<=Wk)(hp:Vh t.place 0=0)
  (h:∀ord f h1 d',(∀b ob,s.heap.get? b=some ob->h1.get? b=some ob)->SetGo w S es ep t h1 ord 0 f->Q (.ref h1.objs.size) { s with heap:=h1.push { cls:=.type "set_iterator",data:=.fields #[f,rawInt 0,.ref S,rawInt es.size,rawInt ep] },drawn:=d' }) :
  wpAny (model prog w) A (pyIter (.ref S)) Q E s:=by
 have hT:s.TypeIs (.ref S) "set":=⟨o,ho,hx.1⟩
 refine W2A hT F.slot_set_iter (Vv F.slot_set_iter hT Ga ?_ (F.args_set_iter_1 _))
 unfold Builtin.«frozenset.__iter__» Builtin.Frozenset.slot0 slotArgs
 simp only [List.isEmpty_nil,W05,WL,↓reduceIte,bind_assoc,W1u,bne_self_eq_false]
 unfold Builtin.Frozenset.addrOf Builtin.Frozenset.sizeOf;refine W0 (Wd ?_)
 dsimp only;refine W0 (Wd ?_)
 refine W0 (W0 (W2e ho hd hf (Wd ?_)))
 have fin:∀(f:Value) (h1:Heap) (d':Drawn) (ord:List Value),(∀b ob,s.heap.get? b=some ob->h1.get? b=some ob)->SetGo w S es ep t h1 ord 0 f->
   wpAny (model prog w) A.in1 (do
    let e <-setEpoch S
    let v <-newFields "set_iterator" [f,rawInt 0,Value.ref S,rawInt (es.size:Nat),rawInt (e:Nat)]
    ret v) (λfin s'=>∃v,fin=Fin.done (Flow.ret v)/\∃T' r,s'.TypeIs v T'/\typeLookup (Value.type T') (Wx "__next__")=pure (some r)/\Q v s') E { s with heap:=h1,drawn:=d' }:=λf h1 d' ord k g=>by
  refine W0 (wpAny_setEpoch_of (s:={ s with heap:=h1,drawn:=d' }) (k _ _ ho) hd hf ?_)
  refine W0 (Vy ?_)
  exact Wd ⟨_,rfl, "set_iterator",_,⟨_,Ws _ rfl,rfl⟩,Y2.lookup,h ord f h1 d' k g⟩
 unfold setDrawn;refine W0 (W0 (Vp ho hd hf ?_))
 unfold setsByText;refine W0 (W0 (VY (Wd ?_)))
 refine Wd ?_
 show wpAny _ _ (if (!w.params.followText "set-order" && (!t.plain&&decide (es.size>1)))=true then _ else _) _ _ s
 cases bt:w.params.followText "set-order" with
 |true=>
  rw [if_neg (by simp)]
  exact W0 (Wd (fin (rawInt 0) s.heap s.drawn _ (λ_ _ e=>e) (.text 0 bt)))
 |false=>
  cases dr:(!t.plain&&decide (es.size>1)) with
  |true=>
   rw [if_pos (by simp)]
   refine W0 (Ue _ _ (by simp) λys d' p=>?_)
   have hl:ys.length<=Wk:=by rw [p.length_eq,V5];exact hz
   refine W0 (m:=newTuple _) (Vy ?_ (by show (W0i _).size<=_;rw [Wo,W7];exact hl))
   exact fin (.ref s.heap.objs.size) _ d' _ (λ_ _ e=>Wj _ e) (.drawn 0 _ ys bt p ⟨_,Ws _ rfl,rfl,_,rfl⟩)
  |false=>
   rw [if_neg (by simp)]
   exact W0 (Wd (fin (rawInt 0) s.heap s.drawn _ (λ_ _ e=>e) (.places 0 0 bt dr hp)))
theorem Rf {xs:Array Nat}(hs:AZ xs){i j:Nat}(h:xs[i]? = some j):Vh xs (j+1)=i+1:=by
 obtain⟨h1,h2,h3⟩:=JB hs (j+1)
 have a:i<Vh xs (j+1):=by
  refine Nat.lt_of_not_le λz=>?_
  have:=h2 i j z h
  omega
 refine Nat.le_antisymm (W0N λz=>?_) a
 have hb:i+1<xs.size:=by omega
 obtain⟨x,hx⟩:∃x,xs[i+1]? = some x:=⟨_,WD hb⟩
 have b1:=h1 (i+1) x z hx
 have b2:=hs i (i+1) j x (by omega) h hx
 omega
theorem Re {xs:Array Nat}(hs:AZ xs):Vh xs 0=0:=by
 obtain⟨h1,_,h3⟩:=JB hs 0
 refine Nat.eq_zero_of_not_pos λz=>?_
 have hb:0<xs.size:=by omega
 have:=h1 0 _ z (WD hb)
 omega
theorem SetGo.keep {w:World}{S I:Addr}{es:Array (Int×Value)}{ep:Nat}{t:SetTable}{h h':Heap}{ord:List Value}{i:Nat}{f:Value}{ob:Obj}(hI:h.get? I=some ob)(hc:ob.cls≠.type "tuple")(sb:∀b o,b≠I->h.get? b=some o->h'.get? b=some o)(g:SetGo w S es ep t h ord i f):SetGo w S es ep t h' ord i f:=by
 cases g with
 |text _ bt=>exact .text i bt
 |drawn _ a ps bt p ht=>
  obtain⟨o,o1,o2,o3⟩:=ht
  have:a≠I:=λz=>by
   rw [z,hI] at o1;cases o1;exact hc o2
  exact .drawn i a ps bt p ⟨o,sb a o this o1,o2,o3⟩
 |places _ slot bt dr b=>exact .places i slot bt dr b
def Z1t (w:World)(S I:Addr)(es:Array (Int×Value))(ep:Nat)(t:SetTable)(ord:List Value)(i:Nat)(h:Heap):Prop:=
 ∃f,h.get? I=some { cls:=.type "set_iterator",data:=.fields #[f,rawInt i,.ref S,rawInt es.size,rawInt ep] }/\SetGo w S es ep t h ord i f
theorem NR {S:Addr}{es:Array (Int×Value)}{ep:Nat}{t:SetTable}{h:Heap}{ord:List Value}{i:Nat}{f:Value}(g:SetGo w S es ep t h ord i f):ord.Perm (es.toList.map (·.2)):=by
 cases g with
 |text _ bt=>exact (Pg _ es).map _
 |drawn _ a ps bt p ht=>
  have h1:=p.map λk=>((es[k]?).map (·.2)).getD Value.none
  refine h1.trans ?_
  have:(W6 es.size).map (λk=>((es[k]?).map (·.2)).getD Value.none)=es.toList.map (·.2):=by
   refine W2E λi=>?_
   by_cases q:i<es.size
   ·simp [q]
   ·simp [q]
  rw [this]
 |places _ slot bt dr b=>exact .refl _
theorem Ps {S I:Addr}{o:Obj}{es:Array (Int×Value)}{ep:Nat}{t:SetTable}{ord:List Value}{i:Nat}{f:Value}{Q:Option Value->Shared->Prop}(ho:s.heap.get? S=some o)(hd:o.data = .set es ep t)(hf:t.fits es.size=true)(hr:AZ t.place)(hled:t.led=JP w)(hpl:t.place.size=es.size)
  (hI:s.heap.get? I=some { cls:=.type "set_iterator",data:=.fields #[f,rawInt i,.ref S,rawInt es.size,rawInt ep] }) (g:SetGo w S es ep t s.heap ord i f) (hi:i<es.size)
  (h:∀v h' f',ord[i]? = some v->h'.get? I=some { cls:=.type "set_iterator",data:=.fields #[f',rawInt ((i+1:Nat):Int),.ref S,rawInt es.size,rawInt ep] }->SetGo w S es ep t h' ord (i+1) f'->(∀a,f' = .ref a->f = .ref a)->W01 I s.heap h'->Q (some v) { s with heap:=h' }) :
  wpAny (model prog w) A (pyNext (.ref I)) Q E s:=by
 have hT:s.TypeIs (.ref I) "set_iterator":=⟨_,hI,rfl⟩
 have hol:ord.length=es.size:=by
  have:=(NR g).length_eq
  rw [W7] at this;exact this.trans WF
 obtain⟨v,hv⟩:∃v,ord[i]? = some v:=⟨_,Wl (by omega)⟩
 unfold pyNext;refine W0 (W1y (Vq (name:=Wx "__next__") hT Y2 (Vv Y2 hT J0 ?_ (Jp _))))
 unfold Builtin.«set_iterator.__next__» slotArgs
 simp only [List.isEmpty_nil,W05,WL,↓reduceIte,bind_assoc,W1u,bne_self_eq_false]
 refine W0 (Wd ?_)
 refine W0 (W18 hI rfl ?_)
 dsimp only;refine W0 (W2e ho hd hf ?_)
 have hne:¬(((es.size:Nat):Int) != ((es.size:Nat):Int))=true:=by simp
 rw [if_neg hne];have clsne:(Value.type "set_iterator")≠.type "tuple":=by decide
 cases g with
 |text _ bt=>
  dsimp only [rawInt];unfold setNext;refine W0 (W0 (Vp ho hd hf ?_))
  dsimp only;unfold setsByText;refine W0 (W0 (VY (Wd ?_)))
  show wpAny _ _ (if w.params.followText "set-order" = true then _ else _) _ _ s
  rw [if_pos bt,if_neg (by simp)]
  unfold setWalk;refine W0 (W0 (Vp ho hd hf ?_))
  dsimp only;unfold setsByText;refine W0 (W0 (VY (Wd ?_)))
  show wpAny _ _ (if w.params.followText "set-order" = true then _ else _) _ _ s
  rw [if_pos bt];refine W0 (VY (Wd (Wd ?_)))
  obtain⟨e,he,rfl⟩:∃e,(pickOrder (w.params.setOrder S ep) es)[i]? = some e/\e.2=v:=by
   rw [WE,Vd] at hv;exact Wi.mp hv
  have he':(pickOrder ((model prog w).w.params.setOrder S ep) es)[((i:Nat):Int).toNat]? = some e:=by rw [VH];exact he
  dsimp only;rw [he'];dsimp only [W3];refine W0 (Vb hI (by simp) λh1 g1 s1=>?_)
  refine W0 (Vb g1 (by simp) λh2 g2 s2=>?_)
  exact Wd ⟨_,rfl,Wd (h _ h2 _ hv g2 (.text (i+1) bt) (λa z=>by cases z) (s1.trans s2))⟩
 |drawn _ a ps bt p ht=>
  dsimp only;obtain⟨oa,oa1,oa2,m,oa3⟩:=id ht
  refine W0 (Vm oa1 oa3 ?_)
  dsimp only;obtain⟨k,hk⟩:∃k,ps[i]? = some k:=⟨_,Wl (by rw [p.length_eq,V5];exact hi)⟩
  have hk2:((ps.map λ(k:Nat)=>rawInt k).toArray)[((i:Nat):Int).toNat]? = some (rawInt k):=by
   rw [VH,W1T,WE,hk];rfl
  rw [hk2];dsimp only [rawInt];have hkz:k<es.size:=Vf.mp (p.mem_iff.mp (V4 hk))
  unfold setNextDrawn;refine W0 (W0 (Vp ho hd hf ?_))
  dsimp only;rw [if_neg (by simp)]
  have he:es[((k:Nat):Int).toNat]? = some es[k]:=by rw [VH];exact WD hkz
  rw [he];dsimp only;refine Wd ?_
  have hv':v=es[k].2:=by
   rw [WE,hk,W3,WD hkz] at hv;exact (WW hv).symm
  refine W0 (Vb hI (by simp) λh1 g1 s1=>?_)
  refine Wd ⟨_,rfl,Wd ?_⟩
  rw [<-hv'];exact h v h1 _ hv g1 (SetGo.keep (I:=I) hI clsne (λb o hb e=>(s1.2 b hb).trans e) (.drawn (i+1) a ps bt p ht)) (λ_ z=>z) s1
 |places _ slot bt dr b=>
  dsimp only [rawInt];unfold setNext;refine W0 (W0 (Vp ho hd hf ?_))
  dsimp only;unfold setsByText;refine W0 (W0 (VY (Wd ?_)))
  show wpAny _ _ (if w.params.followText "set-order" = true then _ else _) _ _ s
  rw [if_neg (by rw [bt];exact Wy)]
  show wpAny _ _ (if (!t.plain&&decide (es.size>1))=true then _ else _) _ _ s
  rw [if_neg (by rw [dr];exact Wy)]
  have hl1:(!t.led && !es.isEmpty)=false:=by
   have:t.led=true:=by rw [hled];unfold JP;rw [bt];rfl
   rw [this];rfl
  refine W0 (W1h (a:=()) ?_ (Wd ?_))
  ·show (if (!t.led && !es.isEmpty)=true then _ else _)=_
   rw [if_neg (by rw [hl1];exact Wy)]
  ·have hj:t.place[i]? = some t.place[i]:=WD (by omega)
   have he:es[i]? = some es[i]:=WD hi
   have hv':v=es[i].2:=by
    rw [WE,Vd,he] at hv;exact (WW hv).symm
   rw [VH,b,he,hj];dsimp only;refine W0 (Vb hI (by simp) λh1 g1 s1=>?_)
   refine W0 (Vb g1 (by simp) λh2 g2 s2=>?_)
   refine Wd ⟨_,rfl,Wd ?_⟩
   rw [<-hv'];exact h v h2 _ hv g2 (.places (i+1) (t.place[i]+1) bt dr (Rf hr hj)) (λa z=>by cases z) (s1.trans s2)
theorem Ul {A:Around}{Q:Option Value->Shared->Prop}{s0:Shared}{I:Addr}(hh:A.handled=none)(k:∀b o,b≠I->s0.heap.get? b=some o->s.heap.get? b=some o)(hg:s={ s0 with heap:=s.heap })(h:∀h',(∀b o,b≠I->s0.heap.get? b=some o->h'.get? b=some o)->Q none { s0 with heap:=h' }){P:Fin->Shared->Prop} :
  wpAny (model prog w) A.in1 (newExc (.type "StopIteration") [] >>= λe=>raiseNew e) P (λe s'=>wpAny (model prog w) A (do
   let b <-isInstance e (Value.type "StopIteration")
   if b=true then pure none else throw e) Q E s') s:=by
 refine W0 ?_
 simp only [newExc,newTuple]
 refine W0 (Vy ?_ (by size_fits))
 refine W0 (m:=firstArgMember _ _) (W1h (a:=Value.none) (by first|rfl|(simp only [firstArgMember];rfl)) (Vy ?_ (by size_fits)))
 simp only [raiseNew]
 refine W0 (wpAny_handled ?_)
 rw [show A.in1.handled=none from hh];refine W0 (Wd (wpAny_throw ?_))
 refine W0 (W1e (T:="StopIteration") (b:=true) ⟨_,Ws _ rfl,rfl⟩ isSubtype_stop ?_)
 refine Wd ?_
 rw [hg];exact h _ λb o hb e=>Wj _ (Wj _ (k b o hb e))
theorem Pt {S I:Addr}{o:Obj}{es:Array (Int×Value)}{ep:Nat}{t:SetTable}{ord:List Value}{Q:Option Value->Shared->Prop}(hh:A.handled=none)(ho:s.heap.get? S=some o)(hd:o.data = .set es ep t)(hf:t.fits es.size=true)(hled:t.led=JP w)
  (hit:Z1t w S I es ep t ord es.size s.heap) (h:∀h',(∀b o,b≠I->s.heap.get? b=some o->h'.get? b=some o)->Q none { s with heap:=h' }) :
  wpAny (model prog w) A (pyNext (.ref I)) Q E s:=by
 obtain⟨f,hI,g⟩:=hit
 have hT:s.TypeIs (.ref I) "set_iterator":=⟨_,hI,rfl⟩
 have hol:ord.length=es.size:=by
  have:=(NR g).length_eq
  rw [W7] at this;exact this.trans WF
 unfold pyNext;refine W0 (W1y (Vq (name:=Wx "__next__") hT Y2 (Vv Y2 hT J0 ?_ (Jp _))))
 unfold Builtin.«set_iterator.__next__» slotArgs
 simp only [List.isEmpty_nil,W05,WL,↓reduceIte,bind_assoc,W1u,bne_self_eq_false]
 refine W0 (Wd ?_)
 refine W0 (W18 hI rfl ?_)
 dsimp only;refine W0 (W2e ho hd hf ?_)
 have hne:¬(((es.size:Nat):Int) != ((es.size:Nat):Int))=true:=by simp
 rw [if_neg hne];cases g with
 |text _ bt=>
  dsimp only [rawInt];unfold setNext;refine W0 (W0 (Vp ho hd hf ?_))
  dsimp only;unfold setsByText;refine W0 (W0 (VY (Wd ?_)))
  show wpAny _ _ (if w.params.followText "set-order" = true then _ else _) _ _ s
  rw [if_pos bt,if_neg (by simp)]
  unfold setWalk;refine W0 (W0 (Vp ho hd hf ?_))
  dsimp only;unfold setsByText;refine W0 (W0 (VY (Wd ?_)))
  show wpAny _ _ (if w.params.followText "set-order" = true then _ else _) _ _ s
  rw [if_pos bt];refine W0 (VY (Wd (Wd ?_)))
  have he':(pickOrder ((model prog w).w.params.setOrder S ep) es)[((es.size:Nat):Int).toNat]? = none:=by
   rw [VH];refine W0x ?_
   rw [W7,WF] at hol;exact Nat.le_of_eq hol
  dsimp only;rw [he'];dsimp only [Option.map_none];refine W0 (Vb hI (by simp) λh1 g1 s1=>?_)
  exact Ul (I:=I) hh (λb o hb e=>(s1.2 b hb).trans e) rfl h
 |drawn _ a ps bt p ht=>
  dsimp only;obtain⟨oa,oa1,oa2,m,oa3⟩:=id ht
  refine W0 (Vm oa1 oa3 ?_)
  dsimp only;have hk2:((ps.map λ(k:Nat)=>rawInt k).toArray)[((es.size:Nat):Int).toNat]? = none:=by
   rw [VH];refine W0x ?_
   rw [Wo,W7,p.length_eq,V5];exact Wq _
  rw [hk2];dsimp only;refine W0 (Vb hI (by simp) λh1 g1 s1=>?_)
  refine W0 (Vb g1 (by simp) λh2 g2 s2=>?_)
  exact Ul (I:=I) hh (λb o hb e=>(s2.2 b hb).trans ((s1.2 b hb).trans e)) rfl h
 |places _ slot bt dr b=>
  dsimp only [rawInt];unfold setNext;refine W0 (W0 (Vp ho hd hf ?_))
  dsimp only;unfold setsByText;refine W0 (W0 (VY (Wd ?_)))
  show wpAny _ _ (if w.params.followText "set-order" = true then _ else _) _ _ s
  rw [if_neg (by rw [bt];exact Wy)]
  show wpAny _ _ (if (!t.plain&&decide (es.size>1))=true then _ else _) _ _ s
  rw [if_neg (by rw [dr];exact Wy)]
  have hl1:(!t.led && !es.isEmpty)=false:=by
   have:t.led=true:=by rw [hled];unfold JP;rw [bt];rfl
   rw [this];rfl
  refine W0 (W1h (a:=()) ?_ (Wd ?_))
  ·show (if (!t.led && !es.isEmpty)=true then _ else _)=_
   rw [if_neg (by rw [hl1];exact Wy)]
  ·have he:es[es.size]? = none:=W0x (Wq _)
   rw [VH,b,he];dsimp only;refine W0 (Vb hI (by simp) λh1 g1 s1=>?_)
   exact Ul (I:=I) hh (λb o hb e=>(s1.2 b hb).trans e) rfl h
end
end L2
namespace L2
open PySem PySem.Spec PyProof.Rows
theorem T3:entryFor table "set_iterator.__iter__" = some Builtin.«dict_keyiterator.__iter__»:=
 entryFor_alias (id':="dict_keyiterator.__iter__") (by kernel_rfl) rfl (by decide +kernel) (by kernel_rfl)
theorem TZ (a:Value):argsOk "set_iterator.__iter__" ⟨[a],[]⟩:=by unfold argsOk;kernel_rfl
def Z1q:Value->List Addr
 | .ref a=>[a]
 |_=>[]
theorem SetGo.frame {w:World}{S:Addr}{es:Array (Int×Value)}{ep:Nat}{t:SetTable}{h h':Heap}{ord:List Value}{i:Nat}{f:Value}(k:∀a ob,h.get? a=some ob->ob.cls = .type "tuple"->h'.get? a=some ob)(g:SetGo w S es ep t h ord i f):SetGo w S es ep t h' ord i f:=by
 cases g with
 |text _ bt=>exact .text i bt
 |drawn _ a ps bt p ht=>
  obtain⟨o,o1,o2,o3⟩:=ht
  exact .drawn i a ps bt p ⟨o,k a o o1 o2,o2,o3⟩
 |places _ slot bt dr b=>exact .places i slot bt dr b
section
variable {prog:Program} {w:World} {A:Around}
theorem Ry {S I:Addr}{o:Obj}{es:Array (Int×Value)}{ep:Nat}{t:SetTable}{ord:List Value}{xs:List Addr}(hh:A.handled=none)(hd:o.data = .set es ep t)(hf:t.fits es.size=true)(hr:AZ t.place)(hled:t.led=JP w)(hpl:t.place.size=es.size)(hSI:S≠I) :
  Walks prog w A I ([I,S]++xs) [I] es.size (λi v=>ord[i]? = some v) (λi h=>∃f,h.get? I=some { cls:=.type "set_iterator",data:=.fields #[f,rawInt i,.ref S,rawInt es.size,rawInt ep] }/\SetGo w S es ep t h ord i f/\(∀a,f = .ref a->a∈xs)/\h.get? S=some o) where
 sub:=λb hb=>by
  rw [WA.mp hb];simp
 frame:=λi h h' st k=>by
  obtain⟨f,f1,f2,f3,f4⟩:=st
  refine⟨f,k I (by simp) _ f1,?_,f3,k S (by simp) _ f4⟩
  cases f2 with
  |text _ bt=>exact .text i bt
  |drawn _ a ps bt p ht=>
   obtain⟨o,o1,o2,o3⟩:=ht
   exact .drawn i a ps bt p ⟨o,k a (by simp [f3 a rfl]) o o1,o2,o3⟩
  |places _ slot bt dr b=>exact .places i slot bt dr b
 item:=λi s Q E hi st out=>by
  obtain⟨f,f1,f2,f3,f4⟩:=st
  refine Ps f4 hd hf hr hled hpl f1 f2 hi λv h' f' hv g1 g2 same sb=>?_
  exact out v h' s.toks hv ⟨f',g1,g2,λa ha=>f3 a (same a ha),(sb.2 S hSI).trans f4⟩ λb ob hb e=>(sb.2 b (λz=>hb (by simp [z]))).trans e
 done:=λs Q E st out=>by
  obtain⟨f,f1,f2,f3,f4⟩:=st
  exact Pt hh f4 hd hf hled ⟨f,f1,f2⟩ λh' k=>out h' s.toks λb ob hb e=>k b ob (λz=>hb (by simp [z])) e
 self:=λi s Q E st out=>by
  obtain⟨f,f1,f2,f3,f4⟩:=st
  have hT:s.TypeIs (.ref I) "set_iterator":=⟨_,f1,rfl⟩
  refine W2A hT Jc (Vv Jc hT T3 ?_ (TZ _))
  show wpAny _ _ (ret (.ref I)) _ _ s
  exact Wd ⟨_,rfl, "set_iterator",_,hT,Y2.lookup,out⟩
theorem Ay {E:Value->Shared->Prop}{s:Shared}{S:Addr}{Q:Bool->Shared->Prop}(hT:s.TypeIs (.ref S) "set")(q:Q false s):wpAny (model prog w) A (W2f (.ref S)) Q E s:=by
 unfold W2f;refine W0 (W0u hT PySem.F.slot_set_len.lookup ?_)
 generalize e0:("set.__len__" : String)=id0
 wp_delta
 rw [show splitId id0=some ("set", "__len__") from by subst e0;decide +kernel]
 subst e0;refine W0 (W1e (T:="set") (b:=true) hT (by rw [isSubtype_type];kernel_rfl) ?_)
 refine wpAny_ite_split (λz=>absurd z (by decide)) (λ_=>wpAny_ite_split (λ_=>?_) (λz=>absurd (by decide +kernel) z))
 exact W0 (W2m hT (Wd q))
theorem Mi {E:Value->Shared->Prop}{s:Shared}{S:Addr}{o:Obj}{es:Array (Int×Value)}{ep:Nat}{t:SetTable}{R:List Value->Shared->Prop}(hh:A.handled=none)(ho:s.heap.get? S=some o)(hx:o.ExactSet)(hd:o.data = .set es ep t)(hf:t.fits es.size=true)(hr:AZ t.place)(hled:t.led=JP w)(hpl:t.place.size=es.size)(hz:es.size<=Wk)
  (h:∀(acc:List Value) h' tk d',acc.Perm (es.toList.map (·.2))->(∀b ob,s.heap.get? b=some ob->h'.get? b=some ob)->R acc { s with heap:=h',toks:=tk,drawn:=d' }):wpAny (model prog w) A (collect (.ref S)) R E s:=by
 unfold collect;refine W0 (wpAny_runValue (VO PySem.F.entry_proto_collect ?_))
 rw [Vl PySem.F.plain_proto_collect _];refine W0 (m:=newList []) (Vy ?_)
 refine Wd ⟨W0d PySem.F.plain_list_iadd _,VO PySem.F.entry_list_iadd ?_⟩
 rw [Vl PySem.F.plain_list_iadd _]
 generalize hH1:s.heap.push { cls:=.type "list",data:=.seq ([]:List Value).toArray }=H1
 have hS1:H1.get? s.heap.objs.size=some { cls:=.type "list",data:=.seq #[] }:=by rw [<-hH1];exact Ws _ rfl
 have k1:∀b ob,s.heap.get? b=some ob->H1.get? b=some ob:=λb ob e=>by rw [<-hH1];exact Wj _ e
 have hSl:S≠s.heap.objs.size:=WG (Wt ho)
 show wpAny _ A.in1 (W2g (.ref s.heap.objs.size) (.ref S) (.ref s.heap.objs.size)) _ _ _
 unfold W2g;have hT:Shared.TypeIs { s with heap:=H1 } (.ref S) "set":=⟨o,k1 _ _ ho,hx.1⟩
 refine W0 (W2m hT ?_)
 have h1:W2F (.ref s.heap.objs.size) (.ref S)=false:=by simp [W2F,hSl.symm]
 rw [if_neg (by rw [h1];decide)]
 refine W0 (Av (s:={ s with heap:=H1 }) (k1 _ _ ho) hx hd hf hz (Re hr) λord f h1 d' kp go=>?_)
 generalize hH2:h1.push { cls:=.type "set_iterator",data:=.fields #[f,rawInt 0,Value.ref S,rawInt (es.size:Nat),rawInt (ep:Nat)] }=H2
 have hI2:H2.get? h1.objs.size=some { cls:=.type "set_iterator",data:=.fields #[f,rawInt ((0:Nat):Int),Value.ref S,rawInt (es.size:Nat),rawInt (ep:Nat)] }:=by rw [<-hH2];exact Ws _ rfl
 have k2:∀b ob,H1.get? b=some ob->H2.get? b=some ob:=λb ob e=>by rw [<-hH2];exact Wj _ (kp b ob e)
 have go2:SetGo w S es ep t H2 ord 0 f:=by
  cases go with
  |text _ bt=>exact .text 0 bt
  |drawn _ a ps bt p ht=>
   obtain⟨oa,a1,a2,a3⟩:=ht
   exact .drawn 0 a ps bt p ⟨oa,by rw [<-hH2];exact Wj _ a1,a2,a3⟩
  |places _ slot bt dr b=>exact .places 0 slot bt dr b
 have hord:=NR go
 have hSI:S≠h1.objs.size:=WG (Wt (kp _ _ (k1 _ _ ho)))
 have hlI:s.heap.objs.size≠h1.objs.size:=WG (Wt (kp _ _ hS1))
 have haux:∀a,f = .ref a->a∈Z1q f:=λa z=>by rw [z];exact Wp
 have hlx:s.heap.objs.size∉[h1.objs.size,S]++Z1q f:=by
  simp only [List.cons_append,List.nil_append,Wv,not_or]
  refine⟨hlI,hSl.symm,λz=>?_⟩
  cases go with
  |text _ bt=>cases z
  |drawn _ a ps bt p ht=>
   obtain⟨oa,a1,a2,a3⟩:=ht
   have e:s.heap.objs.size=a:=WA.mp z
   have:=kp _ _ hS1
   rw [e,a1] at this;cases this;exact absurd a2 (by decide)
  |places _ slot bt dr b=>cases z
 have W:=Ry (prog:=prog) (A:=A.in1) (o:=o) (ord:=ord) (xs:=Z1q f) (by simpa using hh) hd hf hr hled hpl hSI
 have key:∀(H3:Heap) (c:Nat) (tk:Nat),(∀b ob,b≠s.heap.objs.size->H2.get? b=some ob->H3.get? b=some ob)->H3.get? s.heap.objs.size=some { cls:=.type "list",data:=.seq #[] c }->
   codeAny (model prog w) A (.builtin "list.extend.loop" ⟨[.ref s.heap.objs.size,.ref h1.objs.size,.ref s.heap.objs.size],[]⟩) (λr s'=>match r with
    | .ok (.ret v)=>wpAny (model prog w) A (match v with
     | .ref a=>do
      let ob <-load a
      match ob.data with
       | .seq xs _=>pure xs.toList
       |_=>unsupported "internal:collect"
     |_=>unsupported "internal:collect") R E s'
    | .ok _=>False
    | .error e=>E e s') { s with heap:=H3,toks:=tk,drawn:=d' }:=λH3 c tk k3 hl3=>by
  refine codeAny_extend_loopS W.toS hz s.heap.objs.size hlx (.ref s.heap.objs.size) es.size 0 _ #[] c rfl (Vx _) ⟨f,k3 _ _ hlI.symm hI2,SetGo.frame ?_ go2,haux,k3 _ _ hSl (k2 _ _ (k1 _ _ ho))⟩ hl3 (ItemsOf.nil _) λs' acc c' mv hl' hacc=>?_
  ·intro a oa a1 a2
   refine k3 a oa (λz=>?_) a1
   rw [z,k2 _ _ hS1] at a1;cases a1;exact absurd a2 (by decide)
  ·refine W0 (wpAny_load hl' (Wd ?_))
   rw [Moved.eq_with mv];refine h acc.toList s'.heap s'.toks d' ?_ λb ob e=>?_
   ·refine List.Perm.trans (List.Perm.of_eq ?_) hord
    have hol:ord.length=es.size:=by
     have:=hord.length_eq
     rw [W7] at this;exact this.trans WF
    refine W2E λi=>?_
    rw [Vd];by_cases q:i<acc.size
    ·have e:acc[i]? = some acc[i]:=WD q
     rw [e,hacc.2 i _ e]
    ·rw [W0x (by omega),W1X (by rw [hol,<-hacc.1];omega)]
   ·refine mv.heap b ob (λz=>?_) (k3 b ob (WG (Wt e)) (k2 b ob (k1 b ob e)))
    rcases Wv.mp z with z|z
    ·exact absurd (Wt e) (by rw [z];exact VC _)
    ·exact absurd (Wt (kp _ _ (k1 b ob e))) (by rw [WA.mp z];exact VC _)
 refine W0 (VD (Ay ⟨o,k2 _ _ (k1 _ _ ho),hx.1⟩ ?_))
 have hl2:=k2 _ _ hS1
 refine wpAny_ite_split (λ_=>?_) (λ_=>Wd ⟨W0d W2t _,key H2 _ _ (λ_ _ _ e=>e) hl2⟩)
 refine W0 (W26 (W0 ?_))
 show wpAny _ _ (updateSeq s.heap.objs.size (·.push .none) >>= λ_=>updateSeq s.heap.objs.size (·.pop)) _ _ _
 refine W0 (W1z hl2 rfl ?_)
 have hl3:=VM (Vo (·.push Value.none)) hl2 rfl
 refine W1z (hz:=by seq_fits) hl3 rfl ?_
 have hl4:=VM (Vo (·.pop)) hl3 rfl
 exact Wd ⟨W0d W2t _,key _ _ _ (λb ob hb e=>(Vu _ _ (Ne.symm hb)).trans ((Vu _ _ (Ne.symm hb)).trans e)) hl4⟩
end
end L2
namespace DL
open PySem PySem.Spec PyProof.Rows L2
inductive D where
 |non
 |bl (b:Bool)
 |int (i:Int)
 |str (x:Str)
 |tup (xs:List D)
 |ref (n:Nat)
 |scr (ns:List Int)
 deriving Inhabited
inductive Ob where
 |lst (xs:List D)
 |dct (kvs:List (D×D))
 |fdct (kvs:List (D×D))
 |ins (C:Str) (fs:List (Str×D))
 deriving Inhabited
abbrev Sto:=List Ob
abbrev En:=List (Option D)
abbrev M (α:Type):=En->Sto->Option (α×Sto)
inductive Fl where
 |nx|rt (d:D)|bk|ct
abbrev MS:=En->Sto->Option (Fl×En×Sto)
def AY (K:W8)(H:Hp)(a:Addr)(ns:List Int):Prop:=
 (∃o,H a=some (.frz o (.lst (ns.map V.int))))\/
  ∃(o:Obj) (its:Array Value) (n:Nat),K.lookup a=some o/\o.cls = .type "list"/\o.dict=none/\o.data = .seq its n/\its.size<=Wk/\ZZ (ns.map V.int) its.toList
theorem AY.seq {K:W8}{H:Hp}{a:Addr}{ns:List Int}(h:AY K H a ns):SqL K H a (ns.map V.int):=by
 rcases h with ⟨o,h⟩|h
 ·exact .inl (.inr ⟨o,h⟩)
 ·exact .inr h
mutual
def DR (K:W8)(ρ:List Addr)(H:Hp):D->V->Prop
 | .non,v=>v = .non
 | .bl b,v=>v = .bl b
 | .int i,v=>v = .int i
 | .str x,v=>v = .str x
 | .tup ds,v=>∃a xs,v = .ref a/\H a=some (.tup xs)/\DsR K ρ H ds xs
 | .ref n,v=>∃a,ρ[n]? = some a/\v = .ref a
 | .scr ns,v=>∃a,v = .ref a/\AY K H a ns
def DsR (K:W8)(ρ:List Addr)(H:Hp):List D->List V->Prop
 |[],xs=>xs=[]
 |d :: ds,xs=>∃x r,xs=x :: r/\DR K ρ H d x/\DsR K ρ H ds r
end
structure Ext (ρ:List Addr) (H:Hp) (ρ':List Addr) (H':Hp):Prop where
 pre:∀(n:Nat) a,ρ[n]? = some a->ρ'[n]? = some a
 tup:∀a xs,H a=some (.tup xs)->H' a=some (.tup xs)
 frz:∀a o u,H a=some (.frz o u)->H' a=some (.frz o u)
theorem Ext.refl {ρ:List Addr}{H:Hp}:Ext ρ H ρ H:=⟨λ_ _ h=>h,λ_ _ h=>h,λ_ _ _ h=>h⟩
theorem Ext.trans {ρ ρ1 ρ2:List Addr}{H H1 H2:Hp}(a:Ext ρ H ρ1 H1)(b:Ext ρ1 H1 ρ2 H2):Ext ρ H ρ2 H2:=
 ⟨λn x h=>b.pre n x (a.pre n x h),λx xs h=>b.tup x xs (a.tup x xs h),λx o u h=>b.frz x o u (a.frz x o u h)⟩
theorem Ext.new {ρ:List Addr}{H:Hp}{p:Addr}{o:HO}(hp:H p=none):Ext ρ H ρ (upd H p o):=
 ⟨λ_ _ h=>h,λa xs h=>by rw [Zf (Zv h hp)];exact h,λa u xs h=>by rw [Zf (Zv h hp)];exact h⟩
theorem Ext.newRef {ρ:List Addr}{H:Hp}{p:Addr}{o:HO}(hp:H p=none):Ext ρ H (ρ++[p]) (upd H p o):=
 ⟨λn a h=>by rw [V3 (Wn.mp h).1];exact h,(Ext.new (ρ:=ρ) hp).tup,(Ext.new (ρ:=ρ) hp).frz⟩
theorem Ext.upd {ρ:List Addr}{H:Hp}{p:Addr}{o o':HO}(hp:H p=some o)(h1:∀xs,o≠.tup xs)(h2:∀ob u,o≠.frz ob u):Ext ρ H ρ (L2.upd H p o'):=
 ⟨λ_ _ h=>h,λa xs h=>by rw [Zf (UW h hp (Ne.symm (h1 xs)))];exact h,λa ob u h=>by rw [Zf (UW h hp (Ne.symm (h2 ob u)))];exact h⟩
structure Ext0 (ρ:List Addr) (H:Hp) (ρ':List Addr) (H':Hp):Prop where
 pre:∀(n:Nat) a,ρ[n]? = some a->ρ'[n]? = some a
 tup:∀a xs,H a=some (.tup xs)->H' a=some (.tup xs)
 lst:∀a o xs,H a=some (.frz o (.lst xs))->H' a=some (.frz o (.lst xs))
theorem Ext.weak {ρ ρ':List Addr}{H H':Hp}(e:Ext ρ H ρ' H'):Ext0 ρ H ρ' H':=⟨e.pre,e.tup,λa o xs h=>e.frz a o _ h⟩
section
variable {K:W8} {ρ ρ':List Addr} {H H':Hp}
theorem AY.mono {a:Addr}{ns:List Int}(e:Ext0 ρ H ρ' H')(h:AY K H a ns):AY K H' a ns:=by
 rcases h with ⟨o,h⟩|h
 ·exact .inl ⟨o,e.lst _ _ _ h⟩
 ·exact .inr h
mutual
theorem DR.mono (e:Ext0 ρ H ρ' H'):∀(d:D) (v:V),DR K ρ H d v->DR K ρ' H' d v
 | .non,v,h=>by unfold DR at h ⊢;exact h
 | .bl b,v,h=>by unfold DR at h ⊢;exact h
 | .int i,v,h=>by unfold DR at h ⊢;exact h
 | .str x,v,h=>by unfold DR at h ⊢;exact h
 | .tup ds,v,h=>by
  unfold DR at h ⊢
  obtain⟨a,xs,h1,h2,h3⟩:=h
  exact⟨a,xs,h1,e.tup a xs h2,DsR.mono e ds xs h3⟩
 | .ref n,v,h=>by
  unfold DR at h ⊢
  obtain⟨a,h1,h2⟩:=h
  exact⟨a,e.pre n a h1,h2⟩
 | .scr ns,v,h=>by
  unfold DR at h ⊢
  obtain⟨a,h1,h2⟩:=h
  exact⟨a,h1,h2.mono e⟩
theorem DsR.mono (e:Ext0 ρ H ρ' H'):∀(ds:List D) (xs:List V),DsR K ρ H ds xs->DsR K ρ' H' ds xs
 |[],xs,h=>by unfold DsR at h ⊢;exact h
 |d :: ds,xs,h=>by
  unfold DsR at h ⊢
  obtain⟨x,r,h1,h2,h3⟩:=h
  exact⟨x,r,h1,DR.mono e d x h2,DsR.mono e ds r h3⟩
end
theorem DR.up {d:D}{v:V}(h:DR K ρ H d v)(e:Ext ρ H ρ' H'):DR K ρ' H' d v:=DR.mono e.weak d v h
theorem DsR.up {ds:List D}{xs:List V}(h:DsR K ρ H ds xs)(e:Ext ρ H ρ' H'):DsR K ρ' H' ds xs:=DsR.mono e.weak ds xs h
theorem DsR.nil:DsR K ρ H [] []:=by unfold DsR;rfl
theorem DsR.cons {d:D}{ds:List D}{x:V}{xs:List V}(h:DR K ρ H d x)(t:DsR K ρ H ds xs):DsR K ρ H (d :: ds) (x :: xs):=by
 unfold DsR;exact⟨x,xs,rfl,h,t⟩
theorem DsR.length:∀{ds:List D} {xs:List V},DsR K ρ H ds xs->ds.length=xs.length
 |[],xs,h=>by unfold DsR at h;subst h;rfl
 |d :: ds,xs,h=>by
  unfold DsR at h;obtain⟨x,r,h1,_,h3⟩:=h
  rw [h1,WS,WS,DsR.length h3]
theorem DsR.get:∀{ds:List D} {xs:List V} {i:Nat} {d:D},DsR K ρ H ds xs->ds[i]? = some d->∃x,xs[i]? = some x/\DR K ρ H d x
 |[],_,_,_,_,e=>by simp at e
 |c :: ds,xs,i,d,h,e=>by
  unfold DsR at h;obtain⟨x,r,h1,h2,h3⟩:=h
  subst h1;cases i with
  |zero=>simp at e;subst e;exact⟨x,rfl,h2⟩
  |succ i=>
   obtain⟨y,e1,e2⟩:=DsR.get (i:=i) h3 (by simpa using e)
   exact⟨y,by simpa using e1,e2⟩
theorem DsR.append:∀{ds es:List D} {xs ys:List V},DsR K ρ H ds xs->DsR K ρ H es ys->DsR K ρ H (ds++es) (xs++ys)
 |[],_,xs,_,h,t=>by unfold DsR at h;subst h;exact t
 |d :: ds,_,xs,_,h,t=>by
  unfold DsR at h;obtain⟨x,r,h1,h2,h3⟩:=h
  subst h1;exact .cons h2 (DsR.append h3 t)
theorem DsR.ints:∀(ns:List Int),DsR K ρ H (ns.map D.int) (ns.map V.int)
 |[]=>.nil
 |n :: ns=>.cons (by unfold DR;rfl) (DsR.ints ns)
theorem DR.flat_int {i:Int}:DR K ρ H (.int i) (.int i):=by unfold DR;rfl
theorem DR.flat_bl {b:Bool}:DR K ρ H (.bl b) (.bl b):=by unfold DR;rfl
theorem DR.flat_str {x:Str}:DR K ρ H (.str x) (.str x):=by unfold DR;rfl
theorem DR.flat_non:DR K ρ H .non .non:=by unfold DR;rfl
theorem DR.of_int {i:Int}{v:V}(h:DR K ρ H (.int i) v):v = .int i:=by unfold DR at h;exact h
theorem DR.of_bl {b:Bool}{v:V}(h:DR K ρ H (.bl b) v):v = .bl b:=by unfold DR at h;exact h
theorem DR.of_str {x:Str}{v:V}(h:DR K ρ H (.str x) v):v = .str x:=by unfold DR at h;exact h
theorem DR.of_non {v:V}(h:DR K ρ H .non v):v = .non:=by unfold DR at h;exact h
theorem DR.of_tup {ds:List D}{v:V}(h:DR K ρ H (.tup ds) v):∃a xs,v = .ref a/\H a=some (.tup xs)/\DsR K ρ H ds xs:=by unfold DR at h;exact h
theorem DR.tup {ds:List D}{a:Addr}{xs:List V}(h:H a=some (.tup xs))(t:DsR K ρ H ds xs):DR K ρ H (.tup ds) (.ref a):=by unfold DR;exact⟨a,xs,rfl,h,t⟩
theorem DR.of_ref {n:Nat}{v:V}(h:DR K ρ H (.ref n) v):∃a,ρ[n]? = some a/\v = .ref a:=by unfold DR at h;exact h
theorem DR.ref {n:Nat}{a:Addr}(h:ρ[n]? = some a):DR K ρ H (.ref n) (.ref a):=by unfold DR;exact⟨a,h,rfl⟩
theorem DR.of_scr {ns:List Int}{v:V}(h:DR K ρ H (.scr ns) v):∃a,v = .ref a/\AY K H a ns:=by unfold DR at h;exact h
end
def QM:D->Option Key
 | .int i=>some (.inl i)
 | .str x=>some (.inr x)
 |_=>none
def PR:List D->Option (List Key)
 |[]=>some []
 |d :: ds=>(QM d).bind λk=>(PR ds).map λks=>k :: ks
def QB:D->Option (List Key)
 | .tup ds=>PR ds
 |_=>none
def kEq (a b:D):Bool:=match QM a,QM b with
 |some x,some y=>decide (x=y)
 |_,_=>match QB a,QB b with
  |some x,some y=>decide (x=y)
  |_,_=>false
def J7 (kvs:List (D×D))(k:D):Option D:=(kvs.find? λp=>kEq p.1 k).map (·.2)
def Td (kvs:List (D×D))(k v:D):List (D×D):=if (kvs.any λp=>kEq p.1 k)=true then kvs.map (λp=>if kEq p.1 k=true then (p.1,v) else p) else kvs++[(k,v)]
def Yv (kvs:List (D×D))(k:D):Bool:=match QM k with
 |some _=>kvs.all λp=>(QM p.1).isSome
 |none=>match QB k with
  |some _=>kvs.all λp=>(QB p.1).isSome
  |none=>false
def Q7 (S:Sto)(n:Nat)(k:D):Option (List (D×D)):=match S[n]? with
 |some (.dct kvs)=>if Yv kvs k=true then some kvs else none
 |some (.fdct kvs)=>if (QM k).isSome=true then some kvs else none
 |_=>none
def G8 (S:Sto)(n:Nat):Bool:=match S[n]? with
 |some (.dct _)=>true
 |some (.fdct _)=>true
 |_=>false
def ObR (K:W8)(ρ:List Addr)(H:Hp)(a:Addr):Ob->Prop
 | .lst ds=>∃xs,H a=some (.lst xs)/\DsR K ρ H ds xs
 | .dct kvs=>(∃(ks:List Key) (xs:List V),H a=some (.dK (ks.zip xs))/\ks.length=xs.length/\kvs.map (λp=>QM p.1)=ks.map some/\DsR K ρ H (kvs.map (·.2)) xs)\/
   ∃(ks:List (List Key)) (xs:List V),H a=some (.dT (ks.zip xs))/\ks.length=xs.length/\kvs.map (λp=>QB p.1)=ks.map some/\DsR K ρ H (kvs.map (·.2)) xs
 | .fdct kvs=>∃(o:Obj) (ks:List Key) (xs:List V),H a=some (.frz o (.dK (ks.zip xs)))/\ks.length=xs.length/\kvs.map (λp=>QM p.1)=ks.map some/\DsR K ρ H (kvs.map (·.2)) xs
 | .ins C fs=>∃(Ca dx:Addr) (xs:List V),WT K WJ C=some (some (.ref Ca))/\H a=some (.ins Ca dx ((fs.map (·.1)).zip xs))/\DsR K ρ H (fs.map (·.2)) xs
structure StR (K:W8) (ρ:List Addr) (H:Hp) (S:Sto):Prop where
 len:ρ.length=S.length
 inj:∀(i j:Nat) a,ρ[i]? = some a->ρ[j]? = some a->i=j
 ob:∀(n:Nat) ob,S[n]? = some ob->∃a,ρ[n]? = some a/\ObR K ρ H a ob
structure EnR (K:W8) (ρ:List Addr) (H:Hp) (en:En) (σ:L2.St):Prop where
 len:en.length=σ.length
 get:∀(i:Nat) d,en[i]? = some (some d)->∃x,σ[i]? = some (some x)/\DR K ρ H d x
section
variable {K:W8} {ρ ρ':List Addr} {H H':Hp} {S:Sto} {en:En} {σ:L2.St}
theorem ObR.mono {a:Addr}{ob:Ob}(h:ObR K ρ H a ob)(e:Ext0 ρ H ρ' H')(he:H' a=H a):ObR K ρ' H' a ob:=by
 cases ob with
 |lst ds=>
  obtain⟨xs,h1,h2⟩:=h
  exact⟨xs,he.trans h1,DsR.mono e _ _ h2⟩
 |dct kvs=>
  rcases h with ⟨ks,xs,h1,h2,h3,h4⟩|⟨ks,xs,h1,h2,h3,h4⟩
  ·exact .inl ⟨ks,xs,he.trans h1,h2,h3,DsR.mono e _ _ h4⟩
  ·exact .inr ⟨ks,xs,he.trans h1,h2,h3,DsR.mono e _ _ h4⟩
 |fdct kvs=>
  obtain⟨o,ks,xs,h1,h2,h3,h4⟩:=h
  exact⟨o,ks,xs,he.trans h1,h2,h3,DsR.mono e _ _ h4⟩
 |ins C fs=>
  obtain⟨Ca,dx,xs,h1,h2,h3⟩:=h
  exact⟨Ca,dx,xs,h1,he.trans h2,DsR.mono e _ _ h3⟩
theorem ObR.there {a:Addr}{ob:Ob}(h:ObR K ρ H a ob):∃o,H a=some o:=by
 cases ob with
 |lst ds=>obtain⟨xs,h1,_⟩:=h;exact⟨_,h1⟩
 |dct kvs=>rcases h with ⟨ks,xs,h1,_⟩|⟨ks,xs,h1,_⟩<;>exact⟨_,h1⟩
 |fdct kvs=>obtain⟨o,ks,xs,h1,_⟩:=h;exact⟨_,h1⟩
 |ins C fs=>obtain⟨Ca,dx,xs,_,h1,_⟩:=h;exact⟨_,h1⟩
theorem ObR.tracked {a:Addr}{ob:Ob}(h:ObR K ρ H a ob)(hf:∀kvs,ob≠.fdct kvs):∃o,H a=some o/\(∀xs,o≠.tup xs)/\∀ob u,o≠.frz ob u:=by
 cases ob with
 |lst ds=>
  obtain⟨xs,h1,_⟩:=h
  exact⟨_,h1,λ_ z=>(nomatch z),λ_ _ z=>(nomatch z)⟩
 |dct kvs=>
  rcases h with ⟨ks,xs,h1,_⟩|⟨ks,xs,h1,_⟩
  ·exact⟨_,h1,λ_ z=>(nomatch z),λ_ _ z=>(nomatch z)⟩
  ·exact⟨_,h1,λ_ z=>(nomatch z),λ_ _ z=>(nomatch z)⟩
 |fdct kvs=>exact absurd rfl (hf kvs)
 |ins C fs=>
  obtain⟨Ca,dx,xs,_,h1,_⟩:=h
  exact⟨_,h1,λ_ z=>(nomatch z),λ_ _ z=>(nomatch z)⟩
theorem StR.obj (R:StR K ρ H S){n:Nat}{a:Addr}(h:ρ[n]? = some a):∃ob,S[n]? = some ob/\ObR K ρ H a ob:=by
 have hl:n<S.length:=by rw [<-R.len];exact (Wn.mp h).1
 obtain⟨a',h1,h2⟩:=R.ob n S[n] (Wn.mpr ⟨hl,rfl⟩)
 rw [h] at h1;cases h1
 exact⟨S[n],Wn.mpr ⟨hl,rfl⟩,h2⟩
theorem StR.mono (R:StR K ρ H S)(e:Ext0 ρ H ρ H')(he:∀(n:Nat) a,ρ[n]? = some a->H' a=H a):StR K ρ H' S:=
 ⟨R.len,R.inj,λn ob h=>by
  obtain⟨a,h1,h2⟩:=R.ob n ob h
  exact⟨a,h1,h2.mono e (he n a h1)⟩⟩
theorem StR.fresh (R:StR K ρ H S){p:Addr}(hp:H p=none):∀(n:Nat) a,ρ[n]? = some a->a≠p:=λn a h z=>by
 obtain⟨ob,_,h2⟩:=R.obj h
 obtain⟨o,h3⟩:=h2.there
 rw [z,hp] at h3;cases h3
theorem StR.new (R:StR K ρ H S){p:Addr}{o:HO}(hp:H p=none):StR K ρ (upd H p o) S:=
 R.mono (Ext.new hp).weak λn a h=>Zf (R.fresh hp n a h)
theorem StR.push (R:StR K ρ H S){p:Addr}{o:HO}{ob:Ob}(hp:H p=none)(h:ObR K (ρ++[p]) (upd H p o) p ob):StR K (ρ++[p]) (upd H p o) (S++[ob]):=by
 refine⟨by simp [R.len],λi j a h1 h2=>?_,λn ob' e=>?_⟩
 ·have key:∀(i:Nat),(ρ++[p])[i]? = some a->(i<ρ.length/\ρ[i]? = some a)\/(i=ρ.length/\a=p):=λi e=>by
   by_cases hi:i<ρ.length
   ·rw [V3 hi] at e;exact .inl ⟨hi,e⟩
   ·rw [WV (W0N hi)] at e
    have hl:=(Wn.mp e).1
    simp at hl
    have e0:i-ρ.length=0:=by omega
    rw [e0] at e;simp at e
    exact .inr ⟨by omega,e.symm⟩
  rcases key i h1 with ⟨_,q1⟩|⟨q1,r1⟩<;>rcases key j h2 with ⟨_,q2⟩|⟨q2,r2⟩
  ·exact R.inj i j a q1 q2
  ·exact absurd r2 (R.fresh hp i a q1)
  ·exact absurd r1 (R.fresh hp j a q2)
  ·rw [q1,q2]
 ·by_cases hn:n<S.length
  ·rw [V3 hn] at e
   obtain⟨a,h1,h2⟩:=R.ob n ob' e
   exact⟨a,by rw [V3 (by rw [R.len];exact hn)];exact h1,h2.mono (Ext.newRef hp).weak (Zf (R.fresh hp n a h1))⟩
  ·rw [WV (W0N hn)] at e
   have hl:=(Wn.mp e).1
   simp at hl
   have e0:n-S.length=0:=by omega
   rw [e0] at e;simp at e
   subst e;refine⟨p,?_,h⟩
   rw [WV (by rw [R.len];omega),R.len,e0]
   rfl
theorem StR.set0 (R:StR K ρ H S){n:Nat}{p:Addr}{o:HO}{ob:Ob}(hn:ρ[n]? = some p)(X:Ext0 ρ H ρ (upd H p o))(h:ObR K ρ (upd H p o) p ob):StR K ρ (upd H p o) (S.set n ob):=by
 obtain⟨ob0,e0,r0⟩:=R.obj hn
 refine⟨by simpa using R.len,R.inj,λm ob' e=>?_⟩
 by_cases hm:m=n
 ·subst hm
  rw [W0w (Wn.mp e0).1] at e;cases e;exact⟨p,hn,h⟩
 ·rw [W0m (Ne.symm hm)] at e
  obtain⟨a,h1,h2⟩:=R.ob m ob' e
  refine⟨a,h1,h2.mono X (Zf ?_)⟩
  rintro rfl
  exact hm (R.inj m n _ h1 hn)
theorem StR.set (R:StR K ρ H S){n:Nat}{p:Addr}{o:HO}{ob:Ob}(hn:ρ[n]? = some p)(hf:∀kvs,S[n]?≠some (.fdct kvs))(h:ObR K ρ (upd H p o) p ob):StR K ρ (upd H p o) (S.set n ob)/\Ext ρ H ρ (upd H p o):=by
 obtain⟨ob0,e0,r0⟩:=R.obj hn
 obtain⟨o0,t1,t2,t3⟩:=r0.tracked λkvs z=>hf kvs (by rw [e0,z])
 have X:Ext ρ H ρ (upd H p o):=Ext.upd t1 t2 t3
 exact⟨R.set0 hn X.weak h,X⟩
theorem StR.thaw (R:StR K ρ H S){n:Nat}{a:Addr}{kvs:List (D×D)}(hn:ρ[n]? = some a)(e:S[n]? = some (.fdct kvs)):∃(o:Obj) (tab:List (Key×V)),H a=some (.frz o (.dK tab))/\StR K ρ (upd H a (.dK tab)) (S.set n (.dct kvs))/\Ext0 ρ H ρ (upd H a (.dK tab)):=by
 obtain⟨ob,e1,r⟩:=R.obj hn
 rw [e] at e1;cases e1;obtain⟨o,ks,xs,h1,h2,h3,h4⟩:=r
 have X:Ext0 ρ H ρ (upd H a (.dK (ks.zip xs))):=⟨λ_ _ h=>h,λb ys hb=>by rw [Zf (UW hb h1 (λz=>nomatch z))];exact hb,λb o' ys hb=>by rw [Zf (UW hb h1 (λz=>by injection z with _ z2;cases z2))];exact hb⟩
 exact⟨o,_,h1,R.set0 hn X (.inl ⟨ks,xs,Z7,h2,h3,DsR.mono X _ _ h4⟩),X⟩
theorem EnR.up0 (E:EnR K ρ H en σ)(e:Ext0 ρ H ρ' H'):EnR K ρ' H' en σ:=⟨E.len,λi d h=>by
 obtain⟨x,h1,h2⟩:=E.get i d h
 exact⟨x,h1,DR.mono e _ _ h2⟩⟩
theorem EnR.up (E:EnR K ρ H en σ)(e:Ext ρ H ρ' H'):EnR K ρ' H' en σ:=⟨E.len,λi d h=>by
 obtain⟨x,h1,h2⟩:=E.get i d h
 exact⟨x,h1,h2.up e⟩⟩
theorem EnR.set (E:EnR K ρ H en σ){i:Nat}{d:D}{x:V}(h:DR K ρ H d x):EnR K ρ H (en.set i (some d)) (σ.set i (some x)):=⟨by simpa using E.len,λj c e=>by
 by_cases hj:j=i
 ·subst hj
  have hl:j<en.length:=by
   have:=(Wn.mp e).1
   simpa using this
  rw [W0w hl] at e;cases e;exact⟨x,by rw [W0w (by rw [<-E.len];exact hl)],h⟩
 ·rw [W0m (Ne.symm hj)] at e
  obtain⟨y,h1,h2⟩:=E.get j c e
  exact⟨y,by rw [W0m (Ne.symm hj)];exact h1,h2⟩⟩
end
inductive TM (K:W8) (m:M D) (σ:L2.St) (H:Hp) (Q:VK):Prop
 |mk (ρ:List Addr) (en:En) (S:Sto) (v:D) (S':Sto) (E:EnR K ρ H en σ) (R:StR K ρ H S) (e:m en S=some (v,S')) (k:∀x ρ' H',Ext ρ H ρ' H'->StR K ρ' H' S'->DR K ρ' H' v x->Q x H'):TM K m σ H Q
def tM (K:W8)(m:M D):TE:=λσ H Q=>TM K m σ H Q
def tMT (K:W8)(m:M Bool):TT:=λσ H Q=>∃ρ en S b S',EnR K ρ H en σ/\StR K ρ H S/\m en S=some (b,S')/\∀ρ' H',Ext ρ H ρ' H'->StR K ρ' H' S'->Q b H'
inductive TMA (K:W8) (m:M (List D)) (σ:L2.St) (H:Hp) (Q:List V->Hp->Prop):Prop
 |mk (ρ:List Addr) (en:En) (S:Sto) (ds:List D) (S':Sto) (E:EnR K ρ H en σ) (R:StR K ρ H S) (e:m en S=some (ds,S')) (k:∀xs ρ' H',Ext ρ H ρ' H'->StR K ρ' H' S'->DsR K ρ' H' ds xs->Q xs H'):TMA K m σ H Q
def tMA (K:W8)(m:M (List D)):TA:=λσ H Q=>TMA K m σ H Q
def tMQ (K:W8)(m:M (List D)):TE:=λσ H Q=>∃ρ en S ds S',EnR K ρ H en σ/\StR K ρ H S/\m en S=some (ds,S')/\
 ∀a xs ρ' H',Ext ρ H ρ' H'->StR K ρ' H' S'->(SqL K H' a xs\/SqT K H' a xs)->DsR K ρ' H' ds xs->Q (.ref a) H'
def tMS (K:W8)(m:MS):TS:=λD σ H=>∃ρ en S f en' S',EnR K ρ H en σ/\StR K ρ H S/\m en S=some (f,en',S')/\∀ρ' H' σ',Ext ρ H ρ' H'->StR K ρ' H' S'->EnR K ρ' H' en' σ'->
 match f with
 | .nx=>D.nx σ' H'
 | .rt d=>∀x,DR K ρ' H' d x->D.rt x H'
 | .bk=>D.bk σ' H'
 | .ct=>D.ct σ' H'
def rD (K:W8)(g:D->D->Sto->Option (D×Sto)):R2:=λx y H Q=>∃ρ S d1 d2 v S',StR K ρ H S/\DR K ρ H d1 x/\DR K ρ H d2 y/\g d1 d2 S=some (v,S')/\
 ∀z ρ' H',Ext ρ H ρ' H'->StR K ρ' H' S'->DR K ρ' H' v z->Q z H'
def rDs (K:W8)(g:List D->Sto->Option (D×Sto)):List V->Hp->VK->Prop:=λxs H Q=>∃ρ S ds v S',StR K ρ H S/\DsR K ρ H ds xs/\g ds S=some (v,S')/\
 ∀z ρ' H',Ext ρ H ρ' H'->StR K ρ' H' S'->DR K ρ' H' v z->Q z H'
def SE (X:Cx)(e:Expr)(m:M D):Prop:=PE X e (tM X.K m)
def ST (X:Cx)(e:Expr)(m:M Bool):Prop:=PT X e (tMT X.K m)
def SW (X:Cx)(e:Expr)(m:M Bool):Prop:=PW X e (tMT X.K m)
def SA (X:Cx)(es:List Expr)(m:M (List D)):Prop:=PA X es (tMA X.K m)
def SQ (X:Cx)(e:Expr)(m:M (List D)):Prop:=PE X e (tMQ X.K m)
def SS (X:Cx)(st:Stmt)(m:MS):Prop:=PS X st (tMS X.K m)
def SB (X:Cx)(st:List Stmt)(m:MS):Prop:=PSs X st (tMS X.K m)
def OpD (X:Cx)(f:Value->Value->Sem Value)(g:D->D->Sto->Option (D×Sto)):Prop:=OpR X f (rD X.K g)
section
variable {X:Cx} {e a b c:Expr} {es:List Expr} {pos:Pos}
theorem ZA {t t':TE}(h:PE X e t)(i:∀σ H Q,t' σ H Q->t σ H Q):PE X e t':=λpins s σ H Q I q=>h pins s σ H Q I (i σ H Q q)
theorem Pb {t t':TT}(h:PT X e t)(i:∀σ H Q,t' σ H Q->t σ H Q):PT X e t':=λpins s σ H Q I q=>h pins s σ H Q I (i σ H Q q)
theorem Dh {t t':TT}(h:PW X e t)(i:∀σ H Q,t' σ H Q->t σ H Q):PW X e t':=λwhole pins s σ H Q I q=>h whole pins s σ H Q I (i σ H Q q)
theorem Ek {t t':TA}(h:PA X es t)(i:∀σ H Q,t' σ H Q->t σ H Q):PA X es t':=λp pins s σ H Q I q=>h p pins s σ H Q I (i σ H Q q)
theorem JV {st:Stmt}{t t':TS}(h:PS X st t)(i:∀D σ H,t' D σ H->t D σ H):PS X st t':=λpins s σ H D I q=>h pins s σ H D I (i D σ H q)
theorem Pc {st:List Stmt}{t t':TS}(h:PSs X st t)(i:∀D σ H,t' D σ H->t D σ H):PSs X st t':=λpins s σ H D I q=>h pins s σ H D I (i D σ H q)
theorem Tw {f:Value->Value->Sem Value}{r r':R2}(h:OpR X f r)(i:∀x y H Q,r' x y H Q->r x y H Q):OpR X f r':=λpins s σ H x y v u Q I rx ry q=>h pins s σ H x y v u Q I rx ry (i x y H Q q)
def Z5 (i:Nat):M D:=λen S=>(en[i]?.getD none).map λd=>(d,S)
def Zd (d:D):M D:=λ_ S=>some (d,S)
theorem D7 {x:Str}(i:Nat)(h:PE X (.Name x pos) (Z1w i)):SE X (.Name x pos) (Z5 i):=by
 refine ZA h ?_
 rintro σ H Q ⟨ρ,en,S,v,S',E,R,e,k⟩
 have e':en[i]? = some (some v)/\S=S':=by
  unfold Z5 at e;cases q:en[i]? with
  |none=>rw [q] at e;cases e
  |some o=>
   rw [q] at e;cases o with
   |none=>cases e
   |some d=>cases e;exact⟨rfl,rfl⟩
 obtain⟨x,h1,h2⟩:=E.get i v e'.1
 exact⟨x,h1,k x ρ H Ext.refl (e'.2 ▸ R) h2⟩
theorem MD {d:D}{v:V}(h:PE X e (tC v))(hd:∀ρ H,DR X.K ρ H d v):SE X e (Zd d):=by
 refine ZA h ?_
 rintro σ H Q ⟨ρ,en,S,v',S',E,R,e,k⟩
 cases e;exact k v ρ H Ext.refl R (hd ρ H)
theorem Z4 {i j}:SE X (.Constant (.int i) j pos) (Zd (.int i)):=MD DC λ_ _=>.flat_int
theorem NI {i j}:SE X (.Constant (.bool i) j pos) (Zd (.bl i)):=MD Z0J λ_ _=>.flat_bl
theorem UN {i j}:SE X (.Constant (.str i) j pos) (Zd (.str i)):=MD Dx λ_ _=>.flat_str
theorem RT {j}:SE X (.Constant .none j pos) (Zd .non):=MD DA λ_ _=>.flat_non
def mOp (g:D->D->Sto->Option (D×Sto))(a b:M D):M D:=λen S=>(a en S).bind λp=>(b en p.2).bind λq=>g p.1 q.1 q.2
theorem GX {K:W8}{g:D->D->Sto->Option (D×Sto)}{ma mb:M D}{σ:L2.St}{H:Hp}{Q:VK}(h:tM K (mOp g ma mb) σ H Q):tOp (rD K g) (tM K ma) (tM K mb) σ H Q:=by
 obtain⟨ρ,en,S,v,S',E,R,e,k⟩:=h
 unfold mOp at e;obtain⟨p,e1,e⟩:=W4.mp e
 obtain⟨q,e2,e3⟩:=W4.mp e
 refine⟨ρ,en,S,p.1,p.2,E,R,e1,λx ρ1 H1 X1 R1 d1=>⟨ρ1,en,p.2,q.1,q.2,E.up X1,R1,e2,λy ρ2 H2 X2 R2 d2=>⟨ρ2,q.2,p.1,q.1,v,S',R2,d1.up X2,d2,e3,λz ρ3 H3 X3 R3 d3=>?_⟩⟩⟩
 exact k z ρ3 H3 ((X1.trans X2).trans X3) R3 d3
theorem Yf {op:Operator}{g:D->D->Sto->Option (D×Sto)}{ma mb:M D}(ho:OpD X (binaryOp op) g)(ha:SE X a ma)(hb:SE X b mb):SE X (.BinOp a op b pos) (mOp g ma mb):=ZA (Z0H ho ha hb) λ_ _ _=>GX
theorem QK {op:CmpOp}{g:D->D->Sto->Option (D×Sto)}{ma mb:M D}(ho:OpD X (compareOp op) g)(ha:SE X a ma)(hb:SE X b mb)(hm:behindInMarks op b=false):SE X (.Compare a [op] [b] pos) (mOp g ma mb):=
 ZA (Sa ho ha hb hm) λ_ _ _=>GX
def mT (m:M D):M Bool:=λen S=>(m en S).bind λp=>match p.1 with | .bl b=>some (b,p.2)|_=>none
theorem Ss {m:M D}{en:En}{S S':Sto}{b:Bool}(h:mT m en S=some (b,S')):m en S=some (.bl b,S'):=by
 unfold mT at h;obtain⟨p,e1,e2⟩:=W4.mp h
 obtain⟨d,S1⟩:=p
 cases d<;>first|cases e2;exact e1|cases e2
theorem RF {K:W8}{m:M D}{t:TE}(i:∀σ H Q,tM K m σ H Q->t σ H Q){σ:L2.St}{H:Hp}{Q:Bool->Hp->Prop}(h:tMT K (mT m) σ H Q):IX t σ H Q:=by
 obtain⟨ρ,en,S,b,S',E,R,e,k⟩:=h
 refine i σ H _ ⟨ρ,en,S,.bl b,S',E,R,Ss e,λx ρ' H' X1 R1 d1=>⟨b,d1.of_bl,k ρ' H' X1 R1⟩⟩
theorem Yu {op:CmpOp}{g:D->D->Sto->Option (D×Sto)}{ma mb:M D}(ho:OpD X (compareOp op) g)(ha:SE X a ma)(hb:SE X b mb)(hm:behindInMarks op b=false):ST X (.Compare a [op] [b] pos) (mT (mOp g ma mb)):=
 Pb (HU ho ha hb hm) λ_ _ _ h=>RF (λ_ _ _=>GX) h
def mOr (a b:M Bool):M Bool:=λen S=>(a en S).bind λp=>if p.1 then some (true,p.2) else b en p.2
def BR (a:M Bool):M Bool:=λen S=>(a en S).map λp=>(!p.1,p.2)
theorem Se {K:W8}{ma mb:M Bool}{σ:L2.St}{H:Hp}{Q:Bool->Hp->Prop}(h:tMT K (mOr ma mb) σ H Q):tOr (tMT K ma) (tMT K mb) σ H Q:=by
 obtain⟨ρ,en,S,v,S',E,R,e,k⟩:=h
 unfold mOr at e;obtain⟨p,e1,e⟩:=W4.mp e
 refine⟨ρ,en,S,p.1,p.2,E,R,e1,λρ1 H1 X1 R1=>?_⟩
 by_cases hp:p.1=true
 ·rw [if_pos hp] at e ⊢
  cases e;exact k ρ1 H1 X1 R1
 ·rw [if_neg hp] at e ⊢
  exact⟨ρ1,en,p.2,v,S',E.up X1,R1,e,λρ2 H2 X2 R2=>k ρ2 H2 (X1.trans X2) R2⟩
theorem RI {ma:M Bool}(ha:ST X a ma):SW X (.BoolOp .Or [a] pos) ma:=Dg ha
theorem HA {Qn:List Expr}{ma mb:M Bool}(ha:ST X a ma)(hb:SW X (.BoolOp .Or (b :: Qn) pos) mb):SW X (.BoolOp .Or (a :: b :: Qn) pos) (mOr ma mb):=Dh (Z0F ha hb) λ_ _ _=>Se
theorem Z0e {m:M Bool}(h:SW X e m):ST X e m:=PW.pt h
theorem Ja {ma:M Bool}(ha:ST X a ma):ST X (.UnaryOp .Not a pos) (BR ma):=by
 refine Pb (Dk ha) ?_
 rintro σ H Q ⟨ρ,en,S,v,S',E,R,e,k⟩
 unfold BR at e;obtain⟨p,e1,e2⟩:=Wi.mp e
 cases e2;exact⟨ρ,en,S,p.1,p.2,E,R,e1,λρ1 H1 X1 R1=>k ρ1 H1 X1 R1⟩
def FA:D->Sto->Option Bool
 | .non,_=>some false
 | .bl b,_=>some b
 | .int i,_=>some (i != 0)
 | .str x,_=>if x.length<=Wk then some ((x.length:Int) != 0) else none
 | .tup ds,_=>some (!ds.isEmpty)
 | .ref n,S=>match S[n]? with
  |some (.lst ds)=>some (!ds.isEmpty)
  |some (.dct kvs)=>some (!kvs.isEmpty)
  |some (.fdct kvs)=>some (!kvs.isEmpty)
  |_=>none
 | .scr ns,_=>some (!ns.isEmpty)
theorem NB {K:W8}{ρ:List Addr}{H:Hp}{S:Sto}{d:D}{x:V}{b:Bool}(R:StR K ρ H S)(h:DR K ρ H d x)(e:FA d S=some b):Fd K x H b:=by
 cases d with
 |non=>rw [h.of_non];cases e;exact .inl rfl
 |bl t=>rw [h.of_bl];cases e;exact .inl rfl
 |int i=>rw [h.of_int];cases e;exact .inl rfl
 |str y=>
  rw [h.of_str];dsimp only [FA] at e;split at e
  ·cases e;exact .inl ⟨by assumption,rfl⟩
  ·cases e
 |tup ds=>
  obtain⟨a,xs,rfl,h1,h2⟩:=h.of_tup
  cases e;refine .inl (.inr (.inl ⟨xs,.of h1,?_⟩))
  cases ds<;>cases xs<;>first|rfl|(have:=h2.length;simp at this)
 |ref n=>
  obtain⟨a,h1,rfl⟩:=h.of_ref
  obtain⟨ob,e1,r⟩:=R.obj h1
  dsimp only [FA] at e;rw [e1] at e;cases ob with
  |lst ds=>
   cases e;obtain⟨xs,h2,h3⟩:=r
   refine .inl (.inl ⟨xs,.of h2,?_⟩)
   cases ds<;>cases xs<;>first|rfl|(have:=h3.length;simp at this)
  |dct kvs=>
   cases e;rcases r with ⟨ks,xs,h2,h3,h4,h5⟩|⟨ks,xs,h2,h3,h4,h5⟩
   ·refine .inl (.inr (.inr ⟨_,h2,?_⟩))
    have l1:=congrArg Va h4
    rw [W7,W7] at l1;cases kvs<;>cases ks<;>cases xs<;>simp_all
   ·refine .inr (.inl ⟨a,_,rfl,.inl h2,?_⟩)
    have l1:=congrArg Va h4
    rw [W7,W7] at l1;cases kvs<;>cases ks<;>cases xs<;>simp_all
  |fdct kvs=>
   cases e;obtain⟨o,ks,xs,h2,h3,h4,h5⟩:=r
   refine .inr (.inr ⟨a,_,rfl,.inr ⟨o,h2⟩,?_⟩)
   have l1:=congrArg Va h4
   rw [W7,W7] at l1;cases kvs<;>cases ks<;>cases xs<;>simp_all
  |ins C fs=>cases e
 |scr ns=>
  obtain⟨a,rfl,h1⟩:=h.of_scr
  cases e;refine .inl (.inl ⟨_,h1.seq,?_⟩)
  cases ns<;>rfl
theorem Sc {Qn:List Expr}{ta tb:TE}(ha:PE X a ta)(hb:PE X (.BoolOp .And (b :: Qn) pos) tb):PE X (.BoolOp .And (a :: b :: Qn) pos) (λσ H Q=>ta σ H λx H1=>∃k,Fd X.K x H1 k/\if k=true then tb σ H1 Q else Q x H1):=by
 intro pins s σ H Q I h;refine BoolOp_and (thn (ha pins s σ H _ I h) λv s1 ⟨x,H1,I1,r1,k,t1,q1⟩=>thn (NA pins s1 σ H1 x v (λc H2=>H2=H1/\c=k) I1 r1 ⟨k,t1,rfl,rfl⟩) λc s2 ⟨H2,I2,e1,e2⟩=>?_)
 subst e1 e2;cases c with
 |true=>exact hb pins s2 σ H2 Q I2 q1
 |false=>exact⟨x,H2,I2,r1,q1⟩
theorem Dy {Qn:List Expr}{ta tb:TE}(ha:PE X a ta)(hb:PE X (.BoolOp .Or (b :: Qn) pos) tb):PE X (.BoolOp .Or (a :: b :: Qn) pos) (λσ H Q=>ta σ H λx H1=>∃k,Fd X.K x H1 k/\if k=true then Q x H1 else tb σ H1 Q):=by
 intro pins s σ H Q I h;refine BoolOp_or (thn (ha pins s σ H _ I h) λv s1 ⟨x,H1,I1,r1,k,t1,q1⟩=>thn (NA pins s1 σ H1 x v (λc H2=>H2=H1/\c=k) I1 r1 ⟨k,t1,rfl,rfl⟩) λc s2 ⟨H2,I2,e1,e2⟩=>?_)
 subst e1 e2;cases c with
 |false=>exact hb pins s2 σ H2 Q I2 q1
 |true=>exact⟨x,H2,I2,r1,q1⟩
def Rz (a b:M D):M D:=λen S=>(a en S).bind λp=>(FA p.1 p.2).bind λt=>if t then b en p.2 else some (p.1,p.2)
def vOr (a b:M D):M D:=λen S=>(a en S).bind λp=>(FA p.1 p.2).bind λt=>if t then some (p.1,p.2) else b en p.2
theorem Tk {op}{m:M D}(h:SE X a m):SE X (.BoolOp op [a] pos) m:=Dz h
theorem Tp {Qn:List Expr}{ma mb:M D}(ha:SE X a ma)(hb:SE X (.BoolOp .And (b :: Qn) pos) mb):SE X (.BoolOp .And (a :: b :: Qn) pos) (Rz ma mb):=by
 refine ZA (Sc ha hb) ?_
 rintro σ H Q ⟨ρ,en,S,v,S',E,R,e,k⟩
 unfold Rz at e;obtain⟨p,e1,e⟩:=W4.mp e
 obtain⟨t,e2,e⟩:=W4.mp e
 refine⟨ρ,en,S,p.1,p.2,E,R,e1,λx ρ1 H1 X1 R1 d1=>⟨t,NB R1 d1 e2,?_⟩⟩
 cases t with
 |true=>
  rw [if_pos rfl] at e ⊢
  exact⟨ρ1,en,p.2,v,S',E.up X1,R1,e,λy ρ2 H2 X2 R2 d2=>k y ρ2 H2 (X1.trans X2) R2 d2⟩
 |false=>
  rw [if_neg Wy] at e ⊢
  cases e;exact k _ ρ1 H1 X1 R1 d1
theorem Z0g {Qn:List Expr}{ma mb:M D}(ha:SE X a ma)(hb:SE X (.BoolOp .Or (b :: Qn) pos) mb):SE X (.BoolOp .Or (a :: b :: Qn) pos) (vOr ma mb):=by
 refine ZA (Dy ha hb) ?_
 rintro σ H Q ⟨ρ,en,S,v,S',E,R,e,k⟩
 unfold vOr at e;obtain⟨p,e1,e⟩:=W4.mp e
 obtain⟨t,e2,e⟩:=W4.mp e
 refine⟨ρ,en,S,p.1,p.2,E,R,e1,λx ρ1 H1 X1 R1 d1=>⟨t,NB R1 d1 e2,?_⟩⟩
 cases t with
 |false=>
  rw [if_neg Wy] at e ⊢
  exact⟨ρ1,en,p.2,v,S',E.up X1,R1,e,λy ρ2 H2 X2 R2 d2=>k y ρ2 H2 (X1.trans X2) R2 d2⟩
 |true=>
  rw [if_pos rfl] at e ⊢
  cases e;exact k _ ρ1 H1 X1 R1 d1
def mIf (c:M Bool)(a b:M D):M D:=λen S=>(c en S).bind λp=>if p.1 then a en p.2 else b en p.2
theorem Z0h {mc:M Bool}{ma mb:M D}(hc:ST X c mc)(ha:SE X a ma)(hb:SE X b mb):SE X (.IfExp c a b pos) (mIf mc ma mb):=by
 refine ZA (A7 hc ha hb) ?_
 rintro σ H Q ⟨ρ,en,S,v,S',E,R,e,k⟩
 unfold mIf at e;obtain⟨p,e1,e⟩:=W4.mp e
 refine⟨ρ,en,S,p.1,p.2,E,R,e1,λρ1 H1 X1 R1=>?_⟩
 by_cases hp:p.1=true
 ·rw [if_pos hp] at e ⊢
  exact⟨ρ1,en,p.2,v,S',E.up X1,R1,e,λx ρ2 H2 X2 R2=>k x ρ2 H2 (X1.trans X2) R2⟩
 ·rw [if_neg hp] at e ⊢
  exact⟨ρ1,en,p.2,v,S',E.up X1,R1,e,λx ρ2 H2 X2 R2=>k x ρ2 H2 (X1.trans X2) R2⟩
def G4 (m:M D):M Bool:=λen S=>(m en S).bind λp=>(FA p.1 p.2).map λb=>(b,p.2)
theorem Y0 {m:M D}(h:SE X a m)(he:∀whole,isTrue a X.env whole=(do let v <-whole;standAt a.pos;holding [v] (truthy v)):=by intro _;rfl):ST X a (G4 m):=by
 refine Pb (Pa h he) ?_
 rintro σ H Q ⟨ρ,en,S,v,S',E,R,e,k⟩
 unfold G4 at e;obtain⟨p,e1,e⟩:=W4.mp e
 obtain⟨b,e2,e3⟩:=Wi.mp e
 cases e3;exact⟨ρ,en,S,p.1,p.2,E,R,e1,λx ρ1 H1 X1 R1 d1=>⟨v,NB R1 d1 e2,k ρ1 H1 X1 R1⟩⟩
def ZR:M (List D):=λ_ S=>some ([],S)
def Z3 (a:M D)(r:M (List D)):M (List D):=λen S=>(a en S).bind λp=>(r en p.2).map λq=>(p.1 :: q.1,q.2)
theorem Z9:SA X [] ZR:=by
 refine Ek Ys ?_
 rintro σ H Q ⟨ρ,en,S,ds,S',E,R,e,k⟩
 cases e;exact k [] ρ H Ext.refl R .nil
theorem Z0 {ma:M D}{mr:M (List D)}(ha:SE X a ma)(hr:SA X es mr)(hs:Wr (a :: es) X.env=(false,eval a X.env) :: Wr es X.env:=by rfl):SA X (a :: es) (Z3 ma mr):=by
 refine Ek (ZI ha hr hs) ?_
 rintro σ H Q ⟨ρ,en,S,ds,S',E,R,e,k⟩
 unfold Z3 at e;obtain⟨p,e1,e⟩:=W4.mp e
 obtain⟨q,e2,e3⟩:=Wi.mp e
 cases e3;refine⟨ρ,en,S,p.1,p.2,E,R,e1,λx ρ1 H1 X1 R1 d1=>⟨ρ1,en,p.2,q.1,q.2,E.up X1,R1,e2,λxs ρ2 H2 X2 R2 d2=>?_⟩⟩
 exact k (x :: xs) ρ2 H2 (X1.trans X2) R2 (.cons (d1.up X2) d2)
def M3 (m:M (List D)):M D:=λen S=>(m en S).bind λp=>if p.1.length<=Wk then some (.tup p.1,p.2) else none
def Er (m:M (List D)):M D:=λen S=>(m en S).bind λp=>if p.1.length<=Wk then some (.ref p.2.length,p.2++[.lst p.1]) else none
theorem Je {k0}{m:M (List D)}(h:SA X es m):SE X (.Tuple es k0 pos) (M3 m):=by
 refine ZA (Ej h) ?_
 rintro σ H Q ⟨ρ,en,S,v,S',E,R,e,k⟩
 unfold M3 at e;obtain⟨p,e1,e⟩:=W4.mp e
 split at e
 ·cases e
  refine⟨ρ,en,S,p.1,p.2,E,R,e1,λxs ρ1 H1 X1 R1 d1=>⟨by rw [<-d1.length];assumption,λa ha=>?_⟩⟩
  exact k _ ρ1 _ (X1.trans (Ext.new ha)) (R1.new ha) (.tup Z7 (d1.up (Ext.new ha)))
 ·cases e
theorem MB {m:M (List D)}(h:SA X es m):SE X (.List es pos) (Er m):=by
 refine ZA (DB h) ?_
 rintro σ H Q ⟨ρ,en,S,v,S',E,R,e,k⟩
 unfold Er at e;obtain⟨p,e1,e⟩:=W4.mp e
 split at e
 ·cases e
  refine⟨ρ,en,S,p.1,p.2,E,R,e1,λxs ρ1 H1 X1 R1 d1=>⟨by rw [<-d1.length];assumption,λa ha=>?_⟩⟩
  refine k _ (ρ1++[a]) _ (X1.trans (Ext.newRef ha)) (R1.push ha ⟨xs,Z7,d1.up (Ext.newRef ha)⟩) (.ref ?_)
  rw [<-R1.len];simp
 ·cases e
end
end DL
namespace DL
open PySem PySem.Spec PyProof.Rows L2
section
variable {K:W8} {ρ:List Addr} {H:Hp}
theorem N1 {d:D}{k:Key}{x:V}(e:QM d=some k)(h:DR K ρ H d x):x=kV k:=by
 cases d with
 |int i=>cases e;exact h.of_int
 |str z=>cases e;exact h.of_str
 |_=>cases e
theorem PQ:∀{ds:List D} {ks:List Key} {xs:List V},PR ds=some ks->DsR K ρ H ds xs->xs=ks.map kV
 |[],_,xs,e,h=>by
  cases e;unfold DsR at h;exact h
 |d :: ds,ks,xs,e,h=>by
  obtain⟨k,e1,e⟩:=W4.mp e
  obtain⟨ks',e2,e3⟩:=Wi.mp e
  subst e3;unfold DsR at h;obtain⟨x,r,rfl,h1,h2⟩:=h
  rw [W1,N1 e1 h1,PQ e2 h2]
theorem PP {d:D}{ks:List Key}{x:V}(e:QB d=some ks)(h:DR K ρ H d x):∃b,x = .ref b/\H b=some (.tup (ks.map kV)):=by
 cases d with
 |tup ds=>
  obtain⟨a,xs,rfl,h1,h2⟩:=h.of_tup
  rw [PQ e h2] at h1;exact⟨a,rfl,h1⟩
 |_=>cases e
theorem Uw {d:D}{k:Key}(e:QM d=some k):QB d=none:=by
 cases d<;>first|rfl|cases e
theorem Z1c {a b:D}{x y:Key}(ea:QM a=some x)(eb:QM b=some y):kEq a b=decide (x=y):=by
 unfold kEq;rw [ea,eb]
theorem OG {a b:D}{x y:List Key}(ea:QB a=some x)(eb:QB b=some y):kEq a b=decide (x=y):=by
 have na:QM a=none:=by
  cases h:QM a with
  |none=>rfl
  |some k=>rw [Uw h] at ea;cases ea
 unfold kEq;rw [na,ea,eb]
theorem GK {κ:Type}[DecidableEq κ](f:D->Option κ){k:D}{k':κ}(hk:∀a x,f a=some x->kEq a k=decide (x=k')):∀{kvs:List (D×D)} {ks:List κ} {xs:List V},kvs.map (λp=>f p.1)=ks.map some->DsR K ρ H (kvs.map (·.2)) xs->
  (∀v,J7 kvs k=some v->∃x,Rl (ks.zip xs) k'=some x/\DR K ρ H v x)/\(J7 kvs k=none->Rl (ks.zip xs) k'=none)
 |[],ks,xs,e,h=>by
  cases ks with
  |nil=>exact⟨λv z=>(by cases z),λ_=>rfl⟩
  |cons _ _=>cases e
 |p :: kvs,ks,xs,e,h=>by
  cases ks with
  |nil=>cases e
  |cons k0 ks=>
   rw [W1,W1] at e
   injection e with e1 e2
   rw [W1] at h;unfold DsR at h;obtain⟨x,r,rfl,h1,h2⟩:=h
   have ih:=GK f hk e2 h2
   have hq:=hk p.1 k0 e1
   rw [WM];by_cases hc:k0=k'
   ·have hp:kEq p.1 k=true:=by rw [hq];exact decide_eq_true hc
    have hd:J7 (p :: kvs) k=some p.2:=by simp [J7,VN,hp]
    rw [hd,T4 (p:=(k0,x)) hc];exact⟨λv z=>by cases z;exact⟨x,rfl,h1⟩,λz=>by cases z⟩
   ·have hp:kEq p.1 k=false:=by rw [hq];exact decide_eq_false hc
    have hd:J7 (p :: kvs) k=J7 kvs k:=by simp [J7,VN,hp]
    rw [hd,T5 (p:=(k0,x)) hc];exact ih
theorem RH {κ:Type}[DecidableEq κ](f:D->Option κ){k:D}{k':κ}(hk:∀a x,f a=some x->kEq a k=decide (x=k')):∀{kvs:List (D×D)} {ks:List κ} {xs:List V},kvs.map (λp=>f p.1)=ks.map some->ks.length=xs.length->
  (kvs.any λp=>kEq p.1 k)=((ks.zip xs).any λkv=>decide (kv.1=k'))
 |[],ks,xs,e,_=>by
  cases ks with
  |nil=>rfl
  |cons _ _=>cases e
 |p :: kvs,ks,xs,e,hl=>by
  cases ks with
  |nil=>cases e
  |cons k0 ks=>
   cases xs with
   |nil=>cases hl
   |cons x xs=>
    rw [W1,W1] at e
    injection e with e1 e2
    rw [WM,W0Z,W0Z,hk p.1 k0 e1,RH f hk e2 (by simpa using hl)]
theorem Mu {κ:Type}[DecidableEq κ](f:D->Option κ){k v:D}{k':κ}{y:V}(hk:∀a x,f a=some x->kEq a k=decide (x=k'))(hv:DR K ρ H v y):∀{kvs:List (D×D)} {ks:List κ} {xs:List V},kvs.map (λp=>f p.1)=ks.map some->ks.length=xs.length->DsR K ρ H (kvs.map (·.2)) xs->
  ∃xs',(ks.zip xs).map (λkv=>if kv.1=k' then (kv.1,y) else kv)=ks.zip xs'/\ks.length=xs'.length/\DsR K ρ H ((kvs.map λp=>if kEq p.1 k=true then (p.1,v) else p).map (·.2)) xs'/\((kvs.map λp=>if kEq p.1 k=true then (p.1,v) else p).map λp=>f p.1)=ks.map some
 |[],ks,xs,e,hl,h=>by
  cases ks with
  |nil=>
   cases xs with
   |nil=>exact⟨[],rfl,rfl,.nil,rfl⟩
   |cons _ _=>cases hl
  |cons _ _=>cases e
 |p :: kvs,ks,xs,e,hl,h=>by
  cases ks with
  |nil=>cases e
  |cons k0 ks=>
   cases xs with
   |nil=>cases hl
   |cons x xs=>
    rw [W1,W1] at e
    injection e with e1 e2
    rw [W1] at h;unfold DsR at h;obtain⟨x0,r,hx,h1,h2⟩:=h
    injection hx with hx1 hx2
    subst hx1 hx2;obtain⟨xs',a1,a2,a3,a4⟩:=Mu f hk hv e2 (by simpa using hl) h2
    have hq:=hk p.1 k0 e1
    by_cases hc:k0=k'
    ·have hp:kEq p.1 k=true:=by rw [hq];exact decide_eq_true hc
     refine⟨y :: xs',?_,by simp [a2],?_,?_⟩
     ·rw [WM,W1,a1,if_pos hc,WM]
     ·rw [W1,if_pos hp,W1];exact .cons hv a3
     ·rw [W1,if_pos hp,W1,a4,e1,W1]
    ·have hp:¬kEq p.1 k=true:=by rw [hq,decide_eq_false hc];exact Wy
     refine⟨x :: xs',?_,by simp [a2],?_,?_⟩
     ·rw [WM,W1,a1,if_neg hc,WM]
     ·rw [W1,if_neg hp,W1];exact .cons h1 a3
     ·rw [W1,if_neg hp,W1,a4,e1,W1]
theorem NC {κ:Type}[DecidableEq κ](f:D->Option κ){k v:D}{k':κ}{y:V}(hf:f k=some k')(hk:∀a x,f a=some x->kEq a k=decide (x=k'))(hv:DR K ρ H v y){kvs:List (D×D)}{ks:List κ}{xs:List V}
  (e:kvs.map (λp=>f p.1)=ks.map some) (hl:ks.length=xs.length) (h:DsR K ρ H (kvs.map (·.2)) xs) :
  ∃(ks':List κ) (xs':List V),G3 (ks.zip xs) k' y=ks'.zip xs'/\ks'.length=xs'.length/\(Td kvs k v).map (λp=>f p.1)=ks'.map some/\DsR K ρ H ((Td kvs k v).map (·.2)) xs':=by
 unfold G3 Td;rw [RH f hk e hl];by_cases ha:((ks.zip xs).any λkv=>decide (kv.1=k'))=true
 ·rw [if_pos ha,if_pos ha]
  obtain⟨xs',a1,a2,a3,a4⟩:=Mu f hk hv e hl h
  exact⟨ks,xs',a1,a2,a4,a3⟩
 ·rw [if_neg ha,if_neg ha]
  refine⟨ks++[k'],xs++[y],?_,by simp [hl],?_,?_⟩
  ·rw [List.zip_append hl];rfl
  ·rw [WP,WP,e];simp [hf]
  ·rw [WP];exact h.append (.cons hv .nil)
theorem Z05 {k:D}{k':Key}(h:QM k=some k'):∀a x,QM a=some x->kEq a k=decide (x=k'):=λ_ _ e=>Z1c e h
theorem Z1T {k:D}{k':List Key}(h:QB k=some k'):∀a x,QB a=some x->kEq a k=decide (x=k'):=λ_ _ e=>OG e h
theorem G0 {α:Type}{f:D->Option α}{kvs:List (D×D)}{β:Type}{g:D->Option β}{ks:List β}(e:kvs.map (λp=>g p.1)=ks.map some)(h:(kvs.all λp=>(f p.1).isSome)=true)(hd:∀d x,g d=some x->f d=none):kvs=[]:=by
 cases kvs with
 |nil=>rfl
 |cons p r=>
  cases ks with
  |nil=>cases e
  |cons k ks=>
   rw [W1,W1] at e
   injection e with e1 _
   rw [Vs,hd _ _ e1] at h;simp at h
theorem Uv {d:D}{k:List Key}(e:QB d=some k):QM d=none:=by
 cases d<;>first|rfl|cases e
theorem AQ {S:Sto}{n:Nat}{a:Addr}{kvs:List (D×D)}{k:D}{y:V}(R:StR K ρ H S)(ha:ρ[n]? = some a)(e:S[n]? = some (.dct kvs))(hs:Yv kvs k=true)(hk:DR K ρ H k y) :
  (∀v,J7 kvs k=some v->∃x,JQ H a y (some x)/\DR K ρ H v x)/\(J7 kvs k=none->JQ H a y none):=by
 obtain⟨ob,e1,r⟩:=R.obj ha
 rw [e] at e1;cases e1;unfold Yv at hs;cases h1:QM k with
 |some k'=>
  rw [h1] at hs;have ey:=N1 h1 hk
  rcases r with ⟨ks,xs,q1,q2,q3,q4⟩|⟨ks,xs,q1,q2,q3,q4⟩
  ·obtain⟨g1,g2⟩:=GK QM (Z05 h1) q3 q4
   refine⟨λv hv=>?_,λhv=>?_⟩
   ·obtain⟨x,x1,x2⟩:=g1 v hv
    exact⟨x,.inl (.inl ⟨_,k',.inl q1,ey,x1.symm⟩),x2⟩
   ·exact .inl (.inl ⟨_,k',.inl q1,ey,(g2 hv).symm⟩)
  ·have hn:=G0 q3 hs (λ_ _=>Uv)
   subst hn;cases ks with
   |nil=>exact⟨λv hv=>(by cases hv),λ_=>.inr (.inr ⟨q1,k',ey,rfl⟩)⟩
   |cons _ _=>cases q3
 |none=>
  rw [h1] at hs;cases h2:QB k with
  |none=>rw [h2] at hs;cases hs
  |some k'=>
   rw [h2] at hs;obtain⟨b,ey,eb⟩:=PP h2 hk
   rcases r with ⟨ks,xs,q1,q2,q3,q4⟩|⟨ks,xs,q1,q2,q3,q4⟩
   ·have hn:=G0 q3 hs (λ_ _=>Uw)
    subst hn;cases ks with
    |nil=>exact⟨λv hv=>(by cases hv),λ_=>.inr (.inl ⟨q1,k',b,ey,eb,rfl⟩)⟩
    |cons _ _=>cases q3
   ·obtain⟨g1,g2⟩:=GK QB (Z1T h2) q3 q4
    refine⟨λv hv=>?_,λhv=>?_⟩
    ·obtain⟨x,x1,x2⟩:=g1 v hv
     exact⟨x,.inl (.inr ⟨_,k',b,.inl q1,ey,eb,x1.symm⟩),x2⟩
    ·exact .inl (.inr ⟨_,k',b,.inl q1,ey,eb,(g2 hv).symm⟩)
theorem TR {S:Sto}{n:Nat}{a:Addr}{kvs:List (D×D)}{k:D}{y:V}(R:StR K ρ H S)(ha:ρ[n]? = some a)(e:Q7 S n k=some kvs)(hk:DR K ρ H k y) :
  (∀v,J7 kvs k=some v->∃x,JQ H a y (some x)/\DR K ρ H v x)/\(J7 kvs k=none->JQ H a y none):=by
 unfold Q7 at e;split at e
 ·rename_i kvs' hn
  split at e
  ·rename_i hs
   cases e;exact AQ R ha hn hs hk
  ·cases e
 ·rename_i kvs' hn
  split at e
  ·rename_i hs
   cases e;obtain⟨ob,e1,r⟩:=R.obj ha
   rw [hn] at e1;cases e1;obtain⟨o,ks,xs,q1,q2,q3,q4⟩:=r
   obtain⟨k',h1⟩:=W1m.mp hs
   have ey:=N1 h1 hk
   obtain⟨g1,g2⟩:=GK QM (Z05 h1) q3 q4
   refine⟨λv hv=>?_,λhv=>?_⟩
   ·obtain⟨x,x1,x2⟩:=g1 v hv
    exact⟨x,.inl (.inl ⟨_,k',.inr ⟨o,q1⟩,ey,x1.symm⟩),x2⟩
   ·exact .inl (.inl ⟨_,k',.inr ⟨o,q1⟩,ey,(g2 hv).symm⟩)
  ·cases e
 ·cases e
theorem Lq {S:Sto}{n:Nat}{a:Addr}(R:StR K ρ H S)(ha:ρ[n]? = some a)(e:G8 S n=true):IsD H a:=by
 unfold G8 at e;obtain⟨ob,e1,r⟩:=R.obj ha
 rw [e1] at e;cases ob with
 |dct kvs=>
  rcases r with ⟨ks,xs,q,_⟩|⟨ks,xs,q,_⟩
  ·exact .inl ⟨_,.inl q⟩
  ·exact .inr ⟨_,.inl q⟩
 |fdct kvs=>
  obtain⟨o,ks,xs,q,_⟩:=r
  exact .inl ⟨_,.inr ⟨o,q⟩⟩
 |_=>cases e
theorem Ih {S:Sto}{n:Nat}{a:Addr}{kvs:List (D×D)}{k v:D}{y x:V}(R:StR K ρ H S)(ha:ρ[n]? = some a)(e:S[n]? = some (.dct kvs))(hs:Yv kvs k=true)(hl:kvs.length<Wk)(hk:DR K ρ H k y)(hv:DR K ρ H v x) :
  ∃H',IC H a y x H'/\StR K ρ H' (S.set n (.dct (Td kvs k v)))/\Ext ρ H ρ H':=by
 obtain⟨ob,e1,r⟩:=R.obj ha
 rw [e] at e1;cases e1;unfold Yv at hs;have up:∀{o:HO} {o':HO},H a=some o->(∀xs,o≠.tup xs)->(∀ob u,o≠.frz ob u)->Ext ρ H ρ (upd H a o'):=λh a1 a2=>Ext.upd h a1 a2
 cases h1:QM k with
 |some k'=>
  rw [h1] at hs;have ey:=N1 h1 hk
  rcases r with ⟨ks,xs,q1,q2,q3,q4⟩|⟨ks,xs,q1,q2,q3,q4⟩
  ·obtain⟨ks',xs',z1,z2,z3,z4⟩:=NC QM h1 (Z05 h1) hv q3 q2 q4
   have len:(ks.zip xs).length<Wk:=by
    have:=congrArg Va q3
    rw [W7,W7] at this;rw [VA];omega
   have E1:Ext ρ H ρ (upd H a (.dK (G3 (ks.zip xs) k' x))):=up q1 (λ_ z=>nomatch z) λ_ _ z=>nomatch z
   obtain⟨R2,E2⟩:=R.set (hf:=λ_ z=>by rw [e] at z;cases z) (o:=.dK (G3 (ks.zip xs) k' x)) (ob:=.dct (Td kvs k v)) ha (.inl ⟨ks',xs',by rw [Z7,z1],z2,z3,z4.up E1⟩)
   exact⟨_,.inl (.inl ⟨_,k',q1,ey,len,rfl⟩),R2,E2⟩
  ·have hn:=G0 q3 hs (λ_ _=>Uv)
   subst hn;have E1:Ext ρ H ρ (upd H a (.dK [(k',x)])):=up q1 (λ_ z=>nomatch z) λ_ _ z=>nomatch z
   cases ks with
   |nil=>
    obtain⟨R2,E2⟩:=R.set (hf:=λ_ z=>by rw [e] at z;cases z) (o:=.dK [(k',x)]) (ob:=.dct (Td [] k v)) ha (.inl ⟨[k'],[x],by rw [Z7];rfl,rfl,by simp [Td,h1],by simp [Td];exact .cons (hv.up E1) .nil⟩)
    exact⟨_,.inr (.inr ⟨q1,k',ey,rfl⟩),R2,E2⟩
   |cons _ _=>cases q3
 |none=>
  rw [h1] at hs;cases h2:QB k with
  |none=>rw [h2] at hs;cases hs
  |some k'=>
   rw [h2] at hs;obtain⟨b,ey,eb⟩:=PP h2 hk
   rcases r with ⟨ks,xs,q1,q2,q3,q4⟩|⟨ks,xs,q1,q2,q3,q4⟩
   ·have hn:=G0 q3 hs (λ_ _=>Uw)
    subst hn;have E1:Ext ρ H ρ (upd H a (.dT [(k',x)])):=up q1 (λ_ z=>nomatch z) λ_ _ z=>nomatch z
    cases ks with
    |nil=>
     obtain⟨R2,E2⟩:=R.set (hf:=λ_ z=>by rw [e] at z;cases z) (o:=.dT [(k',x)]) (ob:=.dct (Td [] k v)) ha (.inr ⟨[k'],[x],by rw [Z7];rfl,rfl,by simp [Td,h2],by simp [Td];exact .cons (hv.up E1) .nil⟩)
     exact⟨_,.inr (.inl ⟨q1,k',b,ey,eb,rfl⟩),R2,E2⟩
    |cons _ _=>cases q3
   ·obtain⟨ks',xs',z1,z2,z3,z4⟩:=NC QB h2 (Z1T h2) hv q3 q2 q4
    have len:(ks.zip xs).length<Wk:=by
     have:=congrArg Va q3
     rw [W7,W7] at this;rw [VA];omega
    have E1:Ext ρ H ρ (upd H a (.dT (G3 (ks.zip xs) k' x))):=up q1 (λ_ z=>nomatch z) λ_ _ z=>nomatch z
    obtain⟨R2,E2⟩:=R.set (hf:=λ_ z=>by rw [e] at z;cases z) (o:=.dT (G3 (ks.zip xs) k' x)) (ob:=.dct (Td kvs k v)) ha (.inr ⟨ks',xs',by rw [Z7,z1],z2,z3,z4.up E1⟩)
    exact⟨_,.inl (.inr ⟨_,k',b,q1,ey,eb,len,rfl⟩),R2,E2⟩
end
end DL
namespace DL
open PySem PySem.Spec PyProof.Rows L2
mutual
def eqD:D->D->Bool
 | .non,b=>match b with | .non=>true|_=>false
 | .bl a,b=>match b with | .bl c=>a == c | .int c=>(if a then 1 else 0) == c|_=>false
 | .int a,b=>match b with | .bl c=>a == (if c then 1 else 0) | .int c=>a == c|_=>false
 | .str a,b=>match b with | .str c=>a == c|_=>false
 | .tup as,b=>match b with | .tup bs=>eqDs as bs|_=>false
 | .ref _,_=>false
 | .scr _,_=>false
def eqDs:List D->List D->Bool
 |[],b=>match b with|[]=>true|_ :: _=>false
 |a :: as,b=>match b with|[]=>false|b :: bs=>eqD a b&&eqDs as bs
end
def pln:Nat->D->Bool
 |_,.non=>true
 |_,.bl _=>true
 |_,.int _=>true
 |_,.str _=>true
 |0,.tup _=>false
 |n+1,.tup ds=>ds.all (pln n)
 |_,.ref _=>false
 |_,.scr _=>false
theorem Jl (as bs:List D):eqD (.tup as) (.tup bs)=eqDs as bs:=by unfold eqD;rfl
theorem QP:∀(as bs:List D),eqDs as bs=((W6 (min as.length bs.length)).all (λj=>eqD (as.getD j .non) (bs.getD j .non))&&as.length == bs.length)
 |[],[]=>by simp [eqDs]
 |[],_ :: _=>by simp [eqDs]
 |_ :: _,[]=>by simp [eqDs]
 |a :: as,b :: bs=>by
  unfold eqDs;dsimp only;rw [QP as bs,WS,WS,Nat.succ_min_succ,List.range_succ_eq_map,Vs,W1o];have h1:((as.length+1) == (bs.length+1))=(as.length == bs.length):=by
   rw [VX];simp
  rw [h1,Bool.and_assoc];rfl
mutual
theorem YR:∀(n:Nat) (d:D),pln n d=true->eqD d d=true
 |_,.non,_=>by unfold eqD;rfl
 |_,.bl b,_=>by unfold eqD;simp
 |_,.int i,_=>by unfold eqD;simp
 |_,.str x,_=>by unfold eqD;simp
 |0,.tup _,h=>by cases h
 |n+1,.tup ds,h=>by unfold eqD;exact eqDs_refl n ds (by unfold pln at h;exact h)
 |n,.ref _,h=>by cases n<;>cases h
 |n,.scr _,h=>by cases n<;>cases h
theorem eqDs_refl:∀(n:Nat) (ds:List D),ds.all (pln n)=true->eqDs ds ds=true
 |_,[],_=>by unfold eqDs;rfl
 |n,d :: ds,h=>by
  rw [Vs,Wm] at h;unfold eqDs;dsimp only;rw [YR n d h.1,eqDs_refl n ds h.2];rfl
end
section
variable {K:W8} {ρ ρ':List Addr} {H:Hp}
mutual
theorem DR.one:∀(n:Nat) (d d':D) (x:V),pln n d=true->pln n d'=true->DR K ρ H d x->DR K ρ' H d' x->d=d'
 |n,d,d',x,p,p',h,h'=>by
  cases d with
  |non=>
   rw [h.of_non] at h'
   cases d' with
   |non=>rfl
   |bl _=>cases h'.of_bl
   |int _=>cases h'.of_int
   |str _=>cases h'.of_str
   |tup _=>obtain⟨_,_,z,_⟩:=h'.of_tup;cases z
   |ref _=>cases n<;>cases p'
   |scr _=>cases n<;>cases p'
  |bl b=>
   rw [h.of_bl] at h'
   cases d' with
   |non=>cases h'.of_non
   |bl _=>cases h'.of_bl;rfl
   |int _=>cases h'.of_int
   |str _=>cases h'.of_str
   |tup _=>obtain⟨_,_,z,_⟩:=h'.of_tup;cases z
   |ref _=>cases n<;>cases p'
   |scr _=>cases n<;>cases p'
  |int b=>
   rw [h.of_int] at h'
   cases d' with
   |non=>cases h'.of_non
   |bl _=>cases h'.of_bl
   |int _=>cases h'.of_int;rfl
   |str _=>cases h'.of_str
   |tup _=>obtain⟨_,_,z,_⟩:=h'.of_tup;cases z
   |ref _=>cases n<;>cases p'
   |scr _=>cases n<;>cases p'
  |str b=>
   rw [h.of_str] at h'
   cases d' with
   |non=>cases h'.of_non
   |bl _=>cases h'.of_bl
   |int _=>cases h'.of_int
   |str _=>cases h'.of_str;rfl
   |tup _=>obtain⟨_,_,z,_⟩:=h'.of_tup;cases z
   |ref _=>cases n<;>cases p'
   |scr _=>cases n<;>cases p'
  |tup ds=>
   obtain⟨a,xs,rfl,h1,h2⟩:=h.of_tup
   cases d' with
   |non=>cases h'.of_non
   |bl _=>cases h'.of_bl
   |int _=>cases h'.of_int
   |str _=>cases h'.of_str
   |tup es=>
    obtain⟨a',xs',z,h3,h4⟩:=h'.of_tup
    cases z;rw [h1] at h3;cases h3;cases n with
    |zero=>cases p
    |succ n=>
     unfold pln at p p';rw [DsR.one n ds es xs p p' h2 h4]
   |ref _=>cases n<;>cases p'
   |scr _=>cases n<;>cases p'
  |ref _=>cases n<;>cases p
  |scr _=>cases n<;>cases p
termination_by n=>(n,0)
theorem DsR.one:∀(n:Nat) (ds ds':List D) (xs:List V),ds.all (pln n)=true->ds'.all (pln n)=true->DsR K ρ H ds xs->DsR K ρ' H ds' xs->ds=ds'
 |n,[],ds',xs,_,_,h,h'=>by
  unfold DsR at h;subst h;cases ds' with
  |nil=>rfl
  |cons _ _=>unfold DsR at h';obtain⟨_,_,z,_⟩:=h';cases z
 |n,d :: ds,ds',xs,p,p',h,h'=>by
  unfold DsR at h;obtain⟨x,r,rfl,h1,h2⟩:=h
  cases ds' with
  |nil=>unfold DsR at h';cases h'
  |cons d' ds'=>
   unfold DsR at h';obtain⟨x',r',z,h3,h4⟩:=h'
   cases z;rw [Vs,Wm] at p p'
   rw [DR.one n d d' x p.1 p'.1 h1 h3,DsR.one n ds ds' r p.2 p'.2 h2 h4]
termination_by n ds=>(n,ds.length+1)
end
end
section
variable {X:Cx} {pins:List (Addr×Obj)} {σ:L2.St} {H:Hp} {s:Shared} {ρ:List Addr} (I:Inv X pins σ H s)
theorem in1_units {A:Around}:A.in1.units=A.units+1:=rfl
include I in
theorem Gy:∀(n:Nat) {A:Around} {d1 d2:D} {x y:V} {u v:Value},A.units+n<cLine->pln n d1=true->pln n d2=true->DR X.K ρ H d1 x->DR X.K ρ H d2 y->ZC x u->ZC y v->V6 A s u v (eqD d1 d2):=by
 intro n A d1 d2 x y u v hu p1 p2 h1 h2 ru rv;cases d1 with
 |non=>
  rw [h1.of_non] at ru;cases ru;cases d2 with
  |non=>rw [h2.of_non] at rv;cases rv;exact V6.same _
  |bl c=>rw [h2.of_bl] at rv;cases rv;exact V6.none_bool c
  |int c=>rw [h2.of_int] at rv;obtain⟨t',rfl⟩:=rv;exact V6.none_int c t'
  |str c=>rw [h2.of_str] at rv;obtain⟨t',rfl⟩:=rv;exact V6.none_str c t'
  |tup bs=>
   obtain⟨b,ys,rfl,b1,b2⟩:=h2.of_tup
   cases rv;obtain⟨its,_,pl,_⟩:=I.tuple (.of b1)
   exact V6.none_tuple pl (by omega)
  |ref _=>cases n<;>cases p2
  |scr _=>cases n<;>cases p2
 |bl a=>
  rw [h1.of_bl] at ru;cases ru;cases d2 with
  |non=>rw [h2.of_non] at rv;cases rv;exact V6.bool_none a
  |bl c=>rw [h2.of_bl] at rv;cases rv;exact V6.bool_bool a c
  |int c=>rw [h2.of_int] at rv;obtain⟨t',rfl⟩:=rv;exact V6.bool_int a c t'
  |str c=>rw [h2.of_str] at rv;obtain⟨t',rfl⟩:=rv;exact V6.bool_str a c t'
  |tup bs=>
   obtain⟨b,ys,rfl,b1,b2⟩:=h2.of_tup
   cases rv;obtain⟨its,_,pl,_⟩:=I.tuple (.of b1)
   exact V6.bool_tuple a pl (by omega)
  |ref _=>cases n<;>cases p2
  |scr _=>cases n<;>cases p2
 |int a=>
  rw [h1.of_int] at ru;obtain⟨t,rfl⟩:=ru
  cases d2 with
  |non=>rw [h2.of_non] at rv;cases rv;exact V6.int_none a t
  |bl c=>rw [h2.of_bl] at rv;cases rv;exact V6.int_bool a t c
  |int c=>rw [h2.of_int] at rv;obtain⟨t',rfl⟩:=rv;exact W2p a t c t'
  |str c=>rw [h2.of_str] at rv;obtain⟨t',rfl⟩:=rv;exact W1p a t c t'
  |tup bs=>
   obtain⟨b,ys,rfl,b1,b2⟩:=h2.of_tup
   cases rv;obtain⟨its,_,pl,_⟩:=I.tuple (.of b1)
   exact V6.int_tuple a t pl (by omega)
  |ref _=>cases n<;>cases p2
  |scr _=>cases n<;>cases p2
 |str a=>
  rw [h1.of_str] at ru;obtain⟨t,rfl⟩:=ru
  cases d2 with
  |non=>rw [h2.of_non] at rv;cases rv;exact V6.str_none a t
  |bl c=>rw [h2.of_bl] at rv;cases rv;exact V6.str_bool a t c
  |int c=>rw [h2.of_int] at rv;obtain⟨t',rfl⟩:=rv;exact W1q a t c t'
  |str c=>rw [h2.of_str] at rv;obtain⟨t',rfl⟩:=rv;exact W2q a t c t'
  |tup bs=>
   obtain⟨b,ys,rfl,b1,b2⟩:=h2.of_tup
   cases rv;obtain⟨its,_,pl,_⟩:=I.tuple (.of b1)
   exact V6.str_tuple a t pl (by omega)
  |ref _=>cases n<;>cases p2
  |scr _=>cases n<;>cases p2
 |tup as=>
  obtain⟨a,xs,rfl,a1,a2⟩:=h1.of_tup
  cases ru;cases d2 with
  |non=>
   rw [h2.of_non] at rv;cases rv;obtain⟨its,_,pl,_⟩:=I.tuple (.of a1)
   exact V6.tuple_none pl (by omega)
  |bl c=>
   rw [h2.of_bl] at rv;cases rv;obtain⟨its,_,pl,_⟩:=I.tuple (.of a1)
   exact V6.tuple_bool c pl (by omega)
  |int c=>
   rw [h2.of_int] at rv;obtain⟨t',rfl⟩:=rv
   obtain⟨its,_,pl,_⟩:=I.tuple (.of a1)
   exact V6.tuple_int c t' pl (by omega)
  |str c=>
   rw [h2.of_str] at rv;obtain⟨t',rfl⟩:=rv
   obtain⟨its,_,pl,_⟩:=I.tuple (.of a1)
   exact V6.tuple_str c t' pl (by omega)
  |tup bs=>
   obtain⟨b,ys,rfl,b1,b2⟩:=h2.of_tup
   cases rv;cases n with
   |zero=>cases p1
   |succ n=>
    unfold pln at p1 p2;obtain⟨its,r1,pl1,_⟩:=I.tuple (.of a1)
    obtain⟨its2,r2,pl2,_⟩:=I.tuple (.of b1)
    have he:eqD (.tup as) (.tup bs)=((W6 (min its.toArray.size its2.toArray.size)).all (λj=>eqD (as.getD j .non) (bs.getD j .non))&&its.toArray.size == its2.toArray.size):=by
     rw [Jl,QP,Wo,Wo,<-r1.length,<-r2.length,<-a2.length,<-b2.length]
    have hj:∀j (h1:j<its.toArray.size) (h2:j<its2.toArray.size),V6 A.in1 s its.toArray[j] its2.toArray[j] (eqD (as.getD j .non) (bs.getD j .non)):=by
     intro j j1 j2;rw [Wo] at j1 j2;have l1:j<as.length:=by rw [a2.length,r1.length];exact j1
     have l2:j<bs.length:=by rw [b2.length,r2.length];exact j2
     have g1:as[j]? = some (as.getD j .non):=by simp [W0j,Wl l1]
     have g2:bs[j]? = some (bs.getD j .non):=by simp [W0j,Wl l2]
     obtain⟨x,x1,x2⟩:=a2.get g1
     obtain⟨y,y1,y2⟩:=b2.get g2
     obtain⟨u,u1,u2⟩:=r1.get x1
     obtain⟨v,v1,v2⟩:=r2.get y1
     have e1:its.toArray[j]=u:=by rw [Wl j1] at u1;simpa using u1
     have e2:its2.toArray[j]=v:=by rw [Wl j2] at v1;simpa using v1
     rw [e1,e2];exact Gy n (by rw [in1_units];omega) (Ww.mp p1 _ (V4 g1)) (Ww.mp p2 _ (V4 g2)) x2 y2 u2 v2
    by_cases hab:a=b
    ·subst hab
     have hsame:as=bs:=by
      rw [a1] at b1;cases b1;exact DsR.one n as bs xs p1 p2 a2 b2
     rw [hsame,YR (n+1) (.tup bs) (by unfold pln;exact p2)]
     exact V6.same _
    ·rw [he]
     exact V6.of_refs hab (W2G pl1 pl2 (by omega) hj)
  |ref _=>cases n<;>cases p2
  |scr _=>cases n<;>cases p2
 |ref _=>cases n<;>cases p1
 |scr _=>cases n<;>cases p1
include I in
theorem Dc:∀(n:Nat) {A:Around} {d1 d2:D} {x y:V} {u v:Value},A.units+n<cLine->pln n d1=true->pln n d2=true->DR X.K ρ H d1 x->DR X.K ρ H d2 y->ZC x u->ZC y v->Vt A s u v (eqD d1 d2):=by
 intro n A d1 d2 x y u v hu p1 p2 h1 h2 ru rv;cases d1 with
 |non=>
  rw [h1.of_non] at ru;cases ru;cases d2 with
  |non=>rw [h2.of_non] at rv;cases rv;exact Vt.none_none
  |bl c=>rw [h2.of_bl] at rv;cases rv;exact Vt.none_bool c
  |int c=>rw [h2.of_int] at rv;obtain⟨t',rfl⟩:=rv;exact Vt.none_int c t'
  |str c=>rw [h2.of_str] at rv;obtain⟨t',rfl⟩:=rv;exact Vt.none_str c t'
  |tup bs=>
   obtain⟨b,ys,rfl,b1,b2⟩:=h2.of_tup
   cases rv;obtain⟨its,_,pl,_⟩:=I.tuple (.of b1)
   exact Vt.none_tuple pl (by omega)
  |ref _=>cases n<;>cases p2
  |scr _=>cases n<;>cases p2
 |bl a=>
  rw [h1.of_bl] at ru;cases ru;cases d2 with
  |non=>rw [h2.of_non] at rv;cases rv;exact Vt.bool_none a
  |bl c=>rw [h2.of_bl] at rv;cases rv;exact Vt.bool_bool a c
  |int c=>rw [h2.of_int] at rv;obtain⟨t',rfl⟩:=rv;exact Vt.bool_int a c t'
  |str c=>rw [h2.of_str] at rv;obtain⟨t',rfl⟩:=rv;exact Vt.bool_str a c t'
  |tup bs=>
   obtain⟨b,ys,rfl,b1,b2⟩:=h2.of_tup
   cases rv;obtain⟨its,_,pl,_⟩:=I.tuple (.of b1)
   exact Vt.bool_tuple a pl (by omega)
  |ref _=>cases n<;>cases p2
  |scr _=>cases n<;>cases p2
 |int a=>
  rw [h1.of_int] at ru;obtain⟨t,rfl⟩:=ru
  cases d2 with
  |non=>rw [h2.of_non] at rv;cases rv;exact Vt.int_none a t
  |bl c=>rw [h2.of_bl] at rv;cases rv;exact Vt.int_bool a t c
  |int c=>rw [h2.of_int] at rv;obtain⟨t',rfl⟩:=rv;exact Vt.int_int a t c t'
  |str c=>rw [h2.of_str] at rv;obtain⟨t',rfl⟩:=rv;exact Vt.int_str a t c t'
  |tup bs=>
   obtain⟨b,ys,rfl,b1,b2⟩:=h2.of_tup
   cases rv;obtain⟨its,_,pl,_⟩:=I.tuple (.of b1)
   exact Vt.int_tuple a t pl (by omega)
  |ref _=>cases n<;>cases p2
  |scr _=>cases n<;>cases p2
 |str a=>
  rw [h1.of_str] at ru;obtain⟨t,rfl⟩:=ru
  cases d2 with
  |non=>rw [h2.of_non] at rv;cases rv;exact Vt.str_none a t
  |bl c=>rw [h2.of_bl] at rv;cases rv;exact Vt.str_bool a t c
  |int c=>rw [h2.of_int] at rv;obtain⟨t',rfl⟩:=rv;exact Vt.str_int a t c t'
  |str c=>rw [h2.of_str] at rv;obtain⟨t',rfl⟩:=rv;exact Vt.str_str a t c t'
  |tup bs=>
   obtain⟨b,ys,rfl,b1,b2⟩:=h2.of_tup
   cases rv;obtain⟨its,_,pl,_⟩:=I.tuple (.of b1)
   exact Vt.str_tuple a t pl (by omega)
  |ref _=>cases n<;>cases p2
  |scr _=>cases n<;>cases p2
 |tup as=>
  obtain⟨a,xs,rfl,a1,a2⟩:=h1.of_tup
  cases ru;cases d2 with
  |non=>
   rw [h2.of_non] at rv;cases rv;obtain⟨its,_,pl,_⟩:=I.tuple (.of a1)
   exact Vt.tuple_none pl (by omega)
  |bl c=>
   rw [h2.of_bl] at rv;cases rv;obtain⟨its,_,pl,_⟩:=I.tuple (.of a1)
   exact Vt.tuple_bool c pl (by omega)
  |int c=>
   rw [h2.of_int] at rv;obtain⟨t',rfl⟩:=rv
   obtain⟨its,_,pl,_⟩:=I.tuple (.of a1)
   exact Vt.tuple_int c t' pl (by omega)
  |str c=>
   rw [h2.of_str] at rv;obtain⟨t',rfl⟩:=rv
   obtain⟨its,_,pl,_⟩:=I.tuple (.of a1)
   exact Vt.tuple_str c t' pl (by omega)
  |tup bs=>
   obtain⟨b,ys,rfl,b1,b2⟩:=h2.of_tup
   cases rv;cases n with
   |zero=>cases p1
   |succ n=>
    unfold pln at p1 p2;obtain⟨its,r1,pl1,_⟩:=I.tuple (.of a1)
    obtain⟨its2,r2,pl2,_⟩:=I.tuple (.of b1)
    have he:eqD (.tup as) (.tup bs)=((W6 (min its.toArray.size its2.toArray.size)).all (λj=>eqD (as.getD j .non) (bs.getD j .non))&&its.toArray.size == its2.toArray.size):=by
     rw [Jl,QP,Wo,Wo,<-r1.length,<-r2.length,<-a2.length,<-b2.length]
    have hj:∀j (h1:j<its.toArray.size) (h2:j<its2.toArray.size),V6 A.in1 s its.toArray[j] its2.toArray[j] (eqD (as.getD j .non) (bs.getD j .non)):=by
     intro j j1 j2;rw [Wo] at j1 j2;have l1:j<as.length:=by rw [a2.length,r1.length];exact j1
     have l2:j<bs.length:=by rw [b2.length,r2.length];exact j2
     have g1:as[j]? = some (as.getD j .non):=by simp [W0j,Wl l1]
     have g2:bs[j]? = some (bs.getD j .non):=by simp [W0j,Wl l2]
     obtain⟨x,x1,x2⟩:=a2.get g1
     obtain⟨y,y1,y2⟩:=b2.get g2
     obtain⟨u,u1,u2⟩:=r1.get x1
     obtain⟨v,v1,v2⟩:=r2.get y1
     have e1:its.toArray[j]=u:=by rw [Wl j1] at u1;simpa using u1
     have e2:its2.toArray[j]=v:=by rw [Wl j2] at v1;simpa using v1
     rw [e1,e2];exact Gy I n (by rw [in1_units];omega) (Ww.mp p1 _ (V4 g1)) (Ww.mp p2 _ (V4 g2)) x2 y2 u2 v2
    rw [he];exact W2G pl1 pl2 (by omega) hj
  |ref _=>cases n<;>cases p2
  |scr _=>cases n<;>cases p2
 |ref _=>cases n<;>cases p1
 |scr _=>cases n<;>cases p1
include I in
theorem Db:∀(n:Nat) {A:Around} {d1 d2:D} {x y:V} {u v:Value},A.units+n<cLine->pln n d1=true->pln n d2=true->DR X.K ρ H d1 x->DR X.K ρ H d2 y->ZC x u->ZC y v->V8 A s u v (!eqD d1 d2):=by
 intro n A d1 d2 x y u v hu p1 p2 h1 h2 ru rv;cases d1 with
 |non=>
  rw [h1.of_non] at ru;cases ru;cases d2 with
  |non=>rw [h2.of_non] at rv;cases rv;exact V8.none_none
  |bl c=>rw [h2.of_bl] at rv;cases rv;exact V8.none_bool c
  |int c=>rw [h2.of_int] at rv;obtain⟨t',rfl⟩:=rv;exact V8.none_int c t'
  |str c=>rw [h2.of_str] at rv;obtain⟨t',rfl⟩:=rv;exact V8.none_str c t'
  |tup bs=>
   obtain⟨b,ys,rfl,b1,b2⟩:=h2.of_tup
   cases rv;obtain⟨its,_,pl,_⟩:=I.tuple (.of b1)
   exact V8.none_tuple pl (by omega)
  |ref _=>cases n<;>cases p2
  |scr _=>cases n<;>cases p2
 |bl a=>
  rw [h1.of_bl] at ru;cases ru;cases d2 with
  |non=>rw [h2.of_non] at rv;cases rv;exact V8.bool_none a
  |bl c=>rw [h2.of_bl] at rv;cases rv;exact V8.bool_bool a c
  |int c=>rw [h2.of_int] at rv;obtain⟨t',rfl⟩:=rv;exact V8.bool_int a c t'
  |str c=>rw [h2.of_str] at rv;obtain⟨t',rfl⟩:=rv;exact V8.bool_str a c t'
  |tup bs=>
   obtain⟨b,ys,rfl,b1,b2⟩:=h2.of_tup
   cases rv;obtain⟨its,_,pl,_⟩:=I.tuple (.of b1)
   exact V8.bool_tuple a pl (by omega)
  |ref _=>cases n<;>cases p2
  |scr _=>cases n<;>cases p2
 |int a=>
  rw [h1.of_int] at ru;obtain⟨t,rfl⟩:=ru
  cases d2 with
  |non=>rw [h2.of_non] at rv;cases rv;exact V8.int_none a t
  |bl c=>rw [h2.of_bl] at rv;cases rv;exact V8.int_bool a t c
  |int c=>rw [h2.of_int] at rv;obtain⟨t',rfl⟩:=rv;exact V8.int_int a t c t'
  |str c=>rw [h2.of_str] at rv;obtain⟨t',rfl⟩:=rv;exact V8.int_str a t c t'
  |tup bs=>
   obtain⟨b,ys,rfl,b1,b2⟩:=h2.of_tup
   cases rv;obtain⟨its,_,pl,_⟩:=I.tuple (.of b1)
   exact V8.int_tuple a t pl (by omega)
  |ref _=>cases n<;>cases p2
  |scr _=>cases n<;>cases p2
 |str a=>
  rw [h1.of_str] at ru;obtain⟨t,rfl⟩:=ru
  cases d2 with
  |non=>rw [h2.of_non] at rv;cases rv;exact V8.str_none a t
  |bl c=>rw [h2.of_bl] at rv;cases rv;exact V8.str_bool a t c
  |int c=>rw [h2.of_int] at rv;obtain⟨t',rfl⟩:=rv;exact V8.str_int a t c t'
  |str c=>rw [h2.of_str] at rv;obtain⟨t',rfl⟩:=rv;exact V8.str_str a t c t'
  |tup bs=>
   obtain⟨b,ys,rfl,b1,b2⟩:=h2.of_tup
   cases rv;obtain⟨its,_,pl,_⟩:=I.tuple (.of b1)
   exact V8.str_tuple a t pl (by omega)
  |ref _=>cases n<;>cases p2
  |scr _=>cases n<;>cases p2
 |tup as=>
  obtain⟨a,xs,rfl,a1,a2⟩:=h1.of_tup
  cases ru;cases d2 with
  |non=>
   rw [h2.of_non] at rv;cases rv;obtain⟨its,_,pl,_⟩:=I.tuple (.of a1)
   exact V8.tuple_none pl (by omega)
  |bl c=>
   rw [h2.of_bl] at rv;cases rv;obtain⟨its,_,pl,_⟩:=I.tuple (.of a1)
   exact V8.tuple_bool c pl (by omega)
  |int c=>
   rw [h2.of_int] at rv;obtain⟨t',rfl⟩:=rv
   obtain⟨its,_,pl,_⟩:=I.tuple (.of a1)
   exact V8.tuple_int c t' pl (by omega)
  |str c=>
   rw [h2.of_str] at rv;obtain⟨t',rfl⟩:=rv
   obtain⟨its,_,pl,_⟩:=I.tuple (.of a1)
   exact V8.tuple_str c t' pl (by omega)
  |tup bs=>
   obtain⟨b,ys,rfl,b1,b2⟩:=h2.of_tup
   cases rv;cases n with
   |zero=>cases p1
   |succ n=>
    unfold pln at p1 p2;obtain⟨its,r1,pl1,_⟩:=I.tuple (.of a1)
    obtain⟨its2,r2,pl2,_⟩:=I.tuple (.of b1)
    have he:eqD (.tup as) (.tup bs)=((W6 (min its.toArray.size its2.toArray.size)).all (λj=>eqD (as.getD j .non) (bs.getD j .non))&&its.toArray.size == its2.toArray.size):=by
     rw [Jl,QP,Wo,Wo,<-r1.length,<-r2.length,<-a2.length,<-b2.length]
    have hj:∀j (h1:j<its.toArray.size) (h2:j<its2.toArray.size),V6 A.in1 s its.toArray[j] its2.toArray[j] (eqD (as.getD j .non) (bs.getD j .non)):=by
     intro j j1 j2;rw [Wo] at j1 j2;have l1:j<as.length:=by rw [a2.length,r1.length];exact j1
     have l2:j<bs.length:=by rw [b2.length,r2.length];exact j2
     have g1:as[j]? = some (as.getD j .non):=by simp [W0j,Wl l1]
     have g2:bs[j]? = some (bs.getD j .non):=by simp [W0j,Wl l2]
     obtain⟨x,x1,x2⟩:=a2.get g1
     obtain⟨y,y1,y2⟩:=b2.get g2
     obtain⟨u,u1,u2⟩:=r1.get x1
     obtain⟨v,v1,v2⟩:=r2.get y1
     have e1:its.toArray[j]=u:=by rw [Wl j1] at u1;simpa using u1
     have e2:its2.toArray[j]=v:=by rw [Wl j2] at v1;simpa using v1
     rw [e1,e2];exact Gy I n (by rw [in1_units];omega) (Ww.mp p1 _ (V4 g1)) (Ww.mp p2 _ (V4 g2)) x2 y2 u2 v2
    rw [he];exact V8.tuples pl1 pl2 (by omega) hj
  |ref _=>cases n<;>cases p2
  |scr _=>cases n<;>cases p2
 |ref _=>cases n<;>cases p1
 |scr _=>cases n<;>cases p1
end
end DL
namespace DL
open PySem PySem.Spec PyProof.Rows L2
def IA (A:Around)(s:Shared)(y x:Value)(b:Bool):Prop:=
 ∀(prog:Program) (w:World) (E:Value->Shared->Prop) (Q:Value->Shared->Prop),Q (.bool b) s->wpAny (model prog w) A (compareOp .Lt y x) Q E s
def M7:List (Bool×Bool)->Bool->Bool
 |[],fin=>fin
 |p :: r,fin=>if p.1=true then M7 r fin else p.2
section
open PySem.SeqAt
open PySem.AutoSeq1 (wpAny_loadPart')
open PySem.MeetsSeq PySem.MeetsSeq2 PySem.MeetsSeq3
def GI (A:Around)(s:Shared)(q:Value×Value)(p:Bool×Bool):Prop:=EqAt A s q.1 q.2 p.1/\(p.1=false->IA A s q.1 q.2 p.2)
theorem Kx (l b:Addr)(items items2:Array Value)(n n2:Nat)(dd dd2:Option Addr)(sl sl2:Array (Option Value))(ps:List (Bool×Bool)) :
  Meets (Builtin.«tuple.__lt__» ⟨[.ref l,.ref b],[]⟩)
   (λA R s=>s.heap.get? l=some { cls:=.type "tuple",dict:=dd,data:=.seq items n,slots:=sl }/\s.heap.get? b=some { cls:=.type "tuple",dict:=dd2,data:=.seq items2 n2,slots:=sl2 }/\
    Paired (GI A.in1 s) (items.toList.zip items2.toList) ps/\R (.ok (.ret (.bool (M7 ps (decide (items.size<items2.size)))))) s):=
 .of_wp λprog w A R s h=>by
  obtain⟨hp,g,d,tk,os⟩:=s;obtain⟨hl,hb,hps,h⟩:=h
  have f2:=AutoSeq1.sub_tuple_tuple
  wp_walk using wpAny_loadPart' hl,wpAny_loadPart' hb,W0P _ (λQn b s'=>b.1=none/\s'=⟨hp,g,d,tk,os⟩/\∃(qs:List (Bool×Bool)),Paired (GI A.in1 ⟨hp,g,d,tk,os⟩) Qn qs/\
   R (.ok (.ret (.bool (M7 qs (decide (items.size<items2.size)))))) ⟨hp,g,d,tk,os⟩) _
  case turn=>
   rintro⟨y,x⟩ Qn b s' ⟨hb',rfl,qs,hq,hR⟩
   cases hq with
   | @cons _ p _ qs' hp1 hq'=>
    obtain⟨he,hlt⟩:=hp1
    refine W0 (he prog w _ _ ?_)
    obtain⟨pe,pl⟩:=p
    unfold M7 at hR;cases pe with
    |true=>
     rw [if_pos rfl] at hR
     wp_walk
     exact⟨rfl,rfl,qs',hq',hR⟩
    |false=>
     rw [if_neg Wy] at hR;have hri:∀(E:Value->Shared->Prop) (Q:Value->Shared->Prop),Q (.bool pl) ⟨hp,g,d,tk,os⟩->wpAny (model prog w) A.in1 (richCompare .Lt y x) Q E ⟨hp,g,d,tk,os⟩:=hlt rfl prog w
     wp_walk using hri
     exact⟨_,rfl,by simpa using hR⟩
  case fin=>
   rintro⟨b1,b2⟩ s' ⟨hb',rfl,qs,hq,hR⟩
   simp only at hb'
   subst hb'
   cases hq;unfold M7 at hR
   wp_walk
   exact⟨_,rfl,by simpa [Builtin.Tuple.tupleCompareSizes] using hR⟩
  case h=>
   exact⟨rfl,rfl,ps,hps,h⟩
theorem IA.tuples {A:Around}{s:Shared}{l b:Addr}{items items2:Array Value}{ps:List (Bool×Bool)}(hl:s.heap.IsTuple l items)(hb:s.heap.IsTuple b items2)(hu:A.units<cLine)(hp:Paired (GI A.in1 s) (items.toList.zip items2.toList) ps) :
  IA A s (.ref l) (.ref b) (M7 ps (decide (items.size<items2.size))):=λprog w E Q h=>by
 obtain⟨⟨cls,dd,data,sl⟩,ho,hc,n,hd⟩:=id hl
 obtain⟨⟨cls2,dd2,data2,sl2⟩,ho2,hc2,n2,hd2⟩:=id hb
 simp only at hc hd hc2 hd2
 subst hc hd hc2 hd2;exact richCompare_meets_room (op:=.Lt) ⟨_,ho,rfl⟩ ⟨_,ho2,rfl⟩ PySem.F.slot_tuple_lt PySem.F.entry_tuple_lt (PySem.F.args_tuple_lt_2 _ _) (Kx l b items items2 n n2 dd dd2 sl sl2 ps)
  ⟨ho,ho2,hp,show Value.bool (M7 ps (decide (items.size<items2.size)))≠Value.notImplemented/\Q (.bool (M7 ps (decide (items.size<items2.size)))) s from ⟨(λx=>nomatch x),h⟩⟩ hu
end
mutual
def ltD:D->D->Bool
 | .int a,b=>match b with | .int c=>decide (a<c)|_=>false
 | .str a,b=>match b with | .str c=>decide (a.cps.toList<c.cps.toList)|_=>false
 | .tup as,b=>match b with | .tup bs=>ltDs as bs|_=>false
 | .non,_=>false
 | .bl _,_=>false
 | .ref _,_=>false
 | .scr _,_=>false
def ltDs:List D->List D->Bool
 |[],b=>match b with|[]=>false|_ :: _=>true
 |a :: as,b=>match b with|[]=>false|b :: bs=>if eqD a b=true then ltDs as bs else ltD a b
end
def Qb:Nat->D->D->Bool
 |_,.int _,.int _=>true
 |_,.str _,.str _=>true
 |n+1,.tup as,.tup bs=>(as.zip bs).all λp=>Qb n p.1 p.2
 |_,_,_=>false
theorem QU (as bs:List D):ltD (.tup as) (.tup bs)=ltDs as bs:=by unfold ltD;rfl
theorem YC (a b:D)(as bs:List D):ltDs (a :: as) (b :: bs)=if eqD a b=true then ltDs as bs else ltD a b:=by conv=>lhs;unfold ltDs
theorem B3:∀(as bs:List D),ltDs as bs=M7 ((as.zip bs).map λp=>(eqD p.1 p.2,ltD p.1 p.2)) (decide (as.length<bs.length))
 |[],[]=>by simp [ltDs,M7]
 |[],_ :: _=>by simp [ltDs,M7]
 |_ :: _,[]=>by simp [ltDs,M7]
 |a :: as,b :: bs=>by
  rw [YC,B3 as bs,WM,W1,WS,WS]
  conv=>rhs;unfold M7
  have:decide (as.length+1<bs.length+1)=decide (as.length<bs.length):=by
   rw [VX];simp
  rw [this]
section
variable {X:Cx} {pins:List (Addr×Obj)} {σ:L2.St} {H:Hp} {s:Shared} {ρ:List Addr} (I:Inv X pins σ H s)
include I in
theorem Eu:∀(n:Nat) {A:Around} {d1 d2:D} {x y:V} {u v:Value},A.units+n<cLine->Qb n d1 d2=true->pln n d1=true->pln n d2=true->DR X.K ρ H d1 x->DR X.K ρ H d2 y->ZC x u->ZC y v->IA A s u v (ltD d1 d2):=by
 intro n
 induction n with
 |zero=>
  intro A d1 d2 x y u v hu hc p1 p2 h1 h2 ru rv;cases d1 with
  |int a=>
   cases d2 with
   |int c=>
    rw [h1.of_int] at ru;rw [h2.of_int] at rv
    obtain⟨t,rfl⟩:=ru;obtain⟨t',rfl⟩:=rv
    exact λprog w E Q h=>lt_int (by unfold ltD at h;exact h)
   |_=>cases hc
  |str a=>
   cases d2 with
   |str c=>
    rw [h1.of_str] at ru;rw [h2.of_str] at rv
    obtain⟨t,rfl⟩:=ru;obtain⟨t',rfl⟩:=rv
    exact λprog w E Q h=>PySem.P.lt_str (by unfold ltD at h;exact h)
   |_=>cases hc
  |tup _=>cases p1
  |_=>cases hc
 |succ n ih=>
  intro A d1 d2 x y u v hu hc p1 p2 h1 h2 ru rv;cases d1 with
  |int a=>
   cases d2 with
   |int c=>
    rw [h1.of_int] at ru;rw [h2.of_int] at rv
    obtain⟨t,rfl⟩:=ru;obtain⟨t',rfl⟩:=rv
    exact λprog w E Q h=>lt_int (by unfold ltD at h;exact h)
   |_=>cases hc
  |str a=>
   cases d2 with
   |str c=>
    rw [h1.of_str] at ru;rw [h2.of_str] at rv
    obtain⟨t,rfl⟩:=ru;obtain⟨t',rfl⟩:=rv
    exact λprog w E Q h=>PySem.P.lt_str (by unfold ltD at h;exact h)
   |_=>cases hc
  |tup as=>
   cases d2 with
   |tup bs=>
    obtain⟨a,xs,rfl,a1,a2⟩:=h1.of_tup
    obtain⟨b,ys,rfl,b1,b2⟩:=h2.of_tup
    cases ru;cases rv;unfold pln at p1 p2;unfold Qb at hc;obtain⟨its,r1,pl1,_⟩:=I.tuple (.of a1)
    obtain⟨its2,r2,pl2,_⟩:=I.tuple (.of b1)
    have key:∀{as bs:List D} {xs ys:List V} {its its2:List Value},as.all (pln n)=true->bs.all (pln n)=true->((as.zip bs).all λp=>Qb n p.1 p.2)=true->DsR X.K ρ H as xs->DsR X.K ρ H bs ys->ZZ xs its->ZZ ys its2->
      Paired (GI A.in1 s) (its.zip its2) ((as.zip bs).map λp=>(eqD p.1 p.2,ltD p.1 p.2)):=by
     intro as
     induction as with
     |nil=>
      intro bs xs ys its its2 _ _ _ q1 _ q3 _;unfold DsR at q1;subst q1;cases q3;exact .nil
     |cons d as ih2=>
      intro bs xs ys its its2 z1 z2 z3 q1 q2 q3 q4;unfold DsR at q1;obtain⟨x,r,rfl,h1,h2⟩:=q1
      cases q3 with
      |cons r1 r2=>
       cases bs with
       |nil=>
        unfold DsR at q2;subst q2;cases q4;exact .nil
       |cons e bs=>
        unfold DsR at q2;obtain⟨y,r',rfl,h3,h4⟩:=q2
        cases q4 with
        |cons r3 r4=>
         rw [Vs,Wm] at z1 z2;rw [WM,Vs,Wm] at z3;rw [WM,WM,W1];refine .cons ⟨Gy I n (by rw [in1_units];omega) z1.1 z2.1 h1 h3 r1 r3,λ_=>ih (by rw [in1_units];omega) z3.1 z1.1 z2.1 h1 h3 r1 r3⟩ (ih2 z1.2 z2.2 z3.2 h2 h4 r2 r4)
    have hl:=IA.tuples (A:=A) pl1 pl2 (by omega) (key p1 p2 hc a2 b2 r1 r2)
    rw [QU,B3,a2.length,b2.length,r1.length,r2.length]
    simpa using hl
   |_=>cases hc
  |_=>cases hc
end
end DL
namespace DL
open PySem L2
theorem Nf (a b:D)(as bs:List D):eqDs (a :: as) (b :: bs)=(eqD a b&&eqDs as bs):=by conv=>lhs;unfold eqDs
theorem Rb:∀(n:Nat) (a b:D),Qb n a b=true->Qb n b a=true:=by
 intro n
 induction n with
 |zero=>
  intro a b h;cases a<;>cases b<;>first|rfl|cases h
 |succ n ih=>
  intro a b h;cases a<;>cases b<;>first|rfl|cases h|skip
  rename_i as bs
  unfold Qb at h ⊢
  rw [Ww] at h ⊢
  intro p hp;refine ih _ _ (h (p.2,p.1) ?_)
  obtain⟨i,hi,e⟩:=W0F.mp hp
  rw [VA] at hi;rw [List.getElem_zip] at e;rw [<-e];refine W0F.mpr ⟨i,by rw [VA];omega,?_⟩
  rw [List.getElem_zip]
theorem Z1k:∀(n:Nat) (a b:D),Qb n a b=true->eqD a b=true->a=b:=by
 intro n
 induction n with
 |zero=>
  intro a b h e;cases a<;>cases b<;>first|cases h|skip
  ·unfold eqD at e;rw [eq_of_beq e]
  ·unfold eqD at e;rw [eq_of_beq e]
 |succ n ih=>
  intro a b h e;cases a<;>cases b<;>first|cases h|skip
  ·unfold eqD at e;rw [eq_of_beq e]
  ·unfold eqD at e;rw [eq_of_beq e]
  ·rename_i as bs
   unfold Qb at h;rw [Jl] at e
   congr 1
   induction as generalizing bs with
   |nil=>
    cases bs with
    |nil=>rfl
    |cons _ _=>unfold eqDs at e;cases e
   |cons x xs ih2=>
    cases bs with
    |nil=>unfold eqDs at e;cases e
    |cons y ys=>
     rw [Nf,Wm] at e;rw [WM,Vs,Wm] at h;rw [ih x y h.1 e.1,ih2 ys e.2 h.2]
theorem Jm {n:Nat}{a b:D}(h:Qb n a b=true)(ha:pln n a=true):(a=b->eqD a b=true)/\(a≠b->eqD a b=false):=by
 refine⟨λe=>?_,λe=>?_⟩
 ·subst e;exact YR n a ha
 ·cases q:eqD a b
  ·rfl
  ·exact absurd (Z1k n a b h q) e
theorem M5:∀(n:Nat) (a:D),pln n a=true->ltD a a=false:=by
 intro n
 induction n with
 |zero=>
  intro a h;cases a<;>first|cases h|skip
  ·unfold ltD;rfl
  ·unfold ltD;rfl
  ·unfold ltD;simp
  ·unfold ltD;simp only [decide_eq_false_iff_not];exact List.lt_irrefl _
 |succ n ih=>
  intro a h;cases a<;>first|cases h|skip
  ·unfold ltD;rfl
  ·unfold ltD;rfl
  ·unfold ltD;simp
  ·unfold ltD;simp only [decide_eq_false_iff_not];exact List.lt_irrefl _
  ·rename_i as
   unfold pln at h;rw [QU]
   induction as with
   |nil=>unfold ltDs;rfl
   |cons x xs ih2=>
    rw [Vs,Wm] at h;rw [YC,if_pos (YR n x h.1),ih2 h.2]
theorem Tz:∀(n:Nat) (a b:D),Qb n a b=true->pln n a=true->pln n b=true->a=b\/ltD a b=true\/ltD b a=true:=by
 have hI:∀i j:Int,D.int i=D.int j\/ltD (.int i) (.int j)=true\/ltD (.int j) (.int i)=true:=λi j=>by
  unfold ltD;simp only [decide_eq_true_eq]
  rcases Int.lt_trichotomy i j with h|h|h
  ·exact .inr (.inl h)
  ·exact .inl (by rw [h])
  ·exact .inr (.inr h)
 have hS:∀x y:Str,D.str x=D.str y\/ltD (.str x) (.str y)=true\/ltD (.str y) (.str x)=true:=λx y=>by
  unfold ltD;simp only [decide_eq_true_eq]
  by_cases h1:x.cps.toList<y.cps.toList
  ·exact .inr (.inl h1)
  ·by_cases h2:y.cps.toList<x.cps.toList
   ·exact .inr (.inr h2)
   ·have e:x.cps.toList=y.cps.toList:=List.le_antisymm (List.not_lt.mp h2) (List.not_lt.mp h1)
    refine .inl ?_
    cases x;cases y
    cases Array.toList_inj.mp e
    rfl
 intro n
 induction n with
 |zero=>
  intro a b h ha hb;cases a<;>cases b<;>first|cases h|skip
  ·exact hI _ _
  ·exact hS _ _
 |succ n ih=>
  intro a b h ha hb;cases a<;>cases b<;>first|cases h|skip
  ·exact hI _ _
  ·exact hS _ _
  ·rename_i as bs
   unfold Qb at h;unfold pln at ha hb;rw [QU,QU,D.tup.injEq]
   induction as generalizing bs with
   |nil=>
    cases bs with
    |nil=>exact .inl rfl
    |cons _ _=>exact .inr (.inl (by unfold ltDs;rfl))
   |cons x xs ih2=>
    cases bs with
    |nil=>exact .inr (.inr (by unfold ltDs;rfl))
    |cons y ys=>
     rw [Vs,Wm] at ha hb;rw [WM,Vs,Wm] at h;rw [YC,YC];by_cases q:x=y
     ·subst q
      rw [if_pos (YR n x ha.1),if_pos (YR n x ha.1)];rcases ih2 ys h.2 ha.2 hb.2 with z|z|z
      ·exact .inl (by rw [z])
      ·exact .inr (.inl z)
      ·exact .inr (.inr z)
     ·rw [(Jm h.1 ha.1).2 q,(Jm (Rb n x y h.1) hb.1).2 (Ne.symm q),if_neg Wy,if_neg Wy]
      rcases ih x y h.1 ha.1 hb.1 with z|z|z
      ·exact absurd z q
      ·exact .inr (.inl z)
      ·exact .inr (.inr z)
theorem Et:∀(n:Nat) (a b c:D),Qb n a b=true->Qb n b c=true->Qb n a c=true->pln n a=true->pln n b=true->pln n c=true->ltD a b=true->ltD b c=true->ltD a c=true:=by
 have hI:∀i j k:Int,ltD (.int i) (.int j)=true->ltD (.int j) (.int k)=true->ltD (.int i) (.int k)=true:=λi j k h1 h2=>by
  unfold ltD at *
  simp only [decide_eq_true_eq] at *
  omega
 have hS:∀i j k:Str,ltD (.str i) (.str j)=true->ltD (.str j) (.str k)=true->ltD (.str i) (.str k)=true:=λi j k h1 h2=>by
  unfold ltD at *
  simp only [decide_eq_true_eq] at *
  exact List.lt_trans h1 h2
 intro n
 induction n with
 |zero=>
  intro a b c h1 h2 h3 ha hb hc l1 l2;cases a<;>cases b<;>first|cases h1|skip
  all_goals cases c<;>first|cases h2|skip
  ·exact hI _ _ _ l1 l2
  ·exact hS _ _ _ l1 l2
 |succ n ih=>
  intro a b c h1 h2 h3 ha hb hc l1 l2;cases a<;>cases b<;>first|cases h1|skip
  all_goals cases c<;>first|cases h2|skip
  ·exact hI _ _ _ l1 l2
  ·exact hS _ _ _ l1 l2
  ·rename_i as bs cs
   unfold Qb at h1 h2 h3;unfold pln at ha hb hc;rw [QU] at l1 l2 ⊢
   induction as generalizing bs cs with
   |nil=>
    cases bs with
    |nil=>unfold ltDs at l1;cases l1
    |cons _ _=>
     cases cs with
     |nil=>unfold ltDs at l2;cases l2
     |cons _ _=>unfold ltDs;rfl
   |cons x xs ih2=>
    cases bs with
    |nil=>unfold ltDs at l1;cases l1
    |cons y ys=>
     cases cs with
     |nil=>unfold ltDs at l2;cases l2
     |cons z zs=>
      rw [Vs,Wm] at ha hb hc;rw [WM,Vs,Wm] at h1 h2 h3;rw [YC] at l1 l2 ⊢
      by_cases q1:x=y
      ·subst q1
       rw [if_pos (YR n x ha.1)] at l1;by_cases q2:x=z
       ·subst q2
        rw [if_pos (YR n x ha.1)] at l2 ⊢
        exact ih2 ys l1 zs l2 h1.2 h2.2 h3.2 ha.2 hb.2 hc.2
       ·rw [(Jm h2.1 hb.1).2 q2,if_neg Wy] at l2
        rw [(Jm h3.1 ha.1).2 q2,if_neg Wy];exact l2
      ·rw [(Jm h1.1 ha.1).2 q1,if_neg Wy] at l1
       by_cases q2:y=z
       ·subst q2
        rw [(Jm h3.1 ha.1).2 q1,if_neg Wy];exact l1
       ·rw [(Jm h2.1 hb.1).2 q2,if_neg Wy] at l2
        have l3:=ih x y z h1.1 h2.1 h3.1 ha.1 hb.1 hc.1 l1 l2
        have q3:x≠z:=λe=>by
         subst e;rw [M5 n x ha.1] at l3;cases l3
        rw [(Jm h3.1 ha.1).2 q3,if_neg Wy];exact l3
def YZ (n:Nat)(ds:List D):Prop:=(∀a∈ds,pln n a=true)/\∀a∈ds,∀b∈ds,Qb n a b=true
theorem YZ.as {n:Nat}{ds:List D}(h:YZ n ds){a b:D}(ha:a∈ds)(hb:b∈ds)(l:ltD a b=true):ltD b a=false:=by
 cases q:ltD b a
 ·rfl
 ·have:=Et n a b a (h.2 a ha b hb) (h.2 b hb a ha) (h.2 a ha a ha) (h.1 a ha) (h.1 b hb) (h.1 a ha) l q
  rw [M5 n a (h.1 a ha)] at this;cases this
theorem YZ.le_tr {n:Nat}{ds:List D}(h:YZ n ds){a b c:D}(ha:a∈ds)(hb:b∈ds)(hc:c∈ds)(l1:ltD b a=false)(l2:ltD c b=false):ltD c a=false:=by
 rcases Tz n a b (h.2 a ha b hb) (h.1 a ha) (h.1 b hb) with z|z|z
 ·subst z;exact l2
 ·rcases Tz n b c (h.2 b hb c hc) (h.1 b hb) (h.1 c hc) with y|y|y
  ·subst y;exact l1
  ·exact h.as ha hc (Et n a b c (h.2 a ha b hb) (h.2 b hb c hc) (h.2 a ha c hc) (h.1 a ha) (h.1 b hb) (h.1 c hc) z y)
  ·rw [l2] at y;cases y
 ·rw [l1] at z;cases z
theorem YZ.anti {n:Nat}{ds:List D}(h:YZ n ds){a b:D}(ha:a∈ds)(hb:b∈ds)(l1:ltD b a=false)(l2:ltD a b=false):a=b:=by
 rcases Tz n a b (h.2 a ha b hb) (h.1 a ha) (h.1 b hb) with z|z|z
 ·exact z
 ·rw [l2] at z;cases z
 ·rw [l1] at z;cases z
def II (x:D):List D->List D
 |[]=>[x]
 |y :: r=>if ltD y x=true then y :: II x r else x :: y :: r
def ZT:List D->List D
 |[]=>[]
 |x :: r=>II x (ZT r)
theorem Bf (x:D):∀l:List D,(II x l).Perm (x :: l)
 |[]=>.refl _
 |y :: r=>by
  unfold II;split
  ·exact ((Bf x r).cons y).trans (.swap x y r)
  ·exact .refl _
theorem Y1:∀l:List D,(ZT l).Perm l
 |[]=>.refl _
 |x :: r=>(Bf x (ZT r)).trans ((Y1 r).cons x)
abbrev leD (a b:D):Prop:=ltD b a=false
theorem Gu {n:Nat}{ds:List D}(h:YZ n ds){x:D}(hx:x∈ds):∀{l:List D},(∀a∈l,a∈ds)->l.Pairwise leD->(II x l).Pairwise leD
 |[],_,_=>List.pairwise_singleton _ _
 |y :: r,hm,hs=>by
  rw [VT] at hs;have hy:=hm y Wp
  unfold II;split
  ·rename_i c
   rw [VT];refine⟨λa ha=>?_,Gu h hx (λa ha=>hm a (Wu _ ha)) hs.2⟩
   rcases Wv.mp ((Bf x r).mem_iff.mp ha) with z|z
   ·subst z;exact h.as hy hx c
   ·exact hs.1 a z
  ·rename_i c
   have c':ltD y x=false:=by simpa using c
   rw [VT,VT];refine⟨λa ha=>?_,hs⟩
   rcases Wv.mp ha with z|z
   ·subst z;exact c'
   ·exact h.le_tr hx hy (hm a ha) c' (hs.1 a z)
theorem Yo {n:Nat}{ds:List D}(h:YZ n ds):∀{l:List D},(∀a∈l,a∈ds)->(ZT l).Pairwise leD
 |[],_=>.nil
 |x :: r,hm=>Gu h (hm x Wp) (λa ha=>hm a (Wu _ ((Y1 r).mem_iff.mp ha))) (Yo h λa ha=>hm a (Wu _ ha))
theorem NE {n:Nat}{ds out:List D}(h:YZ n ds)(hp:out.Perm ds)(hs:out.Pairwise leD):out=ZT ds:=
 List.Perm.eq_of_pairwise (le:=leD) (λa b ha hb l1 l2=>h.anti (hp.mem_iff.mp ha) ((Y1 ds).mem_iff.mp hb) l1 l2) hs (Yo h λ_ z=>z) (hp.trans (Y1 ds).symm)
end DL
namespace DL
open PySem PySem.Spec PyProof.Rows L2
section
variable {X:Cx} {e a b c:Expr} {es:List Expr} {pos:Pos} {st:Stmt} {Qn:List Stmt}
def mNx:MS:=λen S=>some (.nx,en,S)
def Ye (a b:MS):MS:=λen S=>(a en S).bind λp=>match p.1 with | .nx=>b p.2.1 p.2.2|f=>some (f,p.2.1,p.2.2)
theorem Ym:SB X [] mNx:=by
 refine Pc HW ?_
 rintro D σ H ⟨ρ,en,S,f,en',S',E,R,e,k⟩
 cases e;exact k ρ H σ Ext.refl R E
theorem Ze {m:MS}(h:SS X st m):SB X [st] m:=HV h
theorem Z6 {m n:MS}(h:SS X st m)(t:SB X Qn n):SB X (st :: Qn) (Ye m n):=by
 refine Pc (A3 h t) ?_
 rintro D σ H ⟨ρ,en,S,f,en',S',E,R,e,k⟩
 unfold Ye at e;obtain⟨p,e1,e⟩:=W4.mp e
 obtain⟨fa,en1,S1⟩:=p
 refine⟨ρ,en,S,fa,en1,S1,E,R,e1,λρ1 H1 σ1 X1 R1 E1=>?_⟩
 cases fa with
 |nx=>exact⟨ρ1,en1,S1,f,en',S',E1,R1,e,λρ2 H2 σ2 X2 R2 E2=>k ρ2 H2 σ2 (X1.trans X2) R2 E2⟩
 |rt d=>cases e;exact k ρ1 H1 σ1 X1 R1 E1
 |bk=>cases e;exact k ρ1 H1 σ1 X1 R1 E1
 |ct=>cases e;exact k ρ1 H1 σ1 X1 R1 E1
def Qp (m:M D):MS:=λen S=>(m en S).map λp=>(.rt p.1,en,p.2)
theorem Zs {m:M D}(h:SE X e m):SS X (.Return (some e) pos) (Qp m):=by
 refine JV (Dn h) ?_
 rintro D σ H ⟨ρ,en,S,f,en',S',E,R,e,k⟩
 unfold Qp at e;obtain⟨p,e1,e2⟩:=Wi.mp e
 cases e2;exact⟨ρ,en,S,p.1,p.2,E,R,e1,λx ρ1 H1 X1 R1 d1=>k ρ1 H1 σ X1 R1 (E.up X1) x d1⟩
def BS (m:M D):MS:=λen S=>(m en S).map λp=>(.nx,en,p.2)
theorem ND {m:M D}(h:SE X e m)(hs:swapsWith e none pos.line X.env=pure false:=by rfl):SS X (.Expr e pos) (BS m):=by
 refine JV (HY h hs) ?_
 rintro D σ H ⟨ρ,en,S,f,en',S',E,R,e,k⟩
 unfold BS at e;obtain⟨p,e1,e2⟩:=Wi.mp e
 cases e2;exact⟨ρ,en,S,p.1,p.2,E,R,e1,λx ρ1 H1 X1 R1 d1=>k ρ1 H1 σ X1 R1 (E.up X1)⟩
def JN (c:M Bool)(a b:MS):MS:=λen S=>(c en S).bind λp=>if p.1 then a en p.2 else b en p.2
theorem Qo {c:Expr}{A B:List Stmt}{mc:M Bool}{ma mb:MS}(hc:ST X c mc)(ha:SB X A ma)(hb:SB X B mb):SS X (.If c A B pos) (JN mc ma mb):=by
 refine JV (Z0G hc ha hb) ?_
 rintro D σ H ⟨ρ,en,S,f,en',S',E,R,e,k⟩
 unfold JN at e;obtain⟨p,e1,e⟩:=W4.mp e
 refine⟨ρ,en,S,p.1,p.2,E,R,e1,λρ1 H1 X1 R1=>?_⟩
 by_cases hp:p.1=true
 ·rw [if_pos hp] at e ⊢
  exact⟨ρ1,en,p.2,f,en',S',E.up X1,R1,e,λρ2 H2 σ2 X2 R2 E2=>k ρ2 H2 σ2 (X1.trans X2) R2 E2⟩
 ·rw [if_neg hp] at e ⊢
  exact⟨ρ1,en,p.2,f,en',S',E.up X1,R1,e,λρ2 H2 σ2 X2 R2 E2=>k ρ2 H2 σ2 (X1.trans X2) R2 E2⟩
def GD (K:W8)(g:TG)(gd:D->En->Option En):Prop:=
 ∀ρ H en σ d v en',EnR K ρ H en σ->DR K ρ H d v->gd d en=some en'->∃σ',EnR K ρ H en' σ'/\∀Q:L2.St->Hp->Prop,Q σ' H->g v σ H Q
def GsD (K:W8)(g:TGs)(gd:List D->En->Option En):Prop:=
 ∀ρ H en σ ds vs en',EnR K ρ H en σ->DsR K ρ H ds vs->gd ds en=some en'->∃σ',EnR K ρ H en' σ'/\∀Q:L2.St->Hp->Prop,Q σ' H->g vs σ H Q
def gN (i:Nat):D->En->Option En:=λd en=>some (en.set i (some d))
def G9:List D->En->Option En:=λds en=>match ds with|[]=>some en|_=>none
def YJ (g:D->En->Option En)(r:List D->En->Option En):List D->En->Option En:=λds en=>match ds with|[]=>none|d :: ds=>(g d en).bind (r ds)
def gT (n:Nat)(gs:List D->En->Option En):D->En->Option En:=λd en=>match d with | .tup ds=>if ds.length=n then gs ds en else none|_=>none
theorem Zn {K:W8}{i:Nat}:GD K (Md i) (gN i):=by
 intro ρ H en σ d v en' E h e
 cases e;exact⟨_,E.set h,λQ q=>q⟩
theorem Bh {K:W8}:GsD K Xd G9:=by
 intro ρ H en σ ds vs en' E h e
 cases ds with
 |nil=>
  cases e;have hv:vs=[]:=by unfold DsR at h;exact h
  exact⟨σ,E,λQ q=>⟨hv,q⟩⟩
 |cons d ds=>cases e
theorem Qv {K:W8}{t:TG}{u:TGs}{g:D->En->Option En}{r:List D->En->Option En}(h1:GD K t g)(h2:GsD K u r):GsD K (LI t u) (YJ g r):=by
 intro ρ H en σ ds vs en' E h e
 cases ds with
 |nil=>cases e
 |cons d ds=>
  obtain⟨en1,e1,e2⟩:=W4.mp e
  unfold DsR at h;obtain⟨x,xs,rfl,d1,d2⟩:=h
  obtain⟨σ1,E1,k1⟩:=h1 ρ H en σ d x en1 E d1 e1
  obtain⟨σ2,E2,k2⟩:=h2 ρ H en1 σ1 ds xs en' E1 d2 e2
  exact⟨σ2,E2,λQ q=>⟨x,xs,rfl,k1 _ (k2 Q q)⟩⟩
theorem Ki {K:W8}{n:Nat}{t:TGs}{gs:List D->En->Option En}(h:GsD K t gs):GD K (Z1i K n t) (gT n gs):=by
 intro ρ H en σ d v en' E hd e
 cases d with
 |tup ds=>
  obtain⟨a,xs,rfl,h1,h2⟩:=hd.of_tup
  dsimp only [gT] at e;split at e
  ·obtain⟨σ',E',k⟩:=h ρ H en σ ds xs en' E h2 e
   exact⟨σ',E',λQ q=>⟨a,xs,rfl,.of h1,by rw [<-h2.length];assumption,k Q q⟩⟩
  ·cases e
 |_=>cases e
def YB (m:M D)(g:D->En->Option En):MS:=λen S=>(m en S).bind λp=>(g p.1 en).map λen'=>(.nx,en',p.2)
theorem Ks {K:W8}{m:M D}{g:TG}{gd:D->En->Option En}(hg:GD K g gd){D:Ends}{σ:L2.St}{H:Hp}(h:tMS K (YB m gd) D σ H):Z00 (tM K m) g D σ H:=by
 obtain⟨ρ,en,S,f,en',S',E,R,e,k⟩:=h
 unfold YB at e;obtain⟨p,e1,e⟩:=W4.mp e
 obtain⟨en1,e2,e3⟩:=Wi.mp e
 cases e3;refine⟨ρ,en,S,p.1,p.2,E,R,e1,λx ρ1 H1 X1 R1 d1=>?_⟩
 obtain⟨σ',E',q⟩:=hg ρ1 H1 en σ p.1 x _ (E.up X1) d1 e2
 exact q _ (k ρ1 H1 σ' X1 R1 E')
theorem D3 {tg:Expr}{m:M D}{g:TG}{gd:D->En->Option En}(he:SE X e m)(hp:PG X tg g)(hg:GD X.K g gd)(hs:swapsWithSole [tg] e pos.line X.env=pure false:=by rfl)(hw:swappedStores [tg] e X.env=pure none:=by rfl)
  (h1:(assignEach [tg] X.env).map (·.2)=[assign tg X.env]:=by rfl):SS X (.Assign [tg] e pos) (YB m gd):=JV (Eh he hp hs hw h1) λ_ _ _=>Ks hg
theorem Zp {i:Nat}{x:Str}{m:M D}{pos':Pos}(hN:X.N.Nodup)(hi:X.N[i]? = some x)(hx:Loc X.env.scope x)(he:SE X e m)(hs:swapsWith e (some (.Name x pos')) pos.line X.env=pure false:=by rfl)
  (hf:X.fn x=true\/X.env.scope.names.lookup x=some .local:=by first|exact .inl rfl|exact .inr rfl|assumption):SS X (.Assign [.Name x pos'] e pos) (YB m (gN i)):=
 JV (Dm hN hi hx he hs hf) λ_ _ _=>Ks Zn
inductive Gd where
 |no
 |lst (n:Nat)
 |zl (gs:List (Nat×List D))
 |fr (n:Nat) (kvs:List (D×D)) (th:Bool)
def Gf (gd:Gd)(ds:List D)(S:Sto):Prop:=match gd with | .no=>True | .lst n=>S[n]? = some (.lst ds) | .zl gs=>∀p∈gs,S[p.1]? = some (.lst p.2) | .fr n kvs _=>S[n]? = some (.fdct kvs)
def FB (gd:Gd)(S:Sto):Option Sto:=match gd with
 | .fr n _ true=>match S[n]? with|some (.fdct kvs)=>some (S.set n (.dct kvs))|_=>none
 |_=>some S
def ItR (K:W8)(ρ0:List Addr)(H0:Hp)(J:It)(ds:List D)(gd:Gd):Prop:=∀ρ H S,Ext ρ0 H0 ρ H->StR K ρ H S->Gf gd ds S->
 (∀(i:Nat) d,ds[i]? = some d->J.go i H/\∀x H',J.yld i H x H'->Ext ρ H ρ H'/\StR K ρ H' S/\DR K ρ H' d x)/\J.stop ds.length H
abbrev ItD:=List D×Gd
def GF (X:Cx)(gd:Gd)(ρ:List Addr)(H:Hp):Prop:=match gd with
 | .fr n _ true=>∃a,ρ[n]? = some a/\(∀o u,H a≠some (.frz o u))/\(∀xs,H a≠some (.tup xs))/\∀o u,X.H₀ a≠some (.frz o u)
 |_=>True
def tMI (X:Cx)(mi:M ItD):TI:=λσ H R=>∃ρ en S r S',EnR X.K ρ H en σ/\StR X.K ρ H S/\mi en S=some (r,S')/\∀J ρ' H',Ext ρ H ρ' H'->StR X.K ρ' H' S'->ItR X.K ρ' H' J r.1 r.2->GF X r.2 ρ' H->R J H'
def SI (X:Cx)(tg iter:Expr)(mi:M ItD):Prop:=PI X tg iter (tMI X mi)
def Ro (X:Cx)(H H':Hp):Prop:=∀pins σ s,Inv X pins σ H s->Inv X pins σ H' s
theorem Ro.refl {X:Cx}{H:Hp}:Ro X H H:=λ_ _ _ h=>h
theorem NN {t:TE}(h:PE X e t):PE X e (λσ H Q=>t σ H λv H'=>∃H'',Ro X H' H''/\Q v H''):=by
 intro pins s σ H Q I q;exact thn (h pins s σ H _ I q) λv s1 ⟨x,H1,I1,r1,H2,th,q1⟩=>⟨x,H2,th _ _ _ I1,r1,q1⟩
theorem Pd {st:Stmt}{t:TS}(h:PS X st t):PS X st (λD σ H=>t ⟨λσ H'=>∃H'',Ro X H' H''/\D.nx σ H'',λv H'=>∃H'',Ro X H' H''/\D.rt v H'',λσ H'=>∃H'',Ro X H' H''/\D.bk σ H'',λσ H'=>∃H'',Ro X H' H''/\D.ct σ H''⟩ σ H):=by
 intro pins s σ H D I q;refine thn (h pins s σ H _ I q) λf s1 z=>?_
 cases f with
 |next=>obtain⟨σ1,H1,I1,H2,th,q1⟩:=z;exact⟨σ1,H2,th _ _ _ I1,q1⟩
 |brk=>obtain⟨σ1,H1,I1,H2,th,q1⟩:=z;exact⟨σ1,H2,th _ _ _ I1,q1⟩
 |cont=>obtain⟨σ1,H1,I1,H2,th,q1⟩:=z;exact⟨σ1,H2,th _ _ _ I1,q1⟩
 |ret u=>obtain⟨v,σ1,H1,I1,r1,H2,th,q1⟩:=z;exact⟨v,σ1,H2,th _ _ _ I1,r1,q1⟩
theorem Kd {pins:List (Addr×Obj)}{σ:L2.St}{H:Hp}{s:Shared}{a:Addr}{o:Obj}{tab:List (Key×V)}(I:Inv X pins σ H s)(e:H a=some (.frz o (.dK tab)))(hn:∀o u,X.H₀ a≠some (.frz o u)):Inv X pins σ (upd H a (.dK tab)) s:=by
 have ho:ZL X.prog X.w H s.heap a (.frz o (.dK tab)):=I.hok a _ e
 have ok':HOk X.prog X.w (upd H a (.dK tab)) s.heap:=λb u hb=>by
  by_cases q:b=a
  ·subst q
   rw [Z7] at hb;cases hb;obtain⟨_,z,hd,vs,r⟩:=ho
   exact⟨z,hd,vs,r⟩
  ·rw [Zf q] at hb
   refine (I.hok b u hb).stay (λ_ _ _ h=>h) (λc h=>?_) λc xs h=>?_
   ·rw [Zf (UW h e (λz=>nomatch z))];exact h
   ·rw [Zf (UW h e (λz=>nomatch z))];exact h
 have ne0:∀{b:Addr},H b=none->upd H a (.dK tab) b=none:=λ{b} h=>by rw [Zf (Ne.symm (Zv e h))];exact h
 refine⟨I.ok,I.os,I.bare,⟨I.base.keep,I.base.slot,λb u h1 h2 h3=>ne0 (I.base.free b u h1 h2 h3),I.base.there,λb xs h=>?_,λb u v h=>?_,λb ps h=>?_⟩,I.loc,I.cell,ne0 I.free,λx c h=>ne0 (I.freeC x c h),λp hp=>?_,ok',I.len⟩
 ·have:=I.base.tups b xs h
  rw [Zf (UW this e (λz=>nomatch z))];exact this
 ·have:=I.base.frzs b u v h
  by_cases q:b=a
  ·subst q;exact absurd h (hn _ _)
  ·rw [Zf q];exact this
 ·obtain⟨more,this⟩:=I.base.tbls b ps h
  exact⟨more,by rw [Zf (UW this e (λz=>nomatch z))];exact this⟩
 ·obtain⟨p1,p2,p3⟩:=I.pin p hp
  exact⟨p1,ne0 p2,p3⟩
theorem GJ {gd:Gd}{ρ ρ' ρ1:List Addr}{H H1 H':Hp}{S' S'':Sto}(X1:Ext ρ H ρ1 H1)(F:GF X gd ρ1 H)(X2:Ext ρ1 H1 ρ' H')(R:StR X.K ρ' H' S')(e:FB gd S'=some S'') :
  ∃H'',Ro X H' H''/\Ext ρ H ρ' H''/\StR X.K ρ' H'' S''/\Ext0 ρ' H' ρ' H''/\∀p o,H' p=none->H'' p=none/\Ro X (upd H' p o) (upd H'' p o):=by
 have triv:some S'=some S''->∃H'',Ro X H' H''/\Ext ρ H ρ' H''/\StR X.K ρ' H'' S''/\Ext0 ρ' H' ρ' H''/\∀p o,H' p=none->H'' p=none/\Ro X (upd H' p o) (upd H'' p o):=λz=>by
  cases z;exact⟨H',.refl,X1.trans X2,R,Ext.refl.weak,λp o h=>⟨h,.refl⟩⟩
 cases gd with
 |no=>exact triv e
 |lst n=>exact triv e
 |zl gs=>exact triv e
 |fr n kvs th=>
  cases th with
  |false=>exact triv e
  |true=>
   obtain⟨a,h1,h2,h3,h4⟩:=F
   dsimp only [FB] at e;split at e
   ·rename_i kvs' hn
    cases e;obtain⟨o,tab,t1,t2,t3⟩:=R.thaw (X2.pre n a h1) hn
    refine⟨_,λpins σ s I=>Kd I t1 h4,⟨λm b hb=>X2.pre m b (X1.pre m b hb),λb xs hb=>?_,λb o u hb=>?_⟩,t2,t3,λp ob hp=>?_⟩
    ·have:=(X1.trans X2).tup b xs hb
     rw [Zf (UW this t1 (λz=>nomatch z))];exact this
    ·have:=(X1.trans X2).frz b o u hb
     by_cases q:b=a
     ·subst q;exact absurd hb (h2 _ _)
     ·rw [Zf q];exact this
    ·have hpa:a≠p:=Zv t1 hp
     refine⟨by rw [Zf (Ne.symm hpa)];exact hp,λpins σ s I=>?_⟩
     have:=Kd (a:=a) (o:=o) (tab:=tab) I (by rw [Zf hpa];exact t1) h4
     have eq:upd (upd H' p ob) a (.dK tab)=upd (upd H' a (.dK tab)) p ob:=by
      funext b
      unfold upd;by_cases q1:b=a
      ·rw [if_pos q1]
       by_cases q2:b=p
       ·exact absurd (q1.symm.trans q2) hpa
       ·rw [if_neg q2,if_pos q1]
      ·rw [if_neg q1]
       by_cases q2:b=p
       ·rw [if_pos q2,if_pos q2]
       ·rw [if_neg q2,if_neg q2,if_neg q1]
     rw [eq] at this;exact this
   ·cases e
theorem Pj {tg iter:Expr}{w w':TI}(h:PI X tg iter w)(i:∀σ H R,w' σ H R->w σ H R):PI X tg iter w':=λpins s σ H R I q=>h pins s σ H R I (i σ H R q)
open Classical in
def Q6 (ds:List D)(gd:Gd)(g:D->En->Option En)(body:MS):List D->En->Sto->Option (Fl×En×Sto)
 |[],en,S=>if Gf gd ds S then some (.nx,en,S) else none
 |d :: r,en,S=>if Gf gd ds S then (g d en).bind λen1=>(body en1 S).bind λp=>match p.1 with
   | .nx=>Q6 ds gd g body r p.2.1 p.2.2
   | .ct=>Q6 ds gd g body r p.2.1 p.2.2
   | .bk=>some (.nx,p.2.1,p.2.2)
   | .rt v=>some (.rt v,p.2.1,p.2.2)
  else none
def thF (gd:Gd)(r:Option (Fl×En×Sto)):Option (Fl×En×Sto):=r.bind λq=>(FB gd q.2.2).map λS'=>(q.1,q.2.1,S')
def Fo (mi:M ItD)(g:D->En->Option En)(body:MS):MS:=λen S=>(mi en S).bind λp=>thF p.1.2 (Q6 p.1.1 p.1.2 g body p.1.1 en p.2)
theorem Gi {tg iter:Expr}{body:List Stmt}{mi:M ItD}{g:TG}{gd:D->En->Option En}{mb:MS}(hp:PassesOwn (model X.prog X.w) X.A X.env X.xe)(hc:X.calm=true)(hi:SI X tg iter mi)(hg:PG X tg g)(hgd:GD X.K g gd)(hb:SB X body mb)
  (hs:∀x,foldedSetIterable iter X.env x=pure x:=by intro _;rfl):SS X (.For tg iter body [] pos) (Fo mi gd mb):=by
 refine JV (Pd (Do hp hc hi hg hb hs)) ?_
 rintro D σ H ⟨ρ,en,S,f,enF,SF,E,R,e,k⟩
 unfold Fo at e;obtain⟨p,e1,e⟩:=W4.mp e
 obtain⟨⟨ds,gdn⟩,S1⟩:=p
 refine⟨ρ,en,S,(ds,gdn),S1,E,R,e1,λJ ρ1 H1 X1 R1 IT GG=>?_⟩
 dsimp only at e IT GG;unfold thF at e;obtain⟨⟨f0,en0,S0⟩,eg,e0⟩:=W4.mp e
 obtain⟨SF',e00,e0⟩:=Wi.mp e0
 injection e0 with z1 z2
 injection z2 with z2 z3
 dsimp only at z1 z2 z3 e00;subst z1 z2 z3;refine⟨λi m σ' H'=>m+i=ds.length/\∃ρ' en' S',Ext ρ1 H1 ρ' H'/\StR X.K ρ' H' S'/\EnR X.K ρ' H' en' σ'/\Q6 ds gdn gd mb (ds.drop i) en' S'=some (f0,en0,S0),⟨ds.length,by omega,ρ1,en,S1,Ext.refl,R1,E.up X1,by simpa using eg⟩,?_⟩
 rintro i m σ' H' ⟨hm,ρ',en1,S2,X2,R2,E2,e2⟩
 cases hd:ds.drop i with
 |nil=>
  rw [hd] at e2;unfold Q6 at e2;split at e2
  ·rename_i hg0
   cases e2;have hi:i=ds.length:=by
    have:=congrArg Va hd
    simp at this
    omega
   subst hi;obtain⟨H9,t1,t2,t3,t4,t5⟩:=GJ X1 GG X2 R2 e00
   exact .inl ⟨(IT ρ' H' _ X2 R2 hg0).2,H9,t1,k ρ' H9 σ' t2 t3 (E2.up0 t4)⟩
  ·cases e2
 |cons d r=>
  rw [hd] at e2;unfold Q6 at e2;split at e2
  ·rename_i hg0
   obtain⟨en3,e3,e2⟩:=W4.mp e2
   obtain⟨q,e4,e2⟩:=W4.mp e2
   obtain⟨fq,en4,S4⟩:=q
   have hlt:i<ds.length:=by
    have:=congrArg Va hd
    simp at this
    omega
   have hdi:ds[i]? = some d:=by
    have:=congrArg (λl=>l[0]?) hd
    simpa using this
   have hr:ds.drop (i+1)=r:=by
    have:=congrArg List.tail hd
    simpa using this
   obtain⟨go,yl⟩:=(IT ρ' H' _ X2 R2 hg0).1 i d hdi
   refine .inr ⟨go,λσ'' H''=>∃ρ'' en'' S'',Ext ρ1 H1 ρ'' H''/\StR X.K ρ'' H'' S''/\EnR X.K ρ'' H'' en'' σ''/\Q6 ds gdn gd mb r en'' S''=some (f0,en0,S0),λσ'' H'' ⟨ρ'',en'',S'',a1,a2,a3,a4⟩=>⟨m-1,by omega,by omega,ρ'',en'',S'',a1,a2,a3,by rw [hr];exact a4⟩,λx H3 y=>?_⟩
   obtain⟨X3,R3,d3⟩:=yl x H3 y
   obtain⟨σ3,E3,gq⟩:=hgd ρ' H3 en1 σ' d x en3 (E2.up X3) d3 e3
   refine gq _ ⟨ρ',en3,S2,fq,en4,S4,E3,R3,e4,λρ4 H4 σ4 X4 R4 E4=>?_⟩
   cases fq with
   |nx=>exact⟨ρ4,en4,S4,(X2.trans X3).trans X4,R4,E4,e2⟩
   |ct=>exact⟨ρ4,en4,S4,(X2.trans X3).trans X4,R4,E4,e2⟩
   |bk=>
    cases e2;obtain⟨H9,t1,t2,t3,t4,t5⟩:=GJ X1 GG ((X2.trans X3).trans X4) R4 e00
    exact⟨H9,t1,k ρ4 H9 σ4 t2 t3 (E4.up0 t4)⟩
   |rt v=>
    cases e2;obtain⟨H9,t1,t2,t3,t4,t5⟩:=GJ X1 GG ((X2.trans X3).trans X4) R4 e00
    exact λx dx=>⟨H9,t1,k ρ4 H9 σ4 t2 t3 (E4.up0 t4) x (DR.mono t4 _ _ dx)⟩
  ·cases e2
open Classical in
def ZK (ds:List D)(gd:Gd)(cap:En)(g:D->En->Option En)(c:M Bool)(m:M D):List D->List D->Sto->Option (List D×Sto)
 |[],acc,S=>if Gf gd ds S/\acc.length<=Wk then some (acc,S) else none
 |d :: r,acc,S=>if Gf gd ds S/\acc.length<=Wk then (g d cap).bind λen=>(c en S).bind λp=>
   if p.1 then (m en p.2).bind λq=>ZK ds gd cap g c m r (acc++[q.1]) q.2 else ZK ds gd cap g c m r acc p.2
  else none
def JG (nT:Nat)(caps:List Nat)(en:En):En:=W0E nT none++caps.map λj=>(en[j]?).getD none
def thC (gd:Gd)(r:Option (List D×Sto)):Option (List D×Sto):=r.bind λq=>(FB gd q.2).map λS'=>(q.1,S')
def YA (mi:M ItD)(nT:Nat)(caps:List Nat)(g:D->En->Option En)(c:M Bool)(m:M D):M (List D):=λen S=>(mi en S).bind λp=>thC p.1.2 (ZK p.1.1 p.1.2 (JG nT caps en) g c m p.1.1 [] p.2)
theorem XR {K:W8}{ρ:List Addr}{H:Hp}{en:En}{σ:L2.St}{nT:Nat}{caps:List Nat}(E:EnR K ρ H en σ):EnR K ρ H (JG nT caps en) (JF nT caps σ):=by
 refine⟨by simp [JG,JF],λi d e=>?_⟩
 unfold JG at e;have hi:nT<=i:=by
  by_cases hi:i<nT
  ·rw [V3 (by simpa using hi),W0n] at e
   split at e<;>cases e
  ·exact W0N hi
 rw [WV (by simpa using hi),W0C,WE] at e
 unfold JF;rw [WV (by simpa using hi),W0C,WE]
 cases ej:caps[i-nT]? with
 |none=>rw [ej] at e;cases e
 |some j=>
  rw [ej] at e;have e':(en[j]?).getD none=some d:=WW e
  have e2:en[j]? = some (some d):=by
   cases q:en[j]? with
   |none=>rw [q] at e';cases e'
   |some z=>rw [q] at e';rw [show z=some d from e']
  obtain⟨x,h1,h2⟩:=E.get j d e2
  exact⟨x,by rw [W3,h1];rfl,h2⟩
def Qf:M Bool:=λ_ S=>some (true,S)
theorem Uf {mi:M ItD}{nT:Nat}{caps:List Nat}{g:TG}{gd:D->En->Option En}{tt:TT}{c:M Bool}{m:M D}(hgd:GD X.K g gd)(htt:∀σ H Q,tMT X.K c σ H Q->tt σ H Q){σ:L2.St}{H:Hp}{Q:VK}
  {ρ:List Addr} {en:En} {S S':Sto} {ds:List D} (E:EnR X.K ρ H en σ) (R:StR X.K ρ H S) (e:YA mi nT caps gd c m en S=some (ds,S'))
  (k:∀a xs ρ' H',Ext ρ H ρ' H'->StR X.K ρ' H' S'->H' a=none->DsR X.K ρ' H' ds xs->Q (.ref a) (upd H' a (.lst xs))):Hz (tMI X mi) nT caps g tt (tM X.K m) σ H (λv H'=>∃H'',Ro X H' H''/\Q v H''):=by
 unfold YA at e;obtain⟨p,e1,e⟩:=W4.mp e
 obtain⟨⟨is,gdn⟩,S1⟩:=p
 refine⟨ρ,en,S,(is,gdn),S1,E,R,e1,λJ ρ1 H1 X1 R1 IT GG=>?_⟩
 dsimp only at e IT GG;unfold thC at e;obtain⟨⟨ds0,S0⟩,eg,e0⟩:=W4.mp e
 obtain⟨SF',e00,e0⟩:=Wi.mp e0
 injection e0 with z1 z2
 dsimp only at z1 z2 e00;subst z1 z2;refine⟨λi m0 ys H'=>m0+i=is.length/\∃ρ' S2 acc,Ext ρ1 H1 ρ' H'/\StR X.K ρ' H' S2/\DsR X.K ρ' H' acc ys/\ZK is gdn (JG nT caps en) gd c m (is.drop i) acc S2=some (ds0,S0),⟨is.length,by omega,ρ1,S1,[],Ext.refl,R1,.nil,by simpa using eg⟩,?_⟩
 rintro i m0 ys H' ⟨hm,ρ',S2,acc,X2,R2,D2,e2⟩
 cases hd:is.drop i with
 |nil=>
  rw [hd] at e2;unfold ZK at e2;split at e2
  ·rename_i hg0
   cases e2;have hi:i=is.length:=by
    have:=congrArg Va hd
    simp at this
    omega
   subst hi;refine .inl ⟨(IT ρ' H' _ X2 R2 hg0.1).2,by rw [<-D2.length];exact hg0.2,λa ha=>?_⟩
   obtain⟨H9,t1,t2,t3,t4,t5⟩:=GJ X1 GG X2 R2 e00
   obtain⟨h9,t6⟩:=t5 a (.lst ys) ha
   exact⟨upd H9 a (.lst ys),t6,k a ys ρ' H9 t2 t3 h9 (DsR.mono t4 _ _ D2)⟩
  ·cases e2
 |cons d r=>
  rw [hd] at e2;unfold ZK at e2;split at e2
  ·rename_i hg0
   obtain⟨en3,e3,e2⟩:=W4.mp e2
   obtain⟨q,e4,e2⟩:=W4.mp e2
   have hlt:i<is.length:=by
    have:=congrArg Va hd
    simp at this
    omega
   have hdi:is[i]? = some d:=by
    have:=congrArg (λl=>l[0]?) hd
    simpa using this
   have hr:is.drop (i+1)=r:=by
    have:=congrArg List.tail hd
    simpa using this
   obtain⟨go,yl⟩:=(IT ρ' H' _ X2 R2 hg0.1).1 i d hdi
   refine .inr ⟨go,by rw [<-D2.length];exact hg0.2,λx H3 y=>?_⟩
   obtain⟨X3,R3,d3⟩:=yl x H3 y
   obtain⟨σ3,E3,gq⟩:=hgd ρ' H3 (JG nT caps en) (JF nT caps σ) d x en3 (((XR E).up X1).up X2 |>.up X3) d3 e3
   refine gq _ (htt _ _ _ ⟨ρ',en3,S2,q.1,q.2,E3,R3,e4,λρ4 H4 X4 R4=>?_⟩)
   by_cases hq:q.1=true
   ·rw [if_pos hq] at e2 ⊢
    obtain⟨w,e5,e2⟩:=W4.mp e2
    refine⟨ρ4,en3,q.2,w.1,w.2,E3.up X4,R4,e5,λv ρ5 H5 X5 R5 d5=>⟨m0-1,by omega,by omega,ρ5,w.2,acc++[w.1],((X2.trans X3).trans X4).trans X5,R5,?_,by rw [hr];exact e2⟩⟩
    exact (((D2.up X3).up X4).up X5).append (.cons d5 .nil)
   ·rw [if_neg hq] at e2 ⊢
    exact⟨m0-1,by omega,by omega,ρ4,q.2,acc,(X2.trans X3).trans X4,R4,(D2.up X3).up X4,by rw [hr];exact e2⟩
  ·cases e2
structure CompSc (X:Cx) (scope:Scope) (cn:List Str) (caps:List Nat):Prop where
 cell:∀y∈scope.names,y.2≠.cell
 kind:scope.kind = .function
 names:∀y∈scope.names,y.2 = .local->scope.names.lookup y.1=some .local
 free:∀y∈scope.names,y.2 = .free->X.env.scope.names.lookup y.1=some .cell\/X.env.scope.names.lookup y.1=some .free
 cap:G2 X scope cn caps
section
variable {tg iter elt:Expr} {ifs:List Expr} {scope:Scope} {tgs cn:List Str} {caps:List Nat} {mi:M ItD} {g:TG} {gd:D->En->Option En} {mc:M Bool} {m:M D}
def SF (X:Cx)(ifs:List Expr)(m:M Bool):Prop:=PF X ifs (tMT X.K m)
theorem Jd:SF X [] Qf:=by
 intro pins s σ H Q I q;obtain⟨ρ,en,S,b,S',E,R,e,k⟩:=q
 cases e;exact Dv pins s σ H Q I (k ρ H Ext.refl R)
theorem JS {c:Expr}(h:ST X c mc):SF X [c] mc:=Du h
theorem Um (hc:X.calm=true)(sc:CompSc X scope cn caps)(hi:SI X tg iter mi)(hlow:Ft tgs.length g)(hgd:GD X.K g gd)
  (hg:∀fp s H C,PG (ZH X scope (tgs++cn) fp s H C) tg g) (hf:∀fp s H C,SF (ZH X scope (tgs++cn) fp s H C) ifs mc) (he:∀fp s H C,SE (ZH X scope (tgs++cn) fp s H C) elt m)
  (hs:∀x,foldedSetIterable iter X.env x=pure x:=by intro _;rfl):SQ X (.ListComp elt [⟨tg,iter,ifs,0⟩] scope pos) (YA mi tgs.length caps gd mc m):=by
 refine ZA (NN (NO (tt:=tMT X.K mc) (te:=tM X.K m) hc sc.cell sc.kind sc.names sc.free sc.cap hi hlow hg hf he hs)) ?_
 rintro σ H Q ⟨ρ,en,S,ds,S',E,R,e,k⟩
 exact Uf hgd (λ_ _ _ h=>h) E R e λa xs ρ' H' X1 R1 ha d1=>k a xs ρ' _ (X1.trans (Ext.new ha)) (R1.new ha) (.inl (.of Z7)) (d1.up (Ext.new ha))
def QT (m:M (List D)):M D:=λen S=>(m en S).map λp=>(.ref p.2.length,p.2++[.lst p.1])
theorem Uq (hc:X.calm=true)(sc:CompSc X scope cn caps)(hi:SI X tg iter mi)(hlow:Ft tgs.length g)(hgd:GD X.K g gd)
  (hg:∀fp s H C,PG (ZH X scope (tgs++cn) fp s H C) tg g) (hf:∀fp s H C,SF (ZH X scope (tgs++cn) fp s H C) ifs mc) (he:∀fp s H C,SE (ZH X scope (tgs++cn) fp s H C) elt m)
  (hs:∀x,foldedSetIterable iter X.env x=pure x:=by intro _;rfl):SE X (.ListComp elt [⟨tg,iter,ifs,0⟩] scope pos) (QT (YA mi tgs.length caps gd mc m)):=by
 refine ZA (NN (NO (tt:=tMT X.K mc) (te:=tM X.K m) hc sc.cell sc.kind sc.names sc.free sc.cap hi hlow hg hf he hs)) ?_
 rintro σ H Q ⟨ρ,en,S,v,S',E,R,e,k⟩
 unfold QT at e;obtain⟨p,e1,e2⟩:=Wi.mp e
 cases e2;refine Uf hgd (λ_ _ _ h=>h) E R e1 λa xs ρ' H' X1 R1 ha d1=>?_
 refine k _ (ρ'++[a]) _ (X1.trans (Ext.newRef ha)) (R1.push ha ⟨xs,Z7,d1.up (Ext.newRef ha)⟩) (.ref ?_)
 rw [<-R1.len];simp
end
theorem HD {tg iter elt:Expr}{ifs:List Expr}{scope:Scope}{tgs cn:List Str}{caps:List Nat}{mi:M ItD}{g:TG}{gd:D->En->Option En}{mc:M Bool}{m:M D}{i:Nat}{y:Str}{py spos:Pos}
  (hN:X.N.Nodup) (hy:X.N[i]? = some y) (hx:X.env.scope.names.lookup y=some .local)
  (hc:X.calm=true) (sc:CompSc X scope cn caps) (hi:SI X tg iter mi) (hlow:Ft tgs.length g) (hgd:GD X.K g gd)
  (hg:∀fp s H C,PG (ZH X scope (tgs++cn) fp s H C) tg g) (hf:∀fp s H C,SF (ZH X scope (tgs++cn) fp s H C) ifs mc) (he:∀fp s H C,SE (ZH X scope (tgs++cn) fp s H C) elt m)
  (hsw:swapsWith (.ListComp elt [⟨tg,iter,ifs,0⟩] scope pos) (some (.Name y py)) spos.line X.env=pure true:=by rfl)
  (hs:∀x,foldedSetIterable iter X.env x=pure x:=by intro _;rfl):SS X (.Assign [.Name y py] (.ListComp elt [⟨tg,iter,ifs,0⟩] scope pos) spos) (YB (QT (YA mi tgs.length caps gd mc m)) (gN i)):=by
 refine JV (Pd (HX (tt:=tMT X.K mc) (te:=tM X.K m) hsw hN hy hx hc sc.cell sc.kind sc.names sc.free sc.cap hi hlow hg hf he hs)) ?_
 rintro D σ H ⟨ρ,en,S,f,en',S',E,R,e,k⟩
 unfold YB QT at e;obtain⟨p,e1,e⟩:=W4.mp e
 obtain⟨q,e2,e3⟩:=Wi.mp e1
 obtain⟨en1,e4,e5⟩:=Wi.mp e
 cases e3;cases e4;cases e5;refine Uf (Q:=λv H''=>D.nx (σ.set i (some v)) H'') hgd (λ_ _ _ h=>h) E R e2 λa xs ρ' H' X1 R1 ha d1=>?_
 have d2:DR X.K (ρ'++[a]) (upd H' a (.lst xs)) (.ref q.2.length) (.ref a):=.ref (by rw [<-R1.len];simp)
 exact k (ρ'++[a]) _ _ (X1.trans (Ext.newRef ha)) (R1.push ha ⟨xs,Z7,d1.up (Ext.newRef ha)⟩) ((E.up (X1.trans (Ext.newRef ha))).set d2)
def spD (K:W8)(n:Nat)(F:List D->Sto->Option (D×Sto)):Sp:=λvs H Q _=>vs.length=n/\rDs K F vs H Q
def Zm (F:List D->Sto->Option (D×Sto))(m:M (List D)):M D:=λen S=>(m en S).bind λp=>F p.1 p.2
theorem Za {x:Str}{p:Pos}{k n:Nat}{f:Addr}{fd:FuncData}{ps:List Str}{F:List D->Sto->Option (D×Sto)}{m:M (List D)}(hF:FnOk X.prog X.w X.K X.mg X.base CX0 k f fd ps (spD X.K n F))(hr:Room k X.A)(hg:Gl X x)(hm:X.mg x=some (.ref f))
  (hk:WI X.K (.ref f)=true) (hb:JH X.K fd ps []) (ha:SA X (a :: es) m)
  (hlen:∀en S r,m en S=some r->r.1.length=n)
  (hdb:(x == ("__debug__" : Str))=false:=by decide) (he:Wr (a :: es) X.env=(false,eval a X.env) :: Wr es X.env:=by rfl) (hpl:(backTo pos (Wr es X.env)).any (·.1)=false:=by rfl) :
  SE X (.Call (.Name x p) (a :: es) [] pos) (Zm F m):=by
 refine ZA (Sb hF hr hg hm hk hb .nil Aa ha hdb he hpl) ?_
 rintro σ H Q ⟨ρ,en,S,v,S',E,R,e,k⟩
 unfold Zm at e;obtain⟨r,e1,e2⟩:=W4.mp e
 refine⟨ρ,en,S,r.1,r.2,E,R,e1,λxs ρ1 H1 X1 R1 d1=>?_⟩
 show spD X.K n F (xs++[]) H1 Q E0
 rw [VL];exact⟨by rw [<-d1.length];exact hlen _ _ _ e1,ρ1,r.2,r.1,v,S',R1,d1,e2,λz ρ2 H2 X2 R2 d2=>k z ρ2 H2 (X1.trans X2) R2 d2⟩
theorem Z8:∀en S r,ZR en S=some r->r.1.length=0:=by
 intro en S r e;cases e;rfl
theorem Z1 {ma:M D}{mr:M (List D)}{n:Nat}(h:∀en S r,mr en S=some r->r.1.length=n):∀en S r,Z3 ma mr en S=some r->r.1.length=n+1:=by
 intro en S r e;unfold Z3 at e;obtain⟨p,e1,e⟩:=W4.mp e
 obtain⟨q,e2,e3⟩:=Wi.mp e
 cases e3;rw [WS,h _ _ _ e2]
mutual
def J6 (n:Nat):D->Bool
 | .tup ds=>lowDs n ds
 | .ref k=>decide (k<n)
 |_=>true
def lowDs (n:Nat):List D->Bool
 |[]=>true
 |d :: ds=>J6 n d&&lowDs n ds
end
section
variable {K:W8} {ρ:List Addr} {H:Hp}
mutual
theorem O9:∀(d:D) (x:V),DR K ρ H d x->J6 ρ.length d=true
 | .non,_,_=>by unfold J6;rfl
 | .bl _,_,_=>by unfold J6;rfl
 | .int _,_,_=>by unfold J6;rfl
 | .str _,_,_=>by unfold J6;rfl
 | .scr _,_,_=>by unfold J6;rfl
 | .tup ds,x,h=>by
  obtain⟨a,xs,_,_,h3⟩:=h.of_tup
  unfold J6;exact lows_of ds xs h3
 | .ref n,x,h=>by
  obtain⟨a,h1,_⟩:=h.of_ref
  unfold J6;exact decide_eq_true (Wn.mp h1).1
theorem lows_of:∀(ds:List D) (xs:List V),DsR K ρ H ds xs->lowDs ρ.length ds=true
 |[],_,_=>by unfold lowDs;rfl
 |d :: ds,xs,h=>by
  unfold DsR at h;obtain⟨x,r,_,h1,h2⟩:=h
  unfold lowDs;rw [O9 d x h1,lows_of ds r h2];rfl
end
mutual
theorem Hd (n:Nat):∀(d:D) (x:V),DR K ρ H d x->J6 n d=true->DR K (ρ.take n) H d x
 | .non,_,h,_=>by unfold DR at h ⊢;exact h
 | .bl _,_,h,_=>by unfold DR at h ⊢;exact h
 | .int _,_,h,_=>by unfold DR at h ⊢;exact h
 | .str _,_,h,_=>by unfold DR at h ⊢;exact h
 | .scr _,_,h,_=>by unfold DR at h ⊢;exact h
 | .tup ds,x,h,l=>by
  obtain⟨a,xs,rfl,h2,h3⟩:=h.of_tup
  unfold J6 at l;exact .tup h2 (cuts_of n ds xs h3 l)
 | .ref k,x,h,l=>by
  obtain⟨a,h1,rfl⟩:=h.of_ref
  unfold J6 at l;exact .ref (by rw [VJ (of_decide_eq_true l)];exact h1)
theorem cuts_of (n:Nat):∀(ds:List D) (xs:List V),DsR K ρ H ds xs->lowDs n ds=true->DsR K (ρ.take n) H ds xs
 |[],_,h,_=>by unfold DsR at h ⊢;exact h
 |d :: ds,xs,h,l=>by
  unfold DsR at h;obtain⟨x,r,rfl,h1,h2⟩:=h
  unfold lowDs at l;rw [Wm] at l;exact .cons (Hd n d x h1 l.1) (cuts_of n ds r h2 l.2)
end
end
theorem XW {K:W8}{ρ ρ1:List Addr}{H H1:Hp}{S S1:Sto}(R:StR K ρ H S)(X:Ext ρ H ρ1 H1)(R1:StR K ρ1 H1 S1)(e:S1.take S.length=S):StR K (ρ1.take S.length) H1 S/\Ext ρ H (ρ1.take S.length) H1:=by
 have hl:S.length<=S1.length:=by
  have:=congrArg Va e
  rw [W0M] at this;omega
 have low:∀(n:Nat) ob,S[n]? = some ob->n<S.length:=λn ob h=>(Wn.mp h).1
 refine⟨⟨by rw [W0M,R1.len];omega,λi j a h1 h2=>?_,λn ob h=>?_⟩,⟨λn a h=>?_,X.tup,X.frz⟩⟩
 ·have hi:i<S.length:=by
   have:=(Wn.mp h1).1
   rw [W0M] at this;omega
  have hj:j<S.length:=by
   have:=(Wn.mp h2).1
   rw [W0M] at this;omega
  rw [VJ hi] at h1;rw [VJ hj] at h2;exact R1.inj i j a h1 h2
 ·have hn:=low n ob h
  have h1:S1[n]? = some ob:=by rw [<-VJ hn,e];exact h
  obtain⟨a,e1,r1⟩:=R1.ob n ob h1
  obtain⟨a0,e0,r0⟩:=R.ob n ob h
  refine⟨a,by rw [VJ hn];exact e1,?_⟩
  cases ob with
  |lst ds=>
   obtain⟨xs,q1,q2⟩:=r1
   obtain⟨ys,p1,p2⟩:=r0
   have l:=lows_of ds ys p2
   rw [R.len] at l;exact⟨xs,q1,cuts_of _ ds xs q2 l⟩
  |dct kvs=>
   have l:lowDs S.length (kvs.map (·.2))=true:=by
    rcases r0 with ⟨ks0,ys,p1,p2,p3,p4⟩|⟨ks0,ys,p1,p2,p3,p4⟩
    ·have l:=lows_of _ ys p4
     rw [R.len] at l;exact l
    ·have l:=lows_of _ ys p4
     rw [R.len] at l;exact l
   rcases r1 with ⟨ks,xs,q1,q2,q3,q4⟩|⟨ks,xs,q1,q2,q3,q4⟩
   ·exact .inl ⟨ks,xs,q1,q2,q3,cuts_of _ _ xs q4 l⟩
   ·exact .inr ⟨ks,xs,q1,q2,q3,cuts_of _ _ xs q4 l⟩
  |fdct kvs=>
   obtain⟨o,ks,xs,q1,q2,q3,q4⟩:=r1
   obtain⟨o',ks0,ys,p1,p2,p3,p4⟩:=r0
   have l:=lows_of _ ys p4
   rw [R.len] at l;exact⟨o,ks,xs,q1,q2,q3,cuts_of _ _ xs q4 l⟩
  |ins C fs=>
   obtain⟨Ca,dx,xs,q0,q1,q2⟩:=r1
   obtain⟨Ca0,dx0,ys,p0,p1,p2⟩:=r0
   have l:=lows_of _ ys p2
   rw [R.len] at l;exact⟨Ca,dx,xs,q0,q1,cuts_of _ _ xs q2 l⟩
 ·have hn:n<S.length:=by rw [<-R.len];exact (Wn.mp h).1
  rw [VJ hn];exact X.pre n a h
open Classical in
def Gh (S:Sto)(r:D×Sto):D×Sto:=if r.2.take S.length=S/\J6 S.length r.1=true then (r.1,S) else r
def J9 (nN:Nat)(ds:List D):En:=ds.map some++W0E (nN-ds.length) none
def J4 (nN n:Nat)(m:MS):List D->Sto->Option (D×Sto):=λds S=>if ds.length=n then (m (J9 nN ds) S).bind λp=>match p.1 with
 | .rt v=>some (Gh S (v,p.2.2))
 | .nx=>some (Gh S (.non,p.2.2))
 |_=>none
 else none
theorem RE {K:W8}{ρ ρ1:List Addr}{H H1:Hp}{S S1 S':Sto}{v v':D}{x:V}{Q:VK}(R:StR K ρ H S)(X:Ext ρ H ρ1 H1)(R1:StR K ρ1 H1 S1)(d:DR K ρ1 H1 v x)(e:Gh S (v,S1)=(v',S'))
  (k:∀z ρ' H',Ext ρ H ρ' H'->StR K ρ' H' S'->DR K ρ' H' v' z->Q z H'):Q x H1:=by
 unfold Gh at e;split at e
 ·rename_i h
  cases e;obtain⟨R2,X2⟩:=XW R X R1 h.1
  exact k x _ H1 X2 R2 (Hd _ v x d h.2)
 ·cases e
  exact k x ρ1 H1 X R1 d
theorem FE {K:W8}{ρ:List Addr}{H:Hp}{ds:List D}{vs:List V}{N:List Str}(h:DsR K ρ H ds vs):EnR K ρ H (J9 N.length ds) (L2.start N vs):=by
 unfold J9 L2.start;refine⟨by simp [h.length],λi d e=>?_⟩
 by_cases hi:i<ds.length
 ·rw [V3 (by simpa using hi),WE] at e
  rw [V3 (by rw [W7,<-h.length];exact hi),WE]
  cases q:ds[i]? with
  |none=>rw [q] at e;cases e
  |some c=>
   rw [q] at e;cases e
   obtain⟨x,h1,h2⟩:=h.get q
   exact⟨x,by rw [h1];rfl,h2⟩
 ·rw [WV (by simpa using hi),W0n] at e
  split at e<;>cases e
theorem U8 {P:Program}{w:World}{K:W8}{mg:Str->Option Value}{base:Heap}{x qual:Str}{st:Stmt}{f:Addr}{fd:FuncData}{N ps:List Str}{k n nN:Nat}{m:MS}(F:Fun K x qual st f fd)(S:FnScope N ps (Z2 st))(hn:ps.length=n)(hN:N.length=nN)
  (hb:∀(cdv:Value) (A:Around) (outer:List Env) (s:Shared) (H:Hp) (E:XK),Room k (A.deeper (envOfC qual (Z2 st) s.heap.objs.size f cdv))->SB (Ip CX0 P w K mg base N qual (Z2 st) f cdv A outer s H E).nox (Zi st) m) :
  FnOk P w K mg base CX0 (k+1) f fd ps (spD K n (J4 nN n m)):=by
 refine F.ok S (λvs H Q E h=>by rw [h.1,hn]) (λcdv A outer s H vs Q E hr h=>?_)
 obtain⟨hl,ρ,S0,ds,v,S',R,d1,e,q⟩:=h
 refine⟨_,hb cdv A outer s H E hr,?_⟩
 unfold J4 at e;split at e
 ·obtain⟨p,e1,e2⟩:=W4.mp e
  obtain⟨fl,en',S1⟩:=p
  refine⟨ρ,_,S0,fl,en',S1,hN ▸ FE d1,R,e1,λρ1 H1 σ1 X1 R1 E1=>?_⟩
  cases fl with
  |rt u=>exact λz dz=>RE R X1 R1 dz (WW e2) q
  |nx=>exact RE R X1 R1 .flat_non (WW e2) q
  |bk=>cases e2
  |ct=>cases e2
 ·cases e
end
end DL
namespace DL
open PySem PySem.Spec PyProof.Rows L2
theorem ZF {k:Nat}{A:Around}(hr:Room k A):A.units+64<cLine:=by have:=hr.un;omega
section
variable {X:Cx}
def gLt:D->D->Sto->Option (D×Sto)
 | .int i,.int j,S=>some (.bl (decide (i<j)),S)
 | .str i,.str j,S=>some (.bl (decide (i.cps.toList<j.cps.toList)),S)
 | .tup as,.tup bs,S=>if (Qb 30 (.tup as) (.tup bs)&&(pln 30 (.tup as)&&pln 30 (.tup bs)))=true then some (.bl (ltD (.tup as) (.tup bs)),S) else none
 |_,_,_=>none
theorem Xf {a b:D}{S S':Sto}{v:D}(e:gLt a b S=some (v,S')):v = .bl (ltD a b)/\S=S'/\Qb 30 a b=true/\pln 30 a=true/\pln 30 b=true:=by
 cases a with
 |int i=>
  cases b with
  |int j=>cases e;exact⟨by unfold ltD;rfl,rfl,rfl,rfl,rfl⟩
  |_=>cases e
 |str i=>
  cases b with
  |str j=>cases e;exact⟨by unfold ltD;rfl,rfl,rfl,rfl,rfl⟩
  |_=>cases e
 |tup as=>
  cases b with
  |tup bs=>
   dsimp only [gLt] at e;split at e
   ·rename_i hc
    cases e;rw [Wm,Wm] at hc;exact⟨rfl,rfl,hc.1,hc.2.1,hc.2.2⟩
   ·cases e
  |_=>cases e
 |_=>cases e
theorem DJ (hu:X.A.units+64<cLine):OpD X (compareOp .Lt) gLt:=by
 intro pins s σ H x y v u Q I rx ry h;obtain⟨ρ,S,d1,d2,z,S',R,h1,h2,e,k⟩:=h
 obtain⟨rfl,rfl,hc,p1,p2⟩:=Xf e
 exact Eu I 30 (by omega) hc p1 p2 h1 h2 rx ry _ _ _ _ ⟨.bl _,H,I,rfl,k _ ρ H Ext.refl R .flat_bl⟩
def CH (a b:D):Bool:=pln 30 a&&pln 30 b
def gEq:D->D->Sto->Option (D×Sto)
 | .int i,.int j,S=>some (.bl (decide (i=j)),S)
 | .str i,.str j,S=>some (.bl (decide (i=j)),S)
 | .bl i,.bl j,S=>some (.bl (decide (i=j)),S)
 |a,b,S=>if CH a b=true then some (.bl (eqD a b),S) else none
def gNe:D->D->Sto->Option (D×Sto)
 | .int i,.int j,S=>some (.bl (!decide (i=j)),S)
 | .str i,.str j,S=>some (.bl (!decide (i=j)),S)
 | .bl i,.bl j,S=>some (.bl (!decide (i=j)),S)
 |a,b,S=>if CH a b=true then some (.bl (!eqD a b),S) else none
theorem Jo {α:Type}[BEq α][LawfulBEq α][DecidableEq α](a b:α):(a == b)=decide (a=b):=by
 rw [VX];simp
theorem Xg {a b:D}{S S':Sto}{v:D}(e:gEq a b S=some (v,S')):v = .bl (eqD a b)/\S=S'/\pln 30 a=true/\pln 30 b=true:=by
 unfold gEq at e;split at e
 ·cases e;exact⟨by unfold eqD;dsimp only;rw [Jo],rfl,rfl,rfl⟩
 ·cases e;exact⟨by unfold eqD;dsimp only;rw [Jo],rfl,rfl,rfl⟩
 ·cases e;exact⟨by unfold eqD;dsimp only;rw [Jo],rfl,rfl,rfl⟩
 ·split at e
  ·rename_i hc
   cases e;unfold CH at hc;rw [Wm] at hc;exact⟨rfl,rfl,hc.1,hc.2⟩
  ·cases e
theorem Xe {a b:D}{S S':Sto}{v:D}(e:gNe a b S=some (v,S')):v = .bl (!eqD a b)/\S=S'/\pln 30 a=true/\pln 30 b=true:=by
 unfold gNe at e;split at e
 ·cases e;exact⟨by unfold eqD;dsimp only;rw [Jo],rfl,rfl,rfl⟩
 ·cases e;exact⟨by unfold eqD;dsimp only;rw [Jo],rfl,rfl,rfl⟩
 ·cases e;exact⟨by unfold eqD;dsimp only;rw [Jo],rfl,rfl,rfl⟩
 ·split at e
  ·rename_i hc
   cases e;unfold CH at hc;rw [Wm] at hc;exact⟨rfl,rfl,hc.1,hc.2⟩
  ·cases e
theorem Qu (hu:X.A.units+64<cLine):OpD X (compareOp .Eq) gEq:=by
 intro pins s σ H x y v u Q I rx ry h;obtain⟨ρ,S,d1,d2,z,S',R,h1,h2,e,k⟩:=h
 obtain⟨rfl,rfl,p1,p2⟩:=Xg e
 exact Dc I 30 (by omega) p1 p2 h1 h2 rx ry _ _ _ _ ⟨.bl _,H,I,rfl,k _ ρ H Ext.refl R .flat_bl⟩
theorem Pp (hu:X.A.units+64<cLine):OpD X (compareOp .NotEq) gNe:=by
 intro pins s σ H x y v u Q I rx ry h;obtain⟨ρ,S,d1,d2,z,S',R,h1,h2,e,k⟩:=h
 obtain⟨rfl,rfl,p1,p2⟩:=Xe e
 exact Db I 30 (by omega) p1 p2 h1 h2 rx ry _ _ _ _ ⟨.bl _,H,I,rfl,k _ ρ H Ext.refl R .flat_bl⟩
def inD (x:D):D->Sto->Option Bool
 | .str j,_=>match x with | .str i=>some (!(Builtin.Str.occurrences j i 0 j.length 1).isEmpty)|_=>none
 | .tup ys,_=>if (pln 30 x&&ys.all (pln 30))=true then some (ys.any λy=>eqD y x) else none
 | .ref n,S=>match S[n]? with
  |some (.lst ys)=>if (pln 30 x&&ys.all (pln 30))=true then some (ys.any λy=>eqD y x) else none
  |_=>(Q7 S n x).map λkvs=>(J7 kvs x).isSome
 |_,_=>none
def gIn:D->D->Sto->Option (D×Sto):=λa b S=>(inD a b S).map λr=>(.bl r,S)
def U6:D->D->Sto->Option (D×Sto):=λa b S=>(inD a b S).map λr=>(.bl (!r),S)
theorem T9 {pins:List (Addr×Obj)}{σ:L2.St}{H:Hp}{s:Shared}{ρ:List Addr}{A:Around}{x:D}{vx:V}{ux:Value}{ys:List D}{vs:List V}{us:List Value}(I:Inv X pins σ H s)(hu:A.units+64<cLine)
  (px:pln 30 x=true) (py:ys.all (pln 30)=true) (hx:DR X.K ρ H x vx) (rx:ZC vx ux) (hy:DsR X.K ρ H ys vs) (ry:ZZ vs us) :
  ∃e:Value->Bool,(∀u,u∈us->V6 A.in1 s u ux (e u))/\us.any e=ys.any λy=>eqD y x:=by
 classical
 let P:Value->D->Prop:=λu d=>pln 30 d=true/\∃v,ZC v u/\DR X.K ρ H d v
 refine⟨λu=>if h:∃d,P u d then eqD (Classical.choose h) x else false,?_,?_⟩
 ·intro u hm
  obtain⟨i,hi⟩:=VP.mp hm
  have hlen:=ry.length
  have hlen2:=hy.length
  have li:i<us.length:=(Wn.mp hi).1
  have g1:ys[i]? = some ys[i]:=Wl (by omega)
  obtain⟨v,v1,v2⟩:=hy.get g1
  obtain⟨u',u1,u2⟩:=ry.get v1
  rw [hi] at u1;cases u1;have pd:=Ww.mp py _ (W08 (by omega:i<ys.length))
  have h:∃d,P u d:=⟨ys[i],pd,v,u2,v2⟩
  dsimp only;rw [dif_pos h];obtain⟨q1,v',q2,q3⟩:=W1Y h
  exact Gy I 30 (by rw [in1_units];omega) q1 px q3 hx q2 rx
 ·have key:∀{ys:List D} {vs:List V} {us:List Value},ys.all (pln 30)=true->DsR X.K ρ H ys vs->ZZ vs us->us.any (λu=>if h:∃d,P u d then eqD (Classical.choose h) x else false)=ys.any λy=>eqD y x:=by
   intro ys
   induction ys with
   |nil=>
    intro vs us _ hy ry;unfold DsR at hy;subst hy;cases ry;rfl
   |cons d ys ih=>
    intro vs us py hy ry;unfold DsR at hy;obtain⟨v,r,rfl,h1,h2⟩:=hy
    cases ry with
    | @cons _ u _ us' r1 r2=>
     rw [Vs,Wm] at py;rw [W0Z,W0Z,ih py.2 h2 r2];have h:∃d,P u d:=⟨d,py.1,v,r1,h1⟩
     rw [dif_pos h];obtain⟨q1,v',q2,q3⟩:=W1Y h
     have hv:v'=v:=ZC.inj q2 r1
     subst hv;rw [DR.one 30 _ d _ q1 py.1 q3 h1]
  exact key py hy ry
theorem MQ (hu:X.A.units+64<cLine):OpD X (compareOp .In) gIn:=by
 intro pins s σ H x y v u Q I rx ry h;obtain⟨ρ,S,d1,d2,z,S',R,h1,h2,e,k⟩:=h
 obtain⟨r,e1,e2⟩:=Wi.mp e
 cases e2;cases d2 with
 |str j=>
  cases d1 with
  |str i=>
   cases e1;rw [h1.of_str] at rx;rw [h2.of_str] at ry;obtain⟨t,rfl⟩:=rx
   obtain⟨t',rfl⟩:=ry
   exact in_str ⟨.bl _,H,I,rfl,k _ ρ H Ext.refl R .flat_bl⟩
  |_=>cases e1
 |tup ys=>
  dsimp only [inD] at e1;split at e1
  ·rename_i hc
   cases e1;rw [Wm] at hc;obtain⟨a,xs,rfl,a1,a2⟩:=h2.of_tup
   cases ry;obtain⟨its,q,pl,hz⟩:=I.tuple (.of a1)
   obtain⟨f,f1,f2⟩:=T9 I hu hc.1 hc.2 h1 rx a2 q
   refine SeqAt.in_tupleAt f pl (λw hw=>f1 w (by simpa using hw)) ⟨.bl _,H,I,rfl,?_⟩
   rw [show its.toArray.any f=its.any f by simp,f2]
   exact k _ ρ H Ext.refl R .flat_bl
  ·cases e1
 |ref n=>
  obtain⟨a,a1,rfl⟩:=h2.of_ref
  cases ry;dsimp only [inD] at e1;split at e1
  ·rename_i ys hn
   split at e1
   ·rename_i hc
    cases e1;rw [Wm] at hc;obtain⟨ob,eo,ro⟩:=R.obj a1
    rw [hn] at eo;cases eo;obtain⟨xs,x1,x2⟩:=ro
    obtain⟨its,q,pl,hz⟩:=I.list (.of x1)
    obtain⟨f,f1,f2⟩:=T9 I hu hc.1 hc.2 h1 rx x2 q
    refine SeqAt.in_listAt f pl.isList (λw hw=>f1 w (by simpa using hw)) ⟨.bl _,H,I,rfl,?_⟩
    rw [show its.toArray.any f=its.any f by simp,f2]
    exact k _ ρ H Ext.refl R .flat_bl
   ·cases e1
  ·obtain⟨kvs,e3,e4⟩:=Wi.mp e1
   subst e4;obtain⟨g1,g2⟩:=TR R a1 e3 h1
   cases hd:J7 kvs d1 with
   |some w=>
    rw [hd] at k;obtain⟨x',x1,x2⟩:=g1 w hd
    exact XQ (by omega) I x1 rx λs' I'=>⟨.bl _,H,I',rfl,k _ ρ H Ext.refl R .flat_bl⟩
   |none=>
    rw [hd] at k;exact XQ (by omega) I (g2 hd) rx λs' I'=>⟨.bl _,H,I',rfl,k _ ρ H Ext.refl R .flat_bl⟩
 |_=>cases e1
theorem BH (hu:X.A.units+64<cLine):OpD X (compareOp .NotIn) U6:=by
 intro pins s σ H x y v u Q I rx ry h;obtain⟨ρ,S,d1,d2,z,S',R,h1,h2,e,k⟩:=h
 obtain⟨r,e1,e2⟩:=Wi.mp e
 cases e2;cases d2 with
 |str j=>
  cases d1 with
  |str i=>
   cases e1;rw [h1.of_str] at rx;rw [h2.of_str] at ry;obtain⟨t,rfl⟩:=rx
   obtain⟨t',rfl⟩:=ry
   exact notIn_str ⟨.bl _,H,I,rfl,k _ ρ H Ext.refl R .flat_bl⟩
  |_=>cases e1
 |tup ys=>
  dsimp only [inD] at e1;split at e1
  ·rename_i hc
   cases e1;rw [Wm] at hc;obtain⟨a,xs,rfl,a1,a2⟩:=h2.of_tup
   cases ry;obtain⟨its,q,pl,hz⟩:=I.tuple (.of a1)
   obtain⟨f,f1,f2⟩:=T9 I hu hc.1 hc.2 h1 rx a2 q
   refine SeqAt.notIn_tupleAt f pl (λw hw=>f1 w (by simpa using hw)) ⟨.bl _,H,I,rfl,?_⟩
   rw [show its.toArray.any f=its.any f by simp,f2]
   exact k _ ρ H Ext.refl R .flat_bl
  ·cases e1
 |ref n=>
  obtain⟨a,a1,rfl⟩:=h2.of_ref
  cases ry;dsimp only [inD] at e1;split at e1
  ·rename_i ys hn
   split at e1
   ·rename_i hc
    cases e1;rw [Wm] at hc;obtain⟨ob,eo,ro⟩:=R.obj a1
    rw [hn] at eo;cases eo;obtain⟨xs,x1,x2⟩:=ro
    obtain⟨its,q,pl,hz⟩:=I.list (.of x1)
    obtain⟨f,f1,f2⟩:=T9 I hu hc.1 hc.2 h1 rx x2 q
    refine SeqAt.notIn_listAt f pl.isList (λw hw=>f1 w (by simpa using hw)) ⟨.bl _,H,I,rfl,?_⟩
    rw [show its.toArray.any f=its.any f by simp,f2]
    exact k _ ρ H Ext.refl R .flat_bl
   ·cases e1
  ·obtain⟨kvs,e3,e4⟩:=Wi.mp e1
   subst e4;obtain⟨g1,g2⟩:=TR R a1 e3 h1
   cases hd:J7 kvs d1 with
   |some w=>
    rw [hd] at k;obtain⟨x',x1,x2⟩:=g1 w hd
    exact Ko (by omega) I x1 rx λs' I'=>⟨.bl _,H,I',rfl,k _ ρ H Ext.refl R .flat_bl⟩
   |none=>
    rw [hd] at k;exact Ko (by omega) I (g2 hd) rx λs' I'=>⟨.bl _,H,I',rfl,k _ ρ H Ext.refl R .flat_bl⟩
 |_=>cases e1
end
end DL
namespace DL
open PySem PySem.Spec PyProof.Rows PySem.W L2
section
variable {X:Cx} {pins:List (Addr×Obj)} {σ:L2.St} {H:Hp} {s:Shared} {ρ:List Addr}
theorem Sd (I:Inv X pins σ H s)(n:Nat){A:Around}(hu:A.units+n<cLine):∀{as bs:List D} {xs ys:List V} {its its2:List Value},as.all (pln n)=true->bs.all (pln n)=true->((as.zip bs).all λp=>Qb n p.1 p.2)=true->DsR X.K ρ H as xs->DsR X.K ρ H bs ys->ZZ xs its->ZZ ys its2->
  Paired (GI A s) (its.zip its2) ((as.zip bs).map λp=>(eqD p.1 p.2,ltD p.1 p.2)):=by
 intro as
 induction as with
 |nil=>
  intro bs xs ys its its2 _ _ _ q1 _ q3 _;unfold DsR at q1;subst q1;cases q3;exact .nil
 |cons d as ih2=>
  intro bs xs ys its its2 z1 z2 z3 q1 q2 q3 q4;unfold DsR at q1;obtain⟨x,r,rfl,h1,h2⟩:=q1
  cases q3 with
  |cons r1 r2=>
   cases bs with
   |nil=>
    unfold DsR at q2;subst q2;cases q4;exact .nil
   |cons e bs=>
    unfold DsR at q2;obtain⟨y,r',rfl,h3,h4⟩:=q2
    cases q4 with
    |cons r3 r4=>
     rw [Vs,Wm] at z1 z2;rw [WM,Vs,Wm] at z3;rw [WM,WM,W1];exact .cons ⟨Gy I n hu z1.1 z2.1 h1 h3 r1 r3,λ_=>Eu I n hu z3.1 z1.1 z2.1 h1 h3 r1 r3⟩ (ih2 z1.2 z2.2 z3.2 h2 h4 r2 r4)
def XX (A:Around)(s:Shared)(k:Bool)(u v:Value)(b:Bool):Prop:=∀(prog:Program) (w:World) (E:Value->Shared->Prop) (Q:Bool->Shared->Prop),Q b s->wpAny (model prog w) A (oneLt' k u v) Q E s
theorem IA.one {A:Around}{u v:Value}{b:Bool}(h:IA A s u v b):XX A s false u v b:=λprog w E Q hq=>kat_one u v (h prog w E _ hq)
theorem EV {A:Around}{b fin:Bool}{prog:Program}{w:World}{Q:Bool->Shared->Prop}:∀{zs:List (Value×Value)} {ps:List (Bool×Bool)} (i:Nat),Paired (GI A s) zs ps->
  (b=true->i=0->∀z r p q,zs=z :: r->ps=p :: q->p.1=false->XX A s true z.1 z.2 p.2)->Q (M7 ps fin) s->KatLex prog w A b fin Q zs i s
 |[],_,i,.nil,_,h=>h
 |z :: zs,p :: ps,i,.cons hp ht,h1,h=>by
  unfold M7 at h;refine kat_cons (hp.1 prog w _ _ ?_)
  cases e:p.1 with
  |true=>
   rw [if_pos e] at h;exact kat_yes (EV (i+1) ht (λ_ z=>absurd z (Nat.succ_ne_zero i)) h)
  |false=>
   rw [if_neg (by rw [e];exact Wy)] at h
   refine kat_no ?_
   have ho:=(hp.2 e).one
   cases hb:b&&i == 0 with
   |false=>exact ho prog w _ _ h
   |true=>
    rw [Wm] at hb;exact h1 hb.1 (eq_of_beq hb.2) z zs p ps rfl rfl e prog w _ _ h
def skD:D->Option Nat
 | .int _=>some 0
 | .str _=>some 1
 | .tup (.int _ :: _)=>some 2
 | .tup (.str _ :: _)=>some 3
 | .tup (.tup _ :: _)=>some 4
 |_=>none
def FL (ds:List D):Bool:=[0,1,2,3,4].any λc=>ds.all λd=>skD d == some c
def Fq (ds:List D):Bool:=ds.all (pln 30)&&ds.all λa=>ds.all λb=>Qb 30 a b
def Yg (ds:List D):Bool:=decide (ds.length<64)&&(decide (ds.length<2)||(FL ds&&Fq ds))
theorem Bk {ds:List D}(h:Fq ds=true):YZ 30 ds:=by
 unfold Fq at h;rw [Wm,Ww,Ww] at h;exact⟨h.1,λa ha b hb=>Ww.mp (h.2 a ha) b hb⟩
theorem Mp {ds:List D}{xs:List V}{vs:List Value}(h:DsR X.K ρ H ds xs)(r:ZZ xs vs){i:Nat}{d:D}(e:ds[i]? = some d):∃x v,DR X.K ρ H d x/\ZC x v/\vs[i]? = some v:=by
 obtain⟨x,x1,x2⟩:=h.get e
 obtain⟨v,v1,v2⟩:=r.get x1
 exact⟨x,v,x2,v2,v1⟩
theorem Mo {ds:List D}{xs:List V}{vs:List Value}(h:DsR X.K ρ H ds xs)(r:ZZ xs vs){v:Value}(hv:v∈vs):∃d x,d∈ds/\DR X.K ρ H d x/\ZC x v:=by
 obtain⟨i,hi,e⟩:=W0F.mp hv
 have hl:ds.length=vs.length:=h.length.trans r.length
 obtain⟨x,v',a,b,c⟩:=Mp h r (i:=i) (Wl (by omega))
 rw [Wl hi,e] at c;cases c;exact⟨_,x,W08 _,a,b⟩
theorem Ea {as:List D}{c:Nat}(e:skD (.tup as)=some c):∃h t,as=h :: t/\((∃i,h = .int i/\c=2)\/(∃x,h = .str x/\c=3)\/∃l,h = .tup l/\c=4):=by
 cases as with
 |nil=>cases e
 |cons h t=>
  cases h with
  |int i=>cases e;exact⟨_,t,rfl,.inl ⟨i,rfl,rfl⟩⟩
  |str i=>cases e;exact⟨_,t,rfl,.inr (.inl ⟨i,rfl,rfl⟩)⟩
  |tup i=>cases e;exact⟨_,t,rfl,.inr (.inr ⟨i,rfl,rfl⟩)⟩
  |_=>cases e
def tyC:Nat->String
 |2=>"int"
 |3=>"str"
 |_=>"tuple"
theorem Ig (I:Inv X pins σ H s){c:Nat}(hc:2<=c){d:D}{x:V}{v:Value}(e:skD d=some c)(h:DR X.K ρ H d x)(r:ZC x v) :
  ∃a o xs n f,v = .ref a/\s.heap.get? a=some o/\o.cls = .type "tuple"/\o.data = .seq xs n/\xs[0]? = some f/\∀M,Looks M s.heap (typeOf f) (.type (tyC c)):=by
 unfold skD at e;split at e
 ·cases e;omega
 ·cases e;omega
 all_goals first|(cases e;done)|skip
 all_goals
  cases e;obtain⟨a,xs,rfl,a1,a2⟩:=h.of_tup
  cases r;obtain⟨its,rv,⟨o,ho,hoc,n,hd⟩,_⟩:=I.tuple (.of a1)
  unfold DsR at a2;obtain⟨y,ys,rfl,b1,b2⟩:=a2
  cases rv with
  | @cons _ f _ fs r1 r2=>
   refine⟨a,o,_,n,f,rfl,ho,hoc,hd,by simp,?_⟩
   first
   | (rw [b1.of_int] at r1;obtain⟨t,rfl⟩:=r1;exact λM=>Looks.of_pure rfl)
   | (rw [b1.of_str] at r1;obtain⟨t,rfl⟩:=r1;exact λM=>Looks.of_pure rfl)
   | (obtain⟨b,zs,rfl,c1,_⟩:=b1.of_tup
      cases r1;obtain⟨_,_,⟨o2,ho2,hc2,_⟩,_⟩:=I.tuple (.of c1)
      exact λM=>kitAt_ty M s.heap ⟨o2,ho2,hc2⟩)
theorem N2 (I:Inv X pins σ H s){c:Nat}(hc:2<=c):∀{ds:List D} {xs:List V} {vs:List Value},(∀d∈ds,skD d=some c)->DsR X.K ρ H ds xs->ZZ xs vs->∃fs,KatTups s.heap vs fs/\fs.length=vs.length/\∀f∈fs,∀M,Looks M s.heap (typeOf f) (.type (tyC c))
 |[],xs,vs,_,h,r=>by
  unfold DsR at h;subst h;cases r;exact⟨[],trivial,rfl,λf hf=>by cases hf⟩
 |d :: ds,xs,vs,hk,h,r=>by
  unfold DsR at h;obtain⟨x,xr,rfl,h1,h2⟩:=h
  cases r with
  |cons r1 r2=>
   obtain⟨fs,f1,f2,f3⟩:=N2 I hc (λd hd=>hk d (Wu _ hd)) h2 r2
   obtain⟨a,o,ys,n,f,rfl,g1,g2,g3,g4,g5⟩:=Ig I hc (hk d Wp) h1 r1
   exact⟨f :: fs,KatTups.cons g1 g2 g3 g4 f1,by simp [f2],λg hg=>by
    rcases Wv.mp hg with z|z
    ·subst z;exact g5
    ·exact f3 g z⟩
theorem PU (I:Inv X pins σ H s){A:Around}(hu:A.units+64<cLine){c:Nat}(hc:2<=c){d1 d2:D}{x y:V}{u v:Value}(e1:skD d1=some c)(e2:skD d2=some c)(p1:pln 30 d1=true)(p2:pln 30 d2=true)(hcm:Qb 30 d1 d2=true)
  (h1:DR X.K ρ H d1 x) (h2:DR X.K ρ H d2 y) (r1:ZC x u) (r2:ZC y v) {prog:Program} {w:World} {E:Value->Shared->Prop} {Q:Bool->Shared->Prop} (hq:Q (ltD d1 d2) s) :
  wpAny (model prog w) A (keyLt' (tuples' (Value.type (tyC c) != Value.type "tuple")) u v) Q E s:=by
 cases d1 with
 |tup as=>
  cases d2 with
  |tup bs=>
   obtain⟨a,xs,rfl,a1,a2⟩:=h1.of_tup
   obtain⟨b,ys,rfl,b1,b2⟩:=h2.of_tup
   cases r1;cases r2;obtain⟨its,rv1,⟨o,ho,hoc,n,hd⟩,_⟩:=I.tuple (.of a1)
   obtain⟨its2,rv2,⟨o2,ho2,hoc2,n2,hd2⟩,_⟩:=I.tuple (.of b1)
   have p1':as.all (pln 29)=true:=by unfold pln at p1;exact p1
   have p2':bs.all (pln 29)=true:=by unfold pln at p2;exact p2
   have hc':((as.zip bs).all λp=>Qb 29 p.1 p.2)=true:=by unfold Qb at hcm;exact hcm
   have hp:=Sd I 29 (A:=A) (by omega) p1' p2' hc' a2 b2 rv1 rv2
   refine kat_lt ho hd ho2 hd2 (EV 0 (by simpa using hp) (λhb _ z r p q ez ep e=>?_) ?_)
   ·obtain⟨h1',t1',rfl,w1⟩:=Ea e1
    obtain⟨h2',t2',rfl,w2⟩:=Ea e2
    unfold DsR at a2 b2;obtain⟨x,_,rfl,a2,_⟩:=a2
    obtain⟨y,_,rfl,b2,_⟩:=b2
    cases rv1 with
    |cons q1 q2=>
     cases rv2 with
     |cons q3 q4=>
      simp only [WM,W1,W06] at ez ep
      obtain⟨rfl,_⟩:=ez
      obtain⟨rfl,_⟩:=ep
      rcases w1 with ⟨i,rfl,rfl⟩|⟨i,rfl,rfl⟩|⟨i,rfl,rfl⟩
      ·rcases w2 with ⟨j,rfl,z⟩|⟨j,rfl,z⟩|⟨j,rfl,z⟩
       ·rw [a2.of_int] at q1
        rw [b2.of_int] at q3;obtain⟨t,rfl⟩:=q1
        obtain⟨t',rfl⟩:=q3
        exact λprog w E Q hq=>oneLt_int (by unfold ltD at hq;exact hq)
       ·cases z
       ·cases z
      ·rcases w2 with ⟨j,rfl,z⟩|⟨j,rfl,z⟩|⟨j,rfl,z⟩
       ·cases z
       ·rw [a2.of_str] at q1
        rw [b2.of_str] at q3;obtain⟨t,rfl⟩:=q1
        obtain⟨t',rfl⟩:=q3
        exact λprog w E Q hq=>oneLt_str (by unfold ltD at hq;exact hq)
       ·cases z
      ·exact absurd hb (by decide)
   ·rw [QU,B3,a2.length,b2.length,rv1.length,rv2.length] at hq
    simpa using hq
  |_=>cases hcm
 |int i=>unfold skD at e1;cases e1;omega
 |str i=>unfold skD at e1;cases e1;omega
 |_=>cases hcm
theorem XU (I:Inv X pins σ H s){ds:List D}{xs:List V}{vs:List Value}(h:DsR X.K ρ H ds xs)(r:ZZ xs vs)(h2:2<=ds.length)(hk:FL ds=true)(hc:Fq ds=true) :
  ∃κ:SortKind,(∀(prog:Program) (w:World) (A:Around) (E:Value->Shared->Prop) (Q:SortKind->Shared->Prop),Q κ s->wpAny (model prog w) A (keyKind' vs.toArray) Q E s)/\
   ∀(prog:Program) (w:World) (A:Around),A.units+64<cLine->∀i j,i<ds.length->j<ds.length->∀C:Bool->Shared->Prop,C (ltD (ds.getD i .non) (ds.getD j .non)) s->kas_ask prog w A κ vs i j C s:=by
 have hl:ds.length=vs.length:=h.length.trans r.length
 obtain⟨hp,hcm⟩:=Bk hc
 unfold FL at hk;rw [WZ] at hk;obtain⟨c,hcm5,hall⟩:=hk
 have hall':∀d∈ds,skD d=some c:=λd hd=>eq_of_beq (Ww.mp hall d hd)
 have at_:∀i,i<ds.length->∃x v,ds.getD i .non∈ds/\DR X.K ρ H (ds.getD i .non) x/\ZC x v/\vs.getD i Value.none=v:=λi hi=>by
  obtain⟨x,v,a,b,e⟩:=Mp h r (i:=i) (Wl hi)
  have e1:ds.getD i .non=ds[i]:=by simp [hi]
  rw [e1];exact⟨x,v,W08 _,a,b,by rw [VB,e];rfl⟩
 by_cases c2:2<=c
 ·obtain⟨fs,f1,f2,f3⟩:=N2 I c2 hall' h r
  refine⟨tuples' (Value.type (tyC c) != Value.type "tuple"),λprog w A E Q hq=>kat_kind f1 (by omega) (λf hf=>f3 f hf _) (by exact beq_self_eq_true _) hq,λprog w A hu i j hi hj C hC=>?_⟩
  obtain⟨x,u,m1,a1,b1,e1⟩:=at_ i hi
  obtain⟨y,v,m2,a2,b2,e2⟩:=at_ j hj
  unfold kas_ask;rw [e1,e2];exact PU I hu c2 (hall' _ m1) (hall' _ m2) (hp _ m1) (hp _ m2) (hcm _ m1 _ m2) a1 a2 b1 b2 hC
 ·by_cases c0:c=0
  ·subst c0
   have isI:∀d∈ds,∃i,d = .int i:=λd hd=>by
    have e:=hall' d hd
    unfold skD at e;split at e<;>first|(cases e;done)|exact⟨_,rfl⟩
   refine⟨oneType',λprog w A E Q hq=>kas_kind (T:=.type "int") (by omega) (λv hv=>?_) (by decide) (by decide) hq,λprog w A hu i j hi hj C hC=>?_⟩
   ·obtain⟨d,x,m,a,b⟩:=Mo h r hv
    obtain⟨i,rfl⟩:=isI d m
    rw [a.of_int] at b;obtain⟨t,rfl⟩:=b
    exact Looks.of_pure rfl
   ·obtain⟨x,u,m1,a1,b1,e1⟩:=at_ i hi
    obtain⟨y,v,m2,a2,b2,e2⟩:=at_ j hj
    unfold kas_ask;rw [e1,e2];obtain⟨p,ep⟩:=isI _ m1
    obtain⟨q,eq⟩:=isI _ m2
    rw [ep] at a1 hC;rw [eq] at a2 hC;rw [a1.of_int] at b1;rw [a2.of_int] at b2;obtain⟨t,rfl⟩:=b1
    obtain⟨t',rfl⟩:=b2
    exact oneLt_int (by unfold ltD at hC;exact hC)
  ·have c1:c=1:=by omega
   subst c1;have isS:∀d∈ds,∃i,d = .str i:=λd hd=>by
    have e:=hall' d hd
    unfold skD at e;split at e<;>first|(cases e;done)|exact⟨_,rfl⟩
   refine⟨oneType',λprog w A E Q hq=>kas_kind (T:=.type "str") (by omega) (λv hv=>?_) (by decide) (by decide) hq,λprog w A hu i j hi hj C hC=>?_⟩
   ·obtain⟨d,x,m,a,b⟩:=Mo h r hv
    obtain⟨i,rfl⟩:=isS d m
    rw [a.of_str] at b;obtain⟨t,rfl⟩:=b
    exact Looks.of_pure rfl
   ·obtain⟨x,u,m1,a1,b1,e1⟩:=at_ i hi
    obtain⟨y,v,m2,a2,b2,e2⟩:=at_ j hj
    unfold kas_ask;rw [e1,e2];obtain⟨p,ep⟩:=isS _ m1
    obtain⟨q,eq⟩:=isS _ m2
    rw [ep] at a1 hC;rw [eq] at a2 hC;rw [a1.of_str] at b1;rw [a2.of_str] at b2;obtain⟨t,rfl⟩:=b1
    obtain⟨t',rfl⟩:=b2
    exact oneLt_str (by unfold ltD at hC;exact hC)
end
def ltI (ds:List D)(i j:Nat):Bool:=if i<ds.length then (if j<ds.length then ltD (ds.getD i .non) (ds.getD j .non) else true) else (if j<ds.length then false else decide (i<j))
theorem Jx {ds:List D}{i:Nat}(h:i<ds.length):ds.getD i .non∈ds:=by
 have e1:ds.getD i .non=ds[i]:=by simp [h]
 rw [e1];exact W08 _
theorem DI {ds:List D}(h:YZ 30 ds):KS.Ord (ltI ds) where
 irr:=λi=>by
  unfold ltI;by_cases hi:i<ds.length
  ·rw [if_pos hi,if_pos hi];exact M5 30 _ (h.1 _ (Jx hi))
  ·rw [if_neg hi,if_neg hi];simp
 as:=λi j=>by
  unfold ltI;by_cases hi:i<ds.length<;>by_cases hj:j<ds.length<;>simp only [hi,hj,if_true,if_false]
  ·exact h.as (Jx hi) (Jx hj)
  ·intro _;trivial
  ·intro z;cases z
  ·simp only [decide_eq_true_eq,decide_eq_false_iff_not];omega
 tr:=λi j k=>by
  unfold ltI;by_cases hi:i<ds.length<;>by_cases hj:j<ds.length<;>by_cases hk:k<ds.length<;>simp only [hi,hj,hk,if_true,if_false]<;>(try (intro _ _;first|rfl|trivial))<;>(try (intro z;cases z;done))<;>(try (intro _ z;cases z;done))
  ·exact h.le_tr (Jx hi) (Jx hj) (Jx hk)
  ·simp only [decide_eq_false_iff_not] at *;omega
theorem IP {α:Type}{n:Nat}{lt:Nat->Nat->Bool}{cmp:Nat->Nat->(Bool->Shared->Prop)->Shared->Prop}{s:Shared}(hc:∀i j,i<n->j<n->∀C:Bool->Shared->Prop,C (lt i j) s->cmp i j C s) :
  ∀(t:KasT α) (Q:α->Shared->Prop),KS.Rg n t->Q (KS.ev lt t) s->t.kasWp cmp Q s
 | .ret _,_,_,h=>h
 | .ask i j k,Q,⟨h1,h2,h3⟩,h=>hc i j h1 h2 _ (IP hc (k (lt i j)) Q (h3 _) h)
theorem Z0K {ds:List D}(h:YZ 30 ds)(hn:1<=ds.length):((KS.ev (ltI ds) (W1O ds.length)).toList.map λi=>ds.getD i .non)=ZT ds:=by
 obtain⟨hp,hs⟩:=KS.sort_ok (DI h) hn
 generalize KS.ev (ltI ds) (W1O ds.length)=p at *
 have hpl:p.toList.Perm (W6 ds.length):=hp.toList
 have hsz:p.size=ds.length:=by have:=hpl.length_eq;simpa using this
 have hr:(W6 ds.length).map (λi=>ds.getD i .non)=ds:=by
  apply List.ext_getElem
  ·simp
  ·intro i h1 h2
   simp [h2]
 refine NE h ?_ ?_
 ·have:=hpl.map λi=>ds.getD i D.non
  rw [hr] at this;exact this
 ·rw [W1a]
  intro i j hi hj hij;simp only [W7,WF] at hi hj
  simp only [List.getElem_map,Array.getElem_toList]
  have hs':=hs i j (by omega) (by omega)
  have e1:p.getD i 0=p[i]:=by simp [Array.getD,hi]
  have e2:p.getD j 0=p[j]:=by simp [Array.getD,hj]
  rw [e1,e2] at hs'
  have m1:p[i]<ds.length:=by
   have:p[i]∈W6 ds.length:=hpl.mem_iff.mp (by simp)
   simpa using this
  have m2:p[j]<ds.length:=by
   have:p[j]∈W6 ds.length:=hpl.mem_iff.mp (by simp)
   simpa using this
  show ltD (ds.getD p[j] .non) (ds.getD p[i] .non)=false
  have:ltI ds p[j] p[i]=false:=hs'
  unfold ltI at this;rw [if_pos m2,if_pos m1] at this;exact this
end DL
namespace DL
open PySem PySem.Spec PyProof.Rows PySem.W L2
theorem IK {k:Nat}{A:Around}(hr:Room k A):A.units+70<cLine:=by have:=hr.un;omega
section
variable {X:Cx} {pins:List (Addr×Obj)} {σ:L2.St} {H:Hp} {s:Shared} {ρ:List Addr}
theorem Bs {xs:List V}{vs:List Value}(r:ZZ xs vs):∀is:List Nat,(∀i∈is,i<xs.length)->ZZ (is.map λi=>xs.getD i .non) (is.map λi=>vs.getD i Value.none)
 |[],_=>.nil
 |i :: is,h=>by
  have hi:=h i Wp
  obtain⟨v,e,q⟩:=r.get (Wl hi)
  refine .cons ?_ (Bs r is λj hj=>h j (Wu _ hj))
  show ZC (xs.getD i .non) (vs.getD i Value.none)
  rw [VB,VB,Wl hi,e];exact q
theorem LP {ds:List D}{xs:List V}(h:DsR X.K ρ H ds xs):∀is:List Nat,(∀i∈is,i<ds.length)->DsR X.K ρ H (is.map λi=>ds.getD i .non) (is.map λi=>xs.getD i .non)
 |[],_=>.nil
 |i :: is,hh=>by
  have hi:=hh i Wp
  obtain⟨x,e,q⟩:=h.get (Wl hi)
  refine .cons ?_ (LP h is λj hj=>hh j (Wu _ hj))
  show DR X.K ρ H (ds.getD i .non) (xs.getD i .non)
  rw [VB,VB,Wl hi,e];exact q
theorem M6 {A:Around}{E:Value->Shared->Prop}{P:PySem.Fin->Shared->Prop}{a:Addr}{ds:List D}{xs:List V}(I:Inv X pins σ H s)(hu:A.units+64<cLine)(ha:H a=some (.lst xs))(h:DsR X.K ρ H ds xs)(ok:Yg ds=true)
  (q:∀(is:List Nat) s',(∀i∈is,i<ds.length)->(is.map λi=>ds.getD i D.non)=ZT ds->Inv X pins σ (upd H a (.lst (is.map λi=>xs.getD i .non))) s'->P (.done (.ret .none)) s') :
  wpAny (model X.prog X.w) A (Builtin.«list.sort» ⟨[.ref a],[]⟩) P E s:=by
 obtain⟨hz,vs,n,rv,ho⟩:=(show ZL X.prog X.w H s.heap a (.lst xs) from I.hok a _ ha)
 have hl:ds.length=vs.length:=h.length.trans rv.length
 unfold Yg at ok;rw [Wm,decide_eq_true_eq] at ok;have h64:vs.length<64:=by omega
 have s1:=VZ s.heap a (Vo λ_=>(#[]:Array Value))
 obtain⟨e1,ho1⟩:∃e1,(s.heap.update a (Vo λ_=>(#[]:Array Value))).get? a=some (seqObj "list" #[] e1):=⟨_,get?_update_seq ho λ_=>#[]⟩
 have hX:∀o,Ext ρ H ρ (upd H a o):=λo=>Ext.upd ha (λ_ z=>nomatch z) λ_ _ z=>nomatch z
 have I1:Inv X pins σ (upd H a (.lst [])) { s with heap:=s.heap.update a (Vo λ_=>(#[]:Array Value)) }:=UG (s:=s) (t':=s.toks) I (by rw [ha];exact True.intro) s1 ⟨_,ho1⟩ (show ZL X.prog X.w _ _ a (.lst []) from ⟨Vx _,[],e1,.nil,ho1⟩)
 have I3:Inv X pins σ (upd H a (.lst [])) { s with heap:=((s.heap.update a (Vo λ_=>(#[]:Array Value))).push (seqObj "tuple" vs.toArray 0)).push (seqObj "list" #[] 0) }:=
  I1.kept (t':=s.toks) λb o e=>Wj _ (Wj _ e)
 have ho3:(((s.heap.update a (Vo λ_=>(#[]:Array Value))).push (seqObj "tuple" vs.toArray 0)).push (seqObj "list" #[] 0)).get? a=some (seqObj "list" #[] e1):=Wj _ (Wj _ ho1)
 have fin:∀(is:List Nat),(∀i∈is,i<ds.length)->is.length<=Wk->(is.map λi=>ds.getD i D.non)=ZT ds->P (.done (.ret .none)) { s with heap:=(((s.heap.update a (Vo λ_=>(#[]:Array Value))).push (seqObj "tuple" vs.toArray 0)).push (seqObj "list" #[] 0)).update a (Vo λ_=>W0i (is.map λi=>vs.getD i Value.none)) }:=λis hi hlen e=>by
  have s2:=VZ (((s.heap.update a (Vo λ_=>(#[]:Array Value))).push (seqObj "tuple" vs.toArray 0)).push (seqObj "list" #[] 0)) a (Vo λ_=>W0i (is.map λi=>vs.getD i Value.none))
  obtain⟨e2,ho4⟩:∃e2,((((s.heap.update a (Vo λ_=>(#[]:Array Value))).push (seqObj "tuple" vs.toArray 0)).push (seqObj "list" #[] 0)).update a (Vo λ_=>W0i (is.map λi=>vs.getD i Value.none))).get? a=some (seqObj "list" (W0i (is.map λi=>vs.getD i Value.none)) e2):=
   ⟨_,get?_update_seq ho3 λ_=>W0i (is.map λi=>vs.getD i Value.none)⟩
  have I4:=UG (s:={ s with heap:=((s.heap.update a (Vo λ_=>(#[]:Array Value))).push (seqObj "tuple" vs.toArray 0)).push (seqObj "list" #[] 0) }) (t':=s.toks) (ob:=.lst (is.map λi=>xs.getD i .non)) I3 (by rw [Z7];exact True.intro) s2 ⟨_,ho4⟩
   (show ZL X.prog X.w _ _ a (.lst (is.map λi=>xs.getD i .non)) from ⟨by rw [W7];exact hlen,_,e2,Bs rv is (λi z=>by rw [<-h.length];exact hi i z),ho4⟩)
  rw [Qy] at I4;exact q is _ hi e I4
 rw [list_sort_plain];refine W0 (listItems_at ho rfl ?_)
 refine W0 (listUpdate_at ho rfl ?_ (by rw [Wo,W0J];omega) (Vx _))
 refine W0 (seqEpoch_at ho1 rfl ?_)
 refine W0 (wpAny_newTuple ?_ (by show vs.length<=_;rw [W0J];omega))
 refine W0 (wpAny_newList ?_ (Vx _))
 refine VD ?_
 show wpAny (model X.prog X.w) A _ P E { s with heap:=((s.heap.update a (Vo λ_=>(#[]:Array Value))).push (seqObj "tuple" vs.toArray 0)).push (seqObj "list" #[] 0) }
 dsimp only;have hsl:64<=Wk:=by decide
 by_cases h2:vs.length<2
 ·have hn2:vs.toArray.size<2:=by rw [Wo];exact h2
  rw [if_pos hn2,if_pos hn2];refine W0 (Wd ?_)
  refine W0 (Wd ?_)
  dsimp only;have hout:(arrOf (SortSt.mk' general' (vs.toArray.zip vs.toArray) #[] 7 none)).map (·.2)=W0i ((W6 ds.length).map λi=>vs.getD i Value.none):=by
   show (vs.toArray.zip vs.toArray).map (·.2)=_
   apply Array.toList_inj.mp
   rw [hl]
   apply List.ext_getElem
   ·simp
   ·intro i h1 h2
    simp at h1
    simp [h1]
  refine W0 (seqEpoch_at ho3 rfl ?_)
  rw [hout];refine W0 (listUpdate_at ho3 rfl ?_ (Vx _) (by simp only [Wo,W7,V5];omega))
  simp only [bne_self_eq_false,WL,if_false]
  refine Wd (fin _ (λi hi=>by simpa using hi) (by simp;omega) ?_)
  have hr:(W6 ds.length).map (λi=>ds.getD i D.non)=ds:=by
   apply List.ext_getElem
   ·simp
   ·intro i h1 h2
    simp [h2]
  rw [hr]
  match ds,hl with
  |[],_=>rfl
  |[_],_=>rfl
  |_ :: _ :: _,e=>exact absurd h2 (by rw [<-e];simp)
 ·have hn2:¬vs.toArray.size<2:=by rw [Wo];exact h2
  rw [if_neg hn2,if_neg hn2];have hok:FL ds=true/\Fq ds=true:=by
   have:=ok.2
   rw [decide_eq_false (by omega),Bool.false_or,Wm] at this
   exact this
  obtain⟨κ,hk1,hk2⟩:=XU (s:={ s with heap:=((s.heap.update a (Vo λ_=>(#[]:Array Value))).push (seqObj "tuple" vs.toArray 0)).push (seqObj "list" #[] 0) }) I3 (h.up (hX _)) rv (by omega) hok.1 hok.2
  refine W0 (hk1 _ _ A _ _ ?_)
  have hca:=Bk hok.2
  have hw:(W1O vs.length).kasWp (kas_ask X.prog X.w A κ vs) (λp s'=>p=KS.ev (ltI ds) (W1O ds.length)/\s'={ s with heap:=((s.heap.update a (Vo λ_=>(#[]:Array Value))).push (seqObj "tuple" vs.toArray 0)).push (seqObj "list" #[] 0) })
    { s with heap:=((s.heap.update a (Vo λ_=>(#[]:Array Value))).push (seqObj "tuple" vs.toArray 0)).push (seqObj "list" #[] 0) }:=by
   rw [<-hl];refine IP (n:=ds.length) (lt:=ltI ds) (λi j hi hj C hC=>hk2 _ _ A hu i j hi hj C ?_) _ _ (KS.rg_sort (by omega)) ⟨rfl,rfl⟩
   unfold ltI at hC;rw [if_pos hi,if_pos hj] at hC;exact hC
  refine W0 (W0k (kat_run (Q:=λst' s'=>arrOf st'=(KS.ev (ltI ds) (W1O ds.length)).map (kas_item (vs.toArray.zip vs.toArray))/\failedOf st'=none/\s'={ s with heap:=((s.heap.update a (Vo λ_=>(#[]:Array Value))).push (seqObj "tuple" vs.toArray 0)).push (seqObj "list" #[] 0) })
   rfl (by omega) h64 (λp' st' s' a1 a2 a3 a4=>⟨by rw [<-a4.1];exact a2,a3,a4.2⟩) hw) ?_ λ_ _ e=>e)
  rintro⟨⟨⟩,st'⟩ s' ⟨har,hf,rfl⟩
  dsimp only;have hout:=kat_snds (ks:=vs) (vs:=vs) rfl har
  obtain⟨hp,_⟩:=KS.sort_ok (DI hca) (n:=ds.length) (by omega)
  have hpl:(KS.ev (ltI ds) (W1O ds.length)).toList.Perm (W6 ds.length):=hp.toList
  have hpn:(KS.ev (ltI ds) (W1O ds.length)).toList.length=ds.length:=by have:=hpl.length_eq;simpa using this
  rw [hout];refine W0 (seqEpoch_at ho3 rfl ?_)
  refine W0 (listUpdate_at ho3 rfl ?_ (Vx _) (by simp only [Wo,W7,hpn];omega))
  rw [hf];simp only [bne_self_eq_false,WL,if_false]
  exact Wd (fin _ (λi hi=>by simpa using hpl.mem_iff.mp hi) (by rw [hpn];omega) (Z0K hca (by omega)))
theorem Jb {s1:Shared}{ds:List D}{xs:List V}{vs:List Value}{Q:VK}(I1:Inv X pins σ H s1)(hu:X.A.units+70<cLine)(hd:DsR X.K ρ H ds xs)(rv:ZZ xs vs)(hz:xs.length<=Wk)(ok:Yg ds=true)
  (q:∀a xs',H a=none->DsR X.K ρ H (ZT ds) xs'->Q (.ref a) (upd H a (.lst xs'))):wpAny (model X.prog X.w) X.A.in1 (do
   let l <-newList vs
   let _ <-holding [l] (call (.builtin "list.sort") [l] [])
   ret l) (λfin s'=>∃r,fin = .done (.ret r)/\EP X pins σ Q r s') (λe s'=>X.xe e s') s1:=by
 have hl:ds.length=vs.length:=hd.length.trans rv.length
 have hf:H s1.heap.objs.size=none:=I1.hok.fresh (Wq _)
 refine W0 (wpAny_newList ?_ (by rw [<-rv.length];exact hz))
 have ho:(s1.heap.push (seqObj "list" vs.toArray 0)).get? s1.heap.objs.size=some (seqObj "list" vs.toArray 0):=Ws _ rfl
 have I2:Inv X pins σ (upd H s1.heap.objs.size (.lst xs)) { s1 with heap:=s1.heap.push (seqObj "list" vs.toArray 0) }:=I1.laid (t':=s1.toks) (λb o e=>Wj _ e) (Wq _) (show ZL X.prog X.w _ _ _ (.lst xs) from ⟨hz,vs,0,rv,ho⟩)
 refine W0 (VD (Vv slot_list_sort ⟨_,ho,rfl⟩ entry_list_sort ?body (args_list_sort _)))
 case body=>
  refine M6 (s:={ s1 with heap:=s1.heap.push (seqObj "list" vs.toArray 0) }) I2 (by show X.A.units+1+1+64<cLine;omega) Z7 (hd.up (Ext.new hf)) ok λis s' hi e I'=>?_
  rw [Qy] at I'
  exact⟨_,rfl,Wd ⟨_,rfl,.ref s1.heap.objs.size,_,I',rfl,q _ _ hf (by rw [<-e];exact LP hd is hi)⟩⟩
theorem Mj (hu:X.A.units+70<cLine):J8 X (.builtin "sorted") (λws H Q=>∃l xs ρ ds,ws=[.ref l]/\(SqL X.K H l xs\/SqT X.K H l xs)/\DsR X.K ρ H ds xs/\Yg ds=true/\∀a xs',H a=none->DsR X.K ρ H (ZT ds) xs'->Q (.ref a) (upd H a (.lst xs'))):=by
 intro pins s σ H ws us Q I r h;obtain⟨l,xs,ρ,ds,rfl,hq,hd,ok,q⟩:=h
 obtain⟨u,rfl,ru⟩:=UU r
 cases ru;refine W0c kind_sorted plain_sorted entry_sorted (args_sorted1 _) ?_
 unfold Builtin.«sorted»
 refine W0 (m:=checkCount "sorted" 1 1 _) (Wd ?_)
 rcases hq with hq|hq
 ·obtain⟨its,rv,pl,hz⟩:=I.list hq
  obtain⟨o,ho,hc,n,hdd⟩:=pl.isList
  refine W0 (wpAny_collect_seq l (.inl rfl) ho hc hdd (λh' kp=>?_) (by simp only [Wo];rw [<-rv.length];exact hz))
  exact Jb (I.kept (t':=s.toks) kp) hu hd (by simpa using rv) hz ok q
 ·obtain⟨its,rv,pl,hz⟩:=I.tuple hq
  obtain⟨o,ho,hc,n,hdd⟩:=pl
  refine W0 (wpAny_collect_seq l (.inr rfl) ho hc hdd (λh' kp=>?_) (by simp only [Wo];rw [<-rv.length];exact hz))
  exact Jb (I.kept (t':=s.toks) kp) hu hd (by simpa using rv) hz ok q
theorem Hs {xs:List V}{vs:List Value}(hl:xs.length=vs.length)(h:∀(i:Nat) v,vs[i]? = some v->∃x,xs[i]? = some x/\ZC x v):ZZ xs vs:=by
 induction xs generalizing vs with
 |nil=>
  cases vs with
  |nil=>exact .nil
  |cons _ _=>cases hl
 |cons x xs ih=>
  cases vs with
  |nil=>cases hl
  |cons v vs=>
   obtain⟨x',e,r⟩:=h 0 v rfl
   simp at e
   subst e;exact .cons r (ih (by simpa using hl) λi w hw=>by simpa using h (i+1) w (by simpa using hw))
theorem Nj (hcalm:X.calm=true)(hu:X.A.units+70<cLine):J8 X (.builtin "sorted") (λws H Q=>∃a ρ ds,ws=[.ref a]/\Yg ds=true/\(∀b xs',H b=none->DsR X.K ρ H (ZT ds) xs'->Q (.ref b) (upd H b (.lst xs')))/\
  ((∃(ks:List Key) (vs:List V),(H a=some (.dK (ks.zip vs))\/∃o,H a=some (.frz o (.dK (ks.zip vs))))/\ks.length=vs.length/\DsR X.K ρ H ds (ks.map kV))\/
   ∃kvs,H a=some (.dT kvs)/\∀bs,Paired (λ(p:List Key×V) (b:Addr)=>H b=some (.tup (p.1.map kV))) kvs bs->DsR X.K ρ H ds (bs.map V.ref))):=by
 intro pins s σ H ws us Q I r h;obtain⟨a,ρ,ds,rfl,ok,q,hq⟩:=h
 obtain⟨u,rfl,ru⟩:=UU r
 cases ru;have hh:X.A.handled=none:=I.ok.hd hcalm
 refine W0c kind_sorted plain_sorted entry_sorted (args_sorted1 _) ?_
 unfold Builtin.«sorted»
 refine W0 (m:=checkCount "sorted" 1 1 _) (Wd ?_)
 have fin:∀(es:Array DictEntry) (ep:Nat) (xs:List V),(a == sysModules)=false->UM s.heap a es ep->es.size=xs.length->xs.length<=Wk->(∀(i:Nat) (e:DictEntry),es[i]? = some e->∃x,xs[i]? = some x/\ZC x e.key)->DsR X.K ρ H ds xs->
   wpAny (model X.prog X.w) X.A.in1 (collect (.ref a)) (λvs s'=>wpAny (model X.prog X.w) X.A.in1 (do
    let l <-newList vs
    let _ <-holding [l] (call (.builtin "list.sort") [l] [])
    ret l) (λfin s'=>∃r,fin = .done (.ret r)/\EP X pins σ Q r s') (λe s'=>X.xe e s') s') (λe s'=>X.xe e s') s:=λes ep xs hS hm hl hz hk hd=>by
  refine kdu_collect (HQ hS) (by simpa using hh) hm (by omega) λh' tk acc kp hacc=>?_
  have hal:acc.toList.length=es.size:=by rw [WF];exact hacc.1
  refine Jb (s1:={ s with heap:=h',toks:=tk }) (I.kept (t':=tk) kp) hu hd (Hs (by omega) λi v hv=>?_) hz ok q
  obtain⟨e,e1,rfl⟩:=hacc.2 i v (by rw [<-Vd];exact hv)
  exact hk i e e1
 rcases hq with ⟨ks,vs,hH,hkl,hd⟩|⟨kvs,hH,hd⟩
 ·have hok:ZL X.prog X.w H s.heap a (.dK (ks.zip vs)):=by
   rcases hH with hH|⟨o,hH⟩
   ·exact I.hok a _ hH
   ·exact (show ZL X.prog X.w H s.heap a (.frz o (.dK (ks.zip vs))) from I.hok a _ hH).2
  obtain⟨hS,hz,es,ep,hm,hes,hk⟩:=XJ hok
  have hzl:(ks.zip vs).length=ks.length:=by rw [VA];omega
  refine W0 (fin es ep (ks.map kV) hS hm (by rw [W7];omega) (by rw [W7];omega) (λi e he=>?_) hd)
  obtain⟨k,v,k1,k2⟩:=hk i e he
  have:=(W1b.mp k1).1
  exact⟨kV k,by rw [WE,this];rfl,k2⟩
 ·obtain⟨hS,hz,es,ep,bs,hm,hes,hbl,hk,hp⟩:=Sy I hH
  refine W0 (fin es ep (bs.map V.ref) hS hm (by rw [W7];omega) (by rw [W7];omega) (λi e he=>?_) (hd bs hp))
  obtain⟨b,b1,b2⟩:=hk i e he
  exact⟨.ref b,by rw [WE,b1];rfl,by rw [b2];rfl⟩
end
end DL
namespace L2
open PySem PySem.Spec PyProof.Rows
section
variable {X:Cx}
theorem DO:OpR X (compareOp .Is) (λx y H Q=>∃c,y = .bl c/\Q (.bl (decide (x = .bl c))) H):=by
 intro pins s σ H x y v u Q I rx ry h;obtain⟨c,rfl,q⟩:=h
 cases ry;cases x with
 |bl b=>cases rx;exact is_bool (Ub I q (by cases b<;>cases c<;>decide))
 |non=>cases rx;exact Wd (Ub I q (by cases c<;>decide))
 |int i=>obtain⟨t,rfl⟩:=rx;exact Wd (Ub I q (by cases c<;>rfl))
 |str i=>obtain⟨t,rfl⟩:=rx;exact Wd (Ub I q (by cases c<;>rfl))
 |byt i=>obtain⟨t,rfl⟩:=rx;exact Wd (Ub I q (by cases c<;>rfl))
 |flt i=>obtain⟨t,rfl⟩:=rx;exact Wd (Ub I q (by cases c<;>rfl))
 |ref a=>cases rx;exact Wd (Ub I q (by cases c<;>rfl))
 |ty n=>cases rx;exact Wd (Ub I q (by cases c<;>rfl))
theorem Ab:OpR X (binaryOp .Add) (λx y H Q=>∃a b ys,x = .ref a/\y = .ref b/\SqT X.K H a []/\SqT X.K H b ys/\Q (.ref b) H):=by
 intro pins s σ H x y v u Q I rx ry h;obtain⟨a,b,ys,rfl,rfl,ha,hb,q⟩:=h
 cases rx;cases ry;obtain⟨its,r1,p1,_⟩:=I.tuple ha
 obtain⟨its2,r2,p2,_⟩:=I.tuple hb
 have hv:its=[]:=r1.nil_iff.mpr rfl
 subst hv;obtain⟨⟨cls,dd,data,sl⟩,ho,hc,n,hd⟩:=id p1
 obtain⟨⟨cls2,dd2,data2,sl2⟩,ho2,hc2,n2,hd2⟩:=id p2
 simp only at hc hd hc2 hd2
 subst hc hd hc2 hd2;exact concat_meets ⟨_,ho,rfl⟩ ⟨_,ho2,rfl⟩ noFill_tuple_add seq_tuple_add W1F W1t (W1n _ _)
  (tuple_addW0 a b _ _ n n2 dd dd2 sl sl2 (by simp)) ⟨ho,ho2,⟨.ref b,H,I,rfl,q⟩⟩
theorem KG:OpR X (binaryOp .Mult) (λx y H Q=>∃z n,x = .str z/\y = .int n/\MulOk z n/\Q (.str (Txt.mul z n)) H):=by
 intro pins s σ H x y v u Q I rx ry h;obtain⟨z,n,rfl,rfl,hok,q⟩:=h
 obtain⟨t,rfl⟩:=rx
 obtain⟨t',rfl⟩:=ry
 exact SB.mul hok λt'' k=>⟨.str (Txt.mul z n),H,I.tok k,⟨t'',rfl⟩,q⟩
theorem JR:∀{bs:List Bool} {us:List Value},ZZ (bs.map V.bl) us->us=bs.map Value.bool
 |[],_,h=>by cases h;rfl
 |b :: bs,_,h=>by
  cases h with
  |cons r t=>
   have e:=JR t
   rw [W1,<-e,show _=Value.bool b from r]
theorem BC (bs:List Bool):((W6 bs.length).all λi=>bs.getD i true)=bs.all id:=by
 rw [VX,Ww,Ww]
 constructor
 ·intro h b hb
  obtain⟨i,hi,rfl⟩:=W0F.mp hb
  have:=h i (Vf.mpr hi)
  simpa [W0j,hi] using this
 ·intro h i hi
  have hi':=Vf.mp hi
  have:=h bs[i] (W08 hi')
  simpa [W0j,hi'] using this
theorem BB (bs:List Bool):((W6 bs.length).any λi=>bs.getD i true)=bs.any id:=by
 rw [VX,WZ,WZ]
 constructor
 ·rintro⟨i,hi,h⟩
  have hi':=Vf.mp hi
  exact⟨bs[i],W08 hi',by simpa [W0j,hi'] using h⟩
 ·rintro⟨b,hb,h⟩
  obtain⟨i,hi,rfl⟩:=W0F.mp hb
  exact⟨i,Vf.mpr hi,by simpa [W0j,hi] using h⟩
theorem QQ (prog:Program)(w:World)(A:Around)(bs:List Bool):TruthOf prog w A (λi v=>((bs.map Value.bool).toArray)[i]? = some v) (λi=>bs.getD i true):=by
 intro i v s Q E h q;have h':bs[i]?.map Value.bool=some v:=by simpa using h
 cases e:bs[i]? with
 |none=>rw [e] at h';cases h'
 |some b=>
  rw [e] at h'
  cases h'
  have:bs.getD i true=b:=by simp [W0j,e]
  have q':Q (bs.getD i true) s:=q
  rw [this] at q'
  exact W1I q'
theorem Nn (hc:X.calm=true):J8 X (.builtin "all") (λxs H Q=>∃(a:Addr) (bs:List Bool),xs=[.ref a]/\(SqL X.K H a (bs.map V.bl)\/SqT X.K H a (bs.map V.bl))/\Q (.bl (bs.all id)) H):=by
 intro pins s σ H xs us Q I r h;obtain⟨a,bs,rfl,hq,q⟩:=h
 obtain⟨u,rfl,ru⟩:=UU r
 cases ru;refine call_all_walk ?_
 rcases hq with hq|hq
 ·obtain⟨its,rv,p,hz⟩:=I.list hq
  have e:=JR rv
  subst e;refine W0G p.isList ?_
  have ne:a≠s.heap.objs.size:=by
   obtain⟨o,e,_⟩:=p.isList
   exact WG (Wt e)
  refine⟨_,_,_,_,_,_,λi=>bs.getD i true,rfl,Walks.list (A:=X.A.in1) (show X.A.in1.handled=none from I.ok.hd hc) _ a ne (bs.map Value.bool).toArray,⟨⟨_,Ws _ rfl,rfl,rfl⟩,p.isList.extBut (λb o _ e=>Wj _ e) ne⟩,QQ _ _ _ bs,λh' tk k=>?_⟩
  have e2:(List.map Value.bool bs).toArray.size=bs.length:=by simp
  rw [e2,BC];exact⟨.bl (bs.all id),H,I.kept (h':=h') (t':=tk) (λb o e=>k b o (by simp [WG (Wt e)]) (Wj _ e)),rfl,q⟩
 ·obtain⟨its,rv,p,hz⟩:=I.tuple hq
  have e:=JR rv
  subst e;refine W0T (show s.heap.IsTuple a (bs.map Value.bool).toArray from p) ?_
  have ne:a≠s.heap.objs.size:=WG p.lt
  refine⟨_,_,_,_,_,_,λi=>bs.getD i true,rfl,Walks.tuple (A:=X.A.in1) (show X.A.in1.handled=none from I.ok.hd hc) _ a ne (bs.map Value.bool).toArray,⟨⟨_,Ws _ rfl,rfl,rfl⟩,Heap.IsTuple.extBut (show s.heap.IsTuple a (bs.map Value.bool).toArray from p) (λb o _ e=>Wj _ e) ne⟩,QQ _ _ _ bs,λh' tk k=>?_⟩
  have e2:(List.map Value.bool bs).toArray.size=bs.length:=by simp
  rw [e2,BC];exact⟨.bl (bs.all id),H,I.kept (h':=h') (t':=tk) (λb o e=>k b o (by simp [WG (Wt e)]) (Wj _ e)),rfl,q⟩
theorem Nm (hc:X.calm=true):J8 X (.builtin "any") (λxs H Q=>∃(a:Addr) (bs:List Bool),xs=[.ref a]/\(SqL X.K H a (bs.map V.bl)\/SqT X.K H a (bs.map V.bl))/\Q (.bl (bs.any id)) H):=by
 intro pins s σ H xs us Q I r h;obtain⟨a,bs,rfl,hq,q⟩:=h
 obtain⟨u,rfl,ru⟩:=UU r
 cases ru;refine call_any_walk ?_
 rcases hq with hq|hq
 ·obtain⟨its,rv,p,hz⟩:=I.list hq
  have e:=JR rv
  subst e;refine W0G p.isList ?_
  have ne:a≠s.heap.objs.size:=by
   obtain⟨o,e,_⟩:=p.isList
   exact WG (Wt e)
  refine⟨_,_,_,_,_,_,λi=>bs.getD i true,rfl,Walks.list (A:=X.A.in1) (show X.A.in1.handled=none from I.ok.hd hc) _ a ne (bs.map Value.bool).toArray,⟨⟨_,Ws _ rfl,rfl,rfl⟩,p.isList.extBut (λb o _ e=>Wj _ e) ne⟩,QQ _ _ _ bs,λh' tk k=>?_⟩
  have e2:(List.map Value.bool bs).toArray.size=bs.length:=by simp
  rw [e2,BB];exact⟨.bl (bs.any id),H,I.kept (h':=h') (t':=tk) (λb o e=>k b o (by simp [WG (Wt e)]) (Wj _ e)),rfl,q⟩
 ·obtain⟨its,rv,p,hz⟩:=I.tuple hq
  have e:=JR rv
  subst e;refine W0T (show s.heap.IsTuple a (bs.map Value.bool).toArray from p) ?_
  have ne:a≠s.heap.objs.size:=WG p.lt
  refine⟨_,_,_,_,_,_,λi=>bs.getD i true,rfl,Walks.tuple (A:=X.A.in1) (show X.A.in1.handled=none from I.ok.hd hc) _ a ne (bs.map Value.bool).toArray,⟨⟨_,Ws _ rfl,rfl,rfl⟩,Heap.IsTuple.extBut (show s.heap.IsTuple a (bs.map Value.bool).toArray from p) (λb o _ e=>Wj _ e) ne⟩,QQ _ _ _ bs,λh' tk k=>?_⟩
  have e2:(List.map Value.bool bs).toArray.size=bs.length:=by simp
  rw [e2,BB];exact⟨.bl (bs.any id),H,I.kept (h':=h') (t':=tk) (λb o e=>k b o (by simp [WG (Wt e)]) (Wj _ e)),rfl,q⟩
theorem Uk:∀{ys:List Str} {us:List Value},ZZ (ys.map V.str) us->StrsAre us ys
 |[],_,h=>by cases h;exact .nil
 |y :: ys,_,h=>by
  cases h with
  |cons r t=>
   obtain⟨tk,rfl⟩:=r
   exact .cons y tk (Uk t)
theorem Sj:MtR X "str.join" (λx xs H Q=>∃(sep:Str) (a:Addr) (ys:List Str),x = .str sep/\xs=[.ref a]/\(SqL X.K H a (ys.map V.str)\/SqT X.K H a (ys.map V.str))/\(ys.map (·.length)).sum+ys.length*sep.length<=16777216/\Q (.str (W25 sep ys)) H):=by
 intro pins s σ H x xs v us Q I rx rs h;obtain⟨sep,a,ys,rfl,rfl,hq,hz,q⟩:=h
 obtain⟨t,rfl⟩:=rx
 obtain⟨u,rfl,ru⟩:=UU rs
 cases ru;rcases hq with hq|hq
 ·obtain⟨its,rv,p,_⟩:=I.list hq
  exact join_list p.isList (by simpa using Uk rv) hz λt' k=>⟨.str (W25 sep ys),H,I.tok k,⟨t',rfl⟩,q⟩
 ·obtain⟨its,rv,p,_⟩:=I.tuple hq
  exact join_tuple p (by simpa using Uk rv) hz λt' k=>⟨.str (W25 sep ys),H,I.tok k,⟨t',rfl⟩,q⟩
section
variable {tg:Expr} {pins:List (Addr×Obj)} {σ:St} {H1:Hp} {s1:Shared} {R:It->Hp->Prop} {E:Value->Shared->Prop} {a:Addr} {xs:List V}
theorem A4 (I1:Inv X pins σ H1 s1)(hq:SqL X.K H1 a xs)(q:R (Itl X.K a) H1):wpAny (model X.prog X.w) X.A (pyIter (.ref a)) (PIE X pins σ tg R) E s1:=by
 obtain⟨its,rv,p,hz⟩:=I1.list hq
 refine W0G p.isList ?_
 refine⟨s1.heap.objs.size,[s1.heap.objs.size],_,_,H1,rfl,I1.kept (t':=s1.toks) λb o e=>Wj _ e,RB a _,⟨_,Ws _ rfl,rfl,rfl⟩,λb hb=>?_,q⟩
 have e:b=s1.heap.objs.size:=by simpa using hb
 subst e;exact I1.fpOk (Wq _) (I1.hok.fresh (Wq _))
theorem S5 (I1:Inv X pins σ H1 s1)(hq:SqT X.K H1 a xs)(q:R (Itt X.K a) H1):wpAny (model X.prog X.w) X.A (pyIter (.ref a)) (PIE X pins σ tg R) E s1:=by
 obtain⟨its,rv,p,hz⟩:=I1.tuple hq
 refine W0T (show s1.heap.IsTuple a its.toArray from p) ?_
 refine⟨s1.heap.objs.size,[s1.heap.objs.size],_,_,H1,rfl,I1.kept (t':=s1.toks) λb o e=>Wj _ e,Kv a _,⟨_,Ws _ rfl,rfl,rfl⟩,λb hb=>?_,q⟩
 have e:b=s1.heap.objs.size:=by simpa using hb
 subst e;exact I1.fpOk (Wq _) (I1.hok.fresh (Wq _))
def Its (x:Str):It:=⟨λi _=>i<x.cps.size,λi H v H'=>H'=H/\∃c,x.cps[i]? = some c/\v = .str ⟨#[c]⟩,λi _=>i=x.cps.size⟩
theorem Br (P:Program)(w:World){A:Around}(hh:A.handled=none)(it:Addr)(x:Str)(t:Tok):Walks P w A it [it] [it] x.cps.size (SignAt x) (λi h=>h.IsStrIter it (strIterType x) x t i):=by
 cases ha:x.cps.all (· < 128)
 ·have e:strIterType x = "str_iterator":=by simp [strIterType,ha]
  rw [e];exact Walks.strWide hh it x t
 ·have e:strIterType x = "str_ascii_iterator":=by simp [strIterType,ha]
  rw [e];exact Walks.strAscii hh it x t
theorem Fy {P:Program}{w:World}{K:W8}(x:Str)(t:Tok)(it:Addr):Turn P w K tg (Its x) [it] it (λi h=>h.IsStrIter it (strIterType x) x t i) where
 mem:=by simp
 obj:=λi h st b hb=>by
  have e:b=it:=by simpa using hb
  subst e;obtain⟨o,e,c,d⟩:=st
  exact⟨o,e,λv z=>by rw [d] at z;cases z⟩
 keep:=λi h h' st k=>let ⟨o,e,r⟩:=st;⟨o,k it (by simp) o e,r⟩
 item:=by
  intro X hP hw hK hc i pins s σ H E I hf st hg;subst hP hw hK;obtain⟨f0,f1,f2,f3,f4,f5⟩:=hf it (by simp)
  refine (Br X.prog X.w (I.ok.hd hc) it x t).item i s _ _ hg st λv h' tk hv st' kk=>?_
  obtain⟨c,u,hc',rfl⟩:=hv
  have I1:Inv X pins σ H { s with heap:=h',toks:=tk }:=I.turned (λb o hb e=>kk b o (by simpa using hb) e) f0 f1 f3 f4 f5
  obtain⟨o,e1,e2,e3⟩:=id st'
  refine⟨_,rfl,?_⟩
  have fin:∃y H',Inv X pins σ H' { s with heap:=h',toks:=tk }/\ZC y (.str ⟨#[c]⟩ u)/\(Its x).yld i H y H'/\Heap.IsStrIter h' it (strIterType x) x t (i+1)/\∀b∈[it],H' b=none:=⟨.str ⟨#[c]⟩,H,I1,⟨u,rfl⟩,⟨rfl,c,hc',rfl⟩,st',λb hb=>(hf b hb).1⟩
  unfold letOwnedTupleGo;cases tg<;>exact Wd fin
 done:=by
  intro X hP hw hK hc i pins s σ H E I hf st hg;subst hP hw hK;obtain⟨f0,f1,f2,f3,f4,f5⟩:=hf it (by simp)
  have hi:i=x.cps.size:=hg
  subst hi;exact (Br X.prog X.w (I.ok.hd hc) it x t).done s _ _ st λh' tk kk=>⟨rfl,I.turned (λb o hb e=>kk b o (by simpa using hb) e) f0 f1 f3 f4 f5⟩
 self:=λA i s Q E st h=>by
  cases ha:x.cps.all (· < 128)
  ·have e:strIterType x = "str_iterator":=by simp [strIterType,ha]
   rw [e] at st;exact wpAny_pyIter_striter_wide st h
  ·have e:strIterType x = "str_ascii_iterator":=by simp [strIterType,ha]
   rw [e] at st;exact wpAny_pyIter_striter_ascii st h
theorem S6 {x:Str}{t:Tok}(I1:Inv X pins σ H1 s1)(q:R (Its x) H1):wpAny (model X.prog X.w) X.A (pyIter (.str x t)) (PIE X pins σ tg R) E s1:=by
 refine wpAny_pyIter_strU ?_
 refine⟨s1.heap.objs.size,[s1.heap.objs.size],_,_,H1,rfl,I1.kept (t':=s1.toks) λb o e=>Wj _ e,Fy x t _,⟨_,Ws _ rfl,rfl,rfl⟩,λb hb=>?_,q⟩
 have e:b=s1.heap.objs.size:=by simpa using hb
 subst e;exact I1.fpOk (Wq _) (I1.hok.fresh (Wq _))
end
def Z36 (X:Cx)(tl:TE):TI:=λσ H R=>tl σ H λx H1=>(∃a xs,x = .ref a/\SqL X.K H1 a xs/\R (Itl X.K a) H1)\/(∃a xs,x = .ref a/\SqT X.K H1 a xs/\R (Itt X.K a) H1)\/(∃z,x = .str z/\R (Its z) H1)\/
 (∃a kvs,x = .ref a/\H1 a=some (.dK kvs)/\∀o,(∀o u,X.H₀ a≠some (.frz o u))->R (Itk a o) (upd H1 a (.frz o (.dK kvs))))\/(∃a o kvs,x = .ref a/\H1 a=some (.frz o (.dK kvs))/\R (Itk a o) H1)\/
 ∃a,x = .ref a/\H1 a=some (.dT [])/\∀o,(∀o u,X.H₀ a≠some (.frz o u))->R (Itk a o) (upd H1 a (.frz o (.dK [])))
theorem Ds {tg l:Expr}{tl:TE}(hl:PE X l tl):PI X tg l (Z36 X tl):=by
 intro pins s σ H R I h;refine thn (hl pins s σ H _ I h) λv s1 ⟨x,H1,I1,r1,q1⟩=>?_
 rcases q1 with ⟨a,xs,rfl,hq,q⟩|⟨a,xs,rfl,hq,q⟩|⟨z,rfl,q⟩|⟨a,kvs,rfl,hq,q⟩|⟨a,o,kvs,rfl,hq,q⟩|⟨a,rfl,hq,q⟩
 ·cases r1;exact A4 I1 hq q
 ·cases r1;exact S5 I1 hq q
 ·obtain⟨t,rfl⟩:=r1;exact S6 I1 q
 ·cases r1;exact ML I1 hq q
 ·cases r1;exact Pf I1 hq q
 ·cases r1
  refine ML (I1.asK hq) Z7 λo hn=>?_
  rw [Qy];exact q o hn
end
end L2
namespace DL
open PySem PySem.Spec PyProof.Rows L2
section
variable {X:Cx} {e a b c:Expr} {es:List Expr} {pos:Pos}
def JD:D->D->Sto->Option (D×Sto)
 | .int i,.int j,S=>some (.int (i+j),S)
 | .str x,.str y,S=>if x.length+y.length<=Wk then some (.str (x++y),S) else none
 | .tup xs,.tup ys,S=>if xs.length+ys.length<=Wk then some (.tup (xs++ys),S) else none
 | .ref n,.ref m,S=>match S[n]?,S[m]? with
  |some (.lst xs),some (.lst ys)=>if xs.length+ys.length<=Wk then some (.ref S.length,S++[.lst (xs++ys)]) else none
  |_,_=>none
 |_,_,_=>none
theorem ZY:OpD X (binaryOp .Add) JD:=by
 refine Tw (DS.or (KH.or (Ab.or (Sg.or DQ)))) ?_
 rintro x y H Q ⟨ρ,S,d1,d2,v,S',R,h1,h2,e,k⟩
 cases d1 with
 |int i=>
  cases d2 with
  |int j=>
   cases e;exact .inl ⟨i,j,h1.of_int,h2.of_int,k _ ρ H Ext.refl R .flat_int⟩
  |_=>cases e
 |str i=>
  cases d2 with
  |str j=>
   dsimp only [JD] at e;split at e
   ·cases e
    exact .inr (.inl ⟨i,j,h1.of_str,h2.of_str,by assumption,k _ ρ H Ext.refl R .flat_str⟩)
   ·cases e
  |_=>cases e
 |tup xs=>
  cases d2 with
  |tup ys=>
   dsimp only [JD] at e;split at e
   ·rename_i hz
    cases e;obtain⟨a,us,rfl,a1,a2⟩:=h1.of_tup
    obtain⟨b,ws,rfl,b1,b2⟩:=h2.of_tup
    cases xs with
    |nil=>
     have:us=[]:=by unfold DsR at a2;exact a2
     subst this;exact .inr (.inr (.inl ⟨a,b,ws,rfl,rfl,.of a1,.of b1,k _ ρ H Ext.refl R (.tup b1 b2)⟩))
    |cons x0 xs=>
     refine .inr (.inr (.inr (.inl ⟨a,b,us,ws,rfl,rfl,.of a1,.of b1,?_,by rw [<-a2.length,<-b2.length];exact hz,λhw=>?_,λhw p hp=>?_⟩)))
     ·intro z
      rw [z] at a2;have:=a2.length
      simp at this
     ·subst hw
      have:ys=[]:=by
       have:=b2.length
       simpa using this
      subst this;rw [VL] at k;exact k _ ρ H Ext.refl R (.tup a1 a2)
     ·exact k _ ρ _ (Ext.new hp) (R.new hp) (.tup Z7 ((a2.append b2).up (Ext.new hp)))
   ·cases e
  |_=>cases e
 |ref n=>
  cases d2 with
  |ref m=>
   obtain⟨a,a1,rfl⟩:=h1.of_ref
   obtain⟨b,b1,rfl⟩:=h2.of_ref
   obtain⟨oa,ea,ra⟩:=R.obj a1
   obtain⟨ob,eb,rb⟩:=R.obj b1
   dsimp only [JD] at e;rw [ea,eb] at e;cases oa with
   |lst xs=>
    cases ob with
    |lst ys=>
     dsimp only at e;split at e
     ·rename_i hz
      cases e;obtain⟨us,u1,u2⟩:=ra
      obtain⟨ws,w1,w2⟩:=rb
      refine .inr (.inr (.inr (.inr ⟨a,b,us,ws,rfl,rfl,u1,w1,by rw [<-u2.length,<-w2.length];exact hz,λp hp=>?_⟩)))
      refine k _ (ρ++[p]) _ (Ext.newRef hp) (R.push hp ⟨_,Z7,(u2.append w2).up (Ext.newRef hp)⟩) (.ref ?_)
      rw [<-R.len];simp
     ·cases e
    |dct _=>cases e
    |fdct _=>cases e
    |ins _ _=>cases e
   |dct _=>cases e
   |fdct _=>cases e
   |ins _ _=>cases e
  |_=>cases e
 |_=>cases e
def Ic (C:Int->Int->Bool)(f:Int->Int->D):D->D->Sto->Option (D×Sto)
 | .int i,.int j,S=>if C i j then some (f i j,S) else none
 |_,_,_=>none
theorem Sf {f:Value->Value->Sem Value}{C:Int->Int->Prop}{Cb:Int->Int->Bool}{g:Int->Int->V}{gd:Int->Int->D}(h:OpR X f (rI C g))(hC:∀i j,Cb i j=true->C i j)(hg:∀ρ H i j,DR X.K ρ H (gd i j) (g i j)):OpD X f (Ic Cb gd):=by
 refine Tw h ?_
 rintro x y H Q ⟨ρ,S,d1,d2,v,S',R,h1,h2,e,k⟩
 cases d1 with
 |int i=>
  cases d2 with
  |int j=>
   dsimp only [Ic] at e;split at e
   ·cases e
    exact⟨i,j,h1.of_int,h2.of_int,hC i j (by assumption),k _ ρ H Ext.refl R (hg ρ H i j)⟩
   ·cases e
  |_=>cases e
 |_=>cases e
theorem MP {f:Value->Value->Sem Value}{g:Int->Int->V}{gd:Int->Int->D}(h:OpR X f (rI0 g))(hg:∀ρ H i j,DR X.K ρ H (gd i j) (g i j)):OpD X f (Ic (λ_ _=>true) gd):=by
 refine Tw h ?_
 rintro x y H Q ⟨ρ,S,d1,d2,v,S',R,h1,h2,e,k⟩
 cases d1 with
 |int i=>
  cases d2 with
  |int j=>
   cases e;exact⟨i,j,h1.of_int,h2.of_int,k _ ρ H Ext.refl R (hg ρ H i j)⟩
  |_=>cases e
 |_=>cases e
def Z1U:D->D->Sto->Option (D×Sto):=Ic (λ_ _=>true) λi j=>.int (i-j)
def Fp:D->D->Sto->Option (D×Sto):=Ic (λ_ j=>decide (0<j)) λi j=>.int (i%j)
theorem JL:OpD X (binaryOp .Mod) Fp:=Sf DM (λ_ _ h=>of_decide_eq_true h) λ_ _ _ _=>.flat_int
def O3 (z:Str)(n:Int):Bool:=decide (0<=n/\n<=1000/\z.length<=1000)
def Nd:D->D->Sto->Option (D×Sto)
 | .int i,.int j,S=>if (-(2 ^ 64)<i/\i<2 ^ 64)\/(-(2 ^ 64)<j/\j<2 ^ 64) then some (.int (i*j),S) else none
 | .str z,.int n,S=>if O3 z n then some (.str (Txt.mul z n),S) else none
 |_,_,_=>none
theorem Ae {z:Str}{n:Int}(h:O3 z n=true):MulOk z n:=by
 obtain⟨h1,h2,h3⟩:=of_decide_eq_true h
 refine⟨?_,λa b=>?_,λa b=>?_⟩
 ·have e1:decide (n < -(2 ^ 63:Int))=false:=decide_eq_false (by omega)
  have e2:decide (n>=2 ^ 63)=false:=decide_eq_false (by omega)
  rw [e1,e2];rfl
 ·intro q
  have hb:(1000:Int)<=(2 ^ 63-1) / n:=by
   rw [Int.le_ediv_iff_mul_le (by omega)]
   omega
  omega
 ·have hm:z.length*n.toNat<=1000*1000:=Nat.mul_le_mul h3 (by omega)
  unfold Builtin.Str.tooLong;have hs:Wk=16777216:=W0J
  first
   | (rw [decide_eq_false];omega)
   | (simp;omega)
theorem QA:OpD X (binaryOp .Mult) Nd:=by
 refine Tw (DK.or KG) ?_
 rintro x y H Q ⟨ρ,S,d1,d2,v,S',R,h1,h2,e,k⟩
 cases d1 with
 |int i=>
  cases d2 with
  |int j=>
   dsimp only [Nd] at e;split at e
   ·cases e
    exact .inl ⟨i,j,h1.of_int,h2.of_int,by assumption,k _ ρ H Ext.refl R .flat_int⟩
   ·cases e
  |_=>cases e
 |str z=>
  cases d2 with
  |int j=>
   dsimp only [Nd] at e;split at e
   ·cases e
    exact .inr ⟨z,j,h1.of_str,h2.of_int,Ae (by assumption),k _ ρ H Ext.refl R .flat_str⟩
   ·cases e
  |_=>cases e
 |_=>cases e
def gGt:D->D->Sto->Option (D×Sto):=Ic (λ_ _=>true) λi j=>.bl (decide (j<i))
theorem El:OpD X (compareOp .Gt) gGt:=MP Z0L λ_ _ _ _=>.flat_bl
def gGe:D->D->Sto->Option (D×Sto):=Ic (λ_ _=>true) λi j=>.bl (decide (j<=i))
theorem Em:OpD X (compareOp .GtE) gGe:=MP Z0M λ_ _ _ _=>.flat_bl
def isD:D->D->Option Bool
 | .bl b,.bl c=>some (b == c)
 |_,.bl _=>some false
 | .non,.non=>some true
 |_,.non=>some false
 |_,_=>none
def gIs:D->D->Sto->Option (D×Sto):=λa b S=>(isD a b).map λr=>(.bl r,S)
theorem OQ {K:W8}{ρ:List Addr}{H:Hp}{d:D}{x:V}{c r:Bool}(h:DR K ρ H d x)(e:isD d (.bl c)=some r):decide (x = .bl c)=r:=by
 cases d with
 |bl b=>rw [h.of_bl];cases e;cases b<;>cases c<;>rfl
 |non=>rw [h.of_non];cases e;rfl
 |int i=>rw [h.of_int];cases e;rfl
 |str i=>rw [h.of_str];cases e;rfl
 |tup xs=>obtain⟨a,us,rfl,_⟩:=h.of_tup;cases e;rfl
 |ref n=>obtain⟨a,_,rfl⟩:=h.of_ref;cases e;rfl
 |scr ns=>obtain⟨a,rfl,_⟩:=h.of_scr;cases e;rfl
theorem SX {K:W8}{ρ:List Addr}{H:Hp}{d:D}{x:V}{r:Bool}(h:DR K ρ H d x)(e:isD d .non=some r):decide (x = .non)=r:=by
 cases d with
 |bl b=>rw [h.of_bl];cases e;rfl
 |non=>rw [h.of_non];cases e;rfl
 |int i=>rw [h.of_int];cases e;rfl
 |str i=>rw [h.of_str];cases e;rfl
 |tup xs=>obtain⟨a,us,rfl,_⟩:=h.of_tup;cases e;rfl
 |ref n=>obtain⟨a,_,rfl⟩:=h.of_ref;cases e;rfl
 |scr ns=>obtain⟨a,rfl,_⟩:=h.of_scr;cases e;rfl
theorem Lp {d1 d2:D}{r:Bool}(e:isD d1 d2=some r):(∃c,d2 = .bl c)\/d2 = .non:=by
 cases d2 with
 |bl c=>exact .inl ⟨c,rfl⟩
 |non=>exact .inr rfl
 |_=>cases d1<;>cases e
theorem MO:OpD X (compareOp .Is) gIs:=by
 refine Tw (DO.or DN) ?_
 rintro x y H Q ⟨ρ,S,d1,d2,v,S',R,h1,h2,e,k⟩
 obtain⟨r,e1,e2⟩:=Wi.mp e
 cases e2;rcases Lp e1 with ⟨c,rfl⟩|rfl
 ·exact .inl ⟨c,h2.of_bl,by rw [OQ h1 e1];exact k _ ρ H Ext.refl R .flat_bl⟩
 ·exact .inr ⟨h2.of_non,by rw [SX h1 e1];exact k _ ρ H Ext.refl R .flat_bl⟩
def gIx:D->D->Sto->Option (D×Sto)
 | .tup xs,.int i,S=>(atI xs i).map λd=>(d,S)
 | .str z,.int i,S=>if z.length<=Wk then (atI z.cps.toList i).map λc=>(.str ⟨#[c]⟩,S) else none
 | .scr ns,.int i,S=>(atI ns i).map λn=>(.int n,S)
 | .ref n,k,S=>match S[n]? with
  |some (.lst xs)=>(match k with | .int i=>(atI xs i).map λd=>(d,S)|_=>none)
  |_=>(Q7 S n k).bind λkvs=>(J7 kvs k).map λd=>(d,S)
 |_,_,_=>none
theorem Iw {K:W8}{ρ:List Addr}{H:Hp}{ds:List D}{xs:List V}{i:Int}{d:D}(h:DsR K ρ H ds xs)(e:atI ds i=some d):∃x,atI xs i=some x/\DR K ρ H d x:=by
 unfold atI at e ⊢
 rw [h.length] at e;obtain⟨j,e1,e2⟩:=W4.mp e
 obtain⟨x,h1,h2⟩:=h.get e2
 exact⟨x,by rw [e1];exact h1,h2⟩
theorem Ix {α β:Type}{f:α->β}{xs:List α}{i:Int}{a:α}(h:atI xs i=some a):atI (xs.map f) i=some (f a):=by
 unfold atI at h ⊢
 rw [W7];obtain⟨j,e1,e2⟩:=W4.mp h
 rw [e1];show (xs.map f)[j]? = _
 rw [WE,e2];rfl
def Z1A:R2:=λx y H Q=>∃a v,x = .ref a/\JQ H a y (some v)/\Q v H
theorem SJ (hu:X.A.units+64<cLine):IxR X Z1A:=by
 intro value slice pins s σ H x y v u Q I rx ry h hs;obtain⟨a,z,rfl,g,q⟩:=h
 cases rx;have g':=g.ofSome
 exact tail_any (Mg I g') PySem.F.slot_dict_getitem.lookup (LU (by omega) I g' ry λw' s3 I3 rw'=>⟨z,H,I3,rw',q⟩) hs
theorem SG {K:W8}{x y:V}{H:Hp}{Q:VK}(h:rD K gIx x y H Q):rIx K x y H Q\/Z1A x y H Q:=by
 obtain⟨ρ,S,d1,d2,v,S',R,h1,h2,e,k⟩:=h
 have seq:∀{a:Addr} {xs:List V} {ds:List D} {i:Int},x = .ref a->d2 = .int i->(SqL K H a xs\/SqT K H a xs)->DsR K ρ H ds xs->(atI ds i).map (λd=>(d,S))=some (v,S')->rIx K x y H Q:=by
  intro a xs ds i ex ei hs hd em;subst ex ei;obtain⟨d,e1,e2⟩:=Wi.mp em
  cases e2;obtain⟨z,z1,z2⟩:=Iw hd e1
  rcases hs with hs|hs
  ·exact .inl ⟨a,xs,i,z,rfl,h2.of_int,hs,z1,k _ ρ H Ext.refl R z2⟩
  ·exact .inr (.inl ⟨a,xs,i,z,rfl,h2.of_int,hs,z1,k _ ρ H Ext.refl R z2⟩)
 cases d1 with
 |tup ds=>
  cases d2 with
  |int i=>
   obtain⟨a,xs,rfl,a1,a2⟩:=h1.of_tup
   exact .inl (seq rfl rfl (.inr (.of a1)) a2 e)
  |_=>cases e
 |str z=>
  cases d2 with
  |int i=>
   dsimp only [gIx] at e;split at e
   ·rename_i hz
    obtain⟨c,e1,e2⟩:=Wi.mp e
    cases e2;exact .inl (.inr (.inr ⟨z,i,c,h1.of_str,h2.of_int,hz,e1,k _ ρ H Ext.refl R .flat_str⟩))
   ·cases e
  |_=>cases e
 |scr ns=>
  cases d2 with
  |int i=>
   obtain⟨d,e1,e2⟩:=Wi.mp e
   cases e2;obtain⟨a,rfl,a1⟩:=h1.of_scr
   exact .inl (.inl ⟨a,_,i,_,rfl,h2.of_int,a1.seq,Ix e1,k _ ρ H Ext.refl R .flat_int⟩)
  |_=>cases e
 |ref n=>
  obtain⟨a,a1,rfl⟩:=h1.of_ref
  dsimp only [gIx] at e;split at e
  ·rename_i xs hn
   obtain⟨ob,eo,ro⟩:=R.obj a1
   rw [hn] at eo;cases eo;obtain⟨ys,y1,y2⟩:=ro
   cases d2 with
   |int i=>exact .inl (seq rfl rfl (.inl (.of y1)) y2 e)
   |_=>cases e
  ·obtain⟨kvs,e3,e⟩:=W4.mp e
   obtain⟨d,e1,e2⟩:=Wi.mp e
   cases e2;obtain⟨g1,_⟩:=TR R a1 e3 h2
   obtain⟨z,z1,z2⟩:=g1 _ e1
   exact .inr ⟨a,z,rfl,z1,k _ ρ H Ext.refl R z2⟩
 |_=>cases d2<;>cases e
theorem Zh {ma mb:M D}(hu:X.A.units+64<cLine)(ha:SE X a ma)(hb:SE X b mb)(hs:Ff b:=by intro _ _;rfl):SE X (.Subscript a b pos) (mOp gIx ma mb):=by
 refine ZA (Z0I (OM.or (SJ hu)) ha hb hs) ?_
 intro σ H Q h;obtain⟨ρ,en,S,v,S',E,R,e,k⟩:=GX h
 exact⟨ρ,en,S,v,S',E,R,e,λx ρ1 H1 X1 R1 d1=>by
  obtain⟨ρ2,en2,S2,v2,S2',E2,R2,e2,k2⟩:=k x ρ1 H1 X1 R1 d1
  exact⟨ρ2,en2,S2,v2,S2',E2,R2,e2,λy ρ3 H3 X3 R3 d3=>SG (k2 y ρ3 H3 X3 R3 d3)⟩⟩
def Uh:List D->Option (List Bool)
 |[]=>some []
 | .bl b :: r=>(Uh r).map λbs=>b :: bs
 |_=>none
theorem TY {K:W8}{ρ:List Addr}{H:Hp}:∀{ds:List D} {xs:List V} {bs:List Bool},DsR K ρ H ds xs->Uh ds=some bs->xs=bs.map V.bl
 |[],xs,bs,h,e=>by
  cases e;unfold DsR at h;rw [h];rfl
 |d :: ds,xs,bs,h,e=>by
  unfold DsR at h;obtain⟨x,r,rfl,h1,h2⟩:=h
  cases d with
  |bl b=>
   obtain⟨cs,e1,e2⟩:=Wi.mp e
   cases e2;rw [W1,h1.of_bl,TY h2 e1]
  |_=>cases e
def Bw:List D->Option (List Str)
 |[]=>some []
 | .str b :: r=>(Bw r).map λbs=>b :: bs
 |_=>none
theorem Mv {K:W8}{ρ:List Addr}{H:Hp}:∀{ds:List D} {xs:List V} {bs:List Str},DsR K ρ H ds xs->Bw ds=some bs->xs=bs.map V.str
 |[],xs,bs,h,e=>by
  cases e;unfold DsR at h;rw [h];rfl
 |d :: ds,xs,bs,h,e=>by
  unfold DsR at h;obtain⟨x,r,rfl,h1,h2⟩:=h
  cases d with
  |str b=>
   obtain⟨cs,e1,e2⟩:=Wi.mp e
   cases e2;rw [W1,h1.of_str,Mv h2 e1]
  |_=>cases e
def IH (m:M (List D)):M D:=λen S=>(m en S).bind λp=>(Uh p.1).map λbs=>(.bl (bs.all id),p.2)
def IG (m:M (List D)):M D:=λen S=>(m en S).bind λp=>(Uh p.1).map λbs=>(.bl (bs.any id),p.2)
theorem Ec {p:Pos}{m:M (List D)}(hc:X.calm=true)(h:SQ X e m)(hg:Gl X "all")(hm:X.mg "all" = none)(hv:WK "all" = some (.builtin "all"))
  (he:Wr [e] X.env=(false,eval e X.env) :: Wr [] X.env:=by rfl):SE X (.Call (.Name "all" p) [e] [] pos) (IH m):=by
 refine ZA (QS (Nn hc) hg hm hv (ZI h Ys he) (by decide) (by decide) he (by rfl)) ?_
 rintro σ H Q ⟨ρ,en,S,v,S',E,R,e,k⟩
 unfold IH at e;obtain⟨r,e1,e⟩:=W4.mp e
 obtain⟨bs,e2,e3⟩:=Wi.mp e
 cases e3;refine⟨ρ,en,S,r.1,r.2,E,R,e1,λa xs ρ1 H1 X1 R1 sq d1=>⟨a,bs,rfl,?_,k _ ρ1 H1 X1 R1 .flat_bl⟩⟩
 rw [<-TY d1 e2];exact sq
theorem Eb {p:Pos}{m:M (List D)}(hc:X.calm=true)(h:SQ X e m)(hg:Gl X "any")(hm:X.mg "any" = none)(hv:WK "any" = some (.builtin "any"))
  (he:Wr [e] X.env=(false,eval e X.env) :: Wr [] X.env:=by rfl):SE X (.Call (.Name "any" p) [e] [] pos) (IG m):=by
 refine ZA (QS (Nm hc) hg hm hv (ZI h Ys he) (by decide) (by decide) he (by rfl)) ?_
 rintro σ H Q ⟨ρ,en,S,v,S',E,R,e,k⟩
 unfold IG at e;obtain⟨r,e1,e⟩:=W4.mp e
 obtain⟨bs,e2,e3⟩:=Wi.mp e
 cases e3;refine⟨ρ,en,S,r.1,r.2,E,R,e1,λa xs ρ1 H1 X1 R1 sq d1=>⟨a,bs,rfl,?_,k _ ρ1 H1 X1 R1 .flat_bl⟩⟩
 rw [<-TY d1 e2];exact sq
def Ex:D->Sto->Option Nat
 | .str x,_=>if x.length<=Wk then some x.length else none
 | .tup ds,_=>some ds.length
 | .ref n,S=>match S[n]? with|some (.lst ds)=>some ds.length|some (.dct kvs)=>some kvs.length|some (.fdct kvs)=>some kvs.length|_=>none
 | .scr ns,_=>some ns.length
 |_,_=>none
def Rm (m:M D):M D:=λen S=>(m en S).bind λp=>(Ex p.1 p.2).map λn=>(.int n,p.2)
theorem Ge:J8 X (.builtin "len") (λxs H Q=>∃a,xs=[V.ref a]/\((∃kvs,Rd H a (.dK kvs)/\Q (.int kvs.length) H)\/∃kvs,Rd H a (.dT kvs)/\Q (.int kvs.length) H)):=by
 intro pins s σ H xs us Q I rx h;obtain⟨a,rfl,h⟩:=h
 obtain⟨u,rfl,ru⟩:=ZZ.one rx
 cases ru;rcases h with ⟨kvs,h1,q⟩|⟨kvs,h1,q⟩
 ·exact Z1o I h1 λt s' I'=>⟨.int kvs.length,H,I',⟨t,rfl⟩,q⟩
 ·obtain⟨hz,hS,xs,r,m⟩:=Gb I.hok h1
  have hlen:kvs.length=xs.length:=W0X r
  have hs:Wk=16777216:=W0J
  refine Bl hS m (by omega) ?_
  rw [<-hlen];exact⟨.int kvs.length,H,I.tok _,⟨_,rfl⟩,q⟩
theorem Tl {p:Pos}{m:M D}(h:SE X e m)(hg:Gl X "len")(hm:X.mg "len" = none)(hv:WK "len" = some (.builtin "len"))
  (he:Wr [e] X.env=(false,eval e X.env) :: Wr [] X.env:=by rfl):SE X (.Call (.Name "len" p) [e] [] pos) (Rm m):=by
 refine ZA (QS (Nl.or (Nk.or Ge)) hg hm hv (ZI h Ys he) (by decide) (by decide) he (by rfl)) ?_
 rintro σ H Q ⟨ρ,en,S,v,S',E,R,e,k⟩
 unfold Rm at e;obtain⟨r,e1,e⟩:=W4.mp e
 obtain⟨n,e2,e3⟩:=Wi.mp e
 cases e3;refine⟨ρ,en,S,r.1,r.2,E,R,e1,λx ρ1 H1 X1 R1 d1=>?_⟩
 obtain⟨d,S1⟩:=r
 dsimp only at e2 d1 R1 k;cases d with
 |str z=>
  dsimp only [Ex] at e2;split at e2
  ·cases e2
   exact .inr (.inl ⟨z,by rw [d1.of_str],by assumption,k _ ρ1 H1 X1 R1 .flat_int⟩)
  ·cases e2
 |tup ds=>
  cases e2;obtain⟨a,xs,rfl,a1,a2⟩:=d1.of_tup
  exact .inl ⟨a,xs,rfl,.inr (.of a1),by rw [<-a2.length];exact k _ ρ1 H1 X1 R1 .flat_int⟩
 |ref m0=>
  obtain⟨a,a1,rfl⟩:=d1.of_ref
  obtain⟨ob,eo,ro⟩:=R1.obj a1
  dsimp only [Ex] at e2;rw [eo] at e2;cases ob with
  |lst ds=>
   cases e2;obtain⟨xs,x1,x2⟩:=ro
   exact .inl ⟨a,xs,rfl,.inl (.of x1),by rw [<-x2.length];exact k _ ρ1 H1 X1 R1 .flat_int⟩
  |dct kvs=>
   cases e2;rcases ro with ⟨ks,xs,x1,x2,x3,x4⟩|⟨ks,xs,x1,x2,x3,x4⟩
   ·have l1:=congrArg Va x3
    rw [W7,W7] at l1;refine .inr (.inr ⟨a,rfl,.inl ⟨_,.inl x1,?_⟩⟩)
    rw [VA,<-x2,Nat.min_self,<-l1];exact k _ ρ1 H1 X1 R1 .flat_int
   ·have l1:=congrArg Va x3
    rw [W7,W7] at l1;refine .inr (.inr ⟨a,rfl,.inr ⟨_,.inl x1,?_⟩⟩)
    rw [VA,<-x2,Nat.min_self,<-l1];exact k _ ρ1 H1 X1 R1 .flat_int
  |fdct kvs=>
   cases e2;obtain⟨o,ks,xs,x1,x2,x3,x4⟩:=ro
   have l1:=congrArg Va x3
   rw [W7,W7] at l1;refine .inr (.inr ⟨a,rfl,.inl ⟨_,.inr ⟨o,x1⟩,?_⟩⟩)
   rw [VA,<-x2,Nat.min_self,<-l1];exact k _ ρ1 H1 X1 R1 .flat_int
  |ins _ _=>cases e2
 |scr ns=>
  cases e2;obtain⟨a,rfl,a1⟩:=d1.of_scr
  exact .inl ⟨a,_,rfl,.inl a1.seq,by rw [W7];exact k _ ρ1 H1 X1 R1 .flat_int⟩
 |_=>cases e2
def tyD:D->Sto->Option String
 | .non,_=>some "NoneType"
 | .bl _,_=>some "bool"
 | .int _,_=>some "int"
 | .str _,_=>some "str"
 | .tup _,_=>some "tuple"
 | .ref n,S=>match S[n]? with|some (.lst _)=>some "list" |some (.dct _)=>some "dict" |_=>none
 | .scr _,_=>none
theorem IQ {K:W8}{ρ:List Addr}{H:Hp}{S:Sto}{d:D}{x:V}{T:String}(R:StR K ρ H S)(h:DR K ρ H d x)(e:tyD d S=some T):TyOf K H x (.type T):=by
 cases d with
 |non=>rw [h.of_non];cases e;exact .non
 |bl b=>rw [h.of_bl];cases e;exact .bl b
 |int i=>rw [h.of_int];cases e;exact .int i
 |str z=>rw [h.of_str];cases e;exact .str z
 |tup ds=>
  obtain⟨a,xs,rfl,a1,_⟩:=h.of_tup
  cases e;exact .tup a1
 |ref n=>
  obtain⟨a,a1,rfl⟩:=h.of_ref
  obtain⟨ob,eo,ro⟩:=R.obj a1
  dsimp only [tyD] at e;rw [eo] at e;cases ob with
  |lst ds=>
   cases e;obtain⟨xs,x1,_⟩:=ro
   exact .lst x1
  |dct kvs=>
   cases e;rcases ro with ⟨ks,xs,x1,_⟩|⟨ks,xs,x1,_⟩
   ·exact .dK x1
   ·exact .dT x1
  |fdct _=>cases e
  |ins _ _=>cases e
 |scr ns=>cases e
def Gq (T C:String):Bool:=T == C||(T == "bool" && C == "int")
def Isi (K:W8)(C:String):Prop:=∀T∈["NoneType", "bool", "int", "str", "tuple", "list", "dict"],W0b K (.type T) (.type C)=some (Gq T C)
theorem RA {d:D}{S:Sto}{T:String}(e:tyD d S=some T):T∈["NoneType", "bool", "int", "str", "tuple", "list", "dict"]:=by
 cases d with
 |ref n=>
  dsimp only [tyD] at e;split at e<;>cases e<;>simp
 |_=>cases e<;>simp
def Fn (C:String)(m:M D):M D:=λen S=>(m en S).bind λp=>(tyD p.1 p.2).map λT=>(.bl (Gq T C),p.2)
theorem AU {C:String}:J8 X (.builtin "isinstance") (λxs H Q=>∃x t b,xs=[x,.ty C]/\TyOf X.K H x t/\W0b X.K t (.type C)=some b/\Q (.bl b) H):=by
 intro pins s σ H xs us Q I r h;obtain⟨x,t,b,rfl,ty,e,q⟩:=h
 obtain⟨u,w',rfl,ru,rw'⟩:=Ku r
 cases rw'
 exact Ln I ru ty e λtk=>⟨.bl b,H,I.tok tk,rfl,q⟩
theorem Gk {p p2:Pos}{C:String}{x:Str}{m:M D}(hi:Isi X.K C)(h:SE X a m)(hg:Gl X "isinstance")(hm:X.mg "isinstance" = none)(hv:WK "isinstance" = some (.builtin "isinstance"))
  (hg2:Gl X x) (hm2:X.mg x=none) (hv2:WK x=some (.type C)) (hn2:x≠"__name__":=by decide) (hd2:(x == ("__debug__" : Str))=false:=by decide)
  (he:Wr [a,.Name x p2] X.env=(false,eval a X.env) :: Wr [.Name x p2] X.env:=by rfl) (he2:Wr [.Name x p2] X.env=(false,eval (.Name x p2) X.env) :: Wr [] X.env:=by rfl) :
  SE X (.Call (.Name "isinstance" p) [a,.Name x p2] [] pos) (Fn C m):=by
 refine ZA (QS (AU (C:=C)) hg hm hv (ZI h (ZI (NP hg2 hm2 hv2 (show ZC (.ty C) (.type C) from rfl) hn2 hd2) Ys he2) he) (by decide) (by decide) he (by rw [he2];rfl)) ?_
 rintro σ H Q ⟨ρ,en,S,v,S',E,R,e,k⟩
 unfold Fn at e;obtain⟨r,e1,e⟩:=W4.mp e
 obtain⟨T,e2,e3⟩:=Wi.mp e
 cases e3;exact⟨ρ,en,S,r.1,r.2,E,R,e1,λx ρ1 H1 X1 R1 d1=>⟨x,_,_,rfl,IQ R1 d1 e2,hi T (RA e2),k _ ρ1 H1 X1 R1 .flat_bl⟩⟩
def M4 (sep:M D)(m:M (List D)):M D:=λen S=>(sep en S).bind λq=>match q.1 with
 | .str x=>(m en q.2).bind λp=>(Bw p.1).bind λys=>if (ys.map (·.length)).sum+ys.length*x.length<=16777216 then some (.str (W25 x ys),p.2) else none
 |_=>none
theorem HI {p:Pos}{sep:M D}{m:M (List D)}(hs:SE X a sep)(h:SQ X e m)(he:PA X [e] (Ky (tMQ X.K m) ID):=by exact ZI h Ys)
  (hb:PE X (.Call (.Attribute a "join" p) [e] [] pos) (tBM X.K "str" (λx xs H Q=>∃(sep:Str) (a:Addr) (ys:List Str),x = .str sep/\xs=[.ref a]/\(SqL X.K H a (ys.map V.str)\/SqT X.K H a (ys.map V.str))/\(ys.map (·.length)).sum+ys.length*sep.length<=16777216/\Q (.str (W25 sep ys)) H) (tM X.K sep) (Ky (tMQ X.K m) ID))) :
  SE X (.Call (.Attribute a "join" p) [e] [] pos) (M4 sep m):=by
 refine ZA hb ?_
 rintro σ H Q ⟨ρ,en,S,v,S',E,R,e,k⟩
 unfold M4 at e;obtain⟨q,e0,e⟩:=W4.mp e
 obtain⟨d,S0⟩:=q
 cases d with
 |str x=>
  dsimp only at e;obtain⟨r,e1,e⟩:=W4.mp e
  obtain⟨ys,e2,e⟩:=W4.mp e
  split at e
  ·rename_i hz
   cases e;refine⟨ρ,en,S,.str x,S0,E,R,e0,λz ρ0 H0 X0 R0 d0=>?_⟩
   rw [d0.of_str];refine⟨rfl,ρ0,en,S0,r.1,r.2,E.up X0,R0,e1,λa xs ρ1 H1 X1 R1 sq d1=>⟨x,a,ys,rfl,rfl,?_,hz,k _ ρ1 H1 (X0.trans X1) R1 .flat_str⟩⟩
   rw [<-Mv d1 e2];exact sq
  ·cases e
 |_=>cases e
def Lm:D->Sto->Option (ItD×Sto)
 | .tup ds,S=>some ((ds,.no),S)
 | .ref n,S=>match S[n]? with
  |some (.lst ds)=>some ((ds,.lst n),S)
  |some (.dct kvs)=>if (kvs.all λp=>(QM p.1).isSome)=true then some ((kvs.map (·.1),.fr n kvs true),S.set n (.fdct kvs)) else none
  |some (.fdct kvs)=>some ((kvs.map (·.1),.fr n kvs false),S)
  |_=>none
 | .scr ns,S=>some ((ns.map D.int,.no),S)
 | .str x,S=>some ((x.cps.toList.map λc=>D.str ⟨#[c]⟩,.no),S)
 |_,_=>none
def Qa (m:M D):M ItD:=λen S=>(m en S).bind λp=>Lm p.1 p.2
theorem Au {K:W8}{ρ0:List Addr}{H0:Hp}{n:Nat}{a:Addr}{ds:List D}(ha:ρ0[n]? = some a):ItR K ρ0 H0 (Itl K a) ds (.lst n):=by
 intro ρ H S X R g;have g':S[n]? = some (.lst ds):=g
 obtain⟨a',h1,xs,h2,h3⟩:=R.ob n _ g'
 have e:a'=a:=by
  have:=X.pre n a ha
  rw [this] at h1;exact (WW h1).symm
 subst e;refine⟨λi d hd=>?_,xs,.of h2,by rw [<-h3.length];exact Wq _⟩
 obtain⟨x,x1,x2⟩:=h3.get hd
 refine⟨⟨xs,x,.of h2,x1⟩,λy H' hy=>?_⟩
 obtain⟨rfl,hy⟩:=hy
 have:=hy xs (.of h2)
 rw [x1] at this;cases this;exact⟨Ext.refl,R,x2⟩
theorem SM {K:W8}{ρ0:List Addr}{H0:Hp}{a:Addr}{ds:List D}{xs:List V}(ha:H0 a=some (.tup xs))(h3:DsR K ρ0 H0 ds xs):ItR K ρ0 H0 (Itt K a) ds .no:=by
 intro ρ H S X R g;have h2:=X.tup a xs ha
 have h3:=h3.up X
 refine⟨λi d hd=>?_,xs,.of h2,by rw [<-h3.length];exact Wq _⟩
 obtain⟨x,x1,x2⟩:=h3.get hd
 refine⟨⟨xs,x,.of h2,x1⟩,λy H' hy=>?_⟩
 obtain⟨rfl,hy⟩:=hy
 have:=hy xs (.of h2)
 rw [x1] at this;cases this;exact⟨Ext.refl,R,x2⟩
theorem SO {K:W8}{ρ0:List Addr}{H0:Hp}{a:Addr}{ns:List Int}(ha:AY K H0 a ns):ItR K ρ0 H0 (Itl K a) (ns.map D.int) .no:=by
 intro ρ H S X R g;have h2:=(ha.mono X.weak).seq
 have h3:DsR K ρ H (ns.map D.int) (ns.map V.int):=.ints ns
 refine⟨λi d hd=>?_,_,h2,by rw [<-h3.length];exact Wq _⟩
 obtain⟨x,x1,x2⟩:=h3.get hd
 refine⟨⟨_,x,h2,x1⟩,λy H' hy=>?_⟩
 obtain⟨rfl,hy⟩:=hy
 have:=hy _ h2
 rw [x1] at this;cases this;exact⟨Ext.refl,R,x2⟩
theorem SN {K:W8}{ρ0:List Addr}{H0:Hp}{x:Str}:ItR K ρ0 H0 (Its x) (x.cps.toList.map λc=>D.str ⟨#[c]⟩) .no:=by
 intro ρ H S X R g;refine⟨λi d hd=>?_,by show _=x.cps.size;simp⟩
 rw [WE] at hd;have hd':∃c,x.cps[i]? = some c/\d=D.str ⟨#[c]⟩:=by
  cases q:x.cps.toList[i]? with
  |none=>rw [q] at hd;cases hd
  |some c=>rw [q] at hd;cases hd;exact⟨c,by simpa using q,rfl⟩
 obtain⟨c,hc,rfl⟩:=hd'
 refine⟨(Vn.mp hc).1,λy H' hy=>?_⟩
 obtain⟨rfl,c',h1,rfl⟩:=hy
 rw [hc] at h1;cases h1;exact⟨Ext.refl,R,.flat_str⟩
theorem B8 {K:W8}{ρ:List Addr}{H:Hp}{d:D}{k:Key}(e:QM d=some k):DR K ρ H d (kV k):=by
 cases d with
 |int i=>cases e;exact .flat_int
 |str x=>cases e;exact .flat_str
 |_=>cases e
theorem Bd {K:W8}{ρ0:List Addr}{H0:Hp}{n:Nat}{a:Addr}{o:Obj}{tab:List (Key×V)}{kvs:List (D×D)}{th:Bool}(ha:ρ0[n]? = some a)(h0:H0 a=some (.frz o (.dK tab))):ItR K ρ0 H0 (Itk a o) (kvs.map (·.1)) (.fr n kvs th):=by
 intro ρ H S X1 R hg;have hH:=X1.frz a o _ h0
 obtain⟨ob,e1,r⟩:=R.obj (X1.pre n a ha)
 have hg':S[n]? = some (.fdct kvs):=hg
 rw [hg'] at e1;cases e1;obtain⟨o',ks,xs,q1,q2,q3,q4⟩:=r
 rw [hH] at q1;cases q1;have l1:=congrArg Va q3
 rw [W7,W7] at l1;refine⟨λi d hd=>?_,⟨_,hH,by rw [W7,VA,<-q2,Nat.min_self,l1]⟩⟩
 rw [WE] at hd;obtain⟨p,p1,p2⟩:=Wi.mp hd
 have li:i<ks.length:=by rw [<-l1];exact (Wn.mp p1).1
 have hk:QM d=some ks[i]:=by
  have:=congrArg (λl=>l[i]?) q3
  simp only [WE,p1,W3,Wl li] at this
  rw [<-p2];exact WW this
 have hz:(ks.zip xs)[i]? = some (ks[i],xs[i]'(by omega)):=by
  rw [Wl (by rw [VA];omega),List.getElem_zip]
 refine⟨⟨_,ks[i],xs[i]'(by omega),hH,hz⟩,λx H' y=>?_⟩
 obtain⟨rfl,y2⟩:=y
 obtain⟨k,v,y3,rfl⟩:=y2 _ hH
 rw [hz] at y3;cases y3;exact⟨Ext.refl,R,B8 hk⟩
theorem QR {tg:Expr}{m:M D}(h:SE X e m):SI X tg e (Qa m):=by
 refine Pj (Ds h) ?_
 rintro σ H Q ⟨ρ,en,S,r,S',E,R,e,k⟩
 unfold Qa at e;obtain⟨p,e1,e2⟩:=W4.mp e
 refine⟨ρ,en,S,p.1,p.2,E,R,e1,λx ρ1 H1 X1 R1 d1=>?_⟩
 obtain⟨d,S1⟩:=p
 dsimp only at e2 d1 R1 k;cases d with
 |tup ds=>
  cases e2;obtain⟨a,xs,rfl,a1,a2⟩:=d1.of_tup
  exact .inr (.inl ⟨a,xs,rfl,.of a1,k _ ρ1 H1 X1 R1 (SM a1 a2) trivial⟩)
 |ref n=>
  obtain⟨a,a1,rfl⟩:=d1.of_ref
  obtain⟨ob,eo,ro⟩:=R1.obj a1
  dsimp only [Lm] at e2;rw [eo] at e2;cases ob with
  |lst ds=>
   cases e2;obtain⟨xs,x1,x2⟩:=ro
   exact .inl ⟨a,xs,rfl,.of x1,k _ ρ1 H1 X1 R1 (Au a1) trivial⟩
  |dct kvs=>
   dsimp only at e2;split at e2
   ·rename_i hk
    cases e2;have ro':∃(ks:List Key) (xs:List V),(H1 a=some (.dK (ks.zip xs))\/(H1 a=some (.dT [])/\ks=[]/\xs=[]))/\ks.length=xs.length/\kvs.map (λp=>QM p.1)=ks.map some/\DsR X.K ρ1 H1 (kvs.map (·.2)) xs:=by
     rcases ro with ⟨ks,xs,q1,q2,q3,q4⟩|⟨ks,xs,q1,q2,q3,q4⟩
     ·exact⟨ks,xs,.inl q1,q2,q3,q4⟩
     ·have hn:=G0 q3 hk (λ_ _=>Uv)
      subst hn;cases ks with
      |nil=>exact⟨[],[],.inr ⟨q1,rfl,rfl⟩,rfl,rfl,.nil⟩
      |cons _ _=>cases q3
    obtain⟨ks,xs,q1,q2,q3,q4⟩:=ro'
    have goK:∀o,(∀o u,X.H₀ a≠some (.frz o u))->H1 a=some (.dK (ks.zip xs))->Q (Itk a o) (upd H1 a (.frz o (.dK (ks.zip xs)))):=λo hn hq=>by
     have hE:Ext ρ1 H1 ρ1 (upd H1 a (.frz o (.dK (ks.zip xs)))):=Ext.upd hq (λ_ z=>nomatch z) λ_ _ z=>nomatch z
     obtain⟨R2,X2⟩:=R1.set (o:=.frz o (.dK (ks.zip xs))) (ob:=.fdct kvs) a1 (λ_ z=>by rw [eo] at z;cases z) ⟨o,ks,xs,Z7,q2,q3,q4.up hE⟩
     have hX:∀o u,H a≠some (.frz o u):=λo u z=>by have:=X1.frz a o u z;rw [hq] at this;cases this
     have hT:∀ys,H a≠some (.tup ys):=λys z=>by have:=X1.tup a ys z;rw [hq] at this;cases this
     exact k _ ρ1 _ (X1.trans X2) R2 (Bd a1 Z7) ⟨a,a1,hX,hT,hn⟩
    have goT:∀o,(∀o u,X.H₀ a≠some (.frz o u))->H1 a=some (.dT [])->kvs=[]->Q (Itk a o) (upd H1 a (.frz o (.dK []))):=λo hn hq hk=>by
     subst hk;obtain⟨R2,X2⟩:=R1.set (o:=.frz o (.dK [])) (ob:=.fdct []) a1 (λ_ z=>by rw [eo] at z;cases z) ⟨o,[],[],Z7,rfl,rfl,.nil⟩
     have hX:∀o u,H a≠some (.frz o u):=λo u z=>by have:=X1.frz a o u z;rw [hq] at this;cases this
     have hT:∀ys,H a≠some (.tup ys):=λys z=>by have:=X1.tup a ys z;rw [hq] at this;cases this
     exact k _ ρ1 _ (X1.trans X2) R2 (Bd a1 Z7) ⟨a,a1,hX,hT,hn⟩
    rcases q1 with q1|⟨q1,rfl,rfl⟩
    ·exact .inr (.inr (.inr (.inl ⟨a,_,rfl,q1,λo hn=>goK o hn q1⟩)))
    ·cases kvs with
     |nil=>exact .inr (.inr (.inr (.inr (.inr ⟨a,rfl,q1,λo hn=>goT o hn q1 rfl⟩))))
     |cons _ _=>cases q3
   ·cases e2
  |fdct kvs=>
   cases e2;obtain⟨o,ks,xs,q1,q2,q3,q4⟩:=ro
   exact .inr (.inr (.inr (.inr (.inl ⟨a,o,_,rfl,q1,k _ ρ1 H1 X1 R1 (Bd a1 q1) trivial⟩))))
  |ins _ _=>cases e2
 |scr ns=>
  cases e2;obtain⟨a,rfl,a1⟩:=d1.of_scr
  exact .inl ⟨a,_,rfl,a1.seq,k _ ρ1 H1 X1 R1 (SO a1) trivial⟩
 |str z=>
  cases e2;exact .inr (.inr (.inl ⟨z,d1.of_str,k _ ρ1 H1 X1 R1 SN trivial⟩))
 |_=>cases e2
def Ny (lo:Int)(n:Nat):List D:=(W6 n).map λi=>D.int (lo+(i:Nat))
def G6 (m:M D):M ItD:=λen S=>(m en S).bind λp=>match p.1 with | .int j=>if -(2 ^ 62)<=j/\j<2 ^ 62 then some ((Ny 0 j.toNat,.no),p.2) else none|_=>none
theorem SR {K:W8}{ρ0:List Addr}{H0:Hp}{lo:Int}{n:Nat}:ItR K ρ0 H0 (Itr lo n) (Ny lo n) .no:=by
 intro ρ H S X R g;refine⟨λi d hd=>?_,by show n<=_;simp [Ny]⟩
 unfold Ny at hd;rw [WE] at hd;cases q:(W6 n)[i]? with
 |none=>rw [q] at hd;cases hd
 |some c=>
  rw [q] at hd;cases hd;obtain⟨h1,h2⟩:=Wn.mp q
  simp at h1 h2
  subst h2;refine⟨h1,λy H' hy=>?_⟩
  obtain⟨rfl,rfl⟩:=hy
  exact⟨Ext.refl,R,.flat_int⟩
theorem Up {tg:Expr}{p:Pos}{m:M D}(h:SE X a m)(hg:Gl X "range")(hm:X.mg "range" = none)(hs:Wr [a] X.env=[(false,eval a X.env)]:=by rfl):SI X tg (.Call (.Name "range" p) [a] [] pos) (G6 m):=by
 refine Pj (Pi hg hm (ZI h Ys (by rw [hs];rfl)) hs) ?_
 rintro σ H Q ⟨ρ,en,S,r,S',E,R,e,k⟩
 unfold G6 at e;obtain⟨q,e1,e⟩:=W4.mp e
 obtain⟨d,S1⟩:=q
 cases d with
 |int j=>
  dsimp only at e;split at e
  ·rename_i hj
   cases e;exact⟨ρ,en,S,.int j,_,E,R,e1,λx ρ1 H1 X1 R1 d1=>⟨j,by rw [d1.of_int],hj.1,hj.2,k _ ρ1 H1 X1 R1 SR trivial⟩⟩
  ·cases e
 |_=>cases e
end
end DL
namespace DL
open PySem PySem.Spec PyProof.Rows L2
section
variable {X:Cx} {e a b c:Expr} {es:List Expr} {pos:Pos}
def tML (K:W8)(m:M (List D)):TE:=λσ H Q=>∃ρ en S ds S',EnR K ρ H en σ/\StR K ρ H S/\m en S=some (ds,S')/\
 ∀a xs ρ' H',Ext ρ H ρ' H'->StR K ρ' H' S'->H' a=none->DsR K ρ' H' ds xs->Q (.ref a) (upd H' a (.lst xs))
def SL (X:Cx)(e:Expr)(m:M (List D)):Prop:=PE X e (tML X.K m)
theorem Z0f {m:M (List D)}(h:SL X e m):SE X e (QT m):=by
 refine ZA h ?_
 rintro σ H Q ⟨ρ,en,S,v,S',E,R,e,k⟩
 unfold QT at e;obtain⟨p,e1,e2⟩:=Wi.mp e
 cases e2;refine⟨ρ,en,S,p.1,p.2,E,R,e1,λa xs ρ' H' X1 R1 ha d1=>?_⟩
 refine k _ (ρ'++[a]) _ (X1.trans (Ext.newRef ha)) (R1.push ha ⟨xs,Z7,d1.up (Ext.newRef ha)⟩) (.ref ?_)
 rw [<-R1.len];simp
section
variable {tg iter elt:Expr} {ifs:List Expr} {scope:Scope} {tgs cn:List Str} {caps:List Nat} {mi:M ItD} {g:TG} {gd:D->En->Option En} {mc:M Bool} {m:M D}
theorem JK (hc:X.calm=true)(sc:CompSc X scope cn caps)(hi:SI X tg iter mi)(hlow:Ft tgs.length g)(hgd:GD X.K g gd)
  (hg:∀fp s H C,PG (ZH X scope (tgs++cn) fp s H C) tg g) (hf:∀fp s H C,SF (ZH X scope (tgs++cn) fp s H C) ifs mc) (he:∀fp s H C,SE (ZH X scope (tgs++cn) fp s H C) elt m)
  (hs:∀x,foldedSetIterable iter X.env x=pure x:=by intro _;rfl):SL X (.ListComp elt [⟨tg,iter,ifs,0⟩] scope pos) (YA mi tgs.length caps gd mc m):=by
 refine ZA (NN (NO (tt:=tMT X.K mc) (te:=tM X.K m) hc sc.cell sc.kind sc.names sc.free sc.cap hi hlow hg hf he hs)) ?_
 rintro σ H Q ⟨ρ,en,S,ds,S',E,R,e,k⟩
 exact Uf hgd (λ_ _ _ h=>h) E R e k
end
def Es (a b:M D):M D:=λen S=>(a en S).bind λp=>(b en p.2).bind λq=>match p.1 with
 | .ref n=>match p.2[n]?,q.2[n]? with
  |some (.lst _),some (.lst ds)=>if ds.length<Wk then some (.non,q.2.set n (.lst (ds++[q.1]))) else none
  |_,_=>none
 |_=>none
theorem Go {K:W8}{ρ:List Addr}{H:Hp}{S:Sto}{n:Nat}{a:Addr}{ds:List D}(R:StR K ρ H S)(h:ρ[n]? = some a)(e:S[n]? = some (.lst ds)):∃xs,H a=some (.lst xs)/\DsR K ρ H ds xs:=by
 obtain⟨ob,e1,r⟩:=R.obj h
 rw [e] at e1;cases e1;exact r
theorem To {p:Pos}{ma mb:M D}(ha:SE X a ma)(hb:SE X b mb)(hs:Wr [b] X.env=(false,eval b X.env) :: Wr [] X.env:=by rfl)
  (hbase:attributeBase a ("append" : Str) X.env (eval a X.env)=eval a X.env:=by rfl)
  (hfew:((backTo pos (Wr [b] X.env)).all (λx=>!x.1)&&(backToKw pos (keywordEach [] X.env)).all (λx=>x.1.isSome)
   && decide ([b].length+([]:List Keyword).length+(if ([]:List Keyword).isEmpty then 0 else 1)<30))=true:=by rfl)
  (hline:(p.endLine == pos.line)=true:=by rfl) (hplain:(backTo pos (Wr [] X.env)).any (·.1)=false:=by rfl) :
  SE X (.Call (.Attribute a "append" p) [b] [] pos) (Es ma mb):=by
 refine ZA (DF PySem.F.plainAttrs_list PySem.F.slot_list_append PySem.F.type_list_append Px ha (ZI hb Ys hs) hbase hfew hline hs hplain) ?_
 rintro σ H Q ⟨ρ,en,S,v,S',E,R,e,k⟩
 unfold Es at e;obtain⟨p,e1,e⟩:=W4.mp e
 obtain⟨q,e2,e⟩:=W4.mp e
 obtain⟨d,S1⟩:=p
 obtain⟨d2,S2⟩:=q
 refine⟨ρ,en,S,d,S1,E,R,e1,λx ρ1 H1 X1 R1 d1=>?_⟩
 cases d with
 |ref n=>
  dsimp only at e;split at e
  ·rename_i ds0 ds hn0 hn
   split at e
   ·rename_i hz
    cases e;obtain⟨l,a1,rfl⟩:=d1.of_ref
    obtain⟨xs0,hx0,_⟩:=Go R1 a1 hn0
    refine⟨.inl ⟨rfl,xs0,.of hx0⟩,ρ1,en,S1,d2,S2,E.up X1,R1,e2,λy ρ2 H2 X2 R2 dy=>?_⟩
    have a2:=X2.pre n l a1
    obtain⟨xs,h1,h2⟩:=Go R2 a2 hn
    refine⟨l,xs,y,rfl,rfl,h1,by rw [<-h2.length];exact hz,?_⟩
    have hd:DsR X.K ρ2 H2 (ds++[d2]) (xs++[y]):=h2.append (.cons dy .nil)
    have hE:Ext ρ2 H2 ρ2 (upd H2 l (.lst (xs++[y]))):=Ext.upd h1 (λ_ z=>nomatch z) λ_ _ z=>nomatch z
    obtain⟨R3,X3⟩:=R2.set (o:=.lst (xs++[y])) (ob:=.lst (ds++[d2])) a2 (λ_ z=>by rw [hn] at z;cases z) ⟨xs++[y],Z7,hd.up hE⟩
    exact k _ ρ2 _ ((X1.trans X2).trans X3) R3 .flat_non
   ·cases e
  ·cases e
 |_=>cases e
def KQ:M D:=λ_ S=>some (.ref S.length,S++[.dct []])
theorem GL:SE X (.Dict [] [] pos) KQ:=by
 refine ZA A8 ?_
 rintro σ H Q ⟨ρ,en,S,v,S',E,R,e,k⟩
 cases e;intro p hp;refine k _ (ρ++[p]) _ (Ext.newRef hp) (R.push hp (.inl ⟨[],[],Z7,rfl,rfl,.nil⟩)) (.ref ?_)
 rw [<-R.len];simp
theorem Hm.or {t t':Z06}(h:Hm X t)(h':Hm X t'):Hm X (λo i v H Q=>t o i v H Q\/t' o i v H Q):=by
 intro pins s σ H o i v ov iv u Q I ro ri rv q;rcases q with q|q
 ·exact h pins s σ H o i v ov iv u Q I ro ri rv q
 ·exact h' pins s σ H o i v ov iv u Q I ro ri rv q
theorem FO (hu:X.A.units+64<cLine):Hm X (λo i v H Q=>∃a H',o = .ref a/\IC H a i v H'/\Q H'):=by
 intro pins s σ H o i v ov iv u Q I ro ri rv h;obtain⟨a,H',rfl,g,q⟩:=h
 cases ro;exact Ra (by omega) I g ri rv λs' I'=>⟨H',I',q⟩
def FR (a k v:D)(S:Sto):Option Sto:=match a with
 | .ref n=>match S[n]? with
  |some (.lst ds)=>(match k with
   | .int i=>(ixN ds.length i).map λj=>S.set n (.lst (ds.set j v))
   |_=>none)
  |some (.dct kvs)=>if (Yv kvs k&&decide (kvs.length<Wk))=true then some (S.set n (.dct (Td kvs k v))) else none
  |_=>none
 |_=>none
def YQ (mv ma mb:M D):MS:=λen S=>(mv en S).bind λp=>(ma en p.2).bind λq=>(mb en q.2).bind λr=>(FR q.1 r.1 p.1 r.2).map λS'=>(.nx,en,S')
theorem DsR.setAt {K:W8}{ρ:List Addr}{H:Hp}{d:D}{x:V}(h:DR K ρ H d x):∀{ds:List D} {xs:List V} (j:Nat),DsR K ρ H ds xs->DsR K ρ H (ds.set j d) (xs.set j x)
 |[],xs,j,t=>by unfold DsR at t;subst t;exact .nil
 |c :: ds,xs,j,t=>by
  unfold DsR at t;obtain⟨y,r,rfl,t1,t2⟩:=t
  cases j with
  |zero=>exact .cons h t2
  |succ j=>exact .cons t1 (DsR.setAt h j t2)
theorem QJ {v:Expr}{p1:Pos}{mv ma mb:M D}(hu:X.A.units+64<cLine)(hv:SE X v mv)(ha:SE X a ma)(hb:SE X b mb)
  (hs:swapsWithSole [.Subscript a b p1] v pos.line X.env=pure false:=by rfl) (hw:swappedStores [.Subscript a b p1] v X.env=pure none:=by rfl)
  (h1:(assignEach [.Subscript a b p1] X.env).map (·.2)=[assign (.Subscript a b p1) X.env]:=by rfl)
  (hq:∀v,assign (.Subscript a b p1) X.env v=(do
   let ov <-holding [v] (eval a X.env)
   let iv <-holding [v,ov] (eval b X.env)
   standAt p1
   holding [v,ov,iv] (setItem ov iv v)
   release [v,ov,iv] []):=by intro _;rfl):SS X (.Assign [.Subscript a b p1] v pos) (YQ mv ma mb):=by
 refine JV (Eh hv (Dt ha hb (Hm.or FM (FO hu)) hq) hs hw h1) ?_
 rintro DD σ H ⟨ρ,en,S,f,en',S',E,R,e,k⟩
 unfold YQ at e;obtain⟨p,e1,e⟩:=W4.mp e
 obtain⟨q,e2,e⟩:=W4.mp e
 obtain⟨r,e3,e⟩:=W4.mp e
 obtain⟨S3,e4,e5⟩:=Wi.mp e
 cases e5;refine⟨ρ,en,S,p.1,p.2,E,R,e1,λx ρ1 H1 X1 R1 d1=>⟨ρ1,en,p.2,q.1,q.2,E.up X1,R1,e2,λy ρ2 H2 X2 R2 d2=>⟨ρ2,en,q.2,r.1,r.2,(E.up X1).up X2,R2,e3,λz ρ3 H3 X3 R3 d3=>?_⟩⟩⟩
 obtain⟨qd,qS⟩:=q
 obtain⟨rd,rS⟩:=r
 dsimp only at e4 d2 d3 R3;have d1':=(d1.up X2).up X3
 have d2':=d2.up X3
 cases qd with
 |ref n=>
  obtain⟨l,a1,rfl⟩:=d2'.of_ref
  dsimp only [FR] at e4;split at e4
  ·rename_i ds hn
   cases rd with
   |int i=>
    obtain⟨j,j1,j2⟩:=Wi.mp e4
    subst j2;obtain⟨xs,h1,h2⟩:=Go R3 a1 hn
    refine .inl ⟨l,xs,i,j,rfl,d3.of_int,h1,by rw [<-h2.length];exact j1,?_⟩
    have hE:Ext ρ3 H3 ρ3 (upd H3 l (.lst (xs.set j x))):=Ext.upd h1 (λ_ z=>nomatch z) λ_ _ z=>nomatch z
    obtain⟨R4,X4⟩:=R3.set (o:=.lst (xs.set j x)) (ob:=.lst (ds.set j p.1)) a1 (λ_ z=>by rw [hn] at z;cases z) ⟨_,Z7,(DsR.setAt d1' j h2).up hE⟩
    exact k ρ3 _ σ (((X1.trans X2).trans X3).trans X4) R4 (E.up (((X1.trans X2).trans X3).trans X4))
   |_=>cases e4
  ·rename_i kvs hn
   split at e4
   ·rename_i hc
    cases e4;rw [Wm,decide_eq_true_eq] at hc;obtain⟨H4,g,R4,X4⟩:=Ih R3 a1 hn hc.1 hc.2 d3 d1'
    exact .inr ⟨l,H4,rfl,g,k ρ3 H4 σ (((X1.trans X2).trans X3).trans X4) R4 (E.up (((X1.trans X2).trans X3).trans X4))⟩
   ·cases e4
  ·cases e4
 |_=>cases e4
def KU (ma mb mc:M D):M D:=λen S=>(ma en S).bind λp=>(mb en p.2).bind λq=>(mc en q.2).bind λr=>match p.1 with
 | .ref n=>if G8 p.2 n=true then (Q7 r.2 n q.1).map λkvs=>((J7 kvs q.1).getD r.1,r.2) else none
 |_=>none
theorem A9 {o e f:Expr}{apos cpos:Pos}{td ty tx:TE}(hu:X.A.units+64<cLine)(ho:PE X o td)(he:PE X e ty)(hf:PE X f tx)(m:M2 X o "get" apos e f cpos) :
  PE X (.Call (.Attribute o "get" apos) [e,f] [] cpos) (λσ H Q=>td σ H λx H1=>∃a,x = .ref a/\IsD H1 a/\ty σ H1 λy H2=>tx σ H2 λz H3=>∃o,JQ H3 a y o/\Q (o.getD z) H3):=by
 intro pins s σ H Q I h;refine wpAny_Call_method m.base m.few m.line W1A W0h PySem.F.type_dict_get (thn (ho pins s σ H _ I h) λu s1 ⟨x,H1,I1,rx,a,ex,d,q1⟩=>?_)
 subst ex;obtain rfl:u=Value.ref a:=rx
 obtain⟨t1,t2,_⟩:=Lr I1 d
 refine⟨t1,t2,?_⟩
 rw [m.trees];refine W0Q rfl (W21 (W0B (thn (he pins s1 σ H1 _ I1 q1) λiv s2 ⟨y,H2,I2,ry,q2⟩=>
  W0B (thn (hf pins s2 σ H2 _ I2 q2) λfv s3 ⟨z,H3,I3,rz,ov,g,q3⟩=>W0Y ?_))))
 exact Im (by omega) I3 g ry rz λw' s4 I4 rw'=>⟨_,H3,I4,rw',q3⟩
theorem HL {apos:Pos}{ma mb mc:M D}(hu:X.A.units+64<cLine)(ha:SE X a ma)(hb:SE X b mb)(hc:SE X c mc)(m:M2 X a "get" apos b c pos:=by exact⟨by rfl,by rfl,by rfl,by rfl⟩) :
  SE X (.Call (.Attribute a "get" apos) [b,c] [] pos) (KU ma mb mc):=by
 refine ZA (A9 hu ha hb hc m) ?_
 rintro σ H Q ⟨ρ,en,S,v,S',E,R,e,k⟩
 unfold KU at e;obtain⟨p,e1,e⟩:=W4.mp e
 obtain⟨q,e2,e⟩:=W4.mp e
 obtain⟨r,e3,e⟩:=W4.mp e
 obtain⟨pd,pS⟩:=p
 refine⟨ρ,en,S,pd,pS,E,R,e1,λx ρ1 H1 X1 R1 d1=>?_⟩
 cases pd with
 |ref n=>
  dsimp only at e;split at e
  ·rename_i hn0
   obtain⟨kvs,hn,e⟩:=Wi.mp e
   ·cases e
    obtain⟨l,a1,rfl⟩:=d1.of_ref
    refine⟨l,rfl,Lq R1 a1 hn0,ρ1,en,pS,q.1,q.2,E.up X1,R1,e2,λy ρ2 H2 X2 R2 d2=>⟨ρ2,en,q.2,r.1,r.2,(E.up X1).up X2,R2,e3,λz ρ3 H3 X3 R3 d3=>?_⟩⟩
    obtain⟨g1,g2⟩:=TR R3 (X3.pre n l (X2.pre n l a1)) hn (d2.up X3)
    cases hd:J7 kvs q.1 with
    |some w=>
     rw [hd] at k;obtain⟨x',x1,x2⟩:=g1 w hd
     exact⟨some x',x1,k _ ρ3 H3 ((X1.trans X2).trans X3) R3 x2⟩
    |none=>
     rw [hd] at k;exact⟨none,g2 hd,k _ ρ3 H3 ((X1.trans X2).trans X3) R3 d3⟩
  ·cases e
 |_=>cases e
def Ht:D->Sto->Option (List D)
 | .tup ds,_=>some ds
 | .ref n,S=>match S[n]? with|some (.lst ds)=>some ds|_=>none
 | .scr ns,_=>some (ns.map D.int)
 |_,_=>none
def KP (m:M D):M D:=λen S=>(m en S).bind λp=>(Ht p.1 p.2).map λds=>(.tup ds,p.2)
theorem RS {p:Pos}{m:M D}(h:SE X e m)(hg:Gl X "tuple")(hm:X.mg "tuple" = none)(hv:WK "tuple" = some (.type "tuple"))
  (he:Wr [e] X.env=(false,eval e X.env) :: Wr [] X.env:=by rfl):SE X (.Call (.Name "tuple" p) [e] [] pos) (KP m):=by
 refine ZA (Tv Ug hg hm hv (ZI h Ys he) (by decide) (by decide) he (by rfl)) ?_
 rintro σ H Q ⟨ρ,en,S,v,S',E,R,e,k⟩
 unfold KP at e;obtain⟨q,e1,e⟩:=W4.mp e
 obtain⟨ds,e2,e3⟩:=Wi.mp e
 cases e3;refine⟨ρ,en,S,q.1,q.2,E,R,e1,λx ρ1 H1 X1 R1 d1=>?_⟩
 obtain⟨d,S1⟩:=q
 dsimp only at e2 d1 R1 k;cases d with
 |tup es=>
  cases e2;obtain⟨a,xs,rfl,a1,a2⟩:=d1.of_tup
  exact⟨a,xs,rfl,.inr ⟨.of a1,k _ ρ1 H1 X1 R1 d1⟩⟩
 |ref n=>
  obtain⟨a,a1,rfl⟩:=d1.of_ref
  dsimp only [Ht] at e2;split at e2
  ·rename_i es hn
   cases e2;obtain⟨xs,h1,h2⟩:=Go R1 a1 hn
   exact⟨a,xs,rfl,.inl ⟨.of h1,λl hl=>k _ ρ1 _ (X1.trans (Ext.new hl)) (R1.new hl) (.tup Z7 (h2.up (Ext.new hl)))⟩⟩
  ·cases e2
 |scr ns=>
  cases e2;obtain⟨a,rfl,a1⟩:=d1.of_scr
  exact⟨a,_,rfl,.inl ⟨a1.seq,λl hl=>k _ ρ1 _ (X1.trans (Ext.new hl)) (R1.new hl) (.tup Z7 ((DsR.ints ns).up (Ext.new hl)))⟩⟩
 |_=>cases e2
def JZ (m:M (List D)):M D:=λen S=>(m en S).map λp=>(.tup p.1,p.2)
theorem Qz {p:Pos}{m:M (List D)}(h:SL X e m)(hg:Gl X "tuple")(hm:X.mg "tuple" = none)(hv:WK "tuple" = some (.type "tuple"))
  (he:Wr [e] X.env=(false,eval e X.env) :: Wr [] X.env:=by rfl):SE X (.Call (.Name "tuple" p) [e] [] pos) (JZ m):=by
 refine ZA (Tv Ug hg hm hv (ZI h Ys he) (by decide) (by decide) he (by rfl)) ?_
 rintro σ H Q ⟨ρ,en,S,v,S',E,R,e,k⟩
 unfold JZ at e;obtain⟨q,e1,e2⟩:=Wi.mp e
 cases e2;refine⟨ρ,en,S,q.1,q.2,E,R,e1,λa xs ρ1 H1 X1 R1 ha d1=>⟨a,xs,rfl,.inl ⟨.of Z7,λl hl=>?_⟩⟩⟩
 exact k _ ρ1 _ ((X1.trans (Ext.new ha)).trans (Ext.new hl)) ((R1.new ha).new hl) (.tup Z7 ((d1.up (Ext.new ha)).up (Ext.new hl)))
def FF:D->Sto->Option (List D)
 | .tup ds,_=>some ds
 | .ref n,S=>match S[n]? with
  |some (.lst ds)=>some ds
  |some (.dct kvs)=>some (kvs.map (·.1))
  |some (.fdct kvs)=>some (kvs.map (·.1))
  |_=>none
 | .scr ns,_=>some (ns.map D.int)
 |_,_=>none
def BP (m:M D):M (List D):=λen S=>(m en S).bind λp=>(FF p.1 p.2).bind λds=>if Yg ds=true then some (ZT ds,p.2) else none
theorem B6 {K:W8}{ρ:List Addr}{H:Hp}:∀{kvs:List (D×D)} {ks:List Key},kvs.map (λp=>QM p.1)=ks.map some->DsR K ρ H (kvs.map (·.1)) (ks.map kV)
 |[],ks,e=>by
  cases ks with
  |nil=>exact .nil
  |cons _ _=>cases e
 |p :: kvs,ks,e=>by
  cases ks with
  |nil=>cases e
  |cons k ks=>
   simp only [W1,W06] at e
   exact .cons (B8 e.1) (B6 e.2)
theorem N0 {K:W8}{ρ:List Addr}{H:Hp}:∀{ds:List D} {ks:List Key},PR ds=some ks->DsR K ρ H ds (ks.map kV)
 |[],ks,e=>by cases e;exact .nil
 |d :: ds,ks,e=>by
  unfold PR at e;obtain⟨k,e1,e⟩:=W4.mp e
  obtain⟨ks',e2,e3⟩:=Wi.mp e
  subst e3;exact .cons (B8 e1) (N0 e2)
theorem BZ {K:W8}{ρ:List Addr}{H:Hp}:∀{kvs:List (D×D)} {ks:List (List Key)} {xs:List V} {bs:List Addr},kvs.map (λp=>QB p.1)=ks.map some->ks.length=xs.length->Paired (λ(p:List Key×V) (b:Addr)=>H b=some (.tup (p.1.map kV))) (ks.zip xs) bs->DsR K ρ H (kvs.map (·.1)) (bs.map V.ref)
 |[],ks,xs,bs,e,hl,h=>by
  cases ks with
  |nil=>cases h;exact .nil
  |cons _ _=>cases e
 |p :: kvs,ks,xs,bs,e,hl,h=>by
  cases ks with
  |nil=>cases e
  |cons k ks=>
   cases xs with
   |nil=>cases hl
   |cons x xs=>
    simp only [W1,W06] at e
    rw [WM] at h;cases h with
    |cons h1 h2=>
     obtain⟨d,v⟩:=p
     refine .cons ?_ (BZ e.2 (by simpa using hl) h2)
     have e1:=e.1
     cases d with
     |tup ds=>exact .tup h1 (N0 e1)
     |_=>cases e1
theorem Js {p:Pos}{m:M D}(hcalm:X.calm=true)(hu:X.A.units+70<cLine)(h:SE X e m)(hg:Gl X "sorted")(hm:X.mg "sorted" = none)(hv:WK "sorted" = some (.builtin "sorted"))
  (he:Wr [e] X.env=(false,eval e X.env) :: Wr [] X.env:=by rfl):SL X (.Call (.Name "sorted" p) [e] [] pos) (BP m):=by
 refine ZA (QS ((Mj hu).or (Nj hcalm hu)) hg hm hv (ZI h Ys he) (by decide) (by decide) he (by rfl)) ?_
 rintro σ H Q ⟨ρ,en,S,ds,S',E,R,e,k⟩
 unfold BP at e;obtain⟨q,e1,e⟩:=W4.mp e
 obtain⟨ds0,e2,e⟩:=W4.mp e
 split at e
 ·rename_i ok
  cases e;refine⟨ρ,en,S,q.1,q.2,E,R,e1,λx ρ1 H1 X1 R1 d1=>?_⟩
  obtain⟨d,S1⟩:=q
  dsimp only at e2 d1 R1 k;have fin:∀b xs',H1 b=none->DsR X.K ρ1 H1 (ZT ds0) xs'->Q (.ref b) (upd H1 b (.lst xs')):=λl xs' hl d'=>k l xs' ρ1 H1 X1 R1 hl d'
  cases d with
  |tup es=>
   cases e2;obtain⟨a,xs,rfl,a1,a2⟩:=d1.of_tup
   exact .inl ⟨a,xs,ρ1,_,rfl,.inr (.of a1),a2,ok,fin⟩
  |scr ns=>
   cases e2;obtain⟨a,rfl,a1⟩:=d1.of_scr
   exact .inl ⟨a,_,ρ1,_,rfl,.inl a1.seq,.ints ns,ok,fin⟩
  |ref n=>
   obtain⟨a,a1,rfl⟩:=d1.of_ref
   obtain⟨ob,eo,ro⟩:=R1.obj a1
   dsimp only [FF] at e2;rw [eo] at e2;cases ob with
   |lst es=>
    cases e2;obtain⟨xs,x1,x2⟩:=ro
    exact .inl ⟨a,xs,ρ1,_,rfl,.inl (.of x1),x2,ok,fin⟩
   |dct kvs=>
    cases e2;rcases ro with ⟨ks,xs,q1,q2,q3,q4⟩|⟨ks,xs,q1,q2,q3,q4⟩
    ·exact .inr ⟨a,ρ1,_,rfl,ok,fin,.inl ⟨ks,xs,.inl q1,q2,B6 q3⟩⟩
    ·exact .inr ⟨a,ρ1,_,rfl,ok,fin,.inr ⟨_,q1,λbs hb=>BZ q3 q2 hb⟩⟩
   |fdct kvs=>
    cases e2;obtain⟨o,ks,xs,q1,q2,q3,q4⟩:=ro
    exact .inr ⟨a,ρ1,_,rfl,ok,fin,.inl ⟨ks,xs,.inr ⟨o,q1⟩,q2,B6 q3⟩⟩
   |ins _ _=>cases e2
  |_=>cases e2
 ·cases e
end
end DL
namespace DL
open PySem PySem.Spec PyProof.Rows L2
section
variable {X:Cx} {e a b c:Expr} {es:List Expr} {pos:Pos}
def E8 (xs ys:List D):List D:=(xs.zip ys).map λp=>.tup [p.1,p.2]
def KA:D->Sto->Option (List D×List (Nat×List D))
 | .tup ds,_=>some (ds,[])
 | .ref n,S=>match S[n]? with|some (.lst ds)=>some (ds,[(n,ds)])|_=>none
 |_,_=>none
def gdZ:List (Nat×List D)->Gd
 |[]=>.no
 |g=>.zl g
def O7 (ma mb:M D):M ItD:=λen S=>(ma en S).bind λp=>(mb en p.2).bind λq=>(KA p.1 q.2).bind λx=>(KA q.1 q.2).map λy=>((E8 x.1 y.1,gdZ (x.2++y.2)),q.2)
theorem CD {gs:List (Nat×List D)}{ds:List D}{S:Sto}(h:Gf (gdZ gs) ds S):∀p∈gs,S[p.1]? = some (.lst p.2):=by
 cases gs with
 |nil=>intro p hp;cases hp
 |cons _ _=>exact h
def SdR (K:W8)(ρ:List Addr)(H:Hp)(c:Bool)(l:Addr)(ds:List D)(gs:List (Nat×List D)):Prop:=(c=false/\∃vs,H l=some (.tup vs)/\DsR K ρ H ds vs)\/(c=true/\∃n,ρ[n]? = some l/\(n,ds)∈gs)
theorem Mz {K:W8}{ρ:List Addr}{H:Hp}{S:Sto}{d:D}{x:V}{r:List D×List (Nat×List D)}(R:StR K ρ H S)(h:DR K ρ H d x)(e:KA d S=some r):∃c l vs,x = .ref l/\TrS c H l vs/\SdR K ρ H c l r.1 r.2:=by
 cases d with
 |tup ds=>
  cases e;obtain⟨a,xs,rfl,a1,a2⟩:=h.of_tup
  exact⟨false,a,xs,rfl,a1,.inl ⟨rfl,xs,a1,a2⟩⟩
 |ref n=>
  obtain⟨a,a1,rfl⟩:=h.of_ref
  dsimp only [KA] at e;split at e
  ·rename_i ds hn
   cases e;obtain⟨xs,x1,x2⟩:=Go R a1 hn
   exact⟨true,a,xs,rfl,x1,.inr ⟨rfl,n,a1,Wp⟩⟩
  ·cases e
 |_=>cases e
theorem SdR.mono {K:W8}{ρ:List Addr}{H:Hp}{c:Bool}{l:Addr}{ds:List D}{gs gs':List (Nat×List D)}(h:SdR K ρ H c l ds gs)(hs:∀p∈gs,p∈gs'):SdR K ρ H c l ds gs':=by
 rcases h with h|⟨h1,n,h2,h3⟩
 ·exact .inl h
 ·exact .inr ⟨h1,n,h2,hs _ h3⟩
theorem SdR.at {K:W8}{ρ0 ρ:List Addr}{H0 H:Hp}{S:Sto}{c:Bool}{l:Addr}{ds:List D}{gs:List (Nat×List D)}(h:SdR K ρ0 H0 c l ds gs)(X1:Ext ρ0 H0 ρ H)(R:StR K ρ H S)(g:∀p∈gs,S[p.1]? = some (.lst p.2)):∃vs,TrS c H l vs/\DsR K ρ H ds vs:=by
 rcases h with ⟨rfl,vs,h1,h2⟩|⟨rfl,n,h1,h2⟩
 ·exact⟨vs,X1.tup _ _ h1,h2.up X1⟩
 ·obtain⟨xs,x1,x2⟩:=Go R (X1.pre n l h1) (g _ h2)
  exact⟨xs,x1,x2⟩
theorem SK {K:W8}{ρ0:List Addr}{H0:Hp}{c1 c2:Bool}{l1 l2:Addr}{xs ys:List D}{gs:List (Nat×List D)}(s1:SdR K ρ0 H0 c1 l1 xs gs)(s2:SdR K ρ0 H0 c2 l2 ys gs) :
  ItR K ρ0 H0 (Itz c1 l1 c2 l2) (E8 xs ys) (gdZ gs):=by
 intro ρ H S X1 R g;obtain⟨vs,t1,d1⟩:=s1.at X1 R (CD g)
 obtain⟨ws,t2,d2⟩:=s2.at X1 R (CD g)
 refine⟨λi d hd=>?_,vs,ws,t1,t2,?_⟩
 ·unfold E8 at hd
  rw [WE] at hd;obtain⟨q,q1,q2⟩:=Wi.mp hd
  obtain⟨z1,z2⟩:=W1b.mp q1
  obtain⟨x,x1,x2⟩:=d1.get z1
  obtain⟨y,y1,y2⟩:=d2.get z2
  refine⟨⟨vs,ws,x,y,t1,t2,x1,y1⟩,λv H' hy=>?_⟩
  obtain⟨p,x',y',rfl,hn,rfl,e1,e2⟩:=hy
  have e1:=e1 _ t1
  have e2:=e2 _ t2
  rw [x1] at e1;rw [y1] at e2;cases e1;cases e2;subst q2;exact⟨Ext.new hn,R.new hn,.tup Z7 ((DsR.cons x2 (.cons y2 .nil)).up (Ext.new hn))⟩
 ·have l1:=d1.length
  have l2:=d2.length
  unfold E8;rw [W7,VA];omega
theorem D5 {elts:List Expr}{kt:Nat}{pt p:Pos}{ma mb:M D}(ha:SE X a ma)(hb:SE X b mb)(hg:Gl X "zip")(hm:X.mg "zip" = none)(hv:WK "zip" = some (.type "zip"))
  (he:Wr [a,b] X.env=(false,eval a X.env) :: Wr [b] X.env:=by rfl) (he2:Wr [b] X.env=(false,eval b X.env) :: Wr [] X.env:=by rfl) :
  SI X (.Tuple elts kt pt) (.Call (.Name "zip" p) [a,b] [] pos) (O7 ma mb):=by
 refine Pj (Dr hg hm hv (ZI ha (ZI hb Ys he2) he) he (by rw [he2];rfl)) ?_
 rintro σ H Q ⟨ρ,en,S,r,S',E,R,e,k⟩
 unfold O7 at e;obtain⟨p,e1,e⟩:=W4.mp e
 obtain⟨q,e2,e⟩:=W4.mp e
 obtain⟨x,e3,e⟩:=W4.mp e
 obtain⟨y,e4,e⟩:=Wi.mp e
 cases e;refine⟨ρ,en,S,p.1,p.2,E,R,e1,λu ρ1 H1 X1 R1 d1=>⟨ρ1,en,p.2,q.1,q.2,E.up X1,R1,e2,λv ρ2 H2 X2 R2 d2=>?_⟩⟩
 obtain⟨c1,l1,vs,rfl,t1,s1⟩:=Mz R2 (d1.up X2) e3
 obtain⟨c2,l2,ws,rfl,t2,s2⟩:=Mz R2 d2 e4
 refine⟨c1,l1,vs,c2,l2,ws,rfl,t1,t2,k _ ρ2 H2 (X1.trans X2) R2 (SK (s1.mono λp hp=>Vk _ hp) (s2.mono λp hp=>WO _ hp)) ?_⟩
 show GF X (gdZ (x.2++y.2)) ρ2 H
 cases x.2++y.2<;>trivial
def Sr (f:Int->Int->Int)(a b:M D):M D:=λen S=>(a en S).bind λp=>(b en p.2).bind λq=>match p.1,q.1 with | .int i,.int j=>some (.int (f i j),q.2)|_,_=>none
def CC (i j:Int):Int:=if j>i then j else i
theorem Fw {f:Int->Int->Int}{ma mb:M D}{σ:L2.St}{H:Hp}{Q:VK}(h:tM X.K (Sr f ma mb) σ H Q):Ky (tM X.K ma) (Ky (tM X.K mb) ID) σ H (λxs H'=>∃i j,xs=[.int i,.int j]/\Q (.int (f i j)) H'):=by
 obtain⟨ρ,en,S,v,S',E,R,e,k⟩:=h
 unfold Sr at e;obtain⟨p,e1,e⟩:=W4.mp e
 obtain⟨q,e2,e⟩:=W4.mp e
 obtain⟨d,S1⟩:=p
 obtain⟨d',S2⟩:=q
 refine⟨ρ,en,S,d,S1,E,R,e1,λx ρ1 H1 X1 R1 d1=>⟨ρ1,en,S1,d',S2,E.up X1,R1,e2,λy ρ2 H2 X2 R2 d2=>?_⟩⟩
 cases d with
 |int i=>
  cases d' with
  |int j=>
   cases e;exact⟨i,j,by rw [d1.of_int,d2.of_int],k _ ρ2 H2 (X1.trans X2) R2 .flat_int⟩
  |_=>cases e
 |_=>cases e
theorem HG {p:Pos}{ma mb:M D}(hc:X.calm=true)(ha:SE X a ma)(hb:SE X b mb)(hg:Gl X "max")(hm:X.mg "max" = none)(hv:WK "max" = some (.builtin "max"))
  (he:Wr [a,b] X.env=(false,eval a X.env) :: Wr [b] X.env:=by rfl) (he2:Wr [b] X.env=(false,eval b X.env) :: Wr [] X.env:=by rfl):SE X (.Call (.Name "max" p) [a,b] [] pos) (Sr CC ma mb):=
 ZA (QS (F1 hc) hg hm hv (ZI ha (ZI hb Ys he2) he) (by decide) (by decide) he (by rw [he2];rfl)) λ_ _ _ h=>Fw h
theorem Oc {pins:List (Addr×Obj)}{σ:L2.St}{H:Hp}{s:Shared}{ρ:List Addr}{S:Sto}{d:D}{x:V}{u:Value}{T:String}(I:Inv X pins σ H s)(R:StR X.K ρ H S)(h:DR X.K ρ H d x)(rx:ZC x u)(e:tyD d S=some T) :
  ∃Z,PySem.W.KitX X.K u (.type T) Z/\Z s.heap/\u≠.builtin "__main__.__loader__#opaque":=by
 cases d with
 |non=>rw [h.of_non] at rx;cases e;cases (show u=Value.none from rx);exact⟨_,PySem.W.kitx_none,True.intro,λz=>nomatch z⟩
 |bl b=>rw [h.of_bl] at rx;cases e;cases (show u=Value.bool b from rx);exact⟨_,PySem.W.kitx_bool,True.intro,λz=>nomatch z⟩
 |int i=>rw [h.of_int] at rx;cases e;obtain⟨t,q⟩:=(show ∃t,u=Value.int i t from rx);cases q;exact⟨_,PySem.W.kitx_int,True.intro,λz=>nomatch z⟩
 |str i=>rw [h.of_str] at rx;cases e;obtain⟨t,q⟩:=(show ∃t,u=Value.str i t from rx);cases q;exact⟨_,PySem.W.kitx_str,True.intro,λz=>nomatch z⟩
 |tup ds=>
  obtain⟨a,xs,rfl,a1,_⟩:=h.of_tup
  cases e;cases (show u=Value.ref a from rx)
  obtain⟨its,rv,⟨o,ho,hc,_⟩,_⟩:=I.tuple (.of a1)
  exact⟨_,PySem.W.kitx_tuple,⟨o,ho,hc⟩,λz=>nomatch z⟩
 |ref n=>
  obtain⟨a,a1,rfl⟩:=h.of_ref
  cases (show u=Value.ref a from rx)
  obtain⟨ob,eo,ro⟩:=R.obj a1
  dsimp only [tyD] at e;rw [eo] at e;cases ob with
  |lst ds=>
   cases e;obtain⟨xs,x1,_⟩:=ro
   obtain⟨_,_,n,_,h1⟩:=(show ZL X.prog X.w H s.heap a (.lst xs) from I.hok a _ x1)
   exact⟨_,W2w,⟨_,h1,rfl⟩,λz=>nomatch z⟩
  |dct kvs=>
   cases e;have:IsD H a:=Lq R a1 (by unfold G8;rw [eo])
   obtain⟨t1,_⟩:=Lr I this
   obtain⟨o,ho,hc⟩:=t1
   exact⟨_,W2x,⟨o,ho,hc⟩,λz=>nomatch z⟩
  |fdct _=>cases e
  |ins _ _=>cases e
 |scr ns=>cases e
def PJ (C1 C2:String)(m:M D):M D:=λen S=>(m en S).bind λp=>(tyD p.1 p.2).map λT=>(.bl (Gq T C1||Gq T C2),p.2)
theorem F2 {C1 C2:String}(h1:Isi X.K C1)(h2:Isi X.K C2):J8 X (.builtin "isinstance") (λxs H Q=>∃x p ρ S d T,xs=[x,.ref p]/\H p=some (.tup [.ty C1,.ty C2])/\StR X.K ρ H S/\DR X.K ρ H d x/\tyD d S=some T/\Q (.bl (Gq T C1||Gq T C2)) H):=by
 intro pins s σ H xs us Q I r h;obtain⟨x,p,ρ,S,d,T,rfl,hp,R,dx,ty,q⟩:=h
 obtain⟨u,w',rfl,ru,rw'⟩:=Ku r
 cases rw'
 obtain⟨Z,z1,z2,z3⟩:=Oc I R dx ru ty
 obtain⟨its,rv,⟨o,ho,hc,n,hd⟩,_⟩:=I.tuple (.of hp)
 obtain⟨v1,v2,rfl,r1,r2⟩:=Ku rv
 cases (show v1=Value.type C1 from r1)
 cases (show v2=Value.type C2 from r2)
 obtain⟨oc,od,odt,osl⟩:=o
 dsimp only at hc hd;subst hc hd;refine PySem.W.kia_tup z1 I.kIn z2 ho (b:=Gq T C1||Gq T C2) ?_ z3 λtk=>⟨.bl _,H,I.tok tk,rfl,q⟩
 unfold PySem.W.kitAny;rw [h1 T (RA ty)];cases Gq T C1 with
 |true=>rfl
 |false=>
  dsimp only;unfold PySem.W.kitAny;rw [h2 T (RA ty)];cases Gq T C2<;>rfl
theorem HJ {p p1 p2 p3:Pos}{k3:Nat}{C1 C2:String}{x1 x2:Str}{m:M D}(hi1:Isi X.K C1)(hi2:Isi X.K C2)(h:SE X a m)(hg:Gl X "isinstance")(hm:X.mg "isinstance" = none)(hv:WK "isinstance" = some (.builtin "isinstance"))
  (hg1:Gl X x1) (hm1:X.mg x1=none) (hv1:WK x1=some (.type C1)) (hg2:Gl X x2) (hm2:X.mg x2=none) (hv2:WK x2=some (.type C2))
  (hn1:x1≠"__name__":=by decide) (hd1:(x1 == ("__debug__" : Str))=false:=by decide) (hn2:x2≠"__name__":=by decide) (hd2:(x2 == ("__debug__" : Str))=false:=by decide)
  (he:Wr [a,.Tuple [.Name x1 p1,.Name x2 p2] k3 p3] X.env=(false,eval a X.env) :: Wr [.Tuple [.Name x1 p1,.Name x2 p2] k3 p3] X.env:=by rfl)
  (he2:Wr [.Tuple [.Name x1 p1,.Name x2 p2] k3 p3] X.env=(false,eval (.Tuple [.Name x1 p1,.Name x2 p2] k3 p3) X.env) :: Wr [] X.env:=by rfl)
  (hf1:Wr [.Name x1 p1,.Name x2 p2] X.env=(false,eval (.Name x1 p1) X.env) :: Wr [.Name x2 p2] X.env:=by rfl) (hf2:Wr [.Name x2 p2] X.env=(false,eval (.Name x2 p2) X.env) :: Wr [] X.env:=by rfl) :
  SE X (.Call (.Name "isinstance" p) [a,.Tuple [.Name x1 p1,.Name x2 p2] k3 p3] [] pos) (PJ C1 C2 m):=by
 refine ZA (QS (F2 (C1:=C1) (C2:=C2) hi1 hi2) hg hm hv (ZI h (ZI (Ej (ZI (NP hg1 hm1 hv1 (show ZC (.ty C1) (.type C1) from rfl) hn1 hd1) (ZI (NP hg2 hm2 hv2 (show ZC (.ty C2) (.type C2) from rfl) hn2 hd2) Ys hf2) hf1)) Ys he2) he) (by decide) (by decide) he (by rw [he2];rfl)) ?_
 rintro σ H Q ⟨ρ,en,S,v,S',E,R,e,k⟩
 unfold PJ at e;obtain⟨r,e1,e⟩:=W4.mp e
 obtain⟨T,e2,e3⟩:=Wi.mp e
 cases e3;refine⟨ρ,en,S,r.1,r.2,E,R,e1,λx ρ1 H1 X1 R1 d1=>⟨by show 2<=Wk;decide,λq hq=>⟨x,q,ρ1,r.2,r.1,T,rfl,Z7,R1.new hq,d1.up (Ext.new hq),e2,k _ ρ1 _ (X1.trans (Ext.new hq)) (R1.new hq) .flat_bl⟩⟩⟩
def JW:List D->Option (List (D×D))
 |[]=>some []
 | .tup [k,v] :: r=>if (QM k).isSome=true then (JW r).map λps=>(k,v) :: ps else none
 |_=>none
def US (kvs:List (D×D))(ps:List (D×D)):List (D×D):=ps.foldl (λacc p=>Td acc p.1 p.2) kvs
def BT (m:M D):M D:=λen S=>(m en S).bind λp=>match p.1 with
 | .tup ds=>if ds.length<=Wk then (JW ds).map λps=>(.ref p.2.length,p.2++[.dct (US [] ps)]) else none
 |_=>none
theorem BF {K:W8}{ρ:List Addr}{H:Hp}:∀{ds:List D} {qs:List (D×D)} {xs:List V},JW ds=some qs->DsR K ρ H ds xs->
  ∃ps:List (Key×V),xs.length=ps.length/\(∀(j:Nat) k v,ps[j]? = some (k,v)->∃p,xs[j]? = some (.ref p)/\H p=some (.tup [kV k,v]))/\qs.map (λp=>QM p.1)=ps.map (λp=>some p.1)/\DsR K ρ H (qs.map (·.2)) (ps.map (·.2))
 |[],qs,xs,e,h=>by
  cases e;unfold DsR at h;subst h;exact⟨[],rfl,λj k v z=>by simp at z,rfl,.nil⟩
 |d :: ds,qs,xs,e,h=>by
  unfold DsR at h;obtain⟨x,r,rfl,h1,h2⟩:=h
  unfold JW at e;split at e
  ·rename_i heq;cases heq
  ·rename_i k v r' heq
   cases heq;split at e
   ·rename_i hk
    obtain⟨qs',e1,e2⟩:=Wi.mp e
    subst e2;obtain⟨ps,p1,p2,p3,p4⟩:=BF e1 h2
    obtain⟨a,us,rfl,a1,a2⟩:=h1.of_tup
    unfold DsR at a2;obtain⟨x1,r1,rfl,b1,b2⟩:=a2
    unfold DsR at b2;obtain⟨x2,r2,rfl,b3,b4⟩:=b2
    unfold DsR at b4;subst b4;obtain⟨k',hk'⟩:=W1m.mp hk
    have ek:=N1 hk' b1
    subst ek;refine⟨(k',x2) :: ps,by simp [p1],λj k v z=>?_,by simp [p3,hk'],.cons b3 p4⟩
    cases j with
    |zero=>
     simp at z
     obtain⟨rfl,rfl⟩:=z
     exact⟨a,by simp,a1⟩
    |succ j=>exact p2 j k v (by simpa using z)
   ·cases e
  ·cases e
theorem Nh {K:W8}{ρ:List Addr}{H:Hp}:∀{qs:List (D×D)} {ps:List (Key×V)} {kvs:List (D×D)} {ks:List Key} {xs:List V},qs.map (λp=>QM p.1)=ps.map (λp=>some p.1)->DsR K ρ H (qs.map (·.2)) (ps.map (·.2))->
  kvs.map (λp=>QM p.1)=ks.map some->ks.length=xs.length->DsR K ρ H (kvs.map (·.2)) xs->
  ∃(ks':List Key) (xs':List V),Qe (ks.zip xs) ps=ks'.zip xs'/\ks'.length=xs'.length/\(US kvs qs).map (λp=>QM p.1)=ks'.map some/\DsR K ρ H ((US kvs qs).map (·.2)) xs'
 |[],ps,kvs,ks,xs,h1,h2,h3,h4,h5=>by
  cases ps with
  |nil=>exact⟨ks,xs,rfl,h4,h3,h5⟩
  |cons _ _=>cases h1
 |q :: qs,ps,kvs,ks,xs,h1,h2,h3,h4,h5=>by
  cases ps with
  |nil=>cases h1
  |cons p ps=>
   simp only [W1,W06] at h1
   obtain⟨g1,g2⟩:=h1
   simp only [W1] at h2
   unfold DsR at h2;obtain⟨x,r,ex,g3,g4⟩:=h2
   cases ex;obtain⟨ks',xs',z1,z2,z3,z4⟩:=NC QM g1 (Z05 g1) g3 h3 h4 h5
   obtain⟨ks2,xs2,w1,w2,w3,w4⟩:=Nh (kvs:=Td kvs q.1 q.2) (ks:=ks') (xs:=xs') g2 g4 z3 z2 z4
   refine⟨ks2,xs2,?_,w2,w3,w4⟩
   rw [<-w1,<-z1];rfl
theorem FS {p:Pos}{m:M D}(hcalm:X.calm=true)(h:SE X e m)(hg:Gl X "dict")(hm:X.mg "dict" = none)(hv:WK "dict" = some (.type "dict"))
  (he:Wr [e] X.env=(false,eval e X.env) :: Wr [] X.env:=by rfl):SE X (.Call (.Name "dict" p) [e] [] pos) (BT m):=by
 refine ZA (Tv (TX hcalm) hg hm hv (ZI h Ys he) (by decide) (by decide) he (by rfl)) ?_
 rintro σ H Q ⟨ρ,en,S,v,S',E,R,e,k⟩
 unfold BT at e;obtain⟨q,e1,e⟩:=W4.mp e
 refine⟨ρ,en,S,q.1,q.2,E,R,e1,λx ρ1 H1 X1 R1 d1=>?_⟩
 obtain⟨d,S1⟩:=q
 dsimp only at e d1 R1 k;cases d with
 |tup ds=>
  dsimp only at e;split at e
  ·rename_i hz
   obtain⟨qs,e2,e3⟩:=Wi.mp e
   cases e3;obtain⟨a,xs,rfl,a1,a2⟩:=d1.of_tup
   obtain⟨ps,p1,p2,p3,p4⟩:=BF e2 a2
   refine⟨a,xs,ps,rfl,a1,p1,by rw [<-p1,<-a2.length];exact hz,p2,λl hl=>?_⟩
   obtain⟨ks,vs,z1,z2,z3,z4⟩:=Nh (kvs:=[]) (ks:=[]) (xs:=[]) p3 p4 rfl rfl .nil
   have z1':Qe [] ps=ks.zip vs:=z1
   refine k _ (ρ1++[l]) _ (X1.trans (Ext.newRef hl)) (R1.push hl (.inl ⟨ks,vs,by rw [Z7,z1'],z2,z3,z4.up (Ext.newRef hl)⟩)) (.ref ?_)
   rw [<-R1.len];simp
  ·cases e
 |_=>cases e
end
end DL
namespace DL
open PySem L2 PySem.Spec PyProof.Rows
section
variable {X:Cx} {e a d:Expr} {pos:Pos}
end
end DL
namespace DL
open PySem L2 PySem.Spec PyProof.Rows
mutual
def IsD (h:Heap):D->Value->Prop
 | .int i,v=>∃t,v = .int i t
 | .str x,v=>∃t,v = .str x t
 | .tup ds,v=>∃a its,v = .ref a/\h.IsTuple a its/\IsDs h ds its.toList
 | .non,_=>False
 | .bl _,_=>False
 | .ref _,_=>False
 | .scr _,_=>False
def IsDs (h:Heap):List D->List Value->Prop
 |[],vs=>vs=[]
 |d :: ds,vs=>∃v r,vs=v :: r/\IsD h d v/\IsDs h ds r
end
def pk:Nat->D->Bool
 |_,.int _=>true
 |_,.str _=>true
 |n+1,.tup ds=>ds.all (pk n)
 |_,_=>false
theorem IsDs.length {h:Heap}:∀{ds:List D} {vs:List Value},IsDs h ds vs->ds.length=vs.length
 |[],vs,q=>by rw [IsDs] at q;rw [q];rfl
 |d :: ds,vs,q=>by
  rw [IsDs] at q;obtain⟨v,r,rfl,_,q2⟩:=q
  rw [WS,WS,q2.length]
theorem IsDs.get {h:Heap}:∀{ds:List D} {vs:List Value},IsDs h ds vs->∀{i:Nat} {d:D},ds[i]? = some d->∃v,vs[i]? = some v/\IsD h d v
 |[],vs,q,i,d,e=>by cases e
 |d :: ds,vs,q,i,d',e=>by
  rw [IsDs] at q;obtain⟨v,r,rfl,q1,q2⟩:=q
  cases i with
  |zero=>cases e;exact⟨v,rfl,q1⟩
  |succ i=>exact q2.get e
theorem Fz {h h':Heap}(k:Fs h h'){a:Addr}{its:Array Value}(t:h.IsTuple a its):h'.IsTuple a its:=by
 obtain⟨o,ho,r⟩:=t
 exact⟨o,k _ _ ho,r⟩
mutual
theorem IsD.up {h h':Heap}(k:Fs h h'):∀(d:D) {v:Value},IsD h d v->IsD h' d v
 | .int _,_,q=>by rw [IsD] at q ⊢;exact q
 | .str _,_,q=>by rw [IsD] at q ⊢;exact q
 | .tup ds,_,q=>by
  rw [IsD] at q ⊢
  obtain⟨a,its,e,t,r⟩:=q
  exact⟨a,its,e,Fz k t,IsDs.up k ds r⟩
 | .non,_,q=>by rw [IsD] at q;exact q.elim
 | .bl _,_,q=>by rw [IsD] at q;exact q.elim
 | .ref _,_,q=>by rw [IsD] at q;exact q.elim
 | .scr _,_,q=>by rw [IsD] at q;exact q.elim
theorem IsDs.up {h h':Heap}(k:Fs h h'):∀(ds:List D) {vs:List Value},IsDs h ds vs->IsDs h' ds vs
 |[],_,q=>by rw [IsDs] at q ⊢;exact q
 |d :: ds,_,q=>by
  rw [IsDs] at q ⊢
  obtain⟨v,r,e,q1,q2⟩:=q
  exact⟨v,r,e,IsD.up k d q1,IsDs.up k ds q2⟩
end
theorem RD {h:Heap}{a:Addr}{x y:Array Value}(p:h.IsTuple a x)(q:h.IsTuple a y):x=y:=by
 obtain⟨o,ho,_,n,hd⟩:=p
 obtain⟨o',ho',_,n',hd'⟩:=q
 rw [ho] at ho'
 cases ho'
 rw [hd] at hd'
 injection hd'
mutual
theorem IsD.inj {h:Heap}:∀(d:D) {d':D} {v:Value},IsD h d v->IsD h d' v->d=d'
 | .int i,d',v,p,q=>by
  rw [IsD] at p;obtain⟨t,rfl⟩:=p
  cases d'<;>rw [IsD] at q
  ·exact q.elim
  ·exact q.elim
  ·obtain⟨t',e⟩:=q;cases e;rfl
  ·obtain⟨t',e⟩:=q;cases e
  ·obtain⟨a,its,e,_⟩:=q;cases e
  ·exact q.elim
  ·exact q.elim
 | .str i,d',v,p,q=>by
  rw [IsD] at p;obtain⟨t,rfl⟩:=p
  cases d'<;>rw [IsD] at q
  ·exact q.elim
  ·exact q.elim
  ·obtain⟨t',e⟩:=q;cases e
  ·obtain⟨t',e⟩:=q;cases e;rfl
  ·obtain⟨a,its,e,_⟩:=q;cases e
  ·exact q.elim
  ·exact q.elim
 | .tup ds,d',v,p,q=>by
  rw [IsD] at p;obtain⟨a,its,rfl,t,r⟩:=p
  cases d'<;>rw [IsD] at q
  ·exact q.elim
  ·exact q.elim
  ·obtain⟨t',e⟩:=q;cases e
  ·obtain⟨t',e⟩:=q;cases e
  ·obtain⟨a',its',e,t',r'⟩:=q
   cases e;have:=RD t t'
   subst this;rw [IsDs.inj ds r r']
  ·exact q.elim
  ·exact q.elim
 | .non,_,_,p,_=>by rw [IsD] at p;exact p.elim
 | .bl _,_,_,p,_=>by rw [IsD] at p;exact p.elim
 | .ref _,_,_,p,_=>by rw [IsD] at p;exact p.elim
 | .scr _,_,_,p,_=>by rw [IsD] at p;exact p.elim
theorem IsDs.inj {h:Heap}:∀(ds:List D) {ds':List D} {vs:List Value},IsDs h ds vs->IsDs h ds' vs->ds=ds'
 |[],ds',vs,p,q=>by
  rw [IsDs] at p;subst p;cases ds' with
  |nil=>rfl
  |cons d ds=>rw [IsDs] at q;obtain⟨v,r,e,_⟩:=q;cases e
 |d :: ds,ds',vs,p,q=>by
  rw [IsDs] at p;obtain⟨v,r,rfl,p1,p2⟩:=p
  cases ds' with
  |nil=>rw [IsDs] at q;cases q
  |cons d' ds'=>
   rw [IsDs] at q;obtain⟨v',r',e,q1,q2⟩:=q
   cases e;rw [IsD.inj d p1 q1,IsDs.inj ds p2 q2]
end
theorem Ei:∀(n:Nat) (d:D),pk n d=true->pln n d=true
 |0,.int _,_=>rfl
 |0,.str _,_=>rfl
 |n+1,.int _,_=>rfl
 |n+1,.str _,_=>rfl
 |n+1,.tup ds,h=>by
  unfold pk at h;unfold pln;rw [Ww] at h ⊢
  exact λd hd=>Ei n d (h d hd)
 |0,.tup _,h=>by cases h
 |0,.non,h=>by cases h
 |0,.bl _,h=>by cases h
 |0,.ref _,h=>by cases h
 |0,.scr _,h=>by cases h
 |n+1,.non,h=>by cases h
 |n+1,.bl _,h=>by cases h
 |n+1,.ref _,h=>by cases h
 |n+1,.scr _,h=>by cases h
theorem Xj:∀(n:Nat) {A:Around} {s:Shared} {d1 d2:D} {u v:Value},A.units+n<cLine->pk n d1=true->pk n d2=true->IsD s.heap d1 u->IsD s.heap d2 v->V6 A s u v (eqD d1 d2):=by
 intro n
 induction n with
 |zero=>
  intro A s d1 d2 u v hu p1 p2 h1 h2;cases d1 with
  |int a=>
   rw [IsD] at h1;obtain⟨t,rfl⟩:=h1
   cases d2 with
   |int c=>rw [IsD] at h2;obtain⟨t',rfl⟩:=h2;exact W2p a t c t'
   |str c=>rw [IsD] at h2;obtain⟨t',rfl⟩:=h2;exact W1p a t c t'
   |_=>cases p2
  |str a=>
   rw [IsD] at h1;obtain⟨t,rfl⟩:=h1
   cases d2 with
   |int c=>rw [IsD] at h2;obtain⟨t',rfl⟩:=h2;exact W1q a t c t'
   |str c=>rw [IsD] at h2;obtain⟨t',rfl⟩:=h2;exact W2q a t c t'
   |_=>cases p2
  |_=>cases p1
 |succ n ih=>
  intro A s d1 d2 u v hu p1 p2 h1 h2;cases d1 with
  |int a=>
   rw [IsD] at h1;obtain⟨t,rfl⟩:=h1
   cases d2 with
   |int c=>rw [IsD] at h2;obtain⟨t',rfl⟩:=h2;exact W2p a t c t'
   |str c=>rw [IsD] at h2;obtain⟨t',rfl⟩:=h2;exact W1p a t c t'
   |tup bs=>rw [IsD] at h2;obtain⟨b,its,rfl,pl,_⟩:=h2;exact V6.int_tuple a t pl (by omega)
   |_=>cases p2
  |str a=>
   rw [IsD] at h1;obtain⟨t,rfl⟩:=h1
   cases d2 with
   |int c=>rw [IsD] at h2;obtain⟨t',rfl⟩:=h2;exact W1q a t c t'
   |str c=>rw [IsD] at h2;obtain⟨t',rfl⟩:=h2;exact W2q a t c t'
   |tup bs=>rw [IsD] at h2;obtain⟨b,its,rfl,pl,_⟩:=h2;exact V6.str_tuple a t pl (by omega)
   |_=>cases p2
  |tup as=>
   have h1':=h1
   rw [IsD] at h1;obtain⟨a,its,rfl,pl1,a2⟩:=h1
   cases d2 with
   |int c=>rw [IsD] at h2;obtain⟨t',rfl⟩:=h2;exact V6.tuple_int c t' pl1 (by omega)
   |str c=>rw [IsD] at h2;obtain⟨t',rfl⟩:=h2;exact V6.tuple_str c t' pl1 (by omega)
   |tup bs=>
    have h2':=h2
    rw [IsD] at h2;obtain⟨b,its2,rfl,pl2,b2⟩:=h2
    unfold pk at p1 p2;have he:eqD (.tup as) (.tup bs)=((W6 (min its.size its2.size)).all (λj=>eqD (as.getD j .non) (bs.getD j .non))&&its.size == its2.size):=by
     rw [Jl,QP,a2.length,b2.length,WF,WF]
    by_cases hab:a=b
    ·subst hab
     have:=IsD.inj _ h1' h2'
     rw [this,YR (n+1) (.tup bs) (Ei (n+1) (.tup bs) (by unfold pk;exact p2))]
     exact V6.same _
    ·rw [he]
     refine V6.of_refs hab (W2G pl1 pl2 (by omega) λj j1 j2=>?_)
     have l1:j<as.length:=by rw [a2.length,WF];exact j1
     have l2:j<bs.length:=by rw [b2.length,WF];exact j2
     have g1:as[j]? = some (as.getD j .non):=by simp [W0j,Wl l1]
     have g2:bs[j]? = some (bs.getD j .non):=by simp [W0j,Wl l2]
     obtain⟨u,u1,u2⟩:=a2.get g1
     obtain⟨v,v1,v2⟩:=b2.get g2
     have e1:its[j]=u:=by rw [Vd,WD j1] at u1;exact WW u1
     have e2:its2[j]=v:=by rw [Vd,WD j2] at v1;exact WW v1
     rw [e1,e2];exact ih (by rw [in1_units];omega) (Ww.mp p1 _ (V4 g1)) (Ww.mp p2 _ (V4 g2)) u2 v2
   |_=>cases p2
  |_=>cases p1
end DL
namespace DL
open PySem L2 PySem.Spec PyProof.Rows
mutual
def hK (w:World):D->Int
 | .int i=>hashInt i
 | .str x=>hashStr w x
 | .tup ds=>reduceHash (W1c (hKs w ds))
 | .non=>0
 | .bl _=>0
 | .ref _=>0
 | .scr _=>0
def hKs (w:World):List D->List Int
 |[]=>[]
 |d :: ds=>hK w d :: hKs w ds
end
theorem LB (w:World)(d:D):∀ds:List D,hKs w (ds++[d])=hKs w ds++[hK w d]
 |[]=>by rw [List.nil_append,hKs,hKs,hKs];rfl
 |e :: ds=>by rw [List.cons_append,hKs,hKs,LB w d ds];rfl
section
variable {prog:Program} {w:World}
theorem OT:∀(n:Nat) {A:Around} {E:Value->Shared->Prop} {s:Shared} {d:D} {v:Value} {Q:Int->Shared->Prop},A.units+n<cLine->pk n d=true->IsD s.heap d v->(∀tk,Q (hK w d) { s with toks:=tk })->wpAny (model prog w) A (pyHash v) Q E s:=by
 have base:∀{A:Around} {E:Value->Shared->Prop} {s:Shared} {d:D} {v:Value} {Q:Int->Shared->Prop},(∃i,d = .int i)\/(∃x,d = .str x)->IsD s.heap d v->(∀tk,Q (hK w d) { s with toks:=tk })->wpAny (model prog w) A (pyHash v) Q E s:=by
  intro A E s d v Q hd h q;rcases hd with ⟨i,rfl⟩|⟨x,rfl⟩
  ·rw [IsD] at h
   obtain⟨t,rfl⟩:=h
   rw [hK] at q;exact wpAny_pyHash_int (q _)
  ·rw [IsD] at h
   obtain⟨t,rfl⟩:=h
   rw [hK] at q;exact wpAny_pyHash_str (q _)
 intro n
 induction n with
 |zero=>
  intro A E s d v Q hu p h q;cases d with
  |int i=>exact base (.inl ⟨i,rfl⟩) h q
  |str x=>exact base (.inr ⟨x,rfl⟩) h q
  |_=>cases p
 |succ n ih=>
  intro A E s d v Q hu p h q;cases d with
  |int i=>exact base (.inl ⟨i,rfl⟩) h q
  |str x=>exact base (.inr ⟨x,rfl⟩) h q
  |tup ds=>
   rw [IsD] at h;obtain⟨a,its,rfl,pl,hi⟩:=h
   unfold pk at p;rw [hK] at q;obtain⟨o,ho,hc,m,hd⟩:=id pl
   have hT:s.TypeIs (.ref a) "tuple":=⟨o,ho,hc⟩
   unfold pyHash
   first|unfold pyHashByItsType|skip
   first|refine W0 (wpAny_cRoomFor_or (.inr (by omega)) ?_)|skip
   refine W0 (W0u hT W12.lookup ?_)
   show wpAny _ _ (if (some (Value.builtin "tuple.__hash__") == some Value.none)=true then _ else _) _ _ s
   rw [if_neg (by rw [beq_builtin_none];exact Wy)]
   refine W0 (W0u hT W12.lookup ?_)
   refine W0 (m:=callSpecialIfBoundUnlessNone? (.ref a) "__hash__" _) (wpAny_callSpecialIfBoundUnlessNone?_slot hT W12 (Vv W12 hT F.entry_tuple_hash ?_ (F.args_tuple_hash_1 _)))
   refine W0 (m:=Builtin.Tuple.tupleItemsOf (.ref a)) (wpAny_tupleItemsOf ho hd (W0 ?_))
   rw [<-W1B];refine W0P _ (λQn (b:Array Int) s'=>∃done left,ds=done++left/\IsDs s.heap left Qn/\b.toList=hKs w done/\∃tk,s'={ s with toks:=tk }) _ ?_ ?_ _ _ ⟨[],ds,rfl,hi,by rw [hKs],s.toks,rfl⟩
   ·rintro x Qn b s' ⟨done,left,e0,hl,hb,tk,rfl⟩
    cases left with
    |nil=>rw [IsDs] at hl;cases hl
    |cons d' left=>
     rw [IsDs] at hl;obtain⟨v,r,e1,h1,h2⟩:=hl
     cases e1;refine W0 (ih (by rw [in1_units];omega) (Ww.mp p d' (by rw [e0];simp)) h1 λtk'=>?_)
     have fin:∃done' left',ds=done'++left'/\IsDs s.heap left' Qn/\(b.push (hK w d')).toList=hKs w done'/\∃tk,({ s with toks:=tk' }:Shared)={ s with toks:=tk }:=⟨done++[d'],left,by rw [e0,WN];rfl,h2,by rw [Array.toList_push,hb,LB],tk',rfl⟩
     first
      |exact Wd fin
      |exact W0 (Wd (Wd fin))
   ·rintro b s' ⟨done,left,e0,hl,hb,tk,rfl⟩
    cases left with
    |cons d' left=>rw [IsDs] at hl;obtain⟨v,r,e1,_⟩:=hl;cases e1
    |nil=>
     rw [VL] at e0;subst e0;rw [<-hb] at q;show wpAny _ _ (retInt (W1c b.toList)) _ _ _
     refine wpAny_ret_mkInt ?_
     generalize W1c b.toList=z at *
     show wpAny _ _ (if (decide (-(2:Int) ^ 63<=z)&&decide (z<2 ^ 63))=true then _ else _) Q E _
     unfold reduceHash at q;by_cases hr:(decide (-(2:Int) ^ 63<=z)&&decide (z<2 ^ 63))=true
     ·rw [if_pos hr] at q ⊢
      exact Wd (q _)
     ·rw [if_neg hr] at q ⊢
      exact W0 (W26 (Wd (q _)))
  |_=>cases p
theorem AV {h:Heap}{d:D}{v:Value}(hd:(∃i,d = .int i)\/∃x,d = .str x)(q:IsD h d v):carriedByValue v=true:=by
 rcases hd with ⟨i,rfl⟩|⟨x,rfl⟩
 ·rw [IsD] at q;obtain⟨t,rfl⟩:=q;rfl
 ·rw [IsD] at q;obtain⟨t,rfl⟩:=q;rfl
theorem P4:∀(n m:Nat) {A:Around} {E:Value->Shared->Prop} {s:Shared} {d:D} {v:Value} {Q:Bool->Shared->Prop},n<=m->pk n d=true->IsD s.heap d v->Q true s->wpAny (model prog w) A (eqIsQuiet m v) Q E s:=by
 intro n
 induction n with
 |zero=>
  intro m A E s d v Q hm p h q;have hv:carriedByValue v=true:=by
   cases d with
   |int i=>exact AV (.inl ⟨i,rfl⟩) h
   |str x=>exact AV (.inr ⟨x,rfl⟩) h
   |_=>cases p
  rw [W2H m hv];exact Wd q
 |succ n ih=>
  intro m A E s d v Q hm p h q;cases d with
  |int i=>rw [W2H m (AV (.inl ⟨i,rfl⟩) h)];exact Wd q
  |str x=>rw [W2H m (AV (.inr ⟨x,rfl⟩) h)];exact Wd q
  |tup ds=>
   rw [IsD] at h;obtain⟨a,its,rfl,pl,hi⟩:=h
   unfold pk at p;obtain⟨o,ho,hc,k,hd⟩:=id pl
   have hT:s.TypeIs (.ref a) "tuple":=⟨o,ho,hc⟩
   cases m with
   |zero=>omega
   |succ m=>
    unfold eqIsQuiet;refine W0 (W0u hT F.slot_tuple_eq.lookup ?_)
    refine W0 (m:=isInstance (.ref a) (.type "tuple")) (W1e hT isSubtype_tuple_tuple ?_)
    simp only [W05,WL,if_false]
    refine W0 (Vm ho hd (W0 ?_))
    show wpAny _ _ (forIn its _ _) _ _ s
    rw [<-W1B];refine W0P _ (λQn r s'=>r.1=none/\s'=s/\∃left,IsDs s.heap left Qn/\∀d∈left,pk n d=true) _ ?_ ?_ _ _ ⟨rfl,rfl,ds,hi,λd hd=>Ww.mp p d hd⟩
    ·rintro x Qn r s' ⟨hr,rfl,left,hl,hall⟩
     cases left with
     |nil=>rw [IsDs] at hl;cases hl
     |cons d' left=>
      rw [IsDs] at hl;obtain⟨v,r',e1,h1,h2⟩:=hl
      cases e1;refine W0 (ih m (by omega) (hall d' Wp) h1 ?_)
      simp only [W05,WL,if_false]
      exact Wd ⟨rfl,rfl,left,h2,λd hd=>hall d (Wu _ hd)⟩
    ·rintro⟨r1,r2⟩ s' ⟨hr,rfl,_⟩
     simp only at hr
     subst hr;exact Wd q
  |_=>cases p
end
end DL
namespace DL
open PySem L2 PySem.Spec PyProof.Rows
section
variable {prog:Program} {w:World}
theorem LV:∀(n m:Nat) {A:Around} {E:Value->Shared->Prop} {s:Shared} {d:D} {v:Value} {Q:Bool->Shared->Prop},n<=m->pk n d=true->IsD s.heap d v->Q false s->wpAny (model prog w) A (ofAClassStatement m v) Q E s:=by
 have base:∀(m:Nat) {A:Around} {E:Value->Shared->Prop} {s:Shared} {d:D} {v:Value} {Q:Bool->Shared->Prop},(∃i,d = .int i)\/(∃x,d = .str x)->IsD s.heap d v->Q false s->wpAny (model prog w) A (ofAClassStatement m v) Q E s:=by
  intro m A E s d v Q hd h q;rcases hd with ⟨i,rfl⟩|⟨x,rfl⟩<;>rw [IsD] at h<;>obtain⟨t,rfl⟩:=h<;>unfold ofAClassStatement<;>exact Wd q
 intro n
 induction n with
 |zero=>
  intro m A E s d v Q hm p h q;cases d with
  |int i=>exact base m (.inl ⟨i,rfl⟩) h q
  |str x=>exact base m (.inr ⟨x,rfl⟩) h q
  |_=>cases p
 |succ n ih=>
  intro m A E s d v Q hm p h q;cases d with
  |int i=>exact base m (.inl ⟨i,rfl⟩) h q
  |str x=>exact base m (.inr ⟨x,rfl⟩) h q
  |tup ds=>
   rw [IsD] at h;obtain⟨a,its,rfl,pl,hi⟩:=h
   unfold pk at p;obtain⟨o,ho,hc,k,hd⟩:=id pl
   have hT:s.TypeIs (.ref a) "tuple":=⟨o,ho,hc⟩
   cases m with
   |zero=>omega
   |succ m=>
    unfold ofAClassStatement;refine W0 (W2m hT ?_)
    dsimp only;rw [if_pos (by decide)]
    refine W0 (Wd ?_)
    simp only [W05,WL,if_false]
    refine W0 (Vm ho hd ?_)
    dsimp only;refine W0 ?_
    show wpAny _ _ (forIn its _ _) _ _ s
    rw [<-W1B];refine W0P _ (λQn r s'=>r.1=none/\s'=s/\∃left,IsDs s.heap left Qn/\∀d∈left,pk n d=true) _ ?_ ?_ _ _ ⟨rfl,rfl,ds,hi,λd hd=>Ww.mp p d hd⟩
    ·rintro x Qn r s' ⟨hr,rfl,left,hl,hall⟩
     cases left with
     |nil=>rw [IsDs] at hl;cases hl
     |cons d' left=>
      rw [IsDs] at hl;obtain⟨v,r',e1,h1,h2⟩:=hl
      cases e1;refine W0 (ih m (by omega) (hall d' Wp) h1 ?_)
      simp only [WL,if_false]
      exact Wd ⟨rfl,rfl,left,h2,λd hd=>hall d (Wu _ hd)⟩
    ·rintro⟨r1,r2⟩ s' ⟨hr,rfl,_⟩
     simp only at hr
     subst hr;exact Wd q
  |_=>cases p
theorem Z1g:∀(m:Nat) {A:Around} {E:Value->Shared->Prop} {s:Shared} {d:D} {v:Value} {Q:Bool->Shared->Prop},IsD s.heap d v->(∀b,Q b s)->wpAny (model prog w) A (hashByValue m v) Q E s:=by
 have base:∀(m:Nat) {A:Around} {E:Value->Shared->Prop} {s:Shared} {d:D} {v:Value} {Q:Bool->Shared->Prop},(∃i,d = .int i)\/(∃x,d = .str x)->IsD s.heap d v->(∀b,Q b s)->wpAny (model prog w) A (hashByValue m v) Q E s:=by
  intro m A E s d v Q hd h q;rcases hd with ⟨i,rfl⟩|⟨x,rfl⟩<;>rw [IsD] at h<;>obtain⟨t,rfl⟩:=h<;>cases m<;>(unfold hashByValue;exact Wd (q _))
 intro m
 induction m with
 |zero=>
  intro A E s d v Q h q;cases d with
  |int i=>exact base 0 (.inl ⟨i,rfl⟩) h q
  |str x=>exact base 0 (.inr ⟨x,rfl⟩) h q
  |tup ds=>
   rw [IsD] at h;obtain⟨a,its,rfl,_⟩:=h
   unfold hashByValue;exact Wd (q _)
  |_=>rw [IsD] at h;exact h.elim
 |succ m ih=>
  intro A E s d v Q h q;cases d with
  |int i=>exact base _ (.inl ⟨i,rfl⟩) h q
  |str x=>exact base _ (.inr ⟨x,rfl⟩) h q
  |tup ds=>
   rw [IsD] at h;obtain⟨a,its,rfl,pl,hi⟩:=h
   obtain⟨o,ho,hc,k,hd⟩:=id pl
   have hT:s.TypeIs (.ref a) "tuple":=⟨o,ho,hc⟩
   unfold hashByValue;refine W0 (W0u hT W12.lookup ?_)
   refine W0 (m:=seqItems? (.ref a)) (Vm ho hd (W0 ?_))
   show wpAny _ _ (forIn its _ _) _ _ s
   rw [<-W1B];refine W0P _ (λQn r s'=>r.1=none/\s'=s/\∃left,IsDs s.heap left Qn) _ ?_ ?_ _ _ ⟨rfl,rfl,ds,hi⟩
   ·rintro x Qn r s' ⟨hr,rfl,left,hl⟩
    cases left with
    |nil=>rw [IsDs] at hl;cases hl
    |cons d' left=>
     rw [IsDs] at hl;obtain⟨v,r',e1,h1,h2⟩:=hl
     cases e1;refine W0 (ih h1 λb=>?_)
     cases b with
     |true=>
      simp only [W05,WL,if_false]
      exact Wd ⟨rfl,rfl,left,h2⟩
     |false=>
      simp only [W1P,if_true]
      first
       |exact W0 (Wd (Wd (Wd (q _))))
       |exact Wd (Wd (q _))
       |exact W0 (Wd (Wd (q _)))
   ·rintro⟨r1,r2⟩ s' ⟨hr,rfl,_⟩
    simp only at hr
    subst hr;exact Wd (q _)
  |_=>rw [IsD] at h;exact h.elim
theorem D6 {n:Nat}(hn:n<=8){A:Around}{E:Value->Shared->Prop}{s:Shared}{d:D}{v:Value}{ys:List Value}{Q:Bool->Shared->Prop}(p:pk n d=true)(h:IsD s.heap d v)(hy:∀y∈ys,∃d',pk n d'=true/\IsD s.heap d' y)(q:Q false s):wpAny (model prog w) A (searchCouldBeSeen v ys) Q E s:=by
 unfold searchCouldBeSeen;refine W0 ?_
 refine W0P _ (λQn r s'=>r.1=none/\s'=s/\∀y∈Qn,∃d',pk n d'=true/\IsD s.heap d' y) _ ?_ ?_ _ _ ⟨rfl,rfl,hy⟩
 ·rintro y Qn r s' ⟨hr,rfl,hall⟩
  obtain⟨d',p',h'⟩:=hall y Wp
  have go:(none:Option Bool)=none/\s'=s'/\∀y∈Qn,∃d',pk n d'=true/\IsD s'.heap d' y:=⟨rfl,rfl,λy hy=>hall y (Wu _ hy)⟩
  dsimp only;split<;>split<;>first
   |exact Wd go
   | (refine W0 (P4 n 8 hn p h ?_)
      simp only [W05,WL,if_false]
      refine W0 (P4 n 8 hn p' h' ?_)
      simp only [W05,WL,if_false]
      refine W0 (LV n 8 hn p h ?_)
      simp only [WL,if_false]
      refine W0 (LV n 8 hn p' h' ?_)
      simp only [WL,if_false]
      exact Wd go)
 ·rintro⟨r1,r2⟩ s' ⟨hr,rfl,_⟩
  simp only at hr
  subst hr;exact Wd q
theorem Xi:∀(n:Nat) (a b:D),pk n a=true->pk n b=true->(eqD a b=true↔a=b):=by
 have flat:∀a b:D,((∃i,a = .int i)\/∃x,a = .str x)->(∀n,∃m,m>=n/\pk m b=true)\/True->(eqD a b=true↔a=b)\/¬(∃n,pk n b=true):=by
  intro a b ha _;by_cases hb:∃n,pk n b=true
  ·refine .inl ?_
   rcases ha with ⟨i,rfl⟩|⟨x,rfl⟩
   ·cases b with
    |int j=>unfold eqD;simp
    |str y=>unfold eqD;simp
    |tup bs=>unfold eqD;simp
    |_=>obtain⟨n,h⟩:=hb;cases n<;>cases h
   ·cases b with
    |int j=>unfold eqD;simp
    |str y=>unfold eqD;simp
    |tup bs=>unfold eqD;simp
    |_=>obtain⟨n,h⟩:=hb;cases n<;>cases h
  ·exact .inr hb
 have flat2:∀(n:Nat) (a b:D),((∃i,a = .int i)\/∃x,a = .str x)->pk n b=true->(eqD a b=true↔a=b):=λn a b ha hb=>(flat a b ha (.inr trivial)).elim id λz=>absurd ⟨n,hb⟩ z
 intro n
 induction n with
 |zero=>
  intro a b ha hb;cases a with
  |int i=>exact flat2 0 _ _ (.inl ⟨i,rfl⟩) hb
  |str x=>exact flat2 0 _ _ (.inr ⟨x,rfl⟩) hb
  |_=>cases ha
 |succ n ih=>
  intro a b ha hb;cases a with
  |int i=>exact flat2 _ _ _ (.inl ⟨i,rfl⟩) hb
  |str x=>exact flat2 _ _ _ (.inr ⟨x,rfl⟩) hb
  |tup as=>
   cases b with
   |int j=>unfold eqD;simp
   |str y=>unfold eqD;simp
   |tup bs=>
    unfold pk at ha hb;rw [Jl];have key:∀(as bs:List D),as.all (pk n)=true->bs.all (pk n)=true->(eqDs as bs=true↔as=bs):=by
     intro as
     induction as with
     |nil=>
      intro bs _ _;cases bs with
      |nil=>unfold eqDs;simp
      |cons _ _=>unfold eqDs;simp
     |cons a as ih2=>
      intro bs h1 h2;cases bs with
      |nil=>unfold eqDs;simp
      |cons b bs=>
       rw [Vs,Wm] at h1 h2;rw [Nf,Wm,ih a b h1.1 h2.1,ih2 bs h1.2 h2.2,W06]
    rw [key as bs ha hb,D.tup.injEq]
   |_=>cases hb
  |_=>cases ha
def Ii:DecidableEq D:=λa b=>Classical.propDecidable (a=b)
def Z1n (prog:Program)(w:World)(h0:Heap)(U n:Nat)(hU:U+n<cLine)(hn:n<=8) : @HK prog w h0 U D Ii:=
 @HK.mk prog w h0 U D Ii (λd v=>pk n d=true/\(∃ds,d = .tup ds)/\IsD h0 d v) (hK w)
  (λ{d v} h=>by
   obtain⟨_,⟨ds,rfl⟩,h⟩:=h
   rw [IsD] at h;obtain⟨a,its,e,_⟩:=h
   exact⟨a,e⟩)
  (λ{d d' v} h h'=>IsD.inj d h.2.2 h'.2.2)
  (λhu ext h q=>OT n (by omega) h.1 (IsD.up ext _ h.2.2) q)
  (λ{A E s k k' v v' Q} hu ext h h' q=>by
   refine Xj n (by omega) h.1 h'.1 (IsD.up ext _ h.2.2) (IsD.up ext _ h'.2.2) prog w E Q ?_
   have e:eqD k k' = @decide (k=k') (Ii k k'):=by
    have:=Xi n k k' h.1 h'.1
    by_cases z:k=k'
    ·rw [this.mpr z,@decide_eq_true _ (Ii k k') z]
    ·rw [@decide_eq_false _ (Ii k k') z]
     cases y:eqD k k' with
     |false=>rfl
     |true=>exact absurd (this.mp y) z
   rw [e];exact q)
  (λext h hy q=>D6 hn h.1 (IsD.up ext _ h.2.2) (λy hy'=>by
   obtain⟨d',h'⟩:=hy y hy'
   exact⟨d',h'.1,IsD.up ext _ h'.2.2⟩) q)
  (λext h q=>Z1g 8 (IsD.up ext _ h.2.2) q)
end
end DL
namespace DL
open PySem L2 PySem.Spec PyProof.Rows
theorem BE {α β:Type}(f:α->β):∀{l1 l2:List β},l1.Perm l2->∀l:List α,l.map f=l2->∃l':List α,l'.Perm l/\l'.map f=l1:=by
 intro l1 l2 h
 induction h with
 |nil=>
  intro l e;cases l with
  |nil=>exact⟨[],.nil,rfl⟩
  |cons _ _=>cases e
 |cons x p ih=>
  intro l e;cases l with
  |nil=>cases e
  |cons a l=>
   rw [W1,W06] at e;obtain⟨l',q1,q2⟩:=ih l e.2
   exact⟨a :: l',.cons a q1,by rw [W1,q2,e.1]⟩
 |swap x y r=>
  intro l e
  match l,e with
  |a :: b :: l,e=>
   rw [W1,W1,W06,W06] at e;exact⟨b :: a :: l,.swap a b l,by rw [W1,W1,e.1,e.2.1,e.2.2]⟩
  |[_],e=>simp at e
  |[],e=>simp at e
 |trans p q ih1 ih2=>
  intro l e;obtain⟨l2,a1,a2⟩:=ih2 l e
  obtain⟨l1,b1,b2⟩:=ih1 l2 a2
  exact⟨l1,b1.trans a1,b2⟩
theorem Th {n:Nat}{ds:List D}(hc:YZ n ds):∀{l1 l2:List D},l1.Perm l2->l1.Pairwise leD->l2.Pairwise leD->(∀a∈l1,a∈ds)->l1=l2
 |[],l2,p,_,_,_=>(List.Perm.nil_eq p)
 |a :: l1,[],p,_,_,_=>absurd p.length_eq (by simp)
 |a :: l1,b :: l2,p,h1,h2,hm=>by
  rw [VT] at h1 h2;have hb:b∈a :: l1:=p.mem_iff.mpr Wp
  have ha:a∈b :: l2:=p.mem_iff.mp Wp
  have e:a=b:=by
   rcases Wv.mp hb with z|z
   ·exact z.symm
   ·rcases Wv.mp ha with y|y
    ·exact y
    ·have l1':=h1.1 b z
     have l2':=h2.1 a y
     rcases Tz n a b (hc.2 a (hm a Wp) b (hm b hb)) (hc.1 a (hm a Wp)) (hc.1 b (hm b hb)) with w|w|w
     ·exact w
     ·unfold leD at l2';rw [l2'] at w;cases w
     ·unfold leD at l1';rw [l1'] at w;cases w
  subst e;rw [Th hc (List.perm_cons a |>.mp p) h1.2 h2.2 λx hx=>hm x (Wu _ hx)]
theorem Gj {l1 l2:List D}(p:l1.Perm l2)(ok:Yg l2=true):Yg l1=true/\ZT l1=ZT l2:=by
 have ok1:Yg l1=true:=by
  unfold Yg at ok ⊢
  rw [p.length_eq];rw [Wm,Bool.or_eq_true] at ok ⊢
  refine⟨ok.1,?_⟩
  rcases ok.2 with z|z
  ·exact .inl z
  ·refine .inr ?_
   rw [Wm] at z ⊢
   refine⟨?_,?_⟩
   ·have z1:=z.1
    unfold FL at z1 ⊢
    rw [WZ] at z1 ⊢
    obtain⟨c,c1,c2⟩:=z1
    refine⟨c,c1,?_⟩
    rw [Ww] at c2 ⊢
    exact λd hd=>c2 d (p.mem_iff.mp hd)
   ·have z2:=z.2
    unfold Fq at z2 ⊢
    rw [Wm,Ww,Ww] at z2 ⊢
    refine⟨λd hd=>z2.1 d (p.mem_iff.mp hd),λd hd=>?_⟩
    have:=z2.2 d (p.mem_iff.mp hd)
    rw [Ww] at this ⊢
    exact λe he=>this e (p.mem_iff.mp he)
 refine⟨ok1,?_⟩
 by_cases h2:l2.length<2
 ·have h1:l1=l2:=by
   match l2,h2,p with
   |[],_,p=>exact p.eq_nil
   |[a],_,p=>exact List.perm_singleton.mp p
   |_ :: _ :: _,h,_=>simp at h;omega
  rw [h1]
 ·have hc:YZ 30 l2:=by
   unfold Yg at ok;rw [Wm,Bool.or_eq_true] at ok;rcases ok.2 with z|z
   ·exact absurd (of_decide_eq_true z) h2
   ·rw [Wm] at z
    exact Bk z.2
  refine Th hc ((Y1 l1).trans (p.trans (Y1 l2).symm)) (Yo hc λa ha=>p.mem_iff.mp ha) (Yo hc λa ha=>ha) λa ha=>p.mem_iff.mp ((Y1 l1).mem_iff.mp ha)
def nwI (key:Nat->D):Nat->List Nat
 |0=>[]
 |i+1=>@ite _ (key i∈(W6 i).map key) (Classical.propDecidable _) (nwI key i) (nwI key i++[i])
theorem Pr (key:Nat->D):∀(n i:Nat),i∈nwI key n->i<n
 |0,i,h=>by cases h
 |n+1,i,h=>by
  unfold nwI at h;split at h
  ·have:=Pr key n i h;omega
  ·rcases WH.mp h with z|z
   ·have:=Pr key n i z;omega
   ·rw [WA.mp z];omega
def ddD (ds:List D):List D:=(nwI (λi=>ds.getD i .non) ds.length).map λi=>ds.getD i .non
theorem GY (key:Nat->D)(val:Nat->Value):∀n,@nwV D Ii key val n=(nwI key n).map val
 |0=>rfl
 |n+1=>by
  have ih:=GY key val n
  unfold nwV nwI;by_cases h:key n∈(W6 n).map key
  ·rw [if_pos h,if_pos h,ih]
  ·rw [if_neg h,if_neg h,ih,WP]
   rfl
section
variable {X:Cx} {e:Expr} {pos:Pos}
theorem Lu {pins:List (Addr×Obj)}{σ:L2.St}{H:Hp}{s:Shared}(I:Inv X pins σ H s)(d':Drawn):Inv X pins σ H { s with drawn:=d' }:=⟨I.ok,I.os,I.bare,I.base,I.loc,I.cell,I.free,I.freeC,I.pin,I.hok,I.len⟩
mutual
theorem OP {pins:List (Addr×Obj)}{σ:L2.St}{H:Hp}{s:Shared}{ρ:List Addr}(I:Inv X pins σ H s):∀(n:Nat) (d:D) {x:V} {v:Value},pk n d=true->DR X.K ρ H d x->ZC x v->IsD s.heap d v
 |n,.int i,x,v,_,h,r=>by
  rw [h.of_int] at r;rw [IsD];exact r
 |n,.str i,x,v,_,h,r=>by
  rw [h.of_str] at r;rw [IsD];exact r
 |0,.tup ds,_,_,p,_,_=>by cases p
 |n+1,.tup ds,x,v,p,h,r=>by
  obtain⟨a,xs,rfl,a1,a2⟩:=h.of_tup
  cases r;obtain⟨its,rv,pl,_⟩:=I.tuple (.of a1)
  unfold pk at p;rw [IsD];exact⟨a,its.toArray,rfl,pl,isDs_of I n ds p a2 rv⟩
 |0,.non,_,_,p,_,_=>by cases p
 |0,.bl _,_,_,p,_,_=>by cases p
 |0,.ref _,_,_,p,_,_=>by cases p
 |0,.scr _,_,_,p,_,_=>by cases p
 |n+1,.non,_,_,p,_,_=>by cases p
 |n+1,.bl _,_,_,p,_,_=>by cases p
 |n+1,.ref _,_,_,p,_,_=>by cases p
 |n+1,.scr _,_,_,p,_,_=>by cases p
theorem isDs_of {pins:List (Addr×Obj)}{σ:L2.St}{H:Hp}{s:Shared}{ρ:List Addr}(I:Inv X pins σ H s):∀(n:Nat) (ds:List D) {xs:List V} {vs:List Value},ds.all (pk n)=true->DsR X.K ρ H ds xs->ZZ xs vs->IsDs s.heap ds vs
 |n,[],xs,vs,_,h,r=>by
  unfold DsR at h;subst h;cases r;rw [IsDs]
 |n,d :: ds,xs,vs,p,h,r=>by
  unfold DsR at h;obtain⟨x,q,rfl,h1,h2⟩:=h
  cases r with
  |cons r1 r2=>
   rw [Vs,Wm] at p;rw [IsDs];exact⟨_,_,rfl,OP I n d p.1 h1 r1,isDs_of I n ds p.2 h2 r2⟩
end
theorem MM {K:W8}{ρ:List Addr}{H:Hp}{ds:List D}{xs:List V}{vs:List Value}(h:DsR K ρ H ds xs)(r:ZZ xs vs):∀is:List Nat,(∀i∈is,i<ds.length)->∃ys,DsR K ρ H (is.map λi=>ds.getD i .non) ys/\ZZ ys (is.map λi=>vs.getD i .none)
 |[],_=>⟨[],.nil,.nil⟩
 |i :: is,hi=>by
  obtain⟨ys,y1,y2⟩:=MM h r is λj hj=>hi j (Wu _ hj)
  have hl:=hi i Wp
  have g:ds[i]? = some (ds.getD i .non):=by simp [W0j,Wl hl]
  obtain⟨x,x1,x2⟩:=h.get g
  obtain⟨v,v1,v2⟩:=r.get x1
  have e:vs.getD i .none=v:=by simp [W0j,v1]
  refine⟨x :: ys,.cons x2 y1,?_⟩
  rw [W1,e];exact .cons v2 y2
def Hx (te:TE)(K:W8):TE:=λσ H Q=>te σ H λx H1=>∃(p:Addr) (xs:List V) (ρ:List Addr) (ds:List D),x = .ref p/\SqL K H1 p xs/\DsR K ρ H1 ds xs/\(ddD ds).length<=18/\(∀d∈ds,pk 4 d=true/\∃l,d = .tup l)/\Yg (ddD ds)=true/\∀a xs',H1 a=none->DsR K ρ H1 (ZT (ddD ds)) xs'->Q (.ref a) (upd H1 a (.lst xs'))
theorem Pl {p p2 pos2:Pos}{te:TE}(hcalm:X.calm=true)(hu:X.A.units+70<cLine)(h:PE X e te)(hg:Gl X "sorted")(hm:X.mg "sorted" = none)(hv:WK "sorted" = some (.builtin "sorted"))(hg2:Gl X "set")(hm2:X.mg "set" = none)(hv2:WK "set" = some (.type "set"))
  (he:Wr [e] X.env=(false,eval e X.env) :: Wr [] X.env:=by rfl) (he2:Wr [.Call (.Name "set" p2) [e] [] pos2] X.env=(false,eval (.Call (.Name "set" p2) [e] [] pos2) X.env) :: Wr [] X.env:=by rfl) :
  PE X (.Call (.Name "sorted" p) [.Call (.Name "set" p2) [e] [] pos2] [] pos) (Hx te X.K):=by
 intro pins s σ H Q I hq;have hh:X.A.handled=none:=I.ok.hd hcalm
 refine VS (U1 I hg hm hv ?_ (by decide) (by decide))
 refine W0I ?_ he2 rfl
 rw [he2];show wpAny _ _ (spliced ((false,eval (.Call (.Name "set" p2) [e] [] pos2) X.env) :: backTo pos (Wr [] X.env))) _ _ s
 refine W0B ?_
 refine VS (U1 I hg2 hm2 hv2 ?_ (by decide) (by decide))
 let Q1:List V->Hp->Prop:=λvs H1=>match vs with
  |[x]=>∃(p:Addr) (xs:List V) (ρ:List Addr) (ds:List D),x = .ref p/\SqL X.K H1 p xs/\DsR X.K ρ H1 ds xs/\(ddD ds).length<=18/\(∀d∈ds,pk 4 d=true/\∃l,d = .tup l)/\Yg (ddD ds)=true/\∀a xs',H1 a=none->DsR X.K ρ H1 (ZT (ddD ds)) xs'->Q (.ref a) (upd H1 a (.lst xs'))
  |_=>False
 refine W0t (thn ((ZI h Ys he) pos2 pins s σ H Q1 I hq) λus s1 ⟨vs,H1,I1,r1,q1⟩=>?_) he rfl
 match vs,r1,q1 with
 |[x],r1,q1=>
  obtain⟨u,rfl,ru⟩:=UU r1
  obtain⟨l,xs,ρ,ds,rfl,hl,hds,hz,hpk,ok,k⟩:=q1
  cases ru;obtain⟨its,rv,pl,_⟩:=I1.list hl
  have hn1:ds.length=its.length:=by rw [hds.length,rv.length]
  have hsz:its.toArray.size=ds.length:=by rw [Wo,hn1]
  let M:=Z1n X.prog X.w s1.heap (X.A.units+20) 4 (by omega) (by decide)
  have allk:ds.all (pk 4)=true:=Ww.mpr λd hd=>(hpk d hd).1
  have isds:=isDs_of I1 4 ds allk hds rv
  have hz':(nwI (λi=>ds.getD i .non) ds.length).length<=18:=by
   unfold ddD at hz;rw [W7] at hz;exact hz
  refine @LY X.prog X.w (X.A.units+20) D Ii X.A X.xe s1 l its.toArray _ M (λi=>ds.getD i .non) (λi=>its.getD i .none) hh (Wq _) pl.isList (λi v hv=>?_) (by rw [hsz,GY,W7];exact hz') λh' tk hS keep=>?_
  ·have hv':its[i]? = some v:=by simpa using hv
   have hi:i<ds.length:=by rw [hn1];exact (Wn.mp hv').1
   have g:ds[i]? = some (ds.getD i .non):=by simp [W0j,Wl hi]
   obtain⟨v',w1,w2⟩:=isds.get g
   rw [hv'] at w1;cases w1;have hm:=V4 g
   refine⟨by simp [W0j,hv'],(hpk _ hm).1,(hpk _ hm).2,w2⟩
  ·refine W0Y ?_
   rw [hsz] at hS;obtain⟨o,es,ep,t,L,ho,hex,hd,T,hes,hel,h4,hp,hled⟩:=hS
   have hsz2:es.size=L.length:=by rw [<-WF,hes,W7]
   have hpl:t.place.size=es.size:=by
    have:=congrArg Va T.pl
    rw [W7,WF] at this;rw [this,hsz2]
   have I2:=I1.kept (h':=h') (t':=tk) λb u e=>keep b u (Wt e) e
   refine W0c kind_sorted plain_sorted entry_sorted (args_sorted1 _) ?_
   unfold Builtin.«sorted»
   refine W0 (m:=checkCount "sorted" 1 1 _) (Wd ?_)
   have hes2:es.toList.map (·.2)=L.map (·.2.2):=by rw [hes,WY];rfl
   have hLs:L.length<=Wk:=by
    have h1:=hp.length_eq
    rw [W7] at h1;rw [GY,W7] at h1;have h3:18<=Wk:=by decide
    omega
   refine W0 (Mi (A:=X.A.in1) (s:={ s1 with heap:=h',toks:=tk }) (by simpa using hh) ho hex hd (T.fits hsz2) T.rise hled hpl (by rw [hsz2];exact hLs) λacc h'' tk' d' pm keep2=>?_)
   rw [hes2] at pm;have pm2:=pm.trans hp
   rw [GY] at pm2;obtain⟨is,i1,i2⟩:=BE _ pm2 _ rfl
   have hlt:∀i∈is,i<ds.length:=λi hi=>Pr _ _ _ (i1.mem_iff.mp hi)
   obtain⟨ys,y1,y2⟩:=MM hds rv is hlt
   have pd:(is.map λi=>ds.getD i .non).Perm (ddD ds):=i1.map _
   obtain⟨ok2,se⟩:=Gj pd ok
   have I3:=Lu (I2.kept (h':=h'') (t':=tk') keep2) d'
   have hil:is.length<=18:=by
    have h1:=i1.length_eq
    omega
   rw [<-i2];exact Jb I3 hu y1 y2 (by rw [y2.length,W7];exact V7 hil (by decide)) ok2 (by rw [se];exact k)
 |[],_,q1=>exact q1.elim
 |_ :: _ :: _,_,q1=>exact q1.elim
def OO:D->Bool
 | .tup _=>true
 |_=>false
def RO (ds:List D):Bool:=decide ((ddD ds).length<=18)&&(ds.all (λd=>pk 4 d&&OO d)&&Yg (ddD ds))
def Ty (ma:M D):M (List D):=λen S=>(ma en S).bind λp=>match p.1 with
 | .ref n=>match p.2[n]? with
  |some (.lst ds)=>if RO ds=true then some (ZT (ddD ds),p.2) else none
  |_=>none
 |_=>none
theorem RM {p p2 pos2:Pos}{ma:M D}(hcalm:X.calm=true)(hu:X.A.units+70<cLine)(h:SE X e ma)(hg:Gl X "sorted")(hm:X.mg "sorted" = none)(hv:WK "sorted" = some (.builtin "sorted"))(hg2:Gl X "set")(hm2:X.mg "set" = none)(hv2:WK "set" = some (.type "set"))
  (he:Wr [e] X.env=(false,eval e X.env) :: Wr [] X.env:=by rfl) (he2:Wr [.Call (.Name "set" p2) [e] [] pos2] X.env=(false,eval (.Call (.Name "set" p2) [e] [] pos2) X.env) :: Wr [] X.env:=by rfl) :
  SL X (.Call (.Name "sorted" p) [.Call (.Name "set" p2) [e] [] pos2] [] pos) (Ty ma):=by
 refine ZA (Pl hcalm hu h hg hm hv hg2 hm2 hv2 he he2) ?_
 rintro σ H Q ⟨ρ,en,S,ds,S',E,R,e,k⟩
 unfold Ty at e;obtain⟨⟨d1,S1⟩,e1,e⟩:=W4.mp e
 cases d1 with
 |ref n=>
  dsimp only at e;split at e
  ·rename_i ds hn
   split at e
   ·rename_i ok
    cases e;unfold RO at ok;rw [Wm,Wm,decide_eq_true_eq,Ww] at ok;refine⟨ρ,en,S,.ref n,_,E,R,e1,λx ρ1 H1 X1 R1 d1=>?_⟩
    obtain⟨a,a1,rfl⟩:=d1.of_ref
    obtain⟨ob,eo,ro⟩:=R1.obj a1
    rw [hn] at eo;cases eo;obtain⟨xs,x1,x2⟩:=ro
    refine⟨a,xs,ρ1,ds,rfl,.of x1,x2,ok.1,λd hd=>?_,ok.2.2,λl xs' hl d'=>k l xs' ρ1 H1 X1 R1 hl d'⟩
    have:=ok.2.1 d hd
    rw [Wm] at this;refine⟨this.1,?_⟩
    cases d with
    |tup l=>exact⟨l,rfl⟩
    |_=>cases this.2
   ·cases e
  ·cases e
 |_=>cases e
end
end DL
namespace DL
open PySem L2 PySem.Spec PyProof.Rows
def Fk (H:Hp)(as:List Addr)(f:Nat->List V):Hp:=λb=>match as.findIdx? (λa=>a == b) with
 |some j=>some (.tup (f j))
 |none=>H b
theorem YO {H:Hp}{as:List Addr}{f:Nat->List V}{b:Addr}(h:b∉as):Fk H as f b=H b:=by
 unfold Fk;have:as.findIdx? (λa=>a == b)=none:=List.findIdx?_eq_none_iff.mpr λa ha=>by
  simp only [beq_eq_false_iff_ne]
  exact λz=>h (z ▸ ha)
 rw [this]
theorem Pv {H:Hp}{as:List Addr}{f:Nat->List V}(hr:as.Pairwise (· < ·)){j:Nat}{a:Addr}(h:as[j]? = some a):Fk H as f a=some (.tup (f j)):=by
 unfold Fk;have:as.findIdx? (λx=>x == a)=some j:=by
  obtain⟨hj,e⟩:=Wn.mp h
  rw [List.findIdx?_eq_some_iff_getElem];refine⟨hj,by simp [e],λi hi=>?_⟩
  have:=W1a.mp hr i j (by omega) hj hi
  rw [e] at this;simp only [beq_iff_eq]
  exact WG this
 rw [this]
section
variable {X:Cx} {pins:List (Addr×Obj)} {σ:L2.St} {H:Hp} {s:Shared}
theorem Ax (I:Inv X pins σ H s){h':Heap}{t':Nat}{as:List Addr}{f:Nat->List V}(k:∀b o,s.heap.get? b=some o->h'.get? b=some o)(hr:as.Pairwise (· < ·))(ha:∀a∈as,s.heap.objs.size<=a)
  (hn:∀(j:Nat) a,as[j]? = some a->∃its:List Value,ZZ (f j) its/\(f j).length<=Wk/\Hi h' a its.toArray):Inv X pins σ (Fk H as f) { s with heap:=h',toks:=t' }:=by
 have low:∀b o,s.heap.get? b=some o->b∉as:=λb o e z=>absurd (Wt e) (Nat.not_lt.mpr (ha b z))
 have lowH:∀b o,H b=some o->b∉as:=λb o e z=>by
  have:=I.hok.fresh (ha b z)
  rw [this] at e;cases e
 refine I.un ⟨λb o e _ _ _=>k b o e,λb o e _ _ _=>⟨o.slots,k b o e⟩,λb o e n _=>by rw [YO (low b o e)];exact n,λb o e _=>⟨o,k b o e⟩,λb xs e=>by rw [YO (lowH b _ e)];exact e,λb o u e=>by rw [YO (lowH b _ e)];exact e,λb ps e=>⟨#[],by rw [YO (lowH b _ e),e];simp⟩⟩ λb u e=>?_
 by_cases hb:b∈as
 ·obtain⟨j,hj⟩:=VP.mp hb
  rw [Pv hr hj] at e;cases e;obtain⟨its,q1,q2,q3⟩:=hn j b hj
  exact⟨q2,its,q1,q3⟩
 ·rw [YO hb] at e
  exact (I.hok b u e).stay (λc v _ q=>k c v q) (λc q=>by rw [YO (lowH c _ q)];exact q) λc xs q=>by rw [YO (lowH c _ q)];exact q
theorem Kj (I:Inv X pins σ H s){ρ:List Addr}{as:List Addr}{f:Nat->List V}(ha:∀a∈as,s.heap.objs.size<=a):Ext ρ H ρ (Fk H as f):=by
 have lowH:∀b o,H b=some o->b∉as:=λb o e z=>by
  have:=I.hok.fresh (ha b z)
  rw [this] at e;cases e
 exact⟨λ_ _ h=>h,λa xs h=>by rw [YO (lowH a _ h)];exact h,λa o u h=>by rw [YO (lowH a _ h)];exact h⟩
theorem FD (I:Inv X pins σ H s){ρ:List Addr}{S:Sto}(R:StR X.K ρ H S){as:List Addr}{f:Nat->List V}(ha:∀a∈as,s.heap.objs.size<=a):StR X.K ρ (Fk H as f) S:=by
 refine R.mono (Kj I ha).weak λn a h=>?_
 obtain⟨ob,_,ro⟩:=R.obj h
 obtain⟨o,e⟩:=ro.there
 refine YO λz=>?_
 have:=I.hok.fresh (ha a z)
 rw [this] at e;cases e
end
theorem Z18 {kvs:List (Key×V)}{vs:List (Key×Value)}(h:KV kvs vs):∀{j:Nat} {p:Key×V},kvs[j]? = some p->∃q,vs[j]? = some q/\p.1=q.1/\ZC p.2 q.2:=by
 unfold KV at h
 induction h with
 |nil=>intro j p e;cases e
 |cons r t ih=>
  intro j p e;cases j with
  |zero=>cases e;exact⟨_,rfl,r⟩
  |succ j=>exact ih e
theorem G7 {P:Program}{w:World}{k:Key}{v:Value}(h:(ZN P w).is k v=true):ZC (kV k) v:=by
 rcases ZS (k:=k) (v:=v) h with ⟨i,t,rfl,rfl⟩|⟨x,t,rfl,rfl⟩
 ·exact⟨t,rfl⟩
 ·exact⟨t,rfl⟩
theorem BA:∀as:List Addr,ZZ (as.map V.ref) (as.map Value.ref)
 |[]=>.nil
 |a :: as=>.cons rfl (BA as)
theorem Hb {K:W8}{ρ:List Addr}{H:Hp}:∀{ds:List D} {xs:List V},ds.length=xs.length->(∀(j:Nat) d,ds[j]? = some d->∃x,xs[j]? = some x/\DR K ρ H d x)->DsR K ρ H ds xs
 |[],[],_,_=>.nil
 |d :: ds,x :: xs,hl,h=>by
  obtain⟨y,y1,y2⟩:=h 0 d rfl
  cases y1;exact .cons y2 (Hb (Nat.succ.inj hl) λj e he=>h (j+1) e he)
def Fi (dk dv:List D):List D:=(dk.zip dv).map λp=>.tup [p.1,p.2]
def IY (to:TE)(K:W8):TE:=λσ H Q=>to σ H λx H1=>∃(a:Addr) (kvs:List (Key×V)) (ρ:List Addr) (S:Sto) (dk dv:List D),x = .ref a/\H1 a=some (.dK kvs)/\dk.map QM=kvs.map (λp=>some p.1)/\DsR K ρ H1 dv (kvs.map (·.2))/\StR K ρ H1 S/\Yg (Fi dk dv)=true/\
 ∀H2 l xs',Ext ρ H1 ρ H2->StR K ρ H2 S->H2 l=none->DsR K ρ H2 (ZT (Fi dk dv)) xs'->Q (.ref l) (upd H2 l (.lst xs'))
section
variable {X:Cx} {o:Expr} {pos:Pos}
theorem A5 {p ap cp:Pos}{to:TE}(hcalm:X.calm=true)(hu:X.A.units+70<cLine)(h:PE X o to)(hg:Gl X "sorted")(hm:X.mg "sorted" = none)(hv:WK "sorted" = some (.builtin "sorted"))
  (hbase:attributeBase o "items" X.env (eval o X.env)=eval o X.env:=by rfl) (hline:(ap.endLine == cp.line)=true:=by rfl)
  (he2:Wr [.Call (.Attribute o "items" ap) [] [] cp] X.env=(false,eval (.Call (.Attribute o "items" ap) [] [] cp) X.env) :: Wr [] X.env:=by rfl) :
  PE X (.Call (.Name "sorted" p) [.Call (.Attribute o "items" ap) [] [] cp] [] pos) (IY to X.K):=by
 intro pins s σ H Q I hq;have hh:X.A.handled=none:=I.ok.hd hcalm
 refine VS (U1 I hg hm hv ?_ (by decide) (by decide))
 refine W0I ?_ he2 rfl
 rw [he2];show wpAny _ _ (spliced ((false,eval (.Call (.Attribute o "items" ap) [] [] cp) X.env) :: backTo pos (Wr [] X.env))) _ _ s
 refine W0B ?_
 refine wpAny_Call_method0_late hbase hline (thn (h pins s σ H _ I hq) λv s1 ⟨x,H1,I1,r1,q1⟩=>?_)
 obtain⟨a,kvs,ρ,S,dk,dv,rfl,hH,hk,hdv,R,ok,k⟩:=q1
 cases r1;obtain⟨hz,hsys,vs,hkv,hdo⟩:=(show ZL X.prog X.w H1 s1.heap a (.dK kvs) from I1.hok a _ hH)
 obtain⟨ep,hda⟩:=hdo.dictAt
 obtain⟨h1,h2⟩:=E9 I1 (show ZC (.ref a) (.ref a) from rfl) (T:="dict") (.inr (.inr (.inl ⟨rfl,.inl ⟨kvs,hH⟩⟩)))
 refine⟨"dict", "dict.items",W1A,PySem.F.slot_dict_items,PySem.F.type_dict_items,h1,h2,W0Q rfl (PySem.evalArgs_none ?_)⟩
 refine W1S PySem.F.slot_dict_items h1 PySem.F.entry_dict_items (PySem.F.args_dict_items_1 _) (meets_dict_items (ZN X.prog X.w) a hsys) ⟨⟨vs,hdo⟩,?_⟩
 refine W0Y ?_
 have I2:=I1.kept (h':=s1.heap.push { cls:=.type "dict_items",data:=.fields #[.ref a] }) (t':=s1.toks) λb u e=>Wj _ e
 refine W0c kind_sorted plain_sorted entry_sorted (args_sorted1 _) ?_
 unfold Builtin.«sorted»
 refine W0 (m:=checkCount "sorted" 1 1 _) (Wd ?_)
 have hlen:kvs.length=vs.length:=hkv.length
 have hda2:(s1.heap.push { cls:=.type "dict_items",data:=.fields #[.ref a] }).DictAt (ZN X.prog X.w) a vs ep:=hda.push _
 refine W0 (PySem.W.kdx_collect (A:=X.A.in1) (s:={ s1 with heap:=s1.heap.push { cls:=.type "dict_items",data:=.fields #[.ref a] } }) (r:=s1.heap.objs.size) (by simpa using hh) ⟨_,Ws _ rfl,rfl,rfl⟩ hda2 (by omega) λh' tk as keep hal hG=>?_)
 have hal':as.length=kvs.length:=by rw [hal,hlen]
 have above:∀b∈as,(s1.heap.push { cls:=.type "dict_items",data:=.fields #[.ref a] }).objs.size<=b:=λb hb=>W2k (hG.above b hb)
 let f:Nat->List V:=λj=>match kvs[j]? with
  |some p=>[kV p.1,p.2]
  |none=>[]
 have each:∀(j:Nat) b,as[j]? = some b->∃p:Key×V,kvs[j]? = some p/\f j=[kV p.1,p.2]/\∃its:List Value,ZZ (f j) its/\Hi h' b its.toArray:=λj b hb=>by
  obtain⟨key,kk,x,e1,e2,e3⟩:=hG.pairs j b hb
  have hj:j<kvs.length:=by rw [<-hal'];exact (Wn.mp hb).1
  obtain⟨p,hp⟩:∃p,kvs[j]? = some p:=⟨_,Wl hj⟩
  have hf:f j=[kV p.1,p.2]:=by show (match kvs[j]? with|some p=>[kV p.1,p.2]|none=>[])=_;rw [hp]
  obtain⟨q,g1,g2⟩:=Z18 hkv hp
  rw [e1] at g1;cases g1;refine⟨p,hp,hf,[key,x],?_,⟨⟨_,e3,rfl,_,rfl⟩,_,e3,rfl⟩⟩
  rw [hf];refine .cons ?_ (.cons g2.2 .nil)
  have g3:p.1=kk:=g2.1
  rw [g3];exact G7 e2
 have I3:=Ax I2 (h':=h') (t':=tk) (as:=as) (f:=f) keep hG.rise above λj b hb=>by
  obtain⟨p,hp,hf,its,v1,v2⟩:=each j b hb
  exact⟨its,v1,by rw [hf];exact (show 2<=Wk by decide),v2⟩
 have E2:Ext ρ H1 ρ (Fk H1 as f):=Kj I2 above
 have R2:StR X.K ρ (Fk H1 as f) S:=FD I2 R above
 have hds:DsR X.K ρ (Fk H1 as f) (Fi dk dv) (as.map V.ref):=by
  have l1:dk.length=kvs.length:=by have:=congrArg Va hk;simpa using this
  have l2:dv.length=kvs.length:=by have:=hdv.length;simpa using this
  refine Hb (by unfold Fi;rw [W7,VA,W7];omega) λj d hd=>?_
  unfold Fi at hd;rw [WE] at hd;obtain⟨q,q1,rfl⟩:=Wi.mp hd
  have hj:j<kvs.length:=by
   have:=(Wn.mp q1).1
   rw [VA] at this;omega
  obtain⟨b,hb⟩:∃b,as[j]? = some b:=⟨_,Wl (by omega)⟩
  obtain⟨p,hp,hf,_⟩:=each j b hb
  refine⟨.ref b,by rw [WE,hb];rfl,?_⟩
  have q2:=W1b.mp q1
  have kd:QM q.1=some p.1:=by
   have:=congrArg (λl=>l[j]?) hk
   simp only [WE,q2.1,hp,W3] at this
   exact WW this
  obtain⟨y,y1,y2⟩:=hdv.get q2.2
  rw [WE,hp] at y1;cases y1;have at':=Pv (H:=H1) (f:=f) hG.rise hb
  rw [hf] at at'
  exact .tup at' (.cons (B8 kd) (.cons (y2.up E2) .nil))
 refine Jb I3 hu hds (BA as) (by rw [W7,hal'];exact hz) ok λl xs' hl d'=>k _ l xs' E2 R2 hl d'
end
end DL
namespace DL
open PySem L2 PySem.Spec PyProof.Rows
section
variable {X:Cx} {e a d o:Expr} {pos:Pos}
def ON (kvs:List (D×D)):Bool:=!kvs.isEmpty&&(kvs.all λq=>(QM q.1).isSome)&&Yg (Fi (kvs.map (·.1)) (kvs.map (·.2)))
def BQ (ma:M D):M (List D):=λen S=>(ma en S).bind λp=>match p.1 with
 | .ref n=>match p.2[n]? with
  |some (.dct kvs)=>if ON kvs=true then some (ZT (Fi (kvs.map (·.1)) (kvs.map (·.2))),p.2) else none
  |_=>none
 |_=>none
theorem Rs:∀{ks:List Key} {xs:List V},ks.length=xs.length->(ks.zip xs).map (λp=>some p.1)=ks.map some
 |[],[],_=>rfl
 |k :: ks,x :: xs,h=>by
  rw [WM,W1,W1,Rs (Nat.succ.inj h)]
theorem Rq:∀{ks:List Key} {xs:List V},ks.length=xs.length->(ks.zip xs).map (·.2)=xs
 |[],[],_=>rfl
 |k :: ks,x :: xs,h=>by
  rw [WM,W1,Rq (Nat.succ.inj h)]
theorem FK {p ap cp:Pos}{ma:M D}(hcalm:X.calm=true)(hu:X.A.units+70<cLine)(h:SE X o ma)(hg:Gl X "sorted")(hm:X.mg "sorted" = none)(hv:WK "sorted" = some (.builtin "sorted"))
  (hbase:attributeBase o "items" X.env (eval o X.env)=eval o X.env:=by rfl) (hline:(ap.endLine == cp.line)=true:=by rfl)
  (he2:Wr [.Call (.Attribute o "items" ap) [] [] cp] X.env=(false,eval (.Call (.Attribute o "items" ap) [] [] cp) X.env) :: Wr [] X.env:=by rfl) :
  SL X (.Call (.Name "sorted" p) [.Call (.Attribute o "items" ap) [] [] cp] [] pos) (BQ ma):=by
 refine ZA (A5 hcalm hu h hg hm hv hbase hline he2) ?_
 rintro σ H Q ⟨ρ,en,S,ds,S',E,R,e,k⟩
 unfold BQ at e;obtain⟨⟨d1,S1⟩,e1,e⟩:=W4.mp e
 cases d1 with
 |ref n=>
  dsimp only at e;split at e
  ·rename_i kvs hn
   split at e
   ·rename_i ok
    cases e;unfold ON at ok;rw [Wm,Wm] at ok;refine⟨ρ,en,S,.ref n,_,E,R,e1,λx ρ1 H1 X1 R1 d1=>?_⟩
    obtain⟨a,a1,rfl⟩:=d1.of_ref
    obtain⟨ob,eo,ro⟩:=R1.obj a1
    rw [hn] at eo;cases eo;rcases ro with ⟨ks,xs,x1,x2,x3,x4⟩|⟨ks,xs,x1,x2,x3,x4⟩
    ·refine⟨a,ks.zip xs,ρ1,_,kvs.map (·.1),kvs.map (·.2),rfl,x1,?_,by rw [Rq x2];exact x4,R1,ok.2,λH2 l xs' X2 R2 hl d'=>k l xs' ρ1 H2 (X1.trans X2) R2 hl d'⟩
     rw [Rs x2,<-x3,WY];rfl
    ·exfalso
     cases kvs with
     |nil=>cases ok.1.1
     |cons q kvs=>
      have o2:=ok.1.2
      rw [Vs,Wm] at o2;cases ks with
      |nil=>cases x3
      |cons k0 ks=>
       rw [W1,W1,W06] at x3;obtain⟨q1,q2⟩:=q
       cases q1 with
       |tup l=>cases o2.1
       |_=>cases x3.1
   ·cases e
  ·cases e
 |_=>cases e
def Lv:List D->Option (List Int)
 |[]=>some []
 | .int b :: r=>(Lv r).map λbs=>b :: bs
 |_=>none
theorem Ke {K:W8}{ρ:List Addr}{H:Hp}:∀{ds:List D} {xs:List V} {bs:List Int},DsR K ρ H ds xs->Lv ds=some bs->xs=bs.map V.int
 |[],xs,bs,h,e=>by
  cases e;unfold DsR at h;rw [h];rfl
 |d :: ds,xs,bs,h,e=>by
  unfold DsR at h;obtain⟨x,r,rfl,h1,h2⟩:=h
  cases d with
  |int b=>
   obtain⟨cs,e1,e2⟩:=Wi.mp e
   cases e2;rw [W1,h1.of_int,Ke h2 e1]
  |_=>cases e
def R7 (ss:List Int)(i j:Nat):Bool:=decide (ss.getD i default>ss.getD j default)
def KJ (ss:List Int):Int:=ss.getD (argBest (R7 ss) (ss.length-1)) default
theorem Be:∀{ss:List Int} {vs:List Value},ZZ (ss.map V.int) vs->∀(i:Nat) v,vs[i]? = some v->∃t,v = .int (ss.getD i default) t
 |[],_,r,i,v,h=>by cases r;cases h
 |s :: ss,_,r,i,v,h=>by
  rw [W1] at r;cases r with
  |cons r1 r2=>
   cases i with
   |zero=>cases h;exact r1
   |succ i=>exact Be r2 i v h
theorem AT {prog:Program}{w:World}{A:Around}{ss:List Int}{vs:List Value}(r:ZZ (ss.map V.int) vs):CmpOf prog w A .Gt (λi v=>vs.toArray[i]? = some v) (R7 ss):=CmpOf.ints_gt (λi=>ss.getD i default) λi v h=>Be r i v (by simpa using h)
def Z0b (te td:TE)(K:W8):TE:=λσ H Q=>te σ H λx H1=>td σ H1 λy H2=>∃p ss,x = .ref p/\SqL K H2 p (ss.map V.int)/\(ss=[]->Q y H2)/\(ss≠[]->Q (.int (KJ ss)) H2)
theorem S8 {p kp:Pos}{te td:TE}(hcalm:X.calm=true)(h:PE X e te)(h2:PE X d td)(hg:Gl X "max")(hm:X.mg "max" = none)(hv:WK "max" = some (.builtin "max"))
  (he:Wr [e] X.env=(false,eval e X.env) :: Wr [] X.env:=by rfl) (hall:(backToKw pos (keywordEach [⟨some "default",d,kp⟩] X.env)).all (·.1.isSome)=true:=by rfl) (hks:(backToKw pos (keywordEach [⟨some "default",d,kp⟩] X.env)).filterMap (·.1)=[Wx "default"]:=by rfl)
  (hno:(backToKw pos (keywordEach [⟨some "default",d,kp⟩] X.env)).any (·.1.isNone)=false:=by rfl) (hb:backTo pos (Wr [e] X.env)=(false,eval e X.env) :: backTo pos (Wr [] X.env):=by rfl) (hp:(backTo pos (Wr [e] X.env)).any (·.1)=false:=by rfl) :
  PE X (.Call (.Name "max" p) [e] [⟨some "default",d,kp⟩] pos) (Z0b te td X.K):=by
 intro pins s σ H Q I hq;have hh:X.A.handled=none:=I.ok.hd hcalm
 refine VS (U1 I hg hm hv ?_ (by decide) (by decide))
 let Q1:List V->Hp->Prop:=λvs H1=>match vs with
  |[x]=>td σ H1 λy H2=>∃p ss,x = .ref p/\SqL X.K H2 p (ss.map V.int)/\(ss=[]->Q y H2)/\(ss≠[]->Q (.int (KJ ss)) H2)
  |_=>False
 refine callWith_kw (thn ((ZI h Ys he) pos pins s σ H Q1 I hq) λus s1 ⟨vs,H1,I1,r1,q1⟩=>?_) hb hp hall hno
 match vs,r1,q1 with
 |[x],r1,q1=>
  obtain⟨u,rfl,ru⟩:=UU r1
  let Q2:List V->Hp->Prop:=λvs H2=>match vs with
   |[y]=>∃p ss,x = .ref p/\SqL X.K H2 p (ss.map V.int)/\(ss=[]->Q y H2)/\(ss≠[]->Q (.int (KJ ss)) H2)
   |_=>False
  refine thn ((HZ (nm:=some (Wx "default")) (kpos:=kp) h2 Dq) pos pins s1 σ H1 Q2 I1 q1) λws s2 ⟨zs,H2,I2,rz,q2⟩=>?_
  match zs,rz,q2 with
  |[y],rz,q2=>
   obtain⟨dv,rfl,rd⟩:=UU rz
   obtain⟨l,ss,rfl,hl,k1,k2⟩:=q2
   cases ru;rw [hks];obtain⟨its,rv,pl,hz⟩:=I2.list hl
   have hL:=pl.isList
   have hlt:l<s2.heap.objs.size:=by obtain⟨o,ho,_⟩:=id hL;exact Wt ho
   refine F0 (d:=dv) (W0G hL ?_)
   have hsz:its.toArray.size=ss.length:=by rw [Wo,<-rv.length,W7]
   have keepI:∀(g:Heap),(∀b o,b∉[s2.heap.objs.size]->(s2.heap.push { cls:=.type "list_iterator",data:=.fields #[.ref l,.int 0 0] }).get? b=some o->g.get? b=some o)->∀b o,s2.heap.get? b=some o->g.get? b=some o:=λg kp b o eb=>kp b o (by simp only [Wv,WX,or_false];exact WG (Wt eb)) (Wj _ eb)
   refine⟨s2.heap.objs.size,_,_,its.toArray.size,_,_,R7 ss,rfl,Walks.list (by simpa using hh) s2.heap.objs.size l (WG hlt) its.toArray,⟨⟨_,Ws _ rfl,rfl,rfl⟩,hL.push _⟩,?_,AT rv,λz g tk kp=>?_,λz v g tk hv kp=>?_⟩
   ·intro b hb
    simp only [Wv,WX,or_false] at hb
    rw [W03];rcases hb with rfl|rfl
    ·exact W07 _
    ·exact W10 hlt
   ·exact⟨y,H2,I2.kept (t':=tk) (keepI g kp),rd,k1 (by rw [hsz] at z;exact W0L.mp z)⟩
   ·obtain⟨t,rfl⟩:=Be rv _ v (by simpa using hv)
    rw [hsz] at z;rw [show its.length=ss.length by rw [<-rv.length,W7]]
    exact⟨.int (KJ ss),H2,I2.kept (t':=tk) (keepI g kp),⟨t,rfl⟩,k2 (λw=>by rw [w] at z;exact absurd z (VC _))⟩
  |[],_,q2=>exact q2.elim
  |_ :: _ :: _,_,q2=>exact q2.elim
 |[],_,q1=>exact q1.elim
 |_ :: _ :: _,_,q1=>exact q1.elim
def PH (ma md:M D):M D:=λen S=>(ma en S).bind λp=>(md en p.2).bind λq=>match p.1 with
 | .ref n=>match q.2[n]? with
  |some (.lst ds)=>(Lv ds).map λss=>(if ss.isEmpty then q.1 else .int (KJ ss),q.2)
  |_=>none
 |_=>none
theorem HF {p kp:Pos}{ma md:M D}(hcalm:X.calm=true)(h:SE X e ma)(h2:SE X d md)(hg:Gl X "max")(hm:X.mg "max" = none)(hv:WK "max" = some (.builtin "max"))
  (he:Wr [e] X.env=(false,eval e X.env) :: Wr [] X.env:=by rfl) (hall:(backToKw pos (keywordEach [⟨some "default",d,kp⟩] X.env)).all (·.1.isSome)=true:=by rfl) (hks:(backToKw pos (keywordEach [⟨some "default",d,kp⟩] X.env)).filterMap (·.1)=[Wx "default"]:=by rfl)
  (hno:(backToKw pos (keywordEach [⟨some "default",d,kp⟩] X.env)).any (·.1.isNone)=false:=by rfl) (hb:backTo pos (Wr [e] X.env)=(false,eval e X.env) :: backTo pos (Wr [] X.env):=by rfl) (hp:(backTo pos (Wr [e] X.env)).any (·.1)=false:=by rfl) :
  SE X (.Call (.Name "max" p) [e] [⟨some "default",d,kp⟩] pos) (PH ma md):=by
 refine ZA (S8 hcalm h h2 hg hm hv he hall hks hno hb hp) ?_
 rintro σ H Q ⟨ρ,en,S,v,S',E,R,e,k⟩
 unfold PH at e;obtain⟨⟨d1,S1⟩,e1,e⟩:=W4.mp e
 obtain⟨⟨d2,S2⟩,e2,e⟩:=W4.mp e
 cases d1 with
 |ref n=>
  dsimp only at e;split at e
  ·rename_i ds hn
   obtain⟨ss,e3,e4⟩:=Wi.mp e
   cases e4;refine⟨ρ,en,S,.ref n,S1,E,R,e1,λx ρ1 H1 X1 R1 d1=>⟨ρ1,en,S1,d2,_,E.up X1,R1,e2,λy ρ2 H2 X2 R2 d2=>?_⟩⟩
   obtain⟨a,a1,rfl⟩:=(d1.up X2).of_ref
   obtain⟨ob,eo,ro⟩:=R2.obj a1
   rw [hn] at eo;cases eo;obtain⟨xs,x1,x2⟩:=ro
   refine⟨a,ss,rfl,?_,λz=>?_,λz=>?_⟩
   ·rw [<-Ke x2 e3];exact .of x1
   ·subst z
    exact k y ρ2 H2 (X1.trans X2) R2 d2
   ·have hz:ss.isEmpty=false:=by cases ss with
     |nil=>exact absurd rfl z
     |cons _ _=>rfl
    rw [hz] at k;exact k _ ρ2 H2 (X1.trans X2) R2 .flat_int
  ·cases e
 |_=>cases e
end
end DL
namespace DL
open PySem L2 PySem.Spec PyProof.Rows
section
variable {X:Cx} {e a b:Expr} {pos:Pos}
end
end DL
namespace DL
open PySem L2 PySem.Spec PyProof.Rows
structure ClsD (K:W8) (cn:Str) (Ca:Addr):Prop where
 ns:WT K WJ cn=some (some (.ref Ca))
 cls:Cls K Ca
def U4 (S:Sto)(n:Nat)(cn:Str):Option (List (Str×D)):=match S[n]? with
 |some (.ins C fs)=>if C=cn then some fs else none
 |_=>none
theorem Kf {S:Sto}{n:Nat}{cn:Str}{fs:List (Str×D)}(h:U4 S n cn=some fs):S[n]? = some (.ins cn fs):=by
 unfold U4 at h;split at h
 ·rename_i C fs' e
  split at h
  ·rename_i q
   cases h;rw [e,q]
  ·cases h
 ·cases h
theorem Lw {K:W8}{ρ:List Addr}{H:Hp}{S:Sto}{n:Nat}{a Ca:Addr}{cn:Str}{fs:List (Str×D)}(R:StR K ρ H S)(h:ρ[n]? = some a)(e:U4 S n cn=some fs)(c:ClsD K cn Ca) :
  ∃dx xs,H a=some (.ins Ca dx ((fs.map (·.1)).zip xs))/\DsR K ρ H (fs.map (·.2)) xs:=by
 obtain⟨ob,e1,r⟩:=R.obj h
 rw [Kf e] at e1;cases e1;obtain⟨Ca',dx,xs,h1,h2,h3⟩:=r
 rw [c.ns] at h1;cases h1;exact⟨dx,xs,h2,h3⟩
theorem Gg {K:W8}{ρ:List Addr}{H:Hp}{f:Str}{d:D}:∀{fs:List (Str×D)} {xs:List V},DsR K ρ H (fs.map (·.2)) xs->fs.lookup f=some d->∃x,((fs.map (·.1)).zip xs).lookup f=some x/\DR K ρ H d x
 |[],xs,_,h=>by cases h
 | (g,e) :: fs,xs,h,hl=>by
  rw [W1] at h;unfold DsR at h;obtain⟨x,r,rfl,h1,h2⟩:=h
  rw [W1,WM];rw [VF] at hl ⊢
  cases q:f == g with
  |true=>
   rw [q] at hl;cases hl;exact⟨x,rfl,h1⟩
  |false=>
   rw [q] at hl;exact Gg h2 hl
def Ef (f:Str)(v:D):List (Str×D)->List (Str×D)
 |[]=>[(f,v)]
 | (g,x) :: r=>if g=f then (g,v) :: r else (g,x) :: Ef f v r
theorem Rr {K:W8}{ρ:List Addr}{H:Hp}{f:Str}{d:D}{y:V}(hd:DR K ρ H d y):∀{fs:List (Str×D)} {xs:List V},DsR K ρ H (fs.map (·.2)) xs->∃ys,Gm f y ((fs.map (·.1)).zip xs)=((Ef f d fs).map (·.1)).zip ys/\DsR K ρ H ((Ef f d fs).map (·.2)) ys
 |[],xs,h=>⟨[y],rfl,.cons hd .nil⟩
 | (g,e) :: fs,xs,h=>by
  rw [W1] at h;unfold DsR at h;obtain⟨x,r,rfl,h1,h2⟩:=h
  rw [W1,WM];unfold Gm Ef;by_cases q:g=f
  ·rw [if_pos q,if_pos q]
   exact⟨y :: r,rfl,.cons hd h2⟩
  ·rw [if_neg q,if_neg q]
   obtain⟨ys,y1,y2⟩:=Rr hd h2
   exact⟨x :: ys,by rw [y1];rfl,.cons h1 y2⟩
section
variable {X:Cx} {e o value:Expr} {pos pos' tpos:Pos} {cn f:Str} {Ca:Addr}
def MX (cn f:Str)(m:M D):M D:=λen S=>(m en S).bind λp=>match p.1 with
 | .ref n=>(U4 p.2 n cn).bind λfs=>(fs.lookup f).map λv=>(v,p.2)
 |_=>none
theorem Tn {m:M D}(c:ClsD X.K cn Ca)(na:J3 X.K Ca f)(h:SE X e m)(hb:attributeBase e f X.env (eval e X.env)=eval e X.env:=by rfl):SE X (.Attribute e f pos) (MX cn f m):=by
 refine ZA (DE h hb) ?_
 rintro σ H Q ⟨ρ,en,S,v,S',E,R,e,k⟩
 unfold MX at e;obtain⟨⟨d1,S1⟩,e1,e⟩:=W4.mp e
 cases d1 with
 |ref n=>
  dsimp only at e;obtain⟨fs,e2,e⟩:=W4.mp e
  obtain⟨w,e3,e4⟩:=Wi.mp e
  cases e4;refine⟨ρ,en,S,.ref n,_,E,R,e1,λx ρ1 H1 X1 R1 d1=>?_⟩
  obtain⟨a,a1,rfl⟩:=d1.of_ref
  obtain⟨dx,xs,h1,h2⟩:=Lw R1 a1 e2 c
  obtain⟨y,y1,y2⟩:=Gg h2 e3
  exact⟨a,Ca,dx,_,y,rfl,h1,c.cls,na,y1,k y ρ1 H1 X1 R1 y2⟩
 |_=>cases e
theorem SY {K:W8}{ρ:List Addr}{H:Hp}{S:Sto}{n:Nat}{a dx:Addr}{fs:List (Str×D)}{xs:List V}{d:D}{y:V}(R:StR K ρ H S)(c:ClsD K cn Ca)(ha:ρ[n]? = some a)(e:U4 S n cn=some fs)(h1:H a=some (.ins Ca dx ((fs.map (·.1)).zip xs)))(h2:DsR K ρ H (fs.map (·.2)) xs)(hd:DR K ρ H d y) :
  StR K ρ (upd H a (.ins Ca dx (Gm f y ((fs.map (·.1)).zip xs)))) (S.set n (.ins cn (Ef f d fs)))/\Ext ρ H ρ (upd H a (.ins Ca dx (Gm f y ((fs.map (·.1)).zip xs)))):=by
 obtain⟨ys,y1,y2⟩:=Rr (f:=f) hd h2
 rw [y1];have hE:Ext ρ H ρ (upd H a (.ins Ca dx (((Ef f d fs).map (·.1)).zip ys))):=Ext.upd h1 (λ_ z=>nomatch z) λ_ _ z=>nomatch z
 exact R.set (ob:=.ins cn (Ef f d fs)) ha (λ_ z=>by rw [Kf e] at z;cases z) ⟨Ca,dx,ys,c.ns,Z7,y2.up hE⟩
def Ut (cn f:Str)(mv mo:M D):MS:=λen S=>(mv en S).bind λp=>(mo en p.2).bind λq=>match q.1 with
 | .ref n=>(U4 q.2 n cn).bind λfs=>if fs.length<1000 then some (.nx,en,q.2.set n (.ins cn (Ef f p.1 fs))) else none
 |_=>none
theorem Mx {mv mo:M D}(c:ClsD X.K cn Ca)(na:J3 X.K Ca f)(ho:SE X o mo)(hv:SE X value mv)(hs:swapsWith value (some (.Attribute o f pos')) pos.line X.env=pure false:=by rfl):SS X (.Assign [.Attribute o f pos'] value pos) (Ut cn f mv mo):=by
 refine JV (Dp ho hv hs) ?_
 rintro DD σ H ⟨ρ,en,S,fl,en',S',E,R,e,k⟩
 unfold Ut at e;obtain⟨⟨d1,S1⟩,e1,e⟩:=W4.mp e
 obtain⟨⟨d2,S2⟩,e2,e⟩:=W4.mp e
 cases d2 with
 |ref n=>
  dsimp only at e;obtain⟨fs,e3,e⟩:=W4.mp e
  split at e
  ·rename_i hl
   cases e;refine⟨ρ,en,S,d1,S1,E,R,e1,λy ρ1 H1 X1 R1 dy=>⟨ρ1,en,S1,.ref n,S2,E.up X1,R1,e2,λx ρ2 H2 X2 R2 dx'=>?_⟩⟩
   obtain⟨a,a1,rfl⟩:=dx'.of_ref
   obtain⟨dx,xs,h1,h2⟩:=Lw R2 a1 e3 c
   obtain⟨R3,X3⟩:=SY (f:=f) R2 c a1 e3 h1 h2 (dy.up X2)
   refine⟨a,Ca,dx,_,rfl,h1,c.cls,na,?_,k ρ2 _ σ ((X1.trans X2).trans X3) R3 (E.up ((X1.trans X2).trans X3))⟩
   rw [VA,W7];omega
  ·cases e
 |_=>cases e
end
end DL
namespace DL
open PySem L2 PySem.Spec PyProof.Rows
theorem Mn {f:Str}:∀{fs:List (Str×D)} {xs:List V},fs.lookup f=none->((fs.map (·.1)).zip xs).lookup f=none
 |[],xs,_=>by simp
 | (g,e) :: fs,[],_=>by simp
 | (g,e) :: fs,x :: xs,h=>by
  rw [W1,WM];rw [VF] at h ⊢
  cases q:f == g with
  |true=>rw [q] at h;cases h
  |false=>
   rw [q] at h;exact Mn h
section
variable {X:Cx} {a o:Expr} {es:List Expr} {pos apos:Pos} {cn m:Str} {Ca:Addr}
def Ji (cn m:Str)(F:List D->Sto->Option (D×Sto))(mo:M D)(ma:M (List D)):M D:=λen S=>(mo en S).bind λp=>match p.1 with
 | .ref n=>(U4 p.2 n cn).bind λfs=>if (fs.lookup m).isNone=true then (ma en p.2).bind λr=>F (.ref n :: r.1) r.2 else none
 |_=>none
theorem BI {mo:M D}{ma:M (List D)}{n:Nat}{F:List D->Sto->Option (D×Sto)}(c:ClsD X.K cn Ca)(hlen:∀en S r,ma en S=some r->r.1.length=n){σ:L2.St}{H:Hp}{Q:VK}(h:tM X.K (Ji cn m F mo ma) σ H Q):Hy Ca m (spD X.K (n+1) F) [] E0 (tM X.K mo) (tMA X.K ma) σ H Q:=by
 obtain⟨ρ,en,S,v,S',E,R,e,k⟩:=h
 unfold Ji at e;obtain⟨⟨d1,S1⟩,e1,e⟩:=W4.mp e
 cases d1 with
 |ref j=>
  dsimp only at e;obtain⟨fs,e2,e⟩:=W4.mp e
  split at e
  ·rename_i hl
   obtain⟨r,e3,e4⟩:=W4.mp e
   refine⟨ρ,en,S,.ref j,S1,E,R,e1,λx ρ1 H1 X1 R1 d1=>?_⟩
   obtain⟨l,a1,rfl⟩:=d1.of_ref
   obtain⟨dx,xs,h1,h2⟩:=Lw R1 a1 e2 c
   refine⟨l,dx,_,rfl,h1,Mn (by cases q:fs.lookup m with|none=>rfl|some _=>rw [q] at hl;cases hl),ρ1,en,S1,r.1,r.2,E.up X1,R1,e3,λvs ρ2 H2 X2 R2 d2=>?_⟩
   show spD X.K (n+1) F (.ref l :: (vs++[])) H2 Q E0
   rw [VL];exact⟨by rw [WS,<-d2.length,hlen _ _ _ e3],ρ2,r.2,.ref j :: r.1,v,S',R2,.cons (d1.up X2) d2,e4,λz ρ3 H3 X3 R3 d3=>k z ρ3 H3 ((X1.trans X2).trans X3) R3 d3⟩
  ·cases e
 |_=>cases e
def KR (cn:Str)(F:List D->Sto->Option (D×Sto))(ma:M (List D)):M D:=λen S=>(ma en S).bind λr=>(F (.ref r.2.length :: r.1) (r.2++[.ins cn []])).bind λq=>match q.1 with
 | .non=>some (.ref r.2.length,q.2)
 |_=>none
theorem Py {ma:M (List D)}{n:Nat}{F:List D->Sto->Option (D×Sto)}(c:ClsD X.K cn Ca)(hlen:∀en S r,ma en S=some r->r.1.length=n){σ:L2.St}{H:Hp}{Q:VK}(h:tM X.K (KR cn F ma) σ H Q):IZ Ca (spD X.K (n+1) F) [] E0 (tMA X.K ma) σ H Q:=by
 obtain⟨ρ,en,S,v,S',E,R,e,k⟩:=h
 unfold KR at e;obtain⟨r,e1,e⟩:=W4.mp e
 obtain⟨⟨d2,S2⟩,e2,e⟩:=W4.mp e
 cases d2 with
 |non=>
  cases e;refine⟨ρ,en,S,r.1,r.2,E,R,e1,λvs ρ1 H1 X1 R1 d1 x dx hx hdx hne=>?_⟩
  have hx':upd H1 dx (.own x) x=none:=by rw [Zf (Ne.symm hne)];exact hx
  have R2:=(R1.new (o:=.own x) hdx).push (o:=.ins Ca dx []) (ob:=.ins cn []) hx' ⟨Ca,dx,[],c.ns,Z7,.nil⟩
  have X2:Ext ρ1 H1 (ρ1++[x]) (upd (upd H1 dx (.own x)) x (.ins Ca dx [])):=(Ext.new hdx).trans (Ext.newRef hx')
  have hat:(ρ1++[x])[r.2.length]? = some x:=by rw [<-R1.len];simp
  rw [VL];exact⟨by rw [WS,<-d1.length,hlen _ _ _ e1],ρ1++[x],r.2++[.ins cn []],.ref r.2.length :: r.1,.non,S2,R2,.cons (.ref hat) (d1.up X2),e2,λz ρ3 H3 X3 R3 d3=>⟨d3.of_non,k _ ρ3 H3 ((X1.trans X2).trans X3) R3 (.ref (X3.pre _ _ hat))⟩⟩
 |_=>cases e
variable {k n:Nat} {f:Addr} {fd:FuncData} {ps:List Str} {F:List D->Sto->Option (D×Sto)} {mo:M D} {ma:M (List D)}
theorem NH {pl:Sem Bool}(c:ClsD X.K cn Ca)(ho:SE X o mo)(hm:Meth X.K Ca m f)(hF:FnOk X.prog X.w X.K X.mg X.base CX0 k f fd ps (spD X.K (n+1) F))(hr:Room k X.A)(hb:JH X.K fd ps [])(ha:SA X (a :: es) ma)(hlen:∀en S r,ma en S=some r->r.1.length=n)
  (hst:Wr (a :: es) X.env=(false,eval a X.env) :: Wr es X.env:=by rfl) (hpl:(backTo pos (Wr es X.env)).any (·.1)=false:=by rfl)
  (ht:eval (.Call (.Attribute o m apos) (a :: es) [] pos) X.env=(do
   let ov <-eval o X.env
   standAt apos.atName
   let (f,first) <-holding [ov] (getMethod ov m pl)
   callWith pos f first (backTo pos (Wr (a :: es) X.env)) (backToKw pos (keywordEach [] X.env))):=by rfl):SE X (.Call (.Attribute o m apos) (a :: es) [] pos) (Ji cn m F mo ma):=
 ZA (S7 ho c.cls hm hF hr hb .nil Aa ha hst hpl ht) λ_ _ _=>BI c hlen
theorem HH {x:Str}{p:Pos}(c:ClsD X.K cn Ca)(M:L2.Mk X.K Ca f)(hF:FnOk X.prog X.w X.K X.mg X.base CX0 k f fd ps (spD X.K (n+1) F))(hr:Room (k+1) X.A)(hg:Gl X x)(hm:X.mg x=some (.ref Ca))(hb:JH X.K fd ps [])(ha:SA X (a :: es) ma)(hlen:∀en S r,ma en S=some r->r.1.length=n)
  (hdb:(x == ("__debug__" : Str))=false:=by decide) (he:Wr (a :: es) X.env=(false,eval a X.env) :: Wr es X.env:=by rfl) (hpl:(backTo pos (Wr es X.env)).any (·.1)=false:=by rfl):SE X (.Call (.Name x p) (a :: es) [] pos) (KR cn F ma):=
 ZA (S9 M hF hr hg hm hb .nil Aa ha hdb he hpl) λ_ _ _=>Py c hlen
theorem Qq {pl:Sem Bool}(c:ClsD X.K cn Ca)(ho:SE X o mo)(hm:Meth X.K Ca m f)(hF:FnOk X.prog X.w X.K X.mg X.base CX0 k f fd ps (spD X.K 1 F))(hr:Room k X.A)(hb:JH X.K fd ps [])
  (ht:eval (.Call (.Attribute o m apos) [] [] pos) X.env=(do
   let ov <-eval o X.env
   standAt apos.atName
   let (f,first) <-holding [ov] (getMethod ov m pl)
   callWith pos f first (backTo pos (Wr [] X.env)) (backToKw pos (keywordEach [] X.env))):=by rfl):SE X (.Call (.Attribute o m apos) [] [] pos) (Ji cn m F mo ZR):=by
 refine ZA (A6 ho c.cls hm hF hr hb .nil Aa ht) λσ H Q h=>?_
 obtain⟨ρ,en,S,v,S',E,R,e,q⟩:=BI (n:=0) c (λen S r e=>by cases e;rfl) h
 refine⟨ρ,en,S,v,S',E,R,e,λx ρ1 H1 X1 R1 d1=>?_⟩
 obtain⟨l,dx,fs,h1,h2,h3,ρ2,en2,S2,ds,S3,E2,R2,e3,q2⟩:=q x ρ1 H1 X1 R1 d1
 cases e3;exact⟨l,dx,fs,h1,h2,h3,q2 [] ρ2 H1 Ext.refl R2 .nil⟩
end
end DL
namespace DL
open PySem L2 PySem.Spec PyProof.Rows
section
variable {X:Cx} {o value:Expr} {pos tpos:Pos} {cn f:Str} {Ca:Addr}
def O8:MS:=λ_ _=>none
theorem HC {st:Stmt}:SS X st O8:=by
 intro pins s σ H D I h;obtain⟨ρ,en,S,fl,en',S',E,R,e,k⟩:=h
 cases e
end
end DL
namespace DL
open PySem L2 PySem.Spec PyProof.Rows
section
variable {X:Cx} {a b:Expr} {pos:Pos}
def PL (ma mb:M D):M D:=λen S=>(ma en S).bind λp=>(mb en p.2).bind λq=>match p.1 with
 | .ref n=>if G8 p.2 n=true then (Q7 q.2 n q.1).map λkvs=>((J7 kvs q.1).getD .non,q.2) else none
 |_=>none
theorem Pm {o e:Expr}{apos cpos:Pos}{td ty:TE}(hu:X.A.units+64<cLine)(ho:PE X o td)(he:PE X e ty)(m:M1 X o "get" apos e cpos) :
  PE X (.Call (.Attribute o "get" apos) [e] [] cpos) (λσ H Q=>td σ H λx H1=>∃a,x = .ref a/\L2.IsD H1 a/\ty σ H1 λy H2=>∃o,JQ H2 a y o/\Q (o.getD .non) H2):=by
 intro pins s σ H Q I h;refine wpAny_Call_method m.base m.few m.line W1A W0h PySem.F.type_dict_get (thn (ho pins s σ H _ I h) λu s1 ⟨x,H1,I1,rx,a,ex,d,q1⟩=>?_)
 subst ex;obtain rfl:u=Value.ref a:=rx
 obtain⟨t1,t2,_⟩:=Lr I1 d
 refine⟨t1,t2,?_⟩
 rw [m.trees];refine W0Q rfl (W21 (W0B (thn (he pins s1 σ H1 _ I1 q1) λiv s2 ⟨y,H2,I2,ry,ov,g,q2⟩=>W0Y ?_)))
 exact Io (by omega) I2 g ry λw' s4 I4 rw'=>⟨_,H2,I4,rw',q2⟩
theorem HM {apos:Pos}{ma mb:M D}(hu:X.A.units+64<cLine)(ha:SE X a ma)(hb:SE X b mb)(m:M1 X a "get" apos b pos:=by exact⟨by rfl,by rfl,by rfl,by rfl⟩) :
  SE X (.Call (.Attribute a "get" apos) [b] [] pos) (PL ma mb):=by
 refine ZA (Pm hu ha hb m) ?_
 rintro σ H Q ⟨ρ,en,S,v,S',E,R,e,k⟩
 unfold PL at e;obtain⟨p,e1,e⟩:=W4.mp e
 obtain⟨q,e2,e⟩:=W4.mp e
 obtain⟨pd,pS⟩:=p
 refine⟨ρ,en,S,pd,pS,E,R,e1,λx ρ1 H1 X1 R1 d1=>?_⟩
 cases pd with
 |ref n=>
  dsimp only at e;split at e
  ·rename_i hn0
   obtain⟨kvs,hn,e⟩:=Wi.mp e
   cases e;obtain⟨l,a1,rfl⟩:=d1.of_ref
   refine⟨l,rfl,Lq R1 a1 hn0,ρ1,en,pS,q.1,q.2,E.up X1,R1,e2,λy ρ2 H2 X2 R2 d2=>?_⟩
   obtain⟨g1,g2⟩:=TR R2 (X2.pre n l a1) hn d2
   cases hd:J7 kvs q.1 with
   |some w=>
    rw [hd] at k;obtain⟨x',x1,x2⟩:=g1 w hd
    exact⟨some x',x1,k _ ρ2 H2 (X1.trans X2) R2 x2⟩
   |none=>
    rw [hd] at k;exact⟨none,g2 hd,k _ ρ2 H2 (X1.trans X2) R2 .flat_non⟩
  ·cases e
 |_=>cases e
end
end DL
namespace DL
open PySem L2 PySem.Spec PyProof.Rows
section
variable {X:Cx} {e:Expr} {pos:Pos}
end
end DL
namespace DL
open PySem PySem.Spec PyProof.Rows L2
section
open PySem.SeqAt
open PySem.AutoSeq1 (wpAny_loadPart')
open PySem.MeetsSeq PySem.MeetsSeq2 PySem.MeetsSeq3
end
section
variable {X:Cx} {pins:List (Addr×Obj)} {σ:L2.St} {H:Hp} {s:Shared} {ρ:List Addr} (I:Inv X pins σ H s)
include I in
include I in
end
end DL
namespace L2
open PySem PySem.Spec PyProof.Rows
section
variable {prog:Program} {w:World} {A:Around}
end
section
variable {prog:Program} {w:World} {A:Around} {E:Value->Shared->Prop} {s:Shared}
end
end L2
namespace DL
open PySem L2 PySem.Spec PyProof.Rows
section
variable {X:Cx} {e a b:Expr} {es:List Expr} {pos:Pos}
end
end DL
namespace DL
open PySem L2
theorem Bu (S:Sto)(v:D):Gh S (v,S)=(v,S):=by unfold Gh;split<;>rfl
theorem Yl (S G:Sto)(v:D)(h:J6 S.length v=true):Gh S (v,S++G)=(v,S):=by
 unfold Gh;rw [if_pos ⟨by simp,h⟩]
theorem XT {α:Type}{xs:List α}{i:Int}(h0:0<=i)(h1:i<xs.length):∃a,a∈xs/\xs[i.toNat]? = some a/\atI xs i=some a:=by
 obtain⟨n,rfl⟩:=Int.eq_ofNat_of_zero_le h0
 have hn:n<xs.length:=by omega
 refine⟨xs[n],W08 hn,by simp [hn],Bn (by simp [hn])⟩
def cs (x:Str):List Nat:=x.cps.toList
theorem Ew (x:Str):x.length=(cs x).length:=by simp [Str.length,cs]
theorem Bj (ys:List Str):cs (W25 (Wx "") ys)=ys.flatMap cs:=by
 have e:(Wx "").cps = #[]:=by decide +kernel
 have key:∀(l:List Str) (acc:Array Nat),(l.foldl (λacc p=>acc++(Wx "").cps++p.cps) acc).toList=acc.toList++l.flatMap cs:=by
  intro l
  induction l with
  |nil=>intro acc;simp
  |cons p l ih=>intro acc;rw [W2d,ih,e];simp [cs]
 unfold W25 Builtin.Str.glued;cases ys with
 |nil=>rfl
 |cons y ys=>exact key ys y.cps
end DL
namespace DL
open PySem PySem.Spec PyProof.Rows L2
section
variable {X:Cx} {e a b c:Expr} {es:List Expr} {pos:Pos}
theorem sv (i:Nat){x:Str}{pos:Pos}(hN:X.N[i]? = some x:=by rfl)(hv:Vis X.env.scope x:=by first|exact Or.inl rfl|exact Or.inr (Or.inl rfl)|exact Or.inr (Or.inr rfl))(hd:(x == ("__debug__" : Str))=false:=by decide)
  (hcd:(x == ("__classdict__" : Str))=false:=by decide):SE X (.Name x pos) (Z5 i):=D7 i (Dw hN hv hd hcd)
theorem Y3 {scope:Scope}(names0:List (Str×NameKind))(h0:X.env.scope.names=names0)(h:∀y∈scope.names,y.2 = .free->names0.lookup y.1=some .cell\/names0.lookup y.1=some .free) :
  ∀y∈scope.names,y.2 = .free->X.env.scope.names.lookup y.1=some .cell\/X.env.scope.names.lookup y.1=some .free:=by rw [h0];exact h
theorem Kc {K:W8}{C:String}(h1:W0b K (.type "NoneType") (.type C)=some (Gq "NoneType" C))(h2:W0b K (.type "bool") (.type C)=some (Gq "bool" C))(h3:W0b K (.type "int") (.type C)=some (Gq "int" C))
  (h4:W0b K (.type "str") (.type C)=some (Gq "str" C)) (h5:W0b K (.type "tuple") (.type C)=some (Gq "tuple" C)) (h6:W0b K (.type "list") (.type C)=some (Gq "list" C)) (h7:W0b K (.type "dict") (.type C)=some (Gq "dict" C)):Isi K C:=by
 intro T hT;simp only [Wv,WX,or_false] at hT
 rcases hT with rfl|rfl|rfl|rfl|rfl|rfl|rfl
 ·exact h1
 ·exact h2
 ·exact h3
 ·exact h4
 ·exact h5
 ·exact h6
 ·exact h7
theorem Lo (K:W8):Isi K "str":=Kc (by kernel_rfl) (by kernel_rfl) (by kernel_rfl) (by kernel_rfl) (by kernel_rfl) (by kernel_rfl) (by kernel_rfl)
theorem SU (K:W8):Isi K "int":=Kc (by kernel_rfl) (by kernel_rfl) (by kernel_rfl) (by kernel_rfl) (by kernel_rfl) (by kernel_rfl) (by kernel_rfl)
theorem Ta (K:W8):Isi K "bool":=Kc (by kernel_rfl) (by kernel_rfl) (by kernel_rfl) (by kernel_rfl) (by kernel_rfl) (by kernel_rfl) (by kernel_rfl)
theorem Nb (K:W8):Isi K "tuple":=Kc (by kernel_rfl) (by kernel_rfl) (by kernel_rfl) (by kernel_rfl) (by kernel_rfl) (by kernel_rfl) (by kernel_rfl)
theorem MC {p:Pos}{sep:M D}{m:M (List D)}(hs:SE X a sep)(h:SQ X e m)(he:Wr [e] X.env=(false,eval e X.env) :: Wr [] X.env:=by rfl)
  (hbase:attributeBase a ("join" : Str) X.env (eval a X.env)=eval a X.env:=by rfl)
  (hfew:((backTo pos (Wr [e] X.env)).all (λx=>!x.1)&&(backToKw pos (keywordEach [] X.env)).all (λx=>x.1.isSome)
   && decide ([e].length+([]:List Keyword).length+(if ([]:List Keyword).isEmpty then 0 else 1)<30))=true:=by rfl)
  (hline:(p.endLine == pos.line)=true:=by rfl) (hplain:(backTo pos (Wr [] X.env)).any (·.1)=false:=by rfl) :
  SE X (.Call (.Attribute a "join" p) [e] [] pos) (M4 sep m):=
 HI hs h (ZI h Ys he) (DF PySem.F.plainAttrs_str PySem.F.slot_str_join PySem.F.type_str_join Sj hs (ZI h Ys he) hbase hfew hline he hplain)
end
structure Own (K:W8) (mg:Str->Option Value) (x:Str) (st:Stmt) (f:Addr) (fd:FuncData) (ps:List Str):Prop where
 fn:Fun K x x st f fd
 mgf:mg x=some (.ref f)
 b:JH K fd ps []
theorem Ie {P:Program}{w:World}{K:W8}{mg:Str->Option Value}{base:Heap}{k n:Nat}{f:Addr}{fd:FuncData}{ps:List Str}(hn:ps.length=n):FnOk P w K mg base CX0 k f fd ps (spD K n λ_ _=>none):=
 ⟨λvs H Q E h=>by rw [h.1,hn],λA outer s H args us vs Q E _ _ _ _ h=>by
  obtain⟨_,ρ,S,ds,v,S',_,_,e,_⟩:=h
  cases e⟩
theorem walk_d {l:PySem.W.OpenLaw}{k:Nat}{q:Program}{loose:List Str}{XP:(Str->Option Value)->Heap->Prop}{YP:World->Heap->Prop}{d:DefRec}{K:Params->W8}{x:Str}{F:List D->Sto->Option (D×Sto)}
  (hn:l.most=some 63) (hdf:d.params.defaults=[]) (hr:Room k callerA)
  (hY:∀(w:World) (h:Heap),YP w h->(K w.params).In h)
  (hF:∀(w:World) (mg:Str->Option Value) (fa:Addr) (h:Heap),(K w.params).In h->h.Ns WJ mg->mg d.name=some (.ref fa)->
   ∃fd:FuncData,(∀(s:Shared) (u:Value),BindsTo s fd ⟨[u],[]⟩ [(x,u)])/\
    ∀base:Heap,(K w.params).In base->base.Ns WJ mg->FnOk l.prog w (K w.params) mg base CX0 k fa fd [x] (spD (K w.params) 1 F))
  (hl:∀ns:List Int,ns.length<=63->∃S',F [.scr ns] []=some (.bl true,S')) :
  PySem.W.WalkO q loose XP YP l.row.toRowW d [] (λf vs=>PySem.call f vs):=by
 refine L2.walk_of (n:=63) (k:=k) (x:=x) (CX:=λ_=>CX0) (sp:=λw=>spD (K w.params) 1 F) hn (by decide) hdf hr hY hF (λw H a ns hlen hO hS=>?_) λ_ _ _ _ _ z=>z
 obtain⟨S',e⟩:=hl ns hlen
 have hs:AY (K w.params) H a ns:=by
  rcases hS with (h|⟨o,h⟩)|h
  ·rcases hO a with z|⟨o,xs,z⟩
   ·rw [h] at z;cases z
   ·rw [h] at z;cases z
  ·exact .inl ⟨o,h⟩
  ·exact .inr h
 refine⟨rfl,[],[],[.scr ns],.bl true,S',⟨rfl,λi j a h=>by simp at h,λn ob h=>by simp at h⟩,.cons (by unfold DR;exact⟨a,rfl,hs⟩) .nil,e,λz ρ' H' _ _ dz=>dz.of_bl⟩
end DL
namespace DL
open PySem L2
section
variable {a b c:M D} {ba bb:M Bool} {sa sb:MS} {ms:M (List D)} {en en':En} {S S':Sto} {x y v:D} {g g':D->D->Sto->Option (D×Sto)} {F:List D->Sto->Option (D×Sto)}
def OA (b:MS):Option (Fl×En×Sto)->Option (Fl×En×Sto)
 |some (.nx,en,S)=>b en S
 |r=>r
theorem Xp:Ye sa sb en S=OA sb (sa en S):=by
 unfold Ye;cases sa en S with
 |none=>rfl
 |some p=>obtain⟨f,e,s⟩:=p;cases f<;>rfl
theorem Ol:OA sb (some (.nx,en,S))=sb en S:=rfl
theorem K4:OA sb (some (.rt v,en,S))=some (.rt v,en,S):=rfl
theorem K6:OA sb (some (.bk,en,S))=some (.bk,en,S):=rfl
theorem K5:OA sb (some (.ct,en,S))=some (.ct,en,S):=rfl
theorem Z1Z:mNx en S=some (.nx,en,S):=rfl
def Z1d (g:D->En->Option En)(en:En):Option (D×Sto)->Option (Fl×En×Sto)
 |some (v,S)=>(g v en).map λen'=>(.nx,en',S)
 |none=>none
theorem XC {g:D->En->Option En}:YB a g en S=Z1d g en (a en S):=by
 unfold YB;cases a en S<;>rfl
theorem Ov {i:Nat}:Z1d (gN i) en (some (v,S))=some (.nx,en.set i (some v),S):=rfl
theorem Cu {n:Nat}{gs:List D->En->Option En}:Z1d (gT n gs) en (some (v,S))=(gT n gs v en).map λen'=>(.nx,en',S):=rfl
theorem Z21 {n:Nat}{gs:List D->En->Option En}{ds:List D}(h:ds.length=n):gT n gs (.tup ds) en=gs ds en:=if_pos h
theorem Xz {i:Nat}{gs:List D->En->Option En}{ds:List D}:YJ (gN i) gs (v :: ds) en=gs ds (en.set i (some v)):=rfl
theorem Xy:G9 [] en=some en:=rfl
def Z1P (en:En):Option (D×Sto)->Option (Fl×En×Sto)
 |some (v,S)=>some (.rt v,en,S)
 |none=>none
theorem Xr:Qp a en S=Z1P en (a en S):=by
 unfold Qp;cases a en S<;>rfl
theorem Om:Z1P en (some (v,S))=some (.rt v,en,S):=rfl
def OH (en:En):Option (D×Sto)->Option (Fl×En×Sto)
 |some (_,S)=>some (.nx,en,S)
 |none=>none
theorem CW:BS a en S=OH en (a en S):=by
 unfold BS;cases a en S<;>rfl
theorem Cr:OH en (some (v,S))=some (.nx,en,S):=rfl
def Z1S (sa sb:MS)(en:En):Option (Bool×Sto)->Option (Fl×En×Sto)
 |some (c,S)=>if c=true then sa en S else sb en S
 |none=>none
theorem Xx:JN ba sa sb en S=Z1S sa sb en (ba en S):=by
 unfold JN;cases ba en S<;>rfl
theorem Ot {c:Bool}:Z1S sa sb en (some (c,S))=if c=true then sa en S else sb en S:=rfl
def kV1 (S:Sto):Option D->Option (D×Sto)
 |some d=>some (d,S)
 |none=>none
theorem Xm {i:Nat}:Z5 i en S=kV1 S (en[i]?.getD none):=by
 unfold Z5;cases en[i]?.getD none<;>rfl
theorem Z1H:kV1 S (some x)=some (x,S):=rfl
theorem XB:Zd x en S=some (x,S):=rfl
def Z1Q (g:D->D->Sto->Option (D×Sto))(b:M D)(en:En):Option (D×Sto)->Option (D×Sto)
 |some (x,S)=>(b en S).bind λq=>g x q.1 q.2
 |none=>none
def Z03 (g:D->D->Sto->Option (D×Sto))(x:D):Option (D×Sto)->Option (D×Sto)
 |some (y,S)=>g x y S
 |none=>none
theorem Z1Y:mOp g a b en S=Z1Q g b en (a en S):=by
 unfold mOp;cases a en S<;>rfl
theorem Oo:Z1Q g b en (some (x,S))=Z03 g x (b en S):=by
 show (b en S).bind _=_
 cases b en S<;>rfl
theorem On:Z03 g x (some (y,S))=g x y S:=rfl
def kT:Option (D×Sto)->Option (Bool×Sto)
 |some (.bl b,S)=>some (b,S)
 |_=>none
theorem e_T:mT a en S=kT (a en S):=by
 unfold mT;cases a en S with
 |none=>rfl
 |some p=>obtain⟨d,s⟩:=p;cases d<;>rfl
theorem k_T {t:Bool}:kT (some (.bl t,S))=some (t,S):=rfl
def Z1N:Option (D×Sto)->Option (Bool×Sto)
 |some (d,S)=>(FA d S).map λb=>(b,S)
 |none=>none
theorem XG:G4 a en S=Z1N (a en S):=by
 unfold G4;cases a en S<;>rfl
theorem Cw {t:Bool}:Z1N (some (.bl t,S))=some (t,S):=rfl
def kOr (b:M Bool)(en:En):Option (Bool×Sto)->Option (Bool×Sto)
 |some (c,S)=>if c=true then some (true,S) else b en S
 |none=>none
def Z1R:Option (Bool×Sto)->Option (Bool×Sto)
 |some (c,S)=>some (!c,S)
 |none=>none
theorem Z1X:mOr ba bb en S=kOr bb en (ba en S):=by
 unfold mOr;cases ba en S<;>rfl
theorem Xs:BR ba en S=Z1R (ba en S):=by
 unfold BR;cases ba en S<;>rfl
theorem Z1I {c:Bool}:kOr bb en (some (c,S))=if c=true then some (true,S) else bb en S:=rfl
theorem Op {c:Bool}:Z1R (some (c,S))=some (!c,S):=rfl
def Oy (b:M D)(en:En):Option (D×Sto)->Option (D×Sto)
 |some (d,S)=>(FA d S).bind λc=>if c=true then b en S else some (d,S)
 |none=>none
def Z1L (b:M D)(en:En):Option (D×Sto)->Option (D×Sto)
 |some (d,S)=>(FA d S).bind λc=>if c=true then some (d,S) else b en S
 |none=>none
theorem CI:Rz a b en S=Oy b en (a en S):=by
 unfold Rz;cases a en S<;>rfl
theorem Xl:vOr a b en S=Z1L b en (a en S):=by
 unfold vOr;cases a en S<;>rfl
theorem EX {c:Bool}:Oy b en (some (.bl c,S))=if c=true then b en S else some (.bl false,S):=by cases c<;>rfl
theorem Oi {c:Bool}:Z1L b en (some (.bl c,S))=if c=true then some (.bl true,S) else b en S:=by cases c<;>rfl
def kIf (a b:M D)(en:En):Option (Bool×Sto)->Option (D×Sto)
 |some (c,S)=>if c=true then a en S else b en S
 |none=>none
theorem Z20:mIf ba a b en S=kIf a b en (ba en S):=by
 unfold mIf;cases ba en S<;>rfl
theorem Z1J {c:Bool}:kIf a b en (some (c,S))=if c=true then a en S else b en S:=rfl
def Z2X (g':D->D->Sto->Option (D×Sto))(y:D)(c:M D)(en:En):Option (D×Sto)->Option (D×Sto)
 |some (.bl t,S)=>if t=true then Z03 g' y (c en S) else some (.bl false,S)
 |_=>none
theorem Ou {t:Bool}:Z2X g' y c en (some (.bl t,S))=if t=true then Z03 g' y (c en S) else some (.bl false,S):=rfl
theorem Xt:ZR en S=some ([],S):=rfl
def OI (r:M (List D))(en:En):Option (D×Sto)->Option (List D×Sto)
 |some (x,S)=>(r en S).map λq=>(x :: q.1,q.2)
 |none=>none
def CA (x:D):Option (List D×Sto)->Option (List D×Sto)
 |some (xs,S)=>some (x :: xs,S)
 |none=>none
theorem CY:Z3 a ms en S=OI ms en (a en S):=by
 unfold Z3;cases a en S<;>rfl
theorem Cs:OI ms en (some (x,S))=CA x (ms en S):=by
 show (ms en S).map _=_
 cases ms en S<;>rfl
theorem Ld {xs:List D}:CA x (some (xs,S))=some (x :: xs,S):=rfl
def OJ (F:List D->Sto->Option (D×Sto)):Option (List D×Sto)->Option (D×Sto)
 |some (xs,S)=>F xs S
 |none=>none
theorem Ha:Zm F ms en S=OJ F (ms en S):=by
 unfold Zm;cases ms en S<;>rfl
theorem Ct {xs:List D}:OJ F (some (xs,S))=F xs S:=rfl
def Ma:Option (List D×Sto)->Option (D×Sto)
 |some (xs,S)=>if xs.length<=Wk then some (.tup xs,S) else none
 |none=>none
theorem Xo:M3 ms en S=Ma (ms en S):=by
 unfold M3;cases ms en S<;>rfl
theorem JC {xs:List D}(h:xs.length<=Wk):Ma (some (xs,S))=some (.tup xs,S):=if_pos h
def Mb:Option (List D×Sto)->Option (D×Sto)
 |some (xs,S)=>if xs.length<=Wk then some (.ref S.length,S++[.lst xs]) else none
 |none=>none
theorem Xu:Er ms en S=Mb (ms en S):=by
 unfold Er;cases ms en S<;>rfl
theorem Uy {xs:List D}(h:xs.length<=Wk):Mb (some (xs,S))=some (.ref S.length,S++[.lst xs]):=if_pos h
def Z1a (S0:Sto):Option (Fl×En×Sto)->Option (D×Sto)
 |some (.rt v,_,S)=>some (Gh S0 (v,S))
 |some (.nx,_,S)=>some (Gh S0 (.non,S))
 |_=>none
theorem AI {nN n:Nat}{m:MS}{ds:List D}(h:ds.length=n):J4 nN n m ds S=Z1a S (m (J9 nN ds) S):=by
 unfold J4;rw [if_pos h];cases m (J9 nN ds) S with
 |none=>rfl
 |some p=>obtain⟨f,e,s⟩:=p;cases f<;>rfl
theorem B9:Z1a S (some (.rt v,en,S'))=some (Gh S (v,S')):=rfl
theorem Ba:Z1a S (some (.nx,en,S'))=some (Gh S (.non,S')):=rfl
def OD:Option (D×Sto)->Option (D×Sto)
 |some (d,S)=>(Ex d S).map λ(n:Nat)=>(.int n,S)
 |none=>none
theorem Xv:Rm a en S=OD (a en S):=by
 unfold Rm OD;cases a en S with
 |none=>rfl
 |some p=>
  obtain⟨d,s⟩:=p
  dsimp only [V0];cases Ex d s<;>rfl
theorem Os:OD (some (x,S))=(Ex x S).map λ(n:Nat)=>(.int n,S):=rfl
theorem Oq {z:Str}(h:z.length<=Wk):OD (some (.str z,S))=some (.int z.length,S):=by
 show (if z.length<=Wk then some z.length else none).map _=_
 rw [if_pos h];rfl
theorem Cp {ds:List D}:OD (some (.tup ds,S))=some (.int ds.length,S):=rfl
def Ar (C:String):Option (D×Sto)->Option (D×Sto)
 |some (d,S)=>(tyD d S).map λT=>(.bl (Gq T C),S)
 |none=>none
theorem Xw {C:String}:Fn C a en S=Ar C (a en S):=by
 unfold Fn;cases a en S<;>rfl
def kBs (f:List Bool->Bool):Option (List D×Sto)->Option (D×Sto)
 |some (ds,S)=>(Uh ds).map λbs=>(.bl (f bs),S)
 |none=>none
theorem XF:IH ms en S=kBs (λbs=>bs.all id) (ms en S):=by
 unfold IH;cases ms en S<;>rfl
theorem XE:IG ms en S=kBs (λbs=>bs.any id) (ms en S):=by
 unfold IG;cases ms en S<;>rfl
theorem UK:∀(bs:List Bool),Uh (bs.map D.bl)=some bs
 |[]=>rfl
 |b :: bs=>by
  show (Uh (bs.map D.bl)).map _=_
  rw [UK bs];rfl
theorem Ox {bs:List Bool}:kBs (λbs=>bs.all id) (some (bs.map D.bl,S))=some (.bl (bs.all id),S):=by
 show (Uh (bs.map D.bl)).map _=_
 rw [UK];rfl
theorem Ow {bs:List Bool}:kBs (λbs=>bs.any id) (some (bs.map D.bl,S))=some (.bl (bs.any id),S):=by
 show (Uh (bs.map D.bl)).map _=_
 rw [UK];rfl
def Lh:Option (D×Sto)->Option (ItD×Sto)
 |some (d,S)=>Lm d S
 |none=>none
theorem CS:Qa a en S=Lh (a en S):=by
 unfold Qa;cases a en S<;>rfl
theorem N3 {ns:List Int}:Lh (some (.scr ns,S))=some ((ns.map D.int,.no),S):=rfl
theorem L8 {ds:List D}:Lh (some (.tup ds,S))=some ((ds,.no),S):=rfl
theorem L9 {z:Str}:Lh (some (.str z,S))=some (((cs z).map λc=>D.str ⟨#[c]⟩,.no),S):=rfl
def Z1O:Option (D×Sto)->Option (ItD×Sto)
 |some (.int j,S)=>if -(2 ^ 62)<=j/\j<2 ^ 62 then some ((Ny 0 j.toNat,.no),S) else none
 |_=>none
theorem Xq:G6 a en S=Z1O (a en S):=by
 unfold G6;cases a en S with
 |none=>rfl
 |some p=>obtain⟨d,s⟩:=p;cases d<;>rfl
theorem Bb {j:Int}(h : -(2 ^ 62)<=j/\j<2 ^ 62):Z1O (some (.int j,S))=some ((Ny 0 j.toNat,.no),S):=if_pos h
def OF (g:D->En->Option En)(body:MS)(en:En):Option (ItD×Sto)->Option (Fl×En×Sto)
 |some (r,S)=>thF r.2 (Q6 r.1 r.2 g body r.1 en S)
 |none=>none
theorem XA {mi:M ItD}{g:D->En->Option En}:Fo mi g sa en S=OF g sa en (mi en S):=by
 unfold Fo;cases mi en S<;>rfl
theorem IU {r:Option (Fl×En×Sto)}:thF .no r=r:=by cases r<;>rfl
theorem Hu {n:Nat}{r:Option (Fl×En×Sto)}:thF (.lst n) r=r:=by cases r<;>rfl
theorem IW {r:Option (List D×Sto)}:thC .no r=r:=by cases r<;>rfl
theorem Hv {n:Nat}{r:Option (List D×Sto)}:thC (.lst n) r=r:=by cases r<;>rfl
theorem Lb {ds:List D}{g:D->En->Option En}:OF g sa en (some ((ds,.no),S))=Q6 ds .no g sa ds en S:=IU
theorem K7 {ds:List D}{n:Nat}{g:D->En->Option En}:OF g sa en (some ((ds,.lst n),S))=Q6 ds (.lst n) g sa ds en S:=Hu
theorem Lc {ds:List D}{n:Nat}{kvs:List (D×D)}{th:Bool}{g:D->En->Option En}:OF g sa en (some ((ds,.fr n kvs th),S))=thF (.fr n kvs th) (Q6 ds (.fr n kvs th) g sa ds en S):=rfl
def Lk (nT:Nat)(caps:List Nat)(g:D->En->Option En)(c:M Bool)(m:M D)(en:En):Option (ItD×Sto)->Option (List D×Sto)
 |some (r,S)=>thC r.2 (ZK r.1 r.2 (JG nT caps en) g c m r.1 [] S)
 |none=>none
theorem CZ {mi:M ItD}{nT:Nat}{caps:List Nat}{g:D->En->Option En}:YA mi nT caps g ba a en S=Lk nT caps g ba a en (mi en S):=by
 unfold YA;cases mi en S<;>rfl
theorem K9 {ds:List D}{nT:Nat}{caps:List Nat}{g:D->En->Option En}:Lk nT caps g ba a en (some ((ds,.no),S))=ZK ds .no (JG nT caps en) g ba a ds [] S:=IW
theorem N8 {ds:List D}{n:Nat}{nT:Nat}{caps:List Nat}{g:D->En->Option En}:Lk nT caps g ba a en (some ((ds,.lst n),S))=ZK ds (.lst n) (JG nT caps en) g ba a ds [] S:=Hv
theorem IS {gs:List (Nat×List D)}{r:Option (Fl×En×Sto)}:thF (.zl gs) r=r:=by cases r<;>rfl
theorem IV {gs:List (Nat×List D)}{r:Option (List D×Sto)}:thC (.zl gs) r=r:=by cases r<;>rfl
theorem La {ds:List D}{gs:List (Nat×List D)}{g:D->En->Option En}:OF g sa en (some ((ds,.zl gs),S))=Q6 ds (.zl gs) g sa ds en S:=IS
theorem K8 {ds:List D}{gs:List (Nat×List D)}{nT:Nat}{caps:List Nat}{g:D->En->Option En}:Lk nT caps g ba a en (some ((ds,.zl gs),S))=ZK ds (.zl gs) (JG nT caps en) g ba a ds [] S:=IV
theorem Ka {ds:List D}{n:Nat}{kvs:List (D×D)}{th:Bool}{nT:Nat}{caps:List Nat}{g:D->En->Option En}:Lk nT caps g ba a en (some ((ds,.fr n kvs th),S))=thC (.fr n kvs th) (ZK ds (.fr n kvs th) (JG nT caps en) g ba a ds [] S):=rfl
def OE:Option (List D×Sto)->Option (D×Sto)
 |some (ds,S)=>some (.ref S.length,S++[.lst ds])
 |none=>none
theorem CO:QT ms en S=OE (ms en S):=by
 unfold QT;cases ms en S<;>rfl
theorem Cq {ds:List D}:OE (some (ds,S))=some (.ref S.length,S++[.lst ds]):=rfl
def Cz (ms:M (List D))(en:En):Option (D×Sto)->Option (D×Sto)
 |some (.str x,S)=>(ms en S).bind λp=>(Bw p.1).bind λys=>if (ys.map (·.length)).sum+ys.length*x.length<=16777216 then some (.str (W25 x ys),p.2) else none
 |_=>none
def Lg (x:Str):Option (List D×Sto)->Option (D×Sto)
 |some (ds,S)=>(Bw ds).bind λys=>if (ys.map (·.length)).sum+ys.length*x.length<=16777216 then some (.str (W25 x ys),S) else none
 |none=>none
theorem CQ:M4 a ms en S=Cz ms en (a en S):=by
 unfold M4;cases a en S with
 |none=>rfl
 |some p=>obtain⟨d,s⟩:=p;cases d<;>rfl
theorem L7 {z:Str}:Cz ms en (some (.str z,S))=Lg z (ms en S):=by
 show (ms en S).bind _=_
 cases ms en S<;>rfl
theorem Bv:∀(ys:List Str),Bw (ys.map D.str)=some ys
 |[]=>rfl
 |y :: ys=>by
  show (Bw (ys.map D.str)).map _=_
  rw [Bv ys];rfl
theorem Sz {z:Str}{ys:List Str}(h:(ys.map (·.length)).sum+ys.length*z.length<=16777216):Lg z (some (ys.map D.str,S))=some (.str (W25 z ys),S):=by
 show (Bw (ys.map D.str)).bind _=_
 rw [Bv,V0,if_pos h]
theorem CL:Qf en S=some (true,S):=rfl
end
section
variable {S:Sto} {i j:Int} {x y:Str} {p q:Bool}
theorem CG:JD (.int i) (.int j) S=some (.int (i+j),S):=rfl
theorem Xc {xs ys:List D}(h:xs.length+ys.length<=Wk):JD (.tup xs) (.tup ys) S=some (.tup (xs++ys),S):=if_pos h
theorem OW (h : -(2 ^ 64)<j/\j<2 ^ 64):Nd (.int i) (.int j) S=some (.int (i*j),S):=if_pos (Or.inr h)
theorem U5 (h : -(2 ^ 64)<i/\i<2 ^ 64):Nd (.int i) (.int j) S=some (.int (i*j),S):=if_pos (Or.inl h)
theorem Jk (h:0<j):Fp (.int i) (.int j) S=some (.int (i%j),S):=if_pos (decide_eq_true h)
theorem OX:gLt (.int i) (.int j) S=some (.bl (decide (i<j)),S):=rfl
theorem X7:gGt (.int i) (.int j) S=some (.bl (decide (j<i)),S):=rfl
theorem X8:gGe (.int i) (.int j) S=some (.bl (decide (j<=i)),S):=rfl
theorem Xa:gEq (.int i) (.int j) S=some (.bl (decide (i=j)),S):=rfl
theorem X9:gEq (.str x) (.str y) S=some (.bl (decide (x=y)),S):=rfl
theorem Xb:gEq (.bl p) (.bl q) S=some (.bl (decide (p=q)),S):=rfl
theorem OV:gNe (.int i) (.int j) S=some (.bl (!decide (i=j)),S):=rfl
theorem OU:gNe (.str x) (.str y) S=some (.bl (!decide (x=y)),S):=rfl
theorem CF:gIs (.bl p) (.bl q) S=some (.bl (p == q),S):=rfl
theorem Mc {ds:List D}{k:Nat}{d:D}(h:ds[k]? = some d):gIx (.tup ds) (.int (k:Nat)) S=some (d,S):=by
 show (atI ds (k:Int)).map _=_
 rw [Bn h];rfl
section
variable {a b c d e f:D} {l:List D}
theorem LH:gIx (.tup (a :: l)) (.int 0) S=some (a,S):=Mc (k:=0) rfl
theorem LG:gIx (.tup (a :: b :: l)) (.int 1) S=some (b,S):=Mc (k:=1) rfl
theorem LF:gIx (.tup (a :: b :: c :: l)) (.int 2) S=some (c,S):=Mc (k:=2) rfl
theorem X6:gIx (.tup (a :: b :: c :: d :: l)) (.int 3) S=some (d,S):=Mc (k:=3) rfl
theorem OZ:gIx (.tup (a :: b :: c :: d :: e :: l)) (.int 4) S=some (e,S):=Mc (k:=4) rfl
theorem OY:gIx (.tup (a :: b :: c :: d :: e :: f :: l)) (.int 5) S=some (f,S):=Mc (k:=5) rfl
end
end
section
variable {ds0 r:List D} {g:D->En->Option En} {body:MS} {en:En} {S:Sto} {d v:D}
def Li (ds0:List D)(g:D->En->Option En)(body:MS)(r:List D):Option (Fl×En×Sto)->Option (Fl×En×Sto)
 |some (.nx,en,S)=>Q6 ds0 .no g body r en S
 |some (.ct,en,S)=>Q6 ds0 .no g body r en S
 |some (.bk,en,S)=>some (.nx,en,S)
 |some (.rt v,en,S)=>some (.rt v,en,S)
 |none=>none
theorem CU:Q6 ds0 .no g body [] en S=some (.nx,en,S):=by
 unfold Q6;exact if_pos trivial
theorem CV {i:Nat}:Q6 ds0 .no (gN i) body (d :: r) en S=Li ds0 (gN i) body r (body (en.set i (some d)) S):=by
 rw [Q6];rw [if_pos (show Gf .no ds0 S from trivial)];show (body (en.set i (some d)) S).bind _=_
 cases body (en.set i (some d)) S with
 |none=>rfl
 |some p=>obtain⟨f,e,s⟩:=p;cases f<;>rfl
theorem N5:Li ds0 g body r (some (.nx,en,S))=Q6 ds0 .no g body r en S:=rfl
theorem N6:Li ds0 g body r (some (.ct,en,S))=Q6 ds0 .no g body r en S:=rfl
theorem N7:Li ds0 g body r (some (.bk,en,S))=some (.nx,en,S):=rfl
theorem N4:Li ds0 g body r (some (.rt v,en,S))=some (.rt v,en,S):=rfl
end
section
variable {a b c d e f g h i j k l:D} {S:Sto}
theorem Ce:Ma (some (([]:List D),S))=some (.tup [],S):=JC (show 0<=Wk by decide)
theorem Co:Mb (some (([]:List D),S))=some (.ref S.length,S++[.lst []]):=Uy (show 0<=Wk by decide)
theorem Cd:Ma (some ([a],S))=some (.tup [a],S):=JC (show 1<=Wk by decide)
theorem Cn:Mb (some ([a],S))=some (.ref S.length,S++[.lst [a]]):=Uy (show 1<=Wk by decide)
theorem Cc:Ma (some ([a,b],S))=some (.tup [a,b],S):=JC (show 2<=Wk by decide)
theorem Cm:Mb (some ([a,b],S))=some (.ref S.length,S++[.lst [a,b]]):=Uy (show 2<=Wk by decide)
theorem C9:Ma (some ([a,b,c],S))=some (.tup [a,b,c],S):=JC (show 3<=Wk by decide)
theorem Cl:Mb (some ([a,b,c],S))=some (.ref S.length,S++[.lst [a,b,c]]):=Uy (show 3<=Wk by decide)
theorem C8:Ma (some ([a,b,c,d],S))=some (.tup [a,b,c,d],S):=JC (show 4<=Wk by decide)
theorem Ck:Mb (some ([a,b,c,d],S))=some (.ref S.length,S++[.lst [a,b,c,d]]):=Uy (show 4<=Wk by decide)
theorem C7:Ma (some ([a,b,c,d,e],S))=some (.tup [a,b,c,d,e],S):=JC (show 5<=Wk by decide)
theorem Cj:Mb (some ([a,b,c,d,e],S))=some (.ref S.length,S++[.lst [a,b,c,d,e]]):=Uy (show 5<=Wk by decide)
theorem C6:Ma (some ([a,b,c,d,e,f],S))=some (.tup [a,b,c,d,e,f],S):=JC (show 6<=Wk by decide)
theorem Ci:Mb (some ([a,b,c,d,e,f],S))=some (.ref S.length,S++[.lst [a,b,c,d,e,f]]):=Uy (show 6<=Wk by decide)
theorem C5:Ma (some ([a,b,c,d,e,f,g],S))=some (.tup [a,b,c,d,e,f,g],S):=JC (show 7<=Wk by decide)
theorem Ch:Mb (some ([a,b,c,d,e,f,g],S))=some (.ref S.length,S++[.lst [a,b,c,d,e,f,g]]):=Uy (show 7<=Wk by decide)
theorem C4:Ma (some ([a,b,c,d,e,f,g,h],S))=some (.tup [a,b,c,d,e,f,g,h],S):=JC (show 8<=Wk by decide)
theorem Cg:Mb (some ([a,b,c,d,e,f,g,h],S))=some (.ref S.length,S++[.lst [a,b,c,d,e,f,g,h]]):=Uy (show 8<=Wk by decide)
theorem C0:Ma (some ([a,b,c,d,e,f,g,h,i],S))=some (.tup [a,b,c,d,e,f,g,h,i],S):=JC (show 9<=Wk by decide)
theorem Cf:Mb (some ([a,b,c,d,e,f,g,h,i],S))=some (.ref S.length,S++[.lst [a,b,c,d,e,f,g,h,i]]):=Uy (show 9<=Wk by decide)
theorem L3:Ma (some ([a,b,c,d,e,f,g,h,i,j],S))=some (.tup [a,b,c,d,e,f,g,h,i,j],S):=JC (show 10<=Wk by decide)
theorem L6:Mb (some ([a,b,c,d,e,f,g,h,i,j],S))=some (.ref S.length,S++[.lst [a,b,c,d,e,f,g,h,i,j]]):=Uy (show 10<=Wk by decide)
theorem L1:Ma (some ([a,b,c,d,e,f,g,h,i,j,k],S))=some (.tup [a,b,c,d,e,f,g,h,i,j,k],S):=JC (show 11<=Wk by decide)
theorem L5:Mb (some ([a,b,c,d,e,f,g,h,i,j,k],S))=some (.ref S.length,S++[.lst [a,b,c,d,e,f,g,h,i,j,k]]):=Uy (show 11<=Wk by decide)
theorem L0:Ma (some ([a,b,c,d,e,f,g,h,i,j,k,l],S))=some (.tup [a,b,c,d,e,f,g,h,i,j,k,l],S):=JC (show 12<=Wk by decide)
theorem L4:Mb (some ([a,b,c,d,e,f,g,h,i,j,k,l],S))=some (.ref S.length,S++[.lst [a,b,c,d,e,f,g,h,i,j,k,l]]):=Uy (show 12<=Wk by decide)
end
theorem Z23:(true == false)=false:=rfl
theorem Z24:(false == true)=false:=rfl
theorem Z22:(true == true)=true:=rfl
theorem Z25:(false == false)=true:=rfl
section
variable {a b:Option D} {l m:En} {d e:D} {ds es:List D} {n:Nat} {x y:Option (Fl×En×Sto)} {u v:Option (D×Sto)} {p q:Option (Bool×Sto)}
theorem Ez:(a :: l).set 0 b=b :: l:=rfl
theorem Ey:(a :: l).set (n+1) b=a :: l.set n b:=rfl
theorem EM:(a :: l)[0]? = some a:=rfl
theorem EK:(a :: l)[n+1]? = l[n]?:=List.getElem?_cons_succ
theorem EL:(some a).getD none=a:=rfl
theorem ED:([]:List D).length=0:=rfl
theorem EC:(d :: ds).length=ds.length+1:=rfl
theorem ET:([]:List D)++ds=ds:=rfl
theorem ER:(d :: ds)++es=d :: (ds++es):=rfl
theorem ES:ds++[]=ds:=VL ds
theorem K0:J9 n []=W0E n none:=rfl
theorem MZ:J9 (n+1) (d :: ds)=some d :: J9 n ds:=by
 unfold J9;simp
theorem EN {caps:List Nat}:JG (n+1) caps l=none :: JG n caps l:=rfl
theorem EQ {j:Nat}{caps:List Nat}:JG 0 (j :: caps) l=(l[j]?.getD none) :: JG 0 caps l:=rfl
theorem EO:JG 0 [] l=[]:=rfl
theorem EB:W0E 0 (none:Option D)=[]:=rfl
theorem EA:W0E (n+1) (none:Option D)=none :: W0E n none:=rfl
theorem EG:(if True then x else y)=x:=if_pos trivial
theorem EH:(if False then x else y)=y:=if_neg id
theorem EE:(if True then u else v)=u:=if_pos trivial
theorem EF:(if False then u else v)=v:=if_neg id
theorem EI:(if True then p else q)=p:=if_pos trivial
theorem EJ:(if False then p else q)=q:=if_neg id
end
end DL
namespace DL
open PySem L2
section
variable {a b c:M D} {ms:M (List D)} {en:En} {S:Sto} {x v:D} {ds:List D} {n:Nat}
def T1 (n:Nat):Option (D×Sto)->Option (D×Sto)
 |some (v,S)=>match S[n]? with|some (Ob.lst ds)=>if ds.length<Wk then some (.non,S.set n (Ob.lst (ds++[v]))) else none|_=>none
 |none=>none
def Z04 (b:M D)(en:En):Option (D×Sto)->Option (D×Sto)
 |some (.ref n,S)=>match S[n]? with|some (Ob.lst _)=>T1 n (b en S)|_=>(b en S).bind λ_=>none
 |some (_,S)=>(b en S).bind λ_=>none
 |none=>none
theorem XD:Es a b en S=Z04 b en (a en S):=by
 unfold Es;cases a en S with
 |none=>rfl
 |some p=>
  obtain⟨d,S1⟩:=p
  cases d with
  |ref n=>
   show ((b en S1).bind λq=>match S1[n]?,q.2[n]? with|some (Ob.lst _),some (Ob.lst ds)=>if ds.length<Wk then some (D.non,q.2.set n (Ob.lst (ds++[q.1]))) else none|_,_=>none)=_
   cases h:S1[n]? with
   |none=>show _=(match S1[n]? with|some (Ob.lst _)=>T1 n (b en S1)|_=>(b en S1).bind λ_=>none);rw [h]
   |some ob=>
    show _=(match S1[n]? with|some (Ob.lst _)=>T1 n (b en S1)|_=>(b en S1).bind λ_=>none)
    rw [h];cases ob with
    |lst l=>
     dsimp only;cases b en S1 with
     |none=>rfl
     |some q=>
      obtain⟨w,s⟩:=q
      rw [V0];unfold T1;dsimp only;cases s[n]? with
      |none=>rfl
      |some o=>cases o<;>rfl
    |_=>rfl
  |_=>rfl
theorem Cv {ds:List D}:Z04 b en (some (.ref S.length,S++[Ob.lst ds]))=T1 S.length (b en (S++[Ob.lst ds])):=by
 show (match (S++[Ob.lst ds])[S.length]? with|some (Ob.lst _)=>T1 S.length (b en (S++[Ob.lst ds]))|_=>(b en (S++[Ob.lst ds])).bind λ_=>none)=_
 rw [Wz]
theorem F5 (h:ds.length<Wk):T1 S.length (some (v,S++[Ob.lst ds]))=some (.non,S++[Ob.lst (ds++[v])]):=by
 show (match (S++[Ob.lst ds])[S.length]? with|some (Ob.lst ds')=>if ds'.length<Wk then some (D.non,(S++[Ob.lst ds]).set S.length (Ob.lst (ds'++[v]))) else none|_=>none)=_
 rw [Wz];dsimp only;rw [if_pos h];simp
def Le:Option (D×Sto)->Option (D×Sto)
 |some (d,S)=>(Ht d S).map λds=>(.tup ds,S)
 |none=>none
theorem CJ:KP a en S=Le (a en S):=by
 unfold KP;cases a en S<;>rfl
theorem PY:Le (some (.tup ds,S))=some (.tup ds,S):=rfl
theorem F3 (h:S[n]? = some (Ob.lst ds)):Le (some (.ref n,S))=some (.tup ds,S):=by
 show ((match S[n]? with|some (Ob.lst ds)=>some ds|_=>none).map λds=>(D.tup ds,S))=_
 rw [h];rfl
theorem PZ:Le (some (.ref S.length,S++[Ob.lst ds]))=some (.tup ds,S++[Ob.lst ds]):=F3 (Wz ..)
def Oz:Option (List D×Sto)->Option (D×Sto)
 |some (ds,S)=>some (.tup ds,S)
 |none=>none
theorem CK:JZ ms en S=Oz (ms en S):=by
 unfold JZ;cases ms en S<;>rfl
theorem EZ:Oz (some (ds,S))=some (.tup ds,S):=rfl
theorem CN:KQ en S=some (.ref S.length,S++[Ob.dct []]):=rfl
def Lj:Option (D×Sto)->Option (D×Sto)
 |some (.tup ds,S)=>if ds.length<=Wk then (JW ds).map λps=>(.ref S.length,S++[Ob.dct (US [] ps)]) else none
 |_=>none
theorem LO:BT a en S=Lj (a en S):=by
 unfold BT;cases a en S with
 |none=>rfl
 |some p=>obtain⟨d,s⟩:=p;cases d<;>rfl
theorem Ir {ps:List (D×D)}(h:ds.length<=Wk)(e:JW ds=some ps):Lj (some (.tup ds,S))=some (.ref S.length,S++[Ob.dct (US [] ps)]):=by
 show (if ds.length<=Wk then (JW ds).map λps=>(D.ref S.length,S++[Ob.dct (US [] ps)]) else none)=_
 rw [if_pos h,e];rfl
def SC (C1 C2:String):Option (D×Sto)->Option (D×Sto)
 |some (d,S)=>(tyD d S).map λT=>(.bl (Gq T C1||Gq T C2),S)
 |none=>none
theorem CT {C1 C2:String}:PJ C1 C2 a en S=SC C1 C2 (a en S):=by
 unfold PJ;cases a en S<;>rfl
def Ap (d:D):Option (D×Sto)->Option (ItD×Sto)
 |some (d',S)=>(KA d S).bind λx=>(KA d' S).map λy=>((E8 x.1 y.1,gdZ (x.2++y.2)),S)
 |none=>none
def Z1K (b:M D)(en:En):Option (D×Sto)->Option (ItD×Sto)
 |some (d,S)=>Ap d (b en S)
 |none=>none
theorem Xk:O7 a b en S=Z1K b en (a en S):=by
 unfold O7;cases a en S with
 |none=>rfl
 |some p=>
  obtain⟨d,S1⟩:=p
  show ((b en S1).bind _)=Ap d (b en S1)
  cases b en S1 with
  |none=>rfl
  |some q=>rfl
theorem Oh {d:D}:Z1K b en (some (d,S))=Ap d (b en S):=rfl
theorem EW {xs ys:List D}:Ap (.tup xs) (some (.tup ys,S))=some ((E8 xs ys,.no),S):=rfl
def Aq (f:Int->Int->Int)(d:D):Option (D×Sto)->Option (D×Sto)
 |some (d',S)=>match d,d' with | .int i,.int j=>some (.int (f i j),S)|_,_=>none
 |none=>none
def Z1M (f:Int->Int->Int)(b:M D)(en:En):Option (D×Sto)->Option (D×Sto)
 |some (d,S)=>Aq f d (b en S)
 |none=>none
theorem Xn {f:Int->Int->Int}:Sr f a b en S=Z1M f b en (a en S):=by
 unfold Sr;cases a en S with
 |none=>rfl
 |some p=>
  obtain⟨d,S1⟩:=p
  show ((b en S1).bind _)=Aq f d (b en S1)
  cases b en S1 with
  |none=>rfl
  |some q=>rfl
theorem Oj {f:Int->Int->Int}{d:D}:Z1M f b en (some (d,S))=Aq f d (b en S):=rfl
theorem EY {f:Int->Int->Int}{i j:Int}:Aq f (.int i) (some (.int j,S))=some (.int (f i j),S):=rfl
def Lf:Option (D×Sto)->Option (List D×Sto)
 |some (d,S)=>(FF d S).bind λds=>if Yg ds=true then some (ZT ds,S) else none
 |none=>none
theorem CM:BP a en S=Lf (a en S):=by
 unfold BP;cases a en S<;>rfl
theorem F4 {d:D}(e:FF d S=some ds)(h:Yg ds=true):Lf (some (d,S))=some (ZT ds,S):=by
 show ((FF d S).bind λds=>if Yg ds=true then some (ZT ds,S) else none)=_
 rw [e,V0,if_pos h]
theorem Ib {kvs:List (D×D)}{k:D}(h1:a en S=some (.ref n,S))(h2:b en S=some (k,S))(h3:c en S=some (x,S))(hd:Q7 S n k=some kvs):KU a b c en S=some ((J7 kvs k).getD x,S):=by
 unfold KU;have hi:G8 S n=true:=by
  unfold Q7 at hd;unfold G8;split at hd
  ·rfl
  ·rfl
  ·cases hd
 rw [h1,V0,h2,V0,h3,V0];dsimp only;rw [if_pos hi,hd];rfl
theorem CB {kvs:List (D×D)}{k d:D}(hd:Q7 S n k=some kvs)(hg:J7 kvs k=some d):gIx (.ref n) k S=some (d,S):=by
 have hl:∀xs,S[n]?≠some (Ob.lst xs):=λxs z=>by
  unfold Q7 at hd;rw [z] at hd;cases hd
 show (match S[n]? with|some (Ob.lst xs)=>(match k with | .int i=>(atI xs i).map λd=>(d,S)|_=>none)|_=>(Q7 S n k).bind λkvs=>(J7 kvs k).map λd=>(d,S))=_
 split
 ·rename_i xs q
  exact absurd q (hl xs)
 ·rw [hd,V0,hg];rfl
end
section
variable {a:M D} {en:En} {S:Sto} {ds:List D} {n:Nat}
end
section
variable {ms:M (List D)} {en:En} {S:Sto}
theorem Nc:∀(ss:List Int),Lv (ss.map D.int)=some ss
 |[]=>rfl
 |b :: bs=>by
  show (Lv (bs.map D.int)).map _=_
  rw [Nc bs];rfl
end
section
variable {a b c:M D} {ms:M (List D)} {en:En} {S:Sto} {x y v:D} {ds:List D} {n:Nat}
end
end DL
namespace DL
open PySem L2
theorem EVS:type_of% (Ua @Xp (Ua @Ol (Ua @K4 (Ua @K6 (Ua @K5 (Ua @Z1Z (Ua @XC (Ua @Ov (Ua @Cu (Ua @Z21 (Ua @Xz (Ua @Xy (Ua @Xr (Ua @Om (Ua @CW (Ua @Cr (Ua @Xx (Ua @Ot (Ua @Xm (Ua @Z1H (Ua @XB (Ua @Z1Y (Ua @Oo (Ua @On (Ua @e_T (Ua @k_T (Ua @XG (Ua @Cw (Ua @Z1X (Ua @Xs (Ua @Z1I (Ua @Op (Ua @CI (Ua @Xl (Ua @EX (Ua @Oi (Ua @Z20 (Ua @Z1J (Ua @Ou (Ua @Xt (Ua @CY (Ua @Cs (Ua @Ld (Ua @Ha (Ua @Ct (Ua @Xo (Ua @Xu (Ua @AI (Ua @B9 (Ua @Ba (Ua @Xv (Ua @Cp (Ua @Xw (Ua @XF (Ua @XE (Ua @CS (Ua @N3 (Ua @L8 (Ua @L9 (Ua @Xq (Ua @XA (Ua @Lb (Ua @K7 (Ua @Lc (Ua @CZ (Ua @K9 (Ua @N8 (Ua @La (Ua @K8 (Ua @Ka (Ua @CO (Ua @Cq (Ua @CQ (Ua @L7 (Ua @CL (Ua @CG (Ua @OX (Ua @X7 (Ua @X8 (Ua @Xa (Ua @X9 (Ua @Xb (Ua @OV (Ua @OU (Ua @CF (Ua @LH (Ua @LG (Ua @LF (Ua @X6 (Ua @OZ (Ua @OY (Ua @CU (Ua @CV (Ua @N5 (Ua @N6 (Ua @N7 (Ua @N4 (Ua @Ce (Ua @Co (Ua @Cd (Ua @Cn (Ua @Cc (Ua @Cm (Ua @C9 (Ua @Cl (Ua @C8 (Ua @Ck (Ua @C7 (Ua @Cj (Ua @C6 (Ua @Ci (Ua @C5 (Ua @Ch (Ua @C4 (Ua @Cg (Ua @C0 (Ua @Cf (Ua @L3 (Ua @L6 (Ua @L1 (Ua @L5 (Ua @L0 (Ua @L4 (Ua @Z23 (Ua @Z24 (Ua @Z22 (Ua @Z25 (Ua @Ez (Ua @Ey (Ua @EM (Ua @EK (Ua @EL (Ua @ED (Ua @EC (Ua @ET (Ua @ER (Ua @ES (Ua @K0 (Ua @MZ (Ua @EN (Ua @EQ (Ua @EO (Ua @EB (Ua @EA (Ua @EG (Ua @EH (Ua @EE (Ua @EF (Ua @EI (Ua @EJ (Ua @XD (Ua @Cv (Ua @CJ (Ua @PY (Ua @PZ (Ua @CK (Ua @EZ (Ua @CN (Ua @LO (Ua @CT (Ua @Xk (Ua @Oh (Ua @EW (Ua @Xn (Ua @Oj (Ua @EY (Ua @CM (Ua @Bu (Ua @and_true (Ua @true_and (Ua @decide_true (Ua @decide_false (Ua @W05 (Ua @W1P (Ua @WL (Ua @Nat.add_zero (Ua @Nat.zero_add @Nat.sub_zero))))))))))))))))))))))))))))))))))))))))))))))))))))))))))))))))))))))))))))))))))))))))))))))))))))))))))))))))))))))))))))))))))))))))))))))))))))))))))))))))))))))))))))))))):=
  (Ua @Xp (Ua @Ol (Ua @K4 (Ua @K6 (Ua @K5 (Ua @Z1Z (Ua @XC (Ua @Ov (Ua @Cu (Ua @Z21 (Ua @Xz (Ua @Xy (Ua @Xr (Ua @Om (Ua @CW (Ua @Cr (Ua @Xx (Ua @Ot (Ua @Xm (Ua @Z1H (Ua @XB (Ua @Z1Y (Ua @Oo (Ua @On (Ua @e_T (Ua @k_T (Ua @XG (Ua @Cw (Ua @Z1X (Ua @Xs (Ua @Z1I (Ua @Op (Ua @CI (Ua @Xl (Ua @EX (Ua @Oi (Ua @Z20 (Ua @Z1J (Ua @Ou (Ua @Xt (Ua @CY (Ua @Cs (Ua @Ld (Ua @Ha (Ua @Ct (Ua @Xo (Ua @Xu (Ua @AI (Ua @B9 (Ua @Ba (Ua @Xv (Ua @Cp (Ua @Xw (Ua @XF (Ua @XE (Ua @CS (Ua @N3 (Ua @L8 (Ua @L9 (Ua @Xq (Ua @XA (Ua @Lb (Ua @K7 (Ua @Lc (Ua @CZ (Ua @K9 (Ua @N8 (Ua @La (Ua @K8 (Ua @Ka (Ua @CO (Ua @Cq (Ua @CQ (Ua @L7 (Ua @CL (Ua @CG (Ua @OX (Ua @X7 (Ua @X8 (Ua @Xa (Ua @X9 (Ua @Xb (Ua @OV (Ua @OU (Ua @CF (Ua @LH (Ua @LG (Ua @LF (Ua @X6 (Ua @OZ (Ua @OY (Ua @CU (Ua @CV (Ua @N5 (Ua @N6 (Ua @N7 (Ua @N4 (Ua @Ce (Ua @Co (Ua @Cd (Ua @Cn (Ua @Cc (Ua @Cm (Ua @C9 (Ua @Cl (Ua @C8 (Ua @Ck (Ua @C7 (Ua @Cj (Ua @C6 (Ua @Ci (Ua @C5 (Ua @Ch (Ua @C4 (Ua @Cg (Ua @C0 (Ua @Cf (Ua @L3 (Ua @L6 (Ua @L1 (Ua @L5 (Ua @L0 (Ua @L4 (Ua @Z23 (Ua @Z24 (Ua @Z22 (Ua @Z25 (Ua @Ez (Ua @Ey (Ua @EM (Ua @EK (Ua @EL (Ua @ED (Ua @EC (Ua @ET (Ua @ER (Ua @ES (Ua @K0 (Ua @MZ (Ua @EN (Ua @EQ (Ua @EO (Ua @EB (Ua @EA (Ua @EG (Ua @EH (Ua @EE (Ua @EF (Ua @EI (Ua @EJ (Ua @XD (Ua @Cv (Ua @CJ (Ua @PY (Ua @PZ (Ua @CK (Ua @EZ (Ua @CN (Ua @LO (Ua @CT (Ua @Xk (Ua @Oh (Ua @EW (Ua @Xn (Ua @Oj (Ua @EY (Ua @CM (Ua @Bu (Ua @and_true (Ua @true_and (Ua @decide_true (Ua @decide_false (Ua @W05 (Ua @W1P (Ua @WL (Ua @Nat.add_zero (Ua @Nat.zero_add @Nat.sub_zero)))))))))))))))))))))))))))))))))))))))))))))))))))))))))))))))))))))))))))))))))))))))))))))))))))))))))))))))))))))))))))))))))))))))))))))))))))))))))))))))))))))))))))))))))
end DL
namespace DL
open PySem L2
section
variable {α:Type} {ds0:List D} {gd:Gd} {cap:En} {g:D->En->Option En} {c:M Bool} {m:M D} {S:Sto}
theorem YS (xs:List α)(enc:α->D)(p:α->Bool)(f:α->D)(hg:Gf gd ds0 S)(hl:xs.length<=Wk)(h:∀a∈xs,∃en,g (enc a) cap=some en/\c en S=some (p a,S)/\(p a=true->m en S=some (f a,S))) :
  ZK ds0 gd cap g c m (xs.map enc) [] S=some ((xs.filter p).map f,S):=by
 have key:∀(l:List α) (acc:List D),acc.length+l.length<=Wk->(∀a∈l,∃en,g (enc a) cap=some en/\c en S=some (p a,S)/\(p a=true->m en S=some (f a,S)))->
   ZK ds0 gd cap g c m (l.map enc) acc S=some (acc++(l.filter p).map f,S):=by
  intro l
  induction l with
  |nil=>
   intro acc hl _;unfold ZK;simp only [We]
   rw [if_pos ⟨hg,by simpa using hl⟩]
   simp
  |cons a l ih=>
   intro acc hl h;obtain⟨en,h1,h2,h3⟩:=h a Wp
   rw [WS] at hl;rw [W1];unfold ZK;rw [if_pos ⟨hg,by omega⟩,h1,V0,h2,V0]
   dsimp only;cases hp:p a with
   |true=>
    rw [if_pos rfl,h3 hp,V0,ih (acc++[f a]) (by rw [WC,W0g];omega) λd' hd'=>h d' (Wu _ hd')]
    rw [W1C hp,W1,WN];rfl
   |false=>
    rw [if_neg Wy,ih acc (by omega) λd' hd'=>h d' (Wu _ hd')]
    rw [W1D (by simp [hp])]
 simpa using key xs [] (by simpa using hl) h
theorem YT (xs:List α)(enc:α->D)(f:α->D)(hg:Gf gd ds0 S)(hl:xs.length<=Wk)(h:∀a∈xs,∃en,g (enc a) cap=some en/\m en S=some (f a,S)) :
  ZK ds0 gd cap g Qf m (xs.map enc) [] S=some (xs.map f,S):=by
 have:=YS (c:=Qf) xs enc (λ_=>true) f hg hl (λa ha=>by
  obtain⟨en,h1,h2⟩:=h a ha
  exact⟨en,h1,rfl,λ_=>h2⟩)
 rw [List.filter_eq_self.mpr λ_ _=>rfl] at this
 exact this
theorem YD {ds:List D}{S:Sto}:Gf .no ds S:=trivial
theorem JU (n:Nat):Ny 0 n=(W6 n).map λi=>D.int (i:Nat):=by
 unfold Ny;simp
theorem QO {body:MS}(xs:List α)(enc:α->D)(P:List α->En->Sto->Prop)(h:∀pre a post en S,xs=pre++a :: post->P pre en S->∃en1,g (enc a) en=some en1/\∃en2 S2,body en1 S=some (.nx,en2,S2)/\P (pre++[a]) en2 S2)
  (hg:∀pre en S,P pre en S->Gf gd ds0 S) {en:En} {S:Sto} (h0:P [] en S):∃en' S',Q6 ds0 gd g body (xs.map enc) en S=some (.nx,en',S')/\P xs en' S':=by
 have key:∀(post pre:List α) en S,xs=pre++post->P pre en S->∃en' S',Q6 ds0 gd g body (post.map enc) en S=some (.nx,en',S')/\P xs en' S':=by
  intro post
  induction post with
  |nil=>
   intro pre en S e hp;unfold Q6;simp only [We]
   rw [if_pos (hg pre en S hp)];rw [VL] at e;exact⟨en,S,rfl,e ▸ hp⟩
  |cons a post ih=>
   intro pre en S e hp;obtain⟨en1,h1,en2,S2,h2,h3⟩:=h pre a post en S e hp
   rw [W1];unfold Q6;rw [if_pos (hg pre en S hp),h1,V0,h2,V0];exact ih (pre++[a]) en2 S2 (by rw [e,WN];rfl) h3
 exact key xs [] en S rfl h0
end
theorem Mh (l:List Nat):cs ⟨l.toArray⟩=l:=by simp [cs]
theorem O4 (x:Str):(⟨(cs x).toArray⟩:Str)=x:=by cases x;simp [cs]
theorem HB {x y:Str}(h:cs x=cs y):x=y:=by rw [<-O4 x,<-O4 y,h]
end DL
namespace L2
open PySem PySem.Spec PyProof.Rows
section
variable {prog:Program} {w:World} {A:Around} {E:Value->Shared->Prop} {s:Shared}
end
section
variable {X:Cx} {e st:Expr} {te:TE} {tk:TO} {pos p2:Pos}
end
end L2
namespace DL
open PySem L2 PySem.Spec PyProof.Rows
section
variable {X:Cx} {e a b st:Expr} {pos:Pos}
end
end DL
namespace DL
open PySem L2 PySem.Spec PyProof.Rows
section
variable {X:Cx} {a b:Expr} {pos:Pos}
end
end DL
namespace DL
open PySem L2 PySem.Spec PyProof.Rows
structure OwnM (K:W8) (C:Addr) (x qual:Str) (st:Stmt) (f:Addr) (fd:FuncData) (ps:List Str):Prop where
 fn:Fun K x qual st f fd
 meth:L2.Meth K C x f
 b:JH K fd ps []
structure OwnI (K:W8) (C:Addr) (qual:Str) (st:Stmt) (f:Addr) (fd:FuncData) (ps:List Str):Prop where
 fn:Fun K "__init__" qual st f fd
 mkr:L2.Mk K C f
 b:JH K fd ps []
end DL
namespace K09
open PySem PySem.Spec PyProof.Rows L2 DL
def top (i:Nat):Stmt:=PySem.Challenge.pw_twinshelves_k09_files_taken.main.body.getD i (.Pass ⟨0,0,0,0⟩)
def mth:Stmt->Nat->Stmt
 | .ClassDef _ _ _ b _ _ _ _ _ _ _,j=>b.getD j (.Pass ⟨0,0,0,0⟩)
 |s,_=>s
abbrev Y7:Stmt:=mth (top 18) 0
abbrev Zx:Stmt:=top 12
abbrev Yb:Stmt:=top 10
abbrev Zo:Stmt:=top 13
abbrev Zw:Stmt:=top 14
abbrev ZP:Stmt:=top 15
abbrev Y6:Stmt:=mth (top 18) 19
abbrev Qs:Stmt:=top 20
abbrev YL:Stmt:=top 21
abbrev YN:Stmt:=top 22
abbrev YM:Stmt:=top 24
abbrev YW:Stmt:=top 27
abbrev YX:Stmt:=top 25
abbrev Q8:Stmt:=top 23
abbrev Yj:Stmt:=top 26
abbrev Qr:Stmt:=top 28
abbrev JT:Stmt:=top 29
abbrev Yx:Stmt:=top 30
abbrev Yy:Stmt:=top 31
abbrev ZW:Stmt:=mth (top 18) 2
abbrev Y8:Stmt:=mth (top 18) 10
abbrev Yw:Stmt:=top 11
abbrev Zg:Stmt:=mth (top 18) 12
abbrev Zb:Stmt:=mth (top 18) 13
abbrev Yc:Stmt:=mth (top 18) 14
abbrev ZV:Stmt:=mth (top 18) 15
abbrev ZM:Stmt:=mth (top 18) 21
abbrev ZG:Stmt:=top 32
abbrev Tq:Stmt:=top 33
theorem nd0:(["self", "number"]:List Str).Nodup:=by decide +kernel
theorem nd1:(["known", "other", "counts", "mark"]:List Str).Nodup:=by decide +kernel
theorem nd2:(["mark", "known"]:List Str).Nodup:=by decide +kernel
theorem nd3:(["heard", "mark"]:List Str).Nodup:=by decide +kernel
theorem nd4:(["pairs", "other_pairs", "other_known"]:List Str).Nodup:=by decide +kernel
theorem nd5:(["pair", "other_pairs", "other_known"]:List Str).Nodup:=by decide +kernel
theorem nd6:(["pairs", "known", "other_pairs", "other_known", "mine", "others"]:List Str).Nodup:=by decide +kernel
theorem nd7:(["one", "other", "names", "texts"]:List Str).Nodup:=by decide +kernel
theorem nd8:(["self", "file", "own", "together"]:List Str).Nodup:=by decide +kernel
theorem nd9:(["_law_script", "_law_k"]:List Str).Nodup:=by decide +kernel
theorem Z2T:(["_law_cell_here", "_law_prime", "_law_many"]:List Str).Nodup:=by decide +kernel
theorem O2:(["_law_cell_here", "_law_letters", "_law_many"]:List Str).Nodup:=by decide +kernel
theorem Z2S:(["_law_k", "_law_cell_here", "_law_letters"]:List Str).Nodup:=by decide +kernel
theorem Z2R:(["_law_found", "_law_due"]:List Str).Nodup:=by decide +kernel
theorem Z1F:(["_law_one", "_law_other"]:List Str).Nodup:=by decide +kernel
theorem Z2Q:(["_law_cell_here"]:List Str).Nodup:=by decide +kernel
theorem O1:(["_law_cell_here", "_law_which_here", "_law_found", "_law_house", "_law_many"]:List Str).Nodup:=by decide +kernel
theorem DZ:(["_law_cell_here", "_law_signs", "_law_many"]:List Str).Nodup:=by decide +kernel
theorem Z2P:(["_law_k", "_law_cell_here", "_law_signs"]:List Str).Nodup:=by decide +kernel
theorem Si:(["_law_cell_here", "_law_known_here", "_law_kind", "_law_seed", "_law_found", "_law_k", "_law_house", "_law_most", "_law_mark", "_law_words"]:List Str).Nodup:=by decide +kernel
theorem Z2O:(["_law_mark", "_law_found"]:List Str).Nodup:=by decide +kernel
theorem Z1E:(["_law_cell_here", "_law_which_here", "_law_first", "_law_seed", "_law_known_here"]:List Str).Nodup:=by decide +kernel
theorem Z2N:(["_law_mark", "_law_known_here"]:List Str).Nodup:=by decide +kernel
theorem Z1D:(["_law_house", "_law_count", "_law_mark"]:List Str).Nodup:=by decide +kernel
theorem Z02:(["_law_mine", "_law_my_known", "_law_yours", "_law_your_known", "_law_found"]:List Str).Nodup:=by decide +kernel
theorem Z2M:(["_law_pair", "_law_yours"]:List Str).Nodup:=by decide +kernel
theorem Z2L:(["_law_pair", "_law_your_known"]:List Str).Nodup:=by decide +kernel
theorem Z2K:(["_law_pair", "_law_my_known"]:List Str).Nodup:=by decide +kernel
theorem DY:(["_law_one", "_law_other", "_law_known_here", "_law_house", "_law_many", "_law_names"]:List Str).Nodup:=by decide +kernel
theorem Z1C:(["_law_place", "_law_count", "_law_house"]:List Str).Nodup:=by decide +kernel
theorem IE:(["self"]:List Str).Nodup:=by decide +kernel
theorem Z2J:(["self", "which"]:List Str).Nodup:=by decide +kernel
theorem DX:(["file"]:List Str).Nodup:=by decide +kernel
theorem Z2I:(["which", "self"]:List Str).Nodup:=by decide +kernel
theorem Z01:(["_law_house", "_law_files", "_law_ids", "_law_which_here", "_law_heard"]:List Str).Nodup:=by decide +kernel
theorem Z15:(["_law_which_here", "_law_files"]:List Str).Nodup:=by decide +kernel
theorem NV:(["_law_script", "_law_house", "_law_seeds", "_law_files", "_law_taken", "_law_k", "_law_cell_here", "_law_one", "_law_which_here", "_law_file_here", "_law_due", "_law_changed"]:List Str).Nodup:=by decide +kernel
theorem Z2H:(["_law_file_here", "_law_house"]:List Str).Nodup:=by decide +kernel
theorem Nr:WK "all" = some (.builtin "all"):=by decide +kernel
theorem Nq:WK "any" = some (.builtin "any"):=by decide +kernel
theorem JA:WK "bool" = some (.type "bool"):=by decide +kernel
theorem Rc:WK "dict" = some (.type "dict"):=by decide +kernel
theorem Fa:WK "int" = some (.type "int"):=by decide +kernel
theorem ZJ:WK "isinstance" = some (.builtin "isinstance"):=by decide +kernel
theorem Qi:WK "len" = some (.builtin "len"):=by decide +kernel
theorem Np:WK "max" = some (.builtin "max"):=by decide +kernel
theorem F9:WK "set" = some (.type "set"):=by decide +kernel
theorem Yt:WK "sorted" = some (.builtin "sorted"):=by decide +kernel
theorem F8:WK "str" = some (.type "str"):=by decide +kernel
theorem Zt:WK "tuple" = some (.type "tuple"):=by decide +kernel
theorem F7:WK "zip" = some (.type "zip"):=by decide +kernel
structure Txt (K:W8) (mg:Str->Option Value) (C_House:Addr):Prop where
 k_House:ClsD K "House" C_House
 g_House:mg "House" = some (.ref C_House)
 na_House_acts:J3 K C_House "acts"
 na_House_files:J3 K C_House "files"
 na_House_own_number:J3 K C_House "own_number"
 na_House_told:J3 K C_House "told"
 n_all:mg "all" = none
 n_any:mg "any" = none
 n_bool:mg "bool" = none
 n_dict:mg "dict" = none
 n_int:mg "int" = none
 n_isinstance:mg "isinstance" = none
 n_len:mg "len" = none
 n_max:mg "max" = none
 n_range:mg "range" = none
 n_set:mg "set" = none
 n_sorted:mg "sorted" = none
 n_str:mg "str" = none
 n_tuple:mg "tuple" = none
 n_zip:mg "zip" = none
abbrev Jh:MS:=(Ye (Ut "House" "own_number" (Z5 1) (Z5 0)) (Ye (Ut "House" "acts" (Zd (D.int (0))) (Z5 0)) (Ye (Ut "House" "files" KQ (Z5 0)) (Ut "House" "told" KQ (Z5 0)))))
def Yi:List D->Sto->Option (D×Sto):=J4 2 2 Jh
def YG:MS:=(YQ (Sr CC (mOp gIx (Z5 3) (Zd (D.int (1)))) (KU (Z5 2) (mOp gIx (Z5 3) (Zd (D.int (0)))) (mOp gIx (Z5 3) (Zd (D.int (1)))))) (Z5 2) (mOp gIx (Z5 3) (Zd (D.int (0)))))
abbrev UZ:MS:=(Ye (YB (BT (Z5 0)) (gN 2)) (Ye (Fo (Qa (Z5 1)) (gN 3) YG) (Qp (JZ (BQ (Z5 2))))))
def ZU:List D->Sto->Option (D×Sto):=J4 4 2 UZ
def Ud:M D:=(Rz (mOp gEq (mOp gIx (Z5 0) (Zd (D.int (0)))) (mOp gIx (Z5 1) (Zd (D.int (0))))) (mOp gGe (mOp gIx (Z5 0) (Zd (D.int (1)))) (mOp gIx (Z5 1) (Zd (D.int (1))))))
abbrev NZ:MS:=(Qp (IG (YA (Qa (Z5 1)) 1 [0] (gN 0) Qf Ud)))
def Yr:List D->Sto->Option (D×Sto):=J4 2 2 NZ
def YF:M Bool:=(mOr (mT (mOp gIn (Z5 0) (Z5 1))) (BR (G4 (Zm Yr (Z3 (mOp gIx (Z5 0) (Zd (D.int (0)))) (Z3 (Z5 2) ZR))))))
def YE:M D:=(Z5 0)
abbrev UY:MS:=(Qp (QT (YA (Qa (Z5 0)) 1 [1,2] (gN 0) YF YE)))
def Zz:List D->Sto->Option (D×Sto):=J4 3 3 UY
abbrev UX:MS:=(Ye (YB (Zm Zz (Z3 (Z5 0) (Z3 (Z5 2) (Z3 (Z5 3) ZR)))) (gN 4)) (Ye (YB (Zm Zz (Z3 (Z5 2) (Z3 (Z5 0) (Z3 (Z5 1) ZR)))) (gN 5)) (Qp (JZ (Ty (mOp JD (Z5 4) (Z5 5)))))))
def Zy:List D->Sto->Option (D×Sto):=J4 6 4 UX
abbrev G5:MS:=(Ye (YB (Zm Zy (Z3 (mOp gIx (Z5 0) (Zd (D.int (3)))) (Z3 (mOp gIx (Z5 0) (Zd (D.int (2)))) (Z3 (mOp gIx (Z5 1) (Zd (D.int (3)))) (Z3 (mOp gIx (Z5 1) (Zd (D.int (2)))) ZR))))) (gN 2)) (Ye (YB (Zm Zy (Z3 (mOp gIx (Z5 0) (Zd (D.int (4)))) (Z3 (mOp gIx (Z5 0) (Zd (D.int (2)))) (Z3 (mOp gIx (Z5 1) (Zd (D.int (4)))) (Z3 (mOp gIx (Z5 1) (Zd (D.int (2)))) ZR))))) (gN 3)) (Qp (M3 (Z3 (mOp gIx (Z5 0) (Zd (D.int (0)))) (Z3 (mOp gIx (Z5 0) (Zd (D.int (1)))) (Z3 (Zm ZU (Z3 (mOp gIx (Z5 0) (Zd (D.int (2)))) (Z3 (mOp gIx (Z5 1) (Zd (D.int (2)))) ZR))) (Z3 (Z5 2) (Z3 (Z5 3) ZR)))))))))
def ZE:List D->Sto->Option (D×Sto):=J4 4 2 G5
abbrev BM:MS:=(Ye (YB (PL (MX "House" "files" (Z5 0)) (mOp gIx (Z5 1) (Zd (D.int (0))))) (gN 2)) (Ye (YB (mIf (mT (mOp gIs (Z5 2) (Zd D.non))) (Z5 1) (Zm ZE (Z3 (Z5 2) (Z3 (Z5 1) ZR)))) (gN 3)) (Ye (YQ (Z5 3) (MX "House" "files" (Z5 0)) (mOp gIx (Z5 1) (Zd (D.int (0))))) (Qp (mOp gNe (Z5 3) (Z5 2))))))
def ZQ:List D->Sto->Option (D×Sto):=J4 4 2 BM
abbrev Ak:MS:=(Ye (JN (mT (mOp gLt (Z5 1) (Rm (Z5 0)))) (Qp (mOp gIx (Z5 0) (Z5 1))) mNx) (Qp (Zd (D.int (0)))))
def Yd:List D->Sto->Option (D×Sto):=J4 2 2 Ak
abbrev Sq:MS:=(Qp (mOp Fp (mOp Fp (mOp Nd (Z5 0) (Zd (D.int (48271)))) (Z5 1)) (Z5 2)))
def Zu:List D->Sto->Option (D×Sto):=J4 3 3 Sq
def UB:M D:=(mOp gIx (Z5 2) (Zm Zu (Z3 (mOp JD (Z5 1) (mOp Nd (Zd (D.int (7))) (Z5 0))) (Z3 (Zd (D.int (9967))) (Z3 (Rm (Z5 2)) ZR)))))
abbrev Ah:MS:=(Ye (YB (Zd (D.str (Wx "abcdefghijklmnopqrstuvwxyz"))) (gN 1)) (Ye (YB (mOp JD (Zd (D.int (1))) (Zm Zu (Z3 (Z5 0) (Z3 (Zd (D.int (9973))) (Z3 (Zd (D.int (6))) ZR))))) (gN 2)) (Ye (JN (mT (mOp gEq (mOp Fp (Z5 0) (Zd (D.int (3)))) (Zd (D.int (0))))) (Ye (YB (Zd (D.str (Wx "ab"))) (gN 1)) (YB (mOp JD (Zd (D.int (1))) (mOp Fp (Z5 2) (Zd (D.int (2))))) (gN 2))) mNx) (Qp (M4 (Zd (D.str (Wx ""))) (YA (G6 (Z5 2)) 1 [0,1] (gN 0) Qf UB))))))
def YV:List D->Sto->Option (D×Sto):=J4 3 1 Ah
abbrev Q9 (Fr:List D->Sto->Option (D×Sto)):MS:=(Ye (JN (G4 (Fn "tuple" (Z5 1))) (Ye (JN (mOr (BR (G4 (Fn "tuple" (Z5 0)))) (mT (mOp gNe (Rm (Z5 0)) (Rm (Z5 1))))) (Qp (Zd (D.bl false))) mNx) (Qp (IH (YA (O7 (Z5 0) (Z5 1)) 2 [] (gT 2 (YJ (gN 0) (YJ (gN 1) G9))) Qf (Zm Fr (Z3 (Z5 0) (Z3 (Z5 1) ZR))))))) mNx) (Ye (JN (mT (mOp gIs (Z5 1) (Zd D.non))) (Qp (mOp gIs (Z5 0) (Zd D.non))) mNx) (Ye (JN (mOr (G4 (Fn "bool" (Z5 1))) (G4 (Fn "bool" (Z5 0)))) (Qp (Rz (Fn "bool" (Z5 1)) (Rz (Fn "bool" (Z5 0)) (mOp gEq (Z5 0) (Z5 1))))) mNx) (Qp (Rz (PJ "int" "str" (Z5 0)) (mOp gEq (Z5 0) (Z5 1)))))))
def ZO:Nat->List D->Sto->Option (D×Sto)
 |0=>λ_ _=>none
 |k+1=>J4 2 2 (Q9 (ZO k))
abbrev PB:MS:=(Qp (M3 (Z3 (Zm Zu (Z3 (Z5 0) (Z3 (Zd (D.int (9871))) (Z3 (Zd (D.int (6))) ZR)))) (Z3 (mOp JD (mOp JD (Zd (D.int (1))) (Zm Zu (Z3 (Z5 0) (Z3 (Zd (D.int (9859))) (Z3 (Zd (D.int (4))) ZR))))) (mOp Nd (Zd (D.int (9))) (mOp Fp (Z5 0) (Zd (D.int (2)))))) ZR))))
def Jq:List D->Sto->Option (D×Sto):=J4 1 1 PB
def Yq:MS:=(Ye (YB (Zm Zu (Z3 (mOp JD (Z5 0) (mOp Nd (Zd (D.int (31))) (Z5 3))) (Z3 (Zd (D.int (9907))) (Z3 (Zd (D.int (3))) ZR)))) (gN 4)) (Ye (JN (mT (mOp gEq (Z5 3) (mOp gIx (Z5 1) (Zd (D.int (0)))))) (YB (mOp JD (Z5 4) (mOp gIx (Z5 1) (Zd (D.int (1))))) (gN 4)) mNx) (JN (mT (mOp gGt (Z5 4) (Zd (D.int (0))))) (BS (Es (Z5 2) (M3 (Z3 (Z5 3) (Z3 (Z5 4) ZR))))) mNx)))
abbrev PC:MS:=(Ye (YB (Er ZR) (gN 2)) (Ye (Fo (G6 (Zd (D.int (6)))) (gN 3) Yq) (Qp (KP (Z5 2)))))
def Jr:List D->Sto->Option (D×Sto):=J4 5 2 PC
def Jy:M D:=(mOp gIx (Z5 2) (Zm Zu (Z3 (mOp JD (Z5 1) (mOp Nd (Zd (D.int (7))) (Z5 0))) (Z3 (Zd (D.int (9923))) (Z3 (Rm (Z5 2)) ZR)))))
abbrev Ag : MS := (Ye (YB (Zd (D.str (Wx " !\"#$&'()*+,-./0123456789:;<=>?\x40ABCDEFGHIJKLMNOPQRSTUVWXYZ[\\]^_`abcdefghijklmnopqrstuvwxyz{|}~"))) (gN 1)) (Ye (YB (Zm Zu (Z3 (Z5 0) (Z3 (Zd (D.int (9949))) (Z3 (Zd (D.int (5))) ZR)))) (gN 2)) (Ye (JN (mT (mOp gEq (Zm Zu (Z3 (Z5 0) (Z3 (Zd (D.int (9941))) (Z3 (Zd (D.int (9))) ZR)))) (Zd (D.int (0))))) (YB (Zd (D.int (60))) (gN 2)) mNx) (Ye (JN (mT (mOp gEq (Zm Zu (Z3 (Z5 0) (Z3 (Zd (D.int (9941))) (Z3 (Zd (D.int (9))) ZR)))) (Zd (D.int (1))))) (YB (Zm Zu (Z3 (Z5 0) (Z3 (Zd (D.int (9931))) (Z3 (Zd (D.int (61))) ZR)))) (gN 2)) mNx) (Ye (JN (mT (mOp gEq (mOp Fp (Z5 0) (Zd (D.int (4)))) (Zd (D.int (0))))) (Qp (mOp gIx (M3 (Z3 (Zd (D.str (Wx ""))) (Z3 (Zd (D.str (Wx "a"))) (Z3 (Zd (D.str (Wx "hi;"))) ZR)))) (Zm Zu (Z3 (Z5 0) (Z3 (Zd (D.int (9929))) (Z3 (Zd (D.int (3))) ZR)))))) mNx) (Qp (M4 (Zd (D.str (Wx ""))) (YA (G6 (Z5 2)) 1 [0, 1] (gN 0) Qf Jy))))))))
def Yn:List D->Sto->Option (D×Sto):=J4 3 1 Ag
def Ya:MS:=(Ye (YB (mOp gIx (Z5 1) (Zm Zu (Z3 (mOp JD (Z5 0) (mOp Nd (Zd (D.int (7))) (Z5 5))) (Z3 (Zd (D.int (9887))) (Z3 (Rm (Z5 1)) ZR))))) (gT 2 (YJ (gN 6) (YJ (gN 7) G9)))) (Ye (YB (M3 (Z3 (Z5 6) (Z3 (mOp JD (Zd (D.int (1))) (Zm Zu (Z3 (mOp JD (Z5 0) (mOp Nd (Zd (D.int (11))) (Z5 5))) (Z3 (Zd (D.int (9883))) (Z3 (Z5 7) ZR))))) ZR))) (gN 8)) (Ye (YB (mOp JD (mOp JD (Z5 3) (mOp Nd (Zd (D.int (97))) (mOp gIx (Z5 8) (Zd (D.int (0)))))) (mOp Nd (Zd (D.int (13))) (mOp gIx (Z5 8) (Zd (D.int (1)))))) (gN 9)) (Ye (YQ (Zm YV (Z3 (Z5 9) ZR)) (Z5 4) (Z5 8)) (JN (mT (mOp gEq (Z5 2) (Zd (D.int (1))))) (YQ (Zm Yn (Z3 (Z5 9) ZR)) (Z5 4) (Z5 8)) mNx)))))
def Jn:M D:=(M3 (Z3 (Z5 0) (Z3 (mOp gIx (Z5 1) (Z5 0)) ZR)))
abbrev KO:MS:=(Ye (YB KQ (gN 4)) (Ye (Fo (G6 (Zm Zu (Z3 (Z5 0) (Z3 (Zd (D.int (9901))) (Z3 (Zd (D.int (4))) ZR))))) (gN 5) Ya) (Qp (JZ (YA (Qa (QT (BP (Z5 4)))) 1 [4] (gN 0) Qf Jn)))))
def Qd:List D->Sto->Option (D×Sto):=J4 10 4 KO
abbrev Aj:MS:=(Ye (YB (Zm Jr (Z3 (Z5 0) (Z3 (Z5 1) ZR))) (gN 4)) (Qp (M3 (Z3 (Z5 1) (Z3 (Z5 2) (Z3 (Z5 4) (Z3 (Zm Qd (Z3 (mOp JD (Z5 0) (Zd (D.int (1)))) (Z3 (Z5 4) (Z3 (Zd (D.int (0))) (Z3 (Z5 3) ZR))))) (Z3 (Zm Qd (Z3 (mOp JD (Z5 0) (Zd (D.int (2)))) (Z3 (Z5 4) (Z3 (Zd (D.int (1))) (Z3 (mOp JD (Z5 3) (Zd (D.int (5)))) ZR))))) ZR))))))))
def Qx:List D->Sto->Option (D×Sto):=J4 5 4 Aj
def Tb:M D:=(Rz (mOp gEq (Z5 0) (mOp gIx (Z5 2) (Zd (D.int (0))))) (mOp gGe (Z5 1) (mOp gIx (Z5 2) (Zd (D.int (1))))))
abbrev O6:MS:=(Qp (IG (YA (Qa (Z5 1)) 2 [0] (gT 2 (YJ (gN 0) (YJ (gN 1) G9))) Qf Tb)))
def UT:List D->Sto->Option (D×Sto):=J4 2 2 O6
def UJ:M Bool:=(mT (mOp gIn (Z5 0) (Z5 1)))
def UE:M D:=(Z5 0)
def UI:M Bool:=(BR (G4 (Zm UT (Z3 (mOp gIx (Z5 0) (Zd (D.int (0)))) (Z3 (Z5 1) ZR)))))
def UD:M D:=(Z5 0)
def UH:M Bool:=(BR (G4 (Zm UT (Z3 (mOp gIx (Z5 0) (Zd (D.int (0)))) (Z3 (Z5 1) ZR)))))
def UC:M D:=(Z5 0)
abbrev Ai:MS:=(Ye (YB (QT (YA (Qa (Z5 0)) 1 [2] (gN 0) UJ UE)) (gN 4)) (Ye (YB (mOp JD (Z5 4) (QT (YA (Qa (Z5 0)) 1 [3] (gN 0) UI UD))) (gN 4)) (Ye (YB (mOp JD (Z5 4) (QT (YA (Qa (Z5 2)) 1 [1] (gN 0) UH UC))) (gN 4)) (Qp (JZ (BP (Z5 4)))))))
def Qw:List D->Sto->Option (D×Sto):=J4 5 4 Ai
def QZ:M Bool:=(mT (mOp gEq (Z5 0) (Z5 2)))
def QW:M D:=(Z5 1)
def Qj:MS:=(Ye (YB (PH (QT (YA (Qa (mOp JD (mOp gIx (Z5 0) (Zd (D.int (2)))) (mOp gIx (Z5 1) (Zd (D.int (2)))))) 2 [3] (gT 2 (YJ (gN 0) (YJ (gN 1) G9))) QZ QW)) (Zd (D.int (0)))) (gN 4)) (JN (mT (mOp gGt (Z5 4) (Zd (D.int (0))))) (BS (Es (Z5 2) (M3 (Z3 (Z5 3) (Z3 (Z5 4) ZR))))) mNx))
abbrev PD:MS:=(Ye (YB (Er ZR) (gN 2)) (Ye (Fo (G6 (Zd (D.int (6)))) (gN 3) Qj) (Ye (YB (Zm Qw (Z3 (mOp gIx (Z5 0) (Zd (D.int (3)))) (Z3 (mOp gIx (Z5 0) (Zd (D.int (2)))) (Z3 (mOp gIx (Z5 1) (Zd (D.int (3)))) (Z3 (mOp gIx (Z5 1) (Zd (D.int (2)))) ZR))))) (gN 5)) (Qp (M3 (Z3 (mOp gIx (Z5 0) (Zd (D.int (0)))) (Z3 (mOp gIx (Z5 0) (Zd (D.int (1)))) (Z3 (KP (Z5 2)) (Z3 (Z5 5) (Z3 (Zm Qw (Z3 (mOp gIx (Z5 0) (Zd (D.int (4)))) (Z3 (mOp gIx (Z5 0) (Zd (D.int (2)))) (Z3 (mOp gIx (Z5 1) (Zd (D.int (4)))) (Z3 (mOp gIx (Z5 1) (Zd (D.int (2)))) ZR))))) ZR))))))))))
def Ql:List D->Sto->Option (D×Sto):=J4 6 2 PD
abbrev B2:MS:=(Qp (MX "House" "acts" (Z5 0)))
def YI:List D->Sto->Option (D×Sto):=J4 1 1 B2
abbrev BO:MS:=(Ye (JN (mT (mOp U6 (Z5 1) (MX "House" "files" (Z5 0)))) O8 mNx) (Qp (mOp gIx (MX "House" "files" (Z5 0)) (Z5 1))))
def Q4:List D->Sto->Option (D×Sto):=J4 2 2 BO
abbrev Pz:MS:=(Qp (mOp gEq (Rm (mOp gIx (Z5 0) (Zd (D.int (4))))) (Zd (D.int (0)))))
def Qk:List D->Sto->Option (D×Sto):=J4 1 1 Pz
def Yp:M D:=(mOp gIx (MX "House" "files" (Z5 1)) (Z5 0))
abbrev Us:MS:=(Qp (QT (YA (Qa (QT (BP (MX "House" "files" (Z5 0))))) 1 [0] (gN 0) Qf Yp)))
def Zl:List D->Sto->Option (D×Sto):=J4 1 1 Us
def Y5:M Bool:=(BR (G4 (Zm Qk (Z3 (Z5 0) ZR))))
def Y4:M D:=(Z5 0)
abbrev J5:MS:=(Qp (QT (YA (Qa (Ji "House" "all_files" Zl (Z5 0) ZR)) 1 [] (gN 0) Y5 Y4)))
def ZB:List D->Sto->Option (D×Sto):=J4 1 1 J5
def QX:M D:=(mOp gIx (Z5 0) (Zd (D.int (0))))
abbrev M0:MS:=(Qp (JZ (YA (Qa (Ji "House" "files_on_shelf" ZB (Z5 0) ZR)) 1 [] (gN 0) Qf QX)))
def Qm:List D->Sto->Option (D×Sto):=J4 1 1 M0
def QI:M Bool:=(G4 (Zm Qk (Z3 (Z5 0) ZR)))
def QF:M D:=(mOp gIx (Z5 0) (Zd (D.int (0))))
abbrev BN:MS:=(Qp (JZ (YA (Qa (Ji "House" "all_files" Zl (Z5 0) ZR)) 1 [] (gN 0) QI QF)))
def Q3:List D->Sto->Option (D×Sto):=J4 1 1 BN
def Qh:M D:=(M3 (Z3 (mOp gIx (Z5 0) (Zd (D.int (0)))) (Z3 (mOp gIx (Z5 0) (Zd (D.int (2)))) ZR)))
abbrev B1:MS:=(Qp (JZ (YA (Qa (Ji "House" "all_files" Zl (Z5 0) ZR)) 1 [] (gN 0) Qf Qh)))
def YH:List D->Sto->Option (D×Sto):=J4 1 1 B1
def YU:MS:=(JN (BR (G4 (Zm (ZO 12) (Z3 (Ji "House" "file" Q4 (Z5 0) (Z3 (Z5 3) ZR)) (Z3 (mOp gIx (Z5 1) (Z5 3)) ZR))))) (Qp (Zd (D.bl false))) mNx)
def QH:M Bool:=(G4 (mOp gIx (mOp gIx (Z5 1) (Z5 0)) (Zd (D.int (4)))))
def QE:M D:=(Z5 0)
def QG:M Bool:=(BR (G4 (mOp gIx (mOp gIx (Z5 1) (Z5 0)) (Zd (D.int (4))))))
def QD:M D:=(Z5 0)
def QC:M D:=(M3 (Z3 (Z5 0) (Z3 (mOp gIx (mOp gIx (Z5 1) (Z5 0)) (Zd (D.int (2)))) ZR)))
abbrev BL:MS:=(Ye (YB (QT (BP (Z5 1))) (gN 2)) (Ye (Fo (Qa (Z5 2)) (gN 3) YU) (Ye (JN (BR (G4 (Zm (ZO 12) (Z3 (Ji "House" "ids" Qm (Z5 0) ZR) (Z3 (JZ (YA (Qa (Z5 2)) 1 [1] (gN 0) QH QE)) ZR))))) (Qp (Zd (D.bl false))) mNx) (Ye (JN (BR (G4 (Zm (ZO 12) (Z3 (Ji "House" "gone" Q3 (Z5 0) ZR) (Z3 (JZ (YA (Qa (Z5 2)) 1 [1] (gN 0) QG QD)) ZR))))) (Qp (Zd (D.bl false))) mNx) (Ye (YB (JZ (YA (Qa (Z5 2)) 1 [1] (gN 0) Qf QC)) (gN 4)) (Qp (Rz (Zm (ZO 12) (Z3 (Ji "House" "heard" YH (Z5 0) ZR) (Z3 (Z5 4) ZR))) (mOp gEq (Ji "House" "count" YI (Z5 0) ZR) (Zd (D.int (0)))))))))))
def Yh:List D->Sto->Option (D×Sto):=J4 5 2 BL
def UL:MS:=(Ye (YB (mOp JD (Zm Yd (Z3 (Z5 0) (Z3 (mOp Fp (Z5 5) (Zd (D.int (5)))) ZR))) (mOp Nd (Zd (D.int (41))) (Z5 5))) (gN 6)) (Ye (YB (Zm Zu (Z3 (Z5 6) (Z3 (Zd (D.int (9803))) (Z3 (Zd (D.int (3))) ZR)))) (gN 7)) (Ye (YB (Zm Jq (Z3 (mOp gIx (Z5 2) (Z5 7)) ZR)) (gN 8)) (Ye (JN (mT (mOp gIn (Z5 8) (Z5 3))) (YB (Zm Qx (Z3 (Z5 6) (Z3 (Z5 8) (Z3 (mOp gIx (mOp gIx (Z5 3) (Z5 8)) (Zd (D.int (1)))) (Z3 (mOp gIx (Z5 2) (Z5 7)) ZR))))) (gN 9)) (YB (Zm Qx (Z3 (Z5 6) (Z3 (Z5 8) (Z3 (Zm YV (Z3 (mOp gIx (Z5 2) (Z5 7)) ZR)) (Z3 (mOp gIx (Z5 2) (Z5 7)) ZR))))) (gN 9))) (Ye (JN (mT (mOp gEq (Z5 5) (Zd (D.int (4))))) (YB (mOp gIx (Z5 4) (Zd (D.int (1)))) (gN 9)) mNx) (Ye (BS (Es (Z5 4) (Z5 9))) (Ye (YB (Z5 9) (gN 10)) (Ye (JN (mT (mOp gIn (mOp gIx (Z5 9) (Zd (D.int (0)))) (Z5 3))) (YB (Zm Ql (Z3 (mOp gIx (Z5 3) (mOp gIx (Z5 9) (Zd (D.int (0))))) (Z3 (Z5 9) ZR))) (gN 10)) mNx) (Ye (YB (vOr (mOp U6 (mOp gIx (Z5 9) (Zd (D.int (0)))) (Z5 3)) (mOp gNe (Z5 10) (mOp gIx (Z5 3) (mOp gIx (Z5 9) (Zd (D.int (0))))))) (gN 11)) (Ye (JN (BR (G4 (Zm (ZO 12) (Z3 (Ji "House" "take" ZQ (Z5 1) (Z3 (Z5 9) ZR)) (Z3 (Z5 11) ZR))))) (Qp (Zd (D.bl false))) mNx) (Ye (YQ (Z5 10) (Z5 3) (mOp gIx (Z5 9) (Zd (D.int (0))))) (JN (BR (G4 (Zm Yh (Z3 (Z5 1) (Z3 (Z5 3) ZR))))) (Qp (Zd (D.bl false))) mNx))))))))))))
def Mf:M D:=(mOp gIs (Ji "House" "take" ZQ (Z5 1) (Z3 (Z5 0) ZR)) (Zd (D.bl false)))
abbrev Sn:MS:=(Ye (YB (KR "House" Yi (Z3 (Zm Zu (Z3 (Zm Yd (Z3 (Z5 0) (Z3 (Zd (D.int (0))) ZR))) (Z3 (Zd (D.int (9811))) (Z3 (Zd (D.int (6))) ZR)))) ZR)) (gN 1)) (Ye (YB (Er (Z3 (Zm Yd (Z3 (Z5 0) (Z3 (Zd (D.int (1))) ZR))) (Z3 (Zm Yd (Z3 (Z5 0) (Z3 (Zd (D.int (2))) ZR))) (Z3 (Zm Yd (Z3 (Z5 0) (Z3 (Zd (D.int (3))) ZR))) ZR)))) (gN 2)) (Ye (YB KQ (gN 3)) (Ye (YB (Er ZR) (gN 4)) (Ye (Fo (G6 (Zd (D.int (6)))) (gN 5) UL) (Qp (Rz (IH (YA (Qa (Z5 4)) 1 [1] (gN 0) Qf Mf)) (Zm Yh (Z3 (Z5 1) (Z3 (Z5 3) ZR))))))))))
def F_law:List D->Sto->Option (D×Sto):=J4 12 1 Sn
section
variable {P:Program} {w:World} {K:W8} {mg:Str->Option Value} {base:Heap} {C_House:Addr}
theorem Z2m:FnScope ["self", "number"] ["self", "number"] (Z2 Y7):=⟨rfl,rfl,rfl,nd0,rfl,by decide +kernel,by decide +kernel⟩
theorem Z2z {f_7:Addr}{fd_7:FuncData}(T:Txt K mg C_House)(O_7:OwnI K C_House "House.__init__" Y7 f_7 fd_7 ["self", "number"]):FnOk P w K mg base CX0 1 f_7 fd_7 ["self", "number"] (spD K 2 Yi):=
 U8 (k:=0) O_7.fn Z2m rfl rfl λcdv A outer s H E hr=>(Z6 (Mx T.k_House T.na_House_own_number (sv 0) (sv 1))
   (Z6 (Mx T.k_House T.na_House_acts (sv 0) Z4)
   (Z6 (Mx T.k_House T.na_House_files (sv 0) GL)
   (Ze (Mx T.k_House T.na_House_told (sv 0) GL)))))
theorem Z0o:FnScope ["known", "other", "counts", "mark"] ["known", "other"] (Z2 Zx):=⟨rfl,rfl,rfl,nd1,rfl,by decide +kernel,by decide +kernel⟩
theorem Z0T {f_22:Addr}{fd_22:FuncData}(T:Txt K mg C_House)(O_22:Own K mg "greater_counts" Zx f_22 fd_22 ["known", "other"]):FnOk P w K mg base CX0 1 f_22 fd_22 ["known", "other"] (spD K 2 ZU):=
 U8 (k:=0) O_22.fn Z0o rfl rfl λcdv A outer s H E hr=>(Z6 (Zp (i:=2) nd1 rfl (Or.inl rfl) (FS rfl (sv 0) rfl T.n_dict Rc))
   (Z6 (Gi W0V rfl (QR (sv 1)) (Zq (i:=3) nd1 rfl (Or.inl rfl)) Zn (Ze (QJ (ZF hr) (HG rfl (Zh (ZF hr) (sv 3) Z4) (HL (ZF hr) (sv 2) (Zh (ZF hr) (sv 3) Z4) (Zh (ZF hr) (sv 3) Z4)) rfl T.n_max Np) (sv 2) (Zh (ZF hr) (sv 3) Z4))))
   (Ze (Zs (Qz (FK rfl (IK hr) (sv 2) rfl T.n_sorted Yt) rfl T.n_tuple Zt)))))
theorem Z0m:FnScope ["mark", "known"] ["mark", "known"] (Z2 Yb):=⟨rfl,rfl,rfl,nd2,rfl,by decide +kernel,by decide +kernel⟩
theorem Z0R {f_24:Addr}{fd_24:FuncData}(T:Txt K mg C_House)(O_24:Own K mg "is_within" Yb f_24 fd_24 ["mark", "known"]):FnOk P w K mg base CX0 1 f_24 fd_24 ["mark", "known"] (spD K 2 Yr):=
 U8 (k:=0) O_24.fn Z0m rfl rfl λcdv A outer s H E hr=>(Ze (Zs (Eb rfl (Um (tgs:=["heard"]) (cn:=["mark"]) (caps:=[0]) rfl ⟨by decide +kernel,rfl,by decide +kernel,Y3 (Z2 Yb).names rfl (by decide +kernel),⟨⟨rfl,.inl rfl,rfl⟩,trivial⟩⟩ (QR (sv 1)) (Zj (by decide)) Zn (λ_ _ _ _=>(Zq (i:=0) nd3 rfl (Or.inl rfl))) (λ_ _ _ _=>Jd) (λ_ _ _ _=>(Tp (QK (Qu (ZF hr)) (Zh (ZF hr) (sv 0) Z4) (Zh (ZF hr) (sv 1) Z4) (Y9 _)) (Tk (QK Em (Zh (ZF hr) (sv 0) Z4) (Zh (ZF hr) (sv 1) Z4) (Y9 _)))))) rfl T.n_any Nq)))
theorem Z0k:FnScope ["pairs", "other_pairs", "other_known"] ["pairs", "other_pairs", "other_known"] (Z2 Zo):=⟨rfl,rfl,rfl,nd4,rfl,by decide +kernel,by decide +kernel⟩
theorem Z0P {f_26:Addr}{fd_26:FuncData}(T:Txt K mg C_House)(O_26:Own K mg "not_taken_away" Zo f_26 fd_26 ["pairs", "other_pairs", "other_known"]){f_24:Addr}{fd_24:FuncData}(O_24:Own K mg "is_within" Yb f_24 fd_24 ["mark", "known"])(G_24:FnOk P w K mg base CX0 1 f_24 fd_24 ["mark", "known"] (spD K 2 Yr)):FnOk P w K mg base CX0 2 f_26 fd_26 ["pairs", "other_pairs", "other_known"] (spD K 3 Zz):=
 U8 (k:=1) O_26.fn Z0k rfl rfl λcdv A outer s H E hr=>(Ze (Zs (Uq (tgs:=["pair"]) (cn:=["other_pairs", "other_known"]) (caps:=[1,2]) rfl ⟨by decide +kernel,rfl,by decide +kernel,Y3 (Z2 Zo).names rfl (by decide +kernel),⟨⟨rfl,.inl rfl,rfl⟩,⟨⟨rfl,.inl rfl,rfl⟩,trivial⟩⟩⟩ (QR (sv 0)) (Zj (by decide)) Zn (λ_ _ _ _=>(Zq (i:=0) nd5 rfl (Or.inl rfl))) (λ_ _ _ _=>JS (Z0e (HA (Yu (MQ (ZF hr)) (sv 0) (sv 1) (by with_unfolding_all rfl)) (RI (Ja (Y0 (Za G_24 (hr.mono (by omega)) rfl O_24.mgf O_24.fn.kp O_24.b (Z0 (Zh (ZF hr) (sv 0) Z4) (Z0 (sv 2) Z9)) (Z1 (Z1 Z8))))))))) (λ_ _ _ _=>(sv 0)))))
theorem Z0j:FnScope ["pairs", "known", "other_pairs", "other_known", "mine", "others"] ["pairs", "known", "other_pairs", "other_known"] (Z2 Zw):=⟨rfl,rfl,rfl,nd6,rfl,by decide +kernel,by decide +kernel⟩
theorem Z0O {f_27:Addr}{fd_27:FuncData}(T:Txt K mg C_House)(O_27:Own K mg "pairs_together" Zw f_27 fd_27 ["pairs", "known", "other_pairs", "other_known"]){f_26:Addr}{fd_26:FuncData}(O_26:Own K mg "not_taken_away" Zo f_26 fd_26 ["pairs", "other_pairs", "other_known"])(G_26:FnOk P w K mg base CX0 2 f_26 fd_26 ["pairs", "other_pairs", "other_known"] (spD K 3 Zz)):FnOk P w K mg base CX0 3 f_27 fd_27 ["pairs", "known", "other_pairs", "other_known"] (spD K 4 Zy):=
 U8 (k:=2) O_27.fn Z0j rfl rfl λcdv A outer s H E hr=>(Z6 (Zp (i:=4) nd6 rfl (Or.inl rfl) (Za G_26 (hr.mono (by omega)) rfl O_26.mgf O_26.fn.kp O_26.b (Z0 (sv 0) (Z0 (sv 2) (Z0 (sv 3) Z9))) (Z1 (Z1 (Z1 Z8)))))
   (Z6 (Zp (i:=5) nd6 rfl (Or.inl rfl) (Za G_26 (hr.mono (by omega)) rfl O_26.mgf O_26.fn.kp O_26.b (Z0 (sv 2) (Z0 (sv 0) (Z0 (sv 1) Z9))) (Z1 (Z1 (Z1 Z8)))))
   (Ze (Zs (Qz (RM rfl (IK hr) (Yf ZY (sv 4) (sv 5)) rfl T.n_sorted Yt rfl T.n_set F9) rfl T.n_tuple Zt)))))
theorem Z0i:FnScope ["one", "other", "names", "texts"] ["one", "other"] (Z2 ZP):=⟨rfl,rfl,rfl,nd7,rfl,by decide +kernel,by decide +kernel⟩
theorem Z0N {f_28:Addr}{fd_28:FuncData}(T:Txt K mg C_House)(O_28:Own K mg "put_together" ZP f_28 fd_28 ["one", "other"]){f_22:Addr}{fd_22:FuncData}(O_22:Own K mg "greater_counts" Zx f_22 fd_22 ["known", "other"])(G_22:FnOk P w K mg base CX0 1 f_22 fd_22 ["known", "other"] (spD K 2 ZU)){f_27:Addr}{fd_27:FuncData}(O_27:Own K mg "pairs_together" Zw f_27 fd_27 ["pairs", "known", "other_pairs", "other_known"])(G_27:FnOk P w K mg base CX0 3 f_27 fd_27 ["pairs", "known", "other_pairs", "other_known"] (spD K 4 Zy)):FnOk P w K mg base CX0 4 f_28 fd_28 ["one", "other"] (spD K 2 ZE):=
 U8 (k:=3) O_28.fn Z0i rfl rfl λcdv A outer s H E hr=>(Z6 (Zp (i:=2) nd7 rfl (Or.inl rfl) (Za G_27 (hr.mono (by omega)) rfl O_27.mgf O_27.fn.kp O_27.b (Z0 (Zh (ZF hr) (sv 0) Z4) (Z0 (Zh (ZF hr) (sv 0) Z4) (Z0 (Zh (ZF hr) (sv 1) Z4) (Z0 (Zh (ZF hr) (sv 1) Z4) Z9)))) (Z1 (Z1 (Z1 (Z1 Z8))))))
   (Z6 (Zp (i:=3) nd7 rfl (Or.inl rfl) (Za G_27 (hr.mono (by omega)) rfl O_27.mgf O_27.fn.kp O_27.b (Z0 (Zh (ZF hr) (sv 0) Z4) (Z0 (Zh (ZF hr) (sv 0) Z4) (Z0 (Zh (ZF hr) (sv 1) Z4) (Z0 (Zh (ZF hr) (sv 1) Z4) Z9)))) (Z1 (Z1 (Z1 (Z1 Z8))))))
   (Ze (Zs (Je (Z0 (Zh (ZF hr) (sv 0) Z4) (Z0 (Zh (ZF hr) (sv 0) Z4) (Z0 (Za G_22 (hr.mono (by omega)) rfl O_22.mgf O_22.fn.kp O_22.b (Z0 (Zh (ZF hr) (sv 0) Z4) (Z0 (Zh (ZF hr) (sv 1) Z4) Z9)) (Z1 (Z1 Z8))) (Z0 (sv 2) (Z0 (sv 3) Z9))))))))))
theorem Z2l:FnScope ["self", "file", "own", "together"] ["self", "file"] (Z2 Y6):=⟨rfl,rfl,rfl,nd8,rfl,by decide +kernel,by decide +kernel⟩
theorem Z2y {f_8:Addr}{fd_8:FuncData}(T:Txt K mg C_House)(O_8:OwnM K C_House "take" "House.take" Y6 f_8 fd_8 ["self", "file"]){f_28:Addr}{fd_28:FuncData}(O_28:Own K mg "put_together" ZP f_28 fd_28 ["one", "other"])(G_28:FnOk P w K mg base CX0 4 f_28 fd_28 ["one", "other"] (spD K 2 ZE)):FnOk P w K mg base CX0 5 f_8 fd_8 ["self", "file"] (spD K 2 ZQ):=
 U8 (k:=4) O_8.fn Z2l rfl rfl λcdv A outer s H E hr=>(Z6 (Zp (i:=2) nd8 rfl (Or.inl rfl) (HM (ZF hr) (Tn T.k_House T.na_House_files (sv 0)) (Zh (ZF hr) (sv 1) Z4)))
   (Z6 (Zp (i:=3) nd8 rfl (Or.inl rfl) (Z0h (Yu MO (sv 2) RT (Y9 _)) (sv 1) (Za G_28 (hr.mono (by omega)) rfl O_28.mgf O_28.fn.kp O_28.b (Z0 (sv 2) (Z0 (sv 1) Z9)) (Z1 (Z1 Z8)))))
   (Z6 (QJ (ZF hr) (sv 3) (Tn T.k_House T.na_House_files (sv 0)) (Zh (ZF hr) (sv 1) Z4))
   (Ze (Zs (QK (Pp (ZF hr)) (sv 3) (sv 2) (Y9 _)))))))
theorem Z2k:FnScope ["_law_script", "_law_k"] ["_law_script", "_law_k"] (Z2 Qs):=⟨rfl,rfl,rfl,nd9,rfl,by decide +kernel,by decide +kernel⟩
theorem Z2x {f_9:Addr}{fd_9:FuncData}(T:Txt K mg C_House)(O_9:Own K mg "_law_cell" Qs f_9 fd_9 ["_law_script", "_law_k"]):FnOk P w K mg base CX0 1 f_9 fd_9 ["_law_script", "_law_k"] (spD K 2 Yd):=
 U8 (k:=0) O_9.fn Z2k rfl rfl λcdv A outer s H E hr=>(Z6 (Qo (Yu (DJ (ZF hr)) (sv 1) (Tl (sv 0) rfl T.n_len Qi) (Y9 _)) (Ze (Zs (Zh (ZF hr) (sv 0) (sv 1)))) Ym)
   (Ze (Zs Z4)))
theorem Z0t:FnScope ["_law_cell_here", "_law_prime", "_law_many"] ["_law_cell_here", "_law_prime", "_law_many"] (Z2 YL):=⟨rfl,rfl,rfl,Z2T,rfl,by decide +kernel,by decide +kernel⟩
theorem Z0X {f_17:Addr}{fd_17:FuncData}(T:Txt K mg C_House)(O_17:Own K mg "_law_mix" YL f_17 fd_17 ["_law_cell_here", "_law_prime", "_law_many"]):FnOk P w K mg base CX0 1 f_17 fd_17 ["_law_cell_here", "_law_prime", "_law_many"] (spD K 3 Zu):=
 U8 (k:=0) O_17.fn Z0t rfl rfl λcdv A outer s H E hr=>(Ze (Zs (Yf JL (Yf JL (Yf QA (sv 0) Z4) (sv 1)) (sv 2))))
theorem Z0s:FnScope ["_law_cell_here", "_law_letters", "_law_many"] ["_law_cell_here"] (Z2 YN):=⟨rfl,rfl,rfl,O2,rfl,by decide +kernel,by decide +kernel⟩
theorem Z0W {f_18:Addr}{fd_18:FuncData}(T:Txt K mg C_House)(O_18:Own K mg "_law_name" YN f_18 fd_18 ["_law_cell_here"]){f_17:Addr}{fd_17:FuncData}(O_17:Own K mg "_law_mix" YL f_17 fd_17 ["_law_cell_here", "_law_prime", "_law_many"])(G_17:FnOk P w K mg base CX0 1 f_17 fd_17 ["_law_cell_here", "_law_prime", "_law_many"] (spD K 3 Zu)):FnOk P w K mg base CX0 2 f_18 fd_18 ["_law_cell_here"] (spD K 1 YV):=
 U8 (k:=1) O_18.fn Z0s rfl rfl λcdv A outer s H E hr=>(Z6 (Zp (i:=1) O2 rfl (Or.inr rfl) UN)
   (Z6 (Zp (i:=2) O2 rfl (Or.inl rfl) (Yf ZY Z4 (Za G_17 (hr.mono (by omega)) rfl O_17.mgf O_17.fn.kp O_17.b (Z0 (sv 0) (Z0 Z4 (Z0 Z4 Z9))) (Z1 (Z1 (Z1 Z8))))))
   (Z6 (Qo (Yu (Qu (ZF hr)) (Yf JL (sv 0) Z4) Z4 (Y9 _)) (Z6 (Zp (i:=1) O2 rfl (Or.inr rfl) UN)
   (Ze (Zp (i:=2) O2 rfl (Or.inl rfl) (Yf ZY Z4 (Yf JL (sv 2) Z4))))) Ym)
   (Ze (Zs (MC UN (Um (tgs:=["_law_k"]) (cn:=["_law_cell_here", "_law_letters"]) (caps:=[0,1]) rfl ⟨by decide +kernel,rfl,by decide +kernel,Y3 (Z2 YN).names rfl (by decide +kernel),⟨⟨rfl,.inl rfl,rfl⟩,⟨⟨rfl,.inl rfl,rfl⟩,trivial⟩⟩⟩ (Up (sv 2) rfl T.n_range) (Zj (by decide)) Zn (λ_ _ _ _=>(Zq (i:=0) Z2S rfl (Or.inl rfl))) (λ_ _ _ _=>Jd) (λ_ _ _ _=>(Zh (ZF hr) (sv 2) (Za G_17 (hr.mono (by omega)) rfl O_17.mgf O_17.fn.kp O_17.b (Z0 (Yf ZY (sv 1) (Yf QA Z4 (sv 0))) (Z0 Z4 (Z0 (Tl (sv 2) rfl T.n_len Qi) Z9))) (Z1 (Z1 (Z1 Z8)))))))))))))
theorem Z0r:FnScope ["_law_found", "_law_due"] ["_law_found", "_law_due"] (Z2 YM):=⟨rfl,rfl,rfl,Z2R,rfl,by decide +kernel,by decide +kernel⟩
theorem DT {f_19:Addr}{fd_19:FuncData}(T:Txt K mg C_House)(O_19:Own K mg "_law_same" YM f_19 fd_19 ["_law_found", "_law_due"]):∀k:Nat,FnOk P w K mg base CX0 (k+1) f_19 fd_19 ["_law_found", "_law_due"] (spD K 2 (ZO k))
 |0=>Ie rfl
 |k+1=>by
  have Gr:=DT T O_19 k
  exact U8 O_19.fn Z0r rfl rfl λcdv A outer s H E hr=>(Z6 (Qo (Y0 (Gk (Nb _) (sv 1) rfl T.n_isinstance ZJ rfl T.n_tuple Zt)) (Z6 (Qo (Z0e (HA (Ja (Y0 (Gk (Nb _) (sv 0) rfl T.n_isinstance ZJ rfl T.n_tuple Zt))) (RI (Yu (Pp (ZF hr)) (Tl (sv 0) rfl T.n_len Qi) (Tl (sv 1) rfl T.n_len Qi) (Y9 _))))) (Ze (Zs NI)) Ym)
   (Ze (Zs (Ec rfl (Um (tgs:=["_law_one", "_law_other"]) (cn:=[]) (caps:=[]) rfl ⟨by decide +kernel,rfl,by decide +kernel,Y3 (Z2 YM).names rfl (by decide +kernel),trivial⟩ (D5 (sv 0) (sv 1) rfl T.n_zip F7) (Bi (Qc (Zj (by decide)) (Qc (Zj (by decide)) TQ Yk QN) Yk (Uz Yk QN))) (Ki (Qv Zn (Qv Zn Bh))) (λ_ _ _ _=>(MN rfl (Qt (Zq (i:=0) Z1F rfl (Or.inl rfl)) (Qt (Zq (i:=1) Z1F rfl (Or.inl rfl)) GW)))) (λ_ _ _ _=>Jd) (λ_ _ _ _=>(Za Gr (hr.mono (by omega)) rfl O_19.mgf O_19.fn.kp O_19.b (Z0 (sv 0) (Z0 (sv 1) Z9)) (Z1 (Z1 Z8))))) rfl T.n_all Nr)))) Ym)
   (Z6 (Qo (Yu MO (sv 1) RT (Y9 _)) (Ze (Zs (QK MO (sv 0) RT (Y9 _)))) Ym)
   (Z6 (Qo (Z0e (HA (Y0 (Gk (Ta _) (sv 1) rfl T.n_isinstance ZJ rfl T.n_bool JA)) (RI (Y0 (Gk (Ta _) (sv 0) rfl T.n_isinstance ZJ rfl T.n_bool JA))))) (Ze (Zs (Tp (Gk (Ta _) (sv 1) rfl T.n_isinstance ZJ rfl T.n_bool JA) (Tp (Gk (Ta _) (sv 0) rfl T.n_isinstance ZJ rfl T.n_bool JA) (Tk (QK (Qu (ZF hr)) (sv 0) (sv 1) (Y9 _))))))) Ym)
   (Ze (Zs (Tp (HJ (SU _) (Lo _) (sv 0) rfl T.n_isinstance ZJ rfl T.n_int Fa rfl T.n_str F8) (Tk (QK (Qu (ZF hr)) (sv 0) (sv 1) (Y9 _)))))))))
theorem Z0p:FnScope ["_law_cell_here"] ["_law_cell_here"] (Z2 YW):=⟨rfl,rfl,rfl,Z2Q,rfl,by decide +kernel,by decide +kernel⟩
theorem Z0U {f_21:Addr}{fd_21:FuncData}(T:Txt K mg C_House)(O_21:Own K mg "_law_which" YW f_21 fd_21 ["_law_cell_here"]){f_17:Addr}{fd_17:FuncData}(O_17:Own K mg "_law_mix" YL f_17 fd_17 ["_law_cell_here", "_law_prime", "_law_many"])(G_17:FnOk P w K mg base CX0 1 f_17 fd_17 ["_law_cell_here", "_law_prime", "_law_many"] (spD K 3 Zu)):FnOk P w K mg base CX0 2 f_21 fd_21 ["_law_cell_here"] (spD K 1 Jq):=
 U8 (k:=1) O_21.fn Z0p rfl rfl λcdv A outer s H E hr=>(Ze (Zs (Je (Z0 (Za G_17 (hr.mono (by omega)) rfl O_17.mgf O_17.fn.kp O_17.b (Z0 (sv 0) (Z0 Z4 (Z0 Z4 Z9))) (Z1 (Z1 (Z1 Z8)))) (Z0 (Yf ZY (Yf ZY Z4 (Za G_17 (hr.mono (by omega)) rfl O_17.mgf O_17.fn.kp O_17.b (Z0 (sv 0) (Z0 Z4 (Z0 Z4 Z9))) (Z1 (Z1 (Z1 Z8))))) (Yf QA Z4 (Yf JL (sv 0) Z4))) Z9)))))
theorem Z0v:FnScope ["_law_cell_here", "_law_which_here", "_law_found", "_law_house", "_law_many"] ["_law_cell_here", "_law_which_here"] (Z2 YX):=⟨rfl,rfl,rfl,O1,rfl,by decide +kernel,by decide +kernel⟩
theorem Z0Z {f_15:Addr}{fd_15:FuncData}(T:Txt K mg C_House)(O_15:Own K mg "_law_known" YX f_15 fd_15 ["_law_cell_here", "_law_which_here"]){f_17:Addr}{fd_17:FuncData}(O_17:Own K mg "_law_mix" YL f_17 fd_17 ["_law_cell_here", "_law_prime", "_law_many"])(G_17:FnOk P w K mg base CX0 1 f_17 fd_17 ["_law_cell_here", "_law_prime", "_law_many"] (spD K 3 Zu)):FnOk P w K mg base CX0 2 f_15 fd_15 ["_law_cell_here", "_law_which_here"] (spD K 2 Jr):=
 U8 (k:=1) O_15.fn Z0v rfl rfl λcdv A outer s H E hr=>(Z6 (Zp (i:=2) O1 rfl (Or.inl rfl) (MB Z9))
   (Z6 (Gi W0V rfl (Up Z4 rfl T.n_range) (Zq (i:=3) O1 rfl (Or.inl rfl)) Zn (Z6 (Zp (i:=4) O1 rfl (Or.inl rfl) (Za G_17 (hr.mono (by omega)) rfl O_17.mgf O_17.fn.kp O_17.b (Z0 (Yf ZY (sv 0) (Yf QA Z4 (sv 3))) (Z0 Z4 (Z0 Z4 Z9))) (Z1 (Z1 (Z1 Z8)))))
   (Z6 (Qo (Yu (Qu (ZF hr)) (sv 3) (Zh (ZF hr) (sv 1) Z4) (Y9 _)) (Ze (Zp (i:=4) O1 rfl (Or.inl rfl) (Yf ZY (sv 4) (Zh (ZF hr) (sv 1) Z4)))) Ym)
   (Ze (Qo (Yu El (sv 4) Z4 (Y9 _)) (Ze (ND (To (sv 2) (Je (Z0 (sv 3) (Z0 (sv 4) Z9)))))) Ym)))))
   (Ze (Zs (RS (sv 2) rfl T.n_tuple Zt)))))
theorem Z0q:FnScope ["_law_cell_here", "_law_signs", "_law_many"] ["_law_cell_here"] (Z2 Q8):=⟨rfl,rfl,rfl,DZ,rfl,by decide +kernel,by decide +kernel⟩
theorem Z0V {f_20:Addr}{fd_20:FuncData}(T:Txt K mg C_House)(O_20:Own K mg "_law_text" Q8 f_20 fd_20 ["_law_cell_here"]){f_17:Addr}{fd_17:FuncData}(O_17:Own K mg "_law_mix" YL f_17 fd_17 ["_law_cell_here", "_law_prime", "_law_many"])(G_17:FnOk P w K mg base CX0 1 f_17 fd_17 ["_law_cell_here", "_law_prime", "_law_many"] (spD K 3 Zu)):FnOk P w K mg base CX0 2 f_20 fd_20 ["_law_cell_here"] (spD K 1 Yn):=
 U8 (k:=1) O_20.fn Z0q rfl rfl λcdv A outer s H E hr=>(Z6 (Zp (i:=1) DZ rfl (Or.inr rfl) UN)
   (Z6 (Zp (i:=2) DZ rfl (Or.inl rfl) (Za G_17 (hr.mono (by omega)) rfl O_17.mgf O_17.fn.kp O_17.b (Z0 (sv 0) (Z0 Z4 (Z0 Z4 Z9))) (Z1 (Z1 (Z1 Z8)))))
   (Z6 (Qo (Yu (Qu (ZF hr)) (Za G_17 (hr.mono (by omega)) rfl O_17.mgf O_17.fn.kp O_17.b (Z0 (sv 0) (Z0 Z4 (Z0 Z4 Z9))) (Z1 (Z1 (Z1 Z8)))) Z4 (Y9 _)) (Ze (Zp (i:=2) DZ rfl (Or.inl rfl) Z4)) Ym)
   (Z6 (Qo (Yu (Qu (ZF hr)) (Za G_17 (hr.mono (by omega)) rfl O_17.mgf O_17.fn.kp O_17.b (Z0 (sv 0) (Z0 Z4 (Z0 Z4 Z9))) (Z1 (Z1 (Z1 Z8)))) Z4 (Y9 _)) (Ze (Zp (i:=2) DZ rfl (Or.inl rfl) (Za G_17 (hr.mono (by omega)) rfl O_17.mgf O_17.fn.kp O_17.b (Z0 (sv 0) (Z0 Z4 (Z0 Z4 Z9))) (Z1 (Z1 (Z1 Z8)))))) Ym)
   (Z6 (Qo (Yu (Qu (ZF hr)) (Yf JL (sv 0) Z4) Z4 (Y9 _)) (Ze (Zs (Zh (ZF hr) (Je (Z0 UN (Z0 UN (Z0 UN Z9)))) (Za G_17 (hr.mono (by omega)) rfl O_17.mgf O_17.fn.kp O_17.b (Z0 (sv 0) (Z0 Z4 (Z0 Z4 Z9))) (Z1 (Z1 (Z1 Z8))))))) Ym)
   (Ze (Zs (MC UN (Um (tgs:=["_law_k"]) (cn:=["_law_cell_here", "_law_signs"]) (caps:=[0,1]) rfl ⟨by decide +kernel,rfl,by decide +kernel,Y3 (Z2 Q8).names rfl (by decide +kernel),⟨⟨rfl,.inl rfl,rfl⟩,⟨⟨rfl,.inl rfl,rfl⟩,trivial⟩⟩⟩ (Up (sv 2) rfl T.n_range) (Zj (by decide)) Zn (λ_ _ _ _=>(Zq (i:=0) Z2P rfl (Or.inl rfl))) (λ_ _ _ _=>Jd) (λ_ _ _ _=>(Zh (ZF hr) (sv 2) (Za G_17 (hr.mono (by omega)) rfl O_17.mgf O_17.fn.kp O_17.b (Z0 (Yf ZY (sv 1) (Yf QA Z4 (sv 0))) (Z0 Z4 (Z0 (Tl (sv 2) rfl T.n_len Qi) Z9))) (Z1 (Z1 (Z1 Z8)))))))))))))))
theorem Z0u:FnScope ["_law_cell_here", "_law_known_here", "_law_kind", "_law_seed", "_law_found", "_law_k", "_law_house", "_law_most", "_law_mark", "_law_words"] ["_law_cell_here", "_law_known_here", "_law_kind", "_law_seed"] (Z2 Yj):=⟨rfl,rfl,rfl,Si,rfl,by decide +kernel,by decide +kernel⟩
theorem Z0Y {f_16:Addr}{fd_16:FuncData}(T:Txt K mg C_House)(O_16:Own K mg "_law_marked" Yj f_16 fd_16 ["_law_cell_here", "_law_known_here", "_law_kind", "_law_seed"]){f_17:Addr}{fd_17:FuncData}(O_17:Own K mg "_law_mix" YL f_17 fd_17 ["_law_cell_here", "_law_prime", "_law_many"])(G_17:FnOk P w K mg base CX0 1 f_17 fd_17 ["_law_cell_here", "_law_prime", "_law_many"] (spD K 3 Zu)){f_18:Addr}{fd_18:FuncData}(O_18:Own K mg "_law_name" YN f_18 fd_18 ["_law_cell_here"])(G_18:FnOk P w K mg base CX0 2 f_18 fd_18 ["_law_cell_here"] (spD K 1 YV)){f_20:Addr}{fd_20:FuncData}(O_20:Own K mg "_law_text" Q8 f_20 fd_20 ["_law_cell_here"])(G_20:FnOk P w K mg base CX0 2 f_20 fd_20 ["_law_cell_here"] (spD K 1 Yn)):FnOk P w K mg base CX0 3 f_16 fd_16 ["_law_cell_here", "_law_known_here", "_law_kind", "_law_seed"] (spD K 4 Qd):=
 U8 (k:=2) O_16.fn Z0u rfl rfl λcdv A outer s H E hr=>(Z6 (Zp (i:=4) Si rfl (Or.inr rfl) GL)
   (Z6 (Gi W0V rfl (Up (Za G_17 (hr.mono (by omega)) rfl O_17.mgf O_17.fn.kp O_17.b (Z0 (sv 0) (Z0 Z4 (Z0 Z4 Z9))) (Z1 (Z1 (Z1 Z8)))) rfl T.n_range) (Zq (i:=5) Si rfl (Or.inl rfl)) Zn (Z6 (D3 (Zh (ZF hr) (sv 1) (Za G_17 (hr.mono (by omega)) rfl O_17.mgf O_17.fn.kp O_17.b (Z0 (Yf ZY (sv 0) (Yf QA Z4 (sv 5))) (Z0 Z4 (Z0 (Tl (sv 1) rfl T.n_len Qi) Z9))) (Z1 (Z1 (Z1 Z8))))) (MN rfl (Qt (Zq (i:=6) Si rfl (Or.inl rfl)) (Qt (Zq (i:=7) Si rfl (Or.inl rfl)) GW))) (Ki (Qv Zn (Qv Zn Bh))))
   (Z6 (Zp (i:=8) Si rfl (Or.inl rfl) (Je (Z0 (sv 6) (Z0 (Yf ZY Z4 (Za G_17 (hr.mono (by omega)) rfl O_17.mgf O_17.fn.kp O_17.b (Z0 (Yf ZY (sv 0) (Yf QA Z4 (sv 5))) (Z0 Z4 (Z0 (sv 7) Z9))) (Z1 (Z1 (Z1 Z8))))) Z9))))
   (Z6 (Zp (i:=9) Si rfl (Or.inl rfl) (Yf ZY (Yf ZY (sv 3) (Yf QA Z4 (Zh (ZF hr) (sv 8) Z4))) (Yf QA Z4 (Zh (ZF hr) (sv 8) Z4))))
   (Z6 (QJ (ZF hr) (Za G_18 (hr.mono (by omega)) rfl O_18.mgf O_18.fn.kp O_18.b (Z0 (sv 9) Z9) (Z1 Z8)) (sv 4) (sv 8))
   (Ze (Qo (Yu (Qu (ZF hr)) (sv 2) Z4 (Y9 _)) (Ze (QJ (ZF hr) (Za G_20 (hr.mono (by omega)) rfl O_20.mgf O_20.fn.kp O_20.b (Z0 (sv 9) Z9) (Z1 Z8)) (sv 4) (sv 8))) Ym)))))))
   (Ze (Zs (Qz (JK (tgs:=["_law_mark"]) (cn:=["_law_found"]) (caps:=[4]) rfl ⟨by decide +kernel,rfl,by decide +kernel,Y3 (Z2 Yj).names rfl (by decide +kernel),⟨⟨rfl,.inl rfl,rfl⟩,trivial⟩⟩ (QR (Z0f (Js rfl (IK hr) (sv 4) rfl T.n_sorted Yt))) (Zj (by decide)) Zn (λ_ _ _ _=>(Zq (i:=0) Z2O rfl (Or.inl rfl))) (λ_ _ _ _=>Jd) (λ_ _ _ _=>(Je (Z0 (sv 0) (Z0 (Zh (ZF hr) (sv 1) (sv 0)) Z9))))) rfl T.n_tuple Zt)))))
theorem Z0A:FnScope ["_law_cell_here", "_law_which_here", "_law_first", "_law_seed", "_law_known_here"] ["_law_cell_here", "_law_which_here", "_law_first", "_law_seed"] (Z2 Qr):=⟨rfl,rfl,rfl,Z1E,rfl,by decide +kernel,by decide +kernel⟩
theorem Z14 {f_10:Addr}{fd_10:FuncData}(T:Txt K mg C_House)(O_10:Own K mg "_law_file" Qr f_10 fd_10 ["_law_cell_here", "_law_which_here", "_law_first", "_law_seed"]){f_15:Addr}{fd_15:FuncData}(O_15:Own K mg "_law_known" YX f_15 fd_15 ["_law_cell_here", "_law_which_here"])(G_15:FnOk P w K mg base CX0 2 f_15 fd_15 ["_law_cell_here", "_law_which_here"] (spD K 2 Jr)){f_16:Addr}{fd_16:FuncData}(O_16:Own K mg "_law_marked" Yj f_16 fd_16 ["_law_cell_here", "_law_known_here", "_law_kind", "_law_seed"])(G_16:FnOk P w K mg base CX0 3 f_16 fd_16 ["_law_cell_here", "_law_known_here", "_law_kind", "_law_seed"] (spD K 4 Qd)):FnOk P w K mg base CX0 4 f_10 fd_10 ["_law_cell_here", "_law_which_here", "_law_first", "_law_seed"] (spD K 4 Qx):=
 U8 (k:=3) O_10.fn Z0A rfl rfl λcdv A outer s H E hr=>(Z6 (Zp (i:=4) Z1E rfl (Or.inl rfl) (Za G_15 (hr.mono (by omega)) rfl O_15.mgf O_15.fn.kp O_15.b (Z0 (sv 0) (Z0 (sv 1) Z9)) (Z1 (Z1 Z8))))
   (Ze (Zs (Je (Z0 (sv 1) (Z0 (sv 2) (Z0 (sv 4) (Z0 (Za G_16 (hr.mono (by omega)) rfl O_16.mgf O_16.fn.kp O_16.b (Z0 (Yf ZY (sv 0) Z4) (Z0 (sv 4) (Z0 Z4 (Z0 (sv 3) Z9)))) (Z1 (Z1 (Z1 (Z1 Z8))))) (Z0 (Za G_16 (hr.mono (by omega)) rfl O_16.mgf O_16.fn.kp O_16.b (Z0 (Yf ZY (sv 0) Z4) (Z0 (sv 4) (Z0 Z4 (Z0 (Yf ZY (sv 3) Z4) Z9)))) (Z1 (Z1 (Z1 (Z1 Z8))))) Z9)))))))))
theorem Z0z:FnScope ["_law_mark", "_law_known_here"] ["_law_mark", "_law_known_here"] (Z2 JT):=⟨rfl,rfl,rfl,Z2N,rfl,by decide +kernel,by decide +kernel⟩
theorem Z13 {f_11:Addr}{fd_11:FuncData}(T:Txt K mg C_House)(O_11:Own K mg "_law_in" JT f_11 fd_11 ["_law_mark", "_law_known_here"]):FnOk P w K mg base CX0 1 f_11 fd_11 ["_law_mark", "_law_known_here"] (spD K 2 UT):=
 U8 (k:=0) O_11.fn Z0z rfl rfl λcdv A outer s H E hr=>(Ze (Zs (Eb rfl (Um (tgs:=["_law_house", "_law_count"]) (cn:=["_law_mark"]) (caps:=[0]) rfl ⟨by decide +kernel,rfl,by decide +kernel,Y3 (Z2 JT).names rfl (by decide +kernel),⟨⟨rfl,.inl rfl,rfl⟩,trivial⟩⟩ (QR (sv 1)) (Bi (Qc (Zj (by decide)) (Qc (Zj (by decide)) TQ Yk QN) Yk (Uz Yk QN))) (Ki (Qv Zn (Qv Zn Bh))) (λ_ _ _ _=>(MN rfl (Qt (Zq (i:=0) Z1D rfl (Or.inl rfl)) (Qt (Zq (i:=1) Z1D rfl (Or.inl rfl)) GW)))) (λ_ _ _ _=>Jd) (λ_ _ _ _=>(Tp (QK (Qu (ZF hr)) (sv 0) (Zh (ZF hr) (sv 2) Z4) (Y9 _)) (Tk (QK Em (sv 1) (Zh (ZF hr) (sv 2) Z4) (Y9 _)))))) rfl T.n_any Nq)))
theorem Z0w:FnScope ["_law_mine", "_law_my_known", "_law_yours", "_law_your_known", "_law_found"] ["_law_mine", "_law_my_known", "_law_yours", "_law_your_known"] (Z2 Yx):=⟨rfl,rfl,rfl,Z02,rfl,by decide +kernel,by decide +kernel⟩
theorem Z10 {f_14:Addr}{fd_14:FuncData}(T:Txt K mg C_House)(O_14:Own K mg "_law_kept" Yx f_14 fd_14 ["_law_mine", "_law_my_known", "_law_yours", "_law_your_known"]){f_11:Addr}{fd_11:FuncData}(O_11:Own K mg "_law_in" JT f_11 fd_11 ["_law_mark", "_law_known_here"])(G_11:FnOk P w K mg base CX0 1 f_11 fd_11 ["_law_mark", "_law_known_here"] (spD K 2 UT)):FnOk P w K mg base CX0 2 f_14 fd_14 ["_law_mine", "_law_my_known", "_law_yours", "_law_your_known"] (spD K 4 Qw):=
 U8 (k:=1) O_14.fn Z0w rfl rfl λcdv A outer s H E hr=>(Z6 (HD (i:=4) Z02 rfl rfl (tgs:=["_law_pair"]) (cn:=["_law_yours"]) (caps:=[2]) rfl ⟨by decide +kernel,rfl,by decide +kernel,Y3 (Z2 Yx).names rfl (by decide +kernel),⟨⟨rfl,.inl rfl,rfl⟩,trivial⟩⟩ (QR (sv 0)) (Zj (by decide)) Zn (λ_ _ _ _=>(Zq (i:=0) Z2M rfl (Or.inl rfl))) (λ_ _ _ _=>JS (Yu (MQ (ZF hr)) (sv 0) (sv 1) (by with_unfolding_all rfl))) (λ_ _ _ _=>(sv 0)))
   (Z6 (Zp (i:=4) Z02 rfl (Or.inl rfl) (Yf ZY (sv 4) (Uq (tgs:=["_law_pair"]) (cn:=["_law_your_known"]) (caps:=[3]) rfl ⟨by decide +kernel,rfl,by decide +kernel,Y3 (Z2 Yx).names rfl (by decide +kernel),⟨⟨rfl,.inl rfl,rfl⟩,trivial⟩⟩ (QR (sv 0)) (Zj (by decide)) Zn (λ_ _ _ _=>(Zq (i:=0) Z2L rfl (Or.inl rfl))) (λ_ _ _ _=>JS (Ja (Y0 (Za G_11 (hr.mono (by omega)) rfl O_11.mgf O_11.fn.kp O_11.b (Z0 (Zh (ZF hr) (sv 0) Z4) (Z0 (sv 1) Z9)) (Z1 (Z1 Z8)))))) (λ_ _ _ _=>(sv 0)))))
   (Z6 (Zp (i:=4) Z02 rfl (Or.inl rfl) (Yf ZY (sv 4) (Uq (tgs:=["_law_pair"]) (cn:=["_law_my_known"]) (caps:=[1]) rfl ⟨by decide +kernel,rfl,by decide +kernel,Y3 (Z2 Yx).names rfl (by decide +kernel),⟨⟨rfl,.inl rfl,rfl⟩,trivial⟩⟩ (QR (sv 2)) (Zj (by decide)) Zn (λ_ _ _ _=>(Zq (i:=0) Z2K rfl (Or.inl rfl))) (λ_ _ _ _=>JS (Ja (Y0 (Za G_11 (hr.mono (by omega)) rfl O_11.mgf O_11.fn.kp O_11.b (Z0 (Zh (ZF hr) (sv 0) Z4) (Z0 (sv 1) Z9)) (Z1 (Z1 Z8)))))) (λ_ _ _ _=>(sv 0)))))
   (Ze (Zs (Qz (Js rfl (IK hr) (sv 4) rfl T.n_sorted Yt) rfl T.n_tuple Zt))))))
theorem Z0x:FnScope ["_law_one", "_law_other", "_law_known_here", "_law_house", "_law_many", "_law_names"] ["_law_one", "_law_other"] (Z2 Yy):=⟨rfl,rfl,rfl,DY,rfl,by decide +kernel,by decide +kernel⟩
theorem Z11 {f_13:Addr}{fd_13:FuncData}(T:Txt K mg C_House)(O_13:Own K mg "_law_joint" Yy f_13 fd_13 ["_law_one", "_law_other"]){f_14:Addr}{fd_14:FuncData}(O_14:Own K mg "_law_kept" Yx f_14 fd_14 ["_law_mine", "_law_my_known", "_law_yours", "_law_your_known"])(G_14:FnOk P w K mg base CX0 2 f_14 fd_14 ["_law_mine", "_law_my_known", "_law_yours", "_law_your_known"] (spD K 4 Qw)):FnOk P w K mg base CX0 3 f_13 fd_13 ["_law_one", "_law_other"] (spD K 2 Ql):=
 U8 (k:=2) O_13.fn Z0x rfl rfl λcdv A outer s H E hr=>(Z6 (Zp (i:=2) DY rfl (Or.inl rfl) (MB Z9))
   (Z6 (Gi W0V rfl (Up Z4 rfl T.n_range) (Zq (i:=3) DY rfl (Or.inr rfl)) Zn (Z6 (Zp (i:=4) DY rfl (Or.inl rfl) (HF rfl (Uq (tgs:=["_law_place", "_law_count"]) (cn:=["_law_house"]) (caps:=[3]) rfl ⟨by decide +kernel,rfl,by decide +kernel,Y3 (Z2 Yy).names rfl (by decide +kernel),⟨⟨rfl,.inl rfl,rfl⟩,trivial⟩⟩ (QR (Yf ZY (Zh (ZF hr) (sv 0) Z4) (Zh (ZF hr) (sv 1) Z4))) (Bi (Qc (Zj (by decide)) (Qc (Zj (by decide)) TQ Yk QN) Yk (Uz Yk QN))) (Ki (Qv Zn (Qv Zn Bh))) (λ_ _ _ _=>(MN rfl (Qt (Zq (i:=0) Z1C rfl (Or.inl rfl)) (Qt (Zq (i:=1) Z1C rfl (Or.inl rfl)) GW)))) (λ_ _ _ _=>JS (Yu (Qu (ZF hr)) (sv 0) (sv 2) (Y9 _))) (λ_ _ _ _=>(sv 1))) Z4 rfl T.n_max Np))
   (Ze (Qo (Yu El (sv 4) Z4 (Y9 _)) (Ze (ND (To (sv 2) (Je (Z0 (sv 3) (Z0 (sv 4) Z9)))))) Ym))))
   (Z6 (Zp (i:=5) DY rfl (Or.inl rfl) (Za G_14 (hr.mono (by omega)) rfl O_14.mgf O_14.fn.kp O_14.b (Z0 (Zh (ZF hr) (sv 0) Z4) (Z0 (Zh (ZF hr) (sv 0) Z4) (Z0 (Zh (ZF hr) (sv 1) Z4) (Z0 (Zh (ZF hr) (sv 1) Z4) Z9)))) (Z1 (Z1 (Z1 (Z1 Z8))))))
   (Ze (Zs (Je (Z0 (Zh (ZF hr) (sv 0) Z4) (Z0 (Zh (ZF hr) (sv 0) Z4) (Z0 (RS (sv 2) rfl T.n_tuple Zt) (Z0 (sv 5) (Z0 (Za G_14 (hr.mono (by omega)) rfl O_14.mgf O_14.fn.kp O_14.b (Z0 (Zh (ZF hr) (sv 0) Z4) (Z0 (Zh (ZF hr) (sv 0) Z4) (Z0 (Zh (ZF hr) (sv 1) Z4) (Z0 (Zh (ZF hr) (sv 1) Z4) Z9)))) (Z1 (Z1 (Z1 (Z1 Z8))))) Z9)))))))))))
theorem Z2s:FnScope ["self"] ["self"] (Z2 ZW):=⟨rfl,rfl,rfl,IE,rfl,by decide +kernel,by decide +kernel⟩
theorem Z2F {f_1:Addr}{fd_1:FuncData}(T:Txt K mg C_House)(O_1:OwnM K C_House "count" "House.count" ZW f_1 fd_1 ["self"]):FnOk P w K mg base CX0 1 f_1 fd_1 ["self"] (spD K 1 YI):=
 U8 (k:=0) O_1.fn Z2s rfl rfl λcdv A outer s H E hr=>(Ze (Zs (Tn T.k_House T.na_House_acts (sv 0))))
theorem Z2r:FnScope ["self", "which"] ["self", "which"] (Z2 Y8):=⟨rfl,rfl,rfl,Z2J,rfl,by decide +kernel,by decide +kernel⟩
theorem Z2E {f_2:Addr}{fd_2:FuncData}(T:Txt K mg C_House)(O_2:OwnM K C_House "file" "House.file" Y8 f_2 fd_2 ["self", "which"]):FnOk P w K mg base CX0 1 f_2 fd_2 ["self", "which"] (spD K 2 Q4):=
 U8 (k:=0) O_2.fn Z2r rfl rfl λcdv A outer s H E hr=>(Z6 (Qo (Yu (BH (ZF hr)) (sv 1) (Tn T.k_House T.na_House_files (sv 0)) (by with_unfolding_all rfl)) (Ze HC) Ym)
   (Ze (Zs (Zh (ZF hr) (Tn T.k_House T.na_House_files (sv 0)) (sv 1)))))
theorem Z0n:FnScope ["file"] ["file"] (Z2 Yw):=⟨rfl,rfl,rfl,DX,rfl,by decide +kernel,by decide +kernel⟩
theorem Z0S {f_23:Addr}{fd_23:FuncData}(T:Txt K mg C_House)(O_23:Own K mg "is_gone" Yw f_23 fd_23 ["file"]):FnOk P w K mg base CX0 1 f_23 fd_23 ["file"] (spD K 1 Qk):=
 U8 (k:=0) O_23.fn Z0n rfl rfl λcdv A outer s H E hr=>(Ze (Zs (QK (Qu (ZF hr)) (Tl (Zh (ZF hr) (sv 0) Z4) rfl T.n_len Qi) Z4 (Y9 _))))
theorem Z2t:FnScope ["self"] ["self"] (Z2 Zg):=⟨rfl,rfl,rfl,IE,rfl,by decide +kernel,by decide +kernel⟩
theorem Z2G {f_0:Addr}{fd_0:FuncData}(T:Txt K mg C_House)(O_0:OwnM K C_House "all_files" "House.all_files" Zg f_0 fd_0 ["self"]):FnOk P w K mg base CX0 1 f_0 fd_0 ["self"] (spD K 1 Zl):=
 U8 (k:=0) O_0.fn Z2t rfl rfl λcdv A outer s H E hr=>(Ze (Zs (Uq (tgs:=["which"]) (cn:=["self"]) (caps:=[0]) rfl ⟨by decide +kernel,rfl,by decide +kernel,Y3 (Z2 Zg).names rfl (by decide +kernel),⟨⟨rfl,.inl rfl,rfl⟩,trivial⟩⟩ (QR (Z0f (Js rfl (IK hr) (Tn T.k_House T.na_House_files (sv 0)) rfl T.n_sorted Yt))) (Zj (by decide)) Zn (λ_ _ _ _=>(Zq (i:=0) Z2I rfl (Or.inl rfl))) (λ_ _ _ _=>Jd) (λ_ _ _ _=>(Zh (ZF hr) (Tn T.k_House T.na_House_files (sv 1)) (sv 0))))))
theorem Z2q:FnScope ["self"] ["self"] (Z2 Zb):=⟨rfl,rfl,rfl,IE,rfl,by decide +kernel,by decide +kernel⟩
theorem Z2D {f_3:Addr}{fd_3:FuncData}(T:Txt K mg C_House)(O_3:OwnM K C_House "files_on_shelf" "House.files_on_shelf" Zb f_3 fd_3 ["self"]){f_23:Addr}{fd_23:FuncData}(O_23:Own K mg "is_gone" Yw f_23 fd_23 ["file"])(G_23:FnOk P w K mg base CX0 1 f_23 fd_23 ["file"] (spD K 1 Qk)){f_0:Addr}{fd_0:FuncData}(O_0:OwnM K C_House "all_files" "House.all_files" Zg f_0 fd_0 ["self"])(G_0:FnOk P w K mg base CX0 1 f_0 fd_0 ["self"] (spD K 1 Zl)):FnOk P w K mg base CX0 2 f_3 fd_3 ["self"] (spD K 1 ZB):=
 U8 (k:=1) O_3.fn Z2q rfl rfl λcdv A outer s H E hr=>(Ze (Zs (Uq (tgs:=["file"]) (cn:=[]) (caps:=[]) rfl ⟨by decide +kernel,rfl,by decide +kernel,Y3 (Z2 Zb).names rfl (by decide +kernel),trivial⟩ (QR (Qq T.k_House (sv 0) O_0.meth G_0 (hr.mono (by omega)) O_0.b)) (Zj (by decide)) Zn (λ_ _ _ _=>(Zq (i:=0) DX rfl (Or.inl rfl))) (λ_ _ _ _=>JS (Ja (Y0 (Za G_23 (hr.mono (by omega)) rfl O_23.mgf O_23.fn.kp O_23.b (Z0 (sv 0) Z9) (Z1 Z8))))) (λ_ _ _ _=>(sv 0)))))
theorem Z2n:FnScope ["self"] ["self"] (Z2 Yc):=⟨rfl,rfl,rfl,IE,rfl,by decide +kernel,by decide +kernel⟩
theorem Z2A {f_6:Addr}{fd_6:FuncData}(T:Txt K mg C_House)(O_6:OwnM K C_House "ids" "House.ids" Yc f_6 fd_6 ["self"]){f_3:Addr}{fd_3:FuncData}(O_3:OwnM K C_House "files_on_shelf" "House.files_on_shelf" Zb f_3 fd_3 ["self"])(G_3:FnOk P w K mg base CX0 2 f_3 fd_3 ["self"] (spD K 1 ZB)):FnOk P w K mg base CX0 3 f_6 fd_6 ["self"] (spD K 1 Qm):=
 U8 (k:=2) O_6.fn Z2n rfl rfl λcdv A outer s H E hr=>(Ze (Zs (Qz (JK (tgs:=["file"]) (cn:=[]) (caps:=[]) rfl ⟨by decide +kernel,rfl,by decide +kernel,Y3 (Z2 Yc).names rfl (by decide +kernel),trivial⟩ (QR (Qq T.k_House (sv 0) O_3.meth G_3 (hr.mono (by omega)) O_3.b)) (Zj (by decide)) Zn (λ_ _ _ _=>(Zq (i:=0) DX rfl (Or.inl rfl))) (λ_ _ _ _=>Jd) (λ_ _ _ _=>(Zh (ZF hr) (sv 0) Z4))) rfl T.n_tuple Zt)))
theorem Z2p:FnScope ["self"] ["self"] (Z2 ZV):=⟨rfl,rfl,rfl,IE,rfl,by decide +kernel,by decide +kernel⟩
theorem Z2C {f_4:Addr}{fd_4:FuncData}(T:Txt K mg C_House)(O_4:OwnM K C_House "gone" "House.gone" ZV f_4 fd_4 ["self"]){f_23:Addr}{fd_23:FuncData}(O_23:Own K mg "is_gone" Yw f_23 fd_23 ["file"])(G_23:FnOk P w K mg base CX0 1 f_23 fd_23 ["file"] (spD K 1 Qk)){f_0:Addr}{fd_0:FuncData}(O_0:OwnM K C_House "all_files" "House.all_files" Zg f_0 fd_0 ["self"])(G_0:FnOk P w K mg base CX0 1 f_0 fd_0 ["self"] (spD K 1 Zl)):FnOk P w K mg base CX0 2 f_4 fd_4 ["self"] (spD K 1 Q3):=
 U8 (k:=1) O_4.fn Z2p rfl rfl λcdv A outer s H E hr=>(Ze (Zs (Qz (JK (tgs:=["file"]) (cn:=[]) (caps:=[]) rfl ⟨by decide +kernel,rfl,by decide +kernel,Y3 (Z2 ZV).names rfl (by decide +kernel),trivial⟩ (QR (Qq T.k_House (sv 0) O_0.meth G_0 (hr.mono (by omega)) O_0.b)) (Zj (by decide)) Zn (λ_ _ _ _=>(Zq (i:=0) DX rfl (Or.inl rfl))) (λ_ _ _ _=>JS (Y0 (Za G_23 (hr.mono (by omega)) rfl O_23.mgf O_23.fn.kp O_23.b (Z0 (sv 0) Z9) (Z1 Z8)))) (λ_ _ _ _=>(Zh (ZF hr) (sv 0) Z4))) rfl T.n_tuple Zt)))
theorem Z2o:FnScope ["self"] ["self"] (Z2 ZM):=⟨rfl,rfl,rfl,IE,rfl,by decide +kernel,by decide +kernel⟩
theorem Z2B {f_5:Addr}{fd_5:FuncData}(T:Txt K mg C_House)(O_5:OwnM K C_House "heard" "House.heard" ZM f_5 fd_5 ["self"]){f_0:Addr}{fd_0:FuncData}(O_0:OwnM K C_House "all_files" "House.all_files" Zg f_0 fd_0 ["self"])(G_0:FnOk P w K mg base CX0 1 f_0 fd_0 ["self"] (spD K 1 Zl)):FnOk P w K mg base CX0 2 f_5 fd_5 ["self"] (spD K 1 YH):=
 U8 (k:=1) O_5.fn Z2o rfl rfl λcdv A outer s H E hr=>(Ze (Zs (Qz (JK (tgs:=["file"]) (cn:=[]) (caps:=[]) rfl ⟨by decide +kernel,rfl,by decide +kernel,Y3 (Z2 ZM).names rfl (by decide +kernel),trivial⟩ (QR (Qq T.k_House (sv 0) O_0.meth G_0 (hr.mono (by omega)) O_0.b)) (Zj (by decide)) Zn (λ_ _ _ _=>(Zq (i:=0) DX rfl (Or.inl rfl))) (λ_ _ _ _=>Jd) (λ_ _ _ _=>(Je (Z0 (Zh (ZF hr) (sv 0) Z4) (Z0 (Zh (ZF hr) (sv 0) Z4) Z9))))) rfl T.n_tuple Zt)))
theorem Z0y:FnScope ["_law_house", "_law_files", "_law_ids", "_law_which_here", "_law_heard"] ["_law_house", "_law_files"] (Z2 ZG):=⟨rfl,rfl,rfl,Z01,rfl,by decide +kernel,by decide +kernel⟩
theorem Z12 {f_12:Addr}{fd_12:FuncData}(T:Txt K mg C_House)(O_12:Own K mg "_law_is_right" ZG f_12 fd_12 ["_law_house", "_law_files"]){f_1:Addr}{fd_1:FuncData}(O_1:OwnM K C_House "count" "House.count" ZW f_1 fd_1 ["self"])(G_1:FnOk P w K mg base CX0 1 f_1 fd_1 ["self"] (spD K 1 YI)){f_2:Addr}{fd_2:FuncData}(O_2:OwnM K C_House "file" "House.file" Y8 f_2 fd_2 ["self", "which"])(G_2:FnOk P w K mg base CX0 1 f_2 fd_2 ["self", "which"] (spD K 2 Q4)){f_6:Addr}{fd_6:FuncData}(O_6:OwnM K C_House "ids" "House.ids" Yc f_6 fd_6 ["self"])(G_6:FnOk P w K mg base CX0 3 f_6 fd_6 ["self"] (spD K 1 Qm)){f_4:Addr}{fd_4:FuncData}(O_4:OwnM K C_House "gone" "House.gone" ZV f_4 fd_4 ["self"])(G_4:FnOk P w K mg base CX0 2 f_4 fd_4 ["self"] (spD K 1 Q3)){f_5:Addr}{fd_5:FuncData}(O_5:OwnM K C_House "heard" "House.heard" ZM f_5 fd_5 ["self"])(G_5:FnOk P w K mg base CX0 2 f_5 fd_5 ["self"] (spD K 1 YH)){f_19:Addr}{fd_19:FuncData}(O_19:Own K mg "_law_same" YM f_19 fd_19 ["_law_found", "_law_due"])(G_19:FnOk P w K mg base CX0 13 f_19 fd_19 ["_law_found", "_law_due"] (spD K 2 (ZO 12))):FnOk P w K mg base CX0 14 f_12 fd_12 ["_law_house", "_law_files"] (spD K 2 Yh):=
 U8 (k:=13) O_12.fn Z0y rfl rfl λcdv A outer s H E hr=>(Z6 (Zp (i:=2) Z01 rfl (Or.inl rfl) (Z0f (Js rfl (IK hr) (sv 1) rfl T.n_sorted Yt)))
   (Z6 (Gi W0V rfl (QR (sv 2)) (Zq (i:=3) Z01 rfl (Or.inl rfl)) Zn (Ze (Qo (Ja (Y0 (Za G_19 (hr.mono (by omega)) rfl O_19.mgf O_19.fn.kp O_19.b (Z0 (NH T.k_House (sv 0) O_2.meth G_2 (hr.mono (by omega)) O_2.b (Z0 (sv 3) Z9) (Z1 Z8)) (Z0 (Zh (ZF hr) (sv 1) (sv 3)) Z9)) (Z1 (Z1 Z8))))) (Ze (Zs NI)) Ym)))
   (Z6 (Qo (Ja (Y0 (Za G_19 (hr.mono (by omega)) rfl O_19.mgf O_19.fn.kp O_19.b (Z0 (Qq T.k_House (sv 0) O_6.meth G_6 (hr.mono (by omega)) O_6.b) (Z0 (Qz (JK (tgs:=["_law_which_here"]) (cn:=["_law_files"]) (caps:=[1]) rfl ⟨by decide +kernel,rfl,by decide +kernel,Y3 (Z2 ZG).names rfl (by decide +kernel),⟨⟨rfl,.inl rfl,rfl⟩,trivial⟩⟩ (QR (sv 2)) (Zj (by decide)) Zn (λ_ _ _ _=>(Zq (i:=0) Z15 rfl (Or.inl rfl))) (λ_ _ _ _=>JS (Y0 (Zh (ZF hr) (Zh (ZF hr) (sv 1) (sv 0)) Z4))) (λ_ _ _ _=>(sv 0))) rfl T.n_tuple Zt) Z9)) (Z1 (Z1 Z8))))) (Ze (Zs NI)) Ym)
   (Z6 (Qo (Ja (Y0 (Za G_19 (hr.mono (by omega)) rfl O_19.mgf O_19.fn.kp O_19.b (Z0 (Qq T.k_House (sv 0) O_4.meth G_4 (hr.mono (by omega)) O_4.b) (Z0 (Qz (JK (tgs:=["_law_which_here"]) (cn:=["_law_files"]) (caps:=[1]) rfl ⟨by decide +kernel,rfl,by decide +kernel,Y3 (Z2 ZG).names rfl (by decide +kernel),⟨⟨rfl,.inl rfl,rfl⟩,trivial⟩⟩ (QR (sv 2)) (Zj (by decide)) Zn (λ_ _ _ _=>(Zq (i:=0) Z15 rfl (Or.inl rfl))) (λ_ _ _ _=>JS (Ja (Y0 (Zh (ZF hr) (Zh (ZF hr) (sv 1) (sv 0)) Z4)))) (λ_ _ _ _=>(sv 0))) rfl T.n_tuple Zt) Z9)) (Z1 (Z1 Z8))))) (Ze (Zs NI)) Ym)
   (Z6 (Zp (i:=4) Z01 rfl (Or.inl rfl) (Qz (JK (tgs:=["_law_which_here"]) (cn:=["_law_files"]) (caps:=[1]) rfl ⟨by decide +kernel,rfl,by decide +kernel,Y3 (Z2 ZG).names rfl (by decide +kernel),⟨⟨rfl,.inl rfl,rfl⟩,trivial⟩⟩ (QR (sv 2)) (Zj (by decide)) Zn (λ_ _ _ _=>(Zq (i:=0) Z15 rfl (Or.inl rfl))) (λ_ _ _ _=>Jd) (λ_ _ _ _=>(Je (Z0 (sv 0) (Z0 (Zh (ZF hr) (Zh (ZF hr) (sv 1) (sv 0)) Z4) Z9))))) rfl T.n_tuple Zt))
   (Ze (Zs (Tp (Za G_19 (hr.mono (by omega)) rfl O_19.mgf O_19.fn.kp O_19.b (Z0 (Qq T.k_House (sv 0) O_5.meth G_5 (hr.mono (by omega)) O_5.b) (Z0 (sv 4) Z9)) (Z1 (Z1 Z8))) (Tk (QK (Qu (ZF hr)) (Qq T.k_House (sv 0) O_1.meth G_1 (hr.mono (by omega)) O_1.b) Z4 (Y9 _)))))))))))
theorem Z0l:FnScope ["_law_script", "_law_house", "_law_seeds", "_law_files", "_law_taken", "_law_k", "_law_cell_here", "_law_one", "_law_which_here", "_law_file_here", "_law_due", "_law_changed"] ["_law_script"] (Z2 Tq):=⟨rfl,rfl,rfl,NV,rfl,by decide +kernel,by decide +kernel⟩
theorem Z0Q {f_25:Addr}{fd_25:FuncData}(T:Txt K mg C_House)(O_25:Own K mg "law" Tq f_25 fd_25 ["_law_script"]){f_7:Addr}{fd_7:FuncData}(O_7:OwnI K C_House "House.__init__" Y7 f_7 fd_7 ["self", "number"])(G_7:FnOk P w K mg base CX0 1 f_7 fd_7 ["self", "number"] (spD K 2 Yi)){f_8:Addr}{fd_8:FuncData}(O_8:OwnM K C_House "take" "House.take" Y6 f_8 fd_8 ["self", "file"])(G_8:FnOk P w K mg base CX0 5 f_8 fd_8 ["self", "file"] (spD K 2 ZQ)){f_9:Addr}{fd_9:FuncData}(O_9:Own K mg "_law_cell" Qs f_9 fd_9 ["_law_script", "_law_k"])(G_9:FnOk P w K mg base CX0 1 f_9 fd_9 ["_law_script", "_law_k"] (spD K 2 Yd)){f_17:Addr}{fd_17:FuncData}(O_17:Own K mg "_law_mix" YL f_17 fd_17 ["_law_cell_here", "_law_prime", "_law_many"])(G_17:FnOk P w K mg base CX0 1 f_17 fd_17 ["_law_cell_here", "_law_prime", "_law_many"] (spD K 3 Zu)){f_18:Addr}{fd_18:FuncData}(O_18:Own K mg "_law_name" YN f_18 fd_18 ["_law_cell_here"])(G_18:FnOk P w K mg base CX0 2 f_18 fd_18 ["_law_cell_here"] (spD K 1 YV)){f_19:Addr}{fd_19:FuncData}(O_19:Own K mg "_law_same" YM f_19 fd_19 ["_law_found", "_law_due"])(G_19:FnOk P w K mg base CX0 13 f_19 fd_19 ["_law_found", "_law_due"] (spD K 2 (ZO 12))){f_21:Addr}{fd_21:FuncData}(O_21:Own K mg "_law_which" YW f_21 fd_21 ["_law_cell_here"])(G_21:FnOk P w K mg base CX0 2 f_21 fd_21 ["_law_cell_here"] (spD K 1 Jq)){f_10:Addr}{fd_10:FuncData}(O_10:Own K mg "_law_file" Qr f_10 fd_10 ["_law_cell_here", "_law_which_here", "_law_first", "_law_seed"])(G_10:FnOk P w K mg base CX0 4 f_10 fd_10 ["_law_cell_here", "_law_which_here", "_law_first", "_law_seed"] (spD K 4 Qx)){f_13:Addr}{fd_13:FuncData}(O_13:Own K mg "_law_joint" Yy f_13 fd_13 ["_law_one", "_law_other"])(G_13:FnOk P w K mg base CX0 3 f_13 fd_13 ["_law_one", "_law_other"] (spD K 2 Ql)){f_12:Addr}{fd_12:FuncData}(O_12:Own K mg "_law_is_right" ZG f_12 fd_12 ["_law_house", "_law_files"])(G_12:FnOk P w K mg base CX0 14 f_12 fd_12 ["_law_house", "_law_files"] (spD K 2 Yh)):FnOk P w K mg base CX0 15 f_25 fd_25 ["_law_script"] (spD K 1 F_law):=
 U8 (k:=14) O_25.fn Z0l rfl rfl λcdv A outer s H E hr=>(Z6 (Zp (i:=1) NV rfl (Or.inr rfl) (HH T.k_House O_7.mkr G_7 (hr.mono (by omega)) rfl T.g_House O_7.b (Z0 (Za G_17 (hr.mono (by omega)) rfl O_17.mgf O_17.fn.kp O_17.b (Z0 (Za G_9 (hr.mono (by omega)) rfl O_9.mgf O_9.fn.kp O_9.b (Z0 (sv 0) (Z0 Z4 Z9)) (Z1 (Z1 Z8))) (Z0 Z4 (Z0 Z4 Z9))) (Z1 (Z1 (Z1 Z8)))) Z9) (Z1 Z8)))
   (Z6 (Zp (i:=2) NV rfl (Or.inl rfl) (MB (Z0 (Za G_9 (hr.mono (by omega)) rfl O_9.mgf O_9.fn.kp O_9.b (Z0 (sv 0) (Z0 Z4 Z9)) (Z1 (Z1 Z8))) (Z0 (Za G_9 (hr.mono (by omega)) rfl O_9.mgf O_9.fn.kp O_9.b (Z0 (sv 0) (Z0 Z4 Z9)) (Z1 (Z1 Z8))) (Z0 (Za G_9 (hr.mono (by omega)) rfl O_9.mgf O_9.fn.kp O_9.b (Z0 (sv 0) (Z0 Z4 Z9)) (Z1 (Z1 Z8))) Z9)))))
   (Z6 (Zp (i:=3) NV rfl (Or.inl rfl) GL)
   (Z6 (Zp (i:=4) NV rfl (Or.inl rfl) (MB Z9))
   (Z6 (Gi W0V rfl (Up Z4 rfl T.n_range) (Zq (i:=5) NV rfl (Or.inl rfl)) Zn (Z6 (Zp (i:=6) NV rfl (Or.inl rfl) (Yf ZY (Za G_9 (hr.mono (by omega)) rfl O_9.mgf O_9.fn.kp O_9.b (Z0 (sv 0) (Z0 (Yf JL (sv 5) Z4) Z9)) (Z1 (Z1 Z8))) (Yf QA Z4 (sv 5))))
   (Z6 (Zp (i:=7) NV rfl (Or.inl rfl) (Za G_17 (hr.mono (by omega)) rfl O_17.mgf O_17.fn.kp O_17.b (Z0 (sv 6) (Z0 Z4 (Z0 Z4 Z9))) (Z1 (Z1 (Z1 Z8)))))
   (Z6 (Zp (i:=8) NV rfl (Or.inl rfl) (Za G_21 (hr.mono (by omega)) rfl O_21.mgf O_21.fn.kp O_21.b (Z0 (Zh (ZF hr) (sv 2) (sv 7)) Z9) (Z1 Z8)))
   (Z6 (Qo (Yu (MQ (ZF hr)) (sv 8) (sv 3) (by with_unfolding_all rfl)) (Ze (Zp (i:=9) NV rfl (Or.inl rfl) (Za G_10 (hr.mono (by omega)) rfl O_10.mgf O_10.fn.kp O_10.b (Z0 (sv 6) (Z0 (sv 8) (Z0 (Zh (ZF hr) (Zh (ZF hr) (sv 3) (sv 8)) Z4) (Z0 (Zh (ZF hr) (sv 2) (sv 7)) Z9)))) (Z1 (Z1 (Z1 (Z1 Z8))))))) (Ze (Zp (i:=9) NV rfl (Or.inl rfl) (Za G_10 (hr.mono (by omega)) rfl O_10.mgf O_10.fn.kp O_10.b (Z0 (sv 6) (Z0 (sv 8) (Z0 (Za G_18 (hr.mono (by omega)) rfl O_18.mgf O_18.fn.kp O_18.b (Z0 (Zh (ZF hr) (sv 2) (sv 7)) Z9) (Z1 Z8)) (Z0 (Zh (ZF hr) (sv 2) (sv 7)) Z9)))) (Z1 (Z1 (Z1 (Z1 Z8))))))))
   (Z6 (Qo (Yu (Qu (ZF hr)) (sv 5) Z4 (Y9 _)) (Ze (Zp (i:=9) NV rfl (Or.inl rfl) (Zh (ZF hr) (sv 4) Z4))) Ym)
   (Z6 (ND (To (sv 4) (sv 9)))
   (Z6 (Zp (i:=10) NV rfl (Or.inl rfl) (sv 9))
   (Z6 (Qo (Yu (MQ (ZF hr)) (Zh (ZF hr) (sv 9) Z4) (sv 3) (by with_unfolding_all rfl)) (Ze (Zp (i:=10) NV rfl (Or.inl rfl) (Za G_13 (hr.mono (by omega)) rfl O_13.mgf O_13.fn.kp O_13.b (Z0 (Zh (ZF hr) (sv 3) (Zh (ZF hr) (sv 9) Z4)) (Z0 (sv 9) Z9)) (Z1 (Z1 Z8))))) Ym)
   (Z6 (Zp (i:=11) NV rfl (Or.inl rfl) (Z0g (QK (BH (ZF hr)) (Zh (ZF hr) (sv 9) Z4) (sv 3) (by with_unfolding_all rfl)) (Tk (QK (Pp (ZF hr)) (sv 10) (Zh (ZF hr) (sv 3) (Zh (ZF hr) (sv 9) Z4)) (Y9 _)))))
   (Z6 (Qo (Ja (Y0 (Za G_19 (hr.mono (by omega)) rfl O_19.mgf O_19.fn.kp O_19.b (Z0 (NH T.k_House (sv 1) O_8.meth G_8 (hr.mono (by omega)) O_8.b (Z0 (sv 9) Z9) (Z1 Z8)) (Z0 (sv 11) Z9)) (Z1 (Z1 Z8))))) (Ze (Zs NI)) Ym)
   (Z6 (QJ (ZF hr) (sv 10) (sv 3) (Zh (ZF hr) (sv 9) Z4))
   (Ze (Qo (Ja (Y0 (Za G_12 (hr.mono (by omega)) rfl O_12.mgf O_12.fn.kp O_12.b (Z0 (sv 1) (Z0 (sv 3) Z9)) (Z1 (Z1 Z8))))) (Ze (Zs NI)) Ym))))))))))))))
   (Ze (Zs (Tp (Ec rfl (Um (tgs:=["_law_file_here"]) (cn:=["_law_house"]) (caps:=[1]) rfl ⟨by decide +kernel,rfl,by decide +kernel,Y3 (Z2 Tq).names rfl (by decide +kernel),⟨⟨rfl,.inl rfl,rfl⟩,trivial⟩⟩ (QR (sv 4)) (Zj (by decide)) Zn (λ_ _ _ _=>(Zq (i:=0) Z2H rfl (Or.inl rfl))) (λ_ _ _ _=>Jd) (λ_ _ _ _=>(QK MO (NH T.k_House (sv 1) O_8.meth G_8 (hr.mono (by omega)) O_8.b (Z0 (sv 0) Z9) (Z1 Z8)) NI (Y9 _)))) rfl T.n_all Nr) (Tk (Za G_12 (hr.mono (by omega)) rfl O_12.mgf O_12.fn.kp O_12.b (Z0 (sv 1) (Z0 (sv 3) Z9)) (Z1 (Z1 Z8))))))))))))
end
theorem all_mk {l:PySem.W.OpenLaw}{w:World}{K:W8}{h:Heap}{mg:Str->Option Value}{fa:Addr}(X:K.In h)(G:h.Ns WJ mg)(hfa:mg "law" = some (.ref fa))
  {C_House:Addr} (cg_House:WT K WJ "House" = some (some (.ref C_House))) (ca_House:W1d K C_House Str.empty=true) (cb_House:W1J K C_House=true) (cc_House:W2v K C_House=true) (ce_House:V1 K (.ref C_House) "__setattr__" = some (some (.builtin "object.__setattr__"))) (cm_House:PySem.W.makesIn K C_House=true) (ck_House:WI K (.ref C_House)=true)
  (cn_House_acts:V1 K (.ref C_House) "acts" = some none)
  (cn_House_files:V1 K (.ref C_House) "files" = some none)
  (cn_House_own_number:V1 K (.ref C_House) "own_number" = some none)
  (cn_House_told:V1 K (.ref C_House) "told" = some none)
  {od0 an0:Option Addr} {sl0:Array (Option Value)} {oc0 kV0 dc0 pm0 cd0 ct0:Value} {f0:Addr}
  {od1 an1:Option Addr} {sl1:Array (Option Value)} {oc1 kV1 dc1 pm1 cd1 ct1:Value} {f1:Addr}
  {od2 an2:Option Addr} {sl2:Array (Option Value)} {oc2 kV2 dc2 pm2 cd2 ct2:Value} {f2:Addr}
  {od3 an3:Option Addr} {sl3:Array (Option Value)} {oc3 kV3 dc3 pm3 cd3 ct3:Value} {f3:Addr}
  {od4 an4:Option Addr} {sl4:Array (Option Value)} {oc4 kV4 dc4 pm4 cd4 ct4:Value} {f4:Addr}
  {od5 an5:Option Addr} {sl5:Array (Option Value)} {oc5 kV5 dc5 pm5 cd5 ct5:Value} {f5:Addr}
  {od6 an6:Option Addr} {sl6:Array (Option Value)} {oc6 kV6 dc6 pm6 cd6 ct6:Value} {f6:Addr}
  {od7 an7:Option Addr} {sl7:Array (Option Value)} {oc7 kV7 dc7 pm7 cd7 ct7:Value} {f7:Addr}
  {od8 an8:Option Addr} {sl8:Array (Option Value)} {oc8 kV8 dc8 pm8 cd8 ct8:Value} {f8:Addr}
  {od9 an9:Option Addr} {sl9:Array (Option Value)} {oc9 kV9 dc9 pm9 cd9 ct9:Value} {f9:Addr}
  {od10 an10:Option Addr} {sl10:Array (Option Value)} {oc10 kV10 dc10 pm10 cd10 ct10:Value} {f10:Addr}
  {od11 an11:Option Addr} {sl11:Array (Option Value)} {oc11 kV11 dc11 pm11 cd11 ct11:Value} {f11:Addr}
  {od12 an12:Option Addr} {sl12:Array (Option Value)} {oc12 kV12 dc12 pm12 cd12 ct12:Value} {f12:Addr}
  {od13 an13:Option Addr} {sl13:Array (Option Value)} {oc13 kV13 dc13 pm13 cd13 ct13:Value} {f13:Addr}
  {od14 an14:Option Addr} {sl14:Array (Option Value)} {oc14 kV14 dc14 pm14 cd14 ct14:Value} {f14:Addr}
  {od15 an15:Option Addr} {sl15:Array (Option Value)} {oc15 kV15 dc15 pm15 cd15 ct15:Value} {f15:Addr}
  {od16 an16:Option Addr} {sl16:Array (Option Value)} {oc16 kV16 dc16 pm16 cd16 ct16:Value} {f16:Addr}
  {od17 an17:Option Addr} {sl17:Array (Option Value)} {oc17 kV17 dc17 pm17 cd17 ct17:Value} {f17:Addr}
  {od18 an18:Option Addr} {sl18:Array (Option Value)} {oc18 kV18 dc18 pm18 cd18 ct18:Value} {f18:Addr}
  {od19 an19:Option Addr} {sl19:Array (Option Value)} {oc19 kV19 dc19 pm19 cd19 ct19:Value} {f19:Addr}
  {od20 an20:Option Addr} {sl20:Array (Option Value)} {oc20 kV20 dc20 pm20 cd20 ct20:Value} {f20:Addr}
  {od21 an21:Option Addr} {sl21:Array (Option Value)} {oc21 kV21 dc21 pm21 cd21 ct21:Value} {f21:Addr}
  {od22 an22:Option Addr} {sl22:Array (Option Value)} {oc22 kV22 dc22 pm22 cd22 ct22:Value} {f22:Addr}
  {od23 an23:Option Addr} {sl23:Array (Option Value)} {oc23 kV23 dc23 pm23 cd23 ct23:Value} {f23:Addr}
  {od24 an24:Option Addr} {sl24:Array (Option Value)} {oc24 kV24 dc24 pm24 cd24 ct24:Value} {f24:Addr}
  {od25 an25:Option Addr} {sl25:Array (Option Value)} {oc25 kV25 dc25 pm25 cd25 ct25:Value} {f25:Addr}
  {od26 an26:Option Addr} {sl26:Array (Option Value)} {oc26 kV26 dc26 pm26 cd26 ct26:Value} {f26:Addr}
  {od27 an27:Option Addr} {sl27:Array (Option Value)} {oc27 kV27 dc27 pm27 cd27 ct27:Value} {f27:Addr}
  {od28 an28:Option Addr} {sl28:Array (Option Value)} {oc28 kV28 dc28 pm28 cd28 ct28:Value} {f28:Addr}
  (a0:V1 K (.ref C_House) "__init__" = some (some (.ref f0))) (l0:K.lookup f0=some ⟨oc0,od0,.func (WU "__init__" "House.__init__" (Zk Y7) (Zi Y7) (Z2 Y7) .none kV0 dc0 pm0 an0 cd0 ct0),sl0⟩) (c0:WQ K cd0 "House.__init__" = true) (k0:WI K (.ref f0)=true) (e0:W0f K (.ref f0)=true)
  (a1:WT K WJ "greater_counts" = some (some (.ref f1))) (l1:K.lookup f1=some ⟨oc1,od1,.func (WU "greater_counts" "greater_counts" (Zk Zx) (Zi Zx) (Z2 Zx) .none kV1 dc1 pm1 an1 cd1 ct1),sl1⟩) (c1:WQ K cd1 "greater_counts" = true) (k1:WI K (.ref f1)=true)
  (a2:WT K WJ "is_within" = some (some (.ref f2))) (l2:K.lookup f2=some ⟨oc2,od2,.func (WU "is_within" "is_within" (Zk Yb) (Zi Yb) (Z2 Yb) .none kV2 dc2 pm2 an2 cd2 ct2),sl2⟩) (c2:WQ K cd2 "is_within" = true) (k2:WI K (.ref f2)=true)
  (a3:WT K WJ "not_taken_away" = some (some (.ref f3))) (l3:K.lookup f3=some ⟨oc3,od3,.func (WU "not_taken_away" "not_taken_away" (Zk Zo) (Zi Zo) (Z2 Zo) .none kV3 dc3 pm3 an3 cd3 ct3),sl3⟩) (c3:WQ K cd3 "not_taken_away" = true) (k3:WI K (.ref f3)=true)
  (a4:WT K WJ "pairs_together" = some (some (.ref f4))) (l4:K.lookup f4=some ⟨oc4,od4,.func (WU "pairs_together" "pairs_together" (Zk Zw) (Zi Zw) (Z2 Zw) .none kV4 dc4 pm4 an4 cd4 ct4),sl4⟩) (c4:WQ K cd4 "pairs_together" = true) (k4:WI K (.ref f4)=true)
  (a5:WT K WJ "put_together" = some (some (.ref f5))) (l5:K.lookup f5=some ⟨oc5,od5,.func (WU "put_together" "put_together" (Zk ZP) (Zi ZP) (Z2 ZP) .none kV5 dc5 pm5 an5 cd5 ct5),sl5⟩) (c5:WQ K cd5 "put_together" = true) (k5:WI K (.ref f5)=true)
  (a6:V1 K (.ref C_House) "take" = some (some (.ref f6))) (l6:K.lookup f6=some ⟨oc6,od6,.func (WU "take" "House.take" (Zk Y6) (Zi Y6) (Z2 Y6) .none kV6 dc6 pm6 an6 cd6 ct6),sl6⟩) (c6:WQ K cd6 "House.take" = true) (k6:WI K (.ref f6)=true) (e6:W0f K (.ref f6)=true)
  (a7:WT K WJ "_law_cell" = some (some (.ref f7))) (l7:K.lookup f7=some ⟨oc7,od7,.func (WU "_law_cell" "_law_cell" (Zk Qs) (Zi Qs) (Z2 Qs) .none kV7 dc7 pm7 an7 cd7 ct7),sl7⟩) (c7:WQ K cd7 "_law_cell" = true) (k7:WI K (.ref f7)=true)
  (a8:WT K WJ "_law_mix" = some (some (.ref f8))) (l8:K.lookup f8=some ⟨oc8,od8,.func (WU "_law_mix" "_law_mix" (Zk YL) (Zi YL) (Z2 YL) .none kV8 dc8 pm8 an8 cd8 ct8),sl8⟩) (c8:WQ K cd8 "_law_mix" = true) (k8:WI K (.ref f8)=true)
  (a9:WT K WJ "_law_name" = some (some (.ref f9))) (l9:K.lookup f9=some ⟨oc9,od9,.func (WU "_law_name" "_law_name" (Zk YN) (Zi YN) (Z2 YN) .none kV9 dc9 pm9 an9 cd9 ct9),sl9⟩) (c9:WQ K cd9 "_law_name" = true) (k9:WI K (.ref f9)=true)
  (a10:WT K WJ "_law_same" = some (some (.ref f10))) (l10:K.lookup f10=some ⟨oc10,od10,.func (WU "_law_same" "_law_same" (Zk YM) (Zi YM) (Z2 YM) .none kV10 dc10 pm10 an10 cd10 ct10),sl10⟩) (c10:WQ K cd10 "_law_same" = true) (k10:WI K (.ref f10)=true)
  (a11:WT K WJ "_law_which" = some (some (.ref f11))) (l11:K.lookup f11=some ⟨oc11,od11,.func (WU "_law_which" "_law_which" (Zk YW) (Zi YW) (Z2 YW) .none kV11 dc11 pm11 an11 cd11 ct11),sl11⟩) (c11:WQ K cd11 "_law_which" = true) (k11:WI K (.ref f11)=true)
  (a12:WT K WJ "_law_known" = some (some (.ref f12))) (l12:K.lookup f12=some ⟨oc12,od12,.func (WU "_law_known" "_law_known" (Zk YX) (Zi YX) (Z2 YX) .none kV12 dc12 pm12 an12 cd12 ct12),sl12⟩) (c12:WQ K cd12 "_law_known" = true) (k12:WI K (.ref f12)=true)
  (a13:WT K WJ "_law_text" = some (some (.ref f13))) (l13:K.lookup f13=some ⟨oc13,od13,.func (WU "_law_text" "_law_text" (Zk Q8) (Zi Q8) (Z2 Q8) .none kV13 dc13 pm13 an13 cd13 ct13),sl13⟩) (c13:WQ K cd13 "_law_text" = true) (k13:WI K (.ref f13)=true)
  (a14:WT K WJ "_law_marked" = some (some (.ref f14))) (l14:K.lookup f14=some ⟨oc14,od14,.func (WU "_law_marked" "_law_marked" (Zk Yj) (Zi Yj) (Z2 Yj) .none kV14 dc14 pm14 an14 cd14 ct14),sl14⟩) (c14:WQ K cd14 "_law_marked" = true) (k14:WI K (.ref f14)=true)
  (a15:WT K WJ "_law_file" = some (some (.ref f15))) (l15:K.lookup f15=some ⟨oc15,od15,.func (WU "_law_file" "_law_file" (Zk Qr) (Zi Qr) (Z2 Qr) .none kV15 dc15 pm15 an15 cd15 ct15),sl15⟩) (c15:WQ K cd15 "_law_file" = true) (k15:WI K (.ref f15)=true)
  (a16:WT K WJ "_law_in" = some (some (.ref f16))) (l16:K.lookup f16=some ⟨oc16,od16,.func (WU "_law_in" "_law_in" (Zk JT) (Zi JT) (Z2 JT) .none kV16 dc16 pm16 an16 cd16 ct16),sl16⟩) (c16:WQ K cd16 "_law_in" = true) (k16:WI K (.ref f16)=true)
  (a17:WT K WJ "_law_kept" = some (some (.ref f17))) (l17:K.lookup f17=some ⟨oc17,od17,.func (WU "_law_kept" "_law_kept" (Zk Yx) (Zi Yx) (Z2 Yx) .none kV17 dc17 pm17 an17 cd17 ct17),sl17⟩) (c17:WQ K cd17 "_law_kept" = true) (k17:WI K (.ref f17)=true)
  (a18:WT K WJ "_law_joint" = some (some (.ref f18))) (l18:K.lookup f18=some ⟨oc18,od18,.func (WU "_law_joint" "_law_joint" (Zk Yy) (Zi Yy) (Z2 Yy) .none kV18 dc18 pm18 an18 cd18 ct18),sl18⟩) (c18:WQ K cd18 "_law_joint" = true) (k18:WI K (.ref f18)=true)
  (a19:V1 K (.ref C_House) "count" = some (some (.ref f19))) (l19:K.lookup f19=some ⟨oc19,od19,.func (WU "count" "House.count" (Zk ZW) (Zi ZW) (Z2 ZW) .none kV19 dc19 pm19 an19 cd19 ct19),sl19⟩) (c19:WQ K cd19 "House.count" = true) (k19:WI K (.ref f19)=true) (e19:W0f K (.ref f19)=true)
  (a20:V1 K (.ref C_House) "file" = some (some (.ref f20))) (l20:K.lookup f20=some ⟨oc20,od20,.func (WU "file" "House.file" (Zk Y8) (Zi Y8) (Z2 Y8) .none kV20 dc20 pm20 an20 cd20 ct20),sl20⟩) (c20:WQ K cd20 "House.file" = true) (k20:WI K (.ref f20)=true) (e20:W0f K (.ref f20)=true)
  (a21:WT K WJ "is_gone" = some (some (.ref f21))) (l21:K.lookup f21=some ⟨oc21,od21,.func (WU "is_gone" "is_gone" (Zk Yw) (Zi Yw) (Z2 Yw) .none kV21 dc21 pm21 an21 cd21 ct21),sl21⟩) (c21:WQ K cd21 "is_gone" = true) (k21:WI K (.ref f21)=true)
  (a22:V1 K (.ref C_House) "all_files" = some (some (.ref f22))) (l22:K.lookup f22=some ⟨oc22,od22,.func (WU "all_files" "House.all_files" (Zk Zg) (Zi Zg) (Z2 Zg) .none kV22 dc22 pm22 an22 cd22 ct22),sl22⟩) (c22:WQ K cd22 "House.all_files" = true) (k22:WI K (.ref f22)=true) (e22:W0f K (.ref f22)=true)
  (a23:V1 K (.ref C_House) "files_on_shelf" = some (some (.ref f23))) (l23:K.lookup f23=some ⟨oc23,od23,.func (WU "files_on_shelf" "House.files_on_shelf" (Zk Zb) (Zi Zb) (Z2 Zb) .none kV23 dc23 pm23 an23 cd23 ct23),sl23⟩) (c23:WQ K cd23 "House.files_on_shelf" = true) (k23:WI K (.ref f23)=true) (e23:W0f K (.ref f23)=true)
  (a24:V1 K (.ref C_House) "ids" = some (some (.ref f24))) (l24:K.lookup f24=some ⟨oc24,od24,.func (WU "ids" "House.ids" (Zk Yc) (Zi Yc) (Z2 Yc) .none kV24 dc24 pm24 an24 cd24 ct24),sl24⟩) (c24:WQ K cd24 "House.ids" = true) (k24:WI K (.ref f24)=true) (e24:W0f K (.ref f24)=true)
  (a25:V1 K (.ref C_House) "gone" = some (some (.ref f25))) (l25:K.lookup f25=some ⟨oc25,od25,.func (WU "gone" "House.gone" (Zk ZV) (Zi ZV) (Z2 ZV) .none kV25 dc25 pm25 an25 cd25 ct25),sl25⟩) (c25:WQ K cd25 "House.gone" = true) (k25:WI K (.ref f25)=true) (e25:W0f K (.ref f25)=true)
  (a26:V1 K (.ref C_House) "heard" = some (some (.ref f26))) (l26:K.lookup f26=some ⟨oc26,od26,.func (WU "heard" "House.heard" (Zk ZM) (Zi ZM) (Z2 ZM) .none kV26 dc26 pm26 an26 cd26 ct26),sl26⟩) (c26:WQ K cd26 "House.heard" = true) (k26:WI K (.ref f26)=true) (e26:W0f K (.ref f26)=true)
  (a27:WT K WJ "_law_is_right" = some (some (.ref f27))) (l27:K.lookup f27=some ⟨oc27,od27,.func (WU "_law_is_right" "_law_is_right" (Zk ZG) (Zi ZG) (Z2 ZG) .none kV27 dc27 pm27 an27 cd27 ct27),sl27⟩) (c27:WQ K cd27 "_law_is_right" = true) (k27:WI K (.ref f27)=true)
  (a28:WT K WJ "law" = some (some (.ref f28))) (l28:K.lookup f28=some ⟨oc28,od28,.func (WU "law" "law" (Zk Tq) (Zi Tq) (Z2 Tq) .none kV28 dc28 pm28 an28 cd28 ct28),sl28⟩) (c28:WQ K cd28 "law" = true) (k28:WI K (.ref f28)=true)
  (z_all:WT K WJ "all" = some none)
  (z_any:WT K WJ "any" = some none)
  (z_bool:WT K WJ "bool" = some none)
  (z_dict:WT K WJ "dict" = some none)
  (z_int:WT K WJ "int" = some none)
  (z_isinstance:WT K WJ "isinstance" = some none)
  (z_len:WT K WJ "len" = some none)
  (z_max:WT K WJ "max" = some none)
  (z_range:WT K WJ "range" = some none)
  (z_set:WT K WJ "set" = some none)
  (z_sorted:WT K WJ "sorted" = some none)
  (z_str:WT K WJ "str" = some none)
  (z_tuple:WT K WJ "tuple" = some none)
  (z_zip:WT K WJ "zip" = some none) :
  ∃fd:FuncData,(∀(s:Shared) (v:Value),BindsTo s fd ⟨[v],[]⟩ [("_law_script",v)])/\∀base:Heap,K.In base->base.Ns WJ mg->FnOk l.prog w K mg base CX0 15 fa fd ["_law_script"] (spD K 1 F_law):=by
 have e:=hfa.symm.trans (Vc X G a28)
 cases e;have T:Txt K mg C_House:=⟨⟨cg_House,⟨ca_House,cb_House,cc_House,ce_House⟩⟩,Vc X G cg_House,cn_House_acts,cn_House_files,cn_House_own_number,cn_House_told,Ve X G z_all,Ve X G z_any,Ve X G z_bool,Ve X G z_dict,Ve X G z_int,Ve X G z_isinstance,Ve X G z_len,Ve X G z_max,Ve X G z_range,Ve X G z_set,Ve X G z_sorted,Ve X G z_str,Ve X G z_tuple,Ve X G z_zip⟩
 have Fn0:=ZX (st:=Y7) l0 c0 k0
 have O_7:OwnI K C_House "House.__init__" Y7 _ _ ["self", "number"]:=⟨Fn0,⟨cm_House,a0,e0,ck_House⟩,Fn0.binds (ps:=["self", "number"]) λ_ _ _ _ _ _ us hl=>match us,hl with|[_,_],_=>rfl⟩
 have Fn1:=ZX (st:=Zx) l1 c1 k1
 have O_22:Own K mg "greater_counts" Zx _ _ ["known", "other"]:=⟨Fn1,Vc X G a1,Fn1.binds (ps:=["known", "other"]) λ_ _ _ _ _ _ us hl=>match us,hl with|[_,_],_=>rfl⟩
 have Fn2:=ZX (st:=Yb) l2 c2 k2
 have O_24:Own K mg "is_within" Yb _ _ ["mark", "known"]:=⟨Fn2,Vc X G a2,Fn2.binds (ps:=["mark", "known"]) λ_ _ _ _ _ _ us hl=>match us,hl with|[_,_],_=>rfl⟩
 have Fn3:=ZX (st:=Zo) l3 c3 k3
 have O_26:Own K mg "not_taken_away" Zo _ _ ["pairs", "other_pairs", "other_known"]:=⟨Fn3,Vc X G a3,Fn3.binds (ps:=["pairs", "other_pairs", "other_known"]) λ_ _ _ _ _ _ us hl=>match us,hl with|[_,_,_],_=>rfl⟩
 have Fn4:=ZX (st:=Zw) l4 c4 k4
 have O_27:Own K mg "pairs_together" Zw _ _ ["pairs", "known", "other_pairs", "other_known"]:=⟨Fn4,Vc X G a4,Fn4.binds (ps:=["pairs", "known", "other_pairs", "other_known"]) λ_ _ _ _ _ _ us hl=>match us,hl with|[_,_,_,_],_=>rfl⟩
 have Fn5:=ZX (st:=ZP) l5 c5 k5
 have O_28:Own K mg "put_together" ZP _ _ ["one", "other"]:=⟨Fn5,Vc X G a5,Fn5.binds (ps:=["one", "other"]) λ_ _ _ _ _ _ us hl=>match us,hl with|[_,_],_=>rfl⟩
 have Fn6:=ZX (st:=Y6) l6 c6 k6
 have O_8:OwnM K C_House "take" "House.take" Y6 _ _ ["self", "file"]:=⟨Fn6,⟨a6,e6,k6⟩,Fn6.binds (ps:=["self", "file"]) λ_ _ _ _ _ _ us hl=>match us,hl with|[_,_],_=>rfl⟩
 have Fn7:=ZX (st:=Qs) l7 c7 k7
 have O_9:Own K mg "_law_cell" Qs _ _ ["_law_script", "_law_k"]:=⟨Fn7,Vc X G a7,Fn7.binds (ps:=["_law_script", "_law_k"]) λ_ _ _ _ _ _ us hl=>match us,hl with|[_,_],_=>rfl⟩
 have Fn8:=ZX (st:=YL) l8 c8 k8
 have O_17:Own K mg "_law_mix" YL _ _ ["_law_cell_here", "_law_prime", "_law_many"]:=⟨Fn8,Vc X G a8,Fn8.binds (ps:=["_law_cell_here", "_law_prime", "_law_many"]) λ_ _ _ _ _ _ us hl=>match us,hl with|[_,_,_],_=>rfl⟩
 have Fn9:=ZX (st:=YN) l9 c9 k9
 have O_18:Own K mg "_law_name" YN _ _ ["_law_cell_here"]:=⟨Fn9,Vc X G a9,Fn9.binds (ps:=["_law_cell_here"]) λ_ _ _ _ _ _ us hl=>match us,hl with|[_],_=>rfl⟩
 have Fn10:=ZX (st:=YM) l10 c10 k10
 have O_19:Own K mg "_law_same" YM _ _ ["_law_found", "_law_due"]:=⟨Fn10,Vc X G a10,Fn10.binds (ps:=["_law_found", "_law_due"]) λ_ _ _ _ _ _ us hl=>match us,hl with|[_,_],_=>rfl⟩
 have Fn11:=ZX (st:=YW) l11 c11 k11
 have O_21:Own K mg "_law_which" YW _ _ ["_law_cell_here"]:=⟨Fn11,Vc X G a11,Fn11.binds (ps:=["_law_cell_here"]) λ_ _ _ _ _ _ us hl=>match us,hl with|[_],_=>rfl⟩
 have Fn12:=ZX (st:=YX) l12 c12 k12
 have O_15:Own K mg "_law_known" YX _ _ ["_law_cell_here", "_law_which_here"]:=⟨Fn12,Vc X G a12,Fn12.binds (ps:=["_law_cell_here", "_law_which_here"]) λ_ _ _ _ _ _ us hl=>match us,hl with|[_,_],_=>rfl⟩
 have Fn13:=ZX (st:=Q8) l13 c13 k13
 have O_20:Own K mg "_law_text" Q8 _ _ ["_law_cell_here"]:=⟨Fn13,Vc X G a13,Fn13.binds (ps:=["_law_cell_here"]) λ_ _ _ _ _ _ us hl=>match us,hl with|[_],_=>rfl⟩
 have Fn14:=ZX (st:=Yj) l14 c14 k14
 have O_16:Own K mg "_law_marked" Yj _ _ ["_law_cell_here", "_law_known_here", "_law_kind", "_law_seed"]:=⟨Fn14,Vc X G a14,Fn14.binds (ps:=["_law_cell_here", "_law_known_here", "_law_kind", "_law_seed"]) λ_ _ _ _ _ _ us hl=>match us,hl with|[_,_,_,_],_=>rfl⟩
 have Fn15:=ZX (st:=Qr) l15 c15 k15
 have O_10:Own K mg "_law_file" Qr _ _ ["_law_cell_here", "_law_which_here", "_law_first", "_law_seed"]:=⟨Fn15,Vc X G a15,Fn15.binds (ps:=["_law_cell_here", "_law_which_here", "_law_first", "_law_seed"]) λ_ _ _ _ _ _ us hl=>match us,hl with|[_,_,_,_],_=>rfl⟩
 have Fn16:=ZX (st:=JT) l16 c16 k16
 have O_11:Own K mg "_law_in" JT _ _ ["_law_mark", "_law_known_here"]:=⟨Fn16,Vc X G a16,Fn16.binds (ps:=["_law_mark", "_law_known_here"]) λ_ _ _ _ _ _ us hl=>match us,hl with|[_,_],_=>rfl⟩
 have Fn17:=ZX (st:=Yx) l17 c17 k17
 have O_14:Own K mg "_law_kept" Yx _ _ ["_law_mine", "_law_my_known", "_law_yours", "_law_your_known"]:=⟨Fn17,Vc X G a17,Fn17.binds (ps:=["_law_mine", "_law_my_known", "_law_yours", "_law_your_known"]) λ_ _ _ _ _ _ us hl=>match us,hl with|[_,_,_,_],_=>rfl⟩
 have Fn18:=ZX (st:=Yy) l18 c18 k18
 have O_13:Own K mg "_law_joint" Yy _ _ ["_law_one", "_law_other"]:=⟨Fn18,Vc X G a18,Fn18.binds (ps:=["_law_one", "_law_other"]) λ_ _ _ _ _ _ us hl=>match us,hl with|[_,_],_=>rfl⟩
 have Fn19:=ZX (st:=ZW) l19 c19 k19
 have O_1:OwnM K C_House "count" "House.count" ZW _ _ ["self"]:=⟨Fn19,⟨a19,e19,k19⟩,Fn19.binds (ps:=["self"]) λ_ _ _ _ _ _ us hl=>match us,hl with|[_],_=>rfl⟩
 have Fn20:=ZX (st:=Y8) l20 c20 k20
 have O_2:OwnM K C_House "file" "House.file" Y8 _ _ ["self", "which"]:=⟨Fn20,⟨a20,e20,k20⟩,Fn20.binds (ps:=["self", "which"]) λ_ _ _ _ _ _ us hl=>match us,hl with|[_,_],_=>rfl⟩
 have Fn21:=ZX (st:=Yw) l21 c21 k21
 have O_23:Own K mg "is_gone" Yw _ _ ["file"]:=⟨Fn21,Vc X G a21,Fn21.binds (ps:=["file"]) λ_ _ _ _ _ _ us hl=>match us,hl with|[_],_=>rfl⟩
 have Fn22:=ZX (st:=Zg) l22 c22 k22
 have O_0:OwnM K C_House "all_files" "House.all_files" Zg _ _ ["self"]:=⟨Fn22,⟨a22,e22,k22⟩,Fn22.binds (ps:=["self"]) λ_ _ _ _ _ _ us hl=>match us,hl with|[_],_=>rfl⟩
 have Fn23:=ZX (st:=Zb) l23 c23 k23
 have O_3:OwnM K C_House "files_on_shelf" "House.files_on_shelf" Zb _ _ ["self"]:=⟨Fn23,⟨a23,e23,k23⟩,Fn23.binds (ps:=["self"]) λ_ _ _ _ _ _ us hl=>match us,hl with|[_],_=>rfl⟩
 have Fn24:=ZX (st:=Yc) l24 c24 k24
 have O_6:OwnM K C_House "ids" "House.ids" Yc _ _ ["self"]:=⟨Fn24,⟨a24,e24,k24⟩,Fn24.binds (ps:=["self"]) λ_ _ _ _ _ _ us hl=>match us,hl with|[_],_=>rfl⟩
 have Fn25:=ZX (st:=ZV) l25 c25 k25
 have O_4:OwnM K C_House "gone" "House.gone" ZV _ _ ["self"]:=⟨Fn25,⟨a25,e25,k25⟩,Fn25.binds (ps:=["self"]) λ_ _ _ _ _ _ us hl=>match us,hl with|[_],_=>rfl⟩
 have Fn26:=ZX (st:=ZM) l26 c26 k26
 have O_5:OwnM K C_House "heard" "House.heard" ZM _ _ ["self"]:=⟨Fn26,⟨a26,e26,k26⟩,Fn26.binds (ps:=["self"]) λ_ _ _ _ _ _ us hl=>match us,hl with|[_],_=>rfl⟩
 have Fn27:=ZX (st:=ZG) l27 c27 k27
 have O_12:Own K mg "_law_is_right" ZG _ _ ["_law_house", "_law_files"]:=⟨Fn27,Vc X G a27,Fn27.binds (ps:=["_law_house", "_law_files"]) λ_ _ _ _ _ _ us hl=>match us,hl with|[_,_],_=>rfl⟩
 have Fn28:=ZX (st:=Tq) l28 c28 k28
 have O_25:Own K mg "law" Tq _ _ ["_law_script"]:=⟨Fn28,Vc X G a28,Fn28.binds (ps:=["_law_script"]) λ_ _ _ _ _ _ us hl=>match us,hl with|[_],_=>rfl⟩
 refine⟨WU "law" "law" (Zk Tq) (Zi Tq) (Z2 Tq) .none kV28 dc28 pm28 an28 cd28 ct28,λs v=>.of_eq rfl,λbase _ _=>?_⟩
 have G_7:=Z2z (P:=l.prog) (w:=w) (base:=base) T O_7
 have G_22:=Z0T (P:=l.prog) (w:=w) (base:=base) T O_22
 have G_24:=Z0R (P:=l.prog) (w:=w) (base:=base) T O_24
 have G_26:=Z0P (P:=l.prog) (w:=w) (base:=base) T O_26 O_24 G_24
 have G_27:=Z0O (P:=l.prog) (w:=w) (base:=base) T O_27 O_26 G_26
 have G_28:=Z0N (P:=l.prog) (w:=w) (base:=base) T O_28 O_22 G_22 O_27 G_27
 have G_8:=Z2y (P:=l.prog) (w:=w) (base:=base) T O_8 O_28 G_28
 have G_9:=Z2x (P:=l.prog) (w:=w) (base:=base) T O_9
 have G_17:=Z0X (P:=l.prog) (w:=w) (base:=base) T O_17
 have G_18:=Z0W (P:=l.prog) (w:=w) (base:=base) T O_18 O_17 G_17
 have G_19:=DT (P:=l.prog) (w:=w) (base:=base) T O_19 12
 have G_21:=Z0U (P:=l.prog) (w:=w) (base:=base) T O_21 O_17 G_17
 have G_15:=Z0Z (P:=l.prog) (w:=w) (base:=base) T O_15 O_17 G_17
 have G_20:=Z0V (P:=l.prog) (w:=w) (base:=base) T O_20 O_17 G_17
 have G_16:=Z0Y (P:=l.prog) (w:=w) (base:=base) T O_16 O_17 G_17 O_18 G_18 O_20 G_20
 have G_10:=Z14 (P:=l.prog) (w:=w) (base:=base) T O_10 O_15 G_15 O_16 G_16
 have G_11:=Z13 (P:=l.prog) (w:=w) (base:=base) T O_11
 have G_14:=Z10 (P:=l.prog) (w:=w) (base:=base) T O_14 O_11 G_11
 have G_13:=Z11 (P:=l.prog) (w:=w) (base:=base) T O_13 O_14 G_14
 have G_1:=Z2F (P:=l.prog) (w:=w) (base:=base) T O_1
 have G_2:=Z2E (P:=l.prog) (w:=w) (base:=base) T O_2
 have G_23:=Z0S (P:=l.prog) (w:=w) (base:=base) T O_23
 have G_0:=Z2G (P:=l.prog) (w:=w) (base:=base) T O_0
 have G_3:=Z2D (P:=l.prog) (w:=w) (base:=base) T O_3 O_23 G_23 O_0 G_0
 have G_6:=Z2A (P:=l.prog) (w:=w) (base:=base) T O_6 O_3 G_3
 have G_4:=Z2C (P:=l.prog) (w:=w) (base:=base) T O_4 O_23 G_23 O_0 G_0
 have G_5:=Z2B (P:=l.prog) (w:=w) (base:=base) T O_5 O_0 G_0
 have G_12:=Z12 (P:=l.prog) (w:=w) (base:=base) T O_12 O_1 G_1 O_2 G_2 O_6 G_6 O_4 G_4 O_5 G_5 O_19 G_19
 exact Z0Q T O_25 O_7 G_7 O_8 G_8 O_9 G_9 O_17 G_17 O_18 G_18 O_19 G_19 O_21 G_21 O_10 G_10 O_13 G_13 O_12 G_12
end K09
namespace DL
open PySem L2
theorem RK {a:M D}{en:En}{S S1:Sto}{n:Nat}{ds:List D}(h1:a en S=some (.ref n,S1))(h3:S1[n]? = some (.lst ds))(ok:RO ds=true):Ty a en S=some (ZT (ddD ds),S1):=by
 unfold Ty;rw [h1,V0];dsimp only;rw [h3];dsimp only;rw [if_pos ok]
theorem FG {a:M D}{en:En}{S S1:Sto}{n:Nat}{kvs:List (D×D)}(h1:a en S=some (.ref n,S1))(h3:S1[n]? = some (.dct kvs))(ok:ON kvs=true):BQ a en S=some (ZT (Fi (kvs.map (·.1)) (kvs.map (·.2))),S1):=by
 unfold BQ;rw [h1,V0];dsimp only;rw [h3];dsimp only;rw [if_pos ok]
theorem Sl {a d:M D}{en:En}{S S1 S2:Sto}{n:Nat}{v:D}{ss:List Int}(h1:a en S=some (.ref n,S1))(h2:d en S1=some (v,S2))(h3:S2[n]? = some (.lst (ss.map D.int))):PH a d en S=some (if ss.isEmpty then v else .int (KJ ss),S2):=by
 unfold PH;rw [h1,V0];dsimp only;rw [h2,V0];dsimp only;rw [h3];dsimp only;rw [Nc];rfl
theorem Ep (a:Int):KJ [a]=a:=rfl
theorem O5 (a b:Int):KJ [a,b]=max a b:=by
 show ([a,b].getD (argBest (R7 [a,b]) 1) default)=_
 unfold argBest;show ([a,b].getD (if R7 [a,b] 1 0=true then 1 else 0) default)=_
 have e:R7 [a,b] 1 0=decide (b>a):=rfl
 rw [e];by_cases h:b>a
 ·rw [decide_eq_true h,if_pos rfl]
  show b=_
  omega
 ·rw [decide_eq_false h,if_neg Wy]
  show a=_
  omega
theorem MR (key:Nat->D):∀n,((nwI key n).map key).Nodup/\∀d,d∈(nwI key n).map key↔d∈(W6 n).map key
 |0=>⟨by simp [nwI],λd=>by simp [nwI]⟩
 |n+1=>by
  obtain⟨h1,h2⟩:=MR key n
  unfold nwI;split
  ·rename_i h
   refine⟨h1,λd=>?_⟩
   rw [h2,List.range_succ,WP,WH];refine⟨.inl,λz=>?_⟩
   rcases z with z|z
   ·exact z
   ·rw [W1,We,WA] at z
    rw [z];exact h
  ·rename_i h
   rw [WP];refine⟨W0q.mpr ⟨h1,by simp,λa ha b hb z=>?_⟩,λd=>?_⟩
   ·rw [W1,We,WA] at hb
    rw [z,hb] at ha;exact h ((h2 _).mp ha)
   ·rw [WH,h2,List.range_succ,WP,WH]
theorem P3 (ds:List D):(W6 ds.length).map (λi=>ds.getD i .non)=ds:=by
 refine W2E λi=>?_
 rw [WE];by_cases q:i<ds.length
 ·rw [List.getElem?_range q,W3,VB,Wl q];rfl
 ·rw [W1X (by rw [V5];omega),W1X (by omega)];rfl
theorem Kn (ds:List D):(ddD ds).Nodup/\∀d,d∈ddD ds↔d∈ds:=by
 have h:=MR (λi=>ds.getD i .non) ds.length
 rw [P3] at h;exact h
theorem NF {l L:List D}(hc:YZ 30 l)(hp:l.Perm L)(hs:L.Pairwise leD):ZT l=L:=Th hc ((Y1 l).trans hp) (Yo hc λ_ h=>h) hs λa ha=>(Y1 l).mem_iff.mp ha
end DL
namespace K09
open PySem L2 DL
theorem Yz {c p m:Int}{S:Sto}(hp:0<p)(hm:0<m):Zu [.int c,.int p,.int m] S=some (.int (c*48271%p%m),S):=by
 unfold Zu;simp only [EVS,W9,Wa,Wf,W2,Wg,Wh,Wb,Wc,W5,↓reduceIte,reduceCtorEq,W1,We,W3,OW,Jk,hp,hm]
theorem TW (ns:List Int)(k:Nat):∃c:Int,∀S,Yd [.scr ns,.int k] S=some (.int c,S):=by
 by_cases h:k<ns.length
 ·refine⟨ns[k],λS=>?_⟩
  unfold Yd;simp only [EVS,W9,Wa,Wf,W2,Wg,Wh,Wb,Wc,W5,↓reduceIte,reduceCtorEq,W1,We,W3,Os,Ex,Int.ofNat_lt,h,gIx,Bn (Wl h)]
 ·refine⟨0,λS=>?_⟩
  unfold Yd;simp only [EVS,W9,Wa,Wf,W2,Wg,Wh,Wb,Wc,W5,↓reduceIte,reduceCtorEq,W1,We,W3,Os,Ex,Int.ofNat_lt,h]
theorem Lo (x:Str)(S:Sto):Ar "str" (some (.str x,S))=some (.bl true,S):=rfl
theorem ixS {z:Str}{i:Int}{S:Sto}(hz:z.length<=Wk)(h0:0<=i)(h1:i<(cs z).length):gIx (.str z) (.int i) S=some (.str ⟨#[(cs z).getD i.toNat 0]⟩,S):=by
 obtain⟨a,ha,e1,e2⟩:=XT (xs:=cs z) h0 h1
 show (if z.length<=Wk then (atI (cs z) i).map λc=>(D.str ⟨#[c]⟩,S) else none)=_
 rw [if_pos hz,e2];have:(cs z).getD i.toNat 0=a:=by simp [W0j,e1]
 rw [this];rfl
def Fj (z:Str)(c p:Int)(k:Nat):Nat:=(cs z).getD ((c+7*(k:Int))*48271%p%((cs z).length:Int)).toNat 0
theorem GV {z:Str}{c p:Int}{k:Nat}(hz:0<(cs z).length):Fj z c p k∈cs z:=by
 unfold Fj;have h0:=Vg ((c+7*(k:Int))*48271%p) (b:=((cs z).length:Int)) (by omega)
 have h1:=Vi ((c+7*(k:Int))*48271%p) (b:=((cs z).length:Int)) (by omega)
 have hj:((c+7*(k:Int))*48271%p%((cs z).length:Int)).toNat<(cs z).length:=by omega
 rw [VB,Wl hj];exact W08 hj
theorem Jf {z:Str}{c p:Int}{n:Nat}{S:Sto}(hz:0<(cs z).length)(hz2:(cs z).length<=Wk)(hp:0<p)(hn:n<=1000) :
  Lg (Wx "") (ZK (Ny 0 n) .no [none,some (.int c),some (.str z)] (gN 0) Qf (mOp gIx (Z5 2) (Zm Zu (Z3 (mOp JD (Z5 1) (mOp Nd (Zd (D.int (7))) (Z5 0))) (Z3 (Zd (D.int p)) (Z3 (Rm (Z5 2)) ZR))))) (Ny 0 n) [] S)
   = some (.str ⟨((W6 n).map (Fj z c p)).toArray⟩,S):=by
 have hl:n<=Wk:=V7 hn (by decide)
 have hs:z.length<=Wk:=by rw [Ew];exact hz2
 rw [JU,YT (W6 n) (λk=>D.int (k:Nat)) (λk=>D.str ⟨#[Fj z c p k]⟩) YD (by simpa using hl) λk hk=>⟨_,rfl,?_⟩]
 ·have e:(W6 n).map (λk=>D.str ⟨#[Fj z c p k]⟩)=((W6 n).map λk=>(⟨#[Fj z c p k]⟩:Str)).map D.str:=by rw [WY];rfl
  have hsum:∀(l:List Nat),((l.map λk=>(⟨#[Fj z c p k]⟩:Str)).map (·.length)).sum=l.length:=by
   intro l
   induction l with
   |nil=>rfl
   |cons a l ih=>rw [W1,W1,List.sum_cons,ih,WS];show 1+_=_;omega
  have he:(Wx "").length=0:=by decide +kernel
  rw [e,Sz (by rw [hsum,he];simp;omega)]
  congr 2
  congr 1
  apply HB
  rw [Bj,Mh]
  generalize W6 n=l
  induction l with
  |nil=>rfl
  |cons a l ih=>rw [W1,List.flatMap_cons,ih];rfl
 ·have h0:=Vg ((c+7*(k:Int))*48271%p) (b:=((cs z).length:Int)) (by omega)
  have h1:=Vi ((c+7*(k:Int))*48271%p) (b:=((cs z).length:Int)) (by omega)
  have hz':(0:Int)<((cs z).length:Int):=by omega
  simp only [EVS,W9,Wa,Wf,W2,Wg,Wh,Wb,Wc,W5,↓reduceIte,reduceCtorEq,W1,We,W3,U5,Oq,Ew,hz2,Yz,hp,hz']
  rw [ixS hs h0 h1];rfl
theorem Pw (c:Int):∃x,(1<=(cs x).length/\(cs x).length<=6)/\(∀ch∈cs x,97<=ch/\ch<=122)/\∀S,YV [.int c] S=some (.str x,S):=by
 have ha:cs (Wx "abcdefghijklmnopqrstuvwxyz")=(W6 26).map (· + 97):=by decide +kernel
 have hab:cs (Wx "ab")=[97,98]:=by decide +kernel
 have m0:=Vg (c*48271%9973) (b:=6) (by decide)
 have m1:=Vi (c*48271%9973) (b:=6) (by decide)
 by_cases h3:c%3=0
 ·have n0:=Vg (1+c*48271%9973%6) (b:=2) (by decide)
  have n1:=Vi (1+c*48271%9973%6) (b:=2) (by decide)
  generalize hn:1+(1+c*48271%9973%6)%2=n at *
  refine⟨⟨((W6 n.toNat).map (Fj (Wx "ab") c 9967)).toArray⟩,?_,?_,λS=>?_⟩
  ·rw [Mh];simp;omega
  ·rw [Mh]
   intro ch hch;obtain⟨k,_,rfl⟩:=WB.mp hch
   have:=GV (z:=Wx "ab") (c:=c) (p:=9967) (k:=k) (by rw [hab];decide)
   rw [hab] at this;simp at this
   omega
  ·unfold YV
   have hr : -(2 ^ 62)<=n/\n<2 ^ 62:=by omega
   simp only [EVS,W9,Wa,Wf,W2,Wg,Wh,Wb,Wc,W5,↓reduceIte,reduceCtorEq,W1,We,W3,Yz,Jk,h3,hn,Bb hr,UB]
   rw [Jf (by rw [hab];decide) (by rw [hab];decide) (by decide) (by omega)]
   simp only [EVS,W9,Wa,Wf,W2,Wg,Wh,Wb,Wc,W5,↓reduceIte,reduceCtorEq,W1,We,W3]
 ·generalize hn:1+c*48271%9973%6=n at *
  refine⟨⟨((W6 n.toNat).map (Fj (Wx "abcdefghijklmnopqrstuvwxyz") c 9967)).toArray⟩,?_,?_,λS=>?_⟩
  ·rw [Mh];simp;omega
  ·rw [Mh]
   intro ch hch;obtain⟨k,_,rfl⟩:=WB.mp hch
   have:=GV (z:=Wx "abcdefghijklmnopqrstuvwxyz") (c:=c) (p:=9967) (k:=k) (by rw [ha];decide)
   rw [ha] at this;simp at this
   omega
  ·unfold YV
   have hr : -(2 ^ 62)<=n/\n<2 ^ 62:=by omega
   simp only [EVS,W9,Wa,Wf,W2,Wg,Wh,Wb,Wc,W5,↓reduceIte,reduceCtorEq,W1,We,W3,Yz,Jk,h3,hn,Bb hr,UB]
   rw [Jf (by rw [ha];decide) (by rw [ha];decide) (by decide) (by omega)]
   simp only [EVS,W9,Wa,Wf,W2,Wg,Wh,Wb,Wc,W5,↓reduceIte,reduceCtorEq,W1,We,W3]
theorem Hw (c:Int):∃x,(cs x).length<=60/\(∀ch∈cs x,32<=ch/\ch<=126)/\∀S,Yn [.int c] S=some (.str x,S):=by
 generalize hz : Wx " !\"#$&'()*+,-./0123456789:;<=>?\x40ABCDEFGHIJKLMNOPQRSTUVWXYZ[\\]^_`abcdefghijklmnopqrstuvwxyz{|}~" = z
 have hz1:(cs z).length=94:=by rw [<-hz];decide +kernel
 have hz2:∀ch∈cs z,32<=ch/\ch<=126:=by rw [<-hz];decide +kernel
 by_cases h4:c%4=0
 ·have m0:=Vg (c*48271%9929) (b:=3) (by decide)
  have m1:=Vi (c*48271%9929) (b:=3) (by decide)
  have key:∀x,(cs x).length<=60->(∀ch∈cs x,32<=ch/\ch<=126)->(∀S,gIx (.tup [.str (Wx ""),.str (Wx "a"),.str (Wx "hi;")]) (.int (c*48271%9929%3)) S=some (.str x,S))->
    ∃x,(cs x).length<=60/\(∀ch∈cs x,32<=ch/\ch<=126)/\∀S,Yn [.int c] S=some (.str x,S):=by
   intro x h1 h2 h3;refine⟨x,h1,h2,λS=>?_⟩
   unfold Yn;by_cases g0:c*48271%9941%9=0
   ·simp only [EVS,W9,Wa,Wf,W2,Wg,Wh,Wb,Wc,W5,↓reduceIte,reduceCtorEq,W1,We,W3,Yz,Jk,h4,g0,JC (show [D.str (Wx ""),.str (Wx "a"),.str (Wx "hi;")].length<=Wk by decide),h3,Int.reduceEq]
   ·by_cases g1:c*48271%9941%9=1
    ·simp only [EVS,W9,Wa,Wf,W2,Wg,Wh,Wb,Wc,W5,↓reduceIte,reduceCtorEq,W1,We,W3,Yz,Jk,h4,g1,JC (show [D.str (Wx ""),.str (Wx "a"),.str (Wx "hi;")].length<=Wk by decide),h3,Int.reduceEq]
    ·simp only [EVS,W9,Wa,Wf,W2,Wg,Wh,Wb,Wc,W5,↓reduceIte,reduceCtorEq,W1,We,W3,Yz,Jk,h4,g0,g1,JC (show [D.str (Wx ""),.str (Wx "a"),.str (Wx "hi;")].length<=Wk by decide),h3,Int.reduceEq]
  have h012:c*48271%9929%3=0\/c*48271%9929%3=1\/c*48271%9929%3=2:=by omega
  rcases h012 with h|h|h
  ·exact key (Wx "") (by decide +kernel) (by decide +kernel) (λS=>by rw [h];simp only [LH,LG,LF])
  ·exact key (Wx "a") (by decide +kernel) (by decide +kernel) (λS=>by rw [h];simp only [LH,LG,LF])
  ·exact key (Wx "hi;") (by decide +kernel) (by decide +kernel) (λS=>by rw [h];simp only [LH,LG,LF])
 ·have key:∀n:Int,0<=n->n<=60->(∀S,Yn [.int c] S=some (.str ⟨((W6 n.toNat).map (Fj z c 9923)).toArray⟩,S))->
    ∃x,(cs x).length<=60/\(∀ch∈cs x,32<=ch/\ch<=126)/\∀S,Yn [.int c] S=some (.str x,S):=by
   intro n h0 h1 h2;refine⟨_,?_,?_,h2⟩
   ·rw [Mh];simp;omega
   ·rw [Mh]
    intro ch hch;obtain⟨k,_,rfl⟩:=WB.mp hch
    exact hz2 _ (GV (by omega))
  have m0:=Vg (c*48271%9949) (b:=5) (by decide)
  have m1:=Vi (c*48271%9949) (b:=5) (by decide)
  have n0:=Vg (c*48271%9931) (b:=61) (by decide)
  have n1:=Vi (c*48271%9931) (b:=61) (by decide)
  by_cases g0:c*48271%9941%9=0
  ·refine key 60 (by decide) (by decide) λS=>?_
   unfold Yn;simp only [EVS,W9,Wa,Wf,W2,Wg,Wh,Wb,Wc,W5,↓reduceIte,reduceCtorEq,W1,We,W3,Yz,Jk,h4,g0,hz,Jy,Bb (show -(2 ^ 62)<=(60:Int)/\(60:Int)<2 ^ 62 by decide),Int.reduceEq]
   rw [Jf (by omega) (by rw [hz1];decide) (by decide) (by decide)]
   simp only [EVS,W9,Wa,Wf,W2,Wg,Wh,Wb,Wc,W5,↓reduceIte,reduceCtorEq,W1,We,W3]
  ·by_cases g1:c*48271%9941%9=1
   ·refine key (c*48271%9931%61) n0 (by omega) λS=>?_
    unfold Yn;simp only [EVS,W9,Wa,Wf,W2,Wg,Wh,Wb,Wc,W5,↓reduceIte,reduceCtorEq,W1,We,W3,Yz,Jk,h4,g1,hz,Jy,Bb (show -(2 ^ 62)<=c*48271%9931%61/\c*48271%9931%61<2 ^ 62 by omega),Int.reduceEq]
    rw [Jf (by omega) (by rw [hz1];decide) (by decide) (by omega)]
    simp only [EVS,W9,Wa,Wf,W2,Wg,Wh,Wb,Wc,W5,↓reduceIte,reduceCtorEq,W1,We,W3]
   ·refine key (c*48271%9949%5) m0 (by omega) λS=>?_
    unfold Yn;simp only [EVS,W9,Wa,Wf,W2,Wg,Wh,Wb,Wc,W5,↓reduceIte,reduceCtorEq,W1,We,W3,Yz,Jk,h4,g0,g1,hz,Jy,Bb (show -(2 ^ 62)<=c*48271%9949%5/\c*48271%9949%5<2 ^ 62 by omega),Int.reduceEq]
    rw [Jf (by omega) (by rw [hz1];decide) (by decide) (by omega)]
    simp only [EVS,W9,Wa,Wf,W2,Wg,Wh,Wb,Wc,W5,↓reduceIte,reduceCtorEq,W1,We,W3]
abbrev Mk:=Int×Int
def enc (p:Mk):D:=.tup [.int p.1,.int p.2]
def J1 (p:Mk):D×D:=(.int p.1,.int p.2)
def Zc (ms:List Mk)(q:Mk):Bool:=ms.any λp=>decide (p.1=q.1)&&decide (q.2<=p.2)
theorem Hh {α:Type}(f:α->Bool)(l:List α):(l.map f).any id=l.any f:=by rw [W0W];rfl
theorem Rx {h n:Int}{ms:List Mk}{S:Sto}(hl:ms.length<=Wk):Yr [.tup [.int h,.int n],.tup (ms.map enc)] S=some (.bl (Zc ms (h,n)),S):=by
 unfold Yr;simp only [EVS,W9,Wa,Wf,W2,Wg,Wh,Wb,Wc,W5,↓reduceIte,reduceCtorEq,W1,We,W3]
 rw [YT ms enc (λp=>D.bl (decide (p.1=h)&&decide (n<=p.2))) YD hl λp hp=>⟨_,rfl,?_⟩]
 ·have e:ms.map (λp=>D.bl (decide (p.1=h)&&decide (n<=p.2)))=(ms.map λp=>(decide (p.1=h)&&decide (n<=p.2))).map D.bl:=by rw [WY];rfl
  rw [e,Ow,Hh];simp only [EVS,W9,Wa,Wf,W2,Wg,Wh,Wb,Wc,W5,↓reduceIte,reduceCtorEq,W1,We,W3,Zc]
 ·simp only [Ud,EVS,W9,Wa,Wf,W2,Wg,Wh,Wb,Wc,W5,↓reduceIte,reduceCtorEq,W1,We,W3,enc]
  by_cases q:p.1=h<;>simp [q]
theorem Fv (c:Int):∃w:Nat,∃n:Int,w<6/\1<=n/\∀S,Jq [.int c] S=some (.tup [.int w,.int n],S):=by
 have a0:=Vg (c*48271%9871) (b:=6) (by decide)
 have a1:=Vi (c*48271%9871) (b:=6) (by decide)
 have b0:=Vg (c*48271%9859) (b:=4) (by decide)
 have c0:=Vg c (b:=2) (by decide)
 obtain⟨w,hw⟩:=Int.eq_ofNat_of_zero_le a0
 refine⟨w,1+c*48271%9859%4+9*(c%2),by omega,by omega,λS=>?_⟩
 unfold Jq;simp only [EVS,W9,Wa,Wf,W2,Wg,Wh,Wb,Wc,W5,↓reduceIte,reduceCtorEq,W1,We,W3,Yz,Jk,U5,hw,show (0:Int)<9871 by decide,show (0:Int)<9859 by decide,show (0:Int)<6 by decide,show (0:Int)<4 by decide,show (0:Int)<2 by decide]
def kn (f:Nat->Int)(l:List Nat):List Mk:=(l.filter λh=>decide (0<f h)).map λh:Nat=>((h:Int),f h)
theorem JJ (f:Nat->Int)(l:List Nat):(kn f l).length<=l.length:=by unfold kn;rw [W7];exact V9 ..
theorem Uu (f:Nat->Int)(l:List Nat)(h:Nat):kn f (l++[h])=if 0<f h then kn f l++[((h:Int),f h)] else kn f l:=by
 unfold kn;rw [W1E,WP];by_cases q:0<f h<;>simp [q]
theorem JO (n:Nat)(ms:List Mk):J6 n (D.tup (ms.map enc))=true:=by
 unfold J6
 induction ms with
 |nil=>unfold lowDs;rfl
 |cons p ms ih=>
  rw [W1];unfold lowDs;rw [ih,W0o];unfold enc J6 lowDs J6 lowDs J6 lowDs;rfl
theorem Ao (c:Int)(w:Nat)(n:Int)(hw:w<6)(hn:1<=n):∃f:Nat->Int,(∀h,0<=f h)/\n<=f w/\∀S,Jr [.int c,.tup [.int w,.int n]] S=some (.tup ((kn f (W6 6)).map enc),S):=by
 refine⟨λh=>(c+31*(h:Int))*48271%9907%3+(if h=w then n else 0),λh=>?_,?_,λS=>?_⟩
 ·have:=Vg ((c+31*(h:Int))*48271%9907) (b:=3) (by decide)
  dsimp only;split<;>omega
 ·have:=Vg ((c+31*(w:Int))*48271%9907) (b:=3) (by decide)
  dsimp only;rw [if_pos rfl];omega
 ·generalize hf:(λh:Nat=>(c+31*(h:Int))*48271%9907%3+(if h=w then n else 0))=f
  have hfx:∀h:Nat,f h=(c+31*(h:Int))*48271%9907%3+(if h=w then n else 0):=λh=>by rw [<-hf]
  have hS0:∀S:Sto,J6 S.length (D.tup ((kn f (W6 6)).map enc))=true:=λS=>JO _ _
  let P:List Nat->En->Sto->Prop:=λpre en S'=>∃x3 x4,en=[some (.int c),some (.tup [.int w,.int n]),some (.ref S.length),x3,x4]/\S'=S++[.lst ((kn f pre).map enc)]
  have step:∀(pre:List Nat) (k:Nat) (post:List Nat) (en:En) (S1:Sto),W6 6=pre++k :: post->P pre en S1->∃en1,gN 3 (D.int (k:Nat)) en=some en1/\∃en2 S2,Yq en1 S1=some (.nx,en2,S2)/\P (pre++[k]) en2 S2:=by
   intro pre k post en S1 hpre hP;obtain⟨x3,x4,rfl,rfl⟩:=hP
   refine⟨_,rfl,?_⟩
   have hlen:(kn f pre).length<Wk:=by
    have h1:=JJ f pre
    have h2:=congrArg Va hpre
    simp at h2
    exact Nat.lt_of_le_of_lt (show (kn f pre).length<=6 by omega) (by decide)
   have hfk:=hfx k
   have q1:(0:Int)<9907:=by decide
   have q2:(0:Int)<3:=by decide
   by_cases hk:k=w
   ·subst hk
    rw [if_pos rfl] at hfk;by_cases hp:0<f k
    ·refine⟨[some (.int c),some (.tup [.int (k:Nat),.int n]),some (.ref S.length),some (.int (k:Nat)),some (.int (f k))],_,?_,_,_,rfl,rfl⟩
     rw [Uu,if_pos hp,WP];simp only [Yq,EVS,W9,Wa,Wf,W2,Wg,Wh,Wb,Wc,W5,↓reduceIte,reduceCtorEq,W1,We,W3,U5,Yz,q1,q2,<-hfk,hp,F5,W7,hlen]<;>rfl
    ·refine⟨[some (.int c),some (.tup [.int (k:Nat),.int n]),some (.ref S.length),some (.int (k:Nat)),some (.int (f k))],_,?_,_,_,rfl,rfl⟩
     rw [Uu,if_neg hp];simp only [Yq,EVS,W9,Wa,Wf,W2,Wg,Wh,Wb,Wc,W5,↓reduceIte,reduceCtorEq,W1,We,W3,U5,Yz,q1,q2,<-hfk,hp]<;>rfl
   ·have hk':¬((k:Nat):Int)=(w:Int):=λz=>hk (by omega)
    rw [if_neg hk,Int.add_zero] at hfk;by_cases hp:0<f k
    ·refine⟨[some (.int c),some (.tup [.int w,.int n]),some (.ref S.length),some (.int (k:Nat)),some (.int (f k))],_,?_,_,_,rfl,rfl⟩
     rw [Uu,if_pos hp,WP];simp only [Yq,EVS,W9,Wa,Wf,W2,Wg,Wh,Wb,Wc,W5,↓reduceIte,reduceCtorEq,W1,We,W3,U5,Yz,q1,q2,<-hfk,hk',hp,F5,W7,hlen]<;>rfl
    ·refine⟨[some (.int c),some (.tup [.int w,.int n]),some (.ref S.length),some (.int (k:Nat)),some (.int (f k))],_,?_,_,_,rfl,rfl⟩
     rw [Uu,if_neg hp];simp only [Yq,EVS,W9,Wa,Wf,W2,Wg,Wh,Wb,Wc,W5,↓reduceIte,reduceCtorEq,W1,We,W3,U5,Yz,q1,q2,<-hfk,hk',hp]<;>rfl
  obtain⟨en',S',e,x3,x4,e2,e3⟩:=QO (g:=gN 3) (ds0:=Ny 0 6) (gd:=.no) (body:=Yq) (W6 6) (λk=>D.int (k:Nat)) P step (λ_ _ _ _=>trivial)
   (en:=[some (.int c),some (.tup [.int w,.int n]),some (.ref S.length),none,none]) (S:=S++[.lst []]) ⟨_,_,rfl,rfl⟩
  rw [<-JU] at e;unfold Jr;have h6:Int.toNat 6=6:=rfl
  simp only [EVS,W9,Wa,Wf,W2,Wg,Wh,Wb,Wc,W5,↓reduceIte,reduceCtorEq,W1,We,W3,Bb (show -(2 ^ 62)<=(6:Int)/\(6:Int)<2 ^ 62 by decide),h6,e]
  subst e2 e3;simp only [EVS,W9,Wa,Wf,W2,Wg,Wh,Wb,Wc,W5,↓reduceIte,reduceCtorEq,W1,We,W3]
  rw [Yl _ _ _ (hS0 S)]
theorem Rw (f:Nat->Int)(h:Nat)(h6:h<6)(n:Int):Zc (kn f (W6 6)) ((h:Int),n)=(decide (0<f h)&&decide (n<=f h)):=by
 rw [VX];unfold Zc kn;simp only [W0W,WZ,Vw,Vf,decide_eq_true_eq,Function.comp,Wm]
 constructor
 ·rintro⟨a,⟨_,h2⟩,h3,h4⟩
  have:a=h:=by omega
  subst this;exact⟨h2,h4⟩
 ·rintro⟨h1,h2⟩
  exact⟨h,⟨h6,h1⟩,rfl,h2⟩
theorem UR {f:Nat->Int}{p:Mk}(hp:p∈kn f (W6 6)):∃h:Nat,h<6/\0<f h/\p=((h:Int),f h):=by
 unfold kn at hp;obtain⟨h,h1,rfl⟩:=WB.mp hp
 rw [Vw] at h1;exact⟨h,by simpa using h1.1,by simpa using h1.2,rfl⟩
theorem B0 (f:Nat->Int):((kn f (W6 6)).map (·.1)).Nodup:=by
 unfold kn;rw [WY];have h1:((W6 6).filter λh=>decide (0<f h)).Nodup:=W13 _ W0O
 exact List.Pairwise.map _ (λa b hab z=>hab (Int.ofNat.inj z)) h1
theorem Pn (ms:List Mk):JW (ms.map enc)=some (ms.map J1):=by
 induction ms with
 |nil=>rfl
 |cons p ms ih=>
  rw [W1,W1];show (if (QM (D.int p.1)).isSome=true then (JW (ms.map enc)).map λps=>(D.int p.1,D.int p.2) :: ps else none)=_
  rw [if_pos (show (QM (D.int p.1)).isSome=true from rfl),ih];rfl
theorem TK (a b:Int):kEq (.int a) (.int b)=decide (a=b):=by
 unfold kEq QM;dsimp only;rw [VX];simp
theorem AK (ms:List Mk)(h n:Int)(hn:h∉ms.map (·.1)):Td (ms.map J1) (.int h) (.int n)=(ms++[(h,n)]).map J1:=by
 unfold Td;rw [if_neg,WP]
 ·rfl
 ·rw [W0W,WZ]
  rintro⟨p,p1,p2⟩
  have p3:kEq (.int p.1) (.int h)=true:=p2
  rw [TK,decide_eq_true_eq] at p3;exact hn (WB.mpr ⟨p,p1,p3⟩)
theorem Gz:∀(ms acc:List Mk),((acc++ms).map (·.1)).Nodup->US (acc.map J1) (ms.map J1)=(acc++ms).map J1
 |[],acc,_=>by rw [VL];rfl
 |p :: ms,acc,h=>by
  have e:acc++p :: ms=(acc++[p])++ms:=by rw [WN];rfl
  show US (Td (acc.map J1) (.int p.1) (.int p.2)) (ms.map J1)=_
  have hn:p.1∉acc.map (·.1):=by
   rw [WP,W1,W0q] at h;intro z;exact h.2.2 _ z p.1 Wp rfl
  rw [AK acc p.1 p.2 hn,Gz ms (acc++[p]) (by rw [<-e];exact h),e]
theorem AO {ms:List Mk}{S:Sto}(hl:ms.length<=Wk)(hn:(ms.map (·.1)).Nodup):Lj (some (.tup (ms.map enc),S))=some (.ref S.length,S++[.dct (ms.map J1)]):=by
 rw [Ir (by simpa using hl) (Pn ms),show ([]:List (D×D))=([]:List Mk).map J1 from rfl,Gz ms [] (by simpa using hn)]
 rfl
theorem Kl:∀{ms:List Mk} {h n:Int},(ms.map (·.1)).Nodup->(h,n)∈ms->J7 (ms.map J1) (.int h)=some (.int n)
 |[],_,_,_,z=>by cases z
 |p :: ms,h,n,hn,hm=>by
  unfold J7;rw [W1,VN];have e:kEq (J1 p).1 (.int h)=decide (p.1=h):=TK _ _
  rw [W1,VE] at hn;by_cases q:p.1=h
  ·rw [e,decide_eq_true q]
   rcases Wv.mp hm with z|z
   ·rw [<-z];rfl
   ·exact absurd (WB.mpr ⟨_,z,q.symm⟩) hn.1
  ·rw [e,decide_eq_false q]
   rcases Wv.mp hm with z|z
   ·rw [<-z] at q;exact absurd rfl q
   ·exact Kl hn.2 z
theorem Ni:∀{ms:List Mk} {h:Int},h∉ms.map (·.1)->J7 (ms.map J1) (.int h)=none
 |[],_,_=>rfl
 |p :: ms,h,hn=>by
  unfold J7;rw [W1,Wv,not_or] at hn;rw [W1,VN];have e:kEq (J1 p).1 (.int h)=decide (p.1=h):=TK _ _
  rw [e,decide_eq_false (λz=>hn.1 z.symm)]
  exact Ni hn.2
theorem B5 (ms:List Mk):((ms.map J1).all λp=>(QM p.1).isSome)=true:=by
 rw [W1o,Ww];intro p _;rfl
theorem Ij {S:Sto}{n:Nat}{ms:List Mk}{h:Int}(e:S[n]? = some (.dct (ms.map J1))):Q7 S n (.int h)=some (ms.map J1):=by
 unfold Q7;rw [e];dsimp only;rw [if_pos];show ((ms.map J1).all λp=>(QM p.1).isSome)=true
 exact B5 ms
def rise (ds:List D):Bool:=(ds.zip (ds.drop 1)).all λp=>ltD p.1 p.2
def hd1:D->D
 | .tup (a :: _)=>a
 |_=>.non
theorem N9 {S:Sto}{n:Nat}{ds:List D}(h:S[n]? = some (.lst ds)):Lh (some (.ref n,S))=some ((ds,.lst n),S):=by
 show Lm (.ref n) S=_
 dsimp only [Lm];rw [h]
def dec:D->Mk
 | .tup [.int a,.int b]=>(a,b)
 |_=>(0,0)
def Uj (p:Mk×Str):D×D:=(enc p.1,.str p.2)
theorem TH (p:Mk):QB (enc p)=some [.inl p.1,.inl p.2]:=rfl
theorem Bc (p q:Mk):kEq (enc p) (enc q)=decide (p=q):=by
 rw [OG (TH p) (TH q)];rw [VX];simp only [decide_eq_true_eq,W06,and_true,Sum.inl.injEq]
 constructor
 ·rintro⟨h1,h2⟩;exact Prod.ext h1 h2
 ·rintro rfl;exact⟨rfl,rfl⟩
def Ts (ps:List (Mk×Str))(m:Mk)(x:Str):List (Mk×Str):=if (ps.any λp=>decide (p.1=m))=true then ps.map (λp=>if p.1=m then (p.1,x) else p) else ps++[(m,x)]
theorem AM (ps:List (Mk×Str))(m:Mk)(x:Str):Td (ps.map Uj) (enc m) (.str x)=(Ts ps m x).map Uj:=by
 unfold Td Ts;have e1:((ps.map Uj).any λp=>kEq p.1 (enc m))=ps.any λp=>decide (p.1=m):=by
  rw [W0W]
  congr 1
  funext p
  exact Bc p.1 m
 rw [e1];split
 ·rw [WY,WY]
  apply Vj
  intro p _;show (if kEq (enc p.1) (enc m)=true then (enc p.1,D.str x) else Uj p)=Uj (if p.1=m then (p.1,x) else p)
  rw [Bc];by_cases q:p.1=m
  ·rw [if_pos q,if_pos (decide_eq_true q)];rfl
  ·rw [if_neg q,if_neg (by simpa using q)]
 ·rw [WP];rfl
theorem ME (ps:List (Mk×Str))(m:Mk):Yv (ps.map Uj) (enc m)=true:=by
 show ((ps.map Uj).all λp=>(QB p.1).isSome)=true
 rw [W1o,Ww];intro p _;rfl
theorem Km:∀{ps:List (Mk×Str)} {m:Mk} {x:Str},(ps.map (·.1)).Nodup->(m,x)∈ps->J7 (ps.map Uj) (enc m)=some (.str x)
 |[],_,_,_,z=>by cases z
 |p :: ps,m,x,hn,hm=>by
  unfold J7;rw [W1,VN];have e:kEq (Uj p).1 (enc m)=decide (p.1=m):=Bc _ _
  rw [W1,VE] at hn;by_cases q:p.1=m
  ·rw [e,decide_eq_true q]
   rcases Wv.mp hm with z|z
   ·rw [<-z];rfl
   ·exact absurd (WB.mpr ⟨_,z,q.symm⟩) hn.1
  ·rw [e,decide_eq_false q]
   rcases Wv.mp hm with z|z
   ·rw [<-z] at q;exact absurd rfl q
   ·exact Km hn.2 z
theorem GR (ps:List (Mk×Str))(m:Mk)(x:Str)(hn:(ps.map (·.1)).Nodup):((Ts ps m x).map (·.1)).Nodup:=by
 unfold Ts;split
 ·have:(ps.map λp=>if p.1=m then (p.1,x) else p).map (·.1)=ps.map (·.1):=by
   rw [WY]
   apply Vj
   intro p _;show (if p.1=m then (p.1,x) else p).1=p.1
   split<;>rfl
  rw [this];exact hn
 ·rename_i h
  rw [WP,W0q];refine⟨hn,by simp,λa ha b hb=>?_⟩
  simp only [W1,We,WA] at hb
  subst hb;intro e;subst e;obtain⟨p,p1,p2⟩:=WB.mp ha
  exact h (WZ.mpr ⟨p,p1,by simpa using p2⟩)
theorem NJ {ps:List (Mk×Str)}{m:Mk}{x:Str}{p:Mk×Str}(h:p∈Ts ps m x):p=(m,x)\/p∈ps:=by
 unfold Ts at h;split at h
 ·obtain⟨q,q1,q2⟩:=WB.mp h
  split at q2
  ·rename_i e
   exact .inl (by rw [<-q2,e])
  ·exact .inr (q2 ▸ q1)
 ·rcases WH.mp h with z|z
  ·exact .inr z
  ·exact .inl (WA.mp z)
theorem NK (ps:List (Mk×Str))(m:Mk)(x:Str):(Ts ps m x).length<=ps.length+1:=by
 unfold Ts;split
 ·rw [W7];omega
 ·rw [WC];exact Wq _
theorem Jz (l:List Mk):YZ 30 (l.map enc):=by
 refine⟨λa ha=>?_,λa ha b hb=>?_⟩
 ·obtain⟨p,_,rfl⟩:=WB.mp ha;rfl
 ·obtain⟨p,_,rfl⟩:=WB.mp ha
  obtain⟨q,_,rfl⟩:=WB.mp hb
  rfl
theorem Uo (l:List Mk)(h:l.length<64):Yg (l.map enc)=true:=by
 obtain⟨h1,h2⟩:=Jz l
 have a:FL (l.map enc)=true:=by
  unfold FL;rw [WZ];refine⟨2,by simp,?_⟩
  rw [W1o,Ww];intro p _;rfl
 have b:Fq (l.map enc)=true:=by
  unfold Fq;rw [Wm,Ww,Ww];exact⟨h1,λx hx=>Ww.mpr (h2 x hx)⟩
 unfold Yg;rw [a,b,W7,decide_eq_true h];simp
theorem FI (l:List Mk)(hn:l.Nodup):∃l':List Mk,ZT (l.map enc)=l'.map enc/\l'.Perm l/\rise (l'.map enc)=true:=by
 have hp:=Y1 (l.map enc)
 have hs:=Yo (Jz l) (l:=l.map enc) λ_ z=>z
 have hed:∀e∈ZT (l.map enc),enc (dec e)=e:=λe he=>by
  obtain⟨p,_,rfl⟩:=WB.mp (hp.mem_iff.mp he)
  rfl
 have e1:((ZT (l.map enc)).map dec).map enc=ZT (l.map enc):=by
  rw [WY]
  conv=>rhs;rw [<-List.map_id (ZT (l.map enc))]
  exact Vj λe he=>hed e he
 have e2:(l.map enc).map dec=l:=by rw [WY];exact List.map_id' l
 have hpl:((ZT (l.map enc)).map dec).Perm l:=by have:=hp.map dec;rw [e2] at this;exact this
 refine⟨(ZT (l.map enc)).map dec,e1.symm,hpl,?_⟩
 rw [e1];have hnd:(ZT (l.map enc)).Nodup:=hp.nodup_iff.mpr (List.Pairwise.map _ (λa b hab z=>hab (by have:=congrArg dec z;exact this)) hn)
 have hmem:∀e∈ZT (l.map enc),e∈l.map enc:=λe he=>hp.mem_iff.mp he
 generalize ZT (l.map enc)=ds at *
 unfold rise;have key:∀ds:List D,ds.Pairwise leD->ds.Nodup->(∀e∈ds,e∈l.map enc)->((ds.zip (ds.drop 1)).all λp=>ltD p.1 p.2)=true:=by
  intro ds
  induction ds with
  |nil=>intro _ _ _;rfl
  |cons a r ih=>
   intro h1 h2 h3;cases r with
   |nil=>rfl
   |cons b r=>
    rw [VT] at h1;rw [VE] at h2;have i:=ih h1.2 h2.2 λe he=>h3 e (Wu _ he)
    show ((ltD a b)&&(((b :: r).zip ((b :: r).drop 1)).all λp=>ltD p.1 p.2))=true
    rw [i,W0o];have hab:a≠b:=λz=>h2.1 (by rw [z];exact Wp)
    have hc:=Jz l
    rcases Tz 30 a b (hc.2 a (h3 a Wp) b (h3 b (by simp))) (hc.1 a (h3 a Wp)) (hc.1 b (h3 b (by simp))) with z|z|z
    ·exact absurd z hab
    ·exact z
    ·have:=h1.1 b Wp
     rw [this] at z;cases z
 exact key ds hs hnd hmem
theorem Dj {ps:List (Mk×Str)}{m:Mk}{x:Str}{p:Mk×Str}(h:p∈Ts ps m x)(e:p.1=m):p.2=x:=by
 unfold Ts at h;split at h
 ·obtain⟨q,q1,q2⟩:=WB.mp h
  split at q2
  ·rw [<-q2]
  ·rename_i z;rw [q2] at z;exact absurd e z
 ·rename_i z
  rcases WH.mp h with y|y
  ·exact absurd (WZ.mpr ⟨p,y,by simpa using e⟩) z
  ·rw [WA.mp y]
theorem Ur (ps:List (Mk×Str))(m:Mk)(x:Str):((Ts ps m x).any λp=>decide (p.1=m))=true:=by
 unfold Ts;split
 ·rename_i h
  obtain⟨p,p1,p2⟩:=WZ.mp h
  have e:p.1=m:=by simpa using p2
  rw [W0W,WZ];refine⟨p,p1,?_⟩
  show decide ((if p.1=m then (p.1,x) else p).1=m)=true
  rw [if_pos e];exact decide_eq_true e
 ·rw [List.any_append];simp
theorem A1 (ps:List (Mk×Str))(m:Mk)(x y:Str):(Ts (Ts ps m x) m y).length=(Ts ps m x).length:=by
 have h:=Ur ps m x
 generalize Ts ps m x=qs at *
 unfold Ts;rw [if_pos h,W7]
theorem YK {mv ma mb:M D}{en:En}{S S':Sto}{v k:D}{n:Nat}(h1:mv en S=some (v,S))(h2:ma en S=some (.ref n,S))(h3:mb en S=some (k,S))(h4:FR (.ref n) k v S=some S'):YQ mv ma mb en S=some (.nx,en,S'):=by
 unfold YQ;rw [h1,V0,h2,V0,h3,V0];dsimp only;rw [h4];rfl
theorem MA {S:Sto}{ps:List (Mk×Str)}{m:Mk}{x:Str}(h:ps.length<Wk):FR (.ref S.length) (enc m) (.str x) (S++[.dct (ps.map Uj)])=some (S++[.dct ((Ts ps m x).map Uj)]):=by
 dsimp only [FR];rw [Wz];dsimp only;rw [ME,W7,decide_eq_true h,AM];simp
def okW (kind:Int)(x:Str):Prop:=if kind=1 then (cs x).length<=60/\∀ch∈cs x,32<=ch/\ch<=126 else (1<=(cs x).length/\(cs x).length<=6)/\∀ch∈cs x,97<=ch/\ch<=122
def DU (ks:List Mk)(m:Mk):Prop:=∃q∈ks,q.1=m.1/\1<=m.2/\m.2<=q.2
def Fh (ks:List Mk)(kind:Int)(ps:List (Mk×Str)):Prop:=(ps.map (·.1)).Nodup/\∀p∈ps,DU ks p.1/\okW kind p.2
theorem FJ {α:Type}{P:List α->Prop}(h0:P [])(h1:∀l a,P l->P (l++[a]))(l:List α):P l:=by
 have:∀r:List α,P r.reverse:=λr=>by
  induction r with
  |nil=>exact h0
  |cons a r ih=>rw [List.reverse_cons];exact h1 _ a ih
 rw [<-List.reverse_reverse l];exact this _
theorem Z08 {ks:List Mk}{c kind seed:Int}(h0:0<ks.length)(hk:∀q∈ks,1<=q.2)(k:Nat){ps:List (Mk×Str)}(hps:ps.length<60)(hg:Fh ks kind ps) :
  ∃ps',Fh ks kind ps'/\ps'.length<=ps.length+1/\∀(S:Sto) (x6 x7 x8 x9:Option D),∃y6 y7 y8 y9,Ya [some (.int c),some (.tup (ks.map enc)),some (.int kind),some (.int seed),some (.ref S.length),some (.int (k:Nat)),x6,x7,x8,x9] (S++[.dct (ps.map Uj)])
   = some (.nx,[some (.int c),some (.tup (ks.map enc)),some (.int kind),some (.int seed),some (.ref S.length),some (.int (k:Nat)),y6,y7,y8,y9],S++[.dct (ps'.map Uj)]):=by
 have hL:(0:Int)<(ks.length:Int):=by omega
 have a0:=Vg ((c+7*(k:Int))*48271%9887) (b:=(ks.length:Int)) (by omega)
 have a1:=Vi ((c+7*(k:Int))*48271%9887) (b:=(ks.length:Int)) (by omega)
 obtain⟨a,ea⟩:∃a:Nat,(c+7*(k:Int))*48271%9887%(ks.length:Int)=(a:Int):=⟨_,(W2h a0).symm⟩
 have ha:a<ks.length:=by omega
 obtain⟨⟨h,most⟩,hp⟩:∃p,ks[a]? = some p:=⟨_,Wl ha⟩
 have hmem:(h,most)∈ks:=V4 hp
 have hm1:=hk _ hmem
 dsimp only at hm1;have hm0:(0:Int)<most:=by omega
 have b0:=Vg ((c+11*(k:Int))*48271%9883) (b:=most) (by omega)
 have b1:=Vi ((c+11*(k:Int))*48271%9883) (b:=most) (by omega)
 have hix:∀S,gIx (.tup (ks.map enc)) (.int (a:Int)) S=some (.tup [.int h,.int most],S):=λS=>Mc (by rw [WE,hp];rfl)
 generalize hcount:1+(c+11*(k:Int))*48271%9883%most=cnt
 generalize hw:seed+97*h+13*cnt=w
 obtain⟨x,hx1,hx2,hx⟩:=Pw w
 obtain⟨y,hy1,hy2,hy⟩:=Hw w
 have hok:DU ks (h,cnt):=⟨_,hmem,rfl,by show 1<=cnt;omega,by show cnt<=most;omega⟩
 have hz:ps.length<Wk:=Nat.lt_trans hps (by decide)
 have hz2:(Ts ps (h,cnt) x).length<Wk:=Nat.lt_of_le_of_lt (NK ps (h,cnt) x) (WR (show ps.length+1<64 by omega) (by decide))
 have q1:(0:Int)<9887:=by decide
 have q2:(0:Int)<9883:=by decide
 have s1:=λS:Sto=>YK (mv:=Zm YV (Z3 (Z5 9) ZR)) (ma:=Z5 4) (mb:=Z5 8) (en:=[some (.int c),some (.tup (ks.map enc)),some (.int kind),some (.int seed),some (.ref S.length),some (.int (k:Nat)),some (.int h),some (.int most),some (.tup [.int h,.int cnt]),some (.int w)])
  (S:=S++[.dct (ps.map Uj)]) (v:=.str x) (n:=S.length) (k:=enc (h,cnt)) (by simp only [EVS,W9,Wa,Wf,W2,Wg,Wh,Wb,Wc,W5,↓reduceIte,reduceCtorEq,W1,We,W3,hx]) rfl rfl (MA hz)
 have s2:=λS:Sto=>YK (mv:=Zm Yn (Z3 (Z5 9) ZR)) (ma:=Z5 4) (mb:=Z5 8) (en:=[some (.int c),some (.tup (ks.map enc)),some (.int kind),some (.int seed),some (.ref S.length),some (.int (k:Nat)),some (.int h),some (.int most),some (.tup [.int h,.int cnt]),some (.int w)])
  (S:=S++[.dct ((Ts ps (h,cnt) x).map Uj)]) (v:=.str y) (n:=S.length) (k:=enc (h,cnt)) (by simp only [EVS,W9,Wa,Wf,W2,Wg,Wh,Wb,Wc,W5,↓reduceIte,reduceCtorEq,W1,We,W3,hy]) rfl rfl (MA hz2)
 by_cases kd:kind=1
 ·subst kd
  refine⟨Ts (Ts ps (h,cnt) x) (h,cnt) y,⟨GR _ _ _ (GR _ _ _ hg.1),λp hp=>?_⟩,?_,λS x6 x7 x8 x9=>⟨some (.int h),some (.int most),some (.tup [.int h,.int cnt]),some (.int w),?_⟩⟩
  rotate_left 2
  ·have s1:=s1 S
   have s2:=s2 S
   simp only [Ya,EVS,W9,Wa,Wf,W2,Wg,Wh,Wb,Wc,W5,↓reduceIte,reduceCtorEq,W1,We,W3,U5,W7,Yz,q1,q2,hL,hm0,ea,hix,hcount,hw,s1,s2]
  ·have okY:okW 1 y:=by unfold okW;rw [if_pos rfl];exact⟨hy1,hy2⟩
   by_cases e:p.1=(h,cnt)
   ·have:=Dj hp e
    rw [e,this];exact⟨hok,okY⟩
   ·rcases NJ hp with z|z
    ·rw [z] at e;exact absurd rfl e
    ·rcases NJ z with z|z
     ·rw [z] at e;exact absurd rfl e
     ·exact hg.2 p z
  ·have h1:=NK ps (h,cnt) x
   have h2:=A1 ps (h,cnt) x y
   omega
 ·refine⟨Ts ps (h,cnt) x,⟨GR _ _ _ hg.1,λp hp=>?_⟩,NK _ _ _,λS x6 x7 x8 x9=>⟨some (.int h),some (.int most),some (.tup [.int h,.int cnt]),some (.int w),?_⟩⟩
  rotate_left 1
  ·have s1:=s1 S
   simp only [Ya,EVS,W9,Wa,Wf,W2,Wg,Wh,Wb,Wc,W5,↓reduceIte,reduceCtorEq,W1,We,W3,U5,W7,Yz,q1,q2,hL,hm0,ea,hix,hcount,hw,s1,kd]
  ·rcases NJ hp with z|z
   ·rw [z]
    exact⟨hok,by unfold okW;rw [if_neg kd];exact⟨hx1,hx2⟩⟩
   ·exact hg.2 p z
theorem Gn {ps:List (Mk×Str)}:∀l:List Mk,(∀m∈l,m∈ps.map (·.1))->∃qs:List (Mk×Str),qs.map (·.1)=l/\∀p∈qs,p∈ps
 |[],_=>⟨[],rfl,λp hp=>by cases hp⟩
 |m :: l,h=>by
  obtain⟨qs,e,hq⟩:=Gn l λm hm=>h m (Wu _ hm)
  obtain⟨p,p1,p2⟩:=WB.mp (h m Wp)
  refine⟨p :: qs,by rw [W1,e,p2],λq hq'=>?_⟩
  rcases Wv.mp hq' with z|z
  ·rw [z];exact p1
  ·exact hq q z
theorem BU (n:Nat)(ps:List (Mk×Str)):J6 n (D.tup (ps.map λp=>.tup [enc p.1,.str p.2]))=true:=by
 unfold J6
 induction ps with
 |nil=>unfold lowDs;rfl
 |cons p ms ih=>
  rw [W1];unfold lowDs;rw [ih,W0o];simp [enc,J6,lowDs]
theorem BK {ks:List Mk}{c kind seed:Int}(h0:0<ks.length)(hk:∀q∈ks,1<=q.2) :
  ∃ps:List (Mk×Str),ps.length<=3/\Fh ks kind ps/\rise ((ps.map (·.1)).map enc)=true/\∀S,Qd [.int c,.tup (ks.map enc),.int kind,.int seed] S=some (.tup (ps.map λp=>.tup [enc p.1,.str p.2]),S):=by
 have m0:=Vg (c*48271%9901) (b:=4) (by decide)
 have m1:=Vi (c*48271%9901) (b:=4) (by decide)
 obtain⟨n,hn⟩:∃n:Nat,c*48271%9901%4=(n:Int):=⟨_,(W2h m0).symm⟩
 have hn3:n<=3:=by omega
 let T:Nat->List (Mk×Str)->List (Mk×Str)->Prop:=λk ps ps'=>Fh ks kind ps'/\ps'.length<=ps.length+1/\∀(S:Sto) (x6 x7 x8 x9:Option D),∃y6 y7 y8 y9,Ya [some (.int c),some (.tup (ks.map enc)),some (.int kind),some (.int seed),some (.ref S.length),some (.int (k:Nat)),x6,x7,x8,x9] (S++[.dct (ps.map Uj)])
   = some (.nx,[some (.int c),some (.tup (ks.map enc)),some (.int kind),some (.int seed),some (.ref S.length),some (.int (k:Nat)),y6,y7,y8,y9],S++[.dct (ps'.map Uj)])
 obtain⟨nxt,hnx⟩:∃nxt:Nat->List (Mk×Str)->List (Mk×Str),∀k ps,ps.length<60->Fh ks kind ps->T k ps (nxt k ps):=by
  have:∀k ps,∃ps',ps.length<60->Fh ks kind ps->T k ps ps':=λk ps=>by
   by_cases q:ps.length<60/\Fh ks kind ps
   ·obtain⟨ps',z⟩:=Z08 (c:=c) (seed:=seed) h0 hk k q.1 q.2
    exact⟨ps',λ_ _=>z⟩
   ·exact⟨[],λz1 z2=>absurd ⟨z1,z2⟩ q⟩
  exact⟨λk ps=>Classical.choose (this k ps),λk ps=>W1Y (this k ps)⟩
 have hgo:∀pre:List Nat,pre.length<=3->Fh ks kind (pre.foldl (λps k=>nxt k ps) [])/\(pre.foldl (λps k=>nxt k ps) []).length<=pre.length:=by
  intro pre;refine FJ (P:=λpre=>pre.length<=3->Fh ks kind (pre.foldl (λps k=>nxt k ps) [])/\(pre.foldl (λps k=>nxt k ps) []).length<=pre.length) ?_ ?_ pre
  ·exact λ_=>⟨⟨List.nodup_nil,λp hp=>by cases hp⟩,Wq _⟩
  ·intro pre k ih hl
   rw [WC,W0g] at hl;obtain⟨g1,g2⟩:=ih (by omega)
   rw [W2z,W2d,List.foldl_nil,WC,W0g];obtain⟨z1,z2,_⟩:=hnx k _ (by omega) g1
   exact⟨z1,by omega⟩
 generalize hpsd:(W6 n).foldl (λps k=>nxt k ps) []=ps
 have hg:Fh ks kind ps:=by rw [<-hpsd];exact (hgo _ (by rw [V5];exact hn3)).1
 have hl:ps.length<=n:=by
  have:=(hgo (W6 n) (by rw [V5];exact hn3)).2
  rw [hpsd,V5] at this;exact this
 have loop:∀S:Sto,∃x5 x6 x7 x8 x9,Q6 (Ny 0 n) .no (gN 5) Ya (Ny 0 n) [some (.int c),some (.tup (ks.map enc)),some (.int kind),some (.int seed),some (.ref S.length),none,none,none,none,none] (S++[.dct []])
   = some (.nx,[some (.int c),some (.tup (ks.map enc)),some (.int kind),some (.int seed),some (.ref S.length),x5,x6,x7,x8,x9],S++[.dct (ps.map Uj)]):=λS=>by
  let P:List Nat->En->Sto->Prop:=λpre en S'=>∃x5 x6 x7 x8 x9,en=[some (.int c),some (.tup (ks.map enc)),some (.int kind),some (.int seed),some (.ref S.length),x5,x6,x7,x8,x9]/\S'=S++[.dct ((pre.foldl (λps k=>nxt k ps) []).map Uj)]
  have step:∀(pre:List Nat) (k:Nat) (post:List Nat) (en:En) (S1:Sto),W6 n=pre++k :: post->P pre en S1->∃en1,gN 5 (D.int (k:Nat)) en=some en1/\∃en2 S2,Ya en1 S1=some (.nx,en2,S2)/\P (pre++[k]) en2 S2:=by
   intro pre k post en S1 hpre hP;obtain⟨x5,x6,x7,x8,x9,rfl,rfl⟩:=hP
   have h2:=congrArg Va hpre
   simp at h2
   obtain⟨g1,g2⟩:=hgo pre (by omega)
   obtain⟨_,_,z⟩:=hnx k _ (by omega) g1
   obtain⟨y6,y7,y8,y9,e⟩:=z S x6 x7 x8 x9
   refine⟨_,rfl,_,_,e,_,_,_,_,_,rfl,?_⟩
   rw [W2z,W2d,List.foldl_nil]
  obtain⟨en',S',e,x5,x6,x7,x8,x9,e2,e3⟩:=QO (g:=gN 5) (ds0:=Ny 0 n) (gd:=.no) (body:=Ya) (W6 n) (λk=>D.int (k:Nat)) P step (λ_ _ _ _=>trivial)
   (en:=[some (.int c),some (.tup (ks.map enc)),some (.int kind),some (.int seed),some (.ref S.length),none,none,none,none,none]) (S:=S++[.dct []]) ⟨_,_,_,_,_,rfl,rfl⟩
  rw [<-JU] at e;subst e2 e3;rw [hpsd] at e;exact⟨_,_,_,_,_,e⟩
 obtain⟨l,l1,l2,l3⟩:=FI (ps.map (·.1)) hg.1
 have hlen:l.length=ps.length:=by have:=l2.length_eq;simpa using this
 have hsz:64<=Wk:=by decide
 have hsrt:∀S:Sto,FF (.ref S.length) (S++[.dct (ps.map Uj)])=some ((ps.map (·.1)).map enc):=λS=>by
  dsimp only [FF];rw [Wz];dsimp only;rw [WY,WY];rfl
 have hk1:∀S:Sto,Lf (some (.ref S.length,S++[Ob.dct (ps.map Uj)]))=some (l.map enc,S++[Ob.dct (ps.map Uj)]):=λS=>by
  rw [F4 (hsrt S) (Uo _ (by rw [W7];omega)),l1]
 obtain⟨qs,hq1,hq2⟩:=Gn (ps:=ps) l λm hm=>l2.mem_iff.mp hm
 subst hq1;have hql:qs.length=ps.length:=by rw [W7] at hlen;exact hlen
 refine⟨qs,by omega,⟨l2.nodup_iff.mpr hg.1,λp hp=>hg.2 p (hq2 p hp)⟩,l3,λS=>?_⟩
 have hk1:=hk1 S
 obtain⟨x5,x6,x7,x8,x9,e⟩:=loop S
 have e5:(qs.map (·.1)).map enc=qs.map λp=>enc p.1:=by rw [WY];rfl
 rw [e5] at hk1
 generalize hS2:S++[Ob.dct (ps.map Uj)]++[Ob.lst (qs.map λp=>enc p.1)]=S2
 have hd2:S2[S.length]? = some (.dct (ps.map Uj)):=by rw [<-hS2];simp
 have hi2:S2[(S++[Ob.dct (ps.map Uj)]).length]? = some (.lst (qs.map λp=>enc p.1)):=by rw [<-hS2,Wz]
 have c2:ZK (qs.map λp=>enc p.1) (.lst (S++[Ob.dct (ps.map Uj)]).length) [none,some (.ref S.length)] (gN 0) Qf Jn (qs.map λp=>enc p.1) [] S2=some (qs.map λp=>.tup [enc p.1,.str p.2],S2):=by
  refine YT qs (λp=>enc p.1) (λp=>.tup [enc p.1,.str p.2]) (show Gf (.lst _) _ S2 from hi2) (by omega) λp hp=>⟨_,rfl,?_⟩
  have hdc:Q7 S2 S.length (enc p.1)=some (ps.map Uj):=by
   unfold Q7;rw [hd2];exact if_pos (ME ps p.1)
  have hix:=CB hdc (Km hg.1 (hq2 p hp))
  simp only [Jn,EVS,W9,Wa,Wf,W2,Wg,Wh,Wb,Wc,W5,↓reduceIte,reduceCtorEq,W1,We,W3,hix]
 unfold Qd;have q1:(0:Int)<9901:=by decide
 have q2:(0:Int)<4:=by decide
 have hrg : -(2 ^ 62)<=(n:Int)/\(n:Int)<2 ^ 62:=⟨by omega,by omega⟩
 have hnn:Int.toNat (n:Int)=n:=by omega
 simp only [EVS,W9,Wa,Wf,W2,Wg,Wh,Wb,Wc,W5,↓reduceIte,reduceCtorEq,W1,We,W3,Yz,q1,q2,hn,Bb hrg,hnn,e,hk1,hS2,N9 hi2,c2]
 have hS3:S2=S++([Ob.dct (ps.map Uj)]++[Ob.lst (qs.map λp=>enc p.1)]):=by rw [<-hS2,WN]
 rw [hS3,Yl _ _ _ (BU _ _)]
theorem MG {α:Type}(g:α->D)(r:α->α->Prop)(hr:∀a b,ltD (g a) (g b)=true↔r a b)(ht:∀a b c,r a b->r b c->r a c):∀l:List α,rise (l.map g)=true↔l.Pairwise r
 |[]=>⟨λ_=>.nil,λ_=>rfl⟩
 |[a]=>⟨λ_=>by simp,λ_=>rfl⟩
 |a :: b :: l=>by
  have ih:=MG g r hr ht (b :: l)
  have e:rise ((a :: b :: l).map g)=(ltD (g a) (g b)&&rise ((b :: l).map g)):=rfl
  rw [e,Wm,ih,hr,VT (l:=b :: l)]
  constructor
  ·rintro⟨h1,h2⟩
   refine⟨λx hx=>?_,h2⟩
   rcases Wv.mp hx with z|z
   ·rw [z];exact h1
   ·exact ht a b x h1 ((VT.mp h2).1 x z)
  ·rintro⟨h1,h2⟩
   exact⟨h1 b Wp,h2⟩
def BW (p q:Mk):Prop:=p.1<q.1\/(p.1=q.1/\p.2<q.2)
theorem lt_int (i j:Int):ltD (.int i) (.int j)=true↔i<j:=by
 have e:ltD (.int i) (.int j)=decide (i<j):=by unfold ltD;rfl
 rw [e,decide_eq_true_eq]
theorem MY (p q:Mk):ltD (enc p) (enc q)=true↔BW p q:=by
 unfold BW;obtain⟨a,b⟩:=p
 obtain⟨c,d⟩:=q
 show ltD (.tup [.int a,.int b]) (.tup [.int c,.int d])=true↔_
 rw [QU,YC,YC];have e1:∀i j:Int,eqD (.int i) (.int j)=decide (i=j):=λi j=>by unfold eqD;rfl
 have e2:∀i j:Int,ltD (.int i) (.int j)=decide (i<j):=λi j=>by unfold ltD;rfl
 rw [e1,e1,e2,e2];have e3:ltDs [] []=false:=by unfold ltDs;rfl
 rw [e3];dsimp only;by_cases h1:a=c
 ·rw [decide_eq_true h1,if_pos rfl]
  by_cases h2:b=d
  ·rw [decide_eq_true h2,if_pos rfl]
   exact⟨λz=>(by cases z),λz=>(by omega)⟩
  ·rw [decide_eq_false h2,if_neg (by decide),decide_eq_true_eq]
   exact⟨λz=>.inr ⟨h1,z⟩,λz=>by omega⟩
 ·rw [decide_eq_false h1,if_neg (by decide),decide_eq_true_eq]
  exact⟨λz=>.inl z,λz=>by omega⟩
theorem KW (a b c:Mk)(h1:BW a b)(h2:BW b c):BW a c:=by
 unfold BW at *
 omega
theorem D8 (l:List Mk):rise (l.map enc)=true↔l.Pairwise BW:=MG enc BW MY KW l
def Zr (p:Mk×Str):D:=.tup [enc p.1,.str p.2]
def mkF (p:Mk)(x:Str)(ks:List Mk)(ns ts:List (Mk×Str)):D:=.tup [enc p,.str x,.tup (ks.map enc),.tup (ns.map Zr),.tup (ts.map Zr)]
def Ac (ks:List Mk)(kind:Int)(ps:List (Mk×Str)):Prop:=ps.length<=20/\Fh ks kind ps/\rise ((ps.map (·.1)).map enc)=true
structure GF (p:Mk) (x:Str) (ks:List Mk) (ns ts:List (Mk×Str)):Prop where
 hp:(0<=p.1/\p.1<6)/\1<=p.2
 hw:Zc ks p=true
 hx:(1<=(cs x).length/\(cs x).length<=6)/\∀ch∈cs x,97<=ch/\ch<=122
 hk0:0<ks.length
 hk6:ks.length<=6
 hkm:∀q∈ks,(0<=q.1/\q.1<6)/\1<=q.2
 hkr:ks.Pairwise λa b=>a.1<b.1
 hn:Ac ks 0 ns
 ht:Ac ks 1 ts
theorem NS {ks:List Mk}{m:Mk}(h:DU ks m):Zc ks m=true:=by
 obtain⟨q,q1,q2,_,q4⟩:=h
 unfold Zc;rw [WZ];exact⟨q,q1,by rw [decide_eq_true q2,decide_eq_true q4];rfl⟩
section
variable {p:Mk} {x:Str} {ks:List Mk} {ns ts:List (Mk×Str)} {S:Sto}
end
section
variable {a b c d e x:D} {S:Sto}
end
theorem Te {S S':Sto}{n:Nat}(h:S.length<=n):Gh S (.ref n,S')=(.ref n,S'):=by
 unfold Gh;rw [if_neg]
 rintro⟨_,q⟩
 rw [J6] at q;have:=of_decide_eq_true q
 omega
theorem LM (c:Int)(w:Nat)(n:Int)(x:Str)(seed:Int)(hw:w<6)(hn:1<=n)(hx:(1<=(cs x).length/\(cs x).length<=6)/\∀ch∈cs x,97<=ch/\ch<=122):∃f ns ts,(∀h,0<=f h)/\n<=f w/\GF ((w:Int),n) x (kn f (W6 6)) ns ts/\(ns.length<=3/\ts.length<=3)/\∀S,Qx [.int c,.tup [.int w,.int n],.str x,.int seed] S=some (mkF ((w:Int),n) x (kn f (W6 6)) ns ts,S):=by
 obtain⟨f,hf,hfw,hk⟩:=Ao c w n hw hn
 have hm:((w:Int),f w)∈kn f (W6 6):=by
  unfold kn;exact WB.mpr ⟨w,by simp [hw];omega,rfl⟩
 have h0:0<(kn f (W6 6)).length:=W0S hm
 have hk1:∀q∈kn f (W6 6),(0<=q.1/\q.1<6)/\1<=q.2:=λq hq=>by
  obtain⟨h,h1,h2,rfl⟩:=UR hq
  exact⟨⟨by show (0:Int)<=(h:Int);omega,by show (h:Int)<6;omega⟩,by show 1<=f h;omega⟩
 have hr:(kn f (W6 6)).Pairwise λa b=>a.1<b.1:=by
  unfold kn;rw [VI];refine W13 _ ?_
  exact W1N (λ{a b} (q:a<b)=>by show (a:Int)<(b:Int);omega) W1H
 obtain⟨ns,n2,n3,n4,n1⟩:=BK (ks:=kn f (W6 6)) (c:=c+1) (kind:=0) (seed:=seed) h0 λq hq=>(hk1 q hq).2
 obtain⟨ts,t2,t3,t4,t1⟩:=BK (ks:=kn f (W6 6)) (c:=c+2) (kind:=1) (seed:=seed+5) h0 λq hq=>(hk1 q hq).2
 refine⟨f,ns,ts,hf,hfw,⟨⟨⟨by show (0:Int)<=(w:Int);omega,by show (w:Int)<6;omega⟩,hn⟩,?_,hx,h0,JJ f _,hk1,hr,⟨by omega,n3,n4⟩,⟨by omega,t3,t4⟩⟩,⟨n2,t2⟩,λS=>?_⟩
 ·rw [Rw f w hw,decide_eq_true (show 0<f w by omega),decide_eq_true hfw];rfl
 ·unfold Qx
  simp only [EVS,W9,Wa,Wf,W2,Wg,Wh,Wb,Wc,W5,↓reduceIte,reduceCtorEq,W1,We,W3,hk,n1,t1]
  rfl
def IL:D->Mk×Str
 | .tup [m,.str x]=>(dec m,x)
 |_=>((0,0),default)
theorem AH {p q:Mk×Str}(h:Zr p=Zr q):p=q:=congrArg IL h
theorem QY (l:List (Mk×Str)):YZ 30 (l.map Zr):=by
 refine⟨λa ha=>?_,λa ha b hb=>?_⟩
 ·obtain⟨p,_,rfl⟩:=WB.mp ha;rfl
 ·obtain⟨p,_,rfl⟩:=WB.mp ha
  obtain⟨q,_,rfl⟩:=WB.mp hb
  rfl
theorem Ti (l:List (Mk×Str))(h:l.length<64):Yg (l.map Zr)=true:=by
 obtain⟨h1,h2⟩:=QY l
 have a:FL (l.map Zr)=true:=by
  unfold FL;rw [WZ];refine⟨4,by simp,?_⟩
  rw [W1o,Ww];intro p _;rfl
 have b:Fq (l.map Zr)=true:=by
  unfold Fq;rw [Wm,Ww,Ww];exact⟨h1,λx hx=>Ww.mpr (h2 x hx)⟩
 unfold Yg;rw [a,b,W7,decide_eq_true h];simp
theorem Z1W (i j:Int):eqD (.int i) (.int j)=decide (i=j):=by unfold eqD;exact Jo i j
theorem Z37 (i j:Str):eqD (.str i) (.str j)=decide (i=j):=by unfold eqD;exact Jo i j
theorem AG (a b:D)(as bs:List D):eqDs (a :: as) (b :: bs)=(eqD a b&&eqDs as bs):=by conv=>lhs;unfold eqDs
theorem Xh:eqDs [] []=true:=by unfold eqDs;rfl
theorem Z1l (p q:Mk):eqD (enc p) (enc q)=decide (p=q):=by
 obtain⟨a,b⟩:=p
 obtain⟨c,d⟩:=q
 show eqD (.tup [.int a,.int b]) (.tup [.int c,.int d])=_
 rw [Jl,AG,AG,Xh,Z1W,Z1W,W0o,VX,Wm,decide_eq_true_eq,decide_eq_true_eq,decide_eq_true_eq,Prod.mk.injEq]
theorem Z1V (p q:Mk×Str):eqD (Zr p) (Zr q)=decide (p=q):=by
 obtain⟨a,b⟩:=p
 obtain⟨c,d⟩:=q
 show eqD (.tup [enc a,.str b]) (.tup [enc c,.str d])=_
 rw [Jl,AG,AG,Xh,Z1l,Z37,W0o,VX,Wm,decide_eq_true_eq,decide_eq_true_eq,decide_eq_true_eq];exact⟨λz=>by rw [z.1,z.2],λz=>by cases z;exact⟨rfl,rfl⟩⟩
theorem OR (p:Mk×Str)(B:List (Mk×Str))(S:Sto):gIn (Zr p) (.tup (B.map Zr)) S=some (.bl (decide (p∈B)),S):=by
 unfold gIn inD;dsimp only;have hpl:(pln 30 (Zr p)&&(B.map Zr).all (pln 30))=true:=by
  rw [Wm];refine⟨rfl,?_⟩
  rw [W1o,Ww];intro x _;rfl
 rw [if_pos hpl,W3];have:((B.map Zr).any λy=>eqD y (Zr p))=decide (p∈B):=by
  rw [W0W,VX,WZ,decide_eq_true_eq]
  constructor
  ·rintro⟨x,x1,x2⟩
   have x3:eqD (Zr x) (Zr p)=true:=x2
   rw [Z1V,decide_eq_true_eq] at x3;rw [<-x3];exact x1
  ·intro x1
   refine⟨p,x1,?_⟩
   show eqD (Zr p) (Zr p)=true
   rw [Z1V];exact decide_eq_true rfl
 rw [this]
theorem Z1G {p q:Mk×Str}(h:BW p.1 q.1):ltD (Zr p) (Zr q)=true/\ltD (Zr q) (Zr p)=false:=by
 obtain⟨a,b⟩:=p
 obtain⟨c,d⟩:=q
 have hne:a≠c:=λz=>by
  subst z;unfold BW at h;dsimp only at h;omega
 have hnl:¬BW c a:=λz=>by
  unfold BW at h z;dsimp only at h z;omega
 constructor
 ·show ltD (.tup [enc a,.str b]) (.tup [enc c,.str d])=_
  rw [QU,YC,Z1l,decide_eq_false hne,if_neg Wy];exact (MY a c).mpr h
 ·show ltD (.tup [enc c,.str d]) (.tup [enc a,.str b])=_
  rw [QU,YC,Z1l,decide_eq_false (Ne.symm hne),if_neg Wy];rw [<-W1Z];exact λz=>hnl ((MY c a).mp z)
theorem Jv {ps:List (Mk×Str)}(h:rise ((ps.map (·.1)).map enc)=true):(ps.map Zr).Pairwise leD:=by
 rw [D8,VI] at h;rw [VI];exact h.imp λ{a b} q=>(Z1G q).2
theorem KD {ps:List (Mk×Str)}(hn:(ps.map (·.1)).Nodup)(h:(ps.map Zr).Pairwise leD):rise ((ps.map (·.1)).map enc)=true:=by
 rw [D8,VI];unfold List.Nodup at hn;rw [VI] at h hn;refine (h.and hn).imp λ{a b} q=>?_
 by_cases z:BW a.1 b.1
 ·exact z
 ·have:BW b.1 a.1:=by
   have q2:=q.2
   unfold BW at z ⊢
   have:¬(a.1.1=b.1.1/\a.1.2=b.1.2):=λw=>q2 (Prod.ext w.1 w.2)
   omega
  have l:=(Z1G this).1
  have q1:ltD (Zr b) (Zr a)=false:=q.1
  rw [q1] at l;cases l
theorem M8 {ms:List Mk}(h:ms.Pairwise BW):(ms.map enc).Pairwise leD:=by
 rw [VI];refine h.imp λ{a b} q=>?_
 show ltD (enc b) (enc a)=false
 rw [<-W1Z,MY];intro z;unfold BW at q z;omega
theorem YY {α β:Type}{l:List (α×β)}(h:(l.map (·.1)).Nodup):l.Nodup:=by
 unfold List.Nodup at h ⊢
 rw [VI] at h;exact h.imp λ{a b} (q:a.1≠b.1) (z:a=b)=>q (by rw [z])
theorem JY {α β:Type}{f:α->β}{l:List α}(hf:∀a∈l,∀b∈l,f a=f b->a=b)(h:l.Nodup):(l.map f).Nodup:=by
 unfold List.Nodup at h ⊢
 rw [VI];exact h.imp_of_mem λ{a b} ha hb q z=>q (hf a ha b hb z)
theorem Jg {α:Type}{p:α->Bool}{l:List α}(h:l.Nodup):(l.filter p).Nodup:=W13 p h
def kept (A:List (Mk×Str))(wf:Mk->Bool)(B:List (Mk×Str))(wg:Mk->Bool):List (Mk×Str):=A.filter (λp=>decide (p∈B))++A.filter (λp=>!wg p.1)++B.filter (λp=>!wf p.1)
def stay (A B:List (Mk×Str))(wg:Mk->Bool):List (Mk×Str):=A.filter λp=>decide (p∈B) || !wg p.1
def J (A:List (Mk×Str))(wf:Mk->Bool)(B:List (Mk×Str))(wg:Mk->Bool):List (Mk×Str):=(ZT ((kept A wf B wg).map Zr)).map IL
theorem T8 {A B:List (Mk×Str)}{wf wg:Mk->Bool}{p:Mk×Str}:p∈kept A wf B wg↔(p∈A/\p∈B)\/(p∈A/\wg p.1=false)\/(p∈B/\wf p.1=false):=by
 unfold kept;simp [WH,Vw,or_assoc]
theorem MV {A B:List (Mk×Str)}{wg:Mk->Bool}{p:Mk×Str}:p∈stay A B wg↔p∈A/\(p∈B\/wg p.1=false):=by
 unfold stay;simp [Vw]
theorem IB (A:List (Mk×Str))(wf:Mk->Bool)(B:List (Mk×Str))(wg:Mk->Bool):(J A wf B wg).map Zr=ZT ((kept A wf B wg).map Zr):=by
 unfold J;rw [WY]
 conv=>rhs;rw [<-List.map_id (ZT ((kept A wf B wg).map Zr))]
 refine Vj λe he=>?_
 obtain⟨p,_,rfl⟩:=WB.mp ((Y1 _).mem_iff.mp he)
 rfl
theorem Nx (A:List (Mk×Str))(wf:Mk->Bool)(B:List (Mk×Str))(wg:Mk->Bool):(J A wf B wg).Perm (kept A wf B wg):=by
 have h:=(Y1 ((kept A wf B wg).map Zr)).map IL
 rw [WY] at h;have e:(kept A wf B wg).map (IL ∘ Zr)=kept A wf B wg:=by
  conv=>rhs;rw [<-List.map_id (kept A wf B wg)]
  exact Vj λ_ _=>rfl
 rw [e] at h;exact h
theorem K3 (A:List (Mk×Str))(wf:Mk->Bool)(B:List (Mk×Str))(wg:Mk->Bool):(kept A wf B wg).length<=A.length+A.length+B.length:=by
 unfold kept;rw [WC,WC];have h1:=V9 (λp=>decide (p∈B)) A
 have h2:=V9 (λp:Mk×Str=>!wg p.1) A
 have h3:=V9 (λp:Mk×Str=>!wf p.1) B
 omega
section
variable {A B:List (Mk×Str)} {wf wg:Mk->Bool}
theorem Ux (hA:A.Nodup)(hB:B.Nodup)(ha:∀p∈A,wf p.1=true)(hb:∀p∈B,wg p.1=true):(kept A wf B wg).Nodup:=by
 unfold kept;refine W0q.mpr ⟨W0q.mpr ⟨Jg hA,Jg hA,λa h1 b h2 z=>?_⟩,Jg hB,λa h1 b h2 z=>?_⟩
 ·subst z
  rw [Vw] at h1 h2;have:=hb a (of_decide_eq_true h1.2)
  rw [this] at h2;cases h2.2
 ·subst z
  rw [WH,Vw,Vw] at h1;rw [Vw] at h2;have:a∈A:=h1.elim (·.1) (·.1)
  have:=ha a this
  rw [this] at h2;cases h2.2
theorem FN (hA:A.Nodup)(hB:B.Nodup)(ha:∀p∈A,wf p.1=true)(hb:∀p∈B,wg p.1=true):(ddD ((stay A B wg++stay B A wf).map Zr)).Perm ((kept A wf B wg).map Zr):=by
 refine (W0z (Kn _).1 (JY (λa _ b _ z=>AH z) (Ux hA hB ha hb))).mpr λd=>?_
 rw [(Kn _).2,WB,WB];refine exists_congr λp=>and_congr_left λ_=>?_
 rw [WH,MV,MV,T8]
 constructor
 ·rintro (⟨h1,h2|h2⟩|⟨h1,h2|h2⟩)
  ·exact .inl ⟨h1,h2⟩
  ·exact .inr (.inl ⟨h1,h2⟩)
  ·exact .inl ⟨h2,h1⟩
  ·exact .inr (.inr ⟨h1,h2⟩)
 ·rintro (⟨h1,h2⟩|⟨h1,h2⟩|⟨h1,h2⟩)
  ·exact .inl ⟨h1,.inl h2⟩
  ·exact .inl ⟨h1,.inr h2⟩
  ·exact .inr ⟨h1,.inr h2⟩
theorem KZ (hA:(A.map (·.1)).Nodup)(hB:(B.map (·.1)).Nodup)(ha:∀p∈A,wf p.1=true)(hb:∀p∈B,wg p.1=true):((kept A wf B wg).map (·.1)).Nodup:=by
 have inj:∀{l:List (Mk×Str)},(l.map (·.1)).Nodup->∀p∈l,∀q∈l,p.1=q.1->p=q:=λ{l} h=>by
  induction l with
  |nil=>intro p hp;cases hp
  |cons a l ih=>
   rw [W1,VE] at h;intro p hp q hq e;rcases Wv.mp hp with z|z<;>rcases Wv.mp hq with y|y
   ·rw [z,y]
   ·exact absurd (WB.mpr ⟨q,y,by rw [<-e,z]⟩) h.1
   ·exact absurd (WB.mpr ⟨p,z,by rw [e,y]⟩) h.1
   ·exact ih h.2 p z q y e
 refine JY (λp hp q hq e=>?_) (Ux (YY hA) (YY hB) ha hb)
 rw [T8] at hp hq;have cross:∀p q:Mk×Str,p∈A/\(p∈B\/wg p.1=false)->q∈B->p.1=q.1->p=q:=λp q hp hq e=>by
  rcases hp.2 with z|z
  ·exact inj hB p z q hq e
  ·rw [e,hb q hq] at z;cases z
 have sA:∀p:Mk×Str,(p∈A/\p∈B)\/(p∈A/\wg p.1=false)\/(p∈B/\wf p.1=false)->(p∈A/\(p∈B\/wg p.1=false))\/p∈B:=λp h=>by
  rcases h with h|h|h
  ·exact .inl ⟨h.1,.inl h.2⟩
  ·exact .inl ⟨h.1,.inr h.2⟩
  ·exact .inr h.1
 rcases sA p hp with z|z<;>rcases sA q hq with y|y
 ·exact inj hA p z.1 q y.1 e
 ·exact cross p q z y e
 ·exact (cross q p y z e.symm).symm
 ·exact inj hB p z q y e
theorem Z3c:((J A wf B wg).map Zr).Pairwise leD:=by
 rw [IB];exact Yo (QY _) λ_ h=>h
end
theorem Fc {S:Sto}{a b:Nat}{A B:List D}(h1:S[a]? = some (.lst A))(h2:S[b]? = some (.lst B))(h:A.length+B.length<=Wk):JD (.ref a) (.ref b) S=some (.ref S.length,S++[.lst (A++B)]):=by
 dsimp only [JD];rw [h1,h2];exact if_pos h
theorem Sv (n:Nat)(ps:List (Mk×Str)):J6 n (D.tup (ps.map Zr))=true:=BU n ps
theorem Z1r {S:Sto}{o o2:Ob}:(S++[o]++[o2])[S.length]? = some o:=by rw [WN];simp
theorem Hr {m:Mk}{ks:List Mk}{S:Sto}(hl:ks.length<=6):Yr [enc m,.tup (ks.map enc)] S=some (.bl (Zc ks m),S):=Rx (V7 hl (by decide))
section
variable {A B:List (Mk×Str)} {kf kg:List Mk} {S:Sto}
theorem Z1e (p:Mk×Str)(S:Sto):gIx (Zr p) (.int 0) S=some (enc p.1,S):=rfl
theorem Eo (hA:A.length<=20)(hk:kg.length<=6):Zz [.tup (A.map Zr),.tup (B.map Zr),.tup (kg.map enc)] S=some (.ref S.length,S++[.lst ((stay A B (Zc kg)).map Zr)]):=by
 unfold Zz;have c1:ZK (A.map Zr) .no [none,some (.tup (B.map Zr)),some (.tup (kg.map enc))] (gN 0) YF YE (A.map Zr) [] S=some ((stay A B (Zc kg)).map Zr,S):=by
  refine YS A Zr (λp=>decide (p∈B) || !Zc kg p.1) Zr YD (V7 hA (by decide)) λp hp=>⟨_,rfl,?_,λ_=>by simp only [YE,EVS,W9,Wa,Wf,W2,Wg,Wh,Wb,Wc,W5,↓reduceIte,reduceCtorEq,W1,We,W3]⟩
  have hi:=OR p B S
  have hw:Yr [enc p.1,.tup (kg.map enc)] S=_:=Hr hk
  simp only [YF,EVS,W9,Wa,Wf,W2,Wg,Wh,Wb,Wc,W5,↓reduceIte,reduceCtorEq,W1,We,W3,hi,Z1e,hw]
  by_cases q:p∈B
  ·simp [q,EVS,W9,Wa,Wf,W2,Wg,Wh,Wb,Wc,W5,↓reduceIte,reduceCtorEq,W1,We,W3]
  ·simp [q,EVS,W9,Wa,Wf,W2,Wg,Wh,Wb,Wc,W5,↓reduceIte,reduceCtorEq,W1,We,W3]
 simp only [EVS,W9,Wa,Wf,W2,Wg,Wh,Wb,Wc,W5,↓reduceIte,reduceCtorEq,W1,We,W3,c1]
 rw [Te (Wq _)]
theorem Dl (hA:A.length<=20)(hB:B.length<=20)(hK:(kept A (Zc kf) B (Zc kg)).length<=18)(hf:kf.length<=6)(hg:kg.length<=6)(nA:A.Nodup)(nB:B.Nodup)(ha:∀p∈A,Zc kf p.1=true)(hb:∀p∈B,Zc kg p.1=true) :
  Zy [.tup (A.map Zr),.tup (kf.map enc),.tup (B.map Zr),.tup (kg.map enc)] S=some (.tup ((J A (Zc kf) B (Zc kg)).map Zr),S):=by
 unfold Zy;have h1:Zz [.tup (A.map Zr),.tup (B.map Zr),.tup (kg.map enc)] S=_:=Eo (by omega) hg
 have h2:Zz [.tup (B.map Zr),.tup (A.map Zr),.tup (kf.map enc)] (S++[.lst ((stay A B (Zc kg)).map Zr)])=_:=Eo (by omega) hf
 have l1:(stay A B (Zc kg)).length<=A.length:=V9 _ _
 have l2:(stay B A (Zc kf)).length<=B.length:=V9 _ _
 generalize hS2:S++[Ob.lst ((stay A B (Zc kg)).map Zr)]++[Ob.lst ((stay B A (Zc kf)).map Zr)]=S2 at h2
 have hz:100<=Wk:=by decide
 have h3:=Fc (S:=S2) (a:=S.length) (b:=(S++[Ob.lst ((stay A B (Zc kg)).map Zr)]).length) (by rw [<-hS2];exact Z1r) (by rw [<-hS2];exact Wz ..) (by rw [W7,W7];omega)
 rw [<-WP] at h3;have hp:=FN nA nB ha hb
 have hk:=K3 A (Zc kf) B (Zc kg)
 obtain⟨s1,s2⟩:=Gj hp (Ti _ (by omega))
 have ok:RO ((stay A B (Zc kg)++stay B A (Zc kf)).map Zr)=true:=by
  unfold RO;rw [s1,decide_eq_true (show (ddD ((stay A B (Zc kg)++stay B A (Zc kf)).map Zr)).length<=18 by rw [hp.length_eq,W7];exact hK),W0o,Bool.true_and,W1o,Ww]
  intro p _;rfl
 have h4:=RK (a:=mOp JD (Z5 4) (Z5 5)) (en:=[some (.tup (A.map Zr)),some (.tup (kf.map enc)),some (.tup (B.map Zr)),some (.tup (kg.map enc)),some (.ref S.length),some (.ref (S++[Ob.lst ((stay A B (Zc kg)).map Zr)]).length)]) (S:=S2) (S1:=S2++[.lst ((stay A B (Zc kg)++stay B A (Zc kf)).map Zr)]) (n:=S2.length) (by simp only [EVS,W9,Wa,Wf,W2,Wg,Wh,Wb,Wc,W5,↓reduceIte,reduceCtorEq,W1,We,W3,h3]) (Wz ..) ok
 rw [s2,<-IB] at h4;simp only [EVS,W9,Wa,Wf,W2,Wg,Wh,Wb,Wc,W5,↓reduceIte,reduceCtorEq,W1,We,W3,h1,h2,h4]
 rw [<-hS2,WN,WN,Yl _ _ _ (Sv _ _)]
end
theorem Z2Z:∀(x:Str) (S:Sto),Ar "tuple" (some (.str x,S))=some (.bl false,S):=λ_ _=>rfl
theorem Z31:∀(x:Str) (S:Sto),Ar "bool" (some (.str x,S))=some (.bl false,S):=λ_ _=>rfl
theorem Z30:∀(x:Str) (S:Sto),SC "int" "str" (some (.str x,S))=some (.bl true,S):=λ_ _=>rfl
theorem Z32:∀(x:Int) (S:Sto),Ar "tuple" (some (.int x,S))=some (.bl false,S):=λ_ _=>rfl
theorem Z34:∀(x:Int) (S:Sto),Ar "bool" (some (.int x,S))=some (.bl false,S):=λ_ _=>rfl
theorem Z33:∀(x:Int) (S:Sto),SC "int" "str" (some (.int x,S))=some (.bl true,S):=λ_ _=>rfl
theorem Z2Y:∀(l:List D) (S:Sto),Ar "tuple" (some (.tup l,S))=some (.bl true,S):=λ_ _=>rfl
theorem SV (x:Str)(S:Sto):gIs (.str x) .non S=some (.bl false,S):=rfl
theorem Aw (x:Int)(S:Sto):gIs (.int x) .non S=some (.bl false,S):=rfl
def SD:Nat->D->Prop
 |_,.int _=>True
 |_,.str _=>True
 |n+1,.tup ds=>ds.length<=100/\∀d∈ds,SD n d
 |_,_=>False
theorem MF:∀(n:Nat) (d:D) (k:Nat) (S:Sto),SD n d->ZO (n+k+1) [d,d] S=some (.bl true,S)
 |n,.int i,k,S,_=>by
  show J4 2 2 (Q9 (ZO (n+k))) _ S=_
  simp only [Q9,EVS,W9,Wa,Wf,W2,Wg,Wh,Wb,Wc,W5,↓reduceIte,reduceCtorEq,W1,We,W3,Z32,Z34,Z33,Aw]
 |n,.str i,k,S,_=>by
  show J4 2 2 (Q9 (ZO (n+k))) _ S=_
  simp only [Q9,EVS,W9,Wa,Wf,W2,Wg,Wh,Wb,Wc,W5,↓reduceIte,reduceCtorEq,W1,We,W3,Z2Z,Z31,Z30,SV]
 |n+1,.tup ds,k,S,h=>by
  unfold SD at h;show J4 2 2 (Q9 (ZO (n+1+k))) _ S=_
  simp only [Q9,EVS,W9,Wa,Wf,W2,Wg,Wh,Wb,Wc,W5,↓reduceIte,reduceCtorEq,W1,We,W3,Z2Y]
  have hz:E8 ds ds=ds.map λx=>D.tup [x,x]:=by
   unfold E8;have:∀l:List D,(l.zip l).map (λp=>D.tup [p.1,p.2])=l.map λx=>D.tup [x,x]:=λl=>by
    induction l with
    |nil=>rfl
    |cons x xs ih=>simp only [WM,W1,ih]
   first|exact this ds|simpa using this ds
  rw [hz,YT ds (λx=>D.tup [x,x]) (λ_=>D.bl true) YD (V7 h.1 (by decide)) λx hx=>⟨_,rfl,?_⟩]
  ·have e:ds.map (λ_=>D.bl true)=(ds.map λ_=>true).map D.bl:=by rw [WY];rfl
   rw [e,Ox];have:(ds.map λ_=>true).all id=true:=by simp
   simp only [EVS,W9,Wa,Wf,W2,Wg,Wh,Wb,Wc,W5,↓reduceIte,reduceCtorEq,W1,We,W3,this]
  ·simp only [EVS,W9,Wa,Wf,W2,Wg,Wh,Wb,Wc,W5,↓reduceIte,reduceCtorEq,W1,We,W3]
   have:=MF n x k S (h.2 x hx)
   rw [show n+1+k=n+k+1 by omega]
   exact this
 |0,.tup _,_,_,h=>h.elim
 |0,.non,_,_,h=>h.elim
 |0,.bl _,_,_,h=>h.elim
 |0,.ref _,_,_,h=>h.elim
 |0,.scr _,_,_,h=>h.elim
 |_+1,.non,_,_,h=>h.elim
 |_+1,.bl _,_,_,h=>h.elim
 |_+1,.ref _,_,_,h=>h.elim
 |_+1,.scr _,_,_,h=>h.elim
def mx (f g:Nat->Int):Nat->Int:=λi=>max (f i) (g i)
theorem Kg (i j:Int):CC i j=max i j:=by
 unfold CC;split<;>omega
theorem K1 {f g:Nat->Int}{l:List Nat}(h:∀i∈l,f i=g i):kn f l=kn g l:=by
 unfold kn;rw [List.filter_congr λi hi=>by rw [h i hi]]
 exact Vj λi hi=>by rw [h i (Vw.mp hi).1]
theorem PO (f:Nat->Int):(kn f (W6 6)).Pairwise λa b=>a.1<b.1:=by
 unfold kn;rw [VI];refine W13 _ ?_
 exact W1N (λ{a b} (q:a<b)=>by show (a:Int)<(b:Int);omega) W1H
theorem Z19 (f:Nat->Int):((kn f (W6 6)).map enc).Pairwise leD:=M8 ((PO f).imp λ{a b} q=>.inl q)
theorem JM {f:Nat->Int}{h:Nat}(h6:h<6)(h0:0<f h):((h:Int),f h)∈kn f (W6 6):=by
 unfold kn;exact WB.mpr ⟨h,by simp [h6,h0],rfl⟩
def Ee (ms:List Mk)(h n:Int):List Mk:=if (ms.any λp=>decide (p.1=h))=true then ms.map (λp=>if p.1=h then (p.1,n) else p) else ms++[(h,n)]
theorem AL (ms:List Mk)(h n:Int):Td (ms.map J1) (.int h) (.int n)=(Ee ms h n).map J1:=by
 unfold Td Ee;have e:((ms.map J1).any λp=>kEq p.1 (.int h))=ms.any λp=>decide (p.1=h):=by
  rw [W0W]
  congr 1
  funext p
  exact TK p.1 h
 rw [e];split
 ·rw [WY,WY]
  refine Vj λp _=>?_
  show (if kEq (.int p.1) (.int h)=true then ((.int p.1:D),D.int n) else J1 p)=J1 (if p.1=h then (p.1,n) else p)
  rw [TK];by_cases q:p.1=h
  ·rw [if_pos (decide_eq_true q),if_pos q];rfl
  ·rw [if_neg (by simp [q]),if_neg q]
 ·rw [WP];rfl
theorem A2 (ms:List Mk)(h n:Int)(q:Mk):q∈Ee ms h n↔q=(h,n)\/(q∈ms/\q.1≠h):=by
 unfold Ee;split
 ·rename_i e
  rw [WZ] at e;obtain⟨p,p1,p2⟩:=e
  rw [decide_eq_true_eq] at p2;rw [WB]
  constructor
  ·rintro⟨r,r1,r2⟩
   by_cases z:r.1=h
   ·rw [if_pos z] at r2
    left;rw [<-r2,z]
   ·rw [if_neg z] at r2
    subst r2;exact .inr ⟨r1,z⟩
  ·rintro (z|⟨z1,z2⟩)
   ·exact⟨p,p1,by rw [if_pos p2,z,p2]⟩
   ·exact⟨q,z1,if_neg z2⟩
 ·rename_i e
  rw [WH,WA]
  constructor
  ·rintro (z|z)
   ·refine .inr ⟨z,λw=>e (WZ.mpr ⟨q,z,decide_eq_true w⟩)⟩
   ·exact .inl z
  ·rintro (z|z)
   ·exact .inr z
   ·exact .inl z.1
theorem P5 (ms:List Mk)(h n:Int)(hn:(ms.map (·.1)).Nodup):((Ee ms h n).map (·.1)).Nodup:=by
 unfold Ee;split
 ·have:(ms.map (λp:Mk=>if p.1=h then (p.1,n) else p)).map (·.1)=ms.map (·.1):=by
   rw [WY];refine Vj λp _=>?_
   show (if p.1=h then (p.1,n) else p).1=p.1
   split<;>rfl
  rw [this];exact hn
 ·rename_i e
  rw [WP];refine W0q.mpr ⟨hn,by simp,λa ha b hb z=>?_⟩
  rw [W1,We,WA] at hb;subst hb;subst z;obtain⟨p,p1,p2⟩:=WB.mp ha
  exact e (WZ.mpr ⟨p,p1,decide_eq_true p2⟩)
theorem FQ {S:Sto}{ms:List Mk}{h n:Int}(hl:ms.length<Wk):FR (.ref S.length) (.int h) (.int n) (S++[.dct (ms.map J1)])=some (S++[.dct ((Ee ms h n).map J1)]):=by
 dsimp only [FR];rw [Wz];dsimp only;have hs:Yv (ms.map J1) (.int h)=true:=B5 ms
 rw [hs,W7,decide_eq_true hl,AL];simp
theorem NM:∀ms:List Mk,Fi ((ms.map J1).map (·.1)) ((ms.map J1).map (·.2))=ms.map enc
 |[]=>rfl
 |p :: ms=>by
  have:=NM ms
  unfold Fi at this ⊢
  rw [W1,W1,W1,WM,W1,this];rfl
def Fm (f g:Nat->Int)(pre:List Mk):Nat->Int:=λi=>max (f i) (if (i:Int)∈pre.map (·.1) then g i else 0)
theorem Pk {cur:List Mk}{F:Nat->Int}(hn:(cur.map (·.1)).Nodup)(hm:∀q,q∈cur↔q∈kn F (W6 6)):cur.Perm (kn F (W6 6)):=(W0z (YY hn) (YY (B0 F))).mpr hm
theorem Z1h {f g:Nat->Int}{S:Sto}(hf:∀h,0<=f h)(hg:∀h,0<=g h)(h0:0<(kn (mx f g) (W6 6)).length) :
  ZU [.tup ((kn f (W6 6)).map enc),.tup ((kn g (W6 6)).map enc)] S=some (.tup ((kn (mx f g) (W6 6)).map enc),S):=by
 have hz:100<=Wk:=by decide
 have f6:=JJ f (W6 6)
 rw [V5] at f6
 let P:List Mk->En->Sto->Prop:=λpre en S'=>∃(cur:List Mk) (x3:Option D),en=[some (.tup ((kn f (W6 6)).map enc)),some (.tup ((kn g (W6 6)).map enc)),some (.ref S.length),x3]/\S'=S++[.dct (cur.map J1)]/\(cur.map (·.1)).Nodup/\∀q,q∈cur↔q∈kn (Fm f g pre) (W6 6)
 have step:∀(pre:List Mk) (a:Mk) (post:List Mk) (en:En) (S1:Sto),kn g (W6 6)=pre++a :: post->P pre en S1->∃en1,gN 3 (enc a) en=some en1/\∃en2 S2,YG en1 S1=some (.nx,en2,S2)/\P (pre++[a]) en2 S2:=by
  intro pre a post en S1 hpre hP;obtain⟨cur,x3,rfl,rfl,hn,hm⟩:=hP
  refine⟨_,rfl,?_⟩
  have ha:a∈kn g (W6 6):=by rw [hpre];simp
  obtain⟨j,j6,j0,rfl⟩:=UR ha
  have hperm:=Pk hn hm
  have hcl:cur.length<=6:=by
   have h1:=JJ (Fm f g pre) (W6 6)
   rw [V5] at h1;rw [hperm.length_eq];exact h1
  have hlook:CC (g j) (match (J7 (cur.map J1) (.int j)).getD (.int (g j)) with | .int v=>v|_=>0)=max (f j) (g j)/\∃v,(J7 (cur.map J1) (.int j)).getD (.int (g j)) = .int v:=by
   have fj:=hf j
   by_cases q:0<Fm f g pre j
   ·have hin:((j:Int),Fm f g pre j)∈cur:=(hm _).mpr (JM j6 q)
    rw [Kl hn hin];refine⟨?_,_,rfl⟩
    show CC (g j) (Fm f g pre j)=_
    rw [Kg];unfold Fm;split<;>omega
   ·have hin:(j:Int)∉cur.map (·.1):=λz=>by
     obtain⟨p,p1,p2⟩:=WB.mp z
     obtain⟨i,i1,i2,rfl⟩:=UR ((hm p).mp p1)
     have:i=j:=by have:(i:Int)=(j:Int):=p2;omega
     subst this;exact q i2
    rw [Ni hin];refine⟨?_,_,rfl⟩
    show CC (g j) (g j)=_
    rw [Kg];unfold Fm at q;omega
  obtain⟨hv,v,ev⟩:=hlook
  rw [ev] at hv;dsimp only at hv;have hdc:Q7 (S++[Ob.dct (cur.map J1)]) S.length (.int j)=some (cur.map J1):=Ij (Wz ..)
  have hget:=Ib (a:=Z5 2) (b:=mOp gIx (Z5 3) (Zd (D.int (0)))) (c:=mOp gIx (Z5 3) (Zd (D.int (1)))) (en:=[some (.tup ((kn f (W6 6)).map enc)),some (.tup ((kn g (W6 6)).map enc)),some (.ref S.length),some (.tup [.int (j:Int),.int (g j)])]) (S:=S++[Ob.dct (cur.map J1)]) (n:=S.length) (k:=.int (j:Int)) (x:=.int (g j)) rfl (by simp only [EVS,W9,Wa,Wf,W2,Wg,Wh,Wb,Wc,W5,↓reduceIte,reduceCtorEq,W1,We,W3]) (by simp only [EVS,W9,Wa,Wf,W2,Wg,Wh,Wb,Wc,W5,↓reduceIte,reduceCtorEq,W1,We,W3]) hdc
  rw [ev] at hget;have s1:=YK (mv:=Sr CC (mOp gIx (Z5 3) (Zd (D.int (1)))) (KU (Z5 2) (mOp gIx (Z5 3) (Zd (D.int (0)))) (mOp gIx (Z5 3) (Zd (D.int (1)))))) (ma:=Z5 2) (mb:=mOp gIx (Z5 3) (Zd (D.int (0)))) (en:=[some (.tup ((kn f (W6 6)).map enc)),some (.tup ((kn g (W6 6)).map enc)),some (.ref S.length),some (.tup [.int (j:Int),.int (g j)])])
   (S:=S++[.dct (cur.map J1)]) (v:=.int (max (f j) (g j))) (n:=S.length) (k:=.int (j:Int)) (by simp only [EVS,W9,Wa,Wf,W2,Wg,Wh,Wb,Wc,W5,↓reduceIte,reduceCtorEq,W1,We,W3,hget,hv]) rfl (by simp only [EVS,W9,Wa,Wf,W2,Wg,Wh,Wb,Wc,W5,↓reduceIte,reduceCtorEq,W1,We,W3]) (FQ (by omega))
  refine⟨_,_,s1,Ee cur j (max (f j) (g j)),_,rfl,rfl,P5 _ _ _ hn,λq=>?_⟩
  have fj:Fm f g (pre++[((j:Int),g j)]) j=max (f j) (g j):=by
   unfold Fm;rw [if_pos (by simp)]
  have fo:∀i:Nat,i≠j->Fm f g (pre++[((j:Int),g j)]) i=Fm f g pre i:=λi hi=>by
   unfold Fm;have:((i:Int)∈(pre++[((j:Int),g j)]).map (·.1))↔((i:Int)∈pre.map (·.1)):=by
    rw [WP,WH];simp
    intro z;omega
   simp only [this]
  rw [A2,hm]
  constructor
  ·rintro (z|⟨z1,z2⟩)
   ·rw [z,<-fj]
    exact JM j6 (by rw [fj];omega)
   ·obtain⟨i,i1,i2,rfl⟩:=UR z1
    have hij:i≠j:=λw=>z2 (by rw [w])
    rw [<-fo i hij] at i2 ⊢
    exact JM i1 i2
  ·intro z
   obtain⟨i,i1,i2,rfl⟩:=UR z
   by_cases hij:i=j
   ·subst hij
    left;rw [fj]
   ·rw [fo i hij] at i2 ⊢
    exact .inr ⟨JM i1 i2,by show (i:Int)≠(j:Int);omega⟩
 have f0:kn (Fm f g []) (W6 6)=kn f (W6 6):=K1 λi _=>by
  have:=hf i
  unfold Fm;simp
  omega
 obtain⟨en',S',e,cur,x3,e2,e3,hn,hm⟩:=QO (g:=gN 3) (ds0:=(kn g (W6 6)).map enc) (gd:=.no) (body:=YG) (kn g (W6 6)) enc P step (λ_ _ _ _=>trivial)
  (en:=[some (.tup ((kn f (W6 6)).map enc)),some (.tup ((kn g (W6 6)).map enc)),some (.ref S.length),none]) (S:=S++[.dct ((kn f (W6 6)).map J1)]) ⟨_,_,rfl,rfl,B0 f,λq=>by rw [f0]⟩
 subst e2 e3;have fe:kn (Fm f g (kn g (W6 6))) (W6 6)=kn (mx f g) (W6 6):=K1 λi hi=>by
  have i6:=Vf.mp hi
  have g0:=hg i
  unfold Fm mx;by_cases q:0<g i
  ·rw [if_pos (WB.mpr ⟨_,JM i6 q,rfl⟩)]
  ·split<;>omega
 rw [fe] at hm;have hperm:=Pk hn hm
 have hcl:cur.length<=6:=by
  have h1:=JJ (mx f g) (W6 6)
  rw [V5] at h1;rw [hperm.length_eq];exact h1
 have ok:ON (cur.map J1)=true:=by
  unfold ON;rw [NM,Uo _ (by omega),B5,W0o,W0o]
  have:=hperm.length_eq
  cases cur with
  |nil=>rw [<-this] at h0;cases h0
  |cons _ _=>rfl
 have h4:=FG (a:=Z5 2) (en:=[some (.tup ((kn f (W6 6)).map enc)),some (.tup ((kn g (W6 6)).map enc)),some (.ref S.length),x3]) (S:=S++[.dct (cur.map J1)]) (n:=S.length) rfl (Wz ..) ok
 rw [NM,NF (Jz cur) (hperm.map enc) (Z19 _)] at h4;unfold ZU;simp only [EVS,W9,Wa,Wf,W2,Wg,Wh,Wb,Wc,W5,↓reduceIte,reduceCtorEq,W1,We,W3,AO (S:=S) (show (kn f (W6 6)).length<=Wk by omega) (B0 f),e,h4]
 rw [Yl _ _ _ (JO _ _)]
theorem Z39 {b:M D}{en:En}{S:Sto}{ds:List D}{G:Sto}:Z04 b en (some (.ref S.length,S++[Ob.lst ds]++G))=T1 S.length (b en (S++[Ob.lst ds]++G)):=by
 show (match (S++[Ob.lst ds]++G)[S.length]? with|some (Ob.lst _)=>T1 S.length (b en (S++[Ob.lst ds]++G))|_=>(b en (S++[Ob.lst ds]++G)).bind λ_=>none)=_
 rw [WN,WV (Wq _),W2o];rfl
theorem Z1s {S:Sto}{ds:List D}{G:Sto}{v:D}(h:ds.length<Wk):T1 S.length (some (v,S++[Ob.lst ds]++G))=some (.non,S++[Ob.lst (ds++[v])]++G):=by
 show (match (S++[Ob.lst ds]++G)[S.length]? with|some (Ob.lst ds')=>if ds'.length<Wk then some (D.non,(S++[Ob.lst ds]++G).set S.length (Ob.lst (ds'++[v]))) else none|_=>none)=_
 have e:(S++[Ob.lst ds]++G)[S.length]? = some (Ob.lst ds):=by rw [WN,WV (Wq _),W2o];rfl
 rw [e];dsimp only;rw [if_pos h];simp
theorem Sx (f:Nat->Int)(k:Nat):∀l:List Nat,l.Nodup->((kn f l).filter λp=>decide (p.1=(k:Int))).map (·.2)=if k∈l/\0<f k then [f k] else []
 |[],_=>by simp [kn]
 |h :: l,hn=>by
  rw [VE] at hn;have ih:=Sx f k l hn.2
  have hc:kn f (h :: l)=if 0<f h then ((h:Int),f h) :: kn f l else kn f l:=by
   unfold kn;rw [List.filter_cons];by_cases q:0<f h<;>simp [q]
  rw [hc];by_cases e:h=k
  ·subst e
   have hnl:¬(h∈l/\0<f h):=λz=>hn.1 z.1
   rw [if_neg hnl] at ih;by_cases q:0<f h
   ·rw [if_pos q,W1C (by simp),W1,ih,if_pos ⟨Wp,q⟩]
   ·rw [if_neg q,ih,if_neg λz=>q z.2]
  ·have hm:(k∈h :: l/\0<f k)↔(k∈l/\0<f k):=by
    rw [Wv]
    constructor
    ·rintro⟨z|z,w⟩
     ·exact absurd z.symm e
     ·exact⟨z,w⟩
    ·exact λz=>⟨.inr z.1,z.2⟩
   by_cases q:0<f h
   ·rw [if_pos q,W1D (by rw [decide_eq_true_eq];show ¬(h:Int)=(k:Int);omega),ih]
    simp only [hm]
   ·rw [if_neg q,ih]
    simp only [hm]
theorem Z16 (n:Nat)(a:Mk)(x:Str)(ks:List Mk)(ns ts:List (Mk×Str)):J6 n (mkF a x ks ns ts)=true:=by
 unfold mkF;rw [J6];simp only [lowDs,JO,Sv,W0o,Bool.true_and]
 unfold enc J6 lowDs J6 lowDs J6 lowDs;simp [J6]
section
variable {f g:Nat->Int} {a:Mk} {x y:Str} {ns ts ns' ts':List (Mk×Str)} {S:Sto}
end
theorem IF (f g:Nat->Int)(i:Nat):f i<=mx f g i:=by unfold mx;omega
theorem Z2U (f g:Nat->Int)(i:Nat):g i<=mx f g i:=by unfold mx;omega
theorem Sw {f h:Nat->Int}(hfh:∀i,f i<=h i){q:Mk}(hq:q∈kn f (W6 6)):∃r∈kn h (W6 6),r.1=q.1/\q.2<=r.2:=by
 obtain⟨i,i1,i2,rfl⟩:=UR hq
 have:=hfh i
 exact⟨_,JM (f:=h) i1 (by omega),rfl,this⟩
theorem Rv {f h:Nat->Int}(hfh:∀i,f i<=h i)(m:Mk)(hw:Zc (kn f (W6 6)) m=true):Zc (kn h (W6 6)) m=true:=by
 unfold Zc at hw ⊢
 rw [WZ] at hw ⊢
 obtain⟨q,q1,q2⟩:=hw
 rw [Wm,decide_eq_true_eq,decide_eq_true_eq] at q2;obtain⟨r,r1,r2,r3⟩:=Sw hfh q1
 refine⟨r,r1,?_⟩
 rw [Wm,decide_eq_true_eq,decide_eq_true_eq];exact⟨by rw [r2,q2.1],Int.le_trans q2.2 r3⟩
theorem NT {f h:Nat->Int}(hfh:∀i,f i<=h i){m:Mk}(hw:DU (kn f (W6 6)) m):DU (kn h (W6 6)) m:=by
 obtain⟨q,q1,q2,q3,q4⟩:=hw
 obtain⟨r,r1,r2,r3⟩:=Sw hfh q1
 exact⟨r,r1,by rw [r2,q2],q3,Int.le_trans q4 r3⟩
abbrev wk (f:Nat->Int):Mk->Bool:=Zc (kn f (W6 6))
theorem Ac.wi {ks:List Mk}{kind:Int}{A:List (Mk×Str)}(h:Ac ks kind A):∀p∈A,Zc ks p.1=true:=λp hp=>NS (h.2.1.2 p hp).1
theorem Ac.nd {ks:List Mk}{kind:Int}{A:List (Mk×Str)}(h:Ac ks kind A):A.Nodup:=YY h.2.1.1
theorem okJ {f g:Nat->Int}{kind:Int}{A B:List (Mk×Str)}(hA:Ac (kn f (W6 6)) kind A)(hB:Ac (kn g (W6 6)) kind B)(hK:(kept A (wk f) B (wk g)).length<=18):Ac (kn (mx f g) (W6 6)) kind (J A (wk f) B (wk g)):=by
 have hl:=(Nx A (wk f) B (wk g)).length_eq
 have hp:=Nx A (wk f) B (wk g)
 have hm:((J A (wk f) B (wk g)).map (·.1)).Nodup:=(hp.map (·.1)).nodup_iff.mpr (KZ hA.2.1.1 hB.2.1.1 hA.wi hB.wi)
 refine⟨by omega,⟨hm,λp hq=>?_⟩,KD hm Z3c⟩
 rcases T8.mp (hp.mem_iff.mp hq) with z|z|z
 ·exact⟨NT (IF f g) (hA.2.1.2 p z.1).1,(hA.2.1.2 p z.1).2⟩
 ·exact⟨NT (IF f g) (hA.2.1.2 p z.1).1,(hA.2.1.2 p z.1).2⟩
 ·exact⟨NT (Z2U f g) (hB.2.1.2 p z.1).1,(hB.2.1.2 p z.1).2⟩
section
variable {f g:Nat->Int} {a b:Mk} {x y:Str} {ns ts ns' ts':List (Mk×Str)} {S:Sto}
theorem EU (hfh:∀i,f i<=g i)(h:0<(kn f (W6 6)).length):0<(kn g (W6 6)).length:=by
 obtain⟨q,hq⟩:=List.exists_mem_of_length_pos h
 obtain⟨r,r1,_⟩:=Sw hfh hq
 exact W0S r1
theorem E6 (h1:GF a x (kn f (W6 6)) ns ts)(h2:GF b y (kn g (W6 6)) ns' ts')(kn1:(kept ns (wk f) ns' (wk g)).length<=18)(kt1:(kept ts (wk f) ts' (wk g)).length<=18):GF a x (kn (mx f g) (W6 6)) (J ns (wk f) ns' (wk g)) (J ts (wk f) ts' (wk g)):=by
 refine⟨h1.hp,Rv (IF f g) _ h1.hw,h1.hx,EU (IF f g) h1.hk0,JJ _ _,λq hq=>?_,PO _,okJ h1.hn h2.hn kn1,okJ h1.ht h2.ht kt1⟩
 obtain⟨h,q1,q2,rfl⟩:=UR hq
 exact⟨⟨by show (0:Int)<=(h:Int);omega,by show (h:Int)<6;omega⟩,by show 1<=mx f g h;omega⟩
theorem Di (hf:∀h,0<=f h)(hg:∀h,0<=g h)(h1:GF a x (kn f (W6 6)) ns ts)(h2:GF b y (kn g (W6 6)) ns' ts')(kn1:(kept ns (wk f) ns' (wk g)).length<=18)(kt1:(kept ts (wk f) ts' (wk g)).length<=18) :
  ZE [mkF a x (kn f (W6 6)) ns ts,mkF b y (kn g (W6 6)) ns' ts'] S=some (mkF a x (kn (mx f g) (W6 6)) (J ns (wk f) ns' (wk g)) (J ts (wk f) ts' (wk g)),S):=by
 have hz:5<=Wk:=by decide
 generalize hA:mkF a x (kn f (W6 6)) ns ts=A
 generalize hB:mkF b y (kn g (W6 6)) ns' ts'=B
 have a0:∀S,gIx A (.int 0) S=some (enc a,S):=λS=>by rw [<-hA];rfl
 have a1:∀S,gIx A (.int 1) S=some (.str x,S):=λS=>by rw [<-hA];rfl
 have a2:∀S,gIx A (.int 2) S=some (.tup ((kn f (W6 6)).map enc),S):=λS=>by rw [<-hA];rfl
 have a3:∀S,gIx A (.int 3) S=some (.tup (ns.map Zr),S):=λS=>by rw [<-hA];rfl
 have a4:∀S,gIx A (.int 4) S=some (.tup (ts.map Zr),S):=λS=>by rw [<-hA];rfl
 have b2:∀S,gIx B (.int 2) S=some (.tup ((kn g (W6 6)).map enc),S):=λS=>by rw [<-hB];rfl
 have b3:∀S,gIx B (.int 3) S=some (.tup (ns'.map Zr),S):=λS=>by rw [<-hB];rfl
 have b4:∀S,gIx B (.int 4) S=some (.tup (ts'.map Zr),S):=λS=>by rw [<-hB];rfl
 have p1:∀S,Zy [.tup (ns.map Zr),.tup ((kn f (W6 6)).map enc),.tup (ns'.map Zr),.tup ((kn g (W6 6)).map enc)] S=_:=λS=>Dl h1.hn.1 h2.hn.1 kn1 h1.hk6 h2.hk6 h1.hn.nd h2.hn.nd h1.hn.wi h2.hn.wi
 have p2:∀S,Zy [.tup (ts.map Zr),.tup ((kn f (W6 6)).map enc),.tup (ts'.map Zr),.tup ((kn g (W6 6)).map enc)] S=_:=λS=>Dl h1.ht.1 h2.ht.1 kt1 h1.hk6 h2.hk6 h1.ht.nd h2.ht.nd h1.ht.wi h2.ht.wi
 have p3:∀S,ZU [.tup ((kn f (W6 6)).map enc),.tup ((kn g (W6 6)).map enc)] S=_:=λS=>Z1h hf hg (EU (IF f g) h1.hk0)
 unfold ZE;simp only [EVS,W9,Wa,Wf,W2,Wg,Wh,Wb,Wc,W5,↓reduceIte,reduceCtorEq,W1,We,W3,a0,a1,a2,a3,a4,b2,b3,b4,p1,p2,p3,hz]
 rfl
end
theorem GH (n:Nat)(p:Mk):SD (n+1) (enc p):=⟨(show 2<=100 by decide),λd hd=>by
 simp only [Wv,WX,or_false] at hd
 rcases hd with z|z<;>rw [z]<;>cases n<;>trivial⟩
theorem Hk (n:Nat)(x:Str):SD n (.str x):=by cases n<;>trivial
theorem Z29 {a:Mk}{x:Str}{ks:List Mk}{ns ts:List (Mk×Str)}(hk:ks.length<=6)(h1:ns.length<=20)(h2:ts.length<=20):SD 5 (mkF a x ks ns ts):=by
 have hp:∀ps:List (Mk×Str),ps.length<=20->SD 4 (.tup (ps.map Zr)):=λps hl=>⟨by rw [W7];omega,λd hd=>by
  obtain⟨p,_,rfl⟩:=WB.mp hd
  refine⟨(show 2<=100 by decide),λe he=>?_⟩
  simp only [Wv,WX,or_false] at he
  rcases he with z|z<;>rw [z]
  ·exact GH 1 p.1
  ·exact Hk 2 p.2⟩
 refine⟨(show 5<=100 by decide),λd hd=>?_⟩
 simp only [Wv,WX,or_false] at hd
 rcases hd with z|z|z|z|z<;>rw [z]
 ·exact GH 3 a
 ·exact Hk 4 x
 ·refine⟨by rw [W7];omega,λe he=>?_⟩
  obtain⟨p,_,rfl⟩:=WB.mp he
  exact GH 2 p
 ·exact hp ns h1
 ·exact hp ts h2
theorem Hl:∀(n m:Nat) (d:D),n<=m->SD n d->pln m d=true
 |n,m,.int _,_,_=>by cases m<;>rfl
 |n,m,.str _,_,_=>by cases m<;>rfl
 |n+1,0,.tup _,h,_=>by omega
 |n+1,m+1,.tup ds,h,hs=>by
  unfold SD at hs;unfold pln;rw [Ww];exact λd hd=>Hl n m d (by omega) (hs.2 d hd)
 |0,_,.tup _,_,h=>h.elim
 |0,_,.non,_,h=>h.elim
 |0,_,.bl _,_,h=>h.elim
 |0,_,.ref _,_,h=>h.elim
 |0,_,.scr _,_,h=>h.elim
 |_+1,_,.non,_,h=>h.elim
 |_+1,_,.bl _,_,h=>h.elim
 |_+1,_,.ref _,_,h=>h.elim
 |_+1,_,.scr _,_,h=>h.elim
end K09
namespace K09
open PySem L2 DL
theorem Ev {m:Mk}{ks:List Mk}{S:Sto}(hl:ks.length<=6):UT [enc m,.tup (ks.map enc)] S=some (.bl (Zc ks m),S):=by
 unfold UT enc;simp only [EVS,W9,Wa,Wf,W2,Wg,Wh,Wb,Wc,W5,↓reduceIte,reduceCtorEq,W1,We,W3]
 have c1:=YT (ds0:=ks.map enc) (gd:=.no) (cap:=[none,none,some (.tup [.int m.1,.int m.2])]) (g:=gT 2 (YJ (gN 0) (YJ (gN 1) G9))) (m:=Tb) (S:=S) ks enc (λp=>D.bl (decide (p.1=m.1)&&decide (m.2<=p.2))) YD (V7 hl (by decide)) λp hp=>⟨_,rfl,by
  simp only [Tb,EVS,W9,Wa,Wf,W2,Wg,Wh,Wb,Wc,W5,↓reduceIte,reduceCtorEq,W1,We,W3]
  by_cases q:p.1=m.1<;>simp [q]⟩
 have e:ks.map (λp=>D.bl (decide (p.1=m.1)&&decide (m.2<=p.2)))=(ks.map λp=>(decide (p.1=m.1)&&decide (m.2<=p.2))).map D.bl:=by rw [WY];rfl
 rw [e] at c1;have c2:ZK (ks.map λp:Mk=>D.tup [.int p.1,.int p.2]) .no [none,none,some (.tup [.int m.1,.int m.2])] (gT 2 (YJ (gN 0) (YJ (gN 1) G9))) Qf Tb (ks.map λp:Mk=>D.tup [.int p.1,.int p.2]) [] S=_:=c1
 simp only [EVS,W9,Wa,Wf,W2,Wg,Wh,Wb,Wc,W5,↓reduceIte,reduceCtorEq,W1,We,W3,c2,Ow,Hh,Zc]
section
variable {A B:List (Mk×Str)} {kf kg:List Mk} {S:Sto}
theorem Oa (hA:A.length<=20)(hB:B.length<=20)(hf:kf.length<=6)(hg:kg.length<=6) :
  Qw [.tup (A.map Zr),.tup (kf.map enc),.tup (B.map Zr),.tup (kg.map enc)] S=some (.tup ((J A (Zc kf) B (Zc kg)).map Zr),S):=by
 unfold Qw;have hz:100<=Wk:=by decide
 let X1:=A.filter λp=>decide (p∈B)
 let X2:=A.filter λp:Mk×Str=>!Zc kg p.1
 let X3:=B.filter λp:Mk×Str=>!Zc kf p.1
 have l1:X1.length<=A.length:=V9 _ _
 have l2:X2.length<=A.length:=V9 _ _
 have l3:X3.length<=B.length:=V9 _ _
 have c1:∀S,ZK (A.map Zr) .no [none,some (.tup (B.map Zr))] (gN 0) UJ UE (A.map Zr) [] S=some (X1.map Zr,S):=λS=>by
  refine YS A Zr (λp=>decide (p∈B)) Zr YD (by omega) λp hp=>⟨_,rfl,?_,λ_=>by simp only [UE,EVS,W9,Wa,Wf,W2,Wg,Wh,Wb,Wc,W5,↓reduceIte,reduceCtorEq,W1,We,W3]⟩
  have hi:=OR p B S
  simp only [UJ,EVS,W9,Wa,Wf,W2,Wg,Wh,Wb,Wc,W5,↓reduceIte,reduceCtorEq,W1,We,W3,hi]
 have c2:∀S,ZK (A.map Zr) .no [none,some (.tup (kg.map enc))] (gN 0) UI UD (A.map Zr) [] S=some (X2.map Zr,S):=λS=>by
  refine YS A Zr (λp=>!Zc kg p.1) Zr YD (by omega) λp hp=>⟨_,rfl,?_,λ_=>by simp only [UD,EVS,W9,Wa,Wf,W2,Wg,Wh,Wb,Wc,W5,↓reduceIte,reduceCtorEq,W1,We,W3]⟩
  have hw:UT [enc p.1,.tup (kg.map enc)] S=_:=Ev hg
  simp only [UI,EVS,W9,Wa,Wf,W2,Wg,Wh,Wb,Wc,W5,↓reduceIte,reduceCtorEq,W1,We,W3,Z1e,hw]
 have c3:∀S,ZK (B.map Zr) .no [none,some (.tup (kf.map enc))] (gN 0) UH UC (B.map Zr) [] S=some (X3.map Zr,S):=λS=>by
  refine YS B Zr (λp=>!Zc kf p.1) Zr YD (by omega) λp hp=>⟨_,rfl,?_,λ_=>by simp only [UC,EVS,W9,Wa,Wf,W2,Wg,Wh,Wb,Wc,W5,↓reduceIte,reduceCtorEq,W1,We,W3]⟩
  have hw:UT [enc p.1,.tup (kf.map enc)] S=_:=Ev hf
  simp only [UH,EVS,W9,Wa,Wf,W2,Wg,Wh,Wb,Wc,W5,↓reduceIte,reduceCtorEq,W1,We,W3,Z1e,hw]
 generalize hS2:S++[Ob.lst (X1.map Zr)]++[Ob.lst (X2.map Zr)]=S2
 have h3:=Fc (S:=S2) (a:=S.length) (b:=(S++[Ob.lst (X1.map Zr)]).length) (by rw [<-hS2];exact Z1r) (by rw [<-hS2];exact Wz ..) (by rw [W7,W7];omega)
 rw [<-WP] at h3
 generalize hS3:S2++[Ob.lst ((X1++X2).map Zr)]++[Ob.lst (X3.map Zr)]=S3
 have h4:=Fc (S:=S3) (a:=S2.length) (b:=(S2++[Ob.lst ((X1++X2).map Zr)]).length) (by rw [<-hS3];exact Z1r) (by rw [<-hS3];exact Wz ..) (by rw [W7,W7,WC];omega)
 rw [<-WP] at h4;have hX:X1++X2++X3=kept A (Zc kf) B (Zc kg):=rfl
 rw [hX] at h4;have hk:=K3 A (Zc kf) B (Zc kg)
 have h5:Lf (some (.ref S3.length,S3++[Ob.lst ((kept A (Zc kf) B (Zc kg)).map Zr)]))=some ((J A (Zc kf) B (Zc kg)).map Zr,S3++[Ob.lst ((kept A (Zc kf) B (Zc kg)).map Zr)]):=by
  rw [F4 (ds:=(kept A (Zc kf) B (Zc kg)).map Zr) (by dsimp only [FF];rw [Wz]) (Ti _ (by omega)),IB]
 simp only [EVS,W9,Wa,Wf,W2,Wg,Wh,Wb,Wc,W5,↓reduceIte,reduceCtorEq,W1,We,W3,c1,hS2,h3,c2,c3,hS3,h4,h5]
 rw [<-hS3,<-hS2,WN,WN,WN,WN,Yl _ _ _ (Sv _ _)]
end
section
variable {f g:Nat->Int} {a:Mk} {x y:Str} {ns ts ns' ts':List (Mk×Str)} {S:Sto}
theorem As (hf:∀h,0<=f h)(hg:∀h,0<=g h)(l1:ns.length<=20)(l2:ts.length<=20)(l3:ns'.length<=20)(l4:ts'.length<=20) :
  Ql [mkF a x (kn f (W6 6)) ns ts,mkF a y (kn g (W6 6)) ns' ts'] S=some (mkF a x (kn (mx f g) (W6 6)) (J ns (Zc (kn f (W6 6))) ns' (Zc (kn g (W6 6)))) (J ts (Zc (kn f (W6 6))) ts' (Zc (kn g (W6 6)))),S):=by
 have hz:100<=Wk:=by decide
 have f6:=JJ f (W6 6)
 have g6:=JJ g (W6 6)
 rw [V5] at f6 g6
 generalize hA:mkF a x (kn f (W6 6)) ns ts=A
 generalize hB:mkF a y (kn g (W6 6)) ns' ts'=B
 have a0:∀S,gIx A (.int 0) S=some (enc a,S):=λS=>by rw [<-hA];rfl
 have a1:∀S,gIx A (.int 1) S=some (.str x,S):=λS=>by rw [<-hA];rfl
 have a2:∀S,gIx A (.int 2) S=some (.tup ((kn f (W6 6)).map enc),S):=λS=>by rw [<-hA];rfl
 have a3:∀S,gIx A (.int 3) S=some (.tup (ns.map Zr),S):=λS=>by rw [<-hA];rfl
 have a4:∀S,gIx A (.int 4) S=some (.tup (ts.map Zr),S):=λS=>by rw [<-hA];rfl
 have b2:∀S,gIx B (.int 2) S=some (.tup ((kn g (W6 6)).map enc),S):=λS=>by rw [<-hB];rfl
 have b3:∀S,gIx B (.int 3) S=some (.tup (ns'.map Zr),S):=λS=>by rw [<-hB];rfl
 have b4:∀S,gIx B (.int 4) S=some (.tup (ts'.map Zr),S):=λS=>by rw [<-hB];rfl
 have gA:∀S,JD (.tup ((kn f (W6 6)).map enc)) (.tup ((kn g (W6 6)).map enc)) S=some (.tup ((kn f (W6 6)++kn g (W6 6)).map enc),S):=λS=>by
  rw [Xc (by rw [W7,W7];omega),WP]
 let P:List Nat->En->Sto->Prop:=λpre en S'=>∃x3 x4 G,en=[some A,some B,some (.ref S.length),x3,x4,none]/\S'=S++[.lst ((kn (mx f g) pre).map enc)]++G
 have step:∀(pre:List Nat) (k:Nat) (post:List Nat) (en:En) (S1:Sto),W6 6=pre++k :: post->P pre en S1->∃en1,gN 3 (D.int (k:Nat)) en=some en1/\∃en2 S2,Qj en1 S1=some (.nx,en2,S2)/\P (pre++[k]) en2 S2:=by
  intro pre k post en S1 hpre hP;obtain⟨x3,x4,G,rfl,rfl⟩:=hP
  refine⟨_,rfl,?_⟩
  have hk6:k<6:=Vf.mp (by rw [hpre];simp)
  have hlen:(kn (mx f g) pre).length<Wk:=by
   have h1:=JJ (mx f g) pre
   have h2:=congrArg Va hpre
   simp at h2
   omega
  let ss:List Int:=(if 0<f k then [f k] else [])++(if 0<g k then [g k] else [])
  have hss:((kn f (W6 6)++kn g (W6 6)).filter λp=>decide (p.1=(k:Int))).map (λp=>D.int p.2)=ss.map D.int:=by
   have e1:=Sx f k (W6 6) W0O
   have e2:=Sx g k (W6 6) W0O
   have m6:k∈W6 6:=Vf.mpr hk6
   have:((kn f (W6 6)++kn g (W6 6)).filter λp=>decide (p.1=(k:Int))).map (·.2)=ss:=by
    rw [W1E,WP,e1,e2];simp only [m6,true_and]
    rfl
   rw [<-this,WY];rfl
  generalize hS1:S++[Ob.lst ((kn (mx f g) pre).map enc)]++G=S1
  have c1:ZK ((kn f (W6 6)++kn g (W6 6)).map enc) .no [none,none,some (.int (k:Nat))] (gT 2 (YJ (gN 0) (YJ (gN 1) G9))) QZ QW ((kn f (W6 6)++kn g (W6 6)).map enc) [] S1=some (ss.map D.int,S1):=by
   rw [<-hss];exact YS _ enc (λp=>decide (p.1=(k:Int))) (λp=>D.int p.2) YD (by rw [WC];omega) λp hp=>⟨_,rfl,by simp only [QZ,EVS,W9,Wa,Wf,W2,Wg,Wh,Wb,Wc,W5,↓reduceIte,reduceCtorEq,W1,We,W3],λ_=>by simp only [QW,EVS,W9,Wa,Wf,W2,Wg,Wh,Wb,Wc,W5,↓reduceIte,reduceCtorEq,W1,We,W3]⟩
  have hmax:=Sl (a:=QT (YA (Qa (mOp JD (mOp gIx (Z5 0) (Zd (D.int (2)))) (mOp gIx (Z5 1) (Zd (D.int (2)))))) 2 [3] (gT 2 (YJ (gN 0) (YJ (gN 1) G9))) QZ QW)) (d:=Zd (D.int (0))) (en:=[some A,some B,some (.ref S.length),some (.int (k:Nat)),x4,none]) (S:=S1) (S1:=S1++[Ob.lst (ss.map D.int)]) (S2:=S1++[Ob.lst (ss.map D.int)]) (n:=S1.length) (v:=.int 0) (ss:=ss)
   (by simp only [EVS,W9,Wa,Wf,W2,Wg,Wh,Wb,Wc,W5,↓reduceIte,reduceCtorEq,W1,We,W3,a2,b2,gA,c1]) rfl (Wz ..)
  have hval:(if ss.isEmpty then D.int 0 else .int (KJ ss)) = .int (mx f g k):=by
   have fk:=hf k
   have gk:=hg k
   show (if ((if 0<f k then [f k] else [])++(if 0<g k then [g k] else [])).isEmpty then D.int 0 else .int (KJ ((if 0<f k then [f k] else [])++(if 0<g k then [g k] else [])))) = .int (max (f k) (g k))
   by_cases p:0<f k<;>by_cases q:0<g k
   ·rw [if_pos p,if_pos q]
    show D.int (KJ [f k,g k])=_
    rw [O5]
   ·rw [if_pos p,if_neg q]
    show D.int (KJ [f k])=_
    rw [Ep]
    congr 1
    omega
   ·rw [if_neg p,if_pos q]
    show D.int (KJ [g k])=_
    rw [Ep]
    congr 1
    omega
   ·rw [if_neg p,if_neg q]
    show D.int 0=_
    congr 1
    omega
  rw [hval] at hmax;have hS2:S1++[Ob.lst (ss.map D.int)]=S++[Ob.lst ((kn (mx f g) pre).map enc)]++(G++[Ob.lst (ss.map D.int)]):=by rw [<-hS1,WN]
  rw [hS2] at hmax;by_cases hp:0<mx f g k
  ·refine⟨[some A,some B,some (.ref S.length),some (.int (k:Nat)),some (.int (mx f g k)),none],S++[.lst ((kn (mx f g) (pre++[k])).map enc)]++(G++[Ob.lst (ss.map D.int)]),?_,_,_,_,rfl,rfl⟩
   rw [Uu,if_pos hp,WP];simp only [Qj,EVS,W9,Wa,Wf,W2,Wg,Wh,Wb,Wc,W5,↓reduceIte,reduceCtorEq,W1,We,W3,hmax,hp,Z39,Z1s,W7,hlen]<;>rfl
  ·refine⟨[some A,some B,some (.ref S.length),some (.int (k:Nat)),some (.int (mx f g k)),none],S++[.lst ((kn (mx f g) (pre++[k])).map enc)]++(G++[Ob.lst (ss.map D.int)]),?_,_,_,_,rfl,rfl⟩
   rw [Uu,if_neg hp];simp only [Qj,EVS,W9,Wa,Wf,W2,Wg,Wh,Wb,Wc,W5,↓reduceIte,reduceCtorEq,W1,We,W3,hmax,hp]<;>rfl
 obtain⟨en',S',e,x3,x4,G,e2,e3⟩:=QO (g:=gN 3) (ds0:=Ny 0 6) (gd:=.no) (body:=Qj) (W6 6) (λk=>D.int (k:Nat)) P step (λ_ _ _ _=>trivial)
  (en:=[some A,some B,some (.ref S.length),none,none,none]) (S:=S++[.lst []]) ⟨_,_,[],rfl,(VL _).symm⟩
 rw [<-JU] at e;subst e2 e3;have h6:Int.toNat 6=6:=rfl
 have k1:∀S,Qw [.tup (ns.map Zr),.tup ((kn f (W6 6)).map enc),.tup (ns'.map Zr),.tup ((kn g (W6 6)).map enc)] S=_:=λS=>Oa l1 l3 f6 g6
 have k2:∀S,Qw [.tup (ts.map Zr),.tup ((kn f (W6 6)).map enc),.tup (ts'.map Zr),.tup ((kn g (W6 6)).map enc)] S=_:=λS=>Oa l2 l4 f6 g6
 have hT:Le (some (.ref S.length,S++[Ob.lst ((kn (mx f g) (W6 6)).map enc)]++G))=some (.tup ((kn (mx f g) (W6 6)).map enc),S++[Ob.lst ((kn (mx f g) (W6 6)).map enc)]++G):=F3 (by rw [WN,WV (Wq _),W2o];rfl)
 have z5:5<=Wk:=by decide
 unfold Ql;simp only [EVS,W9,Wa,Wf,W2,Wg,Wh,Wb,Wc,W5,↓reduceIte,reduceCtorEq,W1,We,W3,Bb (show -(2 ^ 62)<=(6:Int)/\(6:Int)<2 ^ 62 by decide),h6,e,a0,a1,a2,a3,a4,b2,b3,b4,k1,k2,hT,z5]
 rw [WN];exact congrArg some (Yl _ _ _ (Z16 _ _ _ _ _ _))
end
theorem QL {α:Type}[DecidableEq α]:∀{l m:List α},l.Nodup->(∀a∈l,a∈m)->l.length<=m.length
 |[],m,_,_=>Vx _
 |a :: l,m,hn,hs=>by
  rw [VE] at hn;have ha:a∈m:=hs a Wp
  have:=QL (l:=l) (m:=m.erase a) hn.2 λb hb=>(List.mem_erase_of_ne (λz:b=a=>hn.1 (z ▸ hb))).mpr (hs b (Wu _ hb))
  rw [W2C ha] at this;have hp:=W0S ha
  rw [WS];omega
theorem Ru (f:Nat->Int)(m:Mk):wk f m=true↔∃i:Nat,i<6/\0<f i/\m.1=(i:Int)/\m.2<=f i:=by
 unfold wk Zc;rw [WZ]
 constructor
 ·rintro⟨q,q1,q2⟩
  obtain⟨i,i1,i2,rfl⟩:=UR q1
  rw [Wm,decide_eq_true_eq,decide_eq_true_eq] at q2;exact⟨i,i1,i2,q2.1.symm,q2.2⟩
 ·rintro⟨i,i1,i2,i3,i4⟩
  refine⟨_,JM i1 i2,?_⟩
  rw [Wm,decide_eq_true_eq,decide_eq_true_eq];exact⟨i3.symm,i4⟩
theorem Z07 (f g:Nat->Int)(m:Mk):wk (mx f g) m=true↔wk f m=true\/wk g m=true:=by
 rw [Ru,Ru,Ru]
 constructor
 ·rintro⟨i,i1,i2,i3,i4⟩
  unfold mx at i2 i4;by_cases h:g i<=f i
  ·exact .inl ⟨i,i1,by omega,i3,by omega⟩
  ·exact .inr ⟨i,i1,by omega,i3,by omega⟩
 ·rintro (⟨i,i1,i2,i3,i4⟩|⟨i,i1,i2,i3,i4⟩)
  ·exact⟨i,i1,by unfold mx;omega,i3,by unfold mx;omega⟩
  ·exact⟨i,i1,by unfold mx;omega,i3,by unfold mx;omega⟩
structure Fl where
 f:Nat->Int
 ns:List (Mk×Str)
 ts:List (Mk×Str)
def mk (a:Mk)(x:Str)(F:Fl):D:=mkF a x (kn F.f (W6 6)) F.ns F.ts
structure Ok (a:Mk) (x:Str) (F:Fl):Prop where
 pos:∀h,0<=F.f h
 gf:GF a x (kn F.f (W6 6)) F.ns F.ts
def Bo (L:List Fl)(sel:Fl->List (Mk×Str))(e:Mk×Str):Prop:=(∃c∈L,e∈sel c)/\∀c∈L,wk c.f e.1=true->e∈sel c
structure Is (L:List Fl) (F:Fl):Prop where
 top:∀i,(∃c∈L,F.f i=c.f i)/\∀c∈L,c.f i<=F.f i
 seen:∀m,wk F.f m=true↔∃c∈L,wk c.f m=true
 n:∀e,e∈F.ns↔Bo L Fl.ns e
 t:∀e,e∈F.ts↔Bo L Fl.ts e
def join (F G:Fl):Fl:=⟨mx F.f G.f,J F.ns (wk F.f) G.ns (wk G.f),J F.ts (wk F.f) G.ts (wk G.f)⟩
theorem Gv {L L':List Fl}{sel:Fl->List (Mk×Str)}{F G:Fl}(h1:∀m,wk F.f m=true↔∃c∈L,wk c.f m=true)(h2:∀m,wk G.f m=true↔∃c∈L',wk c.f m=true){A B:List (Mk×Str)}(hA:∀e,e∈A↔Bo L sel e)(hB:∀e,e∈B↔Bo L' sel e)
  (hw:∀c∈L++L',∀e∈sel c,wk c.f e.1=true) (e:Mk×Str):e∈J A (wk F.f) B (wk G.f)↔Bo (L++L') sel e:=by
 rw [(Nx _ _ _ _).mem_iff,T8,hA,hB];have nof:∀{M:List Fl} {K:Fl},(∀m,wk K.f m=true↔∃c∈M,wk c.f m=true)->wk K.f e.1=false->∀c∈M,wk c.f e.1=true->e∈sel c:=λ{M K} h z c hc w=>by
  have:=(h e.1).mpr ⟨c,hc,w⟩
  rw [z] at this;cases this
 constructor
 ·rintro (⟨z1,z2⟩|⟨z1,z2⟩|⟨z1,z2⟩)
  ·obtain⟨⟨c,c1,c2⟩,z3⟩:=z1
   exact⟨⟨c,Vk _ c1,c2⟩,λd hd w=>(WH.mp hd).elim (λq=>z3 d q w) λq=>z2.2 d q w⟩
  ·obtain⟨⟨c,c1,c2⟩,z3⟩:=z1
   exact⟨⟨c,Vk _ c1,c2⟩,λd hd w=>(WH.mp hd).elim (λq=>z3 d q w) λq=>nof h2 z2 d q w⟩
  ·obtain⟨⟨c,c1,c2⟩,z3⟩:=z1
   exact⟨⟨c,WO _ c1,c2⟩,λd hd w=>(WH.mp hd).elim (λq=>nof h1 z2 d q w) λq=>z3 d q w⟩
 ·rintro⟨⟨c,c1,c2⟩,z⟩
  have zl:∀d∈L,wk d.f e.1=true->e∈sel d:=λd hd=>z d (Vk _ hd)
  have zr:∀d∈L',wk d.f e.1=true->e∈sel d:=λd hd=>z d (WO _ hd)
  have wc:=hw c c1 e c2
  rcases WH.mp c1 with q|q
  ·cases w:wk G.f e.1 with
   |false=>exact .inr (.inl ⟨⟨⟨c,q,c2⟩,zl⟩,rfl⟩)
   |true=>
    obtain⟨d,d1,d2⟩:=(h2 e.1).mp w
    exact .inl ⟨⟨⟨c,q,c2⟩,zl⟩,⟨d,d1,zr d d1 d2⟩,zr⟩
  ·cases w:wk F.f e.1 with
   |false=>exact .inr (.inr ⟨⟨⟨c,q,c2⟩,zr⟩,rfl⟩)
   |true=>
    obtain⟨d,d1,d2⟩:=(h1 e.1).mp w
    exact .inl ⟨⟨⟨d,d1,zl d d1 d2⟩,zl⟩,⟨c,q,c2⟩,zr⟩
theorem Is.one (F:Fl)(h1:∀e∈F.ns,wk F.f e.1=true)(h2:∀e∈F.ts,wk F.f e.1=true):Is [F] F:=by
 refine⟨λi=>⟨⟨F,by simp,rfl⟩,λc hc=>by rw [WA.mp hc];exact Int.le_refl _⟩,λm=>⟨λh=>⟨F,by simp,h⟩,λ⟨c,hc,w⟩=>by rw [WA.mp hc] at w;exact w⟩,λe=>?_,λe=>?_⟩
 ·exact⟨λh=>⟨⟨F,by simp,h⟩,λc hc _=>by rw [WA.mp hc];exact h⟩,λ⟨⟨c,hc,h⟩,_⟩=>by rw [WA.mp hc] at h;exact h⟩
 ·exact⟨λh=>⟨⟨F,by simp,h⟩,λc hc _=>by rw [WA.mp hc];exact h⟩,λ⟨⟨c,hc,h⟩,_⟩=>by rw [WA.mp hc] at h;exact h⟩
theorem Is.join {L L':List Fl}{F G:Fl}(h1:Is L F)(h2:Is L' G)(hn:∀c∈L++L',∀e∈c.ns,wk c.f e.1=true)(ht:∀c∈L++L',∀e∈c.ts,wk c.f e.1=true):Is (L++L') (K09.join F G):=by
 refine⟨λi=>⟨?_,λc hc=>?_⟩,λm=>?_,λe=>Gv h1.seen h2.seen h1.n h2.n hn e,λe=>Gv h1.seen h2.seen h1.t h2.t ht e⟩
 ·obtain⟨⟨c,c1,c2⟩,_⟩:=h1.top i
  obtain⟨⟨d,d1,d2⟩,_⟩:=h2.top i
  by_cases h:G.f i<=F.f i
  ·exact⟨c,Vk _ c1,by rw [<-c2];show max (F.f i) (G.f i)=_;omega⟩
  ·exact⟨d,WO _ d1,by rw [<-d2];show max (F.f i) (G.f i)=_;omega⟩
 ·show c.f i<=max (F.f i) (G.f i)
  rcases WH.mp hc with q|q
  ·have:=(h1.top i).2 c q;omega
  ·have:=(h2.top i).2 c q;omega
 ·show wk (mx F.f G.f) m=true↔_
  rw [Z07,h1.seen,h2.seen]
  constructor
  ·rintro (⟨c,c1,c2⟩|⟨c,c1,c2⟩)
   ·exact⟨c,Vk _ c1,c2⟩
   ·exact⟨c,WO _ c1,c2⟩
  ·rintro⟨c,c1,c2⟩
   rcases WH.mp c1 with q|q
   ·exact .inl ⟨c,q,c2⟩
   ·exact .inr ⟨c,q,c2⟩
theorem TN {L L':List Fl}(h:∀c,c∈L↔c∈L')(sel:Fl->List (Mk×Str))(e:Mk×Str):Bo L sel e↔Bo L' sel e:=by
 unfold Bo;simp only [h]
theorem Tg {A B:List (Mk×Str)}(nA:A.Nodup)(nB:B.Nodup)(sA:(A.map Zr).Pairwise leD)(sB:(B.map Zr).Pairwise leD)(h:∀e,e∈A↔e∈B):A=B:=by
 have hp:(A.map Zr).Perm (B.map Zr):=((W0z nA nB).mpr h).map Zr
 have e1:ZT (A.map Zr)=B.map Zr:=NF (QY A) hp sB
 have e2:ZT (A.map Zr)=A.map Zr:=NF (QY A) (.refl _) sA
 have e:=congrArg (List.map IL) (e2.symm.trans e1)
 rw [WY,WY] at e;have i:∀l:List (Mk×Str),l.map (IL ∘ Zr)=l:=λl=>by
  conv=>rhs;rw [<-List.map_id l]
  exact Vj λ_ _=>rfl
 rw [i,i] at e;exact e
theorem Is.uniq {a:Mk}{x:Str}{L L':List Fl}{F G:Fl}(h1:Is L F)(h2:Is L' G)(o1:Ok a x F)(o2:Ok a x G)(h:∀c,c∈L↔c∈L'):F=G:=by
 have ef:F.f=G.f:=funext λi=>by
  obtain⟨⟨c,c1,c2⟩,m1⟩:=h1.top i
  obtain⟨⟨d,d1,d2⟩,m2⟩:=h2.top i
  have u1:=m2 c ((h c).mp c1)
  have u2:=m1 d ((h d).mpr d1)
  omega
 have en:F.ns=G.ns:=Tg o1.gf.hn.nd o2.gf.hn.nd (Jv o1.gf.hn.2.2) (Jv o2.gf.hn.2.2) λe=>by rw [h1.n,h2.n];exact TN h _ e
 have et:F.ts=G.ts:=Tg o1.gf.ht.nd o2.gf.ht.nd (Jv o1.gf.ht.2.2) (Jv o2.gf.ht.2.2) λe=>by rw [h1.t,h2.t];exact TN h _ e
 cases F;cases G;dsimp only at ef en et;subst ef en et;rfl
structure Few (a:Mk) (x:Str) (B:List Fl):Prop where
 ok:∀c∈B,Ok a x c
 n:(B.flatMap Fl.ns).length<=18
 t:(B.flatMap Fl.ts).length<=18
section
variable {a:Mk} {x:Str} {B L L':List Fl} {F G:Fl} {S:Sto}
theorem LN {sel:Fl->List (Mk×Str)}{A A':List (Mk×Str)}(hB:(B.flatMap sel).length<=18)(hL:∀c∈L++L',c∈B)(hJ:∀e,e∈J A (wk F.f) A' (wk G.f)↔Bo (L++L') sel e)(hn:(J A (wk F.f) A' (wk G.f)).Nodup):(kept A (wk F.f) A' (wk G.f)).length<=18:=by
 rw [<-(Nx A (wk F.f) A' (wk G.f)).length_eq];refine V7 (QL hn λe he=>?_) hB
 obtain⟨⟨c,c1,c2⟩,_⟩:=(hJ e).mp he
 exact List.mem_flatMap.mpr ⟨c,hL c c1,c2⟩
theorem Fg {A A':List (Mk×Str)}{wf wg:Mk->Bool}(hA:A.Nodup)(hB:A'.Nodup)(ha:∀p∈A,wf p.1=true)(hb:∀p∈A',wg p.1=true):(J A wf A' wg).Nodup:=(Nx A wf A' wg).nodup_iff.mpr (Ux hA hB ha hb)
theorem Few.wn (hB:Few a x B):∀c∈B,∀e∈c.ns,wk c.f e.1=true:=λc hc=>(hB.ok c hc).gf.hn.wi
theorem Few.wt (hB:Few a x B):∀c∈B,∀e∈c.ts,wk c.f e.1=true:=λc hc=>(hB.ok c hc).gf.ht.wi
theorem RJ (hB:Few a x B)(h1:Is L F)(h2:Is L' G)(o1:Ok a x F)(o2:Ok a x G)(hL:∀c∈L++L',c∈B):(∀S,ZE [mk a x F,mk a x G] S=some (mk a x (join F G),S))/\Is (L++L') (join F G)/\Ok a x (join F G):=by
 have hj:=h1.join h2 (λc hc=>hB.wn c (hL c hc)) λc hc=>hB.wt c (hL c hc)
 have k1:=LN (F:=F) (G:=G) hB.n hL hj.n (Fg o1.gf.hn.nd o2.gf.hn.nd o1.gf.hn.wi o2.gf.hn.wi)
 have k2:=LN (F:=F) (G:=G) hB.t hL hj.t (Fg o1.gf.ht.nd o2.gf.ht.nd o1.gf.ht.wi o2.gf.ht.wi)
 exact⟨λS=>Di o1.pos o2.pos o1.gf o2.gf k1 k2,hj,λh=>Int.le_trans (o1.pos h) (IF _ _ h),E6 o1.gf o2.gf k1 k2⟩
end
end K09
namespace K09
open PySem L2 DL
section
variable {en:En} {S S1:Sto}
def Z1b (cn f:Str)(o:Option (D×Sto)):Option (D×Sto):=o.bind λp=>match p.1 with
 | .ref n=>(U4 p.2 n cn).bind λfs=>(fs.lookup f).map λv=>(v,p.2)
 |_=>none
theorem Ng {cn f:Str}{m:M D}:MX cn f m en S=Z1b cn f (m en S):=rfl
def OB (F:List D->Sto->Option (D×Sto))(n:Nat)(o:Option (List D×Sto)):Option (D×Sto):=o.bind λr=>F (.ref n :: r.1) r.2
theorem U2 {F:List D->Sto->Option (D×Sto)}{n:Nat}{ds:List D}:OB F n (some (ds,S))=F (.ref n :: ds) S:=rfl
def OC (cn m:Str)(F:List D->Sto->Option (D×Sto))(ma:M (List D))(en:En)(o:Option (D×Sto)):Option (D×Sto):=o.bind λp=>match p.1 with
 | .ref n=>(U4 p.2 n cn).bind λfs=>if (fs.lookup m).isNone=true then (ma en p.2).bind λr=>F (.ref n :: r.1) r.2 else none
 |_=>none
theorem Uc {cn m:Str}{F:List D->Sto->Option (D×Sto)}{mo:M D}{ma:M (List D)}:Ji cn m F mo ma en S=OC cn m F ma en (mo en S):=rfl
theorem LD {ma mb:M D}{n:Nat}{k:D}{kvs:List (D×D)}(h1:ma en S=some (.ref n,S))(h2:mb en S=some (k,S))(hd:S[n]? = some (.dct kvs))(hk:Yv kvs k=true):PL ma mb en S=some ((J7 kvs k).getD .non,S):=by
 unfold PL;rw [h1];show (mb en S).bind _=_
 rw [h2];show (if G8 S n=true then (Q7 S n k).map _ else none)=_
 have e1:G8 S n=true:=by unfold G8;rw [hd]
 have e2:Q7 S n k=some kvs:=by unfold Q7;rw [hd];dsimp only;rw [if_pos hk]
 rw [if_pos e1,e2];rfl
theorem Mr {S':Sto}{v:D}(h:S'.length=S.length):Gh S (v,S')=(v,S'):=by
 unfold Gh;split
 ·rename_i q
  have:=q.1
  rw [<-h,List.take_length] at this;rw [this]
 ·rfl
end
abbrev Ent:=Mk×Str×Fl
def key (e:Ent):D:=enc e.1
def fl (e:Ent):D:=mk e.1 e.2.1 e.2.2
def ent (e:Ent):D×D:=(key e,fl e)
def UV (E:List Ent)(t:Ent):List Ent:=if E.any (λe=>decide (e.1=t.1)) then E.map λe=>if e.1=t.1 then t else e else E++[t]
theorem B7 (e:Ent)(m:Mk):kEq (key e) (enc m)=decide (e.1=m):=Bc _ _
theorem Bz (E:List Ent)(m:Mk):Yv (E.map ent) (enc m)=true:=by
 unfold Yv;show (match QB (enc m) with|some _=>_|none=>false)=true
 rw [TH];show ((E.map ent).all λp=>(QB p.1).isSome)=true
 rw [Ww];intro p hp;obtain⟨e,_,rfl⟩:=WB.mp hp
 rfl
theorem XI (E:List Ent)(t:Ent):Td (E.map ent) (enc t.1) (fl t)=(UV E t).map ent:=by
 unfold Td UV;have e1:((E.map ent).any λp=>kEq p.1 (enc t.1))=E.any λe=>decide (e.1=t.1):=by
  rw [W0W];exact congrArg (E.any ·) (funext λe=>B7 e t.1)
 rw [e1];split
 ·rw [WY,WY]
  refine Vj λe _=>?_
  show (if kEq (key e) (enc t.1)=true then (key e,fl t) else ent e)=ent (if e.1=t.1 then t else e)
  rw [B7];by_cases q:e.1=t.1
  ·rw [if_pos (decide_eq_true q),if_pos q]
   show (enc e.1,fl t)=(enc t.1,fl t)
   rw [q]
  ·rw [if_neg (by rw [decide_eq_true_eq];exact q),if_neg q]
 ·rw [WP]
  rfl
theorem GA:∀{E:List Ent} {e:Ent},(E.map (·.1)).Nodup->e∈E->J7 (E.map ent) (enc e.1)=some (fl e)
 |a :: E,e,hn,he=>by
  rw [W1,VE] at hn;unfold J7;rw [W1,VN];have q:kEq (ent a).1 (enc e.1)=decide (a.1=e.1):=B7 a e.1
  rw [q];rcases Wv.mp he with rfl|z
  ·rw [decide_eq_true rfl];rfl
  ·have ne:¬a.1=e.1:=λw=>hn.1 (w ▸ W1k z)
   rw [decide_eq_false ne];exact GA hn.2 z
theorem LR {E:List Ent}{m:Mk}(h:∀e∈E,e.1≠m):J7 (E.map ent) (enc m)=none:=by
 unfold J7;rw [Option.map_eq_none_iff,List.find?_eq_none];intro p hp;obtain⟨e,he,rfl⟩:=WB.mp hp
 have q:kEq (ent e).1 (enc m)=decide (e.1=m):=B7 e m
 rw [q,decide_eq_true_eq];exact h e he
theorem FP {S:Sto}{n:Nat}{E:List Ent}(t:Ent)(h:S[n]? = some (.dct (E.map ent)))(hl:E.length<100):FR (.ref n) (enc t.1) (fl t) S=some (S.set n (.dct ((UV E t).map ent))):=by
 have hz:100<=Wk:=by decide
 dsimp only [FR];rw [h];dsimp only;rw [Bz,W7,decide_eq_true (show E.length<Wk by omega),XI]
 rfl
theorem MI {E:List Ent}{t:Ent}(h:∀e∈E,e.1≠t.1):UV E t=E++[t]:=by
 unfold UV;rw [if_neg];rw [WZ]
 rintro⟨e,he,q⟩
 exact h e he (of_decide_eq_true q)
theorem GS {E:List Ent}{t e:Ent}(he:e∈E)(h:e.1=t.1):UV E t=E.map λe=>if e.1=t.1 then t else e:=by
 unfold UV;rw [if_pos];rw [WZ];exact⟨e,he,decide_eq_true h⟩
theorem MU {E:List Ent}(hn:(E.map (·.1)).Nodup){e t:Ent}(he:e∈E)(ht:t∈E)(h:e.1=t.1):e=t:=by
 have a:=GA hn he
 induction E with
 |nil=>cases he
 |cons b E ih=>
  rw [W1,VE] at hn;rcases Wv.mp he with rfl|z<;>rcases Wv.mp ht with q|w
  ·exact q.symm
  ·exact absurd (W1k (f:=λx:Ent=>x.1) w) (by rw [<-h];exact hn.1)
  ·subst q;exact absurd (W1k (f:=λx:Ent=>x.1) z) (by rw [h];exact hn.1)
  ·exact ih hn.2 z w (GA hn.2 z)
theorem P6 {E:List Ent}(hn:(E.map (·.1)).Nodup){e:Ent}(he:e∈E):UV E e=E:=by
 rw [GS he rfl]
 conv=>rhs;rw [<-List.map_id E]
 refine Vj λx hx=>?_
 by_cases q:x.1=e.1
 ·rw [if_pos q,MU hn hx he q];rfl
 ·rw [if_neg q];rfl
theorem P7 {E:List Ent}{t e:Ent}(he:e∈E)(h:e.1=t.1):(UV E t).map (·.1)=E.map (·.1):=by
 rw [GS he h,WY];refine Vj λx _=>?_
 show (if x.1=t.1 then t else x).1=x.1
 split
 ·rename_i q;exact q.symm
 ·rfl
theorem IJ {S:Sto}{n:Nat}{E:List Ent}{e:Ent}(hn:(E.map (·.1)).Nodup)(h:S[n]? = some (.dct (E.map ent)))(he:e∈E):gIn (enc e.1) (.ref n) S=some (.bl true,S)/\U6 (enc e.1) (.ref n) S=some (.bl false,S)/\gIx (.ref n) (enc e.1) S=some (fl e,S):=by
 have e2:Q7 S n (enc e.1)=some (E.map ent):=by unfold Q7;rw [h];dsimp only;rw [if_pos (Bz _ _)]
 have e3:inD (enc e.1) (.ref n) S=some true:=by
  show (match S[n]? with|some (Ob.lst ys)=>_|_=>(Q7 S n (enc e.1)).map λkvs=>(J7 kvs (enc e.1)).isSome)=_
  rw [h];dsimp only;rw [e2,W3,GA hn he];rfl
 refine⟨?_,?_,CB e2 (GA hn he)⟩
 ·unfold gIn;rw [e3];rfl
 ·unfold U6;rw [e3];rfl
theorem DH {S:Sto}{n:Nat}{E:List Ent}{m:Mk}(h:S[n]? = some (.dct (E.map ent)))(he:∀e∈E,e.1≠m):gIn (enc m) (.ref n) S=some (.bl false,S)/\U6 (enc m) (.ref n) S=some (.bl true,S):=by
 have e2:Q7 S n (enc m)=some (E.map ent):=by unfold Q7;rw [h];dsimp only;rw [if_pos (Bz _ _)]
 have e3:inD (enc m) (.ref n) S=some false:=by
  show (match S[n]? with|some (Ob.lst ys)=>_|_=>(Q7 S n (enc m)).map λkvs=>(J7 kvs (enc m)).isSome)=_
  rw [h];dsimp only;rw [e2,W3,LR he];rfl
 constructor
 ·unfold gIn;rw [e3];rfl
 ·unfold U6;rw [e3];rfl
theorem Am {L:List D}{E:List Ent}(h:∀d∈L,∃e∈E,key e=d):∃E':List Ent,E'.map key=L/\∀e∈E',e∈E:=by
 induction L with
 |nil=>exact⟨[],rfl,λ_ h=>nomatch h⟩
 |cons d L ih=>
  obtain⟨E',e1,e2⟩:=ih λd hd=>h d (Wu _ hd)
  obtain⟨e,he,q⟩:=h d Wp
  exact⟨e :: E',by rw [W1,q,e1],λx hx=>(Wv.mp hx).elim (λz=>z ▸ he) (e2 x)⟩
theorem FH (E:List Ent):∃E':List Ent,E'.map key=ZT (E.map key)/\(∀e∈E',e∈E)/\E'.length=E.length:=by
 have hp:=Y1 (E.map key)
 obtain⟨E',e1,e2⟩:=Am (L:=ZT (E.map key)) (E:=E) λd hd=>by
  obtain⟨e,he,q⟩:=WB.mp (hp.mem_iff.mp hd)
  exact⟨e,he,q⟩
 refine⟨E',e1,e2,?_⟩
 have:=congrArg Va e1
 rw [W7,hp.length_eq,W7] at this;exact this
theorem D4 {S:Sto}{n:Nat}{E:List Ent}(h:S[n]? = some (.dct (E.map ent)))(hl:E.length<64):Lf (some (.ref n,S))=some (ZT (E.map key),S):=by
 refine F4 (ds:=E.map key) ?_ ?_
 ·dsimp only [FF]
  rw [h];dsimp only;rw [WY];rfl
 ·have:=Uo (E.map (·.1)) (by rw [W7];exact hl)
  rw [WY] at this;exact this
end K09
namespace K09
open PySem L2 DL
def hf (i:Int):List (Str×D):=[("own_number",.int i),("acts",.int 0),("files",.ref 1),("told",.ref 2)]
def hs (i:Int):Ob:=.ins "House" (hf i)
structure At (S:Sto) (E:List Ent):Prop where
 h0:∃i,S[0]? = some (hs i)
 h1:S[1]? = some (.dct (E.map ent))
 h4:S[4]? = some (.dct (E.map ent))
theorem up {S G:Sto}{n:Nat}{o:Ob}(h:S[n]? = some o):(S++G)[n]? = some o:=by rw [V3 (Wn.mp h).1];exact h
theorem At.up {S G:Sto}{E:List Ent}(h:At S E):At (S++G) E:=⟨by obtain⟨i,e⟩:=h.h0;exact⟨i,K09.up e⟩,K09.up h.h1,K09.up h.h4⟩
section
variable {S:Sto} {E E':List Ent} {en:En}
theorem Lx (h:At S E):∃i,U4 S 0 "House" = some (hf i):=by
 obtain⟨i,e⟩:=h.h0
 refine⟨i,?_⟩
 unfold U4;rw [e];exact if_pos rfl
theorem Qg (h:At S E):Z1b "House" "files" (some (.ref 0,S))=some (.ref 1,S):=by
 obtain⟨i,e⟩:=Lx h
 show (U4 S 0 "House").bind _=_
 rw [e];rfl
theorem AF (h:At S E):Z1b "House" "acts" (some (.ref 0,S))=some (.int 0,S):=by
 obtain⟨i,e⟩:=Lx h
 show (U4 S 0 "House").bind _=_
 rw [e];rfl
theorem Q5 {m:Str}{F:List D->Sto->Option (D×Sto)}{ma:M (List D)}(h:At S E)(hm:∀i:Int,((hf i).lookup m).isNone=true):OC "House" m F ma en (some (.ref 0,S))=OB F 0 (ma en S):=by
 obtain⟨i,e⟩:=Lx h
 show (U4 S 0 "House").bind _=_
 rw [e];show (if _ then _ else _)=_
 rw [if_pos (hm i)];rfl
theorem AS (h:At S E):YI [.ref 0] S=some (.int 0,S):=by
 unfold YI;simp only [EVS,W9,Wa,Wf,W2,Wg,Wh,Wb,Wc,W5,↓reduceIte,reduceCtorEq,W1,We,W3,Ng,AF h]
theorem AB (h:At S E)(nd:(E.map (·.1)).Nodup){e:Ent}(he:e∈E):Q4 [.ref 0,key e] S=some (fl e,S):=by
 obtain⟨_,i2,i3⟩:=IJ nd h.h1 he
 have i2':U6 (key e) (.ref 1) S=_:=i2
 have i3':gIx (.ref 1) (key e) S=_:=i3
 unfold Q4;simp only [EVS,W9,Wa,Wf,W2,Wg,Wh,Wb,Wc,W5,↓reduceIte,reduceCtorEq,W1,We,W3,Ng,Qg h,i2',i3']
structure Srt (E E':List Ent):Prop where
 s:E'.map key=ZT (E.map key)
 m:∀e∈E',e∈E
 l:E'.length<=6
 l2:E.length<=6
theorem Iz (h:At S E)(nd:(E.map (·.1)).Nodup)(q:Srt E E'):Zl [.ref 0] S=some (.ref (S++[Ob.lst (E'.map key)]).length,S++[Ob.lst (E'.map key)]++[.lst (E'.map fl)]):=by
 have hz:100<=Wk:=by decide
 have h2:At (S++[.lst (E'.map key)]) E:=h.up
 have hat:(S++[Ob.lst (E'.map key)])[S.length]? = some (.lst (E'.map key)):=Wz ..
 have l:=q.l
 have c1:ZK (E'.map key) (.lst S.length) [none,some (.ref 0)] (gN 0) Qf Yp (E'.map key) [] (S++[.lst (E'.map key)])=some (E'.map fl,S++[.lst (E'.map key)]):=
  YT E' key fl (show Gf (.lst S.length) _ _ from hat) (by omega) λe he=>⟨_,rfl,by
   have i3:gIx (.ref 1) (key e) (S++[.lst (E'.map key)])=_:=(IJ nd h2.h1 (q.m e he)).2.2
   simp only [Yp,EVS,W9,Wa,Wf,W2,Wg,Wh,Wb,Wc,W5,↓reduceIte,reduceCtorEq,W1,We,W3,Ng,Qg h2,i3]⟩
 have s1:=D4 h.h1 (by have:=q.l2;omega)
 rw [<-q.s] at s1;unfold Zl;simp only [EVS,W9,Wa,Wf,W2,Wg,Wh,Wb,Wc,W5,↓reduceIte,reduceCtorEq,W1,We,W3,Ng,Qg h,s1,N9 hat,c1]
 rw [Te (by simp)]
theorem LC (e:Ent):Qk [fl e] S=some (.bl (e.2.2.ts.isEmpty),S):=by
 have i4:gIx (fl e) (.int 4) S=some (.tup (e.2.2.ts.map Zr),S):=rfl
 unfold Qk;simp only [EVS,W9,Wa,Wf,W2,Wg,Wh,Wb,Wc,W5,↓reduceIte,reduceCtorEq,W1,We,W3,i4,W7]
 cases e.2.2.ts<;>rfl
theorem OS (h:At S E)(nd:(E.map (·.1)).Nodup)(q:Srt E E'):Qm [.ref 0] S=some (.tup ((E'.filter λe=>!e.2.2.ts.isEmpty).map key),S):=by
 have hz:100<=Wk:=by decide
 have l:=q.l
 generalize hT:S++[Ob.lst (E'.map key)]++[.lst (E'.map fl)]=T
 have hat:T[(S++[Ob.lst (E'.map key)]).length]? = some (.lst (E'.map fl)):=by rw [<-hT];exact Wz ..
 have a1:=Iz h nd q
 rw [hT] at a1;have c1:ZK (E'.map fl) (.lst (S++[Ob.lst (E'.map key)]).length) [none] (gN 0) Y5 Y4 (E'.map fl) [] T=some ((E'.filter λe=>!e.2.2.ts.isEmpty).map fl,T):=
  YS E' fl (λe=>!e.2.2.ts.isEmpty) fl (show Gf (.lst _) _ _ from hat) (by omega) λe he=>⟨_,rfl,by
   have:=LC (S:=T) e
   simp only [Y5,EVS,W9,Wa,Wf,W2,Wg,Wh,Wb,Wc,W5,↓reduceIte,reduceCtorEq,W1,We,W3,this],λ_=>by simp only [Y4,EVS,W9,Wa,Wf,W2,Wg,Wh,Wb,Wc,W5,↓reduceIte,reduceCtorEq,W1,We,W3]⟩
 have f1:ZB [.ref 0] S=some (.ref T.length,T++[.lst ((E'.filter λe=>!e.2.2.ts.isEmpty).map fl)]):=by
  unfold ZB;simp only [EVS,W9,Wa,Wf,W2,Wg,Wh,Wb,Wc,W5,↓reduceIte,reduceCtorEq,W1,We,W3,Uc,Q5 (m:="all_files") h (λ_=>rfl),U2,a1,N9 hat,c1]
  rw [Te (by rw [<-hT];simp)]
 have hat2:(T++[Ob.lst ((E'.filter λe=>!e.2.2.ts.isEmpty).map fl)])[T.length]? = some (.lst ((E'.filter λe=>!e.2.2.ts.isEmpty).map fl)):=Wz ..
 have hlf:(E'.filter λe=>!e.2.2.ts.isEmpty).length<=E'.length:=V9 _ _
 have c2:ZK ((E'.filter λe=>!e.2.2.ts.isEmpty).map fl) (.lst T.length) [none] (gN 0) Qf QX ((E'.filter λe=>!e.2.2.ts.isEmpty).map fl) [] (T++[Ob.lst ((E'.filter λe=>!e.2.2.ts.isEmpty).map fl)])=some ((E'.filter λe=>!e.2.2.ts.isEmpty).map key,T++[Ob.lst ((E'.filter λe=>!e.2.2.ts.isEmpty).map fl)]):=
  YT _ fl key (show Gf (.lst _) _ _ from hat2) (by omega) λe he=>⟨_,rfl,by
   have i0:gIx (fl e) (.int 0) (T++[Ob.lst ((E'.filter λe=>!e.2.2.ts.isEmpty).map fl)])=some (key e,_):=rfl
   simp only [QX,EVS,W9,Wa,Wf,W2,Wg,Wh,Wb,Wc,W5,↓reduceIte,reduceCtorEq,W1,We,W3,i0]⟩
 unfold Qm;simp only [EVS,W9,Wa,Wf,W2,Wg,Wh,Wb,Wc,W5,↓reduceIte,reduceCtorEq,W1,We,W3,Uc,Q5 (m:="files_on_shelf") h (λ_=>rfl),U2,f1,N9 hat2,c2]
 rw [<-hT,WN,WN,Yl];have:=JO S.length ((E'.filter λe=>!e.2.2.ts.isEmpty).map (·.1))
 rw [WY] at this;exact this
theorem AC (h:At S E)(nd:(E.map (·.1)).Nodup)(q:Srt E E'):Q3 [.ref 0] S=some (.tup ((E'.filter λe=>e.2.2.ts.isEmpty).map key),S):=by
 have hz:100<=Wk:=by decide
 have l:=q.l
 generalize hT:S++[Ob.lst (E'.map key)]++[.lst (E'.map fl)]=T
 have hat:T[(S++[Ob.lst (E'.map key)]).length]? = some (.lst (E'.map fl)):=by rw [<-hT];exact Wz ..
 have a1:=Iz h nd q
 rw [hT] at a1;have c1:ZK (E'.map fl) (.lst (S++[Ob.lst (E'.map key)]).length) [none] (gN 0) QI QF (E'.map fl) [] T=some ((E'.filter λe=>e.2.2.ts.isEmpty).map key,T):=
  YS E' fl (λe=>e.2.2.ts.isEmpty) key (show Gf (.lst _) _ _ from hat) (by omega) λe he=>⟨_,rfl,by
   have:=LC (S:=T) e
   simp only [QI,EVS,W9,Wa,Wf,W2,Wg,Wh,Wb,Wc,W5,↓reduceIte,reduceCtorEq,W1,We,W3,this],λ_=>by
   have i0:gIx (fl e) (.int 0) T=some (key e,_):=rfl
   simp only [QF,EVS,W9,Wa,Wf,W2,Wg,Wh,Wb,Wc,W5,↓reduceIte,reduceCtorEq,W1,We,W3,i0]⟩
 unfold Q3;simp only [EVS,W9,Wa,Wf,W2,Wg,Wh,Wb,Wc,W5,↓reduceIte,reduceCtorEq,W1,We,W3,Uc,Q5 (m:="all_files") h (λ_=>rfl),U2,a1,N9 hat,c1]
 rw [<-hT,WN,Yl];have:=JO S.length ((E'.filter λe=>e.2.2.ts.isEmpty).map (·.1))
 rw [WY] at this;exact this
def hrd (e:Ent):D:=.tup [key e,.tup ((kn e.2.2.f (W6 6)).map enc)]
theorem Su (n:Nat)(l:List Ent):J6 n (.tup (l.map hrd))=true:=by
 unfold J6
 induction l with
 |nil=>unfold lowDs;rfl
 |cons e l ih=>
  rw [W1];unfold lowDs;rw [ih,W0o];unfold hrd J6 lowDs lowDs lowDs;have h1:=JO n [e.1]
  have h2:=JO n (kn e.2.2.f (W6 6))
  rw [h2];unfold key enc J6 lowDs J6 lowDs J6 lowDs;rfl
theorem Lz (h:At S E)(nd:(E.map (·.1)).Nodup)(q:Srt E E'):YH [.ref 0] S=some (.tup (E'.map hrd),S):=by
 have hz:100<=Wk:=by decide
 have z2:2<=Wk:=by decide
 have l:=q.l
 generalize hT:S++[Ob.lst (E'.map key)]++[.lst (E'.map fl)]=T
 have hat:T[(S++[Ob.lst (E'.map key)]).length]? = some (.lst (E'.map fl)):=by rw [<-hT];exact Wz ..
 have a1:=Iz h nd q
 rw [hT] at a1;have c1:ZK (E'.map fl) (.lst (S++[Ob.lst (E'.map key)]).length) [none] (gN 0) Qf Qh (E'.map fl) [] T=some (E'.map hrd,T):=
  YT E' fl hrd (show Gf (.lst _) _ _ from hat) (by omega) λe he=>⟨_,rfl,by
   have i0:gIx (fl e) (.int 0) T=some (key e,T):=rfl
   have i2:gIx (fl e) (.int 2) T=some (.tup ((kn e.2.2.f (W6 6)).map enc),T):=rfl
   simp only [Qh,EVS,W9,Wa,Wf,W2,Wg,Wh,Wb,Wc,W5,↓reduceIte,reduceCtorEq,W1,We,W3,i0,i2,z2]
   rfl⟩
 unfold YH;simp only [EVS,W9,Wa,Wf,W2,Wg,Wh,Wb,Wc,W5,↓reduceIte,reduceCtorEq,W1,We,W3,Uc,Q5 (m:="all_files") h (λ_=>rfl),U2,a1,N9 hat,c1]
 rw [<-hT,WN,Yl _ _ _ (Su _ _)]
end
end K09
namespace K09
open PySem L2 DL
section
variable {S:Sto} {E E':List Ent} {en:En}
theorem By {l:List Ent}(hl:l.length<=6):ZO 12 [.tup (l.map key),.tup (l.map key)] S=some (.bl true,S):=MF 5 _ 6 S ⟨by rw [W7];omega,λd hd=>by
 obtain⟨e,_,rfl⟩:=WB.mp hd
 exact GH 3 e.1⟩
theorem FT {l:List Ent}(hl:l.length<=6):ZO 12 [.tup (l.map hrd),.tup (l.map hrd)] S=some (.bl true,S):=MF 5 _ 6 S ⟨by rw [W7];omega,λd hd=>by
 obtain⟨e,_,rfl⟩:=WB.mp hd
 refine⟨(show 2<=100 by decide),λx hx=>?_⟩
 have h6:=JJ e.2.2.f (W6 6)
 rw [V5] at h6;simp only [Wv,WX,or_false] at hx
 rcases hx with z|z<;>rw [z]
 ·exact GH 2 e.1
 ·refine⟨by rw [W7];omega,λy hy=>?_⟩
  obtain⟨p,_,rfl⟩:=WB.mp hy
  exact GH 1 p⟩
theorem HN {e:Ent}(o:Ok e.1 e.2.1 e.2.2)(S:Sto):ZO 12 [fl e,fl e] S=some (.bl true,S):=MF 5 _ 6 S (Z29 o.gf.hk6 o.gf.hn.1 o.gf.ht.1)
theorem RV (b:Bool)(S:Sto):ZO 12 [.bl b,.bl b] S=some (.bl true,S):=by
 show J4 2 2 (Q9 (ZO 11)) _ S=_
 have h1:∀S,Ar "tuple" (some (.bl b,S))=some (.bl false,S):=λ_=>rfl
 have h2:∀S,Ar "bool" (some (.bl b,S))=some (.bl true,S):=λ_=>rfl
 have h3:∀S,gIs (.bl b) .non S=some (.bl false,S):=λ_=>rfl
 have h4:∀S,gEq (.bl b) (.bl b) S=some (.bl true,S):=λS=>by
  show some (D.bl (decide (b=b)),S)=_
  rw [decide_eq_true rfl]
 simp only [Q9,EVS,W9,Wa,Wf,W2,Wg,Wh,Wb,Wc,W5,↓reduceIte,reduceCtorEq,W1,We,W3,h1,h2,h3,h4]
theorem GM (h:At S E)(nd:(E.map (·.1)).Nodup)(hl:E.length<=6)(ok:∀e∈E,Ok e.1 e.2.1 e.2.2):Yh [.ref 0,.ref 4] S=some (.bl true,S):=by
 have hz:100<=Wk:=by decide
 have z2:2<=Wk:=by decide
 obtain⟨E',e1,e2,e3⟩:=FH E
 have q:Srt E E':=⟨e1,e2,by omega,hl⟩
 have l:=q.l
 generalize hT:S++[Ob.lst (E'.map key)]=T
 have hat:T[S.length]? = some (.lst (E'.map key)):=by rw [<-hT];exact Wz ..
 have h2:At T E:=by rw [<-hT];exact h.up
 have s1:=D4 h.h4 (show E.length<64 by omega)
 rw [<-q.s] at s1
 let P:List Ent->En->Sto->Prop:=λpre en S'=>∃x3,en=[some (.ref 0),some (.ref 4),some (.ref S.length),x3,none]/\S'=T
 have step:∀(pre:List Ent) (e:Ent) (post:List Ent) (en:En) (S1:Sto),E'=pre++e :: post->P pre en S1->∃en1,gN 3 (key e) en=some en1/\∃en2 S2,YU en1 S1=some (.nx,en2,S2)/\P (pre++[e]) en2 S2:=by
  intro pre e post en S1 hpre hP;obtain⟨x3,rfl,rfl⟩:=hP
  have he:e∈E:=q.m e (by rw [hpre];simp)
  have f1:=AB h2 nd he
  have f2:gIx (.ref 4) (key e) S1=_:=(IJ nd h2.h4 he).2.2
  have f3:=HN (ok e he) S1
  refine⟨_,rfl,[some (.ref 0),some (.ref 4),some (.ref S.length),some (key e),none],S1,?_,_,rfl,rfl⟩
  simp only [YU,EVS,W9,Wa,Wf,W2,Wg,Wh,Wb,Wc,W5,↓reduceIte,reduceCtorEq,W1,We,W3,Uc,Q5 (m:="file") h2 (λ_=>rfl),U2,f1,f2,f3]
 obtain⟨en',S',e,x3,e4,e5⟩:=QO (g:=gN 3) (ds0:=E'.map key) (gd:=.lst S.length) (body:=YU) E' key P step (λpre en S' hP=>by
  obtain⟨_,_,rfl⟩:=hP
  exact hat) (en:=[some (.ref 0),some (.ref 4),some (.ref S.length),none,none]) (S:=T) ⟨_,rfl,rfl⟩
 rw [e4,e5] at e;have ix:∀e∈E',gIx (.ref 4) (key e) T=some (fl e,T):=λe he=>(IJ nd h2.h4 (q.m e he)).2.2
 have i4:∀e:Ent,gIx (fl e) (.int 4) T=some (.tup (e.2.2.ts.map Zr),T):=λ_=>rfl
 have i2:∀e:Ent,gIx (fl e) (.int 2) T=some (.tup ((kn e.2.2.f (W6 6)).map enc),T):=λ_=>rfl
 have c0:ZK (E'.map key) (.lst S.length) [none,some (.ref 4)] (gN 0) QH QE (E'.map key) [] T=some ((E'.filter λe=>!e.2.2.ts.isEmpty).map key,T):=
  YS E' key (λe=>!e.2.2.ts.isEmpty) key (show Gf (.lst _) _ _ from hat) (by omega) λe he=>⟨_,rfl,by
   simp only [QH,EVS,W9,Wa,Wf,W2,Wg,Wh,Wb,Wc,W5,↓reduceIte,reduceCtorEq,W1,We,W3,ix e he,i4]
   cases e.2.2.ts<;>rfl,λ_=>by simp only [QE,EVS,W9,Wa,Wf,W2,Wg,Wh,Wb,Wc,W5,↓reduceIte,reduceCtorEq,W1,We,W3]⟩
 have c1:ZK (E'.map key) (.lst S.length) [none,some (.ref 4)] (gN 0) QG QD (E'.map key) [] T=some ((E'.filter λe=>e.2.2.ts.isEmpty).map key,T):=
  YS E' key (λe=>e.2.2.ts.isEmpty) key (show Gf (.lst _) _ _ from hat) (by omega) λe he=>⟨_,rfl,by
   simp only [QG,EVS,W9,Wa,Wf,W2,Wg,Wh,Wb,Wc,W5,↓reduceIte,reduceCtorEq,W1,We,W3,ix e he,i4]
   cases e.2.2.ts<;>rfl,λ_=>by simp only [QD,EVS,W9,Wa,Wf,W2,Wg,Wh,Wb,Wc,W5,↓reduceIte,reduceCtorEq,W1,We,W3]⟩
 have c2:ZK (E'.map key) (.lst S.length) [none,some (.ref 4)] (gN 0) Qf QC (E'.map key) [] T=some (E'.map hrd,T):=
  YT E' key hrd (show Gf (.lst _) _ _ from hat) (by omega) λe he=>⟨_,rfl,by
   simp only [QC,EVS,W9,Wa,Wf,W2,Wg,Wh,Wb,Wc,W5,↓reduceIte,reduceCtorEq,W1,We,W3,ix e he,i2,z2]
   rfl⟩
 have l1:(E'.filter λe=>!e.2.2.ts.isEmpty).length<=E'.length:=V9 _ _
 have l2:(E'.filter λe=>e.2.2.ts.isEmpty).length<=E'.length:=V9 _ _
 have q1:=By (S:=T) (l:=E'.filter λe=>!e.2.2.ts.isEmpty) (by omega)
 have q2:=By (S:=T) (l:=E'.filter λe=>e.2.2.ts.isEmpty) (by omega)
 have q3:=FT (S:=T) (l:=E') (by omega)
 unfold Yh;simp only [EVS,W9,Wa,Wf,W2,Wg,Wh,Wb,Wc,W5,↓reduceIte,reduceCtorEq,W1,We,W3,s1,hT,N9 hat,e,Uc,Q5 (m:="ids") h2 (λ_=>rfl),Q5 (m:="gone") h2 (λ_=>rfl),Q5 (m:="heard") h2 (λ_=>rfl),Q5 (m:="count") h2 (λ_=>rfl),U2,OS h2 nd q,AC h2 nd q,Lz h2 nd q,AS h2,c0,c1,c2,q1,q2,q3]
 rw [<-hT,Yl _ _ _ rfl]
end
end K09
namespace K09
open PySem L2 DL
section
variable {S:Sto} {E T:List Ent} {en:En}
theorem MK {e:Ent}(o:Ok e.1 e.2.1 e.2.2):pln 30 (fl e)=true:=Hl 5 30 _ (by omega) (Z29 o.gf.hk6 o.gf.hn.1 o.gf.ht.1)
theorem DV {e:Ent}(o:Ok e.1 e.2.1 e.2.2):gNe (fl e) .non S=some (.bl true,S):=by
 show (if CH (fl e) .non=true then some (D.bl (!eqD (fl e) .non),S) else none)=_
 rw [if_pos (by unfold CH;rw [MK o];rfl)]
 have:eqD (fl e) .non=false:=by unfold fl mk mkF eqD;rfl
 rw [this];rfl
theorem DW {e t:Ent}(o:Ok e.1 e.2.1 e.2.2)(o2:Ok t.1 t.2.1 t.2.2):gNe (fl e) (fl t) S=some (.bl (!eqD (fl e) (fl t)),S):=by
 show (if CH (fl e) (fl t)=true then some (D.bl (!eqD (fl e) (fl t)),S) else none)=_
 rw [if_pos (by unfold CH;rw [MK o,MK o2];rfl)]
theorem ix0 (e:Ent)(S:Sto):gIx (fl e) (.int 0) S=some (enc e.1,S):=rfl
theorem RN {S:Sto}{n:Nat}{o:Ob}:(S.set n o).length=S.length:=List.length_set
theorem FC (h:At S E)(t:Ent)(hn:∀e∈E,e.1≠t.1)(hl:E.length<=6)(o:Ok t.1 t.2.1 t.2.2):ZQ [.ref 0,fl t] S=some (.bl true,S.set 1 (.dct ((E++[t]).map ent))):=by
 have g1:=LD (ma:=MX "House" "files" (Z5 0)) (mb:=mOp gIx (Z5 1) (Zd (D.int (0)))) (en:=[some (.ref 0),some (fl t),none,none]) (S:=S) (n:=1) (k:=enc t.1) (by simp only [EVS,W9,Wa,Wf,W2,Wg,Wh,Wb,Wc,W5,↓reduceIte,reduceCtorEq,W1,We,W3,Ng,Qg h]) (by simp only [EVS,W9,Wa,Wf,W2,Wg,Wh,Wb,Wc,W5,↓reduceIte,reduceCtorEq,W1,We,W3,ix0]) h.h1 (Bz _ _)
 rw [LR hn] at g1;have g2:=YK (mv:=Z5 3) (ma:=MX "House" "files" (Z5 0)) (mb:=mOp gIx (Z5 1) (Zd (D.int (0)))) (en:=[some (.ref 0),some (fl t),some .non,some (fl t)]) (S:=S) (n:=1) (k:=enc t.1) (v:=fl t) (by simp only [EVS,W9,Wa,Wf,W2,Wg,Wh,Wb,Wc,W5,↓reduceIte,reduceCtorEq,W1,We,W3]) (by simp only [EVS,W9,Wa,Wf,W2,Wg,Wh,Wb,Wc,W5,↓reduceIte,reduceCtorEq,W1,We,W3,Ng,Qg h]) (by simp only [EVS,W9,Wa,Wf,W2,Wg,Wh,Wb,Wc,W5,↓reduceIte,reduceCtorEq,W1,We,W3,ix0]) (FP t h.h1 (by omega))
 rw [MI hn] at g2;have i1:∀S,gIs .non .non S=some (.bl true,S):=λ_=>rfl
 have hgd:(Option.getD none D.non:D) = .non:=rfl
 have n1:=DV (S:=S.set 1 (.dct ((E++[t]).map ent))) o
 unfold ZQ;simp only [EVS,W9,Wa,Wf,W2,Wg,Wh,Wb,Wc,W5,↓reduceIte,reduceCtorEq,W1,We,W3,g1,hgd,i1,g2,n1]
 rw [Mr RN]
theorem Ms (h:At S E)(nd:(E.map (·.1)).Nodup){e t j:Ent}(he:e∈E)(hk:e.1=t.1)(hj:j.1=t.1)(hl:E.length<=6)(o:Ok e.1 e.2.1 e.2.2)(oj:Ok j.1 j.2.1 j.2.2)(hp:∀S,ZE [fl e,fl t] S=some (fl j,S)):ZQ [.ref 0,fl t] S=some (.bl (!eqD (fl j) (fl e)),S.set 1 (.dct ((UV E j).map ent))):=by
 have g1:=LD (ma:=MX "House" "files" (Z5 0)) (mb:=mOp gIx (Z5 1) (Zd (D.int (0)))) (en:=[some (.ref 0),some (fl t),none,none]) (S:=S) (n:=1) (k:=enc t.1) (by simp only [EVS,W9,Wa,Wf,W2,Wg,Wh,Wb,Wc,W5,↓reduceIte,reduceCtorEq,W1,We,W3,Ng,Qg h]) (by simp only [EVS,W9,Wa,Wf,W2,Wg,Wh,Wb,Wc,W5,↓reduceIte,reduceCtorEq,W1,We,W3,ix0]) h.h1 (Bz _ _)
 have hd:=GA nd he
 rw [hk] at hd;rw [hd] at g1;have hset:=FP j h.h1 (by omega)
 rw [hj] at hset;have g2:=YK (mv:=Z5 3) (ma:=MX "House" "files" (Z5 0)) (mb:=mOp gIx (Z5 1) (Zd (D.int (0)))) (en:=[some (.ref 0),some (fl t),some (fl e),some (fl j)]) (S:=S) (n:=1) (k:=enc t.1) (v:=fl j) (by simp only [EVS,W9,Wa,Wf,W2,Wg,Wh,Wb,Wc,W5,↓reduceIte,reduceCtorEq,W1,We,W3]) (by simp only [EVS,W9,Wa,Wf,W2,Wg,Wh,Wb,Wc,W5,↓reduceIte,reduceCtorEq,W1,We,W3,Ng,Qg h]) (by simp only [EVS,W9,Wa,Wf,W2,Wg,Wh,Wb,Wc,W5,↓reduceIte,reduceCtorEq,W1,We,W3,ix0]) hset
 have i1:∀S,gIs (fl e) .non S=some (.bl false,S):=λ_=>rfl
 have hgd:(Option.getD (some (fl e)) D.non:D)=fl e:=rfl
 have n1:=DW (S:=S.set 1 (.dct ((UV E j).map ent))) oj o
 unfold ZQ;simp only [EVS,W9,Wa,Wf,W2,Wg,Wh,Wb,Wc,W5,↓reduceIte,reduceCtorEq,W1,We,W3,g1,hgd,i1,hp,g2,n1]
 rw [Mr RN]
def LL (T:List Ent)(a:Mk):List Fl:=(T.filter λt=>decide (t.1=a)).map (·.2.2)
theorem MW {a:Mk}{c:Fl}:c∈LL T a↔∃t∈T,t.1=a/\t.2.2=c:=by
 unfold LL;rw [WB]
 constructor
 ·rintro⟨t,h,rfl⟩
  rw [Vw,decide_eq_true_eq] at h;exact⟨t,h.1,h.2,rfl⟩
 ·rintro⟨t,h1,h2,rfl⟩
  exact⟨t,Vw.mpr ⟨h1,decide_eq_true h2⟩,rfl⟩
theorem Ho (a:Mk):(LL T a).length<=T.length:=by unfold LL;rw [W7];exact V9 _ _
theorem Hn (t:Ent):LL (T++[t]) t.1=LL T t.1++[t.2.2]:=by
 unfold LL;rw [W1E,WP,W1C (by simp)]
 rfl
theorem XY {a:Mk}{t:Ent}(h:t.1≠a):LL (T++[t]) a=LL T a:=by
 unfold LL;rw [W1E,WP,W1D (by rw [decide_eq_true_eq];exact h)]
 simp
structure Nice (t:Ent):Prop where
 ok:Ok t.1 t.2.1 t.2.2
 n:t.2.2.ns.length<=3
 t:t.2.2.ts.length<=3
structure Inv (E T:List Ent):Prop where
 nd:(E.map (·.1)).Nodup
 le:E.length<=T.length
 t:∀t∈T,(∃e∈E,e.1=t.1)/\Nice t
 e:∀e∈E,Ok e.1 e.2.1 e.2.2/\Is (LL T e.1) e.2.2/\∀t∈T,t.1=e.1->t.2.1=e.2.1
theorem U9 {sel:Fl->List (Mk×Str)}:∀{B:List Fl},(∀c∈B,(sel c).length<=3)->(B.flatMap sel).length<=3*B.length
 |[],_=>by simp
 |c :: B,h=>by
  have h1:=U9 (B:=B) λd hd=>h d (Wu _ hd)
  have h2:=h c Wp
  rw [List.flatMap_cons,WC,WS];omega
theorem Nice.one {t:Ent}(h:Nice t):Is [t.2.2] t.2.2:=Is.one _ (λe he=>h.ok.gf.hn.wi e he) λe he=>h.ok.gf.ht.wi e he
theorem Inv.few (I:Inv E T)(hT:T.length<=5){e t:Ent}(he:e∈E)(ht:Nice t)(hk:t.1=e.1)(hx:t.2.1=e.2.1):Few e.1 e.2.1 (LL T e.1++[t.2.2]):=by
 have all:∀c∈LL T e.1++[t.2.2],Ok e.1 e.2.1 c/\c.ns.length<=3/\c.ts.length<=3:=by
  intro c hc;rcases WH.mp hc with z|z
  ·obtain⟨u,u1,u2,rfl⟩:=MW.mp z
   have q:=(I.t u u1).2
   have q2:=(I.e e he).2.2 u u1 u2
   have:=q.ok
   rw [u2,q2] at this;exact⟨this,q.n,q.t⟩
  ·rw [WA.mp z]
   have:=ht.ok
   rw [hk,hx] at this;exact⟨this,ht.n,ht.t⟩
 have hl:(LL T e.1++[t.2.2]).length<=6:=by
  have:=Ho (T:=T) e.1
  rw [WC,W0g];omega
 exact⟨λc hc=>(all c hc).1,V7 (U9 λc hc=>(all c hc).2.1) (by omega),V7 (U9 λc hc=>(all c hc).2.2) (by omega)⟩
def jn (e t:Ent):Ent:=(t.1,t.2.1,join e.2.2 t.2.2)
theorem Inv.put (I:Inv E T)(hT:T.length<=5){e t:Ent}(he:e∈E)(ht:Nice t)(hk:t.1=e.1)(hx:t.2.1=e.2.1) :
  (∀S,ZE [fl e,fl t] S=some (fl (jn e t),S))/\(∀S,Ql [fl e,fl t] S=some (fl (jn e t),S))/\Is (LL T e.1++[t.2.2]) (jn e t).2.2/\Ok (jn e t).1 (jn e t).2.1 (jn e t).2.2:=by
 have hB:=I.few hT he ht hk hx
 obtain⟨o1,i1,_⟩:=I.e e he
 have i2:=ht.one
 have o2:=ht.ok
 obtain⟨a,x,F⟩:=e
 obtain⟨b,y,c⟩:=t
 dsimp only at *
 subst hk hx;obtain⟨s1,s2,s3⟩:=RJ hB i1 i2 o1 o2 λc hc=>hc
 exact⟨s1,λS=>As o1.pos o2.pos o1.gf.hn.1 o1.gf.ht.1 o2.gf.hn.1 o2.gf.ht.1,s2,s3⟩
theorem Inv.new (I:Inv E T){t:Ent}(ht:Nice t)(hn:∀e∈E,e.1≠t.1):Inv (E++[t]) (T++[t]):=by
 have no:∀u∈T,u.1≠t.1:=λu hu z=>by
  obtain⟨⟨e,e1,e2⟩,_⟩:=I.t u hu
  exact hn e e1 (e2.trans z)
 refine⟨?_,by rw [WC,WC];have:=I.le;simp;omega,λu hu=>?_,λe he=>?_⟩
 ·rw [WP,W0q]
  refine⟨I.nd,by simp,λa ha b hb=>?_⟩
  obtain⟨e,e1,rfl⟩:=WB.mp ha
  rw [List.map_singleton,WA] at hb;rw [hb];exact hn e e1
 ·rcases WH.mp hu with z|z
  ·obtain⟨⟨e,e1,e2⟩,q⟩:=I.t u z
   exact⟨⟨e,Vk _ e1,e2⟩,q⟩
  ·rw [WA.mp z]
   exact⟨⟨t,by simp,rfl⟩,ht⟩
 ·rcases WH.mp he with z|z
  ·obtain⟨q1,q2,q3⟩:=I.e e z
   refine⟨q1,by rw [XY λw=>hn e z w.symm];exact q2,λu hu w=>?_⟩
   rcases WH.mp hu with y|y
   ·exact q3 u y w
   ·rw [WA.mp y] at w
    exact absurd w.symm (hn e z)
  ·have z':=WA.mp z
   subst z'
   have e0:LL T e.1=[]:=by
    rw [List.eq_nil_iff_forall_not_mem];intro c hc;obtain⟨u,u1,u2,_⟩:=MW.mp hc
    exact no u u1 u2
   refine⟨ht.ok,by rw [Hn,e0];exact ht.one,λu hu w=>?_⟩
   rcases WH.mp hu with y|y
   ·exact absurd w (no u y)
   ·rw [WA.mp y]
theorem Inv.old (I:Inv E T)(hT:T.length<=5){e t:Ent}(he:e∈E)(ht:Nice t)(hk:t.1=e.1)(hx:t.2.1=e.2.1):Inv (UV E (jn e t)) (T++[t]):=by
 obtain⟨_,_,p3,p4⟩:=I.put hT he ht hk hx
 have hj:e.1=(jn e t).1:=hk.symm
 have kk:=P7 he hj
 have mm:∀x∈UV E (jn e t),x=jn e t\/(x∈E/\x.1≠t.1):=λx hx=>by
  rw [GS he hj] at hx;obtain⟨y,y1,rfl⟩:=WB.mp hx
  by_cases q:y.1=(jn e t).1
  ·rw [if_pos q];exact .inl rfl
  ·rw [if_neg q];exact .inr ⟨y1,q⟩
 have ex:∀y∈E,∃x∈UV E (jn e t),x.1=y.1:=λy hy=>by
  have:y.1∈(UV E (jn e t)).map (·.1):=by rw [kk];exact W1k hy
  obtain⟨x,x1,x2⟩:=WB.mp this
  exact⟨x,x1,x2⟩
 have ll:(UV E (jn e t)).length=E.length:=by
  have:=congrArg Va kk
  rwa [W7,W7] at this
 refine⟨by rw [kk];exact I.nd,by rw [ll,WC];have:=I.le;simp;omega,λu hu=>?_,λx hx'=>?_⟩
 ·rcases WH.mp hu with z|z
  ·obtain⟨⟨y,y1,y2⟩,q⟩:=I.t u z
   obtain⟨x,x1,x2⟩:=ex y y1
   exact⟨⟨x,x1,x2.trans y2⟩,q⟩
  ·rw [WA.mp z]
   obtain⟨x,x1,x2⟩:=ex e he
   exact⟨⟨x,x1,x2.trans hk.symm⟩,ht⟩
 ·rcases mm x hx' with z|⟨z1,z2⟩
  ·subst z
   refine⟨p4,?_,λu hu w=>?_⟩
   ·show Is (LL (T++[t]) t.1) _
    rw [Hn,hk];exact p3
   ·show u.2.1=t.2.1
    have w':u.1=t.1:=w
    rcases WH.mp hu with y|y
    ·rw [hx];exact (I.e e he).2.2 u y (w'.trans hk)
    ·rw [WA.mp y]
  ·obtain⟨q1,q2,q3⟩:=I.e x z1
   refine⟨q1,by rw [XY λw=>z2 w.symm];exact q2,λu hu w=>?_⟩
   rcases WH.mp hu with y|y
   ·exact q3 u y w
   ·rw [WA.mp y] at w
    exact absurd w.symm z2
theorem Inv.again (I:Inv E T)(hT:T.length<=6){t:Ent}(ht:t∈T):∃e∈E,e.1=t.1/\Ok e.1 e.2.1 e.2.2/\∀S,ZE [fl e,fl t] S=some (fl e,S):=by
 obtain⟨⟨e,e1,e2⟩,q⟩:=I.t t ht
 obtain⟨o1,i1,x1⟩:=I.e e e1
 refine⟨e,e1,e2,o1,?_⟩
 have hx:=x1 t ht e2.symm
 have hc:t.2.2∈LL T e.1:=MW.mpr ⟨t,ht,e2.symm,rfl⟩
 have hB:Few e.1 e.2.1 (LL T e.1):=by
  have all:∀c∈LL T e.1,Ok e.1 e.2.1 c/\c.ns.length<=3/\c.ts.length<=3:=by
   intro c hc;obtain⟨u,u1,u2,rfl⟩:=MW.mp hc
   have q:=(I.t u u1).2
   have q2:=x1 u u1 u2
   have:=q.ok
   rw [u2,q2] at this;exact⟨this,q.n,q.t⟩
  have hl:=Ho (T:=T) e.1
  exact⟨λc hc=>(all c hc).1,V7 (U9 λc hc=>(all c hc).2.1) (by omega),V7 (U9 λc hc=>(all c hc).2.2) (by omega)⟩
 have i2:=q.one
 have o2:=q.ok
 obtain⟨a,x,F⟩:=e
 obtain⟨b,y,c⟩:=t
 dsimp only at *
 subst e2 hx;have hL:∀d∈LL T a++[c],d∈LL T a:=λd hd=>(WH.mp hd).elim id λz=>by rw [WA.mp z];exact hc
 obtain⟨s1,s2,s3⟩:=RJ hB i1 i2 o1 o2 hL
 have:=s2.uniq i1 s3 o1 λd=>⟨hL d,λz=>Vk _ z⟩
 rw [this] at s1;exact s1
end
end K09
namespace K09
open PySem L2 DL
theorem JI {a b:MS}{en en1:En}{S S1:Sto}{r:Option (DL.Fl×En×Sto)}(h1:a en S=some (.nx,en1,S1))(h2:b en1 S1=r):Ye a b en S=r:=by
 unfold Ye;rw [h1];exact h2
abbrev st (i:Int)(E:List Ent)(sd:List D)(T:List Ent):Sto:=[hs i,.dct (E.map ent),.dct [],.lst sd,.dct (E.map ent),.lst (T.map fl)]
theorem Rh (i:Int)(E:List Ent)(sd:List D)(T:List Ent):At (st i E sd T) E:=⟨⟨i,rfl⟩,rfl,rfl⟩
theorem ixL {S:Sto}{n k:Nat}{ds:List D}{d:D}(hS:S[n]? = some (.lst ds))(hd:ds[k]? = some d):gIx (.ref n) (.int (k:Int)) S=some (d,S):=by
 show (match S[n]? with|some (Ob.lst xs)=>_|_=>_)=_
 rw [hS];dsimp only;have ha:atI ds (k:Int)=some d:=Bn hd
 rw [ha];rfl
theorem Z26 {b:M D}{en:En}{i:Int}{E T:List Ent}{sd:List D}:Z04 b en (some (.ref 5,st i E sd T))=T1 5 (b en (st i E sd T)):=rfl
theorem XV {i:Int}{E T:List Ent}{sd:List D}{t:Ent}(h:T.length<100):T1 5 (some (fl t,st i E sd T))=some (.non,st i E sd (T++[t])):=by
 have hz:100<=Wk:=by decide
 show (if (T.map fl).length<Wk then some (D.non,(st i E sd T).set 5 (Ob.lst (T.map fl++[fl t]))) else none)=_
 rw [if_pos (by rw [W7];omega)]
 unfold st;rw [WP];rfl
def s4:MS:=(JN (mT (mOp gIn (Z5 8) (Z5 3))) (YB (Zm Qx (Z3 (Z5 6) (Z3 (Z5 8) (Z3 (mOp gIx (mOp gIx (Z5 3) (Z5 8)) (Zd (D.int (1)))) (Z3 (mOp gIx (Z5 2) (Z5 7)) ZR))))) (gN 9)) (YB (Zm Qx (Z3 (Z5 6) (Z3 (Z5 8) (Z3 (Zm YV (Z3 (mOp gIx (Z5 2) (Z5 7)) ZR)) (Z3 (mOp gIx (Z5 2) (Z5 7)) ZR))))) (gN 9)))
theorem Z0C (i:Int){E T:List Ent}(I:Inv E T)(sd:List D)(ns:List Int)(k:Int)(c seed:Int)(m w:Nat)(n:Int)(x9 x10 x11:Option D)(hw:w<6)(hn:1<=n)(hsd:sd[m]? = some (.int seed)) :
  ∃t:Ent,t.1=((w:Int),n)/\Nice t/\(∀e∈E,e.1=t.1->t.2.1=e.2.1)/\
   s4 [some (.scr ns),some (.ref 0),some (.ref 3),some (.ref 4),some (.ref 5),some (.int k),some (.int c),some (.int (m:Int)),some (.tup [.int (w:Int),.int n]),x9,x10,x11] (st i E sd T) =
    some (.nx,[some (.scr ns),some (.ref 0),some (.ref 3),some (.ref 4),some (.ref 5),some (.int k),some (.int c),some (.int (m:Int)),some (.tup [.int (w:Int),.int n]),some (fl t),x10,x11],st i E sd T):=by
 have h:=Rh i E sd T
 have hx3:gIx (.ref 3) (.int (m:Int)) (st i E sd T)=some (.int seed,st i E sd T):=ixL rfl hsd
 by_cases hin:∃e∈E,e.1=((w:Int),n)
 ·obtain⟨e,e1,e2⟩:=hin
  obtain⟨o1,_,_⟩:=I.e e e1
  obtain⟨f,n1,t1,hf,hfw,hG,l1,ef⟩:=LM c w n e.2.1 seed hw hn o1.gf.hx
  refine⟨(((w:Int),n),e.2.1,⟨f,n1,t1⟩),rfl,⟨⟨hf,hG⟩,l1.1,l1.2⟩,λe' h1 h2=>?_,?_⟩
  ·rw [MU I.nd h1 e1 (h2.trans e2.symm)]
  ·obtain⟨i1,_,i3⟩:=IJ I.nd h.h4 e1
   rw [e2] at i1 i3;have i1':gIn (.tup [.int (w:Int),.int n]) (.ref 4) (st i E sd T)=_:=i1
   have i3':gIx (.ref 4) (.tup [.int (w:Int),.int n]) (st i E sd T)=_:=i3
   have x1:gIx (fl e) (.int 1) (st i E sd T)=some (.str e.2.1,st i E sd T):=rfl
   simp only [s4,EVS,W9,Wa,Wf,W2,Wg,Wh,Wb,Wc,W5,↓reduceIte,reduceCtorEq,W1,We,W3,i1',i3',x1,hx3,ef]
   rfl
 ·have hno:∀e∈E,e.1≠((w:Int),n):=λe he z=>hin ⟨e,he,z⟩
  obtain⟨x,hx1,hx2,hx⟩:=Pw seed
  obtain⟨f,n1,t1,hf,hfw,hG,l1,ef⟩:=LM c w n x seed hw hn ⟨hx1,hx2⟩
  refine⟨(((w:Int),n),x,⟨f,n1,t1⟩),rfl,⟨⟨hf,hG⟩,l1.1,l1.2⟩,λe' h1 h2=>absurd h2 (hno e' h1),?_⟩
  obtain⟨i1,_⟩:=DH h.h4 hno
  have i1':gIn (.tup [.int (w:Int),.int n]) (.ref 4) (st i E sd T)=_:=i1
  simp only [s4,EVS,W9,Wa,Wf,W2,Wg,Wh,Wb,Wc,W5,↓reduceIte,reduceCtorEq,W1,We,W3,i1',hx3,hx,ef]
  rfl
end K09
namespace K09
open PySem L2 DL
def s5:MS:=(JN (mT (mOp gEq (Z5 5) (Zd (D.int (4))))) (YB (mOp gIx (Z5 4) (Zd (D.int (1)))) (gN 9)) mNx)
def r6:MS:=(Ye (BS (Es (Z5 4) (Z5 9))) (Ye (YB (Z5 9) (gN 10)) (Ye (JN (mT (mOp gIn (mOp gIx (Z5 9) (Zd (D.int (0)))) (Z5 3))) (YB (Zm Ql (Z3 (mOp gIx (Z5 3) (mOp gIx (Z5 9) (Zd (D.int (0))))) (Z3 (Z5 9) ZR))) (gN 10)) mNx) (Ye (YB (vOr (mOp U6 (mOp gIx (Z5 9) (Zd (D.int (0)))) (Z5 3)) (mOp gNe (Z5 10) (mOp gIx (Z5 3) (mOp gIx (Z5 9) (Zd (D.int (0))))))) (gN 11)) (Ye (JN (BR (G4 (Zm (ZO 12) (Z3 (Ji "House" "take" ZQ (Z5 1) (Z3 (Z5 9) ZR)) (Z3 (Z5 11) ZR))))) (Qp (Zd (D.bl false))) mNx) (Ye (YQ (Z5 10) (Z5 3) (mOp gIx (Z5 9) (Zd (D.int (0))))) (JN (BR (G4 (Zm Yh (Z3 (Z5 1) (Z3 (Z5 3) ZR))))) (Qp (Zd (D.bl false))) mNx)))))))
abbrev Me (ns:List Int)(k:Nat)(x6 x7 x8 x9 x10 x11:Option D):En:=[some (.scr ns),some (.ref 0),some (.ref 3),some (.ref 4),some (.ref 5),some (.int (k:Nat)),x6,x7,x8,x9,x10,x11]
theorem Z0B (i:Int){E T:List Ent}(I:Inv E T)(sd:List D)(ns:List Int)(k:Nat)(hT:T.length=k)(t0:Ent)(h0:Nice t0)(hx0:∀e∈E,e.1=t0.1->t0.2.1=e.2.1)(x6 x7 x8 x10 x11:Option D) :
  ∃t:Ent,Nice t/\(∀e∈E,e.1=t.1->t.2.1=e.2.1)/\s5 (Me ns k x6 x7 x8 (some (fl t0)) x10 x11) (st i E sd T)=some (.nx,Me ns k x6 x7 x8 (some (fl t)) x10 x11,st i E sd T):=by
 by_cases hk:k=4
 ·subst hk
  have h1:1<T.length:=by omega
  have hm:T[1]∈T:=W08 h1
  refine⟨T[1],(I.t _ hm).2,λe he z=>(I.e e he).2.2 _ hm z.symm,?_⟩
  have hi:gIx (.ref 5) (.int 1) (st i E sd T)=some (fl T[1],st i E sd T):=ixL (k:=1) rfl (by rw [WE,Wl h1];rfl)
  have h4:∀S,gEq (.int ((4:Nat):Int)) (.int 4) S=some (.bl true,S):=λ_=>rfl
  simp only [s5,EVS,W9,Wa,Wf,W2,Wg,Wh,Wb,Wc,W5,↓reduceIte,reduceCtorEq,W1,We,W3,h4,hi]
 ·refine⟨t0,h0,hx0,?_⟩
  have h4:∀S,gEq (.int (k:Int)) (.int 4) S=some (.bl false,S):=λS=>by
   show some (D.bl (decide ((k:Int)=4)),S)=_
   rw [decide_eq_false (by omega)]
  simp only [s5,EVS,W9,Wa,Wf,W2,Wg,Wh,Wb,Wc,W5,↓reduceIte,reduceCtorEq,W1,We,W3,h4]
theorem Df (i:Int){E T:List Ent}(I:Inv E T)(sd:List D)(ns:List Int)(k:Nat)(hT:T.length<=5)(t:Ent)(ht:Nice t)(hn:∀e∈E,e.1≠t.1)(x6 x7 x8 x10 x11:Option D) :
  r6 (Me ns k x6 x7 x8 (some (fl t)) x10 x11) (st i E sd T)=some (.nx,Me ns k x6 x7 x8 (some (fl t)) (some (fl t)) (some (.bl true)),st i (E++[t]) sd (T++[t])):=by
 have hl:E.length<=5:=V7 I.le hT
 have I2:=I.new ht hn
 have h:=Rh i E sd (T++[t])
 have a5:=XV (i:=i) (E:=E) (sd:=sd) (T:=T) (t:=t) (by omega)
 obtain⟨o1,o2⟩:=DH h.h4 hn
 have tk:=FC h t hn (by omega) ht.ok
 have hst:(st i E sd (T++[t])).set 1 (.dct ((E++[t]).map ent))=[hs i,.dct ((E++[t]).map ent),.dct [],.lst sd,.dct (E.map ent),.lst ((T++[t]).map fl)]:=rfl
 rw [hst] at tk
 generalize hS2:([hs i,.dct ((E++[t]).map ent),.dct [],.lst sd,.dct (E.map ent),.lst ((T++[t]).map fl)]:Sto)=S2 at tk
 have s2:S2[4]? = some (.dct (E.map ent)):=by rw [<-hS2];rfl
 have hset:=FP t s2 (by omega)
 rw [MI hn] at hset;have hset2:S2.set 4 (.dct ((E++[t]).map ent))=st i (E++[t]) sd (T++[t]):=by rw [<-hS2];rfl
 rw [hset2] at hset;have si:=YK (mv:=Z5 10) (ma:=Z5 3) (mb:=mOp gIx (Z5 9) (Zd (D.int (0)))) (en:=Me ns k x6 x7 x8 (some (fl t)) (some (fl t)) (some (.bl true))) (S:=S2) (n:=4) (k:=enc t.1) (v:=fl t) (by simp only [EVS,W9,Wa,Wf,W2,Wg,Wh,Wb,Wc,W5,↓reduceIte,reduceCtorEq,W1,We,W3]) (by simp only [EVS,W9,Wa,Wf,W2,Wg,Wh,Wb,Wc,W5,↓reduceIte,reduceCtorEq,W1,We,W3]) (by simp only [EVS,W9,Wa,Wf,W2,Wg,Wh,Wb,Wc,W5,↓reduceIte,reduceCtorEq,W1,We,W3,ix0]) hset
 have rt:=GM (Rh i (E++[t]) sd (T++[t])) I2.nd (by rw [WC];simp;omega) λe he=>(I2.e e he).1
 have sb:=RV true S2
 simp only [r6,EVS,W9,Wa,Wf,W2,Wg,Wh,Wb,Wc,W5,↓reduceIte,reduceCtorEq,W1,We,W3,Z26,a5,ix0,o1,o2,Uc,Q5 (m:="take") h (λ_=>rfl),U2,tk,sb,si,rt]
theorem Dd (i:Int){E T:List Ent}(I:Inv E T)(sd:List D)(ns:List Int)(k:Nat)(hT:T.length<=5)(t:Ent)(ht:Nice t){e:Ent}(he:e∈E)(hk:t.1=e.1)(hx:t.2.1=e.2.1)(x6 x7 x8 x10 x11:Option D) :
  r6 (Me ns k x6 x7 x8 (some (fl t)) x10 x11) (st i E sd T)=some (.nx,Me ns k x6 x7 x8 (some (fl t)) (some (fl (jn e t))) (some (.bl (!eqD (fl (jn e t)) (fl e)))),st i (UV E (jn e t)) sd (T++[t])):=by
 have hl:E.length<=5:=V7 I.le hT
 have I2:=I.old hT he ht hk hx
 obtain⟨p1,p2,_,p4⟩:=I.put hT he ht hk hx
 have h:=Rh i E sd (T++[t])
 have a5:=XV (i:=i) (E:=E) (sd:=sd) (T:=T) (t:=t) (by omega)
 obtain⟨o1,o2,o3⟩:=IJ I.nd h.h4 he
 rw [<-hk] at o1 o2 o3;have oe:=(I.e e he).1
 have tk:=Ms h I.nd he hk.symm (j:=jn e t) rfl (by omega) oe p4 p1
 have hst:(st i E sd (T++[t])).set 1 (.dct ((UV E (jn e t)).map ent))=[hs i,.dct ((UV E (jn e t)).map ent),.dct [],.lst sd,.dct (E.map ent),.lst ((T++[t]).map fl)]:=rfl
 rw [hst] at tk;have n1:=DW (S:=st i E sd (T++[t])) p4 oe
 generalize hb:(!eqD (fl (jn e t)) (fl e))=b at tk n1
 generalize hS2:([hs i,.dct ((UV E (jn e t)).map ent),.dct [],.lst sd,.dct (E.map ent),.lst ((T++[t]).map fl)]:Sto)=S2 at tk
 have s2:S2[4]? = some (.dct (E.map ent)):=by rw [<-hS2];rfl
 have hset:=FP (jn e t) s2 (by omega)
 have hset2:S2.set 4 (.dct ((UV E (jn e t)).map ent))=st i (UV E (jn e t)) sd (T++[t]):=by rw [<-hS2];rfl
 rw [hset2] at hset;have si:=YK (mv:=Z5 10) (ma:=Z5 3) (mb:=mOp gIx (Z5 9) (Zd (D.int (0)))) (en:=Me ns k x6 x7 x8 (some (fl t)) (some (fl (jn e t))) (some (.bl b))) (S:=S2) (n:=4) (k:=enc t.1) (v:=fl (jn e t)) (by simp only [EVS,W9,Wa,Wf,W2,Wg,Wh,Wb,Wc,W5,↓reduceIte,reduceCtorEq,W1,We,W3]) (by simp only [EVS,W9,Wa,Wf,W2,Wg,Wh,Wb,Wc,W5,↓reduceIte,reduceCtorEq,W1,We,W3]) (by simp only [EVS,W9,Wa,Wf,W2,Wg,Wh,Wb,Wc,W5,↓reduceIte,reduceCtorEq,W1,We,W3,ix0]) hset
 have l2:(UV E (jn e t)).length<=6:=V7 I2.le (by rw [WC];simp;omega)
 have rt:=GM (Rh i (UV E (jn e t)) sd (T++[t])) I2.nd l2 λx hx=>(I2.e x hx).1
 have sb:=RV b S2
 simp only [r6,EVS,W9,Wa,Wf,W2,Wg,Wh,Wb,Wc,W5,↓reduceIte,reduceCtorEq,W1,We,W3,Z26,a5,ix0,o1,o2,o3,p2,n1,Uc,Q5 (m:="take") h (λ_=>rfl),U2,tk,sb,si,rt]
theorem turn (ns:List Int)(i c1 c2 c3:Int){E T:List Ent}(I:Inv E T)(k:Nat)(hk:k<6)(hT:T.length=k)(x6 x7 x8 x9 x10 x11:Option D) :
  ∃E' t y6 y7 y8 y9 y10 y11,UL (Me ns k x6 x7 x8 x9 x10 x11) (st i E [.int c1,.int c2,.int c3] T)=some (.nx,Me ns k y6 y7 y8 y9 y10 y11,st i E' [.int c1,.int c2,.int c3] (T++[t]))/\Inv E' (T++[t]):=by
 obtain⟨ck,hck⟩:=TW ns (k%5)
 have m5:∀S,Fp (.int (k:Int)) (.int 5) S=some (.int ((k%5:Nat):Int),S):=λS=>by rw [Jk (by decide)];rfl
 have mu:∀S,Nd (.int 41) (.int (k:Int)) S=some (.int (41*(k:Int)),S):=λS=>U5 (by decide)
 generalize hcc:ck+41*(k:Int)=cc
 have hmx:∀S,Zu [.int cc,.int 9803,.int 3] S=some (.int (cc*48271%9803%3),S):=λS=>Yz (by decide) (by decide)
 have m0:=Vg (cc*48271%9803) (b:=3) (by decide)
 have m1:=Vi (cc*48271%9803) (b:=3) (by decide)
 obtain⟨m,hm⟩:∃m:Nat,cc*48271%9803%3=(m:Int):=⟨(cc*48271%9803%3).toNat,(W2h m0).symm⟩
 rw [hm] at hmx;obtain⟨seed,hsd⟩:∃s:Int,([.int c1,.int c2,.int c3]:List D)[m]? = some (.int s):=by
  have:m<3:=by omega
  match m,this with
  |0,_=>exact⟨c1,rfl⟩
  |1,_=>exact⟨c2,rfl⟩
  |2,_=>exact⟨c3,rfl⟩
 obtain⟨w,n,hw,hn,hwh⟩:=Fv seed
 have hx3:gIx (.ref 3) (.int (m:Int)) (st i E [.int c1,.int c2,.int c3] T)=some (.int seed,st i E [.int c1,.int c2,.int c3] T):=ixL rfl hsd
 obtain⟨t0,_,n0,hx0,e4⟩:=Z0C i I [.int c1,.int c2,.int c3] ns k cc seed m w n x9 x10 x11 hw hn hsd
 obtain⟨t,nt,hx,e5⟩:=Z0B i I [.int c1,.int c2,.int c3] ns k hT t0 n0 hx0 (some (.int cc)) (some (.int (m:Int))) (some (.tup [.int (w:Int),.int n])) x10 x11
 have com:∀r,r6 (Me ns k (some (.int cc)) (some (.int (m:Int))) (some (.tup [.int (w:Int),.int n])) (some (fl t)) x10 x11) (st i E [.int c1,.int c2,.int c3] T)=r->UL (Me ns k x6 x7 x8 x9 x10 x11) (st i E [.int c1,.int c2,.int c3] T)=r:=by
  intro r hr;unfold UL;refine JI (en1:=Me ns k (some (.int cc)) x7 x8 x9 x10 x11) (S1:=st i E [.int c1,.int c2,.int c3] T) (by simp only [EVS,W9,Wa,Wf,W2,Wg,Wh,Wb,Wc,W5,↓reduceIte,reduceCtorEq,W1,We,W3,m5,hck,mu,hcc]) ?_
  refine JI (en1:=Me ns k (some (.int cc)) (some (.int (m:Int))) x8 x9 x10 x11) (S1:=st i E [.int c1,.int c2,.int c3] T) (by simp only [EVS,W9,Wa,Wf,W2,Wg,Wh,Wb,Wc,W5,↓reduceIte,reduceCtorEq,W1,We,W3,hmx]) ?_
  refine JI (en1:=Me ns k (some (.int cc)) (some (.int (m:Int))) (some (.tup [.int (w:Int),.int n])) x9 x10 x11) (S1:=st i E [.int c1,.int c2,.int c3] T) (by simp only [EVS,W9,Wa,Wf,W2,Wg,Wh,Wb,Wc,W5,↓reduceIte,reduceCtorEq,W1,We,W3,hx3,hwh]) ?_
  exact JI (a:=s4) e4 (JI (a:=s5) e5 hr)
 by_cases hin:∃e∈E,e.1=t.1
 ·obtain⟨e,e1,e2⟩:=hin
  exact⟨_,t,_,_,_,_,_,_,com _ (Dd i I _ ns k (by omega) t nt e1 e2.symm (hx e e1 e2) _ _ _ _ _),I.old (by omega) e1 nt e2.symm (hx e e1 e2)⟩
 ·have hno:∀e∈E,e.1≠t.1:=λe he z=>hin ⟨e,he,z⟩
  exact⟨_,t,_,_,_,_,_,_,com _ (Df i I _ ns k (by omega) t nt hno _ _ _ _ _),I.new nt hno⟩
end K09
namespace K09
open PySem L2 DL
theorem A0 {m k:Nat}{pre post:List Nat}(h:W6 m=pre++k :: post):k=pre.length/\k<m:=by
 have hk:k<m:=Vf.mp (by rw [h];simp)
 have e:(W6 m)[pre.length]? = some k:=by rw [h,WV (Wq _),W2o];rfl
 have hl:pre.length<m:=by have:=congrArg Va h;simp at this;omega
 rw [List.getElem?_range hl] at e;exact⟨(WW e).symm,hk⟩
theorem SZ (i:Int):Yi [.ref 0,.int i] [.ins "House" []]=some (.non,[hs i,.dct [],.dct []]):=by
 have e:Jh (J9 2 [.ref 0,.int i]) [.ins "House" []]=some (.nx,[some (.ref 0),some (.int i)],[hs i,.dct [],.dct []]):=rfl
 have t:Gh [.ins "House" []] (.non,[hs i,.dct [],.dct []])=(.non,[hs i,.dct [],.dct []]):=by
  unfold Gh;rw [if_neg]
  rintro⟨z,_⟩
  simp [hs,hf] at z
 have r:=AI (nN:=2) (n:=2) (m:=Jh) (ds:=[.ref 0,.int i]) (S:=[.ins "House" []]) rfl
 unfold Yi;rw [r,e,Ba,t]
theorem Sm {ma:M (List D)}{en:En}{i:Int}(h:ma en []=some ([.int i],[])):KR "House" Yi ma en []=some (.ref 0,[hs i,.dct [],.dct []]):=by
 unfold KR;have e:Yi (D.ref (Va ([]:Sto)) :: [D.int i]) (([]:Sto)++[Ob.ins "House" []])=some (.non,[hs i,.dct [],.dct []]):=SZ i
 rw [h,V0];dsimp only;rw [e];rfl
theorem law_true (ns:List Int)(_:ns.length<=63):∃S',F_law [.scr ns] []=some (.bl true,S'):=by
 have hz:100<=Wk:=by decide
 have z3:3<=Wk:=by decide
 have z0:0<=Wk:=by decide
 obtain⟨c0,hc0⟩:=TW ns 0
 obtain⟨c1,hc1⟩:=TW ns 1
 obtain⟨c2,hc2⟩:=TW ns 2
 obtain⟨c3,hc3⟩:=TW ns 3
 have hc0':∀S,Yd [.scr ns,.int 0] S=some (.int c0,S):=λS=>hc0 S
 have hc1':∀S,Yd [.scr ns,.int 1] S=some (.int c1,S):=λS=>hc1 S
 have hc2':∀S,Yd [.scr ns,.int 2] S=some (.int c2,S):=λS=>hc2 S
 have hc3':∀S,Yd [.scr ns,.int 3] S=some (.int c3,S):=λS=>hc3 S
 have hmx:∀S,Zu [.int c0,.int 9811,.int 6] S=some (.int (c0*48271%9811%6),S):=λS=>Yz (by decide) (by decide)
 generalize c0*48271%9811%6=i at hmx
 have mkh:=Sm (ma:=Z3 (Zm Zu (Z3 (Zm Yd (Z3 (Z5 0) (Z3 (Zd (D.int (0))) ZR))) (Z3 (Zd (D.int (9811))) (Z3 (Zd (D.int (6))) ZR)))) ZR) (en:=[some (.scr ns),none,none,none,none,none,none,none,none,none,none,none]) (i:=i) (by simp only [EVS,W9,Wa,Wf,W2,Wg,Wh,Wb,Wc,W5,↓reduceIte,reduceCtorEq,W1,We,W3,hc0',hmx])
 let P:List Nat->En->Sto->Prop:=λpre en S'=>∃E T x5 x6 x7 x8 x9 x10 x11,en=[some (.scr ns),some (.ref 0),some (.ref 3),some (.ref 4),some (.ref 5),x5,x6,x7,x8,x9,x10,x11]/\S'=st i E [.int c1,.int c2,.int c3] T/\T.length=pre.length/\Inv E T
 have step:∀(pre:List Nat) (k:Nat) (post:List Nat) (en:En) (S1:Sto),W6 6=pre++k :: post->P pre en S1->∃en1,gN 5 (D.int (k:Nat)) en=some en1/\∃en2 S2,UL en1 S1=some (.nx,en2,S2)/\P (pre++[k]) en2 S2:=by
  intro pre k post en S1 hpre hP;obtain⟨E,T,x5,x6,x7,x8,x9,x10,x11,rfl,rfl,hl,I⟩:=hP
  obtain⟨hk,hk6⟩:=A0 hpre
  refine⟨_,rfl,?_⟩
  obtain⟨E',t,y6,y7,y8,y9,y10,y11,e,I'⟩:=turn ns i c1 c2 c3 I k (by omega) (by omega) x6 x7 x8 x9 x10 x11
  exact⟨_,_,e,E',T++[t],_,_,_,_,_,_,_,rfl,rfl,by rw [WC,WC,hl];rfl,I'⟩
 obtain⟨en',S',e,E,T,x5,x6,x7,x8,x9,x10,x11,e2,e3,hTl,I⟩:=QO (g:=gN 5) (ds0:=Ny 0 6) (gd:=.no) (body:=UL) (W6 6) (λk=>D.int (k:Nat)) P step (λ_ _ _ _=>trivial)
  (en:=[some (.scr ns),some (.ref 0),some (.ref 3),some (.ref 4),some (.ref 5),none,none,none,none,none,none,none]) (S:=st i [] [.int c1,.int c2,.int c3] [])
  ⟨[],[],_,_,_,_,_,_,_,rfl,rfl,rfl,by simp,Wq _,(λt h=>by cases h),(λt h=>by cases h)⟩
 rw [<-JU] at e;subst e2 e3;rw [V5] at hTl;have h6:Int.toNat 6=6:=rfl
 generalize hS:st i E [.int c1,.int c2,.int c3] T=S at e
 have h:At S E:=by rw [<-hS];exact Rh _ _ _ _
 have s5:S[5]? = some (.lst (T.map fl)):=by rw [<-hS];rfl
 have hl:E.length<=6:=by have:=I.le;omega
 have rt:=GM h I.nd hl λe he=>(I.e e he).1
 have cc:ZK (T.map fl) (.lst 5) [none,some (.ref 0)] (gN 0) Qf Mf (T.map fl) [] S=some (T.map λ_=>D.bl true,S):=
  YT T fl (λ_=>D.bl true) (show Gf (.lst 5) _ S from s5) (by omega) λt ht=>⟨_,rfl,by
   obtain⟨e,e1,e2,oe,ep⟩:=I.again (by omega) ht
   have tk:=Ms h I.nd e1 e2 (j:=e) e2 hl oe oe ep
   have sset:S.set 1 (.dct ((UV E e).map ent))=S:=by
    rw [P6 I.nd e1,<-hS];rfl
   have eq:eqD (fl e) (fl e)=true:=YR 30 _ (MK oe)
   rw [sset,eq] at tk;have tk':ZQ [.ref 0,fl t] S=some (.bl false,S):=tk
   have i1:gIs (.bl false) (.bl false) S=some (.bl true,S):=rfl
   simp only [Mf,EVS,W9,Wa,Wf,W2,Wg,Wh,Wb,Wc,W5,↓reduceIte,reduceCtorEq,W1,We,W3,Uc,Q5 (m:="take") h (λ_=>rfl),U2,tk',i1]⟩
 have ebs:(T.map λ_=>D.bl true)=(T.map λ_=>true).map D.bl:=by rw [WY];rfl
 have ball:(T.map λ_=>true).all id=true:=by simp
 have l3:∀S:Sto,S=[hs i,.dct [],.dct []]->S++[Ob.lst [.int c1,.int c2,.int c3]]=[hs i,.dct [],.dct [],.lst [.int c1,.int c2,.int c3]]:=λS h=>by rw [h];rfl
 unfold F_law;refine⟨(Gh [] (.bl true,S)).2,?_⟩
 rw [AI (nN:=12) (n:=1) (m:=Sn) (ds:=[.scr ns]) (S:=[]) rfl]
 have run:Sn (J9 12 [.scr ns]) []=some (.rt (.bl true),[some (.scr ns),some (.ref 0),some (.ref 3),some (.ref 4),some (.ref 5),x5,x6,x7,x8,x9,x10,x11],S):=by
  refine JI (en1:=[some (.scr ns),some (.ref 0),none,none,none,none,none,none,none,none,none,none]) (S1:=[hs i,.dct [],.dct []]) ?_ ?_
  ·show YB _ _ [some (.scr ns),none,none,none,none,none,none,none,none,none,none,none] []=_
   simp only [EVS,W9,Wa,Wf,W2,Wg,Wh,Wb,Wc,W5,↓reduceIte,reduceCtorEq,W1,We,W3,mkh]
  refine JI (en1:=[some (.scr ns),some (.ref 0),some (.ref 3),none,none,none,none,none,none,none,none,none]) (S1:=[hs i,.dct [],.dct [],.lst [.int c1,.int c2,.int c3]]) ?_ ?_
  ·simp only [EVS,W9,Wa,Wf,W2,Wg,Wh,Wb,Wc,W5,↓reduceIte,reduceCtorEq,W1,We,W3,hc1',hc2',hc3',z3]
   rfl
  refine JI (en1:=[some (.scr ns),some (.ref 0),some (.ref 3),some (.ref 4),none,none,none,none,none,none,none,none]) (S1:=[hs i,.dct [],.dct [],.lst [.int c1,.int c2,.int c3],.dct []]) rfl ?_
  refine JI (en1:=[some (.scr ns),some (.ref 0),some (.ref 3),some (.ref 4),some (.ref 5),none,none,none,none,none,none,none]) (S1:=st i [] [.int c1,.int c2,.int c3] []) rfl ?_
  refine JI (en1:=[some (.scr ns),some (.ref 0),some (.ref 3),some (.ref 4),some (.ref 5),x5,x6,x7,x8,x9,x10,x11]) (S1:=S) ?_ ?_
  ·simp only [EVS,W9,Wa,Wf,W2,Wg,Wh,Wb,Wc,W5,↓reduceIte,reduceCtorEq,W1,We,W3,Bb (show -(2 ^ 62)<=(6:Int)/\(6:Int)<2 ^ 62 by decide),h6,e]
  ·simp only [EVS,W9,Wa,Wf,W2,Wg,Wh,Wb,Wc,W5,↓reduceIte,reduceCtorEq,W1,We,W3,N9 s5,cc,ebs,Ox,ball,rt]
 rw [run,B9];unfold Gh;split<;>rfl
end K09
open PySem PySem.W PyProof.Rows
local macro_rules
  | `(tactic| o_head $H) => `(tactic| (refine holds_open (q := PySem.Challenge.rw_twinshelves_k09_files_taken.prog) (loose := []) (Xt := (fun s => PySem.W.xlAt PySem.Challenge.rw_twinshelves_k09_files_taken.prog [] s && PySem.W.recOk (PySem.W.RowW.records (PySem.W.OpenRow.toRowW (PySem.W.OpenLaw.row PySem.Challenge.rw_twinshelves_k09_files_taken))) s)) (XP := XL PySem.Challenge.rw_twinshelves_k09_files_taken.prog []) (Yf := Hook.obs $H) (Ya := Hook.val $H) (YP := Hook.says $H) (N := 4980) ?hl (Hook.of $H) (Hook.keeps $H) (fun s e => xl_of s (Bool.and_eq_true_iff.mp e).1) XL.keeps (by rfl) (by rfl) (by rfl) (fun s e => recFacts_of (Bool.and_eq_true_iff.mp e).2) (by rfl) (by first | assumption | decide +kernel) (by decide +kernel) ⟨rfl, rfl, rfl, rfl, rfl, by decide +kernel⟩ ?hw ?hc; (case hl => exact DL.left_tree DL.hB DL.hC (by kernel_rfl) (by decide +kernel) (fun s => by kernel_rfl) (fun w os => by kernel_rfl)); (case hw => w_witness2)))
set_option maxRecDepth 100000 in
set_option maxHeartbeats 0 in
theorem PySem.Challenge.cw_twinshelves_k09_files_taken_holds : PySem.Challenge.rw_twinshelves_k09_files_taken.Holds := by
 w_on;o_law;k_head
 k_fill
 refine DL.walk_d (l:=PySem.Challenge.rw_twinshelves_k09_files_taken) (F:=K09.F_law) (k:=15) (x:="_law_script") rfl rfl ⟨rfl,by decide,by decide⟩ (λw h Y=>PySem.W.kIn_of Y) ?F K09.law_true
 case F=>
  intro w mg fa h KX G hmg;refine' K09.all_mk KX G hmg ?_ ?_ ?_ ?_ ?_ ?_ ?_ ?_ ?_ ?_ ?_ ?_ ?_ ?_ ?_ ?_ ?_ ?_ ?_ ?_ ?_ ?_ ?_ ?_ ?_ ?_ ?_ ?_ ?_ ?_ ?_ ?_ ?_ ?_ ?_ ?_ ?_ ?_ ?_ ?_ ?_ ?_ ?_ ?_ ?_ ?_ ?_ ?_ ?_ ?_ ?_ ?_ ?_ ?_ ?_ ?_ ?_ ?_ ?_ ?_ ?_ ?_ ?_ ?_ ?_ ?_ ?_ ?_ ?_ ?_ ?_ ?_ ?_ ?_ ?_ ?_ ?_ ?_ ?_ ?_ ?_ ?_ ?_ ?_ ?_ ?_ ?_ ?_ ?_ ?_ ?_ ?_ ?_ ?_ ?_ ?_ ?_ ?_ ?_ ?_ ?_ ?_ ?_ ?_ ?_ ?_ ?_ ?_ ?_ ?_ ?_ ?_ ?_ ?_ ?_ ?_ ?_ ?_ ?_ ?_ ?_ ?_ ?_ ?_ ?_ ?_ ?_ ?_ ?_ ?_ ?_ ?_ ?_ ?_ ?_ ?_ ?_ ?_ ?_ ?_ ?_ ?_ ?_ ?_ ?_ ?_ ?_ ?_ ?_ ?_
  all_goals try k_is
