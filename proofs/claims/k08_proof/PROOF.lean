import PyProof.Rows.All
import Wide.All
import OpenK.AllK
import Wide.FinOn
import Lean
import PyProof.EqAt
import PyProof.EqKinds
import PyProof.TupleCall
import KE.KRevIter
import KE.KRevSl
import PyProof.SumWalkG
import PySem.Challenge.RW_twinshelves_k08_refusals
set_option Elab.async false
set_option linter.all false
namespace DL
open PySem PySem.W
/-- the run of the top, the heap a tree -/
noncomputable def topT (tb : String -> Option Builtin) (p : Program) (w : World) (m : Nat) (an : Option Value) : Nat -> SharedT -> Thread -> Option SharedT
  | 0, _, _ => none
  | n + 1, s, t => match through t with
    | true => some s
    | false => match stepOk m an t with
      | false => none
      | true => match stepT (denote tb) p w s t with
        | some (s', t') => topT tb p w m an n s' t'
        | none => none
theorem topT_of {tb : String -> Option Builtin} {p : Program} {w : World} {m : Nat} {an : Option Value} : ∀ {n : Nat} {s r : SharedT} {t : Thread}, topT tb p w m an n s t = some r -> topRun tb p w m an n s.abs t = some r.abs
  | 0, _, _, _, h => by cases h
  | n + 1, s, r, t, h => by
    unfold topT at h;unfold topRun;cases h1 : through t with
    | true =>
      rw [h1] at h;cases h;rfl
    | false =>
      rw [h1] at h;cases h2 : stepOk m an t with
      | false =>
        rw [h2] at h;cases h
      | true =>
        rw [h2] at h;cases h3 : stepT (denote tb) p w s t with
        | none =>
          rw [h3] at h;cases h
        | some z =>
          obtain ⟨s2, t2⟩ := z
          rw [h3] at h;dsimp only at h ⊢
          rw [stepT_spec h3];exact topT_of h
noncomputable def tree0 (P : Params) : BT := ((boot_heap P).objs.toList.foldl (fun (x : BT × Nat) o => (x.1.ins x.2 o, x.2 + 1)) (BT.nil, 0)).1
theorem tree0_abs (P : Params) : absHeap (tree0 P) 11 (boot_heap P).life = boot_heap P := by kernel_rfl
theorem boot_at (P : Params) : ((boot_heap P).isNs mainGlobals && (Array.mk [] : Array GenState).size == 0, (boot_heap P).objs.size, (boot_heap P).nsMap mainGlobals "__annotations__") = (true, 11, some (.ref 6)) := by kernel_rfl
noncomputable def ran (p : Program) (N : Nat) (w : World) (os : OsState) : Option SharedT := topT treeTable p w 11 (some (.ref 6)) N ⟨tree0 w.params, 11, (boot_heap w.params).life, Array.mk [], boot_drawn, boot_toks, os⟩ (topStub p)
theorem left_tree {p q : Program} {loose : List Str} {Xt : Shared -> Bool} {A : Type} {Yf : Shared -> A} {Ya : World -> A} {N : Nat}
    (hB : ∀ (w : World) (os : OsState), ((ran p N w os).map fun s => staticsOk (importedModules p.main.body) (boot_heap w.params) s.abs.heap && namesBound p s.abs.heap && gensDone s.abs && laidKept (boot_heap w.params) s.abs.heap) = some true)
    (hC : ∀ (w : World) (os : OsState), ((ran p N w os).map fun s => openSeen q loose (importedModules p.main.body) Xt true s.abs) = some (openGood q loose))
    (e : opening p = plainProg p.main.scope.names) (hN : Nat.ble 600 N = true) (f : ∀ s, fenceModules? p s = some s)
    (hD : ∀ (w : World) (os : OsState), ((ran p N w os).map fun s => Yf s.abs) = some (Ya w)) :
    LeftO p q loose Xt Yf Ya N := fun w => by
  obtain ⟨⟨hp, g, d, k, os⟩, e1, e2⟩ := Option.map_eq_some_iff.mp (boot_open e hN f w)
  obtain ⟨rfl, rfl, rfl, rfl⟩ : hp = boot_heap w.params ∧ g = Array.mk [] ∧ d = boot_drawn ∧ k = boot_toks := by simpa using e2
  obtain ⟨s, e3, l1⟩ := Option.map_eq_some_iff.mp (hB w os)
  have l2 := hC w os
  have l3 := hD w os
  rw [e3] at l2 l3;replace l2 := Option.some.inj l2
  replace l3 := Option.some.inj l3
  obtain ⟨z1, z2, z3⟩ : _ ∧ _ ∧ _ := by simpa only [Prod.mk.injEq] using boot_at w.params
  have r := topT_of e3
  have a0 : SharedT.abs ⟨tree0 w.params, 11, (boot_heap w.params).life, Array.mk [], boot_drawn, boot_toks, os⟩ = ⟨boot_heap w.params, Array.mk [], boot_drawn, boot_toks, os⟩ := by
    unfold SharedT.abs;dsimp only;rw [tree0_abs]
  rw [a0] at r;have t : topFrom treeTable p w N ⟨boot_heap w.params, Array.mk [], boot_drawn, boot_toks, os⟩ = some s.abs := by
    unfold topFrom;dsimp only;rw [z1, z2, z3, r];show (match staticsOk (importedModules p.main.body) (boot_heap w.params) s.abs.heap && namesBound p s.abs.heap && gensDone s.abs && laidKept (boot_heap w.params) s.abs.heap with | true => _ | false => _) = _
    rw [l1]
  unfold openEnds;rw [e1];show (topFrom treeTable p w N _).map _ = _
  rw [t];exact congrArg some (Prod.ext l2 l3)
end DL
section
open PySem PySem.W
set_option maxRecDepth 100000 in
theorem DL.hC (w : World) (os : OsState) : ((DL.ran PySem.Challenge.rw_twinshelves_k08_refusals.prog 5900 w os).map fun s => openSeen PySem.Challenge.rw_twinshelves_k08_refusals.prog [] (importedModules PySem.Challenge.rw_twinshelves_k08_refusals.prog.main.body) (fun s => PySem.W.xlAt PySem.Challenge.rw_twinshelves_k08_refusals.prog [] s && PySem.W.recOk (PySem.W.RowW.records (PySem.W.OpenRow.toRowW (PySem.W.OpenLaw.row PySem.Challenge.rw_twinshelves_k08_refusals))) s) true s.abs) = some (openGood PySem.Challenge.rw_twinshelves_k08_refusals.prog []) := by kernel_rfl
set_option maxRecDepth 100000 in
theorem DL.hB (w : World) (os : OsState) : ((DL.ran PySem.Challenge.rw_twinshelves_k08_refusals.prog 5900 w os).map fun s => staticsOk (importedModules PySem.Challenge.rw_twinshelves_k08_refusals.prog.main.body) (boot_heap w.params) s.abs.heap && namesBound PySem.Challenge.rw_twinshelves_k08_refusals.prog s.abs.heap && gensDone s.abs && laidKept (boot_heap w.params) s.abs.heap) = some true := by kernel_rfl
end
open Array renaming length_toList -> W0j, getElem?_toList -> W0M, getD_eq_getD_getElem? -> W14, getElem?_eq_some_iff -> W19
open Bool renaming false_ne_true -> Wq, and_eq_true -> Ws, false_eq_true -> VP, eq_iff_iff -> W05, true_and -> W0X, false_and -> W1h
open Int renaming reduceToNat -> W7, reduceNeg -> Wa, reducePow -> Wb, reduceLT -> Wg, reduceLE -> Wh, emod_lt_of_pos -> Vd, emod_nonneg -> Vr, toNat_natCast -> VS
open List renaming map_cons -> W1, map_nil -> Wc, getElem?_eq_some_iff -> Wj, getElem?_eq_getElem -> Wl, length_map -> Wm, size_toArray -> Wp, mem_cons -> Wr, mem_cons_of_mem -> Wu, mem_cons_self -> Wv, zip_cons_cons -> WC, range -> WE, getElem?_map -> WH, length_append -> WL, mem_append_right -> WM, all_eq_true -> WN, length_cons -> WP, getElem?_append_left -> WR, getElem?_concat_length -> WS, getElem?_set_ne -> WV, not_mem_nil -> WW, getElem?_append_right -> WZ, length_zip -> V4, length -> V5, getElem?_set_self -> V6, all_cons -> V7, append_nil -> V8, lookup_cons -> V9, mem_of_getElem? -> Vc, getElem?_take_of_lt -> Ve, getD_eq_getElem?_getD -> Vh, mem_map -> Vi, find?_cons -> Vj, append_assoc -> Vt, map_append -> Vu, mem_append_left -> Vx, getElem?_replicate -> Vz, toArray -> VD, map_map -> VE, getElem_mem -> VL, length_replicate -> VN, replicate -> VQ, length_range -> VU, filterMap_cons -> VV, lookup -> VY, length_take -> VZ, pairwise_cons -> W01, nodup_cons -> W03, length_singleton -> W04, any_cons -> W08, mem_iff_getElem -> W0b, any_eq_true -> W0i, map_congr_left -> W0m, mem_append -> W0p, length_eq_zero_iff -> W0v, getD -> W0z, eraseIdx_cons_succ -> W0A, mem_range -> W0G, getElem_zip -> W0Q, mem_filterMap -> W1c, all_map -> W1f, mem_singleton -> W1g, pairwise_iff_getElem -> W1m, getElem?_zip_eq_some -> W1n
open List.cons renaming injEq -> W16
open Nat renaming reduceLeDiff -> W5, reduceAdd -> W8, reduceSub -> W9, reduceLT -> We, le_refl -> Wt, lt_of_lt_of_le -> WJ, ne_of_lt -> WT, lt_irrefl -> Vy, le_trans -> VA, zero_le -> VG, le_of_not_lt -> W0g
open Option renaming bind_eq_some_iff -> W2, map_some -> W6, map_eq_some_iff -> Wi, bind_some -> WD, isSome_iff_exists -> W1t
open Option.some renaming inj -> WO
open PyProof.Rows renaming callWith_type1 -> Vp, callWith_builtin1 -> W0K, mirror_size -> W15
open PySem renaming wpAny_bind -> W3, sizeLine -> Wd, wpAny_pure -> Wn, starEach -> Wo, mainGlobals -> Wx, bootBuiltins -> WI, wpAny_mono -> V1, wpAny_callSpecial?_slot -> Vg, wpAny_holding -> Vo, wpAny_Call_Name_kw -> Vq, mem_of_lookup -> Vs, wpAny_call_entry -> Vv, wpAny_typeNameOfWhole_keyiter -> Vw, wpAny_seqItems -> VC, wpAny_field -> VH, wpAny_setField_rec -> VO, wpAny_newObj_type -> VR, wpAny_typeNameOf_keyiter -> VT, sizeLine_eq -> VW, wpAny_passesOwn -> W0q, tupleKind_room_in1 -> W0s, wpAny_callSpecial?_none -> W0u, wpAny_attempt -> W0x, wpAny_pyIter_tuple -> W0y, wpAny_truthy_bool -> W0D, wpAny_dictEntries -> W0E, wpAny_isOneOf_keyiter -> W0O, wpAny_execs_cons -> W0P, wpAny_updateSeq_pair -> W0T, wpAny_execs_nil -> W0Y, codeAny_builtin -> W10, codeAny_mono -> W1d, wpAny_setField -> W1k, wpAny_fieldsOf -> W1l, wpAny_pyIter_list -> W1u
open PySem.Around renaming under_plainId -> W0S
open PySem.Builtin.Dict_items renaming ownsTuple -> W0V
open PySem.Builtin.SmallTypes renaming nextOf -> Vk, ownedTupleIsFree -> Vl, ownedTupleHandOut -> W0c
open PySem.Calls renaming spliced_cons -> VM, spliced_nil -> W07, callWith_builtin -> W0C, evalArgs_plain -> W0R, Name_function_global -> W18, call_function_entry -> W1j
open PySem.F renaming slot_dict_keyiterator_next -> Va, slot_tuple_iterator_next -> VJ, slot_tuple_getattribute -> W0d, args_dict_keyiterator_next_1 -> W0e, entry_dict_keyiterator_next -> W0l, args_tuple_add_2 -> W0o, entry_tuple_add -> W0r, slot_dict_len -> W0t, slot_tuple_add -> W0B, slot_dict_get -> W0N, args_tuple_iterator_next_1 -> W0U, entry_tuple_iterator_next -> W11, slot_zip_next -> W12, excBase_ValueError -> W1a, excAttr_ValueError -> W1b
open PySem.Heap renaming get?_push_of_some -> Wk, lt_size -> Wz, get?_push_size -> WA, size_push -> VB, SameBut -> W02, get?_update_self -> W0L
open PySem.Heap.SameBut renaming update -> VI
open PySem.Obj renaming mapSeq -> Vb, data_mapFields -> W0w
open PySem.Paired renaming length -> W06
open PySem.PassesOwn renaming never -> W17
open PySem.SeqAt renaming RcNeAt -> WX, EqAt -> WY, RcAt -> V2
open PySem.Str renaming ofString -> W0
open PySem.Txt renaming join -> W0W
open PySem.W renaming Frag -> W4, findIn -> Ww, keepIn -> Wy, nsIn -> WB, codeIn -> WF, mg_of -> WG, fnOf -> WK, kitOne -> WQ, mg_none_of -> WU, mroIn -> V0, hasDictIn -> V3, kia_one -> Vf, isFn -> Vm, emptyDict -> Vn, instObj -> VF, Looks -> VX, callWith_K -> W00, excIn -> W09, looks_findIn -> W0a, plainGet -> W0f, kas_desc -> W0h, kas_rev -> W0k, looks_mroIn -> W0n, kas_asc -> W0F, typeIn -> W0H, kas_sort -> W0I, methodCall_KW -> W0J, plainGet_of -> W0Z, kas_place -> W13, kas_descPart -> W1e, lookIn -> W1i, methodObj -> W1o, plainOver -> W1p, specialIn -> W1q, kitx_list -> W1r, kitx_dict -> W1s
noncomputable section
theorem Ua {a b:Prop}(x:a)(y:b):a∧b:=⟨x,y⟩
set_option Elab.async false
set_option linter.all false
set_option maxRecDepth 100000
namespace L2
open PySem PySem.Spec PyProof.Rows
abbrev Key:=Sum Int Str
def Nv:Key->Value->Bool
 | .inl k,v=>Value.isInt k v
 | .inr x,v=>Value.isStrOf x v
def Z1u (w:World):Key->Int
 | .inl k=>hashInt k
 | .inr x=>hashStr w x
theorem ZX:∀{k:Key} {v:Value},Nv k v=true->(∃i t,k=Sum.inl i/\v=Value.int i t)\/(∃x t,k=Sum.inr x/\v=Value.str x t)
 | .inl i,v,h=>by
  obtain⟨t,e⟩:=Value.isInt_shape (k:=i) (v:=v) h
  exact .inl ⟨i,t,rfl,e⟩
 | .inr x,v,h=>by
  obtain⟨t,e⟩:=Value.isStrOf_shape (x:=x) (v:=v) h
  exact .inr ⟨x,t,rfl,e⟩
theorem RQ (i:Int)(t:Tok):Nv (.inl i) (.int i t)=true:=by simp [Nv,Value.isInt]
theorem RP (x:Str)(t:Tok):Nv (.inr x) (.str x t)=true:=by simp [Nv,Value.isStrOf]
theorem D8 (a b:Int):decide ((Sum.inl a:Key)=Sum.inl b)=(a == b):=by
 by_cases e:a=b
 ·subst e;simp
 ·have h:¬(Sum.inl a:Key)=Sum.inl b:=λq=>e (Sum.inl.inj q)
  rw [decide_eq_false h];exact (beq_eq_false_iff_ne.mpr e).symm
theorem D5 (a b:Str):decide ((Sum.inr a:Key)=Sum.inr b)=decide (a=b):=by
 by_cases e:a=b
 ·subst e;simp
 ·have h:¬(Sum.inr a:Key)=Sum.inr b:=λq=>e (Sum.inr.inj q)
  rw [decide_eq_false h,decide_eq_false e]
theorem D7 (a:Int)(b:Str):decide ((Sum.inl a:Key)=Sum.inr b)=false:=decide_eq_false (λq=>nomatch q)
theorem D6 (a:Str)(b:Int):decide ((Sum.inr a:Key)=Sum.inl b)=false:=decide_eq_false (λq=>nomatch q)
def ZW (prog:Program)(w:World):PySem.KeyKind prog w Key where
 is:=Nv
 hash:=Z1u w
 inj:=λv a b ha hb=>by
  rcases ZX ha with ⟨i,t,rfl,rfl⟩|⟨x,t,rfl,rfl⟩
  ·rcases ZX hb with ⟨j,u,rfl,e⟩|⟨y,u,rfl,e⟩
   ·injection e with e1 _;rw [e1]
   ·exact nomatch e
  ·rcases ZX hb with ⟨j,u,rfl,e⟩|⟨y,u,rfl,e⟩
   ·exact nomatch e
   ·injection e with e1 _;rw [e1]
 byValue:=λk v h=>by
  rcases ZX h with ⟨i,t,rfl,rfl⟩|⟨x,t,rfl,rfl⟩<;>rfl
 pyHash:=λhv h=>by
  rcases ZX hv with ⟨i,t,rfl,rfl⟩|⟨x,t,rfl,rfl⟩
  ·exact wpAny_pyHash_int h
  ·exact wpAny_pyHash_str h
 eqBool:=λhu hv h=>by
  rcases ZX hu with ⟨i,t,rfl,rfl⟩|⟨x,t,rfl,rfl⟩
  ·rcases ZX hv with ⟨j,u,rfl,rfl⟩|⟨y,u,rfl,rfl⟩
   ·rw [D8] at h;exact wpAny_eqBool_int h
   ·rw [D7] at h;exact WY.int_str i t y u _ _ _ _ h
  ·rcases ZX hv with ⟨j,u,rfl,rfl⟩|⟨y,u,rfl,rfl⟩
   ·rw [D6] at h;exact WY.str_int x t j u _ _ _ _ h
   ·rw [D5] at h;exact wpAny_eqBool_str h
 «strs»:=λk x t v h=>by
  rcases ZX h with ⟨i,u,rfl,e⟩|⟨y,u,rfl,e⟩
  ·exact nomatch e
  ·injection e with e1 _
   subst e1;cases v<;>rfl
theorem Nj (prog:Program)(w:World)(i:Int)(t:Tok):(ZW prog w).is (.inl i) (.int i t)=true:=RQ i t
theorem Ni (prog:Program)(w:World)(x:Str)(t:Tok):(ZW prog w).is (.inr x) (.str x t)=true:=RP x t
end L2
namespace L2
open PySem PySem.Spec PyProof.Rows
inductive V where
 |non|bl (b:Bool)|int (i:Int)|str (x:Str)|byt (b:Array UInt8)|flt (b:UInt64)|ref (a:Addr)|ty (n:String)
 deriving DecidableEq
def ZO:V->Value->Prop
 | .non,u=>u=Value.none
 | .bl b,u=>u=Value.bool b
 | .int i,u=>∃t,u=Value.int i t
 | .str x,u=>∃t,u=Value.str x t
 | .byt b,u=>∃t,u=Value.bytes b t
 | .flt b,u=>∃t,u=Value.float b t
 | .ref a,u=>u=Value.ref a
 | .ty n,u=>u=Value.type n
abbrev Y4:List V->List Value->Prop:=Paired ZO
theorem Y4.length {xs:List V}{us:List Value}(r:Y4 xs us):xs.length=us.length:=W06 r
theorem Y4.get:∀{xs:List V} {us:List Value} {i:Nat} {x:V},Y4 xs us->xs[i]? = some x->∃u,us[i]? = some u/\ZO x u
 |_,_,_,_,.nil,e=>by simp at e
 |_,_,0,_,.cons r _,e=>by simp at e;subst e;exact⟨_,rfl,r⟩
 |_,_,i+1,x,.cons _ t,e=>by
  obtain⟨u,h1,h2⟩:=Y4.get (i:=i) (x:=x) t (by simpa using e)
  exact⟨u,by simpa using h1,h2⟩
theorem Y4.set {x:V}{u:Value}(r:ZO x u):∀{xs:List V} {us:List Value} (i:Nat),Y4 xs us->Y4 (xs.set i x) (us.set i u)
 |_,_,_,.nil=>.nil
 |_,_,0,.cons _ t=>.cons r t
 |_,_,i+1,.cons q t=>.cons q (Y4.set r i t)
theorem Y4.append:∀{xs ys:List V} {us ws:List Value},Y4 xs us->Y4 ys ws->Y4 (xs++ys) (us++ws)
 |_,_,_,_,.nil,s=>s
 |_,_,_,_,.cons r t,s=>.cons r (Y4.append t s)
def GP:Option V->Option Value->Prop
 |some v,some u=>ZO v u
 |none,none=>True
 |_,_=>False
def KV {κ:Type}:List (κ×V)->List (κ×Value)->Prop:=Paired λ(p:κ×V) (q:κ×Value)=>p.1=q.1/\ZO p.2 q.2
def kV:Key->V
 | .inl i=>.int i
 | .inr x=>.str x
inductive HO where
 /-- a list -/
 |lst (xs:List V)
 /-- a tuple (never changes) -/
 |tup (xs:List V)
 /-- a dict whose keys are ints and texts;one whose keys are tuples of ints and texts (the empty one is both) -/
 |dK (kvs:List (Key×V))|dT (kvs:List (List Key×V))
 /-- a set of ints: its members,its size -/
 |set (S:Int->Bool) (n:Nat)
 /-- an instance of the class at C,its dict at dx,its attributes -/
 |ins (C dx:Addr) (fs:List (Str×V))
 /-- the dict of the instance at x -/
 |own (x:Addr)
 /-- the dict of an exception -/
 |xd (fs:List (Str×V))
 /-- a bound method,f of x -/
 |met (f x:Addr)
 /-- a range object lo,lo+1,.. below hi -/
 |rng (lo hi:Int)
 /-- a thing that is known to the object (the script;a dict while a loop walks it): read,never written while it is so -/
 |frz (o:Obj) (u:HO)
 /-- a code object's table -/
 |tbl (ps:Array Value)
 /-- any other thing,by what is true of its one object (a def of one's own: SetO a S n:=HO.ext λh=>..) -/
 |ext (φ:Heap->Prop)
abbrev Hp:=Addr->Option HO
def upd (H:Hp)(a:Addr)(o:HO):Hp:=λb=>if b=a then some o else H b
theorem Zb {H:Hp}{a:Addr}{o:HO}:upd H a o a=some o:=by unfold upd;rw [if_pos rfl]
theorem Zl {H:Hp}{a b:Addr}{o:HO}(h:b≠a):upd H a o b=H b:=by unfold upd;rw [if_neg h]
theorem Qp {H:Hp}{a:Addr}{o u:HO}:upd (upd H a o) a u=upd H a u:=by
 funext b;unfold upd;split<;>rfl
theorem Jz {H:Hp}{a b:Addr}{o u:HO}(h:H a=some o)(h':H b=some u)(d:o≠u):a≠b:=by
 intro e;subst e;rw [h] at h';exact d (WO h')
theorem ZF {H:Hp}{a b:Addr}{o:HO}(h:H a=some o)(h':H b=none):a≠b:=by
 intro e;subst e;rw [h] at h';cases h'
def EL (h:Heap)(a:Addr)(items:Array Value):Prop:=IsTup h a items/\∃o,h.get? a=some o/\o.dict=none
theorem EL.new (h:Heap)(items:Array Value):EL (h.push { cls:=.type "tuple",data:=.seq items }) h.objs.size items:=⟨IsTup.new h items,_,WA _ rfl,rfl⟩
section
variable (P:Program) (w:World)
def ZK (H:Hp)(h:Heap)(a:Addr):HO->Prop
 | .lst xs=>xs.length<=Wd/\∃(its:List Value) (n:Nat),Y4 xs its/\h.get? a=some { cls:=.type "list",data:=.seq its.toArray n }
 | .tup xs=>xs.length<=Wd/\∃its:List Value,Y4 xs its/\EL h a its.toArray
 | .dK kvs=>kvs.length<=Wd/\(a == sysModules)=false/\∃vs,KV kvs vs/\h.DictOf (ZW P w) a vs
 | .dT kvs=>kvs.length<=Wd/\(a == sysModules)=false/\∃xs:List (List Key×Addr×Value),
   Paired (λ(p:List Key×V) (q:List Key×Addr×Value)=>p.1=q.1/\H q.2.1=some (.tup (p.1.map kV))/\ZO p.2 q.2.2) kvs xs/\
   ∃o es ep,h.get? a=some o/\o.ExactDict/\o.data = .dict es ep/\es.toList=xs.map (entryOfKey (tupleKind (ZW P w)))/\(xs.map (·.1)).Nodup
 | .set S n=>h.SetOf (intKind P w) a S n
 | .ins C dx fs=>H dx=some (.own a)/\fs.length<=1000/\dx≠a/\h.get? a=some (VF C dx)/\
   ∃mA,h.Ns1 dx mA/\(∀f,GP (fs.lookup f) (mA f))/\PySem.Within mA (fs.map (·.1))
 | .own _=>∃o,h.get? a=some o
 | .xd fs=>∃mA,h.Ns1 a mA/\∀f,GP (fs.lookup f) (mA f)
 | .rng lo hi=>∃t u v,h.get? a=some { cls:=.type "range",data:=.fields #[.int lo t,.int hi u,.int 1 v] }
 | .frz o u=>h.get? a=some o/\ZK H h a u
 | .tbl ps=>h.get? a=some { cls:=.none,data:=.fields ps }
 | .met f x=>h.get? a=some (W1o (.ref f) (.ref x))
 | .ext φ=>φ h/\(∃o,h.get? a=some o)/\∀h1 h2:Heap,φ h1->(∀o,h1.get? a=some o->h2.get? a=some o)->φ h2
def HOk (H:Hp)(h:Heap):Prop:=∀a o,H a=some o->ZK P w H h a o
end
section
variable {P:Program} {w:World} {H H':Hp} {h h':Heap} {a:Addr} {o:HO}
theorem ZK.lt (x:ZK P w H h a o):a<h.objs.size:=by
 cases o with
 |lst xs=>obtain⟨_,_,_,_,e⟩:=x;exact Wz e
 |tup xs=>obtain⟨_,_,_,p⟩:=x;exact p.1.lt
 |dK kvs=>obtain⟨_,_,_,_,o,_,_,e,_⟩:=x;exact Wz e
 |dT kvs=>obtain⟨_,_,_,_,o,_,_,e,_⟩:=x;exact Wz e
 |set S n=>obtain⟨o,_,_,_,e,_⟩:=x;exact Wz e
 |ins C dx fs=>obtain⟨_,_,_,e,_⟩:=x;exact Wz e
 |own y=>obtain⟨_,e⟩:=x;exact Wz e
 |xd fs=>obtain⟨_,⟨_,_,_,e,_⟩,_⟩:=x;exact Wz e
 |rng lo hi=>obtain⟨_,_,_,e⟩:=x;exact Wz e
 |frz ob u=>obtain⟨e,_⟩:=x;exact Wz e
 |tbl ps=>exact Wz (show h.get? a=some _ from x)
 |met f y=>exact Wz (show h.get? a=some _ from x)
 |ext φ=>obtain⟨_,⟨_,e⟩,_⟩:=x;exact Wz e
theorem Paired.mapP {α β:Type}{F G:α->β->Prop}:∀{l₁:List α} {l₂:List β},Paired F l₁ l₂->(∀a b,F a b->G a b)->Paired G l₁ l₂
 |_,_,.nil,_=>.nil
 |_,_,.cons r t,f=>.cons (f _ _ r) (Paired.mapP t f)
theorem ZK.stay (x:ZK P w H h a o)(k:∀b u,(b=a\/H b=some (.own a))->h.get? b=some u->h'.get? b=some u)
  (ho:∀b,H b=some (.own a)->H' b=some (.own a)) (ht:∀b xs,H b=some (.tup xs)->H' b=some (.tup xs)):ZK P w H' h' a o:=by
 induction o with
 |lst xs=>obtain⟨z,its,n,r,e⟩:=x;exact⟨z,its,n,r,k _ _ (.inl rfl) e⟩
 |tup xs=>obtain⟨z,its,r,⟨ob,e,c⟩,ob2,e2,c2⟩:=x;exact⟨z,its,r,⟨ob,k _ _ (.inl rfl) e,c⟩,ob2,k _ _ (.inl rfl) e2,c2⟩
 |dK kvs=>obtain⟨z,y,vs,r,ob,es,ep,e,c⟩:=x;exact⟨z,y,vs,r,ob,es,ep,k _ _ (.inl rfl) e,c⟩
 |dT kvs=>
  obtain⟨z,y,xs,r,ob,es,ep,e,c⟩:=x
  exact⟨z,y,xs,Paired.mapP r λp q z=>⟨z.1,ht _ _ z.2.1,z.2.2⟩,ob,es,ep,k _ _ (.inl rfl) e,c⟩
 |set S n=>obtain⟨ob,es,ep,t,e,c⟩:=x;exact⟨ob,es,ep,t,k _ _ (.inl rfl) e,c⟩
 |ins C dx fs=>
  obtain⟨d,z,ne,e,mA,⟨od,es,ep,e2,c⟩,r⟩:=x
  exact⟨ho _ d,z,ne,k _ _ (.inl rfl) e,mA,⟨od,es,ep,k _ _ (.inr d) e2,c⟩,r⟩
 |own y=>obtain⟨ob,e⟩:=x;exact⟨ob,k _ _ (.inl rfl) e⟩
 |xd fs=>obtain⟨mA,⟨od,es,ep,e,c⟩,r⟩:=x;exact⟨mA,⟨od,es,ep,k _ _ (.inl rfl) e,c⟩,r⟩
 |rng lo hi=>obtain⟨t,u,v,e⟩:=x;exact⟨t,u,v,k _ _ (.inl rfl) e⟩
 |frz ob u ih=>obtain⟨e,q⟩:=x;exact⟨k _ _ (.inl rfl) e,ih q⟩
 |tbl ps=>
  have e:h.get? a=some { cls:=.none,data:=.fields ps }:=x
  show h'.get? a=some { cls:=.none,data:=.fields ps }
  exact k a _ (.inl rfl) e
 |met f y=>
  have e:h.get? a=some (W1o (.ref f) (.ref y)):=x
  show h'.get? a=some (W1o (.ref f) (.ref y))
  exact k a _ (.inl rfl) e
 |ext φ=>obtain⟨p,⟨o,e⟩,st⟩:=x;exact⟨st _ _ p λo q=>k _ _ (.inl rfl) q,⟨o,k _ _ (.inl rfl) e⟩,st⟩
theorem HOk.lt (x:HOk P w H h)(e:H a=some o):a<h.objs.size:=(x a o e).lt
theorem HOk.fresh (x:HOk P w H h)(e:h.objs.size<=a):H a=none:=by
 cases q:H a with
 |none=>rfl
 |some u=>exact absurd (WJ (x.lt q) e) (Vy _)
theorem HOk.kept (x:HOk P w H h)(k:∀b u,h.get? b=some u->h'.get? b=some u):HOk P w H h':=λa o e=>
 (x a o e).stay (λb u _ q=>k b u q) (λ_ q=>q) λ_ _ q=>q
theorem HOk.laid (x:HOk P w H h)(k:∀b u,h.get? b=some u->h'.get? b=some u)(hp:h.objs.size<=a)(new:ZK P w (upd H a o) h' a o):HOk P w (upd H a o) h':=λb u e=>by
 have hn:=x.fresh hp
 by_cases hb:b=a
 ·subst hb;rw [Zb] at e;cases e;exact new
 ·rw [Zl hb] at e
  exact (x b u e).stay (λc v _ q=>k c v q) (λc q=>by rw [Zl (ZF q hn)];exact q) λc xs q=>by rw [Zl (ZF q hn)];exact q
end
def Rd (H:Hp)(a:Addr)(u:HO):Prop:=H a=some u\/∃o,H a=some (.frz o u)
theorem Rd.ok {P:Program}{w:World}{H:Hp}{h:Heap}{a:Addr}{u:HO}(r:Rd H a u)(x:HOk P w H h):ZK P w H h a u:=by
 rcases r with r|⟨o,r⟩
 ·exact x a u r
 ·obtain⟨_,q⟩:=x a _ r
  exact q
def Mut:Option HO->Prop
 |some (.lst _)=>True
 |some (.dK _)=>True
 |some (.dT _)=>True
 |some (.set _ _)=>True
 |some (.ins _ _ _)=>True
 |some (.ext _)=>True
 |_=>False
section
variable {P:Program} {w:World} {H:Hp} {h h':Heap} {x e:Addr} {o':HO}
theorem HOk.write (ok:HOk P w H h)(mu:Mut (H x))(he:e=x\/H e=some (.own x))(k:∀b u,b≠e->h.get? b=some u->h'.get? b=some u)(heo:∃u,h'.get? e=some u)
  (new:ZK P w (upd H x o') h' x o'):HOk P w (upd H x o') h':=λb u q=>by
 have nown:∀c y,H c=some (.own y)->c≠x:=λc y r z=>by subst z;rw [r] at mu;exact mu
 have ntup:∀c xs,H c=some (.tup xs)->c≠x:=λc xs r z=>by subst z;rw [r] at mu;exact mu
 by_cases hb:b=x
 ·subst hb;rw [Zb] at q;cases q;exact new
 ·rw [Zl hb] at q
  by_cases hbe:b=e
  ·have q':H b=some (.own x):=by
    rcases he with z|z
    ·exact absurd (hbe.trans z) hb
    ·rw [hbe];exact z
   rw [q] at q';cases q'
   obtain⟨v,hv⟩:=heo
   exact⟨v,by rw [hbe];exact hv⟩
  ·refine (ok b u q).stay (λc v hc r=>k c v ?_ r) (λc r=>by rw [Zl (nown c b r)];exact r) λc xs r=>by rw [Zl (ntup c xs r)];exact r
   rcases hc with rfl|hc
   ·exact hbe
   ·rintro rfl
    rcases he with z|z
    ·exact nown c b hc z
    ·rw [hc] at z;cases z;exact hb rfl
end
structure Un (fs ex:List Addr) (H H':Hp) (h h':Heap):Prop where
 keep:∀b o,h.get? b=some o->H b=none->b∉fs->b∉ex->h'.get? b=some o
 slot:∀b o,h.get? b=some o->H b=none->b∈fs->b∉ex->∃sl,h'.get? b=some { o with slots:=sl }
 free:∀b o,h.get? b=some o->H b=none->b∉ex->H' b=none
 there:∀b o,h.get? b=some o->b∉ex->∃o',h'.get? b=some o'
 tups:∀b xs,H b=some (.tup xs)->H' b=some (.tup xs)
 frzs:∀b o u,H b=some (.frz o u)->H' b=some (.frz o u)
 tbls:∀b ps,H b=some (.tbl ps)->∃more,H' b=some (.tbl (ps++more))
section
variable {fs fs' ex ex':List Addr} {H H1 H2:Hp} {h h1 h2 h':Heap} {a x e:Addr} {o:HO}
theorem Un.any (u:Un fs ex H H1 h h1){b:Addr}{ob:Obj}(q:h.get? b=some ob)(n:H b=none)(hx:b∉ex):∃sl,h1.get? b=some { ob with slots:=sl }:=by
 by_cases hb:b∈fs
 ·exact u.slot b ob q n hb hx
 ·exact⟨ob.slots,u.keep b ob q n hb hx⟩
theorem Un.kept (k:∀b u,h.get? b=some u->h'.get? b=some u):Un fs ex H H h h':=
 ⟨λb ob q _ _ _=>k b ob q,λb ob q _ _ _=>⟨ob.slots,k b ob q⟩,λ_ _ _ n _=>n,λb ob q _=>⟨ob,k b ob q⟩,λ_ _ q=>q,λ_ _ _ q=>q,λ_ ps q=>⟨#[],by rw [q];simp⟩⟩
theorem Un.refl:Un fs ex H H h h:=Un.kept λ_ _ q=>q
theorem Un.laid (k:∀b u,h.get? b=some u->h'.get? b=some u)(hp:h.objs.size<=a)(hn:H a=none):Un fs ex H (upd H a o) h h' where
 keep:=λb u q _ _ _=>k b u q
 slot:=λb u q _ _ _=>⟨u.slots,k b u q⟩
 free:=λb u q n _=>by rw [Zl (WT (WJ (Wz q) hp))];exact n
 there:=λb u q _=>⟨u,k b u q⟩
 tups:=λb xs q=>by rw [Zl (ZF q hn)];exact q
 frzs:=λb u xs q=>by rw [Zl (ZF q hn)];exact q
 tbls:=λb ps q=>⟨#[],by rw [Zl (ZF q hn),q];simp⟩
theorem Un.write (mu:Mut (H x))(he:e=x\/H e=some (.own x))(k:∀b u,b≠e->h.get? b=some u->h'.get? b=some u)(heo:∃u,h'.get? e=some u):Un fs ex H (upd H x o) h h':=by
 have hx:∀b,H b=none->b≠x:=λb n z=>by subst z;rw [n] at mu;exact mu
 have hb:∀b,H b=none->b≠e:=λb n z=>by
  subst z;rcases he with r|r
  ·exact hx b n r
  ·rw [n] at r;cases r
 have hm:∀b u,H b=some u->¬Mut (some u)->b≠x:=λb u q nm z=>by subst z;rw [q] at mu;exact nm mu
 refine⟨λb u q n _ _=>k b u (hb b n) q,λb u q n _ _=>⟨u.slots,k b u (hb b n) q⟩,λb u q n _=>by rw [Zl (hx b n)];exact n,λb u q _=>?_,
  λb xs q=>by rw [Zl (hm b _ q λz=>z)];exact q,λb u xs q=>by rw [Zl (hm b _ q λz=>z)];exact q,λb ps q=>⟨#[],by rw [Zl (hm b _ q λz=>z),q];simp⟩⟩
 by_cases hbe:b=e
 ·subst hbe;exact heo
 ·exact⟨u,k b u hbe q⟩
end
def trk (h:Heap)(H:Hp):List Addr:=(WE h.objs.size).filter λa=>(H a).isSome
def Fp (h:Heap)(H:Hp):Heap:=PySem.W.hideAll h (trk h H)
theorem Pi (h:Heap)(H:Hp):(Fp h H).objs.size=h.objs.size:=PySem.W.hideAll_size _ _
theorem Fo {h:Heap}{H:Hp}{b:Addr}{o:Obj}(e:h.get? b=some o)(n:H b=none):(Fp h H).get? b=some o:=
 PySem.W.hideAll_get _ e λhm=>by
  have q:(H b).isSome=true:=(List.mem_filter.mp hm).2
  rw [n] at q;simp at q
theorem CT {h:Heap}{H:Hp}{b:Addr}{o:Obj}(e:(Fp h H).get? b=some o):h.get? b=some o/\H b=none:=by
 have e':h.get? b=some o:=PySem.W.of_hideAll (trk h H) e
 refine⟨e',?_⟩
 cases q:H b with
 |none=>rfl
 |some x=>
  have hm:b∈trk h H:=List.mem_filter.mpr ⟨W0G.mpr (Wz e'),by simp [q]⟩
  have z:(Fp h H).get? b=none:=PySem.W.hideAll_none (trk h H) hm
  rw [z] at e;cases e
def HU (g h:Heap)(L:Addr):List (Addr×Obj):=(WE h.objs.size).filterMap λa=>if a=L\/(g.get? a).isSome=true then none else (h.get? a).map λo=>(a,o)
def Jt (g h:Heap)(L d:Addr):List (Addr×Obj):=(HU g h L).filter λp=>decide (p.1≠d)
end L2
namespace L2
open PySem PySem.Spec PyProof.Rows
structure Mod (K:W4) (mg:Str->Option Value) (base:Heap):Prop where
 kin:K.In base
 glob:base.Ns Wx mg
 blt:∃mb,base.Ns builtinsNs mb/\∀x:Str,x≠"__name__"->mb x=WI x
 nolimit:base.NoLimit
structure Cx where
 prog:Program
 w:World
 K:W4
 mg:Str->Option Value
 base:Heap
 A:Around
 N:List Str
 s₀:Shared
 H₀:Hp
 env:Env
 outer:List Env
 stack:List Env
 ex:List Addr
 fn:Str->Bool
 calm:Bool
 pn:List (Addr×Obj)
 xe:Value->Shared->Prop
def frs (l:List Env):List Addr:=l.filterMap (·.frame)
abbrev Cx.fs (X:Cx):List Addr:=frs X.outer
def Vis (sc:Scope)(x:Str):Prop:=sc.names.lookup x=some .local\/sc.names.lookup x=some .cell\/sc.names.lookup x=some .free
def Loc (sc:Scope)(x:Str):Prop:=sc.names.lookup x=some .local\/sc.names.lookup x=some .cell
def Z1I (env:Env)(h:Heap)(m:Str->Option Value)(x:Str)(u:Value):Prop:=
 (env.kindOf x=some .local/\m x=some u)\/((env.kindOf x=some .cell\/env.kindOf x=some .free)/\∃c,env.cells.lookup x=some c/\h.IsCell c (some u))
structure Cx.Ok (X:Cx):Prop where
 mod:Mod X.K X.mg X.base
 kind:X.env.scope.kind = .function
 glob:X.env.globals=Wx
 blt:X.env.builtins=builtinsNs
 above:X.s₀.heap.objs.size<=X.env.locals
 inj:∀x y c,X.env.cells.lookup x=some c->X.env.cells.lookup y=some c->x=y
 has:∀x,(X.env.kindOf x=some .cell\/X.env.kindOf x=some .free)->∃c,X.env.cells.lookup x=some c
 cab:∀x c,X.fn x=true->X.env.cells.lookup x=some c->X.s₀.heap.objs.size<=c
 hd:X.calm=true->X.A.handled=none
 frames:X.A.frames=some X.stack
 stk:X.stack=X.outer\/(X.stack=X.env :: X.outer/\X.env.frame=some X.env.locals)
 exf:∀b∈X.ex,b≠X.env.locals/\∀x c,X.env.cells.lookup x=some c->c≠b
 bs:∀b o,X.base.get? b=some o->X.s₀.heap.get? b=some o/\X.H₀ b=none
 bsz:X.base.objs.size<=X.s₀.heap.objs.size
 noex:∀b o,X.base.get? b=some o->b∉X.ex
 exfs:∀b∈X.ex,b∉X.fs
 funs:X.s₀.heap.FunFrames X.base X.outer
 frf:∀b∈X.fs,X.H₀ b=none
structure Inv (X:Cx) (pins:List (Addr×Obj)) (σ:List (Option V)) (H:Hp) (s:Shared):Prop where
 ok:X.Ok
 os:s.os=X.s₀.os
 bare:AllBare s.gens
 base:Un X.fs X.ex X.H₀ H X.s₀.heap s.heap
 loc:∃m,s.heap.Ns X.env.locals m/\∀(i:Nat) (x:Str) (v:V),X.N[i]? = some x->σ[i]? = some (some v)->Vis X.env.scope x->∃u,ZO v u/\Z1I X.env s.heap m x u
 cell:∀x c,X.env.cells.lookup x=some c->∃v,s.heap.IsCell c v
 free:H X.env.locals=none
 freeC:∀x c,X.env.cells.lookup x=some c->H c=none
 pin:∀p∈X.pn++pins,s.heap.get? p.1=some p.2/\H p.1=none/\p.1≠X.env.locals/\p.1∉X.fs/\∀v,p.2.data≠.cell v
 hok:HOk X.prog X.w H s.heap
 len:σ.length=X.N.length
section
variable {X:Cx} {pins:List (Addr×Obj)} {σ:List (Option V)} {H H':Hp} {s:Shared} {h':Heap}
theorem Cx.Ok.nofr (ok:X.Ok){b:Addr}{o:Obj}(e:X.base.get? b=some o):b∉X.fs:=λhb=>by
 have:=(ok.funs.mem hb).1
 rw [e] at this;cases this
theorem Inv.bs (I:Inv X pins σ H s):∀b o,X.base.get? b=some o->s.heap.get? b=some o/\H b=none:=λb o e=>
 ⟨I.base.keep b o (I.ok.bs b o e).1 (I.ok.bs b o e).2 (I.ok.nofr e) (I.ok.noex b o e),I.base.free b o (I.ok.bs b o e).1 (I.ok.bs b o e).2 (I.ok.noex b o e)⟩
theorem Inv.bk (I:Inv X pins σ H s):∀b o,X.base.get? b=some o->s.heap.get? b=some o:=λb o e=>(I.bs b o e).1
theorem Inv.mod (I:Inv X pins σ H s):Mod X.K X.mg X.base:=I.ok.mod
theorem Inv.kIn (I:Inv X pins σ H s):X.K.In s.heap:=I.ok.mod.kin.keeps I.bk
theorem Inv.lt (I:Inv X pins σ H s):X.env.locals<s.heap.objs.size:=let ⟨_,hn,_⟩:=I.loc;hn.lt
theorem Inv.sz (I:Inv X pins σ H s):X.s₀.heap.objs.size<=s.heap.objs.size:=VA I.ok.above (Nat.le_of_lt I.lt)
theorem Inv.nofs (I:Inv X pins σ H s){a:Addr}(h:s.heap.objs.size<=a):a∉X.fs:=λhb=>by
 obtain⟨_,o,ho,_⟩:=I.ok.funs.mem hb
 exact absurd (WJ (Wz ho) (VA I.sz h)) (Vy _)
theorem Inv.cne (I:Inv X pins σ H s):∀x c,X.env.cells.lookup x=some c->c≠X.env.locals:=λx c e z=>by
 obtain⟨v,o,ho,hd⟩:=I.cell x c e
 obtain⟨m,⟨o',es,ep,ho',hd',_⟩,_⟩:=I.loc
 rw [z,ho'] at ho;cases ho;rw [hd'] at hd;cases hd
theorem Inv.funs (I:Inv X pins σ H s):s.heap.FunFrames X.base X.outer:=by
 have all:∀(l:List Env),(∀b∈frs l,b∈X.fs)->X.s₀.heap.FunFrames X.base l->s.heap.FunFrames X.base l:=by
  intro l
  induction l with
  |nil=>intro _ _;trivial
  |cons env r ih=>
   intro hs hl;obtain⟨hk,⟨L,o,hf,hn,ho,hd⟩,hr⟩:=hl
   have hL:L∈X.fs:=hs L (by unfold frs;rw [VV,hf];exact Wv)
   obtain⟨sl,e⟩:=I.base.slot L o ho (I.ok.frf L hL) hL λz=>I.ok.exfs L z hL
   exact⟨hk,⟨L,_,hf,hn,e,hd⟩,ih (λb hb=>hs b (by unfold frs;rw [VV,hf];exact Wu _ hb)) hr⟩
 exact all X.outer (λ_ hb=>hb) I.ok.funs
theorem Inv.stack (I:Inv X pins σ H s):s.heap.FunFrames X.base X.stack:=by
 rcases I.ok.stk with e|⟨e,hf⟩
 ·rw [e];exact I.funs
 ·rw [e]
  obtain⟨m,hn,_⟩:=I.loc
  refine .cons (by rw [I.ok.kind];decide) hf hn ?_ I.funs
  exact Heap.get?_none_of_le (VA I.ok.bsz I.ok.above)
theorem Inv.stkSub (I:Inv X pins σ H s):∀b∈frs X.stack,b∈X.env.locals :: X.fs:=λb hb=>by
 rcases I.ok.stk with e|⟨e,hf⟩
 ·rw [e] at hb;exact Wu _ hb
 ·rw [e] at hb
  unfold frs at hb;rw [VV,hf] at hb;exact hb
theorem Inv.stkFree (I:Inv X pins σ H s):∀b∈frs X.stack,H b=none:=λb hb=>by
 rcases Wr.mp (I.stkSub b hb) with e|hb
 ·rw [e];exact I.free
 ·obtain⟨_,o,ho,_⟩:=I.ok.funs.mem hb
  exact I.base.free b o ho (I.ok.frf b hb) λz=>I.ok.exfs b z hb
theorem Inv.step {g':Array GenState}{t':Nat}{d':Drawn}{ch:List Addr}(I:Inv X pins σ H s)
  (hch:∀b∈ch,(b∈X.ex\/X.s₀.heap.objs.size<=b)/\b≠X.env.locals/\(∀x c,X.env.cells.lookup x=some c->c≠b)/\∀p∈X.pn++pins,p.1≠b)
  (keep:∀b o,b≠X.env.locals->b∉X.fs->b∉ch->s.heap.get? b=some o->H b=none->h'.get? b=some o)
  (slot:∀b o,b≠X.env.locals->b∈X.fs->b∉ch->s.heap.get? b=some o->H b=none->∃sl,h'.get? b=some { o with slots:=sl }) (free:∀b o,b∉ch->s.heap.get? b=some o->H b=none->H' b=none)
  (there:∀b o,b∉ch->s.heap.get? b=some o->∃o',h'.get? b=some o')
  (tups:∀b xs,H b=some (.tup xs)->H' b=some (.tup xs)) (frzs:∀b o u,H b=some (.frz o u)->H' b=some (.frz o u)) (tbls:∀b ps,H b=some (.tbl ps)->∃more,H' b=some (.tbl (ps++more)))
  (ns:∀m,s.heap.Ns X.env.locals m->h'.Ns X.env.locals m) (hok:HOk X.prog X.w H' h') (hg:AllBare g') :
  Inv X pins σ H' { s with heap:=h',gens:=g',drawn:=d',toks:=t' }:=by
 have neL:∀b o,X.s₀.heap.get? b=some o->b≠X.env.locals:=λb o e=>WT (WJ (Wz e) I.ok.above)
 have neC:∀b o,X.s₀.heap.get? b=some o->b∉X.ex->b∉ch:=λb o e hx hb=>by
  rcases (hch b hb).1 with z|z
  ·exact hx z
  ·exact absurd (WJ (Wz e) z) (Vy _)
 have cellK:∀x c,X.env.cells.lookup x=some c->∀v,s.heap.IsCell c v->h'.IsCell c v:=λx c e v ⟨o,ho,hd⟩=>by
  have nch:c∉ch:=λz=>(hch c z).2.2.1 x c e rfl
  by_cases hc:c∈X.fs
  ·obtain⟨sl,q⟩:=slot c o (I.cne x c e) hc nch ho (I.freeC x c e)
   exact⟨_,q,hd⟩
  ·exact⟨o,keep c o (I.cne x c e) hc nch ho (I.freeC x c e),hd⟩
 refine⟨I.ok,I.os,hg,⟨λb o e n hb hx=>?_,λb o e n hb hx=>?_,λb o e n hx=>?_,λb o e hx=>?_,λb xs e=>tups b xs (I.base.tups b xs e),λb o xs e=>frzs b o xs (I.base.frzs b o xs e),λb ps e=>?_⟩,?_,λx c e=>?_,?_,λx c e=>?_,λp hp=>?_,hok,I.len⟩
 ·exact keep b o (neL b o e) hb (neC b o e hx) (I.base.keep b o e n hb hx) (I.base.free b o e n hx)
 ·obtain⟨sl,e1⟩:=I.base.slot b o e n hb hx
  obtain⟨sl',e2⟩:=slot b _ (neL b o e) hb (neC b o e hx) e1 (I.base.free b o e n hx)
  exact⟨sl',e2⟩
 ·obtain⟨o',e1⟩:=I.base.there b o e hx
  exact free b o' (neC b o e hx) e1 (I.base.free b o e n hx)
 ·obtain⟨o',e1⟩:=I.base.there b o e hx
  exact there b o' (neC b o e hx) e1
 ·obtain⟨m1,e1⟩:=I.base.tbls b ps e
  obtain⟨m2,e2⟩:=tbls b _ e1
  exact⟨m1++m2,by rw [e2,Array.append_assoc]⟩
 ·obtain⟨m,hn,hl⟩:=I.loc
  refine⟨m,ns m hn,λi x v e1 e2 e3=>?_⟩
  obtain⟨u,r,l⟩:=hl i x v e1 e2 e3
  refine⟨u,r,?_⟩
  rcases l with l|⟨k,c,e,z⟩
  ·exact .inl l
  ·exact .inr ⟨k,c,e,cellK x c e _ z⟩
 ·obtain⟨v,z⟩:=I.cell x c e
  exact⟨v,cellK x c e v z⟩
 ·obtain⟨m,⟨o,_,_,ho,_⟩,_⟩:=I.loc
  exact free _ o (λz=>(hch _ z).2.1 rfl) ho I.free
 ·obtain⟨v,o,ho,hd⟩:=I.cell x c e
  exact free c o (λz=>(hch c z).2.2.1 x c e rfl) ho (I.freeC x c e)
 ·obtain⟨e,n,ne,nf,d⟩:=I.pin p hp
  have nch:p.1∉ch:=λz=>(hch p.1 z).2.2.2 p hp rfl
  exact⟨keep p.1 p.2 ne nf nch e n,free p.1 p.2 nch e n,ne,nf,d⟩
theorem Inv.un {t':Nat}(I:Inv X pins σ H s)(u:Un X.fs [] H H' s.heap h')(hok:HOk X.prog X.w H' h'):Inv X pins σ H' { s with heap:=h',toks:=t' }:=by
 obtain⟨m,⟨o,es,ep,ho,r⟩,_⟩:=id I.loc
 obtain⟨sl,hL⟩:=u.any ho I.free (by simp)
 exact I.step (g':=s.gens) (d':=s.drawn) (ch:=[]) (λ_ z=>nomatch z) (λb o _ hb _ e n=>u.keep b o e n hb (by simp)) (λb o _ hb _ e n=>u.slot b o e n hb (by simp)) (λb o _ e n=>u.free b o e n (by simp)) (λb o _ e=>u.there b o e (by simp)) u.tups u.frzs u.tbls (λm' hm=>by
  obtain⟨o',es',ep',ho',r'⟩:=hm
  rw [ho] at ho';cases ho'
  exact⟨_,es',ep',hL,r'⟩) hok I.bare
theorem Inv.call {g':Array GenState}{t':Nat}{d':Drawn}{ch:List Addr}(I:Inv X pins σ H s)(u:Un (frs X.stack) ch H H' s.heap h')(hok:HOk X.prog X.w H' h')(hg:AllBare g')
  (hch:∀b∈ch,(b∈X.ex\/X.s₀.heap.objs.size<=b)/\b≠X.env.locals/\(∀x c,X.env.cells.lookup x=some c->c≠b)/\∀p∈X.pn++pins,p.1≠b) :
  Inv X pins σ H' { s with heap:=h',gens:=g',drawn:=d',toks:=t' }:=by
 obtain⟨m,⟨o,es,ep,ho,r⟩,_⟩:=id I.loc
 obtain⟨sl,hL⟩:=u.any ho I.free λz=>(hch _ z).2.1 rfl
 exact I.step (ch:=ch) hch (λb o hL hb hc e n=>u.keep b o e n (λz=>(Wr.mp (I.stkSub b z)).elim hL hb) hc) (λb o _ _ hc e n=>u.any e n hc) (λb o hc e n=>u.free b o e n hc) (λb o hc e=>u.there b o e hc) u.tups u.frzs u.tbls (λm' hm=>by
  obtain⟨o',es',ep',ho',r'⟩:=hm
  rw [ho] at ho';cases ho'
  exact⟨_,es',ep',hL,r'⟩) hok hg
theorem Inv.turned {t':Nat}{it:Addr}(I:Inv X pins σ H s)(k:∀b o,b≠it->s.heap.get? b=some o->h'.get? b=some o)(hn:H it=none)(hL:it≠X.env.locals)
  (h1:it∈X.ex\/X.s₀.heap.objs.size<=it) (h2:∀x c,X.env.cells.lookup x=some c->c≠it) (h3:∀p∈X.pn++pins,p.1≠it):Inv X pins σ H { s with heap:=h',toks:=t' }:=by
 have nit:∀b u,H b=some u->b≠it:=λb u e z=>by rw [z,hn] at e;cases e
 refine I.step (g':=s.gens) (d':=s.drawn) (ch:=[it]) (λb hb=>?_) (λb o _ _ hc e _=>k b o (λz=>hc (by simp [z])) e) (λb o _ _ hc e _=>⟨o.slots,k b o (λz=>hc (by simp [z])) e⟩) (λ_ _ _ _ n=>n)
  (λb o hc e=>⟨o,k b o (λz=>hc (by simp [z])) e⟩) (λ_ _ e=>e) (λ_ _ _ e=>e) (λb ps e=>⟨#[],by rw [e];simp⟩) (λm hm=>?_) (λb u e=>?_) I.bare
 ·have e:b=it:=by simpa using hb
  subst e;exact⟨h1,hL,h2,h3⟩
 ·obtain⟨o,es,ep,ho,r⟩:=hm
  exact⟨o,es,ep,k _ o (Ne.symm hL) ho,r⟩
 ·refine (I.hok b u e).stay (λc v hc q=>k c v ?_ q) (λ_ q=>q) λ_ _ q=>q
  rcases hc with z|z
  ·rw [z];exact nit b u e
  ·exact nit c _ z
theorem Inv.tok (I:Inv X pins σ H s)(t:Nat):Inv X pins σ H { s with toks:=t }:=I.un (h':=s.heap) (t':=t) Un.refl I.hok
theorem Inv.kept {t':Nat}(I:Inv X pins σ H s)(k:∀b u,s.heap.get? b=some u->h'.get? b=some u):Inv X pins σ H { s with heap:=h',toks:=t' }:=I.un (Un.kept k) (I.hok.kept k)
theorem Inv.laid {a:Addr}{o:HO}{t':Nat}(I:Inv X pins σ H s)(k:∀b u,s.heap.get? b=some u->h'.get? b=some u)(hp:s.heap.objs.size<=a)(new:ZK X.prog X.w (upd H a o) h' a o) :
  Inv X pins σ (upd H a o) { s with heap:=h',toks:=t' }:=I.un (Un.laid k hp (I.hok.fresh hp)) (I.hok.laid k hp new)
theorem Inv.write {x e:Addr}{o:HO}{t':Nat}(I:Inv X pins σ H s)(mu:Mut (H x))(he:e=x\/H e=some (.own x))(k:∀b u,b≠e->s.heap.get? b=some u->h'.get? b=some u)(heo:∃u,h'.get? e=some u)
  (new:ZK X.prog X.w (upd H x o) h' x o):Inv X pins σ (upd H x o) { s with heap:=h',toks:=t' }:=I.un (Un.write mu he k heo) (I.hok.write mu he k heo new)
theorem Inv.weak {σ':List (Option V)}(I:Inv X pins σ H s)(hl:σ'.length=σ.length)(w:∀(i:Nat) v,σ'[i]? = some (some v)->σ[i]? = some (some v)):Inv X pins σ' H s:=
 ⟨I.ok,I.os,I.bare,I.base,let ⟨m,hn,hl'⟩:=I.loc;⟨m,hn,λi x v e1 e2 e3=>hl' i x v e1 (w i v e2) e3⟩,I.cell,I.free,I.freeC,I.pin,I.hok,hl.trans I.len⟩
theorem Inv.pins_of {pins':List (Addr×Obj)}(I:Inv X pins σ H s)(h:∀p∈pins',s.heap.get? p.1=some p.2/\H p.1=none/\p.1≠X.env.locals/\p.1∉X.fs/\∀v,p.2.data≠.cell v):Inv X pins' σ H s:=
 ⟨I.ok,I.os,I.bare,I.base,I.loc,I.cell,I.free,I.freeC,λp hp=>(W0p.mp hp).elim (λz=>I.pin p (Vx _ z)) (h p),I.hok,I.len⟩
theorem Gi {N:List Str}(hN:N.Nodup){i j:Nat}{x:Str}(a:N[i]? = some x)(b:N[j]? = some x):i=j:=by
 obtain⟨h1,e1⟩:=Wj.mp a
 obtain⟨h2,e2⟩:=Wj.mp b
 exact (List.getElem_inj hN).mp (e1.trans e2.symm)
theorem KJ {M:Model}{A:Around}{E:Value->Shared->Prop}{i:Nat}{x:Str}{v:V}{u:Value}{Q:Unit->Shared->Prop}(I:Inv X pins σ H s)(hN:X.N.Nodup)(hi:X.N[i]? = some x)(hx:Loc X.env.scope x)(r:ZO v u)
  (h:∀s',Inv X pins (σ.set i (some v)) H s'->(∃a,W02 a s.heap s'.heap/\(a=X.env.locals\/X.env.cells.lookup x=some a))->Q () s') (hf:X.fn x=true\/X.env.scope.names.lookup x=some .local:=by first|exact .inl rfl|exact .inr rfl|assumption):wpAny M A (storeName X.env x u) Q E s:=by
 obtain⟨m,hn,hl⟩:=id I.loc
 have hcls:(X.env.scope.kind == .class||(X.env.scope.kind == .module&&X.env.locals != X.env.globals))=false:=by rw [I.ok.kind];rfl
 have hiσ:i<σ.length:=by rw [I.len];exact (Wj.mp hi).1
 have cne:=I.cne
 have tracked:∀{a:Addr} {h':Heap},(∃o,s.heap.get? a=some o/\H a=none)->W02 a s.heap h'->HOk X.prog X.w H h':=λ{a h'} ha hs b ob e=>by
  obtain⟨_,_,hfree⟩:=ha
  refine (I.hok b ob e).stay (λc w' hc q=>(hs.2 c ?_).trans q) (λ_ q=>q) λ_ _ q=>q
  rintro rfl
  rcases hc with rfl|hc
  ·rw [hfree] at e;cases e
  ·rw [hfree] at hc;cases hc
 rcases hx with hk|hk
 ·refine wpAny_storeName_local hk hn (λh' hn' hs=>?_) hcls
  obtain⟨oL,_,_,hoL,_⟩:=id hn
  refine h _ ⟨I.ok,I.os,I.bare,⟨λb o e n hb hx=>?_,λb o e n hb hx=>?_,I.base.free,λb o e hx=>?_,I.base.tups,I.base.frzs,I.base.tbls⟩,⟨_,hn',λj y v' e1 e2 e3=>?_⟩,λy c e=>?_,I.free,I.freeC,λp hp=>?_,tracked ⟨oL,hoL,I.free⟩ hs,by simpa using I.len⟩ ⟨_,hs,.inl rfl⟩
  ·exact (hs.2 b (WT (WJ (Wz e) I.ok.above))).trans (I.base.keep b o e n hb hx)
  ·obtain⟨sl,e1⟩:=I.base.slot b o e n hb hx
   exact⟨sl,(hs.2 b (WT (WJ (Wz e) I.ok.above))).trans e1⟩
  ·obtain⟨o',e1⟩:=I.base.there b o e hx
   exact⟨o',(hs.2 b (WT (WJ (Wz e) I.ok.above))).trans e1⟩
  ·by_cases hj:j=i
   ·subst hj
    rw [hi] at e1;cases e1
    rw [V6 hiσ] at e2;cases e2;exact⟨u,r,.inl ⟨hk,by simp⟩⟩
   ·rw [WV (Ne.symm hj)] at e2
    obtain⟨u',r',q⟩:=hl j y v' e1 e2 e3
    refine⟨u',r',?_⟩
    rcases q with ⟨k,e⟩|⟨k,c,e,z⟩
    ·refine .inl ⟨k,?_⟩
     have:y≠x:=λe=>hj (Gi hN e1 (e ▸ hi))
     simp [this,e]
    ·exact .inr ⟨k,c,e,z.sameBut hs (cne y c e)⟩
  ·obtain⟨w',z⟩:=I.cell y c e
   exact⟨w',z.sameBut hs (cne y c e)⟩
  ·obtain⟨e,n,ne,nf,d⟩:=I.pin p hp
   exact⟨(hs.2 p.1 ne).trans e,n,ne,nf,d⟩
 ·have hfn:X.fn x=true:=by
   rcases hf with z|z
   ·exact z
   ·rw [z] at hk;cases hk
  obtain⟨c,hc⟩:=I.ok.has x (.inl hk)
  obtain⟨w',z⟩:=I.cell x c hc
  refine wpAny_storeName_cell I.ok.kind hk hc z (λh' hc' hs=>?_)
  obtain⟨oc,hoc,hocd⟩:=id z
  refine h { s with heap:=h' } ⟨I.ok,I.os,I.bare,⟨λb o e n hb hx=>?_,λb o e n hb hx=>?_,I.base.free,λb o e hx=>?_,I.base.tups,I.base.frzs,I.base.tbls⟩,⟨m,hn.sameBut hs (Ne.symm (cne x c hc)),λj y v' e1 e2 e3=>?_⟩,λy c' e=>?_,I.free,I.freeC,λp hp=>?_,tracked ⟨oc,hoc,I.freeC x c hc⟩ hs,by simpa using I.len⟩ ⟨c,hs,.inr hc⟩
  ·exact (hs.2 b (WT (WJ (Wz e) (I.ok.cab x c hfn hc)))).trans (I.base.keep b o e n hb hx)
  ·obtain⟨sl,e1⟩:=I.base.slot b o e n hb hx
   exact⟨sl,(hs.2 b (WT (WJ (Wz e) (I.ok.cab x c hfn hc)))).trans e1⟩
  ·obtain⟨o',e1⟩:=I.base.there b o e hx
   exact⟨o',(hs.2 b (WT (WJ (Wz e) (I.ok.cab x c hfn hc)))).trans e1⟩
  ·by_cases hj:j=i
   ·subst hj
    rw [hi] at e1;cases e1
    rw [V6 hiσ] at e2;cases e2;exact⟨u,r,.inr ⟨.inl hk,c,hc,hc'⟩⟩
   ·rw [WV (Ne.symm hj)] at e2
    obtain⟨u',r',q⟩:=hl j y v' e1 e2 e3
    refine⟨u',r',?_⟩
    rcases q with q|⟨k,c',e,z'⟩
    ·exact .inl q
    ·refine .inr ⟨k,c',e,z'.sameBut hs ?_⟩
     rintro rfl
     exact hj (Gi hN e1 (I.ok.inj _ _ _ e hc ▸ hi))
  ·by_cases hcc:c'=c
   ·subst hcc;exact⟨_,hc'⟩
   ·obtain⟨w2,z2⟩:=I.cell y c' e
    exact⟨w2,z2.sameBut hs hcc⟩
  ·obtain⟨e,n,ne,nf,d⟩:=I.pin p hp
   refine⟨(hs.2 p.1 ?_).trans e,n,ne,nf,d⟩
   intro q;rw [q,hoc] at e;have q':oc=p.2:=WO e
   exact d w' (by rw [<-q'];exact hocd)
theorem TV {M:Model}{A:Around}{E:Value->Shared->Prop}{i:Nat}{x:Str}{v:V}{u:Value}{Q:Unit->Shared->Prop}(I:Inv X pins σ H s)(hN:X.N.Nodup)(hi:X.N[i]? = some x)(hx:Loc X.env.scope x)(r:ZO v u)
  (h:∀s',Inv X pins (σ.set i (some v)) H s'->Q () s') (hf:X.fn x=true\/X.env.scope.names.lookup x=some .local:=by first|exact .inl rfl|exact .inr rfl|assumption):wpAny M A (storeName X.env x u) Q E s:=
 KJ I hN hi hx r (λs' I' _=>h s' I') hf
theorem Inv.call' {s':Shared}{ch:List Addr}(I:Inv X pins σ H s)(ho:s'.os=s.os)(u:Un (frs X.stack) ch H H' s.heap s'.heap)(hok:HOk X.prog X.w H' s'.heap)(hg:AllBare s'.gens)
  (hch:∀b∈ch,(b∈X.ex\/X.s₀.heap.objs.size<=b)/\b≠X.env.locals/\(∀x c,X.env.cells.lookup x=some c->c≠b)/\∀p∈X.pn++pins,p.1≠b):Inv X pins σ H' s':=by
 obtain⟨h',g',d',t',o'⟩:=s'
 have e:o'=s.os:=ho
 subst e;exact I.call (g':=g') (t':=t') (d':=d') u hok hg hch
end
abbrev XK:=Value->Option Addr->Hp->Prop
abbrev St:=List (Option V)
abbrev VK:=V->Hp->Prop
abbrev TE:=St->Hp->VK->Prop
abbrev TT:=St->Hp->(Bool->Hp->Prop)->Prop
abbrev TA:=St->Hp->(List V->Hp->Prop)->Prop
structure Ends where
 nx:St->Hp->Prop
 rt:VK
 bk:St->Hp->Prop:=λ_ _=>False
 ct:St->Hp->Prop:=λ_ _=>False
abbrev TS:=Ends->St->Hp->Prop
def EP (X:Cx)(pins:List (Addr×Obj))(σ:St)(Q:VK)(u:Value)(s':Shared):Prop:=∃v H',Inv X pins σ H' s'/\ZO v u/\Q v H'
def TP (X:Cx)(pins:List (Addr×Obj))(σ:St)(Q:Bool->Hp->Prop)(b:Bool)(s':Shared):Prop:=∃H',Inv X pins σ H' s'/\Q b H'
def AP (X:Cx)(pins:List (Addr×Obj))(σ:St)(Q:List V->Hp->Prop)(us:List Value)(s':Shared):Prop:=∃vs H',Inv X pins σ H' s'/\Y4 vs us/\Q vs H'
def SP (X:Cx)(pins:List (Addr×Obj))(D:Ends)(f:Flow)(s':Shared):Prop:=
 match f with
 | .next=>∃σ' H',Inv X pins σ' H' s'/\D.nx σ' H'
 | .brk=>∃σ' H',Inv X pins σ' H' s'/\D.bk σ' H'
 | .cont=>∃σ' H',Inv X pins σ' H' s'/\D.ct σ' H'
 | .ret u=>∃v σ' H',Inv X pins σ' H' s'/\ZO v u/\D.rt v H'
def PE (X:Cx)(e:Expr)(t:TE):Prop:=
 ∀(pins:List (Addr×Obj)) (s:Shared) (σ:St) (H:Hp) (Q:VK),Inv X pins σ H s->t σ H Q->wpAny (model X.prog X.w) X.A (eval e X.env) (EP X pins σ Q) X.xe s
def PT (X:Cx)(e:Expr)(t:TT):Prop:=
 ∀(pins:List (Addr×Obj)) (s:Shared) (σ:St) (H:Hp) (Q:Bool->Hp->Prop),Inv X pins σ H s->t σ H Q->wpAny (model X.prog X.w) X.A (isTrue e X.env (eval e X.env)) (TP X pins σ Q) X.xe s
def PW (X:Cx)(e:Expr)(t:TT):Prop:=
 ∀(whole:Sem Value) (pins:List (Addr×Obj)) (s:Shared) (σ:St) (H:Hp) (Q:Bool->Hp->Prop),Inv X pins σ H s->t σ H Q->wpAny (model X.prog X.w) X.A (isTrue e X.env whole) (TP X pins σ Q) X.xe s
theorem PW.pt {X:Cx}{e:Expr}{t:TT}(h:PW X e t):PT X e t:=h _
def PA (X:Cx)(es:List Expr)(t:TA):Prop:=
 ∀(pos:Pos) (pins:List (Addr×Obj)) (s:Shared) (σ:St) (H:Hp) (Q:List V->Hp->Prop),Inv X pins σ H s->t σ H Q->wpAny (model X.prog X.w) X.A (spliced (backTo pos (Wo es X.env))) (AP X pins σ Q) X.xe s
def PS (X:Cx)(st:Stmt)(t:TS):Prop:=
 ∀(pins:List (Addr×Obj)) (s:Shared) (σ:St) (H:Hp) (D:Ends),Inv X pins σ H s->t D σ H->wpAny (model X.prog X.w) X.A (exec st X.env) (SP X pins D) X.xe s
def PSs (X:Cx)(st:List Stmt)(t:TS):Prop:=
 ∀(pins:List (Addr×Obj)) (s:Shared) (σ:St) (H:Hp) (D:Ends),Inv X pins σ H s->t D σ H->wpAny (model X.prog X.w) X.A (execs st X.env) (SP X pins D) X.xe s
theorem thn {α:Type}{t:Sem α}{Q Q':α->Shared->Prop}{M:Model}{A:Around}{E:Value->Shared->Prop}{s:Shared}(h:wpAny M A t Q E s)(hQ:∀a s,Q a s->Q' a s):wpAny M A t Q' E s:=V1 h hQ λ_ _ x=>x
end L2
namespace L2
open PySem PySem.Spec PyProof.Rows
section
variable {X:Cx}
def Z0g (i:Nat):TE:=λσ H Q=>∃v,σ[i]? = some (some v)/\Q v H
def tC (v:V):TE:=λ_ H Q=>Q v H
theorem A2 {i:Nat}{x:Str}{pos:Pos}(hN:X.N[i]? = some x)(hv:Vis X.env.scope x)(hd:(x == ("__debug__" : Str))=false:=by decide)(hcd:(x == ("__classdict__" : Str))=false:=by decide):PE X (.Name x pos) (Z0g i):=by
 intro pins s σ H Q I h;obtain⟨v,e,h⟩:=h
 obtain⟨m,hn,hl⟩:=I.loc
 obtain⟨u,r,l⟩:=hl i x v hN e hv
 have fin:EP X pins σ Q u s:=⟨v,H,I,r,h⟩
 rcases l with ⟨hk,hm⟩|⟨hk,c,hc,hcell⟩
 ·exact wpAny_Name (wpAny_loadName_local I.ok.kind hk hn hm fin) hd
 ·rcases hk with hk|hk
  ·exact wpAny_Name (wpAny_loadName_cell I.ok.kind hk hc hcell fin) hd
  ·exact wpAny_Name (wpAny_loadName_free I.ok.kind hk hc hcell fin hcd) hd
theorem A3 {i j pos}:PE X (.Constant (.int i) j pos) (tC (.int i)):=λ_ _ _ H _ I h=>wpAny_Constant_int ⟨.int i,H,I.tok _,⟨_,rfl⟩,h⟩
theorem Xx {b j pos}:PE X (.Constant (.bool b) j pos) (tC (.bl b)):=λ_ _ _ H _ I h=>Constant_bool ⟨.bl b,H,I,rfl,h⟩
theorem Iw {j pos}:PE X (.Constant .none j pos) (tC .non):=λ_ _ _ H _ I h=>Constant_none ⟨.non,H,I,rfl,h⟩
theorem Iu {x j pos}:PE X (.Constant (.str x) j pos) (tC (.str x)):=λ_ _ _ H _ I h=>Calls.Constant_str ⟨.str x,H,I.tok _,⟨_,rfl⟩,h⟩
def Gl (X:Cx)(x:Str):Prop:=X.env.kindOf x=some .globalImplicit
theorem Jn {E:Value->Shared->Prop}{pins:List (Addr×Obj)}{s:Shared}{σ:St}{H:Hp}{x:Str}{u:Value}{pos:Pos}{Q:Value->Shared->Prop}(I:Inv X pins σ H s)(hg:Gl X x)(hm:X.mg x=some u)(h:Q u s)
  (hd:(x == ("__debug__" : Str))=false:=by decide):wpAny (model X.prog X.w) X.A (eval (.Name x pos) X.env) Q E s:=
 W18 I.ok.kind hg (Calls.loadGlobal_global (by rw [I.ok.glob];exact I.mod.glob.keeps I.bk) hm h) hd
theorem JE {E:Value->Shared->Prop}{pins:List (Addr×Obj)}{s:Shared}{σ:St}{H:Hp}{x:Str}{u:Value}{pos:Pos}{Q:Value->Shared->Prop}(I:Inv X pins σ H s)(hg:Gl X x)(hm:X.mg x=none)(hv:WI x=some u)(h:Q u s)
  (hn:x≠"__name__":=by decide) (hd:(x == ("__debug__" : Str))=false:=by decide):wpAny (model X.prog X.w) X.A (eval (.Name x pos) X.env) Q E s:=by
 obtain⟨mb,h1,h2⟩:=I.mod.blt
 exact W18 I.ok.kind hg (Calls.loadGlobal_builtin (by rw [I.ok.glob];exact I.mod.glob.keeps I.bk) hm (by rw [I.ok.blt];exact h1.keeps I.bk) ((h2 x hn).trans hv) h) hd
theorem CD {x:Str}{v:V}{u:Value}{pos:Pos}(hg:Gl X x)(hm:X.mg x=some u)(r:ZO v u)(hd:(x == ("__debug__" : Str))=false:=by decide):PE X (.Name x pos) (tC v):=
 λ_ _ _ H _ I h=>Jn I hg hm ⟨v,H,I,r,h⟩ hd
theorem Nd {x:Str}{v:V}{u:Value}{pos:Pos}(hg:Gl X x)(hm:X.mg x=none)(hv:WI x=some u)(r:ZO v u)(hn:x≠"__name__":=by decide)(hd:(x == ("__debug__" : Str))=false:=by decide):PE X (.Name x pos) (tC v):=
 λ_ _ _ H _ I h=>JE I hg hm hv ⟨v,H,I,r,h⟩ hn hd
variable {a b:Expr} {ta tb:TE} {pos:Pos}
variable {tA tB':TT} {Jt:List Expr}
def tOr (t u:TT):TT:=λσ H Q=>t σ H λc H1=>if c=true then Q true H1 else u σ H1 Q
def Z0Z (t:TT):TT:=λσ H Q=>t σ H λc H1=>Q (!c) H1
theorem Ie (ha:PT X a tA):PW X (.BoolOp .Or [a] pos) tA:=by
 intro wh pins s σ H Q I h;refine isTrue_or (thn (ha pins s σ H Q I h) λc s1 e=>?_)
 cases c with
 |false=>exact isTrue_or_nil e
 |true=>exact e
theorem Xs (ha:PT X a tA)(hb:PW X (.BoolOp .Or (b :: Jt) pos) tB'):PW X (.BoolOp .Or (a :: b :: Jt) pos) (tOr tA tB'):=by
 intro wh pins s σ H Q I h;refine isTrue_or (thn (ha pins s σ H _ I h) λc s1 ⟨H1,I1,q1⟩=>?_)
 cases c with
 |true=>exact⟨H1,I1,q1⟩
 |false=>exact hb wh pins s1 σ H1 Q I1 q1
theorem Ii (ha:PT X a tA):PT X (.UnaryOp .Not a pos) (Z0Z tA):=by
 intro pins s σ H Q I h;exact isTrue_not (ha pins s σ H (λc H1=>Q (!c) H1) I h)
theorem Iv {op}{t:TE}(h:PE X a t):PE X (.BoolOp op [a] pos) t:=λpins s σ H Q I hw=>BoolOp_one (h pins s σ H Q I hw)
end
end L2
namespace L2
open PySem PySem.Spec PyProof.Rows
def SqL (K:W4)(H:Hp)(a:Addr)(xs:List V):Prop:=
 Rd H a (.lst xs)\/
  ∃(o:Obj) (its:Array Value) (n:Nat),K.lookup a=some o/\o.cls = .type "list"/\o.dict=none/\o.data = .seq its n/\its.size<=Wd/\Y4 xs its.toList
def SqT (K:W4)(H:Hp)(a:Addr)(xs:List V):Prop:=
 Rd H a (.tup xs)\/
  ∃(o:Obj) (its:Array Value) (n:Nat),K.lookup a=some o/\o.cls = .type "tuple"/\o.data = .seq its n/\its.size<=Wd/\Y4 xs its.toList
def Z1H:Value->Option V
 | .none=>some .non
 | .bool b=>some (.bl b)
 | .int i _=>some (.int i)
 | .str x _=>some (.str x)
 | .bytes b _=>some (.byt b)
 | .float b _=>some (.flt b)
 | .ref a=>some (.ref a)
 | .type n=>some (.ty n)
 |_=>none
theorem ZO.abs {x:V}{u:Value}(r:ZO x u):Z1H u=some x:=by
 cases x with
 |non=>cases r;rfl
 |bl _=>cases r;rfl
 |int _=>obtain⟨t,rfl⟩:=r;rfl
 |str _=>obtain⟨t,rfl⟩:=r;rfl
 |byt _=>obtain⟨t,rfl⟩:=r;rfl
 |flt _=>obtain⟨t,rfl⟩:=r;rfl
 |ref _=>cases r;rfl
 |ty _=>cases r;rfl
theorem ZO.inj {x y:V}{u:Value}(r:ZO x u)(q:ZO y u):x=y:=WO (r.abs.symm.trans q.abs)
theorem Y4.inj:∀{xs ys:List V} {us:List Value},Y4 xs us->Y4 ys us->xs=ys
 |_,_,_,.nil,.nil=>rfl
 |_,_,_,.cons r t,.cons r' t'=>by rw [r.inj r',Y4.inj t t']
section
variable {X:Cx} {pins:List (Addr×Obj)} {σ:St} {H:Hp} {s:Shared} {a:Addr} {xs ys:List V}
theorem SqL.of {K:W4}(h:H a=some (.lst xs)):SqL K H a xs:=.inl (.inl h)
theorem SqT.of {K:W4}(h:H a=some (.tup xs)):SqT K H a xs:=.inl (.inl h)
theorem Inv.list (I:Inv X pins σ H s)(h:SqL X.K H a xs):∃its:List Value,Y4 xs its/\PlainL s.heap a its.toArray/\xs.length<=Wd:=by
 rcases h with h|⟨o,its,n,hk,hc,hd,hs,hz,r⟩
 ·obtain⟨z,its,n,r,e⟩:=h.ok I.hok
  exact⟨its,r,⟨_,n,e,rfl,rfl,rfl⟩,z⟩
 ·refine⟨its.toList,r,⟨o,n,I.kIn a o hk,hc,hd,by simpa using hs⟩,?_⟩
  have e:=r.length
  simp only [W0j] at e
  omega
theorem Inv.tuple (I:Inv X pins σ H s)(h:SqT X.K H a xs):∃its:List Value,Y4 xs its/\IsTup s.heap a its.toArray/\xs.length<=Wd:=by
 rcases h with h|⟨o,its,n,hk,hc,hs,hz,r⟩
 ·obtain⟨z,its,r,p⟩:=h.ok I.hok
  exact⟨its,r,p.1,z⟩
 ·refine⟨its.toList,r,⟨o,I.kIn a o hk,hc,n,by simpa using hs⟩,?_⟩
  have e:=r.length
  simp only [W0j] at e
  omega
theorem Inv.list_inj (I:Inv X pins σ H s)(h:SqL X.K H a xs)(h':SqL X.K H a ys):xs=ys:=by
 obtain⟨its,r,⟨o,n,e,_,_,d⟩,_⟩:=I.list h
 obtain⟨its',r',⟨o',n',e',_,_,d'⟩,_⟩:=I.list h'
 rw [e] at e';cases e'
 rw [d] at d'
 injection d' with d1 _
 have:its=its':=by simpa using congrArg Array.toList d1
 subst this;exact r.inj r'
theorem Inv.tuple_inj (I:Inv X pins σ H s)(h:SqT X.K H a xs)(h':SqT X.K H a ys):xs=ys:=by
 obtain⟨its,r,⟨o,e,_,n,d⟩,_⟩:=I.tuple h
 obtain⟨its',r',⟨o',e',_,n',d'⟩,_⟩:=I.tuple h'
 rw [e] at e';cases e'
 rw [d] at d'
 injection d' with d1 _
 have:its=its':=by simpa using congrArg Array.toList d1
 subst this;exact r.inj r'
end
abbrev Cx.wish (X:Cx)(E:Value->Shared->Prop):Cx:={ X with xe:=E }
abbrev Cx.nox (X:Cx):Cx:=X.wish λ_ _=>False
theorem Cx.Ok.wish {X:Cx}(ok:X.Ok)(E:Value->Shared->Prop):(X.wish E).Ok:=
 ⟨ok.mod,ok.kind,ok.glob,ok.blt,ok.above,ok.inj,ok.has,ok.cab,ok.hd,ok.frames,ok.stk,ok.exf,ok.bs,ok.bsz,ok.noex,ok.exfs,ok.funs,ok.frf⟩
theorem Cx.Ok.unwish {X:Cx}{E:Value->Shared->Prop}(ok:(X.wish E).Ok):X.Ok:=
 ⟨ok.mod,ok.kind,ok.glob,ok.blt,ok.above,ok.inj,ok.has,ok.cab,ok.hd,ok.frames,ok.stk,ok.exf,ok.bs,ok.bsz,ok.noex,ok.exfs,ok.funs,ok.frf⟩
section
variable {X:Cx} {pins:List (Addr×Obj)} {σ:St} {H:Hp} {s:Shared} {E:Value->Shared->Prop}
theorem Inv.wish (I:Inv X pins σ H s)(E:Value->Shared->Prop):Inv (X.wish E) pins σ H s:=⟨I.ok.wish E,I.os,I.bare,I.base,I.loc,I.cell,I.free,I.freeC,I.pin,I.hok,I.len⟩
theorem Inv.unwish (I:Inv (X.wish E) pins σ H s):Inv X pins σ H s:=⟨I.ok.unwish,I.os,I.bare,I.base,I.loc,I.cell,I.free,I.freeC,I.pin,I.hok,I.len⟩
theorem SP.unwish {D:Ends}{f:Flow}{s':Shared}(h:SP (X.wish E) pins D f s'):SP X pins D f s':=by
 cases f with
 |next=>obtain⟨σ',H',I,q⟩:=h;exact⟨σ',H',I.unwish,q⟩
 |brk=>obtain⟨σ',H',I,q⟩:=h;exact⟨σ',H',I.unwish,q⟩
 |cont=>obtain⟨σ',H',I,q⟩:=h;exact⟨σ',H',I.unwish,q⟩
 |ret u=>obtain⟨v,σ',H',I,r,q⟩:=h;exact⟨v,σ',H',I.unwish,r,q⟩
theorem PSs.nox {st:List Stmt}{t:TS}(h:PSs X.nox st t):PSs X st t:=λpins s σ H D I hw=>
 V1 (h pins s σ H D (I.wish _) hw) (λ_ _ q=>q.unwish) λ_ _ z=>False.elim z
end
section
variable {X:Cx} {st:Stmt} {Jt:List Stmt} {t u:TS} {e:Expr} {te:TE} {pos:Pos}
def OY:TS:=λD σ H=>D.nx σ H
def Z0X (t u:TS):TS:=λD σ H=>t { D with nx:=u D } σ H
theorem Cs:PSs X [] OY:=λ_ _ σ H _ I h=>W0Y ⟨σ,H,I,h⟩
theorem LR (h1:PS X st t)(h2:PSs X Jt u):PSs X (st :: Jt) (Z0X t u):=by
 intro pins s σ H D I h;refine W0P (thn (h1 pins s σ H { D with nx:=u D } I h) λf s1 q=>?_)
 cases f with
 |next=>
  obtain⟨σ',H',I',q⟩:=q
  exact h2 pins s1 σ' H' D I' q
 |ret v=>exact q
 |brk=>exact q
 |cont=>exact q
theorem Rc (h1:PS X st t):PSs X [st] t:=by
 intro pins s σ H D I h;refine W0P (thn (h1 pins s σ H D I h) λf s1 q=>?_)
 cases f with
 |next=>exact W0Y q
 |ret v=>exact q
 |brk=>exact q
 |cont=>exact q
theorem Inv.quiet {pins:List (Addr×Obj)}{σ:St}{H:Hp}{s:Shared}(I:Inv X pins σ H s):interactive X.env=false:=by simp [interactive,I.ok.kind]
def OZ (te:TE):TS:=λD σ H=>te σ H λ_ H1=>D.nx σ H1
theorem Cw (he:PE X e te)(hs:swapsWith e none pos.line X.env=pure false:=by rfl):PS X (.Expr e pos) (OZ te):=by
 intro pins s σ H D I h;exact wpAny_Expr_any (thn (he pins s σ H _ I h) λv s1 ⟨x,H1,I1,r1,q1⟩=>⟨σ,H1,I1,q1⟩) I.quiet hs
def Z0Y (te:TE):TS:=λD σ H=>te σ H D.rt
theorem Ij (he:PE X e te):PS X (.Return (some e) pos) (Z0Y te):=by
 intro pins s σ H D I h;exact wpAny_Return_some (thn (he pins s σ H _ I h) λv s1 ⟨x,H1,I1,r1,q1⟩=>⟨x,σ,H1,I1,r1,q1⟩)
def Z11 (c:TT)(t u:TS):TS:=λD σ H=>c σ H λb H1=>if b=true then t D σ H1 else u D σ H1
theorem Xt {c:Expr}{a b:List Stmt}{tc:TT}(hc:PT X c tc)(ha:PSs X a t)(hb:PSs X b u):PS X (.If c a b pos) (Z11 tc t u):=by
 intro pins s σ H D I h;refine wpAny_If (thn (hc pins s σ H _ I h) λd s1 ⟨H1,I1,q1⟩=>?_)
 cases d with
 |true=>exact ha pins s1 σ H1 D I1 q1
 |false=>exact hb pins s1 σ H1 D I1 q1
end
abbrev TG:=V->St->Hp->(St->Hp->Prop)->Prop
abbrev TGs:=List V->St->Hp->(St->Hp->Prop)->Prop
def PG (X:Cx)(target:Expr)(t:TG):Prop:=
 ∀(pins:List (Addr×Obj)) (s:Shared) (σ:St) (H:Hp) (v:V) (u:Value) (Q:St->Hp->Prop),Inv X pins σ H s->ZO v u->t v σ H Q->
  wpAny (model X.prog X.w) X.A (assign target X.env u) (λ_ s'=>∃σ' H',Inv X pins σ' H' s'/\Q σ' H') X.xe s
def PGs (X:Cx)(ts:List Expr)(t:TGs):Prop:=
 ∀(pins:List (Addr×Obj)) (s:Shared) (σ:St) (H:Hp) (vs:List V) (us:List Value) (Q:St->Hp->Prop),Inv X pins σ H s->Y4 vs us->t vs σ H Q->
  wpAny (model X.prog X.w) X.A (assignInOrder ((assignEach ts X.env).map (·.2)) us) (λ_ s'=>∃σ' H',Inv X pins σ' H' s'/\Q σ' H') X.xe s
abbrev ON:=V->V->V->Hp->(Hp->Prop)->Prop
def EO (X:Cx)(t:ON):Prop:=
 ∀(pins:List (Addr×Obj)) (s:Shared) (σ:St) (H:Hp) (o i v:V) (ov iv u:Value) (Q:Hp->Prop),Inv X pins σ H s->ZO o ov->ZO i iv->ZO v u->t o i v H Q->
  wpAny (model X.prog X.w) X.A (setItem ov iv u) (λ_ s'=>∃H',Inv X pins σ H' s'/\Q H') X.xe s
section
variable {X:Cx} {pos:Pos}
def Kc (i:Nat):TG:=λv σ H Q=>Q (σ.set i (some v)) H
theorem Yv {i:Nat}{x:Str}(hN:X.N.Nodup)(hi:X.N[i]? = some x)(hx:Loc X.env.scope x)(hf:X.fn x=true\/X.env.scope.names.lookup x=some .local:=by first|exact .inl rfl|exact .inr rfl|assumption):PG X (.Name x pos) (Kc i):=by
 intro pins s σ H v u Q I r h;exact wpAny_assign_Name (TV I hN hi hx r (λs' I'=>⟨_,H,I',h⟩) hf)
def O0:TGs:=λvs σ H Q=>vs=[]/\Q σ H
def Pr (t:TG)(u:TGs):TGs:=λvs σ H Q=>∃v r,vs=v :: r/\t v σ H λσ' H'=>u r σ' H' Q
theorem Rm:PGs X [] O0:=by
 intro pins s σ H vs us Q I r h;obtain⟨e,h⟩:=h
 subst e;cases r;exact assignInOrder_nil ⟨σ,H,I,h⟩
theorem QD {e:Expr}{es:List Expr}{t:TG}{u:TGs}(h1:PG X e t)(h2:PGs X es u)
  (hs:(assignEach (e :: es) X.env).map (·.2)=assign e X.env :: (assignEach es X.env).map (·.2):=by rfl):PGs X (e :: es) (Pr t u):=by
 intro pins s σ H vs us Q I r h;obtain⟨v,vr,e1,h⟩:=h
 subst e1;cases r with
 |cons r rr=>
  rw [hs];refine assignInOrder_cons (thn (h1 pins s σ H _ _ _ I r h) λ_ s1 ⟨σ1,H1,I1,q1⟩=>?_)
  exact h2 pins s1 σ1 H1 _ _ Q I1 rr q1
def Z08 (K:W4)(n:Nat)(t:TGs):TG:=λv σ H Q=>∃a xs,v = .ref a/\SqT K H a xs/\xs.length=n/\t xs σ H Q
theorem A1 {es:List Expr}{k:Nat}{t:TGs}{n:Nat}(hc:X.calm=true)(h:PGs X es t)
  (hn:(assignEach es X.env).length=n:=by rfl) (hst:(assignEach es X.env).findIdx? (·.1)=none:=by rfl):PG X (.Tuple es k pos) (Z08 X.K n t):=by
 intro pins s σ H v u Q I r hw;obtain⟨a,xs,e1,hq,hl,hw⟩:=hw
 subst e1;cases r;obtain⟨its,rv,ht,hz⟩:=I.tuple hq
 refine assign_Tuple_tuple (I.ok.hd hc) ht (by simp [hn,<-hl,rv.length]) hst λh' hx=>?_
 have I1:Inv X pins σ H { s with heap:=h' }:=I.kept (t':=s.toks) λb o e=>hx b o (WT (Wz e)) e
 exact h pins _ σ H xs _ Q I1 (by simpa using rv) hw
def Sd (to ti:TE)(t:ON):TG:=λv σ H Q=>to σ H λo H1=>ti σ H1 λi H2=>t o i v H2 λH3=>Q σ H3
theorem Iq {o i:Expr}{to ti:TE}{t:ON}(ho:PE X o to)(hi:PE X i ti)(hs:EO X t)
  (ha:∀v,assign (.Subscript o i pos) X.env v=(do
   let ov <-holding [v] (eval o X.env)
   let iv <-holding [v,ov] (eval i X.env)
   standAt pos
   holding [v,ov,iv] (setItem ov iv v)
   release [v,ov,iv] []):=by intro _;rfl):PG X (.Subscript o i pos) (Sd to ti t):=by
 intro pins s σ H v u Q I r h;rw [ha];refine W3 (Vo (thn (ho pins s σ H _ I h) λov s1 ⟨x,H1,I1,r1,q1⟩=>?_))
 refine W3 (Vo (thn (hi pins s1 σ H1 _ I1 q1) λiv s2 ⟨y,H2,I2,r2,q2⟩=>?_))
 refine W3 (wpAny_standAt (W3 (Vo (thn (hs pins s2 σ H2 x y v ov iv u _ I2 r1 r2 r q2) λ_ s3 ⟨H3,I3,q3⟩=>?_))))
 exact wpAny_release ⟨σ,H3,I3,q3⟩
def X7 (te:TE)(g:TG):TS:=λD σ H=>te σ H λx H1=>g x σ H1 D.nx
theorem Im {tg e:Expr}{te:TE}{g:TG}(he:PE X e te)(hg:PG X tg g)(hs:swapsWithSole [tg] e pos.line X.env=pure false:=by rfl)(hw:swappedStores [tg] e X.env=pure none:=by rfl)
  (h1:(assignEach [tg] X.env).map (·.2)=[assign tg X.env]:=by rfl):PS X (.Assign [tg] e pos) (X7 te g):=by
 intro pins s σ H D I h;refine wpAny_Assign_stores (thn (he pins s σ H _ I h) λv s1 ⟨x,H1,I1,r1,q1⟩=>?_) hs hw
 rw [h1];exact thn (hg pins s1 σ H1 x v _ I1 r1 q1) λ_ s2 q=>q
theorem A0 {i:Nat}{x:Str}{e:Expr}{te:TE}{pos':Pos}(hN:X.N.Nodup)(hi:X.N[i]? = some x)(hx:Loc X.env.scope x)(he:PE X e te)(hs:swapsWith e (some (.Name x pos')) pos.line X.env=pure false:=by rfl)(hf:X.fn x=true\/X.env.scope.names.lookup x=some .local:=by first|exact .inl rfl|exact .inr rfl|assumption) :
  PS X (.Assign [.Name x pos'] e pos) (X7 te (Kc i)):=by
 intro pins s σ H D I h;refine wpAny_Assign_Name (thn (he pins s σ H _ I h) λv s1 ⟨y,H1,I1,r1,q1⟩=>?_) hs
 exact TV I1 hN hi hx r1 (λs2 I2=>⟨_,H1,I2,q1⟩) hf
end
section
variable {X:Cx} {pos:Pos}
end
structure It where
 go:Nat->Hp->Prop
 yld:Nat->Hp->V->Hp->Prop
 stop:Nat->Hp->Prop
def Kr (X:Cx)(pins:List (Addr×Obj))(H:Hp)(b:Addr):Prop:=
 H b=none/\b≠X.env.locals/\b∉X.fs/\(b∈X.ex\/X.s₀.heap.objs.size<=b)/\(∀x c,X.env.cells.lookup x=some c->c≠b)/\∀p∈X.pn++pins,p.1≠b
theorem Inv.fpOk {X:Cx}{pins:List (Addr×Obj)}{σ:St}{H H':Hp}{s:Shared}{b:Addr}(I:Inv X pins σ H s)(hb:s.heap.objs.size<=b)(hn:H' b=none):Kr X pins H' b:=by
 refine⟨hn,Nat.ne_of_gt (WJ I.lt hb),I.nofs hb,.inr (VA I.sz hb),λx c e z=>?_,λp hp z=>?_⟩
 ·obtain⟨v,q⟩:=I.cell x c e
  exact absurd (WJ q.lt (by rw [z];exact hb)) (Vy _)
 ·exact absurd (WJ (Wz (I.pin p hp).1) (by rw [z];exact hb)) (Vy _)
structure Turn (P:Program) (w:World) (K:W4) (tg:Expr) (J:It) (fp:List Addr) (it:Addr) (tn:Nat->Heap->Prop):Prop where
 mem:it∈fp
 obj:∀i h,tn i h->∀b∈fp,∃o,h.get? b=some o/\∀v,o.data≠.cell v
 keep:∀i h h',tn i h->(∀b∈fp,∀o,h.get? b=some o->h'.get? b=some o)->tn i h'
 item:∀(X:Cx),X.prog=P->X.w=w->X.K=K->X.calm=true->∀(i:Nat) (pins:List (Addr×Obj)) (s:Shared) (σ:St) (H:Hp) (E:Value->Shared->Prop),Inv X pins σ H s->(∀b∈fp,Kr X pins H b)->tn i s.heap->J.go i H->
  wpAny (model P w) X.A (pyNext (.ref it)) (λr s1=>∃u,r=some u/\
   wpAny (model P w) X.A (letOwnedTupleGo tg (.ref it) u) (λ_ s2=>∃x H',Inv X pins σ H' s2/\ZO x u/\J.yld i H x H'/\tn (i+1) s2.heap/\∀b∈fp,H' b=none) E s1) E s
 done:∀(X:Cx),X.prog=P->X.w=w->X.K=K->X.calm=true->∀(i:Nat) (pins:List (Addr×Obj)) (s:Shared) (σ:St) (H:Hp) (E:Value->Shared->Prop),Inv X pins σ H s->(∀b∈fp,Kr X pins H b)->tn i s.heap->J.stop i H->
  wpAny (model P w) X.A (pyNext (.ref it)) (λr s1=>r=none/\Inv X pins σ H s1) E s
 self:∀(A:Around) (i:Nat) (s:Shared) (Q:Value->Shared->Prop) (E:Value->Shared->Prop),tn i s.heap->Q (.ref it) s->wpAny (model P w) A (pyIter (.ref it)) Q E s
abbrev TI:=St->Hp->(It->Hp->Prop)->Prop
def PIE (X:Cx)(pins:List (Addr×Obj))(σ:St)(tg:Expr)(R:It->Hp->Prop)(itv:Value)(s2:Shared):Prop:=
 ∃(it:Addr) (fp:List Addr) (tn:Nat->Heap->Prop) (J:It) (H':Hp),itv = .ref it/\Inv X pins σ H' s2/\Turn X.prog X.w X.K tg J fp it tn/\tn 0 s2.heap/\(∀b∈fp,Kr X pins H' b)/\R J H'
def PI (X:Cx)(tg iter:Expr)(wi:TI):Prop:=
 ∀(pins:List (Addr×Obj)) (s:Shared) (σ:St) (H:Hp) (R:It->Hp->Prop),Inv X pins σ H s->wi σ H R->
  wpAny (model X.prog X.w) X.A (eval iter X.env) (λv s1=>wpAny (model X.prog X.w) X.A (pyIter v) (PIE X pins σ tg R) X.xe s1) X.xe s
theorem Pn {M:Model}{A:Around}{E:Value->Shared->Prop}{s:Shared}{tg:Expr}{it:Addr}{u:Value}{o:Obj}{n:String}{vs:Array Value}{Q:Unit->Shared->Prop}(ho:s.heap.get? it=some o)(hc:o.cls = .type n)(hd:o.data = .fields vs)
  (hn:["enumerate", "zip", "dict_itemiterator", "dict_reverseitemiterator", "odict_iterator", "itertools.zip_longest", "itertools.pairwise"].contains n=false) (hQ:Q () s):wpAny M A (letOwnedTupleGo tg (.ref it) u) Q E s:=by
 unfold letOwnedTupleGo;cases tg<;>first
  |exact Wn hQ
  | (cases u<;>first
     |exact Wn hQ
     | (refine W3 (wpAny_load ho ?_)
        rw [hc,hd];show wpAny M A (if (["enumerate", "zip", "dict_itemiterator", "dict_reverseitemiterator", "odict_iterator", "itertools.zip_longest", "itertools.pairwise"].contains n&&vs[0]? == some (rawInt _))=true then _ else _) Q E s
        rw [if_neg (by intro h;rw [hn,W1h] at h;cases h)]
        exact Wn hQ))
def Itl (K:W4)(a:Addr):It:=
 ⟨λi H=>∃xs x,SqL K H a xs/\xs[i]? = some x,λi H x H'=>H'=H/\∀xs,SqL K H a xs->xs[i]? = some x,λi H=>∃xs,SqL K H a xs/\xs.length<=i⟩
def Itt (K:W4)(a:Addr):It:=
 ⟨λi H=>∃xs x,SqT K H a xs/\xs[i]? = some x,λi H x H'=>H'=H/\∀xs,SqT K H a xs->xs[i]? = some x,λi H=>∃xs,SqT K H a xs/\xs.length<=i⟩
def Itr (lo:Int)(n:Nat):It:=⟨λi _=>i<n,λi H x H'=>H'=H/\x = .int (lo+i),λi _=>n<=i⟩
theorem Kz {P:Program}{w:World}{K:W4}{tg:Expr}(a it:Addr):Turn P w K tg (Itl K a) [it] it (λi h=>h.IsListIter it a i) where
 mem:=by simp
 obj:=λi h st b hb=>by
  have e:b=it:=by simpa using hb
  subst e;obtain⟨o,e,c,d⟩:=st
  exact⟨o,e,λv z=>by rw [d] at z;cases z⟩
 keep:=λi h h' st k=>st.at λo e=>k it (by simp) o e
 item:=by
  intro X hP hw hK hc i pins s σ H E I hf st hg;subst hP hw hK;obtain⟨xs,x,hq,hx⟩:=hg
  obtain⟨its,rv,p,hz⟩:=I.list hq
  obtain⟨u,hu,ru⟩:=rv.get hx
  obtain⟨f0,f1,f2,f3,f4,f5⟩:=hf it (by simp)
  refine wpAny_pyNext_list_item st p.isList (x:=u) (by simpa using hu) λh' st' sb=>?_
  have I1:Inv X pins σ H { s with heap:=h' }:=I.turned (t':=s.toks) (λb o hb e=>(sb.2 b hb).trans e) f0 f1 f3 f4 f5
  obtain⟨o,e,c,d⟩:=id st'
  exact⟨u,rfl,Pn (s:={ s with heap:=h' }) e c d (by decide) ⟨x,H,I1,ru,⟨rfl,λys hy=>by rw [I.list_inj hy hq];exact hx⟩,st',λb hb=>(hf b hb).1⟩⟩
 done:=by
  intro X hP hw hK hc i pins s σ H E I hf st hg;subst hP hw hK;obtain⟨xs,hq,hx⟩:=hg
  obtain⟨its,rv,p,hz⟩:=I.list hq
  obtain⟨f0,f1,f2,f3,f4,f5⟩:=hf it (by simp)
  have hl:=rv.length
  exact wpAny_pyNext_list_end (I.ok.hd hc) st p.isList (by simp;omega) λh' eb=>⟨rfl,I.turned (t':=s.toks) (λb o hb e=>eb b o hb e) f0 f1 f3 f4 f5⟩
 self:=λ_ _ _ _ _ st h=>wpAny_pyIter_listiter st h
theorem MI {P:Program}{w:World}{K:W4}{tg:Expr}(a it:Addr):Turn P w K tg (Itt K a) [it] it (λi h=>h.IsTupleIter it a i) where
 mem:=by simp
 obj:=λi h st b hb=>by
  have e:b=it:=by simpa using hb
  subst e;obtain⟨o,e,c,d⟩:=st
  exact⟨o,e,λv z=>by rw [d] at z;cases z⟩
 keep:=λi h h' st k=>st.at λo e=>k it (by simp) o e
 item:=by
  intro X hP hw hK hc i pins s σ H E I hf st hg;subst hP hw hK;obtain⟨xs,x,hq,hx⟩:=hg
  obtain⟨its,rv,p,hz⟩:=I.tuple hq
  obtain⟨u,hu,ru⟩:=rv.get hx
  obtain⟨f0,f1,f2,f3,f4,f5⟩:=hf it (by simp)
  refine wpAny_pyNext_tuple_item st (show s.heap.IsTuple a its.toArray from p) (x:=u) (by simpa using hu) λh' st' sb=>?_
  have I1:Inv X pins σ H { s with heap:=h' }:=I.turned (t':=s.toks) (λb o hb e=>(sb.2 b hb).trans e) f0 f1 f3 f4 f5
  obtain⟨o,e,c,d⟩:=id st'
  exact⟨u,rfl,Pn (s:={ s with heap:=h' }) e c d (by decide) ⟨x,H,I1,ru,⟨rfl,λys hy=>by rw [I.tuple_inj hy hq];exact hx⟩,st',λb hb=>(hf b hb).1⟩⟩
 done:=by
  intro X hP hw hK hc i pins s σ H E I hf st hg;subst hP hw hK;obtain⟨xs,hq,hx⟩:=hg
  obtain⟨its,rv,p,hz⟩:=I.tuple hq
  obtain⟨f0,f1,f2,f3,f4,f5⟩:=hf it (by simp)
  have hl:=rv.length
  exact wpAny_pyNext_tuple_end (I.ok.hd hc) st (show s.heap.IsTuple a its.toArray from p) (by simp;omega) λh' eb=>⟨rfl,I.turned (t':=s.toks) (λb o hb e=>eb b o hb e) f0 f1 f3 f4 f5⟩
 self:=λ_ _ _ _ _ st h=>wpAny_pyIter_tupleiter st h
theorem MJ {P:Program}{w:World}{K:W4}{tg:Expr}(it:Addr)(lo:Int)(n:Nat):Turn P w K tg (Itr lo n) [it] it (λi h=>IsRangeIter h it (lo+(i:Nat)*1) ((n:Int)-(i:Nat)) 1) where
 mem:=by simp
 obj:=λi h st b hb=>by
  have e:b=it:=by simpa using hb
  subst e;exact⟨_,st,λv z=>by
   have z':Data.fields _=Data.cell v:=z
   cases z'⟩
 keep:=λi h h' st k=>k it (by simp) _ st
 item:=by
  intro X hP hw hK hc i pins s σ H E I hf st hg;subst hP hw hK;obtain⟨f0,f1,f2,f3,f4,f5⟩:=hf it (by simp)
  have W:=Walks.range (prog:=X.prog) (w:=X.w) (I.ok.hd hc) it lo 1 n
  refine W.item i s _ _ hg st λv h' tk hv st' kk=>?_
  obtain⟨t,rfl⟩:=hv
  have I1:Inv X pins σ H { s with heap:=h',toks:=tk }:=I.turned (λb o hb e=>kk b o (by simpa using hb) e) f0 f1 f3 f4 f5
  refine⟨_,rfl,Pn (s:={ s with heap:=h',toks:=tk }) (n:="range_iterator") st' rfl rfl (by decide) ⟨.int (lo+i),H,I1,⟨t,?_⟩,⟨rfl,rfl⟩,st',λb hb=>(hf b hb).1⟩⟩
  rw [Int.mul_one]
 done:=by
  intro X hP hw hK hc i pins s σ H E I hf st hg;subst hP hw hK;obtain⟨f0,f1,f2,f3,f4,f5⟩:=hf it (by simp)
  exact wpAny_pyNext_range_end (I.ok.hd hc) st (by have:n<=i:=hg;omega) λh' eb=>⟨rfl,I.turned (t':=s.toks) (λb o hb e=>eb b o hb e) f0 f1 f3 f4 f5⟩
 self:=λ_ _ _ _ _ st h=>wpAny_pyIter_rangeiter st h
end L2
namespace L2
open PySem PySem.Spec PyProof.Rows
section
variable {X:Cx} {tg:Expr}
theorem LL {pins:List (Addr×Obj)}{σ:St}{H:Hp}{s:Shared}{R:It->Hp->Prop}{E:Value->Shared->Prop}{lo hi:Int}{t u v:Tok}{tk:Nat}(I:Inv X pins σ H s)(h1 : -(2 ^ 62)<=lo)(h2:lo<2 ^ 62)(h3 : -(2 ^ 62)<=hi)(h4:hi<2 ^ 62)
  (q:R (Itr lo (hi-lo).toNat) H):wpAny (model X.prog X.w) X.A (pyIter (.ref s.heap.objs.size)) (PIE X pins σ tg R) E { s with heap:=s.heap.push { cls:=.type "range",data:=.fields #[.int lo t,.int hi u,.int 1 v] },toks:=tk }:=by
 refine wpAny_pyIter_range (IsRange.new ..) (small_one h1 h2 h3 h4) ?_
 have I1:Inv X pins σ H { s with heap:=s.heap.push { cls:=.type "range",data:=.fields #[.int lo t,.int hi u,.int 1 v] },toks:=tk }:=I.kept λb o e=>Wk _ e
 refine⟨(s.heap.push { cls:=.type "range",data:=.fields #[.int lo t,.int hi u,.int 1 v] }).objs.size,[(s.heap.push { cls:=.type "range",data:=.fields #[.int lo t,.int hi u,.int 1 v] }).objs.size],_,_,H,rfl,
  I1.kept (t':=tk) λb o e=>Wk _ e,MJ _ lo (hi-lo).toNat,?_,λb hb=>?_,q⟩
 ·have e1:lo+((0:Nat):Int)*1=lo:=by simp
  have e2:(((hi-lo).toNat:Nat):Int)-((0:Nat):Int)=Builtin.Range.rangeSize lo hi 1:=by rw [rangeSize_one];split<;>omega
  show IsRangeIter _ _ (lo+((0:Nat):Int)*1) ((((hi-lo).toNat:Nat):Int)-((0:Nat):Int)) 1
  rw [e1,e2];exact WA _ rfl
 ·have e:b=(s.heap.push { cls:=.type "range",data:=.fields #[.int lo t,.int hi u,.int 1 v] }).objs.size:=by simpa using hb
  subst e;exact I1.fpOk (Wt _) (I1.hok.fresh (Wt _))
def Z05 (ta:TA):TI:=λσ H R=>ta σ H λvs H1=>∃j:Int,vs=[.int j]/\-(2 ^ 62)<=j/\j<2 ^ 62/\R (Itr 0 j.toNat) H1
theorem Rk {a:Expr}{ta:TA}{p pos:Pos}(hg:Gl X "range")(hm:X.mg "range" = none)(ha:PA X [a] ta)(hs:Wo [a] X.env=[(false,eval a X.env)]:=by rfl):PI X tg (.Call (.Name "range" p) [a] [] pos) (Z05 ta):=by
 intro pins s σ H R I h;refine Call_ (JE I hg hm boot_range (Vp (thn (ha pos pins s σ H _ I h) λus s1 ⟨vs,H1,I1,r1,q1⟩=>?_) hs rfl))
 obtain⟨j,e,q1,q2,q⟩:=q1
 subst e;cases r1 with
 |cons r rr=>
  cases rr;obtain⟨t,rfl⟩:=r
  exact call_range_1 (LL I1 (by omega) (by omega) q1 q2 (by simpa using q))
def Z12 (wi:TI)(g:TG)(tb:TS):TS:=λD σ H=>wi σ H λJ H1=>∃W:Nat->Nat->St->Hp->Prop,(∃m,W 0 m σ H1)/\∀i m σ H,W i m σ H->
 (J.stop i H/\D.nx σ H)\/(J.go i H/\∃N:St->Hp->Prop,(∀σ' H',N σ' H'->∃m',m'<m/\W (i+1) m' σ' H')/\∀x H',J.yld i H x H'->g x σ H' λσ2 H2=>tb { D with nx:=N,ct:=N,bk:=D.nx } σ2 H2)
def B7 (fp:List Addr)(h:Heap):List (Addr×Obj):=fp.filterMap λb=>(h.get? b).map λo=>(b,o)
theorem J2 {fp:List Addr}{h:Heap}{b:Addr}{o:Obj}(hb:b∈fp)(e:h.get? b=some o):(b,o)∈B7 fp h:=W1c.mpr ⟨b,hb,by rw [e];rfl⟩
theorem Ru {fp:List Addr}{h:Heap}{p:Addr×Obj}(hp:p∈B7 fp h):p.1∈fp/\h.get? p.1=some p.2:=by
 obtain⟨b,hb,e⟩:=W1c.mp hp
 cases q:h.get? b with
 |none=>rw [q] at e;cases e
 |some o=>
  rw [q] at e;have e':(b,o)=p:=WO e
  subst e'
  exact⟨hb,q⟩
theorem Inv.pinned {pins:List (Addr×Obj)}{σ:St}{H:Hp}{s:Shared}{fp:List Addr}(I:Inv X pins σ H s)(hf:∀b∈fp,Kr X pins H b)(ho:∀b∈fp,∃o,s.heap.get? b=some o/\∀v,o.data≠.cell v):Inv X (pins++B7 fp s.heap) σ H s:=
 I.pins_of λp hp=>(W0p.mp hp).elim (λz=>I.pin p (WM _ z)) λz=>by
  obtain⟨hb,e⟩:=Ru z
  obtain⟨f0,f1,f2,_⟩:=hf p.1 hb
  obtain⟨o,e',d⟩:=ho p.1 hb
  rw [e] at e';cases e'
  exact⟨e,f0,f1,f2,d⟩
theorem Inv.unpinned {pins pl:List (Addr×Obj)}{σ:St}{H:Hp}{s:Shared}(I:Inv X (pins++pl) σ H s):Inv X pins σ H s:=I.pins_of λp hp=>I.pin p (WM _ (Vx _ hp))
theorem Ik {iter:Expr}{body:List Stmt}{wi:TI}{g:TG}{tb:TS}{pos:Pos}(hp:PassesOwn (model X.prog X.w) X.A X.env X.xe)(hc:X.calm=true)(hi:PI X tg iter wi)(hg:PG X tg g)(hb:PSs X body tb)
  (hs:∀x,foldedSetIterable iter X.env x=pure x:=by intro _;rfl):PS X (.For tg iter body [] pos) (Z12 wi g tb):=by
 intro pins s σ H D I h;refine wpAny_For (thn (hi pins s σ H _ I h) λv s1 h1=>thn h1 λitv s2 h2=>?_) hs
 obtain⟨it,fp,tn,J,H2,e,I2,T,st2,f2,W,⟨m0,w0⟩,turn⟩:=h2
 subst e
 -- what stays true of the iterator's objects through the loop
 have stat:∀{H':Hp},(∀b∈fp,H' b=none)->∀b∈fp,Kr X pins H' b:=λhn b hb=>⟨hn b hb,(f2 b hb).2⟩
 refine codeAny_forLoop_any (λn s'=>∃i σ' H',Inv X pins σ' H' s'/\tn i s'.heap/\(∀b∈fp,H' b=none)/\W i n σ' H') ?_ m0 ⟨0,σ,H2,I2,st2,λb hb=>(f2 b hb).1,w0⟩
 rintro n s3 ⟨i,σ3,H3,I3,st3,fr3,w3⟩
 rcases turn i n σ3 H3 w3 with ⟨stop,qn⟩|⟨go,N,hN,step⟩
 ·refine W0q hp (thn (T.done X rfl rfl rfl hc i pins s3 σ3 H3 X.xe I3 (stat fr3) st3 stop) λr s4 ⟨hr,I4⟩=>?_)
  subst hr;exact W0Y ⟨σ3,H3,I4,qn⟩
 ·refine W0q hp (thn (T.item X rfl rfl rfl hc i pins s3 σ3 H3 X.xe I3 (stat fr3) st3 go) λr s4 ⟨u,hr,h4⟩=>?_)
  subst hr;refine W0q hp (thn h4 λ_ s5 ⟨x,H5,I5,r5,y5,st5,fr5⟩=>?_)
  have I5':=I5.pinned (stat fr5) (T.obj _ _ st5)
  refine W0q hp (thn (hg _ s5 σ3 H5 x u _ I5' r5 (step x H5 y5)) λ_ s6 ⟨σ6,H6,I6,q6⟩=>?_)
  refine W0q hp (thn (hb _ s6 σ6 H6 _ I6 q6) λf s7 q7=>?_)
  have again:∀{σ7:St} {H7:Hp},Inv X (pins++B7 fp s5.heap) σ7 H7 s7->N σ7 H7->∃m,m<n/\∃i σ' H',Inv X pins σ' H' s7/\tn i s7.heap/\(∀b∈fp,H' b=none)/\W i m σ' H':=λ{σ7 H7} I7 n7=>by
   obtain⟨m',hm,w7⟩:=hN σ7 H7 n7
   refine⟨m',hm,i+1,σ7,H7,I7.unpinned,T.keep _ _ _ st5 λb hb o e=>(I7.pin (b,o) (WM _ (WM _ (J2 hb e)))).1,λb hb=>?_,w7⟩
   obtain⟨o,e,d⟩:=T.obj _ _ st5 b hb
   exact (I7.pin (b,o) (WM _ (WM _ (J2 hb e)))).2.1
  cases f with
  |next=>obtain⟨σ7,H7,I7,n7⟩:=q7;exact again I7 n7
  |cont=>obtain⟨σ7,H7,I7,n7⟩:=q7;exact again I7 n7
  |brk=>obtain⟨σ7,H7,I7,q7⟩:=q7;exact⟨σ7,H7,I7.unpinned,q7⟩
  |ret v=>obtain⟨x7,σ7,H7,I7,r7,q7⟩:=q7;exact⟨x7,σ7,H7,I7.unpinned,r7,q7⟩
end
end L2
namespace L2
open PySem PySem.Spec PyProof.Rows
abbrev R2:=V->V->Hp->VK->Prop
def OpR (X:Cx)(f:Value->Value->Sem Value)(r:R2):Prop:=
 ∀(pins:List (Addr×Obj)) (s:Shared) (σ:St) (H:Hp) (x y:V) (v u:Value) (Q:VK),Inv X pins σ H s->ZO x v->ZO y u->r x y H Q->
  wpAny (model X.prog X.w) X.A (f v u) (EP X pins σ Q) X.xe s
def UnR (X:Cx)(f:Value->Sem Value)(r:V->Hp->VK->Prop):Prop:=
 ∀(pins:List (Addr×Obj)) (s:Shared) (σ:St) (H:Hp) (x:V) (v:Value) (Q:VK),Inv X pins σ H s->ZO x v->r x H Q->
  wpAny (model X.prog X.w) X.A (f v) (EP X pins σ Q) X.xe s
def Ji (X:Cx)(f:Value)(r:List V->Hp->VK->Prop):Prop:=
 ∀(pins:List (Addr×Obj)) (s:Shared) (σ:St) (H:Hp) (xs:List V) (us:List Value) (Q:VK),Inv X pins σ H s->Y4 xs us->r xs H Q->
  wpAny (model X.prog X.w) X.A (call f us) (EP X pins σ Q) X.xe s
def Z0S (X:Cx)(r:V->Hp->(Bool->Hp->Prop)->Prop):Prop:=
 ∀(pins:List (Addr×Obj)) (s:Shared) (σ:St) (H:Hp) (x:V) (v:Value) (Q:Bool->Hp->Prop),Inv X pins σ H s->ZO x v->r x H Q->
  wpAny (model X.prog X.w) X.A (truthy v) (TP X pins σ Q) X.xe s
def tOp (r:R2)(ta tb:TE):TE:=λσ H Q=>ta σ H λx H1=>tb σ H1 λy H2=>r x y H2 Q
def tUn (r:V->Hp->VK->Prop)(ta:TE):TE:=λσ H Q=>ta σ H λx H1=>r x H1 Q
def rI (C:Int->Int->Prop)(g:Int->Int->V):R2:=λx y H Q=>∃i j,x = .int i/\y = .int j/\C i j/\Q (g i j) H
def rI0 (g:Int->Int->V):R2:=λx y H Q=>∃i j,x = .int i/\y = .int j/\Q (g i j) H
def rU (g:Int->V):V->Hp->VK->Prop:=λx H Q=>∃i,x = .int i/\Q (g i) H
section
variable {X:Cx} {a b c:Expr} {ta tb tc:TE} {pos:Pos}
theorem Z0d (ha:PE X a ta)(hb:PE X b tb){pins:List (Addr×Obj)}{s:Shared}{σ:St}{H:Hp}{R:V->V->Hp->Prop}(I:Inv X pins σ H s)
  (h:ta σ H λx H1=>tb σ H1 λy H2=>R x y H2) {Q:Value->Shared->Prop} {f:Value->Value->Sem Value}
  (hf:∀v u s2 x y H2,Inv X pins σ H2 s2->ZO x v->ZO y u->R x y H2->wpAny (model X.prog X.w) X.A (f v u) Q X.xe s2) :
  wpAny (model X.prog X.w) X.A (eval a X.env) (λv s₁=>wpAny (model X.prog X.w) X.A (eval b X.env) (λu s₂=>wpAny (model X.prog X.w) X.A (f v u) Q X.xe s₂) X.xe s₁) X.xe s:=by
 refine thn (ha pins s σ H _ I h) λv s1 ⟨x,H1,I1,r1,q1⟩=>?_
 refine thn (hb pins s1 σ H1 _ I1 q1) λu s2 ⟨y,H2,I2,r2,q2⟩=>?_
 exact hf v u s2 x y H2 I2 r1 r2 q2
theorem Xv {op:Operator}{r:R2}(ho:OpR X (binaryOp op) r)(ha:PE X a ta)(hb:PE X b tb):PE X (.BinOp a op b pos) (tOp r ta tb):=by
 intro pins s σ H Q I h;exact wpAny_BinOp (Z0d ha hb I h λv u s2 x y H2 I2 rx ry q=>ho pins s2 σ H2 x y v u Q I2 rx ry q)
theorem Xu {op:UnaryOp}{r:V->Hp->VK->Prop}(ho:UnR X (unaryOp op) r)(ha:PE X a ta):PE X (.UnaryOp op a pos) (tUn r ta):=by
 intro pins s σ H Q I h;exact UnaryOp_ (thn (ha pins s σ H _ I h) λv s1 ⟨x,H1,I1,r1,q1⟩=>ho pins s1 σ H1 x v Q I1 r1 q1)
theorem opI {f:Value->Value->Sem Value}{C:Int->Int->Prop}{g:Int->Int->Int}
  (rule:∀(i j:Int) (t u:Tok) (s:Shared) (Q:Value->Shared->Prop) (E:Value->Shared->Prop),C i j->Q (.int (g i j) s.toks) { s with toks:=s.toks+1 }->wpAny (model X.prog X.w) X.A (f (.int i t) (.int j u)) Q E s) :
  OpR X f (rI C λi j=>.int (g i j)):=by
 intro pins s σ H x y v u Q I rx ry h;obtain⟨i,j,rfl,rfl,hc,q⟩:=h
 obtain⟨t,rfl⟩:=rx
 obtain⟨t',rfl⟩:=ry
 exact rule i j t t' s _ _ hc ⟨.int (g i j),H,I.tok _,⟨_,rfl⟩,q⟩
theorem Z0r {f:Value->Value->Sem Value}{g:Int->Int->Int}
  (rule:∀(i j:Int) (t u:Tok) (s:Shared) (Q:Value->Shared->Prop) (E:Value->Shared->Prop),Q (.int (g i j) s.toks) { s with toks:=s.toks+1 }->wpAny (model X.prog X.w) X.A (f (.int i t) (.int j u)) Q E s) :
  OpR X f (rI0 λi j=>.int (g i j)):=by
 intro pins s σ H x y v u Q I rx ry h;obtain⟨i,j,rfl,rfl,q⟩:=h
 obtain⟨t,rfl⟩:=rx
 obtain⟨t',rfl⟩:=ry
 exact rule i j t t' s _ _ ⟨.int (g i j),H,I.tok _,⟨_,rfl⟩,q⟩
theorem Z1c {f:Value->Value->Sem Value}{g:Int->Int->Bool}
  (rule:∀(i j:Int) (t u:Tok) (s:Shared) (Q:Value->Shared->Prop) (E:Value->Shared->Prop),Q (.bool (g i j)) s->wpAny (model X.prog X.w) X.A (f (.int i t) (.int j u)) Q E s) :
  OpR X f (rI0 λi j=>.bl (g i j)):=by
 intro pins s σ H x y v u Q I rx ry h;obtain⟨i,j,rfl,rfl,q⟩:=h
 obtain⟨t,rfl⟩:=rx
 obtain⟨t',rfl⟩:=ry
 exact rule i j t t' s _ _ ⟨.bl (g i j),H,I,rfl,q⟩
def Z0f (i j:Int):Prop:=(-(2 ^ 64)<i/\i<2 ^ 64)\/(-(2 ^ 64)<j/\j<2 ^ 64)
theorem Z0f.ok {i j:Int}(h:Z0f i j):IntMulOk i j:=by
 rcases h with ⟨h1,h2⟩|⟨h1,h2⟩
 ·exact .of_left (intBits_le_64 h1 h2)
 ·exact .of_right (intBits_le_64 h1 h2)
theorem IJ:OpR X (binaryOp .Add) (rI0 λi j=>.int (i+j)):=Z0r λ_ _ _ _ _ _ _ q=>add_int q
theorem ID:OpR X (binaryOp .Sub) (rI0 λi j=>.int (i-j)):=Z0r λ_ _ _ _ _ _ _ q=>sub_int q
theorem IE:OpR X (binaryOp .Mult) (rI Z0f λi j=>.int (i*j)):=opI λ_ _ _ _ _ _ _ hc q=>mul_int q hc.ok
theorem IF:OpR X (binaryOp .Mod) (rI (λ_ j=>0<j) λi j=>.int (i%j)):=opI λi j _ _ _ _ _ hc q=>by
 have h1:(0:Int)<j:=hc
 exact mod_int' (by omega) (by rw [Int.fmod_eq_emod_of_nonneg i (by omega)];exact q)
theorem unI {f:Value->Sem Value}{g:Int->Int}
  (rule:∀(i:Int) (t:Tok) (s:Shared) (Q:Value->Shared->Prop) (E:Value->Shared->Prop),Q (.int (g i) s.toks) { s with toks:=s.toks+1 }->wpAny (model X.prog X.w) X.A (f (.int i t)) Q E s) :
  UnR X f (rU λi=>.int (g i)):=by
 intro pins s σ H x v Q I rx h;obtain⟨i,rfl,q⟩:=h
 obtain⟨t,rfl⟩:=rx
 exact rule i t s _ _ ⟨.int (g i),H,I.tok _,⟨_,rfl⟩,q⟩
theorem Sm:UnR X (unaryOp .USub) (rU λi=>.int (-i)):=unI λ_ _ _ _ _ q=>neg_int q
end
section
variable {X:Cx} {a b c:Expr} {ta tb tc:TE} {pos:Pos}
theorem Jk {pins:List (Addr×Obj)}{σ:St}{H:Hp}{s:Shared}{Q:VK}{k k':Bool}(I:Inv X pins σ H s)(q:Q (.bl k) H)(e:k=k'):EP X pins σ Q (.bool k') s:=by
 subst e;exact⟨.bl k,H,I,rfl,q⟩
theorem Xz:OpR X (compareOp .LtE) (rI0 λi j=>.bl (decide (i<=j))):=Z1c λ_ _ _ _ _ _ _ q=>le_int q
theorem IG:OpR X (compareOp .Is) (λx y H Q=>y = .non/\Q (.bl (decide (x = .non))) H):=by
 intro pins s σ H x y v u Q I rx ry h;obtain⟨rfl,q⟩:=h
 cases ry;refine is_none_gen (Jk I q ?_)
 cases x<;>first
  | (cases rx;rfl)
  | (obtain⟨t,rfl⟩:=rx;rfl)
theorem OpR.or {f:Value->Value->Sem Value}{r r':R2}(h:OpR X f r)(h':OpR X f r'):OpR X f (λx y H Q=>r x y H Q\/r' x y H Q):=by
 intro pins s σ H x y v u Q I rx ry q;rcases q with q|q
 ·exact h pins s σ H x y v u Q I rx ry q
 ·exact h' pins s σ H x y v u Q I rx ry q
theorem Y8 (b:Expr){op:CmpOp}(h:op≠.In:=by decide)(h2:op≠.NotIn:=by decide):behindInMarks op b=false:=by
 have e1:(op == CmpOp.In)=false:=by cases op<;>first|rfl|exact absurd rfl h
 have e2:(op == CmpOp.NotIn)=false:=by cases op<;>first|rfl|exact absurd rfl h2
 cases b<;>simp [behindInMarks,e1,e2]
theorem CF {op:CmpOp}{r:R2}(ho:OpR X (compareOp op) r)(ha:PE X a ta)(hb:PE X b tb)(hm:behindInMarks op b=false):PE X (.Compare a [op] [b] pos) (tOp r ta tb):=by
 intro pins s σ H Q I h;exact wpAny_Compare1 (Z0d ha hb I h λv u s2 x y H2 I2 rx ry q=>ho pins s2 σ H2 x y v u Q I2 rx ry q) hm
def Sx (t:TE):TT:=λσ H Q=>t σ H λx H'=>∃k,x = .bl k/\Q k H'
theorem Cr {op:CmpOp}{r:R2}(ho:OpR X (compareOp op) r)(ha:PE X a ta)(hb:PE X b tb)(hm:behindInMarks op b=false):PT X (.Compare a [op] [b] pos) (Sx (tOp r ta tb)):=by
 intro pins s σ H Q I h;refine wpAny_isTrue_Compare1 (thn (ha pins s σ H _ I h) λv s1 ⟨x,H1,I1,r1,q1⟩=>thn (hb pins s1 σ H1 _ I1 q1) λu s2 ⟨y,H2,I2,r2,q2⟩=>
  thn (ho pins s2 σ H2 x y v u _ I2 r1 r2 q2) λc s3 ⟨z,H3,I3,r3,k,e,q3⟩=>?_) hm
 subst e;cases r3;exact W0D ⟨H3,I3,q3⟩
def FT (r r':R2)(ta tb tc:TE):TE:=λσ H Q=>ta σ H λx H1=>tb σ H1 λy H2=>r x y H2 λz H3=>∃k,z = .bl k/\
 (if k=true then tc σ H3 λw' H4=>r' y w' H4 Q else Q (.bl false) H3)
theorem LZ {op op':CmpOp}{r r':R2}(ho:OpR X (compareOp op) r)(ho':OpR X (compareOp op') r')(ha:PE X a ta)(hb:PE X b tb)(hc:PE X c tc)
  (hm:lastMarks [op,op'] [b,c]=false:=by with_unfolding_all rfl):PE X (.Compare a [op,op'] [b,c] pos) (FT r r' ta tb tc):=by
 intro pins s σ H Q I h;refine Compare_chain (thn (ha pins s σ H _ I h) λv s1 ⟨x,H1,I1,r1,q1⟩=>chain_link (thn (hb pins s1 σ H1 _ I1 q1) λu s2 ⟨y,H2,I2,r2,q2⟩=>
  thn (ho pins s2 σ H2 x y v u _ I2 r1 r2 q2) λd s3 ⟨z,H3,I3,r3,k,e,q3⟩=>?_)) hm
 subst e;cases r3;refine W0D ?_
 cases k with
 |false=>exact ite_ff ⟨.bl false,H3,I3,rfl,q3⟩
 |true=>exact ite_tt (chain_last (thn (hc pins s3 σ H3 _ I3 q3) λw' s4 ⟨z',H4,I4,r4,q4⟩=>ho' pins s4 σ H4 y z' u w' Q I4 r2 r4 q4))
def Z0R (K:W4)(x:V)(H:Hp)(k:Bool):Prop:=
 match x with
 | .non=>k=false
 | .bl b=>k=b
 | .int i=>k=(i != 0)
 | .str y=>y.length<=Wd/\k=((y.length:Int) != 0)
 | .byt y=>y.size<=Wd/\k=((y.size:Int) != 0)
 | .ref p=>(∃xs,SqL K H p xs/\k = !xs.isEmpty)\/(∃xs,SqT K H p xs/\k = !xs.isEmpty)\/∃kvs,H p=some (.dK kvs)/\k = !kvs.isEmpty
 |_=>False
theorem K8 {κ:Type}{kvs:List (κ×V)}{vs:List (κ×Value)}(r:KV kvs vs):(!vs.isEmpty) = !kvs.isEmpty:=by
 cases r<;>rfl
theorem Tx {xs:List V}{its:List Value}(r:Y4 xs its):(!its.toArray.isEmpty) = !xs.isEmpty:=by
 cases r<;>simp
theorem UV:(Wd:Nat)<2 ^ 63:=by rw [VW];decide
theorem Sr:Z0S X (λx H Q=>∃k,Z0R X.K x H k/\Q k H):=by
 intro pins s σ H x v Q I rx h;obtain⟨k,e,q⟩:=h
 have hl:=UV
 have hs:Wd=16777216:=VW
 cases x with
 |non=>
  cases rx;have e':k=false:=e
  subst e'
  exact truthy_none ⟨H,I,q⟩
 |bl b=>
  cases rx;have e':k=b:=e
  subst e'
  exact W0D ⟨H,I,q⟩
 |int i=>
  obtain⟨t,rfl⟩:=rx
  have e':k=(i != 0):=e
  subst e'
  exact PySem.P.truthy_int ⟨H,I,q⟩
 |str y=>
  obtain⟨t,rfl⟩:=rx
  obtain⟨hy,e'⟩:y.length<=Wd/\k=((y.length:Int) != 0):=e
  subst e'
  exact PySem.P.truthy_str (by omega) ⟨H,I.tok _,q⟩
 |byt y=>
  obtain⟨t,rfl⟩:=rx
  obtain⟨hy,e'⟩:y.size<=Wd/\k=((y.size:Int) != 0):=e
  subst e'
  exact PySem.W.truthy_bytes (by omega) ⟨H,I.tok _,q⟩
 |ref p=>
  cases rx;have e':(∃xs,SqL X.K H p xs/\k = !xs.isEmpty)\/(∃xs,SqT X.K H p xs/\k = !xs.isEmpty)\/∃kvs,H p=some (.dK kvs)/\k = !kvs.isEmpty:=e
  rcases e' with ⟨xs,hx,e'⟩|⟨xs,hx,e'⟩|⟨kvs,hx,e'⟩
  ·subst e'
   obtain⟨its,r,pl,hz⟩:=I.list hx
   have hlen:=r.length
   exact wpAny_truthy_list pl.isList (by simp only [Wp];omega) ⟨H,I.tok _,by rw [Tx r];exact q⟩
  ·subst e'
   obtain⟨its,r,pl,hz⟩:=I.tuple hx
   have hlen:=r.length
   exact truthy_tuple pl (by simp only [Wp];omega) ⟨H,I.tok _,by rw [Tx r];exact q⟩
  ·subst e'
   obtain⟨hz,hS,vs,r,m⟩:kvs.length<=Wd/\(p == sysModules)=false/\∃vs,KV kvs vs/\s.heap.DictOf (ZW X.prog X.w) p vs:=I.hok p _ hx
   have hlen:kvs.length=vs.length:=W06 r
   exact wpAny_truthy_dict hS m (by omega) ⟨H,I.tok _,by rw [K8 r];exact q⟩
 |_=>exact (show False from e).elim
theorem MV:OpR X (binaryOp .Add) (λx y H Q=>∃i j,x = .str i/\y = .str j/\i.length+j.length<=Wd/\Q (.str (i++j)) H):=by
 intro pins s σ H x y v u Q I rx ry h;obtain⟨i,j,rfl,rfl,hz,q⟩:=h
 obtain⟨t,rfl⟩:=rx
 obtain⟨t',rfl⟩:=ry
 exact add_str (λt' tk=>⟨.str (i++j),H,I.tok _,⟨_,rfl⟩,q⟩) hz
theorem BV {x:V}{us:List Value}(r:Y4 [x] us):∃u,us=[u]/\ZO x u:=by
 cases r with
 |cons r1 r2=>cases r2;exact⟨_,rfl,r1⟩
theorem MH {x y:V}{us:List Value}(r:Y4 [x,y] us):∃u w',us=[u,w']/\ZO x u/\ZO y w':=by
 cases r with
 |cons r1 r2=>
  cases r2 with
  |cons r3 r4=>cases r4;exact⟨_,_,rfl,r1,r3⟩
theorem PY (hc:X.calm=true):Ji X (.builtin "max") (λxs H Q=>∃i j,xs=[.int i,.int j]/\Q (.int (if j>i then j else i)) H):=by
 intro pins s σ H xs us Q I r h;obtain⟨i,j,rfl,q⟩:=h
 obtain⟨u,w',rfl,⟨t,rfl⟩,⟨t',rfl⟩⟩:=MH r
 refine max_two_ints (I.ok.hd hc) λh' tk k=>⟨_,H,I.kept k,?_,q⟩
 by_cases hj:j>i
 ·rw [if_pos hj,if_pos hj];exact⟨_,rfl⟩
 ·rw [if_neg hj,if_neg hj];exact⟨_,rfl⟩
end
end L2
namespace L2
open PySem PySem.Spec PyProof.Rows
structure ObjM (h:Heap) (x dx C:Addr) (mA:Str->Option Value):Prop where
 obj:h.get? x=some (VF C dx)
 ns:h.Ns1 dx mA
 ne:dx≠x
theorem RL {h:Heap}{dx:Addr}{mA:Str->Option Value}(n:h.Ns1 dx mA):∃od,h.get? dx=some od/\∀name,W1i name od=some (mA name):=by
 obtain⟨o,es,ep,ho,hd,hk,_,hm⟩:=n
 refine⟨o,ho,λname=>?_⟩
 have e:=hm name
 unfold nsFind findBy at e;rw [<-Array.find?_toList] at e;unfold W1i;rw [hd];dsimp only;split
 ·rename_i y q
  rw [q] at e;exact congrArg some e
 ·rename_i q
  rw [q] at e;have a:es.toList.any (·.refKey)=false:=by
   rw [List.any_eq_false];intro y hy;obtain⟨z,t,hkey⟩:=hk y (Array.mem_toList_iff.mp hy)
   simp [DictEntry.refKey,hkey]
  have a':¬es.toList.any (·.refKey)=true:=by rw [a];exact Wq
  rw [if_neg a'];exact congrArg some e
theorem ObjM.look {h:Heap}{x dx C:Addr}{mA:Str->Option Value}(I:ObjM h x dx C mA):∃od,PySem.W.InstAt h x (VF C dx) C (some od)/\∀name,W1i name od=some (mA name):=
 let ⟨od,ho,hl⟩:=RL I.ns
 ⟨od,⟨I.obj,rfl,rfl,ho⟩,hl⟩
section
variable {prog:Program} {w:World} {A:Around} {E:Value->Shared->Prop} {s:Shared} {K:W4} {x dx C f:Addr} {mA:Str->Option Value} {name:Str} {v:Value}
theorem Hv {expr:Bool}{Q:Value->Shared->Prop}(X:K.In s.heap)(I:ObjM s.heap x dx C mA)(hg:W0f K C name=true)(hh:V3 K C=true)
  (ha:Ww K (.ref C) name=some none) (hv:mA name=some v) (hv':PySem.W.handedIn v=true) (h:Q v { s with toks:=s.toks+1 }) :
  wpAny (model prog w) A (getAttr (.ref x) name expr) Q E s:=by
 obtain⟨od,J,hl⟩:=I.look
 exact PySem.W.get_value X J (W0Z hg).1 (PySem.W.findObj_own hh ha rfl (by rw [hl,hv])) hv' h
theorem Fs {pl:Sem Bool}{Q:Value×List Value->Shared->Prop}(X:K.In s.heap)(I:ObjM s.heap x dx C mA)(hg:W0f K C name=true)
  (hf:Ww K (.ref C) name=some (some (.ref f))) (ht:Vm K (.ref f)=true) (hv:mA name=none) (h:Q (.ref f,[.ref x]) s) :
  wpAny (model prog w) A (getMethod (.ref x) name pl) Q E s:=by
 obtain⟨od,J,hl⟩:=I.look
 exact PySem.W.method_fn X J (W0Z hg).1 (W0Z hg).2 hf (beq_iff_eq.mp ht) (by show (W1i name od).map (·.isSome)=some false;rw [hl,hv];rfl) h
theorem C9 {ns:List Str}{Q:Unit->Shared->Prop}(X:K.In s.heap)(I:ObjM s.heap x dx C mA)
  (hs:Ww K (.ref C) "__setattr__" = some (some (.builtin "object.__setattr__"))) (hp:W1p K C=true) (ht:PySem.W.takerIn K C name=some none) (hh:V3 K C=true)
  (hw:PySem.Within mA ns) (hsz:ns.length<=Wd)
  (h:∀h',ObjM h' x dx C (λy=>if y=name then some v else mA y)->W02 dx s.heap h'->Q () { s with heap:=h',toks:=s.toks+2 }) :
  wpAny (model prog w) A (setAttr (.ref x) name v) Q E s:=by
 obtain⟨od,J,hl⟩:=I.look
 refine PySem.W.set_plain X J hs (PySem.W.osa_open (s:={ s with toks:=s.toks+1 }) (r:=none) X J hp ht λb=>?_)
 obtain⟨cd,hc,hd'⟩:=PySem.W.any_some hh
 have hx:s.heap.get? x=some ⟨.ref C,some dx,.plain,#[]⟩:=I.obj
 refine W3 (Wn (W3 (W3 (wpAny_loadPart hx (W3 (VX.here (s:={ s with toks:=s.toks+1 }) (PySem.W.looks_clsIn X hc) ?_))))))
 rw [hd'];refine Wn (a:=some dx) (W3 (Wn (W3 ?_)))
 refine wpAny_nsSet1 (s:={ s with toks:=s.toks+1 }) I.ns λh' hn2 hs2=>?_
 obtain⟨oD,esD,epD,hoD,hdD,hcD⟩:=hn2.count (PySem.Within.cons name v hw)
 refine W3 (wpAny_lookBehind hoD (by rw [hdD];exact pastItsLine_dict (VA hcD (by rw [WP];omega))) ?_)
 exact Wn (h _ ⟨(hs2.2 _ (Ne.symm I.ne)).trans I.obj,hn2,I.ne⟩ hs2)
theorem F7 {R:Result->Shared->Prop}{vs:List Value}{kw:List (Str×Value)}(X:K.In s.heap)(hm:PySem.W.makesIn K C=true)
  (hi:Ww K (.ref C) "__init__" = some (some (.ref f))) (hf:W0H K (.ref f)=some (.type "function"))
  (h:codeAny (model prog w) (A.under (.builtin "type.__call__" ⟨.ref C :: vs,kw⟩)) (.call (.ref f) ⟨.ref (s.heap.objs.size+1) :: vs,kw⟩) (PySem.W.InitBack (s.heap.objs.size+1) R)
   { s with heap:=(s.heap.push Vn).push (VF C s.heap.objs.size) }) :
  codeAny (model prog w) A (.call (.ref C) ⟨vs,kw⟩) R s:=by
 obtain⟨hh,g,d,t,os⟩:=s
 exact PySem.W.make_core (PySem.W.makes_of X hm) (W0a X hi) (λself=>PySem.W.bind_fn X self hf) (.inl rfl) h
end
def Tg (f:Str)(v:V):List (Str×V)->List (Str×V)
 |[]=>[(f,v)]
 | (g,x) :: r=>if g=f then (g,v) :: r else (g,x) :: Tg f v r
theorem UU (f g:Str)(v:V):∀fs:List (Str×V),(Tg f v fs).lookup g=if g=f then some v else fs.lookup g
 |[]=>by
  show VY g [(f,v)]=_
  by_cases h:g=f
  ·have hb:(g == f)=true:=beq_iff_eq.mpr h
   simp only [VY,hb,if_pos h]
  ·have hb:(g == f)=false:=beq_eq_false_iff_ne.mpr h
   simp only [VY,hb,if_neg h]
 | (k,x) :: r=>by
  have ih:=UU f g v r
  rw [show Tg f v ((k,x) :: r)=(if k=f then (k,v) :: r else (k,x) :: Tg f v r) from rfl];by_cases hk:k=f
  ·rw [if_pos hk]
   by_cases h:g=k
   ·have hb:(g == k)=true:=beq_iff_eq.mpr h
    simp only [VY,hb,if_pos (h.trans hk)]
   ·have hb:(g == k)=false:=beq_eq_false_iff_ne.mpr h
    simp only [VY,hb,if_neg (λe:g=f=>h (e.trans hk.symm))]
  ·rw [if_neg hk]
   by_cases h:g=k
   ·have hb:(g == k)=true:=beq_iff_eq.mpr h
    simp only [VY,hb,if_neg (λe:g=f=>hk (h.symm.trans e))]
   ·have hb:(g == k)=false:=beq_eq_false_iff_ne.mpr h
    simp only [VY,hb]
    exact ih
theorem UX (f:Str)(v:V):∀fs:List (Str×V),f∈(Tg f v fs).map (·.1)/\∀g,g∈fs.map (·.1)->g∈(Tg f v fs).map (·.1)
 |[]=>⟨by simp [Tg],λg h=>by simp at h⟩
 | (k,x) :: r=>by
  obtain⟨i1,i2⟩:=UX f v r
  rw [show Tg f v ((k,x) :: r)=(if k=f then (k,v) :: r else (k,x) :: Tg f v r) from rfl];by_cases hk:k=f
  ·rw [if_pos hk]
   subst hk;exact⟨by simp,λg h=>by simpa using h⟩
  ·rw [if_neg hk]
   refine⟨?_,λg h=>?_⟩
   ·rw [W1]
    exact Wu _ i1
   ·rw [W1] at h ⊢
    rcases Wr.mp h with e|e
    ·exact Wr.mpr (.inl e)
    ·exact Wu _ (i2 g e)
theorem UW (f:Str)(v:V):∀fs:List (Str×V),(Tg f v fs).length<=fs.length+1
 |[]=>by simp [Tg]
 | (k,x) :: r=>by
  have ih:=UW f v r
  rw [show Tg f v ((k,x) :: r)=(if k=f then (k,v) :: r else (k,x) :: Tg f v r) from rfl];by_cases hk:k=f
  ·rw [if_pos hk,WP,WP];omega
  ·rw [if_neg hk,WP,WP];omega
theorem GP.some_of {v:V}{o:Option Value}(r:GP (some v) o):∃u,o=some u/\ZO v u:=by
 cases o with
 |none=>exact (show False from r).elim
 |some u=>exact⟨u,rfl,r⟩
theorem GP.none_of {o:Option Value}(r:GP none o):o=none:=by
 cases o with
 |none=>rfl
 |some u=>exact (show False from r).elim
theorem Pj {v:V}{u:Value}(r:ZO v u):PySem.W.handedIn u=true:=by
 cases v with
 |non=>cases (show u=Value.none from r);rfl
 |bl b=>cases (show u=Value.bool b from r);rfl
 |int i=>obtain⟨t,e⟩:=(show ∃t,u=Value.int i t from r);cases e;rfl
 |str x=>obtain⟨t,e⟩:=(show ∃t,u=Value.str x t from r);cases e;rfl
 |byt b=>obtain⟨t,e⟩:=(show ∃t,u=Value.bytes b t from r);cases e;rfl
 |flt b=>obtain⟨t,e⟩:=(show ∃t,u=Value.float b t from r);cases e;rfl
 |ref a=>cases (show u=Value.ref a from r);rfl
 |ty n=>cases (show u=Value.type n from r);rfl
section
variable {P:Program} {w:World} {H H':Hp} {h h':Heap} {a C dx:Addr} {fs fs':List (Str×V)}
theorem GA (hok:HOk P w H h)(e:H a=some (.ins C dx fs)):∃mA,ObjM h a dx C mA/\(∀f,GP (fs.lookup f) (mA f))/\PySem.Within mA (fs.map (·.1))/\fs.length<=1000/\H dx=some (.own a):=by
 obtain⟨d,z,ne,ob,mA,n,r,q⟩:=(show ZK P w H h a (.ins C dx fs) from hok a _ e)
 exact⟨mA,⟨ob,n,ne⟩,r,q,z,d⟩
end
structure Cls (K:W4) (C:Addr):Prop where
 pg:W0f K C Str.empty=true
 hd:V3 K C=true
 po:W1p K C=true
 sa:Ww K (.ref C) "__setattr__" = some (some (.builtin "object.__setattr__"))
theorem Cls.get {K:W4}{C:Addr}(c:Cls K C)(f:Str):W0f K C f=true:=c.pg
def Qn (K:W4)(C:Addr)(f:Str):Prop:=Ww K (.ref C) f=some none
theorem Qn.taker {K:W4}{C:Addr}{f:Str}(n:Qn K C f):PySem.W.takerIn K C f=some none:=by
 unfold PySem.W.takerIn;rw [show Ww K (.ref C) f=some none from n];rfl
structure Meth (K:W4) (C:Addr) (m:Str) (f:Addr):Prop where
 at_:Ww K (.ref C) m=some (some (.ref f))
 fn:Vm K (.ref f)=true
 kp:Wy K (.ref f)=true
section
variable {X:Cx} {pins:List (Addr×Obj)} {σ:St} {H:Hp} {s:Shared} {a C dx:Addr} {fs:List (Str×V)} {f:Str} {v:V} {A:Around} {E:Value->Shared->Prop}
theorem TD {b:Bool}{Q:Value->Shared->Prop}(I:Inv X pins σ H s)(e:H a=some (.ins C dx fs))(c:Cls X.K C)(n:Qn X.K C f)(l:fs.lookup f=some v)
  (h:∀u s',Inv X pins σ H s'->ZO v u->Q u s'):wpAny (model X.prog X.w) A (getAttr (.ref a) f b) Q E s:=by
 obtain⟨mA,O,r,_,_,_⟩:=GA I.hok e
 obtain⟨u,hu,ru⟩:=GP.some_of (v:=v) (o:=mA f) (by rw [<-l];exact r f)
 exact Hv I.kIn O (c.get f) c.hd n hu (Pj ru) (h u _ (I.tok _) ru)
theorem U2 {m:Str}{g:Addr}{pl:Sem Bool}{Q:Value×List Value->Shared->Prop}(I:Inv X pins σ H s)(e:H a=some (.ins C dx fs))(c:Cls X.K C)(k:Meth X.K C m g)(l:fs.lookup m=none)
  (h:Q (.ref g,[.ref a]) s):wpAny (model X.prog X.w) A (getMethod (.ref a) m pl) Q E s:=by
 obtain⟨mA,O,r,_,_,_⟩:=GA I.hok e
 have hn:mA m=none:=GP.none_of (by rw [<-l];exact r m)
 exact Fs I.kIn O (c.get m) k.at_ k.fn hn h
theorem Ts {y:V}{u:Value}{Q:Unit->Shared->Prop}(I:Inv X pins σ H s)(e:H a=some (.ins C dx fs))(c:Cls X.K C)(n:Qn X.K C f)(hl:fs.length<1000)(ry:ZO y u)
  (h:∀s',Inv X pins σ (upd H a (.ins C dx (Tg f y fs))) s'->Q () s'):wpAny (model X.prog X.w) A (setAttr (.ref a) f u) Q E s:=by
 obtain⟨mA,O,r,wi,_,ho⟩:=GA I.hok e
 have hz:(fs.map (·.1)).length<=Wd:=by rw [Wm,VW];omega
 refine C9 I.kIn O c.sa c.po n.taker c.hd wi hz λh' O' sb=>h _ ?_
 have hd:∃o,h'.get? dx=some o:=let ⟨o,_,_,e',_⟩:=O'.ns;⟨o,e'⟩
 refine I.write (x:=a) (e:=dx) (by rw [e];exact True.intro) (.inr ho) (λb q hb z=>(sb.2 b hb).trans z) hd ?_
 refine⟨by rw [Zl O.ne];exact ho,?_,O.ne,O'.obj,_,O'.ns,λg=>?_,λg hg=>?_⟩
 ·have:=UW f y fs;omega
 ·show GP ((Tg f y fs).lookup g) (if g=f then some u else mA g)
  rw [UU];by_cases q:g=f
  ·rw [if_pos q,if_pos q];exact ry
  ·rw [if_neg q,if_neg q];exact r g
 ·by_cases q:g=f
  ·rw [q];exact (UX f y fs).1
  ·refine (UX f y fs).2 g (wi g λz=>hg ?_)
   show (if g=f then some u else mA g)=none
   rw [if_neg q];exact z
theorem Inv.made (I:Inv X pins σ H s):Inv X pins σ (upd (upd H s.heap.objs.size (.own (s.heap.objs.size+1))) (s.heap.objs.size+1) (.ins C s.heap.objs.size []))
  { s with heap:=(s.heap.push Vn).push (VF C s.heap.objs.size) }:=by
 have e1:(s.heap.push Vn).get? s.heap.objs.size=some Vn:=WA s.heap rfl
 have e2:((s.heap.push Vn).push (VF C s.heap.objs.size)).get? (s.heap.objs.size+1)=some (VF C s.heap.objs.size):=by
  have:=WA (s.heap.push Vn) (o:=VF C s.heap.objs.size) rfl
  rwa [VB] at this
 have e3:(s.heap.push Vn).Ns s.heap.objs.size (λ_=>none):=⟨Vn,#[],_,e1,rfl,(λe he=>absurd he (by simp)),λ_=>rfl⟩
 have I1:=I.laid (a:=s.heap.objs.size) (o:=.own (s.heap.objs.size+1)) (h':=s.heap.push Vn) (t':=s.toks) (λb u q=>Wk _ q) (Wt _) ⟨_,e1⟩
 refine I1.laid (a:=s.heap.objs.size+1) (o:=.ins C s.heap.objs.size []) (t':=s.toks) (λb u q=>Wk _ q) (Nat.le_of_eq (VB _ _)) ?_
 have ne:s.heap.objs.size≠s.heap.objs.size+1:=WT (Nat.lt_succ_self _)
 refine⟨by rw [Zl ne,Zb],VG _,ne,e2,λ_=>none,(Heap.Ns1.of_empty e3).at λo q=>Wk _ q,λ_=>True.intro,λy hy=>absurd rfl hy⟩
theorem HM {prog:Program}{w:World}{env:Env}{e:Expr}{f:Str}{pos:Pos}{s:Shared}{Q:Value->Shared->Prop}(hb:attributeBase e f env (eval e env)=eval e env)
  (h:wpAny (model prog w) A (eval e env) (λo s₁=>wpAny (model prog w) A (getAttr o f true) Q E s₁) E s):wpAny (model prog w) A (eval (.Attribute e f pos) env) Q E s:=
 Attribute_any_ h (by rw [arm_eval_Attribute,hb])
end
def Z13 (K:W4)(ta:TE)(f:Str):TE:=λσ H Q=>ta σ H λx H1=>∃a C dx fs v,x = .ref a/\H1 a=some (.ins C dx fs)/\Cls K C/\Qn K C f/\fs.lookup f=some v/\Q v H1
def Z19 (K:W4)(ta tv:TE)(f:Str):TS:=λD σ H=>tv σ H λy H1=>ta σ H1 λx H2=>∃a C dx fs,x = .ref a/\H2 a=some (.ins C dx fs)/\Cls K C/\Qn K C f/\fs.length<1000/\
 D.nx σ (upd H2 a (.ins C dx (Tg f y fs)))
def Z0U (X:Cx)(op:Operator)(rd:V->V->Hp->VK->Prop):Prop:=
 ∀(pins:List (Addr×Obj)) (s:Shared) (σ:St) (H:Hp) (x y:V) (u v:Value) (Q:VK),Inv X pins σ H s->ZO x u->ZO y v->rd x y H Q->wpAny (model X.prog X.w) X.A (inplaceOp op u v) (EP X pins σ Q) X.xe s
def Cl (K:W4)(ta tv:TE)(rd:V->V->Hp->VK->Prop)(f:Str):TS:=λD σ H=>ta σ H λx H1=>∃a C dx fs v,x = .ref a/\H1 a=some (.ins C dx fs)/\Cls K C/\Qn K C f/\fs.lookup f=some v/\
 tv σ H1 λy H2=>rd v y H2 λz H3=>∃dx' fs',H3 a=some (.ins C dx' fs')/\fs'.length<1000/\D.nx σ (upd H3 a (.ins C dx' (Tg f z fs')))
section
variable {X:Cx} {o e value:Expr} {f:Str} {pos pos' tpos:Pos} {ta tv:TE}
theorem Iz (he:PE X e ta)(hb:attributeBase e f X.env (eval e X.env)=eval e X.env):PE X (.Attribute e f pos) (Z13 X.K ta f):=by
 intro pins s σ H Q I h;refine HM hb (thn (he pins s σ H _ I h) λu s1 ⟨x,H1,I1,rx,a,C,dx,fs,v,ex,ea,c,n,l,q⟩=>?_)
 subst ex;obtain rfl:u=Value.ref a:=rx
 exact TD I1 ea c n l λu' s2 I2 ru=>⟨v,H1,I2,ru,q⟩
theorem Il (ha:PE X o ta)(hv:PE X value tv)(hs:swapsWith value (some (.Attribute o f pos')) pos.line X.env=pure false):PS X (.Assign [.Attribute o f pos'] value pos) (Z19 X.K ta tv f):=by
 intro pins s σ H D I h;refine plainObj_wpAny_Assign_Attribute (thn (hv pins s σ H _ I h) λu s1 ⟨y,H1,I1,ry,q⟩=>thn (ha pins s1 σ H1 _ I1 q) λov s2 ⟨x,H2,I2,rx,a,C,dx,fs,ex,ea,c,n,l,q2⟩=>?_) hs
 subst ex;obtain rfl:ov=Value.ref a:=rx
 exact Ts I2 ea c n l ry λs3 I3=>⟨σ,_,I3,q2⟩
theorem Rf {op:Operator}{rd:V->V->Hp->VK->Prop}(ha:PE X o ta)(hv:PE X value tv)(hop:Z0U X op rd):PS X (.AugAssign (.Attribute o f tpos) op value pos) (Cl X.K ta tv rd f):=by
 intro pins s σ H D I h;refine wpAny_AugAssign_AttributeAny (thn (ha pins s σ H _ I h) λov s1 ⟨x,H1,I1,rx,a,C,dx,fs,v,ex,ea,c,n,l,q⟩=>?_)
 subst ex;obtain rfl:ov=Value.ref a:=rx
 refine TD I1 ea c n l λu s2 I2 ru=>thn (hv pins s2 σ H1 _ I2 q) λw3 s3 ⟨y,H2,I3,ry,q3⟩=>thn (hop pins s3 σ H2 v y u w3 _ I3 ru ry q3) λw4 s4 ⟨z,H3,I4,rz,dx',fs',ea',l',q4⟩=>?_
 exact Ts I4 ea' c n l' rz λs5 I5=>⟨σ,_,I5,q4⟩
def Z1b:V->V->Hp->VK->Prop:=λx y H Q=>∃i j,x = .int i/\y = .int j/\Q (.int (i+j)) H
theorem DM:Z0U X .Add Z1b:=by
 rintro pins s σ H x y u v Q I rx ry ⟨i,j,rfl,rfl,q⟩
 obtain⟨t,rfl⟩:=(show ∃t,u=Value.int i t from rx)
 obtain⟨t',rfl⟩:=(show ∃t',v=Value.int j t' from ry)
 exact PyProof.Rows.iadd_int ⟨.int (i+j),H,I.tok _,⟨_,rfl⟩,q⟩
end
section
variable {X:Cx} {pins:List (Addr×Obj)} {σ:St} {H:Hp} {s:Shared} {A:Around} {E:Value->Shared->Prop} {Q:Value->Shared->Prop} {c:Value} {b:Bool}
inductive TyOf (K:W4) (H:Hp):V->Value->Prop where
 |non:TyOf K H .non (.type "NoneType")
 |bl (x:Bool):TyOf K H (.bl x) (.type "bool")
 |int (i:Int):TyOf K H (.int i) (.type "int")
 |str (x:Str):TyOf K H (.str x) (.type "str")
 |flt (x:UInt64):TyOf K H (.flt x) (.type "float")
 |lst {a:Addr} {xs:List V} (e:H a=some (.lst xs)):TyOf K H (.ref a) (.type "list")
 |frz {a:Addr} {o:Obj} {xs:List V} (e:H a=some (.frz o (.lst xs))):TyOf K H (.ref a) (.type "list")
 |tup {a:Addr} {xs:List V} (e:H a=some (.tup xs)):TyOf K H (.ref a) (.type "tuple")
 |dK {a:Addr} {kvs:List (Key×V)} (e:H a=some (.dK kvs)):TyOf K H (.ref a) (.type "dict")
 |dT {a:Addr} {kvs:List (List Key×V)} (e:H a=some (.dT kvs)):TyOf K H (.ref a) (.type "dict")
 |ins {a C dx:Addr} {fs:List (Str×V)} (e:H a=some (.ins C dx fs)) (cl:Cls K C) (ha:Ww K (.ref C) "__class__" = some (some (.builtin "object.__class__")))
   (hn:W1q K (.builtin "object.__class__") "__get__" = some (some (.builtin "getset_descriptor.__get__"))) (htk:PySem.W.takesIn K (.builtin "object.__class__")=some true)
   (hm:V0 K C (.type "object")=some true):TyOf K H (.ref a) (.ref C)
theorem Pe {x:V}{u t:Value}(I:Inv X pins σ H s)(rx:ZO x u)(ty:TyOf X.K H x t)(e:WQ X.K t c=some b)(h:∀tk,Q (.bool b) { s with toks:=tk }) :
  wpAny (model X.prog X.w) A (call (.builtin "isinstance") [u,c]) Q E s:=by
 cases ty with
 |non=>cases (show u=Value.none from rx);exact Vf PySem.W.kitx_none I.kIn True.intro e (λz=>nomatch z) h
 |bl y=>cases (show u=Value.bool y from rx);exact Vf PySem.W.kitx_bool I.kIn True.intro e (λz=>nomatch z) h
 |int i=>obtain⟨t,q⟩:=(show ∃t,u=Value.int i t from rx);cases q;exact Vf PySem.W.kitx_int I.kIn True.intro e (λz=>nomatch z) h
 |str y=>obtain⟨t,q⟩:=(show ∃t,u=Value.str y t from rx);cases q;exact Vf PySem.W.kitx_str I.kIn True.intro e (λz=>nomatch z) h
 |flt y=>obtain⟨t,q⟩:=(show ∃t,u=Value.float y t from rx);cases q;exact Vf PySem.W.kitx_float I.kIn True.intro e (λz=>nomatch z) h
 | @lst a xs ea=>
  cases (show u=Value.ref a from rx)
  obtain⟨_,_,n,_,h1⟩:=(show ZK X.prog X.w H s.heap a (.lst xs) from I.hok a _ ea)
  exact Vf W1r I.kIn ⟨_,h1,rfl⟩ e (λz=>nomatch z) h
 | @frz a ob xs ea=>
  cases (show u=Value.ref a from rx)
  obtain⟨_,_,_,n,_,h1⟩:=(show ZK X.prog X.w H s.heap a (.frz ob (.lst xs)) from I.hok a _ ea)
  exact Vf W1r I.kIn ⟨_,h1,rfl⟩ e (λz=>nomatch z) h
 | @tup a xs ea=>
  cases (show u=Value.ref a from rx)
  obtain⟨_,_,_,p⟩:=(show ZK X.prog X.w H s.heap a (.tup xs) from I.hok a _ ea)
  obtain⟨⟨o,h1,h2,_⟩,_⟩:=p
  exact Vf PySem.W.kitx_tuple I.kIn ⟨o,h1,h2⟩ e (λz=>nomatch z) h
 | @dK a kvs ea=>
  cases (show u=Value.ref a from rx)
  obtain⟨_,_,vs,_,p⟩:=(show ZK X.prog X.w H s.heap a (.dK kvs) from I.hok a _ ea)
  obtain⟨o,es,ep,h1,h2,_⟩:=p
  exact Vf W1s I.kIn ⟨o,h1,h2.1⟩ e (λz=>nomatch z) h
 | @dT a kvs ea=>
  cases (show u=Value.ref a from rx)
  obtain⟨_,_,xs,_,o,es,ep,h1,h2,_⟩:=(show ZK X.prog X.w H s.heap a (.dT kvs) from I.hok a _ ea)
  exact Vf W1s I.kIn ⟨o,h1,h2.1⟩ e (λz=>nomatch z) h
 | @ins a C dx fs ea cl ha hn htk hm=>
  cases (show u=Value.ref a from rx)
  obtain⟨mA,O,_⟩:=GA I.hok ea
  obtain⟨od,J,_⟩:=O.look
  exact Vf (PySem.W.kitx_own (cl.get _) cl.hd ha hn htk hm) I.kIn J e (λz=>nomatch z) h
end
end L2
namespace L2
open PySem PySem.Spec PyProof.Rows
structure Room (k:Nat) (A:Around):Prop where
 hd:A.handled=none
 dp:A.depth+3*k+5<recursionLimit
 un:A.units+16*k+200<cLine
theorem Room.mono {j k:Nat}{A:Around}(r:Room k A)(h:j<=k):Room j A:=⟨r.hd,by have:=r.dp;omega,by have:=r.un;omega⟩
theorem Room.deeper {k:Nat}{A:Around}(r:Room (k+1) A)(env:Env):Room k (A.deeper env):=
 ⟨r.hd,by have:=r.dp;show A.depth+1+3*k+5<_;omega,by have:=r.un;show A.units+3+16*k+200<_;omega⟩
theorem MZ {A:Around}{C:Addr}{us:List Value}{kw:List (Str×Value)}:(A.under (.builtin "type.__call__" ⟨.ref C :: us,kw⟩)).depth=A.depth+1:=by
 first|rfl|simp [Around.under,Code.weight,Code.isCreation,Code.isGuard,Code.isCaller,Code.frames,Code.isFrame,guardIds]
theorem MY {A:Around}{C:Addr}{us:List Value}{kw:List (Str×Value)}:(A.under (.builtin "type.__call__" ⟨.ref C :: us,kw⟩)).units=A.units+1:=by
 first|rfl|simp [Around.under,Code.cUnits,Code.frames,Code.isFrame]
theorem Room.make {k:Nat}{A:Around}(r:Room (k+1) A)(C:Addr)(us:List Value)(kw:List (Str×Value)):Room k (A.under (.builtin "type.__call__" ⟨.ref C :: us,kw⟩)):=
 ⟨r.hd,by have:=r.dp;rw [MZ];omega,by have:=r.un;rw [MY];omega⟩
theorem Room.depth {k:Nat}{A:Around}(r:Room k A):A.depth<recursionLimit:=by have:=r.dp;omega
def Sz:TA:=λ_ H Q=>Q [] H
def KI (ta:TE)(tr:TA):TA:=λσ H Q=>ta σ H λx H1=>tr σ H1 λxs H2=>Q (x :: xs) H2
section
variable {X:Cx} {e:Expr} {es:List Expr} {te:TE} {t:TA} {pos:Pos}
theorem YD:PA X [] Sz:=λ_ _ _ _ H Q I h=>W07 ⟨[],H,I,.nil,h⟩
theorem ZP (ha:PE X e te)(hr:PA X es t)(hs:Wo (e :: es) X.env=(false,eval e X.env) :: Wo es X.env:=by rfl):PA X (e :: es) (KI te t):=by
 intro pos pins s σ H Q I h;rw [hs];show wpAny _ _ (spliced ((false,eval e X.env) :: backTo pos (Wo es X.env))) _ _ s
 refine VM (thn (ha pins s σ H _ I h) λu s1 ⟨x,H1,I1,r1,q1⟩=>?_)
 exact thn (hr pos pins s1 σ H1 _ I1 q1) λus s2 ⟨xs,H2,I2,r2,q2⟩=>⟨x :: xs,H2,I2,.cons r1 r2,q2⟩
def Z0W (t:TA):TE:=λσ H Q=>t σ H λxs H1=>xs.length<=Wd/\∀p,H1 p=none->Q (.ref p) (upd H1 p (.tup xs))
def Z10 (t:TA):TE:=λσ H Q=>t σ H λxs H1=>xs.length<=Wd/\∀p,H1 p=none->Q (.ref p) (upd H1 p (.lst xs))
theorem Rn {x1}(h:PA X es t):PE X (.Tuple es x1 pos) (Z0W t):=by
 intro pins s σ H Q I hq;refine wpAny_Tuple_spliced (thn (h pos pins s σ H _ I hq) λus s1 ⟨xs,H1,I1,r,z,q⟩=>⟨by rw [<-r.length];exact z,?_⟩)
 have hf:H1 s1.heap.objs.size=none:=I1.hok.fresh (Wt _)
 refine⟨.ref s1.heap.objs.size,upd H1 s1.heap.objs.size (.tup xs),I1.laid (t':=s1.toks) (λb u e=>Wk _ e) (Wt _) ?_,rfl,q _ hf⟩
 exact⟨z,us,r,EL.new _ _⟩
theorem Ix (h:PA X es t):PE X (.List es pos) (Z10 t):=by
 intro pins s σ H Q I hq;refine wpAny_List_spliced (thn (h pos pins s σ H _ I hq) λus s1 ⟨xs,H1,I1,r,z,q⟩=>⟨by rw [<-r.length];exact z,?_⟩)
 have hf:H1 s1.heap.objs.size=none:=I1.hok.fresh (Wt _)
 refine⟨.ref s1.heap.objs.size,upd H1 s1.heap.objs.size (.lst xs),I1.laid (t':=s1.toks) (λb u e=>Wk _ e) (Wt _) ?_,rfl,q _ hf⟩
 exact⟨z,us,0,r,WA _ rfl⟩
end
abbrev Sp:=List V->Hp->VK->XK->Prop
abbrev CXT:=List Env->Hp->Shared->XK->Value->Shared->Prop
structure Env0 (P:Program) (w:World) (K:W4) (mg:Str->Option Value) (base:Heap) (A:Around) (outer:List Env) (s:Shared) (H:Hp):Prop where
 frames:A.frames=some outer
 mod:Mod K mg base
 bs:∀b o,base.get? b=some o->s.heap.get? b=some o/\H b=none
 bsz:base.objs.size<=s.heap.objs.size
 funs:s.heap.FunFrames base outer
 frf:∀b∈frs outer,H b=none
 hok:HOk P w H s.heap
 bare:AllBare s.gens
def CE (outer:List Env)(P:Program)(w:World)(H:Hp)(s:Shared)(Q:VK)(u:Value)(s':Shared):Prop:=
 ∃v H',s'.os=s.os/\AllBare s'.gens/\Un (frs outer) [] H H' s.heap s'.heap/\HOk P w H' s'.heap/\ZO v u/\Q v H'
def CR (CX:CXT)(outer:List Env)(P:Program)(w:World)(H:Hp)(s:Shared)(Q:VK)(E:XK)(r:Result)(s':Shared):Prop:=
 match r with
 | .ok (.ret u)=>CE outer P w H s Q u s'
 | .ok _=>False
 | .error e=>CX outer H s E e s'
structure FnOk (P:Program) (w:World) (K:W4) (mg:Str->Option Value) (base:Heap) (CX:CXT) (k:Nat) (f:Addr) (fd:FuncData) (ps:List Str) (sp:Sp):Prop where
 len:∀vs H Q E,sp vs H Q E->vs.length=ps.length
 run:∀(A:Around) (outer:List Env) (s:Shared) (H:Hp) (args:Args) (us:List Value) (vs:List V) (Q:VK) (E:XK),Room k A->Env0 P w K mg base A outer s H->BindsTo s fd args (ps.zip us)->Y4 vs us->sp vs H Q E->
  codeAny (model P w) A (.call (.ref f) args) (CR CX outer P w H s Q E) s
theorem Env0.make {P:Program}{w:World}{K:W4}{mg:Str->Option Value}{base:Heap}{A:Around}{outer:List Env}{s:Shared}{H:Hp}(e:Env0 P w K mg base A outer s H)(C:Addr)(us:List Value)(kw:List (Str×Value)) :
  Env0 P w K mg base (A.under (.builtin "type.__call__" ⟨.ref C :: us,kw⟩)) outer s H:=⟨by first|exact e.frames|(simpa [Around.under,Code.envs,Code.isFrame,pushEnvs] using e.frames),e.mod,e.bs,e.bsz,e.funs,e.frf,e.hok,e.bare⟩
section
variable {X:Cx} {pins:List (Addr×Obj)} {σ:St} {H:Hp} {s s':Shared}
theorem Inv.env0 (I:Inv X pins σ H s):Env0 X.prog X.w X.K X.mg X.base X.A X.stack s H:=
 ⟨I.ok.frames,I.ok.mod,I.bs,VA I.ok.bsz I.sz,I.stack,I.stkFree,I.hok,I.bare⟩
theorem Inv.after {Q:VK}{u:Value}(I:Inv X pins σ H s)(h:CE X.stack X.prog X.w H s Q u s'):EP X pins σ Q u s':=by
 obtain⟨v,H',os,bare,un,hok,r,q⟩:=h
 obtain⟨hh,g,d,t,os'⟩:=s'
 obtain rfl:os'=s.os:=os
 exact⟨v,H',I.call (h':=hh) (g':=g) (d':=d) (t':=t) (ch:=[]) un hok bare (λb z=>absurd z (by simp)),r,q⟩
end
def X6 (sp:Sp)(dvs:List V)(E:XK)(t:TA):TE:=λσ H Q=>t σ H λvs H1=>sp (vs++dvs) H1 Q E
def C5 (C:Addr)(m:Str)(sp:Sp)(dvs:List V)(E:XK)(ta:TE)(t:TA):TE:=λσ H Q=>ta σ H λx H1=>∃a dx fs,x = .ref a/\H1 a=some (.ins C dx fs)/\fs.lookup m=none/\
 t σ H1 λvs H2=>sp (x :: (vs++dvs)) H2 Q E
def SC (C:Addr)(sp:Sp)(dvs:List V)(E:XK)(t:TA):TE:=λσ H Q=>t σ H λvs H1=>∀x dx,H1 x=none->H1 dx=none->dx≠x->
 sp (.ref x :: (vs++dvs)) (upd (upd H1 dx (.own x)) x (.ins C dx [])) (λv H2=>v = .non/\Q (.ref x) H2) E
def Qv (K:W4)(fd:FuncData)(ps:List Str)(ds:List Value):Prop:=
 ∀(s:Shared) (us:List Value),K.In s.heap->(us++ds).length=ps.length->BindsTo s fd ⟨us,[]⟩ (ps.zip (us++ds))
theorem Qv.all {K:W4}{fd:FuncData}{ps:List Str}(h:∀us:List Value,us.length=ps.length->bindArgs fd ⟨us,[]⟩=pure (ps.zip us)):Qv K fd ps []:=λs us _ hl=>by
 rw [V8] at hl ⊢
 exact .of_eq (h us hl)
def Tb (CX:CXT)(X:Cx)(E:XK):Prop:=∀(pins:List (Addr×Obj)) (σ:St) (H:Hp) (s:Shared) (e:Value) (s':Shared),Inv X pins σ H s->CX X.stack H s E e s'->X.xe e s'
section
variable {X:Cx} {CX:CXT} {k:Nat} {f C:Addr} {fd:FuncData} {ps:List Str} {sp:Sp} {dvs:List V} {ds:List Value} {E:XK} {x m:Str} {p pos apos:Pos} {e o:Expr} {es:List Expr} {ta:TE} {t:TA}
theorem R7 {pins:List (Addr×Obj)}{σ:St}{H:Hp}{s:Shared}{Q:VK}{us:List Value}{vs:List V}(F:FnOk X.prog X.w X.K X.mg X.base CX k f fd ps sp)(hr:Room k X.A)(hb:Qv X.K fd ps ds)(hd:Y4 dvs ds)(hx:Tb CX X E)
  (I:Inv X pins σ H s) (r:Y4 vs us) (h:sp (vs++dvs) H Q E):wpAny (model X.prog X.w) X.A (call (.ref f) us) (EP X pins σ Q) X.xe s:=by
 have r2:Y4 (vs++dvs) (us++ds):=r.append hd
 have hl:(us++ds).length=ps.length:=by rw [<-r2.length];exact F.len _ _ _ _ h
 refine wpAny_call (W1d (F.run X.A X.stack s H ⟨us,[]⟩ (us++ds) (vs++dvs) Q E hr I.env0 (hb s us I.kIn hl) r2 h) λr s' hq=>?_)
 cases r with
 |error e=>exact hx pins σ H s e s' I hq
 |ok fl=>
  cases fl with
  |ret u=>exact I.after hq
  |next=>exact False.elim hq
  |brk=>exact False.elim hq
  |cont=>exact False.elim hq
theorem CG (F:FnOk X.prog X.w X.K X.mg X.base CX k f fd ps sp)(hr:Room k X.A)(hg:Gl X x)(hm:X.mg x=some (.ref f))(hk:Wy X.K (.ref f)=true)(hb:Qv X.K fd ps ds)(hd:Y4 dvs ds)(hx:Tb CX X E)
  (ha:PA X (e :: es) t) (hdb:(x == ("__debug__" : Str))=false:=by decide) (he:Wo (e :: es) X.env=(false,eval e X.env) :: Wo es X.env:=by rfl) (hpl:(backTo pos (Wo es X.env)).any (·.1)=false:=by rfl) :
  PE X (.Call (.Name x p) (e :: es) [] pos) (X6 sp dvs E t):=by
 intro pins s σ H Q I h;refine Vq (Jn I hg hm ?_ hdb)
 refine W00 (h₀:=X.base) I.ok.mod.kin hk (thn (ha pos pins s σ H _ I h) λus s1 ⟨vs,H1,I1,r,q⟩=>⟨I1.kIn,?_⟩) he hpl
 exact R7 F hr hb hd hx I1 r q
theorem CB {pl:Sem Bool}(he:PE X o ta)(c:Cls X.K C)(hm:Meth X.K C m f)(F:FnOk X.prog X.w X.K X.mg X.base CX k f fd ps sp)(hr:Room k X.A)(hb:Qv X.K fd ps ds)(hd:Y4 dvs ds)(hx:Tb CX X E)(ha:PA X (e :: es) t)
  (hst:Wo (e :: es) X.env=(false,eval e X.env) :: Wo es X.env:=by rfl) (hpl:(backTo pos (Wo es X.env)).any (·.1)=false:=by rfl)
  (ht:eval (.Call (.Attribute o m apos) (e :: es) [] pos) X.env=(do
   let ov <-eval o X.env
   standAt apos.atName
   let (f,first) <-holding [ov] (getMethod ov m pl)
   callWith pos f first (backTo pos (Wo (e :: es) X.env)) (backToKw pos (keywordEach [] X.env))):=by rfl) :
  PE X (.Call (.Attribute o m apos) (e :: es) [] pos) (C5 C m sp dvs E ta t):=by
 intro pins s σ H Q I h;refine W0J (pl:=pl) (thn (he pins s σ H _ I h) λu s1 ⟨x,H1,I1,rx,a,dx,fs,ex,ea,l,q⟩=>?_) ht
 subst ex;obtain rfl:u=Value.ref a:=rx
 refine U2 I1 ea c hm l ?_
 refine W00 (first:=[.ref a]) (h₀:=X.base) I.ok.mod.kin hm.kp (thn (ha pos pins s1 σ H1 _ I1 q) λus s2 ⟨vs,H2,I2,r,q2⟩=>⟨I2.kIn,?_⟩) hst hpl
 exact R7 (us:=.ref a :: us) (vs:=.ref a :: vs) F hr hb hd hx I2 (.cons rfl r) q2
theorem LW {pl:Sem Bool}(he:PE X o ta)(c:Cls X.K C)(hm:Meth X.K C m f)(F:FnOk X.prog X.w X.K X.mg X.base CX k f fd ps sp)(hr:Room k X.A)(hb:Qv X.K fd ps ds)(hd:Y4 dvs ds)(hx:Tb CX X E)
  (ht:eval (.Call (.Attribute o m apos) [] [] pos) X.env=(do
   let ov <-eval o X.env
   standAt apos.atName
   let (f,first) <-holding [ov] (getMethod ov m pl)
   callWith pos f first (backTo pos (Wo [] X.env)) (backToKw pos (keywordEach [] X.env))):=by rfl) :
  PE X (.Call (.Attribute o m apos) [] [] pos) (C5 C m sp dvs E ta Sz):=by
 intro pins s σ H Q I h;refine W0J (pl:=pl) (thn (he pins s σ H _ I h) λu s1 ⟨x,H1,I1,rx,a,dx,fs,ex,ea,l,q⟩=>?_) ht
 subst ex;obtain rfl:u=Value.ref a:=rx
 refine U2 I1 ea c hm l ?_
 exact PySem.W.callWith_K0 (first:=[.ref a]) I1.kIn hm.kp (R7 (us:=[.ref a]) (vs:=[.ref a]) F hr hb hd hx I1 (.cons rfl .nil) q)
structure Mk (K:W4) (C f:Addr):Prop where
 makes:PySem.W.makesIn K C=true
 init:Ww K (.ref C) "__init__" = some (some (.ref f))
 fn:Vm K (.ref f)=true
 kp:Wy K (.ref C)=true
theorem LF {pins:List (Addr×Obj)}{σ:St}{H:Hp}{s:Shared}{Q:VK}{us:List Value}{vs:List V}(M:Mk X.K C f)(F:FnOk X.prog X.w X.K X.mg X.base CX k f fd ps sp)(hr:Room (k+1) X.A)(hb:Qv X.K fd ps ds)(hd:Y4 dvs ds)
  (hx:Tb CX X E) (I:Inv X pins σ H s) (r:Y4 vs us)
  (h:∀x dx,H x=none->H dx=none->dx≠x->sp (.ref x :: (vs++dvs)) (upd (upd H dx (.own x)) x (.ins C dx [])) (λv H2=>v = .non/\Q (.ref x) H2) E) :
  wpAny (model X.prog X.w) X.A (call (.ref C) us) (EP X pins σ Q) X.xe s:=by
 have hq:=h (s.heap.objs.size+1) s.heap.objs.size (I.hok.fresh (Nat.le_succ _)) (I.hok.fresh (Wt _)) (WT (Nat.lt_succ_self _))
 have I2:=Inv.made (C:=C) I
 have r2:Y4 (V.ref (s.heap.objs.size+1) :: (vs++dvs)) (Value.ref (s.heap.objs.size+1) :: (us++ds)):=.cons rfl (r.append hd)
 have hl:(Value.ref (s.heap.objs.size+1) :: us++ds).length=ps.length:=by
  have e:=r2.length
  rw [F.len _ _ _ _ hq] at e;exact e.symm
 refine wpAny_call (F7 (f:=f) I.kIn M.makes M.init (beq_iff_eq.mp M.fn) (W1d (F.run _ X.stack _ _ ⟨Value.ref (s.heap.objs.size+1) :: us,[]⟩ (Value.ref (s.heap.objs.size+1) :: (us++ds)) _ _ E (hr.make C us [])
  (I2.env0.make C us []) (hb _ (Value.ref (s.heap.objs.size+1) :: us) I2.kIn hl) r2 hq) λr s' hq'=>?_))
 cases r with
 |error e=>exact hx pins σ _ _ e s' I2 hq'
 |ok fl=>
  cases fl with
  |ret u=>
   obtain⟨v,H',I3,rv,ev,q3⟩:=I2.after hq'
   subst ev;exact⟨rv,⟨V.ref (s.heap.objs.size+1),H',I3,rfl,q3⟩⟩
  |next=>exact False.elim hq'
  |brk=>exact False.elim hq'
  |cont=>exact False.elim hq'
theorem CC (M:Mk X.K C f)(F:FnOk X.prog X.w X.K X.mg X.base CX k f fd ps sp)(hr:Room (k+1) X.A)(hg:Gl X x)(hm:X.mg x=some (.ref C))(hb:Qv X.K fd ps ds)(hd:Y4 dvs ds)(hx:Tb CX X E)
  (ha:PA X (e :: es) t) (hdb:(x == ("__debug__" : Str))=false:=by decide) (he:Wo (e :: es) X.env=(false,eval e X.env) :: Wo es X.env:=by rfl) (hpl:(backTo pos (Wo es X.env)).any (·.1)=false:=by rfl) :
  PE X (.Call (.Name x p) (e :: es) [] pos) (SC C sp dvs E t):=by
 intro pins s σ H Q I h;refine Vq (Jn I hg hm ?_ hdb)
 refine W00 (h₀:=X.base) I.ok.mod.kin M.kp (thn (ha pos pins s σ H _ I h) λus s1 ⟨vs,H1,I1,r,q⟩=>⟨I1.kIn,?_⟩) he hpl
 exact LF M F hr hb hd hx I1 r q
end
section
variable {X:Cx} {CX:CXT} {k:Nat} {f C:Addr} {fd:FuncData} {ps ks:List Str} {sp:Sp} {E:XK} {x m:Str} {p pos apos kpos:Pos} {e o:Expr} {es:List Expr} {kws:List Keyword} {te ta:TE} {t tk:TA} {nm:Option Str}
variable {g:List Value->List Value->List Value} {gV:List V->List V->List V}
end
structure FnScope (N P:List Str) (sc:Scope):Prop where
 kind:sc.kind = .function
 co:sc.isCoroutine=false
 gen:sc.isGenerator=false
 nd:N.Nodup
 pre:N.take P.length=P
 par:∀x∈P,sc.names.lookup x=some .local\/sc.names.lookup x=some .cell
 nofree:∀y∈sc.names,y.2≠.free
theorem BP {kindOf:Str->Option NameKind}{x:Str}:∀{binds:List (Str×Value)} {m:Str->Option Value},(∀v,(x,v)∉binds)->bindL kindOf binds m x=m x
 |[],_,_=>rfl
 | (n,v) :: r,m,h=>by
  unfold bindL;rw [BP λw hw=>h w (Wu _ hw)]
  split
  ·have:x≠n:=by rintro rfl;exact h v Wv
   simp [this]
  ·rfl
theorem BR {kindOf:Str->Option NameKind}{x:Str}:∀{binds:List (Str×Value)} {m:Str->Option Value},(∀v,(x,v)∉binds)->bindC kindOf binds m x=m x
 |[],_,_=>rfl
 | (n,v) :: r,m,h=>by
  unfold bindC;rw [BR λw hw=>h w (Wu _ hw)]
  split
  ·rfl
  ·have:x≠n:=by rintro rfl;exact h v Wv
   simp [this]
theorem BQ {kindOf:Str->Option NameKind}{x:Str}{v:Value}:∀{P:List Str} {vs:List Value} {i:Nat} {m:Str->Option Value},P.Nodup->P[i]? = some x->vs[i]? = some v->kindOf x=some .local->
  bindL kindOf (P.zip vs) m x=some v
 |[],_,_,_,_,h,_,_=>by simp at h
 |_ :: _,[],_,_,_,_,h,_=>by simp at h
 |p :: P,w :: vs,0,m,nd,h1,h2,hk=>by
  simp at h1 h2;subst h1;subst h2
  show bindL kindOf ((p,w) :: P.zip vs) m p=_
  unfold bindL;rw [BP λv hv=>(W03.mp nd).1 (List.of_mem_zip hv).1,if_pos hk]
  simp
 |p :: P,w :: vs,i+1,m,nd,h1,h2,hk=>by
  show bindL kindOf ((p,w) :: P.zip vs) m x=_
  unfold bindL;exact BQ (i:=i) (W03.mp nd).2 (by simpa using h1) (by simpa using h2) hk
theorem BS {kindOf:Str->Option NameKind}{x:Str}{v:Value}:∀{P:List Str} {vs:List Value} {i:Nat} {m:Str->Option Value},P.Nodup->P[i]? = some x->vs[i]? = some v->kindOf x≠some .local->
  bindC kindOf (P.zip vs) m x=some v
 |[],_,_,_,_,h,_,_=>by simp at h
 |_ :: _,[],_,_,_,_,h,_=>by simp at h
 |p :: P,w :: vs,0,m,nd,h1,h2,hk=>by
  simp at h1 h2;subst h1;subst h2
  show bindC kindOf ((p,w) :: P.zip vs) m p=_
  unfold bindC;rw [BR λv hv=>(W03.mp nd).1 (List.of_mem_zip hv).1,if_neg hk]
  simp
 |p :: P,w :: vs,i+1,m,nd,h1,h2,hk=>by
  show bindC kindOf ((p,w) :: P.zip vs) m x=_
  unfold bindC;exact BS (i:=i) (W03.mp nd).2 (by simpa using h1) (by simpa using h2) hk
def start (N:List Str)(vs:List V):St:=vs.map some++VQ (N.length-vs.length) none
def Lk (CX:CXT)(P:Program)(w:World)(K:W4)(mg:Str->Option Value)(base:Heap)(N:List Str)(qual:Str)(scope:Scope)(f:Addr)(cd:Value)(A:Around)(outer:List Env)(s:Shared)(H:Hp)(E:XK):Cx where
 prog:=P
 w:=w
 K:=K
 mg:=mg
 base:=base
 A:=A.deeper (envOfC qual scope s.heap.objs.size f cd)
 N:=N
 s₀:=s
 H₀:=H
 env:=envOfC qual scope s.heap.objs.size f cd
 outer:=outer
 stack:=envOfC qual scope s.heap.objs.size f cd :: outer
 ex:=[]
 calm:=true
 fn:=λ_=>true
 pn:=[]
 xe:=λe s'=>wpAny (model P w) (A.deeper (envOfC qual scope s.heap.objs.size f cd)) (leaving (envOfC qual scope s.heap.objs.size f cd) e) (λ_ s''=>CX outer H s E e s'') (λe' s''=>CX outer H s E e' s'') s'
theorem ME {sc:Scope}{n:Nat}{x:Str}(h:sc.names.lookup x=some .cell):∃c,(cellsFrom n sc.names []).lookup x=some c:=by
 have q:=PySem.W.cellsFrom_some sc.names n [] (.inl h)
 exact W1t.mp q
theorem Pg {CX:CXT}{P:Program}{w:World}{K:W4}{mg:Str->Option Value}{base:Heap}{N ps:List Str}{qual:Str}{scope:Scope}{f:Addr}{cd:Value}{A:Around}{outer:List Env}{s s1:Shared}{H:Hp}{E:XK}{us:List Value}{vs:List V}
  (S:FnScope N ps scope) (hd:A.handled=none) (e0:Env0 P w K mg base A outer s H) (hl:vs.length=ps.length) (r:Y4 vs us)
  (x:InCallC s s.heap.objs.size (bindL (envOfC qual scope s.heap.objs.size f cd).kindOf (ps.zip us) λ_=>none) (cellsFrom (s.heap.objs.size+1) scope.names []) (bindC (envOfC qual scope s.heap.objs.size f cd).kindOf (ps.zip us) λ_=>none) s1) :
  Inv (Lk CX P w K mg base N qual scope f cd A outer s H E) [] (start N vs) H s1:=by
 have hpl:ps.length<=N.length:=by have:=congrArg V5 S.pre;rw [VZ] at this;omega
 obtain⟨h1,tk,rfl,hk⟩:=x.done
 have noA:∀b:Addr,b∉(Lk CX P w K mg base N qual scope f cd A outer s H E).ex:=λb z=>absurd (show b∈([]:List Addr) from z) (by simp)
 refine⟨⟨e0.mod,S.kind,rfl,rfl,Wt _,λy z c h1 h2=>?_,λy hy=>?_,λy c _ h=>?_,λ_=>hd,Around.frames_deeper e0.frames,.inr ⟨rfl,rfl⟩,λb z=>absurd z (noA b),e0.bs,e0.bsz,λb _ _=>noA b,λb z=>absurd z (noA b),e0.funs,e0.frf⟩,
  rfl,e0.bare,Un.kept hk,⟨_,x.toInCall.ns,λi y v h1 h2 h3=>?_⟩,λy c h=>⟨_,x.cell y c h⟩,e0.hok.fresh (Wt _),λy c h=>?_,λp hp=>absurd (show p∈([]:List (Addr×Obj)) from hp) (by simp),e0.hok.kept hk,?_⟩
 ·exact name_of_addr x.apart (Vs h1) (Vs h2)
 ·have hy:scope.names.lookup y=some .cell\/scope.names.lookup y=some .free:=hy
  rcases hy with hy|hy
  ·exact ME hy
  ·exact absurd rfl (S.nofree _ (Vs hy))
 ·exact Nat.le_of_lt (x.above y c (Vs h))
 ·have hi:i<vs.length:=by
   unfold start at h2;by_cases hi:i<vs.length
   ·exact hi
   ·rw [WZ (by simpa using hi)] at h2
    rw [Vz] at h2;split at h2<;>cases h2
  have ha:vs[i]? = some v:=by
   unfold start at h2;rw [WR (by simpa using hi),WH] at h2
   cases e:vs[i]? with
   |none=>rw [e] at h2;cases h2
   |some a=>rw [e] at h2;cases h2;rfl
  obtain⟨u,hu,rv⟩:=r.get ha
  have hp:ps[i]? = some y:=by
   rw [<-S.pre,Ve (by omega)];exact h1
  have ndP:ps.Nodup:=by rw [<-S.pre];exact S.nd.sublist (List.take_sublist _ _)
  refine⟨u,rv,?_⟩
  rcases S.par y (Vc hp) with k|k
  ·exact .inl ⟨k,BQ ndP hp hu k⟩
  ·obtain⟨c,e⟩:=ME (n:=s.heap.objs.size+1) k
   refine .inr ⟨.inl k,c,e,?_⟩
   have q:=x.cell y c e
   rw [BS ndP hp hu (by show scope.names.lookup y≠_;rw [k];decide)] at q
   exact q
 ·exact e0.hok.fresh (Nat.le_of_lt (x.above y c (Vs h)))
 ·unfold start
  show _=N.length
  rw [WL,Wm,VN];omega
theorem O5 {CX:CXT}{P:Program}{w:World}{K:W4}{mg:Str->Option Value}{base:Heap}{k:Nat}{f:Addr}{name qual:Str}{params:Arguments}{body:List Stmt}{scope:Scope}{dV kV doc pm cdv ct oc:Value}{an od:Option Addr}
  {osl:Array (Option Value)} {N ps:List Str} {sp:Sp} (lk:K.lookup f=some ⟨oc,od,.func (WK name qual params body scope dV kV doc pm an cdv ct),osl⟩) (hcd:WF K cdv qual=true) (S:FnScope N ps scope)
  (len:∀vs H Q E,sp vs H Q E->vs.length=ps.length)
  (hbody:∀(A:Around) (outer:List Env) (s:Shared) (H:Hp) (vs:List V) (Q:VK) (E:XK),Room k (A.deeper (envOfC qual scope s.heap.objs.size f cdv))->sp vs H Q E->
   ∃t,PSs (Lk CX P w K mg base N qual scope f cdv A outer s H E) body t/\t { nx:=λ_ H'=>Q .non H',rt:=Q } (start N vs) H) :
  FnOk P w K mg base CX (k+1) f (WK name qual params body scope dV kV doc pm an cdv ct) ps sp:=by
 refine⟨len,λA outer s H args us vs Q E hr e0 hb r hsp=>?_⟩
 have hl:=len _ _ _ _ hsp
 have KX:K.In s.heap:=e0.mod.kin.keeps λb o e=>(e0.bs b o e).1
 have lim:s.heap.NoLimit:=e0.mod.nolimit.keeps λb o e=>(e0.bs b o e).1
 have hkind:∀y∈ps.zip us,scope.names.lookup y.1=some .local\/(scope.names.lookup y.1=some .cell/\((cellsFrom (s.heap.objs.size+1) scope.names []).lookup y.1).isSome=true):=λ⟨n,v⟩ hy=>by
  rcases S.par n (List.of_mem_zip hy).1 with q|q
  ·exact .inl q
  ·exact .inr ⟨q,PySem.W.cellsFrom_some _ _ _ (.inl q)⟩
 refine codeAny_call_function hr.depth (KX _ _ lk) rfl S.co S.gen rfl (PySem.W.codeRec_of KX hcd) (hb _ _ _ _ ?_)
 refine wpAny_newFunctionEnv_cells S.kind hkind λenv he s1 x=>?_
 subst he;refine⟨lim.keeps x.toInCall.keep,codeAny_func ?_⟩
 obtain⟨t,ht,hq⟩:=hbody A outer s H vs Q E (hr.deeper _) hsp
 have I:Inv (Lk CX P w K mg base N qual scope f cdv A outer s H E) [] (start N vs) H s1:=Pg S hr.hd e0 hl r x
 refine V1 (ht [] s1 (start N vs) H _ I hq) (λfl s' hs=>?_) λe s' hs=>hs
 have fin:∀{σ':St} {H':Hp} {v:V} {u:Value},Inv (Lk CX P w K mg base N qual scope f cdv A outer s H E) [] σ' H' s'->ZO v u->Q v H'->CE outer P w H s Q u s':=
  λ{σ' H' v u} J rv q=>⟨v,H',J.os,J.bare,J.base,J.hok,rv,q⟩
 cases fl with
 |ret u=>
  obtain⟨v,σ',H',J,rv,q⟩:=hs
  exact fin J rv q
 |next=>
  obtain⟨σ',H',J,q⟩:=hs
  exact fin (v:=V.non) (u:=Value.none) J rfl q
 |brk=>
  obtain⟨_,_,_,q⟩:=hs
  exact False.elim q
 |cont=>
  obtain⟨_,_,_,q⟩:=hs
  exact False.elim q
end L2
namespace L2
open PySem PySem.Spec PyProof.Rows
section
variable {X:Cx} {x:Str} {p pos:Pos} {e:Expr} {es:List Expr} {t:TA} {id T:String} {r:List V->Hp->VK->Prop}
def tCB (r:List V->Hp->VK->Prop)(t:TA):TE:=λσ H Q=>t σ H λvs H1=>r vs H1 Q
theorem J1 (hc:Ji X (.builtin id) r)(hg:Gl X x)(hm:X.mg x=none)(hv:WI x=some (.builtin id))(ha:PA X (e :: es) t)(hn:x≠"__name__":=by decide)(hdb:(x == ("__debug__" : Str))=false:=by decide)
  (he:Wo (e :: es) X.env=(false,eval e X.env) :: Wo es X.env:=by rfl) (hpl:(backTo pos (Wo es X.env)).any (·.1)=false:=by rfl):PE X (.Call (.Name x p) (e :: es) [] pos) (tCB r t):=by
 intro pins s σ H Q I h;refine Vq (JE I hg hm hv ?_ hn hdb)
 exact W0K (thn (ha pos pins s σ H _ I h) λus s1 ⟨vs,H1,I1,r1,q1⟩=>hc pins s1 σ H1 vs us Q I1 r1 q1) he hpl
theorem B8 (hc:Ji X (.type T) r)(hg:Gl X x)(hm:X.mg x=none)(hv:WI x=some (.type T))(ha:PA X (e :: es) t)(hn:x≠"__name__":=by decide)(hdb:(x == ("__debug__" : Str))=false:=by decide)
  (he:Wo (e :: es) X.env=(false,eval e X.env) :: Wo es X.env:=by rfl) (hpl:(backTo pos (Wo es X.env)).any (·.1)=false:=by rfl):PE X (.Call (.Name x p) (e :: es) [] pos) (tCB r t):=by
 intro pins s σ H Q I h;refine Vq (JE I hg hm hv ?_ hn hdb)
 exact Vp (thn (ha pos pins s σ H _ I h) λus s1 ⟨vs,H1,I1,r1,q1⟩=>hc pins s1 σ H1 vs us Q I1 r1 q1) he hpl
end
end L2
namespace HT
open PySem PyProof.Rows
section
open PySem.SeqAt
open PySem.AutoSeq1 (wpAny_loadPart')
open PySem.MeetsSeq PySem.MeetsSeq2 PySem.MeetsSeq3
end
section
variable {prog:Program} {w:World} {A:Around} {E:Value->Shared->Prop} {s:Shared}
theorem cat_tup {t b:Addr}{vs ws:List Value}{Q:Value->Shared->Prop}(ht:IsTup s.heap t vs.toArray)(hb:IsTup s.heap b ws.toArray)(hv:vs≠[])
  (h1:ws=[]->Q (.ref t) s) (h2:ws≠[]->Q (.ref s.heap.objs.size) { s with heap:=s.heap.push { cls:=.type "tuple",data:=.seq (vs++ws).toArray } })
  (hsz:vs.length+ws.length<=Wd):wpAny (model prog w) A (binaryOp .Add (.ref t) (.ref b)) Q E s:=by
 obtain⟨⟨cls,dd,data,sl⟩,ho,hc,n,hd⟩:=id ht
 obtain⟨⟨cls2,dd2,data2,sl2⟩,ho2,hc2,n2,hd2⟩:=id hb
 simp only at hc hd hc2 hd2
 subst hc hd hc2 hd2;have e:vs.toArray++ws.toArray=(vs++ws).toArray:=by simp
 by_cases hw:ws=[]
 ·exact concat_meets ⟨_,ho,rfl⟩ ⟨_,ho2,rfl⟩ noFill_tuple_add seq_tuple_add W0B W0r (W0o _ _)
   (tuple_addW1 t b vs.toArray ws.toArray n n2 dd dd2 sl sl2 (by simpa using hv) (by simp [hw])) ⟨ho,ho2,h1 hw⟩
 ·refine concat_meets ⟨_,ho,rfl⟩ ⟨_,ho2,rfl⟩ noFill_tuple_add seq_tuple_add W0B W0r (W0o _ _)
   (tuple_addW2 t b vs.toArray ws.toArray n n2 dd dd2 sl sl2 (by simpa using hv) (by simpa using hw) (by rw [Wp,Wp];exact hsz)) ⟨ho,ho2,?_⟩
  rw [e];exact h2 hw
end
end HT
namespace L2
open PySem PySem.Spec PyProof.Rows
section
variable {X:Cx} {e:Expr} {te:TE} {lo hi:Option Expr} {tl th:TO} {pos p2:Pos}
def Xr (K:W4):R2:=λx y H Q=>∃a b xs ys,x = .ref a/\y = .ref b/\SqT K H a xs/\SqT K H b ys/\xs≠[]/\xs.length+ys.length<=Wd/\
 (ys=[]->Q (.ref a) H)/\(ys≠[]->∀p,H p=none->Q (.ref p) (upd H p (.tup (xs++ys))))
theorem Y4.nil_iff {xs:List V}{us:List Value}(r:Y4 xs us):us=[]↔xs=[]:=by
 cases r with
 |nil=>simp
 |cons _ _=>simp
theorem CN:OpR X (binaryOp .Add) (Xr X.K):=by
 intro pins s σ H x y v u Q I rx ry h;obtain⟨a,b,xs,ys,rfl,rfl,ha,hb,hx,hz,q1,q2⟩:=h
 cases rx;cases ry;obtain⟨its,r1,p1,_⟩:=I.tuple ha
 obtain⟨its2,r2,p2,_⟩:=I.tuple hb
 refine HT.cat_tup p1 p2 (λz=>hx (r1.nil_iff.mp z)) (λz=>⟨.ref a,H,I,rfl,q1 (r2.nil_iff.mp z)⟩) (λz=>?_) (by rw [<-r1.length,<-r2.length];exact hz)
 refine⟨.ref s.heap.objs.size,_,I.laid (t':=s.toks) (o:=.tup (xs++ys)) (λb ob q=>Wk _ q) (Wt _) ?_,rfl,q2 (λw=>z (r2.nil_iff.mpr w)) _ (I.hok.fresh (Wt _))⟩
 exact⟨by rw [WL];exact hz,_,r1.append r2,EL.new _ _⟩
end
end L2
namespace L2
open PySem PySem.Spec PyProof.Rows
def ixN (n:Nat)(i:Int):Option Nat:=if 0<=i then (if i<n then some i.toNat else none) else if -(n:Int)<=i then some (i+n).toNat else none
def atI {α:Type}(xs:List α)(i:Int):Option α:=(ixN xs.length i).bind λj=>xs[j]?
theorem Pc {n:Nat}{i:Int}{j:Nat}(h:ixN n i=some j):seqIndex? i n=some j/\j<n/\-(n:Int)<=i/\i<n:=by
 unfold ixN at h;by_cases h0:0<=i
 ·rw [if_pos h0] at h
  by_cases h1:i<n
  ·rw [if_pos h1] at h
   have e:i.toNat=j:=WO h
   exact⟨by rw [seqIndex_of h0 h1,e],by omega,by omega,h1⟩
  ·rw [if_neg h1] at h;cases h
 ·rw [if_neg h0] at h
  by_cases h1 : -(n:Int)<=i
  ·rw [if_pos h1] at h
   have e:(i+n).toNat=j:=WO h
   exact⟨by rw [seqIndex_neg (by omega) h1,e],by omega,h1,by omega⟩
  ·rw [if_neg h1] at h;cases h
theorem NI {α:Type}{xs:List α}{i:Int}{v:α}(h:atI xs i=some v):∃j,seqIndex? i xs.length=some j/\xs[j]? = some v/\j<xs.length/\-(xs.length:Int)<=i/\i<xs.length:=by
 unfold atI at h;cases e:ixN xs.length i with
 |none=>rw [e] at h;cases h
 |some j=>
  rw [e] at h;obtain⟨h1,h2,h3,h4⟩:=Pc e
  exact⟨j,h1,h,h2,h3,h4⟩
theorem GM {α:Type}{xs:List α}{j:Nat}{v:α}(h:xs[j]? = some v):atI xs (j:Int)=some v:=by
 have hj:j<xs.length:=(Wj.mp h).1
 have e:ixN xs.length (j:Int)=some j:=by
  unfold ixN;rw [if_pos (by omega),if_pos (by omega)];simp
 unfold atI;rw [e];exact h
def Lc (b:Expr):Prop:=∀o i,subscripted b false o i=operate [o,i] (getItem o i)
def IxR (X:Cx)(r:R2):Prop:=
 ∀(value slice:Expr) (pins:List (Addr×Obj)) (s:Shared) (σ:St) (H:Hp) (x y:V) (v u:Value) (Q:VK),Inv X pins σ H s->ZO x v->ZO y u->r x y H Q->
  subscripted slice false v u=operate [v,u] (getItem v u)->wpAny (model X.prog X.w) X.A (subscriptTail value slice v u) (EP X pins σ Q) X.xe s
def MtR (X:Cx)(id:String)(r:V->List V->Hp->VK->Prop):Prop:=
 ∀(pins:List (Addr×Obj)) (s:Shared) (σ:St) (H:Hp) (x:V) (xs:List V) (v:Value) (us:List Value) (Q:VK),Inv X pins σ H s->ZO x v->Y4 xs us->r x xs H Q->
  wpAny (model X.prog X.w) X.A (call (.builtin id) (v :: us)) (EP X pins σ Q) X.xe s
section
variable {X:Cx} {a b:Expr} {ta tb:TE} {pos:Pos}
theorem IxR.or {r r':R2}(h:IxR X r)(h':IxR X r'):IxR X (λx y H Q=>r x y H Q\/r' x y H Q):=by
 intro value slice pins s σ H x y v u Q I rx ry q hs;rcases q with q|q
 ·exact h value slice pins s σ H x y v u Q I rx ry q hs
 ·exact h' value slice pins s σ H x y v u Q I rx ry q hs
theorem Xw {r:R2}(hr:IxR X r)(ha:PE X a ta)(hb:PE X b tb)(hs:Lc b):PE X (.Subscript a b pos) (tOp r ta tb):=by
 intro pins s σ H Q I h;exact Subscript_ (Z0d ha hb I h λv u s2 x y H2 I2 rx ry q=>hr a b pins s2 σ H2 x y v u Q I2 rx ry q (hs _ _))
def Z0p (K:W4):R2:=λx y H Q=>∃p xs i v,x = .ref p/\y = .int i/\SqL K H p xs/\atI xs i=some v/\Q v H
def Z0n (K:W4):R2:=λx y H Q=>∃p xs i v,x = .ref p/\y = .int i/\SqT K H p xs/\atI xs i=some v/\Q v H
def Z0o:R2:=λx y H Q=>∃z i c,x = .str z/\y = .int i/\z.length<=Wd/\atI z.cps.toList i=some c/\Q (.str ⟨#[c]⟩) H
theorem Hi:IxR X (Z0p X.K):=by
 intro value slice pins s σ H x y v u Q I rx ry h hs;obtain⟨p,xs,i,z,rfl,rfl,hq,he,q⟩:=h
 cases rx;obtain⟨t,rfl⟩:=ry
 obtain⟨its,r,pl,hz⟩:=I.list hq
 obtain⟨j,h1,h2,h3,h4,h5⟩:=NI he
 obtain⟨w,ew,rw'⟩:=r.get h2
 have hl:=r.length
 have hn:=UV
 have fin:EP X pins σ Q w s:=⟨z,H,I,rw',q⟩
 by_cases h0:0<=i
 ·have hj:i.toNat=j:=by
   rw [seqIndex_of h0 h5] at h1;exact WO h1
  exact item_listR pl.isList h0 (by omega) (by rw [hj];simpa using ew) fin hs
 ·have hj:(i+(its.toArray.size:Int)).toNat=j:=by
   rw [seqIndex_neg (by omega) h4] at h1
   rw [Wp,<-hl];exact WO h1
  exact subscriptTail_builtinR (x:=w) pl.isList.typeIs slot_list_getitem.lookup
   (wpAny_getItem_list_neg (Q:=λr s'=>r=w/\EP X pins σ Q r s') pl.isList (by omega) (by rw [Wp]<;>omega) (by omega) (by rw [hj];simpa using ew) ⟨rfl,fin⟩) hs
theorem DE:IxR X (Z0n X.K):=by
 intro value slice pins s σ H x y v u Q I rx ry h hs;obtain⟨p,xs,i,z,rfl,rfl,hq,he,q⟩:=h
 cases rx;obtain⟨t,rfl⟩:=ry
 obtain⟨its,r,pl,hz⟩:=I.tuple hq
 obtain⟨j,h1,h2,h3,h4,h5⟩:=NI he
 obtain⟨w,ew,rw'⟩:=r.get h2
 have hl:=r.length
 have hn:=UV
 have fin:EP X pins σ Q w s:=⟨z,H,I,rw',q⟩
 exact subscriptTail_builtinR (x:=w) pl.typeIs slot_tuple_getitem.lookup
  (getItem_tuple (j:=j) (Q:=λr s'=>r=w/\EP X pins σ Q r s') pl (by omega) (by omega) (by rw [Wp,<-hl];exact h1) (by simpa using ew) ⟨rfl,fin⟩) hs
theorem DF:IxR X Z0o:=by
 intro value slice pins s σ H x y v u Q I rx ry h hs;obtain⟨z,i,c,rfl,rfl,hz,he,q⟩:=h
 obtain⟨t,rfl⟩:=rx
 obtain⟨t',rfl⟩:=ry
 obtain⟨j,h1,h2,h3,h4,h5⟩:=NI he
 have hl:z.cps.toList.length=z.length:=by simp [Str.length]
 rw [hl] at h1 h4 h5;have hn:=UV
 exact tail_any (typeIs_str s z t) slot_str_getitem.lookup (getItem_str (c:=c) (by
  have e1:decide (i < -(2 ^ 63:Int))=false:=decide_eq_false (by omega)
  have e2:decide (i>=2 ^ 63)=false:=decide_eq_false (by omega)
  rw [e1,e2,Bool.or_false]) (by rw [h1];simpa using h2) ⟨.str ⟨#[c]⟩,H,I.tok _,⟨_,rfl⟩,q⟩) hs
def rIx (K:W4):R2:=λx y H Q=>Z0p K x y H Q\/Z0n K x y H Q\/Z0o x y H Q
theorem DG:IxR X (rIx X.K):=Hi.or (DE.or DF)
theorem MX (its:List Value)(n j:Nat)(u:Value):Vb (·.setIfInBounds j u) { cls:=.type "list",data:=.seq its.toArray n }={ cls:=.type "list",data:=.seq (its.set j u).toArray n }:=by
 simp [Vb]
theorem Inv.lst {pins:List (Addr×Obj)}{σ:St}{H:Hp}{s:Shared}{p:Addr}{xs:List V}(I:Inv X pins σ H s)(h:H p=some (.lst xs)) :
  ∃(its:List Value) (n:Nat),Y4 xs its/\s.heap.get? p=some { cls:=.type "list",data:=.seq its.toArray n }/\xs.length<=Wd:=by
 obtain⟨z,its,n,r,e⟩:=I.hok p _ h
 exact⟨its,n,r,e,z⟩
theorem Inv.lstUpd {pins:List (Addr×Obj)}{σ:St}{H:Hp}{s:Shared}{p:Addr}{xs ys:List V}{its its':List Value}{n n':Nat}{f:Obj->Obj}(I:Inv X pins σ H s)(h:H p=some (.lst xs))
  (ho:s.heap.get? p=some { cls:=.type "list",data:=.seq its.toArray n }) (hf:f { cls:=.type "list",data:=.seq its.toArray n }={ cls:=.type "list",data:=.seq its'.toArray n' }) (r:Y4 ys its') (hz:ys.length<=Wd) (t:Nat) :
  Inv X pins σ (upd H p (.lst ys)) { s with heap:=s.heap.update p f,toks:=t }:=by
 have e:(s.heap.update p f).get? p=some { cls:=.type "list",data:=.seq its'.toArray n' }:=by
  rw [W0L f ho (by rw [hf]<;>rfl),hf]
 refine I.write (x:=p) (e:=p) (by rw [h];trivial) (.inl rfl) (λb u hb q=>(Heap.get?_update_other _ _ (Ne.symm hb)).trans q) ⟨_,e⟩ ?_
 exact⟨hz,its',n',r,e⟩
def Xq:V->V->V->Hp->(Hp->Prop)->Prop:=λo i v H Q=>∃p xs k j,o = .ref p/\i = .int k/\H p=some (.lst xs)/\ixN xs.length k=some j/\Q (upd H p (.lst (xs.set j v)))
theorem Ly:EO X Xq:=by
 intro pins s σ H o i v ov iv u Q I ro ri rv h;obtain⟨p,xs,k,j,rfl,rfl,hp,hj,q⟩:=h
 cases ro;obtain⟨t,rfl⟩:=ri
 obtain⟨its,n,r,ho,hz⟩:=I.lst hp
 obtain⟨h1,h2,h3,h4⟩:=Pc hj
 have hl:=r.length
 have hn:=UV
 have I':Inv X pins σ (upd H p (.lst (xs.set j v))) { s with heap:=s.heap.update p (Vb (·.setIfInBounds j u)) }:=
  I.lstUpd hp ho (MX its n j u) (r.set rv j) (by rw [List.length_set];exact hz) s.toks
 by_cases h0:0<=k
 ·have hk:k.toNat=j:=by
   rw [seqIndex_of h0 h4] at h1;exact WO h1
  exact PySem.W.ki_setAt ho h0 (by omega) (by rw [Wp,<-hl];exact h4) (by rw [hk];exact⟨_,I',q⟩)
 ·have hk:(k+(its.toArray.size:Int)).toNat=j:=by
   rw [seqIndex_neg (by omega) h3] at h1
   rw [Wp,<-hl];exact WO h1
  exact PySem.W.ki_setBack ho (by omega) (by rw [Wp,<-hl];exact h3) (by omega) (by rw [hk];exact⟨_,I',q⟩)
theorem BK:Ji X (.builtin "len") (λxs H Q=>∃p ys,xs=[.ref p]/\(SqL X.K H p ys\/SqT X.K H p ys)/\Q (.int ys.length) H):=by
 intro pins s σ H xs us Q I r h;obtain⟨p,ys,rfl,hq,q⟩:=h
 obtain⟨u,rfl,rx⟩:=BV r
 cases rx;have hn:=UV
 rcases hq with hq|hq
 ·obtain⟨its,r',pl,hz⟩:=I.list hq
  have hlen:=r'.length
  exact Calls.call_len_list pl.isList (by simp only [Wp]<;>omega) ⟨.int ys.length,H,I.tok _,⟨s.toks+1,by rw [Wp,hlen]⟩,q⟩
 ·obtain⟨its,r',pl,hz⟩:=I.tuple hq
  have hlen:=r'.length
  exact len_tuple pl (by simp only [Wp]<;>omega) ⟨.int ys.length,H,I.tok _,⟨s.toks+1,by rw [Wp,hlen]⟩,q⟩
theorem BJ:Ji X (.builtin "len") (λxs H Q=>∃z,xs=[.str z]/\z.length<=Wd/\Q (.int z.length) H):=by
 intro pins s σ H xs us Q I r h;obtain⟨z,rfl,hz,q⟩:=h
 obtain⟨u,rfl,t,rfl⟩:=BV r
 have hn:=UV
 exact len_str (by omega) ⟨.int z.length,H,I.tok _,⟨_,rfl⟩,q⟩
theorem Ji.or {f:Value}{r r':List V->Hp->VK->Prop}(h:Ji X f r)(h':Ji X f r'):Ji X f (λxs H Q=>r xs H Q\/r' xs H Q):=by
 intro pins s σ H xs us Q I rs q;rcases q with q|q
 ·exact h pins s σ H xs us Q I rs q
 ·exact h' pins s σ H xs us Q I rs q
theorem GJ:Ji X (.type "tuple") (λxs H Q=>∃p ys,xs=[.ref p]/\((SqL X.K H p ys/\∀l,H l=none->Q (.ref l) (upd H l (.tup ys)))\/(SqT X.K H p ys/\Q (.ref p) H))):=by
 intro pins s σ H xs us Q I r h;obtain⟨p,ys,rfl,h⟩:=h
 obtain⟨u,rfl,rx⟩:=BV r
 cases rx;rcases h with ⟨hq,q⟩|⟨hq,q⟩
 ·obtain⟨its,r',pl,hz⟩:=I.list hq
  have hlen:=r'.length
  refine call_tuple_list pl.isList (λh' kp=>?_) (by simp only [Wp]<;>omega)
  have I1:Inv X pins σ H { s with heap:=h' }:=I.kept (t':=s.toks) kp
  have I2:Inv X pins σ (upd H h'.objs.size (.tup ys)) { s with heap:=h'.push { cls:=.type "tuple",data:=.seq its.toArray } }:=
   I1.laid (t':=s.toks) (λb o e=>Wk _ e) (Wt _) (show ZK X.prog X.w _ _ _ (.tup ys) from ⟨hz,its,r',EL.new _ _⟩)
  exact⟨.ref h'.objs.size,_,I2,rfl,q _ (I1.hok.fresh (Wt _))⟩
 ·obtain⟨its,r',pl,hz⟩:=I.tuple hq
  exact call_tuple_same pl ⟨.ref p,H,I,rfl,q⟩
def tyV (K:W4)(T:String)(x:V)(H:Hp):Prop:=match x with
 | .str _=>T = "str"
 | .int _=>T = "int"
 | .ref p=>(T = "list"/\∃xs,SqL K H p xs)\/(T = "tuple"/\∃o,K.lookup p=some o/\o.cls = .type "tuple"/\o.dict=none)\/
   (T = "dict"/\((∃kvs,H p=some (.dK kvs))\/∃kvs,H p=some (.dT kvs)))\/(T = "set"/\∃S n,H p=some (.set S n))
 |_=>False
theorem FS {pins:List (Addr×Obj)}{σ:St}{H:Hp}{s:Shared}{T:String}{x:V}{v:Value}(I:Inv X pins σ H s)(r:ZO x v)(ty:tyV X.K T x H) :
  s.TypeIs v T/\∀a,v = .ref a->∃ob,s.heap.get? a=some ob/\ob.dict=none:=by
 cases x with
 |str z=>
  obtain⟨t,rfl⟩:=r
  cases (show T = "str" from ty)
  exact⟨typeIs_str s z t,λ_ e=>nomatch e⟩
 |int i=>
  obtain⟨t,rfl⟩:=r
  cases (show T = "int" from ty)
  exact⟨typeIs_int s i t,λ_ e=>nomatch e⟩
 |ref p=>
  cases r;rcases ty with ⟨rfl,xs,hq⟩|⟨rfl,o,hk,hc,hd⟩|⟨rfl,hk⟩|⟨rfl,S,n,hk⟩
  ·obtain⟨its,_,pl,_⟩:=I.list hq
   refine⟨pl.isList.typeIs,λa e=>?_⟩
   cases e;obtain⟨o,n,e,c,hd,_⟩:=pl
   exact⟨o,e,hd⟩
  ·refine⟨⟨o,I.kIn p o hk,hc⟩,λa e=>?_⟩
   cases e;exact⟨o,I.kIn _ o hk,hd⟩
  ·have z:∃o,s.heap.get? p=some o/\o.ExactDict:=by
    rcases hk with ⟨kvs,hk⟩|⟨kvs,hk⟩
    ·obtain⟨_,_,_,_,o,_,_,e,ex,_⟩:=I.hok p _ hk
     exact⟨o,e,ex⟩
    ·obtain⟨_,_,_,_,o,_,_,e,ex,_⟩:=I.hok p _ hk
     exact⟨o,e,ex⟩
   obtain⟨o,e,ex⟩:=z
   refine⟨⟨o,e,ex.1⟩,λa e2=>?_⟩
   cases e2;exact⟨o,e,ex.2.1⟩
  ·obtain⟨o,_,_,_,e,ex,_⟩:=I.hok p _ hk
   refine⟨⟨o,e,ex.1⟩,λa e2=>?_⟩
   cases e2;exact⟨o,e,ex.2.1⟩
 |_=>exact False.elim ty
def tBM (K:W4)(T:String)(r:V->List V->Hp->VK->Prop)(to:TE)(t:TA):TE:=λσ H Q=>to σ H λx H1=>tyV K T x H1/\t σ H1 λxs H2=>r x xs H2 Q
variable {o e:Expr} {es:List Expr} {to:TE} {t:TA} {name:Str} {apos cpos:Pos} {T id:String} {r:V->List V->Hp->VK->Prop}
theorem CH (pa:PlainAttrs T)(slot:Slot T name id)(hty:typeOf (.builtin id)=pure (.type "method_descriptor"))(hm:MtR X id r)(ho:PE X o to)(ha:PA X (e :: es) t)
  (hbase:attributeBase o name X.env (eval o X.env)=eval o X.env:=by rfl)
  (hfew:((backTo cpos (Wo (e :: es) X.env)).all (λx=>!x.1)&&(backToKw cpos (keywordEach [] X.env)).all (λx=>x.1.isSome)
   && decide ((e :: es).length+([]:List Keyword).length+(if ([]:List Keyword).isEmpty then 0 else 1)<30))=true:=by rfl)
  (hline:(apos.endLine == cpos.line)=true:=by rfl) (hs:Wo (e :: es) X.env=(false,eval e X.env) :: Wo es X.env:=by rfl) (hplain:(backTo cpos (Wo es X.env)).any (·.1)=false:=by rfl) :
  PE X (.Call (.Attribute o name apos) (e :: es) [] cpos) (tBM X.K T r to t):=by
 intro pins s σ H Q I h;refine wpAny_Call_method_late hbase hfew hline rfl (thn (ho pins s σ H _ I h) λv s1 ⟨x,H1,I1,r1,ty,q1⟩=>?_)
 obtain⟨h1,h2⟩:=FS I1 r1 ty
 refine⟨T,id,pa,slot,hty,h1,h2,?_⟩
 have hA:=ha cpos pins s1 σ H1 _ I1 q1
 rw [hs] at hA ⊢
 refine W0C (by show (false||(backTo cpos (Wo es X.env)).any (·.1))=false;rw [hplain]<;>rfl) (W0R ?_)
 exact thn hA λus s2 ⟨vs,H2,I2,r2,q2⟩=>hm pins s2 σ H2 x vs v us Q I2 r1 r2 q2
/- xs.append(e),list.index on a module's tuple .. are MtR facts of 06m -/
end
end L2
namespace L2
open PySem PySem.Spec PyProof.Rows
def MtM (X:Cx)(id:String)(r:V->List V->Hp->VK->Prop):Prop:=
 ∀(pins:List (Addr×Obj)) (s:Shared) (σ:St) (H:Hp) (x:V) (xs:List V) (v:Value) (us:List Value) (Q:VK),Inv X pins σ H s->ZO x v->Y4 xs us->r x xs H Q->
  wpAny (model X.prog X.w) X.A (call (.builtin id) (v :: us)) (EP X pins σ Q) X.xe s
theorem Y4.one:∀{x:V} {us:List Value},Y4 [x] us->∃u,us=[u]/\ZO x u
 |_,_,.cons r .nil=>⟨_,rfl,r⟩
theorem Y4.eraseIdx:∀{xs:List V} {us:List Value} (i:Nat),Y4 xs us->Y4 (xs.eraseIdx i) (us.eraseIdx i)
 |_,_,_,.nil=>.nil
 |_,_,0,.cons _ t=>t
 |_,_,i+1,.cons r t=>.cons r (Y4.eraseIdx i t)
theorem Bn {α:Type}:∀(l:List α) (i:Nat),(l.eraseIdx i).length<=l.length
 |[],_=>Wt _
 |_ :: _,0=>Nat.le_succ _
 |_ :: r,i+1=>Nat.succ_le_succ (Bn r i)
section
variable {X:Cx} {pins:List (Addr×Obj)} {σ:St} {H:Hp} {s:Shared} {l b:Addr} {xs ys zs:List V}
theorem Inv.lset {its its':List Value}{n:Nat}{f:Array Value->Array Value}{t':Nat}(I:Inv X pins σ H s)(hH:H l=some (.lst xs))
  (e:s.heap.get? l=some { cls:=.type "list",data:=.seq its.toArray n }) (hf:f its.toArray=its'.toArray) (hv:Y4 ys its') (hz:ys.length<=Wd) :
  Inv X pins σ (upd H l (.lst ys)) { s with heap:=s.heap.update l (Vb f),toks:=t' }:=by
 have q:=PySem.IsL.update e f
 rw [hf] at q;refine I.write (x:=l) (e:=l) (by rw [hH];exact trivial) (.inl rfl) (λb' u hb hu=>(Heap.get?_update_other s.heap (Vb f) (Ne.symm hb)).trans hu) ⟨_,q⟩ ?_
 exact⟨hz,its',_,hv,q⟩
theorem Inv.lnew {its:List Value}{t':Nat}(I:Inv X pins σ H s)(hv:Y4 ys its)(hz:ys.length<=Wd) :
  Inv X pins σ (upd H s.heap.objs.size (.lst ys)) { s with heap:=s.heap.push { cls:=.type "list",data:=.seq its.toArray },toks:=t' }:=
 I.laid (λ_ _ q=>Wk _ q) (Wt _) ⟨hz,its,0,hv,WA _ rfl⟩
theorem Inv.fresh (I:Inv X pins σ H s):H s.heap.objs.size=none:=I.hok.fresh (Wt _)
theorem Inv.lstM (I:Inv X pins σ H s)(hH:H l=some (.lst xs)):xs.length<=Wd/\∃(its:List Value) (n:Nat),Y4 xs its/\xs.length=its.length/\s.heap.get? l=some { cls:=.type "list",data:=.seq its.toArray n }:=by
 obtain⟨z,its,n,r,e⟩:=I.hok l _ hH
 exact⟨z,its,n,r,r.length,e⟩
end
section
variable {X:Cx}
def Cq:V->List V->Hp->VK->Prop:=λx vs H Q=>∃l xs y,x = .ref l/\vs=[y]/\H l=some (.lst xs)/\xs.length<Wd/\Q .non (upd H l (.lst (xs++[y])))
theorem Ry:MtM X "list.append" Cq:=by
 intro pins s σ H x vs v us Q I rx rv h;obtain⟨l,xs,y,rfl,rfl,hH,hz,q⟩:=h
 cases rx;obtain⟨u,rfl,ru⟩:=rv.one
 obtain⟨z,its,n,r,hl,e⟩:=I.lstM hH
 refine call_meets F.slot_list_append ⟨_,e,rfl⟩ F.entry_list_append (F.args_list_append_2 _ _) (PySem.list_append l its.toArray n u (by rw [Wp];omega)) ⟨e,?_⟩
 refine⟨.non,_,I.lset (its':=its++[u]) hH e (by simp) (r.append (.cons ru .nil)) ?_,rfl,q⟩
 rw [WL,W04];omega
def Ib:V->List V->Hp->VK->Prop:=λx vs H Q=>∃l xs i k y,x = .ref l/\vs=[.int i]/\H l=some (.lst xs)/\-(2 ^ 63)<=i/\i<2 ^ 63/\seqIndex? i xs.length=some k/\xs[k]? = some y/\Q y (upd H l (.lst (xs.eraseIdx k)))
theorem F6:MtM X "list.pop" Ib:=by
 intro pins s σ H x vs v us Q I rx rv h;obtain⟨l,xs,i,k,y,rfl,rfl,hH,h1,h2,hk,hy,q⟩:=h
 cases rx;obtain⟨u,rfl,ru⟩:=rv.one
 obtain⟨t,rfl⟩:=ru
 obtain⟨z,its,n,r,hl,e⟩:=I.lstM hH
 obtain⟨w,hw,rw'⟩:=r.get hy
 refine call_meets F.slot_list_pop ⟨_,e,rfl⟩ F.entry_list_pop (F.args_list_pop_2 _ _)
  (MeetsSeq.list_pop_at l its.toArray n i t k w (fitsIndex_both h1 h2) (by rw [Wp,<-hl];exact hk) (by rw [<-W0M];exact hw) (by rw [Wp];omega)) ⟨e,?_⟩
 refine⟨y,_,I.lset (its':=its.eraseIdx k) hH e ?_ (r.eraseIdx k) ?_,rw',q⟩
 ·show its.toArray.eraseIdxIfInBounds k=(its.eraseIdx k).toArray
  rw [List.eraseIdxIfInBounds_toArray]
 ·have:=Bn xs k
  omega
def Z1a:R2:=λx y H Q=>∃l b xs zs,x = .ref l/\y = .ref b/\H l=some (.lst xs)/\H b=some (.lst zs)/\xs.length+zs.length<=Wd/\∀p,H p=none->Q (.ref p) (upd H p (.lst (xs++zs)))
theorem II:OpR X (binaryOp .Add) Z1a:=by
 intro pins s σ H x y v u Q I rx ry h;obtain⟨l,b,xs,zs,rfl,rfl,hH,hB,hz,q⟩:=h
 cases rx;cases ry;obtain⟨z,its,n,r,hl,e⟩:=I.lstM hH
 obtain⟨z2,its2,n2,r2,hl2,e2⟩:=I.lstM hB
 refine PySem.P.add_list e e2 ?_ (by rw [Wp,Wp];omega)
 have ea:its.toArray++its2.toArray=(its++its2).toArray:=by simp
 rw [ea];exact⟨.ref _,_,I.lnew (t':=s.toks) (r.append r2) (by rw [WL];omega),rfl,q _ I.fresh⟩
end
section
variable {prog:Program} {w:World} {A:Around} {E:Value->Shared->Prop} {s:Shared}
end
section
variable {X:Cx}
end
end L2
namespace L2
open PySem PySem.Spec PyProof.Rows
section
variable {κ:Type} [DecidableEq κ]
def Ko (kvs:List (κ×V))(k:κ):Option V:=(kvs.find? λkv=>decide (kv.1=k)).map (·.2)
def Tc (kvs:List (κ×V))(k:κ)(v:V):List (κ×V):=
 if (kvs.any λkv=>decide (kv.1=k))=true then kvs.map (λkv=>if kv.1=k then (kv.1,v) else kv) else kvs++[(k,v)]
theorem Uu {p:κ×V}{r:List (κ×V)}{k:κ}(e:p.1=k):Ko (p :: r) k=some p.2:=by simp [Ko,Vj,e]
theorem Uv {p:κ×V}{r:List (κ×V)}{k:κ}(e:¬p.1=k):Ko (p :: r) k=Ko r k:=by simp [Ko,Vj,e]
theorem NM (k:κ):∀kvs:List (κ×V),(kvs.any λkv=>decide (kv.1=k))=(Ko kvs k).isSome
 |[]=>rfl
 |p :: r=>by
  rw [W08];by_cases e:p.1=k
  ·simp only [Uu e,decide_eq_true e,Bool.true_or,Option.isSome_some]
  ·rw [Uv e,decide_eq_false e,Bool.false_or];exact NM k r
theorem QH (kvs:List (κ×V))(k:κ)(v:V):(Tc kvs k v).length<=kvs.length+1:=by
 unfold Tc;split
 ·rw [Wm];omega
 ·rw [WL,WP,List.length_nil];omega
theorem GP.isSome_eq {o:Option V}{u:Option Value}(r:GP o u):o.isSome=u.isSome:=by
 cases o with
 |none=>cases u with
  |none=>rfl
  |some _=>exact (show False from r).elim
 |some _=>cases u with
  |none=>exact (show False from r).elim
  |some _=>rfl
theorem GP.getD {o:Option V}{u:Option Value}{d:V}{d':Value}(r:GP o u)(rd:ZO d d'):ZO (o.getD d) (u.getD d'):=by
 cases o with
 |none=>cases u with
  |none=>exact rd
  |some _=>exact (show False from r).elim
 |some _=>cases u with
  |none=>exact (show False from r).elim
  |some _=>exact r
theorem KV.val {kvs:List (κ×V)}{vs:List (κ×Value)}(r:KV kvs vs)(k:κ):GP (Ko kvs k) (valueAt vs k):=by
 unfold KV at r
 induction r with
 |nil=>exact True.intro
 | @cons p q ps qs h t ih=>
  obtain⟨h1,h2⟩:=h
  by_cases e:p.1=k
  ·have e':q.1=k:=h1.symm.trans e
   have b:valueAt (q :: qs) k=some q.2:=by simp [valueAt,Vj,e']
   rw [Uu e,b];exact h2
  ·have e':¬q.1=k:=λz=>e (h1.trans z)
   have b:valueAt (q :: qs) k=valueAt qs k:=by simp [valueAt,Vj,e']
   rw [Uv e,b];exact ih
theorem KV.any {kvs:List (κ×V)}{vs:List (κ×Value)}(r:KV kvs vs)(k:κ):(kvs.any λkv=>decide (kv.1=k))=vs.any λkv=>decide (kv.1=k):=by
 unfold KV at r
 induction r with
 |nil=>rfl
 |cons h t ih=>rw [W08,W08,ih,h.1]
theorem KV.repl {kvs:List (κ×V)}{vs:List (κ×Value)}(r:KV kvs vs)(k:κ){y:V}{u:Value}(ry:ZO y u) :
  KV (kvs.map λkv=>if kv.1=k then (kv.1,y) else kv) (vs.map λkv=>if kv.1=k then (kv.1,u) else kv):=by
 unfold KV at r ⊢
 induction r with
 |nil=>exact .nil
 | @cons p q ps qs h t ih=>
  rw [W1,W1];refine .cons ?_ ih
  obtain⟨h1,h2⟩:=h
  by_cases e:p.1=k
  ·rw [if_pos e,if_pos (h1.symm.trans e)];exact⟨h1,ry⟩
  ·rw [if_neg e,if_neg (λz=>e (h1.trans z))];exact⟨h1,h2⟩
theorem KV.put {kvs:List (κ×V)}{vs:List (κ×Value)}(r:KV kvs vs)(k:κ){y:V}{u:Value}(ry:ZO y u):KV (Tc kvs k y) (stored vs k u):=by
 unfold Tc stored;rw [r.any k];by_cases e:(vs.any λkv=>decide (kv.1=k))=true
 ·rw [if_pos e,if_pos e];exact r.repl k ry
 ·rw [if_neg e,if_neg e];exact Paired.snoc r ⟨rfl,ry⟩
theorem KV.length {kvs:List (κ×V)}{vs:List (κ×Value)}(r:KV kvs vs):kvs.length=vs.length:=W06 r
end
theorem Bx {P:Program}{w:World}{k:Key}{u:Value}(r:ZO (kV k) u):(ZW P w).is k u=true:=by
 cases k with
 |inl i=>obtain⟨t,e⟩:=(show ∃t,u=Value.int i t from r);subst e;exact Nj P w i t
 |inr x=>obtain⟨t,e⟩:=(show ∃t,u=Value.str x t from r);subst e;exact Ni P w x t
theorem Bz {P:Program}{w:World}:∀{ks:List Key} {us:List Value},Y4 (ks.map kV) us->ItemsAre (ZW P w) ks us
 |[],_,r=>by rw [Wc] at r;cases r;exact .nil
 |k :: ks,_,r=>by
  rw [W1] at r;cases r with
  |cons h t=>exact .cons (Bx h) (Bz t)
abbrev KT (H:Hp):List (List Key×V)->List (List Key×Addr×Value)->Prop:=Paired λp q=>p.1=q.1/\H q.2.1=some (.tup (p.1.map kV))/\ZO p.2 q.2.2
theorem KT.val {H:Hp}{kvs:List (List Key×V)}{xs:List (List Key×Addr×Value)}(r:KT H kvs xs)(k:List Key):GP (Ko kvs k) ((atKey xs k).map (·.2)):=by
 induction r with
 |nil=>exact True.intro
 | @cons p q ps qs h t ih=>
  obtain⟨h1,_,h2⟩:=h
  by_cases e:p.1=k
  ·have e':q.1=k:=h1.symm.trans e
   have b:atKey (q :: qs) k=some q.2:=by simp [atKey,Vj,e']
   rw [Uu e,b];exact h2
  ·have e':¬q.1=k:=λz=>e (h1.trans z)
   have b:atKey (q :: qs) k=atKey qs k:=by simp [atKey,Vj,e']
   rw [Uv e,b];exact ih
theorem KT.repl {H:Hp}{kvs:List (List Key×V)}{xs:List (List Key×Addr×Value)}(r:KT H kvs xs)(k:List Key){y:V}{u:Value}(ry:ZO y u) :
  KT H (kvs.map λkv=>if kv.1=k then (kv.1,y) else kv) (xs.map (putAt k u)):=by
 induction r with
 |nil=>exact .nil
 | @cons p q ps qs h t ih=>
  rw [W1,W1];refine .cons ?_ ih
  obtain⟨h1,h2,h3⟩:=h
  unfold putAt;by_cases e:p.1=k
  ·rw [if_pos e,if_pos (h1.symm.trans e)];exact⟨h1,h2,ry⟩
  ·rw [if_neg e,if_neg (λz=>e (h1.trans z))];exact⟨h1,h2,h3⟩
theorem KT.put {H:Hp}{kvs:List (List Key×V)}{xs:List (List Key×Addr×Value)}(r:KT H kvs xs)(k:List Key){b:Addr}{y:V}{u:Value}(hb:H b=some (.tup (k.map kV)))(ry:ZO y u) :
  KT H (Tc kvs k y) (storedH xs k b u):=by
 have e:(kvs.any λkv=>decide (kv.1=k))=(atKey xs k).isSome:=by
  rw [NM,(r.val k).isSome_eq,Option.isSome_map]
 unfold Tc storedH;rw [e];by_cases q:(atKey xs k).isSome=true
 ·rw [if_pos q,if_pos q];exact r.repl k ry
 ·rw [if_neg q,if_neg q];exact Paired.snoc r ⟨rfl,hb,ry⟩
theorem KT.keeps {H H':Hp}{kvs:List (List Key×V)}{xs:List (List Key×Addr×Value)}(r:KT H kvs xs)(ht:∀b ys,H b=some (.tup ys)->H' b=some (.tup ys)):KT H' kvs xs:=
 Paired.mapP r λ_ _ z=>⟨z.1,ht _ _ z.2.1,z.2.2⟩
section
variable {P:Program} {w:World} {H:Hp} {h:Heap} {a:Addr}
theorem SY {u:HO}(ok:HOk P w H h)(e:Rd H a u):ZK P w H h a u:=e.ok ok
theorem BH {kvs:List (Key×V)}(ok:HOk P w H h)(e:Rd H a (.dK kvs)):kvs.length<=Wd/\(a == sysModules)=false/\∃vs,KV kvs vs/\h.DictOf (ZW P w) a vs:=
 show ZK P w H h a (.dK kvs) from SY ok e
theorem Ow {kvs:List (Key×V)}(ok:HOk P w H h)(e:H a=some (.dK kvs)):kvs.length<=Wd/\(a == sysModules)=false/\∃vs,KV kvs vs/\h.DictOf (ZW P w) a vs:=BH ok (.inl e)
theorem Bp {ks:List Key}(ok:HOk P w H h)(e:H a=some (.tup (ks.map kV))):(tupleKind (ZW P w)).is h ks a:=by
 obtain⟨_,its,r,⟨o,h1,h2,n,h3⟩,_⟩:=(show ZK P w H h a (.tup (ks.map kV)) from ok a _ e)
 exact⟨o,its.toArray,n,h1,h2,h3,by simpa using Bz r⟩
theorem BF {kvs:List (List Key×V)}(ok:HOk P w H h)(e:Rd H a (.dT kvs)):kvs.length<=Wd/\(a == sysModules)=false/\
  ∃xs,KT H kvs xs/\h.DictOfH (tupleKind (ZW P w)) a xs:=by
 obtain⟨z,y,xs,r,o,es,ep,h1,h2,h3,h4,h5⟩:=(show ZK P w H h a (.dT kvs) from SY ok e)
 refine⟨z,y,xs,r,o,es,ep,h1,h2,h3,h4,λx hx=>?_,h5⟩
 have all:∀{l:List (List Key×V)} {m:List (List Key×Addr×Value)},KT H l m->∀x∈m,(tupleKind (ZW P w)).is h x.1 x.2.1:=by
  intro l m q
  induction q with
  |nil=>intro x hx;exact nomatch hx
  | @cons p q ps qs hq t ih=>
   intro x hx;rcases Wr.mp hx with e|hx
   ·subst e
    exact Bp ok (by rw [<-hq.1];exact hq.2.1)
   ·exact ih x hx
 exact all r x hx
theorem Z0b {kvs:List (List Key×V)}(ok:HOk P w H h)(e:H a=some (.dT kvs)):kvs.length<=Wd/\(a == sysModules)=false/\
  ∃xs,KT H kvs xs/\h.DictOfH (tupleKind (ZW P w)) a xs:=BF ok (.inl e)
end
def HX (H:Hp)(a:Addr)(y:V)(r:Option V):Prop:=
 (∃kvs k,Rd H a (.dK kvs)/\y=kV k/\r=Ko kvs k)\/∃kvs k b,Rd H a (.dT kvs)/\y = .ref b/\H b=some (.tup (k.map kV))/\r=Ko kvs k
def Z0V (H:Hp)(a:Addr)(y v:V)(H':Hp):Prop:=
 (∃kvs k,H a=some (.dK kvs)/\y=kV k/\kvs.length<Wd/\H'=upd H a (.dK (Tc kvs k v)))\/
 ∃kvs k b,H a=some (.dT kvs)/\y = .ref b/\H b=some (.tup (k.map kV))/\kvs.length<Wd/\H'=upd H a (.dT (Tc kvs k v))
section
variable {X:Cx} {pins:List (Addr×Obj)} {σ:St} {H:Hp} {s:Shared} {a:Addr} {y v:V} {u r:Value} {o:Option V} {A:Around} {E:Value->Shared->Prop}
theorem Inv.big (I:Inv X pins σ H s):sysModules<s.heap.objs.size:=by
 have h:Wx<s.heap.objs.size:=(I.mod.glob.keeps I.bk).lt
 exact Nat.lt_trans (by decide) h
theorem PP {Q:Value->Shared->Prop}(hu:A.units+1<cLine)(I:Inv X pins σ H s)(g:HX H a y (some v))(ry:ZO y u)(h:∀w' s',Inv X pins σ H s'->ZO v w'->Q w' s') :
  wpAny (model X.prog X.w) A (getItem (.ref a) u) Q E s:=by
 rcases g with ⟨kvs,k,e,ey,l⟩|⟨kvs,k,b,e,ey,eb,l⟩
 ·subst ey
  obtain⟨z,hd,vs,rel,dd⟩:=BH I.hok e
  obtain⟨w',hw,rw'⟩:=GP.some_of (v:=v) (o:=valueAt vs k) (by rw [l];exact rel.val k)
  exact wpAny_getItem_of (Bx ry) dd.mapOf hw (h w' _ (I.tok _) rw')
 ·subst ey
  cases (show u=Value.ref b from ry)
  obtain⟨z,hd,xs,rel,dd⟩:=BF I.hok e
  obtain⟨w',hw,rw'⟩:=GP.some_of (v:=v) (o:=(atKey xs k).map (·.2)) (by rw [l];exact rel.val k)
  obtain⟨p,hp,hp2⟩:=Wi.mp hw
  refine wpAny_getItem_heap (W0s hu) (Bp I.hok eb) dd hp ?_
  rw [hp2];exact h w' _ (I.tok _) rw'
theorem HG {Q:Value->Shared->Prop}(hu:A.units+1<cLine)(I:Inv X pins σ H s)(g:HX H a y o)(ry:ZO y u)(h:∀s',Inv X pins σ H s'->Q (.bool (!o.isSome)) s') :
  wpAny (model X.prog X.w) A (compareOp .NotIn u (.ref a)) Q E s:=by
 rcases g with ⟨kvs,k,e,ey,l⟩|⟨kvs,k,b,e,ey,eb,l⟩
 ·subst ey
  obtain⟨z,hd,vs,rel,dd⟩:=BH I.hok e
  refine wpAny_notIn_of (Bx ry) hd dd.mapOf ?_
  rw [<-(rel.val k).isSome_eq,<-l];exact h _ (I.tok _)
 ·subst ey
  cases (show u=Value.ref b from ry)
  obtain⟨z,hd,xs,rel,dd⟩:=BF I.hok e
  refine wpAny_notIn_heap (W0s hu) (Bp I.hok eb) hd dd ?_
  have q:=(rel.val k).isSome_eq
  rw [Option.isSome_map] at q;rw [<-q,<-l];exact h _ (I.tok _)
theorem U9 {h':Heap}{t':Nat}{ob:HO}(I:Inv X pins σ H s)(mu:Mut (H a))(hs:W02 a s.heap h')(he:∃q,h'.get? a=some q)(new:ZK X.prog X.w (upd H a ob) h' a ob) :
  Inv X pins σ (upd H a ob) { s with heap:=h',toks:=t' }:=
 I.write (x:=a) (e:=a) mu (.inl rfl) (λb q hb z=>(hs.2 b hb).trans z) he new
theorem EF {P:Program}{w:World}{H':Hp}{h':Heap}{kvs:List (Key×V)}{vs:List (Key×Value)}(z:kvs.length<=Wd)(hd:(a == sysModules)=false)(rel:KV kvs vs)(dd:h'.DictOf (ZW P w) a vs) :
  ZK P w H' h' a (.dK kvs):=⟨z,hd,vs,rel,dd⟩
theorem T5 {H':Hp}{Q:Unit->Shared->Prop}(hu:A.units+1<cLine)(I:Inv X pins σ H s)(g:Z0V H a y v H')(ry:ZO y u)(rv:ZO v r)(h:∀s',Inv X pins σ H' s'->Q () s') :
  wpAny (model X.prog X.w) A (setItem (.ref a) u r) Q E s:=by
 rcases g with ⟨kvs,k,e,ey,l,eH⟩|⟨kvs,k,b,e,ey,eb,l,eH⟩
 ·subst ey eH
  obtain⟨z,hd,vs,rel,dd⟩:=Ow I.hok e
  have hz:vs.length<=Wd:=by rw [<-rel.length];exact z
  have hl:(Tc kvs k v).length<=Wd:=by have:=QH kvs k v;omega
  refine wpAny_setItem_pairs (hsz:=hz) (Bx ry) dd λh' dd' hs=>h _ ?_
  have he:∃q,h'.get? a=some q:=let ⟨q,_,_,hq,_⟩:=dd';⟨q,hq⟩
  exact U9 I (by rw [e];exact True.intro) hs he (EF hl hd (rel.put k rv) dd')
 ·subst ey eH
  cases (show u=Value.ref b from ry)
  obtain⟨z,hd,xs,rel,dd⟩:=Z0b I.hok e
  have hz:xs.length<=Wd:=by rw [<-W06 rel];exact z
  have hl:(Tc kvs k v).length<=Wd:=by have:=QH kvs k v;omega
  refine wpAny_setItem_heap (hsz:=hz) (W0s hu) (Bp I.hok eb) dd λh' dd' hs=>h _ ?_
  obtain⟨q,es,ep,hq,h2,h3,h4,_,h5⟩:=dd'
  refine U9 I (by rw [e];exact True.intro) hs ⟨q,hq⟩ ⟨hl,hd,_,(rel.put k eb rv).keeps λc ys ec=>?_,q,es,ep,hq,h2,h3,h4,h5⟩
  rw [Zl (Jz ec e (λz=>nomatch z))]
  exact ec
end
section
variable {X:Cx} {pins:List (Addr×Obj)} {σ:St} {H:Hp} {s:Shared} {a:Addr} {kvs:List (Key×V)} {k:Key} {u:Value} {A:Around} {E:Value->Shared->Prop}
theorem Z0c {Q:Value->Shared->Prop}(I:Inv X pins σ H s)(e:Rd H a (.dK kvs))(h:∀t s',Inv X pins σ H s'->Q (.int kvs.length t) s'):wpAny (model X.prog X.w) A (call (.builtin "len") [.ref a]) Q E s:=by
 obtain⟨z,hd,vs,rel,dd⟩:=BH I.hok e
 refine call_len_dict hd dd (by rw [<-rel.length];rw [VW] at z;omega) ?_
 rw [<-rel.length];exact h _ _ (I.tok _)
theorem HF {Q:Bool->Shared->Prop}(I:Inv X pins σ H s)(e:Rd H a (.dK kvs))(h:∀s',Inv X pins σ H s'->Q (!kvs.isEmpty) s'):wpAny (model X.prog X.w) A (truthy (.ref a)) Q E s:=by
 obtain⟨z,hd,vs,rel,dd⟩:=BH I.hok e
 refine wpAny_truthy_dict hd dd (by rw [<-rel.length];rw [VW] at z;omega) ?_
 have q:kvs.isEmpty=vs.isEmpty:=by cases rel<;>rfl
 rw [<-q];exact h _ (I.tok _)
end
theorem NE {X:Cx}{pins:List (Addr×Obj)}{σ:St}{H:Hp}{s:Shared}{a:Addr}{y:V}{o:Option V}(I:Inv X pins σ H s)(g:HX H a y o):s.TypeIs (.ref a) "dict":=by
 rcases g with ⟨kvs,k,e,_,_⟩|⟨kvs,k,b,e,_,_,_⟩
 ·obtain⟨_,_,vs,_,dd⟩:=BH I.hok e
  exact dd.typeIs
 ·obtain⟨_,_,xs,_,dd⟩:=BF I.hok e
  exact dd.typeIs
section
variable {X:Cx} {o i e value:Expr} {pos pos' tpos:Pos} {td ty tv:TE}
end
theorem Mz {P:Program}{w:World}{H:Hp}(h:Heap)(hb:sysModules<h.objs.size):ZK P w H (h.push { cls:=.type "dict",data:=.dict #[] }) h.objs.size (.dK []):=
 ⟨VG _,beq_eq_false_iff_ne.mpr (Ne.symm (WT hb)),[],.nil,Heap.DictOf.new h⟩
def SG:TE:=λ_ H Q=>∀p,H p=none->Q (.ref p) (upd H p (.dK []))
section
variable {X:Cx} {pos:Pos}
theorem LX:PE X (.Dict [] [] pos) SG:=λpins s σ H Q I h=>
 wpAny_Dict_empty ⟨.ref s.heap.objs.size,_,I.laid (a:=s.heap.objs.size) (o:=.dK []) (t':=s.toks) (λ_ _ q=>Wk _ q) (Wt _) (Mz s.heap I.big),rfl,h _ (I.hok.fresh (Wt _))⟩
end
def Qa (kvs more:List (Key×V)):List (Key×V):=more.foldl (λacc kv=>Tc acc kv.1 kv.2) kvs
structure M2 (X:Cx) (o:Expr) (m:Str) (apos:Pos) (e f:Expr) (cpos:Pos):Prop where
 base:attributeBase o m X.env (eval o X.env)=eval o X.env
 few:((backTo cpos (Wo [e,f] X.env)).all (λx=>!x.1)&&(backToKw cpos (keywordEach [] X.env)).all (λx=>x.1.isSome)
  && decide (([e,f]:List Expr).length+([]:List Keyword).length+(if ([]:List Keyword).isEmpty then 0 else 1)<30))=true
 line:(apos.endLine == cpos.line)=true
 trees:backTo cpos (Wo [e,f] X.env)=[(false,eval e X.env),(false,eval f X.env)]
def IsD (H:Hp)(a:Addr):Prop:=(∃kvs,Rd H a (.dK kvs))\/∃kvs,Rd H a (.dT kvs)
theorem Eg {X:Cx}{pins:List (Addr×Obj)}{σ:St}{H:Hp}{s:Shared}{a:Addr}(I:Inv X pins σ H s)(d:IsD H a) :
  s.TypeIs (.ref a) "dict"/\(∀b,Value.ref a = .ref b->∃ob,s.heap.get? b=some ob/\ob.dict=none)/\(a == sysModules)=false:=by
 rcases d with ⟨kvs,e⟩|⟨kvs,e⟩
 ·obtain⟨_,hd,vs,_,dd⟩:=BH I.hok e
  refine⟨dd.typeIs,λb q=>?_,hd⟩
  cases q;obtain⟨ob,_,_,h1,h2,_⟩:=dd
  exact⟨ob,h1,h2.2.1⟩
 ·obtain⟨_,hd,xs,_,dd⟩:=BF I.hok e
  refine⟨dd.typeIs,λb q=>?_,hd⟩
  cases q;obtain⟨ob,_,_,h1,h2,_⟩:=dd
  exact⟨ob,h1,h2.2.1⟩
section
variable {X:Cx} {pins:List (Addr×Obj)} {σ:St} {H:Hp} {s:Shared} {a:Addr} {y d:V} {u r:Value} {o:Option V} {A:Around} {E:Value->Shared->Prop}
theorem Oy {Q:Value->Shared->Prop}(hu:A.units+1<cLine)(I:Inv X pins σ H s)(g:HX H a y o)(ry:ZO y u)(rd:ZO d r)(h:∀w' s',Inv X pins σ H s'->ZO (o.getD d) w'->Q w' s') :
  wpAny (model X.prog X.w) A (call (.builtin "dict.get") [.ref a,u,r]) Q E s:=by
 rcases g with ⟨kvs,k,e,ey,l⟩|⟨kvs,k,b,e,ey,eb,l⟩
 ·subst ey
  obtain⟨z,hd,vs,rel,dd⟩:=BH I.hok e
  refine call_meetsIn W0N dd.typeIs PySem.F.entry_dict_get (PySem.F.args_dict_get_3 _ _ _) (meets_dict_get_default (ZW X.prog X.w) a (Bx ry) hd r) ⟨_,dd.mapOf,h _ _ (I.tok _) ?_⟩
  rw [l];exact (rel.val k).getD rd
 ·subst ey
  cases (show u=Value.ref b from ry)
  obtain⟨z,hd,xs,rel,dd⟩:=BF I.hok e
  refine call_meetsIn W0N dd.typeIs PySem.F.entry_dict_get (PySem.F.args_dict_get_3 _ _ _) (meetsH_dict_get_default (tupleKind (ZW X.prog X.w)) a b hd r) ⟨W0s hu,k,xs,Bp I.hok eb,dd,h _ _ (I.tok _) ?_⟩
  rw [l];exact (rel.val k).getD rd
end
section
variable {X:Cx} {o e f:Expr} {apos cpos:Pos} {td ty tx:TE}
end
section
variable {X:Cx} {pins:List (Addr×Obj)} {σ:St} {H:Hp} {s:Shared} {a:Addr} {kvs:List (Key×V)} {A:Around} {E:Value->Shared->Prop}
end
section
variable {X:Cx} {pins:List (Addr×Obj)} {σ:St} {H:Hp} {s:Shared} {a:Addr} {y:V} {u:Value} {A:Around} {E:Value->Shared->Prop}
end
end L2
namespace Att
open PySem PySem.W PySem.Calls PyProof.Rows
theorem T1 {P:Params}{h:Heap}:∀(ns:List Int) (vs:List Value),WellAll P h vs (ns.map WData.int)->IntsAre vs ns:=by
 intro ns
 induction ns with
 |nil=>
  intro vs w;rw [Wc] at w;cases w;exact .nil
 |cons n ns ih=>
  intro vs w;rw [W1] at w;cases w with
  |cons a b=>
   cases a;exact .cons _ _ (ih _ b)
theorem KU {l:OpenLaw}{n:Nat}(hn:l.most=some n){P:Params}{h:Heap}{args:List WData}{vals:List Value}
  (hpre:l.row.toRowW.claim.pre args=true) (hwl:WellAll P h vals args) :
  ∃a vs ns,vals=[Value.ref a]/\args=[WData.list (ns.map WData.int)]/\h.get? a=some { cls:=.type "list",data:=.seq vs.toArray }/\IntsAre vs ns/\ns.length<=n:=by
 have hsh:WShape.hasAll [] args [.list .int]=true:=(pre_splitW hpre).1
 have hc:l.pre.holds [] { args:=args }=true:=(pre_splitW hpre).2
 obtain⟨d,r,rfl,h1,h2⟩:=hasAllW_cons hsh
 obtain rfl:=hasAllW_nil h2
 obtain⟨xs,rfl,h3⟩:=hasW_list h1
 obtain⟨ns,rfl⟩:=items_int h3
 have hlen:ns.length<=n:=by
  unfold OpenLaw.pre at hc;have h4:(WTm.not (.lt (.lit (.int (n:Int))) (.len (.arg 0)))).holds [] { args:=[.list (ns.map .int)] }=true:=by
   have h4:=(holds_andW hc).1
   rw [hn] at h4;exact h4
  have h5:=condW_of h4 (w_not (w_lt w_lit (w_len_list (w_arg rfl))))
  rw [Wm] at h5;refine W0g λq=>?_
  have q':(n:Int)<((ns.length:Nat):Int):=by omega
  first
   | (rw [decide_eq_true q'] at h5;exact absurd h5 (by decide))
   | (simp at h5;omega)
 cases hwl with
 |cons w1 w2=>
  cases w2;cases w1 with
  |list ho hall=>exact⟨_,_,ns,rfl,rfl,ho,T1 ns _ hall,hlen⟩
theorem Rh (l:OpenLaw)(args:List WData):l.row.toRowW.claim.post args (.bool true) args=true:=
 postW_of (r:=l.row.toRowW) (X:=(true == true))
  (show WShape.has [] (.bool true) .bool=true by first|rfl|decide|simp [WShape.has,WShape.arms,WShape.armsAll])
  (show (WTm.eq .res (.lit (.bool true))).value [] { args:=args,res:=some (.bool true),after:=args }=some (.bool (true == true)) from w_eq_bool (w_res rfl) w_lit) rfl
theorem attach_call {l:OpenLaw}{n:Nat}{q:Program}{loose:List Str}{XP:(Str->Option Value)->Heap->Prop}{YP:World->Heap->Prop}{d:DefRec}
  (hn:l.most=some n) (hdf:d.params.defaults=[])
  (call:∀(w:World) (s₀ s₁:Shared) (mg mb:Str->Option Value) (fa:Addr) (o:Obj) (pm cd doc:Value) (a:Addr) (vs:List Value) (ns:List Int),
   Ground q loose [] XP w s₀ mg mb s₁.heap->YP w s₁.heap->
   s₁.heap.get? fa=some o->o.data = .func (docDef d.name d.params d.body d.scope pm cd doc)->s₁.heap.CodeRec cd d.name->mg d.name=some (.ref fa)->
   s₁.heap.get? a=some { cls:=.type "list",data:=.seq vs.toArray }->IntsAre vs ns->ns.length<=n->s₁.gens = #[]->
   codeAny (model l.prog w) callerA (.call (.ref fa) ⟨[.ref a],[]⟩) (λr s'=>r = .ok (.ret (.bool true))/\OldK s₁.heap s'.heap/\s'.os=s₁.os/\AllBare s'.gens) s₁) :
  WalkO q loose XP YP l.row.toRowW d [] (λf vs=>PySem.call f vs):=by
 intro w s₀ s₁ mg mb G Y fa o pm cd doc dV kV ho hd hcd hD hmg hg args vals as hpre hlay hrd hwl hlo;obtain rfl:dV = .none:=Dflts.none hD hdf
 obtain rfl:kV = .none:=Dflts.noKw hD
 obtain⟨a,vs,ns,rfl,rfl,hobj,hints,hlen⟩:=KU hn hpre hwl
 refine enter_call (W1d (call w s₀ s₁ mg mb fa o pm cd doc a vs ns G Y ho (fd_plain hd) hcd hmg hobj hints hlen hg) λr s' hq=>?_)
 obtain⟨rfl,h2,h3,h4⟩:=hq
 exact⟨.inl ⟨.bool true,.bool true,[],rfl,λ_=>rfl,.bool true,Rh l _,λ_=>⟨List.Pairwise.nil,λ_ hm=>(nomatch hm)⟩⟩,h2,h3,h4⟩
section
variable {prog:Program} {w:World} {A:Around} {E:Value->Shared->Prop} {s:Shared} {K:Frag}
end
end Att
namespace L2
open PySem PySem.Spec PyProof.Rows
theorem GS:∀{vs:List Value} {ns:List Int},IntsAre vs ns->Y4 (ns.map V.int) vs
 |_,_,.nil=>.nil
 |_,_,.cons n t h=>.cons ⟨t,rfl⟩ (GS h)
def Z0e (H:Hp):Prop:=∀b,H b=none\/∃o xs,H b=some (.frz o (.lst xs))
theorem Fd {P:Program}{w:World}{K:W4}{mg mb:Str->Option Value}{CX:CXT}{k:Nat}{fa a:Addr}{fd:FuncData}{x:Str}{sp:Sp}{s₁:Shared}{vs:List Value}{ns:List Int}
  (KX:K.In s₁.heap) (hns:s₁.heap.Ns Wx mg) (hb:s₁.heap.Ns builtinsNs mb) (hbb:∀x:Str,x≠"__name__"->mb x=WI x) (hlim:s₁.heap.NoLimit) (hg:s₁.gens = #[])
  (ha:s₁.heap.get? a=some { cls:=.type "list",data:=.seq vs.toArray }) (hi:IntsAre vs ns) (hl:ns.length<=Wd) (hr:Room k callerA)
  (F:∀base:Heap,K.In base->base.Ns Wx mg->FnOk P w K mg base CX k fa fd [x] sp) (hbind:∀(s:Shared) (u:Value),BindsTo s fd ⟨[u],[]⟩ [(x,u)])
  (hsp:∀H:Hp,Z0e H->SqL K H a (ns.map V.int)->sp [.ref a] H (λv _=>v = .bl true) λ_ _ _=>False)
  (hCX:∀H e s',CX [] H s₁ (λ_ _ _=>False) e s'->False) :
  codeAny (model P w) callerA (.call (.ref fa) ⟨[.ref a],[]⟩) (λr s'=>r = .ok (.ret (.bool true))/\OldK s₁.heap s'.heap/\s'.os=s₁.os/\AllBare s'.gens) s₁:=by
 have rv:=GS hi
 have lenV:=hi.length
 -- from an abstract heap in which nothing but the script may be tracked
 have core:∀H:Hp,Z0e H->SqL K H a (ns.map V.int)->HOk P w H s₁.heap->(∀b,H b≠none->b=a)->(H a≠none->K.lookup a=none)->
   codeAny (model P w) callerA (.call (.ref fa) ⟨[.ref a],[]⟩) (λr s'=>r = .ok (.ret (.bool true))/\OldK s₁.heap s'.heap/\s'.os=s₁.os/\AllBare s'.gens) s₁:=by
  intro H hO hS hok hA hK;have base_of:∀{b:Addr} {o:Obj},s₁.heap.get? b=some o->H b=none->(Fp s₁.heap H).get? b=some o:=λe n=>Fo e n
  have noA:∀{b:Addr} {o:Obj} {es:Array DictEntry} {ep:Nat},s₁.heap.get? b=some o->o.data = .dict es ep->H b=none:=λ{b o es ep} e d=>by
   cases q:H b with
   |none=>rfl
   |some u=>
    have e':b=a:=hA b (by rw [q];simp)
    subst e'
    rw [ha] at e;cases e
    have d':Data.seq vs.toArray _=Data.dict es ep:=d
    cases d'
  have nsK:∀{b:Addr} {m:Str->Option Value},s₁.heap.Ns b m->(Fp s₁.heap H).Ns b m:=λ{b m} ⟨o,es,ep,e,d,r⟩=>⟨o,es,ep,base_of e (noA e d),d,r⟩
  have hKb:K.In (Fp s₁.heap H):=λb o e=>base_of (KX b o e) (by
   cases q:H b with
   |none=>rfl
   |some u=>
    have e':b=a:=hA b (by rw [q];simp)
    subst e'
    rw [hK (by rw [q];simp)] at e;cases e)
  have hM:Mod K mg (Fp s₁.heap H):=⟨hKb,nsK hns,⟨mb,nsK hb,hbb⟩,let ⟨mc,h1,h2⟩:=hlim;⟨mc,nsK h1,h2⟩⟩
  have e0:Env0 P w K mg (Fp s₁.heap H) callerA [] s₁ H:=⟨rfl,hM,λb o e=>CT e,Nat.le_of_eq (Pi _ _),trivial,λb hb=>absurd (show b∈([]:List Addr) from hb) (by simp),hok,.of_eq hg⟩
  refine W1d ((F _ hKb (nsK hns)).run callerA [] s₁ H ⟨[.ref a],[]⟩ [.ref a] [.ref a] _ _ hr e0 (hbind s₁ (.ref a)) (.cons rfl .nil) (hsp H hO hS)) λr s' h=>?_
  cases r with
  |error e=>exact (hCX H e s' h).elim
  |ok fl=>
   cases fl with
   |next=>exact False.elim h
   |brk=>exact False.elim h
   |cont=>exact False.elim h
   |ret u=>
    obtain⟨v,H',os,bare,un,hok',r',q⟩:=h
    have q':v = .bl true:=q
    subst q'
    obtain rfl:u=Value.bool true:=r'
    refine⟨rfl,OldK.of_keep λb o e=>?_,os,bare⟩
    cases q:H b with
    |none=>exact un.keep b o e q (by intro z;exact absurd (show b∈([]:List Addr) from z) (by simp)) (by simp)
    |some u=>
     rcases hO b with z|⟨ob,xs,z⟩
     ·rw [q] at z;cases z
     ·have z2:=un.frzs b ob _ z
      obtain⟨e1,_⟩:=hok b _ z
      obtain⟨e2,_⟩:=hok' b _ z2
      rw [e] at e1;cases e1
      exact e2
 cases hk:K.lookup a with
 |some o=>
  -- the script is one of the module's own objects
  have e:=KX a o hk
  rw [ha] at e;cases e;refine core (λ_=>none) (λ_=>.inl rfl) (.inr ⟨_,vs.toArray,_,hk,rfl,rfl,rfl,by rw [Wp,lenV];exact hl,by simpa using rv⟩) (λb u z=>by have z':(none:Option HO)=some u:=z;cases z') (λb z=>absurd rfl z) λz=>absurd rfl z
 |none=>
  refine core (λb=>if b=a then some (.frz { cls:=.type "list",data:=.seq vs.toArray } (.lst (ns.map V.int))) else none) (λb=>?_) (.inl (.inr ⟨{ cls:=.type "list",data:=.seq vs.toArray },if_pos rfl⟩)) (λb u z=>?_) (λb z=>?_) λ_=>hk
  ·by_cases hb:b=a
   ·exact .inr ⟨_,_,if_pos hb⟩
   ·exact .inl (if_neg hb)
  ·by_cases hb:b=a
   ·have z':=(if_pos hb).symm.trans z
    cases z'
    subst hb;exact⟨ha,by rw [Wm];exact hl,vs,_,rv,ha⟩
   ·have z':=(if_neg hb).symm.trans z
    cases z'
  ·by_cases hb:b=a
   ·exact hb
   ·exact absurd (if_neg hb) z
end L2
namespace L2
open PySem PySem.Spec PyProof.Rows
theorem walk_of {l:PySem.W.OpenLaw}{n k:Nat}{q:Program}{loose:List Str}{XP:(Str->Option Value)->Heap->Prop}{YP:World->Heap->Prop}{d:DefRec}{K:Params->W4}{CX:World->CXT}{sp:World->Sp}{x:Str}
  (hn:l.most=some n) (hn2:n<=Wd) (hdf:d.params.defaults=[]) (hr:Room k callerA)
  (hY:∀(w:World) (h:Heap),YP w h->(K w.params).In h)
  (F:∀(w:World) (mg:Str->Option Value) (fa:Addr) (h:Heap),(K w.params).In h->h.Ns Wx mg->mg d.name=some (.ref fa)->
   ∃fd:FuncData,(∀(s:Shared) (u:Value),BindsTo s fd ⟨[u],[]⟩ [(x,u)])/\
    ∀base:Heap,(K w.params).In base->base.Ns Wx mg->FnOk l.prog w (K w.params) mg base (CX w) k fa fd [x] (sp w))
  (hsp:∀(w:World) (H:Hp) (a:Addr) (ns:List Int),ns.length<=n->Z0e H->SqL (K w.params) H a (ns.map V.int)->sp w [.ref a] H (λv _=>v = .bl true) λ_ _ _=>False)
  (hCX:∀(w:World) (H:Hp) (s:Shared) (e:Value) (s':Shared),CX w [] H s (λ_ _ _=>False) e s'->False) :
  PySem.W.WalkO q loose XP YP l.row.toRowW d [] (λf vs=>PySem.call f vs):=by
 refine Att.attach_call hn hdf λw s₀ s₁ mg mb fa o pm cd doc a vs ns G Y ho hd hcd hmg hobj hints hlen hg=>?_
 have KX:=hY w _ Y
 obtain⟨fd,hb,hF⟩:=F w mg fa _ KX G.T.g hmg
 exact Fd KX G.T.g G.T.b G.T.builtins G.T.nolimit hg hobj hints (VA hlen hn2) hr hF hb (λH hO hS=>hsp w H a ns hlen hO hS) λH e s'=>hCX w H s₁ e s'
end L2
/- THE LAST THEOREM (shape;LID,My.* are yours):
 My.Adr: a structure of the addresses that your layer names (classes,functions);My.Txt K t: a structure (Prop) of the equations over K;
 My.txt_mk:{K} {implicit addresses ..} (e1:nsIn K Wx "law" = some (some (.ref f))) (e2:K.lookup f=some ⟨oc,od,.func (fnOf "law" "law" params body scope dV kV doc pm an cdv ct),sl⟩) (e3:codeIn K cdv "law" = true) .. : ∃t,My.Txt K t
set_option maxRecDepth 100000 in
set_option maxHeartbeats 0 in
(the tactic k_is has no namespace: write k_is) -/
namespace L2
open PySem PySem.Spec PyProof.Rows
def Zw (s:Stmt):Arguments:=match s with
 | .FunctionDef _ a _ _ _ _ _ _ _ _=>a
 |_=>{ posonlyargs:=[],args:=[],vararg:=none,kwonlyargs:=[],kw_defaults:=[],kwarg:=none,defaults:=[] }
def Zs (s:Stmt):List Stmt:=match s with
 | .FunctionDef _ _ b _ _ _ _ _ _ _=>b
 |_=>[]
def Z5 (s:Stmt):Scope:=match s with
 | .FunctionDef _ _ _ _ _ _ sc _ _ _=>sc
 |_=>{ kind:=.function,names:=[],isGenerator:=false,isCoroutine:=false }
abbrev CX0:CXT:=λ_ _ _ _ _ _=>False
abbrev E0:XK:=λ_ _ _=>False
theorem F0 {X:Cx}:Tb CX0 X E0:=λ_ _ _ _ _ _ _ h=>h.elim
structure Fun (K:W4) (x qual:Str) (st:Stmt) (f:Addr) (fd:FuncData):Prop where
 ex:∃(oc:Value) (od:Option Addr) (kV doc pm:Value) (an:Option Addr) (cdv ct:Value) (osl:Array (Option Value)),
  fd=WK x qual (Zw st) (Zs st) (Z5 st) .none kV doc pm an cdv ct/\K.lookup f=some ⟨oc,od,.func fd,osl⟩/\WF K cdv qual=true
 kp:Wy K (.ref f)=true
section
variable {P:Program} {w:World} {K:W4} {mg:Str->Option Value} {base:Heap}
theorem Fun.ok {x qual:Str}{st:Stmt}{f:Addr}{fd:FuncData}{N ps:List Str}{k:Nat}{sp:Sp}(F:Fun K x qual st f fd)(S:FnScope N ps (Z5 st))(len:∀vs H Q E,sp vs H Q E->vs.length=ps.length)
  (hbody:∀(cdv:Value) (A:Around) (outer:List Env) (s:Shared) (H:Hp) (vs:List V) (Q:VK) (E:XK),Room k (A.deeper (envOfC qual (Z5 st) s.heap.objs.size f cdv))->sp vs H Q E->
   ∃t,PSs (Lk CX0 P w K mg base N qual (Z5 st) f cdv A outer s H E).nox (Zs st) t/\t { nx:=λ_ H'=>Q .non H',rt:=Q } (start N vs) H):FnOk P w K mg base CX0 (k+1) f fd ps sp:=by
 obtain⟨oc,od,kV,doc,pm,an,cdv,ct,osl,rfl,lk,hcd⟩:=F.ex
 refine O5 lk hcd S len λA outer s H vs Q E hr hsp=>?_
 obtain⟨t,h,q⟩:=hbody cdv A outer s H vs Q E hr hsp
 exact⟨t,h.nox,q⟩
theorem Fun.binds {x qual:Str}{st:Stmt}{f:Addr}{fd:FuncData}{ps:List Str}(F:Fun K x qual st f fd)
  (h:∀(kV doc pm:Value) (an:Option Addr) (cdv ct:Value) (us:List Value),us.length=ps.length->bindArgs (WK x qual (Zw st) (Zs st) (Z5 st) .none kV doc pm an cdv ct) ⟨us,[]⟩=pure (ps.zip us)):Qv K fd ps []:=by
 obtain⟨oc,od,kV,doc,pm,an,cdv,ct,osl,rfl,lk,hcd⟩:=F.ex
 exact .all (h kV doc pm an cdv ct)
theorem Y6 {x qual:Str}{st:Stmt}{f:Addr}{oc:Value}{od an:Option Addr}{osl:Array (Option Value)}{kV doc pm cdv ct:Value}(l:K.lookup f=some ⟨oc,od,.func (WK x qual (Zw st) (Zs st) (Z5 st) .none kV doc pm an cdv ct),osl⟩)
  (c:WF K cdv qual=true) (k:Wy K (.ref f)=true):Fun K x qual st f (WK x qual (Zw st) (Zs st) (Z5 st) .none kV doc pm an cdv ct):=⟨⟨oc,od,kV,doc,pm,an,cdv,ct,osl,rfl,l,c⟩,k⟩
end
section
variable {X:Cx}
end
end L2
set_option maxHeartbeats 4000000
namespace L2
open PySem PySem.Spec PyProof.Rows
theorem JJ {α β:Type}{f:α->β->Sem (ForInStep β)}(g:α->β->β):∀(l:List α) (c:β),(∀x∈l,∀c,f x c=pure (.yield (g x c)))->
  forIn l c f=pure (l.foldl (λc x=>g x c) c)
 |[],_,_=>rfl
 |x :: l,c,h=>by
  rw [List.forIn_cons,h x Wv,pure_bind];exact JJ g l _ λy hy=>h y (Wu _ hy)
def QO (env:Env)(cs:List (Str×Addr))(p:Str×NameKind):List (Str×Addr):=
 if p.2 == .free then (p.1,(env.cells.lookup p.1).getD 0) :: cs else cs
def HJ (scope:Scope)(env:Env):List (Str×Addr):=scope.names.foldl (QO env) []
theorem EH {env:Env}{x:Str}{c:Addr}:∀(l:List (Str×NameKind)) (acc:List (Str×Addr)),(x,c)∈l.foldl (QO env) acc->
  (x,c)∈acc\/((x,NameKind.free)∈l/\c=(env.cells.lookup x).getD 0)
 |[],_,h=>.inl h
 |p :: l,acc,h=>by
  rcases EH l _ h with q|⟨q,e⟩
  ·unfold QO at q
   by_cases hp:p.2 == .free
   ·rw [if_pos hp] at q
    rcases Wr.mp q with q|q
    ·have e1:x=p.1:=congrArg Prod.fst q
     have e2:c=(env.cells.lookup p.1).getD 0:=congrArg Prod.snd q
     have e3:p.2 = .free:=by simpa using hp
     refine .inr ⟨?_,by rw [e1];exact e2⟩
     have e4:p=(x,NameKind.free):=by rw [e1,<-e3]
     rw [e4];exact Wv
    ·exact .inl q
   ·rw [if_neg hp] at q
    exact .inl q
  ·exact .inr ⟨Wu _ q,e⟩
theorem MD {env:Env}{p:Str×Addr}:∀(l:List (Str×NameKind)) (acc:List (Str×Addr)),p∈acc->p∈l.foldl (QO env) acc
 |[],_,h=>h
 |q :: l,acc,h=>by
  refine MD l _ ?_
  unfold QO;split
  ·exact Wu _ h
  ·exact h
theorem EI {env:Env}{x:Str}:∀(l:List (Str×NameKind)) (acc:List (Str×Addr)),(x,NameKind.free)∈l->∃c,(x,c)∈l.foldl (QO env) acc
 |[],_,h=>by cases h
 |p :: l,acc,h=>by
  rcases Wr.mp h with h|h
  ·subst h
   refine⟨(env.cells.lookup x).getD 0,MD l _ ?_⟩
   unfold QO;rw [if_pos (by rfl)]
   exact Wv
  ·exact EI l _ h
theorem JD {x:Str}{c:Addr}:∀{l:List (Str×Addr)},(x,c)∈l->∃c',l.lookup x=some c'
 |[],h=>by cases h
 |p :: l,h=>by
  obtain⟨n,a⟩:=p
  rw [V9];cases hx:x == n with
  |true=>exact⟨a,rfl⟩
  |false=>
   rcases Wr.mp h with h|h
   ·have e:x=n:=congrArg Prod.fst h
    rw [e] at hx;simp at hx
   ·exact JD h
def Le (scope:Scope)(env:Env):Prop:=∀x,(x,NameKind.free)∈scope.names->∃c,env.cells.lookup x=some c
theorem YT {scope:Scope}{env:Env}(h:Le scope env){x:Str}{c:Addr}(e:(HJ scope env).lookup x=some c):(x,NameKind.free)∈scope.names/\env.cells.lookup x=some c:=by
 rcases EH scope.names [] (Vs e) with q|⟨q,r⟩
 ·cases q
 ·obtain⟨c',hc⟩:=h x q
  rw [hc] at r;exact⟨q,by rw [hc,r];rfl⟩
theorem PR {scope:Scope}{env:Env}(h:Le scope env){x:Str}(q:(x,NameKind.free)∈scope.names):∃c,(HJ scope env).lookup x=some c/\env.cells.lookup x=some c:=by
 obtain⟨c,hc⟩:=EI (env:=env) scope.names [] q
 obtain⟨c',h'⟩:=JD hc
 exact⟨c',h',(YT h h').2⟩
theorem Ki {scope:Scope}{env:Env}(h:Le scope env):closureFor scope env=pure (HJ scope env):=by
 unfold closureFor HJ;dsimp only;rw [JJ (λp cs=>QO env cs p) scope.names [] (λp hp cs=>by
  obtain⟨n,k⟩:=p
  show (if (k == NameKind.free)=true then _ else _)=_
  by_cases hk:(k == NameKind.free)=true
  ·have e:k = .free:=by simpa using hk
   obtain⟨c,hc⟩:=h n (e ▸ hp)
   have e2:cellOf env n=pure c:=by unfold cellOf;rw [hc]
   rw [if_pos hk,e2];show _=pure (ForInStep.yield (QO env cs (n,k)))
   unfold QO;rw [if_pos hk,hc];rfl
  ·rw [if_neg hk]
   show _=pure (ForInStep.yield (QO env cs (n,k)))
   unfold QO;rw [if_neg hk])]
 rfl
theorem Uf {env:Env}:∀{names:List (Str×NameKind)} {x:Str},names.lookup x=some .free->
  (names.map λ(n,k)=>if (k == NameKind.free&&env.scope.kind == .function&&env.kindOf n == some .cell) then (n,NameKind.cell) else (n,k)).lookup x=some .free\/
  (names.map λ(n,k)=>if (k == NameKind.free&&env.scope.kind == .function&&env.kindOf n == some .cell) then (n,NameKind.cell) else (n,k)).lookup x=some .cell
 |[],_,h=>by simp at h
 | (n,k) :: r,x,h=>by
  have ih:=@Uf env r x
  rw [W1];dsimp only;cases hx:x == n with
  |true=>
   simp only [V9,hx] at h
   cases h;by_cases hc:(NameKind.free == NameKind.free&&env.scope.kind == .function&&env.kindOf n == some .cell)=true
   ·right
    show VY x ((if _ then _ else _) :: _)=_
    rw [if_pos hc];simp only [V9,hx]
   ·left
    show VY x ((if _ then _ else _) :: _)=_
    rw [if_neg hc];simp only [V9,hx]
  |false=>
   simp only [V9,hx] at h
   by_cases hc:(k == NameKind.free&&env.scope.kind == .function&&env.kindOf n == some .cell)=true
   ·have e:(if (k == NameKind.free&&env.scope.kind == .function&&env.kindOf n == some .cell)=true then (n,NameKind.cell) else (n,k))=(n,NameKind.cell):=if_pos hc
    rw [e];simp only [V9,hx];exact ih h
   ·have e:(if (k == NameKind.free&&env.scope.kind == .function&&env.kindOf n == some .cell)=true then (n,NameKind.cell) else (n,k))=(n,k):=if_neg hc
    rw [e];simp only [V9,hx];exact ih h
theorem Ug {env:Env}:∀{names:List (Str×NameKind)} {x:Str},(∀p∈names,p.2≠.cell)->
  ((names.map λ(n,k)=>if (k == NameKind.free&&env.scope.kind == .function&&env.kindOf n == some .cell) then (n,NameKind.cell) else (n,k)).lookup x=some .cell\/
  (names.map λ(n,k)=>if (k == NameKind.free&&env.scope.kind == .function&&env.kindOf n == some .cell) then (n,NameKind.cell) else (n,k)).lookup x=some .free)->(x,NameKind.free)∈names
 |[],_,_,h=>by simp at h
 | (n,k) :: r,x,hc0,h=>by
  have ih:=@Ug env r x (λp hp=>hc0 p (Wu _ hp))
  rw [W1] at h;dsimp only at h;have key:∀K2:NameKind,(K2 = .cell\/K2 = .free)->VY x ((if (k == NameKind.free&&env.scope.kind == .function&&env.kindOf n == some .cell)=true then (n,NameKind.cell) else (n,k)) ::
    (r.map λ(n,k)=>if (k == NameKind.free&&env.scope.kind == .function&&env.kindOf n == some .cell) then (n,NameKind.cell) else (n,k)))=some K2->(x,NameKind.free)∈(n,k) :: r:=by
   intro K2 hK2 hl;cases hx:x == n with
   |true=>
    have exn:x=n:=by simpa using hx
    by_cases hc:(k == NameKind.free&&env.scope.kind == .function&&env.kindOf n == some .cell)=true
    ·have hk:k = .free:=by
      have:=(Ws _ _ ▸ (Ws _ _ ▸ hc).1).1
      simpa using this
     rw [exn,hk];exact Wv
    ·rw [if_neg hc] at hl
     simp only [V9,hx] at hl
     have hk:k=K2:=WO hl
     rcases hK2 with q|q
     ·exact absurd (hk.trans q) (hc0 (n,k) Wv)
     ·rw [exn,hk.trans q];exact Wv
   |false=>
    refine Wu _ (ih ?_)
    by_cases hc:(k == NameKind.free&&env.scope.kind == .function&&env.kindOf n == some .cell)=true
    ·rw [if_pos hc] at hl
     simp only [V9,hx] at hl
     rcases hK2 with q|q
     ·exact .inl (q ▸ hl)
     ·exact .inr (q ▸ hl)
    ·rw [if_neg hc] at hl
     simp only [V9,hx] at hl
     rcases hK2 with q|q
     ·exact .inl (q ▸ hl)
     ·exact .inr (q ▸ hl)
  rcases h with h|h
  ·exact key .cell (.inl rfl) h
  ·exact key .free (.inr rfl) h
def Y2 (X:Cx)(scope:Scope)(N:List Str)(fp:List Addr)(s₂:Shared)(H₂:Hp)(C:Addr):Cx where
 prog:=X.prog
 w:=X.w
 K:=X.K
 mg:=X.mg
 base:=X.base
 A:=X.A
 N:=N
 s₀:=s₂
 H₀:=H₂
 env:=compEnvC scope (HJ scope X.env) C X.env
 outer:=X.stack
 stack:=X.stack
 ex:=fp
 fn:=λ_=>false
 calm:=X.calm
 pn:=[]
 xe:=λ_ _=>False
def Tr (X:Cx)(scope:Scope):List Str->List Nat->Prop
 |[],[]=>True
 |x :: xs,j :: js=>(X.N[j]? = some x/\(X.env.scope.names.lookup x=some .cell\/X.env.scope.names.lookup x=some .free)/\scope.names.lookup x=some .free)/\Tr X scope xs js
 |_,_=>False
def Jg (nT:Nat)(caps:List Nat)(σ:St):St:=VQ nT none++caps.map λj=>(σ[j]?).getD none
theorem Tr.len {X:Cx}{scope:Scope}:∀{xs:List Str} {js:List Nat},Tr X scope xs js->xs.length=js.length
 |[],[],_=>rfl
 |_ :: _,_ :: _,h=>by simp only [WP];rw [Tr.len h.2]
 |[],_ :: _,h=>h.elim
 |_ :: _,[],h=>h.elim
theorem Tr.get {X:Cx}{scope:Scope}:∀{xs:List Str} {js:List Nat} {k:Nat} {x:Str} {j:Nat},Tr X scope xs js->xs[k]? = some x->js[k]? = some j->
  X.N[j]? = some x/\(X.env.scope.names.lookup x=some .cell\/X.env.scope.names.lookup x=some .free)/\scope.names.lookup x=some .free
 |[],_,_,_,_,_,h,_=>by simp at h
 |_ :: _,[],_,_,_,h,_,_=>h.elim
 |_ :: _,_ :: _,0,_,_,h,h1,h2=>by
  simp at h1 h2;subst h1;subst h2;exact h.1
 |_ :: _,_ :: _,k+1,_,_,h,h1,h2=>Tr.get (k:=k) h.2 (by simpa using h1) (by simpa using h2)
def PF (X:Cx)(ifs:List Expr)(t:TT):Prop:=
 ∀(pins:List (Addr×Obj)) (s:Shared) (σ:St) (H:Hp) (Q:Bool->Hp->Prop),Inv X pins σ H s->t σ H Q->
  wpAny (model X.prog X.w) X.A (forIn ifs true λc r=>if r=true then do let ok <-isTrue c X.env (eval c X.env);pure (ForInStep.yield ok) else pure (ForInStep.yield r)) (TP X pins σ Q) X.xe s
def OX:TT:=λ_ H Q=>Q true H
theorem Ir {X:Cx}:PF X [] OX:=λ_ _ _ H _ I h=>wpAny_tests_nil ⟨H,I,h⟩
theorem Jf {prog:Program}{w:World}{A:Around}{R:Result->Shared->Prop}{s:Shared}{elt target iter:Expr}{ifs:List Expr}{scope:Scope}{pos:Pos}{it acc:Value}{env:Env}(I:Nat->Shared->Prop)
  (turn:∀n s,I n s->wpAny (model prog w) A (pyNext it) (λr s₁=>match r with
   |none=>R (.ok .next) s₁
   |some v=>wpAny (model prog w) A (letOwnedTupleGo target it v) (λ_ s₀=>wpAny (model prog w) A (assign target env v) (λ_ s₂=>
     wpAny (model prog w) A (forIn ifs true λc r=>if r=true then do let ok <-isTrue c env (eval c env);pure (ForInStep.yield ok) else pure (ForInStep.yield r)) (λok s₃=>
      if ok=true then wpAny (model prog w) A (eval elt env) (λx s₄=>
       wpAny (model prog w) A (call (.builtin "list.append") [acc,x]) (λ_ s₅=>∃m,m<n/\I m s₅) (λ_ _=>False) s₄) (λ_ _=>False) s₃
      else ∃m,m<n/\I m s₃) (λ_ _=>False) s₂) (λ_ _=>False) s₀) (λ_ _=>False) s₁) (λ_ _=>False) s)
  (n:Nat) (h:I n s) :
  codeAny (model prog w) A (.compLoop (.ListComp elt [⟨target,iter,ifs,0⟩] scope pos) 0 it acc env) R s:=by
 refine codeAny_loop rfl I (λn s hI=>?_) n h
 show wpAny _ A ((compTurn (.ListComp elt [⟨target,iter,ifs,0⟩] scope pos) 0 it acc env).onRaise (λx=>do noteFrame x env;theTreesLotGoes x)) _ _ s
 refine wpAny_noted ?_
 rw [compTurn_list];refine W3 (wpAny_standAt (W3 (V1 (turn n s hI) (λr s₁ h₁=>?_) λ_ _ h'=>h'.elim)))
 cases r with
 |none=>exact Wn h₁
 |some v=>
  refine W3 (V1 h₁ (λ_ s₀ h₀=>?_) λ_ _ h'=>h'.elim)
  refine W3 (V1 h₀ (λ_ s₂ h₂=>W3 (V1 h₂ (λok s₃ h₃=>?_) λ_ _ h'=>h'.elim)) λ_ _ h'=>h'.elim)
  cases ok with
  |false=>exact Wn ⟨rfl,h₃⟩
  |true=>
   exact W3 (W3 (V1 h₃ (λx s₄ h₄=>W3 (V1 h₄ (λ_ s₅ h₅=>Wn (Wn ⟨rfl,h₅⟩)) λ_ _ h'=>h'.elim)) λ_ _ h'=>h'.elim))
theorem HOk.track {P:Program}{w:World}{H:Hp}{h:Heap}{a:Addr}{o:HO}(x:HOk P w H h)(hn:H a=none)(new:ZK P w (upd H a o) h a o):HOk P w (upd H a o) h:=λb u e=>by
 by_cases hb:b=a
 ·subst hb;rw [Zb] at e;cases e;exact new
 ·rw [Zl hb] at e
  exact (x b u e).stay (λc v _ q=>q) (λc q=>by rw [Zl (ZF q hn)];exact q) λc xs q=>by rw [Zl (ZF q hn)];exact q
theorem HOk.but {P:Program}{w:World}{H:Hp}{h h':Heap}{a:Addr}(x:HOk P w H h)(hn:H a=none)(k:∀b o,b≠a->h.get? b=some o->h'.get? b=some o):HOk P w H h':=λb u e=>by
 refine (x b u e).stay (λc v hc q=>k c v ?_ q) (λ_ q=>q) λ_ _ q=>q
 rintro rfl
 rcases hc with z|z
 ·rw [<-z,hn] at e;cases e
 ·rw [hn] at z;cases z
abbrev Gp (its:List Value)(n:Nat):Obj:={ cls:=.type "list",data:=.seq its.toArray n }
def OG (J:It)(cap:St)(g:TG)(tt:TT)(te:TE)(Fin:List V->Hp->Prop)(H:Hp):Prop:=
 ∃W:Nat->Nat->List V->Hp->Prop,(∃m,W 0 m [] H)/\∀i m ys H,W i m ys H->
  (J.stop i H/\ys.length<=Wd/\Fin ys H)\/(J.go i H/\ys.length<=Wd/\∀x H',J.yld i H x H'->g x cap H' λσ2 H2=>tt σ2 H2 λb H3=>
   if b=true then te σ2 H3 λv H4=>∃m',m'<m/\W (i+1) m' (ys++[v]) H4 else ∃m',m'<m/\W (i+1) m' ys H3)
def EQ (n:Nat)(g:TG):Prop:=∀v σ H Q,g v σ H Q->g v σ H λσ' H'=>(∀j,n<=j->σ'[j]? = σ[j]?)/\Q σ' H'
def FM (n:Nat)(g:TGs):Prop:=∀v σ H Q,g v σ H Q->g v σ H λσ' H'=>(∀j,n<=j->σ'[j]? = σ[j]?)/\Q σ' H'
theorem YR {n i:Nat}(h:i<n):EQ n (Kc i):=λv σ H Q q=>⟨λj hj=>WV (by omega),q⟩
theorem Pk {n:Nat}:FM n O0:=λvs σ H Q q=>⟨q.1,λ_ _=>rfl,q.2⟩
theorem TC {n:Nat}{t:TG}{u:TGs}(h1:EQ n t)(h2:FM n u)(mono:∀v σ H Q Q',(∀σ' H',Q σ' H'->Q' σ' H')->t v σ H Q->t v σ H Q')(mono2:∀v σ H Q Q',(∀σ' H',Q σ' H'->Q' σ' H')->u v σ H Q->u v σ H Q'):FM n (Pr t u):=λvs σ H Q q=>by
 obtain⟨v,r,e,q⟩:=q
 refine⟨v,r,e,mono v σ H _ _ (λσ' H' z=>?_) (h1 v σ H _ q)⟩
 exact mono2 r σ' H' _ _ (λσ2 H2 y=>⟨λj hj=>(y.1 j hj).trans (z.1 j hj),y.2⟩) (h2 r σ' H' _ z.2)
theorem Fq {K:W4}{n k:Nat}{t:TGs}(h:FM n t):EQ n (Z08 K k t):=λv σ H Q q=>by
 obtain⟨a,xs,e,h1,h2,q⟩:=q
 exact⟨a,xs,e,h1,h2,h xs σ H Q q⟩
theorem U1 {i:Nat}:∀v σ H Q Q',(∀σ' H',Q σ' H'->Q' σ' H')->Kc i v σ H Q->Kc i v σ H Q':=λ_ _ _ _ _ h q=>h _ _ q
theorem BD:∀v σ H Q Q',(∀σ' H',Q σ' H'->Q' σ' H')->O0 v σ H Q->O0 v σ H Q':=λ_ _ _ _ _ h q=>⟨q.1,h _ _ q.2⟩
theorem Ka {t:TG}{u:TGs}(mono:∀v σ H Q Q',(∀σ' H',Q σ' H'->Q' σ' H')->t v σ H Q->t v σ H Q')(mono2:∀v σ H Q Q',(∀σ' H',Q σ' H'->Q' σ' H')->u v σ H Q->u v σ H Q') :
  ∀v σ H Q Q',(∀σ' H',Q σ' H'->Q' σ' H')->Pr t u v σ H Q->Pr t u v σ H Q':=λvs σ H Q Q' h q=>by
 obtain⟨v,r,e,q⟩:=q
 exact⟨v,r,e,mono v σ H _ _ (λσ' H' z=>mono2 r σ' H' _ _ h z) q⟩
section
variable {X:Cx} {pins:List (Addr×Obj)} {σ:St} {H₂:Hp} {s₂:Shared} {scope:Scope} {tg iter elt:Expr} {ifs:List Expr} {pos:Pos} {nT:Nat} {tgs caps_n:List Str} {caps:List Nat}
theorem Kg (I:Inv X pins σ H₂ s₂){it:Addr}{fp:List Addr}{tn:Nat->Heap->Prop}{J:It}(T:Turn X.prog X.w X.K tg J fp it tn)(st0:tn 0 s₂.heap)(hfp:∀b∈fp,Kr X pins H₂ b)
  (hc:X.calm=true) (hcell:∀y∈scope.names,y.2≠.cell) (hkind:scope.kind = .function) (hcl:Le scope X.env) (hcap:Tr X scope caps_n caps)
  {g:TG} {tt:TT} {te:TE} (hlow:EQ tgs.length g) (hg:∀s H C,PG (Y2 X scope (tgs++caps_n) fp s H C) tg g) (hf:∀s H C,PF (Y2 X scope (tgs++caps_n) fp s H C) ifs tt) (he:∀s H C,PE (Y2 X scope (tgs++caps_n) fp s H C) elt te)
  {Fin:List V->Hp->Prop} (hw:OG J (Jg tgs.length caps σ) g tt te Fin H₂) {RR:Value->Addr->Result->Shared->Prop}
  (hRR:∀(D C:Addr) (ys:List V) (its:List Value) (n:Nat) (H3:Hp) (s3:Shared),s₂.heap.objs.size<=D->s₂.heap.objs.size<=C->D≠C->Inv (Y2 X scope (tgs++caps_n) fp s₂ H₂ C) [(D,Gp its n)] (Jg tgs.length caps σ) H3 s3->Y4 ys its->ys.length<=Wd->Fin ys H3->RR (.ref D) C (.ok .next) s3)
  {E:Value->Shared->Prop} :
  wpAny (model X.prog X.w) X.A (newList []) (λacc s₃=>wpAny (model X.prog X.w) X.A (newFunctionEnv scope X.env.globals (HJ scope X.env) [] X.env.qual none .none (some X.env)) (λcenv s₄=>
   codeAny (model X.prog X.w) X.A (.compStart (.ListComp elt [⟨tg,iter,ifs,0⟩] scope pos) 0 (.ref it) acc { cenv with scope:=relabel scope X.env }) (RR acc cenv.locals) s₄) E s₃) E s₂:=by
 refine VR (wpAny_newFunctionEnv hcell (by intro y hy;simp at hy) (λh₁ hns₁ hsb₁=>?_) hkind)
 dsimp only at hns₁ hsb₁ ⊢
 generalize hH2:s₂.heap.push { cls:=.type "list",dict:=none,data:=.seq ([]:List Value).toArray }=HP at hns₁ hsb₁ ⊢
 have hC:HP.objs.size=s₂.heap.objs.size+1:=by rw [<-hH2,VB]
 have hDC:s₂.heap.objs.size≠HP.objs.size:=by rw [hC];exact WT (Nat.lt_succ_self _)
 have hCle:s₂.heap.objs.size<=HP.objs.size:=by rw [hC];exact Nat.le_succ _
 have below:∀b,b<s₂.heap.objs.size->b≠HP.objs.size/\b≠s₂.heap.objs.size:=λb hb=>⟨by rw [hC];exact WT (Nat.lt_succ_of_lt hb),WT hb⟩
 have old:∀b o,s₂.heap.get? b=some o->h₁.get? b=some o:=λb o e=>hsb₁.extBut b o (below b (Wz e)).1 (Wk _ (hH2 ▸ Wk _ e))
 have hacc:h₁.get? s₂.heap.objs.size=some (Gp [] 0):=hsb₁.extBut _ _ hDC (Wk _ (hH2 ▸ WA _ rfl))
 have fpl:∀b∈fp,b<s₂.heap.objs.size:=λb hb=>by
  obtain⟨o,e,_⟩:=T.obj 0 _ st0 b hb
  exact Wz e
 have stkl:∀b∈frs X.stack,b<s₂.heap.objs.size:=λb hb=>by
  obtain⟨_,o,ho,_⟩:=I.stack.mem hb
  exact Wz ho
 -- the block's context
 have ok:(Y2 X scope (tgs++caps_n) fp s₂ H₂ HP.objs.size).Ok:=by
  refine⟨I.ok.mod,hkind,I.ok.glob,I.ok.blt,hCle,λx y c h1 h2=>I.ok.inj x y c (YT hcl h1).2 (YT hcl h2).2,λx hx=>?_,λx c h _=>(nomatch h),I.ok.hd,I.ok.frames,.inl rfl,
   λb hb=>⟨(below b (fpl b hb)).1,λx c h=>(hfp b hb).2.2.2.2.1 x c (YT hcl h).2⟩,I.bs,VA I.ok.bsz I.sz,λb o e hb=>?_,λb hb z=>?_,I.stack,I.stkFree⟩
  ·obtain⟨c,h1,_⟩:=PR hcl (Ug (env:=X.env) hcell hx)
   exact⟨c,h1⟩
  ·obtain⟨_,_,_,h4,_⟩:=hfp b hb
   rcases h4 with h4|h4
   ·exact I.ok.noex b o e h4
   ·exact absurd (WJ (Wz (I.ok.bs b o e).1) h4) (Vy _)
  ·obtain⟨_,h2,h3,_⟩:=hfp b hb
   rcases Wr.mp (I.stkSub b z) with q|q
   ·exact h2 q
   ·exact h3 q
 have I0:∀tk,Inv (Y2 X scope (tgs++caps_n) fp s₂ H₂ HP.objs.size) [(s₂.heap.objs.size,Gp [] 0)] (Jg tgs.length caps σ) H₂ { s₂ with heap:=h₁,toks:=tk }:=by
  intro tk;refine⟨ok,rfl,I.bare,Un.kept old,⟨_,hns₁,λi x v e1 e2 e3=>?_⟩,λx c h=>?_,I.hok.fresh hCle,λx c h=>I.freeC x c (YT hcl h).2,λp hp=>?_,I.hok.kept old,?_⟩
  ·unfold Jg at e2
   have hi:tgs.length<=i:=by
    by_cases hi:i<tgs.length
    ·rw [WR (by simpa using hi),Vz] at e2
     split at e2<;>cases e2
    ·exact W0g hi
   rw [WZ (by simpa using hi),VN,WH] at e2
   have e1':caps_n[i-tgs.length]? = some x:=by
    have e1'':(tgs++caps_n)[i]? = some x:=e1
    rw [WZ hi] at e1''
    exact e1''
   cases ej:caps[i-tgs.length]? with
   |none=>rw [ej] at e2;cases e2
   |some j=>
    rw [ej] at e2;obtain⟨n1,n2,n3⟩:=hcap.get e1' ej
    have es:σ[j]? = some (some v):=by
     have e2':(σ[j]?).getD none=some v:=WO e2
     cases q:σ[j]? with
     |none=>rw [q] at e2';cases e2'
     |some z=>rw [q] at e2';rw [show z=some v from e2']
    obtain⟨m,hn,hl⟩:=I.loc
    obtain⟨u,ru,lk⟩:=hl j x v n1 es (.inr n2)
    refine⟨u,ru,?_⟩
    rcases lk with ⟨k1,_⟩|⟨_,c,k1,k2⟩
    ·have k1':X.env.scope.names.lookup x=some .local:=k1
     rcases n2 with n2|n2
     ·rw [n2] at k1';cases k1'
     ·rw [n2] at k1';cases k1'
    ·obtain⟨c',h1,h2⟩:=PR hcl (Vs n3)
     rw [k1] at h2;cases h2
     refine .inr ⟨?_,c,h1,k2.keeps old⟩
     rcases Uf (env:=X.env) n3 with q|q
     ·exact .inr q
     ·exact .inl q
  ·obtain⟨v,z⟩:=I.cell x c (YT hcl h).2
   exact⟨v,z.keeps old⟩
  ·have e:p=(s₂.heap.objs.size,Gp [] 0):=by simpa [Y2] using hp
   subst e;exact⟨hacc,I.hok.fresh (Wt _),hDC,λz=>Vy _ (stkl _ z),λv z=>(nomatch z)⟩
  ·unfold Jg
   show _=(tgs++caps_n).length
   rw [WL,VN,Wm,WL,hcap.len]
 obtain⟨W,⟨m0,w0⟩,turn⟩:=hw
 have st1:tn 0 h₁:=T.keep 0 _ _ st0 λb _ o e=>old b o e
 have loop:∀tk,codeAny (model X.prog X.w) X.A (.compLoop (.ListComp elt [⟨tg,iter,ifs,0⟩] scope pos) 0 (.ref it) (.ref s₂.heap.objs.size) (compEnvC scope (HJ scope X.env) HP.objs.size X.env))
   (RR (.ref s₂.heap.objs.size) HP.objs.size) { s₂ with heap:=h₁,toks:=tk }:=by
  intro tk;have stat:∀{pins':List (Addr×Obj)} {H':Hp},(∀p∈pins',p.1∉fp)->(∀b∈fp,H' b=none)->∀b∈fp,Kr (Y2 X scope (tgs++caps_n) fp s₂ H₂ HP.objs.size) pins' H' b:=λ{pins' H'} hp hn b hb=>
   ⟨hn b hb,(below b (fpl b hb)).1,ok.exfs b hb,.inl hb,λx c h=>(hfp b hb).2.2.2.2.1 x c (YT hcl h).2,λp hp' z=>hp p (by simpa [Y2] using hp') (z ▸ hb)⟩
  have offD:∀(its:List Value) (n:Nat),∀p∈[(s₂.heap.objs.size,Gp its n)],p.1∉fp:=λits n p hp z=>by
   have e:p=(s₂.heap.objs.size,Gp its n):=by simpa using hp
   rw [e] at z;exact Vy _ (fpl _ z)
  refine Jf (λn s'=>∃i ys its k H',Inv (Y2 X scope (tgs++caps_n) fp s₂ H₂ HP.objs.size) [(s₂.heap.objs.size,Gp its k)] (Jg tgs.length caps σ) H' s'/\Y4 ys its/\tn i s'.heap/\(∀b∈fp,H' b=none)/\W i n ys H') ?_ m0
   ⟨0,[],[],0,H₂,I0 tk,.nil,st1,λb hb=>(hfp b hb).1,w0⟩
  rintro n s3 ⟨i,ys,its,k,H3,I3,rv,st3,fr3,w3⟩
  rcases turn i n ys H3 w3 with ⟨stop,hz,fin⟩|⟨go,hz,step⟩
  ·refine thn (T.done (Y2 X scope (tgs++caps_n) fp s₂ H₂ HP.objs.size) rfl rfl rfl hc i _ s3 _ H3 (λ_ _=>False) I3 (stat (offD _ _) fr3) st3 stop) λr s4 ⟨hr,I4⟩=>?_
   subst hr;exact hRR _ _ ys its k H3 s4 (Wt _) hCle hDC I4 rv hz fin
  ·refine thn (T.item (Y2 X scope (tgs++caps_n) fp s₂ H₂ HP.objs.size) rfl rfl rfl hc i _ s3 _ H3 (λ_ _=>False) I3 (stat (offD _ _) fr3) st3 go) λr s4 ⟨u,hr,h4⟩=>?_
   subst hr;refine thn h4 λ_ s5 ⟨x,H5,I5,r5,y5,st5,fr5⟩=>?_
   have I5':=I5.pinned (stat (offD _ _) fr5) (T.obj _ _ st5)
   refine thn (hg s₂ H₂ HP.objs.size _ s5 _ H5 x u _ I5' r5 (hlow _ _ _ _ (step x H5 y5))) λ_ s6 ⟨σ6,H6,I6,keep6,q6⟩=>?_
   refine thn (hf s₂ H₂ HP.objs.size _ s6 σ6 H6 _ I6 q6) λb s7 ⟨H7,I7,q7⟩=>?_
   have len6:σ6.length=(Jg tgs.length caps σ).length:=I6.len.trans I5.len.symm
   -- what stays of the iterator's objects
   have itk:∀{σ':St} {H':Hp} {s':Shared},Inv (Y2 X scope (tgs++caps_n) fp s₂ H₂ HP.objs.size) ([(s₂.heap.objs.size,Gp its k)]++B7 fp s5.heap) σ' H' s'->tn (i+1) s'.heap/\∀b∈fp,H' b=none:=λ{σ' H' s'} I'=>by
    refine⟨T.keep _ _ _ st5 λb hb o e=>(I'.pin (b,o) (WM _ (WM _ (J2 hb e)))).1,λb hb=>?_⟩
    obtain⟨o,e,d⟩:=T.obj _ _ st5 b hb
    exact (I'.pin (b,o) (WM _ (WM _ (J2 hb e)))).2.1
   -- the captured names' slots
   have slots:∀(j:Nat) v,(Jg tgs.length caps σ)[j]? = some (some v)->σ6[j]? = some (some v):=λj v e=>by
    by_cases hj:tgs.length<=j
    ·rw [keep6 j hj];exact e
    ·unfold Jg at e
     rw [WR (by simpa using hj),Vz] at e
     split at e<;>cases e
   cases b with
   |false=>
    rw [if_neg Wq];rw [if_neg Wq] at q7;obtain⟨m',hm,w7⟩:=q7
    obtain⟨t7,f7⟩:=itk I7
    exact⟨m',hm,i+1,ys,its,k,H7,(I7.unpinned (pins:=[(s₂.heap.objs.size,Gp its k)])).weak len6.symm slots,rv,t7,f7,w7⟩
   |true=>
    rw [if_pos rfl];rw [if_pos rfl] at q7;refine thn (he s₂ H₂ HP.objs.size _ s7 σ6 H7 _ I7 q7) λxv s8 ⟨y,H8,I8,r8,m',hm,w8⟩=>?_
    obtain⟨t8,f8⟩:=itk I8
    have I8':Inv (Y2 X scope (tgs++caps_n) fp s₂ H₂ HP.objs.size) [(s₂.heap.objs.size,Gp its k)] (Jg tgs.length caps σ) H8 s8:=(I8.unpinned (pins:=[(s₂.heap.objs.size,Gp its k)])).weak len6.symm slots
    obtain⟨eD,nD,neD,nfD,dD⟩:=I8'.pin (s₂.heap.objs.size,Gp its k) (WM _ (by simp))
    have hlen:its.toArray.size<=Wd:=by rw [Wp,<-rv.length];exact hz
    refine append_at (its:=its.toArray) (n:=k) eD (λh9 sb9 e9=>?_) hlen
    have I9:Inv (Y2 X scope (tgs++caps_n) fp s₂ H₂ HP.objs.size) [] (Jg tgs.length caps σ) H8 { s8 with heap:=h9 }:=
     (I8'.pins_of (pins':=[]) (λp hp=>by cases hp)).turned (t':=s8.toks) (it:=s₂.heap.objs.size) (λb o hb e=>sb9.extBut b o hb e) nD neD (.inr (Wt _)) (λx c h z=>by
      obtain⟨v,q⟩:=I.cell x c (YT hcl h).2
      exact absurd q.lt (by rw [z];exact Vy _)) (λp hp=>by
       have hp':p∈([]:List (Addr×Obj)):=by simpa [Y2] using hp
       cases hp')
    have e9':h9.get? s₂.heap.objs.size=some (Gp (its++[xv]) (k+1)):=by
     rw [e9];simp [Gp]
    refine⟨m',hm,i+1,ys++[y],its++[xv],k+1,H8,I9.pins_of (λp hp=>?_),rv.append (.cons r8 .nil),T.keep _ _ _ t8 λb hb o e=>sb9.extBut b o (WT (fpl b hb)) e,f8,w8⟩
    have ep:p=(s₂.heap.objs.size,Gp (its++[xv]) (k+1)):=by simpa using hp
    subst ep;exact⟨e9',nD,neD,nfD,λv z=>(nomatch z)⟩
 exact codeAny_compStart_list (loop _) (T.self X.A 0 _ _ _ st1 (loop _))
theorem FF (I:Inv X pins σ H₂ s₂){fp:List Addr}(hfp:∀b∈fp,Kr X pins H₂ b){D C:Addr}{ys:List V}{its:List Value}{n:Nat}{H3:Hp}{s3:Shared}{N':List Str}{σ':St}{h4:Heap}(hD:s₂.heap.objs.size<=D)(hC:s₂.heap.objs.size<=C)(hDC:D≠C)
  (I3:Inv (Y2 X scope N' fp s₂ H₂ C) [(D,Gp its n)] σ' H3 s3) (rv:Y4 ys its) (hz:ys.length<=Wd) (hs:W02 C s3.heap h4):Inv X pins σ (upd H3 D (.lst ys)) { s3 with heap:=h4 }:=by
 obtain⟨eD,nD,neD,nfD,dD⟩:=I3.pin (D,Gp its n) (WM _ (by simp))
 have eD4:h4.get? D=some (Gp its n):=hs.extBut D _ hDC eD
 have lt:∀b o,s₂.heap.get? b=some o->b≠C/\b≠D:=λb o e=>⟨WT (WJ (Wz e) hC),WT (WJ (Wz e) hD)⟩
 refine I.call' (ch:=fp) I3.os ?_ ?_ I3.bare (λb hb=>⟨(hfp b hb).2.2.2.1,(hfp b hb).2.1,(hfp b hb).2.2.2.2.1,(hfp b hb).2.2.2.2.2⟩)
 ·have u:=I3.base
  refine⟨λb o e nb hb hx=>hs.extBut b o (lt b o e).1 (u.keep b o e nb hb hx),λb o e nb hb hx=>?_,λb o e nb hx=>?_,λb o e hx=>?_,λb xs e=>?_,λb o xs e=>?_,λb ps e=>?_⟩
  ·obtain⟨sl,q⟩:=u.slot b o e nb hb hx
   exact⟨sl,hs.extBut b _ (lt b o e).1 q⟩
  ·rw [Zl (lt b o e).2];exact u.free b o e nb hx
  ·obtain⟨o',q⟩:=u.there b o e hx
   exact⟨o',hs.extBut b _ (lt b o e).1 q⟩
  ·have q:=u.tups b xs e
   rw [Zl (ZF q nD)];exact q
  ·have q:=u.frzs b o xs e
   rw [Zl (ZF q nD)];exact q
  ·obtain⟨more,q⟩:=u.tbls b ps e
   exact⟨more,by rw [Zl (ZF q nD)];exact q⟩
 ·refine HOk.track (I3.hok.but I3.free λb o hb e=>hs.extBut b o hb e) nD ?_
  exact⟨hz,its,n,rv,eD4⟩
def SH (wi:TI)(nT:Nat)(caps:List Nat)(g:TG)(tt:TT)(te:TE):TE:=λσ H Q=>wi σ H λJ H1=>OG J (Jg nT caps σ) g tt te (λys H3=>∀D,H3 D=none->Q (.ref D) (upd H3 D (.lst ys))) H1
theorem Nc {wi:TI}{g:TG}{tt:TT}{te:TE}(hc:X.calm=true)(hcell:∀y∈scope.names,y.2≠.cell)(hkind:scope.kind = .function)(hnames:∀y∈scope.names,y.2 = .local->scope.names.lookup y.1=some .local)
  (hfree:∀y∈scope.names,y.2 = .free->X.env.scope.names.lookup y.1=some .cell\/X.env.scope.names.lookup y.1=some .free) (hcap:Tr X scope caps_n caps) (hi:PI X tg iter wi) (hlow:EQ tgs.length g)
  (hg:∀fp s H C,PG (Y2 X scope (tgs++caps_n) fp s H C) tg g) (hf:∀fp s H C,PF (Y2 X scope (tgs++caps_n) fp s H C) ifs tt) (he:∀fp s H C,PE (Y2 X scope (tgs++caps_n) fp s H C) elt te)
  (hs:∀x,foldedSetIterable iter X.env x=pure x:=by intro _;rfl):PE X (.ListComp elt [⟨tg,iter,ifs,0⟩] scope pos) (SH wi tgs.length caps g tt te):=by
 intro pins s σ H Q I h;have hcl:Le scope X.env:=λx hx=>I.ok.has x (hfree _ hx rfl)
 rw [eval_ListComp];refine wpAny_comprehension_free (use:=none) rfl hs (Ki hcl) hkind hnames (thn (hi pins s σ H _ I h) λv s1 h1=>thn h1 λitv s2 h2=>?_)
 obtain⟨it,fp,tn,J,H2,e,I2,T,st2,f2,hw⟩:=h2
 subst e;refine Kg I2 T st2 f2 hc hcell hkind hcl hcap hlow (hg fp) (hf fp) (he fp) hw (RR:=λacc C=>compPost (model X.prog X.w) X.A X.xe none (EP X pins σ Q) acc C) ?_
 intro D C ys its n H3 s3 hD hC hDC I3 rv hz fin;obtain⟨m,hn,_⟩:=I3.loc
 refine⟨m,hn,λh' hs'=>?_⟩
 obtain⟨eD,nD,_⟩:=I3.pin (D,Gp its n) (WM _ (by simp))
 exact⟨.ref D,_,FF I2 f2 hD hC hDC I3 rv hz hs',rfl,fin D nD⟩
end
end L2
namespace L2
open PySem PySem.Spec PyProof.Rows
section
variable {prog:Program} {w:World} {κ:Type} [DecidableEq κ] {kd:HeapKind prog w κ} {A:Around} {E:Value->Shared->Prop} {s:Shared} {a:Addr} {tab:List (κ×Addr×Value)}
theorem K4 (ns:(a == sysModules)=false):MeetsIn prog w (Builtin.«dict.__len__» ⟨[.ref a],[]⟩) (λ_ R s=>∃tab,s.heap.DictOfH kd a tab/\R (.ok (.ret (.int tab.length s.toks))) { s with toks:=s.toks+1 }):=
 .of_wp λ_ R s ⟨tab,⟨o,es,ep,ho,_,hdat,he,_,_⟩,h⟩=>by
  have hz:es.size=tab.length:=by simpa using congrArg V5 he
  refine W3 (m:=dictSize a) (W3 (W0E ho hdat (Wn (W3 (m:=Builtin.Dict.pendingCount a) (wpAny_pendingCount_other ns (wpAny_ret_mkInt ?_))))))
  rw [Nat.add_zero,hz];exact h
theorem Bo {Q:Value->Shared->Prop}(ns:(a == sysModules)=false)(hm:s.heap.DictOfH kd a tab)(fit:(tab.length:Int)<2 ^ 63)(h:Q (.int tab.length (s.toks+1)) { s with toks:=s.toks+1+1 }) :
  wpAny (model prog w) A (Builtin.«len» ⟨[.ref a],[]⟩) (λfin s'=>∃r,fin = .done (.ret r)/\Q r s') E s:=by
 unfold Builtin.«len»
 refine W3 (m:=oneArg "len" _) (Wn (W3 (m:=callSpecial? (.ref a) (W0 "__len__")) (Vg (name:=W0 "__len__") hm.typeIs W0t ?_)))
 refine call_meetsIn W0t hm.typeIs F.entry_dict_len (F.args_dict_len_1 _) (K4 ns) ⟨tab,hm,W3 (Vo (Wn (W3 (wpAny_letGo ?_))))⟩
 have n1:¬((tab.length:Nat):Int)<0:=by omega
 have n2:¬((tab.length:Nat):Int)>=2 ^ 63:=by omega
 show wpAny _ _ (if ((tab.length:Nat):Int)<0 then _ else _) _ _ _
 rw [if_neg n1];show wpAny _ _ (if ((tab.length:Nat):Int)>=2 ^ 63 then _ else _) _ _ _
 rw [if_neg n2];exact W3 (wpAny_mkInt (Wn (show ∃r,_ from ⟨_,rfl,h⟩)))
theorem GK {Q:Value->Shared->Prop}(ns:(a == sysModules)=false)(hm:s.heap.DictOfH kd a tab)(fit:(tab.length:Int)<2 ^ 63)(h:Q (.int tab.length (s.toks+1)) { s with toks:=s.toks+1+1 }) :
  wpAny (model prog w) A (call (.builtin "len") [.ref a]) Q E s:=W1j kind_len plain_len entry_len (args_len1 _) (Bo ns hm fit h)
theorem BW {Q:Bool->Shared->Prop}(ns:(a == sysModules)=false)(hm:s.heap.DictOfH kd a tab)(fit:(tab.length:Int)<2 ^ 63)(h:Q (!tab.isEmpty) { s with toks:=s.toks+1+1 }) :
  wpAny (model prog w) A (truthy (.ref a)) Q E s:=by
 have ne:((tab.length:Int) != 0) = !tab.isEmpty:=by cases tab<;>simp<;>omega
 have run:wpAny (model prog w) A (runValue (.builtin "len" ⟨[.ref a],[]⟩)) (λr s'=>r = .int tab.length (s.toks+1)/\Q (!tab.isEmpty) s') E s:=by
  refine wpAny_runValue (W10 entry_len (by
   rw [W0S plain_len _];exact V1 (Bo (Q:=λr s'=>r = .int tab.length (s.toks+1)/\Q (!tab.isEmpty) s') ns hm fit ⟨rfl,h⟩) (λ_ _ q=>by obtain⟨_,e,q⟩:=q;subst e;exact q) λ_ _ z=>z))
 unfold truthy
 first
  |refine W3 (W0u (name:=W0 "__bool__") hm.typeIs noBool_dict (W3 (wpAny_specialOf (name:=W0 "__len__") hm.typeIs W0t.lookup ?_)))
  |refine W3 (Wn (W3 (W0u (name:=W0 "__bool__") hm.typeIs noBool_dict (W3 (wpAny_specialOf (name:=W0 "__len__") hm.typeIs W0t.lookup ?_)))))
  |refine W3 (Wn (W3 (W0u (name:=W0 "__bool__") hm.typeIs noBool_dict (W3 (Wn (W3 (wpAny_specialOf (name:=W0 "__len__") hm.typeIs W0t.lookup ?_)))))))
 first
  |exact W3 (V1 run (λ_ _ q=>by rw [q.1];exact Wn (ne ▸ q.2)) λ_ _ z=>z)
  |exact W3 (Wn (W3 (V1 run (λ_ _ q=>by rw [q.1];exact Wn (ne ▸ q.2)) λ_ _ z=>z)))
end
section
variable {X:Cx}
def FK (K:W4)(x:V)(H:Hp)(k:Bool):Prop:=Z0R K x H k\/(∃p kvs,x = .ref p/\Rd H p (.dT kvs)/\k = !kvs.isEmpty)\/∃p kvs,x = .ref p/\Rd H p (.dK kvs)/\k = !kvs.isEmpty
theorem KB:Z0S X (λx H Q=>∃k,FK X.K x H k/\Q k H):=by
 intro pins s σ H x v Q I rx h;obtain⟨k,e,q⟩:=h
 rcases e with e|⟨p,kvs,rfl,hx,rfl⟩|⟨p,kvs,rfl,hx,rfl⟩
 ·exact Sr pins s σ H x v Q I rx ⟨k,e,q⟩
 ·cases rx
  obtain⟨hz,hS,xs,r,m⟩:=BF I.hok hx
  have hlen:kvs.length=xs.length:=W06 r
  have hs:Wd=16777216:=VW
  refine BW hS m (by omega) ⟨H,I.tok _,?_⟩
  have:(!xs.isEmpty) = !kvs.isEmpty:=by cases r<;>rfl
  rw [this];exact q
 ·cases rx
  exact HF I hx λs' I'=>⟨H,I',q⟩
theorem Ra {a:Expr}{ta:TE}(ha:PE X a ta)(he:∀whole,isTrue a X.env whole=(do let v <-whole;standAt a.pos;holding [v] (truthy v))) :
  PT X a (λσ H Q=>ta σ H λx H'=>∃k,FK X.K x H' k/\Q k H'):=by
 intro pins s σ H Q I h;exact isTrue_plain (thn (ha pins s σ H _ I h) λv s1 ⟨x,H1,I1,r1,q1⟩=>KB pins s1 σ H1 x v Q I1 r1 q1) (he _)
end
end L2
namespace L2
open PySem PySem.Spec PyProof.Rows
section
variable {P:Program} {w:World} {H:Hp} {h:Heap} {a:Addr}
theorem Fz (x:ZK P w H h a (.dK [])):ZK P w H h a (.dT []):=by
 obtain⟨z,hd,vs,rel,o,es,ep,h1,h2,h3,h4,h5,h6⟩:=(show (_:Nat)<=Wd/\(a == sysModules)=false/\∃vs,KV [] vs/\h.DictOf (ZW P w) a vs from x)
 cases rel;have he:es.toList=[]:=W0v.mp h5.length
 exact⟨VG _,hd,[],.nil,o,es,ep,h1,h2,h3,by rw [he];rfl,List.nodup_nil⟩
theorem Fw (x:ZK P w H h a (.dT [])):ZK P w H h a (.dK []):=by
 obtain⟨z,hd,xs,rel,o,es,ep,h1,h2,h3,h4,h5⟩:=x
 cases rel;have he:es.toList=[]:=by rw [h4];rfl
 refine⟨VG _,hd,[],.nil,o,es,ep,h1,h2,h3,λe hm=>?_,?_,List.nodup_nil⟩
 ·have:e∈es.toList:=Array.mem_toList_iff.mpr hm
  rw [he] at this;cases this
 ·rw [he];exact .nil
end
section
variable {X:Cx} {pins:List (Addr×Obj)} {σ:St} {H:Hp} {s:Shared} {a:Addr} {y v:V} {u r:Value} {o:Option V} {A:Around} {E:Value->Shared->Prop}
theorem Inv.view {o':HO}(I:Inv X pins σ H s)(mu:Mut (H a))(he:∃q,s.heap.get? a=some q)(f:ZK X.prog X.w (upd H a o') s.heap a o'):Inv X pins σ (upd H a o') s:=
 U9 (h':=s.heap) (t':=s.toks) (ob:=o') I mu ⟨rfl,λ_ _=>rfl⟩ he f
theorem Ox {P:Program}{w:World}{H:Hp}{h:Heap}{a:Addr}{kvs:List (Key×V)}(x:ZK P w H h a (.dK kvs)):∃q,h.get? a=some q:=by
 obtain⟨_,_,vs,_,o,_,_,h1,_⟩:=x
 exact⟨o,h1⟩
theorem Ov {P:Program}{w:World}{H:Hp}{h:Heap}{a:Addr}{kvs:List (List Key×V)}(x:ZK P w H h a (.dT kvs)):∃q,h.get? a=some q:=by
 obtain⟨_,_,xs,_,o,_,_,h1,_⟩:=x
 exact⟨o,h1⟩
theorem Inv.asT (I:Inv X pins σ H s)(e:H a=some (.dK [])):Inv X pins σ (upd H a (.dT [])) s:=by
 have ok:=I.hok a _ e
 refine I.view (by rw [e];exact True.intro) (Ox ok) ?_
 obtain⟨z,hd,xs,rel,r⟩:=Fz ok
 cases rel;exact⟨z,hd,[],.nil,r⟩
theorem Inv.asK (I:Inv X pins σ H s)(e:H a=some (.dT [])):Inv X pins σ (upd H a (.dK [])) s:=by
 have ok:=I.hok a _ e
 refine I.view (by rw [e];exact True.intro) (Ov ok) ?_
 obtain⟨z,hd,vs,r⟩:=Fw ok
 exact⟨z,hd,vs,r⟩
theorem Inv.back {o:HO}(I:Inv X pins σ (upd H a o) s)(e:H a=some (.dK [])\/H a=some (.dT []))(ho:o = .dK []\/o = .dT []):Inv X pins σ H s:=by
 have eH:∀o',H a=some o'->upd (upd H a o) a o'=H:=λo' h=>by
  rw [Qp]
  funext b
  unfold upd;by_cases hb:b=a
  ·rw [if_pos hb,hb,h]
  ·rw [if_neg hb]
 rcases e with e|e<;>rcases ho with rfl|rfl
 ·have hu:upd H a (.dK [])=H:=by rw [<-Qp (o:=.dK [])];exact eH _ e
  rw [hu] at I;exact I
 ·have:=I.asK Zb
  rw [eH _ e] at this;exact this
 ·have:=I.asT Zb
  rw [eH _ e] at this;exact this
 ·have hu:upd H a (.dT [])=H:=by rw [<-Qp (o:=.dT [])];exact eH _ e
  rw [hu] at I;exact I
def Ut (H:Hp)(a:Addr)(y:V)(r:Option V):Prop:=HX H a y r\/
 ((H a=some (.dK [])/\∃(k:List Key) (b:Addr),y = .ref b/\H b=some (.tup (k.map kV))/\r=none)\/(H a=some (.dT [])/\∃k:Key,y=kV k/\r=none))
theorem Ut.view (I:Inv X pins σ H s)(g:Ut H a y o):∃H',Inv X pins σ H' s/\HX H' a y o/\∀s',Inv X pins σ H' s'->Inv X pins σ H s':=by
 rcases g with g|⟨e,k,b,ey,eb,er⟩|⟨e,k,ey,er⟩
 ·exact⟨H,I,g,λ_ h=>h⟩
 ·subst ey er
  have hb:b≠a:=Jz eb e (λz=>nomatch z)
  exact⟨_,I.asT e,.inr ⟨[],k,b,.inl Zb,rfl,by rw [Zl hb];exact eb,rfl⟩,λs' h=>h.back (.inl e) (.inr rfl)⟩
 ·subst ey er
  exact⟨_,I.asK e,.inl ⟨[],k,.inl Zb,rfl,rfl⟩,λs' h=>h.back (.inr e) (.inl rfl)⟩
theorem Ut.ofSome {x:V}(g:Ut H a y (some x)):HX H a y (some x):=by
 rcases g with g|⟨_,_,_,_,_,h⟩|⟨_,_,_,h⟩
 ·exact g
 ·cases h
 ·cases h
theorem MB {Q:Value->Shared->Prop}(hu:A.units+1<cLine)(I:Inv X pins σ H s)(g:Ut H a y o)(ry:ZO y u)(h:∀s',Inv X pins σ H s'->Q (.bool (!o.isSome)) s') :
  wpAny (model X.prog X.w) A (compareOp .NotIn u (.ref a)) Q E s:=by
 obtain⟨H',I',g',back⟩:=g.view I
 exact HG hu I' g' ry λs' I1=>h s' (back s' I1)
theorem HH {d:V}{Q:Value->Shared->Prop}(hu:A.units+1<cLine)(I:Inv X pins σ H s)(g:Ut H a y o)(ry:ZO y u)(rd:ZO d r)(h:∀w' s',Inv X pins σ H s'->ZO (o.getD d) w'->Q w' s') :
  wpAny (model X.prog X.w) A (call (.builtin "dict.get") [.ref a,u,r]) Q E s:=by
 obtain⟨H',I',g',back⟩:=g.view I
 exact Oy hu I' g' ry rd λw' s' I1=>h w' s' (back s' I1)
def HW (H:Hp)(a:Addr)(y v:V)(H':Hp):Prop:=Z0V H a y v H'\/
 ((H a=some (.dK [])/\∃(k:List Key) (b:Addr),y = .ref b/\H b=some (.tup (k.map kV))/\H'=upd H a (.dT [(k,v)]))\/(H a=some (.dT [])/\∃k:Key,y=kV k/\H'=upd H a (.dK [(k,v)])))
theorem Kf {H':Hp}{Q:Unit->Shared->Prop}(hu:A.units+1<cLine)(I:Inv X pins σ H s)(g:HW H a y v H')(ry:ZO y u)(rv:ZO v r)(h:∀s',Inv X pins σ H' s'->Q () s') :
  wpAny (model X.prog X.w) A (setItem (.ref a) u r) Q E s:=by
 have hz:0<Wd:=by decide
 rcases g with g|⟨e,k,b,ey,eb,er⟩|⟨e,k,ey,er⟩
 ·exact T5 hu I g ry rv h
 ·subst ey er
  have hb:b≠a:=Jz eb e (λz=>nomatch z)
  refine T5 hu (I.asT e) (.inr ⟨[],k,b,Zb,rfl,by rw [Zl hb];exact eb,hz,rfl⟩) ry rv ?_
  rw [Qp];exact h
 ·subst ey er
  refine T5 hu (I.asK e) (.inl ⟨[],k,Zb,rfl,hz,rfl⟩) ry rv ?_
  rw [Qp];exact h
end
end L2
namespace L2
open PySem PySem.Spec PyProof.Rows
section
variable {X:Cx} {pins:List (Addr×Obj)} {σ:St} {H:Hp} {s:Shared}
theorem Inv.turnedL {h':Heap}{t':Nat}{ch:List Addr}(I:Inv X pins σ H s)(hf:∀b∈ch,Kr X pins H b)(k:∀b o,b∉ch->s.heap.get? b=some o->h'.get? b=some o):Inv X pins σ H { s with heap:=h',toks:=t' }:=by
 have nit:∀b u,H b=some u->b∉ch:=λb u e z=>by rw [(hf b z).1] at e;cases e
 have nL:X.env.locals∉ch:=λz=>(hf _ z).2.1 rfl
 refine I.step (g':=s.gens) (d':=s.drawn) (ch:=ch) (λb hb=>?_) (λb o _ _ hc e _=>k b o hc e) (λb o _ _ hc e _=>⟨o.slots,k b o hc e⟩) (λ_ _ _ _ n=>n)
  (λb o hc e=>⟨o,k b o hc e⟩) (λ_ _ e=>e) (λ_ _ _ e=>e) (λb ps e=>⟨#[],by rw [e];simp⟩) (λm hm=>?_) (λb u e=>?_) I.bare
 ·obtain⟨_,f1,_,f3,f4,f5⟩:=hf b hb
  exact⟨f3,f1,f4,f5⟩
 ·obtain⟨o,es,ep,ho,r⟩:=hm
  exact⟨o,es,ep,k _ o nL ho,r⟩
 ·refine (I.hok b u e).stay (λc v hc q=>k c v ?_ q) (λ_ q=>q) λ_ _ q=>q
  rcases hc with z|z
  ·rw [z];exact nit b u e
  ·exact nit c _ z
end
section
variable {prog:Program} {w:World} {A:Around} {E:Value->Shared->Prop} {s:Shared}
theorem Ke (hh:A.handled=none)(it l:Addr)(hne:l≠it)(items:Array Value) :
  Draws prog w A it [it,l] items.size (λi v=>items[i]? = some v) (λi h=>h.IsTupleIter it l i/\h.IsTuple l items) where
 live:=λ_ _ ⟨⟨o,ho,_⟩,_⟩=>⟨o,ho⟩
 frame:=λ_ _ _ ⟨⟨o,ho,r⟩,⟨ol,hol,r'⟩⟩ hk=>⟨⟨o,hk it Wv o ho,r⟩,⟨ol,hk l (Wu _ Wv) ol hol,r'⟩⟩
 item:=λi s Q E hi st hQ=>by
  obtain⟨it1,ht⟩:=st
  obtain⟨o,ho,hc,hd⟩:=id it1
  obtain⟨ol,hol,hcl,nl,hdl⟩:=id ht
  have hx:items[i]? = some items[i]:=Array.getElem?_eq_getElem hi
  unfold Vk;refine W3 (Vg (name:=W0 "__next__") it1.typeIs VJ (Vv VJ it1.typeIs W11 ?_ (W0U _)))
  refine W3 (m:=field (.ref it) 0) (VH ho hd (x:=.ref l) rfl ?_)
  dsimp only;rw [if_neg (show ¬(Value.ref l == Value.none)=true from Wq)];refine W3 (m:=field (.ref it) 1) (VH ho hd (x:=.int i 0) rfl (W3 (m:=seqItems? (.ref l)) (VC hol hdl ?_)))
  simp only [VS,hx]
  refine W3 (W1k ho hd (by simp) (Wn ⟨_,rfl,Wn ?_⟩))
  have sb:=VI s.heap it (Obj.mapFields (·.setIfInBounds 1 (rawInt ((i:Int)+1))))
  refine hQ _ _ s.toks hx ⟨⟨_,W0L _ ho (Obj.isFreed_of_fields (W0w hd _)),(Obj.cls_mapFields ..).trans hc,by rw [W0w hd];simp [rawInt]⟩,?_⟩ sb
  exact ht.extBut sb.extBut hne
 done:=λs Q E st hE=>by
  obtain⟨it1,ht⟩:=st
  obtain⟨o,ho,hc,hd⟩:=id it1
  obtain⟨ol,hol,hcl,nl,hdl⟩:=id ht
  have hx:items[items.size]? = none:=by simp
  unfold Vk;refine W3 (Vg (name:=W0 "__next__") it1.typeIs VJ (Vv VJ it1.typeIs W11 ?_ (W0U _)))
  refine W3 (m:=field (.ref it) 0) (VH ho hd (x:=.ref l) rfl ?_)
  dsimp only;rw [if_neg (show ¬(Value.ref l == Value.none)=true from Wq)];refine W3 (m:=field (.ref it) 1) (VH ho hd (x:=.int items.size 0) rfl (W3 (m:=seqItems? (.ref l)) (VC hol hdl ?_)))
  simp only [VS,hx]
  refine W3 (wpAny_rule (W3 (W1k ho hd (by simp) (W3 (m:=newExc (.type "StopIteration") []) ?_))))
  unfold newExc newTuple;refine W3 (VR (W3 (m:=firstArgMember _ _) (wpAny_of_eq (a:=Value.none) (by first|rfl|(simp only [firstArgMember];rfl)) (VR ?_ (by size_fits)))) (by size_fits))
  unfold raiseNew;refine W3 (wpAny_handled ?_)
  first|rw [show A.in1.handled=none from hh]|rw [hh]
  exact W3 (Wn (wpAny_throw (hE _ _ (((VI ..).extBut.push _).push _) ⟨_,WA _ rfl,rfl⟩)))
structure ZAp (z TI TO i1 i2:Addr) (fp1 fp2:List Addr):Prop where
 a1:TI≠z
 a2:TO≠z
 a3:i1≠z
 a4:i2≠z
 a5:TI≠TO
 a6:TI≠i1
 a7:TI≠i2
 a8:TO≠i1
 a9:TO≠i2
 b1:i1≠i2
 b2:z∉fp1
 b3:z∉fp2
 b4:TO∉fp1
 b5:TO∉fp2
 b6:i1∉fp2
 b7:i2∉fp1
theorem Gh {b:Addr}{fp:List Addr}(h:b∉fp):∀c∈fp,c≠b:=λc hc z=>h (z ▸ hc)
theorem U7 {it:Addr}{fp:List Addr}{n i:Nat}{P:Nat->Value->Prop}{St:Nat->Heap->Prop}{b:Addr}{h h':Heap}(D:Draws prog w A it fp n P St)(st:St i h)(sb:W02 b h h')(hb:b∉fp):St i h':=
 D.frame i h h' st λc hc o e=>sb.extBut c o (Gh hb c hc) e
section
variable {z TI TO i1 i2:Addr} {fp1 fp2:List Addr} {n1 n2 k:Nat} {P1 P2:Nat->Value->Prop} {St1 St2:Nat->Heap->Prop} {a b:Value}
theorem Kv {Q:Value->Shared->Prop}(D1:Draws prog w A i1 fp1 n1 P1 St1)(D2:Draws prog w A i2 fp2 n2 P2 St2)(Z:ZAp z TI TO i1 i2 fp1 fp2)(hz:IsZip s.heap z TI TO .none)(hTI:IsPair s.heap TI (.ref i1) (.ref i2))(hTO:IsPair s.heap TO a b)
  (st1:St1 k s.heap) (st2:St2 k s.heap) (k1:k<n1) (k2:k<n2)
  (hQ:∀x y h' tk,P1 k x->P2 k y->IsZip h' z TI TO (rawInt s.heap.objs.size)->IsPair h' TO x y->St1 (k+1) h'->St2 (k+1) h'->IsPair h' s.heap.objs.size x y->h'.objs.size=s.heap.objs.size+1->
   (∀c o,c∉[z,TO,i1,i2]->s.heap.get? c=some o->h'.get? c=some o)->Q (.ref s.heap.objs.size) { s with heap:=h',toks:=tk }) :
  wpAny (model prog w) A (Builtin.«zip.__next__» ⟨[.ref z],[]⟩) (λfin s'=>∃v,fin = .done (.ret v)/\Q v s') E s:=by
 refine W3 (m:=field (.ref z) 2) (VH hz rfl (x:=.bool false) rfl (W3 (m:=field (.ref z) 3) (VH hz rfl (x:=.ref TI) rfl (W3 (VC hTI rfl ?_)))))
 refine W3 (m:=Vl (.ref z)) ?_
 unfold Vl;refine W3 (VH hz rfl (x:=.none) rfl (Wn ?_))
 simp only [if_true]
 refine W3 (wpAny_rule (W3 (VH hz rfl (x:=.ref TO) rfl (W3 (VO hz (by simp) λg1 hz1 sb1=>W3 ?_)))))
 have hz1':IsZip g1 z TI TO .ellipsis:=hz1
 simp only [List.zipIdx_cons,List.zipIdx_nil,List.forIn_cons,List.forIn_nil]
 refine W3 (W3 (wpAny_onRaise (W3 (m:=Vk (.ref i1)) ?_)))
 refine D1.item k _ _ _ k1 (U7 D1 st1 sb1 Z.b2) λx g2 t2 hx st1' sb2=>Wn ?_
 have to2:IsPair g2 TO a b:=sb2.extBut _ _ Z.a8 (sb1.extBut _ _ Z.a2 hTO)
 refine W3 (VC to2 rfl (W3 (W0T to2 λg3 to3 sb3=>W3 (wpAny_letGo (Wn ?_)))))
 have to3':IsPair g3 TO x b:=to3
 refine W3 (W3 (wpAny_onRaise (W3 (m:=Vk (.ref i2)) ?_)))
 refine D2.item k _ _ _ k2 (U7 D2 (U7 D2 (U7 D2 st2 sb1 Z.b3) sb2 Z.b6) sb3 Z.b5) λy g4 t4 hy st2' sb4=>Wn ?_
 have to4:IsPair g4 TO x b:=sb4.extBut _ _ Z.a9 to3'
 refine W3 (VC to4 rfl (W3 (W0T to4 λg5 to5 sb5=>W3 (wpAny_letGo (Wn (Wn ?_))))))
 have to5':IsPair g5 TO x y:=to5
 refine W3 (VC to5' rfl (W3 (wpAny_newTuple ?_)))
 have size5:g5.objs.size=s.heap.objs.size:=by rw [sb5.1,sb4.1,sb3.1,sb2.1,sb1.1]
 have z5:IsZip g5 z TI TO .ellipsis:=sb5.extBut _ _ Z.a2.symm (sb4.extBut _ _ Z.a4.symm (sb3.extBut _ _ Z.a2.symm (sb2.extBut _ _ Z.a3.symm hz1')))
 have kept5:∀c o,c∉[z,TO,i1,i2]->s.heap.get? c=some o->g5.get? c=some o:=λc o hc e=>by
  simp only [Wr,WW,or_false,not_or] at hc
  exact sb5.extBut _ _ hc.2.1 (sb4.extBut _ _ hc.2.2.2 (sb3.extBut _ _ hc.2.1 (sb2.extBut _ _ hc.2.2.1 (sb1.extBut _ _ hc.1 e))))
 have s15:St1 (k+1) g5:=U7 D1 (U7 D1 (U7 D1 st1' sb3 Z.b4) sb4 Z.b7) sb5 Z.b4
 have s25:St2 (k+1) g5:=U7 D2 st2' sb5 Z.b5
 have ltz:z<g5.objs.size:=Wz z5
 refine W3 (m:=W0c (.ref z) (.ref g5.objs.size)) ?_
 unfold W0c;have z6:IsZip (g5.push { cls:=.type "tuple",data:=.seq #[x,y] }) z TI TO .ellipsis:=Wk _ z5
 refine W3 (VO z6 (by simp) λg7 z7 sb7=>?_)
 have z7':IsZip g7 z TI TO (rawInt g5.objs.size):=z7
 refine VO z7' (by simp) λg8 z8 sb8=>?_
 have z8':IsZip g8 z TI TO (rawInt g5.objs.size):=z8
 have up8:∀c o,c≠z->g5.get? c=some o->g8.get? c=some o:=λc o hc e=>sb8.extBut _ _ hc (sb7.extBut _ _ hc (Wk _ e))
 have new8:IsPair g8 g5.objs.size x y:=sb8.extBut _ _ (Nat.ne_of_gt ltz) (sb7.extBut _ _ (Nat.ne_of_gt ltz) (WA _ rfl))
 have size8:g8.objs.size=g5.objs.size+1:=by rw [sb8.1,sb7.1,VB]
 rw [size5] at z8' new8 size8
 refine Wn ⟨_,rfl,?_⟩
 show Q (.ref g5.objs.size) _
 rw [size5];exact hQ x y g8 _ hx hy z8' (up8 _ _ Z.a2 to5') (D1.frame _ _ _ s15 λc hc o e=>up8 c o (Gh Z.b2 c hc) e) (D2.frame _ _ _ s25 λc hc o e=>up8 c o (Gh Z.b3 c hc) e) new8 size8
  λc o hc e=>up8 c o (λq=>hc (by simp [q])) (kept5 c o hc e)
theorem Ll {Q:PySem.Fin->Shared->Prop}(D1:Draws prog w A i1 fp1 n1 P1 St1)(D2:Draws prog w A i2 fp2 n2 P2 St2)(Z:ZAp z TI TO i1 i2 fp1 fp2)(hz:IsZip s.heap z TI TO .none)(hTI:IsPair s.heap TI (.ref i1) (.ref i2))(hTO:IsPair s.heap TO a b)
  (st1:St1 k s.heap) (st2:St2 k s.heap) (hk:k=n1\/(k<n1/\k=n2))
  (hE:∀h' e tk,(∀c o,c∉[z,TO,i1,i2]->s.heap.get? c=some o->h'.get? c=some o)->(∃o,h'.get? e=some o/\o.cls = .type "StopIteration")->E (.ref e) { s with heap:=h',toks:=tk }) :
  wpAny (model prog w) A (Builtin.«zip.__next__» ⟨[.ref z],[]⟩) Q E s:=by
 refine W3 (m:=field (.ref z) 2) (VH hz rfl (x:=.bool false) rfl (W3 (m:=field (.ref z) 3) (VH hz rfl (x:=.ref TI) rfl (W3 (VC hTI rfl ?_)))))
 refine W3 (m:=Vl (.ref z)) ?_
 unfold Vl;refine W3 (VH hz rfl (x:=.none) rfl (Wn ?_))
 simp only [if_true]
 refine W3 (wpAny_rule (W3 (VH hz rfl (x:=.ref TO) rfl (W3 (VO hz (by simp) λg1 hz1 sb1=>W3 ?_)))))
 have hz1':IsZip g1 z TI TO .ellipsis:=hz1
 simp only [List.zipIdx_cons,List.zipIdx_nil,List.forIn_cons,List.forIn_nil]
 refine W3 (W3 (wpAny_onRaise (W3 (m:=Vk (.ref i1)) ?_)))
 have fin:∀{g:Heap} {e:Addr} {tk:Nat},IsZip g z TI TO .ellipsis->(∀c o,c∉[z,TO,i1,i2]->s.heap.get? c=some o->g.get? c=some o)->(∃o,g.get? e=some o/\o.cls = .type "StopIteration")->
   ∀(h':Heap),W02 z g h'->E (.ref e) { s with heap:=h',toks:=tk }:=by
  intro g e tk gz gk ⟨oe,he,ce⟩ h' sb
  have ez:e≠z:=λq=>by subst q;rw [gz] at he;cases he;simp at ce
  exact hE h' e tk (λc o hc q=>sb.extBut _ _ (λr=>hc (by simp [r])) (gk c o hc q)) ⟨oe,sb.extBut _ _ ez he,ce⟩
 rcases hk with rfl|⟨k1,rfl⟩
 ·refine D1.done _ _ _ (U7 D1 st1 sb1 Z.b2) λg2 e sb2 he=>?_
  have z2:IsZip g2 z TI TO .ellipsis:=sb2 _ _ Z.a3.symm hz1'
  refine VO z2 (by simp) λg3 _ sb3=>fin z2 (λc o hc q=>?_) he g3 sb3
  simp only [Wr,WW,or_false,not_or] at hc
  exact sb2 _ _ hc.2.2.1 (sb1.extBut _ _ hc.1 q)
 ·refine D1.item k _ _ _ k1 (U7 D1 st1 sb1 Z.b2) λx g2 t2 hx st1' sb2=>Wn ?_
  have to2:IsPair g2 TO a b:=sb2.extBut _ _ Z.a8 (sb1.extBut _ _ Z.a2 hTO)
  refine W3 (VC to2 rfl (W3 (W0T to2 λg3 to3 sb3=>W3 (wpAny_letGo (Wn ?_)))))
  refine W3 (W3 (wpAny_onRaise (W3 (m:=Vk (.ref i2)) ?_)))
  refine D2.done _ _ _ (U7 D2 (U7 D2 (U7 D2 st2 sb1 Z.b3) sb2 Z.b6) sb3 Z.b5) λg4 e sb4 he=>?_
  have z4:IsZip g4 z TI TO .ellipsis:=sb4 _ _ Z.a4.symm (sb3.extBut _ _ Z.a2.symm (sb2.extBut _ _ Z.a3.symm hz1'))
  refine VO z4 (by simp) λg5 _ sb5=>fin z4 (λc o hc q=>?_) he g5 sb5
  simp only [Wr,WW,or_false,not_or] at hc
  exact sb4 _ _ hc.2.2.2 (sb3.extBut _ _ hc.2.1 (sb2.extBut _ _ hc.2.2.1 (sb1.extBut _ _ hc.1 q)))
theorem MW {Q:Option Value->Shared->Prop}(D1:Draws prog w A.in1 i1 fp1 n1 P1 St1)(D2:Draws prog w A.in1 i2 fp2 n2 P2 St2)(Z:ZAp z TI TO i1 i2 fp1 fp2)(hz:IsZip s.heap z TI TO .none)(hTI:IsPair s.heap TI (.ref i1) (.ref i2))(hTO:IsPair s.heap TO a b)
  (st1:St1 k s.heap) (st2:St2 k s.heap) (k1:k<n1) (k2:k<n2)
  (hQ:∀x y h' tk,P1 k x->P2 k y->IsZip h' z TI TO (rawInt s.heap.objs.size)->IsPair h' TO x y->St1 (k+1) h'->St2 (k+1) h'->IsPair h' s.heap.objs.size x y->h'.objs.size=s.heap.objs.size+1->
   (∀c o,c∉[z,TO,i1,i2]->s.heap.get? c=some o->h'.get? c=some o)->Q (some (.ref s.heap.objs.size)) { s with heap:=h',toks:=tk }) :
  wpAny (model prog w) A (pyNext (.ref z)) Q E s:=by
 have hT:s.TypeIs (.ref z) "zip":=⟨_,hz,rfl⟩
 unfold pyNext;refine W3 (W0x (Vg (name:=W0 "__next__") hT W12 (Vv W12 hT F.entry_zip_next ?_ (F.args_zip_next_1 _))))
 exact Kv D1 D2 Z hz hTI hTO st1 st2 k1 k2 λx y h' tk c1 c2 c3 c4 c5 c6 c7 c8 c9=>Wn (hQ x y h' tk c1 c2 c3 c4 c5 c6 c7 c8 c9)
theorem Rv {Q:Option Value->Shared->Prop}(D1:Draws prog w A.in1 i1 fp1 n1 P1 St1)(D2:Draws prog w A.in1 i2 fp2 n2 P2 St2)(Z:ZAp z TI TO i1 i2 fp1 fp2)(hz:IsZip s.heap z TI TO .none)(hTI:IsPair s.heap TI (.ref i1) (.ref i2))(hTO:IsPair s.heap TO a b)
  (st1:St1 k s.heap) (st2:St2 k s.heap) (hk:k=n1\/(k<n1/\k=n2)) (hQ:∀h' tk,(∀c o,c∉[z,TO,i1,i2]->s.heap.get? c=some o->h'.get? c=some o)->Q none { s with heap:=h',toks:=tk }) :
  wpAny (model prog w) A (pyNext (.ref z)) Q E s:=by
 have hT:s.TypeIs (.ref z) "zip":=⟨_,hz,rfl⟩
 unfold pyNext;refine W3 (W0x (Vg (name:=W0 "__next__") hT W12 (Vv W12 hT F.entry_zip_next ?_ (F.args_zip_next_1 _))))
 refine Ll D1 D2 Z hz hTI hTO st1 st2 hk λh' e tk kp ⟨o,ho,hc⟩=>?_
 exact W3 (wpAny_isInstance (T:="StopIteration") (b:=true) ⟨o,ho,hc⟩ isSubtype_stop (Wn (hQ h' tk kp)))
end
def UJ:Bool->String
 |true=>"list_iterator"
 |false=>"tuple_iterator"
def Lb (sk:Bool)(h:Heap)(it l:Addr)(k:Nat):Prop:=match sk with|true=>h.IsListIter it l k|false=>h.IsTupleIter it l k
def Km (sk:Bool)(h:Heap)(l:Addr)(items:Array Value):Prop:=match sk with|true=>h.IsList l items|false=>h.IsTuple l items
theorem UB (sk:Bool)(hh:A.handled=none)(it l:Addr)(hne:l≠it)(items:Array Value):Draws prog w A it [it,l] items.size (λi v=>items[i]? = some v) (λi h=>Lb sk h it l i/\Km sk h l items):=by
 cases sk
 ·exact Ke hh it l hne items
 ·exact PySem.Draws.list hh it l hne items
theorem Mn (sk:Bool){l:Addr}{items:Array Value}{Q:Value->Shared->Prop}(hl:Km sk s.heap l items)(hQ:Q (.ref s.heap.objs.size) { s with heap:=s.heap.push { cls:=.type (UJ sk),data:=.fields #[.ref l,.int 0 0] } }) :
  wpAny (model prog w) A (pyIter (.ref l)) Q E s:=by
 cases sk
 ·exact W0y hl hQ
 ·exact W1u hl hQ
theorem Km.push {sk:Bool}{h:Heap}{l:Addr}{items:Array Value}(x:Km sk h l items)(o:Obj):Km sk (h.push o) l items:=by
 cases sk
 ·obtain⟨q,e,r⟩:=x
  exact⟨q,Wk _ e,r⟩
 ·exact Heap.IsList.push x _
theorem Lb.new {sk:Bool}{h:Heap}{it l:Addr}(e:h.get? it=some { cls:=.type (UJ sk),data:=.fields #[.ref l,.int 0 0] }):Lb sk h it l 0:=by
 cases sk
 ·exact⟨_,e,rfl,rfl⟩
 ·exact⟨_,e,rfl,rfl⟩
def zh (h:Heap)(c1 c2:Bool)(l1 l2:Addr):Heap:=
 ((((h.push { cls:=.type (UJ c1),data:=.fields #[.ref l1,.int 0 0] }).push { cls:=.type (UJ c2),data:=.fields #[.ref l2,.int 0 0] }).push { cls:=.type "tuple",data:=.seq #[.ref h.objs.size,.ref (h.objs.size+1)] }).push
  { cls:=.type "tuple",data:=.seq #[.none,.none] }).push { cls:=.type "zip",data:=.fields #[.none,.bool false,.bool false,.ref (h.objs.size+2),.ref (h.objs.size+3)] }
theorem Se (c1 c2:Bool)(l1 l2:Addr)(xs ys:Array Value) :
  Meets (Builtin.«zip.__new__» ⟨[.type "zip",.ref l1,.ref l2],[]⟩) (λ_ R s=>Km c1 s.heap l1 xs/\Km c2 s.heap l2 ys/\R (.ok (.ret (.ref (s.heap.objs.size+4)))) { s with heap:=zh s.heap c1 c2 l1 l2 }):=
 .of_wp λprog w A R s h=>by
  obtain⟨hp,g,d,tk,os⟩:=s
  obtain⟨q1,q2,h⟩:=h
  have hsub:=PySem.sub_zip
  have q1':Km c1 (Shared.heap ⟨hp,g,d,tk,os⟩) l1 xs:=q1
  have q2':Km c2 (Shared.heap ⟨hp.push { cls:=.type (UJ c1),data:=.fields #[.ref l1,.int 0 0] },g,d,tk,os⟩) l2 ys:=Km.push q2 _
  wp_walk using Mn c1 q1',Mn c2 q2'
  refine⟨_,rfl,?_⟩
  simp only [VB] at h ⊢
  unfold zh at h;exact h
end
end L2
namespace L2
open PySem PySem.Spec PyProof.Rows
theorem UN {h:Heap}{o:Obj}{n:Nat}(e:h.objs.size=n)(f:o.isFreed=false):(h.push o).get? n=some o:=by rw [<-e];exact WA _ f
theorem Sf (h:Heap)(c1 c2:Bool)(l1 l2:Addr):IsZip (zh h c1 c2 l1 l2) (h.objs.size+4) (h.objs.size+2) (h.objs.size+3) .none/\IsPair (zh h c1 c2 l1 l2) (h.objs.size+2) (.ref h.objs.size) (.ref (h.objs.size+1))/\
  IsPair (zh h c1 c2 l1 l2) (h.objs.size+3) .none .none/\(zh h c1 c2 l1 l2).get? h.objs.size=some { cls:=.type (UJ c1),data:=.fields #[.ref l1,.int 0 0] }/\(zh h c1 c2 l1 l2).get? (h.objs.size+1)=some { cls:=.type (UJ c2),data:=.fields #[.ref l2,.int 0 0] }/\
  ∀b o,h.get? b=some o->(zh h c1 c2 l1 l2).get? b=some o:=by
 unfold zh;have up:∀{h:Heap} {o p:Obj} {b:Addr},h.get? b=some o->(h.push p).get? b=some o:=λe=>Wk _ e
 exact⟨UN (by simp [VB]) rfl,up (up (UN (by simp [VB]) rfl)),up (UN (by simp [VB]) rfl),up (up (up (up (UN rfl rfl)))),up (up (up (UN (by simp [VB]) rfl))),λb o e=>up (up (up (up (up e))))⟩
section
variable {prog:Program} {w:World} {A:Around} {E:Value->Shared->Prop} {s:Shared}
theorem PV {c1 c2:Bool}{l1 l2:Addr}{xs ys:Array Value}{Q:Value->Shared->Prop}(h1:Km c1 s.heap l1 xs)(h2:Km c2 s.heap l2 ys)
  (h:Q (.ref (s.heap.objs.size+4)) { s with heap:=zh s.heap c1 c2 l1 l2 }):wpAny (model prog w) A (call (.type "zip") [.ref l1,.ref l2]) Q E s:=by
 refine callType_new F.called_zip (by decide) (F.typeCall_zip_2 _ _) (F.newCall_zip_2 _ _) (λobj=>F.args_object_init_3 obj _ _) F.entry_zip_new (Se c1 c2 l1 l2 xs ys) ⟨h1,h2,?_⟩
 exact⟨⟨_,(Sf s.heap c1 c2 l1 l2).1,rfl⟩,h⟩
end
def TrS (c:Bool)(H:Hp)(l:Addr)(xs:List V):Prop:=match c with|true=>H l=some (.lst xs)|false=>H l=some (.tup xs)
theorem TrS.one {c:Bool}{H:Hp}{l:Addr}{xs ys:List V}(h:TrS c H l xs)(h':TrS c H l ys):xs=ys:=by
 cases c
 ·have h1:H l=some (.tup xs):=h
  have h2:H l=some (.tup ys):=h'
  rw [h1] at h2;cases h2;rfl
 ·have h1:H l=some (.lst xs):=h
  have h2:H l=some (.lst ys):=h'
  rw [h1] at h2;cases h2;rfl
theorem TrS.ne {c:Bool}{H:Hp}{l b:Addr}{xs:List V}(h:TrS c H l xs)(hb:H b=none):l≠b:=by
 cases c
 ·exact ZF (show H l=some (.tup xs) from h) hb
 ·exact ZF (show H l=some (.lst xs) from h) hb
theorem TrS.so {X:Cx}{pins:List (Addr×Obj)}{σ:St}{H:Hp}{s:Shared}{c:Bool}{l:Addr}{xs:List V}(I:Inv X pins σ H s)(h:TrS c H l xs):∃its:List Value,Y4 xs its/\Km c s.heap l its.toArray/\xs.length<=Wd:=by
 cases c
 ·exact I.tuple (.of h)
 ·obtain⟨its,r,pl,z⟩:=I.list (.of h)
  exact⟨its,r,pl.isList,z⟩
def Itz (c1:Bool)(l1:Addr)(c2:Bool)(l2:Addr):It:=
 ⟨λi H=>∃xs ys x y,TrS c1 H l1 xs/\TrS c2 H l2 ys/\xs[i]? = some x/\ys[i]? = some y,
 λi H v H'=>∃p x y,v = .ref p/\H p=none/\H'=upd H p (.tup [x,y])/\(∀xs,TrS c1 H l1 xs->xs[i]? = some x)/\(∀ys,TrS c2 H l2 ys->ys[i]? = some y),
 λi H=>∃xs ys,TrS c1 H l1 xs/\TrS c2 H l2 ys/\(i=xs.length\/(i<xs.length/\i=ys.length))⟩
structure ZD (z TI TO i1 i2:Addr):Prop where
 a1:TI≠z
 a2:TO≠z
 a3:i1≠z
 a4:i2≠z
 a5:TI≠TO
 a6:TI≠i1
 a7:TI≠i2
 a8:TO≠i1
 a9:TO≠i2
 b1:i1≠i2
theorem ZD.ap {z TI TO i1 i2 l1 l2:Addr}(d:ZD z TI TO i1 i2)(h1:∀b∈[z,TI,TO,i1,i2],l1≠b)(h2:∀b∈[z,TI,TO,i1,i2],l2≠b):ZAp z TI TO i1 i2 [i1,l1] [i2,l2]:=by
 simp only [Wr,WW,or_false,forall_eq_or_imp,forall_eq] at h1 h2
 obtain⟨p1,p2,p3,p4,p5⟩:=h1
 obtain⟨q1,q2,q3,q4,q5⟩:=h2
 have no:∀{a b c:Addr},a≠b->a≠c->a∉[b,c]:=λx y z=>by
  simp only [Wr,WW,or_false] at z
  rcases z with z|z
  ·exact x z
  ·exact y z
 exact⟨d.a1,d.a2,d.a3,d.a4,d.a5,d.a6,d.a7,d.a8,d.a9,d.b1,no d.a3.symm p1.symm,no d.a4.symm q1.symm,no d.a8 p3.symm,no d.a9 q3.symm,no d.b1 q4.symm,no d.b1.symm p5.symm⟩
theorem IA {P:Program}{w:World}{H:Hp}{h:Heap}{p:Addr}{x y:V}{u v:Value}(e:IsPair h p u v)(rx:ZO x u)(ry:ZO y v):ZK P w H h p (.tup [x,y]):=
 ⟨by show 2<=Wd;decide,[u,v],.cons rx (.cons ry .nil),⟨⟨_,e,rfl,_,rfl⟩,_,e,rfl⟩⟩
theorem Lq {P:Program}{w:World}{K:W4}{elts:List Expr}{kt:Nat}{pt:Pos}{c1 c2:Bool}{l1 l2 z TI TO i1 i2:Addr}(d:ZD z TI TO i1 i2) :
  Turn P w K (.Tuple elts kt pt) (Itz c1 l1 c2 l2) [z,TI,TO,i1,i2] z (λi h=>IsZip h z TI TO .none/\IsPair h TI (.ref i1) (.ref i2)/\(∃a b,IsPair h TO a b)/\Lb c1 h i1 l1 i/\Lb c2 h i2 l2 i) where
 mem:=by simp
 obj:=λi h st b hb=>by
  obtain⟨hz,hTI,⟨a,b',hTO⟩,s1,s2⟩:=st
  have seq:∀{c:Bool} {it l:Addr} {k:Nat},Lb c h it l k->∃o,h.get? it=some o/\∀v,o.data≠.cell v:=λ{c it l k} q=>by
   cases c
   ·obtain⟨o,e,_,q⟩:=q
    exact⟨o,e,λv z=>by rw [q] at z;cases z⟩
   ·obtain⟨o,e,_,q⟩:=q
    exact⟨o,e,λv z=>by rw [q] at z;cases z⟩
  simp only [Wr,WW,or_false] at hb
  rcases hb with rfl|rfl|rfl|rfl|rfl
  ·exact⟨_,hz,λv q=>nomatch q⟩
  ·exact⟨_,hTI,λv q=>nomatch q⟩
  ·exact⟨_,hTO,λv q=>nomatch q⟩
  ·exact seq s1
  ·exact seq s2
 keep:=λi h h' st k=>by
  obtain⟨hz,hTI,⟨a,b',hTO⟩,s1,s2⟩:=st
  have seq:∀{c:Bool} {it l:Addr} {k:Nat},(∀o,h.get? it=some o->h'.get? it=some o)->Lb c h it l k->Lb c h' it l k:=λ{c it l k} kp q=>by
   cases c
   ·obtain⟨o,e,q⟩:=q
    exact⟨o,kp o e,q⟩
   ·obtain⟨o,e,q⟩:=q
    exact⟨o,kp o e,q⟩
  exact⟨k z (by simp) _ hz,k TI (by simp) _ hTI,⟨a,b',k TO (by simp) _ hTO⟩,seq (k i1 (by simp)) s1,seq (k i2 (by simp)) s2⟩
 item:=by
  intro X hP hw hK hc i pins s σ H E I hf st hg;subst hP hw hK;obtain⟨xs,ys,x,y,t1,t2,hx,hy⟩:=hg
  obtain⟨hz,hTI,⟨a,b',hTO⟩,s1,s2⟩:=st
  obtain⟨its1,r1,o1,_⟩:=t1.so I
  obtain⟨its2,r2,o2,_⟩:=t2.so I
  have n1:∀b∈[z,TI,TO,i1,i2],l1≠b:=λb hb=>t1.ne (hf b hb).1
  have n2:∀b∈[z,TI,TO,i1,i2],l2≠b:=λb hb=>t2.ne (hf b hb).1
  have hh:X.A.in1.handled=none:=I.ok.hd hc
  have D1:=UB (prog:=X.prog) (w:=X.w) c1 hh i1 l1 (n1 i1 (by simp)) its1.toArray
  have D2:=UB (prog:=X.prog) (w:=X.w) c2 hh i2 l2 (n2 i2 (by simp)) its2.toArray
  have lx:i<its1.toArray.size:=by rw [Wp,<-r1.length];exact (Wj.mp hx).1
  have ly:i<its2.toArray.size:=by rw [Wp,<-r2.length];exact (Wj.mp hy).1
  refine MW D1 D2 (d.ap n1 n2) hz hTI hTO ⟨s1,o1⟩ ⟨s2,o2⟩ lx ly λu v h' tk p1 p2 z' to' st1 st2 new size kept=>?_
  obtain⟨u',eu,ru⟩:=r1.get hx
  obtain⟨v',ev,rv⟩:=r2.get hy
  have hu:u=u':=by
   have:its1.toArray[i]? = some u:=p1
   rw [List.getElem?_toArray,eu] at this;exact (WO this).symm
  have hv:v=v':=by
   have:its2.toArray[i]? = some v:=p2
   rw [List.getElem?_toArray,ev] at this;exact (WO this).symm
  subst hu hv;refine⟨_,rfl,wpAny_letOwnedTupleGo_zip (s:={ s with heap:=h',toks:=tk }) z' λh'' z'' sb=>?_⟩
  have kp:∀b o,b∉[z,TI,TO,i1,i2]->s.heap.get? b=some o->h''.get? b=some o:=λb o hb e=>by
   simp only [Wr,WW,or_false,not_or] at hb
   exact sb.extBut b o hb.1 (kept b o (by simp only [Wr,WW,or_false,not_or];exact⟨hb.1,hb.2.2.1,hb.2.2.2.1,hb.2.2.2.2⟩) e)
  have hn:H s.heap.objs.size=none:=I.hok.fresh (Wt _)
  have zlt:z<s.heap.objs.size:=Wz hz
  have lt:∀b∈[z,TI,TO,i1,i2],b<s.heap.objs.size:=λb hb=>by
   have seq:∀{c:Bool} {it l:Addr} {k:Nat},Lb c s.heap it l k->it<s.heap.objs.size:=λ{c it l k} q=>by
    cases c
    ·obtain⟨o,e,_⟩:=q;exact Wz e
    ·obtain⟨o,e,_⟩:=q;exact Wz e
   simp only [Wr,WW,or_false] at hb
   rcases hb with rfl|rfl|rfl|rfl|rfl
   ·exact zlt
   ·exact Wz hTI
   ·exact Wz hTO
   ·exact seq s1
   ·exact seq s2
  have new':IsPair h'' s.heap.objs.size u v:=sb.extBut _ _ (Nat.ne_of_gt zlt) new
  have keepTI:IsPair h'' TI (.ref i1) (.ref i2):=sb.extBut _ _ d.a1 (kept TI _ (by simp only [Wr,WW,or_false,not_or];exact⟨d.a1,d.a5,d.a6,d.a7⟩) hTI)
  have seq:∀{c:Bool} {it l:Addr} {k:Nat},it≠z->Lb c h' it l k->Lb c h'' it l k:=λ{c it l k} ne q=>by
   cases c
   ·obtain⟨o,e,q⟩:=q
    exact⟨o,sb.extBut _ _ ne e,q⟩
   ·obtain⟨o,e,q⟩:=q
    exact⟨o,sb.extBut _ _ ne e,q⟩
  refine⟨.ref s.heap.objs.size,upd H s.heap.objs.size (.tup [x,y]),?_,rfl,⟨_,x,y,rfl,hn,rfl,λws h=>?_,λws h=>?_⟩,⟨z'',keepTI,⟨_,_,sb.extBut _ _ d.a2 to'⟩,seq d.a3 st1.1,seq d.a4 st2.1⟩,λb hb=>?_⟩
  ·have I1:Inv X pins σ (upd H s.heap.objs.size (.tup [x,y])) { s with heap:=s.heap.push { cls:=.type "tuple",data:=.seq #[u,v] } }:=
    I.laid (t':=s.toks) (λb o e=>Wk _ e) (Wt _) (IA (WA _ rfl) ru rv)
   have fin:(∀b∈[z,TI,TO,i1,i2],Kr X pins (upd H s.heap.objs.size (.tup [x,y])) b)->(∀b o,b∉[z,TI,TO,i1,i2]->(s.heap.push { cls:=.type "tuple",data:=.seq #[u,v] }).get? b=some o->h''.get? b=some o)->
     Inv X pins σ (upd H s.heap.objs.size (.tup [x,y])) { s with heap:=h'',toks:=tk }:=λa1 a2=>Inv.turnedL (s:={ s with heap:=s.heap.push { cls:=.type "tuple",data:=.seq #[u,v] } }) (h':=h'') (t':=tk) (ch:=[z,TI,TO,i1,i2]) I1 a1 a2
   refine fin (λb hb=>?_) λb o hb e=>?_
   ·obtain⟨f0,f⟩:=hf b hb
    exact⟨by rw [Zl (WT (lt b hb))];exact f0,f⟩
   ·by_cases q:b=s.heap.objs.size
    ·subst q
     rw [WA _ rfl] at e;cases e;exact new'
    ·rw [Heap.get?_push_ne _ _ _ q] at e
     exact kp b o hb e
  ·rw [h.one t1];exact hx
  ·rw [h.one t2];exact hy
  ·rw [Zl (WT (lt b hb))];exact (hf b hb).1
 done:=by
  intro X hP hw hK hc i pins s σ H E I hf st hg;subst hP hw hK;obtain⟨xs,ys,t1,t2,hend⟩:=hg
  obtain⟨hz,hTI,⟨a,b',hTO⟩,s1,s2⟩:=st
  obtain⟨its1,r1,o1,_⟩:=t1.so I
  obtain⟨its2,r2,o2,_⟩:=t2.so I
  have n1:∀b∈[z,TI,TO,i1,i2],l1≠b:=λb hb=>t1.ne (hf b hb).1
  have n2:∀b∈[z,TI,TO,i1,i2],l2≠b:=λb hb=>t2.ne (hf b hb).1
  have hh:X.A.in1.handled=none:=I.ok.hd hc
  have D1:=UB (prog:=X.prog) (w:=X.w) c1 hh i1 l1 (n1 i1 (by simp)) its1.toArray
  have D2:=UB (prog:=X.prog) (w:=X.w) c2 hh i2 l2 (n2 i2 (by simp)) its2.toArray
  refine Rv D1 D2 (d.ap n1 n2) hz hTI hTO ⟨s1,o1⟩ ⟨s2,o2⟩ (by rw [Wp,Wp,<-r1.length,<-r2.length];exact hend) λh' tk kept=>⟨rfl,I.turnedL hf λb o hb e=>?_⟩
  simp only [Wr,WW,or_false,not_or] at hb
  exact kept b o (by simp only [Wr,WW,or_false,not_or];exact⟨hb.1,hb.2.2.1,hb.2.2.2.1,hb.2.2.2.2⟩) e
 self:=λ_ _ _ _ _ st h=>wpAny_pyIter_zip st.1 h
section
variable {X:Cx} {e1 e2:Expr} {te1 te2:TE} {p pos:Pos}
def Z1C (ta:TA):TI:=λσ H R=>ta σ H λvs H1=>∃c1 l1 xs c2 l2 ys,vs=[.ref l1,.ref l2]/\TrS c1 H1 l1 xs/\TrS c2 H1 l2 ys/\R (Itz c1 l1 c2 l2) H1
theorem Io {elts:List Expr}{kt:Nat}{pt:Pos}{ta:TA}(hg:Gl X "zip")(hm:X.mg "zip" = none)(hv:WI "zip" = some (.type "zip"))(ha:PA X [e1,e2] ta)
  (he:Wo [e1,e2] X.env=(false,eval e1 X.env) :: Wo [e2] X.env:=by rfl) (hpl:(backTo pos (Wo [e2] X.env)).any (·.1)=false:=by rfl) :
  PI X (.Tuple elts kt pt) (.Call (.Name "zip" p) [e1,e2] [] pos) (Z1C ta):=by
 intro pins s σ H R I h;refine Vq (JE I hg hm hv ?_ (by decide) (by decide))
 refine Vp (thn (ha pos pins s σ H _ I h) λus s1 ⟨vs,H1,I1,r1,c1,l1,xs,c2,l2,ys,ev,t1,t2,q⟩=>?_) he hpl
 subst ev;obtain⟨u1,u2,rfl,ru1,ru2⟩:=MH r1
 cases ru1;cases ru2;obtain⟨its1,_,o1,_⟩:=t1.so I1
 obtain⟨its2,_,o2,_⟩:=t2.so I1
 refine PV o1 o2 ?_
 obtain⟨z1,z2,z3,z4,z5,z6⟩:=Sf s1.heap c1 c2 l1 l2
 refine wpAny_pyIter_zip (s:={ s1 with heap:=zh s1.heap c1 c2 l1 l2 }) z1 ?_
 have ne:∀{a b:Nat},a≠b->s1.heap.objs.size+a≠s1.heap.objs.size+b:=λh q=>h (Nat.add_left_cancel q)
 refine⟨_,_,_,_,H1,rfl,I1.kept (t':=s1.toks) z6,Lq (c1:=c1) (l1:=l1) (c2:=c2) (l2:=l2) ⟨ne (by decide),ne (by decide),ne (a:=0) (by decide),ne (by decide),ne (by decide),ne (b:=0) (by decide),ne (by decide),ne (b:=0) (by decide),ne (by decide),ne (a:=0) (by decide)⟩,⟨z1,z2,⟨_,_,z3⟩,.new z4,.new z5⟩,λb hb=>?_,q⟩
 have hb':s1.heap.objs.size<=b:=by
  simp only [Wr,WW,or_false] at hb
  rcases hb with rfl|rfl|rfl|rfl|rfl<;>omega
 exact I1.fpOk hb' (I1.hok.fresh hb')
end
end L2
namespace L2
open PySem PySem.Spec PyProof.Rows
theorem Dp {k:Key}{u:Value}(h:Nv k u=true):ZO (kV k) u:=by
 rcases ZX h with ⟨i,t,rfl,rfl⟩|⟨x,t,rfl,rfl⟩
 ·exact⟨t,rfl⟩
 ·exact⟨t,rfl⟩
def Itk (a:Addr)(o:Obj):It:=
 ⟨λi H=>∃(kvs:List (Key×V)) (k:Key) (v:V),H a=some (.frz o (.dK kvs))/\kvs[i]? = some (k,v),
 λi H x H'=>H'=H/\∀kvs:List (Key×V),H a=some (.frz o (.dK kvs))->∃k v,kvs[i]? = some (k,v)/\x=kV k,
 λi H=>∃kvs:List (Key×V),H a=some (.frz o (.dK kvs))/\i=kvs.length⟩
theorem Ps {X:Cx}{pins:List (Addr×Obj)}{σ:St}{H:Hp}{s:Shared}{a:Addr}{o:Obj}{kvs:List (Key×V)}(I:Inv X pins σ H s)(e:H a=some (.frz o (.dK kvs))){es:Array DictEntry}{ep:Nat}(hd:o.data = .dict es ep) :
  ∃vs:List (Key×Value),KV kvs vs/\s.heap.DictAt (ZW X.prog X.w) a vs ep/\es.size=vs.length:=by
 obtain⟨h1,_,_,vs,r,o',es',ep',h2,h3,h4,h5,h6,h7⟩:=(show ZK X.prog X.w H s.heap a (.frz o (.dK kvs)) from I.hok a _ e)
 rw [h1] at h2;cases h2;rw [hd] at h4;cases h4;exact⟨vs,r,⟨o,es,h1,h3,hd,h5,h6,h7⟩,by rw [<-h6.length];simp⟩
theorem KV.get {κ:Type}{kvs:List (κ×V)}{vs:List (κ×Value)}(r:KV kvs vs):∀{i:Nat} {k:κ} {v:V},kvs[i]? = some (k,v)->∃u,vs[i]? = some (k,u)/\ZO v u:=by
 unfold KV at r
 induction r with
 |nil=>intro i k v e;simp at e
 | @cons p q ps qs h t ih=>
  intro i k v e;cases i with
  |zero=>
   simp at e
   subst e;have h1:k=q.1:=h.1
   exact⟨q.2,by rw [h1];rfl,h.2⟩
  |succ i=>simpa using ih (by simpa using e)
theorem KA {P:Program}{w:World}{K:W4}{tg:Expr}{a it:Addr}{o:Obj}{es:Array DictEntry}{ep:Nat}(hd:o.data = .dict es ep):Turn P w K tg (Itk a o) [it] it (λi h=>h.IsKeyIter it a i es.size ep) where
 mem:=by simp
 obj:=λi h st b hb=>by
  have e:b=it:=by simpa using hb
  subst e;obtain⟨q,e,_,d⟩:=st
  exact⟨q,e,λv z=>by rw [d] at z;cases z⟩
 keep:=λi h h' st k=>st.at λq e=>k it (by simp) q e
 item:=by
  intro X hP hw hK hc i pins s σ H E I hf st hg;subst hP hw hK;obtain⟨kvs,k,v,e,hx⟩:=hg
  obtain⟨vs,r,hm,hz⟩:=Ps I e hd
  obtain⟨u,hu,_⟩:=r.get hx
  obtain⟨f0,f1,f2,f3,f4,f5⟩:=hf it (by simp)
  rw [hz] at st;refine wpAny_pyNext_dict_item st hm hu λkey h' hk st' sb=>?_
  have I1:Inv X pins σ H { s with heap:=h' }:=I.turned (t':=s.toks) (λb q hb e=>(sb.2 b hb).trans e) f0 f1 f3 f4 f5
  obtain⟨q,eq,c,d⟩:=id st'
  refine⟨key,rfl,Pn (s:={ s with heap:=h' }) eq c d (by decide) ⟨kV k,H,I1,Dp hk,⟨rfl,λkvs' e'=>?_⟩,by rw [hz];exact st',λb hb=>(hf b hb).1⟩⟩
  rw [e] at e'
  cases e'
  exact⟨k,v,hx,rfl⟩
 done:=by
  intro X hP hw hK hc i pins s σ H E I hf st hg;subst hP hw hK;obtain⟨kvs,e,hx⟩:=hg
  obtain⟨vs,r,hm,hz⟩:=Ps I e hd
  obtain⟨f0,f1,f2,f3,f4,f5⟩:=hf it (by simp)
  rw [hz] at st;exact wpAny_pyNext_dict_end (I.ok.hd hc) st hm (by rw [hx,r.length];simp) λh' eb=>⟨rfl,I.turned (t':=s.toks) (λb q hb e=>eb b q hb e) f0 f1 f3 f4 f5⟩
 self:=λ_ _ _ _ _ st h=>wpAny_pyIter_keyiter st h
section
variable {X:Cx} {pins:List (Addr×Obj)} {σ:St} {H:Hp} {s:Shared} {a:Addr} {kvs:List (Key×V)} {tg:Expr} {E:Value->Shared->Prop} {R:It->Hp->Prop}
theorem Inv.freeze (I:Inv X pins σ H s)(e:H a=some (.dK kvs)):∃(o:Obj) (es:Array DictEntry) (ep:Nat),o.data = .dict es ep/\Inv X pins σ (upd H a (.frz o (.dK kvs))) s:=by
 obtain⟨z,hS,vs,r,o,es,ep,h1,h2,h3,h4⟩:=(show ZK X.prog X.w H s.heap a (.dK kvs) from I.hok a _ e)
 refine⟨o,es,ep,h3,I.view (by rw [e];exact True.intro) ⟨o,h1⟩ ⟨h1,z,hS,vs,r,o,es,ep,h1,h2,h3,h4⟩⟩
theorem Ri {o:Obj}(I:Inv X pins σ H s)(e:H a=some (.frz o (.dK kvs)))(q:R (Itk a o) H):wpAny (model X.prog X.w) X.A (pyIter (.ref a)) (PIE X pins σ tg R) E s:=by
 obtain⟨h1,_,hS,_,_,o',es,ep,h2,_,hd,_⟩:=(show ZK X.prog X.w H s.heap a (.frz o (.dK kvs)) from I.hok a _ e)
 rw [h1] at h2;cases h2;obtain⟨vs,r,hm,hz⟩:=Ps I e hd
 refine wpAny_pyIter_dict hS hm ?_
 refine⟨s.heap.objs.size,[s.heap.objs.size],_,_,H,rfl,I.kept (t':=s.toks) λb o e=>Wk _ e,KA (a:=a) hd,⟨_,WA _ rfl,rfl,by rw [hz];rfl⟩,λb hb=>?_,q⟩
 have eb:b=s.heap.objs.size:=by simpa using hb
 subst eb;exact I.fpOk (Wt _) (I.hok.fresh (Wt _))
theorem Inv.notFrz (I:Inv X pins σ H s)(e:H a=some (.dK kvs)):∀o u,X.H₀ a≠some (.frz o u):=λo u z=>by
 have:=I.base.frzs a o u z
 rw [e] at this;cases this
theorem M6 (I:Inv X pins σ H s)(e:H a=some (.dK kvs))(q:∀o,(∀o u,X.H₀ a≠some (.frz o u))->R (Itk a o) (upd H a (.frz o (.dK kvs)))):wpAny (model X.prog X.w) X.A (pyIter (.ref a)) (PIE X pins σ tg R) E s:=by
 obtain⟨o,es,ep,hd,I'⟩:=I.freeze e
 exact Ri I' Zb (q o (I.notFrz e))
end
end L2
namespace L2
open PySem PySem.Spec PyProof.Rows
theorem UP:typeLookup (.type "tuple") "keys" = pure none:=by rw [typeLookup_type,builtinLookup_eq_fast];kernel_rfl
section
variable {prog:Program} {w:World} {A:Around} {E:Value->Shared->Prop} {s:Shared}
set_option maxRecDepth 8000 in
theorem Gq {a:Addr}{o:Obj}{xs:Array Value}{k:Nat}{Q:Option Value->Shared->Prop}(hx:s.heap.get? a=some o)(hc:o.cls = .type "tuple")(hdat:o.data = .seq xs k)(hd:o.dict=none)(hA:A.handled=none)
  (h:∀h' tk,(∀b o,s.heap.get? b=some o->h'.get? b=some o)->Q none { s with heap:=h',toks:=tk }):wpAny (model prog w) A (getAttr? (.ref a) "keys") Q E s:=by
 obtain⟨c,dct,dat,sl⟩:=o
 simp only at hc hdat hd
 subst hc hdat hd;obtain⟨hp,g,d,tk,os⟩:=s
 have hT:∀tk',(⟨hp,g,d,tk',os⟩:Shared).TypeIs (.ref a) "tuple":=λ_=>⟨_,hx,rfl⟩
 have f1:=sub_AttributeError
 have f3:=W0d.lookup
 have f4:=W0d.bind (.ref a)
 have f5:=am_tuple_getattr_none
 unfold getAttr? getAttrBy? getAttrBy
 repeat (any_goals (first|assumption|exact hT _|((with_reducible show wpAny _ _ (call (Value.builtin "tuple.__getattribute__") _ _) _ _ _);refine call_meets W0d (hT _) am_entry_tuple_getattribute (F.args_tuple_getattribute_2 _ _) (meets_getattribute_miss_tuple a xs k sl "keys" _ UP (by decide +kernel) (by size_fits)) ⟨hx,hA,λh' tk' e hx'=>?_⟩)|wp_step))
 obtain⟨t',u',he⟩:=hx'.there
 show wpAny _ _ (getattributeRaised _ _ _ _ _ _ _) _ _ _
 unfold getattributeRaised;have hT2:(⟨h',g,d,tk',os⟩:Shared).TypeIs (.ref e) "AttributeError":=⟨_,he,rfl⟩
 repeat (any_goals (first|assumption|wp_step))
 exact h _ _ hx'.of.keeps
end
namespace DP
theorem entry_loop:entryFor table "dict.update.loop" = some Builtin.«dict.update.loop»:=entryFor_of_tree (by kernel_rfl)
theorem plain_loop:plainId "dict.update.loop" = true:=by decide +kernel
end DP
section
variable {X:Cx} {pins:List (Addr×Obj)} {σ:St} {A:Around}
theorem MT {H:Hp}{s:Shared}{p:Addr}{x y:V}{E:Value->Shared->Prop}{Q:List Value->Shared->Prop}(I:Inv X pins σ H s)(hp:H p=some (.tup [x,y]))(h:∀u v,ZO x u->ZO y v->Q [u,v] s) :
  wpAny (model X.prog X.w) A (Builtin.Dict.pairItems (.ref p)) Q E s:=by
 obtain⟨its,rv,ht,_⟩:=I.tuple (.of hp)
 obtain⟨o,ho,hc,n,hd⟩:=(show s.heap.IsTuple p its.toArray from ht)
 obtain⟨u,v,rfl,ru,rv'⟩:=MH rv
 unfold Builtin.Dict.pairItems;refine W3 (wpAny_typeOf (T:="tuple") ⟨o,ho,hc⟩ ?_)
 rw [if_pos (by decide)]
 exact W3 (VC ho hd (Wn (h u v ru rv')))
theorem Bf:∀(ps kvs:List (Key×V)),(Qa kvs ps).length<=kvs.length+ps.length
 |[],kvs=>by unfold Qa;simp
 |p :: ps,kvs=>by
  have h1:=Bf ps (Tc kvs p.1 p.2)
  have h2:=QH kvs p.1 p.2
  show (Qa (Tc kvs p.1 p.2) ps).length<=_
  rw [WP];omega
theorem Nk (ps kvs:List (Key×V))(p:Key×V):Qa kvs (ps++[p])=Tc (Qa kvs ps) p.1 p.2:=by unfold Qa;rw [List.foldl_append];rfl
theorem KG {α:Type}{l:List α}{i:Nat}(h:i<l.length):l.take i++[l[i]]=l.take (i+1):=by simp
theorem PM {d it l:Addr}{xs:List V}{ps:List (Key×V)}(hh:A.handled=none)(hlen:xs.length=ps.length)(hsz:ps.length<=Wd){R:Result->Shared->Prop} :
  ∀(m i:Nat) (s:Shared) (H:Hp),ps.length-i=m->i<=ps.length->Inv X pins σ H s->H d=some (.dK (Qa [] (ps.take i)))->H l=some (.tup xs)->
   (∀(j:Nat) k v,ps[j]? = some (k,v)->∃p,xs[j]? = some (.ref p)/\H p=some (.tup [kV k,v]))->Kr X pins H it->s.heap.IsTupleIter it l i->
   (∀s',Inv X pins σ (upd H d (.dK (Qa [] ps))) s'->R (.ok (.ret .none)) s')->
   codeAny (model X.prog X.w) A (.builtin "dict.update.loop" ⟨[.ref d,.ref it,rawInt i,.none],[]⟩) R s:=by
 intro m
 induction m with
 |zero=>
  intro i s H hm hi I hd hl hps hf st k;have e:i=ps.length:=by omega
  subst e;obtain⟨its,rv,p,_⟩:=I.tuple (.of hl)
  obtain⟨f0,f1,f2,f3,f4,f5⟩:=id hf
  refine W10 DP.entry_loop ?_
  rw [W0S DP.plain_loop _];show wpAny _ A.in1 (pyNext (.ref it) >>= _) _ _ s
  refine W3 (wpAny_pyNext_tuple_end (by simpa using hh) st (show s.heap.IsTuple l its.toArray from p) (by have:=rv.length;simp;omega) λh' eb=>?_)
  have I1:Inv X pins σ H { s with heap:=h' }:=I.turned (t':=s.toks) (λb o hb e=>eb b o hb e) f0 f1 f3 f4 f5
  show wpAny _ A.in1 (Builtin.Dict.addKeywords d [] >>= _) _ _ _
  refine W3 (Wn (Wn (k _ ?_)))
  rw [List.take_length] at hd;have eu:upd H d (.dK (Qa [] ps))=H:=by
   funext b
   unfold upd;by_cases hb:b=d
   ·rw [if_pos hb,hb,hd]
   ·rw [if_neg hb]
  rw [eu];exact I1
 |succ m ih=>
  intro i s H hm hi I hd hl hps hf st k;have hlt:i<ps.length:=by omega
  obtain⟨its,rv,p,_⟩:=I.tuple (.of hl)
  obtain⟨f0,f1,f2,f3,f4,f5⟩:=id hf
  have hpi:ps[i]? = some (ps[i].1,ps[i].2):=Wl hlt
  obtain⟨q,hq,hH⟩:=hps i _ _ hpi
  obtain⟨u,hu,ru⟩:=rv.get hq
  cases ru;refine W10 DP.entry_loop ?_
  rw [W0S DP.plain_loop _];show wpAny _ A.in1 (pyNext (.ref it) >>= _) _ _ s
  refine W3 (wpAny_pyNext_tuple_item st (show s.heap.IsTuple l its.toArray from p) (x:=.ref q) (by simpa using hu) λh' st' sb=>?_)
  have I1:Inv X pins σ H { s with heap:=h' }:=I.turned (t':=s.toks) (λb o hb e=>(sb.2 b hb).trans e) f0 f1 f3 f4 f5
  dsimp only;refine W3 (Vo (W3 (wpAny_tryCatch (MT I1 hH λa b ra rb=>?_))))
  dsimp only;refine Vo ?_
  obtain⟨z,hdS,vs,rel,dd⟩:=Ow I1.hok hd
  have hz:vs.length<=Wd:=by rw [<-rel.length];exact z
  have hl1:(Tc (Qa [] (ps.take i)) ps[i].1 ps[i].2).length<=Wd:=by
   have h1:=QH (Qa [] (ps.take i)) ps[i].1 ps[i].2
   have h2:=Bf (ps.take i) []
   rw [VZ] at h2;simp only [List.length_nil] at h2
   omega
  refine wpAny_dictSet_pairs (hsz:=hz) (Bx ra) dd λh2 dd' hs=>?_
  have he:∃q,h2.get? d=some q:=let ⟨q,_,_,hq,_⟩:=dd';⟨q,hq⟩
  have I2:Inv X pins σ (upd H d (.dK (Tc (Qa [] (ps.take i)) ps[i].1 ps[i].2))) { s with heap:=h2,toks:=s.toks+1 }:=U9 (s:={ s with heap:=h' }) (h':=h2) (t':=s.toks+1) I1 (by rw [hd];exact True.intro) hs he (EF hl1 hdS (rel.put ps[i].1 rb) dd')
  have hit:it≠d:=λz=>by rw [z] at f0;rw [f0] at hd;cases hd
  have nd:∀(c:Addr) ys,H c=some (.tup ys)->c≠d:=λc ys e z=>by rw [z,hd] at e;cases e
  refine Wn ⟨plainId_quiet DP.plain_loop _,ih (i+1) _ _ (by omega) hlt I2 ?_ (by rw [Zl (nd l xs hl)];exact hl) (λj k v e=>?_) ⟨by rw [Zl hit];exact f0,f1,f2,f3,f4,f5⟩ ?_ λs' I'=>k s' ?_⟩
  ·rw [Zb,<-Nk,KG hlt]
  ·obtain⟨c,c1,c2⟩:=hps j k v e
   exact⟨c,c1,by rw [Zl (nd c _ c2)];exact c2⟩
  ·exact st'.at λo e=>(hs.2 it hit).trans e
  ·rw [Qp] at I'
   exact I'
theorem T7 (hcalm:X.calm=true):Ji X (.type "dict") (λvs H Q=>∃l xs ps,vs=[.ref l]/\H l=some (.tup xs)/\xs.length=ps.length/\ps.length<=Wd/\
  (∀(j:Nat) k v,ps[j]? = some (k,v)->∃p,xs[j]? = some (.ref p)/\H p=some (.tup [kV k,v]))/\∀d,H d=none->Q (.ref d) (upd H d (.dK (Qa [] ps)))):=by
 intro pins s σ H vs us Q I r h;obtain⟨l,xs,ps,rfl,hl,hlen,hsz,hps,q⟩:=h
 obtain⟨u,rfl,ru⟩:=BV r
 cases ru;have hh:X.A.handled=none:=I.ok.hd hcalm
 refine callType_codes (Q₁:=λobj s₁=>obj = .ref s.heap.objs.size/\s₁={ s with heap:=s.heap.push { cls:=.type "dict",data:=.dict #[] } }) PySem.F.kt_called_dict (PySem.F.kt_typeCall_dict_1 _) PySem.F.entry_dict_init (kt_code_dict_new _ ⟨rfl,rfl⟩) ?_
 rintro obj s₁ ⟨rfl,rfl⟩
 have hnew:(s.heap.push { cls:=.type "dict",data:=.dict #[] }).DictOf (ZW X.prog X.w) s.heap.objs.size []:=Heap.DictOf.new s.heap
 have hfr:H s.heap.objs.size=none:=I.hok.fresh (Wt _)
 have I1:Inv X pins σ (upd H s.heap.objs.size (.dK [])) { s with heap:=s.heap.push { cls:=.type "dict",data:=.dict #[] } }:=I.laid (a:=s.heap.objs.size) (o:=.dK []) (t':=s.toks) (λ_ _ q=>Wk _ q) (Wt _) (Mz s.heap I.big)
 have hnl:∀(c:Addr) o,H c=some o->c≠s.heap.objs.size:=λc o e z=>by rw [z,hfr] at e;cases e
 have hl1:upd H s.heap.objs.size (.dK []) l=some (.tup xs):=by rw [Zl (hnl l _ hl)];exact hl
 obtain⟨its,rv,ht,_⟩:=I1.tuple (.of hl1)
 obtain⟨o,ho,hc,n,hd⟩:=(show (s.heap.push { cls:=.type "dict",data:=.dict #[] }).IsTuple l its.toArray from ht)
 have hdn:o.dict=none:=by
  obtain⟨_,_,_,_,o',ho',hd'⟩:=(show ZK X.prog X.w _ (s.heap.push { cls:=.type "dict",data:=.dict #[] }) l (.tup xs) from I1.hok l _ hl1)
  rw [ho] at ho'
  cases ho'
  exact hd'
 refine⟨hnew.typeIs,PySem.F.args_dict_init_2 _ _,?_⟩
 unfold Builtin.«dict.__init__»
 refine W3 ?_
 unfold Builtin.Dict.selfAndRest;refine W3 (wpAny_notOrdered_dict hnew.typeIs ?_)
 show wpAny _ _ (pure (s.heap.objs.size,[Value.ref l])) _ _ _
 refine Wn ?_
 show wpAny _ _ (Builtin.Dict.updateFrom "dict.__init__" s.heap.objs.size (.ref l) [] .none) _ _ _
 unfold Builtin.Dict.updateFrom;refine W3 (wpAny_typeOf (T:="tuple") ⟨o,ho,hc⟩ ?_)
 rw [if_pos (by decide)]
 refine W3 (Gq ho hc hd hdn (by simpa using hh) λh2 tk hk=>?_)
 simp only [Option.isNone_none,if_true]
 have I2:Inv X pins σ (upd H s.heap.objs.size (.dK [])) { s with heap:=h2,toks:=tk }:=I1.kept (t':=tk) hk
 obtain⟨its2,rv2,ht2,_⟩:=I2.tuple (.of hl1)
 refine W3 (wpAny_rule (W3 (W0y (show h2.IsTuple l its2.toArray from ht2) ?_)))
 refine Wn ⟨plainId_quiet DP.plain_loop _,?_⟩
 have I3:Inv X pins σ (upd H s.heap.objs.size (.dK [])) { s with heap:=h2.push { cls:=.type "tuple_iterator",data:=.fields #[.ref l,.int 0 0] },toks:=tk }:=I2.kept (t':=tk) λb o e=>Wk _ e
 refine PM (l:=l) (it:=h2.objs.size) (by simpa using hh) hlen hsz ps.length 0 _ _ (by omega) (VG _) I3 Zb hl1 (λj k v e=>?_) (I2.fpOk (Wt _) (I2.hok.fresh (Wt _))) ⟨_,WA _ rfl,rfl,rfl⟩ λs' I'=>⟨rfl,?_⟩
 ·obtain⟨c,c1,c2⟩:=hps j k v e
  exact⟨c,c1,by rw [Zl (hnl c _ c2)];exact c2⟩
 ·rw [Qp] at I'
  exact⟨.ref s.heap.objs.size,_,I',rfl,q _ hfr⟩
end
end L2
namespace KS
open PySem PySem.W PyProof.Rows
def ev {α:Type}(lt:Nat->Nat->Bool):KasT α->α
 | .ret a=>a
 | .ask i j k=>ev lt (k (lt i j))
theorem U3 {α β:Type}(lt:Nat->Nat->Bool)(f:α->KasT β):∀t:KasT α,ev lt (t.bind f)=ev lt (f (ev lt t))
 | .ret _=>rfl
 | .ask i j k=>U3 lt f (k (lt i j))
def Rg {α:Type}(n:Nat):KasT α->Prop
 | .ret _=>True
 | .ask i j k=>i<n/\j<n/\∀b,Rg n (k b)
theorem G5 {α β:Type}{n:Nat}{f:α->KasT β}:∀{t:KasT α},Rg n t->(∀a,Rg n (f a))->Rg n (t.bind f)
 | .ret a,_,h=>h a
 | .ask i j k,⟨h1,h2,h3⟩,h=>⟨h1,h2,λb=>G5 (h3 b) h⟩
def Out {α:Type}(P:α->Prop):KasT α->Prop
 | .ret a=>P a
 | .ask _ _ k=>∀b,Out P (k b)
theorem G4 {α β:Type}{n:Nat}{P:α->Prop}{f:α->KasT β}:∀{t:KasT α},Rg n t->Out P t->(∀a,P a->Rg n (f a))->Rg n (t.bind f)
 | .ret a,_,o,h=>h a o
 | .ask i j k,⟨h1,h2,h3⟩,o,h=>⟨h1,h2,λb=>G4 (h3 b) (o b) h⟩
theorem Uz {α β:Type}{P:α->Prop}{P':β->Prop}{f:α->KasT β}:∀{t:KasT α},Out P t->(∀a,P a->Out P' (f a))->Out P' (t.bind f)
 | .ret a,o,h=>h a o
 | .ask i j k,o,h=>λb=>Uz (o b) h
def Al (n:Nat)(p:Array Nat):Prop:=∀x∈p,x<n
theorem Al.get {n:Nat}{p:Array Nat}(h:Al n p)(hn:0<n)(k:Nat):p.getD k 0<n:=by
 by_cases hk:k<p.size
 ·have e:p.getD k 0=p[k]:=by simp [Array.getD,hk]
  rw [e];exact h _ (Array.getElem_mem hk)
 ·have e:p.getD k 0=0:=by simp [Array.getD,hk]
  rw [e];exact hn
theorem Al.perm {n:Nat}{p q:Array Nat}(h:Al n p)(hp:q.Perm p):Al n q:=λx hx=>h x (hp.mem_iff.mp hx)
theorem Al.rev {n:Nat}{p:Array Nat}(h:Al n p)(i j:Nat):Al n (W0k p i j):=h.perm (mirror_perm _ _ _ _)
theorem Al.bub {n:Nat}{p:Array Nat}(h:Al n p)(i j:Nat):Al n (bubble p i j):=h.perm (bubble_perm _ _ _)
section
variable {n:Nat} (hn:0<n)
include hn
theorem R8 {p:Array Nat}(h:Al n p):∀f k,Rg n (W0F p f k)
 |0,_=>trivial
 |f+1,k=>⟨h.get hn _,h.get hn _,λb=>by
  cases b
  ·exact R8 h f (k+1)
  ·exact trivial⟩
theorem G3:∀f {p:Array Nat} (_:Al n p) k q,Rg n (W0h f p k q)
 |0,_,_,_,_=>trivial
 |f+1,p,h,k,q=>⟨h.get hn _,h.get hn _,λb=>by
  cases b
  ·refine⟨h.get hn _,h.get hn _,λb=>?_⟩
   cases b
   ·exact G3 f h (k+1) (q+1)
   ·exact trivial
  ·show Rg n (if q>0 then W0h f (W0k p (k-(q+1)) k) (k+1) 0 else W0h f p (k+1) 0)
   split
   ·exact G3 f (h.rev _ _) _ _
   ·exact G3 f h _ _⟩
theorem Jw:∀f {p:Array Nat} (_:Al n p) k q,Out (λr=>Al n r.1) (W0h f p k q)
 |0,_,h,_,_=>h
 |f+1,p,h,k,q=>λb=>by
  cases b
  ·intro b
   cases b
   ·exact Jw f h (k+1) (q+1)
   ·exact h
  ·show Out _ (if q>0 then W0h f (W0k p (k-(q+1)) k) (k+1) 0 else W0h f p (k+1) 0)
   split
   ·exact Jw f (h.rev _ _) _ _
   ·exact Jw f h _ _
theorem M4 {p:Array Nat}(h:Al n p)(a b:Nat):Rg n (kas_tail3 a b p):=G5 (R8 hn (h.rev _ _) _ _) λ_=>trivial
theorem Nf {α:Type}{P:α->Prop}(h:∀a,P a):∀t:KasT α,Out P t
 | .ret a=>h a
 | .ask i j k=>λb=>Nf h (k b)
theorem Ba {p:Array Nat}(h:Al n p)(a b:Nat):Out (λr=>Al n r.2) (kas_tail3 a b p):=Uz (P:=λ_=>True) (Nf hn (λ_=>trivial) _) λ_ _=>h.rev _ _
theorem UL {p:Array Nat}(h:Al n p)(a b:Nat):Rg n (W1e a b p):=G4 (G3 hn _ h _ _) (Jw hn _ h _ _) λr hr=>by
 split
 ·exact M4 hn (hr.rev _ _) _ _
 ·exact M4 hn hr _ _
theorem Uj {p:Array Nat}(h:Al n p)(a b:Nat):Out (λr=>Al n r.2) (W1e a b p):=Uz (Jw hn _ h _ _) λr hr=>by
 split
 ·exact Ba hn (Al.rev hr _ _) _ _
 ·exact Ba hn hr _ _
theorem LG {p:Array Nat}(h:Al n p)(a:Nat):Rg n (kas_count a p):=G5 (R8 hn h _ _) λm=>by
 split
 ·exact trivial
 ·split
  ·refine⟨h.get hn _,h.get hn _,λb=>?_⟩
   cases b
   ·exact UL hn (h.rev _ _) _ _
   ·exact trivial
  ·exact UL hn h _ _
theorem Rq {p:Array Nat}(h:Al n p)(a:Nat):Out (λr=>Al n r.2) (kas_count a p):=Uz (P:=λ_=>True) (Nf hn (λ_=>trivial) _) λm _=>by
 split
 ·exact h
 ·split
  ·intro b
   cases b
   ·exact Uj hn (h.rev _ _) _ _
   ·exact h
  ·exact Uj hn h _ _
theorem G2 {p:Array Nat}(h:Al n p)(k:Nat):∀f l r,Rg n (W13 p k f l r)
 |0,_,_=>trivial
 |f+1,l,r=>by
  unfold W13;split
  ·exact trivial
  ·refine⟨h.get hn _,h.get hn _,λb=>?_⟩
   cases b
   ·exact G2 h k f _ _
   ·exact G2 h k f _ _
theorem FZ:∀f {p:Array Nat} (_:Al n p) k,Rg n (kas_bin f p k)
 |0,_,_,_=>trivial
 |f+1,p,h,k=>G5 (G2 hn h k _ _ _) λ_=>FZ f (h.bub _ _) _
end
theorem MF (n:Nat):Al n (VD (WE n)):=λx hx=>by simpa using hx
theorem rg_sort {n:Nat}(hn:0<n):Rg n (W0I n):=G4 (LG hn (MF n) _) (Rq hn (MF n) _) λr hr=>by
 split
 ·exact FZ hn _ hr _
 ·exact trivial
structure Ord (lt:Nat->Nat->Bool):Prop where
 irr:∀i,lt i i=false
 tr:∀i j k,lt j i=false->lt k j=false->lt k i=false
 as:∀i j,lt i j=true->lt j i=false
section
variable {lt:Nat->Nat->Bool} (O:Ord lt) {p q:Array Nat}
abbrev le (lt:Nat->Nat->Bool)(i j:Nat):Prop:=lt j i=false
theorem Ord.lt_le (O:Ord lt){i j k:Nat}(h1:lt i j=true)(h2:le lt j k):lt i k=true:=by
 cases h:lt i k
 ·have:=O.tr j k i h2 h
  rw [h1] at this;cases this
 ·rfl
def So (lt:Nat->Nat->Bool)(p:Array Nat)(n:Nat):Prop:=∀i j,i<=j->j<n->le lt (p.getD i 0) (p.getD j 0)
def De (lt:Nat->Nat->Bool)(p:Array Nat)(n:Nat):Prop:=∀i j,i<=j->j<n->le lt (p.getD j 0) (p.getD i 0)
theorem J4 {p:Array Nat}{i j:Nat}(hj:j<=p.size)(k:Nat):(W0k p i j).getD k 0=if i<=k/\k<j then p.getD (i+j-1-k) 0 else p.getD k 0:=by
 have:=getElem?_mirror_all (xs:=p) (i:=i) hj k
 simp only [W14]
 unfold W0k;rw [this];split<;>rfl
include O
theorem La:∀f n,1<=n->So lt p n->n<=ev lt (W0F p f n)/\ev lt (W0F p f n)<=n+f/\So lt p (ev lt (W0F p f n))/\(ev lt (W0F p f n)<n+f->lt (p.getD (ev lt (W0F p f n)) 0) (p.getD (ev lt (W0F p f n)-1) 0)=true)
 |0,n,_,h=>⟨Wt _,Wt _,h,λz=>absurd z (Vy _)⟩
 |f+1,n,h1,h=>by
  show n<=ev lt (if lt (p.getD n 0) (p.getD (n-1) 0)=true then KasT.ret n else W0F p f (n+1))/\ev lt (if lt (p.getD n 0) (p.getD (n-1) 0)=true then KasT.ret n else W0F p f (n+1))<=n+(f+1)/\So lt p (ev lt (if lt (p.getD n 0) (p.getD (n-1) 0)=true then KasT.ret n else W0F p f (n+1)))/\(ev lt (if lt (p.getD n 0) (p.getD (n-1) 0)=true then KasT.ret n else W0F p f (n+1))<n+(f+1)->lt (p.getD (ev lt (if lt (p.getD n 0) (p.getD (n-1) 0)=true then KasT.ret n else W0F p f (n+1))) 0) (p.getD (ev lt (if lt (p.getD n 0) (p.getD (n-1) 0)=true then KasT.ret n else W0F p f (n+1))-1) 0)=true)
  by_cases c:lt (p.getD n 0) (p.getD (n-1) 0)=true
  ·rw [if_pos c]
   exact⟨Wt _,Nat.le_add_right _ _,h,λ_=>c⟩
  ·rw [if_neg c]
   have h':So lt p (n+1):=λi j hij hj=>by
    by_cases q:j<n
    ·exact h i j hij q
    ·have ej:j=n:=by omega
     subst ej;by_cases q2:i=j
     ·rw [q2];exact O.irr _
     ·exact O.tr _ _ _ (h i (j-1) (by omega) (by omega)) (by simpa using c)
   obtain⟨a,b,c,d⟩:=La f (n+1) (by omega) h'
   exact⟨by omega,by omega,c,λz=>d (by omega)⟩
omit O in
theorem De.eqv {n:Nat}(O:Ord lt)(h:De lt p n)(e:∀k,k<n->le lt (q.getD k 0) (p.getD k 0)/\le lt (p.getD k 0) (q.getD k 0)):De lt q n:=λi j hij hj=>
 O.tr _ _ _ (e j hj).1 (O.tr _ _ _ (h i j hij hj) (e i (by omega)).2)
omit O in
theorem So.ofDe {n:Nat}(h:De lt p n)(hn:n<=p.size):So lt (W0k p 0 n) n:=λi j hij hj=>by
 rw [J4 hn,J4 hn,if_pos (by omega),if_pos (by omega)]
 exact h (0+n-1-j) (0+n-1-i) (by omega) (by omega)
def Run (lt:Nat->Nat->Bool)(p:Array Nat)(n q:Nat):Prop:=q+1<=n/\∀i,n-(q+1)<=i->i<n->le lt (p.getD i 0) (p.getD (n-1) 0)/\le lt (p.getD (n-1) 0) (p.getD i 0)
omit O in
theorem KZ {n k:Nat}(O:Ord lt)(h:Run lt p n k)(hn:n<=p.size):∀i,i<p.size->le lt ((W0k p (n-(k+1)) n).getD i 0) (p.getD i 0)/\le lt (p.getD i 0) ((W0k p (n-(k+1)) n).getD i 0):=λi hi=>by
 rw [J4 hn];by_cases c:n-(k+1)<=i/\i<n
 ·rw [if_pos c]
  have a:=h.2 (n-(k+1)+n-1-i) (by omega) (by omega)
  have b:=h.2 i c.1 c.2
  exact⟨O.tr _ _ _ a.1 b.2,O.tr _ _ _ b.1 a.2⟩
 ·rw [if_neg c]
  exact⟨O.irr _,O.irr _⟩
def DP (lt:Nat->Nat->Bool)(p:Array Nat)(a b:Nat)(r:Array Nat×Nat×Nat):Prop:=r.1.size=p.size/\r.1.Perm p/\a<=r.2.1/\r.2.1<=b/\De lt r.1 r.2.1/\Run lt r.1 r.2.1 r.2.2
theorem PO:∀f (p:Array Nat) n k,De lt p n->Run lt p n k->n+f<=p.size->DP lt p n (n+f) (ev lt (W0h f p n k))
 |0,p,n,k,h,r,hz=>⟨rfl,.refl _,Wt _,Wt _,h,r⟩
 |f+1,p,n,k,h,r,hz=>by
  have h1:=r.1
  have step:∀(p1:Array Nat) (k1:Nat),p1.size=p.size->p1.Perm p->De lt p1 (n+1)->Run lt p1 (n+1) k1->DP lt p n (n+(f+1)) (ev lt (W0h f p1 (n+1) k1)):=λp1 k1 s1 pm d1 r1=>by
   obtain⟨a,b,c,d,e,g⟩:=PO f p1 (n+1) k1 d1 r1 (by omega)
   exact⟨a.trans s1,b.trans pm,by omega,by omega,e,g⟩
  show DP lt p n (n+(f+1)) (ev lt (if lt (p.getD n 0) (p.getD (n-1) 0)=true then (if k>0 then W0h f (W0k p (n-(k+1)) n) (n+1) 0 else W0h f p (n+1) 0)
   else .ask (p.getD (n-1) 0) (p.getD n 0) λd=>if d=true then .ret (p,n,k) else W0h f p (n+1) (k+1)))
  have run0:∀p1:Array Nat,Run lt p1 (n+1) 0:=λp1=>⟨by omega,λi a b=>by
   have:i=n:=by omega
   subst this;exact⟨O.irr _,O.irr _⟩⟩
  have more:∀p1:Array Nat,De lt p1 n->p1.getD n 0=p.getD n 0->le lt (p.getD n 0) (p1.getD (n-1) 0)->De lt p1 (n+1):=λp1 d1 e1 l1 i j hij hj=>by
   by_cases c:j<n
   ·exact d1 i j hij c
   ·have ej:j=n:=by omega
    subst ej;by_cases c2:i=j
    ·rw [c2];exact O.irr _
    ·rw [e1]
     exact O.tr _ _ _ l1 (d1 i (j-1) (by omega) (by omega))
  by_cases c:lt (p.getD n 0) (p.getD (n-1) 0)=true
  ·rw [if_pos c]
   by_cases ck:k>0
   ·rw [if_pos ck]
    have rr:=KZ O r (by omega)
    refine step _ 0 (W15 _ _ _ _) (mirror_perm _ _ _ _) (more _ (h.eqv O λi hi=>rr i (by omega)) ?_ ?_) (run0 _)
    ·rw [J4 (by omega),if_neg (by omega)]
    ·exact O.tr _ _ _ (O.as _ _ c) (rr (n-1) (by omega)).2
   ·rw [if_neg ck]
    exact step p 0 rfl (.refl _) (more p h rfl (O.as _ _ c)) (run0 _)
  ·rw [if_neg c]
   show DP lt p n (n+(f+1)) (ev lt (if lt (p.getD (n-1) 0) (p.getD n 0)=true then .ret (p,n,k) else W0h f p (n+1) (k+1)))
   by_cases d:lt (p.getD (n-1) 0) (p.getD n 0)=true
   ·rw [if_pos d]
    exact⟨rfl,.refl _,Wt _,Nat.le_add_right _ _,h,r⟩
   ·rw [if_neg d]
    have c':le lt (p.getD (n-1) 0) (p.getD n 0):=by simpa using c
    have d':le lt (p.getD n 0) (p.getD (n-1) 0):=by simpa using d
    refine step p (k+1) rfl (.refl _) (more p h rfl d') ⟨by omega,λi a b=>?_⟩
    by_cases ci:i=n
    ·subst ci;exact⟨O.irr _,O.irr _⟩
    ·have z:=r.2 i (by omega) (by omega)
     exact⟨O.tr _ _ _ z.1 c',O.tr _ _ _ d' z.2⟩
def CP (lt:Nat->Nat->Bool)(p:Array Nat)(b:Nat)(r:Nat×Array Nat):Prop:=r.2.size=p.size/\r.2.Perm p/\1<=r.1/\r.1<=b/\So lt r.2 r.1
theorem NN {n b:Nat}(h:De lt p n)(h1:1<=n)(hb:n<=b)(hz:b<=p.size):CP lt p b (ev lt (kas_tail3 n b p)):=by
 unfold kas_tail3;rw [U3];obtain⟨x,y,z,_⟩:=La O (p:=W0k p 0 n) (b-n) n h1 (So.ofDe h (by omega))
 exact⟨W15 _ _ _ _,mirror_perm _ _ _ _,by show 1<=ev lt _;omega,by show ev lt _<=b;omega,z⟩
theorem T4 {n b:Nat}(h:De lt p (n+1))(hb:n+1<=b)(hz:b<=p.size):CP lt p b (ev lt (W1e n b p)):=by
 unfold W1e;rw [U3];obtain⟨a,c,d,e,f,g⟩:=PO O (b-(n+1)) p (n+1) 0 h ⟨by omega,λi x y=>by
  have:i=n+1-1:=by omega
  subst this;exact⟨O.irr _,O.irr _⟩⟩ (by omega)
 generalize ev lt (W0h (b-(n+1)) p (n+1) 0)=r at *
 split
 ·have rr:=KZ O g (by omega)
  obtain⟨x1,x2,x3,x4,x5⟩:=NN O (p:=W0k r.1 (r.2.1-(r.2.2+1)) r.2.1) (n:=r.2.1) (b:=b) (f.eqv O λi hi=>rr i (by omega)) (by omega) (by omega) (by unfold W0k;rw [W15];omega)
  exact⟨x1.trans ((W15 _ _ _ _).trans a),x2.trans ((mirror_perm _ _ _ _).trans c),x3,x4,x5⟩
 ·obtain⟨x1,x2,x3,x4,x5⟩:=NN O (p:=r.1) (n:=r.2.1) (b:=b) f (by omega) (by omega) (by omega)
  exact⟨x1.trans a,x2.trans c,x3,x4,x5⟩
theorem FC (hz:1<=p.size):CP lt p p.size (ev lt (kas_count p.size p)):=by
 unfold kas_count;rw [U3];obtain⟨x,y,z,w⟩:=La O (p:=p) (p.size-1) 1 (Wt _) λi j hij hj=>by
  have h1:i=0:=by omega
  have h2:j=0:=by omega
  subst h1 h2;exact O.irr _
 generalize ev lt (W0F p (p.size-1) 1)=n at *
 split
 ·exact⟨rfl,.refl _,x,by show n<=p.size;omega,z⟩
 ·rename_i hne
  have hne':n≠p.size:=λe=>hne (by rw [e];exact beq_self_eq_true _)
  have wl:=w (by omega)
  split
  ·show CP lt p p.size (ev lt (if lt (p.getD 0 0) (p.getD (n-1) 0)=true then .ret (n,p) else W1e n p.size (W0k p 0 n)))
   by_cases c:lt (p.getD 0 0) (p.getD (n-1) 0)=true
   ·rw [if_pos c]
    exact⟨rfl,.refl _,x,by show n<=_;omega,z⟩
   ·rw [if_neg c]
    have c':le lt (p.getD (n-1) 0) (p.getD 0 0):=by simpa using c
    have all:∀i j,i<n->j<n->le lt (p.getD i 0) (p.getD j 0):=λi j hi hj=>O.tr _ _ _ (z i (n-1) (by omega) (by omega)) (O.tr _ _ _ c' (z 0 j (by omega) hj))
    have hd:De lt (W0k p 0 n) (n+1):=λi j hij hj=>by
     rw [J4 (by omega),J4 (by omega)]
     by_cases cj:j<n
     ·rw [if_pos (by omega),if_pos (by omega)]
      exact all _ _ (by omega) (by omega)
     ·have ej:j=n:=by omega
      subst ej;rw [if_neg (by omega)]
      by_cases ci:i=j
      ·rw [if_neg (by omega),ci];exact O.irr _
      ·rw [if_pos (by omega)]
       exact O.tr _ _ _ (O.as _ _ wl) (all _ _ (by omega) (by omega))
    obtain⟨x1,x2,x3,x4,x5⟩:=T4 O (p:=W0k p 0 n) (n:=n) (b:=p.size) hd (by omega) (by unfold W0k;rw [W15];exact Wt _)
    exact⟨x1.trans (W15 _ _ _ _),x2.trans (mirror_perm _ _ _ _),x3,x4,x5⟩
  ·have en:n=1:=by omega
   subst en;refine T4 O (λi j hij hj=>?_) (by omega) (Wt _)
   by_cases ci:i=j
   ·rw [ci];exact O.irr _
   ·have h1:i=0:=by omega
    have h2:j=1:=by omega
    subst h1 h2;exact O.as _ _ wl
theorem Ge {k:Nat}(hs:So lt p k):∀f l r,l<=r->r<=k->r-l<=f->(∀i,i<l->le lt (p.getD i 0) (p.getD k 0))->(∀i,r<=i->i<k->lt (p.getD k 0) (p.getD i 0)=true)->
  ∃m,ev lt (W13 p k f l r)=m/\m<=k/\(∀i,i<m->le lt (p.getD i 0) (p.getD k 0))/\∀i,m<=i->i<k->lt (p.getD k 0) (p.getD i 0)=true
 |0,l,r,h1,h2,h3,a,b=>⟨l,rfl,by omega,a,λi x y=>b i (by omega) y⟩
 |f+1,l,r,h1,h2,h3,a,b=>by
  unfold W13;split
  ·exact⟨l,rfl,by omega,a,λi x y=>b i (by omega) y⟩
  ·rename_i hlr
   show ∃m,ev lt (if lt (p.getD k 0) (p.getD ((l+r) / 2) 0)=true then W13 p k f l ((l+r) / 2) else W13 p k f ((l+r) / 2+1) r)=m/\_
   by_cases c:lt (p.getD k 0) (p.getD ((l+r) / 2) 0)=true
   ·rw [if_pos c]
    refine Ge hs f l ((l+r) / 2) (by omega) (by omega) (by omega) a λi x y=>?_
    exact O.lt_le c (hs _ _ x y)
   ·rw [if_neg c]
    refine Ge hs f ((l+r) / 2+1) r (by omega) h2 (by omega) (λi x=>?_) b
    exact O.tr _ _ _ (hs i ((l+r) / 2) (by omega) (by omega)) (by simpa using c)
omit O in
theorem Ms {p:Array Nat}{k d:Nat}(hk:k<p.size)(hd:d<=k)(i:Nat):(bubble p k d).getD i 0=if i=k-d then p.getD k 0 else if k-d<i/\i<=k then p.getD (i-1) 0 else p.getD i 0:=by
 have:=getElem?_bubble (xs:=p) hk d hd i
 simp only [W14]
 rw [this];split
 ·rfl
 ·split<;>rfl
theorem EJ:∀f (p:Array Nat) k,So lt p k->k+f<=p.size->(ev lt (kas_bin f p k)).Perm p/\So lt (ev lt (kas_bin f p k)) (k+f)
 |0,p,k,h,_=>⟨.refl _,h⟩
 |f+1,p,k,h,hz=>by
  show (ev lt ((W13 p k k 0 k).bind λl=>kas_bin f (bubble p k (k-l)) (k+1))).Perm p/\So lt (ev lt ((W13 p k k 0 k).bind λl=>kas_bin f (bubble p k (k-l)) (k+1))) (k+(f+1))
  rw [U3];obtain⟨m,e,hm,a,b⟩:=Ge O h k 0 k (VG _) (Wt _) (by omega) (λi x=>by omega) (λi x y=>by omega)
  rw [e];have hs:So lt (bubble p k (k-m)) (k+1):=λi j hij hj=>by
   rw [Ms (by omega) (by omega),Ms (by omega) (by omega)]
   by_cases i1:i=k-(k-m)
   ·rw [if_pos i1]
    by_cases j1:j=k-(k-m)
    ·rw [if_pos j1];exact O.irr _
    ·rw [if_neg j1,if_pos (by omega)]
     exact O.as _ _ (b (j-1) (by omega) (by omega))
   ·rw [if_neg i1]
    by_cases i2:k-(k-m)<i/\i<=k
    ·rw [if_pos i2,if_neg (by omega),if_pos (by omega)]
     exact h (i-1) (j-1) (by omega) (by omega)
    ·rw [if_neg i2]
     by_cases j1:j=k-(k-m)
     ·rw [if_pos j1]
      exact a i (by omega)
     ·rw [if_neg j1]
      by_cases j2:k-(k-m)<j/\j<=k
      ·rw [if_pos j2]
       exact h i (j-1) (by omega) (by omega)
      ·rw [if_neg j2]
       exact h i j hij (by omega)
  obtain⟨x,y⟩:=EJ f (bubble p k (k-m)) (k+1) hs (by rw [bubble_size];omega)
  exact⟨x.trans (bubble_perm _ _ _),by rw [show k+(f+1)=k+1+f by omega];exact y⟩
theorem sort_ok {n:Nat}(hn:1<=n):(ev lt (W0I n)).Perm (VD (WE n))/\So lt (ev lt (W0I n)) n:=by
 unfold W0I;rw [U3];have hz:(VD (WE n)).size=n:=by simp
 obtain⟨a,b,c,d,e⟩:=FC O (p:=VD (WE n)) (by omega)
 rw [hz] at a b c d e
 generalize ev lt (kas_count n (VD (WE n)))=r at *
 split
 ·obtain⟨x,y⟩:=EJ O (n-max r.1 1) r.2 (max r.1 1) (by rw [show max r.1 1=r.1 by omega];exact e) (by omega)
  exact⟨x.trans b,by rw [show max r.1 1+(n-max r.1 1)=n by omega] at y;exact y⟩
 ·have:r.1=n:=by omega
  exact⟨b,by show So lt r.2 n;rw [<-this];exact e⟩
end
end KS
namespace L2
open PySem PySem.Spec PyProof.Rows
def Kn (h:Heap)(d:Addr)(es:Array DictEntry)(ep:Nat):Prop:=∃o,h.get? d=some o/\o.ExactDict/\o.data = .dict es ep
theorem Kn.ty {s:Shared}{d:Addr}{es:Array DictEntry}{ep:Nat}(h:Kn s.heap d es ep):s.TypeIs (.ref d) "dict":=let ⟨o,h1,h2,_⟩:=h;⟨o,h1,h2.1⟩
section
variable {prog:Program} {w:World} {A:Around} {E:Value->Shared->Prop} {s:Shared} {it d:Addr} {es:Array DictEntry} {ep i:Nat}
theorem LK {Q:Value->Shared->Prop}(hd:(d == sysModules)=false)(hm:Kn s.heap d es ep)
  (q:Q (.ref s.heap.objs.size) { s with heap:=s.heap.push { cls:=.type "dict_keyiterator",data:=.fields #[.ref d,.int 0 0,.int es.size 0,.int ep 0] } }):wpAny (model prog w) A (pyIter (.ref d)) Q E s:=by
 obtain⟨o,ho,hc,hdat⟩:=id hm
 refine wpAny_pyIter_slot hm.ty PySem.F.slot_dict_iter (Vv PySem.F.slot_dict_iter hm.ty PySem.F.entry_dict_iter ?_ (PySem.F.args_dict_iter_1 _))
 unfold Builtin.«dict.__iter__» Builtin.Dict.dictSlotNone
 refine W3 (W3 (wpAny_notOrdered_dict hm.ty (Wn ?_)))
 show wpAny _ _ (Builtin.Dict.showsAll d >>= _) _ _ s
 unfold Builtin.Dict.showsAll;rw [hd];refine W3 (Wn (W3 (W0E ho hdat (W3 (wpAny_dictEpoch ho hdat ?_)))))
 exact W3 (VR (Wn ⟨_,rfl, "dict_keyiterator",_,⟨_,WA _ rfl,rfl⟩,Va.lookup,by simpa [rawInt] using q⟩))
theorem LJ {e:DictEntry}{Q:Option Value->Shared->Prop}(hit:s.heap.IsKeyIter it d i es.size ep)(hm:Kn s.heap d es ep)(hx:es[i]? = some e)
  (q:∀h',h'.IsKeyIter it d (i+1) es.size ep->W02 it s.heap h'->Q (some e.key) { s with heap:=h' }):wpAny (model prog w) A (pyNext (.ref it)) Q E s:=by
 obtain⟨o,ho,hc,hd⟩:=id hit
 obtain⟨od,hod,hcd,hdd⟩:=id hm
 have hlt:i<es.size:=(W19.mp hx).1
 have hown:W0V "dict_keyiterator" = false:=by decide
 unfold pyNext;refine W3 (W0x (Vg (name:=W0 "__next__") hit.typeIs Va (Vv Va hit.typeIs W0l ?_ (W0e _))))
 refine W3 (Wn (W3 (W3 ?_)))
 first|refine W3 (Vw hit.typeIs (Wn (W3 (W1l ho hd ?_))))|refine W3 (VT hit.typeIs (Wn (W3 (W1l ho hd ?_))))
 simp only [hown,VP,if_false]
 show wpAny _ _ (if (Value.ref d == Value.none)=true then _ else _) _ _ s
 rw [if_neg (show ¬((Value.ref d == Value.none)=true) from Wq)];refine W3 (Wn (W3 (W0E hod hdd ?_)))
 rw [if_neg (by simp)]
 refine W3 (Wn (W3 (wpAny_dictEpoch hod hdd ?_)))
 rw [if_neg (by simp)]
 refine Wn ?_
 simp only [show ¬((i:Int)<0) from by omega,if_false,VS,hx]
 refine W3 ?_
 first|refine W3 (Vw hit.typeIs (Wn (W3 (W0O hit.typeIs ?_))))|refine W3 (VT hit.typeIs (Wn (W3 (W0O hit.typeIs ?_))))
 show wpAny _ _ (setField (.ref it) 1 (rawInt ((i:Int)+1)) >>= _) _ _ s
 have hit':(s.heap.update it (Obj.mapFields (·.setIfInBounds 1 (rawInt ((i:Int)+1))))).IsKeyIter it d (i+1) es.size ep:=
  ⟨_,W0L _ ho (Obj.isFreed_of_fields (W0w hd _)),(Obj.cls_mapFields ..).trans hc,by rw [W0w hd];simp [rawInt]⟩
 refine W3 (W1k ho hd (by simp) (W3 (Vo ?_)))
 refine W3 (W0O (s:={ s with heap:=s.heap.update it (Obj.mapFields (·.setIfInBounds 1 (rawInt ((i:Int)+1)))) }) hit'.typeIs ?_)
 show wpAny _ _ (pure e.key) _ _ _
 exact Wn (Wn ⟨_,rfl,Wn (q _ hit' (VI ..))⟩)
theorem Cp {Q:Option Value->Shared->Prop}(hh:A.handled=none)(hit:s.heap.IsKeyIter it d es.size es.size ep)(hm:Kn s.heap d es ep)(q:∀h',Heap.ExtBut it s.heap h'->Q none { s with heap:=h' }):wpAny (model prog w) A (pyNext (.ref it)) Q E s:=by
 obtain⟨o,ho,hc,hd⟩:=id hit
 obtain⟨od,hod,hcd,hdd⟩:=id hm
 have hown:W0V "dict_keyiterator" = false:=by decide
 have hx:es[es.size]? = none:=by simp
 unfold pyNext;refine W3 (W0x (Vg (name:=W0 "__next__") hit.typeIs Va (Vv Va hit.typeIs W0l ?_ (W0e _))))
 refine W3 (Wn (W3 (W3 ?_)))
 first|refine W3 (Vw hit.typeIs (Wn (W3 (W1l ho hd ?_))))|refine W3 (VT hit.typeIs (Wn (W3 (W1l ho hd ?_))))
 simp only [hown,VP,if_false]
 show wpAny _ _ (if (Value.ref d == Value.none)=true then _ else _) _ _ s
 rw [if_neg (show ¬((Value.ref d == Value.none)=true) from Wq)];refine W3 (Wn (W3 (W0E hod hdd ?_)))
 rw [if_neg (by simp)]
 refine W3 (Wn (W3 (wpAny_dictEpoch hod hdd ?_)))
 rw [if_neg (by simp)]
 refine Wn ?_
 simp only [show ¬((es.size:Int)<0) from by omega,if_false,VS,hx]
 refine W3 ?_
 first|refine W3 (Vw hit.typeIs (Wn ?_))|refine W3 (VT hit.typeIs (Wn ?_))
 show wpAny _ _ (setField (.ref it) 0 .none >>= _) _ _ s
 refine W3 (W1k ho hd (by simp) ?_)
 show wpAny _ _ (newExc (.type "StopIteration") [] >>= _) _ _ _
 refine W3 ?_
 simp only [newExc,newTuple]
 refine W3 (VR (W3 (m:=firstArgMember _ _) (wpAny_of_eq (a:=Value.none) (by first|rfl|(simp only [firstArgMember];rfl)) (VR ?_ (by size_fits)))) (by size_fits))
 simp only [raiseNew]
 refine W3 (wpAny_handled ?_)
 rw [show A.in1.handled=none from hh];refine W3 (Wn (wpAny_throw ?_))
 refine W3 (wpAny_isInstance (T:="StopIteration") (b:=true) ⟨_,WA _ rfl,rfl⟩ isSubtype_stop ?_)
 exact Wn (q _ (((VI ..).extBut.push _).push _))
end
section
variable {X:Cx} {pins:List (Addr×Obj)} {σ:St} {H:Hp} {s:Shared} {a:Addr}
end
end L2
namespace L2
open PySem PySem.Spec PyProof.Rows
def Itq (a:Addr)(o:Obj):It:=
 ⟨λi H=>∃(kvs:List (List Key×V)) (k:List Key) (v:V),H a=some (.frz o (.dT kvs))/\kvs[i]? = some (k,v),
 λi H x H'=>H'=H/\∀kvs:List (List Key×V),H a=some (.frz o (.dT kvs))->∃k v b,kvs[i]? = some (k,v)/\x = .ref b/\H b=some (.tup (k.map kV)),
 λi H=>∃kvs:List (List Key×V),H a=some (.frz o (.dT kvs))/\i=kvs.length⟩
theorem NB {X:Cx}{pins:List (Addr×Obj)}{σ:St}{H:Hp}{s:Shared}{a:Addr}{o:Obj}{kvs:List (List Key×V)}(I:Inv X pins σ H s)(e:H a=some (.frz o (.dT kvs))){es:Array DictEntry}{ep:Nat}(hd:o.data = .dict es ep) :
  Kn s.heap a es ep/\es.size=kvs.length/\∀(i:Nat) (k:List Key) (v:V),kvs[i]? = some (k,v)->∃(e:DictEntry) (b:Addr),es[i]? = some e/\e.key=Value.ref b/\H b=some (.tup (k.map kV)):=by
 obtain⟨h1,_,_,xs,r,o',es',ep',h2,h3,h4,h5,_⟩:=(show ZK X.prog X.w H s.heap a (.frz o (.dT kvs)) from I.hok a _ e)
 rw [h1] at h2;cases h2;rw [hd] at h4;cases h4;have hl:kvs.length=xs.length:=W06 r
 have hes:es.size=xs.length:=by have:=congrArg V5 h5;simpa using this
 refine⟨⟨o,h1,h3,hd⟩,by omega,λi k v hi=>?_⟩
 have key:∀{l:List (List Key×V)} {m:List (List Key×Addr×Value)},Paired (λ(p:List Key×V) (q:List Key×Addr×Value)=>p.1=q.1/\H q.2.1=some (.tup (p.1.map kV))/\ZO p.2 q.2.2) l m->∀{i:Nat},l[i]? = some (k,v)->∃q,m[i]? = some q/\H q.2.1=some (.tup (k.map kV)):=by
  intro l m h
  induction h with
  |nil=>intro i e;simp at e
  | @cons p q ps qs h t ih=>
   intro i e;cases i with
   |zero=>simp at e;subst e;exact⟨q,rfl,h.2.1⟩
   |succ i=>simpa using ih (by simpa using e)
 obtain⟨q,q1,q2⟩:=key r hi
 have:es.toList[i]? = some (entryOfKey (tupleKind (ZW X.prog X.w)) q):=by rw [h5,WH,q1];rfl
 rw [W0M] at this;exact⟨_,q.2.1,this,rfl,q2⟩
theorem MK {P:Program}{w:World}{K:W4}{tg:Expr}{a it:Addr}{o:Obj}{es:Array DictEntry}{ep:Nat}(hd:o.data = .dict es ep):Turn P w K tg (Itq a o) [it] it (λi h=>h.IsKeyIter it a i es.size ep) where
 mem:=by simp
 obj:=λi h st b hb=>by
  have e:b=it:=by simpa using hb
  subst e;obtain⟨q,e,_,d⟩:=st
  exact⟨q,e,λv z=>by rw [d] at z;cases z⟩
 keep:=λi h h' st k=>st.at λq e=>k it (by simp) q e
 item:=by
  intro X hP hw hK hc i pins s σ H E I hf st hg;subst hP hw hK;obtain⟨kvs,k,v,e,hx⟩:=hg
  obtain⟨hm,hz,hk⟩:=NB I e hd
  obtain⟨en,b,h1,h2,h3⟩:=hk i k v hx
  obtain⟨f0,f1,f2,f3,f4,f5⟩:=hf it (by simp)
  refine LJ st hm h1 λh' st' sb=>?_
  have I1:Inv X pins σ H { s with heap:=h' }:=I.turned (t':=s.toks) (λb q hb e=>(sb.2 b hb).trans e) f0 f1 f3 f4 f5
  obtain⟨q,eq,c,d⟩:=id st'
  refine⟨en.key,rfl,Pn (s:={ s with heap:=h' }) eq c d (by decide) ⟨.ref b,H,I1,by rw [h2];rfl,⟨rfl,λkvs' e'=>?_⟩,st',λb hb=>(hf b hb).1⟩⟩
  rw [e] at e'
  cases e'
  exact⟨k,v,b,hx,rfl,h3⟩
 done:=by
  intro X hP hw hK hc i pins s σ H E I hf st hg;subst hP hw hK;obtain⟨kvs,e,hx⟩:=hg
  obtain⟨hm,hz,hk⟩:=NB I e hd
  obtain⟨f0,f1,f2,f3,f4,f5⟩:=hf it (by simp)
  rw [hx,<-hz] at st;exact Cp (I.ok.hd hc) st hm λh' eb=>⟨rfl,I.turned (t':=s.toks) (λb q hb e=>eb b q hb e) f0 f1 f3 f4 f5⟩
 self:=λ_ _ _ _ _ st h=>wpAny_pyIter_keyiter st h
section
variable {X:Cx} {pins:List (Addr×Obj)} {σ:St} {H:Hp} {s:Shared} {a:Addr} {kvs:List (List Key×V)} {tg:Expr} {E:Value->Shared->Prop} {R:It->Hp->Prop}
theorem M5 {o:Obj}(I:Inv X pins σ H s)(e:H a=some (.frz o (.dT kvs)))(q:R (Itq a o) H):wpAny (model X.prog X.w) X.A (pyIter (.ref a)) (PIE X pins σ tg R) E s:=by
 obtain⟨h1,_,hS,_,_,o',es,ep,h2,_,hd,_⟩:=(show ZK X.prog X.w H s.heap a (.frz o (.dT kvs)) from I.hok a _ e)
 rw [h1] at h2;cases h2;obtain⟨hm,hz,_⟩:=NB I e hd
 refine LK hS hm ?_
 refine⟨s.heap.objs.size,[s.heap.objs.size],_,_,H,rfl,I.kept (t':=s.toks) λb o e=>Wk _ e,MK (a:=a) hd,⟨_,WA _ rfl,rfl,rfl⟩,λb hb=>?_,q⟩
 have eb:b=s.heap.objs.size:=by simpa using hb
 subst eb;exact I.fpOk (Wt _) (I.hok.fresh (Wt _))
theorem Rj (I:Inv X pins σ H s)(e:H a=some (.dT kvs))(q:∀o,(∀o u,X.H₀ a≠some (.frz o u))->R (Itq a o) (upd H a (.frz o (.dT kvs)))):wpAny (model X.prog X.w) X.A (pyIter (.ref a)) (PIE X pins σ tg R) E s:=by
 have ok:ZK X.prog X.w H s.heap a (.dT kvs):=I.hok a _ e
 obtain⟨z,hS,xs,r,o,es,ep,h1,h2⟩:=id ok
 have ok':ZK X.prog X.w (upd H a (.frz o (.dT kvs))) s.heap a (.dT kvs):=ok.stay (λ_ _ _ h=>h) (λc h=>by rw [Zl (Jz h e (λz=>nomatch z))];exact h) λc xs h=>by rw [Zl (Jz h e (λz=>nomatch z))];exact h
 have I':Inv X pins σ (upd H a (.frz o (.dT kvs))) s:=I.view (by rw [e];exact True.intro) ⟨o,h1⟩ ⟨h1,ok'⟩
 exact M5 I' Zb (q o λo u z=>by
  have:=I.base.frzs a o u z
  rw [e] at this;cases this)
end
end L2
namespace HT
open PySem PySem.Spec PyProof.Rows L2
section
variable {prog:Program} {w:World} {A:Around} {E:Value->Shared->Prop} {s:Shared}
end
end HT
namespace L2
open PySem PySem.Spec PyProof.Rows
section
variable {X:Cx}
end
end L2
namespace L2
open PySem PySem.Spec PyProof.Rows
section
variable {prog:Program} {w:World} {A:Around} {d:Value}
end
end L2
namespace L2
open PySem PySem.Spec PyProof.Rows
section
variable {prog:Program} {w:World} {A:Around} {d:Value}
end
end L2
namespace L2
open PySem PySem.Spec PyProof.Rows
section
variable {prog:Program} {w:World} {A:Around} {J:Nat->Heap->Prop}
end
end L2
namespace L2
open PySem PySem.Spec PyProof.Rows
section
variable {prog:Program} {w:World} {B:Around} {K:Type} [DecidableEq K]
end
end L2
namespace L2
open PySem
def pth (t:SetTable)(h:Int):Nat->SetTable.Probe
 |0=>t.probeStart h
 |k+1=>t.advance (pth t h k)
end L2
namespace L2
open PySem
end L2
namespace L2
open PySem
end L2
namespace L2
open PySem
structure Own (t:SetTable) (hs:List Int) (ow:Array (Option Nat)) (c:Nat):Prop where
 sz:ow.size=t.mask+1
 has:∀k,k<c->∃j:Nat,ow[j]? = some (some k)
 inj:∀(j j' k:Nat),ow[j]? = some (some k)->ow[j']? = some (some k)->j=j'
 path:∀(j k:Nat),ow[j]? = some (some k)->k<c/\∃h,hs[k]? = some h/\∃q,(pth t h q).j=j/\∀q',q'<q->∃k',ow[(pth t h q').j]? = some (some k')
end L2
namespace L2
open PySem
end L2
namespace L2
open PySem PySem.Spec PyProof.Rows
section
variable {prog:Program} {w:World} {h0:Heap} {U:Nat} {K:Type} [DecidableEq K] {A:Around} {E:Value->Shared->Prop} {s:Shared}
end
end L2
namespace L2
open PySem PySem.Spec PyProof.Rows
section
variable {prog:Program} {w:World} {h0:Heap} {U:Nat} {K:Type} [DecidableEq K] {A:Around} {E:Value->Shared->Prop} {s:Shared}
end
end L2
namespace L2
open PySem PySem.Spec PyProof.Rows
theorem U4 {α:Type}{l:List α}{k:Nat}(hk:k<l.length):(l[k] :: l.eraseIdx k).Perm l:=by
 rw [List.eraseIdx_eq_take_drop_succ];refine List.perm_middle.symm.trans ?_
 rw [List.getElem_cons_drop hk,List.take_append_drop]
section
variable {prog:Program} {w:World} {A:Around} {E:Value->Shared->Prop} {s:Shared}
end
end L2
namespace L2
open PySem PySem.Spec PyProof.Rows
section
variable {prog:Program} {w:World} {A:Around}
end
end L2
namespace DL
open PySem PySem.Spec PyProof.Rows L2
inductive D where
 |non
 |bl (b:Bool)
 |int (i:Int)
 |str (x:Str)
 |tup (xs:List D)
 |ref (n:Nat)
 |scr (ns:List Int)
 deriving Inhabited
inductive Ob where
 |lst (xs:List D)
 |dct (kvs:List (D×D))
 |fdct (kvs:List (D×D))
 |ins (C:Str) (fs:List (Str×D))
 deriving Inhabited
abbrev Sto:=List Ob
abbrev En:=List (Option D)
abbrev M (α:Type):=En->Sto->Option (α×Sto)
inductive Fl where
 |nx|rt (d:D)|bk|ct
abbrev MS:=En->Sto->Option (Fl×En×Sto)
def FL (K:W4)(H:Hp)(a:Addr)(ns:List Int):Prop:=
 (∃o,H a=some (.frz o (.lst (ns.map V.int))))\/
  ∃(o:Obj) (its:Array Value) (n:Nat),K.lookup a=some o/\o.cls = .type "list"/\o.dict=none/\o.data = .seq its n/\its.size<=Wd/\Y4 (ns.map V.int) its.toList
theorem FL.seq {K:W4}{H:Hp}{a:Addr}{ns:List Int}(h:FL K H a ns):SqL K H a (ns.map V.int):=by
 rcases h with ⟨o,h⟩|h
 ·exact .inl (.inr ⟨o,h⟩)
 ·exact .inr h
mutual
def DR (K:W4)(ρ:List Addr)(H:Hp):D->V->Prop
 | .non,v=>v = .non
 | .bl b,v=>v = .bl b
 | .int i,v=>v = .int i
 | .str x,v=>v = .str x
 | .tup ds,v=>∃a xs,v = .ref a/\H a=some (.tup xs)/\DsR K ρ H ds xs
 | .ref n,v=>∃a,ρ[n]? = some a/\v = .ref a
 | .scr ns,v=>∃a,v = .ref a/\FL K H a ns
def DsR (K:W4)(ρ:List Addr)(H:Hp):List D->List V->Prop
 |[],xs=>xs=[]
 |d :: ds,xs=>∃x r,xs=x :: r/\DR K ρ H d x/\DsR K ρ H ds r
end
structure Ext (ρ:List Addr) (H:Hp) (ρ':List Addr) (H':Hp):Prop where
 pre:∀(n:Nat) a,ρ[n]? = some a->ρ'[n]? = some a
 tup:∀a xs,H a=some (.tup xs)->H' a=some (.tup xs)
 frz:∀a o u,H a=some (.frz o u)->H' a=some (.frz o u)
theorem Ext.refl {ρ:List Addr}{H:Hp}:Ext ρ H ρ H:=⟨λ_ _ h=>h,λ_ _ h=>h,λ_ _ _ h=>h⟩
theorem Ext.trans {ρ ρ1 ρ2:List Addr}{H H1 H2:Hp}(a:Ext ρ H ρ1 H1)(b:Ext ρ1 H1 ρ2 H2):Ext ρ H ρ2 H2:=
 ⟨λn x h=>b.pre n x (a.pre n x h),λx xs h=>b.tup x xs (a.tup x xs h),λx o u h=>b.frz x o u (a.frz x o u h)⟩
theorem Ext.new {ρ:List Addr}{H:Hp}{p:Addr}{o:HO}(hp:H p=none):Ext ρ H ρ (upd H p o):=
 ⟨λ_ _ h=>h,λa xs h=>by rw [Zl (ZF h hp)];exact h,λa u xs h=>by rw [Zl (ZF h hp)];exact h⟩
theorem Ext.newRef {ρ:List Addr}{H:Hp}{p:Addr}{o:HO}(hp:H p=none):Ext ρ H (ρ++[p]) (upd H p o):=
 ⟨λn a h=>by rw [WR (Wj.mp h).1];exact h,(Ext.new (ρ:=ρ) hp).tup,(Ext.new (ρ:=ρ) hp).frz⟩
theorem Ext.upd {ρ:List Addr}{H:Hp}{p:Addr}{o o':HO}(hp:H p=some o)(h1:∀xs,o≠.tup xs)(h2:∀ob u,o≠.frz ob u):Ext ρ H ρ (L2.upd H p o'):=
 ⟨λ_ _ h=>h,λa xs h=>by rw [Zl (Jz h hp (Ne.symm (h1 xs)))];exact h,λa ob u h=>by rw [Zl (Jz h hp (Ne.symm (h2 ob u)))];exact h⟩
structure Ext0 (ρ:List Addr) (H:Hp) (ρ':List Addr) (H':Hp):Prop where
 pre:∀(n:Nat) a,ρ[n]? = some a->ρ'[n]? = some a
 tup:∀a xs,H a=some (.tup xs)->H' a=some (.tup xs)
 lst:∀a o xs,H a=some (.frz o (.lst xs))->H' a=some (.frz o (.lst xs))
theorem Ext.weak {ρ ρ':List Addr}{H H':Hp}(e:Ext ρ H ρ' H'):Ext0 ρ H ρ' H':=⟨e.pre,e.tup,λa o xs h=>e.frz a o _ h⟩
section
variable {K:W4} {ρ ρ':List Addr} {H H':Hp}
theorem FL.mono {a:Addr}{ns:List Int}(e:Ext0 ρ H ρ' H')(h:FL K H a ns):FL K H' a ns:=by
 rcases h with ⟨o,h⟩|h
 ·exact .inl ⟨o,e.lst _ _ _ h⟩
 ·exact .inr h
mutual
theorem DR.mono (e:Ext0 ρ H ρ' H'):∀(d:D) (v:V),DR K ρ H d v->DR K ρ' H' d v
 | .non,v,h=>by unfold DR at h ⊢;exact h
 | .bl b,v,h=>by unfold DR at h ⊢;exact h
 | .int i,v,h=>by unfold DR at h ⊢;exact h
 | .str x,v,h=>by unfold DR at h ⊢;exact h
 | .tup ds,v,h=>by
  unfold DR at h ⊢
  obtain⟨a,xs,h1,h2,h3⟩:=h
  exact⟨a,xs,h1,e.tup a xs h2,DsR.mono e ds xs h3⟩
 | .ref n,v,h=>by
  unfold DR at h ⊢
  obtain⟨a,h1,h2⟩:=h
  exact⟨a,e.pre n a h1,h2⟩
 | .scr ns,v,h=>by
  unfold DR at h ⊢
  obtain⟨a,h1,h2⟩:=h
  exact⟨a,h1,h2.mono e⟩
theorem DsR.mono (e:Ext0 ρ H ρ' H'):∀(ds:List D) (xs:List V),DsR K ρ H ds xs->DsR K ρ' H' ds xs
 |[],xs,h=>by unfold DsR at h ⊢;exact h
 |d :: ds,xs,h=>by
  unfold DsR at h ⊢
  obtain⟨x,r,h1,h2,h3⟩:=h
  exact⟨x,r,h1,DR.mono e d x h2,DsR.mono e ds r h3⟩
end
theorem DR.up {d:D}{v:V}(h:DR K ρ H d v)(e:Ext ρ H ρ' H'):DR K ρ' H' d v:=DR.mono e.weak d v h
theorem DsR.up {ds:List D}{xs:List V}(h:DsR K ρ H ds xs)(e:Ext ρ H ρ' H'):DsR K ρ' H' ds xs:=DsR.mono e.weak ds xs h
theorem DsR.nil:DsR K ρ H [] []:=by unfold DsR;rfl
theorem DsR.cons {d:D}{ds:List D}{x:V}{xs:List V}(h:DR K ρ H d x)(t:DsR K ρ H ds xs):DsR K ρ H (d :: ds) (x :: xs):=by
 unfold DsR;exact⟨x,xs,rfl,h,t⟩
theorem DsR.length:∀{ds:List D} {xs:List V},DsR K ρ H ds xs->ds.length=xs.length
 |[],xs,h=>by unfold DsR at h;subst h;rfl
 |d :: ds,xs,h=>by
  unfold DsR at h;obtain⟨x,r,h1,_,h3⟩:=h
  rw [h1,WP,WP,DsR.length h3]
theorem DsR.get:∀{ds:List D} {xs:List V} {i:Nat} {d:D},DsR K ρ H ds xs->ds[i]? = some d->∃x,xs[i]? = some x/\DR K ρ H d x
 |[],_,_,_,_,e=>by simp at e
 |c :: ds,xs,i,d,h,e=>by
  unfold DsR at h;obtain⟨x,r,h1,h2,h3⟩:=h
  subst h1;cases i with
  |zero=>simp at e;subst e;exact⟨x,rfl,h2⟩
  |succ i=>
   obtain⟨y,e1,e2⟩:=DsR.get (i:=i) h3 (by simpa using e)
   exact⟨y,by simpa using e1,e2⟩
theorem DsR.append:∀{ds es:List D} {xs ys:List V},DsR K ρ H ds xs->DsR K ρ H es ys->DsR K ρ H (ds++es) (xs++ys)
 |[],_,xs,_,h,t=>by unfold DsR at h;subst h;exact t
 |d :: ds,_,xs,_,h,t=>by
  unfold DsR at h;obtain⟨x,r,h1,h2,h3⟩:=h
  subst h1;exact .cons h2 (DsR.append h3 t)
theorem DsR.ints:∀(ns:List Int),DsR K ρ H (ns.map D.int) (ns.map V.int)
 |[]=>.nil
 |n :: ns=>.cons (by unfold DR;rfl) (DsR.ints ns)
theorem DR.flat_int {i:Int}:DR K ρ H (.int i) (.int i):=by unfold DR;rfl
theorem DR.flat_bl {b:Bool}:DR K ρ H (.bl b) (.bl b):=by unfold DR;rfl
theorem DR.flat_str {x:Str}:DR K ρ H (.str x) (.str x):=by unfold DR;rfl
theorem DR.flat_non:DR K ρ H .non .non:=by unfold DR;rfl
theorem DR.of_int {i:Int}{v:V}(h:DR K ρ H (.int i) v):v = .int i:=by unfold DR at h;exact h
theorem DR.of_bl {b:Bool}{v:V}(h:DR K ρ H (.bl b) v):v = .bl b:=by unfold DR at h;exact h
theorem DR.of_str {x:Str}{v:V}(h:DR K ρ H (.str x) v):v = .str x:=by unfold DR at h;exact h
theorem DR.of_non {v:V}(h:DR K ρ H .non v):v = .non:=by unfold DR at h;exact h
theorem DR.of_tup {ds:List D}{v:V}(h:DR K ρ H (.tup ds) v):∃a xs,v = .ref a/\H a=some (.tup xs)/\DsR K ρ H ds xs:=by unfold DR at h;exact h
theorem DR.tup {ds:List D}{a:Addr}{xs:List V}(h:H a=some (.tup xs))(t:DsR K ρ H ds xs):DR K ρ H (.tup ds) (.ref a):=by unfold DR;exact⟨a,xs,rfl,h,t⟩
theorem DR.of_ref {n:Nat}{v:V}(h:DR K ρ H (.ref n) v):∃a,ρ[n]? = some a/\v = .ref a:=by unfold DR at h;exact h
theorem DR.ref {n:Nat}{a:Addr}(h:ρ[n]? = some a):DR K ρ H (.ref n) (.ref a):=by unfold DR;exact⟨a,h,rfl⟩
theorem DR.of_scr {ns:List Int}{v:V}(h:DR K ρ H (.scr ns) v):∃a,v = .ref a/\FL K H a ns:=by unfold DR at h;exact h
end
def QB:D->Option Key
 | .int i=>some (.inl i)
 | .str x=>some (.inr x)
 |_=>none
def Fg:List D->Option (List Key)
 |[]=>some []
 |d :: ds=>(QB d).bind λk=>(Fg ds).map λks=>k :: ks
def YZ:D->Option (List Key)
 | .tup ds=>Fg ds
 |_=>none
def kEq (a b:D):Bool:=match QB a,QB b with
 |some x,some y=>decide (x=y)
 |_,_=>match YZ a,YZ b with
  |some x,some y=>decide (x=y)
  |_,_=>false
def U8 (kvs:List (D×D))(k:D):Option D:=(kvs.find? λp=>kEq p.1 k).map (·.2)
def U6 (kvs:List (D×D))(k v:D):List (D×D):=if (kvs.any λp=>kEq p.1 k)=true then kvs.map (λp=>if kEq p.1 k=true then (p.1,v) else p) else kvs++[(k,v)]
def Yp (kvs:List (D×D))(k:D):Bool:=match QB k with
 |some _=>kvs.all λp=>(QB p.1).isSome
 |none=>match YZ k with
  |some _=>kvs.all λp=>(YZ p.1).isSome
  |none=>false
def QQ (S:Sto)(n:Nat)(k:D):Option (List (D×D)):=match S[n]? with
 |some (.dct kvs)=>if Yp kvs k=true then some kvs else none
 |some (.fdct kvs)=>if (Yp kvs k && !kvs.isEmpty)=true then some kvs else none
 |_=>none
def K9 (S:Sto)(n:Nat):Bool:=match S[n]? with
 |some (.dct _)=>true
 |some (.fdct _)=>true
 |_=>false
def ObR (K:W4)(ρ:List Addr)(H:Hp)(a:Addr):Ob->Prop
 | .lst ds=>∃xs,H a=some (.lst xs)/\DsR K ρ H ds xs
 | .dct kvs=>(∃(ks:List Key) (xs:List V),H a=some (.dK (ks.zip xs))/\ks.length=xs.length/\kvs.map (λp=>QB p.1)=ks.map some/\DsR K ρ H (kvs.map (·.2)) xs)\/
   ∃(ks:List (List Key)) (xs:List V),H a=some (.dT (ks.zip xs))/\ks.length=xs.length/\kvs.map (λp=>YZ p.1)=ks.map some/\DsR K ρ H (kvs.map (·.2)) xs
 | .fdct kvs=>∃(o:Obj),(∃(ks:List Key) (xs:List V),H a=some (.frz o (.dK (ks.zip xs)))/\ks.length=xs.length/\kvs.map (λp=>QB p.1)=ks.map some/\DsR K ρ H (kvs.map (·.2)) xs)\/
   ∃(ks:List (List Key)) (xs:List V),H a=some (.frz o (.dT (ks.zip xs)))/\ks.length=xs.length/\kvs.map (λp=>YZ p.1)=ks.map some/\DsR K ρ H (kvs.map (·.2)) xs
 | .ins C fs=>∃(Ca dx:Addr) (xs:List V),WB K Wx C=some (some (.ref Ca))/\H a=some (.ins Ca dx ((fs.map (·.1)).zip xs))/\DsR K ρ H (fs.map (·.2)) xs
structure StR (K:W4) (ρ:List Addr) (H:Hp) (S:Sto):Prop where
 len:ρ.length=S.length
 inj:∀(i j:Nat) a,ρ[i]? = some a->ρ[j]? = some a->i=j
 ob:∀(n:Nat) ob,S[n]? = some ob->∃a,ρ[n]? = some a/\ObR K ρ H a ob
structure EnR (K:W4) (ρ:List Addr) (H:Hp) (en:En) (σ:L2.St):Prop where
 len:en.length=σ.length
 get:∀(i:Nat) d,en[i]? = some (some d)->∃x,σ[i]? = some (some x)/\DR K ρ H d x
section
variable {K:W4} {ρ ρ':List Addr} {H H':Hp} {S:Sto} {en:En} {σ:L2.St}
theorem ObR.mono {a:Addr}{ob:Ob}(h:ObR K ρ H a ob)(e:Ext0 ρ H ρ' H')(he:H' a=H a):ObR K ρ' H' a ob:=by
 cases ob with
 |lst ds=>
  obtain⟨xs,h1,h2⟩:=h
  exact⟨xs,he.trans h1,DsR.mono e _ _ h2⟩
 |dct kvs=>
  rcases h with ⟨ks,xs,h1,h2,h3,h4⟩|⟨ks,xs,h1,h2,h3,h4⟩
  ·exact .inl ⟨ks,xs,he.trans h1,h2,h3,DsR.mono e _ _ h4⟩
  ·exact .inr ⟨ks,xs,he.trans h1,h2,h3,DsR.mono e _ _ h4⟩
 |fdct kvs=>
  rcases h with ⟨o,⟨ks,xs,h1,h2,h3,h4⟩|⟨ks,xs,h1,h2,h3,h4⟩⟩
  ·exact⟨o,.inl ⟨ks,xs,he.trans h1,h2,h3,DsR.mono e _ _ h4⟩⟩
  ·exact⟨o,.inr ⟨ks,xs,he.trans h1,h2,h3,DsR.mono e _ _ h4⟩⟩
 |ins C fs=>
  obtain⟨Ca,dx,xs,h1,h2,h3⟩:=h
  exact⟨Ca,dx,xs,h1,he.trans h2,DsR.mono e _ _ h3⟩
theorem ObR.there {a:Addr}{ob:Ob}(h:ObR K ρ H a ob):∃o,H a=some o:=by
 cases ob with
 |lst ds=>obtain⟨xs,h1,_⟩:=h;exact⟨_,h1⟩
 |dct kvs=>rcases h with ⟨ks,xs,h1,_⟩|⟨ks,xs,h1,_⟩<;>exact⟨_,h1⟩
 |fdct kvs=>rcases h with ⟨o,⟨ks,xs,h1,_⟩|⟨ks,xs,h1,_⟩⟩<;>exact⟨_,h1⟩
 |ins C fs=>obtain⟨Ca,dx,xs,_,h1,_⟩:=h;exact⟨_,h1⟩
theorem ObR.tracked {a:Addr}{ob:Ob}(h:ObR K ρ H a ob)(hf:∀kvs,ob≠.fdct kvs):∃o,H a=some o/\(∀xs,o≠.tup xs)/\∀ob u,o≠.frz ob u:=by
 cases ob with
 |lst ds=>
  obtain⟨xs,h1,_⟩:=h
  exact⟨_,h1,λ_ z=>(nomatch z),λ_ _ z=>(nomatch z)⟩
 |dct kvs=>
  rcases h with ⟨ks,xs,h1,_⟩|⟨ks,xs,h1,_⟩
  ·exact⟨_,h1,λ_ z=>(nomatch z),λ_ _ z=>(nomatch z)⟩
  ·exact⟨_,h1,λ_ z=>(nomatch z),λ_ _ z=>(nomatch z)⟩
 |fdct kvs=>exact absurd rfl (hf kvs)
 |ins C fs=>
  obtain⟨Ca,dx,xs,_,h1,_⟩:=h
  exact⟨_,h1,λ_ z=>(nomatch z),λ_ _ z=>(nomatch z)⟩
theorem StR.obj (R:StR K ρ H S){n:Nat}{a:Addr}(h:ρ[n]? = some a):∃ob,S[n]? = some ob/\ObR K ρ H a ob:=by
 have hl:n<S.length:=by rw [<-R.len];exact (Wj.mp h).1
 obtain⟨a',h1,h2⟩:=R.ob n S[n] (Wj.mpr ⟨hl,rfl⟩)
 rw [h] at h1;cases h1
 exact⟨S[n],Wj.mpr ⟨hl,rfl⟩,h2⟩
theorem StR.mono (R:StR K ρ H S)(e:Ext0 ρ H ρ H')(he:∀(n:Nat) a,ρ[n]? = some a->H' a=H a):StR K ρ H' S:=
 ⟨R.len,R.inj,λn ob h=>by
  obtain⟨a,h1,h2⟩:=R.ob n ob h
  exact⟨a,h1,h2.mono e (he n a h1)⟩⟩
theorem StR.fresh (R:StR K ρ H S){p:Addr}(hp:H p=none):∀(n:Nat) a,ρ[n]? = some a->a≠p:=λn a h z=>by
 obtain⟨ob,_,h2⟩:=R.obj h
 obtain⟨o,h3⟩:=h2.there
 rw [z,hp] at h3;cases h3
theorem StR.new (R:StR K ρ H S){p:Addr}{o:HO}(hp:H p=none):StR K ρ (upd H p o) S:=
 R.mono (Ext.new hp).weak λn a h=>Zl (R.fresh hp n a h)
theorem StR.push (R:StR K ρ H S){p:Addr}{o:HO}{ob:Ob}(hp:H p=none)(h:ObR K (ρ++[p]) (upd H p o) p ob):StR K (ρ++[p]) (upd H p o) (S++[ob]):=by
 refine⟨by simp [R.len],λi j a h1 h2=>?_,λn ob' e=>?_⟩
 ·have key:∀(i:Nat),(ρ++[p])[i]? = some a->(i<ρ.length/\ρ[i]? = some a)\/(i=ρ.length/\a=p):=λi e=>by
   by_cases hi:i<ρ.length
   ·rw [WR hi] at e;exact .inl ⟨hi,e⟩
   ·rw [WZ (W0g hi)] at e
    have hl:=(Wj.mp e).1
    simp at hl
    have e0:i-ρ.length=0:=by omega
    rw [e0] at e;simp at e
    exact .inr ⟨by omega,e.symm⟩
  rcases key i h1 with ⟨_,q1⟩|⟨q1,r1⟩<;>rcases key j h2 with ⟨_,q2⟩|⟨q2,r2⟩
  ·exact R.inj i j a q1 q2
  ·exact absurd r2 (R.fresh hp i a q1)
  ·exact absurd r1 (R.fresh hp j a q2)
  ·rw [q1,q2]
 ·by_cases hn:n<S.length
  ·rw [WR hn] at e
   obtain⟨a,h1,h2⟩:=R.ob n ob' e
   exact⟨a,by rw [WR (by rw [R.len];exact hn)];exact h1,h2.mono (Ext.newRef hp).weak (Zl (R.fresh hp n a h1))⟩
  ·rw [WZ (W0g hn)] at e
   have hl:=(Wj.mp e).1
   simp at hl
   have e0:n-S.length=0:=by omega
   rw [e0] at e;simp at e
   subst e;refine⟨p,?_,h⟩
   rw [WZ (by rw [R.len];omega),R.len,e0]
   rfl
theorem StR.set0 (R:StR K ρ H S){n:Nat}{p:Addr}{o:HO}{ob:Ob}(hn:ρ[n]? = some p)(X:Ext0 ρ H ρ (upd H p o))(h:ObR K ρ (upd H p o) p ob):StR K ρ (upd H p o) (S.set n ob):=by
 obtain⟨ob0,e0,r0⟩:=R.obj hn
 refine⟨by simpa using R.len,R.inj,λm ob' e=>?_⟩
 by_cases hm:m=n
 ·subst hm
  rw [V6 (Wj.mp e0).1] at e;cases e;exact⟨p,hn,h⟩
 ·rw [WV (Ne.symm hm)] at e
  obtain⟨a,h1,h2⟩:=R.ob m ob' e
  refine⟨a,h1,h2.mono X (Zl ?_)⟩
  rintro rfl
  exact hm (R.inj m n _ h1 hn)
theorem StR.set (R:StR K ρ H S){n:Nat}{p:Addr}{o:HO}{ob:Ob}(hn:ρ[n]? = some p)(hf:∀kvs,S[n]?≠some (.fdct kvs))(h:ObR K ρ (upd H p o) p ob):StR K ρ (upd H p o) (S.set n ob)/\Ext ρ H ρ (upd H p o):=by
 obtain⟨ob0,e0,r0⟩:=R.obj hn
 obtain⟨o0,t1,t2,t3⟩:=r0.tracked λkvs z=>hf kvs (by rw [e0,z])
 have X:Ext ρ H ρ (upd H p o):=Ext.upd t1 t2 t3
 exact⟨R.set0 hn X.weak h,X⟩
theorem StR.thaw (R:StR K ρ H S){n:Nat}{a:Addr}{kvs:List (D×D)}(hn:ρ[n]? = some a)(e:S[n]? = some (.fdct kvs)):∃(o:Obj) (u:HO),H a=some (.frz o u)/\StR K ρ (upd H a u) (S.set n (.dct kvs))/\Ext0 ρ H ρ (upd H a u):=by
 obtain⟨ob,e1,r⟩:=R.obj hn
 rw [e] at e1;cases e1;have XX:∀{o:Obj} {u:HO},H a=some (.frz o u)->(∀xs,u≠.lst xs)->Ext0 ρ H ρ (upd H a u):=λh1 hu=>⟨λ_ _ h=>h,λb ys hb=>by rw [Zl (Jz hb h1 (λz=>nomatch z))];exact hb,λb o' ys hb=>by rw [Zl (Jz hb h1 (λz=>by injection z with _ z2;exact hu _ z2.symm))];exact hb⟩
 rcases r with ⟨o,⟨ks,xs,h1,h2,h3,h4⟩|⟨ks,xs,h1,h2,h3,h4⟩⟩
 ·have X:=XX h1 (λ_ z=>nomatch z)
  exact⟨o,_,h1,R.set0 hn X (.inl ⟨ks,xs,Zb,h2,h3,DsR.mono X _ _ h4⟩),X⟩
 ·have X:=XX h1 (λ_ z=>nomatch z)
  exact⟨o,_,h1,R.set0 hn X (.inr ⟨ks,xs,Zb,h2,h3,DsR.mono X _ _ h4⟩),X⟩
theorem EnR.up0 (E:EnR K ρ H en σ)(e:Ext0 ρ H ρ' H'):EnR K ρ' H' en σ:=⟨E.len,λi d h=>by
 obtain⟨x,h1,h2⟩:=E.get i d h
 exact⟨x,h1,DR.mono e _ _ h2⟩⟩
theorem EnR.up (E:EnR K ρ H en σ)(e:Ext ρ H ρ' H'):EnR K ρ' H' en σ:=⟨E.len,λi d h=>by
 obtain⟨x,h1,h2⟩:=E.get i d h
 exact⟨x,h1,h2.up e⟩⟩
theorem EnR.set (E:EnR K ρ H en σ){i:Nat}{d:D}{x:V}(h:DR K ρ H d x):EnR K ρ H (en.set i (some d)) (σ.set i (some x)):=⟨by simpa using E.len,λj c e=>by
 by_cases hj:j=i
 ·subst hj
  have hl:j<en.length:=by
   have:=(Wj.mp e).1
   simpa using this
  rw [V6 hl] at e;cases e;exact⟨x,by rw [V6 (by rw [<-E.len];exact hl)],h⟩
 ·rw [WV (Ne.symm hj)] at e
  obtain⟨y,h1,h2⟩:=E.get j c e
  exact⟨y,by rw [WV (Ne.symm hj)];exact h1,h2⟩⟩
end
inductive TM (K:W4) (m:M D) (σ:L2.St) (H:Hp) (Q:VK):Prop
 |mk (ρ:List Addr) (en:En) (S:Sto) (v:D) (S':Sto) (E:EnR K ρ H en σ) (R:StR K ρ H S) (e:m en S=some (v,S')) (k:∀x ρ' H',Ext ρ H ρ' H'->StR K ρ' H' S'->DR K ρ' H' v x->Q x H'):TM K m σ H Q
def tM (K:W4)(m:M D):TE:=λσ H Q=>TM K m σ H Q
def tMT (K:W4)(m:M Bool):TT:=λσ H Q=>∃ρ en S b S',EnR K ρ H en σ/\StR K ρ H S/\m en S=some (b,S')/\∀ρ' H',Ext ρ H ρ' H'->StR K ρ' H' S'->Q b H'
inductive TMA (K:W4) (m:M (List D)) (σ:L2.St) (H:Hp) (Q:List V->Hp->Prop):Prop
 |mk (ρ:List Addr) (en:En) (S:Sto) (ds:List D) (S':Sto) (E:EnR K ρ H en σ) (R:StR K ρ H S) (e:m en S=some (ds,S')) (k:∀xs ρ' H',Ext ρ H ρ' H'->StR K ρ' H' S'->DsR K ρ' H' ds xs->Q xs H'):TMA K m σ H Q
def tMA (K:W4)(m:M (List D)):TA:=λσ H Q=>TMA K m σ H Q
def tMQ (K:W4)(m:M (List D)):TE:=λσ H Q=>∃ρ en S ds S',EnR K ρ H en σ/\StR K ρ H S/\m en S=some (ds,S')/\
 ∀a xs ρ' H',Ext ρ H ρ' H'->StR K ρ' H' S'->(SqL K H' a xs\/SqT K H' a xs)->DsR K ρ' H' ds xs->Q (.ref a) H'
def tMS (K:W4)(m:MS):TS:=λD σ H=>∃ρ en S f en' S',EnR K ρ H en σ/\StR K ρ H S/\m en S=some (f,en',S')/\∀ρ' H' σ',Ext ρ H ρ' H'->StR K ρ' H' S'->EnR K ρ' H' en' σ'->
 match f with
 | .nx=>D.nx σ' H'
 | .rt d=>∀x,DR K ρ' H' d x->D.rt x H'
 | .bk=>D.bk σ' H'
 | .ct=>D.ct σ' H'
def rD (K:W4)(g:D->D->Sto->Option (D×Sto)):R2:=λx y H Q=>∃ρ S d1 d2 v S',StR K ρ H S/\DR K ρ H d1 x/\DR K ρ H d2 y/\g d1 d2 S=some (v,S')/\
 ∀z ρ' H',Ext ρ H ρ' H'->StR K ρ' H' S'->DR K ρ' H' v z->Q z H'
def rDs (K:W4)(g:List D->Sto->Option (D×Sto)):List V->Hp->VK->Prop:=λxs H Q=>∃ρ S ds v S',StR K ρ H S/\DsR K ρ H ds xs/\g ds S=some (v,S')/\
 ∀z ρ' H',Ext ρ H ρ' H'->StR K ρ' H' S'->DR K ρ' H' v z->Q z H'
def SE (X:Cx)(e:Expr)(m:M D):Prop:=PE X e (tM X.K m)
def ST (X:Cx)(e:Expr)(m:M Bool):Prop:=PT X e (tMT X.K m)
def SW (X:Cx)(e:Expr)(m:M Bool):Prop:=PW X e (tMT X.K m)
def SA (X:Cx)(es:List Expr)(m:M (List D)):Prop:=PA X es (tMA X.K m)
def SQ (X:Cx)(e:Expr)(m:M (List D)):Prop:=PE X e (tMQ X.K m)
def SS (X:Cx)(st:Stmt)(m:MS):Prop:=PS X st (tMS X.K m)
def SB (X:Cx)(st:List Stmt)(m:MS):Prop:=PSs X st (tMS X.K m)
def OpD (X:Cx)(f:Value->Value->Sem Value)(g:D->D->Sto->Option (D×Sto)):Prop:=OpR X f (rD X.K g)
section
variable {X:Cx} {e a b c:Expr} {es:List Expr} {pos:Pos}
theorem ZQ {t t':TE}(h:PE X e t)(i:∀σ H Q,t' σ H Q->t σ H Q):PE X e t':=λpins s σ H Q I q=>h pins s σ H Q I (i σ H Q q)
theorem Rb {t t':TT}(h:PT X e t)(i:∀σ H Q,t' σ H Q->t σ H Q):PT X e t':=λpins s σ H Q I q=>h pins s σ H Q I (i σ H Q q)
theorem Ig {t t':TT}(h:PW X e t)(i:∀σ H Q,t' σ H Q->t σ H Q):PW X e t':=λwhole pins s σ H Q I q=>h whole pins s σ H Q I (i σ H Q q)
theorem M7 {t t':TA}(h:PA X es t)(i:∀σ H Q,t' σ H Q->t σ H Q):PA X es t':=λp pins s σ H Q I q=>h p pins s σ H Q I (i σ H Q q)
theorem Ui {st:Stmt}{t t':TS}(h:PS X st t)(i:∀D σ H,t' D σ H->t D σ H):PS X st t':=λpins s σ H D I q=>h pins s σ H D I (i D σ H q)
theorem Re {st:List Stmt}{t t':TS}(h:PSs X st t)(i:∀D σ H,t' D σ H->t D σ H):PSs X st t':=λpins s σ H D I q=>h pins s σ H D I (i D σ H q)
theorem JT {f:Value->Value->Sem Value}{r r':R2}(h:OpR X f r)(i:∀x y H Q,r' x y H Q->r x y H Q):OpR X f r':=λpins s σ H x y v u Q I rx ry q=>h pins s σ H x y v u Q I rx ry (i x y H Q q)
def Z3 (i:Nat):M D:=λen S=>(en[i]?.getD none).map λd=>(d,S)
def Zf (d:D):M D:=λ_ S=>some (d,S)
theorem SM {x:Str}(i:Nat)(h:PE X (.Name x pos) (Z0g i)):SE X (.Name x pos) (Z3 i):=by
 refine ZQ h ?_
 rintro σ H Q ⟨ρ,en,S,v,S',E,R,e,k⟩
 have e':en[i]? = some (some v)/\S=S':=by
  unfold Z3 at e;cases q:en[i]? with
  |none=>rw [q] at e;cases e
  |some o=>
   rw [q] at e;cases o with
   |none=>cases e
   |some d=>cases e;exact⟨rfl,rfl⟩
 obtain⟨x,h1,h2⟩:=E.get i v e'.1
 exact⟨x,h1,k x ρ H Ext.refl (e'.2 ▸ R) h2⟩
theorem GZ {d:D}{v:V}(h:PE X e (tC v))(hd:∀ρ H,DR X.K ρ H d v):SE X e (Zf d):=by
 refine ZQ h ?_
 rintro σ H Q ⟨ρ,en,S,v',S',E,R,e,k⟩
 cases e;exact k v ρ H Ext.refl R (hd ρ H)
theorem Zc {i j}:SE X (.Constant (.int i) j pos) (Zf (.int i)):=GZ A3 λ_ _=>.flat_int
theorem QP {i j}:SE X (.Constant (.bool i) j pos) (Zf (.bl i)):=GZ Xx λ_ _=>.flat_bl
theorem Zp {i j}:SE X (.Constant (.str i) j pos) (Zf (.str i)):=GZ Iu λ_ _=>.flat_str
theorem NW {j}:SE X (.Constant .none j pos) (Zf .non):=GZ Iw λ_ _=>.flat_non
theorem KQ {x:Str}{i:Int}(hg:Gl X x)(hm:∃t,X.mg x=some (.int i t))(hd:(x == ("__debug__" : Str))=false:=by decide):SE X (.Name x pos) (Zf (.int i)):=by
 obtain⟨t,hm⟩:=hm
 exact GZ (CD (v:=V.int i) hg hm ⟨t,rfl⟩ hd) λ_ _=>.flat_int
def mOp (g:D->D->Sto->Option (D×Sto))(a b:M D):M D:=λen S=>(a en S).bind λp=>(b en p.2).bind λq=>g p.1 q.1 q.2
theorem Gg {K:W4}{g:D->D->Sto->Option (D×Sto)}{ma mb:M D}{σ:L2.St}{H:Hp}{Q:VK}(h:tM K (mOp g ma mb) σ H Q):tOp (rD K g) (tM K ma) (tM K mb) σ H Q:=by
 obtain⟨ρ,en,S,v,S',E,R,e,k⟩:=h
 unfold mOp at e;obtain⟨p,e1,e⟩:=W2.mp e
 obtain⟨q,e2,e3⟩:=W2.mp e
 refine⟨ρ,en,S,p.1,p.2,E,R,e1,λx ρ1 H1 X1 R1 d1=>⟨ρ1,en,p.2,q.1,q.2,E.up X1,R1,e2,λy ρ2 H2 X2 R2 d2=>⟨ρ2,q.2,p.1,q.1,v,S',R2,d1.up X2,d2,e3,λz ρ3 H3 X3 R3 d3=>?_⟩⟩⟩
 exact k z ρ3 H3 ((X1.trans X2).trans X3) R3 d3
theorem Yw {op:Operator}{g:D->D->Sto->Option (D×Sto)}{ma mb:M D}(ho:OpD X (binaryOp op) g)(ha:SE X a ma)(hb:SE X b mb):SE X (.BinOp a op b pos) (mOp g ma mb):=ZQ (Xv ho ha hb) λ_ _ _=>Gg
theorem B0 {op:CmpOp}{g:D->D->Sto->Option (D×Sto)}{ma mb:M D}(ho:OpD X (compareOp op) g)(ha:SE X a ma)(hb:SE X b mb)(hm:behindInMarks op b=false):SE X (.Compare a [op] [b] pos) (mOp g ma mb):=
 ZQ (CF ho ha hb hm) λ_ _ _=>Gg
def mT (m:M D):M Bool:=λen S=>(m en S).bind λp=>match p.1 with | .bl b=>some (b,p.2)|_=>none
theorem Hc {m:M D}{en:En}{S S':Sto}{b:Bool}(h:mT m en S=some (b,S')):m en S=some (.bl b,S'):=by
 unfold mT at h;obtain⟨p,e1,e2⟩:=W2.mp h
 obtain⟨d,S1⟩:=p
 cases d<;>first|cases e2;exact e1|cases e2
theorem KD {K:W4}{m:M D}{t:TE}(i:∀σ H Q,tM K m σ H Q->t σ H Q){σ:L2.St}{H:Hp}{Q:Bool->Hp->Prop}(h:tMT K (mT m) σ H Q):Sx t σ H Q:=by
 obtain⟨ρ,en,S,b,S',E,R,e,k⟩:=h
 refine i σ H _ ⟨ρ,en,S,.bl b,S',E,R,Hc e,λx ρ' H' X1 R1 d1=>⟨b,d1.of_bl,k ρ' H' X1 R1⟩⟩
theorem Yk {op:CmpOp}{g:D->D->Sto->Option (D×Sto)}{ma mb:M D}(ho:OpD X (compareOp op) g)(ha:SE X a ma)(hb:SE X b mb)(hm:behindInMarks op b=false):ST X (.Compare a [op] [b] pos) (mT (mOp g ma mb)):=
 Rb (Cr ho ha hb hm) λ_ _ _ h=>KD (λ_ _ _=>Gg) h
def US (g g':D->D->Sto->Option (D×Sto))(a b c:M D):M D:=λen S=>(a en S).bind λp=>(b en p.2).bind λq=>(g p.1 q.1 q.2).bind λr=>match r.1 with
 | .bl true=>(c en r.2).bind λw=>g' q.1 w.1 w.2
 | .bl false=>some (.bl false,r.2)
 |_=>none
theorem Kj {K:W4}{g g':D->D->Sto->Option (D×Sto)}{ma mb mc:M D}{σ:L2.St}{H:Hp}{Q:VK}(h:tM K (US g g' ma mb mc) σ H Q):FT (rD K g) (rD K g') (tM K ma) (tM K mb) (tM K mc) σ H Q:=by
 obtain⟨ρ,en,S,v,S',E,R,e,k⟩:=h
 unfold US at e;obtain⟨p,e1,e⟩:=W2.mp e
 obtain⟨q,e2,e⟩:=W2.mp e
 obtain⟨r,e3,e⟩:=W2.mp e
 refine⟨ρ,en,S,p.1,p.2,E,R,e1,λx ρ1 H1 X1 R1 d1=>⟨ρ1,en,p.2,q.1,q.2,E.up X1,R1,e2,λy ρ2 H2 X2 R2 d2=>⟨ρ2,q.2,p.1,q.1,r.1,r.2,R2,d1.up X2,d2,e3,λz ρ3 H3 X3 R3 d3=>?_⟩⟩⟩
 obtain⟨rd,rS⟩:=r
 dsimp only at e d3 R3;cases rd with
 |bl tb=>
  refine⟨tb,d3.of_bl,?_⟩
  cases tb with
  |true=>
   rw [if_pos rfl];dsimp only at e;obtain⟨w,e4,e5⟩:=W2.mp e
   refine⟨ρ3,en,rS,w.1,w.2,((E.up X1).up X2).up X3,R3,e4,λu ρ4 H4 X4 R4 d4=>⟨ρ4,w.2,q.1,w.1,v,S',R4,(d2.up X3).up X4,d4,e5,λt ρ5 H5 X5 R5 d5=>?_⟩⟩
   exact k t ρ5 H5 ((((X1.trans X2).trans X3).trans X4).trans X5) R5 d5
  |false=>
   rw [if_neg Wq];dsimp only at e;cases e;exact k _ ρ3 H3 ((X1.trans X2).trans X3) R3 .flat_bl
 |_=>cases e
theorem NY {op op':CmpOp}{g g':D->D->Sto->Option (D×Sto)}{ma mb mc:M D}(ho:OpD X (compareOp op) g)(ho':OpD X (compareOp op') g')(ha:SE X a ma)(hb:SE X b mb)(hc:SE X c mc)
  (hm:lastMarks [op,op'] [b,c]=false:=by with_unfolding_all rfl):SE X (.Compare a [op,op'] [b,c] pos) (US g g' ma mb mc):=ZQ (LZ ho ho' ha hb hc hm) λ_ _ _=>Kj
def mOr (a b:M Bool):M Bool:=λen S=>(a en S).bind λp=>if p.1 then some (true,p.2) else b en p.2
def RH (a:M Bool):M Bool:=λen S=>(a en S).map λp=>(!p.1,p.2)
theorem CK {K:W4}{ma mb:M Bool}{σ:L2.St}{H:Hp}{Q:Bool->Hp->Prop}(h:tMT K (mOr ma mb) σ H Q):tOr (tMT K ma) (tMT K mb) σ H Q:=by
 obtain⟨ρ,en,S,v,S',E,R,e,k⟩:=h
 unfold mOr at e;obtain⟨p,e1,e⟩:=W2.mp e
 refine⟨ρ,en,S,p.1,p.2,E,R,e1,λρ1 H1 X1 R1=>?_⟩
 by_cases hp:p.1=true
 ·rw [if_pos hp] at e ⊢
  cases e;exact k ρ1 H1 X1 R1
 ·rw [if_neg hp] at e ⊢
  exact⟨ρ1,en,p.2,v,S',E.up X1,R1,e,λρ2 H2 X2 R2=>k ρ2 H2 (X1.trans X2) R2⟩
theorem NP {ma:M Bool}(ha:ST X a ma):SW X (.BoolOp .Or [a] pos) ma:=Ie ha
theorem Lu {Jt:List Expr}{ma mb:M Bool}(ha:ST X a ma)(hb:SW X (.BoolOp .Or (b :: Jt) pos) mb):SW X (.BoolOp .Or (a :: b :: Jt) pos) (mOr ma mb):=Ig (Xs ha hb) λ_ _ _=>CK
theorem OH {m:M Bool}(h:SW X e m):ST X e m:=PW.pt h
theorem UG {ma:M Bool}(ha:ST X a ma):ST X (.UnaryOp .Not a pos) (RH ma):=by
 refine Rb (Ii ha) ?_
 rintro σ H Q ⟨ρ,en,S,v,S',E,R,e,k⟩
 unfold RH at e;obtain⟨p,e1,e2⟩:=Wi.mp e
 cases e2;exact⟨ρ,en,S,p.1,p.2,E,R,e1,λρ1 H1 X1 R1=>k ρ1 H1 X1 R1⟩
def C0:D->Sto->Option Bool
 | .non,_=>some false
 | .bl b,_=>some b
 | .int i,_=>some (i != 0)
 | .str x,_=>if x.length<=Wd then some ((x.length:Int) != 0) else none
 | .tup ds,_=>some (!ds.isEmpty)
 | .ref n,S=>match S[n]? with
  |some (.lst ds)=>some (!ds.isEmpty)
  |some (.dct kvs)=>some (!kvs.isEmpty)
  |some (.fdct kvs)=>some (!kvs.isEmpty)
  |_=>none
 | .scr ns,_=>some (!ns.isEmpty)
theorem KC {K:W4}{ρ:List Addr}{H:Hp}{S:Sto}{d:D}{x:V}{b:Bool}(R:StR K ρ H S)(h:DR K ρ H d x)(e:C0 d S=some b):FK K x H b:=by
 cases d with
 |non=>rw [h.of_non];cases e;exact .inl rfl
 |bl t=>rw [h.of_bl];cases e;exact .inl rfl
 |int i=>rw [h.of_int];cases e;exact .inl rfl
 |str y=>
  rw [h.of_str];dsimp only [C0] at e;split at e
  ·cases e;exact .inl ⟨by assumption,rfl⟩
  ·cases e
 |tup ds=>
  obtain⟨a,xs,rfl,h1,h2⟩:=h.of_tup
  cases e;refine .inl (.inr (.inl ⟨xs,.of h1,?_⟩))
  cases ds<;>cases xs<;>first|rfl|(have:=h2.length;simp at this)
 |ref n=>
  obtain⟨a,h1,rfl⟩:=h.of_ref
  obtain⟨ob,e1,r⟩:=R.obj h1
  dsimp only [C0] at e;rw [e1] at e;cases ob with
  |lst ds=>
   cases e;obtain⟨xs,h2,h3⟩:=r
   refine .inl (.inl ⟨xs,.of h2,?_⟩)
   cases ds<;>cases xs<;>first|rfl|(have:=h3.length;simp at this)
  |dct kvs=>
   cases e;rcases r with ⟨ks,xs,h2,h3,h4,h5⟩|⟨ks,xs,h2,h3,h4,h5⟩
   ·refine .inl (.inr (.inr ⟨_,h2,?_⟩))
    have l1:=congrArg V5 h4
    rw [Wm,Wm] at l1;cases kvs<;>cases ks<;>cases xs<;>simp_all
   ·refine .inr (.inl ⟨a,_,rfl,.inl h2,?_⟩)
    have l1:=congrArg V5 h4
    rw [Wm,Wm] at l1;cases kvs<;>cases ks<;>cases xs<;>simp_all
  |fdct kvs=>
   cases e;rcases r with ⟨o,⟨ks,xs,h2,h3,h4,h5⟩|⟨ks,xs,h2,h3,h4,h5⟩⟩
   ·refine .inr (.inr ⟨a,_,rfl,.inr ⟨o,h2⟩,?_⟩)
    have l1:=congrArg V5 h4
    rw [Wm,Wm] at l1;cases kvs<;>cases ks<;>cases xs<;>simp_all
   ·refine .inr (.inl ⟨a,_,rfl,.inr ⟨o,h2⟩,?_⟩)
    have l1:=congrArg V5 h4
    rw [Wm,Wm] at l1;cases kvs<;>cases ks<;>cases xs<;>simp_all
  |ins C fs=>cases e
 |scr ns=>
  obtain⟨a,rfl,h1⟩:=h.of_scr
  cases e;refine .inl (.inl ⟨_,h1.seq,?_⟩)
  cases ns<;>rfl
theorem CI {Jt:List Expr}{ta tb:TE}(ha:PE X a ta)(hb:PE X (.BoolOp .And (b :: Jt) pos) tb):PE X (.BoolOp .And (a :: b :: Jt) pos) (λσ H Q=>ta σ H λx H1=>∃k,FK X.K x H1 k/\if k=true then tb σ H1 Q else Q x H1):=by
 intro pins s σ H Q I h;refine BoolOp_and (thn (ha pins s σ H _ I h) λv s1 ⟨x,H1,I1,r1,k,t1,q1⟩=>thn (KB pins s1 σ H1 x v (λc H2=>H2=H1/\c=k) I1 r1 ⟨k,t1,rfl,rfl⟩) λc s2 ⟨H2,I2,e1,e2⟩=>?_)
 subst e1 e2;cases c with
 |true=>exact hb pins s2 σ H2 Q I2 q1
 |false=>exact⟨x,H2,I2,r1,q1⟩
def Kx (a b:M D):M D:=λen S=>(a en S).bind λp=>(C0 p.1 p.2).bind λt=>if t then b en p.2 else some (p.1,p.2)
theorem NV {op}{m:M D}(h:SE X a m):SE X (.BoolOp op [a] pos) m:=Iv h
theorem UK {Jt:List Expr}{ma mb:M D}(ha:SE X a ma)(hb:SE X (.BoolOp .And (b :: Jt) pos) mb):SE X (.BoolOp .And (a :: b :: Jt) pos) (Kx ma mb):=by
 refine ZQ (CI ha hb) ?_
 rintro σ H Q ⟨ρ,en,S,v,S',E,R,e,k⟩
 unfold Kx at e;obtain⟨p,e1,e⟩:=W2.mp e
 obtain⟨t,e2,e⟩:=W2.mp e
 refine⟨ρ,en,S,p.1,p.2,E,R,e1,λx ρ1 H1 X1 R1 d1=>⟨t,KC R1 d1 e2,?_⟩⟩
 cases t with
 |true=>
  rw [if_pos rfl] at e ⊢
  exact⟨ρ1,en,p.2,v,S',E.up X1,R1,e,λy ρ2 H2 X2 R2 d2=>k y ρ2 H2 (X1.trans X2) R2 d2⟩
 |false=>
  rw [if_neg Wq] at e ⊢
  cases e;exact k _ ρ1 H1 X1 R1 d1
def Bj (m:M D):M Bool:=λen S=>(m en S).bind λp=>(C0 p.1 p.2).map λb=>(b,p.2)
theorem Yy {m:M D}(h:SE X a m)(he:∀whole,isTrue a X.env whole=(do let v <-whole;standAt a.pos;holding [v] (truthy v)):=by intro _;rfl):ST X a (Bj m):=by
 refine Rb (Ra h he) ?_
 rintro σ H Q ⟨ρ,en,S,v,S',E,R,e,k⟩
 unfold Bj at e;obtain⟨p,e1,e⟩:=W2.mp e
 obtain⟨b,e2,e3⟩:=Wi.mp e
 cases e3;exact⟨ρ,en,S,p.1,p.2,E,R,e1,λx ρ1 H1 X1 R1 d1=>⟨v,KC R1 d1 e2,k ρ1 H1 X1 R1⟩⟩
def Zg:M (List D):=λ_ S=>some ([],S)
def Z1 (a:M D)(r:M (List D)):M (List D):=λen S=>(a en S).bind λp=>(r en p.2).map λq=>(p.1 :: q.1,q.2)
theorem Z4:SA X [] Zg:=by
 refine M7 YD ?_
 rintro σ H Q ⟨ρ,en,S,ds,S',E,R,e,k⟩
 cases e;exact k [] ρ H Ext.refl R .nil
theorem Z0 {ma:M D}{mr:M (List D)}(ha:SE X a ma)(hr:SA X es mr)(hs:Wo (a :: es) X.env=(false,eval a X.env) :: Wo es X.env:=by rfl):SA X (a :: es) (Z1 ma mr):=by
 refine M7 (ZP ha hr hs) ?_
 rintro σ H Q ⟨ρ,en,S,ds,S',E,R,e,k⟩
 unfold Z1 at e;obtain⟨p,e1,e⟩:=W2.mp e
 obtain⟨q,e2,e3⟩:=Wi.mp e
 cases e3;refine⟨ρ,en,S,p.1,p.2,E,R,e1,λx ρ1 H1 X1 R1 d1=>⟨ρ1,en,p.2,q.1,q.2,E.up X1,R1,e2,λxs ρ2 H2 X2 R2 d2=>?_⟩⟩
 exact k (x :: xs) ρ2 H2 (X1.trans X2) R2 (.cons (d1.up X2) d2)
def Ys (m:M (List D)):M D:=λen S=>(m en S).bind λp=>if p.1.length<=Wd then some (.tup p.1,p.2) else none
def Mb (m:M (List D)):M D:=λen S=>(m en S).bind λp=>if p.1.length<=Wd then some (.ref p.2.length,p.2++[.lst p.1]) else none
theorem Zv {k0}{m:M (List D)}(h:SA X es m):SE X (.Tuple es k0 pos) (Ys m):=by
 refine ZQ (Rn h) ?_
 rintro σ H Q ⟨ρ,en,S,v,S',E,R,e,k⟩
 unfold Ys at e;obtain⟨p,e1,e⟩:=W2.mp e
 split at e
 ·cases e
  refine⟨ρ,en,S,p.1,p.2,E,R,e1,λxs ρ1 H1 X1 R1 d1=>⟨by rw [<-d1.length];assumption,λa ha=>?_⟩⟩
  exact k _ ρ1 _ (X1.trans (Ext.new ha)) (R1.new ha) (.tup Zb (d1.up (Ext.new ha)))
 ·cases e
theorem Js {m:M (List D)}(h:SA X es m):SE X (.List es pos) (Mb m):=by
 refine ZQ (Ix h) ?_
 rintro σ H Q ⟨ρ,en,S,v,S',E,R,e,k⟩
 unfold Mb at e;obtain⟨p,e1,e⟩:=W2.mp e
 split at e
 ·cases e
  refine⟨ρ,en,S,p.1,p.2,E,R,e1,λxs ρ1 H1 X1 R1 d1=>⟨by rw [<-d1.length];assumption,λa ha=>?_⟩⟩
  refine k _ (ρ1++[a]) _ (X1.trans (Ext.newRef ha)) (R1.push ha ⟨xs,Zb,d1.up (Ext.newRef ha)⟩) (.ref ?_)
  rw [<-R1.len];simp
 ·cases e
end
end DL
namespace DL
open PySem PySem.Spec PyProof.Rows L2
section
variable {K:W4} {ρ:List Addr} {H:Hp}
theorem Bq {d:D}{k:Key}{x:V}(e:QB d=some k)(h:DR K ρ H d x):x=kV k:=by
 cases d with
 |int i=>cases e;exact h.of_int
 |str z=>cases e;exact h.of_str
 |_=>cases e
theorem RN:∀{ds:List D} {ks:List Key} {xs:List V},Fg ds=some ks->DsR K ρ H ds xs->xs=ks.map kV
 |[],_,xs,e,h=>by
  cases e;unfold DsR at h;exact h
 |d :: ds,ks,xs,e,h=>by
  obtain⟨k,e1,e⟩:=W2.mp e
  obtain⟨ks',e2,e3⟩:=Wi.mp e
  subst e3;unfold DsR at h;obtain⟨x,r,rfl,h1,h2⟩:=h
  rw [W1,Bq e1 h1,RN e2 h2]
theorem Nu {d:D}{ks:List Key}{x:V}(e:YZ d=some ks)(h:DR K ρ H d x):∃b,x = .ref b/\H b=some (.tup (ks.map kV)):=by
 cases d with
 |tup ds=>
  obtain⟨a,xs,rfl,h1,h2⟩:=h.of_tup
  rw [RN e h2] at h1;exact⟨a,rfl,h1⟩
 |_=>cases e
theorem Qz {d:D}{k:Key}(e:QB d=some k):YZ d=none:=by
 cases d<;>first|rfl|cases e
theorem Z02 {a b:D}{x y:Key}(ea:QB a=some x)(eb:QB b=some y):kEq a b=decide (x=y):=by
 unfold kEq;rw [ea,eb]
theorem Dz {a b:D}{x y:List Key}(ea:YZ a=some x)(eb:YZ b=some y):kEq a b=decide (x=y):=by
 have na:QB a=none:=by
  cases h:QB a with
  |none=>rfl
  |some k=>rw [Qz h] at ea;cases ea
 unfold kEq;rw [na,ea,eb]
theorem UF {κ:Type}[DecidableEq κ](f:D->Option κ){k:D}{k':κ}(hk:∀a x,f a=some x->kEq a k=decide (x=k')):∀{kvs:List (D×D)} {ks:List κ} {xs:List V},kvs.map (λp=>f p.1)=ks.map some->DsR K ρ H (kvs.map (·.2)) xs->
  (∀v,U8 kvs k=some v->∃x,Ko (ks.zip xs) k'=some x/\DR K ρ H v x)/\(U8 kvs k=none->Ko (ks.zip xs) k'=none)
 |[],ks,xs,e,h=>by
  cases ks with
  |nil=>exact⟨λv z=>(by cases z),λ_=>rfl⟩
  |cons _ _=>cases e
 |p :: kvs,ks,xs,e,h=>by
  cases ks with
  |nil=>cases e
  |cons k0 ks=>
   rw [W1,W1] at e
   injection e with e1 e2
   rw [W1] at h;unfold DsR at h;obtain⟨x,r,rfl,h1,h2⟩:=h
   have ih:=UF f hk e2 h2
   have hq:=hk p.1 k0 e1
   rw [WC];by_cases hc:k0=k'
   ·have hp:kEq p.1 k=true:=by rw [hq];exact decide_eq_true hc
    have hd:U8 (p :: kvs) k=some p.2:=by simp [U8,Vj,hp]
    rw [hd,Uu (p:=(k0,x)) hc];exact⟨λv z=>by cases z;exact⟨x,rfl,h1⟩,λz=>by cases z⟩
   ·have hp:kEq p.1 k=false:=by rw [hq];exact decide_eq_false hc
    have hd:U8 (p :: kvs) k=U8 kvs k:=by simp [U8,Vj,hp]
    rw [hd,Uv (p:=(k0,x)) hc];exact ih
theorem KH {κ:Type}[DecidableEq κ](f:D->Option κ){k:D}{k':κ}(hk:∀a x,f a=some x->kEq a k=decide (x=k')):∀{kvs:List (D×D)} {ks:List κ} {xs:List V},kvs.map (λp=>f p.1)=ks.map some->ks.length=xs.length->
  (kvs.any λp=>kEq p.1 k)=((ks.zip xs).any λkv=>decide (kv.1=k'))
 |[],ks,xs,e,_=>by
  cases ks with
  |nil=>rfl
  |cons _ _=>cases e
 |p :: kvs,ks,xs,e,hl=>by
  cases ks with
  |nil=>cases e
  |cons k0 ks=>
   cases xs with
   |nil=>cases hl
   |cons x xs=>
    rw [W1,W1] at e
    injection e with e1 e2
    rw [WC,W08,W08,hk p.1 k0 e1,KH f hk e2 (by simpa using hl)]
theorem NO {κ:Type}[DecidableEq κ](f:D->Option κ){k v:D}{k':κ}{y:V}(hk:∀a x,f a=some x->kEq a k=decide (x=k'))(hv:DR K ρ H v y):∀{kvs:List (D×D)} {ks:List κ} {xs:List V},kvs.map (λp=>f p.1)=ks.map some->ks.length=xs.length->DsR K ρ H (kvs.map (·.2)) xs->
  ∃xs',(ks.zip xs).map (λkv=>if kv.1=k' then (kv.1,y) else kv)=ks.zip xs'/\ks.length=xs'.length/\DsR K ρ H ((kvs.map λp=>if kEq p.1 k=true then (p.1,v) else p).map (·.2)) xs'/\((kvs.map λp=>if kEq p.1 k=true then (p.1,v) else p).map λp=>f p.1)=ks.map some
 |[],ks,xs,e,hl,h=>by
  cases ks with
  |nil=>
   cases xs with
   |nil=>exact⟨[],rfl,rfl,.nil,rfl⟩
   |cons _ _=>cases hl
  |cons _ _=>cases e
 |p :: kvs,ks,xs,e,hl,h=>by
  cases ks with
  |nil=>cases e
  |cons k0 ks=>
   cases xs with
   |nil=>cases hl
   |cons x xs=>
    rw [W1,W1] at e
    injection e with e1 e2
    rw [W1] at h;unfold DsR at h;obtain⟨x0,r,hx,h1,h2⟩:=h
    injection hx with hx1 hx2
    subst hx1 hx2;obtain⟨xs',a1,a2,a3,a4⟩:=NO f hk hv e2 (by simpa using hl) h2
    have hq:=hk p.1 k0 e1
    by_cases hc:k0=k'
    ·have hp:kEq p.1 k=true:=by rw [hq];exact decide_eq_true hc
     refine⟨y :: xs',?_,by simp [a2],?_,?_⟩
     ·rw [WC,W1,a1,if_pos hc,WC]
     ·rw [W1,if_pos hp,W1];exact .cons hv a3
     ·rw [W1,if_pos hp,W1,a4,e1,W1]
    ·have hp:¬kEq p.1 k=true:=by rw [hq,decide_eq_false hc];exact Wq
     refine⟨x :: xs',?_,by simp [a2],?_,?_⟩
     ·rw [WC,W1,a1,if_neg hc,WC]
     ·rw [W1,if_neg hp,W1];exact .cons h1 a3
     ·rw [W1,if_neg hp,W1,a4,e1,W1]
theorem BZ {κ:Type}[DecidableEq κ](f:D->Option κ){k v:D}{k':κ}{y:V}(hf:f k=some k')(hk:∀a x,f a=some x->kEq a k=decide (x=k'))(hv:DR K ρ H v y){kvs:List (D×D)}{ks:List κ}{xs:List V}
  (e:kvs.map (λp=>f p.1)=ks.map some) (hl:ks.length=xs.length) (h:DsR K ρ H (kvs.map (·.2)) xs) :
  ∃(ks':List κ) (xs':List V),Tc (ks.zip xs) k' y=ks'.zip xs'/\ks'.length=xs'.length/\(U6 kvs k v).map (λp=>f p.1)=ks'.map some/\DsR K ρ H ((U6 kvs k v).map (·.2)) xs':=by
 unfold Tc U6;rw [KH f hk e hl];by_cases ha:((ks.zip xs).any λkv=>decide (kv.1=k'))=true
 ·rw [if_pos ha,if_pos ha]
  obtain⟨xs',a1,a2,a3,a4⟩:=NO f hk hv e hl h
  exact⟨ks,xs',a1,a2,a4,a3⟩
 ·rw [if_neg ha,if_neg ha]
  refine⟨ks++[k'],xs++[y],?_,by simp [hl],?_,?_⟩
  ·rw [List.zip_append hl];rfl
  ·rw [Vu,Vu,e];simp [hf]
  ·rw [Vu];exact h.append (.cons hv .nil)
theorem OM {k:D}{k':Key}(h:QB k=some k'):∀a x,QB a=some x->kEq a k=decide (x=k'):=λ_ _ e=>Z02 e h
theorem Z06 {k:D}{k':List Key}(h:YZ k=some k'):∀a x,YZ a=some x->kEq a k=decide (x=k'):=λ_ _ e=>Dz e h
theorem Q0 {α:Type}{f:D->Option α}{kvs:List (D×D)}{β:Type}{g:D->Option β}{ks:List β}(e:kvs.map (λp=>g p.1)=ks.map some)(h:(kvs.all λp=>(f p.1).isSome)=true)(hd:∀d x,g d=some x->f d=none):kvs=[]:=by
 cases kvs with
 |nil=>rfl
 |cons p r=>
  cases ks with
  |nil=>cases e
  |cons k ks=>
   rw [W1,W1] at e
   injection e with e1 _
   rw [V7,hd _ _ e1] at h;simp at h
theorem J3 {d:D}{k:List Key}(e:YZ d=some k):QB d=none:=by
 cases d<;>first|rfl|cases e
theorem FB {S:Sto}{n:Nat}{a:Addr}{kvs:List (D×D)}{k:D}{y:V}(R:StR K ρ H S)(ha:ρ[n]? = some a)(e:S[n]? = some (.dct kvs))(hs:Yp kvs k=true)(hk:DR K ρ H k y) :
  (∀v,U8 kvs k=some v->∃x,Ut H a y (some x)/\DR K ρ H v x)/\(U8 kvs k=none->Ut H a y none):=by
 obtain⟨ob,e1,r⟩:=R.obj ha
 rw [e] at e1;cases e1;unfold Yp at hs;cases h1:QB k with
 |some k'=>
  rw [h1] at hs;have ey:=Bq h1 hk
  rcases r with ⟨ks,xs,q1,q2,q3,q4⟩|⟨ks,xs,q1,q2,q3,q4⟩
  ·obtain⟨g1,g2⟩:=UF QB (OM h1) q3 q4
   refine⟨λv hv=>?_,λhv=>?_⟩
   ·obtain⟨x,x1,x2⟩:=g1 v hv
    exact⟨x,.inl (.inl ⟨_,k',.inl q1,ey,x1.symm⟩),x2⟩
   ·exact .inl (.inl ⟨_,k',.inl q1,ey,(g2 hv).symm⟩)
  ·have hn:=Q0 q3 hs (λ_ _=>J3)
   subst hn;cases ks with
   |nil=>exact⟨λv hv=>(by cases hv),λ_=>.inr (.inr ⟨q1,k',ey,rfl⟩)⟩
   |cons _ _=>cases q3
 |none=>
  rw [h1] at hs;cases h2:YZ k with
  |none=>rw [h2] at hs;cases hs
  |some k'=>
   rw [h2] at hs;obtain⟨b,ey,eb⟩:=Nu h2 hk
   rcases r with ⟨ks,xs,q1,q2,q3,q4⟩|⟨ks,xs,q1,q2,q3,q4⟩
   ·have hn:=Q0 q3 hs (λ_ _=>Qz)
    subst hn;cases ks with
    |nil=>exact⟨λv hv=>(by cases hv),λ_=>.inr (.inl ⟨q1,k',b,ey,eb,rfl⟩)⟩
    |cons _ _=>cases q3
   ·obtain⟨g1,g2⟩:=UF YZ (Z06 h2) q3 q4
    refine⟨λv hv=>?_,λhv=>?_⟩
    ·obtain⟨x,x1,x2⟩:=g1 v hv
     exact⟨x,.inl (.inr ⟨_,k',b,.inl q1,ey,eb,x1.symm⟩),x2⟩
    ·exact .inl (.inr ⟨_,k',b,.inl q1,ey,eb,(g2 hv).symm⟩)
theorem NF {S:Sto}{n:Nat}{a:Addr}{kvs:List (D×D)}{k:D}{y:V}(R:StR K ρ H S)(ha:ρ[n]? = some a)(e:QQ S n k=some kvs)(hk:DR K ρ H k y) :
  (∀v,U8 kvs k=some v->∃x,Ut H a y (some x)/\DR K ρ H v x)/\(U8 kvs k=none->Ut H a y none):=by
 unfold QQ at e;split at e
 ·rename_i kvs' hn
  split at e
  ·rename_i hs
   cases e;exact FB R ha hn hs hk
  ·cases e
 ·rename_i kvs' hn
  split at e
  ·rename_i hs
   cases e;obtain⟨ob,e1,r⟩:=R.obj ha
   rw [hn] at e1;cases e1;rw [Ws] at hs;obtain⟨hs,he⟩:=hs
   unfold Yp at hs;obtain⟨o,r⟩:=r
   cases h1:QB k with
   |some k'=>
    rw [h1] at hs;have ey:=Bq h1 hk
    rcases r with ⟨ks,xs,q1,q2,q3,q4⟩|⟨ks,xs,q1,q2,q3,q4⟩
    ·obtain⟨g1,g2⟩:=UF QB (OM h1) q3 q4
     refine⟨λv hv=>?_,λhv=>?_⟩
     ·obtain⟨x,x1,x2⟩:=g1 v hv
      exact⟨x,.inl (.inl ⟨_,k',.inr ⟨o,q1⟩,ey,x1.symm⟩),x2⟩
     ·exact .inl (.inl ⟨_,k',.inr ⟨o,q1⟩,ey,(g2 hv).symm⟩)
    ·rw [Q0 q3 hs (λ_ _=>J3)] at he;cases he
   |none=>
    rw [h1] at hs;cases h2:YZ k with
    |none=>rw [h2] at hs;cases hs
    |some k'=>
     rw [h2] at hs;obtain⟨b,ey,eb⟩:=Nu h2 hk
     rcases r with ⟨ks,xs,q1,q2,q3,q4⟩|⟨ks,xs,q1,q2,q3,q4⟩
     ·rw [Q0 q3 hs (λ_ _=>Qz)] at he;cases he
     ·obtain⟨g1,g2⟩:=UF YZ (Z06 h2) q3 q4
      refine⟨λv hv=>?_,λhv=>?_⟩
      ·obtain⟨x,x1,x2⟩:=g1 v hv
       exact⟨x,.inl (.inr ⟨_,k',b,.inr ⟨o,q1⟩,ey,eb,x1.symm⟩),x2⟩
      ·exact .inl (.inr ⟨_,k',b,.inr ⟨o,q1⟩,ey,eb,(g2 hv).symm⟩)
  ·cases e
 ·cases e
theorem Ef {S:Sto}{n:Nat}{a:Addr}(R:StR K ρ H S)(ha:ρ[n]? = some a)(e:K9 S n=true):IsD H a:=by
 unfold K9 at e;obtain⟨ob,e1,r⟩:=R.obj ha
 rw [e1] at e;cases ob with
 |dct kvs=>
  rcases r with ⟨ks,xs,q,_⟩|⟨ks,xs,q,_⟩
  ·exact .inl ⟨_,.inl q⟩
  ·exact .inr ⟨_,.inl q⟩
 |fdct kvs=>
  rcases r with ⟨o,⟨ks,xs,q,_⟩|⟨ks,xs,q,_⟩⟩
  ·exact .inl ⟨_,.inr ⟨o,q⟩⟩
  ·exact .inr ⟨_,.inr ⟨o,q⟩⟩
 |_=>cases e
theorem HD {S:Sto}{n:Nat}{a:Addr}{kvs:List (D×D)}{k v:D}{y x:V}(R:StR K ρ H S)(ha:ρ[n]? = some a)(e:S[n]? = some (.dct kvs))(hs:Yp kvs k=true)(hl:kvs.length<Wd)(hk:DR K ρ H k y)(hv:DR K ρ H v x) :
  ∃H',HW H a y x H'/\StR K ρ H' (S.set n (.dct (U6 kvs k v)))/\Ext ρ H ρ H':=by
 obtain⟨ob,e1,r⟩:=R.obj ha
 rw [e] at e1;cases e1;unfold Yp at hs;have up:∀{o:HO} {o':HO},H a=some o->(∀xs,o≠.tup xs)->(∀ob u,o≠.frz ob u)->Ext ρ H ρ (upd H a o'):=λh a1 a2=>Ext.upd h a1 a2
 cases h1:QB k with
 |some k'=>
  rw [h1] at hs;have ey:=Bq h1 hk
  rcases r with ⟨ks,xs,q1,q2,q3,q4⟩|⟨ks,xs,q1,q2,q3,q4⟩
  ·obtain⟨ks',xs',z1,z2,z3,z4⟩:=BZ QB h1 (OM h1) hv q3 q2 q4
   have len:(ks.zip xs).length<Wd:=by
    have:=congrArg V5 q3
    rw [Wm,Wm] at this;rw [V4];omega
   have E1:Ext ρ H ρ (upd H a (.dK (Tc (ks.zip xs) k' x))):=up q1 (λ_ z=>nomatch z) λ_ _ z=>nomatch z
   obtain⟨R2,E2⟩:=R.set (hf:=λ_ z=>by rw [e] at z;cases z) (o:=.dK (Tc (ks.zip xs) k' x)) (ob:=.dct (U6 kvs k v)) ha (.inl ⟨ks',xs',by rw [Zb,z1],z2,z3,z4.up E1⟩)
   exact⟨_,.inl (.inl ⟨_,k',q1,ey,len,rfl⟩),R2,E2⟩
  ·have hn:=Q0 q3 hs (λ_ _=>J3)
   subst hn;have E1:Ext ρ H ρ (upd H a (.dK [(k',x)])):=up q1 (λ_ z=>nomatch z) λ_ _ z=>nomatch z
   cases ks with
   |nil=>
    obtain⟨R2,E2⟩:=R.set (hf:=λ_ z=>by rw [e] at z;cases z) (o:=.dK [(k',x)]) (ob:=.dct (U6 [] k v)) ha (.inl ⟨[k'],[x],by rw [Zb];rfl,rfl,by simp [U6,h1],by simp [U6];exact .cons (hv.up E1) .nil⟩)
    exact⟨_,.inr (.inr ⟨q1,k',ey,rfl⟩),R2,E2⟩
   |cons _ _=>cases q3
 |none=>
  rw [h1] at hs;cases h2:YZ k with
  |none=>rw [h2] at hs;cases hs
  |some k'=>
   rw [h2] at hs;obtain⟨b,ey,eb⟩:=Nu h2 hk
   rcases r with ⟨ks,xs,q1,q2,q3,q4⟩|⟨ks,xs,q1,q2,q3,q4⟩
   ·have hn:=Q0 q3 hs (λ_ _=>Qz)
    subst hn;have E1:Ext ρ H ρ (upd H a (.dT [(k',x)])):=up q1 (λ_ z=>nomatch z) λ_ _ z=>nomatch z
    cases ks with
    |nil=>
     obtain⟨R2,E2⟩:=R.set (hf:=λ_ z=>by rw [e] at z;cases z) (o:=.dT [(k',x)]) (ob:=.dct (U6 [] k v)) ha (.inr ⟨[k'],[x],by rw [Zb];rfl,rfl,by simp [U6,h2],by simp [U6];exact .cons (hv.up E1) .nil⟩)
     exact⟨_,.inr (.inl ⟨q1,k',b,ey,eb,rfl⟩),R2,E2⟩
    |cons _ _=>cases q3
   ·obtain⟨ks',xs',z1,z2,z3,z4⟩:=BZ YZ h2 (Z06 h2) hv q3 q2 q4
    have len:(ks.zip xs).length<Wd:=by
     have:=congrArg V5 q3
     rw [Wm,Wm] at this;rw [V4];omega
    have E1:Ext ρ H ρ (upd H a (.dT (Tc (ks.zip xs) k' x))):=up q1 (λ_ z=>nomatch z) λ_ _ z=>nomatch z
    obtain⟨R2,E2⟩:=R.set (hf:=λ_ z=>by rw [e] at z;cases z) (o:=.dT (Tc (ks.zip xs) k' x)) (ob:=.dct (U6 kvs k v)) ha (.inr ⟨ks',xs',by rw [Zb,z1],z2,z3,z4.up E1⟩)
    exact⟨_,.inl (.inr ⟨_,k',b,q1,ey,eb,len,rfl⟩),R2,E2⟩
end
end DL
namespace DL
open PySem PySem.Spec PyProof.Rows L2
mutual
def eqD:D->D->Bool
 | .non,b=>match b with | .non=>true|_=>false
 | .bl a,b=>match b with | .bl c=>a == c | .int c=>(if a then 1 else 0) == c|_=>false
 | .int a,b=>match b with | .bl c=>a == (if c then 1 else 0) | .int c=>a == c|_=>false
 | .str a,b=>match b with | .str c=>a == c|_=>false
 | .tup as,b=>match b with | .tup bs=>eqDs as bs|_=>false
 | .ref _,_=>false
 | .scr _,_=>false
def eqDs:List D->List D->Bool
 |[],b=>match b with|[]=>true|_ :: _=>false
 |a :: as,b=>match b with|[]=>false|b :: bs=>eqD a b&&eqDs as bs
end
def pln:Nat->D->Bool
 |_,.non=>true
 |_,.bl _=>true
 |_,.int _=>true
 |_,.str _=>true
 |0,.tup _=>false
 |n+1,.tup ds=>ds.all (pln n)
 |_,.ref _=>false
 |_,.scr _=>false
theorem GB (as bs:List D):eqD (.tup as) (.tup bs)=eqDs as bs:=by unfold eqD;rfl
theorem J9:∀(as bs:List D),eqDs as bs=((WE (min as.length bs.length)).all (λj=>eqD (as.getD j .non) (bs.getD j .non))&&as.length == bs.length)
 |[],[]=>by simp [eqDs]
 |[],_ :: _=>by simp [eqDs]
 |_ :: _,[]=>by simp [eqDs]
 |a :: as,b :: bs=>by
  unfold eqDs;dsimp only;rw [J9 as bs,WP,WP,Nat.succ_min_succ,List.range_succ_eq_map,V7,W1f];have h1:((as.length+1) == (bs.length+1))=(as.length == bs.length):=by
   rw [W05];simp
  rw [h1,Bool.and_assoc];rfl
mutual
theorem Ql:∀(n:Nat) (d:D),pln n d=true->eqD d d=true
 |_,.non,_=>by unfold eqD;rfl
 |_,.bl b,_=>by unfold eqD;simp
 |_,.int i,_=>by unfold eqD;simp
 |_,.str x,_=>by unfold eqD;simp
 |0,.tup _,h=>by cases h
 |n+1,.tup ds,h=>by unfold eqD;exact eqDs_refl n ds (by unfold pln at h;exact h)
 |n,.ref _,h=>by cases n<;>cases h
 |n,.scr _,h=>by cases n<;>cases h
theorem eqDs_refl:∀(n:Nat) (ds:List D),ds.all (pln n)=true->eqDs ds ds=true
 |_,[],_=>by unfold eqDs;rfl
 |n,d :: ds,h=>by
  rw [V7,Ws] at h;unfold eqDs;dsimp only;rw [Ql n d h.1,eqDs_refl n ds h.2];rfl
end
section
variable {K:W4} {ρ ρ':List Addr} {H:Hp}
mutual
theorem DR.one:∀(n:Nat) (d d':D) (x:V),pln n d=true->pln n d'=true->DR K ρ H d x->DR K ρ' H d' x->d=d'
 |n,d,d',x,p,p',h,h'=>by
  cases d with
  |non=>
   rw [h.of_non] at h'
   cases d' with
   |non=>rfl
   |bl _=>cases h'.of_bl
   |int _=>cases h'.of_int
   |str _=>cases h'.of_str
   |tup _=>obtain⟨_,_,z,_⟩:=h'.of_tup;cases z
   |ref _=>cases n<;>cases p'
   |scr _=>cases n<;>cases p'
  |bl b=>
   rw [h.of_bl] at h'
   cases d' with
   |non=>cases h'.of_non
   |bl _=>cases h'.of_bl;rfl
   |int _=>cases h'.of_int
   |str _=>cases h'.of_str
   |tup _=>obtain⟨_,_,z,_⟩:=h'.of_tup;cases z
   |ref _=>cases n<;>cases p'
   |scr _=>cases n<;>cases p'
  |int b=>
   rw [h.of_int] at h'
   cases d' with
   |non=>cases h'.of_non
   |bl _=>cases h'.of_bl
   |int _=>cases h'.of_int;rfl
   |str _=>cases h'.of_str
   |tup _=>obtain⟨_,_,z,_⟩:=h'.of_tup;cases z
   |ref _=>cases n<;>cases p'
   |scr _=>cases n<;>cases p'
  |str b=>
   rw [h.of_str] at h'
   cases d' with
   |non=>cases h'.of_non
   |bl _=>cases h'.of_bl
   |int _=>cases h'.of_int
   |str _=>cases h'.of_str;rfl
   |tup _=>obtain⟨_,_,z,_⟩:=h'.of_tup;cases z
   |ref _=>cases n<;>cases p'
   |scr _=>cases n<;>cases p'
  |tup ds=>
   obtain⟨a,xs,rfl,h1,h2⟩:=h.of_tup
   cases d' with
   |non=>cases h'.of_non
   |bl _=>cases h'.of_bl
   |int _=>cases h'.of_int
   |str _=>cases h'.of_str
   |tup es=>
    obtain⟨a',xs',z,h3,h4⟩:=h'.of_tup
    cases z;rw [h1] at h3;cases h3;cases n with
    |zero=>cases p
    |succ n=>
     unfold pln at p p';rw [DsR.one n ds es xs p p' h2 h4]
   |ref _=>cases n<;>cases p'
   |scr _=>cases n<;>cases p'
  |ref _=>cases n<;>cases p
  |scr _=>cases n<;>cases p
termination_by n=>(n,0)
theorem DsR.one:∀(n:Nat) (ds ds':List D) (xs:List V),ds.all (pln n)=true->ds'.all (pln n)=true->DsR K ρ H ds xs->DsR K ρ' H ds' xs->ds=ds'
 |n,[],ds',xs,_,_,h,h'=>by
  unfold DsR at h;subst h;cases ds' with
  |nil=>rfl
  |cons _ _=>unfold DsR at h';obtain⟨_,_,z,_⟩:=h';cases z
 |n,d :: ds,ds',xs,p,p',h,h'=>by
  unfold DsR at h;obtain⟨x,r,rfl,h1,h2⟩:=h
  cases ds' with
  |nil=>unfold DsR at h';cases h'
  |cons d' ds'=>
   unfold DsR at h';obtain⟨x',r',z,h3,h4⟩:=h'
   cases z;rw [V7,Ws] at p p'
   rw [DR.one n d d' x p.1 p'.1 h1 h3,DsR.one n ds ds' r p.2 p'.2 h2 h4]
termination_by n ds=>(n,ds.length+1)
end
end
section
variable {X:Cx} {pins:List (Addr×Obj)} {σ:L2.St} {H:Hp} {s:Shared} {ρ:List Addr} (I:Inv X pins σ H s)
theorem QA {A:Around}:A.in1.units=A.units+1:=rfl
include I in
theorem TH:∀(n:Nat) {A:Around} {d1 d2:D} {x y:V} {u v:Value},A.units+n<cLine->pln n d1=true->pln n d2=true->DR X.K ρ H d1 x->DR X.K ρ H d2 y->ZO x u->ZO y v->WY A s u v (eqD d1 d2):=by
 intro n A d1 d2 x y u v hu p1 p2 h1 h2 ru rv;cases d1 with
 |non=>
  rw [h1.of_non] at ru;cases ru;cases d2 with
  |non=>rw [h2.of_non] at rv;cases rv;exact WY.same _
  |bl c=>rw [h2.of_bl] at rv;cases rv;exact WY.none_bool c
  |int c=>rw [h2.of_int] at rv;obtain⟨t',rfl⟩:=rv;exact WY.none_int c t'
  |str c=>rw [h2.of_str] at rv;obtain⟨t',rfl⟩:=rv;exact WY.none_str c t'
  |tup bs=>
   obtain⟨b,ys,rfl,b1,b2⟩:=h2.of_tup
   cases rv;obtain⟨its,_,pl,_⟩:=I.tuple (.of b1)
   exact WY.none_tuple pl (by omega)
  |ref _=>cases n<;>cases p2
  |scr _=>cases n<;>cases p2
 |bl a=>
  rw [h1.of_bl] at ru;cases ru;cases d2 with
  |non=>rw [h2.of_non] at rv;cases rv;exact WY.bool_none a
  |bl c=>rw [h2.of_bl] at rv;cases rv;exact WY.bool_bool a c
  |int c=>rw [h2.of_int] at rv;obtain⟨t',rfl⟩:=rv;exact WY.bool_int a c t'
  |str c=>rw [h2.of_str] at rv;obtain⟨t',rfl⟩:=rv;exact WY.bool_str a c t'
  |tup bs=>
   obtain⟨b,ys,rfl,b1,b2⟩:=h2.of_tup
   cases rv;obtain⟨its,_,pl,_⟩:=I.tuple (.of b1)
   exact WY.bool_tuple a pl (by omega)
  |ref _=>cases n<;>cases p2
  |scr _=>cases n<;>cases p2
 |int a=>
  rw [h1.of_int] at ru;obtain⟨t,rfl⟩:=ru
  cases d2 with
  |non=>rw [h2.of_non] at rv;cases rv;exact WY.int_none a t
  |bl c=>rw [h2.of_bl] at rv;cases rv;exact WY.int_bool a t c
  |int c=>rw [h2.of_int] at rv;obtain⟨t',rfl⟩:=rv;exact WY.int_int a t c t'
  |str c=>rw [h2.of_str] at rv;obtain⟨t',rfl⟩:=rv;exact WY.int_str a t c t'
  |tup bs=>
   obtain⟨b,ys,rfl,b1,b2⟩:=h2.of_tup
   cases rv;obtain⟨its,_,pl,_⟩:=I.tuple (.of b1)
   exact WY.int_tuple a t pl (by omega)
  |ref _=>cases n<;>cases p2
  |scr _=>cases n<;>cases p2
 |str a=>
  rw [h1.of_str] at ru;obtain⟨t,rfl⟩:=ru
  cases d2 with
  |non=>rw [h2.of_non] at rv;cases rv;exact WY.str_none a t
  |bl c=>rw [h2.of_bl] at rv;cases rv;exact WY.str_bool a t c
  |int c=>rw [h2.of_int] at rv;obtain⟨t',rfl⟩:=rv;exact WY.str_int a t c t'
  |str c=>rw [h2.of_str] at rv;obtain⟨t',rfl⟩:=rv;exact WY.str_str a t c t'
  |tup bs=>
   obtain⟨b,ys,rfl,b1,b2⟩:=h2.of_tup
   cases rv;obtain⟨its,_,pl,_⟩:=I.tuple (.of b1)
   exact WY.str_tuple a t pl (by omega)
  |ref _=>cases n<;>cases p2
  |scr _=>cases n<;>cases p2
 |tup as=>
  obtain⟨a,xs,rfl,a1,a2⟩:=h1.of_tup
  cases ru;cases d2 with
  |non=>
   rw [h2.of_non] at rv;cases rv;obtain⟨its,_,pl,_⟩:=I.tuple (.of a1)
   exact WY.tuple_none pl (by omega)
  |bl c=>
   rw [h2.of_bl] at rv;cases rv;obtain⟨its,_,pl,_⟩:=I.tuple (.of a1)
   exact WY.tuple_bool c pl (by omega)
  |int c=>
   rw [h2.of_int] at rv;obtain⟨t',rfl⟩:=rv
   obtain⟨its,_,pl,_⟩:=I.tuple (.of a1)
   exact WY.tuple_int c t' pl (by omega)
  |str c=>
   rw [h2.of_str] at rv;obtain⟨t',rfl⟩:=rv
   obtain⟨its,_,pl,_⟩:=I.tuple (.of a1)
   exact WY.tuple_str c t' pl (by omega)
  |tup bs=>
   obtain⟨b,ys,rfl,b1,b2⟩:=h2.of_tup
   cases rv;cases n with
   |zero=>cases p1
   |succ n=>
    unfold pln at p1 p2;obtain⟨its,r1,pl1,_⟩:=I.tuple (.of a1)
    obtain⟨its2,r2,pl2,_⟩:=I.tuple (.of b1)
    have he:eqD (.tup as) (.tup bs)=((WE (min its.toArray.size its2.toArray.size)).all (λj=>eqD (as.getD j .non) (bs.getD j .non))&&its.toArray.size == its2.toArray.size):=by
     rw [GB,J9,Wp,Wp,<-r1.length,<-r2.length,<-a2.length,<-b2.length]
    have hj:∀j (h1:j<its.toArray.size) (h2:j<its2.toArray.size),WY A.in1 s its.toArray[j] its2.toArray[j] (eqD (as.getD j .non) (bs.getD j .non)):=by
     intro j j1 j2;rw [Wp] at j1 j2;have l1:j<as.length:=by rw [a2.length,r1.length];exact j1
     have l2:j<bs.length:=by rw [b2.length,r2.length];exact j2
     have g1:as[j]? = some (as.getD j .non):=by simp [W0z,Wl l1]
     have g2:bs[j]? = some (bs.getD j .non):=by simp [W0z,Wl l2]
     obtain⟨x,x1,x2⟩:=a2.get g1
     obtain⟨y,y1,y2⟩:=b2.get g2
     obtain⟨u,u1,u2⟩:=r1.get x1
     obtain⟨v,v1,v2⟩:=r2.get y1
     have e1:its.toArray[j]=u:=by rw [Wl j1] at u1;simpa using u1
     have e2:its2.toArray[j]=v:=by rw [Wl j2] at v1;simpa using v1
     rw [e1,e2];exact TH n (by rw [QA];omega) (WN.mp p1 _ (Vc g1)) (WN.mp p2 _ (Vc g2)) x2 y2 u2 v2
    by_cases hab:a=b
    ·subst hab
     have hsame:as=bs:=by
      rw [a1] at b1;cases b1;exact DsR.one n as bs xs p1 p2 a2 b2
     rw [hsame,Ql (n+1) (.tup bs) (by unfold pln;exact p2)]
     exact WY.same _
    ·rw [he]
     exact WY.of_refs hab (V2.tuples pl1 pl2 (by omega) hj)
  |ref _=>cases n<;>cases p2
  |scr _=>cases n<;>cases p2
 |ref _=>cases n<;>cases p1
 |scr _=>cases n<;>cases p1
include I in
theorem Ia:∀(n:Nat) {A:Around} {d1 d2:D} {x y:V} {u v:Value},A.units+n<cLine->pln n d1=true->pln n d2=true->DR X.K ρ H d1 x->DR X.K ρ H d2 y->ZO x u->ZO y v->V2 A s u v (eqD d1 d2):=by
 intro n A d1 d2 x y u v hu p1 p2 h1 h2 ru rv;cases d1 with
 |non=>
  rw [h1.of_non] at ru;cases ru;cases d2 with
  |non=>rw [h2.of_non] at rv;cases rv;exact V2.none_none
  |bl c=>rw [h2.of_bl] at rv;cases rv;exact V2.none_bool c
  |int c=>rw [h2.of_int] at rv;obtain⟨t',rfl⟩:=rv;exact V2.none_int c t'
  |str c=>rw [h2.of_str] at rv;obtain⟨t',rfl⟩:=rv;exact V2.none_str c t'
  |tup bs=>
   obtain⟨b,ys,rfl,b1,b2⟩:=h2.of_tup
   cases rv;obtain⟨its,_,pl,_⟩:=I.tuple (.of b1)
   exact V2.none_tuple pl (by omega)
  |ref _=>cases n<;>cases p2
  |scr _=>cases n<;>cases p2
 |bl a=>
  rw [h1.of_bl] at ru;cases ru;cases d2 with
  |non=>rw [h2.of_non] at rv;cases rv;exact V2.bool_none a
  |bl c=>rw [h2.of_bl] at rv;cases rv;exact V2.bool_bool a c
  |int c=>rw [h2.of_int] at rv;obtain⟨t',rfl⟩:=rv;exact V2.bool_int a c t'
  |str c=>rw [h2.of_str] at rv;obtain⟨t',rfl⟩:=rv;exact V2.bool_str a c t'
  |tup bs=>
   obtain⟨b,ys,rfl,b1,b2⟩:=h2.of_tup
   cases rv;obtain⟨its,_,pl,_⟩:=I.tuple (.of b1)
   exact V2.bool_tuple a pl (by omega)
  |ref _=>cases n<;>cases p2
  |scr _=>cases n<;>cases p2
 |int a=>
  rw [h1.of_int] at ru;obtain⟨t,rfl⟩:=ru
  cases d2 with
  |non=>rw [h2.of_non] at rv;cases rv;exact V2.int_none a t
  |bl c=>rw [h2.of_bl] at rv;cases rv;exact V2.int_bool a t c
  |int c=>rw [h2.of_int] at rv;obtain⟨t',rfl⟩:=rv;exact V2.int_int a t c t'
  |str c=>rw [h2.of_str] at rv;obtain⟨t',rfl⟩:=rv;exact V2.int_str a t c t'
  |tup bs=>
   obtain⟨b,ys,rfl,b1,b2⟩:=h2.of_tup
   cases rv;obtain⟨its,_,pl,_⟩:=I.tuple (.of b1)
   exact V2.int_tuple a t pl (by omega)
  |ref _=>cases n<;>cases p2
  |scr _=>cases n<;>cases p2
 |str a=>
  rw [h1.of_str] at ru;obtain⟨t,rfl⟩:=ru
  cases d2 with
  |non=>rw [h2.of_non] at rv;cases rv;exact V2.str_none a t
  |bl c=>rw [h2.of_bl] at rv;cases rv;exact V2.str_bool a t c
  |int c=>rw [h2.of_int] at rv;obtain⟨t',rfl⟩:=rv;exact V2.str_int a t c t'
  |str c=>rw [h2.of_str] at rv;obtain⟨t',rfl⟩:=rv;exact V2.str_str a t c t'
  |tup bs=>
   obtain⟨b,ys,rfl,b1,b2⟩:=h2.of_tup
   cases rv;obtain⟨its,_,pl,_⟩:=I.tuple (.of b1)
   exact V2.str_tuple a t pl (by omega)
  |ref _=>cases n<;>cases p2
  |scr _=>cases n<;>cases p2
 |tup as=>
  obtain⟨a,xs,rfl,a1,a2⟩:=h1.of_tup
  cases ru;cases d2 with
  |non=>
   rw [h2.of_non] at rv;cases rv;obtain⟨its,_,pl,_⟩:=I.tuple (.of a1)
   exact V2.tuple_none pl (by omega)
  |bl c=>
   rw [h2.of_bl] at rv;cases rv;obtain⟨its,_,pl,_⟩:=I.tuple (.of a1)
   exact V2.tuple_bool c pl (by omega)
  |int c=>
   rw [h2.of_int] at rv;obtain⟨t',rfl⟩:=rv
   obtain⟨its,_,pl,_⟩:=I.tuple (.of a1)
   exact V2.tuple_int c t' pl (by omega)
  |str c=>
   rw [h2.of_str] at rv;obtain⟨t',rfl⟩:=rv
   obtain⟨its,_,pl,_⟩:=I.tuple (.of a1)
   exact V2.tuple_str c t' pl (by omega)
  |tup bs=>
   obtain⟨b,ys,rfl,b1,b2⟩:=h2.of_tup
   cases rv;cases n with
   |zero=>cases p1
   |succ n=>
    unfold pln at p1 p2;obtain⟨its,r1,pl1,_⟩:=I.tuple (.of a1)
    obtain⟨its2,r2,pl2,_⟩:=I.tuple (.of b1)
    have he:eqD (.tup as) (.tup bs)=((WE (min its.toArray.size its2.toArray.size)).all (λj=>eqD (as.getD j .non) (bs.getD j .non))&&its.toArray.size == its2.toArray.size):=by
     rw [GB,J9,Wp,Wp,<-r1.length,<-r2.length,<-a2.length,<-b2.length]
    have hj:∀j (h1:j<its.toArray.size) (h2:j<its2.toArray.size),WY A.in1 s its.toArray[j] its2.toArray[j] (eqD (as.getD j .non) (bs.getD j .non)):=by
     intro j j1 j2;rw [Wp] at j1 j2;have l1:j<as.length:=by rw [a2.length,r1.length];exact j1
     have l2:j<bs.length:=by rw [b2.length,r2.length];exact j2
     have g1:as[j]? = some (as.getD j .non):=by simp [W0z,Wl l1]
     have g2:bs[j]? = some (bs.getD j .non):=by simp [W0z,Wl l2]
     obtain⟨x,x1,x2⟩:=a2.get g1
     obtain⟨y,y1,y2⟩:=b2.get g2
     obtain⟨u,u1,u2⟩:=r1.get x1
     obtain⟨v,v1,v2⟩:=r2.get y1
     have e1:its.toArray[j]=u:=by rw [Wl j1] at u1;simpa using u1
     have e2:its2.toArray[j]=v:=by rw [Wl j2] at v1;simpa using v1
     rw [e1,e2];exact TH I n (by rw [QA];omega) (WN.mp p1 _ (Vc g1)) (WN.mp p2 _ (Vc g2)) x2 y2 u2 v2
    rw [he];exact V2.tuples pl1 pl2 (by omega) hj
  |ref _=>cases n<;>cases p2
  |scr _=>cases n<;>cases p2
 |ref _=>cases n<;>cases p1
 |scr _=>cases n<;>cases p1
include I in
theorem SZ:∀(n:Nat) {A:Around} {d1 d2:D} {x y:V} {u v:Value},A.units+n<cLine->pln n d1=true->pln n d2=true->DR X.K ρ H d1 x->DR X.K ρ H d2 y->ZO x u->ZO y v->WX A s u v (!eqD d1 d2):=by
 intro n A d1 d2 x y u v hu p1 p2 h1 h2 ru rv;cases d1 with
 |non=>
  rw [h1.of_non] at ru;cases ru;cases d2 with
  |non=>rw [h2.of_non] at rv;cases rv;exact WX.none_none
  |bl c=>rw [h2.of_bl] at rv;cases rv;exact WX.none_bool c
  |int c=>rw [h2.of_int] at rv;obtain⟨t',rfl⟩:=rv;exact WX.none_int c t'
  |str c=>rw [h2.of_str] at rv;obtain⟨t',rfl⟩:=rv;exact WX.none_str c t'
  |tup bs=>
   obtain⟨b,ys,rfl,b1,b2⟩:=h2.of_tup
   cases rv;obtain⟨its,_,pl,_⟩:=I.tuple (.of b1)
   exact WX.none_tuple pl (by omega)
  |ref _=>cases n<;>cases p2
  |scr _=>cases n<;>cases p2
 |bl a=>
  rw [h1.of_bl] at ru;cases ru;cases d2 with
  |non=>rw [h2.of_non] at rv;cases rv;exact WX.bool_none a
  |bl c=>rw [h2.of_bl] at rv;cases rv;exact WX.bool_bool a c
  |int c=>rw [h2.of_int] at rv;obtain⟨t',rfl⟩:=rv;exact WX.bool_int a c t'
  |str c=>rw [h2.of_str] at rv;obtain⟨t',rfl⟩:=rv;exact WX.bool_str a c t'
  |tup bs=>
   obtain⟨b,ys,rfl,b1,b2⟩:=h2.of_tup
   cases rv;obtain⟨its,_,pl,_⟩:=I.tuple (.of b1)
   exact WX.bool_tuple a pl (by omega)
  |ref _=>cases n<;>cases p2
  |scr _=>cases n<;>cases p2
 |int a=>
  rw [h1.of_int] at ru;obtain⟨t,rfl⟩:=ru
  cases d2 with
  |non=>rw [h2.of_non] at rv;cases rv;exact WX.int_none a t
  |bl c=>rw [h2.of_bl] at rv;cases rv;exact WX.int_bool a t c
  |int c=>rw [h2.of_int] at rv;obtain⟨t',rfl⟩:=rv;exact WX.int_int a t c t'
  |str c=>rw [h2.of_str] at rv;obtain⟨t',rfl⟩:=rv;exact WX.int_str a t c t'
  |tup bs=>
   obtain⟨b,ys,rfl,b1,b2⟩:=h2.of_tup
   cases rv;obtain⟨its,_,pl,_⟩:=I.tuple (.of b1)
   exact WX.int_tuple a t pl (by omega)
  |ref _=>cases n<;>cases p2
  |scr _=>cases n<;>cases p2
 |str a=>
  rw [h1.of_str] at ru;obtain⟨t,rfl⟩:=ru
  cases d2 with
  |non=>rw [h2.of_non] at rv;cases rv;exact WX.str_none a t
  |bl c=>rw [h2.of_bl] at rv;cases rv;exact WX.str_bool a t c
  |int c=>rw [h2.of_int] at rv;obtain⟨t',rfl⟩:=rv;exact WX.str_int a t c t'
  |str c=>rw [h2.of_str] at rv;obtain⟨t',rfl⟩:=rv;exact WX.str_str a t c t'
  |tup bs=>
   obtain⟨b,ys,rfl,b1,b2⟩:=h2.of_tup
   cases rv;obtain⟨its,_,pl,_⟩:=I.tuple (.of b1)
   exact WX.str_tuple a t pl (by omega)
  |ref _=>cases n<;>cases p2
  |scr _=>cases n<;>cases p2
 |tup as=>
  obtain⟨a,xs,rfl,a1,a2⟩:=h1.of_tup
  cases ru;cases d2 with
  |non=>
   rw [h2.of_non] at rv;cases rv;obtain⟨its,_,pl,_⟩:=I.tuple (.of a1)
   exact WX.tuple_none pl (by omega)
  |bl c=>
   rw [h2.of_bl] at rv;cases rv;obtain⟨its,_,pl,_⟩:=I.tuple (.of a1)
   exact WX.tuple_bool c pl (by omega)
  |int c=>
   rw [h2.of_int] at rv;obtain⟨t',rfl⟩:=rv
   obtain⟨its,_,pl,_⟩:=I.tuple (.of a1)
   exact WX.tuple_int c t' pl (by omega)
  |str c=>
   rw [h2.of_str] at rv;obtain⟨t',rfl⟩:=rv
   obtain⟨its,_,pl,_⟩:=I.tuple (.of a1)
   exact WX.tuple_str c t' pl (by omega)
  |tup bs=>
   obtain⟨b,ys,rfl,b1,b2⟩:=h2.of_tup
   cases rv;cases n with
   |zero=>cases p1
   |succ n=>
    unfold pln at p1 p2;obtain⟨its,r1,pl1,_⟩:=I.tuple (.of a1)
    obtain⟨its2,r2,pl2,_⟩:=I.tuple (.of b1)
    have he:eqD (.tup as) (.tup bs)=((WE (min its.toArray.size its2.toArray.size)).all (λj=>eqD (as.getD j .non) (bs.getD j .non))&&its.toArray.size == its2.toArray.size):=by
     rw [GB,J9,Wp,Wp,<-r1.length,<-r2.length,<-a2.length,<-b2.length]
    have hj:∀j (h1:j<its.toArray.size) (h2:j<its2.toArray.size),WY A.in1 s its.toArray[j] its2.toArray[j] (eqD (as.getD j .non) (bs.getD j .non)):=by
     intro j j1 j2;rw [Wp] at j1 j2;have l1:j<as.length:=by rw [a2.length,r1.length];exact j1
     have l2:j<bs.length:=by rw [b2.length,r2.length];exact j2
     have g1:as[j]? = some (as.getD j .non):=by simp [W0z,Wl l1]
     have g2:bs[j]? = some (bs.getD j .non):=by simp [W0z,Wl l2]
     obtain⟨x,x1,x2⟩:=a2.get g1
     obtain⟨y,y1,y2⟩:=b2.get g2
     obtain⟨u,u1,u2⟩:=r1.get x1
     obtain⟨v,v1,v2⟩:=r2.get y1
     have e1:its.toArray[j]=u:=by rw [Wl j1] at u1;simpa using u1
     have e2:its2.toArray[j]=v:=by rw [Wl j2] at v1;simpa using v1
     rw [e1,e2];exact TH I n (by rw [QA];omega) (WN.mp p1 _ (Vc g1)) (WN.mp p2 _ (Vc g2)) x2 y2 u2 v2
    rw [he];exact WX.tuples pl1 pl2 (by omega) hj
  |ref _=>cases n<;>cases p2
  |scr _=>cases n<;>cases p2
 |ref _=>cases n<;>cases p1
 |scr _=>cases n<;>cases p1
end
end DL
namespace DL
open PySem PySem.Spec PyProof.Rows L2
def HV (A:Around)(s:Shared)(y x:Value)(b:Bool):Prop:=
 ∀(prog:Program) (w:World) (E:Value->Shared->Prop) (Q:Value->Shared->Prop),Q (.bool b) s->wpAny (model prog w) A (compareOp .Lt y x) Q E s
def Nt:List (Bool×Bool)->Bool->Bool
 |[],fin=>fin
 |p :: r,fin=>if p.1=true then Nt r fin else p.2
section
open PySem.SeqAt
open PySem.AutoSeq1 (wpAny_loadPart')
open PySem.MeetsSeq PySem.MeetsSeq2 PySem.MeetsSeq3
def TN (A:Around)(s:Shared)(q:Value×Value)(p:Bool×Bool):Prop:=EqAt A s q.1 q.2 p.1/\(p.1=false->HV A s q.1 q.2 p.2)
theorem ML (l b:Addr)(items items2:Array Value)(n n2:Nat)(dd dd2:Option Addr)(sl sl2:Array (Option Value))(ps:List (Bool×Bool)) :
  Meets (Builtin.«tuple.__lt__» ⟨[.ref l,.ref b],[]⟩)
   (λA R s=>s.heap.get? l=some { cls:=.type "tuple",dict:=dd,data:=.seq items n,slots:=sl }/\s.heap.get? b=some { cls:=.type "tuple",dict:=dd2,data:=.seq items2 n2,slots:=sl2 }/\
    Paired (TN A.in1 s) (items.toList.zip items2.toList) ps/\R (.ok (.ret (.bool (Nt ps (decide (items.size<items2.size)))))) s):=
 .of_wp λprog w A R s h=>by
  obtain⟨hp,g,d,tk,os⟩:=s;obtain⟨hl,hb,hps,h⟩:=h
  have f2:=AutoSeq1.sub_tuple_tuple
  wp_walk using wpAny_loadPart' hl,wpAny_loadPart' hb,wpAny_forIn_list _ (λJt b s'=>b.1=none/\s'=⟨hp,g,d,tk,os⟩/\∃(qs:List (Bool×Bool)),Paired (TN A.in1 ⟨hp,g,d,tk,os⟩) Jt qs/\
   R (.ok (.ret (.bool (Nt qs (decide (items.size<items2.size)))))) ⟨hp,g,d,tk,os⟩) _
  case turn=>
   rintro⟨y,x⟩ Jt b s' ⟨hb',rfl,qs,hq,hR⟩
   cases hq with
   | @cons _ p _ qs' hp1 hq'=>
    obtain⟨he,hlt⟩:=hp1
    refine W3 (he prog w _ _ ?_)
    obtain⟨pe,pl⟩:=p
    unfold Nt at hR;cases pe with
    |true=>
     rw [if_pos rfl] at hR
     wp_walk
     exact⟨rfl,rfl,qs',hq',hR⟩
    |false=>
     rw [if_neg Wq] at hR;have hri:∀(E:Value->Shared->Prop) (Q:Value->Shared->Prop),Q (.bool pl) ⟨hp,g,d,tk,os⟩->wpAny (model prog w) A.in1 (richCompare .Lt y x) Q E ⟨hp,g,d,tk,os⟩:=hlt rfl prog w
     wp_walk using hri
     exact⟨_,rfl,by simpa using hR⟩
  case fin=>
   rintro⟨b1,b2⟩ s' ⟨hb',rfl,qs,hq,hR⟩
   simp only at hb'
   subst hb'
   cases hq;unfold Nt at hR
   wp_walk
   exact⟨_,rfl,by simpa [Builtin.Tuple.tupleCompareSizes] using hR⟩
  case h=>
   exact⟨rfl,rfl,ps,hps,h⟩
theorem HV.tuples {A:Around}{s:Shared}{l b:Addr}{items items2:Array Value}{ps:List (Bool×Bool)}(hl:s.heap.IsTuple l items)(hb:s.heap.IsTuple b items2)(hu:A.units<cLine)(hp:Paired (TN A.in1 s) (items.toList.zip items2.toList) ps) :
  HV A s (.ref l) (.ref b) (Nt ps (decide (items.size<items2.size))):=λprog w E Q h=>by
 obtain⟨⟨cls,dd,data,sl⟩,ho,hc,n,hd⟩:=id hl
 obtain⟨⟨cls2,dd2,data2,sl2⟩,ho2,hc2,n2,hd2⟩:=id hb
 simp only at hc hd hc2 hd2
 subst hc hd hc2 hd2;exact richCompare_meets_room (op:=.Lt) ⟨_,ho,rfl⟩ ⟨_,ho2,rfl⟩ PySem.F.slot_tuple_lt PySem.F.entry_tuple_lt (PySem.F.args_tuple_lt_2 _ _) (ML l b items items2 n n2 dd dd2 sl sl2 ps)
  ⟨ho,ho2,hp,show Value.bool (Nt ps (decide (items.size<items2.size)))≠Value.notImplemented/\Q (.bool (Nt ps (decide (items.size<items2.size)))) s from ⟨(λx=>nomatch x),h⟩⟩ hu
end
mutual
def ltD:D->D->Bool
 | .int a,b=>match b with | .int c=>decide (a<c)|_=>false
 | .str a,b=>match b with | .str c=>decide (a.cps.toList<c.cps.toList)|_=>false
 | .tup as,b=>match b with | .tup bs=>ltDs as bs|_=>false
 | .non,_=>false
 | .bl _,_=>false
 | .ref _,_=>false
 | .scr _,_=>false
def ltDs:List D->List D->Bool
 |[],b=>match b with|[]=>false|_ :: _=>true
 |a :: as,b=>match b with|[]=>false|b :: bs=>if eqD a b=true then ltDs as bs else ltD a b
end
def Q6:Nat->D->D->Bool
 |_,.int _,.int _=>true
 |_,.str _,.str _=>true
 |n+1,.tup as,.tup bs=>(as.zip bs).all λp=>Q6 n p.1 p.2
 |_,_,_=>false
theorem U0 (as bs:List D):ltD (.tup as) (.tup bs)=ltDs as bs:=by unfold ltD;rfl
theorem QY (a b:D)(as bs:List D):ltDs (a :: as) (b :: bs)=if eqD a b=true then ltDs as bs else ltD a b:=by conv=>lhs;unfold ltDs
theorem Gn:∀(as bs:List D),ltDs as bs=Nt ((as.zip bs).map λp=>(eqD p.1 p.2,ltD p.1 p.2)) (decide (as.length<bs.length))
 |[],[]=>by simp [ltDs,Nt]
 |[],_ :: _=>by simp [ltDs,Nt]
 |_ :: _,[]=>by simp [ltDs,Nt]
 |a :: as,b :: bs=>by
  rw [QY,Gn as bs,WC,W1,WP,WP]
  conv=>rhs;unfold Nt
  have:decide (as.length+1<bs.length+1)=decide (as.length<bs.length):=by
   rw [W05];simp
  rw [this]
section
variable {X:Cx} {pins:List (Addr×Obj)} {σ:L2.St} {H:Hp} {s:Shared} {ρ:List Addr} (I:Inv X pins σ H s)
include I in
theorem A8:∀(n:Nat) {A:Around} {d1 d2:D} {x y:V} {u v:Value},A.units+n<cLine->Q6 n d1 d2=true->pln n d1=true->pln n d2=true->DR X.K ρ H d1 x->DR X.K ρ H d2 y->ZO x u->ZO y v->HV A s u v (ltD d1 d2):=by
 intro n
 induction n with
 |zero=>
  intro A d1 d2 x y u v hu hc p1 p2 h1 h2 ru rv;cases d1 with
  |int a=>
   cases d2 with
   |int c=>
    rw [h1.of_int] at ru;rw [h2.of_int] at rv
    obtain⟨t,rfl⟩:=ru;obtain⟨t',rfl⟩:=rv
    exact λprog w E Q h=>lt_int (by unfold ltD at h;exact h)
   |_=>cases hc
  |str a=>
   cases d2 with
   |str c=>
    rw [h1.of_str] at ru;rw [h2.of_str] at rv
    obtain⟨t,rfl⟩:=ru;obtain⟨t',rfl⟩:=rv
    exact λprog w E Q h=>PySem.P.lt_str (by unfold ltD at h;exact h)
   |_=>cases hc
  |tup _=>cases p1
  |_=>cases hc
 |succ n ih=>
  intro A d1 d2 x y u v hu hc p1 p2 h1 h2 ru rv;cases d1 with
  |int a=>
   cases d2 with
   |int c=>
    rw [h1.of_int] at ru;rw [h2.of_int] at rv
    obtain⟨t,rfl⟩:=ru;obtain⟨t',rfl⟩:=rv
    exact λprog w E Q h=>lt_int (by unfold ltD at h;exact h)
   |_=>cases hc
  |str a=>
   cases d2 with
   |str c=>
    rw [h1.of_str] at ru;rw [h2.of_str] at rv
    obtain⟨t,rfl⟩:=ru;obtain⟨t',rfl⟩:=rv
    exact λprog w E Q h=>PySem.P.lt_str (by unfold ltD at h;exact h)
   |_=>cases hc
  |tup as=>
   cases d2 with
   |tup bs=>
    obtain⟨a,xs,rfl,a1,a2⟩:=h1.of_tup
    obtain⟨b,ys,rfl,b1,b2⟩:=h2.of_tup
    cases ru;cases rv;unfold pln at p1 p2;unfold Q6 at hc;obtain⟨its,r1,pl1,_⟩:=I.tuple (.of a1)
    obtain⟨its2,r2,pl2,_⟩:=I.tuple (.of b1)
    have key:∀{as bs:List D} {xs ys:List V} {its its2:List Value},as.all (pln n)=true->bs.all (pln n)=true->((as.zip bs).all λp=>Q6 n p.1 p.2)=true->DsR X.K ρ H as xs->DsR X.K ρ H bs ys->Y4 xs its->Y4 ys its2->
      Paired (TN A.in1 s) (its.zip its2) ((as.zip bs).map λp=>(eqD p.1 p.2,ltD p.1 p.2)):=by
     intro as
     induction as with
     |nil=>
      intro bs xs ys its its2 _ _ _ q1 _ q3 _;unfold DsR at q1;subst q1;cases q3;exact .nil
     |cons d as ih2=>
      intro bs xs ys its its2 z1 z2 z3 q1 q2 q3 q4;unfold DsR at q1;obtain⟨x,r,rfl,h1,h2⟩:=q1
      cases q3 with
      |cons r1 r2=>
       cases bs with
       |nil=>
        unfold DsR at q2;subst q2;cases q4;exact .nil
       |cons e bs=>
        unfold DsR at q2;obtain⟨y,r',rfl,h3,h4⟩:=q2
        cases q4 with
        |cons r3 r4=>
         rw [V7,Ws] at z1 z2;rw [WC,V7,Ws] at z3;rw [WC,WC,W1];refine .cons ⟨TH I n (by rw [QA];omega) z1.1 z2.1 h1 h3 r1 r3,λ_=>ih (by rw [QA];omega) z3.1 z1.1 z2.1 h1 h3 r1 r3⟩ (ih2 z1.2 z2.2 z3.2 h2 h4 r2 r4)
    have hl:=HV.tuples (A:=A) pl1 pl2 (by omega) (key p1 p2 hc a2 b2 r1 r2)
    rw [U0,Gn,a2.length,b2.length,r1.length,r2.length]
    simpa using hl
   |_=>cases hc
  |_=>cases hc
end
end DL
namespace DL
open PySem L2
theorem PB (a b:D)(as bs:List D):eqDs (a :: as) (b :: bs)=(eqD a b&&eqDs as bs):=by conv=>lhs;unfold eqDs
theorem Kh:∀(n:Nat) (a b:D),Q6 n a b=true->Q6 n b a=true:=by
 intro n
 induction n with
 |zero=>
  intro a b h;cases a<;>cases b<;>first|rfl|cases h
 |succ n ih=>
  intro a b h;cases a<;>cases b<;>first|rfl|cases h|skip
  rename_i as bs
  unfold Q6 at h ⊢
  rw [WN] at h ⊢
  intro p hp;refine ih _ _ (h (p.2,p.1) ?_)
  obtain⟨i,hi,e⟩:=W0b.mp hp
  rw [V4] at hi;rw [W0Q] at e;rw [<-e];refine W0b.mpr ⟨i,by rw [V4];omega,?_⟩
  rw [W0Q]
theorem Z09:∀(n:Nat) (a b:D),Q6 n a b=true->eqD a b=true->a=b:=by
 intro n
 induction n with
 |zero=>
  intro a b h e;cases a<;>cases b<;>first|cases h|skip
  ·unfold eqD at e;rw [eq_of_beq e]
  ·unfold eqD at e;rw [eq_of_beq e]
 |succ n ih=>
  intro a b h e;cases a<;>cases b<;>first|cases h|skip
  ·unfold eqD at e;rw [eq_of_beq e]
  ·unfold eqD at e;rw [eq_of_beq e]
  ·rename_i as bs
   unfold Q6 at h;rw [GB] at e
   congr 1
   induction as generalizing bs with
   |nil=>
    cases bs with
    |nil=>rfl
    |cons _ _=>unfold eqDs at e;cases e
   |cons x xs ih2=>
    cases bs with
    |nil=>unfold eqDs at e;cases e
    |cons y ys=>
     rw [PB,Ws] at e;rw [WC,V7,Ws] at h;rw [ih x y h.1 e.1,ih2 ys e.2 h.2]
theorem J0 {n:Nat}{a b:D}(h:Q6 n a b=true)(ha:pln n a=true):(a=b->eqD a b=true)/\(a≠b->eqD a b=false):=by
 refine⟨λe=>?_,λe=>?_⟩
 ·subst e;exact Ql n a ha
 ·cases q:eqD a b
  ·rfl
  ·exact absurd (Z09 n a b h q) e
theorem Nq:∀(n:Nat) (a:D),pln n a=true->ltD a a=false:=by
 intro n
 induction n with
 |zero=>
  intro a h;cases a<;>first|cases h|skip
  ·unfold ltD;rfl
  ·unfold ltD;rfl
  ·unfold ltD;simp
  ·unfold ltD;simp only [decide_eq_false_iff_not];exact List.lt_irrefl _
 |succ n ih=>
  intro a h;cases a<;>first|cases h|skip
  ·unfold ltD;rfl
  ·unfold ltD;rfl
  ·unfold ltD;simp
  ·unfold ltD;simp only [decide_eq_false_iff_not];exact List.lt_irrefl _
  ·rename_i as
   unfold pln at h;rw [U0]
   induction as with
   |nil=>unfold ltDs;rfl
   |cons x xs ih2=>
    rw [V7,Ws] at h;rw [QY,if_pos (Ql n x h.1),ih2 h.2]
theorem Go:∀(n:Nat) (a b:D),Q6 n a b=true->pln n a=true->pln n b=true->a=b\/ltD a b=true\/ltD b a=true:=by
 have hI:∀i j:Int,D.int i=D.int j\/ltD (.int i) (.int j)=true\/ltD (.int j) (.int i)=true:=λi j=>by
  unfold ltD;simp only [decide_eq_true_eq]
  rcases Int.lt_trichotomy i j with h|h|h
  ·exact .inr (.inl h)
  ·exact .inl (by rw [h])
  ·exact .inr (.inr h)
 have hS:∀x y:Str,D.str x=D.str y\/ltD (.str x) (.str y)=true\/ltD (.str y) (.str x)=true:=λx y=>by
  unfold ltD;simp only [decide_eq_true_eq]
  by_cases h1:x.cps.toList<y.cps.toList
  ·exact .inr (.inl h1)
  ·by_cases h2:y.cps.toList<x.cps.toList
   ·exact .inr (.inr h2)
   ·have e:x.cps.toList=y.cps.toList:=List.le_antisymm (List.not_lt.mp h2) (List.not_lt.mp h1)
    refine .inl ?_
    cases x;cases y
    cases Array.toList_inj.mp e
    rfl
 intro n
 induction n with
 |zero=>
  intro a b h ha hb;cases a<;>cases b<;>first|cases h|skip
  ·exact hI _ _
  ·exact hS _ _
 |succ n ih=>
  intro a b h ha hb;cases a<;>cases b<;>first|cases h|skip
  ·exact hI _ _
  ·exact hS _ _
  ·rename_i as bs
   unfold Q6 at h;unfold pln at ha hb;rw [U0,U0,D.tup.injEq]
   induction as generalizing bs with
   |nil=>
    cases bs with
    |nil=>exact .inl rfl
    |cons _ _=>exact .inr (.inl (by unfold ltDs;rfl))
   |cons x xs ih2=>
    cases bs with
    |nil=>exact .inr (.inr (by unfold ltDs;rfl))
    |cons y ys=>
     rw [V7,Ws] at ha hb;rw [WC,V7,Ws] at h;rw [QY,QY];by_cases q:x=y
     ·subst q
      rw [if_pos (Ql n x ha.1),if_pos (Ql n x ha.1)];rcases ih2 ys h.2 ha.2 hb.2 with z|z|z
      ·exact .inl (by rw [z])
      ·exact .inr (.inl z)
      ·exact .inr (.inr z)
     ·rw [(J0 h.1 ha.1).2 q,(J0 (Kh n x y h.1) hb.1).2 (Ne.symm q),if_neg Wq,if_neg Wq]
      rcases ih x y h.1 ha.1 hb.1 with z|z|z
      ·exact absurd z q
      ·exact .inr (.inl z)
      ·exact .inr (.inr z)
theorem A7:∀(n:Nat) (a b c:D),Q6 n a b=true->Q6 n b c=true->Q6 n a c=true->pln n a=true->pln n b=true->pln n c=true->ltD a b=true->ltD b c=true->ltD a c=true:=by
 have hI:∀i j k:Int,ltD (.int i) (.int j)=true->ltD (.int j) (.int k)=true->ltD (.int i) (.int k)=true:=λi j k h1 h2=>by
  unfold ltD at *
  simp only [decide_eq_true_eq] at *
  omega
 have hS:∀i j k:Str,ltD (.str i) (.str j)=true->ltD (.str j) (.str k)=true->ltD (.str i) (.str k)=true:=λi j k h1 h2=>by
  unfold ltD at *
  simp only [decide_eq_true_eq] at *
  exact List.lt_trans h1 h2
 intro n
 induction n with
 |zero=>
  intro a b c h1 h2 h3 ha hb hc l1 l2;cases a<;>cases b<;>first|cases h1|skip
  all_goals cases c<;>first|cases h2|skip
  ·exact hI _ _ _ l1 l2
  ·exact hS _ _ _ l1 l2
 |succ n ih=>
  intro a b c h1 h2 h3 ha hb hc l1 l2;cases a<;>cases b<;>first|cases h1|skip
  all_goals cases c<;>first|cases h2|skip
  ·exact hI _ _ _ l1 l2
  ·exact hS _ _ _ l1 l2
  ·rename_i as bs cs
   unfold Q6 at h1 h2 h3;unfold pln at ha hb hc;rw [U0] at l1 l2 ⊢
   induction as generalizing bs cs with
   |nil=>
    cases bs with
    |nil=>unfold ltDs at l1;cases l1
    |cons _ _=>
     cases cs with
     |nil=>unfold ltDs at l2;cases l2
     |cons _ _=>unfold ltDs;rfl
   |cons x xs ih2=>
    cases bs with
    |nil=>unfold ltDs at l1;cases l1
    |cons y ys=>
     cases cs with
     |nil=>unfold ltDs at l2;cases l2
     |cons z zs=>
      rw [V7,Ws] at ha hb hc;rw [WC,V7,Ws] at h1 h2 h3;rw [QY] at l1 l2 ⊢
      by_cases q1:x=y
      ·subst q1
       rw [if_pos (Ql n x ha.1)] at l1;by_cases q2:x=z
       ·subst q2
        rw [if_pos (Ql n x ha.1)] at l2 ⊢
        exact ih2 ys l1 zs l2 h1.2 h2.2 h3.2 ha.2 hb.2 hc.2
       ·rw [(J0 h2.1 hb.1).2 q2,if_neg Wq] at l2
        rw [(J0 h3.1 ha.1).2 q2,if_neg Wq];exact l2
      ·rw [(J0 h1.1 ha.1).2 q1,if_neg Wq] at l1
       by_cases q2:y=z
       ·subst q2
        rw [(J0 h3.1 ha.1).2 q1,if_neg Wq];exact l1
       ·rw [(J0 h2.1 hb.1).2 q2,if_neg Wq] at l2
        have l3:=ih x y z h1.1 h2.1 h3.1 ha.1 hb.1 hc.1 l1 l2
        have q3:x≠z:=λe=>by
         subst e;rw [Nq n x ha.1] at l3;cases l3
        rw [(J0 h3.1 ha.1).2 q3,if_neg Wq];exact l3
def Qf (n:Nat)(ds:List D):Prop:=(∀a∈ds,pln n a=true)/\∀a∈ds,∀b∈ds,Q6 n a b=true
theorem Qf.as {n:Nat}{ds:List D}(h:Qf n ds){a b:D}(ha:a∈ds)(hb:b∈ds)(l:ltD a b=true):ltD b a=false:=by
 cases q:ltD b a
 ·rfl
 ·have:=A7 n a b a (h.2 a ha b hb) (h.2 b hb a ha) (h.2 a ha a ha) (h.1 a ha) (h.1 b hb) (h.1 a ha) l q
  rw [Nq n a (h.1 a ha)] at this;cases this
theorem Qf.le_tr {n:Nat}{ds:List D}(h:Qf n ds){a b c:D}(ha:a∈ds)(hb:b∈ds)(hc:c∈ds)(l1:ltD b a=false)(l2:ltD c b=false):ltD c a=false:=by
 rcases Go n a b (h.2 a ha b hb) (h.1 a ha) (h.1 b hb) with z|z|z
 ·subst z;exact l2
 ·rcases Go n b c (h.2 b hb c hc) (h.1 b hb) (h.1 c hc) with y|y|y
  ·subst y;exact l1
  ·exact h.as ha hc (A7 n a b c (h.2 a ha b hb) (h.2 b hb c hc) (h.2 a ha c hc) (h.1 a ha) (h.1 b hb) (h.1 c hc) z y)
  ·rw [l2] at y;cases y
 ·rw [l1] at z;cases z
theorem Qf.anti {n:Nat}{ds:List D}(h:Qf n ds){a b:D}(ha:a∈ds)(hb:b∈ds)(l1:ltD b a=false)(l2:ltD a b=false):a=b:=by
 rcases Go n a b (h.2 a ha b hb) (h.1 a ha) (h.1 b hb) with z|z|z
 ·exact z
 ·rw [l2] at z;cases z
 ·rw [l1] at z;cases z
def Sa (x:D):List D->List D
 |[]=>[x]
 |y :: r=>if ltD y x=true then y :: Sa x r else x :: y :: r
def JO:List D->List D
 |[]=>[]
 |x :: r=>Sa x (JO r)
theorem Gz (x:D):∀l:List D,(Sa x l).Perm (x :: l)
 |[]=>.refl _
 |y :: r=>by
  unfold Sa;split
  ·exact ((Gz x r).cons y).trans (.swap x y r)
  ·exact .refl _
theorem Qw:∀l:List D,(JO l).Perm l
 |[]=>.refl _
 |x :: r=>(Gz x (JO r)).trans ((Qw r).cons x)
abbrev leD (a b:D):Prop:=ltD b a=false
theorem Ty {n:Nat}{ds:List D}(h:Qf n ds){x:D}(hx:x∈ds):∀{l:List D},(∀a∈l,a∈ds)->l.Pairwise leD->(Sa x l).Pairwise leD
 |[],_,_=>List.pairwise_singleton _ _
 |y :: r,hm,hs=>by
  rw [W01] at hs;have hy:=hm y Wv
  unfold Sa;split
  ·rename_i c
   rw [W01];refine⟨λa ha=>?_,Ty h hx (λa ha=>hm a (Wu _ ha)) hs.2⟩
   rcases Wr.mp ((Gz x r).mem_iff.mp ha) with z|z
   ·subst z;exact h.as hy hx c
   ·exact hs.1 a z
  ·rename_i c
   have c':ltD y x=false:=by simpa using c
   rw [W01,W01];refine⟨λa ha=>?_,hs⟩
   rcases Wr.mp ha with z|z
   ·subst z;exact c'
   ·exact h.le_tr hx hy (hm a ha) c' (hs.1 a z)
theorem Jl {n:Nat}{ds:List D}(h:Qf n ds):∀{l:List D},(∀a∈l,a∈ds)->(JO l).Pairwise leD
 |[],_=>.nil
 |x :: r,hm=>Ty h (hm x Wv) (λa ha=>hm a (Wu _ ((Qw r).mem_iff.mp ha))) (Jl h λa ha=>hm a (Wu _ ha))
theorem N0 {n:Nat}{ds out:List D}(h:Qf n ds)(hp:out.Perm ds)(hs:out.Pairwise leD):out=JO ds:=
 List.Perm.eq_of_pairwise (le:=leD) (λa b ha hb l1 l2=>h.anti (hp.mem_iff.mp ha) ((Qw ds).mem_iff.mp hb) l1 l2) hs (Jl h λ_ z=>z) (hp.trans (Qw ds).symm)
end DL
namespace DL
open PySem PySem.Spec PyProof.Rows L2
section
variable {X:Cx} {e a b c:Expr} {es:List Expr} {pos:Pos} {st:Stmt} {Jt:List Stmt}
def mNx:MS:=λen S=>some (.nx,en,S)
def Yg (a b:MS):MS:=λen S=>(a en S).bind λp=>match p.1 with | .nx=>b p.2.1 p.2.2|f=>some (f,p.2.1,p.2.2)
theorem YN:SB X [] mNx:=by
 refine Re Cs ?_
 rintro D σ H ⟨ρ,en,S,f,en',S',E,R,e,k⟩
 cases e;exact k ρ H σ Ext.refl R E
theorem Zj {m:MS}(h:SS X st m):SB X [st] m:=Rc h
theorem Z9 {m n:MS}(h:SS X st m)(t:SB X Jt n):SB X (st :: Jt) (Yg m n):=by
 refine Re (LR h t) ?_
 rintro D σ H ⟨ρ,en,S,f,en',S',E,R,e,k⟩
 unfold Yg at e;obtain⟨p,e1,e⟩:=W2.mp e
 obtain⟨fa,en1,S1⟩:=p
 refine⟨ρ,en,S,fa,en1,S1,E,R,e1,λρ1 H1 σ1 X1 R1 E1=>?_⟩
 cases fa with
 |nx=>exact⟨ρ1,en1,S1,f,en',S',E1,R1,e,λρ2 H2 σ2 X2 R2 E2=>k ρ2 H2 σ2 (X1.trans X2) R2 E2⟩
 |rt d=>cases e;exact k ρ1 H1 σ1 X1 R1 E1
 |bk=>cases e;exact k ρ1 H1 σ1 X1 R1 E1
 |ct=>cases e;exact k ρ1 H1 σ1 X1 R1 E1
def QX (m:M D):MS:=λen S=>(m en S).map λp=>(.rt p.1,en,p.2)
theorem ZY {m:M D}(h:SE X e m):SS X (.Return (some e) pos) (QX m):=by
 refine Ui (Ij h) ?_
 rintro D σ H ⟨ρ,en,S,f,en',S',E,R,e,k⟩
 unfold QX at e;obtain⟨p,e1,e2⟩:=Wi.mp e
 cases e2;exact⟨ρ,en,S,p.1,p.2,E,R,e1,λx ρ1 H1 X1 R1 d1=>k ρ1 H1 σ X1 R1 (E.up X1) x d1⟩
def Qy (m:M D):MS:=λen S=>(m en S).map λp=>(.nx,en,p.2)
theorem Yu {m:M D}(h:SE X e m)(hs:swapsWith e none pos.line X.env=pure false:=by rfl):SS X (.Expr e pos) (Qy m):=by
 refine Ui (Cw h hs) ?_
 rintro D σ H ⟨ρ,en,S,f,en',S',E,R,e,k⟩
 unfold Qy at e;obtain⟨p,e1,e2⟩:=Wi.mp e
 cases e2;exact⟨ρ,en,S,p.1,p.2,E,R,e1,λx ρ1 H1 X1 R1 d1=>k ρ1 H1 σ X1 R1 (E.up X1)⟩
def Uk (c:M Bool)(a b:MS):MS:=λen S=>(c en S).bind λp=>if p.1 then a en p.2 else b en p.2
theorem Qi {c:Expr}{A B:List Stmt}{mc:M Bool}{ma mb:MS}(hc:ST X c mc)(ha:SB X A ma)(hb:SB X B mb):SS X (.If c A B pos) (Uk mc ma mb):=by
 refine Ui (Xt hc ha hb) ?_
 rintro D σ H ⟨ρ,en,S,f,en',S',E,R,e,k⟩
 unfold Uk at e;obtain⟨p,e1,e⟩:=W2.mp e
 refine⟨ρ,en,S,p.1,p.2,E,R,e1,λρ1 H1 X1 R1=>?_⟩
 by_cases hp:p.1=true
 ·rw [if_pos hp] at e ⊢
  exact⟨ρ1,en,p.2,f,en',S',E.up X1,R1,e,λρ2 H2 σ2 X2 R2 E2=>k ρ2 H2 σ2 (X1.trans X2) R2 E2⟩
 ·rw [if_neg hp] at e ⊢
  exact⟨ρ1,en,p.2,f,en',S',E.up X1,R1,e,λρ2 H2 σ2 X2 R2 E2=>k ρ2 H2 σ2 (X1.trans X2) R2 E2⟩
def GD (K:W4)(g:TG)(gd:D->En->Option En):Prop:=
 ∀ρ H en σ d v en',EnR K ρ H en σ->DR K ρ H d v->gd d en=some en'->∃σ',EnR K ρ H en' σ'/\∀Q:L2.St->Hp->Prop,Q σ' H->g v σ H Q
def GsD (K:W4)(g:TGs)(gd:List D->En->Option En):Prop:=
 ∀ρ H en σ ds vs en',EnR K ρ H en σ->DsR K ρ H ds vs->gd ds en=some en'->∃σ',EnR K ρ H en' σ'/\∀Q:L2.St->Hp->Prop,Q σ' H->g vs σ H Q
def gN (i:Nat):D->En->Option En:=λd en=>some (en.set i (some d))
def NA:List D->En->Option En:=λds en=>match ds with|[]=>some en|_=>none
def Yh (g:D->En->Option En)(r:List D->En->Option En):List D->En->Option En:=λds en=>match ds with|[]=>none|d :: ds=>(g d en).bind (r ds)
def gT (n:Nat)(gs:List D->En->Option En):D->En->Option En:=λd en=>match d with | .tup ds=>if ds.length=n then gs ds en else none|_=>none
theorem Ym {K:W4}{i:Nat}:GD K (Kc i) (gN i):=by
 intro ρ H en σ d v en' E h e
 cases e;exact⟨_,E.set h,λQ q=>q⟩
theorem Pl {K:W4}:GsD K O0 NA:=by
 intro ρ H en σ ds vs en' E h e
 cases ds with
 |nil=>
  cases e;have hv:vs=[]:=by unfold DsR at h;exact h
  exact⟨σ,E,λQ q=>⟨hv,q⟩⟩
 |cons d ds=>cases e
theorem QK {K:W4}{t:TG}{u:TGs}{g:D->En->Option En}{r:List D->En->Option En}(h1:GD K t g)(h2:GsD K u r):GsD K (Pr t u) (Yh g r):=by
 intro ρ H en σ ds vs en' E h e
 cases ds with
 |nil=>cases e
 |cons d ds=>
  obtain⟨en1,e1,e2⟩:=W2.mp e
  unfold DsR at h;obtain⟨x,xs,rfl,d1,d2⟩:=h
  obtain⟨σ1,E1,k1⟩:=h1 ρ H en σ d x en1 E d1 e1
  obtain⟨σ2,E2,k2⟩:=h2 ρ H en1 σ1 ds xs en' E1 d2 e2
  exact⟨σ2,E2,λQ q=>⟨x,xs,rfl,k1 _ (k2 Q q)⟩⟩
theorem Eh {K:W4}{n:Nat}{t:TGs}{gs:List D->En->Option En}(h:GsD K t gs):GD K (Z08 K n t) (gT n gs):=by
 intro ρ H en σ d v en' E hd e
 cases d with
 |tup ds=>
  obtain⟨a,xs,rfl,h1,h2⟩:=hd.of_tup
  dsimp only [gT] at e;split at e
  ·obtain⟨σ',E',k⟩:=h ρ H en σ ds xs en' E h2 e
   exact⟨σ',E',λQ q=>⟨a,xs,rfl,.of h1,by rw [<-h2.length];assumption,k Q q⟩⟩
  ·cases e
 |_=>cases e
def YE (m:M D)(g:D->En->Option En):MS:=λen S=>(m en S).bind λp=>(g p.1 en).map λen'=>(.nx,en',p.2)
theorem FJ {K:W4}{m:M D}{g:TG}{gd:D->En->Option En}(hg:GD K g gd){D:Ends}{σ:L2.St}{H:Hp}(h:tMS K (YE m gd) D σ H):X7 (tM K m) g D σ H:=by
 obtain⟨ρ,en,S,f,en',S',E,R,e,k⟩:=h
 unfold YE at e;obtain⟨p,e1,e⟩:=W2.mp e
 obtain⟨en1,e2,e3⟩:=Wi.mp e
 cases e3;refine⟨ρ,en,S,p.1,p.2,E,R,e1,λx ρ1 H1 X1 R1 d1=>?_⟩
 obtain⟨σ',E',q⟩:=hg ρ1 H1 en σ p.1 x _ (E.up X1) d1 e2
 exact q _ (k ρ1 H1 σ' X1 R1 E')
theorem Zt {i:Nat}{x:Str}{m:M D}{pos':Pos}(hN:X.N.Nodup)(hi:X.N[i]? = some x)(hx:Loc X.env.scope x)(he:SE X e m)(hs:swapsWith e (some (.Name x pos')) pos.line X.env=pure false:=by rfl)
  (hf:X.fn x=true\/X.env.scope.names.lookup x=some .local:=by first|exact .inl rfl|exact .inr rfl|assumption):SS X (.Assign [.Name x pos'] e pos) (YE m (gN i)):=
 Ui (A0 hN hi hx he hs hf) λ_ _ _=>FJ Ym
inductive Gd where
 |no
 |lst (n:Nat)
 |zl (gs:List (Nat×List D))
 |fr (n:Nat) (kvs:List (D×D)) (th:Bool)
def Ld (gd:Gd)(ds:List D)(S:Sto):Prop:=match gd with | .no=>True | .lst n=>S[n]? = some (.lst ds) | .zl gs=>∀p∈gs,S[p.1]? = some (.lst p.2) | .fr n kvs _=>S[n]? = some (.fdct kvs)
def Ls (gd:Gd)(S:Sto):Option Sto:=match gd with
 | .fr n _ true=>match S[n]? with|some (.fdct kvs)=>some (S.set n (.dct kvs))|_=>none
 |_=>some S
def ItR (K:W4)(ρ0:List Addr)(H0:Hp)(J:It)(ds:List D)(gd:Gd):Prop:=∀ρ H S,Ext ρ0 H0 ρ H->StR K ρ H S->Ld gd ds S->
 (∀(i:Nat) d,ds[i]? = some d->J.go i H/\∀x H',J.yld i H x H'->Ext ρ H ρ H'/\StR K ρ H' S/\DR K ρ H' d x)/\J.stop ds.length H
abbrev ItD:=List D×Gd
def GF (X:Cx)(gd:Gd)(ρ:List Addr)(H:Hp):Prop:=match gd with
 | .fr n _ true=>∃a,ρ[n]? = some a/\(∀o u,H a≠some (.frz o u))/\(∀xs,H a≠some (.tup xs))/\∀o u,X.H₀ a≠some (.frz o u)
 |_=>True
def tMI (X:Cx)(mi:M ItD):TI:=λσ H R=>∃ρ en S r S',EnR X.K ρ H en σ/\StR X.K ρ H S/\mi en S=some (r,S')/\∀J ρ' H',Ext ρ H ρ' H'->StR X.K ρ' H' S'->ItR X.K ρ' H' J r.1 r.2->GF X r.2 ρ' H->R J H'
def SI (X:Cx)(tg iter:Expr)(mi:M ItD):Prop:=PI X tg iter (tMI X mi)
def Kq (X:Cx)(H H':Hp):Prop:=∀pins σ s,Inv X pins σ H s->Inv X pins σ H' s
theorem Kq.refl {X:Cx}{H:Hp}:Kq X H H:=λ_ _ _ h=>h
theorem Nb {t:TE}(h:PE X e t):PE X e (λσ H Q=>t σ H λv H'=>∃H'',Kq X H' H''/\Q v H''):=by
 intro pins s σ H Q I q;exact thn (h pins s σ H _ I q) λv s1 ⟨x,H1,I1,r1,H2,th,q1⟩=>⟨x,H2,th _ _ _ I1,r1,q1⟩
theorem Cv {st:Stmt}{t:TS}(h:PS X st t):PS X st (λD σ H=>t ⟨λσ H'=>∃H'',Kq X H' H''/\D.nx σ H'',λv H'=>∃H'',Kq X H' H''/\D.rt v H'',λσ H'=>∃H'',Kq X H' H''/\D.bk σ H'',λσ H'=>∃H'',Kq X H' H''/\D.ct σ H''⟩ σ H):=by
 intro pins s σ H D I q;refine thn (h pins s σ H _ I q) λf s1 z=>?_
 cases f with
 |next=>obtain⟨σ1,H1,I1,H2,th,q1⟩:=z;exact⟨σ1,H2,th _ _ _ I1,q1⟩
 |brk=>obtain⟨σ1,H1,I1,H2,th,q1⟩:=z;exact⟨σ1,H2,th _ _ _ I1,q1⟩
 |cont=>obtain⟨σ1,H1,I1,H2,th,q1⟩:=z;exact⟨σ1,H2,th _ _ _ I1,q1⟩
 |ret u=>obtain⟨v,σ1,H1,I1,r1,H2,th,q1⟩:=z;exact⟨v,σ1,H2,th _ _ _ I1,r1,q1⟩
theorem Mq {pins:List (Addr×Obj)}{σ:L2.St}{H:Hp}{s:Shared}{a:Addr}{o:Obj}{w:HO}(I:Inv X pins σ H s)(e:H a=some (.frz o w))(hn:∀o u,X.H₀ a≠some (.frz o u)):Inv X pins σ (upd H a w) s:=by
 have ho:ZK X.prog X.w H s.heap a (.frz o w):=I.hok a _ e
 have ok':HOk X.prog X.w (upd H a w) s.heap:=λb u hb=>by
  have st:ZK X.prog X.w H s.heap b u:=by
   by_cases q:b=a
   ·subst q
    rw [Zb] at hb;cases hb;exact ho.2
   ·rw [Zl q] at hb
    exact I.hok b u hb
  refine st.stay (λ_ _ _ h=>h) (λc h=>?_) λc xs h=>?_
  ·rw [Zl (Jz h e (λz=>nomatch z))];exact h
  ·rw [Zl (Jz h e (λz=>nomatch z))];exact h
 have ne0:∀{b:Addr},H b=none->upd H a w b=none:=λ{b} h=>by rw [Zl (Ne.symm (ZF e h))];exact h
 refine⟨I.ok,I.os,I.bare,⟨I.base.keep,I.base.slot,λb u h1 h2 h3=>ne0 (I.base.free b u h1 h2 h3),I.base.there,λb xs h=>?_,λb u v h=>?_,λb ps h=>?_⟩,I.loc,I.cell,ne0 I.free,λx c h=>ne0 (I.freeC x c h),λp hp=>?_,ok',I.len⟩
 ·have:=I.base.tups b xs h
  rw [Zl (Jz this e (λz=>nomatch z))];exact this
 ·have:=I.base.frzs b u v h
  by_cases q:b=a
  ·subst q;exact absurd h (hn _ _)
  ·rw [Zl q];exact this
 ·obtain⟨more,this⟩:=I.base.tbls b ps h
  exact⟨more,by rw [Zl (Jz this e (λz=>nomatch z))];exact this⟩
 ·obtain⟨p1,p2,p3⟩:=I.pin p hp
  exact⟨p1,ne0 p2,p3⟩
theorem TU {gd:Gd}{ρ ρ' ρ1:List Addr}{H H1 H':Hp}{S' S'':Sto}(X1:Ext ρ H ρ1 H1)(F:GF X gd ρ1 H)(X2:Ext ρ1 H1 ρ' H')(R:StR X.K ρ' H' S')(e:Ls gd S'=some S'') :
  ∃H'',Kq X H' H''/\Ext ρ H ρ' H''/\StR X.K ρ' H'' S''/\Ext0 ρ' H' ρ' H''/\∀p o,H' p=none->H'' p=none/\Kq X (upd H' p o) (upd H'' p o):=by
 have triv:some S'=some S''->∃H'',Kq X H' H''/\Ext ρ H ρ' H''/\StR X.K ρ' H'' S''/\Ext0 ρ' H' ρ' H''/\∀p o,H' p=none->H'' p=none/\Kq X (upd H' p o) (upd H'' p o):=λz=>by
  cases z;exact⟨H',.refl,X1.trans X2,R,Ext.refl.weak,λp o h=>⟨h,.refl⟩⟩
 cases gd with
 |no=>exact triv e
 |lst n=>exact triv e
 |zl gs=>exact triv e
 |fr n kvs th=>
  cases th with
  |false=>exact triv e
  |true=>
   obtain⟨a,h1,h2,h3,h4⟩:=F
   dsimp only [Ls] at e;split at e
   ·rename_i kvs' hn
    cases e;obtain⟨o,tab,t1,t2,t3⟩:=R.thaw (X2.pre n a h1) hn
    refine⟨_,λpins σ s I=>Mq I t1 h4,⟨λm b hb=>X2.pre m b (X1.pre m b hb),λb xs hb=>?_,λb o u hb=>?_⟩,t2,t3,λp ob hp=>?_⟩
    ·have:=(X1.trans X2).tup b xs hb
     rw [Zl (Jz this t1 (λz=>nomatch z))];exact this
    ·have:=(X1.trans X2).frz b o u hb
     by_cases q:b=a
     ·subst q;exact absurd hb (h2 _ _)
     ·rw [Zl q];exact this
    ·have hpa:a≠p:=ZF t1 hp
     refine⟨by rw [Zl (Ne.symm hpa)];exact hp,λpins σ s I=>?_⟩
     have:=Mq (a:=a) (o:=o) (w:=tab) I (by rw [Zl hpa];exact t1) h4
     have eq:upd (upd H' p ob) a tab=upd (upd H' a tab) p ob:=by
      funext b
      unfold upd;by_cases q1:b=a
      ·rw [if_pos q1]
       by_cases q2:b=p
       ·exact absurd (q1.symm.trans q2) hpa
       ·rw [if_neg q2,if_pos q1]
      ·rw [if_neg q1]
       by_cases q2:b=p
       ·rw [if_pos q2,if_pos q2]
       ·rw [if_neg q2,if_neg q2,if_neg q1]
     rw [eq] at this;exact this
   ·cases e
theorem Rl {tg iter:Expr}{w w':TI}(h:PI X tg iter w)(i:∀σ H R,w' σ H R->w σ H R):PI X tg iter w':=λpins s σ H R I q=>h pins s σ H R I (i σ H R q)
open Classical in
def Q5 (ds:List D)(gd:Gd)(g:D->En->Option En)(body:MS):List D->En->Sto->Option (Fl×En×Sto)
 |[],en,S=>if Ld gd ds S then some (.nx,en,S) else none
 |d :: r,en,S=>if Ld gd ds S then (g d en).bind λen1=>(body en1 S).bind λp=>match p.1 with
   | .nx=>Q5 ds gd g body r p.2.1 p.2.2
   | .ct=>Q5 ds gd g body r p.2.1 p.2.2
   | .bk=>some (.nx,p.2.1,p.2.2)
   | .rt v=>some (.rt v,p.2.1,p.2.2)
  else none
def thF (gd:Gd)(r:Option (Fl×En×Sto)):Option (Fl×En×Sto):=r.bind λq=>(Ls gd q.2.2).map λS'=>(q.1,q.2.1,S')
def RJ (mi:M ItD)(g:D->En->Option En)(body:MS):MS:=λen S=>(mi en S).bind λp=>thF p.1.2 (Q5 p.1.1 p.1.2 g body p.1.1 en p.2)
theorem NS {tg iter:Expr}{body:List Stmt}{mi:M ItD}{g:TG}{gd:D->En->Option En}{mb:MS}(hp:PassesOwn (model X.prog X.w) X.A X.env X.xe)(hc:X.calm=true)(hi:SI X tg iter mi)(hg:PG X tg g)(hgd:GD X.K g gd)(hb:SB X body mb)
  (hs:∀x,foldedSetIterable iter X.env x=pure x:=by intro _;rfl):SS X (.For tg iter body [] pos) (RJ mi gd mb):=by
 refine Ui (Cv (Ik hp hc hi hg hb hs)) ?_
 rintro D σ H ⟨ρ,en,S,f,enF,SF,E,R,e,k⟩
 unfold RJ at e;obtain⟨p,e1,e⟩:=W2.mp e
 obtain⟨⟨ds,gdn⟩,S1⟩:=p
 refine⟨ρ,en,S,(ds,gdn),S1,E,R,e1,λJ ρ1 H1 X1 R1 IT GG=>?_⟩
 dsimp only at e IT GG;unfold thF at e;obtain⟨⟨f0,en0,S0⟩,eg,e0⟩:=W2.mp e
 obtain⟨SF',e00,e0⟩:=Wi.mp e0
 injection e0 with z1 z2
 injection z2 with z2 z3
 dsimp only at z1 z2 z3 e00;subst z1 z2 z3;refine⟨λi m σ' H'=>m+i=ds.length/\∃ρ' en' S',Ext ρ1 H1 ρ' H'/\StR X.K ρ' H' S'/\EnR X.K ρ' H' en' σ'/\Q5 ds gdn gd mb (ds.drop i) en' S'=some (f0,en0,S0),⟨ds.length,by omega,ρ1,en,S1,Ext.refl,R1,E.up X1,by simpa using eg⟩,?_⟩
 rintro i m σ' H' ⟨hm,ρ',en1,S2,X2,R2,E2,e2⟩
 cases hd:ds.drop i with
 |nil=>
  rw [hd] at e2;unfold Q5 at e2;split at e2
  ·rename_i hg0
   cases e2;have hi:i=ds.length:=by
    have:=congrArg V5 hd
    simp at this
    omega
   subst hi;obtain⟨H9,t1,t2,t3,t4,t5⟩:=TU X1 GG X2 R2 e00
   exact .inl ⟨(IT ρ' H' _ X2 R2 hg0).2,H9,t1,k ρ' H9 σ' t2 t3 (E2.up0 t4)⟩
  ·cases e2
 |cons d r=>
  rw [hd] at e2;unfold Q5 at e2;split at e2
  ·rename_i hg0
   obtain⟨en3,e3,e2⟩:=W2.mp e2
   obtain⟨q,e4,e2⟩:=W2.mp e2
   obtain⟨fq,en4,S4⟩:=q
   have hlt:i<ds.length:=by
    have:=congrArg V5 hd
    simp at this
    omega
   have hdi:ds[i]? = some d:=by
    have:=congrArg (λl=>l[0]?) hd
    simpa using this
   have hr:ds.drop (i+1)=r:=by
    have:=congrArg List.tail hd
    simpa using this
   obtain⟨go,yl⟩:=(IT ρ' H' _ X2 R2 hg0).1 i d hdi
   refine .inr ⟨go,λσ'' H''=>∃ρ'' en'' S'',Ext ρ1 H1 ρ'' H''/\StR X.K ρ'' H'' S''/\EnR X.K ρ'' H'' en'' σ''/\Q5 ds gdn gd mb r en'' S''=some (f0,en0,S0),λσ'' H'' ⟨ρ'',en'',S'',a1,a2,a3,a4⟩=>⟨m-1,by omega,by omega,ρ'',en'',S'',a1,a2,a3,by rw [hr];exact a4⟩,λx H3 y=>?_⟩
   obtain⟨X3,R3,d3⟩:=yl x H3 y
   obtain⟨σ3,E3,gq⟩:=hgd ρ' H3 en1 σ' d x en3 (E2.up X3) d3 e3
   refine gq _ ⟨ρ',en3,S2,fq,en4,S4,E3,R3,e4,λρ4 H4 σ4 X4 R4 E4=>?_⟩
   cases fq with
   |nx=>exact⟨ρ4,en4,S4,(X2.trans X3).trans X4,R4,E4,e2⟩
   |ct=>exact⟨ρ4,en4,S4,(X2.trans X3).trans X4,R4,E4,e2⟩
   |bk=>
    cases e2;obtain⟨H9,t1,t2,t3,t4,t5⟩:=TU X1 GG ((X2.trans X3).trans X4) R4 e00
    exact⟨H9,t1,k ρ4 H9 σ4 t2 t3 (E4.up0 t4)⟩
   |rt v=>
    cases e2;obtain⟨H9,t1,t2,t3,t4,t5⟩:=TU X1 GG ((X2.trans X3).trans X4) R4 e00
    exact λx dx=>⟨H9,t1,k ρ4 H9 σ4 t2 t3 (E4.up0 t4) x (DR.mono t4 _ _ dx)⟩
  ·cases e2
open Classical in
def Yt (ds:List D)(gd:Gd)(cap:En)(g:D->En->Option En)(c:M Bool)(m:M D):List D->List D->Sto->Option (List D×Sto)
 |[],acc,S=>if Ld gd ds S/\acc.length<=Wd then some (acc,S) else none
 |d :: r,acc,S=>if Ld gd ds S/\acc.length<=Wd then (g d cap).bind λen=>(c en S).bind λp=>
   if p.1 then (m en p.2).bind λq=>Yt ds gd cap g c m r (acc++[q.1]) q.2 else Yt ds gd cap g c m r acc p.2
  else none
def Jh (nT:Nat)(caps:List Nat)(en:En):En:=VQ nT none++caps.map λj=>(en[j]?).getD none
def thC (gd:Gd)(r:Option (List D×Sto)):Option (List D×Sto):=r.bind λq=>(Ls gd q.2).map λS'=>(q.1,S')
def JC (mi:M ItD)(nT:Nat)(caps:List Nat)(g:D->En->Option En)(c:M Bool)(m:M D):M (List D):=λen S=>(mi en S).bind λp=>thC p.1.2 (Yt p.1.1 p.1.2 (Jh nT caps en) g c m p.1.1 [] p.2)
theorem Oz {K:W4}{ρ:List Addr}{H:Hp}{en:En}{σ:L2.St}{nT:Nat}{caps:List Nat}(E:EnR K ρ H en σ):EnR K ρ H (Jh nT caps en) (Jg nT caps σ):=by
 refine⟨by simp [Jh,Jg],λi d e=>?_⟩
 unfold Jh at e;have hi:nT<=i:=by
  by_cases hi:i<nT
  ·rw [WR (by simpa using hi),Vz] at e
   split at e<;>cases e
  ·exact W0g hi
 rw [WZ (by simpa using hi),VN,WH] at e
 unfold Jg;rw [WZ (by simpa using hi),VN,WH]
 cases ej:caps[i-nT]? with
 |none=>rw [ej] at e;cases e
 |some j=>
  rw [ej] at e;have e':(en[j]?).getD none=some d:=WO e
  have e2:en[j]? = some (some d):=by
   cases q:en[j]? with
   |none=>rw [q] at e';cases e'
   |some z=>rw [q] at e';rw [show z=some d from e']
  obtain⟨x,h1,h2⟩:=E.get j d e2
  exact⟨x,by rw [W6,h1];rfl,h2⟩
def QW:M Bool:=λ_ S=>some (true,S)
theorem T6 {mi:M ItD}{nT:Nat}{caps:List Nat}{g:TG}{gd:D->En->Option En}{tt:TT}{c:M Bool}{m:M D}(hgd:GD X.K g gd)(htt:∀σ H Q,tMT X.K c σ H Q->tt σ H Q){σ:L2.St}{H:Hp}{Q:VK}
  {ρ:List Addr} {en:En} {S S':Sto} {ds:List D} (E:EnR X.K ρ H en σ) (R:StR X.K ρ H S) (e:JC mi nT caps gd c m en S=some (ds,S'))
  (k:∀a xs ρ' H',Ext ρ H ρ' H'->StR X.K ρ' H' S'->H' a=none->DsR X.K ρ' H' ds xs->Q (.ref a) (upd H' a (.lst xs))):SH (tMI X mi) nT caps g tt (tM X.K m) σ H (λv H'=>∃H'',Kq X H' H''/\Q v H''):=by
 unfold JC at e;obtain⟨p,e1,e⟩:=W2.mp e
 obtain⟨⟨is,gdn⟩,S1⟩:=p
 refine⟨ρ,en,S,(is,gdn),S1,E,R,e1,λJ ρ1 H1 X1 R1 IT GG=>?_⟩
 dsimp only at e IT GG;unfold thC at e;obtain⟨⟨ds0,S0⟩,eg,e0⟩:=W2.mp e
 obtain⟨SF',e00,e0⟩:=Wi.mp e0
 injection e0 with z1 z2
 dsimp only at z1 z2 e00;subst z1 z2;refine⟨λi m0 ys H'=>m0+i=is.length/\∃ρ' S2 acc,Ext ρ1 H1 ρ' H'/\StR X.K ρ' H' S2/\DsR X.K ρ' H' acc ys/\Yt is gdn (Jh nT caps en) gd c m (is.drop i) acc S2=some (ds0,S0),⟨is.length,by omega,ρ1,S1,[],Ext.refl,R1,.nil,by simpa using eg⟩,?_⟩
 rintro i m0 ys H' ⟨hm,ρ',S2,acc,X2,R2,D2,e2⟩
 cases hd:is.drop i with
 |nil=>
  rw [hd] at e2;unfold Yt at e2;split at e2
  ·rename_i hg0
   cases e2;have hi:i=is.length:=by
    have:=congrArg V5 hd
    simp at this
    omega
   subst hi;refine .inl ⟨(IT ρ' H' _ X2 R2 hg0.1).2,by rw [<-D2.length];exact hg0.2,λa ha=>?_⟩
   obtain⟨H9,t1,t2,t3,t4,t5⟩:=TU X1 GG X2 R2 e00
   obtain⟨h9,t6⟩:=t5 a (.lst ys) ha
   exact⟨upd H9 a (.lst ys),t6,k a ys ρ' H9 t2 t3 h9 (DsR.mono t4 _ _ D2)⟩
  ·cases e2
 |cons d r=>
  rw [hd] at e2;unfold Yt at e2;split at e2
  ·rename_i hg0
   obtain⟨en3,e3,e2⟩:=W2.mp e2
   obtain⟨q,e4,e2⟩:=W2.mp e2
   have hlt:i<is.length:=by
    have:=congrArg V5 hd
    simp at this
    omega
   have hdi:is[i]? = some d:=by
    have:=congrArg (λl=>l[0]?) hd
    simpa using this
   have hr:is.drop (i+1)=r:=by
    have:=congrArg List.tail hd
    simpa using this
   obtain⟨go,yl⟩:=(IT ρ' H' _ X2 R2 hg0.1).1 i d hdi
   refine .inr ⟨go,by rw [<-D2.length];exact hg0.2,λx H3 y=>?_⟩
   obtain⟨X3,R3,d3⟩:=yl x H3 y
   obtain⟨σ3,E3,gq⟩:=hgd ρ' H3 (Jh nT caps en) (Jg nT caps σ) d x en3 (((Oz E).up X1).up X2 |>.up X3) d3 e3
   refine gq _ (htt _ _ _ ⟨ρ',en3,S2,q.1,q.2,E3,R3,e4,λρ4 H4 X4 R4=>?_⟩)
   by_cases hq:q.1=true
   ·rw [if_pos hq] at e2 ⊢
    obtain⟨w,e5,e2⟩:=W2.mp e2
    refine⟨ρ4,en3,q.2,w.1,w.2,E3.up X4,R4,e5,λv ρ5 H5 X5 R5 d5=>⟨m0-1,by omega,by omega,ρ5,w.2,acc++[w.1],((X2.trans X3).trans X4).trans X5,R5,?_,by rw [hr];exact e2⟩⟩
    exact (((D2.up X3).up X4).up X5).append (.cons d5 .nil)
   ·rw [if_neg hq] at e2 ⊢
    exact⟨m0-1,by omega,by omega,ρ4,q.2,acc,(X2.trans X3).trans X4,R4,(D2.up X3).up X4,by rw [hr];exact e2⟩
  ·cases e2
structure CompSc (X:Cx) (scope:Scope) (cn:List Str) (caps:List Nat):Prop where
 cell:∀y∈scope.names,y.2≠.cell
 kind:scope.kind = .function
 names:∀y∈scope.names,y.2 = .local->scope.names.lookup y.1=some .local
 free:∀y∈scope.names,y.2 = .free->X.env.scope.names.lookup y.1=some .cell\/X.env.scope.names.lookup y.1=some .free
 cap:Tr X scope cn caps
section
variable {tg iter elt:Expr} {ifs:List Expr} {scope:Scope} {tgs cn:List Str} {caps:List Nat} {mi:M ItD} {g:TG} {gd:D->En->Option En} {mc:M Bool} {m:M D}
def SF (X:Cx)(ifs:List Expr)(m:M Bool):Prop:=PF X ifs (tMT X.K m)
theorem UI:SF X [] QW:=by
 intro pins s σ H Q I q;obtain⟨ρ,en,S,b,S',E,R,e,k⟩:=q
 cases e;exact Ir pins s σ H Q I (k ρ H Ext.refl R)
theorem TY (hc:X.calm=true)(sc:CompSc X scope cn caps)(hi:SI X tg iter mi)(hlow:EQ tgs.length g)(hgd:GD X.K g gd)
  (hg:∀fp s H C,PG (Y2 X scope (tgs++cn) fp s H C) tg g) (hf:∀fp s H C,SF (Y2 X scope (tgs++cn) fp s H C) ifs mc) (he:∀fp s H C,SE (Y2 X scope (tgs++cn) fp s H C) elt m)
  (hs:∀x,foldedSetIterable iter X.env x=pure x:=by intro _;rfl):SQ X (.ListComp elt [⟨tg,iter,ifs,0⟩] scope pos) (JC mi tgs.length caps gd mc m):=by
 refine ZQ (Nb (Nc (tt:=tMT X.K mc) (te:=tM X.K m) hc sc.cell sc.kind sc.names sc.free sc.cap hi hlow hg hf he hs)) ?_
 rintro σ H Q ⟨ρ,en,S,ds,S',E,R,e,k⟩
 exact T6 hgd (λ_ _ _ h=>h) E R e λa xs ρ' H' X1 R1 ha d1=>k a xs ρ' _ (X1.trans (Ext.new ha)) (R1.new ha) (.inl (.of Zb)) (d1.up (Ext.new ha))
def Bl (m:M (List D)):M D:=λen S=>(m en S).map λp=>(.ref p.2.length,p.2++[.lst p.1])
theorem Cj (hc:X.calm=true)(sc:CompSc X scope cn caps)(hi:SI X tg iter mi)(hlow:EQ tgs.length g)(hgd:GD X.K g gd)
  (hg:∀fp s H C,PG (Y2 X scope (tgs++cn) fp s H C) tg g) (hf:∀fp s H C,SF (Y2 X scope (tgs++cn) fp s H C) ifs mc) (he:∀fp s H C,SE (Y2 X scope (tgs++cn) fp s H C) elt m)
  (hs:∀x,foldedSetIterable iter X.env x=pure x:=by intro _;rfl):SE X (.ListComp elt [⟨tg,iter,ifs,0⟩] scope pos) (Bl (JC mi tgs.length caps gd mc m)):=by
 refine ZQ (Nb (Nc (tt:=tMT X.K mc) (te:=tM X.K m) hc sc.cell sc.kind sc.names sc.free sc.cap hi hlow hg hf he hs)) ?_
 rintro σ H Q ⟨ρ,en,S,v,S',E,R,e,k⟩
 unfold Bl at e;obtain⟨p,e1,e2⟩:=Wi.mp e
 cases e2;refine T6 hgd (λ_ _ _ h=>h) E R e1 λa xs ρ' H' X1 R1 ha d1=>?_
 refine k _ (ρ'++[a]) _ (X1.trans (Ext.newRef ha)) (R1.push ha ⟨xs,Zb,d1.up (Ext.newRef ha)⟩) (.ref ?_)
 rw [<-R1.len];simp
end
def spD (K:W4)(n:Nat)(F:List D->Sto->Option (D×Sto)):Sp:=λvs H Q _=>vs.length=n/\rDs K F vs H Q
def ZM (F:List D->Sto->Option (D×Sto))(m:M (List D)):M D:=λen S=>(m en S).bind λp=>F p.1 p.2
theorem Zi {x:Str}{p:Pos}{k n:Nat}{f:Addr}{fd:FuncData}{ps:List Str}{F:List D->Sto->Option (D×Sto)}{m:M (List D)}(hF:FnOk X.prog X.w X.K X.mg X.base CX0 k f fd ps (spD X.K n F))(hr:Room k X.A)(hg:Gl X x)(hm:X.mg x=some (.ref f))
  (hk:Wy X.K (.ref f)=true) (hb:Qv X.K fd ps []) (ha:SA X (a :: es) m)
  (hlen:∀en S r,m en S=some r->r.1.length=n)
  (hdb:(x == ("__debug__" : Str))=false:=by decide) (he:Wo (a :: es) X.env=(false,eval a X.env) :: Wo es X.env:=by rfl) (hpl:(backTo pos (Wo es X.env)).any (·.1)=false:=by rfl) :
  SE X (.Call (.Name x p) (a :: es) [] pos) (ZM F m):=by
 refine ZQ (CG hF hr hg hm hk hb .nil F0 ha hdb he hpl) ?_
 rintro σ H Q ⟨ρ,en,S,v,S',E,R,e,k⟩
 unfold ZM at e;obtain⟨r,e1,e2⟩:=W2.mp e
 refine⟨ρ,en,S,r.1,r.2,E,R,e1,λxs ρ1 H1 X1 R1 d1=>?_⟩
 show spD X.K n F (xs++[]) H1 Q E0
 rw [V8];exact⟨by rw [<-d1.length];exact hlen _ _ _ e1,ρ1,r.2,r.1,v,S',R1,d1,e2,λz ρ2 H2 X2 R2 d2=>k z ρ2 H2 (X1.trans X2) R2 d2⟩
theorem Z7:∀en S r,Zg en S=some r->r.1.length=0:=by
 intro en S r e;cases e;rfl
theorem Z2 {ma:M D}{mr:M (List D)}{n:Nat}(h:∀en S r,mr en S=some r->r.1.length=n):∀en S r,Z1 ma mr en S=some r->r.1.length=n+1:=by
 intro en S r e;unfold Z1 at e;obtain⟨p,e1,e⟩:=W2.mp e
 obtain⟨q,e2,e3⟩:=Wi.mp e
 cases e3;rw [WP,h _ _ _ e2]
mutual
def To (n:Nat):D->Bool
 | .tup ds=>lowDs n ds
 | .ref k=>decide (k<n)
 |_=>true
def lowDs (n:Nat):List D->Bool
 |[]=>true
 |d :: ds=>To n d&&lowDs n ds
end
section
variable {K:W4} {ρ:List Addr} {H:Hp}
mutual
theorem IX:∀(d:D) (x:V),DR K ρ H d x->To ρ.length d=true
 | .non,_,_=>by unfold To;rfl
 | .bl _,_,_=>by unfold To;rfl
 | .int _,_,_=>by unfold To;rfl
 | .str _,_,_=>by unfold To;rfl
 | .scr _,_,_=>by unfold To;rfl
 | .tup ds,x,h=>by
  obtain⟨a,xs,_,_,h3⟩:=h.of_tup
  unfold To;exact lows_of ds xs h3
 | .ref n,x,h=>by
  obtain⟨a,h1,_⟩:=h.of_ref
  unfold To;exact decide_eq_true (Wj.mp h1).1
theorem lows_of:∀(ds:List D) (xs:List V),DsR K ρ H ds xs->lowDs ρ.length ds=true
 |[],_,_=>by unfold lowDs;rfl
 |d :: ds,xs,h=>by
  unfold DsR at h;obtain⟨x,r,_,h1,h2⟩:=h
  unfold lowDs;rw [IX d x h1,lows_of ds r h2];rfl
end
mutual
theorem EG (n:Nat):∀(d:D) (x:V),DR K ρ H d x->To n d=true->DR K (ρ.take n) H d x
 | .non,_,h,_=>by unfold DR at h ⊢;exact h
 | .bl _,_,h,_=>by unfold DR at h ⊢;exact h
 | .int _,_,h,_=>by unfold DR at h ⊢;exact h
 | .str _,_,h,_=>by unfold DR at h ⊢;exact h
 | .scr _,_,h,_=>by unfold DR at h ⊢;exact h
 | .tup ds,x,h,l=>by
  obtain⟨a,xs,rfl,h2,h3⟩:=h.of_tup
  unfold To at l;exact .tup h2 (cuts_of n ds xs h3 l)
 | .ref k,x,h,l=>by
  obtain⟨a,h1,rfl⟩:=h.of_ref
  unfold To at l;exact .ref (by rw [Ve (of_decide_eq_true l)];exact h1)
theorem cuts_of (n:Nat):∀(ds:List D) (xs:List V),DsR K ρ H ds xs->lowDs n ds=true->DsR K (ρ.take n) H ds xs
 |[],_,h,_=>by unfold DsR at h ⊢;exact h
 |d :: ds,xs,h,l=>by
  unfold DsR at h;obtain⟨x,r,rfl,h1,h2⟩:=h
  unfold lowDs at l;rw [Ws] at l;exact .cons (EG n d x h1 l.1) (cuts_of n ds r h2 l.2)
end
end
theorem OD {K:W4}{ρ ρ1:List Addr}{H H1:Hp}{S S1:Sto}(R:StR K ρ H S)(X:Ext ρ H ρ1 H1)(R1:StR K ρ1 H1 S1)(e:S1.take S.length=S):StR K (ρ1.take S.length) H1 S/\Ext ρ H (ρ1.take S.length) H1:=by
 have hl:S.length<=S1.length:=by
  have:=congrArg V5 e
  rw [VZ] at this;omega
 have low:∀(n:Nat) ob,S[n]? = some ob->n<S.length:=λn ob h=>(Wj.mp h).1
 refine⟨⟨by rw [VZ,R1.len];omega,λi j a h1 h2=>?_,λn ob h=>?_⟩,⟨λn a h=>?_,X.tup,X.frz⟩⟩
 ·have hi:i<S.length:=by
   have:=(Wj.mp h1).1
   rw [VZ] at this;omega
  have hj:j<S.length:=by
   have:=(Wj.mp h2).1
   rw [VZ] at this;omega
  rw [Ve hi] at h1;rw [Ve hj] at h2;exact R1.inj i j a h1 h2
 ·have hn:=low n ob h
  have h1:S1[n]? = some ob:=by rw [<-Ve hn,e];exact h
  obtain⟨a,e1,r1⟩:=R1.ob n ob h1
  obtain⟨a0,e0,r0⟩:=R.ob n ob h
  refine⟨a,by rw [Ve hn];exact e1,?_⟩
  cases ob with
  |lst ds=>
   obtain⟨xs,q1,q2⟩:=r1
   obtain⟨ys,p1,p2⟩:=r0
   have l:=lows_of ds ys p2
   rw [R.len] at l;exact⟨xs,q1,cuts_of _ ds xs q2 l⟩
  |dct kvs=>
   have l:lowDs S.length (kvs.map (·.2))=true:=by
    rcases r0 with ⟨ks0,ys,p1,p2,p3,p4⟩|⟨ks0,ys,p1,p2,p3,p4⟩
    ·have l:=lows_of _ ys p4
     rw [R.len] at l;exact l
    ·have l:=lows_of _ ys p4
     rw [R.len] at l;exact l
   rcases r1 with ⟨ks,xs,q1,q2,q3,q4⟩|⟨ks,xs,q1,q2,q3,q4⟩
   ·exact .inl ⟨ks,xs,q1,q2,q3,cuts_of _ _ xs q4 l⟩
   ·exact .inr ⟨ks,xs,q1,q2,q3,cuts_of _ _ xs q4 l⟩
  |fdct kvs=>
   have l:lowDs S.length (kvs.map (·.2))=true:=by
    rcases r0 with ⟨_,⟨_,ys,_,_,_,p4⟩|⟨_,ys,_,_,_,p4⟩⟩
    ·have l:=lows_of _ ys p4
     rw [R.len] at l;exact l
    ·have l:=lows_of _ ys p4
     rw [R.len] at l;exact l
   rcases r1 with ⟨o,⟨ks,xs,q1,q2,q3,q4⟩|⟨ks,xs,q1,q2,q3,q4⟩⟩
   ·exact⟨o,.inl ⟨ks,xs,q1,q2,q3,cuts_of _ _ xs q4 l⟩⟩
   ·exact⟨o,.inr ⟨ks,xs,q1,q2,q3,cuts_of _ _ xs q4 l⟩⟩
  |ins C fs=>
   obtain⟨Ca,dx,xs,q0,q1,q2⟩:=r1
   obtain⟨Ca0,dx0,ys,p0,p1,p2⟩:=r0
   have l:=lows_of _ ys p2
   rw [R.len] at l;exact⟨Ca,dx,xs,q0,q1,cuts_of _ _ xs q2 l⟩
 ·have hn:n<S.length:=by rw [<-R.len];exact (Wj.mp h).1
  rw [Ve hn];exact X.pre n a h
open Classical in
def Uw (S:Sto)(r:D×Sto):D×Sto:=if r.2.take S.length=S/\To S.length r.1=true then (r.1,S) else r
def Q8 (nN:Nat)(ds:List D):En:=ds.map some++VQ (nN-ds.length) none
def QR (nN n:Nat)(m:MS):List D->Sto->Option (D×Sto):=λds S=>if ds.length=n then (m (Q8 nN ds) S).bind λp=>match p.1 with
 | .rt v=>some (Uw S (v,p.2.2))
 | .nx=>some (Uw S (.non,p.2.2))
 |_=>none
 else none
theorem BX {K:W4}{ρ ρ1:List Addr}{H H1:Hp}{S S1 S':Sto}{v v':D}{x:V}{Q:VK}(R:StR K ρ H S)(X:Ext ρ H ρ1 H1)(R1:StR K ρ1 H1 S1)(d:DR K ρ1 H1 v x)(e:Uw S (v,S1)=(v',S'))
  (k:∀z ρ' H',Ext ρ H ρ' H'->StR K ρ' H' S'->DR K ρ' H' v' z->Q z H'):Q x H1:=by
 unfold Uw at e;split at e
 ·rename_i h
  cases e;obtain⟨R2,X2⟩:=OD R X R1 h.1
  exact k x _ H1 X2 R2 (EG _ v x d h.2)
 ·cases e
  exact k x ρ1 H1 X R1 d
theorem NR {K:W4}{ρ:List Addr}{H:Hp}{ds:List D}{vs:List V}{N:List Str}(h:DsR K ρ H ds vs):EnR K ρ H (Q8 N.length ds) (L2.start N vs):=by
 unfold Q8 L2.start;refine⟨by simp [h.length],λi d e=>?_⟩
 by_cases hi:i<ds.length
 ·rw [WR (by simpa using hi),WH] at e
  rw [WR (by rw [Wm,<-h.length];exact hi),WH]
  cases q:ds[i]? with
  |none=>rw [q] at e;cases e
  |some c=>
   rw [q] at e;cases e
   obtain⟨x,h1,h2⟩:=h.get q
   exact⟨x,by rw [h1];rfl,h2⟩
 ·rw [WZ (by simpa using hi),Vz] at e
  split at e<;>cases e
theorem JK {P:Program}{w:World}{K:W4}{mg:Str->Option Value}{base:Heap}{x qual:Str}{st:Stmt}{f:Addr}{fd:FuncData}{N ps:List Str}{k n nN:Nat}{m:MS}(F:Fun K x qual st f fd)(S:FnScope N ps (Z5 st))(hn:ps.length=n)(hN:N.length=nN)
  (hb:∀(cdv:Value) (A:Around) (outer:List Env) (s:Shared) (H:Hp) (E:XK),Room k (A.deeper (envOfC qual (Z5 st) s.heap.objs.size f cdv))->SB (Lk CX0 P w K mg base N qual (Z5 st) f cdv A outer s H E).nox (Zs st) m) :
  FnOk P w K mg base CX0 (k+1) f fd ps (spD K n (QR nN n m)):=by
 refine F.ok S (λvs H Q E h=>by rw [h.1,hn]) (λcdv A outer s H vs Q E hr h=>?_)
 obtain⟨hl,ρ,S0,ds,v,S',R,d1,e,q⟩:=h
 refine⟨_,hb cdv A outer s H E hr,?_⟩
 unfold QR at e;split at e
 ·obtain⟨p,e1,e2⟩:=W2.mp e
  obtain⟨fl,en',S1⟩:=p
  refine⟨ρ,_,S0,fl,en',S1,hN ▸ NR d1,R,e1,λρ1 H1 σ1 X1 R1 E1=>?_⟩
  cases fl with
  |rt u=>exact λz dz=>BX R X1 R1 dz (WO e2) q
  |nx=>exact BX R X1 R1 .flat_non (WO e2) q
  |bk=>cases e2
  |ct=>cases e2
 ·cases e
end
end DL
namespace DL
open PySem PySem.Spec PyProof.Rows L2
theorem YQ {k:Nat}{A:Around}(hr:Room k A):A.units+64<cLine:=by have:=hr.un;omega
section
variable {X:Cx}
def gLt:D->D->Sto->Option (D×Sto)
 | .int i,.int j,S=>some (.bl (decide (i<j)),S)
 | .str i,.str j,S=>some (.bl (decide (i.cps.toList<j.cps.toList)),S)
 | .tup as,.tup bs,S=>if (Q6 30 (.tup as) (.tup bs)&&(pln 30 (.tup as)&&pln 30 (.tup bs)))=true then some (.bl (ltD (.tup as) (.tup bs)),S) else none
 |_,_,_=>none
theorem O2 {a b:D}{S S':Sto}{v:D}(e:gLt a b S=some (v,S')):v = .bl (ltD a b)/\S=S'/\Q6 30 a b=true/\pln 30 a=true/\pln 30 b=true:=by
 cases a with
 |int i=>
  cases b with
  |int j=>cases e;exact⟨by unfold ltD;rfl,rfl,rfl,rfl,rfl⟩
  |_=>cases e
 |str i=>
  cases b with
  |str j=>cases e;exact⟨by unfold ltD;rfl,rfl,rfl,rfl,rfl⟩
  |_=>cases e
 |tup as=>
  cases b with
  |tup bs=>
   dsimp only [gLt] at e;split at e
   ·rename_i hc
    cases e;rw [Ws,Ws] at hc;exact⟨rfl,rfl,hc.1,hc.2.1,hc.2.2⟩
   ·cases e
  |_=>cases e
 |_=>cases e
theorem IC (hu:X.A.units+64<cLine):OpD X (compareOp .Lt) gLt:=by
 intro pins s σ H x y v u Q I rx ry h;obtain⟨ρ,S,d1,d2,z,S',R,h1,h2,e,k⟩:=h
 obtain⟨rfl,rfl,hc,p1,p2⟩:=O2 e
 exact A8 I 30 (by omega) hc p1 p2 h1 h2 rx ry _ _ _ _ ⟨.bl _,H,I,rfl,k _ ρ H Ext.refl R .flat_bl⟩
def Li (a b:D):Bool:=pln 30 a&&pln 30 b
def gEq:D->D->Sto->Option (D×Sto)
 | .int i,.int j,S=>some (.bl (decide (i=j)),S)
 | .str i,.str j,S=>some (.bl (decide (i=j)),S)
 | .bl i,.bl j,S=>some (.bl (decide (i=j)),S)
 |a,b,S=>if Li a b=true then some (.bl (eqD a b),S) else none
def gNe:D->D->Sto->Option (D×Sto)
 | .int i,.int j,S=>some (.bl (!decide (i=j)),S)
 | .str i,.str j,S=>some (.bl (!decide (i=j)),S)
 | .bl i,.bl j,S=>some (.bl (!decide (i=j)),S)
 |a,b,S=>if Li a b=true then some (.bl (!eqD a b),S) else none
theorem Ub {α:Type}[BEq α][LawfulBEq α][DecidableEq α](a b:α):(a == b)=decide (a=b):=by
 rw [W05];simp
theorem O4 {a b:D}{S S':Sto}{v:D}(e:gEq a b S=some (v,S')):v = .bl (eqD a b)/\S=S'/\pln 30 a=true/\pln 30 b=true:=by
 unfold gEq at e;split at e
 ·cases e;exact⟨by unfold eqD;dsimp only;rw [Ub],rfl,rfl,rfl⟩
 ·cases e;exact⟨by unfold eqD;dsimp only;rw [Ub],rfl,rfl,rfl⟩
 ·cases e;exact⟨by unfold eqD;dsimp only;rw [Ub],rfl,rfl,rfl⟩
 ·split at e
  ·rename_i hc
   cases e;unfold Li at hc;rw [Ws] at hc;exact⟨rfl,rfl,hc.1,hc.2⟩
  ·cases e
theorem O1 {a b:D}{S S':Sto}{v:D}(e:gNe a b S=some (v,S')):v = .bl (!eqD a b)/\S=S'/\pln 30 a=true/\pln 30 b=true:=by
 unfold gNe at e;split at e
 ·cases e;exact⟨by unfold eqD;dsimp only;rw [Ub],rfl,rfl,rfl⟩
 ·cases e;exact⟨by unfold eqD;dsimp only;rw [Ub],rfl,rfl,rfl⟩
 ·cases e;exact⟨by unfold eqD;dsimp only;rw [Ub],rfl,rfl,rfl⟩
 ·split at e
  ·rename_i hc
   cases e;unfold Li at hc;rw [Ws] at hc;exact⟨rfl,rfl,hc.1,hc.2⟩
  ·cases e
theorem YI (hu:X.A.units+64<cLine):OpD X (compareOp .Eq) gEq:=by
 intro pins s σ H x y v u Q I rx ry h;obtain⟨ρ,S,d1,d2,z,S',R,h1,h2,e,k⟩:=h
 obtain⟨rfl,rfl,p1,p2⟩:=O4 e
 exact Ia I 30 (by omega) p1 p2 h1 h2 rx ry _ _ _ _ ⟨.bl _,H,I,rfl,k _ ρ H Ext.refl R .flat_bl⟩
theorem M8 (hu:X.A.units+64<cLine):OpD X (compareOp .NotEq) gNe:=by
 intro pins s σ H x y v u Q I rx ry h;obtain⟨ρ,S,d1,d2,z,S',R,h1,h2,e,k⟩:=h
 obtain⟨rfl,rfl,p1,p2⟩:=O1 e
 exact SZ I 30 (by omega) p1 p2 h1 h2 rx ry _ _ _ _ ⟨.bl _,H,I,rfl,k _ ρ H Ext.refl R .flat_bl⟩
def inD (x:D):D->Sto->Option Bool
 | .str j,_=>match x with | .str i=>some (!(Builtin.Str.occurrences j i 0 j.length 1).isEmpty)|_=>none
 | .tup ys,_=>if (pln 30 x&&ys.all (pln 30))=true then some (ys.any λy=>eqD y x) else none
 | .ref n,S=>match S[n]? with
  |some (.lst ys)=>if (pln 30 x&&ys.all (pln 30))=true then some (ys.any λy=>eqD y x) else none
  |_=>(QQ S n x).map λkvs=>(U8 kvs x).isSome
 |_,_=>none
def Qd:D->D->Sto->Option (D×Sto):=λa b S=>(inD a b S).map λr=>(.bl (!r),S)
theorem Mo {pins:List (Addr×Obj)}{σ:L2.St}{H:Hp}{s:Shared}{ρ:List Addr}{A:Around}{x:D}{vx:V}{ux:Value}{ys:List D}{vs:List V}{us:List Value}(I:Inv X pins σ H s)(hu:A.units+64<cLine)
  (px:pln 30 x=true) (py:ys.all (pln 30)=true) (hx:DR X.K ρ H x vx) (rx:ZO vx ux) (hy:DsR X.K ρ H ys vs) (ry:Y4 vs us) :
  ∃e:Value->Bool,(∀u,u∈us->WY A.in1 s u ux (e u))/\us.any e=ys.any λy=>eqD y x:=by
 classical
 let P:Value->D->Prop:=λu d=>pln 30 d=true/\∃v,ZO v u/\DR X.K ρ H d v
 refine⟨λu=>if h:∃d,P u d then eqD (Classical.choose h) x else false,?_,?_⟩
 ·intro u hm
  obtain⟨i,hi⟩:=List.mem_iff_getElem?.mp hm
  have hlen:=ry.length
  have hlen2:=hy.length
  have li:i<us.length:=(Wj.mp hi).1
  have g1:ys[i]? = some ys[i]:=Wl (by omega)
  obtain⟨v,v1,v2⟩:=hy.get g1
  obtain⟨u',u1,u2⟩:=ry.get v1
  rw [hi] at u1;cases u1;have pd:=WN.mp py _ (VL (by omega:i<ys.length))
  have h:∃d,P u d:=⟨ys[i],pd,v,u2,v2⟩
  dsimp only;rw [dif_pos h];obtain⟨q1,v',q2,q3⟩:=Classical.choose_spec h
  exact TH I 30 (by rw [QA];omega) q1 px q3 hx q2 rx
 ·have key:∀{ys:List D} {vs:List V} {us:List Value},ys.all (pln 30)=true->DsR X.K ρ H ys vs->Y4 vs us->us.any (λu=>if h:∃d,P u d then eqD (Classical.choose h) x else false)=ys.any λy=>eqD y x:=by
   intro ys
   induction ys with
   |nil=>
    intro vs us _ hy ry;unfold DsR at hy;subst hy;cases ry;rfl
   |cons d ys ih=>
    intro vs us py hy ry;unfold DsR at hy;obtain⟨v,r,rfl,h1,h2⟩:=hy
    cases ry with
    | @cons _ u _ us' r1 r2=>
     rw [V7,Ws] at py;rw [W08,W08,ih py.2 h2 r2];have h:∃d,P u d:=⟨d,py.1,v,r1,h1⟩
     rw [dif_pos h];obtain⟨q1,v',q2,q3⟩:=Classical.choose_spec h
     have hv:v'=v:=ZO.inj q2 r1
     subst hv;rw [DR.one 30 _ d _ q1 py.1 q3 h1]
  exact key py hy ry
theorem Bb (hu:X.A.units+64<cLine):OpD X (compareOp .NotIn) Qd:=by
 intro pins s σ H x y v u Q I rx ry h;obtain⟨ρ,S,d1,d2,z,S',R,h1,h2,e,k⟩:=h
 obtain⟨r,e1,e2⟩:=Wi.mp e
 cases e2;cases d2 with
 |str j=>
  cases d1 with
  |str i=>
   cases e1;rw [h1.of_str] at rx;rw [h2.of_str] at ry;obtain⟨t,rfl⟩:=rx
   obtain⟨t',rfl⟩:=ry
   exact notIn_str ⟨.bl _,H,I,rfl,k _ ρ H Ext.refl R .flat_bl⟩
  |_=>cases e1
 |tup ys=>
  dsimp only [inD] at e1;split at e1
  ·rename_i hc
   cases e1;rw [Ws] at hc;obtain⟨a,xs,rfl,a1,a2⟩:=h2.of_tup
   cases ry;obtain⟨its,q,pl,hz⟩:=I.tuple (.of a1)
   obtain⟨f,f1,f2⟩:=Mo I hu hc.1 hc.2 h1 rx a2 q
   refine SeqAt.notIn_tupleAt f pl (λw hw=>f1 w (by simpa using hw)) ⟨.bl _,H,I,rfl,?_⟩
   rw [show its.toArray.any f=its.any f by simp,f2]
   exact k _ ρ H Ext.refl R .flat_bl
  ·cases e1
 |ref n=>
  obtain⟨a,a1,rfl⟩:=h2.of_ref
  cases ry;dsimp only [inD] at e1;split at e1
  ·rename_i ys hn
   split at e1
   ·rename_i hc
    cases e1;rw [Ws] at hc;obtain⟨ob,eo,ro⟩:=R.obj a1
    rw [hn] at eo;cases eo;obtain⟨xs,x1,x2⟩:=ro
    obtain⟨its,q,pl,hz⟩:=I.list (.of x1)
    obtain⟨f,f1,f2⟩:=Mo I hu hc.1 hc.2 h1 rx x2 q
    refine SeqAt.notIn_listAt f pl.isList (λw hw=>f1 w (by simpa using hw)) ⟨.bl _,H,I,rfl,?_⟩
    rw [show its.toArray.any f=its.any f by simp,f2]
    exact k _ ρ H Ext.refl R .flat_bl
   ·cases e1
  ·obtain⟨kvs,e3,e4⟩:=Wi.mp e1
   subst e4;obtain⟨g1,g2⟩:=NF R a1 e3 h1
   cases hd:U8 kvs d1 with
   |some w=>
    rw [hd] at k;obtain⟨x',x1,x2⟩:=g1 w hd
    exact MB (by omega) I x1 rx λs' I'=>⟨.bl _,H,I',rfl,k _ ρ H Ext.refl R .flat_bl⟩
   |none=>
    rw [hd] at k;exact MB (by omega) I (g2 hd) rx λs' I'=>⟨.bl _,H,I',rfl,k _ ρ H Ext.refl R .flat_bl⟩
 |_=>cases e1
end
end DL
namespace DL
open PySem PySem.Spec PyProof.Rows PySem.W L2
section
variable {X:Cx} {pins:List (Addr×Obj)} {σ:L2.St} {H:Hp} {s:Shared} {ρ:List Addr}
theorem CJ (I:Inv X pins σ H s)(n:Nat){A:Around}(hu:A.units+n<cLine):∀{as bs:List D} {xs ys:List V} {its its2:List Value},as.all (pln n)=true->bs.all (pln n)=true->((as.zip bs).all λp=>Q6 n p.1 p.2)=true->DsR X.K ρ H as xs->DsR X.K ρ H bs ys->Y4 xs its->Y4 ys its2->
  Paired (TN A s) (its.zip its2) ((as.zip bs).map λp=>(eqD p.1 p.2,ltD p.1 p.2)):=by
 intro as
 induction as with
 |nil=>
  intro bs xs ys its its2 _ _ _ q1 _ q3 _;unfold DsR at q1;subst q1;cases q3;exact .nil
 |cons d as ih2=>
  intro bs xs ys its its2 z1 z2 z3 q1 q2 q3 q4;unfold DsR at q1;obtain⟨x,r,rfl,h1,h2⟩:=q1
  cases q3 with
  |cons r1 r2=>
   cases bs with
   |nil=>
    unfold DsR at q2;subst q2;cases q4;exact .nil
   |cons e bs=>
    unfold DsR at q2;obtain⟨y,r',rfl,h3,h4⟩:=q2
    cases q4 with
    |cons r3 r4=>
     rw [V7,Ws] at z1 z2;rw [WC,V7,Ws] at z3;rw [WC,WC,W1];exact .cons ⟨TH I n hu z1.1 z2.1 h1 h3 r1 r3,λ_=>A8 I n hu z3.1 z1.1 z2.1 h1 h3 r1 r3⟩ (ih2 z1.2 z2.2 z3.2 h2 h4 r2 r4)
def OE (A:Around)(s:Shared)(k:Bool)(u v:Value)(b:Bool):Prop:=∀(prog:Program) (w:World) (E:Value->Shared->Prop) (Q:Bool->Shared->Prop),Q b s->wpAny (model prog w) A (oneLt' k u v) Q E s
theorem HV.one {A:Around}{u v:Value}{b:Bool}(h:HV A s u v b):OE A s false u v b:=λprog w E Q hq=>kat_one u v (h prog w E _ hq)
theorem AA {A:Around}{b fin:Bool}{prog:Program}{w:World}{Q:Bool->Shared->Prop}:∀{zs:List (Value×Value)} {ps:List (Bool×Bool)} (i:Nat),Paired (TN A s) zs ps->
  (b=true->i=0->∀z r p q,zs=z :: r->ps=p :: q->p.1=false->OE A s true z.1 z.2 p.2)->Q (Nt ps fin) s->KatLex prog w A b fin Q zs i s
 |[],_,i,.nil,_,h=>h
 |z :: zs,p :: ps,i,.cons hp ht,h1,h=>by
  unfold Nt at h;refine kat_cons (hp.1 prog w _ _ ?_)
  cases e:p.1 with
  |true=>
   rw [if_pos e] at h;exact kat_yes (AA (i+1) ht (λ_ z=>absurd z (Nat.succ_ne_zero i)) h)
  |false=>
   rw [if_neg (by rw [e];exact Wq)] at h
   refine kat_no ?_
   have ho:=(hp.2 e).one
   cases hb:b&&i == 0 with
   |false=>exact ho prog w _ _ h
   |true=>
    rw [Ws] at hb;exact h1 hb.1 (eq_of_beq hb.2) z zs p ps rfl rfl e prog w _ _ h
def skD:D->Option Nat
 | .int _=>some 0
 | .str _=>some 1
 | .tup (.int _ :: _)=>some 2
 | .tup (.str _ :: _)=>some 3
 | .tup (.tup _ :: _)=>some 4
 |_=>none
def HY (ds:List D):Bool:=[0,1,2,3,4].any λc=>ds.all λd=>skD d == some c
def HI (ds:List D):Bool:=ds.all (pln 30)&&ds.all λa=>ds.all λb=>Q6 30 a b
def UH (ds:List D):Bool:=decide (ds.length<64)&&(decide (ds.length<2)||(HY ds&&HI ds))
theorem MC {ds:List D}(h:HI ds=true):Qf 30 ds:=by
 unfold HI at h;rw [Ws,WN,WN] at h;exact⟨h.1,λa ha b hb=>WN.mp (h.2 a ha) b hb⟩
theorem NL {ds:List D}{xs:List V}{vs:List Value}(h:DsR X.K ρ H ds xs)(r:Y4 xs vs){i:Nat}{d:D}(e:ds[i]? = some d):∃x v,DR X.K ρ H d x/\ZO x v/\vs[i]? = some v:=by
 obtain⟨x,x1,x2⟩:=h.get e
 obtain⟨v,v1,v2⟩:=r.get x1
 exact⟨x,v,x2,v2,v1⟩
theorem NK {ds:List D}{xs:List V}{vs:List Value}(h:DsR X.K ρ H ds xs)(r:Y4 xs vs){v:Value}(hv:v∈vs):∃d x,d∈ds/\DR X.K ρ H d x/\ZO x v:=by
 obtain⟨i,hi,e⟩:=W0b.mp hv
 have hl:ds.length=vs.length:=h.length.trans r.length
 obtain⟨x,v',a,b,c⟩:=NL h r (i:=i) (Wl (by omega))
 rw [Wl hi,e] at c;cases c;exact⟨_,x,VL _,a,b⟩
theorem FU {as:List D}{c:Nat}(e:skD (.tup as)=some c):∃h t,as=h :: t/\((∃i,h = .int i/\c=2)\/(∃x,h = .str x/\c=3)\/∃l,h = .tup l/\c=4):=by
 cases as with
 |nil=>cases e
 |cons h t=>
  cases h with
  |int i=>cases e;exact⟨_,t,rfl,.inl ⟨i,rfl,rfl⟩⟩
  |str i=>cases e;exact⟨_,t,rfl,.inr (.inl ⟨i,rfl,rfl⟩)⟩
  |tup i=>cases e;exact⟨_,t,rfl,.inr (.inr ⟨i,rfl,rfl⟩)⟩
  |_=>cases e
def tyC:Nat->String
 |2=>"int"
 |3=>"str"
 |_=>"tuple"
theorem Hz (I:Inv X pins σ H s){c:Nat}(hc:2<=c){d:D}{x:V}{v:Value}(e:skD d=some c)(h:DR X.K ρ H d x)(r:ZO x v) :
  ∃a o xs n f,v = .ref a/\s.heap.get? a=some o/\o.cls = .type "tuple"/\o.data = .seq xs n/\xs[0]? = some f/\∀M,Looks M s.heap (typeOf f) (.type (tyC c)):=by
 unfold skD at e;split at e
 ·cases e;omega
 ·cases e;omega
 all_goals first|(cases e;done)|skip
 all_goals
  cases e;obtain⟨a,xs,rfl,a1,a2⟩:=h.of_tup
  cases r;obtain⟨its,rv,⟨o,ho,hoc,n,hd⟩,_⟩:=I.tuple (.of a1)
  unfold DsR at a2;obtain⟨y,ys,rfl,b1,b2⟩:=a2
  cases rv with
  | @cons _ f _ fs r1 r2=>
   refine⟨a,o,_,n,f,rfl,ho,hoc,hd,by simp,?_⟩
   first
   | (rw [b1.of_int] at r1;obtain⟨t,rfl⟩:=r1;exact λM=>Looks.of_pure rfl)
   | (rw [b1.of_str] at r1;obtain⟨t,rfl⟩:=r1;exact λM=>Looks.of_pure rfl)
   | (obtain⟨b,zs,rfl,c1,_⟩:=b1.of_tup
      cases r1;obtain⟨_,_,⟨o2,ho2,hc2,_⟩,_⟩:=I.tuple (.of c1)
      exact λM=>kitAt_ty M s.heap ⟨o2,ho2,hc2⟩)
theorem Br (I:Inv X pins σ H s){c:Nat}(hc:2<=c):∀{ds:List D} {xs:List V} {vs:List Value},(∀d∈ds,skD d=some c)->DsR X.K ρ H ds xs->Y4 xs vs->∃fs,KatTups s.heap vs fs/\fs.length=vs.length/\∀f∈fs,∀M,Looks M s.heap (typeOf f) (.type (tyC c))
 |[],xs,vs,_,h,r=>by
  unfold DsR at h;subst h;cases r;exact⟨[],trivial,rfl,λf hf=>by cases hf⟩
 |d :: ds,xs,vs,hk,h,r=>by
  unfold DsR at h;obtain⟨x,xr,rfl,h1,h2⟩:=h
  cases r with
  |cons r1 r2=>
   obtain⟨fs,f1,f2,f3⟩:=Br I hc (λd hd=>hk d (Wu _ hd)) h2 r2
   obtain⟨a,o,ys,n,f,rfl,g1,g2,g3,g4,g5⟩:=Hz I hc (hk d Wv) h1 r1
   exact⟨f :: fs,KatTups.cons g1 g2 g3 g4 f1,by simp [f2],λg hg=>by
    rcases Wr.mp hg with z|z
    ·subst z;exact g5
    ·exact f3 g z⟩
theorem RO (I:Inv X pins σ H s){A:Around}(hu:A.units+64<cLine){c:Nat}(hc:2<=c){d1 d2:D}{x y:V}{u v:Value}(e1:skD d1=some c)(e2:skD d2=some c)(p1:pln 30 d1=true)(p2:pln 30 d2=true)(hcm:Q6 30 d1 d2=true)
  (h1:DR X.K ρ H d1 x) (h2:DR X.K ρ H d2 y) (r1:ZO x u) (r2:ZO y v) {prog:Program} {w:World} {E:Value->Shared->Prop} {Q:Bool->Shared->Prop} (hq:Q (ltD d1 d2) s) :
  wpAny (model prog w) A (keyLt' (tuples' (Value.type (tyC c) != Value.type "tuple")) u v) Q E s:=by
 cases d1 with
 |tup as=>
  cases d2 with
  |tup bs=>
   obtain⟨a,xs,rfl,a1,a2⟩:=h1.of_tup
   obtain⟨b,ys,rfl,b1,b2⟩:=h2.of_tup
   cases r1;cases r2;obtain⟨its,rv1,⟨o,ho,hoc,n,hd⟩,_⟩:=I.tuple (.of a1)
   obtain⟨its2,rv2,⟨o2,ho2,hoc2,n2,hd2⟩,_⟩:=I.tuple (.of b1)
   have p1':as.all (pln 29)=true:=by unfold pln at p1;exact p1
   have p2':bs.all (pln 29)=true:=by unfold pln at p2;exact p2
   have hc':((as.zip bs).all λp=>Q6 29 p.1 p.2)=true:=by unfold Q6 at hcm;exact hcm
   have hp:=CJ I 29 (A:=A) (by omega) p1' p2' hc' a2 b2 rv1 rv2
   refine kat_lt ho hd ho2 hd2 (AA 0 (by simpa using hp) (λhb _ z r p q ez ep e=>?_) ?_)
   ·obtain⟨h1',t1',rfl,w1⟩:=FU e1
    obtain⟨h2',t2',rfl,w2⟩:=FU e2
    unfold DsR at a2 b2;obtain⟨x,_,rfl,a2,_⟩:=a2
    obtain⟨y,_,rfl,b2,_⟩:=b2
    cases rv1 with
    |cons q1 q2=>
     cases rv2 with
     |cons q3 q4=>
      simp only [WC,W1,W16] at ez ep
      obtain⟨rfl,_⟩:=ez
      obtain⟨rfl,_⟩:=ep
      rcases w1 with ⟨i,rfl,rfl⟩|⟨i,rfl,rfl⟩|⟨i,rfl,rfl⟩
      ·rcases w2 with ⟨j,rfl,z⟩|⟨j,rfl,z⟩|⟨j,rfl,z⟩
       ·rw [a2.of_int] at q1
        rw [b2.of_int] at q3;obtain⟨t,rfl⟩:=q1
        obtain⟨t',rfl⟩:=q3
        exact λprog w E Q hq=>oneLt_int (by unfold ltD at hq;exact hq)
       ·cases z
       ·cases z
      ·rcases w2 with ⟨j,rfl,z⟩|⟨j,rfl,z⟩|⟨j,rfl,z⟩
       ·cases z
       ·rw [a2.of_str] at q1
        rw [b2.of_str] at q3;obtain⟨t,rfl⟩:=q1
        obtain⟨t',rfl⟩:=q3
        exact λprog w E Q hq=>oneLt_str (by unfold ltD at hq;exact hq)
       ·cases z
      ·exact absurd hb (by decide)
   ·rw [U0,Gn,a2.length,b2.length,rv1.length,rv2.length] at hq
    simpa using hq
  |_=>cases hcm
 |int i=>unfold skD at e1;cases e1;omega
 |str i=>unfold skD at e1;cases e1;omega
 |_=>cases hcm
theorem OC (I:Inv X pins σ H s){ds:List D}{xs:List V}{vs:List Value}(h:DsR X.K ρ H ds xs)(r:Y4 xs vs)(h2:2<=ds.length)(hk:HY ds=true)(hc:HI ds=true) :
  ∃κ:SortKind,(∀(prog:Program) (w:World) (A:Around) (E:Value->Shared->Prop) (Q:SortKind->Shared->Prop),Q κ s->wpAny (model prog w) A (keyKind' vs.toArray) Q E s)/\
   ∀(prog:Program) (w:World) (A:Around),A.units+64<cLine->∀i j,i<ds.length->j<ds.length->∀C:Bool->Shared->Prop,C (ltD (ds.getD i .non) (ds.getD j .non)) s->kas_ask prog w A κ vs i j C s:=by
 have hl:ds.length=vs.length:=h.length.trans r.length
 obtain⟨hp,hcm⟩:=MC hc
 unfold HY at hk;rw [W0i] at hk;obtain⟨c,hcm5,hall⟩:=hk
 have hall':∀d∈ds,skD d=some c:=λd hd=>eq_of_beq (WN.mp hall d hd)
 have at_:∀i,i<ds.length->∃x v,ds.getD i .non∈ds/\DR X.K ρ H (ds.getD i .non) x/\ZO x v/\vs.getD i Value.none=v:=λi hi=>by
  obtain⟨x,v,a,b,e⟩:=NL h r (i:=i) (Wl hi)
  have e1:ds.getD i .non=ds[i]:=by simp [hi]
  rw [e1];exact⟨x,v,VL _,a,b,by rw [Vh,e];rfl⟩
 by_cases c2:2<=c
 ·obtain⟨fs,f1,f2,f3⟩:=Br I c2 hall' h r
  refine⟨tuples' (Value.type (tyC c) != Value.type "tuple"),λprog w A E Q hq=>kat_kind f1 (by omega) (λf hf=>f3 f hf _) (by exact beq_self_eq_true _) hq,λprog w A hu i j hi hj C hC=>?_⟩
  obtain⟨x,u,m1,a1,b1,e1⟩:=at_ i hi
  obtain⟨y,v,m2,a2,b2,e2⟩:=at_ j hj
  unfold kas_ask;rw [e1,e2];exact RO I hu c2 (hall' _ m1) (hall' _ m2) (hp _ m1) (hp _ m2) (hcm _ m1 _ m2) a1 a2 b1 b2 hC
 ·by_cases c0:c=0
  ·subst c0
   have isI:∀d∈ds,∃i,d = .int i:=λd hd=>by
    have e:=hall' d hd
    unfold skD at e;split at e<;>first|(cases e;done)|exact⟨_,rfl⟩
   refine⟨oneType',λprog w A E Q hq=>kas_kind (T:=.type "int") (by omega) (λv hv=>?_) (by decide) (by decide) hq,λprog w A hu i j hi hj C hC=>?_⟩
   ·obtain⟨d,x,m,a,b⟩:=NK h r hv
    obtain⟨i,rfl⟩:=isI d m
    rw [a.of_int] at b;obtain⟨t,rfl⟩:=b
    exact Looks.of_pure rfl
   ·obtain⟨x,u,m1,a1,b1,e1⟩:=at_ i hi
    obtain⟨y,v,m2,a2,b2,e2⟩:=at_ j hj
    unfold kas_ask;rw [e1,e2];obtain⟨p,ep⟩:=isI _ m1
    obtain⟨q,eq⟩:=isI _ m2
    rw [ep] at a1 hC;rw [eq] at a2 hC;rw [a1.of_int] at b1;rw [a2.of_int] at b2;obtain⟨t,rfl⟩:=b1
    obtain⟨t',rfl⟩:=b2
    exact oneLt_int (by unfold ltD at hC;exact hC)
  ·have c1:c=1:=by omega
   subst c1;have isS:∀d∈ds,∃i,d = .str i:=λd hd=>by
    have e:=hall' d hd
    unfold skD at e;split at e<;>first|(cases e;done)|exact⟨_,rfl⟩
   refine⟨oneType',λprog w A E Q hq=>kas_kind (T:=.type "str") (by omega) (λv hv=>?_) (by decide) (by decide) hq,λprog w A hu i j hi hj C hC=>?_⟩
   ·obtain⟨d,x,m,a,b⟩:=NK h r hv
    obtain⟨i,rfl⟩:=isS d m
    rw [a.of_str] at b;obtain⟨t,rfl⟩:=b
    exact Looks.of_pure rfl
   ·obtain⟨x,u,m1,a1,b1,e1⟩:=at_ i hi
    obtain⟨y,v,m2,a2,b2,e2⟩:=at_ j hj
    unfold kas_ask;rw [e1,e2];obtain⟨p,ep⟩:=isS _ m1
    obtain⟨q,eq⟩:=isS _ m2
    rw [ep] at a1 hC;rw [eq] at a2 hC;rw [a1.of_str] at b1;rw [a2.of_str] at b2;obtain⟨t,rfl⟩:=b1
    obtain⟨t',rfl⟩:=b2
    exact oneLt_str (by unfold ltD at hC;exact hC)
end
def ltI (ds:List D)(i j:Nat):Bool:=if i<ds.length then (if j<ds.length then ltD (ds.getD i .non) (ds.getD j .non) else true) else (if j<ds.length then false else decide (i<j))
theorem J7 {ds:List D}{i:Nat}(h:i<ds.length):ds.getD i .non∈ds:=by
 have e1:ds.getD i .non=ds[i]:=by simp [h]
 rw [e1];exact VL _
theorem IB {ds:List D}(h:Qf 30 ds):KS.Ord (ltI ds) where
 irr:=λi=>by
  unfold ltI;by_cases hi:i<ds.length
  ·rw [if_pos hi,if_pos hi];exact Nq 30 _ (h.1 _ (J7 hi))
  ·rw [if_neg hi,if_neg hi];simp
 as:=λi j=>by
  unfold ltI;by_cases hi:i<ds.length<;>by_cases hj:j<ds.length<;>simp only [hi,hj,if_true,if_false]
  ·exact h.as (J7 hi) (J7 hj)
  ·intro _;trivial
  ·intro z;cases z
  ·simp only [decide_eq_true_eq,decide_eq_false_iff_not];omega
 tr:=λi j k=>by
  unfold ltI;by_cases hi:i<ds.length<;>by_cases hj:j<ds.length<;>by_cases hk:k<ds.length<;>simp only [hi,hj,hk,if_true,if_false]<;>(try (intro _ _;first|rfl|trivial))<;>(try (intro z;cases z;done))<;>(try (intro _ z;cases z;done))
  ·exact h.le_tr (J7 hi) (J7 hj) (J7 hk)
  ·simp only [decide_eq_false_iff_not] at *;omega
theorem Sl {α:Type}{n:Nat}{lt:Nat->Nat->Bool}{cmp:Nat->Nat->(Bool->Shared->Prop)->Shared->Prop}{s:Shared}(hc:∀i j,i<n->j<n->∀C:Bool->Shared->Prop,C (lt i j) s->cmp i j C s) :
  ∀(t:KasT α) (Q:α->Shared->Prop),KS.Rg n t->Q (KS.ev lt t) s->t.kasWp cmp Q s
 | .ret _,_,_,h=>h
 | .ask i j k,Q,⟨h1,h2,h3⟩,h=>hc i j h1 h2 _ (Sl hc (k (lt i j)) Q (h3 _) h)
theorem Xy {ds:List D}(h:Qf 30 ds)(hn:1<=ds.length):((KS.ev (ltI ds) (W0I ds.length)).toList.map λi=>ds.getD i .non)=JO ds:=by
 obtain⟨hp,hs⟩:=KS.sort_ok (IB h) hn
 generalize KS.ev (ltI ds) (W0I ds.length)=p at *
 have hpl:p.toList.Perm (WE ds.length):=hp.toList
 have hsz:p.size=ds.length:=by have:=hpl.length_eq;simpa using this
 have hr:(WE ds.length).map (λi=>ds.getD i .non)=ds:=by
  apply List.ext_getElem
  ·simp
  ·intro i h1 h2
   simp [h2]
 refine N0 h ?_ ?_
 ·have:=hpl.map λi=>ds.getD i D.non
  rw [hr] at this;exact this
 ·rw [W1m]
  intro i j hi hj hij;simp only [Wm,W0j] at hi hj
  simp only [List.getElem_map,Array.getElem_toList]
  have hs':=hs i j (by omega) (by omega)
  have e1:p.getD i 0=p[i]:=by simp [Array.getD,hi]
  have e2:p.getD j 0=p[j]:=by simp [Array.getD,hj]
  rw [e1,e2] at hs'
  have m1:p[i]<ds.length:=by
   have:p[i]∈WE ds.length:=hpl.mem_iff.mp (by simp)
   simpa using this
  have m2:p[j]<ds.length:=by
   have:p[j]∈WE ds.length:=hpl.mem_iff.mp (by simp)
   simpa using this
  show ltD (ds.getD p[j] .non) (ds.getD p[i] .non)=false
  have:ltI ds p[j] p[i]=false:=hs'
  unfold ltI at this;rw [if_pos m2,if_pos m1] at this;exact this
end DL
namespace DL
open PySem PySem.Spec PyProof.Rows PySem.W L2
theorem Z1E {k:Nat}{A:Around}(hr:Room k A):A.units+70<cLine:=by have:=hr.un;omega
section
variable {X:Cx} {pins:List (Addr×Obj)} {σ:L2.St} {H:Hp} {s:Shared} {ρ:List Addr}
theorem GR {xs:List V}{vs:List Value}(r:Y4 xs vs):∀is:List Nat,(∀i∈is,i<xs.length)->Y4 (is.map λi=>xs.getD i .non) (is.map λi=>vs.getD i Value.none)
 |[],_=>.nil
 |i :: is,h=>by
  have hi:=h i Wv
  obtain⟨v,e,q⟩:=r.get (Wl hi)
  refine .cons ?_ (GR r is λj hj=>h j (Wu _ hj))
  show ZO (xs.getD i .non) (vs.getD i Value.none)
  rw [Vh,Vh,Wl hi,e];exact q
theorem PJ {ds:List D}{xs:List V}(h:DsR X.K ρ H ds xs):∀is:List Nat,(∀i∈is,i<ds.length)->DsR X.K ρ H (is.map λi=>ds.getD i .non) (is.map λi=>xs.getD i .non)
 |[],_=>.nil
 |i :: is,hh=>by
  have hi:=hh i Wv
  obtain⟨x,e,q⟩:=h.get (Wl hi)
  refine .cons ?_ (PJ h is λj hj=>hh j (Wu _ hj))
  show DR X.K ρ H (ds.getD i .non) (xs.getD i .non)
  rw [Vh,Vh,Wl hi,e];exact q
theorem Nr {A:Around}{E:Value->Shared->Prop}{P:PySem.Fin->Shared->Prop}{a:Addr}{ds:List D}{xs:List V}(I:Inv X pins σ H s)(hu:A.units+64<cLine)(ha:H a=some (.lst xs))(h:DsR X.K ρ H ds xs)(ok:UH ds=true)
  (q:∀(is:List Nat) s',(∀i∈is,i<ds.length)->(is.map λi=>ds.getD i D.non)=JO ds->Inv X pins σ (upd H a (.lst (is.map λi=>xs.getD i .non))) s'->P (.done (.ret .none)) s') :
  wpAny (model X.prog X.w) A (Builtin.«list.sort» ⟨[.ref a],[]⟩) P E s:=by
 obtain⟨hz,vs,n,rv,ho⟩:=(show ZK X.prog X.w H s.heap a (.lst xs) from I.hok a _ ha)
 have hl:ds.length=vs.length:=h.length.trans rv.length
 unfold UH at ok;rw [Ws,decide_eq_true_eq] at ok;have h64:vs.length<64:=by omega
 have s1:=VI s.heap a (Vb λ_=>(#[]:Array Value))
 obtain⟨e1,ho1⟩:∃e1,(s.heap.update a (Vb λ_=>(#[]:Array Value))).get? a=some (seqObj "list" #[] e1):=⟨_,get?_update_seq ho λ_=>#[]⟩
 have hX:∀o,Ext ρ H ρ (upd H a o):=λo=>Ext.upd ha (λ_ z=>nomatch z) λ_ _ z=>nomatch z
 have I1:Inv X pins σ (upd H a (.lst [])) { s with heap:=s.heap.update a (Vb λ_=>(#[]:Array Value)) }:=U9 (s:=s) (t':=s.toks) I (by rw [ha];exact True.intro) s1 ⟨_,ho1⟩ (show ZK X.prog X.w _ _ a (.lst []) from ⟨VG _,[],e1,.nil,ho1⟩)
 have I3:Inv X pins σ (upd H a (.lst [])) { s with heap:=((s.heap.update a (Vb λ_=>(#[]:Array Value))).push (seqObj "tuple" vs.toArray 0)).push (seqObj "list" #[] 0) }:=
  I1.kept (t':=s.toks) λb o e=>Wk _ (Wk _ e)
 have ho3:(((s.heap.update a (Vb λ_=>(#[]:Array Value))).push (seqObj "tuple" vs.toArray 0)).push (seqObj "list" #[] 0)).get? a=some (seqObj "list" #[] e1):=Wk _ (Wk _ ho1)
 have fin:∀(is:List Nat),(∀i∈is,i<ds.length)->is.length<=Wd->(is.map λi=>ds.getD i D.non)=JO ds->P (.done (.ret .none)) { s with heap:=(((s.heap.update a (Vb λ_=>(#[]:Array Value))).push (seqObj "tuple" vs.toArray 0)).push (seqObj "list" #[] 0)).update a (Vb λ_=>VD (is.map λi=>vs.getD i Value.none)) }:=λis hi hlen e=>by
  have s2:=VI (((s.heap.update a (Vb λ_=>(#[]:Array Value))).push (seqObj "tuple" vs.toArray 0)).push (seqObj "list" #[] 0)) a (Vb λ_=>VD (is.map λi=>vs.getD i Value.none))
  obtain⟨e2,ho4⟩:∃e2,((((s.heap.update a (Vb λ_=>(#[]:Array Value))).push (seqObj "tuple" vs.toArray 0)).push (seqObj "list" #[] 0)).update a (Vb λ_=>VD (is.map λi=>vs.getD i Value.none))).get? a=some (seqObj "list" (VD (is.map λi=>vs.getD i Value.none)) e2):=
   ⟨_,get?_update_seq ho3 λ_=>VD (is.map λi=>vs.getD i Value.none)⟩
  have I4:=U9 (s:={ s with heap:=((s.heap.update a (Vb λ_=>(#[]:Array Value))).push (seqObj "tuple" vs.toArray 0)).push (seqObj "list" #[] 0) }) (t':=s.toks) (ob:=.lst (is.map λi=>xs.getD i .non)) I3 (by rw [Zb];exact True.intro) s2 ⟨_,ho4⟩
   (show ZK X.prog X.w _ _ a (.lst (is.map λi=>xs.getD i .non)) from ⟨by rw [Wm];exact hlen,_,e2,GR rv is (λi z=>by rw [<-h.length];exact hi i z),ho4⟩)
  rw [Qp] at I4;exact q is _ hi e I4
 rw [list_sort_plain];refine W3 (listItems_at ho rfl ?_)
 refine W3 (listUpdate_at ho rfl ?_ (by rw [Wp,VW];omega) (VG _))
 refine W3 (seqEpoch_at ho1 rfl ?_)
 refine W3 (wpAny_newTuple ?_ (by show vs.length<=_;rw [VW];omega))
 refine W3 (wpAny_newList ?_ (VG _))
 refine Vo ?_
 show wpAny (model X.prog X.w) A _ P E { s with heap:=((s.heap.update a (Vb λ_=>(#[]:Array Value))).push (seqObj "tuple" vs.toArray 0)).push (seqObj "list" #[] 0) }
 dsimp only;have hsl:64<=Wd:=by decide
 by_cases h2:vs.length<2
 ·have hn2:vs.toArray.size<2:=by rw [Wp];exact h2
  rw [if_pos hn2,if_pos hn2];refine W3 (Wn ?_)
  refine W3 (Wn ?_)
  dsimp only;have hout:(arrOf (SortSt.mk' general' (vs.toArray.zip vs.toArray) #[] 7 none)).map (·.2)=VD ((WE ds.length).map λi=>vs.getD i Value.none):=by
   show (vs.toArray.zip vs.toArray).map (·.2)=_
   apply Array.toList_inj.mp
   rw [hl]
   apply List.ext_getElem
   ·simp
   ·intro i h1 h2
    simp at h1
    simp [h1]
  refine W3 (seqEpoch_at ho3 rfl ?_)
  rw [hout];refine W3 (listUpdate_at ho3 rfl ?_ (VG _) (by simp only [Wp,Wm,VU];omega))
  simp only [bne_self_eq_false,VP,if_false]
  refine Wn (fin _ (λi hi=>by simpa using hi) (by simp;omega) ?_)
  have hr:(WE ds.length).map (λi=>ds.getD i D.non)=ds:=by
   apply List.ext_getElem
   ·simp
   ·intro i h1 h2
    simp [h2]
  rw [hr]
  match ds,hl with
  |[],_=>rfl
  |[_],_=>rfl
  |_ :: _ :: _,e=>exact absurd h2 (by rw [<-e];simp)
 ·have hn2:¬vs.toArray.size<2:=by rw [Wp];exact h2
  rw [if_neg hn2,if_neg hn2];have hok:HY ds=true/\HI ds=true:=by
   have:=ok.2
   rw [decide_eq_false (by omega),Bool.false_or,Ws] at this
   exact this
  obtain⟨κ,hk1,hk2⟩:=OC (s:={ s with heap:=((s.heap.update a (Vb λ_=>(#[]:Array Value))).push (seqObj "tuple" vs.toArray 0)).push (seqObj "list" #[] 0) }) I3 (h.up (hX _)) rv (by omega) hok.1 hok.2
  refine W3 (hk1 _ _ A _ _ ?_)
  have hca:=MC hok.2
  have hw:(W0I vs.length).kasWp (kas_ask X.prog X.w A κ vs) (λp s'=>p=KS.ev (ltI ds) (W0I ds.length)/\s'={ s with heap:=((s.heap.update a (Vb λ_=>(#[]:Array Value))).push (seqObj "tuple" vs.toArray 0)).push (seqObj "list" #[] 0) })
    { s with heap:=((s.heap.update a (Vb λ_=>(#[]:Array Value))).push (seqObj "tuple" vs.toArray 0)).push (seqObj "list" #[] 0) }:=by
   rw [<-hl];refine Sl (n:=ds.length) (lt:=ltI ds) (λi j hi hj C hC=>hk2 _ _ A hu i j hi hj C ?_) _ _ (KS.rg_sort (by omega)) ⟨rfl,rfl⟩
   unfold ltI at hC;rw [if_pos hi,if_pos hj] at hC;exact hC
  refine W3 (V1 (kat_run (Q:=λst' s'=>arrOf st'=(KS.ev (ltI ds) (W0I ds.length)).map (kas_item (vs.toArray.zip vs.toArray))/\failedOf st'=none/\s'={ s with heap:=((s.heap.update a (Vb λ_=>(#[]:Array Value))).push (seqObj "tuple" vs.toArray 0)).push (seqObj "list" #[] 0) })
   rfl (by omega) h64 (λp' st' s' a1 a2 a3 a4=>⟨by rw [<-a4.1];exact a2,a3,a4.2⟩) hw) ?_ λ_ _ e=>e)
  rintro⟨⟨⟩,st'⟩ s' ⟨har,hf,rfl⟩
  dsimp only;have hout:=kat_snds (ks:=vs) (vs:=vs) rfl har
  obtain⟨hp,_⟩:=KS.sort_ok (IB hca) (n:=ds.length) (by omega)
  have hpl:(KS.ev (ltI ds) (W0I ds.length)).toList.Perm (WE ds.length):=hp.toList
  have hpn:(KS.ev (ltI ds) (W0I ds.length)).toList.length=ds.length:=by have:=hpl.length_eq;simpa using this
  rw [hout];refine W3 (seqEpoch_at ho3 rfl ?_)
  refine W3 (listUpdate_at ho3 rfl ?_ (VG _) (by simp only [Wp,Wm,hpn];omega))
  rw [hf];simp only [bne_self_eq_false,VP,if_false]
  exact Wn (fin _ (λi hi=>by simpa using hpl.mem_iff.mp hi) (by rw [hpn];omega) (Xy hca (by omega)))
theorem KL {s1:Shared}{ds:List D}{xs:List V}{vs:List Value}{Q:VK}(I1:Inv X pins σ H s1)(hu:X.A.units+70<cLine)(hd:DsR X.K ρ H ds xs)(rv:Y4 xs vs)(hz:xs.length<=Wd)(ok:UH ds=true)
  (q:∀a xs',H a=none->DsR X.K ρ H (JO ds) xs'->Q (.ref a) (upd H a (.lst xs'))):wpAny (model X.prog X.w) X.A.in1 (do
   let l <-newList vs
   let _ <-holding [l] (call (.builtin "list.sort") [l] [])
   ret l) (λfin s'=>∃r,fin = .done (.ret r)/\EP X pins σ Q r s') (λe s'=>X.xe e s') s1:=by
 have hl:ds.length=vs.length:=hd.length.trans rv.length
 have hf:H s1.heap.objs.size=none:=I1.hok.fresh (Wt _)
 refine W3 (wpAny_newList ?_ (by rw [<-rv.length];exact hz))
 have ho:(s1.heap.push (seqObj "list" vs.toArray 0)).get? s1.heap.objs.size=some (seqObj "list" vs.toArray 0):=WA _ rfl
 have I2:Inv X pins σ (upd H s1.heap.objs.size (.lst xs)) { s1 with heap:=s1.heap.push (seqObj "list" vs.toArray 0) }:=I1.laid (t':=s1.toks) (λb o e=>Wk _ e) (Wt _) (show ZK X.prog X.w _ _ _ (.lst xs) from ⟨hz,vs,0,rv,ho⟩)
 refine W3 (Vo (Vv slot_list_sort ⟨_,ho,rfl⟩ entry_list_sort ?body (args_list_sort _)))
 case body=>
  refine Nr (s:={ s1 with heap:=s1.heap.push (seqObj "list" vs.toArray 0) }) I2 (by show X.A.units+1+1+64<cLine;omega) Zb (hd.up (Ext.new hf)) ok λis s' hi e I'=>?_
  rw [Qp] at I'
  exact⟨_,rfl,Wn ⟨_,rfl,.ref s1.heap.objs.size,_,I',rfl,q _ _ hf (by rw [<-e];exact PJ hd is hi)⟩⟩
end
end DL
namespace L2
open PySem PySem.Spec PyProof.Rows
section
variable {X:Cx}
theorem IH:OpR X (compareOp .Is) (λx y H Q=>∃c,y = .bl c/\Q (.bl (decide (x = .bl c))) H):=by
 intro pins s σ H x y v u Q I rx ry h;obtain⟨c,rfl,q⟩:=h
 cases ry;cases x with
 |bl b=>cases rx;exact is_bool (Jk I q (by cases b<;>cases c<;>decide))
 |non=>cases rx;exact Wn (Jk I q (by cases c<;>decide))
 |int i=>obtain⟨t,rfl⟩:=rx;exact Wn (Jk I q (by cases c<;>rfl))
 |str i=>obtain⟨t,rfl⟩:=rx;exact Wn (Jk I q (by cases c<;>rfl))
 |byt i=>obtain⟨t,rfl⟩:=rx;exact Wn (Jk I q (by cases c<;>rfl))
 |flt i=>obtain⟨t,rfl⟩:=rx;exact Wn (Jk I q (by cases c<;>rfl))
 |ref a=>cases rx;exact Wn (Jk I q (by cases c<;>rfl))
 |ty n=>cases rx;exact Wn (Jk I q (by cases c<;>rfl))
theorem Rr:OpR X (compareOp .LtE) (λx y H Q=>∃i j,x = .str i/\y = .str j/\Q (.bl (!decide (j.cps.toList<i.cps.toList))) H):=by
 intro pins s σ H x y v u Q I rx ry h;obtain⟨i,j,rfl,rfl,q⟩:=h
 obtain⟨t,rfl⟩:=rx
 obtain⟨t',rfl⟩:=ry
 exact PySem.P.le_str (Jk I q rfl)
theorem F2:OpR X (binaryOp .Add) (λx y H Q=>∃a b ys,x = .ref a/\y = .ref b/\SqT X.K H a []/\SqT X.K H b ys/\Q (.ref b) H):=by
 intro pins s σ H x y v u Q I rx ry h;obtain⟨a,b,ys,rfl,rfl,ha,hb,q⟩:=h
 cases rx;cases ry;obtain⟨its,r1,p1,_⟩:=I.tuple ha
 obtain⟨its2,r2,p2,_⟩:=I.tuple hb
 have hv:its=[]:=r1.nil_iff.mpr rfl
 subst hv;obtain⟨⟨cls,dd,data,sl⟩,ho,hc,n,hd⟩:=id p1
 obtain⟨⟨cls2,dd2,data2,sl2⟩,ho2,hc2,n2,hd2⟩:=id p2
 simp only at hc hd hc2 hd2
 subst hc hd hc2 hd2;exact concat_meets ⟨_,ho,rfl⟩ ⟨_,ho2,rfl⟩ noFill_tuple_add seq_tuple_add W0B W0r (W0o _ _)
  (tuple_addW0 a b _ _ n n2 dd dd2 sl sl2 (by simp)) ⟨ho,ho2,⟨.ref b,H,I,rfl,q⟩⟩
theorem MU:OpR X (binaryOp .Mult) (λx y H Q=>∃z n,x = .str z/\y = .int n/\MulOk z n/\Q (.str (Txt.mul z n)) H):=by
 intro pins s σ H x y v u Q I rx ry h;obtain⟨z,n,rfl,rfl,hok,q⟩:=h
 obtain⟨t,rfl⟩:=rx
 obtain⟨t',rfl⟩:=ry
 exact SB.mul hok λt'' k=>⟨.str (Txt.mul z n),H,I.tok k,⟨t'',rfl⟩,q⟩
theorem TR:∀{bs:List Bool} {us:List Value},Y4 (bs.map V.bl) us->us=bs.map Value.bool
 |[],_,h=>by cases h;rfl
 |b :: bs,_,h=>by
  cases h with
  |cons r t=>
   have e:=TR t
   rw [W1,<-e,show _=Value.bool b from r]
theorem B2 (bs:List Bool):((WE bs.length).all λi=>bs.getD i true)=bs.all id:=by
 rw [W05,WN,WN]
 constructor
 ·intro h b hb
  obtain⟨i,hi,rfl⟩:=W0b.mp hb
  have:=h i (W0G.mpr hi)
  simpa [W0z,hi] using this
 ·intro h i hi
  have hi':=W0G.mp hi
  have:=h bs[i] (VL hi')
  simpa [W0z,hi'] using this
theorem UD (prog:Program)(w:World)(A:Around)(bs:List Bool):TruthOf prog w A (λi v=>((bs.map Value.bool).toArray)[i]? = some v) (λi=>bs.getD i true):=by
 intro i v s Q E h q;have h':bs[i]?.map Value.bool=some v:=by simpa using h
 cases e:bs[i]? with
 |none=>rw [e] at h';cases h'
 |some b=>
  rw [e] at h'
  cases h'
  have:bs.getD i true=b:=by simp [W0z,e]
  have q':Q (bs.getD i true) s:=q
  rw [this] at q'
  exact W0D q'
theorem BL (hc:X.calm=true):Ji X (.builtin "all") (λxs H Q=>∃(a:Addr) (bs:List Bool),xs=[.ref a]/\(SqL X.K H a (bs.map V.bl)\/SqT X.K H a (bs.map V.bl))/\Q (.bl (bs.all id)) H):=by
 intro pins s σ H xs us Q I r h;obtain⟨a,bs,rfl,hq,q⟩:=h
 obtain⟨u,rfl,ru⟩:=BV r
 cases ru;refine call_all_walk ?_
 rcases hq with hq|hq
 ·obtain⟨its,rv,p,hz⟩:=I.list hq
  have e:=TR rv
  subst e;refine W1u p.isList ?_
  have ne:a≠s.heap.objs.size:=by
   obtain⟨o,e,_⟩:=p.isList
   exact WT (Wz e)
  refine⟨_,_,_,_,_,_,λi=>bs.getD i true,rfl,Walks.list (A:=X.A.in1) (show X.A.in1.handled=none from I.ok.hd hc) _ a ne (bs.map Value.bool).toArray,⟨⟨_,WA _ rfl,rfl,rfl⟩,p.isList.extBut (λb o _ e=>Wk _ e) ne⟩,UD _ _ _ bs,λh' tk k=>?_⟩
  have e2:(List.map Value.bool bs).toArray.size=bs.length:=by simp
  rw [e2,B2];exact⟨.bl (bs.all id),H,I.kept (h':=h') (t':=tk) (λb o e=>k b o (by simp [WT (Wz e)]) (Wk _ e)),rfl,q⟩
 ·obtain⟨its,rv,p,hz⟩:=I.tuple hq
  have e:=TR rv
  subst e;refine W0y (show s.heap.IsTuple a (bs.map Value.bool).toArray from p) ?_
  have ne:a≠s.heap.objs.size:=WT p.lt
  refine⟨_,_,_,_,_,_,λi=>bs.getD i true,rfl,Walks.tuple (A:=X.A.in1) (show X.A.in1.handled=none from I.ok.hd hc) _ a ne (bs.map Value.bool).toArray,⟨⟨_,WA _ rfl,rfl,rfl⟩,Heap.IsTuple.extBut (show s.heap.IsTuple a (bs.map Value.bool).toArray from p) (λb o _ e=>Wk _ e) ne⟩,UD _ _ _ bs,λh' tk k=>?_⟩
  have e2:(List.map Value.bool bs).toArray.size=bs.length:=by simp
  rw [e2,B2];exact⟨.bl (bs.all id),H,I.kept (h':=h') (t':=tk) (λb o e=>k b o (by simp [WT (Wz e)]) (Wk _ e)),rfl,q⟩
theorem JM:∀{ys:List Str} {us:List Value},Y4 (ys.map V.str) us->StrsAre us ys
 |[],_,h=>by cases h;exact .nil
 |y :: ys,_,h=>by
  cases h with
  |cons r t=>
   obtain⟨tk,rfl⟩:=r
   exact .cons y tk (JM t)
theorem CV:MtR X "str.join" (λx xs H Q=>∃(sep:Str) (a:Addr) (ys:List Str),x = .str sep/\xs=[.ref a]/\(SqL X.K H a (ys.map V.str)\/SqT X.K H a (ys.map V.str))/\(ys.map (·.length)).sum+ys.length*sep.length<=16777216/\Q (.str (W0W sep ys)) H):=by
 intro pins s σ H x xs v us Q I rx rs h;obtain⟨sep,a,ys,rfl,rfl,hq,hz,q⟩:=h
 obtain⟨t,rfl⟩:=rx
 obtain⟨u,rfl,ru⟩:=BV rs
 cases ru;rcases hq with hq|hq
 ·obtain⟨its,rv,p,_⟩:=I.list hq
  exact join_list p.isList (by simpa using JM rv) hz λt' k=>⟨.str (W0W sep ys),H,I.tok k,⟨t',rfl⟩,q⟩
 ·obtain⟨its,rv,p,_⟩:=I.tuple hq
  exact join_tuple p (by simpa using JM rv) hz λt' k=>⟨.str (W0W sep ys),H,I.tok k,⟨t',rfl⟩,q⟩
section
variable {tg:Expr} {pins:List (Addr×Obj)} {σ:St} {H1:Hp} {s1:Shared} {R:It->Hp->Prop} {E:Value->Shared->Prop} {a:Addr} {xs:List V}
theorem LU (I1:Inv X pins σ H1 s1)(hq:SqL X.K H1 a xs)(q:R (Itl X.K a) H1):wpAny (model X.prog X.w) X.A (pyIter (.ref a)) (PIE X pins σ tg R) E s1:=by
 obtain⟨its,rv,p,hz⟩:=I1.list hq
 refine W1u p.isList ?_
 refine⟨s1.heap.objs.size,[s1.heap.objs.size],_,_,H1,rfl,I1.kept (t':=s1.toks) λb o e=>Wk _ e,Kz a _,⟨_,WA _ rfl,rfl,rfl⟩,λb hb=>?_,q⟩
 have e:b=s1.heap.objs.size:=by simpa using hb
 subst e;exact I1.fpOk (Wt _) (I1.hok.fresh (Wt _))
theorem Cy (I1:Inv X pins σ H1 s1)(hq:SqT X.K H1 a xs)(q:R (Itt X.K a) H1):wpAny (model X.prog X.w) X.A (pyIter (.ref a)) (PIE X pins σ tg R) E s1:=by
 obtain⟨its,rv,p,hz⟩:=I1.tuple hq
 refine W0y (show s1.heap.IsTuple a its.toArray from p) ?_
 refine⟨s1.heap.objs.size,[s1.heap.objs.size],_,_,H1,rfl,I1.kept (t':=s1.toks) λb o e=>Wk _ e,MI a _,⟨_,WA _ rfl,rfl,rfl⟩,λb hb=>?_,q⟩
 have e:b=s1.heap.objs.size:=by simpa using hb
 subst e;exact I1.fpOk (Wt _) (I1.hok.fresh (Wt _))
def Its (x:Str):It:=⟨λi _=>i<x.cps.size,λi H v H'=>H'=H/\∃c,x.cps[i]? = some c/\v = .str ⟨#[c]⟩,λi _=>i=x.cps.size⟩
theorem GQ (P:Program)(w:World){A:Around}(hh:A.handled=none)(it:Addr)(x:Str)(t:Tok):Walks P w A it [it] [it] x.cps.size (SignAt x) (λi h=>h.IsStrIter it (strIterType x) x t i):=by
 cases ha:x.cps.all (· < 128)
 ·have e:strIterType x = "str_iterator":=by simp [strIterType,ha]
  rw [e];exact Walks.strWide hh it x t
 ·have e:strIterType x = "str_ascii_iterator":=by simp [strIterType,ha]
  rw [e];exact Walks.strAscii hh it x t
theorem Lr {P:Program}{w:World}{K:W4}(x:Str)(t:Tok)(it:Addr):Turn P w K tg (Its x) [it] it (λi h=>h.IsStrIter it (strIterType x) x t i) where
 mem:=by simp
 obj:=λi h st b hb=>by
  have e:b=it:=by simpa using hb
  subst e;obtain⟨o,e,c,d⟩:=st
  exact⟨o,e,λv z=>by rw [d] at z;cases z⟩
 keep:=λi h h' st k=>let ⟨o,e,r⟩:=st;⟨o,k it (by simp) o e,r⟩
 item:=by
  intro X hP hw hK hc i pins s σ H E I hf st hg;subst hP hw hK;obtain⟨f0,f1,f2,f3,f4,f5⟩:=hf it (by simp)
  refine (GQ X.prog X.w (I.ok.hd hc) it x t).item i s _ _ hg st λv h' tk hv st' kk=>?_
  obtain⟨c,u,hc',rfl⟩:=hv
  have I1:Inv X pins σ H { s with heap:=h',toks:=tk }:=I.turned (λb o hb e=>kk b o (by simpa using hb) e) f0 f1 f3 f4 f5
  obtain⟨o,e1,e2,e3⟩:=id st'
  refine⟨_,rfl,?_⟩
  have fin:∃y H',Inv X pins σ H' { s with heap:=h',toks:=tk }/\ZO y (.str ⟨#[c]⟩ u)/\(Its x).yld i H y H'/\Heap.IsStrIter h' it (strIterType x) x t (i+1)/\∀b∈[it],H' b=none:=⟨.str ⟨#[c]⟩,H,I1,⟨u,rfl⟩,⟨rfl,c,hc',rfl⟩,st',λb hb=>(hf b hb).1⟩
  unfold letOwnedTupleGo;cases tg<;>exact Wn fin
 done:=by
  intro X hP hw hK hc i pins s σ H E I hf st hg;subst hP hw hK;obtain⟨f0,f1,f2,f3,f4,f5⟩:=hf it (by simp)
  have hi:i=x.cps.size:=hg
  subst hi;exact (GQ X.prog X.w (I.ok.hd hc) it x t).done s _ _ st λh' tk kk=>⟨rfl,I.turned (λb o hb e=>kk b o (by simpa using hb) e) f0 f1 f3 f4 f5⟩
 self:=λA i s Q E st h=>by
  cases ha:x.cps.all (· < 128)
  ·have e:strIterType x = "str_iterator":=by simp [strIterType,ha]
   rw [e] at st;exact wpAny_pyIter_striter_wide st h
  ·have e:strIterType x = "str_ascii_iterator":=by simp [strIterType,ha]
   rw [e] at st;exact wpAny_pyIter_striter_ascii st h
theorem Cz {x:Str}{t:Tok}(I1:Inv X pins σ H1 s1)(q:R (Its x) H1):wpAny (model X.prog X.w) X.A (pyIter (.str x t)) (PIE X pins σ tg R) E s1:=by
 refine wpAny_pyIter_strU ?_
 refine⟨s1.heap.objs.size,[s1.heap.objs.size],_,_,H1,rfl,I1.kept (t':=s1.toks) λb o e=>Wk _ e,Lr x t _,⟨_,WA _ rfl,rfl,rfl⟩,λb hb=>?_,q⟩
 have e:b=s1.heap.objs.size:=by simpa using hb
 subst e;exact I1.fpOk (Wt _) (I1.hok.fresh (Wt _))
end
def Z1D (X:Cx)(tl:TE):TI:=λσ H R=>tl σ H λx H1=>(∃a xs,x = .ref a/\SqL X.K H1 a xs/\R (Itl X.K a) H1)\/(∃a xs,x = .ref a/\SqT X.K H1 a xs/\R (Itt X.K a) H1)\/(∃z,x = .str z/\R (Its z) H1)\/
 (∃a kvs,x = .ref a/\H1 a=some (.dK kvs)/\∀o,(∀o u,X.H₀ a≠some (.frz o u))->R (Itk a o) (upd H1 a (.frz o (.dK kvs))))\/(∃a o kvs,x = .ref a/\H1 a=some (.frz o (.dK kvs))/\R (Itk a o) H1)\/
 (∃a,x = .ref a/\H1 a=some (.dT [])/\∀o,(∀o u,X.H₀ a≠some (.frz o u))->R (Itk a o) (upd H1 a (.frz o (.dK []))))\/
 (∃a kvs,x = .ref a/\H1 a=some (.dT kvs)/\∀o,(∀o u,X.H₀ a≠some (.frz o u))->R (Itq a o) (upd H1 a (.frz o (.dT kvs))))\/∃a o kvs,x = .ref a/\H1 a=some (.frz o (.dT kvs))/\R (Itq a o) H1
theorem Ip {tg l:Expr}{tl:TE}(hl:PE X l tl):PI X tg l (Z1D X tl):=by
 intro pins s σ H R I h;refine thn (hl pins s σ H _ I h) λv s1 ⟨x,H1,I1,r1,q1⟩=>?_
 rcases q1 with ⟨a,xs,rfl,hq,q⟩|⟨a,xs,rfl,hq,q⟩|⟨z,rfl,q⟩|⟨a,kvs,rfl,hq,q⟩|⟨a,o,kvs,rfl,hq,q⟩|⟨a,rfl,hq,q⟩|⟨a,kvs,rfl,hq,q⟩|⟨a,o,kvs,rfl,hq,q⟩
 ·cases r1;exact LU I1 hq q
 ·cases r1;exact Cy I1 hq q
 ·obtain⟨t,rfl⟩:=r1;exact Cz I1 q
 ·cases r1;exact M6 I1 hq q
 ·cases r1;exact Ri I1 hq q
 ·cases r1
  refine M6 (I1.asK hq) Zb λo hn=>?_
  rw [Qp];exact q o hn
 ·cases r1;exact Rj I1 hq q
 ·cases r1;exact M5 I1 hq q
end
end L2
namespace DL
open PySem PySem.Spec PyProof.Rows L2
section
variable {X:Cx} {e a b c:Expr} {es:List Expr} {pos:Pos}
def Jp:D->D->Sto->Option (D×Sto)
 | .int i,.int j,S=>some (.int (i+j),S)
 | .str x,.str y,S=>if x.length+y.length<=Wd then some (.str (x++y),S) else none
 | .tup xs,.tup ys,S=>if xs.length+ys.length<=Wd then some (.tup (xs++ys),S) else none
 | .ref n,.ref m,S=>match S[n]?,S[m]? with
  |some (.lst xs),some (.lst ys)=>if xs.length+ys.length<=Wd then some (.ref S.length,S++[.lst (xs++ys)]) else none
  |_,_=>none
 |_,_,_=>none
theorem Yb:OpD X (binaryOp .Add) Jp:=by
 refine JT (IJ.or (MV.or (F2.or (CN.or II)))) ?_
 rintro x y H Q ⟨ρ,S,d1,d2,v,S',R,h1,h2,e,k⟩
 cases d1 with
 |int i=>
  cases d2 with
  |int j=>
   cases e;exact .inl ⟨i,j,h1.of_int,h2.of_int,k _ ρ H Ext.refl R .flat_int⟩
  |_=>cases e
 |str i=>
  cases d2 with
  |str j=>
   dsimp only [Jp] at e;split at e
   ·cases e
    exact .inr (.inl ⟨i,j,h1.of_str,h2.of_str,by assumption,k _ ρ H Ext.refl R .flat_str⟩)
   ·cases e
  |_=>cases e
 |tup xs=>
  cases d2 with
  |tup ys=>
   dsimp only [Jp] at e;split at e
   ·rename_i hz
    cases e;obtain⟨a,us,rfl,a1,a2⟩:=h1.of_tup
    obtain⟨b,ws,rfl,b1,b2⟩:=h2.of_tup
    cases xs with
    |nil=>
     have:us=[]:=by unfold DsR at a2;exact a2
     subst this;exact .inr (.inr (.inl ⟨a,b,ws,rfl,rfl,.of a1,.of b1,k _ ρ H Ext.refl R (.tup b1 b2)⟩))
    |cons x0 xs=>
     refine .inr (.inr (.inr (.inl ⟨a,b,us,ws,rfl,rfl,.of a1,.of b1,?_,by rw [<-a2.length,<-b2.length];exact hz,λhw=>?_,λhw p hp=>?_⟩)))
     ·intro z
      rw [z] at a2;have:=a2.length
      simp at this
     ·subst hw
      have:ys=[]:=by
       have:=b2.length
       simpa using this
      subst this;rw [V8] at k;exact k _ ρ H Ext.refl R (.tup a1 a2)
     ·exact k _ ρ _ (Ext.new hp) (R.new hp) (.tup Zb ((a2.append b2).up (Ext.new hp)))
   ·cases e
  |_=>cases e
 |ref n=>
  cases d2 with
  |ref m=>
   obtain⟨a,a1,rfl⟩:=h1.of_ref
   obtain⟨b,b1,rfl⟩:=h2.of_ref
   obtain⟨oa,ea,ra⟩:=R.obj a1
   obtain⟨ob,eb,rb⟩:=R.obj b1
   dsimp only [Jp] at e;rw [ea,eb] at e;cases oa with
   |lst xs=>
    cases ob with
    |lst ys=>
     dsimp only at e;split at e
     ·rename_i hz
      cases e;obtain⟨us,u1,u2⟩:=ra
      obtain⟨ws,w1,w2⟩:=rb
      refine .inr (.inr (.inr (.inr ⟨a,b,us,ws,rfl,rfl,u1,w1,by rw [<-u2.length,<-w2.length];exact hz,λp hp=>?_⟩)))
      refine k _ (ρ++[p]) _ (Ext.newRef hp) (R.push hp ⟨_,Zb,(u2.append w2).up (Ext.newRef hp)⟩) (.ref ?_)
      rw [<-R.len];simp
     ·cases e
    |dct _=>cases e
    |fdct _=>cases e
    |ins _ _=>cases e
   |dct _=>cases e
   |fdct _=>cases e
   |ins _ _=>cases e
  |_=>cases e
 |_=>cases e
def O3 (C:Int->Int->Bool)(f:Int->Int->D):D->D->Sto->Option (D×Sto)
 | .int i,.int j,S=>if C i j then some (f i j,S) else none
 |_,_,_=>none
theorem CM {f:Value->Value->Sem Value}{C:Int->Int->Prop}{Cb:Int->Int->Bool}{g:Int->Int->V}{gd:Int->Int->D}(h:OpR X f (rI C g))(hC:∀i j,Cb i j=true->C i j)(hg:∀ρ H i j,DR X.K ρ H (gd i j) (g i j)):OpD X f (O3 Cb gd):=by
 refine JT h ?_
 rintro x y H Q ⟨ρ,S,d1,d2,v,S',R,h1,h2,e,k⟩
 cases d1 with
 |int i=>
  cases d2 with
  |int j=>
   dsimp only [O3] at e;split at e
   ·cases e
    exact⟨i,j,h1.of_int,h2.of_int,hC i j (by assumption),k _ ρ H Ext.refl R (hg ρ H i j)⟩
   ·cases e
  |_=>cases e
 |_=>cases e
theorem F1 {f:Value->Value->Sem Value}{g:Int->Int->V}{gd:Int->Int->D}(h:OpR X f (rI0 g))(hg:∀ρ H i j,DR X.K ρ H (gd i j) (g i j)):OpD X f (O3 (λ_ _=>true) gd):=by
 refine JT h ?_
 rintro x y H Q ⟨ρ,S,d1,d2,v,S',R,h1,h2,e,k⟩
 cases d1 with
 |int i=>
  cases d2 with
  |int j=>
   cases e;exact⟨i,j,h1.of_int,h2.of_int,k _ ρ H Ext.refl R (hg ρ H i j)⟩
  |_=>cases e
 |_=>cases e
def Sd:D->D->Sto->Option (D×Sto):=O3 (λ_ _=>true) λi j=>.int (i-j)
theorem CL:OpD X (binaryOp .Sub) Sd:=F1 ID λ_ _ _ _=>.flat_int
def Ft:D->D->Sto->Option (D×Sto):=O3 (λ_ j=>decide (0<j)) λi j=>.int (i%j)
theorem JV:OpD X (binaryOp .Mod) Ft:=CM IF (λ_ _ h=>of_decide_eq_true h) λ_ _ _ _=>.flat_int
def IR (z:Str)(n:Int):Bool:=decide (0<=n/\n<=1000/\z.length<=1000)
def BU:D->D->Sto->Option (D×Sto)
 | .int i,.int j,S=>if (-(2 ^ 64)<i/\i<2 ^ 64)\/(-(2 ^ 64)<j/\j<2 ^ 64) then some (.int (i*j),S) else none
 | .str z,.int n,S=>if IR z n then some (.str (Txt.mul z n),S) else none
 |_,_,_=>none
theorem F5 {z:Str}{n:Int}(h:IR z n=true):MulOk z n:=by
 obtain⟨h1,h2,h3⟩:=of_decide_eq_true h
 refine⟨?_,λa b=>?_,λa b=>?_⟩
 ·have e1:decide (n < -(2 ^ 63:Int))=false:=decide_eq_false (by omega)
  have e2:decide (n>=2 ^ 63)=false:=decide_eq_false (by omega)
  rw [e1,e2];rfl
 ·intro q
  have hb:(1000:Int)<=(2 ^ 63-1) / n:=by
   rw [Int.le_ediv_iff_mul_le (by omega)]
   omega
  omega
 ·have hm:z.length*n.toNat<=1000*1000:=Nat.mul_le_mul h3 (by omega)
  unfold Builtin.Str.tooLong;have hs:Wd=16777216:=VW
  first
   | (rw [decide_eq_false];omega)
   | (simp;omega)
theorem JU:OpD X (binaryOp .Mult) BU:=by
 refine JT (IE.or MU) ?_
 rintro x y H Q ⟨ρ,S,d1,d2,v,S',R,h1,h2,e,k⟩
 cases d1 with
 |int i=>
  cases d2 with
  |int j=>
   dsimp only [BU] at e;split at e
   ·cases e
    exact .inl ⟨i,j,h1.of_int,h2.of_int,by assumption,k _ ρ H Ext.refl R .flat_int⟩
   ·cases e
  |_=>cases e
 |str z=>
  cases d2 with
  |int j=>
   dsimp only [BU] at e;split at e
   ·cases e
    exact .inr ⟨z,j,h1.of_str,h2.of_int,F5 (by assumption),k _ ρ H Ext.refl R .flat_str⟩
   ·cases e
  |_=>cases e
 |_=>cases e
def gLe:D->D->Sto->Option (D×Sto)
 | .int i,.int j,S=>some (.bl (decide (i<=j)),S)
 | .str i,.str j,S=>some (.bl (!decide (j.cps.toList<i.cps.toList)),S)
 |_,_,_=>none
theorem Bc:OpD X (compareOp .LtE) gLe:=by
 refine JT (Xz.or Rr) ?_
 rintro x y H Q ⟨ρ,S,d1,d2,v,S',R,h1,h2,e,k⟩
 cases d1 with
 |int i=>
  cases d2 with
  |int j=>cases e;exact .inl ⟨i,j,h1.of_int,h2.of_int,k _ ρ H Ext.refl R .flat_bl⟩
  |_=>cases e
 |str i=>
  cases d2 with
  |str j=>cases e;exact .inr ⟨i,j,h1.of_str,h2.of_str,k _ ρ H Ext.refl R .flat_bl⟩
  |_=>cases e
 |_=>cases e
def isD:D->D->Option Bool
 | .bl b,.bl c=>some (b == c)
 |_,.bl _=>some false
 | .non,.non=>some true
 |_,.non=>some false
 |_,_=>none
def gIs:D->D->Sto->Option (D×Sto):=λa b S=>(isD a b).map λr=>(.bl r,S)
theorem DJ {K:W4}{ρ:List Addr}{H:Hp}{d:D}{x:V}{c r:Bool}(h:DR K ρ H d x)(e:isD d (.bl c)=some r):decide (x = .bl c)=r:=by
 cases d with
 |bl b=>rw [h.of_bl];cases e;cases b<;>cases c<;>rfl
 |non=>rw [h.of_non];cases e;rfl
 |int i=>rw [h.of_int];cases e;rfl
 |str i=>rw [h.of_str];cases e;rfl
 |tup xs=>obtain⟨a,us,rfl,_⟩:=h.of_tup;cases e;rfl
 |ref n=>obtain⟨a,_,rfl⟩:=h.of_ref;cases e;rfl
 |scr ns=>obtain⟨a,rfl,_⟩:=h.of_scr;cases e;rfl
theorem Ht {K:W4}{ρ:List Addr}{H:Hp}{d:D}{x:V}{r:Bool}(h:DR K ρ H d x)(e:isD d .non=some r):decide (x = .non)=r:=by
 cases d with
 |bl b=>rw [h.of_bl];cases e;rfl
 |non=>rw [h.of_non];cases e;rfl
 |int i=>rw [h.of_int];cases e;rfl
 |str i=>rw [h.of_str];cases e;rfl
 |tup xs=>obtain⟨a,us,rfl,_⟩:=h.of_tup;cases e;rfl
 |ref n=>obtain⟨a,_,rfl⟩:=h.of_ref;cases e;rfl
 |scr ns=>obtain⟨a,rfl,_⟩:=h.of_scr;cases e;rfl
theorem Pf {d1 d2:D}{r:Bool}(e:isD d1 d2=some r):(∃c,d2 = .bl c)\/d2 = .non:=by
 cases d2 with
 |bl c=>exact .inl ⟨c,rfl⟩
 |non=>exact .inr rfl
 |_=>cases d1<;>cases e
theorem A4:OpD X (compareOp .Is) gIs:=by
 refine JT (IH.or IG) ?_
 rintro x y H Q ⟨ρ,S,d1,d2,v,S',R,h1,h2,e,k⟩
 obtain⟨r,e1,e2⟩:=Wi.mp e
 cases e2;rcases Pf e1 with ⟨c,rfl⟩|rfl
 ·exact .inl ⟨c,h2.of_bl,by rw [DJ h1 e1];exact k _ ρ H Ext.refl R .flat_bl⟩
 ·exact .inr ⟨h2.of_non,by rw [Ht h1 e1];exact k _ ρ H Ext.refl R .flat_bl⟩
def gIx:D->D->Sto->Option (D×Sto)
 | .tup xs,.int i,S=>(atI xs i).map λd=>(d,S)
 | .str z,.int i,S=>if z.length<=Wd then (atI z.cps.toList i).map λc=>(.str ⟨#[c]⟩,S) else none
 | .scr ns,.int i,S=>(atI ns i).map λn=>(.int n,S)
 | .ref n,k,S=>match S[n]? with
  |some (.lst xs)=>(match k with | .int i=>(atI xs i).map λd=>(d,S)|_=>none)
  |_=>(QQ S n k).bind λkvs=>(U8 kvs k).map λd=>(d,S)
 |_,_,_=>none
theorem HR {K:W4}{ρ:List Addr}{H:Hp}{ds:List D}{xs:List V}{i:Int}{d:D}(h:DsR K ρ H ds xs)(e:atI ds i=some d):∃x,atI xs i=some x/\DR K ρ H d x:=by
 unfold atI at e ⊢
 rw [h.length] at e;obtain⟨j,e1,e2⟩:=W2.mp e
 obtain⟨x,h1,h2⟩:=h.get e2
 exact⟨x,by rw [e1];exact h1,h2⟩
theorem HS {α β:Type}{f:α->β}{xs:List α}{i:Int}{a:α}(h:atI xs i=some a):atI (xs.map f) i=some (f a):=by
 unfold atI at h ⊢
 rw [Wm];obtain⟨j,e1,e2⟩:=W2.mp h
 rw [e1];show (xs.map f)[j]? = _
 rw [WH,e2];rfl
def Z0q:R2:=λx y H Q=>∃a v,x = .ref a/\Ut H a y (some v)/\Q v H
theorem Hj (hu:X.A.units+64<cLine):IxR X Z0q:=by
 intro value slice pins s σ H x y v u Q I rx ry h hs;obtain⟨a,z,rfl,g,q⟩:=h
 cases rx;have g':=g.ofSome
 exact tail_any (NE I g') PySem.F.slot_dict_getitem.lookup (PP (by omega) I g' ry λw' s3 I3 rw'=>⟨z,H,I3,rw',q⟩) hs
theorem Hh {K:W4}{x y:V}{H:Hp}{Q:VK}(h:rD K gIx x y H Q):rIx K x y H Q\/Z0q x y H Q:=by
 obtain⟨ρ,S,d1,d2,v,S',R,h1,h2,e,k⟩:=h
 have seq:∀{a:Addr} {xs:List V} {ds:List D} {i:Int},x = .ref a->d2 = .int i->(SqL K H a xs\/SqT K H a xs)->DsR K ρ H ds xs->(atI ds i).map (λd=>(d,S))=some (v,S')->rIx K x y H Q:=by
  intro a xs ds i ex ei hs hd em;subst ex ei;obtain⟨d,e1,e2⟩:=Wi.mp em
  cases e2;obtain⟨z,z1,z2⟩:=HR hd e1
  rcases hs with hs|hs
  ·exact .inl ⟨a,xs,i,z,rfl,h2.of_int,hs,z1,k _ ρ H Ext.refl R z2⟩
  ·exact .inr (.inl ⟨a,xs,i,z,rfl,h2.of_int,hs,z1,k _ ρ H Ext.refl R z2⟩)
 cases d1 with
 |tup ds=>
  cases d2 with
  |int i=>
   obtain⟨a,xs,rfl,a1,a2⟩:=h1.of_tup
   exact .inl (seq rfl rfl (.inr (.of a1)) a2 e)
  |_=>cases e
 |str z=>
  cases d2 with
  |int i=>
   dsimp only [gIx] at e;split at e
   ·rename_i hz
    obtain⟨c,e1,e2⟩:=Wi.mp e
    cases e2;exact .inl (.inr (.inr ⟨z,i,c,h1.of_str,h2.of_int,hz,e1,k _ ρ H Ext.refl R .flat_str⟩))
   ·cases e
  |_=>cases e
 |scr ns=>
  cases d2 with
  |int i=>
   obtain⟨d,e1,e2⟩:=Wi.mp e
   cases e2;obtain⟨a,rfl,a1⟩:=h1.of_scr
   exact .inl (.inl ⟨a,_,i,_,rfl,h2.of_int,a1.seq,HS e1,k _ ρ H Ext.refl R .flat_int⟩)
  |_=>cases e
 |ref n=>
  obtain⟨a,a1,rfl⟩:=h1.of_ref
  dsimp only [gIx] at e;split at e
  ·rename_i xs hn
   obtain⟨ob,eo,ro⟩:=R.obj a1
   rw [hn] at eo;cases eo;obtain⟨ys,y1,y2⟩:=ro
   cases d2 with
   |int i=>exact .inl (seq rfl rfl (.inl (.of y1)) y2 e)
   |_=>cases e
  ·obtain⟨kvs,e3,e⟩:=W2.mp e
   obtain⟨d,e1,e2⟩:=Wi.mp e
   cases e2;obtain⟨g1,_⟩:=NF R a1 e3 h2
   obtain⟨z,z1,z2⟩:=g1 _ e1
   exact .inr ⟨a,z,rfl,z1,k _ ρ H Ext.refl R z2⟩
 |_=>cases d2<;>cases e
theorem Q2 {ma mb:M D}(hu:X.A.units+64<cLine)(ha:SE X a ma)(hb:SE X b mb)(hs:Lc b:=by intro _ _;rfl):SE X (.Subscript a b pos) (mOp gIx ma mb):=by
 refine ZQ (Xw (DG.or (Hj hu)) ha hb hs) ?_
 intro σ H Q h;obtain⟨ρ,en,S,v,S',E,R,e,k⟩:=Gg h
 exact⟨ρ,en,S,v,S',E,R,e,λx ρ1 H1 X1 R1 d1=>by
  obtain⟨ρ2,en2,S2,v2,S2',E2,R2,e2,k2⟩:=k x ρ1 H1 X1 R1 d1
  exact⟨ρ2,en2,S2,v2,S2',E2,R2,e2,λy ρ3 H3 X3 R3 d3=>Hh (k2 y ρ3 H3 X3 R3 d3)⟩⟩
def T9:List D->Option (List Bool)
 |[]=>some []
 | .bl b :: r=>(T9 r).map λbs=>b :: bs
 |_=>none
theorem BO {K:W4}{ρ:List Addr}{H:Hp}:∀{ds:List D} {xs:List V} {bs:List Bool},DsR K ρ H ds xs->T9 ds=some bs->xs=bs.map V.bl
 |[],xs,bs,h,e=>by
  cases e;unfold DsR at h;rw [h];rfl
 |d :: ds,xs,bs,h,e=>by
  unfold DsR at h;obtain⟨x,r,rfl,h1,h2⟩:=h
  cases d with
  |bl b=>
   obtain⟨cs,e1,e2⟩:=Wi.mp e
   cases e2;rw [W1,h1.of_bl,BO h2 e1]
  |_=>cases e
def GX:List D->Option (List Str)
 |[]=>some []
 | .str b :: r=>(GX r).map λbs=>b :: bs
 |_=>none
theorem NQ {K:W4}{ρ:List Addr}{H:Hp}:∀{ds:List D} {xs:List V} {bs:List Str},DsR K ρ H ds xs->GX ds=some bs->xs=bs.map V.str
 |[],xs,bs,h,e=>by
  cases e;unfold DsR at h;rw [h];rfl
 |d :: ds,xs,bs,h,e=>by
  unfold DsR at h;obtain⟨x,r,rfl,h1,h2⟩:=h
  cases d with
  |str b=>
   obtain⟨cs,e1,e2⟩:=Wi.mp e
   cases e2;rw [W1,h1.of_str,NQ h2 e1]
  |_=>cases e
def HZ (m:M (List D)):M D:=λen S=>(m en S).bind λp=>(T9 p.1).map λbs=>(.bl (bs.all id),p.2)
theorem FW {p:Pos}{m:M (List D)}(hc:X.calm=true)(h:SQ X e m)(hg:Gl X "all")(hm:X.mg "all" = none)(hv:WI "all" = some (.builtin "all"))
  (he:Wo [e] X.env=(false,eval e X.env) :: Wo [] X.env:=by rfl):SE X (.Call (.Name "all" p) [e] [] pos) (HZ m):=by
 refine ZQ (J1 (BL hc) hg hm hv (ZP h YD he) (by decide) (by decide) he (by rfl)) ?_
 rintro σ H Q ⟨ρ,en,S,v,S',E,R,e,k⟩
 unfold HZ at e;obtain⟨r,e1,e⟩:=W2.mp e
 obtain⟨bs,e2,e3⟩:=Wi.mp e
 cases e3;refine⟨ρ,en,S,r.1,r.2,E,R,e1,λa xs ρ1 H1 X1 R1 sq d1=>⟨a,bs,rfl,?_,k _ ρ1 H1 X1 R1 .flat_bl⟩⟩
 rw [<-BO d1 e2];exact sq
def A9:D->Sto->Option Nat
 | .str x,_=>if x.length<=Wd then some x.length else none
 | .tup ds,_=>some ds.length
 | .ref n,S=>match S[n]? with|some (.lst ds)=>some ds.length|some (.dct kvs)=>some kvs.length|_=>none
 | .scr ns,_=>some ns.length
 |_,_=>none
def K1 (m:M D):M D:=λen S=>(m en S).bind λp=>(A9 p.1 p.2).map λn=>(.int n,p.2)
theorem Tq:Ji X (.builtin "len") (λxs H Q=>∃a,xs=[V.ref a]/\((∃kvs,Rd H a (.dK kvs)/\Q (.int kvs.length) H)\/∃kvs,Rd H a (.dT kvs)/\Q (.int kvs.length) H)):=by
 intro pins s σ H xs us Q I rx h;obtain⟨a,rfl,h⟩:=h
 obtain⟨u,rfl,ru⟩:=Y4.one rx
 cases ru;rcases h with ⟨kvs,h1,q⟩|⟨kvs,h1,q⟩
 ·exact Z0c I h1 λt s' I'=>⟨.int kvs.length,H,I',⟨t,rfl⟩,q⟩
 ·obtain⟨hz,hS,xs,r,m⟩:=BF I.hok h1
  have hlen:kvs.length=xs.length:=W06 r
  have hs:Wd=16777216:=VW
  refine GK hS m (by omega) ?_
  rw [<-hlen];exact⟨.int kvs.length,H,I.tok _,⟨_,rfl⟩,q⟩
theorem Uc {p:Pos}{m:M D}(h:SE X e m)(hg:Gl X "len")(hm:X.mg "len" = none)(hv:WI "len" = some (.builtin "len"))
  (he:Wo [e] X.env=(false,eval e X.env) :: Wo [] X.env:=by rfl):SE X (.Call (.Name "len" p) [e] [] pos) (K1 m):=by
 refine ZQ (J1 (BK.or (BJ.or Tq)) hg hm hv (ZP h YD he) (by decide) (by decide) he (by rfl)) ?_
 rintro σ H Q ⟨ρ,en,S,v,S',E,R,e,k⟩
 unfold K1 at e;obtain⟨r,e1,e⟩:=W2.mp e
 obtain⟨n,e2,e3⟩:=Wi.mp e
 cases e3;refine⟨ρ,en,S,r.1,r.2,E,R,e1,λx ρ1 H1 X1 R1 d1=>?_⟩
 obtain⟨d,S1⟩:=r
 dsimp only at e2 d1 R1 k;cases d with
 |str z=>
  dsimp only [A9] at e2;split at e2
  ·cases e2
   exact .inr (.inl ⟨z,by rw [d1.of_str],by assumption,k _ ρ1 H1 X1 R1 .flat_int⟩)
  ·cases e2
 |tup ds=>
  cases e2;obtain⟨a,xs,rfl,a1,a2⟩:=d1.of_tup
  exact .inl ⟨a,xs,rfl,.inr (.of a1),by rw [<-a2.length];exact k _ ρ1 H1 X1 R1 .flat_int⟩
 |ref m0=>
  obtain⟨a,a1,rfl⟩:=d1.of_ref
  obtain⟨ob,eo,ro⟩:=R1.obj a1
  dsimp only [A9] at e2;rw [eo] at e2;cases ob with
  |lst ds=>
   cases e2;obtain⟨xs,x1,x2⟩:=ro
   exact .inl ⟨a,xs,rfl,.inl (.of x1),by rw [<-x2.length];exact k _ ρ1 H1 X1 R1 .flat_int⟩
  |dct kvs=>
   cases e2;rcases ro with ⟨ks,xs,x1,x2,x3,x4⟩|⟨ks,xs,x1,x2,x3,x4⟩
   ·have l1:=congrArg V5 x3
    rw [Wm,Wm] at l1;refine .inr (.inr ⟨a,rfl,.inl ⟨_,.inl x1,?_⟩⟩)
    rw [V4,<-x2,Nat.min_self,<-l1];exact k _ ρ1 H1 X1 R1 .flat_int
   ·have l1:=congrArg V5 x3
    rw [Wm,Wm] at l1;refine .inr (.inr ⟨a,rfl,.inr ⟨_,.inl x1,?_⟩⟩)
    rw [V4,<-x2,Nat.min_self,<-l1];exact k _ ρ1 H1 X1 R1 .flat_int
  |fdct kvs=>cases e2
  |ins _ _=>cases e2
 |scr ns=>
  cases e2;obtain⟨a,rfl,a1⟩:=d1.of_scr
  exact .inl ⟨a,_,rfl,.inl a1.seq,by rw [Wm];exact k _ ρ1 H1 X1 R1 .flat_int⟩
 |_=>cases e2
def tyD:D->Sto->Option String
 | .non,_=>some "NoneType"
 | .bl _,_=>some "bool"
 | .int _,_=>some "int"
 | .str _,_=>some "str"
 | .tup _,_=>some "tuple"
 | .ref n,S=>match S[n]? with|some (.lst _)=>some "list" |some (.dct _)=>some "dict" |_=>none
 | .scr _,_=>none
theorem Sn {K:W4}{ρ:List Addr}{H:Hp}{S:Sto}{d:D}{x:V}{T:String}(R:StR K ρ H S)(h:DR K ρ H d x)(e:tyD d S=some T):TyOf K H x (.type T):=by
 cases d with
 |non=>rw [h.of_non];cases e;exact .non
 |bl b=>rw [h.of_bl];cases e;exact .bl b
 |int i=>rw [h.of_int];cases e;exact .int i
 |str z=>rw [h.of_str];cases e;exact .str z
 |tup ds=>
  obtain⟨a,xs,rfl,a1,_⟩:=h.of_tup
  cases e;exact .tup a1
 |ref n=>
  obtain⟨a,a1,rfl⟩:=h.of_ref
  obtain⟨ob,eo,ro⟩:=R.obj a1
  dsimp only [tyD] at e;rw [eo] at e;cases ob with
  |lst ds=>
   cases e;obtain⟨xs,x1,_⟩:=ro
   exact .lst x1
  |dct kvs=>
   cases e;rcases ro with ⟨ks,xs,x1,_⟩|⟨ks,xs,x1,_⟩
   ·exact .dK x1
   ·exact .dT x1
  |fdct _=>cases e
  |ins _ _=>cases e
 |scr ns=>cases e
def UY (T C:String):Bool:=T == C||(T == "bool" && C == "int")
def Isi (K:W4)(C:String):Prop:=∀T∈["NoneType", "bool", "int", "str", "tuple", "list", "dict"],WQ K (.type T) (.type C)=some (UY T C)
theorem Ky {d:D}{S:Sto}{T:String}(e:tyD d S=some T):T∈["NoneType", "bool", "int", "str", "tuple", "list", "dict"]:=by
 cases d with
 |ref n=>
  dsimp only [tyD] at e;split at e<;>cases e<;>simp
 |_=>cases e<;>simp
def Kp (C:String)(m:M D):M D:=λen S=>(m en S).bind λp=>(tyD p.1 p.2).map λT=>(.bl (UY T C),p.2)
theorem FH {C:String}:Ji X (.builtin "isinstance") (λxs H Q=>∃x t b,xs=[x,.ty C]/\TyOf X.K H x t/\WQ X.K t (.type C)=some b/\Q (.bl b) H):=by
 intro pins s σ H xs us Q I r h;obtain⟨x,t,b,rfl,ty,e,q⟩:=h
 obtain⟨u,w',rfl,ru,rw'⟩:=MH r
 cases rw'
 exact Pe I ru ty e λtk=>⟨.bl b,H,I.tok tk,rfl,q⟩
theorem Ud {p p2:Pos}{C:String}{x:Str}{m:M D}(hi:Isi X.K C)(h:SE X a m)(hg:Gl X "isinstance")(hm:X.mg "isinstance" = none)(hv:WI "isinstance" = some (.builtin "isinstance"))
  (hg2:Gl X x) (hm2:X.mg x=none) (hv2:WI x=some (.type C)) (hn2:x≠"__name__":=by decide) (hd2:(x == ("__debug__" : Str))=false:=by decide)
  (he:Wo [a,.Name x p2] X.env=(false,eval a X.env) :: Wo [.Name x p2] X.env:=by rfl) (he2:Wo [.Name x p2] X.env=(false,eval (.Name x p2) X.env) :: Wo [] X.env:=by rfl) :
  SE X (.Call (.Name "isinstance" p) [a,.Name x p2] [] pos) (Kp C m):=by
 refine ZQ (J1 (FH (C:=C)) hg hm hv (ZP h (ZP (Nd hg2 hm2 hv2 (show ZO (.ty C) (.type C) from rfl) hn2 hd2) YD he2) he) (by decide) (by decide) he (by rw [he2];rfl)) ?_
 rintro σ H Q ⟨ρ,en,S,v,S',E,R,e,k⟩
 unfold Kp at e;obtain⟨r,e1,e⟩:=W2.mp e
 obtain⟨T,e2,e3⟩:=Wi.mp e
 cases e3;exact⟨ρ,en,S,r.1,r.2,E,R,e1,λx ρ1 H1 X1 R1 d1=>⟨x,_,_,rfl,Sn R1 d1 e2,hi T (Ky e2),k _ ρ1 H1 X1 R1 .flat_bl⟩⟩
def No (sep:M D)(m:M (List D)):M D:=λen S=>(sep en S).bind λq=>match q.1 with
 | .str x=>(m en q.2).bind λp=>(GX p.1).bind λys=>if (ys.map (·.length)).sum+ys.length*x.length<=16777216 then some (.str (W0W x ys),p.2) else none
 |_=>none
theorem Cg {p:Pos}{sep:M D}{m:M (List D)}(hs:SE X a sep)(h:SQ X e m)(he:PA X [e] (KI (tMQ X.K m) Sz):=by exact ZP h YD)
  (hb:PE X (.Call (.Attribute a "join" p) [e] [] pos) (tBM X.K "str" (λx xs H Q=>∃(sep:Str) (a:Addr) (ys:List Str),x = .str sep/\xs=[.ref a]/\(SqL X.K H a (ys.map V.str)\/SqT X.K H a (ys.map V.str))/\(ys.map (·.length)).sum+ys.length*sep.length<=16777216/\Q (.str (W0W sep ys)) H) (tM X.K sep) (KI (tMQ X.K m) Sz))) :
  SE X (.Call (.Attribute a "join" p) [e] [] pos) (No sep m):=by
 refine ZQ hb ?_
 rintro σ H Q ⟨ρ,en,S,v,S',E,R,e,k⟩
 unfold No at e;obtain⟨q,e0,e⟩:=W2.mp e
 obtain⟨d,S0⟩:=q
 cases d with
 |str x=>
  dsimp only at e;obtain⟨r,e1,e⟩:=W2.mp e
  obtain⟨ys,e2,e⟩:=W2.mp e
  split at e
  ·rename_i hz
   cases e;refine⟨ρ,en,S,.str x,S0,E,R,e0,λz ρ0 H0 X0 R0 d0=>?_⟩
   rw [d0.of_str];refine⟨rfl,ρ0,en,S0,r.1,r.2,E.up X0,R0,e1,λa xs ρ1 H1 X1 R1 sq d1=>⟨x,a,ys,rfl,rfl,?_,hz,k _ ρ1 H1 (X0.trans X1) R1 .flat_str⟩⟩
   rw [<-NQ d1 e2];exact sq
  ·cases e
 |_=>cases e
def Pd:D->Sto->Option (ItD×Sto)
 | .tup ds,S=>some ((ds,.no),S)
 | .ref n,S=>match S[n]? with
  |some (.lst ds)=>some ((ds,.lst n),S)
  |some (.dct kvs)=>if (kvs.all λp=>(QB p.1).isSome)=true then some ((kvs.map (·.1),.fr n kvs true),S.set n (.fdct kvs)) else if (kvs.all λp=>(YZ p.1).isSome)=true then some ((kvs.map (·.1),.fr n kvs true),S.set n (.fdct kvs)) else none
  |some (.fdct kvs)=>some ((kvs.map (·.1),.fr n kvs false),S)
  |_=>none
 | .scr ns,S=>some ((ns.map D.int,.no),S)
 | .str x,S=>some ((x.cps.toList.map λc=>D.str ⟨#[c]⟩,.no),S)
 |_,_=>none
def JB (m:M D):M ItD:=λen S=>(m en S).bind λp=>Pd p.1 p.2
theorem Fj {K:W4}{ρ0:List Addr}{H0:Hp}{n:Nat}{a:Addr}{ds:List D}(ha:ρ0[n]? = some a):ItR K ρ0 H0 (Itl K a) ds (.lst n):=by
 intro ρ H S X R g;have g':S[n]? = some (.lst ds):=g
 obtain⟨a',h1,xs,h2,h3⟩:=R.ob n _ g'
 have e:a'=a:=by
  have:=X.pre n a ha
  rw [this] at h1;exact (WO h1).symm
 subst e;refine⟨λi d hd=>?_,xs,.of h2,by rw [<-h3.length];exact Wt _⟩
 obtain⟨x,x1,x2⟩:=h3.get hd
 refine⟨⟨xs,x,.of h2,x1⟩,λy H' hy=>?_⟩
 obtain⟨rfl,hy⟩:=hy
 have:=hy xs (.of h2)
 rw [x1] at this;cases this;exact⟨Ext.refl,R,x2⟩
theorem Hl {K:W4}{ρ0:List Addr}{H0:Hp}{a:Addr}{ds:List D}{xs:List V}(ha:H0 a=some (.tup xs))(h3:DsR K ρ0 H0 ds xs):ItR K ρ0 H0 (Itt K a) ds .no:=by
 intro ρ H S X R g;have h2:=X.tup a xs ha
 have h3:=h3.up X
 refine⟨λi d hd=>?_,xs,.of h2,by rw [<-h3.length];exact Wt _⟩
 obtain⟨x,x1,x2⟩:=h3.get hd
 refine⟨⟨xs,x,.of h2,x1⟩,λy H' hy=>?_⟩
 obtain⟨rfl,hy⟩:=hy
 have:=hy xs (.of h2)
 rw [x1] at this;cases this;exact⟨Ext.refl,R,x2⟩
theorem Hn {K:W4}{ρ0:List Addr}{H0:Hp}{a:Addr}{ns:List Int}(ha:FL K H0 a ns):ItR K ρ0 H0 (Itl K a) (ns.map D.int) .no:=by
 intro ρ H S X R g;have h2:=(ha.mono X.weak).seq
 have h3:DsR K ρ H (ns.map D.int) (ns.map V.int):=.ints ns
 refine⟨λi d hd=>?_,_,h2,by rw [<-h3.length];exact Wt _⟩
 obtain⟨x,x1,x2⟩:=h3.get hd
 refine⟨⟨_,x,h2,x1⟩,λy H' hy=>?_⟩
 obtain⟨rfl,hy⟩:=hy
 have:=hy _ h2
 rw [x1] at this;cases this;exact⟨Ext.refl,R,x2⟩
theorem Hm {K:W4}{ρ0:List Addr}{H0:Hp}{x:Str}:ItR K ρ0 H0 (Its x) (x.cps.toList.map λc=>D.str ⟨#[c]⟩) .no:=by
 intro ρ H S X R g;refine⟨λi d hd=>?_,by show _=x.cps.size;simp⟩
 rw [WH] at hd;have hd':∃c,x.cps[i]? = some c/\d=D.str ⟨#[c]⟩:=by
  cases q:x.cps.toList[i]? with
  |none=>rw [q] at hd;cases hd
  |some c=>rw [q] at hd;cases hd;exact⟨c,by simpa using q,rfl⟩
 obtain⟨c,hc,rfl⟩:=hd'
 refine⟨(W19.mp hc).1,λy H' hy=>?_⟩
 obtain⟨rfl,c',h1,rfl⟩:=hy
 rw [hc] at h1;cases h1;exact⟨Ext.refl,R,.flat_str⟩
theorem Nw {K:W4}{ρ:List Addr}{H:Hp}{d:D}{k:Key}(e:QB d=some k):DR K ρ H d (kV k):=by
 cases d with
 |int i=>cases e;exact .flat_int
 |str x=>cases e;exact .flat_str
 |_=>cases e
theorem Gy {K:W4}{ρ0:List Addr}{H0:Hp}{n:Nat}{a:Addr}{o:Obj}{tab:List (Key×V)}{kvs:List (D×D)}{th:Bool}(ha:ρ0[n]? = some a)(h0:H0 a=some (.frz o (.dK tab))):ItR K ρ0 H0 (Itk a o) (kvs.map (·.1)) (.fr n kvs th):=by
 intro ρ H S X1 R hg;have hH:=X1.frz a o _ h0
 obtain⟨ob,e1,r⟩:=R.obj (X1.pre n a ha)
 have hg':S[n]? = some (.fdct kvs):=hg
 rw [hg'] at e1;cases e1;rcases r with ⟨o',⟨ks,xs,q1,q2,q3,q4⟩|⟨_,_,q1,_⟩⟩
 rotate_left
 ·rw [hH] at q1;cases q1
 rw [hH] at q1;cases q1;have l1:=congrArg V5 q3
 rw [Wm,Wm] at l1;refine⟨λi d hd=>?_,⟨_,hH,by rw [Wm,V4,<-q2,Nat.min_self,l1]⟩⟩
 rw [WH] at hd;obtain⟨p,p1,p2⟩:=Wi.mp hd
 have li:i<ks.length:=by rw [<-l1];exact (Wj.mp p1).1
 have hk:QB d=some ks[i]:=by
  have:=congrArg (λl=>l[i]?) q3
  simp only [WH,p1,W6,Wl li] at this
  rw [<-p2];exact WO this
 have hz:(ks.zip xs)[i]? = some (ks[i],xs[i]'(by omega)):=by
  rw [Wl (by rw [V4];omega),W0Q]
 refine⟨⟨_,ks[i],xs[i]'(by omega),hH,hz⟩,λx H' y=>?_⟩
 obtain⟨rfl,y2⟩:=y
 obtain⟨k,v,y3,rfl⟩:=y2 _ hH
 rw [hz] at y3;cases y3;exact⟨Ext.refl,R,Nw hk⟩
theorem Me {K:W4}{ρ:List Addr}{H:Hp}:∀{ds:List D} {ks:List Key},Fg ds=some ks->DsR K ρ H ds (ks.map kV)
 |[],_,e=>by cases e;exact .nil
 |d :: ds,ks,e=>by
  obtain⟨k,e1,e⟩:=W2.mp e
  obtain⟨ks',e2,e3⟩:=Wi.mp e
  subst e3;exact .cons (Nw e1) (Me e2)
theorem By {K:W4}{ρ0:List Addr}{H0:Hp}{n:Nat}{a:Addr}{o:Obj}{tab:List (List Key×V)}{kvs:List (D×D)}{th:Bool}(ha:ρ0[n]? = some a)(h0:H0 a=some (.frz o (.dT tab))):ItR K ρ0 H0 (Itq a o) (kvs.map (·.1)) (.fr n kvs th):=by
 intro ρ H S X1 R hg;have hH:=X1.frz a o _ h0
 obtain⟨ob,e1,r⟩:=R.obj (X1.pre n a ha)
 have hg':S[n]? = some (.fdct kvs):=hg
 rw [hg'] at e1;cases e1;rcases r with ⟨o',⟨_,_,q1,_⟩|⟨ks,xs,q1,q2,q3,q4⟩⟩
 ·rw [hH] at q1;cases q1
 rw [hH] at q1;cases q1;have l1:=congrArg V5 q3
 rw [Wm,Wm] at l1;refine⟨λi d hd=>?_,⟨_,hH,by rw [Wm,V4,<-q2,Nat.min_self,l1]⟩⟩
 rw [WH] at hd;obtain⟨p,p1,p2⟩:=Wi.mp hd
 have li:i<ks.length:=by rw [<-l1];exact (Wj.mp p1).1
 have hk:YZ d=some ks[i]:=by
  have:=congrArg (λl=>l[i]?) q3
  simp only [WH,p1,W6,Wl li] at this
  rw [<-p2];exact WO this
 have hz:(ks.zip xs)[i]? = some (ks[i],xs[i]'(by omega)):=by
  rw [Wl (by rw [V4];omega),W0Q]
 refine⟨⟨_,ks[i],xs[i]'(by omega),hH,hz⟩,λx H' y=>?_⟩
 obtain⟨rfl,y2⟩:=y
 obtain⟨k,v,b,y3,rfl,hb⟩:=y2 _ hH
 rw [hz] at y3;cases y3;refine⟨Ext.refl,R,?_⟩
 cases d with
 |tup ds=>exact .tup hb (Me hk)
 |_=>cases hk
theorem MO {tg:Expr}{m:M D}(h:SE X e m):SI X tg e (JB m):=by
 refine Rl (Ip h) ?_
 rintro σ H Q ⟨ρ,en,S,r,S',E,R,e,k⟩
 unfold JB at e;obtain⟨p,e1,e2⟩:=W2.mp e
 refine⟨ρ,en,S,p.1,p.2,E,R,e1,λx ρ1 H1 X1 R1 d1=>?_⟩
 obtain⟨d,S1⟩:=p
 dsimp only at e2 d1 R1 k;cases d with
 |tup ds=>
  cases e2;obtain⟨a,xs,rfl,a1,a2⟩:=d1.of_tup
  exact .inr (.inl ⟨a,xs,rfl,.of a1,k _ ρ1 H1 X1 R1 (Hl a1 a2) trivial⟩)
 |ref n=>
  obtain⟨a,a1,rfl⟩:=d1.of_ref
  obtain⟨ob,eo,ro⟩:=R1.obj a1
  dsimp only [Pd] at e2;rw [eo] at e2;cases ob with
  |lst ds=>
   cases e2;obtain⟨xs,x1,x2⟩:=ro
   exact .inl ⟨a,xs,rfl,.of x1,k _ ρ1 H1 X1 R1 (Fj a1) trivial⟩
  |dct kvs=>
   dsimp only at e2;split at e2
   ·rename_i hk
    cases e2;have ro':∃(ks:List Key) (xs:List V),(H1 a=some (.dK (ks.zip xs))\/(H1 a=some (.dT [])/\ks=[]/\xs=[]))/\ks.length=xs.length/\kvs.map (λp=>QB p.1)=ks.map some/\DsR X.K ρ1 H1 (kvs.map (·.2)) xs:=by
     rcases ro with ⟨ks,xs,q1,q2,q3,q4⟩|⟨ks,xs,q1,q2,q3,q4⟩
     ·exact⟨ks,xs,.inl q1,q2,q3,q4⟩
     ·have hn:=Q0 q3 hk (λ_ _=>J3)
      subst hn;cases ks with
      |nil=>exact⟨[],[],.inr ⟨q1,rfl,rfl⟩,rfl,rfl,.nil⟩
      |cons _ _=>cases q3
    obtain⟨ks,xs,q1,q2,q3,q4⟩:=ro'
    have goK:∀o,(∀o u,X.H₀ a≠some (.frz o u))->H1 a=some (.dK (ks.zip xs))->Q (Itk a o) (upd H1 a (.frz o (.dK (ks.zip xs)))):=λo hn hq=>by
     have hE:Ext ρ1 H1 ρ1 (upd H1 a (.frz o (.dK (ks.zip xs)))):=Ext.upd hq (λ_ z=>nomatch z) λ_ _ z=>nomatch z
     obtain⟨R2,X2⟩:=R1.set (o:=.frz o (.dK (ks.zip xs))) (ob:=.fdct kvs) a1 (λ_ z=>by rw [eo] at z;cases z) ⟨o,.inl ⟨ks,xs,Zb,q2,q3,q4.up hE⟩⟩
     have hX:∀o u,H a≠some (.frz o u):=λo u z=>by have:=X1.frz a o u z;rw [hq] at this;cases this
     have hT:∀ys,H a≠some (.tup ys):=λys z=>by have:=X1.tup a ys z;rw [hq] at this;cases this
     exact k _ ρ1 _ (X1.trans X2) R2 (Gy a1 Zb) ⟨a,a1,hX,hT,hn⟩
    have goT:∀o,(∀o u,X.H₀ a≠some (.frz o u))->H1 a=some (.dT [])->kvs=[]->Q (Itk a o) (upd H1 a (.frz o (.dK []))):=λo hn hq hk=>by
     subst hk;obtain⟨R2,X2⟩:=R1.set (o:=.frz o (.dK [])) (ob:=.fdct []) a1 (λ_ z=>by rw [eo] at z;cases z) ⟨o,.inl ⟨[],[],Zb,rfl,rfl,.nil⟩⟩
     have hX:∀o u,H a≠some (.frz o u):=λo u z=>by have:=X1.frz a o u z;rw [hq] at this;cases this
     have hT:∀ys,H a≠some (.tup ys):=λys z=>by have:=X1.tup a ys z;rw [hq] at this;cases this
     exact k _ ρ1 _ (X1.trans X2) R2 (Gy a1 Zb) ⟨a,a1,hX,hT,hn⟩
    rcases q1 with q1|⟨q1,rfl,rfl⟩
    ·exact .inr (.inr (.inr (.inl ⟨a,_,rfl,q1,λo hn=>goK o hn q1⟩)))
    ·cases kvs with
     |nil=>exact .inr (.inr (.inr (.inr (.inr (.inl ⟨a,rfl,q1,λo hn=>goT o hn q1 rfl⟩)))))
     |cons _ _=>cases q3
   ·rename_i hk0
    split at e2
    ·rename_i hk
     cases e2;rcases ro with ⟨ks,xs,q1,q2,q3,q4⟩|⟨ks,xs,q1,q2,q3,q4⟩
     ·have hn:=Q0 q3 hk (λ_ _=>Qz)
      subst hn;exact absurd rfl hk0
     ·refine .inr (.inr (.inr (.inr (.inr (.inr (.inl ⟨a,_,rfl,q1,λo hn=>?_⟩))))))
      have hE:Ext ρ1 H1 ρ1 (upd H1 a (.frz o (.dT (ks.zip xs)))):=Ext.upd q1 (λ_ z=>nomatch z) λ_ _ z=>nomatch z
      obtain⟨R2,X2⟩:=R1.set (o:=.frz o (.dT (ks.zip xs))) (ob:=.fdct kvs) a1 (λ_ z=>by rw [eo] at z;cases z) ⟨o,.inr ⟨ks,xs,Zb,q2,q3,q4.up hE⟩⟩
      have hX:∀o u,H a≠some (.frz o u):=λo u z=>by have:=X1.frz a o u z;rw [q1] at this;cases this
      have hT:∀ys,H a≠some (.tup ys):=λys z=>by have:=X1.tup a ys z;rw [q1] at this;cases this
      exact k _ ρ1 _ (X1.trans X2) R2 (By a1 Zb) ⟨a,a1,hX,hT,hn⟩
    ·cases e2
  |fdct kvs=>
   cases e2;rcases ro with ⟨o,⟨ks,xs,q1,q2,q3,q4⟩|⟨ks,xs,q1,q2,q3,q4⟩⟩
   ·exact .inr (.inr (.inr (.inr (.inl ⟨a,o,_,rfl,q1,k _ ρ1 H1 X1 R1 (Gy a1 q1) trivial⟩))))
   ·exact .inr (.inr (.inr (.inr (.inr (.inr (.inr ⟨a,o,_,rfl,q1,k _ ρ1 H1 X1 R1 (By a1 q1) trivial⟩))))))
  |ins _ _=>cases e2
 |scr ns=>
  cases e2;obtain⟨a,rfl,a1⟩:=d1.of_scr
  exact .inl ⟨a,_,rfl,a1.seq,k _ ρ1 H1 X1 R1 (Hn a1) trivial⟩
 |str z=>
  cases e2;exact .inr (.inr (.inl ⟨z,d1.of_str,k _ ρ1 H1 X1 R1 Hm trivial⟩))
 |_=>cases e2
def Td (lo:Int)(n:Nat):List D:=(WE n).map λi=>D.int (lo+(i:Nat))
def Tn (m:M D):M ItD:=λen S=>(m en S).bind λp=>match p.1 with | .int j=>if -(2 ^ 62)<=j/\j<2 ^ 62 then some ((Td 0 j.toNat,.no),p.2) else none|_=>none
theorem Ho {K:W4}{ρ0:List Addr}{H0:Hp}{lo:Int}{n:Nat}:ItR K ρ0 H0 (Itr lo n) (Td lo n) .no:=by
 intro ρ H S X R g;refine⟨λi d hd=>?_,by show n<=_;simp [Td]⟩
 unfold Td at hd;rw [WH] at hd;cases q:(WE n)[i]? with
 |none=>rw [q] at hd;cases hd
 |some c=>
  rw [q] at hd;cases hd;obtain⟨h1,h2⟩:=Wj.mp q
  simp at h1 h2
  subst h2;refine⟨h1,λy H' hy=>?_⟩
  obtain⟨rfl,rfl⟩:=hy
  exact⟨Ext.refl,R,.flat_int⟩
theorem TZ {tg:Expr}{p:Pos}{m:M D}(h:SE X a m)(hg:Gl X "range")(hm:X.mg "range" = none)(hs:Wo [a] X.env=[(false,eval a X.env)]:=by rfl):SI X tg (.Call (.Name "range" p) [a] [] pos) (Tn m):=by
 refine Rl (Rk hg hm (ZP h YD (by rw [hs];rfl)) hs) ?_
 rintro σ H Q ⟨ρ,en,S,r,S',E,R,e,k⟩
 unfold Tn at e;obtain⟨q,e1,e⟩:=W2.mp e
 obtain⟨d,S1⟩:=q
 cases d with
 |int j=>
  dsimp only at e;split at e
  ·rename_i hj
   cases e;exact⟨ρ,en,S,.int j,_,E,R,e1,λx ρ1 H1 X1 R1 d1=>⟨j,by rw [d1.of_int],hj.1,hj.2,k _ ρ1 H1 X1 R1 Ho trivial⟩⟩
  ·cases e
 |_=>cases e
end
end DL
namespace DL
open PySem PySem.Spec PyProof.Rows L2
section
variable {X:Cx} {e a b c:Expr} {es:List Expr} {pos:Pos}
def tML (K:W4)(m:M (List D)):TE:=λσ H Q=>∃ρ en S ds S',EnR K ρ H en σ/\StR K ρ H S/\m en S=some (ds,S')/\
 ∀a xs ρ' H',Ext ρ H ρ' H'->StR K ρ' H' S'->H' a=none->DsR K ρ' H' ds xs->Q (.ref a) (upd H' a (.lst xs))
def SL (X:Cx)(e:Expr)(m:M (List D)):Prop:=PE X e (tML X.K m)
theorem Z14 {m:M (List D)}(h:SL X e m):SE X e (Bl m):=by
 refine ZQ h ?_
 rintro σ H Q ⟨ρ,en,S,v,S',E,R,e,k⟩
 unfold Bl at e;obtain⟨p,e1,e2⟩:=Wi.mp e
 cases e2;refine⟨ρ,en,S,p.1,p.2,E,R,e1,λa xs ρ' H' X1 R1 ha d1=>?_⟩
 refine k _ (ρ'++[a]) _ (X1.trans (Ext.newRef ha)) (R1.push ha ⟨xs,Zb,d1.up (Ext.newRef ha)⟩) (.ref ?_)
 rw [<-R1.len];simp
section
variable {tg iter elt:Expr} {ifs:List Expr} {scope:Scope} {tgs cn:List Str} {caps:List Nat} {mi:M ItD} {g:TG} {gd:D->En->Option En} {mc:M Bool} {m:M D}
theorem KN (hc:X.calm=true)(sc:CompSc X scope cn caps)(hi:SI X tg iter mi)(hlow:EQ tgs.length g)(hgd:GD X.K g gd)
  (hg:∀fp s H C,PG (Y2 X scope (tgs++cn) fp s H C) tg g) (hf:∀fp s H C,SF (Y2 X scope (tgs++cn) fp s H C) ifs mc) (he:∀fp s H C,SE (Y2 X scope (tgs++cn) fp s H C) elt m)
  (hs:∀x,foldedSetIterable iter X.env x=pure x:=by intro _;rfl):SL X (.ListComp elt [⟨tg,iter,ifs,0⟩] scope pos) (JC mi tgs.length caps gd mc m):=by
 refine ZQ (Nb (Nc (tt:=tMT X.K mc) (te:=tM X.K m) hc sc.cell sc.kind sc.names sc.free sc.cap hi hlow hg hf he hs)) ?_
 rintro σ H Q ⟨ρ,en,S,ds,S',E,R,e,k⟩
 exact T6 hgd (λ_ _ _ h=>h) E R e k
end
def IV (a b:M D):M D:=λen S=>(a en S).bind λp=>(b en p.2).bind λq=>match p.1 with
 | .ref n=>match p.2[n]?,q.2[n]? with
  |some (.lst _),some (.lst ds)=>if ds.length<Wd then some (.non,q.2.set n (.lst (ds++[q.1]))) else none
  |_,_=>none
 |_=>none
theorem UT {K:W4}{ρ:List Addr}{H:Hp}{S:Sto}{n:Nat}{a:Addr}{ds:List D}(R:StR K ρ H S)(h:ρ[n]? = some a)(e:S[n]? = some (.lst ds)):∃xs,H a=some (.lst xs)/\DsR K ρ H ds xs:=by
 obtain⟨ob,e1,r⟩:=R.obj h
 rw [e] at e1;cases e1;exact r
theorem KR {p:Pos}{ma mb:M D}(ha:SE X a ma)(hb:SE X b mb)(hs:Wo [b] X.env=(false,eval b X.env) :: Wo [] X.env:=by rfl)
  (hbase:attributeBase a ("append" : Str) X.env (eval a X.env)=eval a X.env:=by rfl)
  (hfew:((backTo pos (Wo [b] X.env)).all (λx=>!x.1)&&(backToKw pos (keywordEach [] X.env)).all (λx=>x.1.isSome)
   && decide ([b].length+([]:List Keyword).length+(if ([]:List Keyword).isEmpty then 0 else 1)<30))=true:=by rfl)
  (hline:(p.endLine == pos.line)=true:=by rfl) (hplain:(backTo pos (Wo [] X.env)).any (·.1)=false:=by rfl) :
  SE X (.Call (.Attribute a "append" p) [b] [] pos) (IV ma mb):=by
 refine ZQ (CH PySem.F.plainAttrs_list PySem.F.slot_list_append PySem.F.type_list_append Ry ha (ZP hb YD hs) hbase hfew hline hs hplain) ?_
 rintro σ H Q ⟨ρ,en,S,v,S',E,R,e,k⟩
 unfold IV at e;obtain⟨p,e1,e⟩:=W2.mp e
 obtain⟨q,e2,e⟩:=W2.mp e
 obtain⟨d,S1⟩:=p
 obtain⟨d2,S2⟩:=q
 refine⟨ρ,en,S,d,S1,E,R,e1,λx ρ1 H1 X1 R1 d1=>?_⟩
 cases d with
 |ref n=>
  dsimp only at e;split at e
  ·rename_i ds0 ds hn0 hn
   split at e
   ·rename_i hz
    cases e;obtain⟨l,a1,rfl⟩:=d1.of_ref
    obtain⟨xs0,hx0,_⟩:=UT R1 a1 hn0
    refine⟨.inl ⟨rfl,xs0,.of hx0⟩,ρ1,en,S1,d2,S2,E.up X1,R1,e2,λy ρ2 H2 X2 R2 dy=>?_⟩
    have a2:=X2.pre n l a1
    obtain⟨xs,h1,h2⟩:=UT R2 a2 hn
    refine⟨l,xs,y,rfl,rfl,h1,by rw [<-h2.length];exact hz,?_⟩
    have hd:DsR X.K ρ2 H2 (ds++[d2]) (xs++[y]):=h2.append (.cons dy .nil)
    have hE:Ext ρ2 H2 ρ2 (upd H2 l (.lst (xs++[y]))):=Ext.upd h1 (λ_ z=>nomatch z) λ_ _ z=>nomatch z
    obtain⟨R3,X3⟩:=R2.set (o:=.lst (xs++[y])) (ob:=.lst (ds++[d2])) a2 (λ_ z=>by rw [hn] at z;cases z) ⟨xs++[y],Zb,hd.up hE⟩
    exact k _ ρ2 _ ((X1.trans X2).trans X3) R3 .flat_non
   ·cases e
  ·cases e
 |_=>cases e
def Fc:M D:=λ_ S=>some (.ref S.length,S++[.dct []])
theorem KP:SE X (.Dict [] [] pos) Fc:=by
 refine ZQ LX ?_
 rintro σ H Q ⟨ρ,en,S,v,S',E,R,e,k⟩
 cases e;intro p hp;refine k _ (ρ++[p]) _ (Ext.newRef hp) (R.push hp (.inl ⟨[],[],Zb,rfl,rfl,.nil⟩)) (.ref ?_)
 rw [<-R.len];simp
theorem EO.or {t t':ON}(h:EO X t)(h':EO X t'):EO X (λo i v H Q=>t o i v H Q\/t' o i v H Q):=by
 intro pins s σ H o i v ov iv u Q I ro ri rv q;rcases q with q|q
 ·exact h pins s σ H o i v ov iv u Q I ro ri rv q
 ·exact h' pins s σ H o i v ov iv u Q I ro ri rv q
theorem LA (hu:X.A.units+64<cLine):EO X (λo i v H Q=>∃a H',o = .ref a/\HW H a i v H'/\Q H'):=by
 intro pins s σ H o i v ov iv u Q I ro ri rv h;obtain⟨a,H',rfl,g,q⟩:=h
 cases ro;exact Kf (by omega) I g ri rv λs' I'=>⟨H',I',q⟩
def Cc (a k v:D)(S:Sto):Option Sto:=match a with
 | .ref n=>match S[n]? with
  |some (.lst ds)=>(match k with
   | .int i=>(ixN ds.length i).map λj=>S.set n (.lst (ds.set j v))
   |_=>none)
  |some (.dct kvs)=>if (Yp kvs k&&decide (kvs.length<Wd))=true then some (S.set n (.dct (U6 kvs k v))) else none
  |_=>none
 |_=>none
def QG (mv ma mb:M D):MS:=λen S=>(mv en S).bind λp=>(ma en p.2).bind λq=>(mb en q.2).bind λr=>(Cc q.1 r.1 p.1 r.2).map λS'=>(.nx,en,S')
theorem DsR.setAt {K:W4}{ρ:List Addr}{H:Hp}{d:D}{x:V}(h:DR K ρ H d x):∀{ds:List D} {xs:List V} (j:Nat),DsR K ρ H ds xs->DsR K ρ H (ds.set j d) (xs.set j x)
 |[],xs,j,t=>by unfold DsR at t;subst t;exact .nil
 |c :: ds,xs,j,t=>by
  unfold DsR at t;obtain⟨y,r,rfl,t1,t2⟩:=t
  cases j with
  |zero=>exact .cons h t2
  |succ j=>exact .cons t1 (DsR.setAt h j t2)
theorem JN {v:Expr}{p1:Pos}{mv ma mb:M D}(hu:X.A.units+64<cLine)(hv:SE X v mv)(ha:SE X a ma)(hb:SE X b mb)
  (hs:swapsWithSole [.Subscript a b p1] v pos.line X.env=pure false:=by rfl) (hw:swappedStores [.Subscript a b p1] v X.env=pure none:=by rfl)
  (h1:(assignEach [.Subscript a b p1] X.env).map (·.2)=[assign (.Subscript a b p1) X.env]:=by rfl)
  (hq:∀v,assign (.Subscript a b p1) X.env v=(do
   let ov <-holding [v] (eval a X.env)
   let iv <-holding [v,ov] (eval b X.env)
   standAt p1
   holding [v,ov,iv] (setItem ov iv v)
   release [v,ov,iv] []):=by intro _;rfl):SS X (.Assign [.Subscript a b p1] v pos) (QG mv ma mb):=by
 refine Ui (Im hv (Iq ha hb (EO.or Ly (LA hu)) hq) hs hw h1) ?_
 rintro DD σ H ⟨ρ,en,S,f,en',S',E,R,e,k⟩
 unfold QG at e;obtain⟨p,e1,e⟩:=W2.mp e
 obtain⟨q,e2,e⟩:=W2.mp e
 obtain⟨r,e3,e⟩:=W2.mp e
 obtain⟨S3,e4,e5⟩:=Wi.mp e
 cases e5;refine⟨ρ,en,S,p.1,p.2,E,R,e1,λx ρ1 H1 X1 R1 d1=>⟨ρ1,en,p.2,q.1,q.2,E.up X1,R1,e2,λy ρ2 H2 X2 R2 d2=>⟨ρ2,en,q.2,r.1,r.2,(E.up X1).up X2,R2,e3,λz ρ3 H3 X3 R3 d3=>?_⟩⟩⟩
 obtain⟨qd,qS⟩:=q
 obtain⟨rd,rS⟩:=r
 dsimp only at e4 d2 d3 R3;have d1':=(d1.up X2).up X3
 have d2':=d2.up X3
 cases qd with
 |ref n=>
  obtain⟨l,a1,rfl⟩:=d2'.of_ref
  dsimp only [Cc] at e4;split at e4
  ·rename_i ds hn
   cases rd with
   |int i=>
    obtain⟨j,j1,j2⟩:=Wi.mp e4
    subst j2;obtain⟨xs,h1,h2⟩:=UT R3 a1 hn
    refine .inl ⟨l,xs,i,j,rfl,d3.of_int,h1,by rw [<-h2.length];exact j1,?_⟩
    have hE:Ext ρ3 H3 ρ3 (upd H3 l (.lst (xs.set j x))):=Ext.upd h1 (λ_ z=>nomatch z) λ_ _ z=>nomatch z
    obtain⟨R4,X4⟩:=R3.set (o:=.lst (xs.set j x)) (ob:=.lst (ds.set j p.1)) a1 (λ_ z=>by rw [hn] at z;cases z) ⟨_,Zb,(DsR.setAt d1' j h2).up hE⟩
    exact k ρ3 _ σ (((X1.trans X2).trans X3).trans X4) R4 (E.up (((X1.trans X2).trans X3).trans X4))
   |_=>cases e4
  ·rename_i kvs hn
   split at e4
   ·rename_i hc
    cases e4;rw [Ws,decide_eq_true_eq] at hc;obtain⟨H4,g,R4,X4⟩:=HD R3 a1 hn hc.1 hc.2 d3 d1'
    exact .inr ⟨l,H4,rfl,g,k ρ3 H4 σ (((X1.trans X2).trans X3).trans X4) R4 (E.up (((X1.trans X2).trans X3).trans X4))⟩
   ·cases e4
  ·cases e4
 |_=>cases e4
def Np (ma mb mc:M D):M D:=λen S=>(ma en S).bind λp=>(mb en p.2).bind λq=>(mc en q.2).bind λr=>match p.1 with
 | .ref n=>if K9 p.2 n=true then (QQ r.2 n q.1).map λkvs=>((U8 kvs q.1).getD r.1,r.2) else none
 |_=>none
theorem LY {o e f:Expr}{apos cpos:Pos}{td ty tx:TE}(hu:X.A.units+64<cLine)(ho:PE X o td)(he:PE X e ty)(hf:PE X f tx)(m:M2 X o "get" apos e f cpos) :
  PE X (.Call (.Attribute o "get" apos) [e,f] [] cpos) (λσ H Q=>td σ H λx H1=>∃a,x = .ref a/\IsD H1 a/\ty σ H1 λy H2=>tx σ H2 λz H3=>∃o,Ut H3 a y o/\Q (o.getD z) H3):=by
 intro pins s σ H Q I h;refine wpAny_Call_method m.base m.few m.line PySem.F.plainAttrs_dict W0N PySem.F.type_dict_get (thn (ho pins s σ H _ I h) λu s1 ⟨x,H1,I1,rx,a,ex,d,q1⟩=>?_)
 subst ex;obtain rfl:u=Value.ref a:=rx
 obtain⟨t1,t2,_⟩:=Eg I1 d
 refine⟨t1,t2,?_⟩
 rw [m.trees];refine W0C rfl (W0R (VM (thn (he pins s1 σ H1 _ I1 q1) λiv s2 ⟨y,H2,I2,ry,q2⟩=>
  VM (thn (hf pins s2 σ H2 _ I2 q2) λfv s3 ⟨z,H3,I3,rz,ov,g,q3⟩=>W07 ?_))))
 exact HH (by omega) I3 g ry rz λw' s4 I4 rw'=>⟨_,H3,I4,rw',q3⟩
theorem Ci {apos:Pos}{ma mb mc:M D}(hu:X.A.units+64<cLine)(ha:SE X a ma)(hb:SE X b mb)(hc:SE X c mc)(m:M2 X a "get" apos b c pos:=by exact⟨by rfl,by rfl,by rfl,by rfl⟩) :
  SE X (.Call (.Attribute a "get" apos) [b,c] [] pos) (Np ma mb mc):=by
 refine ZQ (LY hu ha hb hc m) ?_
 rintro σ H Q ⟨ρ,en,S,v,S',E,R,e,k⟩
 unfold Np at e;obtain⟨p,e1,e⟩:=W2.mp e
 obtain⟨q,e2,e⟩:=W2.mp e
 obtain⟨r,e3,e⟩:=W2.mp e
 obtain⟨pd,pS⟩:=p
 refine⟨ρ,en,S,pd,pS,E,R,e1,λx ρ1 H1 X1 R1 d1=>?_⟩
 cases pd with
 |ref n=>
  dsimp only at e;split at e
  ·rename_i hn0
   obtain⟨kvs,hn,e⟩:=Wi.mp e
   ·cases e
    obtain⟨l,a1,rfl⟩:=d1.of_ref
    refine⟨l,rfl,Ef R1 a1 hn0,ρ1,en,pS,q.1,q.2,E.up X1,R1,e2,λy ρ2 H2 X2 R2 d2=>⟨ρ2,en,q.2,r.1,r.2,(E.up X1).up X2,R2,e3,λz ρ3 H3 X3 R3 d3=>?_⟩⟩
    obtain⟨g1,g2⟩:=NF R3 (X3.pre n l (X2.pre n l a1)) hn (d2.up X3)
    cases hd:U8 kvs q.1 with
    |some w=>
     rw [hd] at k;obtain⟨x',x1,x2⟩:=g1 w hd
     exact⟨some x',x1,k _ ρ3 H3 ((X1.trans X2).trans X3) R3 x2⟩
    |none=>
     rw [hd] at k;exact⟨none,g2 hd,k _ ρ3 H3 ((X1.trans X2).trans X3) R3 d3⟩
  ·cases e
 |_=>cases e
def Nn (m:M (List D)):M D:=λen S=>(m en S).map λp=>(.tup p.1,p.2)
theorem N1 {p:Pos}{m:M (List D)}(h:SL X e m)(hg:Gl X "tuple")(hm:X.mg "tuple" = none)(hv:WI "tuple" = some (.type "tuple"))
  (he:Wo [e] X.env=(false,eval e X.env) :: Wo [] X.env:=by rfl):SE X (.Call (.Name "tuple" p) [e] [] pos) (Nn m):=by
 refine ZQ (B8 GJ hg hm hv (ZP h YD he) (by decide) (by decide) he (by rfl)) ?_
 rintro σ H Q ⟨ρ,en,S,v,S',E,R,e,k⟩
 unfold Nn at e;obtain⟨q,e1,e2⟩:=Wi.mp e
 cases e2;refine⟨ρ,en,S,q.1,q.2,E,R,e1,λa xs ρ1 H1 X1 R1 ha d1=>⟨a,xs,rfl,.inl ⟨.of Zb,λl hl=>?_⟩⟩⟩
 exact k _ ρ1 _ ((X1.trans (Ext.new ha)).trans (Ext.new hl)) ((R1.new ha).new hl) (.tup Zb ((d1.up (Ext.new ha)).up (Ext.new hl)))
end
end DL
namespace DL
open PySem PySem.Spec PyProof.Rows L2
section
variable {X:Cx} {e a b c:Expr} {es:List Expr} {pos:Pos}
def FN (xs ys:List D):List D:=(xs.zip ys).map λp=>.tup [p.1,p.2]
def MN:D->Sto->Option (List D×List (Nat×List D))
 | .tup ds,_=>some (ds,[])
 | .ref n,S=>match S[n]? with|some (.lst ds)=>some (ds,[(n,ds)])|_=>none
 |_,_=>none
def gdZ:List (Nat×List D)->Gd
 |[]=>.no
 |g=>.zl g
def IU (ma mb:M D):M ItD:=λen S=>(ma en S).bind λp=>(mb en p.2).bind λq=>(MN p.1 q.2).bind λx=>(MN q.1 q.2).map λy=>((FN x.1 y.1,gdZ (x.2++y.2)),q.2)
theorem Ei {gs:List (Nat×List D)}{ds:List D}{S:Sto}(h:Ld (gdZ gs) ds S):∀p∈gs,S[p.1]? = some (.lst p.2):=by
 cases gs with
 |nil=>intro p hp;cases hp
 |cons _ _=>exact h
def SdR (K:W4)(ρ:List Addr)(H:Hp)(c:Bool)(l:Addr)(ds:List D)(gs:List (Nat×List D)):Prop:=(c=false/\∃vs,H l=some (.tup vs)/\DsR K ρ H ds vs)\/(c=true/\∃n,ρ[n]? = some l/\(n,ds)∈gs)
theorem NU {K:W4}{ρ:List Addr}{H:Hp}{S:Sto}{d:D}{x:V}{r:List D×List (Nat×List D)}(R:StR K ρ H S)(h:DR K ρ H d x)(e:MN d S=some r):∃c l vs,x = .ref l/\TrS c H l vs/\SdR K ρ H c l r.1 r.2:=by
 cases d with
 |tup ds=>
  cases e;obtain⟨a,xs,rfl,a1,a2⟩:=h.of_tup
  exact⟨false,a,xs,rfl,a1,.inl ⟨rfl,xs,a1,a2⟩⟩
 |ref n=>
  obtain⟨a,a1,rfl⟩:=h.of_ref
  dsimp only [MN] at e;split at e
  ·rename_i ds hn
   cases e;obtain⟨xs,x1,x2⟩:=UT R a1 hn
   exact⟨true,a,xs,rfl,x1,.inr ⟨rfl,n,a1,Wv⟩⟩
  ·cases e
 |_=>cases e
theorem SdR.mono {K:W4}{ρ:List Addr}{H:Hp}{c:Bool}{l:Addr}{ds:List D}{gs gs':List (Nat×List D)}(h:SdR K ρ H c l ds gs)(hs:∀p∈gs,p∈gs'):SdR K ρ H c l ds gs':=by
 rcases h with h|⟨h1,n,h2,h3⟩
 ·exact .inl h
 ·exact .inr ⟨h1,n,h2,hs _ h3⟩
theorem SdR.at {K:W4}{ρ0 ρ:List Addr}{H0 H:Hp}{S:Sto}{c:Bool}{l:Addr}{ds:List D}{gs:List (Nat×List D)}(h:SdR K ρ0 H0 c l ds gs)(X1:Ext ρ0 H0 ρ H)(R:StR K ρ H S)(g:∀p∈gs,S[p.1]? = some (.lst p.2)):∃vs,TrS c H l vs/\DsR K ρ H ds vs:=by
 rcases h with ⟨rfl,vs,h1,h2⟩|⟨rfl,n,h1,h2⟩
 ·exact⟨vs,X1.tup _ _ h1,h2.up X1⟩
 ·obtain⟨xs,x1,x2⟩:=UT R (X1.pre n l h1) (g _ h2)
  exact⟨xs,x1,x2⟩
theorem Hk {K:W4}{ρ0:List Addr}{H0:Hp}{c1 c2:Bool}{l1 l2:Addr}{xs ys:List D}{gs:List (Nat×List D)}(s1:SdR K ρ0 H0 c1 l1 xs gs)(s2:SdR K ρ0 H0 c2 l2 ys gs) :
  ItR K ρ0 H0 (Itz c1 l1 c2 l2) (FN xs ys) (gdZ gs):=by
 intro ρ H S X1 R g;obtain⟨vs,t1,d1⟩:=s1.at X1 R (Ei g)
 obtain⟨ws,t2,d2⟩:=s2.at X1 R (Ei g)
 refine⟨λi d hd=>?_,vs,ws,t1,t2,?_⟩
 ·unfold FN at hd
  rw [WH] at hd;obtain⟨q,q1,q2⟩:=Wi.mp hd
  obtain⟨z1,z2⟩:=W1n.mp q1
  obtain⟨x,x1,x2⟩:=d1.get z1
  obtain⟨y,y1,y2⟩:=d2.get z2
  refine⟨⟨vs,ws,x,y,t1,t2,x1,y1⟩,λv H' hy=>?_⟩
  obtain⟨p,x',y',rfl,hn,rfl,e1,e2⟩:=hy
  have e1:=e1 _ t1
  have e2:=e2 _ t2
  rw [x1] at e1;rw [y1] at e2;cases e1;cases e2;subst q2;exact⟨Ext.new hn,R.new hn,.tup Zb ((DsR.cons x2 (.cons y2 .nil)).up (Ext.new hn))⟩
 ·have l1:=d1.length
  have l2:=d2.length
  unfold FN;rw [Wm,V4];omega
theorem SK {elts:List Expr}{kt:Nat}{pt p:Pos}{ma mb:M D}(ha:SE X a ma)(hb:SE X b mb)(hg:Gl X "zip")(hm:X.mg "zip" = none)(hv:WI "zip" = some (.type "zip"))
  (he:Wo [a,b] X.env=(false,eval a X.env) :: Wo [b] X.env:=by rfl) (he2:Wo [b] X.env=(false,eval b X.env) :: Wo [] X.env:=by rfl) :
  SI X (.Tuple elts kt pt) (.Call (.Name "zip" p) [a,b] [] pos) (IU ma mb):=by
 refine Rl (Io hg hm hv (ZP ha (ZP hb YD he2) he) he (by rw [he2];rfl)) ?_
 rintro σ H Q ⟨ρ,en,S,r,S',E,R,e,k⟩
 unfold IU at e;obtain⟨p,e1,e⟩:=W2.mp e
 obtain⟨q,e2,e⟩:=W2.mp e
 obtain⟨x,e3,e⟩:=W2.mp e
 obtain⟨y,e4,e⟩:=Wi.mp e
 cases e;refine⟨ρ,en,S,p.1,p.2,E,R,e1,λu ρ1 H1 X1 R1 d1=>⟨ρ1,en,p.2,q.1,q.2,E.up X1,R1,e2,λv ρ2 H2 X2 R2 d2=>?_⟩⟩
 obtain⟨c1,l1,vs,rfl,t1,s1⟩:=NU R2 (d1.up X2) e3
 obtain⟨c2,l2,ws,rfl,t2,s2⟩:=NU R2 d2 e4
 refine⟨c1,l1,vs,c2,l2,ws,rfl,t1,t2,k _ ρ2 H2 (X1.trans X2) R2 (Hk (s1.mono λp hp=>Vx _ hp) (s2.mono λp hp=>WM _ hp)) ?_⟩
 show GF X (gdZ (x.2++y.2)) ρ2 H
 cases x.2++y.2<;>trivial
theorem Cd {n:Int}{j:Nat}{p2:Pos}:SE X (.UnaryOp .USub (.Constant (.int n) j p2) pos) (Zf (.int (-n))):=by
 refine ZQ (Xu Sm A3) ?_
 rintro σ H Q ⟨ρ,en,S,v,S',E,R,e,k⟩
 cases e;exact⟨n,rfl,k _ ρ H Ext.refl R .flat_int⟩
def Ha (f:Int->Int->Int)(a b:M D):M D:=λen S=>(a en S).bind λp=>(b en p.2).bind λq=>match p.1,q.1 with | .int i,.int j=>some (.int (f i j),q.2)|_,_=>none
def Sb (i j:Int):Int:=if j>i then j else i
theorem Lp {f:Int->Int->Int}{ma mb:M D}{σ:L2.St}{H:Hp}{Q:VK}(h:tM X.K (Ha f ma mb) σ H Q):KI (tM X.K ma) (KI (tM X.K mb) Sz) σ H (λxs H'=>∃i j,xs=[.int i,.int j]/\Q (.int (f i j)) H'):=by
 obtain⟨ρ,en,S,v,S',E,R,e,k⟩:=h
 unfold Ha at e;obtain⟨p,e1,e⟩:=W2.mp e
 obtain⟨q,e2,e⟩:=W2.mp e
 obtain⟨d,S1⟩:=p
 obtain⟨d',S2⟩:=q
 refine⟨ρ,en,S,d,S1,E,R,e1,λx ρ1 H1 X1 R1 d1=>⟨ρ1,en,S1,d',S2,E.up X1,R1,e2,λy ρ2 H2 X2 R2 d2=>?_⟩⟩
 cases d with
 |int i=>
  cases d' with
  |int j=>
   cases e;exact⟨i,j,by rw [d1.of_int,d2.of_int],k _ ρ2 H2 (X1.trans X2) R2 .flat_int⟩
  |_=>cases e
 |_=>cases e
theorem Ce {p:Pos}{ma mb:M D}(hc:X.calm=true)(ha:SE X a ma)(hb:SE X b mb)(hg:Gl X "max")(hm:X.mg "max" = none)(hv:WI "max" = some (.builtin "max"))
  (he:Wo [a,b] X.env=(false,eval a X.env) :: Wo [b] X.env:=by rfl) (he2:Wo [b] X.env=(false,eval b X.env) :: Wo [] X.env:=by rfl):SE X (.Call (.Name "max" p) [a,b] [] pos) (Ha Sb ma mb):=
 ZQ (J1 (PY hc) hg hm hv (ZP ha (ZP hb YD he2) he) (by decide) (by decide) he (by rw [he2];rfl)) λ_ _ _ h=>Lp h
theorem D4 {pins:List (Addr×Obj)}{σ:L2.St}{H:Hp}{s:Shared}{ρ:List Addr}{S:Sto}{d:D}{x:V}{u:Value}{T:String}(I:Inv X pins σ H s)(R:StR X.K ρ H S)(h:DR X.K ρ H d x)(rx:ZO x u)(e:tyD d S=some T) :
  ∃Z,PySem.W.KitX X.K u (.type T) Z/\Z s.heap/\u≠.builtin "__main__.__loader__#opaque":=by
 cases d with
 |non=>rw [h.of_non] at rx;cases e;cases (show u=Value.none from rx);exact⟨_,PySem.W.kitx_none,True.intro,λz=>nomatch z⟩
 |bl b=>rw [h.of_bl] at rx;cases e;cases (show u=Value.bool b from rx);exact⟨_,PySem.W.kitx_bool,True.intro,λz=>nomatch z⟩
 |int i=>rw [h.of_int] at rx;cases e;obtain⟨t,q⟩:=(show ∃t,u=Value.int i t from rx);cases q;exact⟨_,PySem.W.kitx_int,True.intro,λz=>nomatch z⟩
 |str i=>rw [h.of_str] at rx;cases e;obtain⟨t,q⟩:=(show ∃t,u=Value.str i t from rx);cases q;exact⟨_,PySem.W.kitx_str,True.intro,λz=>nomatch z⟩
 |tup ds=>
  obtain⟨a,xs,rfl,a1,_⟩:=h.of_tup
  cases e;cases (show u=Value.ref a from rx)
  obtain⟨its,rv,⟨o,ho,hc,_⟩,_⟩:=I.tuple (.of a1)
  exact⟨_,PySem.W.kitx_tuple,⟨o,ho,hc⟩,λz=>nomatch z⟩
 |ref n=>
  obtain⟨a,a1,rfl⟩:=h.of_ref
  cases (show u=Value.ref a from rx)
  obtain⟨ob,eo,ro⟩:=R.obj a1
  dsimp only [tyD] at e;rw [eo] at e;cases ob with
  |lst ds=>
   cases e;obtain⟨xs,x1,_⟩:=ro
   obtain⟨_,_,n,_,h1⟩:=(show ZK X.prog X.w H s.heap a (.lst xs) from I.hok a _ x1)
   exact⟨_,W1r,⟨_,h1,rfl⟩,λz=>nomatch z⟩
  |dct kvs=>
   cases e;have:IsD H a:=Ef R a1 (by unfold K9;rw [eo])
   obtain⟨t1,_⟩:=Eg I this
   obtain⟨o,ho,hc⟩:=t1
   exact⟨_,W1s,⟨o,ho,hc⟩,λz=>nomatch z⟩
  |fdct _=>cases e
  |ins _ _=>cases e
 |scr ns=>cases e
def RI (C1 C2:String)(m:M D):M D:=λen S=>(m en S).bind λp=>(tyD p.1 p.2).map λT=>(.bl (UY T C1||UY T C2),p.2)
theorem PZ {C1 C2:String}(h1:Isi X.K C1)(h2:Isi X.K C2):Ji X (.builtin "isinstance") (λxs H Q=>∃x p ρ S d T,xs=[x,.ref p]/\H p=some (.tup [.ty C1,.ty C2])/\StR X.K ρ H S/\DR X.K ρ H d x/\tyD d S=some T/\Q (.bl (UY T C1||UY T C2)) H):=by
 intro pins s σ H xs us Q I r h;obtain⟨x,p,ρ,S,d,T,rfl,hp,R,dx,ty,q⟩:=h
 obtain⟨u,w',rfl,ru,rw'⟩:=MH r
 cases rw'
 obtain⟨Z,z1,z2,z3⟩:=D4 I R dx ru ty
 obtain⟨its,rv,⟨o,ho,hc,n,hd⟩,_⟩:=I.tuple (.of hp)
 obtain⟨v1,v2,rfl,r1,r2⟩:=MH rv
 cases (show v1=Value.type C1 from r1)
 cases (show v2=Value.type C2 from r2)
 obtain⟨oc,od,odt,osl⟩:=o
 dsimp only at hc hd;subst hc hd;refine PySem.W.kia_tup z1 I.kIn z2 ho (b:=UY T C1||UY T C2) ?_ z3 λtk=>⟨.bl _,H,I.tok tk,rfl,q⟩
 unfold PySem.W.kitAny;rw [h1 T (Ky ty)];cases UY T C1 with
 |true=>rfl
 |false=>
  dsimp only;unfold PySem.W.kitAny;rw [h2 T (Ky ty)];cases UY T C2<;>rfl
theorem Ch {p p1 p2 p3:Pos}{k3:Nat}{C1 C2:String}{x1 x2:Str}{m:M D}(hi1:Isi X.K C1)(hi2:Isi X.K C2)(h:SE X a m)(hg:Gl X "isinstance")(hm:X.mg "isinstance" = none)(hv:WI "isinstance" = some (.builtin "isinstance"))
  (hg1:Gl X x1) (hm1:X.mg x1=none) (hv1:WI x1=some (.type C1)) (hg2:Gl X x2) (hm2:X.mg x2=none) (hv2:WI x2=some (.type C2))
  (hn1:x1≠"__name__":=by decide) (hd1:(x1 == ("__debug__" : Str))=false:=by decide) (hn2:x2≠"__name__":=by decide) (hd2:(x2 == ("__debug__" : Str))=false:=by decide)
  (he:Wo [a,.Tuple [.Name x1 p1,.Name x2 p2] k3 p3] X.env=(false,eval a X.env) :: Wo [.Tuple [.Name x1 p1,.Name x2 p2] k3 p3] X.env:=by rfl)
  (he2:Wo [.Tuple [.Name x1 p1,.Name x2 p2] k3 p3] X.env=(false,eval (.Tuple [.Name x1 p1,.Name x2 p2] k3 p3) X.env) :: Wo [] X.env:=by rfl)
  (hf1:Wo [.Name x1 p1,.Name x2 p2] X.env=(false,eval (.Name x1 p1) X.env) :: Wo [.Name x2 p2] X.env:=by rfl) (hf2:Wo [.Name x2 p2] X.env=(false,eval (.Name x2 p2) X.env) :: Wo [] X.env:=by rfl) :
  SE X (.Call (.Name "isinstance" p) [a,.Tuple [.Name x1 p1,.Name x2 p2] k3 p3] [] pos) (RI C1 C2 m):=by
 refine ZQ (J1 (PZ (C1:=C1) (C2:=C2) hi1 hi2) hg hm hv (ZP h (ZP (Rn (ZP (Nd hg1 hm1 hv1 (show ZO (.ty C1) (.type C1) from rfl) hn1 hd1) (ZP (Nd hg2 hm2 hv2 (show ZO (.ty C2) (.type C2) from rfl) hn2 hd2) YD hf2) hf1)) YD he2) he) (by decide) (by decide) he (by rw [he2];rfl)) ?_
 rintro σ H Q ⟨ρ,en,S,v,S',E,R,e,k⟩
 unfold RI at e;obtain⟨r,e1,e⟩:=W2.mp e
 obtain⟨T,e2,e3⟩:=Wi.mp e
 cases e3;refine⟨ρ,en,S,r.1,r.2,E,R,e1,λx ρ1 H1 X1 R1 d1=>⟨by show 2<=Wd;decide,λq hq=>⟨x,q,ρ1,r.2,r.1,T,rfl,Zb,R1.new hq,d1.up (Ext.new hq),e2,k _ ρ1 _ (X1.trans (Ext.new hq)) (R1.new hq) .flat_bl⟩⟩⟩
def Jv:List D->Option (List (D×D))
 |[]=>some []
 | .tup [k,v] :: r=>if (QB k).isSome=true then (Jv r).map λps=>(k,v) :: ps else none
 |_=>none
def Ul (kvs:List (D×D))(ps:List (D×D)):List (D×D):=ps.foldl (λacc p=>U6 acc p.1 p.2) kvs
def Bm (m:M D):M D:=λen S=>(m en S).bind λp=>match p.1 with
 | .tup ds=>if ds.length<=Wd then (Jv ds).map λps=>(.ref p.2.length,p.2++[.dct (Ul [] ps)]) else none
 |_=>none
theorem B9 {K:W4}{ρ:List Addr}{H:Hp}:∀{ds:List D} {qs:List (D×D)} {xs:List V},Jv ds=some qs->DsR K ρ H ds xs->
  ∃ps:List (Key×V),xs.length=ps.length/\(∀(j:Nat) k v,ps[j]? = some (k,v)->∃p,xs[j]? = some (.ref p)/\H p=some (.tup [kV k,v]))/\qs.map (λp=>QB p.1)=ps.map (λp=>some p.1)/\DsR K ρ H (qs.map (·.2)) (ps.map (·.2))
 |[],qs,xs,e,h=>by
  cases e;unfold DsR at h;subst h;exact⟨[],rfl,λj k v z=>by simp at z,rfl,.nil⟩
 |d :: ds,qs,xs,e,h=>by
  unfold DsR at h;obtain⟨x,r,rfl,h1,h2⟩:=h
  unfold Jv at e;split at e
  ·rename_i heq;cases heq
  ·rename_i k v r' heq
   cases heq;split at e
   ·rename_i hk
    obtain⟨qs',e1,e2⟩:=Wi.mp e
    subst e2;obtain⟨ps,p1,p2,p3,p4⟩:=B9 e1 h2
    obtain⟨a,us,rfl,a1,a2⟩:=h1.of_tup
    unfold DsR at a2;obtain⟨x1,r1,rfl,b1,b2⟩:=a2
    unfold DsR at b2;obtain⟨x2,r2,rfl,b3,b4⟩:=b2
    unfold DsR at b4;subst b4;obtain⟨k',hk'⟩:=W1t.mp hk
    have ek:=Bq hk' b1
    subst ek;refine⟨(k',x2) :: ps,by simp [p1],λj k v z=>?_,by simp [p3,hk'],.cons b3 p4⟩
    cases j with
    |zero=>
     simp at z
     obtain⟨rfl,rfl⟩:=z
     exact⟨a,by simp,a1⟩
    |succ j=>exact p2 j k v (by simpa using z)
   ·cases e
  ·cases e
theorem BG {K:W4}{ρ:List Addr}{H:Hp}:∀{qs:List (D×D)} {ps:List (Key×V)} {kvs:List (D×D)} {ks:List Key} {xs:List V},qs.map (λp=>QB p.1)=ps.map (λp=>some p.1)->DsR K ρ H (qs.map (·.2)) (ps.map (·.2))->
  kvs.map (λp=>QB p.1)=ks.map some->ks.length=xs.length->DsR K ρ H (kvs.map (·.2)) xs->
  ∃(ks':List Key) (xs':List V),Qa (ks.zip xs) ps=ks'.zip xs'/\ks'.length=xs'.length/\(Ul kvs qs).map (λp=>QB p.1)=ks'.map some/\DsR K ρ H ((Ul kvs qs).map (·.2)) xs'
 |[],ps,kvs,ks,xs,h1,h2,h3,h4,h5=>by
  cases ps with
  |nil=>exact⟨ks,xs,rfl,h4,h3,h5⟩
  |cons _ _=>cases h1
 |q :: qs,ps,kvs,ks,xs,h1,h2,h3,h4,h5=>by
  cases ps with
  |nil=>cases h1
  |cons p ps=>
   simp only [W1,W16] at h1
   obtain⟨g1,g2⟩:=h1
   simp only [W1] at h2
   unfold DsR at h2;obtain⟨x,r,ex,g3,g4⟩:=h2
   cases ex;obtain⟨ks',xs',z1,z2,z3,z4⟩:=BZ QB g1 (OM g1) g3 h3 h4 h5
   obtain⟨ks2,xs2,w1,w2,w3,w4⟩:=BG (kvs:=U6 kvs q.1 q.2) (ks:=ks') (xs:=xs') g2 g4 z3 z2 z4
   refine⟨ks2,xs2,?_,w2,w3,w4⟩
   rw [<-w1,<-z1];rfl
theorem LD {p:Pos}{m:M D}(hcalm:X.calm=true)(h:SE X e m)(hg:Gl X "dict")(hm:X.mg "dict" = none)(hv:WI "dict" = some (.type "dict"))
  (he:Wo [e] X.env=(false,eval e X.env) :: Wo [] X.env:=by rfl):SE X (.Call (.Name "dict" p) [e] [] pos) (Bm m):=by
 refine ZQ (B8 (T7 hcalm) hg hm hv (ZP h YD he) (by decide) (by decide) he (by rfl)) ?_
 rintro σ H Q ⟨ρ,en,S,v,S',E,R,e,k⟩
 unfold Bm at e;obtain⟨q,e1,e⟩:=W2.mp e
 refine⟨ρ,en,S,q.1,q.2,E,R,e1,λx ρ1 H1 X1 R1 d1=>?_⟩
 obtain⟨d,S1⟩:=q
 dsimp only at e d1 R1 k;cases d with
 |tup ds=>
  dsimp only at e;split at e
  ·rename_i hz
   obtain⟨qs,e2,e3⟩:=Wi.mp e
   cases e3;obtain⟨a,xs,rfl,a1,a2⟩:=d1.of_tup
   obtain⟨ps,p1,p2,p3,p4⟩:=B9 e2 a2
   refine⟨a,xs,ps,rfl,a1,p1,by rw [<-p1,<-a2.length];exact hz,p2,λl hl=>?_⟩
   obtain⟨ks,vs,z1,z2,z3,z4⟩:=BG (kvs:=[]) (ks:=[]) (xs:=[]) p3 p4 rfl rfl .nil
   have z1':Qa [] ps=ks.zip vs:=z1
   refine k _ (ρ1++[l]) _ (X1.trans (Ext.newRef hl)) (R1.push hl (.inl ⟨ks,vs,by rw [Zb,z1'],z2,z3,z4.up (Ext.newRef hl)⟩)) (.ref ?_)
   rw [<-R1.len];simp
  ·cases e
 |_=>cases e
end
end DL
namespace DL
open PySem L2 PySem.Spec PyProof.Rows
section
variable {X:Cx} {e a d:Expr} {pos:Pos}
end
end DL
namespace DL
open PySem L2 PySem.Spec PyProof.Rows
mutual
def IsD (h:Heap):D->Value->Prop
 | .int i,v=>∃t,v = .int i t
 | .str x,v=>∃t,v = .str x t
 | .tup ds,v=>∃a its,v = .ref a/\h.IsTuple a its/\IsDs h ds its.toList
 | .non,_=>False
 | .bl _,_=>False
 | .ref _,_=>False
 | .scr _,_=>False
def IsDs (h:Heap):List D->List Value->Prop
 |[],vs=>vs=[]
 |d :: ds,vs=>∃v r,vs=v :: r/\IsD h d v/\IsDs h ds r
end
end DL
namespace DL
open PySem L2 PySem.Spec PyProof.Rows
section
variable {prog:Program} {w:World}
end
end DL
namespace DL
open PySem L2 PySem.Spec PyProof.Rows
section
variable {prog:Program} {w:World}
end
end DL
namespace DL
open PySem L2 PySem.Spec PyProof.Rows
theorem GY {n:Nat}{ds:List D}(hc:Qf n ds):∀{l1 l2:List D},l1.Perm l2->l1.Pairwise leD->l2.Pairwise leD->(∀a∈l1,a∈ds)->l1=l2
 |[],l2,p,_,_,_=>(List.Perm.nil_eq p)
 |a :: l1,[],p,_,_,_=>absurd p.length_eq (by simp)
 |a :: l1,b :: l2,p,h1,h2,hm=>by
  rw [W01] at h1 h2;have hb:b∈a :: l1:=p.mem_iff.mpr Wv
  have ha:a∈b :: l2:=p.mem_iff.mp Wv
  have e:a=b:=by
   rcases Wr.mp hb with z|z
   ·exact z.symm
   ·rcases Wr.mp ha with y|y
    ·exact y
    ·have l1':=h1.1 b z
     have l2':=h2.1 a y
     rcases Go n a b (hc.2 a (hm a Wv) b (hm b hb)) (hc.1 a (hm a Wv)) (hc.1 b (hm b hb)) with w|w|w
     ·exact w
     ·unfold leD at l2';rw [l2'] at w;cases w
     ·unfold leD at l1';rw [l1'] at w;cases w
  subst e;rw [GY hc (List.perm_cons a |>.mp p) h1.2 h2.2 λx hx=>hm x (Wu _ hx)]
section
variable {X:Cx} {e:Expr} {pos:Pos}
end
end DL
namespace DL
open PySem L2 PySem.Spec PyProof.Rows
def Lh (H:Hp)(as:List Addr)(f:Nat->List V):Hp:=λb=>match as.findIdx? (λa=>a == b) with
 |some j=>some (.tup (f j))
 |none=>H b
theorem YM {H:Hp}{as:List Addr}{f:Nat->List V}{b:Addr}(h:b∉as):Lh H as f b=H b:=by
 unfold Lh;have:as.findIdx? (λa=>a == b)=none:=List.findIdx?_eq_none_iff.mpr λa ha=>by
  simp only [beq_eq_false_iff_ne]
  exact λz=>h (z ▸ ha)
 rw [this]
theorem Rw {H:Hp}{as:List Addr}{f:Nat->List V}(hr:as.Pairwise (· < ·)){j:Nat}{a:Addr}(h:as[j]? = some a):Lh H as f a=some (.tup (f j)):=by
 unfold Lh;have:as.findIdx? (λx=>x == a)=some j:=by
  obtain⟨hj,e⟩:=Wj.mp h
  rw [List.findIdx?_eq_some_iff_getElem];refine⟨hj,by simp [e],λi hi=>?_⟩
  have:=W1m.mp hr i j (by omega) hj hi
  rw [e] at this;simp only [beq_iff_eq]
  exact WT this
 rw [this]
section
variable {X:Cx} {pins:List (Addr×Obj)} {σ:L2.St} {H:Hp} {s:Shared}
theorem Fm (I:Inv X pins σ H s){h':Heap}{t':Nat}{as:List Addr}{f:Nat->List V}(k:∀b o,s.heap.get? b=some o->h'.get? b=some o)(hr:as.Pairwise (· < ·))(ha:∀a∈as,s.heap.objs.size<=a)
  (hn:∀(j:Nat) a,as[j]? = some a->∃its:List Value,Y4 (f j) its/\(f j).length<=Wd/\EL h' a its.toArray):Inv X pins σ (Lh H as f) { s with heap:=h',toks:=t' }:=by
 have low:∀b o,s.heap.get? b=some o->b∉as:=λb o e z=>absurd (Wz e) (Nat.not_lt.mpr (ha b z))
 have lowH:∀b o,H b=some o->b∉as:=λb o e z=>by
  have:=I.hok.fresh (ha b z)
  rw [this] at e;cases e
 refine I.un ⟨λb o e _ _ _=>k b o e,λb o e _ _ _=>⟨o.slots,k b o e⟩,λb o e n _=>by rw [YM (low b o e)];exact n,λb o e _=>⟨o,k b o e⟩,λb xs e=>by rw [YM (lowH b _ e)];exact e,λb o u e=>by rw [YM (lowH b _ e)];exact e,λb ps e=>⟨#[],by rw [YM (lowH b _ e),e];simp⟩⟩ λb u e=>?_
 by_cases hb:b∈as
 ·obtain⟨j,hj⟩:=List.mem_iff_getElem?.mp hb
  rw [Rw hr hj] at e;cases e;obtain⟨its,q1,q2,q3⟩:=hn j b hj
  exact⟨q2,its,q1,q3⟩
 ·rw [YM hb] at e
  exact (I.hok b u e).stay (λc v _ q=>k c v q) (λc q=>by rw [YM (lowH c _ q)];exact q) λc xs q=>by rw [YM (lowH c _ q)];exact q
theorem Mw (I:Inv X pins σ H s){ρ:List Addr}{as:List Addr}{f:Nat->List V}(ha:∀a∈as,s.heap.objs.size<=a):Ext ρ H ρ (Lh H as f):=by
 have lowH:∀b o,H b=some o->b∉as:=λb o e z=>by
  have:=I.hok.fresh (ha b z)
  rw [this] at e;cases e
 exact⟨λ_ _ h=>h,λa xs h=>by rw [YM (lowH a _ h)];exact h,λa o u h=>by rw [YM (lowH a _ h)];exact h⟩
theorem Lv (I:Inv X pins σ H s){ρ:List Addr}{S:Sto}(R:StR X.K ρ H S){as:List Addr}{f:Nat->List V}(ha:∀a∈as,s.heap.objs.size<=a):StR X.K ρ (Lh H as f) S:=by
 refine R.mono (Mw I ha).weak λn a h=>?_
 obtain⟨ob,_,ro⟩:=R.obj h
 obtain⟨o,e⟩:=ro.there
 refine YM λz=>?_
 have:=I.hok.fresh (ha a z)
 rw [this] at e;cases e
end
theorem Z01 {kvs:List (Key×V)}{vs:List (Key×Value)}(h:KV kvs vs):∀{j:Nat} {p:Key×V},kvs[j]? = some p->∃q,vs[j]? = some q/\p.1=q.1/\ZO p.2 q.2:=by
 unfold KV at h
 induction h with
 |nil=>intro j p e;cases e
 |cons r t ih=>
  intro j p e;cases j with
  |zero=>cases e;exact⟨_,rfl,r⟩
  |succ j=>exact ih e
theorem Bx {P:Program}{w:World}{k:Key}{v:Value}(h:(ZW P w).is k v=true):ZO (kV k) v:=by
 rcases ZX (k:=k) (v:=v) h with ⟨i,t,rfl,rfl⟩|⟨x,t,rfl,rfl⟩
 ·exact⟨t,rfl⟩
 ·exact⟨t,rfl⟩
theorem B1:∀as:List Addr,Y4 (as.map V.ref) (as.map Value.ref)
 |[]=>.nil
 |a :: as=>.cons rfl (B1 as)
theorem ED {K:W4}{ρ:List Addr}{H:Hp}:∀{ds:List D} {xs:List V},ds.length=xs.length->(∀(j:Nat) d,ds[j]? = some d->∃x,xs[j]? = some x/\DR K ρ H d x)->DsR K ρ H ds xs
 |[],[],_,_=>.nil
 |d :: ds,x :: xs,hl,h=>by
  obtain⟨y,y1,y2⟩:=h 0 d rfl
  cases y1;exact .cons y2 (ED (Nat.succ.inj hl) λj e he=>h (j+1) e he)
def Lf (dk dv:List D):List D:=(dk.zip dv).map λp=>.tup [p.1,p.2]
def Sy (to:TE)(K:W4):TE:=λσ H Q=>to σ H λx H1=>∃(a:Addr) (kvs:List (Key×V)) (ρ:List Addr) (S:Sto) (dk dv:List D),x = .ref a/\H1 a=some (.dK kvs)/\dk.map QB=kvs.map (λp=>some p.1)/\DsR K ρ H1 dv (kvs.map (·.2))/\StR K ρ H1 S/\UH (Lf dk dv)=true/\
 ∀H2 l xs',Ext ρ H1 ρ H2->StR K ρ H2 S->H2 l=none->DsR K ρ H2 (JO (Lf dk dv)) xs'->Q (.ref l) (upd H2 l (.lst xs'))
section
variable {X:Cx} {o:Expr} {pos:Pos}
theorem LV {p ap cp:Pos}{to:TE}(hcalm:X.calm=true)(hu:X.A.units+70<cLine)(h:PE X o to)(hg:Gl X "sorted")(hm:X.mg "sorted" = none)(hv:WI "sorted" = some (.builtin "sorted"))
  (hbase:attributeBase o "items" X.env (eval o X.env)=eval o X.env:=by rfl) (hline:(ap.endLine == cp.line)=true:=by rfl)
  (he2:Wo [.Call (.Attribute o "items" ap) [] [] cp] X.env=(false,eval (.Call (.Attribute o "items" ap) [] [] cp) X.env) :: Wo [] X.env:=by rfl) :
  PE X (.Call (.Name "sorted" p) [.Call (.Attribute o "items" ap) [] [] cp] [] pos) (Sy to X.K):=by
 intro pins s σ H Q I hq;have hh:X.A.handled=none:=I.ok.hd hcalm
 refine Vq (JE I hg hm hv ?_ (by decide) (by decide))
 refine W0K ?_ he2 rfl
 rw [he2];show wpAny _ _ (spliced ((false,eval (.Call (.Attribute o "items" ap) [] [] cp) X.env) :: backTo pos (Wo [] X.env))) _ _ s
 refine VM ?_
 refine wpAny_Call_method0_late hbase hline (thn (h pins s σ H _ I hq) λv s1 ⟨x,H1,I1,r1,q1⟩=>?_)
 obtain⟨a,kvs,ρ,S,dk,dv,rfl,hH,hk,hdv,R,ok,k⟩:=q1
 cases r1;obtain⟨hz,hsys,vs,hkv,hdo⟩:=(show ZK X.prog X.w H1 s1.heap a (.dK kvs) from I1.hok a _ hH)
 obtain⟨ep,hda⟩:=hdo.dictAt
 obtain⟨h1,h2⟩:=FS I1 (show ZO (.ref a) (.ref a) from rfl) (T:="dict") (.inr (.inr (.inl ⟨rfl,.inl ⟨kvs,hH⟩⟩)))
 refine⟨"dict", "dict.items",PySem.F.plainAttrs_dict,PySem.F.slot_dict_items,PySem.F.type_dict_items,h1,h2,W0C rfl (PySem.evalArgs_none ?_)⟩
 refine call_meetsIn PySem.F.slot_dict_items h1 PySem.F.entry_dict_items (PySem.F.args_dict_items_1 _) (meets_dict_items (ZW X.prog X.w) a hsys) ⟨⟨vs,hdo⟩,?_⟩
 refine W07 ?_
 have I2:=I1.kept (h':=s1.heap.push { cls:=.type "dict_items",data:=.fields #[.ref a] }) (t':=s1.toks) λb u e=>Wk _ e
 refine W1j kind_sorted plain_sorted entry_sorted (args_sorted1 _) ?_
 unfold Builtin.«sorted»
 refine W3 (m:=checkCount "sorted" 1 1 _) (Wn ?_)
 have hlen:kvs.length=vs.length:=hkv.length
 have hda2:(s1.heap.push { cls:=.type "dict_items",data:=.fields #[.ref a] }).DictAt (ZW X.prog X.w) a vs ep:=hda.push _
 refine W3 (PySem.W.kdx_collect (A:=X.A.in1) (s:={ s1 with heap:=s1.heap.push { cls:=.type "dict_items",data:=.fields #[.ref a] } }) (r:=s1.heap.objs.size) (by simpa using hh) ⟨_,WA _ rfl,rfl,rfl⟩ hda2 (by omega) λh' tk as keep hal hG=>?_)
 have hal':as.length=kvs.length:=by rw [hal,hlen]
 have above:∀b∈as,(s1.heap.push { cls:=.type "dict_items",data:=.fields #[.ref a] }).objs.size<=b:=λb hb=>Nat.le_of_lt (hG.above b hb)
 let f:Nat->List V:=λj=>match kvs[j]? with
  |some p=>[kV p.1,p.2]
  |none=>[]
 have each:∀(j:Nat) b,as[j]? = some b->∃p:Key×V,kvs[j]? = some p/\f j=[kV p.1,p.2]/\∃its:List Value,Y4 (f j) its/\EL h' b its.toArray:=λj b hb=>by
  obtain⟨key,kk,x,e1,e2,e3⟩:=hG.pairs j b hb
  have hj:j<kvs.length:=by rw [<-hal'];exact (Wj.mp hb).1
  obtain⟨p,hp⟩:∃p,kvs[j]? = some p:=⟨_,Wl hj⟩
  have hf:f j=[kV p.1,p.2]:=by show (match kvs[j]? with|some p=>[kV p.1,p.2]|none=>[])=_;rw [hp]
  obtain⟨q,g1,g2⟩:=Z01 hkv hp
  rw [e1] at g1;cases g1;refine⟨p,hp,hf,[key,x],?_,⟨⟨_,e3,rfl,_,rfl⟩,_,e3,rfl⟩⟩
  rw [hf];refine .cons ?_ (.cons g2.2 .nil)
  have g3:p.1=kk:=g2.1
  rw [g3];exact Bx e2
 have I3:=Fm I2 (h':=h') (t':=tk) (as:=as) (f:=f) keep hG.rise above λj b hb=>by
  obtain⟨p,hp,hf,its,v1,v2⟩:=each j b hb
  exact⟨its,v1,by rw [hf];exact (show 2<=Wd by decide),v2⟩
 have E2:Ext ρ H1 ρ (Lh H1 as f):=Mw I2 above
 have R2:StR X.K ρ (Lh H1 as f) S:=Lv I2 R above
 have hds:DsR X.K ρ (Lh H1 as f) (Lf dk dv) (as.map V.ref):=by
  have l1:dk.length=kvs.length:=by have:=congrArg V5 hk;simpa using this
  have l2:dv.length=kvs.length:=by have:=hdv.length;simpa using this
  refine ED (by unfold Lf;rw [Wm,V4,Wm];omega) λj d hd=>?_
  unfold Lf at hd;rw [WH] at hd;obtain⟨q,q1,rfl⟩:=Wi.mp hd
  have hj:j<kvs.length:=by
   have:=(Wj.mp q1).1
   rw [V4] at this;omega
  obtain⟨b,hb⟩:∃b,as[j]? = some b:=⟨_,Wl (by omega)⟩
  obtain⟨p,hp,hf,_⟩:=each j b hb
  refine⟨.ref b,by rw [WH,hb];rfl,?_⟩
  have q2:=W1n.mp q1
  have kd:QB q.1=some p.1:=by
   have:=congrArg (λl=>l[j]?) hk
   simp only [WH,q2.1,hp,W6] at this
   exact WO this
  obtain⟨y,y1,y2⟩:=hdv.get q2.2
  rw [WH,hp] at y1;cases y1;have at':=Rw (H:=H1) (f:=f) hG.rise hb
  rw [hf] at at'
  exact .tup at' (.cons (Nw kd) (.cons (y2.up E2) .nil))
 refine KL I3 hu hds (B1 as) (by rw [Wm,hal'];exact hz) ok λl xs' hl d'=>k _ l xs' E2 R2 hl d'
end
end DL
namespace DL
open PySem L2 PySem.Spec PyProof.Rows
section
variable {X:Cx} {e a d o:Expr} {pos:Pos}
def DI (kvs:List (D×D)):Bool:=!kvs.isEmpty&&(kvs.all λq=>(QB q.1).isSome)&&UH (Lf (kvs.map (·.1)) (kvs.map (·.2)))
def Tv (ma:M D):M (List D):=λen S=>(ma en S).bind λp=>match p.1 with
 | .ref n=>match p.2[n]? with
  |some (.dct kvs)=>if DI kvs=true then some (JO (Lf (kvs.map (·.1)) (kvs.map (·.2))),p.2) else none
  |_=>none
 |_=>none
theorem Ku:∀{ks:List Key} {xs:List V},ks.length=xs.length->(ks.zip xs).map (λp=>some p.1)=ks.map some
 |[],[],_=>rfl
 |k :: ks,x :: xs,h=>by
  rw [WC,W1,W1,Ku (Nat.succ.inj h)]
theorem Ks:∀{ks:List Key} {xs:List V},ks.length=xs.length->(ks.zip xs).map (·.2)=xs
 |[],[],_=>rfl
 |k :: ks,x :: xs,h=>by
  rw [WC,W1,Ks (Nat.succ.inj h)]
theorem Lx {p ap cp:Pos}{ma:M D}(hcalm:X.calm=true)(hu:X.A.units+70<cLine)(h:SE X o ma)(hg:Gl X "sorted")(hm:X.mg "sorted" = none)(hv:WI "sorted" = some (.builtin "sorted"))
  (hbase:attributeBase o "items" X.env (eval o X.env)=eval o X.env:=by rfl) (hline:(ap.endLine == cp.line)=true:=by rfl)
  (he2:Wo [.Call (.Attribute o "items" ap) [] [] cp] X.env=(false,eval (.Call (.Attribute o "items" ap) [] [] cp) X.env) :: Wo [] X.env:=by rfl) :
  SL X (.Call (.Name "sorted" p) [.Call (.Attribute o "items" ap) [] [] cp] [] pos) (Tv ma):=by
 refine ZQ (LV hcalm hu h hg hm hv hbase hline he2) ?_
 rintro σ H Q ⟨ρ,en,S,ds,S',E,R,e,k⟩
 unfold Tv at e;obtain⟨⟨d1,S1⟩,e1,e⟩:=W2.mp e
 cases d1 with
 |ref n=>
  dsimp only at e;split at e
  ·rename_i kvs hn
   split at e
   ·rename_i ok
    cases e;unfold DI at ok;rw [Ws,Ws] at ok;refine⟨ρ,en,S,.ref n,_,E,R,e1,λx ρ1 H1 X1 R1 d1=>?_⟩
    obtain⟨a,a1,rfl⟩:=d1.of_ref
    obtain⟨ob,eo,ro⟩:=R1.obj a1
    rw [hn] at eo;cases eo;rcases ro with ⟨ks,xs,x1,x2,x3,x4⟩|⟨ks,xs,x1,x2,x3,x4⟩
    ·refine⟨a,ks.zip xs,ρ1,_,kvs.map (·.1),kvs.map (·.2),rfl,x1,?_,by rw [Ks x2];exact x4,R1,ok.2,λH2 l xs' X2 R2 hl d'=>k l xs' ρ1 H2 (X1.trans X2) R2 hl d'⟩
     rw [Ku x2,<-x3,VE];rfl
    ·exfalso
     cases kvs with
     |nil=>cases ok.1.1
     |cons q kvs=>
      have o2:=ok.1.2
      rw [V7,Ws] at o2;cases ks with
      |nil=>cases x3
      |cons k0 ks=>
       rw [W1,W1,W16] at x3;obtain⟨q1,q2⟩:=q
       cases q1 with
       |tup l=>cases o2.1
       |_=>cases x3.1
   ·cases e
  ·cases e
 |_=>cases e
end
end DL
namespace DL
open PySem L2 PySem.Spec PyProof.Rows
section
variable {X:Cx} {e a b:Expr} {pos:Pos}
def C6 (te:TE):TE:=λσ H Q=>te σ H λx H1=>∃j:Int,x = .int j/\0<=j/\j<2 ^ 20/\j.toNat<=Wd/\∀l,H1 l=none->Q (.ref l) (upd H1 l (.lst ((WE j.toNat).map λi=>V.int (i:Nat))))
theorem K5 {n:Nat}{acc:Array Value}(h:ItemsOf (λi v=>∃t,v=Value.int (0 + ↑i*1) t) acc n):Y4 ((WE n).map λi=>V.int (i:Nat)) acc.toList:=by
 obtain⟨h1,h2⟩:=h
 have key:∀(k:Nat) (xs:List Value),xs.length=k->(∀(j:Nat) v,xs[j]? = some v->∃t,v=Value.int (0+(j:Int)*1) t)->Y4 ((WE k).map λi=>V.int (i:Nat)) xs:=by
  intro k
  induction k with
  |zero=>
   intro xs hl _;rw [W0v.mp hl];exact .nil
  |succ k ih=>
   intro xs hl hx;rcases List.eq_nil_or_concat xs with z|⟨ys,y,z⟩
   ·rw [z] at hl;cases hl
   ·rw [List.concat_eq_append] at z
    subst z;rw [WL,W04] at hl;rw [List.range_succ,Vu];refine (ih ys (by omega) λj v hj=>hx j v ?_).append ?_
    ·rw [WR (Wj.mp hj).1];exact hj
    ·obtain⟨t,rfl⟩:=hx ys.length y (by simp)
     refine .cons ⟨t,?_⟩ .nil
     congr 1
     omega
 exact key n acc.toList (by rw [W0j];exact h1) λj v hj=>h2 j v (by rw [<-W0M];exact hj)
theorem Ro {p p2 pos2:Pos}{te:TE}(hcalm:X.calm=true)(h:PE X e te)(hg:Gl X "list")(hm:X.mg "list" = none)(hv:WI "list" = some (.type "list"))(hg2:Gl X "range")(hm2:X.mg "range" = none)
  (he:Wo [e] X.env=(false,eval e X.env) :: Wo [] X.env:=by rfl) (he2:Wo [.Call (.Name "range" p2) [e] [] pos2] X.env=(false,eval (.Call (.Name "range" p2) [e] [] pos2) X.env) :: Wo [] X.env:=by rfl) :
  PE X (.Call (.Name "list" p) [.Call (.Name "range" p2) [e] [] pos2] [] pos) (C6 te):=by
 intro pins s σ H Q I hq;have hh:X.A.handled=none:=I.ok.hd hcalm
 refine Vq (JE I hg hm hv ?_ (by decide) (by decide))
 refine Vp ?_ he2 rfl
 rw [he2];show wpAny _ _ (spliced ((false,eval (.Call (.Name "range" p2) [e] [] pos2) X.env) :: backTo pos (Wo [] X.env))) _ _ s
 refine VM ?_
 let Q1:List V->Hp->Prop:=λvs H1=>match vs with
  |[x]=>∃j:Int,x = .int j/\0<=j/\j<2 ^ 20/\j.toNat<=Wd/\∀l,H1 l=none->Q (.ref l) (upd H1 l (.lst ((WE j.toNat).map λi=>V.int (i:Nat))))
  |_=>False
 refine Call_ (JE I hg2 hm2 boot_range (Vp (thn ((ZP h YD he) pos2 pins s σ H Q1 I hq) λus s1 ⟨vs,H1,I1,r1,q1⟩=>?_) he rfl))
 match vs,r1,q1 with
 |[x],r1,q1=>
  obtain⟨u,rfl,ru⟩:=BV r1
  obtain⟨j,rfl,j0,j1,jz,k⟩:=q1
  obtain⟨t,rfl⟩:=ru
  refine call_range_1 (W07 ?_)
  have I2:=I1.kept (h':=s1.heap.push { cls:=.type "range",data:=.fields #[.int 0 s1.toks,.int j t,.int 1 (s1.toks+1)] }) (t':=s1.toks+1+1) λb u e=>Wk _ e
  refine call_list_range (n:=j.toNat) hh (IsRange.new ..) (small_one (by decide) (by decide) (by omega) (by omega)) (by rw [rangeSize_one];split<;>omega) (by omega) λh' tk acc' c' keep hn hit=>?_
  have I3:=I2.laid (t':=tk) keep (Wt _) (show ZK X.prog X.w _ h' _ (.lst ((WE j.toNat).map λi=>V.int (i:Nat))) from ⟨by rw [Wm,VU];exact jz,acc'.toList,c',K5 hit,by rw [hn]⟩)
  exact⟨.ref _,_,I3,rfl,k _ (I2.hok.fresh (Wt _))⟩
 |[],_,q1=>exact q1.elim
 |_ :: _ :: _,_,q1=>exact q1.elim
def JZ (ma:M D):M (List D):=λen S=>(ma en S).bind λp=>match p.1 with
 | .int j=>if 0<=j/\j<2 ^ 20/\j.toNat<=Wd then some (Td 0 j.toNat,p.2) else none
 |_=>none
theorem Cn {K:W4}{ρ:List Addr}{H:Hp}(n:Nat):DsR K ρ H (Td 0 n) ((WE n).map λi=>V.int (i:Nat)):=by
 have e:Td 0 n=((WE n).map λi=>((i:Nat):Int)).map D.int:=by
  unfold Td;rw [VE];refine W0m λi _=>?_
  simp
 have e2:((WE n).map λi=>V.int (i:Nat))=((WE n).map λi=>((i:Nat):Int)).map V.int:=by rw [VE];rfl
 rw [e,e2];exact DsR.ints _
theorem KM {p p2 pos2:Pos}{ma:M D}(hcalm:X.calm=true)(h:SE X e ma)(hg:Gl X "list")(hm:X.mg "list" = none)(hv:WI "list" = some (.type "list"))(hg2:Gl X "range")(hm2:X.mg "range" = none)
  (he:Wo [e] X.env=(false,eval e X.env) :: Wo [] X.env:=by rfl) (he2:Wo [.Call (.Name "range" p2) [e] [] pos2] X.env=(false,eval (.Call (.Name "range" p2) [e] [] pos2) X.env) :: Wo [] X.env:=by rfl) :
  SL X (.Call (.Name "list" p) [.Call (.Name "range" p2) [e] [] pos2] [] pos) (JZ ma):=by
 refine ZQ (Ro hcalm h hg hm hv hg2 hm2 he he2) ?_
 rintro σ H Q ⟨ρ,en,S,ds,S',E,R,e,k⟩
 unfold JZ at e;obtain⟨⟨d1,S1⟩,e1,e⟩:=W2.mp e
 cases d1 with
 |int j=>
  dsimp only at e;split at e
  ·rename_i hj
   cases e;exact⟨ρ,en,S,.int j,_,E,R,e1,λx ρ1 H1 X1 R1 d1=>⟨j,d1.of_int,hj.1,hj.2.1,hj.2.2,λl hl=>k l _ ρ1 H1 X1 R1 hl (Cn _)⟩⟩
  ·cases e
 |_=>cases e
theorem DsR.erase {K:W4}{ρ:List Addr}{H:Hp}:∀{ds:List D} {xs:List V} (n:Nat),DsR K ρ H ds xs->DsR K ρ H (ds.eraseIdx n) (xs.eraseIdx n)
 |[],xs,n,h=>by
  have e:xs=[]:=by unfold DsR at h;exact h
  subst e;simpa using h
 |d :: ds,xs,0,h=>by
  unfold DsR at h;obtain⟨x,r,h1,h2,h3⟩:=h
  subst h1;exact h3
 |d :: ds,xs,n+1,h=>by
  unfold DsR at h;obtain⟨x,r,h1,h2,h3⟩:=h
  subst h1;exact .cons h2 (DsR.erase n h3)
def Bk (a b:M D):M D:=λen S=>(a en S).bind λp=>(b en p.2).bind λq=>match p.1,q.1 with
 | .ref n,.int i=>match p.2[n]?,q.2[n]? with
  |some (.lst _),some (.lst ds)=>if 0<=i/\i<2 ^ 62 then (ds[i.toNat]?).map λd=>(d,q.2.set n (.lst (ds.eraseIdx i.toNat))) else none
  |_,_=>none
 |_,_=>none
theorem LC {p:Pos}{ma mb:M D}(ha:SE X a ma)(hb:SE X b mb)(hs:Wo [b] X.env=(false,eval b X.env) :: Wo [] X.env:=by rfl)
  (hbase:attributeBase a ("pop" : Str) X.env (eval a X.env)=eval a X.env:=by rfl)
  (hfew:((backTo pos (Wo [b] X.env)).all (λx=>!x.1)&&(backToKw pos (keywordEach [] X.env)).all (λx=>x.1.isSome)
   && decide ([b].length+([]:List Keyword).length+(if ([]:List Keyword).isEmpty then 0 else 1)<30))=true:=by rfl)
  (hline:(p.endLine == pos.line)=true:=by rfl) (hplain:(backTo pos (Wo [] X.env)).any (·.1)=false:=by rfl) :
  SE X (.Call (.Attribute a "pop" p) [b] [] pos) (Bk ma mb):=by
 refine ZQ (CH PySem.F.plainAttrs_list PySem.F.slot_list_pop PySem.F.type_list_pop F6 ha (ZP hb YD hs) hbase hfew hline hs hplain) ?_
 rintro σ H Q ⟨ρ,en,S,v,S',E,R,e,k⟩
 unfold Bk at e;obtain⟨p,e1,e⟩:=W2.mp e
 obtain⟨q,e2,e⟩:=W2.mp e
 obtain⟨d,S1⟩:=p
 obtain⟨d2,S2⟩:=q
 refine⟨ρ,en,S,d,S1,E,R,e1,λx ρ1 H1 X1 R1 d1=>?_⟩
 cases d with
 |ref n=>
  cases d2 with
  |int i=>
   dsimp only at e;split at e
   ·rename_i ds0 ds hn0 hn
    split at e
    ·rename_i hi
     obtain⟨w,hw,e3⟩:=Wi.mp e
     cases e3;obtain⟨l,a1,rfl⟩:=d1.of_ref
     obtain⟨xs0,hx0,_⟩:=UT R1 a1 hn0
     refine⟨.inl ⟨rfl,xs0,.of hx0⟩,ρ1,en,S1,.int i,S2,E.up X1,R1,e2,λy ρ2 H2 X2 R2 dy=>?_⟩
     have a2:=X2.pre n l a1
     obtain⟨xs,h1,h2⟩:=UT R2 a2 hn
     obtain⟨z,z1,z2⟩:=h2.get hw
     have hlt:i.toNat<xs.length:=(Wj.mp z1).1
     have hk:seqIndex? i xs.length=some i.toNat:=by
      unfold seqIndex?
      dsimp only;rw [if_neg (show ¬i<0 by omega),decide_eq_true (show 0<=i from hi.1),decide_eq_true (show i<(xs.length:Int) by omega)]
      rfl
     refine⟨l,xs,i,i.toNat,z,rfl,by rw [dy.of_int],h1,by omega,by omega,hk,z1,?_⟩
     have hE:Ext ρ2 H2 ρ2 (upd H2 l (.lst (xs.eraseIdx i.toNat))):=Ext.upd h1 (λ_ z=>nomatch z) λ_ _ z=>nomatch z
     obtain⟨R3,X3⟩:=R2.set (o:=.lst (xs.eraseIdx i.toNat)) (ob:=.lst (ds.eraseIdx i.toNat)) a2 (λ_ z=>by rw [hn] at z;cases z) ⟨xs.eraseIdx i.toNat,Zb,(h2.erase i.toNat).up hE⟩
     exact k _ ρ2 _ ((X1.trans X2).trans X3) R3 (z2.up hE)
    ·cases e
   ·cases e
  |_=>cases e
 |_=>cases e
end
end DL
namespace DL
open PySem L2 PySem.Spec PyProof.Rows
structure ClsD (K:W4) (cn:Str) (Ca:Addr):Prop where
 ns:WB K Wx cn=some (some (.ref Ca))
 cls:Cls K Ca
def QJ (S:Sto)(n:Nat)(cn:Str):Option (List (Str×D)):=match S[n]? with
 |some (.ins C fs)=>if C=cn then some fs else none
 |_=>none
theorem Mr {S:Sto}{n:Nat}{cn:Str}{fs:List (Str×D)}(h:QJ S n cn=some fs):S[n]? = some (.ins cn fs):=by
 unfold QJ at h;split at h
 ·rename_i C fs' e
  split at h
  ·rename_i q
   cases h;rw [e,q]
  ·cases h
 ·cases h
theorem Tz {K:W4}{ρ:List Addr}{H:Hp}{S:Sto}{n:Nat}{a Ca:Addr}{cn:Str}{fs:List (Str×D)}(R:StR K ρ H S)(h:ρ[n]? = some a)(e:QJ S n cn=some fs)(c:ClsD K cn Ca) :
  ∃dx xs,H a=some (.ins Ca dx ((fs.map (·.1)).zip xs))/\DsR K ρ H (fs.map (·.2)) xs:=by
 obtain⟨ob,e1,r⟩:=R.obj h
 rw [Mr e] at e1;cases e1;obtain⟨Ca',dx,xs,h1,h2,h3⟩:=r
 rw [c.ns] at h1;cases h1;exact⟨dx,xs,h2,h3⟩
theorem JL {K:W4}{ρ:List Addr}{H:Hp}{f:Str}{d:D}:∀{fs:List (Str×D)} {xs:List V},DsR K ρ H (fs.map (·.2)) xs->fs.lookup f=some d->∃x,((fs.map (·.1)).zip xs).lookup f=some x/\DR K ρ H d x
 |[],xs,_,h=>by cases h
 | (g,e) :: fs,xs,h,hl=>by
  rw [W1] at h;unfold DsR at h;obtain⟨x,r,rfl,h1,h2⟩:=h
  rw [W1,WC];rw [V9] at hl ⊢
  cases q:f == g with
  |true=>
   rw [q] at hl;cases hl;exact⟨x,rfl,h1⟩
  |false=>
   rw [q] at hl;exact JL h2 hl
def LQ (f:Str)(v:D):List (Str×D)->List (Str×D)
 |[]=>[(f,v)]
 | (g,x) :: r=>if g=f then (g,v) :: r else (g,x) :: LQ f v r
theorem Kt {K:W4}{ρ:List Addr}{H:Hp}{f:Str}{d:D}{y:V}(hd:DR K ρ H d y):∀{fs:List (Str×D)} {xs:List V},DsR K ρ H (fs.map (·.2)) xs->∃ys,Tg f y ((fs.map (·.1)).zip xs)=((LQ f d fs).map (·.1)).zip ys/\DsR K ρ H ((LQ f d fs).map (·.2)) ys
 |[],xs,h=>⟨[y],rfl,.cons hd .nil⟩
 | (g,e) :: fs,xs,h=>by
  rw [W1] at h;unfold DsR at h;obtain⟨x,r,rfl,h1,h2⟩:=h
  rw [W1,WC];unfold Tg LQ;by_cases q:g=f
  ·rw [if_pos q,if_pos q]
   exact⟨y :: r,rfl,.cons hd h2⟩
  ·rw [if_neg q,if_neg q]
   obtain⟨ys,y1,y2⟩:=Kt hd h2
   exact⟨x :: ys,by rw [y1];rfl,.cons h1 y2⟩
section
variable {X:Cx} {e o value:Expr} {pos pos' tpos:Pos} {cn f:Str} {Ca:Addr}
def K3 (cn f:Str)(m:M D):M D:=λen S=>(m en S).bind λp=>match p.1 with
 | .ref n=>(QJ p.2 n cn).bind λfs=>(fs.lookup f).map λv=>(v,p.2)
 |_=>none
theorem Ue {m:M D}(c:ClsD X.K cn Ca)(na:Qn X.K Ca f)(h:SE X e m)(hb:attributeBase e f X.env (eval e X.env)=eval e X.env:=by rfl):SE X (.Attribute e f pos) (K3 cn f m):=by
 refine ZQ (Iz h hb) ?_
 rintro σ H Q ⟨ρ,en,S,v,S',E,R,e,k⟩
 unfold K3 at e;obtain⟨⟨d1,S1⟩,e1,e⟩:=W2.mp e
 cases d1 with
 |ref n=>
  dsimp only at e;obtain⟨fs,e2,e⟩:=W2.mp e
  obtain⟨w,e3,e4⟩:=Wi.mp e
  cases e4;refine⟨ρ,en,S,.ref n,_,E,R,e1,λx ρ1 H1 X1 R1 d1=>?_⟩
  obtain⟨a,a1,rfl⟩:=d1.of_ref
  obtain⟨dx,xs,h1,h2⟩:=Tz R1 a1 e2 c
  obtain⟨y,y1,y2⟩:=JL h2 e3
  exact⟨a,Ca,dx,_,y,rfl,h1,c.cls,na,y1,k y ρ1 H1 X1 R1 y2⟩
 |_=>cases e
theorem Ph {K:W4}{ρ:List Addr}{H:Hp}{S:Sto}{n:Nat}{a dx:Addr}{fs:List (Str×D)}{xs:List V}{d:D}{y:V}(R:StR K ρ H S)(c:ClsD K cn Ca)(ha:ρ[n]? = some a)(e:QJ S n cn=some fs)(h1:H a=some (.ins Ca dx ((fs.map (·.1)).zip xs)))(h2:DsR K ρ H (fs.map (·.2)) xs)(hd:DR K ρ H d y) :
  StR K ρ (upd H a (.ins Ca dx (Tg f y ((fs.map (·.1)).zip xs)))) (S.set n (.ins cn (LQ f d fs)))/\Ext ρ H ρ (upd H a (.ins Ca dx (Tg f y ((fs.map (·.1)).zip xs)))):=by
 obtain⟨ys,y1,y2⟩:=Kt (f:=f) hd h2
 rw [y1];have hE:Ext ρ H ρ (upd H a (.ins Ca dx (((LQ f d fs).map (·.1)).zip ys))):=Ext.upd h1 (λ_ z=>nomatch z) λ_ _ z=>nomatch z
 exact R.set (ob:=.ins cn (LQ f d fs)) ha (λ_ z=>by rw [Mr e] at z;cases z) ⟨Ca,dx,ys,c.ns,Zb,y2.up hE⟩
def JY (cn f:Str)(mv mo:M D):MS:=λen S=>(mv en S).bind λp=>(mo en p.2).bind λq=>match q.1 with
 | .ref n=>(QJ q.2 n cn).bind λfs=>if fs.length<1000 then some (.nx,en,q.2.set n (.ins cn (LQ f p.1 fs))) else none
 |_=>none
theorem NT {mv mo:M D}(c:ClsD X.K cn Ca)(na:Qn X.K Ca f)(ho:SE X o mo)(hv:SE X value mv)(hs:swapsWith value (some (.Attribute o f pos')) pos.line X.env=pure false:=by rfl):SS X (.Assign [.Attribute o f pos'] value pos) (JY cn f mv mo):=by
 refine Ui (Il ho hv hs) ?_
 rintro DD σ H ⟨ρ,en,S,fl,en',S',E,R,e,k⟩
 unfold JY at e;obtain⟨⟨d1,S1⟩,e1,e⟩:=W2.mp e
 obtain⟨⟨d2,S2⟩,e2,e⟩:=W2.mp e
 cases d2 with
 |ref n=>
  dsimp only at e;obtain⟨fs,e3,e⟩:=W2.mp e
  split at e
  ·rename_i hl
   cases e;refine⟨ρ,en,S,d1,S1,E,R,e1,λy ρ1 H1 X1 R1 dy=>⟨ρ1,en,S1,.ref n,S2,E.up X1,R1,e2,λx ρ2 H2 X2 R2 dx'=>?_⟩⟩
   obtain⟨a,a1,rfl⟩:=dx'.of_ref
   obtain⟨dx,xs,h1,h2⟩:=Tz R2 a1 e3 c
   obtain⟨R3,X3⟩:=Ph (f:=f) R2 c a1 e3 h1 h2 (dy.up X2)
   refine⟨a,Ca,dx,_,rfl,h1,c.cls,na,?_,k ρ2 _ σ ((X1.trans X2).trans X3) R3 (E.up ((X1.trans X2).trans X3))⟩
   rw [V4,Wm];omega
  ·cases e
 |_=>cases e
end
end DL
namespace DL
open PySem L2 PySem.Spec PyProof.Rows
theorem TQ {f:Str}:∀{fs:List (Str×D)} {xs:List V},fs.lookup f=none->((fs.map (·.1)).zip xs).lookup f=none
 |[],xs,_=>by simp
 | (g,e) :: fs,[],_=>by simp
 | (g,e) :: fs,x :: xs,h=>by
  rw [W1,WC];rw [V9] at h ⊢
  cases q:f == g with
  |true=>rw [q] at h;cases h
  |false=>
   rw [q] at h;exact TQ h
section
variable {X:Cx} {a o:Expr} {es:List Expr} {pos apos:Pos} {cn m:Str} {Ca:Addr}
def Yj (cn m:Str)(F:List D->Sto->Option (D×Sto))(mo:M D)(ma:M (List D)):M D:=λen S=>(mo en S).bind λp=>match p.1 with
 | .ref n=>(QJ p.2 n cn).bind λfs=>if (fs.lookup m).isNone=true then (ma en p.2).bind λr=>F (.ref n :: r.1) r.2 else none
 |_=>none
theorem Be {mo:M D}{ma:M (List D)}{n:Nat}{F:List D->Sto->Option (D×Sto)}(c:ClsD X.K cn Ca)(hlen:∀en S r,ma en S=some r->r.1.length=n){σ:L2.St}{H:Hp}{Q:VK}(h:tM X.K (Yj cn m F mo ma) σ H Q):C5 Ca m (spD X.K (n+1) F) [] E0 (tM X.K mo) (tMA X.K ma) σ H Q:=by
 obtain⟨ρ,en,S,v,S',E,R,e,k⟩:=h
 unfold Yj at e;obtain⟨⟨d1,S1⟩,e1,e⟩:=W2.mp e
 cases d1 with
 |ref j=>
  dsimp only at e;obtain⟨fs,e2,e⟩:=W2.mp e
  split at e
  ·rename_i hl
   obtain⟨r,e3,e4⟩:=W2.mp e
   refine⟨ρ,en,S,.ref j,S1,E,R,e1,λx ρ1 H1 X1 R1 d1=>?_⟩
   obtain⟨l,a1,rfl⟩:=d1.of_ref
   obtain⟨dx,xs,h1,h2⟩:=Tz R1 a1 e2 c
   refine⟨l,dx,_,rfl,h1,TQ (by cases q:fs.lookup m with|none=>rfl|some _=>rw [q] at hl;cases hl),ρ1,en,S1,r.1,r.2,E.up X1,R1,e3,λvs ρ2 H2 X2 R2 d2=>?_⟩
   show spD X.K (n+1) F (.ref l :: (vs++[])) H2 Q E0
   rw [V8];exact⟨by rw [WP,<-d2.length,hlen _ _ _ e3],ρ2,r.2,.ref j :: r.1,v,S',R2,.cons (d1.up X2) d2,e4,λz ρ3 H3 X3 R3 d3=>k z ρ3 H3 ((X1.trans X2).trans X3) R3 d3⟩
  ·cases e
 |_=>cases e
def K0 (cn:Str)(F:List D->Sto->Option (D×Sto))(ma:M (List D)):M D:=λen S=>(ma en S).bind λr=>(F (.ref r.2.length :: r.1) (r.2++[.ins cn []])).bind λq=>match q.1 with
 | .non=>some (.ref r.2.length,q.2)
 |_=>none
theorem Rz {ma:M (List D)}{n:Nat}{F:List D->Sto->Option (D×Sto)}(c:ClsD X.K cn Ca)(hlen:∀en S r,ma en S=some r->r.1.length=n){σ:L2.St}{H:Hp}{Q:VK}(h:tM X.K (K0 cn F ma) σ H Q):SC Ca (spD X.K (n+1) F) [] E0 (tMA X.K ma) σ H Q:=by
 obtain⟨ρ,en,S,v,S',E,R,e,k⟩:=h
 unfold K0 at e;obtain⟨r,e1,e⟩:=W2.mp e
 obtain⟨⟨d2,S2⟩,e2,e⟩:=W2.mp e
 cases d2 with
 |non=>
  cases e;refine⟨ρ,en,S,r.1,r.2,E,R,e1,λvs ρ1 H1 X1 R1 d1 x dx hx hdx hne=>?_⟩
  have hx':upd H1 dx (.own x) x=none:=by rw [Zl (Ne.symm hne)];exact hx
  have R2:=(R1.new (o:=.own x) hdx).push (o:=.ins Ca dx []) (ob:=.ins cn []) hx' ⟨Ca,dx,[],c.ns,Zb,.nil⟩
  have X2:Ext ρ1 H1 (ρ1++[x]) (upd (upd H1 dx (.own x)) x (.ins Ca dx [])):=(Ext.new hdx).trans (Ext.newRef hx')
  have hat:(ρ1++[x])[r.2.length]? = some x:=by rw [<-R1.len];simp
  rw [V8];exact⟨by rw [WP,<-d1.length,hlen _ _ _ e1],ρ1++[x],r.2++[.ins cn []],.ref r.2.length :: r.1,.non,S2,R2,.cons (.ref hat) (d1.up X2),e2,λz ρ3 H3 X3 R3 d3=>⟨d3.of_non,k _ ρ3 H3 ((X1.trans X2).trans X3) R3 (.ref (X3.pre _ _ hat))⟩⟩
 |_=>cases e
variable {k n:Nat} {f:Addr} {fd:FuncData} {ps:List Str} {F:List D->Sto->Option (D×Sto)} {mo:M D} {ma:M (List D)}
theorem ZV {pl:Sem Bool}(c:ClsD X.K cn Ca)(ho:SE X o mo)(hm:Meth X.K Ca m f)(hF:FnOk X.prog X.w X.K X.mg X.base CX0 k f fd ps (spD X.K (n+1) F))(hr:Room k X.A)(hb:Qv X.K fd ps [])(ha:SA X (a :: es) ma)(hlen:∀en S r,ma en S=some r->r.1.length=n)
  (hst:Wo (a :: es) X.env=(false,eval a X.env) :: Wo es X.env:=by rfl) (hpl:(backTo pos (Wo es X.env)).any (·.1)=false:=by rfl)
  (ht:eval (.Call (.Attribute o m apos) (a :: es) [] pos) X.env=(do
   let ov <-eval o X.env
   standAt apos.atName
   let (f,first) <-holding [ov] (getMethod ov m pl)
   callWith pos f first (backTo pos (Wo (a :: es) X.env)) (backToKw pos (keywordEach [] X.env))):=by rfl):SE X (.Call (.Attribute o m apos) (a :: es) [] pos) (Yj cn m F mo ma):=
 ZQ (CB ho c.cls hm hF hr hb .nil F0 ha hst hpl ht) λ_ _ _=>Be c hlen
theorem Cf {x:Str}{p:Pos}(c:ClsD X.K cn Ca)(M:L2.Mk X.K Ca f)(hF:FnOk X.prog X.w X.K X.mg X.base CX0 k f fd ps (spD X.K (n+1) F))(hr:Room (k+1) X.A)(hg:Gl X x)(hm:X.mg x=some (.ref Ca))(hb:Qv X.K fd ps [])(ha:SA X (a :: es) ma)(hlen:∀en S r,ma en S=some r->r.1.length=n)
  (hdb:(x == ("__debug__" : Str))=false:=by decide) (he:Wo (a :: es) X.env=(false,eval a X.env) :: Wo es X.env:=by rfl) (hpl:(backTo pos (Wo es X.env)).any (·.1)=false:=by rfl):SE X (.Call (.Name x p) (a :: es) [] pos) (K0 cn F ma):=
 ZQ (CC M hF hr hg hm hb .nil F0 ha hdb he hpl) λ_ _ _=>Rz c hlen
theorem Jr {pl:Sem Bool}(c:ClsD X.K cn Ca)(ho:SE X o mo)(hm:Meth X.K Ca m f)(hF:FnOk X.prog X.w X.K X.mg X.base CX0 k f fd ps (spD X.K 1 F))(hr:Room k X.A)(hb:Qv X.K fd ps [])
  (ht:eval (.Call (.Attribute o m apos) [] [] pos) X.env=(do
   let ov <-eval o X.env
   standAt apos.atName
   let (f,first) <-holding [ov] (getMethod ov m pl)
   callWith pos f first (backTo pos (Wo [] X.env)) (backToKw pos (keywordEach [] X.env))):=by rfl):SE X (.Call (.Attribute o m apos) [] [] pos) (Yj cn m F mo Zg):=by
 refine ZQ (LW ho c.cls hm hF hr hb .nil F0 ht) λσ H Q h=>?_
 obtain⟨ρ,en,S,v,S',E,R,e,q⟩:=Be (n:=0) c (λen S r e=>by cases e;rfl) h
 refine⟨ρ,en,S,v,S',E,R,e,λx ρ1 H1 X1 R1 d1=>?_⟩
 obtain⟨l,dx,fs,h1,h2,h3,ρ2,en2,S2,ds,S3,E2,R2,e3,q2⟩:=q x ρ1 H1 X1 R1 d1
 cases e3;exact⟨l,dx,fs,h1,h2,h3,q2 [] ρ2 H1 Ext.refl R2 .nil⟩
end
end DL
namespace DL
open PySem L2 PySem.Spec PyProof.Rows
section
variable {X:Cx} {o value:Expr} {pos tpos:Pos} {cn f:Str} {Ca:Addr}
def RG:MS:=λ_ _=>none
theorem TW {st:Stmt}:SS X st RG:=by
 intro pins s σ H D I h;obtain⟨ρ,en,S,fl,en',S',E,R,e,k⟩:=h
 cases e
def UR (cn f:Str)(mv mo:M D):MS:=λen S=>(mo en S).bind λp=>match p.1 with
 | .ref n=>(QJ p.2 n cn).bind λfs=>match fs.lookup f with
  |some (.int i)=>(mv en p.2).bind λq=>match q.1 with
   | .int j=>(QJ q.2 n cn).bind λgs=>if gs.length<1000 then some (.nx,en,q.2.set n (.ins cn (LQ f (.int (i+j)) gs))) else none
   |_=>none
  |_=>none
 |_=>none
theorem KK {mv mo:M D}(c:ClsD X.K cn Ca)(na:Qn X.K Ca f)(ho:SE X o mo)(hv:SE X value mv):SS X (.AugAssign (.Attribute o f tpos) .Add value pos) (UR cn f mv mo):=by
 refine Ui (Rf ho hv DM) ?_
 rintro DD σ H ⟨ρ,en,S,fl,en',S',E,R,e,k⟩
 unfold UR at e;obtain⟨⟨d1,S1⟩,e1,e⟩:=W2.mp e
 cases d1 with
 |ref n=>
  dsimp only at e;obtain⟨fs,e2,e⟩:=W2.mp e
  split at e
  ·rename_i i hi
   obtain⟨⟨d2,S2⟩,e3,e⟩:=W2.mp e
   cases d2 with
   |int j=>
    dsimp only at e;obtain⟨gs,e4,e⟩:=W2.mp e
    split at e
    ·rename_i hl
     cases e;refine⟨ρ,en,S,.ref n,S1,E,R,e1,λx ρ1 H1 X1 R1 d1=>?_⟩
     obtain⟨a,a1,rfl⟩:=d1.of_ref
     obtain⟨dx,xs,h1,h2⟩:=Tz R1 a1 e2 c
     obtain⟨y,y1,y2⟩:=JL h2 hi
     refine⟨a,Ca,dx,_,y,rfl,h1,c.cls,na,y1,ρ1,en,S1,.int j,S2,E.up X1,R1,e3,λz ρ2 H2 X2 R2 d2=>?_⟩
     have a2:=X2.pre n a a1
     obtain⟨dx2,zs,g1,g2⟩:=Tz R2 a2 e4 c
     rw [y2.of_int,d2.of_int];obtain⟨R3,X3⟩:=Ph (f:=f) R2 c a2 e4 g1 g2 (DR.flat_int (i:=i+j))
     refine⟨i,j,rfl,rfl,dx2,_,g1,?_,k ρ2 _ σ ((X1.trans X2).trans X3) R3 (E.up ((X1.trans X2).trans X3))⟩
     rw [V4,Wm];omega
    ·cases e
   |_=>cases e
  ·cases e
 |_=>cases e
end
end DL
namespace DL
open PySem L2 PySem.Spec PyProof.Rows
section
variable {X:Cx} {a b:Expr} {pos:Pos}
end
end DL
namespace DL
open PySem L2 PySem.Spec PyProof.Rows
section
variable {X:Cx} {e:Expr} {pos:Pos}
end
end DL
namespace DL
open PySem PySem.Spec PyProof.Rows L2
section
open PySem.SeqAt
open PySem.AutoSeq1 (wpAny_loadPart')
open PySem.MeetsSeq PySem.MeetsSeq2 PySem.MeetsSeq3
end
section
variable {X:Cx} {pins:List (Addr×Obj)} {σ:L2.St} {H:Hp} {s:Shared} {ρ:List Addr} (I:Inv X pins σ H s)
include I in
include I in
end
end DL
namespace L2
open PySem PySem.Spec PyProof.Rows
section
variable {prog:Program} {w:World} {A:Around}
end
section
variable {prog:Program} {w:World} {A:Around} {E:Value->Shared->Prop} {s:Shared}
end
end L2
namespace DL
open PySem L2 PySem.Spec PyProof.Rows
section
variable {X:Cx} {e a b:Expr} {es:List Expr} {pos:Pos}
end
end DL
namespace DL
open PySem L2
theorem GU (S:Sto)(v:D):Uw S (v,S)=(v,S):=by unfold Uw;split<;>rfl
theorem GV (S G:Sto)(v:D)(h:To S.length v=true):Uw S (v,S++G)=(v,S):=by
 unfold Uw;rw [if_pos ⟨by simp,h⟩]
theorem OB {α:Type}{xs:List α}{i:Int}(h0:0<=i)(h1:i<xs.length):∃a,a∈xs/\xs[i.toNat]? = some a/\atI xs i=some a:=by
 obtain⟨n,rfl⟩:=Int.eq_ofNat_of_zero_le h0
 have hn:n<xs.length:=by omega
 refine⟨xs[n],VL hn,by simp [hn],GM (by simp [hn])⟩
def cs (x:Str):List Nat:=x.cps.toList
theorem QN (x:Str):x.length=(cs x).length:=by simp [Str.length,cs]
theorem GI (ys:List Str):cs (W0W (W0 "") ys)=ys.flatMap cs:=by
 have e:(W0 "").cps = #[]:=by decide +kernel
 have key:∀(l:List Str) (acc:Array Nat),(l.foldl (λacc p=>acc++(W0 "").cps++p.cps) acc).toList=acc.toList++l.flatMap cs:=by
  intro l
  induction l with
  |nil=>intro acc;simp
  |cons p l ih=>intro acc;rw [List.foldl_cons,ih,e];simp [cs]
 unfold W0W Builtin.Str.glued;cases ys with
 |nil=>rfl
 |cons y ys=>exact key ys y.cps
end DL
namespace DL
open PySem PySem.Spec PyProof.Rows L2
section
variable {X:Cx} {e a b c:Expr} {es:List Expr} {pos:Pos}
theorem sv (i:Nat){x:Str}{pos:Pos}(hN:X.N[i]? = some x:=by rfl)(hv:Vis X.env.scope x:=by first|exact Or.inl rfl|exact Or.inr (Or.inl rfl)|exact Or.inr (Or.inr rfl))(hd:(x == ("__debug__" : Str))=false:=by decide)
  (hcd:(x == ("__classdict__" : Str))=false:=by decide):SE X (.Name x pos) (Z3 i):=SM i (A2 hN hv hd hcd)
theorem Jo {scope:Scope}(names0:List (Str×NameKind))(h0:X.env.scope.names=names0)(h:∀y∈scope.names,y.2 = .free->names0.lookup y.1=some .cell\/names0.lookup y.1=some .free) :
  ∀y∈scope.names,y.2 = .free->X.env.scope.names.lookup y.1=some .cell\/X.env.scope.names.lookup y.1=some .free:=by rw [h0];exact h
theorem Mp {K:W4}{C:String}(h1:WQ K (.type "NoneType") (.type C)=some (UY "NoneType" C))(h2:WQ K (.type "bool") (.type C)=some (UY "bool" C))(h3:WQ K (.type "int") (.type C)=some (UY "int" C))
  (h4:WQ K (.type "str") (.type C)=some (UY "str" C)) (h5:WQ K (.type "tuple") (.type C)=some (UY "tuple" C)) (h6:WQ K (.type "list") (.type C)=some (UY "list" C)) (h7:WQ K (.type "dict") (.type C)=some (UY "dict" C)):Isi K C:=by
 intro T hT;simp only [Wr,WW,or_false] at hT
 rcases hT with rfl|rfl|rfl|rfl|rfl|rfl|rfl
 ·exact h1
 ·exact h2
 ·exact h3
 ·exact h4
 ·exact h5
 ·exact h6
 ·exact h7
theorem QI (K:W4):Isi K "str":=Mp (by kernel_rfl) (by kernel_rfl) (by kernel_rfl) (by kernel_rfl) (by kernel_rfl) (by kernel_rfl) (by kernel_rfl)
theorem Hr (K:W4):Isi K "int":=Mp (by kernel_rfl) (by kernel_rfl) (by kernel_rfl) (by kernel_rfl) (by kernel_rfl) (by kernel_rfl) (by kernel_rfl)
theorem UA (K:W4):Isi K "bool":=Mp (by kernel_rfl) (by kernel_rfl) (by kernel_rfl) (by kernel_rfl) (by kernel_rfl) (by kernel_rfl) (by kernel_rfl)
theorem BA (K:W4):Isi K "tuple":=Mp (by kernel_rfl) (by kernel_rfl) (by kernel_rfl) (by kernel_rfl) (by kernel_rfl) (by kernel_rfl) (by kernel_rfl)
theorem NX {p:Pos}{sep:M D}{m:M (List D)}(hs:SE X a sep)(h:SQ X e m)(he:Wo [e] X.env=(false,eval e X.env) :: Wo [] X.env:=by rfl)
  (hbase:attributeBase a ("join" : Str) X.env (eval a X.env)=eval a X.env:=by rfl)
  (hfew:((backTo pos (Wo [e] X.env)).all (λx=>!x.1)&&(backToKw pos (keywordEach [] X.env)).all (λx=>x.1.isSome)
   && decide ([e].length+([]:List Keyword).length+(if ([]:List Keyword).isEmpty then 0 else 1)<30))=true:=by rfl)
  (hline:(p.endLine == pos.line)=true:=by rfl) (hplain:(backTo pos (Wo [] X.env)).any (·.1)=false:=by rfl) :
  SE X (.Call (.Attribute a "join" p) [e] [] pos) (No sep m):=
 Cg hs h (ZP h YD he) (CH PySem.F.plainAttrs_str PySem.F.slot_str_join PySem.F.type_str_join CV hs (ZP h YD he) hbase hfew hline he hplain)
end
structure Own (K:W4) (mg:Str->Option Value) (x:Str) (st:Stmt) (f:Addr) (fd:FuncData) (ps:List Str):Prop where
 fn:Fun K x x st f fd
 mgf:mg x=some (.ref f)
 b:Qv K fd ps []
theorem Hx {P:Program}{w:World}{K:W4}{mg:Str->Option Value}{base:Heap}{k n:Nat}{f:Addr}{fd:FuncData}{ps:List Str}(hn:ps.length=n):FnOk P w K mg base CX0 k f fd ps (spD K n λ_ _=>none):=
 ⟨λvs H Q E h=>by rw [h.1,hn],λA outer s H args us vs Q E _ _ _ _ h=>by
  obtain⟨_,ρ,S,ds,v,S',_,_,e,_⟩:=h
  cases e⟩
theorem walk_d {l:PySem.W.OpenLaw}{k:Nat}{q:Program}{loose:List Str}{XP:(Str->Option Value)->Heap->Prop}{YP:World->Heap->Prop}{d:DefRec}{K:Params->W4}{x:Str}{F:List D->Sto->Option (D×Sto)}
  (hn:l.most=some 63) (hdf:d.params.defaults=[]) (hr:Room k callerA)
  (hY:∀(w:World) (h:Heap),YP w h->(K w.params).In h)
  (hF:∀(w:World) (mg:Str->Option Value) (fa:Addr) (h:Heap),(K w.params).In h->h.Ns Wx mg->mg d.name=some (.ref fa)->
   ∃fd:FuncData,(∀(s:Shared) (u:Value),BindsTo s fd ⟨[u],[]⟩ [(x,u)])/\
    ∀base:Heap,(K w.params).In base->base.Ns Wx mg->FnOk l.prog w (K w.params) mg base CX0 k fa fd [x] (spD (K w.params) 1 F))
  (hl:∀ns:List Int,ns.length<=63->∃S',F [.scr ns] []=some (.bl true,S')) :
  PySem.W.WalkO q loose XP YP l.row.toRowW d [] (λf vs=>PySem.call f vs):=by
 refine L2.walk_of (n:=63) (k:=k) (x:=x) (CX:=λ_=>CX0) (sp:=λw=>spD (K w.params) 1 F) hn (by decide) hdf hr hY hF (λw H a ns hlen hO hS=>?_) λ_ _ _ _ _ z=>z
 obtain⟨S',e⟩:=hl ns hlen
 have hs:FL (K w.params) H a ns:=by
  rcases hS with (h|⟨o,h⟩)|h
  ·rcases hO a with z|⟨o,xs,z⟩
   ·rw [h] at z;cases z
   ·rw [h] at z;cases z
  ·exact .inl ⟨o,h⟩
  ·exact .inr h
 refine⟨rfl,[],[],[.scr ns],.bl true,S',⟨rfl,λi j a h=>by simp at h,λn ob h=>by simp at h⟩,.cons (by unfold DR;exact⟨a,rfl,hs⟩) .nil,e,λz ρ' H' _ _ dz=>dz.of_bl⟩
end DL
namespace DL
open PySem L2
section
variable {a b c:M D} {ba bb:M Bool} {sa sb:MS} {ms:M (List D)} {en en':En} {S S':Sto} {x y v:D} {g g':D->D->Sto->Option (D×Sto)} {F:List D->Sto->Option (D×Sto)}
def Ds (b:MS):Option (Fl×En×Sto)->Option (Fl×En×Sto)
 |some (.nx,en,S)=>b en S
 |r=>r
theorem Oc:Yg sa sb en S=Ds sb (sa en S):=by
 unfold Yg;cases sa en S with
 |none=>rfl
 |some p=>obtain⟨f,e,s⟩:=p;cases f<;>rfl
theorem Db:Ds sb (some (.nx,en,S))=sb en S:=rfl
theorem Mf:Ds sb (some (.rt v,en,S))=some (.rt v,en,S):=rfl
theorem Mh:Ds sb (some (.bk,en,S))=some (.bk,en,S):=rfl
theorem Mg:Ds sb (some (.ct,en,S))=some (.ct,en,S):=rfl
theorem Z0J:mNx en S=some (.nx,en,S):=rfl
def Z03 (g:D->En->Option En)(en:En):Option (D×Sto)->Option (Fl×En×Sto)
 |some (v,S)=>(g v en).map λen'=>(.nx,en',S)
 |none=>none
theorem Op {g:D->En->Option En}:YE a g en S=Z03 g en (a en S):=by
 unfold YE;cases a en S<;>rfl
theorem Dn {i:Nat}:Z03 (gN i) en (some (v,S))=some (.nx,en.set i (some v),S):=rfl
theorem Ea {n:Nat}{gs:List D->En->Option En}:Z03 (gT n gs) en (some (v,S))=(gT n gs v en).map λen'=>(.nx,en',S):=rfl
theorem Z0K {n:Nat}{gs:List D->En->Option En}{ds:List D}(h:ds.length=n):gT n gs (.tup ds) en=gs ds en:=if_pos h
theorem On {i:Nat}{gs:List D->En->Option En}{ds:List D}:Yh (gN i) gs (v :: ds) en=gs ds (en.set i (some v)):=rfl
theorem Om:NA [] en=some en:=rfl
def Z0B (en:En):Option (D×Sto)->Option (Fl×En×Sto)
 |some (v,S)=>some (.rt v,en,S)
 |none=>none
theorem Oe:QX a en S=Z0B en (a en S):=by
 unfold QX;cases a en S<;>rfl
theorem Dc:Z0B en (some (v,S))=some (.rt v,en,S):=rfl
def DA (en:En):Option (D×Sto)->Option (Fl×En×Sto)
 |some (_,S)=>some (.nx,en,S)
 |none=>none
theorem Ey:Qy a en S=DA en (a en S):=by
 unfold Qy;cases a en S<;>rfl
theorem E7:DA en (some (v,S))=some (.nx,en,S):=rfl
def Z0E (sa sb:MS)(en:En):Option (Bool×Sto)->Option (Fl×En×Sto)
 |some (c,S)=>if c=true then sa en S else sb en S
 |none=>none
theorem Ol:Uk ba sa sb en S=Z0E sa sb en (ba en S):=by
 unfold Uk;cases ba en S<;>rfl
theorem Dj {c:Bool}:Z0E sa sb en (some (c,S))=if c=true then sa en S else sb en S:=rfl
def kV1 (S:Sto):Option D->Option (D×Sto)
 |some d=>some (d,S)
 |none=>none
theorem O8 {i:Nat}:Z3 i en S=kV1 S (en[i]?.getD none):=by
 unfold Z3;cases en[i]?.getD none<;>rfl
theorem Z0v:kV1 S (some x)=some (x,S):=rfl
theorem Oo:Zf x en S=some (x,S):=rfl
def Z0C (g:D->D->Sto->Option (D×Sto))(b:M D)(en:En):Option (D×Sto)->Option (D×Sto)
 |some (x,S)=>(b en S).bind λq=>g x q.1 q.2
 |none=>none
def Du (g:D->D->Sto->Option (D×Sto))(x:D):Option (D×Sto)->Option (D×Sto)
 |some (y,S)=>g x y S
 |none=>none
theorem Z0a:mOp g a b en S=Z0C g b en (a en S):=by
 unfold mOp;cases a en S<;>rfl
theorem Df:Z0C g b en (some (x,S))=Du g x (b en S):=by
 show (b en S).bind _=_
 cases b en S<;>rfl
theorem Dd:Du g x (some (y,S))=g x y S:=rfl
def kT:Option (D×Sto)->Option (Bool×Sto)
 |some (.bl b,S)=>some (b,S)
 |_=>none
theorem e_T:mT a en S=kT (a en S):=by
 unfold mT;cases a en S with
 |none=>rfl
 |some p=>obtain⟨d,s⟩:=p;cases d<;>rfl
theorem k_T {t:Bool}:kT (some (.bl t,S))=some (t,S):=rfl
def Z0z:Option (D×Sto)->Option (Bool×Sto)
 |some (d,S)=>(C0 d S).map λb=>(b,S)
 |none=>none
theorem Ot:Bj a en S=Z0z (a en S):=by
 unfold Bj;cases a en S<;>rfl
theorem Eb {t:Bool}:Z0z (some (.bl t,S))=some (t,S):=rfl
def kOr (b:M Bool)(en:En):Option (Bool×Sto)->Option (Bool×Sto)
 |some (c,S)=>if c=true then some (true,S) else b en S
 |none=>none
def Z0D:Option (Bool×Sto)->Option (Bool×Sto)
 |some (c,S)=>some (!c,S)
 |none=>none
theorem Z0I:mOr ba bb en S=kOr bb en (ba en S):=by
 unfold mOr;cases ba en S<;>rfl
theorem Of:RH ba en S=Z0D (ba en S):=by
 unfold RH;cases ba en S<;>rfl
theorem Z0w {c:Bool}:kOr bb en (some (c,S))=if c=true then some (true,S) else bb en S:=rfl
theorem Dg {c:Bool}:Z0D (some (c,S))=some (!c,S):=rfl
def Dq (b:M D)(en:En):Option (D×Sto)->Option (D×Sto)
 |some (d,S)=>(C0 d S).bind λc=>if c=true then b en S else some (d,S)
 |none=>none
theorem Ep:Kx a b en S=Dq b en (a en S):=by
 unfold Kx;cases a en S<;>rfl
theorem AC {c:Bool}:Dq b en (some (.bl c,S))=if c=true then b en S else some (.bl false,S):=by cases c<;>rfl
def Z0H (g g':D->D->Sto->Option (D×Sto))(b c:M D)(en:En):Option (D×Sto)->Option (D×Sto)
 |some (x,S)=>(b en S).bind λq=>(g x q.1 q.2).bind λr=>match r.1 with
  | .bl true=>(c en r.2).bind λw=>g' q.1 w.1 w.2
  | .bl false=>some (.bl false,r.2)
  |_=>none
 |none=>none
def Z0G (g g':D->D->Sto->Option (D×Sto))(x:D)(c:M D)(en:En):Option (D×Sto)->Option (D×Sto)
 |some (y,S)=>(g x y S).bind λr=>match r.1 with
  | .bl true=>(c en r.2).bind λw=>g' y w.1 w.2
  | .bl false=>some (.bl false,r.2)
  |_=>none
 |none=>none
def Z0F (g':D->D->Sto->Option (D×Sto))(y:D)(c:M D)(en:En):Option (D×Sto)->Option (D×Sto)
 |some (.bl t,S)=>if t=true then Du g' y (c en S) else some (.bl false,S)
 |_=>none
theorem PH:US g g' a b c en S=Z0H g g' b c en (a en S):=by
 unfold US;cases a en S<;>rfl
theorem Dm:Z0H g g' b c en (some (x,S))=Z0G g g' x c en (b en S):=by
 show (b en S).bind _=_
 cases b en S<;>rfl
theorem Dl:Z0G g g' x c en (some (y,S))=Z0F g' y c en (g x y S):=by
 show (g x y S).bind _=_
 cases g x y S with
 |none=>rfl
 |some r=>
  obtain⟨d,s⟩:=r
  cases d with
  |bl t=>
   cases t
   ·rfl
   ·show (c en s).bind _=Du g' y (c en s)
    cases c en s<;>rfl
  |_=>rfl
theorem Dk {t:Bool}:Z0F g' y c en (some (.bl t,S))=if t=true then Du g' y (c en S) else some (.bl false,S):=rfl
theorem Og:Zg en S=some ([],S):=rfl
def DB (r:M (List D))(en:En):Option (D×Sto)->Option (List D×Sto)
 |some (x,S)=>(r en S).map λq=>(x :: q.1,q.2)
 |none=>none
def Ee (x:D):Option (List D×Sto)->Option (List D×Sto)
 |some (xs,S)=>some (x :: xs,S)
 |none=>none
theorem Ez:Z1 a ms en S=DB ms en (a en S):=by
 unfold Z1;cases a en S<;>rfl
theorem E8:DB ms en (some (x,S))=Ee x (ms en S):=by
 show (ms en S).map _=_
 cases ms en S<;>rfl
theorem P6 {xs:List D}:Ee x (some (xs,S))=some (x :: xs,S):=rfl
def DC (F:List D->Sto->Option (D×Sto)):Option (List D×Sto)->Option (D×Sto)
 |some (xs,S)=>F xs S
 |none=>none
theorem EC:ZM F ms en S=DC F (ms en S):=by
 unfold ZM;cases ms en S<;>rfl
theorem E9 {xs:List D}:DC F (some (xs,S))=F xs S:=rfl
def Ny:Option (List D×Sto)->Option (D×Sto)
 |some (xs,S)=>if xs.length<=Wd then some (.tup xs,S) else none
 |none=>none
theorem Oa:Ys ms en S=Ny (ms en S):=by
 unfold Ys;cases ms en S<;>rfl
theorem Je {xs:List D}(h:xs.length<=Wd):Ny (some (xs,S))=some (.tup xs,S):=if_pos h
def Nz:Option (List D×Sto)->Option (D×Sto)
 |some (xs,S)=>if xs.length<=Wd then some (.ref S.length,S++[.lst xs]) else none
 |none=>none
theorem Oh:Mb ms en S=Nz (ms en S):=by
 unfold Mb;cases ms en S<;>rfl
theorem JH {xs:List D}(h:xs.length<=Wd):Nz (some (xs,S))=some (.ref S.length,S++[.lst xs]):=if_pos h
def OK (S0:Sto):Option (Fl×En×Sto)->Option (D×Sto)
 |some (.rt v,_,S)=>some (Uw S0 (v,S))
 |some (.nx,_,S)=>some (Uw S0 (.non,S))
 |_=>none
theorem Kd {nN n:Nat}{m:MS}{ds:List D}(h:ds.length=n):QR nN n m ds S=OK S (m (Q8 nN ds) S):=by
 unfold QR;rw [if_pos h];cases m (Q8 nN ds) S with
 |none=>rfl
 |some p=>obtain⟨f,e,s⟩:=p;cases f<;>rfl
theorem JG:OK S (some (.rt v,en,S'))=some (Uw S (v,S')):=rfl
theorem Gt:OK S (some (.nx,en,S'))=some (Uw S (.non,S')):=rfl
def Dw:Option (D×Sto)->Option (D×Sto)
 |some (d,S)=>(A9 d S).map λ(n:Nat)=>(.int n,S)
 |none=>none
theorem Oi:K1 a en S=Dw (a en S):=by
 unfold K1 Dw;cases a en S with
 |none=>rfl
 |some p=>
  obtain⟨d,s⟩:=p
  dsimp only [WD];cases A9 d s<;>rfl
theorem Dh:Dw (some (x,S))=(A9 x S).map λ(n:Nat)=>(.int n,S):=rfl
theorem Tw {z:Str}(h:z.length<=Wd):Dw (some (.str z,S))=some (.int z.length,S):=by
 show (if z.length<=Wd then some z.length else none).map _=_
 rw [if_pos h];rfl
theorem E5 {ds:List D}:Dw (some (.tup ds,S))=some (.int ds.length,S):=rfl
def Ed (C:String):Option (D×Sto)->Option (D×Sto)
 |some (d,S)=>(tyD d S).map λT=>(.bl (UY T C),S)
 |none=>none
theorem Oj {C:String}:Kp C a en S=Ed C (a en S):=by
 unfold Kp;cases a en S<;>rfl
theorem Di {C:String}:Ed C (some (x,S))=(tyD x S).map λT=>(.bl (UY T C),S):=rfl
def kBs (f:List Bool->Bool):Option (List D×Sto)->Option (D×Sto)
 |some (ds,S)=>(T9 ds).map λbs=>(.bl (f bs),S)
 |none=>none
theorem Os:HZ ms en S=kBs (λbs=>bs.all id) (ms en S):=by
 unfold HZ;cases ms en S<;>rfl
theorem TL:∀(bs:List Bool),T9 (bs.map D.bl)=some bs
 |[]=>rfl
 |b :: bs=>by
  show (T9 (bs.map D.bl)).map _=_
  rw [TL bs];rfl
theorem Do {bs:List Bool}:kBs (λbs=>bs.all id) (some (bs.map D.bl,S))=some (.bl (bs.all id),S):=by
 show (T9 (bs.map D.bl)).map _=_
 rw [TL];rfl
def P9:Option (D×Sto)->Option (ItD×Sto)
 |some (d,S)=>Pd d S
 |none=>none
theorem Ew:JB a en S=P9 (a en S):=by
 unfold JB;cases a en S<;>rfl
theorem Bs {ns:List Int}:P9 (some (.scr ns,S))=some ((ns.map D.int,.no),S):=rfl
theorem P0 {ds:List D}:P9 (some (.tup ds,S))=some ((ds,.no),S):=rfl
theorem P3 {z:Str}:P9 (some (.str z,S))=some (((cs z).map λc=>D.str ⟨#[c]⟩,.no),S):=rfl
def Z0A:Option (D×Sto)->Option (ItD×Sto)
 |some (.int j,S)=>if -(2 ^ 62)<=j/\j<2 ^ 62 then some ((Td 0 j.toNat,.no),S) else none
 |_=>none
theorem Od:Tn a en S=Z0A (a en S):=by
 unfold Tn;cases a en S with
 |none=>rfl
 |some p=>obtain⟨d,s⟩:=p;cases d<;>rfl
theorem Nx {j:Int}(h : -(2 ^ 62)<=j/\j<2 ^ 62):Z0A (some (.int j,S))=some ((Td 0 j.toNat,.no),S):=if_pos h
def Dy (g:D->En->Option En)(body:MS)(en:En):Option (ItD×Sto)->Option (Fl×En×Sto)
 |some (r,S)=>thF r.2 (Q5 r.1 r.2 g body r.1 en S)
 |none=>none
theorem PC {mi:M ItD}{g:D->En->Option En}:RJ mi g sa en S=Dy g sa en (mi en S):=by
 unfold RJ;cases mi en S<;>rfl
theorem Su {r:Option (Fl×En×Sto)}:thF .no r=r:=by cases r<;>rfl
theorem C3 {n:Nat}{r:Option (Fl×En×Sto)}:thF (.lst n) r=r:=by cases r<;>rfl
theorem Sw {r:Option (List D×Sto)}:thC .no r=r:=by cases r<;>rfl
theorem C4 {n:Nat}{r:Option (List D×Sto)}:thC (.lst n) r=r:=by cases r<;>rfl
theorem Gu {ds:List D}{g:D->En->Option En}:Dy g sa en (some ((ds,.no),S))=Q5 ds .no g sa ds en S:=Su
theorem Gv {ds:List D}{n:Nat}{g:D->En->Option En}:Dy g sa en (some ((ds,.lst n),S))=Q5 ds (.lst n) g sa ds en S:=C3
theorem P5 {ds:List D}{n:Nat}{kvs:List (D×D)}{th:Bool}{g:D->En->Option En}:Dy g sa en (some ((ds,.fr n kvs th),S))=thF (.fr n kvs th) (Q5 ds (.fr n kvs th) g sa ds en S):=rfl
def Pb (nT:Nat)(caps:List Nat)(g:D->En->Option En)(c:M Bool)(m:M D)(en:En):Option (ItD×Sto)->Option (List D×Sto)
 |some (r,S)=>thC r.2 (Yt r.1 r.2 (Jh nT caps en) g c m r.1 [] S)
 |none=>none
theorem EB {mi:M ItD}{nT:Nat}{caps:List Nat}{g:D->En->Option En}:JC mi nT caps g ba a en S=Pb nT caps g ba a en (mi en S):=by
 unfold JC;cases mi en S<;>rfl
theorem Mj {ds:List D}{nT:Nat}{caps:List Nat}{g:D->En->Option En}:Pb nT caps g ba a en (some ((ds,.no),S))=Yt ds .no (Jh nT caps en) g ba a ds [] S:=Sw
theorem Bw {ds:List D}{n:Nat}{nT:Nat}{caps:List Nat}{g:D->En->Option En}:Pb nT caps g ba a en (some ((ds,.lst n),S))=Yt ds (.lst n) (Jh nT caps en) g ba a ds [] S:=C4
theorem Ss {gs:List (Nat×List D)}{r:Option (Fl×En×Sto)}:thF (.zl gs) r=r:=by cases r<;>rfl
theorem Sv {gs:List (Nat×List D)}{r:Option (List D×Sto)}:thC (.zl gs) r=r:=by cases r<;>rfl
theorem P4 {ds:List D}{gs:List (Nat×List D)}{g:D->En->Option En}:Dy g sa en (some ((ds,.zl gs),S))=Q5 ds (.zl gs) g sa ds en S:=Ss
theorem Mi {ds:List D}{gs:List (Nat×List D)}{nT:Nat}{caps:List Nat}{g:D->En->Option En}:Pb nT caps g ba a en (some ((ds,.zl gs),S))=Yt ds (.zl gs) (Jh nT caps en) g ba a ds [] S:=Sv
theorem Ml {ds:List D}{n:Nat}{kvs:List (D×D)}{th:Bool}{nT:Nat}{caps:List Nat}{g:D->En->Option En}:Pb nT caps g ba a en (some ((ds,.fr n kvs th),S))=thC (.fr n kvs th) (Yt ds (.fr n kvs th) (Jh nT caps en) g ba a ds [] S):=rfl
def Dx:Option (List D×Sto)->Option (D×Sto)
 |some (ds,S)=>some (.ref S.length,S++[.lst ds])
 |none=>none
theorem Eu:Bl ms en S=Dx (ms en S):=by
 unfold Bl;cases ms en S<;>rfl
theorem E6 {ds:List D}:Dx (some (ds,S))=some (.ref S.length,S++[.lst ds]):=rfl
def Ec (ms:M (List D))(en:En):Option (D×Sto)->Option (D×Sto)
 |some (.str x,S)=>(ms en S).bind λp=>(GX p.1).bind λys=>if (ys.map (·.length)).sum+ys.length*x.length<=16777216 then some (.str (W0W x ys),p.2) else none
 |_=>none
def P8 (x:Str):Option (List D×Sto)->Option (D×Sto)
 |some (ds,S)=>(GX ds).bind λys=>if (ys.map (·.length)).sum+ys.length*x.length<=16777216 then some (.str (W0W x ys),S) else none
 |none=>none
theorem Ev:No a ms en S=Ec ms en (a en S):=by
 unfold No;cases a en S with
 |none=>rfl
 |some p=>obtain⟨d,s⟩:=p;cases d<;>rfl
theorem RZ {z:Str}:Ec ms en (some (.str z,S))=P8 z (ms en S):=by
 show (ms en S).bind _=_
 cases ms en S<;>rfl
theorem GW:∀(ys:List Str),GX (ys.map D.str)=some ys
 |[]=>rfl
 |y :: ys=>by
  show (GX (ys.map D.str)).map _=_
  rw [GW ys];rfl
theorem Hf {z:Str}{ys:List Str}(h:(ys.map (·.length)).sum+ys.length*z.length<=16777216):P8 z (some (ys.map D.str,S))=some (.str (W0W z ys),S):=by
 show (GX (ys.map D.str)).bind _=_
 rw [GW,WD,if_pos h]
theorem Es:QW en S=some (true,S):=rfl
end
section
variable {S:Sto} {i j:Int} {x y:Str} {p q:Bool}
theorem Eo:Jp (.int i) (.int j) S=some (.int (i+j),S):=rfl
theorem Ej:Sd (.int i) (.int j) S=some (.int (i-j),S):=rfl
theorem DQ (h : -(2 ^ 64)<j/\j<2 ^ 64):BU (.int i) (.int j) S=some (.int (i*j),S):=if_pos (Or.inr h)
theorem El (h : -(2 ^ 64)<i/\i<2 ^ 64):BU (.int i) (.int j) S=some (.int (i*j),S):=if_pos (Or.inl h)
theorem Ek {n:Int}(h:0<=n/\n<=1000/\x.length<=1000):BU (.str x) (.int n) S=some (.str (Txt.mul x n),S):=if_pos (decide_eq_true h)
theorem Jj (h:0<j):Ft (.int i) (.int j) S=some (.int (i%j),S):=if_pos (decide_eq_true h)
theorem DS:gLt (.int i) (.int j) S=some (.bl (decide (i<j)),S):=rfl
theorem DT:gLe (.int i) (.int j) S=some (.bl (decide (i<=j)),S):=rfl
theorem Z07:gLe (.str x) (.str y) S=some (.bl (!decide (y.cps.toList<x.cps.toList)),S):=rfl
theorem DY:gEq (.int i) (.int j) S=some (.bl (decide (i=j)),S):=rfl
theorem DX:gEq (.str x) (.str y) S=some (.bl (decide (x=y)),S):=rfl
theorem DZ:gEq (.bl p) (.bl q) S=some (.bl (decide (p=q)),S):=rfl
theorem DO:gNe (.int i) (.int j) S=some (.bl (!decide (i=j)),S):=rfl
theorem DN:gNe (.str x) (.str y) S=some (.bl (!decide (x=y)),S):=rfl
theorem Em:gIs (.bl p) (.bl q) S=some (.bl (p == q),S):=rfl
theorem Kb {ds:List D}{k:Nat}{d:D}(h:ds[k]? = some d):gIx (.tup ds) (.int (k:Nat)) S=some (d,S):=by
 show (atI ds (k:Int)).map _=_
 rw [GM h];rfl
section
variable {a b c d e f:D} {l:List D}
theorem Pq:gIx (.tup (a :: l)) (.int 0) S=some (a,S):=Kb (k:=0) rfl
theorem Pp:gIx (.tup (a :: b :: l)) (.int 1) S=some (b,S):=Kb (k:=1) rfl
theorem Po:gIx (.tup (a :: b :: c :: l)) (.int 2) S=some (c,S):=Kb (k:=2) rfl
theorem DW:gIx (.tup (a :: b :: c :: d :: l)) (.int 3) S=some (d,S):=Kb (k:=3) rfl
theorem DV:gIx (.tup (a :: b :: c :: d :: e :: l)) (.int 4) S=some (e,S):=Kb (k:=4) rfl
theorem DU:gIx (.tup (a :: b :: c :: d :: e :: f :: l)) (.int 5) S=some (f,S):=Kb (k:=5) rfl
end
end
section
variable {ds0 r:List D} {g:D->En->Option En} {body:MS} {en:En} {S:Sto} {d v:D}
def Tp (ds0:List D)(g:D->En->Option En)(body:MS)(r:List D):Option (Fl×En×Sto)->Option (Fl×En×Sto)
 |some (.nx,en,S)=>Q5 ds0 .no g body r en S
 |some (.ct,en,S)=>Q5 ds0 .no g body r en S
 |some (.bk,en,S)=>some (.nx,en,S)
 |some (.rt v,en,S)=>some (.rt v,en,S)
 |none=>none
theorem Mx:Q5 ds0 .no g body [] en S=some (.nx,en,S):=by
 unfold Q5;exact if_pos trivial
theorem T3 {i:Nat}:Q5 ds0 .no (gN i) body (d :: r) en S=Tp ds0 (gN i) body r (body (en.set i (some d)) S):=by
 rw [Q5];rw [if_pos (show Ld .no ds0 S from trivial)];show (body (en.set i (some d)) S).bind _=_
 cases body (en.set i (some d)) S with
 |none=>rfl
 |some p=>obtain⟨f,e,s⟩:=p;cases f<;>rfl
theorem Qc:Tp ds0 g body r (some (.nx,en,S))=Q5 ds0 .no g body r en S:=rfl
theorem Bu:Tp ds0 g body r (some (.ct,en,S))=Q5 ds0 .no g body r en S:=rfl
theorem Bv:Tp ds0 g body r (some (.bk,en,S))=some (.nx,en,S):=rfl
theorem Bt:Tp ds0 g body r (some (.rt v,en,S))=some (.rt v,en,S):=rfl
end
section
variable {a b c d e f g h i j k l:D} {S:Sto}
theorem AO:Ny (some (([]:List D),S))=some (.tup [],S):=Je (show 0<=Wd by decide)
theorem AZ:Nz (some (([]:List D),S))=some (.ref S.length,S++[.lst []]):=JH (show 0<=Wd by decide)
theorem AN:Ny (some ([a],S))=some (.tup [a],S):=Je (show 1<=Wd by decide)
theorem AY:Nz (some ([a],S))=some (.ref S.length,S++[.lst [a]]):=JH (show 1<=Wd by decide)
theorem AM:Ny (some ([a,b],S))=some (.tup [a,b],S):=Je (show 2<=Wd by decide)
theorem AX:Nz (some ([a,b],S))=some (.ref S.length,S++[.lst [a,b]]):=JH (show 2<=Wd by decide)
theorem AL:Ny (some ([a,b,c],S))=some (.tup [a,b,c],S):=Je (show 3<=Wd by decide)
theorem AW:Nz (some ([a,b,c],S))=some (.ref S.length,S++[.lst [a,b,c]]):=JH (show 3<=Wd by decide)
theorem AK:Ny (some ([a,b,c,d],S))=some (.tup [a,b,c,d],S):=Je (show 4<=Wd by decide)
theorem AV:Nz (some ([a,b,c,d],S))=some (.ref S.length,S++[.lst [a,b,c,d]]):=JH (show 4<=Wd by decide)
theorem AJ:Ny (some ([a,b,c,d,e],S))=some (.tup [a,b,c,d,e],S):=Je (show 5<=Wd by decide)
theorem AU:Nz (some ([a,b,c,d,e],S))=some (.ref S.length,S++[.lst [a,b,c,d,e]]):=JH (show 5<=Wd by decide)
theorem AI:Ny (some ([a,b,c,d,e,f],S))=some (.tup [a,b,c,d,e,f],S):=Je (show 6<=Wd by decide)
theorem AT:Nz (some ([a,b,c,d,e,f],S))=some (.ref S.length,S++[.lst [a,b,c,d,e,f]]):=JH (show 6<=Wd by decide)
theorem AH:Ny (some ([a,b,c,d,e,f,g],S))=some (.tup [a,b,c,d,e,f,g],S):=Je (show 7<=Wd by decide)
theorem AS:Nz (some ([a,b,c,d,e,f,g],S))=some (.ref S.length,S++[.lst [a,b,c,d,e,f,g]]):=JH (show 7<=Wd by decide)
theorem AG:Ny (some ([a,b,c,d,e,f,g,h],S))=some (.tup [a,b,c,d,e,f,g,h],S):=Je (show 8<=Wd by decide)
theorem AR:Nz (some ([a,b,c,d,e,f,g,h],S))=some (.ref S.length,S++[.lst [a,b,c,d,e,f,g,h]]):=JH (show 8<=Wd by decide)
theorem AF:Ny (some ([a,b,c,d,e,f,g,h,i],S))=some (.tup [a,b,c,d,e,f,g,h,i],S):=Je (show 9<=Wd by decide)
theorem AQ:Nz (some ([a,b,c,d,e,f,g,h,i],S))=some (.ref S.length,S++[.lst [a,b,c,d,e,f,g,h,i]]):=JH (show 9<=Wd by decide)
theorem RV:Ny (some ([a,b,c,d,e,f,g,h,i,j],S))=some (.tup [a,b,c,d,e,f,g,h,i,j],S):=Je (show 10<=Wd by decide)
theorem RY:Nz (some ([a,b,c,d,e,f,g,h,i,j],S))=some (.ref S.length,S++[.lst [a,b,c,d,e,f,g,h,i,j]]):=JH (show 10<=Wd by decide)
theorem RU:Ny (some ([a,b,c,d,e,f,g,h,i,j,k],S))=some (.tup [a,b,c,d,e,f,g,h,i,j,k],S):=Je (show 11<=Wd by decide)
theorem RX:Nz (some ([a,b,c,d,e,f,g,h,i,j,k],S))=some (.ref S.length,S++[.lst [a,b,c,d,e,f,g,h,i,j,k]]):=JH (show 11<=Wd by decide)
theorem RT:Ny (some ([a,b,c,d,e,f,g,h,i,j,k,l],S))=some (.tup [a,b,c,d,e,f,g,h,i,j,k,l],S):=Je (show 12<=Wd by decide)
theorem RW:Nz (some ([a,b,c,d,e,f,g,h,i,j,k,l],S))=some (.ref S.length,S++[.lst [a,b,c,d,e,f,g,h,i,j,k,l]]):=JH (show 12<=Wd by decide)
end
theorem Z0O:(true == false)=false:=rfl
theorem Z0P:(false == true)=false:=rfl
theorem Z0N:(true == true)=true:=rfl
theorem Z0Q:(false == false)=true:=rfl
section
variable {a b:Option D} {l m:En} {d e:D} {ds es:List D} {n:Nat} {x y:Option (Fl×En×Sto)} {u v:Option (D×Sto)} {p q:Option (Bool×Sto)}
theorem Ac:(a :: l).set 0 b=b :: l:=rfl
theorem Aa:(a :: l).set (n+1) b=a :: l.set n b:=rfl
theorem Aq:(a :: l)[0]? = some a:=rfl
theorem Ao:(a :: l)[n+1]? = l[n]?:=List.getElem?_cons_succ
theorem Ap:(some a).getD none=a:=rfl
theorem Ag:([]:List D).length=0:=rfl
theorem Af:(d :: ds).length=ds.length+1:=rfl
theorem Ax:([]:List D)++ds=ds:=rfl
theorem Av:(d :: ds)++es=d :: (ds++es):=rfl
theorem Aw:ds++[]=ds:=V8 ds
theorem Md:Q8 n []=VQ n none:=rfl
theorem Mc:Q8 (n+1) (d :: ds)=some d :: Q8 n ds:=by
 unfold Q8;simp
theorem Ar {caps:List Nat}:Jh (n+1) caps l=none :: Jh n caps l:=rfl
theorem Au {j:Nat}{caps:List Nat}:Jh 0 (j :: caps) l=(l[j]?.getD none) :: Jh 0 caps l:=rfl
theorem As:Jh 0 [] l=[]:=rfl
theorem Ae:VQ 0 (none:Option D)=[]:=rfl
theorem Ad:VQ (n+1) (none:Option D)=none :: VQ n none:=rfl
theorem Aj:(if True then x else y)=x:=if_pos trivial
theorem Ak:(if False then x else y)=y:=if_neg id
theorem Ah:(if True then u else v)=u:=if_pos trivial
theorem Ai:(if False then u else v)=v:=if_neg id
theorem Am:(if True then p else q)=p:=if_pos trivial
theorem An:(if False then p else q)=q:=if_neg id
end
end DL
namespace DL
open PySem L2
section
variable {a b c:M D} {ms:M (List D)} {en:En} {S:Sto} {x v:D} {ds:List D} {n:Nat}
def Gx (n:Nat):Option (D×Sto)->Option (D×Sto)
 |some (v,S)=>match S[n]? with|some (Ob.lst ds)=>if ds.length<Wd then some (.non,S.set n (Ob.lst (ds++[v]))) else none|_=>none
 |none=>none
def Z04 (b:M D)(en:En):Option (D×Sto)->Option (D×Sto)
 |some (.ref n,S)=>match S[n]? with|some (Ob.lst _)=>Gx n (b en S)|_=>(b en S).bind λ_=>none
 |some (_,S)=>(b en S).bind λ_=>none
 |none=>none
theorem Oq:IV a b en S=Z04 b en (a en S):=by
 unfold IV;cases a en S with
 |none=>rfl
 |some p=>
  obtain⟨d,S1⟩:=p
  cases d with
  |ref n=>
   show ((b en S1).bind λq=>match S1[n]?,q.2[n]? with|some (Ob.lst _),some (Ob.lst ds)=>if ds.length<Wd then some (D.non,q.2.set n (Ob.lst (ds++[q.1]))) else none|_,_=>none)=_
   cases h:S1[n]? with
   |none=>show _=(match S1[n]? with|some (Ob.lst _)=>Gx n (b en S1)|_=>(b en S1).bind λ_=>none);rw [h]
   |some ob=>
    show _=(match S1[n]? with|some (Ob.lst _)=>Gx n (b en S1)|_=>(b en S1).bind λ_=>none)
    rw [h];cases ob with
    |lst l=>
     dsimp only;cases b en S1 with
     |none=>rfl
     |some q=>
      obtain⟨w,s⟩:=q
      rw [WD];unfold Gx;dsimp only;cases s[n]? with
      |none=>rfl
      |some o=>cases o<;>rfl
    |_=>rfl
  |_=>rfl
theorem P7 {ds:List D}:Z04 b en (some (.ref S.length,S++[Ob.lst ds]))=Gx S.length (b en (S++[Ob.lst ds])):=by
 show (match (S++[Ob.lst ds])[S.length]? with|some (Ob.lst _)=>Gx S.length (b en (S++[Ob.lst ds]))|_=>(b en (S++[Ob.lst ds])).bind λ_=>none)=_
 rw [WS]
theorem HL (h:ds.length<Wd):Gx S.length (some (v,S++[Ob.lst ds]))=some (.non,S++[Ob.lst (ds++[v])]):=by
 show (match (S++[Ob.lst ds])[S.length]? with|some (Ob.lst ds')=>if ds'.length<Wd then some (D.non,(S++[Ob.lst ds]).set S.length (Ob.lst (ds'++[v]))) else none|_=>none)=_
 rw [WS];dsimp only;rw [if_pos h];simp
def Dr:Option (List D×Sto)->Option (D×Sto)
 |some (ds,S)=>some (.tup ds,S)
 |none=>none
theorem Er:Nn ms en S=Dr (ms en S):=by
 unfold Nn;cases ms en S<;>rfl
theorem AE:Dr (some (ds,S))=some (.tup ds,S):=rfl
theorem Et:Fc en S=some (.ref S.length,S++[Ob.dct []]):=rfl
def Mm:Option (D×Sto)->Option (D×Sto)
 |some (.tup ds,S)=>if ds.length<=Wd then (Jv ds).map λps=>(.ref S.length,S++[Ob.dct (Ul [] ps)]) else none
 |_=>none
theorem PD:Bm a en S=Mm (a en S):=by
 unfold Bm;cases a en S with
 |none=>rfl
 |some p=>obtain⟨d,s⟩:=p;cases d<;>rfl
theorem HK {ps:List (D×D)}(h:ds.length<=Wd)(e:Jv ds=some ps):Mm (some (.tup ds,S))=some (.ref S.length,S++[Ob.dct (Ul [] ps)]):=by
 show (if ds.length<=Wd then (Jv ds).map λps=>(D.ref S.length,S++[Ob.dct (Ul [] ps)]) else none)=_
 rw [if_pos h,e];rfl
def Hg (C1 C2:String):Option (D×Sto)->Option (D×Sto)
 |some (d,S)=>(tyD d S).map λT=>(.bl (UY T C1||UY T C2),S)
 |none=>none
theorem Ex {C1 C2:String}:RI C1 C2 a en S=Hg C1 C2 (a en S):=by
 unfold RI;cases a en S<;>rfl
def Fh (d:D):Option (D×Sto)->Option (ItD×Sto)
 |some (d',S)=>(MN d S).bind λx=>(MN d' S).map λy=>((FN x.1 y.1,gdZ (x.2++y.2)),S)
 |none=>none
def Z0x (b:M D)(en:En):Option (D×Sto)->Option (ItD×Sto)
 |some (d,S)=>Fh d (b en S)
 |none=>none
theorem O7:IU a b en S=Z0x b en (a en S):=by
 unfold IU;cases a en S with
 |none=>rfl
 |some p=>
  obtain⟨d,S1⟩:=p
  show ((b en S1).bind _)=Fh d (b en S1)
  cases b en S1 with
  |none=>rfl
  |some q=>rfl
theorem D9 {d:D}:Z0x b en (some (d,S))=Fh d (b en S):=rfl
theorem AB {xs ys:List D}:Fh (.tup xs) (some (.tup ys,S))=some ((FN xs ys,.no),S):=rfl
def Fi (f:Int->Int->Int)(d:D):Option (D×Sto)->Option (D×Sto)
 |some (d',S)=>match d,d' with | .int i,.int j=>some (.int (f i j),S)|_,_=>none
 |none=>none
def Z0y (f:Int->Int->Int)(b:M D)(en:En):Option (D×Sto)->Option (D×Sto)
 |some (d,S)=>Fi f d (b en S)
 |none=>none
theorem O9 {f:Int->Int->Int}:Ha f a b en S=Z0y f b en (a en S):=by
 unfold Ha;cases a en S with
 |none=>rfl
 |some p=>
  obtain⟨d,S1⟩:=p
  show ((b en S1).bind _)=Fi f d (b en S1)
  cases b en S1 with
  |none=>rfl
  |some q=>rfl
theorem Da {f:Int->Int->Int}{d:D}:Z0y f b en (some (d,S))=Fi f d (b en S):=rfl
theorem AD {f:Int->Int->Int}{i j:Int}:Fi f (.int i) (some (.int j,S))=some (.int (f i j),S):=rfl
theorem Hw {kvs:List (D×D)}{k:D}(h1:a en S=some (.ref n,S))(h2:b en S=some (k,S))(h3:c en S=some (x,S))(hd:QQ S n k=some kvs):Np a b c en S=some ((U8 kvs k).getD x,S):=by
 unfold Np;have hi:K9 S n=true:=by
  unfold QQ at hd;unfold K9;split at hd
  ·rfl
  ·rfl
  ·cases hd
 rw [h1,WD,h2,WD,h3,WD];dsimp only;rw [if_pos hi,hd];rfl
theorem DH {kvs:List (D×D)}{k d:D}(hd:QQ S n k=some kvs)(hg:U8 kvs k=some d):gIx (.ref n) k S=some (d,S):=by
 have hl:∀xs,S[n]?≠some (Ob.lst xs):=λxs z=>by
  unfold QQ at hd;rw [z] at hd;cases hd
 show (match S[n]? with|some (Ob.lst xs)=>(match k with | .int i=>(atI xs i).map λd=>(d,S)|_=>none)|_=>(QQ S n k).bind λkvs=>(U8 kvs k).map λd=>(d,S))=_
 split
 ·rename_i xs q
  exact absurd q (hl xs)
 ·rw [hd,WD,hg];rfl
end
section
variable {a:M D} {en:En} {S:Sto} {ds:List D} {n:Nat}
end
section
variable {ms:M (List D)} {en:En} {S:Sto}
end
section
variable {a b c:M D} {ms:M (List D)} {en:En} {S:Sto} {x y v:D} {ds:List D} {n:Nat}
end
end DL
namespace DL
open PySem L2
theorem EVS:type_of% (Ua @Oc (Ua @Db (Ua @Mf (Ua @Mh (Ua @Mg (Ua @Z0J (Ua @Op (Ua @Dn (Ua @Ea (Ua @Z0K (Ua @On (Ua @Om (Ua @Oe (Ua @Dc (Ua @Ey (Ua @E7 (Ua @Ol (Ua @Dj (Ua @O8 (Ua @Z0v (Ua @Oo (Ua @Z0a (Ua @Df (Ua @Dd (Ua @e_T (Ua @k_T (Ua @Ot (Ua @Eb (Ua @Z0I (Ua @Of (Ua @Z0w (Ua @Dg (Ua @Ep (Ua @AC (Ua @PH (Ua @Dm (Ua @Dl (Ua @Dk (Ua @Og (Ua @Ez (Ua @E8 (Ua @P6 (Ua @EC (Ua @E9 (Ua @Oa (Ua @Oh (Ua @Kd (Ua @JG (Ua @Gt (Ua @Oi (Ua @E5 (Ua @Oj (Ua @Os (Ua @Ew (Ua @Bs (Ua @P0 (Ua @P3 (Ua @Od (Ua @PC (Ua @Gu (Ua @Gv (Ua @P5 (Ua @EB (Ua @Mj (Ua @Bw (Ua @P4 (Ua @Mi (Ua @Ml (Ua @Eu (Ua @E6 (Ua @Ev (Ua @RZ (Ua @Es (Ua @Eo (Ua @Ej (Ua @DS (Ua @DT (Ua @DY (Ua @DX (Ua @DZ (Ua @DO (Ua @DN (Ua @Em (Ua @Pq (Ua @Pp (Ua @Po (Ua @DW (Ua @DV (Ua @DU (Ua @Mx (Ua @T3 (Ua @Qc (Ua @Bu (Ua @Bv (Ua @Bt (Ua @AO (Ua @AZ (Ua @AN (Ua @AY (Ua @AM (Ua @AX (Ua @AL (Ua @AW (Ua @AK (Ua @AV (Ua @AJ (Ua @AU (Ua @AI (Ua @AT (Ua @AH (Ua @AS (Ua @AG (Ua @AR (Ua @AF (Ua @AQ (Ua @RV (Ua @RY (Ua @RU (Ua @RX (Ua @RT (Ua @RW (Ua @Z0O (Ua @Z0P (Ua @Z0N (Ua @Z0Q (Ua @Ac (Ua @Aa (Ua @Aq (Ua @Ao (Ua @Ap (Ua @Ag (Ua @Af (Ua @Ax (Ua @Av (Ua @Aw (Ua @Md (Ua @Mc (Ua @Ar (Ua @Au (Ua @As (Ua @Ae (Ua @Ad (Ua @Aj (Ua @Ak (Ua @Ah (Ua @Ai (Ua @Am (Ua @An (Ua @Oq (Ua @P7 (Ua @Er (Ua @AE (Ua @Et (Ua @PD (Ua @Ex (Ua @O7 (Ua @D9 (Ua @AB (Ua @O9 (Ua @Da (Ua @AD (Ua @GU (Ua @and_true (Ua @true_and (Ua @decide_true (Ua @decide_false (Ua @Bool.not_true (Ua @Bool.not_false (Ua @VP (Ua @Nat.add_zero (Ua @Nat.zero_add @Nat.sub_zero))))))))))))))))))))))))))))))))))))))))))))))))))))))))))))))))))))))))))))))))))))))))))))))))))))))))))))))))))))))))))))))))))))))))))))))))))))))))))))))))))))))))))):=
  (Ua @Oc (Ua @Db (Ua @Mf (Ua @Mh (Ua @Mg (Ua @Z0J (Ua @Op (Ua @Dn (Ua @Ea (Ua @Z0K (Ua @On (Ua @Om (Ua @Oe (Ua @Dc (Ua @Ey (Ua @E7 (Ua @Ol (Ua @Dj (Ua @O8 (Ua @Z0v (Ua @Oo (Ua @Z0a (Ua @Df (Ua @Dd (Ua @e_T (Ua @k_T (Ua @Ot (Ua @Eb (Ua @Z0I (Ua @Of (Ua @Z0w (Ua @Dg (Ua @Ep (Ua @AC (Ua @PH (Ua @Dm (Ua @Dl (Ua @Dk (Ua @Og (Ua @Ez (Ua @E8 (Ua @P6 (Ua @EC (Ua @E9 (Ua @Oa (Ua @Oh (Ua @Kd (Ua @JG (Ua @Gt (Ua @Oi (Ua @E5 (Ua @Oj (Ua @Os (Ua @Ew (Ua @Bs (Ua @P0 (Ua @P3 (Ua @Od (Ua @PC (Ua @Gu (Ua @Gv (Ua @P5 (Ua @EB (Ua @Mj (Ua @Bw (Ua @P4 (Ua @Mi (Ua @Ml (Ua @Eu (Ua @E6 (Ua @Ev (Ua @RZ (Ua @Es (Ua @Eo (Ua @Ej (Ua @DS (Ua @DT (Ua @DY (Ua @DX (Ua @DZ (Ua @DO (Ua @DN (Ua @Em (Ua @Pq (Ua @Pp (Ua @Po (Ua @DW (Ua @DV (Ua @DU (Ua @Mx (Ua @T3 (Ua @Qc (Ua @Bu (Ua @Bv (Ua @Bt (Ua @AO (Ua @AZ (Ua @AN (Ua @AY (Ua @AM (Ua @AX (Ua @AL (Ua @AW (Ua @AK (Ua @AV (Ua @AJ (Ua @AU (Ua @AI (Ua @AT (Ua @AH (Ua @AS (Ua @AG (Ua @AR (Ua @AF (Ua @AQ (Ua @RV (Ua @RY (Ua @RU (Ua @RX (Ua @RT (Ua @RW (Ua @Z0O (Ua @Z0P (Ua @Z0N (Ua @Z0Q (Ua @Ac (Ua @Aa (Ua @Aq (Ua @Ao (Ua @Ap (Ua @Ag (Ua @Af (Ua @Ax (Ua @Av (Ua @Aw (Ua @Md (Ua @Mc (Ua @Ar (Ua @Au (Ua @As (Ua @Ae (Ua @Ad (Ua @Aj (Ua @Ak (Ua @Ah (Ua @Ai (Ua @Am (Ua @An (Ua @Oq (Ua @P7 (Ua @Er (Ua @AE (Ua @Et (Ua @PD (Ua @Ex (Ua @O7 (Ua @D9 (Ua @AB (Ua @O9 (Ua @Da (Ua @AD (Ua @GU (Ua @and_true (Ua @true_and (Ua @decide_true (Ua @decide_false (Ua @Bool.not_true (Ua @Bool.not_false (Ua @VP (Ua @Nat.add_zero (Ua @Nat.zero_add @Nat.sub_zero)))))))))))))))))))))))))))))))))))))))))))))))))))))))))))))))))))))))))))))))))))))))))))))))))))))))))))))))))))))))))))))))))))))))))))))))))))))))))))))))))))))))))))
end DL
namespace DL
open PySem L2
section
variable {α:Type} {ds0:List D} {gd:Gd} {cap:En} {g:D->En->Option En} {c:M Bool} {m:M D} {S:Sto}
theorem FE (xs:List α)(enc:α->D)(p:α->Bool)(f:α->D)(hg:Ld gd ds0 S)(hl:xs.length<=Wd)(h:∀a∈xs,∃en,g (enc a) cap=some en/\c en S=some (p a,S)/\(p a=true->m en S=some (f a,S))) :
  Yt ds0 gd cap g c m (xs.map enc) [] S=some ((xs.filter p).map f,S):=by
 have key:∀(l:List α) (acc:List D),acc.length+l.length<=Wd->(∀a∈l,∃en,g (enc a) cap=some en/\c en S=some (p a,S)/\(p a=true->m en S=some (f a,S)))->
   Yt ds0 gd cap g c m (l.map enc) acc S=some (acc++(l.filter p).map f,S):=by
  intro l
  induction l with
  |nil=>
   intro acc hl _;unfold Yt;simp only [Wc]
   rw [if_pos ⟨hg,by simpa using hl⟩]
   simp
  |cons a l ih=>
   intro acc hl h;obtain⟨en,h1,h2,h3⟩:=h a Wv
   rw [WP] at hl;rw [W1];unfold Yt;rw [if_pos ⟨hg,by omega⟩,h1,WD,h2,WD]
   dsimp only;cases hp:p a with
   |true=>
    rw [if_pos rfl,h3 hp,WD,ih (acc++[f a]) (by rw [WL,W04];omega) λd' hd'=>h d' (Wu _ hd')]
    rw [List.filter_cons_of_pos hp,W1,Vt];rfl
   |false=>
    rw [if_neg Wq,ih acc (by omega) λd' hd'=>h d' (Wu _ hd')]
    rw [List.filter_cons_of_neg (by simp [hp])]
 simpa using key xs [] (by simpa using hl) h
theorem UC (xs:List α)(enc:α->D)(f:α->D)(hg:Ld gd ds0 S)(hl:xs.length<=Wd)(h:∀a∈xs,∃en,g (enc a) cap=some en/\m en S=some (f a,S)) :
  Yt ds0 gd cap g QW m (xs.map enc) [] S=some (xs.map f,S):=by
 have:=FE (c:=QW) xs enc (λ_=>true) f hg hl (λa ha=>by
  obtain⟨en,h1,h2⟩:=h a ha
  exact⟨en,h1,rfl,λ_=>h2⟩)
 rw [List.filter_eq_self.mpr λ_ _=>rfl] at this
 exact this
theorem T2 {ds:List D}{S:Sto}:Ld .no ds S:=trivial
theorem G1 (n:Nat):Td 0 n=(WE n).map λi=>D.int (i:Nat):=by
 unfold Td;simp
theorem Pt {body:MS}(xs:List α)(enc:α->D)(P:List α->En->Sto->Prop)(h:∀pre a post en S,xs=pre++a :: post->P pre en S->∃en1,g (enc a) en=some en1/\∃en2 S2,body en1 S=some (.nx,en2,S2)/\P (pre++[a]) en2 S2)
  (hg:∀pre en S,P pre en S->Ld gd ds0 S) {en:En} {S:Sto} (h0:P [] en S):∃en' S',Q5 ds0 gd g body (xs.map enc) en S=some (.nx,en',S')/\P xs en' S':=by
 have key:∀(post pre:List α) en S,xs=pre++post->P pre en S->∃en' S',Q5 ds0 gd g body (post.map enc) en S=some (.nx,en',S')/\P xs en' S':=by
  intro post
  induction post with
  |nil=>
   intro pre en S e hp;unfold Q5;simp only [Wc]
   rw [if_pos (hg pre en S hp)];rw [V8] at e;exact⟨en,S,rfl,e ▸ hp⟩
  |cons a post ih=>
   intro pre en S e hp;obtain⟨en1,h1,en2,S2,h2,h3⟩:=h pre a post en S e hp
   rw [W1];unfold Q5;rw [if_pos (hg pre en S hp),h1,WD,h2,WD];exact ih (pre++[a]) en2 S2 (by rw [e,Vt];rfl) h3
 exact key xs [] en S rfl h0
end
theorem NH (l:List Nat):cs ⟨l.toArray⟩=l:=by simp [cs]
theorem IS (x:Str):(⟨(cs x).toArray⟩:Str)=x:=by cases x;simp [cs]
theorem C7 {x y:Str}(h:cs x=cs y):x=y:=by rw [<-IS x,<-IS y,h]
theorem IW (a b:Nat):([a] < [b])↔a<b:=by
 constructor
 ·intro h
  cases h with
  |rel h=>exact h
  |cons h=>cases h
 ·exact λh=>.rel h
end DL
namespace L2
open PySem PySem.Spec PyProof.Rows
section
variable {prog:Program} {w:World} {A:Around} {E:Value->Shared->Prop} {s:Shared}
end
section
variable {X:Cx} {e st:Expr} {te:TE} {tk:TO} {pos p2:Pos}
end
end L2
namespace DL
open PySem L2 PySem.Spec PyProof.Rows
section
variable {X:Cx} {e a b st:Expr} {pos:Pos}
end
end DL
namespace DL
open PySem L2 PySem.Spec PyProof.Rows
section
variable {X:Cx} {a b:Expr} {pos:Pos}
end
end DL
namespace DL
open PySem L2 PySem.Spec PyProof.Rows
structure OwnM (K:W4) (C:Addr) (x qual:Str) (st:Stmt) (f:Addr) (fd:FuncData) (ps:List Str):Prop where
 fn:Fun K x qual st f fd
 meth:L2.Meth K C x f
 b:Qv K fd ps []
structure OwnI (K:W4) (C:Addr) (qual:Str) (st:Stmt) (f:Addr) (fd:FuncData) (ps:List Str):Prop where
 fn:Fun K "__init__" qual st f fd
 mkr:L2.Mk K C f
 b:Qv K fd ps []
end DL
namespace L2
open PySem PySem.Spec PyProof.Rows
theorem ZK.get {P:Program}{w:World}{H:Hp}{h:Heap}{a:Addr}{o:HO}(x:ZK P w H h a o):∃u,h.get? a=some u:=by
 induction o with
 |lst xs=>obtain⟨_,_,_,_,e⟩:=x;exact⟨_,e⟩
 |tup xs=>obtain⟨_,_,_,⟨o,e,_⟩,_⟩:=x;exact⟨_,e⟩
 |dK kvs=>obtain⟨_,_,_,_,o,_,_,e,_⟩:=x;exact⟨_,e⟩
 |dT kvs=>obtain⟨_,_,_,_,o,_,_,e,_⟩:=x;exact⟨_,e⟩
 |set S n=>obtain⟨o,_,_,_,e,_⟩:=x;exact⟨_,e⟩
 |ins C dx fs=>obtain⟨_,_,_,e,_⟩:=x;exact⟨_,e⟩
 |own y=>obtain⟨o,e⟩:=x;exact⟨_,e⟩
 |xd fs=>obtain⟨_,⟨o,_,_,e,_⟩,_⟩:=x;exact⟨_,e⟩
 |rng lo hi=>obtain⟨_,_,_,e⟩:=x;exact⟨_,e⟩
 |frz ob u ih=>obtain⟨e,_⟩:=x;exact⟨_,e⟩
 |tbl ps=>exact⟨_,x⟩
 |met f y=>exact⟨_,x⟩
 |ext φ=>obtain⟨_,⟨o,e⟩,_⟩:=x;exact⟨_,e⟩
structure Fly (P:Program) (w:World) (l:List Env) (H:Hp) (s:Shared) (a C:Addr) (H':Hp) (B:Heap) (s':Shared):Prop where
 os:s'.os=s.os
 bare:AllBare s'.gens
 un:Un (frs l) [] H H' s.heap s'.heap
 hok:HOk P w H' s'.heap
 ins:∀b,b∉frs l->((∃u,H' b=some u)\/∃o,s.heap.get? b=some o)->∃o,B.get? b=some o
 fly:∃a0,Heap.FlyingW B l a (.ref C) a0 s'.heap
def CX1 (P:Program)(w:World):CXT:=λouter H s E e s'=>∃a C H' B,e = .ref a/\Fly P w outer H s a C H' B s'/\E (.ref C) none H'
section
variable {P:Program} {w:World} {l:List Env} {H H':Hp} {s s':Shared} {a C:Addr} {B h':Heap} {a0:Value}
theorem Fly.turn (f:Fly P w l H s a C H' B s')(hf:∀b∈frs l,H' b=none)(x:Heap.FlyingW B l a (.ref C) a0 h')(u:s'.heap.UpToSlots h'):Fly P w l H s a C H' B { s' with heap:=h' }:=by
 obtain⟨a1,y⟩:=f.fly
 have sl:∀b o,b∈frs l->s'.heap.get? b=some o->∃sl,h'.get? b=some { o with slots:=sl }:=λb o hb e=>by
  obtain⟨_,o2,e2,nf⟩:=y.2.2.1.mem hb
  rw [e] at e2;cases e2
  exact u b o e nf
 have st:∀b o,b∉frs l->((∃u,H' b=some u)\/∃o,s.heap.get? b=some o)->s'.heap.get? b=some o->h'.get? b=some o:=λb o nb hb e=>by
  obtain⟨o1,e1⟩:=f.ins b nb hb
  have:=y.1 b o1 e1
  rw [e] at this;cases this
  exact x.1 b o e1
 refine⟨f.os,f.bare,⟨λb o q n nb nx=>st b o nb (.inr ⟨o,q⟩) (f.un.keep b o q n nb nx),λb o q n hb nx=>?_,f.un.free,λb o q nx=>?_,f.un.tups,f.un.frzs,f.un.tbls⟩,λb u e=>?_,f.ins,⟨a0,x⟩⟩
 ·obtain⟨s1,e⟩:=f.un.slot b o q n hb nx
  obtain⟨s2,e2⟩:=sl b _ hb e
  exact⟨s2,e2⟩
 ·obtain⟨o',e⟩:=f.un.there b o q nx
  by_cases hb:b∈frs l
  ·obtain⟨s2,e2⟩:=sl b _ hb e
   exact⟨_,e2⟩
  ·exact⟨o',st b o' hb (.inr ⟨o,q⟩) e⟩
 ·refine (f.hok b u e).stay (λc v hc q=>?_) (λ_ q=>q) λ_ _ q=>q
  have hc':∃u,H' c=some u:=by
   rcases hc with rfl|hc
   ·exact⟨_,e⟩
   ·exact⟨_,hc⟩
  exact st c v (λz=>by rw [hf c z] at hc';obtain⟨_,q⟩:=hc';cases q) (.inl hc') q
end
section
variable {X:Cx} {pins:List (Addr×Obj)} {σ:St} {H H':Hp} {s s':Shared} {a C:Addr} {B h':Heap} {a0:Value}
theorem Fly.inv (I:Inv X pins σ H s)(f:Fly X.prog X.w X.stack H s a C H' B s'):Inv X pins σ H' s':=I.call' f.os f.un f.hok f.bare (λb z=>absurd z (by simp))
theorem Fly.free (I:Inv X pins σ H s)(f:Fly X.prog X.w X.stack H s a C H' B s'):∀b∈frs X.stack,H' b=none:=(f.inv I).stkFree
theorem Pu (J:Inv X pins σ H' s')(hst:X.stack=X.env :: X.outer)(hfr:X.env.frame=some X.env.locals)(hex:X.ex=[])(ins:∀b,b∉frs X.stack->((∃u,H' b=some u)\/∃o,X.s₀.heap.get? b=some o)->∃o,B.get? b=some o)
  (hB:B.StaysIn s'.heap) (x:Heap.FlyingW B X.outer a (.ref C) a0 h') (u:s'.heap.UpToSlots h'):Fly X.prog X.w X.outer X.H₀ X.s₀ a C H' B { s' with heap:=h' }:=by
 have nx:∀b,b∉X.ex:=λb z=>by rw [hex] at z;exact absurd z (by simp)
 have nst:∀b,b∉frs X.outer->b≠X.env.locals->b∉frs X.stack:=λb n1 n2 z=>by
  rcases Wr.mp (J.stkSub b z) with z|z
  ·exact n2 z
  ·exact n1 z
 have old:∀b o,X.s₀.heap.get? b=some o->b≠X.env.locals:=λb o e=>WT (WJ (Wz e) J.ok.above)
 have sl:∀b o,b∈frs X.outer->s'.heap.get? b=some o->∃sl,h'.get? b=some { o with slots:=sl }:=λb o hb e=>by
  obtain⟨_,o2,e2,nf⟩:=J.funs.mem hb
  rw [e] at e2;cases e2
  exact u b o e nf
 have st:∀b o,b∉frs X.stack->((∃u,H' b=some u)\/∃o,X.s₀.heap.get? b=some o)->s'.heap.get? b=some o->h'.get? b=some o:=λb o nb hb e=>by
  obtain⟨o1,e1⟩:=ins b nb hb
  have:=hB b o1 e1
  rw [e] at this;cases this
  exact x.1 b o e1
 refine⟨J.os,J.bare,⟨λb o q n nb _=>st b o (nst b nb (old b o q)) (.inr ⟨o,q⟩) (J.base.keep b o q n nb (nx b)),λb o q n hb _=>?_,λb o q n _=>J.base.free b o q n (nx b),λb o q _=>?_,J.base.tups,J.base.frzs,J.base.tbls⟩,λb u e=>?_,λb nb hb=>ins b (nst b nb ?_) hb,⟨a0,x⟩⟩
 ·obtain⟨s1,e⟩:=J.base.slot b o q n hb (nx b)
  obtain⟨s2,e2⟩:=sl b _ hb e
  exact⟨s2,e2⟩
 ·obtain⟨o',e⟩:=J.base.there b o q (nx b)
  by_cases hb:b∈frs X.outer
  ·obtain⟨s2,e2⟩:=sl b _ hb e
   exact⟨_,e2⟩
  ·exact⟨o',st b o' (nst b hb (old b o q)) (.inr ⟨o,q⟩) e⟩
 ·refine (J.hok b u e).stay (λc v hc q=>?_) (λ_ q=>q) λ_ _ q=>q
  have hc':∃u,H' c=some u:=by
   rcases hc with rfl|hc
   ·exact⟨_,e⟩
   ·exact⟨_,hc⟩
  exact st c v (λz=>by rw [J.stkFree c z] at hc';obtain⟨_,q⟩:=hc';cases q) (.inl hc') q
 ·rcases hb with ⟨u,e⟩|⟨o,e⟩
  ·rintro rfl
   rw [J.free] at e;cases e
  ·exact old b o e
def OF (X:Cx)(md:Bool)(pins:List (Addr×Obj))(E:St->Addr->Hp->Prop)(e:Value)(s':Shared):Prop:=
 ∃σ H s a C H',e = .ref a/\Inv X pins σ H s/\E σ C H'/\((∃B,Fly X.prog X.w X.stack H s a C H' B s')\/(md=true/\H'=H/\∃vs h1,Heap.MadeExcOf s.heap h1 a (.ref C) vs/\s'={ s with heap:=h1 }))
abbrev TX:=St->Hp->(St->Addr->Hp->Prop)->Prop
def XE (X:Cx)(md:Bool)(e:Expr)(t:TX):Prop:=∀pins s σ H E,Inv X pins σ H s->t σ H E->wpAny (model X.prog X.w) X.A (eval e X.env) (λ_ _=>False) (OF X md pins E) s
def XS (X:Cx)(md:Bool)(st:Stmt)(t:TX):Prop:=∀pins s σ H E,Inv X pins σ H s->t σ H E->wpAny (model X.prog X.w) X.A (exec st X.env) (λ_ _=>False) (OF X md pins E) s
def XB (X:Cx)(md:Bool)(st:List Stmt)(t:TX):Prop:=∀pins s σ H E,Inv X pins σ H s->t σ H E->wpAny (model X.prog X.w) X.A (execs st X.env) (λ_ _=>False) (OF X md pins E) s
theorem IZ {M:Model}{E:St->Addr->Hp->Prop}{EX:XK}{e:Value}{E':Value->Shared->Prop}(hst:X.stack=X.env :: X.outer)(hfr:X.env.frame=some X.env.locals)(hex:X.ex=[])(h:OF X true pins E e s')(k:∀σ C H,E σ C H->EX (.ref C) none H) :
  wpAny M X.A (leaving X.env e) (λ_ s''=>CX1 X.prog X.w X.outer X.H₀ X.s₀ EX e s'') E' s':=by
 obtain⟨σ,H,s,a,C,H',rfl,I,hE,h⟩:=h
 have hfs:X.A.frames=some (X.env :: X.outer):=by rw [I.ok.frames,hst]
 rcases h with ⟨B,f⟩|⟨_,rfl,vs,h1,m,rfl⟩
 ·obtain⟨a0,x⟩:=f.fly
  rw [hst] at x;refine wpAny_leaves_onW hfs hfr x λh' x1 u=>⟨a,C,H',B,rfl,Pu (f.inv I) hst hfr hex (λb nb hb=>f.ins b nb ?_) x.1 x1 u,k _ _ _ hE⟩
  rcases hb with hb|⟨o,e⟩
  ·exact .inl hb
  ·exact .inr (I.base.there b o e (by rw [hex];simp))
 ·have hin:∀env∈X.stack,∀b,env.frame=some b->b∈frs X.stack:=λenv he b hb=>W1c.mpr ⟨env,he,hb⟩
  have fr:=PySem.W.funFrames_hide I.stack hin
  rw [hst] at fr;have hB:(PySem.W.hideAll s.heap (frs X.stack)).StaysIn s.heap:=λb o q=>PySem.W.of_hideAll _ q
  rw [hst] at hB;refine wpAny_leaves_madeW (h:=s.heap) hfs hfr hB fr m λh' t x1 _ _ u=>⟨a,C,H',_,rfl,Pu (s':=s) (C:=C) I hst hfr hex (λb nb hb=>?_) hB x1 ((Heap.UpToSlots.of_keeps m.keeps).trans u),k _ _ _ hE⟩
  rw [hst] at nb;have:∃o,s.heap.get? b=some o:=by
   rcases hb with ⟨u,e⟩|⟨o,e⟩
   ·exact (I.hok b u e).get
   ·exact I.base.there b o e (by rw [hex];simp)
  obtain⟨o,e⟩:=this
  exact⟨o,PySem.W.hideAll_get _ e nb⟩
end
end L2
namespace L2
open PySem PySem.Spec PyProof.Rows
section
variable {X:Cx} {md:Bool} {st:Stmt} {Jt:List Stmt} {e a b:Expr} {es:List Expr} {t u:TX} {pos apos p:Pos} {x m:Str} {pins:List (Addr×Obj)} {σ:St} {H:Hp} {s:Shared} {E:St->Addr->Hp->Prop}
theorem FO (h:XS X md st t)(i:∀σ H E,u σ H E->t σ H E):XS X md st u:=λpins s σ H E I q=>h pins s σ H E I (i σ H E q)
theorem FQ {st:List Stmt}(h:XB X md st t)(i:∀σ H E,u σ H E->t σ H E):XB X md st u:=λpins s σ H E I q=>h pins s σ H E I (i σ H E q)
theorem FP (h:XE X md e t)(i:∀σ H E,u σ H E->t σ H E):XE X md e u:=λpins s σ H E I q=>h pins s σ H E I (i σ H E q)
theorem OR {st:List Stmt}(h:XB X md st t)(k:XB X md st u):XB X md st (λσ H E=>t σ H E\/u σ H E):=λpins s σ H E I q=>q.elim (h pins s σ H E I) (k pins s σ H E I)
theorem EV (h:XS X md st t):XB X md (st :: Jt) t:=λpins s σ H E I q=>W0P (V1 (h pins s σ H E I q) (λ_ _ z=>z.elim) λ_ _ z=>z)
def OT (tn:TS)(t:TX):TX:=λσ H E=>tn { nx:=λσ1 H1=>t σ1 H1 E,rt:=λ_ _=>False } σ H
theorem EU {tn:TS}(h1:PS X.nox st tn)(h2:XB X md Jt t):XB X md (st :: Jt) (OT tn t):=by
 intro pins s σ H E I q;refine W0P (V1 (h1 pins s σ H _ (I.wish _) q) (λf s1 z=>?_) λ_ _ z=>False.elim z)
 cases f with
 |next=>obtain⟨σ',H',I',q⟩:=z;exact h2 pins s1 σ' H' E I'.unwish q
 |ret v=>obtain⟨_,_,_,_,_,q⟩:=z;exact q.elim
 |brk=>obtain⟨_,_,_,q⟩:=z;exact q.elim
 |cont=>obtain⟨_,_,_,q⟩:=z;exact q.elim
def xIf (tc:TT)(t u:TX):TX:=λσ H E=>tc σ H λb H1=>if b=true then t σ H1 E else u σ H1 E
theorem OP {c:Expr}{A B:List Stmt}{tc:TT}(hc:PT X.nox c tc)(ha:XB X md A t)(hb:XB X md B u):XS X md (.If c A B pos) (xIf tc t u):=by
 intro pins s σ H E I h;refine wpAny_If (V1 (hc pins s σ H _ (I.wish _) h) (λd s1 z=>?_) λ_ _ z=>False.elim z)
 obtain⟨H1,I1,q1⟩:=z
 cases d with
 |true=>exact ha pins s1 σ H1 E I1.unwish q1
 |false=>exact hb pins s1 σ H1 E I1.unwish q1
theorem ER (he:XE X md e t)(hs:swapsWith e none pos.line X.env=pure false:=by rfl):XS X md (.Expr e pos) t:=λpins s σ H E I h=>
 wpAny_Expr_any (V1 (he pins s σ H E I h) (λ_ _ z=>z.elim) λ_ _ z=>z) I.quiet hs
theorem Sh (he:XE X md e t):XS X md (.Return (some e) pos) t:=λpins s σ H E I h=>
 wpAny_Return_some (V1 (he pins s σ H E I h) (λ_ _ z=>z.elim) λ_ _ z=>z)
theorem Sg {pos':Pos}(he:XE X md e t)(hs:swapsWith e (some (.Name x pos')) pos.line X.env=pure false:=by rfl):XS X md (.Assign [.Name x pos'] e pos) t:=λpins s σ H E I h=>
 wpAny_Assign_Name (V1 (he pins s σ H E I h) (λ_ _ z=>z.elim) λ_ _ z=>z) hs
theorem OQ (ha:XE X md a t):XE X md (.Subscript a b pos) t:=by
 intro pins s σ H E I h;rw [eval_Subscript];exact W3 (V1 (ha pins s σ H E I h) (λ_ _ z=>z.elim) λ_ _ z=>z)
variable {k:Nat} {f C:Addr} {fd:FuncData} {ps:List Str} {sp:Sp} {dvs:List V} {ds:List Value} {ta:TE} {tA:TA}
def EX (E:St->Addr->Hp->Prop)(σ:St):XK:=λc _ H=>∃C,c = .ref C/\E σ C H
theorem R6 {us:List Value}{vs:List V}(F:FnOk X.prog X.w X.K X.mg X.base (CX1 X.prog X.w) k f fd ps sp)(hr:Room k X.A)(hb:Qv X.K fd ps [])(I:Inv X pins σ H s)(r:Y4 vs us)(h:sp vs H (λ_ _=>False) (EX E σ)) :
  wpAny (model X.prog X.w) X.A (call (.ref f) us) (λ_ _=>False) (OF X md pins E) s:=by
 have hl:(us++[]).length=ps.length:=by rw [V8,<-r.length];exact F.len _ _ _ _ h
 have hb':=hb s us I.kIn hl
 rw [V8] at hb'
 refine wpAny_call (W1d (F.run X.A X.stack s H ⟨us,[]⟩ us vs _ _ hr I.env0 hb' r h) λr s' hq=>?_)
 cases r with
 |error e=>
  obtain⟨a,C,H',B,rfl,f,C',e',hE⟩:=hq
  cases e'
  exact⟨σ,H,s,a,C,H',rfl,I,hE,.inl ⟨B,f⟩⟩
 |ok fl=>
  cases fl with
  |ret u=>obtain⟨_,_,_,_,_,_,_,q⟩:=hq;exact q.elim
  |next=>exact False.elim hq
  |brk=>exact False.elim hq
  |cont=>exact False.elim hq
def OV (sp:Sp)(t:TA):TX:=λσ H E=>t σ H λvs H1=>sp vs H1 (λ_ _=>False) (EX E σ)
theorem ET (F:FnOk X.prog X.w X.K X.mg X.base (CX1 X.prog X.w) k f fd ps sp)(hr:Room k X.A)(hg:Gl X x)(hm:X.mg x=some (.ref f))(hk:Wy X.K (.ref f)=true)(hb:Qv X.K fd ps [])
  (ha:PA X.nox (e :: es) tA) (hdb:(x == ("__debug__" : Str))=false:=by decide) (he:Wo (e :: es) X.env=(false,eval e X.env) :: Wo es X.env:=by rfl) (hpl:(backTo pos (Wo es X.env)).any (·.1)=false:=by rfl) :
  XE X md (.Call (.Name x p) (e :: es) [] pos) (OV sp tA):=by
 intro pins s σ H E I h;refine Vq (Jn I hg hm ?_ hdb)
 refine W00 (h₀:=X.base) I.ok.mod.kin hk (V1 (ha pos pins s σ H _ (I.wish _) h) (λus s1 z=>?_) λ_ _ z=>False.elim z) he hpl
 obtain⟨vs,H1,I1,r,q⟩:=z
 exact⟨I1.unwish.kIn,R6 F hr hb I1.unwish r q⟩
def OU (C:Addr)(m:Str)(sp:Sp)(ta:TE)(t:TA):TX:=λσ H E=>ta σ H λx H1=>∃a dx fs,x = .ref a/\H1 a=some (.ins C dx fs)/\fs.lookup m=none/\t σ H1 λvs H2=>sp (x :: vs) H2 (λ_ _=>False) (EX E σ)
theorem ES {pl:Sem Bool}{o:Expr}(ho:PE X.nox o ta)(c:Cls X.K C)(hm:Meth X.K C m f)(F:FnOk X.prog X.w X.K X.mg X.base (CX1 X.prog X.w) k f fd ps sp)(hr:Room k X.A)(hb:Qv X.K fd ps [])(ha:PA X.nox (e :: es) tA)
  (hst:Wo (e :: es) X.env=(false,eval e X.env) :: Wo es X.env:=by rfl) (hpl:(backTo pos (Wo es X.env)).any (·.1)=false:=by rfl)
  (ht:eval (.Call (.Attribute o m apos) (e :: es) [] pos) X.env=(do
   let ov <-eval o X.env
   standAt apos.atName
   let (f,first) <-holding [ov] (getMethod ov m pl)
   callWith pos f first (backTo pos (Wo (e :: es) X.env)) (backToKw pos (keywordEach [] X.env))):=by rfl) :
  XE X md (.Call (.Attribute o m apos) (e :: es) [] pos) (OU C m sp ta tA):=by
 intro pins s σ H E I h;refine W0J (pl:=pl) (V1 (ho pins s σ H _ (I.wish _) h) (λu s1 z=>?_) λ_ _ z=>False.elim z) ht
 obtain⟨x,H1,I1,rx,a,dx,fs,ex,ea,l,q⟩:=z
 subst ex;obtain rfl:u=Value.ref a:=rx
 refine U2 I1.unwish ea c hm l ?_
 refine W00 (first:=[.ref a]) (h₀:=X.base) I.ok.mod.kin hm.kp (V1 (ha pos pins s1 σ H1 _ I1 q) (λus s2 z=>?_) λ_ _ z=>False.elim z) hst hpl
 obtain⟨vs,H2,I2,r,q2⟩:=z
 exact⟨I2.unwish.kIn,R6 (us:=.ref a :: us) (vs:=.ref a :: vs) F hr hb I2.unwish (.cons rfl r) q2⟩
abbrev bmV:List Value:=[.type "ValueError",.type "Exception",.type "BaseException",.type "object"]
theorem HA {K:W4}{h:Heap}{bmB:List Value}{nid:String}(Y:K.In h)(q:W09 K C bmB nid=true) :
  ∃bm N nm q bs hdct sn sub ab col dd k0 k1 k2 k3 k5 mN,h.get? C=some (excClassObj nm q C N bs bm hdct sn sub ab col dd k0 k1 k2 k3 k5 nid)/\h.Ns N mN/\mN "__init__" = none/\OwnTail h bmB bm:=by
 unfold W09 at q;split at q
 ·rename_i dd cd sl ho
  split at q
  ·rename_i C' bm k0 k1 k2 k3 n k5 hm hs
   simp only [Ws,beq_iff_eq,Bool.not_eq_true'] at q
   obtain⟨⟨⟨⟨⟨rfl,rfl⟩,hdel⟩,ht⟩,hok⟩,hni⟩:=q
   obtain⟨nm,bs,mro,ns,qn,hd,sn,sub,ab,col,del⟩:=cd
   dsimp only at hm hdel hok hni;subst hm hdel;obtain⟨sl⟩:=sl
   simp only at hs
   subst hs;exact⟨bm,ns,nm,qn,bs,hd,sn,sub,ab,col,dd,k0,k1,k2,k3,k5,_,Y _ _ ho,.of_isNs (PySem.W.isNs_of_in Y hok),PySem.W.nsMap_none_of_in Y hok hni,PySem.W.tail_of_in Y ht⟩
  ·cases q
 ·cases q
theorem Lm {np cpos:Pos}{z:Str}{j p2}(hc:X.calm=true)(hg:Gl X x)(hm:X.mg x=some (.ref C))(q:W09 X.K C bmV "ValueError.__new__" = true)(hdb:(x == ("__debug__" : Str))=false:=by decide) :
  XS X true (.Raise (some (.Call (.Name x np) [.Constant (.str z) j p2] [] cpos)) none pos) (λσ H E=>E σ C H):=by
 intro pins s σ H E I hE;obtain⟨bm,N,nm,qn,bs,hdct,sn,sub,ab,col,dd,k0,k1,k2,k3,k5,mN,hC,hN,hni,T⟩:=HA (I.ok.mod.kin) q
 refine wpAny_Raise_call_subT (C:=C) (nm:=nm) (q:=qn) (N:=N) (bs:=bs) (bm:=bm) (hdct:=hdct) (sn:=sn) (sub:=sub) (ab:=ab) (col:=col) (dd:=dd) (k0:=k0) (k1:=k1) (k2:=k2) (k3:=k3) (k5:=k5) W1a (mN:=mN) (T.hasType W1a.hasBase) (I.ok.hd hc) rfl hni (Jn I hg hm ⟨rfl,?_⟩ hdb)
 refine W0R (VM (Calls.Constant_str (k:=j) (pos:=p2) (W07 ⟨rfl,?_,?_,hN.keeps I.bk,T.keeps I.bk,λh' e m=>⟨σ,H,{ s with toks:=s.toks+1 },e,C,H,rfl,I.tok _,hE,.inr ⟨rfl,rfl,_,h',m,rfl⟩⟩⟩)))
 ·show 1<=Wd
  decide
 ·exact I.bk _ _ hC
end
theorem Fun.okX {P:Program}{w:World}{K:W4}{mg:Str->Option Value}{base:Heap}{x qual:Str}{st:Stmt}{f:Addr}{fd:FuncData}{N ps:List Str}{k:Nat}{sp:Sp}(F:Fun K x qual st f fd)(S:FnScope N ps (Z5 st))(len:∀vs H Q E,sp vs H Q E->vs.length=ps.length)
  (hbody:∀(cdv:Value) (A:Around) (outer:List Env) (s:Shared) (H:Hp) (vs:List V) (Q:VK) (E:XK),Room k (A.deeper (envOfC qual (Z5 st) s.heap.objs.size f cdv))->sp vs H Q E->
   ∃t:TX,XB (Lk CX0 P w K mg base N qual (Z5 st) f cdv A outer s H E).nox true (Zs st) t/\t (start N vs) H (λ_ C H'=>E (.ref C) none H')):FnOk P w K mg base (CX1 P w) (k+1) f fd ps sp:=by
 obtain⟨oc,od,kV,doc,pm,an,cdv,ct,osl,rfl,lk,hcd⟩:=F.ex
 refine O5 lk hcd S len λA outer s H vs Q E hr hsp=>?_
 obtain⟨t,h,q⟩:=hbody cdv A outer s H vs Q E hr hsp
 refine⟨λD σ H1=>t σ H1 (λ_ C H'=>E (.ref C) none H'),λpins s1 σ H1 D I q1=>?_,q⟩
 refine V1 (h pins s1 σ H1 _ (I.wish _) q1) (λ_ _ z=>z.elim) λe s' z=>?_
 exact IZ (X:=(Lk CX0 P w K mg base N qual (Z5 st) f cdv A outer s H E).nox) rfl rfl rfl z λ_ _ _ y=>y
end L2
namespace L2
open PySem PySem.Spec PyProof.Rows PySem.Builtin PySem.Builtin.ObjectAttr PySem.Builtin.Getset_descriptor
structure ExK (K:W4) (C:Addr):Prop where
 ga:Ww K (.ref C) "__getattribute__" = some (some (.builtin "BaseException.__getattribute__"))
 gx:Ww K (.ref C) "__getattr__" = some none
 bas:V0 K C (.type "BaseException")=some true
 dct:V3 K C=true
 at_:Ww K (.ref C) "__class__" = some (some (.builtin "object.__class__"))
 obj:V0 K C (.type "object")=some true
structure ExB (K:W4):Prop where
 spc:W1q K (.builtin "object.__class__") "__get__" = some (some (.builtin "getset_descriptor.__get__"))
 tak:PySem.W.takesIn K (.builtin "object.__class__")=some true
section
variable {K:W4} {h:Heap} {x C D:Addr} {ox:Obj} {M:Model}
theorem J8 (e:h.get? x=some ox)(c:ox.cls = .ref C):VX M h (typeOf (.ref x)) (.ref C):=c ▸ (VX.ld e).andThen .now
theorem TF (Y:K.In h)(k:V3 K C=true):VX M h (isType (.ref C)) true:=by
 obtain⟨cd,hc,_⟩:=PySem.W.any_some k
 unfold PySem.W.clsIn at hc;split at hc
 ·rename_i ho
  intro A Q E s k q;unfold isType loadHead;exact W3 (wpAny_loadPart (k _ _ (Y _ _ ho)) (Wn q))
 ·cases hc
theorem Fv (Y:K.In h)(b:ExB K)(k:ExK K C):VX M h (find (.ref x) (.ref C) "__class__") (.bind (.builtin "getset_descriptor.__get__") (.builtin "object.__class__")):=by
 have L1:=W0a (M:=M) Y k.at_
 have L2:VX M h (getOf (some (.builtin "object.__class__"))) (some (.builtin "getset_descriptor.__get__")):=PySem.W.looks_specialIn (M:=M) Y b.spc
 have L3:=PySem.W.looks_takesIn (M:=M) Y b.tak
 exact L1.andThen (L2.andThen ((show VX M h (dataDescriptor? (some (.builtin "object.__class__")) (some (.builtin "getset_descriptor.__get__"))) (some (_,_)) from L3.andThen .now).andThen (VX.tag .now)))
theorem Pw {prog:Program}{w:World}{A:Around}{s:Shared}{R:Result->Shared->Prop}{tp:Value}(Y:K.In s.heap)(e:s.heap.get? x=some ox)(c:ox.cls = .ref C)(k:ExK K C)(q:R (.ok (.ret (.ref C))) s) :
  codeAny (model prog w) A (.call (.builtin "getset_descriptor.__get__") ⟨[.builtin "object.__class__",.ref x,tp],[]⟩) R s:=by
 obtain⟨hh,g,dr,t,os⟩:=s
 have L0:=J8 (M:=model prog w) e c
 have L1:=W0n (M:=model prog w) Y k.obj
 refine codeAny_call_builtin PySem.W.KF.slot_gs.plain PySem.W.KF.entry_gs (PySem.W.KF.slot_gs.check _ _ _ _ _ _ _ _ PySem.W.KF.type_class (PySem.W.KF.args_gs _ _ _) ?_)
 unfold Builtin.«getset_descriptor.__get__» descrGet
 rw [PySem.W.dga_obj];refine W3 (Wn ?_)
 unfold descrGetter descrCheckInstance descrNameAndClass isInstance;simp only [PySem.W.KF.owner_class]
 repeat lk
 refine⟨Code.quiet_builtin _ (by decide +kernel),W10 PySem.W.KF.entry_class ?_⟩
 unfold Builtin.«object.__class__» shownTypeOf
 repeat lk
 exact q
theorem Pz {M:Model}{A:Around}{E:Value->Shared->Prop}{s:Shared}{v:Value}{Q:Unit->Shared->Prop}(Y:K.In s.heap)(e:s.heap.get? x=some ox)(c:ox.cls = .ref C)(k:ExK K C)(q:Q () s) :
  wpAny M A (checkBuiltinCall "BaseException.__getattribute__" ⟨[.ref x,v],[]⟩) Q E s:=by
 obtain⟨hh,g,dr,t,os⟩:=s
 have hk:builtinKind "BaseException.__getattribute__" = some .slot:=by decide +kernel
 have hs:splitId "BaseException.__getattribute__" = some ("BaseException", "__getattribute__"):=by decide +kernel
 have ha:=PySem.F.args_bexc_ga (.ref x) v
 have L0:=J8 (M:=M) e c
 have L1:=W0n (M:=M) Y k.bas
 simp only [checkBuiltinCall,hk,hs]
 refine W3 ?_
 unfold isInstance
 repeat lk
 repeat (first|exact q|wp_step)
theorem Px {prog:Program}{w:World}{A:Around}{E:Value->Shared->Prop}{s:Shared}{tk:Tok}{Q:Fin->Shared->Prop}(Y:K.In s.heap)(e:s.heap.get? x=some ox)(c:ox.cls = .ref C)(b:ExB K)(k:ExK K C)(q:Q (.done (.ret (.ref C))) s) :
  wpAny (model prog w) A (Builtin.«object.__getattribute__» ⟨[.ref x,.str "__class__" tk],[]⟩) Q E s:=by
 obtain⟨hh,g,d,t,os⟩:=s
 have L0:=J8 (M:=model prog w) e c
 have L2:=Fv (M:=model prog w) (x:=x) Y b k
 unfold Builtin.«object.__getattribute__»
 refine W3 (Wn ?_)
 refine W3 (Wn ?_)
 refine W3 (L0.at (W3 (L2.at ?_)))
 show wpAny _ _ (bindTo _ _ _ _) _ _ _
 unfold bindTo
 first
  |exact Wn ⟨Code.quiet_builtin _ (by decide +kernel),Pw (s:=⟨hh,g,d,t,os⟩) Y e c k q⟩
  |exact W3 (Vo (wpAny_call (Pw (s:=⟨hh,g,d,t,os⟩) Y e c k (Wn q))))
theorem Py {prog:Program}{w:World}{A:Around}{E:Value->Shared->Prop}{Q:Option Value->Shared->Prop}{s:Shared}(Y:K.In s.heap)(e:s.heap.get? x=some ox)(c:ox.cls = .ref C)(b:ExB K)(k:ExK K C)(q:Q (some (.ref C)) { s with toks:=s.toks+1 }) :
  wpAny (model prog w) A (getAttr? (.ref x) "__class__") Q E s:=by
 obtain⟨hh,g,d,t,os⟩:=s
 have L0:=J8 (M:=model prog w) e c
 have L1:=W0a (M:=model prog w) Y k.ga
 have L3:=W0a (M:=model prog w) Y k.gx
 have f3:=W1b.ga.bind (.ref x)
 unfold getAttr? getAttrBy? getAttrBy
 refine W3 (wpAny_mkText (W3 (W0x (Vo (W3 (L0.at (W3 (L1.at ?_))))))))
 show wpAny _ _ (getAttrByItsOwn _ _ _ _ _ _) _ _ _
 refine W3 (m:=hookBefore (.ref C)) (L3.at ?_)
 refine W3 (W0x (Vo ?_))
 show wpAny _ _ (boundAndCalled _ _ _) _ _ _
 unfold boundAndCalled;rw [f3];refine W3 (Wn ?_)
 refine wpAny_call (codeAny_call_builtin W1b.ga.plain PySem.F.entry_bexc_ga (Pz (s:=⟨hh,g,d,t+1,os⟩) Y e c k (Px (s:=⟨hh,g,d,t+1,os⟩) Y e c b k ?_)))
 exact PySem.W.handed_on rfl (Wn q)
end
end L2
namespace L2
open PySem PySem.Spec PyProof.Rows PySem.Builtin
section
variable {K:W4} {x C D:Addr} {ox:Obj}
theorem Ff (b:ExB K)(k:ExK K C)(c:ox.cls = .ref C):PySem.W.KitX K (.ref x) (.ref C) (λh=>h.get? x=some ox) where
 ty:=λ_ _ _ e=>J8 e c
 it:=λ_ _ Y _=>TF Y k.dct
 ne:=λh tp dd its n sl Y htp=>by
  obtain⟨cd,hc,_⟩:=PySem.W.any_some k.dct
  refine Bool.eq_false_iff.mpr λq=>?_
  have e:C=tp:=Value.ref.inj (beq_iff_eq.mp q)
  subst e;unfold PySem.W.clsIn at hc;split at hc
  ·rename_i ho
   have z:=(Y _ _ ho).symm.trans htp
   cases z
  ·cases hc
 ca:=λY e q=>Py Y e c b k q
theorem NC {M:Model}{A:Around}{E:Value->Shared->Prop}{Q:Bool->Shared->Prop}{s:Shared}(Y:K.In s.heap)(e:s.heap.get? x=some ox)(c:ox.cls = .ref C)(hd:V3 K D=true)(ht:W0H K (.ref D)=some (.type "type"))(hb:V0 K D (.type "BaseException")=some true)(hs:V0 K C (.ref D)=some true)(q:Q true s) :
  wpAny M A (excMatches (.ref x) (.ref D)) Q E s:=by
 obtain⟨hh,g,d,t,os⟩:=s
 have L0:=PySem.W.looks_typeIn (M:=M) Y ht
 have L1:=TF (M:=M) Y hd
 have L2:=W0n (M:=M) Y hb
 have L3:=J8 (M:=M) e c
 have L4:=W0n (M:=M) Y hs
 have f:=tc_notTuple
 unfold excMatches isInstance isExcClass
 repeat lk
 exact q
end
abbrev Cx.hand (X:Cx)(pins:List (Addr×Obj))(a:Addr)(oe:Obj):Cx:={ X with A:=X.A.mark (some (.ref a)),calm:=false,pn:=X.pn++pins++[(a,oe)],xe:=λ_ _=>False }
section
variable {X:Cx} {pins:List (Addr×Obj)} {σ:St} {H:Hp} {s:Shared} {a:Addr} {oe:Obj} {i:Nat} {n:Str}
theorem Cx.Ok.hand (ok:X.Ok):(X.hand pins a oe).Ok:=
 ⟨ok.mod,ok.kind,ok.glob,ok.blt,ok.above,ok.inj,ok.has,ok.cab,(λz=>Bool.noConfusion z),ok.frames,ok.stk,ok.exf,ok.bs,ok.bsz,ok.noex,ok.exfs,ok.funs,ok.frf⟩
theorem Inv.hand (I:Inv X pins σ H s)(h1:s.heap.get? a=some oe)(h2:H a=none)(h3:a≠X.env.locals)(h4:a∉X.fs)(h5:∀v,oe.data≠.cell v):Inv (X.hand pins a oe) [] σ H s:=by
 refine⟨I.ok.hand,I.os,I.bare,I.base,I.loc,I.cell,I.free,I.freeC,λp hp=>?_,I.hok,I.len⟩
 rw [V8] at hp;rcases W0p.mp hp with hp|hp
 ·exact I.pin p hp
 ·have e:p=(a,oe):=by simpa using hp
  subst e;exact⟨h1,h2,h3,h4,h5⟩
theorem Inv.unhand (ok:X.Ok)(I:Inv (X.hand pins a oe) [] σ H s):Inv X pins σ H s:=
 ⟨ok,I.os,I.bare,I.base,I.loc,I.cell,I.free,I.freeC,λp hp=>I.pin p (Vx _ (Vx _ hp)),I.hok,I.len⟩
theorem Jq {M:Model}{A:Around}{E:Value->Shared->Prop}{pos:Pos}{Q:Unit->Shared->Prop}(I:Inv X pins σ H s)(hN:X.N.Nodup)(hi:X.N[i]? = some n)(hk:X.env.scope.names.lookup n=some .local)
  (h:∀s',Inv X pins (σ.set i none) H s'->Q () s'):wpAny M A (do bindName X.env n .none;unbindBehindTheSuite X.env n pos) Q E s:=by
 obtain⟨m,hn,hl⟩:=id I.loc
 have hcls:(X.env.scope.kind == .class||(X.env.scope.kind == .module&&X.env.locals != X.env.globals))=false:=by rw [I.ok.kind];rfl
 refine wpAny_nameGoes_keeps hk hn hcls λh' v hn' hs=>h _ ?_
 obtain⟨oL,_,_,hoL,_⟩:=id hn
 have cne:=I.cne
 refine⟨I.ok,I.os,I.bare,⟨λb o e n hb hx=>?_,λb o e n hb hx=>?_,I.base.free,λb o e hx=>?_,I.base.tups,I.base.frzs,I.base.tbls⟩,⟨_,hn',λj y v' e1 e2 e3=>?_⟩,λy c e=>?_,I.free,I.freeC,λp hp=>?_,λb ob e=>?_,by simpa using I.len⟩
 ·exact (hs.2 b (WT (WJ (Wz e) I.ok.above))).trans (I.base.keep b o e n hb hx)
 ·obtain⟨sl,e1⟩:=I.base.slot b o e n hb hx
  exact⟨sl,(hs.2 b (WT (WJ (Wz e) I.ok.above))).trans e1⟩
 ·obtain⟨o',e1⟩:=I.base.there b o e hx
  exact⟨o',(hs.2 b (WT (WJ (Wz e) I.ok.above))).trans e1⟩
 ·by_cases hj:j=i
  ·subst hj
   have hiσ:j<σ.length:=by rw [I.len];exact (Wj.mp hi).1
   rw [V6 hiσ] at e2;cases e2
  ·rw [WV (Ne.symm hj)] at e2
   obtain⟨u',r',q⟩:=hl j y v' e1 e2 e3
   refine⟨u',r',?_⟩
   rcases q with ⟨k,e⟩|⟨k,c,e,z⟩
   ·refine .inl ⟨k,?_⟩
    have:y≠n:=λe=>hj (Gi hN e1 (e ▸ hi))
    simp [this,e]
   ·exact .inr ⟨k,c,e,z.sameBut hs (cne y c e)⟩
 ·obtain⟨w',z⟩:=I.cell y c e
  exact⟨w',z.sameBut hs (cne y c e)⟩
 ·obtain⟨e,n,ne,nf,d⟩:=I.pin p hp
  exact⟨(hs.2 p.1 ne).trans e,n,ne,nf,d⟩
 ·refine (I.hok b ob e).stay (λc w' hc q=>(hs.2 c ?_).trans q) (λ_ q=>q) λ_ _ q=>q
  rintro rfl
  rcases hc with rfl|hc
  ·rw [I.free] at e;cases e
  ·rw [I.free] at hc;cases hc
variable {body suite:List Stmt} {b₀:Stmt} {t:TX} {th:Addr->Obj->TS} {x:Str} {D0:Addr} {np hpos pos:Pos}
def OW (K:W4)(D0:Addr)(i:Nat)(t:TX)(th:Addr->Obj->TS):TS:=λD σ H=>t σ H λσ1 C H1=>V0 K C (.ref D0)=some true/\∀a oe,H1 a=none->oe.cls = .ref C->
 th a oe { nx:=λσ2 H2=>D.nx (σ2.set i none) H2,rt:=D.rt,bk:=λσ2 H2=>D.bk (σ2.set i none) H2,ct:=λσ2 H2=>D.ct (σ2.set i none) H2 } (σ1.set i (some (.ref a))) H1
theorem Ct (hst:X.stack=X.env :: X.outer)(hfr:X.env.frame=some X.env.locals)(hN:X.N.Nodup)(hi:X.N[i]? = some n)(hk:X.env.scope.names.lookup n=some .local)(hg:Gl X x)(hm:X.mg x=some (.ref D0))
  (hd:V3 X.K D0=true) (ht:W0H X.K (.ref D0)=some (.type "type")) (hb:V0 X.K D0 (.type "BaseException")=some true)
  (hB:XB X false body t) (hs:∀pins a oe,PSs (X.hand pins a oe) (b₀ :: suite) (th a oe)) (hdb:(x == ("__debug__" : Str))=false:=by decide) :
  PS X (.Try body [.ExceptHandler (some (.Name x np)) (some n) (b₀ :: suite) hpos] [] [] pos) (OW X.K D0 i t th):=by
 intro pins s σ H D I q;refine wpAny_Try_except (V1 (hB pins s σ H _ I q) (λ_ _ z=>z.elim) λe s1 z=>?_)
 obtain⟨σ1,H1,s0,a,C,H',rfl,I1,⟨hsub,hE⟩,z⟩:=z
 rcases z with ⟨B,f⟩|⟨z,_⟩
 ·have hfs:X.A.frames=some (X.env :: X.outer):=by rw [I1.ok.frames,hst]
  obtain⟨a0,y⟩:=f.fly
  have y':=y
  rw [hst] at y'
  refine wpAny_looks_onW hfs hfr y' λh4 held u4=>wpAny_landsW held λh5 x5 u5=>?_
  have f5:=f.turn (f.free I1) (by rw [hst];exact x5) (u4.trans u5)
  have J5:=f5.inv I1
  obtain⟨ob,hob,hobc⟩:=x5.there
  refine wpAny_handleBy_cons (codeAny_handlers_test ?_) (by intro q;cases q)
  have J5':Inv { X with A:=X.A.mark (some (.ref a)),calm:=false } pins σ1 H' { s1 with heap:=h5 }:=
   ⟨⟨J5.ok.mod,J5.ok.kind,J5.ok.glob,J5.ok.blt,J5.ok.above,J5.ok.inj,J5.ok.has,J5.ok.cab,(λz=>Bool.noConfusion z),J5.ok.frames,J5.ok.stk,J5.ok.exf,J5.ok.bs,J5.ok.bsz,J5.ok.noex,J5.ok.exfs,J5.ok.funs,J5.ok.frf⟩,J5.os,J5.bare,J5.base,J5.loc,J5.cell,J5.free,J5.freeC,J5.pin,J5.hok,J5.len⟩
  refine Jn J5' hg hm ?_ hdb
  refine NC J5.kIn hob hobc hd ht hb hsub (codeAny_handlers_suite_as ?_)
  refine lands_againW x5 λh6 x6 u6=>?_
  have f6:=f5.turn (f5.free I1) (by rw [hst];exact x6) u6
  have J6:=f6.inv I1
  obtain⟨oe,vs,hoe,hoec,hoed,_⟩:=x6.first
  have nfr:a∉frs X.stack:=λz=>by
   rw [hst] at z;obtain⟨_,o,ho,nf⟩:=x6.2.2.1.mem z
   rw [hoe] at ho;cases ho
   exact nf _ hoed
  have hfree:H' a=none:=by
   cases z:H' a with
   |none=>rfl
   |some u=>
    obtain⟨o,e⟩:=f6.ins a nfr (.inl ⟨u,z⟩)
    rw [x6.2.1] at e;cases e
  have nL:a≠X.env.locals:=λz=>nfr (by rw [hst];unfold frs;rw [VV,hfr,z];exact Wv)
  have nF:a∉X.fs:=λz=>nfr (by rw [hst];unfold frs;rw [VV,hfr];exact Wu _ z)
  have K6:=J6.hand hoe hfree nL nF (λv e=>by rw [hoed] at e;cases e)
  refine TV (X:=X.hand pins a oe) K6 hN hi (Or.inl hk) (v:=.ref a) rfl (λs7 I7=>?_) (.inr hk)
  refine V1 (hs pins a oe [] s7 _ H' _ I7 (hE a oe hfree hoec)) (λfl s8 z=>?_) λ_ _ z=>False.elim z
  cases fl with
  |next=>obtain⟨σ8,H8,I8,q8⟩:=z;exact Jq (I8.unhand I1.ok) hN hi hk λs9 I9=>⟨_,H8,I9,q8⟩
  |brk=>obtain⟨σ8,H8,I8,q8⟩:=z;exact Jq (I8.unhand I1.ok) hN hi hk λs9 I9=>⟨_,H8,I9,q8⟩
  |cont=>obtain⟨σ8,H8,I8,q8⟩:=z;exact Jq (I8.unhand I1.ok) hN hi hk λs9 I9=>⟨_,H8,I9,q8⟩
  |ret u=>obtain⟨v,σ8,H8,I8,r8,q8⟩:=z;exact Jq (I8.unhand I1.ok) hN hi hk λs9 I9=>⟨v,_,H8,I9,r8,q8⟩
 ·cases z
theorem Cu {h₀:ExceptHandler}{hs:List ExceptHandler}{t:TS}(h:PSs X.nox body t):PS X (.Try body (h₀ :: hs) [] [] pos) t:=by
 intro pins s σ H D I q;refine wpAny_Try_except (V1 (h pins s σ H D (I.wish _) q) (λf s1 z=>?_) λ_ _ z=>False.elim z)
 cases f with
 |next=>exact W0Y z.unwish
 |ret v=>exact z.unwish
 |brk=>exact z.unwish
 |cont=>exact z.unwish
end
end L2
namespace DL
open PySem L2 PySem.Spec PyProof.Rows
abbrev XR:=En->Sto->Option (Str×En×Sto)
def tXR (K:W4)(mg:Str->Option Value)(r:XR):TX:=λσ H E=>∃ρ en S c en' S',EnR K ρ H en σ/\StR K ρ H S/\r en S=some (c,en',S')/\
 ∀ρ' H' σ',Ext ρ H ρ' H'->StR K ρ' H' S'->EnR K ρ' H' en' σ'->∀C,mg c=some (.ref C)->E σ' C H'
def RE (X:Cx)(md:Bool)(e:Expr)(r:XR):Prop:=XE X md e (tXR X.K X.mg r)
def RS (X:Cx)(md:Bool)(st:Stmt)(r:XR):Prop:=XS X md st (tXR X.K X.mg r)
def RB (X:Cx)(md:Bool)(st:List Stmt)(r:XR):Prop:=XB X md st (tXR X.K X.mg r)
section
variable {X:Cx} {md:Bool} {st:Stmt} {Jt:List Stmt} {e a b o:Expr} {es:List Expr} {pos apos p:Pos} {x m cn:Str} {r q:XR}
def rNo:XR:=λ_ _=>none
theorem LI {st:List Stmt}:RB X md st rNo:=by
 intro pins s σ H E I h;obtain⟨ρ,en,S,c,en',S',E,R,e,k⟩:=h
 cases e
def rOr (r q:XR):XR:=λen S=>match r en S with|some p=>some p|none=>q en S
theorem LH {st:List Stmt}(h:RB X md st r)(k:RB X md st q):RB X md st (rOr r q):=by
 refine FQ (OR h k) ?_
 rintro σ H E ⟨ρ,en,S,c,en',S',E,R,e,k⟩
 unfold rOr at e;split at e
 ·rename_i p hp
  cases e;exact .inl ⟨ρ,en,S,c,en',S',E,R,hp,k⟩
 ·exact .inr ⟨ρ,en,S,c,en',S',E,R,e,k⟩
theorem ZI (h:RS X md st r):RB X md (st :: Jt) r:=EV h
def R9 (m:MS)(r:XR):XR:=λen S=>(m en S).bind λp=>match p.1 with | .nx=>r p.2.1 p.2.2|_=>none
theorem G7 {m:MS}(h1:SS X.nox st m)(h2:RB X.nox md Jt r):RB X.nox md (st :: Jt) (R9 m r):=by
 refine FQ (EU (X:=X.nox) h1 h2) ?_
 rintro σ H E ⟨ρ,en,S,c,en',S',E,R,e,k⟩
 unfold R9 at e;obtain⟨⟨fa,en1,S1⟩,e1,e⟩:=W2.mp e
 refine⟨ρ,en,S,fa,en1,S1,E,R,e1,λρ1 H1 σ1 X1 R1 E1=>?_⟩
 cases fa with
 |nx=>exact⟨ρ1,en1,S1,c,en',S',E1,R1,e,λρ2 H2 σ2 X2 R2 E2=>k ρ2 H2 σ2 (X1.trans X2) R2 E2⟩
 |_=>cases e
def rIf (c:M Bool)(r q:XR):XR:=λen S=>(c en S).bind λp=>if p.1 then r en p.2 else q en p.2
theorem G0 {c:Expr}{A B:List Stmt}{mc:M Bool}(hc:ST X.nox c mc)(ha:RB X.nox md A r)(hb:RB X.nox md B q):RS X.nox md (.If c A B pos) (rIf mc r q):=by
 refine FO (OP (X:=X.nox) hc ha hb) ?_
 rintro σ H E ⟨ρ,en,S,c,en',S',E,R,e,k⟩
 unfold rIf at e;obtain⟨p,e1,e⟩:=W2.mp e
 refine⟨ρ,en,S,p.1,p.2,E,R,e1,λρ1 H1 X1 R1=>?_⟩
 by_cases hp:p.1=true
 ·rw [if_pos hp] at e ⊢
  exact⟨ρ1,en,p.2,c,en',S',E.up X1,R1,e,λρ2 H2 σ2 X2 R2 E2=>k ρ2 H2 σ2 (X1.trans X2) R2 E2⟩
 ·rw [if_neg hp] at e ⊢
  exact⟨ρ1,en,p.2,c,en',S',E.up X1,R1,e,λρ2 H2 σ2 X2 R2 E2=>k ρ2 H2 σ2 (X1.trans X2) R2 E2⟩
theorem Qr (he:RE X md e r)(hs:swapsWith e none pos.line X.env=pure false:=by rfl):RS X md (.Expr e pos) r:=ER he hs
theorem SU (he:RE X md e r):RS X md (.Return (some e) pos) r:=Sh he
theorem M1 {pos':Pos}(he:RE X md e r)(hs:swapsWith e (some (.Name x pos')) pos.line X.env=pure false:=by rfl):RS X md (.Assign [.Name x pos'] e pos) r:=Sg he hs
theorem Co (ha:RE X md a r):RE X md (.Subscript a b pos) r:=OQ ha
def Tu (x:Str):XR:=λen S=>some (x,en,S)
def spX (K:W4)(mg:Str->Option Value)(n:Nat)(R:List D->Sto->Option (Str×Sto)):Sp:=λvs H _ E=>vs.length=n/\∃ρ S ds c S',StR K ρ H S/\DsR K ρ H ds vs/\R ds S=some (c,S')/\
 ∀ρ' H',Ext ρ H ρ' H'->StR K ρ' H' S'->∀C,mg c=some (.ref C)->E (.ref C) none H'
variable {k n:Nat} {f Ca:Addr} {fd:FuncData} {ps:List Str} {F:List D->Sto->Option (Str×Sto)} {mo:M D} {ma:M (List D)}
def Te (F:List D->Sto->Option (Str×Sto))(m:M (List D)):XR:=λen S=>(m en S).bind λp=>(F p.1 p.2).map λq=>(q.1,en,q.2)
theorem G6 (hF:FnOk X.prog X.w X.K X.mg X.base (CX1 X.prog X.w) k f fd ps (spX X.K X.mg n F))(hr:Room k X.A)(hg:Gl X x)(hm:X.mg x=some (.ref f))(hk:Wy X.K (.ref f)=true)(hb:Qv X.K fd ps [])(ha:SA X.nox (a :: es) ma)
  (hlen:∀en S r,ma en S=some r->r.1.length=n) (hdb:(x == ("__debug__" : Str))=false:=by decide) (he:Wo (a :: es) X.env=(false,eval a X.env) :: Wo es X.env:=by rfl) (hpl:(backTo pos (Wo es X.env)).any (·.1)=false:=by rfl) :
  RE X.nox md (.Call (.Name x p) (a :: es) [] pos) (Te F ma):=by
 refine FP (ET (X:=X.nox) hF hr hg hm hk hb ha hdb he hpl) ?_
 rintro σ H E ⟨ρ,en,S,c,en',S',EE,R,e,k⟩
 unfold Te at e;obtain⟨r,e1,e⟩:=W2.mp e
 obtain⟨q,e2,e3⟩:=Wi.mp e
 cases e3;refine⟨ρ,en,S,r.1,r.2,EE,R,e1,λxs ρ1 H1 X1 R1 d1=>?_⟩
 exact⟨by rw [<-d1.length];exact hlen _ _ _ e1,ρ1,r.2,r.1,q.1,q.2,R1,d1,e2,λρ2 H2 X2 R2 C hC=>⟨C,rfl,k ρ2 H2 σ (X1.trans X2) R2 (EE.up (X1.trans X2)) C hC⟩⟩
def YO (cn m:Str)(F:List D->Sto->Option (Str×Sto))(mo:M D)(ma:M (List D)):XR:=λen S=>(mo en S).bind λp=>match p.1 with
 | .ref n=>(QJ p.2 n cn).bind λfs=>if (fs.lookup m).isNone=true then (ma en p.2).bind λr=>(F (.ref n :: r.1) r.2).map λq=>(q.1,en,q.2) else none
 |_=>none
theorem Q9 {pl:Sem Bool}(c:ClsD X.K cn Ca)(ho:SE X.nox o mo)(hm:Meth X.K Ca m f)(hF:FnOk X.prog X.w X.K X.mg X.base (CX1 X.prog X.w) k f fd ps (spX X.K X.mg (n+1) F))(hr:Room k X.A)(hb:Qv X.K fd ps [])(ha:SA X.nox (a :: es) ma)(hlen:∀en S r,ma en S=some r->r.1.length=n)
  (hst:Wo (a :: es) X.env=(false,eval a X.env) :: Wo es X.env:=by rfl) (hpl:(backTo pos (Wo es X.env)).any (·.1)=false:=by rfl)
  (ht:eval (.Call (.Attribute o m apos) (a :: es) [] pos) X.env=(do
   let ov <-eval o X.env
   standAt apos.atName
   let (f,first) <-holding [ov] (getMethod ov m pl)
   callWith pos f first (backTo pos (Wo (a :: es) X.env)) (backToKw pos (keywordEach [] X.env))):=by rfl):RE X.nox md (.Call (.Attribute o m apos) (a :: es) [] pos) (YO cn m F mo ma):=by
 refine FP (ES (X:=X.nox) ho c.cls hm hF hr hb ha hst hpl ht) ?_
 rintro σ H E ⟨ρ,en,S,cc,en',S',EE,R,e,k⟩
 unfold YO at e;obtain⟨⟨d1,S1⟩,e1,e⟩:=W2.mp e
 cases d1 with
 |ref j=>
  dsimp only at e;obtain⟨fs,e2,e⟩:=W2.mp e
  split at e
  ·rename_i hl
   obtain⟨r,e3,e⟩:=W2.mp e
   obtain⟨q,e4,e5⟩:=Wi.mp e
   cases e5;refine⟨ρ,en,S,.ref j,S1,EE,R,e1,λx ρ1 H1 X1 R1 d1=>?_⟩
   obtain⟨l,a1,rfl⟩:=d1.of_ref
   obtain⟨dx,xs,h1,h2⟩:=Tz R1 a1 e2 c
   refine⟨l,dx,_,rfl,h1,TQ (by cases q:fs.lookup m with|none=>rfl|some _=>rw [q] at hl;cases hl),ρ1,en,S1,r.1,r.2,EE.up X1,R1,e3,λvs ρ2 H2 X2 R2 d2=>?_⟩
   exact⟨by rw [WP,<-d2.length,hlen _ _ _ e3],ρ2,r.2,.ref j :: r.1,q.1,q.2,R2,.cons (d1.up X2) d2,e4,λρ3 H3 X3 R3 C hC=>⟨C,rfl,k ρ3 H3 σ ((X1.trans X2).trans X3) R3 (EE.up ((X1.trans X2).trans X3)) C hC⟩⟩
  ·cases e
 |_=>cases e
def N2 (nN n:Nat)(r:XR):List D->Sto->Option (Str×Sto):=λds S=>if ds.length=n then (r (Q8 nN ds) S).map λp=>(p.1,(Uw S (.non,p.2.2)).2) else none
end
theorem Fu {P:Program}{w:World}{K:W4}{mg:Str->Option Value}{base:Heap}{x qual:Str}{st:Stmt}{f:Addr}{fd:FuncData}{N ps:List Str}{k n nN:Nat}{r:XR}(F:Fun K x qual st f fd)(S:FnScope N ps (Z5 st))(hn:ps.length=n)(hN:N.length=nN)
  (hb:∀(cdv:Value) (A:Around) (outer:List Env) (s:Shared) (H:Hp) (E:XK),Room k (A.deeper (envOfC qual (Z5 st) s.heap.objs.size f cdv))->RB (Lk CX0 P w K mg base N qual (Z5 st) f cdv A outer s H E).nox true (Zs st) r) :
  FnOk P w K mg base (CX1 P w) (k+1) f fd ps (spX K mg n (N2 nN n r)):=by
 refine F.okX S (λvs H Q E h=>by rw [h.1,hn]) (λcdv A outer s H vs Q E hr h=>?_)
 obtain⟨hl,ρ,S0,ds,c,S',R,d1,e,q⟩:=h
 refine⟨_,hb cdv A outer s H E hr,?_⟩
 unfold N2 at e;split at e
 ·obtain⟨p,e1,e2⟩:=Wi.mp e
  obtain⟨c',en',S1⟩:=p
  cases e2;refine⟨ρ,_,S0,_,en',S1,hN ▸ NR d1,R,e1,λρ1 H1 σ1 X1 R1 E1 C hC=>?_⟩
  exact BX (Q:=λ_ H1=>E (.ref C) none H1) (v:=.non) (x:=.non) R X1 R1 .flat_non rfl λ_ ρ2 H2 X2 R2 _=>q ρ2 H2 X2 R2 C hC
 ·cases e
def isx (c k:Str):Bool:=c == k||k == "ShelfError" || k == "ValueError"
def KV (kv:V)(u:Value):Prop:=(∃a,kv = .ref a/\u = .ref a)\/∃T,kv = .ty T/\u = .type T
def IsO (K:W4)(mg:Str->Option Value)(c:Str)(C:Addr)(ks:List Str):Prop:=∀k∈ks,∃kv u,KV kv u/\(mg k=some u\/(mg k=none/\WI k=some u))/\WQ K (.ref C) u=some (isx c k)
structure ExT (K:W4) (mg:Str->Option Value) (d:Str) (D0:Addr) (cs ks:List Str):Prop where
 b:ExB K
 g:mg d=some (.ref D0)
 dct:V3 K D0=true
 ty:W0H K (.ref D0)=some (.type "type")
 base:V0 K D0 (.type "BaseException")=some true
 cls:∀c∈cs,∃C,mg c=some (.ref C)/\W09 K C bmV "ValueError.__new__" = true/\ExK K C/\V0 K C (.ref D0)=some true/\IsO K mg c C ks
def OO (K:W4)(mg:Str->Option Value)(d:Str)(cs ks:List Str):Prop:=∃D0,ExT K mg d D0 cs ks
section
variable {X:Cx} {i j:Nat} {es:List Expr} {ks:List Str}
theorem Uy {np cpos pos:Pos}{z x d:Str}{j p2}{cs:List Str}(T:OO X.K X.mg d cs ks)(hx:x∈cs)(hc:X.calm=true)(hg:Gl X x)(hdb:(x == ("__debug__" : Str))=false:=by decide) :
  RS X true (.Raise (some (.Call (.Name x np) [.Constant (.str z) j p2] [] cpos)) none pos) (Tu x):=by
 obtain⟨D0,T⟩:=T
 obtain⟨C,hm,q,_⟩:=T.cls x hx
 refine FO (Lm hc hg hm q hdb) ?_
 rintro σ H E ⟨ρ,en,S,c,en',S',E,R,e,k⟩
 cases e;exact k ρ H σ Ext.refl R E C hm
def PX (X:Cx)(i:Nat)(es:List Expr)(ks:List Str):Prop:=∀pins a oe,PA (X.hand pins a oe) es (λσ H Q=>σ[i]? = some (some (.ref a))/\ExB X.K/\∃c C,IsO X.K X.mg c C ks/\ExK X.K C/\oe.cls = .ref C/\Q (ks.map λk=>V.bl (isx c k)) H)
theorem Ic:PX X i [] []:=by
 intro pins a oe;refine M7 YD ?_
 rintro σ H Q ⟨_,_,c,C,_,_,_,q⟩
 exact q
theorem Iy {k:Str}{p:Pos}(hg:Gl X k)(hn:k≠"__name__":=by decide)(hd:(k == ("__debug__" : Str))=false:=by decide):PE X (.Name k p) (λσ H Q=>∃kv u,KV kv u/\(X.mg k=some u\/(X.mg k=none/\WI k=some u))/\Q kv H):=by
 intro pins s σ H Q I ⟨kv,u,hk,h,q⟩
 have r:ZO kv u:=by
  rcases hk with ⟨a,rfl,rfl⟩|⟨T,rfl,rfl⟩
  ·rfl
  ·rfl
 rcases h with h|⟨h1,h2⟩
 ·exact Jn I hg h ⟨kv,H,I,r,q⟩ hd
 ·exact JE I hg h1 h2 ⟨kv,H,I,r,q⟩ hn hd
theorem FG {pins:List (Addr×Obj)}{a:Addr}{oe:Obj}:Ji (X.hand pins a oe) (.builtin "isinstance") (λxs H Q=>∃kv u C b,xs=[.ref a,kv]/\KV kv u/\oe.cls = .ref C/\ExB X.K/\ExK X.K C/\WQ X.K (.ref C) u=some b/\Q (.bl b) H):=by
 intro pins' s σ H xs us Q I r h
 obtain⟨kv,u,C,b,rfl,hk,hc,eb,ek,e,q⟩:=h
 obtain⟨u1,us1,rfl,r1,r2⟩:∃u1 us1,us=u1 :: us1/\ZO (.ref a) u1/\Y4 [kv] us1:=by cases r with|cons r1 r2=>exact⟨_,_,rfl,r1,r2⟩
 obtain⟨u2,rfl,r3⟩:∃u2,us1=[u2]/\ZO kv u2:=by
  cases r2 with|cons r1 r2=>cases r2;exact⟨_,rfl,r1⟩
 obtain rfl:u1 = .ref a:=r1
 obtain rfl:u2=u:=by
  rcases hk with ⟨a,rfl,rfl⟩|⟨T,rfl,rfl⟩
  ·exact r3
  ·exact r3
 have hp:=I.pin (a,oe) (Vx _ (WM _ (W1g.mpr rfl)))
 exact Vf (Ff eb ek hc) I.kIn hp.1 e (by intro q;cases q) λtk=>⟨.bl b,H,I.tok tk,rfl,q⟩
theorem Gc {n k:Str}{p1 p2 p3 p4:Pos}(hr:PX X i es ks)(hi:X.N[i]? = some n)(hv:Vis X.env.scope n)(hI:Gl X "isinstance")(hm:X.mg "isinstance" = none)(hk:Gl X k)
  (hn:k≠"__name__":=by decide) (hd:(k == ("__debug__" : Str))=false:=by decide) (hnd:(n == ("__debug__" : Str))=false:=by decide) (hcd:(n == ("__classdict__" : Str))=false:=by decide)
  (h1:∀env,Wo (.Call (.Name "isinstance" p1) [.Name n p2,.Name k p3] [] p4 :: es) env=(false,eval (.Call (.Name "isinstance" p1) [.Name n p2,.Name k p3] [] p4) env) :: Wo es env:=by intro;rfl) :
  PX X i (.Call (.Name "isinstance" p1) [.Name n p2,.Name k p3] [] p4 :: es) (k :: ks):=by
 intro pins a oe;refine M7 (ZP (J1 (X:=X.hand pins a oe) FG hI hm (by decide +kernel) (ZP (A2 (i:=i) hi hv hnd hcd) (ZP (Iy hk hn hd) YD)) (by decide) (by decide)) (hr pins a oe) (h1 _)) ?_
 rintro σ H Q ⟨h0,eb,c,C,hO,ek,hc,q⟩
 obtain⟨kv,u,z1,z2,z3⟩:=hO k (Wv ..)
 exact⟨.ref a,h0,kv,u,z1,z2,kv,u,C,_,rfl,z1,hc,eb,ek,z3,h0,eb,c,C,λk' hk'=>hO k' (Wu _ hk'),ek,hc,q⟩
theorem Mu {K:W4}{ρ:List Addr}{H:Hp}(f:Str->Bool):∀ks:List Str,DsR K ρ H (ks.map λk=>D.bl (f k)) (ks.map λk=>V.bl (f k))
 |[]=>.nil
 |_ :: ks=>.cons .flat_bl (Mu f ks)
theorem HB {K:W4}{ρ:List Addr}{H:Hp}{en:En}{σ:L2.St}{d:D}{x z:V}(E:EnR K ρ H en σ)(h:DR K ρ H d x)(hij:i≠j):EnR K ρ H ((en.set j (some d)).set i none) (((σ.set i (some z)).set j (some x)).set i none):=by
 refine⟨by simpa using E.len,λt c e=>?_⟩
 by_cases hi:t=i
 ·subst hi
  rw [List.getElem?_set] at e;split at e
  ·split at e<;>cases e
  ·rename_i z;exact absurd rfl z
 ·rw [WV (Ne.symm hi)] at e ⊢
  by_cases hj:t=j
  ·subst hj
   obtain⟨y,h1,h2⟩:=(E.set (i:=t) h).get t c e
   refine⟨y,?_,h2⟩
   rw [List.getElem?_set] at h1 ⊢
   simpa using h1
  ·rw [WV (Ne.symm hj)] at e ⊢
   rw [WV (Ne.symm hi)];exact E.get t c e
def Hb (cs ks:List Str)(i j:Nat)(mb:MS)(rb:XR):MS:=λen S=>match rb en S with
 |some q=>if q.1∈cs/\i<q.2.1.length then some (.nx,(q.2.1.set j (some (.tup (ks.map λk=>.bl (isx q.1 k))))).set i none,q.2.2) else none
 |none=>mb en S
theorem SJ {cs:List Str}{body:List Stmt}{d n y:Str}{mb:MS}{rb:XR}{np hpos pos yp ap tp:Pos}{x1}(T:OO X.K X.mg d cs ks)(hst:X.stack=X.env :: X.outer)(hfr:X.env.frame=some X.env.locals)(hN:X.N.Nodup)
  (hi:X.N[i]? = some n) (hk:X.env.scope.names.lookup n=some .local) (hj:X.N[j]? = some y) (hjl:Loc X.env.scope y) (hij:i≠j) (hg:Gl X d) (hb:SB X.nox body mb) (hr:RB X.nox false body rb) (hx:PX X.nox i es ks) (hks:ks.length<=100)
  (hdb:(d == ("__debug__" : Str))=false:=by decide) (hs:swapsWith (.Tuple es x1 tp) (some (.Name y yp)) ap.line X.env=pure false:=by rfl) (hf:X.fn y=true\/X.env.scope.names.lookup y=some .local:=by first|exact .inl rfl|exact .inr rfl|assumption) :
  SS X.nox (.Try body [.ExceptHandler (some (.Name d np)) (some n) [.Assign [.Name y yp] (.Tuple es x1 tp) ap] hpos] [] [] pos) (Hb cs ks i j mb rb):=by
 obtain⟨D0,T⟩:=T
 intro pins s σ H D I h;obtain⟨ρ,en,S,f,en',S',E,R,e,k⟩:=h
 unfold Hb at e;split at e
 ·rename_i q e1
  split at e
  ·rename_i hq
   cases e;obtain⟨C,g1,_,g2,g3,g4⟩:=T.cls _ hq.1
   refine Ct (X:=X.nox) hst hfr hN hi hk hg T.g T.dct T.ty T.base hr (λpins a oe=>Rc (A0 (X:=X.nox.hand pins a oe) hN hj hjl (Rn (hx pins a oe)) hs hf)) hdb pins s σ H D I ?_
   refine⟨ρ,en,S,q.1,q.2.1,q.2.2,E,R,e1,λρ1 H1 σ1 X1 R1 E1 C' hC'=>?_⟩
   have hc:C'=C:=by
    have:=hC'.symm.trans g1
    injection this with this
    injection this
   subst hc;refine⟨g3,λa oe ha hoe=>⟨?_,T.b,q.1,C',g4,g2,hoe,?_,λp hp=>?_⟩⟩
   ·rw [V6]
    rw [<-E1.len];exact hq.2
   ·rw [Wm]
    have:(100:Nat)<=Wd:=by decide
    omega
   ·exact k ρ1 _ _ (X1.trans (Ext.new hp)) (R1.new hp) (HB (E1.up (Ext.new hp)) (by unfold DR;exact⟨p,_,rfl,Zb,Mu _ ks⟩) hij)
  ·cases e
 ·exact Cu (X:=X.nox) hb pins s σ H D I ⟨ρ,en,S,f,en',S',E,R,e,k⟩
end
end DL
namespace K08
open PySem PySem.Spec PyProof.Rows L2 DL
def top (i:Nat):Stmt:=PySem.Challenge.pw_twinshelves_k08_refusals.main.body.getD i (.Pass ⟨0,0,0,0⟩)
def mth:Stmt->Nat->Stmt
 | .ClassDef _ _ _ b _ _ _ _ _ _ _,j=>b.getD j (.Pass ⟨0,0,0,0⟩)
 |s,_=>s
abbrev Y7:Stmt:=mth (top 18) 0
abbrev Y1:Stmt:=mth (top 18) 2
abbrev Zk:Stmt:=top 9
abbrev YB:Stmt:=top 10
abbrev Zn:Stmt:=top 16
abbrev YA:Stmt:=top 11
abbrev Zm:Stmt:=top 17
abbrev Zd:Stmt:=mth (top 18) 4
abbrev ZT:Stmt:=mth (top 18) 5
abbrev ZG:Stmt:=top 14
abbrev Zr:Stmt:=mth (top 18) 9
abbrev YC:Stmt:=top 13
abbrev ZH:Stmt:=mth (top 18) 10
abbrev Z8:Stmt:=mth (top 18) 11
abbrev ZU:Stmt:=mth (top 18) 8
abbrev Qj:Stmt:=top 20
abbrev YY:Stmt:=top 21
abbrev Q4:Stmt:=top 22
abbrev YL:Stmt:=top 23
abbrev YK:Stmt:=top 24
abbrev Q3:Stmt:=top 25
abbrev ZS:Stmt:=mth (top 18) 6
abbrev ZJ:Stmt:=mth (top 18) 7
abbrev ZC:Stmt:=mth (top 18) 16
abbrev Yl:Stmt:=top 26
abbrev QS:Stmt:=top 27
abbrev Qk:Stmt:=top 28
abbrev Um:Stmt:=top 29
theorem nd0:(["self", "number"]:List Str).Nodup:=by decide +kernel
theorem nd1:(["self"]:List Str).Nodup:=by decide +kernel
theorem nd2:(["text", "least", "greatest"]:List Str).Nodup:=by decide +kernel
theorem nd3:(["sign", "least", "greatest"]:List Str).Nodup:=by decide +kernel
theorem nd4:(["thing"]:List Str).Nodup:=by decide +kernel
theorem nd5:(["self", "name", "text", "mark"]:List Str).Nodup:=by decide +kernel
theorem nd6:(["known", "other", "counts", "mark"]:List Str).Nodup:=by decide +kernel
theorem nd7:(["self", "file", "mark", "names", "texts"]:List Str).Nodup:=by decide +kernel
theorem nd8:(["file"]:List Str).Nodup:=by decide +kernel
theorem nd9:(["self", "which"]:List Str).Nodup:=by decide +kernel
theorem IQ:(["self", "which", "file"]:List Str).Nodup:=by decide +kernel
theorem Z1s:(["_law_script", "_law_k"]:List Str).Nodup:=by decide +kernel
theorem Z1r:(["_law_cell_here", "_law_prime", "_law_many"]:List Str).Nodup:=by decide +kernel
theorem Z0u:(["_law_cell_here", "_law_many", "_law_left"]:List Str).Nodup:=by decide +kernel
theorem Z1q:(["_law_k", "_law_cell_here", "_law_many", "_law_left"]:List Str).Nodup:=by decide +kernel
theorem IP:(["_law_cell_here", "_law_letters", "_law_many"]:List Str).Nodup:=by decide +kernel
theorem Z1p:(["_law_k", "_law_cell_here", "_law_letters"]:List Str).Nodup:=by decide +kernel
theorem IN:(["_law_cell_here", "_law_signs", "_law_many"]:List Str).Nodup:=by decide +kernel
theorem Z1o:(["_law_k", "_law_cell_here", "_law_signs"]:List Str).Nodup:=by decide +kernel
theorem Z1n:(["_law_found", "_law_due"]:List Str).Nodup:=by decide +kernel
theorem Z0t:(["_law_one", "_law_other"]:List Str).Nodup:=by decide +kernel
theorem OJ:(["self", "which", "text", "file", "mark"]:List Str).Nodup:=by decide +kernel
theorem OI:(["self", "which", "name", "file", "mark"]:List Str).Nodup:=by decide +kernel
theorem Z00:(["_law_house", "_law_deed", "_law_which", "_law_name_here", "_law_text_here", "_law_told", "e"]:List Str).Nodup:=by decide +kernel
theorem XZ:(["_law_cell_here", "_law_kind", "_law_some"]:List Str).Nodup:=by decide +kernel
theorem Ng:(["_law_cell_here", "_law_live", "_law_gone", "_law_strange", "_law_name_here", "_law_text_here", "_law_bad_here", "_law_worse", "_law_no_file", "_law_no_name", "_law_no_words", "_law_some", "_law_which"]:List Str).Nodup:=by decide +kernel
theorem GO:(["_law_script", "_law_cell_here", "_law_number", "_law_house", "_law_files", "_law_k", "_law_which", "_law_order", "_law_gone", "_law_live", "_law_before", "_law_strange", "_law_asks_here", "_law_deed", "_law_name_here", "_law_text_here", "_law_due"]:List Str).Nodup:=by decide +kernel
theorem Z0s:(["_law_which", "_law_house"]:List Str).Nodup:=by decide +kernel
theorem BN:WI "all" = some (.builtin "all"):=by decide +kernel
theorem Jc:WI "bool" = some (.type "bool"):=by decide +kernel
theorem Kl:WI "dict" = some (.type "dict"):=by decide +kernel
theorem L7:WI "int" = some (.type "int"):=by decide +kernel
theorem Zx:WI "isinstance" = some (.builtin "isinstance"):=by decide +kernel
theorem YU:WI "len" = some (.builtin "len"):=by decide +kernel
theorem Kk:WI "list" = some (.type "list"):=by decide +kernel
theorem L6:WI "max" = some (.builtin "max"):=by decide +kernel
theorem BM:WI "sorted" = some (.builtin "sorted"):=by decide +kernel
theorem T8:WI "str" = some (.type "str"):=by decide +kernel
theorem Qg:WI "tuple" = some (.type "tuple"):=by decide +kernel
theorem L5:WI "zip" = some (.type "zip"):=by decide +kernel
abbrev xcs:List Str:=["NoFile", "NoName", "NoWords"]
abbrev xks:List Str:=["ValueError", "NoFile", "NoName", "NoWords"]
structure Txt (K:W4) (mg:Str->Option Value) (C_House:Addr):Prop where
 k_House:ClsD K "House" C_House
 g_House:mg "House" = some (.ref C_House)
 na_House_acts:Qn K C_House "acts"
 na_House_files:Qn K C_House "files"
 na_House_own_number:Qn K C_House "own_number"
 na_House_told:Qn K C_House "told"
 ex:OO K mg "ShelfError" ["NoFile", "NoName", "NoWords"] ["ValueError", "NoFile", "NoName", "NoWords"]
 n_all:mg "all" = none
 n_bool:mg "bool" = none
 n_dict:mg "dict" = none
 n_int:mg "int" = none
 n_isinstance:mg "isinstance" = none
 n_len:mg "len" = none
 n_list:mg "list" = none
 n_max:mg "max" = none
 n_range:mg "range" = none
 n_sorted:mg "sorted" = none
 n_str:mg "str" = none
 n_tuple:mg "tuple" = none
 n_zip:mg "zip" = none
 c_LONGEST_NAME:∃t,mg "LONGEST_NAME" = some (.int 6 t)
 c_LONGEST_TEXT:∃t,mg "LONGEST_TEXT" = some (.int 60 t)
abbrev QU:MS:=(Yg (JY "House" "own_number" (Z3 1) (Z3 0)) (Yg (JY "House" "acts" (Zf (D.int (0))) (Z3 0)) (Yg (JY "House" "files" Fc (Z3 0)) (JY "House" "told" Fc (Z3 0)))))
def Yo:List D->Sto->Option (D×Sto):=QR 2 2 QU
abbrev Gm:MS:=(QX (K3 "House" "acts" (Z3 0)))
def YG:List D->Sto->Option (D×Sto):=QR 1 1 Gm
def YS:M D:=(US gLe gLe (Z3 1) (Z3 0) (Z3 2))
abbrev Jm:MS:=(QX (HZ (JC (JB (Z3 0)) 1 [1,2] (gN 0) QW YS)))
def ZB:List D->Sto->Option (D×Sto):=QR 3 3 Jm
abbrev RD:MS:=(QX (Kx (Kp "str" (Z3 0)) (Kx (US gLe gLe (Zf (D.int (1))) (K1 (Z3 0)) (Zf (D.int 6))) (ZM ZB (Z1 (Z3 0) (Z1 (Zf (D.str (W0 "a"))) (Z1 (Zf (D.str (W0 "z"))) Zg)))))))
def ZE:List D->Sto->Option (D×Sto):=QR 1 1 RD
abbrev Uq:MS:=(Uk (RH (Bj (ZM ZE (Z1 (Z3 0) Zg)))) RG mNx)
def Zz:List D->Sto->Option (Str×Sto):=N2 1 1 (rIf (RH (Bj (ZM ZE (Z1 (Z3 0) Zg)))) (Tu "NoName") rNo)
def Zo:List D->Sto->Option (D×Sto):=QR 1 1 Uq
abbrev RC:MS:=(QX (Kx (Kp "str" (Z3 0)) (Kx (mOp gLe (K1 (Z3 0)) (Zf (D.int 60))) (ZM ZB (Z1 (Z3 0) (Z1 (Zf (D.str (W0 " "))) (Z1 (Zf (D.str (W0 "~"))) Zg)))))))
def ZR:List D->Sto->Option (D×Sto):=QR 1 1 RC
abbrev Up:MS:=(Uk (RH (Bj (ZM ZR (Z1 (Z3 0) Zg)))) RG mNx)
def Zy:List D->Sto->Option (Str×Sto):=N2 1 1 (rIf (RH (Bj (ZM ZR (Z1 (Z3 0) Zg)))) (Tu "NoWords") rNo)
def ZA:List D->Sto->Option (D×Sto):=QR 1 1 Up
abbrev YJ:MS:=(Yg (UR "House" "acts" (Zf (D.int (1))) (Z3 0)) (QX (Ys (Z1 (K3 "House" "own_number" (Z3 0)) (Z1 (K3 "House" "acts" (Z3 0)) Zg)))))
def Ze:List D->Sto->Option (D×Sto):=QR 1 1 YJ
abbrev Bg:MS:=(Yg (Qy (ZM Zo (Z1 (Z3 1) Zg))) (Yg (Qy (ZM ZA (Z1 (Z3 2) Zg))) (Yg (YE (Yj "House" "next_mark" Ze (Z3 0) Zg) (gN 3)) (Yg (QG (Ys (Z1 (Z3 3) (Z1 (Z3 1) (Z1 (Ys (Z1 (Z3 3) Zg)) (Z1 (Ys Zg) (Z1 (Ys (Z1 (Ys (Z1 (Z3 3) (Z1 (Z3 2) Zg))) Zg)) Zg)))))) (K3 "House" "files" (Z3 0)) (Z3 3)) (QX (Z3 3))))))
def Yz:List D->Sto->Option (Str×Sto):=N2 4 3 (rOr (Te Zz (Z1 (Z3 1) Zg)) (R9 (Qy (ZM Zo (Z1 (Z3 1) Zg))) (Te Zy (Z1 (Z3 2) Zg))))
def ZN:List D->Sto->Option (D×Sto):=QR 4 3 Bg
def Qm:MS:=(QG (Ha Sb (mOp gIx (Z3 3) (Zf (D.int (1)))) (Np (Z3 2) (mOp gIx (Z3 3) (Zf (D.int (0)))) (mOp gIx (Z3 3) (Zf (D.int (1)))))) (Z3 2) (mOp gIx (Z3 3) (Zf (D.int (0)))))
abbrev Ur:MS:=(Yg (YE (Bm (Z3 0)) (gN 2)) (Yg (RJ (JB (Z3 1)) (gN 3) Qm) (QX (Nn (Tv (Z3 2))))))
def Y0:List D->Sto->Option (D×Sto):=QR 4 2 Ur
abbrev Tl:MS:=(QG (Ys (Z1 (mOp gIx (Z3 1) (Zf (D.int (0)))) (Z1 (mOp gIx (Z3 1) (Zf (D.int (1)))) (Z1 (ZM Y0 (Z1 (mOp gIx (Z3 1) (Zf (D.int (2)))) (Z1 (Ys (Z1 (Z3 2) Zg)) Zg))) (Z1 (Z3 3) (Z1 (Z3 4) Zg)))))) (K3 "House" "files" (Z3 0)) (mOp gIx (Z3 1) (Zf (D.int (0)))))
def Zq:List D->Sto->Option (D×Sto):=QR 5 5 Tl
abbrev RF:MS:=(QX (mOp gEq (K1 (mOp gIx (Z3 0) (Zf (D.int (4))))) (Zf (D.int (0)))))
def YW:List D->Sto->Option (D×Sto):=QR 1 1 RF
abbrev Bh:MS:=(Yg (Uk (mT (mOp Qd (Z3 1) (K3 "House" "files" (Z3 0)))) RG mNx) (QX (mOp gIx (K3 "House" "files" (Z3 0)) (Z3 1))))
def Y3:List D->Sto->Option (Str×Sto):=N2 2 2 (rIf (mT (mOp Qd (Z3 1) (K3 "House" "files" (Z3 0)))) (Tu "NoFile") rNo)
def Zu:List D->Sto->Option (D×Sto):=QR 2 2 Bh
abbrev QV:MS:=(Yg (YE (Yj "House" "file" Zu (Z3 0) (Z1 (Z3 1) Zg)) (gN 2)) (Yg (Uk (Bj (ZM YW (Z1 (Z3 2) Zg))) RG mNx) (QX (Z3 2))))
def Za:List D->Sto->Option (Str×Sto):=N2 3 2 (rOr (YO "House" "file" Y3 (Z3 0) (Z1 (Z3 1) Zg)) (R9 (YE (Yj "House" "file" Zu (Z3 0) (Z1 (Z3 1) Zg)) (gN 2)) (rIf (Bj (ZM YW (Z1 (Z3 2) Zg))) (Tu "NoFile") rNo)))
def Z6:List D->Sto->Option (D×Sto):=QR 3 2 QV
abbrev Bi:MS:=(Yg (YE (Yj "House" "file_on_shelf" Z6 (Z3 0) (Z1 (Z3 1) Zg)) (gN 2)) (Qy (Yj "House" "change" Zq (Z3 0) (Z1 (Z3 2) (Z1 (Yj "House" "next_mark" Ze (Z3 0) Zg) (Z1 (Ys Zg) (Z1 (Ys Zg) Zg)))))))
def YV:List D->Sto->Option (Str×Sto):=N2 3 2 (YO "House" "file_on_shelf" Za (Z3 0) (Z1 (Z3 1) Zg))
def Y9:List D->Sto->Option (D×Sto):=QR 3 2 Bi
abbrev Fb:MS:=(Yg (Uk (mT (mOp gLt (Z3 1) (K1 (Z3 0)))) (QX (mOp gIx (Z3 0) (Z3 1))) mNx) (QX (Zf (D.int (0)))))
def ZL:List D->Sto->Option (D×Sto):=QR 2 2 Fb
abbrev CY:MS:=(QX (mOp Ft (mOp Ft (mOp BU (Z3 0) (Zf (D.int (48271)))) (Z3 1)) (Z3 2)))
def ZZ:List D->Sto->Option (D×Sto):=QR 3 3 CY
def Jb:M D:=(Bk (Z3 3) (ZM ZZ (Z1 (mOp Jp (Z3 1) (mOp BU (Zf (D.int (5))) (Z3 0))) (Z1 (Zf (D.int (9967))) (Z1 (mOp Sd (Z3 2) (Z3 0)) Zg)))))
abbrev F9:MS:=(Yg (YE (Bl (JZ (Z3 1))) (gN 2)) (QX (Bl (JC (Tn (Z3 1)) 1 [0,1,2] (gN 0) QW Jb))))
def Jd:List D->Sto->Option (D×Sto):=QR 3 2 F9
def U5:M D:=(mOp gIx (Z3 2) (ZM ZZ (Z1 (mOp Jp (Z3 1) (mOp BU (Zf (D.int (7))) (Z3 0))) (Z1 (Zf (D.int (9967))) (Z1 (K1 (Z3 2)) Zg)))))
abbrev Fa:MS:=(Yg (YE (Zf (D.str (W0 "abcdefghijklmnopqrstuvwxyz"))) (gN 1)) (Yg (YE (mOp Jp (Zf (D.int (1))) (ZM ZZ (Z1 (Z3 0) (Z1 (Zf (D.int (9973))) (Z1 (Zf (D.int (6))) Zg))))) (gN 2)) (Yg (Uk (mT (mOp gEq (mOp Ft (Z3 0) (Zf (D.int (3)))) (Zf (D.int (0))))) (Yg (YE (Zf (D.str (W0 "ab"))) (gN 1)) (YE (mOp Jp (Zf (D.int (1))) (mOp Ft (Z3 2) (Zf (D.int (2))))) (gN 2))) mNx) (QX (No (Zf (D.str (W0 ""))) (JC (Tn (Z3 2)) 1 [0,1] (gN 0) QW U5))))))
def Qo:List D->Sto->Option (D×Sto):=QR 3 1 Fa
def Ja:M D:=(mOp gIx (Z3 2) (ZM ZZ (Z1 (mOp Jp (Z3 1) (mOp BU (Zf (D.int (7))) (Z3 0))) (Z1 (Zf (D.int (9923))) (Z1 (K1 (Z3 2)) Zg)))))
abbrev F8 : MS := (Yg (YE (Zf (D.str (W0 " !\"#$&'()*+,-./0123456789:;<=>?\x40ABCDEFGHIJKLMNOPQRSTUVWXYZ[\\]^_`abcdefghijklmnopqrstuvwxyz{|}~"))) (gN 1)) (Yg (YE (ZM ZZ (Z1 (Z3 0) (Z1 (Zf (D.int (9949))) (Z1 (Zf (D.int (5))) Zg)))) (gN 2)) (Yg (Uk (mT (mOp gEq (ZM ZZ (Z1 (Z3 0) (Z1 (Zf (D.int (9941))) (Z1 (Zf (D.int (9))) Zg)))) (Zf (D.int (0))))) (YE (Zf (D.int (60))) (gN 2)) mNx) (Yg (Uk (mT (mOp gEq (ZM ZZ (Z1 (Z3 0) (Z1 (Zf (D.int (9941))) (Z1 (Zf (D.int (9))) Zg)))) (Zf (D.int (1))))) (YE (ZM ZZ (Z1 (Z3 0) (Z1 (Zf (D.int (9931))) (Z1 (Zf (D.int (61))) Zg)))) (gN 2)) mNx) (Yg (Uk (mT (mOp gEq (mOp Ft (Z3 0) (Zf (D.int (4)))) (Zf (D.int (0))))) (QX (mOp gIx (Ys (Z1 (Zf (D.str (W0 ""))) (Z1 (Zf (D.str (W0 "a"))) (Z1 (Zf (D.str (W0 "hi;"))) Zg)))) (ZM ZZ (Z1 (Z3 0) (Z1 (Zf (D.int (9929))) (Z1 (Zf (D.int (3))) Zg)))))) mNx) (QX (No (Zf (D.str (W0 ""))) (JC (Tn (Z3 2)) 1 [0, 1] (gN 0) QW Ja))))))))
def Yq:List D->Sto->Option (D×Sto):=QR 3 1 F8
abbrev QF (Fr:List D->Sto->Option (D×Sto)):MS:=(Yg (Uk (Bj (Kp "tuple" (Z3 1))) (Yg (Uk (mOr (RH (Bj (Kp "tuple" (Z3 0)))) (mT (mOp gNe (K1 (Z3 0)) (K1 (Z3 1))))) (QX (Zf (D.bl false))) mNx) (QX (HZ (JC (IU (Z3 0) (Z3 1)) 2 [] (gT 2 (Yh (gN 0) (Yh (gN 1) NA))) QW (ZM Fr (Z1 (Z3 0) (Z1 (Z3 1) Zg))))))) mNx) (Yg (Uk (mT (mOp gIs (Z3 1) (Zf D.non))) (QX (mOp gIs (Z3 0) (Zf D.non))) mNx) (Yg (Uk (mOr (Bj (Kp "bool" (Z3 1))) (Bj (Kp "bool" (Z3 0)))) (QX (Kx (Kp "bool" (Z3 1)) (Kx (Kp "bool" (Z3 0)) (mOp gEq (Z3 0) (Z3 1))))) mNx) (QX (Kx (RI "int" "str" (Z3 0)) (mOp gEq (Z3 0) (Z3 1)))))))
def Yi:Nat->List D->Sto->Option (D×Sto)
 |0=>λ_ _=>none
 |k+1=>QR 2 2 (QF (Yi k))
abbrev Gk:MS:=(Yg (YE (Yj "House" "file_on_shelf" Z6 (Z3 0) (Z1 (Z3 1) Zg)) (gN 3)) (Yg (Qy (ZM ZA (Z1 (Z3 2) Zg))) (Yg (YE (Yj "House" "next_mark" Ze (Z3 0) Zg) (gN 4)) (Qy (Yj "House" "change" Zq (Z3 0) (Z1 (Z3 3) (Z1 (Z3 4) (Z1 (mOp gIx (Z3 3) (Zf (D.int (3)))) (Z1 (Ys (Z1 (Ys (Z1 (Z3 4) (Z1 (Z3 2) Zg))) Zg)) Zg)))))))))
def Yd:List D->Sto->Option (Str×Sto):=N2 5 3 (rOr (YO "House" "file_on_shelf" Za (Z3 0) (Z1 (Z3 1) Zg)) (R9 (YE (Yj "House" "file_on_shelf" Z6 (Z3 0) (Z1 (Z3 1) Zg)) (gN 3)) (Te Zy (Z1 (Z3 2) Zg))))
def Yr:List D->Sto->Option (D×Sto):=QR 5 3 Gk
abbrev Tk:MS:=(Yg (YE (Yj "House" "file_on_shelf" Z6 (Z3 0) (Z1 (Z3 1) Zg)) (gN 3)) (Yg (Qy (ZM Zo (Z1 (Z3 2) Zg))) (Yg (YE (Yj "House" "next_mark" Ze (Z3 0) Zg) (gN 4)) (Qy (Yj "House" "change" Zq (Z3 0) (Z1 (Z3 3) (Z1 (Z3 4) (Z1 (Ys (Z1 (Ys (Z1 (Z3 4) (Z1 (Z3 2) Zg))) Zg)) (Z1 (mOp gIx (Z3 3) (Zf (D.int (4)))) Zg)))))))))
def Yf:List D->Sto->Option (Str×Sto):=N2 5 3 (rOr (YO "House" "file_on_shelf" Za (Z3 0) (Z1 (Z3 1) Zg)) (R9 (YE (Yj "House" "file_on_shelf" Z6 (Z3 0) (Z1 (Z3 1) Zg)) (gN 3)) (Te Zz (Z1 (Z3 2) Zg))))
def Qu:List D->Sto->Option (D×Sto):=QR 5 3 Tk
abbrev UQ:MS:=(QX (mOp gIx (mOp gIx (mOp gIx (Yj "House" "file_on_shelf" Z6 (Z3 0) (Z1 (Z3 1) Zg)) (Zf (D.int (4)))) (Zf (D.int (-1)))) (Zf (D.int (1)))))
def Yn:List D->Sto->Option (Str×Sto):=N2 2 2 (YO "House" "file_on_shelf" Za (Z3 0) (Z1 (Z3 1) Zg))
def Qh:List D->Sto->Option (D×Sto):=QR 2 2 UQ
def YF:MS:=(Uk (mT (mOp gEq (Z3 1) (Zf (D.str (W0 "make"))))) (Qy (Yj "House" "make" ZN (Z3 0) (Z1 (Z3 3) (Z1 (Z3 4) Zg)))) (Uk (mT (mOp gEq (Z3 1) (Zf (D.str (W0 "write"))))) (Qy (Yj "House" "write" Yr (Z3 0) (Z1 (Z3 2) (Z1 (Z3 4) Zg)))) (Uk (mT (mOp gEq (Z3 1) (Zf (D.str (W0 "rename"))))) (Qy (Yj "House" "rename" Qu (Z3 0) (Z1 (Z3 2) (Z1 (Z3 3) Zg)))) (Uk (mT (mOp gEq (Z3 1) (Zf (D.str (W0 "drop"))))) (Qy (Yj "House" "drop" Y9 (Z3 0) (Z1 (Z3 2) Zg))) (Uk (mT (mOp gEq (Z3 1) (Zf (D.str (W0 "file"))))) (Qy (Yj "House" "file" Zu (Z3 0) (Z1 (Z3 2) Zg))) (Qy (Yj "House" "text_of" Qh (Z3 0) (Z1 (Z3 2) Zg))))))))
def Zh:XR:=(rIf (mT (mOp gEq (Z3 1) (Zf (D.str (W0 "make"))))) (YO "House" "make" Yz (Z3 0) (Z1 (Z3 3) (Z1 (Z3 4) Zg))) (rIf (mT (mOp gEq (Z3 1) (Zf (D.str (W0 "write"))))) (YO "House" "write" Yd (Z3 0) (Z1 (Z3 2) (Z1 (Z3 4) Zg))) (rIf (mT (mOp gEq (Z3 1) (Zf (D.str (W0 "rename"))))) (YO "House" "rename" Yf (Z3 0) (Z1 (Z3 2) (Z1 (Z3 3) Zg))) (rIf (mT (mOp gEq (Z3 1) (Zf (D.str (W0 "drop"))))) (YO "House" "drop" YV (Z3 0) (Z1 (Z3 2) Zg)) (rIf (mT (mOp gEq (Z3 1) (Zf (D.str (W0 "file"))))) (YO "House" "file" Y3 (Z3 0) (Z1 (Z3 2) Zg)) (YO "House" "text_of" Yn (Z3 0) (Z1 (Z3 2) Zg)))))))
abbrev Nm:MS:=(Yg (YE (Zf (D.str (W0 "none"))) (gN 5)) (Yg (Hb xcs xks 6 5 YF Zh) (QX (Z3 5))))
def Ye:List D->Sto->Option (D×Sto):=QR 7 5 Nm
abbrev CZ:MS:=(Yg (YE (Ys (Z1 (Zf (D.str (W0 ""))) (Z1 (Zf (D.str (W0 "abcdefg"))) (Z1 (Zf (D.str (W0 "Ab"))) (Z1 (Zf (D.str (W0 "a1"))) (Z1 (Zf (D.int (7))) (Z1 (Zf D.non) (Z1 (Ys (Z1 (Zf (D.str (W0 "ab"))) Zg)) (Z1 (Zf (D.bl true)) Zg))))))))) (gN 2)) (Yg (Uk (mT (mOp gEq (Z3 1) (Zf (D.int (1))))) (YE (Ys (Z1 (mOp BU (Zf (D.str (W0 "a"))) (Zf (D.int (61)))) (Z1 (Zf (D.int (0))) (Z1 (Zf D.non) (Z1 (Ys (Z1 (Zf (D.str (W0 "a"))) Zg)) (Z1 (Zf (D.bl true)) (Z1 (Mb (Z1 (Zf (D.str (W0 "a"))) Zg)) (Z1 (mOp BU (Zf (D.str (W0 "b"))) (Zf (D.int (70)))) (Z1 (Ys (Z1 (Zf (D.str (W0 "a"))) (Z1 (Zf (D.str (W0 "b"))) Zg))) Zg))))))))) (gN 2)) mNx) (QX (mOp gIx (Z3 2) (ZM ZZ (Z1 (Z3 0) (Z1 (Zf (D.int (9811))) (Z1 (Zf (D.int (8))) Zg))))))))
def Qt:List D->Sto->Option (D×Sto):=QR 3 2 CZ
def Q7:MS:=(Yg (YE (mOp Jp (Z3 11) (Mb (Z1 (Ys (Z1 (Zf (D.str (W0 "write"))) (Z1 (Z3 12) (Z1 (Z3 4) (Z1 (Z3 5) (Z1 (Z3 8) Zg)))))) (Z1 (Ys (Z1 (Zf (D.str (W0 "write"))) (Z1 (Z3 12) (Z1 (Z3 4) (Z1 (Z3 7) (Z1 (Z3 8) Zg)))))) Zg)))) (gN 11)) (Yg (YE (mOp Jp (Z3 11) (Mb (Z1 (Ys (Z1 (Zf (D.str (W0 "rename"))) (Z1 (Z3 12) (Z1 (Z3 4) (Z1 (Z3 5) (Z1 (Z3 8) Zg)))))) (Z1 (Ys (Z1 (Zf (D.str (W0 "rename"))) (Z1 (Z3 12) (Z1 (Z3 6) (Z1 (Z3 5) (Z1 (Z3 8) Zg)))))) Zg)))) (gN 11)) (YE (mOp Jp (Z3 11) (Mb (Z1 (Ys (Z1 (Zf (D.str (W0 "drop"))) (Z1 (Z3 12) (Z1 (Z3 4) (Z1 (Z3 5) (Z1 (Z3 8) Zg)))))) (Z1 (Ys (Z1 (Zf (D.str (W0 "ask"))) (Z1 (Z3 12) (Z1 (Z3 4) (Z1 (Z3 5) (Z1 (Z3 8) Zg)))))) Zg)))) (gN 11))))
abbrev JA:MS:=(Yg (YE (ZM Qo (Z1 (mOp Jp (Z3 0) (Zf (D.int (3)))) Zg)) (gN 4)) (Yg (YE (ZM Yq (Z1 (mOp Jp (Z3 0) (Zf (D.int (4)))) Zg)) (gN 5)) (Yg (YE (ZM Qt (Z1 (Z3 0) (Z1 (Zf (D.int (0))) Zg))) (gN 6)) (Yg (YE (ZM Qt (Z1 (mOp Jp (Z3 0) (Zf (D.int (1)))) (Z1 (Zf (D.int (1))) Zg))) (gN 7)) (Yg (YE (Ys (Z1 (Zf (D.bl true)) (Z1 (Zf (D.bl true)) (Z1 (Zf (D.bl false)) (Z1 (Zf (D.bl false)) Zg))))) (gN 8)) (Yg (YE (Ys (Z1 (Zf (D.bl true)) (Z1 (Zf (D.bl false)) (Z1 (Zf (D.bl true)) (Z1 (Zf (D.bl false)) Zg))))) (gN 9)) (Yg (YE (Ys (Z1 (Zf (D.bl true)) (Z1 (Zf (D.bl false)) (Z1 (Zf (D.bl false)) (Z1 (Zf (D.bl true)) Zg))))) (gN 10)) (Yg (YE (Mb (Z1 (Ys (Z1 (Zf (D.str (W0 "make"))) (Z1 (Z3 1) (Z1 (Z3 6) (Z1 (Z3 5) (Z1 (Z3 9) Zg)))))) (Z1 (Ys (Z1 (Zf (D.str (W0 "make"))) (Z1 (Z3 1) (Z1 (Z3 6) (Z1 (Z3 7) (Z1 (Z3 9) Zg)))))) Zg))) (gN 11)) (Yg (YE (mOp Jp (Z3 11) (Mb (Z1 (Ys (Z1 (Zf (D.str (W0 "make"))) (Z1 (Z3 1) (Z1 (Z3 4) (Z1 (Z3 7) (Z1 (Z3 10) Zg)))))) (Z1 (Ys (Z1 (Zf (D.str (W0 "write"))) (Z1 (Z3 1) (Z1 (Z3 4) (Z1 (Z3 7) (Z1 (Z3 10) Zg)))))) Zg)))) (gN 11)) (Yg (YE (mOp Jp (Z3 11) (Mb (Z1 (Ys (Z1 (Zf (D.str (W0 "rename"))) (Z1 (Z3 1) (Z1 (Z3 6) (Z1 (Z3 5) (Z1 (Z3 9) Zg)))))) Zg))) (gN 11)) (Yg (RJ (JB (Ys (Z1 (Z3 2) (Z1 (Z3 3) Zg)))) (gN 12) Q7) (QX (mOp Jp (Z3 11) (Mb (Z1 (Ys (Z1 (Zf (D.str (W0 "file"))) (Z1 (Z3 3) (Z1 (Z3 4) (Z1 (Z3 5) (Z1 (Z3 8) Zg)))))) Zg)))))))))))))))
def QM:List D->Sto->Option (D×Sto):=QR 13 4 JA
def Qs:MS:=(Yg (YE (Yj "House" "make" ZN (Z3 3) (Z1 (ZM Qo (Z1 (ZM ZL (Z1 (Z3 0) (Z1 (Z3 5) Zg))) Zg)) (Z1 (ZM Yq (Z1 (mOp Jp (ZM ZL (Z1 (Z3 0) (Z1 (mOp Jp (Z3 5) (Zf (D.int (1)))) Zg))) (Z3 5)) Zg)) Zg))) (gN 6)) (Qy (IV (Z3 4) (Z3 6))))
def GH:M D:=(Yj "House" "file" Zu (Z3 1) (Z1 (Z3 0) Zg))
def GC:M D:=(Yj "House" "file" Zu (Z3 1) (Z1 (Z3 0) Zg))
def Ta:MS:=(Yg (Uk (mT (mOp gNe (ZM Ye (Z1 (Z3 3) (Z1 (Z3 13) (Z1 (Z3 6) (Z1 (Z3 14) (Z1 (Z3 15) Zg)))))) (Z3 16))) (QX (Zf (D.bl false))) mNx) (Uk (mOr (RH (Bj (ZM (Yi 12) (Z1 (Nn (JC (JB (Z3 4)) 1 [3] (gN 0) QW GC)) (Z1 (Z3 10) Zg))))) (mT (mOp gNe (Yj "House" "count" YG (Z3 3) Zg) (Zf (D.int (4)))))) (QX (Zf (D.bl false))) mNx))
abbrev CW:MS:=(Yg (YE (ZM ZL (Z1 (Z3 0) (Z1 (Zf (D.int (0))) Zg))) (gN 1)) (Yg (YE (ZM ZZ (Z1 (Z3 1) (Z1 (Zf (D.int (9803))) (Z1 (Zf (D.int (6))) Zg)))) (gN 2)) (Yg (YE (K0 "House" Yo (Z1 (Z3 2) Zg)) (gN 3)) (Yg (YE (Mb Zg) (gN 4)) (Yg (RJ (Tn (Zf (D.int (3)))) (gN 5) Qs) (Yg (YE (ZM Jd (Z1 (ZM ZL (Z1 (Z3 0) (Z1 (Zf (D.int (2))) Zg))) (Z1 (Zf (D.int (3))) Zg))) (gN 7)) (Yg (YE (mOp gIx (Z3 4) (mOp gIx (Z3 7) (Zf (D.int (0))))) (gN 8)) (Yg (YE (mOp gIx (Z3 4) (mOp gIx (Z3 7) (Zf (D.int (1))))) (gN 9)) (Yg (Qy (Yj "House" "drop" Y9 (Z3 3) (Z1 (Z3 8) Zg))) (Yg (YE (Nn (JC (JB (Z3 4)) 1 [3] (gN 0) QW GH)) (gN 10)) (Yg (YE (Ys (Z1 (Z3 2) (Z1 (Zf (D.int (5))) Zg))) (gN 11)) (Yg (YE (mOp Jp (ZM QM (Z1 (ZM ZL (Z1 (Z3 0) (Z1 (Zf (D.int (3))) Zg))) (Z1 (Z3 9) (Z1 (Z3 8) (Z1 (Z3 11) Zg))))) (ZM QM (Z1 (mOp Jp (Z3 1) (Zf (D.int (9)))) (Z1 (Z3 9) (Z1 (Z3 8) (Z1 (Ys (Z1 (mOp Ft (mOp Jp (Z3 2) (Zf (D.int (1)))) (Zf (D.int (6)))) (Z1 (Zf (D.int (1))) Zg))) Zg)))))) (gN 12)) (Yg (RJ (JB (Z3 12)) (gT 5 (Yh (gN 13) (Yh (gN 6) (Yh (gN 14) (Yh (gN 15) (Yh (gN 16) NA)))))) Ta) (Yg (Uk (mOr (RH (Bj (ZM (Yi 12) (Z1 (Yj "House" "make" ZN (Z3 3) (Z1 (Zf (D.str (W0 "abc"))) (Z1 (Zf (D.str (W0 "a;b"))) Zg))) (Z1 (Z3 11) Zg))))) (mT (mOp gNe (ZM Ye (Z1 (Z3 3) (Z1 (Zf (D.str (W0 "write"))) (Z1 (Z3 11) (Z1 (Zf (D.str (W0 "a"))) (Z1 (Zf (D.str (W0 "b"))) Zg)))))) (Zf (D.str (W0 "none")))))) (QX (Zf (D.bl false))) mNx) (QX (ZM (Yi 12) (Z1 (Yj "House" "file" Zu (Z3 3) (Z1 (Z3 11) Zg)) (Z1 (Ys (Z1 (Z3 11) (Z1 (Zf (D.str (W0 "abc"))) (Z1 (Ys (Z1 (Ys (Z1 (Z3 2) (Z1 (Zf (D.int (6))) Zg))) Zg)) (Z1 (Ys Zg) (Z1 (Ys (Z1 (Ys (Z1 (Ys (Z1 (Z3 2) (Z1 (Zf (D.int (6))) Zg))) (Z1 (Zf (D.str (W0 "b"))) Zg))) Zg)) Zg)))))) Zg))))))))))))))))))
def F_law:List D->Sto->Option (D×Sto):=QR 17 1 CW
section
variable {P:Program} {w:World} {K:W4} {mg:Str->Option Value} {base:Heap} {C_House:Addr}
theorem Z16:FnScope ["self", "number"] ["self", "number"] (Z5 Y7):=⟨rfl,rfl,rfl,nd0,rfl,by decide +kernel,by decide +kernel⟩
theorem Z1h {f_5:Addr}{fd_5:FuncData}(T:Txt K mg C_House)(O_5:OwnI K C_House "House.__init__" Y7 f_5 fd_5 ["self", "number"]):FnOk P w K mg base CX0 1 f_5 fd_5 ["self", "number"] (spD K 2 Yo):=
 JK (k:=0) O_5.fn Z16 rfl rfl λcdv A outer s H E hr=>(Z9 (NT T.k_House T.na_House_own_number (sv 0) (sv 1))
   (Z9 (NT T.k_House T.na_House_acts (sv 0) Zc)
   (Z9 (NT T.k_House T.na_House_files (sv 0) KP)
   (Zj (NT T.k_House T.na_House_told (sv 0) KP)))))
theorem Z17:FnScope ["self"] ["self"] (Z5 Y1):=⟨rfl,rfl,rfl,nd1,rfl,by decide +kernel,by decide +kernel⟩
theorem Z1l {f_1:Addr}{fd_1:FuncData}(T:Txt K mg C_House)(O_1:OwnM K C_House "count" "House.count" Y1 f_1 fd_1 ["self"]):FnOk P w K mg base CX0 1 f_1 fd_1 ["self"] (spD K 1 YG):=
 JK (k:=0) O_1.fn Z17 rfl rfl λcdv A outer s H E hr=>(Zj (ZY (Ue T.k_House T.na_House_acts (sv 0))))
theorem Xc:FnScope ["text", "least", "greatest"] ["text", "least", "greatest"] (Z5 Zk):=⟨rfl,rfl,rfl,nd2,rfl,by decide +kernel,by decide +kernel⟩
theorem XI {f_21:Addr}{fd_21:FuncData}(T:Txt K mg C_House)(O_21:Own K mg "has_signs_between" Zk f_21 fd_21 ["text", "least", "greatest"]):FnOk P w K mg base CX0 1 f_21 fd_21 ["text", "least", "greatest"] (spD K 3 ZB):=
 JK (k:=0) O_21.fn Xc rfl rfl λcdv A outer s H E hr=>(Zj (ZY (FW rfl (TY (tgs:=["sign"]) (cn:=["least", "greatest"]) (caps:=[1,2]) rfl ⟨by decide +kernel,rfl,by decide +kernel,Jo (Z5 Zk).names rfl (by decide +kernel),⟨⟨rfl,.inl rfl,rfl⟩,⟨⟨rfl,.inl rfl,rfl⟩,trivial⟩⟩⟩ (MO (sv 0)) (YR (by decide)) Ym (λ_ _ _ _=>(Yv (i:=0) nd3 rfl (Or.inl rfl))) (λ_ _ _ _=>UI) (λ_ _ _ _=>(NY Bc Bc (sv 1) (sv 0) (sv 2)))) rfl T.n_all BN)))
theorem Xa:FnScope ["thing"] ["thing"] (Z5 YB):=⟨rfl,rfl,rfl,nd4,rfl,by decide +kernel,by decide +kernel⟩
theorem XG {f_23:Addr}{fd_23:FuncData}(T:Txt K mg C_House)(O_23:Own K mg "is_name" YB f_23 fd_23 ["thing"]){f_21:Addr}{fd_21:FuncData}(O_21:Own K mg "has_signs_between" Zk f_21 fd_21 ["text", "least", "greatest"])(G_21:FnOk P w K mg base CX0 1 f_21 fd_21 ["text", "least", "greatest"] (spD K 3 ZB)):FnOk P w K mg base CX0 2 f_23 fd_23 ["thing"] (spD K 1 ZE):=
 JK (k:=1) O_23.fn Xa rfl rfl λcdv A outer s H E hr=>(Zj (ZY (UK (Ud (QI _) (sv 0) rfl T.n_isinstance Zx rfl T.n_str T8) (UK (NY Bc Bc Zc (Uc (sv 0) rfl T.n_len YU) (KQ rfl T.c_LONGEST_NAME)) (NV (Zi G_21 (hr.mono (by omega)) rfl O_21.mgf O_21.fn.kp O_21.b (Z0 (sv 0) (Z0 Zp (Z0 Zp Z4))) (Z2 (Z2 (Z2 Z7)))))))))
theorem SO:FnScope ["thing"] ["thing"] (Z5 Zn):=⟨rfl,rfl,rfl,nd4,rfl,by decide +kernel,by decide +kernel⟩
theorem XC {f_26:Addr}{fd_26:FuncData}(T:Txt K mg C_House)(O_26:Own K mg "refuse_no_name" Zn f_26 fd_26 ["thing"]){f_23:Addr}{fd_23:FuncData}(O_23:Own K mg "is_name" YB f_23 fd_23 ["thing"])(G_23:FnOk P w K mg base CX0 2 f_23 fd_23 ["thing"] (spD K 1 ZE)):FnOk P w K mg base CX0 3 f_26 fd_26 ["thing"] (spD K 1 Zo):=
 JK (k:=2) O_26.fn SO rfl rfl λcdv A outer s H E hr=>(Zj (Qi (UG (Yy (Zi G_23 (hr.mono (by omega)) rfl O_23.mgf O_23.fn.kp O_23.b (Z0 (sv 0) Z4) (Z2 Z7)))) (Zj TW) YN))
theorem Jy {f_26:Addr}{fd_26:FuncData}(T:Txt K mg C_House)(O_26:Own K mg "refuse_no_name" Zn f_26 fd_26 ["thing"]){f_23:Addr}{fd_23:FuncData}(O_23:Own K mg "is_name" YB f_23 fd_23 ["thing"])(G_23:FnOk P w K mg base CX0 2 f_23 fd_23 ["thing"] (spD K 1 ZE)):FnOk P w K mg base (CX1 P w) 3 f_26 fd_26 ["thing"] (spX K mg 1 Zz):=
 Fu (k:=2) O_26.fn SO rfl rfl λcdv A outer s H E hr=>(ZI (G0 (UG (Yy (Zi G_23 (hr.mono (by omega)) rfl O_23.mgf O_23.fn.kp O_23.b (Z0 (sv 0) Z4) (Z2 Z7)))) (ZI (Uy T.ex (by decide) rfl rfl)) LI))
theorem X9:FnScope ["thing"] ["thing"] (Z5 YA):=⟨rfl,rfl,rfl,nd4,rfl,by decide +kernel,by decide +kernel⟩
theorem XF {f_24:Addr}{fd_24:FuncData}(T:Txt K mg C_House)(O_24:Own K mg "is_text" YA f_24 fd_24 ["thing"]){f_21:Addr}{fd_21:FuncData}(O_21:Own K mg "has_signs_between" Zk f_21 fd_21 ["text", "least", "greatest"])(G_21:FnOk P w K mg base CX0 1 f_21 fd_21 ["text", "least", "greatest"] (spD K 3 ZB)):FnOk P w K mg base CX0 2 f_24 fd_24 ["thing"] (spD K 1 ZR):=
 JK (k:=1) O_24.fn X9 rfl rfl λcdv A outer s H E hr=>(Zj (ZY (UK (Ud (QI _) (sv 0) rfl T.n_isinstance Zx rfl T.n_str T8) (UK (B0 Bc (Uc (sv 0) rfl T.n_len YU) (KQ rfl T.c_LONGEST_TEXT) (Y8 _)) (NV (Zi G_21 (hr.mono (by omega)) rfl O_21.mgf O_21.fn.kp O_21.b (Z0 (sv 0) (Z0 Zp (Z0 Zp Z4))) (Z2 (Z2 (Z2 Z7)))))))))
theorem SN:FnScope ["thing"] ["thing"] (Z5 Zm):=⟨rfl,rfl,rfl,nd4,rfl,by decide +kernel,by decide +kernel⟩
theorem XA {f_27:Addr}{fd_27:FuncData}(T:Txt K mg C_House)(O_27:Own K mg "refuse_no_text" Zm f_27 fd_27 ["thing"]){f_24:Addr}{fd_24:FuncData}(O_24:Own K mg "is_text" YA f_24 fd_24 ["thing"])(G_24:FnOk P w K mg base CX0 2 f_24 fd_24 ["thing"] (spD K 1 ZR)):FnOk P w K mg base CX0 3 f_27 fd_27 ["thing"] (spD K 1 ZA):=
 JK (k:=2) O_27.fn SN rfl rfl λcdv A outer s H E hr=>(Zj (Qi (UG (Yy (Zi G_24 (hr.mono (by omega)) rfl O_24.mgf O_24.fn.kp O_24.b (Z0 (sv 0) Z4) (Z2 Z7)))) (Zj TW) YN))
theorem Jx {f_27:Addr}{fd_27:FuncData}(T:Txt K mg C_House)(O_27:Own K mg "refuse_no_text" Zm f_27 fd_27 ["thing"]){f_24:Addr}{fd_24:FuncData}(O_24:Own K mg "is_text" YA f_24 fd_24 ["thing"])(G_24:FnOk P w K mg base CX0 2 f_24 fd_24 ["thing"] (spD K 1 ZR)):FnOk P w K mg base (CX1 P w) 3 f_27 fd_27 ["thing"] (spX K mg 1 Zy):=
 Fu (k:=2) O_27.fn SN rfl rfl λcdv A outer s H E hr=>(ZI (G0 (UG (Yy (Zi G_24 (hr.mono (by omega)) rfl O_24.mgf O_24.fn.kp O_24.b (Z0 (sv 0) Z4) (Z2 Z7)))) (ZI (Uy T.ex (by decide) rfl rfl)) LI))
theorem Z15:FnScope ["self"] ["self"] (Z5 Zd):=⟨rfl,rfl,rfl,nd1,rfl,by decide +kernel,by decide +kernel⟩
theorem Z1f {f_7:Addr}{fd_7:FuncData}(T:Txt K mg C_House)(O_7:OwnM K C_House "next_mark" "House.next_mark" Zd f_7 fd_7 ["self"]):FnOk P w K mg base CX0 1 f_7 fd_7 ["self"] (spD K 1 Ze):=
 JK (k:=0) O_7.fn Z15 rfl rfl λcdv A outer s H E hr=>(Z9 (KK T.k_House T.na_House_acts (sv 0) Zc)
   (Zj (ZY (Zv (Z0 (Ue T.k_House T.na_House_own_number (sv 0)) (Z0 (Ue T.k_House T.na_House_acts (sv 0)) Z4))))))
theorem Z0j:FnScope ["self", "name", "text", "mark"] ["self", "name", "text"] (Z5 ZT):=⟨rfl,rfl,rfl,nd5,rfl,by decide +kernel,by decide +kernel⟩
theorem Z1g {f_6:Addr}{fd_6:FuncData}(T:Txt K mg C_House)(O_6:OwnM K C_House "make" "House.make" ZT f_6 fd_6 ["self", "name", "text"]){f_26:Addr}{fd_26:FuncData}(O_26:Own K mg "refuse_no_name" Zn f_26 fd_26 ["thing"])(G_26:FnOk P w K mg base CX0 3 f_26 fd_26 ["thing"] (spD K 1 Zo)){f_27:Addr}{fd_27:FuncData}(O_27:Own K mg "refuse_no_text" Zm f_27 fd_27 ["thing"])(G_27:FnOk P w K mg base CX0 3 f_27 fd_27 ["thing"] (spD K 1 ZA)){f_7:Addr}{fd_7:FuncData}(O_7:OwnM K C_House "next_mark" "House.next_mark" Zd f_7 fd_7 ["self"])(G_7:FnOk P w K mg base CX0 1 f_7 fd_7 ["self"] (spD K 1 Ze)):FnOk P w K mg base CX0 4 f_6 fd_6 ["self", "name", "text"] (spD K 3 ZN):=
 JK (k:=3) O_6.fn Z0j rfl rfl λcdv A outer s H E hr=>(Z9 (Yu (Zi G_26 (hr.mono (by omega)) rfl O_26.mgf O_26.fn.kp O_26.b (Z0 (sv 1) Z4) (Z2 Z7)))
   (Z9 (Yu (Zi G_27 (hr.mono (by omega)) rfl O_27.mgf O_27.fn.kp O_27.b (Z0 (sv 2) Z4) (Z2 Z7)))
   (Z9 (Zt (i:=3) nd5 rfl (Or.inl rfl) (Jr T.k_House (sv 0) O_7.meth G_7 (hr.mono (by omega)) O_7.b))
   (Z9 (JN (YQ hr) (Zv (Z0 (sv 3) (Z0 (sv 1) (Z0 (Zv (Z0 (sv 3) Z4)) (Z0 (Zv Z4) (Z0 (Zv (Z0 (Zv (Z0 (sv 3) (Z0 (sv 2) Z4))) Z4)) Z4)))))) (Ue T.k_House T.na_House_files (sv 0)) (sv 3))
   (Zj (ZY (sv 3)))))))
theorem Th {f_6:Addr}{fd_6:FuncData}(T:Txt K mg C_House)(O_6:OwnM K C_House "make" "House.make" ZT f_6 fd_6 ["self", "name", "text"]){f_26:Addr}{fd_26:FuncData}(O_26:Own K mg "refuse_no_name" Zn f_26 fd_26 ["thing"])(G_26:FnOk P w K mg base CX0 3 f_26 fd_26 ["thing"] (spD K 1 Zo)){f_27:Addr}{fd_27:FuncData}(O_27:Own K mg "refuse_no_text" Zm f_27 fd_27 ["thing"])(G_27:FnOk P w K mg base CX0 3 f_27 fd_27 ["thing"] (spD K 1 ZA)){f_7:Addr}{fd_7:FuncData}(O_7:OwnM K C_House "next_mark" "House.next_mark" Zd f_7 fd_7 ["self"])(G_7:FnOk P w K mg base CX0 1 f_7 fd_7 ["self"] (spD K 1 Ze))(X_refuse_no_name:FnOk P w K mg base (CX1 P w) 3 f_26 fd_26 ["thing"] (spX K mg 1 Zz))(X_refuse_no_text:FnOk P w K mg base (CX1 P w) 3 f_27 fd_27 ["thing"] (spX K mg 1 Zy)):FnOk P w K mg base (CX1 P w) 4 f_6 fd_6 ["self", "name", "text"] (spX K mg 3 Yz):=
 Fu (k:=3) O_6.fn Z0j rfl rfl λcdv A outer s H E hr=>(LH (ZI (Qr (G6 X_refuse_no_name (hr.mono (by omega)) rfl O_26.mgf O_26.fn.kp O_26.b (Z0 (sv 1) Z4) (Z2 Z7)))) (G7 (Yu (Zi G_26 (hr.mono (by omega)) rfl O_26.mgf O_26.fn.kp O_26.b (Z0 (sv 1) Z4) (Z2 Z7))) (ZI (Qr (G6 X_refuse_no_text (hr.mono (by omega)) rfl O_27.mgf O_27.fn.kp O_27.b (Z0 (sv 2) Z4) (Z2 Z7))))))
theorem Xd:FnScope ["known", "other", "counts", "mark"] ["known", "other"] (Z5 ZG):=⟨rfl,rfl,rfl,nd6,rfl,by decide +kernel,by decide +kernel⟩
theorem XJ {f_20:Addr}{fd_20:FuncData}(T:Txt K mg C_House)(O_20:Own K mg "greater_counts" ZG f_20 fd_20 ["known", "other"]):FnOk P w K mg base CX0 1 f_20 fd_20 ["known", "other"] (spD K 2 Y0):=
 JK (k:=0) O_20.fn Xd rfl rfl λcdv A outer s H E hr=>(Z9 (Zt (i:=2) nd6 rfl (Or.inl rfl) (LD rfl (sv 0) rfl T.n_dict Kl))
   (Z9 (NS W17 rfl (MO (sv 1)) (Yv (i:=3) nd6 rfl (Or.inl rfl)) Ym (Zj (JN (YQ hr) (Ce rfl (Q2 (YQ hr) (sv 3) Zc) (Ci (YQ hr) (sv 2) (Q2 (YQ hr) (sv 3) Zc) (Q2 (YQ hr) (sv 3) Zc)) rfl T.n_max L6) (sv 2) (Q2 (YQ hr) (sv 3) Zc))))
   (Zj (ZY (N1 (Lx rfl (Z1E hr) (sv 2) rfl T.n_sorted BM) rfl T.n_tuple Qg)))))
theorem Z18:FnScope ["self", "file", "mark", "names", "texts"] ["self", "file", "mark", "names", "texts"] (Z5 Zr):=⟨rfl,rfl,rfl,nd7,rfl,by decide +kernel,by decide +kernel⟩
theorem Z1m {f_0:Addr}{fd_0:FuncData}(T:Txt K mg C_House)(O_0:OwnM K C_House "change" "House.change" Zr f_0 fd_0 ["self", "file", "mark", "names", "texts"]){f_20:Addr}{fd_20:FuncData}(O_20:Own K mg "greater_counts" ZG f_20 fd_20 ["known", "other"])(G_20:FnOk P w K mg base CX0 1 f_20 fd_20 ["known", "other"] (spD K 2 Y0)):FnOk P w K mg base CX0 2 f_0 fd_0 ["self", "file", "mark", "names", "texts"] (spD K 5 Zq):=
 JK (k:=1) O_0.fn Z18 rfl rfl λcdv A outer s H E hr=>(Zj (JN (YQ hr) (Zv (Z0 (Q2 (YQ hr) (sv 1) Zc) (Z0 (Q2 (YQ hr) (sv 1) Zc) (Z0 (Zi G_20 (hr.mono (by omega)) rfl O_20.mgf O_20.fn.kp O_20.b (Z0 (Q2 (YQ hr) (sv 1) Zc) (Z0 (Zv (Z0 (sv 2) Z4)) Z4)) (Z2 (Z2 Z7))) (Z0 (sv 3) (Z0 (sv 4) Z4)))))) (Ue T.k_House T.na_House_files (sv 0)) (Q2 (YQ hr) (sv 1) Zc)))
theorem Xb:FnScope ["file"] ["file"] (Z5 YC):=⟨rfl,rfl,rfl,nd8,rfl,by decide +kernel,by decide +kernel⟩
theorem XH {f_22:Addr}{fd_22:FuncData}(T:Txt K mg C_House)(O_22:Own K mg "is_gone" YC f_22 fd_22 ["file"]):FnOk P w K mg base CX0 1 f_22 fd_22 ["file"] (spD K 1 YW):=
 JK (k:=0) O_22.fn Xb rfl rfl λcdv A outer s H E hr=>(Zj (ZY (B0 (YI (YQ hr)) (Uc (Q2 (YQ hr) (sv 0) Zc) rfl T.n_len YU) Zc (Y8 _))))
theorem Z0l:FnScope ["self", "which"] ["self", "which"] (Z5 ZH):=⟨rfl,rfl,rfl,nd9,rfl,by decide +kernel,by decide +kernel⟩
theorem Z1j {f_3:Addr}{fd_3:FuncData}(T:Txt K mg C_House)(O_3:OwnM K C_House "file" "House.file" ZH f_3 fd_3 ["self", "which"]):FnOk P w K mg base CX0 1 f_3 fd_3 ["self", "which"] (spD K 2 Zu):=
 JK (k:=0) O_3.fn Z0l rfl rfl λcdv A outer s H E hr=>(Z9 (Qi (Yk (Bb (YQ hr)) (sv 1) (Ue T.k_House T.na_House_files (sv 0)) (by with_unfolding_all rfl)) (Zj TW) YN)
   (Zj (ZY (Q2 (YQ hr) (Ue T.k_House T.na_House_files (sv 0)) (sv 1)))))
theorem Ti {f_3:Addr}{fd_3:FuncData}(T:Txt K mg C_House)(O_3:OwnM K C_House "file" "House.file" ZH f_3 fd_3 ["self", "which"]):FnOk P w K mg base (CX1 P w) 1 f_3 fd_3 ["self", "which"] (spX K mg 2 Y3):=
 Fu (k:=0) O_3.fn Z0l rfl rfl λcdv A outer s H E hr=>(ZI (G0 (Yk (Bb (YQ hr)) (sv 1) (Ue T.k_House T.na_House_files (sv 0)) (by with_unfolding_all rfl)) (ZI (Uy T.ex (by decide) rfl rfl)) LI))
theorem Z0k:FnScope ["self", "which", "file"] ["self", "which"] (Z5 Z8):=⟨rfl,rfl,rfl,IQ,rfl,by decide +kernel,by decide +kernel⟩
theorem Z1i {f_4:Addr}{fd_4:FuncData}(T:Txt K mg C_House)(O_4:OwnM K C_House "file_on_shelf" "House.file_on_shelf" Z8 f_4 fd_4 ["self", "which"]){f_22:Addr}{fd_22:FuncData}(O_22:Own K mg "is_gone" YC f_22 fd_22 ["file"])(G_22:FnOk P w K mg base CX0 1 f_22 fd_22 ["file"] (spD K 1 YW)){f_3:Addr}{fd_3:FuncData}(O_3:OwnM K C_House "file" "House.file" ZH f_3 fd_3 ["self", "which"])(G_3:FnOk P w K mg base CX0 1 f_3 fd_3 ["self", "which"] (spD K 2 Zu)):FnOk P w K mg base CX0 2 f_4 fd_4 ["self", "which"] (spD K 2 Z6):=
 JK (k:=1) O_4.fn Z0k rfl rfl λcdv A outer s H E hr=>(Z9 (Zt (i:=2) IQ rfl (Or.inl rfl) (ZV T.k_House (sv 0) O_3.meth G_3 (hr.mono (by omega)) O_3.b (Z0 (sv 1) Z4) (Z2 Z7)))
   (Z9 (Qi (Yy (Zi G_22 (hr.mono (by omega)) rfl O_22.mgf O_22.fn.kp O_22.b (Z0 (sv 2) Z4) (Z2 Z7))) (Zj TW) YN)
   (Zj (ZY (sv 2)))))
theorem QE {f_4:Addr}{fd_4:FuncData}(T:Txt K mg C_House)(O_4:OwnM K C_House "file_on_shelf" "House.file_on_shelf" Z8 f_4 fd_4 ["self", "which"]){f_22:Addr}{fd_22:FuncData}(O_22:Own K mg "is_gone" YC f_22 fd_22 ["file"])(G_22:FnOk P w K mg base CX0 1 f_22 fd_22 ["file"] (spD K 1 YW)){f_3:Addr}{fd_3:FuncData}(O_3:OwnM K C_House "file" "House.file" ZH f_3 fd_3 ["self", "which"])(G_3:FnOk P w K mg base CX0 1 f_3 fd_3 ["self", "which"] (spD K 2 Zu))(X_House_file:FnOk P w K mg base (CX1 P w) 1 f_3 fd_3 ["self", "which"] (spX K mg 2 Y3)):FnOk P w K mg base (CX1 P w) 2 f_4 fd_4 ["self", "which"] (spX K mg 2 Za):=
 Fu (k:=1) O_4.fn Z0k rfl rfl λcdv A outer s H E hr=>(LH (ZI (M1 (Q9 T.k_House (sv 0) O_3.meth X_House_file (hr.mono (by omega)) O_3.b (Z0 (sv 1) Z4) (Z2 Z7)))) (G7 (Zt (i:=2) IQ rfl (Or.inl rfl) (ZV T.k_House (sv 0) O_3.meth G_3 (hr.mono (by omega)) O_3.b (Z0 (sv 1) Z4) (Z2 Z7))) (ZI (G0 (Yy (Zi G_22 (hr.mono (by omega)) rfl O_22.mgf O_22.fn.kp O_22.b (Z0 (sv 2) Z4) (Z2 Z7))) (ZI (Uy T.ex (by decide) rfl rfl)) LI))))
theorem Z0m:FnScope ["self", "which", "file"] ["self", "which"] (Z5 ZU):=⟨rfl,rfl,rfl,IQ,rfl,by decide +kernel,by decide +kernel⟩
theorem Z1k {f_2:Addr}{fd_2:FuncData}(T:Txt K mg C_House)(O_2:OwnM K C_House "drop" "House.drop" ZU f_2 fd_2 ["self", "which"]){f_7:Addr}{fd_7:FuncData}(O_7:OwnM K C_House "next_mark" "House.next_mark" Zd f_7 fd_7 ["self"])(G_7:FnOk P w K mg base CX0 1 f_7 fd_7 ["self"] (spD K 1 Ze)){f_0:Addr}{fd_0:FuncData}(O_0:OwnM K C_House "change" "House.change" Zr f_0 fd_0 ["self", "file", "mark", "names", "texts"])(G_0:FnOk P w K mg base CX0 2 f_0 fd_0 ["self", "file", "mark", "names", "texts"] (spD K 5 Zq)){f_4:Addr}{fd_4:FuncData}(O_4:OwnM K C_House "file_on_shelf" "House.file_on_shelf" Z8 f_4 fd_4 ["self", "which"])(G_4:FnOk P w K mg base CX0 2 f_4 fd_4 ["self", "which"] (spD K 2 Z6)):FnOk P w K mg base CX0 3 f_2 fd_2 ["self", "which"] (spD K 2 Y9):=
 JK (k:=2) O_2.fn Z0m rfl rfl λcdv A outer s H E hr=>(Z9 (Zt (i:=2) IQ rfl (Or.inl rfl) (ZV T.k_House (sv 0) O_4.meth G_4 (hr.mono (by omega)) O_4.b (Z0 (sv 1) Z4) (Z2 Z7)))
   (Zj (Yu (ZV T.k_House (sv 0) O_0.meth G_0 (hr.mono (by omega)) O_0.b (Z0 (sv 2) (Z0 (Jr T.k_House (sv 0) O_7.meth G_7 (hr.mono (by omega)) O_7.b) (Z0 (Zv Z4) (Z0 (Zv Z4) Z4)))) (Z2 (Z2 (Z2 (Z2 Z7))))))))
theorem Tj {f_2:Addr}{fd_2:FuncData}(T:Txt K mg C_House)(O_2:OwnM K C_House "drop" "House.drop" ZU f_2 fd_2 ["self", "which"]){f_7:Addr}{fd_7:FuncData}(O_7:OwnM K C_House "next_mark" "House.next_mark" Zd f_7 fd_7 ["self"])(G_7:FnOk P w K mg base CX0 1 f_7 fd_7 ["self"] (spD K 1 Ze)){f_0:Addr}{fd_0:FuncData}(O_0:OwnM K C_House "change" "House.change" Zr f_0 fd_0 ["self", "file", "mark", "names", "texts"])(G_0:FnOk P w K mg base CX0 2 f_0 fd_0 ["self", "file", "mark", "names", "texts"] (spD K 5 Zq)){f_4:Addr}{fd_4:FuncData}(O_4:OwnM K C_House "file_on_shelf" "House.file_on_shelf" Z8 f_4 fd_4 ["self", "which"])(G_4:FnOk P w K mg base CX0 2 f_4 fd_4 ["self", "which"] (spD K 2 Z6))(X_House_file_on_shelf:FnOk P w K mg base (CX1 P w) 2 f_4 fd_4 ["self", "which"] (spX K mg 2 Za)):FnOk P w K mg base (CX1 P w) 3 f_2 fd_2 ["self", "which"] (spX K mg 2 YV):=
 Fu (k:=2) O_2.fn Z0m rfl rfl λcdv A outer s H E hr=>(ZI (M1 (Q9 T.k_House (sv 0) O_4.meth X_House_file_on_shelf (hr.mono (by omega)) O_4.b (Z0 (sv 1) Z4) (Z2 Z7))))
theorem Xk:FnScope ["_law_script", "_law_k"] ["_law_script", "_law_k"] (Z5 Qj):=⟨rfl,rfl,rfl,Z1s,rfl,by decide +kernel,by decide +kernel⟩
theorem XU {f_13:Addr}{fd_13:FuncData}(T:Txt K mg C_House)(O_13:Own K mg "_law_cell" Qj f_13 fd_13 ["_law_script", "_law_k"]):FnOk P w K mg base CX0 1 f_13 fd_13 ["_law_script", "_law_k"] (spD K 2 ZL):=
 JK (k:=0) O_13.fn Xk rfl rfl λcdv A outer s H E hr=>(Z9 (Qi (Yk (IC (YQ hr)) (sv 1) (Uc (sv 0) rfl T.n_len YU) (Y8 _)) (Zj (ZY (Q2 (YQ hr) (sv 0) (sv 1)))) YN)
   (Zj (ZY Zc)))
theorem Xj:FnScope ["_law_cell_here", "_law_prime", "_law_many"] ["_law_cell_here", "_law_prime", "_law_many"] (Z5 YY):=⟨rfl,rfl,rfl,Z1r,rfl,by decide +kernel,by decide +kernel⟩
theorem XQ {f_14:Addr}{fd_14:FuncData}(T:Txt K mg C_House)(O_14:Own K mg "_law_mix" YY f_14 fd_14 ["_law_cell_here", "_law_prime", "_law_many"]):FnOk P w K mg base CX0 1 f_14 fd_14 ["_law_cell_here", "_law_prime", "_law_many"] (spD K 3 ZZ):=
 JK (k:=0) O_14.fn Xj rfl rfl λcdv A outer s H E hr=>(Zj (ZY (Yw JV (Yw JV (Yw JU (sv 0) Zc) (sv 1)) (sv 2))))
theorem Xh:FnScope ["_law_cell_here", "_law_many", "_law_left"] ["_law_cell_here", "_law_many"] (Z5 Q4):=⟨rfl,rfl,rfl,Z0u,rfl,by decide +kernel,by decide +kernel⟩
theorem XN {f_16:Addr}{fd_16:FuncData}(T:Txt K mg C_House)(O_16:Own K mg "_law_perm" Q4 f_16 fd_16 ["_law_cell_here", "_law_many"]){f_14:Addr}{fd_14:FuncData}(O_14:Own K mg "_law_mix" YY f_14 fd_14 ["_law_cell_here", "_law_prime", "_law_many"])(G_14:FnOk P w K mg base CX0 1 f_14 fd_14 ["_law_cell_here", "_law_prime", "_law_many"] (spD K 3 ZZ)):FnOk P w K mg base CX0 2 f_16 fd_16 ["_law_cell_here", "_law_many"] (spD K 2 Jd):=
 JK (k:=1) O_16.fn Xh rfl rfl λcdv A outer s H E hr=>(Z9 (Zt (i:=2) Z0u rfl (Or.inr rfl) (Z14 (KM rfl (sv 1) rfl T.n_list Kk rfl T.n_range)))
   (Zj (ZY (Cj (tgs:=["_law_k"]) (cn:=["_law_cell_here", "_law_many", "_law_left"]) (caps:=[0,1,2]) rfl ⟨by decide +kernel,rfl,by decide +kernel,Jo (Z5 Q4).names rfl (by decide +kernel),⟨⟨rfl,.inl rfl,rfl⟩,⟨⟨rfl,.inl rfl,rfl⟩,⟨⟨rfl,.inl rfl,rfl⟩,trivial⟩⟩⟩⟩ (TZ (sv 1) rfl T.n_range) (YR (by decide)) Ym (λ_ _ _ _=>(Yv (i:=0) Z1q rfl (Or.inl rfl))) (λ_ _ _ _=>UI) (λ_ _ _ _=>(LC (sv 3) (Zi G_14 (hr.mono (by omega)) rfl O_14.mgf O_14.fn.kp O_14.b (Z0 (Yw Yb (sv 1) (Yw JU Zc (sv 0))) (Z0 Zc (Z0 (Yw CL (sv 2) (sv 0)) Z4))) (Z2 (Z2 (Z2 Z7))))))))))
theorem Xi:FnScope ["_law_cell_here", "_law_letters", "_law_many"] ["_law_cell_here"] (Z5 YL):=⟨rfl,rfl,rfl,IP,rfl,by decide +kernel,by decide +kernel⟩
theorem XO {f_15:Addr}{fd_15:FuncData}(T:Txt K mg C_House)(O_15:Own K mg "_law_name" YL f_15 fd_15 ["_law_cell_here"]){f_14:Addr}{fd_14:FuncData}(O_14:Own K mg "_law_mix" YY f_14 fd_14 ["_law_cell_here", "_law_prime", "_law_many"])(G_14:FnOk P w K mg base CX0 1 f_14 fd_14 ["_law_cell_here", "_law_prime", "_law_many"] (spD K 3 ZZ)):FnOk P w K mg base CX0 2 f_15 fd_15 ["_law_cell_here"] (spD K 1 Qo):=
 JK (k:=1) O_15.fn Xi rfl rfl λcdv A outer s H E hr=>(Z9 (Zt (i:=1) IP rfl (Or.inr rfl) Zp)
   (Z9 (Zt (i:=2) IP rfl (Or.inl rfl) (Yw Yb Zc (Zi G_14 (hr.mono (by omega)) rfl O_14.mgf O_14.fn.kp O_14.b (Z0 (sv 0) (Z0 Zc (Z0 Zc Z4))) (Z2 (Z2 (Z2 Z7))))))
   (Z9 (Qi (Yk (YI (YQ hr)) (Yw JV (sv 0) Zc) Zc (Y8 _)) (Z9 (Zt (i:=1) IP rfl (Or.inr rfl) Zp)
   (Zj (Zt (i:=2) IP rfl (Or.inl rfl) (Yw Yb Zc (Yw JV (sv 2) Zc))))) YN)
   (Zj (ZY (NX Zp (TY (tgs:=["_law_k"]) (cn:=["_law_cell_here", "_law_letters"]) (caps:=[0,1]) rfl ⟨by decide +kernel,rfl,by decide +kernel,Jo (Z5 YL).names rfl (by decide +kernel),⟨⟨rfl,.inl rfl,rfl⟩,⟨⟨rfl,.inl rfl,rfl⟩,trivial⟩⟩⟩ (TZ (sv 2) rfl T.n_range) (YR (by decide)) Ym (λ_ _ _ _=>(Yv (i:=0) Z1p rfl (Or.inl rfl))) (λ_ _ _ _=>UI) (λ_ _ _ _=>(Q2 (YQ hr) (sv 2) (Zi G_14 (hr.mono (by omega)) rfl O_14.mgf O_14.fn.kp O_14.b (Z0 (Yw Yb (sv 1) (Yw JU Zc (sv 0))) (Z0 Zc (Z0 (Uc (sv 2) rfl T.n_len YU) Z4))) (Z2 (Z2 (Z2 Z7)))))))))))))
theorem Xe:FnScope ["_law_cell_here", "_law_signs", "_law_many"] ["_law_cell_here"] (Z5 YK):=⟨rfl,rfl,rfl,IN,rfl,by decide +kernel,by decide +kernel⟩
theorem XL {f_19:Addr}{fd_19:FuncData}(T:Txt K mg C_House)(O_19:Own K mg "_law_text" YK f_19 fd_19 ["_law_cell_here"]){f_14:Addr}{fd_14:FuncData}(O_14:Own K mg "_law_mix" YY f_14 fd_14 ["_law_cell_here", "_law_prime", "_law_many"])(G_14:FnOk P w K mg base CX0 1 f_14 fd_14 ["_law_cell_here", "_law_prime", "_law_many"] (spD K 3 ZZ)):FnOk P w K mg base CX0 2 f_19 fd_19 ["_law_cell_here"] (spD K 1 Yq):=
 JK (k:=1) O_19.fn Xe rfl rfl λcdv A outer s H E hr=>(Z9 (Zt (i:=1) IN rfl (Or.inr rfl) Zp)
   (Z9 (Zt (i:=2) IN rfl (Or.inl rfl) (Zi G_14 (hr.mono (by omega)) rfl O_14.mgf O_14.fn.kp O_14.b (Z0 (sv 0) (Z0 Zc (Z0 Zc Z4))) (Z2 (Z2 (Z2 Z7)))))
   (Z9 (Qi (Yk (YI (YQ hr)) (Zi G_14 (hr.mono (by omega)) rfl O_14.mgf O_14.fn.kp O_14.b (Z0 (sv 0) (Z0 Zc (Z0 Zc Z4))) (Z2 (Z2 (Z2 Z7)))) Zc (Y8 _)) (Zj (Zt (i:=2) IN rfl (Or.inl rfl) Zc)) YN)
   (Z9 (Qi (Yk (YI (YQ hr)) (Zi G_14 (hr.mono (by omega)) rfl O_14.mgf O_14.fn.kp O_14.b (Z0 (sv 0) (Z0 Zc (Z0 Zc Z4))) (Z2 (Z2 (Z2 Z7)))) Zc (Y8 _)) (Zj (Zt (i:=2) IN rfl (Or.inl rfl) (Zi G_14 (hr.mono (by omega)) rfl O_14.mgf O_14.fn.kp O_14.b (Z0 (sv 0) (Z0 Zc (Z0 Zc Z4))) (Z2 (Z2 (Z2 Z7)))))) YN)
   (Z9 (Qi (Yk (YI (YQ hr)) (Yw JV (sv 0) Zc) Zc (Y8 _)) (Zj (ZY (Q2 (YQ hr) (Zv (Z0 Zp (Z0 Zp (Z0 Zp Z4)))) (Zi G_14 (hr.mono (by omega)) rfl O_14.mgf O_14.fn.kp O_14.b (Z0 (sv 0) (Z0 Zc (Z0 Zc Z4))) (Z2 (Z2 (Z2 Z7))))))) YN)
   (Zj (ZY (NX Zp (TY (tgs:=["_law_k"]) (cn:=["_law_cell_here", "_law_signs"]) (caps:=[0,1]) rfl ⟨by decide +kernel,rfl,by decide +kernel,Jo (Z5 YK).names rfl (by decide +kernel),⟨⟨rfl,.inl rfl,rfl⟩,⟨⟨rfl,.inl rfl,rfl⟩,trivial⟩⟩⟩ (TZ (sv 2) rfl T.n_range) (YR (by decide)) Ym (λ_ _ _ _=>(Yv (i:=0) Z1o rfl (Or.inl rfl))) (λ_ _ _ _=>UI) (λ_ _ _ _=>(Q2 (YQ hr) (sv 2) (Zi G_14 (hr.mono (by omega)) rfl O_14.mgf O_14.fn.kp O_14.b (Z0 (Yw Yb (sv 1) (Yw JU Zc (sv 0))) (Z0 Zc (Z0 (Uc (sv 2) rfl T.n_len YU) Z4))) (Z2 (Z2 (Z2 Z7)))))))))))))))
theorem Xf:FnScope ["_law_found", "_law_due"] ["_law_found", "_law_due"] (Z5 Q3):=⟨rfl,rfl,rfl,Z1n,rfl,by decide +kernel,by decide +kernel⟩
theorem IL {f_18:Addr}{fd_18:FuncData}(T:Txt K mg C_House)(O_18:Own K mg "_law_same" Q3 f_18 fd_18 ["_law_found", "_law_due"]):∀k:Nat,FnOk P w K mg base CX0 (k+1) f_18 fd_18 ["_law_found", "_law_due"] (spD K 2 (Yi k))
 |0=>Hx rfl
 |k+1=>by
  have Gr:=IL T O_18 k
  exact JK O_18.fn Xf rfl rfl λcdv A outer s H E hr=>(Z9 (Qi (Yy (Ud (BA _) (sv 1) rfl T.n_isinstance Zx rfl T.n_tuple Qg)) (Z9 (Qi (OH (Lu (UG (Yy (Ud (BA _) (sv 0) rfl T.n_isinstance Zx rfl T.n_tuple Qg))) (NP (Yk (M8 (YQ hr)) (Uc (sv 0) rfl T.n_len YU) (Uc (sv 1) rfl T.n_len YU) (Y8 _))))) (Zj (ZY QP)) YN)
   (Zj (ZY (FW rfl (TY (tgs:=["_law_one", "_law_other"]) (cn:=[]) (caps:=[]) rfl ⟨by decide +kernel,rfl,by decide +kernel,Jo (Z5 Q3).names rfl (by decide +kernel),trivial⟩ (SK (sv 0) (sv 1) rfl T.n_zip L5) (Fq (TC (YR (by decide)) (TC (YR (by decide)) Pk U1 BD) U1 (Ka U1 BD))) (Eh (QK Ym (QK Ym Pl))) (λ_ _ _ _=>(A1 rfl (QD (Yv (i:=0) Z0t rfl (Or.inl rfl)) (QD (Yv (i:=1) Z0t rfl (Or.inl rfl)) Rm)))) (λ_ _ _ _=>UI) (λ_ _ _ _=>(Zi Gr (hr.mono (by omega)) rfl O_18.mgf O_18.fn.kp O_18.b (Z0 (sv 0) (Z0 (sv 1) Z4)) (Z2 (Z2 Z7))))) rfl T.n_all BN)))) YN)
   (Z9 (Qi (Yk A4 (sv 1) NW (Y8 _)) (Zj (ZY (B0 A4 (sv 0) NW (Y8 _)))) YN)
   (Z9 (Qi (OH (Lu (Yy (Ud (UA _) (sv 1) rfl T.n_isinstance Zx rfl T.n_bool Jc)) (NP (Yy (Ud (UA _) (sv 0) rfl T.n_isinstance Zx rfl T.n_bool Jc))))) (Zj (ZY (UK (Ud (UA _) (sv 1) rfl T.n_isinstance Zx rfl T.n_bool Jc) (UK (Ud (UA _) (sv 0) rfl T.n_isinstance Zx rfl T.n_bool Jc) (NV (B0 (YI (YQ hr)) (sv 0) (sv 1) (Y8 _))))))) YN)
   (Zj (ZY (UK (Ch (Hr _) (QI _) (sv 0) rfl T.n_isinstance Zx rfl T.n_int L7 rfl T.n_str T8) (NV (B0 (YI (YQ hr)) (sv 0) (sv 1) (Y8 _)))))))))
theorem SR:FnScope ["self", "which", "text", "file", "mark"] ["self", "which", "text"] (Z5 ZS):=⟨rfl,rfl,rfl,OJ,rfl,by decide +kernel,by decide +kernel⟩
theorem XY {f_10:Addr}{fd_10:FuncData}(T:Txt K mg C_House)(O_10:OwnM K C_House "write" "House.write" ZS f_10 fd_10 ["self", "which", "text"]){f_27:Addr}{fd_27:FuncData}(O_27:Own K mg "refuse_no_text" Zm f_27 fd_27 ["thing"])(G_27:FnOk P w K mg base CX0 3 f_27 fd_27 ["thing"] (spD K 1 ZA)){f_7:Addr}{fd_7:FuncData}(O_7:OwnM K C_House "next_mark" "House.next_mark" Zd f_7 fd_7 ["self"])(G_7:FnOk P w K mg base CX0 1 f_7 fd_7 ["self"] (spD K 1 Ze)){f_0:Addr}{fd_0:FuncData}(O_0:OwnM K C_House "change" "House.change" Zr f_0 fd_0 ["self", "file", "mark", "names", "texts"])(G_0:FnOk P w K mg base CX0 2 f_0 fd_0 ["self", "file", "mark", "names", "texts"] (spD K 5 Zq)){f_4:Addr}{fd_4:FuncData}(O_4:OwnM K C_House "file_on_shelf" "House.file_on_shelf" Z8 f_4 fd_4 ["self", "which"])(G_4:FnOk P w K mg base CX0 2 f_4 fd_4 ["self", "which"] (spD K 2 Z6)):FnOk P w K mg base CX0 4 f_10 fd_10 ["self", "which", "text"] (spD K 3 Yr):=
 JK (k:=3) O_10.fn SR rfl rfl λcdv A outer s H E hr=>(Z9 (Zt (i:=3) OJ rfl (Or.inl rfl) (ZV T.k_House (sv 0) O_4.meth G_4 (hr.mono (by omega)) O_4.b (Z0 (sv 1) Z4) (Z2 Z7)))
   (Z9 (Yu (Zi G_27 (hr.mono (by omega)) rfl O_27.mgf O_27.fn.kp O_27.b (Z0 (sv 2) Z4) (Z2 Z7)))
   (Z9 (Zt (i:=4) OJ rfl (Or.inl rfl) (Jr T.k_House (sv 0) O_7.meth G_7 (hr.mono (by omega)) O_7.b))
   (Zj (Yu (ZV T.k_House (sv 0) O_0.meth G_0 (hr.mono (by omega)) O_0.b (Z0 (sv 3) (Z0 (sv 4) (Z0 (Q2 (YQ hr) (sv 3) Zc) (Z0 (Zv (Z0 (Zv (Z0 (sv 4) (Z0 (sv 2) Z4))) Z4)) Z4)))) (Z2 (Z2 (Z2 (Z2 Z7))))))))))
theorem UO {f_10:Addr}{fd_10:FuncData}(T:Txt K mg C_House)(O_10:OwnM K C_House "write" "House.write" ZS f_10 fd_10 ["self", "which", "text"]){f_27:Addr}{fd_27:FuncData}(O_27:Own K mg "refuse_no_text" Zm f_27 fd_27 ["thing"])(G_27:FnOk P w K mg base CX0 3 f_27 fd_27 ["thing"] (spD K 1 ZA)){f_7:Addr}{fd_7:FuncData}(O_7:OwnM K C_House "next_mark" "House.next_mark" Zd f_7 fd_7 ["self"])(G_7:FnOk P w K mg base CX0 1 f_7 fd_7 ["self"] (spD K 1 Ze)){f_0:Addr}{fd_0:FuncData}(O_0:OwnM K C_House "change" "House.change" Zr f_0 fd_0 ["self", "file", "mark", "names", "texts"])(G_0:FnOk P w K mg base CX0 2 f_0 fd_0 ["self", "file", "mark", "names", "texts"] (spD K 5 Zq)){f_4:Addr}{fd_4:FuncData}(O_4:OwnM K C_House "file_on_shelf" "House.file_on_shelf" Z8 f_4 fd_4 ["self", "which"])(G_4:FnOk P w K mg base CX0 2 f_4 fd_4 ["self", "which"] (spD K 2 Z6))(X_refuse_no_text:FnOk P w K mg base (CX1 P w) 3 f_27 fd_27 ["thing"] (spX K mg 1 Zy))(X_House_file_on_shelf:FnOk P w K mg base (CX1 P w) 2 f_4 fd_4 ["self", "which"] (spX K mg 2 Za)):FnOk P w K mg base (CX1 P w) 4 f_10 fd_10 ["self", "which", "text"] (spX K mg 3 Yd):=
 Fu (k:=3) O_10.fn SR rfl rfl λcdv A outer s H E hr=>(LH (ZI (M1 (Q9 T.k_House (sv 0) O_4.meth X_House_file_on_shelf (hr.mono (by omega)) O_4.b (Z0 (sv 1) Z4) (Z2 Z7)))) (G7 (Zt (i:=3) OJ rfl (Or.inl rfl) (ZV T.k_House (sv 0) O_4.meth G_4 (hr.mono (by omega)) O_4.b (Z0 (sv 1) Z4) (Z2 Z7))) (ZI (Qr (G6 X_refuse_no_text (hr.mono (by omega)) rfl O_27.mgf O_27.fn.kp O_27.b (Z0 (sv 2) Z4) (Z2 Z7))))))
theorem Z0i:FnScope ["self", "which", "name", "file", "mark"] ["self", "which", "name"] (Z5 ZJ):=⟨rfl,rfl,rfl,OI,rfl,by decide +kernel,by decide +kernel⟩
theorem Z1e {f_8:Addr}{fd_8:FuncData}(T:Txt K mg C_House)(O_8:OwnM K C_House "rename" "House.rename" ZJ f_8 fd_8 ["self", "which", "name"]){f_26:Addr}{fd_26:FuncData}(O_26:Own K mg "refuse_no_name" Zn f_26 fd_26 ["thing"])(G_26:FnOk P w K mg base CX0 3 f_26 fd_26 ["thing"] (spD K 1 Zo)){f_7:Addr}{fd_7:FuncData}(O_7:OwnM K C_House "next_mark" "House.next_mark" Zd f_7 fd_7 ["self"])(G_7:FnOk P w K mg base CX0 1 f_7 fd_7 ["self"] (spD K 1 Ze)){f_0:Addr}{fd_0:FuncData}(O_0:OwnM K C_House "change" "House.change" Zr f_0 fd_0 ["self", "file", "mark", "names", "texts"])(G_0:FnOk P w K mg base CX0 2 f_0 fd_0 ["self", "file", "mark", "names", "texts"] (spD K 5 Zq)){f_4:Addr}{fd_4:FuncData}(O_4:OwnM K C_House "file_on_shelf" "House.file_on_shelf" Z8 f_4 fd_4 ["self", "which"])(G_4:FnOk P w K mg base CX0 2 f_4 fd_4 ["self", "which"] (spD K 2 Z6)):FnOk P w K mg base CX0 4 f_8 fd_8 ["self", "which", "name"] (spD K 3 Qu):=
 JK (k:=3) O_8.fn Z0i rfl rfl λcdv A outer s H E hr=>(Z9 (Zt (i:=3) OI rfl (Or.inl rfl) (ZV T.k_House (sv 0) O_4.meth G_4 (hr.mono (by omega)) O_4.b (Z0 (sv 1) Z4) (Z2 Z7)))
   (Z9 (Yu (Zi G_26 (hr.mono (by omega)) rfl O_26.mgf O_26.fn.kp O_26.b (Z0 (sv 2) Z4) (Z2 Z7)))
   (Z9 (Zt (i:=4) OI rfl (Or.inl rfl) (Jr T.k_House (sv 0) O_7.meth G_7 (hr.mono (by omega)) O_7.b))
   (Zj (Yu (ZV T.k_House (sv 0) O_0.meth G_0 (hr.mono (by omega)) O_0.b (Z0 (sv 3) (Z0 (sv 4) (Z0 (Zv (Z0 (Zv (Z0 (sv 4) (Z0 (sv 2) Z4))) Z4)) (Z0 (Q2 (YQ hr) (sv 3) Zc) Z4)))) (Z2 (Z2 (Z2 (Z2 Z7))))))))))
theorem Uo {f_8:Addr}{fd_8:FuncData}(T:Txt K mg C_House)(O_8:OwnM K C_House "rename" "House.rename" ZJ f_8 fd_8 ["self", "which", "name"]){f_26:Addr}{fd_26:FuncData}(O_26:Own K mg "refuse_no_name" Zn f_26 fd_26 ["thing"])(G_26:FnOk P w K mg base CX0 3 f_26 fd_26 ["thing"] (spD K 1 Zo)){f_7:Addr}{fd_7:FuncData}(O_7:OwnM K C_House "next_mark" "House.next_mark" Zd f_7 fd_7 ["self"])(G_7:FnOk P w K mg base CX0 1 f_7 fd_7 ["self"] (spD K 1 Ze)){f_0:Addr}{fd_0:FuncData}(O_0:OwnM K C_House "change" "House.change" Zr f_0 fd_0 ["self", "file", "mark", "names", "texts"])(G_0:FnOk P w K mg base CX0 2 f_0 fd_0 ["self", "file", "mark", "names", "texts"] (spD K 5 Zq)){f_4:Addr}{fd_4:FuncData}(O_4:OwnM K C_House "file_on_shelf" "House.file_on_shelf" Z8 f_4 fd_4 ["self", "which"])(G_4:FnOk P w K mg base CX0 2 f_4 fd_4 ["self", "which"] (spD K 2 Z6))(X_refuse_no_name:FnOk P w K mg base (CX1 P w) 3 f_26 fd_26 ["thing"] (spX K mg 1 Zz))(X_House_file_on_shelf:FnOk P w K mg base (CX1 P w) 2 f_4 fd_4 ["self", "which"] (spX K mg 2 Za)):FnOk P w K mg base (CX1 P w) 4 f_8 fd_8 ["self", "which", "name"] (spX K mg 3 Yf):=
 Fu (k:=3) O_8.fn Z0i rfl rfl λcdv A outer s H E hr=>(LH (ZI (M1 (Q9 T.k_House (sv 0) O_4.meth X_House_file_on_shelf (hr.mono (by omega)) O_4.b (Z0 (sv 1) Z4) (Z2 Z7)))) (G7 (Zt (i:=3) OI rfl (Or.inl rfl) (ZV T.k_House (sv 0) O_4.meth G_4 (hr.mono (by omega)) O_4.b (Z0 (sv 1) Z4) (Z2 Z7))) (ZI (Qr (G6 X_refuse_no_name (hr.mono (by omega)) rfl O_26.mgf O_26.fn.kp O_26.b (Z0 (sv 2) Z4) (Z2 Z7))))))
theorem Z0h:FnScope ["self", "which"] ["self", "which"] (Z5 ZC):=⟨rfl,rfl,rfl,nd9,rfl,by decide +kernel,by decide +kernel⟩
theorem Z1d {f_9:Addr}{fd_9:FuncData}(T:Txt K mg C_House)(O_9:OwnM K C_House "text_of" "House.text_of" ZC f_9 fd_9 ["self", "which"]){f_4:Addr}{fd_4:FuncData}(O_4:OwnM K C_House "file_on_shelf" "House.file_on_shelf" Z8 f_4 fd_4 ["self", "which"])(G_4:FnOk P w K mg base CX0 2 f_4 fd_4 ["self", "which"] (spD K 2 Z6)):FnOk P w K mg base CX0 3 f_9 fd_9 ["self", "which"] (spD K 2 Qh):=
 JK (k:=2) O_9.fn Z0h rfl rfl λcdv A outer s H E hr=>(Zj (ZY (Q2 (YQ hr) (Q2 (YQ hr) (Q2 (YQ hr) (ZV T.k_House (sv 0) O_4.meth G_4 (hr.mono (by omega)) O_4.b (Z0 (sv 1) Z4) (Z2 Z7)) Zc) Cd) Zc)))
theorem JW {f_9:Addr}{fd_9:FuncData}(T:Txt K mg C_House)(O_9:OwnM K C_House "text_of" "House.text_of" ZC f_9 fd_9 ["self", "which"]){f_4:Addr}{fd_4:FuncData}(O_4:OwnM K C_House "file_on_shelf" "House.file_on_shelf" Z8 f_4 fd_4 ["self", "which"])(G_4:FnOk P w K mg base CX0 2 f_4 fd_4 ["self", "which"] (spD K 2 Z6))(X_House_file_on_shelf:FnOk P w K mg base (CX1 P w) 2 f_4 fd_4 ["self", "which"] (spX K mg 2 Za)):FnOk P w K mg base (CX1 P w) 3 f_9 fd_9 ["self", "which"] (spX K mg 2 Yn):=
 Fu (k:=2) O_9.fn Z0h rfl rfl λcdv A outer s H E hr=>(ZI (SU (Co (Co (Co (Q9 T.k_House (sv 0) O_4.meth X_House_file_on_shelf (hr.mono (by omega)) O_4.b (Z0 (sv 1) Z4) (Z2 Z7)))))))
theorem Xg:FnScope ["_law_house", "_law_deed", "_law_which", "_law_name_here", "_law_text_here", "_law_told", "e"] ["_law_house", "_law_deed", "_law_which", "_law_name_here", "_law_text_here"] (Z5 Yl):=⟨rfl,rfl,rfl,Z00,rfl,by decide +kernel,by decide +kernel⟩
theorem XM {f_17:Addr}{fd_17:FuncData}(T:Txt K mg C_House)(O_17:Own K mg "_law_refused" Yl f_17 fd_17 ["_law_house", "_law_deed", "_law_which", "_law_name_here", "_law_text_here"]){f_6:Addr}{fd_6:FuncData}(O_6:OwnM K C_House "make" "House.make" ZT f_6 fd_6 ["self", "name", "text"])(G_6:FnOk P w K mg base CX0 4 f_6 fd_6 ["self", "name", "text"] (spD K 3 ZN)){f_10:Addr}{fd_10:FuncData}(O_10:OwnM K C_House "write" "House.write" ZS f_10 fd_10 ["self", "which", "text"])(G_10:FnOk P w K mg base CX0 4 f_10 fd_10 ["self", "which", "text"] (spD K 3 Yr)){f_8:Addr}{fd_8:FuncData}(O_8:OwnM K C_House "rename" "House.rename" ZJ f_8 fd_8 ["self", "which", "name"])(G_8:FnOk P w K mg base CX0 4 f_8 fd_8 ["self", "which", "name"] (spD K 3 Qu)){f_2:Addr}{fd_2:FuncData}(O_2:OwnM K C_House "drop" "House.drop" ZU f_2 fd_2 ["self", "which"])(G_2:FnOk P w K mg base CX0 3 f_2 fd_2 ["self", "which"] (spD K 2 Y9)){f_3:Addr}{fd_3:FuncData}(O_3:OwnM K C_House "file" "House.file" ZH f_3 fd_3 ["self", "which"])(G_3:FnOk P w K mg base CX0 1 f_3 fd_3 ["self", "which"] (spD K 2 Zu)){f_9:Addr}{fd_9:FuncData}(O_9:OwnM K C_House "text_of" "House.text_of" ZC f_9 fd_9 ["self", "which"])(G_9:FnOk P w K mg base CX0 3 f_9 fd_9 ["self", "which"] (spD K 2 Qh))(X_House_make:FnOk P w K mg base (CX1 P w) 4 f_6 fd_6 ["self", "name", "text"] (spX K mg 3 Yz))(X_House_write:FnOk P w K mg base (CX1 P w) 4 f_10 fd_10 ["self", "which", "text"] (spX K mg 3 Yd))(X_House_rename:FnOk P w K mg base (CX1 P w) 4 f_8 fd_8 ["self", "which", "name"] (spX K mg 3 Yf))(X_House_drop:FnOk P w K mg base (CX1 P w) 3 f_2 fd_2 ["self", "which"] (spX K mg 2 YV))(X_House_file:FnOk P w K mg base (CX1 P w) 1 f_3 fd_3 ["self", "which"] (spX K mg 2 Y3))(X_House_text_of:FnOk P w K mg base (CX1 P w) 3 f_9 fd_9 ["self", "which"] (spX K mg 2 Yn)):FnOk P w K mg base CX0 5 f_17 fd_17 ["_law_house", "_law_deed", "_law_which", "_law_name_here", "_law_text_here"] (spD K 5 Ye):=
 JK (k:=4) O_17.fn Xg rfl rfl λcdv A outer s H E hr=>(Z9 (Zt (i:=5) Z00 rfl (Or.inl rfl) Zp)
   (Z9 (SJ (x1:=_) T.ex rfl rfl Z00 rfl rfl rfl (Or.inl rfl) (by decide) rfl (Zj (Qi (Yk (YI (YQ hr)) (sv 1) Zp (Y8 _)) (Zj (Yu (ZV T.k_House (sv 0) O_6.meth G_6 (hr.mono (by omega)) O_6.b (Z0 (sv 3) (Z0 (sv 4) Z4)) (Z2 (Z2 Z7))))) (Zj (Qi (Yk (YI (YQ hr)) (sv 1) Zp (Y8 _)) (Zj (Yu (ZV T.k_House (sv 0) O_10.meth G_10 (hr.mono (by omega)) O_10.b (Z0 (sv 2) (Z0 (sv 4) Z4)) (Z2 (Z2 Z7))))) (Zj (Qi (Yk (YI (YQ hr)) (sv 1) Zp (Y8 _)) (Zj (Yu (ZV T.k_House (sv 0) O_8.meth G_8 (hr.mono (by omega)) O_8.b (Z0 (sv 2) (Z0 (sv 3) Z4)) (Z2 (Z2 Z7))))) (Zj (Qi (Yk (YI (YQ hr)) (sv 1) Zp (Y8 _)) (Zj (Yu (ZV T.k_House (sv 0) O_2.meth G_2 (hr.mono (by omega)) O_2.b (Z0 (sv 2) Z4) (Z2 Z7)))) (Zj (Qi (Yk (YI (YQ hr)) (sv 1) Zp (Y8 _)) (Zj (Yu (ZV T.k_House (sv 0) O_3.meth G_3 (hr.mono (by omega)) O_3.b (Z0 (sv 2) Z4) (Z2 Z7)))) (Zj (Yu (ZV T.k_House (sv 0) O_9.meth G_9 (hr.mono (by omega)) O_9.b (Z0 (sv 2) Z4) (Z2 Z7)))))))))))))) (ZI (G0 (Yk (YI (YQ hr)) (sv 1) Zp (Y8 _)) (ZI (Qr (Q9 T.k_House (sv 0) O_6.meth X_House_make (hr.mono (by omega)) O_6.b (Z0 (sv 3) (Z0 (sv 4) Z4)) (Z2 (Z2 Z7))))) (ZI (G0 (Yk (YI (YQ hr)) (sv 1) Zp (Y8 _)) (ZI (Qr (Q9 T.k_House (sv 0) O_10.meth X_House_write (hr.mono (by omega)) O_10.b (Z0 (sv 2) (Z0 (sv 4) Z4)) (Z2 (Z2 Z7))))) (ZI (G0 (Yk (YI (YQ hr)) (sv 1) Zp (Y8 _)) (ZI (Qr (Q9 T.k_House (sv 0) O_8.meth X_House_rename (hr.mono (by omega)) O_8.b (Z0 (sv 2) (Z0 (sv 3) Z4)) (Z2 (Z2 Z7))))) (ZI (G0 (Yk (YI (YQ hr)) (sv 1) Zp (Y8 _)) (ZI (Qr (Q9 T.k_House (sv 0) O_2.meth X_House_drop (hr.mono (by omega)) O_2.b (Z0 (sv 2) Z4) (Z2 Z7)))) (ZI (G0 (Yk (YI (YQ hr)) (sv 1) Zp (Y8 _)) (ZI (Qr (Q9 T.k_House (sv 0) O_3.meth X_House_file (hr.mono (by omega)) O_3.b (Z0 (sv 2) Z4) (Z2 Z7)))) (ZI (Qr (Q9 T.k_House (sv 0) O_9.meth X_House_text_of (hr.mono (by omega)) O_9.b (Z0 (sv 2) Z4) (Z2 Z7)))))))))))))) (Gc (Gc (Gc (Gc Ic rfl (Or.inl rfl) rfl T.n_isinstance rfl) rfl (Or.inl rfl) rfl T.n_isinstance rfl) rfl (Or.inl rfl) rfl T.n_isinstance rfl) rfl (Or.inl rfl) rfl T.n_isinstance rfl) (by decide))
   (Zj (ZY (sv 5)))))
theorem Xl:FnScope ["_law_cell_here", "_law_kind", "_law_some"] ["_law_cell_here", "_law_kind"] (Z5 QS):=⟨rfl,rfl,rfl,XZ,rfl,by decide +kernel,by decide +kernel⟩
theorem XV {f_12:Addr}{fd_12:FuncData}(T:Txt K mg C_House)(O_12:Own K mg "_law_bad" QS f_12 fd_12 ["_law_cell_here", "_law_kind"]){f_14:Addr}{fd_14:FuncData}(O_14:Own K mg "_law_mix" YY f_14 fd_14 ["_law_cell_here", "_law_prime", "_law_many"])(G_14:FnOk P w K mg base CX0 1 f_14 fd_14 ["_law_cell_here", "_law_prime", "_law_many"] (spD K 3 ZZ)):FnOk P w K mg base CX0 2 f_12 fd_12 ["_law_cell_here", "_law_kind"] (spD K 2 Qt):=
 JK (k:=1) O_12.fn Xl rfl rfl λcdv A outer s H E hr=>(Z9 (Zt (i:=2) XZ rfl (Or.inl rfl) (Zv (Z0 Zp (Z0 Zp (Z0 Zp (Z0 Zp (Z0 Zc (Z0 NW (Z0 (Zv (Z0 Zp Z4)) (Z0 QP Z4))))))))))
   (Z9 (Qi (Yk (YI (YQ hr)) (sv 1) Zc (Y8 _)) (Zj (Zt (i:=2) XZ rfl (Or.inl rfl) (Zv (Z0 (Yw JU Zp Zc) (Z0 Zc (Z0 NW (Z0 (Zv (Z0 Zp Z4)) (Z0 QP (Z0 (Js (Z0 Zp Z4)) (Z0 (Yw JU Zp Zc) (Z0 (Zv (Z0 Zp (Z0 Zp Z4))) Z4))))))))))) YN)
   (Zj (ZY (Q2 (YQ hr) (sv 2) (Zi G_14 (hr.mono (by omega)) rfl O_14.mgf O_14.fn.kp O_14.b (Z0 (sv 0) (Z0 Zc (Z0 Zc Z4))) (Z2 (Z2 (Z2 Z7)))))))))
theorem Xm:FnScope ["_law_cell_here", "_law_live", "_law_gone", "_law_strange", "_law_name_here", "_law_text_here", "_law_bad_here", "_law_worse", "_law_no_file", "_law_no_name", "_law_no_words", "_law_some", "_law_which"] ["_law_cell_here", "_law_live", "_law_gone", "_law_strange"] (Z5 Qk):=⟨rfl,rfl,rfl,Ng,rfl,by decide +kernel,by decide +kernel⟩
theorem XW {f_11:Addr}{fd_11:FuncData}(T:Txt K mg C_House)(O_11:Own K mg "_law_asks" Qk f_11 fd_11 ["_law_cell_here", "_law_live", "_law_gone", "_law_strange"]){f_15:Addr}{fd_15:FuncData}(O_15:Own K mg "_law_name" YL f_15 fd_15 ["_law_cell_here"])(G_15:FnOk P w K mg base CX0 2 f_15 fd_15 ["_law_cell_here"] (spD K 1 Qo)){f_19:Addr}{fd_19:FuncData}(O_19:Own K mg "_law_text" YK f_19 fd_19 ["_law_cell_here"])(G_19:FnOk P w K mg base CX0 2 f_19 fd_19 ["_law_cell_here"] (spD K 1 Yq)){f_12:Addr}{fd_12:FuncData}(O_12:Own K mg "_law_bad" QS f_12 fd_12 ["_law_cell_here", "_law_kind"])(G_12:FnOk P w K mg base CX0 2 f_12 fd_12 ["_law_cell_here", "_law_kind"] (spD K 2 Qt)):FnOk P w K mg base CX0 3 f_11 fd_11 ["_law_cell_here", "_law_live", "_law_gone", "_law_strange"] (spD K 4 QM):=
 JK (k:=2) O_11.fn Xm rfl rfl λcdv A outer s H E hr=>(Z9 (Zt (i:=4) Ng rfl (Or.inl rfl) (Zi G_15 (hr.mono (by omega)) rfl O_15.mgf O_15.fn.kp O_15.b (Z0 (Yw Yb (sv 0) Zc) Z4) (Z2 Z7)))
   (Z9 (Zt (i:=5) Ng rfl (Or.inl rfl) (Zi G_19 (hr.mono (by omega)) rfl O_19.mgf O_19.fn.kp O_19.b (Z0 (Yw Yb (sv 0) Zc) Z4) (Z2 Z7)))
   (Z9 (Zt (i:=6) Ng rfl (Or.inl rfl) (Zi G_12 (hr.mono (by omega)) rfl O_12.mgf O_12.fn.kp O_12.b (Z0 (sv 0) (Z0 Zc Z4)) (Z2 (Z2 Z7))))
   (Z9 (Zt (i:=7) Ng rfl (Or.inl rfl) (Zi G_12 (hr.mono (by omega)) rfl O_12.mgf O_12.fn.kp O_12.b (Z0 (Yw Yb (sv 0) Zc) (Z0 Zc Z4)) (Z2 (Z2 Z7))))
   (Z9 (Zt (i:=8) Ng rfl (Or.inl rfl) (Zv (Z0 QP (Z0 QP (Z0 QP (Z0 QP Z4))))))
   (Z9 (Zt (i:=9) Ng rfl (Or.inl rfl) (Zv (Z0 QP (Z0 QP (Z0 QP (Z0 QP Z4))))))
   (Z9 (Zt (i:=10) Ng rfl (Or.inl rfl) (Zv (Z0 QP (Z0 QP (Z0 QP (Z0 QP Z4))))))
   (Z9 (Zt (i:=11) Ng rfl (Or.inl rfl) (Js (Z0 (Zv (Z0 Zp (Z0 (sv 1) (Z0 (sv 6) (Z0 (sv 5) (Z0 (sv 9) Z4)))))) (Z0 (Zv (Z0 Zp (Z0 (sv 1) (Z0 (sv 6) (Z0 (sv 7) (Z0 (sv 9) Z4)))))) Z4))))
   (Z9 (Zt (i:=11) Ng rfl (Or.inl rfl) (Yw Yb (sv 11) (Js (Z0 (Zv (Z0 Zp (Z0 (sv 1) (Z0 (sv 4) (Z0 (sv 7) (Z0 (sv 10) Z4)))))) (Z0 (Zv (Z0 Zp (Z0 (sv 1) (Z0 (sv 4) (Z0 (sv 7) (Z0 (sv 10) Z4)))))) Z4)))))
   (Z9 (Zt (i:=11) Ng rfl (Or.inl rfl) (Yw Yb (sv 11) (Js (Z0 (Zv (Z0 Zp (Z0 (sv 1) (Z0 (sv 6) (Z0 (sv 5) (Z0 (sv 9) Z4)))))) Z4))))
   (Z9 (NS W17 rfl (MO (Zv (Z0 (sv 2) (Z0 (sv 3) Z4)))) (Yv (i:=12) Ng rfl (Or.inl rfl)) Ym (Z9 (Zt (i:=11) Ng rfl (Or.inl rfl) (Yw Yb (sv 11) (Js (Z0 (Zv (Z0 Zp (Z0 (sv 12) (Z0 (sv 4) (Z0 (sv 5) (Z0 (sv 8) Z4)))))) (Z0 (Zv (Z0 Zp (Z0 (sv 12) (Z0 (sv 4) (Z0 (sv 7) (Z0 (sv 8) Z4)))))) Z4)))))
   (Z9 (Zt (i:=11) Ng rfl (Or.inl rfl) (Yw Yb (sv 11) (Js (Z0 (Zv (Z0 Zp (Z0 (sv 12) (Z0 (sv 4) (Z0 (sv 5) (Z0 (sv 8) Z4)))))) (Z0 (Zv (Z0 Zp (Z0 (sv 12) (Z0 (sv 6) (Z0 (sv 5) (Z0 (sv 8) Z4)))))) Z4)))))
   (Zj (Zt (i:=11) Ng rfl (Or.inl rfl) (Yw Yb (sv 11) (Js (Z0 (Zv (Z0 Zp (Z0 (sv 12) (Z0 (sv 4) (Z0 (sv 5) (Z0 (sv 8) Z4)))))) (Z0 (Zv (Z0 Zp (Z0 (sv 12) (Z0 (sv 4) (Z0 (sv 5) (Z0 (sv 8) Z4)))))) Z4)))))))))
   (Zj (ZY (Yw Yb (sv 11) (Js (Z0 (Zv (Z0 Zp (Z0 (sv 3) (Z0 (sv 4) (Z0 (sv 5) (Z0 (sv 8) Z4)))))) Z4))))))))))))))))
theorem X8:FnScope ["_law_script", "_law_cell_here", "_law_number", "_law_house", "_law_files", "_law_k", "_law_which", "_law_order", "_law_gone", "_law_live", "_law_before", "_law_strange", "_law_asks_here", "_law_deed", "_law_name_here", "_law_text_here", "_law_due"] ["_law_script"] (Z5 Um):=⟨rfl,rfl,rfl,GO,rfl,by decide +kernel,by decide +kernel⟩
theorem XD {f_25:Addr}{fd_25:FuncData}(T:Txt K mg C_House)(O_25:Own K mg "law" Um f_25 fd_25 ["_law_script"]){f_5:Addr}{fd_5:FuncData}(O_5:OwnI K C_House "House.__init__" Y7 f_5 fd_5 ["self", "number"])(G_5:FnOk P w K mg base CX0 1 f_5 fd_5 ["self", "number"] (spD K 2 Yo)){f_1:Addr}{fd_1:FuncData}(O_1:OwnM K C_House "count" "House.count" Y1 f_1 fd_1 ["self"])(G_1:FnOk P w K mg base CX0 1 f_1 fd_1 ["self"] (spD K 1 YG)){f_6:Addr}{fd_6:FuncData}(O_6:OwnM K C_House "make" "House.make" ZT f_6 fd_6 ["self", "name", "text"])(G_6:FnOk P w K mg base CX0 4 f_6 fd_6 ["self", "name", "text"] (spD K 3 ZN)){f_2:Addr}{fd_2:FuncData}(O_2:OwnM K C_House "drop" "House.drop" ZU f_2 fd_2 ["self", "which"])(G_2:FnOk P w K mg base CX0 3 f_2 fd_2 ["self", "which"] (spD K 2 Y9)){f_3:Addr}{fd_3:FuncData}(O_3:OwnM K C_House "file" "House.file" ZH f_3 fd_3 ["self", "which"])(G_3:FnOk P w K mg base CX0 1 f_3 fd_3 ["self", "which"] (spD K 2 Zu)){f_13:Addr}{fd_13:FuncData}(O_13:Own K mg "_law_cell" Qj f_13 fd_13 ["_law_script", "_law_k"])(G_13:FnOk P w K mg base CX0 1 f_13 fd_13 ["_law_script", "_law_k"] (spD K 2 ZL)){f_14:Addr}{fd_14:FuncData}(O_14:Own K mg "_law_mix" YY f_14 fd_14 ["_law_cell_here", "_law_prime", "_law_many"])(G_14:FnOk P w K mg base CX0 1 f_14 fd_14 ["_law_cell_here", "_law_prime", "_law_many"] (spD K 3 ZZ)){f_16:Addr}{fd_16:FuncData}(O_16:Own K mg "_law_perm" Q4 f_16 fd_16 ["_law_cell_here", "_law_many"])(G_16:FnOk P w K mg base CX0 2 f_16 fd_16 ["_law_cell_here", "_law_many"] (spD K 2 Jd)){f_15:Addr}{fd_15:FuncData}(O_15:Own K mg "_law_name" YL f_15 fd_15 ["_law_cell_here"])(G_15:FnOk P w K mg base CX0 2 f_15 fd_15 ["_law_cell_here"] (spD K 1 Qo)){f_19:Addr}{fd_19:FuncData}(O_19:Own K mg "_law_text" YK f_19 fd_19 ["_law_cell_here"])(G_19:FnOk P w K mg base CX0 2 f_19 fd_19 ["_law_cell_here"] (spD K 1 Yq)){f_18:Addr}{fd_18:FuncData}(O_18:Own K mg "_law_same" Q3 f_18 fd_18 ["_law_found", "_law_due"])(G_18:FnOk P w K mg base CX0 13 f_18 fd_18 ["_law_found", "_law_due"] (spD K 2 (Yi 12))){f_17:Addr}{fd_17:FuncData}(O_17:Own K mg "_law_refused" Yl f_17 fd_17 ["_law_house", "_law_deed", "_law_which", "_law_name_here", "_law_text_here"])(G_17:FnOk P w K mg base CX0 5 f_17 fd_17 ["_law_house", "_law_deed", "_law_which", "_law_name_here", "_law_text_here"] (spD K 5 Ye)){f_11:Addr}{fd_11:FuncData}(O_11:Own K mg "_law_asks" Qk f_11 fd_11 ["_law_cell_here", "_law_live", "_law_gone", "_law_strange"])(G_11:FnOk P w K mg base CX0 3 f_11 fd_11 ["_law_cell_here", "_law_live", "_law_gone", "_law_strange"] (spD K 4 QM)):FnOk P w K mg base CX0 14 f_25 fd_25 ["_law_script"] (spD K 1 F_law):=
 JK (k:=13) O_25.fn X8 rfl rfl λcdv A outer s H E hr=>(by
    refine Z9 ?_ ?_
    ·exact (Zt (i:=1) GO rfl (Or.inl rfl) (Zi G_13 (hr.mono (by omega)) rfl O_13.mgf O_13.fn.kp O_13.b (Z0 (sv 0) (Z0 Zc Z4)) (Z2 (Z2 Z7))))
    refine Z9 ?_ ?_
    ·exact (Zt (i:=2) GO rfl (Or.inl rfl) (Zi G_14 (hr.mono (by omega)) rfl O_14.mgf O_14.fn.kp O_14.b (Z0 (sv 1) (Z0 Zc (Z0 Zc Z4))) (Z2 (Z2 (Z2 Z7)))))
    refine Z9 ?_ ?_
    ·exact (Zt (i:=3) GO rfl (Or.inr rfl) (Cf T.k_House O_5.mkr G_5 (hr.mono (by omega)) rfl T.g_House O_5.b (Z0 (sv 2) Z4) (Z2 Z7)))
    refine Z9 ?_ ?_
    ·exact (Zt (i:=4) GO rfl (Or.inl rfl) (Js Z4))
    refine Z9 ?_ ?_
    ·exact (NS W17 rfl (TZ Zc rfl T.n_range) (Yv (i:=5) GO rfl (Or.inl rfl)) Ym (Z9 (Zt (i:=6) GO rfl (Or.inl rfl) (ZV T.k_House (sv 3) O_6.meth G_6 (hr.mono (by omega)) O_6.b (Z0 (Zi G_15 (hr.mono (by omega)) rfl O_15.mgf O_15.fn.kp O_15.b (Z0 (Zi G_13 (hr.mono (by omega)) rfl O_13.mgf O_13.fn.kp O_13.b (Z0 (sv 0) (Z0 (sv 5) Z4)) (Z2 (Z2 Z7))) Z4) (Z2 Z7)) (Z0 (Zi G_19 (hr.mono (by omega)) rfl O_19.mgf O_19.fn.kp O_19.b (Z0 (Yw Yb (Zi G_13 (hr.mono (by omega)) rfl O_13.mgf O_13.fn.kp O_13.b (Z0 (sv 0) (Z0 (Yw Yb (sv 5) Zc) Z4)) (Z2 (Z2 Z7))) (sv 5)) Z4) (Z2 Z7)) Z4)) (Z2 (Z2 Z7))))       (Zj (Yu (KR (sv 4) (sv 6))))))
    refine Z9 ?_ ?_
    ·exact (Zt (i:=7) GO rfl (Or.inl rfl) (Zi G_16 (hr.mono (by omega)) rfl O_16.mgf O_16.fn.kp O_16.b (Z0 (Zi G_13 (hr.mono (by omega)) rfl O_13.mgf O_13.fn.kp O_13.b (Z0 (sv 0) (Z0 Zc Z4)) (Z2 (Z2 Z7))) (Z0 Zc Z4)) (Z2 (Z2 Z7))))
    refine Z9 ?_ ?_
    ·exact (Zt (i:=8) GO rfl (Or.inl rfl) (Q2 (YQ hr) (sv 4) (Q2 (YQ hr) (sv 7) Zc)))
    refine Z9 ?_ ?_
    ·exact (Zt (i:=9) GO rfl (Or.inl rfl) (Q2 (YQ hr) (sv 4) (Q2 (YQ hr) (sv 7) Zc)))
    refine Z9 ?_ ?_
    ·exact (Yu (ZV T.k_House (sv 3) O_2.meth G_2 (hr.mono (by omega)) O_2.b (Z0 (sv 8) Z4) (Z2 Z7)))
    refine Z9 ?_ ?_
    ·exact (Zt (i:=10) GO rfl (Or.inl rfl) (N1 (KN (tgs:=["_law_which"]) (cn:=["_law_house"]) (caps:=[3]) rfl ⟨by decide +kernel,rfl,by decide +kernel,Jo (Z5 Um).names rfl (by decide +kernel),⟨⟨rfl,.inl rfl,rfl⟩,trivial⟩⟩ (MO (sv 4)) (YR (by decide)) Ym (λ_ _ _ _=>(Yv (i:=0) Z0s rfl (Or.inl rfl))) (λ_ _ _ _=>UI) (λ_ _ _ _=>(ZV T.k_House (sv 1) O_3.meth G_3 (hr.mono (by omega)) O_3.b (Z0 (sv 0) Z4) (Z2 Z7)))) rfl T.n_tuple Qg))
    refine Z9 ?_ ?_
    ·exact (Zt (i:=11) GO rfl (Or.inl rfl) (Zv (Z0 (sv 2) (Z0 Zc Z4))))
    refine Z9 ?_ ?_
    ·exact (Zt (i:=12) GO rfl (Or.inl rfl) (Yw Yb (Zi G_11 (hr.mono (by omega)) rfl O_11.mgf O_11.fn.kp O_11.b (Z0 (Zi G_13 (hr.mono (by omega)) rfl O_13.mgf O_13.fn.kp O_13.b (Z0 (sv 0) (Z0 Zc Z4)) (Z2 (Z2 Z7))) (Z0 (sv 9) (Z0 (sv 8) (Z0 (sv 11) Z4)))) (Z2 (Z2 (Z2 (Z2 Z7))))) (Zi G_11 (hr.mono (by omega)) rfl O_11.mgf O_11.fn.kp O_11.b (Z0 (Yw Yb (sv 1) Zc) (Z0 (sv 9) (Z0 (sv 8) (Z0 (Zv (Z0 (Yw JV (Yw Yb (sv 2) Zc) Zc) (Z0 Zc Z4))) Z4)))) (Z2 (Z2 (Z2 (Z2 Z7)))))))
    refine Z9 ?_ ?_
    ·exact (NS W17 rfl (MO (sv 12)) (A1 rfl (QD (Yv (i:=13) GO rfl (Or.inl rfl)) (QD (Yv (i:=6) GO rfl (Or.inl rfl)) (QD (Yv (i:=14) GO rfl (Or.inl rfl)) (QD (Yv (i:=15) GO rfl (Or.inl rfl)) (QD (Yv (i:=16) GO rfl (Or.inl rfl)) Rm)))))) (Eh (QK Ym (QK Ym (QK Ym (QK Ym (QK Ym Pl)))))) (Z9 (Qi (Yk (M8 (YQ hr)) (Zi G_17 (hr.mono (by omega)) rfl O_17.mgf O_17.fn.kp O_17.b (Z0 (sv 3) (Z0 (sv 13) (Z0 (sv 6) (Z0 (sv 14) (Z0 (sv 15) Z4))))) (Z2 (Z2 (Z2 (Z2 (Z2 Z7)))))) (sv 16) (Y8 _)) (Zj (ZY QP)) YN)       (Zj (Qi (OH (Lu (UG (Yy (Zi G_18 (hr.mono (by omega)) rfl O_18.mgf O_18.fn.kp O_18.b (Z0 (N1 (KN (tgs:=["_law_which"]) (cn:=["_law_house"]) (caps:=[3]) rfl ⟨by decide +kernel,rfl,by decide +kernel,Jo (Z5 Um).names rfl (by decide +kernel),⟨⟨rfl,.inl rfl,rfl⟩,trivial⟩⟩ (MO (sv 4)) (YR (by decide)) Ym (λ_ _ _ _=>(Yv (i:=0) Z0s rfl (Or.inl rfl))) (λ_ _ _ _=>UI) (λ_ _ _ _=>(ZV T.k_House (sv 1) O_3.meth G_3 (hr.mono (by omega)) O_3.b (Z0 (sv 0) Z4) (Z2 Z7)))) rfl T.n_tuple Qg) (Z0 (sv 10) Z4)) (Z2 (Z2 Z7))))) (NP (Yk (M8 (YQ hr)) (Jr T.k_House (sv 3) O_1.meth G_1 (hr.mono (by omega)) O_1.b) Zc (Y8 _))))) (Zj (ZY QP)) YN))))
    refine Z9 ?_ ?_
    ·exact (Qi (OH (Lu (UG (Yy (Zi G_18 (hr.mono (by omega)) rfl O_18.mgf O_18.fn.kp O_18.b (Z0 (ZV T.k_House (sv 3) O_6.meth G_6 (hr.mono (by omega)) O_6.b (Z0 Zp (Z0 Zp Z4)) (Z2 (Z2 Z7))) (Z0 (sv 11) Z4)) (Z2 (Z2 Z7))))) (NP (Yk (M8 (YQ hr)) (Zi G_17 (hr.mono (by omega)) rfl O_17.mgf O_17.fn.kp O_17.b (Z0 (sv 3) (Z0 Zp (Z0 (sv 11) (Z0 Zp (Z0 Zp Z4))))) (Z2 (Z2 (Z2 (Z2 (Z2 Z7)))))) Zp (Y8 _))))) (Zj (ZY QP)) YN)
    exact Zj (ZY (Zi G_18 (hr.mono (by omega)) rfl O_18.mgf O_18.fn.kp O_18.b (Z0 (ZV T.k_House (sv 3) O_3.meth G_3 (hr.mono (by omega)) O_3.b (Z0 (sv 11) Z4) (Z2 Z7)) (Z0 (Zv (Z0 (sv 11) (Z0 Zp (Z0 (Zv (Z0 (Zv (Z0 (sv 2) (Z0 Zc Z4))) Z4)) (Z0 (Zv Z4) (Z0 (Zv (Z0 (Zv (Z0 (Zv (Z0 (sv 2) (Z0 Zc Z4))) (Z0 Zp Z4))) Z4)) Z4)))))) Z4)) (Z2 (Z2 Z7)))))
end
theorem all_mk {l:PySem.W.OpenLaw}{w:World}{K:W4}{h:Heap}{mg:Str->Option Value}{fa:Addr}(X:K.In h)(G:h.Ns Wx mg)(hfa:mg "law" = some (.ref fa))
  {C_House:Addr} (cg_House:WB K Wx "House" = some (some (.ref C_House))) (ca_House:W0f K C_House Str.empty=true) (cb_House:V3 K C_House=true) (cc_House:W1p K C_House=true) (ce_House:Ww K (.ref C_House) "__setattr__" = some (some (.builtin "object.__setattr__"))) (cm_House:PySem.W.makesIn K C_House=true) (ck_House:Wy K (.ref C_House)=true)
  (cn_House_acts:Ww K (.ref C_House) "acts" = some none)
  (cn_House_files:Ww K (.ref C_House) "files" = some none)
  (cn_House_own_number:Ww K (.ref C_House) "own_number" = some none)
  (cn_House_told:Ww K (.ref C_House) "told" = some none)
  {od0 an0:Option Addr} {sl0:Array (Option Value)} {oc0 kV0 dc0 pm0 cd0 ct0:Value} {f0:Addr}
  {od1 an1:Option Addr} {sl1:Array (Option Value)} {oc1 kV1 dc1 pm1 cd1 ct1:Value} {f1:Addr}
  {od2 an2:Option Addr} {sl2:Array (Option Value)} {oc2 kV2 dc2 pm2 cd2 ct2:Value} {f2:Addr}
  {od3 an3:Option Addr} {sl3:Array (Option Value)} {oc3 kV3 dc3 pm3 cd3 ct3:Value} {f3:Addr}
  {od4 an4:Option Addr} {sl4:Array (Option Value)} {oc4 kV4 dc4 pm4 cd4 ct4:Value} {f4:Addr}
  {od5 an5:Option Addr} {sl5:Array (Option Value)} {oc5 kV5 dc5 pm5 cd5 ct5:Value} {f5:Addr}
  {od6 an6:Option Addr} {sl6:Array (Option Value)} {oc6 kV6 dc6 pm6 cd6 ct6:Value} {f6:Addr}
  {od7 an7:Option Addr} {sl7:Array (Option Value)} {oc7 kV7 dc7 pm7 cd7 ct7:Value} {f7:Addr}
  {od8 an8:Option Addr} {sl8:Array (Option Value)} {oc8 kV8 dc8 pm8 cd8 ct8:Value} {f8:Addr}
  {od9 an9:Option Addr} {sl9:Array (Option Value)} {oc9 kV9 dc9 pm9 cd9 ct9:Value} {f9:Addr}
  {od10 an10:Option Addr} {sl10:Array (Option Value)} {oc10 kV10 dc10 pm10 cd10 ct10:Value} {f10:Addr}
  {od11 an11:Option Addr} {sl11:Array (Option Value)} {oc11 kV11 dc11 pm11 cd11 ct11:Value} {f11:Addr}
  {od12 an12:Option Addr} {sl12:Array (Option Value)} {oc12 kV12 dc12 pm12 cd12 ct12:Value} {f12:Addr}
  {od13 an13:Option Addr} {sl13:Array (Option Value)} {oc13 kV13 dc13 pm13 cd13 ct13:Value} {f13:Addr}
  {od14 an14:Option Addr} {sl14:Array (Option Value)} {oc14 kV14 dc14 pm14 cd14 ct14:Value} {f14:Addr}
  {od15 an15:Option Addr} {sl15:Array (Option Value)} {oc15 kV15 dc15 pm15 cd15 ct15:Value} {f15:Addr}
  {od16 an16:Option Addr} {sl16:Array (Option Value)} {oc16 kV16 dc16 pm16 cd16 ct16:Value} {f16:Addr}
  {od17 an17:Option Addr} {sl17:Array (Option Value)} {oc17 kV17 dc17 pm17 cd17 ct17:Value} {f17:Addr}
  {od18 an18:Option Addr} {sl18:Array (Option Value)} {oc18 kV18 dc18 pm18 cd18 ct18:Value} {f18:Addr}
  {od19 an19:Option Addr} {sl19:Array (Option Value)} {oc19 kV19 dc19 pm19 cd19 ct19:Value} {f19:Addr}
  {od20 an20:Option Addr} {sl20:Array (Option Value)} {oc20 kV20 dc20 pm20 cd20 ct20:Value} {f20:Addr}
  {od21 an21:Option Addr} {sl21:Array (Option Value)} {oc21 kV21 dc21 pm21 cd21 ct21:Value} {f21:Addr}
  {od22 an22:Option Addr} {sl22:Array (Option Value)} {oc22 kV22 dc22 pm22 cd22 ct22:Value} {f22:Addr}
  {od23 an23:Option Addr} {sl23:Array (Option Value)} {oc23 kV23 dc23 pm23 cd23 ct23:Value} {f23:Addr}
  {od24 an24:Option Addr} {sl24:Array (Option Value)} {oc24 kV24 dc24 pm24 cd24 ct24:Value} {f24:Addr}
  {od25 an25:Option Addr} {sl25:Array (Option Value)} {oc25 kV25 dc25 pm25 cd25 ct25:Value} {f25:Addr}
  {od26 an26:Option Addr} {sl26:Array (Option Value)} {oc26 kV26 dc26 pm26 cd26 ct26:Value} {f26:Addr}
  {od27 an27:Option Addr} {sl27:Array (Option Value)} {oc27 kV27 dc27 pm27 cd27 ct27:Value} {f27:Addr}
  (a0:Ww K (.ref C_House) "__init__" = some (some (.ref f0))) (l0:K.lookup f0=some ⟨oc0,od0,.func (WK "__init__" "House.__init__" (Zw Y7) (Zs Y7) (Z5 Y7) .none kV0 dc0 pm0 an0 cd0 ct0),sl0⟩) (c0:WF K cd0 "House.__init__" = true) (k0:Wy K (.ref f0)=true) (e0:Vm K (.ref f0)=true)
  (a1:Ww K (.ref C_House) "count" = some (some (.ref f1))) (l1:K.lookup f1=some ⟨oc1,od1,.func (WK "count" "House.count" (Zw Y1) (Zs Y1) (Z5 Y1) .none kV1 dc1 pm1 an1 cd1 ct1),sl1⟩) (c1:WF K cd1 "House.count" = true) (k1:Wy K (.ref f1)=true) (e1:Vm K (.ref f1)=true)
  (a2:WB K Wx "has_signs_between" = some (some (.ref f2))) (l2:K.lookup f2=some ⟨oc2,od2,.func (WK "has_signs_between" "has_signs_between" (Zw Zk) (Zs Zk) (Z5 Zk) .none kV2 dc2 pm2 an2 cd2 ct2),sl2⟩) (c2:WF K cd2 "has_signs_between" = true) (k2:Wy K (.ref f2)=true)
  (a3:WB K Wx "is_name" = some (some (.ref f3))) (l3:K.lookup f3=some ⟨oc3,od3,.func (WK "is_name" "is_name" (Zw YB) (Zs YB) (Z5 YB) .none kV3 dc3 pm3 an3 cd3 ct3),sl3⟩) (c3:WF K cd3 "is_name" = true) (k3:Wy K (.ref f3)=true)
  (a4:WB K Wx "refuse_no_name" = some (some (.ref f4))) (l4:K.lookup f4=some ⟨oc4,od4,.func (WK "refuse_no_name" "refuse_no_name" (Zw Zn) (Zs Zn) (Z5 Zn) .none kV4 dc4 pm4 an4 cd4 ct4),sl4⟩) (c4:WF K cd4 "refuse_no_name" = true) (k4:Wy K (.ref f4)=true)
  (a5:WB K Wx "is_text" = some (some (.ref f5))) (l5:K.lookup f5=some ⟨oc5,od5,.func (WK "is_text" "is_text" (Zw YA) (Zs YA) (Z5 YA) .none kV5 dc5 pm5 an5 cd5 ct5),sl5⟩) (c5:WF K cd5 "is_text" = true) (k5:Wy K (.ref f5)=true)
  (a6:WB K Wx "refuse_no_text" = some (some (.ref f6))) (l6:K.lookup f6=some ⟨oc6,od6,.func (WK "refuse_no_text" "refuse_no_text" (Zw Zm) (Zs Zm) (Z5 Zm) .none kV6 dc6 pm6 an6 cd6 ct6),sl6⟩) (c6:WF K cd6 "refuse_no_text" = true) (k6:Wy K (.ref f6)=true)
  (a7:Ww K (.ref C_House) "next_mark" = some (some (.ref f7))) (l7:K.lookup f7=some ⟨oc7,od7,.func (WK "next_mark" "House.next_mark" (Zw Zd) (Zs Zd) (Z5 Zd) .none kV7 dc7 pm7 an7 cd7 ct7),sl7⟩) (c7:WF K cd7 "House.next_mark" = true) (k7:Wy K (.ref f7)=true) (e7:Vm K (.ref f7)=true)
  (a8:Ww K (.ref C_House) "make" = some (some (.ref f8))) (l8:K.lookup f8=some ⟨oc8,od8,.func (WK "make" "House.make" (Zw ZT) (Zs ZT) (Z5 ZT) .none kV8 dc8 pm8 an8 cd8 ct8),sl8⟩) (c8:WF K cd8 "House.make" = true) (k8:Wy K (.ref f8)=true) (e8:Vm K (.ref f8)=true)
  (a9:WB K Wx "greater_counts" = some (some (.ref f9))) (l9:K.lookup f9=some ⟨oc9,od9,.func (WK "greater_counts" "greater_counts" (Zw ZG) (Zs ZG) (Z5 ZG) .none kV9 dc9 pm9 an9 cd9 ct9),sl9⟩) (c9:WF K cd9 "greater_counts" = true) (k9:Wy K (.ref f9)=true)
  (a10:Ww K (.ref C_House) "change" = some (some (.ref f10))) (l10:K.lookup f10=some ⟨oc10,od10,.func (WK "change" "House.change" (Zw Zr) (Zs Zr) (Z5 Zr) .none kV10 dc10 pm10 an10 cd10 ct10),sl10⟩) (c10:WF K cd10 "House.change" = true) (k10:Wy K (.ref f10)=true) (e10:Vm K (.ref f10)=true)
  (a11:WB K Wx "is_gone" = some (some (.ref f11))) (l11:K.lookup f11=some ⟨oc11,od11,.func (WK "is_gone" "is_gone" (Zw YC) (Zs YC) (Z5 YC) .none kV11 dc11 pm11 an11 cd11 ct11),sl11⟩) (c11:WF K cd11 "is_gone" = true) (k11:Wy K (.ref f11)=true)
  (a12:Ww K (.ref C_House) "file" = some (some (.ref f12))) (l12:K.lookup f12=some ⟨oc12,od12,.func (WK "file" "House.file" (Zw ZH) (Zs ZH) (Z5 ZH) .none kV12 dc12 pm12 an12 cd12 ct12),sl12⟩) (c12:WF K cd12 "House.file" = true) (k12:Wy K (.ref f12)=true) (e12:Vm K (.ref f12)=true)
  (a13:Ww K (.ref C_House) "file_on_shelf" = some (some (.ref f13))) (l13:K.lookup f13=some ⟨oc13,od13,.func (WK "file_on_shelf" "House.file_on_shelf" (Zw Z8) (Zs Z8) (Z5 Z8) .none kV13 dc13 pm13 an13 cd13 ct13),sl13⟩) (c13:WF K cd13 "House.file_on_shelf" = true) (k13:Wy K (.ref f13)=true) (e13:Vm K (.ref f13)=true)
  (a14:Ww K (.ref C_House) "drop" = some (some (.ref f14))) (l14:K.lookup f14=some ⟨oc14,od14,.func (WK "drop" "House.drop" (Zw ZU) (Zs ZU) (Z5 ZU) .none kV14 dc14 pm14 an14 cd14 ct14),sl14⟩) (c14:WF K cd14 "House.drop" = true) (k14:Wy K (.ref f14)=true) (e14:Vm K (.ref f14)=true)
  (a15:WB K Wx "_law_cell" = some (some (.ref f15))) (l15:K.lookup f15=some ⟨oc15,od15,.func (WK "_law_cell" "_law_cell" (Zw Qj) (Zs Qj) (Z5 Qj) .none kV15 dc15 pm15 an15 cd15 ct15),sl15⟩) (c15:WF K cd15 "_law_cell" = true) (k15:Wy K (.ref f15)=true)
  (a16:WB K Wx "_law_mix" = some (some (.ref f16))) (l16:K.lookup f16=some ⟨oc16,od16,.func (WK "_law_mix" "_law_mix" (Zw YY) (Zs YY) (Z5 YY) .none kV16 dc16 pm16 an16 cd16 ct16),sl16⟩) (c16:WF K cd16 "_law_mix" = true) (k16:Wy K (.ref f16)=true)
  (a17:WB K Wx "_law_perm" = some (some (.ref f17))) (l17:K.lookup f17=some ⟨oc17,od17,.func (WK "_law_perm" "_law_perm" (Zw Q4) (Zs Q4) (Z5 Q4) .none kV17 dc17 pm17 an17 cd17 ct17),sl17⟩) (c17:WF K cd17 "_law_perm" = true) (k17:Wy K (.ref f17)=true)
  (a18:WB K Wx "_law_name" = some (some (.ref f18))) (l18:K.lookup f18=some ⟨oc18,od18,.func (WK "_law_name" "_law_name" (Zw YL) (Zs YL) (Z5 YL) .none kV18 dc18 pm18 an18 cd18 ct18),sl18⟩) (c18:WF K cd18 "_law_name" = true) (k18:Wy K (.ref f18)=true)
  (a19:WB K Wx "_law_text" = some (some (.ref f19))) (l19:K.lookup f19=some ⟨oc19,od19,.func (WK "_law_text" "_law_text" (Zw YK) (Zs YK) (Z5 YK) .none kV19 dc19 pm19 an19 cd19 ct19),sl19⟩) (c19:WF K cd19 "_law_text" = true) (k19:Wy K (.ref f19)=true)
  (a20:WB K Wx "_law_same" = some (some (.ref f20))) (l20:K.lookup f20=some ⟨oc20,od20,.func (WK "_law_same" "_law_same" (Zw Q3) (Zs Q3) (Z5 Q3) .none kV20 dc20 pm20 an20 cd20 ct20),sl20⟩) (c20:WF K cd20 "_law_same" = true) (k20:Wy K (.ref f20)=true)
  (a21:Ww K (.ref C_House) "write" = some (some (.ref f21))) (l21:K.lookup f21=some ⟨oc21,od21,.func (WK "write" "House.write" (Zw ZS) (Zs ZS) (Z5 ZS) .none kV21 dc21 pm21 an21 cd21 ct21),sl21⟩) (c21:WF K cd21 "House.write" = true) (k21:Wy K (.ref f21)=true) (e21:Vm K (.ref f21)=true)
  (a22:Ww K (.ref C_House) "rename" = some (some (.ref f22))) (l22:K.lookup f22=some ⟨oc22,od22,.func (WK "rename" "House.rename" (Zw ZJ) (Zs ZJ) (Z5 ZJ) .none kV22 dc22 pm22 an22 cd22 ct22),sl22⟩) (c22:WF K cd22 "House.rename" = true) (k22:Wy K (.ref f22)=true) (e22:Vm K (.ref f22)=true)
  (a23:Ww K (.ref C_House) "text_of" = some (some (.ref f23))) (l23:K.lookup f23=some ⟨oc23,od23,.func (WK "text_of" "House.text_of" (Zw ZC) (Zs ZC) (Z5 ZC) .none kV23 dc23 pm23 an23 cd23 ct23),sl23⟩) (c23:WF K cd23 "House.text_of" = true) (k23:Wy K (.ref f23)=true) (e23:Vm K (.ref f23)=true)
  (a24:WB K Wx "_law_refused" = some (some (.ref f24))) (l24:K.lookup f24=some ⟨oc24,od24,.func (WK "_law_refused" "_law_refused" (Zw Yl) (Zs Yl) (Z5 Yl) .none kV24 dc24 pm24 an24 cd24 ct24),sl24⟩) (c24:WF K cd24 "_law_refused" = true) (k24:Wy K (.ref f24)=true)
  (a25:WB K Wx "_law_bad" = some (some (.ref f25))) (l25:K.lookup f25=some ⟨oc25,od25,.func (WK "_law_bad" "_law_bad" (Zw QS) (Zs QS) (Z5 QS) .none kV25 dc25 pm25 an25 cd25 ct25),sl25⟩) (c25:WF K cd25 "_law_bad" = true) (k25:Wy K (.ref f25)=true)
  (a26:WB K Wx "_law_asks" = some (some (.ref f26))) (l26:K.lookup f26=some ⟨oc26,od26,.func (WK "_law_asks" "_law_asks" (Zw Qk) (Zs Qk) (Z5 Qk) .none kV26 dc26 pm26 an26 cd26 ct26),sl26⟩) (c26:WF K cd26 "_law_asks" = true) (k26:Wy K (.ref f26)=true)
  (a27:WB K Wx "law" = some (some (.ref f27))) (l27:K.lookup f27=some ⟨oc27,od27,.func (WK "law" "law" (Zw Um) (Zs Um) (Z5 Um) .none kV27 dc27 pm27 an27 cd27 ct27),sl27⟩) (c27:WF K cd27 "law" = true) (k27:Wy K (.ref f27)=true)
  (z_all:WB K Wx "all" = some none)
  (z_bool:WB K Wx "bool" = some none)
  (z_dict:WB K Wx "dict" = some none)
  (z_int:WB K Wx "int" = some none)
  (z_isinstance:WB K Wx "isinstance" = some none)
  (z_len:WB K Wx "len" = some none)
  (z_list:WB K Wx "list" = some none)
  (z_max:WB K Wx "max" = some none)
  (z_range:WB K Wx "range" = some none)
  (z_sorted:WB K Wx "sorted" = some none)
  (z_str:WB K Wx "str" = some none)
  (z_tuple:WB K Wx "tuple" = some none)
  (z_zip:WB K Wx "zip" = some none)
  {t_LONGEST_NAME:Tok} (y_LONGEST_NAME:WB K Wx "LONGEST_NAME" = some (some (.int 6 t_LONGEST_NAME)))
  {t_LONGEST_TEXT:Tok} (y_LONGEST_TEXT:WB K Wx "LONGEST_TEXT" = some (some (.int 60 t_LONGEST_TEXT)))
  {X_ShelfError X_NoFile X_NoName X_NoWords:Addr}
  (xg_ShelfError:WB K Wx "ShelfError" = some (some (.ref X_ShelfError)))
  (xg_NoFile:WB K Wx "NoFile" = some (some (.ref X_NoFile)))
  (xg_NoName:WB K Wx "NoName" = some (some (.ref X_NoName)))
  (xg_NoWords:WB K Wx "NoWords" = some (some (.ref X_NoWords)))
  (xs1:W1q K (.builtin "object.__class__") "__get__" = some (some (.builtin "getset_descriptor.__get__")))
  (xs2:PySem.W.takesIn K (.builtin "object.__class__")=some true)
  (xd1:V3 K X_ShelfError=true)
  (xd2:W0H K (.ref X_ShelfError)=some (.type "type"))
  (xd3:V0 K X_ShelfError (.type "BaseException")=some true)
  (xe_NoFile:W09 K X_NoFile bmV "ValueError.__new__" = true)
  (xa_NoFile:Ww K (.ref X_NoFile) "__getattribute__" = some (some (.builtin "BaseException.__getattribute__")))
  (xh_NoFile:Ww K (.ref X_NoFile) "__getattr__" = some none)
  (xi_NoFile:V0 K X_NoFile (.type "BaseException")=some true)
  (xb_NoFile:V3 K X_NoFile=true)
  (xf_NoFile:Ww K (.ref X_NoFile) "__class__" = some (some (.builtin "object.__class__")))
  (xo_NoFile:V0 K X_NoFile (.type "object")=some true)
  (xm_NoFile:V0 K X_NoFile (.ref X_ShelfError)=some true)
  (xk_NoFile_ValueError:WQ K (.ref X_NoFile) (.type "ValueError")=some true)
  (xk_NoFile_NoFile:WQ K (.ref X_NoFile) (.ref X_NoFile)=some true)
  (xk_NoFile_NoName:WQ K (.ref X_NoFile) (.ref X_NoName)=some false)
  (xk_NoFile_NoWords:WQ K (.ref X_NoFile) (.ref X_NoWords)=some false)
  (xe_NoName:W09 K X_NoName bmV "ValueError.__new__" = true)
  (xa_NoName:Ww K (.ref X_NoName) "__getattribute__" = some (some (.builtin "BaseException.__getattribute__")))
  (xh_NoName:Ww K (.ref X_NoName) "__getattr__" = some none)
  (xi_NoName:V0 K X_NoName (.type "BaseException")=some true)
  (xb_NoName:V3 K X_NoName=true)
  (xf_NoName:Ww K (.ref X_NoName) "__class__" = some (some (.builtin "object.__class__")))
  (xo_NoName:V0 K X_NoName (.type "object")=some true)
  (xm_NoName:V0 K X_NoName (.ref X_ShelfError)=some true)
  (xk_NoName_ValueError:WQ K (.ref X_NoName) (.type "ValueError")=some true)
  (xk_NoName_NoFile:WQ K (.ref X_NoName) (.ref X_NoFile)=some false)
  (xk_NoName_NoName:WQ K (.ref X_NoName) (.ref X_NoName)=some true)
  (xk_NoName_NoWords:WQ K (.ref X_NoName) (.ref X_NoWords)=some false)
  (xe_NoWords:W09 K X_NoWords bmV "ValueError.__new__" = true)
  (xa_NoWords:Ww K (.ref X_NoWords) "__getattribute__" = some (some (.builtin "BaseException.__getattribute__")))
  (xh_NoWords:Ww K (.ref X_NoWords) "__getattr__" = some none)
  (xi_NoWords:V0 K X_NoWords (.type "BaseException")=some true)
  (xb_NoWords:V3 K X_NoWords=true)
  (xf_NoWords:Ww K (.ref X_NoWords) "__class__" = some (some (.builtin "object.__class__")))
  (xo_NoWords:V0 K X_NoWords (.type "object")=some true)
  (xm_NoWords:V0 K X_NoWords (.ref X_ShelfError)=some true)
  (xk_NoWords_ValueError:WQ K (.ref X_NoWords) (.type "ValueError")=some true)
  (xk_NoWords_NoFile:WQ K (.ref X_NoWords) (.ref X_NoFile)=some false)
  (xk_NoWords_NoName:WQ K (.ref X_NoWords) (.ref X_NoName)=some false)
  (xk_NoWords_NoWords:WQ K (.ref X_NoWords) (.ref X_NoWords)=some true)
  (z_ValueError:WB K Wx "ValueError" = some none) :
  ∃fd:FuncData,(∀(s:Shared) (v:Value),BindsTo s fd ⟨[v],[]⟩ [("_law_script",v)])/\∀base:Heap,K.In base->base.Ns Wx mg->FnOk l.prog w K mg base CX0 14 fa fd ["_law_script"] (spD K 1 F_law):=by
 have e:=hfa.symm.trans (WG X G a27)
 cases e;have XT:OO K mg "ShelfError" xcs xks:=by
  refine⟨X_ShelfError,⟨xs1,xs2⟩,WG X G xg_ShelfError,xd1,xd2,xd3,λc hc=>?_⟩
  rcases Wr.mp hc with rfl|hc
  ·refine⟨X_NoFile,WG X G xg_NoFile,xe_NoFile,⟨xa_NoFile,xh_NoFile,xi_NoFile,xb_NoFile,xf_NoFile,xo_NoFile⟩,xm_NoFile,λk hk=>?_⟩
   rcases Wr.mp hk with rfl|hk
   ·exact⟨(.ty "ValueError"),.type "ValueError",.inr ⟨_,rfl,rfl⟩,.inr ⟨WU X G z_ValueError,by decide +kernel⟩,by rw [xk_NoFile_ValueError];decide +kernel⟩
   rcases Wr.mp hk with rfl|hk
   ·exact⟨.ref X_NoFile,.ref X_NoFile,.inl ⟨_,rfl,rfl⟩,.inl (WG X G xg_NoFile),by rw [xk_NoFile_NoFile];decide +kernel⟩
   rcases Wr.mp hk with rfl|hk
   ·exact⟨.ref X_NoName,.ref X_NoName,.inl ⟨_,rfl,rfl⟩,.inl (WG X G xg_NoName),by rw [xk_NoFile_NoName];decide +kernel⟩
   rcases Wr.mp hk with rfl|hk
   ·exact⟨.ref X_NoWords,.ref X_NoWords,.inl ⟨_,rfl,rfl⟩,.inl (WG X G xg_NoWords),by rw [xk_NoFile_NoWords];decide +kernel⟩
   cases hk
  rcases Wr.mp hc with rfl|hc
  ·refine⟨X_NoName,WG X G xg_NoName,xe_NoName,⟨xa_NoName,xh_NoName,xi_NoName,xb_NoName,xf_NoName,xo_NoName⟩,xm_NoName,λk hk=>?_⟩
   rcases Wr.mp hk with rfl|hk
   ·exact⟨(.ty "ValueError"),.type "ValueError",.inr ⟨_,rfl,rfl⟩,.inr ⟨WU X G z_ValueError,by decide +kernel⟩,by rw [xk_NoName_ValueError];decide +kernel⟩
   rcases Wr.mp hk with rfl|hk
   ·exact⟨.ref X_NoFile,.ref X_NoFile,.inl ⟨_,rfl,rfl⟩,.inl (WG X G xg_NoFile),by rw [xk_NoName_NoFile];decide +kernel⟩
   rcases Wr.mp hk with rfl|hk
   ·exact⟨.ref X_NoName,.ref X_NoName,.inl ⟨_,rfl,rfl⟩,.inl (WG X G xg_NoName),by rw [xk_NoName_NoName];decide +kernel⟩
   rcases Wr.mp hk with rfl|hk
   ·exact⟨.ref X_NoWords,.ref X_NoWords,.inl ⟨_,rfl,rfl⟩,.inl (WG X G xg_NoWords),by rw [xk_NoName_NoWords];decide +kernel⟩
   cases hk
  rcases Wr.mp hc with rfl|hc
  ·refine⟨X_NoWords,WG X G xg_NoWords,xe_NoWords,⟨xa_NoWords,xh_NoWords,xi_NoWords,xb_NoWords,xf_NoWords,xo_NoWords⟩,xm_NoWords,λk hk=>?_⟩
   rcases Wr.mp hk with rfl|hk
   ·exact⟨(.ty "ValueError"),.type "ValueError",.inr ⟨_,rfl,rfl⟩,.inr ⟨WU X G z_ValueError,by decide +kernel⟩,by rw [xk_NoWords_ValueError];decide +kernel⟩
   rcases Wr.mp hk with rfl|hk
   ·exact⟨.ref X_NoFile,.ref X_NoFile,.inl ⟨_,rfl,rfl⟩,.inl (WG X G xg_NoFile),by rw [xk_NoWords_NoFile];decide +kernel⟩
   rcases Wr.mp hk with rfl|hk
   ·exact⟨.ref X_NoName,.ref X_NoName,.inl ⟨_,rfl,rfl⟩,.inl (WG X G xg_NoName),by rw [xk_NoWords_NoName];decide +kernel⟩
   rcases Wr.mp hk with rfl|hk
   ·exact⟨.ref X_NoWords,.ref X_NoWords,.inl ⟨_,rfl,rfl⟩,.inl (WG X G xg_NoWords),by rw [xk_NoWords_NoWords];decide +kernel⟩
   cases hk
  cases hc
 have T:Txt K mg C_House:=⟨⟨cg_House,⟨ca_House,cb_House,cc_House,ce_House⟩⟩,WG X G cg_House,cn_House_acts,cn_House_files,cn_House_own_number,cn_House_told,XT,WU X G z_all,WU X G z_bool,WU X G z_dict,WU X G z_int,WU X G z_isinstance,WU X G z_len,WU X G z_list,WU X G z_max,WU X G z_range,WU X G z_sorted,WU X G z_str,WU X G z_tuple,WU X G z_zip,⟨_,WG X G y_LONGEST_NAME⟩,⟨_,WG X G y_LONGEST_TEXT⟩⟩
 have Fn0:=Y6 (st:=Y7) l0 c0 k0
 have O_5:OwnI K C_House "House.__init__" Y7 _ _ ["self", "number"]:=⟨Fn0,⟨cm_House,a0,e0,ck_House⟩,Fn0.binds (ps:=["self", "number"]) λ_ _ _ _ _ _ us hl=>match us,hl with|[_,_],_=>rfl⟩
 have Fn1:=Y6 (st:=Y1) l1 c1 k1
 have O_1:OwnM K C_House "count" "House.count" Y1 _ _ ["self"]:=⟨Fn1,⟨a1,e1,k1⟩,Fn1.binds (ps:=["self"]) λ_ _ _ _ _ _ us hl=>match us,hl with|[_],_=>rfl⟩
 have Fn2:=Y6 (st:=Zk) l2 c2 k2
 have O_21:Own K mg "has_signs_between" Zk _ _ ["text", "least", "greatest"]:=⟨Fn2,WG X G a2,Fn2.binds (ps:=["text", "least", "greatest"]) λ_ _ _ _ _ _ us hl=>match us,hl with|[_,_,_],_=>rfl⟩
 have Fn3:=Y6 (st:=YB) l3 c3 k3
 have O_23:Own K mg "is_name" YB _ _ ["thing"]:=⟨Fn3,WG X G a3,Fn3.binds (ps:=["thing"]) λ_ _ _ _ _ _ us hl=>match us,hl with|[_],_=>rfl⟩
 have Fn4:=Y6 (st:=Zn) l4 c4 k4
 have O_26:Own K mg "refuse_no_name" Zn _ _ ["thing"]:=⟨Fn4,WG X G a4,Fn4.binds (ps:=["thing"]) λ_ _ _ _ _ _ us hl=>match us,hl with|[_],_=>rfl⟩
 have Fn5:=Y6 (st:=YA) l5 c5 k5
 have O_24:Own K mg "is_text" YA _ _ ["thing"]:=⟨Fn5,WG X G a5,Fn5.binds (ps:=["thing"]) λ_ _ _ _ _ _ us hl=>match us,hl with|[_],_=>rfl⟩
 have Fn6:=Y6 (st:=Zm) l6 c6 k6
 have O_27:Own K mg "refuse_no_text" Zm _ _ ["thing"]:=⟨Fn6,WG X G a6,Fn6.binds (ps:=["thing"]) λ_ _ _ _ _ _ us hl=>match us,hl with|[_],_=>rfl⟩
 have Fn7:=Y6 (st:=Zd) l7 c7 k7
 have O_7:OwnM K C_House "next_mark" "House.next_mark" Zd _ _ ["self"]:=⟨Fn7,⟨a7,e7,k7⟩,Fn7.binds (ps:=["self"]) λ_ _ _ _ _ _ us hl=>match us,hl with|[_],_=>rfl⟩
 have Fn8:=Y6 (st:=ZT) l8 c8 k8
 have O_6:OwnM K C_House "make" "House.make" ZT _ _ ["self", "name", "text"]:=⟨Fn8,⟨a8,e8,k8⟩,Fn8.binds (ps:=["self", "name", "text"]) λ_ _ _ _ _ _ us hl=>match us,hl with|[_,_,_],_=>rfl⟩
 have Fn9:=Y6 (st:=ZG) l9 c9 k9
 have O_20:Own K mg "greater_counts" ZG _ _ ["known", "other"]:=⟨Fn9,WG X G a9,Fn9.binds (ps:=["known", "other"]) λ_ _ _ _ _ _ us hl=>match us,hl with|[_,_],_=>rfl⟩
 have Fn10:=Y6 (st:=Zr) l10 c10 k10
 have O_0:OwnM K C_House "change" "House.change" Zr _ _ ["self", "file", "mark", "names", "texts"]:=⟨Fn10,⟨a10,e10,k10⟩,Fn10.binds (ps:=["self", "file", "mark", "names", "texts"]) λ_ _ _ _ _ _ us hl=>match us,hl with|[_,_,_,_,_],_=>rfl⟩
 have Fn11:=Y6 (st:=YC) l11 c11 k11
 have O_22:Own K mg "is_gone" YC _ _ ["file"]:=⟨Fn11,WG X G a11,Fn11.binds (ps:=["file"]) λ_ _ _ _ _ _ us hl=>match us,hl with|[_],_=>rfl⟩
 have Fn12:=Y6 (st:=ZH) l12 c12 k12
 have O_3:OwnM K C_House "file" "House.file" ZH _ _ ["self", "which"]:=⟨Fn12,⟨a12,e12,k12⟩,Fn12.binds (ps:=["self", "which"]) λ_ _ _ _ _ _ us hl=>match us,hl with|[_,_],_=>rfl⟩
 have Fn13:=Y6 (st:=Z8) l13 c13 k13
 have O_4:OwnM K C_House "file_on_shelf" "House.file_on_shelf" Z8 _ _ ["self", "which"]:=⟨Fn13,⟨a13,e13,k13⟩,Fn13.binds (ps:=["self", "which"]) λ_ _ _ _ _ _ us hl=>match us,hl with|[_,_],_=>rfl⟩
 have Fn14:=Y6 (st:=ZU) l14 c14 k14
 have O_2:OwnM K C_House "drop" "House.drop" ZU _ _ ["self", "which"]:=⟨Fn14,⟨a14,e14,k14⟩,Fn14.binds (ps:=["self", "which"]) λ_ _ _ _ _ _ us hl=>match us,hl with|[_,_],_=>rfl⟩
 have Fn15:=Y6 (st:=Qj) l15 c15 k15
 have O_13:Own K mg "_law_cell" Qj _ _ ["_law_script", "_law_k"]:=⟨Fn15,WG X G a15,Fn15.binds (ps:=["_law_script", "_law_k"]) λ_ _ _ _ _ _ us hl=>match us,hl with|[_,_],_=>rfl⟩
 have Fn16:=Y6 (st:=YY) l16 c16 k16
 have O_14:Own K mg "_law_mix" YY _ _ ["_law_cell_here", "_law_prime", "_law_many"]:=⟨Fn16,WG X G a16,Fn16.binds (ps:=["_law_cell_here", "_law_prime", "_law_many"]) λ_ _ _ _ _ _ us hl=>match us,hl with|[_,_,_],_=>rfl⟩
 have Fn17:=Y6 (st:=Q4) l17 c17 k17
 have O_16:Own K mg "_law_perm" Q4 _ _ ["_law_cell_here", "_law_many"]:=⟨Fn17,WG X G a17,Fn17.binds (ps:=["_law_cell_here", "_law_many"]) λ_ _ _ _ _ _ us hl=>match us,hl with|[_,_],_=>rfl⟩
 have Fn18:=Y6 (st:=YL) l18 c18 k18
 have O_15:Own K mg "_law_name" YL _ _ ["_law_cell_here"]:=⟨Fn18,WG X G a18,Fn18.binds (ps:=["_law_cell_here"]) λ_ _ _ _ _ _ us hl=>match us,hl with|[_],_=>rfl⟩
 have Fn19:=Y6 (st:=YK) l19 c19 k19
 have O_19:Own K mg "_law_text" YK _ _ ["_law_cell_here"]:=⟨Fn19,WG X G a19,Fn19.binds (ps:=["_law_cell_here"]) λ_ _ _ _ _ _ us hl=>match us,hl with|[_],_=>rfl⟩
 have Fn20:=Y6 (st:=Q3) l20 c20 k20
 have O_18:Own K mg "_law_same" Q3 _ _ ["_law_found", "_law_due"]:=⟨Fn20,WG X G a20,Fn20.binds (ps:=["_law_found", "_law_due"]) λ_ _ _ _ _ _ us hl=>match us,hl with|[_,_],_=>rfl⟩
 have Fn21:=Y6 (st:=ZS) l21 c21 k21
 have O_10:OwnM K C_House "write" "House.write" ZS _ _ ["self", "which", "text"]:=⟨Fn21,⟨a21,e21,k21⟩,Fn21.binds (ps:=["self", "which", "text"]) λ_ _ _ _ _ _ us hl=>match us,hl with|[_,_,_],_=>rfl⟩
 have Fn22:=Y6 (st:=ZJ) l22 c22 k22
 have O_8:OwnM K C_House "rename" "House.rename" ZJ _ _ ["self", "which", "name"]:=⟨Fn22,⟨a22,e22,k22⟩,Fn22.binds (ps:=["self", "which", "name"]) λ_ _ _ _ _ _ us hl=>match us,hl with|[_,_,_],_=>rfl⟩
 have Fn23:=Y6 (st:=ZC) l23 c23 k23
 have O_9:OwnM K C_House "text_of" "House.text_of" ZC _ _ ["self", "which"]:=⟨Fn23,⟨a23,e23,k23⟩,Fn23.binds (ps:=["self", "which"]) λ_ _ _ _ _ _ us hl=>match us,hl with|[_,_],_=>rfl⟩
 have Fn24:=Y6 (st:=Yl) l24 c24 k24
 have O_17:Own K mg "_law_refused" Yl _ _ ["_law_house", "_law_deed", "_law_which", "_law_name_here", "_law_text_here"]:=⟨Fn24,WG X G a24,Fn24.binds (ps:=["_law_house", "_law_deed", "_law_which", "_law_name_here", "_law_text_here"]) λ_ _ _ _ _ _ us hl=>match us,hl with|[_,_,_,_,_],_=>rfl⟩
 have Fn25:=Y6 (st:=QS) l25 c25 k25
 have O_12:Own K mg "_law_bad" QS _ _ ["_law_cell_here", "_law_kind"]:=⟨Fn25,WG X G a25,Fn25.binds (ps:=["_law_cell_here", "_law_kind"]) λ_ _ _ _ _ _ us hl=>match us,hl with|[_,_],_=>rfl⟩
 have Fn26:=Y6 (st:=Qk) l26 c26 k26
 have O_11:Own K mg "_law_asks" Qk _ _ ["_law_cell_here", "_law_live", "_law_gone", "_law_strange"]:=⟨Fn26,WG X G a26,Fn26.binds (ps:=["_law_cell_here", "_law_live", "_law_gone", "_law_strange"]) λ_ _ _ _ _ _ us hl=>match us,hl with|[_,_,_,_],_=>rfl⟩
 have Fn27:=Y6 (st:=Um) l27 c27 k27
 have O_25:Own K mg "law" Um _ _ ["_law_script"]:=⟨Fn27,WG X G a27,Fn27.binds (ps:=["_law_script"]) λ_ _ _ _ _ _ us hl=>match us,hl with|[_],_=>rfl⟩
 refine⟨WK "law" "law" (Zw Um) (Zs Um) (Z5 Um) .none kV27 dc27 pm27 an27 cd27 ct27,λs v=>.of_eq rfl,λbase _ _=>?_⟩
 have G_5:=Z1h (P:=l.prog) (w:=w) (base:=base) T O_5
 have G_1:=Z1l (P:=l.prog) (w:=w) (base:=base) T O_1
 have G_21:=XI (P:=l.prog) (w:=w) (base:=base) T O_21
 have G_23:=XG (P:=l.prog) (w:=w) (base:=base) T O_23 O_21 G_21
 have G_26:=XC (P:=l.prog) (w:=w) (base:=base) T O_26 O_23 G_23
 have X_refuse_no_name:=Jy (P:=l.prog) (w:=w) (base:=base) T O_26 O_23 G_23
 have G_24:=XF (P:=l.prog) (w:=w) (base:=base) T O_24 O_21 G_21
 have G_27:=XA (P:=l.prog) (w:=w) (base:=base) T O_27 O_24 G_24
 have X_refuse_no_text:=Jx (P:=l.prog) (w:=w) (base:=base) T O_27 O_24 G_24
 have G_7:=Z1f (P:=l.prog) (w:=w) (base:=base) T O_7
 have G_6:=Z1g (P:=l.prog) (w:=w) (base:=base) T O_6 O_26 G_26 O_27 G_27 O_7 G_7
 have X_House_make:=Th (P:=l.prog) (w:=w) (base:=base) T O_6 O_26 G_26 O_27 G_27 O_7 G_7 X_refuse_no_name X_refuse_no_text
 have G_20:=XJ (P:=l.prog) (w:=w) (base:=base) T O_20
 have G_0:=Z1m (P:=l.prog) (w:=w) (base:=base) T O_0 O_20 G_20
 have G_22:=XH (P:=l.prog) (w:=w) (base:=base) T O_22
 have G_3:=Z1j (P:=l.prog) (w:=w) (base:=base) T O_3
 have X_House_file:=Ti (P:=l.prog) (w:=w) (base:=base) T O_3
 have G_4:=Z1i (P:=l.prog) (w:=w) (base:=base) T O_4 O_22 G_22 O_3 G_3
 have X_House_file_on_shelf:=QE (P:=l.prog) (w:=w) (base:=base) T O_4 O_22 G_22 O_3 G_3 X_House_file
 have G_2:=Z1k (P:=l.prog) (w:=w) (base:=base) T O_2 O_7 G_7 O_0 G_0 O_4 G_4
 have X_House_drop:=Tj (P:=l.prog) (w:=w) (base:=base) T O_2 O_7 G_7 O_0 G_0 O_4 G_4 X_House_file_on_shelf
 have G_13:=XU (P:=l.prog) (w:=w) (base:=base) T O_13
 have G_14:=XQ (P:=l.prog) (w:=w) (base:=base) T O_14
 have G_16:=XN (P:=l.prog) (w:=w) (base:=base) T O_16 O_14 G_14
 have G_15:=XO (P:=l.prog) (w:=w) (base:=base) T O_15 O_14 G_14
 have G_19:=XL (P:=l.prog) (w:=w) (base:=base) T O_19 O_14 G_14
 have G_18:=IL (P:=l.prog) (w:=w) (base:=base) T O_18 12
 have G_10:=XY (P:=l.prog) (w:=w) (base:=base) T O_10 O_27 G_27 O_7 G_7 O_0 G_0 O_4 G_4
 have X_House_write:=UO (P:=l.prog) (w:=w) (base:=base) T O_10 O_27 G_27 O_7 G_7 O_0 G_0 O_4 G_4 X_refuse_no_text X_House_file_on_shelf
 have G_8:=Z1e (P:=l.prog) (w:=w) (base:=base) T O_8 O_26 G_26 O_7 G_7 O_0 G_0 O_4 G_4
 have X_House_rename:=Uo (P:=l.prog) (w:=w) (base:=base) T O_8 O_26 G_26 O_7 G_7 O_0 G_0 O_4 G_4 X_refuse_no_name X_House_file_on_shelf
 have G_9:=Z1d (P:=l.prog) (w:=w) (base:=base) T O_9 O_4 G_4
 have X_House_text_of:=JW (P:=l.prog) (w:=w) (base:=base) T O_9 O_4 G_4 X_House_file_on_shelf
 have G_17:=XM (P:=l.prog) (w:=w) (base:=base) T O_17 O_6 G_6 O_10 G_10 O_8 G_8 O_2 G_2 O_3 G_3 O_9 G_9 X_House_make X_House_write X_House_rename X_House_drop X_House_file X_House_text_of
 have G_12:=XV (P:=l.prog) (w:=w) (base:=base) T O_12 O_14 G_14
 have G_11:=XW (P:=l.prog) (w:=w) (base:=base) T O_11 O_15 G_15 O_19 G_19 O_12 G_12
 exact XD T O_25 O_5 G_5 O_1 G_1 O_6 G_6 O_2 G_2 O_3 G_3 O_13 G_13 O_14 G_14 O_16 G_16 O_15 G_15 O_19 G_19 O_18 G_18 O_17 G_17 O_11 G_11
end K08
namespace DL
open PySem L2
theorem Lw {a:M D}{en:En}{S S1:Sto}{n:Nat}{kvs:List (D×D)}(h1:a en S=some (.ref n,S1))(h3:S1[n]? = some (.dct kvs))(ok:DI kvs=true):Tv a en S=some (JO (Lf (kvs.map (·.1)) (kvs.map (·.2))),S1):=by
 unfold Tv;rw [h1,WD];dsimp only;rw [h3];dsimp only;rw [if_pos ok]
theorem C8 {l L:List D}(hc:Qf 30 l)(hp:l.Perm L)(hs:L.Pairwise leD):JO l=L:=GY hc ((Qw l).trans hp) (Jl hc λ_ h=>h) hs λa ha=>(Qw l).mem_iff.mp ha
end DL
namespace K08
open PySem L2 DL
theorem Qx {c p m:Int}{S:Sto}(hp:0<p)(hm:0<m):ZZ [.int c,.int p,.int m] S=some (.int (c*48271%p%m),S):=by
 unfold ZZ;simp only [EVS,W8,W9,We,W5,Wg,Wh,Wa,Wb,W7,↓reduceIte,reduceCtorEq,W1,Wc,W6,DQ,Jj,hp,hm]
theorem PU (ns:List Int)(k:Nat):∃c:Int,∀S,ZL [.scr ns,.int k] S=some (.int c,S):=by
 by_cases h:k<ns.length
 ·refine⟨ns[k],λS=>?_⟩
  unfold ZL;simp only [EVS,W8,W9,We,W5,Wg,Wh,Wa,Wb,W7,↓reduceIte,reduceCtorEq,W1,Wc,W6,Dh,A9,Int.ofNat_lt,h,gIx,GM (Wl h)]
 ·refine⟨0,λS=>?_⟩
  unfold ZL;simp only [EVS,W8,W9,We,W5,Wg,Wh,Wa,Wb,W7,↓reduceIte,reduceCtorEq,W1,Wc,W6,Dh,A9,Int.ofNat_lt,h]
def btw (lo hi:Nat)(x:Str):Bool:=(cs x).all λc=>decide (lo<=c)&&decide (c<=hi)
theorem D3 (a b:Nat)(S:Sto):gLe (.str ⟨#[a]⟩) (.str ⟨#[b]⟩) S=some (.bl (decide (a<=b)),S):=by
 rw [Z07];have:(!decide ((⟨#[b]⟩:Str).cps.toList<(⟨#[a]⟩:Str).cps.toList))=decide (a<=b):=by
  have h:((⟨#[b]⟩:Str).cps.toList<(⟨#[a]⟩:Str).cps.toList)↔b<a:=IW b a
  by_cases hb:b<a
  ·rw [decide_eq_true (h.mpr hb),decide_eq_false (by omega)];rfl
  ·rw [decide_eq_false (λz=>hb (h.mp z)),decide_eq_true (by omega)];rfl
 rw [this]
theorem KW {x:Str}{lo hi:Nat}{S:Sto}(hx:x.length<=Wd):ZB [.str x,.str ⟨#[lo]⟩,.str ⟨#[hi]⟩] S=some (.bl (btw lo hi x),S):=by
 unfold ZB;simp only [EVS,W8,W9,We,W5,Wg,Wh,Wa,Wb,W7,↓reduceIte,reduceCtorEq,W1,Wc,W6]
 rw [UC (cs x) (λc=>D.str ⟨#[c]⟩) (λc=>D.bl (decide (lo<=c)&&decide (c<=hi))) T2 (by rw [<-QN];exact hx) λc hc=>⟨_,rfl,?_⟩]
 ·have e:(cs x).map (λc=>D.bl (decide (lo<=c)&&decide (c<=hi)))=((cs x).map λc=>(decide (lo<=c)&&decide (c<=hi))).map D.bl:=by rw [VE];rfl
  rw [e,Do];simp only [EVS,W8,W9,We,W5,Wg,Wh,Wa,Wb,W7,↓reduceIte,reduceCtorEq,W1,Wc,W6,btw,W1f]
  rfl
 ·simp only [YS,EVS,W8,W9,We,W5,Wg,Wh,Wa,Wb,W7,↓reduceIte,reduceCtorEq,W1,Wc,W6,D3]
  by_cases h:lo<=c<;>simp [h]
theorem oa:(W0 "a")=⟨#[97]⟩:=by decide +kernel
theorem oz:(W0 "z")=⟨#[122]⟩:=by decide +kernel
theorem obl:(W0 " ")=⟨#[32]⟩:=by decide +kernel
theorem oti:(W0 "~")=⟨#[126]⟩:=by decide +kernel
def BC (x:Str):Bool:=decide (1<=(cs x).length)&&(decide ((cs x).length<=6)&&btw 97 122 x)
def T0 (x:Str):Bool:=decide ((cs x).length<=60)&&btw 32 126 x
theorem QI (x:Str)(S:Sto):Ed "str" (some (.str x,S))=some (.bl true,S):=rfl
theorem Nh {x:Str}{S:Sto}(hx:x.length<=Wd):ZE [.str x] S=some (.bl (BC x),S):=by
 unfold ZE BC;rw [QN] at hx;by_cases h1:1<=(cs x).length
 ·have i1:(1:Int)<=((cs x).length:Int):=by omega
  by_cases h2:(cs x).length<=6
  ·have i2:((cs x).length:Int)<=6:=by omega
   simp only [EVS,W8,W9,We,W5,Wg,Wh,Wa,Wb,W7,↓reduceIte,reduceCtorEq,W1,Wc,W6,QI,Tw,QN,hx,oa,oz,KW,h1,h2,i1,i2,W0X]
  ·have i2:¬((cs x).length:Int)<=6:=by omega
   simp only [EVS,W8,W9,We,W5,Wg,Wh,Wa,Wb,W7,↓reduceIte,reduceCtorEq,W1,Wc,W6,QI,Tw,QN,hx,oa,oz,KW,h1,h2,i1,i2,W0X,W1h]
 ·have i1:¬(1:Int)<=((cs x).length:Int):=by omega
  simp only [EVS,W8,W9,We,W5,Wg,Wh,Wa,Wb,W7,↓reduceIte,reduceCtorEq,W1,Wc,W6,QI,Tw,QN,hx,oa,oz,KW,h1,i1,W0X,W1h]
theorem BY {x:Str}{S:Sto}(hx:x.length<=Wd):ZR [.str x] S=some (.bl (T0 x),S):=by
 unfold ZR T0;rw [QN] at hx;by_cases h2:(cs x).length<=60
 ·have i2:((cs x).length:Int)<=60:=by omega
  simp only [EVS,W8,W9,We,W5,Wg,Wh,Wa,Wb,W7,↓reduceIte,reduceCtorEq,W1,Wc,W6,QI,Tw,QN,hx,obl,oti,KW,h2,i2,W0X]
 ·have i2:¬((cs x).length:Int)<=60:=by omega
  simp only [EVS,W8,W9,We,W5,Wg,Wh,Wa,Wb,W7,↓reduceIte,reduceCtorEq,W1,Wc,W6,QI,Tw,QN,hx,obl,oti,KW,h2,i2,W0X,W1h]
theorem ixS {z:Str}{i:Int}{S:Sto}(hz:z.length<=Wd)(h0:0<=i)(h1:i<(cs z).length):gIx (.str z) (.int i) S=some (.str ⟨#[(cs z).getD i.toNat 0]⟩,S):=by
 obtain⟨a,ha,e1,e2⟩:=OB (xs:=cs z) h0 h1
 show (if z.length<=Wd then (atI (cs z) i).map λc=>(D.str ⟨#[c]⟩,S) else none)=_
 rw [if_pos hz,e2];have:(cs z).getD i.toNat 0=a:=by simp [W0z,e1]
 rw [this];rfl
def Lg (z:Str)(c p:Int)(k:Nat):Nat:=(cs z).getD ((c+7*(k:Int))*48271%p%((cs z).length:Int)).toNat 0
theorem Gf {z:Str}{c p:Int}{k:Nat}(hz:0<(cs z).length):Lg z c p k∈cs z:=by
 unfold Lg;have h0:=Vr ((c+7*(k:Int))*48271%p) (b:=((cs z).length:Int)) (by omega)
 have h1:=Vd ((c+7*(k:Int))*48271%p) (b:=((cs z).length:Int)) (by omega)
 have hj:((c+7*(k:Int))*48271%p%((cs z).length:Int)).toNat<(cs z).length:=by omega
 rw [Vh,Wl hj];exact VL hj
theorem QT {z:Str}{c p:Int}{n:Nat}{S:Sto}(hz:0<(cs z).length)(hz2:(cs z).length<=Wd)(hp:0<p)(hn:n<=1000) :
  P8 (W0 "") (Yt (Td 0 n) .no [none,some (.int c),some (.str z)] (gN 0) QW (mOp gIx (Z3 2) (ZM ZZ (Z1 (mOp Jp (Z3 1) (mOp BU (Zf (D.int (7))) (Z3 0))) (Z1 (Zf (D.int p)) (Z1 (K1 (Z3 2)) Zg))))) (Td 0 n) [] S)
   = some (.str ⟨((WE n).map (Lg z c p)).toArray⟩,S):=by
 have hl:n<=Wd:=VA hn (by decide)
 have hs:z.length<=Wd:=by rw [QN];exact hz2
 rw [G1,UC (WE n) (λk=>D.int (k:Nat)) (λk=>D.str ⟨#[Lg z c p k]⟩) T2 (by simpa using hl) λk hk=>⟨_,rfl,?_⟩]
 ·have e:(WE n).map (λk=>D.str ⟨#[Lg z c p k]⟩)=((WE n).map λk=>(⟨#[Lg z c p k]⟩:Str)).map D.str:=by rw [VE];rfl
  have hsum:∀(l:List Nat),((l.map λk=>(⟨#[Lg z c p k]⟩:Str)).map (·.length)).sum=l.length:=by
   intro l
   induction l with
   |nil=>rfl
   |cons a l ih=>rw [W1,W1,List.sum_cons,ih,WP];show 1+_=_;omega
  have he:(W0 "").length=0:=by decide +kernel
  rw [e,Hf (by rw [hsum,he];simp;omega)]
  congr 2
  congr 1
  apply C7
  rw [GI,NH]
  generalize WE n=l
  induction l with
  |nil=>rfl
  |cons a l ih=>rw [W1,List.flatMap_cons,ih];rfl
 ·have h0:=Vr ((c+7*(k:Int))*48271%p) (b:=((cs z).length:Int)) (by omega)
  have h1:=Vd ((c+7*(k:Int))*48271%p) (b:=((cs z).length:Int)) (by omega)
  have hz':(0:Int)<((cs z).length:Int):=by omega
  simp only [EVS,W8,W9,We,W5,Wg,Wh,Wa,Wb,W7,↓reduceIte,reduceCtorEq,W1,Wc,W6,El,Tw,QN,hz2,Qx,hp,hz']
  rw [ixS hs h0 h1];rfl
theorem Rx (c:Int):∃x,(1<=(cs x).length/\(cs x).length<=6)/\(∀ch∈cs x,97<=ch/\ch<=122)/\∀S,Qo [.int c] S=some (.str x,S):=by
 have ha:cs (W0 "abcdefghijklmnopqrstuvwxyz")=(WE 26).map (· + 97):=by decide +kernel
 have hab:cs (W0 "ab")=[97,98]:=by decide +kernel
 have m0:=Vr (c*48271%9973) (b:=6) (by decide)
 have m1:=Vd (c*48271%9973) (b:=6) (by decide)
 by_cases h3:c%3=0
 ·have n0:=Vr (1+c*48271%9973%6) (b:=2) (by decide)
  have n1:=Vd (1+c*48271%9973%6) (b:=2) (by decide)
  generalize hn:1+(1+c*48271%9973%6)%2=n at *
  refine⟨⟨((WE n.toNat).map (Lg (W0 "ab") c 9967)).toArray⟩,?_,?_,λS=>?_⟩
  ·rw [NH];simp;omega
  ·rw [NH]
   intro ch hch;obtain⟨k,_,rfl⟩:=Vi.mp hch
   have:=Gf (z:=W0 "ab") (c:=c) (p:=9967) (k:=k) (by rw [hab];decide)
   rw [hab] at this;simp at this
   omega
  ·unfold Qo
   have hr : -(2 ^ 62)<=n/\n<2 ^ 62:=by omega
   simp only [EVS,W8,W9,We,W5,Wg,Wh,Wa,Wb,W7,↓reduceIte,reduceCtorEq,W1,Wc,W6,Qx,Jj,h3,hn,Nx hr,U5]
   rw [QT (by rw [hab];decide) (by rw [hab];decide) (by decide) (by omega)]
   simp only [EVS,W8,W9,We,W5,Wg,Wh,Wa,Wb,W7,↓reduceIte,reduceCtorEq,W1,Wc,W6]
 ·generalize hn:1+c*48271%9973%6=n at *
  refine⟨⟨((WE n.toNat).map (Lg (W0 "abcdefghijklmnopqrstuvwxyz") c 9967)).toArray⟩,?_,?_,λS=>?_⟩
  ·rw [NH];simp;omega
  ·rw [NH]
   intro ch hch;obtain⟨k,_,rfl⟩:=Vi.mp hch
   have:=Gf (z:=W0 "abcdefghijklmnopqrstuvwxyz") (c:=c) (p:=9967) (k:=k) (by rw [ha];decide)
   rw [ha] at this;simp at this
   omega
  ·unfold Qo
   have hr : -(2 ^ 62)<=n/\n<2 ^ 62:=by omega
   simp only [EVS,W8,W9,We,W5,Wg,Wh,Wa,Wb,W7,↓reduceIte,reduceCtorEq,W1,Wc,W6,Qx,Jj,h3,hn,Nx hr,U5]
   rw [QT (by rw [ha];decide) (by rw [ha];decide) (by decide) (by omega)]
   simp only [EVS,W8,W9,We,W5,Wg,Wh,Wa,Wb,W7,↓reduceIte,reduceCtorEq,W1,Wc,W6]
theorem text_of (c:Int):∃x,(cs x).length<=60/\(∀ch∈cs x,32<=ch/\ch<=126)/\∀S,Yq [.int c] S=some (.str x,S):=by
 generalize hz : W0 " !\"#$&'()*+,-./0123456789:;<=>?\x40ABCDEFGHIJKLMNOPQRSTUVWXYZ[\\]^_`abcdefghijklmnopqrstuvwxyz{|}~" = z
 have hz1:(cs z).length=94:=by rw [<-hz];decide +kernel
 have hz2:∀ch∈cs z,32<=ch/\ch<=126:=by rw [<-hz];decide +kernel
 by_cases h4:c%4=0
 ·have m0:=Vr (c*48271%9929) (b:=3) (by decide)
  have m1:=Vd (c*48271%9929) (b:=3) (by decide)
  have key:∀x,(cs x).length<=60->(∀ch∈cs x,32<=ch/\ch<=126)->(∀S,gIx (.tup [.str (W0 ""),.str (W0 "a"),.str (W0 "hi;")]) (.int (c*48271%9929%3)) S=some (.str x,S))->
    ∃x,(cs x).length<=60/\(∀ch∈cs x,32<=ch/\ch<=126)/\∀S,Yq [.int c] S=some (.str x,S):=by
   intro x h1 h2 h3;refine⟨x,h1,h2,λS=>?_⟩
   unfold Yq;by_cases g0:c*48271%9941%9=0
   ·simp only [EVS,W8,W9,We,W5,Wg,Wh,Wa,Wb,W7,↓reduceIte,reduceCtorEq,W1,Wc,W6,Qx,Jj,h4,g0,Je (show [D.str (W0 ""),.str (W0 "a"),.str (W0 "hi;")].length<=Wd by decide),h3,Int.reduceEq]
   ·by_cases g1:c*48271%9941%9=1
    ·simp only [EVS,W8,W9,We,W5,Wg,Wh,Wa,Wb,W7,↓reduceIte,reduceCtorEq,W1,Wc,W6,Qx,Jj,h4,g1,Je (show [D.str (W0 ""),.str (W0 "a"),.str (W0 "hi;")].length<=Wd by decide),h3,Int.reduceEq]
    ·simp only [EVS,W8,W9,We,W5,Wg,Wh,Wa,Wb,W7,↓reduceIte,reduceCtorEq,W1,Wc,W6,Qx,Jj,h4,g0,g1,Je (show [D.str (W0 ""),.str (W0 "a"),.str (W0 "hi;")].length<=Wd by decide),h3,Int.reduceEq]
  have h012:c*48271%9929%3=0\/c*48271%9929%3=1\/c*48271%9929%3=2:=by omega
  rcases h012 with h|h|h
  ·exact key (W0 "") (by decide +kernel) (by decide +kernel) (λS=>by rw [h];simp only [Pq,Pp,Po])
  ·exact key (W0 "a") (by decide +kernel) (by decide +kernel) (λS=>by rw [h];simp only [Pq,Pp,Po])
  ·exact key (W0 "hi;") (by decide +kernel) (by decide +kernel) (λS=>by rw [h];simp only [Pq,Pp,Po])
 ·have key:∀n:Int,0<=n->n<=60->(∀S,Yq [.int c] S=some (.str ⟨((WE n.toNat).map (Lg z c 9923)).toArray⟩,S))->
    ∃x,(cs x).length<=60/\(∀ch∈cs x,32<=ch/\ch<=126)/\∀S,Yq [.int c] S=some (.str x,S):=by
   intro n h0 h1 h2;refine⟨_,?_,?_,h2⟩
   ·rw [NH];simp;omega
   ·rw [NH]
    intro ch hch;obtain⟨k,_,rfl⟩:=Vi.mp hch
    exact hz2 _ (Gf (by omega))
  have m0:=Vr (c*48271%9949) (b:=5) (by decide)
  have m1:=Vd (c*48271%9949) (b:=5) (by decide)
  have n0:=Vr (c*48271%9931) (b:=61) (by decide)
  have n1:=Vd (c*48271%9931) (b:=61) (by decide)
  by_cases g0:c*48271%9941%9=0
  ·refine key 60 (by decide) (by decide) λS=>?_
   unfold Yq;simp only [EVS,W8,W9,We,W5,Wg,Wh,Wa,Wb,W7,↓reduceIte,reduceCtorEq,W1,Wc,W6,Qx,Jj,h4,g0,hz,Ja,Nx (show -(2 ^ 62)<=(60:Int)/\(60:Int)<2 ^ 62 by decide),Int.reduceEq]
   rw [QT (by omega) (by rw [hz1];decide) (by decide) (by decide)]
   simp only [EVS,W8,W9,We,W5,Wg,Wh,Wa,Wb,W7,↓reduceIte,reduceCtorEq,W1,Wc,W6]
  ·by_cases g1:c*48271%9941%9=1
   ·refine key (c*48271%9931%61) n0 (by omega) λS=>?_
    unfold Yq;simp only [EVS,W8,W9,We,W5,Wg,Wh,Wa,Wb,W7,↓reduceIte,reduceCtorEq,W1,Wc,W6,Qx,Jj,h4,g1,hz,Ja,Nx (show -(2 ^ 62)<=c*48271%9931%61/\c*48271%9931%61<2 ^ 62 by omega),Int.reduceEq]
    rw [QT (by omega) (by rw [hz1];decide) (by decide) (by omega)]
    simp only [EVS,W8,W9,We,W5,Wg,Wh,Wa,Wb,W7,↓reduceIte,reduceCtorEq,W1,Wc,W6]
   ·refine key (c*48271%9949%5) m0 (by omega) λS=>?_
    unfold Yq;simp only [EVS,W8,W9,We,W5,Wg,Wh,Wa,Wb,W7,↓reduceIte,reduceCtorEq,W1,Wc,W6,Qx,Jj,h4,g0,g1,hz,Ja,Nx (show -(2 ^ 62)<=c*48271%9949%5/\c*48271%9949%5<2 ^ 62 by omega),Int.reduceEq]
    rw [QT (by omega) (by rw [hz1];decide) (by decide) (by omega)]
    simp only [EVS,W8,W9,We,W5,Wg,Wh,Wa,Wb,W7,↓reduceIte,reduceCtorEq,W1,Wc,W6]
theorem IY:1000<=Wd:=by decide
theorem K7 {x:Str}(h:T0 x=true):x.length<=Wd:=by
 unfold T0 at h;rw [Ws,decide_eq_true_eq] at h;rw [QN];exact VA h.1 (by decide)
theorem Gj {d:D}{S:Sto}{T:String}(h:tyD d S=some T)(hT:UY T "str" = false):ZE [d] S=some (.bl false,S):=by
 unfold ZE;simp only [EVS,W8,W9,We,W5,Wg,Wh,Wa,Wb,W7,↓reduceIte,reduceCtorEq,W1,Wc,W6,Di,h,hT]
theorem JX {d:D}{S:Sto}{T:String}(h:tyD d S=some T)(hT:UY T "str" = false):ZR [d] S=some (.bl false,S):=by
 unfold ZR;simp only [EVS,W8,W9,We,W5,Wg,Wh,Wa,Wb,W7,↓reduceIte,reduceCtorEq,W1,Wc,W6,Di,h,hT]
theorem UZ {x:Str}(h1:(cs x).length<=60)(h2:∀ch∈cs x,32<=ch/\ch<=126):T0 x=true:=by
 unfold T0 btw;rw [Ws,decide_eq_true_eq,WN];exact⟨h1,λch hc=>by have:=h2 ch hc;simp;omega⟩
abbrev Mk:=Int×Int
def enc (p:Mk):D:=.tup [.int p.1,.int p.2]
def QL (p:Mk):D×D:=(.int p.1,.int p.2)
theorem Hd (n:Nat)(ms:List Mk):To n (D.tup (ms.map enc))=true:=by
 unfold To
 induction ms with
 |nil=>unfold lowDs;rfl
 |cons p ms ih=>
  rw [W1];unfold lowDs;rw [ih,Bool.and_true];unfold enc To lowDs To lowDs To lowDs;rfl
theorem Rp (ms:List Mk):Jv (ms.map enc)=some (ms.map QL):=by
 induction ms with
 |nil=>rfl
 |cons p ms ih=>
  rw [W1,W1];show (if (QB (D.int p.1)).isSome=true then (Jv (ms.map enc)).map λps=>(D.int p.1,D.int p.2) :: ps else none)=_
  rw [if_pos (show (QB (D.int p.1)).isSome=true from rfl),ih];rfl
theorem Gw (a b:Int):kEq (.int a) (.int b)=decide (a=b):=by
 unfold kEq QB;dsimp only;rw [W05];simp
theorem Fx (ms:List Mk)(h n:Int)(hn:h∉ms.map (·.1)):U6 (ms.map QL) (.int h) (.int n)=(ms++[(h,n)]).map QL:=by
 unfold U6;rw [if_neg,Vu]
 ·rfl
 ·rw [List.any_map,W0i]
  rintro⟨p,p1,p2⟩
  have p3:kEq (.int p.1) (.int h)=true:=p2
  rw [Gw,decide_eq_true_eq] at p3;exact hn (Vi.mpr ⟨p,p1,p3⟩)
theorem TJ:∀(ms acc:List Mk),((acc++ms).map (·.1)).Nodup->Ul (acc.map QL) (ms.map QL)=(acc++ms).map QL
 |[],acc,_=>by rw [V8];rfl
 |p :: ms,acc,h=>by
  have e:acc++p :: ms=(acc++[p])++ms:=by rw [Vt];rfl
  show Ul (U6 (acc.map QL) (.int p.1) (.int p.2)) (ms.map QL)=_
  have hn:p.1∉acc.map (·.1):=by
   rw [Vu,W1,List.nodup_append] at h;intro z;exact h.2.2 _ z p.1 Wv rfl
  rw [Fx acc p.1 p.2 hn,TJ ms (acc++[p]) (by rw [<-e];exact h),e]
theorem FA {ms:List Mk}{S:Sto}(hl:ms.length<=Wd)(hn:(ms.map (·.1)).Nodup):Mm (some (.tup (ms.map enc),S))=some (.ref S.length,S++[.dct (ms.map QL)]):=by
 rw [HK (by simpa using hl) (Rp ms),show ([]:List (D×D))=([]:List Mk).map QL from rfl,TJ ms [] (by simpa using hn)]
 rfl
theorem MA:∀{ms:List Mk} {h n:Int},(ms.map (·.1)).Nodup->(h,n)∈ms->U8 (ms.map QL) (.int h)=some (.int n)
 |[],_,_,_,z=>by cases z
 |p :: ms,h,n,hn,hm=>by
  unfold U8;rw [W1,Vj];have e:kEq (QL p).1 (.int h)=decide (p.1=h):=Gw _ _
  rw [W1,W03] at hn;by_cases q:p.1=h
  ·rw [e,decide_eq_true q]
   rcases Wr.mp hm with z|z
   ·rw [<-z];rfl
   ·exact absurd (Vi.mpr ⟨_,z,q.symm⟩) hn.1
  ·rw [e,decide_eq_false q]
   rcases Wr.mp hm with z|z
   ·rw [<-z] at q;exact absurd rfl q
   ·exact MA hn.2 z
theorem Gs (ms:List Mk):((ms.map QL).all λp=>(QB p.1).isSome)=true:=by
 rw [W1f,WN];intro p _;rfl
theorem HE {S:Sto}{n:Nat}{ms:List Mk}{h:Int}(e:S[n]? = some (.dct (ms.map QL))):QQ S n (.int h)=some (ms.map QL):=by
 unfold QQ;rw [e];dsimp only;rw [if_pos];show ((ms.map QL).all λp=>(QB p.1).isSome)=true
 exact Gs ms
def hd1:D->D
 | .tup (a :: _)=>a
 |_=>.non
theorem Hq {S:Sto}{n:Nat}{ds:List D}(h:S[n]? = some (.lst ds)):P9 (some (.ref n,S))=some ((ds,.lst n),S):=by
 show Pd (.ref n) S=_
 dsimp only [Pd];rw [h]
theorem JF (p:Mk):YZ (enc p)=some [.inl p.1,.inl p.2]:=rfl
theorem Pa (p q:Mk):kEq (enc p) (enc q)=decide (p=q):=by
 rw [Dz (JF p) (JF q)];rw [W05];simp only [decide_eq_true_eq,W16,and_true,Sum.inl.injEq]
 constructor
 ·rintro⟨h1,h2⟩;exact Prod.ext h1 h2
 ·rintro rfl;exact⟨rfl,rfl⟩
theorem TK (l:List Mk):Qf 30 (l.map enc):=by
 refine⟨λa ha=>?_,λa ha b hb=>?_⟩
 ·obtain⟨p,_,rfl⟩:=Vi.mp ha;rfl
 ·obtain⟨p,_,rfl⟩:=Vi.mp ha
  obtain⟨q,_,rfl⟩:=Vi.mp hb
  rfl
theorem MM (l:List Mk)(h:l.length<64):UH (l.map enc)=true:=by
 obtain⟨h1,h2⟩:=TK l
 have a:HY (l.map enc)=true:=by
  unfold HY;rw [W0i];refine⟨2,by simp,?_⟩
  rw [W1f,WN];intro p _;rfl
 have b:HI (l.map enc)=true:=by
  unfold HI;rw [Ws,WN,WN];exact⟨h1,λx hx=>WN.mpr (h2 x hx)⟩
 unfold UH;rw [a,b,Wm,decide_eq_true h];simp
theorem JP {mv ma mb:M D}{en:En}{S S':Sto}{v k:D}{n:Nat}(h1:mv en S=some (v,S))(h2:ma en S=some (.ref n,S))(h3:mb en S=some (k,S))(h4:Cc (.ref n) k v S=some S'):QG mv ma mb en S=some (.nx,en,S'):=by
 unfold QG;rw [h1,WD,h2,WD,h3,WD];dsimp only;rw [h4];rfl
theorem lt_int (i j:Int):ltD (.int i) (.int j)=true↔i<j:=by
 have e:ltD (.int i) (.int j)=decide (i<j):=by unfold ltD;rfl
 rw [e,decide_eq_true_eq]
def Lj (p:Mk×Str):D:=.tup [enc p.1,.str p.2]
def mkF (p:Mk)(x:Str)(ks:List Mk)(ns ts:List (Mk×Str)):D:=.tup [enc p,.str x,.tup (ks.map enc),.tup (ns.map Lj),.tup (ts.map Lj)]
theorem BB {x:Str}(h:(1<=(cs x).length/\(cs x).length<=6)/\∀ch∈cs x,97<=ch/\ch<=122):BC x=true:=by
 unfold BC btw;rw [Ws,Ws,WN];refine⟨decide_eq_true h.1.1,decide_eq_true h.1.2,λc hc=>?_⟩
 rw [decide_eq_true (h.2 c hc).1,decide_eq_true (h.2 c hc).2];rfl
section
variable {p:Mk} {x:Str} {ks:List Mk} {ns ts:List (Mk×Str)} {S:Sto}
end
section
variable {a b c d e x:D} {S:Sto}
end
theorem UE {S S':Sto}{n:Nat}(h:S.length<=n):Uw S (.ref n,S')=(.ref n,S'):=by
 unfold Uw;rw [if_neg]
 rintro⟨_,q⟩
 rw [To] at q;have:=of_decide_eq_true q
 omega
def kept (A:List (Mk×Str))(wf:Mk->Bool)(B:List (Mk×Str))(wg:Mk->Bool):List (Mk×Str):=A.filter (λp=>decide (p∈B))++A.filter (λp=>!wg p.1)++B.filter (λp=>!wf p.1)
section
variable {A B:List (Mk×Str)} {wf wg:Mk->Bool}
end
theorem EK {S:Sto}{a b:Nat}{A B:List D}(h1:S[a]? = some (.lst A))(h2:S[b]? = some (.lst B))(h:A.length+B.length<=Wd):Jp (.ref a) (.ref b) S=some (.ref S.length,S++[.lst (A++B)]):=by
 dsimp only [Jp];rw [h1,h2];exact if_pos h
section
variable {A B:List (Mk×Str)} {kf kg:List Mk} {S:Sto}
end
theorem Z1w:∀(x:Str) (S:Sto),Ed "tuple" (some (.str x,S))=some (.bl false,S):=λ_ _=>rfl
theorem Z1y:∀(x:Str) (S:Sto),Ed "bool" (some (.str x,S))=some (.bl false,S):=λ_ _=>rfl
theorem Z1x:∀(x:Str) (S:Sto),Hg "int" "str" (some (.str x,S))=some (.bl true,S):=λ_ _=>rfl
theorem Z1z:∀(x:Int) (S:Sto),Ed "tuple" (some (.int x,S))=some (.bl false,S):=λ_ _=>rfl
theorem Z1B:∀(x:Int) (S:Sto),Ed "bool" (some (.int x,S))=some (.bl false,S):=λ_ _=>rfl
theorem Z1A:∀(x:Int) (S:Sto),Hg "int" "str" (some (.int x,S))=some (.bl true,S):=λ_ _=>rfl
theorem Z1v:∀(l:List D) (S:Sto),Ed "tuple" (some (.tup l,S))=some (.bl true,S):=λ_ _=>rfl
theorem Hs (x:Str)(S:Sto):gIs (.str x) .non S=some (.bl false,S):=rfl
theorem Fk (x:Int)(S:Sto):gIs (.int x) .non S=some (.bl false,S):=rfl
def SD:Nat->D->Prop
 |_,.int _=>True
 |_,.str _=>True
 |n+1,.tup ds=>ds.length<=100/\∀d∈ds,SD n d
 |_,_=>False
theorem NZ:∀(n:Nat) (d:D) (k:Nat) (S:Sto),SD n d->Yi (n+k+1) [d,d] S=some (.bl true,S)
 |n,.int i,k,S,_=>by
  show QR 2 2 (QF (Yi (n+k))) _ S=_
  simp only [QF,EVS,W8,W9,We,W5,Wg,Wh,Wa,Wb,W7,↓reduceIte,reduceCtorEq,W1,Wc,W6,Z1z,Z1B,Z1A,Fk]
 |n,.str i,k,S,_=>by
  show QR 2 2 (QF (Yi (n+k))) _ S=_
  simp only [QF,EVS,W8,W9,We,W5,Wg,Wh,Wa,Wb,W7,↓reduceIte,reduceCtorEq,W1,Wc,W6,Z1w,Z1y,Z1x,Hs]
 |n+1,.tup ds,k,S,h=>by
  unfold SD at h;show QR 2 2 (QF (Yi (n+1+k))) _ S=_
  simp only [QF,EVS,W8,W9,We,W5,Wg,Wh,Wa,Wb,W7,↓reduceIte,reduceCtorEq,W1,Wc,W6,Z1v]
  have hz:FN ds ds=ds.map λx=>D.tup [x,x]:=by
   unfold FN;have:∀l:List D,(l.zip l).map (λp=>D.tup [p.1,p.2])=l.map λx=>D.tup [x,x]:=λl=>by
    induction l with
    |nil=>rfl
    |cons x xs ih=>simp only [WC,W1,ih]
   first|exact this ds|simpa using this ds
  rw [hz,UC ds (λx=>D.tup [x,x]) (λ_=>D.bl true) T2 (VA h.1 (by decide)) λx hx=>⟨_,rfl,?_⟩]
  ·have e:ds.map (λ_=>D.bl true)=(ds.map λ_=>true).map D.bl:=by rw [VE];rfl
   rw [e,Do];have:(ds.map λ_=>true).all id=true:=by simp
   simp only [EVS,W8,W9,We,W5,Wg,Wh,Wa,Wb,W7,↓reduceIte,reduceCtorEq,W1,Wc,W6,this]
  ·simp only [EVS,W8,W9,We,W5,Wg,Wh,Wa,Wb,W7,↓reduceIte,reduceCtorEq,W1,Wc,W6]
   have:=NZ n x k S (h.2 x hx)
   rw [show n+1+k=n+k+1 by omega]
   exact this
 |0,.tup _,_,_,h=>h.elim
 |0,.non,_,_,h=>h.elim
 |0,.bl _,_,_,h=>h.elim
 |0,.ref _,_,_,h=>h.elim
 |0,.scr _,_,_,h=>h.elim
 |_+1,.non,_,_,h=>h.elim
 |_+1,.bl _,_,_,h=>h.elim
 |_+1,.ref _,_,_,h=>h.elim
 |_+1,.scr _,_,_,h=>h.elim
theorem Fn (i j:Int):Sb i j=max i j:=by
 unfold Sb;split<;>omega
def Ih (ms:List Mk)(h n:Int):List Mk:=if (ms.any λp=>decide (p.1=h))=true then ms.map (λp=>if p.1=h then (p.1,n) else p) else ms++[(h,n)]
theorem Fy (ms:List Mk)(h n:Int):U6 (ms.map QL) (.int h) (.int n)=(Ih ms h n).map QL:=by
 unfold U6 Ih;have e:((ms.map QL).any λp=>kEq p.1 (.int h))=ms.any λp=>decide (p.1=h):=by
  rw [List.any_map]
  congr 1
  funext p
  exact Gw p.1 h
 rw [e];split
 ·rw [VE,VE]
  refine W0m λp _=>?_
  show (if kEq (.int p.1) (.int h)=true then ((.int p.1:D),D.int n) else QL p)=QL (if p.1=h then (p.1,n) else p)
  rw [Gw];by_cases q:p.1=h
  ·rw [if_pos (decide_eq_true q),if_pos q];rfl
  ·rw [if_neg (by simp [q]),if_neg q]
 ·rw [Vu];rfl
theorem LB {S:Sto}{ms:List Mk}{h n:Int}(hl:ms.length<Wd):Cc (.ref S.length) (.int h) (.int n) (S++[.dct (ms.map QL)])=some (S++[.dct ((Ih ms h n).map QL)]):=by
 dsimp only [Cc];rw [WS];dsimp only;have hs:Yp (ms.map QL) (.int h)=true:=Gs ms
 rw [hs,Wm,decide_eq_true hl,Fy];simp
theorem Na:∀ms:List Mk,Lf ((ms.map QL).map (·.1)) ((ms.map QL).map (·.2))=ms.map enc
 |[]=>rfl
 |p :: ms=>by
  have:=Na ms
  unfold Lf at this ⊢
  rw [W1,W1,W1,WC,W1,this];rfl
section
variable {f g:Nat->Int} {a:Mk} {x y:Str} {ns ts ns' ts':List (Mk×Str)} {S:Sto}
end
theorem MG (n:Nat)(p:Mk):SD (n+1) (enc p):=⟨(show 2<=100 by decide),λd hd=>by
 simp only [Wr,WW,or_false] at hd
 rcases hd with z|z<;>rw [z]<;>cases n<;>trivial⟩
theorem EM (n:Nat)(x:Str):SD n (.str x):=by cases n<;>trivial
theorem Z0T {a:Mk}{x:Str}{ks:List Mk}{ns ts:List (Mk×Str)}(hk:ks.length<=6)(h1:ns.length<=20)(h2:ts.length<=20):SD 5 (mkF a x ks ns ts):=by
 have hp:∀ps:List (Mk×Str),ps.length<=20->SD 4 (.tup (ps.map Lj)):=λps hl=>⟨by rw [Wm];omega,λd hd=>by
  obtain⟨p,_,rfl⟩:=Vi.mp hd
  refine⟨(show 2<=100 by decide),λe he=>?_⟩
  simp only [Wr,WW,or_false] at he
  rcases he with z|z<;>rw [z]
  ·exact MG 1 p.1
  ·exact EM 2 p.2⟩
 refine⟨(show 5<=100 by decide),λd hd=>?_⟩
 simp only [Wr,WW,or_false] at hd
 rcases hd with z|z|z|z|z<;>rw [z]
 ·exact MG 3 a
 ·exact EM 4 x
 ·refine⟨by rw [Wm];omega,λe he=>?_⟩
  obtain⟨p,_,rfl⟩:=Vi.mp he
  exact MG 2 p
 ·exact hp ns h1
 ·exact hp ts h2
section
variable {en:En} {S S1:Sto}
def OL (cn f:Str)(o:Option (D×Sto)):Option (D×Sto):=o.bind λp=>match p.1 with
 | .ref n=>(QJ p.2 n cn).bind λfs=>(fs.lookup f).map λv=>(v,p.2)
 |_=>none
theorem ND {cn f:Str}{m:M D}:K3 cn f m en S=OL cn f (m en S):=rfl
def Dt (F:List D->Sto->Option (D×Sto))(n:Nat)(o:Option (List D×Sto)):Option (D×Sto):=o.bind λr=>F (.ref n :: r.1) r.2
theorem Qb {F:List D->Sto->Option (D×Sto)}{n:Nat}{ds:List D}:Dt F n (some (ds,S))=F (.ref n :: ds) S:=rfl
def Dv (cn m:Str)(F:List D->Sto->Option (D×Sto))(ma:M (List D))(en:En)(o:Option (D×Sto)):Option (D×Sto):=o.bind λp=>match p.1 with
 | .ref n=>(QJ p.2 n cn).bind λfs=>if (fs.lookup m).isNone=true then (ma en p.2).bind λr=>F (.ref n :: r.1) r.2 else none
 |_=>none
theorem Qe {cn m:Str}{F:List D->Sto->Option (D×Sto)}{mo:M D}{ma:M (List D)}:Yj cn m F mo ma en S=Dv cn m F ma en (mo en S):=rfl
theorem QC {S':Sto}{v:D}(h:S'.length=S.length):Uw S (v,S')=(v,S'):=by
 unfold Uw;split
 ·rename_i q
  have:=q.1
  rw [<-h,List.take_length] at this;rw [this]
 ·rfl
theorem Qq {n:Nat}{o:Ob}:(S.set n o).length=S.length:=List.length_set
theorem up {G:Sto}{n:Nat}{o:Ob}(h:S[n]? = some o):(S++G)[n]? = some o:=by rw [WR (Wj.mp h).1];exact h
theorem Y5 {a b:MS}{en en1:En}{S S1:Sto}{r:Option (DL.Fl×En×Sto)}(h1:a en S=some (.nx,en1,S1))(h2:b en1 S1=r):Yg a b en S=r:=by
 unfold Yg;rw [h1];exact h2
end
structure Ent where
 c:Int
 x:Str
 l:Int
 ns:List (Mk×Str)
 ts:List (Mk×Str)
def key (i:Int)(e:Ent):D:=enc (i,e.c)
def fl (i:Int)(e:Ent):D:=mkF (i,e.c) e.x [(i,e.l)] e.ns e.ts
def kv (i:Int)(f:Ent->D)(E:List Ent):List (D×D):=E.map λe=>(key i e,f e)
def JQ (E:List Ent)(t:Ent):List Ent:=E.map λe=>if e.c=t.c then t else e
section
variable {i:Int} {f:Ent->D} {E:List Ent} {S:Sto} {n:Nat}
theorem He (i:Int)(e:Ent)(c:Int):kEq (key i e) (enc (i,c))=decide (e.c=c):=by
 unfold key;rw [Pa];refine decide_eq_decide.mpr ⟨λh=>(Prod.mk.inj h).2,λh=>by rw [h]⟩
theorem Az:((kv i f E).all λp=>(YZ p.1).isSome)=true:=by
 unfold kv;rw [W1f,WN];intro e _;rfl
theorem RM (c:Int):Yp (kv i f E) (enc (i,c))=true:=by
 unfold Yp;show (match YZ (enc (i,c)) with|some _=>_|none=>false)=true
 rw [JF];exact Az
theorem NG:∀{E:List Ent} {e:Ent},(E.map (·.c)).Nodup->e∈E->U8 (kv i f E) (enc (i,e.c))=some (f e)
 |a :: E,e,hn,he=>by
  rw [W1,W03] at hn;unfold U8 kv;rw [W1,Vj];have q:kEq (key i a) (enc (i,e.c))=decide (a.c=e.c):=He i a e.c
  dsimp only;rw [q];rcases Wr.mp he with rfl|z
  ·rw [decide_eq_true rfl];rfl
  ·have ne:¬a.c=e.c:=λw=>hn.1 (w ▸ List.mem_map_of_mem (f:=λx:Ent=>x.c) z)
   rw [decide_eq_false ne];exact NG hn.2 z
theorem Ay (c:Int):((kv i f E).any λp=>kEq p.1 (enc (i,c)))=E.any λe=>decide (e.c=c):=by
 unfold kv;rw [List.any_map];exact congrArg (E.any ·) (funext λe=>He i e c)
theorem PK {t e:Ent}(he:e∈E)(h:e.c=t.c):U6 (kv i f E) (enc (i,t.c)) (f t)=kv i f (JQ E t):=by
 unfold U6;rw [Ay,if_pos (W0i.mpr ⟨e,he,decide_eq_true h⟩)];unfold kv JQ;rw [VE,VE];refine W0m λa _=>?_
 show (if kEq (key i a) (enc (i,t.c))=true then (key i a,f t) else (key i a,f a))=(key i (if a.c=t.c then t else a),f (if a.c=t.c then t else a))
 rw [He];by_cases q:a.c=t.c
 ·rw [if_pos (decide_eq_true q),if_pos q]
  unfold key;rw [q]
 ·rw [if_neg (by rw [decide_eq_true_eq];exact q),if_neg q]
theorem PL {t:Ent}(h:∀e∈E,e.c≠t.c):U6 (kv i f E) (enc (i,t.c)) (f t)=kv i f (E++[t]):=by
 unfold U6;rw [Ay,if_neg]
 ·unfold kv
  rw [Vu];rfl
 ·rw [W0i]
  rintro⟨e,he,q⟩
  exact h e he (of_decide_eq_true q)
theorem FV {c:Int}{v:D}(h:S[n]? = some (.dct (kv i f E)))(hl:E.length<=20):Cc (.ref n) (enc (i,c)) v S=some (S.set n (.dct (U6 (kv i f E) (enc (i,c)) v))):=by
 have hz:100<=Wd:=by decide
 have hk:(kv i f E).length=E.length:=by unfold kv;rw [Wm]
 dsimp only [Cc];rw [h];dsimp only;rw [RM,hk,decide_eq_true (show E.length<Wd by omega)]
 rfl
theorem DK {e:Ent}(hn:(E.map (·.c)).Nodup)(h:S[n]? = some (.dct (kv i f E)))(he:e∈E):Qd (key i e) (.ref n) S=some (.bl false,S)/\gIx (.ref n) (key i e) S=some (f e,S):=by
 have e2:QQ S n (enc (i,e.c))=some (kv i f E):=by unfold QQ;rw [h];dsimp only;rw [if_pos (RM _)]
 have e3:inD (enc (i,e.c)) (.ref n) S=some true:=by
  show (match S[n]? with|some (Ob.lst ys)=>_|_=>(QQ S n (enc (i,e.c))).map λkvs=>(U8 kvs (enc (i,e.c))).isSome)=_
  rw [h];dsimp only;rw [e2,W6,NG hn he];rfl
 refine⟨?_,DH e2 (NG hn he)⟩
 show Qd (enc (i,e.c)) (.ref n) S=_
 unfold Qd;rw [e3];rfl
end
def hf (i n:Int):List (Str×D):=[("own_number",.int i),("acts",.int n),("files",.ref 1),("told",.ref 2)]
def hs (i n:Int):Ob:=.ins "House" (hf i n)
structure At (S:Sto) (i n:Int) (E:List Ent):Prop where
 h0:S[0]? = some (hs i n)
 h1:S[1]? = some (.dct (kv i (fl i) E))
theorem At.up {S G:Sto}{i n:Int}{E:List Ent}(h:At S i n E):At (S++G) i n E:=⟨K08.up h.h0,K08.up h.h1⟩
structure Wf (n:Int) (E:List Ent):Prop where
 ri:E.Pairwise λa b=>a.c<b.c
 ub:∀e∈E,e.c<=n/\e.l<=n/\e.ns.length<=1/\e.ts.length<=1
 ln:(E.length:Int)<=n
 n14:n<=15
theorem Wf.nd {n:Int}{E:List Ent}(w:Wf n E):(E.map (·.c)).Nodup:=by
 unfold List.Nodup;rw [List.pairwise_map];exact w.ri.imp λ{a b} q=>by omega
theorem Wf.l {n:Int}{E:List Ent}(w:Wf n E):E.length<=15:=by have:=w.ln;have:=w.n14;omega
section
variable {S:Sto} {i n:Int} {E:List Ent} {en:En}
theorem TB (h:At S i n E):QJ S 0 "House" = some (hf i n):=by
 unfold QJ;rw [h.h0];exact if_pos rfl
theorem QZ (h:At S i n E):OL "House" "files" (some (.ref 0,S))=some (.ref 1,S):=by
 show (QJ S 0 "House").bind _=_
 rw [TB h];rfl
theorem Mt (h:At S i n E):OL "House" "acts" (some (.ref 0,S))=some (.int n,S):=by
 show (QJ S 0 "House").bind _=_
 rw [TB h];rfl
theorem Hy (h:At S i n E):OL "House" "own_number" (some (.ref 0,S))=some (.int i,S):=by
 show (QJ S 0 "House").bind _=_
 rw [TB h];rfl
theorem Yc {m:Str}{F:List D->Sto->Option (D×Sto)}{ma:M (List D)}(h:At S i n E)(hm:∀i n:Int,((hf i n).lookup m).isNone=true):Dv "House" m F ma en (some (.ref 0,S))=Dt F 0 (ma en S):=by
 show (QJ S 0 "House").bind _=_
 rw [TB h];show (if _ then _ else _)=_
 rw [if_pos (hm i n)];rfl
theorem FD (h:At S i n E):YG [.ref 0] S=some (.int n,S):=by
 unfold YG;simp only [EVS,W8,W9,We,W5,Wg,Wh,Wa,Wb,W7,↓reduceIte,reduceCtorEq,W1,Wc,W6,ND,Mt h]
theorem JI (h:At S i n E)(w:Wf n E){e:Ent}(he:e∈E):Zu [.ref 0,key i e] S=some (fl i e,S):=by
 obtain⟨i2,i3⟩:=DK w.nd h.h1 he
 unfold Zu;simp only [EVS,W8,W9,We,W5,Wg,Wh,Wa,Wb,W7,↓reduceIte,reduceCtorEq,W1,Wc,W6,ND,QZ h,i2,i3]
theorem Pm (e:Ent):YW [fl i e] S=some (.bl (e.ts.isEmpty),S):=by
 have i4:gIx (fl i e) (.int 4) S=some (.tup (e.ts.map Lj),S):=rfl
 unfold YW;simp only [EVS,W8,W9,We,W5,Wg,Wh,Wa,Wb,W7,↓reduceIte,reduceCtorEq,W1,Wc,W6,i4,Wm]
 cases e.ts<;>rfl
theorem Ux (h:At S i n E)(w:Wf n E){e:Ent}(he:e∈E)(ht:e.ts.isEmpty=false):Z6 [.ref 0,key i e] S=some (fl i e,S):=by
 have g1:=Pm (i:=i) (S:=S) e
 rw [ht] at g1;unfold Z6;simp only [EVS,W8,W9,We,W5,Wg,Wh,Wa,Wb,W7,↓reduceIte,reduceCtorEq,W1,Wc,W6,Qe,Yc (m:="file") h (λ_ _=>rfl),Qb,JI h w he,g1]
end
section
variable {S:Sto} {i n:Int} {E:List Ent} {en:En}
theorem At.tick (h:At S i n E):At (S.set 0 (hs i (n+1))) i (n+1) E:=⟨V6 (Wj.mp h.h0).1,by rw [WV (by decide)];exact h.h1⟩
theorem At.put (h:At S i n E)(E':List Ent):At (S.set 1 (.dct (kv i (fl i) E'))) i n E':=⟨by rw [WV (by decide)];exact h.h0,V6 (Wj.mp h.h1).1⟩
theorem Pv (h:At S i n E):UR "House" "acts" (Zf (D.int 1)) (Z3 0) (some (.ref 0) :: en) S=some (.nx,some (.ref 0) :: en,S.set 0 (hs i (n+1))):=by
 have r:Z3 0 (some (.ref 0) :: en) S=some (.ref 0,S):=rfl
 have e:=TB h
 have l:(hf i n).lookup ("acts" : Str)=some (D.int n):=rfl
 unfold UR;rw [r,WD];dsimp only;rw [e,WD,l];dsimp only [Zf];rw [WD];dsimp only;rw [e,WD,if_pos (show (hf i n).length<1000 from (show 4<1000 by decide))]
 rfl
theorem Nl (h:At S i n E):Ze [.ref 0] S=some (enc (i,n+1),S.set 0 (hs i (n+1))):=by
 have z2:2<=Wd:=by decide
 have h':=h.tick
 have r:=Kd (nN:=1) (n:=1) (m:=YJ) (ds:=[.ref 0]) (S:=S) rfl
 unfold Ze;rw [r];have e:YJ (Q8 1 [.ref 0]) S=some (.rt (enc (i,n+1)),[some (.ref 0)],S.set 0 (hs i (n+1))):=by
  refine Y5 (Pv h) ?_
  simp only [EVS,W8,W9,We,W5,Wg,Wh,Wa,Wb,W7,↓reduceIte,reduceCtorEq,W1,Wc,W6,ND,Hy h',Mt h',z2]
  rfl
 rw [e,JG,QC Qq]
theorem M3 {x:Str}(hx:(1<=(cs x).length/\(cs x).length<=6)/\∀ch∈cs x,97<=ch/\ch<=122):Zo [.str x] S=some (.non,S):=by
 have hz:1000<=Wd:=IY
 have hl:=hx.1.2
 have e:x.length=(cs x).length:=by simp [cs,Str.length]
 have n1:=Nh (x:=x) (S:=S) (by omega)
 rw [BB hx] at n1;unfold Zo;simp only [EVS,W8,W9,We,W5,Wg,Wh,Wa,Wb,W7,↓reduceIte,reduceCtorEq,W1,Wc,W6,n1]
theorem M0 {x:Str}(h1:(cs x).length<=60)(h2:∀ch∈cs x,32<=ch/\ch<=126):ZA [.str x] S=some (.non,S):=by
 have n1:=BY (x:=x) (S:=S) (K7 (UZ h1 h2))
 rw [UZ h1 h2] at n1;unfold ZA;simp only [EVS,W8,W9,We,W5,Wg,Wh,Wa,Wb,W7,↓reduceIte,reduceCtorEq,W1,Wc,W6,n1]
theorem gc1 {l m:Int}(hl:l<=m):Y0 [.tup [enc (i,l)],.tup [enc (i,m)]] S=some (.tup [enc (i,m)],S):=by
 have hz:100<=Wd:=by decide
 have d1:=FA (ms:=[(i,l)]) (S:=S) (show 1<=Wd by omega) (by simp)
 have d1':Mm (some (.tup [enc (i,l)],S))=some (.ref S.length,S++[.dct [QL (i,l)]]):=d1
 have hat:(S++[Ob.dct ([(i,l)].map QL)])[S.length]? = some (.dct ([(i,l)].map QL)):=WS ..
 have g:=Hw (a:=Z3 2) (b:=mOp gIx (Z3 3) (Zf (D.int (0)))) (c:=mOp gIx (Z3 3) (Zf (D.int (1)))) (en:=[some (.tup [enc (i,l)]),some (.tup [enc (i,m)]),some (.ref S.length),some (enc (i,m))]) (S:=S++[Ob.dct ([(i,l)].map QL)]) (n:=S.length) (k:=.int i) (x:=.int m) rfl rfl rfl (HE hat)
 rw [MA (ms:=[(i,l)]) (h:=i) (n:=l) (by simp) (by simp)] at g
 have g':Np (Z3 2) (mOp gIx (Z3 3) (Zf (D.int (0)))) (mOp gIx (Z3 3) (Zf (D.int (1)))) [some (.tup [enc (i,l)]),some (.tup [enc (i,m)]),some (.ref S.length),some (enc (i,m))] (S++[Ob.dct [QL (i,l)]])=some (.int l,S++[Ob.dct [QL (i,l)]]):=g
 have mxe:Sb m l=m:=by rw [Fn];omega
 have i1:∀S,gIx (enc (i,m)) (.int 1) S=some (.int m,S):=λ_=>rfl
 have pe:Ih [(i,l)] i m=[(i,m)]:=by simp [Ih]
 have s1:=JP (mv:=Ha Sb (mOp gIx (Z3 3) (Zf (D.int (1)))) (Np (Z3 2) (mOp gIx (Z3 3) (Zf (D.int (0)))) (mOp gIx (Z3 3) (Zf (D.int (1)))))) (ma:=Z3 2) (mb:=mOp gIx (Z3 3) (Zf (D.int (0)))) (en:=[some (.tup [enc (i,l)]),some (.tup [enc (i,m)]),some (.ref S.length),some (enc (i,m))]) (S:=S++[Ob.dct ([(i,l)].map QL)]) (n:=S.length) (k:=.int i) (v:=.int m)
  (by simp only [EVS,W8,W9,We,W5,Wg,Wh,Wa,Wb,W7,↓reduceIte,reduceCtorEq,W1,Wc,W6,g',i1,mxe]) rfl rfl (LB (ms:=[(i,l)]) (show 1<Wd by omega))
 rw [pe] at s1;have b1:Qm [some (.tup [enc (i,l)]),some (.tup [enc (i,m)]),some (.ref S.length),some (enc (i,m))] (S++[Ob.dct [QL (i,l)]])=some (.nx,_,S++[.dct [QL (i,m)]]):=s1
 have ok:DI ([(i,m)].map QL)=true:=by
  unfold DI;rw [Na,MM [(i,m)] (show 1<64 by decide),Gs,Bool.and_true,Bool.and_true]
  rfl
 have h4:=Lw (a:=Z3 2) (en:=[some (.tup [enc (i,l)]),some (.tup [enc (i,m)]),some (.ref S.length),some (enc (i,m))]) (S:=S++[.dct ([(i,m)].map QL)]) (n:=S.length) rfl (WS ..) ok
 rw [Na,C8 (TK [(i,m)]) (List.Perm.refl _) (by simp)] at h4
 have h5:Tv (Z3 2) [some (.tup [enc (i,l)]),some (.tup [enc (i,m)]),some (.ref S.length),some (enc (i,m))] (S++[.dct [QL (i,m)]])=some ([enc (i,m)],S++[.dct [QL (i,m)]]):=h4
 unfold Y0;simp only [EVS,W8,W9,We,W5,Wg,Wh,Wa,Wb,W7,↓reduceIte,reduceCtorEq,W1,Wc,W6,d1',b1,h5]
 exact congrArg some (GV _ _ _ (Hd _ [(i,m)]))
theorem NJ (w:Wf n E){x t:Str}(hn:n+1<=15):Wf (n+1) (E++[⟨n+1,x,n+1,[],[((i,n+1),t)]⟩]):=by
 refine⟨?_,λe he=>?_,?_,hn⟩
 ·rw [List.pairwise_append]
  refine⟨w.ri,List.pairwise_singleton ..,λa ha b hb=>?_⟩
  rw [W1g] at hb;subst hb;have:=(w.ub a ha).1
  show a.c<n+1
  omega
 ·rcases W0p.mp he with z|z
  ·have:=w.ub e z
   exact⟨by omega,by omega,this.2.2⟩
  ·rw [W1g] at z
   subst z;exact⟨Int.le_refl _,Int.le_refl _,VG _,Wt _⟩
 ·have:=w.ln
  rw [WL,W04];omega
theorem FR (w:Wf n E){t:Ent}(hc:t.c<=n)(hl:t.l=n+1)(h1:t.ns.length<=1)(h2:t.ts.length<=1)(hn:n+1<=15):Wf (n+1) (JQ E t):=by
 refine⟨?_,λe he=>?_,?_,hn⟩
 ·unfold JQ
  rw [List.pairwise_map];refine w.ri.imp λ{a b} q=>?_
  have key:∀a:Ent,(if a.c=t.c then t else a).c=a.c:=λa=>by
   split
   ·rename_i z;exact z.symm
   ·rfl
  rw [key,key];exact q
 ·obtain⟨a,ha,rfl⟩:=Vi.mp he
  have:=w.ub a ha
  split
  ·exact⟨by omega,by omega,h1,h2⟩
  ·exact⟨by omega,by omega,this.2.2⟩
 ·have:=w.ln
  unfold JQ;rw [Wm];omega
theorem RA (h:At S i n E)(w:Wf n E){x t:Str}(hx:(1<=(cs x).length/\(cs x).length<=6)/\∀ch∈cs x,97<=ch/\ch<=122)(t1:(cs t).length<=60)(t2:∀ch∈cs t,32<=ch/\ch<=126) :
  ZN [.ref 0,.str x,.str t] S=some (enc (i,n+1),(S.set 0 (hs i (n+1))).set 1 (.dct (kv i (fl i) (E++[⟨n+1,x,n+1,[],[((i,n+1),t)]⟩])))):=by
 have h':=h.tick
 have s1:=FV (c:=n+1) (v:=fl i ⟨n+1,x,n+1,[],[((i,n+1),t)]⟩) h'.h1 (by have:=w.l;omega)
 have e1:=PL (i:=i) (f:=fl i) (E:=E) (t:=⟨n+1,x,n+1,[],[((i,n+1),t)]⟩) λe he=>by have:=(w.ub e he).1;show e.c≠n+1;omega
 have e1':U6 (kv i (fl i) E) (enc (i,n+1)) (fl i ⟨n+1,x,n+1,[],[((i,n+1),t)]⟩)=_:=e1
 rw [e1'] at s1;have g:=JP (mv:=Ys (Z1 (Z3 3) (Z1 (Z3 1) (Z1 (Ys (Z1 (Z3 3) Zg)) (Z1 (Ys Zg) (Z1 (Ys (Z1 (Ys (Z1 (Z3 3) (Z1 (Z3 2) Zg))) Zg)) Zg)))))) (ma:=K3 "House" "files" (Z3 0)) (mb:=Z3 3) (en:=[some (.ref 0),some (.str x),some (.str t),some (enc (i,n+1))]) (S:=S.set 0 (hs i (n+1))) (n:=1) (k:=enc (i,n+1)) (v:=fl i ⟨n+1,x,n+1,[],[((i,n+1),t)]⟩)
  (by
   have z5:5<=Wd:=by decide
   have z2:2<=Wd:=by decide
   have z1:1<=Wd:=by decide
   have z0:0<=Wd:=by decide
   simp only [EVS,W8,W9,We,W5,Wg,Wh,Wa,Wb,W7,↓reduceIte,reduceCtorEq,W1,Wc,W6,z5,z2,z1,z0]
   rfl) (by simp only [EVS,W8,W9,We,W5,Wg,Wh,Wa,Wb,W7,↓reduceIte,reduceCtorEq,W1,Wc,W6,ND,QZ h']) rfl s1
 unfold ZN;simp only [EVS,W8,W9,We,W5,Wg,Wh,Wa,Wb,W7,↓reduceIte,reduceCtorEq,W1,Wc,W6,M3 hx,M0 t1 t2,Qe,Yc (m:="next_mark") h (λ_ _=>rfl),Qb,Nl h,g]
 rw [QC (by rw [Qq,Qq])]
theorem BI (h:At S i n E)(hl:E.length<=20){e:Ent}(he:e∈E){m:Int}(hm:e.l<=m)(ns ts:List (Mk×Str)):Zq [.ref 0,fl i e,enc (i,m),.tup (ns.map Lj),.tup (ts.map Lj)] S=some (.non,S.set 1 (.dct (kv i (fl i) (JQ E ⟨e.c,e.x,m,ns,ts⟩)))):=by
 have s1:=FV (c:=e.c) (v:=fl i ⟨e.c,e.x,m,ns,ts⟩) h.h1 hl
 have e1:U6 (kv i (fl i) E) (enc (i,e.c)) (fl i ⟨e.c,e.x,m,ns,ts⟩)=_:=PK (t:=⟨e.c,e.x,m,ns,ts⟩) he rfl
 rw [e1] at s1;have i0:∀S,gIx (fl i e) (.int 0) S=some (enc (i,e.c),S):=λ_=>rfl
 have i1:∀S,gIx (fl i e) (.int 1) S=some (.str e.x,S):=λ_=>rfl
 have i2:∀S,gIx (fl i e) (.int 2) S=some (.tup [enc (i,e.l)],S):=λ_=>rfl
 have g:=JP (mv:=Ys (Z1 (mOp gIx (Z3 1) (Zf (D.int (0)))) (Z1 (mOp gIx (Z3 1) (Zf (D.int (1)))) (Z1 (ZM Y0 (Z1 (mOp gIx (Z3 1) (Zf (D.int (2)))) (Z1 (Ys (Z1 (Z3 2) Zg)) Zg))) (Z1 (Z3 3) (Z1 (Z3 4) Zg)))))) (ma:=K3 "House" "files" (Z3 0)) (mb:=mOp gIx (Z3 1) (Zf (D.int (0)))) (en:=[some (.ref 0),some (fl i e),some (enc (i,m)),some (.tup (ns.map Lj)),some (.tup (ts.map Lj))]) (S:=S) (n:=1) (k:=enc (i,e.c)) (v:=fl i ⟨e.c,e.x,m,ns,ts⟩)
  (by
   have z5:5<=Wd:=by decide
   have z1:1<=Wd:=by decide
   simp only [EVS,W8,W9,We,W5,Wg,Wh,Wa,Wb,W7,↓reduceIte,reduceCtorEq,W1,Wc,W6,i0,i1,i2,gc1 hm,z5,z1]
   rfl) (by simp only [EVS,W8,W9,We,W5,Wg,Wh,Wa,Wb,W7,↓reduceIte,reduceCtorEq,W1,Wc,W6,ND,QZ h]) (by simp only [EVS,W8,W9,We,W5,Wg,Wh,Wa,Wb,W7,↓reduceIte,reduceCtorEq,W1,Wc,W6,i0]) s1
 unfold Zq;simp only [EVS,W8,W9,We,W5,Wg,Wh,Wa,Wb,W7,↓reduceIte,reduceCtorEq,W1,Wc,W6,g]
 rw [QC Qq]
theorem Lo (h:At S i n E)(w:Wf n E){e:Ent}(he:e∈E)(ht:e.ts.isEmpty=false){t:Str}(t1:(cs t).length<=60)(t2:∀ch∈cs t,32<=ch/\ch<=126) :
  Yr [.ref 0,key i e,.str t] S=some (.non,(S.set 0 (hs i (n+1))).set 1 (.dct (kv i (fl i) (JQ E ⟨e.c,e.x,n+1,e.ns,[((i,n+1),t)]⟩)))):=by
 have h':=h.tick
 have z2:2<=Wd:=by decide
 have z1:1<=Wd:=by decide
 have i3:∀S,gIx (fl i e) (.int 3) S=some (.tup (e.ns.map Lj),S):=λ_=>rfl
 have c:=BI h' (by have:=w.l;omega) he (m:=n+1) (by have:=(w.ub e he).2.1;omega) e.ns [((i,n+1),t)]
 have c':Zq [.ref 0,fl i e,enc (i,n+1),.tup (e.ns.map Lj),.tup [.tup [enc (i,n+1),.str t]]] (S.set 0 (hs i (n+1)))=_:=c
 unfold Yr;simp only [EVS,W8,W9,We,W5,Wg,Wh,Wa,Wb,W7,↓reduceIte,reduceCtorEq,W1,Wc,W6,Qe,Yc (m:="file_on_shelf") h (λ_ _=>rfl),Qb,Ux h w he ht,M0 t1 t2,Yc (m:="next_mark") h (λ_ _=>rfl),Nl h,Yc (m:="change") h' (λ_ _=>rfl),i3,z2,z1,c']
 rw [QC (by rw [Qq,Qq])]
theorem HC (h:At S i n E)(w:Wf n E){e:Ent}(he:e∈E)(ht:e.ts.isEmpty=false) :
  Y9 [.ref 0,key i e] S=some (.non,(S.set 0 (hs i (n+1))).set 1 (.dct (kv i (fl i) (JQ E ⟨e.c,e.x,n+1,[],[]⟩)))):=by
 have h':=h.tick
 have z0:0<=Wd:=by decide
 have c:=BI h' (by have:=w.l;omega) he (m:=n+1) (by have:=(w.ub e he).2.1;omega) [] []
 have c':Zq [.ref 0,fl i e,enc (i,n+1),.tup [],.tup []] (S.set 0 (hs i (n+1)))=_:=c
 unfold Y9;simp only [EVS,W8,W9,We,W5,Wg,Wh,Wa,Wb,W7,↓reduceIte,reduceCtorEq,W1,Wc,W6,Qe,Yc (m:="file_on_shelf") h (λ_ _=>rfl),Qb,Ux h w he ht,Yc (m:="next_mark") h (λ_ _=>rfl),Nl h,Yc (m:="change") h (λ_ _=>rfl),z0,c']
 rw [QC (by rw [Qq,Qq])]
end
section
variable {S:Sto} {i n:Int} {E:List Ent} {en:En}
theorem Ck {e:Ent}(h:e.ns.length<=1/\e.ts.length<=1)(S:Sto):Yi 12 [fl i e,fl i e] S=some (.bl true,S):=NZ 5 _ 6 S (Z0T (show 1<=6 by decide) (by omega) (by omega))
theorem KY (p:Mk)(S:Sto):Yi 12 [enc p,enc p] S=some (.bl true,S):=NZ 5 _ 6 S (MG 4 p)
def live (E:List Ent):List Ent:=E.filter λe=>!e.ts.isEmpty
end
theorem ixL {S:Sto}{n k:Nat}{ds:List D}{d:D}(hS:S[n]? = some (.lst ds))(hd:ds[k]? = some d):gIx (.ref n) (.int (k:Int)) S=some (d,S):=by
 show (match S[n]? with|some (Ob.lst xs)=>_|_=>_)=_
 rw [hS];dsimp only;have ha:atI ds (k:Int)=some d:=GM hd
 rw [ha];rfl
section
variable {S:Sto} {i n:Int} {E:List Ent} {en:En}
end
theorem Hu (i:Int):Yo [.ref 0,.int i] [.ins "House" []]=some (.non,[hs i 0,.dct [],.dct []]):=by
 have e:QU (Q8 2 [.ref 0,.int i]) [.ins "House" []]=some (.nx,[some (.ref 0),some (.int i)],[hs i 0,.dct [],.dct []]):=rfl
 have t:Uw [.ins "House" []] (.non,[hs i 0,.dct [],.dct []])=(.non,[hs i 0,.dct [],.dct []]):=by
  unfold Uw;rw [if_neg]
  rintro⟨z,_⟩
  simp [hs,hf] at z
 have r:=Kd (nN:=2) (n:=2) (m:=QU) (ds:=[.ref 0,.int i]) (S:=[.ins "House" []]) rfl
 unfold Yo;rw [r,e,Gt,t]
theorem CU {ma:M (List D)}{en:En}{i:Int}(h:ma en []=some ([.int i],[])):K0 "House" Yo ma en []=some (.ref 0,[hs i 0,.dct [],.dct []]):=by
 unfold K0;have e:Yo (D.ref (V5 ([]:Sto)) :: [D.int i]) (([]:Sto)++[Ob.ins "House" []])=some (.non,[hs i 0,.dct [],.dct []]):=Hu i
 rw [h,WD];dsimp only;rw [e];rfl
theorem RK {a:M D}{en:En}{S S1:Sto}{n:Nat}(h1:a en S=some (.int (n:Int),S1))(hn:n<=100):JZ a en S=some (Td 0 n,S1):=by
 unfold JZ;rw [h1,WD];dsimp only;have hz:100<=Wd:=by decide
 rw [if_pos ⟨by omega,by omega,by omega⟩,VS]
theorem LS {a b:M D}{en:En}{S:Sto}{n:Nat}{i:Int}{ds:List D}{d:D}(h1:a en S=some (.ref n,S))(h2:b en S=some (.int i,S))(h3:S[n]? = some (.lst ds))(h4:0<=i/\i<2 ^ 62)(h5:ds[i.toNat]? = some d):Bk a b en S=some (d,S.set n (.lst (ds.eraseIdx i.toNat))):=by
 unfold Bk;rw [h1,WD];dsimp only;rw [h2,WD];dsimp only;rw [h3];dsimp only;rw [if_pos h4,h5];rfl
theorem PQ {α:Type}{ds0:List D}{cap:En}{g:D->En->Option En}{m:M D}(enc:α->D)(xs:List α)(P:List α->List D->Sto->Prop)(hl:xs.length<=100)(hacc:∀pre acc S,P pre acc S->acc.length=pre.length)
  (step:∀pre a post acc S,xs=pre++a :: post->P pre acc S->∃en v S2,g (enc a) cap=some en/\m en S=some (v,S2)/\P (pre++[a]) (acc++[v]) S2) :
  ∀(post pre:List α) (acc:List D) (S:Sto),xs=pre++post->P pre acc S->∃acc' S',Yt ds0 .no cap g QW m (post.map enc) acc S=some (acc',S')/\P xs acc' S'
 |[],pre,acc,S,hx,hP=>by
  have hz:100<=Wd:=by decide
  have ha:=hacc pre acc S hP
  have hlen:=congrArg V5 hx
  rw [WL,List.length_nil] at hlen;refine⟨acc,S,?_,by rw [hx,V8];exact hP⟩
  unfold Yt;simp only [Wc]
  rw [if_pos ⟨trivial,by omega⟩]
 |a :: post,pre,acc,S,hx,hP=>by
  have hz:100<=Wd:=by decide
  have ha:=hacc pre acc S hP
  have hlen:=congrArg V5 hx
  rw [WL,WP] at hlen;obtain⟨en,v,S2,h1,h2,h3⟩:=step pre a post acc S hx hP
  obtain⟨acc',S',e,hP'⟩:=PQ enc xs P hl hacc step post (pre++[a]) (acc++[v]) S2 (by rw [hx,Vt];rfl) h3
  refine⟨acc',S',?_,hP'⟩
  rw [W1];unfold Yt;rw [if_pos ⟨trivial,by omega⟩,h1,WD]
  show ((QW en S).bind λp=>_)=_
  rw [show QW en S=some (true,S) from rfl,WD];dsimp only;rw [if_pos rfl,h2,WD];exact e
theorem BE {α β:Type}(f:α->β):∀(l:List α) (n:Nat),(l.map f).eraseIdx n=(l.eraseIdx n).map f
 |[],n=>by simp
 |a :: l,0=>rfl
 |a :: l,n+1=>by
  rw [W1,W0A,BE f l n,W0A,W1]
theorem U4 {α:Type}:∀{l:List α} {n:Nat} (h:n<l.length),(l[n] :: l.eraseIdx n).Perm l
 |[],n,h=>absurd h (by simp)
 |a :: l,0,h=>.refl _
 |a :: l,n+1,h=>by
  rw [List.getElem_cons_succ,W0A];exact (List.Perm.swap ..).trans (.cons a (U4 (by simpa using h)))
theorem Lz {S:Sto}{o o':Ob}:(S++[o]).set S.length o'=S++[o']:=by simp
theorem LM {m k:Nat}{pre post:List Nat}(h:WE m=pre++k :: post):k=pre.length/\k<m:=by
 have h1:(WE m)[pre.length]? = some k:=by rw [h,WZ (Wt _),Nat.sub_self];rfl
 have h2:pre.length<m:=by
  have:=(Wj.mp h1).1
  rw [VU] at this;exact this
 rw [List.getElem?_range h2] at h1;exact⟨(WO h1).symm,by rw [<-WO h1];exact h2⟩
theorem CA (c:Int)(m:Nat)(hm:m<=10)(S:Sto):∃p:List Nat,p.Perm (WE m)/\Jd [.int c,.int (m:Int)] S=some (.ref (S++[Ob.lst []]).length,S++[Ob.lst []]++[Ob.lst (p.map λk=>D.int (k:Nat))]):=by
 let I:Nat->D:=λk=>D.int (k:Nat)
 let P:List Nat->List D->Sto->Prop:=λpre acc S'=>∃(an left:List Nat),acc=an.map I/\S'=S++[.lst (left.map I)]/\(an++left).Perm (WE m)/\an.length=pre.length
 have step:∀(pre:List Nat) (k:Nat) (post:List Nat) (acc:List D) (S1:Sto),WE m=pre++k :: post->P pre acc S1->∃en v S2,gN 0 (I k) [none,some (.int c),some (.int (m:Int)),some (.ref S.length)]=some en/\Jb en S1=some (v,S2)/\P (pre++[k]) (acc++[v]) S2:=by
  intro pre k post acc S1 hpre hP;obtain⟨an,left,rfl,rfl,hp,hl⟩:=hP
  obtain⟨hk,hkm⟩:=LM hpre
  have hll:left.length=m-k:=by
   have:=hp.length_eq
   rw [WL,VU] at this;omega
  have m0:=Vr ((c+5*(k:Int))*48271%9967) (b:=(m:Int)-(k:Int)) (by omega)
  have m1:=Vd ((c+5*(k:Int))*48271%9967) (b:=(m:Int)-(k:Int)) (by omega)
  generalize hi:(c+5*(k:Int))*48271%9967%((m:Int)-(k:Int))=i at *
  have hit:i.toNat<left.length:=by omega
  have q1:(0:Int)<9967:=by decide
  have q2:(0:Int)<(m:Int)-(k:Int):=by omega
  have hpop:=LS (a:=Z3 3) (b:=ZM ZZ (Z1 (mOp Jp (Z3 1) (mOp BU (Zf (D.int (5))) (Z3 0))) (Z1 (Zf (D.int (9967))) (Z1 (mOp Sd (Z3 2) (Z3 0)) Zg)))) (en:=[some (.int (k:Int)),some (.int c),some (.int (m:Int)),some (.ref S.length)])
   (S:=S++[.lst (left.map I)]) (n:=S.length) (i:=i) (ds:=left.map I) (d:=I left[i.toNat]) rfl (by simp only [EVS,W8,W9,We,W5,Wg,Wh,Wa,Wb,W7,↓reduceIte,reduceCtorEq,W1,Wc,W6,El,Qx,q1,q2,hi]) (WS ..) ⟨m0,by omega⟩ (by rw [WH,Wl hit];rfl)
  rw [Lz] at hpop;refine⟨_,_,_,rfl,hpop,an++[left[i.toNat]],left.eraseIdx i.toNat,by rw [Vu];rfl,by rw [BE],?_,by rw [WL,WL,hl];rfl⟩
  refine List.Perm.trans ?_ hp
  rw [Vt];exact List.Perm.append_left an (U4 hit)
 have hm100:(WE m).length<=100:=by rw [VU];omega
 obtain⟨acc',S',e,an,left,rfl,rfl,hp,hl⟩:=PQ (ds0:=Td 0 m) (cap:=[none,some (.int c),some (.int (m:Int)),some (.ref S.length)]) (g:=gN 0) (m:=Jb) I (WE m) P hm100 (λpre acc S' h=>by
  obtain⟨an,left,rfl,_,_,hl⟩:=h
  rw [Wm,hl]) step (WE m) [] [] (S++[.lst (Td 0 m)]) rfl ⟨[],WE m,rfl,by rw [G1],.refl _,rfl⟩
 have hl0:left=[]:=by
  have:=hp.length_eq
  rw [WL,hl,VU] at this;exact W0v.mp (by omega)
 subst hl0;rw [V8] at hp;refine⟨an,hp,?_⟩
 have e':Yt (Td 0 m) .no [none,some (.int c),some (.int (m:Int)),some (.ref S.length)] (gN 0) QW Jb (Td 0 m) [] (S++[.lst (Td 0 m)])=some (an.map I,S++[.lst []]):=by
  have h2:=G1 m
  conv=>lhs;arg 7;rw [h2]
  exact e
 have hr:JZ (Z3 1) [some (.int c),some (.int (m:Int)),none] S=some (Td 0 m,S):=RK rfl (by omega)
 unfold Jd;have hrg : -(2 ^ 62)<=(m:Int)/\(m:Int)<2 ^ 62:=⟨by omega,by omega⟩
 simp only [EVS,W8,W9,We,W5,Wg,Wh,Wa,Wb,W7,↓reduceIte,reduceCtorEq,W1,Wc,W6,hr,Nx hrg,VS,e']
 rw [UE (by rw [WL];omega)]
end K08
namespace K08
open PySem L2 DL
abbrev Ya:Str:="NoFile"
abbrev YX:Str:="NoName"
abbrev Yx:Str:="NoWords"
section
variable {S:Sto} {en:En}
theorem JR {nN n:Nat}{r:XR}{ds:List D}{c:Str}{en':En}(hl:ds.length=n)(h:r (Q8 nN ds) S=some (c,en',S)):N2 nN n r ds S=some (c,S):=by
 unfold N2;rw [if_pos hl,h];show some (c,(Uw S (.non,S)).2)=_
 rw [QC rfl]
theorem Tt {nN n:Nat}{r:XR}{ds:List D}(h:r (Q8 nN ds) S=none):N2 nN n r ds S=none:=by
 unfold N2;rw [h];split<;>rfl
theorem JS {c:M Bool}{r q:XR}{b:Bool}(h:c en S=some (b,S)):rIf c r q en S=if b then r en S else q en S:=by
 unfold rIf;rw [h];rfl
theorem LP {r q:XR}{p:Str×En×Sto}(h:r en S=some p):rOr r q en S=some p:=by unfold rOr;rw [h]
theorem LO {r q:XR}(h:r en S=none):rOr r q en S=q en S:=by unfold rOr;rw [h]
theorem LN {m:MS}{r:XR}{en1:En}{S1:Sto}(h:m en S=some (.nx,en1,S1)):R9 m r en S=r en1 S1:=by unfold R9;rw [h];rfl
theorem B3 {F:List D->Sto->Option (Str×Sto)}{m:M (List D)}{ds:List D}(h:m en S=some (ds,S)):Te F m en S=(F ds S).map λq=>(q.1,en,q.2):=by unfold Te;rw [h];rfl
theorem YH {i n:Int}{E:List Ent}{m:Str}{F:List D->Sto->Option (Str×Sto)}{mo:M D}{ma:M (List D)}{ds:List D}(h:At S i n E)(ho:mo en S=some (.ref 0,S))(hm:∀i n:Int,((hf i n).lookup m).isNone=true)(ha:ma en S=some (ds,S)) :
  YO "House" m F mo ma en S=(F (.ref 0 :: ds) S).map λq=>(q.1,en,q.2):=by
 unfold YO;rw [ho];show (QJ S 0 "House").bind _=_
 rw [TB h];show (if _ then _ else _)=_
 rw [if_pos (hm i n),ha];rfl
theorem FY {v:D}(h:ZE [v] S=some (.bl false,S)):Zz [v] S=some (YX,S):=by
 refine JR (en':=[some v]) rfl ?_
 show rIf _ _ _ [some v] S=_
 rw [JS (b:=true) (by simp only [EVS,W8,W9,We,W5,Wg,Wh,Wa,Wb,W7,↓reduceIte,reduceCtorEq,W1,Wc,W6,h])]
 rfl
theorem Xo {v:D}(h:ZE [v] S=some (.bl true,S)):Zz [v] S=none:=by
 refine Tt ?_
 show rIf _ _ _ [some v] S=_
 rw [JS (b:=false) (by simp only [EVS,W8,W9,We,W5,Wg,Wh,Wa,Wb,W7,↓reduceIte,reduceCtorEq,W1,Wc,W6,h])]
 rfl
theorem FX {v:D}(h:ZR [v] S=some (.bl false,S)):Zy [v] S=some (Yx,S):=by
 refine JR (en':=[some v]) rfl ?_
 show rIf _ _ _ [some v] S=_
 rw [JS (b:=true) (by simp only [EVS,W8,W9,We,W5,Wg,Wh,Wa,Wb,W7,↓reduceIte,reduceCtorEq,W1,Wc,W6,h])]
 rfl
theorem Xn {v:D}(h:ZR [v] S=some (.bl true,S)):Zy [v] S=none:=by
 refine Tt ?_
 show rIf _ _ _ [some v] S=_
 rw [JS (b:=false) (by simp only [EVS,W8,W9,We,W5,Wg,Wh,Wa,Wb,W7,↓reduceIte,reduceCtorEq,W1,Wc,W6,h])]
 rfl
variable {i n:Int} {E:List Ent} {e:Ent} {k v t:D}
theorem SX (h:At S i n E)(hk:Qd k (.ref 1) S=some (.bl true,S)):Y3 [.ref 0,k] S=some (Ya,S):=by
 refine JR (en':=[some (.ref 0),some k]) rfl ?_
 show rIf _ _ _ [some (.ref 0),some k] S=_
 rw [JS (b:=true) (by simp only [EVS,W8,W9,We,W5,Wg,Wh,Wa,Wb,W7,↓reduceIte,reduceCtorEq,W1,Wc,W6,ND,QZ h,hk])]
 rfl
theorem Xp (h:At S i n E)(hk:Qd k (.ref 1) S=some (.bl false,S)):Y3 [.ref 0,k] S=none:=by
 refine Tt ?_
 show rIf _ _ _ [some (.ref 0),some k] S=_
 rw [JS (b:=false) (by simp only [EVS,W8,W9,We,W5,Wg,Wh,Wa,Wb,W7,↓reduceIte,reduceCtorEq,W1,Wc,W6,ND,QZ h,hk])]
 rfl
theorem SV (h:At S i n E)(hk:Qd k (.ref 1) S=some (.bl true,S)):Za [.ref 0,k] S=some (Ya,S):=by
 refine JR (en':=[some (.ref 0),some k,none]) rfl ?_
 show rOr _ _ [some (.ref 0),some k,none] S=_
 refine LP ?_
 rw [YH (ds:=[k]) h rfl (λ_ _=>rfl) rfl,SX h hk]
 rfl
theorem Cm (h:At S i n E)(w:Wf n E)(he:e∈E):Za [.ref 0,key i e] S=if e.ts.isEmpty then some (Ya,S) else none:=by
 have q:rOr (YO "House" "file" Y3 (Z3 0) (Z1 (Z3 1) Zg)) (R9 (YE (Yj "House" "file" Zu (Z3 0) (Z1 (Z3 1) Zg)) (gN 2)) (rIf (Bj (ZM YW (Z1 (Z3 2) Zg))) (Tu "NoFile") rNo)) [some (.ref 0),some (key i e),none] S=if e.ts.isEmpty then some (Ya,[some (.ref 0),some (key i e),some (fl i e)],S) else none:=by
  rw [LO,LN (en1:=[some (.ref 0),some (key i e),some (fl i e)]) (S1:=S),JS (b:=e.ts.isEmpty)]
  ·rfl
  ·have g1:=Pm (i:=i) (S:=S) e
   simp only [EVS,W8,W9,We,W5,Wg,Wh,Wa,Wb,W7,↓reduceIte,reduceCtorEq,W1,Wc,W6,g1]
  ·simp only [EVS,W8,W9,We,W5,Wg,Wh,Wa,Wb,W7,↓reduceIte,reduceCtorEq,W1,Wc,W6,Qe,Yc (m:="file") h (λ_ _=>rfl),Qb,JI h w he]
  ·rw [YH (ds:=[key i e]) h rfl (λ_ _=>rfl) rfl,Xp h (DK w.nd h.h1 he).1]
   rfl
 by_cases g:e.ts.isEmpty=true
 ·rw [if_pos g] at q ⊢
  exact JR rfl q
 ·rw [if_neg g] at q ⊢
  exact Tt q
def Off (S:Sto)(k:D):Prop:=Za [.ref 0,k] S=some (Ya,S)
theorem EY (hv:ZE [v] S=some (.bl false,S)):Yz [.ref 0,v,t] S=some (YX,S):=by
 refine JR (en':=[some (.ref 0),some v,some t,none]) rfl ?_
 show rOr _ _ [some (.ref 0),some v,some t,none] S=_
 refine LP ?_
 rw [B3 (ds:=[v]) rfl,FY hv]
 rfl
theorem EW (hv:ZE [v] S=some (.bl true,S))(hr:Zo [v] S=some (.non,S))(ht:ZR [t] S=some (.bl false,S)):Yz [.ref 0,v,t] S=some (Yx,S):=by
 refine JR (en':=[some (.ref 0),some v,some t,none]) rfl ?_
 show rOr _ _ [some (.ref 0),some v,some t,none] S=_
 rw [LO (by rw [B3 (ds:=[v]) rfl,Xo hv];rfl),LN (en1:=[some (.ref 0),some v,some t,none]) (S1:=S) (by simp only [EVS,W8,W9,We,W5,Wg,Wh,Wa,Wb,W7,↓reduceIte,reduceCtorEq,W1,Wc,W6,hr]),B3 (ds:=[t]) rfl,FX ht]
 rfl
theorem Ln (h:At S i n E)(hk:Off S k):Yd [.ref 0,k,t] S=some (Ya,S):=by
 refine JR (en':=[some (.ref 0),some k,some t,none,none]) rfl ?_
 show rOr _ _ [some (.ref 0),some k,some t,none,none] S=_
 refine LP ?_
 rw [YH (ds:=[k]) h rfl (λ_ _=>rfl) rfl,hk]
 rfl
theorem Sj (h:At S i n E)(hk:Off S k):Yf [.ref 0,k,t] S=some (Ya,S):=by
 refine JR (en':=[some (.ref 0),some k,some t,none,none]) rfl ?_
 show rOr _ _ [some (.ref 0),some k,some t,none,none] S=_
 refine LP ?_
 rw [YH (ds:=[k]) h rfl (λ_ _=>rfl) rfl,hk]
 rfl
theorem Sk (h:At S i n E)(hk:Off S k):YV [.ref 0,k] S=some (Ya,S):=by
 refine JR (en':=[some (.ref 0),some k,none]) rfl ?_
 show YO _ _ _ _ _ [some (.ref 0),some k,none] S=_
 rw [YH (ds:=[k]) h rfl (λ_ _=>rfl) rfl,hk]
 rfl
theorem Si (h:At S i n E)(hk:Off S k):Yn [.ref 0,k] S=some (Ya,S):=by
 refine JR (en':=[some (.ref 0),some k]) rfl ?_
 show YO _ _ _ _ _ [some (.ref 0),some k] S=_
 rw [YH (ds:=[k]) h rfl (λ_ _=>rfl) rfl,hk]
 rfl
theorem Kw (h:At S i n E)(w:Wf n E)(he:e∈E)(hl:e.ts.isEmpty=false){o:Option (Str×Sto)}(ho:Zy [t] S=o)(hs:∀p,o=some p->p.2=S):Yd [.ref 0,key i e,t] S=o:=by
 have q:rOr (YO "House" "file_on_shelf" Za (Z3 0) (Z1 (Z3 1) Zg)) (R9 (YE (Yj "House" "file_on_shelf" Z6 (Z3 0) (Z1 (Z3 1) Zg)) (gN 3)) (Te Zy (Z1 (Z3 2) Zg))) [some (.ref 0),some (key i e),some t,none,none] S=o.map λq=>(q.1,[some (.ref 0),some (key i e),some t,some (fl i e),none],q.2):=by
  rw [LO,LN (en1:=[some (.ref 0),some (key i e),some t,some (fl i e),none]) (S1:=S),B3 (ds:=[t]) rfl,ho]
  ·simp only [EVS,W8,W9,We,W5,Wg,Wh,Wa,Wb,W7,↓reduceIte,reduceCtorEq,W1,Wc,W6,Qe,Yc (m:="file_on_shelf") h (λ_ _=>rfl),Qb,Ux h w he hl]
  ·rw [YH (ds:=[key i e]) h rfl (λ_ _=>rfl) rfl,Cm h w he,hl]
   rfl
 cases o with
 |none=>exact Tt q
 |some p=>obtain⟨c,S1⟩:=p;obtain rfl:S1=S:=hs _ rfl;exact JR rfl q
theorem OS (h:At S i n E)(w:Wf n E)(he:e∈E)(hl:e.ts.isEmpty=false){o:Option (Str×Sto)}(ho:Zz [t] S=o)(hs:∀p,o=some p->p.2=S):Yf [.ref 0,key i e,t] S=o:=by
 have q:rOr (YO "House" "file_on_shelf" Za (Z3 0) (Z1 (Z3 1) Zg)) (R9 (YE (Yj "House" "file_on_shelf" Z6 (Z3 0) (Z1 (Z3 1) Zg)) (gN 3)) (Te Zz (Z1 (Z3 2) Zg))) [some (.ref 0),some (key i e),some t,none,none] S=o.map λq=>(q.1,[some (.ref 0),some (key i e),some t,some (fl i e),none],q.2):=by
  rw [LO,LN (en1:=[some (.ref 0),some (key i e),some t,some (fl i e),none]) (S1:=S),B3 (ds:=[t]) rfl,ho]
  ·simp only [EVS,W8,W9,We,W5,Wg,Wh,Wa,Wb,W7,↓reduceIte,reduceCtorEq,W1,Wc,W6,Qe,Yc (m:="file_on_shelf") h (λ_ _=>rfl),Qb,Ux h w he hl]
  ·rw [YH (ds:=[key i e]) h rfl (λ_ _=>rfl) rfl,Cm h w he,hl]
   rfl
 cases o with
 |none=>exact Tt q
 |some p=>obtain⟨c,S1⟩:=p;obtain rfl:S1=S:=hs _ rfl;exact JR rfl q
def En7 (deed which name text:D):En:=[some (.ref 0),some deed,some which,some name,some text,some (.str "none"),none]
theorem Ju {deed which name text:D}{c:Str}(hc:c∈xcs)(h:Zh (En7 deed which name text) S=some (c,En7 deed which name text,S)):Ye [.ref 0,deed,which,name,text] S=some (.tup (xks.map λk=>.bl (isx c k)),S):=by
 have t:Hb xcs xks 6 5 YF Zh [some (.ref 0),some deed,some which,some name,some text,some (.str "none"),none] S=some (.nx,[some (.ref 0),some deed,some which,some name,some text,some (.tup (xks.map λk=>.bl (isx c k))),none],S):=by
  have h':Zh [some (.ref 0),some deed,some which,some name,some text,some (.str "none"),none] S=_:=h
  unfold Hb;rw [h'];show (if _ then _ else _)=_
  rw [if_pos ⟨hc,by show 6<7;decide⟩]
  rfl
 unfold Ye;simp only [EVS,W8,W9,We,W5,Wg,Wh,Wa,Wb,W7,↓reduceIte,reduceCtorEq,W1,Wc,W6,t]
theorem eqs {x y:Str}{a:Option D}:(mT (mOp gEq (Z3 1) (Zf (.str y)))) (a :: some (.str x) :: en) S=some (decide (x=y),S):=by
 simp only [EVS,W8,W9,We,W5,Wg,Wh,Wa,Wb,W7,↓reduceIte,reduceCtorEq,W1,Wc,W6]
theorem N3:decide ((W0 "make")=W0 "make")=true:=by decide +kernel
theorem Uh:decide ((W0 "write")=W0 "make")=false:=by decide +kernel
theorem G8:decide ((W0 "write")=W0 "write")=true:=by decide +kernel
theorem G9:decide ((W0 "rename")=W0 "make")=false:=by decide +kernel
theorem Tf:decide ((W0 "rename")=W0 "write")=false:=by decide +kernel
theorem UM:decide ((W0 "rename")=W0 "rename")=true:=by decide +kernel
theorem N7:decide ((W0 "drop")=W0 "make")=false:=by decide +kernel
theorem B5:decide ((W0 "drop")=W0 "write")=false:=by decide +kernel
theorem Gb:decide ((W0 "drop")=W0 "rename")=false:=by decide +kernel
theorem N8:decide ((W0 "drop")=W0 "drop")=true:=by decide +kernel
theorem N4:decide ((W0 "file")=W0 "make")=false:=by decide +kernel
theorem B4:decide ((W0 "file")=W0 "write")=false:=by decide +kernel
theorem Ga:decide ((W0 "file")=W0 "rename")=false:=by decide +kernel
theorem N6:decide ((W0 "file")=W0 "drop")=false:=by decide +kernel
theorem N5:decide ((W0 "file")=W0 "file")=true:=by decide +kernel
theorem MP:decide ((W0 "ask")=W0 "make")=false:=by decide +kernel
theorem N9:decide ((W0 "ask")=W0 "write")=false:=by decide +kernel
theorem B6:decide ((W0 "ask")=W0 "rename")=false:=by decide +kernel
theorem MR:decide ((W0 "ask")=W0 "drop")=false:=by decide +kernel
theorem MQ:decide ((W0 "ask")=W0 "file")=false:=by decide +kernel
theorem L8 {a:Option D}:Zh (a :: some (.str "make") :: en) S=YO "House" "make" Yz (Z3 0) (Z1 (Z3 3) (Z1 (Z3 4) Zg)) (a :: some (.str "make") :: en) S:=by
 unfold Zh;rw [JS eqs,N3];rw [if_pos rfl]
theorem GL {a:Option D}:Zh (a :: some (.str "write") :: en) S=YO "House" "write" Yd (Z3 0) (Z1 (Z3 2) (Z1 (Z3 4) Zg)) (a :: some (.str "write") :: en) S:=by
 unfold Zh;rw [JS eqs,Uh];rw [if_neg Wq];rw [JS eqs,G8];rw [if_pos rfl]
theorem BT {a:Option D}:Zh (a :: some (.str "rename") :: en) S=YO "House" "rename" Yf (Z3 0) (Z1 (Z3 2) (Z1 (Z3 3) Zg)) (a :: some (.str "rename") :: en) S:=by
 unfold Zh;rw [JS eqs,G9];rw [if_neg Wq];rw [JS eqs,Tf];rw [if_neg Wq];rw [JS eqs,UM];rw [if_pos rfl]
theorem HQ {a:Option D}:Zh (a :: some (.str "drop") :: en) S=YO "House" "drop" YV (Z3 0) (Z1 (Z3 2) Zg) (a :: some (.str "drop") :: en) S:=by
 unfold Zh;rw [JS eqs,N7];rw [if_neg Wq];rw [JS eqs,B5];rw [if_neg Wq];rw [JS eqs,Gb];rw [if_neg Wq];rw [JS eqs,N8];rw [if_pos rfl]
theorem HN {a:Option D}:Zh (a :: some (.str "file") :: en) S=YO "House" "file" Y3 (Z3 0) (Z1 (Z3 2) Zg) (a :: some (.str "file") :: en) S:=by
 unfold Zh;rw [JS eqs,N4];rw [if_neg Wq];rw [JS eqs,B4];rw [if_neg Wq];rw [JS eqs,Ga];rw [if_neg Wq];rw [JS eqs,N6];rw [if_neg Wq];rw [JS eqs,N5];rw [if_pos rfl]
theorem OA {a:Option D}:Zh (a :: some (.str "ask") :: en) S=YO "House" "text_of" Yn (Z3 0) (Z1 (Z3 2) Zg) (a :: some (.str "ask") :: en) S:=by
 unfold Zh;rw [JS eqs,MP];rw [if_neg Wq];rw [JS eqs,N9];rw [if_neg Wq];rw [JS eqs,B6];rw [if_neg Wq];rw [JS eqs,MR];rw [if_neg Wq];rw [JS eqs,MQ];rw [if_neg Wq]
end
end K08
namespace K08
open PySem L2 DL
def Pre (S S':Sto):Prop:=∃G,S'=S++G
theorem Pre.refl (S:Sto):Pre S S:=⟨[],by simp⟩
theorem Pre.one (S G:Sto):Pre S (S++G):=⟨G,rfl⟩
theorem Pre.trans {S S1 S2:Sto}(a:Pre S S1)(b:Pre S1 S2):Pre S S2:=by
 obtain⟨G,rfl⟩:=a
 obtain⟨G',rfl⟩:=b
 exact⟨G++G',by rw [Vt]⟩
theorem Pre.at {S S':Sto}{n:Nat}{o:Ob}(a:Pre S S')(h:S[n]? = some o):S'[n]? = some o:=by
 obtain⟨G,rfl⟩:=a
 exact up h
def NoN (v:D):Prop:=∀S,ZE [v] S=some (.bl false,S)
def NoT (S:Sto)(v:D):Prop:=∀S',Pre S S'->ZR [v] S'=some (.bl false,S')
theorem O6 {c p:Int}(hp:0<p):c%p%8=0\/c%p%8=1\/c%p%8=2\/c%p%8=3\/c%p%8=4\/c%p%8=5\/c%p%8=6\/c%p%8=7:=by
 have h1:=Vr (c%p) (show (8:Int)≠0 by decide)
 have h2:=Vd (c%p) (show (0:Int)<8 by decide)
 omega
def BAD:List D:=[.str (W0 ""),.str (W0 "abcdefg"),.str (W0 "Ab"),.str (W0 "a1"),.int 7,.non,.tup [.str (W0 "ab")],.bl true]
theorem F4 {x:Str}(h1:x.length<=Wd)(h2:BC x=false):NoN (.str x):=λS=>by rw [Nh h1,h2]
theorem Z1G (c:Int):∃v,(∀S,Qt [.int c,.int 0] S=some (v,S))/\NoN v:=by
 have z8:8<=Wd:=by decide
 have z1:1<=Wd:=by decide
 have key:∀(j:Int) (v:D),c*48271%9811%8=j->(∀S,gIx (.tup BAD) (.int j) S=some (v,S))->NoN v->∃v,(∀S,Qt [.int c,.int 0] S=some (v,S))/\NoN v:=λj v hj hx hn=>⟨v,λS=>by
  have m1:=Qx (c:=c) (p:=9811) (m:=8) (S:=S) (by decide) (by decide)
  rw [hj] at m1;have x1:=hx S
  unfold BAD at x1;have d01:decide ((0:Int)=1)=false:=by decide
  unfold Qt;simp only [EVS,W8,W9,We,W5,Wg,Wh,Wa,Wb,W7,↓reduceIte,reduceCtorEq,W1,Wc,W6,d01,z8,z1,m1,x1]
  ,hn⟩
 rcases O6 (c:=c*48271) (p:=9811) (by decide) with e|e|e|e|e|e|e|e
 ·exact key 0 _ e (λ_=>rfl) (F4 (by decide) (by decide +kernel))
 ·exact key 1 _ e (λ_=>rfl) (F4 (by decide) (by decide +kernel))
 ·exact key 2 _ e (λ_=>rfl) (F4 (by decide) (by decide +kernel))
 ·exact key 3 _ e (λ_=>rfl) (F4 (by decide) (by decide +kernel))
 ·exact key 4 _ e (λ_=>rfl) λS=>Gj (T:="int") rfl (by decide +kernel)
 ·exact key 5 _ e (λ_=>rfl) λS=>Gj (T:="NoneType") rfl (by decide +kernel)
 ·exact key 6 _ e (λ_=>rfl) λS=>Gj (T:="tuple") rfl (by decide +kernel)
 ·exact key 7 _ e (λ_=>rfl) λS=>Gj (T:="bool") rfl (by decide +kernel)
def A61:Str:=Txt.mul (W0 "a") 61
def B70:Str:=Txt.mul (W0 "b") 70
def WRS (n:Nat):List D:=[.str A61,.int 0,.non,.tup [.str (W0 "a")],.bl true,.ref n,.str B70,.tup [.str (W0 "a"),.str (W0 "b")]]
theorem IM {S:Sto}{x:Str}(h1:x.length<=Wd)(h2:T0 x=false):NoT S (.str x):=λS' _=>by rw [BY h1,h2]
theorem Z1F (c:Int)(S:Sto):∃v S1,Qt [.int c,.int 1] S=some (v,S1)/\Pre S S1/\NoT S1 v:=by
 have z8:8<=Wd:=by decide
 have z1:1<=Wd:=by decide
 have z2:2<=Wd:=by decide
 have ma:∀S,BU (.str (W0 "a")) (.int 61) S=some (.str A61,S):=λS=>Ek (by decide)
 have mb:∀S,BU (.str (W0 "b")) (.int 70) S=some (.str B70,S):=λS=>Ek (by decide)
 have key:∀(j:Int) (v:D) (S1:Sto),c*48271%9811%8=j->(∀S',gIx (.tup (WRS S.length)) (.int j) S'=some (v,S'))->Uw S (v,S++[.lst [.str (W0 "a")]])=(v,S1)->Pre S S1->NoT S1 v->∃v S1,Qt [.int c,.int 1] S=some (v,S1)/\Pre S S1/\NoT S1 v:=λj v S1 hj hx ht hp hn=>⟨v,S1,by
  have m1:=Qx (c:=c) (p:=9811) (m:=8) (S:=S++[.lst [.str (W0 "a")]]) (by decide) (by decide)
  rw [hj] at m1;have x1:=hx (S++[.lst [.str (W0 "a")]])
  unfold WRS at x1;unfold Qt;simp only [EVS,W8,W9,We,W5,Wg,Wh,Wa,Wb,W7,↓reduceIte,reduceCtorEq,W1,Wc,W6,z8,z1,z2,ma,mb,m1,x1]
  rw [ht]
  ,hp,hn⟩
 have low:∀v,To S.length v=true->Uw S (v,S++[.lst [.str (W0 "a")]])=(v,S):=λv h=>GV _ _ _ h
 rcases O6 (c:=c*48271) (p:=9811) (by decide) with e|e|e|e|e|e|e|e
 ·exact key 0 _ S e (λ_=>rfl) (low _ rfl) (.refl S) (IM (by decide +kernel) (by decide +kernel))
 ·exact key 1 _ S e (λ_=>rfl) (low _ rfl) (.refl S) λS' _=>JX (T:="int") rfl (by decide +kernel)
 ·exact key 2 _ S e (λ_=>rfl) (low _ rfl) (.refl S) λS' _=>JX (T:="NoneType") rfl (by decide +kernel)
 ·exact key 3 _ S e (λ_=>rfl) (low _ rfl) (.refl S) λS' _=>JX (T:="tuple") rfl (by decide +kernel)
 ·exact key 4 _ S e (λ_=>rfl) (low _ rfl) (.refl S) λS' _=>JX (T:="bool") rfl (by decide +kernel)
 ·refine key 5 _ _ e (λ_=>rfl) (UE (Wt _)) (.one _ _) λS' hp=>JX (T:="list") ?_ (by decide +kernel)
  have h:=hp.at (WS ..)
  dsimp only [tyD];rw [h]
 ·exact key 6 _ S e (λ_=>rfl) (low _ rfl) (.refl S) (IM (by decide +kernel) (by decide +kernel))
 ·exact key 7 _ S e (λ_=>rfl) (low _ rfl) (.refl S) λS' _=>JX (T:="tuple") rfl (by decide +kernel)
theorem Sc {ms:M (List D)}{en:En}{S:Sto}{k:Nat}{A B:List D}(hv:Z3 11 en S=some (.ref k,S))(hk:S[k]? = some (.lst A))(hm:ms en S=some (B,S))(hA:A.length<=50)(hB:B.length<=10) :
  ∃k' S',mOp Jp (Z3 11) (Mb ms) en S=some (.ref k',S')/\S.length<=k'/\Pre S S'/\S'[k']? = some (.lst (A++B)):=by
 have hz:1000<=Wd:=by decide
 have zB:B.length<=Wd:=by omega
 have a1:=EK (S:=S++[.lst B]) (up hk) (WS ..) (show A.length+B.length<=Wd by omega)
 refine⟨_,_,?_,?_,(Pre.one S [.lst B]).trans (.one _ [.lst (A++B)]),WS ..⟩
 ·rw [Z0a,hv]
  simp only [EVS,W8,W9,We,W5,Wg,Wh,Wa,Wb,W7,↓reduceIte,reduceCtorEq,W1,Wc,W6,hm,JH zB,a1]
 ·simp
def nF:D:=.tup [.bl true,.bl true,.bl false,.bl false]
def nN:D:=.tup [.bl true,.bl false,.bl true,.bl false]
def nW:D:=.tup [.bl true,.bl false,.bl false,.bl true]
def EA (c:Int)(lv gn st:D)(x t:Str)(v w:D)(k:Nat)(q:Option D):En:=[some (.int c),some lv,some gn,some st,some (.str x),some (.str t),some v,some w,some nF,some nN,some nW,some (.ref k),q]
def ask (d:Str)(k v t u:D):D:=.tup [.str d,k,v,t,u]
def six (x t:Str)(v w q:D):List D:=[ask "write" q (.str x) (.str t) nF,ask "write" q (.str x) w nF,ask "rename" q (.str x) (.str t) nF,ask "rename" q v (.str t) nF,ask "drop" q (.str x) (.str t) nF,ask "ask" q (.str x) (.str t) nF]
theorem asg {a:M D}{en:En}{S S':Sto}{d:D}{i:Nat}(h:a en S=some (d,S')):YE a (gN i) en S=some (.nx,en.set i (some d),S'):=by
 unfold YE;rw [h];rfl
section
variable {c:Int} {lv gn st v w:D} {x t:Str}
theorem Sq {S:Sto}{k:Nat}{q:D}{A:List D}(hk:S[k]? = some (.lst A))(hA:A.length<=30):∃k' S',Q7 (EA c lv gn st x t v w k (some q)) S=some (.nx,EA c lv gn st x t v w k' (some q),S')/\S.length<=k'/\Pre S S'/\S'[k']? = some (.lst (A++six x t v w q)):=by
 have z5:5<=Wd:=by decide
 obtain⟨k1,S1,e1,l1,p1,h1⟩:=Sc (ms:=Z1 (Ys (Z1 (Zf (D.str (W0 "write"))) (Z1 (Z3 12) (Z1 (Z3 4) (Z1 (Z3 5) (Z1 (Z3 8) Zg)))))) (Z1 (Ys (Z1 (Zf (D.str (W0 "write"))) (Z1 (Z3 12) (Z1 (Z3 4) (Z1 (Z3 7) (Z1 (Z3 8) Zg)))))) Zg)) (en:=EA c lv gn st x t v w k (some q)) (B:=[ask "write" q (.str x) (.str t) nF,ask "write" q (.str x) w nF]) rfl hk (by unfold EA;simp only [EVS,W8,W9,We,W5,Wg,Wh,Wa,Wb,W7,↓reduceIte,reduceCtorEq,W1,Wc,W6,z5];rfl) (by omega) (show 2<=10 by decide)
 obtain⟨k2,S2,e2,l2,p2,h2⟩:=Sc (ms:=Z1 (Ys (Z1 (Zf (D.str (W0 "rename"))) (Z1 (Z3 12) (Z1 (Z3 4) (Z1 (Z3 5) (Z1 (Z3 8) Zg)))))) (Z1 (Ys (Z1 (Zf (D.str (W0 "rename"))) (Z1 (Z3 12) (Z1 (Z3 6) (Z1 (Z3 5) (Z1 (Z3 8) Zg)))))) Zg)) (en:=EA c lv gn st x t v w k1 (some q)) (B:=[ask "rename" q (.str x) (.str t) nF,ask "rename" q v (.str t) nF]) rfl h1 (by unfold EA;simp only [EVS,W8,W9,We,W5,Wg,Wh,Wa,Wb,W7,↓reduceIte,reduceCtorEq,W1,Wc,W6,z5];rfl) (by rw [WL];show A.length+2<=50;omega) (show 2<=10 by decide)
 obtain⟨k3,S3,e3,l3,p3,h3⟩:=Sc (ms:=Z1 (Ys (Z1 (Zf (D.str (W0 "drop"))) (Z1 (Z3 12) (Z1 (Z3 4) (Z1 (Z3 5) (Z1 (Z3 8) Zg)))))) (Z1 (Ys (Z1 (Zf (D.str (W0 "ask"))) (Z1 (Z3 12) (Z1 (Z3 4) (Z1 (Z3 5) (Z1 (Z3 8) Zg)))))) Zg)) (en:=EA c lv gn st x t v w k2 (some q)) (B:=[ask "drop" q (.str x) (.str t) nF,ask "ask" q (.str x) (.str t) nF]) rfl h2 (by unfold EA;simp only [EVS,W8,W9,We,W5,Wg,Wh,Wa,Wb,W7,↓reduceIte,reduceCtorEq,W1,Wc,W6,z5];rfl) (by rw [WL,WL];show A.length+2+2<=50;omega) (show 2<=10 by decide)
 have q1:S.length<=S1.length:=by obtain⟨G,rfl⟩:=p1;simp
 have q2:S1.length<=S2.length:=by obtain⟨G,rfl⟩:=p2;simp
 refine⟨k3,S3,?_,by omega,(p1.trans p2).trans p3,?_⟩
 ·unfold Q7
  exact Y5 (asg e1) (Y5 (asg e2) (asg e3))
 ·rw [h3,Vt,Vt]
  rfl
def Us (x t:Str)(v w lv gn st:D):List D:=[ask "make" lv v (.str t) nN,ask "make" lv v w nN,ask "make" lv (.str x) w nW,ask "write" lv (.str x) w nW,ask "rename" lv v (.str t) nN]++six x t v w gn++six x t v w st++[ask "file" st (.str x) (.str t) nF]
theorem L9 (c:Int)(lv gn st:D)(S:Sto):∃x t v w k S',QM [.int c,lv,gn,st] S=some (.ref k,S')/\Pre S S'/\S'[k]? = some (.lst (Us x t v w lv gn st))/\((1<=(cs x).length/\(cs x).length<=6)/\∀ch∈cs x,97<=ch/\ch<=122)/\NoN v/\NoT S' w:=by
 have z5:5<=Wd:=by decide
 have z4:4<=Wd:=by decide
 have z2:2<=Wd:=by decide
 obtain⟨x,x1,x2,x3⟩:=Rx (c+3)
 obtain⟨t,t1,t2,t3⟩:=text_of (c+4)
 obtain⟨v,v1,v2⟩:=Z1G c
 obtain⟨w,S0,w1,p0,w2⟩:=Z1F (c+1) S
 have hS1:Pre S0 (S0++[.lst [ask "make" lv v (.str t) nN,ask "make" lv v w nN]]):=.one _ _
 have hk0:(S0++[Ob.lst [ask "make" lv v (.str t) nN,ask "make" lv v w nN]])[S0.length]? = some (.lst [ask "make" lv v (.str t) nN,ask "make" lv v w nN]):=WS ..
 generalize hk:S0.length=k at hk0
 generalize hS:S0++[Ob.lst [ask "make" lv v (.str t) nN,ask "make" lv v w nN]]=S1 at hS1 hk0
 obtain⟨k2,S2,e2,l2,p2,h2⟩:=Sc (ms:=Z1 (Ys (Z1 (Zf (D.str (W0 "make"))) (Z1 (Z3 1) (Z1 (Z3 4) (Z1 (Z3 7) (Z1 (Z3 10) Zg)))))) (Z1 (Ys (Z1 (Zf (D.str (W0 "write"))) (Z1 (Z3 1) (Z1 (Z3 4) (Z1 (Z3 7) (Z1 (Z3 10) Zg)))))) Zg)) (en:=EA c lv gn st x t v w k none) (B:=[ask "make" lv (.str x) w nW,ask "write" lv (.str x) w nW]) rfl hk0 (by unfold EA;simp only [EVS,W8,W9,We,W5,Wg,Wh,Wa,Wb,W7,↓reduceIte,reduceCtorEq,W1,Wc,W6,z5];rfl) (show 2<=50 by decide) (show 2<=10 by decide)
 obtain⟨k3,S3,e3,l3,p3,h3⟩:=Sc (ms:=Z1 (Ys (Z1 (Zf (D.str (W0 "rename"))) (Z1 (Z3 1) (Z1 (Z3 6) (Z1 (Z3 5) (Z1 (Z3 9) Zg)))))) Zg) (en:=EA c lv gn st x t v w k2 none) (B:=[ask "rename" lv v (.str t) nN]) rfl h2 (by unfold EA;simp only [EVS,W8,W9,We,W5,Wg,Wh,Wa,Wb,W7,↓reduceIte,reduceCtorEq,W1,Wc,W6,z5];rfl) (show 4<=50 by decide) (show 1<=10 by decide)
 obtain⟨k4,S4,e4,l4,p4,h4⟩:=Sq (c:=c) (lv:=lv) (gn:=gn) (st:=st) (v:=v) (w:=w) (x:=x) (t:=t) (q:=gn) h3 (show 5<=30 by decide)
 obtain⟨k5,S5,e5,l5,p5,h5⟩:=Sq (c:=c) (lv:=lv) (gn:=gn) (st:=st) (v:=v) (w:=w) (x:=x) (t:=t) (q:=st) h4 (show 11<=30 by decide)
 obtain⟨k6,S6,e6,l6,p6,h6⟩:=Sc (ms:=Z1 (Ys (Z1 (Zf (D.str (W0 "file"))) (Z1 (Z3 3) (Z1 (Z3 4) (Z1 (Z3 5) (Z1 (Z3 8) Zg)))))) Zg) (en:=EA c lv gn st x t v w k5 (some st)) (B:=[ask "file" st (.str x) (.str t) nF]) rfl h5 (by unfold EA;simp only [EVS,W8,W9,We,W5,Wg,Wh,Wa,Wb,W7,↓reduceIte,reduceCtorEq,W1,Wc,W6,z5];rfl) (show 17<=50 by decide) (show 1<=10 by decide)
 have loop:RJ (JB (Ys (Z1 (Z3 2) (Z1 (Z3 3) Zg)))) (gN 12) Q7 (EA c lv gn st x t v w k3 none) S3=some (.nx,EA c lv gn st x t v w k5 (some st),S5):=by
  have i0:JB (Ys (Z1 (Z3 2) (Z1 (Z3 3) Zg))) (EA c lv gn st x t v w k3 none) S3=some (([gn,st],.no),S3):=by
   unfold EA;simp only [EVS,W8,W9,We,W5,Wg,Wh,Wa,Wb,W7,↓reduceIte,reduceCtorEq,W1,Wc,W6,z2]
  rw [PC,i0,Gu,T3];show Tp _ _ _ _ (Q7 (EA c lv gn st x t v w k3 (some gn)) S3)=_
  rw [e4,Qc,T3];show Tp _ _ _ _ (Q7 (EA c lv gn st x t v w k4 (some st)) S4)=_
  rw [e5,Qc,Mx]
 have lens:S.length<=S5.length:=by
  obtain⟨_,rfl⟩:=((((p0.trans hS1).trans p2).trans p3).trans p4).trans p5
  simp
 refine⟨x,t,v,w,k6,S6,?_,(((((p0.trans hS1).trans p2).trans p3).trans p4).trans p5).trans p6,?_,⟨x1,x2⟩,v2,λS' h=>w2 S' ((((((hS1.trans p2).trans p3).trans p4).trans p5).trans p6).trans h)⟩
 ·have body:JA [some (.int c),some lv,some gn,some st,none,none,none,none,none,none,none,none,none] S=some (.rt (.ref k6),EA c lv gn st x t v w k5 (some st),S6):=by
   refine Y5 (asg (d:=.str x) (S':=S) (by simp only [EVS,W8,W9,We,W5,Wg,Wh,Wa,Wb,W7,↓reduceIte,reduceCtorEq,W1,Wc,W6,x3])) ?_
   refine Y5 (asg (d:=.str t) (S':=S) (by simp only [EVS,W8,W9,We,W5,Wg,Wh,Wa,Wb,W7,↓reduceIte,reduceCtorEq,W1,Wc,W6,t3])) ?_
   refine Y5 (asg (d:=v) (S':=S) (by simp only [EVS,W8,W9,We,W5,Wg,Wh,Wa,Wb,W7,↓reduceIte,reduceCtorEq,W1,Wc,W6,v1])) ?_
   refine Y5 (asg (d:=w) (S':=S0) (by simp only [EVS,W8,W9,We,W5,Wg,Wh,Wa,Wb,W7,↓reduceIte,reduceCtorEq,W1,Wc,W6,w1])) ?_
   refine Y5 (asg (d:=nF) (S':=S0) (by simp only [EVS,W8,W9,We,W5,Wg,Wh,Wa,Wb,W7,↓reduceIte,reduceCtorEq,W1,Wc,W6,z4];rfl)) ?_
   refine Y5 (asg (d:=nN) (S':=S0) (by simp only [EVS,W8,W9,We,W5,Wg,Wh,Wa,Wb,W7,↓reduceIte,reduceCtorEq,W1,Wc,W6,z4];rfl)) ?_
   refine Y5 (asg (d:=nW) (S':=S0) (by simp only [EVS,W8,W9,We,W5,Wg,Wh,Wa,Wb,W7,↓reduceIte,reduceCtorEq,W1,Wc,W6,z4];rfl)) ?_
   refine Y5 (asg (d:=.ref k) (S':=S1) (by rw [<-hS,<-hk];simp only [EVS,W8,W9,We,W5,Wg,Wh,Wa,Wb,W7,↓reduceIte,reduceCtorEq,W1,Wc,W6,z5,z2];rfl)) ?_
   refine Y5 (asg e2) (Y5 (asg e3) (Y5 loop ?_))
   unfold QX;rw [e6];rfl
  show QR 13 4 JA [.int c,lv,gn,st] S=_
  rw [Kd (nN:=13) (n:=4) (m:=JA) (ds:=[.int c,lv,gn,st]) (S:=S) rfl]
  show OK S (JA [some (.int c),some lv,some gn,some st,none,none,none,none,none,none,none,none,none] S)=_
  rw [body,JG,UE (by omega)]
 ·rw [h6]
  rfl
end
end K08
namespace K08
open PySem L2 DL
section
variable {i:Int} {f:Ent->D} {E:List Ent} {S:Sto} {n:Nat}
theorem PN {p:Mk}:∀{E:List Ent},(∀e∈E,(i,e.c)≠p)->U8 (kv i f E) (enc p)=none
 |[],_=>rfl
 |a :: E,h=>by
  unfold U8 kv;rw [W1,Vj];have q:kEq (key i a) (enc p)=decide ((i,a.c)=p):=Pa _ _
  dsimp only;rw [q,decide_eq_false (h a Wv)];exact PN λe he=>h e (Wu _ he)
theorem Fe (p:Mk):Yp (kv i f E) (enc p)=true:=by
 unfold Yp;show (match YZ (enc p) with|some _=>_|none=>false)=true
 rw [JF];exact Az
theorem Ma {p:Mk}(h:∀e∈E,(i,e.c)≠p)(hs:S[n]? = some (.dct (kv i f E))):Qd (enc p) (.ref n) S=some (.bl true,S):=by
 have e2:QQ S n (enc p)=some (kv i f E):=by unfold QQ;rw [hs];dsimp only;rw [if_pos (Fe _)]
 have e3:inD (enc p) (.ref n) S=some false:=by
  show (match S[n]? with|some (Ob.lst ys)=>_|_=>(QQ S n (enc p)).map λkvs=>(U8 kvs (enc p)).isSome)=_
  rw [hs];dsimp only;rw [e2,W6,PN h];rfl
 unfold Qd;rw [e3];rfl
end
theorem Ou:D.tup (xks.map λk=>.bl (isx Ya k))=nF:=by
 have h1:isx Ya "ValueError" = true:=by decide +kernel
 have h2:isx Ya "NoFile" = true:=by decide +kernel
 have h3:isx Ya "NoName" = false:=by decide +kernel
 have h4:isx Ya "NoWords" = false:=by decide +kernel
 show D.tup [.bl (isx Ya "ValueError"),.bl (isx Ya "NoFile"),.bl (isx Ya "NoName"),.bl (isx Ya "NoWords")]=_
 rw [h1,h2,h3,h4];rfl
theorem Z0M:D.tup (xks.map λk=>.bl (isx YX k))=nN:=by
 have h1:isx YX "ValueError" = true:=by decide +kernel
 have h2:isx YX "NoFile" = false:=by decide +kernel
 have h3:isx YX "NoName" = true:=by decide +kernel
 have h4:isx YX "NoWords" = false:=by decide +kernel
 show D.tup [.bl (isx YX "ValueError"),.bl (isx YX "NoFile"),.bl (isx YX "NoName"),.bl (isx YX "NoWords")]=_
 rw [h1,h2,h3,h4];rfl
theorem Z0L:D.tup (xks.map λk=>.bl (isx Yx k))=nW:=by
 have h1:isx Yx "ValueError" = true:=by decide +kernel
 have h2:isx Yx "NoFile" = false:=by decide +kernel
 have h3:isx Yx "NoName" = false:=by decide +kernel
 have h4:isx Yx "NoWords" = true:=by decide +kernel
 show D.tup [.bl (isx Yx "ValueError"),.bl (isx Yx "NoFile"),.bl (isx Yx "NoName"),.bl (isx Yx "NoWords")]=_
 rw [h1,h2,h3,h4];rfl
theorem inF:Ya∈xcs:=Wv
theorem inN:YX∈xcs:=Wu _ Wv
theorem inW:Yx∈xcs:=Wu _ (Wu _ Wv)
theorem neF (S:Sto):gNe nF nF S=some (.bl false,S):=by
 have h1:Li nF nF=true:=by decide +kernel
 have h2:eqD nF nF=true:=by decide +kernel
 show (if Li nF nF=true then some (D.bl (!eqD nF nF),S) else none)=_
 rw [if_pos h1,h2];rfl
theorem neN (S:Sto):gNe nN nN S=some (.bl false,S):=by
 have h1:Li nN nN=true:=by decide +kernel
 have h2:eqD nN nN=true:=by decide +kernel
 show (if Li nN nN=true then some (D.bl (!eqD nN nN),S) else none)=_
 rw [if_pos h1,h2];rfl
theorem neW (S:Sto):gNe nW nW S=some (.bl false,S):=by
 have h1:Li nW nW=true:=by decide +kernel
 have h2:eqD nW nW=true:=by decide +kernel
 show (if Li nW nW=true then some (D.bl (!eqD nW nW),S) else none)=_
 rw [if_pos h1,h2];rfl
def Ok (S:Sto)(a:D):Prop:=∃(d:Str) (k v t u:D),a=ask d k v t u/\Ye [.ref 0,.str d,k,v,t] S=some (u,S)/\gNe u u S=some (.bl false,S)
section
variable {S:Sto} {i n:Int} {E:List Ent} {e:Ent} {k v t:D}
theorem M9 (h:At S i n E)(hv:ZE [v] S=some (.bl false,S)):Ok S (ask "make" k v t nN):=by
 refine⟨_,_,_,_,_,rfl,?_,neN S⟩
 rw [<-Z0M];refine Ju inN ?_
 unfold En7;rw [L8,YH (ds:=[v,t]) h rfl (λ_ _=>rfl) rfl,EY hv]
 rfl
theorem F3 (h:At S i n E)(hv:ZE [v] S=some (.bl true,S))(hr:Zo [v] S=some (.non,S))(ht:ZR [t] S=some (.bl false,S)):Ok S (ask "make" k v t nW):=by
 refine⟨_,_,_,_,_,rfl,?_,neW S⟩
 rw [<-Z0L];refine Ju inW ?_
 unfold En7;rw [L8,YH (ds:=[v,t]) h rfl (λ_ _=>rfl) rfl,EW hv hr ht]
 rfl
theorem Bd (h:At S i n E)(hk:Off S k):Ok S (ask "write" k v t nF):=by
 refine⟨_,_,_,_,_,rfl,?_,neF S⟩
 rw [<-Ou];refine Ju inF ?_
 unfold En7;rw [GL,YH (ds:=[k,t]) h rfl (λ_ _=>rfl) rfl,Ln h hk]
 rfl
theorem Rs (h:At S i n E)(w:Wf n E)(he:e∈E)(hl:e.ts.isEmpty=false)(ht:ZR [t] S=some (.bl false,S)):Ok S (ask "write" (key i e) v t nW):=by
 refine⟨_,_,_,_,_,rfl,?_,neW S⟩
 rw [<-Z0L];refine Ju inW ?_
 unfold En7;rw [GL,YH (ds:=[key i e,t]) h rfl (λ_ _=>rfl) rfl,Kw h w he hl (FX ht) (λp hp=>by cases hp;rfl)]
 rfl
theorem Rt (h:At S i n E)(hk:Off S k):Ok S (ask "rename" k v t nF):=by
 refine⟨_,_,_,_,_,rfl,?_,neF S⟩
 rw [<-Ou];refine Ju inF ?_
 unfold En7;rw [BT,YH (ds:=[k,v]) h rfl (λ_ _=>rfl) rfl,Sj h hk]
 rfl
theorem CO (h:At S i n E)(w:Wf n E)(he:e∈E)(hl:e.ts.isEmpty=false)(hv:ZE [v] S=some (.bl false,S)):Ok S (ask "rename" (key i e) v t nN):=by
 refine⟨_,_,_,_,_,rfl,?_,neN S⟩
 rw [<-Z0M];refine Ju inN ?_
 unfold En7;rw [BT,YH (ds:=[key i e,v]) h rfl (λ_ _=>rfl) rfl,OS h w he hl (FY hv) (λp hp=>by cases hp;rfl)]
 rfl
theorem CS (h:At S i n E)(hk:Off S k):Ok S (ask "drop" k v t nF):=by
 refine⟨_,_,_,_,_,rfl,?_,neF S⟩
 rw [<-Ou];refine Ju inF ?_
 unfold En7;rw [HQ,YH (ds:=[k]) h rfl (λ_ _=>rfl) rfl,Sk h hk]
 rfl
theorem IK (h:At S i n E)(hk:Off S k):Ok S (ask "ask" k v t nF):=by
 refine⟨_,_,_,_,_,rfl,?_,neF S⟩
 rw [<-Ou];refine Ju inF ?_
 unfold En7;rw [OA,YH (ds:=[k]) h rfl (λ_ _=>rfl) rfl,Si h hk]
 rfl
theorem CQ (h:At S i n E)(hk:Qd k (.ref 1) S=some (.bl true,S)):Ok S (ask "file" k v t nF):=by
 refine⟨_,_,_,_,_,rfl,?_,neF S⟩
 rw [<-Ou];refine Ju inF ?_
 unfold En7;rw [HN,YH (ds:=[k]) h rfl (λ_ _=>rfl) rfl,SX h hk]
 rfl
end
theorem Q0 {P:D->Prop}:∀b∈([]:List D),P b:=λ_ h=>nomatch h
theorem all_cons {P:D->Prop}{a:D}{l:List D}(h:P a)(hl:∀b∈l,P b):∀b∈a :: l,P b:=λb hb=>by
 rcases Wr.mp hb with rfl|z
 ·exact h
 ·exact hl b z
theorem GN {P:D->Prop}{l m:List D}(h:∀b∈l,P b)(hl:∀b∈m,P b):∀b∈l++m,P b:=λb hb=>by
 rcases W0p.mp hb with z|z
 ·exact h b z
 ·exact hl b z
section
variable {S:Sto} {i n:Int} {E:List Ent} {e:Ent} {k v w g s:D} {x t:Str}
theorem A5 (h:At S i n E)(hk:Off S k):∀a∈six x t v w k,Ok S a:=
 all_cons (Bd h hk) (all_cons (Bd h hk) (all_cons (Rt h hk) (all_cons (Rt h hk) (all_cons (CS h hk) (all_cons (IK h hk) Q0)))))
theorem A6 (h:At S i n E)(wf:Wf n E)(he:e∈E)(hl:e.ts.isEmpty=false)(hg:Off S g)(hs:Off S s)(hs2:Qd s (.ref 1) S=some (.bl true,S))(hx:(1<=(cs x).length/\(cs x).length<=6)/\∀ch∈cs x,97<=ch/\ch<=122)
  (hv:ZE [v] S=some (.bl false,S)) (hw:ZR [w] S=some (.bl false,S)):∀a∈Us x t v w (key i e) g s,Ok S a:=by
 have hz:100<=Wd:=by decide
 have nx:ZE [.str x] S=some (.bl true,S):=by rw [Nh (by rw [QN];have:=hx.1.2;omega),BB hx]
 exact GN (GN (GN (all_cons (M9 h hv) (all_cons (M9 h hv) (all_cons (F3 h nx (M3 hx) hw) (all_cons (Rs h wf he hl hw) (all_cons (CO h wf he hl hv) Q0))))) (A5 h hg)) (A5 h hs)) (all_cons (CQ h hs2) Q0)
end
def EN (ns:List Int)(c i:Int)(o:Nat)(g l B:D)(q:Nat)(x6 x13 x14 x15 x16:Option D):En:=[some (.scr ns),some (.int c),some (.int i),some (.ref 0),some (.ref 3),some (.int 2),x6,some (.ref o),some g,some l,some B,some (enc (i,5)),some (.ref q),x13,x14,x15,x16]
section
variable {S:Sto} {i c:Int} {E:List Ent} {ns:List Int} {o q:Nat} {g l:D} {A:List D}
theorem Mv {n:Int}{m:M D}(hm:m=GC\/m=GH)(hA:At S i n E)(w:Wf n E)(h3:S[3]? = some (.lst (E.map (key i)))):Yt (E.map (key i)) (.lst 3) [none,some (.ref 0)] (gN 0) QW m (E.map (key i)) [] S=some (E.map (fl i),S):=by
 have hz:100<=Wd:=by decide
 refine UC E (key i) (fl i) h3 (by have:=w.l;omega) λe he=>⟨[some (key i e),some (.ref 0)],rfl,?_⟩
 rcases hm with rfl|rfl
 ·simp only [GC,EVS,W8,W9,We,W5,Wg,Wh,Wa,Wb,W7,↓reduceIte,reduceCtorEq,W1,Wc,W6,Qe,Yc (m:="file") hA (λ_ _=>rfl),Qb,JI hA w he]
 ·simp only [GH,EVS,W8,W9,We,W5,Wg,Wh,Wa,Wb,W7,↓reduceIte,reduceCtorEq,W1,Wc,W6,Qe,Yc (m:="file") hA (λ_ _=>rfl),Qb,JI hA w he]
theorem FI (hA:At S i 4 E)(w:Wf 4 E)(h3:S[3]? = some (.lst (E.map (key i))))(hq:S[q]? = some (.lst A))(ok:∀a∈A,Ok S a)(y6:Option D) :
  ∃x6 x13 x14 x15 x16,RJ (JB (Z3 12)) (gT 5 (Yh (gN 13) (Yh (gN 6) (Yh (gN 14) (Yh (gN 15) (Yh (gN 16) NA)))))) Ta (EN ns c i o g l (.tup (E.map (fl i))) q y6 none none none none) S=some (.nx,EN ns c i o g l (.tup (E.map (fl i))) q x6 x13 x14 x15 x16,S):=by
 have cf:=Mv (m:=GC) (.inl rfl) hA w h3
 have sm:Yi 12 [.tup (E.map (fl i)),.tup (E.map (fl i))] S=some (.bl true,S):=NZ 6 _ 5 S ⟨by rw [Wm];have:=w.l;omega,λd hd=>by
  obtain⟨e,he,rfl⟩:=Vi.mp hd
  exact Z0T (show 1<=6 by decide) (by have:=(w.ub e he).2.2.1;omega) (by have:=(w.ub e he).2.2.2;omega)⟩
 let P:List D->En->Sto->Prop:=λ_ en S'=>S'=S/\∃x6 x13 x14 x15 x16,en=EN ns c i o g l (.tup (E.map (fl i))) q x6 x13 x14 x15 x16
 have step:∀(pre:List D) (a:D) (post:List D) (en:En) (S1:Sto),A=pre++a :: post->P pre en S1->∃en1,gT 5 (Yh (gN 13) (Yh (gN 6) (Yh (gN 14) (Yh (gN 15) (Yh (gN 16) NA))))) (id a) en=some en1/\∃en2 S2,Ta en1 S1=some (.nx,en2,S2)/\P (pre++[a]) en2 S2:=by
  intro pre a post en S1 hpre hP;obtain⟨hS,x6,x13,x14,x15,x16,hen⟩:=hP
  subst hS;subst hen;obtain⟨d,k,v,t,u,ha,hr,hne⟩:=ok a (by rw [hpre];simp)
  subst ha;refine⟨EN ns c i o g l (.tup (E.map (fl i))) q (some k) (some (.str d)) (some v) (some t) (some u),rfl,EN ns c i o g l (.tup (E.map (fl i))) q (some k) (some (.str d)) (some v) (some t) (some u),S1,?_,rfl,_,_,_,_,_,rfl⟩
  unfold EN;simp only [Ta,EVS,W8,W9,We,W5,Wg,Wh,Wa,Wb,W7,↓reduceIte,reduceCtorEq,W1,Wc,W6,hr,hne,Hq h3,cf,sm,Qe,Yc (m:="count") hA (λ_ _=>rfl),Qb,FD hA]
 obtain⟨en',S',e,hS,x6,x13,x14,x15,x16,hen⟩:=Pt (g:=gT 5 (Yh (gN 13) (Yh (gN 6) (Yh (gN 14) (Yh (gN 15) (Yh (gN 16) NA)))))) (ds0:=A) (gd:=.lst q) (body:=Ta) A id P step (λpre en S' hP=>by
   rw [hP.1];exact hq) (en:=EN ns c i o g l (.tup (E.map (fl i))) q y6 none none none none) (S:=S) ⟨rfl,_,_,_,_,_,rfl⟩
 rw [List.map_id] at e;subst hS;subst hen;refine⟨x6,x13,x14,x15,x16,?_⟩
 have it:JB (Z3 12) (EN ns c i o g l (.tup (E.map (fl i))) q y6 none none none none) S'=some ((A,.lst q),S'):=by
  unfold EN;simp only [EVS,W8,W9,We,W5,Wg,Wh,Wa,Wb,W7,↓reduceIte,reduceCtorEq,W1,Wc,W6,Hq hq]
 rw [PC,it,Gv,e]
end
end K08
namespace K08
open PySem L2 DL
def St (i n:Int)(E:List Ent)(L:List D):Sto:=[hs i n,.dct (kv i (fl i) E),.dct [],.lst L]
def E0 (ns:List Int)(c i:Int)(x5 x6:Option D):En:=[some (.scr ns),some (.int c),some (.int i),some (.ref 0),some (.ref 3),x5,x6,none,none,none,none,none,none,none,none,none,none]
theorem EZ {ns:List Int}{c i n k c1 c2:Int}{E:List Ent}{L:List D}{x6:Option D}(w:Wf n E)(hL:L.length<=10)(h1:∀S,ZL [.scr ns,.int k] S=some (.int c1,S))(h2:∀S,ZL [.scr ns,.int (k+1)] S=some (.int c2,S)) :
  ∃x t,Qs (E0 ns c i (some (.int k)) x6) (St i n E L)=some (.nx,E0 ns c i (some (.int k)) (some (enc (i,n+1))),St i (n+1) (E++[⟨n+1,x,n+1,[],[((i,n+1),t)]⟩]) (L++[enc (i,n+1)])):=by
 have hz:100<=Wd:=by decide
 obtain⟨x,x1,x2,x3⟩:=Rx c1
 obtain⟨t,t1,t2,t3⟩:=text_of (c2+k)
 have hA:At (St i n E L) i n E:=⟨rfl,rfl⟩
 have mk:ZN [.ref 0,.str x,.str t] (St i n E L)=some (enc (i,n+1),St i (n+1) (E++[⟨n+1,x,n+1,[],[((i,n+1),t)]⟩]) L):=RA hA w ⟨x1,x2⟩ t1 t2
 have ap:∀(b:M D) (en:En) (n:Int) (E:List Ent),Z04 b en (some (.ref 3,St i n E L))=Gx 3 (b en (St i n E L)):=λb en n E=>P7 (S:=[hs i n,.dct (kv i (fl i) E),.dct []])
 have ap2:∀(v:D) (n:Int) (E:List Ent),Gx 3 (some (v,St i n E L))=some (.non,St i n E (L++[v])):=λv n E=>HL (S:=[hs i n,.dct (kv i (fl i) E),.dct []]) (by omega)
 refine⟨x,t,?_⟩
 unfold E0;simp only [Qs,EVS,W8,W9,We,W5,Wg,Wh,Wa,Wb,W7,↓reduceIte,reduceCtorEq,W1,Wc,W6,h1,h2,x3,t3,Qe,Yc (m:="make") hA (λ_ _=>rfl),Qb,mk,ap,ap2]
theorem makes {ns:List Int}{c i c0 c1 c2 c3:Int}(h0:∀S,ZL [.scr ns,.int 0] S=some (.int c0,S))(h1:∀S,ZL [.scr ns,.int 1] S=some (.int c1,S))(h2:∀S,ZL [.scr ns,.int 2] S=some (.int c2,S))(h3:∀S,ZL [.scr ns,.int 3] S=some (.int c3,S)) :
  ∃E,RJ (Tn (Zf (D.int 3))) (gN 5) Qs (E0 ns c i none none) (St i 0 [] [])=some (.nx,E0 ns c i (some (.int 2)) (some (enc (i,3))),St i 3 E (E.map (key i)))/\Wf 3 E/\E.length=3/\∀e∈E,e.ts.isEmpty=false:=by
 have w0:Wf 0 []:=⟨.nil,(λe he=>by cases he),by simp,by decide⟩
 obtain⟨x1,t1,e1⟩:=EZ (c:=c) (i:=i) (n:=0) (E:=[]) (L:=[]) (k:=0) (x6:=none) w0 (show 0<=10 by decide) h0 h1
 have w1:Wf 1 [⟨1,x1,1,[],[((i,1),t1)]⟩]:=NJ (i:=i) w0 (x:=x1) (t:=t1) (by decide)
 have e1':Qs (E0 ns c i (some (.int 0)) none) (St i 0 [] [])=some (.nx,E0 ns c i (some (.int 0)) (some (enc (i,1))),St i 1 [⟨1,x1,1,[],[((i,1),t1)]⟩] [enc (i,1)]):=e1
 obtain⟨x2,t2,e2⟩:=EZ (c:=c) (i:=i) (n:=1) (L:=[enc (i,1)]) (k:=1) (x6:=some (enc (i,1))) w1 (show 1<=10 by decide) h1 h2
 have w2:Wf 2 [⟨1,x1,1,[],[((i,1),t1)]⟩,⟨2,x2,2,[],[((i,2),t2)]⟩]:=NJ (i:=i) w1 (x:=x2) (t:=t2) (by decide)
 have e2':Qs (E0 ns c i (some (.int 1)) (some (enc (i,1)))) (St i 1 [⟨1,x1,1,[],[((i,1),t1)]⟩] [enc (i,1)])=some (.nx,E0 ns c i (some (.int 1)) (some (enc (i,2))),St i 2 [⟨1,x1,1,[],[((i,1),t1)]⟩,⟨2,x2,2,[],[((i,2),t2)]⟩] [enc (i,1),enc (i,2)]):=e2
 obtain⟨x3,t3,e3⟩:=EZ (c:=c) (i:=i) (n:=2) (L:=[enc (i,1),enc (i,2)]) (k:=2) (x6:=some (enc (i,2))) w2 (show 2<=10 by decide) h2 h3
 have w3:Wf 3 [⟨1,x1,1,[],[((i,1),t1)]⟩,⟨2,x2,2,[],[((i,2),t2)]⟩,⟨3,x3,3,[],[((i,3),t3)]⟩]:=NJ (i:=i) w2 (x:=x3) (t:=t3) (by decide)
 have e3':Qs (E0 ns c i (some (.int 2)) (some (enc (i,2)))) (St i 2 [⟨1,x1,1,[],[((i,1),t1)]⟩,⟨2,x2,2,[],[((i,2),t2)]⟩] [enc (i,1),enc (i,2)])=some (.nx,E0 ns c i (some (.int 2)) (some (enc (i,3))),St i 3 [⟨1,x1,1,[],[((i,1),t1)]⟩,⟨2,x2,2,[],[((i,2),t2)]⟩,⟨3,x3,3,[],[((i,3),t3)]⟩] [enc (i,1),enc (i,2),enc (i,3)]):=e3
 refine⟨_,?_,w3,rfl,λe he=>?_⟩
 ·have i0:Tn (Zf (D.int 3)) (E0 ns c i none none) (St i 0 [] [])=some (([.int 0,.int 1,.int 2],.no),St i 0 [] []):=by
   simp only [EVS,W8,W9,We,W5,Wg,Wh,Wa,Wb,W7,↓reduceIte,reduceCtorEq,W1,Wc,W6,Nx (show -(2 ^ 62)<=(3:Int)/\(3:Int)<2 ^ 62 by decide)]
   rfl
  rw [PC,i0,Gu,T3];show Tp _ _ _ _ (Qs (E0 ns c i (some (.int 0)) none) (St i 0 [] []))=_
  rw [e1',Qc,T3];show Tp _ _ _ _ (Qs (E0 ns c i (some (.int 1)) (some (enc (i,1)))) _)=_
  rw [e2',Qc,T3];show Tp _ _ _ _ (Qs (E0 ns c i (some (.int 2)) (some (enc (i,2)))) _)=_
  rw [e3',Qc,Mx];rfl
 ·simp only [Wr,WW,or_false] at he
  rcases he with rfl|rfl|rfl<;>rfl
section
variable {S:Sto} {i:Int} {E:List Ent}
theorem KO {t:Ent}:(JQ E t).map (key i)=E.map (key i):=by
 unfold JQ;rw [VE];refine W0m λe _=>?_
 show key i (if e.c=t.c then t else e)=key i e
 split
 ·rename_i h
  unfold key;rw [h]
 ·rfl
theorem Z1t (hA:At S i 4 E)(w:Wf 4 E):∃S1 S2 E2,ZN [.ref 0,.str (W0 "abc"),.str (W0 "a;b")] S=some (enc (i,5),S1)/\Ye [.ref 0,.str (W0 "write"),enc (i,5),.str (W0 "a"),.str (W0 "b")] S1=some (.str (W0 "none"),S2)
  /\At S2 i 6 E2/\Zu [.ref 0,enc (i,5)] S2=some (fl i ⟨5,W0 "abc",6,[],[((i,6),W0 "b")]⟩,S2):=by
 have hx:(1<=(cs (W0 "abc")).length/\(cs (W0 "abc")).length<=6)/\∀ch∈cs (W0 "abc"),97<=ch/\ch<=122:=by decide +kernel
 have t1:(cs (W0 "a;b")).length<=60:=by decide +kernel
 have t2:∀ch∈cs (W0 "a;b"),32<=ch/\ch<=126:=by decide +kernel
 have b1:(cs (W0 "b")).length<=60:=by decide +kernel
 have b2:∀ch∈cs (W0 "b"),32<=ch/\ch<=126:=by decide +kernel
 have b3:(W0 "b").length<=Wd:=by decide +kernel
 have mk:ZN [.ref 0,.str (W0 "abc"),.str (W0 "a;b")] S=some (enc (i,5),(S.set 0 (hs i 5)).set 1 (.dct (kv i (fl i) (E++[⟨5,W0 "abc",5,[],[((i,5),W0 "a;b")]⟩])))):=RA hA w hx t1 t2
 have h1:At ((S.set 0 (hs i 5)).set 1 (.dct (kv i (fl i) (E++[⟨5,W0 "abc",5,[],[((i,5),W0 "a;b")]⟩])))) i 5 (E++[⟨5,W0 "abc",5,[],[((i,5),W0 "a;b")]⟩]):=hA.tick.put _
 have w1:Wf 5 (E++[⟨5,W0 "abc",5,[],[((i,5),W0 "a;b")]⟩]):=NJ (i:=i) w (by decide)
 generalize (S.set 0 (hs i 5)).set 1 (.dct (kv i (fl i) (E++[⟨5,W0 "abc",5,[],[((i,5),W0 "a;b")]⟩])))=S1 at mk h1
 have he:(⟨5,W0 "abc",5,[],[((i,5),W0 "a;b")]⟩:Ent)∈E++[⟨5,W0 "abc",5,[],[((i,5),W0 "a;b")]⟩]:=WM _ Wv
 generalize E++[⟨5,W0 "abc",5,[],[((i,5),W0 "a;b")]⟩]=E1 at h1 w1 he
 have wr:Yr [.ref 0,enc (i,5),.str (W0 "b")] S1=some (.non,(S1.set 0 (hs i 6)).set 1 (.dct (kv i (fl i) (JQ E1 ⟨5,W0 "abc",6,[],[((i,6),W0 "b")]⟩)))):=Lo h1 w1 he rfl b1 b2
 have h2:At ((S1.set 0 (hs i 6)).set 1 (.dct (kv i (fl i) (JQ E1 ⟨5,W0 "abc",6,[],[((i,6),W0 "b")]⟩)))) i 6 (JQ E1 ⟨5,W0 "abc",6,[],[((i,6),W0 "b")]⟩):=h1.tick.put _
 have w2:Wf 6 (JQ E1 ⟨5,W0 "abc",6,[],[((i,6),W0 "b")]⟩):=FR w1 (t:=⟨5,W0 "abc",6,[],[((i,6),W0 "b")]⟩) (show (5:Int)<=5 by decide) rfl (show 0<=1 by decide) (show 1<=1 by decide) (by decide)
 have l2:((S1.set 0 (hs i 6)).set 1 (.dct (kv i (fl i) (JQ E1 ⟨5,W0 "abc",6,[],[((i,6),W0 "b")]⟩)))).length=S1.length:=by rw [Qq,Qq]
 have he2:(⟨5,W0 "abc",6,[],[((i,6),W0 "b")]⟩:Ent)∈JQ E1 ⟨5,W0 "abc",6,[],[((i,6),W0 "b")]⟩:=Vi.mpr ⟨_,he,if_pos rfl⟩
 generalize (S1.set 0 (hs i 6)).set 1 (.dct (kv i (fl i) (JQ E1 ⟨5,W0 "abc",6,[],[((i,6),W0 "b")]⟩)))=S2 at wr h2 l2
 refine⟨S1,S2,_,mk,?_,h2,JI h2 w2 he2⟩
 have xw:Yd [.ref 0,enc (i,5),.str (W0 "b")] S1=none:=Kw h1 w1 he rfl (Xn (by rw [BY b3,UZ b1 b2])) (λp hp=>nomatch hp)
 have r0:Zh [some (.ref 0),some (.str (W0 "write")),some (enc (i,5)),some (.str (W0 "a")),some (.str (W0 "b")),some (.str (W0 "none")),none] S1=none:=by
  rw [GL,YH (ds:=[enc (i,5),.str (W0 "b")]) h1 rfl (λ_ _=>rfl) rfl,xw]
  rfl
 have t:Hb xcs xks 6 5 YF Zh [some (.ref 0),some (.str (W0 "write")),some (enc (i,5)),some (.str (W0 "a")),some (.str (W0 "b")),some (.str (W0 "none")),none] S1=some (.nx,[some (.ref 0),some (.str (W0 "write")),some (enc (i,5)),some (.str (W0 "a")),some (.str (W0 "b")),some (.str (W0 "none")),none],S2):=by
  unfold Hb;rw [r0];show YF _ _=_
  simp only [YF,EVS,W8,W9,We,W5,Wg,Wh,Wa,Wb,W7,↓reduceIte,reduceCtorEq,W1,Wc,W6,Uh,Qe,Yc (m:="write") h1 (λ_ _=>rfl),Qb,wr]
 unfold Ye;simp only [EVS,W8,W9,We,W5,Wg,Wh,Wa,Wb,W7,↓reduceIte,reduceCtorEq,W1,Wc,W6,t]
 rw [QC l2]
end
theorem law_true (ns:List Int)(_:ns.length<=63):∃S',F_law [.scr ns] []=some (.bl true,S'):=by
 have hz:100<=Wd:=by decide
 obtain⟨cf,hcf⟩:∃f:Nat->Int,∀(k:Nat) S,ZL [.scr ns,.int (k:Nat)] S=some (.int (f k),S):=⟨λk=>(PU ns k).choose,λk S=>(PU ns k).choose_spec S⟩
 have hc0:∀S,ZL [.scr ns,.int 0] S=some (.int (cf 0),S):=λS=>hcf 0 S
 have hc1:∀S,ZL [.scr ns,.int 1] S=some (.int (cf 1),S):=λS=>hcf 1 S
 have hc2:∀S,ZL [.scr ns,.int 2] S=some (.int (cf 2),S):=λS=>hcf 2 S
 have hc3:∀S,ZL [.scr ns,.int 3] S=some (.int (cf 3),S):=λS=>hcf 3 S
 have hmx:∀S,ZZ [.int (cf 0),.int 9803,.int 6] S=some (.int (cf 0*48271%9803%6),S):=λS=>Qx (by decide) (by decide)
 have hi:0<=cf 0*48271%9803%6/\cf 0*48271%9803%6<6:=⟨Vr _ (by decide),Vd _ (by decide)⟩
 generalize cf 0*48271%9803%6=i at hmx hi
 have mkh:=CU (ma:=Z1 (Z3 2) Zg) (en:=[some (.scr ns),some (.int (cf 0)),some (.int i),none,none,none,none,none,none,none,none,none,none,none,none,none,none]) (i:=i) rfl
 obtain⟨E,lp,w3,hE,hts⟩:=makes (c:=cf 0) (i:=i) hc0 hc1 hc2 hc3
 obtain⟨p,hp,pe⟩:=CA (cf 2) 3 (by decide) (St i 3 E (E.map (key i)))
 have pl:p.length=3:=by rw [hp.length_eq];rfl
 obtain⟨a,b,d,rfl⟩:∃a b d,p=[a,b,d]:=by
  match p,pl with
  |[a,b,d],_=>exact⟨a,b,d,rfl⟩
 have nd:[a,b,d].Nodup:=hp.nodup_iff.mpr List.nodup_range
 have ab:a≠b:=λz=>by subst z;simp at nd
 have a3:a<3:=W0G.mp (hp.mem_iff.mp (by simp))
 have b3:b<3:=W0G.mp (hp.mem_iff.mp (by simp))
 obtain⟨g,hg⟩:∃g,E[a]? = some g:=⟨E[a],Wl (by omega)⟩
 obtain⟨l,hl⟩:∃l,E[b]? = some l:=⟨E[b],Wl (by omega)⟩
 have mg:g∈E:=Vc hg
 have ml:l∈E:=Vc hl
 have ne:l.c≠g.c:=λz=>ab ((List.getElem?_inj (l:=E.map (·.c)) (by rw [Wm];omega) w3.nd).mp (by rw [WH,WH,hg,hl];show some g.c=some l.c;rw [z]))
 have pe':Jd [.int (cf 2),.int 3] (St i 3 E (E.map (key i)))=some (.ref 5,[hs i 3,.dct (kv i (fl i) E),.dct [],.lst (E.map (key i)),.lst [],.lst [.int (a:Nat),.int (b:Nat),.int (d:Nat)]]):=pe
 have h5:At [hs i 3,.dct (kv i (fl i) E),.dct [],.lst (E.map (key i)),.lst [],.lst [.int (a:Nat),.int (b:Nat),.int (d:Nat)]] i 3 E:=⟨rfl,rfl⟩
 have f5:([hs i 3,.dct (kv i (fl i) E),.dct [],.lst (E.map (key i)),.lst [],.lst [.int (a:Nat),.int (b:Nat),.int (d:Nat)]]:Sto)[3]? = some (.lst (E.map (key i))):=rfl
 have o5:([hs i 3,.dct (kv i (fl i) E),.dct [],.lst (E.map (key i)),.lst [],.lst [.int (a:Nat),.int (b:Nat),.int (d:Nat)]]:Sto)[5]? = some (.lst [.int (a:Nat),.int (b:Nat),.int (d:Nat)]):=rfl
 generalize ([hs i 3,.dct (kv i (fl i) E),.dct [],.lst (E.map (key i)),.lst [],.lst [.int (a:Nat),.int (b:Nat),.int (d:Nat)]]:Sto)=S5 at pe' h5 f5 o5
 have ia:gIx (.ref 5) (.int 0) S5=some (.int (a:Nat),S5):=ixL (k:=0) o5 rfl
 have ib:gIx (.ref 5) (.int 1) S5=some (.int (b:Nat),S5):=ixL (k:=1) o5 rfl
 have ig:gIx (.ref 3) (.int (a:Nat)) S5=some (key i g,S5):=ixL f5 (by rw [WH,hg];rfl)
 have il:gIx (.ref 3) (.int (b:Nat)) S5=some (key i l,S5):=ixL f5 (by rw [WH,hl];rfl)
 have dr:Y9 [.ref 0,key i g] S5=some (.non,(S5.set 0 (hs i 4)).set 1 (.dct (kv i (fl i) (JQ E ⟨g.c,g.x,4,[],[]⟩)))):=HC h5 w3 mg (hts g mg)
 have h6:At ((S5.set 0 (hs i 4)).set 1 (.dct (kv i (fl i) (JQ E ⟨g.c,g.x,4,[],[]⟩)))) i 4 (JQ E ⟨g.c,g.x,4,[],[]⟩):=h5.tick.put _
 have f6:((S5.set 0 (hs i 4)).set 1 (.dct (kv i (fl i) (JQ E ⟨g.c,g.x,4,[],[]⟩))))[3]? = some (.lst ((JQ E ⟨g.c,g.x,4,[],[]⟩).map (key i))):=by
  rw [KO,WV (by decide),WV (by decide)]
  exact f5
 have w4:Wf 4 (JQ E ⟨g.c,g.x,4,[],[]⟩):=FR w3 (t:=⟨g.c,g.x,4,[],[]⟩) (w3.ub g mg).1 rfl (show 0<=1 by decide) (show 0<=1 by decide) (by decide)
 have m4:(⟨g.c,g.x,4,[],[]⟩:Ent)∈JQ E ⟨g.c,g.x,4,[],[]⟩:=Vi.mpr ⟨g,mg,if_pos rfl⟩
 have l4:l∈JQ E ⟨g.c,g.x,4,[],[]⟩:=Vi.mpr ⟨l,ml,if_neg ne⟩
 generalize hS6:(S5.set 0 (hs i 4)).set 1 (.dct (kv i (fl i) (JQ E ⟨g.c,g.x,4,[],[]⟩)))=S6 at dr h6 f6
 generalize JQ E ⟨g.c,g.x,4,[],[]⟩=E4 at h6 f6 w4 m4 l4
 have cf6:=Mv (m:=GH) (.inr rfl) h6 w4 f6
 obtain⟨x1,t1,v1,u1,k1,S7,a7,p7,q7,nx1,nv1,nu1⟩:=L9 (cf 3) (key i l) (key i g) (enc (i,5)) S6
 obtain⟨x2,t2,v2,u2,k2,S8,a8,p8,q8,nx2,nv2,nu2⟩:=L9 (cf 0+9) (key i l) (key i g) (enc ((i+1)%6,1)) S7
 have ad:=EK (p8.at q7) q8 (show 18+18<=Wd by decide)
 have p9:Pre S8 (S8++[.lst (Us x1 t1 v1 u1 (key i l) (key i g) (enc (i,5))++Us x2 t2 v2 u2 (key i l) (key i g) (enc ((i+1)%6,1)))]):=.one _ _
 have q9:(S8++[Ob.lst (Us x1 t1 v1 u1 (key i l) (key i g) (enc (i,5))++Us x2 t2 v2 u2 (key i l) (key i g) (enc ((i+1)%6,1)))])[S8.length]? = some (.lst (Us x1 t1 v1 u1 (key i l) (key i g) (enc (i,5))++Us x2 t2 v2 u2 (key i l) (key i g) (enc ((i+1)%6,1)))):=WS ..
 generalize S8++[Ob.lst (Us x1 t1 v1 u1 (key i l) (key i g) (enc (i,5))++Us x2 t2 v2 u2 (key i l) (key i g) (enc ((i+1)%6,1)))]=S9 at ad p9 q9
 generalize S8.length=kq at ad q9
 have h9:At S9 i 4 E4:=by
  obtain⟨G,rfl⟩:=(p7.trans p8).trans p9
  exact h6.up
 have f9:S9[3]? = some (.lst (E4.map (key i))):=((p7.trans p8).trans p9).at f6
 have ni:Qd (enc (i,5)) (.ref 1) S9=some (.bl true,S9):=Ma (λe he z=>by have:=(w4.ub e he).1;have z2:=(Prod.mk.inj z).2;omega) h9.h1
 have nj:Qd (enc ((i+1)%6,1)) (.ref 1) S9=some (.bl true,S9):=Ma (λe he z=>by have z2:=(Prod.mk.inj z).1;omega) h9.h1
 have og:Off S9 (key i g):=by
  have:=Cm h9 w4 m4
  exact this
 have al:∀a∈Us x1 t1 v1 u1 (key i l) (key i g) (enc (i,5))++Us x2 t2 v2 u2 (key i l) (key i g) (enc ((i+1)%6,1)),Ok S9 a:=
  GN (A6 h9 w4 l4 (hts l ml) og (SV h9 ni) ni nx1 (nv1 S9) (nu1 S9 (p8.trans p9))) (A6 h9 w4 l4 (hts l ml) og (SV h9 nj) nj nx2 (nv2 S9) (nu2 S9 p9))
 obtain⟨y6,y13,y14,y15,y16,lp2⟩:=FI (ns:=ns) (c:=cf 0) (o:=5) (g:=key i g) (l:=key i l) h9 w4 f9 q9 al (some (enc (i,3)))
 obtain⟨S10,S11,E11,mk,rf,h11,hf⟩:=Z1t h9 w4
 have sm10:=KY (i,5) S10
 have sm11:Yi 12 [fl i ⟨5,W0 "abc",6,[],[((i,6),W0 "b")]⟩,.tup [enc (i,5),.str (W0 "abc"),.tup [.tup [.int i,.int 6]],.tup [],.tup [.tup [.tup [.int i,.int 6],.str (W0 "b")]]]] S11=some (.bl true,S11):=Ck (e:=⟨5,W0 "abc",6,[],[((i,6),W0 "b")]⟩) ⟨(show 0<=1 by decide),(show 1<=1 by decide)⟩ S11
 have md:Ft (.int (i+1)) (.int 6) S7=some (.int ((i+1)%6),S7):=Jj (by decide)
 have ad':Jp (.ref k1) (.ref k2) S8=some (.ref kq,S9):=ad
 have a7':QM [.int (cf 3),key i l,key i g,enc (i,5)] S6=some (.ref k1,S7):=a7
 have a8':QM [.int (cf 0+9),key i l,key i g,.tup [.int ((i+1)%6),.int 1]] S7=some (.ref k2,S8):=a8
 unfold F_law;refine⟨(Uw [] (.bl true,S11)).2,?_⟩
 rw [Kd (nN:=17) (n:=1) (m:=CW) (ds:=[.scr ns]) (S:=[]) rfl]
 have run:CW (Q8 17 [.scr ns]) []=some (.rt (.bl true),EN ns (cf 0) i 5 (key i g) (key i l) (.tup (E4.map (fl i))) kq y6 y13 y14 y15 y16,S11):=by
  refine Y5 (en1:=[some (.scr ns),some (.int (cf 0)),none,none,none,none,none,none,none,none,none,none,none,none,none,none,none]) (S1:=[]) ?_ ?_
  ·show YE _ _ [some (.scr ns),none,none,none,none,none,none,none,none,none,none,none,none,none,none,none,none] []=_
   simp only [EVS,W8,W9,We,W5,Wg,Wh,Wa,Wb,W7,↓reduceIte,reduceCtorEq,W1,Wc,W6,hc0]
  refine Y5 (en1:=[some (.scr ns),some (.int (cf 0)),some (.int i),none,none,none,none,none,none,none,none,none,none,none,none,none,none]) (S1:=[]) ?_ ?_
  ·simp only [EVS,W8,W9,We,W5,Wg,Wh,Wa,Wb,W7,↓reduceIte,reduceCtorEq,W1,Wc,W6,hmx]
  refine Y5 (en1:=[some (.scr ns),some (.int (cf 0)),some (.int i),some (.ref 0),none,none,none,none,none,none,none,none,none,none,none,none,none]) (S1:=[hs i 0,.dct [],.dct []]) ?_ ?_
  ·unfold YE;rw [mkh];rfl
  refine Y5 (en1:=[some (.scr ns),some (.int (cf 0)),some (.int i),some (.ref 0),some (.ref 3),none,none,none,none,none,none,none,none,none,none,none,none]) (S1:=St i 0 [] []) ?_ ?_
  ·rfl
  refine Y5 lp ?_
  unfold E0;refine Y5 (en1:=[some (.scr ns),some (.int (cf 0)),some (.int i),some (.ref 0),some (.ref 3),some (.int 2),some (enc (i,3)),some (.ref 5),none,none,none,none,none,none,none,none,none]) (S1:=S5) ?_ ?_
  ·simp only [EVS,W8,W9,We,W5,Wg,Wh,Wa,Wb,W7,↓reduceIte,reduceCtorEq,W1,Wc,W6,hc2,pe']
  refine Y5 (en1:=[some (.scr ns),some (.int (cf 0)),some (.int i),some (.ref 0),some (.ref 3),some (.int 2),some (enc (i,3)),some (.ref 5),some (key i g),none,none,none,none,none,none,none,none]) (S1:=S5) ?_ ?_
  ·simp only [EVS,W8,W9,We,W5,Wg,Wh,Wa,Wb,W7,↓reduceIte,reduceCtorEq,W1,Wc,W6,ia,ig]
  refine Y5 (en1:=[some (.scr ns),some (.int (cf 0)),some (.int i),some (.ref 0),some (.ref 3),some (.int 2),some (enc (i,3)),some (.ref 5),some (key i g),some (key i l),none,none,none,none,none,none,none]) (S1:=S5) ?_ ?_
  ·simp only [EVS,W8,W9,We,W5,Wg,Wh,Wa,Wb,W7,↓reduceIte,reduceCtorEq,W1,Wc,W6,ib,il]
  refine Y5 (en1:=[some (.scr ns),some (.int (cf 0)),some (.int i),some (.ref 0),some (.ref 3),some (.int 2),some (enc (i,3)),some (.ref 5),some (key i g),some (key i l),none,none,none,none,none,none,none]) (S1:=S6) ?_ ?_
  ·simp only [EVS,W8,W9,We,W5,Wg,Wh,Wa,Wb,W7,↓reduceIte,reduceCtorEq,W1,Wc,W6,Qe,Yc (m:="drop") h5 (λ_ _=>rfl),Qb,dr]
  refine Y5 (en1:=[some (.scr ns),some (.int (cf 0)),some (.int i),some (.ref 0),some (.ref 3),some (.int 2),some (enc (i,3)),some (.ref 5),some (key i g),some (key i l),some (.tup (E4.map (fl i))),none,none,none,none,none,none]) (S1:=S6) ?_ ?_
  ·simp only [EVS,W8,W9,We,W5,Wg,Wh,Wa,Wb,W7,↓reduceIte,reduceCtorEq,W1,Wc,W6,Hq f6,cf6]
  refine Y5 (en1:=[some (.scr ns),some (.int (cf 0)),some (.int i),some (.ref 0),some (.ref 3),some (.int 2),some (enc (i,3)),some (.ref 5),some (key i g),some (key i l),some (.tup (E4.map (fl i))),some (enc (i,5)),none,none,none,none,none]) (S1:=S6) ?_ ?_
  ·simp only [EVS,W8,W9,We,W5,Wg,Wh,Wa,Wb,W7,↓reduceIte,reduceCtorEq,W1,Wc,W6];rfl
  refine Y5 (en1:=[some (.scr ns),some (.int (cf 0)),some (.int i),some (.ref 0),some (.ref 3),some (.int 2),some (enc (i,3)),some (.ref 5),some (key i g),some (key i l),some (.tup (E4.map (fl i))),some (enc (i,5)),some (.ref kq),none,none,none,none]) (S1:=S9) ?_ ?_
  ·simp only [EVS,W8,W9,We,W5,Wg,Wh,Wa,Wb,W7,↓reduceIte,reduceCtorEq,W1,Wc,W6,hc3,a7',md,a8',ad']
  refine Y5 lp2 ?_
  refine Y5 (en1:=EN ns (cf 0) i 5 (key i g) (key i l) (.tup (E4.map (fl i))) kq y6 y13 y14 y15 y16) (S1:=S11) ?_ ?_
  ·unfold EN
   simp only [EVS,W8,W9,We,W5,Wg,Wh,Wa,Wb,W7,↓reduceIte,reduceCtorEq,W1,Wc,W6,Qe,Yc (m:="make") h9 (λ_ _=>rfl),Qb,mk,sm10,rf]
  ·unfold EN
   simp only [EVS,W8,W9,We,W5,Wg,Wh,Wa,Wb,W7,↓reduceIte,reduceCtorEq,W1,Wc,W6,Qe,Yc (m:="file") h11 (λ_ _=>rfl),Qb,hf,sm11]
 rw [run,JG];unfold Uw;split<;>rfl
end K08
open PySem PySem.W PyProof.Rows
local macro_rules
  | `(tactic| o_head $H) => `(tactic| (refine holds_open (q := PySem.Challenge.rw_twinshelves_k08_refusals.prog) (loose := []) (Xt := (fun s => PySem.W.xlAt PySem.Challenge.rw_twinshelves_k08_refusals.prog [] s && PySem.W.recOk (PySem.W.RowW.records (PySem.W.OpenRow.toRowW (PySem.W.OpenLaw.row PySem.Challenge.rw_twinshelves_k08_refusals))) s)) (XP := XL PySem.Challenge.rw_twinshelves_k08_refusals.prog []) (Yf := Hook.obs $H) (Ya := Hook.val $H) (YP := Hook.says $H) (N := 5900) ?hl (Hook.of $H) (Hook.keeps $H) (fun s e => xl_of s (Bool.and_eq_true_iff.mp e).1) XL.keeps (by rfl) (by rfl) (by rfl) (fun s e => recFacts_of (Bool.and_eq_true_iff.mp e).2) (by rfl) (by first | assumption | decide +kernel) (by decide +kernel) ⟨rfl, rfl, rfl, rfl, rfl, by decide +kernel⟩ ?hw ?hc; (case hl => exact DL.left_tree DL.hB DL.hC (by kernel_rfl) (by decide +kernel) (fun s => by kernel_rfl) (fun w os => by kernel_rfl)); (case hw => w_witness2)))
set_option maxRecDepth 100000 in
set_option maxHeartbeats 0 in
theorem PySem.Challenge.cw_twinshelves_k08_refusals_holds : PySem.Challenge.rw_twinshelves_k08_refusals.Holds := by
 w_on;o_law;k_head
 k_fill
 refine DL.walk_d (l:=PySem.Challenge.rw_twinshelves_k08_refusals) (F:=K08.F_law) (k:=14) (x:="_law_script") rfl rfl ⟨rfl,by decide,by decide⟩ (λw h Y=>PySem.W.kIn_of Y) ?F K08.law_true
 case F=>
  intro w mg fa h KX G hmg;refine' K08.all_mk KX G hmg ?cg_House ?ca_House ?cb_House ?cc_House ?ce_House ?cm_House ?ck_House ?cn_House_acts ?cn_House_files ?cn_House_own_number ?cn_House_told ?a0 ?l0 ?c0 ?k0 ?e0 ?a1 ?l1 ?c1 ?k1 ?e1 ?a2 ?l2 ?c2 ?k2 ?a3 ?l3 ?c3 ?k3 ?a4 ?l4 ?c4 ?k4 ?a5 ?l5 ?c5 ?k5 ?a6 ?l6 ?c6 ?k6 ?a7 ?l7 ?c7 ?k7 ?e7 ?a8 ?l8 ?c8 ?k8 ?e8 ?a9 ?l9 ?c9 ?k9 ?a10 ?l10 ?c10 ?k10 ?e10 ?a11 ?l11 ?c11 ?k11 ?a12 ?l12 ?c12 ?k12 ?e12 ?a13 ?l13 ?c13 ?k13 ?e13 ?a14 ?l14 ?c14 ?k14 ?e14 ?a15 ?l15 ?c15 ?k15 ?a16 ?l16 ?c16 ?k16 ?a17 ?l17 ?c17 ?k17 ?a18 ?l18 ?c18 ?k18 ?a19 ?l19 ?c19 ?k19 ?a20 ?l20 ?c20 ?k20 ?a21 ?l21 ?c21 ?k21 ?e21 ?a22 ?l22 ?c22 ?k22 ?e22 ?a23 ?l23 ?c23 ?k23 ?e23 ?a24 ?l24 ?c24 ?k24 ?a25 ?l25 ?c25 ?k25 ?a26 ?l26 ?c26 ?k26 ?a27 ?l27 ?c27 ?k27 ?z_all ?z_bool ?z_dict ?z_int ?z_isinstance ?z_len ?z_list ?z_max ?z_range ?z_sorted ?z_str ?z_tuple ?z_zip ?y_LONGEST_NAME ?y_LONGEST_TEXT ?xg_ShelfError ?xg_NoFile ?xg_NoName ?xg_NoWords ?xs1 ?xs2 ?xd1 ?xd2 ?xd3 ?xe_NoFile ?xa_NoFile ?xh_NoFile ?xi_NoFile ?xb_NoFile ?xf_NoFile ?xo_NoFile ?xm_NoFile ?xk_NoFile_ValueError ?xk_NoFile_NoFile ?xk_NoFile_NoName ?xk_NoFile_NoWords ?xe_NoName ?xa_NoName ?xh_NoName ?xi_NoName ?xb_NoName ?xf_NoName ?xo_NoName ?xm_NoName ?xk_NoName_ValueError ?xk_NoName_NoFile ?xk_NoName_NoName ?xk_NoName_NoWords ?xe_NoWords ?xa_NoWords ?xh_NoWords ?xi_NoWords ?xb_NoWords ?xf_NoWords ?xo_NoWords ?xm_NoWords ?xk_NoWords_ValueError ?xk_NoWords_NoFile ?xk_NoWords_NoName ?xk_NoWords_NoWords ?z_ValueError
  (case cg_House=>k_is)
  (case ca_House=>k_is)
  (case cb_House=>k_is)
  (case cc_House=>k_is)
  (case ce_House=>k_is)
  (case cm_House=>k_is)
  (case ck_House=>k_is)
  (case cn_House_acts=>k_is)
  (case cn_House_files=>k_is)
  (case cn_House_own_number=>k_is)
  (case cn_House_told=>k_is)
  (case a0=>k_is)
  (case l0=>k_is)
  (case c0=>k_is)
  (case k0=>k_is)
  (case e0=>k_is)
  (case a1=>k_is)
  (case l1=>k_is)
  (case c1=>k_is)
  (case k1=>k_is)
  (case e1=>k_is)
  (case a2=>k_is)
  (case l2=>k_is)
  (case c2=>k_is)
  (case k2=>k_is)
  (case a3=>k_is)
  (case l3=>k_is)
  (case c3=>k_is)
  (case k3=>k_is)
  (case a4=>k_is)
  (case l4=>k_is)
  (case c4=>k_is)
  (case k4=>k_is)
  (case a5=>k_is)
  (case l5=>k_is)
  (case c5=>k_is)
  (case k5=>k_is)
  (case a6=>k_is)
  (case l6=>k_is)
  (case c6=>k_is)
  (case k6=>k_is)
  (case a7=>k_is)
  (case l7=>k_is)
  (case c7=>k_is)
  (case k7=>k_is)
  (case e7=>k_is)
  (case a8=>k_is)
  (case l8=>k_is)
  (case c8=>k_is)
  (case k8=>k_is)
  (case e8=>k_is)
  (case a9=>k_is)
  (case l9=>k_is)
  (case c9=>k_is)
  (case k9=>k_is)
  (case a10=>k_is)
  (case l10=>k_is)
  (case c10=>k_is)
  (case k10=>k_is)
  (case e10=>k_is)
  (case a11=>k_is)
  (case l11=>k_is)
  (case c11=>k_is)
  (case k11=>k_is)
  (case a12=>k_is)
  (case l12=>k_is)
  (case c12=>k_is)
  (case k12=>k_is)
  (case e12=>k_is)
  (case a13=>k_is)
  (case l13=>k_is)
  (case c13=>k_is)
  (case k13=>k_is)
  (case e13=>k_is)
  (case a14=>k_is)
  (case l14=>k_is)
  (case c14=>k_is)
  (case k14=>k_is)
  (case e14=>k_is)
  (case a15=>k_is)
  (case l15=>k_is)
  (case c15=>k_is)
  (case k15=>k_is)
  (case a16=>k_is)
  (case l16=>k_is)
  (case c16=>k_is)
  (case k16=>k_is)
  (case a17=>k_is)
  (case l17=>k_is)
  (case c17=>k_is)
  (case k17=>k_is)
  (case a18=>k_is)
  (case l18=>k_is)
  (case c18=>k_is)
  (case k18=>k_is)
  (case a19=>k_is)
  (case l19=>k_is)
  (case c19=>k_is)
  (case k19=>k_is)
  (case a20=>k_is)
  (case l20=>k_is)
  (case c20=>k_is)
  (case k20=>k_is)
  (case a21=>k_is)
  (case l21=>k_is)
  (case c21=>k_is)
  (case k21=>k_is)
  (case e21=>k_is)
  (case a22=>k_is)
  (case l22=>k_is)
  (case c22=>k_is)
  (case k22=>k_is)
  (case e22=>k_is)
  (case a23=>k_is)
  (case l23=>k_is)
  (case c23=>k_is)
  (case k23=>k_is)
  (case e23=>k_is)
  (case a24=>k_is)
  (case l24=>k_is)
  (case c24=>k_is)
  (case k24=>k_is)
  (case a25=>k_is)
  (case l25=>k_is)
  (case c25=>k_is)
  (case k25=>k_is)
  (case a26=>k_is)
  (case l26=>k_is)
  (case c26=>k_is)
  (case k26=>k_is)
  (case a27=>k_is)
  (case l27=>k_is)
  (case c27=>k_is)
  (case k27=>k_is)
  (case z_all=>k_is)
  (case z_bool=>k_is)
  (case z_dict=>k_is)
  (case z_int=>k_is)
  (case z_isinstance=>k_is)
  (case z_len=>k_is)
  (case z_list=>k_is)
  (case z_max=>k_is)
  (case z_range=>k_is)
  (case z_sorted=>k_is)
  (case z_str=>k_is)
  (case z_tuple=>k_is)
  (case z_zip=>k_is)
  (case y_LONGEST_NAME=>k_is)
  (case y_LONGEST_TEXT=>k_is)
  (case xg_ShelfError=>k_is)
  (case xg_NoFile=>k_is)
  (case xg_NoName=>k_is)
  (case xg_NoWords=>k_is)
  (case xs1=>k_is)
  (case xs2=>k_is)
  (case xd1=>k_is)
  (case xd2=>k_is)
  (case xd3=>k_is)
  (case xe_NoFile=>k_exc)
  (case xa_NoFile=>k_is)
  (case xh_NoFile=>k_is)
  (case xi_NoFile=>k_is)
  (case xb_NoFile=>k_is)
  (case xf_NoFile=>k_is)
  (case xo_NoFile=>k_is)
  (case xm_NoFile=>k_is)
  (case xk_NoFile_ValueError=>kit_is)
  (case xk_NoFile_NoFile=>kit_is)
  (case xk_NoFile_NoName=>kit_is)
  (case xk_NoFile_NoWords=>kit_is)
  (case xe_NoName=>k_exc)
  (case xa_NoName=>k_is)
  (case xh_NoName=>k_is)
  (case xi_NoName=>k_is)
  (case xb_NoName=>k_is)
  (case xf_NoName=>k_is)
  (case xo_NoName=>k_is)
  (case xm_NoName=>k_is)
  (case xk_NoName_ValueError=>kit_is)
  (case xk_NoName_NoFile=>kit_is)
  (case xk_NoName_NoName=>kit_is)
  (case xk_NoName_NoWords=>kit_is)
  (case xe_NoWords=>k_exc)
  (case xa_NoWords=>k_is)
  (case xh_NoWords=>k_is)
  (case xi_NoWords=>k_is)
  (case xb_NoWords=>k_is)
  (case xf_NoWords=>k_is)
  (case xo_NoWords=>k_is)
  (case xm_NoWords=>k_is)
  (case xk_NoWords_ValueError=>kit_is)
  (case xk_NoWords_NoFile=>kit_is)
  (case xk_NoWords_NoName=>kit_is)
  (case xk_NoWords_NoWords=>kit_is)
  (case z_ValueError=>k_is)
