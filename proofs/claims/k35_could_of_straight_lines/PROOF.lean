import PyProof.Rows.All
import Wide.All
import OpenK.AllK
import Wide.FinOn
import Lean
import PyProof.EqAt
import PyProof.EqKinds
import PyProof.TupleCall
import PySem.Challenge.RW_widelanes_k35_could_of_straight_lines
set_option Elab.async false
set_option genSizeOf false
set_option genSizeOfSpec false
set_option compiler.extract_closed false
set_option linter.all false
set_option maxRecDepth 100000
section
local macro_rules|`(tactic| omega)=>`(tactic| first | lia | omega +splitNatSub)
namespace L2
open PySem PySem.Spec PyProof.Rows
open PySem.W (Frag)
theorem Rq:type_of% @wpAny_bind:=@wpAny_bind
theorem Rt:type_of% @if_pos:=@if_pos
theorem Ru:type_of% @wpAny_pure:=@wpAny_pure
theorem Rv:type_of% @Heap.get?_push_of_some:=@Heap.get?_push_of_some
theorem Rx:type_of% @List.mem_cons:=@List.mem_cons
theorem Ry:type_of% @Nat.le_refl:=@Nat.le_refl
theorem Rz:type_of% @List.mem_append:=@List.mem_append
theorem RA:type_of% @wpS_bind:=@wpS_bind
theorem RB:type_of% @decide_eq_false:=@decide_eq_false
theorem RC:type_of% @Heap.lt_size:=@Heap.lt_size
theorem RD:type_of% @Nat.lt_of_lt_of_le:=@Nat.lt_of_lt_of_le
theorem RE:type_of% @List.mem_singleton:=@List.mem_singleton
theorem RF:type_of% @Heap.get?_push_size:=@Heap.get?_push_size
theorem RG:type_of% @Option.bind_some:=@Option.bind_some
theorem RH:type_of% @wpS_pure:=@wpS_pure
theorem RI:type_of% @List.getElem?_set_ne:=@List.getElem?_set_ne
theorem RJ:type_of% @if_neg:=@if_neg
theorem RK:type_of% @decide_eq_true:=@decide_eq_true
theorem RL:type_of% @Nat.ne_of_lt:=@Nat.ne_of_lt
theorem RM:type_of% @List.length_cons:=@List.length_cons
theorem RN:type_of% @List.length_append:=@List.length_append
theorem RO:type_of% @congrArg:=@congrArg
theorem RP:type_of% @Bool.false_ne_true:=@Bool.false_ne_true
theorem RQ:type_of% @List.getElem?_eq_getElem:=@List.getElem?_eq_getElem
theorem RR:type_of% @List.getElem?_append_left:=@List.getElem?_append_left
theorem RT:type_of% @List.not_mem_nil:=@List.not_mem_nil
theorem RU:type_of% @List.map_cons:=@List.map_cons
theorem RV:type_of% @List.mem_cons_self:=@List.mem_cons_self
theorem RW:type_of% @List.map_append:=@List.map_append
theorem RX:type_of% @List.append_assoc:=@List.append_assoc
theorem RY:type_of% @Bool.and_eq_true:=@Bool.and_eq_true
theorem RZ:type_of% @Array.getElem?_toList:=@Array.getElem?_toList
theorem R0:type_of% @List.getElem?_append_right:=@List.getElem?_append_right
theorem R5:type_of% @decide_eq_true_eq:=@decide_eq_true_eq
theorem R6:type_of% @List.mem_cons_of_mem:=@List.mem_cons_of_mem
theorem R7:type_of% @List.any_eq_true:=@List.any_eq_true
theorem R8:type_of% @List.length_map:=@List.length_map
theorem R9:type_of% @List.mem_append_right:=@List.mem_append_right
theorem Sa:type_of% @List.append_nil:=@List.append_nil
theorem Sb:type_of% @Nat.le_trans:=@Nat.le_trans
theorem Sc:type_of% @List.mem_map:=@List.mem_map
theorem Sd:type_of% @Array.toList_append:=@Array.toList_append
theorem Se:type_of% @List.take_of_length_le:=@List.take_of_length_le
theorem Sg:type_of% @List.pairwise_append:=@List.pairwise_append
theorem Sh:type_of% @of_decide_eq_true:=@of_decide_eq_true
theorem Si:type_of% @List.find?_cons:=@List.find?_cons
theorem Sj:type_of% @PySem.W.mg_none_of:=@PySem.W.mg_none_of
theorem Sk:type_of% @Int.le_refl:=@Int.le_refl
theorem Sn:type_of% @List.drop_eq_getElem_cons:=@List.drop_eq_getElem_cons
theorem So:type_of% @List.size_toArray:=@List.size_toArray
theorem Sq:type_of% @List.mem_of_getElem?:=@List.mem_of_getElem?
theorem Sr:type_of% @Bool.false_eq_true:=@Bool.false_eq_true
theorem Ss:type_of% @wpAny_holding:=@wpAny_holding
theorem Su:type_of% @List.getElem?_map:=@List.getElem?_map
theorem Sv:type_of% @wpS_forRange:=@wpS_forRange
theorem Sw:type_of% @Option.map_some:=@Option.map_some
theorem Sx:type_of% @wpAny_mono:=@wpAny_mono
theorem Sy:type_of% @List.take_append_drop:=@List.take_append_drop
theorem Sz:type_of% @Int.le_trans:=@Int.le_trans
theorem SD:type_of% @Array.perm_iff_toList_perm:=@Array.perm_iff_toList_perm
theorem SF:type_of% @codeAny_builtin:=@codeAny_builtin
theorem SG:type_of% @Nat.lt_succ_self:=@Nat.lt_succ_self
theorem SI:type_of% @wpAny_call_entry:=@wpAny_call_entry
theorem SJ:type_of% @Heap.SameBut.update:=@Heap.SameBut.update
theorem SK:type_of% @Array.length_toList:=@Array.length_toList
theorem SN:type_of% @Ne.symm:=@Ne.symm
theorem SS:type_of% @Nat.lt_succ_of_lt:=@Nat.lt_succ_of_lt
theorem SU:type_of% @List.getElem?_take_of_lt:=@List.getElem?_take_of_lt
theorem SV:type_of% @Option.some.inj:=@Option.some.inj
theorem SW:type_of% @List.length_set:=@List.length_set
theorem SX:type_of% @F.slot_dict_keyiterator_next:=@F.slot_dict_keyiterator_next
theorem SY:type_of% @List.prefix_refl:=@List.prefix_refl
theorem S8:type_of% @List.mem_of_mem_drop:=@List.mem_of_mem_drop
theorem S9:type_of% @List.mem_reverse:=@List.mem_reverse
theorem Ta:type_of% @Bool.and_eq_true_iff:=@Bool.and_eq_true_iff
theorem Tb:type_of% @Nat.le_of_lt:=@Nat.le_of_lt
theorem Td:type_of% @wpAny_truthy_bool:=@wpAny_truthy_bool
theorem Te:type_of% @or_false:=@or_false
theorem Tf:type_of% @Nat.zero_le:=@Nat.zero_le
theorem Tg:type_of% @List.nodup_cons:=@List.nodup_cons
theorem Th:type_of% @List.nil_append:=@List.nil_append
theorem Ti:type_of% @PyProof.Rows.slot_tuple_getitem:=@PyProof.Rows.slot_tuple_getitem
theorem Tj:type_of% @List.pairwise_iff_getElem:=@List.pairwise_iff_getElem
theorem Tk:type_of% @Array.getElem?_eq_getElem:=@Array.getElem?_eq_getElem
theorem Tl:type_of% @List.getElem?_eq_none:=@List.getElem?_eq_none
theorem Tn:type_of% @List.mem_filterMap:=@List.mem_filterMap
theorem To:type_of% @Option.isSome_some:=@Option.isSome_some
theorem Tq:type_of% @PySem.F.called_set:=@PySem.F.called_set
theorem Ts:type_of% @Paired.length:=@Paired.length
theorem Tt:type_of% @Nat.lt_irrefl:=@Nat.lt_irrefl
theorem Tu:type_of% @wpAny_typeNameOfWhole_keyiter:=@wpAny_typeNameOfWhole_keyiter
theorem Tv:type_of% @wpAny_newObj_type:=@wpAny_newObj_type
theorem Tw:type_of% @wpAny_callSpecial?_slot:=@wpAny_callSpecial?_slot
theorem Tx:type_of% @Nat.add_sub_cancel_left:=@Nat.add_sub_cancel_left
theorem Tz:type_of% @PySem.mem_of_lookup:=@PySem.mem_of_lookup
theorem TB:type_of% @List.cons_append:=@List.cons_append
theorem TC:type_of% @wpAny_rule:=@wpAny_rule
theorem TD:type_of% @Heap.get?_update_self:=@Heap.get?_update_self
theorem TF:type_of% @List.mem_filter:=@List.mem_filter
theorem TJ:type_of% @wpAny_passesOwn:=@wpAny_passesOwn
theorem TK:type_of% @Bool.or_eq_true:=@Bool.or_eq_true
theorem TL:type_of% @Nat.lt_trans:=@Nat.lt_trans
theorem TM:type_of% @Nat.lt_or_ge:=@Nat.lt_or_ge
theorem TN:type_of% @Int.toNat_natCast:=@Int.toNat_natCast
theorem TQ:type_of% @decide_true:=@decide_true
theorem TR:type_of% @wpAny_setState_of:=@wpAny_setState_of
theorem TU:type_of% @List.mem_of_mem_take:=@List.mem_of_mem_take
theorem TV:type_of% @Nat.succ_pos:=@Nat.succ_pos
theorem TW:type_of% @Option.isSome_iff_exists:=@Option.isSome_iff_exists
theorem TX:type_of% @listUpdate_at:=@listUpdate_at
theorem TY:type_of% @beq_eq_false_iff_ne:=@beq_eq_false_iff_ne
theorem TZ:type_of% @List.map_congr_left:=@List.map_congr_left
theorem T0:type_of% @Heap.get?_update_ne:=@Heap.get?_update_ne
theorem T1:type_of% @List.getElem?_replicate:=@List.getElem?_replicate
theorem T3:type_of% @List.getElem?_cons_succ:=@List.getElem?_cons_succ
theorem T4:type_of% @PySem.F.plainAttrs_list:=@PySem.F.plainAttrs_list
theorem T5:type_of% @wpS_mono:=@wpS_mono
theorem T6:type_of% @sizeLine_eq:=@sizeLine_eq
theorem T7:type_of% @List.eq_nil_of_length_eq_zero:=@List.eq_nil_of_length_eq_zero
theorem T8:type_of% @List.map_map:=@List.map_map
theorem T9:type_of% @Int.le_of_lt:=@Int.le_of_lt
theorem Ua:type_of% @wpAny_loadPart':=@wpAny_loadPart'
theorem Ub:type_of% @wpAny_newList:=@wpAny_newList
theorem Uc:type_of% @PyProof.Rows.callWith_type1:=@PyProof.Rows.callWith_type1
theorem Ud:type_of% @wpAny_pyIter_list:=@wpAny_pyIter_list
theorem Ue:type_of% @Array.toList_push:=@Array.toList_push
theorem Uf:type_of% @Heap.size_push:=@Heap.size_push
theorem Ug:type_of% @List.drop_drop:=@List.drop_drop
theorem Uh:type_of% @wpS_modify:=@wpS_modify
theorem Ui:type_of% @codeAny_mono:=@codeAny_mono
theorem Uj:type_of% @List.drop_length:=@List.drop_length
theorem Uk:type_of% @List.getElem_mem:=@List.getElem_mem
theorem Ul:type_of% @Heap.size_update:=@Heap.size_update
theorem Um:type_of% @List.filterMap_cons:=@List.filterMap_cons
theorem Uo:type_of% @List.any_cons:=@List.any_cons
theorem Up:type_of% @if_false:=@if_false
theorem Uq:type_of% @PySem.W.mg_of:=@PySem.W.mg_of
theorem Ur:type_of% @List.length_filterMap_le:=@List.length_filterMap_le
theorem Us:type_of% @Bool.and_true:=@Bool.and_true
theorem Ut:type_of% @Nat.not_lt_zero:=@Nat.not_lt_zero
theorem Uu:type_of% @Int.fdiv_nonneg:=@Int.fdiv_nonneg
theorem Uv:type_of% @wpAny_Call_Name_kw:=@wpAny_Call_Name_kw
theorem Uw:type_of% @tupleKind_room_in1:=@tupleKind_room_in1
theorem Ux:type_of% @Code.quiet_builtin:=@Code.quiet_builtin
theorem Uy:type_of% @Obj.data_mapFields:=@Obj.data_mapFields
theorem Uz:type_of% @List.pairwise_cons:=@List.pairwise_cons
theorem UA:type_of% @List.getElem?_set_self:=@List.getElem?_set_self
theorem UB:type_of% @Nat.ne_of_gt:=@Nat.ne_of_gt
theorem UC:type_of% @List.take_sublist:=@List.take_sublist
theorem UD:type_of% @if_true:=@if_true
theorem UE:type_of% @wpAny_pyIter_enum:=@wpAny_pyIter_enum
theorem UF:type_of% @List.ext_getElem?:=@List.ext_getElem?
theorem UG:type_of% @wpAny_setField:=@wpAny_setField
theorem UH:type_of% @Array.getElem?_eq_none:=@Array.getElem?_eq_none
theorem UI:type_of% @wpS_get:=@wpS_get
theorem UJ:type_of% @Heap.get?_push_ne:=@Heap.get?_push_ne
theorem UK:type_of% @List.pairwise_map:=@List.pairwise_map
theorem UL:type_of% @PySem.F.slot_dict_get:=@PySem.F.slot_dict_get
theorem UM:type_of% @Int.mul_ediv_add_emod:=@Int.mul_ediv_add_emod
theorem UN:type_of% @beq_iff_eq:=@beq_iff_eq
theorem UO:type_of% @List.all_eq_true:=@List.all_eq_true
theorem UP:type_of% @wpAny_attempt:=@wpAny_attempt
theorem UQ:type_of% @plainId_quiet:=@plainId_quiet
theorem UR:type_of% @Bool.true_and:=@Bool.true_and
theorem US:type_of% @Bool.and_self:=@Bool.and_self
theorem UT:type_of% @Nat.pow_lt_pow_right:=@Nat.pow_lt_pow_right
theorem UU:type_of% @wpAny_of_eq:=@wpAny_of_eq
theorem UV:type_of% @Array.toList_extract:=@Array.toList_extract
theorem UW:type_of% @wpAny_typeOf:=@wpAny_typeOf
theorem UX:type_of% @List.map_nil:=@List.map_nil
theorem UY:type_of% @Int.add_comm:=@Int.add_comm
theorem UZ:type_of% @intKind_is:=@intKind_is
theorem U0:type_of% @decide_false:=@decide_false
theorem U1:type_of% @Nat.add_zero:=@Nat.add_zero
theorem oB {α β:Type} {x:Option α} {f:α->Option β} {b:β} (h:x.bind f=some b):∃ a,x=some a/\f a=some b:=Option.bind_eq_some_iff.mp h
theorem oM {α β:Type} {x:Option α} {f:α->β} {b:β} (h:x.map f=some b):∃ a,x=some a/\f a=b:=Option.map_eq_some_iff.mp h
theorem oG {α:Type} {l:List α} {i:Nat} {a:α} (h:l[i]?=some a):∃ h:i<l.length,l[i]=a:=List.getElem?_eq_some_iff.mp h
noncomputable abbrev b8:=Sum Int Str
noncomputable def qF:b8->Value->Bool
 | .inl k,v=>Value.isInt k v
 | .inr x,v=>Value.isStrOf x v
noncomputable def PD (w:World):b8->Int
 | .inl k=>hashInt k
 | .inr x=>hashStr w x
theorem bM:∀ {k:b8} {v:Value},qF k v=true->(∃ i t,k=Sum.inl i/\v=Value.int i t)∨(∃ x t,k=Sum.inr x/\v=Value.str x t)
 | .inl i,v,h=>by
  obtain ⟨t,e⟩:=Value.isInt_shape   h
  simp_all
 | .inr x,v,h=>by
  obtain ⟨t,e⟩:=Value.isStrOf_shape   h
  simp_all
theorem Ad (i:Int) (t:Tok):qF (.inl i) (.int i t)=true:=by simp [qF,Value.isInt]
theorem AC (x:Str) (t:Tok):qF (.inr x) (.str x t)=true:=by simp [qF,Value.isStrOf]
theorem Kn (a b:Int):decide ((Sum.inl a:b8)=Sum.inl b)=(a==b):=by
 grind
theorem IR (a b:Str):decide ((Sum.inr a:b8)=Sum.inr b)=decide (a=b):=by
 simp_all
theorem Ik (a:Int) (b:Str):decide ((Sum.inl a:b8)=Sum.inr b)=false:=RB λ q=>nomatch q
theorem K0 (a:Str) (b:Int):decide ((Sum.inr a:b8)=Sum.inl b)=false:=RB λ q=>nomatch q
noncomputable def bx (prog:Program) (w:World):PySem.KeyKind prog w b8 where
 is:=qF
 hash:=PD w
 inj:=λ v a b ha hb=>by
  rcases bM ha with ⟨i,t,rfl,rfl⟩ | ⟨x,t,rfl,rfl⟩
  . rcases bM hb with ⟨j,u,rfl,e⟩ | ⟨y,u,rfl,e⟩
    . injection e with e1 _;rw [e1]
    . exact nomatch e
  . rcases bM hb with ⟨j,u,rfl,e⟩ | ⟨y,u,rfl,e⟩
    . exact nomatch e
    . injection e with e1 _;rw [e1]
 byValue:=λ k v h=>by
  rcases bM h with ⟨i,t,rfl,rfl⟩ | ⟨x,t,rfl,rfl⟩ <;> rfl
 pyHash:=λ hv h=>by
  rcases bM hv with ⟨i,t,rfl,rfl⟩ | ⟨x,t,rfl,rfl⟩
  . exact wpAny_pyHash_int h
  . exact wpAny_pyHash_str h
 eqBool:=λ hu hv h=>by
  rcases bM hu with ⟨i,t,rfl,rfl⟩ | ⟨x,t,rfl,rfl⟩
  . rcases bM hv with ⟨j,u,rfl,rfl⟩ | ⟨y,u,rfl,rfl⟩
    . rw [Kn] at h;exact wpAny_eqBool_int h
    . rw [Ik] at h;exact SeqAt.EqAt.int_str i t y u _ _ _ _ h
  . rcases bM hv with ⟨j,u,rfl,rfl⟩ | ⟨y,u,rfl,rfl⟩
    . rw [K0] at h;exact SeqAt.EqAt.str_int x t j u _ _ _ _ h
    . rw [IR] at h;exact wpAny_eqBool_str h
 «strs»:=λ k x t v h=>by
  rcases bM h with ⟨i,u,rfl,e⟩ | ⟨y,u,rfl,e⟩
  . exact nomatch e
  . injection e with e1 _
    subst e1;cases v <;> rfl
theorem vX (prog:Program) (w:World) (i:Int) (t:Tok):(bx prog w).is (.inl i) (.int i t)=true:=Ad i t
theorem vH (prog:Program) (w:World) (x:Str) (t:Tok):(bx prog w).is (.inr x) (.str x t)=true:=AC x t
noncomputable def nH (P:Program) (w:World) (ks:List b8):Int:=if ks=[] then 4238894112 else (tupleKind (bx P w)).hash ks
noncomputable def nE (P:Program) (w:World) (x:List b8×Value×Value):DictEntry:=⟨nH P w x.1,x.2.1,x.2.2⟩
end L2
namespace L2
open PySem PySem.Spec PyProof.Rows
open PySem.W (Frag)
inductive V where
 | non | bl (b:Bool) | int (i:Int) | str (x:Str) | byt (b:Array UInt8) | flt (b:UInt64) | ref (a:Addr) | ty (n:String)
 deriving DecidableEq
noncomputable def bh:V->Value->Prop
 | .non,u=>u=Value.none
 | .bl b,u=>u=Value.bool b
 | .int i,u=>∃ t,u=Value.int i t
 | .str x,u=>∃ t,u=Value.str x t
 | .byt b,u=>∃ t,u=Value.bytes b t
 | .flt b,u=>∃ t,u=Value.float b t
 | .ref a,u=>u=Value.ref a
 | .ty n,u=>u=Value.type n
noncomputable abbrev bf:List V->List Value->Prop:=Paired bh
theorem bf.length (r:bf xs us):xs.length=us.length:=Ts r
theorem bf.get {i:Nat} (h:bf xs us) (e:xs[i]?=some x):∃ u,us[i]?=some u/\bh x u:=by
 induction h generalizing i with
 | nil=>cases e
 | cons r _ ih=>
  grind
theorem bf.append (h:bf xs us) (s:bf ys ws):bf (xs++ys) (us++ws):=by
 induction h with
 | nil=>exact s
 | cons r _ ih=>exact .cons r ih
theorem bf.take (n:Nat) (h:bf xs us):bf (xs.take n) (us.take n):=by
 induction h generalizing n with
 | nil=>cases n <;> exact .nil
 | cons r _ ih=>
  cases n with
  | zero=>exact .nil
  | succ n=>exact .cons r (ih n)
theorem bf.drop (n:Nat) (h:bf xs us):bf (xs.drop n) (us.drop n):=by
 induction h generalizing n with
 | nil=>cases n <;> exact .nil
 | cons r t ih=>
  cases n with
  | zero=>exact .cons r t
  | succ n=>exact ih n
noncomputable def j4:Option V->Option Value->Prop
 | some v,some u=>bh v u
 | none,none=>True
 | _,_=>False
noncomputable def KV {κ:Type}:List (κ×V)->List (κ×Value)->Prop:=Paired λ (p:κ×V) (q:κ×Value)=>p.1=q.1/\bh p.2 q.2
noncomputable def nO (P:Program) (w:World) (h:Heap) (a:Addr) (kvs:List (b8×Value)):Prop:=
 ∃ o es ep,h.get? a=some o/\o.ExactDict/\o.data=.dict es ep/\ep=es.size/\KeysOf (bx P w) es/\Pairs (bx P w) es.toList kvs/\(kvs.map (·.1)).Nodup
theorem nO.of (x:nO P w h a kvs):h.DictOf (bx P w) a kvs:=by
 obtain ⟨o,es,ep,h1,h2,h3,_,h5⟩:=x;exact ⟨o,es,ep,h1,h2,h3,h5⟩
noncomputable def kV:b8->V
 | .inl i=>.int i
 | .inr x=>.str x
inductive HO where
 | lst (xs:List V)
 | tup (xs:List V)
 | dK (kvs:List (b8×V)) | dT (kvs:List (List b8×V)) | dN (kvs:List (List b8×V))
 | set (S:Int->Bool) (n:Nat)
 | ins (C dx:Addr) (fs:List (Str×V))
 | own (x:Addr)
 | xd (fs:List (Str×V))
 | met (f x:Addr)
 | rng (lo hi:Int)
 | frz (o:Obj) (u:HO)
 | tbl (ps:Array Value)
 | ext (φ:Heap->Prop)
noncomputable abbrev Hp:=Addr->Option HO
noncomputable def nV (H:Hp) (ks:List b8) (v:Value):Prop:=(ks=[]/\v=.none)∨(ks≠[]/\∃ b,v=.ref b/\H b=some (.tup (ks.map kV)))
noncomputable def cH (H:Hp) (a:Addr) (o:HO):Hp:=λ b=>if b=a then some o else H b
theorem aG:cH H a o a=some o:=by unfold cH;simp_all
theorem aF (h:b≠a):cH H a o b=H b:=by unfold cH;grind
theorem MA {H:Hp} (h:H a=some o) (h':H b=some u) (d:o≠u):a≠b:=by
 grind
theorem bH {H:Hp} (h:H a=some o) (h':H b=none):a≠b:=by
 grind
section
variable (P:Program) (w:World)
noncomputable def bY (H:Hp) (h:Heap) (a:Addr):HO->Prop
 | .lst xs=>xs.length<=sizeLine/\∃ (its:List Value) (n:Nat),bf xs its/\h.get? a=some { cls:=.type "list", data:=.seq its.toArray n }
 | .tup xs=>xs.length<=sizeLine/\∃ its:List Value,bf xs its/\IsTup h a its.toArray
 | .dK kvs=>kvs.length<=sizeLine/\(a==sysModules)=false/\∃ vs,KV kvs vs/\nO P w h a vs
 | .dT kvs=>kvs.length<=sizeLine/\(a==sysModules)=false/\∃ xs:List (List b8×Addr×Value),
  Paired (λ (p:List b8×V) (q:List b8×Addr×Value)=>p.1=q.1/\H q.2.1=some (.tup (p.1.map kV))/\bh p.2 q.2.2) kvs xs/\
  ∃ o es ep,h.get? a=some o/\o.ExactDict/\o.data=.dict es ep/\es.toList=xs.map (entryOfKey (tupleKind (bx P w)))/\(xs.map (·.1)).Nodup
 | .dN kvs=>kvs.length<=sizeLine/\(a==sysModules)=false/\∃ xs:List (List b8×Value×Value),
  Paired (λ (p:List b8×V) (q:List b8×Value×Value)=>p.1=q.1/\nV H p.1 q.2.1/\bh p.2 q.2.2) kvs xs/\
  ∃ o es ep,h.get? a=some o/\o.ExactDict/\o.data=.dict es ep/\es.toList=xs.map (nE P w)/\(xs.map (·.1)).Nodup
 | .set S n=>h.SetOf (intKind P w) a S n
 | .ins C dx fs=>H dx=some (.own a)/\fs.length<=1000/\dx≠a/\h.get? a=some (PySem.W.instObj C dx)/\
  ∃ mA,h.Ns1 dx mA/\(∀ f,j4 (fs.lookup f) (mA f))/\PySem.Within mA (fs.map (·.1))
 | .own _=>∃ o,h.get? a=some o
 | .xd fs=>∃ mA,h.Ns1 a mA/\∀ f,j4 (fs.lookup f) (mA f)
 | .rng lo hi=>∃ t u v,h.get? a=some { cls:=.type "range", data:=.fields #[.int lo t,.int hi u,.int 1 v] }
 | .frz o u=>h.get? a=some o/\bY H h a u
 | .tbl ps=>h.get? a=some { cls:=.none,data:=.fields ps }
 | .met f x=>h.get? a=some (PySem.W.methodObj (.ref f) (.ref x))
 | .ext φ=>φ h/\(∃ o,h.get? a=some o)/\∀ h1 h2:Heap,φ h1->(∀ o,h1.get? a=some o->h2.get? a=some o)->φ h2
noncomputable def jN (H:Hp) (h:Heap):Prop:=∀ a o,H a=some o->bY P w H h a o
end
section
variable {P:Program} {w:World} {H H':Hp} {h h':Heap} {a:Addr} {o:HO}
theorem bY.lt (x:bY P w H h a o):a<h.objs.size:=by
 cases o with
 | lst xs=>obtain ⟨_,_,_,_,e⟩:=x;exact RC e
 | tup xs=>obtain ⟨_,_,_,p⟩:=x;exact p.lt
 | dK kvs=>obtain ⟨_,_,_,_,o,_,_,e,_⟩:=x;exact RC e
 | dT kvs=>obtain ⟨_,_,_,_,o,_,_,e,_⟩:=x;exact RC e
 | dN kvs=>obtain ⟨_,_,_,_,o,_,_,e,_⟩:=x;exact RC e
 | set S n=>obtain ⟨o,_,_,_,e,_⟩:=x;exact RC e
 | ins C dx fs=>obtain ⟨_,_,_,e,_⟩:=x;exact RC e
 | own y=>obtain ⟨_,e⟩:=x;exact RC e
 | xd fs=>obtain ⟨_,⟨_,_,_,e,_⟩,_⟩:=x;exact RC e
 | rng lo hi=>obtain ⟨_,_,_,e⟩:=x;exact RC e
 | frz ob u=>obtain ⟨e,_⟩:=x;exact RC e
 | tbl ps=>exact RC (show h.get? a=some _ from x)
 | met f y=>exact RC (show h.get? a=some _ from x)
 | ext φ=>obtain ⟨_,⟨_,e⟩,_⟩:=x;exact RC e
theorem Paired.mapP {F G:α->β->Prop} {l₁:List α} {l₂:List β} (h:Paired F l₁ l₂) (f:∀ a b,F a b->G a b):Paired G l₁ l₂:=by
 induction h with
 | nil=>exact .nil
 | cons r _ ih=>exact .cons (f _ _ r) ih
theorem bY.stay (x:bY P w H h a o) (k:∀ b u,(b=a∨H b=some (.own a))->h.get? b=some u->h'.get? b=some u)
 (ho:∀ b,H b=some (.own a)->H' b=some (.own a)) (ht:∀ b xs,H b=some (.tup xs)->H' b=some (.tup xs)):bY P w H' h' a o:=by
 induction o with
 | lst xs=>obtain ⟨z,its,n,r,e⟩:=x;exact ⟨z,its,n,r,k _ _ (.inl rfl) e⟩
 | tup xs=>obtain ⟨z,its,r,ob,e,c⟩:=x;exact ⟨z,its,r,ob,k _ _ (.inl rfl) e,c⟩
 | dK kvs=>obtain ⟨z,y,vs,r,ob,es,ep,e,c⟩:=x;exact ⟨z,y,vs,r,ob,es,ep,k _ _ (.inl rfl) e,c⟩
 | dT kvs=>
  obtain ⟨z,y,xs,r,ob,es,ep,e,c⟩:=x;exact ⟨z,y,xs,Paired.mapP r λ p q z=>⟨z.1,ht _ _ z.2.1,z.2.2⟩,ob,es,ep,k _ _ (.inl rfl) e,c⟩
 | dN kvs=>
  obtain ⟨z,y,xs,r,ob,es,ep,e,c⟩:=x;exact ⟨z,y,xs,Paired.mapP r λ p q z=>⟨z.1,z.2.1.imp id λ hy0=>by grind,z.2.2⟩,ob,es,ep,k _ _ (.inl rfl) e,c⟩
 | set S n=>obtain ⟨ob,es,ep,t,e,c⟩:=x;exact ⟨ob,es,ep,t,k _ _ (.inl rfl) e,c⟩
 | ins C dx fs=>
  obtain ⟨d,z,ne,e,mA,⟨od,es,ep,e2,c⟩,r⟩:=x;exact ⟨ho _ d,z,ne,k _ _ (.inl rfl) e,mA,⟨od,es,ep,k _ _ (.inr d) e2,c⟩,r⟩
 | own y=>obtain ⟨ob,e⟩:=x;exact ⟨ob,k _ _ (.inl rfl) e⟩
 | xd fs=>obtain ⟨mA,⟨od,es,ep,e,c⟩,r⟩:=x;exact ⟨mA,⟨od,es,ep,k _ _ (.inl rfl) e,c⟩,r⟩
 | rng lo hi=>obtain ⟨t,u,v,e⟩:=x;exact ⟨t,u,v,k _ _ (.inl rfl) e⟩
 | frz ob u ih=>obtain ⟨e,q⟩:=x;exact ⟨k _ _ (.inl rfl) e,ih q⟩
 | tbl ps=>
  have e:h.get? a=some { cls:=.none,data:=.fields ps }:=x;show h'.get? a=some { cls:=.none,data:=.fields ps };exact k a _ (.inl rfl) e
 | met f y=>
  have e:h.get? a=some (PySem.W.methodObj (.ref f) (.ref y)):=x;show h'.get? a=some (PySem.W.methodObj (.ref f) (.ref y));exact k a _ (.inl rfl) e
 | ext φ=>obtain ⟨p,⟨o,e⟩,st⟩:=x;exact ⟨st _ _ p λ o q=>k _ _ (.inl rfl) q,⟨o,k _ _ (.inl rfl) e⟩,st⟩
theorem jN.lt (x:jN P w H h) (e:H a=some o):a<h.objs.size:=(x a o e).lt
theorem jN.fresh (x:jN P w H h) (e:h.objs.size<=a):H a=none:=by
 cases q:H a with
 | none=>rfl
 | some u=>exact absurd (RD (x.lt q) e) (Tt _)
theorem jN.kept (x:jN P w H h) (k:∀ b u,h.get? b=some u->h'.get? b=some u):jN P w H h':=λ a o e=>
 (x a o e).stay (λ b u _ q=>k b u q) (λ _ q=>q) λ _ _ q=>q
theorem jN.laid (x:jN P w H h) (k:∀ b u,h.get? b=some u->h'.get? b=some u) (hp:h.objs.size<=a) (new:bY P w (cH H a o) h' a o):jN P w (cH H a o) h':=λ b u e=>by
 have hn:=x.fresh hp;by_cases hb:b=a
 . subst hb;rw [aG] at e;simp_all
 . rw [aF hb] at e;exact (x b u e).stay (λ c v _ q=>k c v q) (λ c q=>by rw [aF (bH q hn)];exact q) λ c xs q=>by rw [aF (bH q hn)];exact q
end
noncomputable def Rd (H:Hp) (a:Addr) (u:HO):Prop:=H a=some u∨∃ o,H a=some (.frz o u)
theorem Rd.ok (r:Rd H a u) (x:jN P w H h):bY P w H h a u:=by
 rcases r with r | ⟨o,r⟩
 . exact x a u r
 . obtain ⟨_,q⟩:=x a _ r;exact q
noncomputable def MJ:Option HO->Prop
 | some (.lst _)=>True
 | some (.dK _)=>True
 | some (.dT _)=>True
 | some (.dN _)=>True
 | some (.set _ _)=>True
 | some (.ins _ _ _)=>True
 | some (.ext _)=>True
 | _=>False
section
variable {P:Program} {w:World} {H:Hp} {h h':Heap} {x e:Addr} {o':HO}
theorem jN.write (ok:jN P w H h) (mu:MJ (H x)) (he:e=x∨H e=some (.own x)) (k:∀ b u,b≠e->h.get? b=some u->h'.get? b=some u) (heo:∃ u,h'.get? e=some u)
 (new:bY P w (cH H x o') h' x o'):jN P w (cH H x o') h':=λ b u q=>by
 have nown:∀ c y,H c=some (.own y)->c≠x:=λ c y r z=>by subst z;rw [r] at mu;exact mu
 have ntup:∀ c xs,H c=some (.tup xs)->c≠x:=λ c xs r z=>by subst z;rw [r] at mu;exact mu
 by_cases hb:b=x
 . subst hb;rw [aG] at q;simp_all
 . rw [aF hb] at q;by_cases hbe:b=e
   . have q':H b=some (.own x):=by
      rcases he with z | z
      . exact absurd (hbe.trans z) hb
      . rw [hbe];exact z
     rw [q] at q';cases q';obtain ⟨v,hv⟩:=heo;exact ⟨v,by rw [hbe];exact hv⟩
   . refine (ok b u q).stay (λ c v hc r=>k c v ?_ r) (λ c r=>by rw [aF (nown c b r)];exact r) λ c xs r=>by rw [aF (ntup c xs r)];exact r
     rcases hc with rfl | hc
     . exact hbe
     . rintro rfl;rcases he with z | z
       . exact nown c b hc z
       . rw [hc] at z;cases z;exact hb rfl
end
structure Un (fs ex:List Addr) (H H':Hp) (h h':Heap):Prop where
 keep:∀ b o,h.get? b=some o->H b=none->b∉fs->b∉ex->h'.get? b=some o
 slot:∀ b o,h.get? b=some o->H b=none->b∈fs->b∉ex->∃ sl,h'.get? b=some { o with slots:=sl }
 free:∀ b o,h.get? b=some o->H b=none->b∉ex->H' b=none
 there:∀ b o,h.get? b=some o->b∉ex->∃ o',h'.get? b=some o'
 tups:∀ b xs,H b=some (.tup xs)->H' b=some (.tup xs)
 frzs:∀ b o u,H b=some (.frz o u)->H' b=some (.frz o u)
 tbls:∀ b ps,H b=some (.tbl ps)->∃ more,H' b=some (.tbl (ps++more))
section
variable {fs fs' ex ex':List Addr} {H H1 H2:Hp} {h h1 h2 h':Heap} {a x e:Addr} {o:HO}
theorem Un.any (u:Un fs ex H H1 h h1) (q:h.get? b=some ob) (n:H b=none) (hx:b∉ex):∃ sl,h1.get? b=some { ob with slots:=sl }:=by
 by_cases hb:b∈fs
 . exact u.slot b ob q n hb hx
 . exact ⟨ob.slots,u.keep b ob q n hb hx⟩
theorem Un.kept (k:∀ b u,h.get? b=some u->h'.get? b=some u):Un fs ex H H h h':=
 ⟨λ b ob q _ _ _=>k b ob q,λ b ob q _ _ _=>⟨ob.slots,k b ob q⟩,λ _ _ _ n _=>n,λ b ob q _=>⟨ob,k b ob q⟩,λ _ _ q=>q,λ _ _ _ q=>q,λ _ ps q=>⟨#[],by grind⟩⟩
theorem Un.refl:Un fs ex H H h h:=Un.kept λ _ _ q=>q
theorem Un.laid (k:∀ b u,h.get? b=some u->h'.get? b=some u) (hp:h.objs.size<=a) (hn:H a=none):Un fs ex H (cH H a o) h h' where
 keep:=λ b u q _ _ _=>k b u q
 slot:=λ b u q _ _ _=>⟨u.slots,k b u q⟩
 free:=λ b u q n _=>by rw [aF (RL (RD (RC q) hp))];exact n
 there:=λ b u q _=>⟨u,k b u q⟩
 tups:=λ b xs q=>by rw [aF (bH q hn)];exact q
 frzs:=λ b u xs q=>by rw [aF (bH q hn)];exact q
 tbls:=λ b ps q=>⟨#[],by rw [aF (bH q hn),q];simp⟩
theorem Un.write (mu:MJ (H x)) (he:e=x∨H e=some (.own x)) (k:∀ b u,b≠e->h.get? b=some u->h'.get? b=some u) (heo:∃ u,h'.get? e=some u):Un fs ex H (cH H x o) h h':=by
 have hx:∀ b,H b=none->b≠x:=λ b n z=>by subst z;rw [n] at mu;exact mu
 have hb:∀ b,H b=none->b≠e:=λ b n z=>by
  simp_all
 have hm:∀ b u,H b=some u->¬ MJ (some u)->b≠x:=λ b u q nm z=>by simp_all
 refine ⟨λ b u q n _ _=>k b u (hb b n) q,λ b u q n _ _=>⟨u.slots,k b u (hb b n) q⟩,λ b u q n _=>by rw [aF (hx b n)];exact n,λ b u q _=>?_,
  λ b xs q=>by rw [aF (hm b _ q λ z=>z)];exact q,λ b u xs q=>by rw [aF (hm b _ q λ z=>z)];exact q,λ b ps q=>⟨#[],by rw [aF (hm b _ q λ z=>z),q];simp⟩⟩
 grind
end
noncomputable def LR (h:Heap) (H:Hp):List Addr:=(List.range h.objs.size).filter λ a=>(H a).isSome
noncomputable def sV (h:Heap) (H:Hp):Heap:=PySem.W.hideAll h (LR h H)
theorem AG (h:Heap) (H:Hp):(sV h H).objs.size=h.objs.size:=PySem.W.hideAll_size _ _
theorem By (e:h.get? b=some o) (n:H b=none):(sV h H).get? b=some o:=
 PySem.W.hideAll_get _ e λ hm=>by
  have q  := (TF.mp hm).2
  simp_all
theorem EF (e:(sV h H).get? b=some o):h.get? b=some o/\H b=none:=by
 have e'  := PySem.W.of_hideAll _ e;refine ⟨e',?_⟩;cases q:H b with
 | none=>rfl
 | some x=>
  have hm:b∈LR h H:=TF.mpr ⟨List.mem_range.mpr (RC e'),by simp [q]⟩;have z:(sV h H).get? b=none:=PySem.W.hideAll_none _ hm
  simp_all
noncomputable def FF (g h:Heap) (L:Addr):List (Addr×Obj):=(List.range h.objs.size).filterMap λ a=>if a=L∨(g.get? a).isSome=true then none else (h.get? a).map λ o=>(a,o)
noncomputable def aY (g h:Heap) (L d:Addr):List (Addr×Obj):=(FF g h L).filter λ p=>decide (p.1≠d)
end L2
namespace L2
open PySem PySem.Spec PyProof.Rows
open PySem.W (Frag)
structure Mod (K:Frag) (mg:Str->Option Value) (base:Heap):Prop where
 kin:K.In base
 glob:base.Ns mainGlobals mg
 blt:∃ mb,base.Ns builtinsNs mb/\∀ x:Str,x ≠ "__name__" -> mb x=bootBuiltins x
 nolimit:base.NoLimit
structure Cx where
 prog:Program
 w:World
 K:Frag
 mg:Str->Option Value
 base:Heap
 A:Around
 N:List Str
 s₀:Shared
 H₀:Hp
 env:Env
 outer:List Env
 stack:List Env
 ex:List Addr
 fn:Str->Bool
 calm:Bool
 pn:List (Addr×Obj)
 xe:Value->Shared->Prop
noncomputable def BX (l:List Env):List Addr:=l.filterMap (·.frame)
noncomputable abbrev Cx.fs (X:Cx):List Addr:=BX X.outer
noncomputable def NU (sc:Scope) (x:Str):Prop:=sc.names.lookup x=some .local∨sc.names.lookup x=some .cell∨sc.names.lookup x=some .free
noncomputable def Ka (sc:Scope) (x:Str):Prop:=sc.names.lookup x=some .local∨sc.names.lookup x=some .cell
noncomputable def PN (env:Env) (h:Heap) (m:Str->Option Value) (x:Str) (u:Value):Prop:=
 (env.kindOf x=some .local/\m x=some u)∨((env.kindOf x=some .cell∨env.kindOf x=some .free)/\∃ c,env.cells.lookup x=some c/\h.IsCell c (some u))
structure Cx.Ok (X:Cx):Prop where
 mod:Mod X.K X.mg X.base
 kind:X.env.scope.kind=.function
 glob:X.env.globals=mainGlobals
 blt:X.env.builtins=builtinsNs
 above:X.s₀.heap.objs.size<=X.env.locals
 inj:∀ x y c,X.env.cells.lookup x=some c->X.env.cells.lookup y=some c->x=y
 has:∀ x,(X.env.kindOf x=some .cell∨X.env.kindOf x=some .free)->∃ c,X.env.cells.lookup x=some c
 cab:∀ x c,X.fn x=true->X.env.cells.lookup x=some c->X.s₀.heap.objs.size<=c
 hd:X.calm=true->X.A.handled=none
 frames:X.A.frames=some X.stack
 stk:X.stack=X.outer∨(X.stack=X.env::X.outer/\X.env.frame=some X.env.locals)
 exf:∀ b∈X.ex,b≠X.env.locals/\∀ x c,X.env.cells.lookup x=some c->c≠b
 bs:∀ b o,X.base.get? b=some o->X.s₀.heap.get? b=some o/\X.H₀ b=none
 bsz:X.base.objs.size<=X.s₀.heap.objs.size
 noex:∀ b o,X.base.get? b=some o->b∉X.ex
 exfs:∀ b∈X.ex,b∉X.fs
 funs:X.s₀.heap.FunFrames X.base X.outer
 frf:∀ b∈X.fs,X.H₀ b=none
structure aM (X:Cx) (pins:List (Addr×Obj)) (σ:List (Option V)) (H:Hp) (s:Shared):Prop where
 ok:X.Ok
 os:s.os=X.s₀.os
 bare:AllBare s.gens
 base:Un X.fs X.ex X.H₀ H X.s₀.heap s.heap
 loc:∃ m,s.heap.Ns X.env.locals m/\∀ (i:Nat) (x:Str) (v:V),X.N[i]?=some x->σ[i]?=some (some v)->NU X.env.scope x->∃ u,bh v u/\PN X.env s.heap m x u
 cell:∀ x c,X.env.cells.lookup x=some c->∃ v,s.heap.IsCell c v
 free:H X.env.locals=none
 freeC:∀ x c,X.env.cells.lookup x=some c->H c=none
 pin:∀ p∈X.pn++pins,s.heap.get? p.1=some p.2/\H p.1=none/\p.1≠X.env.locals/\p.1∉X.fs/\∀ v,p.2.data≠.cell v
 hok:jN X.prog X.w H s.heap
 len:σ.length=X.N.length
section
variable {X:Cx} {pins:List (Addr×Obj)} {σ:List (Option V)} {H H':Hp} {s:Shared} {h':Heap}
theorem Cx.Ok.nofr (ok:X.Ok) (e:X.base.get? b=some o):b∉X.fs:=λ hb=>by
 have:=(ok.funs.mem hb).1
 simp_all
theorem aM.bs (I:aM X pins σ H s):∀ b o,X.base.get? b=some o->s.heap.get? b=some o/\H b=none:=λ b o e=>
 ⟨I.base.keep b o (I.ok.bs b o e).1 (I.ok.bs b o e).2 (I.ok.nofr e) (I.ok.noex b o e),I.base.free b o (I.ok.bs b o e).1 (I.ok.bs b o e).2 (I.ok.noex b o e)⟩
theorem aM.bk (I:aM X pins σ H s):∀ b o,X.base.get? b=some o->s.heap.get? b=some o:=λ b o e=>(I.bs b o e).1
theorem aM.mod (I:aM X pins σ H s):Mod X.K X.mg X.base:=I.ok.mod
theorem aM.kIn (I:aM X pins σ H s):X.K.In s.heap:=I.ok.mod.kin.keeps I.bk
theorem aM.lt (I:aM X pins σ H s):X.env.locals<s.heap.objs.size:=by obtain ⟨_,hn,_⟩:=I.loc;exact hn.lt
theorem aM.sz (I:aM X pins σ H s):X.s₀.heap.objs.size<=s.heap.objs.size:=Sb I.ok.above (Tb I.lt)
theorem aM.nofs (I:aM X pins σ H s) {a:Addr} (h:s.heap.objs.size<=a):a∉X.fs:=λ hb=>by
 obtain ⟨_,o,ho,_⟩:=I.ok.funs.mem hb;exact absurd (RD (RC ho) (Sb I.sz h)) (Tt _)
theorem aM.cne (I:aM X pins σ H s):∀ x c,X.env.cells.lookup x=some c->c≠X.env.locals:=λ x c e z=>by
 obtain ⟨v,o,ho,hd⟩:=I.cell x c e;obtain ⟨m,⟨o',es,ep,ho',hd',_⟩,_⟩:=I.loc
 simp_all
theorem aM.funs (I:aM X pins σ H s):s.heap.FunFrames X.base X.outer:=by
 have all:∀ l,(∀ b∈BX l,b∈X.fs)->X.s₀.heap.FunFrames X.base l->s.heap.FunFrames X.base l:=by
  intro l;induction l with
  | nil=>intro _ _;trivial
  | cons env r ih=>
   intro hs hl;obtain ⟨hk,⟨L,o,hf,hn,ho,hd⟩,hr⟩:=hl;have hL  := hs L (by unfold BX;simp_all);obtain ⟨sl,e⟩:=I.base.slot L o ho (I.ok.frf L hL) hL λ z=>I.ok.exfs L z hL;exact ⟨hk,⟨L,_,hf,hn,e,hd⟩,ih (λ b hb=>hs b (by unfold BX;rw [Um,hf];exact R6 _ hb)) hr⟩
 exact all _ (λ _ hb=>hb) I.ok.funs
theorem aM.stack (I:aM X pins σ H s):s.heap.FunFrames X.base X.stack:=by
 rcases I.ok.stk with e | ⟨e,hf⟩
 . rw [e];exact I.funs
 . rw [e];obtain ⟨m,hn,_⟩:=I.loc;refine .cons (by rw [I.ok.kind];decide) hf hn ?_ I.funs;exact Heap.get?_none_of_le (Sb I.ok.bsz I.ok.above)
theorem aM.stkSub (I:aM X pins σ H s):∀ b∈BX X.stack,b∈X.env.locals::X.fs:=λ b hb=>by
 rcases I.ok.stk with e | ⟨e,hf⟩
 . simp_all
 . rw [e] at hb;unfold BX at hb;rw [Um,hf] at hb;exact hb
theorem aM.stkFree (I:aM X pins σ H s):∀ b∈BX X.stack,H b=none:=λ b hb=>by
 rcases Rx.mp (I.stkSub b hb) with e | hb
 . rw [e];exact I.free
 . obtain ⟨_,o,ho,_⟩:=I.ok.funs.mem hb;exact I.base.free b o ho (I.ok.frf b hb) λ z=>I.ok.exfs b z hb
theorem aM.step {ch:List Addr} (I:aM X pins σ H s)
 (hch:∀ b∈ch,(b∈X.ex∨X.s₀.heap.objs.size<=b)/\b≠X.env.locals/\(∀ x c,X.env.cells.lookup x=some c->c≠b)/\∀ p∈X.pn++pins,p.1≠b)
 (keep:∀ b o,b≠X.env.locals->b∉X.fs->b∉ch->s.heap.get? b=some o->H b=none->h'.get? b=some o)
 (slot:∀ b o,b≠X.env.locals->b∈X.fs->b∉ch->s.heap.get? b=some o->H b=none->∃ sl,h'.get? b=some { o with slots:=sl }) (free:∀ b o,b∉ch->s.heap.get? b=some o->H b=none->H' b=none)
 (there:∀ b o,b∉ch->s.heap.get? b=some o->∃ o',h'.get? b=some o')
 (tups:∀ b xs,H b=some (.tup xs)->H' b=some (.tup xs)) (frzs:∀ b o u,H b=some (.frz o u)->H' b=some (.frz o u)) (tbls:∀ b ps,H b=some (.tbl ps)->∃ more,H' b=some (.tbl (ps++more)))
 (ns:∀ m,s.heap.Ns X.env.locals m->h'.Ns X.env.locals m) (hok:jN X.prog X.w H' h') (hg:AllBare g'):
 aM X pins σ H' { s with heap:=h',gens:=g',drawn:=d',toks:=t' }:=by
 have neL:∀ b o,X.s₀.heap.get? b=some o->b≠X.env.locals:=λ b o e=>RL (RD (RC e) I.ok.above);have neC:∀ b o,X.s₀.heap.get? b=some o->b∉X.ex->b∉ch:=λ b o e hx hb=>by
  rcases (hch b hb).1 with z | z
  . exact hx z
  . exact absurd (RD (RC e) z) (Tt _)
 have cellK:∀ x c,X.env.cells.lookup x=some c->∀ v,s.heap.IsCell c v->h'.IsCell c v:=λ x c e v hy0=>by
  obtain ⟨o,ho,hd⟩:=hy0;have nch:c∉ch:=λ z=>(hch c z).2.2.1 x c e rfl;by_cases hc:c∈X.fs
  . obtain ⟨sl,q⟩:=slot c o (I.cne x c e) hc nch ho (I.freeC x c e);exact ⟨_,q,hd⟩
  . exact ⟨o,keep c o (I.cne x c e) hc nch ho (I.freeC x c e),hd⟩
 refine ⟨I.ok,I.os,hg,⟨λ b o e n hb hx=>?_,λ b o e n hb hx=>?_,λ b o e n hx=>?_,λ b o e hx=>?_,λ b xs e=>tups b xs (I.base.tups b xs e),λ b o xs e=>frzs b o xs (I.base.frzs b o xs e),λ b ps e=>?_⟩,?_,λ x c e=>?_,?_,λ x c e=>?_,λ p hp=>?_,hok,I.len⟩
 . exact keep b o (neL b o e) hb (neC b o e hx) (I.base.keep b o e n hb hx) (I.base.free b o e n hx)
 . obtain ⟨sl,e1⟩:=I.base.slot b o e n hb hx;obtain ⟨sl',e2⟩:=slot b _ (neL b o e) hb (neC b o e hx) e1 (I.base.free b o e n hx);exact ⟨sl',e2⟩
 . obtain ⟨o',e1⟩:=I.base.there b o e hx;exact free b o' (neC b o e hx) e1 (I.base.free b o e n hx)
 . obtain ⟨o',e1⟩:=I.base.there b o e hx;exact there b o' (neC b o e hx) e1
 . obtain ⟨m1,e1⟩:=I.base.tbls b ps e;obtain ⟨m2,e2⟩:=tbls b _ e1;exact ⟨m1++m2,by rw [e2,Array.append_assoc]⟩
 . obtain ⟨m,hn,hl⟩:=I.loc;refine ⟨m,ns m hn,λ i x v e1 e2 e3=>?_⟩;obtain ⟨u,r,l⟩:=hl i x v e1 e2 e3;refine ⟨u,r,?_⟩;rcases l with l | ⟨k,c,e,z⟩
   . exact .inl l
   . exact .inr ⟨k,c,e,cellK x c e _ z⟩
 . obtain ⟨v,z⟩:=I.cell x c e;exact ⟨v,cellK x c e v z⟩
 . obtain ⟨m,⟨o,_,_,ho,_⟩,_⟩:=I.loc;exact free _ o (λ z=>(hch _ z).2.1 rfl) ho I.free
 . obtain ⟨v,o,ho,hd⟩:=I.cell x c e;exact free c o (λ z=>(hch c z).2.2.1 x c e rfl) ho (I.freeC x c e)
 . obtain ⟨e,n,ne,nf,d⟩:=I.pin p hp;have nch:p.1∉ch:=λ z=>(hch p.1 z).2.2.2 p hp rfl;exact ⟨keep p.1 p.2 ne nf nch e n,free p.1 p.2 nch e n,ne,nf,d⟩
theorem aM.un (I:aM X pins σ H s) (u:Un X.fs [] H H' s.heap h') (hok:jN X.prog X.w H' h'):aM X pins σ H' { s with heap:=h',toks:=t' }:=by
 obtain ⟨m,⟨o,es,ep,ho,r⟩,_⟩:=id I.loc;obtain ⟨sl,hL⟩:=u.any ho I.free (by simp);exact I.step   (ch:=[]) (λ _ z=>nomatch z) (λ b o _ hb _ e n=>u.keep b o e n hb (by simp)) (λ b o _ hb _ e n=>u.slot b o e n hb (by simp)) (λ b o _ e n=>u.free b o e n (by simp)) (λ b o _ e=>u.there b o e (by simp)) u.tups u.frzs u.tbls (λ m' hm=>by
  obtain ⟨o',es',ep',ho',r'⟩:=hm;rw [ho] at ho';cases ho';exact ⟨_,es',ep',hL,r'⟩) hok I.bare
theorem aM.call (I:aM X pins σ H s) (u:Un (BX X.stack) ch H H' s.heap h') (hok:jN X.prog X.w H' h') (hg:AllBare g')
 (hch:∀ b∈ch,(b∈X.ex∨X.s₀.heap.objs.size<=b)/\b≠X.env.locals/\(∀ x c,X.env.cells.lookup x=some c->c≠b)/\∀ p∈X.pn++pins,p.1≠b):
 aM X pins σ H' { s with heap:=h',gens:=g',drawn:=d',toks:=t' }:=by
 obtain ⟨m,⟨o,es,ep,ho,r⟩,_⟩:=id I.loc;obtain ⟨sl,hL⟩:=u.any ho I.free λ z=>(hch _ z).2.1 rfl;exact I.step  hch (λ b o hL hb hc e n=>u.keep b o e n (λ z=>(Rx.mp (I.stkSub b z)).elim hL hb) hc) (λ b o _ _ hc e n=>u.any e n hc) (λ b o hc e n=>u.free b o e n hc) (λ b o hc e=>u.there b o e hc) u.tups u.frzs u.tbls (λ m' hm=>by
  obtain ⟨o',es',ep',ho',r'⟩:=hm;rw [ho] at ho';cases ho';exact ⟨_,es',ep',hL,r'⟩) hok hg
theorem aM.turned (I:aM X pins σ H s) (k:∀ b o,b≠it->s.heap.get? b=some o->h'.get? b=some o) (hn:H it=none) (hL:it≠X.env.locals)
 (h1:it∈X.ex∨X.s₀.heap.objs.size<=it) (h2:∀ x c,X.env.cells.lookup x=some c->c≠it) (h3:∀ p∈X.pn++pins,p.1≠it):aM X pins σ H { s with heap:=h',toks:=t' }:=by
 have nit:∀ b u,H b=some u->b≠it:=λ b u e z=>by simp_all
 refine I.step (g':=s.gens) (d':=s.drawn) (ch:=[it]) (λ b hb=>?_) (λ b o _ _ hc e _=>k b o (λ z=>hc (by simp [z])) e) (λ b o _ _ hc e _=>⟨o.slots,k b o (λ z=>hc (by simp [z])) e⟩) (λ _ _ _ _ n=>n)
  (λ b o hc e=>⟨o,k b o (λ z=>hc (by simp [z])) e⟩) (λ _ _ e=>e) (λ _ _ _ e=>e) (λ b ps e=>⟨#[],by grind⟩) (λ m hm=>?_) (λ b u e=>?_) I.bare
 . grind
 . obtain ⟨o,es,ep,ho,r⟩:=hm;exact ⟨o,es,ep,k _ o (SN hL) ho,r⟩
 . refine (I.hok b u e).stay (λ c v hc q=>k c v ?_ q) (λ _ q=>q) λ _ _ q=>q;rcases hc with z | z
   . rw [z];exact nit b u e
   . exact nit c _ z
theorem aM.tok (I:aM X pins σ H s) (t:Nat):aM X pins σ H { s with toks:=t }:=I.un   Un.refl I.hok
theorem aM.kept (I:aM X pins σ H s) (k:∀ b u,s.heap.get? b=some u->h'.get? b=some u):aM X pins σ H { s with heap:=h',toks:=t' }:=I.un (Un.kept k) (I.hok.kept k)
theorem aM.laid {a:Addr} (I:aM X pins σ H s) (k:∀ b u,s.heap.get? b=some u->h'.get? b=some u) (hp:s.heap.objs.size<=a) (new:bY X.prog X.w (cH H a o) h' a o):
 aM X pins σ (cH H a o) { s with heap:=h',toks:=t' }:=I.un (Un.laid k hp (I.hok.fresh hp)) (I.hok.laid k hp new)
theorem aM.write (I:aM X pins σ H s) (mu:MJ (H x)) (he:e=x∨H e=some (.own x)) (k:∀ b u,b≠e->s.heap.get? b=some u->h'.get? b=some u) (heo:∃ u,h'.get? e=some u)
 (new:bY X.prog X.w (cH H x o) h' x o):aM X pins σ (cH H x o) { s with heap:=h',toks:=t' }:=I.un (Un.write mu he k heo) (I.hok.write mu he k heo new)
theorem aM.weak (I:aM X pins σ H s) (hl:σ'.length=σ.length) (w:∀ (i:Nat) v,σ'[i]?=some (some v)->σ[i]?=some (some v)):aM X pins σ' H s:=
 ⟨I.ok,I.os,I.bare,I.base,by obtain ⟨m,hn,hl'⟩:=I.loc;grind,I.cell,I.free,I.freeC,I.pin,I.hok,hl.trans I.len⟩
theorem aM.pins_of (I:aM X pins σ H s) (h:∀ p∈pins',s.heap.get? p.1=some p.2/\H p.1=none/\p.1≠X.env.locals/\p.1∉X.fs/\∀ v,p.2.data≠.cell v):aM X pins' σ H s:=
 ⟨I.ok,I.os,I.bare,I.base,I.loc,I.cell,I.free,I.freeC,λ p hp=>(Rz.mp hp).elim (λ z=>I.pin p (List.mem_append_left _ z)) (h p),I.hok,I.len⟩
theorem vQ {N:List Str} (hN:N.Nodup) {i j:Nat} (a:N[i]?=some x) (b:N[j]?=some x):i=j:=by
 obtain ⟨h1,e1⟩:=oG a
 obtain ⟨h2,e2⟩:=oG b
 exact (List.getElem_inj hN).mp (e1.trans e2.symm)
theorem sI (I:aM X pins σ H s) (hN:X.N.Nodup) (hi:X.N[i]?=some x) (hx:Ka X.env.scope x) (r:bh v u)
 (h:∀ s',aM X pins (σ.set i (some v)) H s'->(∃ a,Heap.SameBut a s.heap s'.heap/\(a=X.env.locals∨X.env.cells.lookup x=some a))->Q () s') (hf:X.fn x=true∨X.env.scope.names.lookup x=some .local:=by first | exact .inl rfl | exact .inr rfl | assumption):wpAny M A (storeName X.env x u) Q E s:=by
 obtain ⟨m,hn,hl⟩:=id I.loc;have hcls:(X.env.scope.kind==.class||X.env.scope.kind==.module&&X.env.locals != X.env.globals)=false:=by rw [I.ok.kind];rfl
 have hiσ:i<σ.length:=by rw [I.len];grind
 have cne:=I.cne;have tracked:∀ {a:Addr} {h':Heap},(∃ o,s.heap.get? a=some o/\H a=none)->Heap.SameBut a _ h'->jN _ _ H h':=λ {a h'} ha hs b ob e=>by
  obtain ⟨_,_,hfree⟩:=ha;refine (I.hok b ob e).stay (λ c w' hc q=>(hs.2 c ?_).trans q) (λ _ q=>q) λ _ _ q=>q
  grind
 rcases hx with hk | hk
 . refine wpAny_storeName_local hk hn (λ h' hn' hs=>?_) hcls;obtain ⟨oL,_,_,hoL,_⟩:=id hn;refine h _ ⟨I.ok,I.os,I.bare,⟨λ b o e n hb hx=>?_,λ b o e n hb hx=>?_,I.base.free,λ b o e hx=>?_,I.base.tups,I.base.frzs,I.base.tbls⟩,⟨_,hn',λ j y v' e1 e2 e3=>?_⟩,λ y c e=>?_,I.free,I.freeC,λ p hp=>?_,tracked ⟨oL,hoL,I.free⟩ hs,by simpa using I.len⟩ ⟨_,hs,.inl rfl⟩
   . exact (hs.2 b (RL (RD (RC e) I.ok.above))).trans (I.base.keep b o e n hb hx)
   . obtain ⟨sl,e1⟩:=I.base.slot b o e n hb hx;exact ⟨sl,(hs.2 b (RL (RD (RC e) I.ok.above))).trans e1⟩
   . obtain ⟨o',e1⟩:=I.base.there b o e hx;exact ⟨o',(hs.2 b (RL (RD (RC e) I.ok.above))).trans e1⟩
   . by_cases hj:j=i
     . subst hj;rw [hi] at e1;cases e1;rw [UA hiσ] at e2;cases e2;exact ⟨u,r,.inl ⟨hk,by simp⟩⟩
     . rw [RI (SN hj)] at e2;obtain ⟨u',r',q⟩:=hl j y v' e1 e2 e3;refine ⟨u',r',?_⟩;rcases q with ⟨k,e⟩ | ⟨k,c,e,z⟩
       . refine .inl ⟨k,?_⟩;have:y≠x:=λ e=>hj (vQ hN e1 (e▸hi));simp [this,e]
       . exact .inr ⟨k,c,e,z.sameBut hs (cne y c e)⟩
   . obtain ⟨w',z⟩:=I.cell y c e;exact ⟨w',z.sameBut hs (cne y c e)⟩
   . obtain ⟨e,n,ne,nf,d⟩:=I.pin p hp;exact ⟨(hs.2 p.1 ne).trans e,n,ne,nf,d⟩
 . have hfn:X.fn x=true:=by
    rcases hf with z | z
    . exact z
    . rw [z] at hk;cases hk
   obtain ⟨c,hc⟩:=I.ok.has x (.inl hk);obtain ⟨w',z⟩:=I.cell x c hc;refine wpAny_storeName_cell I.ok.kind hk hc z (λ h' hc' hs=>?_);obtain ⟨oc,hoc,hocd⟩:=id z;refine h { s with heap:=h' } ⟨I.ok,I.os,I.bare,⟨λ b o e n hb hx=>?_,λ b o e n hb hx=>?_,I.base.free,λ b o e hx=>?_,I.base.tups,I.base.frzs,I.base.tbls⟩,⟨m,hn.sameBut hs (SN (cne x c hc)),λ j y v' e1 e2 e3=>?_⟩,λ y c' e=>?_,I.free,I.freeC,λ p hp=>?_,tracked ⟨oc,hoc,I.freeC x c hc⟩ hs,by simpa using I.len⟩ ⟨c,hs,.inr hc⟩
   . exact (hs.2 b (RL (RD (RC e) (I.ok.cab x c hfn hc)))).trans (I.base.keep b o e n hb hx)
   . obtain ⟨sl,e1⟩:=I.base.slot b o e n hb hx;exact ⟨sl,(hs.2 b (RL (RD (RC e) (I.ok.cab x c hfn hc)))).trans e1⟩
   . obtain ⟨o',e1⟩:=I.base.there b o e hx;exact ⟨o',(hs.2 b (RL (RD (RC e) (I.ok.cab x c hfn hc)))).trans e1⟩
   . by_cases hj:j=i
     . subst hj;rw [hi] at e1;cases e1;rw [UA hiσ] at e2;cases e2;exact ⟨u,r,.inr ⟨.inl hk,c,hc,hc'⟩⟩
     . rw [RI (SN hj)] at e2;obtain ⟨u',r',q⟩:=hl j y v' e1 e2 e3;refine ⟨u',r',?_⟩;rcases q with q | ⟨k,c',e,z'⟩
       . exact .inl q
       . refine .inr ⟨k,c',e,z'.sameBut hs ?_⟩;rintro rfl;exact hj (vQ hN e1 (I.ok.inj _ _ _ e hc▸hi))
   . by_cases hcc:c'=c
     . subst hcc;exact ⟨_,hc'⟩
     . obtain ⟨w2,z2⟩:=I.cell y c' e;exact ⟨w2,z2.sameBut hs hcc⟩
   . obtain ⟨e,n,ne,nf,d⟩:=I.pin p hp;refine ⟨(hs.2 p.1 ?_).trans e,n,ne,nf,d⟩;intro q;rw [q,hoc] at e;have q':oc=p.2:=SV e;exact d w' (by rw [<-q'];exact hocd)
theorem we (I:aM X pins σ H s) (hN:X.N.Nodup) (hi:X.N[i]?=some x) (hx:Ka X.env.scope x) (r:bh v u)
 (h:∀ s',aM X pins (σ.set i (some v)) H s'->Q () s') (hf:X.fn x=true∨X.env.scope.names.lookup x=some .local:=by first | exact .inl rfl | exact .inr rfl | assumption):wpAny M A (storeName X.env x u) Q E s:=
 sI I hN hi hx r (λ s' I' _=>h s' I') hf
theorem aM.call' (I:aM X pins σ H s) (ho:s'.os=s.os) (u:Un (BX X.stack) ch H H' s.heap s'.heap) (hok:jN X.prog X.w H' s'.heap) (hg:AllBare s'.gens)
 (hch:∀ b∈ch,(b∈X.ex∨X.s₀.heap.objs.size<=b)/\b≠X.env.locals/\(∀ x c,X.env.cells.lookup x=some c->c≠b)/\∀ p∈X.pn++pins,p.1≠b):aM X pins σ H' s':=by
 obtain ⟨h',g',d',t',o'⟩:=s';have e  := ho;subst e;exact I.call    u hok hg hch
end
noncomputable abbrev XK:=Value->Option Addr->Hp->Prop
noncomputable abbrev St:=List (Option V)
noncomputable abbrev VK:=V->Hp->Prop
noncomputable abbrev TE:=St->Hp->VK->Prop
noncomputable abbrev TT:=St->Hp->(Bool->Hp->Prop)->Prop
noncomputable abbrev TA:=St->Hp->(List V->Hp->Prop)->Prop
structure oz where
 nx:St->Hp->Prop
 rt:VK
 bk:St->Hp->Prop:=λ _ _=>False
 ct:St->Hp->Prop:=λ _ _=>False
noncomputable abbrev TS:=oz->St->Hp->Prop
noncomputable def EP (X:Cx) (pins:List (Addr×Obj)) (σ:St) (Q:VK) (u:Value) (s':Shared):Prop:=∃ v H',aM X pins σ H' s'/\bh v u/\Q v H'
noncomputable def TP (X:Cx) (pins:List (Addr×Obj)) (σ:St) (Q:Bool->Hp->Prop) (b:Bool) (s':Shared):Prop:=∃ H',aM X pins σ H' s'/\Q b H'
noncomputable def AP (X:Cx) (pins:List (Addr×Obj)) (σ:St) (Q:List V->Hp->Prop) (us:List Value) (s':Shared):Prop:=∃ vs H',aM X pins σ H' s'/\bf vs us/\Q vs H'
noncomputable def SP (X:Cx) (pins:List (Addr×Obj)) (D:oz) (f:Flow) (s':Shared):Prop:=
 match f with
 | .next=>∃ σ' H',aM X pins σ' H' s'/\D.nx σ' H'
 | .brk=>∃ σ' H',aM X pins σ' H' s'/\D.bk σ' H'
 | .cont=>∃ σ' H',aM X pins σ' H' s'/\D.ct σ' H'
 | .ret u=>∃ v σ' H',aM X pins σ' H' s'/\bh v u/\D.rt v H'
noncomputable def PE (X:Cx) (e:Expr) (t:TE):Prop:=
 ∀ (pins:List (Addr×Obj)) (s:Shared) (σ:St) (H:Hp) (Q:VK),aM X pins σ H s->t σ H Q->wpAny (model X.prog X.w) X.A (eval e X.env) (EP X pins σ Q) X.xe s
noncomputable def PT (X:Cx) (e:Expr) (t:TT):Prop:=
 ∀ (pins:List (Addr×Obj)) (s:Shared) (σ:St) (H:Hp) (Q:Bool->Hp->Prop),aM X pins σ H s->t σ H Q->wpAny (model X.prog X.w) X.A (isTrue e X.env (eval e X.env)) (TP X pins σ Q) X.xe s
noncomputable def PW (X:Cx) (e:Expr) (t:TT):Prop:=
 ∀ (whole:Sem Value) (pins:List (Addr×Obj)) (s:Shared) (σ:St) (H:Hp) (Q:Bool->Hp->Prop),aM X pins σ H s->t σ H Q->wpAny (model X.prog X.w) X.A (isTrue e X.env whole) (TP X pins σ Q) X.xe s
theorem PW.pt (h:PW X e t):PT X e t:=h _
noncomputable def PA (X:Cx) (es:List Expr) (t:TA):Prop:=
 ∀ (pos:Pos) (pins:List (Addr×Obj)) (s:Shared) (σ:St) (H:Hp) (Q:List V->Hp->Prop),aM X pins σ H s->t σ H Q->wpAny (model X.prog X.w) X.A (spliced (backTo pos (starEach es X.env))) (AP X pins σ Q) X.xe s
noncomputable def PS (X:Cx) (st:Stmt) (t:TS):Prop:=
 ∀ (pins:List (Addr×Obj)) (s:Shared) (σ:St) (H:Hp) (D:oz),aM X pins σ H s->t D σ H->wpAny (model X.prog X.w) X.A (exec st X.env) (SP X pins D) X.xe s
noncomputable def w5 (X:Cx) (st:List Stmt) (t:TS):Prop:=
 ∀ (pins:List (Addr×Obj)) (s:Shared) (σ:St) (H:Hp) (D:oz),aM X pins σ H s->t D σ H->wpAny (model X.prog X.w) X.A (execs st X.env) (SP X pins D) X.xe s
theorem cq {t:Sem α} {Q Q':α->Shared->Prop} (h:wpAny M A t Q E s) (hQ:∀ a s,Q a s->Q' a s):wpAny M A t Q' E s:=Sx h hQ λ _ _ x=>x
end L2
namespace L2
open PySem PySem.Spec PyProof.Rows
open PySem.W (Frag)
section
variable {X:Cx}
noncomputable def Aa (i:Nat):TE:=λ σ H Q=>∃ v,σ[i]?=some (some v)/\Q v H
noncomputable def tC (v:V):TE:=λ _ H Q=>Q v H
theorem OS {pos:Pos} (hN:X.N[i]?=some x) (hv:NU X.env.scope x) (hd:(x==("__debug__" : Str))=false) (hcd:(x==("__classdict__" : Str))=false):PE X (.Name x pos) (Aa i):=by
 intro pins s σ H Q I h;obtain ⟨v,e,h⟩:=h;obtain ⟨m,hn,hl⟩:=I.loc;obtain ⟨u,r,l⟩:=hl i x v hN e hv;have fin:EP X _ σ Q u s:=⟨v,H,I,r,h⟩
 rcases l with ⟨hk,hm⟩ | ⟨hk,c,hc,hcell⟩
 . exact wpAny_Name (wpAny_loadName_local I.ok.kind hk hn hm fin) hd
 . rcases hk with hk | hk
   . exact wpAny_Name (wpAny_loadName_cell I.ok.kind hk hc hcell fin) hd
   . exact wpAny_Name (wpAny_loadName_free I.ok.kind hk hc hcell fin hcd) hd
theorem OG:PE X (.Constant (.int i) j pos) (tC (.int i)):=λ _ _ _ H _ I h=>wpAny_Constant_int ⟨.int i,H,I.tok _,⟨_,rfl⟩,h⟩
theorem QG:PE X (.Constant (.bool b) j pos) (tC (.bl b)):=λ _ _ _ H _ I h=>Constant_bool ⟨.bl b,H,I,rfl,h⟩
theorem P9:PE X (.Constant .none j pos) (tC .non):=λ _ _ _ H _ I h=>Constant_none ⟨.non,H,I,rfl,h⟩
theorem PJ:PE X (.Constant (.str x) j pos) (tC (.str x)):=λ _ _ _ H _ I h=>Calls.Constant_str ⟨.str x,H,I.tok _,⟨_,rfl⟩,h⟩
noncomputable def Gl (X:Cx) (x:Str):Prop:=X.env.kindOf x=some .globalImplicit
theorem tQ {σ:St} (I:aM X pins σ H s) (hg:Gl X x) (hm:X.mg x=some u) (h:Q u s)
 (hd:(x==("__debug__" : Str))=false:=by decide):wpAny (model X.prog X.w) X.A (eval (.Name x pos) X.env) Q E s:=
 Calls.Name_function_global I.ok.kind hg (Calls.loadGlobal_global (by rw [I.ok.glob];exact I.mod.glob.keeps I.bk) hm h) hd
theorem mI {E:Value->Shared->Prop} {σ:St} {pos:Pos} (I:aM X pins σ H s) (hg:Gl X x) (hm:X.mg x=none) (hv:bootBuiltins x=some u) (h:Q u s)
 (hn:x ≠ "__name__" := by decide) (hd:(x==("__debug__" : Str))=false:=by decide):wpAny (model X.prog X.w) X.A (eval (.Name x pos) X.env) Q E s:=by
 obtain ⟨mb,h1,h2⟩:=I.mod.blt;exact Calls.Name_function_global I.ok.kind hg (Calls.loadGlobal_builtin (by rw [I.ok.glob];exact I.mod.glob.keeps I.bk) hm (by rw [I.ok.blt];exact h1.keeps I.bk) ((h2 x hn).trans hv) h) hd
theorem Hd (hg:Gl X x) (hm:X.mg x=some u) (r:bh v u) (hd:(x==("__debug__" : Str))=false:=by decide):PE X (.Name x pos) (tC v):=
 λ _ _ _ H _ I h=>tQ I hg hm ⟨v,H,I,r,h⟩ hd
theorem oU {pos:Pos} (hg:Gl X x) (hm:X.mg x=none) (hv:bootBuiltins x=some u) (r:bh v u) (hn:x ≠ "__name__" := by decide) (hd:(x==("__debug__" : Str))=false:=by decide):PE X (.Name x pos) (tC v):=
 λ _ _ _ H _ I h=>mI I hg hm hv ⟨v,H,I,r,h⟩ hn hd
variable {a b:Expr} {ta tb:TE} {pos:Pos}
noncomputable def PC (X:Cx) (op:CmpOp) (a b:Expr) (t:TE):Prop:=
 ∀ (pins:List (Addr×Obj)) (s:Shared) (σ:St) (H:Hp) (Q:VK),aM X pins σ H s->t σ H Q->
  wpAny (model X.prog X.w) X.A (eval a X.env) (λ v s₁=>wpAny (model X.prog X.w) X.A (eval b X.env) (λ u s₂=>wpAny (model X.prog X.w) X.A (compareOp op v u) (EP X pins σ Q) X.xe s₂) X.xe s₁) X.xe s
noncomputable def tB (t:TE):TT:=λ σ H Q=>t σ H λ x H1=>∃ c,x=.bl c/\Q c H1
theorem OU (h:PC X op a b t) (h1:behindInMarks op b=false):PT X (.Compare a [op] [b] pos) (tB t):=by
 intro pins s σ H Q I hw;refine wpAny_isTrue_Compare1 (cq (h _ s σ H _ I hw) λ v s1 h1=>cq h1 λ u s2 h2=>cq h2 λ c s3 hq0=>?_) h1;obtain ⟨x,H1,I1,r1,q1⟩:=hq0;obtain ⟨d,rfl,q⟩:=q1;cases r1;exact Td ⟨H1,I1,q⟩
theorem PF (h:PE X e t) (he:∀ whole,isTrue e X.env whole=(do let v <-whole;standAt e.pos;holding [v] (truthy v))):PT X e (tB t):=by
 intro pins s σ H Q I hw;refine isTrue_plain (cq (h _ s σ H _ I hw) λ v s1 hq0=>?_) (he _);obtain ⟨x,H1,I1,r1,q1⟩:=hq0;obtain ⟨d,rfl,q⟩:=q1;cases r1;exact Td ⟨H1,I1,q⟩
variable {tA tB':TT} {aY:List Expr}
noncomputable def Ks (t u:TT):TT:=λ σ H Q=>t σ H λ c H1=>if c=true then u σ H1 Q else Q false H1
noncomputable def ON (t u:TT):TT:=λ σ H Q=>t σ H λ c H1=>if c=true then Q true H1 else u σ H1 Q
noncomputable def LF (t:TT):TT:=λ σ H Q=>t σ H λ c H1=>Q (!c) H1
theorem N9 (ha:PT X a tA):PW X (.BoolOp .And [a] pos) tA:=by
 intro wh pins s σ H Q I h;refine isTrue_and (cq (ha _ s σ H Q I h) λ c s1 e=>?_);cases c with
 | true=>exact isTrue_and_nil e
 | false=>exact e
theorem Oo (ha:PT X a tA):PW X (.BoolOp .Or [a] pos) tA:=by
 intro wh pins s σ H Q I h;refine isTrue_or (cq (ha _ s σ H Q I h) λ c s1 e=>?_);cases c with
 | false=>exact isTrue_or_nil e
 | true=>exact e
theorem OF (ha:PT X a tA) (hb:PW X (.BoolOp .And (b::aY) pos) tB'):PW X (.BoolOp .And (a::b::aY) pos) (Ks tA tB'):=by
 intro wh pins s σ H Q I h;refine isTrue_and (cq (ha _ s σ H _ I h) λ c s1 hq0=>?_);obtain ⟨H1,I1,q1⟩:=hq0;cases c with
 | true=>exact hb wh _ s1 σ H1 Q I1 q1
 | false=>exact ⟨H1,I1,q1⟩
theorem Q0 (ha:PT X a tA) (hb:PW X (.BoolOp .Or (b::aY) pos) tB'):PW X (.BoolOp .Or (a::b::aY) pos) (ON tA tB'):=by
 intro wh pins s σ H Q I h;refine isTrue_or (cq (ha _ s σ H _ I h) λ c s1 hq0=>?_);obtain ⟨H1,I1,q1⟩:=hq0;cases c with
 | true=>exact ⟨H1,I1,q1⟩
 | false=>exact hb wh _ s1 σ H1 Q I1 q1
theorem O3 (ha:PT X a tA):PT X (.UnaryOp .Not a pos) (LF tA):=by
 intro pins s σ H Q I h;exact isTrue_not (ha _ s σ H _ I h)
noncomputable def Di (ta tb:TE):TE:=λ σ H Q=>ta σ H λ x H1=>∃ c,x=.bl c/\if c=true then tb σ H1 Q else Q (.bl false) H1
noncomputable def Ms (ta tb:TE):TE:=λ σ H Q=>ta σ H λ x H1=>∃ c,x=.bl c/\if c=true then Q (.bl true) H1 else tb σ H1 Q
noncomputable def Hg (ta:TE):TE:=λ σ H Q=>ta σ H λ x H1=>∃ c,x=.bl c/\Q (.bl (!c)) H1
theorem Pr (h:PE X a t):PE X (.BoolOp op [a] pos) t:=λ pins s σ H Q I hw=>BoolOp_one (h _ s σ H Q I hw)
theorem Ot (ha:PE X a ta) (hb:PE X (.BoolOp .And (b::aY) pos) tb):PE X (.BoolOp .And (a::b::aY) pos) (Di ta tb):=by
 intro pins s σ H Q I h;refine BoolOp_and (cq (ha _ s σ H _ I h) λ v s1 hq0=>?_);obtain ⟨x,H1,I1,r1,q1⟩:=hq0;obtain ⟨c,rfl,q1⟩:=q1;cases r1;refine Td ?_;cases c with
 | true=>exact hb _ s1 σ H1 Q I1 q1
 | false=>exact ⟨.bl _,H1,I1,rfl,q1⟩
theorem QF (ha:PE X a ta) (hb:PE X (.BoolOp .Or (b::aY) pos) tb):PE X (.BoolOp .Or (a::b::aY) pos) (Ms ta tb):=by
 intro pins s σ H Q I h;refine BoolOp_or (cq (ha _ s σ H _ I h) λ v s1 hq0=>?_);obtain ⟨x,H1,I1,r1,q1⟩:=hq0;obtain ⟨c,rfl,q1⟩:=q1;cases r1;refine Td ?_;cases c with
 | false=>exact hb _ s1 σ H1 Q I1 q1
 | true=>exact ⟨.bl _,H1,I1,rfl,q1⟩
theorem P7 (ha:PE X a ta):PE X (.UnaryOp .Not a pos) (Hg ta):=by
 intro pins s σ H Q I h;refine UnaryOp_ (cq (ha _ s σ H _ I h) λ v s1 hq0=>?_);obtain ⟨x,H1,I1,r1,q1⟩:=hq0;obtain ⟨c,rfl,q1⟩:=q1;cases r1;exact not_of (Td ⟨.bl _,H1,I1,rfl,q1⟩)
noncomputable def OI (t:TT) (ta tb:TE):TE:=λ σ H Q=>t σ H λ c H1=>if c=true then ta σ H1 Q else tb σ H1 Q
theorem Nu (hc:PT X c tA) (ha:PE X a ta) (hb:PE X b tb):PE X (.IfExp c a b pos) (OI tA ta tb):=by
 intro pins s σ H Q I h;refine wpAny_IfExp (cq (hc _ s σ H _ I h) λ d s1 hq0=>?_);obtain ⟨H1,I1,q1⟩:=hq0;cases d with
 | true=>exact ha _ s1 σ H1 Q I1 q1
 | false=>exact hb _ s1 σ H1 Q I1 q1
end
end L2
namespace L2
open PySem PySem.Spec PyProof.Rows
open PySem.W (Frag)
noncomputable def cG (K:Frag) (H:Hp) (a:Addr) (xs:List V):Prop:=
 Rd H a (.lst xs)∨
  ∃ (o:Obj) (its:Array Value) (n:Nat),K.lookup a=some o/\o.cls=.type "list" /\ o.dict=none/\o.data=.seq its n/\its.size<=sizeLine/\bf xs its.toList
noncomputable def eZ (K:Frag) (H:Hp) (a:Addr) (xs:List V):Prop:=
 Rd H a (.tup xs)∨
  ∃ (o:Obj) (its:Array Value) (n:Nat),K.lookup a=some o/\o.cls=.type "tuple" /\ o.data=.seq its n/\its.size<=sizeLine/\bf xs its.toList
noncomputable def Po:Value->Option V
 | .none=>some .non
 | .bool b=>some (.bl b)
 | .int i _=>some (.int i)
 | .str x _=>some (.str x)
 | .bytes b _=>some (.byt b)
 | .float b _=>some (.flt b)
 | .ref a=>some (.ref a)
 | .type n=>some (.ty n)
 | _=>none
theorem bh.abs (r:bh x u):Po u=some x:=by
 cases x with
 | non=>cases r;rfl
 | bl _=>cases r;rfl
 | int _=>obtain ⟨t,rfl⟩:=r;rfl
 | str _=>obtain ⟨t,rfl⟩:=r;rfl
 | byt _=>obtain ⟨t,rfl⟩:=r;rfl
 | flt _=>obtain ⟨t,rfl⟩:=r;rfl
 | ref _=>cases r;rfl
 | ty _=>cases r;rfl
theorem bh.inj (r:bh x u) (q:bh y u):x=y:=SV (r.abs.symm.trans q.abs)
theorem bf.inj (h:bf xs us) (h':bf ys us):xs=ys:=by
 induction h generalizing ys with
 | nil=>cases h';rfl
 | cons r _ ih=>
  cases h' with
  | cons r' t'=>rw [r.inj r',ih t']
section
variable {X:Cx} {pins:List (Addr×Obj)} {σ:St} {H:Hp} {s:Shared} {a:Addr} {xs ys:List V}
theorem cG.of {K:Frag} (h:H a=some (.lst xs)):cG K H a xs:=.inl (.inl h)
theorem eZ.of {K:Frag} (h:H a=some (.tup xs)):eZ K H a xs:=.inl (.inl h)
theorem aM.list (I:aM X pins σ H s) (h:cG X.K H a xs):∃ its:List Value,bf xs its/\PlainL s.heap a its.toArray/\xs.length<=sizeLine:=by
 rcases h with h | ⟨o,its,n,hk,hc,hd,hs,hz,r⟩
 . obtain ⟨z,its,n,r,e⟩:=h.ok I.hok;exact ⟨its,r,⟨_,n,e,rfl,rfl,rfl⟩,z⟩
 . refine ⟨its.toList,r,⟨o,n,I.kIn a o hk,hc,hd,by omega⟩,?_⟩;have e:=r.length
   simp_all
theorem aM.tuple (I:aM X pins σ H s) (h:eZ X.K H a xs):∃ its:List Value,bf xs its/\IsTup s.heap a its.toArray/\xs.length<=sizeLine:=by
 rcases h with h | ⟨o,its,n,hk,hc,hs,hz,r⟩
 . obtain ⟨z,its,r,p⟩:=h.ok I.hok
   grind
 . refine ⟨its.toList,r,⟨o,I.kIn a o hk,hc,n,by omega⟩,?_⟩;have e:=r.length
   simp_all
theorem aM.list_inj (I:aM X pins σ H s) (h:cG X.K H a xs) (h':cG X.K H a ys):xs=ys:=by
 obtain ⟨its,r,⟨o,n,e,_,_,d⟩,_⟩:=I.list h;obtain ⟨its',r',⟨o',n',e',_,_,d'⟩,_⟩:=I.list h';rw [e] at e';cases e';rw [d] at d';injection d' with d1 _
 have  := by simpa using RO Array.toList d1
 subst this;exact r.inj r'
theorem aM.tuple_inj (I:aM X pins σ H s) (h:eZ X.K H a xs) (h':eZ X.K H a ys):xs=ys:=by
 obtain ⟨its,r,⟨o,e,_,n,d⟩,_⟩:=I.tuple h;obtain ⟨its',r',⟨o',e',_,n',d'⟩,_⟩:=I.tuple h';rw [e] at e';cases e';rw [d] at d';injection d' with d1 _
 have  := by simpa using RO Array.toList d1
 subst this;exact r.inj r'
end
noncomputable abbrev Cx.wish (X:Cx) (E:Value->Shared->Prop):Cx:={ X with xe:=E }
noncomputable abbrev Cx.nox (X:Cx):Cx:=X.wish λ _ _=>False
theorem Cx.Ok.wish {X:Cx} (ok:X.Ok) (E:Value->Shared->Prop):(X.wish E).Ok:=
 ⟨ok.mod,ok.kind,ok.glob,ok.blt,ok.above,ok.inj,ok.has,ok.cab,ok.hd,ok.frames,ok.stk,ok.exf,ok.bs,ok.bsz,ok.noex,ok.exfs,ok.funs,ok.frf⟩
theorem Cx.Ok.unwish {X:Cx} (ok:(X.wish E).Ok):X.Ok:=
 ⟨ok.mod,ok.kind,ok.glob,ok.blt,ok.above,ok.inj,ok.has,ok.cab,ok.hd,ok.frames,ok.stk,ok.exf,ok.bs,ok.bsz,ok.noex,ok.exfs,ok.funs,ok.frf⟩
section
variable {X:Cx} {pins:List (Addr×Obj)} {σ:St} {H:Hp} {s:Shared} {E:Value->Shared->Prop}
theorem aM.wish (I:aM X pins σ H s) (E:Value->Shared->Prop):aM (X.wish E) pins σ H s:=⟨I.ok.wish E,I.os,I.bare,I.base,I.loc,I.cell,I.free,I.freeC,I.pin,I.hok,I.len⟩
theorem aM.unwish (I:aM (X.wish E) pins σ H s):aM X pins σ H s:=⟨I.ok.unwish,I.os,I.bare,I.base,I.loc,I.cell,I.free,I.freeC,I.pin,I.hok,I.len⟩
theorem SP.unwish (h:SP (X.wish E) pins D f s'):SP X pins D f s':=by
 cases f with
 | next=>obtain ⟨σ',H',I,q⟩:=h;exact ⟨σ',H',I.unwish,q⟩
 | brk=>obtain ⟨σ',H',I,q⟩:=h;exact ⟨σ',H',I.unwish,q⟩
 | cont=>obtain ⟨σ',H',I,q⟩:=h;exact ⟨σ',H',I.unwish,q⟩
 | ret u=>obtain ⟨v,σ',H',I,r,q⟩:=h;exact ⟨v,σ',H',I.unwish,r,q⟩
theorem w5.nox {st:List Stmt} (h:w5 X.nox st t):w5 X st t:=λ pins s σ H D I hw=>
 Sx (h _ s σ H D (I.wish _) hw) (λ _ _ q=>q.unwish) λ _ _ z=>False.elim z
end
section
variable {X:Cx} {st:Stmt} {aY:List Stmt} {t u:TS} {e:Expr} {te:TE} {pos:Pos}
noncomputable def Ic:TS:=λ D σ H=>D.nx σ H
noncomputable def Kb (t u:TS):TS:=λ D σ H=>t { D with nx:=u D } σ H
theorem ND:w5 X [] Ic:=λ _ _ σ H _ I h=>wpAny_execs_nil ⟨σ,H,I,h⟩
theorem LG (h1:PS X st t) (h2:w5 X aY u):w5 X (st::aY) (Kb t u):=by
 intro pins s σ H D I h;refine wpAny_execs_cons (cq (h1 _ s σ H _ I h) λ f s1 q=>?_);cases f with
 | next=>
  obtain ⟨σ',H',I',q⟩:=q;exact h2 _ s1 _ H' D I' q
 | ret v=>exact q
 | brk=>exact q
 | cont=>exact q
theorem NJ (h1:PS X st t):w5 X [st] t:=by
 intro pins s σ H D I h;refine wpAny_execs_cons (cq (h1 _ s σ H D I h) λ f s1 q=>?_);cases f with
 | next=>exact wpAny_execs_nil q
 | ret v=>exact q
 | brk=>exact q
 | cont=>exact q
theorem aM.quiet {σ:St} (I:aM X pins σ H s):interactive X.env=false:=by simp [interactive,I.ok.kind]
noncomputable def qz (te:TE):TS:=λ D σ H=>te σ H λ _ H1=>D.nx σ H1
theorem NO (he:PE X e te) (hs:swapsWith e none pos.line X.env=pure false):PS X (.Expr e pos) (qz te):=by
 intro pins s σ H D I h;exact wpAny_Expr_any (cq (he _ s σ H _ I h) λ v s1 hy0=>by obtain ⟨x,H1,I1,r1,q1⟩:=hy0;exact ⟨σ,H1,I1,q1⟩) I.quiet hs
noncomputable def Iy (te:TE):TS:=λ D σ H=>te σ H D.rt
theorem O6 (he:PE X e te):PS X (.Return (some e) pos) (Iy te):=by
 intro pins s σ H D I h;exact wpAny_Return_some (cq (he _ s σ H _ I h) λ v s1 hy0=>by obtain ⟨x,H1,I1,r1,q1⟩:=hy0;exact ⟨x,σ,H1,I1,r1,q1⟩)
noncomputable def Iu (c:TT) (t u:TS):TS:=λ D σ H=>c σ H λ b H1=>if b=true then t D σ H1 else u D σ H1
theorem Q6 {a b:List Stmt} {tc:TT} (hc:PT X c tc) (ha:w5 X a t) (hb:w5 X b u):PS X (.If c a b pos) (Iu tc t u):=by
 intro pins s σ H D I h;refine wpAny_If (cq (hc _ s σ H _ I h) λ d s1 hq0=>?_);obtain ⟨H1,I1,q1⟩:=hq0;cases d with
 | true=>exact ha _ s1 σ H1 D I1 q1
 | false=>exact hb _ s1 σ H1 D I1 q1
noncomputable def Cj:TS:=λ _ _ _=>False
theorem Mi:PS X st Cj:=λ _ _ _ _ _ _ h=>h.elim
end
noncomputable abbrev TG:=V->St->Hp->(St->Hp->Prop)->Prop
noncomputable abbrev Lh:=List V->St->Hp->(St->Hp->Prop)->Prop
noncomputable def PG (X:Cx) (target:Expr) (t:TG):Prop:=
 ∀ (pins:List (Addr×Obj)) (s:Shared) (σ:St) (H:Hp) (v:V) (u:Value) (Q:St->Hp->Prop),aM X pins σ H s->bh v u->t v σ H Q->
  wpAny (model X.prog X.w) X.A (assign target X.env u) (λ _ s'=>∃ σ' H',aM X pins σ' H' s'/\Q σ' H') X.xe s
noncomputable def Lg (X:Cx) (ts:List Expr) (t:Lh):Prop:=
 ∀ (pins:List (Addr×Obj)) (s:Shared) (σ:St) (H:Hp) (vs:List V) (us:List Value) (Q:St->Hp->Prop),aM X pins σ H s->bf vs us->t vs σ H Q->
  wpAny (model X.prog X.w) X.A (assignInOrder ((assignEach ts X.env).map (·.2)) us) (λ _ s'=>∃ σ' H',aM X pins σ' H' s'/\Q σ' H') X.xe s
section
variable {X:Cx} {pos:Pos}
noncomputable def jZ (i:Nat):TG:=λ v σ H Q=>Q (σ.set i (some v)) H
theorem N7 (hN:X.N.Nodup) (hi:X.N[i]?=some x) (hx:Ka X.env.scope x) (hf:X.fn x=true∨X.env.scope.names.lookup x=some .local):PG X (.Name x pos) (jZ i):=by
 intro pins s σ H v u Q I r h;exact wpAny_assign_Name (we I hN hi hx r (λ s' I'=>⟨_,H,I',h⟩) hf)
noncomputable def Kt:Lh:=λ vs σ H Q=>vs=[]/\Q σ H
noncomputable def yD (t:TG) (u:Lh):Lh:=λ vs σ H Q=>∃ v r,vs=v::r/\t v σ H λ σ' H'=>u r σ' H' Q
theorem NG:Lg X [] Kt:=by
 intro pins s σ H vs us Q I r h;obtain ⟨e,h⟩:=h;subst e;exact assignInOrder_nil ⟨σ,H,I,h⟩
theorem Nm (h1:PG X e t) (h2:Lg X es u)
 (hs:(assignEach (e::es) X.env).map (·.2)=assign e X.env::(assignEach es X.env).map (·.2)):Lg X (e::es) (yD t u):=by
 intro pins s σ H vs us Q I r h;obtain ⟨v,vr,e1,h⟩:=h;subst e1;cases r with
 | cons r rr=>
  rw [hs];refine assignInOrder_cons (cq (h1 _ s σ H _ _ _ I r h) λ _ s1 hq0=>?_);obtain ⟨σ1,H1,I1,q1⟩:=hq0;exact h2 _ s1 _ H1 _ _ Q I1 rr q1
noncomputable def GZ (K:Frag) (n:Nat) (t:Lh):TG:=λ v σ H Q=>∃ a xs,v=.ref a/\eZ K H a xs/\xs.length=n/\t xs σ H Q
theorem K3 {k:Nat} (hc:X.calm=true) (h:Lg X es t)
 (hn:(assignEach es X.env).length=n:=by rfl) (hst:(assignEach es X.env).findIdx? (·.1)=none:=by rfl):PG X (.Tuple es k pos) (GZ X.K n t):=by
 intro pins s σ H v u Q I r hw;obtain ⟨a,xs,e1,hq,hl,hw⟩:=hw;subst e1;cases r;obtain ⟨its,rv,ht,hz⟩:=I.tuple hq;refine assign_Tuple_tuple (I.ok.hd hc) ht (by simp [hn,<-hl,rv.length]) hst λ h' hx=>?_;have I1  := I.kept (t':=s.toks) λ b o e=>hx b o (RL (RC e)) e;exact h _ _ σ H xs _ Q I1 (by omega) hw
noncomputable def zH (te:TE) (g:TG):TS:=λ D σ H=>te σ H λ x H1=>g x σ H1 D.nx
theorem O5 (hN:X.N.Nodup) (hi:X.N[i]?=some x) (hx:Ka X.env.scope x) (he:PE X e te) (hs:swapsWith e (some (.Name x pos')) pos.line X.env=pure false) (hf:X.fn x=true∨X.env.scope.names.lookup x=some .local):
 PS X (.Assign [.Name x pos'] e pos) (zH te (jZ i)):=by
 intro pins s σ H D I h;refine wpAny_Assign_Name (cq (he _ s σ H _ I h) λ v s1 hq0=>?_) hs;obtain ⟨y,H1,I1,r1,q1⟩:=hq0;exact we I1 hN hi hx r1 (λ s2 I2=>⟨_,H1,I2,q1⟩) hf
end
section
variable {X:Cx} {pos:Pos}
noncomputable def CU (c:TT) (tb:TS):TS:=λ D σ H=>∃ W:Nat->St->Hp->Prop,(∃ m,W m σ H)/\∀ m σ H,W m σ H->
 c σ H λ b H1=>if b=true then ∃ N:St->Hp->Prop,(∀ σ' H',N σ' H'->∃ m',m'<m/\W m' σ' H')/\tb { D with nx:=N,ct:=N,bk:=D.nx } σ H1 else D.nx σ H1
theorem MT (hp:PassesOwn (model X.prog X.w) X.A X.env X.xe) (hc:PT X c tc) (hb:w5 X body tb):PS X (.While c body [] pos) (CU tc tb):=by
 intro pins s σ H D I h;obtain ⟨W,⟨m0,w0⟩,turn⟩:=h;refine wpAny_While (codeAny_whileLoop (λ n s'=>∃ σ' H',aM X _ σ' H' s'/\W n σ' H') ?_ m0 ⟨σ,H,I,w0⟩);rintro n s1 ⟨σ1,H1,I1,w1⟩;refine TJ hp (cq (hc _ s1 _ H1 _ I1 (turn n _ H1 w1)) λ b s2 hq0=>?_);obtain ⟨H2,I2,q2⟩:=hq0;cases b with
 | true=>
  obtain ⟨N,hN,q2⟩:=q2;refine TJ hp (cq (hb _ s2 _ H2 _ I2 q2) λ f s3 q3=>?_);cases f with
  | next=>
   obtain ⟨σ3,H3,I3,n3⟩:=q3
   grind
  | cont=>
   obtain ⟨σ3,H3,I3,n3⟩:=q3
   grind
  | brk=>exact q3
  | ret v=>exact q3
 | false=>
  exact wpAny_execs_nil ⟨σ1,H2,I2,q2⟩
end
structure It where
 go:Nat->Hp->Prop
 yld:Nat->Hp->V->Hp->Prop
 stop:Nat->Hp->Prop
noncomputable def mM (X:Cx) (pins:List (Addr×Obj)) (H:Hp) (b:Addr):Prop:=
 H b=none/\b≠X.env.locals/\b∉X.fs/\(b∈X.ex∨X.s₀.heap.objs.size<=b)/\(∀ x c,X.env.cells.lookup x=some c->c≠b)/\∀ p∈X.pn++pins,p.1≠b
theorem aM.fpOk {σ:St} {b:Addr} (I:aM X pins σ H s) (hb:s.heap.objs.size<=b) (hn:H' b=none):mM X pins H' b:=by
 refine ⟨hn,UB (RD I.lt hb),I.nofs hb,.inr (Sb I.sz hb),λ x c e z=>?_,λ p hp z=>?_⟩
 . obtain ⟨v,q⟩:=I.cell x c e;exact absurd (RD q.lt (by simp_all)) (Tt _)
 . exact absurd (RD (RC (I.pin p hp).1) (by simp_all)) (Tt _)
structure xv (P:Program) (w:World) (K:Frag) (tg:Expr) (J:It) (fp:List Addr) (it:Addr) (tn:Nat->Heap->Prop):Prop where
 mem:it∈fp
 obj:∀ i h,tn i h->∀ b∈fp,∃ o,h.get? b=some o/\∀ v,o.data≠.cell v
 keep:∀ i h h',tn i h->(∀ b∈fp,∀ o,h.get? b=some o->h'.get? b=some o)->tn i h'
 item:∀ (X:Cx),X.prog=P->X.w=w->X.K=K->X.calm=true->∀ (i:Nat) (pins:List (Addr×Obj)) (s:Shared) (σ:St) (H:Hp) (E:Value->Shared->Prop),aM X pins σ H s->(∀ b∈fp,mM X pins H b)->tn i s.heap->J.go i H->
  wpAny (model P w) X.A (pyNext (.ref it)) (λ r s1=>∃ u,r=some u/\
   wpAny (model P w) X.A (letOwnedTupleGo tg (.ref it) u) (λ _ s2=>∃ x H',aM X pins σ H' s2/\bh x u/\J.yld i H x H'/\tn (i+1) s2.heap/\∀ b∈fp,H' b=none) E s1) E s
 done:∀ (X:Cx),X.prog=P->X.w=w->X.K=K->X.calm=true->∀ (i:Nat) (pins:List (Addr×Obj)) (s:Shared) (σ:St) (H:Hp) (E:Value->Shared->Prop),aM X pins σ H s->(∀ b∈fp,mM X pins H b)->tn i s.heap->J.stop i H->
  wpAny (model P w) X.A (pyNext (.ref it)) (λ r s1=>r=none/\aM X pins σ H s1) E s
 self:∀ (A:Around) (i:Nat) (s:Shared) (Q:Value->Shared->Prop) (E:Value->Shared->Prop),tn i s.heap->Q (.ref it) s->wpAny (model P w) A (pyIter (.ref it)) Q E s
noncomputable abbrev TI:=St->Hp->(It->Hp->Prop)->Prop
noncomputable def Ow (X:Cx) (pins:List (Addr×Obj)) (σ:St) (tg:Expr) (R:It->Hp->Prop) (itv:Value) (s2:Shared):Prop:=
 ∃ (it:Addr) (fp:List Addr) (tn:Nat->Heap->Prop) (J:It) (H':Hp),itv=.ref it/\aM X pins σ H' s2/\xv X.prog X.w X.K tg J fp it tn/\tn 0 s2.heap/\(∀ b∈fp,mM X pins H' b)/\R J H'
noncomputable def PI (X:Cx) (tg iter:Expr) (wi:TI):Prop:=
 ∀ (pins:List (Addr×Obj)) (s:Shared) (σ:St) (H:Hp) (R:It->Hp->Prop),aM X pins σ H s->wi σ H R->
  wpAny (model X.prog X.w) X.A (eval iter X.env) (λ v s1=>wpAny (model X.prog X.w) X.A (pyIter v) (Ow X pins σ tg R) X.xe s1) X.xe s
theorem yX (ho:s.heap.get? it=some o) (hc:o.cls=.type n) (hd:o.data=.fields vs)
 (hn:["enumerate", "zip", "dict_itemiterator", "dict_reverseitemiterator", "odict_iterator", "itertools.zip_longest", "itertools.pairwise"].contains n=false) (hQ:Q () s):wpAny M A (letOwnedTupleGo tg (.ref it) u) Q E s:=by
 cases tg <;> first
  | exact Ru hQ
  | (cases u <;> first
   | exact Ru hQ
   | (refine Rq (wpAny_load ho ?_)
      rw [hc,hd];show wpAny M A (if (["enumerate", "zip", "dict_itemiterator", "dict_reverseitemiterator", "odict_iterator", "itertools.zip_longest", "itertools.pairwise"].contains n&&vs[0]?==some _)=true then _ else _) Q E s;rw [RJ (by simp_all)];exact Ru hQ))
noncomputable def Op (K:Frag) (a:Addr):It:=
 ⟨λ i H=>∃ xs x,cG K H a xs/\xs[i]?=some x,λ i H x H'=>H'=H/\∀ xs,cG K H a xs->xs[i]?=some x,λ i H=>∃ xs,cG K H a xs/\xs.length<=i⟩
noncomputable def PR (K:Frag) (a:Addr):It:=
 ⟨λ i H=>∃ xs x,eZ K H a xs/\xs[i]?=some x,λ i H x H'=>H'=H/\∀ xs,eZ K H a xs->xs[i]?=some x,λ i H=>∃ xs,eZ K H a xs/\xs.length<=i⟩
noncomputable def N0 (lo:Int) (n:Nat):It:=⟨λ i _=>i<n,λ i H x H'=>H'=H/\x=.int (lo+i),λ i _=>n<=i⟩
theorem zD {K:Frag} (a it:Addr):xv P w K tg (Op K a) [it] it (λ i h=>h.IsListIter it a i) where
 mem:=by simp
 obj:=λ i h st b hb=>by
  have e  := by simpa using hb
  subst e;obtain ⟨o,e,c,d⟩:=st
  simp_all
 keep:=λ i h h' st k=>st.at λ o e=>k it (by simp) o e
 item:=by
  intro X hP hw hK hc i pins s σ H E I hf st hg;subst hP hw hK;obtain ⟨xs,x,hq,hx⟩:=hg;obtain ⟨its,rv,p,hz⟩:=I.list hq;obtain ⟨u,hu,ru⟩:=rv.get hx;obtain ⟨f0,f1,f2,f3,f4,f5⟩:=hf it (by simp);refine wpAny_pyNext_list_item st p.isList  (by simpa using hu) λ h' st' sb=>?_;have I1  := I.turned (t':=s.toks) (λ b o hb e=>(sb.2 b hb).trans e) f0 f1 f3 f4 f5;obtain ⟨o,e,c,d⟩:=id st';exact ⟨u,rfl,yX  e c d (by decide) ⟨x,H,I1,ru,⟨rfl,λ ys hy=>by rw [I.list_inj hy hq];exact hx⟩,st',λ b hb=>(hf b hb).1⟩⟩
 done:=by
  intro X hP hw hK hc i pins s σ H E I hf st hg;subst hP hw hK;obtain ⟨xs,hq,hx⟩:=hg;obtain ⟨its,rv,p,hz⟩:=I.list hq;obtain ⟨f0,f1,f2,f3,f4,f5⟩:=hf it (by simp);have hl:=rv.length;exact wpAny_pyNext_list_end (I.ok.hd hc) st p.isList (by simp;omega) λ h' eb=>⟨rfl,I.turned (t':=s.toks) (λ b o hb e=>eb b o hb e) f0 f1 f3 f4 f5⟩
 self:=λ _ _ _ _ _ st h=>wpAny_pyIter_listiter st h
theorem x6 {K:Frag} (a it:Addr):xv P w K tg (PR K a) [it] it (λ i h=>h.IsTupleIter it a i) where
 mem:=by simp
 obj:=λ i h st b hb=>by
  have e  := by simpa using hb
  subst e;obtain ⟨o,e,c,d⟩:=st
  simp_all
 keep:=λ i h h' st k=>st.at λ o e=>k it (by simp) o e
 item:=by
  intro X hP hw hK hc i pins s σ H E I hf st hg;subst hP hw hK;obtain ⟨xs,x,hq,hx⟩:=hg;obtain ⟨its,rv,p,hz⟩:=I.tuple hq;obtain ⟨u,hu,ru⟩:=rv.get hx;obtain ⟨f0,f1,f2,f3,f4,f5⟩:=hf it (by simp);refine wpAny_pyNext_tuple_item st (show s.heap.IsTuple a _ from p)  (by simpa using hu) λ h' st' sb=>?_;have I1  := I.turned (t':=s.toks) (λ b o hb e=>(sb.2 b hb).trans e) f0 f1 f3 f4 f5;obtain ⟨o,e,c,d⟩:=id st';exact ⟨u,rfl,yX  e c d (by decide) ⟨x,H,I1,ru,⟨rfl,λ ys hy=>by rw [I.tuple_inj hy hq];exact hx⟩,st',λ b hb=>(hf b hb).1⟩⟩
 done:=by
  intro X hP hw hK hc i pins s σ H E I hf st hg;subst hP hw hK;obtain ⟨xs,hq,hx⟩:=hg;obtain ⟨its,rv,p,hz⟩:=I.tuple hq;obtain ⟨f0,f1,f2,f3,f4,f5⟩:=hf it (by simp);have hl:=rv.length;exact wpAny_pyNext_tuple_end (I.ok.hd hc) st (show s.heap.IsTuple a its.toArray from p) (by simp;omega) λ h' eb=>⟨rfl,I.turned (t':=s.toks) (λ b o hb e=>eb b o hb e) f0 f1 f3 f4 f5⟩
 self:=λ _ _ _ _ _ st h=>wpAny_pyIter_tupleiter st h
theorem wM {K:Frag} (it:Addr) (lo:Int) (n:Nat):xv P w K tg (N0 lo n) [it] it (λ i h=>IsRangeIter h it (lo+(i:Nat)*1) ((n:Int)-(i:Nat)) 1) where
 mem:=by simp
 obj:=λ i h st b hb=>by
  simp_all
 keep:=λ i h h' st k=>k it (by simp) _ st
 item:=by
  intro X hP hw hK hc i pins s σ H E I hf st hg;subst hP hw hK;obtain ⟨f0,f1,f2,f3,f4,f5⟩:=hf it (by simp);have W:=Walks.range (prog:=X.prog) (w:=X.w) (I.ok.hd hc) it lo 1 n;refine W.item i s _ _ hg st λ v h' tk hv st' kk=>?_;obtain ⟨t,rfl⟩:=hv;have I1:aM X _ σ H { s with heap:=h',toks:=tk }:=I.turned (λ b o hb e=>kk b o (by grind) e) f0 f1 f3 f4 f5;refine ⟨_,rfl,yX (s:={ s with heap:=h',toks:=tk }) (n := "range_iterator") st' rfl rfl (by decide) ⟨.int _,H,I1,⟨t,?_⟩,⟨rfl,rfl⟩,st',λ b hb=>(hf b hb).1⟩⟩
  simp_all
 done:=by
  intro X hP hw hK hc i pins s σ H E I hf st hg;obtain ⟨f0,f1,f2,f3,f4,f5⟩:=hf it (by simp);exact wpAny_pyNext_range_end (I.ok.hd hc) st (by have:n<=i:=hg;omega) λ h' eb=>⟨rfl,I.turned (t':=s.toks) (λ b o hb e=>eb b o hb e) f0 f1 f3 f4 f5⟩
 self:=λ _ _ _ _ _ st h=>wpAny_pyIter_rangeiter st h
end L2
namespace L2
open PySem PySem.Spec PyProof.Rows
open PySem.W (Frag)
section
variable {X:Cx} {tg:Expr}
theorem Ed {σ:St} {lo hi:Int} (I:aM X pins σ H s) (h1 : -(2^62)<=lo) (h2:lo<2^62) (h3 : -(2^62)<=hi) (h4:hi<2^62)
 (q:R (N0 lo (hi-lo).toNat) H):wpAny (model X.prog X.w) X.A (pyIter (.ref s.heap.objs.size)) (Ow X pins σ tg R) E { s with heap:=s.heap.push { cls:=.type "range", data:=.fields #[.int lo t,.int hi u,.int 1 v] },toks:=tk }:=by
 refine wpAny_pyIter_range (IsRange.new ..) (small_one h1 h2 h3 h4) ?_;have I1:aM X _ σ H { s with heap:=s.heap.push { cls:=.type "range", data:=.fields #[.int lo t,.int hi u,.int 1 v] },toks:=tk }:=I.kept λ b o e=>Rv _ e;refine ⟨(s.heap.push _).objs.size,[(s.heap.push _).objs.size],_,_,H,rfl,
  I1.kept  λ b o e=>Rv _ e,wM _ lo _,?_,λ b hb=>?_,q⟩
 . have e1:lo+(0:Nat)*1=lo:=by simp
   have e2:(hi-lo).toNat-(0:Nat)=Builtin.Range.rangeSize lo hi 1:=by rw [rangeSize_one];grind
   rw [e1,e2];exact RF _ rfl
 . have e:b=(s.heap.push { cls:=.type "range", data:=.fields #[.int lo t,.int hi u,.int 1 v] }).objs.size:=by simpa using hb
   subst e;exact I1.fpOk (Ry _) (I1.hok.fresh (Ry _))
noncomputable def HM (ta:TA):TI:=λ σ H R=>ta σ H λ vs H1=>∃ j:Int,vs=[.int j] /\ -(2^62)<=j/\j<2^62/\R (N0 0 j.toNat) H1
theorem KY (hg:Gl X "range") (hm:X.mg "range" = none) (ha:PA X [a] ta) (hs:starEach [a] X.env=[(false,eval a X.env)]):PI X tg (.Call (.Name "range" p) [a] [] pos) (HM ta):=by
 intro pins s σ H R I h;refine Call_ (mI I hg hm boot_range (Uc (cq (ha _ _ s σ H _ I h) λ us s1 hq0=>?_) hs rfl));obtain ⟨vs,H1,I1,r1,q1⟩:=hq0;obtain ⟨j,e,q1,q2,q⟩:=q1;subst e;cases r1 with
 | cons r rr=>
  cases rr;obtain ⟨t,rfl⟩:=r;exact call_range_1 (Ed I1 (by omega) (by omega) q1 q2 (by grind))
noncomputable def JH (wi:TI) (g:TG) (tb:TS):TS:=λ D σ H=>wi σ H λ J H1=>∃ W:Nat->Nat->St->Hp->Prop,(∃ m,W 0 m σ H1)/\∀ i m σ H,W i m σ H->
 (J.stop i H/\D.nx σ H)∨(J.go i H/\∃ N:St->Hp->Prop,(∀ σ' H',N σ' H'->∃ m',m'<m/\W (i+1) m' σ' H')/\∀ x H',J.yld i H x H'->g x σ H' λ σ2 H2=>tb { D with nx:=N,ct:=N,bk:=D.nx } σ2 H2)
noncomputable def mH (fp:List Addr) (h:Heap):List (Addr×Obj):=fp.filterMap λ b=>(h.get? b).map λ o=>(b,o)
theorem iC (hb:b∈fp) (e:h.get? b=some o):(b,o)∈mH fp h:=Tn.mpr ⟨b,hb,by rw [e];rfl⟩
theorem Aw (hp:p∈mH fp h):p.1∈fp/\h.get? p.1=some p.2:=by
 obtain ⟨b,hb,e⟩:=Tn.mp hp;cases q:h.get? b with
 | none=>simp_all
 | some o=>
  grind
theorem aM.pinned {σ:St} (I:aM X pins σ H s) (hf:∀ b∈fp,mM X pins H b) (ho:∀ b∈fp,∃ o,s.heap.get? b=some o/\∀ v,o.data≠.cell v):aM X (pins++mH fp s.heap) σ H s:=
 I.pins_of λ p hp=>(Rz.mp hp).elim (λ z=>I.pin p (R9 _ z)) λ z=>by
  obtain ⟨hb,e⟩:=Aw z;obtain ⟨f0,f1,f2,_⟩:=hf p.1 hb
  grind
theorem aM.unpinned {σ:St} (I:aM X (pins++pl) σ H s):aM X pins σ H s:=I.pins_of λ p hp=>I.pin p (R9 _ (List.mem_append_left _ hp))
theorem Oq {body:List Stmt} {wi:TI} {g:TG} {tb:TS} {pos:Pos} (hp:PassesOwn (model X.prog X.w) X.A X.env X.xe) (hc:X.calm=true) (hi:PI X tg iter wi) (hg:PG X tg g) (hb:w5 X body tb)
 (hs:∀ x,foldedSetIterable iter X.env x=pure x):PS X (.For tg iter body [] pos) (JH wi g tb):=by
 intro pins s σ H D I h;refine wpAny_For (cq (hi _ s σ H _ I h) λ v s1 h1=>cq h1 λ itv s2 h2=>?_) hs;obtain ⟨it,fp,tn,J,H2,e,I2,T,st2,f2,W,⟨m0,w0⟩,turn⟩:=h2;subst e;have stat:∀ {H':Hp},(∀ b∈fp,H' b=none)->∀ b∈fp,mM X _ H' b:=λ hn b hb=>⟨hn b hb,(f2 b hb).2⟩
 refine codeAny_forLoop_any (λ n s'=>∃ i σ' H',aM X _ σ' H' s'/\tn i s'.heap/\(∀ b∈fp,H' b=none)/\W i n σ' H') ?_ m0 ⟨0,σ,H2,I2,st2,λ b hb=>(f2 b hb).1,w0⟩;rintro n s3 ⟨i,σ3,H3,I3,st3,fr3,w3⟩;rcases turn i n _ H3 w3 with ⟨stop,qn⟩ | ⟨go,N,hN,step⟩
 . refine TJ hp (cq (T.done X rfl rfl rfl hc i _ s3 _ H3 _ I3 (stat fr3) st3 stop) λ r s4 ⟨hr,I4⟩=>?_);subst hr;exact wpAny_execs_nil ⟨σ3,H3,I4,qn⟩
 . refine TJ hp (cq (T.item X rfl rfl rfl hc i pins s3 σ3 H3 X.xe I3 (stat fr3) st3 go) λ r s4 ⟨u,hr,h4⟩=>?_);subst hr;refine TJ hp (cq h4 λ _ s5 hq0=>?_);obtain ⟨x,H5,I5,r5,y5,st5,fr5⟩:=hq0;have I5':=I5.pinned (stat fr5) (T.obj _ _ st5);refine TJ hp (cq (hg _ s5 σ3 H5 x u _ I5' r5 (step x H5 y5)) λ _ s6 hq0=>?_);obtain ⟨σ6,H6,I6,q6⟩:=hq0;refine TJ hp (cq (hb _ s6 σ6 H6 _ I6 q6) λ f s7 q7=>?_);have again:∀ {σ7:St} {H7:Hp},aM X (pins++mH fp s5.heap) σ7 H7 s7->N σ7 H7->∃ m,m<n/\∃ i σ' H',aM X pins σ' H' s7/\tn i s7.heap/\(∀ b∈fp,H' b=none)/\W i m σ' H':=λ {σ7 H7} I7 n7=>by
    obtain ⟨m',hm,w7⟩:=hN σ7 H7 n7;refine ⟨m',hm,i+1,σ7,H7,I7.unpinned,T.keep _ _ _ st5 λ b hb o e=>(I7.pin (b,o) (R9 _ (R9 _ (iC hb e)))).1,λ b hb=>?_,w7⟩;obtain ⟨o,e,d⟩:=T.obj _ _ st5 b hb;exact (I7.pin (b,o) (R9 _ (R9 _ (iC hb e)))).2.1
   cases f with
   | next=>obtain ⟨σ7,H7,I7,n7⟩:=q7;exact again I7 n7
   | cont=>obtain ⟨σ7,H7,I7,n7⟩:=q7;exact again I7 n7
   | brk=>obtain ⟨σ7,H7,I7,q7⟩:=q7;exact ⟨σ7,H7,I7.unpinned,q7⟩
   | ret v=>obtain ⟨x7,σ7,H7,I7,r7,q7⟩:=q7;exact ⟨x7,σ7,H7,I7.unpinned,r7,q7⟩
end
end L2
namespace L2
open PySem PySem.Spec PyProof.Rows
open PySem.W (Frag)
noncomputable abbrev R2:=V->V->Hp->VK->Prop
noncomputable def fX (X:Cx) (f:Value->Value->Sem Value) (r:R2):Prop:=
 ∀ (pins:List (Addr×Obj)) (s:Shared) (σ:St) (H:Hp) (x y:V) (v u:Value) (Q:VK),aM X pins σ H s->bh x v->bh y u->r x y H Q->
  wpAny (model X.prog X.w) X.A (f v u) (EP X pins σ Q) X.xe s
noncomputable def NF (X:Cx) (f:Value->Sem Value) (r:V->Hp->VK->Prop):Prop:=
 ∀ (pins:List (Addr×Obj)) (s:Shared) (σ:St) (H:Hp) (x:V) (v:Value) (Q:VK),aM X pins σ H s->bh x v->r x H Q->
  wpAny (model X.prog X.w) X.A (f v) (EP X pins σ Q) X.xe s
noncomputable def bN (X:Cx) (f:Value) (r:List V->Hp->VK->Prop):Prop:=
 ∀ (pins:List (Addr×Obj)) (s:Shared) (σ:St) (H:Hp) (xs:List V) (us:List Value) (Q:VK),aM X pins σ H s->bf xs us->r xs H Q->
  wpAny (model X.prog X.w) X.A (call f us) (EP X pins σ Q) X.xe s
noncomputable def O0 (X:Cx) (r:V->Hp->(Bool->Hp->Prop)->Prop):Prop:=
 ∀ (pins:List (Addr×Obj)) (s:Shared) (σ:St) (H:Hp) (x:V) (v:Value) (Q:Bool->Hp->Prop),aM X pins σ H s->bh x v->r x H Q->
  wpAny (model X.prog X.w) X.A (truthy v) (TP X pins σ Q) X.xe s
noncomputable def w4 (r:R2) (ta tb:TE):TE:=λ σ H Q=>ta σ H λ x H1=>tb σ H1 λ y H2=>r x y H2 Q
noncomputable def Qh (r:V->Hp->VK->Prop) (ta:TE):TE:=λ σ H Q=>ta σ H λ x H1=>r x H1 Q
noncomputable def rI (C:Int->Int->Prop) (g:Int->Int->V):R2:=λ x y H Q=>∃ i j,x=.int i/\y=.int j/\C i j/\Q (g i j) H
noncomputable def yq (g:Int->Int->V):R2:=λ x y H Q=>∃ i j,x=.int i/\y=.int j/\Q (g i j) H
noncomputable def rU (g:Int->V):V->Hp->VK->Prop:=λ x H Q=>∃ i,x=.int i/\Q (g i) H
section
variable {X:Cx} {a b c:Expr} {ta tb tc:TE} {pos:Pos}
theorem JE (ha:PE X a ta) (hb:PE X b tb) {σ:St} {R:V->V->Hp->Prop} (I:aM X pins σ H s)
 (h:ta σ H λ x H1=>tb σ H1 λ y H2=>R x y H2) {f:Value->Value->Sem Value}
 (hf:∀ v u s2 x y H2,aM X pins σ H2 s2->bh x v->bh y u->R x y H2->wpAny (model X.prog X.w) X.A (f v u) Q X.xe s2):
 wpAny (model X.prog X.w) X.A (eval a X.env) (λ v s₁=>wpAny (model X.prog X.w) X.A (eval b X.env) (λ u s₂=>wpAny (model X.prog X.w) X.A (f v u) Q X.xe s₂) X.xe s₁) X.xe s:=by
 refine cq (ha _ s σ H _ I h) λ v s1 hq0=>?_;obtain ⟨x,H1,I1,r1,q1⟩:=hq0;refine cq (hb _ s1 σ H1 _ I1 q1) λ u s2 hq0=>?_;obtain ⟨y,H2,I2,r2,q2⟩:=hq0
 grind
theorem Q7 (ho:fX X (binaryOp op) r) (ha:PE X a ta) (hb:PE X b tb):PE X (.BinOp a op b pos) (w4 r ta tb):=by
 intro pins s σ H Q I h;exact wpAny_BinOp (JE ha hb I h λ v u s2 x y H2 I2 rx ry q=>ho _ s2 σ H2 x y v u Q I2 rx ry q)
theorem Qy (ho:NF X (unaryOp op) r) (ha:PE X a ta):PE X (.UnaryOp op a pos) (Qh r ta):=by
 intro pins s σ H Q I h;exact UnaryOp_ (cq (ha _ s σ H _ I h) λ v s1 hy0=>by obtain ⟨x,H1,I1,r1,q1⟩:=hy0;exact ho _ s1 σ H1 x v Q I1 r1 q1)
theorem KE {g:Int->Int->Int}
 (rule:∀ (i j:Int) (t u:Tok) (s:Shared) (Q:Value->Shared->Prop) (E:Value->Shared->Prop),C i j->Q (.int (g i j) s.toks) { s with toks:=s.toks+1 }->wpAny (model X.prog X.w) X.A (f (.int i t) (.int j u)) Q E s):
 fX X f (rI C λ i j=>.int (g i j)):=by
 intro pins s σ H x y v u Q I rx ry h;obtain ⟨i,j,rfl,rfl,hc,q⟩:=h;obtain ⟨t,rfl⟩:=rx;obtain ⟨t',rfl⟩:=ry;exact rule i j t t' s _ _ hc ⟨.int _,H,I.tok _,⟨_,rfl⟩,q⟩
theorem Fs {g:Int->Int->Int}
 (rule:∀ (i j:Int) (t u:Tok) (s:Shared) (Q:Value->Shared->Prop) (E:Value->Shared->Prop),Q (.int (g i j) s.toks) { s with toks:=s.toks+1 }->wpAny (model X.prog X.w) X.A (f (.int i t) (.int j u)) Q E s):
 fX X f (yq λ i j=>.int (g i j)):=by
 intro pins s σ H x y v u Q I rx ry h;obtain ⟨i,j,rfl,rfl,q⟩:=h;obtain ⟨t,rfl⟩:=rx;obtain ⟨t',rfl⟩:=ry;exact rule i j t t' s _ _ ⟨.int _,H,I.tok _,⟨_,rfl⟩,q⟩
theorem PV {g:Int->Int->Bool}
 (rule:∀ (i j:Int) (t u:Tok) (s:Shared) (Q:Value->Shared->Prop) (E:Value->Shared->Prop),Q (.bool (g i j)) s->wpAny (model X.prog X.w) X.A (f (.int i t) (.int j u)) Q E s):
 fX X f (yq λ i j=>.bl (g i j)):=by
 intro pins s σ H x y v u Q I rx ry h;obtain ⟨i,j,rfl,rfl,q⟩:=h;obtain ⟨t,rfl⟩:=rx;obtain ⟨t',rfl⟩:=ry;exact rule i j t t' s _ _ ⟨.bl _,H,I,rfl,q⟩
noncomputable def G7 (i j:Int):Prop:=0<=j/\j<=1000000/\i.natAbs<2^64
noncomputable def EG (i j:Int):Prop:=(-(2^64)<i/\i<2^64)∨(-(2^64)<j/\j<2^64)
theorem EG.ok (h:EG i j):IntMulOk i j:=by
 rcases h with ⟨h1,h2⟩ | ⟨h1,h2⟩
 . exact .of_left (intBits_le_64 h1 h2)
 . exact .of_right (intBits_le_64 h1 h2)
theorem Iq:fX X (binaryOp .Add) (yq λ i j=>.int (i+j)):=Fs λ _ _ _ _ _ _ _ q=>add_int q
theorem O9:fX X (binaryOp .Sub) (yq λ i j=>.int (i-j)):=Fs λ _ _ _ _ _ _ _ q=>sub_int q
theorem IV:fX X (binaryOp .Mult) (rI EG λ i j=>.int (i*j)):=KE λ _ _ _ _ _ _ _ hc q=>mul_int q hc.ok
theorem EC:fX X (binaryOp .Mod) (rI (λ _ j=>j≠0) λ i j=>.int (i.fmod j)):=KE λ _ _ _ _ _ _ _ hc q=>mod_int' hc q
theorem OD:fX X (binaryOp .Pow) (rI G7 λ i j=>.int (i^j.toNat)):=KE λ _ _ _ _ _ _ _ hc q=>pow_int_small hc.1 hc.2.1 hc.2.2 q
theorem OM:fX X (binaryOp .LShift) (rI G7 λ i j=>.int (i*2^j.toNat)):=KE λ _ _ _ _ _ _ _ hc q=>lshift_int_small hc.1 hc.2.1 hc.2.2 q
theorem OC:fX X (binaryOp .RShift) (rI (λ _ j=>0<=j) λ i j=>.int (i / 2^j.toNat)):=KE λ i j _ _ _ _ _ hc q=>
 rshift_int hc (by grind)
theorem OX:fX X (binaryOp .BitAnd) (yq λ i j=>.int (Builtin.bitAnd i j)):=Fs λ _ _ _ _ _ _ _ q=>and_int q
theorem Q4:fX X (binaryOp .BitOr) (yq λ i j=>.int (Builtin.bitOr i j)):=Fs λ _ _ _ _ _ _ _ q=>or_int q
theorem Rf {g:Int->Int}
 (rule:∀ (i:Int) (t:Tok) (s:Shared) (Q:Value->Shared->Prop) (E:Value->Shared->Prop),Q (.int (g i) s.toks) { s with toks:=s.toks+1 }->wpAny (model X.prog X.w) X.A (f (.int i t)) Q E s):
 NF X f (rU λ i=>.int (g i)):=by
 intro pins s σ H x v Q I rx h;obtain ⟨i,rfl,q⟩:=h;obtain ⟨t,rfl⟩:=rx;exact rule i t s _ _ ⟨.int _,H,I.tok _,⟨_,rfl⟩,q⟩
theorem Pi:NF X (unaryOp .USub) (rU λ i=>.int (-i)):=Rf λ _ _ _ _ _ q=>neg_int q
end
noncomputable def JA:V->V->Bool
 | .non,.non=>true | .non,.int _=>true | .int _,.non=>true | .non,.bl _=>true | .bl _,.non=>true | .non,.str _=>true | .str _,.non=>true
 | .int _,.int _=>true | .bl _,.bl _=>true | .str _,.str _=>true | .byt _,.byt _=>true
 | .int _,.str _=>true | .str _,.int _=>true | .bl _,.str _=>true | .str _,.bl _=>true
 | _,_=>false
noncomputable def Q1:R2:=λ x y H Q=>JA x y=true/\Q (.bl (decide (x=y))) H
noncomputable def QJ:R2:=λ x y H Q=>JA x y=true/\Q (.bl (!decide (x=y))) H
theorem yy:decide (V.int i=V.int j)=(i==j):=by
 grind
theorem Ca:decide (V.bl i=V.bl j)=(i==j):=by
 grind
theorem yI:decide (V.str i=V.str j)=(i==j):=by
 grind
theorem yx:decide (V.byt i=V.byt j)=(i.toList==j.toList):=by
 rw [Bool.eq_iff_iff]
 simp_all
section
variable {X:Cx} {a b c:Expr} {ta tb tc:TE} {pos:Pos}
theorem bj {σ:St} (I:aM X pins σ H s) (q:Q (.bl k) H) (e:k=k'):EP X pins σ Q (.bool k') s:=by
 subst e;exact ⟨.bl k,H,I,rfl,q⟩
theorem MK:fX X (compareOp .Eq) Q1:=by
 intro pins s σ H x y v u Q I rx ry h;obtain ⟨hs,q⟩:=h;cases x with
 | non=>
  cases rx;cases y with
  | non=>cases ry;exact PySem.EqNone.eq_none_none (bj I q (by simp))
  | bl j=>cases ry;exact PySem.EqNone.eq_none_bool (bj I q (by simp))
  | int j=>obtain ⟨t',rfl⟩:=ry;exact PySem.EqNone.eq_none_int (bj I q (by simp))
  | str j=>obtain ⟨t',rfl⟩:=ry;exact PySem.EqNone.eq_none_str (bj I q (by simp))
  | _=>exact absurd (show false=true from hs) RP
 | bl i=>
  cases rx;cases y with
  | non=>cases ry;exact PySem.EqNone.eq_bool_none (bj I q (by simp))
  | bl j=>cases ry;exact eq_bool (bj I q Ca)
  | str j=>obtain ⟨t',rfl⟩:=ry;exact PySem.EqMixed.eq_bool_str (bj I q (by simp))
  | _=>exact absurd (show false=true from hs) RP
 | int i=>
  obtain ⟨t,rfl⟩:=rx;cases y with
  | non=>cases ry;exact PySem.EqNone.eq_int_none (bj I q (by simp))
  | int j=>obtain ⟨t',rfl⟩:=ry;exact eq_int (bj I q yy)
  | str j=>obtain ⟨t',rfl⟩:=ry;exact PySem.EqMixed.eq_int_str (bj I q (by simp))
  | _=>exact absurd (show false=true from hs) RP
 | str i=>
  obtain ⟨t,rfl⟩:=rx;cases y with
  | non=>cases ry;exact PySem.EqNone.eq_str_none (bj I q (by simp))
  | bl j=>cases ry;exact PySem.EqMixed.eq_str_bool (bj I q (by simp))
  | int j=>obtain ⟨t',rfl⟩:=ry;exact PySem.EqMixed.eq_str_int (bj I q (by simp))
  | str j=>obtain ⟨t',rfl⟩:=ry;exact eq_str (bj I q yI)
  | _=>exact absurd (show false=true from hs) RP
 | byt i=>
  obtain ⟨t,rfl⟩:=rx;cases y with
  | byt j=>obtain ⟨t',rfl⟩:=ry;exact PySem.W.eq_bytes (bj I q yx)
  | _=>exact absurd (show false=true from hs) RP
 | _=>cases y <;> exact absurd (show false=true from hs) RP
theorem LZ:fX X (compareOp .NotEq) QJ:=by
 intro pins s σ H x y v u Q I rx ry h;obtain ⟨hs,q⟩:=h;cases x with
 | non=>
  cases rx;cases y with
  | non=>cases ry;exact PySem.EqNone.ne_none_none (bj I q (by simp))
  | bl j=>cases ry;exact PySem.EqNone.ne_none_bool (bj I q (by simp))
  | int j=>obtain ⟨t',rfl⟩:=ry;exact PySem.EqNone.ne_none_int (bj I q (by simp))
  | str j=>obtain ⟨t',rfl⟩:=ry;exact PySem.EqNone.ne_none_str (bj I q (by simp))
  | _=>exact absurd (show false=true from hs) RP
 | bl i=>
  cases rx;cases y with
  | non=>cases ry;exact PySem.EqNone.ne_bool_none (bj I q (by simp))
  | bl j=>cases ry;exact ne_bool (bj I q (RO not Ca))
  | str j=>obtain ⟨t',rfl⟩:=ry;exact PySem.EqMixed.ne_bool_str (bj I q (by simp))
  | _=>exact absurd (show false=true from hs) RP
 | int i=>
  obtain ⟨t,rfl⟩:=rx;cases y with
  | non=>cases ry;exact PySem.EqNone.ne_int_none (bj I q (by simp))
  | int j=>obtain ⟨t',rfl⟩:=ry;exact ne_int (bj I q (RO not yy))
  | str j=>obtain ⟨t',rfl⟩:=ry;exact PySem.EqMixed.ne_int_str (bj I q (by simp))
  | _=>exact absurd (show false=true from hs) RP
 | str i=>
  obtain ⟨t,rfl⟩:=rx;cases y with
  | non=>cases ry;exact PySem.EqNone.ne_str_none (bj I q (by simp))
  | bl j=>cases ry;exact PySem.EqMixed.ne_str_bool (bj I q (by simp))
  | int j=>obtain ⟨t',rfl⟩:=ry;exact PySem.EqMixed.ne_str_int (bj I q (by simp))
  | str j=>obtain ⟨t',rfl⟩:=ry;exact ne_str (bj I q (RO not yI))
  | _=>exact absurd (show false=true from hs) RP
 | byt i=>
  obtain ⟨t,rfl⟩:=rx;cases y with
  | byt j=>obtain ⟨t',rfl⟩:=ry;exact PySem.W.ne_bytes (bj I q (RO not yx))
  | _=>exact absurd (show false=true from hs) RP
 | _=>cases y <;> exact absurd (show false=true from hs) RP
theorem Qr:fX X (compareOp .Lt) (yq λ i j=>.bl (decide (i<j))):=PV λ _ _ _ _ _ _ _ q=>lt_int q
theorem Pp:fX X (compareOp .Is) (λ x y H Q=>y=.non/\Q (.bl (decide (x=.non))) H):=by
 intro pins s σ H x y v u Q I rx ry h;obtain ⟨rfl,q⟩:=h;cases ry;refine is_none_gen (bj I q ?_);cases x <;> first
  | rfl
  | (obtain ⟨t,rfl⟩:=rx;rfl)
theorem Ny:fX X (compareOp .IsNot) (λ x y H Q=>y=.non/\Q (.bl (!decide (x=.non))) H):=by
 intro pins s σ H x y v u Q I rx ry h;obtain ⟨rfl,q⟩:=h;cases ry;refine isnot_none_gen (bj I q ?_);cases x <;> first
  | rfl
  | (obtain ⟨t,rfl⟩:=rx;rfl)
theorem fX.or (h:fX X f r) (h':fX X f r'):fX X f (λ x y H Q=>r x y H Q∨r' x y H Q):=by
 intro pins s σ H x y v u Q I rx ry q;rcases q with q | q
 . exact h _ s σ H x y v u Q I rx ry q
 . exact h' _ s σ H x y v u Q I rx ry q
theorem Oc (ho:fX X (compareOp op) r) (ha:PE X a ta) (hb:PE X b tb) (hm:behindInMarks op b=false):PE X (.Compare a [op] [b] pos) (w4 r ta tb):=by
 intro pins s σ H Q I h;exact wpAny_Compare1 (JE ha hb I h λ v u s2 x y H2 I2 rx ry q=>ho _ s2 σ H2 x y v u Q I2 rx ry q) hm
noncomputable def pN (t:TE):TT:=λ σ H Q=>t σ H λ x H'=>∃ k,x=.bl k/\Q k H'
theorem NP (ho:fX X (compareOp op) r) (ha:PE X a ta) (hb:PE X b tb) (hm:behindInMarks op b=false):PT X (.Compare a [op] [b] pos) (pN (w4 r ta tb)):=by
 intro pins s σ H Q I h;refine wpAny_isTrue_Compare1 (cq (ha _ s σ H _ I h) λ v s1 hy0=>?_) hm;obtain ⟨x,H1,I1,r1,q1⟩:=hy0;refine cq (hb _ s1 σ H1 _ I1 q1) λ u s2 hy0=>?_;obtain ⟨y,H2,I2,r2,q2⟩:=hy0;refine
  cq (ho _ s2 σ H2 x y v u _ I2 r1 r2 q2) λ c s3 ⟨z,H3,I3,r3,k,e,q3⟩=>?_
 subst e;cases r3;exact Td ⟨H3,I3,q3⟩
noncomputable def GA (K:Frag) (x:V) (H:Hp) (k:Bool):Prop:=
 match x with
 | .non=>k=false
 | .bl b=>k=b
 | .int i=>k=(i != 0)
 | .str y=>y.length<=sizeLine/\k=((y.length:Int) != 0)
 | .byt y=>y.size<=sizeLine/\k=((y.size:Int) != 0)
 | .ref p=>(∃ xs,cG K H p xs/\k = !xs.isEmpty)∨(∃ xs,eZ K H p xs/\k = !xs.isEmpty)∨∃ kvs,H p=some (.dK kvs)/\k = !kvs.isEmpty
 | _=>False
theorem wF (r:KV kvs vs):(!vs.isEmpty) = !kvs.isEmpty:=by
 cases r <;> rfl
theorem qu (r:bf xs its):(!its.toArray.isEmpty) = !xs.isEmpty:=by
 cases r <;> simp
theorem pR:(sizeLine:Nat)<2^63:=by decide
theorem Jh:O0 X (λ x H Q=>∃ k,GA X.K x H k/\Q k H):=by
 intro pins s σ H x v Q I rx h;obtain ⟨k,e,q⟩:=h;have hs  := T6;cases x with
 | non=>
  cases rx;have e'  := e;subst e';exact truthy_none ⟨H,I,q⟩
 | bl b=>
  cases rx;have e'  := e;subst e';exact Td ⟨H,I,q⟩
 | int i=>
  obtain ⟨t,rfl⟩:=rx;have e':k=(i != 0):=e;subst e';exact PySem.P.truthy_int ⟨H,I,q⟩
 | str y=>
  obtain ⟨t,rfl⟩:=rx;obtain ⟨hy,e'⟩:y.length<=sizeLine/\k=((y.length:Int) != 0):=e;subst e';exact PySem.P.truthy_str (by omega) ⟨H,I.tok _,q⟩
 | byt y=>
  obtain ⟨t,rfl⟩:=rx;obtain ⟨hy,e'⟩:y.size<=sizeLine/\k=((y.size:Int) != 0):=e;subst e';exact PySem.W.truthy_bytes (by omega) ⟨H,I.tok _,q⟩
 | ref p=>
  cases rx;have e':(∃ xs,cG X.K H p xs/\k = !xs.isEmpty)∨(∃ xs,eZ X.K H p xs/\k = !xs.isEmpty)∨∃ kvs,H p=some (.dK kvs)/\k = !kvs.isEmpty:=e;rcases e' with ⟨xs,hx,e'⟩ | ⟨xs,hx,e'⟩ | ⟨kvs,hx,e'⟩
  . subst e';obtain ⟨its,r,pl,hz⟩:=I.list hx;have hlen:=r.length;exact wpAny_truthy_list pl.isList (by simp only [So];omega) ⟨H,I.tok _,by rw [qu r];exact q⟩
  . subst e';obtain ⟨its,r,pl,hz⟩:=I.tuple hx;have hlen:=r.length;exact truthy_tuple pl (by simp only [So];omega) ⟨H,I.tok _,by rw [qu r];exact q⟩
  . subst e';obtain ⟨hz,hS,vs,r,m'⟩:kvs.length<=sizeLine/\(p==sysModules)=false/\∃ vs,KV kvs vs/\nO X.prog X.w s.heap p vs:=I.hok p _ hx;have m:=m'.of;have hlen:kvs.length=vs.length:=Ts r;exact wpAny_truthy_dict hS m (by omega) ⟨H,I.tok _,by rw [wF r];exact q⟩
 | _=>exact (show False from e).elim
theorem Bx (ha:PE X a ta) (he:∀ whole,isTrue a X.env whole=(do let v <-whole;standAt a.pos;holding [v] (truthy v))):
 PT X a (λ σ H Q=>ta σ H λ x H'=>∃ k,GA X.K x H' k/\Q k H'):=by
 intro pins s σ H Q I h;exact isTrue_plain (cq (ha _ s σ H _ I h) λ v s1 hy0=>by obtain ⟨x,H1,I1,r1,q1⟩:=hy0;exact Jh _ s1 σ H1 x v Q I1 r1 q1) (he _)
theorem xr:fX X (binaryOp .Add) (λ x y H Q=>∃ i j,x=.str i/\y=.str j/\i.length+j.length<=sizeLine/\Q (.str (i++j)) H):=by
 intro pins s σ H x y v u Q I rx ry h;obtain ⟨i,j,rfl,rfl,hz,q⟩:=h;obtain ⟨t,rfl⟩:=rx;obtain ⟨t',rfl⟩:=ry;exact add_str (λ t' tk=>⟨.str _,H,I.tok _,⟨_,rfl⟩,q⟩) hz
theorem kW (r:bf [x] us):∃ u,us=[u]/\bh x u:=by
 cases r with
 | cons r1 r2=>cases r2;simp_all
theorem BC (r:bf [x,y] us):∃ u w',us=[u,w']/\bh x u/\bh y w':=by
 cases r with
 | cons r1 r2=>
  cases r2 with
  | cons r3 r4=>cases r4;grind
theorem AN (hc:X.calm=true):bN X (.builtin "max") (λ xs H Q=>∃ i j,xs=[.int i,.int j]/\Q (.int (if j>i then j else i)) H):=by
 intro pins s σ H xs us Q I r h;obtain ⟨i,j,rfl,q⟩:=h;obtain ⟨u,w',rfl,⟨t,rfl⟩,⟨t',rfl⟩⟩:=BC r;refine max_two_ints (I.ok.hd hc) λ h' tk k=>⟨_,H,I.kept k,?_,q⟩
 by_cases hj:j>i
 . rw [Rt hj,Rt hj];exact ⟨_,rfl⟩
 . rw [RJ hj,RJ hj];exact ⟨_,rfl⟩
theorem zC (hc:X.calm=true):bN X (.builtin "min") (λ xs H Q=>∃ i j,xs=[.int i,.int j]/\Q (.int (if j<i then j else i)) H):=by
 intro pins s σ H xs us Q I r h;obtain ⟨i,j,rfl,q⟩:=h;obtain ⟨u,w',rfl,⟨t,rfl⟩,⟨t',rfl⟩⟩:=BC r;refine min_two_ints (I.ok.hd hc) λ h' tk k=>⟨_,H,I.kept k,?_,q⟩
 by_cases hj:j<i
 . rw [Rt hj,Rt hj];exact ⟨_,rfl⟩
 . rw [RJ hj,RJ hj];exact ⟨_,rfl⟩
end
end L2
namespace L2
open PySem PySem.Spec PyProof.Rows
open PySem.W (Frag)
structure xn (h:Heap) (x dx C:Addr) (mA:Str->Option Value):Prop where
 obj:h.get? x=some (PySem.W.instObj C dx)
 ns:h.Ns1 dx mA
 ne:dx≠x
theorem zP {h:Heap} (n:h.Ns1 dx mA):∃ od,h.get? dx=some od/\∀ name,PySem.W.lookIn name od=some (mA name):=by
 obtain ⟨o,es,ep,ho,hd,hk,_,hm⟩:=n;refine ⟨o,ho,λ name=>?_⟩;have e:=hm name;unfold nsFind findBy at e;rw [<-Array.find?_toList] at e;unfold PySem.W.lookIn;rw [hd];dsimp only;split
 . simp_all
 . rename_i q;rw [q] at e;have a:es.toList.any (·.refKey)=false:=by
    rw [List.any_eq_false];intro y hy;obtain ⟨z,t,hkey⟩:=hk y (Array.mem_toList_iff.mp hy);simp [DictEntry.refKey,hkey]
   simp_all
theorem xn.look (I:xn h x dx C mA):∃ od,PySem.W.InstAt h x (PySem.W.instObj C dx) C (some od)/\∀ name,PySem.W.lookIn name od=some (mA name):=
 let ⟨od,ho,hl⟩:=zP I.ns
 ⟨od,⟨I.obj,rfl,rfl,ho⟩,hl⟩
section
variable {prog:Program} {w:World} {A:Around} {E:Value->Shared->Prop} {s:Shared} {K:Frag} {x dx C f:Addr} {mA:Str->Option Value} {name:Str} {v:Value}
theorem EJ (X:K.In s.heap) (I:xn s.heap x dx C mA) (hg:PySem.W.plainGet K C name=true) (hh:PySem.W.hasDictIn K C=true)
 (ha:PySem.W.findIn K (.ref C) name=some none) (hv:mA name=some v) (hv':PySem.W.handedIn v=true) (h:Q v { s with toks:=s.toks+1 }):
 wpAny (model prog w) A (getAttr (.ref x) name expr) Q E s:=by
 obtain ⟨od,J,hl⟩:=I.look;exact PySem.W.get_value X J (PySem.W.plainGet_of hg).1 (PySem.W.findObj_own hh ha rfl (by rw [hl,hv])) hv' h
theorem BK (X:K.In s.heap) (I:xn s.heap x dx C mA) (hg:PySem.W.plainGet K C name=true)
 (hf:PySem.W.findIn K (.ref C) name=some (some (.ref f))) (ht:PySem.W.isFn K (.ref f)=true) (hv:mA name=none) (h:Q (.ref f,[.ref x]) s):
 wpAny (model prog w) A (getMethod (.ref x) name pl) Q E s:=by
 obtain ⟨od,J,hl⟩:=I.look;exact PySem.W.method_fn X J (PySem.W.plainGet_of hg).1 (PySem.W.plainGet_of hg).2 hf (UN.mp ht) (by show (PySem.W.lookIn _ od).map _=some _;simp_all) h
theorem Hb (X:K.In s.heap) (I:xn s.heap x dx C mA)
 (hs:PySem.W.findIn K (.ref C) "__setattr__" = some (some (.builtin "object.__setattr__"))) (hp:PySem.W.plainOver K C=true) (ht:PySem.W.takerIn K C name=some none) (hh:PySem.W.hasDictIn K C=true)
 (hw:PySem.Within mA ns) (hsz:ns.length<=sizeLine)
 (h:∀ h',xn h' x dx C (λ y=>if y=name then some v else mA y)->Heap.SameBut dx s.heap h'->Q () { s with heap:=h',toks:=s.toks+2 }):
 wpAny (model prog w) A (setAttr (.ref x) name v) Q E s:=by
 obtain ⟨od,J,hl⟩:=I.look;refine PySem.W.set_plain X J hs (PySem.W.osa_open   X J hp ht λ b=>?_);obtain ⟨cd,hc,hd'⟩:=PySem.W.any_some hh;have hx  := I.obj;refine Rq (Ru (Rq (Rq (wpAny_loadPart hx (Rq (PySem.W.Looks.here  (PySem.W.looks_clsIn X hc) ?_))))));rw [hd'];refine Ru  (Rq (Ru (Rq ?_)));refine wpAny_nsSet1  I.ns λ h' hn2 hs2=>?_;obtain ⟨oD,esD,epD,hoD,hdD,hcD⟩:=hn2.count (PySem.Within.cons _ v hw);refine Rq (wpAny_lookBehind hoD (by rw [hdD];exact pastItsLine_dict (Sb hcD (by simp_all))) ?_);exact Ru (h _ ⟨(hs2.2 _ (SN I.ne)).trans I.obj,hn2,I.ne⟩ hs2)
theorem CG (X:K.In s.heap) (hm:PySem.W.makesIn K C=true)
 (hi:PySem.W.findIn K (.ref C) "__init__" = some (some (.ref f))) (hf:PySem.W.typeIn K (.ref f)=some (.type "function"))
 (h:codeAny (model prog w) (A.under (.builtin "type.__call__" ⟨.ref C::vs,kw⟩)) (.call (.ref f) ⟨.ref (s.heap.objs.size+1)::vs,kw⟩) (PySem.W.InitBack (s.heap.objs.size+1) R)
  { s with heap:=(s.heap.push PySem.W.emptyDict).push (PySem.W.instObj C s.heap.objs.size) }):
 codeAny (model prog w) A (.call (.ref C) ⟨vs,kw⟩) R s:=by
 exact PySem.W.make_core (PySem.W.makes_of X hm) (PySem.W.looks_findIn X hi) (λ self=>PySem.W.bind_fn X _ hf) (.inl rfl) h
end
noncomputable def putF (f:Str) (v:V):List (Str×V)->List (Str×V)
 | []=>[(f,v)]
 | (g,x)::r=>if g=f then (g,v)::r else (g,x)::putF f v r
theorem nN (f g:Str) (v:V):∀ fs:List (Str×V),(putF f v fs).lookup g=if g=f then some v else fs.lookup g
 | []=>by
  show List.lookup g [(f,v)]=_
  grind
 | (k,x)::r=>by
  have ih:=nN f g v r;rw [show putF f v ((k,x)::r)=if k=f then (k,v)::r else (k,x)::putF f v r from rfl]
  grind
theorem mo (f:Str) (v:V):∀ fs:List (Str×V),f∈(putF f v fs).map (·.1)/\∀ g,g∈fs.map (·.1)->g∈(putF f v fs).map (·.1)
 | []=>⟨by simp [putF],λ g h=>by simp at h⟩
 | (k,x)::r=>by
  obtain ⟨i1,i2⟩:=mo f v r;rw [show putF f v ((k,x)::r)=if k=f then (k,v)::r else (k,x)::putF f v r from rfl]
  grind
theorem nU (f:Str) (v:V):∀ fs:List (Str×V),(putF f v fs).length<=fs.length+1
 | []=>by simp [putF]
 | (k,x)::r=>by
  have ih:=nU f v r;rw [show putF f v ((k,x)::r)=if k=f then (k,v)::r else (k,x)::putF f v r from rfl]
  grind
theorem j4.some_of (r:j4 (some v) o):∃ u,o=some u/\bh v u:=by
 cases o with
 | none=>exact (show False from r).elim
 | some u=>exact ⟨u,rfl,r⟩
theorem j4.none_of (r:j4 none o):o=none:=by
 cases o with
 | none=>rfl
 | some u=>exact (show False from r).elim
theorem A3 (r:bh v u):PySem.W.handedIn u=true:=by
 cases v with
 | non=>cases show u=Value.none from r;rfl
 | bl b=>cases show u=Value.bool b from r;rfl
 | int i=>obtain ⟨t,e⟩:=show ∃ t,u=Value.int i t from r;cases e;rfl
 | str x=>obtain ⟨t,e⟩:=show ∃ t,u=Value.str x t from r;cases e;rfl
 | byt b=>obtain ⟨t,e⟩:=show ∃ t,u=Value.bytes b t from r;cases e;rfl
 | flt b=>obtain ⟨t,e⟩:=show ∃ t,u=Value.float b t from r;cases e;rfl
 | ref a=>cases show u=Value.ref a from r;rfl
 | ty n=>cases show u=Value.type n from r;rfl
section
variable {P:Program} {w:World} {H H':Hp} {h h':Heap} {a C dx:Addr} {fs fs':List (Str×V)}
theorem tJ (hok:jN P w H h) (e:H a=some (.ins C dx fs)):∃ mA,xn h a dx C mA/\(∀ f,j4 (fs.lookup f) (mA f))/\PySem.Within mA (fs.map (·.1))/\fs.length<=1000/\H dx=some (.own a):=by
 obtain ⟨d,z,ne,ob,mA,n,r,q⟩:=show bY P w H h a _ from hok a _ e
 exact ⟨mA,⟨ob,n,ne⟩,r,q,z,d⟩
end
structure Ap (K:Frag) (C:Addr):Prop where
 pg:PySem.W.plainGet K C Str.empty=true
 hd:PySem.W.hasDictIn K C=true
 po:PySem.W.plainOver K C=true
 sa:PySem.W.findIn K (.ref C) "__setattr__" = some (some (.builtin "object.__setattr__"))
theorem Ap.get {K:Frag} (c:Ap K C) (f:Str):PySem.W.plainGet K C f=true:=c.pg
noncomputable def NoAttr (K:Frag) (C:Addr) (f:Str):Prop:=PySem.W.findIn K (.ref C) f=some none
theorem NoAttr.taker {K:Frag} (n:NoAttr K C f):PySem.W.takerIn K C f=some none:=by
 unfold PySem.W.takerIn;rw [show PySem.W.findIn K _ f=some _ from n];rfl
structure oj (K:Frag) (C:Addr) (m:Str) (f:Addr):Prop where
 at_:PySem.W.findIn K (.ref C) m=some (some (.ref f))
 fn:PySem.W.isFn K (.ref f)=true
 kp:PySem.W.keepIn K (.ref f)=true
section
variable {X:Cx} {pins:List (Addr×Obj)} {σ:St} {H:Hp} {s:Shared} {a C dx:Addr} {fs:List (Str×V)} {f:Str} {v:V} {A:Around} {E:Value->Shared->Prop}
theorem xh (I:aM X pins σ H s) (e:H a=some (.ins C dx fs)) (c:Ap X.K C) (n:NoAttr X.K C f) (l:fs.lookup f=some v)
 (h:∀ u s',aM X pins σ H s'->bh v u->Q u s'):wpAny (model X.prog X.w) A (getAttr (.ref a) f b) Q E s:=by
 obtain ⟨mA,O,r,_,_,_⟩:=tJ I.hok e;obtain ⟨u,hu,ru⟩:=j4.some_of   (by rw [<-l];exact r f);exact EJ I.kIn O (c.get f) c.hd n hu (A3 ru) (h u _ (I.tok _) ru)
theorem q4 (I:aM X pins σ H s) (e:H a=some (.ins C dx fs)) (c:Ap X.K C) (k:oj X.K C m g) (l:fs.lookup m=none)
 (h:Q (.ref g,[.ref a]) s):wpAny (model X.prog X.w) A (getMethod (.ref a) m pl) Q E s:=by
 obtain ⟨mA,O,r,_,_,_⟩:=tJ I.hok e;have hn  := j4.none_of (by rw [<-l];exact r m);exact BK I.kIn O (c.get m) k.at_ k.fn hn h
theorem xT (I:aM X pins σ H s) (e:H a=some (.ins C dx fs)) (c:Ap X.K C) (n:NoAttr X.K C f) (hl:fs.length<1000) (ry:bh y u)
 (h:∀ s',aM X pins σ (cH H a (.ins C dx (putF f y fs))) s'->Q () s'):wpAny (model X.prog X.w) A (setAttr (.ref a) f u) Q E s:=by
 obtain ⟨mA,O,r,wi,_,ho⟩:=tJ I.hok e;have hz:(fs.map (·.1)).length<=sizeLine:=by rw [R8,T6];omega
 refine Hb I.kIn O c.sa c.po n.taker c.hd wi hz λ h' O' sb=>h _ ?_;have hd:∃ o,h'.get? dx=some o:=by obtain ⟨o,_,_,e',_⟩:=O'.ns;simp_all
 refine I.write   (by rw [e];exact True.intro) (.inr ho) (λ b q hb z=>(sb.2 b hb).trans z) hd ?_;refine ⟨by rw [aF O.ne];exact ho,?_,O.ne,O'.obj,_,O'.ns,λ g=>?_,λ g hg=>?_⟩
 . have:=nU f y fs;omega
 . rw [nN];by_cases q:g=f
   . rw [Rt q,Rt q];exact ry
   simp_all
 . by_cases q:g=f
   . rw [q];exact (mo f y fs).1
   . refine (mo f y fs).2 g (wi g λ z=>hg ?_);show (if g=f then some u else mA g)=none;rw [RJ q];exact z
theorem aM.made (I:aM X pins σ H s):aM X pins σ (cH (cH H s.heap.objs.size (.own (s.heap.objs.size+1))) (s.heap.objs.size+1) (.ins C s.heap.objs.size []))
 { s with heap:=(s.heap.push PySem.W.emptyDict).push (PySem.W.instObj C s.heap.objs.size) }:=by
 have e1:(s.heap.push _).get? _=some PySem.W.emptyDict:=RF _ rfl;have e2  := by
  have:=RF (s.heap.push PySem.W.emptyDict) (o:=PySem.W.instObj C s.heap.objs.size) rfl
  rwa [Uf] at this
 have e3:(s.heap.push _).Ns _ _:=⟨PySem.W.emptyDict,#[],_,e1,rfl,λ e he=>absurd he (by simp),λ _=>rfl⟩
 have I1:=I.laid  (o:=.own (s.heap.objs.size+1))  (t':=s.toks) (λ b u q=>Rv _ q) (Ry _) ⟨_,e1⟩;refine I1.laid    (λ b u q=>Rv _ q) (Nat.le_of_eq (Uf _ _)) ?_;have ne:s.heap.objs.size≠s.heap.objs.size+1:=RL (SG _);refine ⟨by rw [aF ne,aG],Tf _,ne,e2,λ _=>none,(Heap.Ns1.of_empty e3).at λ o q=>Rv _ q,λ _=>True.intro,λ y hy=>absurd rfl hy⟩
theorem Fc (hb:attributeBase e f env (eval e env)=eval e env)
 (h:wpAny (model prog w) A (eval e env) (λ o s₁=>wpAny (model prog w) A (getAttr o f true) Q E s₁) E s):wpAny (model prog w) A (eval (.Attribute e f pos) env) Q E s:=
 Attribute_any_ h (by rw [arm_eval_Attribute,hb])
end
noncomputable def JR (K:Frag) (ta:TE) (f:Str):TE:=λ σ H Q=>ta σ H λ x H1=>∃ a C dx fs v,x=.ref a/\H1 a=some (.ins C dx fs)/\Ap K C/\NoAttr K C f/\fs.lookup f=some v/\Q v H1
noncomputable def Mp (K:Frag) (ta tv:TE) (f:Str):TS:=λ D σ H=>tv σ H λ y H1=>ta σ H1 λ x H2=>∃ a C dx fs,x=.ref a/\H2 a=some (.ins C dx fs)/\Ap K C/\NoAttr K C f/\fs.length<1000/\
 D.nx σ (cH H2 a (.ins C dx (putF f y fs)))
section
variable {X:Cx} {o e value:Expr} {f:Str} {pos pos' tpos:Pos} {ta tv:TE}
theorem IM (he:PE X e ta) (hb:attributeBase e f X.env (eval e X.env)=eval e X.env):PE X (.Attribute e f pos) (JR X.K ta f):=by
 intro pins s σ H Q I h;refine Fc hb (cq (he _ s σ H _ I h) λ u s1 hq0=>?_);obtain ⟨x,H1,I1,rx,a,C,dx,fs,v,ex,ea,c,n,l,q⟩:=hq0;subst ex;obtain rfl:u=Value.ref a:=rx;exact xh I1 ea c n l λ u' s2 I2 ru=>⟨v,H1,I2,ru,q⟩
theorem Pu (ha:PE X o ta) (hv:PE X value tv) (hs:swapsWith value (some (.Attribute o f pos')) pos.line X.env=pure false):PS X (.Assign [.Attribute o f pos'] value pos) (Mp X.K ta tv f):=by
 intro pins s σ H D I h;refine plainObj_wpAny_Assign_Attribute (cq (hv _ s σ H _ I h) λ u s1 hy0=>?_) hs;obtain ⟨y,H1,I1,ry,q⟩:=hy0;refine cq (ha _ s1 σ H1 _ I1 q) λ ov s2 hq0=>?_;obtain ⟨x,H2,I2,rx,a,C,dx,fs,ex,ea,c,n,l,q2⟩:=hq0;subst ex;obtain rfl:ov=Value.ref a:=rx;exact xT I2 ea c n l ry λ s3 I3=>⟨σ,_,I3,q2⟩
end
section
variable {X:Cx} {pins:List (Addr×Obj)} {σ:St} {H:Hp} {s:Shared} {A:Around} {E:Value->Shared->Prop} {Q:Value->Shared->Prop} {c:Value} {b:Bool}
end
end L2
namespace L2
open PySem PySem.Spec PyProof.Rows
open PySem.W (Frag)
structure dq (k:Nat) (A:Around):Prop where
 hd:A.handled=none
 dp:A.depth+3*k+5<recursionLimit
 un:A.units+16*k+200<cLine
 gd:A.guards=some []
theorem dq.mono (r:dq k A) (h:j<=k):dq j A:=⟨r.hd,by have:=r.dp;omega,by have:=r.un;omega,r.gd⟩
theorem dq.deeper (r:dq (k+1) A) (env:Env):dq k (A.deeper env):=
 ⟨r.hd,by have:=r.dp;show A.depth+1+3*k+5<_;omega,by have:=r.un;show A.units+3+16*k+200<_;omega,r.gd⟩
theorem wD {A:Around}:(A.under (.builtin "type.__call__" ⟨.ref C::us,kw⟩)).depth=A.depth+1:=by
 rfl
theorem xR {A:Around}:(A.under (.builtin "type.__call__" ⟨.ref C::us,kw⟩)).units=A.units+1:=by
 rfl
theorem vo {A:Around}:(A.under (.builtin "type.__call__" ⟨.ref C::us,kw⟩)).guards=A.guards:=by
 rfl
theorem dq.make (r:dq (k+1) A) (C:Addr) (us:List Value) (kw:List (Str×Value)):dq k (A.under (.builtin "type.__call__" ⟨.ref C::us,kw⟩)):=
 ⟨r.hd,by have:=r.dp;rw [wD];omega,by have:=r.un;rw [xR];omega,vo.trans r.gd⟩
theorem dq.depth (r:dq k A):A.depth<recursionLimit:=by have:=r.dp;omega
theorem dq.units (r:dq k A):A.units+64<cLine:=by have:=r.un;omega
noncomputable def gN:TA:=λ _ H Q=>Q [] H
noncomputable def dj (ta:TE) (tr:TA):TA:=λ σ H Q=>ta σ H λ x H1=>tr σ H1 λ xs H2=>Q (x::xs) H2
section
variable {X:Cx} {e:Expr} {es:List Expr} {te:TE} {t:TA} {pos:Pos}
theorem P8:PA X [] gN:=λ _ _ _ _ H Q I h=>Calls.spliced_nil ⟨[],H,I,.nil,h⟩
theorem NM (ha:PE X e te) (hr:PA X es t) (hs:starEach (e::es) X.env=(false,eval e X.env)::starEach es X.env):PA X (e::es) (dj te t):=by
 intro pos pins s σ H Q I h;rw [hs];refine Calls.spliced_cons (cq (ha _ s σ H _ I h) λ u s1 hq0=>?_);obtain ⟨x,H1,I1,r1,q1⟩:=hq0;exact cq (hr _ _ s1 σ H1 _ I1 q1) λ us s2 hy0=>by obtain ⟨xs,H2,I2,r2,q2⟩:=hy0;exact ⟨x::xs,H2,I2,.cons r1 r2,q2⟩
end
noncomputable abbrev Sp:=List V->Hp->VK->XK->Prop
noncomputable abbrev GR:=List Env->Hp->Shared->XK->Value->Shared->Prop
structure xB (P:Program) (w:World) (K:Frag) (mg:Str->Option Value) (base:Heap) (A:Around) (outer:List Env) (s:Shared) (H:Hp):Prop where
 frames:A.frames=some outer
 mod:Mod K mg base
 bs:∀ b o,base.get? b=some o->s.heap.get? b=some o/\H b=none
 bsz:base.objs.size<=s.heap.objs.size
 funs:s.heap.FunFrames base outer
 frf:∀ b∈BX outer,H b=none
 hok:jN P w H s.heap
 bare:AllBare s.gens
noncomputable def CE (outer:List Env) (P:Program) (w:World) (H:Hp) (s:Shared) (Q:VK) (u:Value) (s':Shared):Prop:=
 ∃ v H',s'.os=s.os/\AllBare s'.gens/\Un (BX outer) [] H H' s.heap s'.heap/\jN P w H' s'.heap/\bh v u/\Q v H'
noncomputable def CR (CX:GR) (outer:List Env) (P:Program) (w:World) (H:Hp) (s:Shared) (Q:VK) (E:XK) (r:Result) (s':Shared):Prop:=
 match r with
 | .ok (.ret u)=>CE outer P w H s Q u s'
 | .ok _=>False
 | .error e=>CX outer H s E e s'
structure eP (P:Program) (w:World) (K:Frag) (mg:Str->Option Value) (base:Heap) (CX:GR) (k:Nat) (f:Addr) (fd:FuncData) (ps:List Str) (sp:Sp):Prop where
 len:∀ vs H Q E,sp vs H Q E->vs.length=ps.length
 run:∀ (A:Around) (outer:List Env) (s:Shared) (H:Hp) (args:Args) (us:List Value) (vs:List V) (Q:VK) (E:XK),dq k A->xB P w K mg base A outer s H->BindsTo s fd args (ps.zip us)->bf vs us->sp vs H Q E->
  codeAny (model P w) A (.call (.ref f) args) (CR CX outer P w H s Q E) s
theorem eP.mono {K:Frag} (F:eP P w K mg base CX j f fd ps sp) (h:j<=k):
 eP P w K mg base CX k f fd ps sp:=⟨F.len,λ A outer s H args us vs Q E hr=>F.run A _ s H _ us vs Q E (hr.mono h)⟩
theorem eP.imp {K:Frag} (F:eP P w K mg base CX k f fd ps sp)
 (h:∀ vs H Q E,sp' vs H Q E->sp vs H Q E):eP P w K mg base CX k f fd ps sp':=
 ⟨λ vs H Q E q=>F.len vs H Q E (h _ _ _ _ q),λ A outer s H args us vs Q E hr he hb hv hs=>F.run A _ s H _ us vs Q E hr he hb hv (h _ _ _ _ hs)⟩
theorem xB.make {K:Frag} (e:xB P w K mg base A outer s H) (C:Addr) (us:List Value) (kw:List (Str×Value)):
 xB P w K mg base (A.under (.builtin "type.__call__" ⟨.ref C::us,kw⟩)) outer s H:=⟨by first | rfl | (simpa [Around.under,Code.envs,Code.isFrame,pushEnvs] using e.frames),e.mod,e.bs,e.bsz,e.funs,e.frf,e.hok,e.bare⟩
section
variable {X:Cx} {pins:List (Addr×Obj)} {σ:St} {H:Hp} {s s':Shared}
theorem aM.env0 (I:aM X pins σ H s):xB X.prog X.w X.K X.mg X.base X.A X.stack s H:=
 ⟨I.ok.frames,I.ok.mod,I.bs,Sb I.ok.bsz I.sz,I.stack,I.stkFree,I.hok,I.bare⟩
theorem aM.after (I:aM X pins σ H s) (h:CE X.stack X.prog X.w H s Q u s'):EP X pins σ Q u s':=by
 obtain ⟨v,H',os,bare,un,hok,r,q⟩:=h;obtain ⟨hh,g,d,t,os'⟩:=s';obtain rfl:os'=s.os:=os;exact ⟨v,H',I.call      un hok bare λ b z=>absurd z (by simp),r,q⟩
end
noncomputable def q0 (sp:Sp) (dvs:List V) (E:XK) (t:TA):TE:=λ σ H Q=>t σ H λ vs H1=>sp (vs++dvs) H1 Q E
noncomputable def Dg (C:Addr) (m:Str) (sp:Sp) (dvs:List V) (E:XK) (ta:TE) (t:TA):TE:=λ σ H Q=>ta σ H λ x H1=>∃ a dx fs,x=.ref a/\H1 a=some (.ins C dx fs)/\fs.lookup m=none/\
 t σ H1 λ vs H2=>sp (x::(vs++dvs)) H2 Q E
noncomputable def Hz (C:Addr) (sp:Sp) (dvs:List V) (E:XK) (t:TA):TE:=λ σ H Q=>t σ H λ vs H1=>∀ x dx,H1 x=none->H1 dx=none->dx≠x->
 sp (.ref x::(vs++dvs)) (cH (cH H1 dx (.own x)) x (.ins C dx [])) (λ v H2=>v=.non/\Q (.ref x) H2) E
noncomputable def cP (K:Frag) (fd:FuncData) (ps:List Str) (ds:List Value):Prop:=
 ∀ (s:Shared) (us:List Value),K.In s.heap->(us++ds).length=ps.length->BindsTo s fd ⟨us,[]⟩ (ps.zip (us++ds))
theorem cP.all {K:Frag} (h:∀ us:List Value,us.length=ps.length->bindArgs fd ⟨us,[]⟩=pure (ps.zip us)):cP K fd ps []:=λ s us _ hl=>by
 rw [Sa] at hl ⊢;exact .of_eq (h us hl)
noncomputable def jI (CX:GR) (X:Cx) (E:XK):Prop:=∀ (pins:List (Addr×Obj)) (σ:St) (H:Hp) (s:Shared) (e:Value) (s':Shared),aM X pins σ H s->CX X.stack H s E e s'->X.xe e s'
section
variable {X:Cx} {CX:GR} {k:Nat} {f C:Addr} {fd:FuncData} {ps:List Str} {sp:Sp} {dvs:List V} {ds:List Value} {E:XK} {x m:Str} {p pos apos:Pos} {e o:Expr} {es:List Expr} {ta:TE} {t:TA}
theorem xt {σ:St} (F:eP X.prog X.w X.K X.mg X.base CX k f fd ps sp) (hr:dq k X.A) (hb:cP X.K fd ps ds) (hd:bf dvs ds) (hx:jI CX X E)
 (I:aM X pins σ H s) (r:bf vs us) (h:sp (vs++dvs) H Q E):wpAny (model X.prog X.w) X.A (call (.ref f) us) (EP X pins σ Q) X.xe s:=by
 have r2  := r.append hd;have hl:(us++ds).length=ps.length:=by rw [<-r2.length];exact F.len _ _ _ _ h
 refine wpAny_call (Ui (F.run _ _ s H _ _ _ Q E hr I.env0 (hb s us I.kIn hl) r2 h) λ r s' hq=>?_);cases r with
 | error e=>exact hx _ σ H s e s' I hq
 | ok fl=>
  cases fl with
  | ret u=>exact I.after hq
  | next=>exact False.elim hq
  | brk=>exact False.elim hq
  | cont=>exact False.elim hq
theorem yu (F:eP X.prog X.w X.K X.mg X.base CX k f fd ps sp) (hr:dq k X.A) (hg:Gl X x) (hm:X.mg x=some (.ref f)) (hk:PySem.W.keepIn X.K (.ref f)=true) (hb:cP X.K fd ps ds) (hd:bf dvs ds) (hx:jI CX X E)
 (ha:PA X (e::es) t) (hdb:(x==("__debug__" : Str))=false:=by decide) (he:starEach (e::es) X.env=(false,eval e X.env)::starEach es X.env:=by rfl) (hpl:(backTo pos (starEach es X.env)).any (·.1)=false:=by rfl):
 PE X (.Call (.Name x p) (e::es) [] pos) (q0 sp dvs E t):=by
 intro pins s σ H Q I h;refine Uv (tQ I hg hm ?_ hdb);refine PySem.W.callWith_K  I.ok.mod.kin hk (cq (ha _ _ s σ H _ I h) λ us s1 hy0=>?_) he hpl;obtain ⟨vs,H1,I1,r,q⟩:=hy0;refine ⟨I1.kIn,?_⟩;exact xt F hr hb hd hx I1 r q
theorem EL {pl:Sem Bool} (he:PE X o ta) (c:Ap X.K C) (hm:oj X.K C m f) (F:eP X.prog X.w X.K X.mg X.base CX k f fd ps sp) (hr:dq k X.A) (hb:cP X.K fd ps ds) (hd:bf dvs ds) (hx:jI CX X E) (ha:PA X (e::es) t)
 (hst:starEach (e::es) X.env=(false,eval e X.env)::starEach es X.env:=by rfl) (hpl:(backTo pos (starEach es X.env)).any (·.1)=false:=by rfl)
 (ht:eval (.Call (.Attribute o m apos) (e::es) [] pos) X.env=(do
  let ov <-eval o X.env
  standAt apos.atName
  let (f,first) <-holding [ov] (getMethod ov m pl)
  callWith pos f first (backTo pos (starEach (e::es) X.env)) (backToKw pos (keywordEach [] X.env))):=by rfl):
 PE X (.Call (.Attribute o m apos) (e::es) [] pos) (Dg C m sp dvs E ta t):=by
 intro pins s σ H Q I h;refine PySem.W.methodCall_KW  (cq (he _ s σ H _ I h) λ u s1 hq0=>?_) ht;obtain ⟨x,H1,I1,rx,a,dx,fs,ex,ea,l,q⟩:=hq0;subst ex;obtain rfl:u=Value.ref a:=rx;refine q4 I1 ea c hm l ?_;refine PySem.W.callWith_K   I.ok.mod.kin hm.kp (cq (ha _ _ s1 σ H1 _ I1 q) λ us s2 hy0=>?_) hst hpl;obtain ⟨vs,H2,I2,r,q2⟩:=hy0;refine ⟨I2.kIn,?_⟩;exact xt  (vs:=.ref a::vs) F hr hb hd hx I2 (.cons rfl r) q2
theorem Cr (he:PE X o ta) (c:Ap X.K C) (hm:oj X.K C m f) (F:eP X.prog X.w X.K X.mg X.base CX k f fd ps sp) (hr:dq k X.A) (hb:cP X.K fd ps ds) (hd:bf dvs ds) (hx:jI CX X E)
 (ht:eval (.Call (.Attribute o m apos) [] [] pos) X.env=(do
  let ov <-eval o X.env
  standAt apos.atName
  let (f,first) <-holding [ov] (getMethod ov m pl)
  callWith pos f first (backTo pos (starEach [] X.env)) (backToKw pos (keywordEach [] X.env))):=by rfl):
 PE X (.Call (.Attribute o m apos) [] [] pos) (Dg C m sp dvs E ta gN):=by
 intro pins s σ H Q I h;refine PySem.W.methodCall_KW  (cq (he _ s σ H _ I h) λ u s1 hq0=>?_) ht;obtain ⟨x,H1,I1,rx,a,dx,fs,ex,ea,l,q⟩:=hq0;subst ex;obtain rfl:u=Value.ref a:=rx;refine q4 I1 ea c hm l ?_;exact PySem.W.callWith_K0  I1.kIn hm.kp (xt  (vs:=[.ref a]) F hr hb hd hx I1 (.cons rfl .nil) q)
structure Mk (K:Frag) (C f:Addr):Prop where
 makes:PySem.W.makesIn K C=true
 init:PySem.W.findIn K (.ref C) "__init__" = some (some (.ref f))
 fn:PySem.W.isFn K (.ref f)=true
 kp:PySem.W.keepIn K (.ref C)=true
theorem Ee {σ:St} (M:Mk X.K C f) (F:eP X.prog X.w X.K X.mg X.base CX k f fd ps sp) (hr:dq (k+1) X.A) (hb:cP X.K fd ps ds) (hd:bf dvs ds)
 (hx:jI CX X E) (I:aM X pins σ H s) (r:bf vs us)
 (h:∀ x dx,H x=none->H dx=none->dx≠x->sp (.ref x::(vs++dvs)) (cH (cH H dx (.own x)) x (.ins C dx [])) (λ v H2=>v=.non/\Q (.ref x) H2) E):
 wpAny (model X.prog X.w) X.A (call (.ref C) us) (EP X pins σ Q) X.xe s:=by
 have hq:=h _ _ (I.hok.fresh (Nat.le_succ _)) (I.hok.fresh (Ry _)) (RL (SG _));have I2:=aM.made (C:=C) I;have r2:bf (V.ref (s.heap.objs.size+1)::(vs++dvs)) _:=.cons rfl (r.append hd);have hl  := by
  have e:=r2.length;rw [F.len _ _ _ _ hq] at e;exact e.symm
 refine wpAny_call (CG  I.kIn M.makes M.init (UN.mp M.fn) (Ui (F.run _ _ _ _ _ _ _ _ E (hr.make C us [])
  (I2.env0.make C us []) (hb _ _ I2.kIn hl) r2 hq) λ r s' hq'=>?_))
 cases r with
 | error e=>exact hx _ σ _ _ e s' I2 hq'
 | ok fl=>
  cases fl with
  | ret u=>
   obtain ⟨v,H',I3,rv,ev,q3⟩:=I2.after hq';subst ev;exact ⟨rv,⟨V.ref _,H',I3,rfl,q3⟩⟩
  | next=>exact False.elim hq'
  | brk=>exact False.elim hq'
  | cont=>exact False.elim hq'
theorem Ew (M:Mk X.K C f) (F:eP X.prog X.w X.K X.mg X.base CX k f fd ps sp) (hr:dq (k+1) X.A) (hg:Gl X x) (hm:X.mg x=some (.ref C)) (hb:cP X.K fd ps ds) (hd:bf dvs ds) (hx:jI CX X E)
 (hdb:(x==("__debug__" : Str))=false:=by decide):PE X (.Call (.Name x p) [] [] pos) (Hz C sp dvs E gN):=by
 intro pins s σ H Q I h;refine Uv (tQ I hg hm ?_ hdb);exact PySem.W.callWith_K0 I.kIn M.kp (Ee  M F hr hb hd hx I .nil h)
end
section
variable {X:Cx} {CX:GR} {k:Nat} {f C:Addr} {fd:FuncData} {ps ks:List Str} {sp:Sp} {E:XK} {x m:Str} {p pos apos kpos:Pos} {e o:Expr} {es:List Expr} {kws:List Keyword} {te ta:TE} {t tk:TA} {nm:Option Str}
variable {g:List Value->List Value->List Value} {gV:List V->List V->List V}
end
structure gB (N P:List Str) (sc:Scope):Prop where
 kind:sc.kind=.function
 co:sc.isCoroutine=false
 gen:sc.isGenerator=false
 nd:N.Nodup
 pre:N.take P.length=P
 par:∀ x∈P,sc.names.lookup x=some .local∨sc.names.lookup x=some .cell
 nofree:∀ y∈sc.names,y.2≠.free
theorem sN {kindOf:Str->Option NameKind}:∀ {binds:List (Str×Value)} {m:Str->Option Value},(∀ v,(x,v)∉binds)->bindL kindOf binds m x=m x
 | [],_,_=>rfl
 | (n,v)::r,m,h=>by
  unfold bindL;rw [sN λ w hw=>h w (R6 _ hw)];split
  . grind
  . rfl
theorem sK {kindOf:Str->Option NameKind}:∀ {binds:List (Str×Value)} {m:Str->Option Value},(∀ v,(x,v)∉binds)->bindC kindOf binds m x=m x
 | [],_,_=>rfl
 | (n,v)::r,m,h=>by
  unfold bindC;rw [sK λ w hw=>h w (R6 _ hw)];split
  . rfl
  grind
theorem se {kindOf:Str->Option NameKind}:∀ {P:List Str} {vs:List Value} {i:Nat} {m:Str->Option Value},P.Nodup->P[i]?=some x->vs[i]?=some v->kindOf x=some .local->
 bindL kindOf (P.zip vs) m x=some v
 | [],_,_,_,_,h,_,_=>by simp at h
 | _::_,[],_,_,_,_,h,_=>by simp at h
 | p::P,w::vs,0,m,nd,h1,h2,hk=>by
  simp at h1 h2;subst h1;subst h2;show bindL _ ((p,w)::P.zip vs) m p=_;unfold bindL;rw [sN λ v hv=>(Tg.mp nd).1 (List.of_mem_zip hv).1,Rt hk];simp
 | p::P,w::vs,i+1,m,nd,h1,h2,hk=>by
  unfold bindL;exact se  (Tg.mp nd).2 (by simpa using h1) (by grind) hk
theorem rC {kindOf:Str->Option NameKind}:∀ {P:List Str} {vs:List Value} {i:Nat} {m:Str->Option Value},P.Nodup->P[i]?=some x->vs[i]?=some v->kindOf x≠some .local->
 bindC kindOf (P.zip vs) m x=some v
 | [],_,_,_,_,h,_,_=>by simp at h
 | _::_,[],_,_,_,_,h,_=>by simp at h
 | p::P,w::vs,0,m,nd,h1,h2,hk=>by
  simp at h1 h2;subst h1;subst h2;show bindC _ ((p,w)::P.zip vs) m p=_;unfold bindC;rw [sK λ v hv=>(Tg.mp nd).1 (List.of_mem_zip hv).1,RJ hk];simp
 | p::P,w::vs,i+1,m,nd,h1,h2,hk=>by
  unfold bindC;exact rC  (Tg.mp nd).2 (by simpa using h1) (by grind) hk
noncomputable def start (N:List Str) (vs:List V):St:=vs.map some++List.replicate (N.length-vs.length) none
noncomputable def xH (CX:GR) (P:Program) (w:World) (K:Frag) (mg:Str->Option Value) (base:Heap) (N:List Str) (qual:Str) (scope:Scope) (f:Addr) (cd:Value) (A:Around) (outer:List Env) (s:Shared) (H:Hp) (E:XK):Cx where
 prog:=P
 w:=w
 K:=K
 mg:=mg
 base:=base
 A:=A.deeper (envOfC qual scope s.heap.objs.size f cd)
 N:=N
 s₀:=s
 H₀:=H
 env:=envOfC qual scope s.heap.objs.size f cd
 outer:=outer
 stack:=envOfC qual scope s.heap.objs.size f cd::outer
 ex:=[]
 calm:=true
 fn:=λ _=>true
 pn:=[]
 xe:=λ e s'=>wpAny (model P w) (A.deeper (envOfC qual scope s.heap.objs.size f cd)) (leaving (envOfC qual scope s.heap.objs.size f cd) e) (λ _ s''=>CX outer H s E e s'') (λ e' s''=>CX outer H s E e' s'') s'
theorem wd {sc:Scope} (h:sc.names.lookup x=some .cell):∃ c,(cellsFrom n sc.names []).lookup x=some c:=by
 have q:=PySem.W.cellsFrom_some _ n [] (.inl h);exact TW.mp q
theorem Ab {K:Frag}
 (S:gB N ps scope) (hd:A.handled=none) (e0:xB P w K mg base A outer s H) (hl:vs.length=ps.length) (r:bf vs us)
 (x:InCallC s s.heap.objs.size (bindL (envOfC qual scope s.heap.objs.size f cd).kindOf (ps.zip us) λ _=>none) (cellsFrom (s.heap.objs.size+1) scope.names []) (bindC (envOfC qual scope s.heap.objs.size f cd).kindOf (ps.zip us) λ _=>none) s1):
 aM (xH CX P w K mg base N qual scope f cd A outer s H E) [] (start N vs) H s1:=by
 have hpl  := by have:=RO List.length S.pre;rw [List.length_take] at this;omega
 obtain ⟨h1,tk,rfl,hk⟩:=x.done;have noA:∀ b , b∉(xH CX P w K mg base N qual scope f cd A outer s H E).ex:=λ b z=>absurd (show b∈[] from z) (by simp);refine ⟨⟨e0.mod,S.kind,rfl,rfl,Ry _,λ y z c h1 h2=>?_,λ y hy=>?_,λ y c _ h=>?_,λ _=>hd,Around.frames_deeper e0.frames,.inr ⟨rfl,rfl⟩,λ b z=>absurd z (noA b),e0.bs,e0.bsz,λ b _ _=>noA b,λ b z=>absurd z (noA b),e0.funs,e0.frf⟩,
  rfl,e0.bare,Un.kept hk,⟨_,x.toInCall.ns,λ i y v h1 h2 h3=>?_⟩,λ y c h=>⟨_,x.cell y c h⟩,e0.hok.fresh (Ry _),λ y c h=>?_,λ p hp=>absurd (show p∈[] from hp) (by simp),e0.hok.kept hk,?_⟩
 . exact name_of_addr x.apart (Tz h1) (Tz h2)
 . rcases hy with hy | hy
   . exact wd hy
   . exact absurd rfl (S.nofree _ (Tz hy))
 . exact Tb (x.above y c (Tz h))
 . have hi:i<vs.length:=by
    unfold start at h2;by_cases hi:i<vs.length
    . exact hi
    . rw [R0 (by simpa using hi)] at h2;rw [T1] at h2;split at h2 <;> cases h2
   have ha:vs[i]?=some v:=by
    unfold start at h2;rw [RR (by simpa using hi),Su] at h2;cases e:vs[i]? with
    | none=>rw [e] at h2;cases h2
    | some a=>rw [e] at h2;cases h2;rfl
   obtain ⟨u,hu,rv⟩:=r.get ha;have hp:ps[i]?=some y:=by
    rw [<-S.pre,SU (by omega)];exact h1
   have ndP:ps.Nodup:=by rw [<-S.pre];exact S.nd.sublist (UC _ _)
   refine ⟨u,rv,?_⟩;rcases S.par y (Sq hp) with k | k
   . exact .inl ⟨k,se ndP hp hu k⟩
   . obtain ⟨c,e⟩:=wd (n:=s.heap.objs.size+1) k;refine .inr ⟨.inl k,c,e,?_⟩;have q:=x.cell y c e;rw [rC ndP hp hu (by show scope.names.lookup y≠_;rw [k];decide)] at q;exact q
 . exact e0.hok.fresh (Tb (x.above y c (Tz h)))
 . unfold start;show _=N.length;rw [RN,R8,List.length_replicate];omega
theorem MD {K:Frag} {dV kV doc pm cdv ct oc:Value}
 (lk:K.lookup f=some ⟨oc,od,.func (PySem.W.fnOf name qual params body scope dV kV doc pm an cdv ct),osl⟩) (hcd:PySem.W.codeIn K cdv qual=true) (S:gB N ps scope)
 (len:∀ vs H Q E,sp vs H Q E->vs.length=ps.length)
 (hbody:∀ (A:Around) (outer:List Env) (s:Shared) (H:Hp) (vs:List V) (Q:VK) (E:XK),dq k (A.deeper (envOfC qual scope s.heap.objs.size f cdv))->sp vs H Q E->
  ∃ t,w5 (xH CX P w K mg base N qual scope f cdv A outer s H E) body t/\t { nx:=λ _ H'=>Q .non H',rt:=Q } (start N vs) H):
 eP P w K mg base CX (k+1) f (PySem.W.fnOf name qual params body scope dV kV doc pm an cdv ct) ps sp:=by
 refine ⟨len,λ A outer s H args us vs Q E hr e0 hb r hsp=>?_⟩;have hl:=len _ _ _ _ hsp;have KX  := e0.mod.kin.keeps λ b o e=>(e0.bs b o e).1;have lim  := e0.mod.nolimit.keeps λ b o e=>(e0.bs b o e).1;have hkind:∀ y∈ps.zip us,scope.names.lookup y.1=some _∨scope.names.lookup y.1=some _/\((cellsFrom (s.heap.objs.size+1) _ []).lookup y.1).isSome=true:=λ ⟨n,v⟩ hy=>by
  rcases S.par n (List.of_mem_zip hy).1 with q | q
  . exact .inl q
  . exact .inr ⟨q,PySem.W.cellsFrom_some _ _ _ (.inl q)⟩
 refine codeAny_call_function hr.depth (KX _ _ lk) rfl S.co S.gen rfl (PySem.W.codeRec_of KX hcd) (hb _ _ _ _ ?_);refine wpAny_newFunctionEnv_cells S.kind hkind λ env he s1 x=>?_;subst he;refine ⟨lim.keeps x.toInCall.keep,codeAny_func ?_⟩;obtain ⟨t,ht,hq⟩:=hbody A outer s H vs Q E (hr.deeper _) hsp;have I:aM (xH CX P w K mg base N qual scope f cdv A outer s H E) [] (start N vs) H s1:=Ab S hr.hd e0 hl r x;refine Sx (ht [] s1 (start N vs) H _ I hq) (λ fl s' hs=>?_) λ e s' hs=>hs;have fin:∀ {σ':St} {H':Hp} {v:V} {u:Value},aM (xH CX P w K mg base N qual scope f cdv A outer s H E) [] σ' H' s'->bh v u->Q v H'->CE outer P w H s Q u s':=
  λ {σ' H' v u} J rv q=>⟨v,H',J.os,J.bare,J.base,J.hok,rv,q⟩
 cases fl with
 | ret u=>
  obtain ⟨v,σ',H',J,rv,q⟩:=hs;exact fin J rv q
 | next=>
  obtain ⟨σ',H',J,q⟩:=hs;exact fin (v:=V.non) (u:=Value.none) J rfl q
 | brk=>
  obtain ⟨_,_,_,q⟩:=hs;exact False.elim q
 | cont=>
  obtain ⟨_,_,_,q⟩:=hs;exact False.elim q
end L2
namespace L2
open PySem PySem.Spec PyProof.Rows
open PySem.W (Frag)
section
variable {X:Cx} {x:Str} {p pos:Pos} {e:Expr} {es:List Expr} {t:TA} {id T:String} {r:List V->Hp->VK->Prop}
noncomputable def tN (r:List V->Hp->VK->Prop) (t:TA):TE:=λ σ H Q=>t σ H λ vs H1=>r vs H1 Q
theorem Cg (hc:bN X (.builtin id) r) (hg:Gl X x) (hm:X.mg x=none) (hv:bootBuiltins x=some (.builtin id)) (ha:PA X (e::es) t) (hn:x ≠ "__name__" := by decide) (hdb:(x==("__debug__" : Str))=false:=by decide)
 (he:starEach (e::es) X.env=(false,eval e X.env)::starEach es X.env:=by rfl) (hpl:(backTo pos (starEach es X.env)).any (·.1)=false:=by rfl):PE X (.Call (.Name x p) (e::es) [] pos) (tN r t):=by
 intro pins s σ H Q I h;refine Uv (mI I hg hm hv ?_ hn hdb);exact PyProof.Rows.callWith_builtin1 (cq (ha _ _ s σ H _ I h) λ us s1 hy0=>by obtain ⟨vs,H1,I1,r1,q1⟩:=hy0;exact hc _ s1 σ H1 vs us Q I1 r1 q1) he hpl
theorem mR (hc:bN X (.type T) r) (hg:Gl X x) (hm:X.mg x=none) (hv:bootBuiltins x=some (.type T)) (ha:PA X (e::es) t) (hn:x ≠ "__name__" := by decide) (hdb:(x==("__debug__" : Str))=false:=by decide)
 (he:starEach (e::es) X.env=(false,eval e X.env)::starEach es X.env:=by rfl) (hpl:(backTo pos (starEach es X.env)).any (·.1)=false:=by rfl):PE X (.Call (.Name x p) (e::es) [] pos) (tN r t):=by
 intro pins s σ H Q I h;refine Uv (mI I hg hm hv ?_ hn hdb);exact Uc (cq (ha _ _ s σ H _ I h) λ us s1 hy0=>by obtain ⟨vs,H1,I1,r1,q1⟩:=hy0;exact hc _ s1 σ H1 vs us Q I1 r1 q1) he hpl
end
end L2
namespace HT
open PySem PyProof.Rows
section
open PySem.SeqAt
open PySem.AutoSeq1 (wpAny_loadPart')
open PySem.MeetsSeq PySem.MeetsSeq2 PySem.MeetsSeq3
end
section
variable {prog:Program} {w:World} {A:Around} {E:Value->Shared->Prop} {s:Shared}
theorem cat_tup (ht:IsTup s.heap t vs.toArray) (hb:IsTup s.heap b ws.toArray) (hv:vs≠[])
 (h1:ws=[]->Q (.ref t) s) (h2:ws≠[]->Q (.ref s.heap.objs.size) { s with heap:=s.heap.push { cls:=.type "tuple", data:=.seq (vs++ws).toArray } })
 (hsz:vs.length+ws.length<=sizeLine):wpAny (model prog w) A (binaryOp .Add (.ref t) (.ref b)) Q E s:=by
 obtain ⟨⟨cls,dd,data,sl⟩,ho,hc,n,hd⟩:=id ht;obtain ⟨⟨cls2,dd2,data2,sl2⟩,ho2,hc2,n2,hd2⟩:=id hb;subst hc hd hc2 hd2;have e:vs.toArray++ws.toArray=(vs++ws).toArray:=by simp
 by_cases hw:ws=[]
 . exact concat_meets ⟨_,ho,rfl⟩ ⟨_,ho2,rfl⟩ noFill_tuple_add seq_tuple_add PySem.F.slot_tuple_add PySem.F.entry_tuple_add (PySem.F.args_tuple_add_2 _ _)
    (tuple_addW1 t b _ _ n n2 dd _ sl _ (by grind) (by simp [hw])) ⟨ho,ho2,h1 hw⟩
 . refine concat_meets ⟨_,ho,rfl⟩ ⟨_,ho2,rfl⟩ noFill_tuple_add seq_tuple_add PySem.F.slot_tuple_add PySem.F.entry_tuple_add (PySem.F.args_tuple_add_2 _ _)
    (tuple_addW2 t b _ _ n n2 dd _ sl _ (by grind) (by grind) (by omega)) ⟨ho,ho2,?_⟩
   simp_all
noncomputable def sIx (n d:Nat):Option Int->Nat
 | none=>d
 | some v=>if v<0 then (v+(n:Int)).toNat else min v.toNat n
theorem sIx_none (n d:Nat):sIx n d none=d:=rfl
theorem sIx_nat (n d k:Nat):sIx n d (some (k:Int))=min k n:=by
 rfl
theorem yQ (v:Int) (n d:Nat):(if v<0 then max (v+(n:Int)) 0 else min v (n:Int))=((sIx n d (some v):Nat):Int):=by
 show (if v<0 then max _ 0 else min v _)=if v<0 then (v+n).toNat else min _ n
 grind
theorem xS (lo hi:Option Int) (n:Nat):Builtin.Slice.sliceAdjust lo hi 1 (n:Int)=(((sIx n 0 lo:Nat):Int),((sIx n n hi:Nat):Int)):=by
 have h1  := by omega
 unfold Builtin.Slice.sliceAdjust;refine Prod.ext ?_ ?_
 . cases lo with
   | none=>rfl
   | some v=>exact yQ v n 0
 . cases hi with
   | none=>rfl
   | some v=>exact yQ v n n
theorem xW (i j:Nat):Builtin.Slice.slicePlaces (i:Int) (j:Int) 1=j-i:=by
 unfold Builtin.Slice.slicePlaces
 grind
theorem qI (p:IsPart v o) (h:Q o s):wpAny (model prog w) A (Builtin.Slice.slicePartIndex v) Q E s:=by
 cases p with
 | none=>exact slicePart_none h
 | int i t=>exact slicePart_int h
theorem sliceApplied_gen {lo hi:Option Int} {n:Nat} (hs:s.heap.IsSliceOf sl vl vu .none) (pl:IsPart vl lo) (pu:IsPart vu hi)
 (h:Q (((sIx n 0 lo:Nat):Int),1,sIx n n hi-sIx n 0 lo) s):wpAny (model prog w) A (Builtin.Slice.sliceApplied (.ref sl) (pure (n:Int))) Q E s:=by
 obtain ⟨os,hos,hcs,hds⟩:=id hs;refine wpAny_bind (wpAny_bind (wpAny_field hos hds  rfl (wpAny_bind (wpAny_field hos hds  rfl (wpAny_bind (wpAny_field hos hds  rfl (wpAny_pure ?_)))))));refine wpAny_bind (slicePart_none ?_);refine wpAny_bind (qI pl (wpAny_bind (qI pu (wpAny_bind (wpAny_pure ?_)))));show wpAny _ _ (match Builtin.Slice.sliceAdjust lo hi 1 _ with | (lo,hi)=>pure (lo,(1:Int),Builtin.Slice.slicePlaces lo hi 1)) _ _ s;rw [xS lo hi n];show wpAny _ _ (pure _) _ _ s;rw [xW];exact wpAny_pure h
theorem Eh (xs:Array Value) (i k:Nat):((List.range k).filterMap λ (m:Nat)=>xs[((i:Int)+(m:Int)*1).toNat]?).toArray=((xs.toList.drop i).take k).toArray:=by
 have e:(λ (m:Nat)=>xs[(i+(m:Int)*1).toNat]?)=λ m=>xs[i+m]?:=by
  grind
 rw [e];have:=pick_run xs i k;rw [List.filterMap_map] at this;have e2:((λ x=>xs[x]?) ∘ λ x=>i+x)=λ m=>xs[i+m]?:=rfl
 simp_all
theorem getItem_tuple_cut {lo hi:Option Int} (ht:IsTup s.heap t items) (hs:s.heap.IsSliceOf sl vl vu .none) (pl:IsPart vl lo) (pu:IsPart vu hi)
 (hw:¬ (sIx items.size 0 lo=0/\sIx items.size items.size hi=items.size))
 (h:Q (.ref s.heap.objs.size) { s with heap:=s.heap.push { cls:=.type "tuple", data:=.seq ((items.toList.drop (sIx items.size 0 lo)).take (sIx items.size items.size hi-sIx items.size 0 lo)).toArray } })
 (hsz:items.size<=sizeLine):wpAny (model prog w) A (getItem (.ref t) (.ref sl)) Q E s:=by
 have htake  := by
  show ((items.toList.drop (sIx items.size 0 lo)).take (sIx items.size items.size hi-sIx items.size 0 lo)).toArray.size<=sizeLine
  grind
 obtain ⟨os,hos,hcs,hds⟩:=id hs;have hTs:s.TypeIs (.ref sl) _:=⟨os,hos,hcs⟩
 unfold getItem;try with_reducible refine wpAny_holding ?_
 refine wpAny_bind (wpAny_sequenceKey ht.typeIs (by decide) ?_);refine wpAny_bind (wpAny_callSpecial?_slot  ht.typeIs PyProof.Rows.slot_tuple_getitem
  (wpAny_call_entry PyProof.Rows.slot_tuple_getitem ht.typeIs entry_tuple_getitem ?_ (args_tuple_getitem _ _)))
 show wpAny _ _ (Builtin.Tuple.tupleItemsOf (.ref t) >>= _) _ _ s;refine wpAny_bind (tupleItemsOf_ ht ?_);refine wpAny_bind (wpAny_typeOf hTs ?_);refine wpAny_bind (sliceApplied_gen hs pl pu ?_);have hno:¬ ((((sIx items.size 0 lo:Nat):Int)==0&&(1:Int)==1&&(sIx items.size items.size hi-sIx items.size 0 lo)==items.size)=true):=by
  intro q;rw [Bool.and_eq_true,Bool.and_eq_true] at q;have q1:((sIx items.size 0 lo:Nat):Int)=0:=eq_of_beq q.1.1;have q2:sIx items.size items.size hi-sIx items.size 0 lo=items.size:=eq_of_beq q.2;exact hw ⟨by omega,by omega⟩
 show wpAny _ _ (if (((sIx items.size 0 lo:Nat):Int)==0&&(1:Int)==1&&(sIx items.size items.size hi-sIx items.size 0 lo)==items.size)=true then _ else _) _ _ s;rw [if_neg hno,Eh];first
  | exact wpAny_bind (m:=Builtin.Tuple.tupleExact _) (wpAny_newObj_type (wpAny_pure ⟨_,rfl,wpAny_pure h⟩) htake)
  | exact wpAny_bind (m:=Builtin.Tuple.tupleExact _) (wpAny_newObj_type (wpAny_bind (wpAny_pure (wpAny_pure ⟨_,rfl,wpAny_pure h⟩))) htake)
  | exact wpAny_bind (wpAny_bind (m:=Builtin.Tuple.tupleExact _) (wpAny_newObj_type (wpAny_pure (wpAny_pure ⟨_,rfl,wpAny_pure h⟩)) htake))
  | exact wpAny_bind (wpAny_bind (m:=Builtin.Tuple.tupleExact _) (wpAny_newObj_type (wpAny_pure ⟨_,rfl,wpAny_pure h⟩) htake))
end
end HT
namespace L2
open PySem PySem.Spec PyProof.Rows
open PySem.W (Frag)
noncomputable abbrev TO:=St->Hp->(Option Int->Hp->Prop)->Prop
noncomputable def PO (X:Cx) (e:Option Expr) (t:TO):Prop:=
 ∀ (pins:List (Addr×Obj)) (s:Shared) (σ:St) (H:Hp) (Q:Option Int->Hp->Prop),aM X pins σ H s->t σ H Q->
  wpAny (model X.prog X.w) X.A (evalPart e X.env) (λ u s'=>∃ o H',aM X pins σ H' s'/\IsPart u o/\Q o H') X.xe s
noncomputable def yJ:TO:=λ _ H Q=>Q none H
noncomputable def Hm (t:TE):TO:=λ σ H Q=>t σ H λ x H1=>∃ i,x=.int i/\Q (some i) H1
section
variable {X:Cx} {e:Expr} {te:TE} {lo hi:Option Expr} {tl th:TO} {pos p2:Pos}
theorem NK:PO X none yJ:=by
 intro pins s σ H Q I h;exact Ru ⟨none,H,I,.none,h⟩
theorem NL (h:PE X e te):PO X (some e) (Hm te):=by
 intro pins s σ H Q I hw;refine cq (h _ s σ H _ I hw) λ u s1 hq0=>?_;obtain ⟨x,H1,I1,r1,q1⟩:=hq0;obtain ⟨i,rfl,q⟩:=q1;obtain ⟨t,rfl⟩:=r1;exact ⟨some i,H1,I1,.int i t,q⟩
noncomputable def Fd (X:Cx) (r:V->Option Int->Option Int->Hp->VK->Prop):Prop:=
 ∀ (pins:List (Addr×Obj)) (s:Shared) (σ:St) (H:Hp) (x:V) (v vl vu:Value) (lo hi:Option Int) (sl:Addr) (Q:VK),aM X pins σ H s->bh x v->s.heap.IsSliceOf sl vl vu .none->IsPart vl lo->IsPart vu hi->r x lo hi H Q->
  ∃ T id,typeLookup (.type T) "__getitem__" = pure (some (.builtin id))/\s.TypeIs v T/\wpAny (model X.prog X.w) X.A (getItem v (.ref sl)) (EP X pins σ Q) X.xe s
noncomputable def NE (r:V->Option Int->Option Int->Hp->VK->Prop) (te:TE) (tl th:TO):TE:=λ σ H Q=>te σ H λ x H1=>tl σ H1 λ l H2=>th σ H2 λ u H3=>r x l u H3 Q
theorem MV (hr:Fd X r) (he:PE X e te) (hl:PO X lo tl) (hu:PO X hi th):PE X (.Subscript e (.Slice lo hi none p2) pos) (NE r te tl th):=by
 intro pins s σ H Q I h;refine Subscript_ (cq (he _ s σ H _ I h) λ v s1 hq0=>?_);obtain ⟨x,H1,I1,r1,q1⟩:=hq0;refine wpAny_Slice (cq (hl _ s1 σ H1 _ I1 q1) λ vl s2 hy0=>?_);obtain ⟨l,H2,I2,pl,q2⟩:=hy0;refine cq (hu _ s2 σ H2 _ I2 q2) λ vu s3 hq0=>?_;obtain ⟨u,H3,I3,pu,q3⟩:=hq0;refine Ru ?_;have I4:aM X _ σ H3 { s3 with heap:=s3.heap.push { cls:=.type "slice", data:=.fields #[vl,vu,.none] } }:=I3.kept  λ b ob q=>Rv _ q;obtain ⟨T,id,hT,ht,hg⟩:=hr _ _ σ H3 x v vl vu l u _ Q I4 r1 (Heap.IsSliceOf.new ..) pl pu q3;exact tail_any  ht hT hg (by rfl)
noncomputable def vR (xs:List V) (lo hi:Option Int):List V:=(xs.drop (HT.sIx xs.length 0 lo)).take (HT.sIx xs.length xs.length hi-HT.sIx xs.length 0 lo)
theorem nS (xs:List V) (lo hi:Option Int):(vR xs lo hi).length<=xs.length:=by
 unfold vR
 grind
noncomputable def Nn (K:Frag):V->Option Int->Option Int->Hp->VK->Prop:=λ x lo hi H Q=>∃ a xs,x=.ref a/\eZ K H a xs/\
 ¬ (HT.sIx xs.length 0 lo=0/\HT.sIx xs.length xs.length hi=xs.length)/\∀ p,H p=none->Q (.ref p) (cH H p (.tup (vR xs lo hi)))
theorem IP:Fd X (Nn X.K):=by
 intro pins s σ H x v vl vu lo hi sl Q I rx hs pl pu h;obtain ⟨a,xs,rfl,hx,hw,q⟩:=h;cases rx;obtain ⟨its,r,ht,hz⟩:=I.tuple hx;have hlen:its.toArray.size=xs.length:=by exact r.length.symm
 refine ⟨"tuple", _,Ti.lookup,ht.typeIs,?_⟩;refine HT.getItem_tuple_cut ht hs pl pu (by simp_all) ?_ (by omega);rw [hlen];refine ⟨.ref s.heap.objs.size,_,I.laid   (λ b ob q=>Rv _ q) (Ry _) ?_,rfl,q _ (I.hok.fresh (Ry _))⟩;exact ⟨Sb (nS xs lo hi) hz,_,(r.drop (HT.sIx xs.length 0 lo)).take _,IsTup.new _ _⟩
noncomputable def Hh (K:Frag):R2:=λ x y H Q=>∃ a b xs ys,x=.ref a/\y=.ref b/\eZ K H a xs/\eZ K H b ys/\xs≠[]/\xs.length+ys.length<=sizeLine/\
 (ys=[]->Q (.ref a) H)/\(ys≠[]->∀ p,H p=none->Q (.ref p) (cH H p (.tup (xs++ys))))
theorem bf.nil_iff (r:bf xs us):us=[]↔xs=[]:=by
 cases r with
 | nil=>simp
 | cons _ _=>simp
theorem EQ:fX X (binaryOp .Add) (Hh X.K):=by
 intro pins s σ H x y v u Q I rx ry h;obtain ⟨a,b,xs,ys,rfl,rfl,ha,hb,hx,hz,q1,q2⟩:=h;cases rx;cases ry;obtain ⟨its,r1,p1,_⟩:=I.tuple ha;obtain ⟨its2,r2,p2,_⟩:=I.tuple hb;refine HT.cat_tup p1 p2 (λ z=>hx (r1.nil_iff.mp z)) (λ z=>⟨.ref a,H,I,rfl,q1 (r2.nil_iff.mp z)⟩) (λ z=>?_) (by rw [<-r1.length,<-r2.length];exact hz);refine ⟨.ref _,_,I.laid   (λ b ob q=>Rv _ q) (Ry _) ?_,rfl,q2 (λ w=>z (r2.nil_iff.mpr w)) _ (I.hok.fresh (Ry _))⟩;exact ⟨by simp_all,_,r1.append r2,IsTup.new _ _⟩
end
end L2
namespace L2
open PySem PySem.Spec PyProof.Rows
open PySem.W (Frag)
noncomputable def Fu (n:Nat) (i:Int):Option Nat:=if 0<=i then (if i<n then some i.toNat else none) else if -(n:Int)<=i then some (i+n).toNat else none
noncomputable def jS {α:Type} (xs:List α) (i:Int):Option α:=(Fu xs.length i).bind λ j=>xs[j]?
theorem EO (h:Fu n i=some j):seqIndex? i n=some j/\j<n /\ -(n:Int)<=i/\i<n:=by
 unfold Fu at h;by_cases h0:0<=i
 . rw [Rt h0] at h;by_cases h1:i<n
   . rw [Rt h1] at h;have e  := SV h;exact ⟨by rw [seqIndex_of h0 h1,e],by omega,by omega,h1⟩
   simp_all
 . rw [RJ h0] at h;by_cases h1 : -n<=i
   . rw [Rt h1] at h;have e  := SV h;exact ⟨by rw [seqIndex_neg (by omega) h1,e],by omega,h1,by omega⟩
   simp_all
theorem oP (h:jS xs i=some v):∃ j,seqIndex? i xs.length=some j/\xs[j]?=some v/\j<xs.length /\ -(xs.length:Int)<=i/\i<xs.length:=by
 unfold jS at h;cases e:Fu _ i with
 | none=>rw [e] at h;cases h
 | some j=>
  rw [e] at h;obtain ⟨h1,h2,h3,h4⟩:=EO e
  simp_all
noncomputable def GF (b:Expr):Prop:=∀ o i,subscripted b false o i=operate [o,i] (getItem o i)
noncomputable def Dt (X:Cx) (r:R2):Prop:=
 ∀ (value slice:Expr) (pins:List (Addr×Obj)) (s:Shared) (σ:St) (H:Hp) (x y:V) (v u:Value) (Q:VK),aM X pins σ H s->bh x v->bh y u->r x y H Q->
  subscripted slice false v u=operate [v,u] (getItem v u)->wpAny (model X.prog X.w) X.A (subscriptTail value slice v u) (EP X pins σ Q) X.xe s
noncomputable def Ng (X:Cx) (id:String) (r:V->List V->Hp->VK->Prop):Prop:=
 ∀ (pins:List (Addr×Obj)) (s:Shared) (σ:St) (H:Hp) (x:V) (xs:List V) (v:Value) (us:List Value) (Q:VK),aM X pins σ H s->bh x v->bf xs us->r x xs H Q->
  wpAny (model X.prog X.w) X.A (call (.builtin id) (v::us)) (EP X pins σ Q) X.xe s
section
variable {X:Cx} {a b:Expr} {ta tb:TE} {pos:Pos}
theorem Dt.or (h:Dt X r) (h':Dt X r'):Dt X (λ x y H Q=>r x y H Q∨r' x y H Q):=by
 intro value slice pins s σ H x y v u Q I rx ry q hs;rcases q with q | q
 . exact h _ _ _ s σ H x y v u Q I rx ry q hs
 . exact h' _ _ _ s σ H x y v u Q I rx ry q hs
theorem Qs (hr:Dt X r) (ha:PE X a ta) (hb:PE X b tb) (hs:GF b):PE X (.Subscript a b pos) (w4 r ta tb):=by
 intro pins s σ H Q I h;exact Subscript_ (JE ha hb I h λ v u s2 x y H2 I2 rx ry q=>hr a b _ s2 σ H2 x y v u Q I2 rx ry q (hs _ _))
noncomputable def Nj (K:Frag):R2:=λ x y H Q=>∃ p xs i v,x=.ref p/\y=.int i/\cG K H p xs/\jS xs i=some v/\Q v H
noncomputable def Lx (K:Frag):R2:=λ x y H Q=>∃ p xs i v,x=.ref p/\y=.int i/\eZ K H p xs/\jS xs i=some v/\Q v H
noncomputable def LM:R2:=λ x y H Q=>∃ z i c,x=.str z/\y=.int i/\z.length<=sizeLine/\jS z.cps.toList i=some c/\Q (.str ⟨#[c]⟩) H
theorem Gi:Dt X (Nj X.K):=by
 intro value slice pins s σ H x y v u Q I rx ry h hs;obtain ⟨p,xs,i,z,rfl,rfl,hq,he,q⟩:=h;cases rx;obtain ⟨t,rfl⟩:=ry;obtain ⟨its,r,pl,hz⟩:=I.list hq;obtain ⟨j,h1,h2,h3,h4,h5⟩:=oP he;obtain ⟨w,ew,rw'⟩:=r.get h2;have hl:=r.length;have hn:=pR;have fin:EP X _ σ Q w s:=⟨z,H,I,rw',q⟩
 by_cases h0:0<=i
 . have hj  := by
    rw [seqIndex_of h0 h5] at h1;exact SV h1
   exact item_listR pl.isList h0 (by omega) (by simp_all) fin hs
 . have hj:(i+its.toArray.size).toNat=j:=by
    rw [seqIndex_neg (by omega) h4] at h1
    simp_all
   exact subscriptTail_builtinR  pl.isList.typeIs slot_list_getitem.lookup
    (wpAny_getItem_list_neg  pl.isList (by omega) (by simp_all) (by omega) (by simp_all) ⟨rfl,fin⟩) hs
theorem IE:Dt X (Lx X.K):=by
 intro value slice pins s σ H x y v u Q I rx ry h hs;obtain ⟨p,xs,i,z,rfl,rfl,hq,he,q⟩:=h;cases rx;obtain ⟨t,rfl⟩:=ry;obtain ⟨its,r,pl,hz⟩:=I.tuple hq;obtain ⟨j,h1,h2,h3,h4,h5⟩:=oP he;obtain ⟨w,ew,rw'⟩:=r.get h2;have hl:=r.length;have hn:=pR;have fin:EP X _ σ Q w s:=⟨z,H,I,rw',q⟩
 exact subscriptTail_builtinR  pl.typeIs slot_tuple_getitem.lookup
  (getItem_tuple   pl (by omega) (by omega) (by rw [So,<-hl];exact h1) (by grind) ⟨rfl,fin⟩) hs
theorem Jl:Dt X LM:=by
 intro value slice pins s σ H x y v u Q I rx ry h hs;obtain ⟨z,i,c,rfl,rfl,hz,he,q⟩:=h;obtain ⟨t,rfl⟩:=rx;obtain ⟨t',rfl⟩:=ry;obtain ⟨j,h1,h2,h3,h4,h5⟩:=oP he;have hl:z.cps.toList.length=z.length:=by rfl
 rw [hl] at h1 h4 h5;have hn:=pR;exact tail_any (typeIs_str s z t) slot_str_getitem.lookup (getItem_str  (by
  grind) (by simp_all) ⟨.str ⟨#[c]⟩,H,I.tok _,⟨_,rfl⟩,q⟩) hs
noncomputable def OV (K:Frag):R2:=λ x y H Q=>Nj K x y H Q∨Lx K x y H Q∨LM x y H Q
theorem KO:Dt X (OV X.K):=Gi.or (IE.or Jl)
theorem uu (lo hi:Option Int) (n:Nat):(sliceBounds lo hi none n).1=((HT.sIx n 0 lo:Nat):Int)/\(sliceBounds lo hi none n).2.1=((HT.sIx n n hi:Nat):Int)/\(sliceBounds lo hi none n).2.2=1:=by
 refine ⟨?_,?_,rfl⟩
 . cases lo with
   | none=>rfl
   | some i=>
    simp only [sliceBounds,HT.sIx,   UD]
    grind
 . cases hi with
   | none=>rfl
   | some i=>
    simp only [sliceBounds,HT.sIx,   UD]
    grind
theorem qT (its:List Value) (lo hi:Option Int):slicePick its.toArray lo hi none=((its.drop (HT.sIx its.length 0 lo)).take (HT.sIx its.length its.length hi-HT.sIx its.length 0 lo)).toArray:=by
 obtain ⟨h1,h2,h3⟩:=uu lo hi _;unfold slicePick;rw [h1,h2,h3];simp only [sliceRange_one,pick_run,So] <;> rfl
noncomputable def LP (K:Frag):V->Option Int->Option Int->Hp->VK->Prop:=λ x lo hi H Q=>∃ a xs,x=.ref a/\cG K H a xs/\∀ p,H p=none->Q (.ref p) (cH H p (.lst (vR xs lo hi)))
theorem ED:Fd X (LP X.K):=by
 intro pins s σ H x v vl vu lo hi sl Q I rx hs pl pu h;obtain ⟨a,xs,rfl,hx,q⟩:=h;cases rx;obtain ⟨its,r,ht,hz⟩:=I.list hx;have hlen:=r.length;refine ⟨"list", _,slot_list_getitem.lookup,ht.isList.typeIs,?_⟩;refine wpAny_getItem_list_slice ht.isList hs pl pu .none (by simp) ?_ (by simp_all);rw [qT,<-hlen];refine ⟨.ref s.heap.objs.size,_,I.laid   (λ b ob q=>Rv _ q) (Ry _) ?_,rfl,q _ (I.hok.fresh (Ry _))⟩;exact ⟨Sb (nS xs lo hi) hz,_,0,(r.drop _).take _,RF _ rfl⟩
noncomputable def gz:V->Bool
 | .non=>true
 | .bl _=>true
 | .int _=>true
 | .str _=>true
 | _=>false
noncomputable def Fq:V->V->Bool
 | .non,.non=>true
 | .bl a,.bl b=>a==b
 | .bl a,.int b=>(if a then 1 else 0)==b
 | .int a,.bl b=>a==(if b then 1 else 0)
 | .int a,.int b=>a==b
 | .str a,.str b=>a==b
 | _,_=>false
theorem IL (ry:bh y u) (rx:bh x v) (fy:gz y=true) (fx:gz x=true):SeqAt.EqAt A s u v (Fq y x):=by
 cases y with
 | non=>
  cases ry;cases x with
  | non=>cases rx;exact SeqAt.EqAt.same _
  | bl b=>cases rx;exact SeqAt.EqAt.none_bool b
  | int b=>obtain ⟨t,rfl⟩:=rx;exact SeqAt.EqAt.none_int b t
  | str b=>obtain ⟨t,rfl⟩:=rx;exact SeqAt.EqAt.none_str b t
  | _=>exact absurd (show false=true from fx) RP
 | bl a=>
  cases ry;cases x with
  | non=>cases rx;exact SeqAt.EqAt.bool_none a
  | bl b=>cases rx;exact SeqAt.EqAt.bool_bool a b
  | int b=>obtain ⟨t,rfl⟩:=rx;exact SeqAt.EqAt.bool_int a b t
  | str b=>obtain ⟨t,rfl⟩:=rx;exact SeqAt.EqAt.bool_str a b t
  | _=>exact absurd (show false=true from fx) RP
 | int a=>
  obtain ⟨t',rfl⟩:=ry;cases x with
  | non=>cases rx;exact SeqAt.EqAt.int_none a t'
  | bl b=>cases rx;exact SeqAt.EqAt.int_bool a t' b
  | int b=>obtain ⟨t,rfl⟩:=rx;exact SeqAt.EqAt.int_int a t' b t
  | str b=>obtain ⟨t,rfl⟩:=rx;exact SeqAt.EqAt.int_str a t' b t
  | _=>exact absurd (show false=true from fx) RP
 | str a=>
  obtain ⟨t',rfl⟩:=ry;cases x with
  | non=>cases rx;exact SeqAt.EqAt.str_none a t'
  | bl b=>cases rx;exact SeqAt.EqAt.str_bool a t' b
  | int b=>obtain ⟨t,rfl⟩:=rx;exact SeqAt.EqAt.str_int a t' b t
  | str b=>obtain ⟨t,rfl⟩:=rx;exact SeqAt.EqAt.str_str a t' b t
  | _=>exact absurd (show false=true from fx) RP
 | _=>exact absurd (show false=true from fy) RP
noncomputable def Es (x:V) (u:Value):Bool:=match u with
 | .none=>Fq .non x
 | .bool b=>Fq (.bl b) x
 | .int i _=>Fq (.int i) x
 | .str z _=>Fq (.str z) x
 | _=>false
theorem Bs (r:bh y u) (f:gz y=true):Es x u=Fq y x:=by
 cases y with
 | non=>cases r;rfl
 | bl b=>cases r;rfl
 | int i=>obtain ⟨t,rfl⟩:=r;rfl
 | str z=>obtain ⟨t,rfl⟩:=r;rfl
 | _=>exact absurd (show false=true from f) RP
theorem oO (h:bf xs us):xs.all gz=true->us.any (Es x)=xs.any λ y=>Fq y x:=by
 induction h with
 | nil=>simp_all
 | cons r _ ih=>
  intro f;rw [List.all_cons,RY] at f;rw [Uo,Uo,Bs r f.1,ih f.2]
theorem kU (rx:bh x v) (fx:gz x=true):∀ {xs:List V} {us:List Value},bf xs us->xs.all gz=true->∀ u∈us,SeqAt.EqAt A s u v (Es x u):=λ h f u' hu=>by
 induction h with
 | nil=>cases hu
 | cons r _ ih=>
  rw [List.all_cons,RY] at f;rcases Rx.mp hu with rfl | hu
  . rw [Bs r f.1];exact IL r rx f.1 fx
  simp_all
noncomputable def Jo (x:V) (xs:List V):Bool:=xs.any λ y=>Fq y x
noncomputable def E1 (K:Frag) (neg:Bool):R2:=λ x y H Q=>∃ p xs,y=.ref p/\(cG K H p xs∨eZ K H p xs)/\gz x=true/\xs.all gz=true/\Q (.bl (if neg then !Jo x xs else Jo x xs)) H
theorem zX:fX X (compareOp .In) (E1 X.K false):=by
 intro pins s σ H x y v u Q I rx ry h;obtain ⟨p,xs,rfl,hq,fx,fs,q⟩:=h;cases ry;rcases hq with hq | hq
 . obtain ⟨its,r,pl,hz⟩:=I.list hq;refine SeqAt.in_listAt _ pl.isList (λ w hw=>kU rx fx r fs w (by grind)) ⟨.bl _,H,I,rfl,?_⟩;rw [show its.toArray.any (Es x)=its.any (Es x) by simp,oO r fs];exact q
 . obtain ⟨its,r,pl,hz⟩:=I.tuple hq;refine SeqAt.in_tupleAt _ pl (λ w hw=>kU rx fx r fs w (by grind)) ⟨.bl _,H,I,rfl,?_⟩;rw [show its.toArray.any (Es x)=its.any (Es x) by simp,oO r fs];exact q
theorem uJ:fX X (compareOp .NotIn) (E1 X.K true):=by
 intro pins s σ H x y v u Q I rx ry h;obtain ⟨p,xs,rfl,hq,fx,fs,q⟩:=h;cases ry;rcases hq with hq | hq
 . obtain ⟨its,r,pl,hz⟩:=I.list hq;refine SeqAt.notIn_listAt _ pl.isList (λ w hw=>kU rx fx r fs w (by grind)) ⟨.bl _,H,I,rfl,?_⟩;rw [show its.toArray.any (Es x)=its.any (Es x) by simp,oO r fs];exact q
 . obtain ⟨its,r,pl,hz⟩:=I.tuple hq;refine SeqAt.notIn_tupleAt _ pl (λ w hw=>kU rx fx r fs w (by grind)) ⟨.bl _,H,I,rfl,?_⟩;rw [show its.toArray.any (Es x)=its.any (Es x) by simp,oO r fs];exact q
theorem ux:bN X (.builtin "len") (λ xs H Q=>∃ p ys,xs=[.ref p]/\(cG X.K H p ys∨eZ X.K H p ys)/\Q (.int ys.length) H):=by
 intro pins s σ H xs us Q I r h;obtain ⟨p,ys,rfl,hq,q⟩:=h;obtain ⟨u,rfl,rx⟩:=kW r;cases rx;have hn:=pR;rcases hq with hq | hq
 . obtain ⟨its,r',pl,hz⟩:=I.list hq;have hlen:=r'.length;exact Calls.call_len_list pl.isList (by grind) ⟨.int ys.length,H,I.tok _,⟨s.toks+1,by simp_all⟩,q⟩
 . obtain ⟨its,r',pl,hz⟩:=I.tuple hq;have hlen:=r'.length;exact len_tuple pl (by grind) ⟨.int ys.length,H,I.tok _,⟨s.toks+1,by simp_all⟩,q⟩
theorem ud:bN X (.builtin "len") (λ xs H Q=>∃ z,xs=[.str z]/\z.length<=sizeLine/\Q (.int z.length) H):=by
 intro pins s σ H xs us Q I r h;obtain ⟨z,rfl,hz,q⟩:=h;obtain ⟨u,rfl,t,rfl⟩:=kW r;have hn:=pR;exact len_str (by omega) ⟨.int _,H,I.tok _,⟨_,rfl⟩,q⟩
theorem bN.or (h:bN X f r) (h':bN X f r'):bN X f (λ xs H Q=>r xs H Q∨r' xs H Q):=by
 intro pins s σ H xs us Q I rs q;rcases q with q | q
 . exact h _ s σ H xs us Q I rs q
 . exact h' _ s σ H xs us Q I rs q
theorem tz:bN X (.type "list") (λ xs H Q=>∃ p ys,xs=[.ref p]/\(cG X.K H p ys∨eZ X.K H p ys)/\∀ l,H l=none->Q (.ref l) (cH H l (.lst ys))):=by
 intro pins s σ H xs us Q I r h;obtain ⟨p,ys,rfl,hq,q⟩:=h;obtain ⟨u,rfl,rx⟩:=kW r;cases rx;have fin:∀ its,bf ys its->ys.length<=sizeLine->∀ h' c',(∀ b o',s.heap.get? b=some o'->h'.get? b=some o')->
  h'.get? s.heap.objs.size=some _->EP X _ σ Q _ { s with heap:=h' }:=λ its r' hz h' c' kp e=>
  ⟨.ref _,_,I.laid  kp (Ry _) (show bY _ _ _ h' _ (.lst ys) from ⟨hz,its,c',r',e⟩),rfl,q _ (I.hok.fresh (Ry _))⟩
 rcases hq with hq | hq
 . obtain ⟨its,r',pl,hz⟩:=I.list hq;have hlen:=r'.length;obtain ⟨o,ho,hc,n,hd⟩:=pl.isList;exact call_list_seq p (.inl rfl) ho hc hd (λ h' c' kp e=>fin _ r' hz h' c' kp e) (by simp_all)
 . obtain ⟨its,r',pl,hz⟩:=I.tuple hq;have hlen:=r'.length;obtain ⟨o,ho,hc,n,hd⟩:=pl;exact call_list_seq p (.inr rfl) ho hc hd (λ h' c' kp e=>fin _ r' hz h' c' kp e) (by simp_all)
noncomputable def O8 (K:Frag) (T:String) (x:V) (H:Hp):Prop:=match x with
 | .str _=>T = "str"
 | .int _=>T = "int"
 | .ref p=>(T = "list" /\ ∃ xs,cG K H p xs)∨(T = "tuple" /\ ∃ o,K.lookup p=some o/\o.cls=.type "tuple" /\ o.dict=none)∨
  (T = "dict" /\ ((∃ kvs,H p=some (.dK kvs))∨∃ kvs,H p=some (.dT kvs)))∨(T = "set" /\ ∃ S n,H p=some (.set S n))
 | _=>False
theorem Er {σ:St} (I:aM X pins σ H s) (r:bh x v) (ty:O8 X.K T x H):
 s.TypeIs v T/\∀ a,v=.ref a->∃ ob,s.heap.get? a=some ob/\ob.dict=none:=by
 cases x with
 | str z=>
  obtain ⟨t,rfl⟩:=r;cases show T = "str" from ty
  exact ⟨typeIs_str s z t,λ _ e=>nomatch e⟩
 | int i=>
  obtain ⟨t,rfl⟩:=r;cases show T = "int" from ty
  exact ⟨typeIs_int s i t,λ _ e=>nomatch e⟩
 | ref p=>
  cases r;rcases ty with ⟨rfl,xs,hq⟩ | ⟨rfl,o,hk,hc,hd⟩ | ⟨rfl,hk⟩ | ⟨rfl,S,n,hk⟩
  . obtain ⟨its,_,pl,_⟩:=I.list hq;refine ⟨pl.isList.typeIs,λ a e=>?_⟩;cases e;obtain ⟨o,n,e,c,hd,_⟩:=pl
    simp_all
  . refine ⟨⟨o,I.kIn p o hk,hc⟩,λ a e=>?_⟩;cases e;exact ⟨o,I.kIn _ o hk,hd⟩
  . have z:∃ o,s.heap.get? p=some o/\o.ExactDict:=by
     rcases hk with ⟨kvs,hk⟩ | ⟨kvs,hk⟩
     . obtain ⟨_,_,_,_,o,_,_,e,ex,_⟩:=I.hok p _ hk
       simp_all
     . obtain ⟨_,_,_,_,o,_,_,e,ex,_⟩:=I.hok p _ hk
       simp_all
    obtain ⟨o,e,ex⟩:=z;refine ⟨⟨o,e,ex.1⟩,λ a e2=>?_⟩;cases e2;exact ⟨o,e,ex.2.1⟩
  . obtain ⟨o,_,_,_,e,ex,_⟩:=I.hok p _ hk;refine ⟨⟨o,e,ex.1⟩,λ a e2=>?_⟩;cases e2;exact ⟨o,e,ex.2.1⟩
 | _=>exact False.elim ty
noncomputable def Hc (K:Frag) (T:String) (r:V->List V->Hp->VK->Prop) (to:TE):TE:=λ σ H Q=>to σ H λ x H1=>O8 K T x H1/\r x [] H1 Q
noncomputable def HE (K:Frag) (T:String) (r:V->List V->Hp->VK->Prop) (to:TE) (t:TA):TE:=λ σ H Q=>to σ H λ x H1=>O8 K T x H1/\t σ H1 λ xs H2=>r x xs H2 Q
variable {o e:Expr} {es:List Expr} {to:TE} {t:TA} {name:Str} {apos cpos:Pos} {T id:String} {r:V->List V->Hp->VK->Prop}
theorem IG (pa:PlainAttrs T) (slot:Slot T name id) (hty:typeOf (.builtin id)=pure (.type "method_descriptor")) (hm:Ng X id r) (ho:PE X o to)
 (hbase:attributeBase o name X.env (eval o X.env)=eval o X.env:=by rfl) (hline:(apos.endLine==cpos.line)=true:=by rfl):PE X (.Call (.Attribute o name apos) [] [] cpos) (Hc X.K T r to):=by
 intro pins s σ H Q I h;refine wpAny_Call_method0_late hbase hline (cq (ho _ s σ H _ I h) λ v s1 hq0=>?_);obtain ⟨x,H1,I1,r1,ty,q1⟩:=hq0;obtain ⟨h1,h2⟩:=Er I1 r1 ty;exact ⟨T,id,pa,slot,hty,h1,h2,Calls.callWith_builtin rfl (PySem.evalArgs_none (hm _ s1 σ H1 x [] v [] Q I1 r1 .nil q1))⟩
theorem M5 (pa:PlainAttrs T) (slot:Slot T name id) (hty:typeOf (.builtin id)=pure (.type "method_descriptor")) (hm:Ng X id r) (ho:PE X o to) (ha:PA X (e::es) t)
 (hbase:attributeBase o name X.env (eval o X.env)=eval o X.env:=by rfl)
 (hfew:((backTo cpos (starEach (e::es) X.env)).all (λ x=>!x.1)&&(backToKw cpos (keywordEach [] X.env)).all (λ x=>x.1.isSome)
  && decide ((e::es).length+([]:List Keyword).length+(if ([]:List Keyword).isEmpty then 0 else 1)<30))=true:=by rfl)
 (hline:(apos.endLine==cpos.line)=true:=by rfl) (hs:starEach (e::es) X.env=(false,eval e X.env)::starEach es X.env:=by rfl) (hplain:(backTo cpos (starEach es X.env)).any (·.1)=false:=by rfl):
 PE X (.Call (.Attribute o name apos) (e::es) [] cpos) (HE X.K T r to t):=by
 intro pins s σ H Q I h;refine wpAny_Call_method_late hbase hfew hline rfl (cq (ho _ s σ H _ I h) λ v s1 hq0=>?_);obtain ⟨x,H1,I1,r1,ty,q1⟩:=hq0;obtain ⟨h1,h2⟩:=Er I1 r1 ty;refine ⟨T,id,pa,slot,hty,h1,h2,?_⟩;have hA:=ha cpos _ s1 σ H1 _ I1 q1;rw [hs] at hA ⊢;refine Calls.callWith_builtin (by simp_all) (Calls.evalArgs_plain ?_);exact cq hA λ us s2 hy0=>by obtain ⟨vs,H2,I2,r2,q2⟩:=hy0;exact hm _ s2 σ H2 x vs v us Q I2 r1 r2 q2
end
end L2
namespace L2
open PySem PySem.Spec PyProof.Rows
open PySem.W (Frag)
noncomputable def Om (X:Cx) (id:String) (r:V->List V->Hp->VK->Prop):Prop:=
 ∀ (pins:List (Addr×Obj)) (s:Shared) (σ:St) (H:Hp) (x:V) (xs:List V) (v:Value) (us:List Value) (Q:VK),aM X pins σ H s->bh x v->bf xs us->r x xs H Q->
  wpAny (model X.prog X.w) X.A (call (.builtin id) (v::us)) (EP X pins σ Q) X.xe s
theorem bf.one (h:bf [x] us):∃ u,us=[u]/\bh x u:=by
 cases h with
 | cons r t=>cases t;simp_all
theorem bf.zero:∀ {us:List Value},bf [] us->us=[]
 | _,.nil=>rfl
theorem bf.dropLast (h:bf xs us):bf xs.dropLast us.dropLast:=by
 induction h with
 | nil=>exact .nil
 | cons r t ih=>
  cases t with
  | nil=>exact .nil
  | cons q t'=>exact .cons r ih
section
variable {X:Cx} {pins:List (Addr×Obj)} {σ:St} {H:Hp} {s:Shared} {l b:Addr} {xs ys zs:List V}
theorem aM.lset {its its':List Value} (I:aM X pins σ H s) (hH:H l=some (.lst xs))
 (e:s.heap.get? l=some { cls:=.type "list", data:=.seq its.toArray n }) (hf:f its.toArray=its'.toArray) (hv:bf ys its') (hz:ys.length<=sizeLine):
 aM X pins σ (cH H l (.lst ys)) { s with heap:=s.heap.update l (Obj.mapSeq f),toks:=t' }:=by
 have q:=PySem.IsL.update e f;rw [hf] at q;refine I.write   (by rw [hH];exact trivial) (.inl rfl) (λ b' u hb hu=>(Heap.get?_update_other _ _ (SN hb)).trans hu) ⟨_,q⟩ ?_;exact ⟨hz,its',_,hv,q⟩
theorem aM.lnew (I:aM X pins σ H s) (hv:bf ys its) (hz:ys.length<=sizeLine):
 aM X pins σ (cH H s.heap.objs.size (.lst ys)) { s with heap:=s.heap.push { cls:=.type "list", data:=.seq its.toArray },toks:=t' }:=
 I.laid (λ _ _ q=>Rv _ q) (Ry _) ⟨hz,its,0,hv,RF _ rfl⟩
theorem aM.fresh (I:aM X pins σ H s):H s.heap.objs.size=none:=I.hok.fresh (Ry _)
theorem aM.lstM (I:aM X pins σ H s) (hH:H l=some (.lst xs)):xs.length<=sizeLine/\∃ (its:List Value) (n:Nat),bf xs its/\xs.length=its.length/\s.heap.get? l=some { cls:=.type "list", data:=.seq its.toArray n }:=by
 obtain ⟨z,its,n,r,e⟩:=I.hok l _ hH;exact ⟨z,its,n,r,r.length,e⟩
theorem vE (h:n<=sizeLine):Builtin.List.listTooLong n=false:=by
 exact RB (by omega)
end
section
variable {X:Cx}
noncomputable def oW:V->List V->Hp->VK->Prop:=λ x vs H Q=>∃ l xs y,x=.ref l/\vs=[y]/\H l=some (.lst xs)/\xs.length<sizeLine/\Q .non (cH H l (.lst (xs++[y])))
theorem zJ:Om X "list.append" oW:=by
 intro pins s σ H x vs v us Q I rx rv h;obtain ⟨l,xs,y,rfl,rfl,hH,hz,q⟩:=h;cases rx;obtain ⟨u,rfl,ru⟩:=rv.one;obtain ⟨z,its,n,r,hl,e⟩:=I.lstM hH;refine call_meets F.slot_list_append ⟨_,e,rfl⟩ F.entry_list_append (F.args_list_append_2 _ _) (PySem.list_append l _ n u (by simp_all)) ⟨e,?_⟩;refine ⟨.non,_,I.lset (its':=its++[u]) hH e (by simp) (r.append (.cons ru .nil)) ?_,rfl,q⟩
 grind
noncomputable def uA:V->List V->Hp->VK->Prop:=λ x vs H Q=>∃ l b xs zs,x=.ref l/\vs=[.ref b]/\H l=some (.lst xs)/\H b=some (.lst zs)/\xs.length+zs.length<=sizeLine/\Q .non (cH H l (.lst (xs++zs)))
theorem A1:Om X "list.extend" uA:=by
 intro pins s σ H x vs v us Q I rx rv h;obtain ⟨l,b,xs,zs,rfl,rfl,hH,hB,hz,q⟩:=h;cases rx;obtain ⟨u,rfl,ru⟩:=rv.one;cases ru;obtain ⟨z,its,n,r,hl,e⟩:=I.lstM hH;obtain ⟨z2,its2,n2,r2,hl2,e2⟩:=I.lstM hB;have hsz:its.toArray.size+its2.toArray.size<=sizeLine:=by simp_all
 have hlong:¬ (!its.toArray.isEmpty&&Builtin.List.listTooLong (its.toArray.size+its2.toArray.size))=true:=by
  rw [vE hsz,Bool.and_false]
  simp_all
 refine call_meets F.slot_list_extend ⟨_,e,rfl⟩ F.entry_list_extend (F.args_list_extend_2 _ _)
  (AutoSeq1.list_extend_list_list_0 l _ n b _ n2 hlong (by omega) (by omega)) ⟨e,e2,?_⟩
 refine ⟨.non,_,I.lset  hH e (by simp) (r.append r2) ?_,rfl,q⟩
 simp_all
noncomputable def Je:V->List V->Hp->VK->Prop:=λ x vs H Q=>∃ l xs y,x=.ref l/\vs=[]/\H l=some (.lst xs)/\xs[xs.length-1]?=some y/\Q y (cH H l (.lst xs.dropLast))
theorem Kx:Om X "list.pop" Je:=by
 intro pins s σ H x vs v us Q I rx rv h;obtain ⟨l,xs,y,rfl,rfl,hH,hy,q⟩:=h;cases rx;have hus:=rv.zero;subst hus;obtain ⟨z,its,n,r,hl,e⟩:=I.lstM hH;obtain ⟨u,hu,ru⟩:=r.get hy;have hy':its.toArray[its.toArray.size-1]?=some u:=by
  simp_all
 refine call_meets F.slot_list_pop ⟨_,e,rfl⟩ F.entry_list_pop (F.args_list_pop_1 _) (MeetsSeq.list_pop_last l _ n u hy' (by simp_all)) ⟨e,?_⟩;refine ⟨y,_,I.lset (its':=its.dropLast) hH e ?_ r.dropLast ?_,ru,q⟩
 . simp_all
 grind
end
section
variable {prog:Program} {w:World} {A:Around} {E:Value->Shared->Prop} {s:Shared}
end
section
variable {X:Cx}
end
end L2
namespace Att
open PySem PySem.W PySem.Calls PyProof.Rows
theorem o8:∀ (ns:List Int) (vs:List Value),WellAll P h vs (ns.map WData.int)->IntsAre vs ns:=by
 intro ns;induction ns with
 | nil=>
  intro vs w;cases w;exact .nil
 | cons n ns ih=>
  intro vs w;cases w with
  | cons a b=>
   cases a;exact .cons _ _ (ih _ b)
theorem zO {l:OpenLaw} (hn:l.most=some n)
 (hpre:l.row.toRowW.claim.pre args=true) (hwl:WellAll P h vals args):
 ∃ a vs ns,vals=[Value.ref a]/\args=[WData.list (ns.map WData.int)]/\h.get? a=some { cls:=.type "list", data:=.seq vs.toArray }/\IntsAre vs ns/\ns.length<=n:=by
 have hsh  := (pre_splitW hpre).1;have hc:l.pre.holds [] _=true:=(pre_splitW hpre).2;obtain ⟨d,r,rfl,h1,h2⟩:=hasAllW_cons hsh;obtain rfl:=hasAllW_nil h2;obtain ⟨xs,rfl,h3⟩:=hasW_list h1;obtain ⟨ns,rfl⟩:=items_int h3;have hlen:ns.length<=n:=by
  have h4  := by
   have h4:=(holds_andW hc).1;rw [hn] at h4;exact h4
  have h5:=condW_of h4 (w_not (w_lt w_lit (w_len_list (w_arg rfl))))
  simp_all
 cases hwl with
 | cons w1 w2=>
  cases w2;cases w1 with
  | list ho hall=>exact ⟨_,_,ns,rfl,rfl,ho,o8 ns _ hall,hlen⟩
theorem Au (l:OpenLaw) (args:List WData):l.row.toRowW.claim.post args (.bool true) args=true:=
 postW_of
  (show WShape.has [] _ _=true by rfl)
  (show (WTm.eq _ _).value [] _=some _ from w_eq_bool (w_res rfl) w_lit) rfl
theorem attach_call {l:OpenLaw}
 (hn:l.most=some n) (hdf:d.params.defaults=[])
 (call:∀ (w:World) (s₀ s₁:Shared) (mg mb:Str->Option Value) (fa:Addr) (o:Obj) (pm cd doc:Value) (a:Addr) (vs:List Value) (ns:List Int),
  Ground q loose [] XP w s₀ mg mb s₁.heap->YP w s₁.heap->
  s₁.heap.get? fa=some o->o.data=.func (docDef d.name d.params d.body d.scope pm cd doc)->s₁.heap.CodeRec cd d.name->mg d.name=some (.ref fa)->
  s₁.heap.get? a=some { cls:=.type "list", data:=.seq vs.toArray }->IntsAre vs ns->ns.length<=n->s₁.gens = #[]->
  codeAny (model l.prog w) callerA (.call (.ref fa) ⟨[.ref a],[]⟩) (λ r s'=>r=.ok (.ret (.bool true))/\OldK s₁.heap s'.heap/\s'.os=s₁.os/\AllBare s'.gens) s₁):
 WalkO q loose XP YP l.row.toRowW d [] (λ f vs=>PySem.call f vs):=by
 intro w s₀ s₁ mg mb G Y fa o pm cd doc dV kV ho hd hcd hD hmg hg args vals as hpre hlay hrd hwl hlo;obtain rfl:dV=.none:=Dflts.none hD hdf;obtain rfl:kV=.none:=Dflts.noKw hD;obtain ⟨a,vs,ns,rfl,rfl,hobj,hints,hlen⟩:=zO hn hpre hwl;refine enter_call (codeAny_mono (call w _ _ mg mb fa o pm cd _ a vs ns G Y ho (fd_plain hd) hcd hmg hobj hints hlen hg) λ r s' hq=>?_);obtain ⟨rfl,h2,h3,h4⟩:=hq;exact ⟨.inl ⟨.bool _,.bool _,[],rfl,λ _=>rfl,.bool _,Au l _,λ _=>⟨List.Pairwise.nil,λ _ hm=>nomatch hm⟩⟩,h2,h3,h4⟩
section
variable {prog:Program} {w:World} {A:Around} {E:Value->Shared->Prop} {s:Shared} {K:Frag}
end
end Att
namespace L2
open PySem PySem.Spec PyProof.Rows
open PySem.W (Frag)
theorem Az (h:IntsAre vs ns):bf (ns.map V.int) vs:=by
 induction h with
 | nil=>exact .nil
 | cons n t _ ih=>exact .cons ⟨t,rfl⟩ ih
noncomputable def IB (H:Hp):Prop:=∀ b,H b=none∨∃ o xs,H b=some (.frz o (.lst xs))
theorem BW {K:Frag}
 (KX:K.In s₁.heap) (hns:s₁.heap.Ns mainGlobals mg) (hb:s₁.heap.Ns builtinsNs mb) (hbb:∀ x:Str,x ≠ "__name__" -> mb x=bootBuiltins x) (hlim:s₁.heap.NoLimit) (hg:s₁.gens = #[])
 (ha:s₁.heap.get? a=some { cls:=.type "list", data:=.seq vs.toArray }) (hi:IntsAre vs ns) (hl:ns.length<=sizeLine) (hr:dq k callerA)
 (F:∀ base:Heap,K.In base->base.Ns mainGlobals mg->eP P w K mg base CX k fa fd [x] sp) (hbind:∀ (s:Shared) (u:Value),BindsTo s fd ⟨[u],[]⟩ [(x,u)])
 (hsp:∀ H:Hp,IB H->cG K H a (ns.map V.int)->sp [.ref a] H (λ v _=>v=.bl true) λ _ _ _=>False)
 (hCX:∀ H e s',CX [] H s₁ (λ _ _ _=>False) e s'->False):
 codeAny (model P w) callerA (.call (.ref fa) ⟨[.ref a],[]⟩) (λ r s'=>r=.ok (.ret (.bool true))/\OldK s₁.heap s'.heap/\s'.os=s₁.os/\AllBare s'.gens) s₁:=by
 have rv:=Az hi;have lenV:=hi.length;have core:∀ H , IB H->cG K H a (ns.map V.int)->jN P w H s₁.heap->(∀ b,H b≠none->b=a)->(H a≠none->K.lookup a=none)->
  codeAny (model P w) callerA (.call (.ref fa) ⟨[.ref a],[]⟩) (λ r s'=>r=.ok (.ret (.bool true))/\OldK s₁.heap s'.heap/\s'.os=s₁.os/\AllBare s'.gens) s₁:=by
  intro H hO hS hok hA hK;have base_of:∀ {b:Addr} {o:Obj},s₁.heap.get? b=some o->H b=none->(sV _ H).get? b=some o:=λ e n=>By e n;have noA:∀ {b:Addr} {o:Obj} {es:Array DictEntry} {ep:Nat},s₁.heap.get? b=some o->o.data=.dict es ep->H b=none:=λ {b o es ep} e d=>by
   cases q:H b with
   | none=>rfl
   | some u=>
    have e':b=a:=hA b (by rw [q];simp);subst e';rw [ha] at e;cases e;have d':Data.seq vs.toArray _=Data.dict es ep:=d;cases d'
  have nsK:∀ {b:Addr} {m:Str->Option Value},s₁.heap.Ns b m->(sV s₁.heap H).Ns b m:=λ {b m} hy0=>by obtain ⟨o,es,ep,e,d,r⟩:=hy0;exact ⟨o,es,ep,base_of e (noA e d),d,r⟩
  have hKb:K.In (sV s₁.heap H):=λ b o e=>base_of (KX b o e) (by
   cases q:H b with
   | none=>rfl
   | some u=>
    have e':b=a:=hA b (by rw [q];simp);subst e';rw [hK (by rw [q];simp)] at e;cases e)
  have hM:Mod K mg (sV s₁.heap H):=⟨hKb,nsK hns,⟨mb,nsK hb,hbb⟩,by obtain ⟨mc,h1,h2⟩:=hlim;exact ⟨mc,nsK h1,h2⟩⟩
  have e0:xB P w K mg (sV s₁.heap H) callerA [] s₁ H:=⟨rfl,hM,λ b o e=>EF e,Nat.le_of_eq (AG _ _),trivial,λ b hb=>absurd (show b∈([]:List Addr) from hb) (by simp),hok,.of_eq hg⟩
  refine Ui ((F _ hKb (nsK hns)).run callerA [] s₁ H ⟨[.ref a],[]⟩ [.ref a] [.ref a] _ _ hr e0 (hbind s₁ (.ref a)) (.cons rfl .nil) (hsp H hO hS)) λ r s' h=>?_;cases r with
  | error e=>exact (hCX H e s' h).elim
  | ok fl=>
   cases fl with
   | next=>exact False.elim h
   | brk=>exact False.elim h
   | cont=>exact False.elim h
   | ret u=>
    obtain ⟨v,H',os,bare,un,hok',r',q⟩:=h;have q':v=.bl true:=q;subst q';obtain rfl:u=Value.bool true:=r';refine ⟨rfl,OldK.of_keep λ b o e=>?_,os,bare⟩;cases q:H b with
    | none=>exact un.keep b o e q (by intro z;exact absurd (show b∈([]:List Addr) from z) (by simp)) (by simp)
    | some u=>
     rcases hO b with z | ⟨ob,xs,z⟩
     . rw [q] at z;cases z
     . have z2:=un.frzs b ob _ z;obtain ⟨e1,_⟩:=hok b _ z;obtain ⟨e2,_⟩:=hok' b _ z2;rw [e] at e1;cases e1;exact e2
 cases hk:K.lookup a with
 | some o=>
  have e:=KX a o hk;rw [ha] at e;cases e;refine core (λ _=>none) (λ _=>.inl rfl) (.inr ⟨_,vs.toArray,_,hk,rfl,rfl,rfl,by rw [So,lenV];exact hl,by simpa using rv⟩) (λ b u z=>by have z':(none:Option HO)=some u:=z;cases z') (λ b z=>absurd rfl z) λ z=>absurd rfl z
 | none=>
  refine core (λ b=>if b=a then some (.frz { cls:=.type "list", data:=.seq vs.toArray } (.lst (ns.map V.int))) else none) (λ b=>?_) (.inl (.inr ⟨{ cls:=.type "list", data:=.seq vs.toArray },Rt rfl⟩)) (λ b u z=>?_) (λ b z=>?_) λ _=>hk
  . by_cases hb:b=a
    . exact .inr ⟨_,_,Rt hb⟩
    . exact .inl (RJ hb)
  . by_cases hb:b=a
    . have z':=(Rt hb).symm.trans z;cases z';subst hb;exact ⟨ha,by rw [R8];exact hl,vs,_,rv,ha⟩
    . have z':=(RJ hb).symm.trans z;cases z'
  . by_cases hb:b=a
    . exact hb
    . exact absurd (RJ hb) z
end L2
namespace L2
open PySem PySem.Spec PyProof.Rows
open PySem.W (Frag)
theorem walk_of {l:PySem.W.OpenLaw} {K:Params->Frag} {CX:World->GR} {sp:World->Sp}
 (hn:l.most=some n) (hn2:n<=sizeLine) (hdf:d.params.defaults=[]) (hr:dq k callerA)
 (hY:∀ (w:World) (h:Heap),YP w h->(K w.params).In h)
 (F:∀ (w:World) (mg:Str->Option Value) (fa:Addr) (h:Heap),(K w.params).In h->h.Ns mainGlobals mg->mg d.name=some (.ref fa)->
  ∃ fd:FuncData,(∀ (s:Shared) (u:Value),BindsTo s fd ⟨[u],[]⟩ [(x,u)])/\
   ∀ base:Heap,(K w.params).In base->base.Ns mainGlobals mg->eP l.prog w (K w.params) mg base (CX w) k fa fd [x] (sp w))
 (hsp:∀ (w:World) (H:Hp) (a:Addr) (ns:List Int),ns.length<=n->IB H->cG (K w.params) H a (ns.map V.int)->sp w [.ref a] H (λ v _=>v=.bl true) λ _ _ _=>False)
 (hCX:∀ (w:World) (H:Hp) (s:Shared) (e:Value) (s':Shared),CX w [] H s (λ _ _ _=>False) e s'->False):
 PySem.W.WalkO q loose XP YP l.row.toRowW d [] (λ f vs=>PySem.call f vs):=by
 refine Att.attach_call hn hdf λ w s₀ s₁ mg mb fa o pm cd doc a vs ns G Y ho hd hcd hmg hobj hints hlen hg=>?_;have KX:=hY w _ Y;obtain ⟨fd,hb,hF⟩:=F w mg fa _ KX G.T.g hmg;exact BW KX G.T.g G.T.b G.T.builtins G.T.nolimit hg hobj hints (Sb hlen hn2) hr hF hb (λ H hO hS=>hsp w H a ns hlen hO hS) λ H e s'=>hCX w H _ e s'
end L2
namespace L2
open PySem PySem.Spec PyProof.Rows
open PySem.W (Frag)
noncomputable def kZ (s:Stmt) (j:Nat):Stmt:=match s with
 | .ClassDef _ _ _ body _ _ _ _ _ _ _=>body.getD j (.Pass ⟨0,0,0,0⟩)
 | _=>.Pass ⟨0,0,0,0⟩
noncomputable def cU (s:Stmt):Arguments:=match s with
 | .FunctionDef _ a _ _ _ _ _ _ _ _=>a
 | _=>{ posonlyargs:=[],args:=[],vararg:=none,kwonlyargs:=[],kw_defaults:=[],kwarg:=none,defaults:=[] }
noncomputable def cu (s:Stmt):List Stmt:=match s with
 | .FunctionDef _ _ b _ _ _ _ _ _ _=>b
 | _=>[]
noncomputable def aX (s:Stmt):Scope:=match s with
 | .FunctionDef _ _ _ _ _ _ sc _ _ _=>sc
 | _=>{ kind:=.function,names:=[],isGenerator:=false,isCoroutine:=false }
noncomputable abbrev H9:GR:=λ _ _ _ _ _ _=>False
noncomputable abbrev E0:XK:=λ _ _ _=>False
theorem Hs:jI H9 X E0:=λ _ _ _ _ _ _ _ h=>h.elim
structure Pm (K:Frag) (x qual:Str) (st:Stmt) (f:Addr) (fd:FuncData):Prop where
 ex:∃ (oc:Value) (od:Option Addr) (kV doc pm:Value) (an:Option Addr) (cdv ct:Value) (osl:Array (Option Value)),
  fd=PySem.W.fnOf x qual (cU st) (cu st) (aX st) .none kV doc pm an cdv ct/\K.lookup f=some ⟨oc,od,.func fd,osl⟩/\PySem.W.codeIn K cdv qual=true
 kp:PySem.W.keepIn K (.ref f)=true
section
variable {P:Program} {w:World} {K:Frag} {mg:Str->Option Value} {base:Heap}
theorem Pm.binds {st:Stmt} (F:Pm K x qual st f fd)
 (h:∀ (kV doc pm:Value) (an:Option Addr) (cdv ct:Value) (us:List Value),us.length=ps.length->bindArgs (PySem.W.fnOf x qual (cU st) (cu st) (aX st) .none kV doc pm an cdv ct) ⟨us,[]⟩=pure (ps.zip us)):cP K fd ps []:=by
 obtain ⟨oc,od,kV,doc,pm,an,cdv,ct,osl,rfl,lk,hcd⟩:=F.ex;exact .all (h kV _ pm an _ ct)
theorem xJ {st:Stmt} {kV doc pm cdv ct:Value} (l:K.lookup f=some ⟨oc,od,.func (PySem.W.fnOf x qual (cU st) (cu st) (aX st) .none kV doc pm an cdv ct),osl⟩)
 (c:PySem.W.codeIn K cdv qual=true) (k:PySem.W.keepIn K (.ref f)=true):Pm K x qual st f (PySem.W.fnOf x qual (cU st) (cu st) (aX st) .none kV doc pm an cdv ct):=⟨⟨oc,od,kV,doc,pm,an,cdv,ct,osl,rfl,l,c⟩,k⟩
end
theorem zL (h:n<=1000):n<sizeLine:=Nat.lt_of_le_of_lt h (by decide)
section
variable {X:Cx}
end
noncomputable def bn (H H':Hp):Prop:=∀ b o,H b=some o->H' b=some o
theorem bn.refl (H:Hp):bn H H:=λ _ _ h=>h
theorem bn.trans (a:bn H H1) (b:bn H1 H2):bn H H2:=λ c o h=>b c o (a c o h)
theorem bn.seq {K:Frag} (e:bn H H') (h:cG K H a xs):cG K H' a xs:=by
 rcases h with (h | ⟨o,h⟩) | h
 . exact .inl (.inl (e _ _ h))
 . exact .inl (.inr ⟨o,e _ _ h⟩)
 . exact .inr h
noncomputable def wa (cells:List (Str×Addr)):List (Str×NameKind)->List (Str×Addr)->List (Str×Addr)
 | [],cs=>cs
 | (n,k)::r,cs=>wa cells r (if k==.free then (n,(cells.lookup n).getD 0)::cs else cs)
noncomputable def AA (scope:Scope) (env:Env):List (Str×Addr):=wa env.cells scope.names []
theorem y4 {env:Env}:∀ (names:List (Str×NameKind)) (cs:List (Str×Addr)),(∀ y∈names,y.2=.free->∃ c,env.cells.lookup y.1=some c)->
 (forIn names cs λ (x:Str×NameKind) (r:List (Str×Addr))=>(match x with
  | (name,kind)=>if (kind==NameKind.free)=true then do let a <-cellOf env name;pure (ForInStep.yield ((name,a)::r)) else pure (ForInStep.yield r):Sem (ForInStep (List (Str×Addr)))))=(pure (wa env.cells names cs):Sem _)
 | [],cs,_=>rfl
 | (n,k)::r,cs,h=>by
  have hr:=λ cs'=>y4 (env:=env) r cs' λ y hy=>h y (R6 _ hy);rw [List.forIn_cons];by_cases hk:(k==NameKind.free)=true
  . obtain ⟨c,hc⟩:=h (n,k) RV (by simpa using hk);have e1:cellOf env n=pure c:=by unfold cellOf;rw [hc]
    simp only [hk,UD,e1,pure_bind];rw [hr];unfold wa;rw [Rt hk,hc]
    conv=>rhs;unfold wa
    rfl
  . simp only [hk,Up,pure_bind,Sr];rw [hr]
    conv=>rhs;unfold wa
    rw [RJ hk]
theorem qw (h:∀ y∈scope.names,y.2=.free->∃ c,env.cells.lookup y.1=some c):closureFor scope env=pure (AA scope env):=by
 unfold closureFor AA;rw [<-y4 _ [] h];simp
theorem mX:∀ (names:List (Str×NameKind)) (cs:List (Str×Addr)),(∀ y∈names,y.2=.free->∃ d,cells.lookup y.1=some d)->(∀ d,cs.lookup x=some d->cells.lookup x=some d)->
 (wa cells names cs).lookup x=some c->cells.lookup x=some c
 | [],cs,_,hc,h=>hc c h
 | (n,k)::r,cs,hn,hc,h=>by
  refine mX r _ (λ y hy=>hn y (R6 _ hy)) ?_ h;intro d hd;by_cases hk:(k==NameKind.free)=true
  . rw [Rt hk] at hd;obtain ⟨e,he⟩:=hn (n,k) RV (by grind)
    grind
  simp_all
theorem pO:∀ (names:List (Str×NameKind)) (cs:List (Str×Addr)),((x,NameKind.free)∈names∨∃ d,cs.lookup x=some d)->∃ d,(wa cells names cs).lookup x=some d
 | [],cs,h=>by
  rcases h with h | h
  . cases h
  . exact h
 | (n,k)::r,cs,h=>by
  refine pO r _ ?_;rcases h with h | ⟨d,h⟩
  . rcases Rx.mp h with e | h
    . simp_all
    simp_all
  grind
theorem g8 (h:(relabel scope env).names.lookup x=some k) (hk:k=.cell∨k=.free) (hc:∀ y∈scope.names,y.2≠.cell):(x,NameKind.free)∈scope.names:=by
 have hm:=Tz h;obtain ⟨⟨n,k'⟩,hy,e⟩:=Sc.mp hm
 grind
noncomputable def lift (ix:List (Option Nat)) (σ:St):St:=ix.map λ o=>match o with
 | none=>none
 | some i=>match σ[i]? with
  | some v=>v
  | none=>none
structure bG (X:Cx) (scope:Scope) (N:List Str) (ix:List (Option Nat)):Prop where
 kind:scope.kind=.function
 nocell:∀ y∈scope.names,y.2≠.cell
 locs:∀ y∈scope.names,y.2=.local->scope.names.lookup y.1=some .local
 free:∀ y∈scope.names,y.2=.free->X.env.kindOf y.1=some .cell∨X.env.kindOf y.1=some .free
 len:ix.length=N.length
 nd:N.Nodup
 from':∀ j i:Nat,ix[j]?=some (some i)->∃ x,N[j]?=some x/\X.N[i]?=some x/\(X.env.kindOf x=some .cell∨X.env.kindOf x=some .free)/\((relabel scope X.env).names.lookup x=some .cell∨(relabel scope X.env).names.lookup x=some .free)
noncomputable def bA (X:Cx) (scope:Scope) (N:List Str) (s₀:Shared) (H₀:Hp) (C:Addr) (ex:List Addr):Cx where
 prog:=X.prog
 w:=X.w
 K:=X.K
 mg:=X.mg
 base:=X.base
 A:=X.A
 N:=N
 s₀:=s₀
 H₀:=H₀
 env:=compEnvC scope (AA scope X.env) C X.env
 outer:=X.stack
 stack:=X.stack
 ex:=ex
 fn:=λ _=>false
 calm:=X.calm
 pn:=[]
 xe:=λ _ _=>False
section
variable {X:Cx} {pins:List (Addr×Obj)} {σ:St} {H:Hp} {s:Shared} {scope:Scope} {N:List Str} {ix:List (Option Nat)}
theorem bG.cells (S:bG X scope N ix) (I:aM X pins σ H s):∀ y∈scope.names,y.2=.free->∃ c,X.env.cells.lookup y.1=some c:=λ y hy hk=>I.ok.has _ (S.free y hy hk)
theorem bG.sub (S:bG X scope N ix) (I:aM X pins σ H s) (h:(AA scope X.env).lookup x=some c):X.env.cells.lookup x=some c:=
 mX _ [] (S.cells I) (λ d h=>by simp at h) h
theorem bG.start (S:bG X scope N ix) (I:aM X pins σ H s) {C D:Addr} (hf:∀ b∈fp,mM X pins H b) (hfo:∀ b∈fp,∃ o,s.heap.get? b=some o) (hD:D=s.heap.objs.size) (hC:s.heap.objs.size<C)
 (k:∀ b o,s.heap.get? b=some o->h'.get? b=some o) (hn:h'.Ns C λ _=>none):aM (bA X scope N s H C (D::fp)) [] (lift ix σ) H { s with heap:=h',toks:=tk }:=by
 have ltC  := λ x c e=>let ⟨v,q⟩:=I.cell x c e;q.lt;refine ⟨⟨I.ok.mod,S.kind,I.ok.glob,I.ok.blt,Tb hC,λ x y c h1 h2=>I.ok.inj x y c (S.sub I h1) (S.sub I h2),λ x hx=>?_,λ x c z=>?_,I.ok.hd,I.ok.frames,.inl rfl,λ b hb=>?_,I.bs,Sb I.ok.bsz I.sz,λ b o e hb=>?_,λ b hb hb'=>?_,I.stack,I.stkFree⟩,
  rfl,I.bare,Un.kept k,⟨_,hn,λ j x v e1 e2 e3=>?_⟩,λ x c e=>?_,I.hok.fresh (Tb hC),λ x c e=>I.freeC x c (S.sub I e),λ p hp=>absurd (show p∈[] from hp) (by simp),I.hok.kept k,?_⟩
 . have hm:(x,NameKind.free)∈scope.names:=by
    rcases hx with h | h
    . exact g8 h (.inl rfl) S.nocell
    . exact g8 h (.inr rfl) S.nocell
   exact pO _ _ (.inl hm)
 . cases z
 . rcases Rx.mp hb with e | hb
   . subst e;subst hD;exact ⟨RL hC,λ x c e z=>absurd (ltC x c (S.sub I e)) (by rw [z];exact Tt _)⟩
   . obtain ⟨o,e⟩:=hfo b hb;exact ⟨RL (TL (RC e) hC),λ x c e=>(hf b hb).2.2.2.2.1 x c (S.sub I e)⟩
 . have lb:=RD (RC e) I.ok.bsz;rcases Rx.mp hb with z | hb
   . subst z;subst hD;exact absurd (RD lb I.sz) (Tt _)
   . rcases (hf b hb).2.2.2.1 with z | z
     . exact I.ok.noex b o e z
     . exact absurd (RD lb z) (Tt _)
 . have hs:=I.stkSub b hb';rcases Rx.mp hb with z | hb
   . subst z;subst hD;rcases Rx.mp hs with z | z
     . exact absurd I.lt (by rw [<-z];exact Tt _)
     . exact I.nofs (Ry _) z
   . rcases Rx.mp hs with z | z
     . exact (hf b hb).2.1 z
     . exact (hf b hb).2.2.1 z
 . unfold lift at e2;rw [Su] at e2;cases q:ix[j]? with
   | none=>rw [q] at e2;cases e2
   | some o=>
    rw [q] at e2;cases o with
    | none=>cases e2
    | some i=>
     obtain ⟨y,f1,f2,f3,f4⟩:=S.from' j i q;have e1':N[j]?=some x:=e1;rw [f1] at e1';cases e1';simp only [Sw,Option.some.injEq] at e2;cases q2:σ[i]? with
     | none=>rw [q2] at e2;cases e2
     | some w=>
      rw [q2] at e2;simp only at e2;subst e2;obtain ⟨m,hm,hl⟩:=I.loc;have vis:NU X.env.scope x:=by
       rcases f3 with z | z
       . exact .inr (.inl z)
       . exact .inr (.inr z)
      obtain ⟨u,r,l⟩:=hl i x v f2 q2 vis;refine ⟨u,r,.inr ⟨f4,?_⟩⟩;rcases l with ⟨l1,_⟩ | ⟨_,c,hc,hcell⟩
      . rw [l1] at f3;rcases f3 with z | z <;> cases z
      . have hmf:(x,NameKind.free)∈scope.names:=by
         rcases f4 with h | h
         . exact g8 h (.inl rfl) S.nocell
         . exact g8 h (.inr rfl) S.nocell
        obtain ⟨d,hd⟩:=pO (cells:=X.env.cells) scope.names [] (.inl hmf);have hd':=S.sub I hd;rw [hc] at hd';cases hd';refine ⟨c,hd,?_⟩;obtain ⟨o,ho,hod⟩:=hcell;exact ⟨o,k _ _ ho,hod⟩
 . obtain ⟨v,o,ho,hod⟩:=I.cell x c (S.sub I e);exact ⟨v,o,k _ _ ho,hod⟩
 . show (lift ix σ).length=N.length;unfold lift;rw [R8,S.len]
end
theorem jg (I:Nat->Shared->Prop)
 (turn:∀ n s,I n s->wpAny (model prog w) A (pyNext it) (λ r s₁=>match r with
  | none=>R (.ok .next) s₁
  | some v=>wpAny (model prog w) A (letOwnedTupleGo target it v) (λ _ s₁'=>wpAny (model prog w) A (assign target env v) (λ _ s₂=>
   wpAny (model prog w) A (forIn ifs true λ c r=>if r=true then do let ok <-isTrue c env (eval c env);pure (ForInStep.yield ok) else pure (ForInStep.yield r)) (λ ok s₃=>
    if ok=true then wpAny (model prog w) A (eval elt env) (λ x s₄=>
     wpAny (model prog w) A (call (.builtin "list.append") [acc,x]) (λ _ s₅=>∃ m,m<n/\I m s₅) (λ _ _=>False) s₄) (λ _ _=>False) s₃
    else ∃ m,m<n/\I m s₃) (λ _ _=>False) s₂) (λ _ _=>False) s₁') (λ _ _=>False) s₁) (λ _ _=>False) s)
 (n:Nat) (h:I n s):
 codeAny (model prog w) A (.compLoop (.ListComp elt [⟨target,iter,ifs,0⟩] scope pos) 0 it acc env) R s:=by
 refine codeAny_loop rfl I (λ n s hI=>?_) n h;refine wpAny_noted ?_;refine Rq (wpAny_standAt (Rq (Sx (turn n s hI) (λ r s₁ h₁=>?_) λ _ _ h'=>h'.elim)));cases r with
 | none=>exact Ru h₁
 | some v=>
  refine Rq (Sx h₁ (λ _ s₁' h₁'=>?_) λ _ _ h'=>h'.elim);refine Rq (Sx h₁' (λ _ s₂ h₂=>Rq (Sx h₂ (λ ok s₃ h₃=>?_) λ _ _ h'=>h'.elim)) λ _ _ h'=>h'.elim);cases ok with
  | false=>exact Ru ⟨rfl,h₃⟩
  | true=>
   exact Rq (Rq (Sx h₃ (λ x s₄ h₄=>Rq (Sx h₄ (λ _ s₅ h₅=>Ru (Ru ⟨rfl,h₅⟩)) λ _ _ h'=>h'.elim)) λ _ _ h'=>h'.elim))
noncomputable def vm (X:Cx) (ifs:List Expr) (t:TT):Prop:=
 ∀ (pins:List (Addr×Obj)) (s:Shared) (σ:St) (H:Hp) (Q:Bool->Hp->Prop),aM X pins σ H s->t σ H Q->
  wpAny (model X.prog X.w) X.A (forIn ifs true λ c r=>if r=true then do let ok <-isTrue c X.env (eval c X.env);pure (ForInStep.yield ok) else pure (ForInStep.yield r)) (TP X pins σ Q) X.xe s
noncomputable def Ni:TT:=λ _ H Q=>Q true H
theorem M6:vm X [] Ni:=λ _ _ _ H _ I h=>wpAny_tests_nil ⟨H,I,h⟩
theorem Mv (h:PT X c t):vm X [c] t:=λ pins s σ H Q I q=>wpAny_tests_one (h _ s σ H Q I q)
noncomputable def Gk (σ σ':St):Prop:=σ.length=σ'.length/\∀ (i:Nat) (v:V),σ[i]?=some (some v)->σ'[i]?=some (some v)
theorem Gk.refl (σ:St):Gk σ σ:=⟨rfl,λ _ _ h=>h⟩
theorem Gk.set (e:Gk σ σ') (h:σ[j]?=some none):Gk σ (σ'.set j (some v)):=by
 refine ⟨by rw [SW];exact e.1,λ i u q=>?_⟩;have hne:j≠i:=λ z=>by simp_all
 rw [RI hne];exact e.2 i u q
theorem mK {j:Nat} (h:ix[j]?=some none):(lift ix σ)[j]?=some none:=by
 unfold lift
 simp_all
noncomputable def lW (ix:List (Option Nat)) (g:TG):Prop:=∀ (v:V) (σ:St) (H:Hp) (Q:St->Hp->Prop),g v (lift ix σ) H Q->g v (lift ix σ) H λ σ2 H2=>Q σ2 H2/\Gk (lift ix σ) σ2
theorem JB (h:ix[j]?=some none):lW ix (jZ j):=λ v σ H Q q=>⟨q,(Gk.refl _).set (mK h)⟩
theorem KZ {K:Frag} (h:ix[j]?=some none) (h':ix[k]?=some none):lW ix (GZ K n (yD (jZ j) (yD (jZ k) Kt))):=λ v σ H Q q=>by
 obtain ⟨a,xs,e1,e2,e3,v1,r1,e4,v2,r2,e5,e6,q⟩:=q;exact ⟨a,xs,e1,e2,e3,v1,r1,e4,v2,r2,e5,e6,q,((Gk.refl _).set (mK h)).set (mK h')⟩
noncomputable def pE (ix:List (Option Nat)) (wi:TI) (g:TG) (tc:TT) (te:TE):TE:=λ σ H Q=>wi σ H λ J H1=>∃ W:Nat->Nat->List V->Hp->Prop,(∃ m,W 0 m [] H1)/\∀ i m ys H,W i m ys H->
 (J.stop i H/\ys.length<=sizeLine/\∀ p,H p=none->Q (.ref p) (cH H p (.lst ys)))∨
 (J.go i H/\ys.length<sizeLine/\∃ N:List V->Hp->Prop,(∀ ys' H',N ys' H'->∃ m',m'<m/\W (i+1) m' ys' H')/\∀ x H',J.yld i H x H'->g x (lift ix σ) H' λ σ2 H2=>tc σ2 H2 λ b H3=>if b=true then te σ2 H3 λ v H4=>N (ys++[v]) H4 else N ys H3)
theorem Db {σ σ':St}
 (I2:aM X pins σ H2 s2) (I':aM (bA X scope N s2 H2 C (D::fp)) pins' σ' H' s4) (f2:∀ b∈fp,mM X pins H2 b) (hD:D=s2.heap.objs.size) (hC:s2.heap.objs.size<C) (hDC:D≠C)
 (hs:Heap.SameBut C s4.heap h') (eD:s4.heap.get? D=some { cls:=.type "list", data:=.seq its.toArray n }) (fD:H' D=none) (rv:bf ys its) (hz:ys.length<=sizeLine):
 aM X pins σ (cH H' D (.lst ys)) { s4 with heap:=h' }:=by
 have lt:∀ b o,s2.heap.get? b=some o->b≠D/\b≠C:=λ b o e=>
  ⟨by rw [hD];exact RL (RC e),RL (TL (RC e) hC)⟩
 have nex:∀ b o,s2.heap.get? b=some o->b∉fp->b∉D::fp:=λ b o e hb z=>by
  simp_all
 have nD:∀ b u,H' b=some u->b≠D:=λ b u e=>bH e fD;have nC:∀ b u,H' b=some u->b≠C:=λ b u e=>bH e I'.free;have u:=I'.base;refine I2.call'  (show s4.os=s2.os from I'.os) ⟨λ b o e n hb hx=>?_,λ b o e n hb hx=>?_,λ b o e n hx=>?_,λ b o e hx=>?_,λ b xs e=>?_,λ b o xs e=>?_,λ b ps e=>?_⟩ (λ b o e=>?_) I'.bare λ b hb=>⟨(f2 b hb).2.2.2.1,(f2 b hb).2.1,(f2 b hb).2.2.2.2.1,(f2 b hb).2.2.2.2.2⟩
 . exact (hs.2 b (lt b o e).2).trans (u.keep b o e n hb (nex b o e hx))
 . obtain ⟨sl,q⟩:=u.slot b o e n hb (nex b o e hx);exact ⟨sl,(hs.2 b (lt b o e).2).trans q⟩
 . rw [aF (lt b o e).1];exact u.free b o e n (nex b o e hx)
 . obtain ⟨o',q⟩:=u.there b o e (nex b o e hx);exact ⟨o',(hs.2 b (lt b o e).2).trans q⟩
 . have q:=u.tups b xs e;rw [aF (nD b _ q)];exact q
 . have q:=u.frzs b o xs e;rw [aF (nD b _ q)];exact q
 . obtain ⟨m,q⟩:=u.tbls b ps e;exact ⟨m,by rw [aF (nD b _ q)];exact q⟩
 . by_cases hb:b=D
   . subst hb;rw [aG] at e;cases e;exact ⟨hz,its,n,rv,(hs.2 b hDC).trans eD⟩
   . rw [aF hb] at e;refine (I'.hok b o e).stay (λ c v hc q=>(hs.2 c ?_).trans q) (λ c q=>by rw [aF (nD c _ q)];exact q) λ c xs q=>by rw [aF (nD c _ q)];exact q
     rcases hc with z | z
     . rw [z];exact nC b o e
     . exact nC c _ z
section
variable {X:Cx} {elt tg iter:Expr} {ifs:List Expr} {scope:Scope} {pos:Pos} {wi:TI} {g:TG} {tc:TT} {te:TE} {N:List Str} {ix:List (Option Nat)}
theorem sv {pins:List (Addr×Obj)} {σ:St} {Q:VK} {s2:Shared} {itv:Value} {Rr:Value->Addr->Result->Shared->Prop} (S:bG X scope N ix) (hc:X.calm=true) (hG:lW ix g)
 (hb:∀ (s₀:Shared) (H₀:Hp) (C:Addr) (ex:List Addr),PG (bA X scope N s₀ H₀ C ex) tg g/\vm (bA X scope N s₀ H₀ C ex) ifs tc/\PE (bA X scope N s₀ H₀ C ex) elt te)
 (h2:Ow X pins σ tg (λ J H1=>∃ W:Nat->Nat->List V->Hp->Prop,(∃ m,W 0 m [] H1)/\∀ i m ys H,W i m ys H->
  (J.stop i H/\ys.length<=sizeLine/\∀ p,H p=none->Q (.ref p) (cH H p (.lst ys)))∨
  (J.go i H/\ys.length<sizeLine/\∃ N:List V->Hp->Prop,(∀ ys' H',N ys' H'->∃ m',m'<m/\W (i+1) m' ys' H')/\∀ x H',J.yld i H x H'->g x (lift ix σ) H' λ σ2 H2=>tc σ2 H2 λ b H3=>if b=true then te σ2 H3 λ v H4=>N (ys++[v]) H4 else N ys H3)) itv s2)
 (hR:∀ (s4:Shared) (H':Hp) (D C:Addr) (m:Str->Option Value) (ys:List V),s4.heap.Ns C m->mM X pins H' C->(∀ h',Heap.SameBut C s4.heap h'->aM X pins σ (cH H' D (.lst ys)) { s4 with heap:=h' })->aM X pins σ (cH H' D (.lst ys)) s4->D≠C->Q (.ref D) (cH H' D (.lst ys))->Rr (.ref D) C (.ok .next) s4):
 wpAny (model X.prog X.w) X.A (newList []) (λ acc s₃=>wpAny (model X.prog X.w) X.A (newFunctionEnv scope X.env.globals (AA scope X.env) [] X.env.qual none .none (some X.env)) (λ cenv s₄=>
  codeAny (model X.prog X.w) X.A (.compStart (.ListComp elt [⟨tg,iter,ifs,0⟩] scope pos) 0 itv acc { cenv with scope:=relabel scope X.env }) (Rr acc cenv.locals) s₄) X.xe s₃) X.xe s2:=by
 obtain ⟨it,fp,tn,J,H2,e,I2,T,st2,f2,W,⟨m0,w0⟩,turn⟩:=h2;subst e;have fo:∀ b∈fp,∃ o,s2.heap.get? b=some o:=λ b hb=>let ⟨o,e,_⟩:=T.obj _ _ st2 b hb;⟨o,e⟩;refine Tv (wpAny_newFunctionEnv S.nocell (by intro y hy;simp at hy) (λ h₁ hns₁ hsb₁=>?_) S.kind);dsimp only at hns₁ hsb₁ ⊢;generalize hH2:s2.heap.push { cls:=.type "list", dict:=none,data:=.seq ([]:List Value).toArray }=HH at hns₁ hsb₁ ⊢;have hC:HH.objs.size=s2.heap.objs.size+1:=by rw [<-hH2,Uf]
 generalize hCC:HH.objs.size=C at hns₁ hsb₁ hC ⊢;generalize hDD:s2.heap.objs.size=D at hC ⊢;have hlt:s2.heap.objs.size<C:=by rw [hDD,hC];exact SG _
 have hDC:D≠C:=by rw [hC];exact RL (SG _)
 have old:∀ b o,s2.heap.get? b=some o->h₁.get? b=some o:=λ b o e=>
  hsb₁.extBut b o (RL (TL (RC e) hlt)) (Rv _ (hH2▸Rv _ e))
 have hacc:h₁.PlainList D #[]:=⟨_,hsb₁.extBut _ _ hDC (Rv _ (hH2▸hDD▸RF _ rfl))⟩
 have hns₂:h₁.Ns C λ _=>none:=hns₁;have I4:=S.start (tk:=s2.toks+([]:List (Str×Value)).length) I2 f2 fo hDD.symm hlt old hns₂;obtain ⟨hg,hif,hel⟩:=hb s2 H2 C (D::fp);have stat:∀ {H':Hp},(∀ b∈D::fp,H' b=none)->∀ b∈D::fp,mM (bA X scope N s2 H2 C (D::fp)) [] H' b:=λ hn b hb=>
  ⟨hn b hb,(I4.ok.exf b hb).1,I4.ok.exfs b hb,.inl hb,(I4.ok.exf b hb).2,λ p hp=>absurd (show p∈([]:List (Addr×Obj)) from hp) (by simp)⟩
 have sub:∀ b∈fp,b∈D::fp:=λ b hb=>R6 _ hb;have nDf:∀ b∈fp,b≠D:=λ b hb z=>by
  obtain ⟨o,e⟩:=fo b hb;exact absurd (RC e) (by rw [z,hDD];exact Tt _)
 have free0:∀ b∈D::fp,H2 b=none:=λ b hb=>by
  rcases Rx.mp hb with z | hb
  . rw [z];exact I2.hok.fresh (Nat.le_of_eq hDD)
  . exact (f2 b hb).1
 have loop:∀ s₃:Shared,s₃={ s2 with heap:=h₁,toks:=s2.toks+([]:List (Str×Value)).length }->
  codeAny (model X.prog X.w) X.A (.compLoop (.ListComp elt [⟨tg,iter,ifs,0⟩] scope pos) 0 (.ref it) (.ref D) (compEnvC scope (AA scope X.env) C X.env))
   (Rr (.ref D) C) s₃:=by
  rintro s₃ rfl;refine jg (λ n s'=>∃ i H' ys its,aM (bA X scope N s2 H2 C (D::fp)) [] (lift ix σ) H' s'/\tn i s'.heap/\(∀ b∈D::fp,H' b=none)/\s'.heap.PlainList D (List.toArray its)/\bf ys its/\W i n ys H') ?_ m0
   ⟨0,H2,[],[],I4,T.keep _ _ _ st2 λ b _ o e=>old b o e,free0,hacc,.nil,w0⟩
  rintro n s3 ⟨i,H3,ys,its,I3,st3,fr3,pl3,rv3,w3⟩;obtain ⟨kk,plE⟩:=pl3;have pinD:∀ {pp:List (Addr×Obj)} {σ':St} {H':Hp} {s':Shared},aM (bA X scope N s2 H2 C (D::fp)) pp σ' H' s'->H' D=none->s'.heap.get? D=some { cls:=.type "list", data:=.seq its.toArray kk }->
   aM (bA X scope N s2 H2 C (D::fp)) [(D,{ cls:=.type "list", data:=.seq its.toArray kk })] σ' H' s':=λ {pp σ' H' s'} J f e=>J.pins_of λ p hp=>by
   have z:p=(D,{ cls:=.type "list", data:=.seq its.toArray kk }):=by simpa using hp
   subst z;exact ⟨e,f,(J.ok.exf D RV).1,J.ok.exfs D RV,λ v z=>by cases z⟩
  have fpD:∀ {H':Hp},(∀ b∈D::fp,H' b=none)->∀ b∈fp,mM (bA X scope N s2 H2 C (D::fp)) [(D,{ cls:=.type "list", data:=.seq its.toArray kk })] H' b:=λ hn b hb=>by
   obtain ⟨a1,a2,a3,a4,a5,a6⟩:=stat hn b (sub b hb);refine ⟨a1,a2,a3,a4,a5,λ p hp=>?_⟩;have z:p=(D,{ cls:=.type "list", data:=.seq its.toArray kk }):=by simpa [bA] using hp
   subst z;exact (nDf b hb).symm
  have frD:H3 D=none:=fr3 D RV;rcases turn i n ys H3 w3 with ⟨stop,hz,qn⟩ | ⟨go,hz,NN,hN,step⟩
  . refine cq (T.done (bA X scope N s2 H2 C (D::fp)) rfl rfl rfl hc i _ s3 _ H3 (λ _ _=>False) (pinD I3 frD plE) (fpD fr3) st3 stop) λ r s4 ⟨hr,I4'⟩=>?_;subst hr;obtain ⟨m,hm,_⟩:=I4'.loc;have eD:=(I4'.pin (D,_) (R9 _ RV)).1;have fin:∀ h',Heap.SameBut C s4.heap h'->aM X pins σ (cH H3 D (.lst ys)) { s4 with heap:=h' }:=λ h' hs'=>Db I2 I4' f2 hDD.symm hlt hDC hs' eD frD rv3 hz;have hC0:s2.heap.objs.size<=C:=Tb hlt;have fC:mM X pins H3 C:=by
     have q:=I2.fpOk (H':=H3) hC0 I4'.free;exact q
    exact hR s4 H3 D C m ys hm fC fin (by simpa using fin s4.heap (Heap.SameBut.refl ..)) hDC (qn D frD)
  . refine cq (T.item (bA X scope N s2 H2 C (D::fp)) rfl rfl rfl hc i _ s3 _ H3 (λ _ _=>False) (pinD I3 frD plE) (fpD fr3) st3 go) λ r s4 ⟨u,hr,h4⟩=>?_;subst hr;refine cq h4 λ _ s5 hq0=>?_;obtain ⟨x,H5,I5,r5,y5,st5,fr5⟩:=hq0;have eD5:=(I5.pin (D,_) (R9 _ RV))
    have fr5':∀ b∈D::fp,H5 b=none:=λ b hb=>by
     rcases Rx.mp hb with z | hb
     . rw [z];exact eD5.2.1
     . exact fr5 b hb
    have I5':aM (bA X scope N s2 H2 C (D::fp)) ([]++mH (D::fp) s5.heap) (lift ix σ) H5 s5:=(I5.unpinned (pins:=[]) (pl:=[_])).pinned (stat fr5') λ b hb=>by
     rcases Rx.mp hb with z | hb
     . rw [z];exact ⟨_,eD5.1,λ v z=>by cases z⟩
     . exact T.obj _ _ st5 b hb
    have back:∀ {σ7:St} {H7:Hp} {s7:Shared},aM (bA X scope N s2 H2 C (D::fp)) ([]++mH (D::fp) s5.heap) σ7 H7 s7->Gk (lift ix σ) σ7->
     aM (bA X scope N s2 H2 C (D::fp)) [] (lift ix σ) H7 s7/\tn (i+1) s7.heap/\(∀ b∈D::fp,H7 b=none)/\s7.heap.get? D=some { cls:=.type "list", data:=.seq its.toArray kk }:=λ {σ7 H7 s7} I7 ex=>by
     have keepAt:∀ b∈D::fp,∀ o,s5.heap.get? b=some o->s7.heap.get? b=some o/\H7 b=none:=λ b hb o e=>
      ⟨(I7.pin (b,o) (R9 _ (R9 _ (iC hb e)))).1,(I7.pin (b,o) (R9 _ (R9 _ (iC hb e)))).2.1⟩
     refine ⟨I7.unpinned.weak ex.1 ex.2,T.keep _ _ _ st5 λ b hb o e=>(keepAt b (sub b hb) o e).1,λ b hb=>?_,(keepAt D RV _ eD5.1).1⟩;rcases Rx.mp hb with z | hb'
     . rw [z];exact (keepAt D RV _ eD5.1).2
     . obtain ⟨o,e,_⟩:=T.obj _ _ st5 b hb';exact (keepAt b hb o e).2
    refine cq (hg _ s5 _ H5 x u _ I5' r5 (hG _ _ _ _ (step x H5 y5))) λ _ s6 hq0=>?_;obtain ⟨σ6,H6,I6,q6,ex6⟩:=hq0;refine cq (hif _ s6 σ6 H6 _ I6 q6) λ ok s7 hq0=>?_;obtain ⟨H7,I7,q7⟩:=hq0;cases ok with
    | false=>
     rw [RJ RP] at q7 ⊢;obtain ⟨m',hm,w7⟩:=hN _ _ q7;obtain ⟨J1,J2,J3,J4⟩:=back I7 ex6;exact ⟨m',hm,i+1,H7,ys,its,J1,J2,J3,⟨_,J4⟩,rv3,w7⟩
    | true=>
     rw [Rt rfl] at q7 ⊢;refine cq (hel _ s7 σ6 H7 _ I7 q7) λ uv s8 hq0=>?_;obtain ⟨y,H8,I8,r8,q8⟩:=hq0;obtain ⟨m',hm,w8⟩:=hN _ _ q8;obtain ⟨J1,J2,J3,J4⟩:=back I8 ex6;refine wpAny_list_append_plain (hsz:=by rw [So,<-rv3.length];exact Tb hz) ⟨_,J4⟩ λ h₉ hl₉ hs₉=>?_;obtain ⟨a1,a2,a3,a4,a5,a6⟩:=stat J3 D RV;refine ⟨m',hm,i+1,H8,ys++[y],its++[uv],J1.turned (t':=s8.toks) (λ b o hb e=>hs₉.extBut b o hb e) a1 a2 a4 a5 a6,T.keep _ _ _ J2 λ b hb o e=>hs₉.extBut b o (nDf b hb) e,J3,by simpa using hl₉,rv3.append (.cons r8 .nil),w8⟩
 exact codeAny_compStart_list (loop _ rfl) (T.self _ 0 _ _ _ (T.keep _ _ _ st2 λ b _ o e=>old b o e) (loop _ rfl))
theorem zc (S:bG X scope N ix) (hc:X.calm=true) (hi:PI X tg iter wi) (hG:lW ix g)
 (hb:∀ (s₀:Shared) (H₀:Hp) (C:Addr) (ex:List Addr),PG (bA X scope N s₀ H₀ C ex) tg g/\vm (bA X scope N s₀ H₀ C ex) ifs tc/\PE (bA X scope N s₀ H₀ C ex) elt te)
 (hs:∀ x,foldedSetIterable iter X.env x=pure x:=by intro _;rfl):PE X (.ListComp elt [⟨tg,iter,ifs,0⟩] scope pos) (pE ix wi g tc te):=by
 intro pins s σ H Q I h;refine wpAny_comprehension_free  rfl hs (qw (S.cells I)) S.kind S.locs ?_;refine cq (hi _ s σ H _ I h) λ v s1 h1=>cq h1 λ itv s2 h2=>?_;refine sv  S hc hG hb h2 ?_;intro s4 H' D C m ys hm _ fin _ _ q;exact ⟨m,hm,λ h' hs'=>⟨.ref D,_,fin h' hs',rfl,q⟩⟩
theorem FB {py spos:Pos} (hN:X.N.Nodup) (hi:X.N[i]?=some y) (hy:Ka X.env.scope y) (S:bG X scope N ix) (hc:X.calm=true) (hit:PI X tg iter wi) (hG:lW ix g)
 (hb:∀ (s₀:Shared) (H₀:Hp) (C:Addr) (ex:List Addr),PG (bA X scope N s₀ H₀ C ex) tg g/\vm (bA X scope N s₀ H₀ C ex) ifs tc/\PE (bA X scope N s₀ H₀ C ex) elt te)
 (hsw:swapsWith (.ListComp elt [⟨tg,iter,ifs,0⟩] scope pos) (some (.Name y py)) spos.line X.env=pure true:=by rfl) (hs:∀ x,foldedSetIterable iter X.env x=pure x:=by intro _;rfl)
 (hf:X.fn y=true∨X.env.scope.names.lookup y=some .local:=by first | exact .inl rfl | exact .inr rfl | assumption):
 PS X (.Assign [.Name y py] (.ListComp elt [⟨tg,iter,ifs,0⟩] scope pos) spos) (zH (pE ix wi g tc te) (jZ i)):=by
 intro pins s σ H D0 I h;rw [exec_Assign_Name_used _ _ _ _ hsw];refine Rq (wpAny_standAt (Rq ?_));refine Rq (Sx (wpAny_comprehension_free   rfl hs (qw (S.cells I)) S.kind S.locs ?_) (λ _ s' hq=>Ru (Ru hq)) λ _ _ e=>e);refine cq (hit _ s σ H _ I h) λ v s1 h1=>cq h1 λ itv s2 h2=>?_;refine sv (Q:=λ x H1=>jZ i x σ H1 D0.nx) (Rr:=λ acc C=>compPost (model X.prog X.w) X.A X.xe (some (assign (.Name y py) X.env)) (λ _ s'=>SP X pins D0 .next s') acc C) S hc hG hb h2 ?_;intro s4 H' D C m ys hm fC _ I4 hDC q;obtain ⟨c0,c1,c2,c3,c4,c5⟩:=fC;refine wpAny_assign_Name (sI (v:=.ref D) I4 hN hi hy rfl (λ s5 I5 hsb=>?_) hf);obtain ⟨a,hsa,ha⟩:=hsb;have haC:C≠a:=by
  rcases ha with z | z
  . rw [z];exact c1
  . exact λ e=>c4 y a z e.symm
 refine ⟨m,hm.sameBut hsa haC,λ h' hs'=>?_⟩;have hCn:(cH H' D (.lst ys)) C=none:=by rw [aF hDC.symm];exact c0
 exact ⟨_,_,I5.turned (t':=s5.toks) (λ b o hb e=>hs'.extBut b o hb e) hCn c1 c3 c4 c5,q⟩
end
noncomputable def PH (T:String):Option Bool:=if T = "int" then some true else if T = "bool" then some false else if T = "str" then some false else if T = "list" then some false else if T = "tuple" then some false else if T = "dict" then some false else none
noncomputable def Js (T:String):Option Bool:=if T = "int" then some true else if T = "bool" then some true else if T = "str" then some false else if T = "list" then some false else if T = "tuple" then some false else if T = "dict" then some false else none
noncomputable def Jw (T:String):Option Bool:=if T = "int" then some false else if T = "bool" then some false else if T = "str" then some true else if T = "list" then some false else if T = "tuple" then some false else if T = "dict" then some false else none
noncomputable def C9 (v:V) (T:String):Option Bool:=match v with
 | .int _=>PH T
 | .bl _=>Js T
 | .str _=>Jw T
 | _=>none
theorem Dq:bN X (.builtin "isinstance") (λ xs H Q=>∃ v T k,xs=[v,.ty T]/\C9 v T=some k/\Q (.bl k) H):=by
 intro pins s σ H xs us Q I r h;obtain ⟨v,T,k,rfl,hk,q⟩:=h;cases r with
 | cons r rr=>
  cases rr with
  | cons r' rr=>
   cases rr;cases r';have fin:∀ {n:Option _} {T':String} {b:Bool},(if T=T' then some b else n)=some k->T=T'/\b=k∨n=some k:=λ {n T' b} h=>by
    grind
   cases v with
   | int i=>
    obtain ⟨t,rfl⟩:=r;replace hk  := hk;rcases fin hk with ⟨rfl,rfl⟩ | hk
    . exact IsiPair.int_int ⟨.bl _,H,I,rfl,q⟩
    rcases fin hk with ⟨rfl,rfl⟩ | hk
    . exact IsiPair.int_bool ⟨.bl _,H,I.tok _,rfl,q⟩
    rcases fin hk with ⟨rfl,rfl⟩ | hk
    . exact IsiPair.int_str ⟨.bl _,H,I.tok _,rfl,q⟩
    rcases fin hk with ⟨rfl,rfl⟩ | hk
    . exact IsiPair.int_list ⟨.bl _,H,I.tok _,rfl,q⟩
    rcases fin hk with ⟨rfl,rfl⟩ | hk
    . exact IsiPair.int_tuple ⟨.bl _,H,I.tok _,rfl,q⟩
    rcases fin hk with ⟨rfl,rfl⟩ | hk
    . exact IsiPair.int_dict ⟨.bl _,H,I.tok _,rfl,q⟩
    cases hk
   | bl i=>
    cases r;replace hk:Js T=some k:=hk;unfold Js at hk;rcases fin hk with ⟨rfl,rfl⟩ | hk
    . first | exact IsiPair.bool_int ⟨.bl _,H,I,rfl,q⟩ | exact IsiPair.bool_int ⟨.bl _,H,I.tok _,rfl,q⟩
    rcases fin hk with ⟨rfl,rfl⟩ | hk
    . first | exact IsiPair.bool_bool ⟨.bl _,H,I,rfl,q⟩ | exact IsiPair.bool_bool ⟨.bl _,H,I.tok _,rfl,q⟩
    rcases fin hk with ⟨rfl,rfl⟩ | hk
    . first | exact IsiPair.bool_str ⟨.bl _,H,I,rfl,q⟩ | exact IsiPair.bool_str ⟨.bl _,H,I.tok _,rfl,q⟩
    rcases fin hk with ⟨rfl,rfl⟩ | hk
    . first | exact IsiPair.bool_list ⟨.bl _,H,I,rfl,q⟩ | exact IsiPair.bool_list ⟨.bl _,H,I.tok _,rfl,q⟩
    rcases fin hk with ⟨rfl,rfl⟩ | hk
    . first | exact IsiPair.bool_tuple ⟨.bl _,H,I,rfl,q⟩ | exact IsiPair.bool_tuple ⟨.bl _,H,I.tok _,rfl,q⟩
    rcases fin hk with ⟨rfl,rfl⟩ | hk
    . first | exact IsiPair.bool_dict ⟨.bl _,H,I,rfl,q⟩ | exact IsiPair.bool_dict ⟨.bl _,H,I.tok _,rfl,q⟩
    cases hk
   | str i=>
    obtain ⟨t,rfl⟩:=r;replace hk:Jw T=some k:=hk;unfold Jw at hk;rcases fin hk with ⟨rfl,rfl⟩ | hk
    . first | exact IsiPair.str_int ⟨.bl _,H,I,rfl,q⟩ | exact IsiPair.str_int ⟨.bl _,H,I.tok _,rfl,q⟩
    rcases fin hk with ⟨rfl,rfl⟩ | hk
    . first | exact IsiPair.str_bool ⟨.bl _,H,I,rfl,q⟩ | exact IsiPair.str_bool ⟨.bl _,H,I.tok _,rfl,q⟩
    rcases fin hk with ⟨rfl,rfl⟩ | hk
    . first | exact IsiPair.str_str ⟨.bl _,H,I,rfl,q⟩ | exact IsiPair.str_str ⟨.bl _,H,I.tok _,rfl,q⟩
    rcases fin hk with ⟨rfl,rfl⟩ | hk
    . first | exact IsiPair.str_list ⟨.bl _,H,I,rfl,q⟩ | exact IsiPair.str_list ⟨.bl _,H,I.tok _,rfl,q⟩
    rcases fin hk with ⟨rfl,rfl⟩ | hk
    . first | exact IsiPair.str_tuple ⟨.bl _,H,I,rfl,q⟩ | exact IsiPair.str_tuple ⟨.bl _,H,I.tok _,rfl,q⟩
    rcases fin hk with ⟨rfl,rfl⟩ | hk
    . first | exact IsiPair.str_dict ⟨.bl _,H,I,rfl,q⟩ | exact IsiPair.str_dict ⟨.bl _,H,I.tok _,rfl,q⟩
    cases hk
   | _=>cases hk
section
variable {X:Cx}
noncomputable def HX (i j:Int):Prop:=j≠0/\j.natAbs<2^512
theorem LA:fX X (binaryOp .FloorDiv) (rI HX λ i j=>.int (i.fdiv j)):=KE λ i j _ _ _ _ _ hc q=>floordiv_int hc.1 q (.inl (PyProof.noPylong_of_log2 (by
 by_cases h0:j.natAbs=0
 . simp_all
 . have:=(Nat.log2_lt h0).mpr hc.2;omega)))
theorem Oj:fX X (binaryOp .Mod) (rI (λ _ j=>j≠0) λ i j=>.int (i.fmod j)):=EC
theorem boot_bool':bootBuiltins "bool" = some (.type "bool"):=by rfl
theorem wA {scope:Scope} {N:List Str} {ix:List (Option Nat)} (kind:scope.kind=.function) (nocell:(scope.names.all λ y=>y.2 != .cell)=true) (locs:(scope.names.all λ y=>y.2 != .local||scope.names.lookup y.1==some .local)=true)
 (free:(scope.names.all λ y=>y.2 != .free||X.env.kindOf y.1==some .cell||X.env.kindOf y.1==some .free)=true) (len:ix.length=N.length) (nd:N.Nodup)
 (fr:((ix.zip N).all λ p=>match p.1 with
  | none=>true
  | some i=>X.N[i]?==some p.2&&(X.env.kindOf p.2==some .cell||X.env.kindOf p.2==some .free)&&((relabel scope X.env).names.lookup p.2==some .cell||(relabel scope X.env).names.lookup p.2==some .free))=true):bG X scope N ix:=by
 refine ⟨kind,λ y hy=>?_,λ y hy hl=>?_,λ y hy hf=>?_,len,nd,λ j i e=>?_⟩
 . have:=UO.mp nocell y hy;simpa using this
 . have:=UO.mp locs y hy;rw [hl] at this;simpa using this
 . have:=UO.mp free y hy;rw [hf] at this;simpa using this
 . have hj:j<ix.length:=(oG e).1;have hj':j<N.length:=by omega
   have hm:(ix.zip N)[j]?=some (some i,N[j]):=by
    rw [List.getElem?_zip_eq_some];exact ⟨e,by simp [hj']⟩
   have:=UO.mp fr _ (Sq hm);simp only [RY,TK,UN] at this;exact ⟨N[j],by simp [hj'],this.1.1,this.1.2,this.2⟩
end
section
variable {K:Frag} {a b:Addr} {xs ys:List V} {wi:TI} {g:TG} {tb:TS} {D:oz} {σ:St} {H H1:Hp} {ix:List (Option Nat)} {tc:TT} {te:TE} {Q:VK}
end
theorem aM.turnedTup {σ:St} {ch:List Addr} {T:Addr} (I:aM X pins σ H s) (hf:∀ b∈ch,mM X pins H b)
 (k:∀ b o,b∉ch->s.heap.get? b=some o->h'.get? b=some o) (hT:s.heap.objs.size<=T) (eT:IsTup h' T its.toArray) (r:bf xs its) (hz:xs.length<=sizeLine):aM X pins σ (cH H T (.tup xs)) { s with heap:=h',toks:=t' }:=by
 have hTn  := I.hok.fresh hT;have big:∀ {c:Addr} {o:Obj},s.heap.get? c=some o->c≠T:=λ e=>RL (RD (RC e) hT);have LR:∀ c t,H c=some t->c∉ch:=λ c t e hc=>by rw [(hf c hc).1] at e;cases e
 refine I.step    (λ c hc=>⟨(hf c hc).2.2.2.1,(hf c hc).2.1,(hf c hc).2.2.2.2.1,(hf c hc).2.2.2.2.2⟩) (λ c o _ _ hc e _=>k c o hc e) (λ c o _ _ hc e _=>⟨o.slots,k c o hc e⟩) (λ c o hc e n=>?_) (λ c o hc e=>⟨o,k c o hc e⟩) (λ c t e=>?_) (λ c o t e=>?_) (λ c ps e=>?_) (λ m hm=>?_) (λ c t e=>?_) I.bare
 . rw [aF (big e)];exact n
 . rw [aF (bH e hTn)];exact e
 . rw [aF (bH e hTn)];exact e
 . exact ⟨#[],by rw [aF (bH e hTn),e];simp⟩
 . obtain ⟨o,es,ep,ho,r⟩:=hm;exact ⟨o,es,ep,k _ o (λ hc=>(hf _ hc).2.1 rfl) ho,r⟩
 . by_cases hcT:c=T
   . subst hcT;rw [aG] at e;cases e;exact ⟨hz,its,r,eT⟩
   . rw [aF hcT] at e;refine (I.hok c t e).stay (λ d o hd q=>k d o ?_ q) (λ d q=>by rw [aF (bH q hTn)];exact q) λ d zs q=>by rw [aF (bH q hTn)];exact q
     rcases hd with hd | hd
     . rw [hd];exact LR c t e
     . exact LR d _ hd
noncomputable def Pc (K:Frag) (a:Addr):It:=
 ⟨λ i H=>∃ xs x,cG K H a xs/\xs[i]?=some x,
  λ i H v H'=>∃ p x,H p=none/\v=.ref p/\H'=cH H p (.tup [.int i,x])/\∀ xs,cG K H a xs->xs[i]?=some x,
  λ i H=>∃ xs,cG K H a xs/\xs.length<=i⟩
theorem A4 {K:Frag} (a e it:Addr) (hei:e≠it):
 xv P w K (.Tuple elts x1 pos) (Pc K a) [e,it] e (λ i h=>(∃ old,IsEnum h e it i old)/\h.IsListIter it a i) where
 mem:=by simp
 obj:=λ i h st c hc=>by
  obtain ⟨⟨old,e1⟩,⟨o4,e4,_,d4⟩⟩:=st
  grind
 keep:=λ i h h' st k=>by
  obtain ⟨⟨old,e1⟩,e4⟩:=st;exact ⟨⟨old,k e (by simp) _ e1⟩,e4.at λ o q=>k it (by simp) o q⟩
 item:=by
  intro X hP hw hK hc i pins s σ H E I hf st hg;subst hP hw hK;obtain ⟨xs,x,qx,hx⟩:=hg;obtain ⟨its,rvx,px,_⟩:=I.list qx;obtain ⟨u,hu,ru⟩:=rvx.get hx;obtain ⟨⟨old,e1⟩,e4⟩:=st;have big:∀ {c:Addr} {o:Obj},s.heap.get? c=some o->c≠s.heap.objs.size:=λ e=>RL (RC e);refine wpAny_pyNext_enum_item e1 e4 px.isList (x:=u) (by simpa using hu) hei λ h' a1 a2 a3 a4 a5=>?_;refine ⟨_,rfl,wpAny_letOwnedTupleGo_enum (s:={ s with heap:=h',toks:=s.toks+1 }) a1 λ h'' b1 b2=>?_⟩;have k2:∀ c o,c∉[e,it]->s.heap.get? c=some o->h''.get? c=some o:=λ c o hc q=>by
   simp only [Rx,RT,Te,not_or] at hc;exact (b2.2 c hc.1).trans (a5 c o hc.1 hc.2 q)
  have eT:IsTup h'' s.heap.objs.size (List.toArray [.int i s.toks,u]):=⟨_,(b2.2 _ (big e1).symm).trans a3,rfl,_,rfl⟩
  have I1:=I.turnedTup (t':=s.toks+1) (xs:=[.int i,x]) hf k2 (Ry _) eT (.cons ⟨_,rfl⟩ (.cons ru .nil)) (by show 2<=sizeLine;decide);refine ⟨.ref s.heap.objs.size,_,I1,rfl,⟨s.heap.objs.size,x,I.hok.fresh (Ry _),rfl,rfl,λ zs hz=>by rw [I.list_inj hz qx];exact hx⟩,⟨⟨u,by simpa using b1⟩,a2.at λ o q=>(b2.2 _ hei.symm).trans q⟩,λ c hc=>?_⟩;have hcn:c≠s.heap.objs.size:=by
   obtain ⟨o4,g4,_⟩:=id e4;simp only [Rx,RT,Te] at hc;rcases hc with rfl | rfl
   . exact big e1
   . exact big g4
  rw [aF hcn];exact (hf c hc).1
 done:=by
  intro X hP hw hK hc i pins s σ H E I hf st hg;subst hP hw hK;obtain ⟨xs,qx,hl⟩:=hg;obtain ⟨its,rvx,px,_⟩:=I.list qx;obtain ⟨⟨old,e1⟩,e4⟩:=st;have lx:=rvx.length;obtain ⟨f0,f1,f2,f3,f4,f5⟩:=hf it (by simp);exact wpAny_pyNext_enum_end (I.ok.hd hc) e1 e4 px.isList (by simp;omega) λ h' k=>⟨rfl,I.turned (t':=s.toks) (λ b o hb q=>k b o hb q) f0 f1 f3 f4 f5⟩
 self:=λ _ _ _ _ _ st h=>by
  obtain ⟨⟨old,e1⟩,_⟩:=st;exact UE e1 h
noncomputable def Dr (K:Frag) (ta:TA):TI:=λ σ H R=>ta σ H λ vs H1=>∃ a,vs=[.ref a]/\(∃ xs,cG K H1 a xs)/\R (Pc K a) H1
theorem FI (hg:Gl X "enumerate") (hm:X.mg "enumerate" = none) (ha:PA X [a] ta) (hs:starEach [a] X.env=[(false,eval a X.env)]:=by rfl):
 PI X (.Tuple elts x1 tpos) (.Call (.Name "enumerate" p) [a] [] pos) (Dr X.K ta):=by
 intro pins s σ H R I h;refine Call_ (mI I hg hm boot_enumerate (Uc (cq (ha _ _ s σ H _ I h) λ us s1 hq0=>?_) hs rfl));obtain ⟨vs,H1,I1,r1,q1⟩:=hq0;obtain ⟨a,e,⟨xs,qx⟩,q⟩:=q1;subst e;cases r1 with
 | cons r rr=>
  cases rr;cases r;obtain ⟨its,rvx,px,_⟩:=I1.list qx;refine call_enumerate_list px.isList λ h' g5 g1 z5 k=>?_;refine UE  g5 ?_;refine ⟨s1.heap.objs.size+1,[s1.heap.objs.size+1,s1.heap.objs.size],_,_,H1,rfl,I1.kept  k,A4 a _ _ (UB (SG _)),⟨⟨_,g5⟩,g1⟩,λ c hc=>?_,q⟩;have hc':s1.heap.objs.size<=c:=by
   grind
  exact I1.fpOk hc' (I1.hok.fresh hc')
mutual
inductive Dp (K:Frag) (H:Hp):V->PyData->Prop
 | non:Dp K H .non .none
 | bl (b:Bool):Dp K H (.bl b) (.bool b)
 | int (i:Int):Dp K H (.int i) (.int i)
 | str (x:Str):Dp K H (.str x) (.str x)
 | lst {a:Addr} {xs:List V} {ds:List PyData}:cG K H a xs->nF K H xs ds->Dp K H (.ref a) (.list ds)
 | tup {a:Addr} {xs:List V} {ds:List PyData}:eZ K H a xs->nF K H xs ds->Dp K H (.ref a) (.tuple ds)
inductive nF (K:Frag) (H:Hp):List V->List PyData->Prop
 | nil:nF K H [] []
 | cons {v:V} {vs:List V} {d:PyData} {ds:List PyData}:Dp K H v d->nF K H vs ds->nF K H (v::vs) (d::ds)
end
theorem Dp.reads {σ:St} (I:aM X pins σ H s) (h:Dp X.K H v d):bh v u->∃ as,Reads s.heap u d as:=
 Dp.rec  (motive_2:=λ vs ds _=>∀ us,bf vs us->∃ as,ReadsAll _ us ds as)
  (λ u r=>by cases r;exact ⟨_,.none⟩) (λ b u r=>by cases r;exact ⟨_,.bool b⟩) (λ i u r=>by obtain ⟨t,rfl⟩:=r;exact ⟨_,.int i t⟩) λ x u r=>by obtain ⟨t,rfl⟩:=r;exact ⟨_,.str x t⟩
  λ q _ ih u r=>by
   cases r;obtain ⟨its,rv,⟨o,n,e,c,_,d⟩,_⟩:=I.list q;obtain ⟨as,ra⟩:=ih _ rv;exact ⟨_,.list e c d (by omega)⟩
  (λ q _ ih u r=>by
   cases r;obtain ⟨its,rv,⟨o,e,c,n,d⟩,_⟩:=I.tuple q;obtain ⟨as,ra⟩:=ih _ rv;exact ⟨_,.tuple e c d (by omega)⟩)
  (λ us r=>by cases r;exact ⟨_,.nil⟩)
  (λ _ _ ih1 ih2 us r=>by
   cases r with
   | cons r rr=>
    obtain ⟨as,ra⟩:=ih1 _ r;obtain ⟨bs,rb⟩:=ih2 _ rr;exact ⟨_,.cons ra rb⟩) h u
noncomputable def Fg (K:Frag) (neg:Bool):R2:=λ x y H Q=>∃ d e,Dp K H x d/\Dp K H y e/\d.canLay0=true/\e.canLay0=true/\d.depth<=64/\Q (.bl (if neg then !(PyData.eqv d e) else PyData.eqv d e)) H
theorem IJ {X:Cx} (hu:X.A.units+64<cLine):fX X (compareOp .Eq) (Fg X.K false):=by
 intro pins s σ H x y v u Q I rx ry h;obtain ⟨d,e,hx,hy,cd,ce,dd,q⟩:=h;obtain ⟨as,ra⟩:=hx.reads I rx;obtain ⟨bs,rb⟩:=hy.reads I ry;exact SeqAt.compareEq_reads ra rb cd ce (by omega) ⟨.bl _,H,I,rfl,by simpa using q⟩
theorem IC {X:Cx} (hu:X.A.units+64<cLine):fX X (compareOp .NotEq) (Fg X.K true):=by
 intro pins s σ H x y v u Q I rx ry h;obtain ⟨d,e,hx,hy,cd,ce,dd,q⟩:=h;obtain ⟨as,ra⟩:=hx.reads I rx;obtain ⟨bs,rb⟩:=hy.reads I ry;exact SeqAt.compareNe_reads ra rb cd ce (by omega) ⟨.bl _,H,I,rfl,by simpa using q⟩
section
variable {P:Program} {w:World} {K:Frag} {mg:Str->Option Value} {base:Heap} {N:List Str} {qual:Str} {scope:Scope} {f:Addr} {cd:Value} {A:Around} {outer:List Env} {s:Shared} {H:Hp} {E:XK}
end
section
variable {X:Cx} {E:XK} {C:Addr} {x:Str} {np cpos pos:Pos} {e:Expr} {es:List Expr} {t:TA}
end
section
variable {K:Frag} {x D:Addr}
variable {prog:Program} {w:World} {A:Around} {E:Value->Shared->Prop} {s:Shared} {nm:Str}
end
section
variable {X:Cx}
end
section
variable {κ:Type} [DecidableEq κ]
noncomputable def jO (kvs:List (κ×V)) (k:κ):Option V:=(kvs.find? λ kv=>decide (kv.1=k)).map (·.2)
noncomputable def lE (kvs:List (κ×V)) (k:κ) (v:V):List (κ×V):=
 if (kvs.any λ kv=>decide (kv.1=k))=true then kvs.map (λ kv=>if kv.1=k then (kv.1,v) else kv) else kvs++[(k,v)]
theorem lI {p:κ×V} (e:p.1=k):jO (p::r) k=some p.2:=by simp [jO,  e]
theorem jd {p:κ×V} (e:¬ p.1=k):jO (p::r) k=jO r k:=by simp [jO,  e]
theorem vW (k:κ):∀ kvs:List (κ×V),(kvs.any λ kv=>decide (kv.1=k))=(jO kvs k).isSome
 | []=>rfl
 | p::r=>by
  rw [Uo];by_cases e:p.1=k
  . simp only [lI e,RK e,Bool.true_or,To]
  . rw [jd e,RB e,Bool.false_or];exact vW k r
theorem n4 (kvs:List (κ×V)) (k:κ) (v:V):(lE kvs k v).length<=kvs.length+1:=by
 unfold lE
 grind
theorem j4.isSome_eq (r:j4 o u):o.isSome=u.isSome:=by
 cases o with
 | none=>cases u with
  | none=>rfl
  | some _=>exact (show False from r).elim
 | some _=>cases u with
  | none=>exact (show False from r).elim
  | some _=>rfl
theorem j4.getD (r:j4 o u) (rd:bh d d'):bh (o.getD d) (u.getD d'):=by
 cases o with
 | none=>cases u with
  | none=>exact rd
  | some _=>exact (show False from r).elim
 | some _=>cases u with
  | none=>exact (show False from r).elim
  | some _=>exact r
theorem KV.val (r:KV kvs vs) (k:κ):j4 (jO kvs k) (valueAt vs k):=by
 induction r with
 | nil=>exact True.intro
 | @cons p q ps qs h t ih=>
  obtain ⟨h1,h2⟩:=h;by_cases e:p.1=k
  . have e'  := h1.symm.trans e;have b:valueAt (q::qs) k=some q.2:=by simp [valueAt,  e']
    rw [lI e,b];exact h2
  . have e':¬ q.1=k:=λ z=>e (h1.trans z);have b:valueAt (q::qs) k=valueAt qs k:=by simp [valueAt,  e']
    rw [jd e,b];exact ih
theorem KV.any (r:KV kvs vs) (k:κ):(kvs.any λ kv=>decide (kv.1=k))=vs.any λ kv=>decide (kv.1=k):=by
 induction r with
 | nil=>rfl
 | cons h t ih=>simp_all
theorem KV.repl (r:KV kvs vs) (k:κ) (ry:bh y u):
 KV (kvs.map λ kv=>if kv.1=k then (kv.1,y) else kv) (vs.map λ kv=>if kv.1=k then (kv.1,u) else kv):=by
 induction r with
 | nil=>exact .nil
 | @cons p q ps qs h t ih=>
  rw [RU,RU];refine .cons ?_ ih
  grind
theorem KV.put (r:KV kvs vs) (k:κ) (ry:bh y u):KV (lE kvs k y) (stored vs k u):=by
 unfold lE stored;rw [r.any k];by_cases e:(vs.any λ kv=>decide (kv.1=k))=true
 . rw [Rt e,Rt e];exact r.repl k ry
 . rw [RJ e,RJ e];exact Paired.snoc r ⟨rfl,ry⟩
theorem KV.length {kvs:List (κ×V)} (r:KV kvs vs):kvs.length=vs.length:=Ts r
end
theorem vK (r:bh (kV k) u):(bx P w).is k u=true:=by
 cases k with
 | inl i=>obtain ⟨t,e⟩:=show ∃ t,u=Value.int i t from r;subst e;exact vX P w i t
 | inr x=>obtain ⟨t,e⟩:=show ∃ t,u=Value.str x t from r;subst e;exact vH P w x t
theorem rS:∀ {ks:List b8} {us:List Value},bf (ks.map kV) us->ItemsAre (bx P w) ks us
 | [],_,r=>by cases r;exact .nil
 | k::ks,_,r=>by
  cases r with
  | cons h t=>exact .cons (vK h) (rS t)
noncomputable abbrev KT (H:Hp):List (List b8×V)->List (List b8×Addr×Value)->Prop:=Paired λ p q=>p.1=q.1/\H q.2.1=some (.tup (p.1.map kV))/\bh p.2 q.2.2
theorem KT.val (r:KT H kvs xs) (k:List b8):j4 (jO kvs k) ((atKey xs k).map (·.2)):=by
 induction r with
 | nil=>exact True.intro
 | @cons p q ps qs h t ih=>
  obtain ⟨h1,_,h2⟩:=h;by_cases e:p.1=k
  . have e'  := h1.symm.trans e;have b:atKey (q::qs) k=some q.2:=by simp [atKey,  e']
    rw [lI e,b];exact h2
  . have e':¬ q.1=k:=λ z=>e (h1.trans z);have b:atKey (q::qs) k=atKey qs k:=by simp [atKey,  e']
    rw [jd e,b];exact ih
theorem KT.repl (r:KT H kvs xs) (k:List b8) (ry:bh y u):
 KT H (kvs.map λ kv=>if kv.1=k then (kv.1,y) else kv) (xs.map (putAt k u)):=by
 induction r with
 | nil=>exact .nil
 | @cons p q ps qs h t ih=>
  rw [RU,RU];refine .cons ?_ ih;obtain ⟨h1,h2,h3⟩:=h;unfold putAt
  grind
theorem KT.put (r:KT H kvs xs) (k:List b8) (hb:H b=some (.tup (k.map kV))) (ry:bh y u):
 KT H (lE kvs k y) (storedH xs k b u):=by
 have e:(kvs.any λ kv=>decide (kv.1=k))=(atKey xs k).isSome:=by
  rw [vW,(r.val k).isSome_eq,Option.isSome_map]
 unfold lE storedH;rw [e];by_cases q:(atKey xs k).isSome=true
 . rw [Rt q,Rt q];exact r.repl k ry
 . rw [RJ q,RJ q];exact Paired.snoc r ⟨rfl,hb,ry⟩
theorem KT.keeps (r:KT H kvs xs) (ht:∀ b ys,H b=some (.tup ys)->H' b=some (.tup ys)):KT H' kvs xs:=
 Paired.mapP r λ _ _ z=>⟨z.1,ht _ _ z.2.1,z.2.2⟩
section
variable {P:Program} {w:World} {H:Hp} {h:Heap} {a:Addr}
theorem HF (ok:jN P w H h) (e:Rd H a u):bY P w H h a u:=e.ok ok
theorem qk (ok:jN P w H h) (e:Rd H a (.dK kvs)):kvs.length<=sizeLine/\(a==sysModules)=false/\∃ vs,KV kvs vs/\h.DictOf (bx P w) a vs:=
 by obtain ⟨z,y,vs,r,x⟩:=show bY P w H h a _ from HF ok e;exact ⟨z,y,vs,r,x.of⟩
theorem LH (ok:jN P w H h) (e:H a=some (.dK kvs)):∃ vs,KV kvs vs/\nO P w h a vs:=by
 obtain ⟨_,_,vs,r,x⟩:=(show bY P w H h a _ from ok a _ e);grind
theorem Ig (ok:jN P w H h) (e:H a=some (.dK kvs)):kvs.length<=sizeLine/\(a==sysModules)=false/\∃ vs,KV kvs vs/\h.DictOf (bx P w) a vs:=qk ok (.inl e)
theorem qt (ok:jN P w H h) (e:H a=some (.tup (ks.map kV))):(tupleKind (bx P w)).is h ks a:=by
 obtain ⟨_,its,r,o,h1,h2,n,h3⟩:=show bY P w H h a _ from ok a _ e
 exact ⟨o,its.toArray,n,h1,h2,h3,by simpa using rS r⟩
theorem sH (ok:jN P w H h) (e:Rd H a (.dT kvs)):kvs.length<=sizeLine/\(a==sysModules)=false/\
 ∃ xs,KT H kvs xs/\h.DictOfH (tupleKind (bx P w)) a xs:=by
 obtain ⟨z,y,xs,r,o,es,ep,h1,h2,h3,h4,h5⟩:=(show bY P w H h a _ from HF ok e)
 refine ⟨z,y,xs,r,o,es,ep,h1,h2,h3,h4,λ x hx=>?_,h5⟩;have all:∀ {l:List _} {m:List _},KT H l m->∀ x∈m,(tupleKind (bx P w)).is h x.1 x.2.1:=by
  intro l m q;induction q with
  | nil=>simp_all
  | @cons p q ps qs hq t ih=>
   intro x hx;rcases Rx.mp hx with e | hx
   . subst e;exact qt ok (by simp_all)
   grind
 grind
theorem D5 (ok:jN P w H h) (e:H a=some (.dT kvs)):kvs.length<=sizeLine/\(a==sysModules)=false/\
 ∃ xs,KT H kvs xs/\h.DictOfH (tupleKind (bx P w)) a xs:=sH ok (.inl e)
end
noncomputable def ma (H:Hp) (a:Addr) (y:V) (r:Option V):Prop:=
 (∃ kvs k,Rd H a (.dK kvs)/\y=kV k/\r=jO kvs k)∨∃ kvs k b,Rd H a (.dT kvs)/\y=.ref b/\H b=some (.tup (k.map kV))/\r=jO kvs k
noncomputable def tq (H:Hp) (a:Addr) (y v:V) (H':Hp):Prop:=
 (∃ kvs k,H a=some (.dK kvs)/\y=kV k/\kvs.length<sizeLine/\H'=cH H a (.dK (lE kvs k v)))∨
 ∃ kvs k b,H a=some (.dT kvs)/\y=.ref b/\H b=some (.tup (k.map kV))/\kvs.length<sizeLine/\H'=cH H a (.dT (lE kvs k v))
theorem ma.k {k:b8} (e:H a=some (.dK kvs)):ma H a (kV k) (jO kvs k):=.inl ⟨kvs,k,.inl e,rfl,rfl⟩
theorem ma.t {k:List b8} (e:H a=some (.dT kvs)) (eb:H b=some (.tup (k.map kV))):ma H a (.ref b) (jO kvs k):=.inr ⟨kvs,k,b,.inl e,rfl,eb,rfl⟩
theorem tq.k {k:b8} (e:H a=some (.dK kvs)) (hl:kvs.length<sizeLine):tq H a (kV k) v (cH H a (.dK (lE kvs k v))):=.inl ⟨kvs,k,e,rfl,hl,rfl⟩
theorem tq.t {k:List b8} (e:H a=some (.dT kvs)) (eb:H b=some (.tup (k.map kV))) (hl:kvs.length<sizeLine):
 tq H a (.ref b) v (cH H a (.dT (lE kvs k v))):=.inr ⟨kvs,k,b,e,rfl,eb,hl,rfl⟩
section
variable {X:Cx} {pins:List (Addr×Obj)} {σ:St} {H:Hp} {s:Shared} {a:Addr} {y v:V} {u r:Value} {o:Option V} {A:Around} {E:Value->Shared->Prop}
theorem aM.big (I:aM X pins σ H s):sysModules<s.heap.objs.size:=by
 have h  := (I.mod.glob.keeps I.bk).lt;exact TL (by decide) h
theorem zY (hu:A.units+1<cLine) (I:aM X pins σ H s) (g:ma H a y (some v)) (ry:bh y u) (h:∀ w' s',aM X pins σ H s'->bh v w'->Q w' s'):
 wpAny (model X.prog X.w) A (getItem (.ref a) u) Q E s:=by
 rcases g with ⟨kvs,k,e,ey,l⟩ | ⟨kvs,k,b,e,ey,eb,l⟩
 . subst ey;obtain ⟨z,hd,vs,rel,dd⟩:=qk I.hok e;obtain ⟨w',hw,rw'⟩:=j4.some_of   (by rw [l];exact rel.val k);exact wpAny_getItem_of (vK ry) dd.mapOf hw (h w' _ (I.tok _) rw')
 . subst ey;cases show u=Value.ref b from ry
   obtain ⟨z,hd,xs,rel,dd⟩:=sH I.hok e;obtain ⟨w',hw,rw'⟩:=j4.some_of   (by rw [l];exact rel.val k);obtain ⟨p,hp,hp2⟩:=oM hw
   refine wpAny_getItem_heap (Uw hu) (qt I.hok eb) dd hp ?_;rw [hp2];exact h w' _ (I.tok _) rw'
theorem FE (hu:A.units+1<cLine) (I:aM X pins σ H s) (g:ma H a y o) (ry:bh y u) (h:∀ s',aM X pins σ H s'->Q (.bool (!o.isSome)) s'):
 wpAny (model X.prog X.w) A (compareOp .NotIn u (.ref a)) Q E s:=by
 rcases g with ⟨kvs,k,e,ey,l⟩ | ⟨kvs,k,b,e,ey,eb,l⟩
 . subst ey;obtain ⟨z,hd,vs,rel,dd⟩:=qk I.hok e;refine wpAny_notIn_of (vK ry) hd dd.mapOf ?_;rw [<-(rel.val k).isSome_eq,<-l];exact h _ (I.tok _)
 . subst ey;cases show u=Value.ref b from ry
   obtain ⟨z,hd,xs,rel,dd⟩:=sH I.hok e;refine wpAny_notIn_heap (Uw hu) (qt I.hok eb) hd dd ?_;have q:=(rel.val k).isSome_eq;rw [Option.isSome_map] at q;rw [<-q,<-l];exact h _ (I.tok _)
theorem y7 (I:aM X pins σ H s) (mu:MJ (H a)) (hs:Heap.SameBut a s.heap h') (he:∃ q,h'.get? a=some q) (new:bY X.prog X.w (cH H a ob) h' a ob):
 aM X pins σ (cH H a ob) { s with heap:=h',toks:=t' }:=
 I.write   mu (.inl rfl) (λ b q hb z=>(hs.2 b hb).trans z) he new
theorem Ke (z:kvs.length<=sizeLine) (hd:(a==sysModules)=false) (rel:KV kvs vs) (dd:nO P w h' a vs):
 bY P w H' h' a (.dK kvs):=⟨z,hd,vs,rel,dd⟩
theorem Mo {key v:Value} (hkey:(bx P w).is k key=true) (hm:nO P w s.heap d kvs) (hsz:kvs.length<=sizeLine)
 (hQ:∀ h',nO P w h' d (stored kvs k v)->Heap.SameBut d s.heap h'->Q () { s with heap:=h',toks:=s.toks+1 }):wpAny (model P w) A (setItem (.ref d) key v) Q E s:=by
 have T:=hm.of.typeIs;obtain ⟨o,es,ep,ho,hc,hd,he,hk,hp,hn⟩:=hm;have hes:es.size<=sizeLine:=by have e1:=hp.length;simp_all
 unfold setItem;try with_reducible refine Ss ?_
 refine Rq (wpAny_sequenceKey T (by decide) (Rq (Tw  T F.slot_dict_setitem (SI F.slot_dict_setitem T F.entry_dict_setitem (Rq (wpAny_notOrdered_dict T (show wpAny _ _ (dictSet d _ v >>= _) _ _ s from Rq ?_))) (args_dict_setitem _ _ _)))));unfold dictSet;try with_reducible refine Ss ?_
 refine Rq ((bx P w).pyHash hkey ?_);unfold dictSetHashed;try with_reducible refine Ss ?_
 refine Rq (wpAny_dictFind_of  hkey ho hd hk ?_);have ix:(es.findIdx? λ e=>(bx P w).is k e.key)=kvs.findIdx? λ kv=>decide (kv.1=k):=by
  rw [<-hp.findIdx k];obtain ⟨l⟩:=es;simp
 cases hi:es.findIdx? λ e=>(bx P w).is k e.key with
 | some i=>
  have an:=any_of_findIdx_some (ix▸hi);have hl:(es.toList.findIdx? λ e=>(bx P w).is k e.key)=some i:=by rw [<-hi];obtain ⟨l⟩:=es;simp
  have hm:=hp.modify hn hl v;refine Rq (TC (Rq (wpAny_updateDict (s:={ s with toks:=s.toks+1 }) ho hd (wpAny_point (Ru ⟨.none,rfl,Ru (hQ _ ?_ (SJ ..))⟩)))));refine ⟨_,_,ep,TD _ ho (Obj.isFreed_of_dict (Obj.data_mapDict hd _)),hc.mapDict _,Obj.data_mapDict hd _,by simpa using he,hk.modify _ _,?_,?_⟩
  . rw [stored,Rt an];obtain ⟨l⟩:=es;simpa using hm
  . rw [stored,Rt an,keys_map_store];exact hn
 | none=>
  have nm:k∉kvs.map (·.1):=not_mem_of_findIdx_none (ix▸hi);have na:¬ (kvs.any λ kv=>decide (kv.1=k))=true:=λ z=>by
   obtain ⟨kv,h1,h2⟩:=R7.mp z;exact nm (Sc.mpr ⟨kv,h1,Sh h2⟩)
  have ha:=hp.append hkey ((bx P w).hash k) v;refine Rq (TC (wpAny_updateDictKeys (hz:=hes) (s:={ s with toks:=s.toks+1 }) ho hd (Ru ⟨.none,rfl,Ru (hQ _ ?_ (SJ ..))⟩)));refine ⟨_,_,ep+1,TD _ ho (Obj.isFreed_of_dict (Obj.data_mapDictKeys hd _)),hc.mapDictKeys _,Obj.data_mapDictKeys hd _,by simp [he],hk.push hkey _,?_,?_⟩
  . rw [stored,RJ na];obtain ⟨l⟩:=es;simpa using ha
  . rw [stored,RJ na,RW,List.nodup_append];exact ⟨hn,by simp,λ x hx y hy z=>nm (by simp at hy;rw [<-hy,<-z];exact hx)⟩
theorem Ah (hu:A.units+1<cLine) (I:aM X pins σ H s) (g:tq H a y v H') (ry:bh y u) (rv:bh v r) (h:∀ s',aM X pins σ H' s'->Q () s'):
 wpAny (model X.prog X.w) A (setItem (.ref a) u r) Q E s:=by
 rcases g with ⟨kvs,k,e,ey,l,eH⟩ | ⟨kvs,k,b,e,ey,eb,l,eH⟩
 . subst ey eH;obtain ⟨z,hd,_⟩:=Ig I.hok e;obtain ⟨vs,rel,dd⟩:=LH I.hok e;have hz:vs.length<=sizeLine:=by rw [<-rel.length];exact z
   have hl:(lE kvs k v).length<=sizeLine:=by have:=n4 kvs k v;omega
   refine Mo (vK ry) dd hz λ h' dd' hs=>h _ ?_;have he:∃ q,h'.get? a=some q:=let ⟨q,_,_,hq,_⟩:=dd';⟨q,hq⟩;exact y7 I (by rw [e];exact True.intro) hs he (Ke hl hd (rel.put k rv) dd')
 . subst ey eH;cases show u=Value.ref b from ry
   obtain ⟨z,hd,xs,rel,dd⟩:=D5 I.hok e;have hz:xs.length<=sizeLine:=by rw [<-Ts rel];exact z
   have hl:(lE kvs k v).length<=sizeLine:=by have:=n4 kvs k v;omega
   refine wpAny_setItem_heap (hsz:=hz) (Uw hu) (qt I.hok eb) dd λ h' dd' hs=>h _ ?_;obtain ⟨q,es,ep,hq,h2,h3,h4,_,h5⟩:=dd';refine y7 I (by rw [e];exact True.intro) hs ⟨q,hq⟩ ⟨hl,hd,_,(rel.put k eb rv).keeps λ c ys ec=>?_,q,es,ep,hq,h2,h3,h4,h5⟩;rw [aF (MA ec e (λ z=>nomatch z))];exact ec
end
section
variable {X:Cx} {pins:List (Addr×Obj)} {σ:St} {H:Hp} {s:Shared} {a:Addr} {kvs:List (b8×V)} {k:b8} {u:Value} {A:Around} {E:Value->Shared->Prop}
theorem LY (I:aM X pins σ H s) (e:Rd H a (.dK kvs)) (h:∀ t s',aM X pins σ H s'->Q (.int kvs.length t) s'):wpAny (model X.prog X.w) A (call (.builtin "len") [.ref a]) Q E s:=by
 obtain ⟨z,hd,vs,rel,dd⟩:=qk I.hok e;refine call_len_dict hd dd (by rw [<-rel.length];rw [T6] at z;omega) ?_;rw [<-rel.length];exact h _ _ (I.tok _)
end
noncomputable def Nb (i:Expr):Prop:=∀ ov iv,subscripted i false ov iv=operate [ov,iv] (getItem ov iv)
theorem Gp {T id:String}
 (hl:typeLookup (.type T) "__getitem__" = pure (some (.builtin id))) (hs:Nb slice)
 (h:wpAny (model prog w) A (eval value env) (λ o s₁=>wpAny (model prog w) A (eval slice env) (λ i s₂=>s₂.TypeIs o T/\wpAny (model prog w) A (getItem o i) Q E s₂) E s₁) E s):
 wpAny (model prog w) A (eval (.Subscript value slice pos) env) Q E s:=by
 refine Subscript_ (Sx h (λ o s₁ h₁=>Sx h₁ (λ i s₂ h₂=>?_) λ _ _ x=>x) λ _ _ x=>x);obtain ⟨hT,h₂⟩:=h₂;refine Rq ?_;refine Rq (wpAny_specialOf hT hl ?_);have fin:wpAny (model prog w) A (subscripted slice false o i) (λ r s₃=>wpAny (model prog w) A (letTemporaryGo value o r >>= λ _=>pure r) Q E s₃) E s₂:=by
  rw [hs o i];exact wpAny_operating (Sx h₂ (λ r s₃ h₃=>Rq (wpAny_letTemporaryGo (Ru h₃))) λ _ _ x=>x)
 first
  | exact Ru (Rq fin)
  | rfl
  | rfl
theorem vw {σ:St} (I:aM X pins σ H s) (g:ma H a y o):s.TypeIs (.ref a) "dict" := by
 rcases g with ⟨kvs,k,e,_,_⟩ | ⟨kvs,k,b,e,_,_,_⟩
 . obtain ⟨_,_,vs,_,dd⟩:=qk I.hok e;exact dd.typeIs
 . obtain ⟨_,_,xs,_,dd⟩:=sH I.hok e;exact dd.typeIs
noncomputable def HV (td ty:TE):TE:=λ σ H Q=>td σ H λ x H1=>ty σ H1 λ y H2=>∃ a v,x=.ref a/\ma H2 a y (some v)/\Q v H2
noncomputable def zy (ty td:TE):TE:=λ σ H Q=>ty σ H λ y H1=>td σ H1 λ x H2=>∃ a o,x=.ref a/\ma H2 a y o/\Q (.bl (!o.isSome)) H2
noncomputable def HJ (td ty tv:TE):TS:=λ D σ H=>tv σ H λ v H1=>td σ H1 λ x H2=>ty σ H2 λ y H3=>∃ a H4,x=.ref a/\tq H3 a y v H4/\D.nx σ H4
section
variable {X:Cx} {o i e value:Expr} {pos pos' tpos:Pos} {td ty tv:TE}
theorem Og (hu:X.A.units+1<cLine) (ho:PE X o td) (hi:PE X i ty) (hs:Nb i):PE X (.Subscript o i pos) (HV td ty):=by
 intro pins s σ H Q I h;refine Gp PySem.F.slot_dict_getitem.lookup hs (cq (ho _ s σ H _ I h) λ u s1 hy0=>?_);obtain ⟨x,H1,I1,rx,q1⟩:=hy0;refine cq (hi _ s1 σ H1 _ I1 q1) λ iv s2 hq0=>?_;obtain ⟨y,H2,I2,ry,a,v,ex,g,q2⟩:=hq0;subst ex;obtain rfl:u=Value.ref a:=rx;exact ⟨vw I2 g,zY hu I2 g ry λ w' s3 I3 rw'=>⟨v,H2,I3,rw',q2⟩⟩
theorem KW (hu:X.A.units+1<cLine) (hi:PE X i ty) (ho:PE X o td):PC X .NotIn i o (zy ty td):=by
 intro pins s σ H Q I h;refine cq (hi _ s σ H _ I h) λ iv s1 hy0=>?_;obtain ⟨y,H1,I1,ry,q1⟩:=hy0;refine cq (ho _ s1 σ H1 _ I1 q1) λ u s2 hq0=>?_;obtain ⟨x,H2,I2,rx,a,ov,ex,g,q2⟩:=hq0;subst ex;obtain rfl:u=Value.ref a:=rx;exact FE hu I2 g ry λ s3 I3=>⟨.bl _,H2,I3,rfl,q2⟩
theorem NW (hu:X.A.units+1<cLine) (ho:PE X o td) (hi:PE X i ty) (hv:PE X value tv) (hs:swapsWith value (some (.Subscript o i pos')) pos.line X.env=pure false):
 PS X (.Assign [.Subscript o i pos'] value pos) (HJ td ty tv):=by
 intro pins s σ H D I h;refine wpAny_Assign_Subscript (cq (hv _ s σ H _ I h) λ r s1 hy0=>?_) hs;obtain ⟨v,H1,I1,rv,q1⟩:=hy0;refine cq (ho _ s1 σ H1 _ I1 q1) λ u s2 hy0=>?_;obtain ⟨x,H2,I2,rx,q2⟩:=hy0;refine cq (hi _ s2 σ H2 _ I2 q2) λ iv s3 hq0=>?_;obtain ⟨y,H3,I3,ry,a,H4,ex,g,q3⟩:=hq0;subst ex;obtain rfl:u=Value.ref a:=rx;exact Ah hu I3 g ry rv λ s4 I4=>⟨σ,H4,I4,q3⟩
end
theorem BN (h:Heap) (hb:sysModules<h.objs.size):bY P w H (h.push { cls:=.type "dict", data:=.dict #[] }) h.objs.size (.dK []):=
 ⟨Tf _,TY.mpr (SN (RL hb)),[],.nil,_,#[],0,RF _ rfl,⟨rfl,rfl,rfl⟩,rfl,rfl,λ _ he=>by simp at he,.nil,List.nodup_nil⟩
theorem CH (h:Heap) (hb:sysModules<h.objs.size):bY P w H (h.push { cls:=.type "dict", data:=.dict #[] }) h.objs.size (.dT []):=
 ⟨Tf _,TY.mpr (SN (RL hb)),[],.nil,_,#[],0,RF _ rfl,⟨rfl,rfl,rfl⟩,rfl,rfl,List.nodup_nil⟩
noncomputable def B8:TE:=λ _ H Q=>∀ p,H p=none->Q (.ref p) (cH H p (.dK []))
noncomputable def BQ:TE:=λ _ H Q=>∀ p,H p=none->Q (.ref p) (cH H p (.dT []))
section
variable {X:Cx} {pos:Pos}
theorem MB:PE X (.Dict [] [] pos) B8:=λ pins s σ H Q I h=>
 wpAny_Dict_empty ⟨.ref _,_,I.laid    (λ _ _ q=>Rv _ q) (Ry _) (BN _ I.big),rfl,h _ (I.hok.fresh (Ry _))⟩
theorem Np:PE X (.Dict [] [] pos) BQ:=λ pins s σ H Q I h=>
 wpAny_Dict_empty ⟨.ref _,_,I.laid    (λ _ _ q=>Rv _ q) (Ry _) (CH _ I.big),rfl,h _ (I.hok.fresh (Ry _))⟩
end
structure M1 (X:Cx) (o:Expr) (m:Str) (apos:Pos) (e:Expr) (cpos:Pos):Prop where
 base:attributeBase o m X.env (eval o X.env)=eval o X.env
 few:((backTo cpos (starEach [e] X.env)).all (λ x=>!x.1)&&(backToKw cpos (keywordEach [] X.env)).all (λ x=>x.1.isSome)
  && decide (([e]:List Expr).length+([]:List Keyword).length+(if ([]:List Keyword).isEmpty then 0 else 1)<30))=true
 line:(apos.endLine==cpos.line)=true
 trees:backTo cpos (starEach [e] X.env)=[(false,eval e X.env)]
structure M2 (X:Cx) (o:Expr) (m:Str) (apos:Pos) (e f:Expr) (cpos:Pos):Prop where
 base:attributeBase o m X.env (eval o X.env)=eval o X.env
 few:((backTo cpos (starEach [e,f] X.env)).all (λ x=>!x.1)&&(backToKw cpos (keywordEach [] X.env)).all (λ x=>x.1.isSome)
  && decide (([e,f]:List Expr).length+([]:List Keyword).length+(if ([]:List Keyword).isEmpty then 0 else 1)<30))=true
 line:(apos.endLine==cpos.line)=true
 trees:backTo cpos (starEach [e,f] X.env)=[(false,eval e X.env),(false,eval f X.env)]
noncomputable def Qq (H:Hp) (a:Addr):Prop:=(∃ kvs,Rd H a (.dK kvs))∨∃ kvs,Rd H a (.dT kvs)
theorem II {σ:St} (I:aM X pins σ H s) (d:Qq H a):
 s.TypeIs (.ref a) "dict" /\ (∀ b,Value.ref a=.ref b->∃ ob,s.heap.get? b=some ob/\ob.dict=none)/\(a==sysModules)=false:=by
 rcases d with ⟨kvs,e⟩ | ⟨kvs,e⟩
 . obtain ⟨_,hd,vs,_,dd⟩:=qk I.hok e;refine ⟨dd.typeIs,λ b q=>?_,hd⟩;cases q;obtain ⟨ob,_,_,h1,h2,_⟩:=dd;exact ⟨ob,h1,h2.2.1⟩
 . obtain ⟨_,hd,xs,_,dd⟩:=sH I.hok e;refine ⟨dd.typeIs,λ b q=>?_,hd⟩;cases q;obtain ⟨ob,_,_,h1,h2,_⟩:=dd;exact ⟨ob,h1,h2.2.1⟩
section
variable {X:Cx} {pins:List (Addr×Obj)} {σ:St} {H:Hp} {s:Shared} {a:Addr} {y d:V} {u r:Value} {o:Option V} {A:Around} {E:Value->Shared->Prop}
theorem Jy (hu:A.units+1<cLine) (I:aM X pins σ H s) (g:ma H a y o) (ry:bh y u) (rd:bh d r) (h:∀ w' s',aM X pins σ H s'->bh (o.getD d) w'->Q w' s'):
 wpAny (model X.prog X.w) A (call (.builtin "dict.get") [.ref a,u,r]) Q E s:=by
 rcases g with ⟨kvs,k,e,ey,l⟩ | ⟨kvs,k,b,e,ey,eb,l⟩
 . subst ey;obtain ⟨z,hd,vs,rel,dd⟩:=qk I.hok e;refine call_meetsIn UL dd.typeIs PySem.F.entry_dict_get (PySem.F.args_dict_get_3 _ _ _) (meets_dict_get_default _ a (vK ry) hd r) ⟨_,dd.mapOf,h _ _ (I.tok _) ?_⟩;rw [l];exact (rel.val k).getD rd
 . subst ey;cases show u=Value.ref b from ry
   obtain ⟨z,hd,xs,rel,dd⟩:=sH I.hok e;refine call_meetsIn UL dd.typeIs PySem.F.entry_dict_get (PySem.F.args_dict_get_3 _ _ _) (meetsH_dict_get_default _ a b hd r) ⟨Uw hu,k,xs,qt I.hok eb,dd,h _ _ (I.tok _) ?_⟩;rw [l];exact (rel.val k).getD rd
end
noncomputable def Bt (td ty tx:TE):TE:=λ σ H Q=>td σ H λ x H1=>∃ a,x=.ref a/\Qq H1 a/\ty σ H1 λ y H2=>tx σ H2 λ z H3=>∃ o,ma H3 a y o/\Q (o.getD z) H3
section
variable {X:Cx} {o e f:Expr} {apos cpos:Pos} {td ty tx:TE}
theorem Mn (hu:X.A.units+1<cLine) (ho:PE X o td) (he:PE X e ty) (hf:PE X f tx) (m:M2 X o "get" apos e f cpos):PE X (.Call (.Attribute o "get" apos) [e,f] [] cpos) (Bt td ty tx):=by
 intro pins s σ H Q I h;refine wpAny_Call_method m.base m.few m.line PySem.F.plainAttrs_dict UL PySem.F.type_dict_get (cq (ho _ s σ H _ I h) λ u s1 hq0=>?_);obtain ⟨x,H1,I1,rx,a,ex,d,q1⟩:=hq0;subst ex;obtain rfl:u=Value.ref a:=rx;obtain ⟨t1,t2,_⟩:=II I1 d;refine ⟨t1,t2,?_⟩;rw [m.trees];refine Calls.callWith_builtin rfl (Calls.evalArgs_plain (Calls.spliced_cons (cq (he _ s1 σ H1 _ I1 q1) λ iv s2 hy0=>?_)));obtain ⟨y,H2,I2,ry,q2⟩:=hy0;refine
  Calls.spliced_cons (cq (hf _ s2 σ H2 _ I2 q2) λ fv s3 hy0=>?_)
 obtain ⟨z,H3,I3,rz,ov,g,q3⟩:=hy0;refine Calls.spliced_nil ?_;exact Jy hu I3 g ry rz λ w' s4 I4 rw'=>⟨_,H3,I4,rw',q3⟩
end
section
variable {X:Cx} {pins:List (Addr×Obj)} {σ:St} {H:Hp} {s:Shared} {a:Addr} {kvs:List (b8×V)} {A:Around} {E:Value->Shared->Prop}
end
section
variable {X:Cx} {pins:List (Addr×Obj)} {σ:St} {H:Hp} {s:Shared} {a:Addr} {y:V} {u:Value} {A:Around} {E:Value->Shared->Prop}
end
end L2
namespace L2
open PySem PySem.Spec PyProof.Rows
open PySem.W (Frag)
section
variable {X:Cx}
theorem AH:bN X (.builtin "len") (λ xs H Q=>∃ a kvs,xs=[V.ref a]/\H a=some (.dK kvs)/\Q (.int kvs.length) H):=by
 intro pins s σ H xs us Q I r h;obtain ⟨a,kvs,rfl,ha,q⟩:=h;obtain ⟨u,rfl,ru⟩:=kW r;cases ru;exact LY I (.inl ha) λ t s' I'=>⟨.int _,H,I',⟨t,rfl⟩,q⟩
end
section
variable {κ:Type} [DecidableEq κ]
end
noncomputable def i4 (z:Str):Prop:=z.cps.all (· < 128)=true
section
variable {z:Str} {wi:TI} {g:TG} {tb:TS} {D:oz} {σ:St} {H H1:Hp} {ix:List (Option Nat)} {tc:TT} {te:TE} {Q:VK}
end
theorem OZ:Fd X (λ x lo hi H Q=>∃ z,x=.str z/\z.length<=sizeLine/\Q (.str (Txt.slice z lo hi)) H):=by
 intro pins s σ H x v vl vu lo hi sl Q I rx hs pl pu h;obtain ⟨z,rfl,hz,q⟩:=h;obtain ⟨t,rfl⟩:=rx;have part:∀ {v:Value} {o:Option _},IsPart v o->∃ p:Option _,v=partValue p/\o=p.map (·.1):=λ {v o} p=>by
  cases p with
  | none=>exact ⟨none,rfl,rfl⟩
  | int i t=>exact ⟨some (i,t),rfl,rfl⟩
 obtain ⟨p1,rfl,rfl⟩:=part pl;obtain ⟨p2,rfl,rfl⟩:=part pu;refine ⟨"str", _,F.slot_str_getitem.lookup,typeIs_str _ _ _,wpAny_getItem_str_slice   (st:=none) hs rfl ?_⟩;refine post_val_or_str ⟨Sb (Txt.slice_le z _ _) hz,λ t' k=>⟨.str _,H,I.tok k,⟨t',rfl⟩,q⟩⟩
section
variable {X:Cx}
end
section
variable {X:Cx}
noncomputable def Hl (i j:Int):Prop:=i.natAbs<2^512/\j.natAbs<2^512
theorem EZ:fX X (binaryOp .Mult) (rI Hl λ i j=>.int (i*j)):=KE λ _ _ _ _ _ _ _ hc q=>mul_int q (IntMulOk.of_le (PySem.intBits_le_iff.mpr hc.1) (PySem.intBits_le_iff.mpr hc.2) (by decide))
noncomputable def HS:R2:=λ x y H Q=>∃ z n,x=.str z/\y=.int n/\0<=n/\n<=1000/\z.length<=1000/\Q (.str (Txt.mul z n)) H
theorem Oi:fX X (binaryOp .Mult) HS:=by
 intro pins s σ H x y v u Q I rx ry h;obtain ⟨z,n,rfl,rfl,h0,h1,hz,q⟩:=h;obtain ⟨t,rfl⟩:=rx;obtain ⟨t',rfl⟩:=ry;have hm:z.length*n.toNat<=1000*1000:=Nat.mul_le_mul hz (by omega);refine SB.mul ⟨?_,λ a b=>?_,λ a b=>?_⟩ λ t2 k=>⟨.str _,H,I.tok k,⟨t2,rfl⟩,q⟩
 . grind
 . have:1000<=(2^63-1) / n:=by
    rw [Int.le_ediv_iff_mul_le (by omega)];omega
   omega
 . exact RB (by have  := T6;omega)
theorem Ak:bN X (.builtin "isinstance") (λ xs H Q=>∃ (a:Addr) (ys:List V) (T:String) (k:Bool),xs=[.ref a,.ty T]/\eZ X.K H a ys/\PySem.W.kitOne X.K (.type "tuple") (.type T)=some k/\Q (.bl k) H):=by
 intro pins s σ H xs us Q I r h;obtain ⟨a,ys,T,k,rfl,ha,hk,q⟩:=h;cases r with
 | cons r rr=>
  cases rr with
  | cons r' rr=>
   cases rr;cases r;cases r';obtain ⟨its,_,⟨o,e,c,_⟩,_⟩:=I.tuple ha;exact PySem.W.kia_one PySem.W.kitx_tuple I.kIn ⟨o,e,c⟩ hk (by simp_all) λ tk=>⟨.bl k,H,I.tok tk,rfl,q⟩
theorem Ay:bN X (.builtin "isinstance") (λ xs H Q=>∃ (a:Addr) (ys:List V) (T:String) (k:Bool),xs=[.ref a,.ty T]/\cG X.K H a ys/\PySem.W.kitOne X.K (.type "list") (.type T)=some k/\Q (.bl k) H):=by
 intro pins s σ H xs us Q I r h;obtain ⟨a,ys,T,k,rfl,ha,hk,q⟩:=h;cases r with
 | cons r rr=>
  cases rr with
  | cons r' rr=>
   cases rr;cases r;cases r';obtain ⟨its,_,⟨o,n,e,c,_⟩,_⟩:=I.list ha;exact PySem.W.kia_one PySem.W.kitx_list I.kIn ⟨o,e,c⟩ hk (by simp_all) λ tk=>⟨.bl k,H,I.tok tk,rfl,q⟩
end
section
variable {X:Cx} {K:Frag}
theorem Nz (h:X.K=K):Dt X (OV K):=h▸KO
theorem D9 (h:X.K=K):Fd X (LP K):=h▸ED
theorem Fo (h:X.K=K):Fd X (Nn K):=h▸IP
theorem KS (h:X.K=K):fX X (compareOp .In) (E1 K false):=h▸zX
theorem E5 (h:X.K=K):fX X (compareOp .NotIn) (E1 K true):=h▸uJ
noncomputable def Ma (K:Frag):List V->Hp->VK->Prop:=λ xs H Q=>∃ p ys,xs=[.ref p]/\(cG K H p ys∨eZ K H p ys)/\Q (.int ys.length) H
theorem rf (h:X.K=K):bN X (.builtin "len") (Ma K):=h▸ux
noncomputable def HQ:List V->Hp->VK->Prop:=λ xs H Q=>∃ z,xs=[.str z]/\z.length<=sizeLine/\Q (.int z.length) H
theorem qU:bN X (.builtin "len") HQ:=ud
noncomputable def Ie (K:Frag):List V->Hp->VK->Prop:=λ xs H Q=>∃ (a:Addr) (ys:List V) (T:String) (k:Bool),xs=[.ref a,.ty T]/\eZ K H a ys/\PySem.W.kitOne K (.type "tuple") (.type T)=some k/\Q (.bl k) H
theorem xz (h:X.K=K):bN X (.builtin "isinstance") (Ie K):=h▸Ak
noncomputable def HA (K:Frag):List V->Hp->VK->Prop:=λ xs H Q=>∃ (a:Addr) (ys:List V) (T:String) (k:Bool),xs=[.ref a,.ty T]/\cG K H a ys/\PySem.W.kitOne K (.type "list") (.type T)=some k/\Q (.bl k) H
theorem xN (h:X.K=K):bN X (.builtin "isinstance") (HA K):=h▸Ay
noncomputable def Fn:List V->Hp->VK->Prop:=λ xs H Q=>∃ v T k,xs=[v,.ty T]/\C9 v T=some k/\Q (.bl k) H
theorem rQ:bN X (.builtin "isinstance") Fn:=Dq
noncomputable def tL (K:Frag):List V->Hp->VK->Prop:=λ xs H Q=>∃ p ys,xs=[.ref p]/\(cG K H p ys∨eZ K H p ys)/\∀ l,H l=none->Q (.ref l) (cH H l (.lst ys))
theorem qZ (h:X.K=K):bN X (.type "list") (tL K):=h▸tz
theorem NA {pos:Pos} {k:Nat} (h:X.K=K) (hc:X.calm=true) (hh:Lg X es t)
 (hn:(assignEach es X.env).length=n) (hst:(assignEach es X.env).findIdx? (·.1)=none):PG X (.Tuple es k pos) (GZ K n t):=h▸K3 hc hh hn hst
theorem Nx (h:X.K=K) (hg:Gl X "enumerate") (hm:X.mg "enumerate" = none) (ha:PA X [a] ta) (hs:starEach [a] X.env=[(false,eval a X.env)]):
 PI X (.Tuple elts x1 tpos) (.Call (.Name "enumerate" p) [a] [] pos) (Dr K ta):=h▸FI hg hm ha hs
variable {o e:Expr} {es:List Expr} {to:TE} {t:TA} {name:Str} {apos cpos:Pos} {T id:String} {r:V->List V->Hp->VK->Prop}
theorem Fi (h:X.K=K) (pa:PlainAttrs T) (slot:Slot T name id) (hty:typeOf (.builtin id)=pure (.type "method_descriptor")) (hm:Ng X id r) (ho:PE X o to)
 (hbase:attributeBase o name X.env (eval o X.env)=eval o X.env:=by rfl) (hline:(apos.endLine==cpos.line)=true:=by rfl):PE X (.Call (.Attribute o name apos) [] [] cpos) (Hc K T r to):=h▸IG pa slot hty hm ho hbase hline
theorem JG (h:X.K=K) (pa:PlainAttrs T) (slot:Slot T name id) (hty:typeOf (.builtin id)=pure (.type "method_descriptor")) (hm:Ng X id r) (ho:PE X o to) (ha:PA X (e::es) t)
 (hbase:attributeBase o name X.env (eval o X.env)=eval o X.env:=by rfl)
 (hfew:((backTo cpos (starEach (e::es) X.env)).all (λ x=>!x.1)&&(backToKw cpos (keywordEach [] X.env)).all (λ x=>x.1.isSome)
  && decide ((e::es).length+([]:List Keyword).length+(if ([]:List Keyword).isEmpty then 0 else 1)<30))=true:=by rfl)
 (hline:(apos.endLine==cpos.line)=true:=by rfl) (hs:starEach (e::es) X.env=(false,eval e X.env)::starEach es X.env:=by rfl) (hplain:(backTo cpos (starEach es X.env)).any (·.1)=false:=by rfl):
 PE X (.Call (.Attribute o name apos) (e::es) [] cpos) (HE K T r to t):=h▸M5 pa slot hty hm ho ha hbase hfew hline hs hplain
end
theorem jt (h:H p=none) (o:HO):bn H (cH H p o):=λ b u q=>by rw [aF (bH q h)];exact q
theorem bn.tup {K:Frag} (g:bn H H') (q:eZ K H a xs):eZ K H' a xs:=by
 rcases q with (h | ⟨o,h⟩) | h
 . exact .inl (.inl (g _ _ h))
 . exact .inl (.inr ⟨o,g _ _ h⟩)
 . exact .inr h
theorem lC:i4 z↔∀ c∈z.cps.toList,c<128:=by
 unfold i4;rw [Array.all_eq_true']
 simp_all
theorem i4.app (h:i4 a) (h':i4 b):i4 (a++b):=by
 rw [lC] at *;intro c hc;have e:(a++b).cps=a.cps++b.cps:=rfl
 grind
theorem sZ (a b:Str):(a++b).length=a.length+b.length:=by
 show (a.cps++b.cps).size=_;rw [Array.size_append];rfl
theorem i4.one (h:i4 z) (e:jS z.cps.toList i=some c):i4 ⟨#[c]⟩:=by
 rw [lC] at *;obtain ⟨j,_,hj,_⟩:=oP e;have:=h c (Sq hj)
 simp_all
theorem i4.slice (h:i4 z) (lo hi:Option Int):i4 (Txt.slice z lo hi):=by
 rw [lC] at *;intro c hc;unfold Txt.slice at hc;split at hc
 . grind
 refine h c ?_
 grind
theorem i4.ok (h:i4 z):PyData.strOk z=true:=by
 rw [lC] at h;unfold PyData.strOk;rw [Array.all_eq_true'];intro c hc;have:=h c (by grind)
 grind
noncomputable def Nw (H H':Hp) (p:Addr) (o:HO):Prop:=bn H H'/\H p=none/\H' p=some o
theorem Nw.of (h:H p=none):Nw H (cH H p o) p o:=⟨jt h o,h,aG⟩
noncomputable def Ex (t:TA):TE:=λ σ H Q=>t σ H λ xs H1=>xs.length<=sizeLine/\∀ p H',Nw H1 H' p (.tup xs)->Q (.ref p) H'
noncomputable def Bm (t:TA):TE:=λ σ H Q=>t σ H λ xs H1=>xs.length<=sizeLine/\∀ p H',Nw H1 H' p (.lst xs)->Q (.ref p) H'
section
variable {X:Cx} {K:Frag} {es:List Expr} {t:TA} {pos:Pos}
theorem N2 (h:PA X es t):PE X (.Tuple es x1 pos) (Ex t):=λ pins s σ H Q I hq=>wpAny_Tuple_spliced (cq (h _ _ s σ H _ I hq) λ us s1 ⟨xs,H1,I1,r,z,q⟩=>⟨by rw [<-r.length];exact z,
 .ref _,_,I1.laid  (o:=.tup xs) (λ b u e=>Rv _ e) (Ry _) ⟨z,us,r,⟨_,RF _ rfl,rfl,_,rfl⟩⟩,rfl,q _ _ (.of (I1.hok.fresh (Ry _)))⟩)
theorem NX (h:PA X es t):PE X (.List es pos) (Bm t):=λ pins s σ H Q I hq=>wpAny_List_spliced (cq (h _ _ s σ H _ I hq) λ us s1 ⟨xs,H1,I1,r,z,q⟩=>⟨by rw [<-r.length];exact z,
 .ref _,_,I1.laid  (o:=.lst xs) (λ b u e=>Rv _ e) (Ry _) ⟨z,us,0,r,RF _ rfl⟩,rfl,q _ _ (.of (I1.hok.fresh (Ry _)))⟩)
noncomputable def Hn (K:Frag):V->Option Int->Option Int->Hp->VK->Prop:=λ x lo hi H Q=>∃ a xs,x=.ref a/\cG K H a xs/\∀ p H',Nw H H' p (.lst (vR xs lo hi))->Q (.ref p) H'
theorem Nd (h:X.K=K):Fd X (Hn K):=λ pins s σ H x v vl vu lo hi sl Q I rx hs pl pu hy0=>by obtain ⟨a,xs,e,q,r⟩:=hy0;exact D9 h _ s σ H x v vl vu lo hi sl Q I rx hs pl pu ⟨a,xs,e,q,λ p hp=>r p _ (.of hp)⟩
noncomputable def Hw (K:Frag):V->Option Int->Option Int->Hp->VK->Prop:=λ x lo hi H Q=>∃ a xs,x=.ref a/\eZ K H a xs/\
 ((HT.sIx xs.length 0 lo=0/\HT.sIx xs.length xs.length hi=xs.length/\Q (.ref a) H)∨(¬ (HT.sIx xs.length 0 lo=0/\HT.sIx xs.length xs.length hi=xs.length)/\∀ p H',Nw H H' p (.tup (vR xs lo hi))->Q (.ref p) H'))
theorem Ai {lo hi:Option Int} (ht:IsTup s.heap a its) (hs:s.heap.IsSliceOf sl vl vu .none) (pl:IsPart vl lo) (pu:IsPart vu hi)
 (h1:HT.sIx its.size 0 lo=0) (h2:HT.sIx its.size its.size hi=its.size) (h:Q (.ref a) s):wpAny (model prog w) A (getItem (.ref a) (.ref sl)) Q E s:=by
 obtain ⟨os,hos,hcs,hds⟩:=id hs;unfold getItem;try with_reducible refine Ss ?_
 refine Rq (wpAny_sequenceKey ht.typeIs (by decide) (Rq (Tw  ht.typeIs Ti (SI Ti ht.typeIs entry_tuple_getitem ?_ (args_tuple_getitem _ _)))));show wpAny _ _ (Builtin.Tuple.tupleItemsOf _ >>= _) _ _ s;refine Rq (PyProof.Rows.tupleItemsOf_ ht (Rq (UW (show s.TypeIs _ _ from ⟨os,hos,hcs⟩) ?_)));refine Rq (HT.sliceApplied_gen hs pl pu ?_);have yes:((HT.sIx its.size 0 lo:Int)==0&&(1:Int)==1&&HT.sIx its.size its.size hi-HT.sIx its.size 0 lo==its.size)=true:=by
  simp_all
 show wpAny _ _ (if ((HT.sIx _ 0 lo:Int)==0&&1==1&&HT.sIx _ _ hi-HT.sIx _ 0 lo==its.size)=true then _ else _) _ _ s;rw [Rt yes];refine Rq ?_;refine Rq (UW ht.typeIs (Ru ?_));exact Rq (TC (Ru ⟨_,rfl,Ru h⟩))
theorem N6 (h:X.K=K):Fd X (Hw K):=by
 intro pins s σ H x v vl vu lo hi sl Q I rx hs pl pu q;obtain ⟨a,xs,e,hx,q | q⟩:=q
 . subst h e;cases rx;obtain ⟨its,r,ht,hz⟩:=I.tuple hx;have hlen:its.toArray.size=xs.length:=by exact r.length.symm
   exact ⟨"tuple", _,Ti.lookup,ht.typeIs,Ai ht hs pl pu (by simp_all) (by simp_all) ⟨.ref a,H,I,rfl,q.2.2⟩⟩
 . exact Fo h _ s σ H x v vl vu lo hi sl Q I rx hs pl pu ⟨a,xs,e,hx,q.1,λ p hp=>q.2 p _ (.of hp)⟩
end
section
variable {X:Cx} {K:Frag}
end
noncomputable def Cv (c:Nat):Bool:=decide (97<=c)&&decide (c<=122)
noncomputable def zq:Value->Option Str
 | .str x _=>some x
 | _=>none
noncomputable def GX (us:List Value) (ws:List Str):Bool:=decide (us.map zq=ws.map some)
theorem Ax (h:zq u=some y):bh (.str y) u:=by
 unfold zq at h;split at h
 . cases h;exact ⟨_,rfl⟩
 . cases h
theorem lT:∀ {us:List Value} {ws:List Str},us.map zq=ws.map some->bf (ws.map V.str) us
 | [],[],_=>.nil
 | u::r,y::s,h=>by
  simp only [RU,List.cons.injEq] at h;exact .cons (Ax h.1) (lT h.2)
 | [],_::_,h=>by simp at h
 | _::_,[],h=>by simp at h
noncomputable def ut (o:Obj) (ws:List Str):Bool:=match o.data with
 | .seq its _=>GX its.toList ws&&decide (its.size<=1000)
 | _=>false
theorem rK {K:Frag} (h:K.lookup a=some o) (hc:o.cls=.type "tuple") (ht:ut o ws=true):eZ K H a (ws.map V.str):=by
 unfold ut at ht;split at ht
 . rename_i its n e;rw [RY] at ht;exact .inr ⟨o,its,n,h,hc,e,Tb (zL (by simp_all)),lT (Sh ht.1)⟩
 . cases ht
section
variable {K:Frag} {x D:Addr} {prog:Program} {w:World} {A:Around} {E:Value->Shared->Prop} {s:Shared}
end
section
variable {X:Cx} {K:Frag}
end
section
variable {P:Program} {w:World} {A:Around} {E:Value->Shared->Prop} {s:Shared}
end
section
variable {X:Cx} {K:Frag}
end
section
variable {K:Frag} {a b:Addr} {xs ys:List V} {wi:TI} {g:TG} {σ:St} {H H1:Hp} {ix:List (Option Nat)} {tc:TT} {te:TE} {Q:VK}
end
section
variable {K:Frag} {a:Addr} {xs:List V} {wi:TI} {g:TG} {σ:St} {H H1:Hp} {ix:List (Option Nat)} {tc:TT} {te:TE} {Q:VK}
end
inductive W where
 | none | bool (b:Bool) | int (i:Int) | str (x:Str) | list (ds:List W) | tuple (ds:List W) | ref (n:Nat)
mutual
inductive Dw (K:Frag) (ρ:List Addr) (H:Hp):V->W->Prop
 | non:Dw K ρ H .non .none
 | bl (b:Bool):Dw K ρ H (.bl b) (.bool b)
 | int (i:Int):Dw K ρ H (.int i) (.int i)
 | str (x:Str):Dw K ρ H (.str x) (.str x)
 | lst {a:Addr} {xs:List V} {ds:List W}:cG K H a xs->aC K ρ H xs ds->Dw K ρ H (.ref a) (.list ds)
 | tup {a:Addr} {xs:List V} {ds:List W}:H a=some (.tup xs)->aC K ρ H xs ds->Dw K ρ H (.ref a) (.tuple ds)
 | ref {a:Addr} {n:Nat}:ρ[n]?=some a->Dw K ρ H (.ref a) (.ref n)
inductive aC (K:Frag) (ρ:List Addr) (H:Hp):List V->List W->Prop
 | nil:aC K ρ H [] []
 | cons {v:V} {vs:List V} {d:W} {ds:List W}:Dw K ρ H v d->aC K ρ H vs ds->aC K ρ H (v::vs) (d::ds)
end
theorem Dw.mapG {K:Frag} (hs:∀ a xs,cG K H a xs->cG K H' a xs) (ht:∀ a xs,H a=some (.tup xs)->H' a=some (.tup xs)) (hr:∀ (n:Nat) (a:Addr),ρ[n]?=some a->ρ'[n]?=some a) (h:Dw K ρ H v d):Dw K ρ' H' v d:=
 Dw.rec   .non .bl .int .str (λ q _ ih=>.lst (hs _ _ q) ih) (λ q _ ih=>.tup (ht _ _ q) ih) (λ e=>.ref (hr _ _ e)) .nil (λ _ _ a b=>.cons a b) h
theorem aC.ind {K:Frag} {M:List V->List W->Prop} (h0:M [] []) (h1:∀ v vs d ds,Dw K ρ H v d->M vs ds->M (v::vs) (d::ds)) (h:aC K ρ H vs ds):M vs ds:=
 aC.rec (motive_1:=λ _ _ _=>True)  trivial (λ _=>trivial) (λ _=>trivial) (λ _=>trivial) (λ _ _ _=>trivial) (λ _ _ _=>trivial) (λ _=>trivial) h0 (λ a _ _ ih=>h1 _ _ _ _ a ih) h
theorem Dw.same {K:Frag} (g:bn H H') (h:Dw K ρ H v d):Dw K ρ H' v d:=h.mapG (λ _ _ q=>g.seq q) (λ _ _ q=>g _ _ q) λ _ _ e=>e
theorem aC.mapA {K:Frag} (f:∀ v d,Dw K ρ H v d->Dw K ρ' H' v d) (h:aC K ρ H vs ds):aC K ρ' H' vs ds:=h.ind  .nil λ _ _ _ _ a b=>.cons (f _ _ a) b
theorem aC.same {K:Frag} (g:bn H H') (h:aC K ρ H vs ds):aC K ρ H' vs ds:=h.mapA λ _ _ a=>a.same g
mutual
noncomputable def W.py:W->Option PyData
 | .none=>some .none
 | .bool b=>some (.bool b)
 | .int i=>some (.int i)
 | .str x=>some (.str x)
 | .list ds=>(W.pys ds).map .list
 | .tuple ds=>(W.pys ds).map .tuple
 | .ref _=>Option.none
noncomputable def W.pys:List W->Option (List PyData)
 | []=>some []
 | d::ds=>(W.py d).bind λ x=>(W.pys ds).map (x::·)
end
theorem Dw.dp {K:Frag} (h:Dw K ρ H v d):d.py=some x->Dp K H v x:=
 Dw.rec  (motive_2:=λ vs ds _=>∀ xs,W.pys ds=some xs->nF K H vs xs)
  (λ x e=>by cases e;exact .non) (λ b x e=>by cases e;exact .bl b) (λ i x e=>by cases e;exact .int i) λ y x e=>by cases e;exact .str y
  λ q _ ih x e=>by
   obtain ⟨xs,e1,rfl⟩:=oM e
   exact .lst q (ih _ e1)
  λ q _ ih x e=>by
   obtain ⟨xs,e1,rfl⟩:=oM e
   exact .tup (eZ.of q) (ih _ e1)
  (λ _ x e=>by cases e) (λ xs e=>by cases e;exact .nil)
  (λ _ _ ih1 ih2 xs e=>by
   obtain ⟨x,e1,e⟩:=oB e
   obtain ⟨ys,e2,rfl⟩:=oM e
   exact .cons (ih1 _ e1) (ih2 _ e2)) h x
inductive Sl where
 | no
 | val (d:W)
 | own (ds:List W)
noncomputable abbrev DS:=List Sl
noncomputable def xb (K:Frag) (ρ:List Addr) (G H:Hp):Sl->Option V->Prop
 | .no,_=>True
 | .val d,o=>∃ v,o=some v/\Dw K ρ G v d
 | .own ds,o=>∃ p vs,o=some (.ref p)/\G p=none/\H p=some (.lst vs)/\aC K ρ G vs ds
noncomputable def nT (H:Hp) (b:Addr):Prop:=H b≠none/\∀ xs,H b≠some (.tup xs)
theorem nT.of (h:H b=some o) (n:∀ xs,o≠.tup xs):nT H b:=⟨by simp_all,λ xs z=>n xs (by simp_all)⟩
theorem nT.l (h:H b=some (.lst vs)):nT H b:=.of h λ _ z=>by cases z
theorem nT.same (x:nT H b) (s:bn H H'):nT H' b:=by
 cases q:H b with
 | none=>exact absurd q x.1
 | some o=>exact .of (s b o q) λ xs z=>x.2 xs (by rw [q,z])
structure Gr (G H G' H':Hp):Prop where
 g:bn G G'
 h:bn H H'
 s:bn G' H'
 n:∀ b,nT H b->G b=none->G' b=none
theorem uo (s:bn H H') (h:H b≠none):H' b≠none:=λ e=>by
 cases q:H b with
 | none=>exact h q
 | some o=>
  have:=s b o q
  simp_all
theorem bV (s:bn G H) (h:H b=none):G b=none:=by
 cases q:G b with
 | none=>rfl
 | some o=>
  have:=s b o q
  simp_all
theorem Gr.refl (s:bn G H):Gr G H G H:=⟨.refl _,.refl _,s,λ _ _ h=>h⟩
theorem Gr.trans (a:Gr G H G1 H1) (b:Gr G1 H1 G2 H2):Gr G H G2 H2:=
 ⟨a.g.trans b.g,a.h.trans b.h,b.s,λ c h1 h2=>b.n c (h1.same a.h) (a.n c h1 h2)⟩
theorem jK (s:bn G H') (h:H' p=some o):bn (cH G p o) H':=λ b u e=>by
 by_cases hb:b=p
 . subst hb;rw [aG] at e
   simp_all
 . rw [aF hb] at e;exact s _ _ e
theorem Gr.new (a:Gr G H G' H') (h0:H p=none) (g0:G' p=none) (h:H' p=some o):Gr G H (cH G' p o) H':=
 ⟨a.g.trans (jt g0 o),a.h,jK a.s h,λ b h1 h2=>by
  rw [aF λ e=>h1.1 (by simp_all)];exact a.n b h1 h2⟩
theorem Gr.nw (s:bn G H) (n:Nw H H' p o):Gr G H (cH G p o) H':=
 Gr.new ⟨.refl _,n.1,s.trans n.1,λ _ _ h=>h⟩ n.2.1 (bV s n.2.1) n.2.2
theorem Gr.nwO (s:bn G H) (n:Nw H H' p o):Gr G H G H':=⟨.refl _,n.1,s.trans n.1,λ _ _ h=>h⟩
structure Rl (K:Frag) (ρ:List Addr) (G H:Hp) (δ:DS) (σ:St):Prop where
 sub:bn G H
 len:δ.length=σ.length
 sl:∀ (i:Nat) s,δ[i]?=some s->∃ o,σ[i]?=some o/\xb K ρ G H s o
 apart:∀ (i j:Nat) p ds es,δ[i]?=some (.own ds)->δ[j]?=some (.own es)->σ[i]?=some (some (.ref p))->σ[j]?=some (some (.ref p))->i=j
theorem xb.grow {K:Frag} (g:Gr G H G' H') (h:xb K ρ G H s o):xb K ρ G' H' s o:=by
 cases s with
 | no=>exact trivial
 | val d=>
  obtain ⟨v,e,h⟩:=h;exact ⟨v,e,h.same g.g⟩
 | own ds=>
  obtain ⟨p,vs,e,h1,h2,h3⟩:=h;exact ⟨p,vs,e,g.n p (.l h2) h1,g.h _ _ h2,h3.same g.g⟩
theorem Rl.grow {K:Frag} (R:Rl K ρ G H δ σ) (g:Gr G H G' H'):Rl K ρ G' H' δ σ:=
 ⟨g.s,R.len,λ i s e=>by
  obtain ⟨o,h1,h2⟩:=R.sl i s e;exact ⟨o,h1,h2.grow g⟩,R.apart⟩
theorem di {α:Type} {xs:List α} {i j:Nat} {a b:α} (h:(xs.set i a)[j]?=some b):(i=j/\a=b/\j<xs.length)∨(i≠j/\xs[j]?=some b):=by
 by_cases e:i=j
 . subst e;rw [List.getElem?_set] at h;simp only [UD] at h;split at h
   . rename_i hl;cases h;exact .inl ⟨rfl,rfl,hl⟩
   . cases h
 . rw [RI e] at h;exact .inr ⟨e,h⟩
theorem mT {α:Type} {xs:List α} {a:α} (h:i<xs.length):(xs.set i a)[i]?=some a:=by
 simp_all
noncomputable def fL (δ':DS) (σ':St) (δ:DS) (σ:St):Prop:=∀ (i:Nat) ds p,δ'[i]?=some (.own ds)->σ'[i]?=some (some (.ref p))->∃ es,δ[i]?=some (.own es)/\σ[i]?=some (some (.ref p))
theorem fL.refl (δ:DS) (σ:St):fL δ σ δ σ:=λ i ds p h1 h2=>⟨ds,h1,h2⟩
theorem fL.trans (a:fL δ2 σ2 δ1 σ1) (b:fL δ1 σ1 δ σ):fL δ2 σ2 δ σ:=λ i ds p h1 h2=>by
 obtain ⟨es,h3,h4⟩:=a i ds p h1 h2;exact b i es p h3 h4
theorem kG {δ:DS} {σ:St} {i:Nat} {d:W} {v:V} (h:δ.length=σ.length):fL (δ.set i (.val d)) (σ.set i (some v)) δ σ:=λ j ds p h1 h2=>by
 rcases di h1 with ⟨_,e,_⟩ | ⟨ne,h1⟩
 . cases e
 . rw [RI ne] at h2;exact ⟨ds,h1,h2⟩
theorem Rl.set {K:Frag} (R:Rl K ρ G H δ σ) (h:Dw K ρ G v d):Rl K ρ G H (δ.set i (.val d)) (σ.set i (some v)):=
 ⟨R.sub,by rw [SW,SW];exact R.len,λ j s e=>by
  rcases di e with ⟨rfl,rfl,hl⟩ | ⟨ne,e⟩
  . exact ⟨_,mT (by rw [<-R.len];exact hl),v,rfl,h⟩
  . rw [RI ne];exact R.sl j s e,λ j k p ds es h1 h2 h3 h4=>by
  obtain ⟨ds',a1,a2⟩:=kG  R.len j ds p h1 h3;obtain ⟨es',b1,b2⟩:=kG  R.len k es p h2 h4;exact R.apart j k p _ _ a1 b1 a2 b2⟩
theorem Rl.setO {K:Frag} {ρ:List Addr} {G H:Hp} {δ:DS} {σ:St} {i:Nat} {ds:List W} {p:Addr} {vs:List V} (R:Rl K ρ G H δ σ) (g0:G p=none) (h:H p=some (.lst vs)) (hd:aC K ρ G vs ds)
 (hn:∀ (j:Nat) es,j≠i->δ[j]?=some (.own es)->σ[j]?≠some (some (.ref p))):Rl K ρ G H (δ.set i (.own ds)) (σ.set i (some (.ref p))):=
 ⟨R.sub,by rw [SW,SW];exact R.len,λ j s e=>by
  rcases di e with ⟨rfl,rfl,hl⟩ | ⟨ne,e⟩
  . exact ⟨_,mT (by rw [<-R.len];exact hl),p,vs,rfl,g0,h,hd⟩
  . rw [RI ne];exact R.sl j s e,λ j k q ds' es' h1 h2 h3 h4=>by
  rcases di h1 with ⟨rfl,_,hl⟩ | ⟨ne,h1⟩ <;> rcases di h2 with ⟨rfl,_,hl2⟩ | ⟨ne2,h2⟩
  . rfl
  . rw [mT (by rw [<-R.len];exact hl)] at h3;rw [RI ne2] at h4;cases h3;exact absurd h4 (hn k es' (SN ne2) h2)
  . rw [mT (by rw [<-R.len];exact hl2)] at h4;rw [RI ne] at h3;cases h4;exact absurd h3 (hn j ds' (SN ne) h1)
  . rw [RI ne] at h3;rw [RI ne2] at h4;exact R.apart j k q _ _ h1 h2 h3 h4⟩
noncomputable def DE (K:Frag) (ρ:List Addr) (t:TE) (f:DS->Option W):Prop:=
 ∀ (G:Hp) (σ:St) (H:Hp) (δ:DS) (d:W) (Q:VK),Rl K ρ G H δ σ->f δ=some d->(∀ v G' H',Gr G H G' H'->Dw K ρ G' v d->Q v H')->t σ H Q
noncomputable def DA (K:Frag) (ρ:List Addr) (t:TA) (f:DS->Option (List W)):Prop:=
 ∀ (G:Hp) (σ:St) (H:Hp) (δ:DS) (ds:List W) (Q:List V->Hp->Prop),Rl K ρ G H δ σ->f δ=some ds->(∀ vs G' H',Gr G H G' H'->aC K ρ G' vs ds->Q vs H')->t σ H Q
noncomputable def DT (K:Frag) (ρ:List Addr) (t:TT) (f:DS->Option Bool):Prop:=
 ∀ (G:Hp) (σ:St) (H:Hp) (δ:DS) (b:Bool) (Q:Bool->Hp->Prop),Rl K ρ G H δ σ->f δ=some b->(∀ G' H',Gr G H G' H'->Q b H')->t σ H Q
noncomputable def DO (K:Frag) (ρ:List Addr) (t:TE) (f:DS->Option (List W)):Prop:=
 ∀ (G:Hp) (σ:St) (H:Hp) (δ:DS) (ds:List W) (Q:VK),Rl K ρ G H δ σ->f δ=some ds->(∀ p vs G' H',Gr G H G' H'->H p=none->G' p=none->H' p=some (.lst vs)->aC K ρ G' vs ds->Q (.ref p) H')->t σ H Q
noncomputable def Pk (K:Frag) (ρ:List Addr) (G H:Hp) (v:V) (d:W):Prop:=Dw K ρ G v d∨∃ p vs ds,v=.ref p/\d=.list ds/\H p=some (.lst vs)/\aC K ρ G vs ds
noncomputable def DK (K:Frag) (ρ:List Addr) (t:TE) (f:DS->Option W):Prop:=
 ∀ (G:Hp) (σ:St) (H:Hp) (δ:DS) (d:W) (Q:VK),Rl K ρ G H δ σ->f δ=some d->(∀ v G' H',Gr G H G' H'->Pk K ρ G' H' v d->Q v H')->t σ H Q
section
variable {K:Frag} {ρ:List Addr}
theorem Pk.dp (s:bn G H) (h:Pk K ρ G H v d):Dw K ρ H v d:=by
 rcases h with h | ⟨p,vs,ds,rfl,rfl,h1,h2⟩
 . exact h.same s
 . exact .lst (cG.of h1) (h2.same s)
theorem Pk.grow (g:Gr G H G' H') (h:Pk K ρ G H v d):Pk K ρ G' H' v d:=by
 rcases h with h | ⟨p,vs,ds,rfl,rfl,h1,h2⟩
 . exact .inl (h.same g.g)
 . exact .inr ⟨p,vs,ds,rfl,rfl,g.h _ _ h1,h2.same g.g⟩
theorem DE.dk (h:DE K ρ t f):DK K ρ t f:=λ G σ H δ d Q R e q=>h G σ H δ d Q R e λ v G' H' g dv=>q v G' H' g (.inl dv)
noncomputable def be (f:DS->Option (List W)):DS->Option W:=λ δ=>(f δ).map .list
theorem DO.de (h:DO K ρ t f):DE K ρ t (be f):=λ G σ H δ d Q R e q=>by
 obtain ⟨ds,e1,rfl⟩:=oM e
 exact h G σ H δ ds Q R e1 λ p vs G' H' g h0 g0 hh da=>q _ _ H' (g.new h0 g0 hh) (.lst (cG.of aG) (da.same (jt g0 _)))
noncomputable def ae (i:Nat):DS->Option W:=λ δ=>match δ[i]? with
 | some (.val d)=>some d
 | _=>none
theorem Du:DE K ρ (Aa i) (ae i):=λ G σ H δ d Q R e q=>by
 unfold ae at e;split at e
 . rename_i d' h;cases e;obtain ⟨o,h1,v,h2,h3⟩:=R.sl i _ h;exact ⟨v,by rw [h1,h2],q v G H (.refl R.sub) h3⟩
 . cases e
noncomputable def ar (i:Nat):DS->Option W:=λ δ=>match δ[i]? with
 | some (.val d)=>some d
 | some (.own ds)=>some (.list ds)
 | _=>none
theorem iO:DK K ρ (Aa i) (ar i):=λ G σ H δ d Q R e q=>by
 unfold ar at e;split at e
 . rename_i d' h;cases e;obtain ⟨o,h1,v,h2,h3⟩:=R.sl i _ h;exact ⟨v,by rw [h1,h2],q v G H (.refl R.sub) (.inl h3)⟩
 . rename_i ds h;cases e;obtain ⟨o,h1,p,vs,h2,h3,h4,h5⟩:=R.sl i _ h;exact ⟨.ref p,by rw [h1,h2],q _ G H (.refl R.sub) (.inr ⟨p,vs,ds,rfl,rfl,h4,h5⟩)⟩
 . cases e
noncomputable def dC (d:W):DS->Option W:=λ _=>some d
theorem EI (h:∀ G,Dw K ρ G v d):DE K ρ (tC v) (dC d):=λ G σ H δ d' Q R e q=>by
 cases e;exact q v G H (.refl R.sub) (h G)
theorem j8:DE K ρ (tC (.int i)) (dC (.int i)):=EI λ _=>.int i
theorem Mz:DE K ρ (tC (.bl b)) (dC (.bool b)):=EI λ _=>.bl b
theorem ub:DE K ρ (tC (.str x)) (dC (.str x)):=EI λ _=>.str x
theorem IT:DE K ρ (tC .non) (dC .none):=EI λ _=>.non
noncomputable def DR (K:Frag) (ρ:List Addr) (r:R2) (g:W->W->Option W):Prop:=
 ∀ (G H:Hp) (x y:V) (d e c:W) (Q:VK),bn G H->Pk K ρ G H x d->Dw K ρ G y e->g d e=some c->(∀ v G' H',Gr G H G' H'->Dw K ρ G' v c->Q v H')->r x y H Q
noncomputable def ao (g:W->W->Option W) (fa fb:DS->Option W):DS->Option W:=λ δ=>(fa δ).bind λ x=>(fb δ).bind λ y=>g x y
theorem kT (hr:DR K ρ r g) (ha:DK K ρ ta fa) (hb:DE K ρ tb fb):DE K ρ (w4 r ta tb) (ao g fa fb):=λ G σ H δ d Q R e q=>by
 obtain ⟨x,ex,e⟩:=oB e
 obtain ⟨y,ey,e⟩:=oB e
 exact ha G σ H δ x _ R ex λ v G1 H1 g1 dv=>hb G1 σ H1 δ y _ (R.grow g1) ey λ u G2 H2 g2 du=>hr G2 H2 v u x y d Q g2.s (dv.grow g2) du e λ w G3 H3 g3 dw=>q w G3 H3 (g1.trans (g2.trans g3)) dw
noncomputable def DB (K:Frag) (ρ:List Addr) (r:R2) (g:W->W->Option Bool):Prop:=
 ∀ (H:Hp) (x y:V) (d e:W) (b:Bool) (Q:VK),Dw K ρ H x d->Dw K ρ H y e->g d e=some b->Q (.bl b) H->r x y H Q
noncomputable def au (g:W->W->Option Bool) (fa fb:DS->Option W):DS->Option Bool:=λ δ=>(fa δ).bind λ x=>(fb δ).bind λ y=>g x y
noncomputable def dB (f:DS->Option Bool):DS->Option W:=λ δ=>(f δ).map .bool
theorem rG (hr:DB K ρ r g) (ha:DK K ρ ta fa) (hb:DK K ρ tb fb) (R:Rl K ρ G H δ σ) (e:au g fa fb δ=some b) (q:∀ G' H',Gr G H G' H'->Q (.bl b) H'):w4 r ta tb σ H Q:=by
 obtain ⟨x,ex,e⟩:=oB e
 obtain ⟨y,ey,e⟩:=oB e
 exact ha G σ H δ x _ R ex λ v G1 H1 g1 dv=>hb G1 σ H1 δ y _ (R.grow g1) ey λ u G2 H2 g2 du=>hr H2 v u x y b Q ((dv.grow g2).dp g2.s) (du.dp g2.s) e (q G2 H2 (g1.trans g2))
theorem JZ (hr:DB K ρ r g) (ha:DK K ρ ta fa) (hb:DK K ρ tb fb):DE K ρ (w4 r ta tb) (dB (au g fa fb)):=λ G σ H δ d Q R e q=>by
 obtain ⟨b,e1,rfl⟩:=oM e
 exact rG hr ha hb R e1 λ G' H' g=>q _ G' H' g (.bl b)
theorem sU (hr:DB K ρ r g) (ha:DK K ρ ta fa) (hb:DK K ρ tb fb):DT K ρ (pN (w4 r ta tb)) (au g fa fb):=λ G σ H δ b Q R e q=>
 rG hr ha hb R e λ G' H' g=>⟨b,rfl,q G' H' g⟩
noncomputable def E6:W->Option Bool
 | .bool b=>some b
 | _=>none
noncomputable def my (f:DS->Option W):DS->Option Bool:=λ δ=>(f δ).bind E6
theorem p9 (h:E6 d=some b):d=.bool b:=by
 cases d <;> first | (cases h;rfl) | cases h
theorem Kl {t:TE} {f:DS->Option W} (h:DE K ρ t f):DT K ρ (tB t) (my f):=λ G σ H δ b Q R e q=>by
 obtain ⟨x,ex,e⟩:=oB e
 cases p9 e;exact h G σ H δ _ _ R ex λ v G1 H1 g1 dv=>by
  cases dv;exact ⟨b,rfl,q G1 H1 g1⟩
noncomputable def gT (f g:DS->Option Bool):DS->Option Bool:=λ δ=>(f δ).bind λ b=>if b=true then g δ else some false
noncomputable def qV (f g:DS->Option Bool):DS->Option Bool:=λ δ=>(f δ).bind λ b=>if b=true then some true else g δ
noncomputable def Ac (f:DS->Option Bool):DS->Option Bool:=λ δ=>(f δ).map (!·)
theorem J6 {t u:TT} {f g:DS->Option Bool} (h1:DT K ρ t f) (h2:DT K ρ u g):DT K ρ (Ks t u) (gT f g):=λ G σ H δ b Q R e q=>by
 obtain ⟨x,ex,e⟩:=oB e
 refine h1 G σ H δ x _ R ex λ G1 H1 g1=>?_;cases x with
 | true=>exact h2 G1 σ H1 δ b Q (R.grow g1) e λ G2 H2 g2=>q G2 H2 (g1.trans g2)
 | false=>cases e;exact q G1 H1 g1
theorem ML (h1:DT K ρ t f) (h2:DT K ρ u g):DT K ρ (ON t u) (qV f g):=λ G σ H δ b Q R e q=>by
 obtain ⟨x,ex,e⟩:=oB e
 refine h1 G σ H δ x _ R ex λ G1 H1 g1=>?_;cases x with
 | false=>exact h2 G1 σ H1 δ b Q (R.grow g1) e λ G2 H2 g2=>q G2 H2 (g1.trans g2)
 | true=>grind
theorem K1 (h:DT K ρ t f):DT K ρ (LF t) (Ac f):=λ G σ H δ b Q R e q=>by
 obtain ⟨x,ex,rfl⟩:=oM e
 exact h G σ H δ x _ R ex q
noncomputable def Dc (f g:DS->Option W):DS->Option W:=λ δ=>(f δ).bind λ x=>(E6 x).bind λ b=>if b=true then g δ else some (.bool false)
noncomputable def OE (f g:DS->Option W):DS->Option W:=λ δ=>(f δ).bind λ x=>(E6 x).bind λ b=>if b=true then some (.bool true) else g δ
theorem IS (h1:DE K ρ t f) (h2:DE K ρ u g):DE K ρ (Di t u) (Dc f g):=λ G σ H δ d Q R e q=>by
 obtain ⟨x,ex,e⟩:=oB e
 obtain ⟨b,eb,e⟩:=oB e
 cases p9 eb;refine h1 G σ H δ _ _ R ex λ v G1 H1 g1 dv=>?_;cases dv;refine ⟨b,rfl,?_⟩;cases b with
 | true=>exact h2 G1 σ H1 δ d Q (R.grow g1) e λ v G2 H2 g2 dv=>q v G2 H2 (g1.trans g2) dv
 | false=>cases e;exact q _ G1 H1 g1 (.bl _)
noncomputable def CJ (f:DS->Option W):DS->Option W:=λ δ=>(f δ).bind λ x=>(E6 x).map λ b=>.bool (!b)
theorem KJ (h:DE K ρ t f):DE K ρ (Hg t) (CJ f):=λ G σ H δ d Q R e q=>by
 obtain ⟨x,ex,e⟩:=oB e
 obtain ⟨b,eb,rfl⟩:=oM e
 cases p9 eb;refine h G σ H δ _ _ R ex λ v G1 H1 g1 dv=>?_;cases dv;exact ⟨b,rfl,q _ G1 H1 g1 (.bl _)⟩
noncomputable def Fk (c:DS->Option Bool) (f g:DS->Option W):DS->Option W:=λ δ=>(c δ).bind λ b=>if b=true then f δ else g δ
theorem MC (hc:DT K ρ tc c) (h1:DE K ρ t f) (h2:DE K ρ u g):DE K ρ (OI tc t u) (Fk c f g):=λ G σ H δ d Q R e q=>by
 obtain ⟨b,eb,e⟩:=oB e
 refine hc G σ H δ b _ R eb λ G1 H1 g1=>?_;cases b with
 | true=>exact h1 G1 σ H1 δ d Q (R.grow g1) e λ v G2 H2 g2 dv=>q v G2 H2 (g1.trans g2) dv
 | false=>exact h2 G1 σ H1 δ d Q (R.grow g1) e λ v G2 H2 g2 dv=>q v G2 H2 (g1.trans g2) dv
noncomputable def ah:DS->Option (List W):=λ _=>some []
noncomputable def aa (f:DS->Option W) (g:DS->Option (List W)):DS->Option (List W):=λ δ=>(f δ).bind λ d=>(g δ).map (d::·)
theorem qy:DA K ρ gN ah:=λ G σ H δ ds Q R e q=>by
 cases e;exact q [] G H (.refl R.sub) .nil
theorem lR (h1:DE K ρ t f) (h2:DA K ρ u g):DA K ρ (dj t u) (aa f g):=λ G σ H δ ds Q R e q=>by
 obtain ⟨d,ed,e⟩:=oB e
 obtain ⟨es,ee,rfl⟩:=oM e
 exact h1 G σ H δ d _ R ed λ v G1 H1 g1 dv=>h2 G1 σ H1 δ es _ (R.grow g1) ee λ vs G2 H2 g2 da=>q _ G2 H2 (g1.trans g2) (.cons (dv.same g2.g) da)
theorem aC.length (h:aC K ρ G vs ds):vs.length=ds.length:=h.ind (M:=λ vs ds=>vs.length=ds.length) rfl λ _ _ _ _ _ e=>RO _ e
theorem aC.get {G:Hp} {vs:List V} {ds:List W} {i:Nat} {d:W} (h:aC K ρ G vs ds):ds[i]?=some d->∃ v,vs[i]?=some v/\Dw K ρ G v d:=
 h.ind (M:=λ vs ds=>∀ (i:Nat) d,ds[i]?=some d->∃ v,vs[i]?=some v/\Dw K ρ G v d) (λ _ _ e=>by cases e) (λ v _ _ _ a ih i d e=>by
  cases i with
  | zero=>cases e;exact ⟨v,rfl,a⟩
  | succ i=>exact ih i d e) i d
theorem aC.app (h:aC K ρ G vs ds) (h':aC K ρ G ws es):aC K ρ G (vs++ws) (ds++es):=h.ind (M:=λ vs ds=>aC K ρ G (vs++ws) (ds++es)) h' λ _ _ _ _ a ih=>.cons a ih
theorem aC.drop (n:Nat) (h:aC K ρ G vs ds):aC K ρ G (vs.drop n) (ds.drop n):=by
 induction n generalizing vs ds with
 | zero=>exact h
 | succ n ih=>
  cases h with
  | nil=>exact .nil
  | cons _ t=>exact ih t
theorem aC.take (n:Nat) (h:aC K ρ G vs ds):aC K ρ G (vs.take n) (ds.take n):=by
 induction n generalizing vs ds with
 | zero=>exact .nil
 | succ n ih=>
  cases h with
  | nil=>exact .nil
  | cons a t=>exact .cons a (ih t)
theorem aC.ints:∀ (ns:List Int),aC K ρ G (ns.map V.int) (ns.map .int)
 | []=>.nil
 | n::r=>.cons (.int n) (aC.ints r)
noncomputable def aB (f:DS->Option (List W)):DS->Option W:=λ δ=>(f δ).bind λ ds=>if ds.length<=sizeLine then some (.tuple ds) else none
theorem KH (h:DA K ρ t f):DE K ρ (Ex t) (aB f):=λ G σ H δ d Q R e q=>by
 obtain ⟨ds,e1,e⟩:=oB e
 split at e
 . rename_i hz;cases e;refine h G σ H δ ds _ R e1 λ vs G1 H1 g1 da=>⟨by rw [da.length];exact hz,λ p H' n=>?_⟩
   have g2:=Gr.nw g1.s n;exact q _ _ H' (g1.trans g2) (.tup aG (da.same g2.g))
 . cases e
noncomputable def aZ (f:DS->Option (List W)):DS->Option (List W):=λ δ=>(f δ).bind λ ds=>if ds.length<=sizeLine then some ds else none
theorem p7 (h:DA K ρ t f):DO K ρ (Bm t) (aZ f):=λ G σ H δ ds Q R e q=>by
 obtain ⟨ds',e1,e⟩:=oB e
 split at e
 . rename_i hz;cases e;refine h G σ H δ _ _ R e1 λ vs G1 H1 g1 da=>⟨by rw [da.length];exact hz,λ p H' n=>?_⟩
   exact q p vs G1 H' (g1.trans (.nwO g1.s n)) (by
    cases hp:H p with
    | none=>rfl
    | some o=>exact absurd (g1.h _ _ hp) (by rw [n.2.1];simp)) (bV g1.s n.2.1) n.2.2 da
 . cases e
end
section
variable {X:Cx} {tg:Expr}
noncomputable def BO (K:Frag) (tl:TE):TI:=λ σ H R=>tl σ H λ x H1=>∃ a,x=.ref a/\(((∃ xs,cG K H1 a xs)/\R (Op K a) H1)∨((∃ xs,eZ K H1 a xs)/\R (PR K a) H1))
theorem Kr (hl:PE X l tl):PI X tg l (BO X.K tl):=by
 intro pins s σ H R I h;refine cq (hl _ s σ H _ I h) λ v s1 hq0=>?_;obtain ⟨x,H1,I1,r1,q1⟩:=hq0;obtain ⟨a,e,⟨⟨xs,hq⟩,q⟩ | ⟨⟨xs,hq⟩,q⟩⟩:=q1;all_goals
  subst e;cases r1
 . obtain ⟨its,rv,p,hz⟩:=I1.list hq;refine Ud p.isList ?_;refine ⟨s1.heap.objs.size,[s1.heap.objs.size],_,_,H1,rfl,I1.kept  λ b o e=>Rv _ e,zD a _,⟨_,RF _ rfl,rfl,rfl⟩,λ b hb=>?_,q⟩;have e  := by simpa using hb
   subst e;exact I1.fpOk (Ry _) (I1.hok.fresh (Ry _))
 . obtain ⟨its,rv,p,hz⟩:=I1.tuple hq;refine wpAny_pyIter_tuple (show s1.heap.IsTuple a _ from p) ?_;refine ⟨s1.heap.objs.size,[s1.heap.objs.size],_,_,H1,rfl,I1.kept  λ b o e=>Rv _ e,x6 a _,⟨_,RF _ rfl,rfl,rfl⟩,λ b hb=>?_,q⟩;have e  := by simpa using hb
   subst e;exact I1.fpOk (Ry _) (I1.hok.fresh (Ry _))
theorem NV {K:Frag} (h:X.K=K) (hl:PE X l tl):PI X tg l (BO K tl):=h▸Kr hl
end
section
variable {K:Frag} {ρ:List Addr}
noncomputable def Jt (K:Frag) (ρ:List Addr) (J:It) (ds:List W) (i:Nat) (G1 H1:Hp):Prop:=
 (∀ d,ds[i]?=some d->J.go i H1/\∀ x H',J.yld i H1 x H'->∃ G',Gr G1 H1 G' H'/\Dw K ρ G' x d)/\(ds.length<=i->J.stop i H1)
noncomputable def Qn (K:Frag) (ρ:List Addr) (J:It) (G H:Hp) (ds:List W):Prop:=∀ i G1 H1,Gr G H G1 H1->Jt K ρ J ds i G1 H1
noncomputable def L4 (K:Frag) (ρ:List Addr) (J:It) (G:Hp) (ds:List W):Prop:=∀ i G1 H1,bn G G1->bn G1 H1->Jt K ρ J ds i G1 H1
theorem L4.d (h:L4 K ρ J G ds):Qn K ρ J G H ds:=λ i G1 H1 g=>h i G1 H1 g.g g.s
noncomputable def DI (K:Frag) (ρ:List Addr) (wi:TI) (f:DS->Option (List W)):Prop:=
 ∀ (G:Hp) (σ:St) (H:Hp) (δ:DS) (ds:List W) (R':It->Hp->Prop),Rl K ρ G H δ σ->f δ=some ds->(∀ J G' H',Gr G H G' H'->L4 K ρ J G' ds->R' J H')->wi σ H R'
noncomputable def NT (K:Frag) (ρ:List Addr) (wi:TI) (f:DS->Option (List W)):Prop:=
 ∀ (G:Hp) (σ:St) (H:Hp) (δ:DS) (ds:List W) (R':It->Hp->Prop),Rl K ρ G H δ σ->f δ=some ds->(∀ J G' H',Gr G H G' H'->Qn K ρ J G' H' ds->R' J H')->wi σ H R'
theorem DI.k (h:DI K ρ wi f):NT K ρ wi f:=λ G σ H δ ds R' R e q=>h G σ H δ ds R' R e λ J G' H' g i=>q J G' H' g i.d
noncomputable def v6:W->Option (List W)
 | .list ds=>some ds
 | .tuple ds=>some ds
 | _=>none
noncomputable def bm (f:DS->Option W):DS->Option (List W):=λ δ=>(f δ).bind v6
theorem tW (s:bn G1 H1) (q:cG K H1 a xs) (da:aC K ρ G1 xs ds):Jt K ρ (Op K a) ds i G1 H1:=by
 refine ⟨λ d hd=>?_,λ h=>⟨xs,q,by rw [da.length];exact h⟩⟩;obtain ⟨v,h1,h2⟩:=da.get hd;refine ⟨⟨xs,v,q,h1⟩,λ x H' y=>?_⟩;obtain ⟨rfl,y⟩:=y;have:=y xs q;rw [h1] at this;cases this;exact ⟨G1,.refl s,h2⟩
theorem BH (s:bn G1 H1) (q:eZ K H1 a xs) (da:aC K ρ G1 xs ds):Jt K ρ (PR K a) ds i G1 H1:=by
 refine ⟨λ d hd=>?_,λ h=>⟨xs,q,by rw [da.length];exact h⟩⟩;obtain ⟨v,h1,h2⟩:=da.get hd;refine ⟨⟨xs,v,q,h1⟩,λ x H' y=>?_⟩;obtain ⟨rfl,y⟩:=y;have:=y xs q;rw [h1] at this;cases this;exact ⟨G1,.refl s,h2⟩
theorem K5 (h:DE K ρ t f):DI K ρ (BO K t) (bm f):=λ G σ H δ ds R' R e q=>by
 obtain ⟨d,ed,e⟩:=oB e
 refine h G σ H δ d _ R ed λ v G1 H1 g1 dv=>?_;cases dv with
 | lst sq da=>
  cases e;exact ⟨_,rfl,.inl ⟨⟨_,g1.s.seq sq⟩,q _ G1 H1 g1 λ i G2 H2 a b=>tW b ((a.trans b).seq sq) (da.same a)⟩⟩
 | tup sq da=>
  cases e;exact ⟨_,rfl,.inr ⟨⟨_,g1.s.tup (eZ.of sq)⟩,q _ G1 H1 g1 λ i G2 H2 a b=>BH b ((a.trans b).tup (eZ.of sq)) (da.same a)⟩⟩
 | _=>cases e
theorem Fh (h:DK K ρ t f):NT K ρ (BO K t) (bm f):=λ G σ H δ ds R' R e q=>by
 obtain ⟨d,ed,e⟩:=oB e
 refine h G σ H δ d _ R ed λ v G1 H1 g1 dv=>?_;rcases dv with dv | ⟨p,vs,es,rfl,rfl,hp,da⟩
 . cases dv with
   | lst sq da=>
    cases e;exact ⟨_,rfl,.inl ⟨⟨_,g1.s.seq sq⟩,q _ G1 H1 g1 λ i G2 H2 g=>tW g.s ((g.g.trans g.s).seq sq) (da.same g.g)⟩⟩
   | tup sq da=>
    cases e;exact ⟨_,rfl,.inr ⟨⟨_,g1.s.tup (eZ.of sq)⟩,q _ G1 H1 g1 λ i G2 H2 g=>BH g.s ((g.g.trans g.s).tup (eZ.of sq)) (da.same g.g)⟩⟩
   | _=>cases e
 . cases e;exact ⟨p,rfl,.inl ⟨⟨_,cG.of hp⟩,q _ G1 H1 g1 λ i G2 H2 g=>tW g.s (cG.of (g.h _ _ hp)) (da.same g.g)⟩⟩
noncomputable def iL (lo:Int) (n:Nat):List W:=(List.range n).map λ i=>.int (lo+(i:Nat))
theorem JP {lo:Int}:L4 K ρ (N0 lo n) G (iL lo n):=λ i G1 H1 _ s=>by
 refine ⟨λ d hd=>?_,λ h=>show n<=i by simpa [iL] using h⟩;have hi  := by
  have:=(oG hd).1;simpa [iL] using this
 refine ⟨hi,λ x H' y=>?_⟩;obtain ⟨rfl,rfl⟩:=y;have:d=.int (lo+i):=by
  unfold iL at hd
  simp_all
 subst this;exact ⟨G1,.refl s,.int _⟩
noncomputable def rY (j:Int):Bool:=decide (-(2^62)<=j)&&decide (j<2^62)
theorem zE (h:rY j=true) : -(2^62)<=j/\j<2^62:=by
 simp only [rY,RY,R5] at h;exact h
theorem vd (h1 : -(2^62)<=j) (h2:j<2^62):rY j=true:=by
 simp only [rY,  R5]
 simp_all
theorem zN {n:Nat} (h:n<=16777216):rY (n:Int)=true:=vd (by omega) (by omega)
noncomputable def v7 (j:Int):Option (List W):=if rY j=true then some (iL 0 j.toNat) else none
noncomputable def yi:List W->Option (List W)
 | [.int j]=>v7 j
 | _=>none
noncomputable def rH (f:DS->Option (List W)):DS->Option (List W):=λ δ=>(f δ).bind yi
theorem Ge (h:v7 j=some ds):(-(2^62)<=j/\j<2^62)/\ds=iL 0 j.toNat:=by
 unfold v7 at h;split at h
 . rename_i hc;cases h;exact ⟨zE hc,rfl⟩
 . cases h
theorem eW (h:Dw K ρ G v (.int i)):v=.int i:=by cases h;rfl
theorem wX (h:Dw K ρ G v (.str i)):v=.str i:=by cases h;rfl
theorem Hq (h:Dw K ρ G v (.bool i)):v=.bl i:=by cases h;rfl
theorem yb (h:Dw K ρ G v .none):v=.non:=by cases h;rfl
theorem wU (h:aC K ρ G vs [d]):∃ v,vs=[v]/\Dw K ρ G v d:=by
 cases h with
 | cons a b=>cases b;simp_all
theorem En (e:yi ds=some es):∃ j,ds=[.int j]/\v7 j=some es:=by
 cases ds with
 | nil=>cases e
 | cons x r=>
  cases x with
  | int j=>
   cases r with
   | nil=>exact ⟨j,rfl,e⟩
   | cons y r=>cases e
  | _=>cases r <;> cases e
theorem Gz (h:DA K ρ t f):DI K ρ (HM t) (rH f):=λ G σ H δ ds R' R e q=>by
 obtain ⟨es,ed,e⟩:=oB e
 refine h G σ H δ es _ R ed λ vs G1 H1 g1 da=>?_;obtain ⟨j,rfl,e⟩:=En e;obtain ⟨hc,rfl⟩:=Ge e;obtain ⟨v,rfl,dv⟩:=wU da;cases eW dv;exact ⟨_,rfl,hc.1,hc.2,q _ G1 H1 g1 JP⟩
noncomputable def kh (ds:List W):List W:=(List.range ds.length).map λ (i:Nat)=>.tuple [.int (i:Int),ds[i]?.getD .none]
theorem A6 {i:Nat} (h:(kh ds)[i]?=some d):∃ x,ds[i]?=some x/\d=.tuple [.int i,x]:=by
 have hi  := by
  have:=(oG h).1;simpa [kh] using this
 unfold kh at h
 simp_all
theorem J9 (s:bn G1 H1) (q:cG K H1 a xs) (da:aC K ρ G1 xs ds):Jt K ρ (Pc K a) (kh ds) i G1 H1:=by
 refine ⟨λ d hd=>?_,λ h=>⟨xs,q,by rw [da.length];simpa [kh] using h⟩⟩;obtain ⟨x,hx,rfl⟩:=A6 hd;obtain ⟨v,h1,h2⟩:=da.get hx;refine ⟨⟨xs,v,q,h1⟩,λ y H' w=>?_⟩;obtain ⟨p,u,hp,rfl,rfl,w⟩:=w;have:=w xs q;rw [h1] at this;cases this;have n:Nw H1 _ p (.tup [.int i,v]):=.of hp;have g:=Gr.nw s n;exact ⟨_,g,.tup aG (.cons (.int i) (.cons (h2.same g.g) .nil))⟩
noncomputable def kr (f:DS->Option (List W)):DS->Option (List W):=λ δ=>(f δ).bind λ ds=>match ds with
 | [.list es]=>some (kh es)
 | _=>none
theorem GY (h:DA K ρ t f):DI K ρ (Dr K t) (kr f):=λ G σ H δ ds R' R e q=>by
 obtain ⟨es,ed,e⟩:=oB e
 refine h G σ H δ es _ R ed λ vs G1 H1 g1 da=>?_;split at e
 . cases e;obtain ⟨v,rfl,dv⟩:=wU da;cases dv with
   | lst sq da=>exact ⟨_,rfl,⟨_,g1.s.seq sq⟩,q _ G1 H1 g1 λ i G2 H2 a b=>J9 b ((a.trans b).seq sq) (da.same a)⟩
 . cases e
noncomputable def Pw (ds es:List W):List W:=List.zipWith (λ x y=>.tuple [x,y]) ds es
noncomputable def O1 (f:DS->Option (List W)):DS->Option (List W):=λ δ=>(f δ).bind λ ds=>match ds with
 | [.list a,.list b]=>some (Pw a b)
 | _=>none
noncomputable def DG (K:Frag) (ρ:List Addr) (g:TG) (h:W->DS->Option DS):Prop:=
 ∀ (G H:Hp) (δ:DS) (σ:St) (v:V) (d:W) (δ':DS) (Q:St->Hp->Prop),Rl K ρ G H δ σ->Dw K ρ G v d->h d δ=some δ'->(∀ σ',Rl K ρ G H δ' σ'->fL δ' σ' δ σ->Q σ' H)->g v σ H Q
noncomputable def LI (K:Frag) (ρ:List Addr) (g:Lh) (h:List W->DS->Option DS):Prop:=
 ∀ (G H:Hp) (δ:DS) (σ:St) (vs:List V) (ds:List W) (δ':DS) (Q:St->Hp->Prop),Rl K ρ G H δ σ->aC K ρ G vs ds->h ds δ=some δ'->(∀ σ',Rl K ρ G H δ' σ'->fL δ' σ' δ σ->Q σ' H)->g vs σ H Q
noncomputable def af (i:Nat):W->DS->Option DS:=λ d δ=>some (δ.set i (.val d))
theorem yk:DG K ρ (jZ i) (af i):=λ G H δ σ v d δ' Q R dv e q=>by
 cases e;exact q _ (R.set dv) (kG R.len)
noncomputable def dJ:List W->DS->Option DS:=λ ds δ=>match ds with
 | []=>some δ
 | _=>none
noncomputable def aQ (h:W->DS->Option DS) (k:List W->DS->Option DS):List W->DS->Option DS:=λ ds δ=>match ds with
 | d::r=>(h d δ).bind (k r)
 | _=>none
theorem FY:LI K ρ Kt dJ:=λ G H δ σ vs ds δ' Q R dv e q=>by
 cases dv with
 | nil=>cases e;exact ⟨rfl,q _ R (.refl _ _)⟩
 | cons _ _=>cases e
theorem Ch (h1:DG K ρ g h) (h2:LI K ρ u k):LI K ρ (yD g u) (aQ h k):=λ G H δ σ vs ds δ' Q R dv e q=>by
 cases dv with
 | nil=>cases e
 | cons a b=>
  obtain ⟨δ1,e1,e⟩:=oB e
  exact ⟨_,_,rfl,h1 G H δ σ _ _ _ _ R a e1 λ σ1 R1 o1=>h2 G H _ _ _ _ _ Q R1 b e λ σ2 R2 o2=>q _ R2 (o2.trans o1)⟩
noncomputable def dy (n:Nat) (k:List W->DS->Option DS):W->DS->Option DS:=λ d δ=>match d with
 | .tuple ds=>if ds.length=n then k ds δ else none
 | _=>none
theorem IW (h:LI K ρ u k):DG K ρ (GZ K n u) (dy n k):=λ G H δ σ v d δ' Q R dv e q=>by
 cases dv with
 | tup sq da=>
  simp only [dy] at e;split at e
  . rename_i hn;exact ⟨_,_,rfl,R.sub.tup (eZ.of sq),by rw [da.length];exact hn,h G H δ σ _ _ _ Q R da e q⟩
  . cases e
 | _=>cases e
noncomputable def qS (δ:DS):Option Nat->Sl
 | none=>.no
 | some i=>δ[i]?.getD .no
noncomputable def NB (σ:St):Option Nat->Option V
 | none=>none
 | some i=>match σ[i]? with
  | some v=>v
  | none=>none
noncomputable def dI (ix:List (Option Nat)) (δ:DS):DS:=ix.map (qS δ)
theorem pM {j:Nat} (h:ix[j]?=some o):(lift ix σ)[j]?=some (NB σ o):=by
 unfold lift;rw [Su,h];cases o <;> rfl
theorem mO {ix:List (Option Nat)} {δ:DS} {j:Nat} {s:Sl} (h:(dI ix δ)[j]?=some s):∃ o,ix[j]?=some o/\s=qS δ o:=by
 unfold dI at h;rw [Su] at h;obtain ⟨o,h1,h2⟩:=oM h
 exact ⟨o,h1,h2.symm⟩
noncomputable def CO (ix:List (Option Nat)):Bool:=decide ((ix.filterMap id).Nodup)
theorem Kg {ix:List (Option Nat)} (h:(ix.filterMap id).Nodup):∀ {i j k:Nat},ix[i]?=some (some k)->ix[j]?=some (some k)->i=j:=by
 induction ix with
 | nil=>intro i j k h1;simp at h1
 | cons o r ih=>
  intro i j k h1 h2;have hr:(r.filterMap id).Nodup:=by
   cases o with
   | none=>simpa using h
   | some a=>
    have h':(a::r.filterMap id).Nodup:=h;exact (Tg.mp h').2
  have hm:∀ m,r[m]?=some (some k)->k∈r.filterMap id:=λ m hm=>Tn.mpr ⟨some k,Sq hm,rfl⟩;cases i with
  | zero=>
   cases j with
   | zero=>rfl
   | succ j=>
    simp at h1 h2;subst h1;have h':(k::r.filterMap id).Nodup:=h;exact absurd (hm j h2) (Tg.mp h').1
  | succ i=>
   cases j with
   | zero=>
    simp at h1 h2;subst h2;have h':(k::r.filterMap id).Nodup:=h;exact absurd (hm i h1) (Tg.mp h').1
   | succ j=>
    simp at h1 h2;rw [ih hr h1 h2]
theorem Rl.lift (hx:CO ix=true) (R:Rl K ρ G H δ σ):Rl K ρ G H (dI ix δ) (lift ix σ):=by
 have hx'  := by simpa [CO] using hx
 have own:∀ {j:Nat} {ds:List W},(dI ix δ)[j]?=some (.own ds)->∃ i,ix[j]?=some (some i)/\δ[i]?=some (.own ds):=λ {j ds} h=>by
  obtain ⟨o,h1,h2⟩:=mO h;cases o with
  | none=>cases h2
  | some i=>
   refine ⟨i,h1,?_⟩;cases e:δ[i]? with
   | none=>simp [qS,e] at h2
   | some s=>simp [qS,e] at h2;rw [h2]
 have at':∀ {j i:Nat} {v:V},ix[j]?=some (some i)->(L2.lift ix σ)[j]?=some _->σ[i]?=some (some v):=λ {j i v} h1 h2=>by
  rw [pM h1] at h2;simp only [NB] at h2;split at h2
  . rename_i w e;rw [e];simpa using h2
  . cases h2
 refine ⟨R.sub,by simp [dI,L2.lift],λ j s h=>?_,λ j k p ds es h1 h2 h3 h4=>?_⟩
 . obtain ⟨o,h1,rfl⟩:=mO h;refine ⟨_,pM h1,?_⟩;cases o with
   | none=>trivial
   | some i=>
    cases e:δ[i]? with
    | none=>simp only [qS,e,Option.getD_none];trivial
    | some s=>
     obtain ⟨o,k1,k2⟩:=R.sl i s e;simp only [qS,NB,e,k1,Option.getD_some];exact k2
 . obtain ⟨i1,a1,a2⟩:=own h1;obtain ⟨i2,b1,b2⟩:=own h2;have:=R.apart i1 i2 p ds es a2 b2 (at' a1 h3) (at' b1 h4);subst this;exact Kg hx' a1 b1
noncomputable def zQ:DS->Option Bool:=λ _=>some true
theorem Ix:DT K ρ Ni zQ:=λ G σ H δ b Q R e q=>by
 cases e;exact q G H (.refl R.sub)
noncomputable def bQ (h:W->DS->Option DS) (c:DS->Option Bool) (fe:DS->Option W) (δ:DS):List W->Option (List W)
 | []=>some []
 | d::ds=>(h d δ).bind λ δ2=>(c δ2).bind λ b=>if b=true then (fe δ2).bind λ e=>(bQ h c fe δ ds).map (e::·) else bQ h c fe δ ds
noncomputable def ku (ix:List (Option Nat)) (fi:DS->Option (List W)) (h:W->DS->Option DS) (c:DS->Option Bool) (fe:DS->Option W):DS->Option (List W):=λ δ=>
 (fi δ).bind λ ds=>if ds.length<=sizeLine then bQ h c fe (dI ix δ) ds else none
theorem Fb
 (hx:CO ix=true) (hi:NT K ρ wi fi) (hg:DG K ρ g h) (hc:DT K ρ tc c) (he:DE K ρ te fe):DO K ρ (pE ix wi g tc te) (ku ix fi h c fe):=λ G σ H δ es Q R e q=>by
 obtain ⟨ds,ed,e⟩:=oB e
 split at e
 case isFalse=>cases e
 refine hi G σ H δ ds _ R ed λ J G1 H1 g1 it=>?_;refine ⟨λ i m ys H2=>m=ds.length-i/\i<=ds.length/\ys.length<=i/\∃ G2 as bs,Gr G1 H1 G2 H2/\aC K ρ G2 ys as/\bQ h c fe _ (ds.drop i)=some bs/\as++bs=es,⟨ds.length,by simp,Tf _,Ry _,G1,[],es,.refl g1.s,.nil,by simpa using e,rfl⟩,?_⟩;rintro i m ys H2 ⟨rfl,hil,hyl,G2,as,bs,g2,da,eb,rfl⟩;have ia:=it i G2 H2 g2;by_cases hlt:i<ds.length
 . refine .inr ?_;obtain ⟨go,step⟩:=ia.1 _ (RQ _);rw [Sn hlt] at eb;obtain ⟨δ2,e2,eb⟩:=oB eb
   obtain ⟨b,e3,eb⟩:=oB eb
   refine ⟨go,by omega,λ ys' H'=>ys'.length<=i+1/\∃ G2 as' bs',Gr G1 H1 G2 H'/\aC K ρ G2 _ _/\bQ h c fe _ _=some _/\as'++bs'=as++bs,λ ys' H' hy0=>by obtain ⟨l,z⟩:=hy0;exact ⟨ds.length-(i+1),by omega,rfl,hlt,l,z⟩,λ x H' y=>?_⟩;obtain ⟨G3,g3,dx⟩:=step x H' y;have R3:=((R.grow g1).grow g2).grow g3;refine hg G3 H' (dI ix δ) _ x _ δ2 _ (R3.lift hx) dx e2 λ σ2 R4 _=>?_;refine hc G3 σ2 H' δ2 b _ R4 e3 λ G5 H5 g5=>?_;have g25:=g2.trans (g3.trans g5);have da5:=da.same (g3.trans g5).g;cases b with
   | false=>exact ⟨by omega,G5,as,bs,g25,da5,eb,rfl⟩
   | true=>
    obtain ⟨ev,e6,eb⟩:=oB eb
    obtain ⟨bs',e7,rfl⟩:=oM eb
    refine he G5 σ2 H5 δ2 ev _ (R4.grow g5) e6 λ v G6 H6 g6 dv=>?_;exact ⟨by simp;omega,G6,as++[ev],bs',g25.trans g6,(da5.same g6.g).app (.cons dv .nil),e7,by simp⟩
 . have hi':i=ds.length:=by omega
   subst hi';refine .inl ⟨ia.2 (Ry _),by omega,λ p hp=>?_⟩;rw [Uj] at eb;cases eb;rw [Sa] at q;have n:Nw H2 (cH H2 p (.lst ys)) p (.lst ys):=.of hp;exact q p ys G2 _ (g1.trans (g2.trans (.nwO g2.s n))) (bV (g1.trans g2).h hp) (bV g2.s hp) aG da
inductive eI where
 | nx (δ:DS)
 | bk (δ:DS)
 | ct (δ:DS)
 | rt (d:W)
structure Iv (K:Frag) (ρ:List Addr) (G0 H0 G H:Hp) (δ:DS) (σ:St):Prop where
 rl:Rl K ρ G H δ σ
 gr:Gr G0 H0 G H
 ow:∀ (i:Nat) p ds,δ[i]?=some (.own ds)->σ[i]?=some (some (.ref p))->H0 p=none
noncomputable def QP (K:Frag) (ρ:List Addr) (G0 H0:Hp) (D:oz):eI->Prop
 | .nx δ=>∀ σ G H,Iv K ρ G0 H0 G H δ σ->D.nx σ H
 | .bk δ=>∀ σ G H,Iv K ρ G0 H0 G H δ σ->D.bk σ H
 | .ct δ=>∀ σ G H,Iv K ρ G0 H0 G H δ σ->D.ct σ H
 | .rt d=>∀ v G H,Gr G0 H0 G H->Dw K ρ G v d->D.rt v H
noncomputable def oX (K:Frag) (ρ:List Addr) (t:TS) (f:DS->Option eI):Prop:=
 ∀ (G0 H0 G:Hp) (σ:St) (H:Hp) (δ:DS) (o:eI) (D:oz),Iv K ρ G0 H0 G H δ σ->f δ=some o->QP K ρ G0 H0 D o->t D σ H
theorem Iv.grow (I:Iv K ρ G0 H0 G H δ σ) (g:Gr G H G' H'):Iv K ρ G0 H0 G' H' δ σ:=⟨I.rl.grow g,I.gr.trans g,I.ow⟩
theorem Iv.sub (I:Iv K ρ G0 H0 G H δ σ) (R:Rl K ρ G H δ' σ') (o:fL δ' σ' δ σ):Iv K ρ G0 H0 G H δ' σ':=⟨R,I.gr,λ i p ds h1 h2=>by
 obtain ⟨es,h3,h4⟩:=o i ds p h1 h2;exact I.ow i p es h3 h4⟩
theorem Iv.base (I:Iv K ρ G0 H0 G H δ σ):Iv K ρ G H0 G H δ σ:=⟨I.rl,⟨.refl _,I.gr.h,I.gr.s,λ _ _ h=>h⟩,I.ow⟩
theorem Gr.rebase (a:Gr G0 H0 G H) (b:Gr G H0 G' H'):Gr G0 H0 G' H':=⟨a.g.trans b.g,b.h,b.s,λ c h1 h2=>b.n c h1 (a.n c h1 h2)⟩
theorem Iv.rebase (a:Gr G0 H0 G H) (I:Iv K ρ G H0 G' H' δ σ):Iv K ρ G0 H0 G' H' δ σ:=⟨I.rl,a.rebase I.gr,I.ow⟩
noncomputable def av:DS->Option eI:=λ δ=>some (.nx δ)
theorem oJ:oX K ρ Ic av:=λ G0 H0 G σ H δ o D I e p=>by
 cases e;exact p σ G H I
noncomputable def ak (f g:DS->Option eI):DS->Option eI:=λ δ=>match f δ with
 | some (.nx δ')=>g δ'
 | o=>o
theorem mD (h1:oX K ρ t f) (h2:oX K ρ u g):oX K ρ (Kb t u) (ak f g):=λ G0 H0 G σ H δ o D I e p=>by
 unfold ak at e;cases ef:f δ with
 | none=>simp_all
 | some o1=>
  rw [ef] at e;refine h1 G0 H0 G σ H δ o1 _ I ef ?_;cases o1 with
  | nx δ'=>exact λ σ' G' H' I'=>h2 G0 H0 G' _ H' _ o D I' e p
  | bk δ'=>cases e;exact p
  | ct δ'=>cases e;exact p
  | rt d=>cases e;exact p
noncomputable def bg (c:DS->Option Bool) (f g:DS->Option eI):DS->Option eI:=λ δ=>(c δ).bind λ b=>if b=true then f δ else g δ
theorem v4 (hc:DT K ρ tc c) (h1:oX K ρ t f) (h2:oX K ρ u g):oX K ρ (Iu tc t u) (bg c f g):=λ G0 H0 G σ H δ o D I e p=>by
 obtain ⟨b,eb,e⟩:=oB e
 refine hc G σ H δ b _ I.rl eb λ G1 H1 g1=>?_;cases b with
 | true=>exact h1 G0 H0 G1 σ H1 δ o D (I.grow g1) e p
 | false=>exact h2 G0 H0 G1 σ H1 δ o D (I.grow g1) e p
noncomputable def az (f:DS->Option W):DS->Option eI:=λ δ=>(f δ).map .rt
theorem mr (h:DE K ρ t f):oX K ρ (Iy t) (az f):=λ G0 H0 G σ H δ o D I e p=>by
 obtain ⟨d,ed,rfl⟩:=oM e
 exact h G σ H δ d _ I.rl ed λ v G1 H1 g1 dv=>p v G1 H1 (I.gr.trans g1) dv
noncomputable def IU:DS->Option eI:=λ _=>some (.rt .none)
noncomputable def lj:DS->Option eI:=λ _=>none
theorem BZ:oX K ρ t lj:=λ G0 H0 G σ H δ o D I e p=>by cases e
noncomputable def aD (f:DS->Option W) (h:W->DS->Option DS):DS->Option eI:=λ δ=>(f δ).bind λ d=>(h d δ).map .nx
theorem x5 (h1:DE K ρ t f) (h2:DG K ρ g h):oX K ρ (zH t g) (aD f h):=λ G0 H0 G σ H δ o D I e p=>by
 obtain ⟨d,ed,e⟩:=oB e
 obtain ⟨δ',e2,rfl⟩:=oM e
 exact h1 G σ H δ d _ I.rl ed λ v G1 H1 g1 dv=>h2 G1 H1 δ σ v d _ _ (I.rl.grow g1) dv e2 λ σ' R o=>p _ G1 H1 ((I.grow g1).sub R o)
noncomputable def fj (i:Nat) (f:DS->Option (List W)):DS->Option eI:=λ δ=>(f δ).map λ ds=>.nx (δ.set i (.own ds))
theorem BP (h:DO K ρ t f):oX K ρ (zH t (jZ i)) (fj i f):=λ G0 H0 G σ H δ o D I e p=>by
 obtain ⟨ds,ed,rfl⟩:=oM e
 refine h G σ H δ ds _ I.rl ed λ q vs G1 H1 g1 h0 g0 hh da=>?_;have I1:=I.grow g1;refine p _ G1 H1 ⟨I1.rl.setO g0 hh da λ j es hj h1 h2=>?_,I1.gr,λ j q' ds' h1 h2=>?_⟩
 . obtain ⟨o,k1,q1,vs1,k2,k3,k4,_⟩:=I.rl.sl j _ h1
   simp_all
 . rcases di h1 with ⟨rfl,_,hl⟩ | ⟨ne,h1⟩
   . rw [mT (by grind)] at h2;cases h2;exact bV I.gr.h h0
   . rw [RI ne] at h2;exact I.ow j q' _ h1 h2
noncomputable def frz (i:Nat) (δ:DS):DS:=match δ[i]? with
 | some (.own ds)=>δ.set i (.val (.list ds))
 | _=>δ
noncomputable def jD (i:Nat) (f:DS->Option eI):DS->Option eI:=λ δ=>f (frz i δ)
theorem Iv.frz (i:Nat) (I:Iv K ρ G0 H0 G H δ σ):∃ G',Iv K ρ G0 H0 G' H (L2.frz i δ) σ:=by
 unfold L2.frz;split
 . rename_i ds h;obtain ⟨o,h1,p,vs,rfl,h3,h4,h5⟩:=I.rl.sl i _ h;have h0:=I.ow i p ds h h1;have g:bn G (cH G p (.lst vs)):=jt h3 _;refine ⟨cH G p _,⟨⟨jK I.gr.s h4,by rw [SW];exact I.rl.len,λ j s e=>?_,λ j k q ds' es' k1 k2 k3 k4=>?_⟩,I.gr.new h0 h3 h4,λ j q ds' k1 k2=>?_⟩⟩
   . rcases di e with ⟨rfl,rfl,hl⟩ | ⟨ne,e⟩
     . exact ⟨_,h1,.ref p,rfl,.lst (cG.of aG) (h5.same g)⟩
     . obtain ⟨o,k1,k2⟩:=I.rl.sl j s e;refine ⟨o,k1,?_⟩;cases s with
       | no=>trivial
       | val d=>
        obtain ⟨v,e1,e2⟩:=k2;exact ⟨v,e1,e2.same g⟩
       | own es=>
        obtain ⟨q,ws,rfl,e2,e3,e4⟩:=k2;refine ⟨q,ws,rfl,?_,e3,e4.same g⟩;rw [aF]
        . exact e2
        . rintro rfl;exact ne (I.rl.apart i j q ds es h e h1 k1)
   all_goals
    rcases di k1 with ⟨_,z,_⟩ | ⟨ne,k1⟩
    . cases z
   . rcases di k2 with ⟨_,z,_⟩ | ⟨ne2,k2⟩
     . cases z
     . exact I.rl.apart j k q ds' es' k1 k2 k3 k4
   . exact I.ow j q ds' k1 k2
 grind
theorem C5 (h:oX K ρ t f):oX K ρ t (jD i f):=λ G0 H0 G σ H δ o D I e p=>by
 obtain ⟨G',I'⟩:=I.frz i;exact h G0 H0 G' σ H _ o D I' e p
noncomputable def aE (h:W->DS->Option DS) (fb:DS->Option eI):List W->DS->Option eI
 | [],δ=>some (.nx δ)
 | d::ds,δ=>(h d δ).bind λ δ2=>match fb δ2 with
  | some (.nx δ')=>aE h fb ds δ'
  | some (.ct δ')=>aE h fb ds δ'
  | some (.bk δ')=>some (.nx δ')
  | some (.rt d)=>some (.rt d)
  | none=>none
noncomputable def d5 (fi:DS->Option (List W)) (h:W->DS->Option DS) (fb:DS->Option eI):DS->Option eI:=λ δ=>(fi δ).bind λ ds=>aE h fb ds δ
theorem Dj (hi:DI K ρ wi fi) (hg:DG K ρ g h) (hb:oX K ρ tb fb):oX K ρ (JH wi g tb) (d5 fi h fb):=λ G0 H0 G σ H δ o D I e p=>by
 obtain ⟨ds,ed,e⟩:=oB e
 refine hi G σ H δ ds _ I.rl ed λ J G1 H1 g1 it=>?_;refine ⟨λ i m σ H=>m=ds.length-i/\i<=ds.length/\∃ G δ,Iv K ρ G0 H0 G H δ σ/\bn G1 G/\aE h fb (ds.drop i) δ=some o,⟨ds.length,by simp,Tf _,G1,δ,I.grow g1,.refl _,by grind⟩,?_⟩;rintro i m σ2 H2 ⟨rfl,hil,G2,δ2,I2,s2,e2⟩;have ia:=it i G2 H2 s2 I2.gr.s;by_cases hlt:i<ds.length
 . refine .inr ?_;obtain ⟨go,step⟩:=ia.1 _ (RQ _);rw [Sn hlt] at e2;obtain ⟨δ3,e3,e4⟩:=oB e2
   have back:∀ {G3 H3:Hp},Gr G2 H2 G3 H3->∀ {G4 H4:Hp} {σ4:St} {δ4:DS},Iv K ρ G3 H0 G4 H4 _ _->Iv K ρ G0 H0 G4 H4 δ4 σ4/\bn G1 G4:=λ {G3 H3} g3 {G4 H4 σ4 δ4} I4=>⟨I4.rebase (I2.gr.trans g3),s2.trans (g3.g.trans I4.gr.g)⟩
   have again:∀ δ',aE h fb _ _=some o->fb _=some (.nx _)∨fb _=some (.ct _)->∃ N:St->Hp->Prop,(∀ σ' H',N σ' H'->∃ m',m'<ds.length-i/\m'=ds.length-(i+1)/\i+1<=ds.length/\∃ G δ,Iv K ρ G0 H0 G H' δ σ'/\bn G1 G/\aE h fb (ds.drop (i+1)) δ=some o)/\∀ x H',J.yld i H2 x H'->g x _ H' λ σ2 H2=>tb { D with nx:=N,ct:=N,bk:=D.nx } σ2 H2:=λ δ' ed' ef=>by
    refine ⟨λ σ' H'=>∃ G',Iv K ρ G0 H0 G' H' δ' σ'/\bn G1 G',λ σ' H' hy0=>by obtain ⟨G',I',s'⟩:=hy0;exact ⟨ds.length-(i+1),by omega,rfl,hlt,G',δ',I',s',ed'⟩,λ x H' y=>?_⟩;obtain ⟨G3,g3,dx⟩:=step x H' y;have I3:=I2.grow g3;refine hg G3 H' δ2 σ2 x _ δ3 _ I3.rl dx e3 λ σ3 R3 o3=>?_;have I4:=(I3.sub R3 o3).base;rcases ef with ef | ef
    . exact hb G3 H0 G3 σ3 H' δ3 _ _ I4 ef λ σ5 G5 H5 I5=>⟨G5,back g3 I5⟩
    . exact hb G3 H0 G3 σ3 H' δ3 _ _ I4 ef λ σ5 G5 H5 I5=>⟨G5,back g3 I5⟩
   cases ef:fb δ3 with
   | none=>rw [ef] at e4;cases e4
   | some o1=>
    rw [ef] at e4;cases o1 with
    | nx δ'=>
     obtain ⟨N,n1,n2⟩:=again δ' e4 (.inl ef);exact ⟨go,N,n1,n2⟩
    | ct δ'=>
     obtain ⟨N,n1,n2⟩:=again δ' e4 (.inr ef);exact ⟨go,N,n1,n2⟩
    | bk δ'=>
     cases e4;refine ⟨go,λ _ _=>False,λ _ _ z=>z.elim,λ x H' y=>?_⟩;obtain ⟨G3,g3,dx⟩:=step x H' y;have I3:=I2.grow g3;refine hg G3 H' δ2 σ2 x _ δ3 _ I3.rl dx e3 λ σ3 R3 o3=>?_;exact hb G3 H0 G3 σ3 H' δ3 _ _ (I3.sub R3 o3).base ef λ σ5 G5 H5 I5=>p σ5 G5 H5 (back g3 I5).1
    | rt d=>
     cases e4;refine ⟨go,λ _ _=>False,λ _ _ z=>z.elim,λ x H' y=>?_⟩;obtain ⟨G3,g3,dx⟩:=step x H' y;have I3:=I2.grow g3;refine hg G3 H' δ2 σ2 x _ δ3 _ I3.rl dx e3 λ σ3 R3 o3=>?_;exact hb G3 H0 G3 σ3 H' δ3 _ _ (I3.sub R3 o3).base ef λ v G5 H5 g5 dv=>p v G5 H5 ((I2.gr.trans g3).rebase g5) dv
 . have hi':i=ds.length:=by omega
   subst hi';rw [Uj] at e2;cases e2;exact .inl ⟨ia.2 (Ry _),p σ2 G2 H2 I2⟩
noncomputable def nI (i:Nat) (δ:DS):Option (List W):=match δ[i]? with
 | some (.own ds)=>some ds
 | _=>none
theorem q9 {i:Nat} {δ:DS} {ds:List W} (h:nI i δ=some ds):δ[i]?=some (.own ds):=by
 unfold nI at h;split at h
 . rename_i e;cases h;exact e
 . cases h
theorem Iv.put (I:Iv K ρ G0 H0 G H δ σ) (h:δ[i]?=some (.own ds)) (hp:σ[i]?=some (some (.ref p))) (g0:G p=none) (da:aC K ρ G vs es):Iv K ρ G0 H0 G (cH H p (.lst vs)) (δ.set i (.own es)) σ:=by
 have h0:=I.ow i p ds h hp;have sG:bn G (cH H p (.lst vs)):=λ b o e=>by
  rw [aF λ z=>by simp_all];exact I.gr.s _ _ e
 refine ⟨⟨sG,by rw [SW];exact I.rl.len,λ j s e=>?_,λ j k q ds' es' k1 k2 k3 k4=>?_⟩,⟨I.gr.g,λ b o e=>?_,sG,I.gr.n⟩,λ j q ds' k1 k2=>?_⟩
 . rcases di e with ⟨rfl,rfl,hl⟩ | ⟨ne,e⟩
   . exact ⟨_,hp,p,vs,rfl,g0,aG,da⟩
   . obtain ⟨o,k1,k2⟩:=I.rl.sl j s e;refine ⟨o,k1,?_⟩;cases s with
     | no=>trivial
     | val d=>exact k2
     | own es2=>
      obtain ⟨q,ws,rfl,e2,e3,e4⟩:=k2;refine ⟨q,ws,rfl,e2,?_,e4⟩;rw [aF]
      . exact e3
      . rintro rfl;exact ne (I.rl.apart i j q ds es2 h e hp k1)
 . rcases di k1 with ⟨rfl,_,_⟩ | ⟨ne,k1⟩ <;> rcases di k2 with ⟨rfl,_,_⟩ | ⟨ne2,k2⟩
   . rfl
   . exact I.rl.apart _ _ q _ _ h k2 k3 k4
   . exact I.rl.apart _ _ q _ _ k1 h k3 k4
   . exact I.rl.apart _ _ q _ _ k1 k2 k3 k4
 . rw [aF (λ z=>by rw [z,h0] at e;cases e)];exact I.gr.h _ _ e
 . rcases di k1 with ⟨rfl,_,_⟩ | ⟨ne,k1⟩
   . exact I.ow _ q _ h k2
   . exact I.ow j q _ k1 k2
noncomputable def bF (i:Nat) (f:DS->Option W):DS->Option eI:=λ δ=>(nI i δ).bind λ ds=>(f δ).bind λ d=>if ds.length<sizeLine then some (.nx (δ.set i (.own (ds++[d])))) else none
theorem sE (h:DE K ρ t f):oX K ρ (qz (HE K "list" oW (Aa i) (dj t gN))) (bF i f):=λ G0 H0 G σ H δ o D I e p=>by
 obtain ⟨ds,eo,e⟩:=oB e
 obtain ⟨d,ed,e⟩:=oB e
 split at e
 case isFalse=>cases e
 rename_i hz;cases e;have ho:=q9 eo;obtain ⟨o,h1,q,vs,rfl,h3,h4,h5⟩:=I.rl.sl i _ ho;refine ⟨.ref q,h1,.inl ⟨rfl,vs,cG.of h4⟩,h G σ H δ d _ I.rl ed λ v G1 H1 g1 dv=>⟨q,vs,v,rfl,rfl,g1.h _ _ h4,by rw [h5.length];exact hz,?_⟩⟩;have I1:=I.grow g1;exact p σ G1 _ (I1.put ho h1 (g1.n q (.l h4) h3) ((h5.same g1.g).app (.cons dv .nil)))
noncomputable def qB (i:Nat) (f:DS->Option (List W)):DS->Option eI:=λ δ=>(nI i δ).bind λ ds=>(f δ).bind λ es=>if ds.length+es.length<=sizeLine then some (.nx (δ.set i (.own (ds++es)))) else none
theorem rT (h:DO K ρ t f):oX K ρ (qz (HE K "list" uA (Aa i) (dj t gN))) (qB i f):=λ G0 H0 G σ H δ o D I e p=>by
 obtain ⟨ds,eo,e⟩:=oB e
 obtain ⟨es,ed,e⟩:=oB e
 split at e
 case isFalse=>cases e
 rename_i hz;cases e;have ho:=q9 eo;obtain ⟨o,h1,q,vs,rfl,h3,h4,h5⟩:=I.rl.sl i _ ho;refine ⟨.ref q,h1,.inl ⟨rfl,vs,cG.of h4⟩,h G σ H δ es _ I.rl ed λ r ws G1 H1 g1 r0 gr0 hr da=>⟨q,r,vs,ws,rfl,rfl,g1.h _ _ h4,hr,by rw [h5.length,da.length];exact hz,?_⟩⟩;have I1:=I.grow g1;exact p σ G1 _ (I1.put ho h1 (g1.n q (.l h4) h3) ((h5.same g1.g).app da))
noncomputable def KI (i:Nat) (fi fv:DS->Option W):DS->Option eI:=λ δ=>(fv δ).bind λ d=>(nI i δ).bind λ ds=>(fi δ).bind λ x=>match x with
 | .int k=>(Fu ds.length k).map λ j=>.nx (δ.set i (.own (ds.set j d)))
 | _=>none
end
section
variable {K:Frag} {ρ:List Addr}
noncomputable def iV (K:Frag) (f:List W->Option W):Sp:=λ vs H Q _=>∃ ρ G ds d,bn G H/\aC K ρ G vs ds/\f ds=some d/\∀ v G' H',Gr G H G' H'->Dw K ρ G' v d->Q v H'
noncomputable def aV (f:List W->Option W) (fa:DS->Option (List W)):DS->Option W:=λ δ=>(fa δ).bind f
theorem EB (h:DA K ρ t fa):DE K ρ (q0 (iV K f) [] E t) (aV f fa):=λ G σ H δ d Q R e q=>by
 obtain ⟨ds,ed,e⟩:=oB e
 exact h G σ H δ ds _ R ed λ vs G1 H1 g1 da=>by
  refine ⟨ρ,G1,ds,d,g1.s,?_,e,λ v G2 H2 g2 dv=>q v G2 H2 (g1.trans g2) dv⟩
  simp_all
noncomputable def dg (n:Nat) (ds:List W):DS:=ds.map .val++List.replicate (n-ds.length) .no
noncomputable def GN:Option eI->Option W
 | some (.rt d)=>some d
 | some (.nx _)=>some .none
 | _=>none
noncomputable def b7 (a n:Nat) (fb:DS->Option eI):List W->Option W:=λ ds=>if ds.length=a then GN (fb (dg n ds)) else none
theorem rJ (h:b7 a n fb ds=some d):ds.length=a:=by
 unfold b7 at h
 simp_all
theorem Gj (hf:∀ ds d,f ds=some d->ds.length=a) (h:iV K f vs H Q E):vs.length=a:=by
 obtain ⟨ρ,G,ds,d,s,da,e,q⟩:=h;rw [da.length]
 simp_all
theorem iJ {n:Nat} {ds:List W} {i:Nat} {es:List W}:(dg n ds)[i]?≠some (.own es):=by
 unfold dg;intro h;rcases TM i (ds.map Sl.val).length with hl | hl
 . rw [RR hl,Su] at h;obtain ⟨d,_,e⟩:=oM h
   cases e
 . rw [R0 hl,T1] at h;split at h <;> cases h
theorem vU {G H:Hp} {N:List Str} {vs:List V} {ds:List W} (s:bn G H) (h:aC K ρ G vs ds):Rl K ρ G H (dg N.length ds) (start N vs):=by
 refine ⟨s,by simp [dg,start,h.length],λ i sl e=>?_,λ i j p ds' es' h1=>absurd h1 iJ⟩;unfold dg at e;unfold start;rcases TM i ds.length with hl | hl
 . rw [RR (by simpa using hl),Su] at e;obtain ⟨d,e1,rfl⟩:=oM e
   obtain ⟨v,h1,h2⟩:=h.get e1;refine ⟨some v,?_,v,rfl,h2⟩;rw [RR (by simp [h.length];exact hl),Su,h1];rfl
 . rw [R0 (by simpa using hl),T1] at e;split at e
   . cases e;rename_i hlt;refine ⟨none,?_,trivial⟩;rw [R0 (by simp [h.length];exact hl),T1,Rt];simp only [R8] at hlt ⊢;rw [h.length];exact hlt
   . cases e
theorem O2 (hn:N.length=n) (h:∀ ρ,oX K ρ t fb) (hsp:iV K (b7 a n fb) vs H Q E):t { nx:=λ _ H'=>Q .non H',rt:=Q } (start N vs) H:=by
 subst hn;obtain ⟨ρ,G,ds,d,s,da,e,q⟩:=hsp;have R:=vU (N:=N) s da;have I:Iv K ρ G H G H _ _:=⟨R,.refl s,λ i p ds' h1=>absurd h1 iJ⟩
 unfold b7 at e;rw [Rt (rJ (show b7 a _ fb ds=some d from e))] at e;cases ef:fb _ with
 | none=>rw [ef] at e;cases e
 | some o=>
  rw [ef] at e;refine h ρ G H G _ H _ o _ I ef ?_;cases o with
  | nx δ=>cases e;exact λ σ' G' H' I'=>q _ G' H' I'.gr .non
  | rt d'=>cases e;exact λ v G' H' g dv=>q v G' H' g dv
  | bk _=>cases e
  | ct _=>cases e
end
noncomputable def He (K:Frag):R2:=λ x y H Q=>∃ l b xs zs,x=.ref l/\y=.ref b/\cG K H l xs/\cG K H b zs/\xs.length+zs.length<=sizeLine/\∀ p H',Nw H H' p (.lst (xs++zs))->Q (.ref p) H'
theorem ES:fX X (binaryOp .Add) (He X.K):=by
 intro pins s σ H x y v u Q I rx ry h;obtain ⟨l,b,xs,zs,rfl,rfl,hH,hB,hz,q⟩:=h;cases rx;cases ry;obtain ⟨its,r,hl,_⟩:=I.list hH;obtain ⟨its2,r2,hb,_⟩:=I.list hB;obtain ⟨⟨cls,dd,data,sl⟩,n,ho,hc,hdd,hd⟩:=hl;obtain ⟨⟨cls2,dd2,data2,sl2⟩,n2,ho2,hc2,hdd2,hd2⟩:=hb;subst hc hd hc2 hd2;have e:its.toArray++its2.toArray=(its++its2).toArray:=by simp
 refine concat_meets ⟨_,ho,rfl⟩ ⟨_,ho2,rfl⟩ noFill_list_add seq_list_add PySem.F.slot_list_add PySem.F.entry_list_add (PySem.F.args_list_add_2 _ _) (list_addW l b _ _ n n2 dd _ sl _ (by rw [So,So,<-r.length,<-r2.length];exact hz)) ⟨ho,ho2,?_⟩;rw [e];exact ⟨.ref _,_,I.lnew  (r.append r2) (by simp_all),rfl,q _ _ (.of I.fresh)⟩
noncomputable def Fy:R2:=λ x y H Q=>∃ i j,x=.str i/\y=.str j/\i.length+j.length<=sizeLine/\Q (.str (i++j)) H
noncomputable def y6 (K:Frag):R2:=λ x y H Q=>yq (λ i j=>.int (i+j)) x y H Q∨Fy x y H Q∨He K x y H Q∨Hh K x y H Q
theorem F1 {K:Frag} (h:X.K=K):fX X (binaryOp .Add) (y6 K):=h▸Iq.or (xr.or (ES.or EQ))
section
variable {K:Frag} {ρ:List Addr}
noncomputable def bI:W->W->Option W
 | .int i,.int j=>some (.int (i+j))
 | .str i,.str j=>if i.length+j.length<=sizeLine then some (.str (i++j)) else none
 | .list a,.list b=>if a.length+b.length<=sizeLine then some (.list (a++b)) else none
 | .tuple a,.tuple b=>if a≠[]/\a.length+b.length<=sizeLine then some (.tuple (a++b)) else none
 | _,_=>none
theorem wL (h:Pk K ρ G H v (.int i)):v=.int i:=by
 rcases h with h | ⟨_,_,_,_,e,_⟩
 . exact eW h
 . cases e
theorem sR (h:Pk K ρ G H v (.str i)):v=.str i:=by
 rcases h with h | ⟨_,_,_,_,e,_⟩
 . exact wX h
 . cases e
theorem i3 (s:bn G H) (h:Pk K ρ G H v (.list ds)):∃ p vs,v=.ref p/\cG K H p vs/\aC K ρ G vs ds:=by
 rcases h with h | ⟨p,vs,es,rfl,e,h1,h2⟩
 . cases h with
   | lst sq da=>exact ⟨_,_,rfl,s.seq sq,da⟩
 . cases e;exact ⟨p,vs,rfl,cG.of h1,h2⟩
theorem tG {G:Hp} {v:V} {ds:List W} (h:Dw K ρ G v (.list ds)):∃ p vs,v=.ref p/\cG K G p vs/\aC K ρ G vs ds:=by
 cases h with
 | lst sq da=>exact ⟨_,_,rfl,sq,da⟩
theorem pZ (h:Dw K ρ G v (.tuple ds)):∃ p vs,v=.ref p/\G p=some (.tup vs)/\aC K ρ G vs ds:=by
 cases h with
 | tup sq da=>simp_all
theorem pq (h:Pk K ρ G H v (.tuple ds)):∃ p vs,v=.ref p/\G p=some (.tup vs)/\aC K ρ G vs ds:=by
 rcases h with h | ⟨_,_,_,_,e,_⟩
 . exact pZ h
 . cases e
theorem tm:DR K ρ (y6 K) bI:=λ G H x y d e c Q s hx hy hg q=>by
 cases d with
 | int i=>
  cases e with
  | int j=>
   cases hg;cases wL hx;cases eW hy;exact .inl ⟨_,_,rfl,rfl,q _ G H (.refl s) (.int _)⟩
  | _=>cases hg
 | str a=>
  cases e with
  | str b=>
   by_cases hz:a.length+b.length<=sizeLine
   . cases (Rt hz).symm.trans hg;cases sR hx;cases wX hy;exact .inr (.inl ⟨_,_,rfl,rfl,hz,q _ G H (.refl s) (.str _)⟩)
   . cases (RJ hz).symm.trans hg
  | _=>cases hg
 | list a=>
  cases e with
  | list b=>
   by_cases hz:a.length+b.length<=sizeLine
   . cases (Rt hz).symm.trans hg;obtain ⟨p,vs,rfl,sq,da⟩:=i3 s hx;obtain ⟨p2,vs2,rfl,sq2,da2⟩:=tG hy;refine .inr (.inr (.inl ⟨p,p2,vs,vs2,rfl,rfl,sq,s.seq sq2,by rw [da.length,da2.length];exact hz,λ l H' n=>?_⟩));have g:=Gr.nw s n;exact q _ _ H' g (.lst (cG.of aG) ((da.same g.g).app (da2.same g.g)))
   . cases (RJ hz).symm.trans hg
  | _=>cases hg
 | tuple a=>
  cases e with
  | tuple b=>
   by_cases hz:a≠[]/\a.length+b.length<=sizeLine
   . cases (Rt hz).symm.trans hg;obtain ⟨p,vs,rfl,sq,da⟩:=pq hx;obtain ⟨p2,vs2,rfl,sq2,da2⟩:=pZ hy;refine .inr (.inr (.inr ⟨p,p2,vs,vs2,rfl,rfl,s.tup (eZ.of sq),s.tup (eZ.of sq2),?_,by rw [da.length,da2.length];exact hz.2,λ e=>?_,λ e l hl=>?_⟩))
     . rintro rfl;cases da;exact hz.1 rfl
     . subst e;cases da2;rw [Sa] at q;exact q _ G H (.refl s) (.tup sq da)
     . have g:=Gr.nw s (Nw.of (o:=.tup (vs++vs2)) hl);exact q _ _ _ g (.tup aG ((da.same g.g).app (da2.same g.g)))
   . cases (RJ hz).symm.trans hg
  | _=>cases hg
 | _=>cases hg
noncomputable def Cs:W->W->Option (List W)
 | .list a,.list b=>if a.length+b.length<=sizeLine then some (a++b) else none
 | _,_=>none
noncomputable def yg (fa fb:DS->Option W):DS->Option (List W):=λ δ=>(fa δ).bind λ x=>(fb δ).bind λ y=>Cs x y
theorem JN (ha:DK K ρ ta fa) (hb:DK K ρ tb fb):DO K ρ (w4 (y6 K) ta tb) (yg fa fb):=λ G σ H δ ds Q R e q=>by
 obtain ⟨x,ex,e⟩:=oB e
 obtain ⟨y,ey,e⟩:=oB e
 refine ha G σ H δ x _ R ex λ v G1 H1 g1 dv=>hb G1 σ H1 δ y _ (R.grow g1) ey λ u G2 H2 g2 du=>?_;unfold Cs at e;split at e
 . split at e
   . rename_i hz;cases e;obtain ⟨p,vs,rfl,sq,da⟩:=i3 g2.s (dv.grow g2);obtain ⟨p2,vs2,rfl,sq2,da2⟩:=i3 g2.s du;refine .inr (.inr (.inl ⟨p,p2,vs,vs2,rfl,rfl,sq,sq2,by rw [da.length,da2.length];exact hz,λ l H' n=>?_⟩));have g12:=g1.trans g2;exact q l _ G2 H' (g12.trans (.nwO g2.s n)) (bV g12.h n.2.1) (bV g2.s n.2.1) n.2.2 (da.app da2)
   . cases e
 . cases e
noncomputable def gI (f:Int->Int->Int):W->W->Option W
 | .int i,.int j=>some (.int (f i j))
 | _,_=>none
noncomputable def BD (C:Int->Int->Bool) (f:Int->Int->Int):W->W->Option W
 | .int i,.int j=>if C i j=true then some (.int (f i j)) else none
 | _,_=>none
theorem C8:DR K ρ (yq λ i j=>.int (f i j)) (gI f):=λ G H x y d e c Q s hx hy hg q=>by
 unfold gI at hg;split at hg
 . cases hg;cases wL hx;cases eW hy;exact ⟨_,_,rfl,rfl,q _ G H (.refl s) (.int _)⟩
 . cases hg
theorem sC (hC:∀ i j,Cb i j=true->C i j):DR K ρ (rI C λ i j=>.int (f i j)) (BD Cb f):=λ G H x y d e c Q s hx hy hg q=>by
 unfold BD at hg;split at hg
 . split at hg
   . rename_i hc;cases hg;cases wL hx;cases eW hy;exact ⟨_,_,rfl,rfl,hC _ _ hc,q _ G H (.refl s) (.int _)⟩
   . cases hg
 . cases hg
noncomputable def gSub':W->W->Option W:=gI λ i j=>i-j
theorem Ir:DR K ρ (yq λ i j=>.int (i-j)) gSub':=C8
theorem wR:2^200<2^512:=UT (by decide) (by decide)
noncomputable def pP (i j:Int):Bool:=decide (i.natAbs<2^64)||decide (j.natAbs<2^64)||(decide (i.natAbs<2^200)&&decide (j.natAbs<2^200))
noncomputable def Hr (i j:Int):Prop:=EG i j∨Hl i j
theorem N3:fX X (binaryOp .Mult) (rI Hr λ i j=>.int (i*j)):=λ pins s σ H x y v u Q I rx ry h=>by
 obtain ⟨i,j,e1,e2,hc,q⟩:=h;rcases hc with hc | hc
 . exact IV _ s σ H x y v u Q I rx ry ⟨i,j,e1,e2,hc,q⟩
 . exact EZ _ s σ H x y v u Q I rx ry ⟨i,j,e1,e2,hc,q⟩
noncomputable def rL (i j:Int):Bool:=decide (j≠0)&&decide (j.natAbs<2^200)
noncomputable def mZ (i j:Int):Bool:=decide (j≠0)
noncomputable def ot:W->W->Option W:=BD pP λ i j=>i*j
noncomputable def bL:W->W->Option W:=BD rL λ i j=>i.fdiv j
noncomputable def bq:W->W->Option W:=BD mZ λ i j=>i.fmod j
theorem Jc:DR K ρ (rI Hr λ i j=>.int (i*j)) ot:=sC λ i j h=>by
 simp only [pP,RY,TK,R5] at h;rcases h with (h | h) | h
 . exact .inl (.inl ⟨by omega,by omega⟩)
 . exact .inl (.inr ⟨by omega,by omega⟩)
 . exact .inr ⟨TL h.1 wR,TL h.2 wR⟩
theorem Jk:DR K ρ (rI HX λ i j=>.int (i.fdiv j)) bL:=sC λ i j h=>by
 simp only [rL,RY,R5] at h;exact ⟨h.1,TL h.2 wR⟩
theorem JS:DR K ρ (rI (λ _ j=>j≠0) λ i j=>.int (i.fmod j)) bq:=sC λ i j h=>by simpa [mZ] using h
noncomputable def CP:W->Option W
 | .int i=>some (.int (-i))
 | _=>none
noncomputable def P4 (g:W->Option W) (f:DS->Option W):DS->Option W:=λ δ=>(f δ).bind g
theorem ID (h:DE K ρ t f):DE K ρ (Qh (rU λ i=>.int (-i)) t) (P4 CP f):=λ G σ H δ d Q R e q=>by
 obtain ⟨x,ex,e⟩:=oB e
 refine h G σ H δ x _ R ex λ v G1 H1 g1 dv=>?_;unfold CP at e;split at e
 . cases e;cases eW dv;exact ⟨_,rfl,q _ G1 H1 g1 (.int _)⟩
 . cases e
noncomputable def cI (p:Int->Int->Bool):W->W->Option Bool
 | .int i,.int j=>some (p i j)
 | _,_=>none
theorem PK:DB K ρ (yq λ i j=>.bl (p i j)) (cI p):=λ H x y d e b Q hx hy hg q=>by
 unfold cI at hg;split at hg
 . cases hg;cases eW hx;cases eW hy;exact ⟨_,_,rfl,rfl,q⟩
 . cases hg
noncomputable def rj:W->W->Option Bool:=cI λ i j=>decide (i<j)
noncomputable def QZ:W->W->Option Bool:=cI λ i j=>decide (i<=j)
noncomputable def Rj:W->W->Option Bool:=cI λ i j=>decide (j<i)
noncomputable def Ri:W->W->Option Bool:=cI λ i j=>decide (j<=i)
theorem MZ:DB K ρ (yq λ i j=>.bl (decide (i<j))) rj:=PK
noncomputable def zF:W->Bool
 | .none=>true
 | _=>false
noncomputable def uY:W->W->Option Bool
 | d,.none=>some (zF d)
 | _,_=>none
theorem zm (h:Dw K ρ H x d):decide (x=.non)=zF d:=by
 cases h <;> simp [zF]
theorem Jv:DB K ρ (λ x y H Q=>y=.non/\Q (.bl (decide (x=.non))) H) uY:=λ H x y d e b Q hx hy hg q=>by
 unfold uY at hg;split at hg
 . cases hg;cases yb hy;exact ⟨rfl,by rw [zm hx];exact q⟩
 . cases hg
noncomputable def kf:W->W->Option Bool
 | d,.none=>some (!(zF d))
 | _,_=>none
theorem FL:DB K ρ (λ x y H Q=>y=.non/\Q (.bl (!decide (x=.non))) H) kf:=λ H x y d e b Q hx hy hg q=>by
 unfold kf at hg;split at hg
 . cases hg;cases yb hy;exact ⟨rfl,by rw [zm hx];exact q⟩
 . cases hg
noncomputable def Rg:W->Option Bool
 | .none=>some true
 | .int _=>some false
 | .bool _=>some false
 | .str _=>some false
 | _=>none
noncomputable def Rm (i:Int):W->Option Bool
 | .none=>some false
 | .int j=>some (decide (i=j))
 | .str _=>some false
 | _=>none
noncomputable def QW (i:Bool):W->Option Bool
 | .none=>some false
 | .bool j=>some (decide (i=j))
 | .str _=>some false
 | _=>none
noncomputable def Ra (i:Str):W->Option Bool
 | .none=>some false
 | .int _=>some false
 | .bool _=>some false
 | .str j=>some (decide (i=j))
 | _=>none
noncomputable def LS:W->W->Option Bool
 | .none,e=>Rg e
 | .int i,e=>Rm i e
 | .bool i,e=>QW i e
 | .str i,e=>Ra i e
 | _,_=>none
theorem xO (hx:Dw K ρ H x d) (hy:Dw K ρ H y e) (h:LS d e=some b):JA x y=true/\decide (x=y)=b:=by
 cases hx with
 | non=>cases hy <;> first | (cases h;exact ⟨rfl,by simp⟩) | cases h
 | int i=>cases hy <;> first | (cases h;exact ⟨rfl,by simp⟩) | cases h
 | bl i=>cases hy <;> first | (cases h;exact ⟨rfl,by simp⟩) | cases h
 | str i=>cases hy <;> first | (cases h;exact ⟨rfl,by simp⟩) | cases h
 | _=>cases h
noncomputable def bw (d e:W):Option Bool:=match LS d e with
 | some b=>some b
 | none=>d.py.bind λ a=>e.py.bind λ b=>if (a.canLay0&&b.canLay0&&decide (a.depth<=64))=true then some (PyData.eqv a b) else none
noncomputable def Ki (K:Frag):R2:=λ x y H Q=>Q1 x y H Q∨Fg K false x y H Q
noncomputable def JM (K:Frag):R2:=λ x y H Q=>QJ x y H Q∨Fg K true x y H Q
theorem PM (h:X.K=K) (hu:X.A.units+64<cLine):fX X (compareOp .Eq) (Ki K):=h▸MK.or (IJ hu)
theorem Pf (h:X.K=K) (hu:X.A.units+64<cLine):fX X (compareOp .NotEq) (JM K):=h▸LZ.or (IC hu)
theorem zd:DB K ρ (Ki K) bw:=λ H x y d e b Q hx hy hg q=>by
 unfold bw at hg;split at hg
 . rename_i b' hb;cases hg;obtain ⟨h1,h2⟩:=xO hx hy hb;exact .inl ⟨h1,by simp_all⟩
 . obtain ⟨a,ea,hg⟩:=oB hg
   obtain ⟨b,eb,hg⟩:=oB hg
   split at hg
   . rename_i hc;cases hg;simp only [RY,R5] at hc;exact .inr ⟨a,b,hx.dp ea,hy.dp eb,hc.1.1,hc.1.2,hc.2,q⟩
   . cases hg
noncomputable def yH (d e:W):Option Bool:=(bw d e).map (!·)
theorem ME:DB K ρ (JM K) yH:=λ H x y d e b Q hx hy hg q=>by
 obtain ⟨c,hg',rfl⟩:=oM hg
 unfold bw at hg';split at hg'
 . rename_i b' hb;cases hg';obtain ⟨h1,h2⟩:=xO hx hy hb;exact .inl ⟨h1,by simp_all⟩
 . obtain ⟨a,ea,hg'⟩:=oB hg'
   obtain ⟨b,eb,hg'⟩:=oB hg'
   split at hg'
   . rename_i hc;cases hg';simp only [RY,R5] at hc;exact .inr ⟨a,b,hx.dp ea,hy.dp eb,hc.1.1,hc.1.2,hc.2,q⟩
   grind
noncomputable def aO:W->W->Option W
 | .list ds,.int i=>jS ds i
 | .tuple ds,.int i=>jS ds i
 | .str z,.int i=>if z.length<=sizeLine then (jS z.cps.toList i).map λ c=>.str ⟨#[c]⟩ else none
 | _,_=>none
theorem aC.at (h:aC K ρ G vs ds) (e:jS ds i=some d):∃ v,jS vs i=some v/\Dw K ρ G v d:=by
 unfold jS at e ⊢;rw [h.length];obtain ⟨j,h1,h2⟩:=oB e
 obtain ⟨v,h3,h4⟩:=h.get h2
 simp_all
theorem pd:DR K ρ (OV K) aO:=λ G H x y d e c Q s hx hy hg q=>by
 cases e with
 | int i=>
  cases eW hy;cases d with
  | list ds=>
   obtain ⟨p,vs,rfl,sq,da⟩:=i3 s hx;obtain ⟨v,h1,h2⟩:=da.at hg;exact .inl ⟨p,vs,_,v,rfl,rfl,sq,h1,q v G H (.refl s) h2⟩
  | tuple ds=>
   obtain ⟨p,vs,rfl,sq,da⟩:=pq hx;obtain ⟨v,h1,h2⟩:=da.at hg;exact .inr (.inl ⟨p,vs,_,v,rfl,rfl,s.tup (eZ.of sq),h1,q v G H (.refl s) h2⟩)
  | str z=>
   by_cases hz:z.length<=sizeLine
   . obtain ⟨c',h1,rfl⟩:=oM ((Rt hz).symm.trans hg)
     cases sR hx;exact .inr (.inr ⟨_,_,c',rfl,rfl,hz,h1,q _ G H (.refl s) (.str _)⟩)
   . cases (RJ hz).symm.trans hg
  | _=>cases hg
 | _=>cases d <;> cases hg
noncomputable def jQ (xs:List W) (lo hi:Option Int):List W:=(xs.drop (HT.sIx xs.length 0 lo)).take (HT.sIx xs.length xs.length hi-HT.sIx xs.length 0 lo)
theorem aC.cut (h:aC K ρ G vs ds) (lo hi:Option Int):aC K ρ G (vR vs lo hi) (jQ ds lo hi):=by
 unfold vR jQ;rw [h.length];exact (h.drop _).take _
noncomputable def FG (K:Frag) (ρ:List Addr) (t:TO) (f:DS->Option (Option Int)):Prop:=
 ∀ (G:Hp) (σ:St) (H:Hp) (δ:DS) (x:Option Int) (Q:Option Int->Hp->Prop),Rl K ρ G H δ σ->f δ=some x->(∀ G' H',Gr G H G' H'->Q x H')->t σ H Q
noncomputable def cw:DS->Option (Option Int):=λ _=>some none
noncomputable def Mb:W->Option Int
 | .int i=>some i
 | _=>none
theorem DX (h:Mb d=some i):d=.int i:=by
 cases d <;> first | (cases h;rfl) | cases h
noncomputable def d8 (f:DS->Option W):DS->Option (Option Int):=λ δ=>(f δ).bind λ d=>(Mb d).map some
theorem DU:FG K ρ yJ cw:=λ G σ H δ x Q R e q=>by
 cases e;exact q G H (.refl R.sub)
theorem CF {t:TE} {f:DS->Option W} (h:DE K ρ t f):FG K ρ (Hm t) (d8 f):=λ G σ H δ x Q R e q=>by
 obtain ⟨d,ed,e⟩:=oB e
 obtain ⟨i,ei,rfl⟩:=oM e
 cases DX ei;exact h G σ H δ _ _ R ed λ v G1 H1 g1 dv=>by
  cases eW dv;exact ⟨i,rfl,q G1 H1 g1⟩
noncomputable def jT:W->Option (List W)
 | .list ds=>some ds
 | _=>none
theorem jj (h:jT d=some ds):d=.list ds:=by
 cases d <;> first | (cases h;rfl) | cases h
noncomputable def ve (f:DS->Option W) (lo hi:DS->Option (Option Int)):DS->Option (List W):=λ δ=>(f δ).bind λ d=>(jT d).bind λ ds=>(lo δ).bind λ l=>(hi δ).map λ u=>jQ ds l u
theorem Kw {lo hi:DS->Option (Option Int)} (h:DK K ρ t f) (hl:FG K ρ tl lo) (hh:FG K ρ th hi):DO K ρ (NE (Hn K) t tl th) (ve f lo hi):=λ G σ H δ ds Q R e q=>by
 obtain ⟨d,ed,e⟩:=oB e
 obtain ⟨es,ee,e⟩:=oB e
 obtain ⟨l,el,e⟩:=oB e
 obtain ⟨u,eu,rfl⟩:=oM e
 cases jj ee;refine h G σ H δ _ _ R ed λ v G1 H1 g1 dv=>hl G1 σ H1 δ l _ (R.grow g1) el λ G2 H2 g2=>hh G2 σ H2 δ u _ ((R.grow g1).grow g2) eu λ G3 H3 g3=>?_;have g23:=g2.trans g3;obtain ⟨p,vs,rfl,sq,da⟩:=i3 g23.s (dv.grow g23);refine ⟨p,vs,rfl,sq,λ r H' n=>?_⟩;have g:=g1.trans g23;exact q r _ G3 H' (g.trans (.nwO g.s n)) (bV g.h n.2.1) (bV g.s n.2.1) n.2.2 (da.cut l u)
noncomputable def MY (K:Frag) (ρ:List Addr) (r:List V->Hp->VK->Prop) (g:W->Option W):Prop:=
 ∀ (G H:Hp) (x:V) (d c:W) (Q:VK),bn G H->Pk K ρ G H x d->g d=some c->(∀ v G' H',Gr G H G' H'->Dw K ρ G' v c->Q v H')->r [x] H Q
noncomputable def tH (g:W->Option W) (f:DS->Option W):DS->Option W:=λ δ=>(f δ).bind g
theorem Mf (hr:MY K ρ r g) (h:DK K ρ t f):DE K ρ (tN r (dj t gN)) (tH g f):=λ G σ H δ d Q R e q=>by
 obtain ⟨x,ex,e⟩:=oB e
 exact h G σ H δ x _ R ex λ v G1 H1 g1 dv=>hr G1 H1 v x d Q g1.s dv e λ u G2 H2 g2 du=>q u G2 H2 (g1.trans g2) du
noncomputable def yN (K:Frag):List V->Hp->VK->Prop:=λ xs H Q=>Ma K xs H Q∨HQ xs H Q
theorem AD (h:X.K=K):bN X (.builtin "len") (yN K):=(rf h).or qU
noncomputable def jR:W->Option W
 | .list ds=>some (.int ds.length)
 | .tuple ds=>some (.int ds.length)
 | .str z=>if z.length<=sizeLine then some (.int z.length) else none
 | _=>none
theorem Ev:MY K ρ (yN K) jR:=λ G H x d c Q s hx hg q=>by
 unfold jR at hg;split at hg
 . cases hg;obtain ⟨p,vs,rfl,sq,da⟩:=i3 s hx;exact .inl ⟨p,vs,rfl,.inl sq,by rw [da.length];exact q _ G H (.refl s) (.int _)⟩
 . cases hg;obtain ⟨p,vs,rfl,sq,da⟩:=pq hx;exact .inl ⟨p,vs,rfl,.inr (s.tup (eZ.of sq)),by rw [da.length];exact q _ G H (.refl s) (.int _)⟩
 . split at hg
   . rename_i hz;cases hg;cases sR hx;exact .inr ⟨_,rfl,hz,q _ G H (.refl s) (.int _)⟩
   . cases hg
 . cases hg
noncomputable def oI (f:DS->Option W):DS->Option (List W):=λ δ=>(f δ).bind v6
theorem Gt (h:DK K ρ t f):DO K ρ (tN (tL K) (dj t gN)) (oI f):=λ G σ H δ ds Q R e q=>by
 obtain ⟨x,ex,e⟩:=oB e
 refine h G σ H δ x _ R ex λ v G1 H1 g1 dv=>?_;have fin  := λ vs l da hl=>by
  have n:Nw H1 _ l (.lst vs):=.of hl;exact q l vs G1 _ (g1.trans (.nwO g1.s n)) (bV g1.h hl) (bV g1.s hl) aG da
 unfold v6 at e;split at e
 . cases e;obtain ⟨p,vs,rfl,sq,da⟩:=i3 g1.s dv;exact ⟨p,vs,rfl,.inl sq,λ l hl=>fin vs l da hl⟩
 . cases e;obtain ⟨p,vs,rfl,sq,da⟩:=pq dv;exact ⟨p,vs,rfl,.inr (g1.s.tup (eZ.of sq)),λ l hl=>fin vs l da hl⟩
 . cases e
noncomputable def rp (T:String):W->Option W
 | .int i=>(C9 (.int i) T).map .bool
 | .bool i=>(C9 (.bl i) T).map .bool
 | .str i=>(C9 (.str i) T).map .bool
 | _=>none
theorem KQ (h:DE K ρ t f):DE K ρ (tN Fn (dj t (dj (tC (.ty T)) gN))) (tH (rp T) f):=λ G σ H δ d Q R e q=>by
 obtain ⟨x,ex,e⟩:=oB e
 refine h G σ H δ x _ R ex λ v G1 H1 g1 dv=>?_;unfold rp at e;split at e;all_goals first
  | cases e
  | (obtain ⟨k,ek,rfl⟩:=oM e
     cases dv;exact ⟨_,T,k,rfl,ek,q _ G1 H1 g1 (.bl k)⟩)
end
section
variable {X:Cx} {tg:Expr}
end
section
variable {K:Frag} {ρ:List Addr}
end
section
variable {X:Cx}
end
section
variable {K:Frag} {ρ:List Addr}
noncomputable def vj:List W->Option (List Int)
 | []=>some []
 | d::ds=>(Mb d).bind λ i=>(vj ds).map (i::·)
theorem rX:∀ (ns:List Int),vj (ns.map .int)=some ns
 | []=>rfl
 | n::ns=>by
  show (some n).bind _=_;rw [rX ns];rfl
theorem qG:∀ {vs:List V} {ds:List W} {ns:List Int},aC K ρ G vs ds->vj ds=some ns->vs=ns.map V.int
 | _,_,_,.nil,e=>by cases e;rfl
 | _,_,_,.cons h t,e=>by
  obtain ⟨i,e1,e⟩:=oB e
  obtain ⟨ms,e2,rfl⟩:=oM e
  cases DX e1;cases eW h;rw [qG t e2];rfl
end
theorem CV (i j:Int):bI (.int i) (.int j)=some (.int (i+j)):=rfl
theorem gG (h:a.length+b.length<=sizeLine):bI (.list a) (.list b)=some (.list (a++b)):=Rt h
theorem xZ (h:a.length+b.length<=sizeLine):bI (.str a) (.str b)=some (.str (a++b)):=Rt h
theorem JJ (i j:Int):gSub' (.int i) (.int j)=some (.int (i-j)):=rfl
theorem u5 (h:pP i j=true):ot (.int i) (.int j)=some (.int (i*j)):=by simp only [ot,BD,Rt h]
theorem Bz (h:rL i j=true):bL (.int i) (.int j)=some (.int (i.fdiv j)):=by simp only [bL,BD,Rt h]
theorem uQ (h:mZ i j=true):bq (.int i) (.int j)=some (.int (i.fmod j)):=by simp only [bq,BD,Rt h]
theorem IX (i:Int):CP (.int i)=some (.int (-i)):=rfl
theorem uF {i j:Int} (h1 : -(2^64)<i) (h2:i<2^64):pP i j=true:=by
 simp only [pP,RY,TK,R5];exact .inl (.inl (by omega))
theorem Ec (h1:0<j) (h2:j<2^64):rL i j=true:=by
 have e:2^64<2^200:=UT (by decide) (by decide);simp only [rL,  R5]
 grind
theorem Ep (h:j≠0):mZ i j=true:=by simp [mZ,h]
theorem Ip (i:Int) {j:Int} (h1:0<j) (h2:j<2^64):bL (.int i) (.int j)=some (.int (i.fdiv j)):=Bz (Ec h1 h2)
theorem Jj (i:Int) {j:Int} (h1:j≠0):bq (.int i) (.int j)=some (.int (i.fmod j)):=uQ (Ep h1)
theorem M7 (b:Bool):E6 (.bool b)=some b:=rfl
theorem MO (i:Int):Mb (.int i)=some i:=rfl
theorem FH (ds:List W):jT (.list ds)=some ds:=rfl
theorem KC (ds:List W):v6 (.list ds)=some ds:=rfl
theorem Jr (ds:List W):v6 (.tuple ds)=some ds:=rfl
theorem Kj (ds:List W):jR (.list ds)=some (.int ds.length):=rfl
theorem K8 (ds:List W):jR (.tuple ds)=some (.int ds.length):=rfl
theorem Ht (ds:List W) (i:Int):aO (.list ds) (.int i)=jS ds i:=rfl
theorem vY (ds:List W) (i:Int):aO (.tuple ds) (.int i)=jS ds i:=rfl
theorem M4 (i j:Int):bw (.int i) (.int j)=some (decide (i=j)):=rfl
theorem Nh (i j:Str):bw (.str i) (.str j)=some (decide (i=j)):=rfl
theorem M9 (i j:Bool):bw (.bool i) (.bool j)=some (decide (i=j)):=rfl
theorem Ml (i j:Int):yH (.int i) (.int j)=some (!decide (i=j)):=rfl
theorem Mw (i j:Str):yH (.str i) (.str j)=some (!decide (i=j)):=rfl
theorem LB (i j:Int):rj (.int i) (.int j)=some (decide (i<j)):=rfl
theorem MF (i j:Int):QZ (.int i) (.int j)=some (decide (i<=j)):=rfl
theorem LC (i j:Int):Rj (.int i) (.int j)=some (decide (j<i)):=rfl
theorem MX (i j:Int):Ri (.int i) (.int j)=some (decide (j<=i)):=rfl
theorem EU (i:Int):kf (.int i) .none=some true:=rfl
theorem G9:kf .none .none=some false:=rfl
theorem EK (i:Str):kf (.str i) .none=some true:=rfl
theorem FJ (i:List W):kf (.list i) .none=some true:=rfl
theorem Fv (i:List W):kf (.tuple i) .none=some true:=rfl
theorem Kv (i:Int):uY (.int i) .none=some false:=rfl
theorem Jd:uY .none .none=some true:=rfl
theorem K2 (i:Str):uY (.str i) .none=some false:=rfl
theorem K4 (i:List W):uY (.list i) .none=some false:=rfl
theorem Jg (i:List W):uY (.tuple i) .none=some false:=rfl
theorem Ff (i:Int):rp "int" (.int i)=some (.bool true):=rfl
theorem Ez (i:Int):rp "bool" (.int i)=some (.bool false):=rfl
theorem GD (i:Str):rp "str" (.str i)=some (.bool true):=rfl
theorem ag (h1:f δ=some (.nx δ1)) (h2:g δ1=o):ak f g δ=o:=by
 unfold ak
 simp_all
theorem bP (hl:ds.length=a) (h:fb (dg n ds)=some (.rt d)):b7 a n fb ds=some d:=by
 unfold b7;rw [Rt hl,h];rfl
theorem cJ (h1:fi δ=some ds) (h2:aE h fb ds δ=o):d5 fi h fb δ=o:=by
 unfold d5
 simp_all
theorem aP (h1:f δ=some d) (h2:h d δ=some δ'):aD f h δ=some (.nx δ'):=by
 unfold aD
 simp_all
theorem aI (h1:f δ=some d):az f δ=some (.rt d):=by
 unfold az
 grind
theorem aj (h1:c δ=some b) (h2:(if b=true then f δ else g δ)=o):bg c f g δ=o:=by
 unfold bg
 simp_all
theorem Gd {n:Nat} (hn:n<=16777216):v7 (n:Int)=some (iL 0 n):=by
 unfold v7;rw [Rt (zN hn),TN]
theorem vN (h:f δ=some [.int n]) (hn:n<=16777216):rH f δ=some (iL 0 n):=by
 unfold rH;rw [h,RG];exact Gd hn
theorem AZ {K:Frag} (hg:∀ ds,g ds=none) (h:iV K g vs H Q E):False:=by
 obtain ⟨ρ,G,ds,d,_,_,e,_⟩:=h
 simp_all
theorem eP.no {K:Frag} (hg:∀ ds,g ds=none):eP P w K mg base CX k f fd ps (iV K g):=
 ⟨λ _ _ _ _ h=>(AZ hg h).elim,λ _ _ _ _ _ _ _ _ _ _ _ _ _ h=>(AZ hg h).elim⟩
inductive Ob where
 | lst (ds:List W)
 | dK (kvs:List (b8×W))
 | dT (kvs:List (List b8×W))
 | dN (kvs:List (List b8×W))
 | ins (c:Str) (fs:List (Str×W))
noncomputable abbrev aq:=List Ob
inductive je (K:Frag) (ρ:List Addr) (G:Hp) {κ:Type}:List (κ×W)->List (κ×V)->Prop
 | nil:je K ρ G [] []
 | cons {k:κ} {d:W} {v:V} {l:List (κ×W)} {m:List (κ×V)}:Dw K ρ G v d->je K ρ G l m->je K ρ G ((k,d)::l) ((k,v)::m)
noncomputable def CS (K:Frag) (ρ:List Addr) (cl:Str->Addr) (G H:Hp) (a:Addr):Ob->Prop
 | .lst ds=>∃ vs,H a=some (.lst vs)/\aC K ρ G vs ds
 | .dK kvs=>∃ ws,H a=some (.dK ws)/\je K ρ G kvs ws
 | .dT kvs=>∃ ws,H a=some (.dT ws)/\je K ρ G kvs ws
 | .dN kvs=>∃ ws,H a=some (.dN ws)/\je K ρ G kvs ws
 | .ins c fs=>∃ dx ws,H a=some (.ins (cl c) dx ws)/\G dx=none/\H dx=some (.own a)/\je K ρ G fs ws
theorem EY {ρ ρ':List Addr} (h:ρ <+: ρ') (n:Nat) (a:Addr) (e:ρ[n]?=some a):ρ'[n]?=some a:=by
 obtain ⟨t,rfl⟩:=h;rw [RR (oG e).1];exact e
theorem Dw.ext {K:Frag} (h:ρ <+: ρ') (q:Dw K ρ G v d):Dw K ρ' G v d:=q.mapG (λ _ _ q=>q) (λ _ _ q=>q) (EY h)
theorem aC.ext {K:Frag} (h:ρ <+: ρ') (q:aC K ρ G vs ds):aC K ρ' G vs ds:=q.mapA λ _ _ a=>a.ext h
theorem je.ext {K:Frag} (h:ρ <+: ρ') (g:bn G G') {l:List (κ×W)} {m:List (κ×V)} (q:je K ρ G l m):je K ρ' G' l m:=by
 induction q with
 | nil=>exact .nil
 | cons a _ ih=>exact .cons ((a.ext h).same g) ih
theorem je.lookup {K:Frag} {ρ:List Addr} {G:Hp} {κ:Type} [BEq κ] {k:κ} {l:List (κ×W)} {m:List (κ×V)} {d:W} (q:je K ρ G l m):l.lookup k=some d->∃ v,m.lookup k=some v/\Dw K ρ G v d:=by
 induction q with
 | nil=>exact λ e=>by cases e
 | @cons j d v l m a _ ih=>
  intro e;simp only [List.lookup] at e ⊢;split at e
  . cases e;exact ⟨_,rfl,a⟩
  . exact ih e
theorem je.lookup_none {K:Frag} {ρ:List Addr} {G:Hp} {κ:Type} [BEq κ] {k:κ} {l:List (κ×W)} {m:List (κ×V)} (q:je K ρ G l m):l.lookup k=none->m.lookup k=none:=by
 induction q with
 | nil=>exact λ _=>rfl
 | @cons j d v l m a _ ih=>
  intro e;simp only [List.lookup] at e ⊢;split at e
  . cases e
  . exact ih e
theorem je.length {K:Frag} {l:List (κ×W)} {m:List (κ×V)} (q:je K ρ G l m):l.length=m.length:=by
 induction q with
 | nil=>rfl
 | cons _ _ ih=>simp_all
noncomputable def fA (f:Str) (v:W):List (Str×W)->List (Str×W)
 | []=>[(f,v)]
 | (g,x)::r=>if g=f then (g,v)::r else (g,x)::fA f v r
theorem je.putF {K:Frag} (h:Dw K ρ G v d) (q:je K ρ G l m):je K ρ G (fA f d l) (putF f v m):=by
 induction q with
 | nil=>exact .cons h .nil
 | cons a b ih=>
  unfold fA L2.putF;split
  . exact .cons h b
  . exact .cons a ih
structure SR (K:Frag) (ρ:List Addr) (cl:Str->Addr) (G H:Hp) (S:aq):Prop where
 len:ρ.length=S.length
 nd:ρ.Nodup
 ob:∀ (n:Nat) o,S[n]?=some o->∃ a,ρ[n]?=some a/\G a=none/\CS K ρ cl G H a o
structure GS (ρ:List Addr) (G H:Hp) (ρ':List Addr) (G' H':Hp):Prop where
 r:ρ <+: ρ'
 g:bn G G'
 s:bn G' H'
 h:∀ b o,b∉ρ->H b=some o->H' b=some o
 k:∀ b,H b≠none->H' b≠none
 n:∀ b,nT H b->G b=none->G' b=none
 f:∀ a,a∈ρ'->a∉ρ->H a=none
 t:∀ b,nT H b->nT H' b
theorem GS.refl (s:bn G H):GS ρ G H ρ G H:=⟨SY _,.refl _,s,λ _ _ _ e=>e,λ _ e=>e,λ _ _ e=>e,λ a h1 h2=>absurd h1 h2,λ _ e=>e⟩
theorem GS.of (g:Gr G H G' H'):GS ρ G H ρ G' H':=⟨SY _,g.g,g.s,λ b o _ e=>g.h b o e,λ b e=>uo g.h e,g.n,λ a h1 h2=>absurd h1 h2,λ _ e=>e.same g.h⟩
theorem GS.trans (a:GS ρ G H ρ1 G1 H1) (b:GS ρ1 G1 H1 ρ2 G2 H2):GS ρ G H ρ2 G2 H2:=
 ⟨a.r.trans b.r,a.g.trans b.g,b.s,λ c o hc e=>b.h c o (λ h1=>by rw [a.f c h1 hc] at e;cases e) (a.h c o hc e),λ c e=>b.k c (a.k c e),λ c h1 h2=>b.n c (a.t c h1) (a.n c h1 h2),λ c h1 h2=>by
  by_cases h3:c∈ρ1
  . exact a.f c h3 h2
  . have:=b.f c h1 h3;cases e:H c with
    | none=>rfl
    | some o=>exact absurd this (a.k c (by grind)),λ c e=>b.t c (a.t c e)⟩
section
variable {K:Frag} {cl:Str->Addr}
theorem CS.move (hr:ρ <+: ρ') (g:bn G G') (ha:H' a=H a) (hd:∀ dx,G dx=none->H dx=some (.own a)->H' dx=some (.own a)/\G' dx=none) (h:CS K ρ cl G H a o):CS K ρ' cl G' H' a o:=by
 cases o with
 | lst ds=>
  obtain ⟨vs,h1,h2⟩:=h;exact ⟨vs,ha.trans h1,(h2.ext hr).same g⟩
 | ins c fs=>
  obtain ⟨dx,ws,h1,h2,h3,h4⟩:=h;exact ⟨dx,ws,ha.trans h1,(hd dx h2 h3).2,(hd dx h2 h3).1,h4.ext hr g⟩
 | _=>
  obtain ⟨ws,h1,h2⟩:=h;exact ⟨ws,ha.trans h1,h2.ext hr g⟩
theorem CS.some (h:CS K ρ cl G H a o):∃ x,H a=some x/\∀ b,x≠.own b:=by
 cases o with
 | ins c fs=>
  obtain ⟨dx,ws,h1,_⟩:=h
  simp_all
 | _=>
  obtain ⟨ws,h1,_⟩:=h
  simp_all
theorem CS.nt (h:CS K ρ cl G H a o):nT H a:=by
 cases o with
 | ins c fs=>
  obtain ⟨_,_,h1,_⟩:=h;exact .of h1 λ _ z=>by cases z
 | _=>
  obtain ⟨_,h1,_⟩:=h;exact .of h1 λ _ z=>by cases z
theorem SR.grow (s:SR K ρ cl G H S) (g:Gr G H G' H'):SR K ρ cl G' H' S:=
 ⟨s.len,s.nd,λ n o e=>by
  obtain ⟨a,h1,h2,h3⟩:=s.ob n o e;obtain ⟨x,hx,_⟩:=h3.some;exact ⟨a,h1,g.n a h3.nt h2,h3.move (SY _) g.g (by rw [hx];exact g.h _ _ hx) λ dx e1 e2=>⟨g.h _ _ e2,g.n dx (.of e2 λ _ z=>by cases z) e1⟩⟩⟩
theorem SR.addr (s:SR K ρ cl G H S) {n:Nat} (e:S[n]?=some o) (ea:ρ[n]?=some a):G a=none/\CS K ρ cl G H a o:=by
 obtain ⟨b,h1,h2,h3⟩:=s.ob n o e
 simp_all
theorem zG {l:List Addr} (h:l.Nodup) {i j:Nat} {a:Addr} (h1:l[i]?=some a) (h2:l[j]?=some a):i=j:=by
 obtain ⟨hi,e1⟩:=oG h1
 obtain ⟨hj,e2⟩:=oG h2
 have hp:=Tj.mp h;rcases Nat.lt_trichotomy i j with c | c | c
 . exact absurd (e1.trans e2.symm) (hp i j hi hj c)
 . exact c
 . exact absurd (e2.trans e1.symm) (hp j i hj hi c)
theorem SR.put (s:SR K ρ cl G H S) (sg:bn G H) (e:S[n]?=some o) (ea:ρ[n]?=some a) (hx:∀ b,x≠.own b) (ho:CS K ρ cl G (cH H a x) a o'):SR K ρ cl G (cH H a x) (S.set n o')/\GS ρ G H ρ G (cH H a x):=by
 obtain ⟨ga,ob⟩:=s.addr e ea;obtain ⟨y,hy,hno⟩:=ob.some;have am  := Sq ea;refine ⟨⟨by rw [SW];exact s.len,s.nd,λ m q em=>?_⟩,⟨SY _,.refl _,λ b u eb=>?_,λ b u hb eb=>?_,λ b hb=>?_,λ _ _ e=>e,λ b h1 h2=>absurd h1 h2,λ b hb=>by
  by_cases z:b=a
  . exact z▸ho.nt
  . unfold nT;rw [aF z];exact hb⟩⟩
 . rcases di em with ⟨rfl,rfl,_⟩ | ⟨ne,em⟩
   . simp_all
   . obtain ⟨b,h1,h2,h3⟩:=s.ob m q em;have hab:b≠a:=λ z=>ne (zG s.nd ea (z▸h1));exact ⟨b,h1,h2,h3.move (SY _) (.refl _) (aF hab) λ dx e1 e2=>⟨by
      rw [aF λ z=>by simp_all];exact e2,e1⟩⟩
 . rw [aF (λ z=>by rw [z,ga] at eb;cases eb)];exact sg _ _ eb
 . rw [aF (λ z=>hb (by rw [z];exact am))];exact eb
 . by_cases z:b=a
   . subst z;rw [aG];simp
   . rw [aF z];exact hb
theorem SR.push {ρ:List Addr} {G H H':Hp} {S:aq} {p:Addr} {o:Ob} {x:HO} (s:SR K ρ cl G H S) (sg:bn G H) (n:Nw H H' p x) (ho:∀ ρ',ρ <+: ρ'->CS K ρ' cl G H' p o):SR K (ρ++[p]) cl G H' (S++[o])/\GS ρ G H (ρ++[p]) G H':=by
 have pm:p∉ρ:=λ hp=>by
  obtain ⟨i,hi,e⟩:=List.mem_iff_getElem.mp hp;obtain ⟨b,h1,h2,h3⟩:=s.ob i (S[i]'(by rw [<-s.len];exact hi)) (RQ _);rw [RQ hi,e] at h1;cases h1;obtain ⟨y,hy,_⟩:=h3.some;rw [n.2.1] at hy;cases hy
 have pre:ρ <+: ρ++[p]:=⟨[p],rfl⟩
 refine ⟨⟨by simp [s.len],List.nodup_append.mpr ⟨s.nd,by simp,λ a ha b hb=>by
  rw [RE.mp hb];exact λ z=>pm (z▸ha)⟩,λ m q em=>?_⟩,⟨pre,.refl _,sg.trans n.1,λ b u _ e=>n.1 b u e,λ b e=>uo n.1 e,λ _ _ e=>e,λ a h1 h2=>?_,λ _ e=>e.same n.1⟩⟩
 . rcases TM m S.length with hm | hm
   . rw [RR hm] at em;obtain ⟨b,h1,h2,h3⟩:=s.ob m q em;obtain ⟨y,hy,_⟩:=h3.some;exact ⟨b,by rw [RR (by rw [s.len];exact hm)];exact h1,h2,h3.move pre (.refl _) (by rw [hy];exact n.1 _ _ hy) λ dx e1 e2=>⟨n.1 _ _ e2,e1⟩⟩
   . rw [R0 hm] at em;have hz:m-S.length=0:=by
      have:=(oG em).1;simp at this;omega
     rw [hz] at em;cases em;refine ⟨p,?_,bV sg n.2.1,ho _ pre⟩;rw [R0 (by rw [s.len];exact hm),s.len,hz];rfl
 . rcases Rz.mp h1 with h | h
   . exact absurd h h2
   . rw [RE.mp h];exact n.2.1
inductive Rs (α:Type) where
 | ok (a:α)
 | xc (c:Str)
noncomputable abbrev SM (α:Type):=Option (Rs α×aq)
noncomputable def aw {α β:Type} (m:SM α) (k:α->aq->SM β):SM β:=match m with
 | some (.ok a,S)=>k a S
 | some (.xc c,S)=>some (.xc c,S)
 | none=>none
theorem bz {m:SM α} {k:α->aq->SM β} {r:Rs β} (h:aw m k=some (r,S')):(∃ c,m=some (.xc c,S')/\r=.xc c)∨∃ a S1,m=some (.ok a,S1)/\k a S1=some (r,S'):=by
 unfold aw at h
 grind
structure RS (K:Frag) (cl:Str->Addr) (ρ:List Addr) (G H:Hp) (δ:DS) (σ:St) (S:aq):Prop where
 rl:Rl K ρ G H δ σ
 st:SR K ρ cl G H S
 ap:∀ (i:Nat) ds p,δ[i]?=some (.own ds)->σ[i]?=some (some (.ref p))->p∉ρ
theorem xb.move (g:GS ρ G H ρ' G' H') (ha:∀ ds p,s=.own ds->o=some (.ref p)->p∉ρ) (h:xb K ρ G H s o):xb K ρ' G' H' s o:=by
 cases s with
 | no=>exact trivial
 | val d=>
  obtain ⟨v,e,h⟩:=h;exact ⟨v,e,(h.ext g.r).same g.g⟩
 | own ds=>
  obtain ⟨p,vs,e,h1,h2,h3⟩:=h;exact ⟨p,vs,e,g.n p (.l h2) h1,g.h _ _ (ha ds p rfl e) h2,(h3.ext g.r).same g.g⟩
theorem RS.grow (R:RS K cl ρ G H δ σ S) (g:GS ρ G H ρ' G' H') (s:SR K ρ' cl G' H' S'):RS K cl ρ' G' H' δ σ S':=
 ⟨⟨g.s,R.rl.len,λ i sl e=>by
  obtain ⟨o,h1,h2⟩:=R.rl.sl i sl e;exact ⟨o,h1,h2.move g λ ds p e1 e2=>R.ap i ds p (e1▸e) (e2▸h1)⟩,R.rl.apart⟩,s,λ i ds p h1 h2 hp=>by
  obtain ⟨o,k1,p',vs,rfl,k3,k4,k5⟩:=R.rl.sl i _ h1;rw [h2] at k1;cases k1;rw [g.f p hp (R.ap i ds p h1 h2)] at k4;cases k4⟩
noncomputable def SE (K:Frag) (cl:Str->Addr) (E:XK) (t:TE) (f:DS->aq->SM W):Prop:=
 ∀ (ρ:List Addr) (G:Hp) (σ:St) (H:Hp) (δ:DS) (S:aq) (r:Rs W) (S':aq) (Q:VK),RS K cl ρ G H δ σ S->f δ S=some (r,S')->
  (∀ d,r=.ok d->∀ v ρ' G' H',GS ρ G H ρ' G' H'->SR K ρ' cl G' H' S'->Dw K ρ' G' v d->Q v H')->
  (∀ c,r=.xc c->∀ ρ' G' H',GS ρ G H ρ' G' H'->SR K ρ' cl G' H' S'->E (.ref (cl c)) none H')->t σ H Q
noncomputable def SA (K:Frag) (cl:Str->Addr) (E:XK) (t:TA) (f:DS->aq->SM (List W)):Prop:=
 ∀ (ρ:List Addr) (G:Hp) (σ:St) (H:Hp) (δ:DS) (S:aq) (r:Rs (List W)) (S':aq) (Q:List V->Hp->Prop),RS K cl ρ G H δ σ S->f δ S=some (r,S')->
  (∀ ds,r=.ok ds->∀ vs ρ' G' H',GS ρ G H ρ' G' H'->SR K ρ' cl G' H' S'->aC K ρ' G' vs ds->Q vs H')->
  (∀ c,r=.xc c->∀ ρ' G' H',GS ρ G H ρ' G' H'->SR K ρ' cl G' H' S'->E (.ref (cl c)) none H')->t σ H Q
noncomputable def ST (K:Frag) (cl:Str->Addr) (E:XK) (t:TT) (f:DS->aq->SM Bool):Prop:=
 ∀ (ρ:List Addr) (G:Hp) (σ:St) (H:Hp) (δ:DS) (S:aq) (r:Rs Bool) (S':aq) (Q:Bool->Hp->Prop),RS K cl ρ G H δ σ S->f δ S=some (r,S')->
  (∀ b,r=.ok b->∀ ρ' G' H',GS ρ G H ρ' G' H'->SR K ρ' cl G' H' S'->Q b H')->
  (∀ c,r=.xc c->∀ ρ' G' H',GS ρ G H ρ' G' H'->SR K ρ' cl G' H' S'->E (.ref (cl c)) none H')->t σ H Q
variable {E:XK}
noncomputable def ab {α:Type} (f:DS->Option α):DS->aq->SM α:=λ δ S=>(f δ).map λ d=>(.ok d,S)
theorem i5 {f:DS->Option α} {r:Rs α} (h:ab f δ S=some (r,S')):∃ d,f δ=some d/\r=.ok d/\S'=S:=by
 obtain ⟨d,e1,e2⟩:=oM h
 simp_all
theorem Gw (h:∀ ρ,DE K ρ t f):SE K cl E t (ab f):=λ ρ G σ H δ S r S' Q R e q _=>by
 obtain ⟨d,e1,rfl,rfl⟩:=i5 e;exact h ρ G σ H δ d Q R.rl e1 λ v G' H' g dv=>q d rfl v ρ G' H' (.of g) (R.st.grow g) dv
theorem ET (h:∀ ρ,DA K ρ t f):SA K cl E t (ab f):=λ ρ G σ H δ S r S' Q R e q _=>by
 obtain ⟨d,e1,rfl,rfl⟩:=i5 e;exact h ρ G σ H δ d Q R.rl e1 λ v G' H' g dv=>q d rfl v ρ G' H' (.of g) (R.st.grow g) dv
theorem Gn (h:∀ ρ,DT K ρ t f):ST K cl E t (ab f):=λ ρ G σ H δ S r S' Q R e q _=>by
 obtain ⟨d,e1,rfl,rfl⟩:=i5 e;exact h ρ G σ H δ d Q R.rl e1 λ G' H' g=>q d rfl ρ G' H' (.of g) (R.st.grow g)
noncomputable def fw:DS->aq->SM (List W):=λ _ S=>some (.ok [],S)
noncomputable def aT (f:DS->aq->SM W) (g:DS->aq->SM (List W)):DS->aq->SM (List W):=λ δ S=>aw (f δ S) λ d S1=>aw (g δ S1) λ ds S2=>some (.ok (d::ds),S2)
theorem JC:SA K cl E gN fw:=λ ρ G σ H δ S r S' Q R e q _=>by
 cases e;exact q [] rfl [] ρ G H (.refl R.rl.sub) R.st .nil
theorem FQ {t:TE} {u:TA} {f:DS->aq->SM W} {g:DS->aq->SM (List W)} (h1:SE K cl E t f) (h2:SA K cl E u g):SA K cl E (dj t u) (aT f g):=λ ρ G σ H δ S r S' Q R e q qx=>by
 rcases bz e with ⟨c,em,rfl⟩ | ⟨d,S1,em,e⟩
 . exact h1 ρ G σ H δ S _ _ _ R em (λ d hd=>by cases hd) (λ c' hc=>by cases hc;exact qx c rfl)
 . refine h1 ρ G σ H δ S _ _ _ R em (λ d' hd=>?_) (λ c' hc=>by cases hc);cases hd;intro v ρ1 G1 H1 g1 s1 dv;have R1:=R.grow g1 s1;rcases bz e with ⟨c,em,rfl⟩ | ⟨ds,S2,em,e⟩
   . exact h2 ρ1 G1 σ H1 δ S1 _ _ _ R1 em (λ d hd=>by cases hd) (λ c' hc=>by cases hc;exact λ ρ2 G2 H2 g2 s2=>qx c rfl ρ2 G2 H2 (g1.trans g2) s2)
   . refine h2 ρ1 G1 σ H1 δ S1 _ _ _ R1 em (λ d' hd=>?_) (λ c' hc=>by cases hc);cases hd;cases e;intro vs ρ2 G2 H2 g2 s2 da;exact q _ rfl _ ρ2 G2 H2 (g1.trans g2) s2 (.cons ((dv.ext g2.r).same g2.g) da)
end
section
variable {K:Frag} {cl:Str->Addr} {E:XK}
theorem ci {α:Type} {t:TE} {f:DS->aq->SM W} (h:SE K cl E t f) {ρ:List Addr} {G:Hp} {σ:St} {H:Hp} {δ:DS} {S:aq} {r:Rs α} {S':aq} {k:W->aq->SM α} {P:V->Hp->Prop} (R:RS K cl ρ G H δ σ S) (e:aw (f δ S) k=some (r,S'))
 (q:∀ d S1,k d S1=some (r,S')->∀ v ρ' G' H',GS ρ G H ρ' G' H'->SR K ρ' cl G' H' S1->Dw K ρ' G' v d->P v H')
 (qx:∀ c,r=.xc c->∀ ρ' G' H',GS ρ G H ρ' G' H'->SR K ρ' cl G' H' S'->E (.ref (cl c)) none H'):t σ H P:=by
 rcases bz e with ⟨c,em,rfl⟩ | ⟨d,S1,em,e⟩
 . exact h ρ G σ H δ S _ _ _ R em (λ d hd=>by cases hd) (λ c' hc=>by cases hc;exact qx c rfl)
 . exact h ρ G σ H δ S _ _ _ R em (λ d' hd=>by cases hd;exact q _ _ e) (λ c' hc=>by cases hc)
theorem kA {α:Type} {t:TA} {f:DS->aq->SM (List W)} (h:SA K cl E t f) {ρ:List Addr} {G:Hp} {σ:St} {H:Hp} {δ:DS} {S:aq} {r:Rs α} {S':aq} {k:List W->aq->SM α} {P:List V->Hp->Prop} (R:RS K cl ρ G H δ σ S) (e:aw (f δ S) k=some (r,S'))
 (q:∀ d S1,k d S1=some (r,S')->∀ v ρ' G' H',GS ρ G H ρ' G' H'->SR K ρ' cl G' H' S1->aC K ρ' G' v d->P v H')
 (qx:∀ c,r=.xc c->∀ ρ' G' H',GS ρ G H ρ' G' H'->SR K ρ' cl G' H' S'->E (.ref (cl c)) none H'):t σ H P:=by
 rcases bz e with ⟨c,em,rfl⟩ | ⟨d,S1,em,e⟩
 . exact h ρ G σ H δ S _ _ _ R em (λ d hd=>by cases hd) (λ c' hc=>by cases hc;exact qx c rfl)
 . exact h ρ G σ H δ S _ _ _ R em (λ d' hd=>by cases hd;exact q _ _ e) (λ c' hc=>by cases hc)
theorem Ba {α:Type} {t:TT} {f:DS->aq->SM Bool} (h:ST K cl E t f) {ρ:List Addr} {G:Hp} {σ:St} {H:Hp} {δ:DS} {S:aq} {r:Rs α} {S':aq} {k:Bool->aq->SM α} {P:Bool->Hp->Prop} (R:RS K cl ρ G H δ σ S) (e:aw (f δ S) k=some (r,S'))
 (q:∀ d S1,k d S1=some (r,S')->∀ ρ' G' H',GS ρ G H ρ' G' H'->SR K ρ' cl G' H' S1->P d H')
 (qx:∀ c,r=.xc c->∀ ρ' G' H',GS ρ G H ρ' G' H'->SR K ρ' cl G' H' S'->E (.ref (cl c)) none H'):t σ H P:=by
 rcases bz e with ⟨c,em,rfl⟩ | ⟨d,S1,em,e⟩
 . exact h ρ G σ H δ S _ _ _ R em (λ d hd=>by cases hd) (λ c' hc=>by cases hc;exact qx c rfl)
 . exact h ρ G σ H δ S _ _ _ R em (λ d' hd=>by cases hd;exact q _ _ e) (λ c' hc=>by cases hc)
theorem tO {α:Type} {ta tb:TE} {fa fb:DS->aq->SM W} (ha:SE K cl E ta fa) (hb:SE K cl E tb fb) {ρ:List Addr} {G:Hp} {σ:St} {H:Hp} {δ:DS} {S:aq} {r:Rs α} {S':aq} {k:W->W->aq->SM α} {P:V->V->Hp->Prop} (R:RS K cl ρ G H δ σ S)
 (e:aw (fa δ S) (λ x S1=>aw (fb δ S1) λ y S2=>k x y S2)=some (r,S'))
 (q:∀ x y S2,k x y S2=some (r,S')->∀ v u ρ' G' H',GS ρ G H ρ' G' H'->SR K ρ' cl G' H' S2->Dw K ρ' G' v x->Dw K ρ' G' u y->P v u H')
 (qx:∀ c,r=.xc c->∀ ρ' G' H',GS ρ G H ρ' G' H'->SR K ρ' cl G' H' S'->E (.ref (cl c)) none H'):ta σ H λ v H1=>tb σ H1 λ u H2=>P v u H2:=
 ci ha R e (λ x S1 e1 v ρ1 G1 H1 g1 s1 dv=>ci hb (R.grow g1 s1) e1 (λ y S2 e2 u ρ2 G2 H2 g2 s2 du=>q x y S2 e2 v u ρ2 G2 H2 (g1.trans g2) s2 ((dv.ext g2.r).same g2.g) du) λ c hc ρ2 G2 H2 g2 s2=>qx c hc ρ2 G2 H2 (g1.trans g2) s2) qx
noncomputable def qN {α:Type} (x:Option α) (S:aq):SM α:=x.map λ d=>(.ok d,S)
theorem bU {x:Option α} {r:Rs α} (h:qN x S=some (r,S')):∃ d,x=some d/\r=.ok d/\S'=S:=by
 obtain ⟨d,e1,e2⟩:=oM h
 simp_all
noncomputable def AS (g:W->W->Option W) (fa fb:DS->aq->SM W):DS->aq->SM W:=λ δ S=>aw (fa δ S) λ x S1=>aw (fb δ S1) λ y S2=>qN (g x y) S2
theorem Lv (hr:∀ ρ,DR K ρ r g) (ha:SE K cl E ta fa) (hb:SE K cl E tb fb):SE K cl E (w4 r ta tb) (AS g fa fb):=λ ρ G σ H δ S r' S' Q R e q qx=>
 tO ha hb R e (λ x y S2 e2 v u ρ2 G2 H2 g2 s2 dv du=>by
  obtain ⟨c,e3,rfl,rfl⟩:=bU e2;exact hr _ G2 H2 v u x y c Q g2.s (.inl dv) du e3 λ w G3 H3 g3 dw=>q c rfl w _ G3 H3 (g2.trans (.of g3)) (s2.grow g3) dw) qx
noncomputable def Pg (g:W->W->Option Bool) (fa fb:DS->aq->SM W):DS->aq->SM Bool:=λ δ S=>aw (fa δ S) λ x S1=>aw (fb δ S1) λ y S2=>qN (g x y) S2
noncomputable def sB (f:DS->aq->SM Bool):DS->aq->SM W:=λ δ S=>aw (f δ S) λ b S1=>some (.ok (.bool b),S1)
noncomputable def vy (f g:DS->aq->SM Bool):DS->aq->SM Bool:=λ δ S=>aw (f δ S) λ b S1=>if b=true then g δ S1 else some (.ok false,S1)
noncomputable def Ll (f g:DS->aq->SM Bool):DS->aq->SM Bool:=λ δ S=>aw (f δ S) λ b S1=>if b=true then some (.ok true,S1) else g δ S1
noncomputable def Pz (f:DS->aq->SM Bool):DS->aq->SM Bool:=λ δ S=>aw (f δ S) λ b S1=>some (.ok (!b),S1)
theorem Jx (h1:ST K cl E t f) (h2:ST K cl E u g):ST K cl E (Ks t u) (vy f g):=λ ρ G σ H δ S r S' Q R e q qx=>
 Ba h1 R e (λ b S1 e1 ρ1 G1 H1 g1 s1=>by
  cases b with
  | true=>exact h2 _ G1 σ H1 δ S1 r S' Q (R.grow g1 s1) e1 (λ b hb ρ2 G2 H2 g2 s2=>q b hb _ G2 H2 (g1.trans g2) s2) λ c hc ρ2 G2 H2 g2 s2=>qx c hc _ G2 H2 (g1.trans g2) s2
  | false=>grind) qx
theorem Md (h1:ST K cl E t f) (h2:ST K cl E u g):ST K cl E (ON t u) (Ll f g):=λ ρ G σ H δ S r S' Q R e q qx=>
 Ba h1 R e (λ b S1 e1 ρ1 G1 H1 g1 s1=>by
  cases b with
  | false=>exact h2 _ G1 σ H1 δ S1 r S' Q (R.grow g1 s1) e1 (λ b hb ρ2 G2 H2 g2 s2=>q b hb _ G2 H2 (g1.trans g2) s2) λ c hc ρ2 G2 H2 g2 s2=>qx c hc _ G2 H2 (g1.trans g2) s2
  | true=>grind) qx
noncomputable def t8 (f:DS->aq->SM (List W)):DS->aq->SM W:=λ δ S=>aw (f δ S) λ ds S1=>if ds.length<=sizeLine then some (.ok (.tuple ds),S1) else none
theorem J8 (h:SA K cl E t f):SE K cl E (Ex t) (t8 f):=λ ρ G σ H δ S r S' Q R e q qx=>
 kA h R e (λ ds S1 e1 vs ρ1 G1 H1 g1 s1 da=>by
  split at e1
  . rename_i hz;cases e1;refine ⟨by rw [da.length];exact hz,λ p H' n=>?_⟩;have g2:=Gr.nw g1.s n;exact q _ rfl _ _ _ H' (g1.trans (.of g2)) (s1.grow g2) (.tup aG (da.same g2.g))
  . cases e1) qx
noncomputable def Ou (f:DS->aq->SM (List W)):DS->aq->SM W:=λ δ S=>aw (f δ S) λ ds S1=>if ds.length<=sizeLine then some (.ok (.list ds),S1) else none
noncomputable def wt (f:DS->aq->SM (List W)):DS->aq->SM W:=λ δ S=>aw (f δ S) λ ds S1=>if ds.length<=sizeLine then some (.ok (.ref S1.length),S1++[.lst ds]) else none
theorem FT (h:SA K cl E t f):SE K cl E (Bm t) (wt f):=λ ρ G σ H δ S r S' Q R e q qx=>
 kA h R e (λ ds S1 e1 vs ρ1 G1 H1 g1 s1 da=>by
  split at e1
  . rename_i hz;cases e1;refine ⟨by rw [da.length];exact hz,λ p H' n=>?_⟩;obtain ⟨s2,g2⟩:=s1.push (o:=.lst ds) g1.s n λ ρ' hr=>⟨vs,n.2.2,da.ext hr⟩
    exact q _ rfl _ _ _ H' (g1.trans g2) s2 (.ref (by rw [<-s1.len];simp))
  . cases e1) qx
noncomputable def A5:DS->aq->SM W:=λ _ S=>some (.ok (.ref S.length),S++[.dK []])
noncomputable def Mc:DS->aq->SM W:=λ _ S=>some (.ok (.ref S.length),S++[.dT []])
theorem LJ:SE K cl E B8 A5:=λ ρ G σ H δ S r S' Q R e q qx=>by
 cases e;intro p hp;obtain ⟨s2,g2⟩:=R.st.push (o:=.dK []) R.rl.sub (Nw.of  hp) λ ρ' hr=>⟨[],aG,.nil⟩
 exact q _ rfl _ _ _ _ g2 s2 (.ref (by rw [<-R.st.len];simp))
theorem M8:SE K cl E BQ Mc:=λ ρ G σ H δ S r S' Q R e q qx=>by
 cases e;intro p hp;obtain ⟨s2,g2⟩:=R.st.push (o:=.dT []) R.rl.sub (Nw.of  hp) λ ρ' hr=>⟨[],aG,.nil⟩
 exact q _ rfl _ _ _ _ g2 s2 (.ref (by rw [<-R.st.len];simp))
noncomputable def eK (x:W) (S:aq):Option (Nat×Ob):=match x with
 | .ref n=>(S[n]?).map λ o=>(n,o)
 | _=>none
theorem dH {x:W} {S:aq} {n:Nat} {o:Ob} (h:eK x S=some (n,o)):x=.ref n/\S[n]?=some o:=by
 unfold eK at h;split at h
 . obtain ⟨o',e1,e2⟩:=oM h
   cases e2;exact ⟨rfl,e1⟩
 . cases h
noncomputable def iW (c:Str) (x:W) (S:aq):Option (Nat×List (Str×W)):=match eK x S with
 | some (n,.ins c' fs)=>if c'=c then some (n,fs) else none
 | _=>none
theorem kO (h:iW c x S=some (n,fs)):x=.ref n/\S[n]?=some (.ins c fs):=by
 unfold iW at h;cases e:eK x S with
 | none=>simp_all
 | some p=>
  obtain ⟨m,o⟩:=p;rw [e] at h;cases o with
  | ins c' fs'=>
   by_cases hc:c'=c
   . subst hc;cases (Rt rfl).symm.trans h;exact dH e
   simp_all
  | _=>cases h
noncomputable def gy (c f:Str) (fa:DS->aq->SM W):DS->aq->SM W:=λ δ S=>aw (fa δ S) λ x S1=>(iW c x S1).bind λ p=>qN (p.2.lookup f) S1
theorem cD (h:Dw K ρ G v (.ref n)):∃ a,v=.ref a/\ρ[n]?=some a:=by
 cases h with
 | ref e=>simp_all
theorem Iz {c f:Str} {ta:TE} {fa:DS->aq->SM W} (hc:Ap K (cl c)) (hn:NoAttr K (cl c) f) (ha:SE K cl E ta fa):SE K cl E (JR K ta f) (gy c f fa):=λ ρ G σ H δ S r S' Q R e q qx=>
 ci ha R e (λ x S1 e1 v ρ1 G1 H1 g1 s1 dv=>by
  obtain ⟨⟨n,fs⟩,e2,e3⟩:=oB e1
  obtain ⟨d,e4,rfl,rfl⟩:=bU e3;obtain ⟨rfl,e5⟩:=kO e2;obtain ⟨a,rfl,ea⟩:=cD dv;obtain ⟨ga,dx,ws,k1,k2,k3,k4⟩:=s1.addr e5 ea;obtain ⟨u,k5,k6⟩:=k4.lookup e4;exact ⟨a,_,dx,ws,u,rfl,k1,hc,hn,k5,q d rfl u ρ1 G1 H1 g1 s1 k6⟩) qx
noncomputable def N4 (K:Frag) (cl:Str->Addr) (f:List W->aq->SM W):Sp:=λ vs H Q E=>∃ ρ G S ds r S',bn G H/\SR K ρ cl G H S/\aC K ρ G vs ds/\f ds S=some (r,S')/\
 (∀ d,r=.ok d->∀ v ρ' G' H',GS ρ G H ρ' G' H'->SR K ρ' cl G' H' S'->Dw K ρ' G' v d->Q v H')/\(∀ c,r=.xc c->∀ ρ' G' H',GS ρ G H ρ' G' H'->SR K ρ' cl G' H' S'->E (.ref (cl c)) none H')
noncomputable def gP (f:List W->Option W) (fa:DS->aq->SM (List W)):DS->aq->SM W:=λ δ S=>aw (fa δ S) λ ds S1=>qN (f ds) S1
theorem Dk (h:SA K cl E t fa):SE K cl E (q0 (iV K f) [] E' t) (gP f fa):=λ ρ G σ H δ S r S' Q R e q qx=>
 kA h R e (λ ds S1 e1 vs ρ1 G1 H1 g1 s1 da=>by
  obtain ⟨d,e2,rfl,rfl⟩:=bU e1;exact ⟨ρ1,G1,ds,d,g1.s,by simp_all,e2,λ v G2 H2 g2 dv=>q d rfl v ρ1 G2 H2 (g1.trans (.of g2)) (s1.grow g2) dv⟩) qx
noncomputable def k8 (K:Frag) (cl:Str->Addr) (f:List W->aq->SM W):Sp:=λ vs H Q _=>∃ ρ G S ds d S',bn G H/\SR K ρ cl G H S/\aC K ρ G vs ds/\f ds S=some (.ok d,S')/\
 ∀ v ρ' G' H',GS ρ G H ρ' G' H'->SR K ρ' cl G' H' S'->Dw K ρ' G' v d->Q v H'
noncomputable def E2 (m:SM W):SM W:=match m with
 | some (.ok d,S)=>some (.ok d,S)
 | _=>none
theorem lP (h:E2 m=some (r,S')):∃ d,r=.ok d/\m=some (.ok d,S'):=by
 unfold E2 at h
 grind
noncomputable def cy (f:List W->aq->SM W) (fa:DS->aq->SM (List W)):DS->aq->SM W:=λ δ S=>aw (fa δ S) λ ds S1=>E2 (f ds S1)
theorem FK (h:SA K cl E t fa):SE K cl E (q0 (k8 K cl f) [] E' t) (cy f fa):=λ ρ G σ H δ S r S' Q R e q qx=>
 kA h R e (λ ds S1 e1 vs ρ1 G1 H1 g1 s1 da=>by
  obtain ⟨d,rfl,e2⟩:=lP e1;exact ⟨ρ1,G1,S1,ds,d,S',g1.s,s1,by simp_all,e2,λ v ρ2 G2 H2 g2 s2 dv=>q d rfl v ρ2 G2 H2 (g1.trans g2) s2 dv⟩) qx
noncomputable def bS (c m:Str) (f:List W->aq->SM W) (fo:DS->aq->SM W) (fa:DS->aq->SM (List W)):DS->aq->SM W:=λ δ S=>aw (fo δ S) λ x S1=>(iW c x S1).bind λ p=>if p.2.lookup m=none then aw (fa δ S1) λ ds S2=>E2 (f (x::ds) S2) else none
theorem Ft (ho:SE K cl E to fo) (h:SA K cl E t fa):SE K cl E (Dg (cl c) m (k8 K cl f) [] E' to t) (bS c m f fo fa):=λ ρ G σ H δ S r S' Q R e q qx=>
 ci ho R e (λ x S1 e1 v ρ1 G1 H1 g1 s1 dv=>by
  obtain ⟨⟨n,fs⟩,e2,e3⟩:=oB e1
  split at e3
  case isFalse=>cases e3
  rename_i hm;obtain ⟨rfl,e5⟩:=kO e2;obtain ⟨a,rfl,ea⟩:=cD dv;obtain ⟨ga,dx,ws,k1,k2,k3,k4⟩:=s1.addr e5 ea;refine ⟨a,dx,ws,rfl,k1,k4.lookup_none hm,?_⟩;exact kA h (R.grow g1 s1) e3 (λ ds S2 e6 vs ρ2 G2 H2 g2 s2 da=>by
   obtain ⟨d,rfl,e7⟩:=lP e6;exact ⟨ρ2,G2,S2,.ref n::ds,d,S',g2.s,s2,by rw [Sa];exact .cons ((dv.ext g2.r).same g2.g) da,e7,λ v ρ3 G3 H3 g3 s3 dv=>q d rfl v _ G3 H3 (g1.trans (g2.trans g3)) s3 dv⟩) λ c hc ρ2 G2 H2 g2 s2=>qx c hc _ G2 H2 (g1.trans g2) s2) qx
noncomputable def yV (c:Str) (f:List W->aq->SM W) (fa:DS->aq->SM (List W)):DS->aq->SM W:=λ δ S=>aw (fa δ S) λ ds S1=>aw (E2 (f (.ref S1.length::ds) (S1++[.ins c []]))) λ d S2=>match d with
 | .none=>some (.ok (.ref S1.length),S2)
 | _=>none
theorem Gb (h:SA K cl E t fa):SE K cl E (Hz (cl c) (k8 K cl f) [] E' t) (yV c f fa):=λ ρ G σ H δ S r S' Q R e q qx=>
 kA h R e (λ ds S1 e1 vs ρ1 G1 H1 g1 s1 da=>by
  intro x dx hx hdx hne;have na:Nw H1 _ dx (.own x):=.of hdx;have gA:Gr G1 H1 G1 _:=.nwO g1.s na;have hx':cH H1 dx (.own x) x=none:=by rw [aF (SN hne)];exact hx
  have nb:Nw _ _ x (.ins (cl c) dx []):=.of hx';obtain ⟨s2,g2⟩:=(s1.grow gA).push (o:=.ins c []) gA.s nb λ ρ' hr=>⟨dx,[],aG,bV g1.s hdx,by rw [aF hne];exact aG,.nil⟩
  have g12:=(GS.of  gA).trans g2;have dx1:aC K _ G1 (.ref x::vs) (.ref S1.length::ds):=.cons (.ref (by rw [<-s1.len];simp)) (da.ext ⟨[x],rfl⟩);rcases bz e1 with ⟨c',em,rfl⟩ | ⟨d,S2,em,e2⟩
  . obtain ⟨_,z,_⟩:=lP em;cases z
  . obtain ⟨d',z,em⟩:=lP em;cases z;refine ⟨_,G1,_,_,_,_,g2.s,s2,by rw [Sa];exact dx1,em,λ v ρ3 G3 H3 g3 s3 dv=>?_⟩;split at e2
    . cases e2;exact ⟨yb dv,q _ rfl _ ρ3 G3 H3 (g1.trans (g12.trans g3)) s3 (.ref (by
       have h1:(ρ1++[x])[S1.length]?=some x:=by rw [<-s1.len];simp
       obtain ⟨t',ht⟩:=g3.r;rw [<-ht,RR (oG h1).1];exact h1))⟩
    . cases e2) qx
noncomputable def Od (K:Frag) (cl:Str->Addr) (E:XK) (wi:TI) (f:DS->aq->SM (List W)):Prop:=
 ∀ (ρ:List Addr) (G:Hp) (σ:St) (H:Hp) (δ:DS) (S:aq) (r:Rs (List W)) (S':aq) (R':It->Hp->Prop),RS K cl ρ G H δ σ S->f δ S=some (r,S')->
  (∀ ds,r=.ok ds->∀ J ρ' G' H',GS ρ G H ρ' G' H'->SR K ρ' cl G' H' S'->L4 K ρ' J G' ds->R' J H')->
  (∀ c,r=.xc c->∀ ρ' G' H',GS ρ G H ρ' G' H'->SR K ρ' cl G' H' S'->E (.ref (cl c)) none H')->wi σ H R'
theorem Ej (h:∀ ρ,DI K ρ wi f):Od K cl E wi (ab f):=λ ρ G σ H δ S r S' R' R e q qx=>by
 obtain ⟨ds,e1,rfl,rfl⟩:=i5 e;exact h ρ G σ H δ ds R' R.rl e1 λ J G' H' g it=>q ds rfl J ρ G' H' (.of g) (R.st.grow g) it
end
inductive EE where
 | nx (δ:DS)
 | bk (δ:DS)
 | ct (δ:DS)
 | rt (d:W)
 | xc (c:Str)
noncomputable abbrev SO:=Option (EE×aq)
section
variable {K:Frag} {cl:Str->Addr} {E:XK}
structure kE (K:Frag) (cl:Str->Addr) (ρ0:List Addr) (G0 H0:Hp) (ρ:List Addr) (G H:Hp) (δ:DS) (σ:St) (S:aq):Prop where
 rs:RS K cl ρ G H δ σ S
 gs:GS ρ0 G0 H0 ρ G H
 ow:∀ (i:Nat) p ds,δ[i]?=some (.own ds)->σ[i]?=some (some (.ref p))->H0 p=none
noncomputable def FS (K:Frag) (cl:Str->Addr) (E:XK) (ρ0:List Addr) (G0 H0:Hp) (D:oz) (S:aq):EE->Prop
 | .nx δ=>∀ σ ρ G H,kE K cl ρ0 G0 H0 ρ G H δ σ S->D.nx σ H
 | .bk δ=>∀ σ ρ G H,kE K cl ρ0 G0 H0 ρ G H δ σ S->D.bk σ H
 | .ct δ=>∀ σ ρ G H,kE K cl ρ0 G0 H0 ρ G H δ σ S->D.ct σ H
 | .rt d=>∀ v ρ G H,GS ρ0 G0 H0 ρ G H->SR K ρ cl G H S->Dw K ρ G v d->D.rt v H
 | .xc c=>∀ ρ G H,GS ρ0 G0 H0 ρ G H->SR K ρ cl G H S->E (.ref (cl c)) none H
noncomputable def oh (K:Frag) (cl:Str->Addr) (E:XK) (t:TS) (f:DS->aq->SO):Prop:=
 ∀ (ρ0:List Addr) (G0 H0:Hp) (ρ:List Addr) (G:Hp) (σ:St) (H:Hp) (δ:DS) (S:aq) (o:EE) (S':aq) (D:oz),kE K cl ρ0 G0 H0 ρ G H δ σ S->f δ S=some (o,S')->FS K cl E ρ0 G0 H0 D S' o->t D σ H
theorem kE.grow (I:kE K cl ρ0 G0 H0 ρ G H δ σ S) (g:GS ρ G H ρ' G' H') (s:SR K ρ' cl G' H' S'):kE K cl ρ0 G0 H0 ρ' G' H' δ σ S':=⟨I.rs.grow g s,I.gs.trans g,I.ow⟩
theorem kE.sub (I:kE K cl ρ0 G0 H0 ρ G H δ σ S) (R:Rl K ρ G H δ' σ') (o:fL δ' σ' δ σ):kE K cl ρ0 G0 H0 ρ G H δ' σ' S:=
 ⟨⟨R,I.rs.st,λ i ds p h1 h2=>by
  obtain ⟨es,h3,h4⟩:=o i ds p h1 h2;exact I.rs.ap i es p h3 h4⟩,I.gs,λ i p ds h1 h2=>by
  obtain ⟨es,h3,h4⟩:=o i ds p h1 h2;exact I.ow i p es h3 h4⟩
theorem kE.base (I:kE K cl ρ0 G0 H0 ρ G H δ σ S):kE K cl ρ G H0 ρ G H δ σ S:=
 ⟨I.rs,⟨SY _,.refl _,I.gs.s,λ b o hb e=>I.gs.h b o (λ h=>hb (I.gs.r.subset h)) e,I.gs.k,λ _ _ e=>e,λ a h1 h2=>absurd h1 h2,I.gs.t⟩,I.ow⟩
theorem GS.rebase (a:GS ρ0 G0 H0 ρ G H) (b:GS ρ G H0 ρ' G' H'):GS ρ0 G0 H0 ρ' G' H':=
 ⟨a.r.trans b.r,a.g.trans b.g,b.s,λ c o hc e=>b.h c o (λ h=>by rw [a.f c h hc] at e;cases e) e,b.k,λ c h1 h2=>b.n c h1 (a.n c h1 h2),λ c h1 h2=>by
  by_cases h3:c∈ρ
  . exact a.f c h3 h2
  . exact b.f c h1 h3,b.t⟩
theorem kE.rebase (a:GS ρ0 G0 H0 ρ G H) (I:kE K cl ρ G H0 ρ' G' H' δ σ S):kE K cl ρ0 G0 H0 ρ' G' H' δ σ S:=⟨I.rs,a.rebase I.gs,I.ow⟩
noncomputable def xy (δ:DS) (σ:St) (b:Addr):Prop:=∃ (i:Nat) (ds:List W),δ[i]?=some (.own ds)/\σ[i]?=some (some (.ref b))
noncomputable def hideO (δ:DS) (σ:St) (H:Hp):Hp:=λ b=>@ite _ (xy δ σ b) (Classical.propDecidable _) none (H b)
theorem sA (h:xy δ σ b):hideO δ σ H b=none:=by
 unfold hideO
 grind
theorem cW (h:¬ xy δ σ b):hideO δ σ H b=H b:=by
 unfold hideO
 grind
noncomputable def Eu:eI->EE
 | .nx δ=>.nx δ
 | .bk δ=>.bk δ
 | .ct δ=>.ct δ
 | .rt d=>.rt d
noncomputable def aJ (f:DS->Option eI):DS->aq->SO:=λ δ S=>(f δ).map λ o=>(Eu o,S)
theorem yj (h:∀ ρ,oX K ρ t f):oh K cl E t (aJ f):=λ ρ0 G0 H0 ρ G σ H δ S o S' D I e p=>by
 obtain ⟨o',e1,e2⟩:=oM e
 cases e2;have same0:bn (hideO δ σ H) H:=λ b u hb=>by
  by_cases ho:xy δ σ b
  . rw [sA ho] at hb;cases hb
  . rw [cW ho] at hb;exact hb
 have notown:∀ a,a∈ρ->¬ xy δ σ a:=λ a ha hy0=>by obtain ⟨i,ds,k1,k2⟩:=hy0;exact I.rs.ap i ds a k1 k2 ha
 have ownlst:∀ b,xy δ σ b->∃ vs,H b=some _:=λ b hy0=>by
  obtain ⟨i,ds,k1,k2⟩:=hy0;obtain ⟨o,m1,q,vs,rfl,m3,m4,m5⟩:=I.rs.rl.sl i _ k1;rw [k2] at m1;cases m1;exact ⟨vs,m4⟩
 have sr0:SR K ρ cl G _ S:=⟨I.rs.st.len,I.rs.st.nd,λ n ob en=>by
  obtain ⟨a,k1,k2,k3⟩:=I.rs.st.ob n ob en;refine ⟨a,k1,k2,k3.move (SY _) (.refl _) (cW (notown a (Sq k1))) λ dx d1 d2=>⟨?_,d1⟩⟩;rw [cW λ ho=>by
   grind]
  exact d2⟩
 have iv:Iv K ρ G (hideO δ σ H) G H δ σ:=⟨I.rs.rl,⟨.refl _,same0,I.gs.s,λ _ _ e=>e⟩,λ i q ds k1 k2=>sA ⟨i,ds,k1,k2⟩⟩
 have h0own:∀ b,H0 b≠none->¬ xy δ σ b:=λ b hb hy0=>by obtain ⟨i,ds,k1,k2⟩:=hy0;exact hb (I.ow i b ds k1 k2)
 have gs:∀ {G' H':Hp},Gr G (hideO δ σ H) G' H'->GS _ G0 H0 ρ G' H':=λ {G' H'} g=>
  ⟨I.gs.r,I.gs.g.trans g.g,g.s,λ b u hb eb=>g.h b u (by rw [cW (h0own b (by rw [eb];simp))];exact I.gs.h b u hb eb),λ b hb=>uo g.h (by rw [cW (h0own b hb)];exact I.gs.k b hb),λ b h1 h2=>g.n b (by unfold nT;rw [cW (h0own b h1.1)];exact I.gs.t b h1) (I.gs.n b h1 h2),I.gs.f,λ b h1=>nT.same (by unfold nT;rw [cW (h0own b h1.1)];exact I.gs.t b h1) g.h⟩
 have nx:∀ {δ':DS} {σ':St} {G' H':Hp},Iv K ρ G (hideO δ σ H) G' H' δ' σ'->kE K cl ρ0 G0 H0 ρ G' H' δ' σ' S:=λ {δ' σ' G' H'} I'=>
  ⟨⟨I'.rl,sr0.grow I'.gr,λ i ds q k1 k2 hq=>by
   have:=I'.ow i q ds k1 k2;rw [cW (notown q hq)] at this;obtain ⟨j,hj,ej⟩:=List.mem_iff_getElem.mp hq;obtain ⟨b,m1,m2,m3⟩:=I.rs.st.ob j (S[j]'(by rw [<-I.rs.st.len];exact hj)) (RQ _);rw [RQ hj,ej] at m1;cases m1;obtain ⟨y,hy,_⟩:=m3.some;rw [this] at hy;cases hy⟩,gs I'.gr,λ i q ds k1 k2=>by
   have h1:=I'.ow i q ds k1 k2;cases h2:H0 q with
   | none=>rfl
   | some u=>
    exfalso;have h3:=I.gs.k q (by rw [h2];simp);rw [cW (h0own q (by rw [h2];simp))] at h1;exact h3 h1⟩
 refine h ρ G (hideO δ σ H) G σ H δ o' D iv e1 ?_;cases o' with
 | nx δ'=>exact λ σ' G' H' I'=>p σ' ρ G' H' (nx I')
 | bk δ'=>exact λ σ' G' H' I'=>p σ' ρ G' H' (nx I')
 | ct δ'=>exact λ σ' G' H' I'=>p σ' ρ G' H' (nx I')
 | rt d=>exact λ v G' H' g dv=>p v ρ G' H' (gs g) (sr0.grow g) dv
noncomputable def aA (f g:DS->aq->SO):DS->aq->SO:=λ δ S=>match f δ S with
 | some (.nx δ',S')=>g δ' S'
 | o=>o
theorem Ea (h1:oh K cl E t f) (h2:oh K cl E u g):oh K cl E (Kb t u) (aA f g):=λ ρ0 G0 H0 ρ G σ H δ S o S' D I e p=>by
 unfold aA at e;cases ef:f δ S with
 | none=>simp_all
 | some r=>
  obtain ⟨o1,S1⟩:=r;rw [ef] at e;refine h1 _ G0 H0 ρ G σ H δ S o1 S1 _ I ef ?_;cases o1 with
  | nx δ'=>exact λ σ' ρ' G' H' I'=>h2 _ G0 H0 _ G' _ H' _ S1 o S' D I' e p
  | bk δ'=>cases e;exact p
  | ct δ'=>cases e;exact p
  | rt d=>cases e;exact p
  | xc c=>cases e;exact p
noncomputable def mj {α:Type} (m:SM α) (k:α->aq->SO):SO:=match m with
 | some (.ok a,S)=>k a S
 | some (.xc c,S)=>some (.xc c,S)
 | none=>none
theorem qp (h:mj m k=some (o,S')):(∃ c,m=some (.xc c,S')/\o=.xc c)∨∃ a S1,m=some (.ok a,S1)/\k a S1=some (o,S'):=by
 unfold mj at h
 grind
theorem fq (h:SE K cl E t f) {P:V->Hp->Prop} (I:kE K cl ρ0 G0 H0 ρ G H δ σ S) (e:mj (f δ S) k=some (o,S')) (p:FS K cl E ρ0 G0 H0 D S' o)
 (q:∀ d S1,k d S1=some (o,S')->∀ v ρ' G' H',GS ρ G H ρ' G' H'->SR K ρ' cl G' H' S1->Dw K ρ' G' v d->P v H'):t σ H P:=by
 rcases qp e with ⟨c,em,rfl⟩ | ⟨d,S1,em,e⟩
 . exact h ρ G σ H δ S _ _ _ I.rs em (λ d hd=>by cases hd) λ c' hc ρ1 G1 H1 g1 s1=>by cases hc;exact p _ G1 H1 (I.gs.trans g1) s1
 . exact h ρ G σ H δ S _ _ _ I.rs em (λ d' hd=>by grind) (λ c' hc=>by cases hc)
theorem yU (h:ST K cl E t f) (I:kE K cl ρ0 G0 H0 ρ G H δ σ S) (e:mj (f δ S) k=some (o,S')) (p:FS K cl E ρ0 G0 H0 D S' o)
 (q:∀ d S1,k d S1=some (o,S')->∀ ρ' G' H',GS ρ G H ρ' G' H'->SR K ρ' cl G' H' S1->P d H'):t σ H P:=by
 rcases qp e with ⟨c,em,rfl⟩ | ⟨d,S1,em,e⟩
 . exact h ρ G σ H δ S _ _ _ I.rs em (λ d hd=>by cases hd) λ c' hc ρ1 G1 H1 g1 s1=>by cases hc;exact p _ G1 H1 (I.gs.trans g1) s1
 . exact h ρ G σ H δ S _ _ _ I.rs em (λ d' hd=>by grind) (λ c' hc=>by cases hc)
noncomputable def dm (c:DS->aq->SM Bool) (f g:DS->aq->SO):DS->aq->SO:=λ δ S=>mj (c δ S) λ b S1=>if b=true then f δ S1 else g δ S1
theorem Hx (hc:ST K cl E tc c) (h1:oh K cl E t f) (h2:oh K cl E u g):oh K cl E (Iu tc t u) (dm c f g):=λ ρ0 G0 H0 ρ G σ H δ S o S' D I e p=>
 yU hc I e p λ b S1 e1 ρ1 G1 H1 g1 s1=>by
  cases b with
  | true=>exact h1 _ G0 H0 _ G1 σ H1 δ S1 o S' D (I.grow g1 s1) e1 p
  | false=>exact h2 _ G0 H0 _ G1 σ H1 δ S1 o S' D (I.grow g1 s1) e1 p
noncomputable def iX (f:DS->aq->SM W):DS->aq->SO:=λ δ S=>mj (f δ S) λ d S1=>some (.rt d,S1)
theorem BA (h:SE K cl E t f):oh K cl E (Iy t) (iX f):=λ ρ0 G0 H0 ρ G σ H δ S o S' D I e p=>
 fq h I e p λ d S1 e1 v ρ1 G1 H1 g1 s1 dv=>by
  cases e1;exact p v _ G1 H1 (I.gs.trans g1) s1 dv
noncomputable def cr (f:DS->aq->SM W) (h:W->DS->Option DS):DS->aq->SO:=λ δ S=>mj (f δ S) λ d S1=>(h d δ).map λ δ'=>(.nx δ',S1)
theorem Bb (h1:SE K cl E t f) (h2:∀ ρ,DG K ρ g h):oh K cl E (zH t g) (cr f h):=λ ρ0 G0 H0 ρ G σ H δ S o S' D I e p=>
 fq h1 I e p λ d S1 e1 v ρ1 G1 H1 g1 s1 dv=>by
  obtain ⟨δ',e2,e3⟩:=oM e1
  cases e3;have I1:=I.grow g1 s1;exact h2 _ G1 H1 δ σ v d _ _ I1.rs.rl dv e2 λ σ' R o=>p _ _ G1 H1 (I1.sub R o)
noncomputable def bd (f:DS->aq->SM W):DS->aq->SO:=λ δ S=>mj (f δ S) λ _ S1=>some (.nx δ,S1)
theorem zv (h:SE K cl E t f):oh K cl E (qz t) (bd f):=λ ρ0 G0 H0 ρ G σ H δ S o S' D I e p=>
 fq h I e p λ d S1 e1 v ρ1 G1 H1 g1 s1 dv=>by
  cases e1;exact p σ _ G1 H1 (I.grow g1 s1)
noncomputable def Bd (i:Nat) (f:DS->aq->SO):DS->aq->SO:=λ δ S=>f (frz i δ) S
theorem kE.frz (i:Nat) (I:kE K cl ρ0 G0 H0 ρ G H δ σ S):∃ G',kE K cl ρ0 G0 H0 ρ G' H (L2.frz i δ) σ S:=by
 unfold L2.frz;split
 . rename_i ds h;obtain ⟨o,h1,p,vs,rfl,h3,h4,h5⟩:=I.rs.rl.sl i _ h;have h0:=I.ow i p ds h h1;have g:bn G (cH G p (.lst vs)):=jt h3 _;have pm:=I.rs.ap i ds p h h1;have sub:∀ {j:Nat} {es:List W},(δ.set i (.val (.list ds)))[j]?=some (.own es)->i≠j/\δ[j]?=some _:=λ {j es} k=>by
    rcases di k with ⟨_,z,_⟩ | ⟨ne,k⟩
    . cases z
    . exact ⟨ne,k⟩
   refine ⟨cH G p _,⟨⟨⟨jK I.gs.s h4,by rw [SW];exact I.rs.rl.len,λ j s e=>?_,λ j k q ds' es' k1 k2 k3 k4=>I.rs.rl.apart j k q _ _ (sub k1).2 (sub k2).2 k3 k4⟩,?_,λ j es q k1 k2=>I.rs.ap j es q (sub k1).2 k2⟩,?_,λ j q es k1 k2=>I.ow j q es (sub k1).2 k2⟩⟩
   . rcases di e with ⟨rfl,rfl,hl⟩ | ⟨ne,e⟩
     . exact ⟨_,h1,.ref p,rfl,.lst (cG.of aG) (h5.same g)⟩
     . obtain ⟨o,k1,k2⟩:=I.rs.rl.sl j s e;refine ⟨o,k1,?_⟩;cases s with
       | no=>trivial
       | val d=>
        obtain ⟨v,e1,e2⟩:=k2;exact ⟨v,e1,e2.same g⟩
       | own es=>
        obtain ⟨q,ws,rfl,e2,e3,e4⟩:=k2;refine ⟨q,ws,rfl,?_,e3,e4.same g⟩;rw [aF]
        . exact e2
        . rintro rfl;exact ne (I.rs.rl.apart i j q ds es h e h1 k1)
   . refine ⟨I.rs.st.len,I.rs.st.nd,λ n ob en=>?_⟩;obtain ⟨a,k1,k2,k3⟩:=I.rs.st.ob n ob en;have hap:a≠p:=λ z=>pm (z▸Sq k1);exact ⟨a,k1,by rw [aF hap];exact k2,k3.move (SY _) g rfl λ dx d1 d2=>⟨d2,by
      rw [aF (λ z=>by rw [z,h4] at d2;cases d2)];exact d1⟩⟩
   . exact ⟨I.gs.r,I.gs.g.trans g,jK I.gs.s h4,I.gs.h,I.gs.k,λ b k1 k2=>by
      rw [aF (λ z=>k1.1 (by rw [z];exact h0))];exact I.gs.n b k1 k2,I.gs.f,I.gs.t⟩
 grind
theorem I0 (h:oh K cl E t f):oh K cl E t (Bd i f):=λ ρ0 G0 H0 ρ G σ H δ S o S' D I e p=>by
 obtain ⟨G',I'⟩:=I.frz i;exact h _ G0 H0 ρ G' σ H _ S o S' D I' e p
noncomputable def fM (c f:Str) (fo fv:DS->aq->SM W):DS->aq->SO:=λ δ S=>mj (fv δ S) λ d S1=>mj (fo δ S1) λ x S2=>(iW c x S2).bind λ p=>if p.2.length<1000 then some (.nx δ,S2.set p.1 (.ins c (fA f d p.2))) else none
theorem B6 (hc:Ap K (cl c)) (hn:NoAttr K (cl c) f) (ho:SE K cl E to fo) (hv:SE K cl E tv fv):oh K cl E (Mp K to tv f) (fM c f fo fv):=λ ρ0 G0 H0 ρ G σ H δ S o S' D I e p=>
 fq hv I e p λ d S1 e1 v ρ1 G1 H1 g1 s1 dv=>by
  have I1:=I.grow g1 s1;refine fq ho I1 e1 p λ x S2 e2 u ρ2 G2 H2 g2 s2 du=>?_;obtain ⟨⟨n,fs⟩,e3,e4⟩:=oB e2
  split at e4
  case isFalse=>cases e4
  rename_i hl;cases e4;obtain ⟨rfl,e5⟩:=kO e3;obtain ⟨a,rfl,ea⟩:=cD du;obtain ⟨ga,dx,ws,k1,k2,k3,k4⟩:=s2.addr e5 ea;have I2:=I1.grow g2 s2;have hda:dx≠a:=λ z=>by simp_all
  obtain ⟨s3,g3⟩:=s2.put (x:=.ins _ dx _) (o':=.ins c _) g2.s e5 ea (λ b z=>by cases z) ⟨dx,_,aG,k2,by rw [aF hda];exact k3,k4.putF ((dv.ext g2.r).same g2.g)⟩;exact ⟨a,_,dx,ws,rfl,k1,hc,hn,by rw [<-k4.length];exact hl,p σ _ G2 _ (I2.grow g3 s3)⟩
noncomputable def aS (h:W->DS->Option DS) (fb:DS->aq->SO):List W->DS->aq->SO
 | [],δ,S=>some (.nx δ,S)
 | d::ds,δ,S=>(h d δ).bind λ δ2=>match fb δ2 S with
  | some (.nx δ',S')=>aS h fb ds δ' S'
  | some (.ct δ',S')=>aS h fb ds δ' S'
  | some (.bk δ',S')=>some (.nx δ',S')
  | some (.rt d,S')=>some (.rt d,S')
  | some (.xc c,S')=>some (.xc c,S')
  | none=>none
noncomputable def dE (fi:DS->aq->SM (List W)) (h:W->DS->Option DS) (fb:DS->aq->SO):DS->aq->SO:=λ δ S=>mj (fi δ S) λ ds S1=>aS h fb ds δ S1
theorem BJ (hi:Od K cl E wi fi) (hg:∀ ρ,DG K ρ g h) (hb:oh K cl E tb fb):oh K cl E (JH wi g tb) (dE fi h fb):=λ ρ0 G0 H0 ρ G σ H δ S o S' D I e p=>by
 rcases qp e with ⟨c,em,rfl⟩ | ⟨ds,S1,em,e⟩
 . exact hi ρ G σ H δ S _ _ _ I.rs em (λ d hd=>by cases hd) λ c' hc ρ1 G1 H1 g1 s1=>by cases hc;exact p _ G1 H1 (I.gs.trans g1) s1
 refine hi ρ G σ H δ S _ _ _ I.rs em (λ ds' hd=>?_) λ c' hc=>by cases hc
 cases hd;intro J ρ1 G1 H1 g1 s1 it;refine ⟨λ i m σ H=>m=ds.length-i/\i<=ds.length/\∃ ρ2 G2 δ2 S2,kE K cl _ G0 H0 ρ2 G2 H δ2 σ S2/\ρ1 <+: ρ2/\bn G1 G2/\aS h fb (ds.drop i) δ2 S2=some _,⟨ds.length,by simp,Tf _,ρ1,G1,δ,S1,I.grow g1 s1,SY _,.refl _,by simpa using e⟩,?_⟩;rintro i m σ2 H2 ⟨rfl,hil,ρ2,G2,δ2,S2,I2,pr2,s2,e2⟩;have ia:=it i G2 H2 s2 I2.gs.s;by_cases hlt:i<ds.length
 . refine .inr ?_;obtain ⟨go,step⟩:=ia.1 _ (RQ _);rw [Sn hlt] at e2;obtain ⟨δ3,e3,e4⟩:=oB e2
   have turn:∀ P o1 S3,fb _ S2=some _->(∀ G3 H3,Gr G2 H2 G3 H3->FS K cl E _ G3 H0 P S3 o1)->∀ x H',J.yld i H2 x H'->g x _ H' _:=λ P o1 S3 ef hp x H' y=>by
    obtain ⟨G3,g3,dx⟩:=step x H' y;have I3:=I2.grow (.of g3) (I2.rs.st.grow g3);refine hg ρ2 G3 H' δ2 σ2 x _ δ3 _ I3.rs.rl (dx.ext pr2) e3 λ σ3 R3 o3=>?_;exact hb ρ2 G3 H0 ρ2 G3 σ3 H' δ3 S2 o1 S3 P (I3.sub R3 o3).base ef (hp G3 H' g3)
   have back:∀ {G3 H3:Hp},Gr G2 H2 G3 H3->∀ {ρ4:List Addr} {G4 H4:Hp} {σ4:St} {δ4:DS} {S4:aq},kE K cl ρ2 G3 H0 ρ4 G4 H4 δ4 σ4 S4->kE K cl ρ0 G0 H0 ρ4 G4 H4 δ4 σ4 S4/\ρ1 <+: ρ4/\bn G1 G4:=λ {G3 H3} g3 {ρ4 G4 H4 σ4 δ4 S4} I4=>⟨I4.rebase (I2.gs.trans (.of g3)),pr2.trans I4.gs.r,s2.trans (g3.g.trans I4.gs.g)⟩
   cases ef:fb δ3 S2 with
   | none=>rw [ef] at e4;cases e4
   | some r=>
    obtain ⟨o1,S3⟩:=r;rw [ef] at e4;cases o1 with
    | nx δ'=>
     exact ⟨go,λ σ' H'=>∃ ρ' G',kE K cl ρ0 G0 H0 ρ' G' H' δ' σ' S3/\ρ1 <+: ρ'/\bn G1 G',λ σ' H' hy0=>by obtain ⟨ρ',G',I',q1,q2⟩:=hy0;exact ⟨ds.length-(i+1),by omega,rfl,hlt,ρ',G',δ',S3,I',q1,q2,e4⟩,turn _ _ _ ef λ G3 H3 g3 σ5 ρ5 G5 H5 I5=>⟨ρ5,G5,back g3 I5⟩⟩
    | ct δ'=>
     exact ⟨go,λ σ' H'=>∃ ρ' G',kE K cl ρ0 G0 H0 ρ' G' H' δ' σ' S3/\ρ1 <+: ρ'/\bn G1 G',λ σ' H' hy0=>by obtain ⟨ρ',G',I',q1,q2⟩:=hy0;exact ⟨ds.length-(i+1),by omega,rfl,hlt,ρ',G',δ',S3,I',q1,q2,e4⟩,turn _ _ _ ef λ G3 H3 g3 σ5 ρ5 G5 H5 I5=>⟨ρ5,G5,back g3 I5⟩⟩
    | bk δ'=>
     cases e4;exact ⟨go,λ _ _=>False,λ _ _ z=>z.elim,turn _ _ _ ef λ G3 H3 g3 σ5 ρ5 G5 H5 I5=>p σ5 ρ5 G5 H5 (back g3 I5).1⟩
    | rt d=>
     cases e4;exact ⟨go,λ _ _=>False,λ _ _ z=>z.elim,turn _ _ _ ef λ G3 H3 g3 v ρ5 G5 H5 g5 s5 dv=>p v ρ5 G5 H5 ((I2.gs.trans (.of g3)).rebase g5) s5 dv⟩
    | xc c=>
     cases e4;exact ⟨go,λ _ _=>False,λ _ _ z=>z.elim,turn _ _ _ ef λ G3 H3 g3 ρ5 G5 H5 g5 s5=>p ρ5 G5 H5 ((I2.gs.trans (.of g3)).rebase g5) s5⟩
 . have hi':i=ds.length:=by omega
   subst hi';rw [Uj] at e2;cases e2;exact .inl ⟨ia.2 (Ry _),p σ2 ρ2 G2 H2 I2⟩
noncomputable def cB (c:DS->aq->SM Bool) (fb:DS->aq->SO):Nat->DS->aq->SO
 | 0,_,_=>none
 | n+1,δ,S=>mj (c δ S) λ b S1=>if b=true then match fb δ S1 with
  | some (.nx δ',S')=>cB c fb n δ' S'
  | some (.ct δ',S')=>cB c fb n δ' S'
  | some (.bk δ',S')=>some (.nx δ',S')
  | some (.rt d,S')=>some (.rt d,S')
  | some (.xc x,S')=>some (.xc x,S')
  | none=>none
  else some (.nx δ,S1)
theorem vL {n:Nat} {tc:TT} {tb:TS} {c:DS->aq->SM Bool} {fb:DS->aq->SO} (hc:ST K cl E tc c) (hb:oh K cl E tb fb):oh K cl E (CU tc tb) (cB c fb n):=λ ρ0 G0 H0 ρ G σ H δ S o S' D I e p=>by
 refine ⟨λ m σ H=>∃ ρ G δ S,kE K cl ρ0 G0 H0 ρ G H δ σ S/\cB c fb m δ S=some (o,S'),⟨n,ρ,G,δ,S,I,e⟩,?_⟩;rintro m σ2 H2 ⟨ρ2,G2,δ2,S2,I2,e2⟩;cases m with
 | zero=>cases e2
 | succ m=>
  refine yU hc I2 e2 p λ b S3 e3 ρ3 G3 H3 g3 s3=>?_;have I3:=I2.grow g3 s3;cases b with
  | false=>cases e3;exact p σ2 ρ3 G3 H3 I3
  | true=>
   rw [Rt rfl] at e3 ⊢;cases ef:fb δ2 S3 with
   | none=>rw [ef] at e3;cases e3
   | some r=>
    obtain ⟨o1,S4⟩:=r;rw [ef] at e3;cases o1 with
    | nx δ'=>exact ⟨λ σ' H'=>∃ ρ' G',kE K cl ρ0 G0 H0 ρ' G' H' δ' σ' S4,λ σ' H' hy0=>by obtain ⟨ρ',G',I'⟩:=hy0;exact ⟨m,SG _,ρ',G',δ',S4,I',e3⟩,hb ρ0 G0 H0 ρ3 G3 σ2 H3 δ2 S3 _ _ _ I3 ef λ σ5 ρ5 G5 H5 I5=>⟨ρ5,G5,I5⟩⟩
    | ct δ'=>exact ⟨λ σ' H'=>∃ ρ' G',kE K cl ρ0 G0 H0 ρ' G' H' δ' σ' S4,λ σ' H' hy0=>by obtain ⟨ρ',G',I'⟩:=hy0;exact ⟨m,SG _,ρ',G',δ',S4,I',e3⟩,hb ρ0 G0 H0 ρ3 G3 σ2 H3 δ2 S3 _ _ _ I3 ef λ σ5 ρ5 G5 H5 I5=>⟨ρ5,G5,I5⟩⟩
    | bk δ'=>cases e3;exact ⟨λ _ _=>False,λ _ _ z=>z.elim,hb ρ0 G0 H0 ρ3 G3 σ2 H3 δ2 S3 _ _ _ I3 ef λ σ5 ρ5 G5 H5 I5=>p σ5 ρ5 G5 H5 I5⟩
    | rt d=>cases e3;exact ⟨λ _ _=>False,λ _ _ z=>z.elim,hb ρ0 G0 H0 ρ3 G3 σ2 H3 δ2 S3 _ _ _ I3 ef p⟩
    | xc x=>cases e3;exact ⟨λ _ _=>False,λ _ _ z=>z.elim,hb ρ0 G0 H0 ρ3 G3 σ2 H3 δ2 S3 _ _ _ I3 ef p⟩
noncomputable def eF:SO->SM W
 | some (.rt d,S)=>some (.ok d,S)
 | some (.nx _,S)=>some (.ok .none,S)
 | some (.xc c,S)=>some (.xc c,S)
 | _=>none
noncomputable def bJ (a n:Nat) (fb:DS->aq->SO):List W->aq->SM W:=λ ds S=>if ds.length=a then eF (fb (dg n ds) S) else none
theorem sf (h:bJ a n fb ds S=some r):ds.length=a:=by
 unfold bJ at h
 simp_all
theorem Ph (hn:N.length=n) (h:oh K cl E t fb) (hsp:N4 K cl (bJ a n fb) vs H Q E):t { nx:=λ _ H'=>Q .non H',rt:=Q } (start N vs) H:=by
 subst hn;obtain ⟨ρ,G,S,ds,r,S',s,sr,da,e,q,qx⟩:=hsp;have R:=vU (N:=N) s da;have I:kE K cl ρ G H ρ G H _ _ S:=⟨⟨R,sr,λ i ds' p h1=>absurd h1 iJ⟩,.refl s,λ i p ds' h1=>absurd h1 iJ⟩
 unfold bJ at e;rw [Rt (sf (show bJ a _ fb ds S=some _ from e))] at e;cases ef:fb _ S with
 | none=>rw [ef] at e;cases e
 | some o=>
  obtain ⟨o,S1⟩:=o;rw [ef] at e;refine h ρ G H ρ G _ H _ S o S1 _ I ef ?_;cases o with
  | nx δ=>cases e;exact λ σ' ρ' G' H' I'=>q _ rfl _ _ G' H' I'.gs I'.rs.st .non
  | rt d'=>cases e;exact λ v ρ' G' H' g s dv=>q _ rfl v _ G' H' g s dv
  | xc c=>cases e;exact λ ρ' G' H' g s=>qx _ rfl _ G' H' g s
  | bk _=>cases e
  | ct _=>cases e
theorem FU {f:List W->aq->SM W} (hf:∀ ds S r,f ds S=some r->ds.length=a) (h:k8 K cl f vs H Q E):vs.length=a:=by
 obtain ⟨ρ,G,S,ds,r,S',s,sr,da,e,q⟩:=h;rw [da.length]
 grind
theorem MG (hn:N.length=n) (h:oh K cl E0 t fb) (hsp:k8 K cl (bJ a n fb) vs H Q E):t { nx:=λ _ H'=>Q .non H',rt:=Q } (start N vs) H:=by
 obtain ⟨ρ,G,S,ds,d,S',s,sr,da,e,q⟩:=hsp;exact Ph  hn h ⟨ρ,G,S,ds,.ok d,S',s,sr,da,e,λ d' hd=>by grind,(λ c hc=>by cases hc)⟩
theorem Bw {g:List W->aq->SM W} (hg:∀ ds S,g ds S=none) (h:k8 K cl g vs H Q E):False:=by
 obtain ⟨ρ,G,S,ds,r,S',s,sr,da,e,q⟩:=h
 simp_all
theorem eP.no0 {g:List W->aq->SM W} (hg:∀ ds S,g ds S=none):eP P w K mg base CX k f fd ps (k8 K cl g):=
 ⟨λ _ _ _ _ h=>(Bw hg h).elim,λ _ _ _ _ _ _ _ _ _ _ _ _ _ h=>(Bw hg h).elim⟩
end
section
variable {X:Cx} {pins:List (Addr×Obj)} {σ:St} {H:Hp} {s:Shared} {a:Addr} {kvs:List (b8×V)} {k:b8} {u:Value} {A:Around} {E:Value->Shared->Prop}
end
section
variable {X:Cx} {o e f:Expr} {td ty tx:TE} {apos cpos:Pos}
end
section
variable {prog:Program} {w:World} {A:Around} {E:Value->Shared->Prop} {s:Shared}
end
section
variable {X:Cx} {pos:Pos}
end
section
variable {K:Frag} {ρ:List Addr}
noncomputable def N1:W->Option V
 | .none=>some .non
 | .bool b=>some (.bl b)
 | .int i=>some (.int i)
 | .str x=>some (.str x)
 | _=>none
noncomputable def Av:List W->Option (List V)
 | []=>some []
 | d::ds=>(N1 d).bind λ v=>(Av ds).map (v::·)
theorem yd (h:Dw K ρ H v d) (e:N1 d=some u):v=u/\gz u=true:=by
 cases h <;> first | (cases e;exact ⟨rfl,rfl⟩) | cases e
theorem uj (h:aC K ρ H vs ds):Av ds=some us->vs=us/\us.all gz=true:=
 h.ind (M:=λ vs ds=>∀ us,Av ds=some us->vs=us/\us.all _=true) (λ us e=>by cases e;simp_all) (λ _ _ _ _ a ih us e=>by
  obtain ⟨u,e1,e⟩:=oB e
  obtain ⟨us,e2,rfl⟩:=oM e
  obtain ⟨h1,h2⟩:=yd a e1
  simp_all) us
noncomputable def fY (d e:W):Option Bool:=(v6 e).bind λ ds=>(N1 d).bind λ v=>(Av ds).map λ vs=>Jo v vs
noncomputable def iD (d e:W):Option Bool:=(fY d e).map (!·)
theorem Cc {H:Hp} {x y:V} {d e:W} {b:Bool} (hx:Dw K ρ H x d) (hy:Dw K ρ H y e) (h:fY d e=some b):∃ p xs,y=.ref p/\(cG K H p xs∨eZ K H p xs)/\gz x=true/\xs.all gz=true/\Jo x xs=b:=by
 obtain ⟨ds,e1,h⟩:=oB h
 obtain ⟨v,e2,h⟩:=oB h
 obtain ⟨vs,e3,rfl⟩:=oM h
 obtain ⟨rfl,f1⟩:=yd hx e2;cases hy with
 | lst sq da=>
  cases e1;obtain ⟨rfl,f2⟩:=uj da e3;exact ⟨_,_,rfl,.inl sq,f1,f2,rfl⟩
 | tup sq da=>
  cases e1;obtain ⟨rfl,f2⟩:=uj da e3;exact ⟨_,_,rfl,.inr (eZ.of sq),f1,f2,rfl⟩
 | _=>cases e1
theorem L8:DB K ρ (E1 K false) fY:=λ H x y d e b Q hx hy hg q=>by
 obtain ⟨p,xs,h1,h2,h3,h4,rfl⟩:=Cc hx hy hg;exact ⟨p,xs,h1,h2,h3,h4,q⟩
end
section
variable {K:Frag} {cl:Str->Addr} {E:XK}
noncomputable def fH (x:W) (S:aq):Option (Nat×List W):=match eK x S with
 | some (n,.lst ds)=>some (n,ds)
 | _=>none
theorem cM (h:fH x S=some (n,ds)):x=.ref n/\S[n]?=some (.lst ds):=by
 unfold fH at h;cases e:eK x S with
 | none=>simp_all
 | some p=>
  obtain ⟨m,o⟩:=p;rw [e] at h;cases o with
  | lst ds=>cases h;exact dH e
  | _=>cases h
noncomputable def QV (x:W) (S:aq):Option (List W):=match fH x S with
 | some (_,ds)=>some ds
 | none=>v6 x
noncomputable def Lz (x y:W) (S:aq):Option W:=match fH x S with
 | some (_,ds)=>(Mb y).bind λ i=>jS ds i
 | none=>aO x y
noncomputable def sIx (fa fb:DS->aq->SM W):DS->aq->SM W:=λ δ S=>aw (fa δ S) λ x S1=>aw (fb δ S1) λ y S2=>qN (Lz x y S2) S2
noncomputable def Bc (x:W) (S:aq):Option W:=match fH x S with
 | some (_,ds)=>some (.int ds.length)
 | none=>jR x
noncomputable def JL (fa:DS->aq->SM W):DS->aq->SM W:=λ δ S=>aw (fa δ S) λ x S1=>qN (Bc x S1) S1
theorem IN (ha:SE K cl E ta fa):SE K cl E (tN (yN K) (dj ta gN)) (JL fa):=λ ρ G σ H δ S r' S' Q R e q qx=>
 ci ha R e (λ x S2 e2 v ρ2 G2 H2 g2 s2 dv=>by
  obtain ⟨c,e3,rfl,rfl⟩:=bU e2;unfold Bc at e3;split at e3
  . rename_i n ds e4;cases e3;obtain ⟨rfl,e7⟩:=cM e4;obtain ⟨a,rfl,ea⟩:=cD dv;obtain ⟨ga,vs,k1,k2⟩:=s2.addr e7 ea;exact .inl ⟨a,vs,rfl,.inl (cG.of k1),by rw [k2.length];exact q _ rfl _ _ G2 H2 g2 s2 (.int _)⟩
  . exact Ev G2 H2 v x c Q g2.s (.inl dv) e3 λ w G3 H3 g3 dw=>q c rfl w _ G3 H3 (g2.trans (.of g3)) (s2.grow g3) dw) qx
noncomputable def N8 (g:W->Option W) (fa:DS->aq->SM W):DS->aq->SM W:=λ δ S=>aw (fa δ S) λ x S1=>qN (g x) S1
theorem LX (hr:∀ ρ,MY K ρ r g) (ha:SE K cl E ta fa):SE K cl E (tN r (dj ta gN)) (N8 g fa):=λ ρ G σ H δ S r' S' Q R e q qx=>
 ci ha R e (λ x S2 e2 v ρ2 G2 H2 g2 s2 dv=>by
  obtain ⟨c,e3,rfl,rfl⟩:=bU e2;exact hr _ G2 H2 v x c Q g2.s (.inl dv) e3 λ w G3 H3 g3 dw=>q c rfl w _ G3 H3 (g2.trans (.of g3)) (s2.grow g3) dw) qx
noncomputable def z7 (T:String) (x:W) (S:aq):Option W:=match fH x S with
 | some _=>if T = "list" then some (.bool true) else none
 | none=>match x with
  | .list _=>if T = "list" then some (.bool true) else none
  | .tuple _=>if T = "tuple" then some (.bool true) else none
  | _=>rp T x
noncomputable def D6 (K:Frag):List V->Hp->VK->Prop:=λ xs H Q=>Fn xs H Q∨Ie K xs H Q∨HA K xs H Q
theorem AO (h:X.K=K):bN X (.builtin "isinstance") (D6 K):=rQ.or ((xz h).or (xN h))
noncomputable def OT (T:String) (fa:DS->aq->SM W):DS->aq->SM W:=λ δ S=>aw (fa δ S) λ x S1=>qN (z7 T x S1) S1
theorem wu (c:Value) (h:(c==c)=true):PySem.W.kitOne K c c=some true:=by
 unfold PySem.W.kitOne
 grind
noncomputable def qh (fo fv:DS->aq->SM W):DS->aq->SO:=λ δ S=>mj (fo δ S) λ x S1=>if (fH x S1).isSome=true then mj (fv δ S1) λ d S2=>(fH x S2).bind λ p=>if p.2.length<sizeLine then some (.nx δ,S2.set p.1 (.lst (p.2++[d]))) else none else none
theorem lY {ρ ρ':List Addr} {n:Nat} {a:Addr} (h:ρ <+: ρ') (e:ρ[n]?=some a):ρ'[n]?=some a:=by
 obtain ⟨t,rfl⟩:=h;rw [RR (oG e).1];exact e
theorem sn (ho:SE K cl E to fo) (hv:SE K cl E tv fv):oh K cl E (qz (HE K "list" oW to (dj tv gN))) (qh fo fv):=λ ρ0 G0 H0 ρ G σ H δ S o S' D I e p=>
 fq ho I e p λ x S1 e1 u ρ1 G1 H1 g1 s1 du=>by
  split at e1
  case isFalse=>cases e1
  rename_i hx;obtain ⟨⟨n,ds0⟩,hx0⟩:=TW.mp hx;obtain ⟨rfl,h0⟩:=cM hx0;obtain ⟨a,rfl,ea⟩:=cD du;obtain ⟨_,vs0,k0,_⟩:=s1.addr h0 ea;have I1:=I.grow g1 s1;refine ⟨.inl ⟨rfl,vs0,cG.of k0⟩,fq hv I1 e1 p λ d S2 e2 v ρ2 G2 H2 g2 s2 dv=>?_⟩;obtain ⟨⟨m,ds⟩,e3,e4⟩:=oB e2
  split at e4
  case isFalse=>cases e4
  rename_i hl;cases e4;obtain ⟨em,e5⟩:=cM e3;cases em;have ea2:=lY g2.r ea;obtain ⟨ga,vs,k1,k2⟩:=s2.addr e5 ea2;obtain ⟨s3,g3⟩:=s2.put  (o':=.lst _) g2.s e5 ea2 (λ b z=>by cases z) ⟨_,aG,k2.app (.cons dv .nil)⟩;exact ⟨a,vs,v,rfl,rfl,k1,by rw [k2.length];exact hl,p σ _ G2 _ ((I1.grow g2 s2).grow g3 s3)⟩
noncomputable def ky:W->Option b8
 | .int i=>some (Sum.inl i)
 | .str x=>some (Sum.inr x)
 | _=>none
theorem pD (h:Dw K ρ G v d) (e:ky d=some k):v=kV k:=by
 cases h <;> first | (cases e;rfl) | cases e
noncomputable def p8 (x:W) (S:aq):Option (Nat×List (b8×W)):=match eK x S with
 | some (n,.dK kvs)=>some (n,kvs)
 | _=>none
theorem jM (h:p8 x S=some (n,kvs)):x=.ref n/\S[n]?=some (.dK kvs):=by
 unfold p8 at h;split at h
 . rename_i n' ds' e;cases h;exact dH e
 . cases h
noncomputable def aL {κ:Type} [DecidableEq κ] (kvs:List (κ×W)) (k:κ):Option W:=(kvs.find? λ kv=>decide (kv.1=k)).map (·.2)
noncomputable def bo {κ:Type} [DecidableEq κ] (kvs:List (κ×W)) (k:κ) (v:W):List (κ×W):=if (kvs.any λ kv=>decide (kv.1=k))=true then kvs.map λ kv=>if kv.1=k then (kv.1,v) else kv else kvs++[(k,v)]
theorem je.val [DecidableEq κ] {ρ:List Addr} {G:Hp} {k:κ}:∀ {l:List (κ×W)} {m:List (κ×V)},je K ρ G l m->(∀ d,aL l k=some d->∃ v,jO m k=some v/\Dw K ρ G v d)/\(aL l k=none->jO m k=none):=λ q=>by
 induction q with
 | nil=>exact ⟨(λ d e=>by cases e),λ _=>rfl⟩
 | @cons j x0 v0 l m a b ih=>
  obtain ⟨h1,h2⟩:=ih;by_cases hj:j=k
  . subst hj;refine ⟨λ d e=>?_,λ e=>?_⟩
    . have e':aL ((j,x0)::l) j=some x0:=by simp [aL,Si]
      rw [e'] at e;cases e;exact ⟨_,lI rfl,a⟩
    . simp [aL,Si] at e
  . refine ⟨λ d e=>?_,λ e=>?_⟩
    . rw [jd hj];exact h1 d (by simpa [aL,  hj] using e)
    . rw [jd hj];exact h2 (by simpa [aL,  hj] using e)
theorem je.any [DecidableEq κ] {ρ:List Addr} {G:Hp} {k:κ}:∀ {l:List (κ×W)} {m:List (κ×V)},je K ρ G l m->(l.any λ kv=>decide (kv.1=k))=m.any λ kv=>decide (kv.1=k):=λ q=>by
 induction q with
 | nil=>rfl
 | cons a b ih=>simp_all
theorem je.repl [DecidableEq κ] {ρ:List Addr} {G:Hp} {k:κ} {v:V} {d:W} (h:Dw K ρ G v d):∀ {l:List (κ×W)} {m:List (κ×V)},je K ρ G l m->je K ρ G (l.map λ kv=>if kv.1=k then (kv.1,d) else kv) (m.map λ kv=>if kv.1=k then (kv.1,v) else kv):=λ q=>by
 induction q with
 | nil=>exact .nil
 | @cons j d0 v0 l m a b ih=>
  rw [RU,RU];by_cases hj:j=k
  . simp only [Rt hj];exact .cons h ih
  . simp only [RJ hj];exact .cons a ih
theorem je.snoc (h:Dw K ρ G v d):∀ {l:List (κ×W)} {m:List (κ×V)},je K ρ G l m->je K ρ G (l++[(k,d)]) (m++[(k,v)]):=λ q=>by
 induction q with
 | nil=>exact .cons h .nil
 | cons a _ ih=>exact .cons a ih
theorem je.put [DecidableEq κ] {ρ:List Addr} {G:Hp} {k:κ} {v:V} {d:W} (h:Dw K ρ G v d) {l:List (κ×W)} {m:List (κ×V)} (r:je K ρ G l m):je K ρ G (bo l k d) (lE m k v):=by
 unfold bo lE;rw [r.any];split
 . exact r.repl h
 . exact r.snoc h
noncomputable def pk (S:aq) (n:Nat):Option (List W):=match S[n]? with
 | some (.lst ds)=>some ds
 | _=>none
noncomputable def Af (f:W->Option PyData):List W->Option (List PyData)
 | []=>some []
 | d::ds=>(f d).bind λ x=>(Af f ds).map (x::·)
noncomputable def Lm (S:aq):Nat->W->Option PyData
 | 0,_=>none
 | n+1,d=>match d with
  | .list ds=>(Af (Lm S n) ds).map .list
  | .tuple ds=>(Af (Lm S n) ds).map .tuple
  | .ref m=>(pk S m).bind λ ds=>(Af (Lm S n) ds).map .list
  | d=>d.py
theorem uR (hf:∀ v d x,Dw K ρ G v d->f d=some x->Dp K H v x) (h:aC K ρ G vs ds):Af f ds=some xs->nF K H vs xs:=
 h.ind (M:=λ vs ds=>∀ xs,Af f ds=some xs->nF K H vs xs) (λ xs e=>by cases e;exact .nil) (λ _ _ _ _ a ih xs e=>by
  obtain ⟨x,e1,e⟩:=oB e
  obtain ⟨ys,e2,rfl⟩:=oM e
  exact .cons (hf _ _ _ a e1) (ih _ e2)) xs
theorem kP (sg:bn G H) (s:SR K ρ cl G H S):∀ (n:Nat) (v:V) (d:W) (x:PyData),Dw K ρ G v d->Lm S n d=some x->Dp K H v x
 | 0,_,_,_,_,e=>by cases e
 | n+1,v,d,x,h,e=>by
  cases h with
  | lst sq da=>
   obtain ⟨xs,e1,rfl⟩:=oM e
   exact .lst (sg.seq sq) (uR (λ v d x=>kP sg s n v d x) da e1)
  | tup sq da=>
   obtain ⟨xs,e1,rfl⟩:=oM e
   exact .tup (sg.tup (eZ.of sq)) (uR (λ v d x=>kP sg s n v d x) da e1)
  | ref ea=>
   obtain ⟨ds,e1,e2⟩:=oB e
   obtain ⟨xs,e3,rfl⟩:=oM e2
   unfold pk at e1;split at e1
   . rename_i ds' h1;cases e1;obtain ⟨ga,vs,k1,k2⟩:=s.addr h1 ea;exact .lst (cG.of k1) (uR (λ v d x=>kP sg s n v d x) k2 e3)
   . cases e1
  | non=>exact Dw.dp (ρ:=ρ) .non e
  | bl b=>exact Dw.dp (ρ:=ρ) (.bl b) e
  | int i=>exact Dw.dp (ρ:=ρ) (.int i) e
  | str y=>exact Dw.dp (ρ:=ρ) (.str y) e
noncomputable def GB (neg:Bool) (d e:W) (S:aq):Option Bool:=match LS d e with
 | some b=>some (if neg then !b else b)
 | none=>(Lm S 24 d).bind λ a=>(Lm S 24 e).bind λ b=>if (a.canLay0&&b.canLay0&&decide (a.depth<=64))=true then some (if neg then !(PyData.eqv a b) else PyData.eqv a b) else none
noncomputable def Mx (K:Frag) (neg:Bool):R2:=if neg then JM K else Ki K
noncomputable def MS (neg:Bool) (fa fb:DS->aq->SM W):DS->aq->SM Bool:=λ δ S=>aw (fa δ S) λ x S1=>aw (fb δ S1) λ y S2=>qN (GB neg x y S2) S2
theorem D7 (sg:bn G H) (s:SR K ρ cl G H S) (dv:Dw K ρ G v x) (du:Dw K ρ G u y) (h:GB neg x y S=some b) (q:Q (.bl b) H):Mx K neg v u H Q:=by
 unfold GB at h;split at h
 . rename_i b' hb;cases h;obtain ⟨h1,h2⟩:=xO (dv.same sg) (du.same sg) hb;cases neg with
   | false=>exact .inl ⟨h1,by simp_all⟩
   | true=>exact .inl ⟨h1,by simp_all⟩
 . obtain ⟨a,ea,h⟩:=oB h
   obtain ⟨c,ec,h⟩:=oB h
   split at h
   . rename_i hc;cases h;simp only [RY,R5] at hc;cases neg with
     | false=>exact .inr ⟨a,c,kP sg s 24 _ _ _ dv ea,kP sg s 24 _ _ _ du ec,hc.1.1,hc.1.2,hc.2,q⟩
     | true=>exact .inr ⟨a,c,kP sg s 24 _ _ _ dv ea,kP sg s 24 _ _ _ du ec,hc.1.1,hc.1.2,hc.2,q⟩
   . cases h
theorem LL (ha:SE K cl E ta fa) (hb:SE K cl E tb fb):ST K cl E (pN (w4 (Mx K neg) ta tb)) (MS neg fa fb):=λ ρ G σ H δ S r' S' Q R e q qx=>
 tO ha hb R e (λ x y S2 e2 v u ρ2 G2 H2 g2 s2 dv du=>by
  obtain ⟨c,e3,rfl,rfl⟩:=bU e2;exact D7 g2.s s2 dv du e3 ⟨c,rfl,q c rfl _ G2 H2 g2 s2⟩) qx
end
section
variable {K:Frag} {cl:Str->Addr} {E:XK}
noncomputable def OH (f:DS->aq->SM W):DS->aq->SM Bool:=λ δ S=>aw (f δ S) λ x S1=>qN (E6 x) S1
noncomputable def y8 (f g:DS->aq->SM W):DS->aq->SM W:=λ δ S=>aw (f δ S) λ x S1=>(E6 x).bind λ b=>if b=true then g δ S1 else some (.ok (.bool false),S1)
noncomputable def CA (f g:DS->aq->SM W):DS->aq->SM W:=λ δ S=>aw (f δ S) λ x S1=>(E6 x).bind λ b=>if b=true then some (.ok (.bool true),S1) else g δ S1
noncomputable def MM (f:DS->aq->SM W):DS->aq->SM W:=λ δ S=>aw (f δ S) λ x S1=>(E6 x).map λ b=>(.ok (.bool (!b)),S1)
theorem JV (h1:SE K cl E t f) (h2:SE K cl E u g):SE K cl E (Di t u) (y8 f g):=λ ρ G σ H δ S r S' Q R e q qx=>
 ci h1 R e (λ x S1 e1 v ρ1 G1 H1 g1 s1 dv=>by
  obtain ⟨b,e2,e3⟩:=oB e1
  cases p9 e2;cases Hq dv;refine ⟨b,rfl,?_⟩;cases b with
  | true=>exact h2 _ G1 σ H1 δ S1 r S' Q (R.grow g1 s1) e3 (λ d hd v ρ2 G2 H2 g2 s2 dv=>q d hd v _ G2 H2 (g1.trans g2) s2 dv) λ c hc ρ2 G2 H2 g2 s2=>qx c hc _ G2 H2 (g1.trans g2) s2
  | false=>grind) qx
theorem Nk (h1:SE K cl E t f) (h2:SE K cl E u g):SE K cl E (Ms t u) (CA f g):=λ ρ G σ H δ S r S' Q R e q qx=>
 ci h1 R e (λ x S1 e1 v ρ1 G1 H1 g1 s1 dv=>by
  obtain ⟨b,e2,e3⟩:=oB e1
  cases p9 e2;cases Hq dv;refine ⟨b,rfl,?_⟩;cases b with
  | false=>exact h2 _ G1 σ H1 δ S1 r S' Q (R.grow g1 s1) e3 (λ d hd v ρ2 G2 H2 g2 s2 dv=>q d hd v _ G2 H2 (g1.trans g2) s2 dv) λ c hc ρ2 G2 H2 g2 s2=>qx c hc _ G2 H2 (g1.trans g2) s2
  | true=>grind) qx
theorem xK {S:aq} {n:Nat} {ds:List W} (h:pk S n=some ds):S[n]?=some (.lst ds):=by
 unfold pk at h;split at h
 . rename_i e;cases h;exact e
 . cases h
inductive Kd where
 | l
 | e
 | d (m:Nat)
 | i (m:Nat)
noncomputable def x8:b8->W
 | .inl i=>.int i
 | .inr x=>.str x
noncomputable def fO (S:aq) (n:Nat×Kd):Option (List W):=match n.2 with
 | .l=>pk S n.1
 | .e=>(pk S n.1).map kh
 | .d m=>(p8 (.ref n.1) S).bind λ p=>if p.2.length=m then some (p.2.map λ e=>x8 e.1) else none
 | .i m=>(p8 (.ref n.1) S).bind λ p=>if p.2.length=m then some (p.2.map λ e=>.tuple [x8 e.1,e.2]) else none
noncomputable def Ox (K:Frag) (cl:Str->Addr) (ρ:List Addr) (J:It) (n:Nat×Kd):Prop:=
 ∀ (i:Nat) (ρ1:List Addr) (G1 H1:Hp) (S1:aq) (es:List W),ρ <+: ρ1->bn G1 H1->SR K ρ1 cl G1 H1 S1->fO S1 n=some es->Jt K ρ1 J es i G1 H1
noncomputable def N5 (K:Frag) (cl:Str->Addr) (E:XK) (wi:TI) (f:DS->aq->SM (Nat×Kd)):Prop:=
 ∀ (ρ:List Addr) (G:Hp) (σ:St) (H:Hp) (δ:DS) (S:aq) (r:Rs (Nat×Kd)) (S':aq) (R':It->Hp->Prop),RS K cl ρ G H δ σ S->f δ S=some (r,S')->
  (∀ n,r=.ok n->∀ J ρ' G' H',GS ρ G H ρ' G' H'->SR K ρ' cl G' H' S'->Ox K cl ρ' J n->R' J H')->
  (∀ c,r=.xc c->∀ ρ' G' H',GS ρ G H ρ' G' H'->SR K ρ' cl G' H' S'->E (.ref (cl c)) none H')->wi σ H R'
noncomputable def wV (f:DS->aq->SM W):DS->aq->SM (Nat×Kd):=λ δ S=>aw (f δ S) λ x S1=>(fH x S1).map λ p=>(.ok (p.1,.l),S1)
theorem E9 (h:SE K cl E t f):N5 K cl E (BO K t) (wV f):=λ ρ G σ H δ S r S' R' R e q qx=>
 ci h R e (λ x S1 e1 v ρ1 G1 H1 g1 s1 dv=>by
  obtain ⟨⟨n,ds⟩,e2,e3⟩:=oM e1
  cases e3;obtain ⟨rfl,e4⟩:=cM e2;obtain ⟨a,rfl,ea⟩:=cD dv;obtain ⟨ga,vs,k1,k2⟩:=s1.addr e4 ea;refine ⟨a,rfl,.inl ⟨⟨vs,cG.of k1⟩,q _ rfl _ _ G1 H1 g1 s1 λ i ρ2 G2 H2 S2 es pr s2 sr he=>?_⟩⟩;obtain ⟨ga2,vs2,m1,m2⟩:=sr.addr (xK he) (lY pr ea);exact tW s2 (cG.of m1) m2) qx
noncomputable def pH (n:Nat×Kd) (h:W->DS->Option DS) (fb:DS->aq->SO):Nat->Nat->DS->aq->SO
 | 0,_,_,_=>none
 | f+1,i,δ,S=>(fO S n).bind λ es=>match es[i]? with
  | none=>some (.nx δ,S)
  | some d=>(h d δ).bind λ δ2=>match fb δ2 S with
   | some (.nx δ',S')=>pH n h fb f (i+1) δ' S'
   | some (.ct δ',S')=>pH n h fb f (i+1) δ' S'
   | some (.bk δ',S')=>some (.nx δ',S')
   | some (.rt d,S')=>some (.rt d,S')
   | some (.xc c,S')=>some (.xc c,S')
   | none=>none
noncomputable def JF (m:Nat) (fi:DS->aq->SM (Nat×Kd)) (h:W->DS->Option DS) (fb:DS->aq->SO):DS->aq->SO:=λ δ S=>mj (fi δ S) λ n S1=>pH n h fb m 0 δ S1
theorem RS.lift (hx:CO ix=true) (R:RS K cl ρ G H δ σ S):RS K cl ρ G H (dI ix δ) (lift ix σ) S:=
 ⟨R.rl.lift hx,R.st,λ j ds p h1 h2=>by
  obtain ⟨o,k1,k2⟩:=mO h1;cases o with
  | none=>cases k2
  | some i=>
   have k3:δ[i]?=some (.own ds):=by
    cases e:δ[i]? with
    | none=>simp [qS,e] at k2
    | some s=>simp [qS,e] at k2;rw [k2]
   rw [pM k1] at h2;simp only [NB] at h2;split at h2
   . rename_i w e;exact R.ap i ds p k3 (by simp_all)
   . cases h2⟩
end
section
variable {K:Frag} {cl:Str->Addr} {E:XK}
noncomputable def bE (n:Nat×Kd) (h:W->DS->Option DS) (c:DS->aq->SM Bool) (fe:DS->aq->SM W) (δ:DS):Nat->Nat->aq->SM (List W)
 | 0,_,_=>none
 | f+1,i,S=>(fO S n).bind λ es=>match es[i]? with
  | none=>some (.ok [],S)
  | some d=>(h d δ).bind λ δ2=>aw (c δ2 S) λ b S1=>if b=true then aw (fe δ2 S1) λ e S2=>aw (bE n h c fe δ f (i+1) S2) λ es S3=>some (.ok (e::es),S3) else bE n h c fe δ f (i+1) S1
noncomputable def kM (m:Nat) (ix:List (Option Nat)) (fi:DS->aq->SM (Nat×Kd)) (h:W->DS->Option DS) (c:DS->aq->SM Bool) (fe:DS->aq->SM W):DS->aq->SM W:=λ δ S=>
 aw (fi δ S) λ n S0=>if m<=sizeLine then aw (bE n h c fe (dI ix δ) m 0 S0) λ es S1=>some (.ok (.list es),S1) else none
theorem C3
 (hx:CO ix=true) (hi:N5 K cl E wi fi) (hg:∀ ρ,DG K ρ g h) (hc:ST K cl E tc c) (he:SE K cl E te fe):SE K cl E (pE ix wi g tc te) (kM m ix fi h c fe):=λ ρ G σ H δ S r S' Q R e q qx=>by
 rcases bz e with ⟨c0,em,rfl⟩ | ⟨n,S0,em,e⟩
 . exact hi ρ G σ H δ S _ _ _ R em (λ d hd=>by cases hd) λ c' hc=>by grind
 split at e
 case isFalse=>cases e
 refine hi ρ G σ H δ S _ _ _ R em (λ n' hn=>?_) λ c' hc=>by cases hc
 cases hn;intro J ρ1 G1 H1 gs1 sr1 it;have R1:=R.grow gs1 sr1;refine ⟨λ i k ys H2=>k+i=m/\ys.length<=i/\∃ ρ2 G2 as S2,GS _ G1 H1 ρ2 G2 H2/\SR K ρ2 cl G2 H2 S2/\aC K ρ2 G2 ys as/\aw (bE n h c fe _ k i S2) (λ es S1=>some (.ok (.list (as++es)),S1))=some (r,S'),⟨m,by simp,Ry _,ρ1,G1,[],S0,.refl gs1.s,R1.st,.nil,by simpa using e⟩,?_⟩;rintro i k ys H2 ⟨hk,hyl,ρ2,G2,as,S2,g2,s2,da,eb⟩;have R2:=R1.grow g2 s2;have g12:=gs1.trans g2;cases k with
 | zero=>cases eb
 | succ k=>
  have eb0:∃ es0,fO S2 n=some es0:=by
   cases hl:fO S2 n with
   | none=>simp only [bE,hl] at eb;cases eb
   | some es0=>simp_all
  obtain ⟨es0,hl⟩:=eb0;have ia:=it i ρ2 G2 H2 S2 es0 g2.r g2.s s2 hl;cases hd:es0[i]? with
  | none=>
   refine .inl ⟨ia.2 (List.getElem?_eq_none_iff.mp hd),by omega,λ p hp=>?_⟩;simp only [bE,hl,RG,hd,aw,Sa] at eb;cases eb;have nn:Nw H2 (cH H2 p (.lst ys)) p (.lst ys):=.of hp;have g3:=Gr.nw g2.s nn;exact q _ rfl _ ρ2 _ _ (g12.trans (.of g3)) (s2.grow g3) (.lst (cG.of aG) (da.same g3.g))
  | some d0=>
   refine .inr ?_;obtain ⟨go,step⟩:=ia.1 d0 hd;have eb':∃ δ2,h d0 (dI ix δ)=some δ2/\aw (aw (c δ2 S2) λ b S1=>if b=true then aw (fe δ2 S1) λ e S2=>aw (bE n h c fe (dI ix δ) k (i+1) S2) λ es S3=>some (.ok (e::es),S3) else bE n h c fe (dI ix δ) k (i+1) S1) (λ es S1=>some (.ok (.list (as++es)),S1))=some (r,S'):=by
    simp only [bE,hl,RG,hd] at eb;cases e2:h d0 (dI ix δ) with
    | none=>rw [e2] at eb;cases eb
    | some δ2=>rw [e2] at eb;exact ⟨δ2,rfl,eb⟩
   obtain ⟨δ2,e2,e3⟩:=eb';refine ⟨go,by omega,λ ys' H'=>ys'.length<=i+1/\∃ ρ3 G3 as' S3,GS ρ1 G1 H1 ρ3 G3 H'/\SR K ρ3 cl G3 H' S3/\aC K ρ3 G3 ys' as'/\aw (bE n h c fe (dI ix δ) k (i+1) S3) (λ es S1=>some (.ok (.list (as'++es)),S1))=some (r,S'),λ ys' H' hy0=>by obtain ⟨l,z⟩:=hy0;exact ⟨k,SG _,by omega,l,z⟩,λ x H' y=>?_⟩;obtain ⟨G3,g3,dx⟩:=step x H' y;have gs3:GS ρ2 G2 H2 ρ2 G3 H':=.of g3;have s3:=s2.grow g3;have R3:=R2.grow gs3 s3;refine hg ρ2 G3 H' (dI ix δ) _ x _ δ2 _ (R3.lift hx).rl dx e2 λ σ2 R4 o4=>?_;have RS4:RS K cl ρ2 G3 H' δ2 σ2 S2:=⟨R4,s3,λ j ds' p h1 h2=>by
    obtain ⟨es',m1,m2⟩:=o4 j ds' p h1 h2;exact (R3.lift hx).ap j es' p m1 m2⟩
   rcases bz e3 with ⟨c',em,rfl⟩ | ⟨es,S5,em,e4⟩
   . -- an exception on the way
     rcases bz em with ⟨c2,en,z⟩ | ⟨b,S4,en,e5⟩
     . cases z;exact hc ρ2 G3 σ2 H' δ2 S2 _ _ _ RS4 en (λ d hd=>by cases hd) (λ c3 h3 ρ5 G5 H5 g5 s5=>by cases h3;exact qx c' rfl ρ5 G5 H5 (g12.trans (gs3.trans g5)) s5)
     . refine hc ρ2 G3 σ2 H' δ2 S2 _ _ _ RS4 en (λ d hd=>?_) (λ c3 h3=>by cases h3);cases hd;intro ρ5 G5 H5 g5 s5;have g15:=g2.trans (gs3.trans g5);have da5:=((da.ext (gs3.trans g5).r).same (gs3.trans g5).g)
       cases b with
       | false=>exact ⟨by omega,ρ5,G5,as,S4,g15,s5,da5,by rw [show bE n h c fe (dI ix δ) k (i+1) S4=some (.xc c',S') from e5];rfl⟩
       | true=>
        rw [Rt rfl] at e5 ⊢;rcases bz e5 with ⟨c2,en2,z⟩ | ⟨ev,S6,en2,e6⟩
        . cases z;exact he ρ5 G5 σ2 H5 δ2 S4 _ _ _ (RS4.grow g5 s5) en2 (λ d hd=>by cases hd) (λ c3 h3 ρ6 G6 H6 g6 s6=>by cases h3;exact qx c' rfl ρ6 G6 H6 (g12.trans (gs3.trans (g5.trans g6))) s6)
        . refine he ρ5 G5 σ2 H5 δ2 S4 _ _ _ (RS4.grow g5 s5) en2 (λ d hd=>?_) (λ c3 h3=>by cases h3);cases hd;intro v ρ6 G6 H6 g6 s6 dv;rcases bz e6 with ⟨c2,en3,z⟩ | ⟨es2,S7,en3,e7⟩
          . cases z;exact ⟨by simp;omega,ρ6,G6,as++[ev],S6,g15.trans g6,s6,((da5.ext g6.r).same g6.g).app (.cons dv .nil),by rw [en3];rfl⟩
          . cases e7
   . cases e4;rcases bz em with ⟨c2,en,z⟩ | ⟨b,S4,en,e5⟩
     . cases z
     . refine hc ρ2 G3 σ2 H' δ2 S2 _ _ _ RS4 en (λ d hd=>?_) (λ c3 h3=>by cases h3);cases hd;intro ρ5 G5 H5 g5 s5;have g15:=g2.trans (gs3.trans g5);have da5:=((da.ext (gs3.trans g5).r).same (gs3.trans g5).g)
       cases b with
       | false=>exact ⟨by omega,ρ5,G5,as,S4,g15,s5,da5,by rw [show bE n h c fe (dI ix δ) k (i+1) S4=some (.ok es,S') from e5];rfl⟩
       | true=>
        rw [Rt rfl] at e5 ⊢;rcases bz e5 with ⟨c2,en2,z⟩ | ⟨ev,S6,en2,e6⟩
        . cases z
        . refine he ρ5 G5 σ2 H5 δ2 S4 _ _ _ (RS4.grow g5 s5) en2 (λ d hd=>?_) (λ c3 h3=>by cases h3);cases hd;intro v ρ6 G6 H6 g6 s6 dv;rcases bz e6 with ⟨c2,en3,z⟩ | ⟨es2,S7,en3,e7⟩
          . cases z
          . cases e7;exact ⟨by simp;omega,ρ6,G6,as++[ev],S6,g15.trans g6,s6,((da5.ext g6.r).same g6.g).app (.cons dv .nil),by rw [en3];simp [aw]⟩
end
theorem JX {K:Frag}:SR K [] cl G H []:=⟨rfl,List.nodup_nil,λ n o e=>by simp at e⟩
end L2
set_option Elab.async false
set_option linter.all false
set_option maxRecDepth 100000
namespace L2
open PySem PySem.Spec PyProof.Rows PySem.AutoSeq1
open PySem.W (Frag)
theorem F5 (l b:Addr) (xs ys:Array Value) (n k:Nat) (sl:Array (Option Value)) (h1:¬(!xs.isEmpty&&Builtin.List.listTooLong (xs.size+ys.size))=true) (h2:xs.size<=sizeLine) (h3:xs.size+ys.size<=sizeLine+1):
 Meets (Builtin.«list.extend» ⟨[.ref l,.ref b],[]⟩) (λ _ R s=>s.heap.get? l=some { cls:=.type "list", data:=.seq xs n }/\s.heap.get? b=some { cls:=.type "list", dict:=none,data:=.seq ys k,slots:=sl }/\R (.ok (.ret .none)) { s with heap:=s.heap.update l (Obj.mapSeq (·++ys)),toks:=s.toks }):=
 .of_wp λ prog w A R s h=>by
  obtain ⟨hl,hb,h⟩:=h;have hz:(xs++ys).size<=sizeLine+1:=by
   simp_all
  wp_walk using (wpAny_updateSeq hl rfl  ),Ua hl,Ua hb
  simp_all
section
variable {X:Cx}
noncomputable def lS (K:Frag):V->List V->Hp->VK->Prop:=λ x vs H Q=>∃ l b xs ys,x=.ref l/\vs=[.ref b]/\H l=some (.lst xs)/\cG K H b ys/\xs.length+ys.length<=sizeLine/\Q .non (cH H l (.lst (xs++ys)))
theorem wZ:Om X "list.extend" (lS X.K):=by
 intro pins s σ H x vs v us Q I rx rv h;obtain ⟨l,b,xs,ys,rfl,rfl,h1,h2,h3,q⟩:=h;cases rx;obtain ⟨u,rfl,ru⟩:=rv.one;cases ru;obtain ⟨z,its,n,r,hl,e⟩:=I.lstM h1;obtain ⟨jts,r2,⟨⟨oc,od,da,sl⟩,k,e2,c1,c2,c3⟩,z2⟩:=I.list h2;subst c1 c2 c3;have l2:=r2.length;have hn:¬ (!its.toArray.isEmpty&&Builtin.List.listTooLong (its.toArray.size+jts.toArray.size))=true:=by
  rw [So,So,vE (by omega),Bool.and_false]
  simp_all
 refine call_meets F.slot_list_extend ⟨_,e,rfl⟩ F.entry_list_extend (F.args_list_extend_2 _ _) (F5 l b _ _ n k sl hn (by simp_all) (by grind)) ⟨e,e2,?_⟩;refine ⟨.non,_,I.lset (its':=its++jts) h1 e (by simp) (r.append r2) ?_,rfl,q⟩
 simp_all
end
section
variable {K:Frag} {ρ:List Addr}
theorem qq:∀ ws:List Str,aC K ρ G (ws.map V.str) (ws.map W.str)
 | []=>.nil
 | w::ws=>.cons (.str w) (qq ws)
theorem va {H:Hp} {x:V} {d:W} {a:Addr} {ws:List Str} {b:Bool} (h:eZ K H a (ws.map V.str)) (hx:Dw K ρ H x d) (e:fY d (.tuple (ws.map W.str))=some b):gz x=true/\(ws.map V.str).all gz=true/\Jo x (ws.map V.str)=b:=by
 obtain ⟨ds,e1,e⟩:=oB e
 obtain ⟨v,e2,e⟩:=oB e
 obtain ⟨vs,e3,rfl⟩:=oM e
 cases e1;obtain ⟨rfl,f1⟩:=yd hx e2;obtain ⟨rfl,f2⟩:=uj (K:=K) (ρ:=ρ) (H:=H) (qq ws) e3;exact ⟨f1,f2,rfl⟩
theorem vS {neg:Bool} {ws:List Str} (hs:∀ G,eZ K G a (ws.map V.str)) (ha:DK K ρ ta fa) (R:Rl K ρ G H δ σ) (e:au (if neg then iD else fY) fa (dC (.tuple (ws.map W.str))) δ=some b) (q:∀ G' H',Gr G H G' H'->Q (.bl b) H'):w4 (E1 K neg) ta (tC (.ref a)) σ H Q:=by
 obtain ⟨x,ex,e⟩:=oB e
 refine ha G σ H δ x _ R ex λ v G1 H1 g1 dv=>?_;have dv:=dv.dp g1.s;cases neg with
 | false=>
  obtain ⟨f1,f2,rfl⟩:=va (hs H1) dv e;exact ⟨a,_,rfl,.inr (hs H1),f1,f2,q G1 H1 g1⟩
 | true=>
  obtain ⟨b',e',rfl⟩:=oM e
  obtain ⟨f1,f2,rfl⟩:=va (hs H1) dv e';exact ⟨a,_,rfl,.inr (hs H1),f1,f2,q G1 H1 g1⟩
theorem Im {ws:List Str} (hs:∀ G,eZ K G a (ws.map V.str)) (ha:DK K ρ ta fa):DT K ρ (pN (w4 (E1 K false) ta (tC (.ref a)))) (au fY fa (dC (.tuple (ws.map W.str)))):=λ G σ H δ b Q R e q=>
 vS  hs ha R e λ G' H' g=>⟨b,rfl,q G' H' g⟩
theorem Ao {ws:List Str} (hs:∀ G,eZ K G a (ws.map V.str)) (ha:DK K ρ ta fa):DT K ρ (pN (w4 (E1 K true) ta (tC (.ref a)))) (au iD fa (dC (.tuple (ws.map W.str)))):=λ G σ H δ b Q R e q=>
 vS  hs ha R e λ G' H' g=>⟨b,rfl,q G' H' g⟩
noncomputable def fB (i:Nat) (f:DS->Option W):DS->Option eI:=λ δ=>(nI i δ).bind λ ds=>(f δ).bind λ d=>(jT d).bind λ es=>if ds.length+es.length<=sizeLine then some (.nx (δ.set i (.own (ds++es)))) else none
theorem pV (h:DE K ρ t f):oX K ρ (qz (HE K "list" (lS K) (Aa i) (dj t gN))) (fB i f):=λ G0 H0 G σ H δ o D I e p=>by
 obtain ⟨ds,eo,e⟩:=oB e
 obtain ⟨d,ed,e⟩:=oB e
 obtain ⟨es,ee,e⟩:=oB e
 split at e
 case isFalse=>cases e
 rename_i hz;cases e;cases jj ee;have ho:=q9 eo;obtain ⟨o,h1,q,vs,rfl,h3,h4,h5⟩:=I.rl.sl i _ ho;refine ⟨.ref q,h1,.inl ⟨rfl,vs,cG.of h4⟩,h G σ H δ _ _ I.rl ed λ v G1 H1 g1 dv=>?_⟩;have I1:=I.grow g1;cases dv with
 | lst sq da=>
  refine ⟨q,_,vs,_,rfl,rfl,g1.h _ _ h4,g1.s.seq sq,by rw [h5.length,da.length];exact hz,?_⟩;exact p σ G1 _ (I1.put ho h1 (g1.n q (.l h4) h3) ((h5.same g1.g).app da))
end
structure GU (K:Frag) (x q:Str) (st:Stmt) (f:Addr) (fd:FuncData):Prop where
 ex:∃ (dV oc kV dc pm cd ct:Value) (od an:Option Addr) (sl:Array (Option Value)),fd=PySem.W.fnOf x q (cU st) (cu st) (aX st) dV kV dc pm an cd ct/\K.lookup f=some ⟨oc,od,.func fd,sl⟩/\PySem.W.codeIn K cd q=true
 kp:PySem.W.keepIn K (.ref f)=true
theorem GU.ok {K:Frag} {st:Stmt} (F:GU K x q st f fd) (S:gB N ps (aX st)) (hl:∀ vs H Q E,sp vs H Q E->vs.length=ps.length)
 (hb:∀ (cd:Value) (A:Around) (outer:List Env) (s:Shared) (H:Hp) (vs:List V) (Q:VK) (E:XK),dq k (A.deeper (envOfC q (aX st) s.heap.objs.size f cd))->sp vs H Q E->
  ∃ t,w5 (xH H9 P w K mg base N q (aX st) f cd A outer s H E).nox (cu st) t/\t ({ nx:=λ _ H'=>Q V.non H',rt:=Q }:oz) (start N vs) H):eP P w K mg base H9 (k+1) f fd ps sp:=by
 obtain ⟨dV,oc,kV,dc,pm,cd,ct,od,an,sl,rfl,lk,hc⟩:=F.ex;refine MD lk hc S hl λ A outer s H vs Q E hr hs=>?_;obtain ⟨t,h,r⟩:=hb cd A _ s H vs Q E hr hs;exact ⟨t,h.nox,r⟩
theorem lu {K:Frag} {st:Stmt} {dV oc kV dc pm cd ct:Value} (l:K.lookup f=some ⟨oc,od,.func (PySem.W.fnOf x q (cU st) (cu st) (aX st) dV kV dc pm an cd ct),sl⟩) (c:PySem.W.codeIn K cd q=true) (k:PySem.W.keepIn K (.ref f)=true):GU K x q st f (PySem.W.fnOf x q (cU st) (cu st) (aX st) dV kV dc pm an cd ct):=⟨⟨dV,oc,kV,dc,pm,cd,ct,od,an,sl,rfl,l,c⟩,k⟩
section
variable {K:Frag} {ρ:List Addr}
noncomputable def pJ (f:List W->Option W) (fa:DS->Option (List W)):DS->Option W:=λ δ=>(fa δ).bind λ ds=>f (ds++[.none])
theorem BF (h:DA K ρ t fa):DE K ρ (q0 (iV K f) [.non] E t) (pJ f fa):=λ G σ H δ d Q R e q=>by
 obtain ⟨ds,ed,e⟩:=oB e
 exact h G σ H δ ds _ R ed λ vs G1 H1 g1 da=>⟨ρ,G1,ds++[.none],d,g1.s,da.app (.cons .non .nil),e,λ v G2 H2 g2 dv=>q v G2 H2 (g1.trans g2) dv⟩
end
noncomputable def lM (i j:Int):Bool:=decide (0<=j)&&decide (j<=1000)&&decide (i.natAbs<2^64)
noncomputable def AF:W->W->Option W:=BD lM λ i j=>i^j.toNat
theorem Jb {K:Frag}:DR K ρ (rI G7 λ i j=>.int (i^j.toNat)) AF:=sC λ i j h=>by
 simp only [lM,RY,R5] at h;exact ⟨h.1.1,by omega,h.2⟩
theorem Ct:bf [V.non] [Value.none]:=.cons rfl .nil
section
variable {K:Frag} {cl:Str->Addr} {E:XK}
noncomputable def mV:List W->Option (List b8)
 | []=>some []
 | d::ds=>(ky d).bind λ k=>(mV ds).map (k::·)
noncomputable def uI:W->Option (List b8)
 | .tuple ds=>mV ds
 | _=>none
theorem Dd (h:aC K ρ G vs ds):mV ds=some ks->vs=ks.map kV:=
 h.ind (M:=λ vs ds=>∀ ks,mV ds=some ks->vs=ks.map kV) λ ks e=>by cases e;rfl λ _ _ _ _ a ih ks e=>by
  obtain ⟨k,e1,e⟩:=oB e
  obtain ⟨ks,e2,rfl⟩:=oM e
  rw [pD a e1,ih _ e2];rfl ks
theorem sM (h:Dw K ρ G v d) (e:uI d=some ks):∃ b,v=.ref b/\G b=some (.tup (ks.map kV)):=by
 cases h with
 | tup sq da=>exact ⟨_,rfl,by rw [<-Dd da e];exact sq⟩
 | _=>cases e
noncomputable def pT (x y:W) (S:aq):Option (Option W):=match eK x S with
 | some (_,.dK kvs)=>(ky y).map λ k=>aL kvs k
 | some (_,.dT kvs)=>(uI y).map λ k=>aL kvs k
 | _=>none
theorem uM {ρ:List Addr} {G H:Hp} {S:aq} {v u:V} {x y:W} {o:Option W} (sg:bn G H) (s:SR K ρ cl G H S) (dv:Dw K ρ G v x) (du:Dw K ρ G u y) (h:pT x y S=some o):∃ a r,v=.ref a/\ma H a u r/\(match o with | some d=>∃ z,r=some z/\Dw K ρ G z d | none=>r=none):=by
 unfold pT at h;split at h
 . rename_i n kvs e1;obtain ⟨k,e3,e4⟩:=oM h
   obtain ⟨rfl,e5⟩:=dH e1;obtain ⟨a,rfl,ea⟩:=cD dv;obtain ⟨ga,ws,k1,k2⟩:=s.addr e5 ea;obtain ⟨v1,v2⟩:=k2.val (k:=k);refine ⟨a,jO ws k,rfl,?_,?_⟩
   . rw [pD du e3];exact ma.k k1
   . cases o with
     | some d=>exact v1 d e4
     | none=>exact v2 e4
 . rename_i n kvs e1;obtain ⟨k,e3,e4⟩:=oM h
   obtain ⟨rfl,e5⟩:=dH e1;obtain ⟨a,rfl,ea⟩:=cD dv;obtain ⟨ga,ws,k1,k2⟩:=s.addr e5 ea;obtain ⟨v1,v2⟩:=k2.val (k:=k);obtain ⟨b,rfl,hb⟩:=sM du e3;refine ⟨a,jO ws k,rfl,ma.t k1 (sg _ _ hb),?_⟩
   . cases o with
     | some d=>exact v1 d e4
     | none=>exact v2 e4
 . cases h
noncomputable def bC (fo fk:DS->aq->SM W):DS->aq->SM W:=λ δ S=>aw (fo δ S) λ x S1=>aw (fk δ S1) λ y S2=>(pT x y S2).bind λ o=>qN o S2
theorem GI {to tk:TE} {fo fk:DS->aq->SM W} (ho:SE K cl E to fo) (hk:SE K cl E tk fk):SE K cl E (HV to tk) (bC fo fk):=λ ρ G σ H δ S r S' Q R e q qx=>
 tO ho hk R e (λ x y S2 e2 v u ρ2 G2 H2 g2 s2 dv du=>by
  obtain ⟨o,e3,e4⟩:=oB e2
  obtain ⟨d,rfl,rfl,rfl⟩:=bU e4;obtain ⟨a,r,rfl,h1,z,rfl,h2⟩:=uM g2.s s2 dv du e3;exact ⟨a,z,rfl,h1,q d rfl z ρ2 G2 H2 g2 s2 h2⟩) qx
noncomputable def GO (neg:Bool) (fk fo:DS->aq->SM W):DS->aq->SM Bool:=λ δ S=>aw (fk δ S) λ y S1=>aw (fo δ S1) λ x S2=>qN ((pT x y S2).map λ o=>if neg then !o.isSome else o.isSome) S2
theorem AE {to tk:TE} {fo fk:DS->aq->SM W} (hk:SE K cl E tk fk) (ho:SE K cl E to fo):ST K cl E (tB (zy tk to)) (GO true fk fo):=λ ρ G σ H δ S r S' Q R e q qx=>
 tO hk ho R e (λ y x S2 e2 u v ρ2 G2 H2 g2 s2 du dv=>by
  obtain ⟨b,e3,rfl,rfl⟩:=bU e2;obtain ⟨o,e4,rfl⟩:=oM e3
  obtain ⟨a,r,rfl,h1,h2⟩:=uM g2.s s2 dv du e4;have hb:r.isSome=o.isSome:=by
   cases o with
   | some d=>obtain ⟨z,rfl,_⟩:=h2;rfl
   | none=>rw [show r=none from h2];rfl
  refine ⟨a,r,rfl,h1,?_⟩;rw [hb];exact ⟨!o.isSome,rfl,q _ rfl ρ2 G2 H2 g2 s2⟩) qx
noncomputable def mS (x y d:W) (S:aq):Option aq:=match eK x S with
 | some (n,.dK kvs)=>(ky y).bind λ k=>if kvs.length<sizeLine then some (S.set n (.dK (bo kvs k d))) else none
 | some (n,.dT kvs)=>(uI y).bind λ k=>if kvs.length<sizeLine then some (S.set n (.dT (bo kvs k d))) else none
 | _=>none
theorem GE (sg:bn G H) (s:SR K ρ cl G H S) (dv:Dw K ρ G v x) (du:Dw K ρ G u y) (dw:Dw K ρ G w d) (h:mS x y d S=some S'):∃ a H',v=.ref a/\tq H a u w H'/\SR K ρ cl G H' S'/\GS ρ G H ρ G H':=by
 unfold mS at h;split at h
 . rename_i n kvs e1;obtain ⟨k,e3,e4⟩:=oB h
   split at e4
   case isFalse=>cases e4
   rename_i hl;cases e4;obtain ⟨rfl,e5⟩:=dH e1;obtain ⟨a,rfl,ea⟩:=cD dv;obtain ⟨ga,ws,k1,k2⟩:=s.addr e5 ea;obtain ⟨s4,g4⟩:=s.put  (o':=.dK _) sg e5 ea (λ b z=>by cases z) ⟨_,aG,k2.put dw⟩;refine ⟨a,_,rfl,?_,s4,g4⟩;rw [pD du e3];exact tq.k k1 (by rw [<-k2.length];exact hl)
 . rename_i n kvs e1;obtain ⟨k,e3,e4⟩:=oB h
   split at e4
   case isFalse=>cases e4
   rename_i hl;cases e4;obtain ⟨rfl,e5⟩:=dH e1;obtain ⟨a,rfl,ea⟩:=cD dv;obtain ⟨ga,ws,k1,k2⟩:=s.addr e5 ea;obtain ⟨s4,g4⟩:=s.put  (o':=.dT _) sg e5 ea (λ b z=>by cases z) ⟨_,aG,k2.put dw⟩;obtain ⟨b,rfl,hb⟩:=sM du e3;exact ⟨a,_,rfl,tq.t k1 (sg _ _ hb) (by rw [<-k2.length];exact hl),s4,g4⟩
 . cases h
noncomputable def bW (fo fk fv:DS->aq->SM W):DS->aq->SO:=λ δ S=>mj (fv δ S) λ d S1=>mj (fo δ S1) λ x S2=>mj (fk δ S2) λ y S3=>(mS x y d S3).map λ S4=>(.nx δ,S4)
theorem yE (ho:SE K cl E to fo) (hk:SE K cl E tk fk) (hv:SE K cl E tv fv):oh K cl E (HJ to tk tv) (bW fo fk fv):=λ ρ0 G0 H0 ρ G σ H δ S o S' D I e p=>
 fq hv I e p λ d S1 e1 v ρ1 G1 H1 g1 s1 dv=>by
  have I1:=I.grow g1 s1;refine fq ho I1 e1 p λ x S2 e2 u ρ2 G2 H2 g2 s2 du=>?_;have I2:=I1.grow g2 s2;refine fq hk I2 e2 p λ y S3 e3 w ρ3 G3 H3 g3 s3 dw=>?_;obtain ⟨S4,e4,e5⟩:=oM e3
  cases e5;have g23:=g2.trans g3;obtain ⟨a,H4,rfl,h1,s4,g4⟩:=GE g3.s s3 ((du.ext g3.r).same g3.g) dw ((dv.ext g23.r).same g23.g) e4;exact ⟨a,_,rfl,h1,p σ _ G3 _ ((I2.grow g3 s3).grow g4 s4)⟩
end
theorem dq.units1 (r:dq k A):A.units+1<cLine:=Nat.lt_of_le_of_lt (by omega) r.units
section
variable {K:Frag} {cl:Str->Addr} {E:XK}
noncomputable def Cz:List V->Hp->VK->Prop:=λ xs H Q=>∃ a kvs,xs=[V.ref a]/\H a=some (.dK kvs)/\Q (.int kvs.length) H
theorem xL:bN X (.builtin "len") Cz:=AH
noncomputable def vb (fa:DS->aq->SM W):DS->aq->SM W:=λ δ S=>aw (fa δ S) λ x S1=>qN ((p8 x S1).map λ p=>.int p.2.length) S1
theorem Fa (ha:SE K cl E ta fa):SE K cl E (tN Cz (dj ta gN)) (vb fa):=λ ρ G σ H δ S r' S' Q R e q qx=>
 ci ha R e (λ x S2 e2 v ρ2 G2 H2 g2 s2 dv=>by
  obtain ⟨c,e3,rfl,rfl⟩:=bU e2;obtain ⟨⟨n,kvs⟩,e4,rfl⟩:=oM e3
  obtain ⟨rfl,e5⟩:=jM e4;obtain ⟨a,rfl,ea⟩:=cD dv;obtain ⟨ga,ws,k1,k2⟩:=s2.addr e5 ea;refine ⟨a,ws,rfl,k1,?_⟩;rw [<-k2.length];exact q _ rfl _ _ G2 H2 g2 s2 (.int _)) qx
noncomputable def Ga (fo:DS->aq->SM W):DS->aq->SM W:=λ δ S=>aw (fo δ S) λ x S1=>(fH x S1).bind λ p=>(p.2[p.2.length-1]?).map λ d=>(.ok d,S1.set p.1 (.lst p.2.dropLast))
theorem aC.dropL (h:aC K ρ G vs ds):aC K ρ G vs.dropLast ds.dropLast:=by rw [List.dropLast_eq_take,List.dropLast_eq_take,h.length];exact h.take _
theorem JW (ho:SE K cl E to fo):SE K cl E (Hc K "list" Je to) (Ga fo):=λ ρ G σ H δ S r' S' Q R e q qx=>
 ci ho R e (λ x S2 e2 v ρ2 G2 H2 g2 s2 dv=>by
  obtain ⟨⟨n,ds⟩,e3,e4⟩:=oB e2
  obtain ⟨d,e5,e6⟩:=oM e4
  cases e6;obtain ⟨rfl,e7⟩:=cM e3;obtain ⟨a,rfl,ea⟩:=cD dv;obtain ⟨ga,vs,k1,k2⟩:=s2.addr e7 ea;obtain ⟨z,h1,h2⟩:=k2.get e5;obtain ⟨s4,g4⟩:=s2.put  (o':=.lst _) g2.s e7 ea (λ b z=>by cases z) ⟨_,aG,k2.dropL⟩;exact ⟨.inl ⟨rfl,vs,cG.of k1⟩,a,vs,z,rfl,rfl,k1,by rw [k2.length];exact h1,q d rfl z _ G2 _ (g2.trans g4) s4 h2⟩) qx
end
noncomputable def Dx:List V->Hp->VK->Prop:=λ xs H Q=>∃ i j,xs=[.int i,.int j]/\Q (.int (if j>i then j else i)) H
noncomputable def Do:List V->Hp->VK->Prop:=λ xs H Q=>∃ i j,xs=[.int i,.int j]/\Q (.int (if j<i then j else i)) H
theorem wT (hc:X.calm=true):bN X (.builtin "max") Dx:=AN hc
theorem wN (hc:X.calm=true):bN X (.builtin "min") Do:=zC hc
noncomputable def yo:List W->Option W
 | [.int i,.int j]=>some (.int (if j>i then j else i))
 | _=>none
noncomputable def zf:List W->Option W
 | [.int i,.int j]=>some (.int (if j<i then j else i))
 | _=>none
noncomputable def L3 (g:List W->Option W) (fa:DS->Option (List W)):DS->Option W:=λ δ=>(fa δ).bind g
section
variable {K:Frag} {ρ:List Addr}
theorem vF (h:aC K ρ G vs [.int i,.int j]):vs=[.int i,.int j]:=by
 cases h with
 | cons a t=>
  cases a;cases t with
  | cons b u=>cases b;cases u;rfl
theorem FV (h:DA K ρ t fa):DE K ρ (tN Dx t) (L3 yo fa):=λ G σ H δ d Q R e q=>by
 obtain ⟨ds,ed,e⟩:=oB e
 refine h G σ H δ ds _ R ed λ vs G1 H1 g1 da=>?_;unfold yo at e;split at e
 . cases e;exact ⟨_,_,vF da,q _ G1 H1 g1 (.int _)⟩
 . cases e
theorem Fx (h:DA K ρ t fa):DE K ρ (tN Do t) (L3 zf fa):=λ G σ H δ d Q R e q=>by
 obtain ⟨ds,ed,e⟩:=oB e
 refine h G σ H δ ds _ R ed λ vs G1 H1 g1 da=>?_;unfold zf at e;split at e
 . cases e;exact ⟨_,_,vF da,q _ G1 H1 g1 (.int _)⟩
 . cases e
end
section
variable {K:Frag} {cl:Str->Addr} {E:XK}
end
open PySem.AutoSeq1 (wpAny_loadPart')
section
variable {prog:Program} {w:World} {A:Around} {E:Value->Shared->Prop} {s:Shared}
theorem IK (h1:typeLookup (.type T) "__init__" = pure (some (.builtin "object.__init__")))
 (h2:Bind.madeBy (.type T)=pure (some mk)) (h3:(some mk != some "object.__new__")=true):Meets (Builtin.«object.__init__» ⟨me::more,kw⟩) (λ _ R s=>s.TypeIs me T/\R (.ok (.ret .none)) s):=by
 refine .of_wp λ pr wo B R z hz=>?_;obtain ⟨t1,t2⟩:=hz;cases more with
 | nil=>
  cases kw with
  | nil=>exact Ru ⟨_,rfl,t2⟩
  | cons k ks=>
   repeat (any_goals (first | rfl | wp_step))
   simp_all
 | cons a as=>
  repeat (any_goals (first | rfl | wp_step))
  simp_all
theorem Df (ft:TypeCalled T mk "object.__init__") (hne:(some mk != some "object.__new__")=true)
 (c1:checkTypeCall T ⟨vs,kw⟩=pure ()) (c2:checkBuiltinCall mk ⟨.type T::vs,kw⟩=pure ()) (c3:∀ o,argsOk "object.__init__" ⟨o::vs,kw⟩) (eB:entryFor table mk=some B) (g:Meets (B ⟨.type T::vs,kw⟩) S)
 (h:S A.in1 (wants (λ o z=>z.TypeIs o T/\Q o z) E) s):wpAny (model prog w) A (call (.type T) vs kw) Q E s:=by
 obtain ⟨c,tl,m1⟩:=ft.mro;have m2:=ft.made;have m3:=ft.sub;refine wpAny_call (codeAny_of_tree ?_);refine Ru ⟨Ux _ (by decide +kernel),SF F.entry_type_call ?_⟩;have m4:=ft.notType;have m5:=ft.canCreate;repeat (any_goals (first | rfl | wp_step))
 refine Ui (codeAny_call_builtin ft.plain eB (UU c2 (g _ w _ _ s h))) λ r z hr=>?_;cases r with
 | error e=>exact hr
 | ok fl=>
  cases fl with
  | ret o=>
   obtain ⟨t1,t2⟩:=hr;have l1:=ft.init.lookup;have l2:=ft.init.bind o;repeat (any_goals (first | assumption | wp_step))
   refine Ui (codeAny_call_builtin ft.init.plain F.entry_object_init (ft.init.check _ _ _ _ _ _ _ _ t1 (c3 o) (IK ft.init.lookup ft.made hne prog w A.in1 (wants (λ r y=>r=.none/\Q o y) E) z ⟨t1,rfl,t2⟩))) λ r2 z2 hr2=>?_;cases r2 with
   | error e=>exact hr2
   | ok f2=>
    cases f2 with
    | ret r=>
     obtain ⟨rfl,q⟩:=hr2;repeat (any_goals (first | assumption | wp_step))
    | _=>exact hr2.elim
  | _=>exact hr.elim
theorem I9 (a b:Value):checkTypeCall "enumerate" ⟨[a],[("start", b)]⟩=pure ():=by rfl
theorem F8 (a b:Value):checkBuiltinCall "enumerate.__new__" ⟨[.type "enumerate", a],[("start", b)]⟩=pure ():=by kernel_rfl
end
open PySem.AutoSeq1 (wpAny_loadPart')
noncomputable abbrev yZ (l:Addr):Obj:={ cls:=.type "list_iterator", data:=.fields #[.ref l,.int 0 0] }
noncomputable abbrev HG (it:Addr) (z:Int):Obj:={ cls:=.type "enumerate", data:=.fields #[.none,.bool false,.ref it,rawInt z,.none,.none] }
theorem Et (l:Addr) (items:Array Value) (n:Nat) (dct:Option Addr) (sl:Array (Option Value)) (z:Int) (t:Tok) (hf:Builtin.SmallTypes.fitsIndex z=true):
 Meets (Builtin.«enumerate.__new__» ⟨[.type "enumerate", .ref l],[("start", .int z t)]⟩) (λ _ R s=>s.heap.get? l=some { cls:=.type "list", dict:=dct,data:=.seq items n,slots:=sl }/\
  R (.ok (.ret (.ref (s.heap.push (yZ l)).objs.size))) { s with heap:=(s.heap.push (yZ l)).push (HG s.heap.objs.size z) }):=
 .of_wp λ prog w A R s h=>by
  obtain ⟨hp,g,d,tk,os⟩:=s;obtain ⟨hl,h⟩:=h;have e0:=sub_enumerate;have hL:Heap.IsList (Shared.heap ⟨hp,g,d,tk,os⟩) l items:=⟨_,hl,rfl,n,rfl⟩
  wp_walk using Ua hl
  refine wpAny_stack_any λ st=>Ru ?_;have hf':(!Builtin.SmallTypes.fitsIndex z)=false:=by rw [hf];rfl
  split
  . rename_i c _ _ _ _ _;cases (c==Value.type "enumerate")
    . wp_walk using Ua hl,Ud hL
      exact ⟨_,rfl,h⟩
    . wp_walk using Ua hl,Ud hL
      exact ⟨_,rfl,h⟩
  . wp_walk using Ua hl,Ud hL
    exact ⟨_,rfl,h⟩
section
variable {prog:Program} {w:World} {A:Around} {E:Value->Shared->Prop} {s:Shared}
theorem Ag (o a b:Value):argsOk "object.__init__" ⟨[o,a],[("start", b)]⟩:=by
 unfold argsOk;kernel_rfl
theorem A0 (hf:Builtin.SmallTypes.fitsIndex z=true) (hL:s.heap.IsList l items)
 (h:∀ h',IsEnum h' (s.heap.objs.size+1) s.heap.objs.size z .none->h'.IsListIter s.heap.objs.size l 0->(∀ b o,s.heap.get? b=some o->h'.get? b=some o)->Q (.ref (s.heap.objs.size+1)) { s with heap:=h' }):
 wpAny (model prog w) A (call (.type "enumerate") [.ref l] [("start", .int z t)]) Q E s:=by
 obtain ⟨⟨c,dct,dt,sl⟩,hl,hc,n,hd⟩:=hL;subst hc hd;refine Df F.called_enumerate (by decide) (I9 _ _) (F8 _ _) (λ o=>Ag o _ _) F.entry_enumerate_new (Et l _ n _ sl z t hf) ⟨hl,?_⟩;have e1:(s.heap.push (yZ l)).objs.size=s.heap.objs.size+1:=Uf ..;have e2  := by
  have e3:=RF (s.heap.push (yZ l)) (o:=HG s.heap.objs.size z) rfl;rw [e1] at e3;exact e3
 rw [e1];exact ⟨⟨_,e2,rfl⟩,h _ e2 ⟨_,Rv _ (RF _ rfl),rfl,rfl⟩ λ b o x=>Rv _ (Rv _ x)⟩
theorem rM (k m i0:Nat) (hh:A.handled=none) (hil:l≠it) (h1:∀ i,i0<=i->i<m->i<items.size) (h2:items[m]?=none):
 Draws prog w A it [it,l] (k+m) (λ j y=>∃ i,j=k+i/\items[i]?=some y) (λ j h=>∃ i,j=k+i/\i0<=i/\h.IsListIter it l i/\h.IsList l items) where
 live:=λ j h hy0=>by obtain ⟨i,_,_,⟨o,ho,_⟩,_⟩:=hy0;simp_all
 frame:=λ j h h' hy0 hk=>by obtain ⟨i,e,hi,a,b⟩:=hy0;exact ⟨i,e,hi,a.at λ o q=>hk it (by simp) o q,b.at λ o q=>hk l (by simp) o q⟩
 item:=λ j s Q E hj hy0 hQ=>by
  obtain ⟨i,e,hi,a,b⟩:=hy0;have hlt:=h1 i hi (by omega);exact wpAny_nextOf_list_item a b (x:=items[i]) (by simp [hlt]) λ h' a' s'=>hQ _ h' _ ⟨i,e,by simp [hlt]⟩ ⟨i+1,by omega,by omega,a',b.extBut s'.extBut hil⟩ s'
 done:=λ s Q E hy0 hE=>by
  obtain ⟨i,e,hi,a,b⟩:=hy0;have e':i=m:=by omega
  subst e';exact wpAny_nextOf_list_end hh a b h2 hE
theorem yp {h:Heap} (a:h.IsListIter it l i) (b:h.IsList l items):l≠it:=λ z=>by
 obtain ⟨o,e1,c1,_⟩:=a;obtain ⟨o',e2,c2,_⟩:=b
 simp_all
theorem EA (a:IsEnum h e it z old) (b:h.IsList l items):e≠l:=λ z=>by
 obtain ⟨o',e2,c2,_⟩:=b
 grind
theorem Bq (hh:A.handled=none) (he:IsEnum s.heap e it ((k+i:Nat):Int) old) (hit:s.heap.IsListIter it l i) (hl:s.heap.IsList l items) (hx:items[i]?=some x) (hne:e≠it)
 (hQ:∀ h' tk,IsEnumOut h' e it (((k+i:Nat):Int)+1) x s.heap.objs.size->h'.IsListIter it l (i+1)->h'.get? s.heap.objs.size=some { cls:=.type "tuple", data:=.seq #[.int ((k+i:Nat):Int) tk,x] }->
  (∀ b o,b≠e->b≠it->s.heap.get? b=some o->h'.get? b=some o)->Q (some (.ref s.heap.objs.size)) { s with heap:=h',toks:=tk+1 }):wpAny (model prog w) A (pyNext (.ref e)) Q E s:=by
 have hlt:i<items.size:=(Array.getElem?_eq_some_iff.mp hx).1;have D:=rM (prog:=prog) (w:=w) (A:=A.in1)  k items.size 0 hh (yp hit hl) (λ _ _ h=>h) (by simp);refine wpAny_pyNext_enum_itemD D he ⟨i,rfl,Tf _,hit,hl⟩ (by omega) hne (by simp [hne,EA he hl]) λ y h' tk p1 p2 p3 p4 p5 p6=>?_
 grind
theorem G8 (hh:A.handled=none) (he:IsEnum s.heap e it ((k+i:Nat):Int) old) (hit:s.heap.IsListIter it l i) (hl:s.heap.IsList l items) (hx:items[i]?=none)
 (hQ:∀ h',Heap.ExtBut it s.heap h'->Q none { s with heap:=h' }):wpAny (model prog w) A (pyNext (.ref e)) Q E s:=by
 have D:=rM (prog:=prog) (w:=w) (A:=A.in1)  k i i hh (yp hit hl) λ j h1 h2=>by omega hx
 exact wpAny_pyNext_enum_endD D he ⟨i,rfl,Ry _,hit,hl⟩ hQ
end
noncomputable def Ps (K:Frag) (a:Addr) (k:Nat):It:=
 ⟨λ i H=>∃ xs x,cG K H a xs/\xs[i]?=some x,λ i H v H'=>∃ p x,H p=none/\v=.ref p/\H'=cH H p (.tup [.int ((k+i:Nat):Int),x])/\∀ xs,cG K H a xs->xs[i]?=some x,λ i H=>∃ xs,cG K H a xs/\xs.length<=i⟩
theorem MH {K:Frag} (a e it:Addr) (k:Nat) (hei:e≠it):
 xv P w K (.Tuple elts x1 pos) (Ps K a k) [e,it] e (λ i h=>(∃ old,IsEnum h e it ((k+i:Nat):Int) old)/\h.IsListIter it a i) where
 mem:=by simp
 obj:=λ i h st c hc=>by
  obtain ⟨⟨old,e1⟩,⟨o4,e4,_,d4⟩⟩:=st
  grind
 keep:=λ i h h' st kp=>by
  obtain ⟨⟨old,e1⟩,e4⟩:=st;exact ⟨⟨old,kp e (by simp) _ e1⟩,e4.at λ o q=>kp it (by simp) o q⟩
 item:=by
  intro X hP hw hK hc i pins s σ H E I hf st hg;subst hP hw hK;obtain ⟨xs,x,qx,hx⟩:=hg;obtain ⟨its,rvx,px,_⟩:=I.list qx;obtain ⟨u,hu,ru⟩:=rvx.get hx;obtain ⟨⟨old,e1⟩,e4⟩:=st;have big:∀ {c:Addr} {o:Obj},s.heap.get? c=some o->c≠s.heap.objs.size:=λ e=>RL (RC e);refine Bq (I.ok.hd hc) e1 e4 px.isList (x:=u) (by simpa using hu) hei λ h' tk a1 a2 a3 a5=>?_;refine ⟨_,rfl,wpAny_letOwnedTupleGo_enum (s:={ s with heap:=h',toks:=tk+1 }) a1 λ h'' b1 b2=>?_⟩;have k2:∀ c o,c∉[e,it]->s.heap.get? c=some o->h''.get? c=some o:=λ c o hc q=>by
   simp only [Rx,RT,Te,not_or] at hc;exact (b2.2 c hc.1).trans (a5 c o hc.1 hc.2 q)
  have eT:IsTup h'' s.heap.objs.size (List.toArray [.int ((k+i:Nat):Int) tk,u]):=⟨_,(b2.2 _ (big e1).symm).trans a3,rfl,_,rfl⟩
  have I1:=I.turnedTup (t':=tk+1) (xs:=[.int ((k+i:Nat):Int),x]) hf k2 (Ry _) eT (.cons ⟨_,rfl⟩ (.cons ru .nil)) (by show 2<=sizeLine;decide);refine ⟨.ref s.heap.objs.size,_,I1,rfl,⟨s.heap.objs.size,x,I.hok.fresh (Ry _),rfl,rfl,λ zs hz=>by rw [I.list_inj hz qx];exact hx⟩,⟨⟨u,by simpa [Int.add_assoc] using b1⟩,a2.at λ o q=>(b2.2 _ hei.symm).trans q⟩,λ c hc=>?_⟩;have hcn:c≠s.heap.objs.size:=by
   obtain ⟨o4,g4,_⟩:=id e4;simp only [Rx,RT,Te] at hc;rcases hc with rfl | rfl
   . exact big e1
   . exact big g4
  rw [aF hcn];exact (hf c hc).1
 done:=by
  intro X hP hw hK hc i pins s σ H E I hf st hg;subst hP hw hK;obtain ⟨xs,qx,hl⟩:=hg;obtain ⟨its,rvx,px,_⟩:=I.list qx;obtain ⟨⟨old,e1⟩,e4⟩:=st;have lx:=rvx.length;obtain ⟨f0,f1,f2,f3,f4,f5⟩:=hf it (by simp);exact G8 (I.ok.hd hc) e1 e4 px.isList (by simp;omega) λ h' kp=>⟨rfl,I.turned (t':=s.toks) (λ b o hb q=>kp b o hb q) f0 f1 f3 f4 f5⟩
 self:=λ _ _ _ _ _ st h=>by
  obtain ⟨⟨old,e1⟩,_⟩:=st;exact UE e1 h
noncomputable def BS (K:Frag) (ta:TA) (tx:TE):TI:=λ σ H R=>ta σ H λ vs H1=>tx σ H1 λ y H2=>∃ (a:Addr) (k:Nat),vs=[.ref a]/\y=.int k/\k<2^62/\(∃ xs,cG K H2 a xs)/\R (Ps K a k) H2
section
variable {M:Model} {A:Around} {E:Value->Shared->Prop} {s:Shared} {env:Env}
theorem IH
 (h:wpAny M A (spliced (backTo pos (starEach [e] env))) (λ vs s1=>wpAny M A (eval x env) (λ v s2=>wpAny M A (call (.type T) vs [(n,v)]) Q E s2) E s1) E s)
 (he:starEach [e] env=[(false,eval e env)]:=by rfl):
 wpAny M A (callWith pos (.type T) [] (backTo pos (starEach [e] env)) (backToKw pos (keywordEach [⟨some n,x,kp⟩] env))) Q E s:=by
 rw [he] at h ⊢;refine Rq (Ss (Sx (evalArgs_kwB (Q:=λ a s1=>wpAny M A (call (.type T) ([]++a.pos) a.kw) Q E s1) rfl (Sx h (λ vs s1 h1=>?_) λ _ _ z=>z)) (λ a s1 h1=>Rq (wpAny_standAt ?_)) λ _ _ z=>z))
 . exact kws_cons (Sx h1 (λ v s2 h2=>kws_nil h2) λ _ _ z=>z)
 . refine Rq (Ru ?_);exact Rq (Sx h1 (λ r s2 hr=>Rq (Ss (wpAny_point (Ru hr)))) λ _ _ z=>z)
end
theorem L0 {K:Frag} {elts:List Expr} {x1} {tpos:Pos} {p pos kp:Pos} (hK:X.K=K) (hg:Gl X "enumerate") (hm:X.mg "enumerate" = none) (ha:PA X [a] ta) (hx:PE X x tx) (hs:starEach [a] X.env=[(false,eval a X.env)])
 (he:eval (.Call (.Name "enumerate" p) [a] [⟨some "start", x,kp⟩] pos) X.env=(do callWith pos (<-eval (.Name "enumerate" p) X.env) [] (backTo pos (starEach [a] X.env)) (backToKw pos (keywordEach [⟨some "start", x,kp⟩] X.env)))):
 PI X (.Tuple elts x1 tpos) (.Call (.Name "enumerate" p) [a] [⟨some "start", x,kp⟩] pos) (BS K ta tx):=by
 subst hK;intro pins s σ H R I h;refine Rq (mI I hg hm boot_enumerate (IH (cq (ha _ _ s σ H _ I h) λ us s1 hy0=>?_) hs));obtain ⟨vs,H1,I1,r1,q1⟩:=hy0;refine cq (hx _ s1 σ H1 _ I1 q1) λ u s2 hq0=>?_;obtain ⟨y,H2,I2,ry,q2⟩:=hq0;obtain ⟨b,k,e1,e2,hk,⟨xs,qx⟩,q⟩:=q2;subst e1 e2;obtain ⟨t,rfl⟩:∃ t,u=.int k t:=ry;cases r1 with
 | cons r rr=>
  cases rr;cases r;obtain ⟨its,rvx,px,_⟩:=I2.list qx;refine A0 (by simp only [Builtin.SmallTypes.fitsIndex,RY,R5];omega) px.isList λ h' g5 g1 kp=>?_;refine UE  g5 ?_;refine ⟨s2.heap.objs.size+1,[s2.heap.objs.size+1,s2.heap.objs.size],_,_,H2,rfl,I2.kept  kp,MH b _ _ k (UB (SG _)),⟨⟨_,g5⟩,g1⟩,λ c hc=>?_,q⟩;have hc':s2.heap.objs.size<=c:=by
   simp only [Rx,RT,Te] at hc;rcases hc with h | h <;> subst h <;> first
    | exact Ry _
    | exact Nat.le_add_right _ _
  exact I2.fpOk hc' (I2.hok.fresh hc')
noncomputable def ip (k:Nat) (ds:List W):List W:=(List.range ds.length).map λ (i:Nat)=>.tuple [.int ((k+i:Nat):Int),ds[i]?.getD .none]
section
variable {K:Frag} {ρ:List Addr}
theorem xU {i:Nat} (h:(ip k ds)[i]?=some d):∃ x,ds[i]?=some x/\d=.tuple [.int ((k+i:Nat):Int),x]:=by
 have hi  := by
  have:=(oG h).1;simpa [ip] using this
 unfold ip at h
 simp_all
theorem KR (s:bn G1 H1) (q:cG K H1 a xs) (da:aC K ρ G1 xs ds):Jt K ρ (Ps K a k) (ip k ds) i G1 H1:=by
 refine ⟨λ d hd=>?_,λ h=>⟨xs,q,by rw [da.length];simpa [ip] using h⟩⟩;obtain ⟨x,hx,rfl⟩:=xU hd;obtain ⟨v,h1,h2⟩:=da.get hx;refine ⟨⟨xs,v,q,h1⟩,λ y H' w=>?_⟩;obtain ⟨p,u,hp,rfl,rfl,w⟩:=w;have:=w xs q;rw [h1] at this;cases this;have n:Nw H1 _ p (.tup [.int (k+i:Nat),v]):=.of hp;have g:=Gr.nw s n;exact ⟨_,g,.tup aG (.cons (.int _) (.cons (h2.same g.g) .nil))⟩
noncomputable def Ky:W->Option (List W)
 | .tuple ds=>some ds
 | _=>none
theorem ER (h:Ky d=some ds):d=.tuple ds:=by
 cases d <;> first | (cases h;rfl) | cases h
theorem IQ (ds:List W):Ky (.tuple ds)=some ds:=rfl
noncomputable def jG (f:DS->Option W) (lo hi:DS->Option (Option Int)):DS->Option W:=λ δ=>(f δ).bind λ d=>(Ky d).bind λ ds=>(lo δ).bind λ l=>(hi δ).map λ u=>.tuple (jQ ds l u)
theorem Kh {lo hi:DS->Option (Option Int)} (h:DE K ρ t f) (hl:FG K ρ tl lo) (hh:FG K ρ th hi):DE K ρ (NE (Hw K) t tl th) (jG f lo hi):=λ G σ H δ d Q R e q=>by
 obtain ⟨x,ed,e⟩:=oB e
 obtain ⟨es,ee,e⟩:=oB e
 obtain ⟨l,el,e⟩:=oB e
 obtain ⟨u,eu,rfl⟩:=oM e
 cases ER ee;refine h G σ H δ _ _ R ed λ v G1 H1 g1 dv=>hl G1 σ H1 δ l _ (R.grow g1) el λ G2 H2 g2=>hh G2 σ H2 δ u _ ((R.grow g1).grow g2) eu λ G3 H3 g3=>?_;have g23:=g2.trans g3;have g:=g1.trans g23;obtain ⟨p,vs,rfl,sq,da⟩:=pZ (dv.same g23.g);refine ⟨p,vs,rfl,eZ.of (g.s _ _ sq),?_⟩;by_cases hw:HT.sIx vs.length 0 l=0/\HT.sIx vs.length vs.length u=vs.length
 . refine .inl ⟨hw.1,hw.2,q _ G3 H3 g ?_⟩;have e1:jQ es l u=es:=by
    unfold jQ;rw [<-da.length,hw.1,hw.2,da.length];simp
   rw [e1];exact .tup sq da
 . refine .inr ⟨hw,λ r H' n=>?_⟩;have g4:=Gr.nw g.s n;exact q _ _ H' (g.trans g4) (.tup aG ((da.cut l u).same g4.g))
noncomputable def qo (T:String):W->Option W
 | .list _=>if T = "list" then some (.bool true) else none
 | .tuple _=>if T = "tuple" then some (.bool true) else none
 | d=>rp T d
theorem F7 (h:DE K ρ t f):DE K ρ (tN (D6 K) (dj t (dj (tC (.ty T)) gN))) (tH (qo T) f):=λ G σ H δ d Q R e q=>by
 obtain ⟨x,ex,e2⟩:=oB e
 refine h G σ H δ x _ R ex λ v G1 H1 g1 dv=>?_;unfold qo at e2;split at e2
 . split at e2
   . rename_i hT;subst hT;cases e2;obtain ⟨a,vs,rfl,sq,da⟩:=tG dv;exact .inr (.inr ⟨a,vs, "list", true,rfl,g1.s.seq sq,wu _ (by decide),q _ G1 H1 g1 (.bl _)⟩)
   . cases e2
 . split at e2
   . rename_i hT;subst hT;cases e2;obtain ⟨a,vs,rfl,sq,da⟩:=pZ dv;exact .inr (.inl ⟨a,vs, "tuple", true,rfl,g1.s.tup (eZ.of sq),wu _ (by decide),q _ G1 H1 g1 (.bl _)⟩)
   . cases e2
 . unfold rp at e2;split at e2;all_goals first
    | cases e2
    | (obtain ⟨k,ek,rfl⟩:=oM e2
       cases dv;exact .inl ⟨_,T,k,rfl,ek,q _ G1 H1 g1 (.bl k)⟩)
theorem IZ (ds:List W):qo "list" (.list ds)=some (.bool true):=by rfl
theorem Kq (ds:List W):qo "tuple" (.tuple ds)=some (.bool true):=by rfl
end
section
variable {K:Frag} {cl:Str->Addr} {E:XK}
noncomputable def Mm (x y:W):Option (List W):=match x,y with
 | .list es,.int z=>if 0<=z/\z<2^62 then some (ip z.toNat es) else none
 | _,_=>none
noncomputable def oF (fa:DS->aq->SM (List W)) (fx:DS->aq->SM W):DS->aq->SM (List W):=λ δ S=>aw (fa δ S) λ ds S1=>aw (fx δ S1) λ y S2=>match ds with
 | [x]=>qN (Mm x y) S2
 | _=>none
theorem zK (ha:SA K cl E ta fa) (hx:SE K cl E tx fx):Od K cl E (BS K ta tx) (oF fa fx):=λ ρ G σ H δ S r S' R' R e q qx=>
 kA ha R e (λ ds S1 e1 vs ρ1 G1 H1 g1 s1 da=>ci hx (R.grow g1 s1) e1 (λ y S2 e2 u ρ2 G2 H2 g2 s2 du=>by
  split at e2
  case h_2=>cases e2
  obtain ⟨es,e3,rfl,rfl⟩:=bU e2;unfold Mm at e3;split at e3
  case h_2=>cases e3
  rename_i xs z;split at e3
  case isFalse=>cases e3
  rename_i hz;cases e3;obtain ⟨v,rfl,dv⟩:=wU da;cases eW du;have g12:=g1.trans g2;cases dv with
  | lst sq da'=>
   have sq2:=(g2.g.trans g2.s).seq sq;have da2:=(da'.ext g2.r).same g2.g;exact ⟨_,z.toNat,rfl,by grind,by omega,⟨_,sq2⟩,q _ rfl _ ρ2 G2 H2 g12 s2 λ i G3 H3 a b=>KR b ((a.trans b).seq (g2.g.seq sq)) (da2.same a)⟩) λ c hc ρ2 G2 H2 g2 s2=>qx c hc _ G2 H2 (g1.trans g2) s2) qx
end
theorem NH {K:Frag} (hK:X.K=K) (he:PE X e ta) (hb:attributeBase e f X.env (eval e X.env)=eval e X.env):PE X (.Attribute e f pos) (JR K ta f):=hK▸IM he hb
theorem vJ {α:Type} (x y:α) (r:List α):jS (x::y::r) 1=some y:=by
 unfold jS Fu;rw [Rt (by decide),Rt (by simp;omega)];rfl
theorem kQ (x:α) (r:List α):jS (x::r) 0=some x:=by
 unfold jS Fu
 simp_all
theorem sz (n:Nat) (h:n<=9000):n<=sizeLine:=Sb h (by decide)
theorem mN (h:S[l]?=some (.lst es)):fH (.ref l) S=some (l,es):=by simp [fH,eK,h]
theorem rB (h:S[l]?=some (.dK es)):p8 (.ref l) S=some (l,es):=by simp [p8,eK,h]
theorem vv [DecidableEq κ]:∀ (kvs:List (κ×W)) (k q:κ) (x:W),aL kvs k=none->aL (kvs++[(k,x)]) q=if q=k then some x else aL kvs q:=λ kvs k q x h=>by
 induction kvs with
 | nil=>
  by_cases e:q=k
  . subst e;simp [aL]
  . have e':¬ k=q:=λ z=>e z.symm;simp [aL,e,e']
 | cons p r ih=>
  obtain ⟨j,y⟩:=p;by_cases hj:j=k
  . subst hj;simp [aL,Si] at h
  . have h':aL r k=none:=by simpa [aL,  hj] using h
    have ih':=ih h';by_cases hq:j=q
    . subst hq;simp [aL,  hj]
    . simp only [aL,TB,Si,hq,U0] at ih' ⊢;exact ih'
theorem hJ [DecidableEq κ] {kvs:List (κ×W)} {k:κ} (x:W) (h:aL kvs k=none):bo kvs k x=kvs++[(k,x)]:=by
 unfold bo;rw [RJ];intro ha;obtain ⟨kv,h1,h2⟩:=R7.mp ha;unfold aL at h;have h3:kvs.find? (λ kv=>decide (kv.1=k))=none:=by
  cases hf:kvs.find? _ with
  | none=>rfl
  | some z=>simp_all
 grind
theorem aW {S:aq} {m:Nat} (h:S[m]?=some o):(S++[x])[m]?=some o:=by
 grind
theorem k9 (B:List Int) (i:Int) (h0:0<=i) (h1:i<B.length):jS (B.map W.int) i=some (.int (B[i.toNat]?.getD 0)):=by
 unfold jS Fu
 simp_all
theorem m7 (lo:Int) (n:Nat):iL lo (n+1)=.int lo::iL (lo+1) n:=by
 unfold iL;rw [List.range_succ_eq_map,RU,T8];congr 1
 . simp
 . apply TZ
   grind
theorem aU (h:ds.length=a):bJ a n fb ds S=eF (fb (dg n ds) S):=Rt h
theorem ai {f g:DS->aq->SO} (h:f δ S=some (.nx δ',S')):aA f g δ S=g δ' S':=by unfold aA;rw [h]
theorem ju {c:DS->aq->SM Bool} (h:c δ S=some (.ok true,S1)):dm c f g δ S=f δ S1:=by unfold dm;rw [h];rfl
theorem iN {c:DS->aq->SM Bool} (h:c δ S=some (.ok false,S1)):dm c f g δ S=g δ S1:=by unfold dm;rw [h];rfl
theorem bi {f:DS->aq->SM W} (h1:f δ S=some (.ok d,S1)) (h2:h d δ=some δ'):cr f h δ S=some (.nx δ',S1):=by
 unfold cr;rw [h1];show (h d δ).map _=_
 grind
theorem bD {fi:DS->aq->SM (List W)} (h1:fi δ S=some (.ok ds,S1)):dE fi h fb δ S=aS h fb ds δ S1:=by unfold dE;rw [h1];rfl
theorem aH {fb:DS->aq->SO} (h1:h d δ=some δ2) (h2:fb δ2 S=some (.nx δ',S')):aS h fb (d::ds) δ S=aS h fb ds δ' S':=by
 show (h d δ).bind _=_
 simp_all
theorem sj {fi:DS->aq->SM (Nat×Kd)} (h1:fi δ S=some (.ok n,S0)) (h2:m<=sizeLine) (h3:bE n h c fe (dI ix δ) m 0 S0=some (.ok es,S1)):kM m ix fi h c fe δ S=some (.ok (.list es),S1):=by
 unfold kM;rw [h1];show (if m<=sizeLine then _ else _)=_;rw [Rt h2,h3];rfl
theorem EW (h1:0<=j) (h2:j<1000000):yi [.int j]=some (iL 0 j.toNat):=by
 show v7 j=_;unfold v7;rw [Rt (vd (by omega) (by omega))]
theorem ff (i:Int) (h:0<j):0<=i.fmod j/\i.fmod j<j:=⟨Int.fmod_nonneg_of_pos i h,Int.fmod_lt_of_pos i h⟩
theorem EX (h:S[l]?=some (.lst es)):fO S (l,.l)=some es:=by simp [fO,pk,h]
mutual
noncomputable def mz:W->Bool
 | .none | .bool _ | .int _=>true
 | .str x=>PyData.strOk x
 | .list ds | .tuple ds=>fm ds
 | .ref _=>false
noncomputable def fm:List W->Bool
 | []=>true
 | d::ds=>mz d&&fm ds
end
mutual
noncomputable def gQ:W->Nat
 | .list ds | .tuple ds=>bZ ds+1
 | _=>0
noncomputable def bZ:List W->Nat
 | []=>0
 | d::ds=>max (gQ d) (bZ ds)
end
mutual
theorem x4:∀ (d:W),mz d=true->∃ a,d.py=some a/\a.canLay0=true/\a.depth=gQ d/\PyData.eqv a a=true
 | .none,_=>⟨.none,rfl,by rfl,by rfl,by rfl⟩
 | .bool b,_=>⟨.bool b,rfl,by rfl,by rfl,by simp [PyData.eqv]⟩
 | .int i,_=>⟨.int i,rfl,by rfl,by rfl,by simp [PyData.eqv]⟩
 | .str x,h=>⟨.str x,rfl,by simpa [PyData.canLay0,mz] using h,by rfl,by simp [PyData.eqv]⟩
 | .list ds,h=>by
  obtain ⟨xs,e1,e2,e3,e4⟩:=u6 ds (by simpa [mz] using h);exact ⟨.list xs,by simp [W.py,e1],by simpa [PyData.canLay0] using e2,by simp [PyData.depth,gQ,e3],by simpa [PyData.eqv] using e4⟩
 | .tuple ds,h=>by
  obtain ⟨xs,e1,e2,e3,e4⟩:=u6 ds (by simpa [mz] using h);exact ⟨.tuple xs,by simp [W.py,e1],by simpa [PyData.canLay0] using e2,by simp [PyData.depth,gQ,e3],by simpa [PyData.eqv] using e4⟩
 | .ref _,h=>by simp [mz] at h
theorem u6:∀ (ds:List W),fm ds=true->∃ xs,W.pys ds=some xs/\PyData.canLayAll0 xs=true/\PyData.depthAll xs=bZ ds/\PyData.eqvAll xs xs=true
 | [],_=>⟨[],rfl,by simp [PyData.canLayAll0],by simp [PyData.depthAll,bZ],by simp [PyData.eqvAll]⟩
 | d::ds,h=>by
  have h':mz d=true/\fm ds=true:=by simpa [fm] using h
  obtain ⟨a,a1,a2,a3,a4⟩:=x4 d h'.1;obtain ⟨xs,e1,e2,e3,e4⟩:=u6 ds h'.2;exact ⟨a::xs,by simp [W.pys,a1,e1],by simp [PyData.canLayAll0,a2,e2],by simp [PyData.depthAll,bZ,a3,e3],by simp [PyData.eqvAll,a4,e4]⟩
end
theorem vg:∀ (a b:List W),fm (a++b)=(fm a&&fm b)
 | [],b=>by rfl
 | d::a,b=>by simp [fm,vg a b,Bool.and_assoc]
theorem r6:∀ (a b:List W),bZ (a++b)=max (bZ a) (bZ b)
 | [],b=>by rfl
 | d::a,b=>by simp [bZ,r6 a b]
theorem Dl (h:∀ d∈ds,mz d=true):fm ds=true:=by
 induction ds with
 | nil=>rfl
 | cons d ds ih=>simp [fm,h d _,ih λ e he=>h e (by simp [he])]
theorem zB (h:∀ d∈ds,gQ d<=n):bZ ds<=n:=by
 induction ds with
 | nil=>simp [bZ]
 | cons d ds ih=>
  have:=h d (by simp);have:=ih λ e he=>h e (by simp [he]);simp [bZ];omega
theorem Ck (h:mz d=true) (b:Bool) (e:LS d d=some b):b=true:=by
 cases d with
 | none=>exact SV e.symm
 | int i=>exact (SV e).symm.trans (by simp)
 | bool i=>exact (SV e).symm.trans (by simp)
 | str i=>exact (SV e).symm.trans (by simp)
 | _=>cases e
theorem v5 (h:mz d=true) (hd:gQ d<=64):bw d d=some true:=by
 obtain ⟨a,a1,a2,a3,a4⟩:=x4 d h;unfold bw;split
 . rename_i b e;rw [Ck h b e]
 simp_all
theorem C6 (h:mz d=true) (hd:gQ d<=64):yH d d=some false:=by
 unfold yH;rw [v5 h hd];rfl
theorem HK (l:List α) (k:Nat) (h:k<l.length):jS l (k:Int)=l[k]?:=by
 unfold jS Fu
 simp_all
theorem DF (a b c:α) (r:List α):jS (a::b::c::r) 2=some c:=(HK _ 2 (by simp)).trans rfl
theorem Ol (a b c d:α) (r:List α):jS (a::b::c::d::r) 3=some d:=(HK _ 3 (by simp)).trans rfl
theorem Nv (a b c d e:α) (r:List α):jS (a::b::c::d::e::r) 4=some e:=(HK _ 4 (by simp)).trans rfl
theorem pL (x:W) (r:List W):jQ (x::r) (some 1) none=r:=by
 unfold jQ;rw [HT.sIx_none,show some 1=some ((1:Nat):Int) from rfl,HT.sIx_nat]
 simp_all
theorem Il (l:List W) (a b:Nat):jQ l (some (a:Int)) (some (b:Int))=(l.drop a).take (b-a):=by
 unfold jQ;rw [HT.sIx_nat,HT.sIx_nat];rcases TM _ a with h | h
 . rw [List.drop_of_length_le (Tb h),show min a _=l.length by omega,Uj];simp
 . rw [show min a _=a by omega];rcases TM l.length b with h2 | h2
   . rw [show min b _=l.length by omega,Se (by simp),Se (by simp;omega)]
   simp_all
theorem DW (l:List W) (a:Nat):jQ l (some (a:Int)) none=l.drop a:=by
 unfold jQ;rw [HT.sIx_nat,HT.sIx_none];rcases TM _ a with h | h
 . rw [List.drop_of_length_le (Tb h),show min a _=l.length by omega,Uj];simp
 . rw [show min a _=a by omega,Se (by simp)]
theorem bT {f:DS->aq->SM W} (h:f δ S=some (.ok d,S1)):bd f δ S=some (.nx δ,S1):=by unfold bd;rw [h];rfl
theorem bB {f:List W->aq->SM W} {fa:DS->aq->SM (List W)} (h1:fa δ S=some (.ok ds,S1)) (h2:f ds S1=some (.ok d,S2)):cy f fa δ S=some (.ok d,S2):=by
 unfold cy;rw [h1];show E2 _=_;rw [h2];rfl
theorem lF {f:List W->aq->SM W} {fa:DS->aq->SM (List W)} (h1:fo δ=some (.ref I)) (h2:S[I]?=some (.ins c fs)) (h3:fs.lookup m=none) (h4:fa δ S=some (.ok ds,S1)) (h5:f (.ref I::ds) S1=some (.ok d,S2)):bS c m f (ab fo) fa δ S=some (.ok d,S2):=by
 unfold bS ab;rw [h1];show (iW c _ S).bind _=_;rw [show iW c _ S=some (I,fs) by simp [iW,eK,h2]];show (if fs.lookup m=none then _ else _)=_;rw [Rt h3,h4];show E2 _=_;rw [h5];rfl
theorem d9 {f:DS->Option α} {d:α} (h:f δ=some d):ab f δ S=some (.ok d,S):=by unfold ab;rw [h];rfl
theorem aR (h:f δ=some (.nx δ')):aJ f δ S=some (.nx δ',S):=by unfold aJ;rw [h];rfl
theorem sQ (h:f δ=some (.rt d)):aJ f δ S=some (.rt d,S):=by unfold aJ;rw [h];rfl
theorem vI {f g:DS->aq->SO} (h:f δ S=some (.rt d,S')):aA f g δ S=some (.rt d,S'):=by unfold aA;rw [h]
theorem jq {f:DS->aq->SM W} (h:f δ S=some (.ok d,S1)):iX f δ S=some (.rt d,S1):=by unfold iX;rw [h];rfl
theorem set_ne' {S:aq} (h:S[k]?=some o) (hne:m≠k):(S.set m x)[k]?=some o:=by simp_all
theorem set_eq' {S:aq} (h:S[m]?=some o):(S.set m x)[m]?=some x:=mT (oG h).1
theorem bK {S:aq} {m k:Nat} (h:S[m]?=some o) (h2:S[k]?=some x) (hne:o≠x):m≠k:=λ e=>hne (by simp_all)
theorem cQ [DecidableEq κ] (kvs:List (κ×W)) (k:κ) (x:W):(bo kvs k x).length<=kvs.length+1:=by
 unfold bo
 grind
theorem ck (S:aq) (o:Ob):(S++[o])[S.length]?=some o:=by simp
theorem ji {f:DS->aq->SM W} {g:DS->aq->SM (List W)} (h1:f δ S=some (.ok d,S1)) (h2:g δ S1=some (.ok ds,S2)):aT f g δ S=some (.ok (d::ds),S2):=by
 unfold aT;rw [h1];show aw (g δ S1) _=_;rw [h2];rfl
theorem xg {fa:DS->aq->SM (List W)} {fx:DS->aq->SM W} (h1:fa δ S=some (.ok [x],S1)) (h2:fx δ S1=some (.ok y,S2)) (h3:Mm x y=some ds):oF fa fx δ S=some (.ok ds,S2):=by
 simp only [oF,h1,aw,h2,qN,h3,Sw]
theorem hV {fv:DS->aq->SM W} (h1:fv δ S=some (.ok d,S1)) (h2:fo δ=some (.ref n)) (h3:S1[n]?=some (.ins c fs)) (h4:fs.length<1000):fM c f (ab fo) fv δ S=some (.nx δ,S1.set n (.ins c (fA f d fs))):=by
 have h5:iW c (.ref n) S1=some (n,fs):=by simp [iW,eK,h3]
 simp only [fM,h1,mj,ab,h2,Sw,h5,RG,Rt h4]
theorem CT {f:List W->aq->SM W} {fa:DS->aq->SM (List W)} (h1:fa δ S=some (.ok ds,S1)) (h2:f (.ref S1.length::ds) (S1++[.ins c []])=some (.ok .none,S2)):yV c f fa δ S=some (.ok (.ref S1.length),S2):=by
 simp only [yV,h1,aw,h2,E2]
theorem jm {S S':aq} {n m:Nat} (hk:∀ k,k≠n->S'[k]?=(S++[x])[k]?) (hn:n=S.length) (h:S[m]?=some o):S'[m]?=some o:=by
 grind
theorem Ih {f g:DS->aq->SM Bool} (h1:f δ S=some (.ok false,S1)):vy f g δ S=some (.ok false,S1):=by simp only [vy,h1,aw,Sr,Up]
theorem Km {f g:DS->aq->SM Bool} (h1:f δ S=some (.ok true,S1)) (h2:g δ S1=some (.ok b,S2)):vy f g δ S=some (.ok b,S2):=by simp only [vy,h1,aw,UD,h2]
theorem dA {κ:Type} [DecidableEq κ] (kvs:List (κ×W)) (k q:κ) (x:W):aL (bo kvs k x) q=if q=k then some x else aL kvs q:=by
 by_cases h:aL kvs k=none
 . rw [hJ x h,vv kvs k q x h]
 . have ha:(kvs.any λ kv=>decide (kv.1=k))=true:=by
    cases e:kvs.any λ kv=>decide (kv.1=k) with
    | true=>rfl
    | false=>
     exact absurd (by
      unfold aL;rw [List.find?_eq_none.mpr λ z hz=>by simpa using List.any_eq_false.mp e z hz];rfl) h
   unfold bo;rw [Rt ha];clear ha;induction kvs with
   | nil=>simp [aL] at h
   | cons p r ih=>
    obtain ⟨j,y⟩:=p;by_cases hj:j=k
    . subst hj;by_cases hq:q=j
      . subst hq;simp [aL,Si]
      . have hq':¬ j=q:=λ z=>hq z.symm;rw [RJ hq];clear ih h;simp only [aL,RU,UD,Si,hq',U0];induction r with
        | nil=>rfl
        | cons p r ih=>
         obtain ⟨i,z⟩:=p;by_cases hi:i=j
         . subst hi;simpa [Si,hq'] using ih
         . by_cases hiq:i=q
           . subst hiq;simp [Si,hi]
           . simpa [Si,hi,hiq] using ih
    . have h':¬ aL r k=none:=by simpa [aL,Si,hj] using h
      have ih':=ih h';by_cases hjq:j=q
      . subst hjq;simp [aL,Si,hj]
      . simpa [aL,Si,hj,hjq] using ih'
inductive Al (R:W->W->Prop):List W->List W->Prop
 | nil:Al R [] []
 | cons {x y:W} {a b:List W}:R x y->Al R a b->Al R (x::a) (y::b)
theorem Al.app (h:Al R a b) (g:Al R c d):Al R (a++c) (b++d):=by
 induction h with
 | nil=>exact g
 | cons r _ ih=>exact .cons r ih
theorem Al.refl:∀ {a:List W},(∀ x∈a,R x x)->Al R a a
 | [],_=>.nil
 | x::a,h=>.cons (h x (by simp)) (Al.refl λ y hy=>h y (by simp [hy]))
theorem Em {fe:DS->aq->SM W} (hl:fO S n=some es) (hh:∀ x y,R x y->∃ δ2,h x δ=some δ2/\fe δ2 S=some (.ok y,S)) (A:Al R a b):∀ (m i:Nat),es.drop i=a->a.length<m->bE n h (ab zQ) fe δ m i S=some (.ok b,S):=by
 induction A with
 | nil=>
  intro m i e hm;obtain ⟨m,rfl⟩:∃ k,m=k+1:=⟨m-1,by omega⟩
  show (fO S n).bind _=_
  simp_all
 | cons r _ ih=>
  rename_i x y a b _;intro m i e hm;obtain ⟨m,rfl⟩:∃ k,m=k+1:=⟨m-1,by omega⟩
  have hi:i<es.length:=Nat.lt_of_not_le λ hc=>by grind
  rw [Sn hi] at e;obtain ⟨e1,e2⟩:=List.cons.inj e;obtain ⟨δ2,h1,h2⟩:=hh x y r;show (fO S n).bind _=_;rw [hl];show (match es[i]? with | none=>_ | some d=>_)=_;rw [RQ hi,e1];show (h x δ).bind _=_;rw [h1];show aw _ _=_;rw [h2];show aw (bE n h _ fe δ m _ S) _=_;rw [ih m _ e2 (by simp_all)];rfl
noncomputable def fV:Nat->List W->List W
 | _,[]=>[]
 | k,x::r=>.tuple [.int (k:Int),x]::fV (k+1) r
theorem yO:∀ (l:List W) (k i:Nat),(fV k l)[i]?=(l[i]?).map λ x=>.tuple [.int ((k+i:Nat):Int),x]
 | [],k,i=>by rfl
 | x::l,k,0=>by rfl
 | x::l,k,i+1=>by
  simp only [fV,T3,yO l _ i]
  grind
theorem zh (l:List W) (k:Nat):ip k l=fV k l:=by
 apply UF;intro i;rw [yO];unfold ip
 grind
theorem fg (l:List W):kh l=fV 0 l:=by
 rw [<-zh];unfold kh ip;simp
theorem Pa (l:List W) (n:Nat) (h:n<=9000):Mm (.list l) (.int ((n:Int)+1))=some (fV (n+1) l):=by
 have hz:0<=(n:Int)+1/\(n:Int)+1<2^62:=by omega
 simp only [Mm,  <-zh]
 simp_all
noncomputable def uD:=And.intro @b7.eq_1 <| And.intro @GN.eq_1 <| And.intro @GN.eq_2 <| And.intro @GN.eq_3 <| And.intro @dg.eq_1 <| And.intro @av.eq_1 <| And.intro @ak.eq_1 <| And.intro @bg.eq_1 <| And.intro @az.eq_1 <| And.intro @IU.eq_1 <| And.intro @aD.eq_1 <| And.intro @fj.eq_1 <| And.intro @jD.eq_1 <| And.intro @frz.eq_1 <| And.intro @d5.eq_1 <| And.intro @bF.eq_1 <| And.intro @KI.eq_1 <| And.intro @nI.eq_1 <| And.intro @ae.eq_1 <| And.intro @ar.eq_1 <| And.intro @dC.eq_1 <| And.intro @ao.eq_1 <| And.intro @au.eq_1 <| And.intro @dB.eq_1 <| And.intro @my.eq_1 <| And.intro @Ac.eq_1 <| And.intro @CJ.eq_1 <| And.intro @Dc.eq_1 <| And.intro @OE.eq_1 <| And.intro @gT.eq_1 <| And.intro @qV.eq_1 <| And.intro @aV.eq_1 <| And.intro @aa.eq_1 <| And.intro @ah.eq_1 <| And.intro @aB.eq_1 <| And.intro @aZ.eq_1 <| And.intro @be.eq_1 <| And.intro @ku.eq_1 <| And.intro @tH.eq_1 <| And.intro @bm.eq_1 <| And.intro @af.eq_1 <| And.intro @dy.eq_1 <| And.intro @dy.eq_2 <| And.intro @aQ.eq_1 <| And.intro @aQ.eq_2 <| And.intro @dJ.eq_1 <| And.intro @dJ.eq_2 <| And.intro @ve.eq_1 <| And.intro @d8.eq_1 <| And.intro @cw.eq_1 <| And.intro @kr.eq_1 <| And.intro @O1.eq_1 <| And.intro @oI.eq_1 <| And.intro @yg.eq_1 <| And.intro @dI.eq_1 <| And.intro @qS.eq_1 <| And.intro @qS.eq_2 <| And.intro @zQ.eq_1 <| And.intro @Fk.eq_1 <| And.intro @jG.eq_1 <| And.intro @IQ <| And.intro @CV <| And.intro @JJ <| And.intro @Ip <| And.intro @Jj <| And.intro @IX <| And.intro @M7 <| And.intro @MO <| And.intro @FH <| And.intro @KC <| And.intro @Jr <| And.intro @Kj <| And.intro @K8 <| And.intro @Ht <| And.intro @vY <| And.intro @M4 <| And.intro @Nh <| And.intro @M9 <| And.intro @Ml <| And.intro @Mw <| And.intro @LB <| And.intro @MF <| And.intro @LC <| And.intro @MX <| And.intro @EU <| And.intro @G9 <| And.intro @EK <| And.intro @FJ <| And.intro @Fv <| And.intro @Kv <| And.intro @Jd <| And.intro @K2 <| And.intro @K4 <| And.intro @Jg <| And.intro @Ff <| And.intro @Ez <| And.intro @GD <| And.intro @IZ <| And.intro @Kq <| And.intro @RM.{0} <| And.intro @List.length_nil.{0} <| And.intro @RU.{0,0} <| And.intro @UX.{0,0} <| And.intro @Th.{0} <| And.intro @TB.{0} <| And.intro @List.getElem?_cons_zero.{0} <| And.intro @T3.{0} <| And.intro @List.set_cons_zero.{0} <| And.intro @List.set_cons_succ.{0} <| And.intro @RG.{0,0} <| And.intro @Sw.{0,0} <| And.intro @Option.bind_none.{0,0} <| And.intro @Option.map_none.{0,0} <| And.intro @Option.getD_some.{0} <| And.intro @Option.getD_none.{0} <| And.intro @UD.{1} <| And.intro @TQ <| And.intro @U0 <| And.intro @Bool.not_true <| And.intro @Bool.not_false <| And.intro @Sr <| And.intro @ne_eq.{1} <| @not_false_eq_true
noncomputable def uS:=And.intro @bJ.eq_1 <| And.intro @eF.eq_1 <| And.intro @eF.eq_2 <| And.intro @eF.eq_3 <| And.intro @eF.eq_4 <| And.intro @aA.eq_1 <| And.intro @dm.eq_1 <| And.intro @iX.eq_1 <| And.intro @cr.eq_1 <| And.intro @bd.eq_1 <| And.intro @aJ.eq_1 <| And.intro @mj.eq_1 <| And.intro @mj.eq_2 <| And.intro @mj.eq_3 <| And.intro @aw.eq_1 <| And.intro @aw.eq_2 <| And.intro @aw.eq_3 <| And.intro @qN.eq_1 <| And.intro @ab.eq_1 <| And.intro @gy.eq_1 <| And.intro @bS.eq_1 <| And.intro @cy.eq_1 <| And.intro @gP.eq_1 <| And.intro @E2.eq_1 <| And.intro @E2.eq_2 <| And.intro @Eu.eq_1 <| And.intro @Eu.eq_2 <| And.intro @Eu.eq_3 <| And.intro @Eu.eq_4 <| And.intro @fw.eq_1 <| And.intro @aT.eq_1 <| And.intro @OH.eq_1 <| And.intro @Pz.eq_1 <| And.intro @vy.eq_1 <| And.intro @Ll.eq_1 <| And.intro @y8.eq_1 <| And.intro @CA.eq_1 <| And.intro @MM.eq_1 <| And.intro @sB.eq_1 <| And.intro @Pg.eq_1 <| And.intro @N8.eq_1 <| And.intro @t8.eq_1 <| And.intro @Ou.eq_1 <| And.intro @wt.eq_1 <| And.intro @JL.eq_1 <| And.intro @Bc.eq_1 <| And.intro @sIx.eq_1 <| And.intro @Lz.eq_1 <| And.intro @OT.eq_1 <| And.intro @z7.eq_1 <| And.intro @z7.eq_2 <| And.intro @z7.eq_3 <| And.intro @MS.eq_1 <| And.intro @Bd.eq_1 <| And.intro @wV.eq_1 <| And.intro @JF.eq_1 <| And.intro @kM.eq_1 <| @Option.map_eq_map.{0}
section
variable {X:Cx}
end
section
variable {K:Frag} {cl:Str->Addr} {E:XK}
noncomputable def qv (fo fv:DS->aq->SM W):DS->aq->SO:=λ δ S=>mj (fo δ S) λ x S1=>if (fH x S1).isSome=true then mj (fv δ S1) λ d S2=>(jT d).bind λ es=>(fH x S2).bind λ p=>if p.2.length+es.length<=sizeLine then some (.nx δ,S2.set p.1 (.lst (p.2++es))) else none else none
theorem zR (ho:SE K cl E to fo) (hv:SE K cl E tv fv):oh K cl E (qz (HE K "list" (lS K) to (dj tv gN))) (qv fo fv):=λ ρ0 G0 H0 ρ G σ H δ S o S' D I e p=>
 fq ho I e p λ x S1 e1 u ρ1 G1 H1 g1 s1 du=>by
  split at e1
  case isFalse=>cases e1
  rename_i hx;obtain ⟨⟨n,ds0⟩,hx0⟩:=TW.mp hx;obtain ⟨rfl,h0⟩:=cM hx0;obtain ⟨a,rfl,ea⟩:=cD du;obtain ⟨_,vs0,k0,_⟩:=s1.addr h0 ea;have I1:=I.grow g1 s1;refine ⟨.inl ⟨rfl,vs0,cG.of k0⟩,fq hv I1 e1 p λ d S2 e2 v ρ2 G2 H2 g2 s2 dv=>?_⟩;obtain ⟨es,ee,e2⟩:=oB e2
  obtain ⟨⟨m,ds⟩,e3,e4⟩:=oB e2
  split at e4
  case isFalse=>cases e4
  rename_i hl;cases e4;cases jj ee;obtain ⟨b,ys,rfl,sq,da⟩:=tG dv;obtain ⟨em,e5⟩:=cM e3;cases em;have ea2:=lY g2.r ea;obtain ⟨ga,vs,k1,k2⟩:=s2.addr e5 ea2;obtain ⟨s3,g3⟩:=s2.put  (o':=.lst _) g2.s e5 ea2 (λ b z=>by cases z) ⟨_,aG,k2.app da⟩;exact ⟨a,b,vs,ys,rfl,rfl,k1,g2.s.seq sq,by rw [k2.length,da.length];exact hl,p σ _ G2 _ ((I1.grow g2 s2).grow g3 s3)⟩
end
section
variable {prog:Program} {w:World} {A:Around} {E:Value->Shared->Prop} {s:Shared}
variable {es:Array DictEntry} {ep:Nat} {key:Value} {h:Int} {m:Nat->Bool} {d:Addr} {o:Obj}
end
section
variable {P:Program} {w:World} {A:Around} {E:Value->Shared->Prop} {s:Shared}
noncomputable def nD (ks:List b8):Nat:=ks.length+1
end
section
variable {P:Program} {w:World} {H:Hp} {h:Heap} {a:Addr}
end
section
variable {X:Cx} {pins:List (Addr×Obj)} {σ:St} {H:Hp} {s:Shared} {a:Addr} {kvs:List (List b8×V)} {ks:List b8} {y z:V} {u dv:Value} {A:Around} {E:Value->Shared->Prop}
end
section
variable {X:Cx} {o e f:Expr} {td ty tx:TE} {apos cpos pos:Pos}
end
section
variable {K:Frag} {cl:Str->Addr} {E:XK}
noncomputable def Re (x:W) (S:aq):Option (Nat×List (List b8×W)):=match eK x S with
 | some (n,.dN kvs)=>some (n,kvs)
 | _=>none
noncomputable def DJ (K:Frag) (t:TE):TT:=λ σ H Q=>t σ H λ x H'=>∃ k,GA K x H' k/\Q k H'
theorem NC (hK:X.K=K) (ha:PE X a ta) (he:∀ whole,isTrue a X.env whole=(do let v <-whole;standAt a.pos;holding [v] (truthy v))):PT X a (DJ K ta):=hK▸Bx ha he
noncomputable def sk (f:DS->aq->SM W):DS->aq->SM Bool:=λ δ S=>aw (f δ S) λ x S1=>qN ((fH x S1).map λ p=>!p.2.isEmpty) S1
theorem GM (h:SE K cl E t f):ST K cl E (DJ K t) (sk f):=λ ρ G σ H δ S r S' Q R e q qx=>
 ci h R e (λ x S1 e1 v ρ1 G1 H1 g1 s1 dv=>by
  obtain ⟨b,e2,rfl,rfl⟩:=bU e1;obtain ⟨⟨n,ds⟩,e3,rfl⟩:=oM e2
  obtain ⟨rfl,e4⟩:=cM e3;obtain ⟨a,rfl,ea⟩:=cD dv;obtain ⟨ga,vs,k1,k2⟩:=s1.addr e4 ea;have hl:vs.isEmpty=ds.isEmpty:=by
   have:=k2.length;cases vs <;> cases ds <;> simp_all
  exact ⟨!ds.isEmpty,.inl ⟨vs,cG.of k1,by rw [hl]⟩,q _ rfl _ G1 H1 g1 s1⟩) qx
end
section
variable {P:Program} {w:World} {A:Around} {E:Value->Shared->Prop} {s:Shared} {d:Addr} {o:Obj} {es:Array DictEntry} {ep:Nat}
end
section
variable {K:Frag} {cl:Str->Addr} {E:XK}
noncomputable def vG (x:W) (S:aq):Option (Nat×List (List b8×W)):=match eK x S with
 | some (n,.dT kvs)=>some (n,kvs)
 | _=>none
theorem rR (h:vG x S=some (n,kvs)):x=.ref n/\S[n]?=some (.dT kvs):=by
 unfold vG at h;cases e:eK x S with
 | none=>simp_all
 | some p=>
  obtain ⟨m,o⟩:=p;rw [e] at h;cases o with
  | dT ds=>cases h;exact dH e
  | _=>cases h
end
section
variable {X:Cx} {K:Frag}
end
section
variable {K:Frag} {ρ:List Addr}
noncomputable def JD:W->Option Str
 | .str z=>some z
 | _=>none
theorem Fp (h:JD d=some z):d=.str z:=by
 cases d <;> first | (cases h;rfl) | cases h
noncomputable def tY (f:DS->Option W) (lo hi:DS->Option (Option Int)):DS->Option W:=λ δ=>(f δ).bind λ d=>(JD d).bind λ z=>(lo δ).bind λ l=>(hi δ).bind λ u=>if z.length<=1000 then some (.str (Txt.slice z l u)) else none
theorem JK {lo hi:DS->Option (Option Int)} (h:DE K ρ t f) (hl:FG K ρ tl lo) (hh:FG K ρ th hi):DE K ρ (NE (λ x lo hi H Q=>∃ z,x=.str z/\z.length<=sizeLine/\Q (.str (Txt.slice z lo hi)) H) t tl th) (tY f lo hi):=λ G σ H δ d Q R e q=>by
 obtain ⟨x,ed,e⟩:=oB e
 obtain ⟨z,ee,e⟩:=oB e
 obtain ⟨l,el,e⟩:=oB e
 obtain ⟨u,eu,e4⟩:=oB e
 cases Fp ee;by_cases hz:z.length<=1000
 . rw [Rt hz] at e4;cases e4;refine h G σ H δ _ _ R ed λ v G1 H1 g1 dv=>hl G1 σ H1 δ l _ (R.grow g1) el λ G2 H2 g2=>hh G2 σ H2 δ u _ ((R.grow g1).grow g2) eu λ G3 H3 g3=>?_;cases wX dv;exact ⟨z,rfl,Sb hz (by decide),q _ G3 H3 (g1.trans (g2.trans g3)) (.str _)⟩
 simp_all
noncomputable def vf:W->W->Option W
 | .str z,.int n=>if (decide (0<=n)&&decide (n<=1000)&&decide (z.length<=1000))=true then some (.str (Txt.mul z n)) else none
 | _,_=>none
theorem GQ:DR K ρ HS vf:=λ G H x y d e c Q s hx hy hg q=>by
 unfold vf at hg;split at hg
 . rename_i z n;split at hg
   . rename_i hc;cases hg;simp only [RY,R5] at hc;cases sR hx;cases eW hy;exact ⟨z,n,rfl,rfl,hc.1.1,hc.1.2,hc.2,q _ G H (.refl s) (.str _)⟩
   . cases hg
 . cases hg
theorem vZ (x:Array Nat):∀ (n:Nat) (a:Array Nat) (c:Nat),c∈((List.replicate n x).foldl (·++·) a).toList->c∈a.toList∨c∈x.toList
 | 0,a,c,h=>.inl h
 | n+1,a,c,h=>by
  rcases vZ x n _ c h with h | h
  . simp_all
  simp_all
theorem i4.mul (h:i4 z) (n:Int):i4 (Txt.mul z n):=by
 rw [lC] at *;intro c hc;unfold Txt.mul at hc;split at hc
 . exact absurd hc (by simp [Str.empty])
 . split at hc
   . grind
   . rcases vZ _ _ _ c hc with h' | h'
     . simp_all
     simp_all
end
section
variable {K:Frag} {ρ:List Addr}
theorem Ij (h:Dw K ρ G v (.list ds)):GA K v G (!ds.isEmpty):=by
 obtain ⟨p,vs,rfl,sq,da⟩:=tG h;have hl:vs.isEmpty=ds.isEmpty:=by
  have:=da.length;cases vs <;> cases ds <;> simp_all
 exact .inl ⟨vs,sq,by rw [hl]⟩
end
section
variable {X:Cx} {K:Frag}
theorem CQ {ws:List Value} (ht:IsTup s.heap t ([]:List Value).toArray) (hb:IsTup s.heap b ws.toArray) (h0:Q (.ref b) s):wpAny (model prog w) A (binaryOp .Add (.ref t) (.ref b)) Q E s:=by
 obtain ⟨⟨cls,dd,data,sl⟩,ho,hc,n,hd⟩:=id ht;obtain ⟨⟨cls2,dd2,data2,sl2⟩,ho2,hc2,n2,hd2⟩:=id hb;subst hc hd hc2 hd2;exact concat_meets ⟨_,ho,rfl⟩ ⟨_,ho2,rfl⟩ noFill_tuple_add seq_tuple_add PySem.F.slot_tuple_add PySem.F.entry_tuple_add (PySem.F.args_tuple_add_2 _ _) (tuple_addW0 t b _ _ n n2 dd _ sl _ (by simp)) ⟨ho,ho2,h0⟩
noncomputable def Hj (K:Frag):R2:=λ x y H Q=>∃ a b ys,x=.ref a/\y=.ref b/\eZ K H a []/\eZ K H b ys/\Q (.ref b) H
theorem FA:fX X (binaryOp .Add) (Hj X.K):=by
 intro pins s σ H x y v u Q I rx ry h;obtain ⟨a,b,ys,rfl,rfl,ha,hb,q⟩:=h;cases rx;cases ry;obtain ⟨its,r1,p1,_⟩:=I.tuple ha;obtain ⟨its2,r2,p2,_⟩:=I.tuple hb;cases r1;exact CQ p1 p2 ⟨.ref b,H,I,rfl,q⟩
noncomputable def HC (K:Frag):R2:=λ x y H Q=>y6 K x y H Q∨Hj K x y H Q
theorem NS (h:X.K=K):fX X (binaryOp .Add) (HC K):=by
 subst h;exact (F1 rfl).or FA
noncomputable def CM:W->W->Option W
 | .tuple [],.tuple b=>some (.tuple b)
 | x,y=>bI x y
theorem Gm:DR K ρ (HC K) CM:=λ G H x y d e c Q s hx hy hg q=>by
 unfold CM at hg;split at hg
 . cases hg;obtain ⟨p,vs,rfl,sq,da⟩:=pq hx;obtain ⟨p2,vs2,rfl,sq2,da2⟩:=pZ hy;cases da;exact .inr ⟨p,p2,vs2,rfl,rfl,s.tup (eZ.of sq),s.tup (eZ.of sq2),q _ G H (.refl s) (.tup sq2 da2)⟩
 . exact .inl (tm G H x y d e c Q s hx hy hg q)
end
section
variable {K:Frag} {cl:Str->Addr} {E:XK}
end
noncomputable def KF (K:Frag) (mg:Str->Option Value) (x:Str) (ps:List Str) (us:List Value) (f:Addr) (fd:FuncData):Prop:=mg x=some (.ref f)/\PySem.W.keepIn K (.ref f)=true/\cP K fd ps []/\cP K fd ps us
noncomputable def Ce (R:Addr->FuncData->Prop) (P:Program) (w:World) (K:Frag) (mg:Str->Option Value) (base:Heap) (k:Nat) (ps:List Str) (sp:Sp):Prop:=∃ f fd,R f fd/\eP P w K mg base H9 k f fd ps sp
noncomputable def w6 (R:Addr->FuncData->Prop) (K:Frag) (x q:Str) (st:Stmt):Prop:=∃ f fd,GU K x q st f fd/\R f fd
noncomputable abbrev im (K:Frag) (mg:Str->Option Value) (x:Str) (ps:List Str) (us:List Value) (st:Stmt):Prop:=w6 (KF K mg x ps us) K x x st
noncomputable abbrev io (P:Program) (w:World) (K:Frag) (mg:Str->Option Value) (base:Heap) (x:Str) (ps:List Str) (us:List Value) (k:Nat) (sp:Sp):Prop:=Ce (KF K mg x ps us) P w K mg base k ps sp
section
variable {X:Cx} {x:Str} {o e:Expr} {es:List Expr} {t:TA} {ps:List Str} {us:List Value} {sp:Sp} {p pos:Pos} {K:Frag} {T:String} {name:Str} {r:V->List V->Hp->VK->Prop} {q:List V->Hp->VK->Prop} {to:TE} {apos:Pos}
noncomputable def L6 (X:Cx) (x:Str) (us:List Value) (sp:Sp):Prop:=∃ j k ps,Ce (KF X.K X.mg x ps us) X.prog X.w X.K X.mg X.base j ps sp/\dq k X.A/\j<=k
theorem Q5 (h:∃ us,L6 X x us sp) (hg:Gl X x) (ha:PA X (e::es) t) (hd:(x==("__debug__" : Str))=false)
 (he:starEach (e::es) X.env=(false,eval e X.env)::starEach es X.env) (hp:(backTo pos (starEach es X.env)).any (·.1)=false):PE X (.Call (.Name x p) (e::es) [] pos) (q0 sp [] E0 t):=by
 obtain ⟨us,j,k,ps,⟨f,fd,⟨m,kp,b,_⟩,F⟩,hr,hl⟩:=h;exact yu (F.mono hl) hr hg m kp b .nil Hs ha hd he hp
theorem QA (h:L6 X x [.none] sp) (hg:Gl X x) (ha:PA X (e::es) t) (hd:(x==("__debug__" : Str))=false)
 (he:starEach (e::es) X.env=(false,eval e X.env)::starEach es X.env) (hp:(backTo pos (starEach es X.env)).any (·.1)=false):PE X (.Call (.Name x p) (e::es) [] pos) (q0 sp [.non] E0 t):=by
 obtain ⟨j,k,ps,⟨f,fd,⟨m,kp,_,b⟩,F⟩,hr,hl⟩:=h;exact yu (F.mono hl) hr hg m kp b Ct Hs ha hd he hp
noncomputable def QM (X:Cx) (T:String) (name:Str) (r:V->List V->Hp->VK->Prop):Prop:=∃ id,PlainAttrs T/\Slot T name id/\typeOf (.builtin id)=pure (.type "method_descriptor")/\Ng X id r
noncomputable def QB (X:Cx) (x:Str) (q:List V->Hp->VK->Prop):Prop:=∃ id,bN X (.builtin id) q/\bootBuiltins x=some (.builtin id)
theorem Qw:QM X "list" "append" oW:=⟨_,T4,PySem.F.slot_list_append,PySem.F.type_list_append,zJ⟩
theorem QE:QM X "list" "extend" (lS X.K):=⟨_,T4,PySem.F.slot_list_extend,PySem.F.type_list_extend,wZ⟩
theorem Qg:QM X "list" "pop" Je:=⟨_,T4,PySem.F.slot_list_pop,PySem.F.type_list_pop,Kx⟩
theorem Qv (h:X.K=K):QB X "len" (yN K):=⟨_,AD h,PySem.boot_len⟩
theorem Qb:QB X "isinstance" Fn:=⟨_,rQ,boot_isinstance⟩
theorem OP (h:X.K=K):QB X "isinstance" (D6 K):=⟨_,AO h,boot_isinstance⟩
theorem QD (h:X.K=K) (hm:QM X T name r) (ho:PE X o to) (hb:attributeBase o name X.env (eval o X.env)=eval o X.env) (hl:(apos.endLine==pos.line)=true):PE X (.Call (.Attribute o name apos) [] [] pos) (Hc K T r to):=by
 obtain ⟨_,a,b,c,d⟩:=hm;exact Fi h a b c d ho hb hl
theorem QK (h:X.K=K) (hm:QM X T name r) (ho:PE X o to) (ha:PA X (e::es) t) (hb:attributeBase o name X.env (eval o X.env)=eval o X.env)
 (hf:((backTo pos (starEach (e::es) X.env)).all (λ x=>!x.1)&&(backToKw pos (keywordEach [] X.env)).all (λ x=>x.1.isSome)
  && decide ((e::es).length+([]:List Keyword).length+(if ([]:List Keyword).isEmpty then 0 else 1)<30))=true)
 (hl:(apos.endLine==pos.line)=true) (hs:starEach (e::es) X.env=(false,eval e X.env)::starEach es X.env) (hp:(backTo pos (starEach es X.env)).any (·.1)=false):
 PE X (.Call (.Attribute o name apos) (e::es) [] pos) (HE K T r to t):=by
 obtain ⟨_,a,b,c,d⟩:=hm;exact JG h a b c d ho ha hb hf hl hs hp
theorem Q9 (hq:QB X x q) (hg:Gl X x) (hm:X.mg x=none) (ha:PA X (e::es) t) (hn:x ≠ "__name__") (hd:(x==("__debug__" : Str))=false)
 (he:starEach (e::es) X.env=(false,eval e X.env)::starEach es X.env) (hp:(backTo pos (starEach es X.env)).any (·.1)=false):PE X (.Call (.Name x p) (e::es) [] pos) (tN q t):=by
 obtain ⟨_,a,b⟩:=hq;exact Cg a hg hm b ha hn hd he hp
theorem Qz (h:X.K=K) (hg:Gl X "list") (hm:X.mg "list" = none) (ha:PA X (e::es) t)
 (he:starEach (e::es) X.env=(false,eval e X.env)::starEach es X.env) (hp:(backTo pos (starEach es X.env)).any (·.1)=false):PE X (.Call (.Name "list" p) (e::es) [] pos) (tN (tL K) t):=mR (qZ h) hg hm boot_list ha (by decide) (by decide) he hp
end
section
variable {X:Cx} {x:Str} {us:List Value} {sp:Sp} {j k:Nat} {ps:List Str} {pos:Pos}
theorem PX (h:Ce (KF X.K X.mg x ps us) X.prog X.w X.K X.mg X.base j ps sp) (hr:dq k X.A) (hl:j<=k):L6 X x us sp:=⟨j,k,ps,h,hr,hl⟩
theorem PQ (h:Ce (KF X.K X.mg x ps us) X.prog X.w X.K X.mg X.base j ps sp) (hr:dq k X.A) (hl:j<=k):∃ us,L6 X x us sp:=⟨us,j,k,ps,h,hr,hl⟩
theorem Ro (hg:Gl X "list") (hm:X.mg "list" = none):PE X (.Name "list" pos) (tC (.ty "list")):=oU hg hm boot_list rfl (by decide) (by decide)
theorem QN (hg:Gl X "int") (hm:X.mg "int" = none):PE X (.Name "int" pos) (tC (.ty "int")):=oU hg hm (by rfl:bootBuiltins _=some _) rfl (by decide) (by decide)
theorem QQ (hg:Gl X "bool") (hm:X.mg "bool" = none):PE X (.Name "bool" pos) (tC (.ty "bool")):=oU hg hm boot_bool' rfl (by decide) (by decide)
theorem Rb (hg:Gl X "tuple") (hm:X.mg "tuple" = none):PE X (.Name "tuple" pos) (tC (.ty "tuple")):=oU hg hm (by rfl:bootBuiltins _=some _) rfl (by decide) (by decide)
theorem LU (h:b):a∨b∨c:=.inr (.inl h)
end
noncomputable def cN (N:List Str):List (Option Nat)->List Str->List Str
 | some i::r,u=>N.getD i "" :: cN N r u
 | _,u=>u
section
variable {X:Cx} {scope:Scope} {ix:List (Option Nat)} {z:Str} {zp:Pos} {iter elt:Expr} {ifs:List Expr} {wi:TI} {g:TG} {tc:TT} {te:TE} {pos py spos:Pos} {y:Str} {i:Nat}
theorem Hy (kind:scope.kind=.function) (nocell:(scope.names.all λ y=>y.2 != .cell)=true) (locs:(scope.names.all λ y=>y.2 != .local||scope.names.lookup y.1==some .local)=true)
 (free:(scope.names.all λ y=>y.2 != .free||X.env.kindOf y.1==some .cell||X.env.kindOf y.1==some .free)=true) (len:ix.length=N.length) (nd:decide N.Nodup=true)
 (fr:((ix.zip N).all λ p=>match p.1 with
  | none=>true
  | some i=>X.N[i]?==some p.2&&(X.env.kindOf p.2==some .cell||X.env.kindOf p.2==some .free)&&((relabel scope X.env).names.lookup p.2==some .cell||(relabel scope X.env).names.lookup p.2==some .free))=true):bG X scope N ix:=wA kind nocell locs free len (Sh nd) fr
noncomputable abbrev QI (X:Cx) (scope:Scope) (ix:List (Option Nat)) (z:Str) (zp:Pos) (elt:Expr) (ifs:List Expr) (g:TG) (tc:TT) (te:TE):Prop:=∀ (s₀:Shared) (H₀:Hp) (C:Addr) (ex:List Addr),(cN X.N ix [z]).Nodup->PG (bA X scope (cN X.N ix [z]) s₀ H₀ C ex) (.Name z zp) g/\vm (bA X scope (cN X.N ix [z]) s₀ H₀ C ex) ifs tc/\PE (bA X scope (cN X.N ix [z]) s₀ H₀ C ex) elt te
theorem Nl (S:bG X scope (cN X.N ix [z]) ix) (hn:decide (cN X.N ix [z]).Nodup=true) (hc:X.calm=true) (hi:PI X (.Name z zp) iter wi) (hG:lW ix g) (hb:QI X scope ix z zp elt ifs g tc te)
 (hs:∀ x,foldedSetIterable iter X.env x=pure x):PE X (.ListComp elt [⟨.Name z zp,iter,ifs,0⟩] scope pos) (pE ix wi g tc te):=zc S hc hi hG (λ a b c d=>hb a b c d (Sh hn)) hs
theorem Cy (hN:X.N.Nodup) (hi:X.N[i]?=some y) (hy:Ka X.env.scope y) (S:bG X scope (cN X.N ix [z]) ix) (hn:decide (cN X.N ix [z]).Nodup=true) (hc:X.calm=true) (hit:PI X (.Name z zp) iter wi) (hG:lW ix g) (hb:QI X scope ix z zp elt ifs g tc te)
 (hsw:swapsWith (.ListComp elt [⟨.Name z zp,iter,ifs,0⟩] scope pos) (some (.Name y py)) spos.line X.env=pure true) (hs:∀ x,foldedSetIterable iter X.env x=pure x) (hf:X.fn y=true∨X.env.scope.names.lookup y=some .local):
 PS X (.Assign [.Name y py] (.ListComp elt [⟨.Name z zp,iter,ifs,0⟩] scope pos) spos) (zH (pE ix wi g tc te) (jZ i)):=FB hN hi hy S hc hit hG (λ a b c d=>hb a b c d (Sh hn)) hsw hs hf
end
noncomputable abbrev OR (P:Program) (w:World) (K:Frag) (mg:Str->Option Value) (base:Heap) (N:List Str) (q:Str) (st:Stmt) (k:Nat) (t:TS):Prop:=∀ (f:Addr) (cd:Value) (A:Around) (outer:List Env) (s:Shared) (H:Hp) (E:XK),N.Nodup->dq k (A.deeper (envOfC q (aX st) s.heap.objs.size f cd))->(A.deeper (envOfC q (aX st) s.heap.objs.size f cd)).units+64<cLine->(A.deeper (envOfC q (aX st) s.heap.objs.size f cd)).units+1<cLine->
 w5 (xH H9 P w K mg base N q (aX st) f cd A outer s H E).nox (cu st) t
section
variable {P:Program} {w:World} {K:Frag} {mg:Str->Option Value} {base:Heap} {cl:Str->Addr} {R:Addr->FuncData->Prop} {x q:Str} {st:Stmt} {N ps:List Str} {a n k:Nat} {t:TS} {sp:Sp}
theorem Nq (D:w6 R K x q st) (S:gB N ps (aX st)) (hl:∀ vs H Q E,sp vs H Q E->vs.length=ps.length) (rd:∀ vs H Q E,sp vs H Q E->t ({ nx:=λ _ H'=>Q V.non H',rt:=Q }:oz) (start N vs) H)
 (pe:OR P w K mg base N q st k t):Ce R P w K mg base (k+1) ps sp:=by
 obtain ⟨f,fd,F,r⟩:=D;exact ⟨f,fd,r,F.ok S hl λ cd A outer s H vs Q E hr h=>⟨t,pe f cd A _ s H E S.nd hr hr.units hr.units1,rd vs H Q E h⟩⟩
theorem fu (D:w6 R K x q st) (hg:g=b7 a n fb) (de:∀ ρ,oX K ρ t fb)
 (pe:OR P w K mg base N q st k t) (hN:N.length=n) (ha:ps.length=a) (S:gB N ps (aX st)):Ce R P w K mg base (k+1) ps (iV K g):=by
 subst hg ha;exact Nq D S (λ vs H Q E h=>Gj (λ ds d e=>rJ e) h) (λ vs H Q E h=>O2 hN de h) pe
theorem gM (D:w6 R K x q st) (hg:g=bJ a n fb) (de:oh K cl E0 t fb)
 (pe:OR P w K mg base N q st k t) (hN:N.length=n) (ha:ps.length=a) (S:gB N ps (aX st)):Ce R P w K mg base (k+1) ps (k8 K cl g):=by
 subst hg ha;exact Nq D S (λ vs H Q E h=>FU (λ ds S r e=>sf e) h) (λ vs H Q E h=>MG hN de h) pe
theorem Ce.imp (h:Ce R P w K mg base k ps sp) (i:∀ vs H Q E,sq vs H Q E->sp vs H Q E):Ce R P w K mg base k ps sq:=by
 obtain ⟨f,fd,r,F⟩:=h;exact ⟨f,fd,r,F.imp i⟩
theorem yP (D:w6 R K x q st) (h:∀ ds,g ds=none):Ce R P w K mg base k ps (iV K g):=by
 obtain ⟨f,fd,_,r⟩:=D;exact ⟨f,fd,r,eP.no h⟩
theorem mq {F:Nat->Sp} (h0:Ce R P w K mg base (k+0) ps (F 0)) (hs:∀ n,Ce R P w K mg base (k+n) ps (F n)->Ce R P w K mg base (k+n+1) ps (F (n+1))):∀ n,Ce R P w K mg base (k+n) ps (F n)
 | 0=>h0
 | n+1=>hs n (mq h0 hs n)
noncomputable def An (K:Frag) (x:Str) (st:Stmt) (dV:Value):Prop:=∃ (f:Addr) (oc:Value) (od:Option Addr) (kV dc pm:Value) (an:Option Addr) (cd ct:Value) (sl:Array (Option Value)),
 PySem.W.nsIn K mainGlobals x=some (some (.ref f))/\K.lookup f=some ⟨oc,od,.func (PySem.W.fnOf x x (cU st) (cu st) (aX st) dV kV dc pm an cd ct),sl⟩/\PySem.W.codeIn K cd x=true/\PySem.W.keepIn K (.ref f)=true
theorem An.dn (X:K.In h) (G:h.Ns mainGlobals mg) (z:An K x st .none) (hb:∀ (kV dc pm:Value) (an:Option Addr) (cd ct:Value) (us:List Value),us.length=ps.length->bindArgs (PySem.W.fnOf x x (cU st) (cu st) (aX st) .none kV dc pm an cd ct) ⟨us,[]⟩=pure (ps.zip us)):
 w6 (KF K mg x ps []) K x x st:=by
 obtain ⟨f,oc,od,kV,dc,pm,an,cd,ct,sl,m,l,c,kp⟩:=z;have b  := (xJ l c kp).binds hb;exact ⟨f,_,lu l c kp,Uq X G m,kp,b,b⟩
end
section
variable {K:Frag} {cl:Str->Addr} {E:XK}
theorem JO {st:Stmt} {g:List W->aq->SM W} (D:w6 R K x q st) (h:∀ ds S,g ds S=none):Ce R P w K mg base k ps (k8 K cl g):=by
 obtain ⟨f,fd,_,r⟩:=D;exact ⟨f,fd,r,eP.no0 h⟩
end
noncomputable def Bn (h:Heap) (d:Addr) (es:Array DictEntry) (ep:Nat):Prop:=∃ o,h.get? d=some o/\o.ExactDict/\o.data=.dict es ep
section
variable {prog:Program} {w:World} {A:Around} {E:Value->Shared->Prop} {s:Shared} {d it:Addr} {es:Array DictEntry} {ep i:Nat}
theorem Bn.ty (x:Bn s.heap d es ep):s.TypeIs (.ref d) "dict" := by
 obtain ⟨o,e1,e2,_⟩:=x;exact ⟨o,e1,e2.1⟩
theorem Bn.at (x:Bn h d es ep) (k:∀ o,h.get? d=some o->h'.get? d=some o):Bn h' d es ep:=by
 obtain ⟨o,e1,e2⟩:=x;exact ⟨o,k o e1,e2⟩
noncomputable def Pe (d:Addr) (n ep:Nat):Obj:={ cls:=.type "dict_keyiterator", data:=.fields #[.ref d,.int 0 0,.int n 0,.int ep 0] }
theorem Bv (hd:(d==sysModules)=false) (x:Bn s.heap d es ep) (q:Q (.ref s.heap.objs.size) { s with heap:=s.heap.push (Pe d es.size ep) }):wpAny (model prog w) A (pyIter (.ref d)) Q E s:=by
 have T:=x.ty;obtain ⟨o,e1,e2,e3⟩:=x;refine wpAny_pyIter_slot T F.slot_dict_iter (SI F.slot_dict_iter T F.entry_dict_iter ?_ (F.args_dict_iter_1 _));refine Rq ?_;refine Rq (wpAny_notOrdered_dict T (show wpAny _ _ _ _ _ s from Ru ?_));show wpAny _ _ (Builtin.Dict.showsAll d >>= _) _ _ s;unfold Builtin.Dict.showsAll;rw [RJ (by simp_all)];refine Rq (Ru (Rq (wpAny_dictEntries e1 e3 (Rq (wpAny_dictEpoch e1 e3 ?_)))));exact Rq (Tv (Ru ⟨_,rfl, "dict_keyiterator", _,⟨_,RF _ rfl,rfl⟩,SX.lookup,q⟩))
theorem El (t:s.heap.IsKeyIter it d i es.size ep) (x:Bn s.heap d es ep) (hl:i<es.size)
 (q:∀ h',h'.IsKeyIter it d (i+1) es.size ep->Heap.SameBut it s.heap h'->Q (some es[i].key) { s with heap:=h' }):wpAny (model prog w) A (pyNext (.ref it)) Q E s:=by
 have T:=t.typeIs;obtain ⟨o,t1,t2,t3⟩:=t;obtain ⟨od,e1,e2,e3⟩:=x;refine Rq (UP (Tw  T SX (SI SX T F.entry_dict_keyiterator_next ?_ (F.args_dict_keyiterator_next_1 _))));refine Rq (Ru (Rq (Rq ?_)));refine Rq (Tu T (Ru (Rq (wpAny_fieldsOf t1 t3 ?_))));have no:Builtin.Dict_items.ownsTuple "dict_keyiterator" = false:=by decide
 show wpAny _ _ _ _ _ s;refine Rq (Ru (Rq (wpAny_dictEntries e1 e3 ?_)));rw [RJ (by simp)];refine Rq (Ru (Rq (wpAny_dictEpoch e1 e3 ?_)));rw [RJ (by simp)];refine Ru ?_;simp only [  TN,Tk hl];refine Rq (Rq (Tu T (Ru (Rq (wpAny_isOneOf_keyiter T ?_)))));show wpAny _ _ (setField _ 1 _ >>= _) _ _ s;refine Rq (UG t1 t3 (by simp) ?_);have t':(s.heap.update it (Obj.mapFields (·.setIfInBounds 1 (rawInt (i+1))))).IsKeyIter it d (i+1) es.size ep:=
  ⟨_,TD _ t1 (Obj.isFreed_of_fields (Uy t3 _)),(Obj.cls_mapFields ..).trans t2,by rw [Uy t3];simp [rawInt]⟩
 refine Rq (Ss (Rq (wpAny_isOneOf_keyiter (s:={ s with heap:=s.heap.update it (Obj.mapFields (·.setIfInBounds 1 (rawInt ((i:Int)+1)))) }) t'.typeIs ?_)));exact Ru (Ru ⟨_,rfl,Ru (q _ t' (SJ ..))⟩)
theorem CL (hh:A.handled=none) (hi:es.size<=i) (t:s.heap.IsKeyIter it d i es.size ep) (x:Bn s.heap d es ep)
 (q:∀ h',Heap.ExtBut it s.heap h'->Q none { s with heap:=h' }):wpAny (model prog w) A (pyNext (.ref it)) Q E s:=by
 have T:=t.typeIs;obtain ⟨o,t1,t2,t3⟩:=t;obtain ⟨od,e1,e2,e3⟩:=x;refine Rq (UP (Tw  T SX (SI SX T F.entry_dict_keyiterator_next ?_ (F.args_dict_keyiterator_next_1 _))));refine Rq (Ru (Rq (Rq ?_)));refine Rq (Tu T (Ru (Rq (wpAny_fieldsOf t1 t3 ?_))));have no:Builtin.Dict_items.ownsTuple "dict_keyiterator" = false:=by decide
 show wpAny _ _ _ _ _ s;refine Rq (Ru (Rq (wpAny_dictEntries e1 e3 ?_)));rw [RJ (by simp)];refine Rq (Ru (Rq (wpAny_dictEpoch e1 e3 ?_)));rw [RJ (by simp)];refine Ru ?_;simp only [  TN,UH hi];refine Rq (Rq (Tu T (Ru ?_)));show wpAny _ _ (setField _ 0 _ >>= _) _ _ s;refine Rq (UG t1 t3 (by simp) ?_);refine Rq ?_;refine Rq (Tv (Rq  (UU (a:=Value.none) (by first | rfl | (simp only [firstArgMember];rfl)) (Tv ?_ (by size_fits)))) (by size_fits));refine Rq (wpAny_handled ?_);rw [show A.in1.handled=none from hh];refine Rq (Ru (wpAny_throw ?_));refine Rq (wpAny_isInstance (T := "StopIteration") (b:=true) ⟨_,RF _ rfl,rfl⟩ isSubtype_stop ?_);exact Ru (q _ (((SJ ..).extBut.push _).push _))
theorem LN (hh:A.handled=none) (I d:Addr) (hne:d≠I) (es:Array DictEntry) (ep:Nat):Walks prog w A I [I,d] [I] es.size (λ i v=>∃ e,es[i]?=some e/\v=e.key) (λ i h=>h.IsKeyIter I d i es.size ep/\Bn h d es ep) where
 sub:=λ b hb=>by simp_all
 frame:=λ _ _ _ st k=>⟨st.1.at λ o e=>k I RV o e,st.2.at λ o e=>k d (R6 _ RV) o e⟩
 item:=λ i s Q E hi st hQ=>El st.1 st.2 hi λ h' t' sb=>hQ _ h' _ ⟨_,Tk hi,rfl⟩ ⟨t',st.2.at λ o e=>sb.extBut d o hne e⟩ λ b o hb e=>sb.extBut b o (λ z=>hb (RE.mpr z)) e
 done:=λ s Q E st hQ=>CL hh (Ry _) st.1 st.2 λ h' x=>hQ h' _ λ b o hb e=>x b o (λ z=>hb (RE.mpr z)) e
 self:=λ _ _ _ _ st hQ=>wpAny_pyIter_keyiter st.1 hQ
theorem Hk (hd:(d==sysModules)=false):PySem.W.KdlSrc prog w "dict" d d es.size (λ i v=>∃ e,es[i]?=some e/\v=e.key) (λ h=>Bn h d es ep) where
 type:=λ _ x=>x.ty
 there:=λ h x=>by obtain ⟨o,e1,_⟩:=x;exact ⟨RC e1,RC e1⟩
 keep:=λ _ _ x k=>x.at λ o e=>k d (.inl rfl) o e
 notList:=by decide
 notTuple:=by decide
 hint:=λ _ _ _ _ x q=>PySem.W.kdl_hint_dict x.ty q
 iter:=λ A s hh x=>⟨_,_,λ _ _ q=>Bv hd x q,LN hh _ d (by obtain ⟨o,e1,_⟩:=x;exact RL (RC e1)) es ep,⟨⟨_,RF _ rfl,rfl,rfl⟩,x.at λ o e=>Rv _ e⟩⟩
end
noncomputable abbrev KA (H:Hp):List (List b8×V)->List Addr->Prop:=Paired λ p b=>H b=some (.tup (p.1.map kV))
noncomputable def xf:List V->Hp->VK->Prop:=λ xs H Q=>∃ (a:Addr) (kvs:List (List b8×V)),xs=[.ref a]/\H a=some (.dT kvs)/\∀ bs,KA H kvs bs->∀ l,H l=none->Q (.ref l) (cH H l (.lst (bs.map V.ref)))
theorem MP (r:KT H kvs xs):KA H kvs (xs.map (·.2.1)):=by
 induction r with
 | nil=>exact .nil
 | cons h _ ih=>exact .cons h.2.1 ih
theorem qe:∀ (bs:List Addr),bf (bs.map V.ref) (bs.map Value.ref)
 | []=>.nil
 | b::bs=>.cons rfl (qe bs)
theorem wB (hc:X.calm=true):bN X (.type "list") xf:=by
 intro pins s σ H xs us Q I r h;obtain ⟨a,kvs,rfl,ha,q⟩:=h;obtain ⟨u,rfl,rx⟩:=kW r;cases rx;obtain ⟨z,hd,ys,kt,o,es,ep,h1,h2,h3,h4,_⟩:=D5 I.hok ha;have sz:es.size=ys.length:=by rw [<-SK,h4,R8]
 have kl:=Ts kt;refine PySem.W.kdl_call (Hk   hd) (I.ok.hd hc) ⟨o,h1,h2,h3⟩ (by omega) λ h' tk acc c kp e ia=>?_;have ac:acc.toList=(ys.map (·.2.1)).map Value.ref:=by
  refine UF λ i=>?_;rcases TM i _ with hi | hi
  . have e1:acc[i]?=some _:=Tk hi;obtain ⟨en,e2,e3⟩:=ia.2 i _ e1;have e4:=entry_at h4 i;rw [e2] at e4;rw [RZ,e1,e3,T8,Su];cases hy:ys[i]? with
    | none=>simp_all
    | some y=>rw [hy] at e4;cases e4;rfl
  . have:ys.length<=i:=by have:=ia.1;omega
    rw [RZ,UH hi,Tl (by simpa using this)]
 refine ⟨.ref s.heap.objs.size,_,I.laid (t':=tk) (λ b o' e=>kp b o' e) (Ry _) (show bY X.prog X.w _ h' _ (.lst ((ys.map (·.2.1)).map V.ref)) from ⟨by simp;omega,acc.toList,c,by rw [ac];exact qe _,by simpa using e⟩),rfl,q _ (MP kt) _ (I.hok.fresh (Ry _))⟩
noncomputable def Oe (ks:List b8):W:=.tuple (ks.map x8)
noncomputable def wS (f:DS->aq->SM W):DS->aq->SM W:=λ δ S=>aw (f δ S) λ x S1=>qN ((vG x S1).map λ p=>.list (p.2.map λ e=>Oe e.1)) S1
noncomputable def adopt (G H:Hp) (bs:List Addr):Hp:=λ b=>if b∈bs then H b else G b
theorem Gr.adopt (s:bn G H) (h:∀ b∈bs,∃ xs,H b=some (.tup xs)):Gr G H (L2.adopt G H bs) H:=
 ⟨λ b o e=>by
  unfold L2.adopt;split
  . exact s b o e
  . exact e,.refl _,λ b o e=>by
  unfold L2.adopt at e;split at e
  . exact e
  . exact s b o e,λ b n e=>by
  unfold L2.adopt;rw [RJ λ z=>by obtain ⟨xs,hx⟩:=h b z;exact n.2 xs hx];exact e⟩
theorem BG (h:KA H kvs bs):∀ b∈bs,∃ xs,H b=some (.tup xs):=by
 induction h with
 | nil=>simp_all
 | cons r _ ih=>
  simp_all
section
variable {K:Frag} {cl:Str->Addr} {E:XK} {ρ:List Addr}
theorem ug:∀ (ks:List b8),aC K ρ G (ks.map kV) (ks.map x8)
 | []=>.nil
 | .inl i::ks=>.cons (.int i) (ug ks)
 | .inr x::ks=>.cons (.str x) (ug ks)
theorem MQ (hk:je K ρ G kvs ws):∀ {bs:List Addr} {G':Hp},KA H ws bs->(∀ b∈bs,G' b=H b)->aC K ρ G' (bs.map V.ref) (kvs.map λ e=>Oe e.1):=by
 induction hk with
 | nil=>intro bs G' h _;cases h;exact .nil
 | cons _ _ ih=>
  intro bs G' h hb;cases h with
  | cons r t=>exact .cons (.tup ((hb _ (by simp)).trans r) (ug _)) (ih t λ b hm=>hb b (by simp [hm]))
theorem C7 (ha:SE K cl E ta fa):SE K cl E (tN xf (dj ta gN)) (wS fa):=λ ρ G σ H δ S r' S' Q R e q qx=>
 ci ha R e λ x S2 e2 v ρ2 G2 H2 g2 s2 dv=>by
  obtain ⟨c,e3,rfl,rfl⟩:=bU e2;obtain ⟨⟨n,kvs⟩,e4,rfl⟩:=oM e3
  obtain ⟨rfl,e5⟩:=rR e4;obtain ⟨a,rfl,ea⟩:=cD dv;obtain ⟨ga,vs,k1,k2⟩:=s2.addr e5 ea;refine ⟨a,vs,rfl,k1,λ bs ka l hl=>?_⟩;have g3:=Gr.adopt g2.s (BG ka);have n3:Nw H2 _ l (.lst (bs.map V.ref)):=.of hl;have g4:=g3.trans (Gr.nw g3.s n3);refine q _ rfl _ _ _ _ (g2.trans (.of g4)) (s2.grow g4) (.lst (cG.of aG) (MQ k2 ka λ b hb=>?_));rw [aF λ z=>by obtain ⟨xs,hx⟩:=BG ka b hb;simp_all];unfold L2.adopt
  grind qx
end
section
variable {K:Frag} {cl:Str->Addr} {E:XK}
end
section
variable {X:Cx} {e:Expr} {es:List Expr} {t:TA} {p pos:Pos}
theorem O7 (hc:X.calm=true) (hg:Gl X "list") (hm:X.mg "list" = none) (ha:PA X (e::es) t)
 (he:starEach (e::es) X.env=(false,eval e X.env)::starEach es X.env) (hp:(backTo pos (starEach es X.env)).any (·.1)=false):PE X (.Call (.Name "list" p) (e::es) [] pos) (tN xf t):=mR (wB hc) hg hm boot_list ha (by decide) (by decide) he hp
end
section
variable {X:Cx} {pos:Pos}
end
theorem GJ (h:qF k u=true):bh (kV k) u:=by
 rcases bM h with ⟨i,t,rfl,rfl⟩ | ⟨x,t,rfl,rfl⟩
 . exact ⟨t,rfl⟩
 . exact ⟨t,rfl⟩
theorem Dz (h:Pairs (bx P w) es vs):∀ {kvs:List (b8×V)} {i:Nat} {p:b8×V},KV kvs vs->kvs[i]?=some p->∃ e,es[i]?=some e/\bh (kV p.1) e.key:=by
 induction h with
 | nil=>intro kvs i p r e;cases r;cases e
 | @cons e kv es vs h1 _ _ ih=>
  intro kvs i p r hp;cases r with
  | @cons q _ kvs _ r1 r2=>
   cases i with
   | zero=>cases hp;exact ⟨e,rfl,by rw [r1.1];exact GJ h1⟩
   | succ i=>exact ih r2 hp
noncomputable def Q3 (a:Addr) (m:Nat):It:=⟨λ i H=>∃ kvs,H a=some (.dK kvs)/\kvs.length=m/\i<m,λ i H x H'=>H'=H/\∀ kvs,H a=some (.dK kvs)->∃ p,kvs[i]?=some p/\x=kV p.1,λ i H=>∃ kvs,H a=some (.dK kvs)/\kvs.length=m/\m<=i⟩
noncomputable def Qa (tl:TE):TI:=λ σ H R=>tl σ H λ x H1=>∃ a kvs,x=.ref a/\H1 a=some (.dK kvs)/\R (Q3 a kvs.length) H1
theorem dk_at' (ok:jN P w H h) (e:H a=some (.dK kvs)):∃ es vs,KV kvs vs/\Pairs (bx P w) es.toList vs/\Bn h a es es.size/\es.size=kvs.length:=by
 obtain ⟨vs,r,o,es,ep,h1,h2,h3,rfl,_,h5,_⟩:=LH ok e;refine ⟨es,vs,r,h5,⟨o,h1,h2,h3⟩,?_⟩;have:=h5.length;rw [SK] at this;rw [this,<-Ts r]
theorem Gx {K:Frag} (a it:Addr) (m:Nat):xv P w K tg (Q3 a m) [it] it (λ i h=>h.IsKeyIter it a i m m) where
 mem:=by simp
 obj:=λ i h st b hb=>by
  have e  := by simpa using hb
  subst e;obtain ⟨o,e,c,d⟩:=st
  simp_all
 keep:=λ i h h' st k=>st.at λ o e=>k it (by simp) o e
 item:=by
  intro X hP hw hK hc i pins s σ H E I hf st hg;obtain ⟨kvs,ha,hl,hi⟩:=hg;obtain ⟨es,vs,r,hp,da,sz⟩:=dk_at' I.hok ha;obtain ⟨f0,f1,f2,f3,f4,f5⟩:=hf it (by simp);have ze  := sz.trans hl;subst ze;refine El st da hi λ h' st' sb=>?_;have I1  := I.turned (t':=s.toks) (λ b o hb e=>(sb.2 b hb).trans e) f0 f1 f3 f4 f5;obtain ⟨o,e,c,d⟩:=id st';have hk:kvs[i]?=some _:=RQ (by omega);obtain ⟨en,he,ru⟩:=Dz hp r hk;have e2  := by
   rw [RZ,Tk hi] at he;exact SV he
  rw [e2];exact ⟨_,rfl,yX  e c d (by decide) ⟨_,H,I1,ru,⟨rfl,λ ys hy=>by rw [ha] at hy;cases hy;exact ⟨_,hk,rfl⟩⟩,st',λ b hb=>(hf b hb).1⟩⟩
 done:=by
  intro X hP hw hK hc i pins s σ H E I hf st hg;subst hP hw hK;obtain ⟨kvs,ha,hl,hi⟩:=hg;obtain ⟨es,vs,r,hp,da,sz⟩:=dk_at' I.hok ha;obtain ⟨f0,f1,f2,f3,f4,f5⟩:=hf it (by simp);have ze:es.size=m:=sz.trans hl;subst ze;exact CL (I.ok.hd hc) hi st da λ h' eb=>⟨rfl,I.turned (t':=s.toks) (λ b o hb e=>eb b o hb e) f0 f1 f3 f4 f5⟩
 self:=λ _ _ _ _ _ st h=>wpAny_pyIter_keyiter st h
theorem QC (hl:PE X l tl):PI X tg l (Qa tl):=by
 intro pins s σ H R I h;refine cq (hl _ s σ H _ I h) λ v s1 hq0=>?_;obtain ⟨x,H1,I1,r1,q1⟩:=hq0;obtain ⟨a,kvs,rfl,ha,q⟩:=q1;cases r1;obtain ⟨_,hd,_⟩:=Ig I1.hok ha;obtain ⟨es,vs,r,hp,da,sz⟩:=dk_at' I1.hok ha;refine Bv hd da ?_;refine ⟨s1.heap.objs.size,[s1.heap.objs.size],_,_,H1,rfl,I1.kept  λ b o e=>Rv _ e,Gx a _ _,?_,λ b hb=>?_,q⟩
 . rw [<-sz];exact ⟨_,RF _ rfl,rfl,rfl⟩
 . have e  := by simpa using hb
   subst e;exact I1.fpOk (Ry _) (I1.hok.fresh (Ry _))
section
variable {K:Frag} {cl:Str->Addr} {E:XK}
noncomputable def oH (f:DS->aq->SM W):DS->aq->SM (Nat×Kd):=λ δ S=>aw (f δ S) λ x S1=>(p8 x S1).map λ p=>(.ok (p.1,.d p.2.length),S1)
theorem Ku {l:List (κ×W)} {m:List (κ×V)} (q:je K ρ G l m):∀ {i:Nat} {k:κ} {v:V},m[i]?=some (k,v)->∃ d,l[i]?=some (k,d):=by
 induction q with
 | nil=>simp_all
 | cons _ _ ih=>
  intro i k v e;cases i with
  | zero=>simp_all
  | succ i=>exact ih e
theorem J0:∀ (k:b8),Dw K ρ G (kV k) (x8 k)
 | .inl i=>.int i
 | .inr x=>.str x
theorem Me (h:SE K cl E t f):N5 K cl E (Qa t) (oH f):=λ ρ G σ H δ S r S' R' R e q qx=>
 ci h R e (λ x S1 e1 v ρ1 G1 H1 g1 s1 dv=>by
  obtain ⟨⟨n,kvs⟩,e2,e3⟩:=oM e1
  cases e3;obtain ⟨rfl,e4⟩:=jM e2;obtain ⟨a,rfl,ea⟩:=cD dv;obtain ⟨ga,vs,k1,k2⟩:=s1.addr e4 ea;refine ⟨a,vs,rfl,k1,?_⟩;rw [<-k2.length];refine q _ rfl _ _ G1 H1 g1 s1 λ i ρ2 G2 H2 S2 es pr s2 sr he=>?_;obtain ⟨⟨n',kv2⟩,e5,e6⟩:=oB (show (p8 _ S2).bind _=_ from he)
  obtain ⟨ez,e7⟩:=jM e5;cases ez;split at e6
  case isFalse=>cases e6
  rename_i hl;cases e6;obtain ⟨ga2,ws,m1,m2⟩:=sr.addr e7 (lY pr ea);have wl  := m2.length.symm.trans hl;refine ⟨λ d hd=>?_,λ hi=>⟨ws,m1,wl,by simp_all⟩⟩;have hi:i<kvs.length:=by
   have:=(oG hd).1;simpa [hl] using this
  refine ⟨⟨ws,m1,wl,hi⟩,λ x H' y=>?_⟩;obtain ⟨rfl,y⟩:=y;obtain ⟨⟨k,v⟩,h1,rfl⟩:=y ws m1;obtain ⟨d',h2⟩:=Ku m2 h1;rw [Su,h2] at hd;cases hd;exact ⟨G2,.refl s2,J0 k⟩) qx
end
theorem Fl (h:S[l]?=some (.dK es)):fO S (l,.d es.length)=some (es.map λ e=>x8 e.1):=by simp [fO,p8,eK,h]
section
variable {X:Cx}
theorem Pt:QB X "len" Cz:=⟨_,xL,PySem.boot_len⟩
theorem Py:QM X "list" "extend" uA:=⟨_,T4,PySem.F.slot_list_extend,PySem.F.type_list_extend,A1⟩
end
noncomputable def oe (led:Bool) (ps:Array Nat):SetTable:={ mask:=7,place:=ps,dummies:=#[],finger:=0,led:=led,moves:=0,plain:=true }
theorem jJ (p j:Nat):SetTable.below #[p] j=if p<j then 1 else 0:=by
 show SetTable.below.go _ j 1 0 1=_;simp [SetTable.below.go]
theorem AQ (p q j:Nat):SetTable.below #[p,q] j=if q<j then 2 else if p<j then 1 else 0:=by
 show SetTable.below.go _ j 2 0 2=_;unfold SetTable.below.go;simp;split
 . rfl
 . rfl
theorem pG:(oe led #[p]).slot j=if p=j then .live 0 else .empty:=by
 unfold SetTable.slot oe;simp only [jJ];by_cases h:p=j
 . grind
 . rw [RJ h];by_cases h1:p<j
   . simp [h1,SetTable.has]
   . simp [h1,h,SetTable.has]
theorem AL (hp:p<8):∀ (m fuel:Nat) (pr:SetTable.Probe),pr.more=0->pr.dummy=none->pr.i=pr.j->pr.perturb<32^m->m+2<=fuel->
 ∃ q,SetTable.probe.go (oe led #[p]) (λ _=>h+1) h fuel pr=some (.empty q none)/\q≠p:=by
 have hh:(h+1==h)=false:=by simp;omega
 have nx:∀ pr , pr.more=0->(oe led #[p]).advance pr={ pr with j:=(pr.i*5+1+pr.perturb / 32)%8,more:=0,i:=(pr.i*5+1+pr.perturb / 32)%8,perturb:=pr.perturb / 32 }:=λ pr e=>by
  unfold SetTable.advance;rw [e];have:∀ i,i<8->SetTable.runEnd 7 i-i=0:=λ i hi=>by unfold SetTable.runEnd;simp_all
  simp [SetTable.leap,oe,this _ (Nat.mod_lt _ _)]
 intro m;induction m with
 | zero=>
  intro fuel pr e1 e2 e3 e4 e5;obtain ⟨fuel,rfl⟩:∃ f,fuel=f+2:=⟨fuel-2,by omega⟩
  unfold SetTable.probe.go;rw [pG];by_cases hj:p=pr.j
  . rw [Rt hj];simp only [hh,Sr,Up];rw [nx pr e1];unfold SetTable.probe.go;rw [pG];have e0:pr.perturb=0:=by omega
    have:¬ p=(pr.i*5+1+pr.perturb / 32)%8:=by rw [e3,<-hj,e0];omega
    simp only [RJ this];exact ⟨_,by rw [e2],λ z=>this z.symm⟩
  . rw [RJ hj];exact ⟨_,by rw [e2],λ z=>hj z.symm⟩
 | succ m ih=>
  intro fuel pr e1 e2 e3 e4 e5;obtain ⟨fuel,rfl⟩:∃ f,fuel=f+1:=⟨fuel-1,by omega⟩
  unfold SetTable.probe.go;rw [pG];by_cases hj:p=pr.j
  . rw [Rt hj];simp only [hh,Sr,Up];rw [nx pr e1];exact ih fuel _ rfl e2 rfl (by show pr.perturb / 32<_;rw [Nat.pow_succ] at e4;omega) (by omega)
  . rw [RJ hj];exact ⟨_,by rw [e2],λ z=>hj z.symm⟩
theorem F4 (h:Int):SetTable.bits h<2^64:=by
 unfold SetTable.bits
 grind
theorem Dy (hp:p<8):∃ q,(oe led #[p]).freeSlot h=some (q,false)/\q≠p:=by
 have run:∀ i,i<8->SetTable.runEnd 7 i-i=0:=λ i hi=>by unfold SetTable.runEnd;simp_all
 obtain ⟨q,e,n⟩:=AL   hp 13 220 ((oe _ _).probeStart h) (run _ (show _%8<8 from Nat.mod_lt _ (by decide))) rfl rfl (RD (F4 h) (by decide)) (by decide);refine ⟨q,?_,n⟩;unfold SetTable.freeSlot SetTable.probe;rw [show 10*SetTable.turns _=220 from rfl,e];rfl
theorem Co (led:Bool) (h:Int) (x:Value):layNew (.fresh 0 0 led) #[] h x=(#[(h,x)],oe led #[SetTable.bits h%8],false,false):=rfl
theorem F2 (hp:p<8):∃ q,(layNew (oe led #[p]) #[(h1,x1)] h x=(#[(h1,x1),(h,x)],oe led #[p,q],false,false)/\p<q)∨
 (layNew (oe led #[p]) #[(h1,x1)] h x=(#[(h,x),(h1,x1)],oe led #[q,p],false,false)/\q<p):=by
 obtain ⟨q,e,n⟩:=Dy   hp;refine ⟨q,?_⟩;unfold layNew;rw [e];rcases TM p q with l | l
 . refine .inl ⟨?_,l⟩;simp only [SetTable.put];rw [show (oe _ _).place = #[p] from rfl,jJ,Rt l];rfl
 . refine .inr ⟨?_,by omega⟩;simp only [SetTable.put];rw [show (oe _ _).place = #[p] from rfl,jJ,RJ (by omega)];rfl
section
variable {prog:Program} {w:World} {A:Around} {E:Value->Shared->Prop} {s:Shared}
noncomputable def iY (prog:Program) (w:World) (a:Addr) (vs:List Value) (h:Heap):Prop:=∃ (o:Obj) (es:Array (Int×Value)) (ep:Nat) (t:SetTable) (sl:Nat->Nat),
 h.get? a=some o/\o.ExactSet/\o.data=.set es ep t/\t.fits es.size=true/\es.size=vs.length/\t.plain=true/\sl 0=0/\
 ∀ (i:Nat) (A:Around) (E:Value->Shared->Prop) (s:Shared) (Q:Option (Value×Nat)->Shared->Prop),i<=vs.length->s.heap.get? a=some o->Q (vs[i]?.map λ v=>(v,sl (i+1))) s->wpAny (model prog w) A (setNext a (sl i) i ep) Q E s
theorem tf (hw:w.params.followText "set-order" = true) (ho:s.heap.get? a=some o) (hd:o.data=.set es ep t) (hf:t.fits es.size=true)
 (h:Q (pickOrder (w.params.setOrder a ep) es) s):wpAny (model prog w) A (setWalk a) Q E s:=by
 refine Rq (TR ho hd hf ?_);show wpAny _ _ (if w.params.followText _=true then _ else _) _ _ _;rw [Rt hw];exact Rq (wpAny_askSetting (Ru h))
theorem ir (hw:w.params.followText "set-order" = true) (ho:s.heap.get? a=some o) (hd:o.data=.set es ep t) (hf:t.fits es.size=true)
 (h:Q (((pickOrder (w.params.setOrder a ep) es)[i]?).map λ e=>(e.2,sl)) s):wpAny (model prog w) A (setNext a sl i ep) Q E s:=by
 refine Rq (TR ho hd hf ?_);show wpAny _ _ (if w.params.followText _=true then _ else _) _ _ _;rw [Rt hw,RJ (by simp)];exact Rq (tf hw ho hd hf (Ru h))
theorem mU (hw:w.params.followText "set-order" = false) (ho:s.heap.get? a=some o) (hd:o.data=.set es ep t) (hf:t.fits es.size=true)
 (hp:t.plain=true) (hl:t.led=true)
 (h:Q (match es[SetTable.below t.place sl]?,t.place[SetTable.below t.place sl]? with
 | some (_,x),some j=>some (x,j+1)
 | _,_=>none) s):wpAny (model prog w) A (setNext a sl i ep) Q E s:=by
 refine Rq (TR ho hd hf ?_);show wpAny _ _ (if w.params.followText _=true then _ else _) _ _ _;rw [RJ (by simp_all)];show wpAny _ _ (if (!t.plain&&decide _)=true then _ else _) _ _ _;rw [RJ (by simp_all)];show wpAny _ _ ((if (!t.led && !es.isEmpty)=true then _ else _) >>= _) _ _ _;rw [RJ (by rw [hl];exact RP)];exact Rq (Ru (Ru h))
theorem Bj (f:Nat->Nat) (a b:α):pickOrder f #[a,b] = #[a,b]∨pickOrder f #[a,b] = #[b,a]:=by
 show pickOrder.go f 2 0 _ _=_∨pickOrder.go f 2 0 _ _=_;unfold pickOrder.go;have h2:f 0% [a,b].length=0∨f 0% [a,b].length=1:=by grind
 rcases h2 with e | e <;> rw [e] <;> simp [pickOrder.go,Nat.mod_one]
theorem B9 (f:Nat->Nat) (a:α):pickOrder f #[a] = #[a]:=by
 show pickOrder.go f 1 0 _ _=_;simp [pickOrder.go,Nat.mod_one]
theorem A8 (hl:led = !w.params.followText "set-order") (ho:h.get? a=some o) (hx:o.ExactSet) (hd:o.data=.set #[(h1,x)] ep (oe led #[p])):iY prog w a [x] h:=by
 have hf:(oe led #[p]).fits 1=true:=rfl;cases hw:w.params.followText _ with
 | true=>
  refine ⟨o,_,ep,_,λ _=>0,ho,hx,hd,hf,rfl,rfl,rfl,λ i A E s Q hi g q=>ir hw g hd hf ?_⟩;rw [B9]
  grind
 | false=>
  have hL:led=true:=by simp_all
  refine ⟨o,_,ep,_,λ i=>if i=0 then 0 else p+1,ho,hx,hd,hf,rfl,rfl,rfl,λ i A E s Q hi g q=>mU hw g hd hf rfl hL ?_⟩;rw [show (oe _ _).place = #[p] from rfl,jJ]
  grind
theorem A2 (hl:led = !w.params.followText "set-order") (ho:h.get? a=some o) (hx:o.ExactSet) (hd:o.data=.set #[(h1,x),(h2,y)] ep (oe led #[p,r])) (hpr:p<r):
 iY prog w a [x,y] h∨iY prog w a [y,x] h:=by
 have hf:(oe led #[p,r]).fits 2=true:=rfl;cases hw:w.params.followText _ with
 | true=>
  rcases Bj _ _ _ with e | e
  . refine .inl ⟨o,_,ep,_,λ _=>0,ho,hx,hd,hf,rfl,rfl,rfl,λ i A E s Q hi g q=>ir hw g hd hf ?_⟩;rw [e]
    grind
  . refine .inr ⟨o,_,ep,_,λ _=>0,ho,hx,hd,hf,rfl,rfl,rfl,λ i A E s Q hi g q=>ir hw g hd hf ?_⟩
    grind
 | false=>
  have hL:led=true:=by rw [hl,hw];rfl
  refine .inl ⟨o,_,ep,_,λ i=>if i=0 then 0 else if i=1 then p+1 else r+1,ho,hx,hd,hf,rfl,rfl,rfl,λ i A E s Q hi g q=>mU hw g hd hf rfl hL ?_⟩;rw [show (oe led #[p,r]).place = #[p,r] from rfl,AQ]
  match i,hi with
  | 0,_=>exact q
  | 1,_=>
   rw [RJ (by show ¬ r<p+1;omega),Rt (by show p<p+1;omega)];exact q
  | 2,_=>
   rw [Rt (by show r<r+1;omega)];exact q
theorem iY.keep (x:iY prog w a vs h) (k:∀ o,h.get? a=some o->h'.get? a=some o):iY prog w a vs h':=by
 obtain ⟨o,es,ep,t,sl,ho,r⟩:=x;exact ⟨o,es,ep,t,sl,k _ ho,r⟩
end
theorem eE:Slot "set_iterator" "__next__" "set_iterator.__next__" :=
 .of (owner := "set_iterator") (n := "__next__") (by rfl) (by rfl) (by rfl) (by rfl)
  (by first | exact .inl (by decide +kernel) | rfl) (by kernel_rfl)
theorem kC:entryFor table "set_iterator.__next__" = some Builtin.«set_iterator.__next__»:=entryFor_of_fast (by rfl)
theorem lO (a:Value):argsOk "set_iterator.__next__" ⟨[a],[]⟩:=by rfl
theorem entry_set_iter':entryFor table "set.__iter__" = some Builtin.«frozenset.__iter__»:=entryFor_alias (id' := "frozenset.__iter__") (by rfl) rfl (by decide +kernel) (by kernel_rfl)
noncomputable def rV (h:Heap) (it a:Addr) (sl i n ep:Nat):Prop:=∃ o,h.get? it=some o/\o.cls=.type "set_iterator" /\ o.data=.fields #[.int sl 0,.int i 0,.ref a,.int n 0,.int ep 0]
section
variable {prog:Program} {w:World} {A:Around} {E:Value->Shared->Prop} {s:Shared} {a it:Addr} {o:Obj} {es:Array (Int×Value)} {ep sl i:Nat} {t:SetTable}
theorem kc (ho:s.heap.get? a=some o) (hd:o.data=.set es ep t) (hf:t.fits es.size=true) (h:Q es s):wpAny (model prog w) A (setEntries a) Q E s:=by
 exact Rq (TR ho hd hf (Ru h))
theorem wO (ho:s.heap.get? a=some o) (hx:o.ExactSet) (hd:o.data=.set es ep t) (hf:t.fits es.size=true) (hp:t.plain=true)
 (hQ:Q (.ref s.heap.objs.size) { s with heap:=s.heap.push { cls:=.type "set_iterator", data:=.fields #[.int 0 0,.int 0 0,.ref a,.int es.size 0,.int ep 0] } }):wpAny (model prog w) A (pyIter (.ref a)) Q E s:=by
 have hT:s.TypeIs (.ref a) _:=⟨o,ho,hx.1⟩
 refine wpAny_pyIter_slot hT PySem.F.slot_set_iter (SI PySem.F.slot_set_iter hT entry_set_iter' ?_ (PySem.F.args_set_iter_1 _));refine Rq  (UU  rfl ?_);refine Rq (Rq (kc ho hd hf (Ru ?_)));refine Rq (Rq (TR ho hd hf ?_));refine Rq (Rq (wpAny_askSetting (Ru (Ru ?_))));have e:∀ b , (!b&&(!t.plain&&decide (es.size>1)))=false:=λ b=>by simp_all
 show wpAny _ _ (if (!w.params.followText _&&(!t.plain&&decide _))=true then _ else _) _ _ _;rw [RJ (by simp_all)];refine Rq (Ru ?_);refine Rq (wpAny_setEpoch_of ho hd hf ?_);exact Rq (Tv (Ru ⟨_,rfl, "set_iterator", _,⟨_,RF _ rfl,rfl⟩,eE.lookup,hQ⟩))
theorem rV.typeIs (x:rV s.heap it a sl i n ep):s.TypeIs (.ref it) "set_iterator" := let ⟨o,ho,hc,_⟩:=x;⟨o,ho,hc⟩
theorem sd {h:Heap} (ho:h.get? it=some o') (hd:o'.data=.fields vs) (hc:o'.cls=.type "set_iterator"):
 ∃ o2,(h.update it (Obj.mapFields (·.setIfInBounds k x))).get? it=some o2/\o2.cls=.type "set_iterator" /\ o2.data=.fields (vs.setIfInBounds k x):=
 ⟨_,TD _ ho (Obj.isFreed_of_fields (Uy hd _)),(Obj.cls_mapFields ..).trans hc,Uy hd _⟩
theorem qm {n:Nat} (hh:A.handled=none) (hit:rV s.heap it a sl i es.size ep) (ho:s.heap.get? a=some o) (hd:o.data=.set es ep t) (hf:t.fits es.size=true)
 (hn:∀ (A:Around) (E:Value->Shared->Prop) (s:Shared) (Q:Option (Value×Nat)->Shared->Prop),s.heap.get? a=some o->Q r s->wpAny (model prog w) A (setNext a sl i ep) Q E s)
 (hQ:∀ h',(∀ x j,r=some (x,j)->rV h' it a j (i+1) es.size ep)->Heap.ExtBut it s.heap h'->Q (r.map (·.1)) { s with heap:=h' }):wpAny (model prog w) A (pyNext (.ref it)) Q E s:=by
 obtain ⟨oi,hoi,hci,hdi⟩:=id hit;refine Rq (UP (Tw  hit.typeIs eE
  (SI eE hit.typeIs kC ?_ (lO _))))
 refine Rq  (UU  rfl ?_);refine Rq (wpAny_fieldsOf hoi hdi ?_);refine Rq (kc ho hd hf ?_);rw [RJ (by simp)];refine Rq (hn _ _ _ _ ho ?_);cases r with
 | some p=>
  obtain ⟨x,j⟩:=p;refine Rq (UG hoi hdi (by simp) ?_);obtain ⟨o2,g2,c2,d2⟩:=sd   hoi hdi hci;refine Rq (UG g2 d2 (by simp) ?_);obtain ⟨o3,g3,c3,d3⟩:=sd   g2 d2 c2;refine Ru ⟨x,rfl,Ru (hQ _ (λ x' j' e=>?_) ?_)⟩
  . cases e;exact ⟨o3,g3,c3,by rw [d3];rfl⟩
  . exact ((SJ ..).trans (SJ ..)).extBut
 | none=>
  dsimp only;refine Rq (UG hoi hdi (by simp) ?_);show wpAny _ _ (newExc (.type "StopIteration") [] >>= _) _ _ _;refine Rq ?_;simp only [newExc,newTuple];refine Rq (Tv ?_ (by size_fits));refine Rq (m:=firstArgMember _ _) (UU (a:=Value.none) (by first | rfl | (simp only [firstArgMember];rfl)) ?_);refine Tv ?_ (by size_fits);simp only [raiseNew];refine Rq (wpAny_handled ?_);rw [show A.in1.handled=none from hh];refine Rq (Ru (wpAny_throw ?_));refine Rq (wpAny_isInstance (T := "StopIteration") (b:=true) ⟨_,RF _ rfl,rfl⟩ isSubtype_stop ?_);exact Ru (hQ _ (λ _ _ e=>nomatch e) (((SJ ..).extBut.push _).push _))
theorem j5:entryFor table "list.extend.loop" = some Builtin.«list.extend.loop»:=entryFor_of_fast (by rfl)
theorem fP:plainId "list.extend.loop" = true:=by decide +kernel
theorem GV (h:n<=9000):n<=sizeLine:=Sb h (by decide)
theorem Cw {vs:List Value} {sl:Nat->Nat} (hh:A.handled=none) (hd:o.data=.set es ep t) (hf:t.fits es.size=true) (hv:vs.length<=100) (hIL:I≠L) (haL:a≠L) (haI:a≠I)
 (hn:∀ (i:Nat) (A:Around) (E:Value->Shared->Prop) (s:Shared) (Q:Option (Value×Nat)->Shared->Prop),i<=vs.length->s.heap.get? a=some o->Q (vs[i]?.map λ v=>(v,sl (i+1))) s->wpAny (model prog w) A (setNext a (sl i) i ep) Q E s):
 ∀ (k i:Nat) (s:Shared),vs.length-i=k->i<=vs.length->rV s.heap I a (sl i) i es.size ep->(∃ n,s.heap.get? L=some (seqObj "list" (vs.take i).toArray n))->s.heap.get? a=some o->
  (∀ h',(∃ n,h'.get? L=some (seqObj "list" vs.toArray n))->(∀ b o,b≠I->b≠L->s.heap.get? b=some o->h'.get? b=some o)->R (.ok (.ret (.ref L))) { s with heap:=h' })->
  codeAny (model prog w) A (.builtin "list.extend.loop" ⟨[.ref L,.ref I,.ref L],[]⟩) R s:=by
 intro k;induction k with
 | zero=>
  intro i s hk hi hit hL ho hR;have e0:vs[i]?=none:=Tl (by omega);refine SF j5 ?_;show wpAny _ A.in1 _ _ _ s;refine Rq (qm (n:=0) (by simp [hh]) hit ho hd hf (hn i · · · · hi) λ h' _ hE=>?_);rw [e0];refine Ru (hR h' ?_ λ b o h1 h2 g=>hE b o h1 g);obtain ⟨n,g⟩:=hL;rw [Se (by omega)] at g;exact ⟨n,hE _ _ hIL.symm g⟩
 | succ k ih=>
  intro i s hk hi hit hL ho hR;have hl:i<vs.length:=by omega
  have e0:vs[i]?=some vs[i]:=RQ hl;refine SF j5 ?_;rw [Around.under_plainId fP _];show wpAny _ A.in1 (pyNext (.ref I) >>= _) _ _ s;refine Rq (qm (n:=0) (by simp [hh]) hit ho hd hf (hn i · · · · hi) λ h' hI hE=>?_);obtain ⟨n,g⟩:=hL;have g':h'.get? L=some (seqObj "list" (vs.take i).toArray n):=hE _ _ hIL.symm g;have hI':=hI vs[i] (sl (i+1)) (by rw [e0];rfl);rw [e0];have z1:(vs.take i).toArray.size<=sizeLine:=GV (by simp;omega);have z2:((vs.take i).toArray.push vs[i]).size<=sizeLine+1:=Nat.le_succ_of_le (GV (by simp;omega));refine Rq (TX (f:=(·.push vs[i])) g' rfl ?_ z1 z2);have sb:=SJ h' L (Obj.mapSeq (·.push vs[i]));have kp:∀ b o,b≠L->h'.get? b=some o->(h'.update L (Obj.mapSeq (·.push vs[i]))).get? b=some o:=λ b o hb e=>by rw [T0 _ _ _ _ hb];exact e
  refine Ru ⟨UQ fP _,ih (i+1) _ (by omega) hl ?_ ⟨_,by rw [get?_update_seq g'];rw [show (vs.take i).toArray.push vs[i]=(vs.take (i+1)).toArray by rw [List.take_succ_eq_append_getElem hl];simp]⟩ (kp _ _ haL (hE _ _ haI ho)) λ h'' e1 e2=>hR h'' e1 λ b o h1 h2 g3=>e2 b o h1 h2 (kp _ _ h2 (hE b o h1 g3))⟩;obtain ⟨oi,q1,q2⟩:=hI';exact ⟨oi,kp _ _ hIL q1,q2⟩
end
section
variable {prog:Program} {w:World} {A:Around} {E:Value->Shared->Prop} {s:Shared} {a:Addr}
theorem BV (hT:s.TypeIs v "set") (h:Q false s):wpAny (model prog w) A (Builtin.List.listLengthHint v) Q E s:=by
 refine Rq (wpAny_specialOf hT PySem.F.slot_set_len.lookup ?_);have e:splitId "set.__len__" = some ("set", "__len__"):=by rfl
 dsimp only;rw [e];refine Rq (wpAny_isInstance hT sub_set_self ?_);refine Rq (UW hT ?_);exact Ru h
theorem vc (hh:A.handled=none) (hS:iY prog w a vs s.heap) (hv:vs.length<=100)
 (h:∀ h',(∀ b o,s.heap.get? b=some o->h'.get? b=some o)->s.heap.objs.size<=h'.objs.size->Q vs { s with heap:=h' }):wpAny (model prog w) A (collect (.ref a)) Q E s:=by
 obtain ⟨o,es,ep,t,sl,ho,hx,hd,hf,hz,hp,h0,hn⟩:=hS;have ha:a<s.heap.objs.size:=RC ho;refine Rq (wpAny_runValue (SF entry_proto_collect' ?_));refine Rq (Ub (Ru ⟨Ux _ (by decide +kernel),SF entry_list_iadd' ?_⟩));show wpAny _ _ (Builtin.List.listExtendWith (.ref s.heap.objs.size) (.ref a) (.ref s.heap.objs.size)) _ _ { s with heap:=s.heap.push (seqObj "list" #[] 0) };have ho':(s.heap.push (seqObj "list" #[] 0)).get? a=some o:=Rv _ ho;have hT:Shared.TypeIs { s with heap:=s.heap.push (seqObj "list" #[] 0) } (.ref a) "set" := ⟨o,ho',hx.1⟩
 refine Rq (UW hT ?_);have hne:(s.heap.objs.size==a)=false:=TY.mpr (UB ha);have hs:(Builtin.List.listSameRef (.ref s.heap.objs.size) (.ref a)||Value.type "set" == Value.type "list" || Value.type "set" == Value.type "tuple")=false:=by
  show ((s.heap.objs.size==a)||_||_)=false;rw [hne];decide
 rw [RJ (by rw [hs];exact RP)];refine Rq (wO ho' hx hd hf hp ?_);have hT2:Shared.TypeIs { s with heap:=(s.heap.push (seqObj "list" #[] 0)).push { cls:=.type "set_iterator", data:=.fields #[.int 0 0,.int 0 0,.ref a,.int es.size 0,.int ep 0] } } (.ref a) "set" := ⟨o,Rv _ ho',hx.1⟩
 refine Rq (Ss (BV hT2 ?_));refine Rq (TC ?_);have hI0:(s.heap.push (seqObj "list" #[] 0)).objs.size=s.heap.objs.size+1:=size_push' _ _;have gL:((s.heap.push (seqObj "list" #[] 0)).push { cls:=.type "set_iterator", data:=.fields #[.int 0 0,.int 0 0,.ref a,.int es.size 0,.int ep 0] }).get? s.heap.objs.size=some (seqObj "list" #[] 0):=Rv _ (RF _ rfl);have gI:rV ((s.heap.push (seqObj "list" #[] 0)).push { cls:=.type "set_iterator", data:=.fields #[.int 0 0,.int 0 0,.ref a,.int es.size 0,.int ep 0] }) (s.heap.push (seqObj "list" #[] 0)).objs.size a 0 0 es.size ep:=⟨_,RF _ rfl,rfl,rfl⟩
 have ga:=Rv { cls:=.type "set_iterator", data:=.fields #[.int 0 0,.int 0 0,.ref a,.int es.size 0,.int ep 0] } ho';have kp:∀ b o,s.heap.get? b=some o->((s.heap.push (seqObj "list" #[] 0)).push { cls:=.type "set_iterator", data:=.fields #[.int 0 0,.int 0 0,.ref a,.int es.size 0,.int ep 0] }).get? b=some o:=λ b o e=>Rv _ (Rv _ e);generalize hH:(s.heap.push (seqObj "list" #[] 0)).push { cls:=.type "set_iterator", data:=.fields #[.int 0 0,.int 0 0,.ref a,.int es.size 0,.int ep 0] }=H2 at gL gI ga kp ⊢;rw [hI0] at gI ⊢;have up:∀ {H:Heap} {f:Array Value->Array Value} {b:Addr} {o:Obj},b≠s.heap.objs.size->H.get? b=some o->(H.update s.heap.objs.size (Obj.mapSeq f)).get? b=some o:=λ hb e=>by rw [T0 _ _ _ _ hb];exact e
 refine Rq (Rq (TX gL rfl ?_ (GV (by decide)) (Nat.le_succ_of_le (GV (by decide)))));have gL2:=get?_update_seq gL (·.push .none);refine TX gL2 rfl ?_ (GV (by decide)) (Nat.le_succ_of_le (GV (by decide)));have gL3:=get?_update_seq gL2 (·.pop);have hI:s.heap.objs.size+1≠s.heap.objs.size:=Nat.succ_ne_self _;have ha1:a≠s.heap.objs.size:=RL ha;have ha2:a≠s.heap.objs.size+1:=RL (SS ha);refine Ru ⟨UQ fP _,Cw (by simp [hh]) hd hf hv hI ha1 ha2 hn _ 0 _ rfl (Tf _) (by rw [h0];obtain ⟨oi,q1,q2⟩:=gI;exact ⟨oi,up hI (up hI q1),q2⟩) ⟨_,gL3⟩ (up ha1 (up ha1 ga)) λ h' hL hk=>?_⟩;obtain ⟨n,hL⟩:=hL;show wpAny (model prog w) A (do
  let o <-load s.heap.objs.size
  match o.data with
  | .seq xs _=>pure xs.toList
  | _=>unsupported "internal:collect") Q E { s with heap:=h' }
 refine Rq (wpAny_load hL ?_);show wpAny _ _ (pure vs.toArray.toList) Q E _;rw [List.toList_toArray];refine Ru (h h' (λ b o e=>?_) (Tb (RC hL)));have hb:=RC e;exact hk b o (RL (SS hb)) (RL hb) (up (RL hb) (up (RL hb) (kp b o e)))
theorem xp (hh:A.handled=none) (hS:iY prog w a vs s.heap) (hI:IntsAre vs ns) (hv:vs.length<64)
 (h:∀ (h':Heap) (p n:Nat) (out:Array Value) (ns':List Int),IntsAre out.toList ns'->ns'.Perm ns->ns'.Pairwise (·<=·)->(∀ b o,s.heap.get? b=some o->h'.get? b=some o)->s.heap.objs.size<=p->h'.get? p=some (seqObj "list" out n)->Q (.ref p) { s with heap:=h' }):
 wpAny (model prog w) A (call (.builtin "sorted") [.ref a]) Q E s:=by
 refine Calls.call_function_entry kind_sorted plain_sorted entry_sorted (args_sorted1 _) ?_;refine Rq  (Ru ?_);refine Rq (vc (by simp [hh]) hS (by omega) λ h1 k1 z1=>?_);refine Rq (Ub ?_);have hoL:(h1.push _).get? _=some (seqObj "list" vs.toArray 0):=RF _ rfl;refine Rq (Ss (SI slot_list_sort ⟨_,hoL,rfl⟩ entry_list_sort (list_sort_tree hoL hI hv λ out ns' a1 a2 a3=>⟨_,rfl,?_⟩) (args_list_sort _)));obtain ⟨e,he⟩:=sortedHeap_at  hoL;exact Ru ⟨_,rfl,h _ _ e _ _ a1 a2 a3 (λ b o g=>by
  have g1:=k1 b o g;rw [sortedHeap_old (RL (RC g1)) (by rw [size_push'];exact SS (RC g1))];exact Rv _ g1) z1 he⟩
end
section
variable {prog:Program} {w:World} {A:Around} {E:Value->Shared->Prop} {s:Shared} {a:Addr}
theorem xM (hkey:(intKind prog w).is k x=true) (hsc:x.scannable=true) (hpk:plainKind x=true)
 (ho:s.heap.get? a=some o) (hd:o.data=.set es ep t) (hf:t.fits es.size=true) (hel:ElemsOf (intKind prog w) es.toList) (hb:es.size<scanBound) (hb1:es1.size<scanBound)
 (hL:layNew t es ((intKind prog w).hash k) x=(es1,t1,false,false)) (hp:t1.plain=true) (hf1:t1.tooFull=false)
 (h1:∀ e∈es.toList,(intKind prog w).is k e.2=true->Q false s) (h2:(∀ e∈es.toList,(intKind prog w).is k e.2=false)->Q true { s with heap:=s.heap.update a (Obj.putSet es1 t1) }):
 wpAny (model prog w) A (setAddHashed a x ((intKind prog w).hash k)) Q E s:=by
 refine Ss (Rq (TR ho hd hf ?_));dsimp only;rw [byScan_of hsc hb hel,Rt rfl];refine Rq (Rq (TC (Rq (wpAny_setScan_of hkey ho hd hf hel ?_))));cases hr:List.findIdx? _ _ with
 | some j=>
  obtain ⟨hj,hpj,_⟩:=List.findIdx?_eq_some_iff_getElem.mp hr;exact Ru (Ru (h1 _ (Uk hj) hpj))
 | none=>
  have hn:=List.findIdx?_eq_none_iff.mp hr;rw [hL];refine Rq (Ru ?_);rw [Rt hp];refine Rq ?_;rw [hashByValue_scannable 8 hsc];refine Ru ?_;simp only [hpk,UD,hf1,   Up];refine Rq (wpAny_storeSet_of ho hd ?_ (fits_of_scanBound hb1));exact Ru (Ru (h2 hn))
theorem Eb (x:Value) (h:Q (.ref s.heap.objs.size) { s with heap:=s.heap.push { cls:=.type "set", dict:=none,data:=.set #[] 0 (.fresh 0 0 (!w.params.followText "set-order")) } }):
 codeAny (model prog w) A (.call (.builtin "set.__new__") ⟨[.type "set", x],[]⟩) (wants Q E) s:=by
 refine codeAny_of_tree ?_;refine Rq (UU (PySem.F.newCall_set_1 x) (Ru ⟨UQ PySem.F.plain_set_new _,SF PySem.F.entry_set_new ?_⟩));unfold Builtin.«set.__new__» Builtin.Frozenset.newClass;have hsub:=sub_set_self
 wp_walk
 refine wpAny_askSetting (Ru ?_);refine Rq (wpAny_alloc (Ru (Ru ?_)));exact h
end
section
variable {prog:Program} {w:World} {A:Around} {E:Value->Shared->Prop} {s:Shared} {S I l:Addr}
theorem pv (hSI:S≠I)
 (hit:s.heap.IsListIter I l n) (hl:s.heap.IsList l items) (hx:items[n]?=some (.int k tk))
 (ho:s.heap.get? S=some o) (hd:o.data=.set es ep t) (hf:t.fits es.size=true) (hel:ElemsOf (intKind prog w) es.toList) (hb:es.size<scanBound) (hb1:es1.size<scanBound)
 (hL:layNew t es ((intKind prog w).hash k) (.int k tk)=(es1,t1,false,false)) (hp:t1.plain=true) (hf1:t1.tooFull=false)
 (h1:(∃ e∈es.toList,(intKind prog w).is k e.2=true)->∀ h' u,h'.IsListIter I l (n+1)->Heap.SameBut I s.heap h'->codeAny (model prog w) A (.builtin "set.update.loop" ⟨[.ref S,.ref I],[]⟩) R { s with heap:=h',toks:=u })
 (h2:(∀ e∈es.toList,(intKind prog w).is k e.2=false)->∀ h' u,h'.IsListIter I l (n+1)->Heap.SameBut I s.heap h'->codeAny (model prog w) A (.builtin "set.update.loop" ⟨[.ref S,.ref I],[]⟩) R { s with heap:=h'.update S (Obj.putSet es1 t1),toks:=u }):
 codeAny (model prog w) A (.builtin "set.update.loop" ⟨[.ref S,.ref I],[]⟩) R s:=by
 refine SF PyProof.Rows.F.entry_set_update_loop ?_;refine Rq (wpAny_pyNext_list_item hit hl hx λ h' hit' hsb=>?_);refine Rq (Ss ?_);refine Ss (Rq ((intKind _ w).pyHash  (UZ _ _ _ _) ?_));have go:h'.get? S=some o:=by rw [hsb.2 S hSI];exact ho
 refine xM (UZ _ _ _ _) rfl rfl go hd hf hel hb hb1 hL hp hf1 (λ e he hk=>?_) λ hk=>?_
 . exact Ru ⟨UQ PyProof.Rows.F.plain_set_update_loop _,h1 ⟨e,he,hk⟩ _ _ hit' hsb⟩
 . exact Ru ⟨UQ PyProof.Rows.F.plain_set_update_loop _,h2 hk _ _ hit' hsb⟩
theorem zj (hh:A.handled=none) (hit:s.heap.IsListIter I l n) (hl:s.heap.IsList l items) (hx:items[n]?=none)
 (h:∀ h',Heap.ExtBut I s.heap h'->R (.ok (.ret .none)) { s with heap:=h' }):codeAny (model prog w) A (.builtin "set.update.loop" ⟨[.ref S,.ref I],[]⟩) R s:=by
 refine SF PyProof.Rows.F.entry_set_update_loop ?_;show wpAny _ A.in1 _ _ _ s;refine Rq (wpAny_pyNext_list_end (by simp [hh]) hit hl hx λ h' he=>?_);exact Ru (h h' he)
theorem zn {h:Heap} (ho:h.get? S=some o) (hx:o.ExactSet) (hd:o.data=.set es ep t):
 ∃ o1,(h.update S (Obj.putSet es1 t1)).get? S=some o1/\o1.ExactSet/\o1.data=.set es1 (ep+1) t1:=by
 have:=TD (Obj.putSet _ t1) ho (by rw [putSet_of es1 t1 hd];rfl);rw [putSet_of _ t1 hd] at this;exact ⟨_,this,hx,rfl⟩
theorem sP (e:h1=(intKind prog w).hash i) (k:(intKind prog w).is i x=true) (z:x.scannable=true):ElemsOf (intKind prog w) #[(h1,x)].toList:=λ p hp=>by
 grind
theorem EV (hh:A.handled=none) (hSI:S≠I) (hlI:l≠I) (hlS:l≠S)
 (hit:s.heap.IsListIter I l 0) (hl:s.heap.IsList l #[.int i ti,.int j tj]) (ho:s.heap.get? S=some o) (hx:o.ExactSet) (hd:o.data=.set #[] ep (.fresh 0 0 (!w.params.followText "set-order")))
 (h:∀ h' u vs ns,iY prog w S vs h'->IntsAre vs ns->ns.Perm (if i=j then [i] else [i,j])->(∀ b o,b≠S->b≠I->s.heap.get? b=some o->h'.get? b=some o)->R (.ok (.ret .none)) { s with heap:=h',toks:=u }):
 codeAny (model prog w) A (.builtin "set.update.loop" ⟨[.ref S,.ref I],[]⟩) R s:=by
 have up:∀ {H:Heap} {f:Obj->Obj} {b:Addr} {o:Obj},b≠S->H.get? b=some o->(H.update S f).get? b=some o:=λ hb e=>by rw [T0 _ _ _ _ hb];exact e
 refine pv (es1:=#[((intKind _ w).hash i,.int i ti)])  hSI hit hl rfl ho hd rfl (λ _ he=>nomatch he) (show 0<scanBound by decide) (show 1<scanBound by decide) (Co _ _ _) rfl rfl (λ ⟨_,he,_⟩=>nomatch he) λ _ h1 u1 it1 sb1=>?_;have l1  := hl.extBut sb1.extBut hlI;obtain ⟨o1,g1,x1,d1⟩:=zn   (show h1.get? S=some o by rw [sb1.2 S hSI];exact ho) hx hd;have it2:(h1.update S (Obj.putSet #[((intKind prog w).hash i,.int i ti)] (oe (!w.params.followText "set-order") #[SetTable.bits ((intKind prog w).hash i)%8]))).IsListIter I l 1:=by
  obtain ⟨oi,q1,q2⟩:=it1;exact ⟨oi,up hSI.symm q1,q2⟩
 have l2:(h1.update S (Obj.putSet #[((intKind prog w).hash i,.int i ti)] (oe (!w.params.followText "set-order") #[SetTable.bits ((intKind prog w).hash i)%8]))).IsList l #[.int i ti,.int j tj]:=by
  obtain ⟨oi,q1,q2⟩:=l1;exact ⟨oi,up hlS q1,q2⟩
 have k1:∀ b o,b≠S->b≠I->s.heap.get? b=some o->(h1.update S (Obj.putSet #[((intKind prog w).hash i,.int i ti)] (oe (!w.params.followText "set-order") #[SetTable.bits ((intKind prog w).hash i)%8]))).get? b=some o:=λ b o hb hb' e=>up hb (by rw [sb1.2 b hb'];exact e);generalize h1.update S (Obj.putSet #[((intKind prog w).hash i,.int i ti)] (oe (!w.params.followText "set-order") #[SetTable.bits ((intKind prog w).hash i)%8]))=H1 at g1 it2 l2 k1 ⊢;obtain ⟨q,hlay⟩:=F2 (led:=!w.params.followText "set-order") (p:=SetTable.bits ((intKind prog w).hash i)%8) (h:=(intKind prog w).hash j) (h1:=(intKind prog w).hash i) (x:=.int j tj) (x1:=.int i ti) (Nat.mod_lt _ (by decide));have dup:∀ (es1:Array (Int×Value)) (t1:SetTable),(∃ e∈#[((intKind prog w).hash i,Value.int i ti)].toList,(intKind prog w).is j e.2=true)->∀ h' u,h'.IsListIter I l 2->Heap.SameBut I H1 h'->
  codeAny (model prog w) A (.builtin "set.update.loop" ⟨[.ref S,.ref I],[]⟩) R { s with heap:=h',toks:=u }:=λ es1 t1 ⟨e,he,hk⟩ h' u it' sb'=>by
  rcases RE.mp he with rfl;have eij:j=i:=(intKind prog w).inj (.int i ti) j i hk (UZ _ _ _ _);refine zj hh it' (l2.extBut sb'.extBut hlI) rfl λ h2 e2=>?_;refine h h2 u [.int i ti] [i] (A8 rfl (e2 _ _ hSI (by rw [sb'.2 S hSI];exact g1)) x1 d1) (.cons i ti .nil) (by rw [Rt eij.symm]) λ b o hb hb' g=>e2 b o hb' (by rw [sb'.2 b hb'];exact k1 b o hb hb' g)
 have new:∀ {es1:Array (Int×Value)} {t1:SetTable} {a b:Int×Value} {p r:Nat},es1 = #[a,b]->t1=oe (!w.params.followText "set-order") #[p,r]->p<r->(a.2=.int i ti/\b.2=.int j tj∨a.2=.int j tj/\b.2=.int i ti)->
  (∀ e∈#[((intKind prog w).hash i,Value.int i ti)].toList,(intKind prog w).is j e.2=false)->∀ h' u,h'.IsListIter I l 2->Heap.SameBut I H1 h'->
  codeAny (model prog w) A (.builtin "set.update.loop" ⟨[.ref S,.ref I],[]⟩) R { s with heap:=h'.update S (Obj.putSet es1 t1),toks:=u }:=λ {es1 t1 a b p r} e1 e2 hpr hab hk h' u it' sb'=>by
  have nij:¬ i=j:=λ z=>by
   have:=hk _ (RE.mpr rfl);subst z;rw [UZ] at this;exact Bool.noConfusion this
  obtain ⟨o2,g2,x2,d2⟩:=zn (es1:=es1) (t1:=t1) (show h'.get? S=some o1 by rw [sb'.2 S hSI];exact g1) x1 d1;refine zj (n:=2) hh (by obtain ⟨oi,q1,q2⟩:=it';exact ⟨oi,up hSI.symm q1,q2⟩) (by obtain ⟨oi,q1,q2⟩:=l2.extBut sb'.extBut hlI;exact ⟨oi,up hlS q1,q2⟩) rfl λ h2 ex=>?_;subst e1 e2;have kp:∀ b o,b≠S->b≠I->s.heap.get? b=some o->h2.get? b=some o:=λ b o hb hb' g=>ex b o hb' (up hb (by rw [sb'.2 b hb'];exact k1 b o hb hb' g));have IA:∀ {x y:Value},(x=.int i ti/\y=.int j tj∨x=.int j tj/\y=.int i ti)->∃ ns,IntsAre [x,y] ns/\ns.Perm (if i=j then [i] else [i,j]):=λ hxy=>by
   rw [RJ nij];rcases hxy with ⟨rfl,rfl⟩ | ⟨rfl,rfl⟩
   . exact ⟨[i,j],.cons i ti (.cons j tj .nil),.refl _⟩
   . exact ⟨[j,i],.cons j tj (.cons i ti .nil),.swap ..⟩
  rcases A2 (prog:=prog) (x:=a.2) (y:=b.2) rfl (ex _ _ hSI g2) x2 d2 hpr with z | z
  . obtain ⟨ns,i1,i2⟩:=IA hab;exact h h2 u _ ns z i1 i2 kp
  . obtain ⟨ns,i1,i2⟩:=IA (x:=b.2) (y:=a.2) (by rcases hab with ⟨e1,e2⟩ | ⟨e1,e2⟩;exact .inr ⟨e2,e1⟩;exact .inl ⟨e2,e1⟩);exact h h2 u _ ns z i1 i2 kp
 rcases hlay with ⟨e,hpq⟩ | ⟨e,hpq⟩
 . exact pv hSI it2 l2 rfl g1 d1 rfl (sP rfl (UZ _ _ _ _) rfl) (show 1<scanBound by decide) (by show 2<scanBound;decide) e rfl rfl (dup #[] default) (new rfl rfl hpq (.inl ⟨rfl,rfl⟩))
 . exact pv hSI it2 l2 rfl g1 d1 rfl (sP rfl (UZ _ _ _ _) rfl) (show 1<scanBound by decide) (by show 2<scanBound;decide) e rfl rfl (dup #[] default) (new rfl rfl hpq (.inr ⟨rfl,rfl⟩))
set_option maxHeartbeats 3200000 in
theorem AM (hh:A.handled=none) (hl:s.heap.IsList l #[.int i ti,.int j tj])
 (h:∀ (h':Heap) (u:Nat) (vs:List Value) (ns:List Int),iY prog w s.heap.objs.size vs h'->IntsAre vs ns->ns.Perm (if i=j then [i] else [i,j])->
  (∀ b o,s.heap.get? b=some o->h'.get? b=some o)->Q (.ref s.heap.objs.size) { s with heap:=h',toks:=u }):
 wpAny (model prog w) A (call (.type "set") [.ref l]) Q E s:=by
 have hmade:=Tq.made;have hsub:=Tq.sub;refine wpAny_call (codeAny_of_tree ?_);show wpAny _ _ (callAny (.type "set") _) _ _ _;refine Ru ⟨Ux _ (by decide +kernel),SF PySem.F.entry_type_call ?_⟩;rw [Around.under_plain (weight_type_call_type "set" [.ref l] []) rfl];have h1:=Tq.notType;have h2:=Tq.canCreate;have hct:=PySem.F.typeCall_set_1 (.ref l);repeat (any_goals (first | assumption | wp_step))
 refine Ui (Eb (.ref l) (E:=E) (Q:=λ obj s₁=>obj=.ref s.heap.objs.size/\s₁={ s with heap:=s.heap.push { cls:=.type "set", dict:=none,data:=.set #[] 0 (.fresh 0 0 (!w.params.followText "set-order")) } }) ⟨rfl,rfl⟩) λ r s₁ hr=>?_;cases r with
 | error e=>exact hr
 | ok fl=>
  cases fl with
  | ret obj=>
   obtain ⟨rfl,rfl⟩:=hr;have hS:(s.heap.push { cls:=.type "set", dict:=none,data:=.set #[] 0 (.fresh 0 0 (!w.params.followText "set-order")) }).get? s.heap.objs.size=some { cls:=.type "set", dict:=none,data:=.set #[] 0 (.fresh 0 0 (!w.params.followText "set-order")) }:=RF _ rfl;have hT:Shared.TypeIs { s with heap:=s.heap.push { cls:=.type "set", dict:=none,data:=.set #[] 0 (.fresh 0 0 (!w.params.followText "set-order")) } } (.ref s.heap.objs.size) "set" := ⟨_,hS,rfl⟩
   have hli:=Tq.init.lookup;have hbi:=Tq.init.bind (.ref s.heap.objs.size);repeat (any_goals (first | assumption | wp_step))
   refine Ui (codeAny_call_builtin (R:=wants (λ r s₂=>r=.none/\∃ h' u vs ns,s₂={ s with heap:=h',toks:=u }/\iY prog w s.heap.objs.size vs h'/\IntsAre vs ns/\ns.Perm (if i=j then [i] else [i,j])/\
    (∀ b o,s.heap.get? b=some o->h'.get? b=some o)) E) Tq.init.plain PySem.F.entry_set_init (check_set_init_1 hT ?_)) λ r₂ s₂ hr₂=>?_
   . obtain ⟨ol,hol,hcl,nl,hdl⟩:=hl;obtain ⟨ocls,odict,odata,oslots⟩:=ol;simp only at hcl hdl;subst hcl hdl;have hol':=Rv { cls:=.type "set", dict:=none,data:=.set #[] 0 (.fresh 0 0 (!w.params.followText "set-order")) } hol;have hsls:=PySem.F.sub_list_set;have hslf:=PySem.F.sub_list_frozenset;have hne:(Value.type "list" == Value.type "dict")=false:=by decide
     have hl1:(s.heap.push { cls:=.type "set", dict:=none,data:=.set #[] 0 (.fresh 0 0 (!w.params.followText "set-order")) }).IsList l #[.int i ti,.int j tj]:=⟨_,hol',rfl,nl,rfl⟩
     unfold Builtin.«set.__init__» noKeywords Builtin.Frozenset.updateFrom;generalize hPI:pyIter=PI
     wp_walk
     subst hPI;refine Ud hl1 (Rq (wpAny_runValue ?_));have hlS:l<s.heap.objs.size:=RC hol;rw [Uf];refine EV (o:={ cls:=.type "set", dict:=none,data:=.set #[] 0 (.fresh 0 0 (!w.params.followText "set-order")) }) (i:=i) (j:=j) (ti:=ti) (tj:=tj) (l:=l) (by simp [hh]) (RL (SG _)) (RL (SS hlS)) (RL hlS) ?_ (hl1.push _) (Rv _ hS) ⟨rfl,rfl,rfl⟩ rfl λ h' u vs ns z1 z2 z3 z4=>?_
     . exact ⟨_,by rw [<-Uf];exact RF _ rfl,rfl,rfl⟩
     . refine Ru ?_;show wpAny _ _ (ret Value.none) _ _ _;refine Ru ⟨rfl,h',u,vs,ns,rfl,z1,z2,z3,λ b o e=>?_⟩;have hb:=RC e;exact z4 b o (RL hb) (RL (SS hb)) (Rv _ (Rv _ e))
   . cases r₂ with
     | error e=>exact hr₂
     | ok fl₂=>
      cases fl₂ with
      | ret r=>
       obtain ⟨rfl,h',u,vs,ns,rfl,z1,z2,z3,z4⟩:=hr₂;repeat (any_goals (first | assumption | wp_step))
       exact h _ _ _ _ z1 z2 z3 z4
      | _=>exact hr₂.elim
  | _=>exact hr.elim
end
noncomputable def Ly (i j:Int):List Int:=if i<j then [i,j] else if j<i then [j,i] else [i]
theorem JQ (h:ns.Perm (if i=j then [i] else [i,j])) (hs:ns.Pairwise (·<=·)):ns=Ly i j:=by
 unfold Ly;by_cases e:i=j
 . simp_all
 . rw [RJ e] at h;have hl:=h.length_eq
   match ns,hl with
   | [x,y],_=>
    have hi:i∈[x,y]:=h.mem_iff.mpr (.head _);have hj  := h.mem_iff.mpr (.tail _ (.head _))
    grind
theorem boot_set':bootBuiltins "set" = some (.type "set"):=by rfl
theorem boot_sorted':bootBuiltins "sorted" = some (.builtin "sorted"):=by rfl
noncomputable def Jz (P:Program) (w:World) (l:Addr) (i j:Int):Heap->Prop:=λ h=>∃ vs ns,iY P w l vs h/\IntsAre vs ns/\ns.Perm (if i=j then [i] else [i,j])
noncomputable def DC (P:Program) (w:World) (K:Frag):List V->Hp->VK->Prop:=λ xs H Q=>∃ a i j,xs=[.ref a]/\cG K H a [.int i,.int j]/\∀ l,H l=none->Q (.ref l) (cH H l (.ext (Jz P w l i j)))
noncomputable def xC (P:Program) (w:World):List V->Hp->VK->Prop:=λ xs H Q=>∃ a i j,xs=[.ref a]/\H a=some (.ext (Jz P w a i j))/\∀ l,H l=none->Q (.ref l) (cH H l (.lst ((Ly i j).map V.int)))
theorem wx (h:IntsAre vs ns):vs.length=ns.length:=by
 induction h with
 | nil=>rfl
 | cons n t _ ih=>simp_all
theorem rA (h:IntsAre vs ns):bf (ns.map V.int) vs:=by
 induction h with
 | nil=>exact .nil
 | cons n t _ ih=>exact .cons ⟨t,rfl⟩ ih
section
variable {X:Cx} {K:Frag} {P:Program} {w:World}
theorem Ae (hP:X.prog=P) (hw:X.w=w) (hK:X.K=K) (hc:X.calm=true):bN X (.type "set") (DC P w K):=by
 subst hP hw hK;intro pins s σ H xs us Q I r h;obtain ⟨a,i,j,rfl,hq,q⟩:=h;obtain ⟨u,rfl,ru⟩:=kW r;cases ru;obtain ⟨its,rv,pl,_⟩:=I.list hq;obtain ⟨ti,tj,rfl⟩:∃ ti tj,its=[.int i ti,.int j tj]:=by
  obtain ⟨x,y,rfl,⟨ti,rfl⟩,⟨tj,rfl⟩⟩:=BC rv
  simp_all
 refine AM (show X.A.handled=none from I.ok.hd hc) pl.isList λ h' u vs ns z1 z2 z3 kp=>?_;have ho:∃ o,h'.get? s.heap.objs.size=some o:=by obtain ⟨o,_,_,_,_,e,_⟩:=z1;simp_all
 exact ⟨.ref _,_,I.laid  kp (Ry _) (show bY _ _ _ h' _ (.ext _) from ⟨⟨vs,ns,z1,z2,z3⟩,ho,λ h1 h2 ⟨vs,ns,z,y⟩ k=>⟨vs,ns,z.keep k,y⟩⟩),rfl,q _ (I.hok.fresh (Ry _))⟩
theorem xG (hP:X.prog=P) (hw:X.w=w) (hc:X.calm=true):bN X (.builtin "sorted") (xC P w):=by
 subst hP hw;intro pins s σ H xs us Q I r h;obtain ⟨a,i,j,rfl,hq,q⟩:=h;obtain ⟨u,rfl,ru⟩:=kW r;cases ru;obtain ⟨⟨vs,ns,z1,z2,z3⟩,_⟩:=I.hok a _ hq;have hl:ns.length<=2:=by rw [z3.length_eq];grind
 have hl2:=wx z2;refine xp (show X.A.handled=none from I.ok.hd hc) z1 z2 (by omega) λ h' p n out ns' a1 a2 a3 kp hp g=>?_;have e:=JQ (a2.trans z3) a3;subst e;refine ⟨.ref p,_,I.laid  kp hp (show bY _ _ _ h' _ (.lst _) from ⟨GV ?_,out.toList,n,rA a1,by omega⟩),rfl,q _ (I.hok.fresh hp)⟩;rw [R8,(a2.trans z3).length_eq]
 grind
theorem PU (hP:X.prog=P) (hw:X.w=w) (hc:X.calm=true):QB X "sorted" (xC P w):=⟨_,xG hP hw hc,boot_sorted'⟩
theorem NI (hP:X.prog=P) (hw:X.w=w) (h:X.K=K) (hc:X.calm=true) (hg:Gl X "set") (hm:X.mg "set" = none) (ha:PA X (e::es) t)
 (he:starEach (e::es) X.env=(false,eval e X.env)::starEach es X.env) (hp:(backTo pos (starEach es X.env)).any (·.1)=false):PE X (.Call (.Name "set" p) (e::es) [] pos) (tN (DC P w K) t):=mR (Ae hP hw h hc) hg hm boot_set' ha (by decide) (by decide) he hp
end
noncomputable def Qx:W->Option (List W)
 | .list [.int i,.int j]=>some ((Ly i j).map W.int)
 | _=>none
noncomputable def Qe (f:DS->Option W):DS->Option (List W):=λ δ=>(f δ).bind Qx
theorem MN {K:Frag} (h:DK K ρ t f):DO K ρ (tN (xC P w) (dj (tN (DC P w K) (dj t gN)) gN)) (Qe f):=λ G σ H δ ds Q R e q=>by
 obtain ⟨x,ex,e⟩:=oB e
 refine h G σ H δ x _ R ex λ v G1 H1 g1 dv=>?_;unfold Qx at e;split at e
 . rename_i i j;cases e;obtain ⟨p,vs,rfl,sq,da⟩:=i3 g1.s dv;obtain rfl:vs=[V.int i,V.int j]:=by
    cases da with
    | cons h1 r1=>
     cases h1;cases r1 with
     | cons h2 r2=>cases h2;cases r2;rfl
   refine ⟨p,i,j,rfl,sq,λ l hl=>⟨l,i,j,rfl,aG,λ l2 hl2=>?_⟩⟩;have n1:Nw H1 _ l (.ext (Jz P w l i j)):=.of hl;have n2:Nw _ _ l2 (.lst ((Ly i j).map V.int)):=.of hl2;have g2:=g1.trans (.nwO g1.s n1);refine q l2 _ G1 _ (g2.trans (.nwO g2.s n2)) (bV g2.h hl2) (bV g2.s hl2) aG ?_;exact .ints _
 . cases e
section
variable {X:Cx} {E:XK} {C:Addr} {x:Str} {np cpos pos:Pos} {e:Expr} {es:List Expr} {t:TA}
end
section
variable {X:Cx} {CX:GR} {k:Nat} {f C:Addr} {fd:FuncData} {ps:List Str} {sp:Sp} {dvs:List V} {ds:List Value} {E:XK} {x m:Str} {p pos apos:Pos} {e o:Expr} {es:List Expr} {ta:TE} {t:TA}
end
section
variable {X:Cx} {k:Nat} {f C C1 C2:Addr} {fd:FuncData} {ps:List Str} {sp:Sp} {m n1 n2:Str} {apos cpos xpos pos p1 p2 q1 q2:Pos} {e o:Expr} {es:List Expr} {to:TE} {ta:TA} {t1 t2:TS} {b1 b2:Stmt} {l1 l2:List Stmt} {pl:Sem Bool}
end
section
variable {K:Frag} {cl:Str->Addr} {E:XK}
end
section
variable {A:Around} {E:Value->Shared->Prop}
end
section
variable {K:Frag} {cl:Str->Addr} {E:XK}
inductive Ld (K:Frag):List (TE×TE)->List (Str×(DS->Option W))->Prop
 | nil:Ld K [] []
 | cons {k:Str} {t:TE} {f:DS->Option W} {trs:List (TE×TE)} {kfs:List (Str×(DS->Option W))}:(∀ ρ,DE K ρ t f)->Ld K trs kfs->Ld K ((tC (.str k),t)::trs) ((k,f)::kfs)
noncomputable def kB (fo fk fx:DS->aq->SM W):DS->aq->SM W:=λ δ S=>aw (fo δ S) λ x S1=>if (p8 x S1).isSome=true then aw (fk δ S1) λ y S2=>aw (fx δ S2) λ z S3=>(pT x y S3).bind λ o=>some (.ok (o.getD z),S3) else none
theorem DZ {to tk tx:TE} {fo fk fx:DS->aq->SM W} (ho:SE K cl E to fo) (hk:SE K cl E tk fk) (hx:SE K cl E tx fx):SE K cl E (Bt to tk tx) (kB fo fk fx):=λ ρ G σ H δ S r S' Q R e q qx=>
 ci ho R e (λ x S1 e1 v ρ1 G1 H1 g1 s1 dv=>by
  split at e1
  case isFalse=>cases e1
  rename_i hx1;obtain ⟨⟨n,kvs0⟩,hx0⟩:=TW.mp hx1;obtain ⟨rfl,h0⟩:=jM hx0;obtain ⟨a,rfl,ea⟩:=cD dv;obtain ⟨_,ws0,k0,_⟩:=s1.addr h0 ea;have R1:=R.grow g1 s1;refine ⟨a,rfl,.inl ⟨ws0,.inl k0⟩,?_⟩;refine ci hk R1 e1 (λ y S2 e2 u ρ2 G2 H2 g2 s2 du=>?_) λ c hc ρ2 G2 H2 g2 s2=>qx c hc ρ2 G2 H2 (g1.trans g2) s2;refine ci hx (R1.grow g2 s2) e2 (λ z S3 e3 w ρ3 G3 H3 g3 s3 dw=>?_) λ c hc ρ3 G3 H3 g3 s3=>qx c hc ρ3 G3 H3 (g1.trans (g2.trans g3)) s3;obtain ⟨o,e4,e5⟩:=oB e3
  cases e5;have g13:=g1.trans (g2.trans g3);have g23:=g2.trans g3;obtain ⟨a',r',ez,h1,h2⟩:=uM g13.s s3 ((dv.ext g23.r).same g23.g) ((du.ext g3.r).same g3.g) e4;cases ez;refine ⟨r',h1,?_⟩;cases o with
  | some d=>
   obtain ⟨z',rfl,dz⟩:=h2;exact q _ rfl _ ρ3 G3 H3 g13 s3 dz
  | none=>
   rw [show r'=none from h2];exact q _ rfl _ ρ3 G3 H3 g13 s3 dw) qx
end
section
variable {K:Frag} {cl:Str->Addr} {E:XK}
end
section
variable {P:Program} {w:World} {K:Frag} {mg:Str->Option Value} {base:Heap} {cl:Str->Addr} {R:Addr->FuncData->Prop} {x q:Str} {st:Stmt} {N ps:List Str} {a n k:Nat} {t:TS} {sp:Sp}
end
section
variable {K:Frag} {cl:Str->Addr} {E:XK}
end
end L2
namespace L2
open PySem PySem.Spec PyProof.Rows
open PySem.W (Frag)
theorem boot_max':bootBuiltins "max" = some (.builtin "max"):=by rfl
theorem Pn (hc:X.calm=true):QB X "max" Dx:=⟨_,wT hc,boot_max'⟩
end L2
namespace L2
open PySem PySem.Spec PyProof.Rows
open PySem.W (Frag)
theorem Jf {K:Frag}:oX K ρ Cj lj:=BZ
noncomputable def xA (K:Frag) (a:Addr) (ws:List Str):Prop:=∀ G,eZ K G a (ws.map V.str)
theorem Jn {K:Frag} (hs:xA K a ws) (hd:d=.tuple (ws.map W.str)) (ha:DK K ρ ta fa):DT K ρ (pN (w4 (E1 K false) ta (tC (.ref a)))) (au fY fa (dC d)):=by
 subst hd;exact Im hs ha
theorem AI {K:Frag} (hs:xA K a ws) (hd:d=.tuple (ws.map W.str)) (ha:DK K ρ ta fa):DT K ρ (pN (w4 (E1 K true) ta (tC (.ref a)))) (au iD fa (dC d)):=by
 subst hd;exact Ao hs ha
end L2
namespace L2
open PySem PySem.Spec PyProof.Rows
open PySem.W (Frag)
section
variable {K:Frag} {cl:Str->Addr} {E:XK}
end
section
variable {prog:Program} {w:World} {A:Around} {E:Value->Shared->Prop} {s:Shared}
end
section
variable {prog:Program} {w:World} {A:Around} {E:Value->Shared->Prop} {s:Shared} {z TI TO T i1 i2 l1 l2:Addr} {f:Bool} {k1 k2:Nat} {xs ys:Array Value} {x y:Value} {oT:Obj}
end
section
variable {prog:Program} {w:World} {A:Around} {E:Value->Shared->Prop} {s:Shared} {z TI TO i1 i2 l1 l2 d:Addr} {xs ys:Array Value}
end
section
variable {K:Frag} {cl:Str->Addr} {E:XK}
end
section
variable {K:Frag} {ρ:List Addr}
end
section
variable {K:Frag} {cl:Str->Addr} {E:XK}
end
section
variable {prog:Program} {w:World} {A:Around} {E:Value->Shared->Prop} {s:Shared}
end
section
variable {K:Frag} {cl:Str->Addr} {E:XK}
inductive Ln (K:Frag) (cl:Str->Addr) (E:XK):List (TE×TE)->List (Str×(DS->aq->SM W))->Prop
 | nil:Ln K cl E [] []
 | cons {k:Str} {t:TE} {f:DS->aq->SM W} {trs:List (TE×TE)} {kfs:List (Str×(DS->aq->SM W))}:SE K cl E t f->Ln K cl E trs kfs->Ln K cl E ((tC (.str k),t)::trs) ((k,f)::kfs)
end
section
variable {K:Frag} {cl:Str->Addr} {E:XK}
end
theorem boot_min':bootBuiltins "min" = some (.builtin "min"):=by rfl
noncomputable def Am (K:Frag) (c:Addr) (m q:Str) (st:Stmt):Prop:=∃ (f:Addr) (oc:Value) (od:Option Addr) (kV dc pm:Value) (an:Option Addr) (cd ct:Value) (sl:Array (Option Value)),
 PySem.W.findIn K (.ref c) m=some (some (.ref f))/\PySem.W.isFn K (.ref f)=true/\K.lookup f=some ⟨oc,od,.func (PySem.W.fnOf m q (cU st) (cu st) (aX st) .none kV dc pm an cd ct),sl⟩/\PySem.W.codeIn K cd q=true/\PySem.W.keepIn K (.ref f)=true
noncomputable def Qc (K:Frag) (c:Addr):Prop:=PySem.W.plainGet K c Str.empty=true/\PySem.W.hasDictIn K c=true/\PySem.W.plainOver K c=true/\PySem.W.findIn K (.ref c) "__setattr__" = some (some (.builtin "object.__setattr__"))/\PySem.W.makesIn K c=true/\PySem.W.keepIn K (.ref c)=true
section
variable {K:Frag} {c:Addr} {m q:Str} {st:Stmt} {ps:List Str}
theorem Qc.cls (h:Qc K c):Ap K c:=⟨h.1,h.2.1,h.2.2.1,h.2.2.2.1⟩
theorem Am.dn (z:Am K c m q st) (hb:∀ (kV dc pm:Value) (an:Option Addr) (cd ct:Value) (us:List Value),us.length=ps.length->bindArgs (PySem.W.fnOf m q (cU st) (cu st) (aX st) .none kV dc pm an cd ct) ⟨us,[]⟩=pure (ps.zip us)):w6 (λ f fd=>oj K c m f/\cP K fd ps []) K m q st:=by
 obtain ⟨f,oc,od,kV,dc,pm,an,cd,ct,sl,a,i,l,e,kp⟩:=z;exact ⟨f,_,lu l e kp,⟨a,i,kp⟩,(xJ l e kp).binds hb⟩
theorem Am.mk (z:Am K c "__init__" q st) (h:Qc K c) (hb:∀ (kV dc pm:Value) (an:Option Addr) (cd ct:Value) (us:List Value),us.length=ps.length->bindArgs (PySem.W.fnOf "__init__" q (cU st) (cu st) (aX st) .none kV dc pm an cd ct) ⟨us,[]⟩=pure (ps.zip us)):w6 (λ f fd=>Mk K c f/\cP K fd ps []) K "__init__" q st:=by
 obtain ⟨f,oc,od,kV,dc,pm,an,cd,ct,sl,a,i,l,e,kp⟩:=z;exact ⟨f,_,lu l e kp,⟨h.2.2.2.2.1,a,i,h.2.2.2.2.2⟩,(xJ l e kp).binds hb⟩
end
section
variable {X:Cx} {K:Frag}
end
structure M0 (X:Cx) (o:Expr) (name:Str) (apos cpos:Pos):Prop where
 base:attributeBase o name X.env (eval o X.env)=eval o X.env
 line:(apos.endLine==cpos.line)=true
section
variable {K:Frag} {cl:Str->Addr} {E:XK}
end
section
variable {K:Frag} {cl:Str->Addr} {E:XK}
end
section
variable {X:Cx} {scope:Scope} {ix:List (Option Nat)} {z1 z2 z3:Str} {p1 p2 p3 tp:Pos} {tk:Nat} {iter elt:Expr} {ifs:List Expr} {wi:TI} {g:TG} {tc:TT} {te:TE} {pos py spos:Pos} {y:Str} {i:Nat}
noncomputable abbrev QX (X:Cx) (scope:Scope) (ix:List (Option Nat)) (zs:List Str) (tg elt:Expr) (ifs:List Expr) (g:TG) (tc:TT) (te:TE):Prop:=∀ (s₀:Shared) (H₀:Hp) (C:Addr) (ex:List Addr),(cN X.N ix zs).Nodup->PG (bA X scope (cN X.N ix zs) s₀ H₀ C ex) tg g/\vm (bA X scope (cN X.N ix zs) s₀ H₀ C ex) ifs tc/\PE (bA X scope (cN X.N ix zs) s₀ H₀ C ex) elt te
end
section
variable {prog:Program} {w:World} {A:Around} {E:Value->Shared->Prop} {s:Shared}
end
section
variable {X:Cx}
end
section
variable {K:Frag} {cl:Str->Addr} {E:XK}
end
section
variable {X:Cx} {pins:List (Addr×Obj)} {σ:St} {H:Hp} {s:Shared} {scope:Scope} {N:List Str} {ix:List (Option Nat)} {y0:Str}
end
section
variable {X:Cx} {elt tg iter:Expr} {ifs:List Expr} {scope:Scope} {pos:Pos} {wi:TI} {g:TG} {tc:TT} {te:TE} {N:List Str} {ix:List (Option Nat)} {y0:Str}
end
section
variable {X:Cx} {scope:Scope} {N:List Str} {ix:List (Option Nat)} {z d0:Str} {zp:Pos} {iter elt:Expr} {ifs:List Expr} {wi:TI} {g:TG} {tc:TT} {te:TE} {pos py spos:Pos} {y:Str} {i:Nat} {k0:ScopeKind} {b1 b2:Bool} {m0:List (Str×Const)} {r:List (Str×NameKind)}
end
section
variable {X:Cx} {scope:Scope} {ix:List (Option Nat)} {z1 z2:Str} {p1 p2 tp:Pos} {tk:Nat} {iter elt:Expr} {ifs:List Expr} {wi:TI} {g:TG} {tc:TT} {te:TE} {pos:Pos}
theorem Lb (S:bG X scope (cN X.N ix [z1,z2]) ix) (hn:decide (cN X.N ix [z1,z2]).Nodup=true) (hc:X.calm=true) (hi:PI X (.Tuple [.Name z1 p1,.Name z2 p2] tk tp) iter wi) (hG:lW ix g) (hb:QX X scope ix [z1,z2] (.Tuple [.Name z1 p1,.Name z2 p2] tk tp) elt ifs g tc te)
 (hs:∀ x,foldedSetIterable iter X.env x=pure x):PE X (.ListComp elt [⟨.Tuple [.Name z1 p1,.Name z2 p2] tk tp,iter,ifs,0⟩] scope pos) (pE ix wi g tc te):=zc S hc hi hG (λ a b c d=>hb a b c d (Sh hn)) hs
end
end L2
set_option linter.all false
set_option Elab.async false
namespace L2
open PySem PySem.Spec PyProof.Rows
open PySem.W (Frag)
open Lean in
local macro_rules | `(tactic| trace $s:str)=>do
 let z (j n:String):Array Ident:=(List.range n.toNat!).toArray.map λ i=>mkIdent (.mkSimple s!"{j}{i}")
 match s.getString.splitOn " " with
 | [""]=>`(tactic| try dsimp -zeta only)
 | ["=", n]=>do
  let a:=z "z" n
  `(tactic| (extract_lets +onlyGivenNames $a:ident*;dsimp -zeta only [$[$a:ident],*]))
 | [j,n]=>do
  let a:=z j n
  `(tactic| (extract_lets +onlyGivenNames $(a.push (mkIdent j.toName)):ident*;try dsimp -zeta only [$[$a:ident],*]))
 | [_,j,n]=>`(tactic| dsimp -zeta only [$[$((z j n).push (mkIdent j.toName)):ident],*])
 | [n]=>`(tactic| (delta $(mkCIdent (mkPrivateNameCore `PySem.Builtin.List.W1All (`PySem.Builtin++n.toName))):ident;dsimp -zeta only))
 | _=>Macro.throwUnsupported
noncomputable def lq:Bool->Keyed->Array Keyed->Nat->Nat->Nat->StateT SortSt Sem (Option Nat):=sortPriv% PySem.Builtin.gallop
noncomputable def vP:Array Keyed->Array Keyed->StateT SortSt Sem (Array Keyed):=sortPriv% PySem.Builtin.mergeLo
noncomputable def wk:Array Keyed->Array Keyed->StateT SortSt Sem (Array Keyed):=sortPriv% PySem.Builtin.mergeHi
noncomputable def xX (M:Model) (A:Around) (E:Value->Shared->Prop) (s:Shared) (kd:SortKind) (key:Keyed->Int) (P:Keyed->Prop):Prop:=∀ x y,P x->P y->∀ (st:SortSt) (Q:Option Bool->SortSt->Prop),kindOf st=kd->Q (some (decide (key x<key y))) st->wpS M A E s (lt' x y) Q st
section
variable {M:Model} {A:Around} {E:Value->Shared->Prop} {s:Shared} {kd:SortKind} {key:Keyed->Int} {P:Keyed->Prop}
theorem nc {σ α:Type} {c:Prop} [Decidable c] {a b:StateT σ Sem α} {Q:α->σ->Prop} {st:σ} (h:c) (q:wpS M A E s a Q st):wpS M A E s (if c then a else b) Q st:=by rw [Rt h];exact q
theorem nv {σ α:Type} {c:Prop} [Decidable c] {a b:StateT σ Sem α} {Q:α->σ->Prop} {st:σ} (h:¬ c) (q:wpS M A E s b Q st):wpS M A E s (if c then a else b) Q st:=by rw [RJ h];exact q
theorem eS {σ α:Type} {c:Prop} [Decidable c] {a b:StateT σ Sem α} {Q:α->σ->Prop} {st:σ} (h1:c->wpS M A E s a Q st) (h2:¬ c->wpS M A E s b Q st):wpS M A E s (if c then a else b) Q st:=by
 by_cases h:c
 . exact nc h (h1 h)
 . exact nv h (h2 h)
theorem cv {σ α:Type} {x y:Nat} {a b:StateT σ Sem α} {Q:α->σ->Prop} {st:σ} (h1:x=y->wpS M A E s a Q st) (h2:x≠y->wpS M A E s b Q st):wpS M A E s (if (x==y)=true then a else b) Q st:=eS (λ h=>h1 (UN.mp h)) λ h=>h2 λ z=>h (UN.mpr z)
theorem ba {arr:Array Keyed} {i:Nat} {p:Keyed} {Q:Keyed->SortSt->Prop} {st:SortSt} (h:arr[i]?=some p) (hq:Q p st):wpS M A E s (elem' arr i) Q st:=by
 rw [elem'_eq,h];exact RH hq
theorem xx {lo hi:Nat} (h:lo<hi):lo<=lo+(hi-lo) / 2/\lo+(hi-lo) / 2<hi:=by omega
noncomputable def qO (key:Keyed->Int) (left:Bool) (x y:Keyed):Bool:=if left then decide (key y<key x) else !decide (key x<key y)
theorem AJ (hL:xX M A E s kd key P) {st:SortSt} (hk:kindOf st=kd) {left:Bool} {x:Keyed} (px:P x) {arr:Array Keyed} {base n hint:Nat} {B:Nat->Bool} (hB:∀ i,i<n->∃ y,arr[base+i]?=some y/\P y/\qO key left x y=B i) (mono:∀ i j,i<=j->j<n->B j=true->B i=true) {Q:Option Nat->SortSt->Prop} (hh:hint<n)
 (h:∀ k,k<=n->(∀ i,i<k->B i=true)->(∀ i,k<=i->i<n->B i=false)->Q (some k) st):wpS M A E s (lq left x arr base n hint) Q st:=by
 have nm:∀ i j,i<=j->j<n->B i=false->B j=false:=λ i j h1 h2 h3=>by
  cases e:B j with
  | false=>rfl
  | true=>rw [mono i j h1 h2 e] at h3;cases h3
 have by':∀ {Q:Option Bool->SortSt->Prop} (i:Nat),i<n->Q (some (B i)) st->wpS M A E s (do
  let y <-elem' arr (base+i)
  if left=true then lt' y x else do
   let r <-lt' x y
   pure (Option.map (λ z=>!z) r)) Q st:=λ {Q} i hi q=>by
  obtain ⟨y,e,py,eb⟩:=hB i hi;refine RA (ba e ?_);rw [<-eb] at q;cases left with
  | true=>
   refine nc rfl ?_;exact hL y x py px st Q hk q
  | false=>
   refine nv (by decide) ?_;exact RA (hL x y px py st _ hk (RH q))
 delta lq
 trace "gallop"
 refine RA (by' hint hh ?_)
 trace ""
 have fin:∀ {f:Nat->Option (Option Nat)×Nat×Nat->StateT SortSt Sem (ForInStep (Option (Option Nat)×Nat×Nat))} {lo hi:Nat} {Q':Option (Option Nat)×Nat×Nat->SortSt->Prop},lo<=hi->hi<=n->(∀ i,i<lo->B i=true)->(∀ i,hi<=i->i<n->B i=false)->(∀ i lo hi,lo<hi->hi<=n->∀ {Q:ForInStep (Option (Option Nat)×Nat×Nat)->SortSt->Prop},Q (.yield (if B (lo+(hi-lo) / 2) then (none,lo+(hi-lo) / 2+1,hi) else (none,lo,lo+(hi-lo) / 2))) st->wpS M A E s (f i (none,lo,hi)) Q st)->(∀ i lo hi,hi<=lo->f i (none,lo,hi)=pure (.done (none,lo,hi)))->(∀ l k,k<=n->(∀ i,i<k->B i=true)->(∀ i,k<=i->i<n->B i=false)->Q' (none,l,k) st)->wpS M A E s (forIn [0:n] (none,lo,hi) f) Q' st:=by
  intro f lo hi Q' h1 h2 h3 h4 hs hd hq;refine Sv (I:=λ x c st'=>st'=st/\∃ lo hi,c=(none,lo,hi)/\lo<=hi/\hi<=n/\hi-lo<=n-x/\(∀ i,i<lo->B i=true)/\(∀ i,hi<=i->i<n->B i=false)) ?_ ?_ ⟨rfl,lo,hi,rfl,h1,h2,by omega,h3,h4⟩
  . rintro i c st' _ hi' ⟨rfl,lo,hi,rfl,h1,h2,h5,h3,h4⟩;by_cases c:hi<=lo
    . rw [hd i lo hi c];have:lo=hi:=by omega
      subst this;exact RH (hq _ _ h2 h3 h4)
    . refine hs i lo hi (by omega) h2 ?_;obtain ⟨m1,m2⟩:=xx (Nat.lt_of_not_le c);generalize lo+(hi-lo) / 2=md at *;cases e:B md with
      | true=>exact ⟨rfl,_,_,rfl,by omega,h2,by omega,λ j hj=>mono j _ (by omega) (by omega) e,h4⟩
      | false=>exact ⟨rfl,_,_,rfl,by omega,by omega,by omega,h3,λ j h6 h7=>nm _ j h6 h7 e⟩
  . rintro c st' ⟨rfl,lo,hi,rfl,h1,h2,h5,h3,h4⟩;have:lo=hi:=by omega
    subst this;exact hq _ _ h2 h3 h4
 cases eh:B hint with
 | true=>
  refine nc rfl ?_;refine RA (T5 (Sv (I:=λ x c st'=>st'=st/\∃ la of,c=(none,la,of)/\la<of/\x+1<=of/\B (hint+la)=true/\hint+la<n) (Q:=λ c st'=>st'=st/\∃ la of,c=(none,la,of)/\la<of/\B (hint+la)=true/\hint+la<n/\(n-hint<=of∨(hint+of<n/\B (hint+of)=false))) ?_ ?_ ⟨rfl,0,1,rfl,by omega,by omega,eh,hh⟩) ?_)
  . rintro i c st' _ hi ⟨rfl,la,of,rfl,h1,h2,h3,h4⟩
    trace ""
    refine eS (λ c=>?_) λ c=>?_
    . exact RH ⟨rfl,la,of,rfl,h1,h3,h4,.inl c⟩
    . refine RA (by' (hint+of) (by omega) ?_)
      trace ""
      cases e:B (hint+of) with
      | false=>exact RH ⟨rfl,la,of,rfl,h1,h3,h4,.inr ⟨by omega,e⟩⟩
      | true=>exact RH ⟨rfl,of,2*of+1,rfl,by omega,by omega,e,by omega⟩
  . rintro c st' ⟨rfl,la,of,rfl,h1,h2,h3,h4⟩;exact ⟨rfl,la,of,rfl,h1,h3,h4,.inl (by omega)⟩
  . rintro c st' ⟨rfl,la,of,rfl,h1,h3,h4,h5⟩
    trace ""
    have mn:la<min of (n-hint):=Nat.lt_min.mpr ⟨h1,by omega⟩;have mx:=Nat.min_le_right of (n-hint);have e1:n-hint<=of->min of (n-hint)=n-hint:=Nat.min_eq_right;have e2:of<=n-hint->min of (n-hint)=of:=Nat.min_eq_left;generalize min of (n-hint)=mm at *;refine RA (fin (by omega) (by omega) (λ i hi=>mono i _ (by omega) h4 h3) (λ i hi hn=>?_) (λ i lo hi hl hn q hq=>?_) (λ i lo hi hl=>Rt hl) λ l k h1 h2 h3=>RH (h k h1 h2 h3))
    . rcases h5 with h5 | ⟨h5,h6⟩
      . have:=e1 h5;omega
      . have:=e2 (by omega);exact nm _ i (by omega) hn h6
    . trace ""
      rw [RJ (Nat.not_le.mpr hl)];refine RA (by' (lo+(hi-lo) / 2) (RD (xx hl).2 hn) ?_);cases e:B (lo+(hi-lo) / 2) <;> rw [e] at hq <;> exact RH hq
 | false=>
  refine nv (by decide) ?_;refine RA (T5 (Sv (I:=λ x c st'=>st'=st/\∃ la of,c=(none,la,of)/\la<of/\x+1<=of/\B (hint-la)=false/\la<=hint) (Q:=λ c st'=>st'=st/\∃ la of,c=(none,la,of)/\la<of/\B (hint-la)=false/\la<=hint/\(hint+1<=of∨(of<=hint/\B (hint-of)=true))) ?_ ?_ ⟨rfl,0,1,rfl,by omega,by omega,eh,by omega⟩) ?_)
  . rintro i c st' _ hi ⟨rfl,la,of,rfl,h1,h2,h3,h4⟩
    trace ""
    refine eS (λ c=>?_) λ c=>?_
    . exact RH ⟨rfl,la,of,rfl,h1,h3,h4,.inl c⟩
    . refine RA (by' (hint-of) (by omega) ?_)
      trace ""
      cases e:B (hint-of) with
      | true=>exact RH ⟨rfl,la,of,rfl,h1,h3,h4,.inr ⟨by omega,e⟩⟩
      | false=>exact RH ⟨rfl,of,2*of+1,rfl,by omega,by omega,e,by omega⟩
  . rintro c st' ⟨rfl,la,of,rfl,h1,h2,h3,h4⟩;exact ⟨rfl,la,of,rfl,h1,h3,h4,.inl (by omega)⟩
  . rintro c st' ⟨rfl,la,of,rfl,h1,h3,h4,h5⟩
    trace ""
    have mn:la<min of (hint+1):=Nat.lt_min.mpr ⟨h1,by omega⟩;have mx:=Nat.min_le_right of (hint+1);have e1:hint+1<=of->min of (hint+1)=hint+1:=Nat.min_eq_right;have e2:of<=hint+1->min of (hint+1)=of:=Nat.min_eq_left;generalize min of (hint+1)=mm at *;refine RA (fin (by omega) (by omega) (λ i hi=>?_) (λ i hi hn=>nm _ i hi hn h3) (λ i lo hi hl hn q hq=>?_) (λ i lo hi hl=>Rt hl) λ l k h1 h2 h3=>RH (h k h1 h2 h3))
    . rcases h5 with h5 | ⟨h5,h6⟩
      . have:=e1 h5;omega
      . have:=e2 (by omega);exact mono i _ (by omega) (by omega) h6
    . trace ""
      rw [RJ (Nat.not_le.mpr hl)];refine RA (by' (lo+(hi-lo) / 2) (RD (xx hl).2 hn) ?_);cases e:B (lo+(hi-lo) / 2) <;> rw [e] at hq <;> exact RH hq
end
section
variable {α:Type} {key:α->Int} {tot:List α}
noncomputable def Le (key:α->Int) (x y:α):Prop:=key x<=key y
structure MI (key:α->Int) (tot out X Y:List α):Prop where
 pm:(out++(X++Y)).Perm tot
 o:out.Pairwise (Le key)
 b:∀ p∈out,∀ q∈X++Y,key p<=key q
 x:X.Pairwise (Le key)
 y:Y.Pairwise (Le key)
theorem MI.swap {out X Y:List α} (h:MI key tot out X Y):MI key tot out Y X:=⟨(List.Perm.append_left out List.perm_append_comm).trans h.pm,h.o,λ p hp q hq=>h.b p hp q (by simp only [Rz] at hq ⊢;exact hq.symm),h.y,h.x⟩
theorem MI.blk {out T D Y:List α} (h:MI key tot out (T++D) Y) (ht:∀ p∈T,∀ q∈Y,key p<=key q):MI key tot (out++T) D Y:=by
 obtain ⟨x1,x2,x3⟩:=Sg.mp h.x;refine ⟨by simpa using h.pm,Sg.mpr ⟨h.o,x1,λ p hp q hq=>h.b p hp q (by simp [hq])⟩,λ p hp q hq=>?_,x2,h.y⟩;rcases Rz.mp hp with hp | hp
 . exact h.b p hp q (by simp only [Rz] at hq ⊢;exact hq.imp .inr id)
 . rcases Rz.mp hq with hq | hq
   . exact x3 p hp q hq
   . exact ht p hp q hq
noncomputable def vM (key:α->Int) (tot r:List α):Prop:=r.Perm tot/\r.Pairwise (Le key)
theorem MI.fin {out X:List α} (h:MI key tot out X []):vM key tot (out++X):=⟨by simpa using h.pm,Sg.mpr ⟨h.o,h.x,λ p hp q hq=>h.b p hp q (by simp [hq])⟩⟩
theorem MI.last {out Y:List α} {x:α} (h:MI key tot out [x] Y) (hx:∀ q∈Y,key q<=key x):vM key tot (out++Y++[x]):=by
 have h1:=h.swap;rw [<-Sa Y] at h1;have h2:=(h1.blk (T:=Y) (D:=[]) λ p hp q hq=>by rw [RE.mp hq];exact hx p hp)
 exact h2.swap.fin
end
section
variable {M:Model} {A:Around} {E:Value->Shared->Prop} {s:Shared} {kd:SortKind} {key:Keyed->Int} {P:Keyed->Prop}
theorem QH {σ α υ γ:Type} (j:υ->γ->StateT σ Sem α) {m:StateT σ Sem α} {Q:α->σ->Prop} {st:σ} (pre:γ->Prop) (h1:∀ u g,pre g->wpS M A E s (j u g) Q st) (h2:(∀ u g,pre g->wpS M A E s (j u g) Q st)->wpS M A E s m Q st):wpS M A E s m Q st:=h2 h1
theorem NY {σ α υ γ δ:Type} (j:υ->γ->δ->StateT σ Sem α) {m:StateT σ Sem α} {Q:α->σ->Prop} {st:σ} (pre:γ->δ->Prop) (h1:∀ u g d,pre g d->wpS M A E s (j u g d) Q st) (h2:(∀ u g d,pre g d->wpS M A E s (j u g d) Q st)->wpS M A E s m Q st):wpS M A E s m Q st:=h2 h1
noncomputable def Sm (st st':SortSt):Prop:=kindOf st'=kindOf st/\arrOf st'=arrOf st/\pendingOf st'=pendingOf st/\failedOf st'=failedOf st
theorem mP {l:List Keyed} {i:Nat} {x:Keyed} (h:l[i]?=some x):l.drop i=x::l.drop (i+1):=by
 obtain ⟨hi,rfl⟩:=oG h
 exact Sn hi
theorem wg (l:List Keyed) (i k:Nat):l.drop i=(l.drop i).take k++l.drop (i+k):=by
 rw [<-Ug,Sy]
theorem oN (hL:xX M A E s kd key P) {st:SortSt} (hk:kindOf st=kd) {left:Bool} {x:Keyed} (px:P x) {arr:Array Keyed} {base n hint:Nat} {L:List Keyed} (eL:∀ j,j<n->arr[base+j]?=L[j]?) (ln:L.length=n) (hs:L.Pairwise (Le key)) (hp:∀ p∈L,P p) (hh:hint<n) {Q:Option Nat->SortSt->Prop}
 (h:∀ k,k<=n->(∀ p∈L.take k,qO key left x p=true)->(∀ p∈L.drop k,qO key left x p=false)->Q (some k) st):wpS M A E s (lq left x arr base n hint) Q st:=by
 have ix:∀ j,j<n->∃ y,arr[base+j]?=some y/\L[j]?=some y:=λ j hj=>⟨L[j]'(by omega),by rw [eL j hj];simp,by simp⟩
 let B:Nat->Bool:=λ j=>((arr[base+j]?).map (qO key left x)).getD false;have hB:∀ j y,arr[base+j]?=some y->B j=qO key left x y:=λ j y e=>by simp only [B,e];rfl
 refine AJ hL hk px (B:=B) (λ j hj=>?_) (λ j k jk hk' e=>?_) hh λ k h1 h2 h3=>h k h1 (λ p hp'=>?_) (λ p hp'=>?_)
 . obtain ⟨y,e1,e2⟩:=ix j hj;exact ⟨y,e1,hp y (Sq e2),(hB j y e1).symm⟩
 . obtain ⟨y,e1,e2⟩:=ix j (by omega);obtain ⟨z,f1,f2⟩:=ix k (by omega);rw [hB j y e1];rw [hB k z f1] at e;have le:key y<=key z:=by
    rcases Nat.eq_or_lt_of_le jk with q | q
    . subst q;rw [e1] at f1;cases f1;exact Sk _
    . obtain ⟨a1,a2⟩:=oG e2
      obtain ⟨b1,b2⟩:=oG f2
      have:=Tj.mp hs j k a1 b1 q;rw [a2,b2] at this;exact this
   unfold qO at e ⊢;cases left with
   | true=>simp at e ⊢;omega
   | false=>simp at e ⊢;omega
 . obtain ⟨j,hj,rfl⟩:=List.getElem_of_mem hp';have jk:j<k:=by simp at hj;omega
   have:=h2 j jk;obtain ⟨y,e1,e2⟩:=ix j (by omega);rw [hB j y e1] at this;have e:(L.take k)[j]=y:=by
    have:(L.take k)[j]?=some y:=by rw [SU jk,e2]
    exact (oG this).2
   rw [e];exact this
 . obtain ⟨j,hj,rfl⟩:=List.getElem_of_mem hp';have jl:j<n-k:=by simp at hj;omega
   obtain ⟨y,e1,e2⟩:=ix (k+j) (by omega);have:=h3 (k+j) (by omega) (by omega);rw [hB _ y e1] at this;have e:(L.drop k)[j]=y:=by
    have:(L.drop k)[j]?=some y:=by rw [List.getElem?_drop,<-e2]
    exact (oG this).2
   rw [e];exact this
theorem BR (hL:xX M A E s kd key P) {st:SortSt} (hk:kindOf st=kd) {left:Bool} {x:Keyed} (px:P x) {arr:Array Keyed} (hs:arr.toList.Pairwise (Le key)) (hp:∀ p∈arr.toList,P p) {i:Nat} (hi:i<arr.size) {Q:Option Nat->SortSt->Prop}
 (h:∀ k,k<=arr.size-i->(∀ p∈(arr.toList.drop i).take k,qO key left x p=true)->(∀ p∈arr.toList.drop (i+k),qO key left x p=false)->Q (some k) st):wpS M A E s (lq left x arr i (arr.size-i) 0) Q st:=
 oN hL hk px (L:=arr.toList.drop i) (λ j _=>by simp) (by simp) hs.drop (λ p z=>hp p (S8 z)) (by omega) λ k h1 h2 h3=>h k h1 h2 λ p z=>h3 p (by rwa [Ug])
end
section
variable {prog:Program} {w:World} {A:Around} {E:Value->Shared->Prop} {s:Shared} {kd:SortKind} {key:Keyed->Int} {P:Keyed->Prop}
structure Lo (key:Keyed->Int) (a b out:Array Keyed) (ia ib:Nat):Prop where
 m:MI key (a.toList++b.toList) out.toList (a.toList.drop ia) (b.toList.drop ib)
 ia:ia+1<a.size
 ib:ib<b.size
theorem eO {a:Array Keyed} {i:Nat} (h:i<a.size):∃ x,a[i]?=some x/\a.toList[i]?=some x/\x∈a.toList:=⟨a[i],by simp,by simp,by simp⟩
theorem yG (a:Array Keyed) (i:Nat):(a.extract i).toList=a.toList.drop i:=by
 rw [UV];exact Se (by simp)
theorem HN (a:Array Keyed) (i k:Nat):(a.extract i (i+k)).toList=(a.toList.drop i).take k:=by simp
theorem xF (hL:xX (model prog w) A E s kd key P) {a b:Array Keyed} (sa:a.toList.Pairwise (Le key)) (sb:b.toList.Pairwise (Le key)) (pa:∀ p∈a.toList,P p) (pb:∀ p∈b.toList,P p) (la:0<a.size) (lb:0<b.size) (h0:∀ x,b[0]?=some x->∀ q∈a.toList,key x<=key q) (h9:∀ x,a[a.size-1]?=some x->∀ q∈b.toList,key q<=key x) {st:SortSt} (hk:kindOf st=kd) {Q:Array Keyed->SortSt->Prop}
 (h:∀ r st',Sm st st'->vM key (a.toList++b.toList) r.toList->Q r st'):wpS (model prog w) A E s (vP a b) Q st:=by
 have dn:∀ {out:Array Keyed} {ia ib:Nat},MI key (a.toList++b.toList) out.toList (a.toList.drop ia) (b.toList.drop ib)->(ia=a.size∨ib=b.size)->vM key (a.toList++b.toList) (out++a.extract ia++b.extract ib).toList:=λ {out ia ib} m e=>by
  rw [Sd,Sd,yG,yG];rcases e with rfl | rfl
  . have z:a.toList.drop a.size=[]:=by simp
    rw [z] at m ⊢;rw [Sa];exact m.swap.fin
  . have z:b.toList.drop b.size=[]:=by simp
    rw [z] at m ⊢;rw [Sa];exact m.fin
 have ls:∀ {out:Array Keyed} {ia ib:Nat},MI key (a.toList++b.toList) out.toList (a.toList.drop ia) (b.toList.drop ib)->ia+1=a.size->vM key (a.toList++b.toList) (out++b.extract ib++a.extract ia).toList:=λ {out ia ib} m e=>by
  rw [Sd,Sd,yG,yG];obtain ⟨x,x1,x2,x3⟩:=eO (a:=a) (i:=ia) (by omega);have z:a.toList.drop ia=[x]:=by rw [mP x2,e];simp
  rw [z] at m ⊢;exact m.last λ q hq=>h9 x (by rw [<-e];exact x1) q (S8 hq)
 have pA:∀ {out:Array Keyed} {ia ib:Nat} {x:Keyed},MI key (a.toList++b.toList) out.toList (a.toList.drop ia) (b.toList.drop ib)->a.toList[ia]?=some x->(∀ q∈b.toList.drop ib,key x<=key q)->MI key (a.toList++b.toList) (out.push x).toList (a.toList.drop (ia+1)) (b.toList.drop ib):=λ {out ia ib x} m e q=>by
  rw [Ue];rw [mP e] at m;exact m.blk (T:=[x]) λ p hp=>by rw [RE.mp hp];exact q
 have pB:∀ {out:Array Keyed} {ia ib:Nat} {x:Keyed},MI key (a.toList++b.toList) out.toList (a.toList.drop ia) (b.toList.drop ib)->b.toList[ib]?=some x->(∀ q∈a.toList.drop ia,key x<=key q)->MI key (a.toList++b.toList) (out.push x).toList (a.toList.drop ia) (b.toList.drop (ib+1)):=λ {out ia ib x} m e q=>by
  rw [Ue];rw [mP e] at m;exact (m.swap.blk (T:=[x]) λ p hp=>by rw [RE.mp hp];exact q).swap
 have hd:∀ {l:List Keyed} {i:Nat} {x:Keyed},l.Pairwise (Le key)->l[i]?=some x->∀ q∈l.drop i,key x<=key q:=λ {l i x} sl e q hq=>by
  have:=sl.drop (i:=i);rw [mP e] at this hq;rcases Rx.mp hq with rfl | hq
  . exact Sk _
  . exact (Uz.mp this).1 q hq
 delta vP
 trace "mergeLo"
 refine RA (wpS_lift (TC ⟨rfl,?_⟩));obtain ⟨b0,b1,b2,b3⟩:=eO lb;refine RA (ba b1 ?_);have m0:MI key (a.toList++b.toList) (#[b0]:Array Keyed).toList (a.toList.drop 0) (b.toList.drop 1):=by
  have:MI key (a.toList++b.toList) (#[]:Array Keyed).toList (a.toList.drop 0) (b.toList.drop 0):=⟨by simp,.nil,λ p hp=>(by cases hp),by simpa using sa,by simpa using sb⟩
  exact pB this b2 λ q hq=>h0 b0 b1 q (S8 hq)
 trace ""
 refine cv (λ c1=>RH (h _ st ⟨rfl,rfl,rfl,rfl⟩ (dn m0 (.inr c1)))) λ c1=>?_;refine cv (λ c2=>RH (h _ st ⟨rfl,rfl,rfl,rfl⟩ (ls m0 c2))) λ c2=>?_;refine RA (UI ?_);refine RA (T5 (Sv (I:=λ x c st'=>Sm st st'/\c.1=none/\Lo key a b c.2.1 c.2.2.1 c.2.2.2.1/\x<=c.2.2.1+c.2.2.2.1) (Q:=λ c st'=>Sm st st'/\∃ r,c.1=some r/\vM key (a.toList++b.toList) r.toList) ?_ ?_ ⟨⟨rfl,rfl,rfl,rfl⟩,rfl,⟨m0,by show 0+1<_;omega,by show 1<_;omega⟩,by simp⟩) ?_)
 rotate_left
 . rintro c st' ⟨_,_,l,x⟩;have:=l.ia;have:=l.ib;omega
 . rintro c st' ⟨sm,r,e,hr⟩
   trace ""
   rw [e];exact RH (h r st' sm hr)
 rintro x ⟨_,out,ia,ib,mg⟩ st1 _ hx ⟨sm1,rfl,l1,x1⟩;dsimp -zeta only at l1 x1
 trace ""
 refine RA (T5 (Sv (I:=λ x c st'=>Sm st st'/\c.1=none/\Lo key a b c.2.1 c.2.2.1 c.2.2.2.1/\ia+ib+x<=c.2.2.1+c.2.2.2.1) (Q:=λ c st'=>Sm st st'/\((∃ r,c.1=some r/\vM key (a.toList++b.toList) r.toList)∨(c.1=none/\Lo key a b c.2.1 c.2.2.1 c.2.2.2.1/\ia+ib+1<=c.2.2.1+c.2.2.2.1))) ?_ ?_ ⟨sm1,rfl,l1,by simp⟩) ?_)
 . rintro y ⟨_,out,ia,ib,ac,bc⟩ st2 _ hy ⟨sm2,rfl,l2,x2⟩;dsimp -zeta only at l2 x2
   trace ""
   obtain ⟨u,u1,u2,u3⟩:=eO l2.ib;obtain ⟨v,v1,v2,v3⟩:=eO (show ia<a.size by have:=l2.ia;omega);refine RA (ba u1 (RA (ba v1 (RA (hL u v (pb u u3) (pa v v3) st2 _ (sm2.1.trans hk) ?_)))));by_cases c:key u<key v
   . rw [RK c]
     trace ""
     refine nc rfl ?_;refine RA (ba u1 ?_);have m2:=pB l2.m u2 λ q hq=>Sz (T9 c) (hd sa v2 q hq)
     trace ""
     refine cv (λ e=>RH ⟨sm2,.inl ⟨_,rfl,dn m2 (.inr e)⟩⟩) λ e=>?_;have l3:Lo key a b (out.push u) ia (ib+1):=⟨m2,l2.ia,by have:=l2.ib;omega⟩
     split
     . exact RH ⟨sm2,.inr ⟨rfl,l3,by dsimp only;omega⟩⟩
     . exact RH ⟨sm2,rfl,l3,by dsimp only;omega⟩
   . rw [RB c]
     trace ""
     refine nv (by decide) ?_;refine RA (ba v1 ?_);have m2:=pA l2.m v2 λ q hq=>Sz (Int.not_lt.mp c) (hd sb u2 q hq)
     trace ""
     refine cv (λ e=>RH ⟨sm2,.inl ⟨_,rfl,ls m2 e⟩⟩) λ e=>?_;have l3:Lo key a b (out.push v) (ia+1) ib:=⟨m2,by have:=l2.ia;omega,l2.ib⟩
     split
     . exact RH ⟨sm2,.inr ⟨rfl,l3,by dsimp only;omega⟩⟩
     . exact RH ⟨sm2,rfl,l3,by dsimp only;omega⟩
 . rintro c st2 ⟨_,_,l,x2⟩;have:=l.ia;have:=l.ib;omega
 rintro ⟨o,out,ia,ib,ac,bc⟩ st2 ⟨sm2,⟨r,e,hr⟩ | ⟨e,l2,x2⟩⟩
 . dsimp -zeta only at e
   trace ""
   subst e;exact RH ⟨sm2,r,rfl,hr⟩
 dsimp -zeta only at e l2 x2
 trace ""
 subst e
 trace ""
 refine RA (wpS_lift (TC ⟨rfl,?_⟩));refine RA (T5 (Sv (I:=λ y c st'=>Sm st st'/\c.1=none/\Lo key a b c.2.1 c.2.2.1 c.2.2.2.1/\ia+ib+y<=c.2.2.1+c.2.2.2.1) (Q:=λ c st'=>Sm st st'/\((∃ r,c.1=some r/\vM key (a.toList++b.toList) r.toList)∨(c.1=none/\Lo key a b c.2.1 c.2.2.1 c.2.2.2.1/\ia+ib<=c.2.2.1+c.2.2.2.1))) ?_ ?_ ⟨sm2,rfl,l2,by simp⟩) ?_)
 rotate_left
 . rintro c st3 ⟨_,_,l,x3⟩;have:=l.ia;have:=l.ib;omega
 . rintro ⟨o,out,ia,ib,mg,ac,bc⟩ st3 ⟨sm3,⟨r,e,hr⟩ | ⟨e,l3,x3⟩⟩
   . dsimp -zeta only at e
     trace ""
     subst e;exact RH ⟨sm3,r,rfl,hr⟩
   . dsimp -zeta only at e l3 x3
     trace ""
     subst e;exact RA (Uh (RH ⟨sm3,rfl,l3,by dsimp only;omega⟩))
 rintro y ⟨_,out,ia,ib,mg,ac,bc⟩ st3 _ hy ⟨sm3,rfl,l3,x3⟩;dsimp -zeta only at l3 x3
 trace ""
 have iA:=l3.ia;have iB:=l3.ib
 trace "j 12"
 refine QH j (λ _=>True) (λ _ mg _=>?_) λ h=>?_
 rotate_left
 . split <;> exact h () _ trivial
 trace "- j 12"
 refine RA (Uh ?_);obtain ⟨u,u1,u2,u3⟩:=eO l3.ib;refine RA (ba u1 ?_);refine RA (BR hL (by exact sm3.1.trans hk) (pb u u3) sa pa (i:=ia) (by omega) λ k k1 k2 k3=>?_);have k2':∀ p∈(a.toList.drop ia).take k,key p<=key u:=λ p hp=>by have:=k2 p hp;simp [qO] at this;omega
 have k3':∀ p∈a.toList.drop (ia+k),key u<=key p:=λ p hp=>by have:=k3 p hp;simp [qO] at this;omega
 trace ""
 trace "j2 1"
 refine NY j2 (λ out' ia'=>MI key (a.toList++b.toList) out'.toList (a.toList.drop ia') (b.toList.drop ib)/\ia'+1<a.size/\(∀ p∈a.toList.drop ia',key u<=key p)/\ia<=ia') (λ _ out' ia' ⟨m',i',d',g'⟩=>?_) λ t2=>?_
 rotate_left
 . have mk:MI key (a.toList++b.toList) (out++a.extract ia (ia+k)).toList (a.toList.drop (ia+k)) (b.toList.drop ib):=by
    have m:=l3.m;rw [wg a.toList ia k] at m;rw [Sd,HN];exact m.blk λ p hp q hq=>Sz (k2' p hp) (hd sb u2 q hq)
   refine eS (λ c=>?_) λ c=>?_
   . refine cv (λ e1=>RH ⟨sm3,.inl ⟨_,rfl,ls mk e1⟩⟩) λ e1=>?_;refine cv (λ e2=>RH ⟨sm3,.inl ⟨_,rfl,dn mk (.inl e2)⟩⟩) λ e2=>?_;exact t2 () (out++a.extract ia (ia+k)) (ia+k) ⟨mk,by omega,k3',by omega⟩
   . have k0:k=0:=by omega
     subst k0;exact t2 () _ _ ⟨l3.m,l3.ia,k3',Ry _⟩
 trace "- j2 1"
 refine RA (ba u1 ?_);have m4:=pB m' u2 d'
 trace ""
 refine cv (λ e1=>RH ⟨sm3,.inl ⟨_,rfl,dn m4 (.inr e1)⟩⟩) λ e1=>?_;obtain ⟨v,v1,v2,v3⟩:=eO (show ia'<a.size by omega);refine RA (ba v1 (RA (BR hL (by exact sm3.1.trans hk) (pa v v3) sb pb (i:=ib+1) (by omega) λ n n1 n2 n3=>?_)));have n2':∀ p∈(b.toList.drop (ib+1)).take n,key p<=key v:=λ p hp=>by have:=n2 p hp;simp [qO] at this;omega
 have n3':∀ p∈b.toList.drop (ib+1+n),key v<=key p:=λ p hp=>by have:=n3 p hp;simp [qO] at this;omega
 trace ""
 trace "j3 2"
 refine NY j3 (λ out' ib'=>MI key (a.toList++b.toList) out'.toList (a.toList.drop ia') (b.toList.drop ib')/\ib'<b.size/\(∀ p∈b.toList.drop ib',key v<=key p)/\ib+1<=ib') (λ _ out' ib' ⟨m'',i'',d'',g''⟩=>?_) λ t3=>?_
 rotate_left
 . have mk:MI key (a.toList++b.toList) (out'.push u++b.extract (ib+1) (ib+1+n)).toList (a.toList.drop ia') (b.toList.drop (ib+1+n)):=by
    have m:=m4;rw [wg b.toList (ib+1) n] at m;rw [Sd,HN];exact (m.swap.blk λ p hp q hq=>Sz (n2' p hp) (hd sa v2 q hq)).swap
   refine eS (λ c=>?_) λ c=>?_
   . refine cv (λ e1=>RH ⟨sm3,.inl ⟨_,rfl,dn mk (.inr e1)⟩⟩) λ e1=>?_;exact t3 () (out'.push u++b.extract (ib+1) (ib+1+n)) (ib+1+n) ⟨mk,by omega,n3',by omega⟩
   . have n0:n=0:=by omega
     subst n0;exact t3 () (out'.push u) (ib+1) ⟨m4,by omega,n3',Ry _⟩
 trace "- j3 2"
 refine RA (ba v1 ?_);have m5:=pA m'' v2 d''
 trace ""
 refine cv (λ e2=>RH ⟨sm3,.inl ⟨_,rfl,ls m5 e2⟩⟩) λ e2=>?_;have l5:Lo key a b (out'.push v) (ia'+1) ib':=⟨m5,by omega,i''⟩
 split
 . exact RH ⟨sm3,.inr ⟨rfl,l5,by dsimp only;omega⟩⟩
 . exact RH ⟨sm3,rfl,l5,by dsimp only;omega⟩
end
noncomputable abbrev ng (key:Keyed->Int):Keyed->Int:=λ p => -key p
section
variable {M:Model} {prog:Program} {w:World} {A:Around} {E:Value->Shared->Prop} {s:Shared} {kd:SortKind} {key:Keyed->Int} {P:Keyed->Prop}
theorem m9 {l:List Keyed} {n:Nat} {x:Keyed} (h:l[n-1]?=some x) (hn:0<n):(l.take n).reverse=x::(l.take (n-1)).reverse:=by
 obtain ⟨m,rfl⟩:∃ m,n=m+1:=⟨n-1,by omega⟩
 simp only [Nat.add_sub_cancel] at h ⊢;obtain ⟨hi,rfl⟩:=oG h
 rw [<-List.take_append_getElem hi];simp
theorem yB {l:List Keyed} {k n:Nat} (h:k<=n):(l.take n).reverse=((l.drop k).take (n-k)).reverse++(l.take k).reverse:=by
 rw [<-List.reverse_append,<-List.take_add,Nat.add_sub_cancel' h]
theorem zA (a:Array Keyed) (n:Nat):(a.extract 0 n).toList=a.toList.take n:=by simp
theorem Hf (a:Array Keyed) (k n:Nat):(a.extract k n).reverse.toList=((a.toList.drop k).take (n-k)).reverse:=by simp
theorem oQ {l:List Keyed} (h:l.Pairwise (Le key)) (n:Nat):((l.take n).reverse).Pairwise (Le (ng key)):=by
 rw [List.pairwise_reverse];exact (h.sublist (UC n l)).imp λ {x y} z=>by show -key y <= -key x;have:key x<=key y:=z;omega
theorem u4 {tot l:List Keyed} (h:vM (ng key) tot l):vM key tot l.reverse:=by
 refine ⟨(List.reverse_perm l).trans h.1,?_⟩;rw [List.pairwise_reverse];exact h.2.imp λ {x y} z=>by show key y<=key x;have : -key x <= -key y:=z;omega
theorem Cd (hL:xX M A E s kd key P) {st:SortSt} (hk:kindOf st=kd) {left:Bool} {x:Keyed} (px:P x) {arr:Array Keyed} (hs:arr.toList.Pairwise (Le key)) (hp:∀ p∈arr.toList,P p) {n:Nat} (hn:n<=arr.size) (n0:0<n) {Q:Option Nat->SortSt->Prop}
 (h:∀ k,k<=n->(∀ p∈arr.toList.take k,qO key left x p=true)->(∀ p∈(arr.toList.drop k).take (n-k),qO key left x p=false)->Q (some k) st):wpS M A E s (lq left x arr 0 n (n-1)) Q st:=
 oN hL hk px (L:=arr.toList.take n) (λ j hj=>by rw [SU hj];simp) (by simp;omega) (hs.sublist (UC _ _)) (λ p z=>hp p (TU z)) (by omega) λ k h1 h2 h3=>h k h1 (λ p z=>h2 p (by rwa [List.take_take,Nat.min_eq_left h1])) λ p z=>h3 p (by rwa [List.drop_take])
structure Hi (key:Keyed->Int) (a b out:Array Keyed) (na nb:Nat):Prop where
 m:MI (ng key) (a.toList++b.toList) out.toList ((a.toList.take na).reverse) ((b.toList.take nb).reverse)
 ha:0<na
 hb:1<nb
 la:na<=a.size
 lb:nb<=b.size
theorem xY (hL:xX (model prog w) A E s kd key P) {a b:Array Keyed} (sa:a.toList.Pairwise (Le key)) (sb:b.toList.Pairwise (Le key)) (pa:∀ p∈a.toList,P p) (pb:∀ p∈b.toList,P p) (la:0<a.size) (lb:0<b.size) (h0:∀ x,b[0]?=some x->∀ q∈a.toList,key x<=key q) (h9:∀ x,a[a.size-1]?=some x->∀ q∈b.toList,key q<=key x) {st:SortSt} (hk:kindOf st=kd) {Q:Array Keyed->SortSt->Prop}
 (h:∀ r st',Sm st st'->vM key (a.toList++b.toList) r.toList->Q r st'):wpS (model prog w) A E s (wk a b) Q st:=by
 have dn:∀ {out:Array Keyed} {na nb:Nat},MI (ng key) (a.toList++b.toList) out.toList ((a.toList.take na).reverse) ((b.toList.take nb).reverse)->(na=0∨nb=0)->vM key (a.toList++b.toList) (a.extract 0 na++b.extract 0 nb++out.reverse).toList:=λ {out na nb} m e=>by
  rw [Sd,Sd,zA,zA,Array.toList_reverse];rcases e with rfl | rfl
  . have:=u4 (m.swap (key:=ng key)).fin;simpa using this
  . have:=u4 m.fin;simpa using this
 have ls:∀ {out:Array Keyed} {na nb:Nat},MI (ng key) (a.toList++b.toList) out.toList ((a.toList.take na).reverse) ((b.toList.take nb).reverse)->nb=1->vM key (a.toList++b.toList) (b.extract 0 nb++a.extract 0 na++out.reverse).toList:=λ {out na nb} m e=>by
  rw [Sd,Sd,zA,zA,Array.toList_reverse];subst e;obtain ⟨x,x1,x2,x3⟩:=eO lb;have z:b.toList.take 1=[x]:=by
   have:=m9 (l:=b.toList) (n:=1) x2 (by omega);simp only [Nat.sub_self,List.take_zero,List.reverse_nil] at this;rw [<-List.reverse_reverse (b.toList.take 1),this];rfl
  rw [z] at m ⊢;have:=u4 ((m.swap (key:=ng key)).last λ q hq=>by
   have:=h0 x x1 q (TU (S9.mp hq));show -key q <= -key x;omega)
  simpa using this
 have pA:∀ {out:Array Keyed} {na nb:Nat} {x:Keyed},MI (ng key) (a.toList++b.toList) out.toList ((a.toList.take na).reverse) ((b.toList.take nb).reverse)->0<na->a.toList[na-1]?=some x->(∀ q∈b.toList.take nb,key q<=key x)->MI (ng key) (a.toList++b.toList) (out.push x).toList ((a.toList.take (na-1)).reverse) ((b.toList.take nb).reverse):=λ {out na nb x} m n0 e q=>by
  rw [Ue];rw [m9 e n0] at m;exact m.blk (T:=[x]) λ p hp z hz=>by
   rw [RE.mp hp];have:=q z (S9.mp hz);show -key x <= -key z;omega
 have pB:∀ {out:Array Keyed} {na nb:Nat} {x:Keyed},MI (ng key) (a.toList++b.toList) out.toList ((a.toList.take na).reverse) ((b.toList.take nb).reverse)->0<nb->b.toList[nb-1]?=some x->(∀ q∈a.toList.take na,key q<=key x)->MI (ng key) (a.toList++b.toList) (out.push x).toList ((a.toList.take na).reverse) ((b.toList.take (nb-1)).reverse):=λ {out na nb x} m n0 e q=>by
  rw [Ue];rw [m9 e n0] at m;exact ((m.swap (key:=ng key)).blk (T:=[x]) λ p hp z hz=>by
   rw [RE.mp hp];have:=q z (S9.mp hz);show -key x <= -key z;omega).swap
 have hd:∀ {l:List Keyed} {n:Nat} {x:Keyed},l.Pairwise (Le key)->0<n->l[n-1]?=some x->∀ q∈l.take n,key q<=key x:=λ {l n x} sl n0 e q hq=>by
  have:=oQ sl n;rw [<-S9] at hq;rw [m9 e n0] at this hq;rcases Rx.mp hq with rfl | hq
  . exact Sk _
  . have : -key x <= -key q:=(Uz.mp this).1 q hq;omega
 delta wk
 trace "mergeHi"
 refine RA (wpS_lift (TC ⟨rfl,?_⟩));obtain ⟨a0,a1,a2,a3⟩:=eO (show a.size-1<a.size by omega);refine RA (ba a1 ?_);have m0:MI (ng key) (a.toList++b.toList) (#[a0]:Array Keyed).toList ((a.toList.take (a.size-1)).reverse) ((b.toList.take b.size).reverse):=by
  have:MI (ng key) (a.toList++b.toList) (#[]:Array Keyed).toList ((a.toList.take a.size).reverse) ((b.toList.take b.size).reverse):=⟨by
   have e1:a.toList.take a.size=a.toList:=Se (by simp);have e2:b.toList.take b.size=b.toList:=Se (by simp);rw [e1,e2];exact (List.reverse_perm _).append (List.reverse_perm _),.nil,λ p hp=>(by cases hp),oQ sa _,oQ sb _⟩
  exact pA this la a2 λ q hq=>h9 a0 a1 q (TU hq)
 trace ""
 refine cv (λ c1=>RH (h _ st ⟨rfl,rfl,rfl,rfl⟩ (dn m0 (.inl c1)))) λ c1=>?_;refine cv (λ c2=>RH (h _ st ⟨rfl,rfl,rfl,rfl⟩ (ls m0 c2))) λ c2=>?_;refine RA (UI ?_);refine RA (T5 (Sv (I:=λ x c st'=>Sm st st'/\c.1=none/\Hi key a b c.2.2.2.1 c.2.1 c.2.2.1/\x+c.2.1+c.2.2.1<=a.size+b.size) (Q:=λ c st'=>Sm st st'/\∃ r,c.1=some r/\vM key (a.toList++b.toList) r.toList) ?_ ?_ ⟨⟨rfl,rfl,rfl,rfl⟩,rfl,⟨m0,by show 0<a.size-1;omega,by show 1<b.size;omega,by show a.size-1<=_;omega,Ry _⟩,by show 0+(a.size-1)+b.size<=_;omega⟩) ?_)
 rotate_left
 . rintro c st' ⟨_,_,l,x⟩;have:=l.ha;omega
 . rintro c st' ⟨sm,r,e,hr⟩
   trace ""
   rw [e];exact RH (h r st' sm hr)
 rintro x ⟨_,na,nb,out,mg⟩ st1 _ hx ⟨sm1,rfl,l1,x1⟩;dsimp -zeta only at l1 x1
 trace ""
 refine RA (T5 (Sv (I:=λ x c st'=>Sm st st'/\c.1=none/\Hi key a b c.2.2.2.1 c.2.1 c.2.2.1/\x+c.2.1+c.2.2.1<=na+nb) (Q:=λ c st'=>Sm st st'/\((∃ r,c.1=some r/\vM key (a.toList++b.toList) r.toList)∨(c.1=none/\Hi key a b c.2.2.2.1 c.2.1 c.2.2.1/\1+c.2.1+c.2.2.1<=na+nb))) ?_ ?_ ⟨sm1,rfl,l1,by show 0+na+nb<=_;omega⟩) ?_)
 . rintro y ⟨_,na',nb',out,ac,bc⟩ st2 _ hy ⟨sm2,rfl,l2,x2⟩;dsimp -zeta only at l2 x2
   trace ""
   have na0:=l2.ha;have nb0:=l2.hb;have la':=l2.la;have lb':=l2.lb;obtain ⟨u,u1,u2,u3⟩:=eO (show nb'-1<b.size by omega);obtain ⟨v,v1,v2,v3⟩:=eO (show na'-1<a.size by omega);refine RA (ba u1 (RA (ba v1 (RA (hL u v (pb u u3) (pa v v3) st2 _ (sm2.1.trans hk) ?_)))));by_cases c:key u<key v
   . rw [RK c]
     trace ""
     refine nc rfl ?_;refine RA (ba v1 ?_);have m2:=pA l2.m na0 v2 λ q hq=>Sz (hd sb (by omega) u2 q hq) (T9 c)
     trace ""
     refine cv (λ e=>RH ⟨sm2,.inl ⟨_,rfl,dn m2 (.inl e)⟩⟩) λ e=>?_;have l3:Hi key a b (out.push v) (na'-1) nb':=⟨m2,by omega,nb0,by omega,lb'⟩
     split
     . exact RH ⟨sm2,.inr ⟨rfl,l3,by dsimp only;omega⟩⟩
     . exact RH ⟨sm2,rfl,l3,by dsimp only;omega⟩
   . rw [RB c]
     trace ""
     refine nv (by decide) ?_;refine RA (ba u1 ?_);have m2:=pB l2.m (by omega) u2 λ q hq=>Sz (hd sa (by omega) v2 q hq) (Int.not_lt.mp c)
     trace ""
     refine cv (λ e=>RH ⟨sm2,.inl ⟨_,rfl,ls m2 e⟩⟩) λ e=>?_;have l3:Hi key a b (out.push u) na' (nb'-1):=⟨m2,na0,by omega,la',by omega⟩
     split
     . exact RH ⟨sm2,.inr ⟨rfl,l3,by dsimp only;omega⟩⟩
     . exact RH ⟨sm2,rfl,l3,by dsimp only;omega⟩
 . rintro c st2 ⟨_,_,l,x2⟩;have:=l.ha;have:=l1.la;have:=l1.lb;omega
 rintro ⟨o,na',nb',out,ac,bc⟩ st2 ⟨sm2,⟨r,e,hr⟩ | ⟨e,l2,x2⟩⟩
 . dsimp -zeta only at e
   trace ""
   subst e;exact RH ⟨sm2,r,rfl,hr⟩
 dsimp -zeta only at e l2 x2
 trace ""
 subst e
 trace ""
 refine RA (wpS_lift (TC ⟨rfl,?_⟩));refine RA (T5 (Sv (I:=λ y c st'=>Sm st st'/\c.1=none/\Hi key a b c.2.2.2.1 c.2.1 c.2.2.1/\y+c.2.1+c.2.2.1<=na'+nb') (Q:=λ c st'=>Sm st st'/\((∃ r,c.1=some r/\vM key (a.toList++b.toList) r.toList)∨(c.1=none/\Hi key a b c.2.2.2.1 c.2.1 c.2.2.1/\c.2.1+c.2.2.1<=na'+nb'))) ?_ ?_ ⟨sm2,rfl,l2,by show 0+na'+nb'<=_;omega⟩) ?_)
 rotate_left
 . rintro c st3 ⟨_,_,l,x3⟩;have:=l.ha;have:=l2.la;have:=l2.lb;omega
 . rintro ⟨o,na,nb,out,mg,ac,bc⟩ st3 ⟨sm3,⟨r,e,hr⟩ | ⟨e,l3,x3⟩⟩
   . dsimp -zeta only at e
     trace ""
     subst e;exact RH ⟨sm3,r,rfl,hr⟩
   . dsimp -zeta only at e l3 x3
     trace ""
     subst e;exact RA (Uh (RH ⟨sm3,rfl,l3,by dsimp only;omega⟩))
 rintro y ⟨_,na,nb,out,mg,ac,bc⟩ st3 _ hy ⟨sm3,rfl,l3,x3⟩;dsimp -zeta only at l3 x3
 trace ""
 have nA:=l3.ha;have nB:=l3.hb;have lA:=l3.la;have lB:=l3.lb
 trace "j 12"
 refine QH j (λ _=>True) (λ _ mg _=>?_) λ h=>?_
 rotate_left
 . split <;> exact h () _ trivial
 trace "- j 12"
 refine RA (Uh ?_);obtain ⟨u,u1,u2,u3⟩:=eO (show nb-1<b.size by omega);refine RA (ba u1 ?_);refine RA (Cd hL (by exact sm3.1.trans hk) (pb u u3) sa pa (n:=na) lA nA λ k k1 k2 k3=>?_);have k2':∀ p∈a.toList.take k,key p<=key u:=λ p hp=>by have:=k2 p hp;simp [qO] at this;omega
 have k3':∀ p∈(a.toList.drop k).take (na-k),key u<=key p:=λ p hp=>by have:=k3 p hp;simp [qO] at this;omega
 trace ""
 trace "j2 2"
 refine NY j2 (λ na' out'=>MI (ng key) (a.toList++b.toList) out'.toList ((a.toList.take na').reverse) ((b.toList.take nb).reverse)/\0<na'/\(∀ p∈a.toList.take na',key p<=key u)/\na'<=na) (λ _ na' out' ⟨m',i',d',g'⟩=>?_) λ t2=>?_
 rotate_left
 . have mk:MI (ng key) (a.toList++b.toList) (out++(a.extract k na).reverse).toList ((a.toList.take k).reverse) ((b.toList.take nb).reverse):=by
    have m:=l3.m;rw [yB k1] at m;rw [Sd,Hf];exact m.blk λ p hp q hq=>by
     have:=k3' p (S9.mp hp);have:=hd sb (by omega) u2 q (S9.mp hq);show -key p <= -key q;omega
   refine eS (λ c=>?_) λ c=>?_
   . refine cv (λ e1=>RH ⟨sm3,.inl ⟨_,rfl,dn mk (.inl e1)⟩⟩) λ e1=>?_;exact t2 () k (out++(a.extract k na).reverse) ⟨mk,by omega,k2',k1⟩
   . have k0:k=na:=by omega
     subst k0;exact t2 () _ _ ⟨l3.m,nA,k2',Ry _⟩
 trace "- j2 2"
 refine RA (ba u1 ?_);have m4:=pB m' (by omega) u2 d'
 trace ""
 refine cv (λ e1=>RH ⟨sm3,.inl ⟨_,rfl,ls m4 e1⟩⟩) λ e1=>?_;obtain ⟨v,v1,v2,v3⟩:=eO (show na'-1<a.size by omega);refine RA (ba v1 (RA (Cd hL (by exact sm3.1.trans hk) (pa v v3) sb pb (n:=nb-1) (by omega) (by omega) λ n n1 n2 n3=>?_)));have n2':∀ p∈b.toList.take n,key p<=key v:=λ p hp=>by have:=n2 p hp;simp [qO] at this;omega
 have n3':∀ p∈(b.toList.drop n).take (nb-1-n),key v<=key p:=λ p hp=>by have:=n3 p hp;simp [qO] at this;omega
 trace ""
 trace "j3 3"
 refine NY j3 (λ nb' out'=>MI (ng key) (a.toList++b.toList) out'.toList ((a.toList.take na').reverse) ((b.toList.take nb').reverse)/\1<nb'/\(∀ p∈b.toList.take nb',key p<=key v)/\nb'<=nb-1) (λ _ nb' out' ⟨m'',i'',d'',g''⟩=>?_) λ t3=>?_
 rotate_left
 . have mk:MI (ng key) (a.toList++b.toList) (out'.push u++(b.extract n (nb-1)).reverse).toList ((a.toList.take na').reverse) ((b.toList.take n).reverse):=by
    have m:=m4;rw [yB n1] at m;rw [Sd,Hf];exact ((m.swap (key:=ng key)).blk λ p hp q hq=>by
     have:=n3' p (S9.mp hp);have:=hd sa i' v2 q (S9.mp hq);show -key p <= -key q;omega).swap
   refine eS (λ c=>?_) λ c=>?_
   . refine cv (λ e1=>RH ⟨sm3,.inl ⟨_,rfl,ls mk e1⟩⟩) λ e1=>?_;refine cv (λ e2=>RH ⟨sm3,.inl ⟨_,rfl,dn mk (.inr e2)⟩⟩) λ e2=>?_;exact t3 () n (out'.push u++(b.extract n (nb-1)).reverse) ⟨mk,by omega,n2',n1⟩
   . have n0:n=nb-1:=by omega
     subst n0;exact t3 () (nb-1) (out'.push u) ⟨m4,by omega,n2',Ry _⟩
 trace "- j3 3"
 refine RA (ba v1 ?_);have m5:=pA m'' i' v2 d''
 trace ""
 refine cv (λ e2=>RH ⟨sm3,.inl ⟨_,rfl,dn m5 (.inl e2)⟩⟩) λ e2=>?_;have l5:Hi key a b (out'.push v) (na'-1) nb':=⟨m5,by omega,i'',by omega,by omega⟩
 split
 . exact RH ⟨sm3,.inr ⟨rfl,l5,by dsimp only;omega⟩⟩
 . exact RH ⟨sm3,rfl,l5,by dsimp only;omega⟩
end
section
variable {M:Model} {prog:Program} {w:World} {A:Around} {E:Value->Shared->Prop} {s:Shared} {kd:SortKind} {key:Keyed->Int} {P:Keyed->Prop}
theorem GT {σ:Type} {v:σ} {Q:PUnit->σ->Prop} {st:σ} (h:Q ⟨⟩ v):wpS M A E s (set v:StateT σ Sem PUnit) Q st:=by
 unfold wpS;rw [StateT.run_set];exact Ru ⟨rfl,h⟩
theorem ww (c:Nat):∀ (l:List Keyed) (j:Nat) (arr:Array Keyed),c+j+l.length<=arr.size->((l.zipIdx j).foldl (λ a x=>match x with | (p,j)=>a.setIfInBounds (c+j) p) arr).toList=arr.toList.take (c+j)++l++arr.toList.drop (c+j+l.length)
 | [],j,arr,h=>by simp
 | x::l,j,arr,h=>by
  rw [RM] at h;rw [List.zipIdx_cons,List.foldl_cons,ww c l (j+1) _ (by simp;omega)];have hl:c+j<arr.toList.length:=by simp;omega
  rw [Array.toList_setIfInBounds,RM,show c+(j+1)=c+j+1 by omega,show c+j+1+l.length=c+j+(l.length+1) by omega,List.take_add_one,List.take_set_of_le (Ry _),UA hl,List.drop_set_of_lt (by omega)];simp
theorem wI (hL:xX (model prog w) A E s kd key P) {st:SortSt} (hk:kindOf st=kd) (fl:failedOf st=none) {i sa na pw nb p2:Nat} {pre X Y post:List Keyed} (e1:(pendingOf st)[i]?=some (sa,na,pw)) (e2:(pendingOf st)[i+1]?=some (sa+na,nb,p2)) (ea:(arrOf st).toList=pre++(X++(Y++post))) (l1:pre.length=sa) (l2:X.length=na) (l3:Y.length=nb) (n1:0<na) (n2:0<nb) (sX:X.Pairwise (Le key)) (sY:Y.Pairwise (Le key)) (hp:∀ p∈(arrOf st).toList,P p) {Q:Bool->SortSt->Prop}
 (h:∀ st' R,kindOf st'=kd->failedOf st'=none->pendingOf st'=((pendingOf st).setIfInBounds i (sa,na+nb,pw)).eraseIdxIfInBounds (i+1)->(arrOf st').toList=pre++(R++post)->R.Perm (X++Y)->R.Pairwise (Le key)->Q true st'):wpS (model prog w) A E s (mergeAt' i) Q st:=by
 subst l1 l2 l3;have pX:∀ p∈X,P p:=λ p hp'=>hp p (by rw [ea];simp [hp']);have pY:∀ p∈Y,P p:=λ p hp'=>hp p (by rw [ea];simp [hp']);have ax:∀ j,j<X.length->(arrOf st)[pre.length+j]?=X[j]?:=λ j hj=>by
  rw [<-RZ,ea,R0 (by omega),Tx,RR hj]
 have ay:∀ j,j<Y.length->(arrOf st)[pre.length+X.length+j]?=Y[j]?:=λ j hj=>by
  rw [<-RZ,ea,R0 (by omega),show pre.length+X.length+j-pre.length=X.length+j by omega,R0 (by omega),Tx,RR hj]
 obtain ⟨y0,y1⟩:∃ y,Y[0]?=some y:=⟨Y[0],by simp⟩
 obtain ⟨x9,x1⟩:∃ x,X[X.length-1]?=some x:=⟨X[X.length-1],by simp⟩
 have ym:=Sq y1;have xm:=Sq x1;have yl:∀ q∈Y,key y0<=key q:=λ q hq=>by
  rw [<-List.drop_zero (l:=Y),mP y1] at hq;have s':=sY;rw [<-List.drop_zero (l:=Y),mP y1] at s';rcases Rx.mp hq with rfl | hq
  . exact Sk _
  . exact (Uz.mp s').1 q hq
 have xl:∀ q∈X,key q<=key x9:=λ q hq=>by
  have e:X.take X.length=X:=Se (Ry _);have s':=oQ sX X.length;rw [<-e,<-S9,m9 x1 n1] at hq;rw [m9 x1 n1] at s';rcases Rx.mp hq with rfl | hq
  . exact Sk _
  . have : -key x9 <= -key q:=(Uz.mp s').1 q hq;omega
 delta mergeAt'
 trace "mergeAt"
 refine RA (UI ?_)
 trace ""
 rw [show (sortPriv% PySem.Builtin.SortState.pending) st=pendingOf st from rfl,e1,e2]
 trace ""
 refine RA (GT ?_);refine RA (ba (p:=y0) (by have:=ay 0 n2;rw [y1] at this;exact this) ?_);refine RA (oN hL (by exact hk) (pY y0 ym) ax rfl sX pX n1 λ k k1 k2 k3=>?_);have k2':∀ p∈X.take k,key p<=key y0:=λ p hp=>by have:=k2 p hp;simp [qO] at this;omega
 have k3':∀ p∈X.drop k,key y0<=key p:=λ p hp=>by have:=k3 p hp;simp [qO] at this;omega
 trace ""
 by_cases c1:X.length-k=0
 . rw [Rt (by simpa using c1)];refine RH (h _ (X++Y) hk fl rfl (by rw [RX];exact ea) (.refl _) (Sg.mpr ⟨sX,sY,λ p hp q hq=>?_⟩));have:p∈X.take k:=by rw [Se (by omega)];exact hp
   exact Sz (k2' p this) (yl q hq)
 rw [RJ (by simpa using c1)];refine RA (ba (p:=x9) (by have:=ax (X.length-1) (by omega);rw [x1] at this;rw [<-this];congr 1;omega) ?_);refine RA (oN hL (by exact hk) (pX x9 xm) ay rfl sY pY (by omega) λ n m1 m2 m3=>?_);have m2':∀ p∈Y.take n,key p<=key x9:=λ p hp=>by have:=m2 p hp;simp [qO] at this;omega
 have m3':∀ p∈Y.drop n,key x9<=key p:=λ p hp=>by have:=m3 p hp;simp [qO] at this;omega
 trace ""
 by_cases c2:n=0
 . rw [Rt (by simpa using c2)];refine RH (h _ (X++Y) hk fl rfl (by rw [RX];exact ea) (.refl _) (Sg.mpr ⟨sX,sY,λ p hp q hq=>?_⟩));exact Sz (xl p hp) (m3' q (by rw [c2];exact hq))
 rw [RJ (by simpa using c2)];let a:=(arrOf st).extract (pre.length+k) (pre.length+X.length);let b:=(arrOf st).extract (pre.length+X.length) (pre.length+X.length+n);have dp:∀ (k:Nat) (Z:List Keyed),(pre++Z).drop (pre.length+k)=Z.drop k:=λ k Z=>by
  rw [<-Ug,List.drop_left]
 have ea':a.toList=X.drop k:=by
  show ((arrOf st).extract _ _).toList=_;rw [UV,ea];show ((pre++(X++(Y++post))).drop (pre.length+k)).take (pre.length+X.length-(pre.length+k))=_;rw [dp,List.drop_append_of_le_length k1];exact List.take_left' (by simp;omega)
 have eb':b.toList=Y.take n:=by
  show ((arrOf st).extract _ _).toList=_;rw [UV,ea];show ((pre++(X++(Y++post))).drop (pre.length+X.length)).take (pre.length+X.length+n-(pre.length+X.length))=_;rw [dp,List.drop_left,Tx,List.take_append_of_le_length m1]
 have sza:a.size=X.length-k:=by rw [<-SK,ea'];simp
 have szb:b.size=n:=by rw [<-SK,eb'];simp;omega
 have sa:a.toList.Pairwise (Le key):=by rw [ea'];exact sX.sublist (List.drop_sublist _ _)
 have sb:b.toList.Pairwise (Le key):=by rw [eb'];exact sY.sublist (UC _ _)
 have pa:∀ p∈a.toList,P p:=λ p hp=>pX p (S8 (ea'▸hp));have pb:∀ p∈b.toList,P p:=λ p hp=>pY p (TU (eb'▸hp));have h0:∀ x,b[0]?=some x->∀ q∈a.toList,key x<=key q:=λ x e q hq=>by
  rw [<-RZ,eb',SU (by omega),y1] at e;cases e;rw [ea'] at hq;exact k3' q hq
 have h9:∀ x,a[a.size-1]?=some x->∀ q∈b.toList,key q<=key x:=λ x e q hq=>by
  rw [<-RZ,ea',List.getElem?_drop,sza,show k+(X.length-k-1)=X.length-1 by omega,x1] at e;cases e;rw [eb'] at hq;exact m2' q hq
 have fin:∀ {r:Array Keyed} {arr':Array Keyed},vM key (a.toList++b.toList) r.toList->arr'=arrOf st->∃ R,(List.foldl (λ a x=>match x with | (p,j)=>a.setIfInBounds (pre.length+k+j) p) arr' r.toList.zipIdx).toList=pre++(R++post)/\R.Perm (X++Y)/\R.Pairwise (Le key):=λ {r arr'} res e=>by
  subst e;have rl:r.toList.length=X.length-k+n:=by rw [res.1.length_eq,RN,SK,SK,sza,szb]
  have al:(arrOf st).size=pre.length+(X.length+(Y.length+post.length)):=by rw [<-SK,ea];simp
  rw [ea',eb'] at res;refine ⟨X.take k++(r.toList++Y.drop n),?_,?_,?_⟩
  . rw [ww (pre.length+k) r.toList 0 _ (by omega),ea];simp only [U1];rw [rl,show pre.length+k+(X.length-k+n)=pre.length+(X.length+n) by omega,dp,<-Ug,List.drop_left,List.drop_append_of_le_length m1,List.take_append,Se (by omega),Tx,List.take_append_of_le_length k1];simp
  . have e:X++Y=X.take k++(X.drop k++Y.take n++Y.drop n):=by
     rw [RX,Sy,<-RX,Sy]
    rw [e];exact (List.Perm.append_left _ (res.1.append_right _))
  . have inr:∀ p∈r.toList,p∈X.drop k∨p∈Y.take n:=λ p hp=>Rz.mp (res.1.mem_iff.mp hp);have N4:=sX;rw [<-Sy k X] at N4;have spY:=sY;rw [<-Sy n Y] at spY;obtain ⟨a1,a2,a3⟩:=Sg.mp N4;obtain ⟨b1,b2,b3⟩:=Sg.mp spY;refine Sg.mpr ⟨a1,Sg.mpr ⟨res.2,b2,λ p hp q hq=>?_⟩,λ p hp q hq=>?_⟩
    . rcases inr p hp with z | z
      . exact Sz (xl p (S8 z)) (m3' q hq)
      . exact b3 p z q hq
    . rcases Rz.mp hq with hq | hq
      . rcases inr q hq with z | z
        . exact a3 p hp q z
        . exact Sz (k2' p hp) (yl q (TU z))
      . exact Sz (k2' p hp) (yl q (S8 hq))
 split
 . refine RA (xF hL sa sb pa pb (by omega) (by omega) h0 h9 (by exact hk) λ r st' sm res=>?_);obtain ⟨R,r1,r2,r3⟩:=fin res sm.2.1;have f0:failedOf st'=none:=sm.2.2.2.trans fl
   trace ""
   refine RA (Uh (RA (UI (RH ?_))));show Q (failedOf st').isNone _;rw [f0];exact h _ R (sm.1.trans hk) f0 sm.2.2.1 r1 r2 r3
 . refine RA (xY hL sa sb pa pb (by omega) (by omega) h0 h9 (by exact hk) λ r st' sm res=>?_);obtain ⟨R,r1,r2,r3⟩:=fin res sm.2.1;have f0:failedOf st'=none:=sm.2.2.2.trans fl
   trace ""
   refine RA (Uh (RA (UI (RH ?_))));show Q (failedOf st').isNone _;rw [f0];exact h _ R (sm.1.trans hk) f0 sm.2.2.1 r1 r2 r3
end
section
variable {M:Model} {prog:Program} {w:World} {A:Around} {E:Value->Shared->Prop} {s:Shared} {kd:SortKind} {key:Keyed->Int} {P:Keyed->Prop}
theorem OO {σ α υ:Type} (j:υ->StateT σ Sem α) {m:StateT σ Sem α} {Q:α->σ->Prop} {st:σ} (pre:σ->Prop) (h1:∀ u st,pre st->wpS M A E s (j u) Q st) (h2:(∀ u st,pre st->wpS M A E s (j u) Q st)->wpS M A E s m Q st):wpS M A E s m Q st:=h2 h1
noncomputable def kx (key:Keyed->Int) (arr:Array Keyed) (i:Nat):Int:=((arr[i]?).map key).getD 0
noncomputable def tU (key:Keyed->Int) (arr:Array Keyed) (lo n:Nat):Prop:=∀ i j,lo<=i->i<=j->j<lo+n->kx key arr i<=kx key arr j
noncomputable def Ek (key:Keyed->Int) (arr:Array Keyed) (lo n:Nat):Prop:=∀ i j,lo<=i->i<=j->j<lo+n->kx key arr j<=kx key arr i
structure Cb (kd:SortKind) (P:Keyed->Prop) (s0:SortSt) (lo:Nat) (st:SortSt):Prop where
 k:kindOf st=kd
 f:failedOf st=none
 p:pendingOf st=pendingOf s0
 m:(arrOf st).Perm (arrOf s0)
 l:∀ i,i<lo->(arrOf st)[i]?=(arrOf s0)[i]?
 a:∀ p∈(arrOf s0).toList,P p
theorem Cb.size {s0 st:SortSt} {lo:Nat} (h:Cb kd P s0 lo st):(arrOf st).size=(arrOf s0).size:=h.m.size_eq
theorem Cb.at {s0 st:SortSt} {lo:Nat} (h:Cb kd P s0 lo st) {i:Nat} (hi:i<(arrOf s0).size):∃ x,(arrOf st)[i]?=some x/\P x/\kx key (arrOf st) i=key x:=by
 obtain ⟨x,x1,x2,x3⟩:=eO (a:=arrOf st) (i:=i) (by rw [h.size];exact hi);exact ⟨x,x1,h.a x ((SD.mp h.m).mem_iff.mp x3),by simp [kx,x1]⟩
theorem lJ (hL:xX M A E s kd key P) {s0 st:SortSt} {lo i j:Nat} (h:Cb kd P s0 lo st) (hi:i<(arrOf s0).size) (hj:j<(arrOf s0).size) {Q:Option Bool->SortSt->Prop} (q:Q (some (decide (kx key (arrOf st) i<kx key (arrOf st) j))) st):wpS M A E s (ltAt' i j) Q st:=by
 obtain ⟨x,x1,x2,x3⟩:=h.at (key:=key) hi;obtain ⟨y,y1,y2,y3⟩:=h.at (key:=key) hj;rw [x3,y3] at q;rw [ltAt'_eq];refine RA (UI ?_);exact RA (ba x1 (RA (ba y1 (hL x y x2 y2 st Q h.k q))))
theorem wY {xs:Array Keyed} {i j:Nat} (hj:j<=xs.size) (k:Nat):kx key (mirror xs i j ((j-i) / 2)) k=if i<=k/\k<j then kx key xs (i+j-1-k) else kx key xs k:=by
 unfold kx;rw [getElem?_mirror_all hj];split <;> rfl
theorem Cb.mir {s0 st:SortSt} {lo:Nat} (h:Cb kd P s0 lo st) {i j:Nat} (hi:lo<=i) (hj:j<=(arrOf s0).size):Cb kd P s0 lo (setArr st (mirror (arrOf st) i j ((j-i) / 2))):=by
 refine ⟨h.k,h.f,h.p,(mirror_perm _ _ _ _).trans h.m,λ n hn=>?_,h.a⟩;show (mirror (arrOf st) i j ((j-i) / 2))[n]?=_;rw [getElem?_mirror_all (by rw [h.size];exact hj),RJ (by omega)];exact h.l n hn
noncomputable def LQ (lo a nrem:Nat):StateT SortSt Sem (Option (Option Nat)×Nat):=forIn [a:nrem] (none,a) λ _ c=>do
 let r <-ltAt' (lo+c.2) (lo+c.2-1)
 match r with
 | some b=>if b=true then pure (.done (none,c.2)) else pure (.yield (none,c.2+1))
 | _=>pure (.done (some none,c.2))
theorem Ds (hL:xX M A E s kd key P) {s0 st:SortSt} {lo a nrem:Nat} (h:Cb kd P s0 lo st) (hn:lo+nrem<=(arrOf s0).size) (a1:1<=a) (an:a<=nrem) (hs:tU key (arrOf st) lo a) {Q:Option (Option Nat)×Nat->SortSt->Prop}
 (q:∀ n,a<=n->n<=nrem->tU key (arrOf st) lo n->(n=nrem∨kx key (arrOf st) (lo+n)<kx key (arrOf st) (lo+n-1))->Q (none,n) st):wpS M A E s (LQ lo a nrem) Q st:=by
 unfold LQ;refine Sv (I:=λ x c st'=>st'=st/\c=(none,x)/\tU key (arrOf st) lo x) ?_ ?_ ⟨rfl,rfl,hs⟩
 . rintro x c st' h1 h2 ⟨rfl,rfl,h3⟩;refine RA (lJ hL h (by dsimp only;omega) (by dsimp only;omega) ?_)
   trace ""
   by_cases c:kx key (arrOf st') (lo+x)<kx key (arrOf st') (lo+x-1)
   . rw [RK c];refine nc rfl ?_;exact RH (q x h1 (by omega) h3 (.inr c))
   . rw [RB c,RJ (by decide)];refine RH ⟨rfl,rfl,λ i j i1 ij j1=>?_⟩;by_cases e:j<lo+x
     . exact h3 i j i1 ij e
     . have:j=lo+x:=by omega
       subst this;by_cases e':i=lo+x
       . rw [e'];exact Sk _
       . exact Sz (h3 i (lo+x-1) i1 (by omega) (by omega)) (by omega)
 . rintro c st' ⟨rfl,rfl,h3⟩;rw [show max a nrem=nrem by omega] at h3 ⊢;exact q nrem an (Ry _) h3 (.inl rfl)
theorem vi {xs:Array Keyed} {i j:Nat} (hj:j<=xs.size) (he:∀ k,i<=k->k<j->kx key xs k=kx key xs (j-1)) (k:Nat):kx key (mirror xs i j ((j-i) / 2)) k=kx key xs k:=by
 rw [wY hj];split
 . rw [he _ (by omega) (by omega),he k (by omega) (by omega)]
 . rfl
theorem vh (hL:xX (model prog w) A E s kd key P) {s0 st:SortSt} {lo nrem:Nat} (hB:Cb kd P s0 lo st) (hn:lo+nrem<=(arrOf s0).size) (n1:1<=nrem) {Q:Option Nat->SortSt->Prop}
 (q:∀ m st',Cb kd P s0 lo st'->1<=m->m<=nrem->tU key (arrOf st') lo m->Q (some m) st'):wpS (model prog w) A E s (countRun' lo nrem) Q st:=by
 delta countRun'
 trace "countRun"
 refine RA (Ds hL hB hn (Ry 1) n1 (λ i j h1 h2 h3=>by rw [show i=j by omega];exact Sk _) λ n h1 h2 h3 h4=>?_)
 trace ""
 refine cv (λ e=>RH (q n st hB h1 h2 h3)) λ e=>?_;have lt:=h4.resolve_left e
 trace "j 2"
 refine OO j (λ st'=>Cb kd P s0 lo st'/\Ek key (arrOf st') lo (n+1)) (λ _ st1 ⟨hB1,d1⟩=>?_) λ t=>?_
 rotate_left
 . refine eS (λ c=>?_) λ c=>?_
   . refine RA (lJ hL hB (by omega) (by omega) ?_)
     trace ""
     by_cases r:kx key (arrOf st) lo<kx key (arrOf st) (lo+n-1)
     . rw [RK r,Rt rfl];exact RH (q n st hB h1 h2 h3)
     . rw [RB r,RJ (by decide)];have he:∀ k,lo<=k->k<lo+n->kx key (arrOf st) k=kx key (arrOf st) (lo+n-1):=λ k k1 k2=>by
        have a1:=h3 lo k (Ry _) k1 k2;have a2:=h3 k (lo+n-1) k1 (by omega) (by omega);omega
       refine RA (wpS_reverse (t () _ ⟨hB.mir (Ry _) (by omega),λ i j i1 ij j1=>?_⟩));show kx key (mirror (arrOf st) lo (lo+n) _) j<=kx key (mirror (arrOf st) lo (lo+n) _) i;have sz:=hB.size;rw [vi (by omega) he,vi (by omega) he];by_cases e1:j<lo+n
       . rw [he i i1 (by omega),he j (by omega) e1];exact Sk _
       . have:j=lo+n:=by omega
         subst this;by_cases e2:i=lo+n
         . rw [e2];exact Sk _
         . rw [he i i1 (by omega)];omega
   . refine t () _ ⟨hB,λ i j i1 ij j1=>?_⟩;by_cases e2:i=j
     . rw [e2];exact Sk _
     . have hi:i=lo:=by omega
       have hj:j=lo+n:=by omega
       subst hi hj;have:i+n-1=i:=by omega
       rw [this] at lt;omega
 trace "- j 2"
 refine RA (wpS_lift (TC ⟨rfl,?_⟩));refine RA (T5 (Sv (I:=λ x c st'=>∃ neq,c=(none,x,neq)/\Cb kd P s0 lo st'/\Ek key (arrOf st') lo x/\neq+1<=x/\∀ i,lo+x-(neq+1)<=i->i<lo+x->kx key (arrOf st') i=kx key (arrOf st') (lo+x-1)) (Q:=λ c st'=>∃ x neq,c=(none,x,neq)/\1<=x/\x<=nrem/\Cb kd P s0 lo st'/\Ek key (arrOf st') lo x/\neq+1<=x/\∀ i,lo+x-(neq+1)<=i->i<lo+x->kx key (arrOf st') i=kx key (arrOf st') (lo+x-1)) ?_ ?_ ⟨0,rfl,hB1,d1,by omega,λ i i1 i2=>by rw [show i=lo+(n+1)-1 by omega]⟩) ?_)
 . rintro x c st2 x1 x2 ⟨neq,rfl,hB2,d2,nq,he⟩;have sz:=hB2.size;refine RA (lJ hL hB2 (by dsimp only;omega) (by dsimp only;omega) ?_)
   trace ""
   by_cases c:kx key (arrOf st2) (lo+x)<kx key (arrOf st2) (lo+x-1)
   . rw [RK c];refine nc rfl ?_;have step:∀ xs:Array Keyed,(∀ k,kx key xs k=kx key (arrOf st2) k)->Ek key xs lo (x+1):=λ xs hk i j i1 ij j1=>by
      rw [hk,hk];by_cases e1:j<lo+x
      . exact d2 i j i1 ij e1
      . have:j=lo+x:=by omega
        subst this;by_cases e2:i=lo+x
        . rw [e2];exact Sk _
        . exact Sz (T9 c) (d2 i (lo+x-1) i1 (by omega) (by omega))
     refine eS (λ c2=>?_) λ c2=>?_
     . exact RA (wpS_reverse (RH ⟨0,rfl,hB2.mir (by omega) (by omega),step _ (vi (by omega) he),by omega,λ i i1 i2=>by rw [show i=lo+(x+1)-1 by omega]⟩))
     . exact RH ⟨0,rfl,hB2,step _ (λ _=>rfl),by omega,λ i i1 i2=>by rw [show i=lo+(x+1)-1 by omega]⟩
   . rw [RB c,RJ (by decide)];refine RA (lJ hL hB2 (by omega) (by omega) ?_)
     trace ""
     by_cases c3:kx key (arrOf st2) (lo+x-1)<kx key (arrOf st2) (lo+x)
     . rw [RK c3,Rt rfl];exact RH ⟨x,neq,rfl,by omega,by omega,hB2,d2,nq,he⟩
     . rw [RB c3,RJ (by decide)];have ex:kx key (arrOf st2) (lo+x)=kx key (arrOf st2) (lo+x-1):=by omega
       refine RH ⟨neq+1,rfl,hB2,λ i j i1 ij j1=>?_,by omega,λ i i1 i2=>?_⟩
       . by_cases e1:j<lo+x
         . exact d2 i j i1 ij e1
         . have:j=lo+x:=by omega
           subst this;by_cases e2:i=lo+x
           . rw [e2];exact Sk _
           . rw [ex];exact d2 i (lo+x-1) i1 (by omega) (by omega)
       . rw [show lo+(x+1)-1=lo+x by omega];by_cases e2:i=lo+x
         . rw [e2]
         . rw [ex];exact he i (by omega) (by omega)
 . rintro c st2 ⟨neq,rfl,hB2,d2,nq,he⟩;rw [show max (n+1) nrem=nrem by omega] at d2 nq he ⊢;exact ⟨nrem,neq,rfl,n1,Ry _,hB2,d2,nq,he⟩
 rintro c st2 ⟨x,neq,rfl,x1,x2,hB2,d2,nq,he⟩
 trace ""
 have sz:=hB2.size
 trace "= 4"
 trace "j2 0"
 refine OO j2 (λ st'=>Cb kd P s0 lo st'/\Ek key (arrOf st') lo x) (λ _ st3 ⟨hB3,d3⟩=>?_) λ t=>?_
 rotate_left
 . refine eS (λ c2=>?_) λ c2=>?_
   . refine RA (wpS_reverse (t () _ ⟨hB2.mir (by omega) (by omega),λ i j i1 ij j1=>?_⟩));show kx key (mirror (arrOf st2) _ (lo+x) _) j<=kx key (mirror (arrOf st2) _ (lo+x) _) i;rw [vi (by omega) he,vi (by omega) he];exact d2 i j i1 ij j1
   . exact t () _ ⟨hB2,d2⟩
 trace "- j2 0"
 have sz3:=hB3.size
 trace ""
 refine RA (wpS_reverse ?_)
 trace ""
 refine RA (Ds hL (hB3.mir (Ry _) (by omega)) hn x1 x2 (λ i j i1 ij j1=>?_) λ m m1 m2 m3 m4=>?_)
 . show kx key (mirror (arrOf st3) lo (lo+x) _) i<=kx key (mirror (arrOf st3) lo (lo+x) _) j;rw [wY (by omega),wY (by omega),Rt (by omega),Rt (by omega)];exact d3 _ _ (by omega) (by omega) (by omega)
 . exact RH (q m _ (hB3.mir (Ry _) (by omega)) (by omega) m2 m3)
end
section
variable {M:Model} {prog:Program} {w:World} {A:Around} {E:Value->Shared->Prop} {s:Shared} {kd:SortKind} {key:Keyed->Int} {P:Keyed->Prop}
theorem CW {xs:Array Keyed} {src d:Nat} (hs:src<xs.size) (hd:d<=src) (k:Nat):kx key (bubble xs src d) k=if k=src-d then kx key xs src else if src-d<k/\k<=src then kx key xs (k-1) else kx key xs k:=by
 unfold kx;rw [getElem?_bubble hs d hd];split
 . rfl
 . split <;> rfl
theorem rc (hL:xX M A E s kd key P) {s0 st:SortSt} {lo n ok:Nat} (hB:Cb kd P s0 lo st) (hn:lo+n<=(arrOf s0).size) (hok:ok<=n) (hs:tU key (arrOf st) lo ok) {Q:Bool->SortSt->Prop}
 (q:∀ st',Cb kd P s0 lo st'->tU key (arrOf st') lo n->Q true st'):wpS M A E s (binarySort' lo n ok) Q st:=by
 delta binarySort'
 trace "binarySort"
 refine RA (T5 (Sv (I:=λ k c st'=>c=(none,())/\Cb kd P s0 lo st'/\tU key (arrOf st') lo (min k n)) (Q:=λ c st'=>c=(none,())/\Cb kd P s0 lo st'/\tU key (arrOf st') lo n) ?_ ?_ ⟨rfl,hB,λ i j i1 ij j1=>?_⟩) ?_)
 . rintro k c st1 k1 k2 ⟨rfl,hB1,s1⟩;rw [show min k n=k by omega] at s1;have sz:=hB1.size;refine RA (T5 (Sv (I:=λ x c st'=>st'=st1/\∃ l r,c=(none,l,r)/\l<=r/\r<=k/\r-l<=k-x/\(∀ i,lo<=i->i<lo+l->kx key (arrOf st1) i<=kx key (arrOf st1) (lo+k))/\∀ i,lo+r<=i->i<lo+k->kx key (arrOf st1) (lo+k)<kx key (arrOf st1) i) (Q:=λ c st'=>st'=st1/\∃ l r,c=(none,l,r)/\l<=k/\(∀ i,lo<=i->i<lo+l->kx key (arrOf st1) i<=kx key (arrOf st1) (lo+k))/\∀ i,lo+l<=i->i<lo+k->kx key (arrOf st1) (lo+k)<kx key (arrOf st1) i) ?_ ?_ ⟨rfl,0,k,rfl,by omega,by omega,by omega,λ i i1 i2=>by omega,λ i i1 i2=>by omega⟩) ?_)
   . rintro x c st2 _ x2 ⟨rfl,l,r,rfl,lr,rk,m,h1,h2⟩
     trace ""
     refine eS (λ e=>?_) λ e=>?_
     . have:l=r:=by omega
       subst this;exact RH ⟨rfl,l,l,rfl,rk,h1,h2⟩
     . have d1:l<=(l+r) / 2:=by omega
       have d2:(l+r) / 2<r:=by omega
       refine RA (lJ hL hB1 (by omega) (by omega) ?_)
       trace ""
       generalize (l+r) / 2=md at *;by_cases c:kx key (arrOf st2) (lo+k)<kx key (arrOf st2) (lo+md)
       . rw [RK c];refine nc rfl ?_;refine RH ⟨rfl,l,md,rfl,by omega,by omega,by omega,h1,λ i i1 i2=>?_⟩;exact Int.lt_of_lt_of_le c (s1 _ i (by omega) i1 (by omega))
       . rw [RB c,RJ (by decide)];refine RH ⟨rfl,md+1,r,rfl,by omega,by omega,by omega,λ i i1 i2=>?_,h2⟩;exact Sz (s1 i (lo+md) i1 (by omega) (by omega)) (by omega)
   . rintro c st2 ⟨rfl,l,r,rfl,lr,rk,m,h1,h2⟩;have:l=r:=by omega
     subst this;exact ⟨rfl,l,l,rfl,rk,h1,h2⟩
   . rintro c st2 ⟨rfl,l,r,rfl,lk,h1,h2⟩;show wpS _ _ _ _ (do moveDown' (lo+k) (lo+l);pure (ForInStep.yield (none,()))) _ _;rw [moveDown'_eq];have ks:lo+k<(arrOf st2).size:=by omega
     refine RA (Uh (RH ⟨rfl,⟨hB1.k,hB1.f,hB1.p,(bubble_perm _ _ _).trans hB1.m,λ i hi=>?_,hB1.a⟩,?_⟩))
     . show (bubble (arrOf st2) (lo+k) (lo+k-(lo+l)))[i]?=_;rw [getElem?_bubble ks _ (by omega),RJ (by omega),RJ (by omega)];exact hB1.l i hi
     . rw [show min (k+1) n=k+1 by omega];intro i j i1 ij j1;show kx key (bubble (arrOf st2) (lo+k) (lo+k-(lo+l))) i<=kx key (bubble (arrOf st2) (lo+k) (lo+k-(lo+l))) j;rw [CW ks (by omega),CW ks (by omega),show lo+k-(lo+k-(lo+l))=lo+l by omega]
       repeat' split
       all_goals first
        | (exfalso;omega)
        | exact Sk _
        | exact h1 _ (by omega) (by omega)
        | exact T9 (h2 _ (by omega) (by omega))
        | exact s1 _ _ (by omega) (by omega) (by omega)
 . rintro c st1 ⟨rfl,hB1,s1⟩;rw [show min (max (max ok 1) n) n=n by omega] at s1;exact ⟨rfl,hB1,s1⟩
 . by_cases e:ok=0
   . rw [show i=j by omega];exact Sk _
   . exact hs i j i1 ij (by omega)
 . rintro c st1 ⟨rfl,hB1,s1⟩;exact RH (q st1 hB1 s1)
end
section
variable {M:Model} {prog:Program} {w:World} {A:Around} {E:Value->Shared->Prop} {s:Shared} {kd:SortKind} {key:Keyed->Int} {P:Keyed->Prop}
theorem Rp {σ α υ γ:Type} (j:υ->γ->StateT σ Sem α) {m:StateT σ Sem α} {Q:α->σ->Prop} {st:σ} (pre:γ->σ->Prop) (h1:∀ u g st,pre g st->wpS M A E s (j u g) Q st) (h2:(∀ u g st,pre g st->wpS M A E s (j u g) Q st)->wpS M A E s m Q st):wpS M A E s m Q st:=h2 h1
noncomputable def iH (key:Keyed->Int):Nat->List (Nat×Nat)->List Keyed->Prop
 | _,[],D=>D=[]
 | c,(b,n)::ps,D=>b=c/\0<n/\∃ X D',D=X++D'/\X.length=n/\X.Pairwise (Le key)/\iH key (c+n) ps D'
theorem iH.app:∀ {as bs:List (Nat×Nat)} {c:Nat} {D:List Keyed},iH key c (as++bs) D->∃ D1 D2,D=D1++D2/\iH key c as D1/\iH key (c+D1.length) bs D2
 | [],bs,c,D,h=>⟨[],D,rfl,rfl,h⟩
 | (b,n)::as,bs,c,D,⟨h1,h2,X,D',e,lx,sx,r⟩=>by
  obtain ⟨D1,D2,rfl,r1,r2⟩:=iH.app r;refine ⟨X++D1,D2,by rw [e,RX],⟨h1,h2,X,D1,rfl,lx,sx,r1⟩,?_⟩;rw [RN,lx,<-Nat.add_assoc];exact r2
theorem iH.join:∀ {as bs:List (Nat×Nat)} {c:Nat} {D1 D2:List Keyed},iH key c as D1->iH key (c+D1.length) bs D2->iH key c (as++bs) (D1++D2)
 | [],bs,c,D1,D2,h,r=>by cases h;exact r
 | (b,n)::as,bs,c,D1,D2,⟨h1,h2,X,D',e,lx,sx,r⟩,q=>by
  subst e;rw [RN,lx,<-Nat.add_assoc] at q;exact ⟨h1,h2,X,D'++D2,by rw [RX],lx,sx,iH.join r q⟩
theorem iH.len:∀ {as:List (Nat×Nat)} {c:Nat} {D:List Keyed},iH key c as D->as.length<=D.length
 | [],c,D,h=>Tf _
 | (b,n)::as,c,D,⟨h1,h2,X,D',e,lx,sx,r⟩=>by
  have:=iH.len r;rw [e,RN,RM];omega
noncomputable abbrev BB (x:Nat×Nat×Nat):Nat×Nat:=(x.1,x.2.1)
structure Rn (kd:SortKind) (key:Keyed->Int) (s0:SortSt) (lo:Nat) (T:List Keyed) (st:SortSt):Prop where
 k:kindOf st=kd
 f:failedOf st=none
 m:(arrOf st).Perm (arrOf s0)
 d:∃ D,(arrOf st).toList=D++T/\D.length=lo/\iH key 0 ((pendingOf st).toList.map BB) D
theorem Kc {α:Type} {l:List α} {i:Nat} (h:i+1<l.length):∃ as a b bs,l=as++a::b::bs/\as.length=i:=
 ⟨l.take i,l[i],l[i+1],l.drop (i+2),by rw [<-Sn h,<-Sn (by omega),Sy],by simp;omega⟩
theorem pS (hL:xX (model prog w) A E s kd key P) {s0 st:SortSt} {lo i:Nat} {T:List Keyed} (h:Rn kd key s0 lo T st) (hp:∀ p∈(arrOf s0).toList,P p) (hi:i+1<(pendingOf st).size) {Q:Bool->SortSt->Prop} (q:∀ st',Rn kd key s0 lo T st'->(pendingOf st').size+1=(pendingOf st).size->Q true st'):wpS (model prog w) A E s (mergeAt' i) Q st:=by
 obtain ⟨D,e,ld,r⟩:=h.d;obtain ⟨as,⟨b1,n1,p1⟩,⟨b2,n2,p2⟩,bs,el,la⟩:=Kc (l:=(pendingOf st).toList) (i:=i) (by simpa using hi);have r0:=r;rw [el,RW,RU,RU] at r;obtain ⟨D1,D2,rfl,r1,r2⟩:=iH.app r;obtain ⟨h1,h2,X,D3,rfl,lx,sx,h3,h4,Y,D4,rfl,ly,sy,r5⟩:=r2;dsimp only [BB] at h1 h2 h3 h4 lx ly r5;have g1:(pendingOf st)[i]?=some (b1,n1,p1):=by rw [<-RZ,el,<-la];simp
 have g2:(pendingOf st)[i+1]?=some (b1+n1,n2,p2):=by rw [<-RZ,el,<-la];simp;omega
 refine wI hL h.k h.f (pre:=D1) (X:=X) (Y:=Y) (post:=D4++T) g1 g2 (by rw [e];simp) (by omega) lx ly h2 h4 sx sy (λ p hp'=>hp p ((SD.mp h.m).mem_iff.mp hp')) λ st' R k1 k2 k3 k4 k5 k6=>?_;have pl:(pendingOf st').toList=as++(b1,n1+n2,p1)::bs:=by
  rw [k3];unfold Array.eraseIdxIfInBounds;rw [dif_pos (by simpa using hi),Array.toList_eraseIdx,Array.toList_setIfInBounds,el,<-la];simp [List.eraseIdx_append_of_length_le]
 refine q st' ⟨k1,k2,?_,D1++(R++D4),by rw [k4];simp,?_,?_⟩ ?_
 . refine (SD.mpr ?_).trans h.m;rw [k4,e];have:=(k5.append_right (D4++T)).append_left D1;simpa using this
 . have:=k5.length_eq;simp only [RN] at this ld ⊢;omega
 . rw [pl,RW,RU];refine iH.join r1 ⟨h1,by dsimp only;omega,R,D4,rfl,by rw [k5.length_eq,RN];dsimp only;omega,k6,?_⟩;rw [<-Nat.add_assoc];exact r5
 . have a1:=RO List.length pl;have a2:=RO List.length el;simp at a1 a2;omega
theorem yh {α β:Type} {f:α->α} {g:α->β} (h:∀ x,g (f x)=g x):∀ (l:List α) (i:Nat),(l.modify i f).map g=l.map g
 | [],i=>by simp
 | x::l,0=>by simp [h]
 | x::l,i+1=>by simp [yh h l i]
theorem nJ (hL:xX (model prog w) A E s kd key P) {s0:SortSt} (hk:kindOf s0=kd) (hf:failedOf s0=none) (h0:pendingOf s0 = #[]) (hp:∀ p∈(arrOf s0).toList,P p) {Q:Unit->SortSt->Prop}
 (q:∀ st',(arrOf st').Perm (arrOf s0)->failedOf st'=none->(arrOf st').toList.Pairwise (Le key)->Q () st'):wpS (model prog w) A E s sortRuns' Q s0:=by
 delta sortRuns';trace "sortRuns"
 refine RA (UI ?_);obtain ⟨N,hN⟩:∃ N,(arrOf s0).size=N:=⟨_,rfl⟩
 rw [show ((sortPriv% PySem.Builtin.SortState.a) s0).size=N from hN];refine RA (T5 (Sv (I:=λ x c st'=>∃ lo T,c=(none,lo)/\x<=lo/\lo<=N/\Rn kd key s0 lo T st') (Q:=λ c st'=>∃ lo,c=(none,lo)/\Rn kd key s0 N [] st') ?_ ?_ ⟨0,(arrOf s0).toList,rfl,Ry _,Tf _,hk,hf,.refl _,[],rfl,rfl,by rw [h0];rfl⟩) ?_)
 . rintro x c st x1 x2 ⟨lo,T,rfl,xl,ls,rn⟩;dsimp -zeta only;refine eS (λ c=>?_) λ c=>?_
   . have:lo=N:=by omega
     subst this;refine RH ⟨_,rfl,rn.k,rn.f,rn.m,?_⟩;obtain ⟨D,e,ld,r⟩:=rn.d;have:T=[]:=by
      have a1:=RO List.length e;have a2:=rn.m.size_eq.trans hN;simp at a1;exact T7 (by omega)
     exact ⟨D,by rw [e,this],ld,r⟩
   . have sz:=rn.m.size_eq.trans hN;have cb:Cb kd P st lo st:=⟨rn.k,rn.f,rfl,.refl _,λ _ _=>rfl,λ p hp'=>hp p ((SD.mp rn.m).mem_iff.mp hp')⟩
     refine RA (vh hL cb (by omega) (by omega) λ m st1 cb1 m1 m2 s1=>?_);dsimp -zeta only
     trace "j 1"
     refine Rp j (λ n st'=>Cb kd P st lo st'/\1<=n/\lo+n<=N/\tU key (arrOf st') lo n) (λ _ n st2 ⟨cb2,n1,n2,s2⟩=>?_) λ t=>?_
     rotate_left
     . split
       . refine RA (wpS_lift (TC ⟨rfl,?_⟩));refine RA (rc hL cb1 (by omega) (by omega) s1 λ st2 cb2 s2=>?_);refine nv (by decide) ?_;exact t () _ _ ⟨cb2,by omega,by omega,s2⟩
       . exact t () _ _ ⟨cb1,m1,by omega,s1⟩
     trace "- j 1"
     obtain ⟨D,e,ld,r⟩:=rn.d;obtain ⟨X,W,ew,lx,sx⟩:∃ X W,(arrOf st2).toList=D++(X++W)/\X.length=n/\X.Pairwise (Le key):=by
      have sz2:=cb2.size;have eD:(arrOf st2).toList.take lo=D:=by
       apply UF;intro i;by_cases hi:i<lo
       . rw [SU hi,RZ,cb2.l i hi,<-RZ,e,RR (by omega)]
       . rw [Tl (by simp;omega),Tl (by omega)]
      refine ⟨((arrOf st2).toList.drop lo).take n,((arrOf st2).toList.drop lo).drop n,?_,by simp;omega,?_⟩
      . rw [Sy,<-eD,Sy]
      . rw [Tj];intro i k hi hk' ik;have h1:=s2 (lo+i) (lo+k) (by omega) (by omega) (by simp at hk';omega);have at':∀ {i:Nat} (hi:i<(((arrOf st2).toList.drop lo).take n).length),kx key (arrOf st2) (lo+i)=key (((arrOf st2).toList.drop lo).take n)[i]:=λ {i} hi=>by
         have:(arrOf st2)[lo+i]?=some (((arrOf st2).toList.drop lo).take n)[i]:=by
          rw [<-RZ,<-List.getElem?_drop,<-SU (j:=n) (by simp at hi;omega)];exact RQ hi
         simp only [kx,this];rfl
        rw [at' hi,at' hk'] at h1;exact h1
     have rn2:Rn kd key s0 lo (X++W) st2:=⟨cb2.k,cb2.f,cb2.m.trans rn.m,D,ew,ld,by rw [cb2.p];exact r⟩
     refine RA (UI ?_)
     trace "j2 1"
     refine OO j2 (λ st'=>Rn kd key s0 lo (X++W) st') (λ _ st3 rn3=>?_) λ t=>?_
     . trace "- j2 1"
       refine RA (Uh (RH ⟨lo+n,W,rfl,by omega,by omega,rn3.k,rn3.f,rn3.m,?_⟩));obtain ⟨D,e,ld,r⟩:=rn3.d;refine ⟨D++X,by rw [RX];exact e,by rw [RN];omega,?_⟩;show iH key 0 (((pendingOf st3).push (lo,n,0)).toList.map BB) _;rw [Ue,RW];exact r.join ⟨by dsimp only [BB];omega,n1,X,[],by simp,lx,sx,rfl⟩
     . split
       . refine RA (T5 (Sv (I:=λ x c st'=>c=(none,())/\Rn kd key s0 lo (X++W) st') (Q:=λ c st'=>c=(none,())/\Rn kd key s0 lo (X++W) st') ?_ (λ _ _ z=>z) ⟨rfl,rn2⟩) ?_)
         . rintro x c st3 _ _ ⟨rfl,rn3⟩;refine RA (UI ?_);dsimp only;split
           . rename_i e';split
             . exact RH ⟨rfl,rn3⟩
             . have gt:(pendingOf st3).size>1:=by
                by_cases g:(pendingOf st3).size>1
                . exact g
                . rw [RJ g] at e';cases e'
               refine RA (pS hL rn3 hp (by show (pendingOf st3).size-2+1<_;omega) λ st' rn' e=>?_);refine nv (by decide) ?_;exact RH ⟨rfl,rn'⟩
           . exact RH ⟨rfl,rn3⟩
         . rintro c st3 ⟨rfl,rn3⟩;refine RA (Uh (t () _ ⟨rn3.k,rn3.f,rn3.m,?_⟩));obtain ⟨D,e,ld,r⟩:=rn3.d;refine ⟨D,e,ld,?_⟩;show iH key 0 (((pendingOf st3).modify _ _).toList.map BB) _;rw [Array.toList_modify,yh]
           . exact r
           . rintro ⟨a,b,c⟩;rfl
       . exact t () _ rn2
 . rintro c st ⟨lo,T,rfl,xl,ls,rn⟩;have:lo=N:=by omega
   subst this;refine ⟨_,rfl,rn.k,rn.f,rn.m,?_⟩;obtain ⟨D,e,ld,r⟩:=rn.d;have:T=[]:=by
    have a1:=RO List.length e;have a2:=rn.m.size_eq.trans hN;simp at a1;exact T7 (by omega)
   exact ⟨D,by rw [e,this],ld,r⟩
 rintro c st ⟨lo,rfl,rn⟩;dsimp -zeta only;refine RA (T5 (Sv (I:=λ x c st'=>c=(none,())/\Rn kd key s0 N [] st'/\(pendingOf st').size+x<=N) (Q:=λ c st'=>c=(none,())/\Rn kd key s0 N [] st'/\(pendingOf st').size<=1) ?_ ?_ ⟨rfl,rn,?_⟩) ?_)
 . rintro x c st x1 x2 ⟨rfl,rn,px⟩;refine RA (UI ?_);refine eS (λ (c:(pendingOf st).size<=1)=>?_) λ (c:¬ (pendingOf st).size<=1)=>?_
   . exact RH ⟨rfl,rn,c⟩
   . refine RA (pS hL rn hp ?_ λ st' rn' e=>?_)
     . have key:∀ (c:Prop) [Decidable c],(if c then (pendingOf st).size-2-1 else (pendingOf st).size-2)+1<(pendingOf st).size:=λ c _=>by split <;> omega
       exact key _
     . refine nv (by decide) ?_;exact RH ⟨rfl,rn',by omega⟩
 . rintro c st ⟨rfl,rn,px⟩;exact ⟨rfl,rn,by omega⟩
 . obtain ⟨D,e,ld,r⟩:=rn.d;have:=r.len;simp at this;omega
 rintro c st ⟨rfl,rn,px⟩;refine RH (q st rn.m rn.f ?_);obtain ⟨D,e,ld,r⟩:=rn.d;rw [e,Sa];have lp:(pendingOf st).toList.length<=1:=by simpa using px
 match hl:(pendingOf st).toList,lp with
 | [],_=>
  rw [hl] at r;have:D=[]:=r;rw [this];exact .nil
 | [(b,n,p)],_=>
  rw [hl] at r;obtain ⟨_,_,X,D',e',_,sx,r'⟩:=r;have:D'=[]:=r';rw [e',this,Sa];exact sx
end
section
variable {prog:Program} {w:World} {A:Around} {E:Value->Shared->Prop} {s:Shared}
theorem GW:xX (model prog w) A E s oneType' (λ p=>numOf p.1) (λ p=>∃ n t,p.1=.int n t):=by
 rintro ⟨x,x'⟩ ⟨y,y'⟩ ⟨a,t,rfl⟩ ⟨b,u,rfl⟩ st Q hk q;rw [lt'_eq];refine RA (UI ?_);rw [hk,keyLt'_oneType];exact RA (wpS_lift (UP (oneLt_int ⟨rfl,RH q⟩)))
theorem re {a:Addr} {vs:List Value} {ns:List Int} {n:Nat} {R:Fin->Shared->Prop} (ho:s.heap.get? a=some (seqObj "list" vs.toArray n)) (hI:IntsAre vs ns) (hl:vs.length<=9000)
 (h:∀ (out:Array Value) (ms:List Int),IntsAre out.toList ms->ms.Perm ns->ms.Pairwise (·<=·)->R (.done (.ret .none)) { s with heap:=sortedHeap s.heap a vs out }):
 wpAny (model prog w) A (Builtin.«list.sort» ⟨[.ref a],[]⟩) R E s:=by
 by_cases c:vs.length<64
 . exact list_sort_tree ho hI c h
 obtain ⟨v,u,l,rfl⟩:∃ v u l,vs=v::u::l:=by
  match vs,c with
  | v::u::l,_=>exact ⟨v,u,l,rfl⟩
  | [_],c=>exact absurd (by simp) c
  | [],c=>exact absurd (by decide) c
 have n2:¬ (v::u::l).toArray.size<2:=by simp
 generalize hvs:v::u::l=vs at *;have kk:keyKind' vs.toArray=pure oneType':=by subst hvs;exact keyKind_ints hI
 have sl:vs.toArray.size<=sizeLine:=by rw [T6,So];omega
 rw [list_sort_plain];refine Rq (listItems_at ho rfl (Rq (TX ho rfl ?_ sl)));obtain ⟨e1,o1⟩:∃ e1,(s.heap.update a (Obj.mapSeq λ _=>#[])).get? a=some (seqObj "list" #[] e1):=⟨_,get?_update_seq ho (λ _=>#[])⟩
 refine Rq (seqEpoch_at o1 rfl (Rq (wpAny_newTuple (Rq (Ub (Ss ?_))))));rw [RJ n2,RJ n2,kk];have la:a<s.heap.objs.size:=RC ho;have o2:(((s.heap.update a (Obj.mapSeq λ _=>#[])).push (seqObj "tuple" vs.toArray 0)).push (seqObj "list" #[] 0)).get? a=some (seqObj "list" #[] e1):=by
  rw [UJ _ _ _ (by rw [size_push',Ul];exact RL (SS la)),UJ _ _ _ (by rw [Ul];exact RL la),o1]
 refine Rq (Ru (Rq (Sx (nJ (s0:=SortSt.mk' oneType' (pairsOf vs) #[] 7 none) (Q:=λ _ st'=>(arrOf st').Perm (pairsOf vs)/\failedOf st'=none/\(arrOf st').toList.Pairwise (Le λ p=>numOf p.1)) GW rfl rfl rfl hI.intKeys λ st' p1 p2 p3=>⟨p1,p2,p3⟩) ?_ λ _ _ z=>z)));rintro ⟨⟨⟩,st'⟩ s' ⟨rfl,hp,hf,hs⟩;refine Rq (seqEpoch_at o2 rfl (Rq (TX o2 rfl ?_ (Tf _) (by
  show ((arrOf st').map (·.2)).size<=_;rw [Array.size_map,hp.size_eq,pairsOf_size,T6];omega))))
 show wpAny _ _ (match failedOf st' with | some e=>_ | _=>_) _ _ _;rw [hf];simp only [bne_self_eq_false,Sr,Up];dsimp only at hp hf hs;obtain ⟨ms,m1,m2,m3⟩:=sorted_out hI hp λ i j ij hj=>by
  rw [<-hp.size_eq] at hj;rw [K_eq (show i<_ by omega),K_eq hj];rcases Nat.eq_or_lt_of_le ij with q | q
  . subst q;exact Sk _
  . have:=Tj.mp hs i j (by simp;omega) (by simpa using hj) q;simpa [Le] using this
 exact Ru (h _ ms m1 m2 m3)
end
section
variable {K:Frag} {ρ:List Addr}
noncomputable def Kk:W->W->Option W:=BD lM λ i j=>i*2^j.toNat
noncomputable def wq:W->W->Option W:=gI λ i j=>Builtin.bitAnd i j
noncomputable def Pl:W->W->Option W:=gI λ i j=>Builtin.bitOr i j
theorem Ii:DR K ρ (rI G7 λ i j=>.int (i*2^j.toNat)) Kk:=sC λ i j h=>by
 simp only [lM,RY,R5] at h;exact ⟨h.1.1,by omega,h.2⟩
theorem Jm:DR K ρ (yq λ i j=>.int (Builtin.bitAnd i j)) wq:=C8
theorem LV:DR K ρ (yq λ i j=>.int (Builtin.bitOr i j)) Pl:=C8
end
noncomputable def As (n:Int):List Int->List Int
 | []=>[n]
 | m::l=>if n<=m then n::m::l else m::As n l
noncomputable def zV (l:List Int):List Int:=l.foldr As []
theorem rZ (n:Int) (l:List Int):(As n l).Perm (n::l):=by
 induction l with
 | nil=>exact .refl _
 | cons m l ih=>
  unfold As;split
  . exact .refl _
  . exact (ih.cons m).trans (.swap n m l)
theorem gS (l:List Int):(zV l).Perm l:=by
 induction l with
 | nil=>exact .refl _
 | cons m l ih=>exact (rZ m (zV l)).trans (ih.cons m)
theorem Dh (n:Int) (l:List Int) (h:l.Pairwise (·<=·)):(As n l).Pairwise (·<=·):=by
 induction l with
 | nil=>exact .cons (by simp) .nil
 | cons m l ih=>
  unfold As;cases h with
  | cons h1 h2=>
  split
  . rename_i hn;exact .cons (λ x hx=>by rcases Rx.mp hx with rfl | hx;exact hn;exact Sz hn (h1 x hx)) (.cons h1 h2)
  . rename_i hn;refine .cons (λ x hx=>?_) (ih h2);rcases Rx.mp ((rZ n l).mem_iff.mp hx) with rfl | hx
    . omega
    . exact h1 x hx
theorem oS (l:List Int):(zV l).Pairwise (·<=·):=by
 induction l with
 | nil=>exact .nil
 | cons m l ih=>exact Dh m _ ih
theorem l6:∀ {l m:List Int},l.Perm m->l.Pairwise (·<=·)->m.Pairwise (·<=·)->l=m
 | [],m,p,_,_=>(List.Perm.nil_eq p)
 | a::l,[],p,_,_=>nomatch p.length_eq
 | a::l,b::m,p,.cons h1 h2,.cons k1 k2=>by
  have e:a=b:=by
   have ha:=p.mem_iff.mp (.head _);have hb:=p.mem_iff.mpr (.head _);rcases Rx.mp ha with e | ha
   . exact e
   . rcases Rx.mp hb with e | hb
     . exact e.symm
     . exact Int.le_antisymm (h1 b hb) (k1 a ha)
  subst e;rw [l6 (List.perm_cons a |>.mp p) h2 k2]
theorem Bh {prog:Program} {w:World} {A:Around} {E:Value->Shared->Prop} {s:Shared} (src:PySem.W.KdlSrc prog w T r d n P OK) (hh:A.handled=none) (ok:OK s.heap) (hn:n<=sizeLine)
 (h:∀ (h':Heap) (tk:Nat) (acc:Array Value),(∀ b o,s.heap.get? b=some o->h'.get? b=some o)->s.heap.objs.size<=h'.objs.size->ItemsOf P acc n->Q acc.toList { s with heap:=h',toks:=tk }):wpAny (model prog w) A (collect (.ref r)) Q E s:=by
 obtain ⟨hr,hd⟩:=src.there _ ok;refine Rq (wpAny_runValue (SF entry_proto_collect' ?_));refine Rq (Ub (Ru ⟨Ux _ (by decide +kernel),SF entry_list_iadd' ?_⟩));show wpAny _ A.in1 (Builtin.List.listExtendWith (.ref s.heap.objs.size) (.ref r) (.ref s.heap.objs.size)) _ _ { s with heap:=s.heap.push (seqObj "list" #[] 0) };refine PySem.W.kdl_extend (R:=λ r s'=>match r with
  | .ok (.ret v)=>wpAny (model prog w) A (match v with
   | .ref a=>do
    let o <-load a
    match o.data with
    | .seq xs _=>pure xs.toList
    | _=>unsupported "internal:collect"
   | _=>unsupported "internal:collect") Q E s'
  | .ok _=>False
  | .error e=>E e s') (s:={ s with heap:=s.heap.push (seqObj "list" #[] 0) }) src hh (src.keep _ _ ok λ b _ o e=>Rv _ e) s.heap.objs.size (UB hr) (UB hd) _ 0 (RF _ rfl) (λ h' tk acc c kp e ia=>?_) hn
 show wpAny (model prog w) A (do
  let o <-load s.heap.objs.size
  match o.data with
  | .seq xs _=>pure xs.toList
  | _=>unsupported "internal:collect") Q E { s with heap:=h',toks:=tk }
 refine Rq (wpAny_load e ?_);exact Ru (h h' tk acc (λ b o g=>kp b o (RL (RC g)) (Rv _ g)) (Tb (RC e)) ia)
section
variable {X:Cx}
end
section
variable {X:Cx}
end
section
variable {K:Frag} {cl:Str->Addr} {E:XK} {ρ:List Addr}
end
open Lean in
local macro_rules | `(tactic| trace $s:str)=>do
 let z (j n:String):Array Ident:=(List.range n.toNat!).toArray.map λ i=>mkIdent (.mkSimple s!"{j}{i}")
 match s.getString.splitOn " " with
 | [""]=>`(tactic| try dsimp -zeta only)
 | ["=", n]=>do
  let a:=z "z" n
  `(tactic| (extract_lets +onlyGivenNames $a:ident*;dsimp -zeta only [$[$a:ident],*]))
 | [j,n]=>do
  let a:=z j n
  `(tactic| (extract_lets +onlyGivenNames $(a.push (mkIdent j.toName)):ident*;try dsimp -zeta only [$[$a:ident],*]))
 | [_,j,n]=>`(tactic| dsimp -zeta only [$[$((z j n).push (mkIdent j.toName)):ident],*])
 | [n]=>`(tactic| (delta $(mkCIdent (mkPrivateNameCore `PySem.Builtin.List.W1All (`PySem.Builtin++n.toName))):ident;dsimp -zeta only))
 | _=>Macro.throwUnsupported
noncomputable abbrev CC:Int:=1000000
noncomputable def pC (n:Int):List V:=[.int (n / CC),.int (n%CC)]
noncomputable def T2 (h:Heap) (n:Int) (v:Value):Prop:=∃ b o m t u,v=.ref b/\h.get? b=some o/\o.cls=.type "tuple" /\ o.data=.seq #[.int (n / CC) t,.int (n%CC) u] m
noncomputable def nK (h:Heap):Value->Int
 | .ref b=>match h.get? b with
  | some o=>match o.data with
   | .seq xs _=>numOf (xs.getD 0 .none)*CC+numOf (xs.getD 1 .none)
   | _=>0
  | none=>0
 | _=>0
theorem T2.nk (x:T2 h n v):nK h v=n:=by
 obtain ⟨b,o,m,t,u,rfl,e,_,d⟩:=x;simp only [nK,e,d];show n / CC*CC+n%CC=n;rw [Int.mul_comm];exact UM n CC
theorem T2.keep (x:T2 h n v) (k:∀ b o,h.get? b=some o->o.cls=.type "tuple" -> h'.get? b=some o):T2 h' n v:=by
 obtain ⟨b,o,m,t,u,rfl,e,c,d⟩:=x;exact ⟨b,o,m,t,u,rfl,k b o e c,c,d⟩
theorem LW (a b:Int):decide (a<b)=if a / CC=b / CC then decide (a%CC<b%CC) else decide (a / CC<b / CC):=by
 have h1:=UM a CC;have h2:=UM b CC;have h3:=Int.emod_nonneg a (show CC≠0 by decide);have h4:=Int.emod_lt_of_pos a (show 0<CC by decide);have h5:=Int.emod_nonneg b (show CC≠0 by decide);have h6:=Int.emod_lt_of_pos b (show 0<CC by decide);generalize a / CC=x at *;generalize b / CC=y at *;generalize a%CC=p at *;generalize b%CC=q at *;simp only [CC] at *;split
 . rename_i e;subst e;exact decide_eq_decide.mpr (by omega)
 . exact decide_eq_decide.mpr (by omega)
section
variable {prog:Program} {w:World} {A:Around} {E:Value->Shared->Prop} {s:Shared}
theorem rW {a b:Int} {t u:Tok} {o:Bool} {Q:Bool->Shared->Prop} (h:Q (decide (a<b)) s):wpAny (model prog w) A (oneLt' o (.int a t) (.int b u)) Q E s:=by
 cases o with
 | true=>exact oneLt_int h
 | false=>
  rw [oneLt'_eq];simp only [Sr,Up];exact Rq (wpAny_lt_int (Td h))
theorem zS {m n:Int} {x y:Value} {o:Bool} {Q:Bool->Shared->Prop} (hx:T2 s.heap m x) (hy:T2 s.heap n y) (q:Q (decide (m<n)) s):wpAny (model prog w) A (keyLt' (tuples' o) x y) Q E s:=by
 obtain ⟨b,ob,k,t,u,rfl,e,c,d⟩:=hx;obtain ⟨b',ob',k',t',u',rfl,e',c',d'⟩:=hy
 delta keyLt'
 trace "keyLt"
 refine Rq (listItems_at e d (Rq (listItems_at e' d' ?_)));rw [LW] at q;show wpAny _ _ (forIn [((Value.int (m / CC) t,Value.int (n / CC) t'),0),((Value.int (m%CC) u,Value.int (n%CC) u'),1)] _ _ >>= _) _ _ _;rw [List.forIn_cons];refine Rq (Rq (Rq (wpAny_eqBool_int ?_)));by_cases c1:m / CC=n / CC
 . rw [Rt c1] at q;rw [UN.mpr c1];refine Ru ?_;dsimp only;rw [List.forIn_cons];refine Rq (Rq (wpAny_eqBool_int ?_));by_cases c2:m%CC=n%CC
   . rw [UN.mpr c2];refine Ru (Ru (Ru ?_));rw [c2,RB (Int.lt_irrefl _)] at q;exact q
   . rw [TY.mpr c2];exact Rq (rW (Ru (Ru (Ru q))))
 . rw [RJ c1] at q;rw [TY.mpr c1];exact Rq (rW (Ru (Ru (Ru q))))
variable {h0:Heap}
theorem Go {o:Bool} (k:∀ b o,h0.get? b=some o->o.cls=.type "tuple" -> s.heap.get? b=some o):xX (model prog w) A E s (tuples' o) (λ p=>nK h0 p.1) (λ p=>∃ n,T2 h0 n p.1):=by
 rintro ⟨x,x'⟩ ⟨y,y'⟩ ⟨m,hx⟩ ⟨n,hy⟩ st Q hk q;rw [lt'_eq];refine RA (UI ?_);rw [hk];dsimp only at hx hy;have q:Q (some (decide (nK h0 x<nK h0 y))) st:=q;rw [hx.nk,hy.nk] at q;exact RA (wpS_lift (UP (zS (hx.keep k) (hy.keep k) ⟨rfl,RH q⟩)))
theorem zZ {n:Int} {v:Value} {Q:Option Value->Shared->Prop} (hx:T2 s.heap n v) (q:∀ t,Q (some (.int (n / CC) t)) s):wpAny (model prog w) A (firstOfTuple' v) Q E s:=by
 obtain ⟨b,o,m,t,u,rfl,e,c,d⟩:=hx
 delta firstOfTuple'
 trace "firstOfTuple?"
 refine Rq (UW ⟨o,e,c⟩ ?_);exact Rq (listItems_at e d (Ru (q t)))
theorem qH:∀ {vs:List Value} {ns:List Int} {Q:List (Option Value)->Shared->Prop},Paired (λ n v=>T2 s.heap n v) ns vs->(∀ fs:List Value,IntsAre fs (ns.map (· / CC))->Q (fs.map some) s)->wpAny (model prog w) A (vs.mapM firstOfTuple') Q E s
 | _,_,Q,.nil,q=>Ru (q [] .nil)
 | _,_,Q,.cons h r,q=>by
  rw [List.mapM_cons];refine Rq (zZ h λ t=>Rq (qH r λ fs hf=>Ru ?_));exact q (.int _ t::fs) (.cons _ t hf)
theorem BY {vs:List Value} {ns:List Int} {Q:SortKind->Shared->Prop} (hp:Paired (λ n v=>T2 s.heap n v) ns vs) (q:∀ o,Q (tuples' o) s):wpAny (model prog w) A (keyKind' vs.toArray) Q E s:=by
 rw [keyKind'_eq,List.mapM_toArray];refine Rq (wpAny_map (qH hp λ fs hf=>?_));rw [Rt (by simp)];refine Rq (TC ?_);rw [oneTypeOnly'_eq];rw [show ((fs.map some).toArray.filterMap id)=fs.toArray by simp,List.mapM_toArray,mapM_typeOf_ints hf];simp only [map_pure,pure_bind];split <;> simp only [pure_bind] <;> exact Ru (q _)
theorem T2.mem {v:Value} {vs:List Value} {ns:List Int} (h:Paired (λ n v=>T2 h0 n v) ns vs) (m:v∈vs):∃ n,T2 h0 n v:=by
 induction h with
 | nil=>cases m
 | cons r _ ih=>
  rcases Rx.mp m with rfl | m
  . exact ⟨_,r⟩
  . exact ih m
theorem T2.nums {vs:List Value} {ns:List Int} (h:Paired (λ n v=>T2 h0 n v) ns vs):(vs.zip vs).map (λ p=>nK h0 p.1)=ns:=by
 induction h with
 | nil=>rfl
 | cons r _ ih=>rw [List.zip_cons_cons,RU,ih,r.nk]
theorem T2.keeps {h1:Heap} {vs:List Value} {ns:List Int} (k:∀ b o,h0.get? b=some o->o.cls=.type "tuple" -> h1.get? b=some o) (h:Paired (λ n v=>T2 h0 n v) ns vs):Paired (λ n v=>T2 h1 n v) ns vs:=by
 induction h with
 | nil=>exact .nil
 | cons r _ ih=>exact .cons (r.keep k) ih
theorem rh {a:Addr} {vs:List Value} {ns:List Int} {n:Nat} {R:Fin->Shared->Prop} (ho:s.heap.get? a=some (seqObj "list" vs.toArray n)) (hI:Paired (λ n v=>T2 s.heap n v) ns vs) (hl:vs.length<=9000)
 (h:∀ (out:Array Value) (ms:List Int),Paired (λ n v=>T2 s.heap n v) ms out.toList->(∀ v∈out.toList,v∈vs)->ms.Perm ns->ms.Pairwise (·<=·)->R (.done (.ret .none)) { s with heap:=sortedHeap s.heap a vs out }):
 wpAny (model prog w) A (Builtin.«list.sort» ⟨[.ref a],[]⟩) R E s:=by
 have sl:vs.toArray.size<=sizeLine:=by rw [T6,So];omega
 have fin:∀ xs:Array Keyed,xs.Perm (pairsOf vs)->xs.toList.Pairwise (Le λ p=>nK s.heap p.1)->R (.done (.ret .none)) { s with heap:=sortedHeap s.heap a vs (xs.map (·.2)) }:=λ xs hp hs=>by
  have hq:∀ p∈xs.toList,p.1=p.2/\p.1∈vs/\T2 s.heap (nK s.heap p.1) p.1:=λ p hm=>by
   have hm:=(SD.mp hp).mem_iff.mp hm;rw [pairsOf_toList] at hm;obtain ⟨e,m⟩:=mem_zip_self hm;obtain ⟨n,x⟩:=T2.mem hI m;exact ⟨e,m,by rw [x.nk];exact x⟩
  refine h _ (xs.toList.map λ p=>nK s.heap p.1) ?_ (λ v hv=>?_) ?_ ?_
  . rw [Array.toList_map];generalize xs.toList=l at hq;clear hp hs;induction l with
    | nil=>exact .nil
    | cons p l ih=>
     refine .cons ?_ (ih λ q hm=>hq q (R6 _ hm));obtain ⟨e,_,m⟩:=hq p RV;show T2 _ _ p.2;rw [<-e];exact m
  . rw [Array.toList_map] at hv;obtain ⟨p,hm,rfl⟩:=Sc.mp hv;obtain ⟨e,m,_⟩:=hq p hm;rw [<-e];exact m
  . refine ((SD.mp hp).map _).trans (.of_eq ?_);rw [pairsOf_toList];exact T2.nums hI
  . exact UK.mpr hs
 rw [list_sort_plain];refine Rq (listItems_at ho rfl (Rq (TX ho rfl ?_ sl)));obtain ⟨e1,o1⟩:∃ e1,(s.heap.update a (Obj.mapSeq λ _=>#[])).get? a=some (seqObj "list" #[] e1):=⟨_,get?_update_seq ho (λ _=>#[])⟩
 refine Rq (seqEpoch_at o1 rfl (Rq (wpAny_newTuple (Rq (Ub (Ss ?_))))));have la:a<s.heap.objs.size:=RC ho;have o2:(((s.heap.update a (Obj.mapSeq λ _=>#[])).push (seqObj "tuple" vs.toArray 0)).push (seqObj "list" #[] 0)).get? a=some (seqObj "list" #[] e1):=by
  rw [UJ _ _ _ (by rw [size_push',Ul];exact RL (SS la)),UJ _ _ _ (by rw [Ul];exact RL la),o1]
 have kp:∀ b o,s.heap.get? b=some o->o.cls=.type "tuple" -> (((s.heap.update a (Obj.mapSeq λ _=>#[])).push (seqObj "tuple" vs.toArray 0)).push (seqObj "list" #[] 0)).get? b=some o:=λ b o e c=>by
  have:a≠b:=λ z=>by subst z;rw [ho] at e;cases e;exact absurd (Value.type.inj c) (by decide)
  exact Rv _ (Rv _ (by rw [T0 _ _ _ _ (SN this)];exact e))
 by_cases n2:vs.toArray.size<2
 . rw [Rt n2,Rt n2];refine Rq (Ru ?_);dsimp only;rw [StateT.run_pure];refine Rq (Ru ?_);dsimp only;refine Rq (seqEpoch_at o2 rfl (Rq (TX o2 rfl ?_ (Tf _) (by rw [Array.size_map];show (pairsOf vs).size<=_;rw [pairsOf_size,T6];omega))));simp only [bne_self_eq_false,Sr,Up];refine Ru (fin (pairsOf vs) (Array.Perm.refl _) ?_);rw [pairsOf_toList]
   match vs,n2 with
   | [],_=>exact .nil
   | [_],_=>exact .cons (by simp) .nil
   | _::_::_,n2=>exact absurd n2 (by simp)
 rw [RJ n2,RJ n2];refine Rq (BY (s:={ s with heap:=((s.heap.update a (Obj.mapSeq λ _=>#[])).push (seqObj "tuple" vs.toArray 0)).push (seqObj "list" #[] 0) }) (T2.keeps kp hI) λ oo=>?_);refine Rq (Sx (nJ (s0:=SortSt.mk' (tuples' oo) (pairsOf vs) #[] 7 none) (Q:=λ _ st'=>(arrOf st').Perm (pairsOf vs)/\failedOf st'=none/\(arrOf st').toList.Pairwise (Le λ p=>nK s.heap p.1)) (Go kp) rfl rfl rfl (λ p hm=>?_) λ st' p1 p2 p3=>⟨p1,p2,p3⟩) ?_ λ _ _ z=>z)
 . have hm:p∈(pairsOf vs).toList:=hm;rw [pairsOf_toList] at hm;exact T2.mem hI (mem_zip_self hm).2
 rintro ⟨⟨⟩,st'⟩ s' ⟨rfl,hp,hf,hs⟩;refine Rq (seqEpoch_at o2 rfl (Rq (TX o2 rfl ?_ (Tf _) (by
  show ((arrOf st').map (·.2)).size<=_;rw [Array.size_map,hp.size_eq,pairsOf_size,T6];omega))))
 show wpAny _ _ (match failedOf st' with | some e=>_ | _=>_) _ _ _;rw [hf];simp only [bne_self_eq_false,Sr,Up];exact Ru (fin _ hp hs)
end
section
variable {K:Frag} {ρ:List Addr}
noncomputable def Fw:W->W->Option W:=BD (λ _ j=>decide (0<=j)) λ i j=>i / 2^j.toNat
theorem K9:DR K ρ (rI (λ _ j=>0<=j) λ i j=>.int (i / 2^j.toNat)) Fw:=sC λ i j h=>Sh h
end
noncomputable def EH (c:DS->Option Bool) (f g:DS->Option (List W)):DS->Option (List W):=λ δ=>(c δ).bind λ b=>if b=true then f δ else g δ
theorem LO {K:Frag} {ρ:List Addr} {tc:TT} {t u:TE} {c:DS->Option Bool} {f g:DS->Option (List W)} (hc:DT K ρ tc c) (h1:DO K ρ t f) (h2:DO K ρ u g):DO K ρ (OI tc t u) (EH c f g):=λ G σ H δ ds Q R e q=>by
 obtain ⟨b,eb,e⟩:=oB e
 refine hc G σ H δ b _ R eb λ G1 H1 g1=>?_;cases b with
 | true=>exact h1 G1 σ H1 δ ds Q (R.grow g1) e λ p vs G2 H2 g2 a1=>q p vs G2 H2 (g1.trans g2) (bV g1.h a1)
 | false=>exact h2 G1 σ H1 δ ds Q (R.grow g1) e λ p vs G2 H2 g2 a1=>q p vs G2 H2 (g1.trans g2) (bV g1.h a1)
noncomputable def ya (K:Frag):List V->Hp->VK->Prop:=λ xs H Q=>∃ a ns,xs=[.ref a]/\cG K H a (ns.map V.int)/\ns.length<=9000/\∀ l,H l=none->Q (.ref l) (cH H l (.lst ((zV ns).map V.int)))
theorem vO:∀ {ns:List Int} {its:List Value},bf (ns.map V.int) its->IntsAre its ns
 | [],_,.nil=>.nil
 | n::ns,_,.cons r t=>by
  obtain ⟨k,rfl⟩:=r;exact .cons n k (vO t)
section
variable {X:Cx}
theorem call_sort':bN X (.builtin "sorted") (ya X.K):=by
 intro pins s σ H xs us Q I r h;obtain ⟨a,ns,rfl,hq,hn,q⟩:=h;obtain ⟨u,rfl,ru⟩:=kW r;cases ru;obtain ⟨its,rv,pl,_⟩:=I.list hq;have hI:=vO rv;have al:=wx hI;refine Calls.call_function_entry kind_sorted plain_sorted entry_sorted (args_sorted1 _) ?_;refine Rq (Ru ?_);refine Rq (collect_list pl.isList ?_);have k1:∀ b o,s.heap.get? b=some o->((s.heap.push (seqObj "list" #[] 0)).update s.heap.objs.size (Obj.mapSeq λ x=>x++its.toArray)).get? b=some o:=λ b o g=>by
  rw [T0 _ _ _ _ (RL (RC g))];exact Rv _ g
 have z1:s.heap.objs.size<=((s.heap.push (seqObj "list" #[] 0)).update s.heap.objs.size (Obj.mapSeq λ x=>x++its.toArray)).objs.size:=by
  rw [Ul,size_push'];omega
 generalize (s.heap.push (seqObj "list" #[] 0)).update s.heap.objs.size (Obj.mapSeq λ x=>x++its.toArray)=h1 at *;refine Rq (Ub ?_);have hoL:(h1.push _).get? _=some (seqObj "list" its.toArray 0):=RF _ rfl;refine Rq (Ss (SI slot_list_sort ⟨_,hoL,rfl⟩ entry_list_sort (re hoL hI (by omega) λ out ns' a1 a2 a3=>⟨_,rfl,?_⟩) (args_list_sort _)));obtain ⟨n,he⟩:=sortedHeap_at hoL;have en:ns'=zV ns:=l6 (a2.trans (gS ns).symm) a3 (oS ns);subst en;refine Ru ⟨_,rfl,.ref _,_,I.laid (λ b o g=>?_) z1 (show bY _ _ _ _ _ (.lst _) from ⟨GV (by rw [R8,(gS ns).length_eq];omega),out.toList,n,rA a1,by simpa using he⟩),rfl,q _ (I.hok.fresh z1)⟩;have g1:=k1 b o g;rw [sortedHeap_old (RL (RC g1)) (by rw [size_push'];exact SS (RC g1))];exact Rv _ g1
theorem Oh {K:Frag} (h:X.K=K):QB X "sorted" (ya K):=⟨_,h▸call_sort',boot_sorted'⟩
end
section
variable {K:Frag} {ρ:List Addr}
noncomputable def yw (d:W):Option W:=(jT d).bind λ ds=>(vj ds).bind λ ns=>if ns.length<=9000 then some (.list ((zV ns).map W.int)) else none
theorem FD:MY K ρ (ya K) yw:=λ G H x d c Q s hx hg q=>by
 obtain ⟨ds,e1,hg⟩:=oB hg
 obtain ⟨ns,e2,hg⟩:=oB hg
 split at hg
 . rename_i hf;cases hg;cases jj e1;obtain ⟨p,vs,rfl,sq,da⟩:=i3 s hx;rw [qG da e2] at sq;refine ⟨p,ns,rfl,sq,hf,λ l hl=>?_⟩;have n1:Nw H _ l (.lst ((zV ns).map V.int)):=.of hl;exact q _ _ _ (Gr.nw s n1) (.lst (cG.of aG) (.ints _))
 . cases hg
end
noncomputable def cK:List b8->Option Int
 | [.inl x,.inl y]=>if 0<=y/\y<CC then some (x*CC+y) else none
 | _=>none
noncomputable def cC:List (List b8×α)->Option (List Int)
 | []=>some []
 | (k,_)::l=>(cK k).bind λ n=>(cC l).map (n::·)
theorem IF {K:Frag} {ρ:List Addr} {G:Hp}:∀ {l:List (List b8×W)} {m:List (List b8×V)},je K ρ G l m->cC m=cC l:=by
 intro l m h;induction h with
 | nil=>rfl
 | cons _ _ ih=>show Option.bind _ _=Option.bind _ _;rw [ih]
theorem GK {k:List b8} {n:Int} (h:cK k=some n):k=[.inl (n / CC),.inl (n%CC)]:=by
 unfold cK at h;split at h
 . rename_i x y;split at h
   . rename_i c;cases h;have e1:(x*CC+y) / CC=x:=by rw [UY,Int.add_mul_ediv_right _ _ (by decide),Int.ediv_eq_zero_of_lt c.1 c.2,Int.zero_add]
     have e2:(x*CC+y)%CC=y:=by rw [UY,Int.add_mul_emod_self_right,Int.emod_eq_of_lt c.1 c.2]
     rw [e1,e2]
   . cases h
 . cases h
noncomputable abbrev KM (H:Hp):List Int->List Addr->Prop:=Paired λ n b=>H b=some (.tup (pC n))
noncomputable def xV:List V->Hp->VK->Prop:=λ xs H Q=>∃ (a:Addr) (kvs:List (List b8×V)) (ns:List Int),xs=[.ref a]/\H a=some (.dT kvs)/\cC kvs=some ns/\ns.length<=9000/\∀ bs,KM H (zV ns) bs->∀ l,H l=none->Q (.ref l) (cH H l (.lst (bs.map V.ref)))
theorem Ef:∀ {l:List (List b8×α)} {ns:List Int},cC l=some ns->ns.length=l.length
 | [],_,e=>by cases e;rfl
 | (k,_)::l,_,e=>by
  obtain ⟨n,_,e⟩:=oB e
  obtain ⟨ms,e1,rfl⟩:=oM e
  simp [Ef e1]
noncomputable def TH (H:Hp) (h:Heap) (n:Int) (v:Value):Prop:=T2 h n v/\∃ b,v=.ref b/\H b=some (.tup (pC n))
theorem Hv {P:Program} {w:World} {H:Hp} {h:Heap} (ok:jN P w H h):∀ {kvs:List (List b8×V)} {ys:List (List b8×Addr×Value)} {ns:List Int},KT H kvs ys->cC kvs=some ns->Paired (TH H h) ns (ys.map λ y=>Value.ref y.2.1)
 | _,_,_,.nil,e=>by cases e;exact .nil
 | _,_,_,.cons (a:=(k,v)) (b:=(k',b,u)) r t,e=>by
  obtain ⟨n,e1,e⟩:=oB e
  obtain ⟨ms,e2,rfl⟩:=oM e
  refine .cons ?_ (Hv ok t e2);obtain ⟨_,r2,_⟩:=r;cases GK e1;obtain ⟨_,its,rv,o,g1,g2,m,g3⟩:=ok _ _ r2;refine ⟨?_,b,rfl,r2⟩;cases rv with
  | cons a1 t1=>
   cases t1 with
   | cons a2 t2=>
    cases t2;obtain ⟨t,rfl⟩:=a1;obtain ⟨u,rfl⟩:=a2;exact ⟨b,o,m,t,u,rfl,g1,g2,g3⟩
theorem JU {v:Value} {vs:List Value} {ns:List Int} (h:Paired (TH H h0) ns vs) (m:v∈vs):∃ n,TH H h0 n v:=by
 induction h with
 | nil=>cases m
 | cons r _ ih=>
  rcases Rx.mp m with rfl | m
  . exact ⟨_,r⟩
  . exact ih m
theorem Cm {vs:List Value} {ns:List Int} (h:Paired (TH H h0) ns vs):∀ {ms:List Int} {us:List Value},Paired (λ n v=>T2 h0 n v) ms us->(∀ v∈us,v∈vs)->∃ bs:List Addr,us=bs.map Value.ref/\KM H ms bs
 | _,_,.nil,_=>⟨[],rfl,.nil⟩
 | _,_,.cons r t,hm=>by
  obtain ⟨bs,e,k⟩:=Cm h t λ v hv=>hm v (R6 _ hv);obtain ⟨n,x,b,rfl,hb⟩:=JU h (hm _ RV);have:=x.nk.symm.trans r.nk;subst this;exact ⟨b::bs,by rw [e];rfl,.cons hb k⟩
section
variable {X:Cx}
theorem ye (hc:X.calm=true):bN X (.builtin "sorted") xV:=by
 intro pins s σ H xs us Q I r h;obtain ⟨a,kvs,ns,rfl,ha,e,hn,q⟩:=h;obtain ⟨u,rfl,ru⟩:=kW r;cases ru;obtain ⟨z,hd,ys,kt,o,es,ep,h1,h2,h3,h4,_⟩:=D5 I.hok ha;have sz:es.size=ys.length:=by rw [<-SK,h4,R8]
 have kl:=Ts kt;have cl:=Ef e;have th:=Hv I.hok kt e;refine Calls.call_function_entry kind_sorted plain_sorted entry_sorted (args_sorted1 _) ?_;refine Rq (Ru ?_);refine Rq (Bh (Hk hd) (show X.A.handled=none from I.ok.hd hc) ⟨o,h1,h2,h3⟩ (by omega) λ g1 tk acc k1 z1 ia=>?_);have ac:acc.toList=ys.map λ y=>Value.ref y.2.1:=by
  refine UF λ i=>?_;rcases TM i acc.size with hi | hi
  . have e1:acc[i]?=some _:=Tk hi;obtain ⟨en,e2,e3⟩:=ia.2 i _ e1;have e4:=entry_at h4 i;rw [e2] at e4;rw [RZ,e1,e3,Su];cases hy:ys[i]? with
    | none=>simp_all
    | some y=>rw [hy] at e4;cases e4;rfl
  . have:ys.length<=i:=by have:=ia.1;omega
    rw [RZ,UH hi,Tl (by simpa using this)]
 rw [<-ac] at th;have tl:=Ts th;refine Rq (Ub ?_);have hoL:(g1.push _).get? _=some (seqObj "list" acc.toList.toArray 0):=RF _ rfl;have kk:∀ b o,s.heap.get? b=some o->(g1.push (seqObj "list" acc.toList.toArray 0)).get? b=some o:=λ b o g=>Rv _ (k1 b o g);have t2:Paired (λ n v=>T2 (g1.push (seqObj "list" acc.toList.toArray 0)) n v) ns acc.toList:=Paired.mapP th λ n v x=>x.1.keep λ b o g _=>kk b o g;refine Rq (Ss (SI slot_list_sort ⟨_,hoL,rfl⟩ entry_list_sort (rh hoL t2 (by omega) λ out ms a1 a0 a2 a3=>⟨_,rfl,?_⟩) (args_list_sort _)));obtain ⟨n,he⟩:=sortedHeap_at hoL;have en:ms=zV ns:=l6 (a2.trans (gS ns).symm) a3 (oS ns);subst en;obtain ⟨bs,b1,b2⟩:=Cm (h0:=g1.push (seqObj "list" acc.toList.toArray 0)) (Paired.mapP th λ n v x=>⟨x.1.keep λ b o g _=>kk b o g,x.2⟩) a1 a0;have bl:=Ts b2;refine Ru ⟨_,rfl,.ref _,_,I.laid (t':=tk) (λ b o g=>?_) z1 (show bY _ _ _ _ _ (.lst (bs.map V.ref)) from ⟨GV (by rw [R8,<-bl,(gS ns).length_eq];omega),out.toList,n,by rw [b1];exact qe bs,by simpa using he⟩),rfl,q _ b2 _ (I.hok.fresh z1)⟩;have g1:=k1 b o g;rw [sortedHeap_old (RL (RC g1)) (by rw [size_push'];exact SS (RC g1))];exact Rv _ g1
theorem P6 (hc:X.calm=true):QB X "min" Do:=⟨_,wN hc,boot_min'⟩
theorem NZ (hc:X.calm=true):QB X "sorted" xV:=⟨_,ye hc,boot_sorted'⟩
end
section
variable {K:Frag} {cl:Str->Addr} {E:XK} {ρ:List Addr}
noncomputable def jp (f:DS->aq->SM W):DS->aq->SM Bool:=λ δ S=>aw (f δ S) λ x S1=>qN ((jT x).map λ ds=>!ds.isEmpty) S1
theorem Gq {t:TE} {f:DS->aq->SM W} (h:SE K cl E t f):ST K cl E (DJ K t) (jp f):=λ ρ G σ H δ S r S' Q R e q qx=>
 ci h R e (λ x S1 e1 v ρ1 G1 H1 g1 s1 dv=>by
  obtain ⟨b,e2,rfl,rfl⟩:=bU e1;obtain ⟨ds,e3,rfl⟩:=oM e2
  cases jj e3;exact ⟨_,Ij (dv.same g1.s),q _ rfl _ G1 H1 g1 s1⟩) qx
noncomputable def pW (n:Int):W:=.tuple [.int (n / CC),.int (n%CC)]
noncomputable def mB (f:DS->aq->SM W):DS->aq->SM W:=λ δ S=>aw (f δ S) λ x S1=>qN ((vG x S1).bind λ p=>(cC p.2).bind λ ns=>if ns.length<=9000 then some (.list ((zV ns).map pW)) else none) S1
theorem BE (h:KM H ns bs):∀ b∈bs,∃ xs,H b=some (.tup xs):=by
 induction h with
 | nil=>simp_all
 | cons r _ ih=>simp_all
theorem LD {G':Hp} {ns:List Int} {bs:List Addr} (h:KM H ns bs) (hb:∀ b∈bs,G' b=H b):aC K ρ G' (bs.map V.ref) (ns.map pW):=by
 induction h with
 | nil=>exact .nil
 | cons r _ ih=>exact .cons (.tup ((hb _ (by simp)).trans r) (.cons (.int _) (.cons (.int _) .nil))) (ih λ b hm=>hb b (by simp [hm]))
theorem DP (ha:SE K cl E ta fa):SE K cl E (tN xV (dj ta gN)) (mB fa):=λ ρ G σ H δ S r' S' Q R e q qx=>
 ci ha R e (λ x S2 e2 v ρ2 G2 H2 g2 s2 dv=>by
  obtain ⟨c,e3,rfl,rfl⟩:=bU e2;obtain ⟨⟨n,kvs⟩,e4,e3⟩:=oB e3
  obtain ⟨ns,e5,e3⟩:=oB e3
  split at e3
  case isFalse=>cases e3
  rename_i hn;cases e3;obtain ⟨rfl,e6⟩:=rR e4;obtain ⟨a,rfl,ea⟩:=cD dv;obtain ⟨ga,vs,k1,k2⟩:=s2.addr e6 ea;refine ⟨a,vs,ns,rfl,k1,(IF k2).trans e5,hn,λ bs ka l hl=>?_⟩;have g3:=Gr.adopt g2.s (BE ka);have n3:Nw H2 _ l (.lst (bs.map V.ref)):=.of hl;have g4:=g3.trans (Gr.nw g3.s n3);refine q _ rfl _ _ _ _ (g2.trans (.of g4)) (s2.grow g4) (.lst (cG.of aG) (LD ka λ b hb=>?_));rw [aF λ z=>by obtain ⟨xs,hx⟩:=BE ka b hb;simp_all];unfold L2.adopt;rw [Rt hb]) qx
end
end L2
set_option Elab.async false
set_option linter.all false
set_option maxRecDepth 100000
namespace My
open PySem PySem.Spec PyProof.Rows L2
open PySem.W (Frag)
local macro_rules
 | `($x:num[$i:num]!)=>`(ao aO (ar $x) (dC (.int $i)))
 | `(!$x:num)=>`(dC (.int $x))
 | `(!$x:str)=>`(dC (.str $x))
 | `(#[$a,*])=>do
  let mut r<-`(ah)
  for x in a.getElems.reverse do r<-`(aa $x $r)
  return r
local macro_rules | `(tactic| simp! [$a,*] $[$l]?)=>`(tactic| simp only [Nat.reduceAdd,Nat.reduceSub,reduceIte,Nat.reduceEqDiff,List.replicate,$a,*] $[$l]?)
noncomputable def fW (i:Nat):Stmt:=PySem.Challenge.pw_widelanes_k35_could_of_straight_lines.main.body.getD i (.Pass ⟨0,0,0,0⟩)
noncomputable abbrev nZ:Stmt:=fW 1
noncomputable abbrev qK:Stmt:=fW 2
noncomputable abbrev gZ:Stmt:=fW 3
noncomputable abbrev qg:Stmt:=fW 4
noncomputable abbrev nj:Stmt:=fW 8
noncomputable abbrev gX:Stmt:=kZ (fW 10) 0
noncomputable abbrev nQ:Stmt:=kZ (fW 10) 2
noncomputable abbrev ko:Stmt:=kZ (fW 10) 1
noncomputable abbrev nu:Stmt:=kZ (fW 10) 3
noncomputable abbrev l7:Stmt:=kZ (fW 10) 4
noncomputable abbrev rD:Stmt:=fW 12
noncomputable abbrev j6:Stmt:=fW 14
noncomputable abbrev qd:Stmt:=fW 13
noncomputable abbrev gh:Stmt:=fW 17
noncomputable abbrev nL:Stmt:=fW 20
noncomputable abbrev gW:Stmt:=fW 16
noncomputable abbrev n6:Stmt:=fW 15
noncomputable abbrev Cu:Stmt:=fW 11
noncomputable abbrev nz:Stmt:=fW 22
noncomputable abbrev jV:Stmt:=fW 25
noncomputable abbrev sJ:Stmt:=fW 24
noncomputable abbrev pj:Stmt:=fW 26
noncomputable abbrev nM:Stmt:=fW 28
noncomputable abbrev nY:Stmt:=fW 30
noncomputable abbrev nP:Stmt:=fW 29
noncomputable abbrev li:Stmt:=fW 32
noncomputable abbrev jB:Stmt:=fW 33
noncomputable abbrev lV:Stmt:=fW 35
noncomputable abbrev f6:Stmt:=fW 36
noncomputable abbrev pU:Stmt:=fW 34
noncomputable abbrev fZ:Stmt:=fW 31
noncomputable abbrev yK:Stmt:=fW 27
noncomputable abbrev lh:Stmt:=fW 38
noncomputable abbrev jF:Stmt:=fW 39
noncomputable abbrev kn:Stmt:=fW 40
noncomputable abbrev lG:Stmt:=fW 41
noncomputable abbrev kX:Stmt:=fW 42
noncomputable abbrev nR:Stmt:=fW 43
noncomputable abbrev jr:Stmt:=fW 45
noncomputable abbrev kY:Stmt:=fW 44
noncomputable abbrev gc:Stmt:=fW 46
noncomputable abbrev kq:Stmt:=fW 48
noncomputable abbrev hZ:Stmt:=fW 47
noncomputable abbrev nG:Stmt:=fW 49
noncomputable abbrev j7:Stmt:=fW 50
noncomputable abbrev wf:Stmt:=fW 51
theorem Rc (c_Sheet:Addr):∃ cl:Str->Addr,cl "Sheet" = c_Sheet:=⟨λ s=>(List.lookup s [("Sheet", c_Sheet)]).getD 0,by kernel_rfl⟩
noncomputable def j0:List W->Option W:=b7 1 1
 (ak (bg (au bw 0[0]! !"while")
  (az (be (aZ #[0[3]!])))
  av)
 (ak (bg (au bw 0[0]! !"if")
  (az (be (ku [none] (bm (jG (ae 0) (d8 !3) cw)) (af 0) (au kf (ar 0) (dC .none)) (ae 0))))
  av)
 (az (be (aZ ah)))))
noncomputable def wJ (pf:List W->Option W):DS->Option eI:=(fB 3 (aV pf #[ae 5,ao CM (ar 2) (aB #[ae 4])]))
noncomputable def iy (pf:List W->Option W):DS->Option eI:=(ak (bF 3 (aB #[ae 4,ae 2]))
 (d5 (bm (aV j0 #[ae 4])) (af 5) (wJ pf)))
noncomputable def fU:Nat->List W->Option W
 | 0,_=>none
 | n+1,ds=>b7 2 6
  (ak (aD (Fk (au uY (ar 1) (dC .none)) (aB ah) (ae 1)) (af 2))
  (ak (fj 3 (aZ ah))
  (ak (d5 (bm (ae 0)) (af 4) (iy (fU n)))
  (jD 3 (az (ae 3)))))) ds
noncomputable def cg:List W->Option W:=b7 1 2
 (ak (aD 0[0]! (af 1))
 (ak (bg (au fY (ar 1) (aB #[!"tell",!"if",!"while",!"return"]))
  (az (be (aZ #[0[2]!])))
  av)
 (ak (bg (au bw (ar 1) !"put")
  (az (be (aZ #[0[2]!,0[3]!])))
  av)
 (ak (bg (au bw (ar 1) !"set")
  (az (be (aZ #[0[3]!])))
  av)
 (ak (bg (au bw (ar 1) !"call")
  (az (be (oI 0[4]!)))
  av)
 (az (Fk (au bw (ar 1) !"join") (be (aZ #[0[4]!])) (be (aZ ah)))))))))
noncomputable def iG:List W->Option W:=b7 1 1
 (az (Fk (au fY 0[0]! (aB #[!"set",!"call",!"join"])) 0[2]! (dC .none)))
noncomputable def c7 (pf:List W->Option W):DS->Option eI:=(fB 1 (aV pf #[ae 2]))
noncomputable def bt:Nat->List W->Option W
 | 0,_=>none
 | n+1,ds=>b7 1 3
  (ak (bg (gT (au yH 0[0]! !"box") (au iD 0[0]! (dC (.tuple [.str "+", .str "-", .str "*", .str "div", .str "rem", .str "<", .str "="]))))
   (az (be (aZ #[ae 0])))
   av)
  (ak (fj 1 (aZ ah))
  (ak (d5 (bm (jG (ae 0) (d8 !1) cw)) (af 2) (c7 (bt n)))
  (jD 1 (az (ae 1)))))) ds
noncomputable def eM:List W->aq->SM W:=bJ 1 1
 (aA (fM "Sheet" "rows" (ab (ae 0)) (wt (ab ah)))
 (aA (fM "Sheet" "spots" (ab (ae 0)) Mc)
 (aA (fM "Sheet" "name" (ab (ae 0)) (ab (dC .none)))
 (fM "Sheet" "slots" (ab (ae 0)) A5))))
noncomputable def cO:List W->aq->SM W:=bJ 2 2
 (bW (gy "Sheet" "spots" (ab (ae 0))) (ab (ae 1)) (JL (gy "Sheet" "rows" (ab (ae 0)))))
noncomputable def gR:List W->aq->SM W:=bJ 3 3
 (aA (fM "Sheet" "name" (ab (ae 0)) (ab (ae 1)))
 (aA (fM "Sheet" "slots" (ab (ae 0)) (ab (ae 2)))
 (bd (bS "Sheet" "lay" cO (ab (ae 0)) (ab #[aB #[!"def",ae 1]])))))
noncomputable def aN:List W->aq->SM W:=bJ 2 2
 (qh (gy "Sheet" "rows" (ab (ae 0))) (ab (ae 1)))
noncomputable def cT:List W->aq->SM W:=bJ 1 1
 (iX (AS bI (vb (gy "Sheet" "slots" (ab (ae 0)))) (ab !1)))
noncomputable def gY:List W->aq->SM W:=bJ 2 2
 (aA (dm (ab (au fY 0[0]! (aB #[!"split",!"jump",!"call"])))
  (iX (AS bI (ab (jG (ae 0) cw (d8 (P4 CP !1)))) (t8 (aT (bC (ab (ae 1)) (ab (ao aO (ar 0) (P4 CP !1)))) fw))))
  (aJ av))
 (aJ (az (ae 0))))
noncomputable def cZ:DS->Option eI:=(qB 1 (ku [none] (bm (aV (bt 9) #[ae 5])) (af 0) (au bw 0[0]! !"name") 0[1]!))
noncomputable def eX:DS->Option eI:=(ak (aD (aV iG #[ae 2]) (af 4))
 (ak (bg (au kf (ar 4) (dC .none))
  (bF 1 (ae 4))
  av)
 (d5 (bm (aV cg #[ae 2])) (af 5) cZ)))
noncomputable def e9:List W->Option W:=b7 1 6
 (ak (fj 1 (aZ ah))
 (ak (d5 (bm (pJ (fU 8) #[ae 0])) (dy 2 (aQ (af 2) (aQ (af 3) dJ))) eX)
 (jD 1 (az (ae 1)))))
noncomputable def cX:DS->aq->SO:=(dm (GO true (ab (ae 3)) (ab (ae 2)))
 (bW (ab (ae 2)) (ab (ae 3)) (AS bI (vb (ab (ae 2))) (ab !1)))
 (aJ av))
noncomputable def kJ:List W->aq->SM W:=bJ 2 4
 (aA (cr A5 (af 2))
 (aA (dE (ab (bm (ao bI (ar 0) (aV e9 #[ae 1])))) (af 3) cX)
 (aJ (az (ae 2)))))
noncomputable def b6:Nat->List W->aq->SM W
 | 0,_,_=>none
 | n+1,ds,S=>bJ 4 5
  (aA (aJ (aD 2[0]! (af 4)))
  (dm (ab (au bw (ar 4) !"num"))
   (bd (bS "Sheet" "add" aN (ab (ae 0)) (ab #[aB #[!"num",ae 1,ae 3,2[1]!]])))
   (dm (ab (au bw (ar 4) !"name"))
   (bd (bS "Sheet" "add" aN (ab (ae 0)) (aT (t8 (aT (ab !"copy") (aT (ab (ae 1)) (aT (ab (ae 3)) (aT (bC (gy "Sheet" "slots" (ab (ae 0))) (ab 2[1]!)) fw))))) fw)))
   (dm (ab (au fY (ar 4) (dC (.tuple [.str "lane", .str "lanes", .str "mine"]))))
   (bd (bS "Sheet" "add" aN (ab (ae 0)) (ab #[aB #[!"sign",ae 1,ae 3,ae 4]])))
   (dm (ab (au bw (ar 4) !"box"))
   (aA (bd (cy (b6 n) (ab #[ae 0,ae 1,2[1]!,ae 3])))
  (bd (bS "Sheet" "add" aN (ab (ae 0)) (ab #[aB #[!"get",ae 1,ae 3,ae 3]]))))
   (aA (bd (cy (b6 n) (ab #[ae 0,ae 1,2[1]!,ae 3])))
  (aA (bd (cy (b6 n) (ab #[ae 0,ae 1,2[2]!,ao bI (ar 3) !1])))
  (bd (bS "Sheet" "add" aN (ab (ae 0)) (ab #[aB #[!"op",ae 1,ae 3,ae 4,ae 3,ao bI (ar 3) !1]])))))))))) ds S
noncomputable def jC:List W->aq->SM W:=bJ 2 5
 (aA (aJ (aD 1[0]! (af 2)))
 (aA (aJ (aD 1[1]! (af 3)))
 (aA (cr (bS "Sheet" "free" cT (ab (ae 0)) (ab ah)) (af 4))
 (dm (ab (au bw (ar 2) !"set"))
  (bd (bS "Sheet" "add" aN (ab (ae 0)) (aT (t8 (aT (ab !"copy") (aT (ab (ae 3)) (aT (bC (gy "Sheet" "slots" (ab (ae 0))) (ab 1[2]!)) (aT (ab (ae 4)) fw))))) fw)))
  (dm (ab (au bw (ar 2) !"put"))
  (bd (bS "Sheet" "add" aN (ab (ae 0)) (ab #[aB #[!"put",ae 3,ae 4,ao bI (ar 4) !1]])))
  (dm (ab (au bw (ar 2) !"tell"))
  (bd (bS "Sheet" "add" aN (ab (ae 0)) (ab #[aB #[!"tell",ae 3,ae 4]])))
  (dm (ab (au bw (ar 2) !"call"))
  (bd (bS "Sheet" "add" aN (ab (ae 0)) (aT (t8 (aT (ab !"call") (aT (ab (ae 3)) (aT (bC (gy "Sheet" "slots" (ab (ae 0))) (ab 1[2]!)) (aT (ab (ae 4)) (aT (ab (tH jR 1[4]!)) (aT (ab (aB #[!"def",1[3]!])) fw))))))) fw)))
  (dm (ab (au bw (ar 2) !"return"))
  (aA (bd (bS "Sheet" "add" aN (ab (ae 0)) (ab #[aB #[!"copy",ae 3,!0,ae 4]])))
 (bd (bS "Sheet" "add" aN (ab (ae 0)) (aT (t8 (aT (ab !"jump") (aT (ab (ae 3)) (aT (t8 (aT (ab !"last") (aT (gy "Sheet" "name" (ab (ae 0))) fw))) fw)))) fw))))
  (dm (ab (au bw (ar 2) !"join"))
  (bd (bS "Sheet" "add" aN (ab (ae 0)) (aT (t8 (aT (ab !"join") (aT (ab (ae 3)) (aT (bC (gy "Sheet" "slots" (ab (ae 0))) (ab 1[2]!)) (aT (ab 1[3]!) (aT (ab (ae 4)) fw)))))) fw)))
  (bd (bS "Sheet" "add" aN (ab (ae 0)) (ab #[aB #[ae 2,ae 3]]))))))))))))
noncomputable def fG:DS->aq->SO:=(bd (cy (b6 9) (ab #[ae 0,ae 4,ae 6,ae 5])))
noncomputable def eR:List W->aq->SM W:=bJ 3 7
 (aA (aJ (aD 1[0]! (af 3)))
 (aA (aJ (aD 1[1]! (af 4)))
 (aA (bd (bS "Sheet" "lay" cO (ab (ae 0)) (ab #[aB #[!"tick",ae 4]])))
 (aA (bd (bS "Sheet" "add" aN (ab (ae 0)) (ab #[aB #[!"tick",ae 4]])))
 (aA (dE (oF (ab #[aV cg #[ae 1]]) (bS "Sheet" "free" cT (ab (ae 0)) (ab ah))) (dy 2 (aQ (af 5) (aQ (af 6) dJ))) fG)
 (dm (ab (au bw (ar 3) !"if"))
  (aJ lj)
  (dm (ab (au bw (ar 3) !"while"))
  (aJ lj)
  (dm (ab (au bw (ar 3) !"break"))
  (bd (bS "Sheet" "add" aN (ab (ae 0)) (ab #[aB #[!"jump",ae 4,aB #[!"behind",ae 2]]])))
  (dm (ab (au bw (ar 3) !"again"))
  (bd (bS "Sheet" "add" aN (ab (ae 0)) (ab #[aB #[!"jump",ae 4,aB #[!"tick",ae 2]]])))
  (bd (cy jC (ab #[ae 0,ae 1]))))))))))))
noncomputable def jX:DS->aq->SO:=(bd (cy eR (ab #[ae 0,ae 3,ae 2])))
noncomputable def jy:List W->aq->SM W:=bJ 3 4
 (dE (ab (bm (ae 1))) (af 3) jX)
noncomputable def vT:DS->aq->SO:=(aA (bd (bS "Sheet" "begin" gR (ab (ae 1)) (aT (ab (ae 3)) (aT (cy kJ (ab #[ae 4,ae 5])) fw))))
 (aA (bd (cy jy (ab #[ae 1,ae 5,dC .none])))
 (aA (bd (bS "Sheet" "lay" cO (ab (ae 1)) (ab #[aB #[!"last",ae 3]])))
 (bd (bS "Sheet" "add" aN (ab (ae 1)) (ab #[aB #[!"back",ae 7]]))))))
noncomputable def uq:List W->aq->SM W:=bJ 1 8
 (aA (cr (yV "Sheet" eM (ab ah)) (af 1))
 (aA (aJ (aD (ao bI (be (ku [none] (bm (ar 0)) (af 0) (au bw 0[0]! !"main") (ae 0))) (be (ku [none] (bm (ar 0)) (af 0) (au yH 0[0]! !"main") (ae 0)))) (af 2)))
 (aA (dE (ab (bm (ae 2))) (dy 5 (aQ (af 3) (aQ (af 4) (aQ (af 5) (aQ (af 6) (aQ (af 7) dJ)))))) vT)
 (iX (kM 9000 [some 1,none] (wV (gy "Sheet" "rows" (ab (ae 1)))) (af 1) (ab zQ) (cy gY (aT (ab (ae 1)) (aT (gy "Sheet" "spots" (ab (ae 0))) fw))))))))
noncomputable def jH:List W->Option W:=b7 2 3
 (ak (aD (ao aO (ar 0) (ae 1)) (af 2))
 (ak (bg (au bw 2[0]! !"back")
  (az (be (aZ ah)))
  av)
 (ak (bg (au bw 2[0]! !"jump")
  (az (be (aZ #[2[2]!])))
  av)
 (ak (bg (au bw 2[0]! !"split")
  (az (be (Qe (be (aZ #[ao bI (ar 1) !1,2[3]!])))))
  av)
 (az (be (aZ #[ao bI (ar 1) !1])))))))
noncomputable def gK:List W->Option W:=b7 2 2
 (ak (bg (gT (au bw 0[0]! !"lane") (au bw 1[0]! !"num"))
  (az (aB #[!"lane",1[1]!]))
  av)
 (ak (bg (gT (au bw 0[0]! !"num") (au bw 1[0]! !"lane"))
  (az (aB #[!"lane",0[1]!]))
  av)
 (az (aB #[!"any",!0]))))
noncomputable def il:List W->Option W:=b7 1 1
 (ak (bg (au bw 0[0]! !"num")
  (az (aB #[!"fixed",0[1]!]))
  av)
 (ak (bg (au bw 0[0]! !"lane")
  (az (aB #[!"lane",!0]))
  av)
 (ak (bg (au bw 0[0]! !"+")
  (az (aV gK #[0[1]!,0[2]!]))
  av)
 (az (aB #[!"any",!0])))))
noncomputable def i9:List W->Option W:=b7 2 2
 (ak (bg (gT (au bw 0[0]! !"fixed") (au bw 1[0]! !"fixed"))
  (az (dB (au bw 0[1]! 1[1]!)))
  av)
 (ak (bg (gT (au bw 0[0]! !"lane") (au bw 1[0]! !"lane"))
  (az (dB (au yH 0[1]! 1[1]!)))
  av)
 (az (dC (.bool true)))))
noncomputable def kz:DS->Option eI:=(bg (my (aV i9 #[ae 2,ae 3]))
 (az (dC (.bool true)))
 av)
noncomputable def ke:DS->Option eI:=(d5 (bm (ae 1)) (af 3) kz)
noncomputable def dG:List W->Option W:=b7 2 4
 (ak (d5 (bm (ae 0)) (af 2) ke)
 (az (dC (.bool false))))
noncomputable def c9 (pf:List W->Option W):DS->Option eI:=(fB 1 (aV pf #[ae 2]))
noncomputable def br:Nat->List W->Option W
 | 0,_=>none
 | n+1,ds=>b7 1 3
  (ak (bg (gT (au yH 0[0]! !"box") (au iD 0[0]! (dC (.tuple [.str "+", .str "-", .str "*", .str "div", .str "rem", .str "<", .str "="]))))
   (az (be (aZ ah)))
   av)
  (ak (fj 1 (EH (au bw 0[0]! !"box") (aZ #[0[1]!]) (aZ ah)))
  (ak (d5 (bm (jG (ae 0) (d8 !1) cw)) (af 2) (c9 (br n)))
  (jD 1 (az (ae 1)))))) ds
noncomputable def fc:DS->aq->SO:=(bW (ab (ae 1)) (ab (aV il #[ae 3])) (ab (dC (.bool true))))
noncomputable def kb:DS->aq->SO:=(dE (ab (bm (aV (br 9) #[ae 2]))) (af 3) fc)
noncomputable def gj:List W->aq->SM W:=bJ 1 4
 (aA (cr Mc (af 1))
 (aA (dE (ab (bm (aV cg #[ae 0]))) (af 2) kb)
 (iX (wS (ab (ae 1))))))
noncomputable def bO:DS->aq->SO:=(dm (ab (au bw 4[0]! !"tick"))
 (bW (ab (ae 2)) (ab 4[1]!) (kB (ab (ae 1)) (ab (ae 3)) (ab !0)))
 (aJ av))
noncomputable def iP:List W->aq->SM W:=bJ 2 5
 (aA (cr A5 (af 2))
 (aA (dE (ab (kr #[ae 0])) (dy 2 (aQ (af 3) (aQ (af 4) dJ))) bO)
 (aJ (az (ae 2)))))
noncomputable def cR:DS->aq->SO:=(aA (cr (Ga (ab (ae 4))) (af 5))
 (aA (cr (kB (ab (ae 0)) (ab (ae 5)) (ab !0)) (af 6))
 (dm (ab (au bw (ao wq (ar 6) (ae 3)) !0))
  (aA (bW (ab (ae 0)) (ab (ae 5)) (ab (ao Pl (ar 6) (ae 3))))
 (qv (ab (ae 4)) (bC (ab (ae 1)) (ab (ae 5)))))
  (aJ av))))
noncomputable def fR:List W->aq->SM W:=bJ 4 7
 (aA (cr (wt (ab #[ae 2])) (af 4))
 (cB (sk (ab (ae 4))) cR 1000000))
noncomputable def iK:List W->aq->SM W:=bJ 3 4
 (aA (aJ (aD (ao aO (ao aO (ar 0) (ae 1)) !0) (af 3)))
 (aA (aJ (bg (au fY (ar 3) (aB #[!"meet",!"join"]))
  (az (be (aZ ah)))
  av))
 (aA (aJ (bg (au bw (ar 3) !"call")
  (az (be (aZ #[ao aO (ao aO (ar 0) (ae 1)) !5])))
  av))
 (aA (dm (ab (au bw (ar 3) !"back"))
  (iX (kB (ab (ae 2)) (ab (ae 1)) (ab (be (aZ ah)))))
  (aJ av))
 (aJ (az (aV jH #[ae 0,ae 1])))))))
noncomputable def eG:DS->aq->SO:=(dm (ab (au bw 4[0]! !"back"))
 (aA (bW (ab (ae 1)) (ab (ae 2)) (ab (ae 3)))
 (aJ (aD (ao bI (ar 3) !1) (af 2))))
  (aJ av))
noncomputable def eJ:DS->aq->SO:=(dm (ab (au bw 4[0]! !"call"))
 (aJ lj)
 (aJ av))
noncomputable def db:List W->aq->SM W:=bJ 1 6
 (aA (cr A5 (af 1))
 (aA (aJ (aD (!0) (af 2)))
 (aA (dE (ab (kr #[ae 0])) (dy 2 (aQ (af 3) (aQ (af 4) dJ))) eG)
 (aA (cr A5 (af 5))
 (aA (dE (ab (kr #[ae 0])) (dy 2 (aQ (af 3) (aQ (af 4) dJ))) eJ)
 (aJ (az (ae 5))))))))
noncomputable def cx:DS->aq->SO:=(aA (aJ (bg (au fY 5[0]! (aB #[!"tick",!"jump",!"back"]))
 (aD (ae 4) (af 3))
 av))
 (bW (ab (ae 2)) (ab (ae 3)) (cy iK (ab #[ae 0,ae 4,ae 1]))))
noncomputable def kI:List W->aq->SM W:=bJ 1 6
 (aA (cr (cy db (ab #[ae 0])) (af 1))
 (aA (cr A5 (af 2))
 (aA (aJ (aD (!0) (af 3)))
 (aA (dE (ab (kr #[ae 0])) (dy 2 (aQ (af 4) (aQ (af 5) dJ))) cx)
 (aJ (az (ae 2)))))))
noncomputable def cf:DS->aq->SO:=(bd (cy fR (ab #[ae 2,ae 1,ae 4,ao Kk (!1) (ae 3)])))
noncomputable def dX:List W->aq->SM W:=bJ 1 5
 (aA (cr (cy kI (ab #[ae 0])) (af 1))
 (aA (cr A5 (af 2))
 (aA (dE (ab (kr #[ao bI (be (aZ #[!0])) (be (ku [none,none] (kr #[ae 0]) (dy 2 (aQ (af 0) (aQ (af 1) dJ))) (au fY 1[0]! (aB #[!"meet",!"join"])) (ao bI (ar 0) !1)))])) (dy 2 (aQ (af 3) (aQ (af 4) dJ))) cf)
 (iX (cy iP (ab #[ae 0,ae 2]))))))
noncomputable def mE:DS->aq->SO:=(aA (bW (ab (ae 1)) (ab 8[1]!) (cy gj (ab #[ae 8])))
 (bW (ab (ae 2)) (ab 8[1]!) (ab (Fk (au bw 8[0]! !"put") (be (aZ #[aV il #[8[2]!]])) (be (aZ ah))))))
noncomputable def zI:DS->aq->SO:=(dE (ab (bm (pJ (fU 8) #[ae 5]))) (dy 2 (aQ (af 8) (aQ (af 9) dJ))) mE)
noncomputable def mL:DS->aq->SO:=(aA (cr (CA (gP dG (aT (bC (ab (ae 2)) (ab (ae 14))) (aT (AS bI (bC (ab (ae 1)) (ab (ae 15))) (bC (ab (ae 2)) (ab (ae 15)))) fw))) (gP dG (aT (bC (ab (ae 2)) (ab (ae 15))) (aT (bC (ab (ae 1)) (ab (ae 14))) fw)))) (af 16))
 (dm (vy (ab (my (ae 16))) (MS true (AS wq (bC (ab (ae 10)) (ab (ae 14))) (bC (ab (ae 10)) (ab (ae 15)))) (ab !0)))
  (aJ (bF 12 (aB #[ae 14,ae 15])))
  (aJ av)))
noncomputable def si:DS->aq->SO:=(dE (ab (bm (be (ve (ar 11) (d8 (ae 13)) cw)))) (af 15) mL)
noncomputable def tS:List W->aq->SM W:=bJ 1 17
 (aA (cr A5 (af 1))
 (aA (cr A5 (af 2))
 (aA (dE (ab (bm (ae 0))) (dy 5 (aQ (af 3) (aQ (af 4) (aQ (af 5) (aQ (af 6) (aQ (af 7) dJ)))))) zI)
 (aA (cr (cy dX (aT (cy uq (ab #[ae 0])) fw)) (af 10))
 (aA (cr (N8 yw (kM 9000 [some 1,some 2,none] (oH (ab (ae 1))) (af 2) (Ll (jp (bC (ab (ae 0)) (ab (ae 2)))) (jp (bC (ab (ae 1)) (ab (ae 2))))) (ab (ae 2)))) (af 11))
 (aA (aJ (fj 12 (aZ ah)))
 (aA (dE (ab (kr #[ae 11])) (dy 2 (aQ (af 13) (aQ (af 14) dJ))) si)
 (aJ (jD 12 (az (ae 12)))))))))))
noncomputable def iM:List W->Option W:=b7 1 1
 (az (Dc (tH (rp "int") (ae 0)) (CJ (tH (rp "bool") (ae 0)))))
noncomputable def cj:List W->Option W:=b7 2 2
 (ak (bg (au rj (ar 1) (tH jR (ar 0)))
  (az (ao aO (ar 0) (ae 1)))
  av)
 (az !0))
noncomputable def cA:List W->Option W:=b7 2 4
 (ak (aD (ao bI (ao AF (!10) !30) !57) (af 2))
 (ak (aD (ao ot (ao bq (ar 0) (ae 2)) !271828182845904523536028747135) (af 3))
 (ak (aD (ao bI (ar 3) (ao ot (ao ot (ar 1) (ae 1)) !314159265358979323846264338327)) (af 3))
 (az (ao bq (ao bI (ar 3) !577215664901532860606512090082) (ae 2))))))
noncomputable def fQ:DS->Option eI:=(ak (aD (ao bI (ar 6) (ao aO (ar 1) (ao bq (ar 5) !26))) (af 6))
 (aD (ao bL (ar 5) !26) (af 5)))
noncomputable def fJ:DS->Option eI:=(ak (aD (ao aO (ar 1) (ao bq (ao bI (ar 5) (ao ot (!5) (ae 7))) !26)) (af 9))
 (ak (aD (ao bI (ao bI (tY (ae 6) cw (d8 (ae 4))) (ae 9)) (tY (ae 6) (d8 (ao bI (ar 4) !1)) (d8 (ae 3)))) (af 10))
 (ak (bg (au bw (ao bq (ao bL (ar 5) !26) !4) !1)
  (aD (tY (ae 6) cw (d8 (ao gSub' (!8) (ae 7)))) (af 10))
  av)
 (ak (bg (qV (au fY (ar 10) (ar 2)) (au bw (ar 10) !"main"))
  (aD (ao vf (!"q") (tH jR (ar 10))) (af 10))
  av)
 (bF 8 (ae 10))))))
noncomputable def i8:List W->Option W:=b7 1 11
 (ak (aD (!"abcdefghijklmnopqrstuvwxyz") (af 1))
 (ak (aD (be (aZ #[!"def",!"set",!"put",!"tell",!"if",!"else",!"while",!"end",!"break",!"again",!"call",!"return"])) (af 2))
 (ak (aD (ao bI (ar 2) (be (aZ #[!"stop",!"join",!"meet",!"lane",!"lanes",!"mine",!"box",!"div",!"rem",!"sum",!"most"]))) (af 2))
 (ak (aD (ao bI (ar 2) (be (aZ #[!"least",!"ahead"]))) (af 2))
 (ak (aD (ao bI (!1) (ao bq (ar 0) !8)) (af 3))
 (ak (aD (ao bq (ao bL (ar 0) !8) (ae 3)) (af 4))
 (ak (aD (ao bL (ar 0) !64) (af 5))
 (ak (aD (!"") (af 6))
 (ak (d5 (rH #[!8]) (af 7) fQ)
 (ak (fj 8 (aZ ah))
 (ak (d5 (rH #[!6]) (af 7) fJ)
 (jD 8 (az (ae 8))))))))))))))
noncomputable def cY:List W->Option W:=b7 2 9
 (ak (aD (ao bq (ar 0) !13) (af 2))
 (ak (aD (ao bL (ar 0) !13) (af 3))
 (ak (aD (aB #[!"num",ao aO (be (aZ #[ao bq (ao bL (ar 3) !3) !5,ao gSub' (ao bq (ao bL (ar 3) !3) !5) !2,ao gSub' (ao bq (ao bL (ar 3) !3) !1999999999) !999999999])) (ao bq (ar 3) !3)]) (af 4))
 (ak (aD (aB #[!"lane"]) (af 5))
 (ak (aD (aB #[!"name",ao aO (ar 1) (ao bq (ar 3) !6)]) (af 6))
 (ak (bg (au rj (ar 2) !2)
  (az (ae 4))
  av)
 (ak (bg (au rj (ar 2) !4)
  (az (ae 5))
  av)
 (ak (bg (au rj (ar 2) !6)
  (az (ao aO (be (aZ #[aB #[!"+",ae 5,ae 4],aB #[!"+",ae 4,ae 5]])) (ao gSub' (ar 2) !4)))
  av)
 (ak (bg (au bw (ar 2) !6)
  (az (aB #[ao aO (be (aZ #[!"-",!"*",!"div",!"rem",!"<",!"="])) (ao bq (ao bL (ar 3) !60) !6),ae 5,ae 4]))
  av)
 (ak (aD (ao aO (be (aZ #[ae 6,aB #[!"mine"],aB #[!"lanes"],aB #[!"num",ao gSub' (ao bq (ao bL (ar 3) !7) !9) !4],aB #[!"box",ae 5],aB #[!"+",ae 5,ae 4]])) (ao bq (ao bL (ar 3) !90) !6)) (af 7))
 (ak (bg (au bw (ar 2) !7)
  (az (ao aO (be (aZ #[aB #[!"+",ae 7,ae 4],aB #[!"+",ae 4,ae 7]])) (ao bq (ao bL (ar 3) !540) !2)))
  av)
 (ak (bg (au bw (ar 2) !8)
  (az (aB #[!"box",ao aO (be (aZ #[ae 4,ae 5,aB #[!"+",ae 5,ae 4],aB #[!"+",ae 6,ae 4],aB #[!"*",ae 5,ae 4]])) (ao bq (ao bL (ar 3) !90) !5)]))
  av)
 (ak (aD (ao aO (be (aZ #[ae 4,ae 5,ae 6,aB #[!"mine"]])) (ao bq (ao bL (ar 3) !15) !4)) (af 8))
 (az (ao aO (be (aZ #[ae 6,aB #[!"+",ae 5,ae 8],aB #[!"box",ae 5],aB #[!"+",ae 8,ae 5]])) (ao gSub' (ar 2) !9))))))))))))))))
noncomputable def gg:List W->Option W:=b7 1 2
 (ak (aD (aB #[!"lane"]) (af 1))
 (ak (bg (au bw 0[0]! !"num")
  (az (aB #[!"fixed",0[1]!]))
  av)
 (ak (bg (au bw (ar 0) (ar 1))
  (az (aB #[!"lane",!0]))
  av)
 (ak (bg (gT (au bw 0[0]! !"+") (gT (au bw 0[1]! (ar 1)) (au bw (ao aO 0[2]! !0) !"num")))
  (az (aB #[!"lane",ao aO 0[2]! !1]))
  av)
 (ak (bg (gT (au bw 0[0]! !"+") (gT (au bw 0[2]! (ar 1)) (au bw (ao aO 0[1]! !0) !"num")))
  (az (aB #[!"lane",ao aO 0[1]! !1]))
  av)
 (az (aB #[!"any",!0])))))))
noncomputable def dZ:List W->Option W:=b7 2 2
 (ak (bg (gT (au bw 0[0]! !"fixed") (au bw 1[0]! !"fixed"))
  (az (dB (au bw 0[1]! 1[1]!)))
  av)
 (ak (bg (gT (au bw 0[0]! !"lane") (au bw 1[0]! !"lane"))
  (az (dB (au yH 0[1]! 1[1]!)))
  av)
 (az (dC (.bool true)))))
noncomputable def jv:DS->Option eI:=(bg (gT (qV (au bw 3[0]! !"put") (au bw 4[0]! !"put")) (my (aV dZ #[3[2]!,4[2]!])))
 (bF 1 (aB #[L3 zf #[3[1]!,4[1]!],L3 yo #[3[1]!,4[1]!]]))
 av)
noncomputable def jx:DS->Option eI:=(d5 (bm (be (ve (ar 0) (d8 (ae 2)) cw))) (af 4) jv)
noncomputable def iR:List W->Option W:=b7 1 5
 (ak (fj 1 (aZ ah))
 (ak (d5 (kr #[ae 0]) (dy 2 (aQ (af 2) (aQ (af 3) dJ))) jx)
 (jD 1 (az (ae 1)))))
noncomputable def fz:DS->Option eI:=(bg (qV (Ac (my (tH (qo "tuple") (ae 2)))) (qV (Ac (my (aV iM #[2[0]!]))) (Ac (my (aV iM #[2[1]!])))))
 (az (dC (.bool false)))
 av)
noncomputable def cE:List W->Option W:=b7 2 3
 (ak (bg (qV (Ac (my (tH (qo "list") (ae 0)))) (au yH (ar 0) (ar 1)))
  (az (dC (.bool false)))
  av)
 (ak (d5 (bm (ae 0)) (af 2) fz)
 (az (dC (.bool true)))))
noncomputable def iU:DS->Option eI:=(aD (ao aO (be (aZ #[aB #[ae 4,ae 5,ae 7],aB #[ae 4,ae 7,ae 5]])) (ao wq (ao Fw (ao bL (ar 3) !630) (ae 8)) !1)) (af 7))
noncomputable def c8:List W->Option W:=b7 2 9
 (ak (aD (ao bq (ar 0) !10) (af 2))
 (ak (aD (ao bL (ar 0) !10) (af 3))
 (ak (bg (au rj (ar 2) !2)
  (az (aB #[!"num",ao gSub' (ao bq (ar 3) !1999999999) !999999999]))
  av)
 (ak (bg (au rj (ar 2) !4)
  (az (ao aO (be (aZ #[aB #[!"lane"],aB #[!"mine"],aB #[!"lanes"],aB #[!"name",ao aO (ar 1) (ao bq (ao bL (ar 3) !4) !6)]])) (ao bq (ar 3) !4)))
  av)
 (ak (bg (au rj (ar 2) !6)
  (az (aB #[!"box",aV cY #[ae 3,ae 1]]))
  av)
 (ak (aD (ao aO (be (aZ #[!"+",!"-",!"*",!"div",!"rem",!"<",!"="])) (ao bq (ar 3) !7)) (af 4))
 (ak (aD (ao aO (be (aZ #[aB #[!"num",ao gSub' (ao bq (ao bL (ar 3) !14) !9) !4],aB #[!"name",ao aO (ar 1) (ao bq (ao bL (ar 3) !14) !6)]])) (ao bq (ao bL (ar 3) !7) !2)) (af 5))
 (ak (aD (aB #[!"box",aV cY #[ao bL (ar 3) !126,ae 1]]) (af 6))
 (ak (bg (au bw (ar 2) !6)
  (az (aB #[ae 4,ae 5,ae 6]))
  av)
 (ak (bg (au bw (ar 2) !7)
  (az (aB #[ae 4,ae 6,ae 5]))
  av)
 (ak (bg (au bw (ar 2) !8)
  (az (aB #[ae 4,aB #[ae 4,ae 5,ae 6],aB #[!"box",ae 5]]))
  av)
 (ak (bg (au bw (ao bq (ao bL (ar 3) !9) !2) !0)
  (az (aB #[ae 4,ae 5,aB #[ao aO (be (aZ #[!"+",!"-",!"*"])) (ao bq (ao bL (ar 3) !3) !3),ae 6,aB #[!"lane"]]]))
  av)
 (ak (aD (aB #[!"box",ao aO (be (aZ #[aB #[!"lane"],aB #[!"name",ao aO (ar 1) (ao bq (ao bL (ar 3) !90) !6)],aB #[!"num",ao bq (ao bL (ar 3) !90) !33]])) (ao bq (ao bL (ar 3) !18) !3)]) (af 7))
 (ak (d5 (rH #[ao bI (!1) (ao bq (ao bL (ar 3) !126) !5)]) (af 8) iU)
 (az (ae 7))))))))))))))))
noncomputable def eQ:List W->Option W:=b7 3 6
 (ak (aD (ao bq (ar 1) !12) (af 3))
 (ak (aD (ao aO (ar 2) (ao bq (ao bL (ar 1) !12) !6)) (af 4))
 (ak (aD (ao bL (ar 1) !72) (af 5))
 (ak (bg (au rj (ar 3) !5)
  (az (aB #[!"put",ae 0,aV cY #[ao bq (ar 5) (ao AF (!10) !12),ae 2],aV c8 #[ao bL (ar 5) (ao AF (!10) !12),ae 2]]))
  av)
 (ak (bg (au rj (ar 3) !7)
  (az (aB #[!"tell",ae 0,aV c8 #[ae 5,ae 2]]))
  av)
 (ak (bg (au rj (ar 3) !9)
  (az (aB #[!"set",ae 0,ae 4,aV c8 #[ae 5,ae 2]]))
  av)
 (ak (bg (au bw (ar 3) !9)
  (az (aB #[!"join",ae 0,ae 4,ao aO (be (aZ #[!"sum",!"most",!"least",!"ahead"])) (ao bq (ar 5) !4),aV c8 #[ao bL (ar 5) !4,ae 2]]))
  av)
 (az (aB #[ao aO (be (aZ #[!"meet",!"stop"])) (ao gSub' (ar 3) !10),ae 0])))))))))
noncomputable def c6 (pf:List W->Option W):DS->Option eI:=(fj 1 (yg (ar 1) (aV pf #[ae 2])))
noncomputable def bu:Nat->List W->Option W
 | 0,_=>none
 | n+1,ds=>b7 1 3
  (ak (fj 1 (aZ ah))
  (ak (bg (gT (au yH 0[0]! !"num") (au yH 0[0]! !"name"))
   (d5 (bm (jG (ae 0) (d8 !1) cw)) (af 2) (c6 (bu n)))
   av)
  (ak (bg (au bw 0[0]! !"box")
   (bF 1 (aV gg #[0[1]!]))
   av)
  (jD 1 (az (ae 1)))))) ds
noncomputable def ig:DS->Option eI:=(bg (my (tH (qo "tuple") (ae 2)))
 (aD (ao bI (ar 1) (aV (bu 9) #[ae 2])) (af 1))
 av)
noncomputable def eA:List W->Option W:=b7 1 4
 (ak (aD (be (aZ ah)) (af 1))
 (ak (d5 (bm (jG (ae 0) (d8 !2) cw)) (af 2) ig)
 (ak (fj 3 (ku [some 0,none] (bm (ar 1)) (af 1) zQ (aB #[!"get",0[1]!,ae 1])))
 (ak (bg (au bw 0[0]! !"put")
  (bF 3 (aB #[!"put",0[1]!,aV gg #[0[2]!]]))
  av)
 (jD 3 (az (ae 3)))))))
noncomputable def uw:DS->Option eI:=(bF 2 (aV eQ #[ao bI (tH jR (ar 2)) !2,aV cA #[ae 3,ao bI (tH jR (ar 2)) !1],ae 1]))
noncomputable def oK:DS->aq->SO:=(bW (ab (ae 4)) (ab (ae 7)) (ab (dC (.bool true))))
noncomputable def uC:DS->aq->SO:=(aA (aJ (aD (ao bI (ar 5) (aV eA #[ae 6])) (af 5)))
 (dm (ab (qV (au bw 6[0]! !"join") (au bw 6[0]! !"meet")))
  (aA (dE (ab (bm (aV iR #[ae 5]))) (af 7) oK)
 (aJ (aD (be (aZ ah)) (af 5))))
  (aJ av)))
noncomputable def Dm:List W->aq->SM W:=bJ 1 10
 (aA (aJ (aD (aV i8 #[aV cA #[aV cj #[ae 0,!0],!0]]) (af 1)))
 (aA (aJ (fj 2 (aZ ah)))
 (aA (aJ (d5 (bm (be (ve (ar 0) (d8 !1) (d8 !63)))) (af 3) uw))
 (aA (cr Mc (af 4))
 (aA (aJ (aD (be (aZ ah)) (af 5)))
 (aA (dE (ab (bm (ao bI (ar 2) (be (aZ #[aB #[!"meet",!0]]))))) (af 6) uC)
 (aA (aJ (aD (be (aZ #[aB #[!"main",be (aZ ah),be (oI (ar 2)),!1,ao bI (tH jR (ar 2)) !2]])) (af 8)))
 (aA (cr (cy tS (ab #[ae 8])) (af 9))
 (Bd 2 (iX (y8 (gP cE (aT (ab (ae 9)) (aT (mB (ab (ae 4))) fw))) (ab (dB (au bw (ar 8) (be (aZ #[aB #[!"main",be (aZ ah),ae 2,!1,ao bI (tH jR (ar 2)) !2]]))))))))))))))))
noncomputable def tR (K:Frag):Sp:=λ vs H Q _=>∃ (a:Addr) (ns:List Int),vs=[.ref a]/\cG K H a (ns.map V.int)/\ns.length<=63/\∀ H',Q (.bl true) H'
noncomputable abbrev eY (K:Frag) (mg:Str->Option Value) (cl:Str->Addr):Prop:=mg "Sheet" = some (.ref (cl "Sheet"))/\Ap K (cl "Sheet")/\NoAttr K (cl "Sheet") "rows" /\ NoAttr K (cl "Sheet") "spots" /\ NoAttr K (cl "Sheet") "name" /\ NoAttr K (cl "Sheet") "slots"
section
variable (P:Program) (w:World) (K:Frag) (mg:Str->Option Value) (base:Heap) (cl:Str->Addr)
noncomputable abbrev n5:Prop:=io P w K mg base "bodies_of" ["statement"] [] 1 (iV K j0)
noncomputable abbrev qD:Prop:=io P w K mg base "placed" ["body", "around"] [.none] 9 (iV K (fU 8))
noncomputable abbrev cV:Prop:=io P w K mg base "expressions_of" ["statement"] [] 1 (iV K cg)
noncomputable abbrev pI:Prop:=io P w K mg base "given_by" ["statement"] [] 1 (iV K iG)
noncomputable abbrev ni:Prop:=io P w K mg base "leaves_of" ["expression"] [] 9 (iV K (bt 9))
noncomputable abbrev hX:Prop:=Ce (λ f fd=>Mk K (cl "Sheet") f/\cP K fd ["self"] []) P w K mg base 1 ["self"] (k8 K cl eM)
noncomputable abbrev gC:Prop:=Ce (λ f fd=>oj K (cl "Sheet") "lay" f/\cP K fd ["self", "key"] []) P w K mg base 1 ["self", "key"] (k8 K cl cO)
noncomputable abbrev km:Prop:=Ce (λ f fd=>oj K (cl "Sheet") "begin" f/\cP K fd ["self", "name", "slots"] []) P w K mg base 2 ["self", "name", "slots"] (k8 K cl gR)
noncomputable abbrev fh:Prop:=Ce (λ f fd=>oj K (cl "Sheet") "add" f/\cP K fd ["self", "row"] []) P w K mg base 1 ["self", "row"] (k8 K cl aN)
noncomputable abbrev iu:Prop:=Ce (λ f fd=>oj K (cl "Sheet") "free" f/\cP K fd ["self"] []) P w K mg base 1 ["self"] (k8 K cl cT)
noncomputable abbrev sO:Prop:=io P w K mg base "settled" ["row", "spots"] [] 1 (k8 K cl gY)
noncomputable abbrev j9:Prop:=io P w K mg base "names_within" ["body"] [] 10 (iV K e9)
noncomputable abbrev oZ:Prop:=io P w K mg base "slots_of" ["params", "body"] [] 11 (k8 K cl kJ)
noncomputable abbrev gE:Prop:=io P w K mg base "make_expression" ["sheet", "line", "expression", "at"] [] 10 (k8 K cl (b6 9))
noncomputable abbrev nX:Prop:=io P w K mg base "make_rest" ["sheet", "statement"] [] 2 (k8 K cl jC)
noncomputable abbrev ic:Prop:=io P w K mg base "make_statement" ["sheet", "statement", "loop"] [] 11 (k8 K cl eR)
noncomputable abbrev oa:Prop:=io P w K mg base "make_body" ["sheet", "body", "loop"] [] 12 (k8 K cl jy)
noncomputable abbrev CK:Prop:=io P w K mg base "made" ["program"] [] 13 (k8 K cl uq)
noncomputable abbrev nh:Prop:=io P w K mg base "next_rows" ["rows", "k"] [] 1 (iV K jH)
noncomputable abbrev kj:Prop:=io P w K mg base "form_of_sum" ["one", "other"] [] 1 (iV K gK)
noncomputable abbrev mJ:Prop:=io P w K mg base "form_of" ["expression"] [] 2 (iV K il)
noncomputable abbrev oY:Prop:=io P w K mg base "may_meet" ["one", "other"] [] 1 (iV K i9)
noncomputable abbrev ny:Prop:=io P w K mg base "may_touch" ["puts", "touches"] [] 2 (iV K dG)
noncomputable abbrev mY:Prop:=io P w K mg base "places_in" ["expression"] [] 9 (iV K (br 9))
noncomputable abbrev n8:Prop:=io P w K mg base "forms_got" ["statement"] [] 10 (k8 K cl gj)
noncomputable abbrev lL:Prop:=io P w K mg base "line_masks" ["rows", "masks"] [] 1 (k8 K cl iP)
noncomputable abbrev jw:Prop:=io P w K mg base "mark_reached" ["masks", "flows", "start", "bit"] [] 1 (k8 K cl fR)
noncomputable abbrev kR:Prop:=io P w K mg base "phase_rows" ["rows", "k", "calls"] [] 2 (k8 K cl iK)
noncomputable abbrev f7:Prop:=io P w K mg base "rows_behind_calls" ["rows"] [] 1 (k8 K cl db)
noncomputable abbrev q5:Prop:=io P w K mg base "flows_of" ["rows"] [] 3 (k8 K cl kI)
noncomputable abbrev g7:Prop:=io P w K mg base "starts_of_lines" ["rows"] [] 4 (k8 K cl dX)
noncomputable abbrev yC:Prop:=io P w K mg base "could" ["program"] [] 14 (k8 K cl tS)
noncomputable abbrev lK:Prop:=io P w K mg base "_law_whole" ["_law_found"] [] 1 (iV K iM)
noncomputable abbrev js:Prop:=io P w K mg base "_law_cell_at" ["_law_script", "_law_k"] [] 1 (iV K cj)
noncomputable abbrev jU:Prop:=io P w K mg base "_law_spread" ["_law_cell", "_law_k"] [] 1 (iV K cA)
noncomputable abbrev lX:Prop:=io P w K mg base "_law_names" ["_law_number"] [] 1 (iV K i8)
noncomputable abbrev iE:Prop:=io P w K mg base "_law_place" ["_law_number", "_law_names_here"] [] 1 (iV K cY)
noncomputable abbrev jE:Prop:=io P w K mg base "_law_form" ["_law_told"] [] 1 (iV K gg)
noncomputable abbrev jn:Prop:=io P w K mg base "_law_one_box" ["_law_one", "_law_other"] [] 1 (iV K dZ)
noncomputable abbrev l8:Prop:=io P w K mg base "_law_pairs" ["_law_touches_here"] [] 2 (iV K iR)
noncomputable abbrev g9:Prop:=io P w K mg base "_law_pairs_told" ["_law_found", "_law_due"] [] 2 (iV K cE)
noncomputable abbrev jW:Prop:=io P w K mg base "_law_simple" ["_law_number", "_law_names_here"] [] 2 (iV K c8)
noncomputable abbrev ii:Prop:=io P w K mg base "_law_statement" ["_law_line", "_law_number", "_law_names_here"] [] 3 (iV K eQ)
noncomputable abbrev n9:Prop:=io P w K mg base "_law_gets" ["_law_told"] [] 10 (iV K (bu 9))
noncomputable abbrev jz:Prop:=io P w K mg base "_law_touches" ["_law_deed"] [] 11 (iV K eA)
end
def rlX (s:String) (t:Lean.TSyntax `tactic):Lean.MacroM (Lean.TSyntax `tactic):=do
 let z (a:List (Lean.TSyntax `tactic)):Lean.MacroM (Lean.TSyntax `tactic):=do
  let a <-a.toArray.mapM λ a=>`(tactic| case $(Lean.mkIdent `zz):ident=>$a:tactic)
  `(tactic| first $[| ($a:tactic)]*)
 let F (l:List (Lean.TSyntax `tactic)):=do z (<-(List.range ((l.length+5) / 6)).mapM λ i=>z ((l.drop (6*i)).take 6))
 let r <-(s.splitOn ";").mapM λ g=>do
  let l:=g.splitOn " ";let u <-l.tail.mapM λ n=>do
   let q:=n.splitOn ":";let i:=Lean.mkIdent ((if n.front.isDigit||n.front=='<' then n.drop 1 else q.head!).toName);let a <-if n.front.isDigit||n.front=='<' then pure (Array.replicate (n.front.toNat-48) (<- `(?_))) else (q.getLast!.toList.toArray.mapM λ c=>if c=='r' then `(rfl) else if c=='a' then `(by assumption) else if c=='d' then `(by first | decide | exact Nat.le_refl _ | exact Nat.le_add_right _ _ | omega) else if c=='k' then `(by decide +kernel) else `(?_))
   if q.tail.isEmpty && !n.front.isDigit&&n.front != '<' then `(tactic| apply $i) else `(tactic| refine $(Lean.Syntax.mkApp i a))
  `(tactic| (show $(Lean.mkIdent l.head!.toName) ..;$(<-F u.reverse):tactic))
 `(tactic| first | $(<-F r.reverse):tactic | $t:tactic)
local macro_rules | `(tactic| case zz=>$t)=>`(tactic| ($t))
local macro_rules | `(tactic| left)=>do
 let t <-rlX "Ln Ln.nil Ln.cons;Ld Ld.nil Ld.cons;Od zK Ej;ST Gq Gn Md Jx LL AE GM;N5 Me E9;NT DI.k Fh;FG DU CF;DI GY Gz K5;DR K9 LV Jm Ii GQ Gm Jc Jb Ir tm Jk JS pd;DG IW yk;DB Jv FL ME L8 MZ zd;MY FD Ev;SA ET FQ JC;LI Ch FY;DA lR qy;DK DE.dk iO;oh zR yj B6 vL yE sn BA BJ zv Hx Bb Ea I0;DO LO Gt Kw Fb p7 JN;SE DP Dk DZ Fa Gw Nk C7 Lv IN C3 LX M8 GI LJ Gb J8 Iz JW JV FT Ft FK;DE Fx FV DO.de KJ BF JZ JK MC Kh ID Mf IT EB KH ub kT j8 Mz Du IS KQ F7;oX rT pV sE C5 BP Dj v4 mr x5 mD oJ Jf;DT Kl K1 Ix J6 ML sU AI Jn" (<- `(tactic| first | assumption | decide));let u <-rlX "oX rT pV sE C5 BP Dj v4 mr x5 mD;oh B6 vL yE sn BA BJ zv Hx Bb Ea yj;Eq rfl" (<- `(tactic| first | exact E0 | decide))
 `(tactic| repeat' first | (case $(Lean.mkIdent `zz):ident=>with_reducible (show (_:Prop);first | intro _ | $t:tactic)) | $u:tactic)
local macro_rules | `(tactic| right)=>do
 let t <-rlX "And 2And.intro;PassesOwn 0PassesOwn.never;PC 3KW;Fd 1Nd 0OZ 1N6;NF 0Pi;vm 0M6 1Mv;PW 1N9 2OF 1Oo 2Q0;bG 7Hy;PO 0NK 1NL;Lg 0NG 3Nm;PT 1PW.pt 3NC 2PF 2OU 1O3 4NP;PG 5NA 4N7;Dt 1Nz;w5 0ND 1NJ 2LG;PA 0P8 3NM;jI 0Hs;PI 7L0 1QC 5Nx 4KY 2NV;PS 0Mi 3MT 5NW 6Oq 2NO 3Q6 1O6 6O5 <Cy;lW 2KZ 1JB;fX 0Oi 1E5 1NS 0Pp 0Ny 2Pf 0N3 1KS 0OD 0O9 0Qr 1F1 0LA 0Oj 2PM 0Q4 0OX 0OM 0OC;PE 5Mn 2Rb 2QQ 2QN 2Ro 6QA 5QD 8Q9 6Qz 9QK 6Q5 6O7 1P7 2QF 0Np 4Og 0MB 0QG 3NH 1Pr 3Nu 2Ot 2Qy 7Nl 4MV 0P9 4Oc 1NX 1N2 4Qs 3Q7 0PJ 4OS 0OG 9NI 7Lb" (<- `(tactic| intro _));let u <-rlX "Or LU:r Or.inr:r Or.inl:r;Ka Or.inr:r Or.inl:r;NU LU:r Or.inl:r;L6 PX:aad;Exists PQ:aad;M2 M2.mk:rrrr;PE Ew EL Cr Hd:rard;eP eP.mono:a?;dq dq.mono:ad;Paired Paired.nil:;gB gB.mk:rrrkrkk;M1 M1.mk:rrrr;M0 M0.mk:rr;QB 1P6 1NZ 1Oh 1Pn 3PU 0Pt 0Qb 1OP 1Qv;QM 0Py 0Qg 0QE 0Qw;fX 2Pf 2PM;PS 3Pu;w5 2LG 1NJ" (<- `(tactic| first | assumption | rfl | exact λ _ _=>rfl | exact λ _=>rfl | decide +kernel))
 `(tactic| ((repeat' first | (case $(Lean.mkIdent `zz):ident=>with_reducible $t:tactic) | $u:tactic);all_goals try decide))
section
variable {P:Program} {w:World} {K:Frag} {mg:Str->Option Value} {base:Heap} {cl:Str->Addr}
set_option maxHeartbeats 4000000
theorem tE (D:im K mg "bodies_of" ["statement"] [] nZ):n5 P w K mg base:=
 fu (N:=["statement"]) D rfl (λ ρ=>by left) (by right) rfl rfl (by right)
theorem zW (D:im K mg "placed" ["body", "around"] [.none] qK) (_:n5 P w K mg base):qD P w K mg base:=
 mq (k:=1) (F:=λ n=>iV K (fU n)) (yP D λ _=>rfl) (λ n _=>fu (N:=["body", "around", "outer", "found", "statement", "inner"]) D rfl (λ ρ=>by left) (by right) rfl rfl (by right)) 8
theorem lZ (D:im K mg "expressions_of" ["statement"] [] gZ) (_:mg "list" = none):cV P w K mg base:=
 fu (N:=["statement", "kind"]) D rfl (λ ρ=>by left) (by right) rfl rfl (by right)
theorem vz (D:im K mg "given_by" ["statement"] [] qg):pI P w K mg base:=
 fu (N:=["statement"]) D rfl (λ ρ=>by left) (by right) rfl rfl (by right)
theorem tK (D:im K mg "leaves_of" ["expression"] [] nj) {a_WORKINGS:Addr} (m_WORKINGS:mg "WORKINGS" = some (.ref a_WORKINGS)) (g_WORKINGS:xA K a_WORKINGS ([(Str.ofString "+"),(Str.ofString "-"),(Str.ofString "*"),(Str.ofString "div"),(Str.ofString "rem"),(Str.ofString "<"),(Str.ofString "=")])):ni P w K mg base:=
 mq (k:=0) (F:=λ n=>iV K (bt n)) (yP D λ _=>rfl) (λ n _=>fu (N:=["expression", "found", "part"]) D rfl (λ ρ=>by left) (by right) rfl rfl (by right)) 9
theorem lQ (D:w6 (λ f fd=>Mk K (cl "Sheet") f/\cP K fd ["self"] []) K "__init__" "Sheet.__init__" gX) (q_Sheet:eY K mg cl):hX P w K mg base cl:=by
 obtain ⟨_,_,_,_,_,_⟩:=q_Sheet;exact
 gM (N:=["self"]) D rfl (by left) (by right) rfl rfl (by right)
theorem uK (D:w6 (λ f fd=>oj K (cl "Sheet") "lay" f/\cP K fd ["self", "key"] []) K "lay" "Sheet.lay" nQ) (q_Sheet:eY K mg cl) (_:mg "len" = none):gC P w K mg base cl:=by
 obtain ⟨_,_,_,_,_,_⟩:=q_Sheet;exact
 gM (N:=["self", "key"]) D rfl (by left) (by right) rfl rfl (by right)
theorem qE (D:w6 (λ f fd=>oj K (cl "Sheet") "begin" f/\cP K fd ["self", "name", "slots"] []) K "begin" "Sheet.begin" ko) (h_Sheet_lay:gC P w K mg base cl) (q_Sheet:eY K mg cl):km P w K mg base cl:=by
 obtain ⟨_,_,_,_,_,_⟩:=q_Sheet;exact
 gM (N:=["self", "name", "slots"]) D rfl (by left) (by obtain ⟨_,_,⟨_,_⟩,_⟩:=h_Sheet_lay;right) rfl rfl (by right)
theorem sW (D:w6 (λ f fd=>oj K (cl "Sheet") "add" f/\cP K fd ["self", "row"] []) K "add" "Sheet.add" nu) (q_Sheet:eY K mg cl):fh P w K mg base cl:=by
 obtain ⟨_,_,_,_,_,_⟩:=q_Sheet;exact
 gM (N:=["self", "row"]) D rfl (by left) (by right) rfl rfl (by right)
theorem qW (D:w6 (λ f fd=>oj K (cl "Sheet") "free" f/\cP K fd ["self"] []) K "free" "Sheet.free" l7) (q_Sheet:eY K mg cl) (_:mg "len" = none):iu P w K mg base cl:=by
 obtain ⟨_,_,_,_,_,_⟩:=q_Sheet;exact
 gM (N:=["self"]) D rfl (by left) (by right) rfl rfl (by right)
theorem wP (D:im K mg "settled" ["row", "spots"] [] rD):sO P w K mg base cl:=
 gM (N:=["row", "spots"]) D rfl (by left) (by right) rfl rfl (by right)
theorem o5 (D:im K mg "names_within" ["body"] [] j6) (_:qD P w K mg base) (_:pI P w K mg base) (_:cV P w K mg base) (_:ni P w K mg base):j9 P w K mg base:=
 fu (N:=["body", "names", "statement", "around", "given", "expression"]) D rfl (λ ρ=>by left) (by right) rfl rfl (by right)
theorem v8 (D:im K mg "slots_of" ["params", "body"] [] qd) (_:j9 P w K mg base) (_:mg "len" = none):oZ P w K mg base cl:=
 gM (N:=["params", "body", "slots", "name"]) D rfl (by left) (by right) rfl rfl (by right)
theorem kN (D:im K mg "make_expression" ["sheet", "line", "expression", "at"] [] gh) (h_Sheet_add:fh P w K mg base cl) (q_Sheet:eY K mg cl) {a_SIGNS:Addr} (m_SIGNS:mg "SIGNS" = some (.ref a_SIGNS)) (g_SIGNS:xA K a_SIGNS ([(Str.ofString "lane"),(Str.ofString "lanes"),(Str.ofString "mine")])):gE P w K mg base cl:=by
 obtain ⟨_,_,_,_,_,_⟩:=q_Sheet;exact
 mq (k:=1) (F:=λ n=>k8 K cl (b6 n)) (JO D λ _ _=>rfl) (λ n _=>gM (N:=["sheet", "line", "expression", "at", "kind"]) D rfl (by left) (by obtain ⟨_,_,⟨_,_⟩,_⟩:=h_Sheet_add;right) rfl rfl (by right)) 9
theorem ue (D:im K mg "make_rest" ["sheet", "statement"] [] nL) (h_Sheet_free:iu P w K mg base cl) (h_Sheet_add:fh P w K mg base cl) (q_Sheet:eY K mg cl) (_:mg "len" = none):nX P w K mg base cl:=by
 obtain ⟨_,_,_,_,_,_⟩:=q_Sheet;exact
 gM (N:=["sheet", "statement", "kind", "line", "first"]) D rfl (by left) (by obtain ⟨_,_,⟨_,_⟩,_⟩:=h_Sheet_free;obtain ⟨_,_,⟨_,_⟩,_⟩:=h_Sheet_add;right) rfl rfl (by right)
theorem kS (D:im K mg "make_statement" ["sheet", "statement", "loop"] [] gW) (h_Sheet_lay:gC P w K mg base cl) (h_Sheet_add:fh P w K mg base cl) (_:gE P w K mg base cl) (_:cV P w K mg base) (h_Sheet_free:iu P w K mg base cl) (_:nX P w K mg base cl) (q_Sheet:eY K mg cl) (_:mg "enumerate" = none):ic P w K mg base cl:=by
 obtain ⟨_,_,_,_,_,_⟩:=q_Sheet;exact
 gM (N:=["sheet", "statement", "loop", "kind", "line", "at", "expression"]) D rfl (by left) (by obtain ⟨_,_,⟨_,_⟩,_⟩:=h_Sheet_lay;obtain ⟨_,_,⟨_,_⟩,_⟩:=h_Sheet_add;obtain ⟨_,_,⟨_,_⟩,_⟩:=h_Sheet_free;right) rfl rfl (by right)
theorem uE (D:im K mg "make_body" ["sheet", "body", "loop"] [] n6) (_:ic P w K mg base cl):oa P w K mg base cl:=
 gM (N:=["sheet", "body", "loop", "statement"]) D rfl (by left) (by right) rfl rfl (by right)
theorem FR (D:im K mg "made" ["program"] [] Cu) (h_Sheet___init__:hX P w K mg base cl) (h_Sheet_begin:km P w K mg base cl) (_:oZ P w K mg base cl) (_:oa P w K mg base cl) (h_Sheet_lay:gC P w K mg base cl) (h_Sheet_add:fh P w K mg base cl) (_:sO P w K mg base cl) (q_Sheet:eY K mg cl):CK P w K mg base cl:=by
 obtain ⟨_,_,_,_,_,_⟩:=q_Sheet;exact
 gM (N:=["program", "sheet", "ordered", "name", "params", "body", "line", "last"]) D rfl (by left) (by obtain ⟨_,_,⟨_,_⟩,_⟩:=h_Sheet___init__;obtain ⟨_,_,⟨_,_⟩,_⟩:=h_Sheet_begin;obtain ⟨_,_,⟨_,_⟩,_⟩:=h_Sheet_lay;obtain ⟨_,_,⟨_,_⟩,_⟩:=h_Sheet_add;right) rfl rfl (by right)
theorem uB (D:im K mg "next_rows" ["rows", "k"] [] nz) (z_sorted:mg "sorted" = none) (z_set:mg "set" = none):nh P w K mg base:=
 fu (N:=["rows", "k", "row"]) D rfl (λ ρ=>(mD (x5 (kT pd (iO (i:=0)) (Du (i:=1))) yk)
  (mD (v4 (sU zd (DE.dk (kT pd (iO (i:=2)) j8)) (DE.dk ub))
   (mr (DO.de (p7 qy)))
   oJ)
  (mD (v4 (sU zd (DE.dk (kT pd (iO (i:=2)) j8)) (DE.dk ub))
   (mr (DO.de (p7 (lR (kT pd (iO (i:=2)) j8) qy))))
   oJ)
  (mD (v4 (sU zd (DE.dk (kT pd (iO (i:=2)) j8)) (DE.dk ub))
   (mr (DO.de (MN (P:=P) (w:=w) (DE.dk (DO.de (p7 (lR (kT tm (iO (i:=1)) j8) (lR (kT pd (iO (i:=2)) j8) qy))))))))
   oJ)
  (mr (DO.de (p7 (lR (kT tm (iO (i:=1)) j8) qy))))))))) (by right) rfl rfl (by right)
theorem qa (D:im K mg "form_of_sum" ["one", "other"] [] jV):kj P w K mg base:=
 fu (N:=["one", "other"]) D rfl (λ ρ=>by left) (by right) rfl rfl (by right)
theorem xP (D:im K mg "form_of" ["expression"] [] sJ) (_:kj P w K mg base):mJ P w K mg base:=
 fu (N:=["expression"]) D rfl (λ ρ=>by left) (by right) rfl rfl (by right)
theorem uX (D:im K mg "may_meet" ["one", "other"] [] pj):oY P w K mg base:=
 fu (N:=["one", "other"]) D rfl (λ ρ=>by left) (by right) rfl rfl (by right)
theorem tV (D:im K mg "may_touch" ["puts", "touches"] [] nM) (_:oY P w K mg base):ny P w K mg base:=
 fu (N:=["puts", "touches", "put", "touch"]) D rfl (λ ρ=>by left) (by right) rfl rfl (by right)
theorem tt (D:im K mg "places_in" ["expression"] [] nY) {a_WORKINGS:Addr} (m_WORKINGS:mg "WORKINGS" = some (.ref a_WORKINGS)) (g_WORKINGS:xA K a_WORKINGS ([(Str.ofString "+"),(Str.ofString "-"),(Str.ofString "*"),(Str.ofString "div"),(Str.ofString "rem"),(Str.ofString "<"),(Str.ofString "=")])):mY P w K mg base:=
 mq (k:=0) (F:=λ n=>iV K (br n)) (yP D λ _=>rfl) (λ n _=>fu (N:=["expression", "found", "part"]) D rfl (λ ρ=>by left) (by right) rfl rfl (by right)) 9
theorem uL (D:im K mg "forms_got" ["statement"] [] nP) (_:mJ P w K mg base) (_:mY P w K mg base) (_:cV P w K mg base) (_:mg "list" = none):n8 P w K mg base cl:=
 gM (N:=["statement", "found", "expression", "place"]) D rfl (by left) (by right) rfl rfl (by right)
theorem ri (D:im K mg "line_masks" ["rows", "masks"] [] li) (_:mg "enumerate" = none):lL P w K mg base cl:=
 gM (N:=["rows", "masks", "found", "k", "row"]) D rfl (by left) (by right) rfl rfl (by right)
theorem og (D:im K mg "mark_reached" ["masks", "flows", "start", "bit"] [] jB):jw P w K mg base cl:=
 gM (N:=["masks", "flows", "start", "bit", "due", "head", "mask"]) D rfl (by left) (by right) rfl rfl (by right)
theorem qX (D:im K mg "phase_rows" ["rows", "k", "calls"] [] lV) (_:nh P w K mg base):kR P w K mg base cl:=
 gM (N:=["rows", "k", "calls", "kind"]) D rfl (by left) (by right) rfl rfl (by right)
theorem jc (D:im K mg "rows_behind_calls" ["rows"] [] f6) (_:mg "enumerate" = none):f7 P w K mg base cl:=
 gM (N:=["rows", "back_of", "first", "k", "row", "found"]) D rfl (by left) (by right) rfl rfl (by right)
theorem vx (D:im K mg "flows_of" ["rows"] [] pU) (_:f7 P w K mg base cl) (_:kR P w K mg base cl) (_:mg "enumerate" = none):q5 P w K mg base cl:=
 gM (N:=["rows", "calls", "flows", "head", "k", "row"]) D rfl (by left) (by right) rfl rfl (by right)
theorem kH (D:im K mg "starts_of_lines" ["rows"] [] fZ) (_:q5 P w K mg base cl) (_:jw P w K mg base cl) (_:lL P w K mg base cl) (_:mg "enumerate" = none):g7 P w K mg base cl:=
 gM (N:=["rows", "flows", "masks", "at", "start"]) D rfl (by left) (by right) rfl rfl (by right)
theorem B0 (D:im K mg "could" ["program"] [] yK) (_:n8 P w K mg base cl) (_:mJ P w K mg base) (_:qD P w K mg base) (_:g7 P w K mg base cl) (_:CK P w K mg base cl) (_:ny P w K mg base) (_:mg "sorted" = none) (_:mg "enumerate" = none):yC P w K mg base cl:=
 gM (N:=["program", "gets", "puts", "name", "params", "body", "line", "last", "statement", "around", "starts", "lines", "pairs", "at", "one", "other", "touch"]) D rfl (by left) (by right) rfl rfl (by right)
theorem qY (D:im K mg "_law_whole" ["_law_found"] [] lh) (_:mg "isinstance" = none) (_:mg "bool" = none) (_:mg "int" = none):lK P w K mg base:=
 fu (N:=["_law_found"]) D rfl (λ ρ=>by left) (by right) rfl rfl (by right)
theorem o0 (D:im K mg "_law_cell_at" ["_law_script", "_law_k"] [] jF) (_:mg "len" = none):js P w K mg base:=
 fu (N:=["_law_script", "_law_k"]) D rfl (λ ρ=>by left) (by right) rfl rfl (by right)
theorem qj (D:im K mg "_law_spread" ["_law_cell", "_law_k"] [] kn):jU P w K mg base:=
 fu (N:=["_law_cell", "_law_k", "_law_big", "_law_number"]) D rfl (λ ρ=>by left) (by right) rfl rfl (by right)
theorem qR (D:im K mg "_law_names" ["_law_number"] [] lG) (_:mg "range" = none) (_:mg "len" = none):lX P w K mg base:=
 fu (N:=["_law_number", "_law_letters", "_law_kept", "_law_long", "_law_place_here", "_law_rest", "_law_base", "_law_k", "_law_found", "_law_sign", "_law_word"]) D rfl (λ ρ=>by left) (by right) rfl rfl (by right)
theorem rm (D:im K mg "_law_place" ["_law_number", "_law_names_here"] [] kX):iE P w K mg base:=
 fu (N:=["_law_number", "_law_names_here", "_law_kind", "_law_rest", "_law_near", "_law_lane", "_law_name", "_law_beside", "_law_other"]) D rfl (λ ρ=>by left) (by right) rfl rfl (by right)
theorem tI (D:im K mg "_law_form" ["_law_told"] [] nR):jE P w K mg base:=
 fu (N:=["_law_told", "_law_lane"]) D rfl (λ ρ=>by left) (by right) rfl rfl (by right)
theorem oA (D:im K mg "_law_one_box" ["_law_one", "_law_other"] [] jr):jn P w K mg base:=
 fu (N:=["_law_one", "_law_other"]) D rfl (λ ρ=>by left) (by right) rfl rfl (by right)
theorem rq (D:im K mg "_law_pairs" ["_law_touches_here"] [] kY) (_:jn P w K mg base) (_:mg "enumerate" = none) (_:mg "max" = none) (_:mg "min" = none):l8 P w K mg base:=
 fu (N:=["_law_touches_here", "_law_found", "_law_k", "_law_one", "_law_other"]) D rfl (λ ρ=>by left) (by right) rfl rfl (by right)
theorem k7 (D:im K mg "_law_pairs_told" ["_law_found", "_law_due"] [] gc) (_:lK P w K mg base) (_:mg "isinstance" = none) (_:mg "list" = none) (_:mg "tuple" = none):g9 P w K mg base:=
 fu (N:=["_law_found", "_law_due", "_law_pair"]) D rfl (λ ρ=>by left) (by right) rfl rfl (by right)
theorem pi (D:im K mg "_law_simple" ["_law_number", "_law_names_here"] [] kq) (_:iE P w K mg base) (_:mg "range" = none):jW P w K mg base:=
 fu (N:=["_law_number", "_law_names_here", "_law_kind", "_law_rest", "_law_word", "_law_leaf", "_law_box", "_law_told", "_law_k"]) D rfl (λ ρ=>by left) (by right) rfl rfl (by right)
theorem lH (D:im K mg "_law_statement" ["_law_line", "_law_number", "_law_names_here"] [] hZ) (_:jW P w K mg base) (_:iE P w K mg base):ii P w K mg base:=
 fu (N:=["_law_line", "_law_number", "_law_names_here", "_law_kind", "_law_x", "_law_rest"]) D rfl (λ ρ=>by left) (by right) rfl rfl (by right)
theorem tZ (D:im K mg "_law_gets" ["_law_told"] [] nG) (_:jE P w K mg base):n9 P w K mg base:=
 mq (k:=1) (F:=λ n=>iV K (bu n)) (yP D λ _=>rfl) (λ n _=>fu (N:=["_law_told", "_law_found", "_law_piece"]) D rfl (λ ρ=>by left) (by right) rfl rfl (by right)) 9
theorem oq (D:im K mg "_law_touches" ["_law_deed"] [] j7) (_:n9 P w K mg base) (_:jE P w K mg base) (_:mg "isinstance" = none) (_:mg "tuple" = none):jz P w K mg base:=
 fu (N:=["_law_deed", "_law_gets_here", "_law_piece", "_law_touches_here"]) D rfl (λ ρ=>by left) (by right) rfl rfl (by right)
theorem Ji {R:Addr->FuncData->Prop} (hlaw:∀ ns:List Int,ns.length<=63->∃ S,Dm [.list (ns.map .int)] []=some (.ok (.bool true),S)) (D:w6 R K "law" "law" wf) (_:lX P w K mg base) (_:jU P w K mg base) (_:js P w K mg base) (_:ii P w K mg base) (_:jz P w K mg base) (_:l8 P w K mg base) (_:yC P w K mg base cl) (_:g9 P w K mg base) (_:mg "len" = none) (_:mg "list" = none) (_:mg "sorted" = none):Ce R P w K mg base 15 ["_law_script"] (tR K):=
 Ce.imp (sp:=k8 K cl Dm) (gM (N:=["_law_script", "_law_names_here", "_law_body", "_law_cell", "_law_pairs_here", "_law_stretch", "_law_deed", "_law_pair", "_law_handed", "_law_found"]) D rfl (by left) (by right) rfl rfl (by right)) λ vs H Q E h=>by
  obtain ⟨a,ns,rfl,hS,h63,q⟩:=h;obtain ⟨Sf,hl⟩:=hlaw ns h63;exact ⟨[],H,[],[.list (ns.map .int)],.bool true,Sf,.refl _,JX,.cons (.lst hS (.ints ns)) .nil,hl,λ v ρ' G' H' g s dv=>by cases dv;exact q H'⟩
end
inductive Tr where
 | num (v:Int) | sig (k:Fin 3) | nam (x:Str) | box (t:Tr) | op (k:Fin 7) (a b:Tr)
noncomputable def AX:Fin 3->Str
 | 0=>Str.ofString "lane" | 1=>Str.ofString "lanes" | 2=>Str.ofString "mine"
noncomputable def m6:Fin 7->Str
 | 0=>Str.ofString "+" | 1=>Str.ofString "-" | 2=>Str.ofString "*" | 3=>Str.ofString "div" | 4=>Str.ofString "rem" | 5=>Str.ofString "<" | 6=>Str.ofString "="
noncomputable def tw:Tr->W
 | .num v=>.tuple [.str "num", .int v]
 | .sig k=>.tuple [.str (AX k)]
 | .nam x=>.tuple [.str "name", .str x]
 | .box t=>.tuple [.str "box", tw t]
 | .op k a b=>.tuple [.str (m6 k),tw a,tw b]
noncomputable def iS:Tr->Nat
 | .box t=>iS t+1
 | .op _ a b=>max (iS a) (iS b)+1
 | _=>0
noncomputable def dU:Tr->Nat
 | .box t=>dU t+1
 | .op _ a b=>dU a+dU b+1
 | _=>1
noncomputable def kD:Tr->List Tr
 | .box t=>kD t
 | .op _ a b=>kD a++kD b
 | t=>[t]
theorem gi:∀ t,(kD t).length<=dU t
 | .num _=>by simp [kD,dU]
 | .sig _=>by simp [kD,dU]
 | .nam _=>by simp [kD,dU]
 | .box t=>by have:=gi t;simp [kD,dU];omega
 | .op _ a b=>by have:=gi a;have:=gi b;simp [kD,dU];omega
theorem OW:∀ k,decide (AX k=Str.ofString "num")=false:=by decide +kernel
theorem Pq:∀ k,decide (AX k=Str.ofString "name")=false:=by decide +kernel
theorem OY:∀ k,decide (AX k=Str.ofString "box")=false:=by decide +kernel
theorem Qp:∀ k,iD (.str (AX k)) (.tuple [.str "+", .str "-", .str "*", .str "div", .str "rem", .str "<", .str "="])=some true:=by decide +kernel
theorem QR:∀ k,fY (.str (AX k)) (.tuple [.str "lane", .str "lanes", .str "mine"])=some true:=by decide +kernel
theorem OA:∀ k,decide (m6 k=Str.ofString "num")=false:=by decide +kernel
theorem PZ:∀ k,decide (m6 k=Str.ofString "name")=false:=by decide +kernel
theorem Oa:∀ k,decide (m6 k=Str.ofString "box")=false:=by decide +kernel
theorem Qd:∀ k,iD (.str (m6 k)) (.tuple [.str "+", .str "-", .str "*", .str "div", .str "rem", .str "<", .str "="])=some false:=by decide +kernel
theorem QT:∀ k,fY (.str (m6 k)) (.tuple [.str "lane", .str "lanes", .str "mine"])=some false:=by decide +kernel
theorem Pd:decide (Str.ofString "num" = Str.ofString "box")=false:=by decide +kernel
theorem Rh:decide (Str.ofString "num" = Str.ofString "name")=false:=by decide +kernel
theorem Qt:iD (.str "num") (.tuple [.str "+", .str "-", .str "*", .str "div", .str "rem", .str "<", .str "="])=some true:=by decide +kernel
theorem OJ:decide (Str.ofString "name" = Str.ofString "box")=false:=by decide +kernel
theorem Qi:decide (Str.ofString "name" = Str.ofString "num")=false:=by decide +kernel
theorem Qm:iD (.str "name") (.tuple [.str "+", .str "-", .str "*", .str "div", .str "rem", .str "<", .str "="])=some true:=by decide +kernel
theorem Qu:decide (Str.ofString "box" = Str.ofString "num")=false:=by decide +kernel
theorem Ov:decide (Str.ofString "box" = Str.ofString "name")=false:=by decide +kernel
theorem QY:fY (.str "box") (.tuple [.str "lane", .str "lanes", .str "mine"])=some false:=by decide +kernel
theorem sS {pf:List W->Option W} {e x:W} {ds es:List W} (h:pf [x]=some (.list es)) (hz:ds.length+es.length<=9000):c7 pf [.val e,.own ds,.val x]=some (.nx [.val e,.own (ds++es),.val x]):=by
 have hz:=sz _ hz;first | rfl | simp! [c7,fB,uD,h,Rt hz]
theorem iQ:∀ (t:Tr) (n:Nat),iS t<n->dU t<=500->bt n [tw t]=some (.list ((kD t).map tw))
 | _,0,h,_=>absurd h (Ut _)
 | .num v,n+1,_,_=>by
  have z1:=sz 1 (by decide);first | rfl | simp! [bt,tw,kD,uD,kQ,Pd,Qt,Rt z1]
 | .sig k,n+1,_,_=>by
  have z1:=sz 1 (by decide);first | rfl | simp! [bt,tw,kD,uD,kQ,OY,Qp,Rt z1]
 | .nam x,n+1,_,_=>by
  have z1:=sz 1 (by decide);first | rfl | simp! [bt,tw,kD,uD,kQ,OJ,Qm,Rt z1]
 | .box t,n+1,h,hc=>by
  have z0:=sz 0 (by decide);have ih:=iQ t n (by simp only [iS] at h;omega) (by simp only [dU] at hc;omega);have l:=gi t;have st:∀ e,c7 (bt n) [.val e,.own [],.val (tw t)]=some (.nx [.val e,.own ([]++(kD t).map tw),.val (tw t)]):=λ e=>sS ih (by simp only [dU] at hc;simp;omega);first | rfl | simp! [bt,tw,kD,uD,kQ,TQ,Bool.not_true,jG,pL,Rt z0,aE,st]
 | .op k a b,n+1,h,hc=>by
  have z0:=sz 0 (by decide);have iha:=iQ a n (by simp only [iS] at h;omega) (by simp only [dU] at hc;omega);have ihb:=iQ b n (by simp only [iS] at h;omega) (by simp only [dU] at hc;omega);have la:=gi a;have lb:=gi b;have s1:∀ e,c7 (bt n) [.val e,.own [],.val (tw a)]=some (.nx [.val e,.own ([]++(kD a).map tw),.val (tw a)]):=λ e=>sS iha (by simp only [dU] at hc;simp;omega);have s2:∀ e,c7 (bt n) [.val e,.own ((kD a).map tw),.val (tw b)]=some (.nx [.val e,.own ((kD a).map tw++(kD b).map tw),.val (tw b)]):=λ e=>sS ihb (by simp only [dU] at hc;simp;omega);first | rfl | simp! [bt,tw,kD,uD,kQ,Oa,Qd,jG,pL,Rt z0,aE,s1,s2,RW]
noncomputable def AU (l:List Tr):List Str:=l.filterMap λ t=>match t with | .nam x=>some x | _=>none
noncomputable def vB (t:Tr):List Str:=AU (kD t)
theorem zt:∀ (l:List Tr),bQ (af 0) (au bw 0[0]! !"name") 0[1]! [.no] (l.map tw)=some ((AU l).map .str)
 | []=>rfl
 | t::l=>by
  have ih:=zt l;cases t with
  | num v=>simp! [RU,bQ,tw,uD,kQ,Rh,ih];simp [AU]
  | sig k=>simp! [RU,bQ,tw,uD,kQ,Pq,ih];simp [AU]
  | nam x=>simp! [RU,bQ,tw,uD,kQ,vJ,TQ,ih];simp [AU]
  | box t=>simp! [RU,bQ,tw,uD,kQ,Ov,ih];simp [AU]
  | op k a b=>simp! [RU,bQ,tw,uD,kQ,PZ,ih];simp [AU]
theorem rF:decide (Str.ofString "set" = Str.ofString "while")=false/\decide (Str.ofString "set" = Str.ofString "if")=false/\decide (Str.ofString "set" = Str.ofString "break")=false/\decide (Str.ofString "set" = Str.ofString "again")=false/\decide (Str.ofString "set" = Str.ofString "put")=false/\decide (Str.ofString "set" = Str.ofString "call")=false/\decide (Str.ofString "set" = Str.ofString "join")=false/\decide (Str.ofString "set" = Str.ofString "tell")=false/\decide (Str.ofString "set" = Str.ofString "return")=false/\decide (Str.ofString "set" = Str.ofString "meet")=false/\decide (Str.ofString "set" = Str.ofString "stop")=false:=by decide +kernel
theorem vC:decide (Str.ofString "put" = Str.ofString "while")=false/\decide (Str.ofString "put" = Str.ofString "if")=false/\decide (Str.ofString "put" = Str.ofString "break")=false/\decide (Str.ofString "put" = Str.ofString "again")=false/\decide (Str.ofString "put" = Str.ofString "set")=false/\decide (Str.ofString "put" = Str.ofString "call")=false/\decide (Str.ofString "put" = Str.ofString "join")=false/\decide (Str.ofString "put" = Str.ofString "tell")=false/\decide (Str.ofString "put" = Str.ofString "return")=false/\decide (Str.ofString "put" = Str.ofString "meet")=false/\decide (Str.ofString "put" = Str.ofString "stop")=false:=by decide +kernel
theorem kK:decide (Str.ofString "tell" = Str.ofString "while")=false/\decide (Str.ofString "tell" = Str.ofString "if")=false/\decide (Str.ofString "tell" = Str.ofString "break")=false/\decide (Str.ofString "tell" = Str.ofString "again")=false/\decide (Str.ofString "tell" = Str.ofString "put")=false/\decide (Str.ofString "tell" = Str.ofString "set")=false/\decide (Str.ofString "tell" = Str.ofString "call")=false/\decide (Str.ofString "tell" = Str.ofString "join")=false/\decide (Str.ofString "tell" = Str.ofString "return")=false/\decide (Str.ofString "tell" = Str.ofString "meet")=false/\decide (Str.ofString "tell" = Str.ofString "stop")=false:=by decide +kernel
theorem eU:decide (Str.ofString "join" = Str.ofString "while")=false/\decide (Str.ofString "join" = Str.ofString "if")=false/\decide (Str.ofString "join" = Str.ofString "break")=false/\decide (Str.ofString "join" = Str.ofString "again")=false/\decide (Str.ofString "join" = Str.ofString "put")=false/\decide (Str.ofString "join" = Str.ofString "set")=false/\decide (Str.ofString "join" = Str.ofString "call")=false/\decide (Str.ofString "join" = Str.ofString "tell")=false/\decide (Str.ofString "join" = Str.ofString "return")=false/\decide (Str.ofString "join" = Str.ofString "meet")=false/\decide (Str.ofString "join" = Str.ofString "stop")=false:=by decide +kernel
theorem df:decide (Str.ofString "meet" = Str.ofString "while")=false/\decide (Str.ofString "meet" = Str.ofString "if")=false/\decide (Str.ofString "meet" = Str.ofString "break")=false/\decide (Str.ofString "meet" = Str.ofString "again")=false/\decide (Str.ofString "meet" = Str.ofString "put")=false/\decide (Str.ofString "meet" = Str.ofString "set")=false/\decide (Str.ofString "meet" = Str.ofString "call")=false/\decide (Str.ofString "meet" = Str.ofString "join")=false/\decide (Str.ofString "meet" = Str.ofString "tell")=false/\decide (Str.ofString "meet" = Str.ofString "return")=false/\decide (Str.ofString "meet" = Str.ofString "stop")=false:=by decide +kernel
theorem dD:decide (Str.ofString "stop" = Str.ofString "while")=false/\decide (Str.ofString "stop" = Str.ofString "if")=false/\decide (Str.ofString "stop" = Str.ofString "break")=false/\decide (Str.ofString "stop" = Str.ofString "again")=false/\decide (Str.ofString "stop" = Str.ofString "put")=false/\decide (Str.ofString "stop" = Str.ofString "set")=false/\decide (Str.ofString "stop" = Str.ofString "call")=false/\decide (Str.ofString "stop" = Str.ofString "join")=false/\decide (Str.ofString "stop" = Str.ofString "tell")=false/\decide (Str.ofString "stop" = Str.ofString "return")=false/\decide (Str.ofString "stop" = Str.ofString "meet")=false:=by decide +kernel
theorem i1:fY (.str "set") (.tuple [.str "tell", .str "if", .str "while", .str "return"])=some false/\fY (.str "put") (.tuple [.str "tell", .str "if", .str "while", .str "return"])=some false/\fY (.str "tell") (.tuple [.str "tell", .str "if", .str "while", .str "return"])=some true/\fY (.str "join") (.tuple [.str "tell", .str "if", .str "while", .str "return"])=some false/\fY (.str "meet") (.tuple [.str "tell", .str "if", .str "while", .str "return"])=some false/\fY (.str "stop") (.tuple [.str "tell", .str "if", .str "while", .str "return"])=some false/\fY (.str "call") (.tuple [.str "tell", .str "if", .str "while", .str "return"])=some false:=by decide +kernel
theorem i2:fY (.str "set") (.tuple [.str "set", .str "call", .str "join"])=some true/\fY (.str "put") (.tuple [.str "set", .str "call", .str "join"])=some false/\fY (.str "tell") (.tuple [.str "set", .str "call", .str "join"])=some false/\fY (.str "join") (.tuple [.str "set", .str "call", .str "join"])=some true/\fY (.str "meet") (.tuple [.str "set", .str "call", .str "join"])=some false/\fY (.str "stop") (.tuple [.str "set", .str "call", .str "join"])=some false/\fY (.str "call") (.tuple [.str "set", .str "call", .str "join"])=some true:=by decide +kernel
theorem tF {f:DS->Option W} {δ:DS} {a b:Str} (h1:f δ=some (.str a)) (h2:decide (a=b)=false):au bw f (dC (.str b)) δ=some false:=by first | rfl | simp! [uD,h1,h2]
theorem tT {f:DS->Option W} {δ:DS} {a:Str} (h1:f δ=some (.str a)):au bw f (dC (.str a)) δ=some true:=by first | rfl | simp! [uD,h1]
theorem sF {f:DS->Option W} {δ:DS} {a b:Str} {S:aq} (h1:f δ=some (.str a)) (h2:decide (a=b)=false):ab (au bw f (dC (.str b))) δ S=some (.ok false,S):=d9 (tF h1 h2)
theorem sT {f:DS->Option W} {δ:DS} {a:Str} {S:aq} (h1:f δ=some (.str a)):ab (au bw f (dC (.str a))) δ S=some (.ok true,S):=d9 (tT h1)
theorem x0 {f:DS->Option W} {δ:DS} {w:W} {l:List W} (h:f δ=some (.tuple (w::l))):ao aO f (!0) δ=some w:=by simp only [ao,h,dC,RG,vY,kQ]
theorem x1 {f:DS->Option W} {δ:DS} {v w:W} {l:List W} (h:f δ=some (.tuple (v::w::l))):ao aO f (!1) δ=some w:=by simp only [ao,h,dC,RG,vY,vJ]
theorem x2 {f:DS->Option W} {δ:DS} {u v w:W} {l:List W} (h:f δ=some (.tuple (u::v::w::l))):ao aO f (!2) δ=some w:=by simp only [ao,h,dC,RG,vY,DF]
theorem x3 {f:DS->Option W} {δ:DS} {t u v w:W} {l:List W} (h:f δ=some (.tuple (t::u::v::w::l))):ao aO f (!3) δ=some w:=by simp only [ao,h,dC,RG,vY,Ol]
theorem bX {f g:DS->Option eI} {δ:DS} {d:W} (h:f δ=some (.rt d)):ak f g δ=some (.rt d):=by unfold ak;rw [h]
theorem iF {f:DS->Option W} {δ:DS} {a b:Str} {g k:DS->Option eI} (h1:f δ=some (.str a)) (h2:decide (a=b)=false):ak (bg (au bw f (dC (.str b))) g av) k δ=k δ:=ag (aj (b:=false) (tF h1 h2) rfl) rfl
theorem iT {f:DS->Option W} {δ:DS} {a:Str} {d:W} {g k:DS->Option eI} (h1:f δ=some (.str a)) (h2:g δ=some (.rt d)):ak (bg (au bw f (dC (.str a))) g av) k δ=some (.rt d):=bX (aj (b:=true) (tT h1) h2)
theorem pF {f:DS->Option W} {δ:DS} {a b:Str} {S:aq} {g:DS->Option eI} {k:DS->aq->SO} (h1:f δ=some (.str a)) (h2:decide (a=b)=false):aA (aJ (bg (au bw f (dC (.str b))) g av)) k δ S=k δ S:=ai (aR (aj (b:=false) (tF h1 h2) rfl))
theorem cF {f:DS->Option W} {δ:DS} {a b:Str} {S:aq} {g k:DS->aq->SO} (h1:f δ=some (.str a)) (h2:decide (a=b)=false):aA (dm (ab (au bw f (dC (.str b)))) g (aJ av)) k δ S=k δ S:=ai ((iN (sF h1 h2)).trans rfl)
theorem fF {f:DS->Option W} {δ:DS} {a b:Str} {S:aq} {g k:DS->aq->SO} (h1:f δ=some (.str a)) (h2:decide (a=b)=false):dm (ab (au bw f (dC (.str b)))) g k δ S=k δ S:=iN (sF h1 h2)
theorem fT {f:DS->Option W} {δ:DS} {a:Str} {S:aq} {g k:DS->aq->SO} (h1:f δ=some (.str a)):dm (ab (au bw f (dC (.str a)))) g k δ S=g δ S:=ju (sT h1)
inductive De where
 | set (x:Str) (t:Tr) | put (a b:Tr) | tell (t:Tr) | join (x j:Str) (t:Tr) | meet | stop
noncomputable def bv:De->List Tr
 | .set _ t=>[t] | .put a b=>[a,b] | .tell t=>[t] | .join _ _ t=>[t] | .meet=>[] | .stop=>[]
noncomputable def wn:De->List Str
 | .set x _=>[x] | .join x _ _=>[x] | .put _ _=>[] | .tell _=>[] | .meet=>[] | .stop=>[]
noncomputable def kw:De->Str
 | .set _ _=>Str.ofString "set" | .put _ _=>Str.ofString "put" | .tell _=>Str.ofString "tell" | .join _ _ _=>Str.ofString "join" | .meet=>Str.ofString "meet" | .stop=>Str.ofString "stop"
noncomputable def rs:De->List W
 | .set x t=>[.str x,tw t] | .put a b=>[tw a,tw b] | .tell t=>[tw t] | .join x j t=>[.str x,.str j,tw t] | .meet=>[] | .stop=>[]
theorem Lu (d:De):decide (kw d=Str.ofString "while")=false/\decide (kw d=Str.ofString "if")=false/\decide (kw d=Str.ofString "break")=false/\decide (kw d=Str.ofString "again")=false:=by
 cases d
 . exact ⟨rF.1,rF.2.1,rF.2.2.1,rF.2.2.2.1⟩
 . exact ⟨vC.1,vC.2.1,vC.2.2.1,vC.2.2.2.1⟩
 . exact ⟨kK.1,kK.2.1,kK.2.2.1,kK.2.2.2.1⟩
 . exact ⟨eU.1,eU.2.1,eU.2.2.1,eU.2.2.2.1⟩
 . exact ⟨df.1,df.2.1,df.2.2.1,df.2.2.2.1⟩
 . exact ⟨dD.1,dD.2.1,dD.2.2.1,dD.2.2.2.1⟩
noncomputable def bR (k:Int) (d:De):W:=.tuple (.str (kw d)::.int k::rs d)
noncomputable def aK:Int->List De->List W
 | _,[]=>[]
 | k,t::ts=>bR k t::aK (k+1) ts
noncomputable def AV (s:W):W:=.tuple [s,.tuple []]
theorem xq (k:Int) (d:De):j0 [bR k d]=some (.list []):=by
 have z0:=sz 0 (by decide);exact bP rfl ((iF (x0 rfl) (Lu d).1).trans ((iF (x0 rfl) (Lu d).2.1).trans (aI (by first | rfl | simp! [uD,Rt z0]))))
theorem mv (k:Int) (d:De):cg [bR k d]=some (.list ((bv d).map tw)):=by
 have z4:=sz 4 (by decide);have z0:=sz 0 (by decide);have z1:=sz 1 (by decide);have z2:=sz 2 (by decide);refine bP rfl (ag (δ1:=[.val (bR k d),.val (.str (kw d))]) (aP (x0 rfl) rfl) ?_);have hin:∀ b,fY (.str (kw d)) (.tuple [.str "tell", .str "if", .str "while", .str "return"])=some b->au fY (ar 1) (aB #[!"tell",!"if",!"while",!"return"]) [.val (bR k d),.val (.str (kw d))]=some b:=λ b hb=>by simp! [uD,Rt z4,hb]
 cases d with
 | set x t=>
  refine ag (aj (b:=false) (hin _ i1.1) rfl) ?_;refine (iF rfl rF.2.2.2.2.1).trans ?_;exact iT rfl (aI (by first | rfl | simp! [bR,rs,bv,uD,DF,Ol,Nv,Rt z1,Rt z2]))
 | put a b=>
  refine ag (aj (b:=false) (hin _ i1.2.1) rfl) ?_;exact iT rfl (aI (by first | rfl | simp! [bR,rs,bv,uD,DF,Ol,Nv,Rt z1,Rt z2]))
 | tell t=>
  exact bX (aj (b:=true) (hin _ i1.2.2.1) (aI (by first | rfl | simp! [bR,rs,bv,uD,DF,Rt z1])))
 | join x j t=>
  refine ag (aj (b:=false) (hin _ i1.2.2.2.1) rfl) ?_;refine (iF rfl eU.2.2.2.2.1).trans ?_;refine (iF rfl eU.2.2.2.2.2.1).trans ?_;refine (iF rfl eU.2.2.2.2.2.2.1).trans ?_;exact aI (by first | rfl | simp! [bR,kw,rs,bv,uD,Nv,TQ,Rt z1,Rt z0])
 | meet=>
  refine ag (aj (b:=false) (hin _ i1.2.2.2.2.1) rfl) ?_;refine (iF rfl df.2.2.2.2.1).trans ?_;refine (iF rfl df.2.2.2.2.2.1).trans ?_;refine (iF rfl df.2.2.2.2.2.2.1).trans ?_;exact aI (by first | rfl | simp! [bR,kw,rs,bv,uD,Nv,df.2.2.2.2.2.2.2.1,Rt z1,Rt z0])
 | stop=>
  refine ag (aj (b:=false) (hin _ i1.2.2.2.2.2.1) rfl) ?_;refine (iF rfl dD.2.2.2.2.1).trans ?_;refine (iF rfl dD.2.2.2.2.2.1).trans ?_;refine (iF rfl dD.2.2.2.2.2.2.1).trans ?_;exact aI (by first | rfl | simp! [bR,kw,rs,bv,uD,Nv,dD.2.2.2.2.2.2.2.1,Rt z1,Rt z0])
noncomputable def Ha:List Str->W
 | []=>.none
 | x::_=>.str x
theorem A9 (k:Int) (d:De):iG [bR k d]=some (Ha (wn d)):=by
 have z3:=sz 3 (by decide);cases d <;> simp! [iG,bR,kw,rs,wn,Ha,uD,kQ,DF,i2,Rt z3]
theorem m8:∀ (ts:List De) (k:Int),(aK k ts).length=ts.length
 | [],_=>rfl
 | t::ts,k=>by simp [aK,m8 ts]
theorem zk (pf:List W->Option W):∀ (ts:List De) (k:Int) (s0 s1:Sl) (acc:List W) (s4 s5:Sl),acc.length+ts.length<=900->∃ s4',aE (af 4) (iy pf) (aK k ts) [s0,s1,.val (.tuple []),.own acc,s4,s5]=some (.nx [s0,s1,.val (.tuple []),.own (acc++(aK k ts).map AV),s4',s5])
 | [],k,s0,s1,acc,s4,s5,_=>⟨s4,by simp [aK,aE]⟩
 | t::ts,k,s0,s1,acc,s4,s5,h=>by
  have hl:acc.length<sizeLine:=RD (by simp at h;omega) (sz 9000 (by decide));have z2:=sz 2 (by decide);obtain ⟨s4',e⟩:=zk pf ts (k+1) s0 s1 (acc++[AV (bR k t)]) (.val (bR k t)) s5 (by simp at h ⊢;omega);have st:iy pf [s0,s1,.val (.tuple []),.own acc,.val (bR k t),s5]=some (.nx [s0,s1,.val (.tuple []),.own (acc++[AV (bR k t)]),.val (bR k t),s5]):=by
   first | rfl | simp! [iy,uD,xq,aE,Rt hl,Rt z2,AV]
  refine ⟨s4',?_⟩;first | rfl | simp! [aK,aE,uD,st,e]
  simp
theorem pc (ts:List De) (k:Int) (h:ts.length<=900):fU 8 [.list (aK k ts),.none]=some (.list ((aK k ts).map AV)):=by
 have z0:=sz 0 (by decide);obtain ⟨s4',e⟩:=zk (fU 7) ts k (.val (.list (aK k ts))) (.val .none) [] .no .no (by simpa using h);show b7 2 6 _ _=_;refine bP rfl ?_;refine ag (δ1:=[.val (.list (aK k ts)),.val .none,.val (.tuple []),.no,.no,.no]) (by first | rfl | simp! [uD,Rt z0]) ?_;refine ag (δ1:=[.val (.list (aK k ts)),.val .none,.val (.tuple []),.own [],.no,.no]) (by first | rfl | simp! [uD,Rt z0]) ?_;refine ag (cJ (ds:=aK k ts) (by first | rfl | simp! [uD]) e) ?_;first | rfl | simp! [uD,Th]
noncomputable def cz (ts:List Tr):Nat:=(ts.map dU).sum
noncomputable def eN (ts:List Tr):List Str:=ts.flatMap vB
noncomputable def dN (d:De):List Str:=wn d++eN (bv d)
noncomputable def f8 (ds:List De):List Str:=ds.flatMap dN
noncomputable def Lc (t:Tr):Prop:=iS t<9/\dU t<=300
structure qP (d:De):Prop where
 t:∀ t∈bv d,Lc t
 c:cz (bv d)<=31
theorem Gu (l:List Tr):(AU l).length<=l.length:=Ur _ _
theorem yW (t:Tr):(vB t).length<=dU t:=Sb (Gu _) (gi t)
theorem Ci:∀ (ts:List Tr),(eN ts).length<=cz ts
 | []=>by simp [eN]
 | t::ts=>by
  have:=Ci ts;have:=yW t;simp [eN,cz] at *;omega
theorem yA (d:De):(wn d).length<=1:=by cases d <;> simp [wn]
theorem BI {d:De} (h:qP d):(dN d).length<=32:=by
 have:=Ci (bv d);have:=yA d;have:=h.c;simp [dN];omega
theorem qi:∀ {ds:List De},(∀ d∈ds,qP d)->(f8 ds).length<=32*ds.length
 | [],_=>by simp [f8]
 | d::ds,h=>by
  have:=qi λ e he=>h e (R6 _ he);have:=BI (h d (by simp));simp [f8] at *;omega
theorem yv:∀ (ts:List Tr) (acc:List W) (s0 s2 s3 s4 s5:Sl),(∀ t∈ts,Lc t)->acc.length+cz ts<=8000->∃ s5',aE (af 5) cZ (ts.map tw) [s0,.own acc,s2,s3,s4,s5]=some (.nx [s0,.own (acc++(eN ts).map .str),s2,s3,s4,s5'])
 | [],acc,s0,s2,s3,s4,s5,_,_=>⟨s5,by simp [aE,eN]⟩
 | t::ts,acc,s0,s2,s3,s4,s5,ht,h=>by
  have hc:cz (t::ts)=dU t+cz ts:=by simp [cz]
  have hn:=yW t;have hk:=ht t (by simp);have zl:((kD t).map tw).length<=sizeLine:=sz _ (by have:=gi t;have:=hk.2;simp;omega);have ze:acc.length+((vB t).map W.str).length<=sizeLine:=sz _ (by simp;omega);obtain ⟨s5',e⟩:=yv ts (acc++(vB t).map .str) s0 s2 s3 s4 (.val (tw t)) (λ u hu=>ht u (by simp [hu])) (by simp;omega);have lv:=iQ t 9 hk.1 (by have:=hk.2;omega);have nr:=zt (kD t);have st1:cZ [s0,.own acc,s2,s3,s4,.val (tw t)]=some (.nx [s0,.own (acc++(vB t).map .str),s2,s3,s4,.val (tw t)]):=by
   first | rfl | simp! [cZ,qB,ku,uD,lv,Rt zl]
   rw [nr];first | rfl | simp only [RG]
   rw [Rt (show acc.length+((AU (kD t)).map W.str).length<=sizeLine from ze)];rfl
  refine ⟨s5',?_⟩;first | rfl | simp! [RU,aE,uD,st1,e]
  simp [eN]
theorem F0 (s0 s2 s3 s5:Sl) (acc:List W) (d:De) (h:acc.length<9000):bg (au kf (ar 4) (dC .none)) (bF 1 (ae 4)) av [s0,.own acc,s2,s3,.val (Ha (wn d)),s5]=some (.nx [s0,.own (acc++(wn d).map .str),s2,s3,.val (Ha (wn d)),s5]):=by
 have hl:acc.length<sizeLine:=RD h (sz 9000 (by decide));cases d <;> simp! [wn,Ha,uD,Rt hl,Sa]
theorem zb:∀ (ds:List De) (k:Int) (s0:Sl) (acc:List W) (s2 s3 s4 s5:Sl),(∀ d∈ds,qP d)->acc.length+32*ds.length<=8000->∃ s2' s3' s4' s5',aE (dy 2 (aQ (af 2) (aQ (af 3) dJ))) eX ((aK k ds).map AV) [s0,.own acc,s2,s3,s4,s5]=some (.nx [s0,.own (acc++(f8 ds).map .str),s2',s3',s4',s5'])
 | [],k,s0,acc,s2,s3,s4,s5,_,_=>⟨s2,s3,s4,s5,by simp [aK,aE,f8]⟩
 | d::ds,k,s0,acc,s2,s3,s4,s5,ht,h=>by
  have hd:=ht d (by simp);have h1:=yA d;have h2:=BI hd;have h3:=hd.c;simp only [RM] at h;obtain ⟨s5a,e1⟩:=yv (bv d) (acc++(wn d).map .str) s0 (.val (bR k d)) (.val (.tuple [])) (.val (Ha (wn d))) s5 hd.t (by simp;omega);obtain ⟨s2',s3',s4',s5',e⟩:=zb ds (k+1) s0 (acc++(dN d).map .str) (.val (bR k d)) (.val (.tuple [])) (.val (Ha (wn d))) s5a (λ u hu=>ht u (by simp [hu])) (by simp;omega);have st:eX [s0,.own acc,.val (bR k d),.val (.tuple []),s4,s5]=some (.nx [s0,.own (acc++(dN d).map .str),.val (bR k d),.val (.tuple []),.val (Ha (wn d)),s5a]):=by
   refine ag (δ1:=[s0,.own acc,.val (bR k d),.val (.tuple []),.val (Ha (wn d)),s5]) (by first | rfl | simp! [uD,A9]) ?_;refine ag (F0 _ _ _ _ _ d (by omega)) ?_;refine (cJ (ds:=(bv d).map tw) (by first | rfl | simp! [uD,mv]) e1).trans ?_;simp [dN]
  refine ⟨s2',s3',s4',s5',?_⟩;simp! [aK,RU,AV,aE,uD,st] at e ⊢;rw [e];simp [f8]
theorem At (ds:List De) (k:Int) (ht:∀ t∈ds,qP t) (h:ds.length<=200):e9 [.list (aK k ds)]=some (.list ((f8 ds).map .str)):=by
 have z0:=sz 0 (by decide);obtain ⟨s2',s3',s4',s5',e⟩:=zb ds k (.val (.list (aK k ds))) [] .no .no .no .no ht (by simp;omega);have pr:=pc ds k (by omega);first | rfl | simp! [e9,pJ,uD,Rt z0,pr,e,Th]
noncomputable def dd:List Str->List Str->List Str
 | acc,[]=>acc
 | acc,x::r=>dd (if x∈acc then acc else acc++[x]) r
noncomputable def iZ:Nat->List Str->List (b8×W)
 | _,[]=>[]
 | i,x::r=>(Sum.inr x,.int ((i+1:Nat):Int))::iZ (i+1) r
theorem zi:∀ (N:List Str) (i:Nat) (x:Str),iZ i (N++[x])=iZ i N++[(Sum.inr x,.int ((i+N.length+1:Nat):Int))]
 | [],i,x=>by simp [iZ]
 | y::N,i,x=>by
  first | rfl | simp only [TB,iZ,zi N (i+1) x,RM]
  rw [show i+1+N.length+1=i+(N.length+1)+1 by omega]
theorem u0:∀ (N:List Str) (i:Nat),(iZ i N).length=N.length
 | [],_=>rfl
 | y::N,i=>by simp [iZ,u0 N]
theorem z9:∀ (N:List Str) (i:Nat) (x:Str),x∉N->aL (iZ i N) (Sum.inr x)=none
 | [],i,x,_=>rfl
 | y::N,i,x,h=>by
  have h':¬ y=x/\x∉N:=⟨λ e=>h (by simp [e]),λ e=>h (by simp [e])⟩
  have ih:=z9 N (i+1) x h'.2;simp only [aL,iZ,Si,Sum.inr.injEq,h'.1,U0] at ih ⊢;exact ih
theorem lN:∀ (N:List Str) (i:Nat) (x:Str),x∈N->∃ j,N[j]?=some x/\aL (iZ i N) (Sum.inr x)=some (.int ((i+j+1:Nat):Int))
 | y::N,i,x,h=>by
  by_cases e:y=x
  . subst e;exact ⟨0,rfl,by simp [aL,iZ,Si]⟩
  . obtain ⟨j,h1,h2⟩:=lN N (i+1) x ((Rx.mp h).resolve_left λ z=>e z.symm);refine ⟨j+1,by simpa using h1,?_⟩;have h3:aL (iZ i (y::N)) (Sum.inr x)=aL (iZ (i+1) N) (Sum.inr x):=by simp [aL,iZ,Si,e]
    rw [h3,h2,show i+1+j+1=i+(j+1)+1 by omega]
theorem p0 {S:aq} {d:Nat} {kvs:List (b8×W)} {x:Str} (h:S[d]?=some (.dK kvs)):pT (.ref d) (.str x) S=some (aL kvs (Sum.inr x)):=by simp [pT,eK,h,ky]
theorem KL {S:aq} {d:Nat} {kvs:List (b8×W)} {x:Str} {v:W} (h:S[d]?=some (.dK kvs)) (hl:kvs.length<9000):mS (.ref d) (.str x) v S=some (S.set d (.dK (bo kvs (Sum.inr x) v))):=by
 have hl':kvs.length<sizeLine:=RD hl (sz 9000 (by decide));simp [mS,eK,h,ky,hl']
theorem BU:∀ (l acc:List Str),(dd acc l).length<=acc.length+l.length
 | [],acc=>by simp [dd]
 | x::l,acc=>by
  unfold dd;have:=BU l (if x∈acc then acc else acc++[x]);split at this <;> split <;> simp_all <;> omega
theorem kF:∀ (l acc:List Str) (S:aq) (d:Nat) (s0 s1 s3:Sl),S[d]?=some (.dK (iZ 0 acc))->acc.length+l.length<=8000->∃ S' s3',aS (af 3) cX (l.map .str) [s0,s1,.val (.ref d),s3] S=some (.nx [s0,s1,.val (.ref d),s3'],S')/\S'[d]?=some (.dK (iZ 0 (dd acc l)))/\∀ m,m≠d->S'[m]?=S[m]?
 | [],acc,S,d,s0,s1,s3,hd,_=>⟨S,s3,rfl,hd,λ _ _=>rfl⟩
 | x::l,acc,S,d,s0,s1,s3,hd,hl=>by
  simp only [RM] at hl;have kl:=u0 acc 0;by_cases hx:x∈acc
  . obtain ⟨j,j1,j2⟩:=lN acc 0 x hx;obtain ⟨S',s3',e1,e2,e3⟩:=kF l acc S d s0 s1 (.val (.str x)) hd (by omega);refine ⟨S',s3',?_,by simpa [dd,hx] using e2,e3⟩;have st:cX [s0,s1,.val (.ref d),.val (.str x)] S=some (.nx [s0,s1,.val (.ref d),.val (.str x)],S):=by
     first | rfl | simp! [cX,GO,uS,uD,p0 hd,j2,To]
    exact (aH rfl st).trans e1
  . have n0:=z9 acc 0 x hx;have h1:(S.set d (.dK (iZ 0 (acc++[x]))))[d]?=some (.dK (iZ 0 (acc++[x]))):=set_eq' hd;obtain ⟨S',s3',e1,e2,e3⟩:=kF l (acc++[x]) _ d s0 s1 (.val (.str x)) h1 (by simp;omega);refine ⟨S',s3',?_,by simpa [dd,hx] using e2,λ m hm=>(e3 m hm).trans (RI (λ z=>hm z.symm))⟩;have st:cX [s0,s1,.val (.ref d),.val (.str x)] S=some (.nx [s0,s1,.val (.ref d),.val (.str x)],S.set d (.dK (iZ 0 (acc++[x])))):=by
     have pa:=KL (x:=x) (v:=.int ((iZ 0 acc).length+1)) hd (by omega);rw [hJ _ n0] at pa;have ev:iZ 0 acc++[(Sum.inr x,W.int ((iZ 0 acc).length+1))]=iZ 0 (acc++[x]):=by
      rw [zi,kl];simp
     rw [ev] at pa;first | rfl | simp! [cX,GO,bW,vb,AS,uS,uD,p0 hd,n0,Option.isSome_none,rB hd,pa]
    exact (aH rfl st).trans e1
theorem AR (ps:List Str) (ts:List De) (k:Int) (S:aq) (ht:∀ t∈ts,qP t) (h:ts.length<=200) (hp:ps.length<=10):∃ S',kJ [.list (ps.map .str),.list (aK k ts)] S=some (.ok (.ref S.length),S')/\S'[S.length]?=some (.dK (iZ 0 (dd [] (ps++f8 ts))))/\∀ m,m≠S.length->S'[m]?=(S++[.dK []])[m]?:=by
 have nr:=At ts k ht h;have hn:=qi ht;obtain ⟨S',s3',e1,e2,e3⟩:=kF (ps++f8 ts) [] (S++[.dK []]) S.length (.val (.list (ps.map .str))) (.val (.list (aK k ts))) .no (by simp [iZ]) (by simp;omega);refine ⟨S',?_,e2,e3⟩;have za:(ps.map W.str).length+((f8 ts).map W.str).length<=sizeLine:=sz _ (by simp;omega);have ga:bI (.list (ps.map W.str)) (.list ((f8 ts).map W.str))=some (.list ((ps++f8 ts).map W.str)):=by rw [gG za,RW]
 refine (aU rfl).trans ?_;refine (RO eF (?_:_=some (.rt (.ref S.length),S'))).trans rfl;refine (ai (bi (d:=.ref S.length) (S1:=S++[.dK []]) rfl rfl)).trans ?_;refine (ai ((bD (S1:=S++[.dK []]) (ds:=(ps++f8 ts).map W.str) ?_).trans e1)).trans ?_
 . first | rfl | simp! [uS,uD,dg,nr,ga]
 . first | rfl | simp! [uS,uD]
noncomputable def mh (r p d:Nat) (nm:W):List (Str×W):=[(Str.ofString "rows", .ref r),(Str.ofString "spots", .ref p),(Str.ofString "name", nm),(Str.ofString "slots", .ref d)]
theorem Of:(Str.ofString "spots" == Str.ofString "rows")=false/\(Str.ofString "name" == Str.ofString "rows")=false/\(Str.ofString "name" == Str.ofString "spots")=false/\(Str.ofString "slots" == Str.ofString "rows")=false/\(Str.ofString "slots" == Str.ofString "spots")=false/\(Str.ofString "slots" == Str.ofString "name")=false:=by decide +kernel
theorem Jp (r p d:Nat) (nm:W):(mh r p d nm).lookup (Str.ofString "rows")=some (.ref r):=by simp [mh,List.lookup]
theorem Mj (r p d:Nat) (nm:W):(mh r p d nm).lookup (Str.ofString "spots")=some (.ref p):=by simp [mh,List.lookup,Of.1]
theorem GP (r p d:Nat) (nm:W):(mh r p d nm).lookup (Str.ofString "slots")=some (.ref d):=by simp [mh,List.lookup,Of.2.2.2.1,Of.2.2.2.2.1,Of.2.2.2.2.2]
theorem Fj (m:Str) (h:(m==Str.ofString "rows")=false/\(m==Str.ofString "spots")=false/\(m==Str.ofString "name")=false/\(m==Str.ofString "slots")=false) (r p d:Nat) (nm:W):(mh r p d nm).lookup m=none:=by simp [mh,List.lookup,h.1,h.2.1,h.2.2.1,h.2.2.2]
theorem Na:(Str.ofString "add" == Str.ofString "rows")=false/\(Str.ofString "add" == Str.ofString "spots")=false/\(Str.ofString "add" == Str.ofString "name")=false/\(Str.ofString "add" == Str.ofString "slots")=false:=by decide +kernel
theorem Mq:(Str.ofString "lay" == Str.ofString "rows")=false/\(Str.ofString "lay" == Str.ofString "spots")=false/\(Str.ofString "lay" == Str.ofString "name")=false/\(Str.ofString "lay" == Str.ofString "slots")=false:=by decide +kernel
theorem Ja:(Str.ofString "free" == Str.ofString "rows")=false/\(Str.ofString "free" == Str.ofString "spots")=false/\(Str.ofString "free" == Str.ofString "name")=false/\(Str.ofString "free" == Str.ofString "slots")=false:=by decide +kernel
theorem FX:(Str.ofString "begin" == Str.ofString "rows")=false/\(Str.ofString "begin" == Str.ofString "spots")=false/\(Str.ofString "begin" == Str.ofString "name")=false/\(Str.ofString "begin" == Str.ofString "slots")=false:=by decide +kernel
structure SH (F:Nat->Option Ob) (S:aq) (I r p d:Nat) (nm:W) (rows:List W) (kv:List (List b8×W)) (sl:List (b8×W)):Prop where
 hI:S[I]?=some (.ins (Str.ofString "Sheet") (mh r p d nm))
 hr:S[r]?=some (.lst rows)
 hp:S[p]?=some (.dT kv)
 hd:S[d]?=some (.dK sl)
 f:∀ i o,F i=some o->S[i]?=some o
 fI:F I=none
 fr:F r=none
 fp:F p=none
theorem Gc {F:Nat->Option Ob} {S:aq} {r:Nat} (h:∀ i o,F i=some o->S[i]?=some o) (n:F r=none) (x:Ob):∀ i o,F i=some o->(S.set r x)[i]?=some o:=λ i o e=>set_ne' (h i o e) λ z=>by subst z;rw [n] at e;cases e
theorem jh {S:aq} {I:Nat} {fs:List (Str×W)} (h:S[I]?=some (.ins (Str.ofString "Sheet") fs)):iW (Str.ofString "Sheet") (.ref I) S=some (I,fs):=by simp [iW,eK,h]
section
variable {F:Nat->Option Ob} {S:aq} {I r p d:Nat} {nm:W} {rows:List W} {kv:List (List b8×W)} {sl:List (b8×W)} {N:List Str}
theorem SH.row (h:SH F S I r p d nm rows kv sl) (x:List W):SH F (S.set r (.lst x)) I r p d nm x kv sl:=
 ⟨set_ne' h.hI (bK h.hr h.hI (by simp)),set_eq' h.hr,set_ne' h.hp (bK h.hr h.hp (by simp)),set_ne' h.hd (bK h.hr h.hd (by simp)),Gc h.f h.fr _,h.fI,h.fr,h.fp⟩
theorem SH.spot (h:SH F S I r p d nm rows kv sl) (x:List (List b8×W)):SH F (S.set p (.dT x)) I r p d nm rows x sl:=
 ⟨set_ne' h.hI (bK h.hp h.hI (by simp)),set_ne' h.hr (bK h.hp h.hr (by simp)),set_eq' h.hp,set_ne' h.hd (bK h.hp h.hd (by simp)),Gc h.f h.fp _,h.fI,h.fr,h.fp⟩
theorem F6 (h:SH F S I r p d nm rows kv sl) (row:W) (hl:rows.length<9000):aN [.ref I,row] S=some (.ok .none,S.set r (.lst (rows++[row]))):=by
 have hl':rows.length<sizeLine:=RD hl (sz 9000 (by decide));first | rfl | simp! [aN,qh,uS,uD,jh h.hI,Jp,mN h.hr,To,Rt hl']
theorem xw {x:List W} {ks:List b8} {v:W} (hk:mV x=some ks) (h:S[p]?=some (.dT kv)) (hl:kv.length<9000):mS (.ref p) (.tuple x) v S=some (S.set p (.dT (bo kv ks v))):=by
 have hl':kv.length<sizeLine:=RD hl (sz 9000 (by decide));simp [mS,eK,h,uI,hk,hl']
theorem FN (h:SH F S I r p d nm rows kv sl) {x:List W} {ks:List b8} (hk:mV x=some ks) (hl:kv.length<9000):cO [.ref I,.tuple x] S=some (.ok .none,S.set p (.dT (bo kv ks (.int rows.length)))):=by
 first | rfl | simp! [cO,bW,uS,uD,jh h.hI,Jp,Mj,mN h.hr,xw hk h.hp hl]
theorem B3 (h:SH F S I r p d nm rows kv sl):cT [.ref I] S=some (.ok (.int (sl.length+1)),S):=by
 first | rfl | simp! [cT,AS,vb,uS,uD,jh h.hI,GP,rB h.hd]
theorem mC (h:SH F S I r p d nm rows kv sl) (row:W) (hl:rows.length<9000) {fo:DS->Option W} {fa:DS->aq->SM (List W)} {δ:DS} (h1:fo δ=some (.ref I)) (h2:fa δ S=some (.ok [row],S)):bd (bS "Sheet" "add" aN (ab fo) fa) δ S=some (.nx δ,S.set r (.lst (rows++[row]))):=
 bT (lF h1 h.hI (Fj _ Na _ _ _ _) h2 (F6 h row hl))
theorem Kf (h:SH F S I r p d nm rows kv sl) {x:List W} {ks:List b8} (hk:mV x=some ks) (hl:kv.length<9000) {fo:DS->Option W} {fa:DS->aq->SM (List W)} {δ:DS} (h1:fo δ=some (.ref I)) (h2:fa δ S=some (.ok [.tuple x],S)):bd (bS "Sheet" "lay" cO (ab fo) fa) δ S=some (.nx δ,S.set p (.dT (bo kv ks (.int rows.length)))):=
 bT (lF h1 h.hI (Fj _ Mq _ _ _ _) h2 (FN h hk hl))
theorem HI (h:SH F S I r p d nm rows kv (iZ 0 N)) {fo:DS->Option W} {δ:DS} (h1:fo δ=some (.ref I)):bS "Sheet" "free" cT (ab fo) (ab ah) δ S=some (.ok (.int ((N.length:Int)+1)),S):=by
 have fr:=B3 h;rw [u0] at fr;exact lF (ds:=[]) (S1:=S) h1 h.hI (Fj _ Ja _ _ _ _) rfl fr
end
noncomputable def ss (ln:Int) (f:Str->W):Tr->Int->List W
 | .num v,a=>[.tuple [.str "num", .int ln,.int a,.int v]]
 | .sig k,a=>[.tuple [.str "sign", .int ln,.int a,.str (AX k)]]
 | .nam x,a=>[.tuple [.str "copy", .int ln,.int a,f x]]
 | .box t,a=>ss ln f t a++[.tuple [.str "get", .int ln,.int a,.int a]]
 | .op k t u,a=>ss ln f t a++(ss ln f u (a+1)++[.tuple [.str "op", .int ln,.int a,.str (m6 k),.int a,.int (a+1)]])
theorem f9 (ln:Int) (f:Str->W):∀ (t:Tr) (a:Int),(ss ln f t a).length=dU t
 | .num _,_=>rfl
 | .sig _,_=>rfl
 | .nam _,_=>rfl
 | .box t,a=>by simp [ss,dU,f9 ln f t]
 | .op _ t u,a=>by simp [ss,dU,f9 ln f t,f9 ln f u];omega
noncomputable def fN (N:List Str) (x:Str):W:=(aL (iZ 0 N) (Sum.inr x)).getD .none
noncomputable def Pv (N:List Str) (t:Tr):Prop:=∀ x∈vB t,x∈N
theorem qJ (k:Fin 7) (a b:Tr):vB (.op k a b)=vB a++vB b:=by simp [vB,AU,kD,List.filterMap_append]
section
variable {F:Nat->Option Ob} {I r p d:Nat} {nm:W} {kv:List (List b8×W)} {N:List Str}
theorem lw (ln:Int):∀ (t:Tr) (n:Nat) (a:Int) (S:aq) (rows:List W),iS t<n->Pv N t->rows.length+dU t<=8000->SH F S I r p d nm rows kv (iZ 0 N)->b6 n [.ref I,.int ln,tw t,.int a] S=some (.ok .none,S.set r (.lst (rows++ss ln (fN N) t a)))
 | _,0,_,_,_,h,_,_,_=>absurd h (Ut _)
 | .num v,n+1,a,S,rows,hd,hi,hl,h=>by
  simp only [dU] at hl;have z4:=sz 4 (by decide);show bJ 4 5 _ _ _=_;let δ:DS:=[.val (.ref I),.val (.int ln),.val (tw (.num v)),.val (.int a),.val (.str "num")]
  refine (aU rfl).trans ((RO eF (?_:_=some (.nx δ,_))).trans rfl);refine (ai (δ':=δ) (S':=S) (aR (aP (x0 rfl) rfl))).trans ?_;exact (fT rfl).trans (mC h _ (by omega) rfl (by first | rfl | simp! [δ,tw,uS,uD,vJ,Rt z4]))
 | .sig k,n+1,a,S,rows,hd,hi,hl,h=>by
  simp only [dU] at hl;have z4:=sz 4 (by decide);show bJ 4 5 _ _ _=_;let δ:DS:=[.val (.ref I),.val (.int ln),.val (tw (.sig k)),.val (.int a),.val (.str (AX k))]
  refine (aU rfl).trans ((RO eF (?_:_=some (.nx δ,_))).trans rfl);refine (ai (δ':=δ) (S':=S) (aR (aP (x0 rfl) rfl))).trans ?_;refine (fF rfl (OW k)).trans ?_;refine (fF rfl (Pq k)).trans ?_;exact (ju (S1:=S) (by first | rfl | simp! [δ,uS,uD,QR])).trans (mC h _ (by omega) rfl (by first | rfl | simp! [δ,tw,uS,uD,Rt z4]))
 | .nam x,n+1,a,S,rows,hd,hi,hl,h=>by
  simp only [dU] at hl;have z4:=sz 4 (by decide);obtain ⟨j,j1,j2⟩:=lN N 0 x (hi x (by simp [vB,AU,kD]));have hf:fN N x=.int ((0+j+1:Nat):Int):=by simp [fN,j2]
  show bJ 4 5 _ _ _=_;let δ:DS:=[.val (.ref I),.val (.int ln),.val (tw (.nam x)),.val (.int a),.val (.str "name")]
  refine (aU rfl).trans ((RO eF (?_:_=some (.nx δ,_))).trans rfl);refine (ai (δ':=δ) (S':=S) (aR (aP (x0 rfl) rfl))).trans ?_;refine (fF rfl (Qi)).trans ?_;exact (fT rfl).trans (mC h (.tuple [.str "copy", .int ln,.int a,fN N x]) (by omega) rfl (by rw [hf];simp! [δ,tw,bC,uS,uD,vJ,jh h.hI,GP,p0 h.hd,j2,Rt z4]))
 | .box t,n+1,a,S,rows,hd,hi,hl,h=>by
  simp only [dU] at hl;simp only [iS] at hd;have z4:=sz 4 (by decide);let δ:DS:=[.val (.ref I),.val (.int ln),.val (tw (.box t)),.val (.int a),.val (.str "box")]
  have e1:=lw ln t n a S rows (by omega) (λ x hx=>hi x (by simpa [vB,kD] using hx)) (by omega) h;show bJ 4 5 _ _ _=_;refine (aU rfl).trans ((RO eF (?_:_=some (.nx δ,_))).trans rfl);refine (ai (δ':=δ) (S':=S) (aR (aP (x0 rfl) rfl))).trans ?_;refine (fF rfl (Qu)).trans ?_;refine (fF rfl (Ov)).trans ?_;refine (iN (S1:=S) (by first | rfl | simp! [δ,uS,uD,QY])).trans ?_;refine (fT rfl).trans ?_;refine (ai (bT (bB (S1:=S) (by first | rfl | simp! [δ,tw,uS,uD,vJ]) e1))).trans ?_;refine (mC (h.row _) (.tuple [.str "get", .int ln,.int a,.int a]) (by rw [RN,f9];omega) rfl (by first | rfl | simp! [δ,tw,uS,uD,Rt z4])).trans ?_;simp [ss]
 | .op k t u,n+1,a,S,rows,hd,hi,hl,h=>by
  simp only [dU] at hl;simp only [iS] at hd;have z6:=sz 6 (by decide);let δ:DS:=[.val (.ref I),.val (.int ln),.val (tw (.op k t u)),.val (.int a),.val (.str (m6 k))]
  have e1:=lw ln t n a S rows (by omega) (λ x hx=>hi x (by rw [qJ];simp [hx])) (by omega) h;have g1:=h.row (rows++ss ln (fN N) t a);have e2:=lw ln u n (a+1) _ _ (by omega) (λ x hx=>hi x (by rw [qJ];simp [hx])) (by rw [RN,f9];omega) g1;show bJ 4 5 _ _ _=_;refine (aU rfl).trans ((RO eF (?_:_=some (.nx δ,_))).trans rfl);refine (ai (δ':=δ) (S':=S) (aR (aP (x0 rfl) rfl))).trans ?_;refine (fF rfl (OA k)).trans ?_;refine (fF rfl (PZ k)).trans ?_;refine (iN (S1:=S) (by first | rfl | simp! [δ,uS,uD,QT])).trans ?_;refine (fF rfl (Oa k)).trans ?_;refine (ai (bT (bB (S1:=S) (by first | rfl | simp! [δ,tw,uS,uD,vJ]) e1))).trans ?_;refine (ai (bT (bB (S1:=S.set r (.lst (rows++ss ln (fN N) t a))) (by first | rfl | simp! [δ,tw,uS,uD,DF]) e2))).trans ?_;refine (mC (g1.row _) (.tuple [.str "op", .int ln,.int a,.str (m6 k),.int a,.int (a+1)]) (by rw [RN,RN,f9,f9];omega) rfl (by first | rfl | simp! [δ,tw,uS,uD,Rt z6])).trans ?_;simp [ss]
end
noncomputable def d7 (N:List Str) (ln:Int):De->W
 | .set x _=>.tuple [.str "copy", .int ln,fN N x,.int ((N.length:Int)+1)]
 | .put _ _=>.tuple [.str "put", .int ln,.int ((N.length:Int)+1),.int ((N.length:Int)+1+1)]
 | .tell _=>.tuple [.str "tell", .int ln,.int ((N.length:Int)+1)]
 | .join x j _=>.tuple [.str "join", .int ln,fN N x,.str j,.int ((N.length:Int)+1)]
 | .meet=>.tuple [.str "meet", .int ln]
 | .stop=>.tuple [.str "stop", .int ln]
structure Mh (N:List Str) (d:De):Prop where
 g:∀ x∈wn d,x∈N
 t:∀ t∈bv d,Pv N t
section
variable {F:Nat->Option Ob} {S:aq} {I r p d:Nat} {nm:W} {rows:List W} {kv:List (List b8×W)} {N:List Str}
theorem Ei (h:SH F S I r p d nm rows kv (iZ 0 N)) (ln:Int) (e:De) (hi:Mh N e) (hl:rows.length<9000):jC [.ref I,bR ln e] S=some (.ok .none,S.set r (.lst (rows++[d7 N ln e]))):=by
 have z2:=sz 2 (by decide);have z3:=sz 3 (by decide);have z4:=sz 4 (by decide);have z5:=sz 5 (by decide);have z6:=sz 6 (by decide);have ll:∀ ts:List Tr,(ts.map tw).length=ts.length:=λ ts=>by simp
 let δ:DS:=[.val (.ref I),.val (bR ln e),.val (.str (kw e)),.val (.int ln),.val (.int ((N.length:Int)+1))]
 refine (aU rfl).trans ((RO eF (?_:_=some (.nx δ,_))).trans rfl);refine (ai (δ':=[.val (.ref I),.val (bR ln e),.val (.str (kw e)),.no,.no]) (S':=S) (by first | rfl | simp! [bR,uS,uD,dg,kQ])).trans ?_;refine (ai (δ':=[.val (.ref I),.val (bR ln e),.val (.str (kw e)),.val (.int ln),.no]) (S':=S) (by first | rfl | simp! [bR,uS,uD,vJ])).trans ?_;refine (ai (δ':=δ) (S':=S) (bi (HI h rfl) rfl)).trans ?_;cases e with
 | set x t=>
  obtain ⟨j',j1,j2⟩:=lN N 0 x (hi.g x (by simp [wn]));have hf:fN N x=.int ((0+j'+1:Nat):Int):=by simp [fN,j2]
  refine (fT rfl).trans ?_;refine mC h (.tuple [.str "copy", .int ln,fN N x,.int ((N.length:Int)+1)]) hl rfl ?_;rw [hf];first | rfl | simp! [δ,bR,kw,rs,bC,uS,uD,DF,jh h.hI,GP,p0 h.hd,j2,Rt z4]
 | put a b=>
  refine (fF rfl vC.2.2.2.2.1).trans ?_;refine (fT rfl).trans ?_;exact mC h _ hl rfl (by first | rfl | simp! [δ,bR,kw,rs,d7,uS,uD,Rt z4])
 | tell t=>
  refine (fF rfl kK.2.2.2.2.2.1).trans ?_;refine (fF rfl kK.2.2.2.2.1).trans ?_;refine (fT rfl).trans ?_;exact mC h _ hl rfl (by first | rfl | simp! [δ,bR,kw,rs,d7,uS,uD,Rt z3])
 | join x j t=>
  obtain ⟨j',j1,j2⟩:=lN N 0 x (hi.g x (by simp [wn]));have hf:fN N x=.int ((0+j'+1:Nat):Int):=by simp [fN,j2]
  refine (fF rfl eU.2.2.2.2.2.1).trans ?_;refine (fF rfl eU.2.2.2.2.1).trans ?_;refine (fF rfl eU.2.2.2.2.2.2.2.1).trans ?_;refine (fF rfl eU.2.2.2.2.2.2.1).trans ?_;refine (fF rfl eU.2.2.2.2.2.2.2.2.1).trans ?_;refine (fT rfl).trans ?_;refine mC h (.tuple [.str "join", .int ln,fN N x,.str j,.int ((N.length:Int)+1)]) hl rfl ?_;rw [hf];first | rfl | simp! [δ,bR,kw,rs,bC,uS,uD,DF,Ol,jh h.hI,GP,p0 h.hd,j2,Rt z5]
 | meet=>
  refine (fF rfl df.2.2.2.2.2.1).trans ?_;refine (fF rfl df.2.2.2.2.1).trans ?_;refine (fF rfl df.2.2.2.2.2.2.2.2.1).trans ?_;refine (fF rfl df.2.2.2.2.2.2.1).trans ?_;refine (fF rfl df.2.2.2.2.2.2.2.2.2.1).trans ?_;refine (fF rfl df.2.2.2.2.2.2.2.1).trans ?_;exact mC h _ hl rfl (by first | rfl | simp! [δ,bR,kw,rs,d7,uS,uD,Rt z2])
 | stop=>
  refine (fF rfl dD.2.2.2.2.2.1).trans ?_;refine (fF rfl dD.2.2.2.2.1).trans ?_;refine (fF rfl dD.2.2.2.2.2.2.2.2.1).trans ?_;refine (fF rfl dD.2.2.2.2.2.2.1).trans ?_;refine (fF rfl dD.2.2.2.2.2.2.2.2.2.1).trans ?_;refine (fF rfl dD.2.2.2.2.2.2.2.1).trans ?_;exact mC h _ hl rfl (by first | rfl | simp! [δ,bR,kw,rs,d7,uS,uD,Rt z2])
noncomputable def rE (N:List Str) (ln:Int):Nat->List Tr->List W
 | _,[]=>[]
 | a,t::ts=>ss ln (fN N) t (a:Int)++rE N ln (a+1) ts
theorem mG (N:List Str) (ln:Int):∀ (ts:List Tr) (a:Nat),(rE N ln a ts).length=cz ts
 | [],_=>rfl
 | t::ts,a=>by simp [rE,f9,mG N ln ts,cz]
noncomputable def ro (N:List Str) (ln:Int) (e:De):List W:=.tuple [.str "tick", .int ln]::(rE N ln (N.length+1) (bv e)++[d7 N ln e])
theorem y9 {ln:Int} {s1 s2 s3:Sl}:∀ (ts:List Tr) (a:Nat) (S:aq) (rows:List W) (s5 s6:Sl),(∀ t∈ts,Lc t/\Pv N t)->rows.length+cz ts<=8000->SH F S I r p d nm rows kv (iZ 0 N)->
 ∃ S' s5' s6',aS (dy 2 (aQ (af 5) (aQ (af 6) dJ))) fG (fV a (ts.map tw)) [.val (.ref I),s1,s2,s3,.val (.int ln),s5,s6] S=some (.nx [.val (.ref I),s1,s2,s3,.val (.int ln),s5',s6'],S')/\SH F S' I r p d nm (rows++rE N ln a ts) kv (iZ 0 N)
 | [],a,S,rows,s5,s6,_,_,h=>⟨S,s5,s6,rfl,by simpa [rE] using h⟩
 | t::ts,a,S,rows,s5,s6,ht,hl,h=>by
  have hc:cz (t::ts)=dU t+cz ts:=by simp [cz]
  have h1:=ht t (by simp);have e1:=lw ln t 9 (a:Int) S rows h1.1.1 h1.2 (by omega) h;obtain ⟨S',s5',s6',e2,g⟩:=y9 ts (a+1) _ _ (.val (.int (a:Int))) (.val (tw t)) (λ u hu=>ht u (by simp [hu])) (by rw [RN,f9];omega) (h.row (rows++ss ln (fN N) t (a:Int)));refine ⟨S',s5',s6',?_,by simpa [rE] using g⟩;exact (aH (δ2:=[.val (.ref I),s1,s2,s3,.val (.int ln),.val (.int (a:Int)),.val (tw t)]) rfl (bT (bB (S1:=S) (by first | rfl | simp! [uS,uD]) e1))).trans e2
noncomputable def KD (kv kv':List (List b8×W)):Prop:=∀ y:Str,aL kv' [Sum.inr (Str.ofString "def"),Sum.inr y]=aL kv [Sum.inr (Str.ofString "def"),Sum.inr y]
theorem FM (kv:List (List b8×W)) (ln:Int) (v:W):KD kv (bo kv [Sum.inr (Str.ofString "tick"),Sum.inl ln] v):=λ y=>by
 rw [dA,RJ (by simp)]
theorem Br (h:SH F S I r p d nm rows kv (iZ 0 N)) (ln:Int) (e:De) (lp:W) (ho:qP e) (hi:Mh N e) (hl:rows.length+40<=8000) (hk:kv.length<900) (hN:N.length<=8000):∃ S' kv',eR [.ref I,bR ln e,lp] S=some (.ok .none,S')/\SH F S' I r p d nm (rows++ro N ln e) kv' (iZ 0 N)/\kv'.length<=kv.length+1/\KD kv kv':=by
 have z2:=sz 2 (by decide);have hc:=ho.c;let δ:DS:=[.val (.ref I),.val (bR ln e),.val lp,.val (.str (kw e)),.val (.int ln),.no,.no]
 have g1:=h.spot (bo kv [Sum.inr (Str.ofString "tick"),Sum.inl ln] (.int rows.length));have g2:=g1.row (rows++[.tuple [.str "tick", .int ln]]);obtain ⟨S3,s5,s6,e3,g3⟩:=y9 (ln:=ln) (s1:=.val (bR ln e)) (s2:=.val lp) (s3:=.val (.str (kw e))) (bv e) (N.length+1) _ _ .no .no (λ t ht=>⟨ho.t t ht,hi.t t ht⟩) (by simp;omega) g2;have e4:=Ei g3 ln e hi (by rw [RN,RN,mG];simp;omega);rw [show rows++[.tuple [.str "tick", .int ln]]++rE N ln (N.length+1) (bv e)++[d7 N ln e]=rows++ro N ln e by simp [ro]] at e4;refine ⟨_,_,?_,g3.row (rows++ro N ln e),cQ _ _ _,FM _ _ _⟩;refine (aU rfl).trans ((RO eF (?_:_=some (.nx [.val (.ref I),.val (bR ln e),.val lp,.val (.str (kw e)),.val (.int ln),s5,s6],_))).trans rfl);refine (ai (δ':=[.val (.ref I),.val (bR ln e),.val lp,.val (.str (kw e)),.no,.no,.no]) (S':=S) (by first | rfl | simp! [bR,uS,uD,dg,kQ])).trans ?_;refine (ai (δ':=δ) (S':=S) (by first | rfl | simp! [δ,bR,uS,uD,vJ])).trans ?_;refine (ai (Kf h (x:=[.str "tick", .int ln]) (ks:=[Sum.inr (Str.ofString "tick"),Sum.inl ln]) rfl (by omega) rfl (by first | rfl | simp! [δ,uS,uD,Rt z2]))).trans ?_;refine (ai (mC g1 (.tuple [.str "tick", .int ln]) (by omega) rfl (by first | rfl | simp! [δ,uS,uD,Rt z2]))).trans ?_;refine (ai ((bD (ds:=fV (N.length+1) ((bv e).map tw)) (xg (d9 (by first | rfl | simp! [δ,uD,mv])) (HI g2 rfl) (Pa _ _ (by omega)))).trans e3)).trans ?_;refine (fF rfl (Lu e).2.1).trans ?_;refine (fF rfl (Lu e).1).trans ?_;refine (fF rfl (Lu e).2.2.1).trans ?_;refine (fF rfl (Lu e).2.2.2).trans ?_;exact bT (bB (S1:=S3) (ds:=[.ref I,bR ln e]) (by first | rfl | simp! [uS,uD]) e4)
end
noncomputable def dh (N:List Str):Int->List De->List W
 | _,[]=>[]
 | k,t::ts=>ro N k t++dh N (k+1) ts
theorem zw (N:List Str) (k:Int) {e:De} (h:qP e):(ro N k e).length<=33:=by
 have:=h.c;simp [ro,mG];omega
theorem jA (N:List Str):∀ (ts:List De) (k:Int),(∀ e∈ts,qP e)->(dh N k ts).length<=33*ts.length
 | [],_,_=>by simp [dh]
 | t::ts,k,h=>by
  have:=zw N k (h t (by simp));have:=jA N ts (k+1) λ e he=>h e (by simp [he]);simp [dh];omega
theorem yM {F:Nat->Option Ob} {I r p d:Nat} {nm:W} {N:List Str} (s1 lp:W) (hN:N.length<=8000):∀ (ts:List De) (k:Int) (S:aq) (rows:List W) (kv:List (List b8×W)) (s3:Sl),(∀ t∈ts,qP t/\Mh N t)->rows.length+40*ts.length<=7000->kv.length+ts.length<=800->SH F S I r p d nm rows kv (iZ 0 N)->
 ∃ S' kv' s3',aS (af 3) jX (aK k ts) [.val (.ref I),.val s1,.val lp,s3] S=some (.nx [.val (.ref I),.val s1,.val lp,s3'],S')/\SH F S' I r p d nm (rows++dh N k ts) kv' (iZ 0 N)/\kv'.length<=kv.length+ts.length/\KD kv kv'
 | [],k,S,rows,kv,s3,_,_,_,h=>⟨S,kv,s3,rfl,by simpa [dh] using h,by simp,λ _=>rfl⟩
 | t::ts,k,S,rows,kv,s3,ht,hl,hk,h=>by
  simp only [RM] at hl hk;have h1:=ht t (by simp);have h2:=zw N k h1.1;obtain ⟨S1,kv1,e1,g1,l1,d1⟩:=Br h k t lp h1.1 h1.2 (by omega) (by omega) hN;obtain ⟨S',kv',s3',e2,g2,l2,d2⟩:=yM s1 lp hN ts (k+1) S1 (rows++ro N k t) kv1 (.val (bR k t)) (λ u hu=>ht u (by simp [hu])) (by rw [RN];omega) (by omega) g1;refine ⟨S',kv',s3',?_,by simpa [dh] using g2,by simp;omega,λ y=>(d2 y).trans (d1 y)⟩;refine (aH (δ2:=[.val (.ref I),.val s1,.val lp,.val (bR k t)]) (δ':=[.val (.ref I),.val s1,.val lp,.val (bR k t)]) (S':=S1) rfl ?_).trans e2;exact bT (bB (S1:=S) (by first | rfl | simp! [uS,uD]) e1)
theorem zT {F:Nat->Option Ob} {I r p d:Nat} {nm:W} {N:List Str} (lp:W) (hN:N.length<=8000) (ts:List De) (k:Int) (S:aq) (rows:List W) (kv:List (List b8×W)) (ht:∀ t∈ts,qP t/\Mh N t) (hl:rows.length+40*ts.length<=7000) (hk:kv.length+ts.length<=800) (h:SH F S I r p d nm rows kv (iZ 0 N)):
 ∃ S' kv',jy [.ref I,.list (aK k ts),lp] S=some (.ok .none,S')/\SH F S' I r p d nm (rows++dh N k ts) kv' (iZ 0 N)/\kv'.length<=kv.length+ts.length/\KD kv kv':=by
 obtain ⟨S',kv',s3',e,g,l,dd⟩:=yM (.list (aK k ts)) lp hN ts k S rows kv .no ht hl hk h;refine ⟨S',kv',?_,g,l,dd⟩;refine (aU rfl).trans ((RO eF (?_:_=some (.nx [.val (.ref I),.val (.list (aK k ts)),.val lp,s3'],S'))).trans rfl);exact (bD (S1:=S) (ds:=aK k ts) (by first | rfl | simp! [uS,uD,dg])).trans e
theorem nq:Str.ofString "rows" ≠ Str.ofString "spots" /\ Str.ofString "rows" ≠ Str.ofString "name" /\ Str.ofString "spots" ≠ Str.ofString "name" /\ Str.ofString "rows" ≠ Str.ofString "slots" /\ Str.ofString "spots" ≠ Str.ofString "slots" /\ Str.ofString "name" ≠ Str.ofString "slots" := by decide +kernel
theorem OQ (r p d:Nat) (nm x:W):fA (Str.ofString "name") x (mh r p d nm)=mh r p d x:=by simp [mh,fA,nq.2.1,nq.2.2.1]
theorem PY (r p d e:Nat) (nm:W):fA (Str.ofString "slots") (.ref e) (mh r p d nm)=mh r p e nm:=by simp [mh,fA,nq.2.2.2.1,nq.2.2.2.2.1,nq.2.2.2.2.2]
theorem C0 (S:aq):∃ S',eM [.ref S.length] (S++[.ins (Str.ofString "Sheet") []])=some (.ok .none,S')/\SH (λ i=>S[i]?) S' S.length (S.length+1) (S.length+2) (S.length+3) .none [] [] []:=by
 have z0:=sz 0 (by decide);let δ:DS:=[.val (.ref S.length)]
 let c:Str:=Str.ofString "Sheet";let S0:aq:=S++[.ins c []];have l0:S0.length=S.length+1:=by simp [S0]
 have a0:S0[S.length]?=some (.ins c []):=ck _ _;let S1:aq:=S0++[.lst []];have b1:S1[S.length+1]?=some (.lst []):=by rw [<-l0];exact ck _ _
 have e1:fM "Sheet" "rows" (ab (ae 0)) (wt (ab ah)) δ S0=some (.nx δ,S1.set S.length (.ins c (fA (Str.ofString "rows") (.ref (S.length+1)) []))):=hV (by rw [<-l0];simp! [S1,uS,uD,Rt z0]) rfl (aW a0) (by simp);let S2:aq:=S1.set S.length (.ins c (fA (Str.ofString "rows") (.ref (S.length+1)) []));have l2:S2.length=S.length+2:=by simp [S2,S1,l0]
 have a2:S2[S.length]?=some (.ins c [(Str.ofString "rows", .ref (S.length+1))]):=set_eq' (aW a0);have b2:S2[S.length+1]?=some (.lst []):=set_ne' b1 (by omega);let S3:aq:=S2++[.dT []];have c3:S3[S.length+2]?=some (.dT []):=by rw [<-l2];exact ck _ _
 have e2:fM "Sheet" "spots" (ab (ae 0)) Mc δ S2=some (.nx δ,S3.set S.length (.ins c (fA (Str.ofString "spots") (.ref (S.length+2)) [(Str.ofString "rows", .ref (S.length+1))]))):=hV (by rw [<-l2];rfl) rfl (aW a2) (by simp);let S4:aq:=S3.set S.length (.ins c (fA (Str.ofString "spots") (.ref (S.length+2)) [(Str.ofString "rows", .ref (S.length+1))]));have p4:fA (Str.ofString "spots") (.ref (S.length+2)) [(Str.ofString "rows", .ref (S.length+1))]=[(Str.ofString "rows", .ref (S.length+1)),(Str.ofString "spots", .ref (S.length+2))]:=by simp [fA,nq.1]
 have l4:S4.length=S.length+3:=by simp [S4,S3,l2]
 have a4:S4[S.length]?=some (.ins c [(Str.ofString "rows", .ref (S.length+1)),(Str.ofString "spots", .ref (S.length+2))]):=by rw [<-p4];exact set_eq' (aW a2)
 have b4:S4[S.length+1]?=some (.lst []):=set_ne' (aW b2) (by omega);have c4:S4[S.length+2]?=some (.dT []):=set_ne' c3 (by omega);have e3:fM "Sheet" "name" (ab (ae 0)) (ab (dC .none)) δ S4=some (.nx δ,S4.set S.length (.ins c (fA (Str.ofString "name") .none [(Str.ofString "rows", .ref (S.length+1)),(Str.ofString "spots", .ref (S.length+2))]))):=hV rfl rfl a4 (by simp);let S5:aq:=S4.set S.length (.ins c (fA (Str.ofString "name") .none [(Str.ofString "rows", .ref (S.length+1)),(Str.ofString "spots", .ref (S.length+2))]));have p5:fA (Str.ofString "name") .none [(Str.ofString "rows", .ref (S.length+1)),(Str.ofString "spots", .ref (S.length+2))]=[(Str.ofString "rows", .ref (S.length+1)),(Str.ofString "spots", .ref (S.length+2)),(Str.ofString "name", .none)]:=by simp [fA,nq.2.1,nq.2.2.1]
 have l5:S5.length=S.length+3:=by simp [S5,l4]
 have a5:S5[S.length]?=some (.ins c [(Str.ofString "rows", .ref (S.length+1)),(Str.ofString "spots", .ref (S.length+2)),(Str.ofString "name", .none)]):=by rw [<-p5];exact set_eq' a4
 have b5:S5[S.length+1]?=some (.lst []):=set_ne' b4 (by omega);have c5:S5[S.length+2]?=some (.dT []):=set_ne' c4 (by omega);let S6:aq:=S5++[.dK []];have d6:S6[S.length+3]?=some (.dK []):=by rw [<-l5];exact ck _ _
 have e4:fM "Sheet" "slots" (ab (ae 0)) A5 δ S5=some (.nx δ,S6.set S.length (.ins c (fA (Str.ofString "slots") (.ref (S.length+3)) [(Str.ofString "rows", .ref (S.length+1)),(Str.ofString "spots", .ref (S.length+2)),(Str.ofString "name", .none)]))):=hV (by rw [<-l5];rfl) rfl (aW a5) (by simp);have p6:fA (Str.ofString "slots") (.ref (S.length+3)) [(Str.ofString "rows", .ref (S.length+1)),(Str.ofString "spots", .ref (S.length+2)),(Str.ofString "name", .none)]=mh (S.length+1) (S.length+2) (S.length+3) .none:=by simp [mh,fA,nq.2.2.2.1,nq.2.2.2.2.1,nq.2.2.2.2.2]
 rw [p6] at e4;refine ⟨_,?_,⟨set_eq' (aW a5),set_ne' (aW b5) (by omega),set_ne' (aW c5) (by omega),set_ne' d6 (by omega),λ i o e=>?_,by simp,by simp,by simp⟩⟩
 rotate_left
 . have hi:i<S.length:=(oG e).1;exact set_ne' (aW (set_ne' (set_ne' (aW (set_ne' (aW (aW e)) (by omega))) (by omega)) (by omega))) (by omega)
 refine (aU rfl).trans ((RO eF (?_:_=some (.nx δ,_))).trans rfl);exact (ai e1).trans ((ai e2).trans ((ai e3).trans e4))
theorem yf:∀ (l acc:List Str) (x:Str),x∈acc∨x∈l->x∈dd acc l
 | [],acc,x,h=>by simpa [dd] using h
 | y::l,acc,x,h=>by
  unfold dd;refine yf l _ x ?_;rcases h with h | h
  . refine .inl ?_;split
    . exact h
    . simp [h]
  . rcases Rx.mp h with rfl | h
    . refine .inl ?_;split
      . assumption
      . simp
    . exact .inr h
theorem A7 {F:Nat->Option Ob} {S:aq} {I r p d e:Nat} {nm:W} {rows:List W} {kv:List (List b8×W)} {sl sl':List (b8×W)} (h:SH F S I r p d nm rows kv sl) (he:S[e]?=some (.dK sl')) (x:Str) (hk:kv.length<9000):∃ S',gR [.ref I,.str x,.ref e] S=some (.ok .none,S')/\SH F S' I r p e (.str x) rows (bo kv [Sum.inr (Str.ofString "def"),Sum.inr x] (.int rows.length)) sl':=by
 have z2:=sz 2 (by decide);let δ:DS:=[.val (.ref I),.val (.str x),.val (.ref e)]
 have e1:fM "Sheet" "name" (ab (ae 0)) (ab (ae 1)) δ S=some (.nx δ,S.set I (.ins (Str.ofString "Sheet") (fA (Str.ofString "name") (.str x) (mh r p d nm)))):=hV rfl rfl h.hI (by simp [mh]);rw [OQ] at e1;have i1:(S.set I (.ins (Str.ofString "Sheet") (mh r p d (.str x))))[I]?=some (.ins (Str.ofString "Sheet") (mh r p d (.str x))):=set_eq' h.hI;have e2:fM "Sheet" "slots" (ab (ae 0)) (ab (ae 2)) δ (S.set I (.ins (Str.ofString "Sheet") (mh r p d (.str x))))=some (.nx δ,(S.set I (.ins (Str.ofString "Sheet") (mh r p d (.str x)))).set I (.ins (Str.ofString "Sheet") (fA (Str.ofString "slots") (.ref e) (mh r p d (.str x))))):=hV rfl rfl i1 (by simp [mh]);rw [PY] at e2;have g:SH F ((S.set I (.ins (Str.ofString "Sheet") (mh r p d (.str x)))).set I (.ins (Str.ofString "Sheet") (mh r p e (.str x)))) I r p e (.str x) rows kv sl':=
  ⟨set_eq' i1,set_ne' (set_ne' h.hr (bK h.hI h.hr (by simp))) (bK h.hI h.hr (by simp)),set_ne' (set_ne' h.hp (bK h.hI h.hp (by simp))) (bK h.hI h.hp (by simp)),set_ne' (set_ne' he (bK h.hI he (by simp))) (bK h.hI he (by simp)),Gc (Gc h.f h.fI _) h.fI _,h.fI,h.fr,h.fp⟩
 refine ⟨_,?_,g.spot _⟩;refine (aU rfl).trans ((RO eF (?_:_=some (.nx δ,_))).trans rfl);exact (ai e1).trans ((ai e2).trans (Kf g (x:=[.str "def", .str x]) rfl hk rfl (by first | rfl | simp! [δ,uS,uD,Rt z2])))
noncomputable def KB (x:W):Prop:=∃ w xs,x=.tuple (.str w::xs)/\fY (.str w) (.tuple [.str "split", .str "jump", .str "call"])=some false
theorem gw {x:W} (h:KB x) (d:W) (S:aq):gY [x,d] S=some (.ok x,S):=by
 obtain ⟨w,xs,rfl,h⟩:=h;have z3:=sz 3 (by decide);refine (aU rfl).trans ((RO eF (?_:_=some (.rt (.tuple (.str w::xs)),S))).trans rfl);refine (ai (δ':=[.val (.tuple (.str w::xs)),.val d]) (S':=S) ?_).trans (by first | rfl | simp! [uS,uD]);refine (iN (S1:=S) (by first | rfl | simp! [uS,uD,dg,kQ,h,Rt z3])).trans ?_;first | rfl | simp! [uS,uD,dg]
theorem uO (ln:Int) (f:Str->W):∀ (t:Tr) (a:Int),∀ x∈ss ln f t a,KB x
 | .num _,_,x,h=>by simp only [ss,RE] at h;exact ⟨_,_,h,by decide +kernel⟩
 | .sig _,_,x,h=>by simp only [ss,RE] at h;exact ⟨_,_,h,by decide +kernel⟩
 | .nam _,_,x,h=>by simp only [ss,RE] at h;exact ⟨_,_,h,by decide +kernel⟩
 | .box t,a,x,h=>by
  simp only [ss,Rz,RE] at h;rcases h with h | h
  . exact uO ln f t a x h
  . exact ⟨_,_,h,by decide +kernel⟩
 | .op _ t u,a,x,h=>by
  simp only [ss,Rz,RE] at h;rcases h with h | h | h
  . exact uO ln f t a x h
  . exact uO ln f u (a+1) x h
  . exact ⟨_,_,h,by decide +kernel⟩
theorem Ia (N:List Str) (ln:Int):∀ (ts:List Tr) (a:Nat),∀ x∈rE N ln a ts,KB x
 | [],_,x,h=>by simp [rE] at h
 | t::ts,a,x,h=>by
  simp only [rE,Rz] at h;rcases h with h | h
  . exact uO _ _ _ _ x h
  . exact Ia N ln ts (a+1) x h
noncomputable def Ey (S:aq) (p:Nat) (x y:W):Prop:=gY [x,.ref p] S=some (.ok y,S)
section
variable {S:aq} {p:Nat}
theorem C4 (N:List Str) (ln:Int) (e:De):Ey S p (d7 N ln e) (d7 N ln e):=by
 cases e <;> exact gw ⟨_,_,rfl,by decide +kernel⟩ _ _
theorem Ju (N:List Str) (ln:Int) (e:De):Al (Ey S p) (ro N ln e) (ro N ln e):=
 .cons (gw ⟨_,_,rfl,by decide +kernel⟩ _ _) ((Al.refl λ x h=>gw (Ia _ _ _ _ x h) _ _).app (.cons (C4 N ln e) .nil))
theorem zo (N:List Str):∀ (ts:List De) (k:Int),Al (Ey S p) (dh N k ts) (dh N k ts)
 | [],_=>.nil
 | t::ts,k=>(Ju N k t).app (zo N ts (k+1))
end
theorem Pb {ps:List Str} {ds:List De} {d:De} (h:d∈ds):Mh (dd [] (ps++f8 ds)) d:=
 ⟨λ x hx=>yf _ _ _ (.inr (Rz.mpr (.inr (List.mem_flatMap.mpr ⟨d,h,by simp [dN,hx]⟩)))),λ t ht x hx=>yf _ _ _ (.inr (Rz.mpr (.inr (List.mem_flatMap.mpr ⟨d,h,Rz.mpr (.inr (List.mem_flatMap.mpr ⟨t,ht,hx⟩))⟩))))⟩
theorem FC {ps:List Str} {ds:List De} (hp:ps.length<=10) (hl:ds.length<=100) (ho:∀ d∈ds,qP d):(dd [] (ps++f8 ds)).length<=8000:=by
 have:=BU (ps++f8 ds) [];have:=qi ho;simp at *;omega
noncomputable def gU (l:Int):W:=.tuple [.str "back", .int l]
theorem QL:Str.ofString "last" ≠ Str.ofString "def" := by decide +kernel
theorem Gs {F:Nat->Option Ob} {S:aq} {I r p d:Nat} {nm:W} {rows:List W} {kv:List (List b8×W)} {sl:List (b8×W)} (h:SH F S I r p d nm rows kv sl) (x:Str) (ps:List Str) (ds:List De) (k last:Int) (s0 s2 s6:Sl) (hp:ps.length<=10) (hl:ds.length<=100) (ho:∀ d∈ds,qP d) (hr:rows.length<=2900) (hk:kv.length<=400):
 ∃ S' d' kv',vT [s0,.val (.ref I),s2,.val (.str x),.val (.list (ps.map .str)),.val (.list (aK k ds)),s6,.val (.int last)] S=some (.nx [s0,.val (.ref I),s2,.val (.str x),.val (.list (ps.map .str)),.val (.list (aK k ds)),s6,.val (.int last)],S')/\SH F S' I r p d' (.str x) (rows++dh (dd [] (ps++f8 ds)) k ds++[gU last]) kv' (iZ 0 (dd [] (ps++f8 ds)))/\kv'.length<=kv.length+ds.length+2/\aL kv' [Sum.inr (Str.ofString "def"),Sum.inr x]=some (.int rows.length):=by
 have z2:=sz 2 (by decide);obtain ⟨S1,e1,h1,k1⟩:=AR ps ds k S ho (by omega) hp;have g1:SH F S1 I r p d nm rows kv sl:=⟨jm k1 rfl h.hI,jm k1 rfl h.hr,jm k1 rfl h.hp,jm k1 rfl h.hd,λ i o e=>jm k1 rfl (h.f i o e),h.fI,h.fr,h.fp⟩
 obtain ⟨S2,e2,g2⟩:=A7 g1 h1 x (by omega);have l2:=cQ kv [Sum.inr (Str.ofString "def"),Sum.inr x] (.int rows.length);obtain ⟨S3,kv3,e3,g3,l3,d3⟩:=zT .none (FC hp hl ho) ds k S2 rows _ (λ t ht=>⟨ho t ht,Pb ht⟩) (by omega) (by omega) g2;have al:=jA (dd [] (ps++f8 ds)) ds k ho;have l4:=cQ kv3 [Sum.inr (Str.ofString "last"),Sum.inr x] (.int (rows++dh (dd [] (ps++f8 ds)) k ds).length);have g4:=g3.spot (bo kv3 [Sum.inr (Str.ofString "last"),Sum.inr x] (.int (rows++dh (dd [] (ps++f8 ds)) k ds).length));refine ⟨_,S.length,_,?_,g4.row _,by omega,?_⟩
 . refine (ai (bT (lF (S1:=S1) (fs:=mh r p d nm) (I:=I) (ds:=[.str x,.ref S.length]) rfl h.hI (Fj _ FX _ _ _ _) (ji (S1:=S) rfl (ji (S1:=S1) (bB (S1:=S) (by first | rfl | simp! [uS,uD]) e1) rfl)) e2))).trans ?_;refine (ai (bT (bB (S1:=S2) (by first | rfl | simp! [uS,uD]) e3))).trans ?_;refine (ai (Kf g3 (x:=[.str "last", .str x]) rfl (by omega) rfl (by first | rfl | simp! [uS,uD,Rt z2]))).trans ?_;exact mC g4 (gU last) (by simp;omega) rfl (by first | rfl | simp! [gU,uS,uD,Rt z2])
 . rw [dA,RJ (by simp [QL.symm]),d3,dA,Rt rfl]
noncomputable def mW (N:List De) (b e:Int):W:=.tuple [.str "main", .list [],.list (aK (b+1) N),.int b,.int e]
theorem Kz (ds:List De) (b e:Int):bQ (af 0) (au bw 0[0]! !"main") (ae 0) [.no] [mW ds b e]=some [mW ds b e]:=by
 first | rfl | simp! [bQ,mW,uD,kQ,TQ]
theorem Gf (ds:List De) (b e:Int):bQ (af 0) (au yH 0[0]! !"main") (ae 0) [.no] [mW ds b e]=some []:=by
 first | rfl | simp! [bQ,mW,uD,kQ,TQ]
noncomputable def NN (ds:List De):List Str:=dd [] (f8 ds)
noncomputable def dr (ds:List De) (b e:Int):List W:=dh (NN ds) (b+1) ds++[gU e]
theorem D8 (ds:List De) (b e:Int) (S:aq) (ho:∀ d∈ds,qP d) (hl:ds.length<=63):∃ S',uq [.list [mW ds b e]] S=some (.ok (.list (dr ds b e)),S')/\∀ (i:Nat) (o:Ob),S[i]?=some o->S'[i]?=some o:=by
 have z1:=sz 1 (by decide);obtain ⟨S0,e0,g0⟩:=C0 S;let pr:W:=.list [mW ds b e];obtain ⟨S1,d1,kv1,e1,g1,l1,v1⟩:=Gs g0 (Str.ofString "main") [] ds (b+1) e (.val pr) (.val pr) (.val (.int b)) (by simp) (by omega) ho (by simp) (by simp);have al:=jA (dd [] ([]++f8 ds)) ds (b+1) ho;have er:[]++dh (dd [] ([]++f8 ds)) (b+1) ds++[gU e]=dr ds b e:=by simp [dr,NN]
 rw [er] at g1;have g5:=g1;refine ⟨S1,?_,g1.f⟩;refine (aU rfl).trans ((RO eF (?_:_=some (.rt (.list (dr ds b e)),S1))).trans rfl);refine (ai (δ':=[.val pr,.val (.ref S.length),.no,.no,.no,.no,.no,.no]) (S':=S0) (bi (CT (S1:=S) (ds:=[]) rfl e0) rfl)).trans ?_;refine (ai (δ':=[.val pr,.val (.ref S.length),.val pr,.no,.no,.no,.no,.no]) (S':=S0) ?_).trans ?_
 . have ga:bI (.list [mW ds b e]) (.list [])=some pr:=gG (a:=[mW ds b e]) (b:=[]) (sz 1 (by decide));refine aR (aP (d:=pr) ?_ rfl);first | rfl | (simp! [pr,uD,Rt z1];rw [Kz,Gf];simp only [RG,Sw,ga])
 refine (ai ((bD (S1:=S0) (ds:=[mW ds b e]) (by first | rfl | simp! [pr,uS,uD])).trans ((aH (by simp! [mW,uD] <;> rfl) e1).trans rfl))).trans ?_;refine jq (sj (n:=(S.length+1,.l)) (S0:=S1) ?_ (by decide) ?_)
 . first | rfl | simp! [uS,uD,jh g5.hI,Jp,mN g5.hr]
 . have A:Al (Ey S1 (S.length+2)) (dr ds b e) (dr ds b e):=(zo _ _ _).app (.cons (gw ⟨_,_,rfl,by decide +kernel⟩ _ _) .nil);have hs:∀ x y,Ey S1 (S.length+2) x y->∃ δ2,af 1 x [.val (.ref S.length),.no]=some δ2/\cy gY (aT (ab (ae 1)) (aT (gy "Sheet" "spots" (ab (ae 0))) fw)) δ2 S1=some (.ok y,S1):=λ x y hxy=>by
    refine ⟨_,rfl,bB (S1:=S1) (ds:=[x,.ref (S.length+2)]) ?_ hxy⟩;first | rfl | simp! [uS,uD,jh g5.hI,Mj]
   exact Em (EX g5.hr) hs A 9000 0 rfl (by simp [dr,NN] at al ⊢;omega)
noncomputable def xk (t:Tr):Prop:=∀ x∈vB t,PyData.strOk x=true
theorem P5:∀ k:Fin 3,PyData.strOk (AX k)=true:=by decide +kernel
theorem PB:∀ k:Fin 7,PyData.strOk (m6 k)=true:=by decide +kernel
theorem mF {k:Fin 7} {a b:Tr} (h:xk (.op k a b)):xk a/\xk b:=⟨λ x hx=>h x (by rw [qJ];simp [hx]),λ x hx=>h x (by rw [qJ];simp [hx])⟩
theorem vt:∀ (t:Tr),xk t->mz (tw t)=true
 | .num v,_=>by simp only [tw,mz,fm,Us];decide +kernel
 | .sig k,_=>by simp only [tw,mz,fm,Us];exact P5 k
 | .nam x,h=>by
  have:=h x (by simp [vB,AU,kD]);simp only [tw,mz,fm,Us,this];decide +kernel
 | .box t,h=>by
  have:=vt t (λ x hx=>h x (by simpa [vB,kD] using hx));simp only [tw,mz,fm,Us,this];decide +kernel
 | .op k t u,h=>by
  have h1:=vt t (mF h).1;have h2:=vt u (mF h).2;simp only [tw,mz,fm,Us,h1,h2];exact PB k
theorem qc:∀ (t:Tr),gQ (tw t)<=iS t+1
 | .num v=>by simp [tw,gQ,bZ,iS]
 | .sig k=>by simp [tw,gQ,bZ,iS]
 | .nam x=>by simp [tw,gQ,bZ,iS]
 | .box t=>by have:=qc t;simp [tw,gQ,bZ,iS];omega
 | .op k t u=>by have:=qc t;have:=qc u;simp [tw,gQ,bZ,iS];omega
inductive Fm where
 | fixed (v:Int) | lane (v:Int) | any
noncomputable def dR:Fm->W
 | .fixed v=>.tuple [.str "fixed", .int v]
 | .lane v=>.tuple [.str "lane", .int v]
 | .any=>.tuple [.str "any", .int 0]
noncomputable def Cv:Tr->Bool
 | .sig k=>decide (k=0)
 | _=>false
noncomputable def zF:Tr->Bool
 | .num _=>true
 | _=>false
noncomputable def HP:Tr->Int
 | .num v=>v
 | _=>0
noncomputable def Jq:Tr->Bool
 | .op k _ _=>decide (k=0)
 | _=>false
noncomputable def HW (a b:Tr):Fm:=if Cv a&&zF b then .lane (HP b) else if zF a&&Cv b then .lane (HP a) else .any
noncomputable def fo:Tr->Fm
 | .num v=>.fixed v
 | .sig k=>if decide (k=0) then .lane 0 else .any
 | .op k a b=>if decide (k=0) then HW a b else .any
 | _=>.any
noncomputable def E7:Tr->Str
 | .num _=>Str.ofString "num" | .sig k=>AX k | .nam _=>Str.ofString "name" | .box _=>Str.ofString "box" | .op k _ _=>m6 k
noncomputable def Rk:Tr->List W
 | .num v=>[.int v] | .sig _=>[] | .nam x=>[.str x] | .box t=>[tw t] | .op _ a b=>[tw a,tw b]
theorem yT (t:Tr):tw t=.tuple (.str (E7 t)::Rk t):=by cases t <;> rfl
theorem Mr (t:Tr):decide (E7 t=Str.ofString "lane")=Cv t:=by
 cases t with
 | sig k=>exact (by decide +kernel:∀ k:Fin 3,decide (AX k=Str.ofString "lane")=decide (k=0)) k
 | op k a b=>exact (by decide +kernel:∀ k:Fin 7,decide (m6 k=Str.ofString "lane")=false) k
 | num v=>exact (by decide +kernel:decide (Str.ofString "num" = Str.ofString "lane")=false)
 | nam x=>exact (by decide +kernel:decide (Str.ofString "name" = Str.ofString "lane")=false)
 | box t=>exact (by decide +kernel:decide (Str.ofString "box" = Str.ofString "lane")=false)
theorem Lp (t:Tr):decide (E7 t=Str.ofString "num")=zF t:=by
 cases t with
 | sig k=>exact OW k
 | op k a b=>exact OA k
 | num v=>exact (by decide +kernel:decide (Str.ofString "num" = Str.ofString "num")=true)
 | nam x=>exact (by decide +kernel:decide (Str.ofString "name" = Str.ofString "num")=false)
 | box t=>exact (by decide +kernel:decide (Str.ofString "box" = Str.ofString "num")=false)
theorem Oy (t:Tr):decide (E7 t=Str.ofString "+")=Jq t:=by
 cases t with
 | sig k=>exact (by decide +kernel:∀ k:Fin 3,decide (AX k=Str.ofString "+")=false) k
 | op k a b=>exact (by decide +kernel:∀ k:Fin 7,decide (m6 k=Str.ofString "+")=decide (k=0)) k
 | num v=>exact (by decide +kernel:decide (Str.ofString "num" = Str.ofString "+")=false)
 | nam x=>exact (by decide +kernel:decide (Str.ofString "name" = Str.ofString "+")=false)
 | box t=>exact (by decide +kernel:decide (Str.ofString "box" = Str.ofString "+")=false)
theorem AT {f:DS->Option W} {δ:DS} {t:Tr} {x:Str} {b:Bool} (h:f δ=some (tw t)) (e:decide (E7 t=x)=b):au bw (ao aO f !0) (dC (.str x)) δ=some b:=by
 rw [yT] at h;subst e;first | rfl | simp! [uD,h,kQ]
theorem xI {f g:DS->Option Bool} {δ:DS} {a b:Bool} (h1:f δ=some a) (h2:a=true->g δ=some b):gT f g δ=some (a&&b):=by
 cases a with
 | true=>simp only [gT,h1,RG,UD,h2 rfl,UR]
 | false=>simp only [gT,h1,RG,Sr,Up,Bool.false_and]
theorem FZ {c:DS->Option Bool} {f k:DS->Option eI} {δ:DS} {b:Bool} {d:W} (h:c δ=some b) (h1:b=true->f δ=some (.rt d)) (h2:b=false->k δ=some (.rt d)):ak (bg c f av) k δ=some (.rt d):=by
 cases b with
 | true=>exact bX (aj h (h1 rfl))
 | false=>exact ag (aj h rfl) (h2 rfl)
theorem qr {f g:DS->Option W} {δ:DS} {x y:W} (h1:f δ=some x) (h2:g δ=some y):aB #[f,g] δ=some (.tuple [x,y]):=by
 have z2:=sz 2 (by decide);first | rfl | simp! [uD,h1,h2,Rt z2]
theorem La {t:Tr} (h:zF t=true):tw t=.tuple [.str "num", .int (HP t)]:=by
 cases t with
 | num v=>rfl
 | _=>cases h
theorem Fe (a b:Tr):gK [tw a,tw b]=some (dR (HW a b)):=by
 refine bP rfl (FZ (xI (AT rfl (Mr a)) λ _=>AT rfl (Lp b)) (λ h=>?_) λ h1=>?_)
 . have h':=(Ta.mp h).2;rw [show HW a b=.lane (HP b) from Rt h];exact aI (qr rfl (x1 (l:=[]) (RO some (La h'))))
 . refine FZ (xI (AT rfl (Lp a)) λ _=>AT rfl (Mr b)) (λ h=>?_) λ h2=>?_
   . have h':=(Ta.mp h).1;rw [show HW a b=.lane (HP a) from (RJ (by rw [h1];decide)).trans (Rt h)];exact aI (qr rfl (x1 (l:=[]) (RO some (La h'))))
   . rw [show HW a b=.any from (RJ (by rw [h1];decide)).trans (RJ (by rw [h2];decide))];exact aI (qr rfl rfl)
theorem No {t:Tr} (h:zF t=true):fo t=.fixed (HP t):=by
 cases t with
 | num v=>rfl
 | _=>cases h
theorem MU {t:Tr} (h:Cv t=true):fo t=.lane 0:=by
 cases t with
 | sig k=>exact Rt h
 | _=>cases h
theorem Mt {t:Tr} (h1:zF t=false) (h2:Cv t=false) (h3:Jq t=false):fo t=.any:=by
 cases t with
 | num v=>cases h1
 | sig k=>exact RJ (by rw [show decide (k=0)=false from h2];decide)
 | op k a b=>exact RJ (by rw [show decide (k=0)=false from h3];decide)
 | _=>rfl
theorem Qf {t:Tr} (h:Jq t=true):∃ a b,t=.op 0 a b:=by
 cases t with
 | op k a b=>exact ⟨a,b,by rw [show k=0 from Sh h]⟩
 | _=>cases h
theorem vk (t:Tr):il [tw t]=some (dR (fo t)):=by
 refine bP rfl (FZ (AT rfl (Lp t)) (λ h=>?_) λ h1=>?_)
 . rw [No h];exact aI (qr rfl (x1 (l:=[]) (RO some (La h))))
 refine FZ (AT rfl (Mr t)) (λ h=>?_) λ h2=>?_
 . rw [MU h];exact aI (qr rfl rfl)
 refine FZ (AT rfl (Oy t)) (λ h=>?_) λ h3=>?_
 . obtain ⟨a,b,rfl⟩:=Qf h;refine aI ?_;have s:=Fe a b;first | rfl | (simp! [tw,uD,vJ,DF,s];rfl)
 . rw [Mt h1 h2 h3];exact aI (qr rfl rfl)
noncomputable def ki:W:=.tuple [.str "lane"]
theorem LK {t:Tr} (ok:xk t) (hd:iS t<=9):bw (tw t) ki=some (Cv t):=by
 obtain ⟨a,e1,e2,e3,_⟩:=x4 (tw t) (vt t ok);have d1:=qc t;have hs:LS (tw t) ki=none:=by rw [yT];rfl
 have hb:ki.py=some (.tuple [.str "lane"]):=rfl;unfold bw;rw [hs,e1,hb];show (if _ then _ else _)=_;rw [Rt (by rw [e2,e3];simp only [RY,R5];exact ⟨⟨trivial,by decide +kernel⟩,by omega⟩)];rw [<-Mr t];rw [yT] at e1;obtain ⟨r,r1,rfl⟩:=oM e1
 obtain ⟨y,y1,r1⟩:=oB r1
 cases y1;obtain ⟨q,q1,rfl⟩:=oM r1
 refine RO some ?_;show (PyData.eqv (.str (E7 t)) (.str "lane")&&PyData.eqvAll q [])=_;have e5:PyData.eqv (.str (E7 t)) (.str "lane")=decide (E7 t=Str.ofString "lane"):=by
  show (E7 t==Str.ofString "lane")=_;exact Bool.beq_eq_decide_eq _ _
 rw [e5];cases e6:decide (E7 t=Str.ofString "lane") with
 | false=>rfl
 | true=>
  rw [Mr] at e6;cases t with
  | sig k=>cases q1;rfl
  | _=>cases e6
noncomputable def lf:Tr->Tr
 | .op _ a _=>a
 | t=>t
noncomputable def rt':Tr->Tr
 | .op _ _ b=>b
 | t=>t
theorem sw {t:Tr} (ok:xk t) (hd:iS t<=9):gg [tw t]=some (dR (fo t)):=by
 have z1:=sz 1 (by decide);refine bP rfl (ag (δ1:=[.val (tw t),.val ki]) (aP (d:=ki) (by first | rfl | simp! [ki,uD,Rt z1]) rfl) ?_);refine FZ (AT rfl (Lp t)) (λ h=>?_) λ h1=>?_
 . rw [No h];exact aI (qr rfl (x1 (l:=[]) (RO some (La h))))
 refine FZ (show au bw (ar 0) (ar 1) _=some (Cv t) from (LK ok hd)) (λ h=>?_) λ h2=>?_
 . rw [MU h];exact aI (qr rfl rfl)
 have op:Jq t=true->xk (lf t)/\xk (rt' t)/\iS (lf t)<=9/\iS (rt' t)<=9/\0[1]! [.val (tw t),.val ki]=some (tw (lf t))/\0[2]! [.val (tw t),.val ki]=some (tw (rt' t))/\fo t=HW (lf t) (rt' t):=λ h=>by
  obtain ⟨a,b,rfl⟩:=Qf h;simp only [iS] at hd;exact ⟨(mF ok).1,(mF ok).2,by show iS a<=9;omega,by show iS b<=9;omega,x1 rfl,x2 rfl,rfl⟩
 have eL:∀ {x:Tr} {f:DS->Option W},xk x->iS x<=9->f [.val (tw t),.val ki]=some (tw x)->au bw f (ar 1) [.val (tw t),.val ki]=some (Cv x):=λ {x f} o d e=>by
  show (f _).bind _=_;rw [e];exact LK o d
 refine FZ (b:=Jq t&&(Cv (lf t)&&zF (rt' t))) (xI (AT rfl (Oy t)) λ h=>?_) (λ h=>?_) λ h3=>?_
 . obtain ⟨o1,o2,d1,d2,e1,e2,_⟩:=op h;exact xI (eL o1 d1 e1) λ _=>AT e2 (Lp _)
 . obtain ⟨h,h'⟩:=Ta.mp h;obtain ⟨o1,o2,d1,d2,e1,e2,e3⟩:=op h;rw [e3,show HW (lf t) (rt' t)=.lane (HP (rt' t)) from Rt h'];exact aI (qr rfl (x1 (l:=[]) (e2.trans (RO some (La (Ta.mp h').2)))))
 refine FZ (b:=Jq t&&(Cv (rt' t)&&zF (lf t))) (xI (AT rfl (Oy t)) λ h=>?_) (λ h=>?_) λ h4=>?_
 . obtain ⟨o1,o2,d1,d2,e1,e2,_⟩:=op h;exact xI (eL o2 d2 e2) λ _=>AT e1 (Lp _)
 . obtain ⟨h,h'⟩:=Ta.mp h;obtain ⟨o1,o2,d1,d2,e1,e2,e3⟩:=op h;rw [h,UR] at h3;rw [e3,show HW (lf t) (rt' t)=.lane (HP (lf t)) from (RJ (by rw [h3];decide)).trans (Rt (by rw [Bool.and_comm];exact h'))];exact aI (qr rfl (x1 (l:=[]) (e1.trans (RO some (La (Ta.mp h').2)))))
 . have ea:fo t=.any:=by
    cases hp:Jq t with
    | false=>exact Mt h1 h2 hp
    | true=>
     rw [hp,UR] at h3 h4;rw [(op hp).2.2.2.2.2.2];exact (RJ (by rw [h3];decide)).trans (RJ (by rw [Bool.and_comm,h4];decide))
   rw [ea];exact aI (qr rfl rfl)
noncomputable def mm:Fm->Fm->Bool
 | .fixed a,.fixed b=>decide (a=b)
 | .lane a,.lane b=>!decide (a=b)
 | _,_=>true
theorem tP (f g:Fm):mm f g=mm g f:=by
 cases f <;> cases g <;> simp [mm,eq_comm]
theorem Cq (f g:Fm):i9 [dR f,dR g]=some (.bool (mm f g)):=by
 cases f <;> cases g <;> rfl
theorem xu (f g:Fm):dZ [dR f,dR g]=some (.bool (mm f g)):=by
 cases f <;> cases g <;> rfl
theorem gJ {h:W->DS->Option DS} {fb:DS->Option eI} {d:W} {ds:List W} {δ δ2 δ':DS} (h1:h d δ=some δ2) (h2:fb δ2=some (.nx δ')):aE h fb (d::ds) δ=aE h fb ds δ':=by
 simp only [aE,h1,RG,h2]
theorem B7 {h:W->DS->Option DS} {fb:DS->Option eI} {d x:W} {ds:List W} {δ δ2:DS} (h1:h d δ=some δ2) (h2:fb δ2=some (.rt x)):aE h fb (d::ds) δ=some (.rt x):=by
 simp only [aE,h1,RG,h2]
theorem Hu {s0 s1:Sl} (p:Fm):∀ (ts:List Fm) (s3:Sl),∃ s3',aE (af 3) kz (ts.map dR) [s0,s1,.val (dR p),s3]=some (if ts.any (mm p)=true then .rt (.bool true) else .nx [s0,s1,.val (dR p),s3'])
 | [],s3=>⟨s3,rfl⟩
 | t::ts,s3=>by
  obtain ⟨s3',e⟩:=Hu (s0:=s0) (s1:=s1) p ts (.val (dR t));have c:my (aV i9 #[ae 2,ae 3]) [s0,s1,.val (dR p),.val (dR t)]=some (mm p t):=by
   have:=Cq p t;first | rfl | simp! [uD,this]
  rw [Uo];cases hm:mm p t with
  | true=>
   rw [hm] at c;exact ⟨.no,B7 rfl (aj c rfl)⟩
  | false=>
   rw [hm] at c;exact ⟨s3',(gJ rfl (aj c rfl)).trans e⟩
theorem rN (ps ts:List Fm):dG [.list (ps.map dR),.list (ts.map dR)]=some (.bool (ps.any λ p=>ts.any (mm p))):=by
 have lp:∀ (qs:List Fm) (s2 s3:Sl),∃ s2' s3',aE (af 2) ke (qs.map dR) [.val (.list (ps.map dR)),.val (.list (ts.map dR)),s2,s3]=some (if (qs.any λ p=>ts.any (mm p))=true then .rt (.bool true) else .nx [.val (.list (ps.map dR)),.val (.list (ts.map dR)),s2',s3']):=by
  intro qs;induction qs with
  | nil=>exact λ s2 s3=>⟨s2,s3,rfl⟩
  | cons q qs ih=>
   intro s2 s3;obtain ⟨s3',e⟩:=Hu (s0:=.val (.list (ps.map dR))) (s1:=.val (.list (ts.map dR))) q ts s3;obtain ⟨s2'',s3'',e2⟩:=ih (.val (dR q)) s3';rw [Uo];cases hm:ts.any (mm q) with
   | true=>
    rw [hm] at e;exact ⟨.no,.no,B7 rfl (cJ (ds:=ts.map dR) rfl e)⟩
   | false=>
    rw [hm] at e;exact ⟨s2'',s3'',(gJ rfl (cJ (ds:=ts.map dR) rfl e)).trans e2⟩
 obtain ⟨s2,s3,e⟩:=lp ps .no .no;refine bP rfl ?_;cases hm:ps.any λ p=>ts.any (mm p) with
 | true=>rw [hm] at e;exact bX (cJ (ds:=ps.map dR) rfl e)
 | false=>rw [hm] at e;exact ag (cJ (ds:=ps.map dR) rfl e) rfl
noncomputable def mi:Tr->List Tr
 | .box t=>t::mi t
 | .op _ a b=>mi a++mi b
 | _=>[]
noncomputable def jf:Tr->List Fm
 | .box t=>jf t++[fo t]
 | .op _ a b=>jf a++jf b
 | _=>[]
theorem i6:∀ t,(mi t).length<=dU t
 | .num _=>by simp [mi,dU]
 | .sig _=>by simp [mi,dU]
 | .nam _=>by simp [mi,dU]
 | .box t=>by have:=i6 t;simp [mi,dU];omega
 | .op _ a b=>by have:=i6 a;have:=i6 b;simp [mi,dU];omega
theorem iw:∀ t,(jf t).length<=dU t
 | .num _=>by simp [jf,dU]
 | .sig _=>by simp [jf,dU]
 | .nam _=>by simp [jf,dU]
 | .box t=>by have:=iw t;simp [jf,dU];omega
 | .op _ a b=>by have:=iw a;have:=iw b;simp [jf,dU];omega
theorem oR (f:Fm):∀ t,f∈jf t↔f∈(mi t).map fo
 | .num _=>by simp [jf,mi]
 | .sig _=>by simp [jf,mi]
 | .nam _=>by simp [jf,mi]
 | .box t=>by
  simp only [jf,mi,Rz,oR f t,RU,Rx,RT,Te];exact or_comm
 | .op _ a b=>by rw [jf,mi,Rz,oR f a,oR f b,RW,Rz]
theorem tM {pf:List W->Option W} {e x:W} {ds es:List W} (h:pf [x]=some (.list es)) (hz:ds.length+es.length<=9000):c9 pf [.val e,.own ds,.val x]=some (.nx [.val e,.own (ds++es),.val x]):=by
 have hz:=sz _ hz;first | rfl | simp! [c9,fB,uD,h,Rt hz]
theorem i7:∀ (t:Tr) (n:Nat),iS t<n->dU t<=500->br n [tw t]=some (.list ((mi t).map tw))
 | _,0,h,_=>absurd h (Ut _)
 | .num v,n+1,_,_=>by
  have z0:=sz 0 (by decide);first | rfl | simp! [br,tw,mi,uD,kQ,Pd,Qt,Rt z0]
 | .sig k,n+1,_,_=>by
  have z0:=sz 0 (by decide);first | rfl | simp! [br,tw,mi,uD,kQ,OY,Qp,Rt z0]
 | .nam x,n+1,_,_=>by
  have z0:=sz 0 (by decide);first | rfl | simp! [br,tw,mi,uD,kQ,OJ,Qm,Rt z0]
 | .box t,n+1,h,hc=>by
  have z1:=sz 1 (by decide);have ih:=i7 t n (by simp only [iS] at h;omega) (by simp only [dU] at hc;omega);have l:=i6 t;have st:∀ e,c9 (br n) [.val e,.own [tw t],.val (tw t)]=some (.nx [.val e,.own ([tw t]++(mi t).map tw),.val (tw t)]):=λ e=>tM ih (by simp only [dU] at hc;simp;omega);first | rfl | simp! [br,tw,mi,uD,EH,kQ,vJ,TQ,Bool.not_true,jG,pL,Rt z1,aE,st]
 | .op k a b,n+1,h,hc=>by
  have z0:=sz 0 (by decide);have iha:=i7 a n (by simp only [iS] at h;omega) (by simp only [dU] at hc;omega);have ihb:=i7 b n (by simp only [iS] at h;omega) (by simp only [dU] at hc;omega);have la:=i6 a;have lb:=i6 b;have s1:∀ e,c9 (br n) [.val e,.own [],.val (tw a)]=some (.nx [.val e,.own ([]++(mi a).map tw),.val (tw a)]):=λ e=>tM iha (by simp only [dU] at hc;simp;omega);have s2:∀ e,c9 (br n) [.val e,.own ((mi a).map tw),.val (tw b)]=some (.nx [.val e,.own ((mi a).map tw++(mi b).map tw),.val (tw b)]):=λ e=>tM ihb (by simp only [dU] at hc;simp;omega);first | rfl | simp! [br,tw,mi,uD,EH,kQ,Oa,Qd,jG,pL,Rt z0,aE,s1,s2,RW]
theorem uT {pf:List W->Option W} {e x:W} {ds es:List W} (h:pf [x]=some (.list es)) (hz:ds.length+es.length<=9000):c6 pf [.val e,.own ds,.val x]=some (.nx [.val e,.own (ds++es),.val x]):=by
 have hz:=sz _ hz;first | rfl | simp! [c6,yg,Cs,uD,h,Rt hz]
theorem lU:∀ (t:Tr) (n:Nat),iS t<n->dU t<=500->iS t<=9->xk t->bu n [tw t]=some (.list ((jf t).map dR))
 | _,0,h,_,_,_=>absurd h (Ut _)
 | .num v,n+1,_,_,_,_=>by
  have z0:=sz 0 (by decide);first | rfl | simp! [bu,tw,jf,uD,kQ,Pd,TQ,Rt z0]
 | .sig k,n+1,_,_,_,_=>by
  have z0:=sz 0 (by decide);first | rfl | simp! [bu,tw,jf,uD,kQ,OW,Pq,OY,jG,pL,aE,Rt z0]
 | .nam x,n+1,_,_,_,_=>by
  have z0:=sz 0 (by decide);first | rfl | simp! [bu,tw,jf,uD,kQ,OJ,Qi,TQ,Rt z0]
 | .box t,n+1,h,hc,hd,ok=>by
  have z0:=sz 0 (by decide);simp only [iS] at hd;have ok':xk t:=λ x hx=>ok x (by simpa [vB,kD] using hx);have ih:=lU t n (by simp only [iS] at h;omega) (by simp only [dU] at hc;omega) (by omega) ok';have l:=iw t;have fr:=sw ok' (by omega);have st:∀ e,c6 (bu n) [.val e,.own [],.val (tw t)]=some (.nx [.val e,.own ([]++(jf t).map dR),.val (tw t)]):=λ e=>uT ih (by simp only [dU] at hc;simp;omega);have hz:((jf t).map dR).length<sizeLine:=RD (by simp only [dU] at hc;simp;omega:_<9000) (sz 9000 (by decide));first | rfl | simp! [bu,tw,jf,uD,bF,kQ,vJ,Qu,Ov,TQ,jG,pL,Rt z0,aE,st,fr,Rt hz,RW]
 | .op k a b,n+1,h,hc,hd,ok=>by
  have z0:=sz 0 (by decide);simp only [iS] at hd;have iha:=lU a n (by simp only [iS] at h;omega) (by simp only [dU] at hc;omega) (by omega) (mF ok).1;have ihb:=lU b n (by simp only [iS] at h;omega) (by simp only [dU] at hc;omega) (by omega) (mF ok).2;have la:=iw a;have lb:=iw b;have s1:∀ e,c6 (bu n) [.val e,.own [],.val (tw a)]=some (.nx [.val e,.own ([]++(jf a).map dR),.val (tw a)]):=λ e=>uT iha (by simp only [dU] at hc;simp;omega);have s2:∀ e,c6 (bu n) [.val e,.own ((jf a).map dR),.val (tw b)]=some (.nx [.val e,.own ((jf a).map dR++(jf b).map dR),.val (tw b)]):=λ e=>uT ihb (by simp only [dU] at hc;simp;omega);first | rfl | simp! [bu,tw,jf,uD,kQ,OA,PZ,Oa,jG,pL,Rt z0,aE,s1,s2,RW]
noncomputable def Kp (S S':aq):Prop:=∀ (i:Nat) (o:Ob),S[i]?=some o->S'[i]?=some o
noncomputable def fK:Fm->List b8
 | .fixed v=>[.inr (Str.ofString "fixed"),.inl v]
 | .lane v=>[.inr (Str.ofString "lane"),.inl v]
 | .any=>[.inr (Str.ofString "any"),.inl 0]
theorem OL (f:Fm):Oe (fK f)=dR f:=by cases f <;> rfl
theorem f3:Str.ofString "fixed" ≠ Str.ofString "lane" /\ Str.ofString "fixed" ≠ Str.ofString "any" /\ Str.ofString "lane" ≠ Str.ofString "any" := by decide +kernel
theorem KG {f g:Fm} (h:fK f=fK g):f=g:=by
 cases f <;> cases g <;> simp [fK,f3.1,f3.2.1,f3.2.2,f3.1.symm,f3.2.1.symm,f3.2.2.symm] at h <;> (try rw [h]) <;> rfl
noncomputable def vD (L:List Fm):List (List b8×W):=L.map λ f=>(fK f,.bool true)
theorem GG (f:Fm) (L:List Fm):∃ L',bo (vD L) (fK f) (.bool true)=vD L'/\(∀ g,g∈L'↔g=f∨g∈L)/\L'.length<=L.length+1:=by
 by_cases h:f∈L
 . refine ⟨L,?_,λ g=>⟨.inr,λ z=>z.elim (λ z=>z▸h) id⟩,by omega⟩;have ha:((vD L).any λ kv=>decide (kv.1=fK f))=true:=R7.mpr ⟨_,Sc.mpr ⟨f,h,rfl⟩,by simp⟩;rw [bo,Rt ha,vD,T8];exact TZ λ g _=>by
    show (if fK g=fK f then _ else _)=_;split <;> rfl
 . refine ⟨L++[f],?_,λ g=>by rw [Rz,RE];exact or_comm,by simp⟩;have ha:¬ ((vD L).any λ kv=>decide (kv.1=fK f))=true:=λ z=>by
    obtain ⟨x,hx,e⟩:=R7.mp z;obtain ⟨g,hg,rfl⟩:=Sc.mp hx;exact h (KG (Sh e)▸hg)
   rw [bo,RJ ha,vD,vD,RW];rfl
theorem Gv (f:Fm):∃ x,dR f=.tuple x/\mV x=some (fK f):=by cases f <;> exact ⟨_,rfl,rfl⟩
theorem Ho {s0 s2:Sl} {d:Nat}:∀ (ps:List Tr) (L:List Fm) (S:aq) (s3:Sl),S[d]?=some (.dT (vD L))->L.length+ps.length<=8000->
 ∃ L' S' s3',aS (af 3) fc (ps.map tw) [s0,.val (.ref d),s2,s3] S=some (.nx [s0,.val (.ref d),s2,s3'],S')/\S'[d]?=some (.dT (vD L'))/\(∀ m,m≠d->S'[m]?=S[m]?)/\(∀ g,g∈L'↔g∈ps.map fo∨g∈L)/\L'.length<=L.length+ps.length
 | [],L,S,s3,h,_=>⟨L,S,s3,rfl,h,λ _ _=>rfl,by simp,by simp⟩
 | t::ps,L,S,s3,h,hl=>by
  simp only [RM] at hl;obtain ⟨L1,e1,m1,l1⟩:=GG (fo t) L;obtain ⟨x,hx,hk⟩:=Gv (fo t);have pa:mS (.ref d) (dR (fo t)) (.bool true) S=some (S.set d (.dT (vD L1))):=by
   rw [hx,xw hk h (by simp [vD];omega),e1]
  have fr:=vk t;have st:fc [s0,.val (.ref d),s2,.val (tw t)] S=some (.nx [s0,.val (.ref d),s2,.val (tw t)],S.set d (.dT (vD L1))):=by
   first | rfl | simp! [fc,bW,uS,uD,fr,pa]
  obtain ⟨L',S',s3',e2,g2,k2,m2,l2⟩:=Ho ps L1 _ (.val (tw t)) (set_eq' h) (by omega);refine ⟨L',S',s3',(aH rfl st).trans e2,g2,λ m hm=>(k2 m hm).trans (RI (SN hm)),λ g=>?_,by simp;omega⟩;rw [m2,m1,RU,Rx];exact ⟨λ z=>z.elim (λ z=>.inl (.inr z)) λ z=>z.elim (λ z=>.inl (.inl z)) .inr,λ z=>z.elim (λ z=>z.elim (λ z=>.inr (.inl z)) .inl) λ z=>.inr (.inr z)⟩
theorem CN {s0:Sl} {d:Nat}:∀ (ts:List Tr) (L:List Fm) (S:aq) (s2 s3:Sl),(∀ t∈ts,Lc t)->S[d]?=some (.dT (vD L))->L.length+cz ts<=8000->
 ∃ L' S' s2' s3',aS (af 2) kb (ts.map tw) [s0,.val (.ref d),s2,s3] S=some (.nx [s0,.val (.ref d),s2',s3'],S')/\S'[d]?=some (.dT (vD L'))/\(∀ m,m≠d->S'[m]?=S[m]?)/\(∀ g,g∈L'↔g∈ts.flatMap jf∨g∈L)/\L'.length<=L.length+cz ts
 | [],L,S,s2,s3,_,h,_=>⟨L,S,s2,s3,rfl,h,λ _ _=>rfl,by simp,by simp⟩
 | t::ts,L,S,s2,s3,ok,h,hl=>by
  have o:=ok t (by simp);have pl:=i6 t;simp only [cz,RU,List.sum_cons] at hl;obtain ⟨L1,S1,s3',e1,g1,k1,m1,l1⟩:=Ho (s0:=s0) (s2:=.val (tw t)) (mi t) L S s3 h (by omega);obtain ⟨L',S',s2'',s3'',e2,g2,k2,m2,l2⟩:=CN ts L1 S1 (.val (tw t)) s3' (λ u hu=>ok u (by simp [hu])) g1 (by simp only [cz];omega);have pr:=i7 t 9 o.1 (by have:=o.2;omega);refine ⟨L',S',s2'',s3'',(aH rfl ((bD (S1:=S) (ds:=(mi t).map tw) (by first | rfl | simp! [uS,uD,pr])).trans e1)).trans e2,g2,λ m hm=>(k2 m hm).trans (k1 m hm),λ g=>?_,by simp only [cz,RU,List.sum_cons] at *;omega⟩;rw [m2,m1,List.flatMap_cons,Rz,oR];exact ⟨λ z=>z.elim (λ z=>.inl (.inr z)) λ z=>z.elim (λ z=>.inl (.inl z)) .inr,λ z=>z.elim (λ z=>z.elim (λ z=>.inr (.inl z)) .inl) λ z=>.inr (.inr z)⟩
noncomputable def gF (d:De):List Fm:=(bv d).flatMap jf
theorem zU (k:Int) (d:De) (ho:qP d) (S:aq):∃ (L:List Fm) (S':aq),gj [bR k d] S=some (.ok (.list (L.map dR)),S')/\(∀ g,g∈L↔g∈gF d)/\L.length<=31/\Kp S S':=by
 obtain ⟨L,S',s2,s3,e,g,kp,m,l⟩:=CN (s0:=.val (bR k d)) (d:=S.length) (bv d) [] (S++[.dT []]) .no .no ho.t (ck _ _) (by have:=ho.c;simp;omega);refine ⟨L,S',?_,λ x=>by rw [m];simp [gF],by have:=ho.c;simp at l;omega,λ i o h=>?_⟩
 . have ex:=mv k d;refine (aU rfl).trans ((RO eF (?_:_=some (.rt (.list (L.map dR)),S'))).trans rfl);refine (ai (δ':=[.val (bR k d),.val (.ref S.length),.no,.no]) (S':=S++[.dT []]) (bi rfl rfl)).trans ?_;refine (ai ((bD (S1:=S++[.dT []]) (ds:=(bv d).map tw) (by first | rfl | simp! [uS,uD,ex])).trans e)).trans ?_;refine jq ?_;have da:vG (.ref S.length) S'=some (S.length,vD L):=by simp [vG,eK,g]
   have el:(vD L).map (λ e=>Oe e.1)=L.map dR:=by
    rw [vD,T8];exact TZ λ f _=>OL f
   first | rfl | simp! [wS,uS,uD,da,el]
 . have hi:i<S.length:=(oG h).1;rw [kp i (by omega)];exact aW h
noncomputable abbrev Tc:=Bool×Int×Fm
noncomputable def fE (t:Tc):W:=.tuple [.str (if t.1 then Str.ofString "put" else Str.ofString "get"),.int t.2.1,dR t.2.2]
noncomputable def MR:Sum Str Tr->W
 | .inl x=>.str x
 | .inr t=>tw t
noncomputable def J7:De->List (Sum Str Tr)
 | .set x t=>[.inl x,.inr t] | .put a b=>[.inr a,.inr b] | .tell t=>[.inr t] | .join x j t=>[.inl x,.inl j,.inr t] | .meet=>[] | .stop=>[]
theorem L7 (d:De):rs d=(J7 d).map MR:=by cases d <;> rfl
noncomputable def gp (l:List (Sum Str Tr)):List Fm:=l.flatMap λ x=>match x with | .inl _=>[] | .inr t=>jf t
theorem HU (d:De):gF d=gp (J7 d):=by cases d <;> simp [gF,gp,J7,bv]
noncomputable def putF:De->List Fm
 | .put a _=>[fo a]
 | _=>[]
noncomputable def jP (k:Int) (d:De):List Tc:=(gF d).map (λ f=>(false,k,f))++(putF d).map λ f=>(true,k,f)
theorem CD {e s3:Sl}:∀ (l:List (Sum Str Tr)) (A:List Fm) (s2:Sl),(∀ t,Sum.inr t∈l->Lc t/\xk t)->A.length+(gp l).length<=9000->
 ∃ s2',aE (af 2) ig (l.map MR) [e,.val (.list (A.map dR)),s2,s3]=some (.nx [e,.val (.list ((A++gp l).map dR)),s2',s3])
 | [],A,s2,_,_=>⟨s2,by simp [gp,aE]⟩
 | .inl x::l,A,s2,ok,hl=>by
  obtain ⟨s2',e1⟩:=CD (e:=e) (s3:=s3) l A (.val (.str x)) (λ t ht=>ok t (by simp [ht])) (by simpa [gp] using hl);exact ⟨s2',(gJ (δ2:=[e,.val (.list (A.map dR)),.val (.str x),s3]) rfl (aj (b:=false) rfl rfl)).trans e1⟩
 | .inr t::l,A,s2,ok,hl=>by
  obtain ⟨o,n⟩:=ok t (by simp);have eg:gp (.inr t::l)=jf t++gp l:=by simp [gp]
  rw [eg,RN] at hl;obtain ⟨s2',e1⟩:=CD (e:=e) (s3:=s3) l (A++jf t) (.val (tw t)) (λ t ht=>ok t (by simp [ht])) (by simp;omega);have gr:=lU t 9 o.1 (by have:=o.2;omega) (by have:=o.1;omega) n;have ga:=gG (a:=A.map dR) (b:=(jf t).map dR) (sz _ (by simp;omega));rw [<-RW] at ga;refine ⟨s2',(gJ rfl (aj (b:=true) (by rw [MR,yT];rfl) ?_)).trans (by rw [eg,<-RX];exact e1)⟩;refine aP (d:=.list ((A++jf t).map dR)) ?_ rfl;first | rfl | simp! [MR,uD,gr,ga]
theorem CY {k:Int} {d:De}:∀ (L:List Fm) (s1:Sl),bQ (af 1) zQ (aB #[!"get",0[1]!,ae 1]) [.val (bR k d),s1] (L.map dR)=some (L.map λ f=>fE (false,k,f))
 | [],_=>rfl
 | f::L,s1=>by
  have z3:=sz 3 (by decide);have ih:=CY (k:=k) (d:=d) L s1;simp! [RU,bQ,bR,fE,uD,vJ,Rt z3] at ih ⊢;simp only [ih];rfl
theorem HD (d:De):(decide (kw d=Str.ofString "put")=false/\putF d=[])∨∃ a b,d=.put a b:=by
 cases d with
 | put a b=>exact .inr ⟨a,b,rfl⟩
 | set x t=>exact .inl ⟨rF.2.2.2.2.1,rfl⟩
 | tell t=>exact .inl ⟨kK.2.2.2.2.1,rfl⟩
 | join x j t=>exact .inl ⟨eU.2.2.2.2.1,rfl⟩
 | meet=>exact .inl ⟨df.2.2.2.2.1,rfl⟩
 | stop=>exact .inl ⟨dD.2.2.2.2.1,rfl⟩
noncomputable def NR (d:De):Prop:=∀ t∈bv d,xk t
theorem qb:∀ ts:List Tr,(ts.flatMap jf).length<=cz ts
 | []=>by simp
 | t::ts=>by
  have:=qb ts;have:=iw t;simp [cz] at *;omega
theorem nW (k:Int) (d:De) (ho:qP d) (hm:NR d):eA [bR k d]=some (.list ((jP k d).map fE)):=by
 have z0:=sz 0 (by decide);have z3:=sz 3 (by decide);have hc:=ho.c;have gl:(gF d).length<=31:=Sb (qb _) hc;have pm:∀ t,Sum.inr t∈J7 d->t∈bv d:=λ t h=>by cases d <;> simp [J7,bv] at h ⊢ <;> exact h
 obtain ⟨s2,e1⟩:=CD (e:=.val (bR k d)) (s3:=.no) (J7 d) [] .no (λ t h=>⟨ho.t t (pm t h),hm t (pm t h)⟩) (by rw [<-HU];simp;omega);rw [Th,<-HU] at e1;refine bP rfl (ag (δ1:=[.val (bR k d),.val (.list []),.no,.no]) (by first | rfl | simp! [uD,Rt z0]) ?_);refine ag (cJ (ds:=(J7 d).map MR) ?_ e1) ?_
 . have:jG (ae 0) (d8 !2) cw [.val (bR k d),.val (.list []),.no,.no]=some (.tuple (rs d)):=by
    have c2:jQ (.str (kw d)::.int k::rs d) (some 2) none=rs d:=DW _ 2;first | rfl | simp! [bR,jG,uD,c2]
   simp only [bm,this,RG,L7];rfl
 refine ag (δ1:=[.val (bR k d),.val (.list ((gF d).map dR)),s2,.own ((gF d).map λ f=>fE (false,k,f))]) ?_ ?_
 . have zg:((gF d).map dR).length<=sizeLine:=sz _ (by simp;omega);have cp:=CY (k:=k) (d:=d) (gF d) .no;have lf:dI [some 0,none] [.val (bR k d),.val (.list ((gF d).map dR)),s2,.no]=[.val (bR k d),.no]:=rfl;first | rfl | simp! [fj,ku,uD,lf,cp,Rt zg]
 rcases HD d with ⟨h1,h2⟩ | ⟨a,b,rfl⟩
 . refine (iF (x0 rfl) h1).trans ?_;rw [jP,h2,UX,Sa,T8];rfl
 . have fr:=sw (hm a (by simp [bv])) (by have:=(ho.t a (by simp [bv])).1;omega);have zl:((gF (.put a b)).map λ f=>fE (false,k,f)).length<sizeLine:=RD (by simp;omega:_<9000) (sz 9000 (by decide));refine ag (δ1:=[.val (bR k (.put a b)),.val (.list ((gF (.put a b)).map dR)),s2,.own (((gF (.put a b)).map λ f=>fE (false,k,f))++[fE (true,k,fo a)])]) (aj (b:=true) (tT (x0 rfl)) ?_) ?_
   . simp! [bF,bR,rs,fE,uD,vJ,DF,fr,Rt z3];exact Rt zl
   . rw [jP,RW,T8];rfl
noncomputable def mn (i j:Int):Int:=if j<i then j else i
noncomputable def mx (i j:Int):Int:=if j>i then j else i
noncomputable def jb (p:Int×Int):W:=.tuple [.int p.1,.int p.2]
noncomputable def E8 (x u:Tc):Option (Int×Int):=if ((x.1||u.1)&&mm x.2.2 u.2.2)=true then some (mn x.2.1 u.2.1,mx x.2.1 u.2.1) else none
noncomputable def uP:List Tc->List (Int×Int)
 | []=>[]
 | x::r=>(x::r).filterMap (E8 x)++uP r
theorem Nf {f:DS->Option W} {δ:DS} {t:Tc} (h:f δ=some (fE t)):au bw (ao aO f !0) (!"put") δ=some t.1:=by
 obtain ⟨b,k,g⟩:=t;cases b with
 | true=>exact tT (x0 h)
 | false=>exact tF (x0 h) (by decide +kernel:decide (Str.ofString "get" = Str.ofString "put")=false)
theorem Px {f g:DS->Option Bool} {δ:DS} {a b:Bool} (h1:f δ=some a) (h2:g δ=some b):qV f g δ=some (a||b):=by
 cases a with
 | true=>simp only [qV,h1,RG,UD,Bool.true_or]
 | false=>simp only [qV,h1,RG,Sr,Up,h2,Bool.false_or]
theorem B2 {s0 s2:Sl} (x:Tc):∀ (us:List Tc) (acc:List W) (s4:Sl),acc.length+us.length<=4000000->
 ∃ s4',aE (af 4) jv (us.map fE) [s0,.own acc,s2,.val (fE x),s4]=some (.nx [s0,.own (acc++(us.filterMap (E8 x)).map jb),s2,.val (fE x),s4'])
 | [],acc,s4,_=>⟨s4,by simp [aE]⟩
 | u::us,acc,s4,hl=>by
  simp only [RM] at hl;have c:gT (qV (au bw 3[0]! !"put") (au bw 4[0]! !"put")) (my (aV dZ #[3[2]!,4[2]!])) [s0,.own acc,s2,.val (fE x),.val (fE u)]=some ((x.1||u.1)&&mm x.2.2 u.2.2):=by
   refine xI (Px (Nf rfl) (Nf rfl)) λ _=>?_;have ob:=xu x.2.2 u.2.2;first | rfl | simp! [fE,uD,DF,ob]
  cases hb:(x.1||u.1)&&mm x.2.2 u.2.2 with
  | false=>
   rw [hb] at c;obtain ⟨s4',e⟩:=B2 (s0:=s0) (s2:=s2) x us acc (.val (fE u)) (by omega);have ep:E8 x u=none:=RJ (by rw [hb];decide);rw [Um,ep];exact ⟨s4',(gJ rfl (aj c rfl)).trans e⟩
  | true=>
   rw [hb] at c;obtain ⟨s4',e⟩:=B2 (s0:=s0) (s2:=s2) x us (acc++[jb (mn x.2.1 u.2.1,mx x.2.1 u.2.1)]) (.val (fE u)) (by simp;omega);have ep:E8 x u=some (mn x.2.1 u.2.1,mx x.2.1 u.2.1):=Rt hb;rw [Um,ep,RU,<-List.append_cons] at *;have z2:=sz 2 (by decide);have zl:acc.length<sizeLine:=by unfold sizeLine;omega
   refine ⟨s4',(gJ (δ2:=[s0,.own acc,s2,.val (fE x),.val (fE u)]) rfl (aj c ?_)).trans e⟩;rw [Rt rfl];first | rfl | (simp! [bF,L3,zf,yo,fE,uD,vJ,Rt z2,Rt zl];rfl)
theorem DH {ts:List Tc} (hb:ts.length<=2000):∀ (r:List Tc) (k:Nat) (acc:List W) (s2 s3 s4:Sl),ts.drop k=r->2*acc.length+r.length*(r.length+1)<=4002000->
 ∃ s2' s3' s4',aE (dy 2 (aQ (af 2) (aQ (af 3) dJ))) jx (fV k (r.map fE)) [.val (.list (ts.map fE)),.own acc,s2,s3,s4]=some (.nx [.val (.list (ts.map fE)),.own (acc++(uP r).map jb),s2',s3',s4'])
 | [],k,acc,s2,s3,s4,_,_=>⟨s2,s3,s4,by simp [fV,aE,uP]⟩
 | x::r,k,acc,s2,s3,s4,hd,hl=>by
  have hr:ts.drop (k+1)=r:=by rw [<-Ug,hd];rfl
  have rl:r.length+1<=2000:=by
   have:=RO List.length hd;simp at this;omega
  have fl:=Ur (E8 x) (x::r);simp only [RM] at hl fl;rw [show (r.length+1)*(r.length+1+1)=r.length*(r.length+1)+2*(r.length+1) by rw [Nat.add_mul,Nat.mul_add,Nat.mul_add];omega] at hl;obtain ⟨s4',e1⟩:=B2 (s0:=.val (.list (ts.map fE))) (s2:=.val (.int k)) x (x::r) acc s4 (by simp only [RM];omega);obtain ⟨s2'',s3'',s4'',e2⟩:=DH hb r (k+1) (acc++((x::r).filterMap (E8 x)).map jb) (.val (.int k)) (.val (fE x)) s4' hr (by simp only [RN,R8];omega);refine ⟨s2'',s3'',s4'',?_⟩;rw [uP,RW,<-RX];refine (gJ (δ2:=[.val (.list (ts.map fE)),.own acc,.val (.int k),.val (fE x),s4]) rfl (cJ (ds:=(x::r).map fE) ?_ e1)).trans e2;have c2:jQ (ts.map fE) (some (k:Int)) none=(x::r).map fE:=by rw [DW,<-List.map_drop,hd]
  first | rfl | simp! [ve,uD,c2]
theorem r9 {ts:List Tc} (hb:ts.length<=2000):iR [.list (ts.map fE)]=some (.list ((uP ts).map jb)):=by
 have z0:=sz 0 (by decide);obtain ⟨s2,s3,s4,e⟩:=DH hb ts 0 [] .no .no .no rfl (by
  have:ts.length*(ts.length+1)<=2000*2001:=Nat.mul_le_mul hb (by omega);simp only [List.length_nil];omega)
 refine bP rfl (ag (δ1:=[.val (.list (ts.map fE)),.own [],.no,.no,.no]) (by first | rfl | simp! [fj,uD,Rt z0]) ?_);refine ag (cJ (ds:=fV 0 (ts.map fE)) (by first | rfl | simp! [uD,fg]) e) ?_;rfl
theorem yt {s0 s1:Sl}:∀ (ps:List (Int×Int)) (s2:Sl),∃ s2',aE (af 2) fz (ps.map jb) [s0,s1,s2]=some (.nx [s0,s1,s2'])
 | [],s2=>⟨s2,rfl⟩
 | p::ps,s2=>by
  obtain ⟨s2',e⟩:=yt (s0:=s0) (s1:=s1) ps (.val (jb p));refine ⟨s2',(gJ (δ2:=[s0,s1,.val (jb p)]) rfl ?_).trans e⟩;rfl
theorem IY (ps:List (Int×Int)):mz (.list (ps.map jb))=true/\gQ (.list (ps.map jb))<=2:=by
 refine ⟨Dl λ d h=>?_,?_⟩
 . obtain ⟨p,_,rfl⟩:=Sc.mp h;rfl
 . have:bZ (ps.map jb)<=1:=zB λ d h=>by
    obtain ⟨p,_,rfl⟩:=Sc.mp h;exact Ry _
   show bZ _+1<=2;omega
theorem DD (ps:List (Int×Int)):cE [.list (ps.map jb),.list (ps.map jb)]=some (.bool true):=by
 obtain ⟨s2,e⟩:=yt (s0:=.val (.list (ps.map jb))) (s1:=.val (.list (ps.map jb))) ps .no;obtain ⟨o,d⟩:=IY ps;have ne:=C6 o (by omega);refine bP rfl (ag (aj (b:=false) ?_ rfl) (ag (cJ (ds:=ps.map jb) rfl e) rfl));first | rfl | simp! [uD,ne]
noncomputable def wc:Fin 12->Str
 | 0=>Str.ofString "tick" | 1=>Str.ofString "back" | 2=>Str.ofString "meet" | 3=>Str.ofString "join" | 4=>Str.ofString "num" | 5=>Str.ofString "sign" | 6=>Str.ofString "copy" | 7=>Str.ofString "get" | 8=>Str.ofString "op" | 9=>Str.ofString "put" | 10=>Str.ofString "tell" | 11=>Str.ofString "stop"
theorem KU:∀ c,fY (.str (wc c)) (.tuple [.str "tick", .str "jump", .str "back"])=some (decide (c.val<2)):=by decide +kernel
theorem Da:∀ c,fY (.str (wc c)) (.tuple [.str "meet", .str "join"])=some (decide (c.val=2∨c.val=3)):=by decide +kernel
theorem FW:∀ c,decide (wc c=Str.ofString "call")=false/\decide (wc c=Str.ofString "jump")=false/\decide (wc c=Str.ofString "split")=false:=by decide +kernel
theorem wC:∀ c,decide (wc c=Str.ofString "back")=decide (c.val=1):=by decide +kernel
theorem K7:∀ c,decide (wc c=Str.ofString "tick")=decide (c.val=0):=by decide +kernel
noncomputable def Rw (c:Fin 12) (x:W):Prop:=∃ l,x=.tuple (.str (wc c)::l)
noncomputable def lc:De->Fin 12
 | .set _ _=>6 | .put _ _=>9 | .tell _=>10 | .join _ _ _=>3 | .meet=>2 | .stop=>11
theorem oV (N:List Str) (ln:Int) (d:De):Rw (lc d) (d7 N ln d):=by cases d <;> exact ⟨_,rfl⟩
theorem u8 (ln:Int) (f:Str->W):∀ (t:Tr) (a:Int),∀ x∈ss ln f t a,∃ c:Fin 12,3<c.val/\Rw c x
 | .num v,a,x,h=>by rw [RE.mp h];exact ⟨4,by decide,_,rfl⟩
 | .sig k,a,x,h=>by rw [RE.mp h];exact ⟨5,by decide,_,rfl⟩
 | .nam n,a,x,h=>by rw [RE.mp h];exact ⟨6,by decide,_,rfl⟩
 | .box t,a,x,h=>by
  rcases Rz.mp h with h | h
  . exact u8 ln f t a x h
  . rw [RE.mp h];exact ⟨7,by decide,_,rfl⟩
 | .op k t u,a,x,h=>by
  rcases Rz.mp h with h | h
  . exact u8 ln f t a x h
  rcases Rz.mp h with h | h
  . exact u8 ln f u _ x h
  . rw [RE.mp h];exact ⟨8,by decide,_,rfl⟩
theorem vV (N:List Str) (ln:Int):∀ (ts:List Tr) (a:Nat),∀ x∈rE N ln a ts,∃ c:Fin 12,3<c.val/\Rw c x
 | [],_,x,h=>by cases h
 | t::ts,a,x,h=>by
  rcases Rz.mp h with h | h
  . exact u8 _ _ _ _ x h
  . exact vV N ln ts _ x h
noncomputable def lg (d:De):Bool:=decide ((lc d).val=2∨(lc d).val=3)
noncomputable def ja (k:Int):W:=.tuple [.str "tick", .int k]
theorem qf (N:List Str) (k:Int) (d:De):ro N k d=ja k::(rE N k (N.length+1) (bv d)++[d7 N k d]):=rfl
theorem E3 {f:DS->Option W} {δ:DS} {c:Fin 12} {x:W} (h:f δ=some x) (r:Rw c x):ao aO f (!0) δ=some (.str (wc c)):=by
 obtain ⟨l,rfl⟩:=r;exact x0 h
noncomputable def v9 (c:Fin 12) (k:Nat):List W:=if c.val=1∨c.val=2∨c.val=3 then [] else [.int ((k+1:Nat):Int)]
theorem DV {R:List W} {k:Nat} {c:Fin 12} {x:W} (hx:R[k]?=some x) (r:Rw c x) (hc:c.val≠1):jH [.list R,.int k]=some (.list [.int ((k+1:Nat):Int)]):=by
 have hk:k<R.length:=(oG hx).1;have z1:=sz 1 (by decide);have ga:=CV (k:Int) 1;refine bP rfl (ag (δ1:=[.val (.list R),.val (.int k),.val x]) (aP (d:=x) (by first | rfl | simp! [uD,HK R k hk,hx]) rfl) ?_);refine (iF (E3 rfl r) (by rw [wC];simpa using hc)).trans ?_;refine (iF (E3 rfl r) (FW c).2.1).trans ?_;refine (iF (E3 rfl r) (FW c).2.2).trans ?_;refine aI ?_;first | rfl | (simp! [uD,Rt z1];rfl)
theorem Aj {R:List W} {k:Nat} {c:Fin 12} {x:W} {q:Nat} {S:aq} (hx:R[k]?=some x) (r:Rw c x) (hq:S[q]?=some (.dK [])):iK [.list R,.int k,.ref q] S=some (.ok (.list (v9 c k)),S):=by
 have hk:k<R.length:=(oG hx).1;have z0:=sz 0 (by decide);have z2:=sz 2 (by decide);let δ:DS:=[.val (.list R),.val (.int k),.val (.ref q),.val (.str (wc c))]
 refine (aU rfl).trans ((RO eF (?_:_=some (.rt (.list (v9 c k)),S))).trans rfl);refine (ai (δ':=δ) (S':=S) (aR (aP (d:=.str (wc c)) (E3 (x:=x) (by first | rfl | simp! [uD,HK R k hk,hx]) r) rfl))).trans ?_;have wm:=Da c;by_cases cm:c.val=2∨c.val=3
 . rw [RK cm] at wm;rw [v9,Rt (.inr cm)];exact vI (sQ (aj (b:=true) (by first | rfl | simp! [δ,uD,wm,Rt z2]) (by first | rfl | simp! [UD,uD,Rt z0])))
 rw [RB cm] at wm;refine (ai (δ':=δ) (S':=S) (aR (aj (b:=false) (by first | rfl | simp! [δ,uD,wm,Rt z2]) rfl))).trans ?_;refine (pF rfl (FW c).1).trans ?_;by_cases cb:c.val=1
 . rw [v9,Rt (.inl cb)];have wb:wc c=Str.ofString "back" := Sh (by rw [wC];simpa using cb);refine vI ((ju (S1:=S) (by rw [<-wb];exact sT rfl)).trans (jq ?_));have gk:pT (.ref q) (.int k) S=some none:=by simp [pT,eK,hq,ky,aL]
   first | rfl | simp! [δ,kB,uS,uD,gk,rB hq,To,Rt z0]
 . rw [v9,RJ λ z=>z.elim cb cm];refine (cF rfl (by rw [wC];simpa using cb)).trans ?_;have nr:=DV hx r cb;refine sQ (aI ?_);first | rfl | simp! [δ,uD,nr]
theorem jL:∀ (a b:List W) (k:Nat),fV k (a++b)=fV k a++fV (k+a.length) b
 | [],b,k=>rfl
 | x::a,b,k=>by
  show _::fV (k+1) (a++b)=_;rw [jL a b (k+1),RM,show k+1+a.length=k+(a.length+1) by omega];rfl
noncomputable abbrev vn (i j:Nat):W->DS->Option DS:=dy 2 (aQ (af i) (aQ (af j) dJ))
theorem tX {S:aq} {d:Nat} {kvs:List (b8×W)} {n:Int} {v:W} (h:S[d]?=some (.dK kvs)) (hl:kvs.length<9000):mS (.ref d) (.int n) v S=some (S.set d (.dK (bo kvs (Sum.inl n) v))):=by
 have hl':kvs.length<sizeLine:=RD hl (sz 9000 (by decide));simp [mS,eK,h,ky,hl']
theorem fS {S:aq} {d:Nat} {kvs:List (b8×W)} {n:Int} (h:S[d]?=some (.dK kvs)):pT (.ref d) (.int n) S=some (aL kvs (Sum.inl n)):=by simp [pT,eK,h,ky]
theorem Qk {s0 s5:Sl} {b:Nat}:∀ (xs:List W) (k:Nat) (S:aq) (kv:List (b8×W)) (f:Int) (s3 s4:Sl),(∀ x∈xs,∃ c,Rw c x)->S[b]?=some (.dK kv)->kv.length+xs.length<=8000->
 ∃ S' f' s3' s4',aS (vn 3 4) eG (fV k xs) [s0,.val (.ref b),.val (.int f),s3,s4,s5] S=some (.nx [s0,.val (.ref b),.val (.int f'),s3',s4',s5],S')/\S'.length=S.length/\∀ m,m≠b->S'[m]?=S[m]?
 | [],k,S,kv,f,s3,s4,_,_,_=>⟨S,f,s3,s4,rfl,rfl,λ _ _=>rfl⟩
 | x::xs,k,S,kv,f,s3,s4,hx,hb,hl=>by
  simp only [RM] at hl;obtain ⟨c,r⟩:=hx x (by simp);have lk:=cQ kv (Sum.inl f) (.int k);have tl:=λ (S:aq) (kv:List (b8×W)) (f:Int) (h:S[b]?=some (.dK kv)) (l:kv.length+xs.length<=8000)=>Qk (s0:=s0) (s5:=s5) xs (k+1) S kv f (.val (.int k)) (.val x) (λ y hy=>hx y (by simp [hy])) h l;by_cases cb:decide (wc c=Str.ofString "back")=true
  . obtain ⟨S',f',s3',s4',e,l,kp⟩:=tl (S.set b (.dK (bo kv (Sum.inl f) (.int k)))) _ ((k:Int)+1) (set_eq' hb) (by omega);have wb:wc c=Str.ofString "back" := Sh cb;refine ⟨S',f',s3',s4',(aH (δ2:=[s0,.val (.ref b),.val (.int f),.val (.int k),.val x,s5]) rfl ((ju (S1:=S) (by rw [<-wb];exact sT (E3 rfl r))).trans ?_)).trans e,by rw [l,SW],λ m hm=>(kp m hm).trans (RI (SN hm))⟩;have pa:=tX (n:=f) (v:=.int k) hb (by omega);refine (ai (δ':=[s0,.val (.ref b),.val (.int f),.val (.int k),.val x,s5]) (S':=S.set b (.dK (bo kv (Sum.inl f) (.int k)))) (by first | rfl | simp! [bW,uS,uD,pa])).trans ?_;exact aR rfl
  . obtain ⟨S',f',s3',s4',e,l,kp⟩:=tl S kv f hb (by omega);exact ⟨S',f',s3',s4',(aH (δ2:=[s0,.val (.ref b),.val (.int f),.val (.int k),.val x,s5]) rfl ((iN (S1:=S) (sF (E3 rfl r) (by simpa using cb))).trans rfl)).trans e,l,kp⟩
theorem Qj {s0 s1 s2 s5:Sl} {S:aq}:∀ (xs:List W) (k:Nat) (s3 s4:Sl),(∀ x∈xs,∃ c,Rw c x)->
 ∃ s3' s4',aS (vn 3 4) eJ (fV k xs) [s0,s1,s2,s3,s4,s5] S=some (.nx [s0,s1,s2,s3',s4',s5],S)
 | [],k,s3,s4,_=>⟨s3,s4,rfl⟩
 | x::xs,k,s3,s4,hx=>by
  obtain ⟨c,r⟩:=hx x (by simp);obtain ⟨s3',s4',e⟩:=Qj (s0:=s0) (s1:=s1) (s2:=s2) (s5:=s5) (S:=S) xs (k+1) (.val (.int k)) (.val x) λ y hy=>hx y (by simp [hy]);exact ⟨s3',s4',(aH (δ2:=[s0,s1,s2,.val (.int k),.val x,s5]) rfl ((iN (S1:=S) (sF (E3 rfl r) (FW c).1)).trans rfl)).trans e⟩
theorem wH {R:List W} (hx:∀ x∈R,∃ c,Rw c x) (hl:R.length<=8000) (S:aq):∃ S',db [.list R] S=some (.ok (.ref (S.length+1)),S')/\S'[S.length+1]?=some (.dK [])/\S'.length=S.length+2/\Kp S S':=by
 obtain ⟨S1,f,s3,s4,e1,l1,k1⟩:=Qk (s0:=.val (.list R)) (s5:=.no) (b:=S.length) R 0 (S++[.dK []]) [] 0 .no .no hx (ck _ _) (by simpa using hl);have l1':S1.length=S.length+1:=by rw [l1];simp
 obtain ⟨s3',s4',e2⟩:=Qj (s0:=.val (.list R)) (s1:=.val (.ref S.length)) (s2:=.val (.int f)) (s5:=.val (.ref (S.length+1))) (S:=S1++[.dK []]) R 0 s3 s4 hx;refine ⟨S1++[.dK []],?_,by rw [<-l1'];exact ck _ _,by simp [l1'],λ i o h=>?_⟩
 . refine (aU rfl).trans ((RO eF (?_:_=some (.rt (.ref (S.length+1)),S1++[.dK []]))).trans rfl);refine (ai (δ':=[.val (.list R),.val (.ref S.length),.no,.no,.no,.no]) (S':=S++[.dK []]) (bi rfl rfl)).trans ?_;refine (ai (δ':=[.val (.list R),.val (.ref S.length),.val (.int 0),.no,.no,.no]) (S':=S++[.dK []]) (by exact aR (aP rfl rfl))).trans ?_;refine (ai ((bD (S1:=S++[.dK []]) (ds:=fV 0 R) (by first | rfl | simp! [uS,uD,fg])).trans e1)).trans ?_;refine (ai (δ':=[.val (.list R),.val (.ref S.length),.val (.int f),s3,s4,.val (.ref (S.length+1))]) (S':=S1++[.dK []]) (bi (d:=.ref (S.length+1)) (by rw [<-l1'];rfl) rfl)).trans ?_;refine (ai ((bD (S1:=S1++[.dK []]) (ds:=fV 0 R) (by first | rfl | simp! [uS,uD,fg])).trans e2)).trans ?_;rfl
 . have hi:i<S.length:=(oG h).1;refine aW ?_;rw [k1 i (by omega)];exact aW h
section
variable {R:List W} {q f:Nat}
noncomputable abbrev dF (R:List W) (q f a:Nat) (s4 s5:Sl):DS:=[.val (.list R),.val (.ref q),.val (.ref f),.val (.int a),s4,s5]
theorem oC {k a:Nat} {c:Fin 12} {x:W} {S:aq} {kvs:List (b8×W)} (hx:R[k]?=some x) (r:Rw c x) (hq:S[q]?=some (.dK [])) (hf:S[f]?=some (.dK kvs)) (hl:kvs.length<9000):
 cx (dF R q f a (.val (.int k)) (.val x)) S=some (.nx (dF R q f (if c.val<2 then k else a) (.val (.int k)) (.val x)),S.set f (.dK (bo kvs (Sum.inl ((if c.val<2 then k else a:Nat):Int)) (.list (v9 c k))))):=by
 have z3:=sz 3 (by decide);have wh:=KU c;refine (ai (δ':=dF R q f (if c.val<2 then k else a) (.val (.int k)) (.val x)) (S':=S) (aR (aj (b:=decide (c.val<2)) ?_ ?_))).trans ?_
 . have rw:=E3 (f:=ar 5) (δ:=dF R q f a (.val (.int k)) (.val x)) rfl r;first | rfl | simp! [au,rw,uD,wh,Rt z3]
 . by_cases h:c.val<2
   . rw [RK h,Rt rfl,Rt h];exact aP rfl rfl
   . rw [RB h,RJ (by decide),RJ h];rfl
 . have ph:=Aj hx r hq;have pa:=tX (n:=((if c.val<2 then k else a:Nat):Int)) (v:=.list (v9 c k)) hf hl;first | rfl | simp! [bW,uS,uD,ph,pa]
theorem AY {a:Nat} (ne:q≠f):∀ (xs:List W) (k:Nat) (aY:List W) (s4 s5:Sl) (S:aq) (kvs:List (b8×W)),(∀ x∈xs,∃ c:Fin 12,3<c.val/\Rw c x)->(∀ i x,xs[i]?=some x->R[k+i]?=some x)->S[q]?=some (.dK [])->S[f]?=some (.dK kvs)->kvs.length+xs.length<=8000->
 ∃ kvs' S' s4' s5',aS (vn 4 5) cx (fV k xs++aY) (dF R q f a s4 s5) S=aS (vn 4 5) cx aY (dF R q f a s4' s5') S'/\S'[f]?=some (.dK kvs')/\(∀ m,m≠f->S'[m]?=S[m]?)/\(∀ z:Nat,z≠a->aL kvs' (Sum.inl (z:Int))=aL kvs (Sum.inl (z:Int)))/\kvs'.length<=kvs.length+xs.length
 | [],k,aY,s4,s5,S,kvs,_,_,_,hf,_=>⟨kvs,S,s4,s5,rfl,hf,λ _ _=>rfl,λ _ _=>rfl,by simp⟩
 | x::xs,k,aY,s4,s5,S,kvs,hx,hr,hq,hf,hl=>by
  simp only [RM] at hl;obtain ⟨c,hc,r⟩:=hx x (by simp);have st:=oC (a:=a) (hr 0 x rfl) r hq hf (by omega);have cn:¬ c.val<2:=by omega
  rw [RJ cn,U1] at st;have pl:=cQ kvs (Sum.inl ((a:Nat):Int)) (.list (v9 c k));obtain ⟨kvs',S',s4',s5',e,g,kp,v,l⟩:=AY ne xs (k+1) aY (.val (.int k)) (.val x) (S.set f (.dK (bo kvs (Sum.inl ((a:Nat):Int)) (.list (v9 c k))))) (bo kvs (Sum.inl ((a:Nat):Int)) (.list (v9 c k))) (λ y hy=>hx y (by simp [hy])) (λ i y hy=>by rw [show k+1+i=k+(i+1) by omega];exact hr (i+1) y hy) (set_ne' hq ne.symm) (set_eq' hf) (by omega);refine ⟨kvs',S',s4',s5',(aH rfl st).trans e,g,λ m hm=>(kp m hm).trans (RI (SN hm)),λ z hz=>(v z hz).trans ?_,by simp only [RM];omega⟩;rw [dA,RJ];intro z';injection z' with z'
  omega
noncomputable def bl (d:De):Nat:=cz (bv d)+2
theorem xD (N:List Str) (ln:Int) (d:De):(ro N ln d).length=bl d:=by simp [ro,mG,bl]
noncomputable def wv (v:Nat->Option W):Nat->List De->Prop
 | k,[]=>v k=some (.list [])
 | k,d::ds=>v k=some (.list (if lg d then [] else [.int ((k+bl d:Nat):Int)]))/\wv v (k+bl d) ds
theorem Dv (d:De):2<=(lc d).val:=by cases d <;> exact Nat.le_of_ble_eq_true rfl
theorem GH (d:De) (k:Nat):v9 (lc d) k=if lg d then [] else [.int ((k+1:Nat):Int)]:=by
 have:((lc d).val=1∨(lc d).val=2∨(lc d).val=3)↔((lc d).val=2∨(lc d).val=3):=by have:=Dv d;omega
 unfold v9 lg;by_cases h:(lc d).val=2∨(lc d).val=3
 . rw [Rt (this.mpr h),RK h];rfl
 . rw [RJ λ z=>h (this.mp z),RB h];rfl
theorem B4 (ne:q≠f) {N:List Str} {ln:Int} {d:De} {k a:Nat} {aY:List W} {s4 s5:Sl} {S:aq} {kvs:List (b8×W)} (hr:∀ i x,(ro N ln d)[i]?=some x->R[k+i]?=some x) (hq:S[q]?=some (.dK [])) (hf:S[f]?=some (.dK kvs)) (hl:kvs.length+bl d<=8000):
 ∃ kvs' S' s4' s5',aS (vn 4 5) cx (fV k (ro N ln d)++aY) (dF R q f a s4 s5) S=aS (vn 4 5) cx aY (dF R q f k s4' s5') S'/\S'[f]?=some (.dK kvs')/\(∀ m,m≠f->S'[m]?=S[m]?)/\(∀ z:Nat,z≠k->aL kvs' (Sum.inl (z:Int))=aL kvs (Sum.inl (z:Int)))/\aL kvs' (Sum.inl (k:Int))=some (.list (if lg d then [] else [.int ((k+bl d:Nat):Int)]))/\kvs'.length<=kvs.length+bl d:=by
 have rl:(rE N ln (N.length+1) (bv d)).length=cz (bv d):=mG _ _ _ _;have s1:=oC (a:=a) (c:=0) (hr 0 (ja ln) rfl) ⟨_,rfl⟩ hq hf (by unfold bl at hl;omega);rw [Rt (by decide),U1] at s1;have p1:=cQ kvs (Sum.inl ((k:Nat):Int)) (.list (v9 0 k));obtain ⟨kv2,S2,s4',s5',e2,g2,k2,v2,l2⟩:=AY (R:=R) (a:=k) ne (rE N ln (N.length+1) (bv d)) (k+1) (fV (k+1+cz (bv d)) [d7 N ln d]++aY) (.val (.int k)) (.val (ja ln)) (S.set f (.dK (bo kvs (Sum.inl ((k:Nat):Int)) (.list (v9 0 k))))) (bo kvs (Sum.inl ((k:Nat):Int)) (.list (v9 0 k))) (vV N ln (bv d) (N.length+1)) (λ i x hx=>by
  rw [show k+1+i=k+(i+1) by omega];exact hr (i+1) x (by rw [qf,T3];exact (RR (oG hx).1).trans hx)) (set_ne' hq ne.symm) (set_eq' hf) (by rw [rl];unfold bl at hl;omega)
 have q2:S2[q]?=some (.dK []):=(k2 q ne).trans (set_ne' hq ne.symm);have hl3:R[k+1+cz (bv d)]?=some (d7 N ln d):=by
  rw [show k+1+cz (bv d)=k+(cz (bv d)+1) by omega];exact hr _ _ (by rw [qf,T3,R0 (by rw [rl];exact Ry _),rl,Nat.sub_self];rfl)
 have s3:=oC (a:=k) hl3 (oV N ln d) q2 g2 (by rw [rl] at l2;unfold bl at hl;omega);have cn:¬ (lc d).val<2:=Nat.not_lt.mpr (Dv d);rw [RJ cn] at s3;have p3:=cQ kv2 (Sum.inl ((k:Nat):Int)) (.list (v9 (lc d) (k+1+cz (bv d))));refine ⟨bo kv2 (Sum.inl ((k:Nat):Int)) (.list (v9 (lc d) (k+1+cz (bv d)))),_,.val (.int ((k+1+cz (bv d):Nat):Int)),.val (d7 N ln d),?_,set_eq' g2,λ m hm=>(RI (SN hm)).trans ((k2 m hm).trans (RI (SN hm))),λ z hz=>?_,?_,by rw [rl] at l2;unfold bl;omega⟩
 . rw [qf,show fV k (ja ln::(rE N ln (N.length+1) (bv d)++[d7 N ln d]))=.tuple [.int k,ja ln]::fV (k+1) (rE N ln (N.length+1) (bv d)++[d7 N ln d]) from rfl,jL,rl,TB,RX];exact (aH rfl s1).trans (e2.trans (aH rfl s3))
 . have hz':¬ (Sum.inl (z:Int):b8)=Sum.inl (k:Int):=λ z'=>by injection z' with z';omega
   rw [dA,RJ hz',v2 z hz,dA,RJ hz']
 . rw [dA,Rt rfl,GH,show k+1+cz (bv d)+1=k+bl d by unfold bl;omega]
theorem Cf (ne:q≠f) {N:List Str} {e:Int}:∀ (ds:List De) (ln:Int) (k a:Nat) (s4 s5:Sl) (S:aq) (kvs:List (b8×W)),(∀ i x,(dh N ln ds++[gU e])[i]?=some x->R[k+i]?=some x)->S[q]?=some (.dK [])->S[f]?=some (.dK kvs)->kvs.length+(dh N ln ds).length+1<=8000->
 ∃ kvs' S' a' s4' s5',aS (vn 4 5) cx (fV k (dh N ln ds++[gU e])) (dF R q f a s4 s5) S=some (.nx (dF R q f a' s4' s5'),S')/\S'[f]?=some (.dK kvs')/\(∀ m,m≠f->S'[m]?=S[m]?)/\(∀ z:Nat,z<k->aL kvs' (Sum.inl (z:Int))=aL kvs (Sum.inl (z:Int)))/\wv (λ z=>aL kvs' (Sum.inl (z:Int))) k ds
 | [],ln,k,a,s4,s5,S,kvs,hr,hq,hf,hl=>by
  have s1:=oC (a:=a) (c:=1) (hr 0 (gU e) rfl) ⟨_,rfl⟩ hq hf (by omega);rw [Rt (by decide),U1] at s1;refine ⟨_,_,_,_,_,(aH rfl s1).trans rfl,set_eq' hf,λ m hm=>RI (SN hm),λ z hz=>?_,?_⟩
  . rw [dA,RJ λ z'=>by injection z' with z';omega]
  . show aL _ _=_;rw [dA,Rt rfl];rfl
 | d::ds,ln,k,a,s4,s5,S,kvs,hr,hq,hf,hl=>by
  have bl':=xD N ln d;rw [show dh N ln (d::ds)=ro N ln d++dh N (ln+1) ds from rfl,RN,bl'] at hl;rw [show dh N ln (d::ds)=ro N ln d++dh N (ln+1) ds from rfl,RX] at hr ⊢;rw [jL,bl'];obtain ⟨kv1,S1,t4,t5,e1,g1,k1,v1,w1,l1⟩:=B4 (R:=R) ne (N:=N) (ln:=ln) (d:=d) (k:=k) (a:=a) (aY:=fV (k+bl d) (dh N (ln+1) ds++[gU e])) (s4:=s4) (s5:=s5) (λ i x hx=>hr i x ((RR (oG hx).1).trans hx)) hq hf (by omega);obtain ⟨kv2,S2,a',s4',s5',e2,g2,k2,v2,o2⟩:=Cf ne ds (ln+1) (k+bl d) k t4 t5 S1 kv1 (λ i x hx=>by
   rw [show k+bl d+i=k+(bl d+i) by omega];exact hr _ _ (by rw [R0 (by rw [bl'];omega),bl',Tx];exact hx)) ((k1 q ne).trans hq) g1 (by omega)
  have bp:0<bl d:=by unfold bl;omega
  refine ⟨kv2,S2,a',s4',s5',e1.trans e2,g2,λ m hm=>(k2 m hm).trans (k1 m hm),λ z hz=>(v2 z (by omega)).trans (v1 z (by omega)),(v2 k (by omega)).trans w1,o2⟩
end
theorem Cn (N:List Str) {e:Int}:∀ (ds:List De) (ln:Int),∀ x∈dh N ln ds++[gU e],∃ c,Rw c x
 | [],ln,x,h=>by rw [RE.mp h];exact ⟨1,_,rfl⟩
 | d::ds,ln,x,h=>by
  rw [show dh N ln (d::ds)=ro N ln d++dh N (ln+1) ds from rfl,RX] at h;rcases Rz.mp h with h | h
  . rw [qf] at h;rcases Rx.mp h with rfl | h
    . exact ⟨0,_,rfl⟩
    rcases Rz.mp h with h | h
    . obtain ⟨c,_,r⟩:=vV _ _ _ _ x h;exact ⟨c,r⟩
    . rw [RE.mp h];exact ⟨_,oV _ _ _⟩
  . exact Cn N ds _ x h
theorem Ar (ds:List De) (b e:Int) (ho:∀ d∈ds,qP d) (hl:ds.length<=63) (S:aq):∃ f kvs S',kI [.list (dr ds b e)] S=some (.ok (.ref f),S')/\S'[f]?=some (.dK kvs)/\wv (λ z=>aL kvs (Sum.inl (z:Int))) 0 ds/\S.length<=f/\Kp S S':=by
 have al:=jA (NN ds) ds (b+1) ho;have rl:(dr ds b e).length<=3000:=by simp [dr];omega
 obtain ⟨S1,e1,g1,l1,k1⟩:=wH (R:=dr ds b e) (Cn _ _ _) (by omega) S;obtain ⟨kvs,S2,a,s4,s5,e2,g2,k2,_,o2⟩:=Cf (R:=dr ds b e) (q:=S.length+1) (f:=S.length+2) (by omega) (N:=NN ds) (e:=e) ds (b+1) 0 0 .no .no (S1++[.dK []]) [] (λ i x hx=>by rw [Nat.zero_add];exact hx) (aW g1) (by rw [<-l1];exact ck _ _) (by simp;omega);refine ⟨S.length+2,kvs,S2,?_,g2,o2,by omega,λ i o h=>?_⟩
 . refine (aU rfl).trans ((RO eF (?_:_=some (.rt (.ref (S.length+2)),S2))).trans rfl);refine (ai (δ':=[.val (.list (dr ds b e)),.val (.ref (S.length+1)),.no,.no,.no,.no]) (S':=S1) (bi (bB (S1:=S) (by first | rfl | simp! [uS,uD]) e1) rfl)).trans ?_;refine (ai (δ':=[.val (.list (dr ds b e)),.val (.ref (S.length+1)),.val (.ref (S.length+2)),.no,.no,.no]) (S':=S1++[.dK []]) (bi (d:=.ref (S.length+2)) (by rw [<-l1];rfl) rfl)).trans ?_;refine (ai (δ':=dF (dr ds b e) (S.length+1) (S.length+2) 0 .no .no) (S':=S1++[.dK []]) (by exact aR (aP rfl rfl))).trans ?_;refine (ai ((bD (S1:=S1++[.dK []]) (ds:=fV 0 (dr ds b e)) (by first | rfl | simp! [uS,uD,fg])).trans e2)).trans ?_;rfl
 . have hi:i<S.length:=(oG h).1;rw [k2 i (by omega)];exact aW (k1 i o h)
theorem CB (a b:Nat):Builtin.bitAnd (a:Int) (b:Int)=((a &&& b:Nat):Int):=by
 unfold Builtin.bitAnd;rw [RK (Int.natCast_nonneg a),RK (Int.natCast_nonneg b)];simp
theorem P0 (a b:Nat):Builtin.bitOr (a:Int) (b:Int)=((a|||b:Nat):Int):=by
 unfold Builtin.bitOr Builtin.bitAnd;have h1:decide (0<=Builtin.bitNot (a:Int))=false:=RB (by unfold Builtin.bitNot;omega);have h2:decide (0<=Builtin.bitNot (b:Int))=false:=RB (by unfold Builtin.bitNot;omega);have e:∀ n:Int,Builtin.bitNot (Builtin.bitNot n)=n:=λ n=>by unfold Builtin.bitNot;omega
 rw [h1,h2];simp only [e,TN]
theorem Nt {c:DS->aq->SM Bool} {b:DS->aq->SO} {n:Nat} {δ δ':DS} {S S1 S2:aq} (h1:c δ S=some (.ok true,S1)) (h2:b δ S1=some (.nx δ',S2)):cB c b (n+1) δ S=cB c b n δ' S2:=by
 show mj _ _=_;rw [h1];show (match b δ S1 with | some (.nx δ',S')=>_ | some (.ct δ',S')=>_ | some (.bk δ',S')=>_ | some (.rt d,S')=>_ | some (.xc x,S')=>_ | none=>_)=_;rw [h2]
theorem Os {c:DS->aq->SM Bool} {b:DS->aq->SO} {n:Nat} {δ:DS} {S S1:aq} (h1:c δ S=some (.ok false,S1)):cB c b (n+1) δ S=some (.nx δ,S1):=by
 show mj _ _=_;rw [h1];rfl
theorem FP {fo:DS->Option W} {δ:DS} {S:aq} {l:Nat} {q:List W} {y:W} (h1:fo δ=some (.ref l)) (h2:S[l]?=some (.lst (q++[y]))):Ga (ab fo) δ S=some (.ok y,S.set l (.lst q)):=by
 simp [Ga,ab,h1,aw,mN h2]
theorem HB (i:Nat) (h:i<=100):Kk (.int 1) (.int (i:Int))=some (.int ((2^i:Nat):Int)):=by
 have c:lM 1 (i:Int)=true:=by simp [lM];omega
 show (if lM 1 (i:Int)=true then some (W.int (1*2^(i:Int).toNat)) else none)=_;rw [Rt c,Int.one_mul,TN];congr 2
noncomputable def o7:Nat->List De->List Nat
 | k,[]=>[k]
 | k,d::ds=>if lg d then [k] else k::o7 (k+bl d) ds
theorem Eg:∀ (ds:List De) (k z:Nat),z∈o7 k ds->k<=z
 | [],k,z,h=>by rw [RE.mp h];exact Ry _
 | d::ds,k,z,h=>by
  unfold o7 at h;split at h
  . rw [RE.mp h];exact Ry _
  . rcases Rx.mp h with rfl | h
    . exact Ry _
    . have:=Eg ds _ z h;omega
noncomputable abbrev dM (m f st b u:Nat) (s5 s6:Sl):DS:=[.val (.ref m),.val (.ref f),.val (.int st),.val (.int b),.val (.ref u),s5,s6]
section
variable {m f st b u:Nat}
theorem yF {k:Nat} {S:aq} {kvs fkv:List (b8×W)} {fl:List W} {s5 s6:Sl} (hm:S[m]?=some (.dK kvs)) (hf:S[f]?=some (.dK fkv)) (hu:S[u]?=some (.lst [.int k])) (hv:aL fkv (Sum.inl (k:Int))=some (.list fl)) (hk:aL kvs (Sum.inl (k:Int))=none) (mf:m≠f) (hl:kvs.length<9000) (hl2:fl.length<=1):
 cR (dM m f st b u s5 s6) S=some (.nx (dM m f st b u (.val (.int k)) (.val (.int 0))),((S.set u (.lst [])).set m (.dK (bo kvs (Sum.inl (k:Int)) (.int b)))).set u (.lst fl)):=by
 have um:u≠m:=bK hu hm (by simp);have uf:u≠f:=bK hu hf (by simp);have hm1:(S.set u (.lst []))[m]?=some (.dK kvs):=set_ne' hm um;have hm2:((S.set u (.lst [])).set m (.dK (bo kvs (Sum.inl (k:Int)) (.int b))))[f]?=some (.dK fkv):=set_ne' (set_ne' hf uf) mf;have hu2:((S.set u (.lst [])).set m (.dK (bo kvs (Sum.inl (k:Int)) (.int b))))[u]?=some (.lst []):=set_ne' (set_eq' hu) um.symm;refine (ai (δ':=dM m f st b u (.val (.int k)) s6) (S':=S.set u (.lst [])) (bi (FP (q:=[]) rfl hu) rfl)).trans ?_;refine (ai (δ':=dM m f st b u (.val (.int k)) (.val (.int 0))) (S':=S.set u (.lst [])) (bi (d:=.int 0) ?_ rfl)).trans ?_
 . have gk:=(fS (n:=(k:Int)) hm1).trans (RO some hk);first | rfl | simp! [kB,uS,uD,gk,rB hm1,To]
 have ga:Builtin.bitAnd (0:Int) (b:Int)=0:=by
  have:=CB 0 b;rw [Nat.zero_and] at this;exact this
 have go:Builtin.bitOr (0:Int) (b:Int)=b:=by
  have:=P0 0 b;rw [Nat.zero_or] at this;exact this
 have g1:wq (.int 0) (.int (b:Int))=some (.int 0):=RO (λ x=>some (W.int x)) ga;have g2:Pl (.int 0) (.int (b:Int))=some (.int b):=RO (λ x=>some (W.int x)) go;refine (ju (S1:=S.set u (.lst [])) (d9 ?_)).trans ?_
 . first | rfl | simp! [au,ao,uD,g1]
 have pa:=tX (n:=(k:Int)) (v:=.int b) hm1 hl;refine (ai (δ':=dM m f st b u (.val (.int k)) (.val (.int 0))) (S':=(S.set u (.lst [])).set m (.dK (bo kvs (Sum.inl (k:Int)) (.int b)))) ?_).trans ?_
 . first | rfl | simp! [bW,uS,uD,ao,g2,pa]
 . have gf:=(fS (n:=(k:Int)) hm2).trans (RO some hv);have z:0+fl.length<=sizeLine:=sz _ (by omega);first | rfl | simp! [qv,bC,uS,uD,gf,mN hu2,To,List.length_nil,Rt z,Th]
theorem xQ {S:aq} {l:List W} {s5 s6:Sl} (h:S[u]?=some (.lst l)):sk (ab (ae 4)) (dM m f st b u s5 s6) S=some (.ok (!l.isEmpty),S):=by
 first | rfl | simp! [sk,uS,uD,mN h]
theorem F3 {fkv:List (b8×W)} (mf:m≠f):∀ (ds:List De) (k n:Nat) (S:aq) (kvs:List (b8×W)) (s5 s6:Sl),wv (λ z=>aL fkv (Sum.inl (z:Int))) k ds->S[m]?=some (.dK kvs)->S[f]?=some (.dK fkv)->S[u]?=some (.lst [.int k])->(∀ z:Nat,k<=z->aL kvs (Sum.inl (z:Int))=none)->kvs.length+ds.length<=8000->
 ∃ kvs' S' s5' s6',cB (sk (ab (ae 4))) cR (n+ds.length+2) (dM m f st b u s5 s6) S=some (.nx (dM m f st b u s5' s6'),S')/\S'[m]?=some (.dK kvs')/\(∀ i,i≠m->i≠u->S'[i]?=S[i]?)/\(∀ z:Nat,aL kvs' (Sum.inl (z:Int))=if z∈o7 k ds then some (.int b) else aL kvs (Sum.inl (z:Int)))/\kvs'.length<=kvs.length+ds.length+1:=by
 intro ds;have fin:∀ (k n:Nat) (S:aq) (kvs:List (b8×W)) (s5 s6:Sl),aL fkv (Sum.inl (k:Int))=some (.list [])->S[m]?=some (.dK kvs)->S[f]?=some (.dK fkv)->S[u]?=some (.lst [.int k])->aL kvs (Sum.inl (k:Int))=none->kvs.length<=8000->
  ∃ kvs' S' s5' s6',cB (sk (ab (ae 4))) cR (n+2) (dM m f st b u s5 s6) S=some (.nx (dM m f st b u s5' s6'),S')/\S'[m]?=some (.dK kvs')/\(∀ i,i≠m->i≠u->S'[i]?=S[i]?)/\(∀ z:Nat,aL kvs' (Sum.inl (z:Int))=if z∈[k] then some (.int b) else aL kvs (Sum.inl (z:Int)))/\kvs'.length<=kvs.length+1:=by
  intro k n S kvs s5 s6 o hm hf hu hk hl;have um:u≠m:=bK hu hm (by simp);have ms:=yF (st:=st) (b:=b) (s5:=s5) (s6:=s6) hm hf hu o hk mf (by omega) (by simp);have hu3:(((S.set u (.lst [])).set m (.dK (bo kvs (Sum.inl (k:Int)) (.int b)))).set u (.lst []))[u]?=some (.lst []):=set_eq' (set_ne' (set_eq' hu) um.symm);refine ⟨bo kvs (Sum.inl (k:Int)) (.int b),_,_,_,(Nt (xQ hu) ms).trans (Os (xQ hu3)),set_ne' (set_eq' (set_ne' hm um)) um,λ i i1 i2=>?_,λ z=>?_,cQ _ _ _⟩
  . rw [RI (SN i2),RI (SN i1),RI (SN i2)]
  . rw [dA];by_cases h:z=k
    . subst h;rw [Rt rfl,Rt (by simp)]
    . rw [RJ λ z'=>by injection z' with z';omega,RJ (by simpa using h)]
 induction ds with
 | nil=>
  intro k n S kvs s5 s6 o hm hf hu hk hl;exact fin k n S kvs s5 s6 o hm hf hu (hk k (Ry _)) (by simpa using hl)
 | cons d ds ih=>
  intro k n S kvs s5 s6 o hm hf hu hk hl;simp only [RM] at hl;have o1:aL fkv (Sum.inl (k:Int))=some (.list (if lg d then [] else [.int ((k+bl d:Nat):Int)])):=o.1;unfold o7;cases hd:lg d with
  | true=>
   rw [hd] at o1;obtain ⟨kvs',S',s5',s6',a1,a2,a3,a4,a5⟩:=fin k (n+ds.length+1) S kvs s5 s6 o1 hm hf hu (hk k (Ry _)) (by omega);exact ⟨kvs',S',s5',s6',a1,a2,a3,a4,by simp only [RM];omega⟩
  | false=>
   rw [hd] at o1;have um:u≠m:=bK hu hm (by simp);have uf:u≠f:=bK hu hf (by simp);have ms:=yF (st:=st) (b:=b) (s5:=s5) (s6:=s6) hm hf hu o1 (hk k (Ry _)) mf (by omega) (by simp);have bp:0<bl d:=by unfold bl;omega
   have pl:=cQ kvs (Sum.inl (k:Int)) (.int b);obtain ⟨kvs',S',s5',s6',a1,a2,a3,a4,a5⟩:=ih (k+bl d) n (((S.set u (.lst [])).set m (.dK (bo kvs (Sum.inl (k:Int)) (.int b)))).set u (.lst [.int ((k+bl d:Nat):Int)])) (bo kvs (Sum.inl (k:Int)) (.int b)) (.val (.int k)) (.val (.int 0)) o.2 (set_ne' (set_eq' (set_ne' hm um)) um) (set_ne' (set_ne' (set_ne' hf uf) mf) uf) (set_eq' (set_ne' (set_eq' hu) um.symm)) (λ z hz=>by rw [dA,RJ λ z'=>by injection z' with z';omega];exact hk z (by omega)) (by omega);refine ⟨kvs',S',s5',s6',(Nt (xQ hu) ms).trans a1,a2,λ i i1 i2=>?_,λ z=>?_,by simp only [RM];omega⟩
   . rw [a3 i i1 i2,RI (SN i2),RI (SN i1),RI (SN i2)]
   . show _=if z∈k::o7 (k+bl d) ds then _ else _
     rw [a4,dA];by_cases h:z=k
     . subst h;rw [Rt rfl,Rt RV,ite_self]
     . rw [RJ (show ¬ (Sum.inl (z:Int):b8)=Sum.inl (k:Int) from λ z'=>by injection z' with z';omega)];by_cases h2:z∈o7 (k+bl d) ds
       . rw [Rt h2,Rt (R6 _ h2)]
       . rw [RJ h2,RJ λ z'=>(Rx.mp z').elim h h2]
end
theorem vq {m f st b:Nat} {S:aq} {kvs fkv:List (b8×W)} {ds:List De} (mf:m≠f) (o:wv (λ z=>aL fkv (Sum.inl (z:Int))) st ds) (hm:S[m]?=some (.dK kvs)) (hf:S[f]?=some (.dK fkv)) (hk:∀ z:Nat,st<=z->aL kvs (Sum.inl (z:Int))=none) (hl:kvs.length+ds.length<=8000):
 ∃ kvs' S',fR [.ref m,.ref f,.int st,.int b] S=some (.ok .none,S')/\S'[m]?=some (.dK kvs')/\(∀ (i:Nat) (o:Ob),i≠m->S[i]?=some o->S'[i]?=some o)/\(∀ z:Nat,aL kvs' (Sum.inl (z:Int))=if z∈o7 st ds then some (.int b) else aL kvs (Sum.inl (z:Int)))/\kvs'.length<=kvs.length+ds.length+1:=by
 have z1:=sz 1 (by decide);obtain ⟨n,hn⟩:∃ n,1000000=n+ds.length+2:=⟨1000000-(ds.length+2),by omega⟩
 obtain ⟨kvs',S',s5,s6,a1,a2,a3,a4,a5⟩:=F3 (st:=st) (b:=b) (u:=S.length) mf ds st n (S++[.lst [.int st]]) kvs .no .no o (aW hm) (aW hf) (ck _ _) hk hl;refine ⟨kvs',S',?_,a2,λ i o hi h=>?_,a4,a5⟩
 . refine (aU rfl).trans ((RO eF (?_:_=some (.nx (dM m f st b S.length s5 s6),S'))).trans rfl);refine (ai (δ':=dM m f st b S.length .no .no) (S':=S++[.lst [.int st]]) (bi (d:=.ref S.length) (by first | rfl | simp! [uS,uD,Rt z1]) rfl)).trans ?_;rw [hn];exact a1
 . have hi':i<S.length:=(oG h).1;rw [a3 i hi (by omega)];exact aW h
noncomputable def uh:Nat->List De->List Nat
 | _,[]=>[]
 | k,d::ds=>if lg d then (k+bl d)::uh (k+bl d) ds else uh (k+bl d) ds
noncomputable def jY:Nat->List De->Option (Nat×List De)
 | _,[]=>none
 | k,d::ds=>if lg d then some (k+bl d,ds) else jY (k+bl d) ds
noncomputable def Aq (v:Nat->Option W):Nat->Nat->List De->Prop
 | p,k,[]=>v k=some (.int ((2^p:Nat):Int))
 | p,k,d::ds=>v k=some (.int ((2^p:Nat):Int))/\Aq v (if lg d then p+1 else p) (k+bl d) ds
theorem K6 (d:De):0<bl d:=by unfold bl;omega
theorem wp (k:Nat) (ds:List De):k∈o7 k ds:=by
 cases ds with
 | nil=>simp [o7]
 | cons x xs=>unfold o7;split <;> simp
theorem zu {v:Nat->Option W} {p:Nat}:∀ {ds:List De} {k:Nat},jY k ds=none->(∀ z∈o7 k ds,v z=some (.int ((2^p:Nat):Int)))->uh k ds=[]/\Aq v p k ds
 | [],k,_,h=>⟨rfl,h k (by simp [o7])⟩
 | d::ds,k,e,h=>by
  cases hd:lg d with
  | true=>simp [jY,hd] at e
  | false=>
   have e':jY (k+bl d) ds=none:=by simpa [jY,hd] using e
   have hs:o7 k (d::ds)=k::o7 (k+bl d) ds:=by simp [o7,hd]
   rw [hs] at h;obtain ⟨h1,h2⟩:=zu e' λ z hz=>h z (R6 _ hz);exact ⟨by simp [uh,hd,h1],h k RV,by rw [hd];exact h2⟩
theorem ur {v w:Nat->Option W} {p k':Nat} {ds':List De}:∀ {ds:List De} {k:Nat},jY k ds=some (k',ds')->wv w k ds->uh k ds=k'::uh k' ds'/\ds'.length<ds.length/\wv w k' ds'/\(∀ z∈o7 k ds,z<k')/\((∀ z∈o7 k ds,v z=some (.int ((2^p:Nat):Int)))->Aq v (p+1) k' ds'->Aq v p k ds)
 | [],k,e,_=>by cases e
 | d::ds,k,e,o=>by
  have bp:=K6 d;cases hd:lg d with
  | true=>
   have e':some (k+bl d,ds)=some (k',ds'):=by simpa [jY,hd] using e
   cases e';have hs:o7 k (d::ds')=[k]:=by simp [o7,hd]
   rw [hs];refine ⟨by simp [uh,hd],by simp,o.2,λ z hz=>by rw [RE.mp hz];omega,λ h1 h2=>⟨h1 k (by simp),by rw [hd];exact h2⟩⟩
  | false=>
   have e':jY (k+bl d) ds=some (k',ds'):=by simpa [jY,hd] using e
   obtain ⟨h1,h2,h3,h4,h5⟩:=ur (v:=v) (p:=p) e' o.2;have hs:o7 k (d::ds)=k::o7 (k+bl d) ds:=by simp [o7,hd]
   rw [hs];have hk:k<k':=by
    have:=h4 _ (wp _ ds);omega
   refine ⟨by simp [uh,hd,h1],by simp;omega,h3,λ z hz=>?_,λ g1 g2=>⟨g1 k RV,by rw [hd];exact h5 (λ z hz=>g1 z (R6 _ hz)) g2⟩⟩;rcases Rx.mp hz with rfl | hz
   . exact hk
   . exact h4 z hz
noncomputable abbrev dS (R:W) (f m:Nat) (s3 s4:Sl):DS:=[.val R,.val (.ref f),.val (.ref m),s3,s4]
theorem zx {R:W} {m f:Nat} {fkv:List (b8×W)} (mf:m≠f):∀ (n:Nat) (ds:List De) (k p:Nat) (S:aq) (kvs:List (b8×W)) (s3 s4:Sl),ds.length<=n->wv (λ z=>aL fkv (Sum.inl (z:Int))) k ds->S[m]?=some (.dK kvs)->S[f]?=some (.dK fkv)->(∀ z:Nat,k<=z->aL kvs (Sum.inl (z:Int))=none)->kvs.length+70*ds.length+70<=8000->p+ds.length<=90->n<=63->
 ∃ kvs' S' s3' s4',aS (vn 3 4) cf (fV p ((k::uh k ds).map λ (z:Nat)=>W.int (z:Int))) (dS R f m s3 s4) S=some (.nx (dS R f m s3' s4'),S')/\S'[m]?=some (.dK kvs')/\(∀ (i:Nat) (o:Ob),i≠m->S[i]?=some o->S'[i]?=some o)/\(∀ z:Nat,z<k->aL kvs' (Sum.inl (z:Int))=aL kvs (Sum.inl (z:Int)))/\Aq (λ z=>aL kvs' (Sum.inl (z:Int))) p k ds
 | 0,ds,k,p,S,kvs,s3,s4,hn,o,hm,hf,hk,hl,hp,h63=>by
  have hd:ds=[]:=T7 (by omega);subst hd;obtain ⟨kvs1,S1,e1,g1,k1,v1,l1⟩:=vq (b:=2^p) mf o hm hf hk (by simp at hl ⊢;omega);have sh:=HB p (by omega);have st:cf (dS R f m (.val (.int p)) (.val (.int k))) S=some (.nx (dS R f m (.val (.int p)) (.val (.int k))),S1):=bT (bB (S1:=S) (ds:=[.ref m,.ref f,.int k,.int ((2^p:Nat):Int)]) (by first | rfl | simp! [uS,uD,ao,sh]) e1);refine ⟨kvs1,S1,_,_,(aH rfl st).trans rfl,g1,k1,λ z hz=>?_,?_⟩
  . rw [v1,RJ (by simp [o7];omega)]
  . show aL _ _=_;rw [v1,Rt (by simp [o7])]
 | n+1,ds,k,p,S,kvs,s3,s4,hn,o,hm,hf,hk,hl,hp,h63=>by
  obtain ⟨kvs1,S1,e1,g1,k1,v1,l1⟩:=vq (b:=2^p) mf o hm hf hk (by omega);have sh:=HB p (by omega);have st:cf (dS R f m (.val (.int p)) (.val (.int k))) S=some (.nx (dS R f m (.val (.int p)) (.val (.int k))),S1):=bT (bB (S1:=S) (ds:=[.ref m,.ref f,.int k,.int ((2^p:Nat):Int)]) (by first | rfl | simp! [uS,uD,ao,sh]) e1);have lo:∀ z:Nat,z<k->aL kvs1 (Sum.inl (z:Int))=aL kvs (Sum.inl (z:Int)):=λ z hz=>by
   rw [v1,RJ λ h=>by have:=Eg ds k z h;omega]
  cases e:jY k ds with
  | none=>
   obtain ⟨h1,h2⟩:=zu (v:=λ z=>aL kvs1 (Sum.inl (z:Int))) (p:=p) e λ z hz=>by
    show aL _ _=_;rw [v1,Rt hz]
   rw [h1];exact ⟨kvs1,S1,_,_,(aH rfl st).trans rfl,g1,k1,lo,h2⟩
  | some kd=>
   obtain ⟨k',ds'⟩:=kd;obtain ⟨h1,h2,h3,h4,_⟩:=ur (v:=λ z=>aL kvs1 (Sum.inl (z:Int))) (p:=p) e o;have kk:k<k':=by
    exact h4 _ (wp _ ds)
   obtain ⟨kvs2,S2,t3,t4,e2,g2,k2,lo2,ph⟩:=zx (R:=R) mf n ds' k' (p+1) S1 kvs1 (.val (.int p)) (.val (.int k)) (by omega) h3 g1 (k1 f _ mf.symm hf) (λ z hz=>by
    rw [v1,RJ λ h=>by have:=h4 z h;omega];exact hk z (by omega)) (by omega) (by omega) (by omega)
   obtain ⟨_,_,_,_,h5⟩:=ur (v:=λ z=>aL kvs2 (Sum.inl (z:Int))) (p:=p) e o;refine ⟨kvs2,S2,t3,t4,?_,g2,λ i o hi h=>k2 i o hi (k1 i o hi h),λ z hz=>(lo2 z (by omega)).trans (lo z hz),h5 (λ z hz=>?_) ph⟩
   . rw [h1];exact (aH rfl st).trans e2
   . show aL _ _=_;rw [lo2 z (h4 z hz),v1,Rt hz]
noncomputable abbrev cS (l:List W):Option (List W):=bQ (vn 0 1) (au fY 1[0]! (aB #[!"meet",!"join"])) (ao bI (ar 0) !1) [.no,.no] l
theorem uG {k:Nat} {x:W} {l:List W} {c:Fin 12} (r:Rw c x):cS (.tuple [.int k,x]::l)=if c.val=2∨c.val=3 then (cS l).map (W.int ((k+1:Nat):Int)::·) else cS l:=by
 have z2:=sz 2 (by decide);have wm:=Da c;have t:au fY 1[0]! (aB #[!"meet",!"join"]) [.val (.int k),.val x]=some (decide (c.val=2∨c.val=3)):=by
  have rw:=E3 (f:=ar 1) (δ:=[.val (.int k),.val x]) rfl r;first | rfl | simp! [au,rw,uD,wm,Rt z2]
 show ((au fY 1[0]! (aB #[!"meet",!"join"]) [.val (.int k),.val x])).bind _=_;rw [t];by_cases h:c.val=2∨c.val=3
 . rw [Rt h,RK h];rfl
 . rw [RJ h,RB h];rfl
theorem CZ:∀ (xs:List W) (k:Nat) (aY:List W),(∀ x∈xs,∃ c:Fin 12,3<c.val/\Rw c x)->cS (fV k xs++aY)=cS aY
 | [],_,_,_=>rfl
 | x::xs,k,aY,hx=>by
  obtain ⟨c,hc,r⟩:=hx x (by simp);refine (uG (l:=fV (k+1) xs++aY) r).trans ?_;rw [RJ (by omega)];exact CZ xs (k+1) aY λ y hy=>hx y (by simp [hy])
theorem DN (N:List Str) (ln:Int) (d:De) (k:Nat) (aY:List W):fV k (ro N ln d)++aY=.tuple [.int k,ja ln]::(fV (k+1) (rE N ln (N.length+1) (bv d))++(.tuple [.int ((k+1+cz (bv d):Nat):Int),d7 N ln d]::aY)):=by
 rw [qf,show fV k (ja ln::(rE N ln (N.length+1) (bv d)++[d7 N ln d]))=.tuple [.int k,ja ln]::fV (k+1) (rE N ln (N.length+1) (bv d)++[d7 N ln d]) from rfl,jL,mG,TB,RX];rfl
theorem B5 {N:List Str} {e:Int}:∀ (ds:List De) (ln:Int) (k:Nat),cS (fV k (dh N ln ds++[gU e]))=some ((uh k ds).map λ (z:Nat)=>W.int (z:Int))
 | [],ln,k=>(uG (c:=1) (l:=[]) ⟨_,rfl⟩).trans (RJ (by decide))
 | d::ds,ln,k=>by
  rw [show dh N ln (d::ds)=ro N ln d++dh N (ln+1) ds from rfl,RX,jL,xD,DN];refine (uG (c:=0) ⟨_,rfl⟩).trans ?_;rw [RJ (by decide),CZ _ _ _ (vV _ _ _ _)];refine (uG (oV N ln d)).trans ?_;rw [B5 ds,show k+1+cz (bv d)+1=k+bl d by unfold bl;omega];rw [show uh k (d::ds)=if lg d then (k+bl d)::uh (k+bl d) ds else uh (k+bl d) ds from rfl];by_cases h:(lc d).val=2∨(lc d).val=3
  . rw [Rt h,show lg d=true from RK h];rfl
  . rw [RJ h,show lg d=false from RB h];rfl
noncomputable def Lr:Nat->Int->List De->List (b8×W)
 | _,_,[]=>[]
 | p,ln,d::ds=>(Sum.inl ln,.int ((2^p:Nat):Int))::Lr (if lg d then p+1 else p) (ln+1) ds
noncomputable abbrev dL (R:W) (m g:Nat) (s3 s4:Sl):DS:=[.val R,.val (.ref m),.val (.ref g),s3,s4]
section
variable {R:W} {m g:Nat}
theorem Dn {k:Nat} {x:W} {l:List W} {s3 s4:Sl} {S:aq} {c:Fin 12} (r:Rw c x) (h:c.val≠0):aS (vn 3 4) bO (.tuple [.int k,x]::l) (dL R m g s3 s4) S=aS (vn 3 4) bO l (dL R m g (.val (.int k)) (.val x)) S:=
 aH rfl ((fF (E3 rfl r) (by rw [K7];simpa using h)).trans rfl)
theorem DY {S:aq}:∀ (xs:List W) (k:Nat) (aY:List W) (s3 s4:Sl),(∀ x∈xs,∃ c:Fin 12,3<c.val/\Rw c x)->∃ s3' s4',aS (vn 3 4) bO (fV k xs++aY) (dL R m g s3 s4) S=aS (vn 3 4) bO aY (dL R m g s3' s4') S
 | [],_,_,s3,s4,_=>⟨s3,s4,rfl⟩
 | x::xs,k,aY,s3,s4,hx=>by
  obtain ⟨c,hc,r⟩:=hx x (by simp);obtain ⟨s3',s4',e⟩:=DY (S:=S) xs (k+1) aY (.val (.int k)) (.val x) λ y hy=>hx y (by simp [hy]);exact ⟨s3',s4',(Dn (l:=fV (k+1) xs++aY) r (by omega)).trans e⟩
theorem Bf {N:List Str} {e:Int} {mkv:List (b8×W)} (mg:m≠g):∀ (ds:List De) (ln:Int) (k p:Nat) (S:aq) (acc:List (b8×W)) (s3 s4:Sl),S[m]?=some (.dK mkv)->S[g]?=some (.dK acc)->Aq (λ z=>aL mkv (Sum.inl (z:Int))) p k ds->(∀ z,ln<=z->aL acc (Sum.inl z)=none)->acc.length+ds.length<=8000->
 ∃ S' s3' s4',aS (vn 3 4) bO (fV k (dh N ln ds++[gU e])) (dL R m g s3 s4) S=some (.nx (dL R m g s3' s4'),S')/\S'[g]?=some (.dK (acc++Lr p ln ds))/\∀ i,i≠g->S'[i]?=S[i]?
 | [],ln,k,p,S,acc,s3,s4,hm,hg,o,ha,hl=>⟨S,_,_,(Dn (c:=1) (l:=[]) ⟨_,rfl⟩ (by decide)).trans rfl,by simpa [Lr] using hg,λ _ _=>rfl⟩
 | d::ds,ln,k,p,S,acc,s3,s4,hm,hg,o,ha,hl=>by
  simp only [RM] at hl;rw [show dh N ln (d::ds)=ro N ln d++dh N (ln+1) ds from rfl,RX,jL,xD,DN];have ov:aL mkv (Sum.inl (k:Int))=some (.int ((2^p:Nat):Int)):=o.1;have gk:=(fS (n:=(k:Int)) hm).trans (RO some ov);have pa:=tX (n:=ln) (v:=.int ((2^p:Nat):Int)) hg (by omega);rw [hJ _ (ha ln (Sk _))] at pa;have st:bO (dL R m g (.val (.int k)) (.val (ja ln))) S=some (.nx (dL R m g (.val (.int k)) (.val (ja ln))),S.set g (.dK (acc++[(Sum.inl ln,.int ((2^p:Nat):Int))]))):=by
   refine (fT (x0 rfl)).trans ?_;first | rfl | simp! [bW,kB,ja,uS,uD,vJ,gk,rB hm,To,pa]
  obtain ⟨t3,t4,e1⟩:=DY (R:=R) (m:=m) (g:=g) (S:=S.set g (.dK (acc++[(Sum.inl ln,.int ((2^p:Nat):Int))]))) (rE N ln (N.length+1) (bv d)) (k+1) (.tuple [.int ((k+1+cz (bv d):Nat):Int),d7 N ln d]::fV (k+bl d) (dh N (ln+1) ds++[gU e])) (.val (.int k)) (.val (ja ln)) (vV _ _ _ _);obtain ⟨S',s3',s4',e2,g2,k2⟩:=Bf (N:=N) (e:=e) mg ds (ln+1) (k+bl d) (if lg d then p+1 else p) (S.set g (.dK (acc++[(Sum.inl ln,.int ((2^p:Nat):Int))]))) (acc++[(Sum.inl ln,.int ((2^p:Nat):Int))]) (.val (.int ((k+1+cz (bv d):Nat):Int))) (.val (d7 N ln d)) (set_ne' hm mg.symm) (set_eq' hg) o.2 (λ z hz=>by
   rw [vv _ _ _ _ (ha ln (Sk _)),RJ λ z'=>by injection z' with z';omega];exact ha z (by omega)) (by simp;omega)
  refine ⟨S',s3',s4',(aH rfl st).trans (e1.trans ((Dn (oV N ln d) (by have:=Dv d;omega)).trans e2)),by simpa [Lr] using g2,λ i hi=>(k2 i hi).trans (RI (SN hi))⟩
end
theorem xa (ds:List De) (b e:Int) (ho:∀ d∈ds,qP d) (hl:ds.length<=63) (S:aq):∃ g S',dX [.list (dr ds b e)] S=some (.ok (.ref g),S')/\S'[g]?=some (.dK (Lr 0 (b+1) ds))/\Kp S S':=by
 have z1:=sz 1 (by decide);have al:=jA (NN ds) ds (b+1) ho;have rl:(dr ds b e).length<=3000:=by simp [dr];omega
 obtain ⟨f,fkv,S1,e1,g1,o1,f1,k1⟩:=Ar ds b e ho hl S;have lf:f<S1.length:=(oG g1).1;obtain ⟨mkv,S2,s3,s4,e2,g2,k2,_,ph⟩:=zx (R:=.list (dr ds b e)) (m:=S1.length) (f:=f) (by omega) 63 ds 0 0 (S1++[.dK []]) [] .no .no hl o1 (ck _ _) (aW g1) (λ _ _=>rfl) (by simp;omega) (by omega) (by omega);have lm:S1.length<S2.length:=(oG g2).1;obtain ⟨S3,t3,t4,e3,g3,k3⟩:=Bf (R:=.list (dr ds b e)) (m:=S1.length) (g:=S2.length) (by omega) (N:=NN ds) (e:=e) ds (b+1) 0 0 (S2++[.dK []]) [] .no .no (aW g2) (ck _ _) ph (λ _ _=>rfl) (by simp;omega);have lr:iP [.list (dr ds b e),.ref S1.length] S2=some (.ok (.ref S2.length),S3):=by
  refine (aU rfl).trans ((RO eF (?_:_=some (.rt (.ref S2.length),S3))).trans rfl);refine (ai (δ':=dL (.list (dr ds b e)) S1.length S2.length .no .no) (S':=S2++[.dK []]) (bi rfl rfl)).trans ?_;refine (ai ((bD (S1:=S2++[.dK []]) (ds:=fV 0 (dr ds b e)) (by first | rfl | simp! [uS,uD,fg])).trans e3)).trans ?_;rfl
 refine ⟨S2.length,S3,?_,by simpa using g3,λ i o h=>?_⟩
 . refine (aU rfl).trans ((RO eF (?_:_=some (.rt (.ref S2.length),S3))).trans rfl);refine (ai (δ':=[.val (.list (dr ds b e)),.val (.ref f),.no,.no,.no]) (S':=S1) (bi (bB (S1:=S) (by first | rfl | simp! [uS,uD]) e1) rfl)).trans ?_;refine (ai (δ':=dS (.list (dr ds b e)) f S1.length .no .no) (S':=S1++[.dK []]) (bi (d:=.ref S1.length) rfl rfl)).trans ?_;refine (ai (δ':=dS (.list (dr ds b e)) f S1.length s3 s4) (S':=S2) ?_).trans ?_
   . generalize hen:fV 0 ((0::uh 0 ds).map λ (z:Nat)=>W.int (z:Int))=en at e2;refine (bD (S1:=S1++[.dK []]) (ds:=en) ?_).trans e2;subst hen;have c:cS (fV 0 (dr ds b e))=_:=B5 (N:=NN ds) (e:=e) ds (b+1) 0;simp only [cS,vn] at c;have zr:(fV 0 (dr ds b e)).length<=sizeLine:=sz _ (by rw [<-fg];simp [kh];omega);have sl:(uh 0 ds).length<=63:=by
      have:∀ (ds:List De) (k:Nat),(uh k ds).length<=ds.length:=λ ds=>by
       induction ds with
       | nil=>intro k;simp [uh]
       | cons d ds ih=>intro k;have:=ih (k+bl d);unfold uh;split <;> simp <;> omega
      have:=this ds 0;omega
     have ga:=gG (a:=[W.int 0]) (b:=(uh 0 ds).map λ (z:Nat)=>W.int (z:Int)) (sz _ (by simp;omega));first | rfl | (simp! [uS,uD,ao,Rt z1,fg,Rt zr,c,Sw,RG,ga];rfl)
   refine jq (bB (S1:=S2) (ds:=[.list (dr ds b e),.ref S1.length]) (by first | rfl | simp! [uS,uD]) lr)
 . have hi:i<S.length:=(oG h).1;have h1:=k1 i o h;have h2:i<S1.length:=(oG h1).1;rw [k3 i (by omega)];exact aW (k2 i o (by omega) (aW h1))
noncomputable def gD:Int->List (List Fm)->List (b8×W)
 | _,[]=>[]
 | ln,L::Ls=>(Sum.inl ln,.list (L.map dR))::gD (ln+1) Ls
theorem yc:∀ (Ls:List (List Fm)) (ln:Int),(gD ln Ls).length=Ls.length
 | [],_=>rfl
 | L::Ls,ln=>by simp [gD,yc Ls]
theorem wE:∀ (Ls:List (List Fm)) (ln:Int) (L:List Fm),gD ln (Ls++[L])=gD ln Ls++[(Sum.inl (ln+Ls.length),.list (L.map dR))]
 | [],ln,L=>by simp [gD]
 | M::Ls,ln,L=>by
  rw [TB,gD,wE Ls,gD,TB,RM,show ln+1+(Ls.length:Int)=ln+((Ls.length+1:Nat):Int) by omega]
theorem eV {k z:Int} {v:W} {l:List (b8×W)}:aL ((Sum.inl k,v)::l) (Sum.inl z)=if z=k then some v else aL l (Sum.inl z):=by
 unfold aL;by_cases h:z=k
 . subst h;rw [List.find?_cons_of_pos (by simp),Rt rfl];rfl
 . rw [List.find?_cons_of_neg (by simp;omega),RJ h]
theorem DL:∀ (Ls:List (List Fm)) (ln z:Int),ln+Ls.length<=z->aL (gD ln Ls) (Sum.inl z)=none
 | [],_,_,_=>rfl
 | L::Ls,ln,z,h=>by
  simp only [RM] at h;rw [gD,eV,RJ (by omega)];exact DL Ls (ln+1) z (by omega)
noncomputable def GL (d:De) (L:List Fm):Prop:=(∀ g,g∈L↔g∈gF d)/\L.length<=31
noncomputable abbrev Lk (a3 a4 a5 a6 a7:W) (pr:W) (G P:Nat) (s8 s9:Sl):DS:=[.val pr,.val (.ref G),.val (.ref P),.val a3,.val a4,.val a5,.val a6,.val a7,s8,s9,.no,.no,.no,.no,.no,.no,.no]
theorem EN (k:Int) (d:De) {δ:DS} (h:ar 8 δ=some (bR k d)):Fk (au bw 8[0]! !"put") (be (aZ #[aV il #[8[2]!]])) (be (aZ ah)) δ=some (.list ((putF d).map dR)):=by
 have z0:=sz 0 (by decide);have z1:=sz 1 (by decide);rcases HD d with ⟨h1,h2⟩ | ⟨a,b,rfl⟩
 . have t:=tF (x0 (f:=ar 8) (l:=.int k::rs d) h) h1;first | rfl | simp! [Fk,t,h2,uD,Rt z0]
 . have t:au bw 8[0]! (!"put") δ=some true:=tT (x0 (f:=ar 8) (l:=.int k::rs (.put a b)) h);have fr:=vk a;have e2:8[2]! δ=some (tw a):=x2 (f:=ar 8) h;first | rfl | simp! [Fk,t,UD,be,aZ,aV,aa,e2,putF,uD,fr,Rt z1]
theorem Io {α β:Type} {F:α->β->Prop} {a c:List α} {b d:List β} (h:Paired F a b) (g:Paired F c d):Paired F (a++c) (b++d):=by
 induction h with
 | nil=>exact g
 | cons r _ ih=>exact .cons r ih
theorem wj {fo fk:DS->Option W} {fv:DS->aq->SM W} {δ:DS} {S S1:aq} {d:Nat} {kvs:List (b8×W)} {i:Int} {v:W} (h1:fv δ S=some (.ok v,S1)) (h2:fo δ=some (.ref d)) (h3:fk δ=some (.int i)) (hd:S1[d]?=some (.dK kvs)) (hl:kvs.length<9000):bW (ab fo) (ab fk) fv δ S=some (.nx δ,S1.set d (.dK (bo kvs (Sum.inl i) v))):=by
 have z:kvs.length<sizeLine:=RD hl (sz 9000 (by decide));simp only [bW,h1,d9 h2,d9 h3,mj,mS,eK,hd,ky,RG,Rt z,Sw]
theorem yn {a3 a4 a5 a6 a7 pr:W} {G P:Nat} (gp:G≠P):∀ (ds es:List De) (Ls:List (List Fm)) (ln:Int) (S:aq) (s8 s9:Sl),(∀ d∈ds,qP d)->S[G]?=some (.dK (gD ln Ls))->S[P]?=some (.dK (gD ln (es.map putF)))->Paired GL es Ls->es.length+ds.length<=100->
 ∃ Ls' S' s8' s9',aS (vn 8 9) mE ((aK (ln+es.length) ds).map AV) (Lk a3 a4 a5 a6 a7 pr G P s8 s9) S=some (.nx (Lk a3 a4 a5 a6 a7 pr G P s8' s9'),S')/\S'[G]?=some (.dK (gD ln Ls'))/\S'[P]?=some (.dK (gD ln ((es++ds).map putF)))/\Paired GL (es++ds) Ls'/\∀ (i:Nat) (o:Ob),i≠G->i≠P->S[i]?=some o->S'[i]?=some o
 | [],es,Ls,ln,S,s8,s9,_,hG,hP,pl,_=>⟨Ls,S,s8,s9,rfl,hG,by simpa using hP,by simpa using pl,λ _ _ _ _ h=>h⟩
 | d::ds,es,Ls,ln,S,s8,s9,ho,hG,hP,pl,hl=>by
  simp only [RM] at hl;have ll:=Ts pl;obtain ⟨L,S1,e1,m1,l1,k1⟩:=zU (ln+es.length) d (ho d (by simp)) S;have G1:=k1 _ _ hG;have P1:=k1 _ _ hP;let δ:DS:=Lk a3 a4 a5 a6 a7 pr G P (.val (bR (ln+es.length) d)) (.val (.tuple []));have x1':8[1]! δ=some (.int (ln+es.length)):=x1 (f:=ar 8) (l:=rs d) rfl;have pa:=wj (fo:=ae 1) (fk:=8[1]!) (δ:=δ) (fv:=cy gj (ab #[ae 8])) (bB (S1:=S) (by first | rfl | simp! [δ,uS,uD]) e1) rfl x1' G1 (by rw [yc];omega);rw [hJ _ (DL _ _ _ (by omega)),show gD ln Ls++[(Sum.inl (ln+(es.length:Int)),W.list (L.map dR))]=gD ln (Ls++[L]) by rw [wE,ll]] at pa;have P2:(S1.set G (.dK (gD ln (Ls++[L]))))[P]?=some (.dK (gD ln (es.map putF))):=set_ne' P1 gp;have pb:=wj (fo:=ae 2) (fk:=8[1]!) (δ:=δ) (d9 (EN (ln+es.length) d (δ:=δ) rfl)) rfl x1' P2 (by rw [yc,R8];omega);rw [hJ _ (DL _ _ _ (by simp)),show gD ln (es.map putF)++[(Sum.inl (ln+(es.length:Int)),W.list ((putF d).map dR))]=gD ln ((es++[d]).map putF) by rw [RW,RU,UX,wE,R8]] at pb;have st:mE δ S=some (.nx δ,(S1.set G (.dK (gD ln (Ls++[L])))).set P (.dK (gD ln ((es++[d]).map putF)))):=(ai pa).trans pb;obtain ⟨Ls',S',s8',s9',e2,g2,p2,q2,k2⟩:=yn (a3:=a3) (a4:=a4) (a5:=a5) (a6:=a6) (a7:=a7) (pr:=pr) gp ds (es++[d]) (Ls++[L]) ln _ (.val (bR (ln+es.length) d)) (.val (.tuple [])) (λ x hx=>ho x (by simp [hx])) (set_ne' (set_eq' G1) gp.symm) (set_eq' P2) (Io pl (.cons ⟨m1,l1⟩ .nil)) (by simp;omega);refine ⟨Ls',S',s8',s9',?_,g2,by simpa using p2,by simpa using q2,λ i o i1 i2 h=>k2 i o i1 i2 (set_ne' (set_ne' (k1 i o h) (SN i1)) (SN i2))⟩;have eb:(aK (ln+es.length) (d::ds)).map AV=AV (bR (ln+es.length) d)::(aK (ln+(es++[d]).length) ds).map AV:=by
   rw [RN,show ln+((es.length+[d].length:Nat):Int)=ln+(es.length:Int)+1 by simp;omega];rfl
  rw [eb];exact (aH rfl st).trans e2
noncomputable abbrev Li:=Int×List Fm×List Fm×Nat
noncomputable def qM:Nat->Int->List De->List (List Fm)->List Li
 | p,ln,d::ds,L::Ls=>(ln,L,putF d,p)::qM (if lg d then p+1 else p) (ln+1) ds Ls
 | _,_,_,_=>[]
noncomputable def o6 (x:Li):Bool:=!x.2.1.isEmpty || !x.2.2.1.isEmpty
noncomputable def mQ (x u:Li):Bool:=(x.2.2.1.any λ p=>(u.2.1++u.2.2.1).any (mm p))||(u.2.2.1.any λ p=>x.2.1.any (mm p))
noncomputable def wy (x u:Li):Option (Int×Int):=if (mQ x u&&decide (x.2.2.2=u.2.2.2))=true then some (x.1,u.1) else none
noncomputable def PL:List Li->List (Int×Int)
 | []=>[]
 | x::r=>(x::r).filterMap (wy x)++PL r
theorem xE:∀ (ds:List De) (Ls:List (List Fm)) (p:Nat) (ln:Int),∀ x∈qM p ln ds Ls,ln<=x.1
 | d::ds,L::Ls,p,ln,x,h=>by
  rcases Rx.mp h with rfl | h
  . exact Sk _
  . have:=xE ds Ls _ _ x h;omega
 | [],_,_,_,x,h=>by unfold qM at h;cases h
 | _::_,[],_,_,x,h=>by unfold qM at h;cases h
theorem oE:∀ (ds:List De) (Ls:List (List Fm)) (p:Nat) (ln:Int),(qM p ln ds Ls).Pairwise λ x y=>x.1<y.1
 | d::ds,L::Ls,p,ln=>.cons (λ y hy=>by have:=xE ds Ls _ _ y hy;show ln<_;omega) (oE ds Ls _ _)
 | [],_,_,_=>by unfold qM;exact .nil
 | _::_,[],_,_=>by unfold qM;exact .nil
structure AB (G P T:List (b8×W)) (x:Li):Prop where
 g:aL G (Sum.inl x.1)=some (.list (x.2.1.map dR))
 p:aL P (Sum.inl x.1)=some (.list (x.2.2.1.map dR))
 t:aL T (Sum.inl x.1)=some (.int ((2^x.2.2.2:Nat):Int))
 l:x.2.1.length<=31
 m:x.2.2.1.length<=31
theorem HL:∀ {ds:List De} {Ls:List (List Fm)} {p:Nat} {ln:Int},Paired GL ds Ls->∀ x∈qM p ln ds Ls,AB (gD ln Ls) (gD ln (ds.map putF)) (Lr p ln ds) x
 | _,_,p,ln,.nil,x,h=>by cases h
 | d::ds,L::Ls,p,ln,.cons r t,x,h=>by
  rcases Rx.mp h with rfl | h
  . refine ⟨?_,?_,?_,r.2,?_⟩
    . show aL ((Sum.inl ln,_)::_) (Sum.inl ln)=_;rw [eV,Rt rfl]
    . show aL ((Sum.inl ln,_)::_) (Sum.inl ln)=_;rw [eV,Rt rfl]
    . show aL ((Sum.inl ln,_)::_) (Sum.inl ln)=_;rw [eV,Rt rfl]
    . show (putF d).length<=31;cases d <;> simp [putF]
  . have ge:=xE ds Ls _ _ x h;have o:=HL t x h;refine ⟨?_,?_,?_,o.l,o.m⟩
    . show aL ((Sum.inl ln,_)::_) _=_;rw [eV,RJ (by omega)];exact o.g
    . show aL ((Sum.inl ln,_)::_) _=_;rw [eV,RJ (by omega)];exact o.p
    . show aL ((Sum.inl ln,_)::_) _=_;rw [eV,RJ (by omega)];exact o.t
theorem wr:∀ {ds:List De} {Ls:List (List Fm)} {p:Nat} {ln:Int},Paired GL ds Ls->(gD ln Ls).map (λ e=>x8 e.1)=(qM p ln ds Ls).map λ x=>W.int x.1
 | _,_,p,ln,.nil=>rfl
 | d::ds,L::Ls,p,ln,.cons r t=>by
  show _::_=_::_;rw [wr (p:=if lg d then p+1 else p) t];rfl
theorem z8:∀ {ds:List De} {Ls:List (List Fm)} {p:Nat} {ln:Int},Paired GL ds Ls->(qM p ln ds Ls).length=ds.length
 | _,_,p,ln,.nil=>rfl
 | d::ds,L::Ls,p,ln,.cons r t=>by
  show (qM _ _ ds Ls).length+1=_;rw [z8 t];rfl
theorem rO {n:Nat×Kd} {es:List W} {h:W->DS->Option DS} {c:DS->aq->SM Bool} {fe:DS->aq->SM W} {δ:DS} {S:aq} {p:W->Bool} (hl:fO S n=some es) (hh:∀ x∈es,∃ δ2,h x δ=some δ2/\c δ2 S=some (.ok (p x),S)/\fe δ2 S=some (.ok x,S)):∀ (m i:Nat),es.length-i<m->bE n h c fe δ m i S=some (.ok ((es.drop i).filter p),S)
 | 0,i,hm=>by omega
 | m+1,i,hm=>by
  show (fO S n).bind _=_;rw [hl];show (match es[i]? with | none=>_ | some d=>_)=_;by_cases hi:i<es.length
  . have ih:=rO hl hh m (i+1) (by omega);obtain ⟨δ2,h1,h2,h3⟩:=hh _ (Uk hi);rw [RQ hi,Sn hi];show (h _ δ).bind _=_;rw [h1];show aw _ _=_;rw [h2];cases hp:p es[i] with
    | true=>
     show aw (fe δ2 S) _=_;rw [h3];show aw (bE n h c fe δ m _ S) _=_;rw [ih,List.filter_cons_of_pos hp];rfl
    | false=>
     show bE n h c fe δ m _ S=_;rw [ih,List.filter_cons_of_neg (by rw [hp];decide)]
  . rw [Tl (by omega),List.drop_eq_nil_of_le (by omega)];rfl
theorem DQ (p q:Nat):(2^p &&& 2^q=0)↔p≠q:=by
 constructor
 . intro h e;subst e;rw [Nat.and_self] at h;exact absurd h (Nat.pos_iff_ne_zero.mp (Nat.two_pow_pos p))
 . intro h;apply Nat.eq_of_testBit_eq;intro i;rw [Nat.testBit_and,Nat.testBit_two_pow,Nat.testBit_two_pow,Nat.zero_testBit];by_cases h1:p=i
   . subst h1;rw [RB (p:=q=p) (λ z=>h z.symm),Bool.and_false]
   . rw [RB h1,Bool.false_and]
noncomputable abbrev dP (e:List Sl) (acc:List W) (ls:List W) (G P T:Nat) (s13 s14 s15 s16:Sl):DS:=(e.getD 0 .no)::.val (.ref G)::.val (.ref P)::(e.getD 3 .no)::(e.getD 4 .no)::(e.getD 5 .no)::(e.getD 6 .no)::(e.getD 7 .no)::(e.getD 8 .no)::(e.getD 9 .no)::.val (.ref T)::.val (.list ls)::.own acc::s13::s14::s15::s16::[]
section
variable {e:List Sl} {ls:List W} {G P T:Nat} {S:aq} {kg kp kt:List (b8×W)} (hG:S[G]?=some (.dK kg)) (hP:S[P]?=some (.dK kp)) (hT:S[T]?=some (.dK kt))
include hG hP hT
theorem Be {acc:List W} {x u:Li} {s13 s16:Sl} (ox:AB kg kp kt x) (ou:AB kg kp kt u) (ha:acc.length<9000):
 ∃ s16',mL (dP e acc ls G P T s13 (.val (.int x.1)) (.val (.int u.1)) s16) S=some (.nx (dP e (acc++((wy x u).toList.map jb)) ls G P T s13 (.val (.int x.1)) (.val (.int u.1)) s16'),S):=by
 have z2:=sz 2 (by decide);have gx:=(fS (n:=x.1) hG).trans (RO some ox.g);have gu:=(fS (n:=u.1) hG).trans (RO some ou.g);have px:=(fS (n:=x.1) hP).trans (RO some ox.p);have pu:=(fS (n:=u.1) hP).trans (RO some ou.p);have tx:=(fS (n:=x.1) hT).trans (RO some ox.t);have tu:=(fS (n:=u.1) hT).trans (RO some ou.t);have ga:=gG (a:=u.2.1.map dR) (b:=u.2.2.1.map dR) (sz _ (by have:=ou.l;have:=ou.m;simp;omega));rw [<-RW] at ga;have t1:=rN x.2.2.1 (u.2.1++u.2.2.1);have t2:=rN u.2.2.1 x.2.1;let δ:DS:=dP e acc ls G P T s13 (.val (.int x.1)) (.val (.int u.1)) s16;let δ':DS:=dP e acc ls G P T s13 (.val (.int x.1)) (.val (.int u.1)) (.val (.bool (mQ x u)));have st:cr (CA (gP dG (aT (bC (ab (ae 2)) (ab (ae 14))) (aT (AS bI (bC (ab (ae 1)) (ab (ae 15))) (bC (ab (ae 2)) (ab (ae 15)))) fw))) (gP dG (aT (bC (ab (ae 2)) (ab (ae 15))) (aT (bC (ab (ae 1)) (ab (ae 14))) fw)))) (af 16) δ S=some (.nx δ',S):=by
  refine bi (d:=.bool (mQ x u)) ?_ rfl;simp! [δ,CA,gP,bC,AS,uS,uD,gx,gu,px,pu,ga,t1,t2];unfold mQ;cases (x.2.2.1.any λ p=>(u.2.1++u.2.2.1).any (mm p)) <;> rfl
 have c:vy (ab (my (ae 16))) (MS true (AS wq (bC (ab (ae 10)) (ab (ae 14))) (bC (ab (ae 10)) (ab (ae 15)))) (ab !0)) δ' S=some (.ok (mQ x u&&decide (x.2.2.2=u.2.2.2)),S):=by
  have gn:wq (.int ((2^x.2.2.2:Nat):Int)) (.int ((2^u.2.2.2:Nat):Int))=some (.int ((2^x.2.2.2 &&& 2^u.2.2.2:Nat):Int)):=RO (λ z=>some (W.int z)) (CB _ _);have eq:GB true (.int ((2^x.2.2.2 &&& 2^u.2.2.2:Nat):Int)) (.int 0) S=some (decide (x.2.2.2=u.2.2.2)):=by
   show some (!decide (((2^x.2.2.2 &&& 2^u.2.2.2:Nat):Int)=0))=_;congr 1;by_cases h:x.2.2.2=u.2.2.2
   . rw [RK h,RB λ z=>absurd h ((DQ _ _).mp (by omega))];rfl
   . rw [RB h,RK (by have:=(DQ _ _).mpr h;omega)];rfl
  cases ht:mQ x u with
  | false=>exact Ih (by first | rfl | simp! [δ',ht,uS,uD])
  | true=>
   refine Km (S1:=S) (by first | rfl | simp! [δ',ht,uS,uD]) ?_;first | rfl | simp! [δ',MS,bC,AS,uS,uD,tx,tu,gn,eq,UR]
 refine ⟨.val (.bool (mQ x u)),(ai st).trans ?_⟩;cases hb:mQ x u&&decide (x.2.2.2=u.2.2.2) with
 | false=>
  rw [hb] at c;have ep:wy x u=none:=RJ (by rw [hb];decide);rw [ep];refine (iN c).trans ?_;simp only [Option.toList_none,UX,Sa];rfl
 | true=>
  rw [hb] at c;have ep:wy x u=some (x.1,u.1):=Rt hb;have zl:acc.length<sizeLine:=RD ha (sz 9000 (by decide));rw [ep];refine (ju c).trans (aR ?_);first | rfl | (simp! [δ',bF,uD,Rt z2,Rt zl];rfl)
end
section
variable {e:List Sl} {ls:List W} {G P T:Nat} {S:aq} {kg kp kt:List (b8×W)} (hG:S[G]?=some (.dK kg)) (hP:S[P]?=some (.dK kp)) (hT:S[T]?=some (.dK kt))
include hG hP hT
theorem HZ {x:Li} (ox:AB kg kp kt x) {s13:Sl}:∀ (us:List Li) (acc:List W) (s15 s16:Sl),(∀ u∈us,AB kg kp kt u)->acc.length+us.length<=8000->
 ∃ s15' s16',aS (af 15) mL (us.map λ u=>W.int u.1) (dP e acc ls G P T s13 (.val (.int x.1)) s15 s16) S=some (.nx (dP e (acc++(us.filterMap (wy x)).map jb) ls G P T s13 (.val (.int x.1)) s15' s16'),S)
 | [],acc,s15,s16,_,_=>⟨s15,s16,by simp [aS]⟩
 | u::us,acc,s15,s16,hu,hl=>by
  simp only [RM] at hl;obtain ⟨t16,e1⟩:=Be hG hP hT (e:=e) (ls:=ls) (s13:=s13) (s16:=s16) ox (hu u (by simp)) (acc:=acc) (by omega);have tl:(wy x u).toList.length<=1:=by cases wy x u <;> simp
  obtain ⟨s15',s16',e2⟩:=HZ ox us (acc++(wy x u).toList.map jb) (.val (.int u.1)) t16 (λ v hv=>hu v (by simp [hv])) (by simp only [RN,R8];omega);refine ⟨s15',s16',(aH (δ2:=dP e acc ls G P T s13 (.val (.int x.1)) (.val (.int u.1)) s16) rfl e1).trans (e2.trans ?_)⟩;rw [RX,<-RW];congr 5;cases h:wy x u <;> simp [h]
theorem CI {U:List Li} (hu:∀ u∈U,AB kg kp kt u) (hU:U.length<=63) (hls:ls=U.map λ u=>W.int u.1):∀ (r:List Li) (k:Nat) (acc:List W) (s13 s14 s15 s16:Sl),U.drop k=r->acc.length+64*r.length<=7000->
 ∃ s13' s14' s15' s16',aS (vn 13 14) si (fV k (r.map λ u=>W.int u.1)) (dP e acc ls G P T s13 s14 s15 s16) S=some (.nx (dP e (acc++(PL r).map jb) ls G P T s13' s14' s15' s16'),S)
 | [],k,acc,s13,s14,s15,s16,_,_=>⟨s13,s14,s15,s16,by simp [fV,aS,PL]⟩
 | x::r,k,acc,s13,s14,s15,s16,hd,hl=>by
  have hr:U.drop (k+1)=r:=by rw [<-Ug,hd];rfl
  have sub:∀ u∈x::r,u∈U:=λ u hm=>S8 (hd▸hm);have rl:r.length+1<=63:=by
   have:=RO List.length hd;simp at this;omega
  have fl:=Ur (wy x) (x::r);simp only [RM] at hl fl;obtain ⟨t15,t16,e1⟩:=HZ hG hP hT (e:=e) (ls:=ls) (s13:=.val (.int k)) (hu x (sub x (by simp))) (x::r) acc s15 s16 (λ u hm=>hu u (sub u hm)) (by simp only [RM];omega);obtain ⟨s13',s14',s15',s16',e2⟩:=CI hu hU hls r (k+1) (acc++((x::r).filterMap (wy x)).map jb) (.val (.int k)) (.val (.int x.1)) t15 t16 hr (by simp only [RN,R8];omega);refine ⟨s13',s14',s15',s16',?_⟩;rw [PL,RW,<-RX];refine (aH (δ2:=dP e acc ls G P T (.val (.int k)) (.val (.int x.1)) s15 s16) rfl ((bD (S1:=S) (ds:=(x::r).map λ u=>W.int u.1) ?_).trans e1)).trans e2;have c2:jQ ls (some (k:Int)) none=(x::r).map λ u=>W.int u.1:=by rw [hls,DW,<-List.map_drop,hd]
  first | rfl | simp! [dP,ve,uS,uD,c2]
end
theorem yR {x y:Li}:∀ {l:List Li},l.Pairwise (λ x y=>x.1<y.1)->x∈l->y∈l->x.1=y.1->x=y
 | [],_,hx,_,_=>by cases hx
 | z::l,.cons h1 h2,hx,hy,e=>by
  rcases Rx.mp hx with ex | hx' <;> rcases Rx.mp hy with ey | hy'
  . exact ex.trans ey.symm
  . have:=h1 y hy';rw [ex] at e;omega
  . have:=h1 x hx';rw [ey] at e;omega
  . exact yR h2 hx' hy' e
noncomputable def pQ (l:List Li):W->Bool
 | .int z=>l.any λ x=>decide (x.1=z)&&o6 x
 | _=>false
theorem Ib {l:List Li} (h:l.Pairwise λ x y=>x.1<y.1) {x:Li} (hx:x∈l):pQ l (.int x.1)=o6 x:=by
 show l.any _=_;cases e:o6 x with
 | true=>exact R7.mpr ⟨x,hx,by simp [e]⟩
 | false=>
  refine List.any_eq_false.mpr λ y hy=>?_;by_cases q:y.1=x.1
  . rw [yR h hy hx q,e];simp
  . simp [q]
theorem Iw {l:List Int} (h:l.Pairwise (·<=·)):zV l=l:=l6 (gS l) (oS l) h
theorem zM (ds:List De) (e:Int) (ho:∀ d∈ds,qP d) (hl:ds.length<=62) (S:aq):∃ Ls S',Paired GL ds Ls/\tS [.list [mW ds 1 e]] S=some (.ok (.list ((PL ((qM 0 2 ds Ls).filter o6)).map jb)),S')/\Kp S S':=by
 have z0:=sz 0 (by decide);let pr:W:=.list [mW ds 1 e];let G:=S.length;let P:=S.length+1;have l1:(S++[Ob.dK []]).length=S.length+1:=by simp
 obtain ⟨Ls,S1,s8,s9,e1,g1,p1,q1,kk1⟩:=yn (a3:=.str "main") (a4:=.list []) (a5:=.list (aK 2 ds)) (a6:=.int 1) (a7:=.int e) (pr:=pr) (G:=G) (P:=P) (by simp [G,P]) ds [] [] 2 (S++[.dK []]++[.dK []]) .no .no ho (aW (ck _ _)) (by show (S++[Ob.dK []]++[Ob.dK []])[S.length+1]?=_;rw [<-l1];exact ck _ _) .nil (by simp;omega);rw [Th] at p1 q1;rw [show (2:Int)+(([]:List De).length:Int)=2 from rfl] at e1;obtain ⟨S2,e2,k2⟩:=D8 ds 1 e S1 ho (by omega);obtain ⟨T,S3,e3,g3,k3⟩:=xa ds 1 e ho (by omega) S2;have G3:=k3 _ _ (k2 _ _ g1);have P3:=k3 _ _ (k2 _ _ p1);have lk:=HL (p:=0) (ln:=2) q1;have ll:=z8 (p:=0) (ln:=2) q1;have asc:=oE ds Ls 0 2;let U:=(qM 0 2 ds Ls).filter o6;have us:∀ u∈U,u∈qM 0 2 ds Ls:=λ u hu=>(TF.mp hu).1;have ul:U.length<=62:=Sb (List.length_filter_le _ _) (by omega);let ls:List W:=U.map λ u=>W.int u.1;let δ10:DS:=[.val pr,.val (.ref G),.val (.ref P),.val (.str "main"),.val (.list []),.val (.list (aK 2 ds)),.val (.int 1),.val (.int e),s8,s9,.val (.ref T),.no,.no,.no,.no,.no,.no]
 obtain ⟨s13,s14,s15,s16,e4⟩:=CI (e:=[.val pr,.no,.no,.val (.str "main"),.val (.list []),.val (.list (aK 2 ds)),.val (.int 1),.val (.int e),s8,s9]) G3 P3 g3 (U:=U) (ls:=ls) (λ u hu=>lk u (us u hu)) (by omega) rfl U 0 [] .no .no .no .no rfl (by simp;omega);refine ⟨Ls,S3,q1,?_,λ i o h=>?_⟩
 rotate_left
 . have hi:i<S.length:=(oG h).1;exact k3 _ _ (k2 _ _ (kk1 i o (by show i≠S.length;omega) (by show i≠S.length+1;omega) (aW (aW h))))
 refine (aU rfl).trans ((RO eF (?_:_=some (.rt (.list ((PL U).map jb)),S3))).trans rfl);refine (ai (δ':=[.val pr,.val (.ref G),.no,.no,.no,.no,.no,.no,.no,.no,.no,.no,.no,.no,.no,.no,.no]) (S':=S++[.dK []]) (bi rfl rfl)).trans ?_;refine (ai (δ':=[.val pr,.val (.ref G),.val (.ref P),.no,.no,.no,.no,.no,.no,.no,.no,.no,.no,.no,.no,.no,.no]) (S':=S++[.dK []]++[.dK []]) (bi (d:=.ref P) (by show A5 _ _=_;unfold A5;rw [l1]) rfl)).trans ?_;refine (ai (δ':=Lk (.str "main") (.list []) (.list (aK 2 ds)) (.int 1) (.int e) pr G P s8 s9) (S':=S1) ?_).trans ?_
 . refine (bD (S1:=S++[.dK []]++[.dK []]) (ds:=[mW ds 1 e]) (by first | rfl | simp! [pr,uS,uD])).trans ?_;refine (aH (δ2:=Lk (.str "main") (.list []) (.list (aK 2 ds)) (.int 1) (.int e) pr G P .no .no) (by simp! [mW,uD] <;> rfl) ?_).trans rfl;have pl:=pc ds 2 (by omega);refine (bD (S1:=S++[.dK []]++[.dK []]) (ds:=(aK 2 ds).map AV) ?_).trans e1;first | rfl | simp! [uS,uD,pJ,pl]
 refine (ai (δ':=δ10) (S':=S3) (bi (bB (S1:=S2) (ds:=[.list (dr ds 1 e)]) ?_ e3) rfl)).trans ?_
 . have ca:cy uq (ab #[ae 0]) (Lk (.str "main") (.list []) (.list (aK 2 ds)) (.int 1) (.int e) pr G P s8 s9) S1=some (.ok (.list (dr ds 1 e)),S2):=bB (S1:=S1) (by first | rfl | simp! [pr,uS,uD]) e2;exact ji ca rfl
 refine (ai (δ':=δ10.set 11 (.val (.list ls))) (S':=S3) (bi (d:=.list ls) ?_ rfl)).trans ?_
 . have cl:kM 9000 [some 1,some 2,none] (oH (ab (ae 1))) (af 2) (Ll (jp (bC (ab (ae 0)) (ab (ae 2)))) (jp (bC (ab (ae 1)) (ab (ae 2))))) (ab (ae 2)) δ10 S3=some (.ok (.list ls),S3):=by
    have lz:fO S3 (G,.d (gD 2 Ls).length)=some ((qM 0 2 ds Ls).map λ x=>W.int x.1):=(Fl G3).trans (RO some (wr q1));have fe:((qM 0 2 ds Ls).map λ x=>W.int x.1).filter (pQ (qM 0 2 ds Ls))=ls:=by
     rw [List.filter_map];exact RO (List.map _) (List.filter_congr λ x hx=>Ib asc hx)
    refine sj (n:=(G,.d (gD 2 Ls).length)) (S0:=S3) ?_ (by decide) ?_
    . first | rfl | simp! [δ10,oH,uS,uD,rB G3]
    . have:=rO (h:=af 2) (c:=Ll (jp (bC (ab (ae 0)) (ab (ae 2)))) (jp (bC (ab (ae 1)) (ab (ae 2))))) (fe:=ab (ae 2)) (δ:=[.val (.ref G),.val (.ref P),.no]) (p:=pQ (qM 0 2 ds Ls)) lz (λ w hw=>by
       obtain ⟨x,hx,rfl⟩:=Sc.mp hw;have o:=lk x hx;have gx:=(fS (n:=x.1) G3).trans (RO some o.g);have px:=(fS (n:=x.1) P3).trans (RO some o.p);refine ⟨[.val (.ref G),.val (.ref P),.val (.int x.1)],rfl,?_,rfl⟩;rw [Ib asc hx];have c1:jp (bC (ab (ae 0)) (ab (ae 2))) [.val (.ref G),.val (.ref P),.val (.int x.1)] S3=some (.ok (!x.2.1.isEmpty),S3):=by
        first | rfl | simp! [jp,bC,uS,uD,gx,jT,List.isEmpty_map]
       have c2:jp (bC (ab (ae 1)) (ab (ae 2))) [.val (.ref G),.val (.ref P),.val (.int x.1)] S3=some (.ok (!x.2.2.1.isEmpty),S3):=by
        first | rfl | simp! [jp,bC,uS,uD,px,jT,List.isEmpty_map]
       simp only [Ll,c1,aw];unfold o6;cases x.2.1.isEmpty with
       | false=>rfl
       | true=>exact c2) 9000 0 (by rw [R8,ll];omega)
      rw [List.drop_zero,fe] at this;exact this
   have so:yw (.list ls)=some (.list ls):=by
    have e5:ls=(U.map λ u=>u.1).map W.int:=by simp [ls]
    have pw:(U.map λ u=>u.1).Pairwise (·<=·):=UK.mpr ((asc.filter _).imp λ {a b} h=>T9 h);have ie:vj ls=some (U.map λ u=>u.1):=by rw [e5];exact rX _
    have lz:(U.map λ u=>u.1).length<=9000:=by simp;omega
    simp only [yw,jT,RG,ie,Rt lz,Iw pw];rw [<-e5]
   simp only [N8,cl,aw,so,qN,Sw]
 refine (ai (δ':=dP [.val pr,.no,.no,.val (.str "main"),.val (.list []),.val (.list (aK 2 ds)),.val (.int 1),.val (.int e),s8,s9] [] ls G P T .no .no .no .no) (S':=S3) (aR (by simp! [fj,uD,Rt z0] <;> rfl))).trans ?_;refine (ai ((bD (S1:=S3) (ds:=fV 0 ls) (by first | rfl | simp! [dP,uS,uD,fg])).trans e4)).trans ?_;rfl
noncomputable def pK (p:Int×Int):List b8:=[.inl p.1,.inl p.2]
theorem J5 {p q:Int×Int} (h:pK p=pK q):p=q:=by
 obtain ⟨a,b⟩:=p;obtain ⟨c,d⟩:=q;simp only [pK,List.cons.injEq,Sum.inl.injEq,and_true] at h;rw [h.1,h.2]
noncomputable def uZ (L:List (Int×Int)):List (List b8×W):=L.map λ p=>(pK p,.bool true)
theorem Gh (f:Int×Int) (L:List (Int×Int)) (nd:L.Nodup):∃ L',bo (uZ L) (pK f) (.bool true)=uZ L'/\(∀ g,g∈L'↔g=f∨g∈L)/\L'.Nodup:=by
 by_cases h:f∈L
 . refine ⟨L,?_,λ g=>⟨.inr,λ z=>z.elim (λ z=>z▸h) id⟩,nd⟩;have ha:((uZ L).any λ kv=>decide (kv.1=pK f))=true:=R7.mpr ⟨_,Sc.mpr ⟨f,h,rfl⟩,by simp⟩;rw [bo,Rt ha,uZ,T8];exact TZ λ g _=>by
    show (if pK g=pK f then _ else _)=_;split <;> rfl
 . refine ⟨L++[f],?_,λ g=>by rw [Rz,RE];exact or_comm,List.nodup_append.mpr ⟨nd,by simp,λ x hx y hy=>by rw [RE.mp hy];intro z;subst z;exact h hx⟩⟩;have ha:¬ ((uZ L).any λ kv=>decide (kv.1=pK f))=true:=λ z=>by
    obtain ⟨x,hx,e⟩:=R7.mp z;obtain ⟨g,hg,rfl⟩:=Sc.mp hx;exact h (J5 (Sh e)▸hg)
   rw [bo,RJ ha,uZ,uZ,RW];rfl
theorem wW:∀ (n:Nat) (l:List Nat),l.Nodup->(∀ x∈l,x<n)->l.length<=n
 | 0,l,_,h=>by
  cases l with
  | nil=>simp
  | cons x l=>exact absurd (h x (by simp)) (Ut _)
 | n+1,l,nd,h=>by
  by_cases m:n∈l
  . have e:=wW n (l.erase n) (nd.erase n) λ x hx=>by
     have h1:=h x (List.mem_of_mem_erase hx);have h2:x≠n:=λ z=>by subst z;exact (nd.not_mem_erase) hx
     omega
    rw [List.length_erase_of_mem m] at e;omega
  . have e:=wW n l nd λ x hx=>by
     have h1:=h x hx;have h2:x≠n:=λ z=>by subst z;exact m hx
     omega
    omega
noncomputable def uU (p:Int×Int):Prop:=0<=p.1/\p.1<90/\0<=p.2/\p.2<90
theorem yS {L:List (Int×Int)} (nd:L.Nodup) (h:∀ p∈L,uU p):L.length<=8100:=by
 have:=wW 8100 (L.map λ p=>(p.1*90+p.2).toNat) (by
  rw [List.Nodup,UK];refine (List.Pairwise.and_mem.mp nd).imp λ {p q} ⟨hp,hq,ne⟩ e=>ne ?_;have h1:=h p hp;have h2:=h q hq;unfold uU at h1 h2;obtain ⟨a,b⟩:=p;obtain ⟨c,d⟩:=q;simp only at *;have:a=c:=by omega
  have:b=d:=by omega
  subst_vars;rfl) λ x hx=>by
   obtain ⟨p,hp,rfl⟩:=Sc.mp hx;have h1:=h p hp;unfold uU at h1;omega
 simpa using this
noncomputable abbrev dW (a0 a1:W) (own:List W) (s3:Sl) (D:Nat) (st:W) (s6 s7:Sl):DS:=[.val a0,.val a1,.own own,s3,.val (.ref D),.val st,s6,s7,.no,.no]
theorem Cp {a0 a1 st:W} {own:List W} {s3 s6:Sl} {D:Nat}:∀ (ps L:List (Int×Int)) (S:aq) (s7:Sl),S[D]?=some (.dT (uZ L))->L.Nodup->(∀ p∈L,uU p)->(∀ p∈ps,uU p)->
 ∃ L' S' s7',aS (af 7) oK (ps.map jb) (dW a0 a1 own s3 D st s6 s7) S=some (.nx (dW a0 a1 own s3 D st s6 s7'),S')/\S'[D]?=some (.dT (uZ L'))/\(∀ g,g∈L'↔g∈ps∨g∈L)/\L'.Nodup
 | [],L,S,s7,h,nd,_,_=>⟨L,S,s7,rfl,h,by simp,nd⟩
 | p::ps,L,S,s7,h,nd,hb,hp=>by
  obtain ⟨L1,e1,m1,n1⟩:=Gh p L nd;have hl:=yS nd hb;have pa:mS (.ref D) (jb p) (.bool true) S=some (S.set D (.dT (uZ L1))):=by
   show mS (.ref D) (.tuple [.int p.1,.int p.2]) _ S=_;rw [xw (ks:=pK p) rfl h (by simp [uZ];omega),e1]
  have st1:oK (dW a0 a1 own s3 D st s6 (.val (jb p))) S=some (.nx (dW a0 a1 own s3 D st s6 (.val (jb p))),S.set D (.dT (uZ L1))):=by
   first | rfl | simp! [oK,bW,uS,uD,pa]
  obtain ⟨L',S',s7',e2,g2,m2,n2⟩:=Cp (a0:=a0) (a1:=a1) (st:=st) (own:=own) (s3:=s3) (s6:=s6) ps L1 _ (.val (jb p)) (set_eq' h) n1 (λ q hq=>((m1 q).mp hq).elim (λ z=>z▸hp p (by simp)) (hb q)) (λ q hq=>hp q (by simp [hq]));refine ⟨L',S',s7',(aH rfl st1).trans e2,g2,λ g=>?_,n2⟩;rw [m2,m1,Rx];exact ⟨λ z=>z.elim (λ z=>.inl (.inr z)) λ z=>z.elim (λ z=>.inl (.inl z)) .inr,λ z=>z.elim (λ z=>z.elim (λ z=>.inr (.inl z)) .inl) λ z=>.inr (.inr z)⟩
noncomputable def o9:List Tc->Int->List De->List (Int×Int)
 | A,_,[]=>uP A
 | A,ln,d::ds=>if lg d then uP (A++jP ln d)++o9 [] (ln+1) ds else o9 (A++jP ln d) (ln+1) ds
theorem qL {ln:Int}:∀ {A:List Tc},(∀ t∈A,0<=t.2.1/\t.2.1<90)->∀ p∈uP A,uU p
 | [],_,p,h=>by cases h
 | x::A,hA,p,h=>by
  rcases Rz.mp h with h | h
  . obtain ⟨u,hu,e⟩:=Tn.mp h;unfold E8 at e;split at e
    . cases e;have h1:=hA x (by simp);have h2:=hA u hu;unfold uU mn mx;simp only;refine ⟨?_,?_,?_,?_⟩ <;> split <;> omega
    . cases e
  . exact qL (ln:=ln) (λ t ht=>hA t (by simp [ht])) p h
theorem L5 (d:De):(decide (kw d=Str.ofString "join")||decide (kw d=Str.ofString "meet"))=lg d:=by
 cases d <;> rfl
theorem ua {a0 a1:W} {own:List W} {s3:Sl} {D:Nat}:∀ (ds:List De) (A:List Tc) (ln:Int) (L:List (Int×Int)) (S:aq) (s6 s7:Sl),(∀ d∈ds,qP d/\NR d)->S[D]?=some (.dT (uZ L))->L.Nodup->(∀ p∈L,uU p)->(∀ t∈A,0<=t.2.1/\t.2.1<90)->0<=ln->ln+ds.length<90->A.length+32*ds.length<=2000->
 ∃ L' S' st' s6' s7',aS (af 6) uC (aK ln ds++[.tuple [.str "meet", .int 0]]) (dW a0 a1 own s3 D (.list (A.map fE)) s6 s7) S=some (.nx (dW a0 a1 own s3 D st' s6' s7'),S')/\S'[D]?=some (.dT (uZ L'))/\(∀ g,g∈L'↔g∈o9 A ln ds∨g∈L)/\L'.Nodup/\∀ p∈L',uU p
 | [],A,ln,L,S,s6,s7,_,h,nd,hb,hA,_,_,hl=>by
  have z0:=sz 0 (by decide);have tr:=nW 0 .meet ⟨by simp [bv],by simp [bv,cz]⟩ (by simp [NR,bv]);have ga:=gG (a:=A.map fE) (b:=[]) (sz _ (by simp at hl ⊢;omega));rw [Sa] at ga;obtain ⟨L',S',s7',e,g,m,n⟩:=Cp (a0:=a0) (a1:=a1) (st:=.list (A.map fE)) (own:=own) (s3:=s3) (s6:=.val (bR 0 .meet)) (uP A) L S s7 h nd hb (qL (ln:=ln) hA);have pr:=r9 (ts:=A) (by simp at hl;omega);refine ⟨L',S',.list [],.val (bR 0 .meet),s7',?_,g,m,n,λ p hp=>((m p).mp hp).elim (qL (ln:=ln) hA p) (hb p)⟩;refine (aH (δ2:=dW a0 a1 own s3 D (.list (A.map fE)) (.val (bR 0 .meet)) s7) rfl ?_).trans rfl;refine (ai (δ':=dW a0 a1 own s3 D (.list (A.map fE)) (.val (bR 0 .meet)) s7) (S':=S) (aR (aP (d:=.list (A.map fE)) ?_ rfl))).trans ?_
  . simp only [jP,gF,bv,putF,List.flatMap_nil,UX,Sa] at tr;first | rfl | simp! [dW,uD,tr,ga]
  refine (ju (S1:=S) (d9 (Px (a:=false) (tF (x0 rfl) df.2.2.2.2.2.2.2.1) (tT (x0 rfl))))).trans ?_;refine (ai ((bD (S1:=S) (ds:=(uP A).map jb) (by first | rfl | simp! [dW,uS,uD,pr])).trans e)).trans ?_;exact aR (by simp! [uD,Rt z0] <;> rfl)
 | d::ds,A,ln,L,S,s6,s7,ho,h,nd,hb,hA,l0,l9,hl=>by
  have z0:=sz 0 (by decide);simp only [RM] at l9 hl;obtain ⟨o,om⟩:=ho d (by simp);have tr:=nW ln d o om;have tl:(jP ln d).length<=32:=by
   have h1:(gF d).length<=31:=Sb (qb _) o.c;have h2:(putF d).length<=1:=by cases d <;> simp [putF]
   simp only [jP,RN,R8];omega
  have hB:∀ t∈A++jP ln d,0<=t.2.1/\t.2.1<90:=λ t ht=>by
   rcases Rz.mp ht with ht | ht
   . exact hA t ht
   . have:t.2.1=ln:=by
      rcases Rz.mp ht with ht | ht <;> obtain ⟨f,_,rfl⟩:=Sc.mp ht <;> rfl
     omega
  have ga:=gG (a:=A.map fE) (b:=(jP ln d).map fE) (sz _ (by simp;omega));rw [<-RW] at ga;have st:aJ (aD (ao bI (ar 5) (aV eA #[ae 6])) (af 5)) (dW a0 a1 own s3 D (.list (A.map fE)) (.val (bR ln d)) s7) S=some (.nx (dW a0 a1 own s3 D (.list ((A++jP ln d).map fE)) (.val (bR ln d)) s7),S):=aR (aP (d:=.list ((A++jP ln d).map fE)) (by first | rfl | simp! [dW,uD,tr,ga]) rfl);have cd:ab (qV (au bw 6[0]! !"join") (au bw 6[0]! !"meet")) (dW a0 a1 own s3 D (.list ((A++jP ln d).map fE)) (.val (bR ln d)) s7) S=some (.ok (lg d),S):=by
   refine d9 ?_;rw [<-L5];exact Px (by first | rfl | simp! [dW,bR,uD,kQ]) (by first | rfl | simp! [dW,bR,uD,kQ])
  show ∃ L' S' st' s6' s7',aS (af 6) uC (bR ln d::(aK (ln+1) ds++[.tuple [.str "meet", .int 0]])) _ S=_/\_;have lp:o9 A ln (d::ds)=if lg d then uP (A++jP ln d)++o9 [] (ln+1) ds else o9 (A++jP ln d) (ln+1) ds:=rfl
  cases hd:lg d with
  | false=>
   rw [hd] at cd lp;obtain ⟨L',S',st',s6',s7',e,g,m,n,b⟩:=ua (a0:=a0) (a1:=a1) (own:=own) (s3:=s3) ds (A++jP ln d) (ln+1) L S (.val (bR ln d)) s7 (λ x hx=>ho x (by simp [hx])) h nd hb hB (by omega) (by omega) (by simp;omega);refine ⟨L',S',st',s6',s7',(aH (δ2:=dW a0 a1 own s3 D (.list (A.map fE)) (.val (bR ln d)) s7) rfl ((ai st).trans ((iN cd).trans rfl))).trans e,g,by rw [lp];exact m,n,b⟩
  | true=>
   rw [hd] at cd lp;obtain ⟨L1,S1,t7,e1,g1,m1,n1⟩:=Cp (a0:=a0) (a1:=a1) (st:=.list ((A++jP ln d).map fE)) (own:=own) (s3:=s3) (s6:=.val (bR ln d)) (uP (A++jP ln d)) L S s7 h nd hb (qL (ln:=ln) hB);have pr:=r9 (ts:=A++jP ln d) (by simp;omega);obtain ⟨L',S',st',s6',s7',e,g,m,n,b⟩:=ua (a0:=a0) (a1:=a1) (own:=own) (s3:=s3) ds [] (ln+1) L1 S1 (.val (bR ln d)) t7 (λ x hx=>ho x (by simp [hx])) g1 n1 (λ p hp=>((m1 p).mp hp).elim (qL (ln:=ln) hB p) (hb p)) (by simp) (by omega) (by omega) (by simp;omega);refine ⟨L',S',st',s6',s7',(aH (δ2:=dW a0 a1 own s3 D (.list (A.map fE)) (.val (bR ln d)) s7) rfl ((ai st).trans ((ju cd).trans ?_))).trans e,g,λ x=>?_,n,b⟩
   . refine (ai ((bD (S1:=S) (ds:=(uP (A++jP ln d)).map jb) (by first | rfl | simp! [dW,uS,uD,pr])).trans e1)).trans ?_;exact aR (by simp! [uD,Rt z0] <;> rfl)
   . rw [m,m1,lp,Rt rfl,Rz];exact ⟨λ z=>z.elim (λ z=>.inl (.inr z)) λ z=>z.elim (λ z=>.inl (.inl z)) .inr,λ z=>z.elim (λ z=>z.elim (λ z=>.inr (.inl z)) .inl) λ z=>.inr (.inr z)⟩
noncomputable def AK (s t:Tc):Bool:=(s.1||t.1)&&mm s.2.2 t.2.2
theorem Bk (s t:Tc):AK s t=AK t s:=by unfold AK;rw [tP,Bool.or_comm]
theorem uH {s t:Tc} (h:s.2.1<=t.2.1) (p:Int×Int):E8 s t=some p↔AK s t=true/\p=(s.2.1,t.2.1):=by
 have e1:mn s.2.1 t.2.1=s.2.1:=RJ (by omega);have e2:mx s.2.1 t.2.1=t.2.1:=by unfold mx;split <;> omega
 unfold E8;rw [e1,e2];show (if AK s t=true then _ else _)=_↔_;by_cases c:AK s t=true
 . rw [Rt c];exact ⟨λ z=>⟨c,by cases z;rfl⟩,λ z=>by rw [z.2]⟩
 . rw [RJ c];exact ⟨λ z=>(by cases z),λ z=>absurd z.1 c⟩
noncomputable abbrev Nc (s t:Tc):Prop:=s.2.1<=t.2.1
theorem yz (p:Int×Int):∀ {A:List Tc},A.Pairwise Nc->(p∈uP A↔∃ s∈A,∃ t∈A,s.2.1<=t.2.1/\AK s t=true/\p=(s.2.1,t.2.1))
 | [],_=>⟨λ h=>(by cases h),λ ⟨s,hs,_⟩=>(by cases hs)⟩
 | x::A,.cons h1 h2=>by
  have ih:=yz p h2;show p∈(x::A).filterMap (E8 x)++uP A↔_;rw [Rz,Tn,ih];have le:∀ u∈x::A,x.2.1<=u.2.1:=λ u hu=>by
   rcases Rx.mp hu with rfl | hu
   . exact Sk _
   . exact h1 u hu
  constructor
  . rintro (⟨u,hu,e⟩ | ⟨s,hs,t,ht,r⟩)
    . obtain ⟨c,e⟩:=(uH (le u hu) p).mp e;exact ⟨x,by simp,u,hu,le u hu,c,e⟩
    . exact ⟨s,by simp [hs],t,by simp [ht],r⟩
  . rintro ⟨s,hs,t,ht,r1,r2,r3⟩;rcases Rx.mp hs with es | hs'
    . subst es;exact .inl ⟨t,ht,(uH r1 p).mpr ⟨r2,r3⟩⟩
    . rcases Rx.mp ht with et | ht'
      . subst et;have e:=Int.le_antisymm r1 (le s hs);refine .inl ⟨s,hs,(uH (le s hs) p).mpr ⟨by rw [Bk];exact r2,?_⟩⟩;rw [r3,e]
      . exact .inr ⟨s,hs',t,ht',r1,r2,r3⟩
noncomputable abbrev Tp:=Tc×Nat
noncomputable def KN:Nat->Int->List De->List Tp
 | _,_,[]=>[]
 | p,ln,d::ds=>((jP ln d).map λ t=>(t,p))++KN (if lg d then p+1 else p) (ln+1) ds
noncomputable def JT (X:List Tp) (q:Int×Int):Prop:=∃ s∈X,∃ t∈X,s.2=t.2/\s.1.2.1<=t.1.2.1/\AK s.1 t.1=true/\q=(s.1.2.1,t.1.2.1)
theorem wQ:∀ (ds:List De) (p:Nat) (ln:Int),∀ s∈KN p ln ds,p<=s.2
 | [],_,_,s,h=>by cases h
 | d::ds,p,ln,s,h=>by
  rcases Rz.mp h with h | h
  . obtain ⟨t,_,rfl⟩:=Sc.mp h;exact Ry _
  . have:=wQ ds _ _ s h;split at this <;> omega
theorem uy {ln:Int} {d:De} {t:Tc} (h:t∈jP ln d):t.2.1=ln:=by
 rcases Rz.mp h with h | h <;> obtain ⟨f,_,rfl⟩:=Sc.mp h <;> rfl
theorem Ko {A:List Tc} {ln:Int} {d:De} (h:A.Pairwise Nc) (ha:∀ s∈A,s.2.1<ln):(A++jP ln d).Pairwise Nc:=by
 refine Sg.mpr ⟨h,Tj.mpr λ i j hi hj _=>?_,λ s hs t ht=>?_⟩
 . show (jP ln d)[i].2.1<=(jP ln d)[j].2.1;rw [uy (Uk hi),uy (Uk hj)];exact Sk _
 . show s.2.1<=t.2.1;rw [uy ht];exact T9 (ha s hs)
theorem DM {p:Nat} {A:List Tc} (h:A.Pairwise Nc) (q:Int×Int):q∈uP A↔JT (A.map λ t=>(t,p)) q:=by
 rw [yz q h];constructor
 . rintro ⟨s,hs,t,ht,r⟩;exact ⟨(s,p),Sc.mpr ⟨s,hs,rfl⟩,(t,p),Sc.mpr ⟨t,ht,rfl⟩,rfl,r⟩
 . rintro ⟨s,hs,t,ht,_,r⟩;obtain ⟨s',hs',rfl⟩:=Sc.mp hs;obtain ⟨t',ht',rfl⟩:=Sc.mp ht;exact ⟨s',hs',t',ht',r⟩
theorem ui (q:Int×Int):∀ (ds:List De) (A:List Tc) (ln:Int) (p:Nat),A.Pairwise Nc->(∀ s∈A,s.2.1<ln)->(q∈o9 A ln ds↔JT ((A.map λ t=>(t,p))++KN p ln ds) q)
 | [],A,ln,p,h,_=>by
  show q∈uP A↔JT (_++[]) q;rw [Sa];exact DM h q
 | d::ds,A,ln,p,h,ha=>by
  have lt:∀ s∈A++jP ln d,s.2.1<ln+1:=λ s hs=>by
   rcases Rz.mp hs with hs | hs
   . have:=ha s hs;omega
   . rw [uy hs];omega
  have pw:=Ko (d:=d) h ha;have lp:o9 A ln (d::ds)=if lg d then uP (A++jP ln d)++o9 [] (ln+1) ds else o9 (A++jP ln d) (ln+1) ds:=rfl
  have tp:(A.map λ t=>(t,p))++KN p ln (d::ds)=((A++jP ln d).map λ t=>(t,p))++KN (if lg d then p+1 else p) (ln+1) ds:=by
   rw [RW,RX];rfl
  rw [lp,tp];cases hd:lg d with
  | false=>exact ui q ds _ _ p pw lt
  | true=>
   show q∈uP (A++jP ln d)++o9 [] (ln+1) ds↔_;rw [Rz,DM (p:=p) pw,ui q ds [] (ln+1) (p+1) .nil (by simp)];show _∨JT ([]++_) q↔JT (_++KN (p+1) (ln+1) ds) q;rw [Th];constructor
   . rintro (⟨s,hs,t,ht,r⟩ | ⟨s,hs,t,ht,r⟩)
     . exact ⟨s,Rz.mpr (.inl hs),t,Rz.mpr (.inl ht),r⟩
     . exact ⟨s,Rz.mpr (.inr hs),t,Rz.mpr (.inr ht),r⟩
   . rintro ⟨s,hs,t,ht,e,r⟩;rcases Rz.mp hs with hs | hs <;> rcases Rz.mp ht with ht | ht
     . exact .inl ⟨s,hs,t,ht,e,r⟩
     . obtain ⟨s',_,rfl⟩:=Sc.mp hs;have:=wQ ds _ _ t ht;simp only at e;omega
     . obtain ⟨t',_,rfl⟩:=Sc.mp ht;have:=wQ ds _ _ s hs;simp only at e;omega
     . exact .inr ⟨s,hs,t,ht,e,r⟩
noncomputable def Lw (x:Li) (s:Tp):Prop:=s.2=x.2.2.2/\s.1.2.1=x.1/\((s.1.1=false/\s.1.2.2∈x.2.1)∨(s.1.1=true/\s.1.2.2∈x.2.2.1))
theorem lD:∀ {ds:List De} {Ls:List (List Fm)} {p:Nat} {ln:Int},Paired GL ds Ls->∀ s:Tp,s∈KN p ln ds↔∃ x∈qM p ln ds Ls,Lw x s
 | _,_,p,ln,.nil,s=>⟨λ h=>(by cases h),λ ⟨x,hx,_⟩=>(by cases hx)⟩
 | d::ds,L::Ls,p,ln,.cons r t,s=>by
  have ih:=lD (p:=if lg d then p+1 else p) (ln:=ln+1) t s;show s∈((jP ln d).map λ t=>(t,p))++_↔∃ x∈(ln,L,putF d,p)::qM _ _ ds Ls,_;rw [Rz,ih];have hd:s∈(jP ln d).map (λ t=>(t,p))↔Lw (ln,L,putF d,p) s:=by
   obtain ⟨⟨b,l,f⟩,q⟩:=s;unfold Lw jP;simp only [Sc,Rz,Prod.mk.injEq];constructor
   . rintro ⟨t,h | h,rfl,rfl⟩
     . obtain ⟨g,hg,e⟩:=h;cases e;exact ⟨rfl,rfl,.inl ⟨rfl,(r.1 _).mpr hg⟩⟩
     . obtain ⟨g,hg,e⟩:=h;cases e;exact ⟨rfl,rfl,.inr ⟨rfl,hg⟩⟩
   . rintro ⟨rfl,rfl,⟨rfl,h⟩ | ⟨rfl,h⟩⟩
     . exact ⟨_,.inl ⟨f,(r.1 f).mp h,rfl⟩,rfl,rfl⟩
     . exact ⟨_,.inr ⟨f,h,rfl⟩,rfl,rfl⟩
  rw [hd];constructor
  . rintro (h | ⟨x,hx,h⟩)
    . exact ⟨_,RV,h⟩
    . exact ⟨x,R6 _ hx,h⟩
  . rintro ⟨x,hx,h⟩;rcases Rx.mp hx with rfl | hx
    . exact .inl h
    . exact .inr ⟨x,hx,h⟩
theorem yr (x y:Li) (e:x.2.2.2=y.2.2.2):mQ x y=true↔∃ s t:Tp,Lw x s/\Lw y t/\AK s.1 t.1=true:=by
 unfold mQ;rw [TK,R7,R7];constructor
 . rintro (⟨f,hf,h⟩ | ⟨f,hf,h⟩)
   . obtain ⟨g,hg,h⟩:=R7.mp h;rcases Rz.mp hg with hg | hg
     . exact ⟨((true,x.1,f),x.2.2.2),((false,y.1,g),y.2.2.2),⟨rfl,rfl,.inr ⟨rfl,hf⟩⟩,⟨rfl,rfl,.inl ⟨rfl,hg⟩⟩,by simpa [AK] using h⟩
     . exact ⟨((true,x.1,f),x.2.2.2),((true,y.1,g),y.2.2.2),⟨rfl,rfl,.inr ⟨rfl,hf⟩⟩,⟨rfl,rfl,.inr ⟨rfl,hg⟩⟩,by simpa [AK] using h⟩
   . obtain ⟨g,hg,h⟩:=R7.mp h;exact ⟨((false,x.1,g),x.2.2.2),((true,y.1,f),y.2.2.2),⟨rfl,rfl,.inl ⟨rfl,hg⟩⟩,⟨rfl,rfl,.inr ⟨rfl,hf⟩⟩,by rw [tP] at h;simpa [AK] using h⟩
 . rintro ⟨⟨⟨b,l,f⟩,q⟩,⟨⟨b',l',g⟩,q'⟩,⟨_,_,hs⟩,⟨_,_,ht⟩,c⟩;simp only [AK,RY,TK] at c hs ht;rcases hs with ⟨rfl,hs⟩ | ⟨rfl,hs⟩
   . rcases ht with ⟨rfl,ht⟩ | ⟨rfl,ht⟩
     . simp at c
     . exact .inr ⟨g,ht,R7.mpr ⟨f,hs,by rw [tP];exact c.2⟩⟩
   . refine .inl ⟨f,hs,R7.mpr ⟨g,?_,c.2⟩⟩;rcases ht with ⟨_,ht⟩ | ⟨_,ht⟩
     . exact Rz.mpr (.inl ht)
     . exact Rz.mpr (.inr ht)
theorem F9 {x y:Li} (h:mQ x y=true):o6 x=true/\o6 y=true:=by
 unfold mQ at h;rw [TK,R7,R7] at h;have ne:∀ {l:List Fm} {f:Fm},f∈l->l.isEmpty=false:=λ {l f} h=>by cases l with
  | nil=>cases h
  | cons _ _=>rfl
 unfold o6;rcases h with ⟨f,hf,h⟩ | ⟨f,hf,h⟩
 . obtain ⟨g,hg,h⟩:=R7.mp h;rw [ne hf];refine ⟨by simp,?_⟩;rcases Rz.mp hg with hg | hg
   . rw [ne hg];simp
   . rw [ne hg];simp
 . obtain ⟨g,hg,h⟩:=R7.mp h;rw [ne hf,ne hg];simp
theorem xi (q:Int×Int):∀ {l:List Li},l.Pairwise (λ x y=>x.1<y.1)->(q∈PL l↔∃ x∈l,∃ y∈l,x.1<=y.1/\wy x y=some q)
 | [],_=>⟨λ h=>(by cases h),λ ⟨s,hs,_⟩=>(by cases hs)⟩
 | x::l,.cons h1 h2=>by
  have ih:=xi q h2;show q∈(x::l).filterMap (wy x)++PL l↔_;rw [Rz,Tn,ih];constructor
  . rintro (⟨u,hu,e⟩ | ⟨s,hs,t,ht,r⟩)
    . refine ⟨x,by simp,u,hu,?_,e⟩;rcases Rx.mp hu with rfl | hu
      . exact Sk _
      . exact T9 (h1 u hu)
    . exact ⟨s,by simp [hs],t,by simp [ht],r⟩
  . rintro ⟨s,hs,t,ht,r1,r2⟩;rcases Rx.mp hs with es | hs'
    . subst es;exact .inl ⟨t,ht,r2⟩
    . rcases Rx.mp ht with et | ht'
      . subst et;have:=h1 s hs';omega
      . exact .inr ⟨s,hs',t,ht',r1,r2⟩
theorem B1 {ds:List De} {Ls:List (List Fm)} (h:Paired GL ds Ls) (q:Int×Int):q∈o9 [] 2 ds↔q∈PL ((qM 0 2 ds Ls).filter o6):=by
 rw [ui q ds [] 2 0 .nil (by simp),xi q ((oE ds Ls 0 2).filter _)];show JT ([]++_) q↔_;rw [Th];constructor
 . rintro ⟨s,hs,t,ht,e,r1,r2,r3⟩;obtain ⟨x,hx,ox⟩:=(lD h s).mp hs;obtain ⟨y,hy,oy⟩:=(lD h t).mp ht;have ph:x.2.2.2=y.2.2.2:=ox.1.symm.trans (e.trans oy.1);have tc:mQ x y=true:=(yr x y ph).mpr ⟨s,t,ox,oy,r2⟩;obtain ⟨hx',hy'⟩:=F9 tc;refine ⟨x,TF.mpr ⟨hx,hx'⟩,y,TF.mpr ⟨hy,hy'⟩,by rw [<-ox.2.1,<-oy.2.1];exact r1,?_⟩;unfold wy;rw [tc,RK ph,US,Rt rfl,r3,ox.2.1,oy.2.1]
 . rintro ⟨x,hx,y,hy,le,e⟩;have hx:=(TF.mp hx).1;have hy:=(TF.mp hy).1;unfold wy at e;split at e
   . rename_i c;cases e;obtain ⟨c1,c2⟩:=Ta.mp c;have ph:=Sh c2;obtain ⟨s,t,ox,oy,cd⟩:=(yr x y ph).mp c1;exact ⟨s,(lD h s).mpr ⟨x,hx,ox⟩,t,(lD h t).mpr ⟨y,hy,oy⟩,by rw [ox.1,oy.1,ph],by rw [ox.2.1,oy.2.1];exact le,cd,by rw [ox.2.1,oy.2.1]⟩
   . cases e
noncomputable abbrev PP (p q:Int×Int):Prop:=p.1<q.1∨(p.1=q.1/\p.2<q.2)
theorem uk {x u:Li} {p:Int×Int} (h:wy x u=some p):p=(x.1,u.1):=by
 unfold wy at h;split at h
 . cases h;rfl
 . cases h
theorem Bo:∀ {l:List Li},l.Pairwise (λ x y=>x.1<y.1)->(PL l).Pairwise PP
 | [],_=>.nil
 | x::l,.cons h1 h2=>by
  refine Sg.mpr ⟨?_,Bo h2,λ p hp q hq=>?_⟩
  . have pw:(x::l).Pairwise (λ x y=>x.1<y.1):=.cons h1 h2;rw [List.pairwise_filterMap];refine pw.imp λ {u v} huv p hp q hq=>?_;rw [uk hp,uk hq];exact .inr ⟨rfl,huv⟩
  . obtain ⟨u,hu,e⟩:=Tn.mp hp;obtain ⟨y,hy,z,hz,_,e2⟩:=(xi q h2).mp hq;rw [uk e,uk e2];exact .inl (h1 y hy)
noncomputable def BM (p:Int×Int):Int:=p.1*CC+p.2
theorem Mu {p:Int×Int} (h:uU p):pW (BM p)=jb p:=by
 unfold uU at h;obtain ⟨a,b⟩:=p;simp only at h;have e1:(a*CC+b) / CC=a:=by rw [UY,Int.add_mul_ediv_right _ _ (by decide),Int.ediv_eq_zero_of_lt h.2.2.1 (by simp only [CC];omega),Int.zero_add]
 have e2:(a*CC+b)%CC=b:=by rw [UY,Int.add_mul_emod_self_right,Int.emod_eq_of_lt h.2.2.1 (by simp only [CC];omega)]
 show W.tuple [.int ((a*CC+b) / CC),.int ((a*CC+b)%CC)]=_;rw [e1,e2];rfl
theorem BL:∀ {L:List (Int×Int)},(∀ p∈L,uU p)->cC (uZ L)=some (L.map BM)
 | [],_=>rfl
 | p::L,h=>by
  have hp:=h p (by simp);unfold uU at hp;show (cK (pK p)).bind _=_;have:cK (pK p)=some (BM p):=Rt ⟨hp.2.2.1,by simp only [CC];omega⟩;rw [this];show (cC (uZ L)).map _=_;rw [BL λ q hq=>h q (by simp [hq])];rfl
theorem JY {p q:Int×Int} (hp:uU p) (hq:uU q) (h:PP p q):BM p<BM q:=by
 unfold uU at hp hq;obtain ⟨a,b⟩:=p;obtain ⟨c,d⟩:=q;simp only [BM,CC,PP] at *;omega
theorem yL {α:Type}:∀ {a b:List α},a.Nodup->b.Nodup->(∀ x,x∈a↔x∈b)->a.Perm b
 | [],b,_,_,h=>by
  cases b with
  | nil=>exact .nil
  | cons x b=>exact absurd ((h x).mpr (by simp)) (by simp)
 | x::a,b,na,nb,h=>by
  obtain ⟨s,t,rfl⟩:=List.append_of_mem ((h x).mp (by simp));obtain ⟨n1,n2⟩:=Tg.mp na;have nb':(x::(s++t)).Nodup:=(List.perm_middle.nodup_iff).mp nb;obtain ⟨m1,m2⟩:=Tg.mp nb';refine (List.Perm.cons x (yL n2 m2 λ y=>?_)).trans List.perm_middle.symm;have hy:=h y;simp only [Rx,Rz] at hy ⊢;by_cases e:y=x
  . subst e;exact ⟨λ z=>absurd z n1,λ z=>absurd (Rz.mpr z) m1⟩
  . constructor
    . intro z;rcases hy.mp (.inr z) with z | z | z
      . exact .inl z
      . exact absurd z e
      . exact .inr z
    . intro z;rcases hy.mpr (z.elim .inl λ z=>.inr (.inr z)) with z | z
      . exact absurd z e
      . exact z
theorem FO {L:List (Int×Int)} {l:List Li} (nd:L.Nodup) (hb:∀ p∈L,uU p) (asc:l.Pairwise (λ x y=>x.1<y.1)) (h:∀ q,q∈L↔q∈PL l):(zV (L.map BM)).map pW=(PL l).map jb:=by
 have pa:=Bo asc;have pb:∀ p∈PL l,uU p:=λ p hp=>hb p ((h p).mpr hp);have pn:(PL l).Nodup:=pa.imp λ {a b} z e=>by
  subst e;rcases z with z | z
  . exact absurd z (Int.lt_irrefl _)
  . exact absurd z.2 (Int.lt_irrefl _)
 have pm:L.Perm (PL l):=yL nd pn h;have ps:((PL l).map BM).Pairwise (·<=·):=UK.mpr ((List.Pairwise.and_mem.mp pa).imp λ {a b} ⟨ha,hb',z⟩=>T9 (JY (pb a ha) (pb b hb') z));have e:zV (L.map BM)=(PL l).map BM:=l6 ((gS _).trans (pm.map _)) (oS _) ps;rw [e,T8];exact TZ λ p hp=>Mu (pb p hp)
theorem eC {f:DS->Option W} {g:DS->Option (List W)} {δ:DS} {a:W} {l:List W} (h1:f δ=some a) (h2:g δ=some l):aa f g δ=some (a::l):=by simp only [aa,h1,h2,RG,Sw]
theorem L9 {g:DS->Option (List W)} {δ:DS} {l:List W} (h:g δ=some l) (hl:l.length<=9000):aB g δ=some (.tuple l):=by
 have z:=sz _ hl;simp only [aB,h,RG,Rt z]
theorem AW {f:DS->Option W} {δ:DS} {a:W} (h:f δ=some a):aB #[f] δ=some (.tuple [a]):=L9 (eC h rfl) (by simp)
theorem wz {f g:DS->Option W} {δ:DS} {a b:W} (h:f δ=some a) (h':g δ=some b):aB #[f,g] δ=some (.tuple [a,b]):=L9 (eC h (eC h' rfl)) (by simp)
theorem rP {f g k:DS->Option W} {δ:DS} {a b c:W} (h:f δ=some a) (h':g δ=some b) (h2:k δ=some c):aB #[f,g,k] δ=some (.tuple [a,b,c]):=L9 (eC h (eC h' (eC h2 rfl))) (by simp)
theorem Q2 {f g k m:DS->Option W} {δ:DS} {a b c d:W} (h:f δ=some a) (h':g δ=some b) (h2:k δ=some c) (h3:m δ=some d):aB #[f,g,k,m] δ=some (.tuple [a,b,c,d]):=L9 (eC h (eC h' (eC h2 (eC h3 rfl)))) (by simp)
theorem Lj {f g:DS->Option W} {δ:DS} {l:List W} {i:Int} {x:W} (h1:f δ=some (.list l)) (h2:g δ=some (.int i)) (h3:jS l i=some x):ao aO f g δ=some x:=by simp only [ao,h1,h2,RG,Ht,h3]
theorem E4 {f:List W->Option W} {fa:DS->Option (List W)} {δ:DS} {ds:List W} {d:W} (h1:fa δ=some ds) (h2:f ds=some d):aV f fa δ=some d:=by simp only [aV,h1,RG,h2]
theorem QS {c:W->W->Option Bool} {f g:DS->Option W} {δ:DS} {a b:W} {r:Bool} (h1:f δ=some a) (h2:g δ=some b) (h3:c a b=some r):au c f g δ=some r:=by simp only [au,h1,h2,RG,h3]
theorem dO {c:W->W->Option W} {f g:DS->Option W} {δ:DS} {a b r:W} (h1:f δ=some a) (h2:g δ=some b) (h3:c a b=some r):ao c f g δ=some r:=by simp only [ao,h1,h2,RG,h3]
theorem QO {i:Nat} {f:DS->Option W} {δ:DS} {ds:List W} {d:W} (h1:nI i δ=some ds) (h2:f δ=some d) (h3:ds.length<9000):bF i f δ=some (.nx (δ.set i (.own (ds++[d])))):=by
 have z:=RD h3 (sz 9000 (Ry _));simp only [bF,h1,h2,RG,Rt z]
theorem tD {f:DS->Option W} {δ:DS} {a b:Str} (h1:f δ=some (.str a)):au bw f (dC (.str b)) δ=some (decide (a=b)):=by first | rfl | simp! [uD,h1]
theorem HY {h:W->DS->Option DS} {f:DS->Option eI} {d:W} {ds:List W} {δ δ2 δ':DS} {o:Option eI} (h1:h d δ=some δ2) (h2:f δ2=some (.nx δ')) (h3:aE h f ds δ'=o):aE h f (d::ds) δ=o:=by
 rw [<-h3];show (h d δ).bind _=_;rw [h1];show (match f δ2 with | some (.nx δ')=>_ | some (.ct δ')=>_ | some (.bk δ')=>_ | some (.rt d)=>_ | none=>_)=_;rw [h2]
noncomputable def gd (t:Tr) (d c:Nat):Prop:=iS t<=d/\dU t<=c/\xk t
theorem Bp:∀ (acc:List Str),Av (acc.map .str)=some (acc.map V.str)
 | []=>rfl
 | x::acc=>by
  show ((some (V.str x)).bind λ v=>(Av (acc.map .str)).map (v::·))=_;rw [Bp acc];rfl
theorem Eo (x:Str):∀ (acc:List Str),Jo (.str x) (acc.map V.str)=decide (x∈acc)
 | []=>rfl
 | y::acc=>by
  have ih:=Eo x acc;unfold Jo at ih ⊢;rw [RU,Uo,ih];have:Fq (V.str y) (V.str x)=decide (y=x):=by
   show (y==x)=_;by_cases h:y=x <;> simp [h]
  rw [this];by_cases h:y=x
  . subst h;simp
  . have h':¬ x=y:=λ z=>h z.symm;simp [h,h']
theorem Pj {f g:DS->Option Bool} {δ:DS} (h1:f δ=some false) (h2:g δ=some false):qV f g δ=some false:=by simp only [qV,h1,h2,RG];rfl
theorem On {f g:DS->Option Bool} {δ:DS} (h1:f δ=some true):qV f g δ=some true:=by simp only [qV,h1,RG];rfl
theorem O4 {f g:DS->Option Bool} {δ:DS} (h1:f δ=some false) (h2:g δ=some true):qV f g δ=some true:=by simp only [qV,h1,h2,RG];rfl
theorem Nr:AF (.int 10) (.int 30)=some (.int 1000000000000000000000000000000):=by
 show (if lM 10 30=true then some (W.int ((10:Int)^(30:Int).toNat)) else none)=_;rw [Rt (by decide +kernel)];rfl
theorem EM {i j:Int} (h1:0<=i) (h2:i<2^190) (h3:0<=j) (h4:j<2^190):pP i j=true:=by
 have e:(2:Nat)^190<2^200:=UT (by decide) (by decide);simp only [pP,RY,TK,R5];exact .inr ⟨TL (by omega) e,TL (by omega) e⟩
theorem qC (c:Int) (k:Nat) (hk:k<9000):∃ m:Int,cA [.int c,.int (k:Int)]=some (.int m)/\0<=m:=by
 have hm:=ff c (j:=1000000000000000000000000000057) (by decide);generalize hx:c.fmod 1000000000000000000000000000057=x at hm;have g1:ot (.int x) (.int 271828182845904523536028747135)=some (.int (x*271828182845904523536028747135)):=u5 (EM hm.1 (Int.lt_trans hm.2 (by decide)) (by decide) (by decide));have g2:ot (.int (k:Int)) (.int (k:Int))=some (.int ((k:Int)*k)):=u5 (uF (by omega) (by omega));have kk:(k:Int)*k<=9000*9000:=Int.mul_le_mul (by omega) (by omega) (by omega) (by omega);have k0:0<=(k:Int)*k:=Int.mul_nonneg (by omega) (by omega);have g3:ot (.int ((k:Int)*k)) (.int 314159265358979323846264338327)=some (.int ((k:Int)*k*314159265358979323846264338327)):=u5 (uF (by omega) (by omega));have ga:(1000000000000000000000000000000:Int)+57=1000000000000000000000000000057:=by decide
 refine ⟨(x*271828182845904523536028747135+(k:Int)*k*314159265358979323846264338327+577215664901532860606512090082).fmod 1000000000000000000000000000057,?_,(ff _ (by decide)).1⟩;have md:∀ i:Int,bq (.int i) (.int 1000000000000000000000000000057)=some (.int (i.fmod 1000000000000000000000000000057)):=λ i=>uQ (by simp only [mZ];decide);have mx:=md c;rw [hx] at mx;first | rfl | simp! [cA,uD,Nr,ga,md,mx,hx,g1,g2,g3]
theorem Bi (ns:List Int) (k:Nat):∃ c:Int,cj [.list (ns.map .int),.int (k:Int)]=some (.int c):=by
 by_cases h:(k:Int)<ns.length
 . have e1:decide ((k:Int)<((ns.map W.int).length:Nat))=true:=by simpa using h
   refine ⟨ns[k]?.getD 0,?_⟩;have vJ:=k9 ns (k:Int) (by omega) h;first | rfl | (simp! [cj,uD,e1,vJ];rfl)
 . have e1:decide ((k:Int)<((ns.map W.int).length:Nat))=false:=by simpa using h
   refine ⟨0,?_⟩;first | rfl | simp! [cj,uD,e1]
noncomputable def iI:Str:=Str.ofString "abcdefghijklmnopqrstuvwxyz"
theorem Gy:iI.cps.toList.length=26:=by decide +kernel
theorem GC:i4 iI:=by unfold i4;decide +kernel
theorem Bg (i:Int) (h0:0<=i) (h1:i<26):∃ c:Nat,aO (.str iI) (.int i)=some (.str ⟨List.toArray [c]⟩)/\i4 ⟨List.toArray [c]⟩:=by
 have hz:iI.length<=sizeLine:=sz _ (by decide +kernel);obtain ⟨k,rfl⟩:∃ k:Nat,i=k:=⟨i.toNat,by omega⟩
 have hk:k<iI.cps.toList.length:=by rw [Gy];omega
 refine ⟨iI.cps.toList[k],?_,?_⟩
 . show (if iI.length<=sizeLine then (jS iI.cps.toList (k:Int)).map λ c=>W.str ⟨List.toArray [c]⟩ else none)=_;rw [Rt hz,HK _ k hk,RQ hk];rfl
 . exact i4.one GC (i:=(k:Int)) (by rw [HK _ k hk,RQ hk])
noncomputable def KP:List Str:=[Str.ofString "def", Str.ofString "set", Str.ofString "put", Str.ofString "tell", Str.ofString "if", Str.ofString "else", Str.ofString "while", Str.ofString "end", Str.ofString "break", Str.ofString "again", Str.ofString "call", Str.ofString "return", Str.ofString "stop", Str.ofString "join", Str.ofString "meet", Str.ofString "lane", Str.ofString "lanes", Str.ofString "mine", Str.ofString "box", Str.ofString "div", Str.ofString "rem", Str.ofString "sum", Str.ofString "most", Str.ofString "least", Str.ofString "ahead"]
theorem Mg (x:Str) (acc:List Str):fY (.str x) (.list (acc.map .str))=some (decide (x∈acc)):=by
 have e1:v6 (.list (acc.map .str))=some (acc.map .str):=rfl;have e2:N1 (.str x)=some (.str x):=rfl;simp only [fY,e1,e2,RG,Bp,Sw,Eo]
theorem uc (c:Nat):(⟨List.toArray [c]⟩:Str).length=1:=rfl
theorem Qo (s0 s2 s3 s4 s8 s9 s10:Sl):∀ (n:Nat) (lo aY:Int) (b:Str) (s7:Sl),i4 b->b.length+n<=100->∃ (rest':Int) (b':Str) (s7':Sl),aE (af 7) fQ (iL lo n) [s0,.val (.str iI),s2,s3,s4,.val (.int aY),.val (.str b),s7,s8,s9,s10]=some (.nx [s0,.val (.str iI),s2,s3,s4,.val (.int rest'),.val (.str b'),s7',s8,s9,s10])/\i4 b'/\b'.length=b.length+n
 | 0,lo,aY,b,s7,hb,_=>⟨aY,b,s7,rfl,hb,rfl⟩
 | n+1,lo,aY,b,s7,hb,hn=>by
  have h1:=ff aY (j:=26) (by decide);obtain ⟨c,ec,hc⟩:=Bg _ h1.1 h1.2;have ga:bI (.str b) (.str ⟨List.toArray [c]⟩)=some (.str (b++⟨List.toArray [c]⟩)):=xZ (sz _ (by rw [uc];omega));have ln:(b++⟨List.toArray [c]⟩:Str).length=b.length+1:=by rw [sZ,uc]
  obtain ⟨r',b',s7',e,a,l⟩:=Qo s0 s2 s3 s4 s8 s9 s10 n (lo+1) (aY.fdiv 26) (b++⟨List.toArray [c]⟩) (.val (.int lo)) (hb.app hc) (by omega);refine ⟨r',b',s7',?_,a,by omega⟩;rw [m7];refine HY rfl ?_ e;first | rfl | simp +decide only [fQ,uD,Nat.reduceAdd,Nat.reduceSub,reduceIte,Nat.reduceEqDiff,List.replicate,ec,ga]
theorem wK (z:Str) (lo hi:Option Int):(Txt.slice z lo hi).length<=z.length:=Txt.slice_le z _ _
theorem Oz {f:DS->Option W} {p q:DS->Option (Option Int)} {δ:DS} {b:Str} {lo hi:Option Int} (h:f δ=some (.str b)) (h1:p δ=some lo) (h2:q δ=some hi) (hz:b.length<=1000):tY f p q δ=some (.str (Txt.slice b lo hi)):=by simp only [tY,JD,h,h1,h2,RG,Rt hz]
section
variable {s0:Sl} {L P aY:Int} {b:Str}
noncomputable def uW (s0:Sl) (L P aY:Int) (b:Str) (s7 s8 s9 s10:Sl):DS:=[s0,.val (.str iI),.val (.list (KP.map .str)),.val (.int L),.val (.int P),.val (.int aY),.val (.str b),s7,s8,s9,s10]
theorem Bu (hb:i4 b) (hl:b.length<=100) (k:Int) (h0:0<=k) (h1:k<=6) (acc:List W) (ha:acc.length<100) (s9 s10:Sl):∃ (w:Str) (t9:Sl),i4 w/\fJ (uW s0 L P aY b (.val (.int k)) (.own acc) s9 s10)=some (.nx (uW s0 L P aY b (.val (.int k)) (.own (acc++[.str w])) t9 (.val (.str w)))):=by
 have hz:b.length<=1000:=by omega
 have h2:=ff (aY+5*k) (j:=26) (by decide);obtain ⟨c,ec,hc⟩:=Bg _ h2.1 h2.2;have gm:ot (.int 5) (.int k)=some (.int (5*k)):=u5 (uF (by decide) (by decide));let a1:=Txt.slice b none (some P);let a2:=Txt.slice b (some (P+1)) (some L);have l1:a1.length<=b.length:=wK _ _ _;have l2:a2.length<=b.length:=wK _ _ _;have g1:bI (.str a1) (.str ⟨List.toArray [c]⟩)=some (.str (a1++⟨List.toArray [c]⟩)):=xZ (sz _ (by rw [uc];omega));have l3:(a1++⟨List.toArray [c]⟩:Str).length=a1.length+1:=by rw [sZ,uc]
 have g2:bI (.str (a1++⟨List.toArray [c]⟩)) (.str a2)=some (.str (a1++⟨List.toArray [c]⟩++a2)):=xZ (sz _ (by omega));have l4:(a1++⟨List.toArray [c]⟩++a2:Str).length=(a1++⟨List.toArray [c]⟩:Str).length+a2.length:=sZ _ _;have k1:i4 (a1++⟨List.toArray [c]⟩++a2:Str):=((hb.slice _ _).app hc).app (hb.slice _ _);let sg:W:=.str ⟨List.toArray [c]⟩;let w1:Str:=a1++⟨List.toArray [c]⟩++a2;have e1:aD (ao aO (ar 1) (ao bq (ao bI (ar 5) (ao ot (!5) (ae 7))) !26)) (af 9) (uW s0 L P aY b (.val (.int k)) (.own acc) s9 s10)=some (.nx (uW s0 L P aY b (.val (.int k)) (.own acc) (.val sg) s10)):=aP (dO rfl (dO (dO rfl (dO rfl rfl gm) rfl) rfl rfl) ec) rfl;have e2:aD (ao bI (ao bI (tY (ae 6) cw (d8 (ae 4))) (ae 9)) (tY (ae 6) (d8 (ao bI (ar 4) !1)) (d8 (ae 3)))) (af 10) (uW s0 L P aY b (.val (.int k)) (.own acc) (.val sg) s10)=some (.nx (uW s0 L P aY b (.val (.int k)) (.own acc) (.val sg) (.val (.str w1)))):=aP (dO (dO (Oz rfl rfl rfl hz) rfl g1) (Oz rfl rfl rfl hz) g2) rfl;have e3:∃ w2:Str,i4 w2/\w2.length<=300/\bg (au bw (ao bq (ao bL (ar 5) !26) !4) !1) (aD (tY (ae 6) cw (d8 (ao gSub' (!8) (ae 7)))) (af 10)) av (uW s0 L P aY b (.val (.int k)) (.own acc) (.val sg) (.val (.str w1)))=some (.nx (uW s0 L P aY b (.val (.int k)) (.own acc) (.val sg) (.val (.str w2)))):=by
  have t:au bw (ao bq (ao bL (ar 5) !26) !4) (!1) (uW s0 L P aY b (.val (.int k)) (.own acc) (.val sg) (.val (.str w1)))=some (decide ((aY.fdiv 26).fmod 4=1)):=rfl;by_cases h:(aY.fdiv 26).fmod 4=1
  . rw [RK h] at t;exact ⟨Txt.slice b none (some (8-k)),hb.slice _ _,Sb (wK _ _ _) (by omega),aj (b:=true) t (aP (Oz rfl rfl rfl hz) rfl)⟩
  . rw [RB h] at t;exact ⟨w1,k1,(by show (a1++⟨List.toArray [c]⟩++a2:Str).length<=300;omega),aj (b:=false) t rfl⟩
 obtain ⟨w2,k2,l5,e3⟩:=e3;have e4:∃ w3:Str,i4 w3/\bg (qV (au fY (ar 10) (ar 2)) (au bw (ar 10) !"main")) (aD (ao vf (!"q") (tH jR (ar 10))) (af 10)) av (uW s0 L P aY b (.val (.int k)) (.own acc) (.val sg) (.val (.str w2)))=some (.nx (uW s0 L P aY b (.val (.int k)) (.own acc) (.val sg) (.val (.str w3)))):=by
  have t:∃ bb,qV (au fY (ar 10) (ar 2)) (au bw (ar 10) !"main") (uW s0 L P aY b (.val (.int k)) (.own acc) (.val sg) (.val (.str w2)))=some bb:=by
   have i1:au fY (ar 10) (ar 2) (uW s0 L P aY b (.val (.int k)) (.own acc) (.val sg) (.val (.str w2)))=some (decide (w2∈KP)):=Mg w2 KP;have i2:au bw (ar 10) (!"main") (uW s0 L P aY b (.val (.int k)) (.own acc) (.val sg) (.val (.str w2)))=some (decide (w2=Str.ofString "main")):=tD rfl;cases h:decide (w2∈KP) with
   | true=>rw [h] at i1;exact ⟨true,On i1⟩
   | false=>
    rw [h] at i1;cases h':decide (w2=Str.ofString "main") with
    | true=>rw [h'] at i2;exact ⟨true,O4 i1 i2⟩
    | false=>rw [h'] at i2;exact ⟨false,Pj i1 i2⟩
  obtain ⟨bb,t⟩:=t;cases bb with
  | false=>exact ⟨w2,k2,aj (b:=false) t rfl⟩
  | true=>
   have q1:i4 (Str.ofString "q"):=by unfold i4;decide +kernel
   have gl:jR (.str w2)=some (.int w2.length):=Rt (sz _ (by omega));have gs:vf (.str "q") (.int (w2.length:Nat))=some (.str (Txt.mul (Str.ofString "q") (w2.length:Nat))):=by
    have ql:(Str.ofString "q").length<=1000:=by decide +kernel
    refine Rt ?_;simp only [RY,R5];exact ⟨⟨by omega,by omega⟩,ql⟩
   exact ⟨Txt.mul (Str.ofString "q") (w2.length:Nat),q1.mul _,aj (b:=true) t (aP (d:=.str (Txt.mul (Str.ofString "q") (w2.length:Nat))) (dO rfl gl gs) rfl)⟩
 obtain ⟨w3,k3,e4⟩:=e4;exact ⟨w3,.val sg,k3,ag e1 (ag e2 (ag e3 (ag e4 (QO rfl rfl (by omega)))))⟩
theorem Ql (hb:i4 b) (hl:b.length<=100):∀ (n:Nat) (lo:Int) (acc:List W) (s7 s9 s10:Sl),0<=lo->lo+n<=6->acc.length+n<100->∃ (N:List Str) (t7 t9 t10:Sl),N.length=n/\(∀ x∈N,i4 x)/\aE (af 7) fJ (iL lo n) (uW s0 L P aY b s7 (.own acc) s9 s10)=some (.nx (uW s0 L P aY b t7 (.own (acc++N.map .str)) t9 t10))
 | 0,lo,acc,s7,s9,s10,_,_,_=>⟨[],s7,s9,s10,rfl,(λ x hx=>absurd hx RT),by simp [iL,aE]⟩
 | n+1,lo,acc,s7,s9,s10,h0,h1,ha=>by
  obtain ⟨w,t9,hw,e⟩:=Bu (s0:=s0) (L:=L) (P:=P) (aY:=aY) hb hl lo h0 (by omega) acc (by omega) s9 s10;obtain ⟨N,u7,u9,u10,l,k,e2⟩:=Ql hb hl n (lo+1) (acc++[.str w]) (.val (.int lo)) t9 (.val (.str w)) (by omega) (by omega) (by simp;omega);refine ⟨w::N,u7,u9,u10,by simp [l],λ x hx=>?_,?_⟩
  . rcases Rx.mp hx with rfl | hx
    . exact hw
    . exact k x hx
  . rw [m7];refine HY (δ2:=uW s0 L P aY b (.val (.int lo)) (.own acc) s9 s10) rfl e (e2.trans ?_);simp
end
theorem wG (m:Int):∃ N:List Str,i8 [.int m]=some (.list (N.map .str))/\N.length=6/\∀ x∈N,i4 x:=by
 have h8:=ff m (j:=8) (by decide);let L:Int:=1+m.fmod 8;let P:Int:=(m.fdiv 8).fmod L;obtain ⟨r1,b1,s7,e1,a1,l1⟩:=Qo (.val (.int m)) (.val (.list (KP.map .str))) (.val (.int L)) (.val (.int P)) .no .no .no 8 0 (m.fdiv 64) (Str.ofString "") .no (by unfold i4;decide +kernel) (by decide +kernel);have l0:(Str.ofString "").length=0:=by decide +kernel
 obtain ⟨N,t7,t9,t10,l2,k2,e2⟩:=Ql (s0:=.val (.int m)) (L:=L) (P:=P) (aY:=r1) a1 (by omega) 6 0 [] s7 .no .no (by decide) (by decide) (by decide);refine ⟨N,?_,l2,k2⟩;show b7 1 11 _ _=_;refine bP rfl ?_;refine ag (δ1:=[.val (.int m),.val (.str iI),.no,.no,.no,.no,.no,.no,.no,.no,.no]) rfl ?_;refine ag (δ1:=[.val (.int m),.val (.str iI),.val (.list ((KP.take 12).map .str)),.no,.no,.no,.no,.no,.no,.no,.no]) rfl ?_;refine ag (δ1:=[.val (.int m),.val (.str iI),.val (.list ((KP.take 23).map .str)),.no,.no,.no,.no,.no,.no,.no,.no]) (aP (d:=.list ((KP.take 23).map .str)) (dO (a:=.list ((KP.take 12).map .str)) (b:=.list (((KP.drop 12).take 11).map .str)) rfl rfl ((gG (sz _ (by decide))).trans rfl)) rfl) ?_;refine ag (δ1:=[.val (.int m),.val (.str iI),.val (.list (KP.map .str)),.no,.no,.no,.no,.no,.no,.no,.no]) (aP (d:=.list (KP.map .str)) (dO (a:=.list ((KP.take 23).map .str)) (b:=.list ((KP.drop 23).map .str)) rfl rfl ((gG (sz _ (by decide))).trans rfl)) rfl) ?_;refine ag (δ1:=[.val (.int m),.val (.str iI),.val (.list (KP.map .str)),.val (.int L),.no,.no,.no,.no,.no,.no,.no]) rfl ?_;refine ag (δ1:=[.val (.int m),.val (.str iI),.val (.list (KP.map .str)),.val (.int L),.val (.int P),.no,.no,.no,.no,.no,.no]) (aP (d:=.int P) ?_ rfl) ?_
 . have hL:bq (.int (m.fdiv 8)) (.int L)=some (.int P):=uQ (by simp only [mZ,R5];omega);exact dO rfl rfl hL
 refine ag (δ1:=[.val (.int m),.val (.str iI),.val (.list (KP.map .str)),.val (.int L),.val (.int P),.val (.int (m.fdiv 64)),.no,.no,.no,.no,.no]) rfl ?_;refine ag (δ1:=[.val (.int m),.val (.str iI),.val (.list (KP.map .str)),.val (.int L),.val (.int P),.val (.int (m.fdiv 64)),.val (.str ""),.no,.no,.no,.no]) rfl ?_;refine ag (cJ (ds:=iL 0 8) (vN (n:=8) rfl (by decide)) e1) ?_;refine ag (δ1:=uW (.val (.int m)) L P r1 b1 s7 (.own []) .no .no) rfl ?_;refine ag (cJ (ds:=iL 0 6) (vN (n:=6) rfl (by decide)) e2) rfl
theorem M3 {α:Type} (g:α->W) (a:List α) {i:Int} (h0:0<=i) (h1:i<a.length):∃ k:Fin a.length,i=(k.val:Int)/\jS (a.map g) i=some (g a[k]):=by
 obtain ⟨k,rfl⟩:=Int.eq_ofNat_of_zero_le h0;have hl:=Int.ofNat_lt.mp h1;refine ⟨⟨k,hl⟩,rfl,?_⟩;rw [HK _ k (by rw [R8];exact hl),Su,RQ hl];rfl
theorem k9 {α:Type} (g:α->W) (a:List α) {i:Int} (h0:0<=i) (h1:i<a.length):∃ x∈a,jS (a.map g) i=some (g x):=by
 obtain ⟨k,_,e⟩:=M3 g a h0 h1;exact ⟨_,Uk k.2,e⟩
theorem hW {α:Type} (g:α->W) (a:List α) (c:Int) (h:0<a.length):∃ x∈a,jS (a.map g) (c.fmod a.length)=some (g x):=
 have h:=ff c (Int.ofNat_lt.mpr h)
 k9 g a h.1 h.2
theorem vA (N:List Str) (hN:N.length=6) (c:Int):∃ x∈N,jS (N.map W.str) (c.fmod 6)=some (.str x):=by
 have h:=hW W.str N c (by rw [hN];decide);rw [hN] at h;exact h
theorem w9 {fa:DS->Option (List W)} {g:DS->Option W} {δ:DS} {l:List W} {i:Int} {x:W} (h1:fa δ=some l) (hl:l.length<=9000) (h2:g δ=some (.int i)) (h3:jS l i=some x):ao aO (be (aZ fa)) g δ=some x:=by
 have z:=sz _ hl;refine Lj (l:=l) ?_ h2 h3;simp only [be,aZ,h1,RG,Rt z,Sw]
section
variable {N:List Str}
theorem gH {t:Tr} {d c:Nat} (h:gd t d c):gd (.box t) (d+1) (c+1):=⟨by have:=h.1;simp only [iS];omega,by have:=h.2.1;simp only [dU];omega,λ x hx=>h.2.2 x (by simpa [vB,kD] using hx)⟩
theorem dY {a b:Tr} {d c d' c':Nat} (k:Fin 7) (h:gd a d c) (h':gd b d' c'):gd (.op k a b) (max d d'+1) (c+c'+1):=⟨by have:=h.1;have:=h'.1;simp only [iS];omega,by have:=h.2.1;have:=h'.2.1;simp only [dU];omega,λ x hx=>by
 rw [qJ] at hx;rcases Rz.mp hx with hx | hx
 . exact h.2.2 x hx
 . exact h'.2.2 x hx⟩
theorem b9 {t:Tr} {d c d' c':Nat} (h:gd t d c) (h1:d<=d') (h2:c<=c'):gd t d' c':=⟨Sb h.1 h1,Sb h.2.1 h2,h.2.2⟩
theorem pz (v:Int):gd (.num v) 0 1:=⟨Ry _,Ry _,λ x hx=>absurd hx RT⟩
theorem iz (k:Fin 3):gd (.sig k) 0 1:=⟨Ry _,Ry _,λ x hx=>absurd hx RT⟩
theorem uN {x:Str} (h:i4 x):gd (.nam x) 0 1:=⟨Ry _,Ry _,λ y hy=>by rw [RE.mp hy];exact h.ok⟩
theorem mw (hN:N.length=6) (hk:∀ x∈N,i4 x) (c:Int):∃ t:Tr,cY [.int c,.list (N.map .str)]=some (tw t)/\gd t 2 5:=by
 have h13:=ff c (j:=13) (by decide);generalize hkd:c.fmod 13=k at h13;let r:=c.fdiv 13;obtain ⟨v,_,ev⟩:=hW W.int [(r.fdiv 3).fmod 5,(r.fdiv 3).fmod 5-2,(r.fdiv 3).fmod 1999999999-999999999] r (TV _);obtain ⟨x,hx,ex⟩:=vA N hN r;let δ (s7 s8:Sl):DS:=[.val (.int c),.val (.list (N.map .str)),.val (.int k),.val (.int r),.val (tw (.num v)),.val (tw (.sig 0)),.val (tw (.nam x)),s7,s8]
 have gl:gd (.sig 0) 0 1:=iz 0;have gv:gd (.num v) 0 1:=pz v;have gx:gd (.nam x) 0 1:=uN (hk x hx);have go:∀ {f:DS->Option eI} {t:Tr},f (δ .no .no)=some (.rt (tw t))->b7 2 9 (ak (aD (ao bq (ar 0) !13) (af 2)) (ak (aD (ao bL (ar 0) !13) (af 3)) (ak (aD (aB #[!"num",ao aO (be (aZ #[ao bq (ao bL (ar 3) !3) !5,ao gSub' (ao bq (ao bL (ar 3) !3) !5) !2,ao gSub' (ao bq (ao bL (ar 3) !3) !1999999999) !999999999])) (ao bq (ar 3) !3)]) (af 4)) (ak (aD (aB #[!"lane"]) (af 5)) (ak (aD (aB #[!"name",ao aO (ar 1) (ao bq (ar 3) !6)]) (af 6)) f))))) [.int c,.list (N.map .str)]=some (tw t):=λ {f t} h=>by
  subst hkd;exact bP rfl (ag (δ1:=[.val (.int c),.val (.list (N.map .str)),.val (.int (c.fmod 13)),.no,.no,.no,.no,.no,.no]) rfl (ag (δ1:=[.val (.int c),.val (.list (N.map .str)),.val (.int (c.fmod 13)),.val (.int r),.no,.no,.no,.no,.no]) rfl (ag (δ1:=[.val (.int c),.val (.list (N.map .str)),.val (.int (c.fmod 13)),.val (.int r),.val (tw (.num v)),.no,.no,.no,.no]) (aP (wz rfl (w9 (l:=[(r.fdiv 3).fmod 5,(r.fdiv 3).fmod 5-2,(r.fdiv 3).fmod 1999999999-999999999].map W.int) rfl (by simp) rfl ev)) rfl) (ag (δ1:=[.val (.int c),.val (.list (N.map .str)),.val (.int (c.fmod 13)),.val (.int r),.val (tw (.num v)),.val (tw (.sig 0)),.no,.no,.no]) (aP (AW rfl) rfl) (ag (δ1:=δ .no .no) (aP (wz rfl (Lj rfl rfl ex)) rfl) h)))))
 have t1:au rj (ar 2) (!2) (δ .no .no)=some (decide (k<2)):=rfl;have t2:au rj (ar 2) (!4) (δ .no .no)=some (decide (k<4)):=rfl;have t3:au rj (ar 2) (!6) (δ .no .no)=some (decide (k<6)):=rfl;have t4:au bw (ar 2) (!6) (δ .no .no)=some (decide (k=6)):=rfl;by_cases h1:k<2
 . rw [RK h1] at t1;exact ⟨.num v,go (bX (aj (b:=true) t1 (aI rfl))),b9 gv (by decide) (by decide)⟩
 rw [RB h1] at t1;by_cases h2:k<4
 . rw [RK h2] at t2;exact ⟨.sig 0,go (ag (aj (b:=false) t1 rfl) (bX (aj (b:=true) t2 (aI rfl)))),b9 gl (by decide) (by decide)⟩
 rw [RB h2] at t2;by_cases h3:k<6
 . rw [RK h3] at t3;obtain ⟨q,hq,eq⟩:=k9 tw [.op 0 (.sig 0) (.num v),.op 0 (.num v) (.sig 0)] (i:=k-4) (by omega) (by show k-4<2;omega);refine ⟨q,go (ag (aj (b:=false) t1 rfl) (ag (aj (b:=false) t2 rfl) (bX (aj (b:=true) t3 (aI (w9 (l:=[.op 0 (.sig 0) (.num v),.op 0 (.num v) (.sig 0)].map tw) (eC (rP rfl rfl rfl) (eC (rP rfl rfl rfl) rfl)) (by simp) rfl eq)))))),?_⟩;simp only [Rx,RT,Te] at hq;rcases hq with rfl | rfl
   . exact b9 (dY 0 gl gv) (by decide) (by decide)
   . exact b9 (dY 0 gv gl) (by decide) (by decide)
 rw [RB h3] at t3;by_cases h4:k=6
 . rw [RK h4] at t4;obtain ⟨w,_,ew⟩:=hW (λ k:Fin 7=>W.str (m6 k)) [1,2,3,4,5,6] (r.fdiv 60) (by decide);exact ⟨.op w (.sig 0) (.num v),go (ag (aj (b:=false) t1 rfl) (ag (aj (b:=false) t2 rfl) (ag (aj (b:=false) t3 rfl) (bX (aj (b:=true) t4 (aI (rP (w9 (l:=[.str "-", .str "*", .str "div", .str "rem", .str "<", .str "="]) rfl (by simp) rfl ew) rfl rfl))))))),b9 (dY w gl gv) (by decide) (by decide)⟩
 rw [RB h4] at t4;obtain ⟨u,hu,eu⟩:=hW tw [.nam x,.sig 2,.sig 1,.num ((r.fdiv 7).fmod 9-4),.box (.sig 0),.op 0 (.sig 0) (.num v)] (r.fdiv 90) (TV _);have gu:gd u 1 3:=by
  simp only [Rx,RT,Te] at hu;rcases hu with rfl | rfl | rfl | rfl | rfl | rfl
  . exact b9 gx (by decide) (by decide)
  . exact b9 (iz 2) (by decide) (by decide)
  . exact b9 (iz 1) (by decide) (by decide)
  . exact b9 (pz _) (by decide) (by decide)
  . exact b9 (gH gl) (by decide) (by decide)
  . exact b9 (dY 0 gl gv) (by decide) (by decide)
 let ε:DS:=δ (.val (tw u)) .no;have su:aD (ao aO (be (aZ #[ae 6,aB #[!"mine"],aB #[!"lanes"],aB #[!"num",ao gSub' (ao bq (ao bL (ar 3) !7) !9) !4],aB #[!"box",ae 5],aB #[!"+",ae 5,ae 4]])) (ao bq (ao bL (ar 3) !90) !6)) (af 7) (δ .no .no)=some (.nx ε):=aP (w9 (l:=[.nam x,.sig 2,.sig 1,.num ((r.fdiv 7).fmod 9-4),.box (.sig 0),.op 0 (.sig 0) (.num v)].map tw) (eC rfl (eC (AW rfl) (eC (AW rfl) (eC (wz rfl rfl) (eC (wz rfl rfl) (eC (rP rfl rfl rfl) rfl)))))) (by simp) rfl eu) rfl;have t5:au bw (ar 2) (!7) ε=some (decide (k=7)):=rfl;have t6:au bw (ar 2) (!8) ε=some (decide (k=8)):=rfl;by_cases h5:k=7
 . rw [RK h5] at t5;obtain ⟨q,hq,eq⟩:=hW tw [.op 0 u (.num v),.op 0 (.num v) u] (r.fdiv 540) (TV _);refine ⟨q,go (ag (aj (b:=false) t1 rfl) (ag (aj (b:=false) t2 rfl) (ag (aj (b:=false) t3 rfl) (ag (aj (b:=false) t4 rfl) (ag su (bX (aj (b:=true) t5 (aI (w9 (l:=[.op 0 u (.num v),.op 0 (.num v) u].map tw) (eC (rP rfl rfl rfl) (eC (rP rfl rfl rfl) rfl)) (by simp) rfl eq))))))))),?_⟩;simp only [Rx,RT,Te] at hq;rcases hq with rfl | rfl
   . exact b9 (dY 0 gu gv) (by decide) (by decide)
   . exact b9 (dY 0 gv gu) (by decide) (by decide)
 rw [RB h5] at t5;by_cases h6:k=8
 . rw [RK h6] at t6;obtain ⟨q,hq,eq⟩:=hW tw [.num v,.sig 0,.op 0 (.sig 0) (.num v),.op 0 (.nam x) (.num v),.op 2 (.sig 0) (.num v)] (r.fdiv 90) (TV _);refine ⟨.box q,go (ag (aj (b:=false) t1 rfl) (ag (aj (b:=false) t2 rfl) (ag (aj (b:=false) t3 rfl) (ag (aj (b:=false) t4 rfl) (ag su (ag (aj (b:=false) t5 rfl) (bX (aj (b:=true) t6 (aI (wz rfl (w9 (l:=[.num v,.sig 0,.op 0 (.sig 0) (.num v),.op 0 (.nam x) (.num v),.op 2 (.sig 0) (.num v)].map tw) (eC rfl (eC rfl (eC (rP rfl rfl rfl) (eC (rP rfl rfl rfl) (eC (rP rfl rfl rfl) rfl))))) (by simp) rfl eq))))))))))),?_⟩;have gq:gd q 1 3:=by
    simp only [Rx,RT,Te] at hq;rcases hq with rfl | rfl | rfl | rfl | rfl
    . exact b9 gv (by decide) (by decide)
    . exact b9 gl (by decide) (by decide)
    . exact b9 (dY 0 gl gv) (by decide) (by decide)
    . exact b9 (dY 0 gx gv) (by decide) (by decide)
    . exact b9 (dY 2 gl gv) (by decide) (by decide)
   exact b9 (gH gq) (by decide) (by decide)
 rw [RB h6] at t6;obtain ⟨o,ho,eo⟩:=hW tw [.num v,.sig 0,.nam x,.sig 2] (r.fdiv 15) (TV _);have gO:gd o 0 1:=by
  simp only [Rx,RT,Te] at ho;rcases ho with rfl | rfl | rfl | rfl
  . exact gv
  . exact gl
  . exact gx
  . exact iz 2
 obtain ⟨q,hq,eq⟩:=k9 tw [.nam x,.op 0 (.sig 0) o,.box (.sig 0),.op 0 o (.sig 0)] (i:=k-9) (by omega) (by show k-9<4;omega);refine ⟨q,go (ag (aj (b:=false) t1 rfl) (ag (aj (b:=false) t2 rfl) (ag (aj (b:=false) t3 rfl) (ag (aj (b:=false) t4 rfl) (ag su (ag (aj (b:=false) t5 rfl) (ag (aj (b:=false) t6 rfl) (ag (δ1:=δ (.val (tw u)) (.val (tw o))) (aP (w9 (l:=[.num v,.sig 0,.nam x,.sig 2].map tw) (eC rfl (eC rfl (eC rfl (eC (AW rfl) rfl)))) (by simp) rfl eo) rfl) (aI (w9 (l:=[.nam x,.op 0 (.sig 0) o,.box (.sig 0),.op 0 o (.sig 0)].map tw) (eC rfl (eC (rP rfl rfl rfl) (eC (wz rfl rfl) (eC (rP rfl rfl rfl) rfl)))) (by simp) rfl eq)))))))))),?_⟩;simp only [Rx,RT,Te] at hq;rcases hq with rfl | rfl | rfl | rfl
 . exact b9 gx (by decide) (by decide)
 . exact b9 (dY 0 gl gO) (by decide) (by decide)
 . exact b9 (gH gl) (by decide) (by decide)
 . exact b9 (dY 0 gO gl) (by decide) (by decide)
end
theorem MW (n i:Nat):Fw (.int (n:Int)) (.int (i:Int))=some (.int ((n / 2^i:Nat):Int)):=by
 show (if decide (0<=(i:Int))=true then some (W.int ((n:Int) / 2^(i:Int).toNat)) else none)=_;rw [Rt (by simp),TN];congr 2
theorem OB (m:Nat):wq (.int (m:Int)) (.int 1)=some (.int ((m%2:Nat):Int)):=by
 have h:=CB m 1;rw [Nat.and_one_is_mod] at h;exact RO (λ z=>some (W.int z)) h
section
variable {N:List Str}
noncomputable abbrev dQ (c:Int) (N:List Str) (k r:Int) (s4 s5 s6 s7 s8:Sl):DS:=[.val (.int c),.val (.list (N.map .str)),.val (.int k),.val (.int r),s4,s5,s6,s7,s8]
theorem yY {c k r:Int} {w:Fin 7} {u:Tr} {s6:Sl} {x:Nat} (hr:r.fdiv 630=(x:Int)) (gu:gd u 0 1):∀ (n lo:Nat) (t:Tr) (d e:Nat) (s8:Sl),gd t d e->∃ (t':Tr) (s8':Sl),aE (af 8) iU (iL (lo:Int) n) (dQ c N k r (.val (.str (m6 w))) (.val (tw u)) s6 (.val (tw t)) s8)=some (.nx (dQ c N k r (.val (.str (m6 w))) (.val (tw u)) s6 (.val (tw t')) s8'))/\gd t' (d+n) (e+2*n)
 | 0,lo,t,d,e,s8,g=>⟨t,s8,rfl,g⟩
 | n+1,lo,t,d,e,s8,g=>by
  obtain ⟨q,hq,eq⟩:=k9 tw [.op w u t,.op w t u] (i:=((x / 2^lo%2:Nat):Int)) (by omega) (by show _<(2:Int);omega);have gq:gd q (d+1) (e+2):=by
   simp only [Rx,RT,Te] at hq;rcases hq with rfl | rfl
   . exact b9 (dY w gu g) (by omega) (by omega)
   . exact b9 (dY w g gu) (by omega) (by omega)
  obtain ⟨t',s8',e1,g1⟩:=yY (c:=c) (k:=k) (s6:=s6) hr gu n (lo+1) q (d+1) (e+2) (.val (.int lo)) gq;refine ⟨t',s8',?_,b9 g1 (by omega) (by omega)⟩;rw [m7];refine (gJ (δ2:=dQ c N k r (.val (.str (m6 w))) (.val (tw u)) s6 (.val (tw t)) (.val (.int lo))) rfl (aP (w9 (l:=[.op w u t,.op w t u].map tw) (i:=((x / 2^lo%2:Nat):Int)) (eC (rP rfl rfl rfl) (eC (rP rfl rfl rfl) rfl)) (by simp) ?_ eq) rfl)).trans e1;refine dO (dO (dO rfl rfl rfl) rfl (?_:Fw (.int (r.fdiv 630)) (.int (lo:Int))=_)) rfl (OB _);rw [hr];exact MW x lo
theorem iq (hN:N.length=6) (hk:∀ x∈N,i4 x) (c:Int) (hc:0<=c):∃ t:Tr,c8 [.int c,.list (N.map .str)]=some (tw t)/\gd t 6 12:=by
 have h10:=ff c (j:=10) (by decide);let k:=c.fmod 10;let r:=c.fdiv 10;have r0:0<=r:=Uu hc (by decide);let δ (s4 s5 s6 s7:Sl):DS:=dQ c N k r s4 s5 s6 s7 .no;have go:∀ {f:DS->Option eI} {t:Tr},f (δ .no .no .no .no)=some (.rt (tw t))->b7 2 9 (ak (aD (ao bq (ar 0) !10) (af 2)) (ak (aD (ao bL (ar 0) !10) (af 3)) f)) [.int c,.list (N.map .str)]=some (tw t):=λ {f t} h=>
  bP rfl (ag (δ1:=[.val (.int c),.val (.list (N.map .str)),.val (.int (c.fmod 10)),.no,.no,.no,.no,.no,.no]) rfl (ag (δ1:=δ .no .no .no .no) rfl h))
 have t1:au rj (ar 2) (!2) (δ .no .no .no .no)=some (decide (k<2)):=rfl;have t2:au rj (ar 2) (!4) (δ .no .no .no .no)=some (decide (k<4)):=rfl;have t3:au rj (ar 2) (!6) (δ .no .no .no .no)=some (decide (k<6)):=rfl;by_cases h1:k<2
 . rw [RK h1] at t1;exact ⟨.num (r.fmod 1999999999-999999999),go (bX (aj (b:=true) t1 (aI (wz rfl rfl)))),b9 (pz _) (by decide) (by decide)⟩
 rw [RB h1] at t1;by_cases h2:k<4
 . rw [RK h2] at t2;obtain ⟨x,hx,ex⟩:=vA N hN (r.fdiv 4);obtain ⟨u,hu,eu⟩:=hW tw [.sig 0,.sig 2,.sig 1,.nam x] r (TV _);refine ⟨u,go (ag (aj (b:=false) t1 rfl) (bX (aj (b:=true) t2 (aI (w9 (l:=[.sig 0,.sig 2,.sig 1,.nam x].map tw) (eC (AW rfl) (eC (AW rfl) (eC (AW rfl) (eC (wz rfl (Lj rfl rfl ex)) rfl)))) (by simp) rfl eu))))),?_⟩;simp only [Rx,RT,Te] at hu;rcases hu with rfl | rfl | rfl | rfl
   . exact b9 (iz 0) (by decide) (by decide)
   . exact b9 (iz 2) (by decide) (by decide)
   . exact b9 (iz 1) (by decide) (by decide)
   . exact b9 (uN (hk x hx)) (by decide) (by decide)
 rw [RB h2] at t2;by_cases h3:k<6
 . rw [RK h3] at t3;obtain ⟨a,ea,ga⟩:=mw hN hk r;exact ⟨.box a,go (ag (aj (b:=false) t1 rfl) (ag (aj (b:=false) t2 rfl) (bX (aj (b:=true) t3 (aI (wz rfl (E4 rfl ea))))))),b9 (gH ga) (by decide) (by decide)⟩
 rw [RB h3] at t3;obtain ⟨w,_,ew⟩:=hW (λ k:Fin 7=>W.str (m6 k)) [0,1,2,3,4,5,6] r (by decide);obtain ⟨x,hx,ex⟩:=vA N hN (r.fdiv 14);obtain ⟨u,hu,eu⟩:=hW tw [.num ((r.fdiv 14).fmod 9-4),.nam x] (r.fdiv 7) (TV _);have gu:gd u 0 1:=by
  simp only [Rx,RT,Te] at hu;rcases hu with rfl | rfl
  . exact pz _
  . exact uN (hk x hx)
 obtain ⟨a,ea,ga⟩:=mw hN hk (r.fdiv 126);let η:DS:=δ (.val (.str (m6 w))) (.val (tw u)) (.val (tw (.box a))) .no;have s4:aD (ao aO (be (aZ #[!"+",!"-",!"*",!"div",!"rem",!"<",!"="])) (ao bq (ar 3) !7)) (af 4) (δ .no .no .no .no)=some (.nx (δ (.val (.str (m6 w))) .no .no .no)):=aP (w9 (l:=[0,1,2,3,4,5,6].map λ k:Fin 7=>W.str (m6 k)) rfl (by simp) rfl ew) rfl;have s5:aD (ao aO (be (aZ #[aB #[!"num",ao gSub' (ao bq (ao bL (ar 3) !14) !9) !4],aB #[!"name",ao aO (ar 1) (ao bq (ao bL (ar 3) !14) !6)]])) (ao bq (ao bL (ar 3) !7) !2)) (af 5) (δ (.val (.str (m6 w))) .no .no .no)=some (.nx (δ (.val (.str (m6 w))) (.val (tw u)) .no .no)):=aP (w9 (l:=[.num ((r.fdiv 14).fmod 9-4),.nam x].map tw) (eC (wz rfl rfl) (eC (wz rfl (Lj rfl rfl ex)) rfl)) (by simp) rfl eu) rfl;have s6:aD (aB #[!"box",aV cY #[ao bL (ar 3) !126,ae 1]]) (af 6) (δ (.val (.str (m6 w))) (.val (tw u)) .no .no)=some (.nx η):=aP (wz rfl (E4 rfl ea)) rfl;have t4:au bw (ar 2) (!6) η=some (decide (k=6)):=rfl;have t5:au bw (ar 2) (!7) η=some (decide (k=7)):=rfl;have t6:au bw (ar 2) (!8) η=some (decide (k=8)):=rfl;have t7:au bw (ao bq (ao bL (ar 3) !9) !2) (!0) η=some (decide ((r.fdiv 9).fmod 2=0)):=rfl;by_cases h4:k=6
 . rw [RK h4] at t4;exact ⟨.op w u (.box a),go (ag (aj (b:=false) t1 rfl) (ag (aj (b:=false) t2 rfl) (ag (aj (b:=false) t3 rfl) (ag s4 (ag s5 (ag s6 (bX (aj (b:=true) t4 (aI (rP rfl rfl rfl)))))))))),b9 (dY w gu (gH ga)) (by decide) (by decide)⟩
 rw [RB h4] at t4;by_cases h5:k=7
 . rw [RK h5] at t5;exact ⟨.op w (.box a) u,go (ag (aj (b:=false) t1 rfl) (ag (aj (b:=false) t2 rfl) (ag (aj (b:=false) t3 rfl) (ag s4 (ag s5 (ag s6 (ag (aj (b:=false) t4 rfl) (bX (aj (b:=true) t5 (aI (rP rfl rfl rfl))))))))))),b9 (dY w (gH ga) gu) (by decide) (by decide)⟩
 rw [RB h5] at t5;by_cases h6:k=8
 . rw [RK h6] at t6;exact ⟨.op w (.op w u (.box a)) (.box u),go (ag (aj (b:=false) t1 rfl) (ag (aj (b:=false) t2 rfl) (ag (aj (b:=false) t3 rfl) (ag s4 (ag s5 (ag s6 (ag (aj (b:=false) t4 rfl) (ag (aj (b:=false) t5 rfl) (bX (aj (b:=true) t6 (aI (rP rfl (rP rfl rfl rfl) (wz rfl rfl))))))))))))),b9 (dY w (dY w gu (gH ga)) (gH gu)) (by decide) (by decide)⟩
 rw [RB h6] at t6;by_cases h7:(r.fdiv 9).fmod 2=0
 . rw [RK h7] at t7;obtain ⟨y,_,ey⟩:=hW (λ k:Fin 7=>W.str (m6 k)) [0,1,2] (r.fdiv 3) (by decide);exact ⟨.op w u (.op y (.box a) (.sig 0)),go (ag (aj (b:=false) t1 rfl) (ag (aj (b:=false) t2 rfl) (ag (aj (b:=false) t3 rfl) (ag s4 (ag s5 (ag s6 (ag (aj (b:=false) t4 rfl) (ag (aj (b:=false) t5 rfl) (ag (aj (b:=false) t6 rfl) (bX (aj (b:=true) t7 (aI (rP rfl rfl (rP (w9 (l:=[0,1,2].map λ k:Fin 7=>W.str (m6 k)) rfl (by simp) rfl ey) rfl (AW rfl))))))))))))))),b9 (dY w gu (dY y (gH ga) (iz 0))) (by decide) (by decide)⟩
 rw [RB h7] at t7;obtain ⟨x2,hx2,ex2⟩:=vA N hN (r.fdiv 90);obtain ⟨t0,ht0,et0⟩:=hW tw [.sig 0,.nam x2,.num ((r.fdiv 90).fmod 33)] (r.fdiv 18) (TV _);have g0:gd t0 0 1:=by
  simp only [Rx,RT,Te] at ht0;rcases ht0 with rfl | rfl | rfl
  . exact iz 0
  . exact uN (hk x2 hx2)
  . exact pz _
 obtain ⟨z,hz⟩:∃ z:Nat,r.fdiv 630=(z:Int):=⟨(r.fdiv 630).toNat,by have:=Uu r0 (show (0:Int)<=630 by decide);omega⟩
 have h5':=ff (r.fdiv 126) (j:=5) (by decide);obtain ⟨t',s8',e1,g1⟩:=yY (N:=N) (c:=c) (k:=k) (w:=w) (s6:=.val (tw (.box a))) hz gu (1+(r.fdiv 126).fmod 5).toNat 0 (.box t0) 1 2 .no (gH g0);refine ⟨t',go (ag (aj (b:=false) t1 rfl) (ag (aj (b:=false) t2 rfl) (ag (aj (b:=false) t3 rfl) (ag s4 (ag s5 (ag s6 (ag (aj (b:=false) t4 rfl) (ag (aj (b:=false) t5 rfl) (ag (aj (b:=false) t6 rfl) (ag (aj (b:=false) t7 rfl) (ag (δ1:=δ (.val (.str (m6 w))) (.val (tw u)) (.val (tw (.box a))) (.val (tw (.box t0)))) (aP (wz rfl (w9 (l:=[.sig 0,.nam x2,.num ((r.fdiv 90).fmod 33)].map tw) (eC (AW rfl) (eC (wz rfl (Lj rfl rfl ex2)) (eC (wz rfl rfl) rfl))) (by simp) rfl et0)) rfl) (ag (cJ (ds:=iL 0 (1+(r.fdiv 126).fmod 5).toNat) ?_ e1) (aI rfl))))))))))))),b9 g1 (by omega) (by omega)⟩;have rg:=EW (j:=1+(r.fdiv 126).fmod 5) (by omega) (by omega);refine (RO (λ o=>Option.bind o yi) (eC (l:=[]) (a:=.int (1+(r.fdiv 126).fmod 5)) (dO rfl rfl rfl) rfl)).trans rg
end
theorem HR:AF (.int 10) (.int 12)=some (.int 1000000000000):=by
 show (if lM 10 12=true then some (W.int ((10:Int)^(12:Int).toNat)) else none)=_;rw [Rt (by decide +kernel)];rfl
structure Lf (x:De):Prop where
 d:qP x
 m:NR x
 w:∀ k:Int,mz (bR k x)=true/\gQ (bR k x)<=8
theorem xj {t:Tr} (h:gd t 6 12):Lc t/\xk t/\mz (tw t)=true/\gQ (tw t)<=7:=⟨⟨by have:=h.1;omega,by have:=h.2.1;omega⟩,h.2.2,vt t h.2.2,by have:=qc t;have:=h.1;omega⟩
theorem JI (d:De):PyData.strOk (kw d)=true:=by
 cases d with
 | set x t=>exact (by decide +kernel:PyData.strOk (Str.ofString "set")=true)
 | put a b=>exact (by decide +kernel:PyData.strOk (Str.ofString "put")=true)
 | tell t=>exact (by decide +kernel:PyData.strOk (Str.ofString "tell")=true)
 | join x j t=>exact (by decide +kernel:PyData.strOk (Str.ofString "join")=true)
 | meet=>exact (by decide +kernel:PyData.strOk (Str.ofString "meet")=true)
 | stop=>exact (by decide +kernel:PyData.strOk (Str.ofString "stop")=true)
theorem Gg {a b:Tr} (ha:gd a 2 5) (hb:gd b 6 12):Lf (.put a b):=by
 obtain ⟨a1,a2,a3,a4⟩:=xj (b9 ha (by decide) (by decide));obtain ⟨b1,b2,b3,b4⟩:=xj hb;refine ⟨⟨λ t ht=>?_,?_⟩,λ t ht=>?_,λ k=>⟨?_,?_⟩⟩
 . simp only [bv,Rx,RT,Te] at ht;rcases ht with rfl | rfl <;> assumption
 . have:=ha.2.1;have:=hb.2.1;simp [bv,cz];omega
 . simp only [bv,Rx,RT,Te] at ht;rcases ht with rfl | rfl <;> assumption
 . simp only [bR,mz,fm,rs,JI,a3,b3,US]
 . simp only [bR,gQ,bZ,rs];omega
theorem uz {d:De} {t:Tr} {l:List W} (he:bv d=[t]) (hr:rs d=l++[tw t]) (hl:fm l=true/\bZ l=0) (h:gd t 6 12):Lf d:=by
 obtain ⟨a1,a2,a3,a4⟩:=xj h;refine ⟨⟨λ u hu=>?_,?_⟩,λ u hu=>?_,λ k=>⟨?_,?_⟩⟩
 . rw [he] at hu;rw [RE.mp hu];exact a1
 . have:=h.2.1;rw [he];simp [cz];omega
 . rw [he] at hu;rw [RE.mp hu];exact a2
 . simp only [bR,hr,mz,fm,vg,JI,a3,hl.1,US]
 . simp only [bR,hr,gQ,bZ,r6,hl.2];omega
theorem Fz {d:De} (he:bv d=[]) (hr:rs d=[]):Lf d:=by
 refine ⟨⟨λ u hu=>?_,?_⟩,λ u hu=>?_,λ k=>⟨?_,?_⟩⟩
 . rw [he] at hu;cases hu
 . rw [he];simp [cz]
 . rw [he] at hu;cases hu
 . simp only [bR,hr,mz,fm,JI,US]
 . simp [bR,hr,gQ,bZ]
section
variable {N:List Str}
theorem qQ (hN:N.length=6) (hk:∀ x∈N,i4 x) (ln n:Int) (hn:0<=n):∃ d:De,eQ [.int ln,.int n,.list (N.map .str)]=some (bR ln d)/\Lf d:=by
 have h12:=ff n (j:=12) (by decide);let k:=n.fmod 12;let r:=n.fdiv 72;have r0:0<=r:=Uu hn (by decide);obtain ⟨x,hx,ex⟩:=vA N hN (n.fdiv 12);have xo:=(hk x hx).ok;let δ:DS:=[.val (.int ln),.val (.int n),.val (.list (N.map .str)),.val (.int k),.val (.str x),.val (.int r)]
 have go:∀ {f:DS->Option eI} {w:W},f δ=some (.rt w)->b7 3 6 (ak (aD (ao bq (ar 1) !12) (af 3)) (ak (aD (ao aO (ar 2) (ao bq (ao bL (ar 1) !12) !6)) (af 4)) (ak (aD (ao bL (ar 1) !72) (af 5)) f))) [.int ln,.int n,.list (N.map .str)]=some w:=λ {f w} h=>
  bP rfl (ag (δ1:=[.val (.int ln),.val (.int n),.val (.list (N.map .str)),.val (.int (n.fmod 12)),.no,.no]) rfl (ag (δ1:=[.val (.int ln),.val (.int n),.val (.list (N.map .str)),.val (.int (n.fmod 12)),.val (.str x),.no]) (aP (Lj rfl rfl ex) rfl) (ag (δ1:=δ) rfl h)))
 have t1:au rj (ar 3) (!5) δ=some (decide (k<5)):=rfl;have t2:au rj (ar 3) (!7) δ=some (decide (k<7)):=rfl;have t3:au rj (ar 3) (!9) δ=some (decide (k<9)):=rfl;have t4:au bw (ar 3) (!9) δ=some (decide (k=9)):=rfl;by_cases h1:k<5
 . rw [RK h1] at t1;obtain ⟨a,ea,ga⟩:=mw hN hk (r.fmod 1000000000000);obtain ⟨b,eb,gb⟩:=iq hN hk (r.fdiv 1000000000000) (Uu r0 (by decide));have m12:bq (.int r) (.int 1000000000000)=some (.int (r.fmod 1000000000000)):=uQ (by simp only [mZ];decide);refine ⟨.put a b,go (bX (aj (b:=true) t1 (aI (Q2 rfl rfl (E4 (eC (dO rfl (dO rfl rfl HR) m12) (eC rfl rfl)) ea) (E4 (eC (dO rfl (dO rfl rfl HR) ?_) (eC rfl rfl)) eb))))),Gg ga gb⟩;exact Bz (by simp only [rL];decide)
 rw [RB h1] at t1;by_cases h2:k<7
 . rw [RK h2] at t2;obtain ⟨b,eb,gb⟩:=iq hN hk r r0;exact ⟨.tell b,go (ag (aj (b:=false) t1 rfl) (bX (aj (b:=true) t2 (aI (rP rfl rfl (E4 rfl eb)))))),uz (l:=[]) rfl rfl ⟨rfl,rfl⟩ gb⟩
 rw [RB h2] at t2;by_cases h3:k<9
 . rw [RK h3] at t3;obtain ⟨b,eb,gb⟩:=iq hN hk r r0;exact ⟨.set x b,go (ag (aj (b:=false) t1 rfl) (ag (aj (b:=false) t2 rfl) (bX (aj (b:=true) t3 (aI (Q2 rfl rfl rfl (E4 rfl eb))))))),uz (l:=[.str x]) rfl rfl ⟨by simp [fm,mz,xo],rfl⟩ gb⟩
 rw [RB h3] at t3;by_cases h4:k=9
 . rw [RK h4] at t4;obtain ⟨b,eb,gb⟩:=iq hN hk (r.fdiv 4) (Uu r0 (by decide));obtain ⟨j,hj,ej⟩:=hW W.str [Str.ofString "sum", Str.ofString "most", Str.ofString "least", Str.ofString "ahead"] r (TV _);have jo:PyData.strOk j=true:=by
    simp only [Rx,RT,Te] at hj;rcases hj with rfl | rfl | rfl | rfl
    . exact (by decide +kernel:PyData.strOk (Str.ofString "sum")=true)
    . exact (by decide +kernel:PyData.strOk (Str.ofString "most")=true)
    . exact (by decide +kernel:PyData.strOk (Str.ofString "least")=true)
    . exact (by decide +kernel:PyData.strOk (Str.ofString "ahead")=true)
   refine ⟨.join x j b,go (ag (aj (b:=false) t1 rfl) (ag (aj (b:=false) t2 rfl) (ag (aj (b:=false) t3 rfl) (bX (aj (b:=true) t4 (aI (L9 (eC rfl (eC rfl (eC rfl (eC (w9 (l:=[Str.ofString "sum", Str.ofString "most", Str.ofString "least", Str.ofString "ahead"].map W.str) rfl (by simp) rfl ej) (eC (E4 rfl eb) rfl))))) (by simp [rs])))))))),uz (l:=[.str x,.str j]) rfl rfl ⟨by simp [fm,mz,xo,jo],rfl⟩ gb⟩
 rw [RB h4] at t4;obtain ⟨d,hd,ed⟩:=k9 (λ d:De=>W.str (kw d)) [.meet,.stop] (i:=k-10) (by omega) (by show k-10<2;omega);have hr:rs d=[]/\bv d=[]:=by
  simp only [Rx,RT,Te] at hd;rcases hd with rfl | rfl <;> exact ⟨rfl,rfl⟩
 refine ⟨d,go (ag (aj (b:=false) t1 rfl) (ag (aj (b:=false) t2 rfl) (ag (aj (b:=false) t3 rfl) (ag (aj (b:=false) t4 rfl) (aI ?_))))),Fz hr.2 hr.1⟩;rw [bR,hr.1];exact wz (w9 (l:=[.meet,.stop].map λ d:De=>W.str (kw d)) rfl (by simp) rfl ed) rfl
theorem sD (d:De):∀ (ds:List De) (k:Int),aK k (ds++[d])=aK k ds++[bR (k+ds.length) d]
 | [],k=>by simp [aK]
 | x::ds,k=>by
  show bR k x::aK (k+1) (ds++[d])=bR k x::(aK (k+1) ds++_);rw [sD d ds,RM,show k+1+(ds.length:Int)=k+((ds.length+1:Nat):Int) by omega]
theorem sL (hN:N.length=6) (hk:∀ x∈N,i4 x) {s0 s4 s5 s6 s7 s8 s9:Sl}:∀ (cs:List Int) (ds:List De) (s3:Sl),ds.length+cs.length<=62->
 ∃ (es:List De) (s3':Sl),aE (af 3) uw (cs.map .int) [s0,.val (.list (N.map .str)),.own (aK 2 ds),s3,s4,s5,s6,s7,s8,s9]=some (.nx [s0,.val (.list (N.map .str)),.own (aK 2 (ds++es)),s3',s4,s5,s6,s7,s8,s9])/\es.length=cs.length/\∀ d∈es,Lf d
 | [],ds,s3,_=>⟨[],s3,by simp [aE],rfl,by simp⟩
 | c::cs,ds,s3,hl=>by
  simp only [RM] at hl;obtain ⟨m,em,m0⟩:=qC c (ds.length+1) (by omega);obtain ⟨d,ed,od⟩:=qQ hN hk (2+ds.length) m m0;obtain ⟨es,s3',e2,l2,o2⟩:=sL hN hk (s0:=s0) (s4:=s4) (s5:=s5) (s6:=s6) (s7:=s7) (s8:=s8) (s9:=s9) cs (ds++[d]) (.val (.int c)) (by simp;omega);refine ⟨d::es,s3',?_,by simp [l2],λ y hy=>?_⟩
  . rw [List.append_cons];refine (gJ (δ2:=[s0,.val (.list (N.map .str)),.own (aK 2 ds),.val (.int c),s4,s5,s6,s7,s8,s9]) rfl ?_).trans e2;have bl:=m8 ds 2;have z:(aK 2 ds).length<sizeLine:=RD (by omega:_<9000) (sz 9000 (by decide));have g2:bI (.int ((aK 2 ds).length:Nat)) (.int 2)=some (.int (2+ds.length)):=by
     rw [bl];show some (W.int ((ds.length:Int)+2))=_;rw [UY]
    have g1:bI (.int ((aK 2 ds).length:Nat)) (.int 1)=some (.int ((ds.length+1:Nat):Int)):=by
     rw [bl];rfl
    rw [sD];first | rfl | simp! [uw,bF,aV,ao,uD,g1,g2,em,ed,Rt z]
  . rcases Rx.mp hy with rfl | hy
    . exact od
    . exact o2 y hy
end
theorem vp:∀ (ds:List De) (k:Int),(∀ d∈ds,Lf d)->fm (aK k ds)=true/\bZ (aK k ds)<=8
 | [],_,_=>⟨rfl,by simp [aK,bZ]⟩
 | d::ds,k,h=>by
  obtain ⟨h1,h2⟩:=vp ds (k+1) λ x hx=>h x (by simp [hx]);obtain ⟨h3,h4⟩:=(h d (by simp)).w k;exact ⟨by simp only [aK,fm,h1,h3,US],by simp only [aK,bZ];omega⟩
theorem Bl (ns:List Int) (h:ns.length<=63):∃ S,Dm [.list (ns.map .int)] []=some (.ok (.bool true),S):=by
 have z0:=sz 0 (by decide);have z1:=sz 1 (by decide);have z2:=sz 2 (by decide);have z5:=sz 5 (by decide);obtain ⟨c0,ec⟩:=Bi ns 0;obtain ⟨m,em,_⟩:=qC c0 0 (by omega);obtain ⟨N,eN,hN,hk⟩:=wG m;let a0:W:=.list (ns.map .int);let a1:W:=.list (N.map .str);have csl:((ns.drop 1).take 62).length<=62:=by simp;omega
 obtain ⟨ds,s3,e1,l1,o1⟩:=sL hN hk (s0:=.val a0) (s4:=.no) (s5:=.no) (s6:=.no) (s7:=.no) (s8:=.no) (s9:=.no) ((ns.drop 1).take 62) [] .no (by simpa using csl);rw [Th] at e1;have dl:ds.length<=62:=by omega
 have ho:∀ d∈ds,qP d:=λ d hd=>(o1 d hd).d;obtain ⟨L,S1,st,s6,s7,e2,g2,m2,n2,b2⟩:=ua (a0:=a0) (a1:=a1) (own:=aK 2 ds) (s3:=s3) (D:=0) ds [] 2 [] [.dT []] .no .no (λ d hd=>⟨(o1 d hd).d,(o1 d hd).m⟩) rfl .nil (by simp) (by simp) (by decide) (by omega) (by simp;omega);obtain ⟨Ls,S2,q,e3,k3⟩:=zM ds (((aK 2 ds).length:Nat)+2) ho dl S1;have D2:=k3 _ _ g2;let ps:=PL ((qM 0 2 ds Ls).filter o6);have seq:=FO n2 b2 ((oE ds Ls 0 2).filter o6) (λ x=>by
  rw [m2,<-B1 q x];exact ⟨λ z=>z.elim id λ z=>(by cases z),.inl⟩)
 obtain ⟨w1,w2⟩:=vp ds 2 o1;let hd:W:=.list [mW ds 1 (((aK 2 ds).length:Nat)+2)];have hok:mz hd=true:=by
  show fm [mW ds 1 _]=true;simp only [mW,fm,mz,show (1:Int)+1=2 from rfl,w1,Us,UR];exact (by decide +kernel:PyData.strOk (Str.ofString "main")=true)
 have hdp:gQ hd<=64:=by
  show bZ [mW ds 1 _]+1<=64;simp only [mW,bZ,gQ,show (1:Int)+1=2 from rfl];omega
 have heq:=v5 hok hdp;let δ2 (s4 s5 s6 s7 s8 s9:Sl):DS:=[.val a0,.val a1,.own (aK 2 ds),s3,s4,s5,s6,s7,s8,s9]
 refine ⟨S2,?_⟩;refine (aU rfl).trans ((RO eF (?_:_=some (.rt (.bool true),S2))).trans rfl);refine (ai (δ':=[.val a0,.val a1,.no,.no,.no,.no,.no,.no,.no,.no]) (S':=[]) (aR (aP (d:=a1) ?_ rfl))).trans ?_
 . have ec':cj [a0,.int 0]=some (.int c0):=ec;have em':cA [.int c0,.int 0]=some (.int m):=em;exact E4 (eC (E4 (eC (E4 (eC rfl (eC rfl rfl)) ec') (eC rfl rfl)) em') rfl) eN
 refine (ai (δ':=[.val a0,.val a1,.own (aK 2 []),.no,.no,.no,.no,.no,.no,.no]) (S':=[]) (aR (by simp! [fj,uD,Rt z0] <;> rfl))).trans ?_;refine (ai (δ':=δ2 .no .no .no .no .no .no) (S':=[]) (aR (cJ (ds:=((ns.drop 1).take 62).map .int) ?_ e1))).trans ?_
 . have cn:jQ (ns.map W.int) (some 1) (some 63)=((ns.drop 1).take 62).map W.int:=by
    have:=Il (ns.map W.int) 1 63;rw [List.map_take,List.map_drop];exact this
   first | rfl | simp! [a0,ve,uD,cn]
 refine (ai (δ':=δ2 (.val (.ref 0)) .no .no .no .no .no) (S':=[.dT []]) (bi rfl rfl)).trans ?_;refine (ai (δ':=dW a0 a1 (aK 2 ds) s3 0 (.list []) .no .no) (S':=[.dT []]) (aR (by simp! [uD,Rt z0] <;> rfl))).trans ?_;refine (ai (δ':=dW a0 a1 (aK 2 ds) s3 0 st s6 s7) (S':=S1) ((bD (S1:=[.dT []]) (ds:=aK 2 ds++[.tuple [.str "meet", .int 0]]) ?_).trans e2)).trans ?_
 . have ga:=gG (a:=aK 2 ds) (b:=[.tuple [.str "meet", .int 0]]) (sz _ (by rw [m8];simp;omega));first | rfl | simp! [dW,ao,uS,uD,Rt z1,Rt z2,ga]
 refine (ai (δ':=δ2 (.val (.ref 0)) (.val st) s6 s7 (.val hd) .no) (S':=S1) (aR (aP (d:=hd) ?_ rfl))).trans ?_
 . first | rfl | (simp! [dW,hd,mW,uD,Rt z0,Rt z1,Rt z5];rfl)
 refine (ai (δ':=δ2 (.val (.ref 0)) (.val st) s6 s7 (.val hd) (.val (.list (ps.map jb)))) (S':=S2) (bi (bB (S1:=S1) (ds:=[hd]) (by first | rfl | simp! [δ2,uS,uD]) e3) rfl)).trans ?_;let η:DS:=[.val a0,.val a1,.val (.list (aK 2 ds)),s3,.val (.ref 0),.val st,s6,s7,.val hd,.val (.list (ps.map jb))]
 show iX _ η S2=_;refine jq ?_;have so:mB (ab (ae 4)) η S2=some (.ok (.list (ps.map jb)),S2):=by
  have da:vG (.ref 0) S2=some (0,uZ L):=by simp [vG,eK,D2]
  have ll:(L.map BM).length<=9000:=by have:=yS n2 b2;simp;omega
  have cc:=BL b2;first | rfl | (simp! [η,mB,uS,uD,da,cc,Rt ll,seq];rfl)
 have tl:=DD ps;have c1:gP cE (aT (ab (ae 9)) (aT (mB (ab (ae 4))) fw)) η S2=some (.ok (.bool true),S2):=by
  have cs:aT (ab (ae 9)) (aT (mB (ab (ae 4))) fw) η S2=some (.ok [.list (ps.map jb),.list (ps.map jb)],S2):=ji rfl (ji so rfl);simp only [gP,cs,aw,tl];rfl
 have c2:ab (dB (au bw (ar 8) (be (aZ #[aB #[!"main",be (aZ ah),ae 2,!1,ao bI (tH jR (ar 2)) !2]])))) η S2=some (.ok (.bool true),S2):=by
  refine d9 ?_;have e8:be (aZ #[aB #[!"main",be (aZ ah),ae 2,!1,ao bI (tH jR (ar 2)) !2]]) η=some hd:=by
   first | rfl | (simp! [η,hd,mW,uD,Rt z0,Rt z1,Rt z5];rfl)
  have c3:=QS (c:=bw) (f:=ar 8) (δ:=η) (a:=hd) rfl e8 heq;simp only [dB,c3,Sw]
 simp only [y8,c1,aw];exact c2
theorem NQ {α:Type} {P:List α->Prop} {n:Nat} (h:∀ a us,us.length=n->P (a::us)):∀ us:List α,us.length=n+1->P us:=λ us hl=>by
 cases us with
 | nil=>cases hl
 | cons a us=>exact h a us (Nat.succ.inj hl)
theorem QU {α:Type} {P:List α->Prop} (h:P []):∀ us:List α,us.length=0->P us:=λ us hl=>by
 cases us with
 | nil=>exact h
 | cons a us=>cases hl
theorem qA {α:Type} {P:List α->Prop} (h:∀ a0,P [a0]):∀ us:List α,us.length=1->P us:=NQ λ a us hl=>QU (P:=λ l=>P (a::l)) (h a) us hl
theorem uV {α:Type} {P:List α->Prop} (h:∀ a0 a1,P [a0,a1]):∀ us:List α,us.length=2->P us:=NQ λ a us hl=>qA (P:=λ l=>P (a::l)) (h a) us hl
theorem Lq {α:Type} {P:List α->Prop} (h:∀ a0 a1 a2,P [a0,a1,a2]):∀ us:List α,us.length=3->P us:=NQ λ a us hl=>uV (P:=λ l=>P (a::l)) (h a) us hl
theorem Q8 {α:Type} {P:List α->Prop} (h:∀ a0 a1 a2 a3,P [a0,a1,a2,a3]):∀ us:List α,us.length=4->P us:=NQ λ a us hl=>Lq (P:=λ l=>P (a::l)) (h a) us hl
set_option maxHeartbeats 0 in
theorem all_mk {l:PySem.W.OpenLaw} {w:World} {K:Frag} {h:Heap} {mg:Str->Option Value} {fa:Addr} (X:K.In h) (G:h.Ns mainGlobals mg) (hfa:mg "law" = some (.ref fa)) {c_Sheet:Addr} {AW:Addr} {oT1:Obj} {nT1:Nat} {a_SIGNS:Addr} {o_SIGNS:Obj} {a_WORKINGS:Addr} {o_WORKINGS:Obj}
 (mm_Sheet:PySem.W.nsIn K mainGlobals "Sheet" = some (some (.ref c_Sheet)))
 (a0:An K "bodies_of" nZ .none)
 (a1:An K "placed" qK (.ref AW))
 (lT1:K.lookup AW=some oT1)
 (hT1:oT1.data=.seq (List.toArray [.none]) nT1)
 (a2:An K "expressions_of" gZ .none)
 (a3:An K "given_by" qg .none)
 (a4:An K "leaves_of" nj .none)
 (a5:Am K c_Sheet "__init__" "Sheet.__init__" gX)
 (a6:Am K c_Sheet "lay" "Sheet.lay" nQ)
 (a7:Am K c_Sheet "begin" "Sheet.begin" ko)
 (a8:Am K c_Sheet "add" "Sheet.add" nu)
 (a9:Am K c_Sheet "free" "Sheet.free" l7)
 (a10:An K "settled" rD .none)
 (a11:An K "names_within" j6 .none)
 (a12:An K "slots_of" qd .none)
 (a13:An K "make_expression" gh .none)
 (a14:An K "make_rest" nL .none)
 (a15:An K "make_statement" gW .none)
 (a16:An K "make_body" n6 .none)
 (a17:An K "made" Cu .none)
 (a18:An K "next_rows" nz .none)
 (a19:An K "form_of_sum" jV .none)
 (a20:An K "form_of" sJ .none)
 (a21:An K "may_meet" pj .none)
 (a22:An K "may_touch" nM .none)
 (a23:An K "places_in" nY .none)
 (a24:An K "forms_got" nP .none)
 (a25:An K "line_masks" li .none)
 (a26:An K "mark_reached" jB .none)
 (a27:An K "phase_rows" lV .none)
 (a28:An K "rows_behind_calls" f6 .none)
 (a29:An K "flows_of" pU .none)
 (a30:An K "starts_of_lines" fZ .none)
 (a31:An K "could" yK .none)
 (a32:An K "_law_whole" lh .none)
 (a33:An K "_law_cell_at" jF .none)
 (a34:An K "_law_spread" kn .none)
 (a35:An K "_law_names" lG .none)
 (a36:An K "_law_place" kX .none)
 (a37:An K "_law_form" nR .none)
 (a38:An K "_law_one_box" jr .none)
 (a39:An K "_law_pairs" kY .none)
 (a40:An K "_law_pairs_told" gc .none)
 (a41:An K "_law_simple" kq .none)
 (a42:An K "_law_statement" hZ .none)
 (a43:An K "_law_gets" nG .none)
 (a44:An K "_law_touches" j7 .none)
 (a45:An K "law" wf .none)
 (s_Sheet:Qc K c_Sheet/\NoAttr K c_Sheet "rows" /\ NoAttr K c_Sheet "spots" /\ NoAttr K c_Sheet "name" /\ NoAttr K c_Sheet "slots")
 (zz_bool:PySem.W.nsIn K mainGlobals "bool" = some none)
 (zz_enumerate:PySem.W.nsIn K mainGlobals "enumerate" = some none)
 (zz_int:PySem.W.nsIn K mainGlobals "int" = some none)
 (zz_isinstance:PySem.W.nsIn K mainGlobals "isinstance" = some none)
 (zz_len:PySem.W.nsIn K mainGlobals "len" = some none)
 (zz_list:PySem.W.nsIn K mainGlobals "list" = some none)
 (zz_max:PySem.W.nsIn K mainGlobals "max" = some none)
 (zz_min:PySem.W.nsIn K mainGlobals "min" = some none)
 (zz_range:PySem.W.nsIn K mainGlobals "range" = some none)
 (zz_set:PySem.W.nsIn K mainGlobals "set" = some none)
 (zz_sorted:PySem.W.nsIn K mainGlobals "sorted" = some none)
 (zz_tuple:PySem.W.nsIn K mainGlobals "tuple" = some none)
 (mm_SIGNS:PySem.W.nsIn K mainGlobals "SIGNS" = some (some (.ref a_SIGNS)))
 (lk_SIGNS:K.lookup a_SIGNS=some o_SIGNS)
 (lc_SIGNS:o_SIGNS.cls=.type "tuple")
 (lt_SIGNS:ut o_SIGNS [(Str.ofString "lane"),(Str.ofString "lanes"),(Str.ofString "mine")]=true)
 (mm_WORKINGS:PySem.W.nsIn K mainGlobals "WORKINGS" = some (some (.ref a_WORKINGS)))
 (lk_WORKINGS:K.lookup a_WORKINGS=some o_WORKINGS)
 (lc_WORKINGS:o_WORKINGS.cls=.type "tuple")
 (lt_WORKINGS:ut o_WORKINGS [(Str.ofString "+"),(Str.ofString "-"),(Str.ofString "*"),(Str.ofString "div"),(Str.ofString "rem"),(Str.ofString "<"),(Str.ofString "=")]=true):
 ∃ fd:FuncData,(∀ (s:Shared) (v:Value),BindsTo s fd ⟨[v],[]⟩ [("_law_script", v)])/\∀ base:Heap,K.In base->base.Ns mainGlobals mg->eP l.prog w K mg base H9 15 fa fd ["_law_script"] (tR K):=by
 obtain ⟨cl,rfl⟩:=Rc c_Sheet;obtain ⟨f1,_,_,_,_,_,_,_,_,_,m1,l1,c1,k1⟩:=a1;have D_placed:w6 (KF K mg "placed" ["body", "around"] [.none]) K "placed" "placed" qK:=⟨_,_,lu l1 c1 k1,Uq X G m1,k1,(λ s us Xs hl=>uV (P:=λ us=>BindsTo s _ ⟨us,[]⟩ (List.zip _ (us++_))) (λ _ _=>PySem.W.binds_K Xs rfl lT1 hT1 rfl rfl) us (by simpa using hl)),(λ s us Xs hl=>qA (P:=λ us=>BindsTo s _ ⟨us,[]⟩ (List.zip _ (us++_))) (λ _=>PySem.W.binds_K Xs rfl lT1 hT1 rfl rfl) us (by simpa using hl))⟩
 have q_Sheet:eY K mg cl:=⟨Uq X G mm_Sheet,s_Sheet.1.cls,s_Sheet.2⟩
 have z_bool:=Sj X G zz_bool;have z_enumerate:=Sj X G zz_enumerate;have z_int:=Sj X G zz_int;have z_isinstance:=Sj X G zz_isinstance;have z_len:=Sj X G zz_len;have z_list:=Sj X G zz_list;have z_max:=Sj X G zz_max;have z_min:=Sj X G zz_min;have z_range:=Sj X G zz_range;have z_set:=Sj X G zz_set;have z_sorted:=Sj X G zz_sorted;have z_tuple:=Sj X G zz_tuple;have m_SIGNS:=Uq X G mm_SIGNS;have g_SIGNS:xA K a_SIGNS ([(Str.ofString "lane"),(Str.ofString "lanes"),(Str.ofString "mine")]):=λ _=>rK lk_SIGNS lc_SIGNS lt_SIGNS;have m_WORKINGS:=Uq X G mm_WORKINGS;have g_WORKINGS:xA K a_WORKINGS ([(Str.ofString "+"),(Str.ofString "-"),(Str.ofString "*"),(Str.ofString "div"),(Str.ofString "rem"),(Str.ofString "<"),(Str.ofString "=")]):=λ _=>rK lk_WORKINGS lc_WORKINGS lt_WORKINGS;obtain ⟨_,_,_,kV,dc,pm,an,cd,ct,_,ml,ll,cL,kL⟩:=a45;cases hfa.symm.trans (Uq X G ml);refine ⟨PySem.W.fnOf "law" "law" (cU wf) (cu wf) (aX wf) .none kV dc pm an cd ct,λ s v=>.of_eq rfl,λ base _ _=>?_⟩;have C_bodies_of:=tE (P:=l.prog) (w:=w) (base:=base) (a0.dn X G (λ _ _ _ _ _ _=>qA λ _=>rfl));have C_placed:=zW D_placed C_bodies_of;have C_expressions_of:=lZ (P:=l.prog) (w:=w) (base:=base) (a2.dn X G (λ _ _ _ _ _ _=>qA λ _=>rfl)) z_list;have C_given_by:=vz (P:=l.prog) (w:=w) (base:=base) (a3.dn X G (λ _ _ _ _ _ _=>qA λ _=>rfl));have C_leaves_of:=tK (P:=l.prog) (w:=w) (base:=base) (a4.dn X G (λ _ _ _ _ _ _=>qA λ _=>rfl)) m_WORKINGS g_WORKINGS;have C_Sheet___init__:=lQ (P:=l.prog) (w:=w) (base:=base) (cl:=cl) (a5.mk s_Sheet.1 (λ _ _ _ _ _ _=>qA λ _=>rfl)) q_Sheet;have C_Sheet_lay:=uK (P:=l.prog) (w:=w) (base:=base) (cl:=cl) (a6.dn (λ _ _ _ _ _ _=>uV λ _ _=>rfl)) q_Sheet z_len;have C_Sheet_begin:=qE (cl:=cl) (a7.dn (λ _ _ _ _ _ _=>Lq λ _ _ _=>rfl)) C_Sheet_lay q_Sheet;have C_Sheet_add:=sW (P:=l.prog) (w:=w) (base:=base) (cl:=cl) (a8.dn (λ _ _ _ _ _ _=>uV λ _ _=>rfl)) q_Sheet;have C_Sheet_free:=qW (P:=l.prog) (w:=w) (base:=base) (cl:=cl) (a9.dn (λ _ _ _ _ _ _=>qA λ _=>rfl)) q_Sheet z_len;have C_settled:=wP (P:=l.prog) (w:=w) (base:=base) (cl:=cl) (a10.dn X G (λ _ _ _ _ _ _=>uV λ _ _=>rfl));have C_names_within:=o5 (a11.dn X G (λ _ _ _ _ _ _=>qA λ _=>rfl)) C_placed C_given_by C_expressions_of C_leaves_of;have C_slots_of:=v8 (cl:=cl) (a12.dn X G (λ _ _ _ _ _ _=>uV λ _ _=>rfl)) C_names_within z_len;have C_make_expression:=kN (cl:=cl) (a13.dn X G (λ _ _ _ _ _ _=>Q8 λ _ _ _ _=>rfl)) C_Sheet_add q_Sheet m_SIGNS g_SIGNS;have C_make_rest:=ue (cl:=cl) (a14.dn X G (λ _ _ _ _ _ _=>uV λ _ _=>rfl)) C_Sheet_free C_Sheet_add q_Sheet z_len;have C_make_statement:=kS (cl:=cl) (a15.dn X G (λ _ _ _ _ _ _=>Lq λ _ _ _=>rfl)) C_Sheet_lay C_Sheet_add C_make_expression C_expressions_of C_Sheet_free C_make_rest q_Sheet z_enumerate;have C_make_body:=uE (cl:=cl) (a16.dn X G (λ _ _ _ _ _ _=>Lq λ _ _ _=>rfl)) C_make_statement;have C_made:=FR (cl:=cl) (a17.dn X G (λ _ _ _ _ _ _=>qA λ _=>rfl)) C_Sheet___init__ C_Sheet_begin C_slots_of C_make_body C_Sheet_lay C_Sheet_add C_settled q_Sheet;have C_next_rows:=uB (P:=l.prog) (w:=w) (base:=base) (a18.dn X G (λ _ _ _ _ _ _=>uV λ _ _=>rfl)) z_sorted z_set;have C_form_of_sum:=qa (P:=l.prog) (w:=w) (base:=base) (a19.dn X G (λ _ _ _ _ _ _=>uV λ _ _=>rfl));have C_form_of:=xP (a20.dn X G (λ _ _ _ _ _ _=>qA λ _=>rfl)) C_form_of_sum;have C_may_meet:=uX (P:=l.prog) (w:=w) (base:=base) (a21.dn X G (λ _ _ _ _ _ _=>uV λ _ _=>rfl));have C_may_touch:=tV (a22.dn X G (λ _ _ _ _ _ _=>uV λ _ _=>rfl)) C_may_meet;have C_places_in:=tt (P:=l.prog) (w:=w) (base:=base) (a23.dn X G (λ _ _ _ _ _ _=>qA λ _=>rfl)) m_WORKINGS g_WORKINGS;have C_forms_got:=uL (cl:=cl) (a24.dn X G (λ _ _ _ _ _ _=>qA λ _=>rfl)) C_form_of C_places_in C_expressions_of z_list;have C_line_masks:=ri (P:=l.prog) (w:=w) (base:=base) (cl:=cl) (a25.dn X G (λ _ _ _ _ _ _=>uV λ _ _=>rfl)) z_enumerate;have C_mark_reached:=og (P:=l.prog) (w:=w) (base:=base) (cl:=cl) (a26.dn X G (λ _ _ _ _ _ _=>Q8 λ _ _ _ _=>rfl));have C_phase_rows:=qX (cl:=cl) (a27.dn X G (λ _ _ _ _ _ _=>Lq λ _ _ _=>rfl)) C_next_rows;have C_rows_behind_calls:=jc (P:=l.prog) (w:=w) (base:=base) (cl:=cl) (a28.dn X G (λ _ _ _ _ _ _=>qA λ _=>rfl)) z_enumerate;have C_flows_of:=vx (cl:=cl) (a29.dn X G (λ _ _ _ _ _ _=>qA λ _=>rfl)) C_rows_behind_calls C_phase_rows z_enumerate;have C_starts_of_lines:=kH (cl:=cl) (a30.dn X G (λ _ _ _ _ _ _=>qA λ _=>rfl)) C_flows_of C_mark_reached C_line_masks z_enumerate;have C_could:=B0 (cl:=cl) (a31.dn X G (λ _ _ _ _ _ _=>qA λ _=>rfl)) C_forms_got C_form_of C_placed C_starts_of_lines C_made C_may_touch z_sorted z_enumerate;have C__law_whole:=qY (P:=l.prog) (w:=w) (base:=base) (a32.dn X G (λ _ _ _ _ _ _=>qA λ _=>rfl)) z_isinstance z_bool z_int;have C__law_cell_at:=o0 (P:=l.prog) (w:=w) (base:=base) (a33.dn X G (λ _ _ _ _ _ _=>uV λ _ _=>rfl)) z_len;have C__law_spread:=qj (P:=l.prog) (w:=w) (base:=base) (a34.dn X G (λ _ _ _ _ _ _=>uV λ _ _=>rfl));have C__law_names:=qR (P:=l.prog) (w:=w) (base:=base) (a35.dn X G (λ _ _ _ _ _ _=>qA λ _=>rfl)) z_range z_len;have C__law_place:=rm (P:=l.prog) (w:=w) (base:=base) (a36.dn X G (λ _ _ _ _ _ _=>uV λ _ _=>rfl));have C__law_form:=tI (P:=l.prog) (w:=w) (base:=base) (a37.dn X G (λ _ _ _ _ _ _=>qA λ _=>rfl));have C__law_one_box:=oA (P:=l.prog) (w:=w) (base:=base) (a38.dn X G (λ _ _ _ _ _ _=>uV λ _ _=>rfl));have C__law_pairs:=rq (a39.dn X G (λ _ _ _ _ _ _=>qA λ _=>rfl)) C__law_one_box z_enumerate z_max z_min;have C__law_pairs_told:=k7 (a40.dn X G (λ _ _ _ _ _ _=>uV λ _ _=>rfl)) C__law_whole z_isinstance z_list z_tuple;have C__law_simple:=pi (a41.dn X G (λ _ _ _ _ _ _=>uV λ _ _=>rfl)) C__law_place z_range;have C__law_statement:=lH (a42.dn X G (λ _ _ _ _ _ _=>Lq λ _ _ _=>rfl)) C__law_simple C__law_place;have C__law_gets:=tZ (a43.dn X G (λ _ _ _ _ _ _=>qA λ _=>rfl)) C__law_form;have C__law_touches:=oq (a44.dn X G (λ _ _ _ _ _ _=>qA λ _=>rfl)) C__law_gets C__law_form z_isinstance z_tuple;obtain ⟨_,_,⟨rfl,rfl⟩,F⟩:=Ji (cl:=cl) (R:=λ g gd=>g=fa/\gd=_) Bl ⟨_,_,lu ll cL kL,rfl,rfl⟩ C__law_names C__law_spread C__law_cell_at C__law_statement C__law_touches C__law_pairs C_could C__law_pairs_told z_len z_list z_sorted;exact F
theorem walk {l:PySem.W.OpenLaw} {q:Program} {loose:List Str} {XP:(Str->Option Value)->Heap->Prop} {YP:World->Heap->Prop} {d:DefRec} {K:Params->Frag} (hn:l.most=some 63) (hdf:d.params.defaults=[])
 (hY:∀ (w:World) (h:Heap),YP w h->(K w.params).In h)
 (F:∀ (w:World) (mg:Str->Option Value) (fa:Addr) (h:Heap),(K w.params).In h->h.Ns mainGlobals mg->mg d.name=some (.ref fa)->
  ∃ fd:FuncData,(∀ (s:Shared) (u:Value),BindsTo s fd ⟨[u],[]⟩ [("_law_script", u)])/\∀ base:Heap,(K w.params).In base->base.Ns mainGlobals mg->eP l.prog w (K w.params) mg base H9 15 fa fd ["_law_script"] (tR (K w.params))):
 PySem.W.WalkO q loose XP YP l.row.toRowW d [] (λ f vs=>PySem.call f vs):=
 L2.walk_of (n:=63) (k:=15) (x := "_law_script") (CX:=λ _=>H9) (sp:=λ w=>(tR (K w.params))) hn (by decide) hdf ⟨rfl,by decide,by decide,rfl⟩ hY F (λ _ _ a ns hl _ hS=>⟨a,ns,rfl,hS,hl,λ _=>rfl⟩) λ _ _ _ _ _ z=>z
theorem toX {q:Program} {loose:List Str} {XP:(Str->Option Value)->Heap->Prop} {r:PySem.W.RowW} {d:DefRec} {kwd:List (Str×Expr)} {run:Value->List Value->Sem Value} {K:Params->Frag} {as:List Addr} {n t:Nat} (e:∀ P,as=(K P).map (·.1))
 (h:PySem.W.WalkO q loose XP (λ w h=>(K w.params).In h) r d kwd run):PySem.W.WalkX q loose XP (PySem.W.X.obsZ as) (PySem.W.X.valZ K n t) r d kwd run:=
 λ w s0 s1 mg mb G y a o pm cd doc dV kV h1 h2 h3 h4 h5 h6 args vals as' L hp hl hr hw ho=>h w s0 s1 mg mb G (PySem.W.InK.keeps w s0.heap s1.heap (PySem.W.X.z_facts e y).2.1 L.keeps) a o pm cd doc dV kV h1 h2 h3 h4 h5 h6 args vals as' hp hl hr hw ho
end My
open PySem PySem.W PyProof.Rows
def Sp.k {α : Type} (x : α) (t : True) : α := x
local macro_rules
 | `(command| universe $z) => do
  let F (s : String) (n : Lean.Name) := Lean.mkIdent (`PySem.W.Fast ++ .mkSimple s!"{s}{n.hash}")
  let mut a := #[]
  let mut b := #[]
  let p := Lean.mkIdent `PySem.Challenge.pw_widelanes_k35_could_of_straight_lines
  for k in [0:53] do
   let c := .mkStr2 "Sp" s!"c{k}"
   let C := Lean.mkIdent c
   let (T, e) <- if k < 52 then pure (<- `(Stmt), <- `(($p).main.body.getD $(Lean.quote k) (.Pass ⟨0, 0, 0, 0⟩))) else pure (<- `(Scope), <- `(($p).main.scope))
   a := ((a.push (<- `(command| def $C : $T := $e))).push (<- `(command| noncomputable def $(F "tw" c) : $T := by
    refine Sp.k ?x ?t
    case t =>
     have h : $C = ?x := by conv => lhs; whnf
     exact trivial))).push (<- `(command| theorem $(F "te" c) : $C = $(F "tw" c) := by kernel_rfl))
   b := b.push C
  for (i, j) in ([(745,1104)] : List (Nat × Nat)) do
   for k in [i:j] do
    a := a.push (<- `(command| theorem $(F "tw" (`PySem.Challenge.cw_widelanes_k35_could_of_straight_lines_holds ++ .mkSimple s!"o_{k}")) : True := trivial))
  let q := b.pop
  let s := b.back!
  return Lean.mkNullNode (a.push (<- `(command| def $(Lean.mkIdent `Sp.p) : Program := { main := { body := [$q,*], scope := $s, futureAnnotations := false, file := "/claim/cut.py", more := [] }, modules := [], parses := [], absent := [], harvested := [], given := { argv := [], stdin := [], environ := (some [([76, 67, 95, 65, 76, 76], [67, 46, 85, 84, 70, 45, 56])]) } })))
universe u
set_option maxRecDepth 100000 in
set_option maxHeartbeats 0 in
theorem PySem.Challenge.cw_widelanes_k35_could_of_straight_lines_holds : PySem.Challenge.rw_widelanes_k35_could_of_straight_lines.Holds := by
 show OpenLaw.Holds { prog := Sp.p, name := "law", about := ["could"], foot := 14, most := some 63, bound := none, writes := false }
 w_on; o_law;z_head;(case hw=>w_witness2)
 refine My.toX (λ _=>rfl) (My.walk (l:={ prog := Sp.p, name := "law", about := ["could"], foot := 14, most := some 63, bound := none, writes := false }) rfl rfl (λ w h Y=>Y) ?F)
 case F=>
  intro w mg fa h KX G hmg;refine' My.all_mk KX G hmg ?mm_Sheet ?a0 ?a1 ?lT1 ?hT1 ?a2 ?a3 ?a4 ?a5 ?a6 ?a7 ?a8 ?a9 ?a10 ?a11 ?a12 ?a13 ?a14 ?a15 ?a16 ?a17 ?a18 ?a19 ?a20 ?a21 ?a22 ?a23 ?a24 ?a25 ?a26 ?a27 ?a28 ?a29 ?a30 ?a31 ?a32 ?a33 ?a34 ?a35 ?a36 ?a37 ?a38 ?a39 ?a40 ?a41 ?a42 ?a43 ?a44 ?a45 ?s_Sheet ?zz_bool ?zz_enumerate ?zz_int ?zz_isinstance ?zz_len ?zz_list ?zz_max ?zz_min ?zz_range ?zz_set ?zz_sorted ?zz_tuple ?mm_SIGNS ?lk_SIGNS ?lc_SIGNS ?lt_SIGNS ?mm_WORKINGS ?lk_WORKINGS ?lc_WORKINGS ?lt_WORKINGS
  (case mm_Sheet | zz_bool | zz_enumerate | zz_int | zz_isinstance | zz_len | zz_list | zz_max | zz_min | zz_range | zz_set | zz_sorted | zz_tuple | mm_SIGNS | lk_SIGNS | mm_WORKINGS | lk_WORKINGS=>k_is)
  (case a0 | a1 | a2 | a3 | a4 | a10 | a11 | a12 | a13 | a14 | a15 | a16 | a17 | a18 | a19 | a20 | a21 | a22 | a23 | a24 | a25 | a26 | a27 | a28 | a29 | a30 | a31 | a32 | a33 | a34 | a35 | a36 | a37 | a38 | a39 | a40 | a41 | a42 | a43 | a44 | a45=>exact ⟨_,_,_,_,_,_,_,_,_,_,by k_is,by k_is,by k_is,by k_is⟩)
  (case a5 | a6 | a7 | a8 | a9=>exact ⟨_,_,_,_,_,_,_,_,_,_,by k_is,by k_is,by k_is,by k_is,by k_is⟩)
  (case s_Sheet=>(repeat' apply And.intro) <;> first | k_is | (unfold L2.NoAttr;k_is))
  (case lc_SIGNS | lc_WORKINGS=>rfl)
  (case lt_SIGNS | lt_WORKINGS=>kernel_rfl)
  (case lT1=>k_is)
  (case hT1=>rfl)
