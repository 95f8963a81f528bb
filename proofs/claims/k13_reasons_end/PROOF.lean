import PyProof.Rows.All
import Wide.All
import OpenK.AllK
import Wide.FinOn
import Lean
import PyProof.EqAt
import PyProof.EqKinds
import PyProof.TupleCall
import PySem.Challenge.RW_widelanes_k13_reasons_end
set_option Elab.async false
set_option genSizeOf false
set_option genSizeOfSpec false
set_option genInjectivity false
set_option compiler.extract_closed false
set_option linter.all false
set_option maxRecDepth 100000
section
local macro_rules | `(command| def $n:declId $b* : $t $v:declVal) => `(command| theorem $n:declId $b* : $t $v:declVal)
open List (nodup_nil map_nil length_drop sum_cons pairwise_map find?_eq_none length_zip length_take map_congr_left all_eq_true mem_range getElem?_replicate foldl_cons filter_append all_cons ext_getElem? size_toArray lookup_cons count_append sum_nil map_set map_take)
open Nat (le_of_eq le_add_right not_lt_zero)
open Option (getD_none getD_some isSome_map)
open PySem.Heap (get?_update_self size_push)
open PySem.PyData (strOk canLay0 eqvAll canLayAll0)
open Array (mem_toList_iff getElem?_eq_none)
open Int (toNat_natCast ofNat_lt)
abbrev Γ:=PySem.Value->PySem.Shared->Prop
abbrev Δ:=List (PySem.Addr×PySem.Obj)
abbrev Θ:=PySem.Str->Option PySem.Value
abbrev Λ:=List (Option Nat)
abbrev Ξ:=List PySem.Addr
abbrev Φ:=List PySem.Value
abbrev Ψ:=PySem.Str->PySem.Str
abbrev Ω:=List PySem.Str
namespace L2
open PySem PySem.Spec PyProof.Rows
open PySem.W (Frag)
def QA:type_of% @wpAny_bind:=@wpAny_bind
def QC:type_of% @Option.bind_some:=@Option.bind_some
def QD:type_of% @List.mem_singleton:=@List.mem_singleton
def QE:type_of% @List.mem_cons:=@List.mem_cons
def QF:type_of% @if_pos:=@if_pos
def QH:type_of% @Nat.le_refl:=@Nat.le_refl
def QI:type_of% @Option.map_some:=@Option.map_some
def QJ:type_of% @decide_eq_false:=@decide_eq_false
def QK:type_of% @List.mem_append:=@List.mem_append
def QL:type_of% @decide_eq_true:=@decide_eq_true
def QN:type_of% @wpAny_pure:=@wpAny_pure
def QO:type_of% @List.length_append:=@List.length_append
def QP:type_of% @List.getElem?_eq_getElem:=@List.getElem?_eq_getElem
def QQ:type_of% @List.size_toArray:=@List.size_toArray
def QR:type_of% @List.not_mem_nil:=@List.not_mem_nil
def QS:type_of% @if_neg:=@if_neg
def QT:type_of% @List.map_cons:=@List.map_cons
def QU:type_of% @Bool.false_ne_true:=@Bool.false_ne_true
def QV:type_of% @List.getElem?_append_left:=@List.getElem?_append_left
def QW:type_of% @List.getElem?_set_ne:=@List.getElem?_set_ne
def QX:type_of% @Heap.get?_push_of_some:=@Heap.get?_push_of_some
def QY:type_of% @List.length_cons:=@List.length_cons
def QZ:type_of% @Nat.lt_of_lt_of_le:=@Nat.lt_of_lt_of_le
def Q7:type_of% @List.mem_map:=@List.mem_map
def Q8:type_of% @Heap.lt_size:=@Heap.lt_size
def Q9:type_of% @congrArg:=@congrArg
def Ra:type_of% @List.append_nil:=@List.append_nil
def Rb:type_of% @Bool.and_eq_true:=@Bool.and_eq_true
def Rc:type_of% @List.find?_cons:=@List.find?_cons
def Re:type_of% @List.getElem?_map:=@List.getElem?_map
def Rf:type_of% @List.mem_cons_self:=@List.mem_cons_self
def Rg:type_of% @Heap.get?_push_size:=@Heap.get?_push_size
def Rh:type_of% @Nat.le_trans:=@Nat.le_trans
def Ri:type_of% @decide_eq_true_eq:=@decide_eq_true_eq
def Rj:type_of% @List.mem_cons_of_mem:=@List.mem_cons_of_mem
def Rk:type_of% @List.length_map:=@List.length_map
def Rn:type_of% @of_decide_eq_true:=@of_decide_eq_true
def Ro:type_of% @Nat.ne_of_lt:=@Nat.ne_of_lt
def Rp:type_of% @List.nodup_cons:=@List.nodup_cons
def Rq:type_of% @List.mem_filter:=@List.mem_filter
def Rt:type_of% @List.mem_append_right:=@List.mem_append_right
def Ru:type_of% @List.append_assoc:=@List.append_assoc
def Rv:type_of% @Option.some.inj:=@Option.some.inj
def Rw:type_of% @List.map_append:=@List.map_append
def Rx:type_of% @List.drop_eq_getElem_cons:=@List.drop_eq_getElem_cons
def Ry:type_of% @List.map_map:=@List.map_map
def Rz:type_of% @List.mem_of_getElem?:=@List.mem_of_getElem?
def RA:type_of% @List.getElem?_append_right:=@List.getElem?_append_right
def RB:type_of% @PySem.W.mg_none_of:=@PySem.W.mg_none_of
def RC:type_of% @Function.comp_def:=@Function.comp_def
def RD:type_of% @List.flatMap_cons:=@List.flatMap_cons
def RE:type_of% @Nat.lt_succ_self:=@Nat.lt_succ_self
def RG:type_of% @List.length_nil:=@List.length_nil
def RH:type_of% @wpAny_holding:=@wpAny_holding
def RJ:type_of% @List.replicate_succ:=@List.replicate_succ
def RK:type_of% @List.length_singleton:=@List.length_singleton
def RL:type_of% @Bool.false_eq_true:=@Bool.false_eq_true
def RM:type_of% @Ne.symm:=@Ne.symm
def RN:type_of% @Nat.zero_le:=@Nat.zero_le
def RO:type_of% @Array.getElem?_toList:=@Array.getElem?_toList
def RP:type_of% @Option.isSome_iff_exists:=@Option.isSome_iff_exists
def RQ:type_of% @List.any_cons:=@List.any_cons
def RR:type_of% @F.slot_dict_keyiterator_next:=@F.slot_dict_keyiterator_next
def RT:type_of% @of_decide_eq_false:=@of_decide_eq_false
def RU:type_of% @List.getElem_mem:=@List.getElem_mem
def RV:type_of% @List.prefix_refl:=@List.prefix_refl
def RW:type_of% @if_true:=@if_true
def RX:type_of% @Nat.lt_irrefl:=@Nat.lt_irrefl
def RY:type_of% @wpAny_truthy_bool:=@wpAny_truthy_bool
def RZ:type_of% @List.nodup_append:=@List.nodup_append
def R0:type_of% @wpAny_dictEntries:=@wpAny_dictEntries
def R5:type_of% @beq_eq_false_iff_ne:=@beq_eq_false_iff_ne
def R6:type_of% @Array.length_toList:=@Array.length_toList
def R7:type_of% @Heap.SameBut.update:=@Heap.SameBut.update
def R9:type_of% @List.of_mem_zip:=@List.of_mem_zip
def Sa:type_of% @List.length_set:=@List.length_set
def Sb:type_of% @PyProof.Rows.slot_tuple_getitem:=@PyProof.Rows.slot_tuple_getitem
def Sc:type_of% @Array.getElem?_eq_getElem:=@Array.getElem?_eq_getElem
def Sd:type_of% @List.getElem?_eq_none:=@List.getElem?_eq_none
def Se:type_of% @List.length_filter_le:=@List.length_filter_le
def Sg:type_of% @List.any_eq_true:=@List.any_eq_true
def Sh:type_of% @Nat.le_of_lt:=@Nat.le_of_lt
def Si:type_of% @List.forall_mem_cons:=@List.forall_mem_cons
def Sj:type_of% @wpAny_callSpecial?_slot:=@wpAny_callSpecial?_slot
def Sk:type_of% @wpAny_mono:=@wpAny_mono
def Sm:type_of% @PySem.mem_of_lookup:=@PySem.mem_of_lookup
def Sn:type_of% @PyProof.Rows.callWith_type1:=@PyProof.Rows.callWith_type1
def So:type_of% @Nat.lt_trans:=@Nat.lt_trans
def Sq:type_of% @List.mem_flatMap:=@List.mem_flatMap
def Sr:type_of% @List.mem_filterMap:=@List.mem_filterMap
def Ss:type_of% @or_false:=@or_false
def Su:type_of% @Option.isSome_some:=@Option.isSome_some
def Sv:type_of% @tupleKind_room_in1:=@tupleKind_room_in1
def Sw:type_of% @wpAny_passesOwn:=@wpAny_passesOwn
def Sx:type_of% @wpAny_dictEpoch:=@wpAny_dictEpoch
def Sy:type_of% @List.flatten_cons:=@List.flatten_cons
def Sz:type_of% @Nat.lt_or_ge:=@Nat.lt_or_ge
def SC:type_of% @Paired.length:=@Paired.length
def SD:type_of% @List.mem_map_of_mem:=@List.mem_map_of_mem
def SF:type_of% @if_false:=@if_false
def SG:type_of% @List.drop_length:=@List.drop_length
def SH:type_of% @wpAny_rule:=@wpAny_rule
def SJ:type_of% @List.nil_append:=@List.nil_append
def SK:type_of% @Bool.or_eq_true:=@Bool.or_eq_true
def oB {α β:Type} {x:Option α} {f:α->Option β} {b:β} (h:x.bind f=some b):∃ a,x=some a/\f a=some b:=Option.bind_eq_some_iff.mp h
def oM {α β:Type} {x:Option α} {f:α->β} {b:β} (h:x.map f=some b):∃ a,x=some a/\f a=b:=Option.map_eq_some_iff.mp h
def oG {α:Type} {l:List α} {i:Nat} {a:α} (h:l[i]?=some a):∃ h:i<l.length,l[i]=a:=List.getElem?_eq_some_iff.mp h
noncomputable abbrev aB:=Sum Int Str
noncomputable def oA:aB->Value->Bool
 | .inl k,v=>Value.isInt k v
 | .inr x,v=>Value.isStrOf x v
noncomputable def NW (w:World):aB->Int
 | .inl k=>hashInt k
 | .inr x=>hashStr w x
def cp:∀ {k:aB} {v:Value},oA k v=true->(∃ i t,k=Sum.inl i/\v=Value.int i t)∨(∃ x t,k=Sum.inr x/\v=Value.str x t)
 | .inl i,v,h=>by
  obtain ⟨t,e⟩:=Value.isInt_shape (k:=i) (v:=v) h;exact .inl ⟨i,t,rfl,e⟩
 | .inr x,v,h=>by
  obtain ⟨t,e⟩:=Value.isStrOf_shape (x:=x) (v:=v) h;exact .inr ⟨x,t,rfl,e⟩
def zC (i:Int) (t:Tok):oA (.inl i) (.int i t)=true:=by simp [oA,Value.isInt]
def zm (x:Str) (t:Tok):oA (.inr x) (.str x t)=true:=by simp [oA,Value.isStrOf]
def IB (a b:Int):decide ((Sum.inl a:aB)=Sum.inl b)=(a==b):=by
 by_cases e:a=b
 . subst e;simp
 . have h:¬ (Sum.inl a:aB)=Sum.inl b:=λ q=>e (Sum.inl.inj q);rw [QJ h];exact (R5.mpr e).symm
def Iq (a b:Str):decide ((Sum.inr a:aB)=Sum.inr b)=decide (a=b):=by
 by_cases e:a=b
 . subst e;simp
 . have h:¬ (Sum.inr a:aB)=Sum.inr b:=λ q=>e (Sum.inr.inj q);rw [QJ h,QJ e]
def Ip (a:Int) (b:Str):decide ((Sum.inl a:aB)=Sum.inr b)=false:=QJ (λ q=>nomatch q)
def J7 (a:Str) (b:Int):decide ((Sum.inr a:aB)=Sum.inl b)=false:=QJ (λ q=>nomatch q)
noncomputable def bj (prog:Program) (w:World):PySem.KeyKind prog w aB where
 is:=oA
 hash:=NW w
 inj:=λ v a b ha hb=>by
  rcases cp ha with ⟨i,t,rfl,rfl⟩ | ⟨x,t,rfl,rfl⟩
  . rcases cp hb with ⟨j,u,rfl,e⟩ | ⟨y,u,rfl,e⟩
    . injection e with e1 _;rw [e1]
    . exact nomatch e
  . rcases cp hb with ⟨j,u,rfl,e⟩ | ⟨y,u,rfl,e⟩
    . exact nomatch e
    . injection e with e1 _;rw [e1]
 byValue:=λ k v h=>by
  rcases cp h with ⟨i,t,rfl,rfl⟩ | ⟨x,t,rfl,rfl⟩ <;> rfl
 pyHash:=λ hv h=>by
  rcases cp hv with ⟨i,t,rfl,rfl⟩ | ⟨x,t,rfl,rfl⟩
  . exact wpAny_pyHash_int h
  . exact wpAny_pyHash_str h
 eqBool:=λ hu hv h=>by
  rcases cp hu with ⟨i,t,rfl,rfl⟩ | ⟨x,t,rfl,rfl⟩
  . rcases cp hv with ⟨j,u,rfl,rfl⟩ | ⟨y,u,rfl,rfl⟩
    . rw [IB] at h;exact wpAny_eqBool_int h
    . rw [Ip] at h;exact SeqAt.EqAt.int_str i t y u _ _ _ _ h
  . rcases cp hv with ⟨j,u,rfl,rfl⟩ | ⟨y,u,rfl,rfl⟩
    . rw [J7] at h;exact SeqAt.EqAt.str_int x t j u _ _ _ _ h
    . rw [Iq] at h;exact wpAny_eqBool_str h
 «strs»:=λ k x t v h=>by
  rcases cp h with ⟨i,u,rfl,e⟩ | ⟨y,u,rfl,e⟩
  . exact nomatch e
  . injection e with e1 _
    subst e1;cases v <;> rfl
def vE (prog:Program) (w:World) (i:Int) (t:Tok):(bj prog w).is (.inl i) (.int i t)=true:=zC i t
def ux (prog:Program) (w:World) (x:Str) (t:Tok):(bj prog w).is (.inr x) (.str x t)=true:=zm x t
noncomputable def nH (P:Program) (w:World) (ks:List aB):Int:=if ks=[] then 4238894112 else (tupleKind (bj P w)).hash ks
noncomputable def nE (P:Program) (w:World) (x:List aB×Value×Value):DictEntry:=⟨nH P w x.1,x.2.1,x.2.2⟩
set_option genInjectivity true in
inductive V where
 | non | bl (b:Bool) | int (i:Int) | str (x:Str) | byt (b:Array UInt8) | flt (b:UInt64) | ref (a:Addr) | ty (n:String)
 deriving DecidableEq
end L2
local macro_rules | `(command| instance $n:declId $b:bracketedBinder* : $t $v:declVal) => `(command| noncomputable def $n:declId $b* : $t $v:declVal)
namespace L2
open PySem PySem.Spec PyProof.Rows
open PySem.W (Frag)
instance br:V->Value->Prop
 | .non,u=>u=Value.none
 | .bl b,u=>u=Value.bool b
 | .int i,u=>∃ t,u=Value.int i t
 | .str x,u=>∃ t,u=Value.str x t
 | .byt b,u=>∃ t,u=Value.bytes b t
 | .flt b,u=>∃ t,u=Value.float b t
 | .ref a,u=>u=Value.ref a
 | .ty n,u=>u=Value.type n
noncomputable abbrev bn:List V->List Value->Prop:=Paired br
def bn.length {xs:List V} {us:Φ} (r:bn xs us):xs.length=us.length:=SC r
def bn.get {xs:List V} {us:Φ} {i:Nat} {x:V} (h:bn xs us) (e:xs[i]?=some x):∃ u,us[i]?=some u/\br x u:=by
 induction h generalizing i with
 | nil=>cases e
 | cons r _ ih=>
  cases i with
  | zero=>cases e;exact ⟨_,rfl,r⟩
  | succ i=>exact ih (i:=i) e
def bn.set {x:V} {u:Value} (r:br x u) {xs:List V} {us:Φ} (i:Nat) (h:bn xs us):bn (xs.set i x) (us.set i u):=by
 induction h generalizing i with
 | nil=>exact .nil
 | cons q t ih=>
  cases i with
  | zero=>exact .cons r t
  | succ i=>exact .cons q (ih i)
def bn.append {xs ys:List V} {us ws:Φ} (h:bn xs us) (s:bn ys ws):bn (xs++ys) (us++ws):=by
 induction h with
 | nil=>exact s
 | cons r _ ih=>exact .cons r ih
def bn.take {xs:List V} {us:Φ} (n:Nat) (h:bn xs us):bn (xs.take n) (us.take n):=by
 induction h generalizing n with
 | nil=>cases n <;> exact .nil
 | cons r _ ih=>
  cases n with
  | zero=>exact .nil
  | succ n=>exact .cons r (ih n)
def bn.drop {xs:List V} {us:Φ} (n:Nat) (h:bn xs us):bn (xs.drop n) (us.drop n):=by
 induction h generalizing n with
 | nil=>cases n <;> exact .nil
 | cons r t ih=>
  cases n with
  | zero=>exact .cons r t
  | succ n=>exact ih n
instance iB:Option V->Option Value->Prop
 | some v,some u=>br v u
 | none,none=>True
 | _,_=>False
instance KV {κ:Type}:List (κ×V)->List (κ×Value)->Prop:=Paired λ (p:κ×V) (q:κ×Value)=>p.1=q.1/\br p.2 q.2
instance n6 (P:Program) (w:World) (h:Heap) (a:Addr) (kvs:List (aB×Value)):Prop:=
 ∃ o es ep,h.get? a=some o/\o.ExactDict/\o.data=.dict es ep/\ep=es.size/\KeysOf (bj P w) es/\Pairs (bj P w) es.toList kvs/\(kvs.map (·.1)).Nodup
def n6.of {P:Program} {w:World} {h:Heap} {a:Addr} {kvs:List (aB×Value)} (x:n6 P w h a kvs):h.DictOf (bj P w) a kvs:=by
 obtain ⟨o,es,ep,h1,h2,h3,_,h5⟩:=x;exact ⟨o,es,ep,h1,h2,h3,h5⟩
instance kV:aB->V
 | .inl i=>.int i
 | .inr x=>.str x
inductive HO where
 | lst (xs:List V)
 | tup (xs:List V)
 | dK (kvs:List (aB×V)) | dT (kvs:List (List aB×V)) | dN (kvs:List (List aB×V))
 | set (S:Int->Bool) (n:Nat)
 | ins (C dx:Addr) (fs:List (Str×V))
 | own (x:Addr)
 | xd (fs:List (Str×V))
 | met (f x:Addr)
 | rng (lo hi:Int)
 | frz (o:Obj) (u:HO)
 | tbl (ps:Array Value)
 | ext (φ:Heap->Prop)
noncomputable abbrev Hp:=Addr->Option HO
instance nV (H:Hp) (ks:List aB) (v:Value):Prop:=(ks=[]/\v=.none)∨(ks≠[]/\∃ b,v=.ref b/\H b=some (.tup (ks.map kV)))
instance cK (H:Hp) (a:Addr) (o:HO):Hp:=λ b=>if b=a then some o else H b
def aP {H:Hp} {a:Addr} {o:HO}:cK H a o a=some o:=by unfold cK;rw [QF rfl]
def aL {H:Hp} {a b:Addr} {o:HO} (h:b≠a):cK H a o b=H b:=by unfold cK;rw [QS h]
def Gt {H:Hp} {a b:Addr} {o u:HO} (h:H a=some o) (h':H b=some u) (d:o≠u):a≠b:=by
 intro e;subst e;rw [h] at h';exact d (Rv h')
def bt {H:Hp} {a b:Addr} {o:HO} (h:H a=some o) (h':H b=none):a≠b:=by
 intro e;subst e;rw [h] at h';cases h'
section
variable (P:Program) (w:World)
instance cX (H:Hp) (h:Heap) (a:Addr):HO->Prop
 | .lst xs=>xs.length<=sizeLine/\∃ (its:Φ) (n:Nat),bn xs its/\h.get? a=some { cls:=.type "list", data:=.seq its.toArray n }
 | .tup xs=>xs.length<=sizeLine/\∃ its:List Value,bn xs its/\IsTup h a its.toArray
 | .dK kvs=>kvs.length<=sizeLine/\(a==sysModules)=false/\∃ vs,KV kvs vs/\n6 P w h a vs
 | .dT kvs=>kvs.length<=sizeLine/\(a==sysModules)=false/\∃ xs:List (List aB×Addr×Value),
  Paired (λ (p:List aB×V) (q:List aB×Addr×Value)=>p.1=q.1/\H q.2.1=some (.tup (p.1.map kV))/\br p.2 q.2.2) kvs xs/\
  ∃ o es ep,h.get? a=some o/\o.ExactDict/\o.data=.dict es ep/\es.toList=xs.map (entryOfKey (tupleKind (bj P w)))/\(xs.map (·.1)).Nodup
 | .dN kvs=>kvs.length<=sizeLine/\(a==sysModules)=false/\∃ xs:List (List aB×Value×Value),
  Paired (λ (p:List aB×V) (q:List aB×Value×Value)=>p.1=q.1/\nV H p.1 q.2.1/\br p.2 q.2.2) kvs xs/\
  ∃ o es ep,h.get? a=some o/\o.ExactDict/\o.data=.dict es ep/\es.toList=xs.map (nE P w)/\(xs.map (·.1)).Nodup
 | .set S n=>h.SetOf (intKind P w) a S n
 | .ins C dx fs=>H dx=some (.own a)/\fs.length<=1000/\dx≠a/\h.get? a=some (PySem.W.instObj C dx)/\
  ∃ mA,h.Ns1 dx mA/\(∀ f,iB (fs.lookup f) (mA f))/\PySem.Within mA (fs.map (·.1))
 | .own _=>∃ o,h.get? a=some o
 | .xd fs=>∃ mA,h.Ns1 a mA/\∀ f,iB (fs.lookup f) (mA f)
 | .rng lo hi=>∃ t u v,h.get? a=some { cls:=.type "range", data:=.fields #[.int lo t,.int hi u,.int 1 v] }
 | .frz o u=>h.get? a=some o/\cX H h a u
 | .tbl ps=>h.get? a=some { cls:=.none,data:=.fields ps }
 | .met f x=>h.get? a=some (PySem.W.methodObj (.ref f) (.ref x))
 | .ext φ=>φ h/\(∃ o,h.get? a=some o)/\∀ h1 h2:Heap,φ h1->(∀ o,h1.get? a=some o->h2.get? a=some o)->φ h2
instance j5 (H:Hp) (h:Heap):Prop:=∀ a o,H a=some o->cX P w H h a o
end
section
variable {P:Program} {w:World} {H H':Hp} {h h':Heap} {a:Addr} {o:HO}
def cX.lt (x:cX P w H h a o):a<h.objs.size:=by
 cases o with
 | lst xs=>obtain ⟨_,_,_,_,e⟩:=x;exact Q8 e
 | tup xs=>obtain ⟨_,_,_,p⟩:=x;exact p.lt
 | dK kvs=>obtain ⟨_,_,_,_,o,_,_,e,_⟩:=x;exact Q8 e
 | dT kvs=>obtain ⟨_,_,_,_,o,_,_,e,_⟩:=x;exact Q8 e
 | dN kvs=>obtain ⟨_,_,_,_,o,_,_,e,_⟩:=x;exact Q8 e
 | set S n=>obtain ⟨o,_,_,_,e,_⟩:=x;exact Q8 e
 | ins C dx fs=>obtain ⟨_,_,_,e,_⟩:=x;exact Q8 e
 | own y=>obtain ⟨_,e⟩:=x;exact Q8 e
 | xd fs=>obtain ⟨_,⟨_,_,_,e,_⟩,_⟩:=x;exact Q8 e
 | rng lo hi=>obtain ⟨_,_,_,e⟩:=x;exact Q8 e
 | frz ob u=>obtain ⟨e,_⟩:=x;exact Q8 e
 | tbl ps=>exact Q8 (show h.get? a=some _ from x)
 | met f y=>exact Q8 (show h.get? a=some _ from x)
 | ext φ=>obtain ⟨_,⟨_,e⟩,_⟩:=x;exact Q8 e
def Paired.mapP {α β:Type} {F G:α->β->Prop} {l₁:List α} {l₂:List β} (h:Paired F l₁ l₂) (f:∀ a b,F a b->G a b):Paired G l₁ l₂:=by
 induction h with
 | nil=>exact .nil
 | cons r _ ih=>exact .cons (f _ _ r) ih
def cX.stay (x:cX P w H h a o) (k:∀ b u,(b=a∨H b=some (.own a))->h.get? b=some u->h'.get? b=some u)
 (ho:∀ b,H b=some (.own a)->H' b=some (.own a)) (ht:∀ b xs,H b=some (.tup xs)->H' b=some (.tup xs)):cX P w H' h' a o:=by
 induction o with
 | lst xs=>obtain ⟨z,its,n,r,e⟩:=x;exact ⟨z,its,n,r,k _ _ (.inl rfl) e⟩
 | tup xs=>obtain ⟨z,its,r,ob,e,c⟩:=x;exact ⟨z,its,r,ob,k _ _ (.inl rfl) e,c⟩
 | dK kvs=>obtain ⟨z,y,vs,r,ob,es,ep,e,c⟩:=x;exact ⟨z,y,vs,r,ob,es,ep,k _ _ (.inl rfl) e,c⟩
 | dT kvs=>
  obtain ⟨z,y,xs,r,ob,es,ep,e,c⟩:=x;exact ⟨z,y,xs,Paired.mapP r λ p q z=>⟨z.1,ht _ _ z.2.1,z.2.2⟩,ob,es,ep,k _ _ (.inl rfl) e,c⟩
 | dN kvs=>
  obtain ⟨z,y,xs,r,ob,es,ep,e,c⟩:=x;exact ⟨z,y,xs,Paired.mapP r λ p q z=>⟨z.1,z.2.1.imp id λ hy0=>by obtain ⟨n,b,e1,e2⟩:=hy0;exact ⟨n,b,e1,ht _ _ e2⟩,z.2.2⟩,ob,es,ep,k _ _ (.inl rfl) e,c⟩
 | set S n=>obtain ⟨ob,es,ep,t,e,c⟩:=x;exact ⟨ob,es,ep,t,k _ _ (.inl rfl) e,c⟩
 | ins C dx fs=>
  obtain ⟨d,z,ne,e,mA,⟨od,es,ep,e2,c⟩,r⟩:=x;exact ⟨ho _ d,z,ne,k _ _ (.inl rfl) e,mA,⟨od,es,ep,k _ _ (.inr d) e2,c⟩,r⟩
 | own y=>obtain ⟨ob,e⟩:=x;exact ⟨ob,k _ _ (.inl rfl) e⟩
 | xd fs=>obtain ⟨mA,⟨od,es,ep,e,c⟩,r⟩:=x;exact ⟨mA,⟨od,es,ep,k _ _ (.inl rfl) e,c⟩,r⟩
 | rng lo hi=>obtain ⟨t,u,v,e⟩:=x;exact ⟨t,u,v,k _ _ (.inl rfl) e⟩
 | frz ob u ih=>obtain ⟨e,q⟩:=x;exact ⟨k _ _ (.inl rfl) e,ih q⟩
 | tbl ps=>
  have e:h.get? a=some { cls:=.none,data:=.fields ps }:=x;show h'.get? a=some { cls:=.none,data:=.fields ps };exact k a _ (.inl rfl) e
 | met f y=>
  have e:h.get? a=some (PySem.W.methodObj (.ref f) (.ref y)):=x;show h'.get? a=some (PySem.W.methodObj (.ref f) (.ref y));exact k a _ (.inl rfl) e
 | ext φ=>obtain ⟨p,⟨o,e⟩,st⟩:=x;exact ⟨st _ _ p λ o q=>k _ _ (.inl rfl) q,⟨o,k _ _ (.inl rfl) e⟩,st⟩
def j5.lt (x:j5 P w H h) (e:H a=some o):a<h.objs.size:=(x a o e).lt
def j5.fresh (x:j5 P w H h) (e:h.objs.size<=a):H a=none:=by
 cases q:H a with
 | none=>rfl
 | some u=>exact absurd (QZ (x.lt q) e) (RX _)
def j5.kept (x:j5 P w H h) (k:∀ b u,h.get? b=some u->h'.get? b=some u):j5 P w H h':=λ a o e=>
 (x a o e).stay (λ b u _ q=>k b u q) (λ _ q=>q) λ _ _ q=>q
def j5.laid (x:j5 P w H h) (k:∀ b u,h.get? b=some u->h'.get? b=some u) (hp:h.objs.size<=a) (new:cX P w (cK H a o) h' a o):j5 P w (cK H a o) h':=λ b u e=>by
 have hn:=x.fresh hp;by_cases hb:b=a
 . subst hb;rw [aP] at e;cases e;exact new
 . rw [aL hb] at e;exact (x b u e).stay (λ c v _ q=>k c v q) (λ c q=>by rw [aL (bt q hn)];exact q) λ c xs q=>by rw [aL (bt q hn)];exact q
end
instance Rd (H:Hp) (a:Addr) (u:HO):Prop:=H a=some u∨∃ o,H a=some (.frz o u)
def Rd.ok {P:Program} {w:World} {H:Hp} {h:Heap} {a:Addr} {u:HO} (r:Rd H a u) (x:j5 P w H h):cX P w H h a u:=by
 rcases r with r | ⟨o,r⟩
 . exact x a u r
 . obtain ⟨_,q⟩:=x a _ r;exact q
instance M3:Option HO->Prop
 | some (.lst _)=>True
 | some (.dK _)=>True
 | some (.dT _)=>True
 | some (.dN _)=>True
 | some (.set _ _)=>True
 | some (.ins _ _ _)=>True
 | some (.ext _)=>True
 | _=>False
section
variable {P:Program} {w:World} {H:Hp} {h h':Heap} {x e:Addr} {o':HO}
def j5.write (ok:j5 P w H h) (mu:M3 (H x)) (he:e=x∨H e=some (.own x)) (k:∀ b u,b≠e->h.get? b=some u->h'.get? b=some u) (heo:∃ u,h'.get? e=some u)
 (new:cX P w (cK H x o') h' x o'):j5 P w (cK H x o') h':=λ b u q=>by
 have nown:∀ c y,H c=some (.own y)->c≠x:=λ c y r z=>by subst z;rw [r] at mu;exact mu
 have ntup:∀ c xs,H c=some (.tup xs)->c≠x:=λ c xs r z=>by subst z;rw [r] at mu;exact mu
 by_cases hb:b=x
 . subst hb;rw [aP] at q;cases q;exact new
 . rw [aL hb] at q;by_cases hbe:b=e
   . have q':H b=some (.own x):=by
      rcases he with z | z
      . exact absurd (hbe.trans z) hb
      . rw [hbe];exact z
     rw [q] at q';cases q';obtain ⟨v,hv⟩:=heo;exact ⟨v,by rw [hbe];exact hv⟩
   . refine (ok b u q).stay (λ c v hc r=>k c v ?_ r) (λ c r=>by rw [aL (nown c b r)];exact r) λ c xs r=>by rw [aL (ntup c xs r)];exact r
     rcases hc with rfl | hc
     . exact hbe
     . rintro rfl;rcases he with z | z
       . exact nown c b hc z
       . rw [hc] at z;cases z;exact hb rfl
end
structure Un (fs ex:Ξ) (H H':Hp) (h h':Heap):Prop where
 keep:∀ b o,h.get? b=some o->H b=none->b∉fs->b∉ex->h'.get? b=some o
 slot:∀ b o,h.get? b=some o->H b=none->b∈fs->b∉ex->∃ sl,h'.get? b=some { o with slots:=sl }
 free:∀ b o,h.get? b=some o->H b=none->b∉ex->H' b=none
 there:∀ b o,h.get? b=some o->b∉ex->∃ o',h'.get? b=some o'
 tups:∀ b xs,H b=some (.tup xs)->H' b=some (.tup xs)
 frzs:∀ b o u,H b=some (.frz o u)->H' b=some (.frz o u)
 tbls:∀ b ps,H b=some (.tbl ps)->∃ more,H' b=some (.tbl (ps++more))
section
variable {fs fs' ex ex':Ξ} {H H1 H2:Hp} {h h1 h2 h':Heap} {a x e:Addr} {o:HO}
def Un.any (u:Un fs ex H H1 h h1) {b:Addr} {ob:Obj} (q:h.get? b=some ob) (n:H b=none) (hx:b∉ex):∃ sl,h1.get? b=some { ob with slots:=sl }:=by
 by_cases hb:b∈fs
 . exact u.slot b ob q n hb hx
 . exact ⟨ob.slots,u.keep b ob q n hb hx⟩
def Un.kept (k:∀ b u,h.get? b=some u->h'.get? b=some u):Un fs ex H H h h':=
 ⟨λ b ob q _ _ _=>k b ob q,λ b ob q _ _ _=>⟨ob.slots,k b ob q⟩,λ _ _ _ n _=>n,λ b ob q _=>⟨ob,k b ob q⟩,λ _ _ q=>q,λ _ _ _ q=>q,λ _ ps q=>⟨#[],by rw [q];simp⟩⟩
def Un.refl:Un fs ex H H h h:=Un.kept λ _ _ q=>q
def Un.laid (k:∀ b u,h.get? b=some u->h'.get? b=some u) (hp:h.objs.size<=a) (hn:H a=none):Un fs ex H (cK H a o) h h' where
 keep:=λ b u q _ _ _=>k b u q
 slot:=λ b u q _ _ _=>⟨u.slots,k b u q⟩
 free:=λ b u q n _=>by rw [aL (Ro (QZ (Q8 q) hp))];exact n
 there:=λ b u q _=>⟨u,k b u q⟩
 tups:=λ b xs q=>by rw [aL (bt q hn)];exact q
 frzs:=λ b u xs q=>by rw [aL (bt q hn)];exact q
 tbls:=λ b ps q=>⟨#[],by rw [aL (bt q hn),q];simp⟩
def Un.write (mu:M3 (H x)) (he:e=x∨H e=some (.own x)) (k:∀ b u,b≠e->h.get? b=some u->h'.get? b=some u) (heo:∃ u,h'.get? e=some u):Un fs ex H (cK H x o) h h':=by
 have hx:∀ b,H b=none->b≠x:=λ b n z=>by subst z;rw [n] at mu;exact mu
 have hb:∀ b,H b=none->b≠e:=λ b n z=>by
  subst z;rcases he with r | r
  . exact hx b n r
  . rw [n] at r;cases r
 have hm:∀ b u,H b=some u->¬ M3 (some u)->b≠x:=λ b u q nm z=>by subst z;rw [q] at mu;exact nm mu
 refine ⟨λ b u q n _ _=>k b u (hb b n) q,λ b u q n _ _=>⟨u.slots,k b u (hb b n) q⟩,λ b u q n _=>by rw [aL (hx b n)];exact n,λ b u q _=>?_,
  λ b xs q=>by rw [aL (hm b _ q λ z=>z)];exact q,λ b u xs q=>by rw [aL (hm b _ q λ z=>z)];exact q,λ b ps q=>⟨#[],by rw [aL (hm b _ q λ z=>z),q];simp⟩⟩
 by_cases hbe:b=e
 . subst hbe;exact heo
 . exact ⟨u,k b u hbe q⟩
end
instance zJ (h:Heap) (H:Hp):List Addr:=(List.range h.objs.size).filter λ a=>(H a).isSome
instance tf (h:Heap) (H:Hp):Heap:=PySem.W.hideAll h (zJ h H)
def zQ (h:Heap) (H:Hp):(tf h H).objs.size=h.objs.size:=PySem.W.hideAll_size _ _
def Ba {h:Heap} {H:Hp} {b:Addr} {o:Obj} (e:h.get? b=some o) (n:H b=none):(tf h H).get? b=some o:=
 PySem.W.hideAll_get _ e λ hm=>by
  have q:(H b).isSome=true:=(Rq.mp hm).2;rw [n] at q;simp at q
def EH {h:Heap} {H:Hp} {b:Addr} {o:Obj} (e:(tf h H).get? b=some o):h.get? b=some o/\H b=none:=by
 have e':h.get? b=some o:=PySem.W.of_hideAll (zJ h H) e;refine ⟨e',?_⟩;cases q:H b with
 | none=>rfl
 | some x=>
  have hm:b∈zJ h H:=Rq.mpr ⟨mem_range.mpr (Q8 e'),by simp [q]⟩;have z:(tf h H).get? b=none:=PySem.W.hideAll_none (zJ h H) hm;rw [z] at e;cases e
instance Es (g h:Heap) (L:Addr):List (Addr×Obj):=(List.range h.objs.size).filterMap λ a=>if a=L∨(g.get? a).isSome=true then none else (h.get? a).map λ o=>(a,o)
instance aM (g h:Heap) (L d:Addr):List (Addr×Obj):=(Es g h L).filter λ p=>decide (p.1≠d)
structure Mod (K:Frag) (mg:Θ) (base:Heap):Prop where
 kin:K.In base
 glob:base.Ns mainGlobals mg
 blt:∃ mb,base.Ns builtinsNs mb/\∀ x:Str,x ≠ "__name__" -> mb x=bootBuiltins x
 nolimit:base.NoLimit
structure Cx where
 prog:Program
 w:World
 K:Frag
 mg:Θ
 base:Heap
 A:Around
 N:Ω
 s₀:Shared
 H₀:Hp
 env:Env
 outer:List Env
 stack:List Env
 ex:Ξ
 fn:Str->Bool
 calm:Bool
 pn:Δ
 xe:Γ
instance Bg (l:List Env):List Addr:=l.filterMap (·.frame)
noncomputable abbrev Cx.fs (X:Cx):List Addr:=Bg X.outer
instance N8 (sc:Scope) (x:Str):Prop:=sc.names.lookup x=some .local∨sc.names.lookup x=some .cell∨sc.names.lookup x=some .free
instance Ja (sc:Scope) (x:Str):Prop:=sc.names.lookup x=some .local∨sc.names.lookup x=some .cell
instance O1 (env:Env) (h:Heap) (m:Θ) (x:Str) (u:Value):Prop:=
 (env.kindOf x=some .local/\m x=some u)∨((env.kindOf x=some .cell∨env.kindOf x=some .free)/\∃ c,env.cells.lookup x=some c/\h.IsCell c (some u))
structure Cx.Ok (X:Cx):Prop where
 mod:Mod X.K X.mg X.base
 kind:X.env.scope.kind=.function
 glob:X.env.globals=mainGlobals
 blt:X.env.builtins=builtinsNs
 above:X.s₀.heap.objs.size<=X.env.locals
 inj:∀ x y c,X.env.cells.lookup x=some c->X.env.cells.lookup y=some c->x=y
 has:∀ x,(X.env.kindOf x=some .cell∨X.env.kindOf x=some .free)->∃ c,X.env.cells.lookup x=some c
 cab:∀ x c,X.fn x=true->X.env.cells.lookup x=some c->X.s₀.heap.objs.size<=c
 hd:X.calm=true->X.A.handled=none
 frames:X.A.frames=some X.stack
 stk:X.stack=X.outer∨(X.stack=X.env::X.outer/\X.env.frame=some X.env.locals)
 exf:∀ b∈X.ex,b≠X.env.locals/\∀ x c,X.env.cells.lookup x=some c->c≠b
 bs:∀ b o,X.base.get? b=some o->X.s₀.heap.get? b=some o/\X.H₀ b=none
 bsz:X.base.objs.size<=X.s₀.heap.objs.size
 noex:∀ b o,X.base.get? b=some o->b∉X.ex
 exfs:∀ b∈X.ex,b∉X.fs
 funs:X.s₀.heap.FunFrames X.base X.outer
 frf:∀ b∈X.fs,X.H₀ b=none
structure aR (X:Cx) (pins:Δ) (σ:List (Option V)) (H:Hp) (s:Shared):Prop where
 ok:X.Ok
 os:s.os=X.s₀.os
 bare:AllBare s.gens
 base:Un X.fs X.ex X.H₀ H X.s₀.heap s.heap
 loc:∃ m,s.heap.Ns X.env.locals m/\∀ (i:Nat) (x:Str) (v:V),X.N[i]?=some x->σ[i]?=some (some v)->N8 X.env.scope x->∃ u,br v u/\O1 X.env s.heap m x u
 cell:∀ x c,X.env.cells.lookup x=some c->∃ v,s.heap.IsCell c v
 free:H X.env.locals=none
 freeC:∀ x c,X.env.cells.lookup x=some c->H c=none
 pin:∀ p∈X.pn++pins,s.heap.get? p.1=some p.2/\H p.1=none/\p.1≠X.env.locals/\p.1∉X.fs/\∀ v,p.2.data≠.cell v
 hok:j5 X.prog X.w H s.heap
 len:σ.length=X.N.length
section
variable {X:Cx} {pins:Δ} {σ:List (Option V)} {H H':Hp} {s:Shared} {h':Heap}
def Cx.Ok.nofr (ok:X.Ok) {b:Addr} {o:Obj} (e:X.base.get? b=some o):b∉X.fs:=λ hb=>by
 have:=(ok.funs.mem hb).1;rw [e] at this;cases this
def aR.bs (I:aR X pins σ H s):∀ b o,X.base.get? b=some o->s.heap.get? b=some o/\H b=none:=λ b o e=>
 ⟨I.base.keep b o (I.ok.bs b o e).1 (I.ok.bs b o e).2 (I.ok.nofr e) (I.ok.noex b o e),I.base.free b o (I.ok.bs b o e).1 (I.ok.bs b o e).2 (I.ok.noex b o e)⟩
def aR.bk (I:aR X pins σ H s):∀ b o,X.base.get? b=some o->s.heap.get? b=some o:=λ b o e=>(I.bs b o e).1
def aR.mod (I:aR X pins σ H s):Mod X.K X.mg X.base:=I.ok.mod
def aR.kIn (I:aR X pins σ H s):X.K.In s.heap:=I.ok.mod.kin.keeps I.bk
def aR.lt (I:aR X pins σ H s):X.env.locals<s.heap.objs.size:=by obtain ⟨_,hn,_⟩:=I.loc;exact hn.lt
def aR.sz (I:aR X pins σ H s):X.s₀.heap.objs.size<=s.heap.objs.size:=Rh I.ok.above (Sh I.lt)
def aR.nofs (I:aR X pins σ H s) {a:Addr} (h:s.heap.objs.size<=a):a∉X.fs:=λ hb=>by
 obtain ⟨_,o,ho,_⟩:=I.ok.funs.mem hb;exact absurd (QZ (Q8 ho) (Rh I.sz h)) (RX _)
def aR.cne (I:aR X pins σ H s):∀ x c,X.env.cells.lookup x=some c->c≠X.env.locals:=λ x c e z=>by
 obtain ⟨v,o,ho,hd⟩:=I.cell x c e;obtain ⟨m,⟨o',es,ep,ho',hd',_⟩,_⟩:=I.loc;rw [z,ho'] at ho;cases ho;rw [hd'] at hd;cases hd
def aR.funs (I:aR X pins σ H s):s.heap.FunFrames X.base X.outer:=by
 have all:∀ (l:List Env),(∀ b∈Bg l,b∈X.fs)->X.s₀.heap.FunFrames X.base l->s.heap.FunFrames X.base l:=by
  intro l;induction l with
  | nil=>intro _ _;trivial
  | cons env r ih=>
   intro hs hl;obtain ⟨hk,⟨L,o,hf,hn,ho,hd⟩,hr⟩:=hl;have hL:L∈X.fs:=hs L (by unfold Bg;rw [List.filterMap_cons,hf];exact Rf);obtain ⟨sl,e⟩:=I.base.slot L o ho (I.ok.frf L hL) hL λ z=>I.ok.exfs L z hL;exact ⟨hk,⟨L,_,hf,hn,e,hd⟩,ih (λ b hb=>hs b (by unfold Bg;rw [List.filterMap_cons,hf];exact Rj _ hb)) hr⟩
 exact all X.outer (λ _ hb=>hb) I.ok.funs
def aR.stack (I:aR X pins σ H s):s.heap.FunFrames X.base X.stack:=by
 rcases I.ok.stk with e | ⟨e,hf⟩
 . rw [e];exact I.funs
 . rw [e];obtain ⟨m,hn,_⟩:=I.loc;refine .cons (by rw [I.ok.kind];decide) hf hn ?_ I.funs;exact Heap.get?_none_of_le (Rh I.ok.bsz I.ok.above)
def aR.stkSub (I:aR X pins σ H s):∀ b∈Bg X.stack,b∈X.env.locals::X.fs:=λ b hb=>by
 rcases I.ok.stk with e | ⟨e,hf⟩
 . rw [e] at hb;exact Rj _ hb
 . rw [e] at hb;unfold Bg at hb;rw [List.filterMap_cons,hf] at hb;exact hb
def aR.stkFree (I:aR X pins σ H s):∀ b∈Bg X.stack,H b=none:=λ b hb=>by
 rcases QE.mp (I.stkSub b hb) with e | hb
 . rw [e];exact I.free
 . obtain ⟨_,o,ho,_⟩:=I.ok.funs.mem hb;exact I.base.free b o ho (I.ok.frf b hb) λ z=>I.ok.exfs b z hb
def aR.step {g':Array GenState} {t':Nat} {d':Drawn} {ch:Ξ} (I:aR X pins σ H s)
 (hch:∀ b∈ch,(b∈X.ex∨X.s₀.heap.objs.size<=b)/\b≠X.env.locals/\(∀ x c,X.env.cells.lookup x=some c->c≠b)/\∀ p∈X.pn++pins,p.1≠b)
 (keep:∀ b o,b≠X.env.locals->b∉X.fs->b∉ch->s.heap.get? b=some o->H b=none->h'.get? b=some o)
 (slot:∀ b o,b≠X.env.locals->b∈X.fs->b∉ch->s.heap.get? b=some o->H b=none->∃ sl,h'.get? b=some { o with slots:=sl }) (free:∀ b o,b∉ch->s.heap.get? b=some o->H b=none->H' b=none)
 (there:∀ b o,b∉ch->s.heap.get? b=some o->∃ o',h'.get? b=some o')
 (tups:∀ b xs,H b=some (.tup xs)->H' b=some (.tup xs)) (frzs:∀ b o u,H b=some (.frz o u)->H' b=some (.frz o u)) (tbls:∀ b ps,H b=some (.tbl ps)->∃ more,H' b=some (.tbl (ps++more)))
 (ns:∀ m,s.heap.Ns X.env.locals m->h'.Ns X.env.locals m) (hok:j5 X.prog X.w H' h') (hg:AllBare g'):
 aR X pins σ H' { s with heap:=h',gens:=g',drawn:=d',toks:=t' }:=by
 have neL:∀ b o,X.s₀.heap.get? b=some o->b≠X.env.locals:=λ b o e=>Ro (QZ (Q8 e) I.ok.above);have neC:∀ b o,X.s₀.heap.get? b=some o->b∉X.ex->b∉ch:=λ b o e hx hb=>by
  rcases (hch b hb).1 with z | z
  . exact hx z
  . exact absurd (QZ (Q8 e) z) (RX _)
 have cellK:∀ x c,X.env.cells.lookup x=some c->∀ v,s.heap.IsCell c v->h'.IsCell c v:=λ x c e v hy0=>by
  obtain ⟨o,ho,hd⟩:=hy0;have nch:c∉ch:=λ z=>(hch c z).2.2.1 x c e rfl;by_cases hc:c∈X.fs
  . obtain ⟨sl,q⟩:=slot c o (I.cne x c e) hc nch ho (I.freeC x c e);exact ⟨_,q,hd⟩
  . exact ⟨o,keep c o (I.cne x c e) hc nch ho (I.freeC x c e),hd⟩
 refine ⟨I.ok,I.os,hg,⟨λ b o e n hb hx=>?_,λ b o e n hb hx=>?_,λ b o e n hx=>?_,λ b o e hx=>?_,λ b xs e=>tups b xs (I.base.tups b xs e),λ b o xs e=>frzs b o xs (I.base.frzs b o xs e),λ b ps e=>?_⟩,?_,λ x c e=>?_,?_,λ x c e=>?_,λ p hp=>?_,hok,I.len⟩
 . exact keep b o (neL b o e) hb (neC b o e hx) (I.base.keep b o e n hb hx) (I.base.free b o e n hx)
 . obtain ⟨sl,e1⟩:=I.base.slot b o e n hb hx;obtain ⟨sl',e2⟩:=slot b _ (neL b o e) hb (neC b o e hx) e1 (I.base.free b o e n hx);exact ⟨sl',e2⟩
 . obtain ⟨o',e1⟩:=I.base.there b o e hx;exact free b o' (neC b o e hx) e1 (I.base.free b o e n hx)
 . obtain ⟨o',e1⟩:=I.base.there b o e hx;exact there b o' (neC b o e hx) e1
 . obtain ⟨m1,e1⟩:=I.base.tbls b ps e;obtain ⟨m2,e2⟩:=tbls b _ e1;exact ⟨m1++m2,by rw [e2,Array.append_assoc]⟩
 . obtain ⟨m,hn,hl⟩:=I.loc;refine ⟨m,ns m hn,λ i x v e1 e2 e3=>?_⟩;obtain ⟨u,r,l⟩:=hl i x v e1 e2 e3;refine ⟨u,r,?_⟩;rcases l with l | ⟨k,c,e,z⟩
   . exact .inl l
   . exact .inr ⟨k,c,e,cellK x c e _ z⟩
 . obtain ⟨v,z⟩:=I.cell x c e;exact ⟨v,cellK x c e v z⟩
 . obtain ⟨m,⟨o,_,_,ho,_⟩,_⟩:=I.loc;exact free _ o (λ z=>(hch _ z).2.1 rfl) ho I.free
 . obtain ⟨v,o,ho,hd⟩:=I.cell x c e;exact free c o (λ z=>(hch c z).2.2.1 x c e rfl) ho (I.freeC x c e)
 . obtain ⟨e,n,ne,nf,d⟩:=I.pin p hp;have nch:p.1∉ch:=λ z=>(hch p.1 z).2.2.2 p hp rfl;exact ⟨keep p.1 p.2 ne nf nch e n,free p.1 p.2 nch e n,ne,nf,d⟩
def aR.un {t':Nat} (I:aR X pins σ H s) (u:Un X.fs [] H H' s.heap h') (hok:j5 X.prog X.w H' h'):aR X pins σ H' { s with heap:=h',toks:=t' }:=by
 obtain ⟨m,⟨o,es,ep,ho,r⟩,_⟩:=id I.loc;obtain ⟨sl,hL⟩:=u.any ho I.free (by simp);exact I.step (g':=s.gens) (d':=s.drawn) (ch:=[]) (λ _ z=>nomatch z) (λ b o _ hb _ e n=>u.keep b o e n hb (by simp)) (λ b o _ hb _ e n=>u.slot b o e n hb (by simp)) (λ b o _ e n=>u.free b o e n (by simp)) (λ b o _ e=>u.there b o e (by simp)) u.tups u.frzs u.tbls (λ m' hm=>by
  obtain ⟨o',es',ep',ho',r'⟩:=hm;rw [ho] at ho';cases ho';exact ⟨_,es',ep',hL,r'⟩) hok I.bare
def aR.call {g':Array GenState} {t':Nat} {d':Drawn} {ch:Ξ} (I:aR X pins σ H s) (u:Un (Bg X.stack) ch H H' s.heap h') (hok:j5 X.prog X.w H' h') (hg:AllBare g')
 (hch:∀ b∈ch,(b∈X.ex∨X.s₀.heap.objs.size<=b)/\b≠X.env.locals/\(∀ x c,X.env.cells.lookup x=some c->c≠b)/\∀ p∈X.pn++pins,p.1≠b):
 aR X pins σ H' { s with heap:=h',gens:=g',drawn:=d',toks:=t' }:=by
 obtain ⟨m,⟨o,es,ep,ho,r⟩,_⟩:=id I.loc;obtain ⟨sl,hL⟩:=u.any ho I.free λ z=>(hch _ z).2.1 rfl;exact I.step (ch:=ch) hch (λ b o hL hb hc e n=>u.keep b o e n (λ z=>(QE.mp (I.stkSub b z)).elim hL hb) hc) (λ b o _ _ hc e n=>u.any e n hc) (λ b o hc e n=>u.free b o e n hc) (λ b o hc e=>u.there b o e hc) u.tups u.frzs u.tbls (λ m' hm=>by
  obtain ⟨o',es',ep',ho',r'⟩:=hm;rw [ho] at ho';cases ho';exact ⟨_,es',ep',hL,r'⟩) hok hg
def aR.turned {t':Nat} {it:Addr} (I:aR X pins σ H s) (k:∀ b o,b≠it->s.heap.get? b=some o->h'.get? b=some o) (hn:H it=none) (hL:it≠X.env.locals)
 (h1:it∈X.ex∨X.s₀.heap.objs.size<=it) (h2:∀ x c,X.env.cells.lookup x=some c->c≠it) (h3:∀ p∈X.pn++pins,p.1≠it):aR X pins σ H { s with heap:=h',toks:=t' }:=by
 have nit:∀ b u,H b=some u->b≠it:=λ b u e z=>by rw [z,hn] at e;cases e
 refine I.step (g':=s.gens) (d':=s.drawn) (ch:=[it]) (λ b hb=>?_) (λ b o _ _ hc e _=>k b o (λ z=>hc (by simp [z])) e) (λ b o _ _ hc e _=>⟨o.slots,k b o (λ z=>hc (by simp [z])) e⟩) (λ _ _ _ _ n=>n)
  (λ b o hc e=>⟨o,k b o (λ z=>hc (by simp [z])) e⟩) (λ _ _ e=>e) (λ _ _ _ e=>e) (λ b ps e=>⟨#[],by rw [e];simp⟩) (λ m hm=>?_) (λ b u e=>?_) I.bare
 . have e:b=it:=by simpa using hb
   subst e;exact ⟨h1,hL,h2,h3⟩
 . obtain ⟨o,es,ep,ho,r⟩:=hm;exact ⟨o,es,ep,k _ o (RM hL) ho,r⟩
 . refine (I.hok b u e).stay (λ c v hc q=>k c v ?_ q) (λ _ q=>q) λ _ _ q=>q;rcases hc with z | z
   . rw [z];exact nit b u e
   . exact nit c _ z
def aR.tok (I:aR X pins σ H s) (t:Nat):aR X pins σ H { s with toks:=t }:=I.un (h':=s.heap) (t':=t) Un.refl I.hok
def aR.kept {t':Nat} (I:aR X pins σ H s) (k:∀ b u,s.heap.get? b=some u->h'.get? b=some u):aR X pins σ H { s with heap:=h',toks:=t' }:=I.un (Un.kept k) (I.hok.kept k)
def aR.laid {a:Addr} {o:HO} {t':Nat} (I:aR X pins σ H s) (k:∀ b u,s.heap.get? b=some u->h'.get? b=some u) (hp:s.heap.objs.size<=a) (new:cX X.prog X.w (cK H a o) h' a o):
 aR X pins σ (cK H a o) { s with heap:=h',toks:=t' }:=I.un (Un.laid k hp (I.hok.fresh hp)) (I.hok.laid k hp new)
def aR.write {x e:Addr} {o:HO} {t':Nat} (I:aR X pins σ H s) (mu:M3 (H x)) (he:e=x∨H e=some (.own x)) (k:∀ b u,b≠e->s.heap.get? b=some u->h'.get? b=some u) (heo:∃ u,h'.get? e=some u)
 (new:cX X.prog X.w (cK H x o) h' x o):aR X pins σ (cK H x o) { s with heap:=h',toks:=t' }:=I.un (Un.write mu he k heo) (I.hok.write mu he k heo new)
def aR.weak {σ':List (Option V)} (I:aR X pins σ H s) (hl:σ'.length=σ.length) (w:∀ (i:Nat) v,σ'[i]?=some (some v)->σ[i]?=some (some v)):aR X pins σ' H s:=
 ⟨I.ok,I.os,I.bare,I.base,by obtain ⟨m,hn,hl'⟩:=I.loc;exact ⟨m,hn,λ i x v e1 e2 e3=>hl' i x v e1 (w i v e2) e3⟩,I.cell,I.free,I.freeC,I.pin,I.hok,hl.trans I.len⟩
def aR.pins_of {pins':Δ} (I:aR X pins σ H s) (h:∀ p∈pins',s.heap.get? p.1=some p.2/\H p.1=none/\p.1≠X.env.locals/\p.1∉X.fs/\∀ v,p.2.data≠.cell v):aR X pins' σ H s:=
 ⟨I.ok,I.os,I.bare,I.base,I.loc,I.cell,I.free,I.freeC,λ p hp=>(QK.mp hp).elim (λ z=>I.pin p (List.mem_append_left _ z)) (h p),I.hok,I.len⟩
def vc {N:Ω} (hN:N.Nodup) {i j:Nat} {x:Str} (a:N[i]?=some x) (b:N[j]?=some x):i=j:=by
 obtain ⟨h1,e1⟩:=oG a
 obtain ⟨h2,e2⟩:=oG b
 exact (List.getElem_inj hN).mp (e1.trans e2.symm)
def q9 {M:Model} {A:Around} {E:Γ} {i:Nat} {x:Str} {v:V} {u:Value} {Q:Unit->Shared->Prop} (I:aR X pins σ H s) (hN:X.N.Nodup) (hi:X.N[i]?=some x) (hx:Ja X.env.scope x) (r:br v u)
 (h:∀ s',aR X pins (σ.set i (some v)) H s'->(∃ a,Heap.SameBut a s.heap s'.heap/\(a=X.env.locals∨X.env.cells.lookup x=some a))->Q () s') (hf:X.fn x=true∨X.env.scope.names.lookup x=some .local:=by first | exact .inl rfl | exact .inr rfl | assumption):wpAny M A (storeName X.env x u) Q E s:=by
 obtain ⟨m,hn,hl⟩:=id I.loc;have hcls:(X.env.scope.kind==.class||(X.env.scope.kind==.module&&X.env.locals != X.env.globals))=false:=by rw [I.ok.kind];rfl
 have hiσ:i<σ.length:=by rw [I.len];exact (oG hi).1
 have cne:=I.cne;have tracked:∀ {a:Addr} {h':Heap},(∃ o,s.heap.get? a=some o/\H a=none)->Heap.SameBut a s.heap h'->j5 X.prog X.w H h':=λ {a h'} ha hs b ob e=>by
  obtain ⟨_,_,hfree⟩:=ha;refine (I.hok b ob e).stay (λ c w' hc q=>(hs.2 c ?_).trans q) (λ _ q=>q) λ _ _ q=>q;rintro rfl;rcases hc with rfl | hc
  . rw [hfree] at e;cases e
  . rw [hfree] at hc;cases hc
 rcases hx with hk | hk
 . refine wpAny_storeName_local hk hn (λ h' hn' hs=>?_) hcls;obtain ⟨oL,_,_,hoL,_⟩:=id hn;refine h _ ⟨I.ok,I.os,I.bare,⟨λ b o e n hb hx=>?_,λ b o e n hb hx=>?_,I.base.free,λ b o e hx=>?_,I.base.tups,I.base.frzs,I.base.tbls⟩,⟨_,hn',λ j y v' e1 e2 e3=>?_⟩,λ y c e=>?_,I.free,I.freeC,λ p hp=>?_,tracked ⟨oL,hoL,I.free⟩ hs,by simpa using I.len⟩ ⟨_,hs,.inl rfl⟩
   . exact (hs.2 b (Ro (QZ (Q8 e) I.ok.above))).trans (I.base.keep b o e n hb hx)
   . obtain ⟨sl,e1⟩:=I.base.slot b o e n hb hx;exact ⟨sl,(hs.2 b (Ro (QZ (Q8 e) I.ok.above))).trans e1⟩
   . obtain ⟨o',e1⟩:=I.base.there b o e hx;exact ⟨o',(hs.2 b (Ro (QZ (Q8 e) I.ok.above))).trans e1⟩
   . by_cases hj:j=i
     . subst hj;rw [hi] at e1;cases e1;rw [List.getElem?_set_self hiσ] at e2;cases e2;exact ⟨u,r,.inl ⟨hk,by simp⟩⟩
     . rw [QW (RM hj)] at e2;obtain ⟨u',r',q⟩:=hl j y v' e1 e2 e3;refine ⟨u',r',?_⟩;rcases q with ⟨k,e⟩ | ⟨k,c,e,z⟩
       . refine .inl ⟨k,?_⟩;have:y≠x:=λ e=>hj (vc hN e1 (e▸hi));simp [this,e]
       . exact .inr ⟨k,c,e,z.sameBut hs (cne y c e)⟩
   . obtain ⟨w',z⟩:=I.cell y c e;exact ⟨w',z.sameBut hs (cne y c e)⟩
   . obtain ⟨e,n,ne,nf,d⟩:=I.pin p hp;exact ⟨(hs.2 p.1 ne).trans e,n,ne,nf,d⟩
 . have hfn:X.fn x=true:=by
    rcases hf with z | z
    . exact z
    . rw [z] at hk;cases hk
   obtain ⟨c,hc⟩:=I.ok.has x (.inl hk);obtain ⟨w',z⟩:=I.cell x c hc;refine wpAny_storeName_cell I.ok.kind hk hc z (λ h' hc' hs=>?_);obtain ⟨oc,hoc,hocd⟩:=id z;refine h { s with heap:=h' } ⟨I.ok,I.os,I.bare,⟨λ b o e n hb hx=>?_,λ b o e n hb hx=>?_,I.base.free,λ b o e hx=>?_,I.base.tups,I.base.frzs,I.base.tbls⟩,⟨m,hn.sameBut hs (RM (cne x c hc)),λ j y v' e1 e2 e3=>?_⟩,λ y c' e=>?_,I.free,I.freeC,λ p hp=>?_,tracked ⟨oc,hoc,I.freeC x c hc⟩ hs,by simpa using I.len⟩ ⟨c,hs,.inr hc⟩
   . exact (hs.2 b (Ro (QZ (Q8 e) (I.ok.cab x c hfn hc)))).trans (I.base.keep b o e n hb hx)
   . obtain ⟨sl,e1⟩:=I.base.slot b o e n hb hx;exact ⟨sl,(hs.2 b (Ro (QZ (Q8 e) (I.ok.cab x c hfn hc)))).trans e1⟩
   . obtain ⟨o',e1⟩:=I.base.there b o e hx;exact ⟨o',(hs.2 b (Ro (QZ (Q8 e) (I.ok.cab x c hfn hc)))).trans e1⟩
   . by_cases hj:j=i
     . subst hj;rw [hi] at e1;cases e1;rw [List.getElem?_set_self hiσ] at e2;cases e2;exact ⟨u,r,.inr ⟨.inl hk,c,hc,hc'⟩⟩
     . rw [QW (RM hj)] at e2;obtain ⟨u',r',q⟩:=hl j y v' e1 e2 e3;refine ⟨u',r',?_⟩;rcases q with q | ⟨k,c',e,z'⟩
       . exact .inl q
       . refine .inr ⟨k,c',e,z'.sameBut hs ?_⟩;rintro rfl;exact hj (vc hN e1 (I.ok.inj _ _ _ e hc▸hi))
   . by_cases hcc:c'=c
     . subst hcc;exact ⟨_,hc'⟩
     . obtain ⟨w2,z2⟩:=I.cell y c' e;exact ⟨w2,z2.sameBut hs hcc⟩
   . obtain ⟨e,n,ne,nf,d⟩:=I.pin p hp;refine ⟨(hs.2 p.1 ?_).trans e,n,ne,nf,d⟩;intro q;rw [q,hoc] at e;have q':oc=p.2:=Rv e;exact d w' (by rw [<-q'];exact hocd)
def ui {M:Model} {A:Around} {E:Γ} {i:Nat} {x:Str} {v:V} {u:Value} {Q:Unit->Shared->Prop} (I:aR X pins σ H s) (hN:X.N.Nodup) (hi:X.N[i]?=some x) (hx:Ja X.env.scope x) (r:br v u)
 (h:∀ s',aR X pins (σ.set i (some v)) H s'->Q () s') (hf:X.fn x=true∨X.env.scope.names.lookup x=some .local:=by first | exact .inl rfl | exact .inr rfl | assumption):wpAny M A (storeName X.env x u) Q E s:=
 q9 I hN hi hx r (λ s' I' _=>h s' I') hf
def aR.call' {s':Shared} {ch:Ξ} (I:aR X pins σ H s) (ho:s'.os=s.os) (u:Un (Bg X.stack) ch H H' s.heap s'.heap) (hok:j5 X.prog X.w H' s'.heap) (hg:AllBare s'.gens)
 (hch:∀ b∈ch,(b∈X.ex∨X.s₀.heap.objs.size<=b)/\b≠X.env.locals/\(∀ x c,X.env.cells.lookup x=some c->c≠b)/\∀ p∈X.pn++pins,p.1≠b):aR X pins σ H' s':=by
 obtain ⟨h',g',d',t',o'⟩:=s';have e:o'=s.os:=ho;subst e;exact I.call (g':=g') (t':=t') (d':=d') u hok hg hch
end
noncomputable abbrev XK:=Value->Option Addr->Hp->Prop
noncomputable abbrev St:=List (Option V)
noncomputable abbrev VK:=V->Hp->Prop
noncomputable abbrev TE:=St->Hp->VK->Prop
noncomputable abbrev TT:=St->Hp->(Bool->Hp->Prop)->Prop
noncomputable abbrev TA:=St->Hp->(List V->Hp->Prop)->Prop
structure jg where
 nx:St->Hp->Prop
 rt:VK
 bk:St->Hp->Prop:=λ _ _=>False
 ct:St->Hp->Prop:=λ _ _=>False
noncomputable abbrev TS:=jg->St->Hp->Prop
instance EP (X:Cx) (pins:Δ) (σ:St) (Q:VK) (u:Value) (s':Shared):Prop:=∃ v H',aR X pins σ H' s'/\br v u/\Q v H'
instance TP (X:Cx) (pins:Δ) (σ:St) (Q:Bool->Hp->Prop) (b:Bool) (s':Shared):Prop:=∃ H',aR X pins σ H' s'/\Q b H'
instance AP (X:Cx) (pins:Δ) (σ:St) (Q:List V->Hp->Prop) (us:Φ) (s':Shared):Prop:=∃ vs H',aR X pins σ H' s'/\bn vs us/\Q vs H'
instance SP (X:Cx) (pins:Δ) (D:jg) (f:Flow) (s':Shared):Prop:=
 match f with
 | .next=>∃ σ' H',aR X pins σ' H' s'/\D.nx σ' H'
 | .brk=>∃ σ' H',aR X pins σ' H' s'/\D.bk σ' H'
 | .cont=>∃ σ' H',aR X pins σ' H' s'/\D.ct σ' H'
 | .ret u=>∃ v σ' H',aR X pins σ' H' s'/\br v u/\D.rt v H'
instance PE (X:Cx) (e:Expr) (t:TE):Prop:=
 ∀ (pins:Δ) (s:Shared) (σ:St) (H:Hp) (Q:VK),aR X pins σ H s->t σ H Q->wpAny (model X.prog X.w) X.A (eval e X.env) (EP X pins σ Q) X.xe s
instance PT (X:Cx) (e:Expr) (t:TT):Prop:=
 ∀ (pins:Δ) (s:Shared) (σ:St) (H:Hp) (Q:Bool->Hp->Prop),aR X pins σ H s->t σ H Q->wpAny (model X.prog X.w) X.A (isTrue e X.env (eval e X.env)) (TP X pins σ Q) X.xe s
instance PW (X:Cx) (e:Expr) (t:TT):Prop:=
 ∀ (whole:Sem Value) (pins:Δ) (s:Shared) (σ:St) (H:Hp) (Q:Bool->Hp->Prop),aR X pins σ H s->t σ H Q->wpAny (model X.prog X.w) X.A (isTrue e X.env whole) (TP X pins σ Q) X.xe s
def PW.pt {X:Cx} {e:Expr} {t:TT} (h:PW X e t):PT X e t:=h _
instance PA (X:Cx) (es:List Expr) (t:TA):Prop:=
 ∀ (pos:Pos) (pins:Δ) (s:Shared) (σ:St) (H:Hp) (Q:List V->Hp->Prop),aR X pins σ H s->t σ H Q->wpAny (model X.prog X.w) X.A (spliced (backTo pos (starEach es X.env))) (AP X pins σ Q) X.xe s
instance PS (X:Cx) (st:Stmt) (t:TS):Prop:=
 ∀ (pins:Δ) (s:Shared) (σ:St) (H:Hp) (D:jg),aR X pins σ H s->t D σ H->wpAny (model X.prog X.w) X.A (exec st X.env) (SP X pins D) X.xe s
instance vJ (X:Cx) (st:List Stmt) (t:TS):Prop:=
 ∀ (pins:Δ) (s:Shared) (σ:St) (H:Hp) (D:jg),aR X pins σ H s->t D σ H->wpAny (model X.prog X.w) X.A (execs st X.env) (SP X pins D) X.xe s
def cJ {α:Type} {t:Sem α} {Q Q':α->Shared->Prop} {M:Model} {A:Around} {E:Γ} {s:Shared} (h:wpAny M A t Q E s) (hQ:∀ a s,Q a s->Q' a s):wpAny M A t Q' E s:=Sk h hQ λ _ _ x=>x
section
variable {X:Cx}
instance zh (i:Nat):TE:=λ σ H Q=>∃ v,σ[i]?=some (some v)/\Q v H
instance tC (v:V):TE:=λ _ H Q=>Q v H
def O5 {i:Nat} {x:Str} {pos:Pos} (hN:X.N[i]?=some x) (hv:N8 X.env.scope x) (hd:(x==("__debug__" : Str))=false) (hcd:(x==("__classdict__" : Str))=false):PE X (.Name x pos) (zh i):=by
 intro pins s σ H Q I h;obtain ⟨v,e,h⟩:=h;obtain ⟨m,hn,hl⟩:=I.loc;obtain ⟨u,r,l⟩:=hl i x v hN e hv;have fin:EP X pins σ Q u s:=⟨v,H,I,r,h⟩
 rcases l with ⟨hk,hm⟩ | ⟨hk,c,hc,hcell⟩
 . exact wpAny_Name (wpAny_loadName_local I.ok.kind hk hn hm fin) hd
 . rcases hk with hk | hk
   . exact wpAny_Name (wpAny_loadName_cell I.ok.kind hk hc hcell fin) hd
   . exact wpAny_Name (wpAny_loadName_free I.ok.kind hk hc hcell fin hcd) hd
def OQ {i j pos}:PE X (.Constant (.int i) j pos) (tC (.int i)):=λ _ _ _ H _ I h=>wpAny_Constant_int ⟨.int i,H,I.tok _,⟨_,rfl⟩,h⟩
def Pc {b j pos}:PE X (.Constant (.bool b) j pos) (tC (.bl b)):=λ _ _ _ H _ I h=>Constant_bool ⟨.bl b,H,I,rfl,h⟩
def NQ {j pos}:PE X (.Constant .none j pos) (tC .non):=λ _ _ _ H _ I h=>Constant_none ⟨.non,H,I,rfl,h⟩
def NY {x j pos}:PE X (.Constant (.str x) j pos) (tC (.str x)):=λ _ _ _ H _ I h=>Calls.Constant_str ⟨.str x,H,I.tok _,⟨_,rfl⟩,h⟩
instance Gl (X:Cx) (x:Str):Prop:=X.env.kindOf x=some .globalImplicit
def rR {E:Γ} {pins:Δ} {s:Shared} {σ:St} {H:Hp} {x:Str} {u:Value} {pos:Pos} {Q:Γ} (I:aR X pins σ H s) (hg:Gl X x) (hm:X.mg x=some u) (h:Q u s)
 (hd:(x==("__debug__" : Str))=false:=by decide):wpAny (model X.prog X.w) X.A (eval (.Name x pos) X.env) Q E s:=
 Calls.Name_function_global I.ok.kind hg (Calls.loadGlobal_global (by rw [I.ok.glob];exact I.mod.glob.keeps I.bk) hm h) hd
def m6 {E:Γ} {pins:Δ} {s:Shared} {σ:St} {H:Hp} {x:Str} {u:Value} {pos:Pos} {Q:Γ} (I:aR X pins σ H s) (hg:Gl X x) (hm:X.mg x=none) (hv:bootBuiltins x=some u) (h:Q u s)
 (hn:x ≠ "__name__" := by decide) (hd:(x==("__debug__" : Str))=false:=by decide):wpAny (model X.prog X.w) X.A (eval (.Name x pos) X.env) Q E s:=by
 obtain ⟨mb,h1,h2⟩:=I.mod.blt;exact Calls.Name_function_global I.ok.kind hg (Calls.loadGlobal_builtin (by rw [I.ok.glob];exact I.mod.glob.keeps I.bk) hm (by rw [I.ok.blt];exact h1.keeps I.bk) ((h2 x hn).trans hv) h) hd
def Ff {x:Str} {v:V} {u:Value} {pos:Pos} (hg:Gl X x) (hm:X.mg x=some u) (r:br v u) (hd:(x==("__debug__" : Str))=false:=by decide):PE X (.Name x pos) (tC v):=
 λ _ _ _ H _ I h=>rR I hg hm ⟨v,H,I,r,h⟩ hd
def lu {x:Str} {v:V} {u:Value} {pos:Pos} (hg:Gl X x) (hm:X.mg x=none) (hv:bootBuiltins x=some u) (r:br v u) (hn:x ≠ "__name__" := by decide) (hd:(x==("__debug__" : Str))=false:=by decide):PE X (.Name x pos) (tC v):=
 λ _ _ _ H _ I h=>m6 I hg hm hv ⟨v,H,I,r,h⟩ hn hd
variable {a b:Expr} {ta tb:TE} {pos:Pos}
instance PC (X:Cx) (op:CmpOp) (a b:Expr) (t:TE):Prop:=
 ∀ (pins:Δ) (s:Shared) (σ:St) (H:Hp) (Q:VK),aR X pins σ H s->t σ H Q->
  wpAny (model X.prog X.w) X.A (eval a X.env) (λ v s₁=>wpAny (model X.prog X.w) X.A (eval b X.env) (λ u s₂=>wpAny (model X.prog X.w) X.A (compareOp op v u) (EP X pins σ Q) X.xe s₂) X.xe s₁) X.xe s
instance tB (t:TE):TT:=λ σ H Q=>t σ H λ x H1=>∃ c,x=.bl c/\Q c H1
def OE {op:CmpOp} {t:TE} (h:PC X op a b t) (h1:behindInMarks op b=false):PE X (.Compare a [op] [b] pos) t:=λ pins s σ H Q I hw=>wpAny_Compare1 (h pins s σ H Q I hw) h1
def OC {op:CmpOp} {t:TE} (h:PC X op a b t) (h1:behindInMarks op b=false):PT X (.Compare a [op] [b] pos) (tB t):=by
 intro pins s σ H Q I hw;refine wpAny_isTrue_Compare1 (cJ (h pins s σ H _ I hw) λ v s1 h1=>cJ h1 λ u s2 h2=>cJ h2 λ c s3 hq0=>?_) h1;obtain ⟨x,H1,I1,r1,q1⟩:=hq0;obtain ⟨d,rfl,q⟩:=q1;cases r1;exact RY ⟨H1,I1,q⟩
def Oy {e:Expr} {t:TE} (h:PE X e t) (he:∀ whole,isTrue e X.env whole=(do let v <-whole;standAt e.pos;holding [v] (truthy v))):PT X e (tB t):=by
 intro pins s σ H Q I hw;refine isTrue_plain (cJ (h pins s σ H _ I hw) λ v s1 hq0=>?_) (he _);obtain ⟨x,H1,I1,r1,q1⟩:=hq0;obtain ⟨d,rfl,q⟩:=q1;cases r1;exact RY ⟨H1,I1,q⟩
variable {tA tB':TT} {aM:List Expr}
instance JK (t u:TT):TT:=λ σ H Q=>t σ H λ c H1=>if c=true then u σ H1 Q else Q false H1
instance OZ (t u:TT):TT:=λ σ H Q=>t σ H λ c H1=>if c=true then Q true H1 else u σ H1 Q
instance Je (t:TT):TT:=λ σ H Q=>t σ H λ c H1=>Q (!c) H1
def Np (ha:PT X a tA):PW X (.BoolOp .And [a] pos) tA:=by
 intro wh pins s σ H Q I h;refine isTrue_and (cJ (ha pins s σ H Q I h) λ c s1 e=>?_);cases c with
 | true=>exact isTrue_and_nil e
 | false=>exact e
def OK (ha:PT X a tA):PW X (.BoolOp .Or [a] pos) tA:=by
 intro wh pins s σ H Q I h;refine isTrue_or (cJ (ha pins s σ H Q I h) λ c s1 e=>?_);cases c with
 | false=>exact isTrue_or_nil e
 | true=>exact e
def OM (ha:PT X a tA) (hb:PW X (.BoolOp .And (b::aM) pos) tB'):PW X (.BoolOp .And (a::b::aM) pos) (JK tA tB'):=by
 intro wh pins s σ H Q I h;refine isTrue_and (cJ (ha pins s σ H _ I h) λ c s1 hq0=>?_);obtain ⟨H1,I1,q1⟩:=hq0;cases c with
 | true=>exact hb wh pins s1 σ H1 Q I1 q1
 | false=>exact ⟨H1,I1,q1⟩
def PU (ha:PT X a tA) (hb:PW X (.BoolOp .Or (b::aM) pos) tB'):PW X (.BoolOp .Or (a::b::aM) pos) (OZ tA tB'):=by
 intro wh pins s σ H Q I h;refine isTrue_or (cJ (ha pins s σ H _ I h) λ c s1 hq0=>?_);obtain ⟨H1,I1,q1⟩:=hq0;cases c with
 | true=>exact ⟨H1,I1,q1⟩
 | false=>exact hb wh pins s1 σ H1 Q I1 q1
def On (ha:PT X a tA):PT X (.UnaryOp .Not a pos) (Je tA):=by
 intro pins s σ H Q I h;exact isTrue_not (ha pins s σ H (λ c H1=>Q (!c) H1) I h)
instance CL (ta tb:TE):TE:=λ σ H Q=>ta σ H λ x H1=>∃ c,x=.bl c/\if c=true then tb σ H1 Q else Q (.bl false) H1
instance Ls (ta tb:TE):TE:=λ σ H Q=>ta σ H λ x H1=>∃ c,x=.bl c/\if c=true then Q (.bl true) H1 else tb σ H1 Q
instance GR (ta:TE):TE:=λ σ H Q=>ta σ H λ x H1=>∃ c,x=.bl c/\Q (.bl (!c)) H1
def Oi {op} {t:TE} (h:PE X a t):PE X (.BoolOp op [a] pos) t:=λ pins s σ H Q I hw=>BoolOp_one (h pins s σ H Q I hw)
def OF (ha:PE X a ta) (hb:PE X (.BoolOp .And (b::aM) pos) tb):PE X (.BoolOp .And (a::b::aM) pos) (CL ta tb):=by
 intro pins s σ H Q I h;refine BoolOp_and (cJ (ha pins s σ H _ I h) λ v s1 hq0=>?_);obtain ⟨x,H1,I1,r1,q1⟩:=hq0;obtain ⟨c,rfl,q1⟩:=q1;cases r1;refine RY ?_;cases c with
 | true=>exact hb pins s1 σ H1 Q I1 q1
 | false=>exact ⟨.bl false,H1,I1,rfl,q1⟩
def Pn (ha:PE X a ta) (hb:PE X (.BoolOp .Or (b::aM) pos) tb):PE X (.BoolOp .Or (a::b::aM) pos) (Ls ta tb):=by
 intro pins s σ H Q I h;refine BoolOp_or (cJ (ha pins s σ H _ I h) λ v s1 hq0=>?_);obtain ⟨x,H1,I1,r1,q1⟩:=hq0;obtain ⟨c,rfl,q1⟩:=q1;cases r1;refine RY ?_;cases c with
 | false=>exact hb pins s1 σ H1 Q I1 q1
 | true=>exact ⟨.bl true,H1,I1,rfl,q1⟩
def OD (ha:PE X a ta):PE X (.UnaryOp .Not a pos) (GR ta):=by
 intro pins s σ H Q I h;refine UnaryOp_ (cJ (ha pins s σ H _ I h) λ v s1 hq0=>?_);obtain ⟨x,H1,I1,r1,q1⟩:=hq0;obtain ⟨c,rfl,q1⟩:=q1;cases r1;exact not_of (RY ⟨.bl (!c),H1,I1,rfl,q1⟩)
instance Pv (t:TT) (ta tb:TE):TE:=λ σ H Q=>t σ H λ c H1=>if c=true then ta σ H1 Q else tb σ H1 Q
def LC {c:Expr} (hc:PT X c tA) (ha:PE X a ta) (hb:PE X b tb):PE X (.IfExp c a b pos) (Pv tA ta tb):=by
 intro pins s σ H Q I h;refine wpAny_IfExp (cJ (hc pins s σ H _ I h) λ d s1 hq0=>?_);obtain ⟨H1,I1,q1⟩:=hq0;cases d with
 | true=>exact ha pins s1 σ H1 Q I1 q1
 | false=>exact hb pins s1 σ H1 Q I1 q1
end
instance cR (K:Frag) (H:Hp) (a:Addr) (xs:List V):Prop:=
 Rd H a (.lst xs)∨
  ∃ (o:Obj) (its:Array Value) (n:Nat),K.lookup a=some o/\o.cls=.type "list" /\ o.dict=none/\o.data=.seq its n/\its.size<=sizeLine/\bn xs its.toList
instance fg (K:Frag) (H:Hp) (a:Addr) (xs:List V):Prop:=
 Rd H a (.tup xs)∨
  ∃ (o:Obj) (its:Array Value) (n:Nat),K.lookup a=some o/\o.cls=.type "tuple" /\ o.data=.seq its n/\its.size<=sizeLine/\bn xs its.toList
instance NT:Value->Option V
 | .none=>some .non
 | .bool b=>some (.bl b)
 | .int i _=>some (.int i)
 | .str x _=>some (.str x)
 | .bytes b _=>some (.byt b)
 | .float b _=>some (.flt b)
 | .ref a=>some (.ref a)
 | .type n=>some (.ty n)
 | _=>none
def br.abs {x:V} {u:Value} (r:br x u):NT u=some x:=by
 cases x with
 | non=>cases r;rfl
 | bl _=>cases r;rfl
 | int _=>obtain ⟨t,rfl⟩:=r;rfl
 | str _=>obtain ⟨t,rfl⟩:=r;rfl
 | byt _=>obtain ⟨t,rfl⟩:=r;rfl
 | flt _=>obtain ⟨t,rfl⟩:=r;rfl
 | ref _=>cases r;rfl
 | ty _=>cases r;rfl
def br.inj {x y:V} {u:Value} (r:br x u) (q:br y u):x=y:=Rv (r.abs.symm.trans q.abs)
def bn.inj {xs ys:List V} {us:Φ} (h:bn xs us) (h':bn ys us):xs=ys:=by
 induction h generalizing ys with
 | nil=>cases h';rfl
 | cons r _ ih=>
  cases h' with
  | cons r' t'=>rw [r.inj r',ih t']
section
variable {X:Cx} {pins:Δ} {σ:St} {H:Hp} {s:Shared} {a:Addr} {xs ys:List V}
def cR.of {K:Frag} (h:H a=some (.lst xs)):cR K H a xs:=.inl (.inl h)
def fg.of {K:Frag} (h:H a=some (.tup xs)):fg K H a xs:=.inl (.inl h)
def aR.list (I:aR X pins σ H s) (h:cR X.K H a xs):∃ its:Φ,bn xs its/\PlainL s.heap a its.toArray/\xs.length<=sizeLine:=by
 rcases h with h | ⟨o,its,n,hk,hc,hd,hs,hz,r⟩
 . obtain ⟨z,its,n,r,e⟩:=h.ok I.hok;exact ⟨its,r,⟨_,n,e,rfl,rfl,rfl⟩,z⟩
 . refine ⟨its.toList,r,⟨o,n,I.kIn a o hk,hc,hd,by simpa using hs⟩,?_⟩;have e:=r.length;simp only [R6] at e;omega
def aR.tuple (I:aR X pins σ H s) (h:fg X.K H a xs):∃ its:Φ,bn xs its/\IsTup s.heap a its.toArray/\xs.length<=sizeLine:=by
 rcases h with h | ⟨o,its,n,hk,hc,hs,hz,r⟩
 . obtain ⟨z,its,r,p⟩:=h.ok I.hok;exact ⟨its,r,p,z⟩
 . refine ⟨its.toList,r,⟨o,I.kIn a o hk,hc,n,by simpa using hs⟩,?_⟩;have e:=r.length;simp only [R6] at e;omega
def aR.list_inj (I:aR X pins σ H s) (h:cR X.K H a xs) (h':cR X.K H a ys):xs=ys:=by
 obtain ⟨its,r,⟨o,n,e,_,_,d⟩,_⟩:=I.list h;obtain ⟨its',r',⟨o',n',e',_,_,d'⟩,_⟩:=I.list h';rw [e] at e';cases e';rw [d] at d';injection d' with d1 _
 have:its=its':=by simpa using Q9 Array.toList d1
 subst this;exact r.inj r'
def aR.tuple_inj (I:aR X pins σ H s) (h:fg X.K H a xs) (h':fg X.K H a ys):xs=ys:=by
 obtain ⟨its,r,⟨o,e,_,n,d⟩,_⟩:=I.tuple h;obtain ⟨its',r',⟨o',e',_,n',d'⟩,_⟩:=I.tuple h';rw [e] at e';cases e';rw [d] at d';injection d' with d1 _
 have:its=its':=by simpa using Q9 Array.toList d1
 subst this;exact r.inj r'
end
noncomputable abbrev Cx.wish (X:Cx) (E:Γ):Cx:={ X with xe:=E }
noncomputable abbrev Cx.nox (X:Cx):Cx:=X.wish λ _ _=>False
def Cx.Ok.wish {X:Cx} (ok:X.Ok) (E:Γ):(X.wish E).Ok:=
 ⟨ok.mod,ok.kind,ok.glob,ok.blt,ok.above,ok.inj,ok.has,ok.cab,ok.hd,ok.frames,ok.stk,ok.exf,ok.bs,ok.bsz,ok.noex,ok.exfs,ok.funs,ok.frf⟩
def Cx.Ok.unwish {X:Cx} {E:Γ} (ok:(X.wish E).Ok):X.Ok:=
 ⟨ok.mod,ok.kind,ok.glob,ok.blt,ok.above,ok.inj,ok.has,ok.cab,ok.hd,ok.frames,ok.stk,ok.exf,ok.bs,ok.bsz,ok.noex,ok.exfs,ok.funs,ok.frf⟩
section
variable {X:Cx} {pins:Δ} {σ:St} {H:Hp} {s:Shared} {E:Γ}
def aR.wish (I:aR X pins σ H s) (E:Γ):aR (X.wish E) pins σ H s:=⟨I.ok.wish E,I.os,I.bare,I.base,I.loc,I.cell,I.free,I.freeC,I.pin,I.hok,I.len⟩
def aR.unwish (I:aR (X.wish E) pins σ H s):aR X pins σ H s:=⟨I.ok.unwish,I.os,I.bare,I.base,I.loc,I.cell,I.free,I.freeC,I.pin,I.hok,I.len⟩
def SP.unwish {D:jg} {f:Flow} {s':Shared} (h:SP (X.wish E) pins D f s'):SP X pins D f s':=by
 cases f with
 | next=>obtain ⟨σ',H',I,q⟩:=h;exact ⟨σ',H',I.unwish,q⟩
 | brk=>obtain ⟨σ',H',I,q⟩:=h;exact ⟨σ',H',I.unwish,q⟩
 | cont=>obtain ⟨σ',H',I,q⟩:=h;exact ⟨σ',H',I.unwish,q⟩
 | ret u=>obtain ⟨v,σ',H',I,r,q⟩:=h;exact ⟨v,σ',H',I.unwish,r,q⟩
def vJ.nox {st:List Stmt} {t:TS} (h:vJ X.nox st t):vJ X st t:=λ pins s σ H D I hw=>
 Sk (h pins s σ H D (I.wish _) hw) (λ _ _ q=>q.unwish) λ _ _ z=>False.elim z
end
section
variable {X:Cx} {st:Stmt} {aM:List Stmt} {t u:TS} {e:Expr} {te:TE} {pos:Pos}
instance GJ:TS:=λ D σ H=>D.nx σ H
instance Jf (t u:TS):TS:=λ D σ H=>t { D with nx:=u D } σ H
def Ni:vJ X [] GJ:=λ _ _ σ H _ I h=>wpAny_execs_nil ⟨σ,H,I,h⟩
def LG (h1:PS X st t) (h2:vJ X aM u):vJ X (st::aM) (Jf t u):=by
 intro pins s σ H D I h;refine wpAny_execs_cons (cJ (h1 pins s σ H { D with nx:=u D } I h) λ f s1 q=>?_);cases f with
 | next=>
  obtain ⟨σ',H',I',q⟩:=q;exact h2 pins s1 σ' H' D I' q
 | ret v=>exact q
 | brk=>exact q
 | cont=>exact q
def No (h1:PS X st t):vJ X [st] t:=by
 intro pins s σ H D I h;refine wpAny_execs_cons (cJ (h1 pins s σ H D I h) λ f s1 q=>?_);cases f with
 | next=>exact wpAny_execs_nil q
 | ret v=>exact q
 | brk=>exact q
 | cont=>exact q
instance GB:TS:=λ D σ H=>D.ct σ H
def FV:PS X (.Continue pos) GB:=λ _ _ σ H _ I h=>wpAny_Continue ⟨σ,H,I,h⟩
def aR.quiet {pins:Δ} {σ:St} {H:Hp} {s:Shared} (I:aR X pins σ H s):interactive X.env=false:=by simp [interactive,I.ok.kind]
instance vA (te:TE):TS:=λ D σ H=>te σ H λ _ H1=>D.nx σ H1
def Ng (he:PE X e te) (hs:swapsWith e none pos.line X.env=pure false):PS X (.Expr e pos) (vA te):=by
 intro pins s σ H D I h;exact wpAny_Expr_any (cJ (he pins s σ H _ I h) λ v s1 hy0=>by obtain ⟨x,H1,I1,r1,q1⟩:=hy0;exact ⟨σ,H1,I1,q1⟩) I.quiet hs
instance IY (te:TE):TS:=λ D σ H=>te σ H D.rt
def Os (he:PE X e te):PS X (.Return (some e) pos) (IY te):=by
 intro pins s σ H D I h;exact wpAny_Return_some (cJ (he pins s σ H _ I h) λ v s1 hy0=>by obtain ⟨x,H1,I1,r1,q1⟩:=hy0;exact ⟨x,σ,H1,I1,r1,q1⟩)
instance Ik (c:TT) (t u:TS):TS:=λ D σ H=>c σ H λ b H1=>if b=true then t D σ H1 else u D σ H1
def Pe {c:Expr} {a b:List Stmt} {tc:TT} (hc:PT X c tc) (ha:vJ X a t) (hb:vJ X b u):PS X (.If c a b pos) (Ik tc t u):=by
 intro pins s σ H D I h;refine wpAny_If (cJ (hc pins s σ H _ I h) λ d s1 hq0=>?_);obtain ⟨H1,I1,q1⟩:=hq0;cases d with
 | true=>exact ha pins s1 σ H1 D I1 q1
 | false=>exact hb pins s1 σ H1 D I1 q1
end
noncomputable abbrev TG:=V->St->Hp->(St->Hp->Prop)->Prop
noncomputable abbrev Ax:=List V->St->Hp->(St->Hp->Prop)->Prop
instance PG (X:Cx) (target:Expr) (t:TG):Prop:=
 ∀ (pins:Δ) (s:Shared) (σ:St) (H:Hp) (v:V) (u:Value) (Q:St->Hp->Prop),aR X pins σ H s->br v u->t v σ H Q->
  wpAny (model X.prog X.w) X.A (assign target X.env u) (λ _ s'=>∃ σ' H',aR X pins σ' H' s'/\Q σ' H') X.xe s
instance Ka (X:Cx) (ts:List Expr) (t:Ax):Prop:=
 ∀ (pins:Δ) (s:Shared) (σ:St) (H:Hp) (vs:List V) (us:Φ) (Q:St->Hp->Prop),aR X pins σ H s->bn vs us->t vs σ H Q->
  wpAny (model X.prog X.w) X.A (assignInOrder ((assignEach ts X.env).map (·.2)) us) (λ _ s'=>∃ σ' H',aR X pins σ' H' s'/\Q σ' H') X.xe s
noncomputable abbrev IT:=V->V->V->Hp->(Hp->Prop)->Prop
instance Kr (X:Cx) (t:IT):Prop:=
 ∀ (pins:Δ) (s:Shared) (σ:St) (H:Hp) (o i v:V) (ov iv u:Value) (Q:Hp->Prop),aR X pins σ H s->br o ov->br i iv->br v u->t o i v H Q->
  wpAny (model X.prog X.w) X.A (setItem ov iv u) (λ _ s'=>∃ H',aR X pins σ H' s'/\Q H') X.xe s
section
variable {X:Cx} {pos:Pos}
instance n8 (i:Nat):TG:=λ v σ H Q=>Q (σ.set i (some v)) H
def N3 {i:Nat} {x:Str} (hN:X.N.Nodup) (hi:X.N[i]?=some x) (hx:Ja X.env.scope x) (hf:X.fn x=true∨X.env.scope.names.lookup x=some .local):PG X (.Name x pos) (n8 i):=by
 intro pins s σ H v u Q I r h;exact wpAny_assign_Name (ui I hN hi hx r (λ s' I'=>⟨_,H,I',h⟩) hf)
instance L3:Ax:=λ vs σ H Q=>vs=[]/\Q σ H
instance Gn (t:TG) (u:Ax):Ax:=λ vs σ H Q=>∃ v r,vs=v::r/\t v σ H λ σ' H'=>u r σ' H' Q
def Nn:Ka X [] L3:=by
 intro pins s σ H vs us Q I r h;obtain ⟨e,h⟩:=h;subst e;cases r;exact assignInOrder_nil ⟨σ,H,I,h⟩
def Le {e:Expr} {es:List Expr} {t:TG} {u:Ax} (h1:PG X e t) (h2:Ka X es u)
 (hs:(assignEach (e::es) X.env).map (·.2)=assign e X.env::(assignEach es X.env).map (·.2)):Ka X (e::es) (Gn t u):=by
 intro pins s σ H vs us Q I r h;obtain ⟨v,vr,e1,h⟩:=h;subst e1;cases r with
 | cons r rr=>
  rw [hs];refine assignInOrder_cons (cJ (h1 pins s σ H _ _ _ I r h) λ _ s1 hq0=>?_);obtain ⟨σ1,H1,I1,q1⟩:=hq0;exact h2 pins s1 σ1 H1 _ _ Q I1 rr q1
instance HM (K:Frag) (n:Nat) (t:Ax):TG:=λ v σ H Q=>∃ a xs,v=.ref a/\fg K H a xs/\xs.length=n/\t xs σ H Q
def Jk {es:List Expr} {k:Nat} {t:Ax} {n:Nat} (hc:X.calm=true) (h:Ka X es t)
 (hn:(assignEach es X.env).length=n:=by rfl) (hst:(assignEach es X.env).findIdx? (·.1)=none:=by rfl):PG X (.Tuple es k pos) (HM X.K n t):=by
 intro pins s σ H v u Q I r hw;obtain ⟨a,xs,e1,hq,hl,hw⟩:=hw;subst e1;cases r;obtain ⟨its,rv,ht,hz⟩:=I.tuple hq;refine assign_Tuple_tuple (I.ok.hd hc) ht (by simp [hn,<-hl,rv.length]) hst λ h' hx=>?_;have I1:aR X pins σ H { s with heap:=h' }:=I.kept (t':=s.toks) λ b o e=>hx b o (Ro (Q8 e)) e;exact h pins _ σ H xs _ Q I1 (by simpa using rv) hw
instance DU (to ti:TE) (t:IT):TG:=λ v σ H Q=>to σ H λ o H1=>ti σ H1 λ i H2=>t o i v H2 λ H3=>Q σ H3
def Ho {o i:Expr} {to ti:TE} {t:IT} (ho:PE X o to) (hi:PE X i ti) (hs:Kr X t)
 (ha:∀ v,assign (.Subscript o i pos) X.env v=(do
  let ov <-holding [v] (eval o X.env);let iv <-holding [v,ov] (eval i X.env)
  standAt pos
  holding [v,ov,iv] (setItem ov iv v)
  release [v,ov,iv] []):=by intro _;rfl):PG X (.Subscript o i pos) (DU to ti t):=by
 intro pins s σ H v u Q I r h;rw [ha];refine QA (RH (cJ (ho pins s σ H _ I h) λ ov s1 hq0=>?_));obtain ⟨x,H1,I1,r1,q1⟩:=hq0;refine QA (RH (cJ (hi pins s1 σ H1 _ I1 q1) λ iv s2 hq0=>?_));obtain ⟨y,H2,I2,r2,q2⟩:=hq0;refine QA (wpAny_standAt (QA (RH (cJ (hs pins s2 σ H2 x y v ov iv u _ I2 r1 r2 r q2) λ _ s3 hq0=>?_))));obtain ⟨H3,I3,q3⟩:=hq0;exact wpAny_release ⟨σ,H3,I3,q3⟩
instance pU (te:TE) (g:TG):TS:=λ D σ H=>te σ H λ x H1=>g x σ H1 D.nx
def Hu {tg e:Expr} {te:TE} {g:TG} (he:PE X e te) (hg:PG X tg g) (hs:swapsWithSole [tg] e pos.line X.env=pure false:=by rfl) (hw:swappedStores [tg] e X.env=pure none:=by rfl)
 (h1:(assignEach [tg] X.env).map (·.2)=[assign tg X.env]:=by rfl):PS X (.Assign [tg] e pos) (pU te g):=by
 intro pins s σ H D I h;refine wpAny_Assign_stores (cJ (he pins s σ H _ I h) λ v s1 hq0=>?_) hs hw;obtain ⟨x,H1,I1,r1,q1⟩:=hq0;rw [h1];exact cJ (hg pins s1 σ H1 x v _ I1 r1 q1) λ _ s2 q=>q
def Ol {i:Nat} {x:Str} {e:Expr} {te:TE} {pos':Pos} (hN:X.N.Nodup) (hi:X.N[i]?=some x) (hx:Ja X.env.scope x) (he:PE X e te) (hs:swapsWith e (some (.Name x pos')) pos.line X.env=pure false) (hf:X.fn x=true∨X.env.scope.names.lookup x=some .local):
 PS X (.Assign [.Name x pos'] e pos) (pU te (n8 i)):=by
 intro pins s σ H D I h;refine wpAny_Assign_Name (cJ (he pins s σ H _ I h) λ v s1 hq0=>?_) hs;obtain ⟨y,H1,I1,r1,q1⟩:=hq0;exact ui I1 hN hi hx r1 (λ s2 I2=>⟨_,H1,I2,q1⟩) hf
end
section
variable {X:Cx} {pos:Pos}
instance A0 (c:TT) (tb:TS):TS:=λ D σ H=>∃ W:Nat->St->Hp->Prop,(∃ m,W m σ H)/\∀ m σ H,W m σ H->
 c σ H λ b H1=>if b=true then ∃ N:St->Hp->Prop,(∀ σ' H',N σ' H'->∃ m',m'<m/\W m' σ' H')/\tb { D with nx:=N,ct:=N,bk:=D.nx } σ H1 else D.nx σ H1
def LS {c:Expr} {body:List Stmt} {tc:TT} {tb:TS} (hp:PassesOwn (model X.prog X.w) X.A X.env X.xe) (hc:PT X c tc) (hb:vJ X body tb):PS X (.While c body [] pos) (A0 tc tb):=by
 intro pins s σ H D I h;obtain ⟨W,⟨m0,w0⟩,turn⟩:=h;refine wpAny_While (codeAny_whileLoop (λ n s'=>∃ σ' H',aR X pins σ' H' s'/\W n σ' H') ?_ m0 ⟨σ,H,I,w0⟩);rintro n s1 ⟨σ1,H1,I1,w1⟩;refine Sw hp (cJ (hc pins s1 σ1 H1 _ I1 (turn n σ1 H1 w1)) λ b s2 hq0=>?_);obtain ⟨H2,I2,q2⟩:=hq0;cases b with
 | true=>
  obtain ⟨N,hN,q2⟩:=q2;rw [QF rfl];refine Sw hp (cJ (hb pins s2 σ1 H2 _ I2 q2) λ f s3 q3=>?_);cases f with
  | next=>
   obtain ⟨σ3,H3,I3,n3⟩:=q3;obtain ⟨m',hm,w3⟩:=hN σ3 H3 n3;exact ⟨m',hm,σ3,H3,I3,w3⟩
  | cont=>
   obtain ⟨σ3,H3,I3,n3⟩:=q3;obtain ⟨m',hm,w3⟩:=hN σ3 H3 n3;exact ⟨m',hm,σ3,H3,I3,w3⟩
  | brk=>exact q3
  | ret v=>exact q3
 | false=>
  rw [QS QU];exact wpAny_execs_nil ⟨σ1,H2,I2,q2⟩
end
structure It where
 go:Nat->Hp->Prop
 yld:Nat->Hp->V->Hp->Prop
 stop:Nat->Hp->Prop
instance kB (X:Cx) (pins:Δ) (H:Hp) (b:Addr):Prop:=
 H b=none/\b≠X.env.locals/\b∉X.fs/\(b∈X.ex∨X.s₀.heap.objs.size<=b)/\(∀ x c,X.env.cells.lookup x=some c->c≠b)/\∀ p∈X.pn++pins,p.1≠b
def aR.fpOk {X:Cx} {pins:Δ} {σ:St} {H H':Hp} {s:Shared} {b:Addr} (I:aR X pins σ H s) (hb:s.heap.objs.size<=b) (hn:H' b=none):kB X pins H' b:=by
 refine ⟨hn,Nat.ne_of_gt (QZ I.lt hb),I.nofs hb,.inr (Rh I.sz hb),λ x c e z=>?_,λ p hp z=>?_⟩
 . obtain ⟨v,q⟩:=I.cell x c e;exact absurd (QZ q.lt (by rw [z];exact hb)) (RX _)
 . exact absurd (QZ (Q8 (I.pin p hp).1) (by rw [z];exact hb)) (RX _)
structure wI (P:Program) (w:World) (K:Frag) (tg:Expr) (J:It) (fp:Ξ) (it:Addr) (tn:Nat->Heap->Prop):Prop where
 mem:it∈fp
 obj:∀ i h,tn i h->∀ b∈fp,∃ o,h.get? b=some o/\∀ v,o.data≠.cell v
 keep:∀ i h h',tn i h->(∀ b∈fp,∀ o,h.get? b=some o->h'.get? b=some o)->tn i h'
 item:∀ (X:Cx),X.prog=P->X.w=w->X.K=K->X.calm=true->∀ (i:Nat) (pins:Δ) (s:Shared) (σ:St) (H:Hp) (E:Γ),aR X pins σ H s->(∀ b∈fp,kB X pins H b)->tn i s.heap->J.go i H->
  wpAny (model P w) X.A (pyNext (.ref it)) (λ r s1=>∃ u,r=some u/\
   wpAny (model P w) X.A (letOwnedTupleGo tg (.ref it) u) (λ _ s2=>∃ x H',aR X pins σ H' s2/\br x u/\J.yld i H x H'/\tn (i+1) s2.heap/\∀ b∈fp,H' b=none) E s1) E s
 done:∀ (X:Cx),X.prog=P->X.w=w->X.K=K->X.calm=true->∀ (i:Nat) (pins:Δ) (s:Shared) (σ:St) (H:Hp) (E:Γ),aR X pins σ H s->(∀ b∈fp,kB X pins H b)->tn i s.heap->J.stop i H->
  wpAny (model P w) X.A (pyNext (.ref it)) (λ r s1=>r=none/\aR X pins σ H s1) E s
 self:∀ (A:Around) (i:Nat) (s:Shared) (Q:Γ) (E:Γ),tn i s.heap->Q (.ref it) s->wpAny (model P w) A (pyIter (.ref it)) Q E s
noncomputable abbrev TI:=St->Hp->(It->Hp->Prop)->Prop
instance Oc (X:Cx) (pins:Δ) (σ:St) (tg:Expr) (R:It->Hp->Prop) (itv:Value) (s2:Shared):Prop:=
 ∃ (it:Addr) (fp:Ξ) (tn:Nat->Heap->Prop) (J:It) (H':Hp),itv=.ref it/\aR X pins σ H' s2/\wI X.prog X.w X.K tg J fp it tn/\tn 0 s2.heap/\(∀ b∈fp,kB X pins H' b)/\R J H'
instance PI (X:Cx) (tg iter:Expr) (wi:TI):Prop:=
 ∀ (pins:Δ) (s:Shared) (σ:St) (H:Hp) (R:It->Hp->Prop),aR X pins σ H s->wi σ H R->
  wpAny (model X.prog X.w) X.A (eval iter X.env) (λ v s1=>wpAny (model X.prog X.w) X.A (pyIter v) (Oc X pins σ tg R) X.xe s1) X.xe s
def yo {M:Model} {A:Around} {E:Γ} {s:Shared} {tg:Expr} {it:Addr} {u:Value} {o:Obj} {n:String} {vs:Array Value} {Q:Unit->Shared->Prop} (ho:s.heap.get? it=some o) (hc:o.cls=.type n) (hd:o.data=.fields vs)
 (hn:["enumerate", "zip", "dict_itemiterator", "dict_reverseitemiterator", "odict_iterator", "itertools.zip_longest", "itertools.pairwise"].contains n=false) (hQ:Q () s):wpAny M A (letOwnedTupleGo tg (.ref it) u) Q E s:=by
 unfold letOwnedTupleGo;cases tg <;> first
  | exact QN hQ
  | (cases u <;> first
   | exact QN hQ
   | (refine QA (wpAny_load ho ?_)
      rw [hc,hd];show wpAny M A (if (["enumerate", "zip", "dict_itemiterator", "dict_reverseitemiterator", "odict_iterator", "itertools.zip_longest", "itertools.pairwise"].contains n&&vs[0]?==some (rawInt _))=true then _ else _) Q E s;rw [QS (by intro h;rw [hn,Bool.false_and] at h;cases h)];exact QN hQ))
instance Oe (K:Frag) (a:Addr):It:=
 ⟨λ i H=>∃ xs x,cR K H a xs/\xs[i]?=some x,λ i H x H'=>H'=H/\∀ xs,cR K H a xs->xs[i]?=some x,λ i H=>∃ xs,cR K H a xs/\xs.length<=i⟩
instance NM (K:Frag) (a:Addr):It:=
 ⟨λ i H=>∃ xs x,fg K H a xs/\xs[i]?=some x,λ i H x H'=>H'=H/\∀ xs,fg K H a xs->xs[i]?=some x,λ i H=>∃ xs,fg K H a xs/\xs.length<=i⟩
instance N4 (lo:Int) (n:Nat):It:=⟨λ i _=>i<n,λ i H x H'=>H'=H/\x=.int (lo+i),λ i _=>n<=i⟩
def z7 {P:Program} {w:World} {K:Frag} {tg:Expr} (a it:Addr):wI P w K tg (Oe K a) [it] it (λ i h=>h.IsListIter it a i) where
 mem:=by simp
 obj:=λ i h st b hb=>by
  have e:b=it:=by simpa using hb
  subst e;obtain ⟨o,e,c,d⟩:=st;exact ⟨o,e,λ v z=>by rw [d] at z;cases z⟩
 keep:=λ i h h' st k=>st.at λ o e=>k it (by simp) o e
 item:=by
  intro X hP hw hK hc i pins s σ H E I hf st hg;subst hP hw hK;obtain ⟨xs,x,hq,hx⟩:=hg;obtain ⟨its,rv,p,hz⟩:=I.list hq;obtain ⟨u,hu,ru⟩:=rv.get hx;obtain ⟨f0,f1,f2,f3,f4,f5⟩:=hf it (by simp);refine wpAny_pyNext_list_item st p.isList (x:=u) (by simpa using hu) λ h' st' sb=>?_;have I1:aR X pins σ H { s with heap:=h' }:=I.turned (t':=s.toks) (λ b o hb e=>(sb.2 b hb).trans e) f0 f1 f3 f4 f5;obtain ⟨o,e,c,d⟩:=id st';exact ⟨u,rfl,yo (s:={ s with heap:=h' }) e c d (by decide) ⟨x,H,I1,ru,⟨rfl,λ ys hy=>by rw [I.list_inj hy hq];exact hx⟩,st',λ b hb=>(hf b hb).1⟩⟩
 done:=by
  intro X hP hw hK hc i pins s σ H E I hf st hg;subst hP hw hK;obtain ⟨xs,hq,hx⟩:=hg;obtain ⟨its,rv,p,hz⟩:=I.list hq;obtain ⟨f0,f1,f2,f3,f4,f5⟩:=hf it (by simp);have hl:=rv.length;exact wpAny_pyNext_list_end (I.ok.hd hc) st p.isList (by simp;omega) λ h' eb=>⟨rfl,I.turned (t':=s.toks) (λ b o hb e=>eb b o hb e) f0 f1 f3 f4 f5⟩
 self:=λ _ _ _ _ _ st h=>wpAny_pyIter_listiter st h
def vZ {P:Program} {w:World} {K:Frag} {tg:Expr} (a it:Addr):wI P w K tg (NM K a) [it] it (λ i h=>h.IsTupleIter it a i) where
 mem:=by simp
 obj:=λ i h st b hb=>by
  have e:b=it:=by simpa using hb
  subst e;obtain ⟨o,e,c,d⟩:=st;exact ⟨o,e,λ v z=>by rw [d] at z;cases z⟩
 keep:=λ i h h' st k=>st.at λ o e=>k it (by simp) o e
 item:=by
  intro X hP hw hK hc i pins s σ H E I hf st hg;subst hP hw hK;obtain ⟨xs,x,hq,hx⟩:=hg;obtain ⟨its,rv,p,hz⟩:=I.tuple hq;obtain ⟨u,hu,ru⟩:=rv.get hx;obtain ⟨f0,f1,f2,f3,f4,f5⟩:=hf it (by simp);refine wpAny_pyNext_tuple_item st (show s.heap.IsTuple a its.toArray from p) (x:=u) (by simpa using hu) λ h' st' sb=>?_;have I1:aR X pins σ H { s with heap:=h' }:=I.turned (t':=s.toks) (λ b o hb e=>(sb.2 b hb).trans e) f0 f1 f3 f4 f5;obtain ⟨o,e,c,d⟩:=id st';exact ⟨u,rfl,yo (s:={ s with heap:=h' }) e c d (by decide) ⟨x,H,I1,ru,⟨rfl,λ ys hy=>by rw [I.tuple_inj hy hq];exact hx⟩,st',λ b hb=>(hf b hb).1⟩⟩
 done:=by
  intro X hP hw hK hc i pins s σ H E I hf st hg;subst hP hw hK;obtain ⟨xs,hq,hx⟩:=hg;obtain ⟨its,rv,p,hz⟩:=I.tuple hq;obtain ⟨f0,f1,f2,f3,f4,f5⟩:=hf it (by simp);have hl:=rv.length;exact wpAny_pyNext_tuple_end (I.ok.hd hc) st (show s.heap.IsTuple a its.toArray from p) (by simp;omega) λ h' eb=>⟨rfl,I.turned (t':=s.toks) (λ b o hb e=>eb b o hb e) f0 f1 f3 f4 f5⟩
 self:=λ _ _ _ _ _ st h=>wpAny_pyIter_tupleiter st h
def wA {P:Program} {w:World} {K:Frag} {tg:Expr} (it:Addr) (lo:Int) (n:Nat):wI P w K tg (N4 lo n) [it] it (λ i h=>IsRangeIter h it (lo+(i:Nat)*1) ((n:Int)-(i:Nat)) 1) where
 mem:=by simp
 obj:=λ i h st b hb=>by
  have e:b=it:=by simpa using hb
  subst e;exact ⟨_,st,λ v z=>by
   have z':Data.fields _=Data.cell v:=z;cases z'⟩
 keep:=λ i h h' st k=>k it (by simp) _ st
 item:=by
  intro X hP hw hK hc i pins s σ H E I hf st hg;subst hP hw hK;obtain ⟨f0,f1,f2,f3,f4,f5⟩:=hf it (by simp);have W:=Walks.range (prog:=X.prog) (w:=X.w) (I.ok.hd hc) it lo 1 n;refine W.item i s _ _ hg st λ v h' tk hv st' kk=>?_;obtain ⟨t,rfl⟩:=hv;have I1:aR X pins σ H { s with heap:=h',toks:=tk }:=I.turned (λ b o hb e=>kk b o (by simpa using hb) e) f0 f1 f3 f4 f5;refine ⟨_,rfl,yo (s:={ s with heap:=h',toks:=tk }) (n := "range_iterator") st' rfl rfl (by decide) ⟨.int (lo+i),H,I1,⟨t,?_⟩,⟨rfl,rfl⟩,st',λ b hb=>(hf b hb).1⟩⟩;rw [Int.mul_one]
 done:=by
  intro X hP hw hK hc i pins s σ H E I hf st hg;subst hP hw hK;obtain ⟨f0,f1,f2,f3,f4,f5⟩:=hf it (by simp);exact wpAny_pyNext_range_end (I.ok.hd hc) st (by have:n<=i:=hg;omega) λ h' eb=>⟨rfl,I.turned (t':=s.toks) (λ b o hb e=>eb b o hb e) f0 f1 f3 f4 f5⟩
 self:=λ _ _ _ _ _ st h=>wpAny_pyIter_rangeiter st h
section
variable {X:Cx} {tg:Expr}
def Ck {pins:Δ} {σ:St} {H:Hp} {s:Shared} {R:It->Hp->Prop} {E:Γ} {lo hi:Int} {t u v:Tok} {tk:Nat} (I:aR X pins σ H s) (h1 : -(2^62)<=lo) (h2:lo<2^62) (h3 : -(2^62)<=hi) (h4:hi<2^62)
 (q:R (N4 lo (hi-lo).toNat) H):wpAny (model X.prog X.w) X.A (pyIter (.ref s.heap.objs.size)) (Oc X pins σ tg R) E { s with heap:=s.heap.push { cls:=.type "range", data:=.fields #[.int lo t,.int hi u,.int 1 v] },toks:=tk }:=by
 refine wpAny_pyIter_range (IsRange.new ..) (small_one h1 h2 h3 h4) ?_;have I1:aR X pins σ H { s with heap:=s.heap.push { cls:=.type "range", data:=.fields #[.int lo t,.int hi u,.int 1 v] },toks:=tk }:=I.kept λ b o e=>QX _ e;refine ⟨(s.heap.push { cls:=.type "range", data:=.fields #[.int lo t,.int hi u,.int 1 v] }).objs.size,[(s.heap.push { cls:=.type "range", data:=.fields #[.int lo t,.int hi u,.int 1 v] }).objs.size],_,_,H,rfl,
  I1.kept (t':=tk) λ b o e=>QX _ e,wA _ lo (hi-lo).toNat,?_,λ b hb=>?_,q⟩
 . have e1:lo+((0:Nat):Int)*1=lo:=by simp
   have e2:(((hi-lo).toNat:Nat):Int)-((0:Nat):Int)=Builtin.Range.rangeSize lo hi 1:=by rw [rangeSize_one];split <;> omega
   show IsRangeIter _ _ (lo+((0:Nat):Int)*1) ((((hi-lo).toNat:Nat):Int)-((0:Nat):Int)) 1;rw [e1,e2];exact Rg _ rfl
 . have e:b=(s.heap.push { cls:=.type "range", data:=.fields #[.int lo t,.int hi u,.int 1 v] }).objs.size:=by simpa using hb
   subst e;exact I1.fpOk (QH _) (I1.hok.fresh (QH _))
instance AZ (ta:TA):TI:=λ σ H R=>ta σ H λ vs H1=>∃ j:Int,vs=[.int j] /\ -(2^62)<=j/\j<2^62/\R (N4 0 j.toNat) H1
def Km {a:Expr} {ta:TA} {p pos:Pos} (hg:Gl X "range") (hm:X.mg "range" = none) (ha:PA X [a] ta) (hs:starEach [a] X.env=[(false,eval a X.env)]):PI X tg (.Call (.Name "range" p) [a] [] pos) (AZ ta):=by
 intro pins s σ H R I h;refine Call_ (m6 I hg hm boot_range (Sn (cJ (ha pos pins s σ H _ I h) λ us s1 hq0=>?_) hs rfl));obtain ⟨vs,H1,I1,r1,q1⟩:=hq0;obtain ⟨j,e,q1,q2,q⟩:=q1;subst e;cases r1 with
 | cons r rr=>
  cases rr;obtain ⟨t,rfl⟩:=r;exact call_range_1 (Ck I1 (by omega) (by omega) q1 q2 (by simpa using q))
instance Eg (wi:TI) (g:TG) (tb:TS):TS:=λ D σ H=>wi σ H λ J H1=>∃ W:Nat->Nat->St->Hp->Prop,(∃ m,W 0 m σ H1)/\∀ i m σ H,W i m σ H->
 (J.stop i H/\D.nx σ H)∨(J.go i H/\∃ N:St->Hp->Prop,(∀ σ' H',N σ' H'->∃ m',m'<m/\W (i+1) m' σ' H')/\∀ x H',J.yld i H x H'->g x σ H' λ σ2 H2=>tb { D with nx:=N,ct:=N,bk:=D.nx } σ2 H2)
instance mC (fp:Ξ) (h:Heap):List (Addr×Obj):=fp.filterMap λ b=>(h.get? b).map λ o=>(b,o)
def iK {fp:Ξ} {h:Heap} {b:Addr} {o:Obj} (hb:b∈fp) (e:h.get? b=some o):(b,o)∈mC fp h:=Sr.mpr ⟨b,hb,by rw [e];rfl⟩
def zq {fp:Ξ} {h:Heap} {p:Addr×Obj} (hp:p∈mC fp h):p.1∈fp/\h.get? p.1=some p.2:=by
 obtain ⟨b,hb,e⟩:=Sr.mp hp;cases q:h.get? b with
 | none=>rw [q] at e;cases e
 | some o=>
  rw [q] at e;have e':(b,o)=p:=Rv e;subst e';exact ⟨hb,q⟩
def aR.pinned {pins:Δ} {σ:St} {H:Hp} {s:Shared} {fp:Ξ} (I:aR X pins σ H s) (hf:∀ b∈fp,kB X pins H b) (ho:∀ b∈fp,∃ o,s.heap.get? b=some o/\∀ v,o.data≠.cell v):aR X (pins++mC fp s.heap) σ H s:=
 I.pins_of λ p hp=>(QK.mp hp).elim (λ z=>I.pin p (Rt _ z)) λ z=>by
  obtain ⟨hb,e⟩:=zq z;obtain ⟨f0,f1,f2,_⟩:=hf p.1 hb;obtain ⟨o,e',d⟩:=ho p.1 hb;rw [e] at e';cases e';exact ⟨e,f0,f1,f2,d⟩
def aR.unpinned {pins pl:Δ} {σ:St} {H:Hp} {s:Shared} (I:aR X (pins++pl) σ H s):aR X pins σ H s:=I.pins_of λ p hp=>I.pin p (Rt _ (List.mem_append_left _ hp))
def NS {iter:Expr} {body:List Stmt} {wi:TI} {g:TG} {tb:TS} {pos:Pos} (hp:PassesOwn (model X.prog X.w) X.A X.env X.xe) (hc:X.calm=true) (hi:PI X tg iter wi) (hg:PG X tg g) (hb:vJ X body tb)
 (hs:∀ x,foldedSetIterable iter X.env x=pure x):PS X (.For tg iter body [] pos) (Eg wi g tb):=by
 intro pins s σ H D I h;refine wpAny_For (cJ (hi pins s σ H _ I h) λ v s1 h1=>cJ h1 λ itv s2 h2=>?_) hs;obtain ⟨it,fp,tn,J,H2,e,I2,T,st2,f2,W,⟨m0,w0⟩,turn⟩:=h2;subst e;have stat:∀ {H':Hp},(∀ b∈fp,H' b=none)->∀ b∈fp,kB X pins H' b:=λ hn b hb=>⟨hn b hb,(f2 b hb).2⟩
 refine codeAny_forLoop_any (λ n s'=>∃ i σ' H',aR X pins σ' H' s'/\tn i s'.heap/\(∀ b∈fp,H' b=none)/\W i n σ' H') ?_ m0 ⟨0,σ,H2,I2,st2,λ b hb=>(f2 b hb).1,w0⟩;rintro n s3 ⟨i,σ3,H3,I3,st3,fr3,w3⟩;rcases turn i n σ3 H3 w3 with ⟨stop,qn⟩ | ⟨go,N,hN,step⟩
 . refine Sw hp (cJ (T.done X rfl rfl rfl hc i pins s3 σ3 H3 X.xe I3 (stat fr3) st3 stop) λ r s4 ⟨hr,I4⟩=>?_);subst hr;exact wpAny_execs_nil ⟨σ3,H3,I4,qn⟩
 . refine Sw hp (cJ (T.item X rfl rfl rfl hc i pins s3 σ3 H3 X.xe I3 (stat fr3) st3 go) λ r s4 ⟨u,hr,h4⟩=>?_);subst hr;refine Sw hp (cJ h4 λ _ s5 hq0=>?_);obtain ⟨x,H5,I5,r5,y5,st5,fr5⟩:=hq0;have I5':=I5.pinned (stat fr5) (T.obj _ _ st5);refine Sw hp (cJ (hg _ s5 σ3 H5 x u _ I5' r5 (step x H5 y5)) λ _ s6 hq0=>?_);obtain ⟨σ6,H6,I6,q6⟩:=hq0;refine Sw hp (cJ (hb _ s6 σ6 H6 _ I6 q6) λ f s7 q7=>?_);have again:∀ {σ7:St} {H7:Hp},aR X (pins++mC fp s5.heap) σ7 H7 s7->N σ7 H7->∃ m,m<n/\∃ i σ' H',aR X pins σ' H' s7/\tn i s7.heap/\(∀ b∈fp,H' b=none)/\W i m σ' H':=λ {σ7 H7} I7 n7=>by
    obtain ⟨m',hm,w7⟩:=hN σ7 H7 n7;refine ⟨m',hm,i+1,σ7,H7,I7.unpinned,T.keep _ _ _ st5 λ b hb o e=>(I7.pin (b,o) (Rt _ (Rt _ (iK hb e)))).1,λ b hb=>?_,w7⟩;obtain ⟨o,e,d⟩:=T.obj _ _ st5 b hb;exact (I7.pin (b,o) (Rt _ (Rt _ (iK hb e)))).2.1
   cases f with
   | next=>obtain ⟨σ7,H7,I7,n7⟩:=q7;exact again I7 n7
   | cont=>obtain ⟨σ7,H7,I7,n7⟩:=q7;exact again I7 n7
   | brk=>obtain ⟨σ7,H7,I7,q7⟩:=q7;exact ⟨σ7,H7,I7.unpinned,q7⟩
   | ret v=>obtain ⟨x7,σ7,H7,I7,r7,q7⟩:=q7;exact ⟨x7,σ7,H7,I7.unpinned,r7,q7⟩
end
noncomputable abbrev R2:=V->V->Hp->VK->Prop
instance gy (X:Cx) (f:Value->Value->Sem Value) (r:R2):Prop:=
 ∀ (pins:Δ) (s:Shared) (σ:St) (H:Hp) (x y:V) (v u:Value) (Q:VK),aR X pins σ H s->br x v->br y u->r x y H Q->
  wpAny (model X.prog X.w) X.A (f v u) (EP X pins σ Q) X.xe s
instance Nk (X:Cx) (f:Value->Sem Value) (r:V->Hp->VK->Prop):Prop:=
 ∀ (pins:Δ) (s:Shared) (σ:St) (H:Hp) (x:V) (v:Value) (Q:VK),aR X pins σ H s->br x v->r x H Q->
  wpAny (model X.prog X.w) X.A (f v) (EP X pins σ Q) X.xe s
instance cV (X:Cx) (f:Value) (r:List V->Hp->VK->Prop):Prop:=
 ∀ (pins:Δ) (s:Shared) (σ:St) (H:Hp) (xs:List V) (us:Φ) (Q:VK),aR X pins σ H s->bn xs us->r xs H Q->
  wpAny (model X.prog X.w) X.A (call f us) (EP X pins σ Q) X.xe s
instance NU (X:Cx) (r:V->Hp->(Bool->Hp->Prop)->Prop):Prop:=
 ∀ (pins:Δ) (s:Shared) (σ:St) (H:Hp) (x:V) (v:Value) (Q:Bool->Hp->Prop),aR X pins σ H s->br x v->r x H Q->
  wpAny (model X.prog X.w) X.A (truthy v) (TP X pins σ Q) X.xe s
instance qH (r:R2) (ta tb:TE):TE:=λ σ H Q=>ta σ H λ x H1=>tb σ H1 λ y H2=>r x y H2 Q
instance PN (r:V->Hp->VK->Prop) (ta:TE):TE:=λ σ H Q=>ta σ H λ x H1=>r x H1 Q
instance rI (C:Int->Int->Prop) (g:Int->Int->V):R2:=λ x y H Q=>∃ i j,x=.int i/\y=.int j/\C i j/\Q (g i j) H
instance Af (g:Int->Int->V):R2:=λ x y H Q=>∃ i j,x=.int i/\y=.int j/\Q (g i j) H
instance rU (g:Int->V):V->Hp->VK->Prop:=λ x H Q=>∃ i,x=.int i/\Q (g i) H
section
variable {X:Cx} {a b c:Expr} {ta tb tc:TE} {pos:Pos}
def Ii (ha:PE X a ta) (hb:PE X b tb) {pins:Δ} {s:Shared} {σ:St} {H:Hp} {R:V->V->Hp->Prop} (I:aR X pins σ H s)
 (h:ta σ H λ x H1=>tb σ H1 λ y H2=>R x y H2) {Q:Γ} {f:Value->Value->Sem Value}
 (hf:∀ v u s2 x y H2,aR X pins σ H2 s2->br x v->br y u->R x y H2->wpAny (model X.prog X.w) X.A (f v u) Q X.xe s2):
 wpAny (model X.prog X.w) X.A (eval a X.env) (λ v s₁=>wpAny (model X.prog X.w) X.A (eval b X.env) (λ u s₂=>wpAny (model X.prog X.w) X.A (f v u) Q X.xe s₂) X.xe s₁) X.xe s:=by
 refine cJ (ha pins s σ H _ I h) λ v s1 hq0=>?_;obtain ⟨x,H1,I1,r1,q1⟩:=hq0;refine cJ (hb pins s1 σ H1 _ I1 q1) λ u s2 hq0=>?_;obtain ⟨y,H2,I2,r2,q2⟩:=hq0;exact hf v u s2 x y H2 I2 r1 r2 q2
def Pf {op:Operator} {r:R2} (ho:gy X (binaryOp op) r) (ha:PE X a ta) (hb:PE X b tb):PE X (.BinOp a op b pos) (qH r ta tb):=by
 intro pins s σ H Q I h;exact wpAny_BinOp (Ii ha hb I h λ v u s2 x y H2 I2 rx ry q=>ho pins s2 σ H2 x y v u Q I2 rx ry q)
def Pt {op:UnaryOp} {r:V->Hp->VK->Prop} (ho:Nk X (unaryOp op) r) (ha:PE X a ta):PE X (.UnaryOp op a pos) (PN r ta):=by
 intro pins s σ H Q I h;exact UnaryOp_ (cJ (ha pins s σ H _ I h) λ v s1 hy0=>by obtain ⟨x,H1,I1,r1,q1⟩:=hy0;exact ho pins s1 σ H1 x v Q I1 r1 q1)
def LY {f:Value->Value->Sem Value} {C:Int->Int->Prop} {g:Int->Int->Int}
 (rule:∀ (i j:Int) (t u:Tok) (s:Shared) (Q:Γ) (E:Γ),C i j->Q (.int (g i j) s.toks) { s with toks:=s.toks+1 }->wpAny (model X.prog X.w) X.A (f (.int i t) (.int j u)) Q E s):
 gy X f (rI C λ i j=>.int (g i j)):=by
 intro pins s σ H x y v u Q I rx ry h;obtain ⟨i,j,rfl,rfl,hc,q⟩:=h;obtain ⟨t,rfl⟩:=rx;obtain ⟨t',rfl⟩:=ry;exact rule i j t t' s _ _ hc ⟨.int (g i j),H,I.tok _,⟨_,rfl⟩,q⟩
def LH {f:Value->Value->Sem Value} {g:Int->Int->Int}
 (rule:∀ (i j:Int) (t u:Tok) (s:Shared) (Q:Γ) (E:Γ),Q (.int (g i j) s.toks) { s with toks:=s.toks+1 }->wpAny (model X.prog X.w) X.A (f (.int i t) (.int j u)) Q E s):
 gy X f (Af λ i j=>.int (g i j)):=by
 intro pins s σ H x y v u Q I rx ry h;obtain ⟨i,j,rfl,rfl,q⟩:=h;obtain ⟨t,rfl⟩:=rx;obtain ⟨t',rfl⟩:=ry;exact rule i j t t' s _ _ ⟨.int (g i j),H,I.tok _,⟨_,rfl⟩,q⟩
def KQ {f:Value->Value->Sem Value} {g:Int->Int->Bool}
 (rule:∀ (i j:Int) (t u:Tok) (s:Shared) (Q:Γ) (E:Γ),Q (.bool (g i j)) s->wpAny (model X.prog X.w) X.A (f (.int i t) (.int j u)) Q E s):
 gy X f (Af λ i j=>.bl (g i j)):=by
 intro pins s σ H x y v u Q I rx ry h;obtain ⟨i,j,rfl,rfl,q⟩:=h;obtain ⟨t,rfl⟩:=rx;obtain ⟨t',rfl⟩:=ry;exact rule i j t t' s _ _ ⟨.bl (g i j),H,I,rfl,q⟩
instance KF (i j:Int):Prop:=0<=j/\j<=1000000/\i.natAbs<2^64
instance E6 (i j:Int):Prop:=(-(2^64)<i/\i<2^64)∨(-(2^64)<j/\j<2^64)
def E6.ok {i j:Int} (h:E6 i j):IntMulOk i j:=by
 rcases h with ⟨h1,h2⟩ | ⟨h1,h2⟩
 . exact .of_left (intBits_le_64 h1 h2)
 . exact .of_right (intBits_le_64 h1 h2)
def Jt:gy X (binaryOp .Add) (Af λ i j=>.int (i+j)):=LH λ _ _ _ _ _ _ _ q=>add_int q
def OX:gy X (binaryOp .Sub) (Af λ i j=>.int (i-j)):=LH λ _ _ _ _ _ _ _ q=>sub_int q
def IG:gy X (binaryOp .Mult) (rI E6 λ i j=>.int (i*j)):=LY λ _ _ _ _ _ _ _ hc q=>mul_int q hc.ok
def F0:gy X (binaryOp .Mod) (rI (λ _ j=>j≠0) λ i j=>.int (i.fmod j)):=LY λ _ _ _ _ _ _ _ hc q=>mod_int' hc q
def Ot:gy X (binaryOp .Pow) (rI KF λ i j=>.int (i^j.toNat)):=LY λ _ _ _ _ _ _ _ hc q=>pow_int_small hc.1 hc.2.1 hc.2.2 q
def Q4 {f:Value->Sem Value} {g:Int->Int}
 (rule:∀ (i:Int) (t:Tok) (s:Shared) (Q:Γ) (E:Γ),Q (.int (g i) s.toks) { s with toks:=s.toks+1 }->wpAny (model X.prog X.w) X.A (f (.int i t)) Q E s):
 Nk X f (rU λ i=>.int (g i)):=by
 intro pins s σ H x v Q I rx h;obtain ⟨i,rfl,q⟩:=h;obtain ⟨t,rfl⟩:=rx;exact rule i t s _ _ ⟨.int (g i),H,I.tok _,⟨_,rfl⟩,q⟩
def NO:Nk X (unaryOp .USub) (rU λ i=>.int (-i)):=Q4 λ _ _ _ _ _ q=>neg_int q
end
instance Hk:V->V->Bool
 | .non,.non=>true | .non,.int _=>true | .int _,.non=>true | .non,.bl _=>true | .bl _,.non=>true | .non,.str _=>true | .str _,.non=>true
 | .int _,.int _=>true | .bl _,.bl _=>true | .str _,.str _=>true | .byt _,.byt _=>true
 | .int _,.str _=>true | .str _,.int _=>true | .bl _,.str _=>true | .str _,.bl _=>true
 | _,_=>false
instance Pa:R2:=λ x y H Q=>Hk x y=true/\Q (.bl (decide (x=y))) H
instance Pw:R2:=λ x y H Q=>Hk x y=true/\Q (.bl (!decide (x=y))) H
def xO {i j:Int}:decide (V.int i=V.int j)=(i==j):=by
 rw [Bool.eq_iff_iff];simp
def Cw {i j:Bool}:decide (V.bl i=V.bl j)=(i==j):=by
 rw [Bool.eq_iff_iff];simp
def x8 {i j:Str}:decide (V.str i=V.str j)=(i==j):=by
 rw [Bool.eq_iff_iff];simp
def yn {i j:Array UInt8}:decide (V.byt i=V.byt j)=(i.toList==j.toList):=by
 rw [Bool.eq_iff_iff];cases i;cases j;simp
section
variable {X:Cx} {a b c:Expr} {ta tb tc:TE} {pos:Pos}
def b5 {pins:Δ} {σ:St} {H:Hp} {s:Shared} {Q:VK} {k k':Bool} (I:aR X pins σ H s) (q:Q (.bl k) H) (e:k=k'):EP X pins σ Q (.bool k') s:=by
 subst e;exact ⟨.bl k,H,I,rfl,q⟩
def Kt:gy X (compareOp .Eq) Pa:=by
 intro pins s σ H x y v u Q I rx ry h;obtain ⟨hs,q⟩:=h;cases x with
 | non=>
  cases rx;cases y with
  | non=>cases ry;exact PySem.EqNone.eq_none_none (b5 I q (by simp))
  | bl j=>cases ry;exact PySem.EqNone.eq_none_bool (b5 I q (by simp))
  | int j=>obtain ⟨t',rfl⟩:=ry;exact PySem.EqNone.eq_none_int (b5 I q (by simp))
  | str j=>obtain ⟨t',rfl⟩:=ry;exact PySem.EqNone.eq_none_str (b5 I q (by simp))
  | _=>exact absurd (show false=true from hs) QU
 | bl i=>
  cases rx;cases y with
  | non=>cases ry;exact PySem.EqNone.eq_bool_none (b5 I q (by simp))
  | bl j=>cases ry;exact eq_bool (b5 I q Cw)
  | str j=>obtain ⟨t',rfl⟩:=ry;exact PySem.EqMixed.eq_bool_str (b5 I q (by simp))
  | _=>exact absurd (show false=true from hs) QU
 | int i=>
  obtain ⟨t,rfl⟩:=rx;cases y with
  | non=>cases ry;exact PySem.EqNone.eq_int_none (b5 I q (by simp))
  | int j=>obtain ⟨t',rfl⟩:=ry;exact eq_int (b5 I q xO)
  | str j=>obtain ⟨t',rfl⟩:=ry;exact PySem.EqMixed.eq_int_str (b5 I q (by simp))
  | _=>exact absurd (show false=true from hs) QU
 | str i=>
  obtain ⟨t,rfl⟩:=rx;cases y with
  | non=>cases ry;exact PySem.EqNone.eq_str_none (b5 I q (by simp))
  | bl j=>cases ry;exact PySem.EqMixed.eq_str_bool (b5 I q (by simp))
  | int j=>obtain ⟨t',rfl⟩:=ry;exact PySem.EqMixed.eq_str_int (b5 I q (by simp))
  | str j=>obtain ⟨t',rfl⟩:=ry;exact eq_str (b5 I q x8)
  | _=>exact absurd (show false=true from hs) QU
 | byt i=>
  obtain ⟨t,rfl⟩:=rx;cases y with
  | byt j=>obtain ⟨t',rfl⟩:=ry;exact PySem.W.eq_bytes (b5 I q yn)
  | _=>exact absurd (show false=true from hs) QU
 | _=>cases y <;> exact absurd (show false=true from hs) QU
def L9:gy X (compareOp .NotEq) Pw:=by
 intro pins s σ H x y v u Q I rx ry h;obtain ⟨hs,q⟩:=h;cases x with
 | non=>
  cases rx;cases y with
  | non=>cases ry;exact PySem.EqNone.ne_none_none (b5 I q (by simp))
  | bl j=>cases ry;exact PySem.EqNone.ne_none_bool (b5 I q (by simp))
  | int j=>obtain ⟨t',rfl⟩:=ry;exact PySem.EqNone.ne_none_int (b5 I q (by simp))
  | str j=>obtain ⟨t',rfl⟩:=ry;exact PySem.EqNone.ne_none_str (b5 I q (by simp))
  | _=>exact absurd (show false=true from hs) QU
 | bl i=>
  cases rx;cases y with
  | non=>cases ry;exact PySem.EqNone.ne_bool_none (b5 I q (by simp))
  | bl j=>cases ry;exact ne_bool (b5 I q (Q9 not Cw))
  | str j=>obtain ⟨t',rfl⟩:=ry;exact PySem.EqMixed.ne_bool_str (b5 I q (by simp))
  | _=>exact absurd (show false=true from hs) QU
 | int i=>
  obtain ⟨t,rfl⟩:=rx;cases y with
  | non=>cases ry;exact PySem.EqNone.ne_int_none (b5 I q (by simp))
  | int j=>obtain ⟨t',rfl⟩:=ry;exact ne_int (b5 I q (Q9 not xO))
  | str j=>obtain ⟨t',rfl⟩:=ry;exact PySem.EqMixed.ne_int_str (b5 I q (by simp))
  | _=>exact absurd (show false=true from hs) QU
 | str i=>
  obtain ⟨t,rfl⟩:=rx;cases y with
  | non=>cases ry;exact PySem.EqNone.ne_str_none (b5 I q (by simp))
  | bl j=>cases ry;exact PySem.EqMixed.ne_str_bool (b5 I q (by simp))
  | int j=>obtain ⟨t',rfl⟩:=ry;exact PySem.EqMixed.ne_str_int (b5 I q (by simp))
  | str j=>obtain ⟨t',rfl⟩:=ry;exact ne_str (b5 I q (Q9 not x8))
  | _=>exact absurd (show false=true from hs) QU
 | byt i=>
  obtain ⟨t,rfl⟩:=rx;cases y with
  | byt j=>obtain ⟨t',rfl⟩:=ry;exact PySem.W.ne_bytes (b5 I q (Q9 not yn))
  | _=>exact absurd (show false=true from hs) QU
 | _=>cases y <;> exact absurd (show false=true from hs) QU
def PM:gy X (compareOp .Lt) (Af λ i j=>.bl (decide (i<j))):=KQ λ _ _ _ _ _ _ _ q=>lt_int q
def P0:gy X (compareOp .GtE) (Af λ i j=>.bl (decide (j<=i))):=KQ λ _ _ _ _ _ _ _ q=>ge_int q
def NJ:gy X (compareOp .Is) (λ x y H Q=>y=.non/\Q (.bl (decide (x=.non))) H):=by
 intro pins s σ H x y v u Q I rx ry h;obtain ⟨rfl,q⟩:=h;cases ry;refine is_none_gen (b5 I q ?_);cases x <;> first
  | (cases rx;rfl)
  | (obtain ⟨t,rfl⟩:=rx;rfl)
def Nt:gy X (compareOp .IsNot) (λ x y H Q=>y=.non/\Q (.bl (!decide (x=.non))) H):=by
 intro pins s σ H x y v u Q I rx ry h;obtain ⟨rfl,q⟩:=h;cases ry;refine isnot_none_gen (b5 I q ?_);cases x <;> first
  | (cases rx;rfl)
  | (obtain ⟨t,rfl⟩:=rx;rfl)
def gy.or {f:Value->Value->Sem Value} {r r':R2} (h:gy X f r) (h':gy X f r'):gy X f (λ x y H Q=>r x y H Q∨r' x y H Q):=by
 intro pins s σ H x y v u Q I rx ry q;rcases q with q | q
 . exact h pins s σ H x y v u Q I rx ry q
 . exact h' pins s σ H x y v u Q I rx ry q
def MV {op:CmpOp} {r:R2} (ho:gy X (compareOp op) r) (ha:PE X a ta) (hb:PE X b tb) (hm:behindInMarks op b=false):PE X (.Compare a [op] [b] pos) (qH r ta tb):=by
 intro pins s σ H Q I h;exact wpAny_Compare1 (Ii ha hb I h λ v u s2 x y H2 I2 rx ry q=>ho pins s2 σ H2 x y v u Q I2 rx ry q) hm
instance vk (t:TE):TT:=λ σ H Q=>t σ H λ x H'=>∃ k,x=.bl k/\Q k H'
def MT {op:CmpOp} {r:R2} (ho:gy X (compareOp op) r) (ha:PE X a ta) (hb:PE X b tb) (hm:behindInMarks op b=false):PT X (.Compare a [op] [b] pos) (vk (qH r ta tb)):=by
 intro pins s σ H Q I h;refine wpAny_isTrue_Compare1 (cJ (ha pins s σ H _ I h) λ v s1 hy0=>?_) hm;obtain ⟨x,H1,I1,r1,q1⟩:=hy0;refine cJ (hb pins s1 σ H1 _ I1 q1) λ u s2 hy0=>?_;obtain ⟨y,H2,I2,r2,q2⟩:=hy0;refine
  cJ (ho pins s2 σ H2 x y v u _ I2 r1 r2 q2) λ c s3 ⟨z,H3,I3,r3,k,e,q3⟩=>?_
 subst e;cases r3;exact RY ⟨H3,I3,q3⟩
instance HP (K:Frag) (x:V) (H:Hp) (k:Bool):Prop:=
 match x with
 | .non=>k=false
 | .bl b=>k=b
 | .int i=>k=(i != 0)
 | .str y=>y.length<=sizeLine/\k=((y.length:Int) != 0)
 | .byt y=>y.size<=sizeLine/\k=((y.size:Int) != 0)
 | .ref p=>(∃ xs,cR K H p xs/\k = !xs.isEmpty)∨(∃ xs,fg K H p xs/\k = !xs.isEmpty)∨∃ kvs,H p=some (.dK kvs)/\k = !kvs.isEmpty
 | _=>False
def vP {κ:Type} {kvs:List (κ×V)} {vs:List (κ×Value)} (r:KV kvs vs):(!vs.isEmpty) = !kvs.isEmpty:=by
 cases r <;> rfl
def oW {xs:List V} {its:Φ} (r:bn xs its):(!its.toArray.isEmpty) = !xs.isEmpty:=by
 cases r <;> simp
def k8:(sizeLine:Nat)<2^63:=by rw [sizeLine_eq];decide
def HE:NU X (λ x H Q=>∃ k,HP X.K x H k/\Q k H):=by
 intro pins s σ H x v Q I rx h;obtain ⟨k,e,q⟩:=h;have hl:=k8;have hs:sizeLine=16777216:=sizeLine_eq;cases x with
 | non=>
  cases rx;have e':k=false:=e;subst e';exact truthy_none ⟨H,I,q⟩
 | bl b=>
  cases rx;have e':k=b:=e;subst e';exact RY ⟨H,I,q⟩
 | int i=>
  obtain ⟨t,rfl⟩:=rx;have e':k=(i != 0):=e;subst e';exact PySem.P.truthy_int ⟨H,I,q⟩
 | str y=>
  obtain ⟨t,rfl⟩:=rx;obtain ⟨hy,e'⟩:y.length<=sizeLine/\k=((y.length:Int) != 0):=e;subst e';exact PySem.P.truthy_str (by omega) ⟨H,I.tok _,q⟩
 | byt y=>
  obtain ⟨t,rfl⟩:=rx;obtain ⟨hy,e'⟩:y.size<=sizeLine/\k=((y.size:Int) != 0):=e;subst e';exact PySem.W.truthy_bytes (by omega) ⟨H,I.tok _,q⟩
 | ref p=>
  cases rx;have e':(∃ xs,cR X.K H p xs/\k = !xs.isEmpty)∨(∃ xs,fg X.K H p xs/\k = !xs.isEmpty)∨∃ kvs,H p=some (.dK kvs)/\k = !kvs.isEmpty:=e;rcases e' with ⟨xs,hx,e'⟩ | ⟨xs,hx,e'⟩ | ⟨kvs,hx,e'⟩
  . subst e';obtain ⟨its,r,pl,hz⟩:=I.list hx;have hlen:=r.length;exact wpAny_truthy_list pl.isList (by simp only [QQ];omega) ⟨H,I.tok _,by rw [oW r];exact q⟩
  . subst e';obtain ⟨its,r,pl,hz⟩:=I.tuple hx;have hlen:=r.length;exact truthy_tuple pl (by simp only [QQ];omega) ⟨H,I.tok _,by rw [oW r];exact q⟩
  . subst e';obtain ⟨hz,hS,vs,r,m'⟩:kvs.length<=sizeLine/\(p==sysModules)=false/\∃ vs,KV kvs vs/\n6 X.prog X.w s.heap p vs:=I.hok p _ hx;have m:=m'.of;have hlen:kvs.length=vs.length:=SC r;exact wpAny_truthy_dict hS m (by omega) ⟨H,I.tok _,by rw [vP r];exact q⟩
 | _=>exact (show False from e).elim
def AB (ha:PE X a ta) (he:∀ whole,isTrue a X.env whole=(do let v <-whole;standAt a.pos;holding [v] (truthy v))):
 PT X a (λ σ H Q=>ta σ H λ x H'=>∃ k,HP X.K x H' k/\Q k H'):=by
 intro pins s σ H Q I h;exact isTrue_plain (cJ (ha pins s σ H _ I h) λ v s1 hy0=>by obtain ⟨x,H1,I1,r1,q1⟩:=hy0;exact HE pins s1 σ H1 x v Q I1 r1 q1) (he _)
def xa:gy X (binaryOp .Add) (λ x y H Q=>∃ i j,x=.str i/\y=.str j/\i.length+j.length<=sizeLine/\Q (.str (i++j)) H):=by
 intro pins s σ H x y v u Q I rx ry h;obtain ⟨i,j,rfl,rfl,hz,q⟩:=h;obtain ⟨t,rfl⟩:=rx;obtain ⟨t',rfl⟩:=ry;exact add_str (λ t' tk=>⟨.str (i++j),H,I.tok _,⟨_,rfl⟩,q⟩) hz
def qK {x:V} {us:Φ} (r:bn [x] us):∃ u,us=[u]/\br x u:=by
 cases r with
 | cons r1 r2=>cases r2;exact ⟨_,rfl,r1⟩
end
structure xp (h:Heap) (x dx C:Addr) (mA:Θ):Prop where
 obj:h.get? x=some (PySem.W.instObj C dx)
 ns:h.Ns1 dx mA
 ne:dx≠x
def zv {h:Heap} {dx:Addr} {mA:Θ} (n:h.Ns1 dx mA):∃ od,h.get? dx=some od/\∀ name,PySem.W.lookIn name od=some (mA name):=by
 obtain ⟨o,es,ep,ho,hd,hk,_,hm⟩:=n;refine ⟨o,ho,λ name=>?_⟩;have e:=hm name;unfold nsFind findBy at e;rw [<-Array.find?_toList] at e;unfold PySem.W.lookIn;rw [hd];dsimp only;split
 . rename_i y q;rw [q] at e;exact Q9 some e
 . rename_i q;rw [q] at e;have a:es.toList.any (·.refKey)=false:=by
    rw [List.any_eq_false];intro y hy;obtain ⟨z,t,hkey⟩:=hk y (mem_toList_iff.mp hy);simp [DictEntry.refKey,hkey]
   have a':¬ es.toList.any (·.refKey)=true:=by rw [a];exact QU
   rw [QS a'];exact Q9 some e
def xp.look {h:Heap} {x dx C:Addr} {mA:Θ} (I:xp h x dx C mA):∃ od,PySem.W.InstAt h x (PySem.W.instObj C dx) C (some od)/\∀ name,PySem.W.lookIn name od=some (mA name):=
 let ⟨od,ho,hl⟩:=zv I.ns
 ⟨od,⟨I.obj,rfl,rfl,ho⟩,hl⟩
section
variable {prog:Program} {w:World} {A:Around} {E:Γ} {s:Shared} {K:Frag} {x dx C f:Addr} {mA:Θ} {name:Str} {v:Value}
def DV {expr:Bool} {Q:Γ} (X:K.In s.heap) (I:xp s.heap x dx C mA) (hg:PySem.W.plainGet K C name=true) (hh:PySem.W.hasDictIn K C=true)
 (ha:PySem.W.findIn K (.ref C) name=some none) (hv:mA name=some v) (hv':PySem.W.handedIn v=true) (h:Q v { s with toks:=s.toks+1 }):
 wpAny (model prog w) A (getAttr (.ref x) name expr) Q E s:=by
 obtain ⟨od,J,hl⟩:=I.look;exact PySem.W.get_value X J (PySem.W.plainGet_of hg).1 (PySem.W.findObj_own hh ha rfl (by rw [hl,hv])) hv' h
def C1 {pl:Sem Bool} {Q:Value×List Value->Shared->Prop} (X:K.In s.heap) (I:xp s.heap x dx C mA) (hg:PySem.W.plainGet K C name=true)
 (hf:PySem.W.findIn K (.ref C) name=some (some (.ref f))) (ht:PySem.W.isFn K (.ref f)=true) (hv:mA name=none) (h:Q (.ref f,[.ref x]) s):
 wpAny (model prog w) A (getMethod (.ref x) name pl) Q E s:=by
 obtain ⟨od,J,hl⟩:=I.look;exact PySem.W.method_fn X J (PySem.W.plainGet_of hg).1 (PySem.W.plainGet_of hg).2 hf (beq_iff_eq.mp ht) (by show (PySem.W.lookIn name od).map (·.isSome)=some false;rw [hl,hv];rfl) h
def Fu {ns:Ω} {Q:Unit->Shared->Prop} (X:K.In s.heap) (I:xp s.heap x dx C mA)
 (hs:PySem.W.findIn K (.ref C) "__setattr__" = some (some (.builtin "object.__setattr__"))) (hp:PySem.W.plainOver K C=true) (ht:PySem.W.takerIn K C name=some none) (hh:PySem.W.hasDictIn K C=true)
 (hw:PySem.Within mA ns) (hsz:ns.length<=sizeLine)
 (h:∀ h',xp h' x dx C (λ y=>if y=name then some v else mA y)->Heap.SameBut dx s.heap h'->Q () { s with heap:=h',toks:=s.toks+2 }):
 wpAny (model prog w) A (setAttr (.ref x) name v) Q E s:=by
 obtain ⟨od,J,hl⟩:=I.look;refine PySem.W.set_plain X J hs (PySem.W.osa_open (s:={ s with toks:=s.toks+1 }) (r:=none) X J hp ht λ b=>?_);obtain ⟨cd,hc,hd'⟩:=PySem.W.any_some hh;have hx:s.heap.get? x=some ⟨.ref C,some dx,.plain,#[]⟩:=I.obj;refine QA (QN (QA (QA (wpAny_loadPart hx (QA (PySem.W.Looks.here (s:={ s with toks:=s.toks+1 }) (PySem.W.looks_clsIn X hc) ?_))))));rw [hd'];refine QN (a:=some dx) (QA (QN (QA ?_)));refine wpAny_nsSet1 (s:={ s with toks:=s.toks+1 }) I.ns λ h' hn2 hs2=>?_;obtain ⟨oD,esD,epD,hoD,hdD,hcD⟩:=hn2.count (PySem.Within.cons name v hw);refine QA (wpAny_lookBehind hoD (by rw [hdD];exact pastItsLine_dict (Rh hcD (by rw [QY];omega))) ?_);exact QN (h _ ⟨(hs2.2 _ (RM I.ne)).trans I.obj,hn2,I.ne⟩ hs2)
def BD {R:Result->Shared->Prop} {vs:Φ} {kw:List (Str×Value)} (X:K.In s.heap) (hm:PySem.W.makesIn K C=true)
 (hi:PySem.W.findIn K (.ref C) "__init__" = some (some (.ref f))) (hf:PySem.W.typeIn K (.ref f)=some (.type "function"))
 (h:codeAny (model prog w) (A.under (.builtin "type.__call__" ⟨.ref C::vs,kw⟩)) (.call (.ref f) ⟨.ref (s.heap.objs.size+1)::vs,kw⟩) (PySem.W.InitBack (s.heap.objs.size+1) R)
  { s with heap:=(s.heap.push PySem.W.emptyDict).push (PySem.W.instObj C s.heap.objs.size) }):
 codeAny (model prog w) A (.call (.ref C) ⟨vs,kw⟩) R s:=by
 obtain ⟨hh,g,d,t,os⟩:=s;exact PySem.W.make_core (PySem.W.makes_of X hm) (PySem.W.looks_findIn X hi) (λ self=>PySem.W.bind_fn X self hf) (.inl rfl) h
end
instance putF (f:Str) (v:V):List (Str×V)->List (Str×V)
 | []=>[(f,v)]
 | (g,x)::r=>if g=f then (g,v)::r else (g,x)::putF f v r
def ny (f g:Str) (v:V):∀ fs:List (Str×V),(putF f v fs).lookup g=if g=f then some v else fs.lookup g
 | []=>by
  show List.lookup g [(f,v)]=_;by_cases h:g=f
  . have hb:(g==f)=true:=beq_iff_eq.mpr h;simp only [List.lookup,hb,QF h]
  . have hb:(g==f)=false:=R5.mpr h;simp only [List.lookup,hb,QS h]
 | (k,x)::r=>by
  have ih:=ny f g v r;rw [show putF f v ((k,x)::r)=(if k=f then (k,v)::r else (k,x)::putF f v r) from rfl];by_cases hk:k=f
  . rw [QF hk];by_cases h:g=k
    . have hb:(g==k)=true:=beq_iff_eq.mpr h;simp only [List.lookup,hb,QF (h.trans hk)]
    . have hb:(g==k)=false:=R5.mpr h;simp only [List.lookup,hb,QS (λ e:g=f=>h (e.trans hk.symm))]
  . rw [QS hk];by_cases h:g=k
    . have hb:(g==k)=true:=beq_iff_eq.mpr h;simp only [List.lookup,hb,QS (λ e:g=f=>hk (h.symm.trans e))]
    . have hb:(g==k)=false:=R5.mpr h;simp only [List.lookup,hb];exact ih
def m9 (f:Str) (v:V):∀ fs:List (Str×V),f∈(putF f v fs).map (·.1)/\∀ g,g∈fs.map (·.1)->g∈(putF f v fs).map (·.1)
 | []=>⟨by simp [putF],λ g h=>by simp at h⟩
 | (k,x)::r=>by
  obtain ⟨i1,i2⟩:=m9 f v r;rw [show putF f v ((k,x)::r)=(if k=f then (k,v)::r else (k,x)::putF f v r) from rfl];by_cases hk:k=f
  . rw [QF hk];subst hk;exact ⟨by simp,λ g h=>by simpa using h⟩
  . rw [QS hk];refine ⟨?_,λ g h=>?_⟩
    . rw [QT];exact Rj _ i1
    . rw [QT] at h ⊢;rcases QE.mp h with e | e
      . exact QE.mpr (.inl e)
      . exact Rj _ (i2 g e)
def mW (f:Str) (v:V):∀ fs:List (Str×V),(putF f v fs).length<=fs.length+1
 | []=>by simp [putF]
 | (k,x)::r=>by
  have ih:=mW f v r;rw [show putF f v ((k,x)::r)=(if k=f then (k,v)::r else (k,x)::putF f v r) from rfl];by_cases hk:k=f
  . rw [QF hk,QY,QY];omega
  . rw [QS hk,QY,QY];omega
def iB.some_of {v:V} {o:Option Value} (r:iB (some v) o):∃ u,o=some u/\br v u:=by
 cases o with
 | none=>exact (show False from r).elim
 | some u=>exact ⟨u,rfl,r⟩
def iB.none_of {o:Option Value} (r:iB none o):o=none:=by
 cases o with
 | none=>rfl
 | some u=>exact (show False from r).elim
def zM {v:V} {u:Value} (r:br v u):PySem.W.handedIn u=true:=by
 cases v with
 | non=>cases (show u=Value.none from r);rfl
 | bl b=>cases (show u=Value.bool b from r);rfl
 | int i=>obtain ⟨t,e⟩:=(show ∃ t,u=Value.int i t from r);cases e;rfl
 | str x=>obtain ⟨t,e⟩:=(show ∃ t,u=Value.str x t from r);cases e;rfl
 | byt b=>obtain ⟨t,e⟩:=(show ∃ t,u=Value.bytes b t from r);cases e;rfl
 | flt b=>obtain ⟨t,e⟩:=(show ∃ t,u=Value.float b t from r);cases e;rfl
 | ref a=>cases (show u=Value.ref a from r);rfl
 | ty n=>cases (show u=Value.type n from r);rfl
section
variable {P:Program} {w:World} {H H':Hp} {h h':Heap} {a C dx:Addr} {fs fs':List (Str×V)}
def rG (hok:j5 P w H h) (e:H a=some (.ins C dx fs)):∃ mA,xp h a dx C mA/\(∀ f,iB (fs.lookup f) (mA f))/\PySem.Within mA (fs.map (·.1))/\fs.length<=1000/\H dx=some (.own a):=by
 obtain ⟨d,z,ne,ob,mA,n,r,q⟩:=(show cX P w H h a (.ins C dx fs) from hok a _ e)
 exact ⟨mA,⟨ob,n,ne⟩,r,q,z,d⟩
end
structure tX (K:Frag) (C:Addr):Prop where
 pg:PySem.W.plainGet K C Str.empty=true
 hd:PySem.W.hasDictIn K C=true
 po:PySem.W.plainOver K C=true
 sa:PySem.W.findIn K (.ref C) "__setattr__" = some (some (.builtin "object.__setattr__"))
def tX.get {K:Frag} {C:Addr} (c:tX K C) (f:Str):PySem.W.plainGet K C f=true:=c.pg
instance dI (K:Frag) (C:Addr) (f:Str):Prop:=PySem.W.findIn K (.ref C) f=some none
def dI.taker {K:Frag} {C:Addr} {f:Str} (n:dI K C f):PySem.W.takerIn K C f=some none:=by
 unfold PySem.W.takerIn;rw [show PySem.W.findIn K (.ref C) f=some none from n];rfl
structure AK (K:Frag) (C:Addr) (m:Str) (f:Addr):Prop where
 at_:PySem.W.findIn K (.ref C) m=some (some (.ref f))
 fn:PySem.W.isFn K (.ref f)=true
 kp:PySem.W.keepIn K (.ref f)=true
section
variable {X:Cx} {pins:Δ} {σ:St} {H:Hp} {s:Shared} {a C dx:Addr} {fs:List (Str×V)} {f:Str} {v:V} {A:Around} {E:Γ}
def wN {b:Bool} {Q:Γ} (I:aR X pins σ H s) (e:H a=some (.ins C dx fs)) (c:tX X.K C) (n:dI X.K C f) (l:fs.lookup f=some v)
 (h:∀ u s',aR X pins σ H s'->br v u->Q u s'):wpAny (model X.prog X.w) A (getAttr (.ref a) f b) Q E s:=by
 obtain ⟨mA,O,r,_,_,_⟩:=rG I.hok e;obtain ⟨u,hu,ru⟩:=iB.some_of (v:=v) (o:=mA f) (by rw [<-l];exact r f);exact DV I.kIn O (c.get f) c.hd n hu (zM ru) (h u _ (I.tok _) ru)
def xf {m:Str} {g:Addr} {pl:Sem Bool} {Q:Value×List Value->Shared->Prop} (I:aR X pins σ H s) (e:H a=some (.ins C dx fs)) (c:tX X.K C) (k:AK X.K C m g) (l:fs.lookup m=none)
 (h:Q (.ref g,[.ref a]) s):wpAny (model X.prog X.w) A (getMethod (.ref a) m pl) Q E s:=by
 obtain ⟨mA,O,r,_,_,_⟩:=rG I.hok e;have hn:mA m=none:=iB.none_of (by rw [<-l];exact r m);exact C1 I.kIn O (c.get m) k.at_ k.fn hn h
def xv {y:V} {u:Value} {Q:Unit->Shared->Prop} (I:aR X pins σ H s) (e:H a=some (.ins C dx fs)) (c:tX X.K C) (n:dI X.K C f) (hl:fs.length<1000) (ry:br y u)
 (h:∀ s',aR X pins σ (cK H a (.ins C dx (putF f y fs))) s'->Q () s'):wpAny (model X.prog X.w) A (setAttr (.ref a) f u) Q E s:=by
 obtain ⟨mA,O,r,wi,_,ho⟩:=rG I.hok e;have hz:(fs.map (·.1)).length<=sizeLine:=by rw [Rk,sizeLine_eq];omega
 refine Fu I.kIn O c.sa c.po n.taker c.hd wi hz λ h' O' sb=>h _ ?_;have hd:∃ o,h'.get? dx=some o:=by obtain ⟨o,_,_,e',_⟩:=O'.ns;exact ⟨o,e'⟩
 refine I.write (x:=a) (e:=dx) (by rw [e];exact True.intro) (.inr ho) (λ b q hb z=>(sb.2 b hb).trans z) hd ?_;refine ⟨by rw [aL O.ne];exact ho,?_,O.ne,O'.obj,_,O'.ns,λ g=>?_,λ g hg=>?_⟩
 . have:=mW f y fs;omega
 . show iB ((putF f y fs).lookup g) (if g=f then some u else mA g);rw [ny];by_cases q:g=f
   . rw [QF q,QF q];exact ry
   . rw [QS q,QS q];exact r g
 . by_cases q:g=f
   . rw [q];exact (m9 f y fs).1
   . refine (m9 f y fs).2 g (wi g λ z=>hg ?_);show (if g=f then some u else mA g)=none;rw [QS q];exact z
def aR.made (I:aR X pins σ H s):aR X pins σ (cK (cK H s.heap.objs.size (.own (s.heap.objs.size+1))) (s.heap.objs.size+1) (.ins C s.heap.objs.size []))
 { s with heap:=(s.heap.push PySem.W.emptyDict).push (PySem.W.instObj C s.heap.objs.size) }:=by
 have e1:(s.heap.push PySem.W.emptyDict).get? s.heap.objs.size=some PySem.W.emptyDict:=Rg s.heap rfl;have e2:((s.heap.push PySem.W.emptyDict).push (PySem.W.instObj C s.heap.objs.size)).get? (s.heap.objs.size+1)=some (PySem.W.instObj C s.heap.objs.size):=by
  have:=Rg (s.heap.push PySem.W.emptyDict) (o:=PySem.W.instObj C s.heap.objs.size) rfl
  rwa [size_push] at this
 have e3:(s.heap.push PySem.W.emptyDict).Ns s.heap.objs.size (λ _=>none):=⟨PySem.W.emptyDict,#[],_,e1,rfl,(λ e he=>absurd he (by simp)),λ _=>rfl⟩
 have I1:=I.laid (a:=s.heap.objs.size) (o:=.own (s.heap.objs.size+1)) (h':=s.heap.push PySem.W.emptyDict) (t':=s.toks) (λ b u q=>QX _ q) (QH _) ⟨_,e1⟩;refine I1.laid (a:=s.heap.objs.size+1) (o:=.ins C s.heap.objs.size []) (t':=s.toks) (λ b u q=>QX _ q) (le_of_eq (size_push _ _)) ?_;have ne:s.heap.objs.size≠s.heap.objs.size+1:=Ro (RE _);refine ⟨by rw [aL ne,aP],RN _,ne,e2,λ _=>none,(Heap.Ns1.of_empty e3).at λ o q=>QX _ q,λ _=>True.intro,λ y hy=>absurd rfl hy⟩
def Fi {prog:Program} {w:World} {env:Env} {e:Expr} {f:Str} {pos:Pos} {s:Shared} {Q:Γ} (hb:attributeBase e f env (eval e env)=eval e env)
 (h:wpAny (model prog w) A (eval e env) (λ o s₁=>wpAny (model prog w) A (getAttr o f true) Q E s₁) E s):wpAny (model prog w) A (eval (.Attribute e f pos) env) Q E s:=
 Attribute_any_ h (by rw [arm_eval_Attribute,hb])
end
instance JB (K:Frag) (ta:TE) (f:Str):TE:=λ σ H Q=>ta σ H λ x H1=>∃ a C dx fs v,x=.ref a/\H1 a=some (.ins C dx fs)/\tX K C/\dI K C f/\fs.lookup f=some v/\Q v H1
instance Lj (K:Frag) (ta tv:TE) (f:Str):TS:=λ D σ H=>tv σ H λ y H1=>ta σ H1 λ x H2=>∃ a C dx fs,x=.ref a/\H2 a=some (.ins C dx fs)/\tX K C/\dI K C f/\fs.length<1000/\
 D.nx σ (cK H2 a (.ins C dx (putF f y fs)))
section
variable {X:Cx} {o e value:Expr} {f:Str} {pos pos' tpos:Pos} {ta tv:TE}
def Ha (he:PE X e ta) (hb:attributeBase e f X.env (eval e X.env)=eval e X.env):PE X (.Attribute e f pos) (JB X.K ta f):=by
 intro pins s σ H Q I h;refine Fi hb (cJ (he pins s σ H _ I h) λ u s1 hq0=>?_);obtain ⟨x,H1,I1,rx,a,C,dx,fs,v,ex,ea,c,n,l,q⟩:=hq0;subst ex;obtain rfl:u=Value.ref a:=rx;exact wN I1 ea c n l λ u' s2 I2 ru=>⟨v,H1,I2,ru,q⟩
def O6 (ha:PE X o ta) (hv:PE X value tv) (hs:swapsWith value (some (.Attribute o f pos')) pos.line X.env=pure false):PS X (.Assign [.Attribute o f pos'] value pos) (Lj X.K ta tv f):=by
 intro pins s σ H D I h;refine plainObj_wpAny_Assign_Attribute (cJ (hv pins s σ H _ I h) λ u s1 hy0=>?_) hs;obtain ⟨y,H1,I1,ry,q⟩:=hy0;refine cJ (ha pins s1 σ H1 _ I1 q) λ ov s2 hq0=>?_;obtain ⟨x,H2,I2,rx,a,C,dx,fs,ex,ea,c,n,l,q2⟩:=hq0;subst ex;obtain rfl:ov=Value.ref a:=rx;exact xv I2 ea c n l ry λ s3 I3=>⟨σ,_,I3,q2⟩
end
section
variable {X:Cx} {pins:Δ} {σ:St} {H:Hp} {s:Shared} {A:Around} {E:Γ} {Q:Γ} {c:Value} {b:Bool}
end
structure eB (k:Nat) (A:Around):Prop where
 hd:A.handled=none
 dp:A.depth+3*k+5<recursionLimit
 un:A.units+16*k+200<cLine
def eB.mono {j k:Nat} {A:Around} (r:eB k A) (h:j<=k):eB j A:=⟨r.hd,by have:=r.dp;omega,by have:=r.un;omega⟩
def eB.deeper {k:Nat} {A:Around} (r:eB (k+1) A) (env:Env):eB k (A.deeper env):=
 ⟨r.hd,by have:=r.dp;show A.depth+1+3*k+5<_;omega,by have:=r.un;show A.units+3+16*k+200<_;omega⟩
def xq {A:Around} {C:Addr} {us:Φ} {kw:List (Str×Value)}:(A.under (.builtin "type.__call__" ⟨.ref C::us,kw⟩)).depth=A.depth+1:=by
 first | rfl | simp [Around.under,Code.weight,Code.isCreation,Code.isGuard,Code.isCaller,Code.frames,Code.isFrame,guardIds]
def wj {A:Around} {C:Addr} {us:Φ} {kw:List (Str×Value)}:(A.under (.builtin "type.__call__" ⟨.ref C::us,kw⟩)).units=A.units+1:=by
 first | rfl | simp [Around.under,Code.cUnits,Code.frames,Code.isFrame]
def eB.make {k:Nat} {A:Around} (r:eB (k+1) A) (C:Addr) (us:Φ) (kw:List (Str×Value)):eB k (A.under (.builtin "type.__call__" ⟨.ref C::us,kw⟩)):=
 ⟨r.hd,by have:=r.dp;rw [xq];omega,by have:=r.un;rw [wj];omega⟩
def eB.depth {k:Nat} {A:Around} (r:eB k A):A.depth<recursionLimit:=by have:=r.dp;omega
def eB.units {k:Nat} {A:Around} (r:eB k A):A.units+64<cLine:=by have:=r.un;omega
instance jN:TA:=λ _ H Q=>Q [] H
instance fc (ta:TE) (tr:TA):TA:=λ σ H Q=>ta σ H λ x H1=>tr σ H1 λ xs H2=>Q (x::xs) H2
section
variable {X:Cx} {e:Expr} {es:List Expr} {te:TE} {t:TA} {pos:Pos}
def Og:PA X [] jN:=λ _ _ _ _ H Q I h=>Calls.spliced_nil ⟨[],H,I,.nil,h⟩
def Nr (ha:PE X e te) (hr:PA X es t) (hs:starEach (e::es) X.env=(false,eval e X.env)::starEach es X.env):PA X (e::es) (fc te t):=by
 intro pos pins s σ H Q I h;rw [hs];show wpAny _ _ (spliced ((false,eval e X.env)::backTo pos (starEach es X.env))) _ _ s;refine Calls.spliced_cons (cJ (ha pins s σ H _ I h) λ u s1 hq0=>?_);obtain ⟨x,H1,I1,r1,q1⟩:=hq0;exact cJ (hr pos pins s1 σ H1 _ I1 q1) λ us s2 hy0=>by obtain ⟨xs,H2,I2,r2,q2⟩:=hy0;exact ⟨x::xs,H2,I2,.cons r1 r2,q2⟩
end
noncomputable abbrev Sp:=List V->Hp->VK->XK->Prop
noncomputable abbrev w9:=List Env->Hp->Shared->XK->Value->Shared->Prop
structure wO (P:Program) (w:World) (K:Frag) (mg:Θ) (base:Heap) (A:Around) (outer:List Env) (s:Shared) (H:Hp):Prop where
 frames:A.frames=some outer
 mod:Mod K mg base
 bs:∀ b o,base.get? b=some o->s.heap.get? b=some o/\H b=none
 bsz:base.objs.size<=s.heap.objs.size
 funs:s.heap.FunFrames base outer
 frf:∀ b∈Bg outer,H b=none
 hok:j5 P w H s.heap
 bare:AllBare s.gens
instance CE (outer:List Env) (P:Program) (w:World) (H:Hp) (s:Shared) (Q:VK) (u:Value) (s':Shared):Prop:=
 ∃ v H',s'.os=s.os/\AllBare s'.gens/\Un (Bg outer) [] H H' s.heap s'.heap/\j5 P w H' s'.heap/\br v u/\Q v H'
instance CR (CX:w9) (outer:List Env) (P:Program) (w:World) (H:Hp) (s:Shared) (Q:VK) (E:XK) (r:Result) (s':Shared):Prop:=
 match r with
 | .ok (.ret u)=>CE outer P w H s Q u s'
 | .ok _=>False
 | .error e=>CX outer H s E e s'
structure fF (P:Program) (w:World) (K:Frag) (mg:Θ) (base:Heap) (CX:w9) (k:Nat) (f:Addr) (fd:FuncData) (ps:Ω) (sp:Sp):Prop where
 len:∀ vs H Q E,sp vs H Q E->vs.length=ps.length
 run:∀ (A:Around) (outer:List Env) (s:Shared) (H:Hp) (args:Args) (us:Φ) (vs:List V) (Q:VK) (E:XK),eB k A->wO P w K mg base A outer s H->BindsTo s fd args (ps.zip us)->bn vs us->sp vs H Q E->
  codeAny (model P w) A (.call (.ref f) args) (CR CX outer P w H s Q E) s
def fF.mono {P:Program} {w:World} {K:Frag} {mg:Θ} {base:Heap} {CX:w9} {j k:Nat} {f:Addr} {fd:FuncData} {ps:Ω} {sp:Sp} (F:fF P w K mg base CX j f fd ps sp) (h:j<=k):
 fF P w K mg base CX k f fd ps sp:=⟨F.len,λ A outer s H args us vs Q E hr=>F.run A outer s H args us vs Q E (hr.mono h)⟩
def fF.imp {P:Program} {w:World} {K:Frag} {mg:Θ} {base:Heap} {CX:w9} {k:Nat} {f:Addr} {fd:FuncData} {ps:Ω} {sp sp':Sp} (F:fF P w K mg base CX k f fd ps sp)
 (h:∀ vs H Q E,sp' vs H Q E->sp vs H Q E):fF P w K mg base CX k f fd ps sp':=
 ⟨λ vs H Q E q=>F.len vs H Q E (h _ _ _ _ q),λ A outer s H args us vs Q E hr he hb hv hs=>F.run A outer s H args us vs Q E hr he hb hv (h _ _ _ _ hs)⟩
def wO.make {P:Program} {w:World} {K:Frag} {mg:Θ} {base:Heap} {A:Around} {outer:List Env} {s:Shared} {H:Hp} (e:wO P w K mg base A outer s H) (C:Addr) (us:Φ) (kw:List (Str×Value)):
 wO P w K mg base (A.under (.builtin "type.__call__" ⟨.ref C::us,kw⟩)) outer s H:=⟨by first | exact e.frames | (simpa [Around.under,Code.envs,Code.isFrame,pushEnvs] using e.frames),e.mod,e.bs,e.bsz,e.funs,e.frf,e.hok,e.bare⟩
section
variable {X:Cx} {pins:Δ} {σ:St} {H:Hp} {s s':Shared}
def aR.env0 (I:aR X pins σ H s):wO X.prog X.w X.K X.mg X.base X.A X.stack s H:=
 ⟨I.ok.frames,I.ok.mod,I.bs,Rh I.ok.bsz I.sz,I.stack,I.stkFree,I.hok,I.bare⟩
def aR.after {Q:VK} {u:Value} (I:aR X pins σ H s) (h:CE X.stack X.prog X.w H s Q u s'):EP X pins σ Q u s':=by
 obtain ⟨v,H',os,bare,un,hok,r,q⟩:=h;obtain ⟨hh,g,d,t,os'⟩:=s';obtain rfl:os'=s.os:=os;exact ⟨v,H',I.call (h':=hh) (g':=g) (d':=d) (t':=t) (ch:=[]) un hok bare (λ b z=>absurd z (by simp)),r,q⟩
end
instance qP (sp:Sp) (dvs:List V) (E:XK) (t:TA):TE:=λ σ H Q=>t σ H λ vs H1=>sp (vs++dvs) H1 Q E
instance GV (C:Addr) (m:Str) (sp:Sp) (dvs:List V) (E:XK) (ta:TE) (t:TA):TE:=λ σ H Q=>ta σ H λ x H1=>∃ a dx fs,x=.ref a/\H1 a=some (.ins C dx fs)/\fs.lookup m=none/\
 t σ H1 λ vs H2=>sp (x::(vs++dvs)) H2 Q E
instance GA (C:Addr) (sp:Sp) (dvs:List V) (E:XK) (t:TA):TE:=λ σ H Q=>t σ H λ vs H1=>∀ x dx,H1 x=none->H1 dx=none->dx≠x->
 sp (.ref x::(vs++dvs)) (cK (cK H1 dx (.own x)) x (.ins C dx [])) (λ v H2=>v=.non/\Q (.ref x) H2) E
instance fU (K:Frag) (fd:FuncData) (ps:Ω) (ds:Φ):Prop:=
 ∀ (s:Shared) (us:Φ),K.In s.heap->(us++ds).length=ps.length->BindsTo s fd ⟨us,[]⟩ (ps.zip (us++ds))
def fU.all {K:Frag} {fd:FuncData} {ps:Ω} (h:∀ us:Φ,us.length=ps.length->bindArgs fd ⟨us,[]⟩=pure (ps.zip us)):fU K fd ps []:=λ s us _ hl=>by
 rw [Ra] at hl ⊢;exact .of_eq (h us hl)
instance kJ (CX:w9) (X:Cx) (E:XK):Prop:=∀ (pins:Δ) (σ:St) (H:Hp) (s:Shared) (e:Value) (s':Shared),aR X pins σ H s->CX X.stack H s E e s'->X.xe e s'
section
variable {X:Cx} {CX:w9} {k:Nat} {f C:Addr} {fd:FuncData} {ps:Ω} {sp:Sp} {dvs:List V} {ds:Φ} {E:XK} {x m:Str} {p pos apos:Pos} {e o:Expr} {es:List Expr} {ta:TE} {t:TA}
def A9 {pins:Δ} {σ:St} {H:Hp} {s:Shared} {Q:VK} {us:Φ} {vs:List V} (F:fF X.prog X.w X.K X.mg X.base CX k f fd ps sp) (hr:eB k X.A) (hb:fU X.K fd ps ds) (hd:bn dvs ds) (hx:kJ CX X E)
 (I:aR X pins σ H s) (r:bn vs us) (h:sp (vs++dvs) H Q E):wpAny (model X.prog X.w) X.A (call (.ref f) us) (EP X pins σ Q) X.xe s:=by
 have r2:bn (vs++dvs) (us++ds):=r.append hd;have hl:(us++ds).length=ps.length:=by rw [<-r2.length];exact F.len _ _ _ _ h
 refine wpAny_call (codeAny_mono (F.run X.A X.stack s H ⟨us,[]⟩ (us++ds) (vs++dvs) Q E hr I.env0 (hb s us I.kIn hl) r2 h) λ r s' hq=>?_);cases r with
 | error e=>exact hx pins σ H s e s' I hq
 | ok fl=>
  cases fl with
  | ret u=>exact I.after hq
  | next=>exact False.elim hq
  | brk=>exact False.elim hq
  | cont=>exact False.elim hq
def yM (F:fF X.prog X.w X.K X.mg X.base CX k f fd ps sp) (hr:eB k X.A) (hg:Gl X x) (hm:X.mg x=some (.ref f)) (hk:PySem.W.keepIn X.K (.ref f)=true) (hb:fU X.K fd ps ds) (hd:bn dvs ds) (hx:kJ CX X E)
 (ha:PA X (e::es) t) (hdb:(x==("__debug__" : Str))=false:=by decide) (he:starEach (e::es) X.env=(false,eval e X.env)::starEach es X.env:=by rfl) (hpl:(backTo pos (starEach es X.env)).any (·.1)=false:=by rfl):
 PE X (.Call (.Name x p) (e::es) [] pos) (qP sp dvs E t):=by
 intro pins s σ H Q I h;refine wpAny_Call_Name_kw (rR I hg hm ?_ hdb);refine PySem.W.callWith_K (h₀:=X.base) I.ok.mod.kin hk (cJ (ha pos pins s σ H _ I h) λ us s1 hy0=>?_) he hpl;obtain ⟨vs,H1,I1,r,q⟩:=hy0;refine ⟨I1.kIn,?_⟩;exact A9 F hr hb hd hx I1 r q
def E1 {pl:Sem Bool} (he:PE X o ta) (c:tX X.K C) (hm:AK X.K C m f) (F:fF X.prog X.w X.K X.mg X.base CX k f fd ps sp) (hr:eB k X.A) (hb:fU X.K fd ps ds) (hd:bn dvs ds) (hx:kJ CX X E) (ha:PA X (e::es) t)
 (hst:starEach (e::es) X.env=(false,eval e X.env)::starEach es X.env:=by rfl) (hpl:(backTo pos (starEach es X.env)).any (·.1)=false:=by rfl)
 (ht:eval (.Call (.Attribute o m apos) (e::es) [] pos) X.env=(do
  let ov <-eval o X.env
  standAt apos.atName
  let (f,first) <-holding [ov] (getMethod ov m pl)
  callWith pos f first (backTo pos (starEach (e::es) X.env)) (backToKw pos (keywordEach [] X.env))):=by rfl):
 PE X (.Call (.Attribute o m apos) (e::es) [] pos) (GV C m sp dvs E ta t):=by
 intro pins s σ H Q I h;refine PySem.W.methodCall_KW (pl:=pl) (cJ (he pins s σ H _ I h) λ u s1 hq0=>?_) ht;obtain ⟨x,H1,I1,rx,a,dx,fs,ex,ea,l,q⟩:=hq0;subst ex;obtain rfl:u=Value.ref a:=rx;refine xf I1 ea c hm l ?_;refine PySem.W.callWith_K (first:=[.ref a]) (h₀:=X.base) I.ok.mod.kin hm.kp (cJ (ha pos pins s1 σ H1 _ I1 q) λ us s2 hy0=>?_) hst hpl;obtain ⟨vs,H2,I2,r,q2⟩:=hy0;refine ⟨I2.kIn,?_⟩;exact A9 (us:=.ref a::us) (vs:=.ref a::vs) F hr hb hd hx I2 (.cons rfl r) q2
structure Mk (K:Frag) (C f:Addr):Prop where
 makes:PySem.W.makesIn K C=true
 init:PySem.W.findIn K (.ref C) "__init__" = some (some (.ref f))
 fn:PySem.W.isFn K (.ref f)=true
 kp:PySem.W.keepIn K (.ref C)=true
def CF {pins:Δ} {σ:St} {H:Hp} {s:Shared} {Q:VK} {us:Φ} {vs:List V} (M:Mk X.K C f) (F:fF X.prog X.w X.K X.mg X.base CX k f fd ps sp) (hr:eB (k+1) X.A) (hb:fU X.K fd ps ds) (hd:bn dvs ds)
 (hx:kJ CX X E) (I:aR X pins σ H s) (r:bn vs us)
 (h:∀ x dx,H x=none->H dx=none->dx≠x->sp (.ref x::(vs++dvs)) (cK (cK H dx (.own x)) x (.ins C dx [])) (λ v H2=>v=.non/\Q (.ref x) H2) E):
 wpAny (model X.prog X.w) X.A (call (.ref C) us) (EP X pins σ Q) X.xe s:=by
 have hq:=h (s.heap.objs.size+1) s.heap.objs.size (I.hok.fresh (Nat.le_succ _)) (I.hok.fresh (QH _)) (Ro (RE _));have I2:=aR.made (C:=C) I;have r2:bn (V.ref (s.heap.objs.size+1)::(vs++dvs)) (Value.ref (s.heap.objs.size+1)::(us++ds)):=.cons rfl (r.append hd);have hl:(Value.ref (s.heap.objs.size+1)::us++ds).length=ps.length:=by
  have e:=r2.length;rw [F.len _ _ _ _ hq] at e;exact e.symm
 refine wpAny_call (BD (f:=f) I.kIn M.makes M.init (beq_iff_eq.mp M.fn) (codeAny_mono (F.run _ X.stack _ _ ⟨Value.ref (s.heap.objs.size+1)::us,[]⟩ (Value.ref (s.heap.objs.size+1)::(us++ds)) _ _ E (hr.make C us [])
  (I2.env0.make C us []) (hb _ (Value.ref (s.heap.objs.size+1)::us) I2.kIn hl) r2 hq) λ r s' hq'=>?_))
 cases r with
 | error e=>exact hx pins σ _ _ e s' I2 hq'
 | ok fl=>
  cases fl with
  | ret u=>
   obtain ⟨v,H',I3,rv,ev,q3⟩:=I2.after hq';subst ev;exact ⟨rv,⟨V.ref (s.heap.objs.size+1),H',I3,rfl,q3⟩⟩
  | next=>exact False.elim hq'
  | brk=>exact False.elim hq'
  | cont=>exact False.elim hq'
def Ao (M:Mk X.K C f) (F:fF X.prog X.w X.K X.mg X.base CX k f fd ps sp) (hr:eB (k+1) X.A) (hg:Gl X x) (hm:X.mg x=some (.ref C)) (hb:fU X.K fd ps ds) (hd:bn dvs ds) (hx:kJ CX X E)
 (hdb:(x==("__debug__" : Str))=false:=by decide):PE X (.Call (.Name x p) [] [] pos) (GA C sp dvs E jN):=by
 intro pins s σ H Q I h;refine wpAny_Call_Name_kw (rR I hg hm ?_ hdb);exact PySem.W.callWith_K0 I.kIn M.kp (CF (us:=[]) M F hr hb hd hx I .nil h)
end
section
variable {X:Cx} {CX:w9} {k:Nat} {f C:Addr} {fd:FuncData} {ps ks:Ω} {sp:Sp} {E:XK} {x m:Str} {p pos apos kpos:Pos} {e o:Expr} {es:List Expr} {kws:List Keyword} {te ta:TE} {t tk:TA} {nm:Option Str}
variable {g:List Value->List Value->Φ} {gV:List V->List V->List V}
end
structure gC (N P:Ω) (sc:Scope):Prop where
 kind:sc.kind=.function
 co:sc.isCoroutine=false
 gen:sc.isGenerator=false
 nd:N.Nodup
 pre:N.take P.length=P
 par:∀ x∈P,sc.names.lookup x=some .local∨sc.names.lookup x=some .cell
 nofree:∀ y∈sc.names,y.2≠.free
def re {kindOf:Str->Option NameKind} {x:Str}:∀ {binds:List (Str×Value)} {m:Θ},(∀ v,(x,v)∉binds)->bindL kindOf binds m x=m x
 | [],_,_=>rfl
 | (n,v)::r,m,h=>by
  unfold bindL;rw [re λ w hw=>h w (Rj _ hw)];split
  . have:x≠n:=by rintro rfl;exact h v Rf
    simp [this]
  . rfl
def qT {kindOf:Str->Option NameKind} {x:Str}:∀ {binds:List (Str×Value)} {m:Θ},(∀ v,(x,v)∉binds)->bindC kindOf binds m x=m x
 | [],_,_=>rfl
 | (n,v)::r,m,h=>by
  unfold bindC;rw [qT λ w hw=>h w (Rj _ hw)];split
  . rfl
  . have:x≠n:=by rintro rfl;exact h v Rf
    simp [this]
def qU {kindOf:Str->Option NameKind} {x:Str} {v:Value}:∀ {P:Ω} {vs:Φ} {i:Nat} {m:Θ},P.Nodup->P[i]?=some x->vs[i]?=some v->kindOf x=some .local->
 bindL kindOf (P.zip vs) m x=some v
 | [],_,_,_,_,h,_,_=>by simp at h
 | _::_,[],_,_,_,_,h,_=>by simp at h
 | p::P,w::vs,0,m,nd,h1,h2,hk=>by
  simp at h1 h2;subst h1;subst h2;show bindL kindOf ((p,w)::P.zip vs) m p=_;unfold bindL;rw [re λ v hv=>(Rp.mp nd).1 (R9 hv).1,QF hk];simp
 | p::P,w::vs,i+1,m,nd,h1,h2,hk=>by
  show bindL kindOf ((p,w)::P.zip vs) m x=_;unfold bindL;exact qU (i:=i) (Rp.mp nd).2 (by simpa using h1) (by simpa using h2) hk
def qV {kindOf:Str->Option NameKind} {x:Str} {v:Value}:∀ {P:Ω} {vs:Φ} {i:Nat} {m:Θ},P.Nodup->P[i]?=some x->vs[i]?=some v->kindOf x≠some .local->
 bindC kindOf (P.zip vs) m x=some v
 | [],_,_,_,_,h,_,_=>by simp at h
 | _::_,[],_,_,_,_,h,_=>by simp at h
 | p::P,w::vs,0,m,nd,h1,h2,hk=>by
  simp at h1 h2;subst h1;subst h2;show bindC kindOf ((p,w)::P.zip vs) m p=_;unfold bindC;rw [qT λ v hv=>(Rp.mp nd).1 (R9 hv).1,QS hk];simp
 | p::P,w::vs,i+1,m,nd,h1,h2,hk=>by
  show bindC kindOf ((p,w)::P.zip vs) m x=_;unfold bindC;exact qV (i:=i) (Rp.mp nd).2 (by simpa using h1) (by simpa using h2) hk
instance start (N:Ω) (vs:List V):St:=vs.map some++List.replicate (N.length-vs.length) none
instance xh (CX:w9) (P:Program) (w:World) (K:Frag) (mg:Θ) (base:Heap) (N:Ω) (qual:Str) (scope:Scope) (f:Addr) (cd:Value) (A:Around) (outer:List Env) (s:Shared) (H:Hp) (E:XK):Cx where
 prog:=P
 w:=w
 K:=K
 mg:=mg
 base:=base
 A:=A.deeper (envOfC qual scope s.heap.objs.size f cd)
 N:=N
 s₀:=s
 H₀:=H
 env:=envOfC qual scope s.heap.objs.size f cd
 outer:=outer
 stack:=envOfC qual scope s.heap.objs.size f cd::outer
 ex:=[]
 calm:=true
 fn:=λ _=>true
 pn:=[]
 xe:=λ e s'=>wpAny (model P w) (A.deeper (envOfC qual scope s.heap.objs.size f cd)) (leaving (envOfC qual scope s.heap.objs.size f cd) e) (λ _ s''=>CX outer H s E e s'') (λ e' s''=>CX outer H s E e' s'') s'
def uk {sc:Scope} {n:Nat} {x:Str} (h:sc.names.lookup x=some .cell):∃ c,(cellsFrom n sc.names []).lookup x=some c:=by
 have q:=PySem.W.cellsFrom_some sc.names n [] (.inl h);exact RP.mp q
def yW {CX:w9} {P:Program} {w:World} {K:Frag} {mg:Θ} {base:Heap} {N ps:Ω} {qual:Str} {scope:Scope} {f:Addr} {cd:Value} {A:Around} {outer:List Env} {s s1:Shared} {H:Hp} {E:XK} {us:Φ} {vs:List V}
 (S:gC N ps scope) (hd:A.handled=none) (e0:wO P w K mg base A outer s H) (hl:vs.length=ps.length) (r:bn vs us)
 (x:InCallC s s.heap.objs.size (bindL (envOfC qual scope s.heap.objs.size f cd).kindOf (ps.zip us) λ _=>none) (cellsFrom (s.heap.objs.size+1) scope.names []) (bindC (envOfC qual scope s.heap.objs.size f cd).kindOf (ps.zip us) λ _=>none) s1):
 aR (xh CX P w K mg base N qual scope f cd A outer s H E) [] (start N vs) H s1:=by
 have hpl:ps.length<=N.length:=by have:=Q9 List.length S.pre;rw [length_take] at this;omega
 obtain ⟨h1,tk,rfl,hk⟩:=x.done;have noA:∀ b:Addr,b∉(xh CX P w K mg base N qual scope f cd A outer s H E).ex:=λ b z=>absurd (show b∈([]:Ξ) from z) (by simp);refine ⟨⟨e0.mod,S.kind,rfl,rfl,QH _,λ y z c h1 h2=>?_,λ y hy=>?_,λ y c _ h=>?_,λ _=>hd,Around.frames_deeper e0.frames,.inr ⟨rfl,rfl⟩,λ b z=>absurd z (noA b),e0.bs,e0.bsz,λ b _ _=>noA b,λ b z=>absurd z (noA b),e0.funs,e0.frf⟩,
  rfl,e0.bare,Un.kept hk,⟨_,x.toInCall.ns,λ i y v h1 h2 h3=>?_⟩,λ y c h=>⟨_,x.cell y c h⟩,e0.hok.fresh (QH _),λ y c h=>?_,λ p hp=>absurd (show p∈([]:Δ) from hp) (by simp),e0.hok.kept hk,?_⟩
 . exact name_of_addr x.apart (Sm h1) (Sm h2)
 . have hy:scope.names.lookup y=some .cell∨scope.names.lookup y=some .free:=hy;rcases hy with hy | hy
   . exact uk hy
   . exact absurd rfl (S.nofree _ (Sm hy))
 . exact Sh (x.above y c (Sm h))
 . have hi:i<vs.length:=by
    unfold start at h2;by_cases hi:i<vs.length
    . exact hi
    . rw [RA (by simpa using hi)] at h2;rw [getElem?_replicate] at h2;split at h2 <;> cases h2
   have ha:vs[i]?=some v:=by
    unfold start at h2;rw [QV (by simpa using hi),Re] at h2;cases e:vs[i]? with
    | none=>rw [e] at h2;cases h2
    | some a=>rw [e] at h2;cases h2;rfl
   obtain ⟨u,hu,rv⟩:=r.get ha;have hp:ps[i]?=some y:=by
    rw [<-S.pre,List.getElem?_take_of_lt (by omega)];exact h1
   have ndP:ps.Nodup:=by rw [<-S.pre];exact S.nd.sublist (List.take_sublist _ _)
   refine ⟨u,rv,?_⟩;rcases S.par y (Rz hp) with k | k
   . exact .inl ⟨k,qU ndP hp hu k⟩
   . obtain ⟨c,e⟩:=uk (n:=s.heap.objs.size+1) k;refine .inr ⟨.inl k,c,e,?_⟩;have q:=x.cell y c e;rw [qV ndP hp hu (by show scope.names.lookup y≠_;rw [k];decide)] at q;exact q
 . exact e0.hok.fresh (Sh (x.above y c (Sm h)))
 . unfold start;show _=N.length;rw [QO,Rk,List.length_replicate];omega
def Lb {CX:w9} {P:Program} {w:World} {K:Frag} {mg:Θ} {base:Heap} {k:Nat} {f:Addr} {name qual:Str} {params:Arguments} {body:List Stmt} {scope:Scope} {dV kV doc pm cdv ct oc:Value} {an od:Option Addr}
 {osl:Array (Option Value)} {N ps:Ω} {sp:Sp} (lk:K.lookup f=some ⟨oc,od,.func (PySem.W.fnOf name qual params body scope dV kV doc pm an cdv ct),osl⟩) (hcd:PySem.W.codeIn K cdv qual=true) (S:gC N ps scope)
 (len:∀ vs H Q E,sp vs H Q E->vs.length=ps.length)
 (hbody:∀ (A:Around) (outer:List Env) (s:Shared) (H:Hp) (vs:List V) (Q:VK) (E:XK),eB k (A.deeper (envOfC qual scope s.heap.objs.size f cdv))->sp vs H Q E->
  ∃ t,vJ (xh CX P w K mg base N qual scope f cdv A outer s H E) body t/\t { nx:=λ _ H'=>Q .non H',rt:=Q } (start N vs) H):
 fF P w K mg base CX (k+1) f (PySem.W.fnOf name qual params body scope dV kV doc pm an cdv ct) ps sp:=by
 refine ⟨len,λ A outer s H args us vs Q E hr e0 hb r hsp=>?_⟩;have hl:=len _ _ _ _ hsp;have KX:K.In s.heap:=e0.mod.kin.keeps λ b o e=>(e0.bs b o e).1;have lim:s.heap.NoLimit:=e0.mod.nolimit.keeps λ b o e=>(e0.bs b o e).1;have hkind:∀ y∈ps.zip us,scope.names.lookup y.1=some .local∨(scope.names.lookup y.1=some .cell/\((cellsFrom (s.heap.objs.size+1) scope.names []).lookup y.1).isSome=true):=λ ⟨n,v⟩ hy=>by
  rcases S.par n (R9 hy).1 with q | q
  . exact .inl q
  . exact .inr ⟨q,PySem.W.cellsFrom_some _ _ _ (.inl q)⟩
 refine codeAny_call_function hr.depth (KX _ _ lk) rfl S.co S.gen rfl (PySem.W.codeRec_of KX hcd) (hb _ _ _ _ ?_);refine wpAny_newFunctionEnv_cells S.kind hkind λ env he s1 x=>?_;subst he;refine ⟨lim.keeps x.toInCall.keep,codeAny_func ?_⟩;obtain ⟨t,ht,hq⟩:=hbody A outer s H vs Q E (hr.deeper _) hsp;have I:aR (xh CX P w K mg base N qual scope f cdv A outer s H E) [] (start N vs) H s1:=yW S hr.hd e0 hl r x;refine Sk (ht [] s1 (start N vs) H _ I hq) (λ fl s' hs=>?_) λ e s' hs=>hs;have fin:∀ {σ':St} {H':Hp} {v:V} {u:Value},aR (xh CX P w K mg base N qual scope f cdv A outer s H E) [] σ' H' s'->br v u->Q v H'->CE outer P w H s Q u s':=
  λ {σ' H' v u} J rv q=>⟨v,H',J.os,J.bare,J.base,J.hok,rv,q⟩
 cases fl with
 | ret u=>
  obtain ⟨v,σ',H',J,rv,q⟩:=hs;exact fin J rv q
 | next=>
  obtain ⟨σ',H',J,q⟩:=hs;exact fin (v:=V.non) (u:=Value.none) J rfl q
 | brk=>
  obtain ⟨_,_,_,q⟩:=hs;exact False.elim q
 | cont=>
  obtain ⟨_,_,_,q⟩:=hs;exact False.elim q
section
variable {X:Cx} {x:Str} {p pos:Pos} {e:Expr} {es:List Expr} {t:TA} {id T:String} {r:List V->Hp->VK->Prop}
instance xK (r:List V->Hp->VK->Prop) (t:TA):TE:=λ σ H Q=>t σ H λ vs H1=>r vs H1 Q
def Cz (hc:cV X (.builtin id) r) (hg:Gl X x) (hm:X.mg x=none) (hv:bootBuiltins x=some (.builtin id)) (ha:PA X (e::es) t) (hn:x ≠ "__name__" := by decide) (hdb:(x==("__debug__" : Str))=false:=by decide)
 (he:starEach (e::es) X.env=(false,eval e X.env)::starEach es X.env:=by rfl) (hpl:(backTo pos (starEach es X.env)).any (·.1)=false:=by rfl):PE X (.Call (.Name x p) (e::es) [] pos) (xK r t):=by
 intro pins s σ H Q I h;refine wpAny_Call_Name_kw (m6 I hg hm hv ?_ hn hdb);exact PyProof.Rows.callWith_builtin1 (cJ (ha pos pins s σ H _ I h) λ us s1 hy0=>by obtain ⟨vs,H1,I1,r1,q1⟩:=hy0;exact hc pins s1 σ H1 vs us Q I1 r1 q1) he hpl
def qD (hc:cV X (.type T) r) (hg:Gl X x) (hm:X.mg x=none) (hv:bootBuiltins x=some (.type T)) (ha:PA X (e::es) t) (hn:x ≠ "__name__" := by decide) (hdb:(x==("__debug__" : Str))=false:=by decide)
 (he:starEach (e::es) X.env=(false,eval e X.env)::starEach es X.env:=by rfl) (hpl:(backTo pos (starEach es X.env)).any (·.1)=false:=by rfl):PE X (.Call (.Name x p) (e::es) [] pos) (xK r t):=by
 intro pins s σ H Q I h;refine wpAny_Call_Name_kw (m6 I hg hm hv ?_ hn hdb);exact Sn (cJ (ha pos pins s σ H _ I h) λ us s1 hy0=>by obtain ⟨vs,H1,I1,r1,q1⟩:=hy0;exact hc pins s1 σ H1 vs us Q I1 r1 q1) he hpl
end
end L2
namespace HT
open PySem PyProof.Rows
section
open PySem.SeqAt
open PySem.AutoSeq1 (wpAny_loadPart')
open PySem.MeetsSeq PySem.MeetsSeq2 PySem.MeetsSeq3
end
section
variable {prog:Program} {w:World} {A:Around} {E:Γ} {s:Shared}
def cat_tup {t b:Addr} {vs ws:Φ} {Q:Γ} (ht:IsTup s.heap t vs.toArray) (hb:IsTup s.heap b ws.toArray) (hv:vs≠[])
 (h1:ws=[]->Q (.ref t) s) (h2:ws≠[]->Q (.ref s.heap.objs.size) { s with heap:=s.heap.push { cls:=.type "tuple", data:=.seq (vs++ws).toArray } })
 (hsz:vs.length+ws.length<=sizeLine):wpAny (model prog w) A (binaryOp .Add (.ref t) (.ref b)) Q E s:=by
 obtain ⟨⟨cls,dd,data,sl⟩,ho,hc,n,hd⟩:=id ht;obtain ⟨⟨cls2,dd2,data2,sl2⟩,ho2,hc2,n2,hd2⟩:=id hb;simp only at hc hd hc2 hd2;subst hc hd hc2 hd2;have e:vs.toArray++ws.toArray=(vs++ws).toArray:=by simp
 by_cases hw:ws=[]
 . exact concat_meets ⟨_,ho,rfl⟩ ⟨_,ho2,rfl⟩ noFill_tuple_add seq_tuple_add PySem.F.slot_tuple_add PySem.F.entry_tuple_add (PySem.F.args_tuple_add_2 _ _)
    (tuple_addW1 t b vs.toArray ws.toArray n n2 dd dd2 sl sl2 (by simpa using hv) (by simp [hw])) ⟨ho,ho2,h1 hw⟩
 . refine concat_meets ⟨_,ho,rfl⟩ ⟨_,ho2,rfl⟩ noFill_tuple_add seq_tuple_add PySem.F.slot_tuple_add PySem.F.entry_tuple_add (PySem.F.args_tuple_add_2 _ _)
    (tuple_addW2 t b vs.toArray ws.toArray n n2 dd dd2 sl sl2 (by simpa using hv) (by simpa using hw) (by rw [size_toArray,size_toArray];exact hsz)) ⟨ho,ho2,?_⟩
   rw [e];exact h2 hw
instance sIx (n d:Nat):Option Int->Nat
 | none=>d
 | some v=>if v<0 then (v+(n:Int)).toNat else min v.toNat n
def sIx_none (n d:Nat):sIx n d none=d:=rfl
def sIx_nat (n d k:Nat):sIx n d (some (k:Int))=min k n:=by
 show (if (k:Int)<0 then ((k:Int)+(n:Int)).toNat else min (k:Int).toNat n)=min k n;rw [if_neg (by omega),toNat_natCast]
def JP (n d:Nat) (hd:d<=n) (o:Option Int):sIx n d o<=n:=by
 cases o with
 | none=>exact hd
 | some v=>
  show (if v<0 then (v+(n:Int)).toNat else min v.toNat n)<=n;by_cases hv:v<0
  . rw [if_pos hv];omega
  . rw [if_neg hv];exact Nat.min_le_right _ _
def yy (v:Int) (n d:Nat):(if v<0 then max (v+(n:Int)) 0 else min v (n:Int))=((sIx n d (some v):Nat):Int):=by
 show (if v<0 then max (v+(n:Int)) 0 else min v (n:Int))=(((if v<0 then (v+(n:Int)).toNat else min v.toNat n):Nat):Int)
 by_cases hv:v<0
 . simp only [if_pos hv];omega
 . simp only [if_neg hv];omega
def vX (lo hi:Option Int) (n:Nat):Builtin.Slice.sliceAdjust lo hi 1 (n:Int)=(((sIx n 0 lo:Nat):Int),((sIx n n hi:Nat):Int)):=by
 have h1:¬ ((1:Int)<0):=by omega
 unfold Builtin.Slice.sliceAdjust;simp only [h1,if_false];refine Prod.ext ?_ ?_
 . cases lo with
   | none=>rfl
   | some v=>exact yy v n 0
 . cases hi with
   | none=>rfl
   | some v=>exact yy v n n
def wR (i j:Nat):Builtin.Slice.slicePlaces (i:Int) (j:Int) 1=j-i:=by
 unfold Builtin.Slice.slicePlaces;have h1:(1:Int)>0:=by omega
 simp only [h1,if_true,Int.ediv_one];split <;> omega
def oP {v:Value} {o:Option Int} {Q:Option Int->Shared->Prop} (p:IsPart v o) (h:Q o s):wpAny (model prog w) A (Builtin.Slice.slicePartIndex v) Q E s:=by
 cases p with
 | none=>exact slicePart_none h
 | int i t=>exact slicePart_int h
def sliceApplied_gen {sl:Addr} {vl vu:Value} {lo hi:Option Int} {n:Nat} {Q:Int×Int×Nat->Shared->Prop} (hs:s.heap.IsSliceOf sl vl vu .none) (pl:IsPart vl lo) (pu:IsPart vu hi)
 (h:Q (((sIx n 0 lo:Nat):Int),1,sIx n n hi-sIx n 0 lo) s):wpAny (model prog w) A (Builtin.Slice.sliceApplied (.ref sl) (pure (n:Int))) Q E s:=by
 obtain ⟨os,hos,hcs,hds⟩:=id hs;unfold Builtin.Slice.sliceApplied Builtin.Slice.sliceFields;refine wpAny_bind (wpAny_bind (wpAny_field hos hds (x:=vl) rfl (wpAny_bind (wpAny_field hos hds (x:=vu) rfl (wpAny_bind (wpAny_field hos hds (x:=.none) rfl (wpAny_pure ?_)))))));refine wpAny_bind (slicePart_none ?_);show wpAny _ _ (if ((1:Int)==0)=true then _ else _) _ _ s;rw [if_neg (by decide)];refine wpAny_bind (oP pl (wpAny_bind (oP pu (wpAny_bind (wpAny_pure ?_)))));show wpAny _ _ (match Builtin.Slice.sliceAdjust lo hi 1 (n:Int) with | (lo,hi)=>pure (lo,(1:Int),Builtin.Slice.slicePlaces lo hi 1)) _ _ s;rw [vX lo hi n];show wpAny _ _ (pure (((sIx n 0 lo:Nat):Int),(1:Int),Builtin.Slice.slicePlaces ((sIx n 0 lo:Nat):Int) ((sIx n n hi:Nat):Int) 1)) _ _ s;rw [wR];exact wpAny_pure h
def Ap (xs:Array Value) (i k:Nat):((List.range k).filterMap λ (m:Nat)=>xs[((i:Int)+(m:Int)*1).toNat]?).toArray=((xs.toList.drop i).take k).toArray:=by
 have e:(λ (m:Nat)=>xs[((i:Int)+(m:Int)*1).toNat]?)=λ m=>xs[i+m]?:=by
  funext m;have:((i:Int)+(m:Int)*1).toNat=i+m:=by omega
  rw [this]
 rw [e];have:=pick_run xs i k;rw [List.filterMap_map] at this;have e2:((λ x=>xs[x]?) ∘ λ x=>i+x)=λ m=>xs[i+m]?:=rfl;rw [e2] at this;rw [this]
def getItem_tuple_cut {t sl:Addr} {items:Array Value} {vl vu:Value} {lo hi:Option Int} {Q:Γ} (ht:IsTup s.heap t items) (hs:s.heap.IsSliceOf sl vl vu .none) (pl:IsPart vl lo) (pu:IsPart vu hi)
 (hw:¬ (sIx items.size 0 lo=0/\sIx items.size items.size hi=items.size))
 (h:Q (.ref s.heap.objs.size) { s with heap:=s.heap.push { cls:=.type "tuple", data:=.seq ((items.toList.drop (sIx items.size 0 lo)).take (sIx items.size items.size hi-sIx items.size 0 lo)).toArray } })
 (hsz:items.size<=sizeLine):wpAny (model prog w) A (getItem (.ref t) (.ref sl)) Q E s:=by
 have htake:sizeOk (.seq ((items.toList.drop (sIx items.size 0 lo)).take (sIx items.size items.size hi-sIx items.size 0 lo)).toArray):=by
  show ((items.toList.drop (sIx items.size 0 lo)).take (sIx items.size items.size hi-sIx items.size 0 lo)).toArray.size<=sizeLine;rw [size_toArray,length_take,length_drop,Array.length_toList];omega
 have hj:sIx items.size items.size hi<=items.size:=JP _ _ (Nat.le_refl _) hi;obtain ⟨os,hos,hcs,hds⟩:=id hs;have hTs:s.TypeIs (.ref sl) "slice" := ⟨os,hos,hcs⟩
 unfold getItem;try with_reducible refine wpAny_holding ?_
 first | refine wpAny_bind (wpAny_pure ?_) | skip
 refine wpAny_bind (wpAny_sequenceKey ht.typeIs (by decide) ?_);refine wpAny_bind (wpAny_callSpecial?_slot (name:=Str.ofString "__getitem__") ht.typeIs PyProof.Rows.slot_tuple_getitem
  (wpAny_call_entry PyProof.Rows.slot_tuple_getitem ht.typeIs entry_tuple_getitem ?_ (args_tuple_getitem _ _)))
 show wpAny _ _ (Builtin.Tuple.tupleItemsOf (.ref t) >>= _) _ _ s;refine wpAny_bind (tupleItemsOf_ ht ?_);refine wpAny_bind (wpAny_typeOf hTs ?_);rw [if_pos (by decide)];refine wpAny_bind (sliceApplied_gen hs pl pu ?_);have hno:¬ ((((sIx items.size 0 lo:Nat):Int)==0&&(1:Int)==1&&(sIx items.size items.size hi-sIx items.size 0 lo)==items.size)=true):=by
  intro q;rw [Bool.and_eq_true,Bool.and_eq_true] at q;have q1:((sIx items.size 0 lo:Nat):Int)=0:=eq_of_beq q.1.1;have q2:sIx items.size items.size hi-sIx items.size 0 lo=items.size:=eq_of_beq q.2;exact hw ⟨by omega,by omega⟩
 show wpAny _ _ (if (((sIx items.size 0 lo:Nat):Int)==0&&(1:Int)==1&&(sIx items.size items.size hi-sIx items.size 0 lo)==items.size)=true then _ else _) _ _ s;rw [if_neg hno,Ap];first
  | exact wpAny_bind (m:=Builtin.Tuple.tupleExact _) (wpAny_newObj_type (wpAny_pure ⟨_,rfl,wpAny_pure h⟩) htake)
  | exact wpAny_bind (m:=Builtin.Tuple.tupleExact _) (wpAny_newObj_type (wpAny_bind (wpAny_pure (wpAny_pure ⟨_,rfl,wpAny_pure h⟩))) htake)
  | exact wpAny_bind (wpAny_bind (m:=Builtin.Tuple.tupleExact _) (wpAny_newObj_type (wpAny_pure (wpAny_pure ⟨_,rfl,wpAny_pure h⟩)) htake))
  | exact wpAny_bind (wpAny_bind (m:=Builtin.Tuple.tupleExact _) (wpAny_newObj_type (wpAny_pure ⟨_,rfl,wpAny_pure h⟩) htake))
end
end HT
namespace L2
open PySem PySem.Spec PyProof.Rows
open PySem.W (Frag)
noncomputable abbrev TO:=St->Hp->(Option Int->Hp->Prop)->Prop
instance PO (X:Cx) (e:Option Expr) (t:TO):Prop:=
 ∀ (pins:Δ) (s:Shared) (σ:St) (H:Hp) (Q:Option Int->Hp->Prop),aR X pins σ H s->t σ H Q->
  wpAny (model X.prog X.w) X.A (evalPart e X.env) (λ u s'=>∃ o H',aR X pins σ H' s'/\IsPart u o/\Q o H') X.xe s
instance ym:TO:=λ _ H Q=>Q none H
instance FS (t:TE):TO:=λ σ H Q=>t σ H λ x H1=>∃ i,x=.int i/\Q (some i) H1
section
variable {X:Cx} {e:Expr} {te:TE} {lo hi:Option Expr} {tl th:TO} {pos p2:Pos}
def N2:PO X none ym:=by
 intro pins s σ H Q I h;rw [evalPart_none];exact QN ⟨none,H,I,.none,h⟩
def Nb (h:PE X e te):PO X (some e) (FS te):=by
 intro pins s σ H Q I hw;rw [evalPart_some];refine cJ (h pins s σ H _ I hw) λ u s1 hq0=>?_;obtain ⟨x,H1,I1,r1,q1⟩:=hq0;obtain ⟨i,rfl,q⟩:=q1;obtain ⟨t,rfl⟩:=r1;exact ⟨some i,H1,I1,.int i t,q⟩
instance ET (X:Cx) (r:V->Option Int->Option Int->Hp->VK->Prop):Prop:=
 ∀ (pins:Δ) (s:Shared) (σ:St) (H:Hp) (x:V) (v vl vu:Value) (lo hi:Option Int) (sl:Addr) (Q:VK),aR X pins σ H s->br x v->s.heap.IsSliceOf sl vl vu .none->IsPart vl lo->IsPart vu hi->r x lo hi H Q->
  ∃ T id,typeLookup (.type T) "__getitem__" = pure (some (.builtin id))/\s.TypeIs v T/\wpAny (model X.prog X.w) X.A (getItem v (.ref sl)) (EP X pins σ Q) X.xe s
instance Nu (r:V->Option Int->Option Int->Hp->VK->Prop) (te:TE) (tl th:TO):TE:=λ σ H Q=>te σ H λ x H1=>tl σ H1 λ l H2=>th σ H2 λ u H3=>r x l u H3 Q
def M1 {r:V->Option Int->Option Int->Hp->VK->Prop} (hr:ET X r) (he:PE X e te) (hl:PO X lo tl) (hu:PO X hi th):PE X (.Subscript e (.Slice lo hi none p2) pos) (Nu r te tl th):=by
 intro pins s σ H Q I h;refine Subscript_ (cJ (he pins s σ H _ I h) λ v s1 hq0=>?_);obtain ⟨x,H1,I1,r1,q1⟩:=hq0;refine wpAny_Slice (cJ (hl pins s1 σ H1 _ I1 q1) λ vl s2 hy0=>?_);obtain ⟨l,H2,I2,pl,q2⟩:=hy0;refine cJ (hu pins s2 σ H2 _ I2 q2) λ vu s3 hq0=>?_;obtain ⟨u,H3,I3,pu,q3⟩:=hq0;rw [evalPart_none];refine QN ?_;have I4:aR X pins σ H3 { s3 with heap:=s3.heap.push { cls:=.type "slice", data:=.fields #[vl,vu,.none] } }:=I3.kept (t':=s3.toks) λ b ob q=>QX _ q;obtain ⟨T,id,hT,ht,hg⟩:=hr pins { s3 with heap:=s3.heap.push { cls:=.type "slice", data:=.fields #[vl,vu,.none] } } σ H3 x v vl vu l u s3.heap.objs.size Q I4 r1 (Heap.IsSliceOf.new ..) pl pu q3;show wpAny (model X.prog X.w) X.A (subscriptTail e (.Slice lo hi none p2) v (.ref s3.heap.objs.size)) (EP X pins σ Q) X.xe { s3 with heap:=s3.heap.push { cls:=.type "slice", data:=.fields #[vl,vu,.none] } };exact tail_any (ops:=[.ref s3.heap.objs.size,v]) ht hT hg (by with_unfolding_all rfl)
instance qk (xs:List V) (lo hi:Option Int):List V:=(xs.drop (HT.sIx xs.length 0 lo)).take (HT.sIx xs.length xs.length hi-HT.sIx xs.length 0 lo)
def ng (xs:List V) (lo hi:Option Int):(qk xs lo hi).length<=xs.length:=by
 unfold qk;rw [length_take,length_drop];omega
instance ME (K:Frag):V->Option Int->Option Int->Hp->VK->Prop:=λ x lo hi H Q=>∃ a xs,x=.ref a/\fg K H a xs/\
 ¬ (HT.sIx xs.length 0 lo=0/\HT.sIx xs.length xs.length hi=xs.length)/\∀ p,H p=none->Q (.ref p) (cK H p (.tup (qk xs lo hi)))
def Ic:ET X (ME X.K):=by
 intro pins s σ H x v vl vu lo hi sl Q I rx hs pl pu h;obtain ⟨a,xs,rfl,hx,hw,q⟩:=h;cases rx;obtain ⟨its,r,ht,hz⟩:=I.tuple hx;have hlen:its.toArray.size=xs.length:=by rw [QQ];exact r.length.symm
 refine ⟨"tuple", _,Sb.lookup,ht.typeIs,?_⟩;refine HT.getItem_tuple_cut ht hs pl pu (by rw [hlen];exact hw) ?_ (by rw [hlen];exact hz);rw [hlen];refine ⟨.ref s.heap.objs.size,_,I.laid (t':=s.toks) (o:=.tup (qk xs lo hi)) (λ b ob q=>QX _ q) (QH _) ?_,rfl,q _ (I.hok.fresh (QH _))⟩;exact ⟨Rh (ng xs lo hi) hz,_,(r.drop (HT.sIx xs.length 0 lo)).take (HT.sIx xs.length xs.length hi-HT.sIx xs.length 0 lo),IsTup.new _ _⟩
instance Gg (K:Frag):R2:=λ x y H Q=>∃ a b xs ys,x=.ref a/\y=.ref b/\fg K H a xs/\fg K H b ys/\xs≠[]/\xs.length+ys.length<=sizeLine/\
 (ys=[]->Q (.ref a) H)/\(ys≠[]->∀ p,H p=none->Q (.ref p) (cK H p (.tup (xs++ys))))
def bn.nil_iff {xs:List V} {us:Φ} (r:bn xs us):us=[]↔xs=[]:=by
 cases r with
 | nil=>simp
 | cons _ _=>simp
def Dm:gy X (binaryOp .Add) (Gg X.K):=by
 intro pins s σ H x y v u Q I rx ry h;obtain ⟨a,b,xs,ys,rfl,rfl,ha,hb,hx,hz,q1,q2⟩:=h;cases rx;cases ry;obtain ⟨its,r1,p1,_⟩:=I.tuple ha;obtain ⟨its2,r2,p2,_⟩:=I.tuple hb;refine HT.cat_tup p1 p2 (λ z=>hx (r1.nil_iff.mp z)) (λ z=>⟨.ref a,H,I,rfl,q1 (r2.nil_iff.mp z)⟩) (λ z=>?_) (by rw [<-r1.length,<-r2.length];exact hz);refine ⟨.ref s.heap.objs.size,_,I.laid (t':=s.toks) (o:=.tup (xs++ys)) (λ b ob q=>QX _ q) (QH _) ?_,rfl,q2 (λ w=>z (r2.nil_iff.mpr w)) _ (I.hok.fresh (QH _))⟩;exact ⟨by rw [QO];exact hz,_,r1.append r2,IsTup.new _ _⟩
end
instance vL (n:Nat) (i:Int):Option Nat:=if 0<=i then (if i<n then some i.toNat else none) else if -(n:Int)<=i then some (i+n).toNat else none
instance gz {α:Type} (xs:List α) (i:Int):Option α:=(vL xs.length i).bind λ j=>xs[j]?
def yL {n:Nat} {i:Int} {j:Nat} (h:vL n i=some j):seqIndex? i n=some j/\j<n /\ -(n:Int)<=i/\i<n:=by
 unfold vL at h;by_cases h0:0<=i
 . rw [QF h0] at h;by_cases h1:i<n
   . rw [QF h1] at h;have e:i.toNat=j:=Rv h;exact ⟨by rw [seqIndex_of h0 h1,e],by omega,by omega,h1⟩
   . rw [QS h1] at h;cases h
 . rw [QS h0] at h;by_cases h1 : -(n:Int)<=i
   . rw [QF h1] at h;have e:(i+n).toNat=j:=Rv h;exact ⟨by rw [seqIndex_neg (by omega) h1,e],by omega,h1,by omega⟩
   . rw [QS h1] at h;cases h
def nZ {α:Type} {xs:List α} {i:Int} {v:α} (h:gz xs i=some v):∃ j,seqIndex? i xs.length=some j/\xs[j]?=some v/\j<xs.length /\ -(xs.length:Int)<=i/\i<xs.length:=by
 unfold gz at h;cases e:vL xs.length i with
 | none=>rw [e] at h;cases h
 | some j=>
  rw [e] at h;obtain ⟨h1,h2,h3,h4⟩:=yL e;exact ⟨j,h1,h,h2,h3,h4⟩
instance D8 (b:Expr):Prop:=∀ o i,subscripted b false o i=operate [o,i] (getItem o i)
instance Cu (X:Cx) (r:R2):Prop:=
 ∀ (value slice:Expr) (pins:Δ) (s:Shared) (σ:St) (H:Hp) (x y:V) (v u:Value) (Q:VK),aR X pins σ H s->br x v->br y u->r x y H Q->
  subscripted slice false v u=operate [v,u] (getItem v u)->wpAny (model X.prog X.w) X.A (subscriptTail value slice v u) (EP X pins σ Q) X.xe s
instance Lx (X:Cx) (id:String) (r:V->List V->Hp->VK->Prop):Prop:=
 ∀ (pins:Δ) (s:Shared) (σ:St) (H:Hp) (x:V) (xs:List V) (v:Value) (us:Φ) (Q:VK),aR X pins σ H s->br x v->bn xs us->r x xs H Q->
  wpAny (model X.prog X.w) X.A (call (.builtin id) (v::us)) (EP X pins σ Q) X.xe s
section
variable {X:Cx} {a b:Expr} {ta tb:TE} {pos:Pos}
def Cu.or {r r':R2} (h:Cu X r) (h':Cu X r'):Cu X (λ x y H Q=>r x y H Q∨r' x y H Q):=by
 intro value slice pins s σ H x y v u Q I rx ry q hs;rcases q with q | q
 . exact h value slice pins s σ H x y v u Q I rx ry q hs
 . exact h' value slice pins s σ H x y v u Q I rx ry q hs
def Pm {r:R2} (hr:Cu X r) (ha:PE X a ta) (hb:PE X b tb) (hs:D8 b):PE X (.Subscript a b pos) (qH r ta tb):=by
 intro pins s σ H Q I h;exact Subscript_ (Ii ha hb I h λ v u s2 x y H2 I2 rx ry q=>hr a b pins s2 σ H2 x y v u Q I2 rx ry q (hs _ _))
instance M4 (K:Frag):R2:=λ x y H Q=>∃ p xs i v,x=.ref p/\y=.int i/\cR K H p xs/\gz xs i=some v/\Q v H
instance Lc (K:Frag):R2:=λ x y H Q=>∃ p xs i v,x=.ref p/\y=.int i/\fg K H p xs/\gz xs i=some v/\Q v H
instance KE:R2:=λ x y H Q=>∃ z i c,x=.str z/\y=.int i/\z.length<=sizeLine/\gz z.cps.toList i=some c/\Q (.str ⟨#[c]⟩) H
def Ed:Cu X (M4 X.K):=by
 intro value slice pins s σ H x y v u Q I rx ry h hs;obtain ⟨p,xs,i,z,rfl,rfl,hq,he,q⟩:=h;cases rx;obtain ⟨t,rfl⟩:=ry;obtain ⟨its,r,pl,hz⟩:=I.list hq;obtain ⟨j,h1,h2,h3,h4,h5⟩:=nZ he;obtain ⟨w,ew,rw'⟩:=r.get h2;have hl:=r.length;have hn:=k8;have fin:EP X pins σ Q w s:=⟨z,H,I,rw',q⟩
 by_cases h0:0<=i
 . have hj:i.toNat=j:=by
    rw [seqIndex_of h0 h5] at h1;exact Rv h1
   exact item_listR pl.isList h0 (by omega) (by rw [hj];simpa using ew) fin hs
 . have hj:(i+(its.toArray.size:Int)).toNat=j:=by
    rw [seqIndex_neg (by omega) h4] at h1;rw [QQ,<-hl];exact Rv h1
   exact subscriptTail_builtinR (x:=w) pl.isList.typeIs slot_list_getitem.lookup
    (wpAny_getItem_list_neg (Q:=λ r s'=>r=w/\EP X pins σ Q r s') pl.isList (by omega) (by rw [QQ] <;> omega) (by omega) (by rw [hj];simpa using ew) ⟨rfl,fin⟩) hs
def Hh:Cu X (Lc X.K):=by
 intro value slice pins s σ H x y v u Q I rx ry h hs;obtain ⟨p,xs,i,z,rfl,rfl,hq,he,q⟩:=h;cases rx;obtain ⟨t,rfl⟩:=ry;obtain ⟨its,r,pl,hz⟩:=I.tuple hq;obtain ⟨j,h1,h2,h3,h4,h5⟩:=nZ he;obtain ⟨w,ew,rw'⟩:=r.get h2;have hl:=r.length;have hn:=k8;have fin:EP X pins σ Q w s:=⟨z,H,I,rw',q⟩
 exact subscriptTail_builtinR (x:=w) pl.typeIs slot_tuple_getitem.lookup
  (getItem_tuple (j:=j) (Q:=λ r s'=>r=w/\EP X pins σ Q r s') pl (by omega) (by omega) (by rw [QQ,<-hl];exact h1) (by simpa using ew) ⟨rfl,fin⟩) hs
def Jq:Cu X KE:=by
 intro value slice pins s σ H x y v u Q I rx ry h hs;obtain ⟨z,i,c,rfl,rfl,hz,he,q⟩:=h;obtain ⟨t,rfl⟩:=rx;obtain ⟨t',rfl⟩:=ry;obtain ⟨j,h1,h2,h3,h4,h5⟩:=nZ he;have hl:z.cps.toList.length=z.length:=by simp [Str.length]
 rw [hl] at h1 h4 h5;have hn:=k8;exact tail_any (typeIs_str s z t) slot_str_getitem.lookup (getItem_str (c:=c) (by
  have e1:decide (i < -(2^63:Int))=false:=QJ (by omega);have e2:decide (i ≥ 2^63)=false:=QJ (by omega);rw [e1,e2,Bool.or_false]) (by rw [h1];simpa using h2) ⟨.str ⟨#[c]⟩,H,I.tok _,⟨_,rfl⟩,q⟩) hs
instance N1 (K:Frag):R2:=λ x y H Q=>M4 K x y H Q∨Lc K x y H Q∨KE x y H Q
def Iy:Cu X (N1 X.K):=Ed.or (Hh.or Jq)
def xi (its:Φ) (n j:Nat) (u:Value):Obj.mapSeq (·.setIfInBounds j u) { cls:=.type "list", data:=.seq its.toArray n }={ cls:=.type "list", data:=.seq (its.set j u).toArray n }:=by
 simp [Obj.mapSeq]
def aR.lst {pins:Δ} {σ:St} {H:Hp} {s:Shared} {p:Addr} {xs:List V} (I:aR X pins σ H s) (h:H p=some (.lst xs)):
 ∃ (its:Φ) (n:Nat),bn xs its/\s.heap.get? p=some { cls:=.type "list", data:=.seq its.toArray n }/\xs.length<=sizeLine:=by
 obtain ⟨z,its,n,r,e⟩:=I.hok p _ h;exact ⟨its,n,r,e,z⟩
def aR.lstUpd {pins:Δ} {σ:St} {H:Hp} {s:Shared} {p:Addr} {xs ys:List V} {its its':Φ} {n n':Nat} {f:Obj->Obj} (I:aR X pins σ H s) (h:H p=some (.lst xs))
 (ho:s.heap.get? p=some { cls:=.type "list", data:=.seq its.toArray n }) (hf:f { cls:=.type "list", data:=.seq its.toArray n }={ cls:=.type "list", data:=.seq its'.toArray n' }) (r:bn ys its') (hz:ys.length<=sizeLine) (t:Nat):
 aR X pins σ (cK H p (.lst ys)) { s with heap:=s.heap.update p f,toks:=t }:=by
 have e:(s.heap.update p f).get? p=some { cls:=.type "list", data:=.seq its'.toArray n' }:=by
  rw [get?_update_self f ho (by rw [hf] <;> rfl),hf]
 refine I.write (x:=p) (e:=p) (by rw [h];trivial) (.inl rfl) (λ b u hb q=>(Heap.get?_update_other _ _ (RM hb)).trans q) ⟨_,e⟩ ?_;exact ⟨hz,its',n',r,e⟩
instance xX:V->V->V->Hp->(Hp->Prop)->Prop:=λ o i v H Q=>∃ p xs k j,o=.ref p/\i=.int k/\H p=some (.lst xs)/\vL xs.length k=some j/\Q (cK H p (.lst (xs.set j v)))
def Bi:Kr X xX:=by
 intro pins s σ H o i v ov iv u Q I ro ri rv h;obtain ⟨p,xs,k,j,rfl,rfl,hp,hj,q⟩:=h;cases ro;obtain ⟨t,rfl⟩:=ri;obtain ⟨its,n,r,ho,hz⟩:=I.lst hp;obtain ⟨h1,h2,h3,h4⟩:=yL hj;have hl:=r.length;have hn:=k8;have I':aR X pins σ (cK H p (.lst (xs.set j v))) { s with heap:=s.heap.update p (Obj.mapSeq (·.setIfInBounds j u)) }:=
  I.lstUpd hp ho (xi its n j u) (r.set rv j) (by rw [Sa];exact hz) s.toks
 by_cases h0:0<=k
 . have hk:k.toNat=j:=by
    rw [seqIndex_of h0 h4] at h1;exact Rv h1
   exact PySem.W.ki_setAt ho h0 (by omega) (by rw [QQ,<-hl];exact h4) (by rw [hk];exact ⟨_,I',q⟩)
 . have hk:(k+(its.toArray.size:Int)).toNat=j:=by
    rw [seqIndex_neg (by omega) h3] at h1;rw [QQ,<-hl];exact Rv h1
   exact PySem.W.ki_setBack ho (by omega) (by rw [QQ,<-hl];exact h3) (by omega) (by rw [hk];exact ⟨_,I',q⟩)
def sI (lo hi:Option Int) (n:Nat):(sliceBounds lo hi none n).1=((HT.sIx n 0 lo:Nat):Int)/\(sliceBounds lo hi none n).2.1=((HT.sIx n n hi:Nat):Int)/\(sliceBounds lo hi none n).2.2=1:=by
 refine ⟨?_,?_,rfl⟩
 . cases lo with
   | none=>simp [sliceBounds,HT.sIx]
   | some i=>
    simp only [sliceBounds,HT.sIx,getD_none,show (1:Int)>0 by decide,RW];by_cases h:i<0
    . simp only [h,RW] <;> omega
    . simp only [h,SF] <;> omega
 . cases hi with
   | none=>simp [sliceBounds,HT.sIx]
   | some i=>
    simp only [sliceBounds,HT.sIx,getD_none,show (1:Int)>0 by decide,RW];by_cases h:i<0
    . simp only [h,RW] <;> omega
    . simp only [h,SF] <;> omega
def qg (its:Φ) (lo hi:Option Int):slicePick its.toArray lo hi none=((its.drop (HT.sIx its.length 0 lo)).take (HT.sIx its.length its.length hi-HT.sIx its.length 0 lo)).toArray:=by
 obtain ⟨h1,h2,h3⟩:=sI lo hi its.toArray.size;unfold slicePick;rw [h1,h2,h3];simp only [sliceRange_one,pick_run,QQ] <;> rfl
instance Lu (K:Frag):V->Option Int->Option Int->Hp->VK->Prop:=λ x lo hi H Q=>∃ a xs,x=.ref a/\cR K H a xs/\∀ p,H p=none->Q (.ref p) (cK H p (.lst (qk xs lo hi)))
def Fd:ET X (Lu X.K):=by
 intro pins s σ H x v vl vu lo hi sl Q I rx hs pl pu h;obtain ⟨a,xs,rfl,hx,q⟩:=h;cases rx;obtain ⟨its,r,ht,hz⟩:=I.list hx;have hlen:=r.length;refine ⟨"list", _,slot_list_getitem.lookup,ht.isList.typeIs,?_⟩;refine wpAny_getItem_list_slice ht.isList hs pl pu .none (by simp) ?_ (by rw [QQ] <;> omega);rw [qg,<-hlen];refine ⟨.ref s.heap.objs.size,_,I.laid (t':=s.toks) (o:=.lst (qk xs lo hi)) (λ b ob q=>QX _ q) (QH _) ?_,rfl,q _ (I.hok.fresh (QH _))⟩;exact ⟨Rh (ng xs lo hi) hz,_,0,(r.drop (HT.sIx xs.length 0 lo)).take (HT.sIx xs.length xs.length hi-HT.sIx xs.length 0 lo),Rg _ rfl⟩
instance fV:V->Bool
 | .non=>true
 | .bl _=>true
 | .int _=>true
 | .str _=>true
 | _=>false
instance CI:V->V->Bool
 | .non,.non=>true
 | .bl a,.bl b=>a==b
 | .bl a,.int b=>(if a then 1 else 0)==b
 | .int a,.bl b=>a==(if b then 1 else 0)
 | .int a,.int b=>a==b
 | .str a,.str b=>a==b
 | _,_=>false
def JG {A:Around} {s:Shared} {y x:V} {u v:Value} (ry:br y u) (rx:br x v) (fy:fV y=true) (fx:fV x=true):SeqAt.EqAt A s u v (CI y x):=by
 cases y with
 | non=>
  cases ry;cases x with
  | non=>cases rx;exact SeqAt.EqAt.same _
  | bl b=>cases rx;exact SeqAt.EqAt.none_bool b
  | int b=>obtain ⟨t,rfl⟩:=rx;exact SeqAt.EqAt.none_int b t
  | str b=>obtain ⟨t,rfl⟩:=rx;exact SeqAt.EqAt.none_str b t
  | _=>exact absurd (show false=true from fx) QU
 | bl a=>
  cases ry;cases x with
  | non=>cases rx;exact SeqAt.EqAt.bool_none a
  | bl b=>cases rx;exact SeqAt.EqAt.bool_bool a b
  | int b=>obtain ⟨t,rfl⟩:=rx;exact SeqAt.EqAt.bool_int a b t
  | str b=>obtain ⟨t,rfl⟩:=rx;exact SeqAt.EqAt.bool_str a b t
  | _=>exact absurd (show false=true from fx) QU
 | int a=>
  obtain ⟨t',rfl⟩:=ry;cases x with
  | non=>cases rx;exact SeqAt.EqAt.int_none a t'
  | bl b=>cases rx;exact SeqAt.EqAt.int_bool a t' b
  | int b=>obtain ⟨t,rfl⟩:=rx;exact SeqAt.EqAt.int_int a t' b t
  | str b=>obtain ⟨t,rfl⟩:=rx;exact SeqAt.EqAt.int_str a t' b t
  | _=>exact absurd (show false=true from fx) QU
 | str a=>
  obtain ⟨t',rfl⟩:=ry;cases x with
  | non=>cases rx;exact SeqAt.EqAt.str_none a t'
  | bl b=>cases rx;exact SeqAt.EqAt.str_bool a t' b
  | int b=>obtain ⟨t,rfl⟩:=rx;exact SeqAt.EqAt.str_int a t' b t
  | str b=>obtain ⟨t,rfl⟩:=rx;exact SeqAt.EqAt.str_str a t' b t
  | _=>exact absurd (show false=true from fx) QU
 | _=>exact absurd (show false=true from fy) QU
instance w5 (x:V) (u:Value):Bool:=match u with
 | .none=>CI .non x
 | .bool b=>CI (.bl b) x
 | .int i _=>CI (.int i) x
 | .str z _=>CI (.str z) x
 | _=>false
def CS {x y:V} {u:Value} (r:br y u) (f:fV y=true):w5 x u=CI y x:=by
 cases y with
 | non=>cases r;rfl
 | bl b=>cases r;rfl
 | int i=>obtain ⟨t,rfl⟩:=r;rfl
 | str z=>obtain ⟨t,rfl⟩:=r;rfl
 | _=>exact absurd (show false=true from f) QU
def oj {x:V} {xs:List V} {us:Φ} (h:bn xs us):xs.all fV=true->us.any (w5 x)=xs.any λ y=>CI y x:=by
 induction h with
 | nil=>exact λ _=>rfl
 | cons r _ ih=>
  intro f;rw [all_cons,Rb] at f;rw [RQ,RQ,CS r f.1,ih f.2]
def lC {A:Around} {s:Shared} {x:V} {v:Value} (rx:br x v) (fx:fV x=true):∀ {xs:List V} {us:Φ},bn xs us->xs.all fV=true->∀ u∈us,SeqAt.EqAt A s u v (w5 x u):=λ h f u' hu=>by
 induction h with
 | nil=>cases hu
 | cons r _ ih=>
  rw [all_cons,Rb] at f;rcases QE.mp hu with rfl | hu
  . rw [CS r f.1];exact JG r rx f.1 fx
  . exact ih f.2 hu
instance FJ (x:V) (xs:List V):Bool:=xs.any λ y=>CI y x
instance Ee (K:Frag) (neg:Bool):R2:=λ x y H Q=>∃ p xs,y=.ref p/\(cR K H p xs∨fg K H p xs)/\fV x=true/\xs.all fV=true/\Q (.bl (if neg then !FJ x xs else FJ x xs)) H
def qI:gy X (compareOp .In) (Ee X.K false):=by
 intro pins s σ H x y v u Q I rx ry h;obtain ⟨p,xs,rfl,hq,fx,fs,q⟩:=h;cases ry;rcases hq with hq | hq
 . obtain ⟨its,r,pl,hz⟩:=I.list hq;refine SeqAt.in_listAt (w5 x) pl.isList (λ w hw=>lC rx fx r fs w (by simpa using hw)) ⟨.bl _,H,I,rfl,?_⟩;rw [show its.toArray.any (w5 x)=its.any (w5 x) by simp,oj r fs];exact q
 . obtain ⟨its,r,pl,hz⟩:=I.tuple hq;refine SeqAt.in_tupleAt (w5 x) pl (λ w hw=>lC rx fx r fs w (by simpa using hw)) ⟨.bl _,H,I,rfl,?_⟩;rw [show its.toArray.any (w5 x)=its.any (w5 x) by simp,oj r fs];exact q
def sW:gy X (compareOp .NotIn) (Ee X.K true):=by
 intro pins s σ H x y v u Q I rx ry h;obtain ⟨p,xs,rfl,hq,fx,fs,q⟩:=h;cases ry;rcases hq with hq | hq
 . obtain ⟨its,r,pl,hz⟩:=I.list hq;refine SeqAt.notIn_listAt (w5 x) pl.isList (λ w hw=>lC rx fx r fs w (by simpa using hw)) ⟨.bl _,H,I,rfl,?_⟩;rw [show its.toArray.any (w5 x)=its.any (w5 x) by simp,oj r fs];exact q
 . obtain ⟨its,r,pl,hz⟩:=I.tuple hq;refine SeqAt.notIn_tupleAt (w5 x) pl (λ w hw=>lC rx fx r fs w (by simpa using hw)) ⟨.bl _,H,I,rfl,?_⟩;rw [show its.toArray.any (w5 x)=its.any (w5 x) by simp,oj r fs];exact q
def sf:cV X (.builtin "len") (λ xs H Q=>∃ p ys,xs=[.ref p]/\(cR X.K H p ys∨fg X.K H p ys)/\Q (.int ys.length) H):=by
 intro pins s σ H xs us Q I r h;obtain ⟨p,ys,rfl,hq,q⟩:=h;obtain ⟨u,rfl,rx⟩:=qK r;cases rx;have hn:=k8;rcases hq with hq | hq
 . obtain ⟨its,r',pl,hz⟩:=I.list hq;have hlen:=r'.length;exact Calls.call_len_list pl.isList (by simp only [QQ] <;> omega) ⟨.int ys.length,H,I.tok _,⟨s.toks+1,by rw [QQ,hlen]⟩,q⟩
 . obtain ⟨its,r',pl,hz⟩:=I.tuple hq;have hlen:=r'.length;exact len_tuple pl (by simp only [QQ] <;> omega) ⟨.int ys.length,H,I.tok _,⟨s.toks+1,by rw [QQ,hlen]⟩,q⟩
def sk:cV X (.builtin "len") (λ xs H Q=>∃ z,xs=[.str z]/\z.length<=sizeLine/\Q (.int z.length) H):=by
 intro pins s σ H xs us Q I r h;obtain ⟨z,rfl,hz,q⟩:=h;obtain ⟨u,rfl,t,rfl⟩:=qK r;have hn:=k8;exact len_str (by omega) ⟨.int z.length,H,I.tok _,⟨_,rfl⟩,q⟩
def cV.or {f:Value} {r r':List V->Hp->VK->Prop} (h:cV X f r) (h':cV X f r'):cV X f (λ xs H Q=>r xs H Q∨r' xs H Q):=by
 intro pins s σ H xs us Q I rs q;rcases q with q | q
 . exact h pins s σ H xs us Q I rs q
 . exact h' pins s σ H xs us Q I rs q
def rQ:cV X (.type "list") (λ xs H Q=>∃ p ys,xs=[.ref p]/\(cR X.K H p ys∨fg X.K H p ys)/\∀ l,H l=none->Q (.ref l) (cK H l (.lst ys))):=by
 intro pins s σ H xs us Q I r h;obtain ⟨p,ys,rfl,hq,q⟩:=h;obtain ⟨u,rfl,rx⟩:=qK r;cases rx;have fin:∀ (its:Φ),bn ys its->ys.length<=sizeLine->∀ (h':Heap) (c':Nat),(∀ b o',s.heap.get? b=some o'->h'.get? b=some o')->
  h'.get? s.heap.objs.size=some { cls:=.type "list", dict:=none,data:=.seq its.toArray c',slots:=#[] }->EP X pins σ Q (.ref s.heap.objs.size) { s with heap:=h' }:=λ its r' hz h' c' kp e=>
  ⟨.ref s.heap.objs.size,_,I.laid (t':=s.toks) kp (QH _) (show cX X.prog X.w _ h' _ (.lst ys) from ⟨hz,its,c',r',e⟩),rfl,q _ (I.hok.fresh (QH _))⟩
 rcases hq with hq | hq
 . obtain ⟨its,r',pl,hz⟩:=I.list hq;have hlen:=r'.length;obtain ⟨o,ho,hc,n,hd⟩:=pl.isList;exact call_list_seq p (.inl rfl) ho hc hd (λ h' c' kp e=>fin its r' hz h' c' kp e) (by simp only [QQ] <;> omega)
 . obtain ⟨its,r',pl,hz⟩:=I.tuple hq;have hlen:=r'.length;obtain ⟨o,ho,hc,n,hd⟩:=pl;exact call_list_seq p (.inr rfl) ho hc hd (λ h' c' kp e=>fin its r' hz h' c' kp e) (by simp only [QQ] <;> omega)
instance OV (K:Frag) (T:String) (x:V) (H:Hp):Prop:=match x with
 | .str _=>T = "str"
 | .int _=>T = "int"
 | .ref p=>(T = "list" /\ ∃ xs,cR K H p xs)∨(T = "tuple" /\ ∃ o,K.lookup p=some o/\o.cls=.type "tuple" /\ o.dict=none)∨
  (T = "dict" /\ ((∃ kvs,H p=some (.dK kvs))∨∃ kvs,H p=some (.dT kvs)))∨(T = "set" /\ ∃ S n,H p=some (.set S n))
 | _=>False
def Ch {pins:Δ} {σ:St} {H:Hp} {s:Shared} {T:String} {x:V} {v:Value} (I:aR X pins σ H s) (r:br x v) (ty:OV X.K T x H):
 s.TypeIs v T/\∀ a,v=.ref a->∃ ob,s.heap.get? a=some ob/\ob.dict=none:=by
 cases x with
 | str z=>
  obtain ⟨t,rfl⟩:=r;cases (show T = "str" from ty);exact ⟨typeIs_str s z t,λ _ e=>nomatch e⟩
 | int i=>
  obtain ⟨t,rfl⟩:=r;cases (show T = "int" from ty);exact ⟨typeIs_int s i t,λ _ e=>nomatch e⟩
 | ref p=>
  cases r;rcases ty with ⟨rfl,xs,hq⟩ | ⟨rfl,o,hk,hc,hd⟩ | ⟨rfl,hk⟩ | ⟨rfl,S,n,hk⟩
  . obtain ⟨its,_,pl,_⟩:=I.list hq;refine ⟨pl.isList.typeIs,λ a e=>?_⟩;cases e;obtain ⟨o,n,e,c,hd,_⟩:=pl;exact ⟨o,e,hd⟩
  . refine ⟨⟨o,I.kIn p o hk,hc⟩,λ a e=>?_⟩;cases e;exact ⟨o,I.kIn _ o hk,hd⟩
  . have z:∃ o,s.heap.get? p=some o/\o.ExactDict:=by
     rcases hk with ⟨kvs,hk⟩ | ⟨kvs,hk⟩
     . obtain ⟨_,_,_,_,o,_,_,e,ex,_⟩:=I.hok p _ hk;exact ⟨o,e,ex⟩
     . obtain ⟨_,_,_,_,o,_,_,e,ex,_⟩:=I.hok p _ hk;exact ⟨o,e,ex⟩
    obtain ⟨o,e,ex⟩:=z;refine ⟨⟨o,e,ex.1⟩,λ a e2=>?_⟩;cases e2;exact ⟨o,e,ex.2.1⟩
  . obtain ⟨o,_,_,_,e,ex,_⟩:=I.hok p _ hk;refine ⟨⟨o,e,ex.1⟩,λ a e2=>?_⟩;cases e2;exact ⟨o,e,ex.2.1⟩
 | _=>exact False.elim ty
instance F6 (K:Frag) (T:String) (r:V->List V->Hp->VK->Prop) (to:TE):TE:=λ σ H Q=>to σ H λ x H1=>OV K T x H1/\r x [] H1 Q
instance Kf (K:Frag) (T:String) (r:V->List V->Hp->VK->Prop) (to:TE) (t:TA):TE:=λ σ H Q=>to σ H λ x H1=>OV K T x H1/\t σ H1 λ xs H2=>r x xs H2 Q
variable {o e:Expr} {es:List Expr} {to:TE} {t:TA} {name:Str} {apos cpos:Pos} {T id:String} {r:V->List V->Hp->VK->Prop}
def HY (pa:PlainAttrs T) (slot:Slot T name id) (hty:typeOf (.builtin id)=pure (.type "method_descriptor")) (hm:Lx X id r) (ho:PE X o to)
 (hbase:attributeBase o name X.env (eval o X.env)=eval o X.env:=by rfl) (hline:(apos.endLine==cpos.line)=true:=by rfl):PE X (.Call (.Attribute o name apos) [] [] cpos) (F6 X.K T r to):=by
 intro pins s σ H Q I h;refine wpAny_Call_method0_late hbase hline (cJ (ho pins s σ H _ I h) λ v s1 hq0=>?_);obtain ⟨x,H1,I1,r1,ty,q1⟩:=hq0;obtain ⟨h1,h2⟩:=Ch I1 r1 ty;exact ⟨T,id,pa,slot,hty,h1,h2,Calls.callWith_builtin rfl (PySem.evalArgs_none (hm pins s1 σ H1 x [] v [] Q I1 r1 .nil q1))⟩
def ML (pa:PlainAttrs T) (slot:Slot T name id) (hty:typeOf (.builtin id)=pure (.type "method_descriptor")) (hm:Lx X id r) (ho:PE X o to) (ha:PA X (e::es) t)
 (hbase:attributeBase o name X.env (eval o X.env)=eval o X.env:=by rfl)
 (hfew:((backTo cpos (starEach (e::es) X.env)).all (λ x=>!x.1)&&(backToKw cpos (keywordEach [] X.env)).all (λ x=>x.1.isSome)
  && decide ((e::es).length+([]:List Keyword).length+(if ([]:List Keyword).isEmpty then 0 else 1)<30))=true:=by rfl)
 (hline:(apos.endLine==cpos.line)=true:=by rfl) (hs:starEach (e::es) X.env=(false,eval e X.env)::starEach es X.env:=by rfl) (hplain:(backTo cpos (starEach es X.env)).any (·.1)=false:=by rfl):
 PE X (.Call (.Attribute o name apos) (e::es) [] cpos) (Kf X.K T r to t):=by
 intro pins s σ H Q I h;refine wpAny_Call_method_late hbase hfew hline rfl (cJ (ho pins s σ H _ I h) λ v s1 hq0=>?_);obtain ⟨x,H1,I1,r1,ty,q1⟩:=hq0;obtain ⟨h1,h2⟩:=Ch I1 r1 ty;refine ⟨T,id,pa,slot,hty,h1,h2,?_⟩;have hA:=ha cpos pins s1 σ H1 _ I1 q1;rw [hs] at hA ⊢;refine Calls.callWith_builtin (by show (false||(backTo cpos (starEach es X.env)).any (·.1))=false;rw [hplain] <;> rfl) (Calls.evalArgs_plain ?_);exact cJ hA λ us s2 hy0=>by obtain ⟨vs,H2,I2,r2,q2⟩:=hy0;exact hm pins s2 σ H2 x vs v us Q I2 r1 r2 q2
end
instance NG (X:Cx) (id:String) (r:V->List V->Hp->VK->Prop):Prop:=
 ∀ (pins:Δ) (s:Shared) (σ:St) (H:Hp) (x:V) (xs:List V) (v:Value) (us:Φ) (Q:VK),aR X pins σ H s->br x v->bn xs us->r x xs H Q->
  wpAny (model X.prog X.w) X.A (call (.builtin id) (v::us)) (EP X pins σ Q) X.xe s
def bn.one {x:V} {us:Φ} (h:bn [x] us):∃ u,us=[u]/\br x u:=by
 cases h with
 | cons r t=>cases t;exact ⟨_,rfl,r⟩
def bn.zero:∀ {us:Φ},bn [] us->us=[]
 | _,.nil=>rfl
def bn.dropLast {xs:List V} {us:Φ} (h:bn xs us):bn xs.dropLast us.dropLast:=by
 induction h with
 | nil=>exact .nil
 | cons r t ih=>
  cases t with
  | nil=>exact .nil
  | cons q t'=>exact .cons r ih
def bn.rep {xs:List V} {us:Φ} (h:bn xs us):∀ k:Nat,bn (List.replicate k xs).flatten (List.replicate k us).flatten
 | 0=>.nil
 | k+1=>by
  rw [RJ,RJ,Sy,Sy];exact bn.append h (bn.rep h k)
def we {α:Type} (l:List α):l.eraseIdx (l.length-1)=l.dropLast:=by
 induction l with
 | nil=>rfl
 | cons a r ih=>
  cases r with
  | nil=>rfl
  | cons b r=>
   have e:(a::b::r).length-1=((b::r).length-1)+1:=by
    have h1:(a::b::r).length=r.length+2:=rfl;have h2:(b::r).length=r.length+1:=rfl;omega
   rw [e,List.eraseIdx_cons_succ,ih];all_goals rfl
def qB (its:Φ):∀ (k:Nat) (acc:Φ),
 List.foldl (λ x1 x2=>x1++x2) acc.toArray (List.replicate k its.toArray)=(acc++(List.replicate k its).flatten).toArray
 | 0,acc=>by simp
 | k+1,acc=>by
  have e:acc.toArray++its.toArray=(acc++its).toArray:=by simp
  have e2:(acc++its)++(List.replicate k its).flatten=acc++(List.replicate (k+1) its).flatten:=by
   rw [RJ,Sy,Ru]
  rw [<-e2,<-qB its k (acc++its),<-e,RJ,foldl_cons]
section
variable {X:Cx} {pins:Δ} {σ:St} {H:Hp} {s:Shared} {l b:Addr} {xs ys zs:List V}
def aR.lset {its its':Φ} {n:Nat} {f:Array Value->Array Value} {t':Nat} (I:aR X pins σ H s) (hH:H l=some (.lst xs))
 (e:s.heap.get? l=some { cls:=.type "list", data:=.seq its.toArray n }) (hf:f its.toArray=its'.toArray) (hv:bn ys its') (hz:ys.length<=sizeLine):
 aR X pins σ (cK H l (.lst ys)) { s with heap:=s.heap.update l (Obj.mapSeq f),toks:=t' }:=by
 have q:=PySem.IsL.update e f;rw [hf] at q;refine I.write (x:=l) (e:=l) (by rw [hH];exact trivial) (.inl rfl) (λ b' u hb hu=>(Heap.get?_update_other s.heap (Obj.mapSeq f) (RM hb)).trans hu) ⟨_,q⟩ ?_;exact ⟨hz,its',_,hv,q⟩
def aR.lnew {its:Φ} {t':Nat} (I:aR X pins σ H s) (hv:bn ys its) (hz:ys.length<=sizeLine):
 aR X pins σ (cK H s.heap.objs.size (.lst ys)) { s with heap:=s.heap.push { cls:=.type "list", data:=.seq its.toArray },toks:=t' }:=
 I.laid (λ _ _ q=>QX _ q) (QH _) ⟨hz,its,0,hv,Rg _ rfl⟩
def aR.fresh (I:aR X pins σ H s):H s.heap.objs.size=none:=I.hok.fresh (QH _)
def aR.lstM (I:aR X pins σ H s) (hH:H l=some (.lst xs)):xs.length<=sizeLine/\∃ (its:Φ) (n:Nat),bn xs its/\xs.length=its.length/\s.heap.get? l=some { cls:=.type "list", data:=.seq its.toArray n }:=by
 obtain ⟨z,its,n,r,e⟩:=I.hok l _ hH;exact ⟨z,its,n,r,r.length,e⟩
def vw {n:Nat} (h:n<=sizeLine):Builtin.List.listTooLong n=false:=by
 unfold Builtin.List.listTooLong;exact QJ (by omega)
end
section
variable {X:Cx}
instance om:V->List V->Hp->VK->Prop:=λ x vs H Q=>∃ l xs y,x=.ref l/\vs=[y]/\H l=some (.lst xs)/\xs.length<sizeLine/\Q .non (cK H l (.lst (xs++[y])))
def yR:NG X "list.append" om:=by
 intro pins s σ H x vs v us Q I rx rv h;obtain ⟨l,xs,y,rfl,rfl,hH,hz,q⟩:=h;cases rx;obtain ⟨u,rfl,ru⟩:=rv.one;obtain ⟨z,its,n,r,hl,e⟩:=I.lstM hH;refine call_meets F.slot_list_append ⟨_,e,rfl⟩ F.entry_list_append (F.args_list_append_2 _ _) (PySem.list_append l its.toArray n u (by rw [QQ];omega)) ⟨e,?_⟩;refine ⟨.non,_,I.lset (its':=its++[u]) hH e (by simp) (r.append (.cons ru .nil)) ?_,rfl,q⟩;rw [QO,RK];omega
instance J0:V->List V->Hp->VK->Prop:=λ x vs H Q=>∃ l xs y,x=.ref l/\vs=[]/\H l=some (.lst xs)/\xs[xs.length-1]?=some y/\Q y (cK H l (.lst xs.dropLast))
def JE:NG X "list.pop" J0:=by
 intro pins s σ H x vs v us Q I rx rv h;obtain ⟨l,xs,y,rfl,rfl,hH,hy,q⟩:=h;cases rx;have hus:=rv.zero;subst hus;obtain ⟨z,its,n,r,hl,e⟩:=I.lstM hH;obtain ⟨u,hu,ru⟩:=r.get hy;have hy':its.toArray[its.toArray.size-1]?=some u:=by
  show its.toArray[its.length-1]?=some u;rw [<-RO,<-hl];exact hu
 refine call_meets F.slot_list_pop ⟨_,e,rfl⟩ F.entry_list_pop (F.args_list_pop_1 _) (MeetsSeq.list_pop_last l its.toArray n u hy' (by rw [QQ];omega)) ⟨e,?_⟩;refine ⟨y,_,I.lset (its':=its.dropLast) hH e ?_ r.dropLast ?_,ru,q⟩
 . show its.toArray.eraseIdxIfInBounds (its.toArray.size-1)=its.dropLast.toArray;rw [QQ,List.eraseIdxIfInBounds_toArray,we]
 . rw [List.length_dropLast];omega
instance KO:R2:=λ x y H Q=>∃ l k xs,x=.ref l/\y=.int k/\H l=some (.lst xs) /\ -(2^63)<=k/\k<2^63/\xs.length*k.toNat<=sizeLine/\
 ∀ p,H p=none->Q (.ref p) (cK H p (.lst (List.replicate k.toNat xs).flatten))
def DL {α:Type} (xs:List α) (k:Nat):(List.replicate k xs).flatten.length=k*xs.length:=by
 induction k with
 | zero=>simp
 | succ k ih=>rw [RJ,Sy,QO,ih,Nat.succ_mul,Nat.add_comm]
def OT:gy X (binaryOp .Mult) KO:=by
 intro pins s σ H x y v u Q I rx ry h;obtain ⟨l,k,xs,rfl,rfl,hH,h1,h2,hz,q⟩:=h;cases rx;obtain ⟨t,rfl⟩:=ry;obtain ⟨z,its,n,r,hl,e⟩:=I.lstM hH;have hlen:its.toArray.size*k.toNat<=sizeLine:=by rw [QQ,<-hl];exact hz
 have hcap:¬ its.toArray.size*k.toNat>(2^63-1) / 8:=by
  have:(sizeLine:Nat)<=(2^63-1) / 8:=by decide
  omega
 have hfit:¬ (!Builtin.List.listFitsIndex k)=true:=by
  rw [fitsIndex_both h1 h2];exact QU
 have hlong:¬ Builtin.List.listTooLong (its.toArray.size*k.toNat)=true:=by
  rw [vw hlen];exact QU
 have hnew:List.foldl (λ x1 x2=>x1++x2) #[] (List.replicate (if its.toArray.isEmpty=true then 0 else k.toNat) its.toArray)=(List.replicate k.toNat its).flatten.toArray:=by
  have f0:∀ m:Nat,List.foldl (λ x1 x2=>x1++x2) #[] (List.replicate m its.toArray)=(List.replicate m its).flatten.toArray:=λ m=>by
   have:=qB its m [];rw [SJ] at this;exact this
  rw [f0];cases its with
  | nil=>simp
  | cons a r'=>rw [QS (by simp)]
 refine wpAny_binaryOp_repeat_ref (T := "list") (U := "int") (by decide) ⟨_,e,rfl⟩ (λ s'=>typeIs_int s' k t) noFill_list_mul F.fills_int_mul F.slot_int_rmul repeat_list F.slot_int_index.lookup
  (call_meets F.slot_int_rmul (typeIs_int s k t) F.entry_int_rmul (F.args_int_rmul_2 _ _) (int___rmul___int_list k t l its.toArray n)
   ⟨e,rfl,⟨_,e,rfl⟩,call_meets F.slot_list_mul ⟨_,e,rfl⟩ F.entry_list_mul (F.args_list_mul_2 _ _) (AutoListH.list___mul___list_int_3 l its.toArray n k t hfit hcap hlong) ⟨e,?_⟩⟩)
 rw [hnew];exact ⟨.ref _,_,I.lnew (t':=s.toks) (r.rep k.toNat) (by rw [DL,Nat.mul_comm];exact hz),rfl,q _ I.fresh⟩
end
section
variable {prog:Program} {w:World} {A:Around} {E:Γ} {s:Shared}
end
section
variable {X:Cx}
end
end L2
namespace Att
open PySem PySem.W PySem.Calls PyProof.Rows
def nO {P:Params} {h:Heap}:∀ (ns:List Int) (vs:Φ),WellAll P h vs (ns.map WData.int)->IntsAre vs ns:=by
 intro ns;induction ns with
 | nil=>
  intro vs w;rw [map_nil] at w;cases w;exact .nil
 | cons n ns ih=>
  intro vs w;rw [List.map_cons] at w;cases w with
  | cons a b=>
   cases a;exact .cons _ _ (ih _ b)
def yX {l:OpenLaw} {n:Nat} (hn:l.most=some n) {P:Params} {h:Heap} {args:List WData} {vals:Φ}
 (hpre:l.row.toRowW.claim.pre args=true) (hwl:WellAll P h vals args):
 ∃ a vs ns,vals=[Value.ref a]/\args=[WData.list (ns.map WData.int)]/\h.get? a=some { cls:=.type "list", data:=.seq vs.toArray }/\IntsAre vs ns/\ns.length<=n:=by
 have hsh:WShape.hasAll [] args [.list .int]=true:=(pre_splitW hpre).1;have hc:l.pre.holds [] { args:=args }=true:=(pre_splitW hpre).2;obtain ⟨d,r,rfl,h1,h2⟩:=hasAllW_cons hsh;obtain rfl:=hasAllW_nil h2;obtain ⟨xs,rfl,h3⟩:=hasW_list h1;obtain ⟨ns,rfl⟩:=items_int h3;have hlen:ns.length<=n:=by
  unfold OpenLaw.pre at hc;have h4:(WTm.not (.lt (.lit (.int (n:Int))) (.len (.arg 0)))).holds [] { args:=[.list (ns.map .int)] }=true:=by
   have h4:=(holds_andW hc).1;rw [hn] at h4;exact h4
  have h5:=condW_of h4 (w_not (w_lt w_lit (w_len_list (w_arg rfl))));rw [List.length_map] at h5;refine Nat.le_of_not_lt λ q=>?_;have q':(n:Int)<((ns.length:Nat):Int):=by omega
  first
   | (rw [decide_eq_true q'] at h5;exact absurd h5 (by decide))
   | (simp at h5;omega)
 cases hwl with
 | cons w1 w2=>
  cases w2;cases w1 with
  | list ho hall=>exact ⟨_,_,ns,rfl,rfl,ho,nO ns _ hall,hlen⟩
def Aa (l:OpenLaw) (args:List WData):l.row.toRowW.claim.post args (.bool true) args=true:=
 postW_of (r:=l.row.toRowW) (X:=(true==true))
  (show WShape.has [] (.bool true) .bool=true by first | rfl | decide | simp [WShape.has,WShape.arms,WShape.armsAll])
  (show (WTm.eq .res (.lit (.bool true))).value [] { args:=args,res:=some (.bool true),after:=args }=some (.bool (true==true)) from w_eq_bool (w_res rfl) w_lit) rfl
def attach_call {l:OpenLaw} {n:Nat} {q:Program} {loose:Ω} {XP:(Θ)->Heap->Prop} {YP:World->Heap->Prop} {d:DefRec}
 (hn:l.most=some n) (hdf:d.params.defaults=[])
 (call:∀ (w:World) (s₀ s₁:Shared) (mg mb:Θ) (fa:Addr) (o:Obj) (pm cd doc:Value) (a:Addr) (vs:Φ) (ns:List Int),
  Ground q loose [] XP w s₀ mg mb s₁.heap->YP w s₁.heap->
  s₁.heap.get? fa=some o->o.data=.func (docDef d.name d.params d.body d.scope pm cd doc)->s₁.heap.CodeRec cd d.name->mg d.name=some (.ref fa)->
  s₁.heap.get? a=some { cls:=.type "list", data:=.seq vs.toArray }->IntsAre vs ns->ns.length<=n->s₁.gens = #[]->
  codeAny (model l.prog w) callerA (.call (.ref fa) ⟨[.ref a],[]⟩) (λ r s'=>r=.ok (.ret (.bool true))/\OldK s₁.heap s'.heap/\s'.os=s₁.os/\AllBare s'.gens) s₁):
 WalkO q loose XP YP l.row.toRowW d [] (λ f vs=>PySem.call f vs):=by
 intro w s₀ s₁ mg mb G Y fa o pm cd doc dV kV ho hd hcd hD hmg hg args vals as hpre hlay hrd hwl hlo;obtain rfl:dV=.none:=Dflts.none hD hdf;obtain rfl:kV=.none:=Dflts.noKw hD;obtain ⟨a,vs,ns,rfl,rfl,hobj,hints,hlen⟩:=yX hn hpre hwl;refine enter_call (codeAny_mono (call w s₀ s₁ mg mb fa o pm cd doc a vs ns G Y ho (fd_plain hd) hcd hmg hobj hints hlen hg) λ r s' hq=>?_);obtain ⟨rfl,h2,h3,h4⟩:=hq;exact ⟨.inl ⟨.bool true,.bool true,[],rfl,λ _=>rfl,.bool true,Aa l _,λ _=>⟨List.Pairwise.nil,λ _ hm=>(nomatch hm)⟩⟩,h2,h3,h4⟩
section
variable {prog:Program} {w:World} {A:Around} {E:Γ} {s:Shared} {K:Frag}
end
end Att
namespace L2
open PySem PySem.Spec PyProof.Rows
open PySem.W (Frag)
def yU {vs:Φ} {ns:List Int} (h:IntsAre vs ns):bn (ns.map V.int) vs:=by
 induction h with
 | nil=>exact .nil
 | cons n t _ ih=>exact .cons ⟨t,rfl⟩ ih
instance IU (H:Hp):Prop:=∀ b,H b=none∨∃ o xs,H b=some (.frz o (.lst xs))
def C8 {P:Program} {w:World} {K:Frag} {mg mb:Θ} {CX:w9} {k:Nat} {fa a:Addr} {fd:FuncData} {x:Str} {sp:Sp} {s₁:Shared} {vs:Φ} {ns:List Int}
 (KX:K.In s₁.heap) (hns:s₁.heap.Ns mainGlobals mg) (hb:s₁.heap.Ns builtinsNs mb) (hbb:∀ x:Str,x ≠ "__name__" -> mb x=bootBuiltins x) (hlim:s₁.heap.NoLimit) (hg:s₁.gens = #[])
 (ha:s₁.heap.get? a=some { cls:=.type "list", data:=.seq vs.toArray }) (hi:IntsAre vs ns) (hl:ns.length<=sizeLine) (hr:eB k callerA)
 (F:∀ base:Heap,K.In base->base.Ns mainGlobals mg->fF P w K mg base CX k fa fd [x] sp) (hbind:∀ (s:Shared) (u:Value),BindsTo s fd ⟨[u],[]⟩ [(x,u)])
 (hsp:∀ H:Hp,IU H->cR K H a (ns.map V.int)->sp [.ref a] H (λ v _=>v=.bl true) λ _ _ _=>False)
 (hCX:∀ H e s',CX [] H s₁ (λ _ _ _=>False) e s'->False):
 codeAny (model P w) callerA (.call (.ref fa) ⟨[.ref a],[]⟩) (λ r s'=>r=.ok (.ret (.bool true))/\OldK s₁.heap s'.heap/\s'.os=s₁.os/\AllBare s'.gens) s₁:=by
 have rv:=yU hi;have lenV:=hi.length;have core:∀ H:Hp,IU H->cR K H a (ns.map V.int)->j5 P w H s₁.heap->(∀ b,H b≠none->b=a)->(H a≠none->K.lookup a=none)->
  codeAny (model P w) callerA (.call (.ref fa) ⟨[.ref a],[]⟩) (λ r s'=>r=.ok (.ret (.bool true))/\OldK s₁.heap s'.heap/\s'.os=s₁.os/\AllBare s'.gens) s₁:=by
  intro H hO hS hok hA hK;have base_of:∀ {b:Addr} {o:Obj},s₁.heap.get? b=some o->H b=none->(tf s₁.heap H).get? b=some o:=λ e n=>Ba e n;have noA:∀ {b:Addr} {o:Obj} {es:Array DictEntry} {ep:Nat},s₁.heap.get? b=some o->o.data=.dict es ep->H b=none:=λ {b o es ep} e d=>by
   cases q:H b with
   | none=>rfl
   | some u=>
    have e':b=a:=hA b (by rw [q];simp);subst e';rw [ha] at e;cases e;have d':Data.seq vs.toArray _=Data.dict es ep:=d;cases d'
  have nsK:∀ {b:Addr} {m:Θ},s₁.heap.Ns b m->(tf s₁.heap H).Ns b m:=λ {b m} hy0=>by obtain ⟨o,es,ep,e,d,r⟩:=hy0;exact ⟨o,es,ep,base_of e (noA e d),d,r⟩
  have hKb:K.In (tf s₁.heap H):=λ b o e=>base_of (KX b o e) (by
   cases q:H b with
   | none=>rfl
   | some u=>
    have e':b=a:=hA b (by rw [q];simp);subst e';rw [hK (by rw [q];simp)] at e;cases e)
  have hM:Mod K mg (tf s₁.heap H):=⟨hKb,nsK hns,⟨mb,nsK hb,hbb⟩,by obtain ⟨mc,h1,h2⟩:=hlim;exact ⟨mc,nsK h1,h2⟩⟩
  have e0:wO P w K mg (tf s₁.heap H) callerA [] s₁ H:=⟨rfl,hM,λ b o e=>EH e,le_of_eq (zQ _ _),trivial,λ b hb=>absurd (show b∈([]:Ξ) from hb) (by simp),hok,.of_eq hg⟩
  refine codeAny_mono ((F _ hKb (nsK hns)).run callerA [] s₁ H ⟨[.ref a],[]⟩ [.ref a] [.ref a] _ _ hr e0 (hbind s₁ (.ref a)) (.cons rfl .nil) (hsp H hO hS)) λ r s' h=>?_;cases r with
  | error e=>exact (hCX H e s' h).elim
  | ok fl=>
   cases fl with
   | next=>exact False.elim h
   | brk=>exact False.elim h
   | cont=>exact False.elim h
   | ret u=>
    obtain ⟨v,H',os,bare,un,hok',r',q⟩:=h;have q':v=.bl true:=q;subst q';obtain rfl:u=Value.bool true:=r';refine ⟨rfl,OldK.of_keep λ b o e=>?_,os,bare⟩;cases q:H b with
    | none=>exact un.keep b o e q (by intro z;exact absurd (show b∈([]:List Addr) from z) (by simp)) (by simp)
    | some u=>
     rcases hO b with z | ⟨ob,xs,z⟩
     . rw [q] at z;cases z
     . have z2:=un.frzs b ob _ z;obtain ⟨e1,_⟩:=hok b _ z;obtain ⟨e2,_⟩:=hok' b _ z2;rw [e] at e1;cases e1;exact e2
 cases hk:K.lookup a with
 | some o=>
  have e:=KX a o hk;rw [ha] at e;cases e;refine core (λ _=>none) (λ _=>.inl rfl) (.inr ⟨_,vs.toArray,_,hk,rfl,rfl,rfl,by rw [QQ,lenV];exact hl,by simpa using rv⟩) (λ b u z=>by have z':(none:Option HO)=some u:=z;cases z') (λ b z=>absurd rfl z) λ z=>absurd rfl z
 | none=>
  refine core (λ b=>if b=a then some (.frz { cls:=.type "list", data:=.seq vs.toArray } (.lst (ns.map V.int))) else none) (λ b=>?_) (.inl (.inr ⟨{ cls:=.type "list", data:=.seq vs.toArray },QF rfl⟩)) (λ b u z=>?_) (λ b z=>?_) λ _=>hk
  . by_cases hb:b=a
    . exact .inr ⟨_,_,QF hb⟩
    . exact .inl (QS hb)
  . by_cases hb:b=a
    . have z':=(QF hb).symm.trans z;cases z';subst hb;exact ⟨ha,by rw [Rk];exact hl,vs,_,rv,ha⟩
    . have z':=(QS hb).symm.trans z;cases z'
  . by_cases hb:b=a
    . exact hb
    . exact absurd (QS hb) z
def walk_of {l:PySem.W.OpenLaw} {n k:Nat} {q:Program} {loose:Ω} {XP:(Θ)->Heap->Prop} {YP:World->Heap->Prop} {d:DefRec} {K:Params->Frag} {CX:World->w9} {sp:World->Sp} {x:Str}
 (hn:l.most=some n) (hn2:n<=sizeLine) (hdf:d.params.defaults=[]) (hr:eB k callerA)
 (hY:∀ (w:World) (h:Heap),YP w h->(K w.params).In h)
 (F:∀ (w:World) (mg:Θ) (fa:Addr) (h:Heap),(K w.params).In h->h.Ns mainGlobals mg->mg d.name=some (.ref fa)->
  ∃ fd:FuncData,(∀ (s:Shared) (u:Value),BindsTo s fd ⟨[u],[]⟩ [(x,u)])/\
   ∀ base:Heap,(K w.params).In base->base.Ns mainGlobals mg->fF l.prog w (K w.params) mg base (CX w) k fa fd [x] (sp w))
 (hsp:∀ (w:World) (H:Hp) (a:Addr) (ns:List Int),ns.length<=n->IU H->cR (K w.params) H a (ns.map V.int)->sp w [.ref a] H (λ v _=>v=.bl true) λ _ _ _=>False)
 (hCX:∀ (w:World) (H:Hp) (s:Shared) (e:Value) (s':Shared),CX w [] H s (λ _ _ _=>False) e s'->False):
 PySem.W.WalkO q loose XP YP l.row.toRowW d [] (λ f vs=>PySem.call f vs):=by
 refine Att.attach_call hn hdf λ w s₀ s₁ mg mb fa o pm cd doc a vs ns G Y ho hd hcd hmg hobj hints hlen hg=>?_;have KX:=hY w _ Y;obtain ⟨fd,hb,hF⟩:=F w mg fa _ KX G.T.g hmg;exact C8 KX G.T.g G.T.b G.T.builtins G.T.nolimit hg hobj hints (Rh hlen hn2) hr hF hb (λ H hO hS=>hsp w H a ns hlen hO hS) λ H e s'=>hCX w H s₁ e s'
instance y6 (s:Stmt) (j:Nat):Stmt:=match s with
 | .ClassDef _ _ _ body _ _ _ _ _ _ _=>body.getD j (.Pass ⟨0,0,0,0⟩)
 | _=>.Pass ⟨0,0,0,0⟩
instance dZ (s:Stmt):Arguments:=match s with
 | .FunctionDef _ a _ _ _ _ _ _ _ _=>a
 | _=>{ posonlyargs:=[],args:=[],vararg:=none,kwonlyargs:=[],kw_defaults:=[],kwarg:=none,defaults:=[] }
instance d3 (s:Stmt):List Stmt:=match s with
 | .FunctionDef _ _ b _ _ _ _ _ _ _=>b
 | _=>[]
instance b6 (s:Stmt):Scope:=match s with
 | .FunctionDef _ _ _ _ _ _ sc _ _ _=>sc
 | _=>{ kind:=.function,names:=[],isGenerator:=false,isCoroutine:=false }
noncomputable abbrev Gz:w9:=λ _ _ _ _ _ _=>False
noncomputable abbrev E0:XK:=λ _ _ _=>False
def GU {X:Cx}:kJ Gz X E0:=λ _ _ _ _ _ _ _ h=>h.elim
structure OG (K:Frag) (x qual:Str) (st:Stmt) (f:Addr) (fd:FuncData):Prop where
 ex:∃ (oc:Value) (od:Option Addr) (kV doc pm:Value) (an:Option Addr) (cdv ct:Value) (osl:Array (Option Value)),
  fd=PySem.W.fnOf x qual (dZ st) (d3 st) (b6 st) .none kV doc pm an cdv ct/\K.lookup f=some ⟨oc,od,.func fd,osl⟩/\PySem.W.codeIn K cdv qual=true
 kp:PySem.W.keepIn K (.ref f)=true
section
variable {P:Program} {w:World} {K:Frag} {mg:Θ} {base:Heap}
def OG.binds {x qual:Str} {st:Stmt} {f:Addr} {fd:FuncData} {ps:Ω} (F:OG K x qual st f fd)
 (h:∀ (kV doc pm:Value) (an:Option Addr) (cdv ct:Value) (us:Φ),us.length=ps.length->bindArgs (PySem.W.fnOf x qual (dZ st) (d3 st) (b6 st) .none kV doc pm an cdv ct) ⟨us,[]⟩=pure (ps.zip us)):fU K fd ps []:=by
 obtain ⟨oc,od,kV,doc,pm,an,cdv,ct,osl,rfl,lk,hcd⟩:=F.ex;exact .all (h kV doc pm an cdv ct)
def wz {x qual:Str} {st:Stmt} {f:Addr} {oc:Value} {od an:Option Addr} {osl:Array (Option Value)} {kV doc pm cdv ct:Value} (l:K.lookup f=some ⟨oc,od,.func (PySem.W.fnOf x qual (dZ st) (d3 st) (b6 st) .none kV doc pm an cdv ct),osl⟩)
 (c:PySem.W.codeIn K cdv qual=true) (k:PySem.W.keepIn K (.ref f)=true):OG K x qual st f (PySem.W.fnOf x qual (dZ st) (d3 st) (b6 st) .none kV doc pm an cdv ct):=⟨⟨oc,od,kV,doc,pm,an,cdv,ct,osl,rfl,l,c⟩,k⟩
end
def zd {n:Nat} (h:n<=1000):n<sizeLine:=Nat.lt_of_le_of_lt h (by decide)
section
variable {X:Cx}
end
instance b0 (H H':Hp):Prop:=∀ b o,H b=some o->H' b=some o
def b0.refl (H:Hp):b0 H H:=λ _ _ h=>h
def b0.trans {H H1 H2:Hp} (a:b0 H H1) (b:b0 H1 H2):b0 H H2:=λ c o h=>b c o (a c o h)
def b0.seq {K:Frag} {H H':Hp} {a:Addr} {xs:List V} (e:b0 H H') (h:cR K H a xs):cR K H' a xs:=by
 rcases h with (h | ⟨o,h⟩) | h
 . exact .inl (.inl (e _ _ h))
 . exact .inl (.inr ⟨o,e _ _ h⟩)
 . exact .inr h
instance pX (cells:List (Str×Addr)):List (Str×NameKind)->List (Str×Addr)->List (Str×Addr)
 | [],cs=>cs
 | (n,k)::r,cs=>pX cells r (if k==.free then (n,(cells.lookup n).getD 0)::cs else cs)
instance zG (scope:Scope) (env:Env):List (Str×Addr):=pX env.cells scope.names []
def xz {env:Env}:∀ (names:List (Str×NameKind)) (cs:List (Str×Addr)),(∀ y∈names,y.2=.free->∃ c,env.cells.lookup y.1=some c)->
 (forIn names cs λ (x:Str×NameKind) (r:List (Str×Addr))=>(match x with
  | (name,kind)=>if (kind==NameKind.free)=true then do let a <-cellOf env name;pure (ForInStep.yield ((name,a)::r)) else pure (ForInStep.yield r):Sem (ForInStep (List (Str×Addr)))))=(pure (pX env.cells names cs):Sem _)
 | [],cs,_=>rfl
 | (n,k)::r,cs,h=>by
  have hr:=λ cs'=>xz (env:=env) r cs' λ y hy=>h y (Rj _ hy);rw [List.forIn_cons];by_cases hk:(k==NameKind.free)=true
  . obtain ⟨c,hc⟩:=h (n,k) Rf (by simpa using hk);have e1:cellOf env n=pure c:=by unfold cellOf;rw [hc]
    simp only [hk,RW,e1,pure_bind];rw [hr];unfold pX;rw [QF hk,hc]
    conv=>rhs;unfold pX
    rfl
  . simp only [hk,SF,pure_bind,RL];rw [hr]
    conv=>rhs;unfold pX
    rw [QS hk]
def pE {scope:Scope} {env:Env} (h:∀ y∈scope.names,y.2=.free->∃ c,env.cells.lookup y.1=some c):closureFor scope env=pure (zG scope env):=by
 unfold closureFor zG;rw [<-xz scope.names [] h];simp
def mJ {cells:List (Str×Addr)} {x:Str} {c:Addr}:∀ (names:List (Str×NameKind)) (cs:List (Str×Addr)),(∀ y∈names,y.2=.free->∃ d,cells.lookup y.1=some d)->(∀ d,cs.lookup x=some d->cells.lookup x=some d)->
 (pX cells names cs).lookup x=some c->cells.lookup x=some c
 | [],cs,_,hc,h=>hc c h
 | (n,k)::r,cs,hn,hc,h=>by
  unfold pX at h;refine mJ r _ (λ y hy=>hn y (Rj _ hy)) ?_ h;intro d hd;by_cases hk:(k==NameKind.free)=true
  . rw [QF hk] at hd;obtain ⟨e,he⟩:=hn (n,k) Rf (by simpa using hk);simp only at he;rw [lookup_cons] at hd;cases hx:x==n with
    | true=>
     have:x=n:=by simpa using hx
     subst this;rw [hx] at hd;simp only [Option.some.injEq] at hd;rw [he] at hd ⊢;simp at hd;rw [hd]
    | false=>
     rw [hx] at hd;exact hc d hd
  . rw [QS hk] at hd;exact hc d hd
def oE {cells:List (Str×Addr)} {x:Str}:∀ (names:List (Str×NameKind)) (cs:List (Str×Addr)),((x,NameKind.free)∈names∨∃ d,cs.lookup x=some d)->∃ d,(pX cells names cs).lookup x=some d
 | [],cs,h=>by
  rcases h with h | h
  . cases h
  . exact h
 | (n,k)::r,cs,h=>by
  unfold pX;refine oE r _ ?_;rcases h with h | ⟨d,h⟩
  . rcases QE.mp h with e | h
    . cases e;exact .inr ⟨_,by rw [QF (by rfl),lookup_cons,beq_self_eq_true]⟩
    . exact .inl h
  . refine .inr ?_;split
    . rw [lookup_cons];cases hx:x==n with
      | true=>exact ⟨_,rfl⟩
      | false=>exact ⟨d,h⟩
    . exact ⟨d,h⟩
def g9 {scope:Scope} {env:Env} {x:Str} {k:NameKind} (h:(relabel scope env).names.lookup x=some k) (hk:k=.cell∨k=.free) (hc:∀ y∈scope.names,y.2≠.cell):(x,NameKind.free)∈scope.names:=by
 have hm:=Sm h;unfold relabel at hm;obtain ⟨⟨n,k'⟩,hy,e⟩:=Q7.mp hm;by_cases q:(k'==NameKind.free&&env.scope.kind==.function&&env.kindOf n==some .cell)=true
 . simp only [q,RW] at e;cases e;have:k'=.free:=by
    simp only [Rb,beq_iff_eq] at q;exact q.1.1
   subst this;exact hy
 . simp only [q,SF,RL] at e;cases e;rcases hk with rfl | rfl
   . exact absurd rfl (hc _ hy)
   . exact hy
instance lift (ix:Λ) (σ:St):St:=ix.map λ o=>match o with
 | none=>none
 | some i=>match σ[i]? with
  | some v=>v
  | none=>none
structure bV (X:Cx) (scope:Scope) (N:Ω) (ix:Λ):Prop where
 kind:scope.kind=.function
 nocell:∀ y∈scope.names,y.2≠.cell
 locs:∀ y∈scope.names,y.2=.local->scope.names.lookup y.1=some .local
 free:∀ y∈scope.names,y.2=.free->X.env.kindOf y.1=some .cell∨X.env.kindOf y.1=some .free
 len:ix.length=N.length
 nd:N.Nodup
 from':∀ j i:Nat,ix[j]?=some (some i)->∃ x,N[j]?=some x/\X.N[i]?=some x/\(X.env.kindOf x=some .cell∨X.env.kindOf x=some .free)/\((relabel scope X.env).names.lookup x=some .cell∨(relabel scope X.env).names.lookup x=some .free)
instance bX (X:Cx) (scope:Scope) (N:Ω) (s₀:Shared) (H₀:Hp) (C:Addr) (ex:Ξ):Cx where
 prog:=X.prog
 w:=X.w
 K:=X.K
 mg:=X.mg
 base:=X.base
 A:=X.A
 N:=N
 s₀:=s₀
 H₀:=H₀
 env:=compEnvC scope (zG scope X.env) C X.env
 outer:=X.stack
 stack:=X.stack
 ex:=ex
 fn:=λ _=>false
 calm:=X.calm
 pn:=[]
 xe:=λ _ _=>False
section
variable {X:Cx} {pins:Δ} {σ:St} {H:Hp} {s:Shared} {scope:Scope} {N:Ω} {ix:Λ}
def bV.cells (S:bV X scope N ix) (I:aR X pins σ H s):∀ y∈scope.names,y.2=.free->∃ c,X.env.cells.lookup y.1=some c:=λ y hy hk=>I.ok.has y.1 (S.free y hy hk)
def bV.sub (S:bV X scope N ix) (I:aR X pins σ H s) {x:Str} {c:Addr} (h:(zG scope X.env).lookup x=some c):X.env.cells.lookup x=some c:=
 mJ scope.names [] (S.cells I) (λ d h=>by simp at h) h
def bV.start (S:bV X scope N ix) (I:aR X pins σ H s) {fp:Ξ} {C D:Addr} {h':Heap} {tk:Nat} (hf:∀ b∈fp,kB X pins H b) (hfo:∀ b∈fp,∃ o,s.heap.get? b=some o) (hD:D=s.heap.objs.size) (hC:s.heap.objs.size<C)
 (k:∀ b o,s.heap.get? b=some o->h'.get? b=some o) (hn:h'.Ns C λ _=>none):aR (bX X scope N s H C (D::fp)) [] (lift ix σ) H { s with heap:=h',toks:=tk }:=by
 have ltC:∀ x c,X.env.cells.lookup x=some c->c<s.heap.objs.size:=λ x c e=>let ⟨v,q⟩:=I.cell x c e;q.lt;refine ⟨⟨I.ok.mod,S.kind,I.ok.glob,I.ok.blt,Sh hC,λ x y c h1 h2=>I.ok.inj x y c (S.sub I h1) (S.sub I h2),λ x hx=>?_,λ x c z=>?_,I.ok.hd,I.ok.frames,.inl rfl,λ b hb=>?_,I.bs,Rh I.ok.bsz I.sz,λ b o e hb=>?_,λ b hb hb'=>?_,I.stack,I.stkFree⟩,
  rfl,I.bare,Un.kept k,⟨_,hn,λ j x v e1 e2 e3=>?_⟩,λ x c e=>?_,I.hok.fresh (Sh hC),λ x c e=>I.freeC x c (S.sub I e),λ p hp=>absurd (show p∈([]:Δ) from hp) (by simp),I.hok.kept k,?_⟩
 . have hx:(relabel scope X.env).names.lookup x=some .cell∨(relabel scope X.env).names.lookup x=some .free:=hx;have hm:(x,NameKind.free)∈scope.names:=by
    rcases hx with h | h
    . exact g9 h (.inl rfl) S.nocell
    . exact g9 h (.inr rfl) S.nocell
   exact oE _ _ (.inl hm)
 . cases z
 . rcases QE.mp hb with e | hb
   . subst e;subst hD;exact ⟨Ro hC,λ x c e z=>absurd (ltC x c (S.sub I e)) (by rw [z];exact RX _)⟩
   . obtain ⟨o,e⟩:=hfo b hb;exact ⟨Ro (So (Q8 e) hC),λ x c e=>(hf b hb).2.2.2.2.1 x c (S.sub I e)⟩
 . have lb:=QZ (Q8 e) I.ok.bsz;rcases QE.mp hb with z | hb
   . subst z;subst hD;exact absurd (QZ lb I.sz) (RX _)
   . rcases (hf b hb).2.2.2.1 with z | z
     . exact I.ok.noex b o e z
     . exact absurd (QZ lb z) (RX _)
 . have hs:=I.stkSub b hb';rcases QE.mp hb with z | hb
   . subst z;subst hD;rcases QE.mp hs with z | z
     . exact absurd I.lt (by rw [<-z];exact RX _)
     . exact I.nofs (QH _) z
   . rcases QE.mp hs with z | z
     . exact (hf b hb).2.1 z
     . exact (hf b hb).2.2.1 z
 . unfold lift at e2;rw [Re] at e2;cases q:ix[j]? with
   | none=>rw [q] at e2;cases e2
   | some o=>
    rw [q] at e2;cases o with
    | none=>cases e2
    | some i=>
     obtain ⟨y,f1,f2,f3,f4⟩:=S.from' j i q;have e1':N[j]?=some x:=e1;rw [f1] at e1';cases e1';simp only [QI,Option.some.injEq] at e2;cases q2:σ[i]? with
     | none=>rw [q2] at e2;cases e2
     | some w=>
      rw [q2] at e2;simp only at e2;subst e2;obtain ⟨m,hm,hl⟩:=I.loc;have vis:N8 X.env.scope x:=by
       rcases f3 with z | z
       . exact .inr (.inl z)
       . exact .inr (.inr z)
      obtain ⟨u,r,l⟩:=hl i x v f2 q2 vis;refine ⟨u,r,.inr ⟨f4,?_⟩⟩;rcases l with ⟨l1,_⟩ | ⟨_,c,hc,hcell⟩
      . rw [l1] at f3;rcases f3 with z | z <;> cases z
      . have hmf:(x,NameKind.free)∈scope.names:=by
         rcases f4 with h | h
         . exact g9 h (.inl rfl) S.nocell
         . exact g9 h (.inr rfl) S.nocell
        obtain ⟨d,hd⟩:=oE (cells:=X.env.cells) scope.names [] (.inl hmf);have hd':=S.sub I hd;rw [hc] at hd';cases hd';refine ⟨c,hd,?_⟩;obtain ⟨o,ho,hod⟩:=hcell;exact ⟨o,k _ _ ho,hod⟩
 . obtain ⟨v,o,ho,hod⟩:=I.cell x c (S.sub I e);exact ⟨v,o,k _ _ ho,hod⟩
 . show (lift ix σ).length=N.length;unfold lift;rw [Rk,S.len]
end
def iZ {prog:Program} {w:World} {A:Around} {R:Result->Shared->Prop} {s:Shared} {elt target iter:Expr} {ifs:List Expr} {scope:Scope} {pos:Pos} {it acc:Value} {env:Env} (I:Nat->Shared->Prop)
 (turn:∀ n s,I n s->wpAny (model prog w) A (pyNext it) (λ r s₁=>match r with
  | none=>R (.ok .next) s₁
  | some v=>wpAny (model prog w) A (letOwnedTupleGo target it v) (λ _ s₁'=>wpAny (model prog w) A (assign target env v) (λ _ s₂=>
   wpAny (model prog w) A (forIn ifs true λ c r=>if r=true then do let ok <-isTrue c env (eval c env);pure (ForInStep.yield ok) else pure (ForInStep.yield r)) (λ ok s₃=>
    if ok=true then wpAny (model prog w) A (eval elt env) (λ x s₄=>
     wpAny (model prog w) A (call (.builtin "list.append") [acc,x]) (λ _ s₅=>∃ m,m<n/\I m s₅) (λ _ _=>False) s₄) (λ _ _=>False) s₃
    else ∃ m,m<n/\I m s₃) (λ _ _=>False) s₂) (λ _ _=>False) s₁') (λ _ _=>False) s₁) (λ _ _=>False) s)
 (n:Nat) (h:I n s):
 codeAny (model prog w) A (.compLoop (.ListComp elt [⟨target,iter,ifs,0⟩] scope pos) 0 it acc env) R s:=by
 refine codeAny_loop rfl I (λ n s hI=>?_) n h;show wpAny _ A ((compTurn (.ListComp elt [⟨target,iter,ifs,0⟩] scope pos) 0 it acc env).onRaise (λ x=>do noteFrame x env;theTreesLotGoes x)) _ _ s;refine wpAny_noted ?_;rw [compTurn_list];refine QA (wpAny_standAt (QA (Sk (turn n s hI) (λ r s₁ h₁=>?_) λ _ _ h'=>h'.elim)));cases r with
 | none=>exact QN h₁
 | some v=>
  refine QA (Sk h₁ (λ _ s₁' h₁'=>?_) λ _ _ h'=>h'.elim);refine QA (Sk h₁' (λ _ s₂ h₂=>QA (Sk h₂ (λ ok s₃ h₃=>?_) λ _ _ h'=>h'.elim)) λ _ _ h'=>h'.elim);cases ok with
  | false=>exact QN ⟨rfl,h₃⟩
  | true=>
   exact QA (QA (Sk h₃ (λ x s₄ h₄=>QA (Sk h₄ (λ _ s₅ h₅=>QN (QN ⟨rfl,h₅⟩)) λ _ _ h'=>h'.elim)) λ _ _ h'=>h'.elim))
instance xb (X:Cx) (ifs:List Expr) (t:TT):Prop:=
 ∀ (pins:Δ) (s:Shared) (σ:St) (H:Hp) (Q:Bool->Hp->Prop),aR X pins σ H s->t σ H Q->
  wpAny (model X.prog X.w) X.A (forIn ifs true λ c r=>if r=true then do let ok <-isTrue c X.env (eval c X.env);pure (ForInStep.yield ok) else pure (ForInStep.yield r)) (TP X pins σ Q) X.xe s
instance Ks:TT:=λ _ H Q=>Q true H
def Mb {X:Cx}:xb X [] Ks:=λ _ _ _ H _ I h=>wpAny_tests_nil ⟨H,I,h⟩
def K6 {X:Cx} {c:Expr} {t:TT} (h:PT X c t):xb X [c] t:=λ pins s σ H Q I q=>wpAny_tests_one (h pins s σ H Q I q)
instance FG (σ σ':St):Prop:=σ.length=σ'.length/\∀ (i:Nat) (v:V),σ[i]?=some (some v)->σ'[i]?=some (some v)
def FG.refl (σ:St):FG σ σ:=⟨rfl,λ _ _ h=>h⟩
def FG.set {σ σ':St} {j:Nat} {v:V} (e:FG σ σ') (h:σ[j]?=some none):FG σ (σ'.set j (some v)):=by
 refine ⟨by rw [Sa];exact e.1,λ i u q=>?_⟩;have hne:j≠i:=λ z=>by subst z;rw [h] at q;cases q
 rw [QW hne];exact e.2 i u q
def zf {ix:Λ} {σ:St} {j:Nat} (h:ix[j]?=some none):(lift ix σ)[j]?=some none:=by
 unfold lift;rw [Re,h];rfl
instance oK (ix:Λ) (g:TG):Prop:=∀ (v:V) (σ:St) (H:Hp) (Q:St->Hp->Prop),g v (lift ix σ) H Q->g v (lift ix σ) H λ σ2 H2=>Q σ2 H2/\FG (lift ix σ) σ2
def IM {ix:Λ} {j:Nat} (h:ix[j]?=some none):oK ix (n8 j):=λ v σ H Q q=>⟨q,(FG.refl _).set (zf h)⟩
instance pI (ix:Λ) (wi:TI) (g:TG) (tc:TT) (te:TE):TE:=λ σ H Q=>wi σ H λ J H1=>∃ W:Nat->Nat->List V->Hp->Prop,(∃ m,W 0 m [] H1)/\∀ i m ys H,W i m ys H->
 (J.stop i H/\ys.length<=sizeLine/\∀ p,H p=none->Q (.ref p) (cK H p (.lst ys)))∨
 (J.go i H/\ys.length<sizeLine/\∃ N:List V->Hp->Prop,(∀ ys' H',N ys' H'->∃ m',m'<m/\W (i+1) m' ys' H')/\∀ x H',J.yld i H x H'->g x (lift ix σ) H' λ σ2 H2=>tc σ2 H2 λ b H3=>if b=true then te σ2 H3 λ v H4=>N (ys++[v]) H4 else N ys H3)
def C7 {X:Cx} {pins pins':Δ} {σ σ':St} {H2 H':Hp} {s2 s4:Shared} {scope:Scope} {N:Ω} {C D:Addr} {fp:Ξ} {h':Heap} {ys:List V} {its:Φ} {n:Nat}
 (I2:aR X pins σ H2 s2) (I':aR (bX X scope N s2 H2 C (D::fp)) pins' σ' H' s4) (f2:∀ b∈fp,kB X pins H2 b) (hD:D=s2.heap.objs.size) (hC:s2.heap.objs.size<C) (hDC:D≠C)
 (hs:Heap.SameBut C s4.heap h') (eD:s4.heap.get? D=some { cls:=.type "list", data:=.seq its.toArray n }) (fD:H' D=none) (rv:bn ys its) (hz:ys.length<=sizeLine):
 aR X pins σ (cK H' D (.lst ys)) { s4 with heap:=h' }:=by
 have lt:∀ b o,s2.heap.get? b=some o->b≠D/\b≠C:=λ b o e=>
  ⟨by rw [hD];exact Ro (Q8 e),Ro (So (Q8 e) hC)⟩
 have nex:∀ b o,s2.heap.get? b=some o->b∉fp->b∉D::fp:=λ b o e hb z=>by
  rcases QE.mp z with z | z
  . exact (lt b o e).1 z
  . exact hb z
 have nD:∀ b u,H' b=some u->b≠D:=λ b u e=>bt e fD;have nC:∀ b u,H' b=some u->b≠C:=λ b u e=>bt e I'.free;have u:=I'.base;refine I2.call' (ch:=fp) (show s4.os=s2.os from I'.os) ⟨λ b o e n hb hx=>?_,λ b o e n hb hx=>?_,λ b o e n hx=>?_,λ b o e hx=>?_,λ b xs e=>?_,λ b o xs e=>?_,λ b ps e=>?_⟩ (λ b o e=>?_) I'.bare λ b hb=>⟨(f2 b hb).2.2.2.1,(f2 b hb).2.1,(f2 b hb).2.2.2.2.1,(f2 b hb).2.2.2.2.2⟩
 . exact (hs.2 b (lt b o e).2).trans (u.keep b o e n hb (nex b o e hx))
 . obtain ⟨sl,q⟩:=u.slot b o e n hb (nex b o e hx);exact ⟨sl,(hs.2 b (lt b o e).2).trans q⟩
 . rw [aL (lt b o e).1];exact u.free b o e n (nex b o e hx)
 . obtain ⟨o',q⟩:=u.there b o e (nex b o e hx);exact ⟨o',(hs.2 b (lt b o e).2).trans q⟩
 . have q:=u.tups b xs e;rw [aL (nD b _ q)];exact q
 . have q:=u.frzs b o xs e;rw [aL (nD b _ q)];exact q
 . obtain ⟨m,q⟩:=u.tbls b ps e;exact ⟨m,by rw [aL (nD b _ q)];exact q⟩
 . by_cases hb:b=D
   . subst hb;rw [aP] at e;cases e;exact ⟨hz,its,n,rv,(hs.2 b hDC).trans eD⟩
   . rw [aL hb] at e;refine (I'.hok b o e).stay (λ c v hc q=>(hs.2 c ?_).trans q) (λ c q=>by rw [aL (nD c _ q)];exact q) λ c xs q=>by rw [aL (nD c _ q)];exact q
     rcases hc with z | z
     . rw [z];exact nC b o e
     . exact nC c _ z
section
variable {X:Cx} {elt tg iter:Expr} {ifs:List Expr} {scope:Scope} {pos:Pos} {wi:TI} {g:TG} {tc:TT} {te:TE} {N:Ω} {ix:Λ}
def qo {pins:Δ} {σ:St} {Q:VK} {s2:Shared} {itv:Value} {Rr:Value->Addr->Result->Shared->Prop} (S:bV X scope N ix) (hc:X.calm=true) (hG:oK ix g)
 (hb:∀ (s₀:Shared) (H₀:Hp) (C:Addr) (ex:Ξ),PG (bX X scope N s₀ H₀ C ex) tg g/\xb (bX X scope N s₀ H₀ C ex) ifs tc/\PE (bX X scope N s₀ H₀ C ex) elt te)
 (h2:Oc X pins σ tg (λ J H1=>∃ W:Nat->Nat->List V->Hp->Prop,(∃ m,W 0 m [] H1)/\∀ i m ys H,W i m ys H->
  (J.stop i H/\ys.length<=sizeLine/\∀ p,H p=none->Q (.ref p) (cK H p (.lst ys)))∨
  (J.go i H/\ys.length<sizeLine/\∃ N:List V->Hp->Prop,(∀ ys' H',N ys' H'->∃ m',m'<m/\W (i+1) m' ys' H')/\∀ x H',J.yld i H x H'->g x (lift ix σ) H' λ σ2 H2=>tc σ2 H2 λ b H3=>if b=true then te σ2 H3 λ v H4=>N (ys++[v]) H4 else N ys H3)) itv s2)
 (hR:∀ (s4:Shared) (H':Hp) (D C:Addr) (m:Θ) (ys:List V),s4.heap.Ns C m->kB X pins H' C->(∀ h',Heap.SameBut C s4.heap h'->aR X pins σ (cK H' D (.lst ys)) { s4 with heap:=h' })->aR X pins σ (cK H' D (.lst ys)) s4->D≠C->Q (.ref D) (cK H' D (.lst ys))->Rr (.ref D) C (.ok .next) s4):
 wpAny (model X.prog X.w) X.A (newList []) (λ acc s₃=>wpAny (model X.prog X.w) X.A (newFunctionEnv scope X.env.globals (zG scope X.env) [] X.env.qual none .none (some X.env)) (λ cenv s₄=>
  codeAny (model X.prog X.w) X.A (.compStart (.ListComp elt [⟨tg,iter,ifs,0⟩] scope pos) 0 itv acc { cenv with scope:=relabel scope X.env }) (Rr acc cenv.locals) s₄) X.xe s₃) X.xe s2:=by
 obtain ⟨it,fp,tn,J,H2,e,I2,T,st2,f2,W,⟨m0,w0⟩,turn⟩:=h2;subst e;have fo:∀ b∈fp,∃ o,s2.heap.get? b=some o:=λ b hb=>let ⟨o,e,_⟩:=T.obj _ _ st2 b hb;⟨o,e⟩;refine wpAny_newObj_type (wpAny_newFunctionEnv S.nocell (by intro y hy;simp at hy) (λ h₁ hns₁ hsb₁=>?_) S.kind);dsimp only at hns₁ hsb₁ ⊢;generalize hH2:s2.heap.push { cls:=.type "list", dict:=none,data:=.seq ([]:Φ).toArray }=HH at hns₁ hsb₁ ⊢;have hC:HH.objs.size=s2.heap.objs.size+1:=by rw [<-hH2,size_push]
 generalize hCC:HH.objs.size=C at hns₁ hsb₁ hC ⊢;generalize hDD:s2.heap.objs.size=D at hC ⊢;have hlt:s2.heap.objs.size<C:=by rw [hDD,hC];exact RE _
 have hDC:D≠C:=by rw [hC];exact Ro (RE _)
 have old:∀ b o,s2.heap.get? b=some o->h₁.get? b=some o:=λ b o e=>
  hsb₁.extBut b o (Ro (So (Q8 e) hlt)) (QX _ (hH2▸QX _ e))
 have hacc:h₁.PlainList D #[]:=⟨_,hsb₁.extBut _ _ hDC (QX _ (hH2▸hDD▸Rg _ rfl))⟩
 have hns₂:h₁.Ns C λ _=>none:=hns₁;have I4:=S.start (tk:=s2.toks+([]:List (Str×Value)).length) I2 f2 fo hDD.symm hlt old hns₂;obtain ⟨hg,hif,hel⟩:=hb s2 H2 C (D::fp);have stat:∀ {H':Hp},(∀ b∈D::fp,H' b=none)->∀ b∈D::fp,kB (bX X scope N s2 H2 C (D::fp)) [] H' b:=λ hn b hb=>
  ⟨hn b hb,(I4.ok.exf b hb).1,I4.ok.exfs b hb,.inl hb,(I4.ok.exf b hb).2,λ p hp=>absurd (show p∈([]:Δ) from hp) (by simp)⟩
 have sub:∀ b∈fp,b∈D::fp:=λ b hb=>Rj _ hb;have nDf:∀ b∈fp,b≠D:=λ b hb z=>by
  obtain ⟨o,e⟩:=fo b hb;exact absurd (Q8 e) (by rw [z,hDD];exact RX _)
 have free0:∀ b∈D::fp,H2 b=none:=λ b hb=>by
  rcases QE.mp hb with z | hb
  . rw [z];exact I2.hok.fresh (le_of_eq hDD)
  . exact (f2 b hb).1
 have loop:∀ s₃:Shared,s₃={ s2 with heap:=h₁,toks:=s2.toks+([]:List (Str×Value)).length }->
  codeAny (model X.prog X.w) X.A (.compLoop (.ListComp elt [⟨tg,iter,ifs,0⟩] scope pos) 0 (.ref it) (.ref D) (compEnvC scope (zG scope X.env) C X.env))
   (Rr (.ref D) C) s₃:=by
  rintro s₃ rfl;refine iZ (λ n s'=>∃ i H' ys its,aR (bX X scope N s2 H2 C (D::fp)) [] (lift ix σ) H' s'/\tn i s'.heap/\(∀ b∈D::fp,H' b=none)/\s'.heap.PlainList D (List.toArray its)/\bn ys its/\W i n ys H') ?_ m0
   ⟨0,H2,[],[],I4,T.keep _ _ _ st2 λ b _ o e=>old b o e,free0,hacc,.nil,w0⟩
  rintro n s3 ⟨i,H3,ys,its,I3,st3,fr3,pl3,rv3,w3⟩;obtain ⟨kk,plE⟩:=pl3;have pinD:∀ {pp:Δ} {σ':St} {H':Hp} {s':Shared},aR (bX X scope N s2 H2 C (D::fp)) pp σ' H' s'->H' D=none->s'.heap.get? D=some { cls:=.type "list", data:=.seq its.toArray kk }->
   aR (bX X scope N s2 H2 C (D::fp)) [(D,{ cls:=.type "list", data:=.seq its.toArray kk })] σ' H' s':=λ {pp σ' H' s'} J f e=>J.pins_of λ p hp=>by
   have z:p=(D,{ cls:=.type "list", data:=.seq its.toArray kk }):=by simpa using hp
   subst z;exact ⟨e,f,(J.ok.exf D Rf).1,J.ok.exfs D Rf,λ v z=>by cases z⟩
  have fpD:∀ {H':Hp},(∀ b∈D::fp,H' b=none)->∀ b∈fp,kB (bX X scope N s2 H2 C (D::fp)) [(D,{ cls:=.type "list", data:=.seq its.toArray kk })] H' b:=λ hn b hb=>by
   obtain ⟨a1,a2,a3,a4,a5,a6⟩:=stat hn b (sub b hb);refine ⟨a1,a2,a3,a4,a5,λ p hp=>?_⟩;have z:p=(D,{ cls:=.type "list", data:=.seq its.toArray kk }):=by simpa [bX] using hp
   subst z;exact (nDf b hb).symm
  have frD:H3 D=none:=fr3 D Rf;rcases turn i n ys H3 w3 with ⟨stop,hz,qn⟩ | ⟨go,hz,NN,hN,step⟩
  . refine cJ (T.done (bX X scope N s2 H2 C (D::fp)) rfl rfl rfl hc i _ s3 _ H3 (λ _ _=>False) (pinD I3 frD plE) (fpD fr3) st3 stop) λ r s4 ⟨hr,I4'⟩=>?_;subst hr;obtain ⟨m,hm,_⟩:=I4'.loc;have eD:=(I4'.pin (D,_) (Rt _ Rf)).1;have fin:∀ h',Heap.SameBut C s4.heap h'->aR X pins σ (cK H3 D (.lst ys)) { s4 with heap:=h' }:=λ h' hs'=>C7 I2 I4' f2 hDD.symm hlt hDC hs' eD frD rv3 hz;have hC0:s2.heap.objs.size<=C:=Sh hlt;have fC:kB X pins H3 C:=by
     have q:=I2.fpOk (H':=H3) hC0 I4'.free;exact q
    exact hR s4 H3 D C m ys hm fC fin (by simpa using fin s4.heap (Heap.SameBut.refl ..)) hDC (qn D frD)
  . refine cJ (T.item (bX X scope N s2 H2 C (D::fp)) rfl rfl rfl hc i _ s3 _ H3 (λ _ _=>False) (pinD I3 frD plE) (fpD fr3) st3 go) λ r s4 ⟨u,hr,h4⟩=>?_;subst hr;refine cJ h4 λ _ s5 hq0=>?_;obtain ⟨x,H5,I5,r5,y5,st5,fr5⟩:=hq0;have eD5:=(I5.pin (D,_) (Rt _ Rf))
    have fr5':∀ b∈D::fp,H5 b=none:=λ b hb=>by
     rcases QE.mp hb with z | hb
     . rw [z];exact eD5.2.1
     . exact fr5 b hb
    have I5':aR (bX X scope N s2 H2 C (D::fp)) ([]++mC (D::fp) s5.heap) (lift ix σ) H5 s5:=(I5.unpinned (pins:=[]) (pl:=[_])).pinned (stat fr5') λ b hb=>by
     rcases QE.mp hb with z | hb
     . rw [z];exact ⟨_,eD5.1,λ v z=>by cases z⟩
     . exact T.obj _ _ st5 b hb
    have back:∀ {σ7:St} {H7:Hp} {s7:Shared},aR (bX X scope N s2 H2 C (D::fp)) ([]++mC (D::fp) s5.heap) σ7 H7 s7->FG (lift ix σ) σ7->
     aR (bX X scope N s2 H2 C (D::fp)) [] (lift ix σ) H7 s7/\tn (i+1) s7.heap/\(∀ b∈D::fp,H7 b=none)/\s7.heap.get? D=some { cls:=.type "list", data:=.seq its.toArray kk }:=λ {σ7 H7 s7} I7 ex=>by
     have keepAt:∀ b∈D::fp,∀ o,s5.heap.get? b=some o->s7.heap.get? b=some o/\H7 b=none:=λ b hb o e=>
      ⟨(I7.pin (b,o) (Rt _ (Rt _ (iK hb e)))).1,(I7.pin (b,o) (Rt _ (Rt _ (iK hb e)))).2.1⟩
     refine ⟨I7.unpinned.weak ex.1 ex.2,T.keep _ _ _ st5 λ b hb o e=>(keepAt b (sub b hb) o e).1,λ b hb=>?_,(keepAt D Rf _ eD5.1).1⟩;rcases QE.mp hb with z | hb'
     . rw [z];exact (keepAt D Rf _ eD5.1).2
     . obtain ⟨o,e,_⟩:=T.obj _ _ st5 b hb';exact (keepAt b hb o e).2
    refine cJ (hg _ s5 _ H5 x u _ I5' r5 (hG _ _ _ _ (step x H5 y5))) λ _ s6 hq0=>?_;obtain ⟨σ6,H6,I6,q6,ex6⟩:=hq0;refine cJ (hif _ s6 σ6 H6 _ I6 q6) λ ok s7 hq0=>?_;obtain ⟨H7,I7,q7⟩:=hq0;cases ok with
    | false=>
     rw [QS QU] at q7 ⊢;obtain ⟨m',hm,w7⟩:=hN _ _ q7;obtain ⟨J1,J2,J3,J4⟩:=back I7 ex6;exact ⟨m',hm,i+1,H7,ys,its,J1,J2,J3,⟨_,J4⟩,rv3,w7⟩
    | true=>
     rw [QF rfl] at q7 ⊢;refine cJ (hel _ s7 σ6 H7 _ I7 q7) λ uv s8 hq0=>?_;obtain ⟨y,H8,I8,r8,q8⟩:=hq0;obtain ⟨m',hm,w8⟩:=hN _ _ q8;obtain ⟨J1,J2,J3,J4⟩:=back I8 ex6;refine wpAny_list_append_plain (hsz:=by rw [QQ,<-rv3.length];exact Sh hz) ⟨_,J4⟩ λ h₉ hl₉ hs₉=>?_;obtain ⟨a1,a2,a3,a4,a5,a6⟩:=stat J3 D Rf;refine ⟨m',hm,i+1,H8,ys++[y],its++[uv],J1.turned (t':=s8.toks) (λ b o hb e=>hs₉.extBut b o hb e) a1 a2 a4 a5 a6,T.keep _ _ _ J2 λ b hb o e=>hs₉.extBut b o (nDf b hb) e,J3,by simpa using hl₉,rv3.append (.cons r8 .nil),w8⟩
 exact codeAny_compStart_list (loop _ rfl) (T.self _ 0 _ _ _ (T.keep _ _ _ st2 λ b _ o e=>old b o e) (loop _ rfl))
def E7 (S:bV X scope N ix) (hc:X.calm=true) (hi:PI X tg iter wi) (hG:oK ix g)
 (hb:∀ (s₀:Shared) (H₀:Hp) (C:Addr) (ex:Ξ),PG (bX X scope N s₀ H₀ C ex) tg g/\xb (bX X scope N s₀ H₀ C ex) ifs tc/\PE (bX X scope N s₀ H₀ C ex) elt te)
 (hs:∀ x,foldedSetIterable iter X.env x=pure x:=by intro _;rfl):PE X (.ListComp elt [⟨tg,iter,ifs,0⟩] scope pos) (pI ix wi g tc te):=by
 intro pins s σ H Q I h;rw [eval_ListComp];refine wpAny_comprehension_free (use:=none) rfl hs (pE (S.cells I)) S.kind S.locs ?_;refine cJ (hi pins s σ H _ I h) λ v s1 h1=>cJ h1 λ itv s2 h2=>?_;refine qo (Rr:=λ acc C=>compPost (model X.prog X.w) X.A X.xe none (EP X pins σ Q) acc C) S hc hG hb h2 ?_;intro s4 H' D C m ys hm _ fin _ _ q;exact ⟨m,hm,λ h' hs'=>⟨.ref D,_,fin h' hs',rfl,q⟩⟩
def Ep {y:Str} {py spos:Pos} {i:Nat} (hN:X.N.Nodup) (hi:X.N[i]?=some y) (hy:Ja X.env.scope y) (S:bV X scope N ix) (hc:X.calm=true) (hit:PI X tg iter wi) (hG:oK ix g)
 (hb:∀ (s₀:Shared) (H₀:Hp) (C:Addr) (ex:Ξ),PG (bX X scope N s₀ H₀ C ex) tg g/\xb (bX X scope N s₀ H₀ C ex) ifs tc/\PE (bX X scope N s₀ H₀ C ex) elt te)
 (hsw:swapsWith (.ListComp elt [⟨tg,iter,ifs,0⟩] scope pos) (some (.Name y py)) spos.line X.env=pure true:=by rfl) (hs:∀ x,foldedSetIterable iter X.env x=pure x:=by intro _;rfl)
 (hf:X.fn y=true∨X.env.scope.names.lookup y=some .local:=by first | exact .inl rfl | exact .inr rfl | assumption):
 PS X (.Assign [.Name y py] (.ListComp elt [⟨tg,iter,ifs,0⟩] scope pos) spos) (pU (pI ix wi g tc te) (n8 i)):=by
 intro pins s σ H D0 I h;rw [exec_Assign_Name_used _ _ _ _ hsw];refine QA (wpAny_standAt (QA ?_));show wpAny _ X.A (do let _ <-comprehension (.ListComp elt [⟨tg,iter,ifs,0⟩] scope pos) scope X.env _ (newList []) false (eval iter X.env) (some (assign (.Name y py) X.env))) _ _ s;refine QA (Sk (wpAny_comprehension_free (use:=some (assign (.Name y py) X.env)) (Q:=λ _ s'=>SP X pins D0 .next s') rfl hs (pE (S.cells I)) S.kind S.locs ?_) (λ _ s' hq=>QN (QN hq)) λ _ _ e=>e);refine cJ (hit pins s σ H _ I h) λ v s1 h1=>cJ h1 λ itv s2 h2=>?_;refine qo (Q:=λ x H1=>n8 i x σ H1 D0.nx) (Rr:=λ acc C=>compPost (model X.prog X.w) X.A X.xe (some (assign (.Name y py) X.env)) (λ _ s'=>SP X pins D0 .next s') acc C) S hc hG hb h2 ?_;intro s4 H' D C m ys hm fC _ I4 hDC q;show wpAny _ X.A (assign (.Name y py) X.env (.ref D)) _ _ _;obtain ⟨c0,c1,c2,c3,c4,c5⟩:=fC;refine wpAny_assign_Name (q9 (v:=.ref D) I4 hN hi hy rfl (λ s5 I5 hsb=>?_) hf);obtain ⟨a,hsa,ha⟩:=hsb;have haC:C≠a:=by
  rcases ha with z | z
  . rw [z];exact c1
  . exact λ e=>c4 y a z e.symm
 refine ⟨m,hm.sameBut hsa haC,λ h' hs'=>?_⟩;have hCn:(cK H' D (.lst ys)) C=none:=by rw [aL hDC.symm];exact c0
 exact ⟨_,_,I5.turned (t':=s5.toks) (λ b o hb e=>hs'.extBut b o hb e) hCn c1 c3 c4 c5,q⟩
end
instance NP (K:Frag) (a b:Addr):It:=
 ⟨λ i H=>∃ xs ys x y,cR K H a xs/\cR K H b ys/\xs[i]?=some x/\ys[i]?=some y,
  λ i H v H'=>∃ p x y,H p=none/\v=.ref p/\H'=cK H p (.tup [x,y])/\(∀ xs,cR K H a xs->xs[i]?=some x)/\∀ ys,cR K H b ys->ys[i]?=some y,
  λ i H=>∃ xs ys,cR K H a xs/\cR K H b ys/\(xs.length<=i∨ys.length<=i)⟩
def aR.turnedL {X:Cx} {pins:Δ} {σ:St} {H:Hp} {s:Shared} {h':Heap} {t':Nat} {ch:Ξ} (I:aR X pins σ H s) (hf:∀ b∈ch,kB X pins H b) (k:∀ b o,b∉ch->s.heap.get? b=some o->h'.get? b=some o):
 aR X pins σ H { s with heap:=h',toks:=t' }:=by
 have zJ:∀ c t,H c=some t->c∉ch:=λ c t e hc=>by rw [(hf c hc).1] at e;cases e
 refine I.step (g':=s.gens) (d':=s.drawn) (ch:=ch) (λ c hc=>⟨(hf c hc).2.2.2.1,(hf c hc).2.1,(hf c hc).2.2.2.2.1,(hf c hc).2.2.2.2.2⟩) (λ c o _ _ hc e _=>k c o hc e) (λ c o _ _ hc e _=>⟨o.slots,k c o hc e⟩) (λ _ _ _ _ n=>n) (λ c o hc e=>⟨o,k c o hc e⟩)
  (λ _ _ e=>e) (λ _ _ _ e=>e) (λ c ps e=>⟨#[],by rw [e];simp⟩) (λ m hm=>?_) (λ c t e=>?_) I.bare
 . obtain ⟨o,es,ep,ho,r⟩:=hm;exact ⟨o,es,ep,k _ o (λ hc=>(hf _ hc).2.1 rfl) ho,r⟩
 . refine (I.hok c t e).stay (λ d o hd q=>k d o ?_ q) (λ _ q=>q) λ _ _ q=>q;rcases hd with hd | hd
   . rw [hd];exact zJ c t e
   . exact zJ d _ hd
def qR {h:Heap} {a b z TI TO i1 i2:Addr} {u0 v0:Value} {i:Nat} {its jts:Array Value} (h12:i1≠i2) (hT:TI≠TO) (e1:IsZip h z TI TO .none) (e2:IsPair h TI (.ref i1) (.ref i2)) (e3:IsPair h TO u0 v0) (e4:h.IsListIter i1 a i) (e5:h.IsListIter i2 b i)
 (px:PlainL h a its) (py:PlainL h b jts):ZipApart z TI TO i1 i2 a b:=by
 obtain ⟨o4,g4,c4,_⟩:=id e4;obtain ⟨o5,g5,c5,_⟩:=id e5;obtain ⟨oa,na,ga,ca,_⟩:=id px;obtain ⟨ob,nb,gb,cb,_⟩:=id py;have ne:∀ {p q:Addr} {o o':Obj},h.get? p=some o->h.get? q=some o'->o.cls≠o'.cls->p≠q:=λ h h' d z=>by
  subst z;rw [h] at h';cases h';exact d rfl
 exact ⟨ne e2 e1 (by simp),ne e3 e1 (by simp),ne g4 e1 (by rw [c4];simp),ne g5 e1 (by rw [c5];simp),hT,ne e2 g4 (by rw [c4];simp),ne e2 g5 (by rw [c5];simp),ne e3 g4 (by rw [c4];simp),ne e3 g5 (by rw [c5];simp),h12,
  ne ga e1 (by rw [ca];simp),ne ga e3 (by rw [ca];simp),ne ga g4 (by rw [ca,c4];simp),ne ga g5 (by rw [ca,c5];simp),ne gb e1 (by rw [cb];simp),ne gb e3 (by rw [cb];simp),ne gb g4 (by rw [cb,c4];simp),ne gb g5 (by rw [cb,c5];simp)⟩
def Br {P:Program} {w:World} {K:Frag} {elts:List Expr} {x1} {pos:Pos} (a b z TI TO i1 i2:Addr) (h12:i1≠i2) (hT:TI≠TO):
 wI P w K (.Tuple elts x1 pos) (NP K a b) [z,TI,TO,i1,i2] z (λ i h=>IsZip h z TI TO .none/\IsPair h TI (.ref i1) (.ref i2)/\(∃ u v,IsPair h TO u v)/\h.IsListIter i1 a i/\h.IsListIter i2 b i) where
 mem:=by simp
 obj:=λ i h st c hc=>by
  obtain ⟨e1,e2,⟨u,v,e3⟩,⟨o4,e4,_,d4⟩,⟨o5,e5,_,d5⟩⟩:=st;simp only [QE,QR,Ss] at hc;rcases hc with rfl | rfl | rfl | rfl | rfl
  . exact ⟨_,e1,λ v z=>by cases z⟩
  . exact ⟨_,e2,λ v z=>by cases z⟩
  . exact ⟨_,e3,λ v z=>by cases z⟩
  . exact ⟨o4,e4,λ v z=>by rw [d4] at z;cases z⟩
  . exact ⟨o5,e5,λ v z=>by rw [d5] at z;cases z⟩
 keep:=λ i h h' st k=>by
  obtain ⟨e1,e2,⟨u,v,e3⟩,e4,e5⟩:=st;exact ⟨k z (by simp) _ e1,k TI (by simp) _ e2,⟨u,v,k TO (by simp) _ e3⟩,e4.at λ o e=>k i1 (by simp) o e,e5.at λ o e=>k i2 (by simp) o e⟩
 item:=by
  intro X hP hw hK hc i pins s σ H E I hf st hg;subst hP hw hK;obtain ⟨xs,ys,x,y,qx,qy,hx,hy⟩:=hg;obtain ⟨its,rvx,px,_⟩:=I.list qx;obtain ⟨jts,rvy,py,_⟩:=I.list qy;obtain ⟨u,hu,ru⟩:=rvx.get hx;obtain ⟨v,hv,rv⟩:=rvy.get hy;obtain ⟨e1,e2,⟨u0,v0,e3⟩,e4,e5⟩:=st;have D:=qR h12 hT e1 e2 e3 e4 e5 px py;refine wpAny_pyNext_zip_item D e1 e2 e3 e4 e5 px.isList py.isList (x:=u) (y:=v) (by simpa using hu) (by simpa using hv) λ h' a1 a2 a3 a4 a5 a6 a7=>?_;refine ⟨_,rfl,wpAny_letOwnedTupleGo_zip (s:={ s with heap:=h' }) a1 λ h'' b1 b2=>?_⟩;have hTn:H s.heap.objs.size=none:=I.hok.fresh (QH _);have big:∀ {c:Addr} {o:Obj},s.heap.get? c=some o->c≠s.heap.objs.size:=λ e=>Ro (Q8 e);have hTz:s.heap.objs.size≠z:=(big e1).symm;have k2:∀ c o,c≠z->c≠TO->c≠i1->c≠i2->s.heap.get? c=some o->h''.get? c=some o:=λ c o c1 c2 c3 c4 e=>(b2.2 c c1).trans (a7 c o c1 c2 c3 c4 e);have eT:IsPair h'' s.heap.objs.size u v:=(b2.2 _ hTz).trans a5;have fpz:=hf z (by simp);have fpO:=hf TO (by simp);have fp1:=hf i1 (by simp);have fp2:=hf i2 (by simp);have nin:∀ c,c∉[z,TO,i1,i2]->c≠z/\c≠TO/\c≠i1/\c≠i2:=λ c hc=>by
   simp only [QE,QR,Ss,not_or] at hc;exact hc
  have inn:∀ c∈[z,TO,i1,i2],kB X pins H c:=λ c hc=>by
   simp only [QE,QR,Ss] at hc;rcases hc with rfl | rfl | rfl | rfl
   . exact fpz
   . exact fpO
   . exact fp1
   . exact fp2
  have zJ:∀ c t,H c=some t->c∉[z,TO,i1,i2]:=λ c t e hc=>by rw [(inn c hc).1] at e;cases e
  have I1:aR X pins σ (cK H s.heap.objs.size (.tup [x,y])) { s with heap:=h'',gens:=s.gens,drawn:=s.drawn,toks:=s.toks }:=by
   refine I.step (ch:=[z,TO,i1,i2]) (λ c hc=>⟨(inn c hc).2.2.2.1,(inn c hc).2.1,(inn c hc).2.2.2.2.1,(inn c hc).2.2.2.2.2⟩) (λ c o _ _ hc e _=>?_) (λ c o _ _ hc e _=>?_) (λ c o hc e n=>?_) (λ c o hc e=>?_) (λ c t e=>?_) (λ c o t e=>?_) (λ c ps e=>?_) (λ m hm=>?_) (λ c t e=>?_) I.bare
   . obtain ⟨c1,c2,c3,c4⟩:=nin c hc;exact k2 c o c1 c2 c3 c4 e
   . obtain ⟨c1,c2,c3,c4⟩:=nin c hc;exact ⟨o.slots,k2 c o c1 c2 c3 c4 e⟩
   . rw [aL (big e)];exact n
   . obtain ⟨c1,c2,c3,c4⟩:=nin c hc;exact ⟨o,k2 c o c1 c2 c3 c4 e⟩
   . rw [aL (bt e hTn)];exact e
   . rw [aL (bt e hTn)];exact e
   . exact ⟨#[],by rw [aL (bt e hTn),e];simp⟩
   . obtain ⟨o,es,ep,ho,r⟩:=hm;obtain ⟨c1,c2,c3,c4⟩:=nin X.env.locals (λ hc=>(inn _ hc).2.1 rfl);exact ⟨o,es,ep,k2 _ o c1 c2 c3 c4 ho,r⟩
   . by_cases hcT:c=s.heap.objs.size
     . subst hcT;rw [aP] at e;cases e;exact ⟨by show 2<=sizeLine;decide,[u,v],.cons ru (.cons rv .nil),⟨_,eT,rfl,_,rfl⟩⟩
     . rw [aL hcT] at e;refine (I.hok c t e).stay (λ d o hd q=>?_) (λ d q=>by rw [aL (bt q hTn)];exact q) λ d zs q=>by rw [aL (bt q hTn)];exact q
       have hd':d∉[z,TO,i1,i2]:=by
        rcases hd with hd | hd
        . rw [hd];exact zJ c t e
        . exact zJ d _ hd
       obtain ⟨c1,c2,c3,c4⟩:=nin d hd';exact k2 d o c1 c2 c3 c4 q
  refine ⟨.ref s.heap.objs.size,_,I1,rfl,⟨s.heap.objs.size,x,y,hTn,rfl,rfl,λ zs hz=>by rw [I.list_inj hz qx];exact hx,λ zs hz=>by rw [I.list_inj hz qy];exact hy⟩,
   ⟨b1,k2 _ _ D.TIz D.TITO D.TIi1 D.TIi2 e2,⟨u,v,(b2.2 _ D.TOz).trans a2⟩,a3.at λ o e=>(b2.2 _ D.i1z).trans e,a4.at λ o e=>(b2.2 _ D.i2z).trans e⟩,λ c hc=>?_⟩
  have hcn:∀ c∈[z,TI,TO,i1,i2],c≠s.heap.objs.size:=λ c hc=>by
   obtain ⟨o4,g4,_⟩:=id e4;obtain ⟨o5,g5,_⟩:=id e5;simp only [QE,QR,Ss] at hc;rcases hc with rfl | rfl | rfl | rfl | rfl
   . exact big e1
   . exact big e2
   . exact big e3
   . exact big g4
   . exact big g5
  rw [aL (hcn c hc)];exact (hf c hc).1
 done:=by
  intro X hP hw hK hc i pins s σ H E I hf st hg;subst hP hw hK;obtain ⟨xs,ys,qx,qy,hl⟩:=hg;obtain ⟨its,rvx,px,_⟩:=I.list qx;obtain ⟨jts,rvy,py,_⟩:=I.list qy;obtain ⟨e1,e2,⟨u0,v0,e3⟩,e4,e5⟩:=st;have D:=qR h12 hT e1 e2 e3 e4 e5 px py;have lx:=rvx.length;have ly:=rvy.length;refine wpAny_pyNext_zip_end (I.ok.hd hc) D e1 e2 e3 e4 e5 px.isList py.isList ?_ λ h' k=>⟨rfl,I.turnedL (t':=s.toks) (ch:=[z,TO,i1,i2]) (λ c hc=>hf c ?_) λ c o hc e=>?_⟩
  . rcases hl with hl | hl
    . exact .inl (by simp;omega)
    . exact .inr (by simp;omega)
  . simp only [QE,QR,Ss] at hc ⊢;rcases hc with h | h | h | h
    . exact .inl h
    . exact .inr (.inr (.inl h))
    . exact .inr (.inr (.inr (.inl h)))
    . exact .inr (.inr (.inr (.inr h)))
  . simp only [QE,QR,Ss,not_or] at hc;exact k c o hc.1 hc.2.1 hc.2.2.1 hc.2.2.2 e
 self:=λ _ _ _ _ _ st h=>wpAny_pyIter_zip st.1 h
instance Jg (K:Frag) (ta:TA):TI:=λ σ H R=>ta σ H λ vs H1=>∃ a b,vs=[.ref a,.ref b]/\(∃ xs,cR K H1 a xs)/\(∃ ys,cR K H1 b ys)/\R (NP K a b) H1
def Hx {X:Cx} {elts:List Expr} {x1} {tpos:Pos} {a b:Expr} {ta:TA} {p pos:Pos} (hg:Gl X "zip") (hm:X.mg "zip" = none) (ha:PA X [a,b] ta) (hs:starEach [a,b] X.env=[(false,eval a X.env),(false,eval b X.env)]:=by rfl) (hs2:starEach [b] X.env=[(false,eval b X.env)]:=by rfl):
 PI X (.Tuple elts x1 tpos) (.Call (.Name "zip" p) [a,b] [] pos) (Jg X.K ta):=by
 intro pins s σ H R I h;refine Call_ (m6 I hg hm boot_zip (Sn (cJ (ha pos pins s σ H _ I h) λ us s1 hq0=>?_) (by rw [hs,hs2]) (by rw [hs2];rfl)));obtain ⟨vs,H1,I1,r1,q1⟩:=hq0;obtain ⟨a,b,e,⟨xs,qx⟩,⟨ys,qy⟩,q⟩:=q1;subst e;cases r1 with
 | cons r rr=>
  cases rr with
  | cons r' rr=>
   cases rr;cases r;cases r';obtain ⟨its,rvx,px,_⟩:=I1.list qx;obtain ⟨jts,rvy,py,_⟩:=I1.list qy;refine call_zip_2 px.isList py.isList λ h' g5 g3 g4 g1 g2 z5 k=>?_;refine wpAny_pyIter_zip (s:={ s1 with heap:=h' }) g5 ?_;refine ⟨s1.heap.objs.size+4,[s1.heap.objs.size+4,s1.heap.objs.size+2,s1.heap.objs.size+3,s1.heap.objs.size,s1.heap.objs.size+1],_,_,H1,rfl,I1.kept (t':=s1.toks) k,Br a b _ _ _ _ _ (Ro (RE _)) (Ro (RE _)),⟨g5,g3,⟨_,_,g4⟩,g1,g2⟩,λ c hc=>?_,q⟩;have hc':s1.heap.objs.size<=c:=by
    simp only [QE,QR,Ss] at hc;rcases hc with h | h | h | h | h <;> subst h <;> first
     | exact QH _
     | exact le_add_right _ _
   exact I1.fpOk hc' (I1.hok.fresh hc')
instance JJ (T:String):Option Bool:=if T = "int" then some true else if T = "bool" then some false else if T = "str" then some false else if T = "list" then some false else if T = "tuple" then some false else if T = "dict" then some false else none
instance Jy (T:String):Option Bool:=if T = "int" then some true else if T = "bool" then some true else if T = "str" then some false else if T = "list" then some false else if T = "tuple" then some false else if T = "dict" then some false else none
instance Jw (T:String):Option Bool:=if T = "int" then some false else if T = "bool" then some false else if T = "str" then some true else if T = "list" then some false else if T = "tuple" then some false else if T = "dict" then some false else none
instance CY (v:V) (T:String):Option Bool:=match v with
 | .int _=>JJ T
 | .bl _=>Jy T
 | .str _=>Jw T
 | _=>none
def C0 {X:Cx}:cV X (.builtin "isinstance") (λ xs H Q=>∃ v T k,xs=[v,.ty T]/\CY v T=some k/\Q (.bl k) H):=by
 intro pins s σ H xs us Q I r h;obtain ⟨v,T,k,rfl,hk,q⟩:=h;cases r with
 | cons r rr=>
  cases rr with
  | cons r' rr=>
   cases rr;cases r';have fin:∀ {n:Option Bool} {T':String} {b:Bool},(if T=T' then some b else n)=some k->(T=T'/\b=k)∨n=some k:=λ {n T' b} h=>by
    by_cases e:T=T'
    . rw [QF e] at h;cases h;exact .inl ⟨e,rfl⟩
    . rw [QS e] at h;exact .inr h
   cases v with
   | int i=>
    obtain ⟨t,rfl⟩:=r;replace hk:JJ T=some k:=hk;unfold JJ at hk;rcases fin hk with ⟨rfl,rfl⟩ | hk
    . exact IsiPair.int_int ⟨.bl _,H,I,rfl,q⟩
    rcases fin hk with ⟨rfl,rfl⟩ | hk
    . exact IsiPair.int_bool ⟨.bl _,H,I.tok _,rfl,q⟩
    rcases fin hk with ⟨rfl,rfl⟩ | hk
    . exact IsiPair.int_str ⟨.bl _,H,I.tok _,rfl,q⟩
    rcases fin hk with ⟨rfl,rfl⟩ | hk
    . exact IsiPair.int_list ⟨.bl _,H,I.tok _,rfl,q⟩
    rcases fin hk with ⟨rfl,rfl⟩ | hk
    . exact IsiPair.int_tuple ⟨.bl _,H,I.tok _,rfl,q⟩
    rcases fin hk with ⟨rfl,rfl⟩ | hk
    . exact IsiPair.int_dict ⟨.bl _,H,I.tok _,rfl,q⟩
    cases hk
   | bl i=>
    cases r;replace hk:Jy T=some k:=hk;unfold Jy at hk;rcases fin hk with ⟨rfl,rfl⟩ | hk
    . first | exact IsiPair.bool_int ⟨.bl _,H,I,rfl,q⟩ | exact IsiPair.bool_int ⟨.bl _,H,I.tok _,rfl,q⟩
    rcases fin hk with ⟨rfl,rfl⟩ | hk
    . first | exact IsiPair.bool_bool ⟨.bl _,H,I,rfl,q⟩ | exact IsiPair.bool_bool ⟨.bl _,H,I.tok _,rfl,q⟩
    rcases fin hk with ⟨rfl,rfl⟩ | hk
    . first | exact IsiPair.bool_str ⟨.bl _,H,I,rfl,q⟩ | exact IsiPair.bool_str ⟨.bl _,H,I.tok _,rfl,q⟩
    rcases fin hk with ⟨rfl,rfl⟩ | hk
    . first | exact IsiPair.bool_list ⟨.bl _,H,I,rfl,q⟩ | exact IsiPair.bool_list ⟨.bl _,H,I.tok _,rfl,q⟩
    rcases fin hk with ⟨rfl,rfl⟩ | hk
    . first | exact IsiPair.bool_tuple ⟨.bl _,H,I,rfl,q⟩ | exact IsiPair.bool_tuple ⟨.bl _,H,I.tok _,rfl,q⟩
    rcases fin hk with ⟨rfl,rfl⟩ | hk
    . first | exact IsiPair.bool_dict ⟨.bl _,H,I,rfl,q⟩ | exact IsiPair.bool_dict ⟨.bl _,H,I.tok _,rfl,q⟩
    cases hk
   | str i=>
    obtain ⟨t,rfl⟩:=r;replace hk:Jw T=some k:=hk;unfold Jw at hk;rcases fin hk with ⟨rfl,rfl⟩ | hk
    . first | exact IsiPair.str_int ⟨.bl _,H,I,rfl,q⟩ | exact IsiPair.str_int ⟨.bl _,H,I.tok _,rfl,q⟩
    rcases fin hk with ⟨rfl,rfl⟩ | hk
    . first | exact IsiPair.str_bool ⟨.bl _,H,I,rfl,q⟩ | exact IsiPair.str_bool ⟨.bl _,H,I.tok _,rfl,q⟩
    rcases fin hk with ⟨rfl,rfl⟩ | hk
    . first | exact IsiPair.str_str ⟨.bl _,H,I,rfl,q⟩ | exact IsiPair.str_str ⟨.bl _,H,I.tok _,rfl,q⟩
    rcases fin hk with ⟨rfl,rfl⟩ | hk
    . first | exact IsiPair.str_list ⟨.bl _,H,I,rfl,q⟩ | exact IsiPair.str_list ⟨.bl _,H,I.tok _,rfl,q⟩
    rcases fin hk with ⟨rfl,rfl⟩ | hk
    . first | exact IsiPair.str_tuple ⟨.bl _,H,I,rfl,q⟩ | exact IsiPair.str_tuple ⟨.bl _,H,I.tok _,rfl,q⟩
    rcases fin hk with ⟨rfl,rfl⟩ | hk
    . first | exact IsiPair.str_dict ⟨.bl _,H,I,rfl,q⟩ | exact IsiPair.str_dict ⟨.bl _,H,I.tok _,rfl,q⟩
    cases hk
   | _=>cases hk
section
variable {X:Cx}
instance FI (i j:Int):Prop:=j≠0/\j.natAbs<2^512
def LO:gy X (binaryOp .FloorDiv) (rI FI λ i j=>.int (i.fdiv j)):=LY λ i j _ _ _ _ _ hc q=>floordiv_int hc.1 q (.inl (PyProof.noPylong_of_log2 (by
 by_cases h0:j.natAbs=0
 . rw [h0];decide +kernel
 . have:=(Nat.log2_lt h0).mpr hc.2;omega)))
def Nl:gy X (binaryOp .Mod) (rI (λ _ j=>j≠0) λ i j=>.int (i.fmod j)):=F0
def boot_bool':bootBuiltins "bool" = some (.type "bool"):=by decide +kernel
def wf {scope:Scope} {N:Ω} {ix:Λ} (kind:scope.kind=.function) (nocell:(scope.names.all λ y=>y.2 != .cell)=true) (locs:(scope.names.all λ y=>y.2 != .local||scope.names.lookup y.1==some .local)=true)
 (free:(scope.names.all λ y=>y.2 != .free||X.env.kindOf y.1==some .cell||X.env.kindOf y.1==some .free)=true) (len:ix.length=N.length) (nd:N.Nodup)
 (fr:((ix.zip N).all λ p=>match p.1 with
  | none=>true
  | some i=>X.N[i]?==some p.2&&(X.env.kindOf p.2==some .cell||X.env.kindOf p.2==some .free)&&((relabel scope X.env).names.lookup p.2==some .cell||(relabel scope X.env).names.lookup p.2==some .free))=true):bV X scope N ix:=by
 refine ⟨kind,λ y hy=>?_,λ y hy hl=>?_,λ y hy hf=>?_,len,nd,λ j i e=>?_⟩
 . have:=all_eq_true.mp nocell y hy;simpa using this
 . have:=all_eq_true.mp locs y hy;rw [hl] at this;simpa using this
 . have:=all_eq_true.mp free y hy;rw [hf] at this;simpa using this
 . have hj:j<ix.length:=(oG e).1;have hj':j<N.length:=by omega
   have hm:(ix.zip N)[j]?=some (some i,N[j]):=by
    rw [List.getElem?_zip_eq_some];exact ⟨e,by simp [hj']⟩
   have:=all_eq_true.mp fr _ (Rz hm);simp only [Rb,SK,beq_iff_eq] at this;exact ⟨N[j],by simp [hj'],this.1.1,this.1.2,this.2⟩
end
section
variable {K:Frag} {a b:Addr} {xs ys:List V} {wi:TI} {g:TG} {tb:TS} {D:jg} {σ:St} {H H1:Hp} {ix:Λ} {tc:TT} {te:TE} {Q:VK}
end
def aR.turnedTup {X:Cx} {pins:Δ} {σ:St} {H:Hp} {s:Shared} {h':Heap} {t':Nat} {ch:Ξ} {T:Addr} {xs:List V} {its:Φ} (I:aR X pins σ H s) (hf:∀ b∈ch,kB X pins H b)
 (k:∀ b o,b∉ch->s.heap.get? b=some o->h'.get? b=some o) (hT:s.heap.objs.size<=T) (eT:IsTup h' T its.toArray) (r:bn xs its) (hz:xs.length<=sizeLine):aR X pins σ (cK H T (.tup xs)) { s with heap:=h',toks:=t' }:=by
 have hTn:H T=none:=I.hok.fresh hT;have big:∀ {c:Addr} {o:Obj},s.heap.get? c=some o->c≠T:=λ e=>Ro (QZ (Q8 e) hT);have zJ:∀ c t,H c=some t->c∉ch:=λ c t e hc=>by rw [(hf c hc).1] at e;cases e
 refine I.step (g':=s.gens) (d':=s.drawn) (ch:=ch) (λ c hc=>⟨(hf c hc).2.2.2.1,(hf c hc).2.1,(hf c hc).2.2.2.2.1,(hf c hc).2.2.2.2.2⟩) (λ c o _ _ hc e _=>k c o hc e) (λ c o _ _ hc e _=>⟨o.slots,k c o hc e⟩) (λ c o hc e n=>?_) (λ c o hc e=>⟨o,k c o hc e⟩) (λ c t e=>?_) (λ c o t e=>?_) (λ c ps e=>?_) (λ m hm=>?_) (λ c t e=>?_) I.bare
 . rw [aL (big e)];exact n
 . rw [aL (bt e hTn)];exact e
 . rw [aL (bt e hTn)];exact e
 . exact ⟨#[],by rw [aL (bt e hTn),e];simp⟩
 . obtain ⟨o,es,ep,ho,r⟩:=hm;exact ⟨o,es,ep,k _ o (λ hc=>(hf _ hc).2.1 rfl) ho,r⟩
 . by_cases hcT:c=T
   . subst hcT;rw [aP] at e;cases e;exact ⟨hz,its,r,eT⟩
   . rw [aL hcT] at e;refine (I.hok c t e).stay (λ d o hd q=>k d o ?_ q) (λ d q=>by rw [aL (bt q hTn)];exact q) λ d zs q=>by rw [aL (bt q hTn)];exact q
     rcases hd with hd | hd
     . rw [hd];exact zJ c t e
     . exact zJ d _ hd
instance Od (K:Frag) (a:Addr):It:=
 ⟨λ i H=>∃ xs x,cR K H a xs/\xs[i]?=some x,
  λ i H v H'=>∃ p x,H p=none/\v=.ref p/\H'=cK H p (.tup [.int i,x])/\∀ xs,cR K H a xs->xs[i]?=some x,
  λ i H=>∃ xs,cR K H a xs/\xs.length<=i⟩
def yT {P:Program} {w:World} {K:Frag} {elts:List Expr} {x1} {pos:Pos} (a e it:Addr) (hei:e≠it):
 wI P w K (.Tuple elts x1 pos) (Od K a) [e,it] e (λ i h=>(∃ old,IsEnum h e it i old)/\h.IsListIter it a i) where
 mem:=by simp
 obj:=λ i h st c hc=>by
  obtain ⟨⟨old,e1⟩,⟨o4,e4,_,d4⟩⟩:=st;simp only [QE,QR,Ss] at hc;rcases hc with rfl | rfl
  . exact ⟨_,e1,λ v z=>by cases z⟩
  . exact ⟨o4,e4,λ v z=>by rw [d4] at z;cases z⟩
 keep:=λ i h h' st k=>by
  obtain ⟨⟨old,e1⟩,e4⟩:=st;exact ⟨⟨old,k e (by simp) _ e1⟩,e4.at λ o q=>k it (by simp) o q⟩
 item:=by
  intro X hP hw hK hc i pins s σ H E I hf st hg;subst hP hw hK;obtain ⟨xs,x,qx,hx⟩:=hg;obtain ⟨its,rvx,px,_⟩:=I.list qx;obtain ⟨u,hu,ru⟩:=rvx.get hx;obtain ⟨⟨old,e1⟩,e4⟩:=st;have big:∀ {c:Addr} {o:Obj},s.heap.get? c=some o->c≠s.heap.objs.size:=λ e=>Ro (Q8 e);refine wpAny_pyNext_enum_item e1 e4 px.isList (x:=u) (by simpa using hu) hei λ h' a1 a2 a3 a4 a5=>?_;refine ⟨_,rfl,wpAny_letOwnedTupleGo_enum (s:={ s with heap:=h',toks:=s.toks+1 }) a1 λ h'' b1 b2=>?_⟩;have k2:∀ c o,c∉[e,it]->s.heap.get? c=some o->h''.get? c=some o:=λ c o hc q=>by
   simp only [QE,QR,Ss,not_or] at hc;exact (b2.2 c hc.1).trans (a5 c o hc.1 hc.2 q)
  have eT:IsTup h'' s.heap.objs.size (List.toArray [.int i s.toks,u]):=⟨_,(b2.2 _ (big e1).symm).trans a3,rfl,_,rfl⟩
  have I1:=I.turnedTup (t':=s.toks+1) (xs:=[.int i,x]) hf k2 (QH _) eT (.cons ⟨_,rfl⟩ (.cons ru .nil)) (by show 2<=sizeLine;decide);refine ⟨.ref s.heap.objs.size,_,I1,rfl,⟨s.heap.objs.size,x,I.hok.fresh (QH _),rfl,rfl,λ zs hz=>by rw [I.list_inj hz qx];exact hx⟩,⟨⟨u,by simpa using b1⟩,a2.at λ o q=>(b2.2 _ hei.symm).trans q⟩,λ c hc=>?_⟩;have hcn:c≠s.heap.objs.size:=by
   obtain ⟨o4,g4,_⟩:=id e4;simp only [QE,QR,Ss] at hc;rcases hc with rfl | rfl
   . exact big e1
   . exact big g4
  rw [aL hcn];exact (hf c hc).1
 done:=by
  intro X hP hw hK hc i pins s σ H E I hf st hg;subst hP hw hK;obtain ⟨xs,qx,hl⟩:=hg;obtain ⟨its,rvx,px,_⟩:=I.list qx;obtain ⟨⟨old,e1⟩,e4⟩:=st;have lx:=rvx.length;obtain ⟨f0,f1,f2,f3,f4,f5⟩:=hf it (by simp);exact wpAny_pyNext_enum_end (I.ok.hd hc) e1 e4 px.isList (by simp;omega) λ h' k=>⟨rfl,I.turned (t':=s.toks) (λ b o hb q=>k b o hb q) f0 f1 f3 f4 f5⟩
 self:=λ _ _ _ _ _ st h=>by
  obtain ⟨⟨old,e1⟩,_⟩:=st;exact wpAny_pyIter_enum e1 h
instance A1 (K:Frag) (ta:TA):TI:=λ σ H R=>ta σ H λ vs H1=>∃ a,vs=[.ref a]/\(∃ xs,cR K H1 a xs)/\R (Od K a) H1
def Du {X:Cx} {elts:List Expr} {x1} {tpos:Pos} {a:Expr} {ta:TA} {p pos:Pos} (hg:Gl X "enumerate") (hm:X.mg "enumerate" = none) (ha:PA X [a] ta) (hs:starEach [a] X.env=[(false,eval a X.env)]:=by rfl):
 PI X (.Tuple elts x1 tpos) (.Call (.Name "enumerate" p) [a] [] pos) (A1 X.K ta):=by
 intro pins s σ H R I h;refine Call_ (m6 I hg hm boot_enumerate (Sn (cJ (ha pos pins s σ H _ I h) λ us s1 hq0=>?_) hs rfl));obtain ⟨vs,H1,I1,r1,q1⟩:=hq0;obtain ⟨a,e,⟨xs,qx⟩,q⟩:=q1;subst e;cases r1 with
 | cons r rr=>
  cases rr;cases r;obtain ⟨its,rvx,px,_⟩:=I1.list qx;refine call_enumerate_list px.isList λ h' g5 g1 z5 k=>?_;refine wpAny_pyIter_enum (s:={ s1 with heap:=h' }) g5 ?_;refine ⟨s1.heap.objs.size+1,[s1.heap.objs.size+1,s1.heap.objs.size],_,_,H1,rfl,I1.kept (t':=s1.toks) k,yT a _ _ (Nat.ne_of_gt (RE _)),⟨⟨_,g5⟩,g1⟩,λ c hc=>?_,q⟩;have hc':s1.heap.objs.size<=c:=by
   simp only [QE,QR,Ss] at hc;rcases hc with h | h <;> subst h <;> first
    | exact QH _
    | exact le_add_right _ _
  exact I1.fpOk hc' (I1.hok.fresh hc')
mutual
inductive Dp (K:Frag) (H:Hp):V->PyData->Prop
 | non:Dp K H .non .none
 | bl (b:Bool):Dp K H (.bl b) (.bool b)
 | int (i:Int):Dp K H (.int i) (.int i)
 | str (x:Str):Dp K H (.str x) (.str x)
 | lst {a:Addr} {xs:List V} {ds:List PyData}:cR K H a xs->iM K H xs ds->Dp K H (.ref a) (.list ds)
 | tup {a:Addr} {xs:List V} {ds:List PyData}:fg K H a xs->iM K H xs ds->Dp K H (.ref a) (.tuple ds)
inductive iM (K:Frag) (H:Hp):List V->List PyData->Prop
 | nil:iM K H [] []
 | cons {v:V} {vs:List V} {d:PyData} {ds:List PyData}:Dp K H v d->iM K H vs ds->iM K H (v::vs) (d::ds)
end
def Dp.reads {X:Cx} {pins:Δ} {σ:St} {H:Hp} {s:Shared} (I:aR X pins σ H s) {v:V} {d:PyData} {u:Value} (h:Dp X.K H v d):br v u->∃ as,Reads s.heap u d as:=
 Dp.rec (motive_1:=λ v d _=>∀ u,br v u->∃ as,Reads s.heap u d as) (motive_2:=λ vs ds _=>∀ us,bn vs us->∃ as,ReadsAll s.heap us ds as)
  (λ u r=>by cases r;exact ⟨_,.none⟩) (λ b u r=>by cases r;exact ⟨_,.bool b⟩) (λ i u r=>by obtain ⟨t,rfl⟩:=r;exact ⟨_,.int i t⟩) (λ x u r=>by obtain ⟨t,rfl⟩:=r;exact ⟨_,.str x t⟩)
  (λ q _ ih u r=>by
   cases r;obtain ⟨its,rv,⟨o,n,e,c,_,d⟩,_⟩:=I.list q;obtain ⟨as,ra⟩:=ih _ rv;exact ⟨_,.list e c d (by simpa using ra)⟩)
  (λ q _ ih u r=>by
   cases r;obtain ⟨its,rv,⟨o,e,c,n,d⟩,_⟩:=I.tuple q;obtain ⟨as,ra⟩:=ih _ rv;exact ⟨_,.tuple e c d (by simpa using ra)⟩)
  (λ us r=>by cases r;exact ⟨_,.nil⟩)
  (λ _ _ ih1 ih2 us r=>by
   cases r with
   | cons r rr=>
    obtain ⟨as,ra⟩:=ih1 _ r;obtain ⟨bs,rb⟩:=ih2 _ rr;exact ⟨_,.cons ra rb⟩) h u
instance E8 (K:Frag) (neg:Bool):R2:=λ x y H Q=>∃ d e,Dp K H x d/\Dp K H y e/\d.canLay0=true/\e.canLay0=true/\d.depth<=64/\Q (.bl (if neg then !(PyData.eqv d e) else PyData.eqv d e)) H
def JC {X:Cx} (hu:X.A.units+64<cLine):gy X (compareOp .Eq) (E8 X.K false):=by
 intro pins s σ H x y v u Q I rx ry h;obtain ⟨d,e,hx,hy,cd,ce,dd,q⟩:=h;obtain ⟨as,ra⟩:=hx.reads I rx;obtain ⟨bs,rb⟩:=hy.reads I ry;exact SeqAt.compareEq_reads ra rb cd ce (by omega) ⟨.bl _,H,I,rfl,by simpa using q⟩
def I9 {X:Cx} (hu:X.A.units+64<cLine):gy X (compareOp .NotEq) (E8 X.K true):=by
 intro pins s σ H x y v u Q I rx ry h;obtain ⟨d,e,hx,hy,cd,ce,dd,q⟩:=h;obtain ⟨as,ra⟩:=hx.reads I rx;obtain ⟨bs,rb⟩:=hy.reads I ry;exact SeqAt.compareNe_reads ra rb cd ce (by omega) ⟨.bl _,H,I,rfl,by simpa using q⟩
section
variable {P:Program} {w:World} {K:Frag} {mg:Θ} {base:Heap} {N:Ω} {qual:Str} {scope:Scope} {f:Addr} {cd:Value} {A:Around} {outer:List Env} {s:Shared} {H:Hp} {E:XK}
end
section
variable {X:Cx} {E:XK} {C:Addr} {x:Str} {np cpos pos:Pos} {e:Expr} {es:List Expr} {t:TA}
end
section
variable {K:Frag} {x D:Addr}
variable {prog:Program} {w:World} {A:Around} {E:Γ} {s:Shared} {nm:Str}
end
section
variable {X:Cx}
end
section
variable {κ:Type} [DecidableEq κ]
instance f9 (kvs:List (κ×V)) (k:κ):Option V:=(kvs.find? λ kv=>decide (kv.1=k)).map (·.2)
instance gM (kvs:List (κ×V)) (k:κ) (v:V):List (κ×V):=
 if (kvs.any λ kv=>decide (kv.1=k))=true then kvs.map (λ kv=>if kv.1=k then (kv.1,v) else kv) else kvs++[(k,v)]
def ja {p:κ×V} {r:List (κ×V)} {k:κ} (e:p.1=k):f9 (p::r) k=some p.2:=by simp [f9,Rc,e]
def ir {p:κ×V} {r:List (κ×V)} {k:κ} (e:¬ p.1=k):f9 (p::r) k=f9 r k:=by simp [f9,Rc,e]
def pK (k:κ):∀ kvs:List (κ×V),(kvs.any λ kv=>decide (kv.1=k))=(f9 kvs k).isSome
 | []=>rfl
 | p::r=>by
  rw [RQ];by_cases e:p.1=k
  . simp only [ja e,QL e,Bool.true_or,Su]
  . rw [ir e,QJ e,Bool.false_or];exact pK k r
def mT (kvs:List (κ×V)) (k:κ) (v:V):(gM kvs k v).length<=kvs.length+1:=by
 unfold gM;split
 . rw [Rk];omega
 . rw [QO,QY,RG];omega
def C3 {kvs:List (κ×V)} {k:κ} (v:V) (h:f9 kvs k=none):gM kvs k v=kvs++[(k,v)]:=by
 unfold gM;rw [pK,h];exact QS (by decide)
def iB.isSome_eq {o:Option V} {u:Option Value} (r:iB o u):o.isSome=u.isSome:=by
 cases o with
 | none=>cases u with
  | none=>rfl
  | some _=>exact (show False from r).elim
 | some _=>cases u with
  | none=>exact (show False from r).elim
  | some _=>rfl
def iB.getD {o:Option V} {u:Option Value} {d:V} {d':Value} (r:iB o u) (rd:br d d'):br (o.getD d) (u.getD d'):=by
 cases o with
 | none=>cases u with
  | none=>exact rd
  | some _=>exact (show False from r).elim
 | some _=>cases u with
  | none=>exact (show False from r).elim
  | some _=>exact r
def KV.val {kvs:List (κ×V)} {vs:List (κ×Value)} (r:KV kvs vs) (k:κ):iB (f9 kvs k) (valueAt vs k):=by
 unfold KV at r;induction r with
 | nil=>exact True.intro
 | @cons p q ps qs h t ih=>
  obtain ⟨h1,h2⟩:=h;by_cases e:p.1=k
  . have e':q.1=k:=h1.symm.trans e;have b:valueAt (q::qs) k=some q.2:=by simp [valueAt,Rc,e']
    rw [ja e,b];exact h2
  . have e':¬ q.1=k:=λ z=>e (h1.trans z);have b:valueAt (q::qs) k=valueAt qs k:=by simp [valueAt,Rc,e']
    rw [ir e,b];exact ih
def KV.any {kvs:List (κ×V)} {vs:List (κ×Value)} (r:KV kvs vs) (k:κ):(kvs.any λ kv=>decide (kv.1=k))=vs.any λ kv=>decide (kv.1=k):=by
 unfold KV at r;induction r with
 | nil=>rfl
 | cons h t ih=>rw [RQ,RQ,ih,h.1]
def KV.repl {kvs:List (κ×V)} {vs:List (κ×Value)} (r:KV kvs vs) (k:κ) {y:V} {u:Value} (ry:br y u):
 KV (kvs.map λ kv=>if kv.1=k then (kv.1,y) else kv) (vs.map λ kv=>if kv.1=k then (kv.1,u) else kv):=by
 unfold KV at r ⊢;induction r with
 | nil=>exact .nil
 | @cons p q ps qs h t ih=>
  rw [QT,QT];refine .cons ?_ ih;obtain ⟨h1,h2⟩:=h;by_cases e:p.1=k
  . rw [QF e,QF (h1.symm.trans e)];exact ⟨h1,ry⟩
  . rw [QS e,QS (λ z=>e (h1.trans z))];exact ⟨h1,h2⟩
def KV.put {kvs:List (κ×V)} {vs:List (κ×Value)} (r:KV kvs vs) (k:κ) {y:V} {u:Value} (ry:br y u):KV (gM kvs k y) (stored vs k u):=by
 unfold gM stored;rw [r.any k];by_cases e:(vs.any λ kv=>decide (kv.1=k))=true
 . rw [QF e,QF e];exact r.repl k ry
 . rw [QS e,QS e];exact Paired.snoc r ⟨rfl,ry⟩
def KV.length {kvs:List (κ×V)} {vs:List (κ×Value)} (r:KV kvs vs):kvs.length=vs.length:=SC r
end
def uU {P:Program} {w:World} {k:aB} {u:Value} (r:br (kV k) u):(bj P w).is k u=true:=by
 cases k with
 | inl i=>obtain ⟨t,e⟩:=(show ∃ t,u=Value.int i t from r);subst e;exact vE P w i t
 | inr x=>obtain ⟨t,e⟩:=(show ∃ t,u=Value.str x t from r);subst e;exact ux P w x t
def qG {P:Program} {w:World}:∀ {ks:List aB} {us:Φ},bn (ks.map kV) us->ItemsAre (bj P w) ks us
 | [],_,r=>by rw [map_nil] at r;cases r;exact .nil
 | k::ks,_,r=>by
  rw [QT] at r;cases r with
  | cons h t=>exact .cons (uU h) (qG t)
noncomputable abbrev KT (H:Hp):List (List aB×V)->List (List aB×Addr×Value)->Prop:=Paired λ p q=>p.1=q.1/\H q.2.1=some (.tup (p.1.map kV))/\br p.2 q.2.2
def KT.val {H:Hp} {kvs:List (List aB×V)} {xs:List (List aB×Addr×Value)} (r:KT H kvs xs) (k:List aB):iB (f9 kvs k) ((atKey xs k).map (·.2)):=by
 induction r with
 | nil=>exact True.intro
 | @cons p q ps qs h t ih=>
  obtain ⟨h1,_,h2⟩:=h;by_cases e:p.1=k
  . have e':q.1=k:=h1.symm.trans e;have b:atKey (q::qs) k=some q.2:=by simp [atKey,Rc,e']
    rw [ja e,b];exact h2
  . have e':¬ q.1=k:=λ z=>e (h1.trans z);have b:atKey (q::qs) k=atKey qs k:=by simp [atKey,Rc,e']
    rw [ir e,b];exact ih
def KT.repl {H:Hp} {kvs:List (List aB×V)} {xs:List (List aB×Addr×Value)} (r:KT H kvs xs) (k:List aB) {y:V} {u:Value} (ry:br y u):
 KT H (kvs.map λ kv=>if kv.1=k then (kv.1,y) else kv) (xs.map (putAt k u)):=by
 induction r with
 | nil=>exact .nil
 | @cons p q ps qs h t ih=>
  rw [QT,QT];refine .cons ?_ ih;obtain ⟨h1,h2,h3⟩:=h;unfold putAt;by_cases e:p.1=k
  . rw [QF e,QF (h1.symm.trans e)];exact ⟨h1,h2,ry⟩
  . rw [QS e,QS (λ z=>e (h1.trans z))];exact ⟨h1,h2,h3⟩
def KT.put {H:Hp} {kvs:List (List aB×V)} {xs:List (List aB×Addr×Value)} (r:KT H kvs xs) (k:List aB) {b:Addr} {y:V} {u:Value} (hb:H b=some (.tup (k.map kV))) (ry:br y u):
 KT H (gM kvs k y) (storedH xs k b u):=by
 have e:(kvs.any λ kv=>decide (kv.1=k))=(atKey xs k).isSome:=by
  rw [pK,(r.val k).isSome_eq,isSome_map]
 unfold gM storedH;rw [e];by_cases q:(atKey xs k).isSome=true
 . rw [QF q,QF q];exact r.repl k ry
 . rw [QS q,QS q];exact Paired.snoc r ⟨rfl,hb,ry⟩
def KT.keeps {H H':Hp} {kvs:List (List aB×V)} {xs:List (List aB×Addr×Value)} (r:KT H kvs xs) (ht:∀ b ys,H b=some (.tup ys)->H' b=some (.tup ys)):KT H' kvs xs:=
 Paired.mapP r λ _ _ z=>⟨z.1,ht _ _ z.2.1,z.2.2⟩
section
variable {P:Program} {w:World} {H:Hp} {h:Heap} {a:Addr}
def Gh {u:HO} (ok:j5 P w H h) (e:Rd H a u):cX P w H h a u:=e.ok ok
def uC {kvs:List (aB×V)} (ok:j5 P w H h) (e:Rd H a (.dK kvs)):kvs.length<=sizeLine/\(a==sysModules)=false/\∃ vs,KV kvs vs/\h.DictOf (bj P w) a vs:=
 by obtain ⟨z,y,vs,r,x⟩:=(show cX P w H h a (.dK kvs) from Gh ok e);exact ⟨z,y,vs,r,x.of⟩
def Mu {kvs:List (aB×V)} (ok:j5 P w H h) (e:H a=some (.dK kvs)):∃ vs,KV kvs vs/\n6 P w h a vs:=by
 obtain ⟨_,_,vs,r,x⟩:=(show cX P w H h a (.dK kvs) from ok a _ e);exact ⟨vs,r,x⟩
def FM {kvs:List (aB×V)} (ok:j5 P w H h) (e:H a=some (.dK kvs)):kvs.length<=sizeLine/\(a==sysModules)=false/\∃ vs,KV kvs vs/\h.DictOf (bj P w) a vs:=uC ok (.inl e)
def my {ks:List aB} (ok:j5 P w H h) (e:H a=some (.tup (ks.map kV))):(tupleKind (bj P w)).is h ks a:=by
 obtain ⟨_,its,r,o,h1,h2,n,h3⟩:=(show cX P w H h a (.tup (ks.map kV)) from ok a _ e)
 exact ⟨o,its.toArray,n,h1,h2,h3,by simpa using qG r⟩
def uV {kvs:List (List aB×V)} (ok:j5 P w H h) (e:Rd H a (.dT kvs)):kvs.length<=sizeLine/\(a==sysModules)=false/\
 ∃ xs,KT H kvs xs/\h.DictOfH (tupleKind (bj P w)) a xs:=by
 obtain ⟨z,y,xs,r,o,es,ep,h1,h2,h3,h4,h5⟩:=(show cX P w H h a (.dT kvs) from Gh ok e)
 refine ⟨z,y,xs,r,o,es,ep,h1,h2,h3,h4,λ x hx=>?_,h5⟩;have all:∀ {l:List (List aB×V)} {m:List (List aB×Addr×Value)},KT H l m->∀ x∈m,(tupleKind (bj P w)).is h x.1 x.2.1:=by
  intro l m q;induction q with
  | nil=>intro x hx;exact nomatch hx
  | @cons p q ps qs hq t ih=>
   intro x hx;rcases QE.mp hx with e | hx
   . subst e;exact my ok (by rw [<-hq.1];exact hq.2.1)
   . exact ih x hx
 exact all r x hx
def BY {kvs:List (List aB×V)} (ok:j5 P w H h) (e:H a=some (.dT kvs)):kvs.length<=sizeLine/\(a==sysModules)=false/\
 ∃ xs,KT H kvs xs/\h.DictOfH (tupleKind (bj P w)) a xs:=uV ok (.inl e)
end
instance lU (H:Hp) (a:Addr) (y:V) (r:Option V):Prop:=
 (∃ kvs k,Rd H a (.dK kvs)/\y=kV k/\r=f9 kvs k)∨∃ kvs k b,Rd H a (.dT kvs)/\y=.ref b/\H b=some (.tup (k.map kV))/\r=f9 kvs k
instance sD (H:Hp) (a:Addr) (y v:V) (H':Hp):Prop:=
 (∃ kvs k,H a=some (.dK kvs)/\y=kV k/\kvs.length<sizeLine/\H'=cK H a (.dK (gM kvs k v)))∨
 ∃ kvs k b,H a=some (.dT kvs)/\y=.ref b/\H b=some (.tup (k.map kV))/\kvs.length<sizeLine/\H'=cK H a (.dT (gM kvs k v))
def lU.k {H:Hp} {a:Addr} {kvs:List (aB×V)} {k:aB} (e:H a=some (.dK kvs)):lU H a (kV k) (f9 kvs k):=.inl ⟨kvs,k,.inl e,rfl,rfl⟩
def lU.t {H:Hp} {a b:Addr} {kvs:List (List aB×V)} {k:List aB} (e:H a=some (.dT kvs)) (eb:H b=some (.tup (k.map kV))):lU H a (.ref b) (f9 kvs k):=.inr ⟨kvs,k,b,.inl e,rfl,eb,rfl⟩
def sD.k {H:Hp} {a:Addr} {kvs:List (aB×V)} {k:aB} {v:V} (e:H a=some (.dK kvs)) (hl:kvs.length<sizeLine):sD H a (kV k) v (cK H a (.dK (gM kvs k v))):=.inl ⟨kvs,k,e,rfl,hl,rfl⟩
def sD.t {H:Hp} {a b:Addr} {kvs:List (List aB×V)} {k:List aB} {v:V} (e:H a=some (.dT kvs)) (eb:H b=some (.tup (k.map kV))) (hl:kvs.length<sizeLine):
 sD H a (.ref b) v (cK H a (.dT (gM kvs k v))):=.inr ⟨kvs,k,b,e,rfl,eb,hl,rfl⟩
section
variable {X:Cx} {pins:Δ} {σ:St} {H:Hp} {s:Shared} {a:Addr} {y v:V} {u r:Value} {o:Option V} {A:Around} {E:Γ}
def aR.big (I:aR X pins σ H s):sysModules<s.heap.objs.size:=by
 have h:mainGlobals<s.heap.objs.size:=(I.mod.glob.keeps I.bk).lt;exact So (by decide) h
def zW {Q:Γ} (hu:A.units+1<cLine) (I:aR X pins σ H s) (g:lU H a y (some v)) (ry:br y u) (h:∀ w' s',aR X pins σ H s'->br v w'->Q w' s'):
 wpAny (model X.prog X.w) A (getItem (.ref a) u) Q E s:=by
 rcases g with ⟨kvs,k,e,ey,l⟩ | ⟨kvs,k,b,e,ey,eb,l⟩
 . subst ey;obtain ⟨z,hd,vs,rel,dd⟩:=uC I.hok e;obtain ⟨w',hw,rw'⟩:=iB.some_of (v:=v) (o:=valueAt vs k) (by rw [l];exact rel.val k);exact wpAny_getItem_of (uU ry) dd.mapOf hw (h w' _ (I.tok _) rw')
 . subst ey;cases (show u=Value.ref b from ry);obtain ⟨z,hd,xs,rel,dd⟩:=uV I.hok e;obtain ⟨w',hw,rw'⟩:=iB.some_of (v:=v) (o:=(atKey xs k).map (·.2)) (by rw [l];exact rel.val k);obtain ⟨p,hp,hp2⟩:=oM hw
   refine wpAny_getItem_heap (Sv hu) (my I.hok eb) dd hp ?_;rw [hp2];exact h w' _ (I.tok _) rw'
def OH {Q:Γ} (hu:A.units+1<cLine) (I:aR X pins σ H s) (g:lU H a y o) (ry:br y u) (h:∀ s',aR X pins σ H s'->Q (.bool o.isSome) s'):
 wpAny (model X.prog X.w) A (compareOp .In u (.ref a)) Q E s:=by
 rcases g with ⟨kvs,k,e,ey,l⟩ | ⟨kvs,k,b,e,ey,eb,l⟩
 . subst ey;obtain ⟨z,hd,vs,rel,dd⟩:=uC I.hok e;refine wpAny_in_of (uU ry) hd dd.mapOf ?_;rw [<-(rel.val k).isSome_eq,<-l];exact h _ (I.tok _)
 . subst ey;cases (show u=Value.ref b from ry);obtain ⟨z,hd,xs,rel,dd⟩:=uV I.hok e;refine wpAny_in_heap (Sv hu) (my I.hok eb) hd dd ?_;have q:=(rel.val k).isSome_eq;rw [isSome_map] at q;rw [<-q,<-l];exact h _ (I.tok _)
def FA {Q:Γ} (hu:A.units+1<cLine) (I:aR X pins σ H s) (g:lU H a y o) (ry:br y u) (h:∀ s',aR X pins σ H s'->Q (.bool (!o.isSome)) s'):
 wpAny (model X.prog X.w) A (compareOp .NotIn u (.ref a)) Q E s:=by
 rcases g with ⟨kvs,k,e,ey,l⟩ | ⟨kvs,k,b,e,ey,eb,l⟩
 . subst ey;obtain ⟨z,hd,vs,rel,dd⟩:=uC I.hok e;refine wpAny_notIn_of (uU ry) hd dd.mapOf ?_;rw [<-(rel.val k).isSome_eq,<-l];exact h _ (I.tok _)
 . subst ey;cases (show u=Value.ref b from ry);obtain ⟨z,hd,xs,rel,dd⟩:=uV I.hok e;refine wpAny_notIn_heap (Sv hu) (my I.hok eb) hd dd ?_;have q:=(rel.val k).isSome_eq;rw [isSome_map] at q;rw [<-q,<-l];exact h _ (I.tok _)
def sM {h':Heap} {t':Nat} {ob:HO} (I:aR X pins σ H s) (mu:M3 (H a)) (hs:Heap.SameBut a s.heap h') (he:∃ q,h'.get? a=some q) (new:cX X.prog X.w (cK H a ob) h' a ob):
 aR X pins σ (cK H a ob) { s with heap:=h',toks:=t' }:=
 I.write (x:=a) (e:=a) mu (.inl rfl) (λ b q hb z=>(hs.2 b hb).trans z) he new
def HS {P:Program} {w:World} {H':Hp} {h':Heap} {kvs:List (aB×V)} {vs:List (aB×Value)} (z:kvs.length<=sizeLine) (hd:(a==sysModules)=false) (rel:KV kvs vs) (dd:n6 P w h' a vs):
 cX P w H' h' a (.dK kvs):=⟨z,hd,vs,rel,dd⟩
def LQ {P:Program} {w:World} {d:Addr} {kvs:List (aB×Value)} {k:aB} {key v:Value} {Q:Unit->Shared->Prop} (hkey:(bj P w).is k key=true) (hm:n6 P w s.heap d kvs) (hsz:kvs.length<=sizeLine)
 (hQ:∀ h',n6 P w h' d (stored kvs k v)->Heap.SameBut d s.heap h'->Q () { s with heap:=h',toks:=s.toks+1 }):wpAny (model P w) A (setItem (.ref d) key v) Q E s:=by
 have T:=hm.of.typeIs;obtain ⟨o,es,ep,ho,hc,hd,he,hk,hp,hn⟩:=hm;have hes:es.size<=sizeLine:=by have e1:=hp.length;rw [R6] at e1;omega
 unfold setItem;try with_reducible refine RH ?_
 refine QA (wpAny_sequenceKey T (by decide) (QA (Sj (name:=Str.ofString "__setitem__") T F.slot_dict_setitem (wpAny_call_entry F.slot_dict_setitem T F.entry_dict_setitem (QA (wpAny_notOrdered_dict T (show wpAny _ _ (dictSet d key v >>= _) _ _ s from QA ?_))) (args_dict_setitem _ _ _)))));unfold dictSet;try with_reducible refine RH ?_
 refine QA ((bj P w).pyHash hkey ?_);unfold dictSetHashed;try with_reducible refine RH ?_
 refine QA (wpAny_dictFind_of (s:={ s with toks:=s.toks+1 }) hkey ho hd hk ?_);have ix:(es.findIdx? λ e=>(bj P w).is k e.key)=kvs.findIdx? λ kv=>decide (kv.1=k):=by
  rw [<-hp.findIdx k];obtain ⟨l⟩:=es;simp
 cases hi:es.findIdx? λ e=>(bj P w).is k e.key with
 | some i=>
  have an:=any_of_findIdx_some (ix▸hi);have hl:(es.toList.findIdx? λ e=>(bj P w).is k e.key)=some i:=by rw [<-hi];obtain ⟨l⟩:=es;simp
  have hm:=hp.modify hn hl v;refine QA (SH (QA (wpAny_updateDict (s:={ s with toks:=s.toks+1 }) ho hd (wpAny_point (QN ⟨.none,rfl,QN (hQ _ ?_ (R7 ..))⟩)))));refine ⟨_,_,ep,get?_update_self _ ho (Obj.isFreed_of_dict (Obj.data_mapDict hd _)),hc.mapDict _,Obj.data_mapDict hd _,by simpa using he,hk.modify _ _,?_,?_⟩
  . rw [stored,QF an];obtain ⟨l⟩:=es;simpa using hm
  . rw [stored,QF an,keys_map_store];exact hn
 | none=>
  have nm:k∉kvs.map (·.1):=not_mem_of_findIdx_none (ix▸hi);have na:¬ (kvs.any λ kv=>decide (kv.1=k))=true:=λ z=>by
   obtain ⟨kv,h1,h2⟩:=Sg.mp z;exact nm (Q7.mpr ⟨kv,h1,Rn h2⟩)
  have ha:=hp.append hkey ((bj P w).hash k) v;refine QA (SH (wpAny_updateDictKeys (hz:=hes) (s:={ s with toks:=s.toks+1 }) ho hd (QN ⟨.none,rfl,QN (hQ _ ?_ (R7 ..))⟩)));refine ⟨_,_,ep+1,get?_update_self _ ho (Obj.isFreed_of_dict (Obj.data_mapDictKeys hd _)),hc.mapDictKeys _,Obj.data_mapDictKeys hd _,by simp [he],hk.push hkey _,?_,?_⟩
  . rw [stored,QS na];obtain ⟨l⟩:=es;simpa using ha
  . rw [stored,QS na,Rw,RZ];exact ⟨hn,by simp,λ x hx y hy z=>nm (by simp at hy;rw [<-hy,<-z];exact hx)⟩
def zL {H':Hp} {Q:Unit->Shared->Prop} (hu:A.units+1<cLine) (I:aR X pins σ H s) (g:sD H a y v H') (ry:br y u) (rv:br v r) (h:∀ s',aR X pins σ H' s'->Q () s'):
 wpAny (model X.prog X.w) A (setItem (.ref a) u r) Q E s:=by
 rcases g with ⟨kvs,k,e,ey,l,eH⟩ | ⟨kvs,k,b,e,ey,eb,l,eH⟩
 . subst ey eH;obtain ⟨z,hd,_⟩:=FM I.hok e;obtain ⟨vs,rel,dd⟩:=Mu I.hok e;have hz:vs.length<=sizeLine:=by rw [<-rel.length];exact z
   have hl:(gM kvs k v).length<=sizeLine:=by have:=mT kvs k v;omega
   refine LQ (uU ry) dd hz λ h' dd' hs=>h _ ?_;have he:∃ q,h'.get? a=some q:=let ⟨q,_,_,hq,_⟩:=dd';⟨q,hq⟩;exact sM I (by rw [e];exact True.intro) hs he (HS hl hd (rel.put k rv) dd')
 . subst ey eH;cases (show u=Value.ref b from ry);obtain ⟨z,hd,xs,rel,dd⟩:=BY I.hok e;have hz:xs.length<=sizeLine:=by rw [<-SC rel];exact z
   have hl:(gM kvs k v).length<=sizeLine:=by have:=mT kvs k v;omega
   refine wpAny_setItem_heap (hsz:=hz) (Sv hu) (my I.hok eb) dd λ h' dd' hs=>h _ ?_;obtain ⟨q,es,ep,hq,h2,h3,h4,_,h5⟩:=dd';refine sM I (by rw [e];exact True.intro) hs ⟨q,hq⟩ ⟨hl,hd,_,(rel.put k eb rv).keeps λ c ys ec=>?_,q,es,ep,hq,h2,h3,h4,h5⟩;rw [aL (Gt ec e (λ z=>nomatch z))];exact ec
end
section
variable {X:Cx} {pins:Δ} {σ:St} {H:Hp} {s:Shared} {a:Addr} {kvs:List (aB×V)} {k:aB} {u:Value} {A:Around} {E:Γ}
end
instance MG (i:Expr):Prop:=∀ ov iv,subscripted i false ov iv=operate [ov,iv] (getItem ov iv)
def EF {prog:Program} {w:World} {A:Around} {E:Γ} {s:Shared} {env:Env} {value slice:Expr} {pos:Pos} {T id:String} {Q:Γ}
 (hl:typeLookup (.type T) "__getitem__" = pure (some (.builtin id))) (hs:MG slice)
 (h:wpAny (model prog w) A (eval value env) (λ o s₁=>wpAny (model prog w) A (eval slice env) (λ i s₂=>s₂.TypeIs o T/\wpAny (model prog w) A (getItem o i) Q E s₂) E s₁) E s):
 wpAny (model prog w) A (eval (.Subscript value slice pos) env) Q E s:=by
 refine Subscript_ (Sk h (λ o s₁ h₁=>Sk h₁ (λ i s₂ h₂=>?_) λ _ _ x=>x) λ _ _ x=>x);obtain ⟨hT,h₂⟩:=h₂;unfold subscriptTail;refine QA ?_;rw [getitemInPython_of_ne hT.not_modules];refine QA (wpAny_specialOf hT hl ?_);have fin:wpAny (model prog w) A (subscripted slice false o i) (λ r s₃=>wpAny (model prog w) A (letTemporaryGo value o r >>= λ _=>pure r) Q E s₃) E s₂:=by
  rw [hs o i];exact wpAny_operating (Sk h₂ (λ r s₃ h₃=>QA (wpAny_letTemporaryGo (QN h₃))) λ _ _ x=>x)
 first
  | exact QN (QA fin)
  | exact QA (QN (QA fin))
  | exact QA fin
def uK {X:Cx} {pins:Δ} {σ:St} {H:Hp} {s:Shared} {a:Addr} {y:V} {o:Option V} (I:aR X pins σ H s) (g:lU H a y o):s.TypeIs (.ref a) "dict" := by
 rcases g with ⟨kvs,k,e,_,_⟩ | ⟨kvs,k,b,e,_,_,_⟩
 . obtain ⟨_,_,vs,_,dd⟩:=uC I.hok e;exact dd.typeIs
 . obtain ⟨_,_,xs,_,dd⟩:=uV I.hok e;exact dd.typeIs
instance FW (td ty:TE):TE:=λ σ H Q=>td σ H λ x H1=>ty σ H1 λ y H2=>∃ a v,x=.ref a/\lU H2 a y (some v)/\Q v H2
instance Im (ty td:TE):TE:=λ σ H Q=>ty σ H λ y H1=>td σ H1 λ x H2=>∃ a o,x=.ref a/\lU H2 a y o/\Q (.bl o.isSome) H2
instance yA (ty td:TE):TE:=λ σ H Q=>ty σ H λ y H1=>td σ H1 λ x H2=>∃ a o,x=.ref a/\lU H2 a y o/\Q (.bl (!o.isSome)) H2
instance FR (td ty tv:TE):TS:=λ D σ H=>tv σ H λ v H1=>td σ H1 λ x H2=>ty σ H2 λ y H3=>∃ a H4,x=.ref a/\sD H3 a y v H4/\D.nx σ H4
section
variable {X:Cx} {o i e value:Expr} {pos pos' tpos:Pos} {td ty tv:TE}
def MY (hu:X.A.units+1<cLine) (ho:PE X o td) (hi:PE X i ty) (hs:MG i):PE X (.Subscript o i pos) (FW td ty):=by
 intro pins s σ H Q I h;refine EF PySem.F.slot_dict_getitem.lookup hs (cJ (ho pins s σ H _ I h) λ u s1 hy0=>?_);obtain ⟨x,H1,I1,rx,q1⟩:=hy0;refine cJ (hi pins s1 σ H1 _ I1 q1) λ iv s2 hq0=>?_;obtain ⟨y,H2,I2,ry,a,v,ex,g,q2⟩:=hq0;subst ex;obtain rfl:u=Value.ref a:=rx;exact ⟨uK I2 g,zW hu I2 g ry λ w' s3 I3 rw'=>⟨v,H2,I3,rw',q2⟩⟩
def NF (hu:X.A.units+1<cLine) (hi:PE X i ty) (ho:PE X o td):PC X .In i o (Im ty td):=by
 intro pins s σ H Q I h;refine cJ (hi pins s σ H _ I h) λ iv s1 hy0=>?_;obtain ⟨y,H1,I1,ry,q1⟩:=hy0;refine cJ (ho pins s1 σ H1 _ I1 q1) λ u s2 hq0=>?_;obtain ⟨x,H2,I2,rx,a,ov,ex,g,q2⟩:=hq0;subst ex;obtain rfl:u=Value.ref a:=rx;exact OH hu I2 g ry λ s3 I3=>⟨.bl ov.isSome,H2,I3,rfl,q2⟩
def Kb (hu:X.A.units+1<cLine) (hi:PE X i ty) (ho:PE X o td):PC X .NotIn i o (yA ty td):=by
 intro pins s σ H Q I h;refine cJ (hi pins s σ H _ I h) λ iv s1 hy0=>?_;obtain ⟨y,H1,I1,ry,q1⟩:=hy0;refine cJ (ho pins s1 σ H1 _ I1 q1) λ u s2 hq0=>?_;obtain ⟨x,H2,I2,rx,a,ov,ex,g,q2⟩:=hq0;subst ex;obtain rfl:u=Value.ref a:=rx;exact FA hu I2 g ry λ s3 I3=>⟨.bl (!ov.isSome),H2,I3,rfl,q2⟩
def N7 (hu:X.A.units+1<cLine) (ho:PE X o td) (hi:PE X i ty) (hv:PE X value tv) (hs:swapsWith value (some (.Subscript o i pos')) pos.line X.env=pure false):
 PS X (.Assign [.Subscript o i pos'] value pos) (FR td ty tv):=by
 intro pins s σ H D I h;refine wpAny_Assign_Subscript (cJ (hv pins s σ H _ I h) λ r s1 hy0=>?_) hs;obtain ⟨v,H1,I1,rv,q1⟩:=hy0;refine cJ (ho pins s1 σ H1 _ I1 q1) λ u s2 hy0=>?_;obtain ⟨x,H2,I2,rx,q2⟩:=hy0;refine cJ (hi pins s2 σ H2 _ I2 q2) λ iv s3 hq0=>?_;obtain ⟨y,H3,I3,ry,a,H4,ex,g,q3⟩:=hq0;subst ex;obtain rfl:u=Value.ref a:=rx;exact zL hu I3 g ry rv λ s4 I4=>⟨σ,H4,I4,q3⟩
end
def Cd {P:Program} {w:World} {H:Hp} (h:Heap) (hb:sysModules<h.objs.size):cX P w H (h.push { cls:=.type "dict", data:=.dict #[] }) h.objs.size (.dK []):=
 ⟨RN _,R5.mpr (RM (Ro hb)),[],.nil,_,#[],0,Rg _ rfl,⟨rfl,rfl,rfl⟩,rfl,rfl,λ _ he=>by simp at he,.nil,nodup_nil⟩
def AW {P:Program} {w:World} {H:Hp} (h:Heap) (hb:sysModules<h.objs.size):cX P w H (h.push { cls:=.type "dict", data:=.dict #[] }) h.objs.size (.dT []):=
 ⟨RN _,R5.mpr (RM (Ro hb)),[],.nil,_,#[],0,Rg _ rfl,⟨rfl,rfl,rfl⟩,rfl,rfl,nodup_nil⟩
instance AV:TE:=λ _ H Q=>∀ p,H p=none->Q (.ref p) (cK H p (.dK []))
instance BO:TE:=λ _ H Q=>∀ p,H p=none->Q (.ref p) (cK H p (.dT []))
section
variable {X:Cx} {pos:Pos}
def Mq:PE X (.Dict [] [] pos) AV:=λ pins s σ H Q I h=>
 wpAny_Dict_empty ⟨.ref s.heap.objs.size,_,I.laid (a:=s.heap.objs.size) (o:=.dK []) (t':=s.toks) (λ _ _ q=>QX _ q) (QH _) (Cd s.heap I.big),rfl,h _ (I.hok.fresh (QH _))⟩
def K4:PE X (.Dict [] [] pos) BO:=λ pins s σ H Q I h=>
 wpAny_Dict_empty ⟨.ref s.heap.objs.size,_,I.laid (a:=s.heap.objs.size) (o:=.dT []) (t':=s.toks) (λ _ _ q=>QX _ q) (QH _) (AW s.heap I.big),rfl,h _ (I.hok.fresh (QH _))⟩
end
structure M2 (X:Cx) (o:Expr) (m:Str) (apos:Pos) (e f:Expr) (cpos:Pos):Prop where
 base:attributeBase o m X.env (eval o X.env)=eval o X.env
 few:((backTo cpos (starEach [e,f] X.env)).all (λ x=>!x.1)&&(backToKw cpos (keywordEach [] X.env)).all (λ x=>x.1.isSome)
  && decide (([e,f]:List Expr).length+([]:List Keyword).length+(if ([]:List Keyword).isEmpty then 0 else 1)<30))=true
 line:(apos.endLine==cpos.line)=true
 trees:backTo cpos (starEach [e,f] X.env)=[(false,eval e X.env),(false,eval f X.env)]
section
variable {X:Cx} {pins:Δ} {σ:St} {H:Hp} {s:Shared} {a:Addr} {y d:V} {u r:Value} {o:Option V} {A:Around} {E:Γ}
end
section
variable {X:Cx} {o e f:Expr} {apos cpos:Pos} {td ty tx:TE}
end
section
variable {X:Cx} {pins:Δ} {σ:St} {H:Hp} {s:Shared} {a:Addr} {kvs:List (aB×V)} {A:Around} {E:Γ}
end
section
variable {X:Cx} {pins:Δ} {σ:St} {H:Hp} {s:Shared} {a:Addr} {y:V} {u:Value} {A:Around} {E:Γ}
end
section
variable {X:Cx}
end
section
variable {κ:Type} [DecidableEq κ]
end
instance fR (z:Str):Prop:=z.cps.all (· < 128)=true
section
variable {z:Str} {wi:TI} {g:TG} {tb:TS} {D:jg} {σ:St} {H H1:Hp} {ix:Λ} {tc:TT} {te:TE} {Q:VK}
end
def Oa {X:Cx}:ET X (λ x lo hi H Q=>∃ z,x=.str z/\z.length<=sizeLine/\Q (.str (Txt.slice z lo hi)) H):=by
 intro pins s σ H x v vl vu lo hi sl Q I rx hs pl pu h;obtain ⟨z,rfl,hz,q⟩:=h;obtain ⟨t,rfl⟩:=rx;have part:∀ {v:Value} {o:Option Int},IsPart v o->∃ p:Option (Int×Tok),v=partValue p/\o=p.map (·.1):=λ {v o} p=>by
  cases p with
  | none=>exact ⟨none,rfl,rfl⟩
  | int i t=>exact ⟨some (i,t),rfl,rfl⟩
 obtain ⟨p1,rfl,rfl⟩:=part pl;obtain ⟨p2,rfl,rfl⟩:=part pu;refine ⟨"str", _,F.slot_str_getitem.lookup,typeIs_str _ _ _,wpAny_getItem_str_slice (l:=p1) (u:=p2) (st:=none) hs rfl ?_⟩;refine post_val_or_str ⟨Rh (Txt.slice_le z _ _) hz,λ t' k=>⟨.str _,H,I.tok k,⟨t',rfl⟩,q⟩⟩
section
variable {X:Cx}
def vq {P:Program} {w:World} {A:Around} {its:Array Value} {bs:List Bool} (r:bn (bs.map V.bl) its.toList):TruthOf P w A (λ i v=>its[i]?=some v) λ i=>bs.getD i false:=by
 intro i v s Q E hv hQ;have hv':its.toList[i]?=some v:=by simpa using hv
 have hlen:=r.length;have hi:i<bs.length:=by
  have:=(oG hv').1;rw [<-hlen,Rk] at this;exact this
 have hb:(bs.map V.bl)[i]?=some (V.bl bs[i]):=by rw [Re,QP hi];rfl
 obtain ⟨u,hu,ru⟩:=r.get hb;rw [hv'] at hu;cases hu;cases ru;refine RY ?_;have e:bs.getD i false=bs[i]:=by simp [hi]
 have hQ':Q (bs.getD i false) s:=hQ;rw [e] at hQ';exact hQ'
def za (bs:List Bool):(List.range bs.length).any (λ i=>bs.getD i false)=bs.any id:=by
 rw [Bool.eq_iff_iff,Sg,Sg];constructor
 . rintro ⟨i,hi,h⟩;have hi':=mem_range.mp hi;exact ⟨bs[i],RU hi',by simpa [hi'] using h⟩
 . rintro ⟨b,hb,h⟩;obtain ⟨i,hi,rfl⟩:=List.mem_iff_getElem.mp hb;exact ⟨i,mem_range.mpr hi,by simpa [hi] using h⟩
def call_any' (hc:X.calm=true):cV X (.builtin "any") (λ xs H Q=>∃ (a:Addr) (bs:List Bool),xs=[.ref a]/\cR X.K H a (bs.map V.bl)/\Q (.bl (bs.any id)) H):=by
 intro pins s σ H xs us Q I r h;obtain ⟨a,bs,rfl,hq,q⟩:=h;obtain ⟨u,rfl,ru⟩:=qK r;cases ru;obtain ⟨its,rv,pl,_⟩:=I.list hq;refine call_any_walk (wpAny_pyIter_list pl.isList ?_);have hne:a≠s.heap.objs.size:=by
  obtain ⟨o,n,e,_⟩:=pl;exact Ro (Q8 e)
 refine ⟨s.heap.objs.size,_,_,_,_,_,_,rfl,Walks.list (A:=X.A.in1) (show X.A.in1.handled=none from I.ok.hd hc) _ a hne its.toArray,⟨⟨_,Rg _ rfl,rfl,rfl⟩,pl.isList.push _⟩,vq (bs:=bs) (by simpa using rv),λ h' tk k=>?_⟩;have hsz:its.toArray.size=bs.length:=by rw [QQ,<-rv.length,Rk]
 rw [hsz,za];exact ⟨.bl _,H,I.kept λ b o e=>k b o (by
  simp only [QE,QR,Ss];exact Ro (Q8 e)) (QX _ e),rfl,q⟩
end
section
variable {X:Cx}
instance FB (i j:Int):Prop:=i.natAbs<2^512/\j.natAbs<2^512
def Eh:gy X (binaryOp .Mult) (rI FB λ i j=>.int (i*j)):=LY λ _ _ _ _ _ _ _ hc q=>mul_int q (IntMulOk.of_le (PySem.intBits_le_iff.mpr hc.1) (PySem.intBits_le_iff.mpr hc.2) (by decide))
instance GL:R2:=λ x y H Q=>∃ z n,x=.str z/\y=.int n/\0<=n/\n<=1000/\z.length<=1000/\Q (.str (Txt.mul z n)) H
def Ny:gy X (binaryOp .Mult) GL:=by
 intro pins s σ H x y v u Q I rx ry h;obtain ⟨z,n,rfl,rfl,h0,h1,hz,q⟩:=h;obtain ⟨t,rfl⟩:=rx;obtain ⟨t',rfl⟩:=ry;have hm:z.length*n.toNat<=1000*1000:=Nat.mul_le_mul hz (by omega);refine SB.mul ⟨?_,λ a b=>?_,λ a b=>?_⟩ (λ t2 k=>⟨.str _,H,I.tok k,⟨t2,rfl⟩,q⟩)
 . have e1:decide (n < -(2^63:Int))=false:=QJ (by omega);have e2:decide (n ≥ 2^63)=false:=QJ (by omega);rw [e1,e2];rfl
 . have hn:1<=n:=by omega
   have:(1000:Int)<=(2^63-1) / n:=by
    rw [Int.le_ediv_iff_mul_le (by omega)];omega
   omega
 . unfold PySem.Builtin.Str.tooLong;exact QJ (by have:sizeLine=16777216:=sizeLine_eq;omega)
def zX:cV X (.builtin "isinstance") (λ xs H Q=>∃ (a:Addr) (ys:List V) (T:String) (k:Bool),xs=[.ref a,.ty T]/\fg X.K H a ys/\PySem.W.kitOne X.K (.type "tuple") (.type T)=some k/\Q (.bl k) H):=by
 intro pins s σ H xs us Q I r h;obtain ⟨a,ys,T,k,rfl,ha,hk,q⟩:=h;cases r with
 | cons r rr=>
  cases rr with
  | cons r' rr=>
   cases rr;cases r;cases r';obtain ⟨its,_,⟨o,e,c,_⟩,_⟩:=I.tuple ha;exact PySem.W.kia_one (PySem.W.kitx_tuple) I.kIn ⟨o,e,c⟩ hk (by intro z;cases z) λ tk=>⟨.bl k,H,I.tok tk,rfl,q⟩
def zt:cV X (.builtin "isinstance") (λ xs H Q=>∃ (a:Addr) (ys:List V) (T:String) (k:Bool),xs=[.ref a,.ty T]/\cR X.K H a ys/\PySem.W.kitOne X.K (.type "list") (.type T)=some k/\Q (.bl k) H):=by
 intro pins s σ H xs us Q I r h;obtain ⟨a,ys,T,k,rfl,ha,hk,q⟩:=h;cases r with
 | cons r rr=>
  cases rr with
  | cons r' rr=>
   cases rr;cases r;cases r';obtain ⟨its,_,⟨o,n,e,c,_⟩,_⟩:=I.list ha;exact PySem.W.kia_one (PySem.W.kitx_list) I.kIn ⟨o,e,c⟩ hk (by intro z;cases z) λ tk=>⟨.bl k,H,I.tok tk,rfl,q⟩
end
section
variable {X:Cx} {K:Frag}
def N0 (h:X.K=K):Cu X (N1 K):=h▸Iy
def CU (h:X.K=K):ET X (Lu K):=h▸Fd
def Dv (h:X.K=K):ET X (ME K):=h▸Ic
def Hw (h:X.K=K):gy X (compareOp .In) (Ee K false):=h▸qI
def Dl (h:X.K=K):gy X (compareOp .NotIn) (Ee K true):=h▸sW
instance MF (K:Frag):List V->Hp->VK->Prop:=λ xs H Q=>∃ p ys,xs=[.ref p]/\(cR K H p ys∨fg K H p ys)/\Q (.int ys.length) H
def qf (h:X.K=K):cV X (.builtin "len") (MF K):=h▸sf
instance FC:List V->Hp->VK->Prop:=λ xs H Q=>∃ z,xs=[.str z]/\z.length<=sizeLine/\Q (.int z.length) H
def qa:cV X (.builtin "len") FC:=sk
instance G8 (K:Frag):List V->Hp->VK->Prop:=λ xs H Q=>∃ (a:Addr) (ys:List V) (T:String) (k:Bool),xs=[.ref a,.ty T]/\fg K H a ys/\PySem.W.kitOne K (.type "tuple") (.type T)=some k/\Q (.bl k) H
def xm (h:X.K=K):cV X (.builtin "isinstance") (G8 K):=h▸zX
instance Go (K:Frag):List V->Hp->VK->Prop:=λ xs H Q=>∃ (a:Addr) (ys:List V) (T:String) (k:Bool),xs=[.ref a,.ty T]/\cR K H a ys/\PySem.W.kitOne K (.type "list") (.type T)=some k/\Q (.bl k) H
def ww (h:X.K=K):cV X (.builtin "isinstance") (Go K):=h▸zt
instance D4:List V->Hp->VK->Prop:=λ xs H Q=>∃ v T k,xs=[v,.ty T]/\CY v T=some k/\Q (.bl k) H
def qX:cV X (.builtin "isinstance") D4:=C0
instance rH (K:Frag):List V->Hp->VK->Prop:=λ xs H Q=>∃ p ys,xs=[.ref p]/\(cR K H p ys∨fg K H p ys)/\∀ l,H l=none->Q (.ref l) (cK H l (.lst ys))
def pW (h:X.K=K):cV X (.type "list") (rH K):=h▸rQ
instance Ij (K:Frag):List V->Hp->VK->Prop:=λ xs H Q=>∃ (a:Addr) (bs:List Bool),xs=[.ref a]/\cR K H a (bs.map V.bl)/\Q (.bl (bs.any id)) H
def zD (h:X.K=K) (hc:X.calm=true):cV X (.builtin "any") (Ij K):=h▸call_any' hc
def NC {pos:Pos} {es:List Expr} {k:Nat} {t:Ax} {n:Nat} (h:X.K=K) (hc:X.calm=true) (hh:Ka X es t)
 (hn:(assignEach es X.env).length=n) (hst:(assignEach es X.env).findIdx? (·.1)=none):PG X (.Tuple es k pos) (HM K n t):=h▸Jk hc hh hn hst
def Kw {elts:List Expr} {x1} {tpos:Pos} {a:Expr} {ta:TA} {p pos:Pos} (h:X.K=K) (hg:Gl X "enumerate") (hm:X.mg "enumerate" = none) (ha:PA X [a] ta) (hs:starEach [a] X.env=[(false,eval a X.env)]):
 PI X (.Tuple elts x1 tpos) (.Call (.Name "enumerate" p) [a] [] pos) (A1 K ta):=h▸Du hg hm ha hs
def Nz {elts:List Expr} {x1} {tpos:Pos} {a b:Expr} {ta:TA} {p pos:Pos} (h:X.K=K) (hg:Gl X "zip") (hm:X.mg "zip" = none) (ha:PA X [a,b] ta) (hs:starEach [a,b] X.env=[(false,eval a X.env),(false,eval b X.env)]) (hs2:starEach [b] X.env=[(false,eval b X.env)]):
 PI X (.Tuple elts x1 tpos) (.Call (.Name "zip" p) [a,b] [] pos) (Jg K ta):=h▸Hx hg hm ha hs hs2
variable {o e:Expr} {es:List Expr} {to:TE} {t:TA} {name:Str} {apos cpos:Pos} {T id:String} {r:V->List V->Hp->VK->Prop}
def Ew (h:X.K=K) (pa:PlainAttrs T) (slot:Slot T name id) (hty:typeOf (.builtin id)=pure (.type "method_descriptor")) (hm:Lx X id r) (ho:PE X o to)
 (hbase:attributeBase o name X.env (eval o X.env)=eval o X.env:=by rfl) (hline:(apos.endLine==cpos.line)=true:=by rfl):PE X (.Call (.Attribute o name apos) [] [] cpos) (F6 K T r to):=h▸HY pa slot hty hm ho hbase hline
def Hn (h:X.K=K) (pa:PlainAttrs T) (slot:Slot T name id) (hty:typeOf (.builtin id)=pure (.type "method_descriptor")) (hm:Lx X id r) (ho:PE X o to) (ha:PA X (e::es) t)
 (hbase:attributeBase o name X.env (eval o X.env)=eval o X.env:=by rfl)
 (hfew:((backTo cpos (starEach (e::es) X.env)).all (λ x=>!x.1)&&(backToKw cpos (keywordEach [] X.env)).all (λ x=>x.1.isSome)
  && decide ((e::es).length+([]:List Keyword).length+(if ([]:List Keyword).isEmpty then 0 else 1)<30))=true:=by rfl)
 (hline:(apos.endLine==cpos.line)=true:=by rfl) (hs:starEach (e::es) X.env=(false,eval e X.env)::starEach es X.env:=by rfl) (hplain:(backTo cpos (starEach es X.env)).any (·.1)=false:=by rfl):
 PE X (.Call (.Attribute o name apos) (e::es) [] cpos) (Kf K T r to t):=h▸ML pa slot hty hm ho ha hbase hfew hline hs hplain
end
def lI {H:Hp} {p:Addr} (h:H p=none) (o:HO):b0 H (cK H p o):=λ b u q=>by rw [aL (bt q h)];exact q
def b0.tup {K:Frag} {H H':Hp} {a:Addr} {xs:List V} (g:b0 H H') (q:fg K H a xs):fg K H' a xs:=by
 rcases q with (h | ⟨o,h⟩) | h
 . exact .inl (.inl (g _ _ h))
 . exact .inl (.inr ⟨o,g _ _ h⟩)
 . exact .inr h
def mi {z:Str}:fR z↔∀ c∈z.cps.toList,c<128:=by
 unfold fR;rw [Array.all_eq_true'];constructor
 . intro h c hc;simpa using h c (by simpa using hc)
 . intro h c hc;simpa using h c (by simpa using hc)
def fR.app {a b:Str} (h:fR a) (h':fR b):fR (a++b):=by
 rw [mi] at *;intro c hc;have e:(a++b).cps=a.cps++b.cps:=rfl;rw [e,Array.toList_append,QK] at hc;exact hc.elim (h c) (h' c)
def sL (a b:Str):(a++b).length=a.length+b.length:=by
 show (a.cps++b.cps).size=_;rw [Array.size_append];rfl
def fR.one {z:Str} (h:fR z) {i:Int} {c:Nat} (e:gz z.cps.toList i=some c):fR ⟨#[c]⟩:=by
 rw [mi] at *;obtain ⟨j,_,hj,_⟩:=nZ e;have:=h c (Rz hj);intro d hd;have:d=c:=by simpa using hd
 omega
def fR.slice {z:Str} (h:fR z) (lo hi:Option Int):fR (Txt.slice z lo hi):=by
 rw [mi] at *;intro c hc;unfold Txt.slice at hc;split at hc
 . exact h c hc
 refine h c ?_;simp only [Sr] at hc;obtain ⟨k,_,e⟩:=hc;exact Rz (by simpa using e)
def fR.ok {z:Str} (h:fR z):strOk z=true:=by
 rw [mi] at h;unfold strOk;rw [Array.all_eq_true'];intro c hc;have:=h c (by simpa using hc);simp only [Ri];omega
instance Nw (H H':Hp) (p:Addr) (o:HO):Prop:=b0 H H'/\H p=none/\H' p=some o
def Nw.of {H:Hp} {p:Addr} {o:HO} (h:H p=none):Nw H (cK H p o) p o:=⟨lI h o,h,aP⟩
instance Bq (t:TA):TE:=λ σ H Q=>t σ H λ xs H1=>xs.length<=sizeLine/\∀ p H',Nw H1 H' p (.tup xs)->Q (.ref p) H'
instance C5 (t:TA):TE:=λ σ H Q=>t σ H λ xs H1=>xs.length<=sizeLine/\∀ p H',Nw H1 H' p (.lst xs)->Q (.ref p) H'
section
variable {X:Cx} {K:Frag} {es:List Expr} {t:TA} {pos:Pos}
def Nq {x1} (h:PA X es t):PE X (.Tuple es x1 pos) (Bq t):=λ pins s σ H Q I hq=>wpAny_Tuple_spliced (cJ (h pos pins s σ H _ I hq) λ us s1 ⟨xs,H1,I1,r,z,q⟩=>⟨by rw [<-r.length];exact z,
 .ref s1.heap.objs.size,_,I1.laid (t':=s1.toks) (o:=.tup xs) (λ b u e=>QX _ e) (QH _) ⟨z,us,r,⟨_,Rg _ rfl,rfl,_,rfl⟩⟩,rfl,q _ _ (.of (I1.hok.fresh (QH _)))⟩)
def Nm (h:PA X es t):PE X (.List es pos) (C5 t):=λ pins s σ H Q I hq=>wpAny_List_spliced (cJ (h pos pins s σ H _ I hq) λ us s1 ⟨xs,H1,I1,r,z,q⟩=>⟨by rw [<-r.length];exact z,
 .ref s1.heap.objs.size,_,I1.laid (t':=s1.toks) (o:=.lst xs) (λ b u e=>QX _ e) (QH _) ⟨z,us,0,r,Rg _ rfl⟩,rfl,q _ _ (.of (I1.hok.fresh (QH _)))⟩)
instance Gv (K:Frag):V->Option Int->Option Int->Hp->VK->Prop:=λ x lo hi H Q=>∃ a xs,x=.ref a/\cR K H a xs/\∀ p H',Nw H H' p (.lst (qk xs lo hi))->Q (.ref p) H'
def Lg (h:X.K=K):ET X (Gv K):=λ pins s σ H x v vl vu lo hi sl Q I rx hs pl pu hy0=>by obtain ⟨a,xs,e,q,r⟩:=hy0;exact CU h pins s σ H x v vl vu lo hi sl Q I rx hs pl pu ⟨a,xs,e,q,λ p hp=>r p _ (.of hp)⟩
instance G7 (K:Frag):V->Option Int->Option Int->Hp->VK->Prop:=λ x lo hi H Q=>∃ a xs,x=.ref a/\fg K H a xs/\
 ((HT.sIx xs.length 0 lo=0/\HT.sIx xs.length xs.length hi=xs.length/\Q (.ref a) H)∨(¬ (HT.sIx xs.length 0 lo=0/\HT.sIx xs.length xs.length hi=xs.length)/\∀ p H',Nw H H' p (.tup (qk xs lo hi))->Q (.ref p) H'))
def zu {prog:Program} {w:World} {A:Around} {E:Γ} {s:Shared} {a sl:Addr} {its:Array Value} {vl vu:Value} {lo hi:Option Int} {Q:Γ} (ht:IsTup s.heap a its) (hs:s.heap.IsSliceOf sl vl vu .none) (pl:IsPart vl lo) (pu:IsPart vu hi)
 (h1:HT.sIx its.size 0 lo=0) (h2:HT.sIx its.size its.size hi=its.size) (h:Q (.ref a) s):wpAny (model prog w) A (getItem (.ref a) (.ref sl)) Q E s:=by
 obtain ⟨os,hos,hcs,hds⟩:=id hs;unfold getItem;try with_reducible refine RH ?_
 first | refine QA (QN ?_) | skip
 refine QA (wpAny_sequenceKey ht.typeIs (by decide) (QA (Sj (name:=Str.ofString "__getitem__") ht.typeIs Sb (wpAny_call_entry Sb ht.typeIs entry_tuple_getitem ?_ (args_tuple_getitem _ _)))));show wpAny _ _ (Builtin.Tuple.tupleItemsOf (.ref a) >>= _) _ _ s;refine QA (PyProof.Rows.tupleItemsOf_ ht (QA (wpAny_typeOf (show s.TypeIs (.ref sl) "slice" from ⟨os,hos,hcs⟩) ?_)));rw [QF (by decide)];refine QA (HT.sliceApplied_gen hs pl pu ?_);have yes:(((HT.sIx its.size 0 lo:Nat):Int)==0&&(1:Int)==1&&(HT.sIx its.size its.size hi-HT.sIx its.size 0 lo)==its.size)=true:=by
  rw [h1,h2];simp
 show wpAny _ _ (if (((HT.sIx its.size 0 lo:Nat):Int)==0&&(1:Int)==1&&(HT.sIx its.size its.size hi-HT.sIx its.size 0 lo)==its.size)=true then _ else _) _ _ s;rw [QF yes];refine QA ?_;unfold Builtin.Tuple.tupleIsExact;refine QA (wpAny_typeOf ht.typeIs (QN ?_));rw [QF (by decide)];exact QA (SH (QN ⟨_,rfl,QN h⟩))
def Nh (h:X.K=K):ET X (G7 K):=by
 intro pins s σ H x v vl vu lo hi sl Q I rx hs pl pu q;obtain ⟨a,xs,e,hx,q | q⟩:=q
 . subst h e;cases rx;obtain ⟨its,r,ht,hz⟩:=I.tuple hx;have hlen:its.toArray.size=xs.length:=by rw [QQ];exact r.length.symm
   exact ⟨"tuple", _,Sb.lookup,ht.typeIs,zu ht hs pl pu (by rw [hlen];exact q.1) (by rw [hlen];exact q.2.1) ⟨.ref a,H,I,rfl,q.2.2⟩⟩
 . exact Dv h pins s σ H x v vl vu lo hi sl Q I rx hs pl pu ⟨a,xs,e,hx,q.1,λ p hp=>q.2 p _ (.of hp)⟩
end
section
variable {X:Cx} {K:Frag}
def NB {o i e:Expr} {to ti te:TE} {pos tpos:Pos} (he:PE X e te) (ho:PE X o to) (hi:PE X i ti)
 (ha:∀ v,assign (.Subscript o i tpos) X.env v=(do
  let ov <-holding [v] (eval o X.env);let iv <-holding [v,ov] (eval i X.env)
  standAt tpos
  holding [v,ov,iv] (setItem ov iv v)
  release [v,ov,iv] [])) (hs:swapsWithSole [.Subscript o i tpos] e pos.line X.env=pure false) (hw:swappedStores [.Subscript o i tpos] e X.env=pure none):PS X (.Assign [.Subscript o i tpos] e pos) (pU te (DU to ti xX)):=Hu he (Ho ho hi Bi ha) hs hw
end
instance Df (c:Nat):Bool:=decide (97<=c)&&decide (c<=122)
instance xW:Value->Option Str
 | .str x _=>some x
 | _=>none
instance Dx (us:Φ) (ws:Ω):Bool:=decide (us.map xW=ws.map some)
def zj {u:Value} {y:Str} (h:xW u=some y):br (.str y) u:=by
 unfold xW at h;split at h
 . cases h;exact ⟨_,rfl⟩
 . cases h
def lR:∀ {us:Φ} {ws:Ω},us.map xW=ws.map some->bn (ws.map V.str) us
 | [],[],_=>.nil
 | u::r,y::s,h=>by
  simp only [QT,List.cons.injEq] at h;exact .cons (zj h.1) (lR h.2)
 | [],_::_,h=>by simp at h
 | _::_,[],h=>by simp at h
instance wy (o:Obj) (ws:Ω):Bool:=match o.data with
 | .seq its _=>Dx its.toList ws&&decide (its.size<=1000)
 | _=>false
def zS {K:Frag} {H:Hp} {a:Addr} {o:Obj} {ws:Ω} (h:K.lookup a=some o) (hc:o.cls=.type "tuple") (ht:wy o ws=true):fg K H a (ws.map V.str):=by
 unfold wy at ht;split at ht
 . rename_i its n e;rw [Rb] at ht;exact .inr ⟨o,its,n,h,hc,e,Sh (zd (by simpa using ht.2)),lR (Rn ht.1)⟩
 . cases ht
section
variable {K:Frag} {x D:Addr} {prog:Program} {w:World} {A:Around} {E:Γ} {s:Shared}
end
section
variable {X:Cx} {K:Frag}
end
section
variable {P:Program} {w:World} {A:Around} {E:Γ} {s:Shared}
end
section
variable {X:Cx} {K:Frag}
end
section
variable {K:Frag} {a b:Addr} {xs ys:List V} {wi:TI} {g:TG} {σ:St} {H H1:Hp} {ix:Λ} {tc:TT} {te:TE} {Q:VK}
end
section
variable {K:Frag} {a:Addr} {xs:List V} {wi:TI} {g:TG} {σ:St} {H H1:Hp} {ix:Λ} {tc:TT} {te:TE} {Q:VK}
end
inductive W where
 | none | bool (b:Bool) | int (i:Int) | str (x:Str) | list (ds:List W) | tuple (ds:List W) | ref (n:Nat)
abbrev χ:=Nat->Option (List W)
abbrev ν:=List (List aB×W)
mutual
inductive Dw (K:Frag) (ρ:Ξ) (H:Hp):V->W->Prop
 | non:Dw K ρ H .non .none
 | bl (b:Bool):Dw K ρ H (.bl b) (.bool b)
 | int (i:Int):Dw K ρ H (.int i) (.int i)
 | str (x:Str):Dw K ρ H (.str x) (.str x)
 | lst {a:Addr} {xs:List V} {ds:List W}:cR K H a xs->aE K ρ H xs ds->Dw K ρ H (.ref a) (.list ds)
 | tup {a:Addr} {xs:List V} {ds:List W}:H a=some (.tup xs)->aE K ρ H xs ds->Dw K ρ H (.ref a) (.tuple ds)
 | ref {a:Addr} {n:Nat}:ρ[n]?=some a->Dw K ρ H (.ref a) (.ref n)
inductive aE (K:Frag) (ρ:Ξ) (H:Hp):List V->List W->Prop
 | nil:aE K ρ H [] []
 | cons {v:V} {vs:List V} {d:W} {ds:List W}:Dw K ρ H v d->aE K ρ H vs ds->aE K ρ H (v::vs) (d::ds)
end
def Dw.mapG {K:Frag} {ρ ρ':Ξ} {H H':Hp} (hs:∀ a xs,cR K H a xs->cR K H' a xs) (ht:∀ a xs,H a=some (.tup xs)->H' a=some (.tup xs)) (hr:∀ (n:Nat) (a:Addr),ρ[n]?=some a->ρ'[n]?=some a) {v:V} {d:W} (h:Dw K ρ H v d):Dw K ρ' H' v d:=
 Dw.rec (motive_1:=λ v d _=>Dw K ρ' H' v d) (motive_2:=λ vs ds _=>aE K ρ' H' vs ds) .non .bl .int .str (λ q _ ih=>.lst (hs _ _ q) ih) (λ q _ ih=>.tup (ht _ _ q) ih) (λ e=>.ref (hr _ _ e)) .nil (λ _ _ a b=>.cons a b) h
def aE.ind {K:Frag} {ρ:Ξ} {H:Hp} {M:List V->List W->Prop} (h0:M [] []) (h1:∀ v vs d ds,Dw K ρ H v d->M vs ds->M (v::vs) (d::ds)) {vs:List V} {ds:List W} (h:aE K ρ H vs ds):M vs ds:=
 aE.rec (motive_1:=λ _ _ _=>True) (motive_2:=λ vs ds _=>M vs ds) trivial (λ _=>trivial) (λ _=>trivial) (λ _=>trivial) (λ _ _ _=>trivial) (λ _ _ _=>trivial) (λ _=>trivial) h0 (λ a _ _ ih=>h1 _ _ _ _ a ih) h
def Dw.same {K:Frag} {ρ:Ξ} {H H':Hp} (g:b0 H H') {v:V} {d:W} (h:Dw K ρ H v d):Dw K ρ H' v d:=h.mapG (λ _ _ q=>g.seq q) (λ _ _ q=>g _ _ q) λ _ _ e=>e
def aE.mapA {K:Frag} {ρ ρ':Ξ} {H H':Hp} (f:∀ v d,Dw K ρ H v d->Dw K ρ' H' v d) {vs:List V} {ds:List W} (h:aE K ρ H vs ds):aE K ρ' H' vs ds:=h.ind (M:=λ vs ds=>aE K ρ' H' vs ds) .nil λ _ _ _ _ a b=>.cons (f _ _ a) b
def aE.same {K:Frag} {ρ:Ξ} {H H':Hp} (g:b0 H H') {vs:List V} {ds:List W} (h:aE K ρ H vs ds):aE K ρ H' vs ds:=h.mapA λ _ _ a=>a.same g
mutual
noncomputable def W.py:W->Option PyData
 | .none=>some .none
 | .bool b=>some (.bool b)
 | .int i=>some (.int i)
 | .str x=>some (.str x)
 | .list ds=>(W.pys ds).map .list
 | .tuple ds=>(W.pys ds).map .tuple
 | .ref _=>Option.none
noncomputable def W.pys:List W->Option (List PyData)
 | []=>some []
 | d::ds=>(W.py d).bind λ x=>(W.pys ds).map (x::·)
end
def Dw.dp {K:Frag} {ρ:Ξ} {H:Hp} {v:V} {d:W} {x:PyData} (h:Dw K ρ H v d):d.py=some x->Dp K H v x:=
 Dw.rec (motive_1:=λ v d _=>∀ x,d.py=some x->Dp K H v x) (motive_2:=λ vs ds _=>∀ xs,W.pys ds=some xs->iM K H vs xs)
  (λ x e=>by cases e;exact .non) (λ b x e=>by cases e;exact .bl b) (λ i x e=>by cases e;exact .int i) (λ y x e=>by cases e;exact .str y)
  (λ q _ ih x e=>by
   obtain ⟨xs,e1,rfl⟩:=oM e
   exact .lst q (ih _ e1))
  (λ q _ ih x e=>by
   obtain ⟨xs,e1,rfl⟩:=oM e
   exact .tup (fg.of q) (ih _ e1))
  (λ _ x e=>by cases e) (λ xs e=>by cases e;exact .nil)
  (λ _ _ ih1 ih2 xs e=>by
   obtain ⟨x,e1,e⟩:=oB e
   obtain ⟨ys,e2,rfl⟩:=oM e
   exact .cons (ih1 _ e1) (ih2 _ e2)) h x
def aE.dp {K:Frag} {ρ:Ξ} {H:Hp} {vs:List V} {ds:List W} {xs:List PyData} (h:aE K ρ H vs ds):W.pys ds=some xs->iM K H vs xs:=
 h.ind (M:=λ vs ds=>∀ xs,W.pys ds=some xs->iM K H vs xs) (λ xs e=>by cases e;exact .nil) (λ _ _ _ _ a ih xs e=>by
  obtain ⟨x,e1,e⟩:=oB e
  obtain ⟨ys,e2,rfl⟩:=oM e
  exact .cons (a.dp e1) (ih _ e2)) xs
inductive Sl where
 | no
 | val (d:W)
 | own (ds:List W)
noncomputable abbrev DS:=List Sl
abbrev μ:=DS->Option W
abbrev θ:=DS->Option (List W)
abbrev η:=W->DS->Option DS
instance wm (K:Frag) (ρ:Ξ) (G H:Hp):Sl->Option V->Prop
 | .no,_=>True
 | .val d,o=>∃ v,o=some v/\Dw K ρ G v d
 | .own ds,o=>∃ p vs,o=some (.ref p)/\G p=none/\H p=some (.lst vs)/\aE K ρ G vs ds
instance nT (H:Hp) (b:Addr):Prop:=H b≠none/\∀ xs,H b≠some (.tup xs)
def nT.of {H:Hp} {b:Addr} {o:HO} (h:H b=some o) (n:∀ xs,o≠.tup xs):nT H b:=⟨by rw [h];exact nofun,λ xs z=>n xs (by rw [h] at z;cases z;rfl)⟩
def nT.l {H:Hp} {b:Addr} {vs:List V} (h:H b=some (.lst vs)):nT H b:=.of h λ _ z=>by cases z
def nT.same {H H':Hp} {b:Addr} (x:nT H b) (s:b0 H H'):nT H' b:=by
 cases q:H b with
 | none=>exact absurd q x.1
 | some o=>exact .of (s b o q) λ xs z=>x.2 xs (by rw [q,z])
structure Gr (G H G' H':Hp):Prop where
 g:b0 G G'
 h:b0 H H'
 s:b0 G' H'
 n:∀ b,nT H b->G b=none->G' b=none
def rh {H H':Hp} (s:b0 H H') {b:Addr} (h:H b≠none):H' b≠none:=λ e=>by
 cases q:H b with
 | none=>exact h q
 | some o=>
  have:=s b o q;rw [e] at this;cases this
def cZ {G H:Hp} (s:b0 G H) {b:Addr} (h:H b=none):G b=none:=by
 cases q:G b with
 | none=>rfl
 | some o=>
  have:=s b o q;rw [h] at this;cases this
def Gr.refl {G H:Hp} (s:b0 G H):Gr G H G H:=⟨.refl _,.refl _,s,λ _ _ h=>h⟩
def Gr.trans {G H G1 H1 G2 H2:Hp} (a:Gr G H G1 H1) (b:Gr G1 H1 G2 H2):Gr G H G2 H2:=
 ⟨a.g.trans b.g,a.h.trans b.h,b.s,λ c h1 h2=>b.n c (h1.same a.h) (a.n c h1 h2)⟩
def qE {G H':Hp} {p:Addr} {o:HO} (s:b0 G H') (h:H' p=some o):b0 (cK G p o) H':=λ b u e=>by
 by_cases hb:b=p
 . subst hb;rw [aP] at e;cases e;exact h
 . rw [aL hb] at e;exact s _ _ e
def Gr.new {G H G' H':Hp} {p:Addr} {o:HO} (a:Gr G H G' H') (h0:H p=none) (g0:G' p=none) (h:H' p=some o):Gr G H (cK G' p o) H':=
 ⟨a.g.trans (lI g0 o),a.h,qE a.s h,λ b h1 h2=>by
  rw [aL (λ e=>h1.1 (by rw [e];exact h0))];exact a.n b h1 h2⟩
def Gr.nw {G H H':Hp} {p:Addr} {o:HO} (s:b0 G H) (n:Nw H H' p o):Gr G H (cK G p o) H':=
 Gr.new ⟨.refl _,n.1,s.trans n.1,λ _ _ h=>h⟩ n.2.1 (cZ s n.2.1) n.2.2
def Gr.nwO {G H H':Hp} {p:Addr} {o:HO} (s:b0 G H) (n:Nw H H' p o):Gr G H G H':=⟨.refl _,n.1,s.trans n.1,λ _ _ h=>h⟩
structure Rl (K:Frag) (ρ:Ξ) (G H:Hp) (δ:DS) (σ:St):Prop where
 sub:b0 G H
 len:δ.length=σ.length
 sl:∀ (i:Nat) s,δ[i]?=some s->∃ o,σ[i]?=some o/\wm K ρ G H s o
 apart:∀ (i j:Nat) p ds es,δ[i]?=some (.own ds)->δ[j]?=some (.own es)->σ[i]?=some (some (.ref p))->σ[j]?=some (some (.ref p))->i=j
def wm.grow {K:Frag} {ρ:Ξ} {G H G' H':Hp} (g:Gr G H G' H') {s:Sl} {o:Option V} (h:wm K ρ G H s o):wm K ρ G' H' s o:=by
 cases s with
 | no=>exact trivial
 | val d=>
  obtain ⟨v,e,h⟩:=h;exact ⟨v,e,h.same g.g⟩
 | own ds=>
  obtain ⟨p,vs,e,h1,h2,h3⟩:=h;exact ⟨p,vs,e,g.n p (.l h2) h1,g.h _ _ h2,h3.same g.g⟩
def Rl.grow {K:Frag} {ρ:Ξ} {G H G' H':Hp} {δ:DS} {σ:St} (R:Rl K ρ G H δ σ) (g:Gr G H G' H'):Rl K ρ G' H' δ σ:=
 ⟨g.s,R.len,λ i s e=>by
  obtain ⟨o,h1,h2⟩:=R.sl i s e;exact ⟨o,h1,h2.grow g⟩,R.apart⟩
def eP {α:Type} {xs:List α} {i j:Nat} {a b:α} (h:(xs.set i a)[j]?=some b):(i=j/\a=b/\j<xs.length)∨(i≠j/\xs[j]?=some b):=by
 by_cases e:i=j
 . subst e;rw [List.getElem?_set] at h;simp only [RW] at h;split at h
   . rename_i hl;cases h;exact .inl ⟨rfl,rfl,hl⟩
   . cases h
 . rw [QW e] at h;exact .inr ⟨e,h⟩
def kD {α:Type} {xs:List α} {i:Nat} {a:α} (h:i<xs.length):(xs.set i a)[i]?=some a:=by
 rw [List.getElem?_set];simp [h]
instance fW (δ':DS) (σ':St) (δ:DS) (σ:St):Prop:=∀ (i:Nat) ds p,δ'[i]?=some (.own ds)->σ'[i]?=some (some (.ref p))->∃ es,δ[i]?=some (.own es)/\σ[i]?=some (some (.ref p))
def fW.refl (δ:DS) (σ:St):fW δ σ δ σ:=λ i ds p h1 h2=>⟨ds,h1,h2⟩
def fW.trans {δ δ1 δ2:DS} {σ σ1 σ2:St} (a:fW δ2 σ2 δ1 σ1) (b:fW δ1 σ1 δ σ):fW δ2 σ2 δ σ:=λ i ds p h1 h2=>by
 obtain ⟨es,h3,h4⟩:=a i ds p h1 h2;exact b i es p h3 h4
def kI {δ:DS} {σ:St} {i:Nat} {d:W} {v:V} (h:δ.length=σ.length):fW (δ.set i (.val d)) (σ.set i (some v)) δ σ:=λ j ds p h1 h2=>by
 rcases eP h1 with ⟨_,e,_⟩ | ⟨ne,h1⟩
 . cases e
 . rw [QW ne] at h2;exact ⟨ds,h1,h2⟩
def Rl.set {K:Frag} {ρ:Ξ} {G H:Hp} {δ:DS} {σ:St} {i:Nat} {d:W} {v:V} (R:Rl K ρ G H δ σ) (h:Dw K ρ G v d):Rl K ρ G H (δ.set i (.val d)) (σ.set i (some v)):=
 ⟨R.sub,by rw [Sa,Sa];exact R.len,λ j s e=>by
  rcases eP e with ⟨rfl,rfl,hl⟩ | ⟨ne,e⟩
  . exact ⟨_,kD (by rw [<-R.len];exact hl),v,rfl,h⟩
  . rw [QW ne];exact R.sl j s e,λ j k p ds es h1 h2 h3 h4=>by
  obtain ⟨ds',a1,a2⟩:=kI (v:=v) R.len j ds p h1 h3;obtain ⟨es',b1,b2⟩:=kI (v:=v) R.len k es p h2 h4;exact R.apart j k p _ _ a1 b1 a2 b2⟩
def Rl.setO {K:Frag} {ρ:Ξ} {G H:Hp} {δ:DS} {σ:St} {i:Nat} {ds:List W} {p:Addr} {vs:List V} (R:Rl K ρ G H δ σ) (g0:G p=none) (h:H p=some (.lst vs)) (hd:aE K ρ G vs ds)
 (hn:∀ (j:Nat) es,j≠i->δ[j]?=some (.own es)->σ[j]?≠some (some (.ref p))):Rl K ρ G H (δ.set i (.own ds)) (σ.set i (some (.ref p))):=
 ⟨R.sub,by rw [Sa,Sa];exact R.len,λ j s e=>by
  rcases eP e with ⟨rfl,rfl,hl⟩ | ⟨ne,e⟩
  . exact ⟨_,kD (by rw [<-R.len];exact hl),p,vs,rfl,g0,h,hd⟩
  . rw [QW ne];exact R.sl j s e,λ j k q ds' es' h1 h2 h3 h4=>by
  rcases eP h1 with ⟨rfl,_,hl⟩ | ⟨ne,h1⟩ <;> rcases eP h2 with ⟨rfl,_,hl2⟩ | ⟨ne2,h2⟩
  . rfl
  . rw [kD (by rw [<-R.len];exact hl)] at h3;rw [QW ne2] at h4;cases h3;exact absurd h4 (hn k es' (RM ne2) h2)
  . rw [kD (by rw [<-R.len];exact hl2)] at h4;rw [QW ne] at h3;cases h4;exact absurd h3 (hn j ds' (RM ne) h1)
  . rw [QW ne] at h3;rw [QW ne2] at h4;exact R.apart j k q _ _ h1 h2 h3 h4⟩
instance DE (K:Frag) (ρ:Ξ) (t:TE) (f:μ):Prop:=
 ∀ (G:Hp) (σ:St) (H:Hp) (δ:DS) (d:W) (Q:VK),Rl K ρ G H δ σ->f δ=some d->(∀ v G' H',Gr G H G' H'->Dw K ρ G' v d->Q v H')->t σ H Q
instance DA (K:Frag) (ρ:Ξ) (t:TA) (f:θ):Prop:=
 ∀ (G:Hp) (σ:St) (H:Hp) (δ:DS) (ds:List W) (Q:List V->Hp->Prop),Rl K ρ G H δ σ->f δ=some ds->(∀ vs G' H',Gr G H G' H'->aE K ρ G' vs ds->Q vs H')->t σ H Q
instance DT (K:Frag) (ρ:Ξ) (t:TT) (f:DS->Option Bool):Prop:=
 ∀ (G:Hp) (σ:St) (H:Hp) (δ:DS) (b:Bool) (Q:Bool->Hp->Prop),Rl K ρ G H δ σ->f δ=some b->(∀ G' H',Gr G H G' H'->Q b H')->t σ H Q
instance DO (K:Frag) (ρ:Ξ) (t:TE) (f:θ):Prop:=
 ∀ (G:Hp) (σ:St) (H:Hp) (δ:DS) (ds:List W) (Q:VK),Rl K ρ G H δ σ->f δ=some ds->(∀ p vs G' H',Gr G H G' H'->H p=none->G' p=none->H' p=some (.lst vs)->aE K ρ G' vs ds->Q (.ref p) H')->t σ H Q
instance Pk (K:Frag) (ρ:Ξ) (G H:Hp) (v:V) (d:W):Prop:=Dw K ρ G v d∨∃ p vs ds,v=.ref p/\d=.list ds/\H p=some (.lst vs)/\aE K ρ G vs ds
instance DK (K:Frag) (ρ:Ξ) (t:TE) (f:μ):Prop:=
 ∀ (G:Hp) (σ:St) (H:Hp) (δ:DS) (d:W) (Q:VK),Rl K ρ G H δ σ->f δ=some d->(∀ v G' H',Gr G H G' H'->Pk K ρ G' H' v d->Q v H')->t σ H Q
section
variable {K:Frag} {ρ:Ξ}
def Pk.dp {G H:Hp} {v:V} {d:W} (s:b0 G H) (h:Pk K ρ G H v d):Dw K ρ H v d:=by
 rcases h with h | ⟨p,vs,ds,rfl,rfl,h1,h2⟩
 . exact h.same s
 . exact .lst (cR.of h1) (h2.same s)
def Pk.grow {G H G' H':Hp} {v:V} {d:W} (g:Gr G H G' H') (h:Pk K ρ G H v d):Pk K ρ G' H' v d:=by
 rcases h with h | ⟨p,vs,ds,rfl,rfl,h1,h2⟩
 . exact .inl (h.same g.g)
 . exact .inr ⟨p,vs,ds,rfl,rfl,g.h _ _ h1,h2.same g.g⟩
def DE.dk {t:TE} {f:μ} (h:DE K ρ t f):DK K ρ t f:=λ G σ H δ d Q R e q=>h G σ H δ d Q R e λ v G' H' g dv=>q v G' H' g (.inl dv)
instance bc (f:θ):DS->Option W:=λ δ=>(f δ).map .list
def DO.de {t:TE} {f:θ} (h:DO K ρ t f):DE K ρ t (bc f):=λ G σ H δ d Q R e q=>by
 obtain ⟨ds,e1,rfl⟩:=oM e
 exact h G σ H δ ds Q R e1 λ p vs G' H' g h0 g0 hh da=>q _ _ H' (g.new h0 g0 hh) (.lst (cR.of aP) (da.same (lI g0 _)))
instance ae (i:Nat):DS->Option W:=λ δ=>match δ[i]? with
 | some (.val d)=>some d
 | _=>none
def pD {i:Nat}:DE K ρ (zh i) (ae i):=λ G σ H δ d Q R e q=>by
 unfold ae at e;split at e
 . rename_i d' h;cases e;obtain ⟨o,h1,v,h2,h3⟩:=R.sl i _ h;exact ⟨v,by rw [h1,h2],q v G H (.refl R.sub) h3⟩
 . cases e
instance aq (i:Nat):DS->Option W:=λ δ=>match δ[i]? with
 | some (.val d)=>some d
 | some (.own ds)=>some (.list ds)
 | _=>none
def wt {i:Nat}:DK K ρ (zh i) (aq i):=λ G σ H δ d Q R e q=>by
 unfold aq at e;split at e
 . rename_i d' h;cases e;obtain ⟨o,h1,v,h2,h3⟩:=R.sl i _ h;exact ⟨v,by rw [h1,h2],q v G H (.refl R.sub) (.inl h3)⟩
 . rename_i ds h;cases e;obtain ⟨o,h1,p,vs,h2,h3,h4,h5⟩:=R.sl i _ h;exact ⟨.ref p,by rw [h1,h2],q _ G H (.refl R.sub) (.inr ⟨p,vs,ds,rfl,rfl,h4,h5⟩)⟩
 . cases e
instance dC (d:W):DS->Option W:=λ _=>some d
def Ei {v:V} {d:W} (h:∀ G,Dw K ρ G v d):DE K ρ (tC v) (dC d):=λ G σ H δ d' Q R e q=>by
 cases e;exact q v G H (.refl R.sub) (h G)
def tq {i:Int}:DE K ρ (tC (.int i)) (dC (.int i)):=Ei λ _=>.int i
def KL {b:Bool}:DE K ρ (tC (.bl b)) (dC (.bool b)):=Ei λ _=>.bl b
def CT {x:Str}:DE K ρ (tC (.str x)) (dC (.str x)):=Ei λ _=>.str x
def Jh:DE K ρ (tC .non) (dC .none):=Ei λ _=>.non
instance DR (K:Frag) (ρ:Ξ) (r:R2) (g:W->W->Option W):Prop:=
 ∀ (G H:Hp) (x y:V) (d e c:W) (Q:VK),b0 G H->Pk K ρ G H x d->Dw K ρ G y e->g d e=some c->(∀ v G' H',Gr G H G' H'->Dw K ρ G' v c->Q v H')->r x y H Q
instance av (g:W->W->Option W) (fa fb:μ):DS->Option W:=λ δ=>(fa δ).bind λ x=>(fb δ).bind λ y=>g x y
def Cf {r:R2} {ta tb:TE} {fa fb:μ} {g:W->W->Option W} (hr:DR K ρ r g) (ha:DK K ρ ta fa) (hb:DE K ρ tb fb):DE K ρ (qH r ta tb) (av g fa fb):=λ G σ H δ d Q R e q=>by
 obtain ⟨x,ex,e⟩:=oB e
 obtain ⟨y,ey,e⟩:=oB e
 exact ha G σ H δ x _ R ex λ v G1 H1 g1 dv=>hb G1 σ H1 δ y _ (R.grow g1) ey λ u G2 H2 g2 du=>hr G2 H2 v u x y d Q g2.s (dv.grow g2) du e λ w G3 H3 g3 dw=>q w G3 H3 (g1.trans (g2.trans g3)) dw
instance DB (K:Frag) (ρ:Ξ) (r:R2) (g:W->W->Option Bool):Prop:=
 ∀ (H:Hp) (x y:V) (d e:W) (b:Bool) (Q:VK),Dw K ρ H x d->Dw K ρ H y e->g d e=some b->Q (.bl b) H->r x y H Q
instance ay (g:W->W->Option Bool) (fa fb:μ):DS->Option Bool:=λ δ=>(fa δ).bind λ x=>(fb δ).bind λ y=>g x y
instance dB (f:DS->Option Bool):DS->Option W:=λ δ=>(f δ).map .bool
def qW {r:R2} {ta tb:TE} {fa fb:μ} {g:W->W->Option Bool} (hr:DB K ρ r g) (ha:DK K ρ ta fa) (hb:DK K ρ tb fb) {G:Hp} {σ:St} {H:Hp} {δ:DS} {b:Bool} {Q:VK} (R:Rl K ρ G H δ σ) (e:ay g fa fb δ=some b) (q:∀ G' H',Gr G H G' H'->Q (.bl b) H'):qH r ta tb σ H Q:=by
 obtain ⟨x,ex,e⟩:=oB e
 obtain ⟨y,ey,e⟩:=oB e
 exact ha G σ H δ x _ R ex λ v G1 H1 g1 dv=>hb G1 σ H1 δ y _ (R.grow g1) ey λ u G2 H2 g2 du=>hr H2 v u x y b Q ((dv.grow g2).dp g2.s) (du.dp g2.s) e (q G2 H2 (g1.trans g2))
def Jo {r:R2} {ta tb:TE} {fa fb:μ} {g:W->W->Option Bool} (hr:DB K ρ r g) (ha:DK K ρ ta fa) (hb:DK K ρ tb fb):DE K ρ (qH r ta tb) (dB (ay g fa fb)):=λ G σ H δ d Q R e q=>by
 obtain ⟨b,e1,rfl⟩:=oM e
 exact qW hr ha hb R e1 λ G' H' g=>q _ G' H' g (.bl b)
def Bh {r:R2} {ta tb:TE} {fa fb:μ} {g:W->W->Option Bool} (hr:DB K ρ r g) (ha:DK K ρ ta fa) (hb:DK K ρ tb fb):DT K ρ (vk (qH r ta tb)) (ay g fa fb):=λ G σ H δ b Q R e q=>
 qW hr ha hb R e λ G' H' g=>⟨b,rfl,q G' H' g⟩
instance Bu:W->Option Bool
 | .bool b=>some b
 | _=>none
instance ve (f:μ):DS->Option Bool:=λ δ=>(f δ).bind Bu
def kF {d:W} {b:Bool} (h:Bu d=some b):d=.bool b:=by
 cases d <;> first | (cases h;rfl) | cases h
def Jb {t:TE} {f:μ} (h:DE K ρ t f):DT K ρ (tB t) (ve f):=λ G σ H δ b Q R e q=>by
 obtain ⟨x,ex,e⟩:=oB e
 cases kF e;exact h G σ H δ _ _ R ex λ v G1 H1 g1 dv=>by
  cases dv;exact ⟨b,rfl,q G1 H1 g1⟩
instance gL (f g:DS->Option Bool):DS->Option Bool:=λ δ=>(f δ).bind λ b=>if b=true then g δ else some false
instance kj (f g:DS->Option Bool):DS->Option Bool:=λ δ=>(f δ).bind λ b=>if b=true then some true else g δ
instance um (f:DS->Option Bool):DS->Option Bool:=λ δ=>(f δ).map (!·)
def CG {t u:TT} {f g:DS->Option Bool} (h1:DT K ρ t f) (h2:DT K ρ u g):DT K ρ (JK t u) (gL f g):=λ G σ H δ b Q R e q=>by
 obtain ⟨x,ex,e⟩:=oB e
 refine h1 G σ H δ x _ R ex λ G1 H1 g1=>?_;cases x with
 | true=>exact h2 G1 σ H1 δ b Q (R.grow g1) e λ G2 H2 g2=>q G2 H2 (g1.trans g2)
 | false=>cases e;exact q G1 H1 g1
def L7 {t u:TT} {f g:DS->Option Bool} (h1:DT K ρ t f) (h2:DT K ρ u g):DT K ρ (OZ t u) (kj f g):=λ G σ H δ b Q R e q=>by
 obtain ⟨x,ex,e⟩:=oB e
 refine h1 G σ H δ x _ R ex λ G1 H1 g1=>?_;cases x with
 | false=>exact h2 G1 σ H1 δ b Q (R.grow g1) e λ G2 H2 g2=>q G2 H2 (g1.trans g2)
 | true=>cases e;exact q G1 H1 g1
def Ji {t:TT} {f:DS->Option Bool} (h:DT K ρ t f):DT K ρ (Je t) (um f):=λ G σ H δ b Q R e q=>by
 obtain ⟨x,ex,rfl⟩:=oM e
 exact h G σ H δ x _ R ex q
instance jR (f g:μ):DS->Option W:=λ δ=>(f δ).bind λ x=>(Bu x).bind λ b=>if b=true then g δ else some (.bool false)
instance Aj (f g:μ):DS->Option W:=λ δ=>(f δ).bind λ x=>(Bu x).bind λ b=>if b=true then some (.bool true) else g δ
def HQ {t u:TE} {f g:μ} (h1:DE K ρ t f) (h2:DE K ρ u g):DE K ρ (CL t u) (jR f g):=λ G σ H δ d Q R e q=>by
 obtain ⟨x,ex,e⟩:=oB e
 obtain ⟨b,eb,e⟩:=oB e
 cases kF eb;refine h1 G σ H δ _ _ R ex λ v G1 H1 g1 dv=>?_;cases dv;refine ⟨b,rfl,?_⟩;cases b with
 | true=>exact h2 G1 σ H1 δ d Q (R.grow g1) e λ v G2 H2 g2 dv=>q v G2 H2 (g1.trans g2) dv
 | false=>cases e;exact q _ G1 H1 g1 (.bl false)
def Lo {t u:TE} {f g:μ} (h1:DE K ρ t f) (h2:DE K ρ u g):DE K ρ (Ls t u) (Aj f g):=λ G σ H δ d Q R e q=>by
 obtain ⟨x,ex,e⟩:=oB e
 obtain ⟨b,eb,e⟩:=oB e
 cases kF eb;refine h1 G σ H δ _ _ R ex λ v G1 H1 g1 dv=>?_;cases dv;refine ⟨b,rfl,?_⟩;cases b with
 | false=>exact h2 G1 σ H1 δ d Q (R.grow g1) e λ v G2 H2 g2 dv=>q v G2 H2 (g1.trans g2) dv
 | true=>cases e;exact q _ G1 H1 g1 (.bl true)
instance vj (f:μ):DS->Option W:=λ δ=>(f δ).bind λ x=>(Bu x).map λ b=>.bool (!b)
def Hq {t:TE} {f:μ} (h:DE K ρ t f):DE K ρ (GR t) (vj f):=λ G σ H δ d Q R e q=>by
 obtain ⟨x,ex,e⟩:=oB e
 obtain ⟨b,eb,rfl⟩:=oM e
 cases kF eb;refine h G σ H δ _ _ R ex λ v G1 H1 g1 dv=>?_;cases dv;exact ⟨b,rfl,q _ G1 H1 g1 (.bl _)⟩
instance Fn (c:DS->Option Bool) (f g:μ):DS->Option W:=λ δ=>(c δ).bind λ b=>if b=true then f δ else g δ
def M5 {tc:TT} {t u:TE} {c:DS->Option Bool} {f g:μ} (hc:DT K ρ tc c) (h1:DE K ρ t f) (h2:DE K ρ u g):DE K ρ (Pv tc t u) (Fn c f g):=λ G σ H δ d Q R e q=>by
 obtain ⟨b,eb,e⟩:=oB e
 refine hc G σ H δ b _ R eb λ G1 H1 g1=>?_;cases b with
 | true=>exact h1 G1 σ H1 δ d Q (R.grow g1) e λ v G2 H2 g2 dv=>q v G2 H2 (g1.trans g2) dv
 | false=>exact h2 G1 σ H1 δ d Q (R.grow g1) e λ v G2 H2 g2 dv=>q v G2 H2 (g1.trans g2) dv
instance ag:DS->Option (List W):=λ _=>some []
instance aa (f:μ) (g:θ):DS->Option (List W):=λ δ=>(f δ).bind λ d=>(g δ).map (d::·)
def sx:DA K ρ jN ag:=λ G σ H δ ds Q R e q=>by
 cases e;exact q [] G H (.refl R.sub) .nil
def sN {t:TE} {u:TA} {f:μ} {g:θ} (h1:DE K ρ t f) (h2:DA K ρ u g):DA K ρ (fc t u) (aa f g):=λ G σ H δ ds Q R e q=>by
 obtain ⟨d,ed,e⟩:=oB e
 obtain ⟨es,ee,rfl⟩:=oM e
 exact h1 G σ H δ d _ R ed λ v G1 H1 g1 dv=>h2 G1 σ H1 δ es _ (R.grow g1) ee λ vs G2 H2 g2 da=>q _ G2 H2 (g1.trans g2) (.cons (dv.same g2.g) da)
def aE.length {G:Hp} {vs:List V} {ds:List W} (h:aE K ρ G vs ds):vs.length=ds.length:=h.ind (M:=λ vs ds=>vs.length=ds.length) rfl λ _ _ _ _ _ e=>Q9 (· + 1) e
def aE.get {G:Hp} {vs:List V} {ds:List W} {i:Nat} {d:W} (h:aE K ρ G vs ds):ds[i]?=some d->∃ v,vs[i]?=some v/\Dw K ρ G v d:=
 h.ind (M:=λ vs ds=>∀ (i:Nat) d,ds[i]?=some d->∃ v,vs[i]?=some v/\Dw K ρ G v d) (λ _ _ e=>by cases e) (λ v _ _ _ a ih i d e=>by
  cases i with
  | zero=>cases e;exact ⟨v,rfl,a⟩
  | succ i=>exact ih i d e) i d
def aE.app {G:Hp} {vs ws:List V} {ds es:List W} (h:aE K ρ G vs ds) (h':aE K ρ G ws es):aE K ρ G (vs++ws) (ds++es):=h.ind (M:=λ vs ds=>aE K ρ G (vs++ws) (ds++es)) h' λ _ _ _ _ a ih=>.cons a ih
def aE.drop {G:Hp} {vs:List V} {ds:List W} (n:Nat) (h:aE K ρ G vs ds):aE K ρ G (vs.drop n) (ds.drop n):=by
 induction n generalizing vs ds with
 | zero=>exact h
 | succ n ih=>
  cases h with
  | nil=>exact .nil
  | cons _ t=>exact ih t
def aE.take {G:Hp} {vs:List V} {ds:List W} (n:Nat) (h:aE K ρ G vs ds):aE K ρ G (vs.take n) (ds.take n):=by
 induction n generalizing vs ds with
 | zero=>exact .nil
 | succ n ih=>
  cases h with
  | nil=>exact .nil
  | cons a t=>exact .cons a (ih t)
def aE.set {G:Hp} {v:V} {d:W} (h:Dw K ρ G v d):∀ {vs:List V} {ds:List W} (n:Nat),aE K ρ G vs ds->aE K ρ G (vs.set n v) (ds.set n d):=λ {vs ds} n q=>by
 induction n generalizing vs ds with
 | zero=>
  cases q with
  | nil=>exact .nil
  | cons _ t=>exact .cons h t
 | succ n ih=>
  cases q with
  | nil=>exact .nil
  | cons a t=>exact .cons a (ih t)
def aE.ints {G:Hp}:∀ (ns:List Int),aE K ρ G (ns.map V.int) (ns.map .int)
 | []=>.nil
 | n::r=>.cons (.int n) (aE.ints r)
instance aK (f:θ):DS->Option W:=λ δ=>(f δ).bind λ ds=>if ds.length<=sizeLine then some (.tuple ds) else none
def Io {t:TA} {f:θ} (h:DA K ρ t f):DE K ρ (Bq t) (aK f):=λ G σ H δ d Q R e q=>by
 obtain ⟨ds,e1,e⟩:=oB e
 split at e
 . rename_i hz;cases e;refine h G σ H δ ds _ R e1 λ vs G1 H1 g1 da=>⟨by rw [da.length];exact hz,λ p H' n=>?_⟩
   have g2:=Gr.nw g1.s n;exact q _ _ H' (g1.trans g2) (.tup aP (da.same g2.g))
 . cases e
instance bu (f:θ):DS->Option (List W):=λ δ=>(f δ).bind λ ds=>if ds.length<=sizeLine then some ds else none
def wp {t:TA} {f:θ} (h:DA K ρ t f):DO K ρ (C5 t) (bu f):=λ G σ H δ ds Q R e q=>by
 obtain ⟨ds',e1,e⟩:=oB e
 split at e
 . rename_i hz;cases e;refine h G σ H δ _ _ R e1 λ vs G1 H1 g1 da=>⟨by rw [da.length];exact hz,λ p H' n=>?_⟩
   exact q p vs G1 H' (g1.trans (.nwO g1.s n)) (by
    cases hp:H p with
    | none=>rfl
    | some o=>exact absurd (g1.h _ _ hp) (by rw [n.2.1];simp)) (cZ g1.s n.2.1) n.2.2 da
 . cases e
end
section
variable {X:Cx} {tg:Expr}
instance zY (K:Frag) (tl:TE):TI:=λ σ H R=>tl σ H λ x H1=>∃ a,x=.ref a/\(((∃ xs,cR K H1 a xs)/\R (Oe K a) H1)∨((∃ xs,fg K H1 a xs)/\R (NM K a) H1))
def Jc {l:Expr} {tl:TE} (hl:PE X l tl):PI X tg l (zY X.K tl):=by
 intro pins s σ H R I h;refine cJ (hl pins s σ H _ I h) λ v s1 hq0=>?_;obtain ⟨x,H1,I1,r1,q1⟩:=hq0;obtain ⟨a,e,⟨⟨xs,hq⟩,q⟩ | ⟨⟨xs,hq⟩,q⟩⟩:=q1;all_goals
  subst e;cases r1
 . obtain ⟨its,rv,p,hz⟩:=I1.list hq;refine wpAny_pyIter_list p.isList ?_;refine ⟨s1.heap.objs.size,[s1.heap.objs.size],_,_,H1,rfl,I1.kept (t':=s1.toks) λ b o e=>QX _ e,z7 a _,⟨_,Rg _ rfl,rfl,rfl⟩,λ b hb=>?_,q⟩;have e:b=s1.heap.objs.size:=by simpa using hb
   subst e;exact I1.fpOk (QH _) (I1.hok.fresh (QH _))
 . obtain ⟨its,rv,p,hz⟩:=I1.tuple hq;refine wpAny_pyIter_tuple (show s1.heap.IsTuple a its.toArray from p) ?_;refine ⟨s1.heap.objs.size,[s1.heap.objs.size],_,_,H1,rfl,I1.kept (t':=s1.toks) λ b o e=>QX _ e,vZ a _,⟨_,Rg _ rfl,rfl,rfl⟩,λ b hb=>?_,q⟩;have e:b=s1.heap.objs.size:=by simpa using hb
   subst e;exact I1.fpOk (QH _) (I1.hok.fresh (QH _))
def MQ {K:Frag} (h:X.K=K) {l:Expr} {tl:TE} (hl:PE X l tl):PI X tg l (zY K tl):=h▸Jc hl
end
section
variable {K:Frag} {ρ:Ξ}
instance Dh (K:Frag) (ρ:Ξ) (J:It) (ds:List W) (i:Nat) (G1 H1:Hp):Prop:=
 (∀ d,ds[i]?=some d->J.go i H1/\∀ x H',J.yld i H1 x H'->∃ G',Gr G1 H1 G' H'/\Dw K ρ G' x d)/\(ds.length<=i->J.stop i H1)
instance P7 (K:Frag) (ρ:Ξ) (J:It) (G H:Hp) (ds:List W):Prop:=∀ i G1 H1,Gr G H G1 H1->Dh K ρ J ds i G1 H1
instance K3 (K:Frag) (ρ:Ξ) (J:It) (G:Hp) (ds:List W):Prop:=∀ i G1 H1,b0 G G1->b0 G1 H1->Dh K ρ J ds i G1 H1
def K3.d {J:It} {G H:Hp} {ds:List W} (h:K3 K ρ J G ds):P7 K ρ J G H ds:=λ i G1 H1 g=>h i G1 H1 g.g g.s
instance DI (K:Frag) (ρ:Ξ) (wi:TI) (f:θ):Prop:=
 ∀ (G:Hp) (σ:St) (H:Hp) (δ:DS) (ds:List W) (R':It->Hp->Prop),Rl K ρ G H δ σ->f δ=some ds->(∀ J G' H',Gr G H G' H'->K3 K ρ J G' ds->R' J H')->wi σ H R'
instance MS (K:Frag) (ρ:Ξ) (wi:TI) (f:θ):Prop:=
 ∀ (G:Hp) (σ:St) (H:Hp) (δ:DS) (ds:List W) (R':It->Hp->Prop),Rl K ρ G H δ σ->f δ=some ds->(∀ J G' H',Gr G H G' H'->P7 K ρ J G' H' ds->R' J H')->wi σ H R'
def DI.k {wi:TI} {f:θ} (h:DI K ρ wi f):MS K ρ wi f:=λ G σ H δ ds R' R e q=>h G σ H δ ds R' R e λ J G' H' g i=>q J G' H' g i.d
instance rq:W->Option (List W)
 | .list ds=>some ds
 | .tuple ds=>some ds
 | _=>none
instance bA (f:μ):DS->Option (List W):=λ δ=>(f δ).bind rq
def o0 {G1 H1:Hp} {a:Addr} {xs:List V} {ds:List W} {i:Nat} (s:b0 G1 H1) (q:cR K H1 a xs) (da:aE K ρ G1 xs ds):Dh K ρ (Oe K a) ds i G1 H1:=by
 refine ⟨λ d hd=>?_,λ h=>⟨xs,q,by rw [da.length];exact h⟩⟩;obtain ⟨v,h1,h2⟩:=da.get hd;refine ⟨⟨xs,v,q,h1⟩,λ x H' y=>?_⟩;obtain ⟨rfl,y⟩:=y;have:=y xs q;rw [h1] at this;cases this;exact ⟨G1,.refl s,h2⟩
def xg {G1 H1:Hp} {a:Addr} {xs:List V} {ds:List W} {i:Nat} (s:b0 G1 H1) (q:fg K H1 a xs) (da:aE K ρ G1 xs ds):Dh K ρ (NM K a) ds i G1 H1:=by
 refine ⟨λ d hd=>?_,λ h=>⟨xs,q,by rw [da.length];exact h⟩⟩;obtain ⟨v,h1,h2⟩:=da.get hd;refine ⟨⟨xs,v,q,h1⟩,λ x H' y=>?_⟩;obtain ⟨rfl,y⟩:=y;have:=y xs q;rw [h1] at this;cases this;exact ⟨G1,.refl s,h2⟩
def Cs {t:TE} {f:μ} (h:DE K ρ t f):DI K ρ (zY K t) (bA f):=λ G σ H δ ds R' R e q=>by
 obtain ⟨d,ed,e⟩:=oB e
 refine h G σ H δ d _ R ed λ v G1 H1 g1 dv=>?_;cases dv with
 | lst sq da=>
  cases e;exact ⟨_,rfl,.inl ⟨⟨_,g1.s.seq sq⟩,q _ G1 H1 g1 λ i G2 H2 a b=>o0 b ((a.trans b).seq sq) (da.same a)⟩⟩
 | tup sq da=>
  cases e;exact ⟨_,rfl,.inr ⟨⟨_,g1.s.tup (fg.of sq)⟩,q _ G1 H1 g1 λ i G2 H2 a b=>xg b ((a.trans b).tup (fg.of sq)) (da.same a)⟩⟩
 | _=>cases e
def EW {t:TE} {f:μ} (h:DK K ρ t f):MS K ρ (zY K t) (bA f):=λ G σ H δ ds R' R e q=>by
 obtain ⟨d,ed,e⟩:=oB e
 refine h G σ H δ d _ R ed λ v G1 H1 g1 dv=>?_;rcases dv with dv | ⟨p,vs,es,rfl,rfl,hp,da⟩
 . cases dv with
   | lst sq da=>
    cases e;exact ⟨_,rfl,.inl ⟨⟨_,g1.s.seq sq⟩,q _ G1 H1 g1 λ i G2 H2 g=>o0 g.s ((g.g.trans g.s).seq sq) (da.same g.g)⟩⟩
   | tup sq da=>
    cases e;exact ⟨_,rfl,.inr ⟨⟨_,g1.s.tup (fg.of sq)⟩,q _ G1 H1 g1 λ i G2 H2 g=>xg g.s ((g.g.trans g.s).tup (fg.of sq)) (da.same g.g)⟩⟩
   | _=>cases e
 . cases e;exact ⟨p,rfl,.inl ⟨⟨_,cR.of hp⟩,q _ G1 H1 g1 λ i G2 H2 g=>o0 g.s (cR.of (g.h _ _ hp)) (da.same g.g)⟩⟩
instance eZ (lo:Int) (n:Nat):List W:=(List.range n).map λ i=>.int (lo+(i:Nat))
def C6 {G:Hp} {lo:Int} {n:Nat}:K3 K ρ (N4 lo n) G (eZ lo n):=λ i G1 H1 _ s=>by
 refine ⟨λ d hd=>?_,λ h=>show n<=i by simpa [eZ] using h⟩;have hi:i<n:=by
  have:=(oG hd).1;simpa [eZ] using this
 refine ⟨hi,λ x H' y=>?_⟩;obtain ⟨rfl,rfl⟩:=y;have:d=.int (lo+i):=by
  unfold eZ at hd;rw [Re,List.getElem?_range hi] at hd;cases hd;rfl
 subst this;exact ⟨G1,.refl s,.int _⟩
instance qr (j:Int):Bool:=decide (-(2^62)<=j)&&decide (j<2^62)
def zP {j:Int} (h:qr j=true) : -(2^62)<=j/\j<2^62:=by
 simp only [qr,Rb,Ri] at h;exact h
def AQ {j:Int} (h1 : -(2^62)<=j) (h2:j<2^62):qr j=true:=by
 simp only [qr,Rb,Ri];exact ⟨h1,h2⟩
def zO {n:Nat} (h:n<=16777216):qr (n:Int)=true:=AQ (by omega) (by omega)
instance yY (j:Int):Option (List W):=if qr j=true then some (eZ 0 j.toNat) else none
instance xM:List W->Option (List W)
 | [.int j]=>yY j
 | _=>none
instance jW (f:θ):DS->Option (List W):=λ δ=>(f δ).bind xM
def yH {j:Int} {ds:List W} (h:yY j=some ds):(-(2^62)<=j/\j<2^62)/\ds=eZ 0 j.toNat:=by
 unfold yY at h;split at h
 . rename_i hc;cases h;exact ⟨zP hc,rfl⟩
 . cases h
def dH {G:Hp} {v:V} {i:Int} (h:Dw K ρ G v (.int i)):v=.int i:=by cases h;rfl
def vT {G:Hp} {v:V} {i:Str} (h:Dw K ρ G v (.str i)):v=.str i:=by cases h;rfl
def B2 {G:Hp} {v:V} {i:Bool} (h:Dw K ρ G v (.bool i)):v=.bl i:=by cases h;rfl
def wq {G:Hp} {v:V} (h:Dw K ρ G v .none):v=.non:=by cases h;rfl
def wC {G:Hp} {vs:List V} {d:W} (h:aE K ρ G vs [d]):∃ v,vs=[v]/\Dw K ρ G v d:=by
 cases h with
 | cons a b=>cases b;exact ⟨_,rfl,a⟩
def IC {G:Hp} {vs:List V} {d e:W} (h:aE K ρ G vs [d,e]):∃ v u,vs=[v,u]/\Dw K ρ G v d/\Dw K ρ G u e:=by
 cases h with
 | cons a b=>
  cases b with
  | cons b c=>cases c;exact ⟨_,_,rfl,a,b⟩
def uI {ds es:List W} (e:xM ds=some es):∃ j,ds=[.int j]/\yY j=some es:=by
 cases ds with
 | nil=>cases e
 | cons x r=>
  cases x with
  | int j=>
   cases r with
   | nil=>exact ⟨j,rfl,e⟩
   | cons y r=>cases e
  | _=>cases r <;> cases e
def Em {t:TA} {f:θ} (h:DA K ρ t f):DI K ρ (AZ t) (jW f):=λ G σ H δ ds R' R e q=>by
 obtain ⟨es,ed,e⟩:=oB e
 refine h G σ H δ es _ R ed λ vs G1 H1 g1 da=>?_;obtain ⟨j,rfl,e⟩:=uI e;obtain ⟨hc,rfl⟩:=yH e;obtain ⟨v,rfl,dv⟩:=wC da;cases dH dv;exact ⟨_,rfl,hc.1,hc.2,q _ G1 H1 g1 C6⟩
instance kW (ds:List W):List W:=(List.range ds.length).map λ (i:Nat)=>.tuple [.int (i:Int),ds[i]?.getD .none]
def zH {ds:List W} {i:Nat} {d:W} (h:(kW ds)[i]?=some d):∃ x,ds[i]?=some x/\d=.tuple [.int i,x]:=by
 have hi:i<ds.length:=by
  have:=(oG h).1;simpa [kW] using this
 unfold kW at h;rw [Re,List.getElem?_range hi] at h;cases h;exact ⟨ds[i],QP hi,by simp [QP hi]⟩
def IE {G1 H1:Hp} {a:Addr} {xs:List V} {ds:List W} {i:Nat} (s:b0 G1 H1) (q:cR K H1 a xs) (da:aE K ρ G1 xs ds):Dh K ρ (Od K a) (kW ds) i G1 H1:=by
 refine ⟨λ d hd=>?_,λ h=>⟨xs,q,by rw [da.length];simpa [kW] using h⟩⟩;obtain ⟨x,hx,rfl⟩:=zH hd;obtain ⟨v,h1,h2⟩:=da.get hx;refine ⟨⟨xs,v,q,h1⟩,λ y H' w=>?_⟩;obtain ⟨p,u,hp,rfl,rfl,w⟩:=w;have:=w xs q;rw [h1] at this;cases this;have n:Nw H1 (cK H1 p (.tup [.int i,v])) p (.tup [.int i,v]):=.of hp;have g:=Gr.nw s n;exact ⟨_,g,.tup aP (.cons (.int i) (.cons (h2.same g.g) .nil))⟩
instance yK (f:θ):DS->Option (List W):=λ δ=>(f δ).bind λ ds=>match ds with
 | [.list es]=>some (kW es)
 | _=>none
def E4 {t:TA} {f:θ} (h:DA K ρ t f):DI K ρ (A1 K t) (yK f):=λ G σ H δ ds R' R e q=>by
 obtain ⟨es,ed,e⟩:=oB e
 refine h G σ H δ es _ R ed λ vs G1 H1 g1 da=>?_;split at e
 . cases e;obtain ⟨v,rfl,dv⟩:=wC da;cases dv with
   | lst sq da=>exact ⟨_,rfl,⟨_,g1.s.seq sq⟩,q _ G1 H1 g1 λ i G2 H2 a b=>IE b ((a.trans b).seq sq) (da.same a)⟩
 . cases e
instance qi (ds es:List W):List W:=List.zipWith (λ x y=>.tuple [x,y]) ds es
def CC {ds es:List W} {i:Nat} {d:W} (h:(qi ds es)[i]?=some d):∃ x y,ds[i]?=some x/\es[i]?=some y/\d=.tuple [x,y]:=by
 unfold qi at h;rw [List.getElem?_zipWith] at h;cases h1:ds[i]? with
 | none=>rw [h1] at h;cases h
 | some x=>
  cases h2:es[i]? with
  | none=>rw [h1,h2] at h;cases h
  | some y=>
   rw [h1,h2] at h;cases h;exact ⟨x,y,rfl,rfl,rfl⟩
def Hl {G1 H1:Hp} {a b:Addr} {xs ys:List V} {ds es:List W} {i:Nat} (s:b0 G1 H1) (q:cR K H1 a xs) (da:aE K ρ G1 xs ds) (q2:cR K H1 b ys) (db:aE K ρ G1 ys es):Dh K ρ (NP K a b) (qi ds es) i G1 H1:=by
 refine ⟨λ d hd=>?_,λ h=>⟨xs,ys,q,q2,?_⟩⟩
 . obtain ⟨x,y,hx,hy,rfl⟩:=CC hd;obtain ⟨v,h1,h2⟩:=da.get hx;obtain ⟨u,k1,k2⟩:=db.get hy;refine ⟨⟨xs,ys,v,u,q,q2,h1,k1⟩,λ z H' w=>?_⟩;obtain ⟨p,v',u',hp,rfl,rfl,w1,w2⟩:=w;have:=w1 xs q;rw [h1] at this;cases this;have:=w2 ys q2;rw [k1] at this;cases this;have g:=Gr.nw s (Nw.of (o:=.tup [v,u]) hp);exact ⟨_,g,.tup aP (.cons (h2.same g.g) (.cons (k2.same g.g) .nil))⟩
 . have:(qi ds es).length=min ds.length es.length:=by simp [qi]
   rw [da.length,db.length];omega
instance wg (f:θ):DS->Option (List W):=λ δ=>(f δ).bind λ ds=>match ds with
 | [.list a,.list b]=>some (qi a b)
 | _=>none
def IX {t:TA} {f:θ} (h:DA K ρ t f):DI K ρ (Jg K t) (wg f):=λ G σ H δ ds R' R e q=>by
 obtain ⟨es,ed,e⟩:=oB e
 refine h G σ H δ es _ R ed λ vs G1 H1 g1 da=>?_;split at e
 . cases e;obtain ⟨v,u,rfl,dv,du⟩:=IC da;cases dv with
   | lst sq dA=>
    cases du with
    | lst sq2 db=>exact ⟨_,_,rfl,⟨_,g1.s.seq sq⟩,⟨_,g1.s.seq sq2⟩,q _ G1 H1 g1 λ i G2 H2 a b=>Hl b ((a.trans b).seq sq) (dA.same a) ((a.trans b).seq sq2) (db.same a)⟩
 . cases e
instance DG (K:Frag) (ρ:Ξ) (g:TG) (h:η):Prop:=
 ∀ (G H:Hp) (δ:DS) (σ:St) (v:V) (d:W) (δ':DS) (Q:St->Hp->Prop),Rl K ρ G H δ σ->Dw K ρ G v d->h d δ=some δ'->(∀ σ',Rl K ρ G H δ' σ'->fW δ' σ' δ σ->Q σ' H)->g v σ H Q
instance Lv (K:Frag) (ρ:Ξ) (g:Ax) (h:List W->DS->Option DS):Prop:=
 ∀ (G H:Hp) (δ:DS) (σ:St) (vs:List V) (ds:List W) (δ':DS) (Q:St->Hp->Prop),Rl K ρ G H δ σ->aE K ρ G vs ds->h ds δ=some δ'->(∀ σ',Rl K ρ G H δ' σ'->fW δ' σ' δ σ->Q σ' H)->g vs σ H Q
instance af (i:Nat):W->DS->Option DS:=λ d δ=>some (δ.set i (.val d))
def xV {i:Nat}:DG K ρ (n8 i) (af i):=λ G H δ σ v d δ' Q R dv e q=>by
 cases e;exact q _ (R.set dv) (kI R.len)
instance bJ:List W->DS->Option DS:=λ ds δ=>match ds with
 | []=>some δ
 | _=>none
instance aD (h:η) (k:List W->DS->Option DS):List W->DS->Option DS:=λ ds δ=>match ds with
 | d::r=>(h d δ).bind (k r)
 | _=>none
def Eo:Lv K ρ L3 bJ:=λ G H δ σ vs ds δ' Q R dv e q=>by
 cases dv with
 | nil=>cases e;exact ⟨rfl,q _ R (.refl _ _)⟩
 | cons _ _=>cases e
def Ca {g:TG} {u:Ax} {h:η} {k:List W->DS->Option DS} (h1:DG K ρ g h) (h2:Lv K ρ u k):Lv K ρ (Gn g u) (aD h k):=λ G H δ σ vs ds δ' Q R dv e q=>by
 cases dv with
 | nil=>cases e
 | cons a b=>
  obtain ⟨δ1,e1,e⟩:=oB e
  exact ⟨_,_,rfl,h1 G H δ σ _ _ δ1 _ R a e1 λ σ1 R1 o1=>h2 G H δ1 σ1 _ _ δ' Q R1 b e λ σ2 R2 o2=>q σ2 R2 (o2.trans o1)⟩
instance bG (n:Nat) (k:List W->DS->Option DS):W->DS->Option DS:=λ d δ=>match d with
 | .tuple ds=>if ds.length=n then k ds δ else none
 | _=>none
def JA {n:Nat} {u:Ax} {k:List W->DS->Option DS} (h:Lv K ρ u k):DG K ρ (HM K n u) (bG n k):=λ G H δ σ v d δ' Q R dv e q=>by
 cases dv with
 | tup sq da=>
  simp only [bG] at e;split at e
  . rename_i hn;exact ⟨_,_,rfl,R.sub.tup (fg.of sq),by rw [da.length];exact hn,h G H δ σ _ _ δ' Q R da e q⟩
  . cases e
 | _=>cases e
instance qd (δ:DS):Option Nat->Sl
 | none=>.no
 | some i=>δ[i]?.getD .no
instance N6 (σ:St):Option Nat->Option V
 | none=>none
 | some i=>match σ[i]? with
  | some v=>v
  | none=>none
instance bU (ix:Λ) (δ:DS):DS:=ix.map (qd δ)
def p5 {ix:Λ} {σ:St} {j:Nat} {o:Option Nat} (h:ix[j]?=some o):(lift ix σ)[j]?=some (N6 σ o):=by
 unfold lift;rw [Re,h];cases o <;> rfl
def mz {ix:Λ} {δ:DS} {j:Nat} {s:Sl} (h:(bU ix δ)[j]?=some s):∃ o,ix[j]?=some o/\s=qd δ o:=by
 unfold bU at h;rw [Re] at h;obtain ⟨o,h1,h2⟩:=oM h
 exact ⟨o,h1,h2.symm⟩
instance zb (ix:Λ):Bool:=decide ((ix.filterMap id).Nodup)
def JQ {ix:Λ} (h:(ix.filterMap id).Nodup):∀ {i j k:Nat},ix[i]?=some (some k)->ix[j]?=some (some k)->i=j:=by
 induction ix with
 | nil=>intro i j k h1;simp at h1
 | cons o r ih=>
  intro i j k h1 h2;have hr:(r.filterMap id).Nodup:=by
   cases o with
   | none=>simpa using h
   | some a=>
    have h':(a::r.filterMap id).Nodup:=h;exact (Rp.mp h').2
  have hm:∀ m,r[m]?=some (some k)->k∈r.filterMap id:=λ m hm=>Sr.mpr ⟨some k,Rz hm,rfl⟩;cases i with
  | zero=>
   cases j with
   | zero=>rfl
   | succ j=>
    simp at h1 h2;subst h1;have h':(k::r.filterMap id).Nodup:=h;exact absurd (hm j h2) (Rp.mp h').1
  | succ i=>
   cases j with
   | zero=>
    simp at h1 h2;subst h2;have h':(k::r.filterMap id).Nodup:=h;exact absurd (hm i h1) (Rp.mp h').1
   | succ j=>
    simp at h1 h2;rw [ih hr h1 h2]
def Rl.lift {G H:Hp} {δ:DS} {σ:St} {ix:Λ} (hx:zb ix=true) (R:Rl K ρ G H δ σ):Rl K ρ G H (bU ix δ) (lift ix σ):=by
 have hx':(ix.filterMap id).Nodup:=by simpa [zb] using hx
 have own:∀ {j:Nat} {ds:List W},(bU ix δ)[j]?=some (.own ds)->∃ i,ix[j]?=some (some i)/\δ[i]?=some (.own ds):=λ {j ds} h=>by
  obtain ⟨o,h1,h2⟩:=mz h;cases o with
  | none=>cases h2
  | some i=>
   refine ⟨i,h1,?_⟩;cases e:δ[i]? with
   | none=>simp [qd,e] at h2
   | some s=>simp [qd,e] at h2;rw [h2]
 have at':∀ {j i:Nat} {v:V},ix[j]?=some (some i)->(L2.lift ix σ)[j]?=some (some v)->σ[i]?=some (some v):=λ {j i v} h1 h2=>by
  rw [p5 h1] at h2;simp only [N6] at h2;split at h2
  . rename_i w e;rw [e];simpa using h2
  . cases h2
 refine ⟨R.sub,by simp [bU,L2.lift],λ j s h=>?_,λ j k p ds es h1 h2 h3 h4=>?_⟩
 . obtain ⟨o,h1,rfl⟩:=mz h;refine ⟨_,p5 h1,?_⟩;cases o with
   | none=>trivial
   | some i=>
    cases e:δ[i]? with
    | none=>simp only [qd,e,getD_none];trivial
    | some s=>
     obtain ⟨o,k1,k2⟩:=R.sl i s e;simp only [qd,N6,e,k1,getD_some];exact k2
 . obtain ⟨i1,a1,a2⟩:=own h1;obtain ⟨i2,b1,b2⟩:=own h2;have:=R.apart i1 i2 p ds es a2 b2 (at' a1 h3) (at' b1 h4);subst this;exact JQ hx' a1 b1
instance jj:DS->Option Bool:=λ _=>some true
def IJ:DT K ρ Ks jj:=λ G σ H δ b Q R e q=>by
 cases e;exact q G H (.refl R.sub)
instance b9 (h:η) (c:DS->Option Bool) (fe:μ) (δ:DS):List W->Option (List W)
 | []=>some []
 | d::ds=>(h d δ).bind λ δ2=>(c δ2).bind λ b=>if b=true then (fe δ2).bind λ e=>(b9 h c fe δ ds).map (e::·) else b9 h c fe δ ds
instance gF (ix:Λ) (fi:θ) (h:η) (c:DS->Option Bool) (fe:μ):DS->Option (List W):=λ δ=>
 (fi δ).bind λ ds=>if ds.length<=sizeLine then b9 h c fe (bU ix δ) ds else none
def Fc {ix:Λ} {wi:TI} {g:TG} {tc:TT} {te:TE} {fi:θ} {h:η} {c:DS->Option Bool} {fe:μ}
 (hx:zb ix=true) (hi:MS K ρ wi fi) (hg:DG K ρ g h) (hc:DT K ρ tc c) (he:DE K ρ te fe):DO K ρ (pI ix wi g tc te) (gF ix fi h c fe):=λ G σ H δ es Q R e q=>by
 obtain ⟨ds,ed,e⟩:=oB e
 split at e
 case isFalse=>cases e
 rename_i hz;refine hi G σ H δ ds _ R ed λ J G1 H1 g1 it=>?_;refine ⟨λ i m ys H2=>m=ds.length-i/\i<=ds.length/\ys.length<=i/\∃ G2 as bs,Gr G1 H1 G2 H2/\aE K ρ G2 ys as/\b9 h c fe (bU ix δ) (ds.drop i)=some bs/\as++bs=es,⟨ds.length,by simp,RN _,QH _,G1,[],es,.refl g1.s,.nil,by simpa using e,rfl⟩,?_⟩;rintro i m ys H2 ⟨rfl,hil,hyl,G2,as,bs,g2,da,eb,rfl⟩;have ia:=it i G2 H2 g2;by_cases hlt:i<ds.length
 . refine .inr ?_;obtain ⟨go,step⟩:=ia.1 ds[i] (QP hlt);rw [Rx hlt] at eb;obtain ⟨δ2,e2,eb⟩:=oB eb
   obtain ⟨b,e3,eb⟩:=oB eb
   refine ⟨go,by omega,λ ys' H'=>ys'.length<=i+1/\∃ G2 as' bs',Gr G1 H1 G2 H'/\aE K ρ G2 ys' as'/\b9 h c fe (bU ix δ) (ds.drop (i+1))=some bs'/\as'++bs'=as++bs,λ ys' H' hy0=>by obtain ⟨l,z⟩:=hy0;exact ⟨ds.length-(i+1),by omega,rfl,hlt,l,z⟩,λ x H' y=>?_⟩;obtain ⟨G3,g3,dx⟩:=step x H' y;have R3:=((R.grow g1).grow g2).grow g3;refine hg G3 H' (bU ix δ) _ x _ δ2 _ (R3.lift hx) dx e2 λ σ2 R4 _=>?_;refine hc G3 σ2 H' δ2 b _ R4 e3 λ G5 H5 g5=>?_;have g25:=g2.trans (g3.trans g5);have da5:=da.same (g3.trans g5).g;cases b with
   | false=>exact ⟨by omega,G5,as,bs,g25,da5,eb,rfl⟩
   | true=>
    obtain ⟨ev,e6,eb⟩:=oB eb
    obtain ⟨bs',e7,rfl⟩:=oM eb
    refine he G5 σ2 H5 δ2 ev _ (R4.grow g5) e6 λ v G6 H6 g6 dv=>?_;exact ⟨by simp;omega,G6,as++[ev],bs',g25.trans g6,(da5.same g6.g).app (.cons dv .nil),e7,by simp⟩
 . have hi':i=ds.length:=by omega
   subst hi';refine .inl ⟨ia.2 (QH _),by omega,λ p hp=>?_⟩;rw [SG] at eb;cases eb;rw [Ra] at q;have n:Nw H2 (cK H2 p (.lst ys)) p (.lst ys):=.of hp;exact q p ys G2 _ (g1.trans (g2.trans (.nwO g2.s n))) (cZ (g1.trans g2).h hp) (cZ g2.s hp) aP da
inductive dJ where
 | nx (δ:DS)
 | bk (δ:DS)
 | ct (δ:DS)
 | rt (d:W)
abbrev υ:=DS->Option dJ
structure Iv (K:Frag) (ρ:Ξ) (G0 H0 G H:Hp) (δ:DS) (σ:St):Prop where
 rl:Rl K ρ G H δ σ
 gr:Gr G0 H0 G H
 ow:∀ (i:Nat) p ds,δ[i]?=some (.own ds)->σ[i]?=some (some (.ref p))->H0 p=none
instance Qw (K:Frag) (ρ:Ξ) (G0 H0:Hp) (D:jg):dJ->Prop
 | .nx δ=>∀ σ G H,Iv K ρ G0 H0 G H δ σ->D.nx σ H
 | .bk δ=>∀ σ G H,Iv K ρ G0 H0 G H δ σ->D.bk σ H
 | .ct δ=>∀ σ G H,Iv K ρ G0 H0 G H δ σ->D.ct σ H
 | .rt d=>∀ v G H,Gr G0 H0 G H->Dw K ρ G v d->D.rt v H
instance pz (K:Frag) (ρ:Ξ) (t:TS) (f:υ):Prop:=
 ∀ (G0 H0 G:Hp) (σ:St) (H:Hp) (δ:DS) (o:dJ) (D:jg),Iv K ρ G0 H0 G H δ σ->f δ=some o->Qw K ρ G0 H0 D o->t D σ H
def Iv.grow {G0 H0 G H G' H':Hp} {δ:DS} {σ:St} (I:Iv K ρ G0 H0 G H δ σ) (g:Gr G H G' H'):Iv K ρ G0 H0 G' H' δ σ:=⟨I.rl.grow g,I.gr.trans g,I.ow⟩
def Iv.sub {G0 H0 G H:Hp} {δ δ':DS} {σ σ':St} (I:Iv K ρ G0 H0 G H δ σ) (R:Rl K ρ G H δ' σ') (o:fW δ' σ' δ σ):Iv K ρ G0 H0 G H δ' σ':=⟨R,I.gr,λ i p ds h1 h2=>by
 obtain ⟨es,h3,h4⟩:=o i ds p h1 h2;exact I.ow i p es h3 h4⟩
def Iv.base {G0 H0 G H:Hp} {δ:DS} {σ:St} (I:Iv K ρ G0 H0 G H δ σ):Iv K ρ G H0 G H δ σ:=⟨I.rl,⟨.refl _,I.gr.h,I.gr.s,λ _ _ h=>h⟩,I.ow⟩
def Gr.rebase {G0 H0 G H G' H':Hp} (a:Gr G0 H0 G H) (b:Gr G H0 G' H'):Gr G0 H0 G' H':=⟨a.g.trans b.g,b.h,b.s,λ c h1 h2=>b.n c h1 (a.n c h1 h2)⟩
def Iv.rebase {G0 H0 G H G' H':Hp} {δ:DS} {σ:St} (a:Gr G0 H0 G H) (I:Iv K ρ G H0 G' H' δ σ):Iv K ρ G0 H0 G' H' δ σ:=⟨I.rl,a.rebase I.gr,I.ow⟩
instance az:DS->Option dJ:=λ δ=>some (.nx δ)
def y8:pz K ρ GJ az:=λ G0 H0 G σ H δ o D I e p=>by
 cases e;exact p σ G H I
instance aF (f g:υ):DS->Option dJ:=λ δ=>match f δ with
 | some (.nx δ')=>g δ'
 | o=>o
def oC {t u:TS} {f g:υ} (h1:pz K ρ t f) (h2:pz K ρ u g):pz K ρ (Jf t u) (aF f g):=λ G0 H0 G σ H δ o D I e p=>by
 unfold aF at e;cases ef:f δ with
 | none=>rw [ef] at e;cases e
 | some o1=>
  rw [ef] at e;refine h1 G0 H0 G σ H δ o1 _ I ef ?_;cases o1 with
  | nx δ'=>exact λ σ' G' H' I'=>h2 G0 H0 G' σ' H' δ' o D I' e p
  | bk δ'=>cases e;exact p
  | ct δ'=>cases e;exact p
  | rt d=>cases e;exact p
instance ci (c:DS->Option Bool) (f g:υ):DS->Option dJ:=λ δ=>(c δ).bind λ b=>if b=true then f δ else g δ
def AS {tc:TT} {t u:TS} {c:DS->Option Bool} {f g:υ} (hc:DT K ρ tc c) (h1:pz K ρ t f) (h2:pz K ρ u g):pz K ρ (Ik tc t u) (ci c f g):=λ G0 H0 G σ H δ o D I e p=>by
 obtain ⟨b,eb,e⟩:=oB e
 refine hc G σ H δ b _ I.rl eb λ G1 H1 g1=>?_;cases b with
 | true=>exact h1 G0 H0 G1 σ H1 δ o D (I.grow g1) e p
 | false=>exact h2 G0 H0 G1 σ H1 δ o D (I.grow g1) e p
instance aN (f:μ):DS->Option dJ:=λ δ=>(f δ).map .rt
def sC {t:TE} {f:μ} (h:DE K ρ t f):pz K ρ (IY t) (aN f):=λ G0 H0 G σ H δ o D I e p=>by
 obtain ⟨d,ed,rfl⟩:=oM e
 exact h G σ H δ d _ I.rl ed λ v G1 H1 g1 dv=>p v G1 H1 (I.gr.trans g1) dv
instance JD:DS->Option dJ:=λ _=>some (.rt .none)
instance kM:DS->Option dJ:=λ δ=>some (.ct δ)
def uO:pz K ρ GB kM:=λ G0 H0 G σ H δ o D I e p=>by
 cases e;exact p σ G H I
instance aG (f:μ) (h:η):DS->Option dJ:=λ δ=>(f δ).bind λ d=>(h d δ).map .nx
def Bv {t:TE} {g:TG} {f:μ} {h:η} (h1:DE K ρ t f) (h2:DG K ρ g h):pz K ρ (pU t g) (aG f h):=λ G0 H0 G σ H δ o D I e p=>by
 obtain ⟨d,ed,e⟩:=oB e
 obtain ⟨δ',e2,rfl⟩:=oM e
 exact h1 G σ H δ d _ I.rl ed λ v G1 H1 g1 dv=>h2 G1 H1 δ σ v d δ' _ (I.rl.grow g1) dv e2 λ σ' R o=>p σ' G1 H1 ((I.grow g1).sub R o)
instance iS (i:Nat) (f:θ):DS->Option dJ:=λ δ=>(f δ).map λ ds=>.nx (δ.set i (.own ds))
def xu {i:Nat} {t:TE} {f:θ} (h:DO K ρ t f):pz K ρ (pU t (n8 i)) (iS i f):=λ G0 H0 G σ H δ o D I e p=>by
 obtain ⟨ds,ed,rfl⟩:=oM e
 refine h G σ H δ ds _ I.rl ed λ q vs G1 H1 g1 h0 g0 hh da=>?_;have I1:=I.grow g1;refine p _ G1 H1 ⟨I1.rl.setO g0 hh da λ j es hj h1 h2=>?_,I1.gr,λ j q' ds' h1 h2=>?_⟩
 . obtain ⟨o,k1,q1,vs1,k2,k3,k4,_⟩:=I.rl.sl j _ h1;rw [h2] at k1;cases k1;cases k2;rw [h0] at k4;cases k4
 . rcases eP h1 with ⟨rfl,_,hl⟩ | ⟨ne,h1⟩
   . rw [kD (by rw [<-I.rl.len];exact hl)] at h2;cases h2;exact cZ I.gr.h h0
   . rw [QW ne] at h2;exact I.ow j q' _ h1 h2
instance frz (i:Nat) (δ:DS):DS:=match δ[i]? with
 | some (.own ds)=>δ.set i (.val (.list ds))
 | _=>δ
instance mI (i:Nat) (f:υ):DS->Option dJ:=λ δ=>f (frz i δ)
def Iv.frz {G0 H0 G H:Hp} {δ:DS} {σ:St} (i:Nat) (I:Iv K ρ G0 H0 G H δ σ):∃ G',Iv K ρ G0 H0 G' H (L2.frz i δ) σ:=by
 unfold L2.frz;split
 . rename_i ds h;obtain ⟨o,h1,p,vs,rfl,h3,h4,h5⟩:=I.rl.sl i _ h;have h0:=I.ow i p ds h h1;have g:b0 G (cK G p (.lst vs)):=lI h3 _;have set1:σ=σ.set i (some (.ref p)):=by
    apply ext_getElem?;intro j;by_cases e:i=j
    . subst e;rw [kD (oG h1).1,h1]
    . rw [QW e]
   refine ⟨cK G p (.lst vs),⟨⟨qE I.gr.s h4,by rw [Sa];exact I.rl.len,λ j s e=>?_,λ j k q ds' es' k1 k2 k3 k4=>?_⟩,I.gr.new h0 h3 h4,λ j q ds' k1 k2=>?_⟩⟩
   . rcases eP e with ⟨rfl,rfl,hl⟩ | ⟨ne,e⟩
     . exact ⟨_,h1,.ref p,rfl,.lst (cR.of aP) (h5.same g)⟩
     . obtain ⟨o,k1,k2⟩:=I.rl.sl j s e;refine ⟨o,k1,?_⟩;cases s with
       | no=>trivial
       | val d=>
        obtain ⟨v,e1,e2⟩:=k2;exact ⟨v,e1,e2.same g⟩
       | own es=>
        obtain ⟨q,ws,rfl,e2,e3,e4⟩:=k2;refine ⟨q,ws,rfl,?_,e3,e4.same g⟩;rw [aL]
        . exact e2
        . rintro rfl;exact ne (I.rl.apart i j q ds es h e h1 k1)
   all_goals
    rcases eP k1 with ⟨_,z,_⟩ | ⟨ne,k1⟩
    . cases z
   . rcases eP k2 with ⟨_,z,_⟩ | ⟨ne2,k2⟩
     . cases z
     . exact I.rl.apart j k q ds' es' k1 k2 k3 k4
   . exact I.ow j q ds' k1 k2
 . exact ⟨G,I⟩
def wH {i:Nat} {t:TS} {f:υ} (h:pz K ρ t f):pz K ρ t (mI i f):=λ G0 H0 G σ H δ o D I e p=>by
 obtain ⟨G',I'⟩:=I.frz i;exact h G0 H0 G' σ H _ o D I' e p
instance bz (h:η) (fb:υ):List W->DS->Option dJ
 | [],δ=>some (.nx δ)
 | d::ds,δ=>(h d δ).bind λ δ2=>match fb δ2 with
  | some (.nx δ')=>bz h fb ds δ'
  | some (.ct δ')=>bz h fb ds δ'
  | some (.bk δ')=>some (.nx δ')
  | some (.rt d)=>some (.rt d)
  | none=>none
instance gY (fi:θ) (h:η) (fb:υ):DS->Option dJ:=λ δ=>(fi δ).bind λ ds=>bz h fb ds δ
def vS {wi:TI} {g:TG} {tb:TS} {fi:θ} {h:η} {fb:υ} (hi:DI K ρ wi fi) (hg:DG K ρ g h) (hb:pz K ρ tb fb):pz K ρ (Eg wi g tb) (gY fi h fb):=λ G0 H0 G σ H δ o D I e p=>by
 obtain ⟨ds,ed,e⟩:=oB e
 refine hi G σ H δ ds _ I.rl ed λ J G1 H1 g1 it=>?_;refine ⟨λ i m σ H=>m=ds.length-i/\i<=ds.length/\∃ G δ,Iv K ρ G0 H0 G H δ σ/\b0 G1 G/\bz h fb (ds.drop i) δ=some o,⟨ds.length,by simp,RN _,G1,δ,I.grow g1,.refl _,by simpa using e⟩,?_⟩;rintro i m σ2 H2 ⟨rfl,hil,G2,δ2,I2,s2,e2⟩;have ia:=it i G2 H2 s2 I2.gr.s;by_cases hlt:i<ds.length
 . refine .inr ?_;obtain ⟨go,step⟩:=ia.1 ds[i] (QP hlt);rw [Rx hlt] at e2;obtain ⟨δ3,e3,e4⟩:=oB e2
   have back:∀ {G3 H3:Hp},Gr G2 H2 G3 H3->∀ {G4 H4:Hp} {σ4:St} {δ4:DS},Iv K ρ G3 H0 G4 H4 δ4 σ4->Iv K ρ G0 H0 G4 H4 δ4 σ4/\b0 G1 G4:=λ {G3 H3} g3 {G4 H4 σ4 δ4} I4=>⟨I4.rebase (I2.gr.trans g3),s2.trans (g3.g.trans I4.gr.g)⟩
   have again:∀ (δ':DS),bz h fb (ds.drop (i+1)) δ'=some o->(fb δ3=some (.nx δ')∨fb δ3=some (.ct δ'))->∃ N:St->Hp->Prop,(∀ σ' H',N σ' H'->∃ m',m'<ds.length-i/\m'=ds.length-(i+1)/\i+1<=ds.length/\∃ G δ,Iv K ρ G0 H0 G H' δ σ'/\b0 G1 G/\bz h fb (ds.drop (i+1)) δ=some o)/\∀ x H',J.yld i H2 x H'->g x σ2 H' λ σ2 H2=>tb { D with nx:=N,ct:=N,bk:=D.nx } σ2 H2:=λ δ' ed' ef=>by
    refine ⟨λ σ' H'=>∃ G',Iv K ρ G0 H0 G' H' δ' σ'/\b0 G1 G',λ σ' H' hy0=>by obtain ⟨G',I',s'⟩:=hy0;exact ⟨ds.length-(i+1),by omega,rfl,hlt,G',δ',I',s',ed'⟩,λ x H' y=>?_⟩;obtain ⟨G3,g3,dx⟩:=step x H' y;have I3:=I2.grow g3;refine hg G3 H' δ2 σ2 x _ δ3 _ I3.rl dx e3 λ σ3 R3 o3=>?_;have I4:=(I3.sub R3 o3).base;rcases ef with ef | ef
    . exact hb G3 H0 G3 σ3 H' δ3 _ _ I4 ef λ σ5 G5 H5 I5=>⟨G5,back g3 I5⟩
    . exact hb G3 H0 G3 σ3 H' δ3 _ _ I4 ef λ σ5 G5 H5 I5=>⟨G5,back g3 I5⟩
   cases ef:fb δ3 with
   | none=>rw [ef] at e4;cases e4
   | some o1=>
    rw [ef] at e4;cases o1 with
    | nx δ'=>
     obtain ⟨N,n1,n2⟩:=again δ' e4 (.inl ef);exact ⟨go,N,n1,n2⟩
    | ct δ'=>
     obtain ⟨N,n1,n2⟩:=again δ' e4 (.inr ef);exact ⟨go,N,n1,n2⟩
    | bk δ'=>
     cases e4;refine ⟨go,λ _ _=>False,λ _ _ z=>z.elim,λ x H' y=>?_⟩;obtain ⟨G3,g3,dx⟩:=step x H' y;have I3:=I2.grow g3;refine hg G3 H' δ2 σ2 x _ δ3 _ I3.rl dx e3 λ σ3 R3 o3=>?_;exact hb G3 H0 G3 σ3 H' δ3 _ _ (I3.sub R3 o3).base ef λ σ5 G5 H5 I5=>p σ5 G5 H5 (back g3 I5).1
    | rt d=>
     cases e4;refine ⟨go,λ _ _=>False,λ _ _ z=>z.elim,λ x H' y=>?_⟩;obtain ⟨G3,g3,dx⟩:=step x H' y;have I3:=I2.grow g3;refine hg G3 H' δ2 σ2 x _ δ3 _ I3.rl dx e3 λ σ3 R3 o3=>?_;exact hb G3 H0 G3 σ3 H' δ3 _ _ (I3.sub R3 o3).base ef λ v G5 H5 g5 dv=>p v G5 H5 ((I2.gr.trans g3).rebase g5) dv
 . have hi':i=ds.length:=by omega
   subst hi';rw [SG] at e2;cases e2;exact .inl ⟨ia.2 (QH _),p σ2 G2 H2 I2⟩
instance nz (i:Nat) (δ:DS):Option (List W):=match δ[i]? with
 | some (.own ds)=>some ds
 | _=>none
def pN {i:Nat} {δ:DS} {ds:List W} (h:nz i δ=some ds):δ[i]?=some (.own ds):=by
 unfold nz at h;split at h
 . rename_i e;cases h;exact e
 . cases h
def Iv.put {G0 H0 G H:Hp} {δ:DS} {σ:St} {i:Nat} {ds es:List W} {p:Addr} {vs:List V} (I:Iv K ρ G0 H0 G H δ σ) (h:δ[i]?=some (.own ds)) (hp:σ[i]?=some (some (.ref p))) (g0:G p=none) (da:aE K ρ G vs es):Iv K ρ G0 H0 G (cK H p (.lst vs)) (δ.set i (.own es)) σ:=by
 have h0:=I.ow i p ds h hp;have sG:b0 G (cK H p (.lst vs)):=λ b o e=>by
  rw [aL (λ z=>by rw [z,g0] at e;cases e)];exact I.gr.s _ _ e
 refine ⟨⟨sG,by rw [Sa];exact I.rl.len,λ j s e=>?_,λ j k q ds' es' k1 k2 k3 k4=>?_⟩,⟨I.gr.g,λ b o e=>?_,sG,I.gr.n⟩,λ j q ds' k1 k2=>?_⟩
 . rcases eP e with ⟨rfl,rfl,hl⟩ | ⟨ne,e⟩
   . exact ⟨_,hp,p,vs,rfl,g0,aP,da⟩
   . obtain ⟨o,k1,k2⟩:=I.rl.sl j s e;refine ⟨o,k1,?_⟩;cases s with
     | no=>trivial
     | val d=>exact k2
     | own es2=>
      obtain ⟨q,ws,rfl,e2,e3,e4⟩:=k2;refine ⟨q,ws,rfl,e2,?_,e4⟩;rw [aL]
      . exact e3
      . rintro rfl;exact ne (I.rl.apart i j q ds es2 h e hp k1)
 . rcases eP k1 with ⟨rfl,_,_⟩ | ⟨ne,k1⟩ <;> rcases eP k2 with ⟨rfl,_,_⟩ | ⟨ne2,k2⟩
   . rfl
   . exact I.rl.apart _ _ q _ _ h k2 k3 k4
   . exact I.rl.apart _ _ q _ _ k1 h k3 k4
   . exact I.rl.apart _ _ q _ _ k1 k2 k3 k4
 . rw [aL (λ z=>by rw [z,h0] at e;cases e)];exact I.gr.h _ _ e
 . rcases eP k1 with ⟨rfl,_,_⟩ | ⟨ne,k1⟩
   . exact I.ow _ q _ h k2
   . exact I.ow j q _ k1 k2
instance eU (i:Nat) (f:μ):DS->Option dJ:=λ δ=>(nz i δ).bind λ ds=>(f δ).bind λ d=>if ds.length<sizeLine then some (.nx (δ.set i (.own (ds++[d])))) else none
def q5 {i:Nat} {t:TE} {f:μ} (h:DE K ρ t f):pz K ρ (vA (Kf K "list" om (zh i) (fc t jN))) (eU i f):=λ G0 H0 G σ H δ o D I e p=>by
 obtain ⟨ds,eo,e⟩:=oB e
 obtain ⟨d,ed,e⟩:=oB e
 split at e
 case isFalse=>cases e
 rename_i hz;cases e;have ho:=pN eo;obtain ⟨o,h1,q,vs,rfl,h3,h4,h5⟩:=I.rl.sl i _ ho;refine ⟨.ref q,h1,.inl ⟨rfl,vs,cR.of h4⟩,h G σ H δ d _ I.rl ed λ v G1 H1 g1 dv=>⟨q,vs,v,rfl,rfl,g1.h _ _ h4,by rw [h5.length];exact hz,?_⟩⟩;have I1:=I.grow g1;exact p σ G1 _ (I1.put ho h1 (g1.n q (.l h4) h3) ((h5.same g1.g).app (.cons dv .nil)))
instance sX (i:Nat) (fi fv:μ):DS->Option dJ:=λ δ=>(fv δ).bind λ d=>(nz i δ).bind λ ds=>(fi δ).bind λ x=>match x with
 | .int k=>(vL ds.length k).map λ j=>.nx (δ.set i (.own (ds.set j d)))
 | _=>none
end
section
variable {K:Frag} {ρ:Ξ}
instance jX (K:Frag) (f:List W->Option W):Sp:=λ vs H Q _=>∃ ρ G ds d,b0 G H/\aE K ρ G vs ds/\f ds=some d/\∀ v G' H',Gr G H G' H'->Dw K ρ G' v d->Q v H'
instance aU (f:List W->Option W) (fa:θ):DS->Option W:=λ δ=>(fa δ).bind f
def y3 {f:List W->Option W} {t:TA} {fa:θ} {E:XK} (h:DA K ρ t fa):DE K ρ (qP (jX K f) [] E t) (aU f fa):=λ G σ H δ d Q R e q=>by
 obtain ⟨ds,ed,e⟩:=oB e
 exact h G σ H δ ds _ R ed λ vs G1 H1 g1 da=>by
  refine ⟨ρ,G1,ds,d,g1.s,?_,e,λ v G2 H2 g2 dv=>q v G2 H2 (g1.trans g2) dv⟩;rw [Ra];exact da
instance bM (n:Nat) (ds:List W):DS:=ds.map .val++List.replicate (n-ds.length) .no
instance DY:Option dJ->Option W
 | some (.rt d)=>some d
 | some (.nx _)=>some .none
 | _=>none
instance cn (a n:Nat) (fb:υ):List W->Option W:=λ ds=>if ds.length=a then DY (fb (bM n ds)) else none
def qt {a n:Nat} {fb:υ} {ds:List W} {d:W} (h:cn a n fb ds=some d):ds.length=a:=by
 unfold cn at h;split at h
 . assumption
 . cases h
def Fe {f:List W->Option W} {a:Nat} {vs:List V} {H:Hp} {Q:VK} {E:XK} (hf:∀ ds d,f ds=some d->ds.length=a) (h:jX K f vs H Q E):vs.length=a:=by
 obtain ⟨ρ,G,ds,d,s,da,e,q⟩:=h;rw [da.length];exact hf ds d e
def i8 {n:Nat} {ds:List W} {i:Nat} {es:List W}:(bM n ds)[i]?≠some (.own es):=by
 unfold bM;intro h;rcases Sz i (ds.map Sl.val).length with hl | hl
 . rw [QV hl,Re] at h;obtain ⟨d,_,e⟩:=oM h
   cases e
 . rw [RA hl,getElem?_replicate] at h;split at h <;> cases h
def uJ {G H:Hp} {N:Ω} {vs:List V} {ds:List W} (s:b0 G H) (h:aE K ρ G vs ds):Rl K ρ G H (bM N.length ds) (start N vs):=by
 refine ⟨s,by simp [bM,start,h.length],λ i sl e=>?_,λ i j p ds' es' h1=>absurd h1 i8⟩;unfold bM at e;unfold start;rcases Sz i ds.length with hl | hl
 . rw [QV (by simpa using hl),Re] at e;obtain ⟨d,e1,rfl⟩:=oM e
   obtain ⟨v,h1,h2⟩:=h.get e1;refine ⟨some v,?_,v,rfl,h2⟩;rw [QV (by simp [h.length];exact hl),Re,h1];rfl
 . rw [RA (by simpa using hl),getElem?_replicate] at e;split at e
   . cases e;rename_i hlt;refine ⟨none,?_,trivial⟩;rw [RA (by simp [h.length];exact hl),getElem?_replicate,QF];simp only [Rk] at hlt ⊢;rw [h.length];exact hlt
   . cases e
def Oz {t:TS} {fb:υ} {N:Ω} {a n:Nat} {vs:List V} {H:Hp} {Q:VK} {E:XK} (hn:N.length=n) (h:∀ ρ,pz K ρ t fb) (hsp:jX K (cn a n fb) vs H Q E):t { nx:=λ _ H'=>Q .non H',rt:=Q } (start N vs) H:=by
 subst hn;obtain ⟨ρ,G,ds,d,s,da,e,q⟩:=hsp;have R:=uJ (N:=N) s da;have I:Iv K ρ G H G H (bM N.length ds) (start N vs):=⟨R,.refl s,λ i p ds' h1=>absurd h1 i8⟩
 unfold cn at e;rw [QF (qt (show cn a N.length fb ds=some d from e))] at e;cases ef:fb (bM N.length ds) with
 | none=>rw [ef] at e;cases e
 | some o=>
  rw [ef] at e;refine h ρ G H G _ H _ o _ I ef ?_;cases o with
  | nx δ=>cases e;exact λ σ' G' H' I'=>q _ G' H' I'.gr .non
  | rt d'=>cases e;exact λ v G' H' g dv=>q v G' H' g dv
  | bk _=>cases e
  | ct _=>cases e
end
instance FD (K:Frag):R2:=λ x y H Q=>∃ l b xs zs,x=.ref l/\y=.ref b/\cR K H l xs/\cR K H b zs/\xs.length+zs.length<=sizeLine/\∀ p H',Nw H H' p (.lst (xs++zs))->Q (.ref p) H'
def Ej {X:Cx}:gy X (binaryOp .Add) (FD X.K):=by
 intro pins s σ H x y v u Q I rx ry h;obtain ⟨l,b,xs,zs,rfl,rfl,hH,hB,hz,q⟩:=h;cases rx;cases ry;obtain ⟨its,r,hl,_⟩:=I.list hH;obtain ⟨its2,r2,hb,_⟩:=I.list hB;obtain ⟨⟨cls,dd,data,sl⟩,n,ho,hc,hdd,hd⟩:=hl;obtain ⟨⟨cls2,dd2,data2,sl2⟩,n2,ho2,hc2,hdd2,hd2⟩:=hb;simp only at hc hd hc2 hd2;subst hc hd hc2 hd2;have e:its.toArray++its2.toArray=(its++its2).toArray:=by simp
 refine concat_meets ⟨_,ho,rfl⟩ ⟨_,ho2,rfl⟩ noFill_list_add seq_list_add PySem.F.slot_list_add PySem.F.entry_list_add (PySem.F.args_list_add_2 _ _) (list_addW l b its.toArray its2.toArray n n2 dd dd2 sl sl2 (by rw [QQ,QQ,<-r.length,<-r2.length];exact hz)) ⟨ho,ho2,?_⟩;rw [e];exact ⟨.ref _,_,I.lnew (t':=s.toks) (r.append r2) (by rw [QO];omega),rfl,q _ _ (.of I.fresh)⟩
instance DW:R2:=λ x y H Q=>∃ i j,x=.str i/\y=.str j/\i.length+j.length<=sizeLine/\Q (.str (i++j)) H
instance va (K:Frag):R2:=λ x y H Q=>Af (λ i j=>.int (i+j)) x y H Q∨DW x y H Q∨FD K x y H Q∨Gg K x y H Q
def EJ {X:Cx} {K:Frag} (h:X.K=K):gy X (binaryOp .Add) (va K):=h▸Jt.or (xa.or (Ej.or Dm))
section
variable {K:Frag} {ρ:Ξ}
instance bB:W->W->Option W
 | .int i,.int j=>some (.int (i+j))
 | .str i,.str j=>if i.length+j.length<=sizeLine then some (.str (i++j)) else none
 | .list a,.list b=>if a.length+b.length<=sizeLine then some (.list (a++b)) else none
 | .tuple a,.tuple b=>if a≠[]/\a.length+b.length<=sizeLine then some (.tuple (a++b)) else none
 | _,_=>none
def xr {G H:Hp} {v:V} {i:Int} (h:Pk K ρ G H v (.int i)):v=.int i:=by
 rcases h with h | ⟨_,_,_,_,e,_⟩
 . exact dH h
 . cases e
def rE {G H:Hp} {v:V} {i:Str} (h:Pk K ρ G H v (.str i)):v=.str i:=by
 rcases h with h | ⟨_,_,_,_,e,_⟩
 . exact vT h
 . cases e
def jh {G H:Hp} {v:V} {ds:List W} (s:b0 G H) (h:Pk K ρ G H v (.list ds)):∃ p vs,v=.ref p/\cR K H p vs/\aE K ρ G vs ds:=by
 rcases h with h | ⟨p,vs,es,rfl,e,h1,h2⟩
 . cases h with
   | lst sq da=>exact ⟨_,_,rfl,s.seq sq,da⟩
 . cases e;exact ⟨p,vs,rfl,cR.of h1,h2⟩
def o8 {G:Hp} {v:V} {ds:List W} (h:Dw K ρ G v (.list ds)):∃ p vs,v=.ref p/\cR K G p vs/\aE K ρ G vs ds:=by
 cases h with
 | lst sq da=>exact ⟨_,_,rfl,sq,da⟩
def oS {G:Hp} {v:V} {ds:List W} (h:Dw K ρ G v (.tuple ds)):∃ p vs,v=.ref p/\G p=some (.tup vs)/\aE K ρ G vs ds:=by
 cases h with
 | tup sq da=>exact ⟨_,_,rfl,sq,da⟩
def pM {G H:Hp} {v:V} {ds:List W} (h:Pk K ρ G H v (.tuple ds)):∃ p vs,v=.ref p/\G p=some (.tup vs)/\aE K ρ G vs ds:=by
 rcases h with h | ⟨_,_,_,_,e,_⟩
 . exact oS h
 . cases e
def Bf:DR K ρ (va K) bB:=λ G H x y d e c Q s hx hy hg q=>by
 cases d with
 | int i=>
  cases e with
  | int j=>
   cases hg;cases xr hx;cases dH hy;exact .inl ⟨_,_,rfl,rfl,q _ G H (.refl s) (.int _)⟩
  | _=>cases hg
 | str a=>
  cases e with
  | str b=>
   by_cases hz:a.length+b.length<=sizeLine
   . cases (QF hz).symm.trans hg;cases rE hx;cases vT hy;exact .inr (.inl ⟨_,_,rfl,rfl,hz,q _ G H (.refl s) (.str _)⟩)
   . cases (QS hz).symm.trans hg
  | _=>cases hg
 | list a=>
  cases e with
  | list b=>
   by_cases hz:a.length+b.length<=sizeLine
   . cases (QF hz).symm.trans hg;obtain ⟨p,vs,rfl,sq,da⟩:=jh s hx;obtain ⟨p2,vs2,rfl,sq2,da2⟩:=o8 hy;refine .inr (.inr (.inl ⟨p,p2,vs,vs2,rfl,rfl,sq,s.seq sq2,by rw [da.length,da2.length];exact hz,λ l H' n=>?_⟩));have g:=Gr.nw s n;exact q _ _ H' g (.lst (cR.of aP) ((da.same g.g).app (da2.same g.g)))
   . cases (QS hz).symm.trans hg
  | _=>cases hg
 | tuple a=>
  cases e with
  | tuple b=>
   by_cases hz:a≠[]/\a.length+b.length<=sizeLine
   . cases (QF hz).symm.trans hg;obtain ⟨p,vs,rfl,sq,da⟩:=pM hx;obtain ⟨p2,vs2,rfl,sq2,da2⟩:=oS hy;refine .inr (.inr (.inr ⟨p,p2,vs,vs2,rfl,rfl,s.tup (fg.of sq),s.tup (fg.of sq2),?_,by rw [da.length,da2.length];exact hz.2,λ e=>?_,λ e l hl=>?_⟩))
     . rintro rfl;cases da;exact hz.1 rfl
     . subst e;cases da2;rw [Ra] at q;exact q _ G H (.refl s) (.tup sq da)
     . have g:=Gr.nw s (Nw.of (o:=.tup (vs++vs2)) hl);exact q _ _ _ g (.tup aP ((da.same g.g).app (da2.same g.g)))
   . cases (QS hz).symm.trans hg
  | _=>cases hg
 | _=>cases hg
instance Gf:W->W->Option (List W)
 | .list a,.list b=>if a.length+b.length<=sizeLine then some (a++b) else none
 | _,_=>none
instance nB (fa fb:μ):DS->Option (List W):=λ δ=>(fa δ).bind λ x=>(fb δ).bind λ y=>Gf x y
def Jx {ta tb:TE} {fa fb:μ} (ha:DK K ρ ta fa) (hb:DK K ρ tb fb):DO K ρ (qH (va K) ta tb) (nB fa fb):=λ G σ H δ ds Q R e q=>by
 obtain ⟨x,ex,e⟩:=oB e
 obtain ⟨y,ey,e⟩:=oB e
 refine ha G σ H δ x _ R ex λ v G1 H1 g1 dv=>hb G1 σ H1 δ y _ (R.grow g1) ey λ u G2 H2 g2 du=>?_;unfold Gf at e;split at e
 . split at e
   . rename_i hz;cases e;obtain ⟨p,vs,rfl,sq,da⟩:=jh g2.s (dv.grow g2);obtain ⟨p2,vs2,rfl,sq2,da2⟩:=jh g2.s du;refine .inr (.inr (.inl ⟨p,p2,vs,vs2,rfl,rfl,sq,sq2,by rw [da.length,da2.length];exact hz,λ l H' n=>?_⟩));have g12:=g1.trans g2;exact q l _ G2 H' (g12.trans (.nwO g2.s n)) (cZ g12.h n.2.1) (cZ g2.s n.2.1) n.2.2 (da.app da2)
   . cases e
 . cases e
instance gI (f:Int->Int->Int):W->W->Option W
 | .int i,.int j=>some (.int (f i j))
 | _,_=>none
instance EB (C:Int->Int->Bool) (f:Int->Int->Int):W->W->Option W
 | .int i,.int j=>if C i j=true then some (.int (f i j)) else none
 | _,_=>none
def Lp {f:Int->Int->Int}:DR K ρ (Af λ i j=>.int (f i j)) (gI f):=λ G H x y d e c Q s hx hy hg q=>by
 unfold gI at hg;split at hg
 . cases hg;cases xr hx;cases dH hy;exact ⟨_,_,rfl,rfl,q _ G H (.refl s) (.int _)⟩
 . cases hg
def xH {C:Int->Int->Prop} {Cb:Int->Int->Bool} {f:Int->Int->Int} (hC:∀ i j,Cb i j=true->C i j):DR K ρ (rI C λ i j=>.int (f i j)) (EB Cb f):=λ G H x y d e c Q s hx hy hg q=>by
 unfold EB at hg;split at hg
 . split at hg
   . rename_i hc;cases hg;cases xr hx;cases dH hy;exact ⟨_,_,rfl,rfl,hC _ _ hc,q _ G H (.refl s) (.int _)⟩
   . cases hg
 . cases hg
instance gSub':W->W->Option W:=gI λ i j=>i-j
def Jn:DR K ρ (Af λ i j=>.int (i-j)) gSub':=Lp
def wS:2^200<2^512:=Nat.pow_lt_pow_right (by decide) (by decide)
instance lh (i j:Int):Bool:=decide (i.natAbs<2^64)||decide (j.natAbs<2^64)||(decide (i.natAbs<2^200)&&decide (j.natAbs<2^200))
instance Gc (i j:Int):Prop:=E6 i j∨FB i j
def MZ {X:Cx}:gy X (binaryOp .Mult) (rI Gc λ i j=>.int (i*j)):=λ pins s σ H x y v u Q I rx ry h=>by
 obtain ⟨i,j,e1,e2,hc,q⟩:=h;rcases hc with hc | hc
 . exact IG pins s σ H x y v u Q I rx ry ⟨i,j,e1,e2,hc,q⟩
 . exact Eh pins s σ H x y v u Q I rx ry ⟨i,j,e1,e2,hc,q⟩
instance uM (i j:Int):Bool:=decide (j≠0)&&decide (j.natAbs<2^200)
instance lq (i j:Int):Bool:=decide (j≠0)
instance lW:W->W->Option W:=EB lh λ i j=>i*j
instance cE:W->W->Option W:=EB uM λ i j=>i.fdiv j
instance bQ:W->W->Option W:=EB lq λ i j=>i.fmod j
def IL:DR K ρ (rI Gc λ i j=>.int (i*j)) lW:=xH λ i j h=>by
 simp only [lh,Rb,SK,Ri] at h;rcases h with (h | h) | h
 . exact .inl (.inl ⟨by omega,by omega⟩)
 . exact .inl (.inr ⟨by omega,by omega⟩)
 . exact .inr ⟨So h.1 wS,So h.2 wS⟩
def JO:DR K ρ (rI FI λ i j=>.int (i.fdiv j)) cE:=xH λ i j h=>by
 simp only [uM,Rb,Ri] at h;exact ⟨h.1,So h.2 wS⟩
def JR:DR K ρ (rI (λ _ j=>j≠0) λ i j=>.int (i.fmod j)) bQ:=xH λ i j h=>by simpa [lq] using h
instance nK:W->Option W
 | .int i=>some (.int (-i))
 | _=>none
instance Di (g:W->Option W) (f:μ):DS->Option W:=λ δ=>(f δ).bind g
def IW {t:TE} {f:μ} (h:DE K ρ t f):DE K ρ (PN (rU λ i=>.int (-i)) t) (Di nK f):=λ G σ H δ d Q R e q=>by
 obtain ⟨x,ex,e⟩:=oB e
 refine h G σ H δ x _ R ex λ v G1 H1 g1 dv=>?_;unfold nK at e;split at e
 . cases e;cases dH dv;exact ⟨_,rfl,q _ G1 H1 g1 (.int _)⟩
 . cases e
instance cI (p:Int->Int->Bool):W->W->Option Bool
 | .int i,.int j=>some (p i j)
 | _,_=>none
def Ko {p:Int->Int->Bool}:DB K ρ (Af λ i j=>.bl (p i j)) (cI p):=λ H x y d e b Q hx hy hg q=>by
 unfold cI at hg;split at hg
 . cases hg;cases dH hx;cases dH hy;exact ⟨_,_,rfl,rfl,q⟩
 . cases hg
instance tZ:W->W->Option Bool:=cI λ i j=>decide (i<j)
instance Qv:W->W->Option Bool:=cI λ i j=>decide (i<=j)
instance Qp:W->W->Option Bool:=cI λ i j=>decide (j<i)
instance MW:W->W->Option Bool:=cI λ i j=>decide (j<=i)
def Mh:DB K ρ (Af λ i j=>.bl (decide (i<j))) tZ:=Ko
def Kp:DB K ρ (Af λ i j=>.bl (decide (j<=i))) MW:=Ko
instance Kk:W->Bool
 | .none=>true
 | _=>false
instance p7:W->W->Option Bool
 | d,.none=>some (Kk d)
 | _,_=>none
def y9 {H:Hp} {x:V} {d:W} (h:Dw K ρ H x d):decide (x=.non)=Kk d:=by
 cases h <;> simp [Kk]
def HC:DB K ρ (λ x y H Q=>y=.non/\Q (.bl (decide (x=.non))) H) p7:=λ H x y d e b Q hx hy hg q=>by
 unfold p7 at hg;split at hg
 . cases hg;cases wq hy;exact ⟨rfl,by rw [y9 hx];exact q⟩
 . cases hg
instance fL:W->W->Option Bool
 | d,.none=>some (!(Kk d))
 | _,_=>none
def Fm:DB K ρ (λ x y H Q=>y=.non/\Q (.bl (!decide (x=.non))) H) fL:=λ H x y d e b Q hx hy hg q=>by
 unfold fL at hg;split at hg
 . cases hg;cases wq hy;exact ⟨rfl,by rw [y9 hx];exact q⟩
 . cases hg
instance Qh:W->Option Bool
 | .none=>some true
 | .int _=>some false
 | .bool _=>some false
 | .str _=>some false
 | _=>none
instance PY (i:Int):W->Option Bool
 | .none=>some false
 | .int j=>some (decide (i=j))
 | .str _=>some false
 | _=>none
instance PZ (i:Bool):W->Option Bool
 | .none=>some false
 | .bool j=>some (decide (i=j))
 | .str _=>some false
 | _=>none
instance Qy (i:Str):W->Option Bool
 | .none=>some false
 | .int _=>some false
 | .bool _=>some false
 | .str j=>some (decide (i=j))
 | _=>none
instance JV:W->W->Option Bool
 | .none,e=>Qh e
 | .int i,e=>PY i e
 | .bool i,e=>PZ i e
 | .str i,e=>Qy i e
 | _,_=>none
def wV {H:Hp} {x y:V} {d e:W} {b:Bool} (hx:Dw K ρ H x d) (hy:Dw K ρ H y e) (h:JV d e=some b):Hk x y=true/\decide (x=y)=b:=by
 cases hx with
 | non=>cases hy <;> first | (cases h;exact ⟨rfl,by simp⟩) | cases h
 | int i=>cases hy <;> first | (cases h;exact ⟨rfl,by simp⟩) | cases h
 | bl i=>cases hy <;> first | (cases h;exact ⟨rfl,by simp⟩) | cases h
 | str i=>cases hy <;> first | (cases h;exact ⟨rfl,by simp⟩) | cases h
 | _=>cases h
instance bp (d e:W):Option Bool:=match JV d e with
 | some b=>some b
 | none=>d.py.bind λ a=>e.py.bind λ b=>if (a.canLay0&&b.canLay0&&decide (a.depth<=64))=true then some (PyData.eqv a b) else none
instance JT (K:Frag):R2:=λ x y H Q=>Pa x y H Q∨E8 K false x y H Q
instance Hy (K:Frag):R2:=λ x y H Q=>Pw x y H Q∨E8 K true x y H Q
def OA {X:Cx} {K:Frag} (h:X.K=K) (hu:X.A.units+64<cLine):gy X (compareOp .Eq) (JT K):=h▸Kt.or (JC hu)
def Ow {X:Cx} {K:Frag} (h:X.K=K) (hu:X.A.units+64<cLine):gy X (compareOp .NotEq) (Hy K):=h▸L9.or (I9 hu)
def Mp:DB K ρ (JT K) bp:=λ H x y d e b Q hx hy hg q=>by
 unfold bp at hg;split at hg
 . rename_i b' hb;cases hg;obtain ⟨h1,h2⟩:=wV hx hy hb;exact .inl ⟨h1,by rw [h2];exact q⟩
 . obtain ⟨a,ea,hg⟩:=oB hg
   obtain ⟨b,eb,hg⟩:=oB hg
   split at hg
   . rename_i hc;cases hg;simp only [Rb,Ri] at hc;exact .inr ⟨a,b,hx.dp ea,hy.dp eb,hc.1.1,hc.1.2,hc.2,q⟩
   . cases hg
instance rS (d e:W):Option Bool:=(bp d e).map (!·)
def GG:DB K ρ (Hy K) rS:=λ H x y d e b Q hx hy hg q=>by
 obtain ⟨c,hg',rfl⟩:=oM hg
 unfold bp at hg';split at hg'
 . rename_i b' hb;cases hg';obtain ⟨h1,h2⟩:=wV hx hy hb;exact .inl ⟨h1,by rw [h2];exact q⟩
 . obtain ⟨a,ea,hg'⟩:=oB hg'
   obtain ⟨b,eb,hg'⟩:=oB hg'
   split at hg'
   . rename_i hc;cases hg';simp only [Rb,Ri] at hc;exact .inr ⟨a,b,hx.dp ea,hy.dp eb,hc.1.1,hc.1.2,hc.2,q⟩
   . cases hg'
instance aI:W->W->Option W
 | .list ds,.int i=>gz ds i
 | .tuple ds,.int i=>gz ds i
 | .str z,.int i=>if z.length<=sizeLine then (gz z.cps.toList i).map λ c=>.str ⟨#[c]⟩ else none
 | _,_=>none
def aE.at {G:Hp} {vs:List V} {ds:List W} {i:Int} {d:W} (h:aE K ρ G vs ds) (e:gz ds i=some d):∃ v,gz vs i=some v/\Dw K ρ G v d:=by
 unfold gz at e ⊢;rw [h.length];obtain ⟨j,h1,h2⟩:=oB e
 obtain ⟨v,h3,h4⟩:=h.get h2;exact ⟨v,Option.bind_eq_some_iff.mpr ⟨j,h1,h3⟩,h4⟩
def y7:DR K ρ (N1 K) aI:=λ G H x y d e c Q s hx hy hg q=>by
 cases e with
 | int i=>
  cases dH hy;cases d with
  | list ds=>
   obtain ⟨p,vs,rfl,sq,da⟩:=jh s hx;obtain ⟨v,h1,h2⟩:=da.at hg;exact .inl ⟨p,vs,_,v,rfl,rfl,sq,h1,q v G H (.refl s) h2⟩
  | tuple ds=>
   obtain ⟨p,vs,rfl,sq,da⟩:=pM hx;obtain ⟨v,h1,h2⟩:=da.at hg;exact .inr (.inl ⟨p,vs,_,v,rfl,rfl,s.tup (fg.of sq),h1,q v G H (.refl s) h2⟩)
  | str z=>
   by_cases hz:z.length<=sizeLine
   . obtain ⟨c',h1,rfl⟩:=oM ((QF hz).symm.trans hg)
     cases rE hx;exact .inr (.inr ⟨_,_,c',rfl,rfl,hz,h1,q _ G H (.refl s) (.str _)⟩)
   . cases (QS hz).symm.trans hg
  | _=>cases hg
 | _=>cases d <;> cases hg
instance iV (xs:List W) (lo hi:Option Int):List W:=(xs.drop (HT.sIx xs.length 0 lo)).take (HT.sIx xs.length xs.length hi-HT.sIx xs.length 0 lo)
def aE.cut {G:Hp} {vs:List V} {ds:List W} (h:aE K ρ G vs ds) (lo hi:Option Int):aE K ρ G (qk vs lo hi) (iV ds lo hi):=by
 unfold qk iV;rw [h.length];exact (h.drop _).take _
instance EQ (K:Frag) (ρ:Ξ) (t:TO) (f:DS->Option (Option Int)):Prop:=
 ∀ (G:Hp) (σ:St) (H:Hp) (δ:DS) (x:Option Int) (Q:Option Int->Hp->Prop),Rl K ρ G H δ σ->f δ=some x->(∀ G' H',Gr G H G' H'->Q x H')->t σ H Q
instance dD:DS->Option (Option Int):=λ _=>some none
instance Kl:W->Option Int
 | .int i=>some i
 | _=>none
def rV {d:W} {i:Int} (h:Kl d=some i):d=.int i:=by
 cases d <;> first | (cases h;rfl) | cases h
instance eW (f:μ):DS->Option (Option Int):=λ δ=>(f δ).bind λ d=>(Kl d).map some
def uN:EQ K ρ ym dD:=λ G σ H δ x Q R e q=>by
 cases e;exact q G H (.refl R.sub)
def vb {t:TE} {f:μ} (h:DE K ρ t f):EQ K ρ (FS t) (eW f):=λ G σ H δ x Q R e q=>by
 obtain ⟨d,ed,e⟩:=oB e
 obtain ⟨i,ei,rfl⟩:=oM e
 cases rV ei;exact h G σ H δ _ _ R ed λ v G1 H1 g1 dv=>by
  cases dH dv;exact ⟨i,rfl,q G1 H1 g1⟩
instance iR:W->Option (List W)
 | .list ds=>some ds
 | _=>none
def gO {d:W} {ds:List W} (h:iR d=some ds):d=.list ds:=by
 cases d <;> first | (cases h;rfl) | cases h
instance D3 (f:μ) (lo hi:DS->Option (Option Int)):DS->Option (List W):=λ δ=>(f δ).bind λ d=>(iR d).bind λ ds=>(lo δ).bind λ l=>(hi δ).map λ u=>iV ds l u
def Iu {t:TE} {tl th:TO} {f:μ} {lo hi:DS->Option (Option Int)} (h:DK K ρ t f) (hl:EQ K ρ tl lo) (hh:EQ K ρ th hi):DO K ρ (Nu (Gv K) t tl th) (D3 f lo hi):=λ G σ H δ ds Q R e q=>by
 obtain ⟨d,ed,e⟩:=oB e
 obtain ⟨es,ee,e⟩:=oB e
 obtain ⟨l,el,e⟩:=oB e
 obtain ⟨u,eu,rfl⟩:=oM e
 cases gO ee;refine h G σ H δ _ _ R ed λ v G1 H1 g1 dv=>hl G1 σ H1 δ l _ (R.grow g1) el λ G2 H2 g2=>hh G2 σ H2 δ u _ ((R.grow g1).grow g2) eu λ G3 H3 g3=>?_;have g23:=g2.trans g3;obtain ⟨p,vs,rfl,sq,da⟩:=jh g23.s (dv.grow g23);refine ⟨p,vs,rfl,sq,λ r H' n=>?_⟩;have g:=g1.trans g23;exact q r _ G3 H' (g.trans (.nwO g.s n)) (cZ g.h n.2.1) (cZ g.s n.2.1) n.2.2 (da.cut l u)
instance K8 (K:Frag) (ρ:Ξ) (r:List V->Hp->VK->Prop) (g:W->Option W):Prop:=
 ∀ (G H:Hp) (x:V) (d c:W) (Q:VK),b0 G H->Pk K ρ G H x d->g d=some c->(∀ v G' H',Gr G H G' H'->Dw K ρ G' v c->Q v H')->r [x] H Q
instance nG (g:W->Option W) (f:μ):DS->Option W:=λ δ=>(f δ).bind g
def LD {r:List V->Hp->VK->Prop} {g:W->Option W} {t:TE} {f:μ} (hr:K8 K ρ r g) (h:DK K ρ t f):DE K ρ (xK r (fc t jN)) (nG g f):=λ G σ H δ d Q R e q=>by
 obtain ⟨x,ex,e⟩:=oB e
 exact h G σ H δ x _ R ex λ v G1 H1 g1 dv=>hr G1 H1 v x d Q g1.s dv e λ u G2 H2 g2 du=>q u G2 H2 (g1.trans g2) du
instance xY (K:Frag):List V->Hp->VK->Prop:=λ xs H Q=>MF K xs H Q∨FC xs H Q
def yQ {X:Cx} {K:Frag} (h:X.K=K):cV X (.builtin "len") (xY K):=(qf h).or qa
instance gP:W->Option W
 | .list ds=>some (.int ds.length)
 | .tuple ds=>some (.int ds.length)
 | .str z=>if z.length<=sizeLine then some (.int z.length) else none
 | _=>none
def Bb:K8 K ρ (xY K) gP:=λ G H x d c Q s hx hg q=>by
 unfold gP at hg;split at hg
 . cases hg;obtain ⟨p,vs,rfl,sq,da⟩:=jh s hx;exact .inl ⟨p,vs,rfl,.inl sq,by rw [da.length];exact q _ G H (.refl s) (.int _)⟩
 . cases hg;obtain ⟨p,vs,rfl,sq,da⟩:=pM hx;exact .inl ⟨p,vs,rfl,.inr (s.tup (fg.of sq)),by rw [da.length];exact q _ G H (.refl s) (.int _)⟩
 . split at hg
   . rename_i hz;cases hg;cases rE hx;exact .inr ⟨_,rfl,hz,q _ G H (.refl s) (.int _)⟩
   . cases hg
 . cases hg
instance iE (f:μ):DS->Option (List W):=λ δ=>(f δ).bind rq
def Ef {t:TE} {f:μ} (h:DK K ρ t f):DO K ρ (xK (rH K) (fc t jN)) (iE f):=λ G σ H δ ds Q R e q=>by
 obtain ⟨x,ex,e⟩:=oB e
 refine h G σ H δ x _ R ex λ v G1 H1 g1 dv=>?_;have fin:∀ (vs:List V) (l:Addr),aE K ρ G1 vs ds->H1 l=none->Q (.ref l) (cK H1 l (.lst vs)):=λ vs l da hl=>by
  have n:Nw H1 (cK H1 l (.lst vs)) l (.lst vs):=.of hl;exact q l vs G1 _ (g1.trans (.nwO g1.s n)) (cZ g1.h hl) (cZ g1.s hl) aP da
 unfold rq at e;split at e
 . cases e;obtain ⟨p,vs,rfl,sq,da⟩:=jh g1.s dv;exact ⟨p,vs,rfl,.inl sq,λ l hl=>fin vs l da hl⟩
 . cases e;obtain ⟨p,vs,rfl,sq,da⟩:=pM dv;exact ⟨p,vs,rfl,.inr (g1.s.tup (fg.of sq)),λ l hl=>fin vs l da hl⟩
 . cases e
instance mF (T:String):W->Option W
 | .int i=>(CY (.int i) T).map .bool
 | .bool i=>(CY (.bl i) T).map .bool
 | .str i=>(CY (.str i) T).map .bool
 | _=>none
def GZ {T:String} {t:TE} {f:μ} (h:DE K ρ t f):DE K ρ (xK D4 (fc t (fc (tC (.ty T)) jN))) (nG (mF T) f):=λ G σ H δ d Q R e q=>by
 obtain ⟨x,ex,e⟩:=oB e
 refine h G σ H δ x _ R ex λ v G1 H1 g1 dv=>?_;unfold mF at e;split at e;all_goals first
  | cases e
  | (obtain ⟨k,ek,rfl⟩:=oM e
     cases dv;exact ⟨_,T,k,rfl,ek,q _ G1 H1 g1 (.bl k)⟩)
def xS {i:Nat} {te ti:TE} {fv fi:μ} (hv:DE K ρ te fv) (hi:DE K ρ ti fi):pz K ρ (pU te (DU (zh i) ti xX)) (sX i fi fv):=λ G0 H0 G σ H δ o D I e p=>by
 obtain ⟨d,ed,e⟩:=oB e
 obtain ⟨ds,eo,e⟩:=oB e
 obtain ⟨x,ex,e⟩:=oB e
 have ho:=pN eo;refine hv G σ H δ d _ I.rl ed λ v G1 H1 g1 dv=>?_;have I1:=I.grow g1;obtain ⟨o',h1,q,vs,rfl,h3,h4,h5⟩:=I1.rl.sl i _ ho;refine ⟨.ref q,h1,hi G1 σ H1 δ x _ I1.rl ex λ u G2 H2 g2 du=>?_⟩;have I2:=I1.grow g2;split at e
 . obtain ⟨j,ej,rfl⟩:=oM e
   cases dH du;exact ⟨q,vs,_,j,rfl,rfl,g2.h _ _ h4,by rw [h5.length];exact ej,p σ G2 _ (I2.put ho h1 (g2.n q (.l h4) h3) (aE.set (dv.same g2.g) j (h5.same g2.g)))⟩
 . cases e
end
section
variable {X:Cx} {tg:Expr}
end
section
variable {K:Frag} {ρ:Ξ}
end
section
variable {X:Cx}
end
section
variable {K:Frag} {ρ:Ξ}
end
def HG (i j:Int):bB (.int i) (.int j)=some (.int (i+j)):=rfl
def fI {a b:List W} (h:a.length+b.length<=sizeLine):bB (.list a) (.list b)=some (.list (a++b)):=QF h
def wJ {a b:Str} (h:a.length+b.length<=sizeLine):bB (.str a) (.str b)=some (.str (a++b)):=QF h
def HI (i j:Int):gSub' (.int i) (.int j)=some (.int (i-j)):=rfl
def o6 {i j:Int} (h:lh i j=true):lW (.int i) (.int j)=some (.int (i*j)):=by simp only [lW,EB,QF h]
def wY {i j:Int} (h:uM i j=true):cE (.int i) (.int j)=some (.int (i.fdiv j)):=by simp only [cE,EB,QF h]
def pw {i j:Int} (h:lq i j=true):bQ (.int i) (.int j)=some (.int (i.fmod j)):=by simp only [bQ,EB,QF h]
def IQ (i:Int):nK (.int i)=some (.int (-i)):=rfl
def rN {i j:Int} (h1 : -(2^64)<i) (h2:i<2^64):lh i j=true:=by
 simp only [lh,Rb,SK,Ri];exact .inl (.inl (by omega))
def D1 {i j:Int} (h1 : -(2^64)<j) (h2:j<2^64):lh i j=true:=by
 simp only [lh,Rb,SK,Ri];exact .inl (.inr (by omega))
def pL {i j:Int} (h1:0<j) (h2:j<2^64):uM i j=true:=by
 have e:(2:Nat)^64<2^200:=Nat.pow_lt_pow_right (by decide) (by decide);simp only [uM,Rb,Ri];exact ⟨by omega,So (by omega) e⟩
def Cj {i j:Int} (h:j≠0):lq i j=true:=by simp [lq,h]
def Jd (i:Int) {j:Int} (h1:0<j) (h2:j<2^64):cE (.int i) (.int j)=some (.int (i.fdiv j)):=wY (pL h1 h2)
def CB (i:Int) {j:Int} (h1:j≠0):bQ (.int i) (.int j)=some (.int (i.fmod j)):=pw (Cj h1)
def jb (b:Bool):Bu (.bool b)=some b:=rfl
def C9 (i:Int):Kl (.int i)=some i:=rfl
def jD (ds:List W):iR (.list ds)=some ds:=rfl
def Jv (ds:List W):rq (.list ds)=some ds:=rfl
def I0 (ds:List W):rq (.tuple ds)=some ds:=rfl
def Jm (ds:List W):gP (.list ds)=some (.int ds.length):=rfl
def HK (ds:List W):gP (.tuple ds)=some (.int ds.length):=rfl
def Gb (ds:List W) (i:Int):aI (.list ds) (.int i)=gz ds i:=rfl
def pC (ds:List W) (i:Int):aI (.tuple ds) (.int i)=gz ds i:=rfl
def LR (i j:Int):bp (.int i) (.int j)=some (decide (i=j)):=rfl
def MO (i j:Str):bp (.str i) (.str j)=some (decide (i=j)):=rfl
def LU (i j:Bool):bp (.bool i) (.bool j)=some (decide (i=j)):=rfl
def Li (i j:Int):rS (.int i) (.int j)=some (!decide (i=j)):=rfl
def yj (i j:Str):rS (.str i) (.str j)=some (!decide (i=j)):=rfl
def LZ (i j:Int):tZ (.int i) (.int j)=some (decide (i<j)):=rfl
def MI (i j:Int):Qv (.int i) (.int j)=some (decide (i<=j)):=rfl
def Kv (i j:Int):Qp (.int i) (.int j)=some (decide (j<i)):=rfl
def L6 (i j:Int):MW (.int i) (.int j)=some (decide (j<=i)):=rfl
def El (i:Int):fL (.int i) .none=some true:=rfl
def Fo:fL .none .none=some false:=rfl
def EM (i:Str):fL (.str i) .none=some true:=rfl
def Ft (i:List W):fL (.list i) .none=some true:=rfl
def Eb (i:List W):fL (.tuple i) .none=some true:=rfl
def HV (i:Int):p7 (.int i) .none=some false:=rfl
def H9:p7 .none .none=some true:=rfl
def JW (i:Str):p7 (.str i) .none=some false:=rfl
def J6 (i:List W):p7 (.list i) .none=some false:=rfl
def IP (i:List W):p7 (.tuple i) .none=some false:=rfl
def ES (i:Int):mF "int" (.int i)=some (.bool true):=rfl
def Db (i:Int):mF "bool" (.int i)=some (.bool false):=rfl
def D9 (i:Str):mF "str" (.str i)=some (.bool true):=rfl
def ao {f g:υ} {δ δ1:DS} {o:Option dJ} (h1:f δ=some (.nx δ1)) (h2:g δ1=o):aF f g δ=o:=by
 unfold aF;rw [h1];exact h2
def aZ {a n:Nat} {fb:υ} {ds:List W} {d:W} (hl:ds.length=a) (h:fb (bM n ds)=some (.rt d)):cn a n fb ds=some d:=by
 unfold cn;rw [QF hl,h];rfl
def fP {fi:θ} {h:η} {fb:υ} {δ:DS} {ds:List W} {o:Option dJ} (h1:fi δ=some ds) (h2:bz h fb ds δ=o):gY fi h fb δ=o:=by
 unfold gY;rw [h1];exact h2
def aQ {f:μ} {h:η} {δ δ':DS} {d:W} (h1:f δ=some d) (h2:h d δ=some δ'):aG f h δ=some (.nx δ'):=by
 unfold aG;rw [h1];show (h d δ).map dJ.nx=_;rw [h2];rfl
def bq {f:μ} {δ:DS} {d:W} (h1:f δ=some d):aN f δ=some (.rt d):=by
 unfold aN;rw [h1];rfl
def aJ {c:DS->Option Bool} {f g:υ} {δ:DS} {b:Bool} {o:Option dJ} (h1:c δ=some b) (h2:(if b=true then f δ else g δ)=o):ci c f g δ=o:=by
 unfold ci;rw [h1];exact h2
def yB {n:Nat} (hn:n<=16777216):yY (n:Int)=some (eZ 0 n):=by
 unfold yY;rw [QF (zO hn),toNat_natCast]
def gS {f:θ} {δ:DS} {n:Nat} (h:f δ=some [.int n]) (hn:n<=16777216):jW f δ=some (eZ 0 n):=by
 unfold jW;rw [h,QC];exact yB hn
def BQ {K:Frag} {g:List W->Option W} {vs:List V} {H:Hp} {Q:VK} {E:XK} (hg:∀ ds,g ds=none) (h:jX K g vs H Q E):False:=by
 obtain ⟨ρ,G,ds,d,_,_,e,_⟩:=h;rw [hg] at e;cases e
def fF.no {P:Program} {w:World} {K:Frag} {mg:Θ} {base:Heap} {CX:w9} {k:Nat} {f:Addr} {fd:FuncData} {ps:Ω} {g:List W->Option W} (hg:∀ ds,g ds=none):fF P w K mg base CX k f fd ps (jX K g):=
 ⟨λ _ _ _ _ h=>(BQ hg h).elim,λ _ _ _ _ _ _ _ _ _ _ _ _ _ h=>(BQ hg h).elim⟩
inductive Ob where
 | lst (ds:List W)
 | dK (kvs:List (aB×W))
 | dT (kvs:ν)
 | dN (kvs:ν)
 | ins (c:Str) (fs:List (Str×W))
noncomputable abbrev ak:=List Ob
inductive jC (K:Frag) (ρ:Ξ) (G:Hp) {κ:Type}:List (κ×W)->List (κ×V)->Prop
 | nil:jC K ρ G [] []
 | cons {k:κ} {d:W} {v:V} {l:List (κ×W)} {m:List (κ×V)}:Dw K ρ G v d->jC K ρ G l m->jC K ρ G ((k,d)::l) ((k,v)::m)
instance BC (K:Frag) (ρ:Ξ) (cl:Str->Addr) (G H:Hp) (a:Addr):Ob->Prop
 | .lst ds=>∃ vs,H a=some (.lst vs)/\aE K ρ G vs ds
 | .dK kvs=>∃ ws,H a=some (.dK ws)/\jC K ρ G kvs ws
 | .dT kvs=>∃ ws,H a=some (.dT ws)/\jC K ρ G kvs ws
 | .dN kvs=>∃ ws,H a=some (.dN ws)/\jC K ρ G kvs ws
 | .ins c fs=>∃ dx ws,H a=some (.ins (cl c) dx ws)/\G dx=none/\H dx=some (.own a)/\jC K ρ G fs ws
def Dr {ρ ρ':Ξ} (h:ρ <+: ρ') (n:Nat) (a:Addr) (e:ρ[n]?=some a):ρ'[n]?=some a:=by
 obtain ⟨t,rfl⟩:=h;rw [QV (oG e).1];exact e
def Dw.ext {K:Frag} {ρ ρ':Ξ} {G:Hp} (h:ρ <+: ρ') {v:V} {d:W} (q:Dw K ρ G v d):Dw K ρ' G v d:=q.mapG (λ _ _ q=>q) (λ _ _ q=>q) (Dr h)
def aE.ext {K:Frag} {ρ ρ':Ξ} {G:Hp} (h:ρ <+: ρ') {vs:List V} {ds:List W} (q:aE K ρ G vs ds):aE K ρ' G vs ds:=q.mapA λ _ _ a=>a.ext h
def jC.ext {K:Frag} {ρ ρ':Ξ} {G G':Hp} {κ:Type} (h:ρ <+: ρ') (g:b0 G G') {l:List (κ×W)} {m:List (κ×V)} (q:jC K ρ G l m):jC K ρ' G' l m:=by
 induction q with
 | nil=>exact .nil
 | cons a _ ih=>exact .cons ((a.ext h).same g) ih
def jC.lookup {K:Frag} {ρ:Ξ} {G:Hp} {κ:Type} [BEq κ] {k:κ} {l:List (κ×W)} {m:List (κ×V)} {d:W} (q:jC K ρ G l m):l.lookup k=some d->∃ v,m.lookup k=some v/\Dw K ρ G v d:=by
 induction q with
 | nil=>exact λ e=>by cases e
 | @cons j d v l m a _ ih=>
  intro e;simp only [List.lookup] at e ⊢;split at e
  . cases e;exact ⟨_,rfl,a⟩
  . exact ih e
def jC.lookup_none {K:Frag} {ρ:Ξ} {G:Hp} {κ:Type} [BEq κ] {k:κ} {l:List (κ×W)} {m:List (κ×V)} (q:jC K ρ G l m):l.lookup k=none->m.lookup k=none:=by
 induction q with
 | nil=>exact λ _=>rfl
 | @cons j d v l m a _ ih=>
  intro e;simp only [List.lookup] at e ⊢;split at e
  . cases e
  . exact ih e
def jC.length {K:Frag} {ρ:Ξ} {G:Hp} {κ:Type} {l:List (κ×W)} {m:List (κ×V)} (q:jC K ρ G l m):l.length=m.length:=by
 induction q with
 | nil=>rfl
 | cons _ _ ih=>exact Q9 (· + 1) ih
instance zI (f:Str) (v:W):List (Str×W)->List (Str×W)
 | []=>[(f,v)]
 | (g,x)::r=>if g=f then (g,v)::r else (g,x)::zI f v r
def jC.putF {K:Frag} {ρ:Ξ} {G:Hp} {f:Str} {v:V} {d:W} (h:Dw K ρ G v d) {l:List (Str×W)} {m:List (Str×V)} (q:jC K ρ G l m):jC K ρ G (zI f d l) (putF f v m):=by
 induction q with
 | nil=>exact .cons h .nil
 | cons a b ih=>
  unfold zI L2.putF;split
  . exact .cons h b
  . exact .cons a ih
structure SR (K:Frag) (ρ:Ξ) (cl:Str->Addr) (G H:Hp) (S:ak):Prop where
 len:ρ.length=S.length
 nd:ρ.Nodup
 ob:∀ (n:Nat) o,S[n]?=some o->∃ a,ρ[n]?=some a/\G a=none/\BC K ρ cl G H a o
structure GS (ρ:Ξ) (G H:Hp) (ρ':Ξ) (G' H':Hp):Prop where
 r:ρ <+: ρ'
 g:b0 G G'
 s:b0 G' H'
 h:∀ b o,b∉ρ->H b=some o->H' b=some o
 k:∀ b,H b≠none->H' b≠none
 n:∀ b,nT H b->G b=none->G' b=none
 f:∀ a,a∈ρ'->a∉ρ->H a=none
 t:∀ b,nT H b->nT H' b
def GS.refl {ρ:Ξ} {G H:Hp} (s:b0 G H):GS ρ G H ρ G H:=⟨RV _,.refl _,s,λ _ _ _ e=>e,λ _ e=>e,λ _ _ e=>e,λ a h1 h2=>absurd h1 h2,λ _ e=>e⟩
def GS.of {ρ:Ξ} {G H G' H':Hp} (g:Gr G H G' H'):GS ρ G H ρ G' H':=⟨RV _,g.g,g.s,λ b o _ e=>g.h b o e,λ b e=>rh g.h e,g.n,λ a h1 h2=>absurd h1 h2,λ _ e=>e.same g.h⟩
def GS.trans {ρ ρ1 ρ2:Ξ} {G H G1 H1 G2 H2:Hp} (a:GS ρ G H ρ1 G1 H1) (b:GS ρ1 G1 H1 ρ2 G2 H2):GS ρ G H ρ2 G2 H2:=
 ⟨a.r.trans b.r,a.g.trans b.g,b.s,λ c o hc e=>b.h c o (λ h1=>by rw [a.f c h1 hc] at e;cases e) (a.h c o hc e),λ c e=>b.k c (a.k c e),λ c h1 h2=>b.n c (a.t c h1) (a.n c h1 h2),(λ c h1 h2=>by
  by_cases h3:c∈ρ1
  . exact a.f c h3 h2
  . have:=b.f c h1 h3;cases e:H c with
    | none=>rfl
    | some o=>exact absurd this (a.k c (by rw [e];simp))),λ c e=>b.t c (a.t c e)⟩
section
variable {K:Frag} {cl:Str->Addr}
def BC.move {ρ ρ':Ξ} {G H G' H':Hp} {a:Addr} (hr:ρ <+: ρ') (g:b0 G G') (ha:H' a=H a) (hd:∀ dx,G dx=none->H dx=some (.own a)->H' dx=some (.own a)/\G' dx=none) {o:Ob} (h:BC K ρ cl G H a o):BC K ρ' cl G' H' a o:=by
 cases o with
 | lst ds=>
  obtain ⟨vs,h1,h2⟩:=h;exact ⟨vs,ha.trans h1,(h2.ext hr).same g⟩
 | ins c fs=>
  obtain ⟨dx,ws,h1,h2,h3,h4⟩:=h;exact ⟨dx,ws,ha.trans h1,(hd dx h2 h3).2,(hd dx h2 h3).1,h4.ext hr g⟩
 | _=>
  obtain ⟨ws,h1,h2⟩:=h;exact ⟨ws,ha.trans h1,h2.ext hr g⟩
def BC.some {ρ:Ξ} {G H:Hp} {a:Addr} {o:Ob} (h:BC K ρ cl G H a o):∃ x,H a=some x/\∀ b,x≠.own b:=by
 cases o with
 | ins c fs=>
  obtain ⟨dx,ws,h1,_⟩:=h;exact ⟨_,h1,λ b e=>by cases e⟩
 | _=>
  obtain ⟨ws,h1,_⟩:=h;exact ⟨_,h1,λ b e=>by cases e⟩
def BC.nt {ρ:Ξ} {G H:Hp} {a:Addr} {o:Ob} (h:BC K ρ cl G H a o):nT H a:=by
 cases o with
 | ins c fs=>
  obtain ⟨_,_,h1,_⟩:=h;exact .of h1 λ _ z=>by cases z
 | _=>
  obtain ⟨_,h1,_⟩:=h;exact .of h1 λ _ z=>by cases z
def SR.grow {ρ:Ξ} {G H G' H':Hp} {S:ak} (s:SR K ρ cl G H S) (g:Gr G H G' H'):SR K ρ cl G' H' S:=
 ⟨s.len,s.nd,λ n o e=>by
  obtain ⟨a,h1,h2,h3⟩:=s.ob n o e;obtain ⟨x,hx,_⟩:=h3.some;exact ⟨a,h1,g.n a h3.nt h2,h3.move (RV _) g.g (by rw [hx];exact g.h _ _ hx) λ dx e1 e2=>⟨g.h _ _ e2,g.n dx (.of e2 λ _ z=>by cases z) e1⟩⟩⟩
def SR.addr {ρ:Ξ} {G H:Hp} {S:ak} (s:SR K ρ cl G H S) {n:Nat} {o:Ob} {a:Addr} (e:S[n]?=some o) (ea:ρ[n]?=some a):G a=none/\BC K ρ cl G H a o:=by
 obtain ⟨b,h1,h2,h3⟩:=s.ob n o e;rw [ea] at h1;cases h1;exact ⟨h2,h3⟩
def z8 {l:Ξ} (h:l.Nodup) {i j:Nat} {a:Addr} (h1:l[i]?=some a) (h2:l[j]?=some a):i=j:=by
 obtain ⟨hi,e1⟩:=oG h1
 obtain ⟨hj,e2⟩:=oG h2
 have hp:=List.pairwise_iff_getElem.mp h;rcases Nat.lt_trichotomy i j with c | c | c
 . exact absurd (e1.trans e2.symm) (hp i j hi hj c)
 . exact c
 . exact absurd (e2.trans e1.symm) (hp j i hj hi c)
def SR.put {ρ:Ξ} {G H:Hp} {S:ak} {n:Nat} {o o':Ob} {a:Addr} {x:HO} (s:SR K ρ cl G H S) (sg:b0 G H) (e:S[n]?=some o) (ea:ρ[n]?=some a) (hx:∀ b,x≠.own b) (ho:BC K ρ cl G (cK H a x) a o'):SR K ρ cl G (cK H a x) (S.set n o')/\GS ρ G H ρ G (cK H a x):=by
 obtain ⟨ga,ob⟩:=s.addr e ea;obtain ⟨y,hy,hno⟩:=ob.some;have am:a∈ρ:=Rz ea;refine ⟨⟨by rw [Sa];exact s.len,s.nd,λ m q em=>?_⟩,⟨RV _,.refl _,λ b u eb=>?_,λ b u hb eb=>?_,λ b hb=>?_,λ _ _ e=>e,λ b h1 h2=>absurd h1 h2,λ b hb=>by
  by_cases z:b=a
  . exact z▸ho.nt
  . unfold nT;rw [aL z];exact hb⟩⟩
 . rcases eP em with ⟨rfl,rfl,_⟩ | ⟨ne,em⟩
   . exact ⟨a,ea,ga,ho⟩
   . obtain ⟨b,h1,h2,h3⟩:=s.ob m q em;have hab:b≠a:=λ z=>ne (z8 s.nd ea (z▸h1));exact ⟨b,h1,h2,h3.move (RV _) (.refl _) (aL hab) λ dx e1 e2=>⟨by
      rw [aL (λ z=>by rw [z,hy] at e2;cases e2;exact hno _ rfl)];exact e2,e1⟩⟩
 . rw [aL (λ z=>by rw [z,ga] at eb;cases eb)];exact sg _ _ eb
 . rw [aL (λ z=>hb (by rw [z];exact am))];exact eb
 . by_cases z:b=a
   . subst z;rw [aP];simp
   . rw [aL z];exact hb
def SR.push {ρ:Ξ} {G H H':Hp} {S:ak} {p:Addr} {o:Ob} {x:HO} (s:SR K ρ cl G H S) (sg:b0 G H) (n:Nw H H' p x) (ho:∀ ρ',ρ <+: ρ'->BC K ρ' cl G H' p o):SR K (ρ++[p]) cl G H' (S++[o])/\GS ρ G H (ρ++[p]) G H':=by
 have pm:p∉ρ:=λ hp=>by
  obtain ⟨i,hi,e⟩:=List.mem_iff_getElem.mp hp;obtain ⟨b,h1,h2,h3⟩:=s.ob i (S[i]'(by rw [<-s.len];exact hi)) (QP _);rw [QP hi,e] at h1;cases h1;obtain ⟨y,hy,_⟩:=h3.some;rw [n.2.1] at hy;cases hy
 have pre:ρ <+: ρ++[p]:=⟨[p],rfl⟩
 refine ⟨⟨by simp [s.len],RZ.mpr ⟨s.nd,by simp,λ a ha b hb=>by
  rw [QD.mp hb];exact λ z=>pm (z▸ha)⟩,λ m q em=>?_⟩,⟨pre,.refl _,sg.trans n.1,λ b u _ e=>n.1 b u e,λ b e=>rh n.1 e,λ _ _ e=>e,λ a h1 h2=>?_,λ _ e=>e.same n.1⟩⟩
 . rcases Sz m S.length with hm | hm
   . rw [QV hm] at em;obtain ⟨b,h1,h2,h3⟩:=s.ob m q em;obtain ⟨y,hy,_⟩:=h3.some;exact ⟨b,by rw [QV (by rw [s.len];exact hm)];exact h1,h2,h3.move pre (.refl _) (by rw [hy];exact n.1 _ _ hy) λ dx e1 e2=>⟨n.1 _ _ e2,e1⟩⟩
   . rw [RA hm] at em;have hz:m-S.length=0:=by
      have:=(oG em).1;simp at this;omega
     rw [hz] at em;cases em;refine ⟨p,?_,cZ sg n.2.1,ho _ pre⟩;rw [RA (by rw [s.len];exact hm),s.len,hz];rfl
 . rcases QK.mp h1 with h | h
   . exact absurd h h2
   . rw [QD.mp h];exact n.2.1
inductive Rs (α:Type) where
 | ok (a:α)
 | xc (c:Str)
noncomputable abbrev SM (α:Type):=Option (Rs α×ak)
abbrev ζ:=DS->ak->SM W
abbrev Υ:=DS->ak->SM (List W)
instance au {α β:Type} (m:SM α) (k:α->ak->SM β):SM β:=match m with
 | some (.ok a,S)=>k a S
 | some (.xc c,S)=>some (.xc c,S)
 | none=>none
def aT {α β:Type} {m:SM α} {k:α->ak->SM β} {r:Rs β} {S':ak} (h:au m k=some (r,S')):(∃ c,m=some (.xc c,S')/\r=.xc c)∨∃ a S1,m=some (.ok a,S1)/\k a S1=some (r,S'):=by
 unfold au at h;split at h
 . exact .inr ⟨_,_,rfl,h⟩
 . cases h;exact .inl ⟨_,rfl,rfl⟩
 . cases h
structure RS (K:Frag) (cl:Str->Addr) (ρ:Ξ) (G H:Hp) (δ:DS) (σ:St) (S:ak):Prop where
 rl:Rl K ρ G H δ σ
 st:SR K ρ cl G H S
 ap:∀ (i:Nat) ds p,δ[i]?=some (.own ds)->σ[i]?=some (some (.ref p))->p∉ρ
def wm.move {ρ ρ':Ξ} {G H G' H':Hp} (g:GS ρ G H ρ' G' H') {s:Sl} {o:Option V} (ha:∀ ds p,s=.own ds->o=some (.ref p)->p∉ρ) (h:wm K ρ G H s o):wm K ρ' G' H' s o:=by
 cases s with
 | no=>exact trivial
 | val d=>
  obtain ⟨v,e,h⟩:=h;exact ⟨v,e,(h.ext g.r).same g.g⟩
 | own ds=>
  obtain ⟨p,vs,e,h1,h2,h3⟩:=h;exact ⟨p,vs,e,g.n p (.l h2) h1,g.h _ _ (ha ds p rfl e) h2,(h3.ext g.r).same g.g⟩
def RS.grow {ρ ρ':Ξ} {G H G' H':Hp} {δ:DS} {σ:St} {S S':ak} (R:RS K cl ρ G H δ σ S) (g:GS ρ G H ρ' G' H') (s:SR K ρ' cl G' H' S'):RS K cl ρ' G' H' δ σ S':=
 ⟨⟨g.s,R.rl.len,λ i sl e=>by
  obtain ⟨o,h1,h2⟩:=R.rl.sl i sl e;exact ⟨o,h1,h2.move g λ ds p e1 e2=>R.ap i ds p (e1▸e) (e2▸h1)⟩,R.rl.apart⟩,s,λ i ds p h1 h2 hp=>by
  obtain ⟨o,k1,p',vs,rfl,k3,k4,k5⟩:=R.rl.sl i _ h1;rw [h2] at k1;cases k1;rw [g.f p hp (R.ap i ds p h1 h2)] at k4;cases k4⟩
instance SQ (K:Frag) (cl:Str->Addr) (ρ:Ξ) (G H:Hp) (E:XK) (S':ak) (Q:W->List Addr->Hp->Hp->Prop):Rs W->Prop
 | .ok d=>∀ ρ' G' H',GS ρ G H ρ' G' H'->SR K ρ' cl G' H' S'->Q d ρ' G' H'
 | .xc c=>∀ ρ' G' H',GS ρ G H ρ' G' H'->SR K ρ' cl G' H' S'->E (.ref (cl c)) none H'
instance SE (K:Frag) (cl:Str->Addr) (E:XK) (t:TE) (f:ζ):Prop:=
 ∀ (ρ:Ξ) (G:Hp) (σ:St) (H:Hp) (δ:DS) (S:ak) (r:Rs W) (S':ak) (Q:VK),RS K cl ρ G H δ σ S->f δ S=some (r,S')->
  (∀ d,r=.ok d->∀ v ρ' G' H',GS ρ G H ρ' G' H'->SR K ρ' cl G' H' S'->Dw K ρ' G' v d->Q v H')->
  (∀ c,r=.xc c->∀ ρ' G' H',GS ρ G H ρ' G' H'->SR K ρ' cl G' H' S'->E (.ref (cl c)) none H')->t σ H Q
instance SA (K:Frag) (cl:Str->Addr) (E:XK) (t:TA) (f:Υ):Prop:=
 ∀ (ρ:Ξ) (G:Hp) (σ:St) (H:Hp) (δ:DS) (S:ak) (r:Rs (List W)) (S':ak) (Q:List V->Hp->Prop),RS K cl ρ G H δ σ S->f δ S=some (r,S')->
  (∀ ds,r=.ok ds->∀ vs ρ' G' H',GS ρ G H ρ' G' H'->SR K ρ' cl G' H' S'->aE K ρ' G' vs ds->Q vs H')->
  (∀ c,r=.xc c->∀ ρ' G' H',GS ρ G H ρ' G' H'->SR K ρ' cl G' H' S'->E (.ref (cl c)) none H')->t σ H Q
instance ST (K:Frag) (cl:Str->Addr) (E:XK) (t:TT) (f:DS->ak->SM Bool):Prop:=
 ∀ (ρ:Ξ) (G:Hp) (σ:St) (H:Hp) (δ:DS) (S:ak) (r:Rs Bool) (S':ak) (Q:Bool->Hp->Prop),RS K cl ρ G H δ σ S->f δ S=some (r,S')->
  (∀ b,r=.ok b->∀ ρ' G' H',GS ρ G H ρ' G' H'->SR K ρ' cl G' H' S'->Q b H')->
  (∀ c,r=.xc c->∀ ρ' G' H',GS ρ G H ρ' G' H'->SR K ρ' cl G' H' S'->E (.ref (cl c)) none H')->t σ H Q
variable {E:XK}
instance ab {α:Type} (f:DS->Option α):DS->ak->SM α:=λ δ S=>(f δ).map λ d=>(.ok d,S)
def iI {α:Type} {f:DS->Option α} {δ:DS} {S S':ak} {r:Rs α} (h:ab f δ S=some (r,S')):∃ d,f δ=some d/\r=.ok d/\S'=S:=by
 obtain ⟨d,e1,e2⟩:=oM h
 cases e2;exact ⟨d,e1,rfl,rfl⟩
def Fb {t:TE} {f:μ} (h:∀ ρ,DE K ρ t f):SE K cl E t (ab f):=λ ρ G σ H δ S r S' Q R e q _=>by
 obtain ⟨d,e1,rfl,rfl⟩:=iI e;exact h ρ G σ H δ d Q R.rl e1 λ v G' H' g dv=>q d rfl v ρ G' H' (.of g) (R.st.grow g) dv
def Dz {t:TA} {f:θ} (h:∀ ρ,DA K ρ t f):SA K cl E t (ab f):=λ ρ G σ H δ S r S' Q R e q _=>by
 obtain ⟨d,e1,rfl,rfl⟩:=iI e;exact h ρ G σ H δ d Q R.rl e1 λ v G' H' g dv=>q d rfl v ρ G' H' (.of g) (R.st.grow g) dv
def EI {t:TT} {f:DS->Option Bool} (h:∀ ρ,DT K ρ t f):ST K cl E t (ab f):=λ ρ G σ H δ S r S' Q R e q _=>by
 obtain ⟨d,e1,rfl,rfl⟩:=iI e;exact h ρ G σ H δ d Q R.rl e1 λ G' H' g=>q d rfl ρ G' H' (.of g) (R.st.grow g)
instance kS:DS->ak->SM (List W):=λ _ S=>some (.ok [],S)
instance bZ (f:ζ) (g:Υ):DS->ak->SM (List W):=λ δ S=>au (f δ S) λ d S1=>au (g δ S1) λ ds S2=>some (.ok (d::ds),S2)
def Ir:SA K cl E jN kS:=λ ρ G σ H δ S r S' Q R e q _=>by
 cases e;exact q [] rfl [] ρ G H (.refl R.rl.sub) R.st .nil
def F3 {t:TE} {u:TA} {f:ζ} {g:Υ} (h1:SE K cl E t f) (h2:SA K cl E u g):SA K cl E (fc t u) (bZ f g):=λ ρ G σ H δ S r S' Q R e q qx=>by
 rcases aT e with ⟨c,em,rfl⟩ | ⟨d,S1,em,e⟩
 . exact h1 ρ G σ H δ S _ _ _ R em (λ d hd=>by cases hd) (λ c' hc=>by cases hc;exact qx c rfl)
 . refine h1 ρ G σ H δ S _ _ _ R em (λ d' hd=>?_) (λ c' hc=>by cases hc);cases hd;intro v ρ1 G1 H1 g1 s1 dv;have R1:=R.grow g1 s1;rcases aT e with ⟨c,em,rfl⟩ | ⟨ds,S2,em,e⟩
   . exact h2 ρ1 G1 σ H1 δ S1 _ _ _ R1 em (λ d hd=>by cases hd) (λ c' hc=>by cases hc;exact λ ρ2 G2 H2 g2 s2=>qx c rfl ρ2 G2 H2 (g1.trans g2) s2)
   . refine h2 ρ1 G1 σ H1 δ S1 _ _ _ R1 em (λ d' hd=>?_) (λ c' hc=>by cases hc);cases hd;cases e;intro vs ρ2 G2 H2 g2 s2 da;exact q _ rfl _ ρ2 G2 H2 (g1.trans g2) s2 (.cons ((dv.ext g2.r).same g2.g) da)
end
section
variable {K:Frag} {cl:Str->Addr} {E:XK}
def cA {α:Type} {t:TE} {f:ζ} (h:SE K cl E t f) {ρ:Ξ} {G:Hp} {σ:St} {H:Hp} {δ:DS} {S:ak} {r:Rs α} {S':ak} {k:W->ak->SM α} {P:V->Hp->Prop} (R:RS K cl ρ G H δ σ S) (e:au (f δ S) k=some (r,S'))
 (q:∀ d S1,k d S1=some (r,S')->∀ v ρ' G' H',GS ρ G H ρ' G' H'->SR K ρ' cl G' H' S1->Dw K ρ' G' v d->P v H')
 (qx:∀ c,r=.xc c->∀ ρ' G' H',GS ρ G H ρ' G' H'->SR K ρ' cl G' H' S'->E (.ref (cl c)) none H'):t σ H P:=by
 rcases aT e with ⟨c,em,rfl⟩ | ⟨d,S1,em,e⟩
 . exact h ρ G σ H δ S _ _ _ R em (λ d hd=>by cases hd) (λ c' hc=>by cases hc;exact qx c rfl)
 . exact h ρ G σ H δ S _ _ _ R em (λ d' hd=>by cases hd;exact q _ _ e) (λ c' hc=>by cases hc)
def mB {α:Type} {t:TA} {f:Υ} (h:SA K cl E t f) {ρ:Ξ} {G:Hp} {σ:St} {H:Hp} {δ:DS} {S:ak} {r:Rs α} {S':ak} {k:List W->ak->SM α} {P:List V->Hp->Prop} (R:RS K cl ρ G H δ σ S) (e:au (f δ S) k=some (r,S'))
 (q:∀ d S1,k d S1=some (r,S')->∀ v ρ' G' H',GS ρ G H ρ' G' H'->SR K ρ' cl G' H' S1->aE K ρ' G' v d->P v H')
 (qx:∀ c,r=.xc c->∀ ρ' G' H',GS ρ G H ρ' G' H'->SR K ρ' cl G' H' S'->E (.ref (cl c)) none H'):t σ H P:=by
 rcases aT e with ⟨c,em,rfl⟩ | ⟨d,S1,em,e⟩
 . exact h ρ G σ H δ S _ _ _ R em (λ d hd=>by cases hd) (λ c' hc=>by cases hc;exact qx c rfl)
 . exact h ρ G σ H δ S _ _ _ R em (λ d' hd=>by cases hd;exact q _ _ e) (λ c' hc=>by cases hc)
def wU {α:Type} {t:TT} {f:DS->ak->SM Bool} (h:ST K cl E t f) {ρ:Ξ} {G:Hp} {σ:St} {H:Hp} {δ:DS} {S:ak} {r:Rs α} {S':ak} {k:Bool->ak->SM α} {P:Bool->Hp->Prop} (R:RS K cl ρ G H δ σ S) (e:au (f δ S) k=some (r,S'))
 (q:∀ d S1,k d S1=some (r,S')->∀ ρ' G' H',GS ρ G H ρ' G' H'->SR K ρ' cl G' H' S1->P d H')
 (qx:∀ c,r=.xc c->∀ ρ' G' H',GS ρ G H ρ' G' H'->SR K ρ' cl G' H' S'->E (.ref (cl c)) none H'):t σ H P:=by
 rcases aT e with ⟨c,em,rfl⟩ | ⟨d,S1,em,e⟩
 . exact h ρ G σ H δ S _ _ _ R em (λ d hd=>by cases hd) (λ c' hc=>by cases hc;exact qx c rfl)
 . exact h ρ G σ H δ S _ _ _ R em (λ d' hd=>by cases hd;exact q _ _ e) (λ c' hc=>by cases hc)
def eK {α:Type} {ta tb:TE} {fa fb:ζ} (ha:SE K cl E ta fa) (hb:SE K cl E tb fb) {ρ:Ξ} {G:Hp} {σ:St} {H:Hp} {δ:DS} {S:ak} {r:Rs α} {S':ak} {k:W->W->ak->SM α} {P:V->V->Hp->Prop} (R:RS K cl ρ G H δ σ S)
 (e:au (fa δ S) (λ x S1=>au (fb δ S1) λ y S2=>k x y S2)=some (r,S'))
 (q:∀ x y S2,k x y S2=some (r,S')->∀ v u ρ' G' H',GS ρ G H ρ' G' H'->SR K ρ' cl G' H' S2->Dw K ρ' G' v x->Dw K ρ' G' u y->P v u H')
 (qx:∀ c,r=.xc c->∀ ρ' G' H',GS ρ G H ρ' G' H'->SR K ρ' cl G' H' S'->E (.ref (cl c)) none H'):ta σ H λ v H1=>tb σ H1 λ u H2=>P v u H2:=
 cA ha R e (λ x S1 e1 v ρ1 G1 H1 g1 s1 dv=>cA hb (R.grow g1 s1) e1 (λ y S2 e2 u ρ2 G2 H2 g2 s2 du=>q x y S2 e2 v u ρ2 G2 H2 (g1.trans g2) s2 ((dv.ext g2.r).same g2.g) du) λ c hc ρ2 G2 H2 g2 s2=>qx c hc ρ2 G2 H2 (g1.trans g2) s2) qx
instance fN {α:Type} (x:Option α) (S:ak):SM α:=x.map λ d=>(.ok d,S)
def bx {α:Type} {x:Option α} {S S':ak} {r:Rs α} (h:fN x S=some (r,S')):∃ d,x=some d/\r=.ok d/\S'=S:=by
 obtain ⟨d,e1,e2⟩:=oM h
 cases e2;exact ⟨d,e1,rfl,rfl⟩
instance EY (g:W->W->Option W) (fa fb:ζ):DS->ak->SM W:=λ δ S=>au (fa δ S) λ x S1=>au (fb δ S1) λ y S2=>fN (g x y) S2
def Mi {r:R2} {ta tb:TE} {fa fb:ζ} {g:W->W->Option W} (hr:∀ ρ,DR K ρ r g) (ha:SE K cl E ta fa) (hb:SE K cl E tb fb):SE K cl E (qH r ta tb) (EY g fa fb):=λ ρ G σ H δ S r' S' Q R e q qx=>
 eK ha hb R e (λ x y S2 e2 v u ρ2 G2 H2 g2 s2 dv du=>by
  obtain ⟨c,e3,rfl,rfl⟩:=bx e2;exact hr ρ2 G2 H2 v u x y c Q g2.s (.inl dv) du e3 λ w G3 H3 g3 dw=>q c rfl w ρ2 G3 H3 (g2.trans (.of g3)) (s2.grow g3) dw) qx
instance ky (g:W->W->Option Bool) (fa fb:ζ):DS->ak->SM Bool:=λ δ S=>au (fa δ S) λ x S1=>au (fb δ S1) λ y S2=>fN (g x y) S2
instance sB (f:DS->ak->SM Bool):DS->ak->SM W:=λ δ S=>au (f δ S) λ b S1=>some (.ok (.bool b),S1)
def Hb {r:R2} {ta tb:TE} {fa fb:ζ} {g:W->W->Option Bool} (hr:∀ ρ,DB K ρ r g) (ha:SE K cl E ta fa) (hb:SE K cl E tb fb):ST K cl E (vk (qH r ta tb)) (ky g fa fb):=λ ρ G σ H δ S r' S' Q R e q qx=>
 eK ha hb R e (λ x y S2 e2 v u ρ2 G2 H2 g2 s2 dv du=>by
  obtain ⟨c,e3,rfl,rfl⟩:=bx e2;exact hr ρ2 H2 v u x y c _ (dv.same g2.s) (du.same g2.s) e3 ⟨c,rfl,q c rfl ρ2 G2 H2 g2 s2⟩) qx
def Jj {r:R2} {ta tb:TE} {fa fb:ζ} {g:W->W->Option Bool} (hr:∀ ρ,DB K ρ r g) (ha:SE K cl E ta fa) (hb:SE K cl E tb fb):SE K cl E (qH r ta tb) (sB (ky g fa fb)):=λ ρ G σ H δ S r' S' Q R e q qx=>by
 rcases aT e with ⟨c,em,rfl⟩ | ⟨b,S1,em,e⟩
 . exact eK (r:=Rs.xc c) ha hb R em (λ x y S2 e2=>by obtain ⟨_,_,z,_⟩:=bx e2;cases z) (λ c' hc=>by cases hc;exact qx c rfl)
 . cases e;exact eK ha hb R em (λ x y S2 e2 v u ρ2 G2 H2 g2 s2 dv du=>by
    obtain ⟨c,e3,z,rfl⟩:=bx e2;cases z;exact hr ρ2 H2 v u x y _ _ (dv.same g2.s) (du.same g2.s) e3 (q _ rfl _ ρ2 G2 H2 g2 s2 (.bl _))) (λ c hc=>by cases hc)
instance uu (f g:DS->ak->SM Bool):DS->ak->SM Bool:=λ δ S=>au (f δ S) λ b S1=>if b=true then g δ S1 else some (.ok false,S1)
instance GX (f g:DS->ak->SM Bool):DS->ak->SM Bool:=λ δ S=>au (f δ S) λ b S1=>if b=true then some (.ok true,S1) else g δ S1
instance jJ (f:DS->ak->SM Bool):DS->ak->SM Bool:=λ δ S=>au (f δ S) λ b S1=>some (.ok (!b),S1)
def HD {t u:TT} {f g:DS->ak->SM Bool} (h1:ST K cl E t f) (h2:ST K cl E u g):ST K cl E (JK t u) (uu f g):=λ ρ G σ H δ S r S' Q R e q qx=>
 wU h1 R e (λ b S1 e1 ρ1 G1 H1 g1 s1=>by
  cases b with
  | true=>exact h2 ρ1 G1 σ H1 δ S1 r S' Q (R.grow g1 s1) e1 (λ b hb ρ2 G2 H2 g2 s2=>q b hb ρ2 G2 H2 (g1.trans g2) s2) λ c hc ρ2 G2 H2 g2 s2=>qx c hc ρ2 G2 H2 (g1.trans g2) s2
  | false=>cases e1;exact q false rfl ρ1 G1 H1 g1 s1) qx
def Lq {t u:TT} {f g:DS->ak->SM Bool} (h1:ST K cl E t f) (h2:ST K cl E u g):ST K cl E (OZ t u) (GX f g):=λ ρ G σ H δ S r S' Q R e q qx=>
 wU h1 R e (λ b S1 e1 ρ1 G1 H1 g1 s1=>by
  cases b with
  | false=>exact h2 ρ1 G1 σ H1 δ S1 r S' Q (R.grow g1 s1) e1 (λ b hb ρ2 G2 H2 g2 s2=>q b hb ρ2 G2 H2 (g1.trans g2) s2) λ c hc ρ2 G2 H2 g2 s2=>qx c hc ρ2 G2 H2 (g1.trans g2) s2
  | true=>cases e1;exact q true rfl ρ1 G1 H1 g1 s1) qx
def Hj {t:TT} {f:DS->ak->SM Bool} (h:ST K cl E t f):ST K cl E (Je t) (jJ f):=λ ρ G σ H δ S r S' Q R e q qx=>
 wU h R e (λ b S1 e1 ρ1 G1 H1 g1 s1=>by cases e1;exact q _ rfl ρ1 G1 H1 g1 s1) qx
instance z9 (f:Υ):DS->ak->SM W:=λ δ S=>au (f δ S) λ ds S1=>if ds.length<=sizeLine then some (.ok (.tuple ds),S1) else none
def Ie {t:TA} {f:Υ} (h:SA K cl E t f):SE K cl E (Bq t) (z9 f):=λ ρ G σ H δ S r S' Q R e q qx=>
 mB h R e (λ ds S1 e1 vs ρ1 G1 H1 g1 s1 da=>by
  split at e1
  . rename_i hz;cases e1;refine ⟨by rw [da.length];exact hz,λ p H' n=>?_⟩;have g2:=Gr.nw g1.s n;exact q _ rfl _ ρ1 _ H' (g1.trans (.of g2)) (s1.grow g2) (.tup aP (da.same g2.g))
  . cases e1) qx
instance OI (f:Υ):DS->ak->SM W:=λ δ S=>au (f δ S) λ ds S1=>if ds.length<=sizeLine then some (.ok (.list ds),S1) else none
instance eJ (f:Υ):DS->ak->SM W:=λ δ S=>au (f δ S) λ ds S1=>if ds.length<=sizeLine then some (.ok (.ref S1.length),S1++[.lst ds]) else none
def E2 {t:TA} {f:Υ} (h:SA K cl E t f):SE K cl E (C5 t) (eJ f):=λ ρ G σ H δ S r S' Q R e q qx=>
 mB h R e (λ ds S1 e1 vs ρ1 G1 H1 g1 s1 da=>by
  split at e1
  . rename_i hz;cases e1;refine ⟨by rw [da.length];exact hz,λ p H' n=>?_⟩;obtain ⟨s2,g2⟩:=s1.push (o:=.lst ds) g1.s n λ ρ' hr=>⟨vs,n.2.2,da.ext hr⟩
    exact q _ rfl _ _ _ H' (g1.trans g2) s2 (.ref (by rw [<-s1.len];simp))
  . cases e1) qx
instance Nv:DS->ak->SM W:=λ _ S=>some (.ok (.ref S.length),S++[.dK []])
instance P1:DS->ak->SM W:=λ _ S=>some (.ok (.ref S.length),S++[.dT []])
def La:SE K cl E AV Nv:=λ ρ G σ H δ S r S' Q R e q qx=>by
 cases e;intro p hp;obtain ⟨s2,g2⟩:=R.st.push (o:=.dK []) R.rl.sub (Nw.of (o:=.dK []) hp) λ ρ' hr=>⟨[],aP,.nil⟩
 exact q _ rfl _ _ _ _ g2 s2 (.ref (by rw [<-R.st.len];simp))
def Lr:SE K cl E BO P1:=λ ρ G σ H δ S r S' Q R e q qx=>by
 cases e;intro p hp;obtain ⟨s2,g2⟩:=R.st.push (o:=.dT []) R.rl.sub (Nw.of (o:=.dT []) hp) λ ρ' hr=>⟨[],aP,.nil⟩
 exact q _ rfl _ _ _ _ g2 s2 (.ref (by rw [<-R.st.len];simp))
instance d7 (x:W) (S:ak):Option (Nat×Ob):=match x with
 | .ref n=>(S[n]?).map λ o=>(n,o)
 | _=>none
def cS {x:W} {S:ak} {n:Nat} {o:Ob} (h:d7 x S=some (n,o)):x=.ref n/\S[n]?=some o:=by
 unfold d7 at h;split at h
 . obtain ⟨o',e1,e2⟩:=oM h
   cases e2;exact ⟨rfl,e1⟩
 . cases h
instance iT (c:Str) (x:W) (S:ak):Option (Nat×List (Str×W)):=match d7 x S with
 | some (n,.ins c' fs)=>if c'=c then some (n,fs) else none
 | _=>none
def kH {c:Str} {x:W} {S:ak} {n:Nat} {fs:List (Str×W)} (h:iT c x S=some (n,fs)):x=.ref n/\S[n]?=some (.ins c fs):=by
 unfold iT at h;cases e:d7 x S with
 | none=>rw [e] at h;cases h
 | some p=>
  obtain ⟨m,o⟩:=p;rw [e] at h;cases o with
  | ins c' fs'=>
   by_cases hc:c'=c
   . subst hc;cases (QF rfl).symm.trans h;exact cS e
   . cases (QS hc).symm.trans h
  | _=>cases h
instance pc (c f:Str) (fa:ζ):DS->ak->SM W:=λ δ S=>au (fa δ S) λ x S1=>(iT c x S1).bind λ p=>fN (p.2.lookup f) S1
def cy {ρ:Ξ} {G:Hp} {v:V} {n:Nat} (h:Dw K ρ G v (.ref n)):∃ a,v=.ref a/\ρ[n]?=some a:=by
 cases h with
 | ref e=>exact ⟨_,rfl,e⟩
def HZ {c f:Str} {ta:TE} {fa:ζ} (hc:tX K (cl c)) (hn:dI K (cl c) f) (ha:SE K cl E ta fa):SE K cl E (JB K ta f) (pc c f fa):=λ ρ G σ H δ S r S' Q R e q qx=>
 cA ha R e (λ x S1 e1 v ρ1 G1 H1 g1 s1 dv=>by
  obtain ⟨⟨n,fs⟩,e2,e3⟩:=oB e1
  obtain ⟨d,e4,rfl,rfl⟩:=bx e3;obtain ⟨rfl,e5⟩:=kH e2;obtain ⟨a,rfl,ea⟩:=cy dv;obtain ⟨ga,dx,ws,k1,k2,k3,k4⟩:=s1.addr e5 ea;obtain ⟨u,k5,k6⟩:=k4.lookup e4;exact ⟨a,_,dx,ws,u,rfl,k1,hc,hn,k5,q d rfl u ρ1 G1 H1 g1 s1 k6⟩) qx
instance Q3 (K:Frag) (cl:Str->Addr) (f:List W->ak->SM W):Sp:=λ vs H Q E=>∃ ρ G S ds r S',b0 G H/\SR K ρ cl G H S/\aE K ρ G vs ds/\f ds S=some (r,S')/\
 (∀ d,r=.ok d->∀ v ρ' G' H',GS ρ G H ρ' G' H'->SR K ρ' cl G' H' S'->Dw K ρ' G' v d->Q v H')/\(∀ c,r=.xc c->∀ ρ' G' H',GS ρ G H ρ' G' H'->SR K ρ' cl G' H' S'->E (.ref (cl c)) none H')
instance HU (f:List W->Option W) (fa:Υ):DS->ak->SM W:=λ δ S=>au (fa δ S) λ ds S1=>fN (f ds) S1
instance kP (K:Frag) (cl:Str->Addr) (f:List W->ak->SM W):Sp:=λ vs H Q _=>∃ ρ G S ds d S',b0 G H/\SR K ρ cl G H S/\aE K ρ G vs ds/\f ds S=some (.ok d,S')/\
 ∀ v ρ' G' H',GS ρ G H ρ' G' H'->SR K ρ' cl G' H' S'->Dw K ρ' G' v d->Q v H'
instance Dj (m:SM W):SM W:=match m with
 | some (.ok d,S)=>some (.ok d,S)
 | _=>none
def lM {m:SM W} {r:Rs W} {S':ak} (h:Dj m=some (r,S')):∃ d,r=.ok d/\m=some (.ok d,S'):=by
 unfold Dj at h;split at h
 . cases h;exact ⟨_,rfl,rfl⟩
 . cases h
instance bD (f:List W->ak->SM W) (fa:Υ):DS->ak->SM W:=λ δ S=>au (fa δ S) λ ds S1=>Dj (f ds S1)
def Eu {f:List W->ak->SM W} {t:TA} {fa:Υ} {E':XK} (h:SA K cl E t fa):SE K cl E (qP (kP K cl f) [] E' t) (bD f fa):=λ ρ G σ H δ S r S' Q R e q qx=>
 mB h R e (λ ds S1 e1 vs ρ1 G1 H1 g1 s1 da=>by
  obtain ⟨d,rfl,e2⟩:=lM e1;exact ⟨ρ1,G1,S1,ds,d,S',g1.s,s1,by rw [Ra];exact da,e2,λ v ρ2 G2 H2 g2 s2 dv=>q d rfl v ρ2 G2 H2 (g1.trans g2) s2 dv⟩) qx
instance dm (c m:Str) (f:List W->ak->SM W) (fo:ζ) (fa:Υ):DS->ak->SM W:=λ δ S=>au (fo δ S) λ x S1=>(iT c x S1).bind λ p=>if p.2.lookup m=none then au (fa δ S1) λ ds S2=>Dj (f (x::ds) S2) else none
def Fv {c m:Str} {f:List W->ak->SM W} {to:TE} {t:TA} {fo:ζ} {fa:Υ} {E':XK} (ho:SE K cl E to fo) (h:SA K cl E t fa):SE K cl E (GV (cl c) m (kP K cl f) [] E' to t) (dm c m f fo fa):=λ ρ G σ H δ S r S' Q R e q qx=>
 cA ho R e (λ x S1 e1 v ρ1 G1 H1 g1 s1 dv=>by
  obtain ⟨⟨n,fs⟩,e2,e3⟩:=oB e1
  split at e3
  case isFalse=>cases e3
  rename_i hm;obtain ⟨rfl,e5⟩:=kH e2;obtain ⟨a,rfl,ea⟩:=cy dv;obtain ⟨ga,dx,ws,k1,k2,k3,k4⟩:=s1.addr e5 ea;refine ⟨a,dx,ws,rfl,k1,k4.lookup_none hm,?_⟩;exact mB h (R.grow g1 s1) e3 (λ ds S2 e6 vs ρ2 G2 H2 g2 s2 da=>by
   obtain ⟨d,rfl,e7⟩:=lM e6;exact ⟨ρ2,G2,S2,.ref n::ds,d,S',g2.s,s2,by rw [Ra];exact .cons ((dv.ext g2.r).same g2.g) da,e7,λ v ρ3 G3 H3 g3 s3 dv=>q d rfl v ρ3 G3 H3 (g1.trans (g2.trans g3)) s3 dv⟩) λ c hc ρ2 G2 H2 g2 s2=>qx c hc ρ2 G2 H2 (g1.trans g2) s2) qx
instance yg (c:Str) (f:List W->ak->SM W) (fa:Υ):DS->ak->SM W:=λ δ S=>au (fa δ S) λ ds S1=>au (Dj (f (.ref S1.length::ds) (S1++[.ins c []]))) λ d S2=>match d with
 | .none=>some (.ok (.ref S1.length),S2)
 | _=>none
def E3 {c:Str} {f:List W->ak->SM W} {t:TA} {fa:Υ} {E':XK} (h:SA K cl E t fa):SE K cl E (GA (cl c) (kP K cl f) [] E' t) (yg c f fa):=λ ρ G σ H δ S r S' Q R e q qx=>
 mB h R e (λ ds S1 e1 vs ρ1 G1 H1 g1 s1 da=>by
  intro x dx hx hdx hne;have na:Nw H1 (cK H1 dx (.own x)) dx (.own x):=.of hdx;have gA:Gr G1 H1 G1 (cK H1 dx (.own x)):=.nwO g1.s na;have hx':(cK H1 dx (.own x)) x=none:=by rw [aL (RM hne)];exact hx
  have nb:Nw (cK H1 dx (.own x)) (cK (cK H1 dx (.own x)) x (.ins (cl c) dx [])) x (.ins (cl c) dx []):=.of hx';obtain ⟨s2,g2⟩:=(s1.grow gA).push (o:=.ins c []) gA.s nb λ ρ' hr=>⟨dx,[],aP,cZ g1.s hdx,by rw [aL hne];exact aP,.nil⟩
  have g12:=(GS.of (ρ:=ρ1) gA).trans g2;have dx1:aE K (ρ1++[x]) G1 (.ref x::vs) (.ref S1.length::ds):=.cons (.ref (by rw [<-s1.len];simp)) (da.ext ⟨[x],rfl⟩);rcases aT e1 with ⟨c',em,rfl⟩ | ⟨d,S2,em,e2⟩
  . obtain ⟨_,z,_⟩:=lM em;cases z
  . obtain ⟨d',z,em⟩:=lM em;cases z;refine ⟨_,G1,_,_,_,_,g2.s,s2,by rw [Ra];exact dx1,em,λ v ρ3 G3 H3 g3 s3 dv=>?_⟩;split at e2
    . cases e2;exact ⟨wq dv,q _ rfl _ ρ3 G3 H3 (g1.trans (g12.trans g3)) s3 (.ref (by
       have h1:(ρ1++[x])[S1.length]?=some x:=by rw [<-s1.len];simp
       obtain ⟨t',ht⟩:=g3.r;rw [<-ht,QV (oG h1).1];exact h1))⟩
    . cases e2) qx
instance Kg (K:Frag) (cl:Str->Addr) (E:XK) (wi:TI) (f:Υ):Prop:=
 ∀ (ρ:Ξ) (G:Hp) (σ:St) (H:Hp) (δ:DS) (S:ak) (r:Rs (List W)) (S':ak) (R':It->Hp->Prop),RS K cl ρ G H δ σ S->f δ S=some (r,S')->
  (∀ ds,r=.ok ds->∀ J ρ' G' H',GS ρ G H ρ' G' H'->SR K ρ' cl G' H' S'->K3 K ρ' J G' ds->R' J H')->
  (∀ c,r=.xc c->∀ ρ' G' H',GS ρ G H ρ' G' H'->SR K ρ' cl G' H' S'->E (.ref (cl c)) none H')->wi σ H R'
def BG {wi:TI} {f:θ} (h:∀ ρ,DI K ρ wi f):Kg K cl E wi (ab f):=λ ρ G σ H δ S r S' R' R e q qx=>by
 obtain ⟨ds,e1,rfl,rfl⟩:=iI e;exact h ρ G σ H δ ds R' R.rl e1 λ J G' H' g it=>q ds rfl J ρ G' H' (.of g) (R.st.grow g) it
instance mY (f:ζ):DS->ak->SM (List W):=λ δ S=>au (f δ S) λ x S1=>fN (rq x) S1
def Fs {t:TE} {f:ζ} (h:SE K cl E t f):Kg K cl E (zY K t) (mY f):=λ ρ G σ H δ S r S' R' R e q qx=>
 cA h R e (λ x S1 e1 v ρ1 G1 H1 g1 s1 dv=>by
  obtain ⟨ds,e2,rfl,rfl⟩:=bx e1;cases dv with
  | lst sq da=>
   cases e2;exact ⟨_,rfl,.inl ⟨⟨_,g1.s.seq sq⟩,q _ rfl _ ρ1 G1 H1 g1 s1 λ i G2 H2 a b=>o0 b ((a.trans b).seq sq) (da.same a)⟩⟩
  | tup sq da=>
   cases e2;exact ⟨_,rfl,.inr ⟨⟨_,g1.s.tup (fg.of sq)⟩,q _ rfl _ ρ1 G1 H1 g1 s1 λ i G2 H2 a b=>xg b ((a.trans b).tup (fg.of sq)) (da.same a)⟩⟩
  | _=>cases e2) qx
instance rD (f:Υ):DS->ak->SM (List W):=λ δ S=>au (f δ S) λ ds S1=>fN (xM ds) S1
def CW {t:TA} {f:Υ} (h:SA K cl E t f):Kg K cl E (AZ t) (rD f):=λ ρ G σ H δ S r S' R' R e q qx=>
 mB h R e (λ es S1 e1 vs ρ1 G1 H1 g1 s1 da=>by
  obtain ⟨ds,e2,rfl,rfl⟩:=bx e1;obtain ⟨j,rfl,e2⟩:=uI e2;obtain ⟨hc,rfl⟩:=yH e2;obtain ⟨v,rfl,dv⟩:=wC da;cases dH dv;exact ⟨_,rfl,hc.1,hc.2,q _ rfl _ ρ1 G1 H1 g1 s1 C6⟩) qx
end
inductive sd where
 | nx (δ:DS)
 | bk (δ:DS)
 | ct (δ:DS)
 | rt (d:W)
 | xc (c:Str)
noncomputable abbrev SO:=Option (sd×ak)
abbrev τ:=DS->ak->SO
section
variable {K:Frag} {cl:Str->Addr} {E:XK}
structure jL (K:Frag) (cl:Str->Addr) (ρ0:Ξ) (G0 H0:Hp) (ρ:Ξ) (G H:Hp) (δ:DS) (σ:St) (S:ak):Prop where
 rs:RS K cl ρ G H δ σ S
 gs:GS ρ0 G0 H0 ρ G H
 ow:∀ (i:Nat) p ds,δ[i]?=some (.own ds)->σ[i]?=some (some (.ref p))->H0 p=none
instance CO (K:Frag) (cl:Str->Addr) (E:XK) (ρ0:Ξ) (G0 H0:Hp) (D:jg) (S:ak):sd->Prop
 | .nx δ=>∀ σ ρ G H,jL K cl ρ0 G0 H0 ρ G H δ σ S->D.nx σ H
 | .bk δ=>∀ σ ρ G H,jL K cl ρ0 G0 H0 ρ G H δ σ S->D.bk σ H
 | .ct δ=>∀ σ ρ G H,jL K cl ρ0 G0 H0 ρ G H δ σ S->D.ct σ H
 | .rt d=>∀ v ρ G H,GS ρ0 G0 H0 ρ G H->SR K ρ cl G H S->Dw K ρ G v d->D.rt v H
 | .xc c=>∀ ρ G H,GS ρ0 G0 H0 ρ G H->SR K ρ cl G H S->E (.ref (cl c)) none H
instance nU (K:Frag) (cl:Str->Addr) (E:XK) (t:TS) (f:τ):Prop:=
 ∀ (ρ0:Ξ) (G0 H0:Hp) (ρ:Ξ) (G:Hp) (σ:St) (H:Hp) (δ:DS) (S:ak) (o:sd) (S':ak) (D:jg),jL K cl ρ0 G0 H0 ρ G H δ σ S->f δ S=some (o,S')->CO K cl E ρ0 G0 H0 D S' o->t D σ H
def jL.grow {ρ0:Ξ} {G0 H0:Hp} {ρ ρ':Ξ} {G H G' H':Hp} {δ:DS} {σ:St} {S S':ak} (I:jL K cl ρ0 G0 H0 ρ G H δ σ S) (g:GS ρ G H ρ' G' H') (s:SR K ρ' cl G' H' S'):jL K cl ρ0 G0 H0 ρ' G' H' δ σ S':=⟨I.rs.grow g s,I.gs.trans g,I.ow⟩
def jL.sub {ρ0:Ξ} {G0 H0:Hp} {ρ:Ξ} {G H:Hp} {δ δ':DS} {σ σ':St} {S:ak} (I:jL K cl ρ0 G0 H0 ρ G H δ σ S) (R:Rl K ρ G H δ' σ') (o:fW δ' σ' δ σ):jL K cl ρ0 G0 H0 ρ G H δ' σ' S:=
 ⟨⟨R,I.rs.st,λ i ds p h1 h2=>by
  obtain ⟨es,h3,h4⟩:=o i ds p h1 h2;exact I.rs.ap i es p h3 h4⟩,I.gs,λ i p ds h1 h2=>by
  obtain ⟨es,h3,h4⟩:=o i ds p h1 h2;exact I.ow i p es h3 h4⟩
def jL.base {ρ0:Ξ} {G0 H0:Hp} {ρ:Ξ} {G H:Hp} {δ:DS} {σ:St} {S:ak} (I:jL K cl ρ0 G0 H0 ρ G H δ σ S):jL K cl ρ G H0 ρ G H δ σ S:=
 ⟨I.rs,⟨RV _,.refl _,I.gs.s,λ b o hb e=>I.gs.h b o (λ h=>hb (I.gs.r.subset h)) e,I.gs.k,λ _ _ e=>e,λ a h1 h2=>absurd h1 h2,I.gs.t⟩,I.ow⟩
def GS.rebase {ρ0:Ξ} {G0 H0:Hp} {ρ:Ξ} {G H:Hp} {ρ':Ξ} {G' H':Hp} (a:GS ρ0 G0 H0 ρ G H) (b:GS ρ G H0 ρ' G' H'):GS ρ0 G0 H0 ρ' G' H':=
 ⟨a.r.trans b.r,a.g.trans b.g,b.s,λ c o hc e=>b.h c o (λ h=>by rw [a.f c h hc] at e;cases e) e,b.k,λ c h1 h2=>b.n c h1 (a.n c h1 h2),(λ c h1 h2=>by
  by_cases h3:c∈ρ
  . exact a.f c h3 h2
  . exact b.f c h1 h3),b.t⟩
def jL.rebase {ρ0:Ξ} {G0 H0:Hp} {ρ:Ξ} {G H:Hp} {ρ':Ξ} {G' H':Hp} {δ:DS} {σ:St} {S:ak} (a:GS ρ0 G0 H0 ρ G H) (I:jL K cl ρ G H0 ρ' G' H' δ σ S):jL K cl ρ0 G0 H0 ρ' G' H' δ σ S:=⟨I.rs,a.rebase I.gs,I.ow⟩
instance vh (δ:DS) (σ:St) (b:Addr):Prop:=∃ (i:Nat) (ds:List W),δ[i]?=some (.own ds)/\σ[i]?=some (some (.ref b))
instance hideO (δ:DS) (σ:St) (H:Hp):Hp:=λ b=>@ite _ (vh δ σ b) (Classical.propDecidable _) none (H b)
def qF {δ:DS} {σ:St} {H:Hp} {b:Addr} (h:vh δ σ b):hideO δ σ H b=none:=by
 unfold hideO;rw [QF h]
def dt {δ:DS} {σ:St} {H:Hp} {b:Addr} (h:¬ vh δ σ b):hideO δ σ H b=H b:=by
 unfold hideO;rw [QS h]
instance AR:dJ->sd
 | .nx δ=>.nx δ
 | .bk δ=>.bk δ
 | .ct δ=>.ct δ
 | .rt d=>.rt d
instance aw (f:υ):DS->ak->SO:=λ δ S=>(f δ).map λ o=>(AR o,S)
def EZ {t:TS} {f:υ} (h:∀ ρ,pz K ρ t f):nU K cl E t (aw f):=λ ρ0 G0 H0 ρ G σ H δ S o S' D I e p=>by
 obtain ⟨o',e1,e2⟩:=oM e
 cases e2;have same0:b0 (hideO δ σ H) H:=λ b u hb=>by
  by_cases ho:vh δ σ b
  . rw [qF ho] at hb;cases hb
  . rw [dt ho] at hb;exact hb
 have sameG:b0 G (hideO δ σ H):=λ b u hb=>by
  by_cases ho:vh δ σ b
  . obtain ⟨i,ds,k1,k2⟩:=ho;obtain ⟨o,m1,q,vs,rfl,m3,m4,m5⟩:=I.rs.rl.sl i _ k1;rw [k2] at m1;cases m1;rw [m3] at hb;cases hb
  . rw [dt ho];exact I.gs.s b u hb
 have notown:∀ a,a∈ρ->¬ vh δ σ a:=λ a ha hy0=>by obtain ⟨i,ds,k1,k2⟩:=hy0;exact I.rs.ap i ds a k1 k2 ha
 have ownlst:∀ b,vh δ σ b->∃ vs,H b=some (.lst vs):=λ b hy0=>by
  obtain ⟨i,ds,k1,k2⟩:=hy0;obtain ⟨o,m1,q,vs,rfl,m3,m4,m5⟩:=I.rs.rl.sl i _ k1;rw [k2] at m1;cases m1;exact ⟨vs,m4⟩
 have sr0:SR K ρ cl G (hideO δ σ H) S:=⟨I.rs.st.len,I.rs.st.nd,λ n ob en=>by
  obtain ⟨a,k1,k2,k3⟩:=I.rs.st.ob n ob en;refine ⟨a,k1,k2,k3.move (RV _) (.refl _) (dt (notown a (Rz k1))) λ dx d1 d2=>⟨?_,d1⟩⟩;rw [dt λ ho=>by
   obtain ⟨vs,hv⟩:=ownlst dx ho;rw [d2] at hv;cases hv]
  exact d2⟩
 have iv:Iv K ρ G (hideO δ σ H) G H δ σ:=⟨I.rs.rl,⟨.refl _,same0,I.gs.s,λ _ _ e=>e⟩,λ i q ds k1 k2=>qF ⟨i,ds,k1,k2⟩⟩
 have h0own:∀ b,H0 b≠none->¬ vh δ σ b:=λ b hb hy0=>by obtain ⟨i,ds,k1,k2⟩:=hy0;exact hb (I.ow i b ds k1 k2)
 have gs:∀ {G' H':Hp},Gr G (hideO δ σ H) G' H'->GS ρ0 G0 H0 ρ G' H':=λ {G' H'} g=>
  ⟨I.gs.r,I.gs.g.trans g.g,g.s,λ b u hb eb=>g.h b u (by rw [dt (h0own b (by rw [eb];simp))];exact I.gs.h b u hb eb),λ b hb=>rh g.h (by rw [dt (h0own b hb)];exact I.gs.k b hb),λ b h1 h2=>g.n b (by unfold nT;rw [dt (h0own b h1.1)];exact I.gs.t b h1) (I.gs.n b h1 h2),I.gs.f,λ b h1=>nT.same (by unfold nT;rw [dt (h0own b h1.1)];exact I.gs.t b h1) g.h⟩
 have nx:∀ {δ':DS} {σ':St} {G' H':Hp},Iv K ρ G (hideO δ σ H) G' H' δ' σ'->jL K cl ρ0 G0 H0 ρ G' H' δ' σ' S:=λ {δ' σ' G' H'} I'=>
  ⟨⟨I'.rl,sr0.grow I'.gr,λ i ds q k1 k2 hq=>by
   have:=I'.ow i q ds k1 k2;rw [dt (notown q hq)] at this;obtain ⟨j,hj,ej⟩:=List.mem_iff_getElem.mp hq;obtain ⟨b,m1,m2,m3⟩:=I.rs.st.ob j (S[j]'(by rw [<-I.rs.st.len];exact hj)) (QP _);rw [QP hj,ej] at m1;cases m1;obtain ⟨y,hy,_⟩:=m3.some;rw [this] at hy;cases hy⟩,gs I'.gr,λ i q ds k1 k2=>by
   have h1:=I'.ow i q ds k1 k2;cases h2:H0 q with
   | none=>rfl
   | some u=>
    exfalso;have h3:=I.gs.k q (by rw [h2];simp);rw [dt (h0own q (by rw [h2];simp))] at h1;exact h3 h1⟩
 refine h ρ G (hideO δ σ H) G σ H δ o' D iv e1 ?_;cases o' with
 | nx δ'=>exact λ σ' G' H' I'=>p σ' ρ G' H' (nx I')
 | bk δ'=>exact λ σ' G' H' I'=>p σ' ρ G' H' (nx I')
 | ct δ'=>exact λ σ' G' H' I'=>p σ' ρ G' H' (nx I')
 | rt d=>exact λ v G' H' g dv=>p v ρ G' H' (gs g) (sr0.grow g) dv
instance aC (f g:τ):DS->ak->SO:=λ δ S=>match f δ S with
 | some (.nx δ',S')=>g δ' S'
 | o=>o
def By {t u:TS} {f g:τ} (h1:nU K cl E t f) (h2:nU K cl E u g):nU K cl E (Jf t u) (aC f g):=λ ρ0 G0 H0 ρ G σ H δ S o S' D I e p=>by
 unfold aC at e;cases ef:f δ S with
 | none=>rw [ef] at e;cases e
 | some r=>
  obtain ⟨o1,S1⟩:=r;rw [ef] at e;refine h1 ρ0 G0 H0 ρ G σ H δ S o1 S1 _ I ef ?_;cases o1 with
  | nx δ'=>exact λ σ' ρ' G' H' I'=>h2 ρ0 G0 H0 ρ' G' σ' H' δ' S1 o S' D I' e p
  | bk δ'=>cases e;exact p
  | ct δ'=>cases e;exact p
  | rt d=>cases e;exact p
  | xc c=>cases e;exact p
instance ke {α:Type} (m:SM α) (k:α->ak->SO):SO:=match m with
 | some (.ok a,S)=>k a S
 | some (.xc c,S)=>some (.xc c,S)
 | none=>none
def mh {α:Type} {m:SM α} {k:α->ak->SO} {o:sd} {S':ak} (h:ke m k=some (o,S')):(∃ c,m=some (.xc c,S')/\o=.xc c)∨∃ a S1,m=some (.ok a,S1)/\k a S1=some (o,S'):=by
 unfold ke at h;split at h
 . exact .inr ⟨_,_,rfl,h⟩
 . cases h;exact .inl ⟨_,rfl,rfl⟩
 . cases h
def fz {t:TE} {f:ζ} (h:SE K cl E t f) {ρ0:Ξ} {G0 H0:Hp} {ρ:Ξ} {G:Hp} {σ:St} {H:Hp} {δ:DS} {S:ak} {o:sd} {S':ak} {D:jg} {k:W->ak->SO} {P:V->Hp->Prop} (I:jL K cl ρ0 G0 H0 ρ G H δ σ S) (e:ke (f δ S) k=some (o,S')) (p:CO K cl E ρ0 G0 H0 D S' o)
 (q:∀ d S1,k d S1=some (o,S')->∀ v ρ' G' H',GS ρ G H ρ' G' H'->SR K ρ' cl G' H' S1->Dw K ρ' G' v d->P v H'):t σ H P:=by
 rcases mh e with ⟨c,em,rfl⟩ | ⟨d,S1,em,e⟩
 . exact h ρ G σ H δ S _ _ _ I.rs em (λ d hd=>by cases hd) (λ c' hc ρ1 G1 H1 g1 s1=>by cases hc;exact p ρ1 G1 H1 (I.gs.trans g1) s1)
 . exact h ρ G σ H δ S _ _ _ I.rs em (λ d' hd=>by cases hd;exact q _ _ e) (λ c' hc=>by cases hc)
def yq {t:TT} {f:DS->ak->SM Bool} (h:ST K cl E t f) {ρ0:Ξ} {G0 H0:Hp} {ρ:Ξ} {G:Hp} {σ:St} {H:Hp} {δ:DS} {S:ak} {o:sd} {S':ak} {D:jg} {k:Bool->ak->SO} {P:Bool->Hp->Prop} (I:jL K cl ρ0 G0 H0 ρ G H δ σ S) (e:ke (f δ S) k=some (o,S')) (p:CO K cl E ρ0 G0 H0 D S' o)
 (q:∀ d S1,k d S1=some (o,S')->∀ ρ' G' H',GS ρ G H ρ' G' H'->SR K ρ' cl G' H' S1->P d H'):t σ H P:=by
 rcases mh e with ⟨c,em,rfl⟩ | ⟨d,S1,em,e⟩
 . exact h ρ G σ H δ S _ _ _ I.rs em (λ d hd=>by cases hd) (λ c' hc ρ1 G1 H1 g1 s1=>by cases hc;exact p ρ1 G1 H1 (I.gs.trans g1) s1)
 . exact h ρ G σ H δ S _ _ _ I.rs em (λ d' hd=>by cases hd;exact q _ _ e) (λ c' hc=>by cases hc)
instance bR (c:DS->ak->SM Bool) (f g:τ):DS->ak->SO:=λ δ S=>ke (c δ S) λ b S1=>if b=true then f δ S1 else g δ S1
def FQ {tc:TT} {t u:TS} {c:DS->ak->SM Bool} {f g:τ} (hc:ST K cl E tc c) (h1:nU K cl E t f) (h2:nU K cl E u g):nU K cl E (Ik tc t u) (bR c f g):=λ ρ0 G0 H0 ρ G σ H δ S o S' D I e p=>
 yq hc I e p λ b S1 e1 ρ1 G1 H1 g1 s1=>by
  cases b with
  | true=>exact h1 ρ0 G0 H0 ρ1 G1 σ H1 δ S1 o S' D (I.grow g1 s1) e1 p
  | false=>exact h2 ρ0 G0 H0 ρ1 G1 σ H1 δ S1 o S' D (I.grow g1 s1) e1 p
instance dR (f:ζ):DS->ak->SO:=λ δ S=>ke (f δ S) λ d S1=>some (.rt d,S1)
def Cg {t:TE} {f:ζ} (h:SE K cl E t f):nU K cl E (IY t) (dR f):=λ ρ0 G0 H0 ρ G σ H δ S o S' D I e p=>
 fz h I e p λ d S1 e1 v ρ1 G1 H1 g1 s1 dv=>by
  cases e1;exact p v ρ1 G1 H1 (I.gs.trans g1) s1 dv
instance cg (f:ζ) (h:η):DS->ak->SO:=λ δ S=>ke (f δ S) λ d S1=>(h d δ).map λ δ'=>(.nx δ',S1)
def CV {t:TE} {g:TG} {f:ζ} {h:η} (h1:SE K cl E t f) (h2:∀ ρ,DG K ρ g h):nU K cl E (pU t g) (cg f h):=λ ρ0 G0 H0 ρ G σ H δ S o S' D I e p=>
 fz h1 I e p λ d S1 e1 v ρ1 G1 H1 g1 s1 dv=>by
  obtain ⟨δ',e2,e3⟩:=oM e1
  cases e3;have I1:=I.grow g1 s1;exact h2 ρ1 G1 H1 δ σ v d δ' _ I1.rs.rl dv e2 λ σ' R o=>p σ' ρ1 G1 H1 (I1.sub R o)
instance bC (f:ζ):DS->ak->SO:=λ δ S=>ke (f δ S) λ _ S1=>some (.nx δ,S1)
def xJ {t:TE} {f:ζ} (h:SE K cl E t f):nU K cl E (vA t) (bC f):=λ ρ0 G0 H0 ρ G σ H δ S o S' D I e p=>
 fz h I e p λ d S1 e1 v ρ1 G1 H1 g1 s1 dv=>by
  cases e1;exact p σ ρ1 G1 H1 (I.grow g1 s1)
instance Lh (i:Nat) (f:τ):DS->ak->SO:=λ δ S=>f (frz i δ) S
instance yd (c f:Str) (fo fv:ζ):DS->ak->SO:=λ δ S=>ke (fv δ S) λ d S1=>ke (fo δ S1) λ x S2=>(iT c x S2).bind λ p=>if p.2.length<1000 then some (.nx δ,S2.set p.1 (.ins c (zI f d p.2))) else none
def BX {c f:Str} {to tv:TE} {fo fv:ζ} (hc:tX K (cl c)) (hn:dI K (cl c) f) (ho:SE K cl E to fo) (hv:SE K cl E tv fv):nU K cl E (Lj K to tv f) (yd c f fo fv):=λ ρ0 G0 H0 ρ G σ H δ S o S' D I e p=>
 fz hv I e p λ d S1 e1 v ρ1 G1 H1 g1 s1 dv=>by
  have I1:=I.grow g1 s1;refine fz ho I1 e1 p λ x S2 e2 u ρ2 G2 H2 g2 s2 du=>?_;obtain ⟨⟨n,fs⟩,e3,e4⟩:=oB e2
  split at e4
  case isFalse=>cases e4
  rename_i hl;cases e4;obtain ⟨rfl,e5⟩:=kH e3;obtain ⟨a,rfl,ea⟩:=cy du;obtain ⟨ga,dx,ws,k1,k2,k3,k4⟩:=s2.addr e5 ea;have I2:=I1.grow g2 s2;have hda:dx≠a:=λ z=>by rw [z,k1] at k3;cases k3
  obtain ⟨s3,g3⟩:=s2.put (x:=.ins (cl c) dx (putF f v ws)) (o':=.ins c (zI f d fs)) g2.s e5 ea (λ b z=>by cases z) ⟨dx,_,aP,k2,by rw [aL hda];exact k3,k4.putF ((dv.ext g2.r).same g2.g)⟩;exact ⟨a,_,dx,ws,rfl,k1,hc,hn,by rw [<-k4.length];exact hl,p σ ρ2 G2 _ (I2.grow g3 s3)⟩
instance bv (h:η) (fb:τ):List W->DS->ak->SO
 | [],δ,S=>some (.nx δ,S)
 | d::ds,δ,S=>(h d δ).bind λ δ2=>match fb δ2 S with
  | some (.nx δ',S')=>bv h fb ds δ' S'
  | some (.ct δ',S')=>bv h fb ds δ' S'
  | some (.bk δ',S')=>some (.nx δ',S')
  | some (.rt d,S')=>some (.rt d,S')
  | some (.xc c,S')=>some (.xc c,S')
  | none=>none
instance eC (fi:Υ) (h:η) (fb:τ):DS->ak->SO:=λ δ S=>ke (fi δ S) λ ds S1=>bv h fb ds δ S1
def Av {wi:TI} {g:TG} {tb:TS} {fi:Υ} {h:η} {fb:τ} (hi:Kg K cl E wi fi) (hg:∀ ρ,DG K ρ g h) (hb:nU K cl E tb fb):nU K cl E (Eg wi g tb) (eC fi h fb):=λ ρ0 G0 H0 ρ G σ H δ S o S' D I e p=>by
 rcases mh e with ⟨c,em,rfl⟩ | ⟨ds,S1,em,e⟩
 . exact hi ρ G σ H δ S _ _ _ I.rs em (λ d hd=>by cases hd) (λ c' hc ρ1 G1 H1 g1 s1=>by cases hc;exact p ρ1 G1 H1 (I.gs.trans g1) s1)
 refine hi ρ G σ H δ S _ _ _ I.rs em (λ ds' hd=>?_) (λ c' hc=>by cases hc);cases hd;intro J ρ1 G1 H1 g1 s1 it;refine ⟨λ i m σ H=>m=ds.length-i/\i<=ds.length/\∃ ρ2 G2 δ2 S2,jL K cl ρ0 G0 H0 ρ2 G2 H δ2 σ S2/\ρ1 <+: ρ2/\b0 G1 G2/\bv h fb (ds.drop i) δ2 S2=some (o,S'),⟨ds.length,by simp,RN _,ρ1,G1,δ,S1,I.grow g1 s1,RV _,.refl _,by simpa using e⟩,?_⟩;rintro i m σ2 H2 ⟨rfl,hil,ρ2,G2,δ2,S2,I2,pr2,s2,e2⟩;have ia:=it i G2 H2 s2 I2.gs.s;by_cases hlt:i<ds.length
 . refine .inr ?_;obtain ⟨go,step⟩:=ia.1 ds[i] (QP hlt);rw [Rx hlt] at e2;obtain ⟨δ3,e3,e4⟩:=oB e2
   have turn:∀ (P:jg) (o1:sd) (S3:ak),fb δ3 S2=some (o1,S3)->(∀ G3 H3,Gr G2 H2 G3 H3->CO K cl E ρ2 G3 H0 P S3 o1)->∀ x H',J.yld i H2 x H'->g x σ2 H' λ σ2 H2=>tb P σ2 H2:=λ P o1 S3 ef hp x H' y=>by
    obtain ⟨G3,g3,dx⟩:=step x H' y;have I3:=I2.grow (.of g3) (I2.rs.st.grow g3);refine hg ρ2 G3 H' δ2 σ2 x _ δ3 _ I3.rs.rl (dx.ext pr2) e3 λ σ3 R3 o3=>?_;exact hb ρ2 G3 H0 ρ2 G3 σ3 H' δ3 S2 o1 S3 P (I3.sub R3 o3).base ef (hp G3 H' g3)
   have back:∀ {G3 H3:Hp},Gr G2 H2 G3 H3->∀ {ρ4:Ξ} {G4 H4:Hp} {σ4:St} {δ4:DS} {S4:ak},jL K cl ρ2 G3 H0 ρ4 G4 H4 δ4 σ4 S4->jL K cl ρ0 G0 H0 ρ4 G4 H4 δ4 σ4 S4/\ρ1 <+: ρ4/\b0 G1 G4:=λ {G3 H3} g3 {ρ4 G4 H4 σ4 δ4 S4} I4=>⟨I4.rebase (I2.gs.trans (.of g3)),pr2.trans I4.gs.r,s2.trans (g3.g.trans I4.gs.g)⟩
   cases ef:fb δ3 S2 with
   | none=>rw [ef] at e4;cases e4
   | some r=>
    obtain ⟨o1,S3⟩:=r;rw [ef] at e4;cases o1 with
    | nx δ'=>
     exact ⟨go,λ σ' H'=>∃ ρ' G',jL K cl ρ0 G0 H0 ρ' G' H' δ' σ' S3/\ρ1 <+: ρ'/\b0 G1 G',λ σ' H' hy0=>by obtain ⟨ρ',G',I',q1,q2⟩:=hy0;exact ⟨ds.length-(i+1),by omega,rfl,hlt,ρ',G',δ',S3,I',q1,q2,e4⟩,turn _ _ _ ef λ G3 H3 g3 σ5 ρ5 G5 H5 I5=>⟨ρ5,G5,back g3 I5⟩⟩
    | ct δ'=>
     exact ⟨go,λ σ' H'=>∃ ρ' G',jL K cl ρ0 G0 H0 ρ' G' H' δ' σ' S3/\ρ1 <+: ρ'/\b0 G1 G',λ σ' H' hy0=>by obtain ⟨ρ',G',I',q1,q2⟩:=hy0;exact ⟨ds.length-(i+1),by omega,rfl,hlt,ρ',G',δ',S3,I',q1,q2,e4⟩,turn _ _ _ ef λ G3 H3 g3 σ5 ρ5 G5 H5 I5=>⟨ρ5,G5,back g3 I5⟩⟩
    | bk δ'=>
     cases e4;exact ⟨go,λ _ _=>False,λ _ _ z=>z.elim,turn _ _ _ ef λ G3 H3 g3 σ5 ρ5 G5 H5 I5=>p σ5 ρ5 G5 H5 (back g3 I5).1⟩
    | rt d=>
     cases e4;exact ⟨go,λ _ _=>False,λ _ _ z=>z.elim,turn _ _ _ ef λ G3 H3 g3 v ρ5 G5 H5 g5 s5 dv=>p v ρ5 G5 H5 ((I2.gs.trans (.of g3)).rebase g5) s5 dv⟩
    | xc c=>
     cases e4;exact ⟨go,λ _ _=>False,λ _ _ z=>z.elim,turn _ _ _ ef λ G3 H3 g3 ρ5 G5 H5 g5 s5=>p ρ5 G5 H5 ((I2.gs.trans (.of g3)).rebase g5) s5⟩
 . have hi':i=ds.length:=by omega
   subst hi';rw [SG] at e2;cases e2;exact .inl ⟨ia.2 (QH _),p σ2 ρ2 G2 H2 I2⟩
instance d9 (c:DS->ak->SM Bool) (fb:τ):Nat->DS->ak->SO
 | 0,_,_=>none
 | n+1,δ,S=>ke (c δ S) λ b S1=>if b=true then match fb δ S1 with
  | some (.nx δ',S')=>d9 c fb n δ' S'
  | some (.ct δ',S')=>d9 c fb n δ' S'
  | some (.bk δ',S')=>some (.nx δ',S')
  | some (.rt d,S')=>some (.rt d,S')
  | some (.xc x,S')=>some (.xc x,S')
  | none=>none
  else some (.nx δ,S1)
def vt {n:Nat} {tc:TT} {tb:TS} {c:DS->ak->SM Bool} {fb:τ} (hc:ST K cl E tc c) (hb:nU K cl E tb fb):nU K cl E (A0 tc tb) (d9 c fb n):=λ ρ0 G0 H0 ρ G σ H δ S o S' D I e p=>by
 refine ⟨λ m σ H=>∃ ρ G δ S,jL K cl ρ0 G0 H0 ρ G H δ σ S/\d9 c fb m δ S=some (o,S'),⟨n,ρ,G,δ,S,I,e⟩,?_⟩;rintro m σ2 H2 ⟨ρ2,G2,δ2,S2,I2,e2⟩;cases m with
 | zero=>cases e2
 | succ m=>
  refine yq hc I2 e2 p λ b S3 e3 ρ3 G3 H3 g3 s3=>?_;have I3:=I2.grow g3 s3;cases b with
  | false=>cases e3;exact p σ2 ρ3 G3 H3 I3
  | true=>
   rw [QF rfl] at e3 ⊢;cases ef:fb δ2 S3 with
   | none=>rw [ef] at e3;cases e3
   | some r=>
    obtain ⟨o1,S4⟩:=r;rw [ef] at e3;cases o1 with
    | nx δ'=>exact ⟨λ σ' H'=>∃ ρ' G',jL K cl ρ0 G0 H0 ρ' G' H' δ' σ' S4,λ σ' H' hy0=>by obtain ⟨ρ',G',I'⟩:=hy0;exact ⟨m,RE _,ρ',G',δ',S4,I',e3⟩,hb ρ0 G0 H0 ρ3 G3 σ2 H3 δ2 S3 _ _ _ I3 ef λ σ5 ρ5 G5 H5 I5=>⟨ρ5,G5,I5⟩⟩
    | ct δ'=>exact ⟨λ σ' H'=>∃ ρ' G',jL K cl ρ0 G0 H0 ρ' G' H' δ' σ' S4,λ σ' H' hy0=>by obtain ⟨ρ',G',I'⟩:=hy0;exact ⟨m,RE _,ρ',G',δ',S4,I',e3⟩,hb ρ0 G0 H0 ρ3 G3 σ2 H3 δ2 S3 _ _ _ I3 ef λ σ5 ρ5 G5 H5 I5=>⟨ρ5,G5,I5⟩⟩
    | bk δ'=>cases e3;exact ⟨λ _ _=>False,λ _ _ z=>z.elim,hb ρ0 G0 H0 ρ3 G3 σ2 H3 δ2 S3 _ _ _ I3 ef λ σ5 ρ5 G5 H5 I5=>p σ5 ρ5 G5 H5 I5⟩
    | rt d=>cases e3;exact ⟨λ _ _=>False,λ _ _ z=>z.elim,hb ρ0 G0 H0 ρ3 G3 σ2 H3 δ2 S3 _ _ _ I3 ef p⟩
    | xc x=>cases e3;exact ⟨λ _ _=>False,λ _ _ z=>z.elim,hb ρ0 G0 H0 ρ3 G3 σ2 H3 δ2 S3 _ _ _ I3 ef p⟩
instance eM:SO->SM W
 | some (.rt d,S)=>some (.ok d,S)
 | some (.nx _,S)=>some (.ok .none,S)
 | some (.xc c,S)=>some (.xc c,S)
 | _=>none
instance cG (a n:Nat) (fb:τ):List W->ak->SM W:=λ ds S=>if ds.length=a then eM (fb (bM n ds) S) else none
def qz {a n:Nat} {fb:τ} {ds:List W} {S:ak} {r:Rs W×ak} (h:cG a n fb ds S=some r):ds.length=a:=by
 unfold cG at h;split at h
 . assumption
 . cases h
def O3 {t:TS} {fb:τ} {N:Ω} {a n:Nat} {vs:List V} {H:Hp} {Q:VK} {E:XK} (hn:N.length=n) (h:nU K cl E t fb) (hsp:Q3 K cl (cG a n fb) vs H Q E):t { nx:=λ _ H'=>Q .non H',rt:=Q } (start N vs) H:=by
 subst hn;obtain ⟨ρ,G,S,ds,r,S',s,sr,da,e,q,qx⟩:=hsp;have R:=uJ (N:=N) s da;have I:jL K cl ρ G H ρ G H (bM N.length ds) (start N vs) S:=⟨⟨R,sr,λ i ds' p h1=>absurd h1 i8⟩,.refl s,λ i p ds' h1=>absurd h1 i8⟩
 unfold cG at e;rw [QF (qz (show cG a N.length fb ds S=some (r,S') from e))] at e;cases ef:fb (bM N.length ds) S with
 | none=>rw [ef] at e;cases e
 | some o=>
  obtain ⟨o,S1⟩:=o;rw [ef] at e;refine h ρ G H ρ G _ H _ S o S1 _ I ef ?_;cases o with
  | nx δ=>cases e;exact λ σ' ρ' G' H' I'=>q _ rfl _ ρ' G' H' I'.gs I'.rs.st .non
  | rt d'=>cases e;exact λ v ρ' G' H' g s dv=>q _ rfl v ρ' G' H' g s dv
  | xc c=>cases e;exact λ ρ' G' H' g s=>qx _ rfl ρ' G' H' g s
  | bk _=>cases e
  | ct _=>cases e
def DC {f:List W->ak->SM W} {a:Nat} {vs:List V} {H:Hp} {Q:VK} {E:XK} (hf:∀ ds S r,f ds S=some r->ds.length=a) (h:kP K cl f vs H Q E):vs.length=a:=by
 obtain ⟨ρ,G,S,ds,r,S',s,sr,da,e,q⟩:=h;rw [da.length];exact hf ds S _ e
def KZ {t:TS} {fb:τ} {N:Ω} {a n:Nat} {vs:List V} {H:Hp} {Q:VK} {E:XK} (hn:N.length=n) (h:nU K cl E0 t fb) (hsp:kP K cl (cG a n fb) vs H Q E):t { nx:=λ _ H'=>Q .non H',rt:=Q } (start N vs) H:=by
 obtain ⟨ρ,G,S,ds,d,S',s,sr,da,e,q⟩:=hsp;exact O3 (E:=E0) hn h ⟨ρ,G,S,ds,.ok d,S',s,sr,da,e,(λ d' hd=>by cases hd;exact q),(λ c hc=>by cases hc)⟩
def B7 {g:List W->ak->SM W} {vs:List V} {H:Hp} {Q:VK} {E:XK} (hg:∀ ds S,g ds S=none) (h:kP K cl g vs H Q E):False:=by
 obtain ⟨ρ,G,S,ds,r,S',s,sr,da,e,q⟩:=h;rw [hg] at e;cases e
def fF.no0 {P:Program} {w:World} {mg:Θ} {base:Heap} {CX:w9} {k:Nat} {f:Addr} {fd:FuncData} {ps:Ω} {g:List W->ak->SM W} (hg:∀ ds S,g ds S=none):fF P w K mg base CX k f fd ps (kP K cl g):=
 ⟨λ _ _ _ _ h=>(B7 hg h).elim,λ _ _ _ _ _ _ _ _ _ _ _ _ _ h=>(B7 hg h).elim⟩
end
section
variable {X:Cx} {pins:Δ} {σ:St} {H:Hp} {s:Shared} {a:Addr} {kvs:List (aB×V)} {k:aB} {u:Value} {A:Around} {E:Γ}
end
section
variable {X:Cx} {o e f:Expr} {td ty tx:TE} {apos cpos:Pos}
end
section
variable {prog:Program} {w:World} {A:Around} {E:Γ} {s:Shared}
end
section
variable {X:Cx} {pos:Pos}
end
section
variable {K:Frag} {ρ:Ξ}
instance N9:W->Option V
 | .none=>some .non
 | .bool b=>some (.bl b)
 | .int i=>some (.int i)
 | .str x=>some (.str x)
 | _=>none
instance rY:List W->Option (List V)
 | []=>some []
 | d::ds=>(N9 d).bind λ v=>(rY ds).map (v::·)
def wE {H:Hp} {v u:V} {d:W} (h:Dw K ρ H v d) (e:N9 d=some u):v=u/\fV u=true:=by
 cases h <;> first | (cases e;exact ⟨rfl,rfl⟩) | cases e
def tz {H:Hp} {vs us:List V} {ds:List W} (h:aE K ρ H vs ds):rY ds=some us->vs=us/\us.all fV=true:=
 h.ind (M:=λ vs ds=>∀ us,rY ds=some us->vs=us/\us.all fV=true) (λ us e=>by cases e;exact ⟨rfl,rfl⟩) (λ _ _ _ _ a ih us e=>by
  obtain ⟨u,e1,e⟩:=oB e
  obtain ⟨us,e2,rfl⟩:=oM e
  obtain ⟨h1,h2⟩:=wE a e1;obtain ⟨h3,h4⟩:=ih _ e2;exact ⟨by rw [h1,h3],by rw [all_cons,h2,h4];rfl⟩) us
instance jf (d e:W):Option Bool:=(rq e).bind λ ds=>(N9 d).bind λ v=>(rY ds).map λ vs=>FJ v vs
instance fj (d e:W):Option Bool:=(jf d e).map (!·)
def ur {H:Hp} {x y:V} {d e:W} {b:Bool} (hx:Dw K ρ H x d) (hy:Dw K ρ H y e) (h:jf d e=some b):∃ p xs,y=.ref p/\(cR K H p xs∨fg K H p xs)/\fV x=true/\xs.all fV=true/\FJ x xs=b:=by
 obtain ⟨ds,e1,h⟩:=oB h
 obtain ⟨v,e2,h⟩:=oB h
 obtain ⟨vs,e3,rfl⟩:=oM h
 obtain ⟨rfl,f1⟩:=wE hx e2;cases hy with
 | lst sq da=>
  cases e1;obtain ⟨rfl,f2⟩:=tz da e3;exact ⟨_,_,rfl,.inl sq,f1,f2,rfl⟩
 | tup sq da=>
  cases e1;obtain ⟨rfl,f2⟩:=tz da e3;exact ⟨_,_,rfl,.inr (fg.of sq),f1,f2,rfl⟩
 | _=>cases e1
def Gx:DB K ρ (Ee K false) jf:=λ H x y d e b Q hx hy hg q=>by
 obtain ⟨p,xs,h1,h2,h3,h4,rfl⟩:=ur hx hy hg;exact ⟨p,xs,h1,h2,h3,h4,q⟩
def BL:DB K ρ (Ee K true) fj:=λ H x y d e b Q hx hy hg q=>by
 obtain ⟨b',hg',rfl⟩:=oM hg
 obtain ⟨p,xs,h1,h2,h3,h4,rfl⟩:=ur hx hy hg';exact ⟨p,xs,h1,h2,h3,h4,q⟩
instance zT:List W->Option (List Bool)
 | []=>some []
 | d::ds=>(Bu d).bind λ b=>(zT ds).map (b::·)
def Fz {G:Hp} {vs:List V} {ds:List W} {bs:List Bool} (h:aE K ρ G vs ds):zT ds=some bs->vs=bs.map V.bl:=
 h.ind (M:=λ vs ds=>∀ bs,zT ds=some bs->vs=bs.map V.bl) (λ bs e=>by cases e;rfl) (λ _ _ _ _ a ih bs e=>by
  obtain ⟨i,e1,e⟩:=oB e
  obtain ⟨ms,e2,rfl⟩:=oM e
  cases kF e1;cases B2 a;rw [ih _ e2];rfl) bs
instance Jl (d:W):Option W:=(iR d).bind λ ds=>(zT ds).map λ bs=>.bool (bs.any id)
def JH:K8 K ρ (Ij K) Jl:=λ G H x d c Q s hx hg q=>by
 obtain ⟨ds,e1,hg⟩:=oB hg
 obtain ⟨bs,e2,rfl⟩:=oM hg
 cases gO e1;obtain ⟨p,vs,rfl,sq,da⟩:=jh s hx;rw [Fz da e2] at sq;exact ⟨p,bs,rfl,sq,q _ G H (.refl s) (.bl _)⟩
end
section
variable {K:Frag} {cl:Str->Addr} {E:XK}
instance fJ (x:W) (S:ak):Option (Nat×List W):=match d7 x S with
 | some (n,.lst ds)=>some (n,ds)
 | _=>none
def cM {x:W} {S:ak} {n:Nat} {ds:List W} (h:fJ x S=some (n,ds)):x=.ref n/\S[n]?=some (.lst ds):=by
 unfold fJ at h;cases e:d7 x S with
 | none=>rw [e] at h;cases h
 | some p=>
  obtain ⟨m,o⟩:=p;rw [e] at h;cases o with
  | lst ds=>cases h;exact cS e
  | _=>cases h
instance Qf (x:W) (S:ak):Option (List W):=match fJ x S with
 | some (_,ds)=>some ds
 | none=>rq x
instance rZ (x y:W) (S:ak):Option W:=match fJ x S with
 | some (_,ds)=>(Kl y).bind λ i=>gz ds i
 | none=>aI x y
instance sIx (fa fb:ζ):DS->ak->SM W:=λ δ S=>au (fa δ S) λ x S1=>au (fb δ S1) λ y S2=>fN (rZ x y S2) S2
def L5 {ta tb:TE} {fa fb:ζ} (ha:SE K cl E ta fa) (hb:SE K cl E tb fb):SE K cl E (qH (N1 K) ta tb) (sIx fa fb):=λ ρ G σ H δ S r' S' Q R e q qx=>
 eK ha hb R e (λ x y S2 e2 v u ρ2 G2 H2 g2 s2 dv du=>by
  obtain ⟨c,e3,rfl,rfl⟩:=bx e2;unfold rZ at e3;split at e3
  . rename_i n ds e4;obtain ⟨i,e5,e6⟩:=oB e3
    cases rV e5;cases dH du;obtain ⟨rfl,e7⟩:=cM e4;obtain ⟨a,rfl,ea⟩:=cy dv;obtain ⟨ga,vs,k1,k2⟩:=s2.addr e7 ea;obtain ⟨w,h1,h2⟩:=k2.at e6;exact .inl ⟨a,vs,_,w,rfl,rfl,cR.of k1,h1,q c rfl w ρ2 G2 H2 g2 s2 h2⟩
  . exact y7 G2 H2 v u x y c Q g2.s (.inl dv) du e3 λ w G3 H3 g3 dw=>q c rfl w ρ2 G3 H3 (g2.trans (.of g3)) (s2.grow g3) dw) qx
instance ub (x:W) (S:ak):Option W:=match fJ x S with
 | some (_,ds)=>some (.int ds.length)
 | none=>gP x
instance D5 (fa:ζ):DS->ak->SM W:=λ δ S=>au (fa δ S) λ x S1=>fN (ub x S1) S1
def JF {ta:TE} {fa:ζ} (ha:SE K cl E ta fa):SE K cl E (xK (xY K) (fc ta jN)) (D5 fa):=λ ρ G σ H δ S r' S' Q R e q qx=>
 cA ha R e (λ x S2 e2 v ρ2 G2 H2 g2 s2 dv=>by
  obtain ⟨c,e3,rfl,rfl⟩:=bx e2;unfold ub at e3;split at e3
  . rename_i n ds e4;cases e3;obtain ⟨rfl,e7⟩:=cM e4;obtain ⟨a,rfl,ea⟩:=cy dv;obtain ⟨ga,vs,k1,k2⟩:=s2.addr e7 ea;exact .inl ⟨a,vs,rfl,.inl (cR.of k1),by rw [k2.length];exact q _ rfl _ ρ2 G2 H2 g2 s2 (.int _)⟩
  . exact Bb G2 H2 v x c Q g2.s (.inl dv) e3 λ w G3 H3 g3 dw=>q c rfl w ρ2 G3 H3 (g2.trans (.of g3)) (s2.grow g3) dw) qx
instance MX (g:W->Option W) (fa:ζ):DS->ak->SM W:=λ δ S=>au (fa δ S) λ x S1=>fN (g x) S1
def KU {r:List V->Hp->VK->Prop} {g:W->Option W} {ta:TE} {fa:ζ} (hr:∀ ρ,K8 K ρ r g) (ha:SE K cl E ta fa):SE K cl E (xK r (fc ta jN)) (MX g fa):=λ ρ G σ H δ S r' S' Q R e q qx=>
 cA ha R e (λ x S2 e2 v ρ2 G2 H2 g2 s2 dv=>by
  obtain ⟨c,e3,rfl,rfl⟩:=bx e2;exact hr ρ2 G2 H2 v x c Q g2.s (.inl dv) e3 λ w G3 H3 g3 dw=>q c rfl w ρ2 G3 H3 (g2.trans (.of g3)) (s2.grow g3) dw) qx
instance yi (T:String) (x:W) (S:ak):Option W:=match fJ x S with
 | some _=>if T = "list" then some (.bool true) else none
 | none=>match x with
  | .list _=>if T = "list" then some (.bool true) else none
  | .tuple _=>if T = "tuple" then some (.bool true) else none
  | _=>mF T x
instance xP (K:Frag):List V->Hp->VK->Prop:=λ xs H Q=>D4 xs H Q∨G8 K xs H Q∨Go K xs H Q
def zF {X:Cx} {K:Frag} (h:X.K=K):cV X (.builtin "isinstance") (xP K):=qX.or ((xm h).or (ww h))
instance OJ (T:String) (fa:ζ):DS->ak->SM W:=λ δ S=>au (fa δ S) λ x S1=>fN (yi T x S1) S1
def lZ (c:Value) (h:(c==c)=true):PySem.W.kitOne K c c=some true:=by
 unfold PySem.W.kitOne;rw [QF h]
instance dq (fo fv:ζ):DS->ak->SO:=λ δ S=>ke (fo δ S) λ x S1=>if (fJ x S1).isSome=true then ke (fv δ S1) λ d S2=>(fJ x S2).bind λ p=>if p.2.length<sizeLine then some (.nx δ,S2.set p.1 (.lst (p.2++[d]))) else none else none
def io {ρ ρ':Ξ} {n:Nat} {a:Addr} (h:ρ <+: ρ') (e:ρ[n]?=some a):ρ'[n]?=some a:=by
 obtain ⟨t,rfl⟩:=h;rw [QV (oG e).1];exact e
def qq {to tv:TE} {fo fv:ζ} (ho:SE K cl E to fo) (hv:SE K cl E tv fv):nU K cl E (vA (Kf K "list" om to (fc tv jN))) (dq fo fv):=λ ρ0 G0 H0 ρ G σ H δ S o S' D I e p=>
 fz ho I e p λ x S1 e1 u ρ1 G1 H1 g1 s1 du=>by
  split at e1
  case isFalse=>cases e1
  rename_i hx;obtain ⟨⟨n,ds0⟩,hx0⟩:=RP.mp hx;obtain ⟨rfl,h0⟩:=cM hx0;obtain ⟨a,rfl,ea⟩:=cy du;obtain ⟨_,vs0,k0,_⟩:=s1.addr h0 ea;have I1:=I.grow g1 s1;refine ⟨.inl ⟨rfl,vs0,cR.of k0⟩,fz hv I1 e1 p λ d S2 e2 v ρ2 G2 H2 g2 s2 dv=>?_⟩;obtain ⟨⟨m,ds⟩,e3,e4⟩:=oB e2
  split at e4
  case isFalse=>cases e4
  rename_i hl;cases e4;obtain ⟨em,e5⟩:=cM e3;cases em;have ea2:=io g2.r ea;obtain ⟨ga,vs,k1,k2⟩:=s2.addr e5 ea2;obtain ⟨s3,g3⟩:=s2.put (x:=.lst (vs++[v])) (o':=.lst (ds++[d])) g2.s e5 ea2 (λ b z=>by cases z) ⟨_,aP,k2.app (.cons dv .nil)⟩;exact ⟨a,vs,v,rfl,rfl,k1,by rw [k2.length];exact hl,p σ ρ2 G2 _ ((I1.grow g2 s2).grow g3 s3)⟩
instance rA (fo fi fv:ζ):DS->ak->SO:=λ δ S=>ke (fv δ S) λ d S1=>ke (fo δ S1) λ x S2=>ke (fi δ S2) λ y S3=>(fJ x S3).bind λ p=>(Kl y).bind λ k=>(vL p.2.length k).map λ j=>(.nx δ,S3.set p.1 (.lst (p.2.set j d)))
def xG {to ti tv:TE} {fo fi fv:ζ} (ho:SE K cl E to fo) (hi:SE K cl E ti fi) (hv:SE K cl E tv fv):nU K cl E (pU tv (DU to ti xX)) (rA fo fi fv):=λ ρ0 G0 H0 ρ G σ H δ S o S' D I e p=>
 fz hv I e p λ d S1 e1 v ρ1 G1 H1 g1 s1 dv=>by
  have I1:=I.grow g1 s1;refine fz ho I1 e1 p λ x S2 e2 u ρ2 G2 H2 g2 s2 du=>?_;have I2:=I1.grow g2 s2;refine fz hi I2 e2 p λ y S3 e3 w ρ3 G3 H3 g3 s3 dw=>?_;obtain ⟨⟨n,ds⟩,e4,e5⟩:=oB e3
  obtain ⟨k,e6,e7⟩:=oB e5
  obtain ⟨j,e8,e9⟩:=oM e7
  cases e9;cases rV e6;cases dH dw;obtain ⟨rfl,e10⟩:=cM e4;obtain ⟨a,rfl,ea⟩:=cy du;have ea3:=io g3.r ea;obtain ⟨ga,vs,k1,k2⟩:=s3.addr e10 ea3;have g23:=g2.trans g3;obtain ⟨s4,g4⟩:=s3.put (x:=.lst (vs.set j v)) (o':=.lst (ds.set j d)) g3.s e10 ea3 (λ b z=>by cases z) ⟨_,aP,aE.set ((dv.ext g23.r).same g23.g) j k2⟩;exact ⟨a,vs,k,j,rfl,rfl,k1,by rw [k2.length];exact e8,p σ ρ3 G3 _ ((I2.grow g3 s3).grow g4 s4)⟩
instance jd:W->Option aB
 | .int i=>some (Sum.inl i)
 | .str x=>some (Sum.inr x)
 | _=>none
def pR {ρ:Ξ} {G:Hp} {v:V} {d:W} {k:aB} (h:Dw K ρ G v d) (e:jd d=some k):v=kV k:=by
 cases h <;> first | (cases e;rfl) | cases e
instance sH (x:W) (S:ak):Option (Nat×List (aB×W)):=match d7 x S with
 | some (n,.dK kvs)=>some (n,kvs)
 | _=>none
def qZ {x:W} {S:ak} {n:Nat} {kvs:List (aB×W)} (h:sH x S=some (n,kvs)):x=.ref n/\S[n]?=some (.dK kvs):=by
 unfold sH at h;split at h
 . rename_i n' ds' e;cases h;exact cS e
 . cases h
instance aX {κ:Type} [DecidableEq κ] (kvs:List (κ×W)) (k:κ):Option W:=(kvs.find? λ kv=>decide (kv.1=k)).map (·.2)
instance eI {κ:Type} [DecidableEq κ] (kvs:List (κ×W)) (k:κ) (v:W):List (κ×W):=if (kvs.any λ kv=>decide (kv.1=k))=true then kvs.map λ kv=>if kv.1=k then (kv.1,v) else kv else kvs++[(k,v)]
def jC.val {κ:Type} [DecidableEq κ] {ρ:Ξ} {G:Hp} {k:κ}:∀ {l:List (κ×W)} {m:List (κ×V)},jC K ρ G l m->(∀ d,aX l k=some d->∃ v,f9 m k=some v/\Dw K ρ G v d)/\(aX l k=none->f9 m k=none):=λ q=>by
 induction q with
 | nil=>exact ⟨(λ d e=>by cases e),λ _=>rfl⟩
 | @cons j x0 v0 l m a b ih=>
  obtain ⟨h1,h2⟩:=ih;by_cases hj:j=k
  . subst hj;refine ⟨λ d e=>?_,λ e=>?_⟩
    . have e':aX ((j,x0)::l) j=some x0:=by simp [aX,Rc]
      rw [e'] at e;cases e;exact ⟨_,ja rfl,a⟩
    . simp [aX,Rc] at e
  . refine ⟨λ d e=>?_,λ e=>?_⟩
    . rw [ir hj];exact h1 d (by simpa [aX,Rc,hj] using e)
    . rw [ir hj];exact h2 (by simpa [aX,Rc,hj] using e)
def jC.any {κ:Type} [DecidableEq κ] {ρ:Ξ} {G:Hp} {k:κ}:∀ {l:List (κ×W)} {m:List (κ×V)},jC K ρ G l m->(l.any λ kv=>decide (kv.1=k))=m.any λ kv=>decide (kv.1=k):=λ q=>by
 induction q with
 | nil=>rfl
 | cons a b ih=>rw [RQ,RQ,ih]
def jC.repl {κ:Type} [DecidableEq κ] {ρ:Ξ} {G:Hp} {k:κ} {v:V} {d:W} (h:Dw K ρ G v d):∀ {l:List (κ×W)} {m:List (κ×V)},jC K ρ G l m->jC K ρ G (l.map λ kv=>if kv.1=k then (kv.1,d) else kv) (m.map λ kv=>if kv.1=k then (kv.1,v) else kv):=λ q=>by
 induction q with
 | nil=>exact .nil
 | @cons j d0 v0 l m a b ih=>
  rw [QT,QT];by_cases hj:j=k
  . simp only [QF hj];exact .cons h ih
  . simp only [QS hj];exact .cons a ih
def jC.snoc {κ:Type} {ρ:Ξ} {G:Hp} {k:κ} {v:V} {d:W} (h:Dw K ρ G v d):∀ {l:List (κ×W)} {m:List (κ×V)},jC K ρ G l m->jC K ρ G (l++[(k,d)]) (m++[(k,v)]):=λ q=>by
 induction q with
 | nil=>exact .cons h .nil
 | cons a _ ih=>exact .cons a ih
def jC.put {κ:Type} [DecidableEq κ] {ρ:Ξ} {G:Hp} {k:κ} {v:V} {d:W} (h:Dw K ρ G v d) {l:List (κ×W)} {m:List (κ×V)} (r:jC K ρ G l m):jC K ρ G (eI l k d) (gM m k v):=by
 unfold eI gM;rw [r.any];split
 . exact r.repl h
 . exact r.snoc h
instance pJ (S:ak) (n:Nat):Option (List W):=match S[n]? with
 | some (.lst ds)=>some ds
 | _=>none
instance zx (f:W->Option PyData):List W->Option (List PyData)
 | []=>some []
 | d::ds=>(f d).bind λ x=>(zx f ds).map (x::·)
instance Kh (S:ak):Nat->W->Option PyData
 | 0,_=>none
 | n+1,d=>match d with
  | .list ds=>(zx (Kh S n) ds).map .list
  | .tuple ds=>(zx (Kh S n) ds).map .tuple
  | .ref m=>(pJ S m).bind λ ds=>(zx (Kh S n) ds).map .list
  | d=>d.py
def sJ {H:Hp} {ρ:Ξ} {G:Hp} {f:W->Option PyData} (hf:∀ v d x,Dw K ρ G v d->f d=some x->Dp K H v x) {vs:List V} {ds:List W} {xs:List PyData} (h:aE K ρ G vs ds):zx f ds=some xs->iM K H vs xs:=
 h.ind (M:=λ vs ds=>∀ xs,zx f ds=some xs->iM K H vs xs) (λ xs e=>by cases e;exact .nil) (λ _ _ _ _ a ih xs e=>by
  obtain ⟨x,e1,e⟩:=oB e
  obtain ⟨ys,e2,rfl⟩:=oM e
  exact .cons (hf _ _ _ a e1) (ih _ e2)) xs
def km {ρ:Ξ} {G H:Hp} {S:ak} (sg:b0 G H) (s:SR K ρ cl G H S):∀ (n:Nat) (v:V) (d:W) (x:PyData),Dw K ρ G v d->Kh S n d=some x->Dp K H v x
 | 0,_,_,_,_,e=>by cases e
 | n+1,v,d,x,h,e=>by
  cases h with
  | lst sq da=>
   obtain ⟨xs,e1,rfl⟩:=oM e
   exact .lst (sg.seq sq) (sJ (λ v d x=>km sg s n v d x) da e1)
  | tup sq da=>
   obtain ⟨xs,e1,rfl⟩:=oM e
   exact .tup (sg.tup (fg.of sq)) (sJ (λ v d x=>km sg s n v d x) da e1)
  | ref ea=>
   obtain ⟨ds,e1,e2⟩:=oB e
   obtain ⟨xs,e3,rfl⟩:=oM e2
   unfold pJ at e1;split at e1
   . rename_i ds' h1;cases e1;obtain ⟨ga,vs,k1,k2⟩:=s.addr h1 ea;exact .lst (cR.of k1) (sJ (λ v d x=>km sg s n v d x) k2 e3)
   . cases e1
  | non=>exact Dw.dp (ρ:=ρ) .non e
  | bl b=>exact Dw.dp (ρ:=ρ) (.bl b) e
  | int i=>exact Dw.dp (ρ:=ρ) (.int i) e
  | str y=>exact Dw.dp (ρ:=ρ) (.str y) e
instance Fa (neg:Bool) (d e:W) (S:ak):Option Bool:=match JV d e with
 | some b=>some (if neg then !b else b)
 | none=>(Kh S 24 d).bind λ a=>(Kh S 24 e).bind λ b=>if (a.canLay0&&b.canLay0&&decide (a.depth<=64))=true then some (if neg then !(PyData.eqv a b) else PyData.eqv a b) else none
instance ID (K:Frag) (neg:Bool):R2:=if neg then Hy K else JT K
instance Ex (neg:Bool) (fa fb:ζ):DS->ak->SM Bool:=λ δ S=>au (fa δ S) λ x S1=>au (fb δ S1) λ y S2=>fN (Fa neg x y S2) S2
def vy {ρ:Ξ} {G H:Hp} {S:ak} {neg:Bool} {v u:V} {x y:W} {b:Bool} {Q:VK} (sg:b0 G H) (s:SR K ρ cl G H S) (dv:Dw K ρ G v x) (du:Dw K ρ G u y) (h:Fa neg x y S=some b) (q:Q (.bl b) H):ID K neg v u H Q:=by
 unfold Fa at h;split at h
 . rename_i b' hb;cases h;obtain ⟨h1,h2⟩:=wV (dv.same sg) (du.same sg) hb;cases neg with
   | false=>exact .inl ⟨h1,by rw [h2];exact q⟩
   | true=>exact .inl ⟨h1,by rw [h2];exact q⟩
 . obtain ⟨a,ea,h⟩:=oB h
   obtain ⟨c,ec,h⟩:=oB h
   split at h
   . rename_i hc;cases h;simp only [Rb,Ri] at hc;cases neg with
     | false=>exact .inr ⟨a,c,km sg s 24 _ _ _ dv ea,km sg s 24 _ _ _ du ec,hc.1.1,hc.1.2,hc.2,q⟩
     | true=>exact .inr ⟨a,c,km sg s 24 _ _ _ dv ea,km sg s 24 _ _ _ du ec,hc.1.1,hc.1.2,hc.2,q⟩
   . cases h
def LM {neg:Bool} {ta tb:TE} {fa fb:ζ} (ha:SE K cl E ta fa) (hb:SE K cl E tb fb):ST K cl E (vk (qH (ID K neg) ta tb)) (Ex neg fa fb):=λ ρ G σ H δ S r' S' Q R e q qx=>
 eK ha hb R e (λ x y S2 e2 v u ρ2 G2 H2 g2 s2 dv du=>by
  obtain ⟨c,e3,rfl,rfl⟩:=bx e2;exact vy g2.s s2 dv du e3 ⟨c,rfl,q c rfl ρ2 G2 H2 g2 s2⟩) qx
def K1 {neg:Bool} {ta tb:TE} {fa fb:ζ} (ha:SE K cl E ta fa) (hb:SE K cl E tb fb):SE K cl E (qH (ID K neg) ta tb) (sB (Ex neg fa fb)):=λ ρ G σ H δ S r' S' Q R e q qx=>by
 rcases aT e with ⟨c,em,rfl⟩ | ⟨b,S1,em,e⟩
 . exact eK (r:=Rs.xc c) ha hb R em (λ x y S2 e2=>by obtain ⟨_,_,z,_⟩:=bx e2;cases z) (λ c' hc=>by cases hc;exact qx c rfl)
 . cases e;exact eK ha hb R em (λ x y S2 e2 v u ρ2 G2 H2 g2 s2 dv du=>by
    obtain ⟨c,e3,z,rfl⟩:=bx e2;cases z;exact vy g2.s s2 dv du e3 (q _ rfl _ ρ2 G2 H2 g2 s2 (.bl _))) (λ c hc=>by cases hc)
end
section
variable {K:Frag} {cl:Str->Addr} {E:XK}
instance jM (f:ζ):DS->ak->SM Bool:=λ δ S=>au (f δ S) λ x S1=>fN (Bu x) S1
def Ju {t:TE} {f:ζ} (h:SE K cl E t f):ST K cl E (tB t) (jM f):=λ ρ G σ H δ S r S' Q R e q qx=>
 cA h R e (λ x S1 e1 v ρ1 G1 H1 g1 s1 dv=>by
  obtain ⟨b,e2,rfl,rfl⟩:=bx e1;cases kF e2;cases B2 dv;exact ⟨b,rfl,q b rfl ρ1 G1 H1 g1 s1⟩) qx
instance qO (f g:ζ):DS->ak->SM W:=λ δ S=>au (f δ S) λ x S1=>(Bu x).bind λ b=>if b=true then g δ S1 else some (.ok (.bool false),S1)
instance OW (f g:ζ):DS->ak->SM W:=λ δ S=>au (f δ S) λ x S1=>(Bu x).bind λ b=>if b=true then some (.ok (.bool true),S1) else g δ S1
instance LA (f:ζ):DS->ak->SM W:=λ δ S=>au (f δ S) λ x S1=>(Bu x).map λ b=>(.ok (.bool (!b)),S1)
def Ia {t u:TE} {f g:ζ} (h1:SE K cl E t f) (h2:SE K cl E u g):SE K cl E (CL t u) (qO f g):=λ ρ G σ H δ S r S' Q R e q qx=>
 cA h1 R e (λ x S1 e1 v ρ1 G1 H1 g1 s1 dv=>by
  obtain ⟨b,e2,e3⟩:=oB e1
  cases kF e2;cases B2 dv;refine ⟨b,rfl,?_⟩;cases b with
  | true=>exact h2 ρ1 G1 σ H1 δ S1 r S' Q (R.grow g1 s1) e3 (λ d hd v ρ2 G2 H2 g2 s2 dv=>q d hd v ρ2 G2 H2 (g1.trans g2) s2 dv) λ c hc ρ2 G2 H2 g2 s2=>qx c hc ρ2 G2 H2 (g1.trans g2) s2
  | false=>cases e3;exact q _ rfl _ ρ1 G1 H1 g1 s1 (.bl _)) qx
def Dh.ext {ρ ρ1:Ξ} {J:It} {ds:List W} {i:Nat} {G H:Hp} (h:ρ <+: ρ1) (a:Dh K ρ J ds i G H):Dh K ρ1 J ds i G H:=⟨λ d hd=>⟨(a.1 d hd).1,λ x H' y=>by
 obtain ⟨G',g,dx⟩:=(a.1 d hd).2 x H' y;exact ⟨G',g,dx.ext h⟩⟩,a.2⟩
def xl {S:ak} {n:Nat} {ds:List W} (h:pJ S n=some ds):S[n]?=some (.lst ds):=by
 unfold pJ at h;split at h
 . rename_i e;cases h;exact e
 . cases h
inductive Kd where
 | l
 | e
 | d (m:Nat)
instance jc:aB->W
 | .inl i=>.int i
 | .inr x=>.str x
instance eS (S:ak) (n:Nat×Kd):Option (List W):=match n.2 with
 | .l=>pJ S n.1
 | .e=>(pJ S n.1).map kW
 | .d m=>(sH (.ref n.1) S).bind λ p=>if p.2.length=m then some (p.2.map λ e=>jc e.1) else none
instance O4 (K:Frag) (cl:Str->Addr) (ρ:Ξ) (J:It) (n:Nat×Kd):Prop:=
 ∀ (i:Nat) (ρ1:Ξ) (G1 H1:Hp) (S1:ak) (es:List W),ρ <+: ρ1->b0 G1 H1->SR K ρ1 cl G1 H1 S1->eS S1 n=some es->Dh K ρ1 J es i G1 H1
instance LX (K:Frag) (cl:Str->Addr) (E:XK) (wi:TI) (f:DS->ak->SM (Nat×Kd)):Prop:=
 ∀ (ρ:Ξ) (G:Hp) (σ:St) (H:Hp) (δ:DS) (S:ak) (r:Rs (Nat×Kd)) (S':ak) (R':It->Hp->Prop),RS K cl ρ G H δ σ S->f δ S=some (r,S')->
  (∀ n,r=.ok n->∀ J ρ' G' H',GS ρ G H ρ' G' H'->SR K ρ' cl G' H' S'->O4 K cl ρ' J n->R' J H')->
  (∀ c,r=.xc c->∀ ρ' G' H',GS ρ G H ρ' G' H'->SR K ρ' cl G' H' S'->E (.ref (cl c)) none H')->wi σ H R'
instance iW (f:ζ):DS->ak->SM (Nat×Kd):=λ δ S=>au (f δ S) λ x S1=>(fJ x S1).map λ p=>(.ok (p.1,.l),S1)
def D7 {t:TE} {f:ζ} (h:SE K cl E t f):LX K cl E (zY K t) (iW f):=λ ρ G σ H δ S r S' R' R e q qx=>
 cA h R e (λ x S1 e1 v ρ1 G1 H1 g1 s1 dv=>by
  obtain ⟨⟨n,ds⟩,e2,e3⟩:=oM e1
  cases e3;obtain ⟨rfl,e4⟩:=cM e2;obtain ⟨a,rfl,ea⟩:=cy dv;obtain ⟨ga,vs,k1,k2⟩:=s1.addr e4 ea;refine ⟨a,rfl,.inl ⟨⟨vs,cR.of k1⟩,q (n,.l) rfl _ ρ1 G1 H1 g1 s1 λ i ρ2 G2 H2 S2 es pr s2 sr he=>?_⟩⟩;obtain ⟨ga2,vs2,m1,m2⟩:=sr.addr (xl he) (io pr ea);exact o0 s2 (cR.of m1) m2) qx
instance hU (n:Nat×Kd) (h:η) (fb:τ):Nat->Nat->DS->ak->SO
 | 0,_,_,_=>none
 | f+1,i,δ,S=>(eS S n).bind λ es=>match es[i]? with
  | none=>some (.nx δ,S)
  | some d=>(h d δ).bind λ δ2=>match fb δ2 S with
   | some (.nx δ',S')=>hU n h fb f (i+1) δ' S'
   | some (.ct δ',S')=>hU n h fb f (i+1) δ' S'
   | some (.bk δ',S')=>some (.nx δ',S')
   | some (.rt d,S')=>some (.rt d,S')
   | some (.xc c,S')=>some (.xc c,S')
   | none=>none
instance vO (m:Nat) (fi:DS->ak->SM (Nat×Kd)) (h:η) (fb:τ):DS->ak->SO:=λ δ S=>ke (fi δ S) λ n S1=>hU n h fb m 0 δ S1
def xZ {m:Nat} {wi:TI} {g:TG} {tb:TS} {fi:DS->ak->SM (Nat×Kd)} {h:η} {fb:τ} (hi:LX K cl E wi fi) (hg:∀ ρ,DG K ρ g h) (hb:nU K cl E tb fb):nU K cl E (Eg wi g tb) (vO m fi h fb):=λ ρ0 G0 H0 ρ G σ H δ S o S' D I e p=>by
 rcases mh e with ⟨c,em,rfl⟩ | ⟨n,S1,em,e⟩
 . exact hi ρ G σ H δ S _ _ _ I.rs em (λ d hd=>by cases hd) (λ c' hc ρ1 G1 H1 g1 s1=>by cases hc;exact p ρ1 G1 H1 (I.gs.trans g1) s1)
 refine hi ρ G σ H δ S _ _ _ I.rs em (λ n' hn=>?_) (λ c' hc=>by cases hc);cases hn;intro J ρ1 G1 H1 g1 s1 it;refine ⟨λ i k σ H=>∃ ρ2 G2 δ2 S2,jL K cl ρ0 G0 H0 ρ2 G2 H δ2 σ S2/\ρ1 <+: ρ2/\hU n h fb k i δ2 S2=some (o,S'),⟨m,ρ1,G1,δ,S1,I.grow g1 s1,RV _,e⟩,?_⟩;rintro i k σ2 H2 ⟨ρ2,G2,δ2,S2,I2,pr2,e2⟩;cases k with
 | zero=>cases e2
 | succ k=>
  obtain ⟨es,e3,e4⟩:=oB e2
  have ia:=it i ρ2 G2 H2 S2 es pr2 I2.gs.s I2.rs.st e3;split at e4
  . rename_i hn;cases e4;exact .inl ⟨ia.2 (List.getElem?_eq_none_iff.mp hn),p σ2 ρ2 G2 H2 I2⟩
  . rename_i d hd;refine .inr ?_;obtain ⟨go,step⟩:=ia.1 d hd;obtain ⟨δ3,e5,e6⟩:=oB e4
    have turn:∀ (P:jg) (o1:sd) (S3:ak),fb δ3 S2=some (o1,S3)->(∀ G3 H3,Gr G2 H2 G3 H3->CO K cl E ρ2 G3 H0 P S3 o1)->∀ x H',J.yld i H2 x H'->g x σ2 H' λ σ2 H2=>tb P σ2 H2:=λ P o1 S3 ef hp x H' y=>by
     obtain ⟨G3,g3,dx⟩:=step x H' y;have I3:=I2.grow (.of g3) (I2.rs.st.grow g3);refine hg ρ2 G3 H' δ2 σ2 x _ δ3 _ I3.rs.rl dx e5 λ σ3 R3 o3=>?_;exact hb ρ2 G3 H0 ρ2 G3 σ3 H' δ3 S2 o1 S3 P (I3.sub R3 o3).base ef (hp G3 H' g3)
    have back:∀ {G3 H3:Hp},Gr G2 H2 G3 H3->∀ {ρ4:Ξ} {G4 H4:Hp} {σ4:St} {δ4:DS} {S4:ak},jL K cl ρ2 G3 H0 ρ4 G4 H4 δ4 σ4 S4->jL K cl ρ0 G0 H0 ρ4 G4 H4 δ4 σ4 S4/\ρ1 <+: ρ4:=λ {G3 H3} g3 {ρ4 G4 H4 σ4 δ4 S4} I4=>⟨I4.rebase (I2.gs.trans (.of g3)),pr2.trans I4.gs.r⟩
    cases ef:fb δ3 S2 with
    | none=>rw [ef] at e6;cases e6
    | some r=>
     obtain ⟨o1,S3⟩:=r;rw [ef] at e6;cases o1 with
     | nx δ'=>exact ⟨go,λ σ' H'=>∃ ρ' G',jL K cl ρ0 G0 H0 ρ' G' H' δ' σ' S3/\ρ1 <+: ρ',λ σ' H' hy0=>by obtain ⟨ρ',G',I',q1⟩:=hy0;exact ⟨k,RE _,ρ',G',δ',S3,I',q1,e6⟩,turn _ _ _ ef λ G3 H3 g3 σ5 ρ5 G5 H5 I5=>⟨ρ5,G5,back g3 I5⟩⟩
     | ct δ'=>exact ⟨go,λ σ' H'=>∃ ρ' G',jL K cl ρ0 G0 H0 ρ' G' H' δ' σ' S3/\ρ1 <+: ρ',λ σ' H' hy0=>by obtain ⟨ρ',G',I',q1⟩:=hy0;exact ⟨k,RE _,ρ',G',δ',S3,I',q1,e6⟩,turn _ _ _ ef λ G3 H3 g3 σ5 ρ5 G5 H5 I5=>⟨ρ5,G5,back g3 I5⟩⟩
     | bk δ'=>
      cases e6;exact ⟨go,λ _ _=>False,λ _ _ z=>z.elim,turn _ _ _ ef λ G3 H3 g3 σ5 ρ5 G5 H5 I5=>p σ5 ρ5 G5 H5 (back g3 I5).1⟩
     | rt d=>
      cases e6;exact ⟨go,λ _ _=>False,λ _ _ z=>z.elim,turn _ _ _ ef λ G3 H3 g3 v ρ5 G5 H5 g5 s5 dv=>p v ρ5 G5 H5 ((I2.gs.trans (.of g3)).rebase g5) s5 dv⟩
     | xc c=>
      cases e6;exact ⟨go,λ _ _=>False,λ _ _ z=>z.elim,turn _ _ _ ef λ G3 H3 g3 ρ5 G5 H5 g5 s5=>p ρ5 G5 H5 ((I2.gs.trans (.of g3)).rebase g5) s5⟩
def RS.lift {ρ:Ξ} {G H:Hp} {δ:DS} {σ:St} {S:ak} {ix:Λ} (hx:zb ix=true) (R:RS K cl ρ G H δ σ S):RS K cl ρ G H (bU ix δ) (lift ix σ) S:=
 ⟨R.rl.lift hx,R.st,λ j ds p h1 h2=>by
  obtain ⟨o,k1,k2⟩:=mz h1;cases o with
  | none=>cases k2
  | some i=>
   have k3:δ[i]?=some (.own ds):=by
    cases e:δ[i]? with
    | none=>simp [qd,e] at k2
    | some s=>simp [qd,e] at k2;rw [k2]
   rw [p5 k1] at h2;simp only [N6] at h2;split at h2
   . rename_i w e;exact R.ap i ds p k3 (by rw [e];simpa using h2)
   . cases h2⟩
instance cj (h:η) (c:DS->ak->SM Bool) (fe:ζ) (δ:DS):List W->ak->SM (List W)
 | [],S=>some (.ok [],S)
 | d::ds,S=>(h d δ).bind λ δ2=>au (c δ2 S) λ b S1=>if b=true then au (fe δ2 S1) λ e S2=>au (cj h c fe δ ds S2) λ es S3=>some (.ok (e::es),S3) else cj h c fe δ ds S1
instance qm (ix:Λ) (fi:Υ) (h:η) (c:DS->ak->SM Bool) (fe:ζ):DS->ak->SM W:=λ δ S=>
 au (fi δ S) λ ds S0=>if ds.length<=sizeLine then au (cj h c fe (bU ix δ) ds S0) λ es S1=>some (.ok (.list es),S1) else none
def Fx {ix:Λ} {wi:TI} {g:TG} {tc:TT} {te:TE} {fi:Υ} {h:η} {c:DS->ak->SM Bool} {fe:ζ}
 (hx:zb ix=true) (hi:Kg K cl E wi fi) (hg:∀ ρ,DG K ρ g h) (hc:ST K cl E tc c) (he:SE K cl E te fe):SE K cl E (pI ix wi g tc te) (qm ix fi h c fe):=λ ρ G σ H δ S r S' Q R e q qx=>by
 rcases aT e with ⟨c0,em,rfl⟩ | ⟨ds,S0,em,e⟩
 . exact hi ρ G σ H δ S _ _ _ R em (λ d hd=>by cases hd) (λ c' hc=>by cases hc;exact qx c0 rfl)
 split at e
 case isFalse=>cases e
 rename_i hz;refine hi ρ G σ H δ S _ _ _ R em (λ ds' hd=>?_) (λ c' hc=>by cases hc);cases hd;intro J ρ1 G1 H1 gs1 sr1 it;have R1:=R.grow gs1 sr1;refine ⟨λ i m ys H2=>m=ds.length-i/\i<=ds.length/\ys.length<=i/\∃ ρ2 G2 as S2,GS ρ1 G1 H1 ρ2 G2 H2/\SR K ρ2 cl G2 H2 S2/\aE K ρ2 G2 ys as/\au (cj h c fe (bU ix δ) (ds.drop i) S2) (λ es S1=>some (.ok (.list (as++es)),S1))=some (r,S'),⟨ds.length,by simp,RN _,QH _,ρ1,G1,[],S0,.refl gs1.s,R1.st,.nil,by simpa using e⟩,?_⟩;rintro i m ys H2 ⟨rfl,hil,hyl,ρ2,G2,as,S2,g2,s2,da,eb⟩;have ia:=(it i G2 H2 g2.g g2.s).ext g2.r;have R2:=R1.grow g2 s2;have g12:=gs1.trans g2;by_cases hlt:i<ds.length
 . refine .inr ?_;obtain ⟨go,step⟩:=ia.1 ds[i] (QP hlt);rw [Rx hlt] at eb;have eb':∃ δ2,h ds[i] (bU ix δ)=some δ2/\au (au (c δ2 S2) λ b S1=>if b=true then au (fe δ2 S1) λ e S2=>au (cj h c fe (bU ix δ) (ds.drop (i+1)) S2) λ es S3=>some (.ok (e::es),S3) else cj h c fe (bU ix δ) (ds.drop (i+1)) S1) (λ es S1=>some (.ok (.list (as++es)),S1))=some (r,S'):=by
    simp only [cj] at eb;cases e2:h ds[i] (bU ix δ) with
    | none=>rw [e2] at eb;cases eb
    | some δ2=>rw [e2] at eb;exact ⟨δ2,rfl,eb⟩
   obtain ⟨δ2,e2,e3⟩:=eb';refine ⟨go,by omega,λ ys' H'=>ys'.length<=i+1/\∃ ρ3 G3 as' S3,GS ρ1 G1 H1 ρ3 G3 H'/\SR K ρ3 cl G3 H' S3/\aE K ρ3 G3 ys' as'/\au (cj h c fe (bU ix δ) (ds.drop (i+1)) S3) (λ es S1=>some (.ok (.list (as'++es)),S1))=some (r,S'),λ ys' H' hy0=>by obtain ⟨l,z⟩:=hy0;exact ⟨ds.length-(i+1),by omega,rfl,hlt,l,z⟩,λ x H' y=>?_⟩;obtain ⟨G3,g3,dx⟩:=step x H' y;have gs3:GS ρ2 G2 H2 ρ2 G3 H':=.of g3;have s3:=s2.grow g3;have R3:=R2.grow gs3 s3;refine hg ρ2 G3 H' (bU ix δ) _ x _ δ2 _ (R3.lift hx).rl dx e2 λ σ2 R4 o4=>?_;have RS4:RS K cl ρ2 G3 H' δ2 σ2 S2:=⟨R4,s3,λ j ds' p h1 h2=>by
    obtain ⟨es',m1,m2⟩:=o4 j ds' p h1 h2;exact (R3.lift hx).ap j es' p m1 m2⟩
   rcases aT e3 with ⟨c',em,rfl⟩ | ⟨es,S5,em,e4⟩
   . -- an exception on the way
     rcases aT em with ⟨c2,en,z⟩ | ⟨b,S4,en,e5⟩
     . cases z;exact hc ρ2 G3 σ2 H' δ2 S2 _ _ _ RS4 en (λ d hd=>by cases hd) (λ c3 h3 ρ5 G5 H5 g5 s5=>by cases h3;exact qx c' rfl ρ5 G5 H5 (g12.trans (gs3.trans g5)) s5)
     . refine hc ρ2 G3 σ2 H' δ2 S2 _ _ _ RS4 en (λ d hd=>?_) (λ c3 h3=>by cases h3);cases hd;intro ρ5 G5 H5 g5 s5;have g15:=g2.trans (gs3.trans g5);have da5:=((da.ext (gs3.trans g5).r).same (gs3.trans g5).g)
       cases b with
       | false=>exact ⟨by omega,ρ5,G5,as,S4,g15,s5,da5,by rw [show cj h c fe (bU ix δ) (ds.drop (i+1)) S4=some (.xc c',S') from e5];rfl⟩
       | true=>
        rw [QF rfl] at e5 ⊢;rcases aT e5 with ⟨c2,en2,z⟩ | ⟨ev,S6,en2,e6⟩
        . cases z;exact he ρ5 G5 σ2 H5 δ2 S4 _ _ _ (RS4.grow g5 s5) en2 (λ d hd=>by cases hd) (λ c3 h3 ρ6 G6 H6 g6 s6=>by cases h3;exact qx c' rfl ρ6 G6 H6 (g12.trans (gs3.trans (g5.trans g6))) s6)
        . refine he ρ5 G5 σ2 H5 δ2 S4 _ _ _ (RS4.grow g5 s5) en2 (λ d hd=>?_) (λ c3 h3=>by cases h3);cases hd;intro v ρ6 G6 H6 g6 s6 dv;rcases aT e6 with ⟨c2,en3,z⟩ | ⟨es2,S7,en3,e7⟩
          . cases z;exact ⟨by simp;omega,ρ6,G6,as++[ev],S6,g15.trans g6,s6,((da5.ext g6.r).same g6.g).app (.cons dv .nil),by rw [en3];rfl⟩
          . cases e7
   . cases e4;rcases aT em with ⟨c2,en,z⟩ | ⟨b,S4,en,e5⟩
     . cases z
     . refine hc ρ2 G3 σ2 H' δ2 S2 _ _ _ RS4 en (λ d hd=>?_) (λ c3 h3=>by cases h3);cases hd;intro ρ5 G5 H5 g5 s5;have g15:=g2.trans (gs3.trans g5);have da5:=((da.ext (gs3.trans g5).r).same (gs3.trans g5).g)
       cases b with
       | false=>exact ⟨by omega,ρ5,G5,as,S4,g15,s5,da5,by rw [show cj h c fe (bU ix δ) (ds.drop (i+1)) S4=some (.ok es,S') from e5];rfl⟩
       | true=>
        rw [QF rfl] at e5 ⊢;rcases aT e5 with ⟨c2,en2,z⟩ | ⟨ev,S6,en2,e6⟩
        . cases z
        . refine he ρ5 G5 σ2 H5 δ2 S4 _ _ _ (RS4.grow g5 s5) en2 (λ d hd=>?_) (λ c3 h3=>by cases h3);cases hd;intro v ρ6 G6 H6 g6 s6 dv;rcases aT e6 with ⟨c2,en3,z⟩ | ⟨es2,S7,en3,e7⟩
          . cases z
          . cases e7;exact ⟨by simp;omega,ρ6,G6,as++[ev],S6,g15.trans g6,s6,((da5.ext g6.r).same g6.g).app (.cons dv .nil),by rw [en3];simp [au]⟩
 . have hi':i=ds.length:=by omega
   subst hi';refine .inl ⟨ia.2 (QH _),by omega,λ p hp=>?_⟩;rw [SG] at eb;simp only [cj,au,Ra] at eb;cases eb;have n:Nw H2 (cK H2 p (.lst ys)) p (.lst ys):=.of hp;have g3:=Gr.nw g2.s n;exact q _ rfl _ ρ2 _ _ (g12.trans (.of g3)) (s2.grow g3) (.lst (cR.of aP) (da.same g3.g))
end
section
variable {K:Frag} {cl:Str->Addr} {E:XK}
instance bP (n:Nat×Kd) (h:η) (c:DS->ak->SM Bool) (fe:ζ) (δ:DS):Nat->Nat->ak->SM (List W)
 | 0,_,_=>none
 | f+1,i,S=>(eS S n).bind λ es=>match es[i]? with
  | none=>some (.ok [],S)
  | some d=>(h d δ).bind λ δ2=>au (c δ2 S) λ b S1=>if b=true then au (fe δ2 S1) λ e S2=>au (bP n h c fe δ f (i+1) S2) λ es S3=>some (.ok (e::es),S3) else bP n h c fe δ f (i+1) S1
instance kx (m:Nat) (ix:Λ) (fi:DS->ak->SM (Nat×Kd)) (h:η) (c:DS->ak->SM Bool) (fe:ζ):DS->ak->SM W:=λ δ S=>
 au (fi δ S) λ n S0=>if m<=sizeLine then au (bP n h c fe (bU ix δ) m 0 S0) λ es S1=>some (.ok (.list es),S1) else none
def A2 {m:Nat} {ix:Λ} {wi:TI} {g:TG} {tc:TT} {te:TE} {fi:DS->ak->SM (Nat×Kd)} {h:η} {c:DS->ak->SM Bool} {fe:ζ}
 (hx:zb ix=true) (hi:LX K cl E wi fi) (hg:∀ ρ,DG K ρ g h) (hc:ST K cl E tc c) (he:SE K cl E te fe):SE K cl E (pI ix wi g tc te) (kx m ix fi h c fe):=λ ρ G σ H δ S r S' Q R e q qx=>by
 rcases aT e with ⟨c0,em,rfl⟩ | ⟨n,S0,em,e⟩
 . exact hi ρ G σ H δ S _ _ _ R em (λ d hd=>by cases hd) (λ c' hc=>by cases hc;exact qx c0 rfl)
 split at e
 case isFalse=>cases e
 rename_i hz;refine hi ρ G σ H δ S _ _ _ R em (λ n' hn=>?_) (λ c' hc=>by cases hc);cases hn;intro J ρ1 G1 H1 gs1 sr1 it;have R1:=R.grow gs1 sr1;refine ⟨λ i k ys H2=>k+i=m/\ys.length<=i/\∃ ρ2 G2 as S2,GS ρ1 G1 H1 ρ2 G2 H2/\SR K ρ2 cl G2 H2 S2/\aE K ρ2 G2 ys as/\au (bP n h c fe (bU ix δ) k i S2) (λ es S1=>some (.ok (.list (as++es)),S1))=some (r,S'),⟨m,by simp,QH _,ρ1,G1,[],S0,.refl gs1.s,R1.st,.nil,by simpa using e⟩,?_⟩;rintro i k ys H2 ⟨hk,hyl,ρ2,G2,as,S2,g2,s2,da,eb⟩;have R2:=R1.grow g2 s2;have g12:=gs1.trans g2;cases k with
 | zero=>cases eb
 | succ k=>
  have eb0:∃ es0,eS S2 n=some es0:=by
   cases hl:eS S2 n with
   | none=>simp only [bP,hl] at eb;cases eb
   | some es0=>exact ⟨es0,rfl⟩
  obtain ⟨es0,hl⟩:=eb0;have ia:=it i ρ2 G2 H2 S2 es0 g2.r g2.s s2 hl;cases hd:es0[i]? with
  | none=>
   refine .inl ⟨ia.2 (List.getElem?_eq_none_iff.mp hd),by omega,λ p hp=>?_⟩;simp only [bP,hl,QC,hd,au,Ra] at eb;cases eb;have nn:Nw H2 (cK H2 p (.lst ys)) p (.lst ys):=.of hp;have g3:=Gr.nw g2.s nn;exact q _ rfl _ ρ2 _ _ (g12.trans (.of g3)) (s2.grow g3) (.lst (cR.of aP) (da.same g3.g))
  | some d0=>
   refine .inr ?_;obtain ⟨go,step⟩:=ia.1 d0 hd;have eb':∃ δ2,h d0 (bU ix δ)=some δ2/\au (au (c δ2 S2) λ b S1=>if b=true then au (fe δ2 S1) λ e S2=>au (bP n h c fe (bU ix δ) k (i+1) S2) λ es S3=>some (.ok (e::es),S3) else bP n h c fe (bU ix δ) k (i+1) S1) (λ es S1=>some (.ok (.list (as++es)),S1))=some (r,S'):=by
    simp only [bP,hl,QC,hd] at eb;cases e2:h d0 (bU ix δ) with
    | none=>rw [e2] at eb;cases eb
    | some δ2=>rw [e2] at eb;exact ⟨δ2,rfl,eb⟩
   obtain ⟨δ2,e2,e3⟩:=eb';refine ⟨go,by omega,λ ys' H'=>ys'.length<=i+1/\∃ ρ3 G3 as' S3,GS ρ1 G1 H1 ρ3 G3 H'/\SR K ρ3 cl G3 H' S3/\aE K ρ3 G3 ys' as'/\au (bP n h c fe (bU ix δ) k (i+1) S3) (λ es S1=>some (.ok (.list (as'++es)),S1))=some (r,S'),λ ys' H' hy0=>by obtain ⟨l,z⟩:=hy0;exact ⟨k,RE _,by omega,l,z⟩,λ x H' y=>?_⟩;obtain ⟨G3,g3,dx⟩:=step x H' y;have gs3:GS ρ2 G2 H2 ρ2 G3 H':=.of g3;have s3:=s2.grow g3;have R3:=R2.grow gs3 s3;refine hg ρ2 G3 H' (bU ix δ) _ x _ δ2 _ (R3.lift hx).rl dx e2 λ σ2 R4 o4=>?_;have RS4:RS K cl ρ2 G3 H' δ2 σ2 S2:=⟨R4,s3,λ j ds' p h1 h2=>by
    obtain ⟨es',m1,m2⟩:=o4 j ds' p h1 h2;exact (R3.lift hx).ap j es' p m1 m2⟩
   rcases aT e3 with ⟨c',em,rfl⟩ | ⟨es,S5,em,e4⟩
   . -- an exception on the way
     rcases aT em with ⟨c2,en,z⟩ | ⟨b,S4,en,e5⟩
     . cases z;exact hc ρ2 G3 σ2 H' δ2 S2 _ _ _ RS4 en (λ d hd=>by cases hd) (λ c3 h3 ρ5 G5 H5 g5 s5=>by cases h3;exact qx c' rfl ρ5 G5 H5 (g12.trans (gs3.trans g5)) s5)
     . refine hc ρ2 G3 σ2 H' δ2 S2 _ _ _ RS4 en (λ d hd=>?_) (λ c3 h3=>by cases h3);cases hd;intro ρ5 G5 H5 g5 s5;have g15:=g2.trans (gs3.trans g5);have da5:=((da.ext (gs3.trans g5).r).same (gs3.trans g5).g)
       cases b with
       | false=>exact ⟨by omega,ρ5,G5,as,S4,g15,s5,da5,by rw [show bP n h c fe (bU ix δ) k (i+1) S4=some (.xc c',S') from e5];rfl⟩
       | true=>
        rw [QF rfl] at e5 ⊢;rcases aT e5 with ⟨c2,en2,z⟩ | ⟨ev,S6,en2,e6⟩
        . cases z;exact he ρ5 G5 σ2 H5 δ2 S4 _ _ _ (RS4.grow g5 s5) en2 (λ d hd=>by cases hd) (λ c3 h3 ρ6 G6 H6 g6 s6=>by cases h3;exact qx c' rfl ρ6 G6 H6 (g12.trans (gs3.trans (g5.trans g6))) s6)
        . refine he ρ5 G5 σ2 H5 δ2 S4 _ _ _ (RS4.grow g5 s5) en2 (λ d hd=>?_) (λ c3 h3=>by cases h3);cases hd;intro v ρ6 G6 H6 g6 s6 dv;rcases aT e6 with ⟨c2,en3,z⟩ | ⟨es2,S7,en3,e7⟩
          . cases z;exact ⟨by simp;omega,ρ6,G6,as++[ev],S6,g15.trans g6,s6,((da5.ext g6.r).same g6.g).app (.cons dv .nil),by rw [en3];rfl⟩
          . cases e7
   . cases e4;rcases aT em with ⟨c2,en,z⟩ | ⟨b,S4,en,e5⟩
     . cases z
     . refine hc ρ2 G3 σ2 H' δ2 S2 _ _ _ RS4 en (λ d hd=>?_) (λ c3 h3=>by cases h3);cases hd;intro ρ5 G5 H5 g5 s5;have g15:=g2.trans (gs3.trans g5);have da5:=((da.ext (gs3.trans g5).r).same (gs3.trans g5).g)
       cases b with
       | false=>exact ⟨by omega,ρ5,G5,as,S4,g15,s5,da5,by rw [show bP n h c fe (bU ix δ) k (i+1) S4=some (.ok es,S') from e5];rfl⟩
       | true=>
        rw [QF rfl] at e5 ⊢;rcases aT e5 with ⟨c2,en2,z⟩ | ⟨ev,S6,en2,e6⟩
        . cases z
        . refine he ρ5 G5 σ2 H5 δ2 S4 _ _ _ (RS4.grow g5 s5) en2 (λ d hd=>?_) (λ c3 h3=>by cases h3);cases hd;intro v ρ6 G6 H6 g6 s6 dv;rcases aT e6 with ⟨c2,en3,z⟩ | ⟨es2,S7,en3,e7⟩
          . cases z
          . cases e7;exact ⟨by simp;omega,ρ6,G6,as++[ev],S6,g15.trans g6,s6,((da5.ext g6.r).same g6.g).app (.cons dv .nil),by rw [en3];simp [au]⟩
end
def Da {K:Frag} {cl:Str->Addr} {G H:Hp}:SR K [] cl G H []:=⟨rfl,nodup_nil,λ n o e=>by simp at e⟩
end L2
namespace L2
open PySem PySem.Spec PyProof.Rows PySem.AutoSeq1
open PySem.W (Frag)
def DJ (l b:Addr) (xs ys:Array Value) (n k:Nat) (sl:Array (Option Value)) (h1:¬(!xs.isEmpty&&Builtin.List.listTooLong (xs.size+ys.size))=true) (h2:xs.size<=sizeLine) (h3:xs.size+ys.size<=sizeLine+1):
 Meets (Builtin.«list.extend» ⟨[.ref l,.ref b],[]⟩) (λ _ R s=>s.heap.get? l=some { cls:=.type "list", data:=.seq xs n }/\s.heap.get? b=some { cls:=.type "list", dict:=none,data:=.seq ys k,slots:=sl }/\R (.ok (.ret .none)) { s with heap:=s.heap.update l (Obj.mapSeq (·++ys)),toks:=s.toks }):=
 .of_wp λ prog w A R s h=>by
  obtain ⟨hp,g,d,tk,os⟩:=s;obtain ⟨hl,hb,h⟩:=h;have e1:=idx_int;have e2:=AutoSeq1.sub_tuple_tuple;have e3:=AutoSeq1.sub_list_list;have e4:=AutoSeq1.sub_tuple_list;have e5:=AutoSeq1.sub_list_tuple;have hz:(xs++ys).size<=sizeLine+1:=by
   rw [Array.size_append];exact h3
  wp_walk using (wpAny_updateSeq hl rfl (hz:=h2) (_hz':=hz)),wpAny_loadPart' hl,wpAny_loadPart' hb
  exact ⟨_,rfl,h⟩
section
variable {X:Cx}
instance pF (K:Frag):V->List V->Hp->VK->Prop:=λ x vs H Q=>∃ l b xs ys,x=.ref l/\vs=[.ref b]/\H l=some (.lst xs)/\cR K H b ys/\xs.length+ys.length<=sizeLine/\Q .non (cK H l (.lst (xs++ys)))
def wx:NG X "list.extend" (pF X.K):=by
 intro pins s σ H x vs v us Q I rx rv h;obtain ⟨l,b,xs,ys,rfl,rfl,h1,h2,h3,q⟩:=h;cases rx;obtain ⟨u,rfl,ru⟩:=rv.one;cases ru;obtain ⟨z,its,n,r,hl,e⟩:=I.lstM h1;obtain ⟨jts,r2,⟨⟨oc,od,da,sl⟩,k,e2,c1,c2,c3⟩,z2⟩:=I.list h2;simp only at c1 c2 c3;subst c1 c2 c3;have l2:=r2.length;have hn:¬ (!its.toArray.isEmpty&&Builtin.List.listTooLong (its.toArray.size+jts.toArray.size))=true:=by
  rw [QQ,QQ,vw (by omega),Bool.and_false];exact QU
 refine call_meets F.slot_list_extend ⟨_,e,rfl⟩ F.entry_list_extend (F.args_list_extend_2 _ _) (DJ l b its.toArray jts.toArray n k sl hn (by rw [QQ];omega) (by rw [QQ,QQ];omega)) ⟨e,e2,?_⟩;refine ⟨.non,_,I.lset (its':=its++jts) h1 e (by simp) (r.append r2) ?_,rfl,q⟩;rw [QO];omega
end
section
variable {K:Frag} {ρ:Ξ}
def oU {G:Hp}:∀ ws:Ω,aE K ρ G (ws.map V.str) (ws.map W.str)
 | []=>.nil
 | w::ws=>.cons (.str w) (oU ws)
def uc {H:Hp} {x:V} {d:W} {a:Addr} {ws:Ω} {b:Bool} (h:fg K H a (ws.map V.str)) (hx:Dw K ρ H x d) (e:jf d (.tuple (ws.map W.str))=some b):fV x=true/\(ws.map V.str).all fV=true/\FJ x (ws.map V.str)=b:=by
 obtain ⟨ds,e1,e⟩:=oB e
 obtain ⟨v,e2,e⟩:=oB e
 obtain ⟨vs,e3,rfl⟩:=oM e
 cases e1;obtain ⟨rfl,f1⟩:=wE hx e2;obtain ⟨rfl,f2⟩:=tz (K:=K) (ρ:=ρ) (H:=H) (oU ws) e3;exact ⟨f1,f2,rfl⟩
def B9 {neg:Bool} {ta:TE} {fa:μ} {a:Addr} {ws:Ω} (hs:∀ G,fg K G a (ws.map V.str)) (ha:DK K ρ ta fa) {G:Hp} {σ:St} {H:Hp} {δ:DS} {b:Bool} {Q:VK} (R:Rl K ρ G H δ σ) (e:ay (if neg then fj else jf) fa (dC (.tuple (ws.map W.str))) δ=some b) (q:∀ G' H',Gr G H G' H'->Q (.bl b) H'):qH (Ee K neg) ta (tC (.ref a)) σ H Q:=by
 obtain ⟨x,ex,e⟩:=oB e
 have e:(if neg then fj else jf) x (.tuple (ws.map W.str))=some b:=e;refine ha G σ H δ x _ R ex λ v G1 H1 g1 dv=>?_;have dv:=dv.dp g1.s;cases neg with
 | false=>
  obtain ⟨f1,f2,rfl⟩:=uc (hs H1) dv e;exact ⟨a,_,rfl,.inr (hs H1),f1,f2,q G1 H1 g1⟩
 | true=>
  obtain ⟨b',e',rfl⟩:=oM e
  obtain ⟨f1,f2,rfl⟩:=uc (hs H1) dv e';exact ⟨a,_,rfl,.inr (hs H1),f1,f2,q G1 H1 g1⟩
def zc {ta:TE} {fa:μ} {a:Addr} {ws:Ω} (hs:∀ G,fg K G a (ws.map V.str)) (ha:DK K ρ ta fa):DT K ρ (vk (qH (Ee K true) ta (tC (.ref a)))) (ay fj fa (dC (.tuple (ws.map W.str)))):=λ G σ H δ b Q R e q=>
 B9 (neg:=true) hs ha R e λ G' H' g=>⟨b,rfl,q G' H' g⟩
instance ik (i:Nat) (f:μ):DS->Option dJ:=λ δ=>(nz i δ).bind λ ds=>(f δ).bind λ d=>(iR d).bind λ es=>if ds.length+es.length<=sizeLine then some (.nx (δ.set i (.own (ds++es)))) else none
def ku {i:Nat} {t:TE} {f:μ} (h:DE K ρ t f):pz K ρ (vA (Kf K "list" (pF K) (zh i) (fc t jN))) (ik i f):=λ G0 H0 G σ H δ o D I e p=>by
 obtain ⟨ds,eo,e⟩:=oB e
 obtain ⟨d,ed,e⟩:=oB e
 obtain ⟨es,ee,e⟩:=oB e
 split at e
 case isFalse=>cases e
 rename_i hz;cases e;cases gO ee;have ho:=pN eo;obtain ⟨o,h1,q,vs,rfl,h3,h4,h5⟩:=I.rl.sl i _ ho;refine ⟨.ref q,h1,.inl ⟨rfl,vs,cR.of h4⟩,h G σ H δ _ _ I.rl ed λ v G1 H1 g1 dv=>?_⟩;have I1:=I.grow g1;cases dv with
 | lst sq da=>
  refine ⟨q,_,vs,_,rfl,rfl,g1.h _ _ h4,g1.s.seq sq,by rw [h5.length,da.length];exact hz,?_⟩;exact p σ G1 _ (I1.put ho h1 (g1.n q (.l h4) h3) ((h5.same g1.g).app da))
end
structure Do (K:Frag) (x q:Str) (st:Stmt) (f:Addr) (fd:FuncData):Prop where
 ex:∃ (dV oc kV dc pm cd ct:Value) (od an:Option Addr) (sl:Array (Option Value)),fd=PySem.W.fnOf x q (dZ st) (d3 st) (b6 st) dV kV dc pm an cd ct/\K.lookup f=some ⟨oc,od,.func fd,sl⟩/\PySem.W.codeIn K cd q=true
 kp:PySem.W.keepIn K (.ref f)=true
def Do.ok {P:Program} {w:World} {K:Frag} {mg:Θ} {base:Heap} {x q:Str} {st:Stmt} {f:Addr} {fd:FuncData} {N ps:Ω} {k:Nat} {sp:Sp} (F:Do K x q st f fd) (S:gC N ps (b6 st)) (hl:∀ vs H Q E,sp vs H Q E->vs.length=ps.length)
 (hb:∀ (cd:Value) (A:Around) (outer:List Env) (s:Shared) (H:Hp) (vs:List V) (Q:VK) (E:XK),eB k (A.deeper (envOfC q (b6 st) s.heap.objs.size f cd))->sp vs H Q E->
  ∃ t,vJ (xh Gz P w K mg base N q (b6 st) f cd A outer s H E).nox (d3 st) t/\t ({ nx:=λ _ H'=>Q V.non H',rt:=Q }:jg) (start N vs) H):fF P w K mg base Gz (k+1) f fd ps sp:=by
 obtain ⟨dV,oc,kV,dc,pm,cd,ct,od,an,sl,rfl,lk,hc⟩:=F.ex;refine Lb lk hc S hl λ A outer s H vs Q E hr hs=>?_;obtain ⟨t,h,r⟩:=hb cd A outer s H vs Q E hr hs;exact ⟨t,h.nox,r⟩
def lY {K:Frag} {x q:Str} {st:Stmt} {f:Addr} {dV oc kV dc pm cd ct:Value} {od an:Option Addr} {sl:Array (Option Value)} (l:K.lookup f=some ⟨oc,od,.func (PySem.W.fnOf x q (dZ st) (d3 st) (b6 st) dV kV dc pm an cd ct),sl⟩) (c:PySem.W.codeIn K cd q=true) (k:PySem.W.keepIn K (.ref f)=true):Do K x q st f (PySem.W.fnOf x q (dZ st) (d3 st) (b6 st) dV kV dc pm an cd ct):=⟨⟨dV,oc,kV,dc,pm,cd,ct,od,an,sl,rfl,l,c⟩,k⟩
section
variable {K:Frag} {ρ:Ξ}
instance wG (f:List W->Option W) (fa:θ):DS->Option W:=λ δ=>(fa δ).bind λ ds=>f (ds++[.none])
def CN {f:List W->Option W} {t:TA} {fa:θ} {E:XK} (h:DA K ρ t fa):DE K ρ (qP (jX K f) [.non] E t) (wG f fa):=λ G σ H δ d Q R e q=>by
 obtain ⟨ds,ed,e⟩:=oB e
 exact h G σ H δ ds _ R ed λ vs G1 H1 g1 da=>⟨ρ,G1,ds++[.none],d,g1.s,da.app (.cons .non .nil),e,λ v G2 H2 g2 dv=>q v G2 H2 (g1.trans g2) dv⟩
end
instance p6 (i j:Int):Bool:=decide (0<=j)&&decide (j<=1000)&&decide (i.natAbs<2^64)
instance lK:W->W->Option W:=EB p6 λ i j=>i^j.toNat
def Hf {K:Frag} {ρ:Ξ}:DR K ρ (rI KF λ i j=>.int (i^j.toNat)) lK:=xH λ i j h=>by
 simp only [p6,Rb,Ri] at h;exact ⟨h.1.1,by omega,h.2⟩
def Bp:bn [V.non] [Value.none]:=.cons rfl .nil
section
variable {K:Frag} {cl:Str->Addr} {E:XK}
instance n9:List W->Option (List aB)
 | []=>some []
 | d::ds=>(jd d).bind λ k=>(n9 ds).map (k::·)
instance eX:W->Option (List aB)
 | .tuple ds=>n9 ds
 | _=>none
def uj {ρ:Ξ} {G:Hp} {vs:List V} {ds:List W} {ks:List aB} (h:aE K ρ G vs ds):n9 ds=some ks->vs=ks.map kV:=
 h.ind (M:=λ vs ds=>∀ ks,n9 ds=some ks->vs=ks.map kV) (λ ks e=>by cases e;rfl) (λ _ _ _ _ a ih ks e=>by
  obtain ⟨k,e1,e⟩:=oB e
  obtain ⟨ks,e2,rfl⟩:=oM e
  rw [pR a e1,ih _ e2];rfl) ks
def qw {ρ:Ξ} {G:Hp} {v:V} {d:W} {ks:List aB} (h:Dw K ρ G v d) (e:eX d=some ks):∃ b,v=.ref b/\G b=some (.tup (ks.map kV)):=by
 cases h with
 | tup sq da=>exact ⟨_,rfl,by rw [<-uj da e];exact sq⟩
 | _=>cases e
instance jK (x y:W) (S:ak):Option (Option W):=match d7 x S with
 | some (_,.dK kvs)=>(jd y).map λ k=>aX kvs k
 | some (_,.dT kvs)=>(eX y).map λ k=>aX kvs k
 | _=>none
def oh {ρ:Ξ} {G H:Hp} {S:ak} {v u:V} {x y:W} {o:Option W} (sg:b0 G H) (s:SR K ρ cl G H S) (dv:Dw K ρ G v x) (du:Dw K ρ G u y) (h:jK x y S=some o):∃ a r,v=.ref a/\lU H a u r/\(match o with | some d=>∃ z,r=some z/\Dw K ρ G z d | none=>r=none):=by
 unfold jK at h;split at h
 . rename_i n kvs e1;obtain ⟨k,e3,e4⟩:=oM h
   obtain ⟨rfl,e5⟩:=cS e1;obtain ⟨a,rfl,ea⟩:=cy dv;obtain ⟨ga,ws,k1,k2⟩:=s.addr e5 ea;obtain ⟨v1,v2⟩:=k2.val (k:=k);refine ⟨a,f9 ws k,rfl,?_,?_⟩
   . rw [pR du e3];exact lU.k k1
   . cases o with
     | some d=>exact v1 d e4
     | none=>exact v2 e4
 . rename_i n kvs e1;obtain ⟨k,e3,e4⟩:=oM h
   obtain ⟨rfl,e5⟩:=cS e1;obtain ⟨a,rfl,ea⟩:=cy dv;obtain ⟨ga,ws,k1,k2⟩:=s.addr e5 ea;obtain ⟨v1,v2⟩:=k2.val (k:=k);obtain ⟨b,rfl,hb⟩:=qw du e3;refine ⟨a,f9 ws k,rfl,lU.t k1 (sg _ _ hb),?_⟩
   . cases o with
     | some d=>exact v1 d e4
     | none=>exact v2 e4
 . cases h
instance eG (fo fk:ζ):DS->ak->SM W:=λ δ S=>au (fo δ S) λ x S1=>au (fk δ S1) λ y S2=>(jK x y S2).bind λ o=>fN o S2
def Er {to tk:TE} {fo fk:ζ} (ho:SE K cl E to fo) (hk:SE K cl E tk fk):SE K cl E (FW to tk) (eG fo fk):=λ ρ G σ H δ S r S' Q R e q qx=>
 eK ho hk R e (λ x y S2 e2 v u ρ2 G2 H2 g2 s2 dv du=>by
  obtain ⟨o,e3,e4⟩:=oB e2
  obtain ⟨d,rfl,rfl,rfl⟩:=bx e4;obtain ⟨a,r,rfl,h1,z,rfl,h2⟩:=oh g2.s s2 dv du e3;exact ⟨a,z,rfl,h1,q d rfl z ρ2 G2 H2 g2 s2 h2⟩) qx
instance gZ (neg:Bool) (fk fo:ζ):DS->ak->SM Bool:=λ δ S=>au (fk δ S) λ y S1=>au (fo δ S1) λ x S2=>fN ((jK x y S2).map λ o=>if neg then !o.isSome else o.isSome) S2
def GY {to tk:TE} {fo fk:ζ} (hk:SE K cl E tk fk) (ho:SE K cl E to fo):ST K cl E (tB (Im tk to)) (gZ false fk fo):=λ ρ G σ H δ S r S' Q R e q qx=>
 eK hk ho R e (λ y x S2 e2 u v ρ2 G2 H2 g2 s2 du dv=>by
  obtain ⟨b,e3,rfl,rfl⟩:=bx e2;obtain ⟨o,e4,rfl⟩:=oM e3
  obtain ⟨a,r,rfl,h1,h2⟩:=oh g2.s s2 dv du e4;have hb:r.isSome=o.isSome:=by
   cases o with
   | some d=>obtain ⟨z,rfl,_⟩:=h2;rfl
   | none=>rw [show r=none from h2];rfl
  refine ⟨a,r,rfl,h1,?_⟩;rw [hb];exact ⟨o.isSome,rfl,q _ rfl ρ2 G2 H2 g2 s2⟩) qx
def zi {to tk:TE} {fo fk:ζ} (hk:SE K cl E tk fk) (ho:SE K cl E to fo):ST K cl E (tB (yA tk to)) (gZ true fk fo):=λ ρ G σ H δ S r S' Q R e q qx=>
 eK hk ho R e (λ y x S2 e2 u v ρ2 G2 H2 g2 s2 du dv=>by
  obtain ⟨b,e3,rfl,rfl⟩:=bx e2;obtain ⟨o,e4,rfl⟩:=oM e3
  obtain ⟨a,r,rfl,h1,h2⟩:=oh g2.s s2 dv du e4;have hb:r.isSome=o.isSome:=by
   cases o with
   | some d=>obtain ⟨z,rfl,_⟩:=h2;rfl
   | none=>rw [show r=none from h2];rfl
  refine ⟨a,r,rfl,h1,?_⟩;rw [hb];exact ⟨!o.isSome,rfl,q _ rfl ρ2 G2 H2 g2 s2⟩) qx
instance nW (x y d:W) (S:ak):Option ak:=match d7 x S with
 | some (n,.dK kvs)=>(jd y).bind λ k=>if kvs.length<sizeLine then some (S.set n (.dK (eI kvs k d))) else none
 | some (n,.dT kvs)=>(eX y).bind λ k=>if kvs.length<sizeLine then some (S.set n (.dT (eI kvs k d))) else none
 | _=>none
def EO {ρ:Ξ} {G H:Hp} {S S':ak} {v u w:V} {x y d:W} (sg:b0 G H) (s:SR K ρ cl G H S) (dv:Dw K ρ G v x) (du:Dw K ρ G u y) (dw:Dw K ρ G w d) (h:nW x y d S=some S'):∃ a H',v=.ref a/\sD H a u w H'/\SR K ρ cl G H' S'/\GS ρ G H ρ G H':=by
 unfold nW at h;split at h
 . rename_i n kvs e1;obtain ⟨k,e3,e4⟩:=oB h
   split at e4
   case isFalse=>cases e4
   rename_i hl;cases e4;obtain ⟨rfl,e5⟩:=cS e1;obtain ⟨a,rfl,ea⟩:=cy dv;obtain ⟨ga,ws,k1,k2⟩:=s.addr e5 ea;obtain ⟨s4,g4⟩:=s.put (x:=.dK (gM ws k w)) (o':=.dK (eI kvs k d)) sg e5 ea (λ b z=>by cases z) ⟨_,aP,k2.put dw⟩;refine ⟨a,_,rfl,?_,s4,g4⟩;rw [pR du e3];exact sD.k k1 (by rw [<-k2.length];exact hl)
 . rename_i n kvs e1;obtain ⟨k,e3,e4⟩:=oB h
   split at e4
   case isFalse=>cases e4
   rename_i hl;cases e4;obtain ⟨rfl,e5⟩:=cS e1;obtain ⟨a,rfl,ea⟩:=cy dv;obtain ⟨ga,ws,k1,k2⟩:=s.addr e5 ea;obtain ⟨s4,g4⟩:=s.put (x:=.dT (gM ws k w)) (o':=.dT (eI kvs k d)) sg e5 ea (λ b z=>by cases z) ⟨_,aP,k2.put dw⟩;obtain ⟨b,rfl,hb⟩:=qw du e3;exact ⟨a,_,rfl,sD.t k1 (sg _ _ hb) (by rw [<-k2.length];exact hl),s4,g4⟩
 . cases h
instance i7 (fo fk fv:ζ):DS->ak->SO:=λ δ S=>ke (fv δ S) λ d S1=>ke (fo δ S1) λ x S2=>ke (fk δ S2) λ y S3=>(nW x y d S3).map λ S4=>(.nx δ,S4)
def xQ {to tk tv:TE} {fo fk fv:ζ} (ho:SE K cl E to fo) (hk:SE K cl E tk fk) (hv:SE K cl E tv fv):nU K cl E (FR to tk tv) (i7 fo fk fv):=λ ρ0 G0 H0 ρ G σ H δ S o S' D I e p=>
 fz hv I e p λ d S1 e1 v ρ1 G1 H1 g1 s1 dv=>by
  have I1:=I.grow g1 s1;refine fz ho I1 e1 p λ x S2 e2 u ρ2 G2 H2 g2 s2 du=>?_;have I2:=I1.grow g2 s2;refine fz hk I2 e2 p λ y S3 e3 w ρ3 G3 H3 g3 s3 dw=>?_;obtain ⟨S4,e4,e5⟩:=oM e3
  cases e5;have g23:=g2.trans g3;obtain ⟨a,H4,rfl,h1,s4,g4⟩:=EO g3.s s3 ((du.ext g3.r).same g3.g) dw ((dv.ext g23.r).same g23.g) e4;exact ⟨a,_,rfl,h1,p σ ρ3 G3 _ ((I2.grow g3 s3).grow g4 s4)⟩
end
def eB.units1 {k:Nat} {A:Around} (r:eB k A):A.units+1<cLine:=Nat.lt_of_le_of_lt (by omega) r.units
section
variable {K:Frag} {cl:Str->Addr} {E:XK}
instance CZ (fo:ζ):DS->ak->SM W:=λ δ S=>au (fo δ S) λ x S1=>(fJ x S1).bind λ p=>(p.2[p.2.length-1]?).map λ d=>(.ok d,S1.set p.1 (.lst p.2.dropLast))
def aE.dropL {ρ:Ξ} {G:Hp} {vs:List V} {ds:List W} (h:aE K ρ G vs ds):aE K ρ G vs.dropLast ds.dropLast:=by rw [List.dropLast_eq_take,List.dropLast_eq_take,h.length];exact h.take _
def JM {to:TE} {fo:ζ} (ho:SE K cl E to fo):SE K cl E (F6 K "list" J0 to) (CZ fo):=λ ρ G σ H δ S r' S' Q R e q qx=>
 cA ho R e (λ x S2 e2 v ρ2 G2 H2 g2 s2 dv=>by
  obtain ⟨⟨n,ds⟩,e3,e4⟩:=oB e2
  obtain ⟨d,e5,e6⟩:=oM e4
  cases e6;obtain ⟨rfl,e7⟩:=cM e3;obtain ⟨a,rfl,ea⟩:=cy dv;obtain ⟨ga,vs,k1,k2⟩:=s2.addr e7 ea;obtain ⟨z,h1,h2⟩:=k2.get e5;obtain ⟨s4,g4⟩:=s2.put (x:=.lst vs.dropLast) (o':=.lst ds.dropLast) g2.s e7 ea (λ b z=>by cases z) ⟨_,aP,k2.dropL⟩;exact ⟨.inl ⟨rfl,vs,cR.of k1⟩,a,vs,z,rfl,rfl,k1,by rw [k2.length];exact h1,q d rfl z ρ2 G2 _ (g2.trans g4) s4 h2⟩) qx
end
instance Cy (g:List W->Option W) (fa:θ):DS->Option W:=λ δ=>(fa δ).bind g
section
variable {K:Frag} {ρ:Ξ}
end
section
variable {K:Frag} {cl:Str->Addr} {E:XK}
end
open PySem.AutoSeq1 (wpAny_loadPart')
section
variable {prog:Program} {w:World} {A:Around} {E:Γ} {s:Shared}
end
open PySem.AutoSeq1 (wpAny_loadPart')
section
variable {prog:Program} {w:World} {A:Around} {E:Γ} {s:Shared}
end
section
variable {M:Model} {A:Around} {E:Γ} {s:Shared} {env:Env}
end
instance vY (k:Nat) (ds:List W):List W:=(List.range ds.length).map λ (i:Nat)=>.tuple [.int ((k+i:Nat):Int),ds[i]?.getD .none]
section
variable {K:Frag} {ρ:Ξ}
instance HA:W->Option (List W)
 | .tuple ds=>some ds
 | _=>none
def EU {d:W} {ds:List W} (h:HA d=some ds):d=.tuple ds:=by
 cases d <;> first | (cases h;rfl) | cases h
def HW (ds:List W):HA (.tuple ds)=some ds:=rfl
instance nQ (f:μ) (lo hi:DS->Option (Option Int)):DS->Option W:=λ δ=>(f δ).bind λ d=>(HA d).bind λ ds=>(lo δ).bind λ l=>(hi δ).map λ u=>.tuple (iV ds l u)
def Aq {t:TE} {tl th:TO} {f:μ} {lo hi:DS->Option (Option Int)} (h:DE K ρ t f) (hl:EQ K ρ tl lo) (hh:EQ K ρ th hi):DE K ρ (Nu (G7 K) t tl th) (nQ f lo hi):=λ G σ H δ d Q R e q=>by
 obtain ⟨x,ed,e⟩:=oB e
 obtain ⟨es,ee,e⟩:=oB e
 obtain ⟨l,el,e⟩:=oB e
 obtain ⟨u,eu,rfl⟩:=oM e
 cases EU ee;refine h G σ H δ _ _ R ed λ v G1 H1 g1 dv=>hl G1 σ H1 δ l _ (R.grow g1) el λ G2 H2 g2=>hh G2 σ H2 δ u _ ((R.grow g1).grow g2) eu λ G3 H3 g3=>?_;have g23:=g2.trans g3;have g:=g1.trans g23;obtain ⟨p,vs,rfl,sq,da⟩:=oS (dv.same g23.g);refine ⟨p,vs,rfl,fg.of (g.s _ _ sq),?_⟩;by_cases hw:HT.sIx vs.length 0 l=0/\HT.sIx vs.length vs.length u=vs.length
 . refine .inl ⟨hw.1,hw.2,q _ G3 H3 g ?_⟩;have e1:iV es l u=es:=by
    unfold iV;rw [<-da.length,hw.1,hw.2,da.length];simp
   rw [e1];exact .tup sq da
 . refine .inr ⟨hw,λ r H' n=>?_⟩;have g4:=Gr.nw g.s n;exact q _ _ H' (g.trans g4) (.tup aP ((da.cut l u).same g4.g))
instance mQ (T:String):W->Option W
 | .list _=>if T = "list" then some (.bool true) else none
 | .tuple _=>if T = "tuple" then some (.bool true) else none
 | d=>mF T d
def DP {T:String} {t:TE} {f:μ} (h:DE K ρ t f):DE K ρ (xK (xP K) (fc t (fc (tC (.ty T)) jN))) (nG (mQ T) f):=λ G σ H δ d Q R e q=>by
 obtain ⟨x,ex,e2⟩:=oB e
 clear e;refine h G σ H δ x _ R ex λ v G1 H1 g1 dv=>?_;show xP K [v,.ty T] H1 Q;unfold mQ at e2;split at e2
 . split at e2
   . rename_i hT;subst hT;cases e2;obtain ⟨a,vs,rfl,sq,da⟩:=o8 dv;exact .inr (.inr ⟨a,vs, "list", true,rfl,g1.s.seq sq,lZ _ (by decide),q _ G1 H1 g1 (.bl _)⟩)
   . cases e2
 . split at e2
   . rename_i hT;subst hT;cases e2;obtain ⟨a,vs,rfl,sq,da⟩:=oS dv;exact .inr (.inl ⟨a,vs, "tuple", true,rfl,g1.s.tup (fg.of sq),lZ _ (by decide),q _ G1 H1 g1 (.bl _)⟩)
   . cases e2
 . unfold mF at e2;split at e2;all_goals first
    | cases e2
    | (obtain ⟨k,ek,rfl⟩:=oM e2
       cases dv;exact .inl ⟨_,T,k,rfl,ek,q _ G1 H1 g1 (.bl k)⟩)
def Ix (ds:List W):mQ "list" (.list ds)=some (.bool true):=by simp [mQ]
def JX (ds:List W):mQ "tuple" (.tuple ds)=some (.bool true):=by simp [mQ]
end
section
variable {K:Frag} {cl:Str->Addr} {E:XK}
end
def N5 {X:Cx} {K:Frag} {e:Expr} {f:Str} {pos:Pos} {ta:TE} (hK:X.K=K) (he:PE X e ta) (hb:attributeBase e f X.env (eval e X.env)=eval e X.env):PE X (.Attribute e f pos) (JB K ta f):=hK▸Ha he hb
def Ge {α:Type} (x y:α) (r:List α):gz (x::y::r) 1=some y:=by
 unfold gz vL;rw [QF (by decide),QF (by simp;omega)];rfl
def su {α:Type} (x:α) (r:List α):gz (x::r) 0=some x:=by
 unfold gz vL;rw [QF (by decide),QF (by simp)];rfl
def sz (n:Nat) (h:n<=9000):n<=sizeLine:=Rh h (by decide)
def fH {S:ak} {l:Nat} {es:List W} (h:S[l]?=some (.lst es)):fJ (.ref l) S=some (l,es):=by simp [fJ,d7,h]
def Ln {S:ak} {l:Nat} {es:List (aB×W)} (h:S[l]?=some (.dK es)):sH (.ref l) S=some (l,es):=by simp [sH,d7,h]
def dU {κ:Type} [DecidableEq κ]:∀ (kvs:List (κ×W)) (k q:κ) (x:W),aX kvs k=none->aX (kvs++[(k,x)]) q=if q=k then some x else aX kvs q:=λ kvs k q x h=>by
 induction kvs with
 | nil=>
  by_cases e:q=k
  . subst e;simp [aX]
  . have e':¬ k=q:=λ z=>e z.symm;simp [aX,e,e']
 | cons p r ih=>
  obtain ⟨j,y⟩:=p;by_cases hj:j=k
  . subst hj;simp [aX,Rc] at h
  . have h':aX r k=none:=by simpa [aX,Rc,hj] using h
    have ih':=ih h';by_cases hq:j=q
    . subst hq;simp [aX,Rc,hj]
    . simp only [aX,List.cons_append,Rc,hq,decide_false] at ih' ⊢;exact ih'
def j6 {κ:Type} [DecidableEq κ] {kvs:List (κ×W)} {k:κ} (x:W) (h:aX kvs k=none):eI kvs k x=kvs++[(k,x)]:=by
 unfold eI;rw [QS];intro ha;obtain ⟨kv,h1,h2⟩:=Sg.mp ha;unfold aX at h;have h3:kvs.find? (λ kv=>decide (kv.1=k))=none:=by
  cases hf:kvs.find? (λ kv=>decide (kv.1=k)) with
  | none=>rfl
  | some z=>rw [hf] at h;cases h
 exact absurd h2 (by simpa using find?_eq_none.mp h3 kv h1)
def aY {S:ak} {m:Nat} {o x:Ob} (h:S[m]?=some o):(S++[x])[m]?=some o:=by
 rw [QV (oG h).1];exact h
def iJ (B:List Int) (i:Int) (h0:0<=i) (h1:i<B.length):gz (B.map W.int) i=some (.int (B[i.toNat]?.getD 0)):=by
 unfold gz vL;rw [QF h0,QF (by simpa using h1)];have h2:i.toNat<B.length:=by omega
 simp [QP h2]
def fu (lo:Int) (n:Nat):eZ lo (n+1)=.int lo::eZ (lo+1) n:=by
 unfold eZ;rw [List.range_succ_eq_map,QT,Ry];congr 1
 . simp
 . apply map_congr_left;intro a _;show W.int (lo+((a+1:Nat):Int))=W.int (lo+1+(a:Int));congr 1;omega
def tN (h:η) (fe:ζ) (δ δ2:DS) (d e:W) (ds es:List W) (S S1 S2:ak) (h1:h d δ=some δ2) (h2:fe δ2 S=some (.ok e,S1)) (h3:cj h (ab jj) fe δ ds S1=some (.ok es,S2)):cj h (ab jj) fe δ (d::ds) S=some (.ok (e::es),S2):=by
 show (h d δ).bind _=_;rw [h1];show au (fe δ2 S) _=_;rw [h2];show au (cj h (ab jj) fe δ ds S1) _=_;rw [h3];rfl
def bg {a n:Nat} {fb:τ} {ds:List W} {S:ak} (h:ds.length=a):cG a n fb ds S=eM (fb (bM n ds) S):=QF h
def ah {f g:τ} {δ δ':DS} {S S':ak} (h:f δ S=some (.nx δ',S')):aC f g δ S=g δ' S':=by unfold aC;rw [h]
def c6 {c:DS->ak->SM Bool} {f g:τ} {δ:DS} {S S1:ak} (h:c δ S=some (.ok true,S1)):bR c f g δ S=f δ S1:=by unfold bR;rw [h];rfl
def bi {c:DS->ak->SM Bool} {f g:τ} {δ:DS} {S S1:ak} (h:c δ S=some (.ok false,S1)):bR c f g δ S=g δ S1:=by unfold bR;rw [h];rfl
def be {f:ζ} {h:η} {δ δ':DS} {S S1:ak} {d:W} (h1:f δ S=some (.ok d,S1)) (h2:h d δ=some δ'):cg f h δ S=some (.nx δ',S1):=by
 unfold cg;rw [h1];show (h d δ).map _=_;rw [h2];rfl
def bT {fi:Υ} {h:η} {fb:τ} {δ:DS} {S S1:ak} {ds:List W} (h1:fi δ S=some (.ok ds,S1)):eC fi h fb δ S=bv h fb ds δ S1:=by unfold eC;rw [h1];rfl
def bm {h:η} {fb:τ} {d:W} {ds:List W} {δ δ2 δ':DS} {S S':ak} (h1:h d δ=some δ2) (h2:fb δ2 S=some (.nx δ',S')):bv h fb (d::ds) δ S=bv h fb ds δ' S':=by
 show (h d δ).bind _=_;rw [h1];show (match fb δ2 S with | some (.nx δ',S')=>_ | some (.ct δ',S')=>_ | some (.bk δ',S')=>_ | some (.rt d,S')=>_ | some (.xc c,S')=>_ | none=>_)=_;rw [h2]
def oR {ix:Λ} {fi:Υ} {h:η} {c:DS->ak->SM Bool} {fe:ζ} {δ:DS} {S S0 S1:ak} {ds es:List W} (h1:fi δ S=some (.ok ds,S0)) (h2:ds.length<=sizeLine) (h3:cj h c fe (bU ix δ) ds S0=some (.ok es,S1)):qm ix fi h c fe δ S=some (.ok (.list es),S1):=by
 unfold qm;rw [h1];show (if ds.length<=sizeLine then _ else _)=_;rw [QF h2,h3];rfl
def qp {m:Nat} {n:Nat×Kd} {ix:Λ} {fi:DS->ak->SM (Nat×Kd)} {h:η} {c:DS->ak->SM Bool} {fe:ζ} {δ:DS} {S S0 S1:ak} {es:List W} (h1:fi δ S=some (.ok n,S0)) (h2:m<=sizeLine) (h3:bP n h c fe (bU ix δ) m 0 S0=some (.ok es,S1)):kx m ix fi h c fe δ S=some (.ok (.list es),S1):=by
 unfold kx;rw [h1];show (if m<=sizeLine then _ else _)=_;rw [QF h2,h3];rfl
def cY (i:Int) {j:Int} (h:0<j):0<=i.fmod j/\i.fmod j<j:=⟨Int.fmod_nonneg_of_pos i h,Int.fmod_lt_of_pos i h⟩
def xC {S:ak} {l:Nat} {es:List W} (h:S[l]?=some (.lst es)):eS S (l,.l)=some es:=by simp [eS,pJ,h]
mutual
noncomputable def iU:W->Bool
 | .none | .bool _ | .int _=>true
 | .str x=>strOk x
 | .list ds | .tuple ds=>dj ds
 | .ref _=>false
noncomputable def dj:List W->Bool
 | []=>true
 | d::ds=>iU d&&dj ds
end
mutual
noncomputable def cU:W->Nat
 | .list ds | .tuple ds=>cz ds+1
 | _=>0
noncomputable def cz:List W->Nat
 | []=>0
 | d::ds=>max (cU d) (cz ds)
end
mutual
theorem si:∀ (d:W),iU d=true->∃ a,d.py=some a/\a.canLay0=true/\a.depth=cU d/\PyData.eqv a a=true
 | .none,_=>⟨.none,rfl,by simp [canLay0],by simp [PyData.depth,cU],by simp [PyData.eqv]⟩
 | .bool b,_=>⟨.bool b,rfl,by simp [canLay0],by simp [PyData.depth,cU],by simp [PyData.eqv]⟩
 | .int i,_=>⟨.int i,rfl,by simp [canLay0],by simp [PyData.depth,cU],by simp [PyData.eqv]⟩
 | .str x,h=>⟨.str x,rfl,by simpa [canLay0,iU] using h,by simp [PyData.depth,cU],by simp [PyData.eqv]⟩
 | .list ds,h=>by
  obtain ⟨xs,e1,e2,e3,e4⟩:=gE ds (by simpa [iU] using h);exact ⟨.list xs,by simp [W.py,e1],by simpa [canLay0] using e2,by simp [PyData.depth,cU,e3],by simpa [PyData.eqv] using e4⟩
 | .tuple ds,h=>by
  obtain ⟨xs,e1,e2,e3,e4⟩:=gE ds (by simpa [iU] using h);exact ⟨.tuple xs,by simp [W.py,e1],by simpa [canLay0] using e2,by simp [PyData.depth,cU,e3],by simpa [PyData.eqv] using e4⟩
 | .ref _,h=>by simp [iU] at h
theorem gE:∀ (ds:List W),dj ds=true->∃ xs,W.pys ds=some xs/\canLayAll0 xs=true/\PyData.depthAll xs=cz ds/\eqvAll xs xs=true
 | [],_=>⟨[],rfl,by simp [canLayAll0],by simp [PyData.depthAll,cz],by simp [eqvAll]⟩
 | d::ds,h=>by
  have h':iU d=true/\dj ds=true:=by simpa [dj] using h
  obtain ⟨a,a1,a2,a3,a4⟩:=si d h'.1;obtain ⟨xs,e1,e2,e3,e4⟩:=gE ds h'.2;exact ⟨a::xs,by simp [W.pys,a1,e1],by simp [canLayAll0,a2,e2],by simp [PyData.depthAll,cz,a3,e3],by simp [eqvAll,a4,e4]⟩
end
def gR {ds:List W} (h:∀ d∈ds,iU d=true):dj ds=true:=by
 induction ds with
 | nil=>rfl
 | cons d ds ih=>simp [dj,h d (by simp),ih λ e he=>h e (by simp [he])]
def j1 {ds:List W} {n:Nat} (h:∀ d∈ds,cU d<=n):cz ds<=n:=by
 induction ds with
 | nil=>simp [cz]
 | cons d ds ih=>
  have:=h d (by simp);have:=ih λ e he=>h e (by simp [he]);simp [cz];omega
def AC {d:W} (h:iU d=true) (b:Bool) (e:JV d d=some b):b=true:=by
 cases d with
 | none=>exact (Rv e).symm
 | int i=>exact (Rv e).symm.trans (by simp)
 | bool i=>exact (Rv e).symm.trans (by simp)
 | str i=>exact (Rv e).symm.trans (by simp)
 | _=>cases e
def uB {d:W} (h:iU d=true) (hd:cU d<=64):bp d d=some true:=by
 obtain ⟨a,a1,a2,a3,a4⟩:=si d h;unfold bp;split
 . rename_i b e;rw [AC h b e]
 . simp [a1,a2,a3,a4,hd]
def DX {α:Type} (l:List α) (k:Nat) (h:k<l.length):gz l (k:Int)=l[k]?:=by
 unfold gz vL;rw [QF (by omega),QF (by omega)];simp
def Pg {α:Type} (a b c:α) (r:List α):gz (a::b::c::r) 2=some c:=(DX _ 2 (by simp)).trans rfl
def P4 {α:Type} (a b c d:α) (r:List α):gz (a::b::c::d::r) 3=some d:=(DX _ 3 (by simp)).trans rfl
def Ou {α:Type} (a b c d e:α) (r:List α):gz (a::b::c::d::e::r) 4=some e:=(DX _ 4 (by simp)).trans rfl
def OY {α:Type} (a b c d e f:α) (r:List α):gz (a::b::c::d::e::f::r) 5=some f:=(DX _ 5 (by simp)).trans rfl
def Qn {α:Type} (l:List α) (k:Nat) (h0:0<k) (h:k<=l.length):gz l (-(k:Int))=l[l.length-k]?:=by
 unfold gz vL;rw [QS (by omega),QF (by omega)];have e2:(-(k:Int)+(l.length:Int)).toNat=l.length-k:=by omega
 simp [e2]
def y0 (x:W) (r:List W):iV (x::r) (some 1) none=r:=by
 unfold iV;rw [HT.sIx_none,show (some (1:Int))=some ((1:Nat):Int) from rfl,HT.sIx_nat];rw [show min 1 (x::r).length=1 by simp];simp
def JI (l:List W) (a b:Nat):iV l (some (a:Int)) (some (b:Int))=(l.drop a).take (b-a):=by
 unfold iV;rw [HT.sIx_nat,HT.sIx_nat];rcases Sz l.length a with h | h
 . rw [List.drop_of_length_le (Sh h),show min a l.length=l.length by omega,SG];simp
 . rw [show min a l.length=a by omega];rcases Sz l.length b with h2 | h2
   . rw [show min b l.length=l.length by omega,List.take_of_length_le (by simp),List.take_of_length_le (by simp;omega)]
   . rw [show min b l.length=b by omega]
def M0 (l:List W) (a:Nat):iV l (some (a:Int)) none=l.drop a:=by
 unfold iV;rw [HT.sIx_nat,HT.sIx_none];rcases Sz l.length a with h | h
 . rw [List.drop_of_length_le (Sh h),show min a l.length=l.length by omega,SG];simp
 . rw [show min a l.length=a by omega,List.take_of_length_le (by simp)]
def jB {f:ζ} {δ:DS} {S S1:ak} {d:W} (h:f δ S=some (.ok d,S1)):bC f δ S=some (.nx δ,S1):=by unfold bC;rw [h];rfl
def bE {f:List W->ak->SM W} {fa:Υ} {δ:DS} {S S1 S2:ak} {ds:List W} {d:W} (h1:fa δ S=some (.ok ds,S1)) (h2:f ds S1=some (.ok d,S2)):bD f fa δ S=some (.ok d,S2):=by
 unfold bD;rw [h1];show Dj (f ds S1)=_;rw [h2];rfl
def BH {c m:Str} {f:List W->ak->SM W} {fo:μ} {fa:Υ} {δ:DS} {S S1 S2:ak} {I:Nat} {fs:List (Str×W)} {ds:List W} {d:W} (h1:fo δ=some (.ref I)) (h2:S[I]?=some (.ins c fs)) (h3:fs.lookup m=none) (h4:fa δ S=some (.ok ds,S1)) (h5:f (.ref I::ds) S1=some (.ok d,S2)):dm c m f (ab fo) fa δ S=some (.ok d,S2):=by
 unfold dm ab;rw [h1];show (iT c (.ref I) S).bind _=_;rw [show iT c (.ref I) S=some (I,fs) by simp [iT,d7,h2]];show (if fs.lookup m=none then _ else _)=_;rw [QF h3,h4];show Dj (f (.ref I::ds) S1)=_;rw [h5];rfl
def ai {α:Type} {f:DS->Option α} {δ:DS} {S:ak} {d:α} (h:f δ=some d):ab f δ S=some (.ok d,S):=by unfold ab;rw [h];rfl
def aH {f:υ} {δ δ':DS} {S:ak} (h:f δ=some (.nx δ')):aw f δ S=some (.nx δ',S):=by unfold aw;rw [h];rfl
def cq {f:υ} {δ:DS} {S:ak} {d:W} (h:f δ=some (.rt d)):aw f δ S=some (.rt d,S):=by unfold aw;rw [h];rfl
def bw {f g:τ} {δ:DS} {S S':ak} {d:W} (h:f δ S=some (.rt d,S')):aC f g δ S=some (.rt d,S'):=by unfold aC;rw [h]
def cf {f:ζ} {δ:DS} {S S1:ak} {d:W} (h:f δ S=some (.ok d,S1)):dR f δ S=some (.rt d,S1):=by unfold dR;rw [h];rfl
def set_ne' {S:ak} {m k:Nat} {o x:Ob} (h:S[k]?=some o) (hne:m≠k):(S.set m x)[k]?=some o:=by rw [QW hne];exact h
def set_eq' {S:ak} {m:Nat} {o x:Ob} (h:S[m]?=some o):(S.set m x)[m]?=some x:=kD (oG h).1
def bY {S:ak} {m k:Nat} {o x:Ob} (h:S[m]?=some o) (h2:S[k]?=some x) (hne:o≠x):m≠k:=λ e=>hne (by rw [e,h2] at h;exact (Rv h).symm)
def rg {κ:Type} [DecidableEq κ] (kvs:List (κ×W)) (k:κ) (x:W):(eI kvs k x).length<=kvs.length+1:=by
 unfold eI;split <;> simp
def bS (S:ak) (o:Ob):(S++[o])[S.length]?=some o:=by simp
def bo {f:ζ} {g:Υ} {δ:DS} {S S1 S2:ak} {d:W} {ds:List W} (h1:f δ S=some (.ok d,S1)) (h2:g δ S1=some (.ok ds,S2)):bZ f g δ S=some (.ok (d::ds),S2):=by
 unfold bZ;rw [h1];show au (g δ S1) _=_;rw [h2];rfl
def BN {c f:Str} {fo:μ} {fv:ζ} {δ:DS} {S S1:ak} {d:W} {n:Nat} {fs:List (Str×W)} (h1:fv δ S=some (.ok d,S1)) (h2:fo δ=some (.ref n)) (h3:S1[n]?=some (.ins c fs)) (h4:fs.length<1000):yd c f (ab fo) fv δ S=some (.nx δ,S1.set n (.ins c (zI f d fs))):=by
 have h5:iT c (.ref n) S1=some (n,fs):=by simp [iT,d7,h3]
 simp only [yd,h1,ke,ab,h2,QI,h5,QC,QF h4]
def CD {c:Str} {f:List W->ak->SM W} {fa:Υ} {δ:DS} {S S1 S2:ak} {ds:List W} (h1:fa δ S=some (.ok ds,S1)) (h2:f (.ref S1.length::ds) (S1++[.ins c []])=some (.ok .none,S2)):yg c f fa δ S=some (.ok (.ref S1.length),S2):=by
 simp only [yg,h1,au,h2,Dj]
def eE {fo:μ} {fv:ζ} {δ:DS} {S:ak} {l:Nat} {q:List W} {d:W} (h1:fo δ=some (.ref l)) (h2:S[l]?=some (.lst q)) (h3:fv δ S=some (.ok d,S)) (h4:q.length<9000):dq (ab fo) fv δ S=some (.nx δ,S.set l (.lst (q++[d]))):=by
 have hz:q.length<sizeLine:=QZ h4 (sz 9000 (by decide));simp only [dq,ab,h1,ke,fH h2,Su,RW,h3,QC,QF hz,QI]
def Hv {f g:DS->ak->SM Bool} {δ:DS} {S S1:ak} (h1:f δ S=some (.ok false,S1)):uu f g δ S=some (.ok false,S1):=by simp only [uu,h1,au,RL,SF]
def Bz {f g:DS->ak->SM Bool} {δ:DS} {S S1 S2:ak} {b:Bool} (h1:f δ S=some (.ok true,S1)) (h2:g δ S1=some (.ok b,S2)):uu f g δ S=some (.ok b,S2):=by simp only [uu,h1,au,RW,h2]
def MM {α:Type} (q:List α) (b:α):gz (q++[b]) (-1)=some b:=by
 have:=Qn (q++[b]) 1 (by decide) (by simp);simpa using this
def Gk {S:ak} {l:Nat} {es:List W} (h:S[l]?=some (.lst es)) (i:Int):rZ (.ref l) (.int i) S=gz es i:=by simp only [rZ,fH h,C9,QC]
def AH:∀ (bs:List Bool),zT (bs.map .bool)=some bs
 | []=>rfl
 | b::bs=>by
  show ((some b).bind λ b=>(zT (bs.map .bool)).map (b::·))=_;rw [AH bs];rfl
def yu {κ:Type} [DecidableEq κ] (kvs:List (κ×W)) (k q:κ) (x:W):aX (eI kvs k x) q=if q=k then some x else aX kvs q:=by
 by_cases h:aX kvs k=none
 . rw [j6 x h,dU kvs k q x h]
 . have ha:(kvs.any λ kv=>decide (kv.1=k))=true:=by
    cases e:kvs.any λ kv=>decide (kv.1=k) with
    | true=>rfl
    | false=>
     exact absurd (by
      unfold aX;rw [find?_eq_none.mpr λ z hz=>by simpa using List.any_eq_false.mp e z hz];rfl) h
   unfold eI;rw [QF ha];clear ha;induction kvs with
   | nil=>simp [aX] at h
   | cons p r ih=>
    obtain ⟨j,y⟩:=p;by_cases hj:j=k
    . subst hj;by_cases hq:q=j
      . subst hq;simp [aX,Rc]
      . have hq':¬ j=q:=λ z=>hq z.symm;rw [QS hq];clear ih h;simp only [aX,QT,RW,Rc,hq',decide_false];induction r with
        | nil=>rfl
        | cons p r ih=>
         obtain ⟨i,z⟩:=p;by_cases hi:i=j
         . subst hi;simpa [Rc,hq'] using ih
         . by_cases hiq:i=q
           . subst hiq;simp [Rc,hi]
           . simpa [Rc,hi,hiq] using ih
    . have h':¬ aX r k=none:=by simpa [aX,Rc,hj] using h
      have ih':=ih h';by_cases hjq:j=q
      . subst hjq;simp [aX,Rc,hj]
      . simpa [aX,Rc,hj,hjq] using ih'
inductive Al (R:W->W->Prop):List W->List W->Prop
 | nil:Al R [] []
 | cons {x y:W} {a b:List W}:R x y->Al R a b->Al R (x::a) (y::b)
def Cp {n:Nat×Kd} {h:η} {fe:ζ} {S:ak} {es:List W} {δ:DS} {R:W->W->Prop} (hl:eS S n=some es) (hh:∀ x y,R x y->∃ δ2,h x δ=some δ2/\fe δ2 S=some (.ok y,S)) {a b:List W} (A:Al R a b):∀ (m i:Nat),es.drop i=a->a.length<m->bP n h (ab jj) fe δ m i S=some (.ok b,S):=by
 induction A with
 | nil=>
  intro m i e hm;obtain ⟨m,rfl⟩:∃ k,m=k+1:=⟨m-1,by omega⟩
  show (eS S n).bind _=_;rw [hl];show (match es[i]? with | none=>_ | some d=>_)=_;rw [Sd (by simpa using e)]
 | cons r _ ih=>
  rename_i x y a b _;intro m i e hm;obtain ⟨m,rfl⟩:∃ k,m=k+1:=⟨m-1,by simp at hm;omega⟩
  have hi:i<es.length:=Nat.lt_of_not_le λ hc=>by rw [List.drop_of_length_le hc] at e;cases e
  rw [Rx hi] at e;obtain ⟨e1,e2⟩:=List.cons.inj e;obtain ⟨δ2,h1,h2⟩:=hh x y r;show (eS S n).bind _=_;rw [hl];show (match es[i]? with | none=>_ | some d=>_)=_;rw [QP hi,e1];show (h x δ).bind _=_;rw [h1];show au (fe δ2 S) _=_;rw [h2];show au (bP n h (ab jj) fe δ m (i+1) S) _=_;rw [ih m (i+1) e2 (by simp at hm;omega)];rfl
instance CM:Nat->List W->List W
 | _,[]=>[]
 | k,x::r=>.tuple [.int (k:Int),x]::CM (k+1) r
def y2:∀ (l:List W) (k i:Nat),(CM k l)[i]?=(l[i]?).map λ x=>.tuple [.int ((k+i:Nat):Int),x]
 | [],k,i=>by simp [CM]
 | x::l,k,0=>by simp [CM]
 | x::l,k,i+1=>by
  simp only [CM,List.getElem?_cons_succ,y2 l (k+1) i];rw [show k+1+i=k+(i+1) by omega]
def DZ (l:List W) (k:Nat):vY k l=CM k l:=by
 apply ext_getElem?;intro i;rw [y2];unfold vY;rw [Re];by_cases h:i<l.length
 . rw [List.getElem?_range h];simp [QP h]
 . rw [Sd (by simpa using h),Sd (by omega)];rfl
def ua (l:List W):kW l=CM 0 l:=by
 rw [<-DZ];unfold kW vY;simp
noncomputable def uD:=And.intro @cn.eq_1 <| And.intro @DY.eq_1 <| And.intro @DY.eq_2 <| And.intro @DY.eq_3 <| And.intro @bM.eq_1 <| And.intro @az.eq_1 <| And.intro @aF.eq_1 <| And.intro @ci.eq_1 <| And.intro @aN.eq_1 <| And.intro @JD.eq_1 <| And.intro @aG.eq_1 <| And.intro @iS.eq_1 <| And.intro @mI.eq_1 <| And.intro @frz.eq_1 <| And.intro @gY.eq_1 <| And.intro @eU.eq_1 <| And.intro @sX.eq_1 <| And.intro @nz.eq_1 <| And.intro @ae.eq_1 <| And.intro @aq.eq_1 <| And.intro @dC.eq_1 <| And.intro @av.eq_1 <| And.intro @ay.eq_1 <| And.intro @dB.eq_1 <| And.intro @ve.eq_1 <| And.intro @um.eq_1 <| And.intro @vj.eq_1 <| And.intro @jR.eq_1 <| And.intro @Aj.eq_1 <| And.intro @gL.eq_1 <| And.intro @kj.eq_1 <| And.intro @aU.eq_1 <| And.intro @aa.eq_1 <| And.intro @ag.eq_1 <| And.intro @aK.eq_1 <| And.intro @bu.eq_1 <| And.intro @bc.eq_1 <| And.intro @gF.eq_1 <| And.intro @nG.eq_1 <| And.intro @bA.eq_1 <| And.intro @af.eq_1 <| And.intro @bG.eq_1 <| And.intro @bG.eq_2 <| And.intro @aD.eq_1 <| And.intro @aD.eq_2 <| And.intro @bJ.eq_1 <| And.intro @bJ.eq_2 <| And.intro @D3.eq_1 <| And.intro @eW.eq_1 <| And.intro @dD.eq_1 <| And.intro @yK.eq_1 <| And.intro @wg.eq_1 <| And.intro @iE.eq_1 <| And.intro @nB.eq_1 <| And.intro @bU.eq_1 <| And.intro @qd.eq_1 <| And.intro @qd.eq_2 <| And.intro @jj.eq_1 <| And.intro @Fn.eq_1 <| And.intro @nQ.eq_1 <| And.intro @HW <| And.intro @HG <| And.intro @HI <| And.intro @Jd <| And.intro @CB <| And.intro @IQ <| And.intro @jb <| And.intro @C9 <| And.intro @jD <| And.intro @Jv <| And.intro @I0 <| And.intro @Jm <| And.intro @HK <| And.intro @Gb <| And.intro @pC <| And.intro @LR <| And.intro @MO <| And.intro @LU <| And.intro @Li <| And.intro @yj <| And.intro @LZ <| And.intro @MI <| And.intro @Kv <| And.intro @L6 <| And.intro @El <| And.intro @Fo <| And.intro @EM <| And.intro @Ft <| And.intro @Eb <| And.intro @HV <| And.intro @H9 <| And.intro @JW <| And.intro @J6 <| And.intro @IP <| And.intro @ES <| And.intro @Db <| And.intro @D9 <| And.intro @Ix <| And.intro @JX <| And.intro @QY.{0} <| And.intro @RG.{0} <| And.intro @QT.{0,0} <| And.intro @List.map_nil.{0,0} <| And.intro @SJ.{0} <| And.intro @List.cons_append.{0} <| And.intro @List.getElem?_cons_zero.{0} <| And.intro @List.getElem?_cons_succ.{0} <| And.intro @List.set_cons_zero.{0} <| And.intro @List.set_cons_succ.{0} <| And.intro @QC.{0,0} <| And.intro @QI.{0,0} <| And.intro @Option.bind_none.{0,0} <| And.intro @Option.map_none.{0,0} <| And.intro @Option.getD_some.{0} <| And.intro @Option.getD_none.{0} <| And.intro @RW.{1} <| And.intro @decide_true <| And.intro @decide_false <| And.intro @Bool.not_true <| And.intro @Bool.not_false <| And.intro @RL <| And.intro @ne_eq.{1} <| @not_false_eq_true
noncomputable def uS:=And.intro @cG.eq_1 <| And.intro @eM.eq_1 <| And.intro @eM.eq_2 <| And.intro @eM.eq_3 <| And.intro @eM.eq_4 <| And.intro @aC.eq_1 <| And.intro @bR.eq_1 <| And.intro @dR.eq_1 <| And.intro @cg.eq_1 <| And.intro @bC.eq_1 <| And.intro @aw.eq_1 <| And.intro @ke.eq_1 <| And.intro @ke.eq_2 <| And.intro @ke.eq_3 <| And.intro @au.eq_1 <| And.intro @au.eq_2 <| And.intro @au.eq_3 <| And.intro @fN.eq_1 <| And.intro @ab.eq_1 <| And.intro @pc.eq_1 <| And.intro @dm.eq_1 <| And.intro @bD.eq_1 <| And.intro @HU.eq_1 <| And.intro @Dj.eq_1 <| And.intro @Dj.eq_2 <| And.intro @AR.eq_1 <| And.intro @AR.eq_2 <| And.intro @AR.eq_3 <| And.intro @AR.eq_4 <| And.intro @kS.eq_1 <| And.intro @bZ.eq_1 <| And.intro @jM.eq_1 <| And.intro @jJ.eq_1 <| And.intro @uu.eq_1 <| And.intro @GX.eq_1 <| And.intro @qO.eq_1 <| And.intro @OW.eq_1 <| And.intro @LA.eq_1 <| And.intro @sB.eq_1 <| And.intro @ky.eq_1 <| And.intro @MX.eq_1 <| And.intro @z9.eq_1 <| And.intro @OI.eq_1 <| And.intro @eJ.eq_1 <| And.intro @D5.eq_1 <| And.intro @ub.eq_1 <| And.intro @sIx.eq_1 <| And.intro @rZ.eq_1 <| And.intro @OJ.eq_1 <| And.intro @yi.eq_1 <| And.intro @yi.eq_2 <| And.intro @yi.eq_3 <| And.intro @Ex.eq_1 <| And.intro @Lh.eq_1 <| And.intro @iW.eq_1 <| And.intro @vO.eq_1 <| And.intro @kx.eq_1 <| @Option.map_eq_map.{0}
section
variable {X:Cx}
end
section
variable {K:Frag} {cl:Str->Addr} {E:XK}
end
section
variable {prog:Program} {w:World} {A:Around} {E:Γ} {s:Shared}
instance Dk (es:Array DictEntry) (h:Int):List Nat:=placesWithHash es.size (λ i=>es[i]?.map (·.hash)) h
def Ci (es:Array DictEntry) (h:Int):Dk es h=(List.range es.size).filter λ i=>(es[i]?.map (·.hash))==some h:=rfl
def ol {es:Array DictEntry} {h:Int} {x:Nat}:x∈Dk es h↔∃ e,es[x]?=some e/\e.hash=h:=by
 rw [Ci,Rq,mem_range];constructor
 . rintro ⟨h1,h2⟩;rw [Sc h1] at h2 ⊢;exact ⟨_,rfl,by simpa using h2⟩
 . rintro ⟨e,h1,h2⟩;refine ⟨?_,by simp [h1,h2]⟩;rcases Sz x es.size with g | g
   . exact g
   . rw [getElem?_eq_none g] at h1;cases h1
def zZ (es:Array DictEntry) (h:Int):(Dk es h).Nodup:=by rw [Ci];exact List.Pairwise.filter _ List.nodup_range
def tp {α:Type} {M:Model} {c:Prop} [Decidable c] {a b:Sem α} {Q:α->Shared->Prop} (h1:wpAny M A a Q E s) (h2:wpAny M A b Q E s):wpAny M A (if c then a else b) Q E s:=by
 by_cases h:c
 . rw [QF h];exact h1
 . rw [QS h];exact h2
structure FX (prog:Program) (w:World) (A:Around) (E:Γ) (s:Shared) (es:Array DictEntry) (key:Value) (h:Int) (m:Nat->Bool):Prop where
 kind:key=.none∨∃ a,key=.ref a
 same:∀ e∈es,e.key=key->e.hash=h
 quiet:∀ v,v=key∨(∃ e∈es,e.key=v)->∀ Q':Bool->Shared->Prop,Q' true s->wpAny (model prog w) A (eqIsQuiet 8 v) Q' E s
 eq:∀ i e,es[i]?=some e->e.hash=h->∀ Q':Bool->Shared->Prop,Q' (m i) s->wpAny (model prog w) A (eqBool e.key key) Q' E s
 hash:∀ i,m i=true->∃ e,es[i]?=some e/\e.hash=h
 one:∀ i j,m i=true->m j=true->i=j
variable {es:Array DictEntry} {ep:Nat} {key:Value} {h:Int} {m:Nat->Bool} {d:Addr} {o:Obj}
def FX.plain (L:FX prog w A E s es key h m) (ho:s.heap.get? d=some o) (hd:o.data=.dict es ep) {Q:Option Nat->Shared->Prop} (h0:(∀ i,m i=false)->Q none s) (h1:∀ i,m i=true->Q (some i) s):wpAny (model prog w) A (dictWalkPlain d key h es (Dk es h)) Q E s:=by
 refine QA ?_;refine wpAny_forIn_list _ (λ aM b s'=>s'=s/\b=(none,())/\∃ pre,Dk es h=pre++aM/\∀ i∈pre,m i=false) _ ?_ ?_ _ _ ⟨rfl,rfl,[],rfl,by simp⟩
 . rintro x aM b s' ⟨rfl,rfl,pre,hp,hn⟩;obtain ⟨e,e1,e2⟩:=ol.mp (show x∈Dk es h by rw [hp];simp);rw [e1];dsimp only;rw [QF (by simp [e2])];refine QA (Sx ho hd (QA (L.eq x e e1 e2 _ (QA (Sx ho hd ?_)))));rw [QS (by simp)];cases hx:m x with
   | true=>rw [QF rfl];exact QA (SH (QN (QN (h1 x hx))))
   | false=>
    rw [QS (by simp)];refine QA (SH (QN ⟨rfl,rfl,pre++[x],by rw [hp];simp,λ i hi=>?_⟩));rcases QK.mp hi with hi | hi
    . exact hn i hi
    . rw [QD.mp hi];exact hx
 . rintro b s' ⟨rfl,rfl,pre,hp,hn⟩;refine QN (h0 λ i=>?_);cases hi:m i with
   | false=>rfl
   | true=>exact absurd hi (by rw [hn i (by have:=ol.mpr (L.hash i hi);rw [hp,Ra] at this;exact this)];simp)
def FX.tells (L:FX prog w A E s es key h m) {Q:Bool->Shared->Prop} (hQ:Q false s):wpAny (model prog w) A (tableMayTell key ((Dk es h).filterMap λ i=>es[i]?.map (·.key))) Q E s:=by
 unfold tableMayTell;split
 . exact QN hQ
 . refine QA (L.quiet key (.inl rfl) _ ?_);simp only [Bool.not_true,RL,SF];refine QA (wpAny_forIn_list _ (λ aM r s'=>s'=s/\r=(none,())/\∀ v∈aM,∃ e∈es,e.key=v) _ ?_ ?_ _ _ ⟨rfl,rfl,λ v hv=>?_⟩)
   . rintro x aM r s' ⟨rfl,rfl,hr⟩;refine QA (L.quiet x (.inr (hr x (by simp))) _ ?_);simp only [Bool.not_true,RL,SF];exact QN ⟨rfl,rfl,λ v hv=>hr v (by simp [hv])⟩
   . rintro r s' ⟨rfl,rfl,_⟩;exact QN hQ
   . obtain ⟨i,_,hi⟩:=Sr.mp hv;obtain ⟨e,e1,e2⟩:=oM hi
     exact ⟨e,Array.mem_of_getElem? e1,e2⟩
def FX.find (L:FX prog w A E s es key h m) (ho:s.heap.get? d=some o) (hd:o.data=.dict es ep) {Q:Option Nat->Shared->Prop} (h0:(∀ i,m i=false)->Q none s) (h1:∀ i,m i=true->Q (some i) s):wpAny (model prog w) A (dictFind d key h) Q E s:=by
 have hany:¬ (es.any λ e=>e.key==key&&e.hash != h)=true:=by
  rw [<-Array.any_toList,Sg];rintro ⟨e,hin,hc⟩;simp only [Rb,beq_iff_eq,bne_iff_ne,ne_eq] at hc;exact hc.2 (L.same e (mem_toList_iff.mp hin) hc.1)
 have walk:∀ {sv:Φ},wpAny (model prog w) A (do
  let mut g:Option Nat:=none
  for i in Dk es h do
   if let some q:=es[i]? then
    if q.hash==h then
     let b4 <-dictEpoch d (keyPart key);let sm <-eqBool q.key key
     if (<-dictEpoch d (keyPart key)) != b4 then unsupported "dict.changed-during-lookup"
     if sm then
      if g.isSome then unsupported "dict.find:order-among-keys-of-one-hash"
      rule "dict.find.hit"; if sv.length<2 then return some i
      g:=some i
     else
      rule "dict.find.same-hash-other-key"; if false && !(0<=h&&h<32) then unsupported "dict.find:asked-again-or-not-hangs-on-the-table"
  return g) Q E s:=by
  intro stored;refine QA ?_;refine wpAny_forIn_list _ (λ aM b s'=>s'=s/\∃ hit,b=(none,hit)/\∃ pre,Dk es h=pre++aM/\((hit=none/\∀ i∈pre,m i=false)∨∃ i∈pre,hit=some i/\m i=true)) _ ?_ ?_ _ _ ⟨rfl,none,rfl,[],rfl,.inl ⟨rfl,by simp⟩⟩
  . rintro x aM b s' ⟨rfl,hit,rfl,pre,hp,hH⟩;obtain ⟨e,e1,e2⟩:=ol.mp (show x∈Dk es h by rw [hp];simp);rw [e1];dsimp only;rw [QF (by simp [e2])];refine QA (Sx ho hd (QA (L.eq x e e1 e2 _ (QA (Sx ho hd ?_)))));rw [QS (by simp)];have nd:=zZ es h;rw [hp] at nd;have hx0:x∉pre:=λ hx=>(RZ.mp nd).2.2 x hx x (by simp) rfl;cases hx:m x with
    | true=>
     rw [QF rfl];rcases hH with ⟨rfl,hn⟩ | ⟨i,hi,rfl,hm⟩
     . rw [QS (by simp)];refine QA (SH ?_);split
       . exact QN (QN (h1 x hx))
       . exact QN ⟨rfl,some x,rfl,pre++[x],by rw [hp];simp,.inr ⟨x,by simp,rfl,hx⟩⟩
     . exact absurd (L.one i x hm hx▸hi) hx0
    | false=>
     rw [QS (by simp)];refine QA (SH ?_);rw [QS (by simp)];refine QN ⟨rfl,hit,rfl,pre++[x],by rw [hp];simp,?_⟩;rcases hH with ⟨rfl,hn⟩ | ⟨i,hi,rfl,hm⟩
     . refine .inl ⟨rfl,λ i hi=>?_⟩;rcases QK.mp hi with hi | hi
       . exact hn i hi
       . rw [QD.mp hi];exact hx
     . exact .inr ⟨i,by simp [hi],rfl,hm⟩
  . rintro b s' ⟨rfl,hit,rfl,pre,hp,hH⟩;rw [Ra] at hp;rcases hH with ⟨rfl,hn⟩ | ⟨i,hi,rfl,hm⟩
    . refine QN (h0 λ i=>?_);cases hi:m i with
      | false=>rfl
      | true=>exact absurd hi (by rw [hn i (by have:=ol.mpr (L.hash i hi);rw [hp] at this;exact this)];simp)
    . exact QN (h1 i hm)
 have pl:=L.plain ho hd h0 h1;have tl:=@FX.tells prog w A E s es key h m L;rcases L.kind with rfl | ⟨a,rfl⟩
 . unfold dictFind;try with_reducible refine RH ?_
   refine QA (R0 ho hd ?_);refine tp pl (tp (QA (QN ?_)) (QA (tl ?_)))
   . dsimp only;rw [QS (by simp)];exact walk
   . dsimp only;rw [QS (by simp)];exact walk
 . unfold dictFind;try with_reducible refine RH ?_
   refine QA (R0 ho hd ?_);refine tp pl ?_;dsimp only;rw [QS hany];refine tp (QA (QN ?_)) (QA (tl ?_))
   . rw [QS (by simp)];exact walk
   . rw [QS (by simp)];exact walk
end
section
variable {P:Program} {w:World} {A:Around} {E:Γ} {s:Shared}
def zR {Q:Int->Shared->Prop} (h:Q 4238894112 { s with toks:=s.toks+1 }):wpAny (model P w) A (pyHash .none) Q E s:=by
 have hT:s.TypeIs .none "NoneType" := rfl;have hv:[Value.none].any Value.onHeap=false:=rfl;unfold pyHash;refine QA ?_;rw [cRoomFor,QS (by rw [hv];exact QU)];refine QN ?_;refine QA (wpAny_specialOf hT F.slot_NoneType_hash.lookup ?_);rw [QS (by rw [beq_builtin_none];exact QU)];refine QA (wpAny_specialOf hT F.slot_NoneType_hash.lookup ?_);rw [QS (by simp)];refine QA (wpAny_callSpecialIfBoundUnlessNone?_slot hT F.slot_NoneType_hash (wpAny_call_entry F.slot_NoneType_hash hT F.entry_NoneType_hash (show wpAny _ _ (do ret (<-mkInt 4238894112)) _ _ s from wpAny_ret_mkInt ?_) (F.args_NoneType_hash_1 _)));show wpAny _ _ (if (decide (-(2:Int)^63<=4238894112)&&decide ((4238894112:Int)<2^63))=true then _ else _) Q E _;rw [QF (by decide)];exact QN h
instance nR (P:Program) (w:World) (h:Heap) (ks:List aB) (v:Value):Prop:=(ks=[]/\v=.none)∨(ks≠[]/\∃ b,v=.ref b/\(tupleKind (bj P w)).is h ks b)
instance nD (ks:List aB):Nat:=ks.length+1
def nR.hash {ks:List aB} {v:Value} {Q:Int->Shared->Prop} (hu:A.units<cLine) (r:nR P w s.heap ks v) (h:Q (nH P w ks) { s with toks:=s.toks+nD ks }):wpAny (model P w) A (pyHash v) Q E s:=by
 rcases r with ⟨rfl,rfl⟩ | ⟨n,b,rfl,hb⟩
 . exact zR h
 . refine (tupleKind (bj P w)).pyHash hu hb ?_;rw [nH,QS n] at h;exact h
def nR.inj {h:Heap} {x y:List aB} {v:Value} (a:nR P w h x v) (b:nR P w h y v):x=y:=by
 rcases a with ⟨rfl,rfl⟩ | ⟨n,c,rfl,hc⟩ <;> rcases b with ⟨rfl,e⟩ | ⟨n',c',e,hc'⟩
 . rfl
 . cases e
 . cases e
 . cases e;exact (tupleKind (bj P w)).inj hc hc'
def nR.eq {x y:List aB} {u v:Value} {Q:Bool->Shared->Prop} (hu:A.units<cLine) (a:nR P w s.heap x u) (b:nR P w s.heap y v) (h:Q (decide (x=y)) s):wpAny (model P w) A (eqBool u v) Q E s:=by
 rcases a with ⟨rfl,rfl⟩ | ⟨n,c,rfl,hc⟩ <;> rcases b with ⟨rfl,rfl⟩ | ⟨n',c',rfl,hc'⟩
 . unfold eqBool;try with_reducible refine RH ?_
   rw [QF (by rfl)];exact QA (SH (QN (by simpa using h)))
 . obtain ⟨o,its,k,h1,h2,h3,_⟩:=hc';exact SeqAt.EqAt.none_tuple (items:=its) ⟨o,h1,h2,k,h3⟩ hu P w E Q (by rw [QJ (λ z=>n' z.symm)] at h;exact h)
 . obtain ⟨o,its,k,h1,h2,h3,_⟩:=hc;exact SeqAt.EqAt.tuple_none (items:=its) ⟨o,h1,h2,k,h3⟩ hu P w E Q (by rw [QJ n] at h;exact h)
 . exact (tupleKind (bj P w)).eqBool hu hc hc' h
def nR.quiet {x:List aB} {u:Value} {Q:Bool->Shared->Prop} (a:nR P w s.heap x u) (h:Q true s):wpAny (model P w) A (eqIsQuiet 8 u) Q E s:=by
 rcases a with ⟨rfl,rfl⟩ | ⟨n,c,rfl,hc⟩
 . exact QN h
 . exact (tupleKind (bj P w)).quiet hc h
instance Dn (P:Program) (w:World) (h:Heap) (d:Addr) (xs:List (List aB×Value×Value)):Prop:=
 ∃ o es ep,h.get? d=some o/\o.ExactDict/\o.data=.dict es ep/\es.toList=xs.map (nE P w)/\(∀ x∈xs,nR P w h x.1 x.2.1)/\(xs.map (·.1)).Nodup
instance tE (xs:List (List aB×Value×Value)) (k:List aB):Option (Value×Value):=(xs.find? λ x=>decide (x.1=k)).map (·.2)
instance nM (xs:List (List aB×Value×Value)) (k:List aB) (i:Nat):Bool:=(xs[i]?.map λ x=>decide (x.1=k)).getD false
def lr {xs:List (List aB×Value×Value)} {k:List aB} {i:Nat} (h:nM xs k i=true):∃ p,xs[i]?=some (k,p):=by
 unfold nM at h;cases e:xs[i]? with
 | none=>rw [e] at h;cases h
 | some x=>
  rw [e] at h;simp at h;subst h;exact ⟨x.2,rfl⟩
def Gw {xs:List (List aB×Value×Value)} {k:List aB} (hn:(xs.map (·.1)).Nodup) {i:Nat} {p:Value×Value} (h:xs[i]?=some (k,p)):tE xs k=some p:=by
 unfold tE;cases e:xs.find? λ x=>decide (x.1=k) with
 | none=>exact absurd (find?_eq_none.mp e (k,p) (Rz h)) (by simp)
 | some y=>
  have y1:y.1=k:=by simpa using List.find?_some e
  obtain ⟨j,hj⟩:=List.getElem?_of_mem (List.mem_of_find?_eq_some e);have l1:(xs.map (·.1))[i]?=some k:=by simp [h]
  have l2:(xs.map (·.1))[j]?=some k:=by simp [hj,y1]
  have ij:i=j:=(List.getElem?_inj (by have:=(oG l1).1;exact this) hn).mp (l1.trans l2.symm);subst ij;rw [h] at hj;cases hj;rfl
def xU {xs:List (List aB×Value×Value)} {k:List aB} (h:∀ i,nM xs k i=false):tE xs k=none:=by
 unfold tE;rw [find?_eq_none.mpr]
 . rfl
 . intro x hx;obtain ⟨i,hi⟩:=List.getElem?_of_mem hx;have:=h i;simp [nM,hi] at this;simpa using this
def Dn.fnd {h:Heap} {xs:List (List aB×Value×Value)} {es:Array DictEntry} {k:List aB} {key:Value} (hu:A.units<cLine) (hh:s.heap=h) (hk:nR P w h k key) (he:es.toList=xs.map (nE P w)) (his:∀ x∈xs,nR P w h x.1 x.2.1) (hn:(xs.map (·.1)).Nodup):FX P w A E s es key (nH P w k) (nM xs k):=by
 subst hh;have at':∀ i:Nat,es[i]?=(xs[i]?).map (nE P w):=λ i=>by rw [<-RO,he,Re]
 have mem:∀ e∈es,∃ x∈xs,e=nE P w x:=λ e hin=>by
  have:e∈xs.map (nE P w):=he▸mem_toList_iff.mpr hin;obtain ⟨x,hx,rfl⟩:=Q7.mp this;exact ⟨x,hx,rfl⟩
 refine ⟨?_,λ e hin e1=>?_,λ v hv Q' hq=>?_,λ i e e1 e2 Q' hq=>?_,λ i hi=>?_,λ i j hi hj=>?_⟩
 . rcases hk with ⟨_,rfl⟩ | ⟨_,b,rfl,_⟩
   . exact .inl rfl
   . exact .inr ⟨b,rfl⟩
 . obtain ⟨x,hx,rfl⟩:=mem e hin;have e1:x.2.1=key:=e1;have:=his x hx;rw [e1] at this;show nH P w x.1=nH P w k;rw [this.inj hk]
 . rcases hv with rfl | ⟨e,hin,rfl⟩
   . exact hk.quiet hq
   . obtain ⟨x,hx,rfl⟩:=mem e hin;exact (his x hx).quiet hq
 . rw [at' i] at e1;obtain ⟨x,hx,rfl⟩:=oM e1
   refine (his x (Rz hx)).eq hu hk ?_;simpa [nM,hx] using hq
 . obtain ⟨p,hp⟩:=lr hi;exact ⟨_,by rw [at' i,hp];rfl,rfl⟩
 . obtain ⟨p,hp⟩:=lr hi;obtain ⟨q,hq⟩:=lr hj;have l1:(xs.map (·.1))[i]?=some k:=by simp [hp]
   have l2:(xs.map (·.1))[j]?=some k:=by simp [hq]
   exact (List.getElem?_inj (oG l1).1 hn).mp (l1.trans l2.symm)
def Dn.get {d:Addr} {xs:List (List aB×Value×Value)} {k:List aB} {key:Value} {Q:Option Value->Shared->Prop} (hu:A.units<cLine) (hk:nR P w s.heap k key) (D:Dn P w s.heap d xs) (h:Q ((tE xs k).map (·.2)) { s with toks:=s.toks+nD k }):wpAny (model P w) A (dictGet d key) Q E s:=by
 obtain ⟨o,es,ep,ho,_,hd,he,his,hn⟩:=D;unfold dictGet;try with_reducible refine RH ?_
 refine QA (hk.hash hu (QA ((Dn.fnd (s:={ s with toks:=s.toks+nD k }) hu rfl hk he his hn).find ho hd (λ h0=>?_) λ i hi=>?_)))
 . rw [xU h0] at h;exact QN h
 . obtain ⟨p,hp⟩:=lr hi;rw [Gw hn hp] at h;refine QA (R0 (s:={ s with toks:=s.toks+nD k }) ho hd ?_);rw [show es[i]?=some (nE P w (k,p)) by rw [<-RO,he,Re,hp];rfl];exact QN h
def nR.keeps {h h':Heap} {x:List aB} {v:Value} {d:Addr} {o:Obj} {es:Array DictEntry} {ep:Nat} (a:nR P w h x v) (ho:h.get? d=some o) (hd:o.data=.dict es ep) (hs:Heap.SameBut d h h'):nR P w h' x v:=by
 rcases a with ⟨rfl,rfl⟩ | ⟨n,c,rfl,hc⟩
 . exact .inl ⟨rfl,rfl⟩
 . exact .inr ⟨n,c,rfl,(tupleKind (bj P w)).keeps hc ho hd hs⟩
def Dn.push {d:Addr} {o:Obj} {es:Array DictEntry} {ep:Nat} {xs:List (List aB×Value×Value)} {k:List aB} {key v:Value} (hk:nR P w s.heap k key) (ho:s.heap.get? d=some o) (hc:o.ExactDict) (hd:o.data=.dict es ep) (he:es.toList=xs.map (nE P w)) (his:∀ x∈xs,nR P w s.heap x.1 x.2.1) (hn:(xs.map (·.1)).Nodup) (hno:tE xs k=none):
 Dn P w (s.heap.update d (Obj.mapDictKeys (·.push ⟨nH P w k,key,v⟩))) d (xs++[(k,key,v)]):=by
 refine ⟨_,_,ep+1,get?_update_self _ ho (Obj.isFreed_of_dict (Obj.data_mapDictKeys hd _)),hc.mapDictKeys _,Obj.data_mapDictKeys hd _,?_,?_,?_⟩
 . simp [he,nE]
 . intro x hx;rcases QK.mp hx with hx | hx
   . exact (his x hx).keeps ho hd (R7 ..)
   . rw [QD.mp hx];exact hk.keeps ho hd (R7 ..)
 . rw [Rw,RZ];refine ⟨hn,by simp,λ a ha b hb hab=>?_⟩;simp at hb;subst hab;obtain ⟨x,hx,e⟩:=Q7.mp ha;unfold tE at hno;cases f:xs.find? λ x=>decide (x.1=k) with
   | none=>exact absurd (find?_eq_none.mp f x hx) (by simp [e,hb])
   | some y=>rw [f] at hno;cases hno
def Dn.setdefault {d:Addr} {xs:List (List aB×Value×Value)} {k:List aB} {key dv:Value} {Q:Γ} (hu:A.units<cLine) (hk:nR P w s.heap k key) (D:Dn P w s.heap d xs) (hz:xs.length<sizeLine)
 (h0:tE xs k=none->∀ h',Dn P w h' d (xs++[(k,key,dv)])->Heap.SameBut d s.heap h'->Q dv { s with heap:=h',toks:=s.toks+nD k }) (h1:∀ p,tE xs k=some p->Q p.2 { s with toks:=s.toks+nD k }):wpAny (model P w) A (dictSetDefault d key dv) Q E s:=by
 obtain ⟨o,es,ep,ho,hc,hd,he,his,hn⟩:=D;have hsz:es.size=xs.length:=by rw [<-R6,he,Rk]
 unfold dictSetDefault;try with_reducible refine RH ?_
 refine QA (hk.hash hu (QA ((Dn.fnd (s:={ s with toks:=s.toks+nD k }) hu rfl hk he his hn).find ho hd (λ hno=>?_) λ i hi=>?_)))
 . have hno:=xU hno;refine QA (SH (QA (wpAny_updateDictKeys (hz:=by omega) (s:={ s with toks:=s.toks+nD k }) ho hd (QN (h0 hno _ (Dn.push hk ho hc hd he his hn hno) (R7 ..))))))
 . obtain ⟨p,hp⟩:=lr hi;refine QA (R0 (s:={ s with toks:=s.toks+nD k }) ho hd ?_);rw [show es[i]?=some (nE P w (k,p)) by rw [<-RO,he,Re,hp];rfl];exact QA (SH (QN (h1 p (Gw hn hp))))
def wX {d:Addr} {key:Value} (hd:(d==sysModules)=false) (r:Value):
 MeetsIn P w (Builtin.«dict.get» ⟨[.ref d,key,r],[]⟩) (λ A R s=>A.in1.units<cLine/\∃ k xs,nR P w s.heap k key/\Dn P w s.heap d xs/\R (.ok (.ret (((tE xs k).map (·.2)).getD r))) { s with toks:=s.toks+nD k }):=
 .of_wp λ A R s ⟨hu,k,xs,hk,hm,h⟩=>by
  show wpAny _ _ (dictGet d key >>= _) _ _ s;refine QA (Dn.get hu hk hm ?_);cases hf:(tE xs k).map (·.2) with
  | some v=>rw [hf] at h;exact QN ⟨v,rfl,h⟩
  | none=>
   rw [hf] at h;show wpAny _ _ (Builtin.Dict.missed d key >>= _) _ _ _;exact QA (wpAny_missed_other hd (QN ⟨r,rfl,h⟩))
def Dn.typeIs {d:Addr} {xs:List (List aB×Value×Value)} (D:Dn P w s.heap d xs):s.TypeIs (.ref d) "dict" := let ⟨o,_,_,ho,hc,_⟩:=D;⟨o,ho,hc.1⟩
def wu {d:Addr} {key:Value} (hd:(d==sysModules)=false) (r:Value):
 MeetsIn P w (Builtin.«dict.setdefault» ⟨[.ref d,key,r],[]⟩) (λ A R s=>A.in1.units<cLine/\∃ k xs,nR P w s.heap k key/\Dn P w s.heap d xs/\xs.length<sizeLine/\
  (∀ p,tE xs k=some p->R (.ok (.ret p.2)) { s with toks:=s.toks+nD k })/\
  (tE xs k=none->∀ h',Dn P w h' d (xs++[(k,key,r)])->Heap.SameBut d s.heap h'->R (.ok (.ret r)) { s with heap:=h',toks:=s.toks+nD k })):=
 .of_wp λ A R s ⟨hu,k,xs,hk,hm,hz,h1,h0⟩=>by
  unfold Builtin.«dict.setdefault»;refine QA ?_;unfold Builtin.Dict.keyAndDefault;refine QA (wpAny_notOrdered_dict hm.typeIs ?_);show wpAny _ _ (pure (d,key,some r)) _ _ s;refine QN ?_;show wpAny _ _ (if (d==sysModules)=true then _ else (dictSetDefault d key r >>= _)) _ _ s;rw [QS (by rw [hd];exact QU)];exact QA (Dn.setdefault hu hk hm hz (λ hn h' hm' hs=>QN ⟨r,rfl,h0 hn h' hm' hs⟩) λ p hp=>QN ⟨p.2,rfl,h1 p hp⟩)
end
section
noncomputable abbrev KN (H:Hp):List (List aB×V)->List (List aB×Value×Value)->Prop:=Paired λ p q=>p.1=q.1/\nV H p.1 q.2.1/\br p.2 q.2.2
def KN.val {H:Hp} {kvs:List (List aB×V)} {xs:List (List aB×Value×Value)} (r:KN H kvs xs) (k:List aB):iB (f9 kvs k) ((tE xs k).map (·.2)):=by
 induction r with
 | nil=>exact True.intro
 | @cons p q ps qs h t ih=>
  obtain ⟨h1,_,h2⟩:=h;by_cases e:p.1=k
  . have e':q.1=k:=h1.symm.trans e;rw [ja e,show tE (q::qs) k=some q.2 by simp [tE,Rc,e']];exact h2
  . have e':¬ q.1=k:=λ z=>e (h1.trans z);rw [ir e,show tE (q::qs) k=tE qs k by simp [tE,Rc,e']];exact ih
variable {P:Program} {w:World} {H:Hp} {h:Heap} {a:Addr}
def BU {ks:List aB} {v:Value} (ok:j5 P w H h) (n:nV H ks v):nR P w h ks v:=n.imp id λ hy0=>by obtain ⟨n,b,e,q⟩:=hy0;exact ⟨n,b,e,my ok q⟩
def CA {kvs:List (List aB×V)} (ok:j5 P w H h) (e:H a=some (.dN kvs)):kvs.length<=sizeLine/\(a==sysModules)=false/\∃ xs,KN H kvs xs/\Dn P w h a xs:=by
 obtain ⟨z,y,xs,r,o,es,ep,h1,h2,h3,h4,h5⟩:=(show cX P w H h a (.dN kvs) from ok a _ e)
 refine ⟨z,y,xs,r,o,es,ep,h1,h2,h3,h4,?_,h5⟩;clear h4 h5 e z;induction r with
 | nil=>intro x hx;cases hx
 | @cons p q ps qs hq t ih=>
  intro x hx;rcases QE.mp hx with rfl | hx
  . exact BU ok (by rw [<-hq.1];exact hq.2.1)
  . exact ih x hx
instance kN (H:Hp) (y:V) (ks:List aB):Prop:=(ks=[]/\y=.non)∨(ks≠[]/\∃ b,y=.ref b/\H b=some (.tup (ks.map kV)))
def kN.nv {y:V} {ks:List aB} {u:Value} (k:kN H y ks) (r:br y u):nV H ks u:=by
 rcases k with ⟨rfl,rfl⟩ | ⟨n,b,rfl,q⟩
 . exact .inl ⟨rfl,by cases r;rfl⟩
 . exact .inr ⟨n,b,r,q⟩
end
section
variable {X:Cx} {pins:Δ} {σ:St} {H:Hp} {s:Shared} {a:Addr} {kvs:List (List aB×V)} {ks:List aB} {y z:V} {u dv:Value} {A:Around} {E:Γ}
def Il {Q:Γ} (hu:A.units+1<cLine) (I:aR X pins σ H s) (e:H a=some (.dN kvs)) (k:kN H y ks) (ry:br y u) (rz:br z dv) (h:∀ w' s',aR X pins σ H s'->br ((f9 kvs ks).getD z) w'->Q w' s'):
 wpAny (model X.prog X.w) A (call (.builtin "dict.get") [.ref a,u,dv]) Q E s:=by
 obtain ⟨zz,hd,xs,rel,dd⟩:=CA I.hok e;exact call_meetsIn PySem.F.slot_dict_get dd.typeIs PySem.F.entry_dict_get (PySem.F.args_dict_get_3 _ _ _) (wX hd dv) ⟨Sv (knd:=bj X.prog X.w) hu,ks,xs,BU I.hok (k.nv ry),dd,h _ _ (I.tok _) ((rel.val ks).getD rz)⟩
def HL {Q:Γ} (hu:A.units+1<cLine) (I:aR X pins σ H s) (e:H a=some (.dN kvs)) (k:kN H y ks) (ry:br y u) (rz:br z dv) (hl:kvs.length<sizeLine)
 (h1:∀ v w' s',f9 kvs ks=some v->aR X pins σ H s'->br v w'->Q w' s') (h2:f9 kvs ks=none->∀ s',aR X pins σ (cK H a (.dN (gM kvs ks z))) s'->Q dv s'):
 wpAny (model X.prog X.w) A (call (.builtin "dict.setdefault") [.ref a,u,dv]) Q E s:=by
 obtain ⟨zz,hd,xs,rel,dd⟩:=CA I.hok e;have hn:=k.nv ry;refine call_meetsIn PySem.F.slot_dict_setdefault dd.typeIs PySem.F.entry_dict_setdefault (PySem.F.args_dict_setdefault_3 _ _ _) (wu hd dv)
  ⟨Sv (knd:=bj X.prog X.w) hu,ks,xs,BU I.hok hn,dd,by rw [<-SC rel];exact hl,λ p hp=>?_,λ hno h' dd' hs=>?_⟩
 . have r:=rel.val ks;rw [hp] at r;cases q:f9 kvs ks with
   | none=>rw [q] at r;exact r.elim
   | some v=>rw [q] at r;exact h1 v _ _ q (I.tok _) r
 . have r:=rel.val ks;rw [hno] at r;cases q:f9 kvs ks with
   | some v=>rw [q] at r;exact r.elim
   | none=>
    have he:∃ q,h'.get? a=some q:=let ⟨q,_,_,hq,_⟩:=dd';⟨q,hq⟩;obtain ⟨o',es',ep',g1,g2,g3,g4,_,g5⟩:=dd';refine h2 q _ (sM I (by rw [e];exact True.intro) hs he ?_);rw [C3 z q];refine ⟨by simp;omega,hd,xs++[(ks,u,dv)],?_,o',es',ep',g1,g2,g3,g4,g5⟩;have keep:∀ b ys,H b=some (.tup ys)->cK H a (.dN (kvs++[(ks,z)])) b=some (.tup ys):=λ b ys hb=>by rw [aL (Gt hb e (by simp))];exact hb
    have mv:∀ {k v},nV H k v->nV (cK H a (.dN (kvs++[(ks,z)]))) k v:=λ n=>n.imp id λ hy0=>by obtain ⟨n,b,e1,e2⟩:=hy0;exact ⟨n,b,e1,keep _ _ e2⟩
    exact Paired.snoc (Paired.mapP rel λ p q z=>⟨z.1,mv z.2.1,z.2.2⟩) ⟨rfl,mv hn,rz⟩
end
def Dc {P:Program} {w:World} {H:Hp} (h:Heap) (hb:sysModules<h.objs.size):cX P w H (h.push { cls:=.type "dict", data:=.dict #[] }) h.objs.size (.dN []):=
 ⟨RN _,R5.mpr (RM (Ro hb)),[],.nil,_,#[],0,Rg _ rfl,⟨rfl,rfl,rfl⟩,rfl,rfl,nodup_nil⟩
instance B8:TE:=λ _ H Q=>∀ p,H p=none->Q (.ref p) (cK H p (.dN []))
instance CP (td ty tx:TE):TE:=λ σ H Q=>td σ H λ x H1=>∃ a,x=.ref a/\(∃ kvs,H1 a=some (.dN kvs))/\ty σ H1 λ y H2=>tx σ H2 λ z H3=>∃ kvs ks,H3 a=some (.dN kvs)/\kN H3 y ks/\Q ((f9 kvs ks).getD z) H3
instance A8 (td ty tx:TE):TE:=λ σ H Q=>td σ H λ x H1=>∃ a,x=.ref a/\(∃ kvs,H1 a=some (.dN kvs))/\ty σ H1 λ y H2=>tx σ H2 λ z H3=>∃ kvs ks,H3 a=some (.dN kvs)/\kN H3 y ks/\kvs.length<sizeLine/\
 (∀ v,f9 kvs ks=some v->Q v H3)/\(f9 kvs ks=none->Q z (cK H3 a (.dN (gM kvs ks z))))
def AJ {X:Cx} {pins:Δ} {σ:St} {H:Hp} {s:Shared} {a:Addr} (I:aR X pins σ H s) (d:∃ kvs,H a=some (.dN kvs)):
 s.TypeIs (.ref a) "dict" /\ (∀ b,Value.ref a=.ref b->∃ ob,s.heap.get? b=some ob/\ob.dict=none):=by
 obtain ⟨kvs,e⟩:=d;obtain ⟨_,hd,xs,_,dd⟩:=CA I.hok e;refine ⟨dd.typeIs,λ b q=>?_⟩;cases q;obtain ⟨ob,_,_,h1,h2,_⟩:=dd;exact ⟨ob,h1,h2.2.1⟩
section
variable {X:Cx} {o e f:Expr} {td ty tx:TE} {apos cpos pos:Pos}
def M8:PE X (.Dict [] [] pos) B8:=λ pins s σ H Q I h=>
 wpAny_Dict_empty ⟨.ref s.heap.objs.size,_,I.laid (a:=s.heap.objs.size) (o:=.dN []) (t':=s.toks) (λ _ _ q=>QX _ q) (QH _) (Dc s.heap I.big),rfl,h _ (I.hok.fresh (QH _))⟩
def K2 (hu:X.A.units+1<cLine) (ho:PE X o td) (he:PE X e ty) (hf:PE X f tx) (m:M2 X o "get" apos e f cpos):PE X (.Call (.Attribute o "get" apos) [e,f] [] cpos) (CP td ty tx):=by
 intro pins s σ H Q I h;refine wpAny_Call_method m.base m.few m.line PySem.F.plainAttrs_dict PySem.F.slot_dict_get PySem.F.type_dict_get (cJ (ho pins s σ H _ I h) λ u s1 hq=>?_);obtain ⟨x,H1,I1,rx,a,rfl,d,q1⟩:=hq;obtain rfl:u=Value.ref a:=rx;obtain ⟨t1,t2⟩:=AJ I1 d;refine ⟨t1,t2,?_⟩;rw [m.trees];refine Calls.callWith_builtin rfl (Calls.evalArgs_plain (Calls.spliced_cons (cJ (he pins s1 σ H1 _ I1 q1) λ iv s2 hq=>?_)));obtain ⟨y,H2,I2,ry,q2⟩:=hq;refine Calls.spliced_cons (cJ (hf pins s2 σ H2 _ I2 q2) λ fv s3 hq=>Calls.spliced_nil ?_);obtain ⟨z,H3,I3,rz,kvs,ks,ea,kn,q3⟩:=hq;exact Il hu I3 ea kn ry rz λ w' s4 I4 rw'=>⟨_,H3,I4,rw',q3⟩
def KH (hu:X.A.units+1<cLine) (ho:PE X o td) (he:PE X e ty) (hf:PE X f tx) (m:M2 X o "setdefault" apos e f cpos):PE X (.Call (.Attribute o "setdefault" apos) [e,f] [] cpos) (A8 td ty tx):=by
 intro pins s σ H Q I h;refine wpAny_Call_method m.base m.few m.line PySem.F.plainAttrs_dict PySem.F.slot_dict_setdefault PySem.F.type_dict_setdefault (cJ (ho pins s σ H _ I h) λ u s1 hq=>?_);obtain ⟨x,H1,I1,rx,a,rfl,d,q1⟩:=hq;obtain rfl:u=Value.ref a:=rx;obtain ⟨t1,t2⟩:=AJ I1 d;refine ⟨t1,t2,?_⟩;rw [m.trees];refine Calls.callWith_builtin rfl (Calls.evalArgs_plain (Calls.spliced_cons (cJ (he pins s1 σ H1 _ I1 q1) λ iv s2 hq=>?_)));obtain ⟨y,H2,I2,ry,q2⟩:=hq;refine Calls.spliced_cons (cJ (hf pins s2 σ H2 _ I2 q2) λ fv s3 hq=>Calls.spliced_nil ?_);obtain ⟨z,H3,I3,rz,kvs,ks,ea,kn,hl,q3,q4⟩:=hq;exact HL hu I3 ea kn ry rz hl (λ v w' s4 hv I4 rw'=>⟨v,_,I4,rw',q3 v hv⟩) λ hn s4 I4=>⟨z,_,I4,rz,q4 hn⟩
end
section
variable {K:Frag} {cl:Str->Addr} {E:XK}
instance Na:DS->ak->SM W:=λ _ S=>some (.ok (.ref S.length),S++[.dN []])
def MC:SE K cl E B8 Na:=λ ρ G σ H δ S r S' Q R e q qx=>by
 cases e;intro p hp;obtain ⟨s2,g2⟩:=R.st.push (o:=.dN []) R.rl.sub (Nw.of (o:=.dN []) hp) λ ρ' hr=>⟨[],aP,.nil⟩
 exact q _ rfl _ _ _ _ g2 s2 (.ref (by rw [<-R.st.len];simp))
instance fB:W->Option (List aB)
 | .none=>some []
 | .tuple ds=>(n9 ds).bind λ ks=>if ks=[] then none else some ks
 | _=>none
def x9 {ρ:Ξ} {G H:Hp} {v:V} {d:W} {ks:List aB} (sg:b0 G H) (h:Dw K ρ G v d) (e:fB d=some ks):kN H v ks:=by
 cases h with
 | non=>cases e;exact .inl ⟨rfl,rfl⟩
 | tup sq da=>
  obtain ⟨ks',e1,e2⟩:=oB e
  split at e2
  . cases e2
  . rename_i hn;cases e2;exact .inr ⟨hn,_,rfl,sg _ _ (by rw [<-uj da e1];exact sq)⟩
 | _=>cases e
instance lc (x:W) (S:ak):Option (Nat×List (List aB×W)):=match d7 x S with
 | some (n,.dN kvs)=>some (n,kvs)
 | _=>none
def j9 {x:W} {S:ak} {n:Nat} {kvs:ν} (h:lc x S=some (n,kvs)):x=.ref n/\S[n]?=some (.dN kvs):=by
 unfold lc at h;cases e:d7 x S with
 | none=>rw [e] at h;cases h
 | some p=>
  obtain ⟨m,o⟩:=p;rw [e] at h;cases o with
  | dN ds=>cases h;exact cS e
  | _=>cases h
instance so (fo fk fx:ζ):DS->ak->SM W:=λ δ S=>au (fo δ S) λ x S1=>if (lc x S1).isSome=true then au (fk δ S1) λ y S2=>au (fx δ S2) λ z S3=>(lc x S3).bind λ p=>(fB y).bind λ k=>if p.2.length<sizeLine then match aX p.2 k with
 | some d=>some (.ok d,S3)
 | none=>some (.ok z,S3.set p.1 (.dN (eI p.2 k z)))
 else none else none
def B5 {to tk tx:TE} {fo fk fx:ζ} (ho:SE K cl E to fo) (hk:SE K cl E tk fk) (hx:SE K cl E tx fx):SE K cl E (A8 to tk tx) (so fo fk fx):=λ ρ G σ H δ S r S' Q R e q qx=>
 cA ho R e (λ x S1 e1 v ρ1 G1 H1 g1 s1 dv=>by
  split at e1
  case isFalse=>cases e1
  rename_i hx1;obtain ⟨⟨n,kvs0⟩,hx0⟩:=RP.mp hx1;obtain ⟨rfl,h0⟩:=j9 hx0;obtain ⟨a,rfl,ea⟩:=cy dv;obtain ⟨_,ws0,k0,_⟩:=s1.addr h0 ea;have R1:=R.grow g1 s1;refine ⟨a,rfl,⟨ws0,k0⟩,?_⟩;refine cA hk R1 e1 (λ y S2 e2 u ρ2 G2 H2 g2 s2 du=>?_) λ c hc ρ2 G2 H2 g2 s2=>qx c hc ρ2 G2 H2 (g1.trans g2) s2;refine cA hx (R1.grow g2 s2) e2 (λ z S3 e3 w ρ3 G3 H3 g3 s3 dw=>?_) λ c hc ρ3 G3 H3 g3 s3=>qx c hc ρ3 G3 H3 (g1.trans (g2.trans g3)) s3;obtain ⟨⟨m,kvs⟩,e4,e5⟩:=oB e3
  obtain ⟨k,e6,e7⟩:=oB e5
  split at e7
  case isFalse=>cases e7
  rename_i hl;obtain ⟨em,e8⟩:=j9 e4;cases em;have g13:=g1.trans (g2.trans g3);have ea3:=io (g2.trans g3).r ea;obtain ⟨ga,ws,k1,k2⟩:=s3.addr e8 ea3;obtain ⟨v1,v2⟩:=k2.val (k:=k);refine ⟨ws,k,k1,x9 g13.s ((du.ext g3.r).same g3.g) e6,by rw [<-k2.length];exact hl,λ v hv=>?_,λ hv=>?_⟩
  . split at e7
    . rename_i d hd;cases e7;obtain ⟨v',h1,h2⟩:=v1 d hd;rw [hv] at h1;cases h1;exact q d rfl v ρ3 G3 H3 g13 s3 h2
    . rename_i hd;rw [v2 hd] at hv;cases hv
  . split at e7
    . rename_i d hd;obtain ⟨v',h1,h2⟩:=v1 d hd;rw [hv] at h1;cases h1
    . rename_i hd;cases e7;obtain ⟨s4,g4⟩:=s3.put (x:=.dN (gM ws k w)) (o':=.dN (eI kvs k z)) g13.s e8 ea3 (λ b zz=>by cases zz) ⟨_,aP,k2.put dw⟩;exact q z rfl w ρ3 G3 _ (g13.trans g4) s4 dw) qx
instance pi (fo fk fx:ζ):DS->ak->SM W:=λ δ S=>au (fo δ S) λ x S1=>if (lc x S1).isSome=true then au (fk δ S1) λ y S2=>au (fx δ S2) λ z S3=>(lc x S3).bind λ p=>(fB y).bind λ k=>some (.ok ((aX p.2 k).getD z),S3) else none
def Au {to tk tx:TE} {fo fk fx:ζ} (ho:SE K cl E to fo) (hk:SE K cl E tk fk) (hx:SE K cl E tx fx):SE K cl E (CP to tk tx) (pi fo fk fx):=λ ρ G σ H δ S r S' Q R e q qx=>
 cA ho R e (λ x S1 e1 v ρ1 G1 H1 g1 s1 dv=>by
  split at e1
  case isFalse=>cases e1
  rename_i hx1;obtain ⟨⟨n,kvs0⟩,hx0⟩:=RP.mp hx1;obtain ⟨rfl,h0⟩:=j9 hx0;obtain ⟨a,rfl,ea⟩:=cy dv;obtain ⟨_,ws0,k0,_⟩:=s1.addr h0 ea;have R1:=R.grow g1 s1;refine ⟨a,rfl,⟨ws0,k0⟩,?_⟩;refine cA hk R1 e1 (λ y S2 e2 u ρ2 G2 H2 g2 s2 du=>?_) λ c hc ρ2 G2 H2 g2 s2=>qx c hc ρ2 G2 H2 (g1.trans g2) s2;refine cA hx (R1.grow g2 s2) e2 (λ z S3 e3 w ρ3 G3 H3 g3 s3 dw=>?_) λ c hc ρ3 G3 H3 g3 s3=>qx c hc ρ3 G3 H3 (g1.trans (g2.trans g3)) s3;obtain ⟨⟨m,kvs⟩,e4,e5⟩:=oB e3
  obtain ⟨k,e6,e7⟩:=oB e5
  cases e7;obtain ⟨em,e8⟩:=j9 e4;cases em;have g13:=g1.trans (g2.trans g3);have ea3:=io (g2.trans g3).r ea;obtain ⟨ga,ws,k1,k2⟩:=s3.addr e8 ea3;obtain ⟨v1,v2⟩:=k2.val (k:=k);refine ⟨ws,k,k1,x9 g13.s ((du.ext g3.r).same g3.g) e6,?_⟩;cases hv:aX kvs k with
  | some d=>
   obtain ⟨v',h1,h2⟩:=v1 d hv;rw [h1];exact q d (by rw [hv];rfl) v' ρ3 G3 H3 g13 s3 h2
  | none=>
   rw [v2 hv];exact q z (by rw [hv];rfl) w ρ3 G3 H3 g13 s3 dw) qx
instance GT (K:Frag) (t:TE):TT:=λ σ H Q=>t σ H λ x H'=>∃ k,HP K x H' k/\Q k H'
def NA {X:Cx} {a:Expr} {ta:TE} (hK:X.K=K) (ha:PE X a ta) (he:∀ whole,isTrue a X.env whole=(do let v <-whole;standAt a.pos;holding [v] (truthy v))):PT X a (GT K ta):=hK▸AB ha he
instance uZ (f:ζ):DS->ak->SM Bool:=λ δ S=>au (f δ S) λ x S1=>fN ((fJ x S1).map λ p=>!p.2.isEmpty) S1
def DQ {t:TE} {f:ζ} (h:SE K cl E t f):ST K cl E (GT K t) (uZ f):=λ ρ G σ H δ S r S' Q R e q qx=>
 cA h R e (λ x S1 e1 v ρ1 G1 H1 g1 s1 dv=>by
  obtain ⟨b,e2,rfl,rfl⟩:=bx e1;obtain ⟨⟨n,ds⟩,e3,rfl⟩:=oM e2
  obtain ⟨rfl,e4⟩:=cM e3;obtain ⟨a,rfl,ea⟩:=cy dv;obtain ⟨ga,vs,k1,k2⟩:=s1.addr e4 ea;have hl:vs.isEmpty=ds.isEmpty:=by
   have:=k2.length;cases vs <;> cases ds <;> simp_all
  exact ⟨!ds.isEmpty,.inl ⟨vs,cR.of k1,by rw [hl]⟩,q _ rfl ρ1 G1 H1 g1 s1⟩) qx
instance xE (K:Frag):List V->Hp->VK->Prop:=λ xs H Q=>∃ (a:Addr) (T:String) (k:Bool),xs=[.ref a,.ty T]/\((∃ kvs,H a=some (.dK kvs))∨∃ kvs,H a=some (.dT kvs))/\PySem.W.kitOne K (.type "dict") (.type T)=some k/\Q (.bl k) H
def yV {X:Cx} (hK:X.K=K):cV X (.builtin "isinstance") (xE K):=by
 subst hK;intro pins s σ H xs us Q I r h;obtain ⟨a,T,k,rfl,ha,hk,q⟩:=h;cases r with
 | cons r rr=>
  cases rr with
  | cons r' rr=>
   cases rr;cases r;cases r';have z:∃ o,s.heap.get? a=some o/\o.cls=.type "dict" := by
    rcases ha with ⟨kvs,ha⟩ | ⟨kvs,ha⟩
    . obtain ⟨_,_,_,_,o,_,_,e,ex,_⟩:=I.hok a _ ha;exact ⟨o,e,ex.1⟩
    . obtain ⟨_,_,_,_,o,_,_,e,ex,_⟩:=I.hok a _ ha;exact ⟨o,e,ex.1⟩
   obtain ⟨o,e,c⟩:=z;exact PySem.W.kia_one (PySem.W.kitx_dict) I.kIn ⟨o,e,c⟩ hk (by intro z;cases z) λ tk=>⟨.bl k,H,I.tok tk,rfl,q⟩
instance Nj (x:W) (S:ak):Option Bool:=match d7 x S with
 | some (_,.dK _)=>some true
 | some (_,.dT _)=>some true
 | _=>none
instance Bc (fa:ζ):DS->ak->SM W:=λ δ S=>au (fa δ S) λ x S1=>fN ((Nj x S1).map .bool) S1
def Ey {ta:TE} {fa:ζ} (ha:SE K cl E ta fa):SE K cl E (xK (xE K) (fc ta (fc (tC (.ty "dict")) jN))) (Bc fa):=λ ρ G σ H δ S r' S' Q R e q qx=>
 cA ha R e (λ x S2 e2 v ρ2 G2 H2 g2 s2 dv=>by
  obtain ⟨c,e3,rfl,rfl⟩:=bx e2;obtain ⟨b,e4,rfl⟩:=oM e3
  show xE K [v,.ty "dict"] H2 Q;unfold Nj at e4;split at e4
  . rename_i n kvs e5;cases e4;obtain ⟨rfl,e7⟩:=cS e5;obtain ⟨a,rfl,ea⟩:=cy dv;obtain ⟨ga,vs,k1,k2⟩:=s2.addr e7 ea;exact ⟨a, "dict", true,rfl,.inl ⟨vs,k1⟩,lZ _ (by decide),q _ rfl _ ρ2 G2 H2 g2 s2 (.bl _)⟩
  . rename_i n kvs e5;cases e4;obtain ⟨rfl,e7⟩:=cS e5;obtain ⟨a,rfl,ea⟩:=cy dv;obtain ⟨ga,vs,k1,k2⟩:=s2.addr e7 ea;exact ⟨a, "dict", true,rfl,.inr ⟨vs,k1⟩,lZ _ (by decide),q _ rfl _ ρ2 G2 H2 g2 s2 (.bl _)⟩
  . cases e4) qx
instance B4 (fk fo:ζ):DS->ak->SM W:=λ δ S=>au (fk δ S) λ y S1=>au (fo δ S1) λ x S2=>fN ((jK x y S2).map λ o=>.bool o.isSome) S2
def F4 {to tk:TE} {fo fk:ζ} (hk:SE K cl E tk fk) (ho:SE K cl E to fo):SE K cl E (Im tk to) (B4 fk fo):=λ ρ G σ H δ S r S' Q R e q qx=>
 eK hk ho R e (λ y x S2 e2 u v ρ2 G2 H2 g2 s2 du dv=>by
  obtain ⟨b,e3,rfl,rfl⟩:=bx e2;obtain ⟨o,e4,rfl⟩:=oM e3
  obtain ⟨a,r,rfl,h1,h2⟩:=oh g2.s s2 dv du e4;have hb:r.isSome=o.isSome:=by
   cases o with
   | some d=>obtain ⟨z,rfl,_⟩:=h2;rfl
   | none=>rw [show r=none from h2];rfl
  refine ⟨a,r,rfl,h1,?_⟩;rw [hb];exact q _ rfl _ ρ2 G2 H2 g2 s2 (.bl _)) qx
end
section
variable {P:Program} {w:World} {A:Around} {E:Γ} {s:Shared} {d:Addr} {o:Obj} {es:Array DictEntry} {ep:Nat}
def J8 (hd:(d==sysModules)=false) (n:Nat):MeetsIn P w (Builtin.«dict.__len__» ⟨[.ref d],[]⟩) (λ _ R s=>(∃ o es ep,s.heap.get? d=some o/\o.data=.dict es ep/\es.size=n)/\R (.ok (.ret (.int (n:Nat) s.toks))) { s with toks:=s.toks+1 }):=
 .of_wp λ A R s ⟨⟨o,es,ep,ho,hdat,hn⟩,h⟩=>by
  show wpAny _ _ (dictSize d >>= _) _ _ s;unfold dictSize;refine QA (QA (R0 ho hdat (QN ?_)));show wpAny _ _ (Builtin.Dict.pendingCount d >>= _) _ _ s;refine QA (wpAny_pendingCount_other hd (wpAny_ret_mkInt ?_));rw [Nat.add_zero,hn];exact h
def AE {Q:Γ} {n:Nat} (hd:(d==sysModules)=false) (hT:s.TypeIs (.ref d) "dict") (ho:∃ o es ep,s.heap.get? d=some o/\o.data=.dict es ep/\es.size=n) (hfit:(n:Int)<2^63)
 (h:Q (.int (n:Nat) (s.toks+1)) { s with toks:=s.toks+1+1 }):wpAny (model P w) A (call (.builtin "len") [.ref d]) Q E s:=by
 refine Calls.call_function_entry kind_len plain_len entry_len (args_len1 _) ?_;unfold Builtin.«len»;refine QA (m:=oneArg "len" _) (QN ?_);refine QA (m:=callSpecial? (.ref d) (Str.ofString "__len__")) (Sj (name:=Str.ofString "__len__") hT F.slot_dict_len (call_meetsIn F.slot_dict_len hT F.entry_dict_len (F.args_dict_len_1 _) (J8 hd n) ⟨ho,?_⟩));show wpAny _ _ _ _ _ { s with toks:=s.toks+1 };refine QA (RH (QN ?_));refine QA (wpAny_letGo ?_);show wpAny _ _ (if ((n:Nat):Int)<0 then _ else _) _ _ _;rw [QS (by omega)];show wpAny _ _ (if ((n:Nat):Int) ≥ 2^63 then _ else _) _ _ _;rw [QS (by omega)];exact QA (wpAny_mkInt (QN ⟨_,rfl,h⟩))
end
section
variable {K:Frag} {cl:Str->Addr} {E:XK}
instance BW:List V->Hp->VK->Prop:=λ xs H Q=>∃ a kvs,xs=[V.ref a]/\H a=some (.dT kvs)/\Q (.int kvs.length) H
def wF {X:Cx}:cV X (.builtin "len") BW:=by
 intro pins s σ H xs us Q I r h;obtain ⟨a,kvs,rfl,ha,q⟩:=h;obtain ⟨u,rfl,ru⟩:=qK r;cases ru;obtain ⟨z,hd,xs,rel,dd⟩:=BY I.hok ha;have hT:=dd.typeIs;have hl:kvs.length=xs.length:=SC rel;obtain ⟨o,es,ep,h1,h2,h3,h4,_⟩:=dd;refine AE (n:=kvs.length) hd hT ⟨o,es,ep,h1,h3,by rw [hl,<-R6,h4,Rk]⟩ (by rw [sizeLine_eq] at z;omega) ⟨.int kvs.length,H,I.tok _,⟨_,rfl⟩,q⟩
instance ud (x:W) (S:ak):Option (Nat×List (List aB×W)):=match d7 x S with
 | some (n,.dT kvs)=>some (n,kvs)
 | _=>none
def rf {x:W} {S:ak} {n:Nat} {kvs:ν} (h:ud x S=some (n,kvs)):x=.ref n/\S[n]?=some (.dT kvs):=by
 unfold ud at h;cases e:d7 x S with
 | none=>rw [e] at h;cases h
 | some p=>
  obtain ⟨m,o⟩:=p;rw [e] at h;cases o with
  | dT ds=>cases h;exact cS e
  | _=>cases h
instance yt (fa:ζ):DS->ak->SM W:=λ δ S=>au (fa δ S) λ x S1=>fN ((ud x S1).map λ p=>.int p.2.length) S1
def Fh {ta:TE} {fa:ζ} (ha:SE K cl E ta fa):SE K cl E (xK BW (fc ta jN)) (yt fa):=λ ρ G σ H δ S r' S' Q R e q qx=>
 cA ha R e (λ x S2 e2 v ρ2 G2 H2 g2 s2 dv=>by
  obtain ⟨c,e3,rfl,rfl⟩:=bx e2;obtain ⟨⟨n,kvs⟩,e4,rfl⟩:=oM e3
  obtain ⟨rfl,e5⟩:=rf e4;obtain ⟨a,rfl,ea⟩:=cy dv;obtain ⟨ga,ws,k1,k2⟩:=s2.addr e5 ea;refine ⟨a,ws,rfl,k1,?_⟩;rw [<-k2.length];exact q _ rfl _ ρ2 G2 H2 g2 s2 (.int _)) qx
end
section
open Classical in
noncomputable def eRd (h:Heap) (dx:PyData) (u:Value):Bool:=decide (∃ d as,Reads h u d as/\d.canLay0=true/\PyData.eqv d dx=true)
def Ar {h:Heap} {dx d:PyData} {u:Value} {as:Ξ} (r:Reads h u d as) (c:d.canLay0=true):eRd h dx u=PyData.eqv d dx:=by
 unfold eRd;cases e:PyData.eqv d dx with
 | true=>exact @QL _ (Classical.propDecidable _) ⟨d,as,r,c,e⟩
 | false=>
  refine @QJ _ (Classical.propDecidable _) ?_;rintro ⟨d',as',r',c',e'⟩;rw [SeqAt.Reads.unique d' d u as' as c' r' r] at e';rw [e] at e';cases e'
instance MJ (K:Frag):R2:=λ x y H Q=>∃ p xs dx ds,y=.ref p/\cR K H p xs/\Dp K H x dx/\iM K H xs ds/\dx.canLay0=true/\canLayAll0 ds=true/\dx.depth<=60/\Q (.bl (ds.any λ d=>PyData.eqv d dx)) H
variable {X:Cx} {K:Frag}
def BS {pins:Δ} {σ:St} {H:Hp} {s:Shared} {dx:PyData} (I:aR X pins σ H s):∀ {xs:List V} {its:Φ} {ds:List PyData},bn xs its->iM X.K H xs ds->canLayAll0 ds=true->(∀ u∈its,∃ d as,Reads s.heap u d as/\d.canLay0=true)/\its.any (eRd s.heap dx)=ds.any λ d=>PyData.eqv d dx:=λ {xs its ds} q w c=>by
 induction q generalizing ds with
 | nil=>
  cases w;exact ⟨(λ u hu=>absurd hu QR),rfl⟩
 | cons r t ih=>
  cases w with
  | cons a b=>
  simp only [canLayAll0,Rb] at c;obtain ⟨as,rd⟩:=Dp.reads I a r;obtain ⟨h1,h2⟩:=ih b c.2;refine ⟨λ u hu=>?_,by rw [RQ,RQ,Ar rd c.1,h2]⟩;rcases QE.mp hu with rfl | hu
  . exact ⟨_,as,rd,c.1⟩
  . exact h1 u hu
def vV (hu:X.A.units+64<cLine):gy X (compareOp .In) (MJ X.K):=by
 intro pins s σ H x y v u Q I rx ry h;obtain ⟨p,xs,dx,ds,rfl,hq,hx,hs,cx,cs,hd,q⟩:=h;cases ry;obtain ⟨its,r,pl,hz⟩:=I.list hq;obtain ⟨ax,rdx⟩:=Dp.reads I hx rx;obtain ⟨h1,h2⟩:=BS (dx:=dx) I r hs cs;refine SeqAt.in_listAt (eRd s.heap dx) pl.isList (λ w hw=>?_) ⟨.bl _,H,I,rfl,?_⟩
 . obtain ⟨d,as,rd,c⟩:=h1 w (by simpa using hw);rw [Ar rd c];exact SeqAt.eqAt_reads d dx _ s w v as ax rd rdx c cx (by show X.A.units+1+_<_;omega)
 . rw [show its.toArray.any (eRd s.heap dx)=its.any (eRd s.heap dx) by simp,h2];exact q
instance Mj (K:Frag):R2:=λ x y H Q=>Ee K false x y H Q∨MJ K x y H Q
def NZ (h:X.K=K) (hu:X.A.units+64<cLine):gy X (compareOp .In) (Mj K):=h▸qI.or (vV hu)
instance kR (d e:W):Option Bool:=match jf d e with
 | some b=>some b
 | none=>(iR e).bind λ ds=>d.py.bind λ x=>(W.pys ds).bind λ ys=>if (x.canLay0&&canLayAll0 ys&&decide (x.depth<=60))=true then some (ys.any λ y=>PyData.eqv y x) else none
def Ib {ρ:Ξ}:DB K ρ (Mj K) kR:=λ H x y d e b Q hx hy hg q=>by
 unfold kR at hg;split at hg
 . rename_i b' hb;cases hg;exact .inl (Gx H x y d e b Q hx hy hb q)
 . obtain ⟨ds,e1,hg⟩:=oB hg
   obtain ⟨dx,e2,hg⟩:=oB hg
   obtain ⟨ys,e3,hg⟩:=oB hg
   split at hg
   case isFalse=>cases hg
   rename_i hc;cases hg;simp only [Rb,Ri] at hc;cases gO e1;obtain ⟨p,vs,rfl,sq,da⟩:=o8 hy;exact .inr ⟨p,vs,dx,ys,rfl,sq,hx.dp e2,da.dp e3,hc.1.1,hc.1.2,hc.2,q⟩
end
section
variable {K:Frag} {ρ:Ξ}
instance JS:W->Option Str
 | .str z=>some z
 | _=>none
def Ev {d:W} {z:Str} (h:JS d=some z):d=.str z:=by
 cases d <;> first | (cases h;rfl) | cases h
instance sO (f:μ) (lo hi:DS->Option (Option Int)):DS->Option W:=λ δ=>(f δ).bind λ d=>(JS d).bind λ z=>(lo δ).bind λ l=>(hi δ).bind λ u=>if z.length<=1000 then some (.str (Txt.slice z l u)) else none
def Ig {t:TE} {tl th:TO} {f:μ} {lo hi:DS->Option (Option Int)} (h:DE K ρ t f) (hl:EQ K ρ tl lo) (hh:EQ K ρ th hi):DE K ρ (Nu (λ x lo hi H Q=>∃ z,x=.str z/\z.length<=sizeLine/\Q (.str (Txt.slice z lo hi)) H) t tl th) (sO f lo hi):=λ G σ H δ d Q R e q=>by
 obtain ⟨x,ed,e⟩:=oB e
 obtain ⟨z,ee,e⟩:=oB e
 obtain ⟨l,el,e⟩:=oB e
 obtain ⟨u,eu,e4⟩:=oB e
 cases Ev ee;by_cases hz:z.length<=1000
 . rw [QF hz] at e4;cases e4;refine h G σ H δ _ _ R ed λ v G1 H1 g1 dv=>hl G1 σ H1 δ l _ (R.grow g1) el λ G2 H2 g2=>hh G2 σ H2 δ u _ ((R.grow g1).grow g2) eu λ G3 H3 g3=>?_;cases vT dv;exact ⟨z,rfl,Rh hz (by decide),q _ G3 H3 (g1.trans (g2.trans g3)) (.str _)⟩
 . rw [QS hz] at e4;cases e4
instance uh:W->W->Option W
 | .str z,.int n=>if (decide (0<=n)&&decide (n<=1000)&&decide (z.length<=1000))=true then some (.str (Txt.mul z n)) else none
 | _,_=>none
def ER:DR K ρ GL uh:=λ G H x y d e c Q s hx hy hg q=>by
 unfold uh at hg;split at hg
 . rename_i z n;split at hg
   . rename_i hc;cases hg;simp only [Rb,Ri] at hc;cases rE hx;cases dH hy;exact ⟨z,n,rfl,rfl,hc.1.1,hc.1.2,hc.2,q _ G H (.refl s) (.str _)⟩
   . cases hg
 . cases hg
def uW (x:Array Nat):∀ (n:Nat) (a:Array Nat) (c:Nat),c∈((List.replicate n x).foldl (·++·) a).toList->c∈a.toList∨c∈x.toList
 | 0,a,c,h=>.inl h
 | n+1,a,c,h=>by
  rw [RJ,foldl_cons] at h;rcases uW x n (a++x) c h with h | h
  . rw [Array.toList_append,QK] at h;exact h
  . exact .inr h
def fR.mul {z:Str} (h:fR z) (n:Int):fR (Txt.mul z n):=by
 rw [mi] at *;intro c hc;unfold Txt.mul at hc;split at hc
 . exact absurd hc (by simp [Str.empty])
 . split at hc
   . exact h c hc
   . rcases uW z.cps n.toNat #[] c hc with h' | h'
     . exact absurd h' (by simp)
     . exact h c h'
end
section
variable {K:Frag} {ρ:Ξ}
instance EX (f:θ) (g:μ):DS->Option (List W):=λ δ=>(f δ).bind λ ds=>(g δ).bind λ y=>(Kl y).bind λ k=>if (decide (0<=k)&&decide (k<=1000)&&decide (ds.length<=1000))=true then some (List.replicate k.toNat ds).flatten else none
def aE.rep {G:Hp} {vs:List V} {ds:List W} (h:aE K ρ G vs ds):∀ n,aE K ρ G (List.replicate n vs).flatten (List.replicate n ds).flatten
 | 0=>.nil
 | n+1=>by
  rw [RJ,RJ,Sy,Sy];exact h.app (aE.rep h n)
def IA {t u:TE} {f:θ} {g:μ} (h:DO K ρ t f) (hg:DE K ρ u g):DO K ρ (qH KO t u) (EX f g):=λ G σ H δ ds Q R e q=>by
 obtain ⟨es,e1,e⟩:=oB e
 obtain ⟨y,e2,e⟩:=oB e
 obtain ⟨k,e3,e4⟩:=oB e
 split at e4
 . rename_i hc;cases e4;cases rV e3;simp only [Rb,Ri] at hc;refine h G σ H δ es _ R e1 λ p vs G1 H1 g1 h0 h1 h2 da=>hg G1 σ H1 δ _ _ (R.grow g1) e2 λ v G2 H2 g2 dv=>?_;cases dH dv;have hm:vs.length*k.toNat<=1000*1000:=Nat.mul_le_mul (by rw [da.length];exact hc.2) (by omega);refine ⟨p,k,vs,rfl,rfl,g2.h _ _ h2,by omega,by omega,Rh hm (by decide),λ r hr=>?_⟩;have n:Nw H2 (cK H2 r (.lst (List.replicate k.toNat vs).flatten)) r (.lst (List.replicate k.toNat vs).flatten):=.of hr;have g12:=g1.trans g2;exact q r _ G2 _ (g12.trans (.nwO g2.s n)) (cZ g12.h hr) (cZ g2.s hr) n.2.2 ((da.same g2.g).rep k.toNat)
 . cases e4
end
section
variable {X:Cx} {K:Frag}
instance LP (K:Frag) (neg:Bool):R2:=λ x y H Q=>∃ p b xs,x=.ref p/\y=.ref b/\cR K H p xs/\cR K H b []/\Q (.bl (xs.isEmpty != neg)) H
def L0 (hK:X.K=K) (hu:X.A.units+64<cLine):gy X (compareOp .NotEq) (LP K true):=by
 subst hK;intro pins s σ H x y v u Q I rx ry h;obtain ⟨p,b,xs,rfl,rfl,hx,hy,q⟩:=h;cases rx;cases ry;obtain ⟨its,r,pl,hz⟩:=I.list hx;obtain ⟨its2,r2,pl2,hz2⟩:=I.list hy;have l1:=r.length;have l2:=r2.length;cases xs with
 | nil=>
  exact SeqAt.RcNeAt.lists (e:=λ _=>true) pl.isList pl2.isList (by simp only [QQ];omega) (by omega) (λ j h1 h2=>by simp only [QQ,<-l1,RG] at h1;omega) X.prog X.w _ _ (by
   have:its.toArray.size=0:=by simp only [QQ];simpa using l1.symm
   rw [this];exact b5 I q rfl)
 | cons z zs=>
  exact SeqAt.RcNeAt.lists_lengths pl.isList pl2.isList (by simp only [QQ,<-l1,<-l2];simp) (by omega) X.prog X.w _ _ (b5 I q rfl)
def Am {prog:Program} {w:World} {A:Around} {E:Γ} {s:Shared} {t b:Addr} {ws:Φ} {Q:Γ} (ht:IsTup s.heap t ([]:Φ).toArray) (hb:IsTup s.heap b ws.toArray) (h0:Q (.ref b) s):wpAny (model prog w) A (binaryOp .Add (.ref t) (.ref b)) Q E s:=by
 obtain ⟨⟨cls,dd,data,sl⟩,ho,hc,n,hd⟩:=id ht;obtain ⟨⟨cls2,dd2,data2,sl2⟩,ho2,hc2,n2,hd2⟩:=id hb;simp only at hc hd hc2 hd2;subst hc hd hc2 hd2;exact concat_meets ⟨_,ho,rfl⟩ ⟨_,ho2,rfl⟩ noFill_tuple_add seq_tuple_add PySem.F.slot_tuple_add PySem.F.entry_tuple_add (PySem.F.args_tuple_add_2 _ _) (tuple_addW0 t b _ ws.toArray n n2 dd dd2 sl sl2 (by simp)) ⟨ho,ho2,h0⟩
instance Gd (K:Frag):R2:=λ x y H Q=>∃ a b ys,x=.ref a/\y=.ref b/\fg K H a []/\fg K H b ys/\Q (.ref b) H
def Ds:gy X (binaryOp .Add) (Gd X.K):=by
 intro pins s σ H x y v u Q I rx ry h;obtain ⟨a,b,ys,rfl,rfl,ha,hb,q⟩:=h;cases rx;cases ry;obtain ⟨its,r1,p1,_⟩:=I.tuple ha;obtain ⟨its2,r2,p2,_⟩:=I.tuple hb;cases r1;exact Am p1 p2 ⟨.ref b,H,I,rfl,q⟩
instance GK (K:Frag):R2:=λ x y H Q=>va K x y H Q∨Gd K x y H Q
def MP (h:X.K=K):gy X (binaryOp .Add) (GK K):=by
 subst h;exact (EJ rfl).or Ds
instance xy:W->W->Option W
 | .tuple [],.tuple b=>some (.tuple b)
 | x,y=>bB x y
def EN {ρ:Ξ}:DR K ρ (GK K) xy:=λ G H x y d e c Q s hx hy hg q=>by
 unfold xy at hg;split at hg
 . cases hg;obtain ⟨p,vs,rfl,sq,da⟩:=pM hx;obtain ⟨p2,vs2,rfl,sq2,da2⟩:=oS hy;cases da;exact .inr ⟨p,p2,vs2,rfl,rfl,s.tup (fg.of sq),s.tup (fg.of sq2),q _ G H (.refl s) (.tup sq2 da2)⟩
 . exact .inl (Bf G H x y d e c Q s hx hy hg q)
end
section
variable {K:Frag} {cl:Str->Addr} {E:XK}
instance A4 (x y:W) (S:ak):Option W:=(fJ x S).bind λ p=>(iR y).bind λ es=>if p.2.length+es.length<=9000 then some (.list (p.2++es)) else none
instance yG (fa fb:ζ):DS->ak->SM W:=λ δ S=>au (fa δ S) λ x S1=>au (fb δ S1) λ y S2=>fN (A4 x y S2) S2
def EA {ta tb:TE} {fa fb:ζ} (ha:SE K cl E ta fa) (hb:SE K cl E tb fb):SE K cl E (qH (va K) ta tb) (yG fa fb):=λ ρ G σ H δ S r' S' Q R e q qx=>
 eK ha hb R e (λ x y S2 e2 v u ρ2 G2 H2 g2 s2 dv du=>by
  obtain ⟨c,e3,rfl,rfl⟩:=bx e2;obtain ⟨⟨n,ds⟩,e4,e3⟩:=oB e3
  obtain ⟨es,e5,e7⟩:=oB e3
  obtain ⟨rfl,e6⟩:=cM e4;cases gO e5;obtain ⟨a,rfl,ea⟩:=cy dv;obtain ⟨ga,vs,k1,k2⟩:=s2.addr e6 ea;obtain ⟨b,ws,rfl,sq,da⟩:=o8 du;split at e7
  case isFalse=>cases e7
  rename_i hz;cases e7;refine .inr (.inr (.inl ⟨a,b,vs,ws,rfl,rfl,cR.of k1,g2.s.seq sq,by rw [k2.length,da.length];exact Rh hz (by decide),λ p H' n=>?_⟩));have g3:=Gr.nw g2.s n;exact q _ rfl _ ρ2 _ H' (g2.trans (.of g3)) (s2.grow g3) (.lst (cR.of aP) ((k2.app da).same g3.g))) qx
instance LN (neg:Bool) (x y:W) (S:ak):Option W:=(fJ x S).bind λ p=>(iR y).bind λ es=>if es=[] then some (.bool (p.2.isEmpty != neg)) else none
instance uP (neg:Bool) (fa fb:ζ):DS->ak->SM W:=λ δ S=>au (fa δ S) λ x S1=>au (fb δ S1) λ y S2=>fN (LN neg x y S2) S2
def HX {neg:Bool} {ta tb:TE} {fa fb:ζ} (ha:SE K cl E ta fa) (hb:SE K cl E tb fb):SE K cl E (qH (LP K neg) ta tb) (uP neg fa fb):=λ ρ G σ H δ S r' S' Q R e q qx=>
 eK ha hb R e (λ x y S2 e2 v u ρ2 G2 H2 g2 s2 dv du=>by
  obtain ⟨c,e3,rfl,rfl⟩:=bx e2;obtain ⟨⟨n,ds⟩,e4,e3⟩:=oB e3
  obtain ⟨es,e5,e7⟩:=oB e3
  obtain ⟨rfl,e6⟩:=cM e4;cases gO e5;obtain ⟨a,rfl,ea⟩:=cy dv;obtain ⟨ga,vs,k1,k2⟩:=s2.addr e6 ea;obtain ⟨b,ws,rfl,sq,da⟩:=o8 du;split at e7
  case isFalse=>cases e7
  rename_i hz;cases e7;subst hz;cases da;have hl:vs.isEmpty=ds.isEmpty:=by
   have:=k2.length;cases vs <;> cases ds <;> simp_all
  exact ⟨a,b,vs,rfl,rfl,cR.of k1,g2.s.seq sq,by rw [hl];exact q _ rfl _ ρ2 G2 H2 g2 s2 (.bl _)⟩) qx
instance dQ (f:W->Option W):List W->Option (List W)
 | []=>some []
 | d::ds=>(f d).bind λ x=>(dQ f ds).map (x::·)
instance JY (S:ak) (k:Nat):Option (List W):=match S[k]? with
 | some (.lst ds)=>some ds
 | _=>none
instance rW (F:χ):Nat->W->Option W
 | 0,_=>none
 | n+1,d=>match d with
  | .ref k=>(F k).bind λ ds=>(dQ (rW F n) ds).map .list
  | .list ds=>(dQ (rW F n) ds).map .list
  | .tuple ds=>(dQ (rW F n) ds).map .tuple
  | d=>some d
instance AY (f:List W->ak->SM W) (ds:List W):Option W:=if dj ds=true then (match f ds [] with | some (.ok d,S)=>rW (JY S) 40 d | _=>none) else none
def Dw.free {ρ ρ':Ξ} {G:Hp} {v:V} {d:W} (h:iU d=true) (q:Dw K ρ G v d):Dw K ρ' G v d:=
 Dw.rec (motive_1:=λ v d _=>iU d=true->Dw K ρ' G v d) (motive_2:=λ vs ds _=>dj ds=true->aE K ρ' G vs ds) (λ _=>.non) (λ b _=>.bl b) (λ i _=>.int i) (λ x _=>.str x) (λ q _ ih h=>.lst q (ih h)) (λ q _ ih h=>.tup q (ih h)) (λ _ h=>by cases h)
  (λ _=>.nil) (λ _ _ ih1 ih2 h=>by simp [dj] at h;exact .cons (ih1 h.1) (ih2 h.2)) q h
def aE.free {ρ ρ':Ξ} {G:Hp} {vs:List V} {ds:List W} (h:dj ds=true) (q:aE K ρ G vs ds):aE K ρ' G vs ds:=
 q.ind (M:=λ vs ds=>dj ds=true->aE K ρ' G vs ds) (λ _=>.nil) (λ _ _ _ _ a ih h=>by simp [dj] at h;exact .cons (a.free h.1) (ih h.2)) h
def r6 {ρ ρ':Ξ} {G G2:Hp} {f:W->Option W} (hf:∀ v d d',f d=some d'->Dw K ρ' G v d->Dw K ρ G2 v d') {vs:List V} {ds es:List W} (e:dQ f ds=some es) (q:aE K ρ' G vs ds):aE K ρ G2 vs es:=
 q.ind (M:=λ vs ds=>∀ es,dQ f ds=some es->aE K ρ G2 vs es) (λ es e=>by cases e;exact .nil) (λ _ _ _ _ a ih es e=>by
  obtain ⟨x,e1,e⟩:=oB e
  obtain ⟨xs,e2,rfl⟩:=oM e
  exact .cons (hf _ _ _ e1 a) (ih _ e2)) es e
def rB {ρ ρ':Ξ} {G G2 H:Hp} {S:ak} (s:SR K ρ' cl G H S) (hg:b0 G G2) (hn:∀ a vs,a∈ρ'->H a=some (.lst vs)->G2 a=some (.lst vs)):∀ (n:Nat) (v:V) (d d':W),rW (JY S) n d=some d'->Dw K ρ' G v d->Dw K ρ G2 v d'
 | 0,_,_,_,e,_=>by cases e
 | n+1,v,d,d',e,h=>by
  cases h with
  | non=>cases e;exact .non
  | bl b=>cases e;exact .bl b
  | int i=>cases e;exact .int i
  | str x=>cases e;exact .str x
  | lst q a=>
   obtain ⟨es,e1,rfl⟩:=oM e
   exact .lst (hg.seq q) (r6 (rB s hg hn n) e1 a)
  | tup q a=>
   obtain ⟨es,e1,rfl⟩:=oM e
   exact .tup (hg _ _ q) (r6 (rB s hg hn n) e1 a)
  | @ref a k ea=>
   obtain ⟨ds,hF,e⟩:=oB e
   obtain ⟨es,e1,rfl⟩:=oM e
   have hS:S[k]?=some (.lst ds):=by
    unfold JY at hF;split at hF
    . rename_i h;cases hF;exact h
    . cases hF
   obtain ⟨ga,vs,k1,k2⟩:=s.addr hS ea;exact .lst (cR.of (hn a vs (Rz ea) k1)) (r6 (rB s hg hn n) e1 k2)
open Classical in
noncomputable def frzG (ρ:Ξ) (G H:Hp):Hp:=λ a=>if a∈ρ/\∃ vs,H a=some (.lst vs) then H a else G a
def J5 {f:List W->ak->SM W} {vs:List V} {H:Hp} {Q:VK} {E:XK} (h:jX K (AY f) vs H Q E):kP K cl f vs H Q E:=by
 obtain ⟨ρ,G,ds,d',sg,da,e,q⟩:=h;unfold AY at e;split at e
 case isFalse=>cases e
 rename_i ok;split at e
 . rename_i d S' ef;refine ⟨[],G,[],ds,d,S',sg,Da,da.free ok,ef,λ v ρ' G' H' g s dv=>?_⟩;have out:∀ a,a∈ρ'->G' a=none:=λ a ha=>by
    obtain ⟨n,hn⟩:=List.getElem?_of_mem ha;have hl:n<S'.length:=by rw [<-s.len];exact (oG hn).1
    exact (s.addr (QP hl) hn).1
   have g1:b0 G' (frzG ρ' G' H'):=λ b o eb=>by
    unfold frzG;rw [QS]
    . exact eb
    . rintro ⟨hb,_⟩;rw [out b hb] at eb;cases eb
   have g2:b0 (frzG ρ' G' H') H':=λ b o eb=>by
    unfold frzG at eb;split at eb
    . exact eb
    . exact g.s b o eb
   have gr:Gr G H (frzG ρ' G' H') H':=⟨g.g.trans g1,λ b o eb=>g.h b o (by simp) eb,g2,λ b h1 h2=>by
    unfold frzG;rw [QS]
    . exact g.n b h1 h2
    . rintro ⟨hb,_⟩;exact h1.1 (g.f b hb (by simp))⟩
   exact q v (frzG ρ' G' H') H' gr (rB s g1 (λ a vs ha hv=>by unfold frzG;rw [QF ⟨ha,vs,hv⟩];exact hv) 40 v d d' e dv)
 . cases e
end
instance IS (K:Frag) (mg:Θ) (x:Str) (ps:Ω) (us:Φ) (f:Addr) (fd:FuncData):Prop:=mg x=some (.ref f)/\PySem.W.keepIn K (.ref f)=true/\fU K fd ps []/\fU K fd ps us
instance Ce (R:Addr->FuncData->Prop) (P:Program) (w:World) (K:Frag) (mg:Θ) (base:Heap) (k:Nat) (ps:Ω) (sp:Sp):Prop:=∃ f fd,R f fd/\fF P w K mg base Gz k f fd ps sp
instance Ay (R:Addr->FuncData->Prop) (K:Frag) (x q:Str) (st:Stmt):Prop:=∃ f fd,Do K x q st f fd/\R f fd
noncomputable abbrev jn (K:Frag) (mg:Θ) (x:Str) (ps:Ω) (us:Φ) (st:Stmt):Prop:=Ay (IS K mg x ps us) K x x st
noncomputable abbrev iY (P:Program) (w:World) (K:Frag) (mg:Θ) (base:Heap) (x:Str) (ps:Ω) (us:Φ) (k:Nat) (sp:Sp):Prop:=Ce (IS K mg x ps us) P w K mg base k ps sp
section
variable {X:Cx} {x:Str} {o e:Expr} {es:List Expr} {t:TA} {ps:Ω} {us:Φ} {sp:Sp} {p pos:Pos} {K:Frag} {T:String} {name:Str} {r:V->List V->Hp->VK->Prop} {q:List V->Hp->VK->Prop} {to:TE} {apos:Pos}
instance MD (X:Cx) (x:Str) (us:Φ) (sp:Sp):Prop:=∃ j k ps,Ce (IS X.K X.mg x ps us) X.prog X.w X.K X.mg X.base j ps sp/\eB k X.A/\j<=k
def Px (h:∃ us,MD X x us sp) (hg:Gl X x) (ha:PA X (e::es) t) (hd:(x==("__debug__" : Str))=false)
 (he:starEach (e::es) X.env=(false,eval e X.env)::starEach es X.env) (hp:(backTo pos (starEach es X.env)).any (·.1)=false):PE X (.Call (.Name x p) (e::es) [] pos) (qP sp [] E0 t):=by
 obtain ⟨us,j,k,ps,⟨f,fd,⟨m,kp,b,_⟩,F⟩,hr,hl⟩:=h;exact yM (F.mono hl) hr hg m kp b .nil GU ha hd he hp
def P8 (h:MD X x [.none] sp) (hg:Gl X x) (ha:PA X (e::es) t) (hd:(x==("__debug__" : Str))=false)
 (he:starEach (e::es) X.env=(false,eval e X.env)::starEach es X.env) (hp:(backTo pos (starEach es X.env)).any (·.1)=false):PE X (.Call (.Name x p) (e::es) [] pos) (qP sp [.non] E0 t):=by
 obtain ⟨j,k,ps,⟨f,fd,⟨m,kp,_,b⟩,F⟩,hr,hl⟩:=h;exact yM (F.mono hl) hr hg m kp b Bp GU ha hd he hp
instance QM (X:Cx) (T:String) (name:Str) (r:V->List V->Hp->VK->Prop):Prop:=∃ id,PlainAttrs T/\Slot T name id/\typeOf (.builtin id)=pure (.type "method_descriptor")/\Lx X id r
instance QB (X:Cx) (x:Str) (q:List V->Hp->VK->Prop):Prop:=∃ id,cV X (.builtin id) q/\bootBuiltins x=some (.builtin id)
def Ps:QM X "list" "append" om:=⟨_,PySem.F.plainAttrs_list,PySem.F.slot_list_append,PySem.F.type_list_append,yR⟩
def PQ:QM X "list" "extend" (pF X.K):=⟨_,PySem.F.plainAttrs_list,PySem.F.slot_list_extend,PySem.F.type_list_extend,wx⟩
def Pb:QM X "list" "pop" J0:=⟨_,PySem.F.plainAttrs_list,PySem.F.slot_list_pop,PySem.F.type_list_pop,JE⟩
def Ph (h:X.K=K):QB X "len" (xY K):=⟨_,yQ h,PySem.boot_len⟩
def O9:QB X "len" BW:=⟨_,wF,PySem.boot_len⟩
def Pi (h:X.K=K) (hc:X.calm=true):QB X "any" (Ij K):=⟨_,zD h hc,boot_any⟩
def NL (h:X.K=K):QB X "isinstance" (xE K):=⟨_,yV h,boot_isinstance⟩
def Pd:QB X "isinstance" D4:=⟨_,qX,boot_isinstance⟩
def NK (h:X.K=K):QB X "isinstance" (xP K):=⟨_,zF h,boot_isinstance⟩
def PR (h:X.K=K) (hm:QM X T name r) (ho:PE X o to) (hb:attributeBase o name X.env (eval o X.env)=eval o X.env) (hl:(apos.endLine==pos.line)=true):PE X (.Call (.Attribute o name apos) [] [] pos) (F6 K T r to):=by
 obtain ⟨_,a,b,c,d⟩:=hm;exact Ew h a b c d ho hb hl
def P6 (h:X.K=K) (hm:QM X T name r) (ho:PE X o to) (ha:PA X (e::es) t) (hb:attributeBase o name X.env (eval o X.env)=eval o X.env)
 (hf:((backTo pos (starEach (e::es) X.env)).all (λ x=>!x.1)&&(backToKw pos (keywordEach [] X.env)).all (λ x=>x.1.isSome)
  && decide ((e::es).length+([]:List Keyword).length+(if ([]:List Keyword).isEmpty then 0 else 1)<30))=true)
 (hl:(apos.endLine==pos.line)=true) (hs:starEach (e::es) X.env=(false,eval e X.env)::starEach es X.env) (hp:(backTo pos (starEach es X.env)).any (·.1)=false):
 PE X (.Call (.Attribute o name apos) (e::es) [] pos) (Kf K T r to t):=by
 obtain ⟨_,a,b,c,d⟩:=hm;exact Hn h a b c d ho ha hb hf hl hs hp
def Po (hq:QB X x q) (hg:Gl X x) (hm:X.mg x=none) (ha:PA X (e::es) t) (hn:x ≠ "__name__") (hd:(x==("__debug__" : Str))=false)
 (he:starEach (e::es) X.env=(false,eval e X.env)::starEach es X.env) (hp:(backTo pos (starEach es X.env)).any (·.1)=false):PE X (.Call (.Name x p) (e::es) [] pos) (xK q t):=by
 obtain ⟨_,a,b⟩:=hq;exact Cz a hg hm b ha hn hd he hp
def Pq (h:X.K=K) (hg:Gl X "list") (hm:X.mg "list" = none) (ha:PA X (e::es) t)
 (he:starEach (e::es) X.env=(false,eval e X.env)::starEach es X.env) (hp:(backTo pos (starEach es X.env)).any (·.1)=false):PE X (.Call (.Name "list" p) (e::es) [] pos) (xK (rH K) t):=qD (pW h) hg hm boot_list ha (by decide) (by decide) he hp
end
section
variable {X:Cx} {x:Str} {us:Φ} {sp:Sp} {j k:Nat} {ps:Ω} {pos:Pos}
def O2 (h:Ce (IS X.K X.mg x ps us) X.prog X.w X.K X.mg X.base j ps sp) (hr:eB k X.A) (hl:j<=k):MD X x us sp:=⟨j,k,ps,h,hr,hl⟩
def NV (h:Ce (IS X.K X.mg x ps us) X.prog X.w X.K X.mg X.base j ps sp) (hr:eB k X.A) (hl:j<=k):∃ us,MD X x us sp:=⟨us,j,k,ps,h,hr,hl⟩
def Qm (hg:Gl X "dict") (hm:X.mg "dict" = none):PE X (.Name "dict" pos) (tC (.ty "dict")):=lu hg hm boot_dict rfl (by decide) (by decide)
def PV (hg:Gl X "int") (hm:X.mg "int" = none):PE X (.Name "int" pos) (tC (.ty "int")):=lu hg hm (by decide +kernel:bootBuiltins "int" = some (.type "int")) rfl (by decide) (by decide)
def Qs (hg:Gl X "bool") (hm:X.mg "bool" = none):PE X (.Name "bool" pos) (tC (.ty "bool")):=lu hg hm boot_bool' rfl (by decide) (by decide)
def Qa (hg:Gl X "tuple") (hm:X.mg "tuple" = none):PE X (.Name "tuple" pos) (tC (.ty "tuple")):=lu hg hm (by decide +kernel:bootBuiltins "tuple" = some (.type "tuple")) rfl (by decide) (by decide)
def Lz {a b c:Prop} (h:b):a∨b∨c:=.inr (.inl h)
end
instance cN (N:Ω):List (Option Nat)->List Str->List Str
 | some i::r,u=>N.getD i "" :: cN N r u
 | _,u=>u
section
variable {X:Cx} {scope:Scope} {ix:Λ} {z:Str} {zp:Pos} {iter elt:Expr} {ifs:List Expr} {wi:TI} {g:TG} {tc:TT} {te:TE} {pos py spos:Pos} {y:Str} {i:Nat}
def FT {N:Ω} (kind:scope.kind=.function) (nocell:(scope.names.all λ y=>y.2 != .cell)=true) (locs:(scope.names.all λ y=>y.2 != .local||scope.names.lookup y.1==some .local)=true)
 (free:(scope.names.all λ y=>y.2 != .free||X.env.kindOf y.1==some .cell||X.env.kindOf y.1==some .free)=true) (len:ix.length=N.length) (nd:decide N.Nodup=true)
 (fr:((ix.zip N).all λ p=>match p.1 with
  | none=>true
  | some i=>X.N[i]?==some p.2&&(X.env.kindOf p.2==some .cell||X.env.kindOf p.2==some .free)&&((relabel scope X.env).names.lookup p.2==some .cell||(relabel scope X.env).names.lookup p.2==some .free))=true):bV X scope N ix:=wf kind nocell locs free len (Rn nd) fr
noncomputable abbrev Pl (X:Cx) (scope:Scope) (ix:Λ) (z:Str) (zp:Pos) (elt:Expr) (ifs:List Expr) (g:TG) (tc:TT) (te:TE):Prop:=∀ (s₀:Shared) (H₀:Hp) (C:Addr) (ex:Ξ),(cN X.N ix [z]).Nodup->PG (bX X scope (cN X.N ix [z]) s₀ H₀ C ex) (.Name z zp) g/\xb (bX X scope (cN X.N ix [z]) s₀ H₀ C ex) ifs tc/\PE (bX X scope (cN X.N ix [z]) s₀ H₀ C ex) elt te
def Lk (S:bV X scope (cN X.N ix [z]) ix) (hn:decide (cN X.N ix [z]).Nodup=true) (hc:X.calm=true) (hi:PI X (.Name z zp) iter wi) (hG:oK ix g) (hb:Pl X scope ix z zp elt ifs g tc te)
 (hs:∀ x,foldedSetIterable iter X.env x=pure x):PE X (.ListComp elt [⟨.Name z zp,iter,ifs,0⟩] scope pos) (pI ix wi g tc te):=E7 S hc hi hG (λ a b c d=>hb a b c d (Rn hn)) hs
def AX (hN:X.N.Nodup) (hi:X.N[i]?=some y) (hy:Ja X.env.scope y) (S:bV X scope (cN X.N ix [z]) ix) (hn:decide (cN X.N ix [z]).Nodup=true) (hc:X.calm=true) (hit:PI X (.Name z zp) iter wi) (hG:oK ix g) (hb:Pl X scope ix z zp elt ifs g tc te)
 (hsw:swapsWith (.ListComp elt [⟨.Name z zp,iter,ifs,0⟩] scope pos) (some (.Name y py)) spos.line X.env=pure true) (hs:∀ x,foldedSetIterable iter X.env x=pure x) (hf:X.fn y=true∨X.env.scope.names.lookup y=some .local):
 PS X (.Assign [.Name y py] (.ListComp elt [⟨.Name z zp,iter,ifs,0⟩] scope pos) spos) (pU (pI ix wi g tc te) (n8 i)):=Ep hN hi hy S hc hit hG (λ a b c d=>hb a b c d (Rn hn)) hsw hs hf
end
noncomputable abbrev NH (P:Program) (w:World) (K:Frag) (mg:Θ) (base:Heap) (N:Ω) (q:Str) (st:Stmt) (k:Nat) (t:TS):Prop:=∀ (f:Addr) (cd:Value) (A:Around) (outer:List Env) (s:Shared) (H:Hp) (E:XK),N.Nodup->eB k (A.deeper (envOfC q (b6 st) s.heap.objs.size f cd))->(A.deeper (envOfC q (b6 st) s.heap.objs.size f cd)).units+64<cLine->(A.deeper (envOfC q (b6 st) s.heap.objs.size f cd)).units+1<cLine->
 vJ (xh Gz P w K mg base N q (b6 st) f cd A outer s H E).nox (d3 st) t
section
variable {P:Program} {w:World} {K:Frag} {mg:Θ} {base:Heap} {cl:Str->Addr} {R:Addr->FuncData->Prop} {x q:Str} {st:Stmt} {N ps:Ω} {a n k:Nat} {t:TS} {sp:Sp}
def Mw (D:Ay R K x q st) (S:gC N ps (b6 st)) (hl:∀ vs H Q E,sp vs H Q E->vs.length=ps.length) (rd:∀ vs H Q E,sp vs H Q E->t ({ nx:=λ _ H'=>Q V.non H',rt:=Q }:jg) (start N vs) H)
 (pe:NH P w K mg base N q st k t):Ce R P w K mg base (k+1) ps sp:=by
 obtain ⟨f,fd,F,r⟩:=D;exact ⟨f,fd,r,F.ok S hl λ cd A outer s H vs Q E hr h=>⟨t,pe f cd A outer s H E S.nd hr hr.units hr.units1,rd vs H Q E h⟩⟩
def iC {fb:υ} {g:List W->Option W} (D:Ay R K x q st) (hg:g=cn a n fb) (de:∀ ρ,pz K ρ t fb)
 (pe:NH P w K mg base N q st k t) (hN:N.length=n) (ha:ps.length=a) (S:gC N ps (b6 st)):Ce R P w K mg base (k+1) ps (jX K g):=by
 subst hg ha;exact Mw D S (λ vs H Q E h=>Fe (λ ds d e=>qt e) h) (λ vs H Q E h=>Oz hN de h) pe
def iL {fb:τ} {g:List W->ak->SM W} (D:Ay R K x q st) (hg:g=cG a n fb) (de:nU K cl E0 t fb)
 (pe:NH P w K mg base N q st k t) (hN:N.length=n) (ha:ps.length=a) (S:gC N ps (b6 st)):Ce R P w K mg base (k+1) ps (kP K cl g):=by
 subst hg ha;exact Mw D S (λ vs H Q E h=>DC (λ ds S r e=>qz e) h) (λ vs H Q E h=>KZ hN de h) pe
def Ce.imp {sq:Sp} (h:Ce R P w K mg base k ps sp) (i:∀ vs H Q E,sq vs H Q E->sp vs H Q E):Ce R P w K mg base k ps sq:=by
 obtain ⟨f,fd,r,F⟩:=h;exact ⟨f,fd,r,F.imp i⟩
def Cc {g:List W->Option W} (D:Ay R K x q st) (h:∀ ds,g ds=none):Ce R P w K mg base k ps (jX K g):=by
 obtain ⟨f,fd,_,r⟩:=D;exact ⟨f,fd,r,fF.no h⟩
def oQ {F:Nat->Sp} (h0:Ce R P w K mg base (k+0) ps (F 0)) (hs:∀ n,Ce R P w K mg base (k+n) ps (F n)->Ce R P w K mg base (k+n+1) ps (F (n+1))):∀ n,Ce R P w K mg base (k+n) ps (F n)
 | 0=>h0
 | n+1=>hs n (oQ h0 hs n)
instance An (K:Frag) (x:Str) (st:Stmt) (dV:Value):Prop:=∃ (f:Addr) (oc:Value) (od:Option Addr) (kV dc pm:Value) (an:Option Addr) (cd ct:Value) (sl:Array (Option Value)),
 PySem.W.nsIn K mainGlobals x=some (some (.ref f))/\K.lookup f=some ⟨oc,od,.func (PySem.W.fnOf x x (dZ st) (d3 st) (b6 st) dV kV dc pm an cd ct),sl⟩/\PySem.W.codeIn K cd x=true/\PySem.W.keepIn K (.ref f)=true
def An.dn {h:Heap} (X:K.In h) (G:h.Ns mainGlobals mg) (z:An K x st .none) (hb:∀ (kV dc pm:Value) (an:Option Addr) (cd ct:Value) (us:Φ),us.length=ps.length->bindArgs (PySem.W.fnOf x x (dZ st) (d3 st) (b6 st) .none kV dc pm an cd ct) ⟨us,[]⟩=pure (ps.zip us)):
 Ay (IS K mg x ps []) K x x st:=by
 obtain ⟨f,oc,od,kV,dc,pm,an,cd,ct,sl,m,l,c,kp⟩:=z;have b:fU K _ ps []:=(wz l c kp).binds hb;exact ⟨f,_,lY l c kp,PySem.W.mg_of X G m,kp,b,b⟩
end
section
variable {K:Frag} {cl:Str->Addr} {E:XK}
def IH {R:Addr->FuncData->Prop} {P:Program} {w:World} {mg:Θ} {base:Heap} {k:Nat} {ps:Ω} {x q:Str} {st:Stmt} {g:List W->ak->SM W} (D:Ay R K x q st) (h:∀ ds S,g ds S=none):Ce R P w K mg base k ps (kP K cl g):=by
 obtain ⟨f,fd,_,r⟩:=D;exact ⟨f,fd,r,fF.no0 h⟩
end
instance Ct (h:Heap) (d:Addr) (es:Array DictEntry) (ep:Nat):Prop:=∃ o,h.get? d=some o/\o.ExactDict/\o.data=.dict es ep
section
variable {prog:Program} {w:World} {A:Around} {E:Γ} {s:Shared} {d it:Addr} {es:Array DictEntry} {ep i:Nat}
def Ct.ty (x:Ct s.heap d es ep):s.TypeIs (.ref d) "dict" := by
 obtain ⟨o,e1,e2,_⟩:=x;exact ⟨o,e1,e2.1⟩
def Ct.at {h h':Heap} (x:Ct h d es ep) (k:∀ o,h.get? d=some o->h'.get? d=some o):Ct h' d es ep:=by
 obtain ⟨o,e1,e2⟩:=x;exact ⟨o,k o e1,e2⟩
instance NR (d:Addr) (n ep:Nat):Obj:={ cls:=.type "dict_keyiterator", data:=.fields #[.ref d,.int 0 0,.int n 0,.int ep 0] }
def AG {Q:Γ} (hd:(d==sysModules)=false) (x:Ct s.heap d es ep) (q:Q (.ref s.heap.objs.size) { s with heap:=s.heap.push (NR d es.size ep) }):wpAny (model prog w) A (pyIter (.ref d)) Q E s:=by
 have T:=x.ty;obtain ⟨o,e1,e2,e3⟩:=x;refine wpAny_pyIter_slot T F.slot_dict_iter (wpAny_call_entry F.slot_dict_iter T F.entry_dict_iter ?_ (F.args_dict_iter_1 _));unfold Builtin.«dict.__iter__»;refine QA ?_;unfold Builtin.Dict.dictSlotNone;refine QA (wpAny_notOrdered_dict T (show wpAny _ _ (pure (Value.ref d)) _ _ s from QN ?_));show wpAny _ _ (Builtin.Dict.showsAll d >>= _) _ _ s;unfold Builtin.Dict.showsAll;rw [QS (by rw [hd];exact QU)];refine QA (QN (QA (R0 e1 e3 (QA (Sx e1 e3 ?_)))));exact QA (wpAny_newObj_type (QN ⟨_,rfl, "dict_keyiterator", _,⟨_,Rg _ rfl,rfl⟩,RR.lookup,q⟩))
def Bo {Q:Option Value->Shared->Prop} (t:s.heap.IsKeyIter it d i es.size ep) (x:Ct s.heap d es ep) (hl:i<es.size)
 (q:∀ h',h'.IsKeyIter it d (i+1) es.size ep->Heap.SameBut it s.heap h'->Q (some es[i].key) { s with heap:=h' }):wpAny (model prog w) A (pyNext (.ref it)) Q E s:=by
 have T:=t.typeIs;obtain ⟨o,t1,t2,t3⟩:=t;obtain ⟨od,e1,e2,e3⟩:=x;unfold pyNext;refine QA (wpAny_attempt (Sj (name:=Str.ofString "__next__") T RR (wpAny_call_entry RR T F.entry_dict_keyiterator_next ?_ (F.args_dict_keyiterator_next_1 _))));refine QA (QN (QA (QA ?_)));refine QA (wpAny_typeNameOfWhole_keyiter T (QN (QA (wpAny_fieldsOf t1 t3 ?_))));have no:Builtin.Dict_items.ownsTuple "dict_keyiterator" = false:=by decide
 simp only [no,RL,SF];show wpAny _ _ (if (Value.ref d==Value.none)=true then _ else _) _ _ s;rw [QS (show ¬ ((Value.ref d==Value.none)=true) from QU)];refine QA (QN (QA (R0 e1 e3 ?_)));rw [QS (by simp)];refine QA (QN (QA (Sx e1 e3 ?_)));rw [QS (by simp)];refine QN ?_;simp only [show ¬ ((i:Int)<0) by omega,SF,toNat_natCast,Sc hl];refine QA (QA (wpAny_typeNameOfWhole_keyiter T (QN (QA (wpAny_isOneOf_keyiter T ?_)))));show wpAny _ _ (setField (.ref it) 1 (rawInt ((i:Int)+1)) >>= _) _ _ s;refine QA (wpAny_setField t1 t3 (by simp) ?_);have t':(s.heap.update it (Obj.mapFields (·.setIfInBounds 1 (rawInt ((i:Int)+1))))).IsKeyIter it d (i+1) es.size ep:=
  ⟨_,get?_update_self _ t1 (Obj.isFreed_of_fields (Obj.data_mapFields t3 _)),(Obj.cls_mapFields ..).trans t2,by rw [Obj.data_mapFields t3];simp [rawInt]⟩
 refine QA (RH (QA (wpAny_isOneOf_keyiter (s:={ s with heap:=s.heap.update it (Obj.mapFields (·.setIfInBounds 1 (rawInt ((i:Int)+1)))) }) t'.typeIs ?_)));show wpAny _ _ (pure es[i].key) _ _ _;exact QN (QN ⟨_,rfl,QN (q _ t' (R7 ..))⟩)
def Co {Q:Option Value->Shared->Prop} (hh:A.handled=none) (hi:es.size<=i) (t:s.heap.IsKeyIter it d i es.size ep) (x:Ct s.heap d es ep)
 (q:∀ h',Heap.ExtBut it s.heap h'->Q none { s with heap:=h' }):wpAny (model prog w) A (pyNext (.ref it)) Q E s:=by
 have T:=t.typeIs;obtain ⟨o,t1,t2,t3⟩:=t;obtain ⟨od,e1,e2,e3⟩:=x;unfold pyNext;refine QA (wpAny_attempt (Sj (name:=Str.ofString "__next__") T RR (wpAny_call_entry RR T F.entry_dict_keyiterator_next ?_ (F.args_dict_keyiterator_next_1 _))));refine QA (QN (QA (QA ?_)));refine QA (wpAny_typeNameOfWhole_keyiter T (QN (QA (wpAny_fieldsOf t1 t3 ?_))));have no:Builtin.Dict_items.ownsTuple "dict_keyiterator" = false:=by decide
 simp only [no,RL,SF];show wpAny _ _ (if (Value.ref d==Value.none)=true then _ else _) _ _ s;rw [QS (show ¬ ((Value.ref d==Value.none)=true) from QU)];refine QA (QN (QA (R0 e1 e3 ?_)));rw [QS (by simp)];refine QA (QN (QA (Sx e1 e3 ?_)));rw [QS (by simp)];refine QN ?_;simp only [show ¬ ((i:Int)<0) by omega,SF,toNat_natCast,getElem?_eq_none hi];refine QA (QA (wpAny_typeNameOfWhole_keyiter T (QN ?_)));show wpAny _ _ (setField (.ref it) 0 .none >>= _) _ _ s;refine QA (wpAny_setField t1 t3 (by simp) ?_);show wpAny _ _ (newExc (.type "StopIteration") [] >>= _) _ _ _;refine QA ?_;simp only [newExc,newTuple];refine QA (wpAny_newObj_type (QA (m:=firstArgMember _ _) (wpAny_of_eq (a:=Value.none) (by first | rfl | (simp only [firstArgMember];rfl)) (wpAny_newObj_type ?_ (by size_fits)))) (by size_fits));simp only [raiseNew];refine QA (wpAny_handled ?_);rw [show A.in1.handled=none from hh];refine QA (QN (wpAny_throw ?_));refine QA (wpAny_isInstance (T := "StopIteration") (b:=true) ⟨_,Rg _ rfl,rfl⟩ isSubtype_stop ?_);exact QN (q _ (((R7 ..).extBut.push _).push _))
def Ku (hh:A.handled=none) (I d:Addr) (hne:d≠I) (es:Array DictEntry) (ep:Nat):Walks prog w A I [I,d] [I] es.size (λ i v=>∃ e,es[i]?=some e/\v=e.key) (λ i h=>h.IsKeyIter I d i es.size ep/\Ct h d es ep) where
 sub:=λ b hb=>by rw [QD.mp hb];exact Rf
 frame:=λ _ _ _ st k=>⟨st.1.at λ o e=>k I Rf o e,st.2.at λ o e=>k d (Rj _ Rf) o e⟩
 item:=λ i s Q E hi st hQ=>Bo st.1 st.2 hi λ h' t' sb=>hQ _ h' s.toks ⟨_,Sc hi,rfl⟩ ⟨t',st.2.at λ o e=>sb.extBut d o hne e⟩ λ b o hb e=>sb.extBut b o (λ z=>hb (QD.mpr z)) e
 done:=λ s Q E st hQ=>Co hh (QH _) st.1 st.2 λ h' x=>hQ h' s.toks λ b o hb e=>x b o (λ z=>hb (QD.mpr z)) e
 self:=λ _ _ _ _ st hQ=>wpAny_pyIter_keyiter st.1 hQ
def Ms (hd:(d==sysModules)=false):PySem.W.KdlSrc prog w "dict" d d es.size (λ i v=>∃ e,es[i]?=some e/\v=e.key) (λ h=>Ct h d es ep) where
 type:=λ _ x=>x.ty
 there:=λ h x=>by obtain ⟨o,e1,_⟩:=x;exact ⟨Q8 e1,Q8 e1⟩
 keep:=λ _ _ x k=>x.at λ o e=>k d (.inl rfl) o e
 notList:=by decide
 notTuple:=by decide
 hint:=λ _ _ _ _ x q=>PySem.W.kdl_hint_dict x.ty q
 iter:=λ A s hh x=>⟨_,_,(λ _ _ q=>AG hd x q),Ku hh _ d (by obtain ⟨o,e1,_⟩:=x;exact Ro (Q8 e1)) es ep,⟨⟨_,Rg _ rfl,rfl,rfl⟩,x.at λ o e=>QX _ e⟩⟩
end
noncomputable abbrev KA (H:Hp):List (List aB×V)->List Addr->Prop:=Paired λ p b=>H b=some (.tup (p.1.map kV))
instance sS:List V->Hp->VK->Prop:=λ xs H Q=>∃ (a:Addr) (kvs:List (List aB×V)),xs=[.ref a]/\H a=some (.dT kvs)/\∀ bs,KA H kvs bs->∀ l,H l=none->Q (.ref l) (cK H l (.lst (bs.map V.ref)))
def KC {H:Hp} {kvs:List (List aB×V)} {xs:List (List aB×Addr×Value)} (r:KT H kvs xs):KA H kvs (xs.map (·.2.1)):=by
 induction r with
 | nil=>exact .nil
 | cons h _ ih=>exact .cons h.2.1 ih
def uX:∀ (bs:Ξ),bn (bs.map V.ref) (bs.map Value.ref)
 | []=>.nil
 | b::bs=>.cons rfl (uX bs)
def xk {X:Cx} (hc:X.calm=true):cV X (.type "list") sS:=by
 intro pins s σ H xs us Q I r h;obtain ⟨a,kvs,rfl,ha,q⟩:=h;obtain ⟨u,rfl,rx⟩:=qK r;cases rx;obtain ⟨z,hd,ys,kt,o,es,ep,h1,h2,h3,h4,_⟩:=BY I.hok ha;have sz:es.size=ys.length:=by rw [<-R6,h4,Rk]
 have kl:=SC kt;refine PySem.W.kdl_call (Ms (es:=es) (ep:=ep) hd) (I.ok.hd hc) ⟨o,h1,h2,h3⟩ (by omega) λ h' tk acc c kp e ia=>?_;have ac:acc.toList=(ys.map (·.2.1)).map Value.ref:=by
  refine ext_getElem? λ i=>?_;rcases Sz i acc.size with hi | hi
  . have e1:acc[i]?=some acc[i]:=Sc hi;obtain ⟨en,e2,e3⟩:=ia.2 i _ e1;have e4:=entry_at h4 i;rw [e2] at e4;rw [RO,e1,e3,Ry,Re];cases hy:ys[i]? with
    | none=>rw [hy] at e4;cases e4
    | some y=>rw [hy] at e4;cases e4;rfl
  . have:ys.length<=i:=by have:=ia.1;omega
    rw [RO,getElem?_eq_none hi,Sd (by simpa using this)]
 refine ⟨.ref s.heap.objs.size,_,I.laid (t':=tk) (λ b o' e=>kp b o' e) (QH _) (show cX X.prog X.w _ h' _ (.lst ((ys.map (·.2.1)).map V.ref)) from ⟨by simp;omega,acc.toList,c,by rw [ac];exact uX _,by simpa using e⟩),rfl,q _ (KC kt) _ (I.hok.fresh (QH _))⟩
instance cO (ks:List aB):W:=.tuple (ks.map jc)
instance mw (f:ζ):DS->ak->SM W:=λ δ S=>au (f δ S) λ x S1=>fN ((ud x S1).map λ p=>.list (p.2.map λ e=>cO e.1)) S1
instance adopt (G H:Hp) (bs:Ξ):Hp:=λ b=>if b∈bs then H b else G b
def Gr.adopt {G H:Hp} {bs:Ξ} (s:b0 G H) (h:∀ b∈bs,∃ xs,H b=some (.tup xs)):Gr G H (L2.adopt G H bs) H:=
 ⟨λ b o e=>by
  unfold L2.adopt;split
  . exact s b o e
  . exact e,.refl _,λ b o e=>by
  unfold L2.adopt at e;split at e
  . exact e
  . exact s b o e,λ b n e=>by
  unfold L2.adopt;rw [QS λ z=>by obtain ⟨xs,hx⟩:=h b z;exact n.2 xs hx];exact e⟩
def AU {H:Hp} {kvs:List (List aB×V)} {bs:Ξ} (h:KA H kvs bs):∀ b∈bs,∃ xs,H b=some (.tup xs):=by
 induction h with
 | nil=>exact λ b hb=>absurd hb QR
 | cons r _ ih=>
  intro b hb;rcases QE.mp hb with rfl | hb
  . exact ⟨_,r⟩
  . exact ih b hb
section
variable {K:Frag} {cl:Str->Addr} {E:XK} {ρ:Ξ}
def sh {G:Hp}:∀ (ks:List aB),aE K ρ G (ks.map kV) (ks.map jc)
 | []=>.nil
 | .inl i::ks=>.cons (.int i) (sh ks)
 | .inr x::ks=>.cons (.str x) (sh ks)
def Mf {G H:Hp} {kvs:ν} {ws:List (List aB×V)} (hk:jC K ρ G kvs ws):∀ {bs:Ξ} {G':Hp},KA H ws bs->(∀ b∈bs,G' b=H b)->aE K ρ G' (bs.map V.ref) (kvs.map λ e=>cO e.1):=by
 induction hk with
 | nil=>intro bs G' h _;cases h;exact .nil
 | cons _ _ ih=>
  intro bs G' h hb;cases h with
  | cons r t=>exact .cons (.tup ((hb _ (by simp)).trans r) (sh _)) (ih t λ b hm=>hb b (by simp [hm]))
def C2 {ta:TE} {fa:ζ} (ha:SE K cl E ta fa):SE K cl E (xK sS (fc ta jN)) (mw fa):=λ ρ G σ H δ S r' S' Q R e q qx=>
 cA ha R e (λ x S2 e2 v ρ2 G2 H2 g2 s2 dv=>by
  obtain ⟨c,e3,rfl,rfl⟩:=bx e2;obtain ⟨⟨n,kvs⟩,e4,rfl⟩:=oM e3
  obtain ⟨rfl,e5⟩:=rf e4;obtain ⟨a,rfl,ea⟩:=cy dv;obtain ⟨ga,vs,k1,k2⟩:=s2.addr e5 ea;show sS [.ref a] H2 Q;refine ⟨a,vs,rfl,k1,λ bs ka l hl=>?_⟩;have g3:=Gr.adopt g2.s (AU ka);have n3:Nw H2 (cK H2 l (.lst (bs.map V.ref))) l (.lst (bs.map V.ref)):=.of hl;have g4:=g3.trans (Gr.nw g3.s n3);refine q _ rfl _ ρ2 _ _ (g2.trans (.of g4)) (s2.grow g4) (.lst (cR.of aP) (Mf k2 ka λ b hb=>?_));rw [aL (λ z=>by obtain ⟨xs,hx⟩:=AU ka b hb;rw [z,hl] at hx;cases hx)];unfold L2.adopt;rw [QF hb]) qx
end
section
variable {K:Frag} {cl:Str->Addr} {E:XK}
end
section
variable {X:Cx} {e:Expr} {es:List Expr} {t:TA} {p pos:Pos}
def Om (hc:X.calm=true) (hg:Gl X "list") (hm:X.mg "list" = none) (ha:PA X (e::es) t)
 (he:starEach (e::es) X.env=(false,eval e X.env)::starEach es X.env) (hp:(backTo pos (starEach es X.env)).any (·.1)=false):PE X (.Call (.Name "list" p) (e::es) [] pos) (xK sS t):=qD (xk hc) hg hm boot_list ha (by decide) (by decide) he hp
end
def boot_str':bootBuiltins "str" = some (.type "str"):=by decide +kernel
section
variable {X:Cx} {pos:Pos}
def Q5 (hg:Gl X "str") (hm:X.mg "str" = none):PE X (.Name "str" pos) (tC (.ty "str")):=lu hg hm boot_str' rfl (by decide) (by decide)
end
def Fp {k:aB} {u:Value} (h:oA k u=true):br (kV k) u:=by
 rcases cp h with ⟨i,t,rfl,rfl⟩ | ⟨x,t,rfl,rfl⟩
 . exact ⟨t,rfl⟩
 . exact ⟨t,rfl⟩
def A6 {P:Program} {w:World} {es:List DictEntry} {vs:List (aB×Value)} (h:Pairs (bj P w) es vs):∀ {kvs:List (aB×V)} {i:Nat} {p:aB×V},KV kvs vs->kvs[i]?=some p->∃ e,es[i]?=some e/\br (kV p.1) e.key:=by
 induction h with
 | nil=>intro kvs i p r e;cases r;cases e
 | @cons e kv es vs h1 _ _ ih=>
  intro kvs i p r hp;cases r with
  | @cons q _ kvs _ r1 r2=>
   cases i with
   | zero=>cases hp;exact ⟨e,rfl,by rw [r1.1];exact Fp h1⟩
   | succ i=>exact ih r2 hp
instance P9 (a:Addr) (m:Nat):It:=⟨λ i H=>∃ kvs,H a=some (.dK kvs)/\kvs.length=m/\i<m,λ i H x H'=>H'=H/\∀ kvs,H a=some (.dK kvs)->∃ p,kvs[i]?=some p/\x=kV p.1,λ i H=>∃ kvs,H a=some (.dK kvs)/\kvs.length=m/\m<=i⟩
instance Pp (tl:TE):TI:=λ σ H R=>tl σ H λ x H1=>∃ a kvs,x=.ref a/\H1 a=some (.dK kvs)/\R (P9 a kvs.length) H1
def dk_at' {P:Program} {w:World} {H:Hp} {h:Heap} {a:Addr} {kvs:List (aB×V)} (ok:j5 P w H h) (e:H a=some (.dK kvs)):∃ es vs,KV kvs vs/\Pairs (bj P w) es.toList vs/\Ct h a es es.size/\es.size=kvs.length:=by
 obtain ⟨vs,r,o,es,ep,h1,h2,h3,rfl,_,h5,_⟩:=Mu ok e;refine ⟨es,vs,r,h5,⟨o,h1,h2,h3⟩,?_⟩;have:=h5.length;rw [R6] at this;rw [this,<-SC r]
def E9 {P:Program} {w:World} {K:Frag} {tg:Expr} (a it:Addr) (m:Nat):wI P w K tg (P9 a m) [it] it (λ i h=>h.IsKeyIter it a i m m) where
 mem:=by simp
 obj:=λ i h st b hb=>by
  have e:b=it:=by simpa using hb
  subst e;obtain ⟨o,e,c,d⟩:=st;exact ⟨o,e,λ v z=>by rw [d] at z;cases z⟩
 keep:=λ i h h' st k=>st.at λ o e=>k it (by simp) o e
 item:=by
  intro X hP hw hK hc i pins s σ H E I hf st hg;subst hP hw hK;obtain ⟨kvs,ha,hl,hi⟩:=hg;obtain ⟨es,vs,r,hp,da,sz⟩:=dk_at' I.hok ha;obtain ⟨f0,f1,f2,f3,f4,f5⟩:=hf it (by simp);have ze:es.size=m:=sz.trans hl;subst ze;refine Bo st da hi λ h' st' sb=>?_;have I1:aR X pins σ H { s with heap:=h' }:=I.turned (t':=s.toks) (λ b o hb e=>(sb.2 b hb).trans e) f0 f1 f3 f4 f5;obtain ⟨o,e,c,d⟩:=id st';have hk:kvs[i]?=some kvs[i]:=QP (by omega);obtain ⟨en,he,ru⟩:=A6 hp r hk;have e2:es[i]=en:=by
   rw [RO,Sc hi] at he;exact Rv he
  rw [e2];exact ⟨_,rfl,yo (s:={ s with heap:=h' }) e c d (by decide) ⟨_,H,I1,ru,⟨rfl,λ ys hy=>by rw [ha] at hy;cases hy;exact ⟨_,hk,rfl⟩⟩,st',λ b hb=>(hf b hb).1⟩⟩
 done:=by
  intro X hP hw hK hc i pins s σ H E I hf st hg;subst hP hw hK;obtain ⟨kvs,ha,hl,hi⟩:=hg;obtain ⟨es,vs,r,hp,da,sz⟩:=dk_at' I.hok ha;obtain ⟨f0,f1,f2,f3,f4,f5⟩:=hf it (by simp);have ze:es.size=m:=sz.trans hl;subst ze;exact Co (I.ok.hd hc) hi st da λ h' eb=>⟨rfl,I.turned (t':=s.toks) (λ b o hb e=>eb b o hb e) f0 f1 f3 f4 f5⟩
 self:=λ _ _ _ _ _ st h=>wpAny_pyIter_keyiter st h
def PD {X:Cx} {tg l:Expr} {tl:TE} (hl:PE X l tl):PI X tg l (Pp tl):=by
 intro pins s σ H R I h;refine cJ (hl pins s σ H _ I h) λ v s1 hq0=>?_;obtain ⟨x,H1,I1,r1,q1⟩:=hq0;obtain ⟨a,kvs,rfl,ha,q⟩:=q1;cases r1;obtain ⟨_,hd,_⟩:=FM I1.hok ha;obtain ⟨es,vs,r,hp,da,sz⟩:=dk_at' I1.hok ha;refine AG hd da ?_;refine ⟨s1.heap.objs.size,[s1.heap.objs.size],_,_,H1,rfl,I1.kept (t':=s1.toks) λ b o e=>QX _ e,E9 a _ kvs.length,?_,λ b hb=>?_,q⟩
 . rw [<-sz];exact ⟨_,Rg _ rfl,rfl,rfl⟩
 . have e:b=s1.heap.objs.size:=by simpa using hb
   subst e;exact I1.fpOk (QH _) (I1.hok.fresh (QH _))
section
variable {K:Frag} {cl:Str->Addr} {E:XK}
instance lP (f:ζ):DS->ak->SM (Nat×Kd):=λ δ S=>au (f δ S) λ x S1=>(sH x S1).map λ p=>(.ok (p.1,.d p.2.length),S1)
def HN {ρ:Ξ} {G:Hp} {κ:Type} {l:List (κ×W)} {m:List (κ×V)} (q:jC K ρ G l m):∀ {i:Nat} {k:κ} {v:V},m[i]?=some (k,v)->∃ d,l[i]?=some (k,d):=by
 induction q with
 | nil=>intro i k v e;cases e
 | cons _ _ ih=>
  intro i k v e;cases i with
  | zero=>cases e;exact ⟨_,rfl⟩
  | succ i=>exact ih e
def Jp {ρ:Ξ} {G:Hp}:∀ (k:aB),Dw K ρ G (kV k) (jc k)
 | .inl i=>.int i
 | .inr x=>.str x
def Mn {t:TE} {f:ζ} (h:SE K cl E t f):LX K cl E (Pp t) (lP f):=λ ρ G σ H δ S r S' R' R e q qx=>
 cA h R e (λ x S1 e1 v ρ1 G1 H1 g1 s1 dv=>by
  obtain ⟨⟨n,kvs⟩,e2,e3⟩:=oM e1
  cases e3;obtain ⟨rfl,e4⟩:=qZ e2;obtain ⟨a,rfl,ea⟩:=cy dv;obtain ⟨ga,vs,k1,k2⟩:=s1.addr e4 ea;refine ⟨a,vs,rfl,k1,?_⟩;rw [<-k2.length];refine q (n,.d kvs.length) rfl _ ρ1 G1 H1 g1 s1 λ i ρ2 G2 H2 S2 es pr s2 sr he=>?_;obtain ⟨⟨n',kv2⟩,e5,e6⟩:=oB (show (sH (.ref n) S2).bind _=_ from he)
  obtain ⟨ez,e7⟩:=qZ e5;cases ez;split at e6
  case isFalse=>cases e6
  rename_i hl;cases e6;obtain ⟨ga2,ws,m1,m2⟩:=sr.addr e7 (io pr ea);have wl:ws.length=kvs.length:=m2.length.symm.trans hl;refine ⟨λ d hd=>?_,λ hi=>⟨ws,m1,wl,by simpa [hl] using hi⟩⟩;have hi:i<kvs.length:=by
   have:=(oG hd).1;simpa [hl] using this
  refine ⟨⟨ws,m1,wl,hi⟩,λ x H' y=>?_⟩;obtain ⟨rfl,y⟩:=y;obtain ⟨⟨k,v⟩,h1,rfl⟩:=y ws m1;obtain ⟨d',h2⟩:=HN m2 h1;rw [Re,h2] at hd;cases hd;exact ⟨G2,.refl s2,Jp k⟩) qx
end
def Fj {S:ak} {l:Nat} {es:List (aB×W)} (h:S[l]?=some (.dK es)):eS S (l,.d es.length)=some (es.map λ e=>jc e.1):=by simp [eS,sH,d7,h]
end L2
namespace My
open PySem PySem.Spec PyProof.Rows L2
open PySem.W (Frag)
local macro_rules
 | `($x:num[$i:num]!)=>`(av aI (aq $x) (dC (.int $i)))
 | `(!$x:num)=>`(dC (.int $x))
 | `(!$x:str)=>`(dC (.str $x))
 | `(#[$a,*])=>do
  let mut r<-`(ag)
  for x in a.getElems.reverse do r<-`(aa $x $r)
  return r
local macro_rules | `(tactic| simp! [$a,*] $[$l]?)=>`(tactic| simp only [Nat.reduceAdd,Nat.reduceSub,reduceIte,Nat.reduceEqDiff,List.replicate,$a,*] $[$l]?)
instance iN (i:Nat):Stmt:=PySem.Challenge.pw_widelanes_k13_reasons_end.main.body.getD i (.Pass ⟨0,0,0,0⟩)
noncomputable abbrev nA:Stmt:=iN 1
noncomputable abbrev oH:Stmt:=iN 2
noncomputable abbrev oy:Stmt:=iN 3
noncomputable abbrev mZ:Stmt:=iN 6
noncomputable abbrev cQ:Stmt:=y6 (iN 8) 0
noncomputable abbrev fE:Stmt:=y6 (iN 8) 1
noncomputable abbrev ul:Stmt:=iN 11
noncomputable abbrev mP:Stmt:=iN 12
noncomputable abbrev oq:Stmt:=iN 13
noncomputable abbrev jy:Stmt:=iN 14
noncomputable abbrev mL:Stmt:=iN 15
noncomputable abbrev pq:Stmt:=iN 10
noncomputable abbrev yF:Stmt:=iN 9
noncomputable abbrev lL:Stmt:=iN 17
noncomputable abbrev jk:Stmt:=iN 18
noncomputable abbrev kf:Stmt:=iN 19
noncomputable abbrev lD:Stmt:=iN 20
noncomputable abbrev mO:Stmt:=iN 21
noncomputable abbrev jY:Stmt:=iN 22
noncomputable abbrev gD:Stmt:=iN 23
noncomputable abbrev mU:Stmt:=iN 24
noncomputable abbrev qL:Stmt:=iN 25
noncomputable abbrev gW:Stmt:=iN 26
noncomputable abbrev ie:Stmt:=iN 27
noncomputable abbrev mN:Stmt:=iN 28
noncomputable abbrev lF:Stmt:=iN 29
noncomputable abbrev ig:Stmt:=iN 30
noncomputable abbrev jp:Stmt:=iN 31
noncomputable abbrev kZ:Stmt:=iN 32
noncomputable abbrev kT:Stmt:=iN 33
noncomputable abbrev jV:Stmt:=iN 34
noncomputable abbrev mG:Stmt:=iN 35
noncomputable abbrev gB:Stmt:=iN 36
noncomputable abbrev lJ:Stmt:=iN 37
noncomputable abbrev iP:Stmt:=iN 38
noncomputable abbrev gc:Stmt:=iN 39
noncomputable abbrev nj:Stmt:=iN 40
noncomputable abbrev uf:Stmt:=iN 41
instance n5 (c_Links:Addr):Str->Addr:=λ s=>if s = "Links" then c_Links else 0
def iu (c_Links:Addr):n5 c_Links "Links" = c_Links:=by
 unfold n5;rw [QF rfl]
instance jm:List W->Option W:=cn 1 1
 (aF (ci (ay bp 0[0]! !"while")
  (aN (bc (bu #[0[3]!])))
  az)
 (aF (ci (ay bp 0[0]! !"if")
  (aN (bc (gF [none] (bA (nQ (ae 0) (eW !3) dD)) (af 0) (ay fL (aq 0) (dC .none)) (ae 0))))
  az)
 (aN (bc (bu ag)))))
instance iA (pf:List W->Option W):DS->Option dJ:=(ik 3 (aU pf #[ae 5,av xy (aq 2) (aK #[ae 4])]))
instance eA (pf:List W->Option W):DS->Option dJ:=(aF (eU 3 (aK #[ae 4,ae 2]))
 (gY (bA (aU jm #[ae 4])) (af 5) (iA pf)))
instance bF:Nat->List W->Option W
 | 0,_=>none
 | n+1,ds=>cn 2 6
  (aF (aG (Fn (ay p7 (aq 1) (dC .none)) (aK ag) (ae 1)) (af 2))
  (aF (iS 3 (bu ag))
  (aF (gY (bA (ae 0)) (af 4) (eA (bF n)))
  (mI 3 (aN (ae 3)))))) ds
instance kG:List W->Option W:=cn 1 1
 (aN (Fn (ay jf 0[0]! (aK #[!"set",!"call",!"join"])) 0[2]! (dC .none)))
instance dy (pf:List W->Option W):DS->Option dJ:=(ik 1 (aU pf #[ae 2]))
instance b7:Nat->List W->Option W
 | 0,_=>none
 | n+1,ds=>cn 1 3
  (aF (ci (gL (ay rS 0[0]! !"box") (ay fj 0[0]! (dC (.tuple [.str "+", .str "-", .str "*", .str "div", .str "rem", .str "<", .str "="]))))
   (aN (bc (bu #[ae 0])))
   az)
  (aF (iS 1 (bu ag))
  (aF (gY (bA (nQ (ae 0) (eW !1) dD)) (af 2) (dy (b7 n)))
  (mI 1 (aN (ae 1)))))) ds
instance fw:List W->ak->SM W:=cG 1 1
 (yd "Links" "behind" (ab (ae 0)) Na)
instance gJ:DS->ak->SO:=(dq (so (pc "Links" "behind" (ab (ae 0))) (ab (ae 4)) (eJ (ab ag))) (ab (aK #[ae 2,ae 3])))
instance aS:List W->ak->SM W:=cG 4 5
 (eC (ab (bA (ae 1))) (af 4) gJ)
instance pH:List W->Option W:=cn 2 2
 (aN (av bB (bc (bu #[aK #[!"def",ae 0]])) (bc (gF [none] (bA (aq 1)) (af 0) jj (aK #[!"row",0[1]!])))))
instance bN:List W->Option W:=cn 2 4
 (aF (aG (aU (b7 9) #[ae 1]) (af 2))
 (aF (aG (bc (gF [some 0,none] (bA (aq 2)) (af 1) (ay bp 1[0]! !"name") (aK #[!"name",ae 0,1[1]!]))) (af 3))
 (aN (Fn (kj (ay kR (aK #[!"lane"]) (aq 2)) (ay kR (aK #[!"mine"]) (aq 2))) (bc (bu #[dC .none])) (ae 3)))))
instance kr:List W->ak->SM W:=cG 4 8
 (aC (aw (aG (aU pH #[ae 1,ae 3]) (af 4)))
 (aC (aw (aG 2[1]! (af 5)))
 (aC (aw (aG (aU kG #[ae 2]) (af 6)))
 (aC (bR (ab (ay fL (aq 6) (dC .none)))
  (bC (dm "Links" "add" aS (ab (ae 0)) (ab #[ae 4,aK #[!"name",ae 1,ae 6],ae 5])))
  (aw az))
 (aC (bR (ab (ay jf 2[0]! (aK #[!"break",!"again"])))
  (aC (aw (aG (bc (gF [none] (bA (aq 3)) (af 0) (ay bp 0[0]! !"while") 0[1]!)) (af 7)))
 (bC (dm "Links" "add" aS (ab (ae 0)) (ab #[ae 4,aK #[!"row",av aI (aq 7) (Di nK !1)],ae 5]))))
  (aw az))
 (aC (bR (ab (ay bp 2[0]! !"return"))
  (bC (dm "Links" "add" aS (ab (ae 0)) (ab #[ae 4,aK #[!"def",ae 1],ae 5])))
  (aw az))
 (bR (ab (ay bp 2[0]! !"call"))
  (bC (dm "Links" "add" aS (ab (ae 0)) (ab #[ae 4,aK #[!"def",2[3]!],ae 5])))
  (aw az))))))))
instance fY:List W->ak->SM W:=cG 3 5
 (aC (aw (aG 2[0]! (af 3)))
 (aC (aw (aG 2[1]! (af 4)))
 (aC (bR (ab (ay jf (aq 3) (aK #[!"if",!"while"])))
  (bC (dm "Links" "add" aS (ab (ae 0)) (ab #[aU bN #[ae 1,2[2]!],aK #[!"row",ae 4],ae 4])))
  (aw az))
 (aC (bR (ab (ay bp (aq 3) !"return"))
  (bC (dm "Links" "add" aS (ab (ae 0)) (ab #[aU bN #[ae 1,2[2]!],aK #[!"back",ae 1],ae 4])))
  (aw az))
 (aC (bR (ab (ay bp (aq 3) !"set"))
  (bC (dm "Links" "add" aS (ab (ae 0)) (ab #[aU bN #[ae 1,2[3]!],aK #[!"name",ae 1,2[2]!],ae 4])))
  (aw az))
 (bR (ab (gL (ay bp (aq 3) !"join") (ay bp 2[3]! !"ahead")))
  (bC (dm "Links" "add" aS (ab (ae 0)) (ab #[bc (bu #[dC .none]),aK #[!"name",ae 1,2[2]!],ae 4])))
  (aw az)))))))
instance kb:DS->ak->SO:=(bC (dm "Links" "add" aS (ab (ae 0)) (ab #[aU bN #[ae 1,ae 7],aK #[!"name",ae 5,ae 6],ae 4])))
instance gG:List W->ak->SM W:=cG 4 8
 (aC (aw (aG 2[1]! (af 4)))
 (aC (aw (aG 2[3]! (af 5)))
 (aC (bC (dm "Links" "add" aS (ab (ae 0)) (ab #[bc (bu #[aK #[!"back",ae 5]]),aK #[!"name",ae 1,2[2]!],ae 4])))
 (eC (ab (wg #[ae 3,2[4]!])) (bG 2 (aD (af 6) (aD (af 7) bJ))) kb))))
instance i3:DS->ak->SO:=(i7 (ab (ae 2)) (ab (ae 3)) (ab (ae 4)))
instance lS:DS->ak->SO:=(aC (bC (bD kr (ab #[ae 1,ae 3,ae 8,ae 9])))
 (aC (bC (bD fY (ab #[ae 1,ae 3,ae 8])))
 (bR (ab (ay bp 8[0]! !"call"))
  (bC (bD gG (bZ (ab (ae 1)) (bZ (ab (ae 3)) (bZ (ab (ae 8)) (bZ (eG (ab (ae 2)) (ab 8[3]!)) kS))))))
  (aw az))))
instance kQ:DS->ak->SO:=(aC (bC (dm "Links" "add" aS (ab (ae 1)) (ab #[bc (bu #[aK #[!"def",ae 3]]),aK #[!"back",ae 3],ae 6])))
 (eC (ab (bA (wG (bF 8) #[ae 5]))) (bG 2 (aD (af 8) (aD (af 9) bJ))) lS))
instance kA:List W->ak->SM W:=cG 1 10
 (aC (cg (yg "Links" fw (ab ag)) (af 1))
 (aC (cg Nv (af 2))
 (aC (eC (ab (bA (ae 0))) (bG 5 (aD (af 3) (aD (af 4) (aD (af 5) (aD (af 6) (aD (af 7) bJ)))))) i3)
 (aC (eC (ab (bA (ae 0))) (bG 5 (aD (af 3) (aD (af 4) (aD (af 5) (aD (af 6) (aD (af 7) bJ)))))) kQ)
 (aw (aN (ae 1)))))))
instance j7:DS->ak->SO:=(bR (gZ true (ab (ae 5)) (ab (ae 2)))
 (aC (i7 (ab (ae 2)) (ab (ae 5)) (ab (aK #[ae 6,ae 4])))
 (dq (ab (ae 3)) (ab (ae 5))))
  (aw az))
instance mE:DS->ak->SO:=(aC (cg (CZ (ab (ae 3))) (af 4))
 (vO 9000 (iW (pi (pc "Links" "behind" (ab (ae 1))) (ab (ae 4)) (eJ (ab ag)))) (bG 2 (aD (af 5) (aD (af 6) bJ))) j7))
instance tG:List W->ak->SM W:=cG 1 7
 (aC (cg (bD kA (ab #[ae 0])) (af 1))
 (aC (cg P1 (af 2))
 (aC (cg (eJ (ab #[dC .none])) (af 3))
 (aC (d9 (uZ (ab (ae 3))) mE 1000000)
 (aw (aN (ae 2)))))))
instance dE:List W->Option W:=cn 1 1
 (aN (jR (nG (mF "int") (ae 0)) (vj (nG (mF "bool") (ae 0)))))
instance cv:List W->Option W:=cn 2 2
 (aF (ci (ay tZ (aq 1) (nG gP (aq 0)))
  (aN (av aI (aq 0) (ae 1)))
  az)
 (aN !0))
instance bK:List W->Option W:=cn 2 4
 (aF (aG (av bB (av lK (!10) !30) !57) (af 2))
 (aF (aG (av lW (av bQ (aq 0) (ae 2)) !271828182845904523536028747135) (af 3))
 (aF (aG (av bB (aq 3) (av lW (av lW (aq 1) (ae 1)) !314159265358979323846264338327)) (af 3))
 (aN (av bQ (av bB (aq 3) !577215664901532860606512090082) (ae 2))))))
instance ge:DS->Option dJ:=(aF (aG (av bB (aq 6) (av aI (aq 1) (av bQ (aq 5) !26))) (af 6))
 (aG (av cE (aq 5) !26) (af 5)))
instance gf:DS->Option dJ:=(aF (aG (av aI (aq 1) (av bQ (av bB (aq 5) (av lW (!5) (ae 7))) !26)) (af 9))
 (aF (aG (av bB (av bB (sO (ae 6) dD (eW (ae 4))) (ae 9)) (sO (ae 6) (eW (av bB (aq 4) !1)) (eW (ae 3)))) (af 10))
 (aF (ci (ay bp (av bQ (av cE (aq 5) !26) !4) !1)
  (aG (sO (ae 6) dD (eW (av gSub' (!8) (ae 7)))) (af 10))
  az)
 (aF (ci (kj (ay jf (aq 10) (aq 2)) (ay bp (aq 10) !"main"))
  (aG (av uh (!"q") (nG gP (aq 10))) (af 10))
  az)
 (eU 8 (ae 10))))))
instance iH:List W->Option W:=cn 1 11
 (aF (aG (!"abcdefghijklmnopqrstuvwxyz") (af 1))
 (aF (aG (bc (bu #[!"def",!"set",!"put",!"tell",!"if",!"else",!"while",!"end",!"break",!"again",!"call",!"return"])) (af 2))
 (aF (aG (av bB (aq 2) (bc (bu #[!"stop",!"join",!"meet",!"lane",!"lanes",!"mine",!"box",!"div",!"rem",!"sum",!"most"]))) (af 2))
 (aF (aG (av bB (aq 2) (bc (bu #[!"least",!"ahead"]))) (af 2))
 (aF (aG (av bB (!1) (av bQ (aq 0) !8)) (af 3))
 (aF (aG (av bQ (av cE (aq 0) !8) (ae 3)) (af 4))
 (aF (aG (av cE (aq 0) !64) (af 5))
 (aF (aG (!"") (af 6))
 (aF (gY (jW #[!8]) (af 7) ge)
 (aF (iS 8 (bu ag))
 (aF (gY (jW #[!6]) (af 7) gf)
 (mI 8 (aN (ae 8))))))))))))))
instance cH:List W->Option W:=cn 3 5
 (aF (aG (av bQ (aq 0) !24) (af 3))
 (aF (aG (av cE (aq 0) !24) (af 4))
 (aF (ci (ay MW (aq 3) (av gSub' (!24) (ae 2)))
  (aN (aK #[av aI (bc (bu #[aK #[!"lane"],aK #[!"mine"]])) (av bQ (aq 4) !2),av cE (aq 4) !2]))
  az)
 (aF (ci (ay tZ (aq 3) !11)
  (aN (aK #[aK #[!"name",av aI (aq 1) (av bQ (aq 4) !6)],av cE (aq 4) !6]))
  az)
 (aF (ci (ay bp (aq 3) !11)
  (aN (aK #[aK #[!"lanes"],ae 4]))
  az)
 (aN (aK #[aK #[!"num",av gSub' (av bQ (aq 4) !1999999999) !999999999],av cE (aq 4) !199])))))))
instance f6:List W->Option W:=cn 3 6
 (aF (aG (aU cH #[av cE (aq 0) !5,ae 1,ae 2]) (bG 2 (aD (af 3) (aD (af 4) bJ))))
 (aF (ci (ay bp (av bQ (aq 0) !5) !1)
  (aN (aK #[aK #[!"box",ae 3],ae 4]))
  az)
 (aF (ci (ay bp (av bQ (aq 0) !5) !2)
  (aF (aG (aU cH #[ae 4,ae 1,ae 2]) (bG 2 (aD (af 5) (aD (af 4) bJ))))
 (aN (aK #[aK #[av aI (bc (bu #[!"+",!"*",!"<"])) (av bQ (aq 4) !3),ae 3,ae 5],av cE (aq 4) !3])))
  az)
 (aN (aK #[ae 3,ae 4])))))
instance cP:DS->Option dJ:=(aF (ci (ay tZ (aq 5) (av lK (!10) !11))
 (aG (aU bK #[av bB (aq 0) (ae 6),av bB (aq 6) !5]) (af 5))
 az)
 (aF (aG (av bQ (aq 5) !4) (af 7))
 (aF (aG (av cE (aq 5) !4) (af 5))
 (aF (ci (ay bp (aq 7) !0)
  (aF (aG (aK #[!"box",ae 4]) (af 4))
 kM)
  az)
 (aF (ci (gL (ay bp (aq 3) !6) (ay bp (aq 6) !0))
  (aG (aU cH #[ae 5,ae 1,ae 2]) (bG 2 (aD (af 8) (aD (af 5) bJ))))
  (aG (aU f6 #[ae 5,ae 1,ae 2]) (bG 2 (aD (af 8) (aD (af 5) bJ)))))
 (aF (aG (av aI (bc (bu #[!"+",!"-",!"*",!"div",!"rem",!"<",!"="])) (av bQ (aq 5) !7)) (af 9))
 (aF (aG (av cE (aq 5) !7) (af 5))
 (ci (ay bp (aq 7) !1)
  (aG (aK #[ae 9,ae 4,ae 8]) (af 4))
  (aG (aK #[ae 9,ae 8,ae 4]) (af 4))))))))))
instance bf:List W->Option W:=cn 3 10
 (aF (aG (av aI (bc (bu #[!0,!0,!0,!1,!1,!2,!6])) (av bQ (aq 0) !7)) (af 3))
 (aF (aG (aU cH #[av cE (aq 0) !7,ae 1,ae 2]) (bG 2 (aD (af 4) (aD (af 5) bJ))))
 (aF (gY (jW #[ae 3]) (af 6) cP)
 (aN (ae 4)))))
instance kh:DS->Option dJ:=(aF (eU 8 (aU bf #[av bB (av lW (av bQ (aq 0) !1000) !7) (av bQ (av cE (aq 0) !1000) !5),ae 2,ae 4]))
 (aG (av cE (aq 0) (av lK (!10) !4)) (af 0)))
instance jx:List W->Option W:=cn 5 10
 (aF (aG (bc (gF [none] (bA (aq 3)) (af 0) (ay rS 0[0]! !"main") (ae 0))) (af 5))
 (aF (ci (ay bp (aq 5) (bc (bu ag)))
  (aN (aK #[!"tell",aU bf #[ae 0,ae 2,ae 4]]))
  az)
 (aF (aG (av aI (aq 5) (av bQ (aq 0) (nG gP (aq 5)))) (bG 2 (aD (af 6) (aD (af 7) bJ))))
 (aF (aG (av cE (aq 0) !3) (af 0))
 (aF (iS 8 (bu ag))
 (aF (gY (jW #[nG gP (aq 7)]) (af 9) kh)
 (mI 8 (aN (aK #[!"call",ae 1,ae 6,ae 8])))))))))
instance m7:List W->Option W:=cn 5 8
 (aF (aG (av bQ (aq 0) !24) (af 5))
 (aF (aG (av aI (aq 1) (av bQ (av cE (aq 0) !24) !6)) (af 6))
 (aF (aG (av cE (aq 0) !144) (af 7))
 (aF (ci (ay tZ (aq 5) !5)
  (aN (aK #[!"set",ae 6,aU bf #[ae 7,ae 1,ae 3]]))
  az)
 (aF (ci (ay tZ (aq 5) !9)
  (aN (aK #[av aI (bc (bu #[!"if",!"if",!"while",!"while"])) (av gSub' (aq 5) !5),aU bf #[ae 7,ae 1,ae 3]]))
  az)
 (aF (ci (ay tZ (aq 5) !13)
  (aN (aK #[av aI (bc (bu #[!"end",!"end",!"end",!"else"])) (av gSub' (aq 5) !9)]))
  az)
 (aF (ci (ay tZ (aq 5) !17)
  (aN (aK #[av aI (bc (bu #[!"break",!"again",!"meet",!"stop"])) (av gSub' (aq 5) !13)]))
  az)
 (aF (ci (ay tZ (aq 5) !19)
  (aN (aK #[av aI (bc (bu #[!"tell",!"return"])) (av gSub' (aq 5) !17),aU bf #[ae 7,ae 1,ae 3]]))
  az)
 (aF (ci (ay bp (aq 5) !19)
  (aF (aG (aU bf #[av cE (aq 7) (av lK (!10) !12),ae 1,ae 3]) (af 0))
 (aN (aK #[!"put",aU bf #[av bQ (aq 7) (av lK (!10) !12),ae 1,ae 3],ae 0])))
  az)
 (aF (ci (ay bp (aq 5) !20)
  (aN (aK #[!"join",ae 6,av aI (aq 4) (av bQ (aq 7) (nG gP (aq 4))),aU bf #[av cE (aq 7) !4,ae 1,ae 3]]))
  az)
 (aN (aU jx #[ae 7,ae 6,ae 1,ae 2,ae 3]))))))))))))
instance fh:List W->ak->SM W:=cG 1 1
 (aC (bR (Ex false (sIx (ab (ae 0)) (ab !0)) (ab !"if"))
  (dR (z9 (bZ (ab !"if") (bZ (sIx (ab (ae 0)) (ab !1)) (bZ (sIx (ab (ae 0)) (ab !2)) (bZ (sIx (ab (ae 0)) (ab !4)) (bZ (sIx (ab (ae 0)) (ab !5)) kS)))))))
  (aw az))
 (dR (z9 (bZ (ab !"while") (bZ (sIx (ab (ae 0)) (ab !1)) (bZ (sIx (ab (ae 0)) (ab !2)) (bZ (sIx (ab (ae 0)) (ab !4)) kS)))))))
instance bH:List W->ak->SM W:=cG 3 3
 (aC (bR (ab (kj (ay bp 0[0]! !"break") (ay bp 0[0]! !"again")))
  (dR (MX Jl (kx 9000 [none] (iW (ab (ae 1))) (af 0) (ab jj) (sB (Ex false (sIx (ab (ae 0)) (ab !0)) (ab !"while"))))))
  (aw az))
 (aC (bR (ab (ay bp 0[0]! !"else"))
  (dR (qO (uP true (ab (ae 1)) (ab (bc (bu ag)))) (qO (sB (Ex false (sIx (sIx (ab (ae 1)) (ab (Di nK !1))) (ab !0)) (ab !"if"))) (sB (ky p7 (sIx (sIx (ab (ae 1)) (ab (Di nK !1))) (ab !5)) (ab (dC .none)))))))
  (aw az))
 (aC (bR (ab (ay bp 0[0]! !"end"))
  (dR (uP true (ab (ae 1)) (ab (bc (bu ag)))))
  (aw az))
 (aC (bR (ab (kj (ay bp 0[0]! !"if") (ay bp 0[0]! !"while")))
  (dR (sB (ky tZ (D5 (ab (ae 1))) (ab !5))))
  (aw az))
 (aw (aN (Aj (dB (ay rS 0[0]! !"return")) (vj (ae 2)))))))))
instance dz:DS->ak->SO:=(aC (bR (jJ (jM (bD bH (ab #[ae 6,ae 5,ae 2]))))
 (aw kM)
 (aw az))
 (aC (aw (aG (av bB (aq 1) !1) (af 1)))
 (bR (ab (ay bp 6[0]! !"end"))
  (aC (cg (CZ (ab (ae 5))) (af 7))
 (aC (cg (sIx (ab (ae 7)) (ab !3)) (af 4))
 (dq (ab (ae 4)) (bD fh (ab #[ae 7])))))
  (bR (ab (ay bp 6[0]! !"else"))
  (aC (cg (sIx (ab (ae 5)) (ab (Di nK !1))) (af 7))
 (aC (rA (ab (ae 7)) (ab !5) (eJ (ab ag)))
 (cg (sIx (ab (ae 7)) (ab !5)) (af 4))))
  (bR (ab (kj (ay bp 6[0]! !"if") (ay bp 6[0]! !"while")))
  (aC (cg (eJ (bZ (ab 6[0]!) (bZ (ab (ae 1)) (bZ (ab 6[1]!) (bZ (ab (ae 4)) (bZ (eJ (ab ag)) (bZ (ab (dC .none)) kS))))))) (af 7))
 (aC (dq (ab (ae 5)) (ab (ae 7)))
 (cg (sIx (ab (ae 7)) (ab !4)) (af 4))))
  (dq (ab (ae 4)) (ab (av bB (aK #[6[0]!,ae 1]) (nQ (ae 6) (eW !1) dD)))))))))
instance jt:List W->ak->SM W:=cG 3 8
 (aC (cg (eJ (ab ag)) (af 3))
 (aC (aw (aG (ae 3) (af 4)))
 (aC (cg (eJ (ab ag)) (af 5))
 (aC (eC (mY (yG (ab (ae 0)) (ab (bc (EX (bu #[aK #[!"end"]]) !5))))) (af 6) dz)
 (aw (aN (aK #[ae 3,av bB (aq 1) !1])))))))
instance j0:DS->Option dJ:=(aF (aG (av cE (av cE (aq 0) !64) (av aI (bc (bu #[!1,!42,!1764,!74088])) (ae 5))) (af 6))
 (aF (aG (av aI (bc (bu #[!0,!0,!1,!1,!2,!3,!6])) (av bQ (aq 6) !7)) (af 7))
 (eU 4 (aK #[av aI (aq 1) (ae 5),bc (gF [some 2,some 6,none] (jW #[ae 7]) (af 2) jj (av aI (aq 0) (av bQ (av bB (av cE (aq 1) !7) (ae 2)) !6)))]))))
instance iF:List W->Option W:=cn 3 8
 (aF (aG (av bB (!1) (av bQ (aq 0) !4)) (af 3))
 (aF (iS 4 (bu ag))
 (aF (gY (jW #[ae 3]) (af 5) j0)
 (aF (sX 4 (av bQ (av cE (aq 0) !4) (ae 3)) (aK #[!"main",bc (bu ag)]))
 (mI 4 (aN (ae 4)))))))
instance cT:List W->Option W:=cn 2 2
 (aF (ci (ay bp (av bQ (av cE (aq 0) (av lK (!10) !9)) !4) !1)
  (aN (av bB (bc (D3 (aq 1) dD (eW !5))) (bc (bu #[!"main"]))))
  az)
 (aN (bc (iE (aq 1)))))
instance hZ:DS->ak->SO:=(aC (aw (aG (aU bK #[ae 10,av bB (aq 9) !2]) (af 11)))
 (dq (ab (av aI (aq 8) (av bQ (aq 11) (nG gP (aq 7))))) (ab (aU m7 #[av cE (aq 11) (nG gP (aq 7)),ae 6,ae 7,ae 2,ae 3]))))
instance ic:DS->ak->SO:=(aC (cg (bD jt (ab #[av aI (aq 8) (ae 9),av bB (aq 13) !1,dB (ay bp 14[0]! !"main")])) (bG 2 (aD (af 15) (aD (af 16) bJ))))
 (aC (dq (ab (ae 12)) (ab (aK #[14[0]!,bc (iE 14[1]!),ae 15,av bB (aq 13) !1,ae 16])))
 (aw (aG (ae 16) (af 13)))))
instance gj:List W->ak->SM W:=cG 5 17
 (aC (aw (aG (aU bK #[aU cv #[ae 0,!0],!0]) (af 5)))
 (aC (aw (aG (aU cT #[ae 5,ae 1]) (af 6)))
 (aC (aw (aG (aU iF #[ae 5,ae 1,ae 6]) (af 7)))
 (aC (cg (qm [none] (ab (bA (ae 7))) (af 0) (ab jj) (eJ (ab ag))) (af 8))
 (aC (eC (ab (yK #[bc (D3 (aq 0) (eW !2) (eW (ae 4)))])) (bG 2 (aD (af 9) (aD (af 10) bJ))) hZ)
 (aC (cg (eJ (ab ag)) (af 12))
 (aC (aw (aG (!0) (af 13)))
 (aC (eC (ab (yK #[ae 7])) (bG 2 (aD (af 9) (aD (af 14) bJ))) ic)
 (aw (aN (ae 12)))))))))))
instance fZ:List W->Option W:=AY gj
instance bO (pf:List W->Option W):DS->Option dJ:=(aF (eU 3 (aK #[ae 4,ae 1,ae 2]))
 (aF (ci (ay bp 4[0]! !"if")
  (aF (iS 3 (nB (aq 3) (aU pf #[4[3]!,av bB (aq 1) (bc (bu #[4[1]!])),ae 2])))
 (ci (ay fL 4[4]! (dC .none))
  (iS 3 (nB (aq 3) (aU pf #[4[4]!,av bB (aq 1) (bc (bu #[4[1]!])),ae 2])))
  az))
  az)
 (ci (ay bp 4[0]! !"while")
  (iS 3 (nB (aq 3) (aU pf #[4[3]!,av bB (aq 1) (bc (bu #[4[1]!])),4[1]!])))
  az)))
instance aO:Nat->List W->Option W
 | 0,_=>none
 | n+1,ds=>cn 3 5
  (aF (iS 3 (bu ag))
  (aF (gY (bA (ae 0)) (af 4) (bO (aO n)))
  (mI 3 (aN (ae 3))))) ds
instance fO:List W->Option W:=cn 1 3
 (aF (aG (aU bK #[aU cv #[ae 0,!0],!77]) (af 1))
 (aF (aG (aU iH #[aU bK #[aU cv #[ae 0,!1],!1]]) (af 2))
 (aN (aU fZ #[ae 0,ae 2,av aI (bc (bu #[!0,!1,!3,!12])) (av bQ (aq 1) !4),bc (bu #[!"sum",!"most",!"least",!"ahead"]),!56]))))
instance fG (pf:List W->ak->SM W):DS->ak->SO:=(cg (EY bB (ab (ae 3)) (bD pf (ab #[ae 0,ae 1,ae 4]))) (af 3))
instance aW:Nat->List W->ak->SM W
 | 0,_,_=>none
 | n+1,ds,S=>cG 3 5
  (aC (aw (ci (kj (ay bp 2[0]! !"lane") (ay bp 2[0]! !"mine"))
   (aN (bc (bu #[dC .none])))
   az))
  (aC (bR (ab (ay bp 2[0]! !"name"))
   (dR (qm [some 0,none] (ab (bA (bc (bu #[aK #[!"name",ae 1,2[1]!]])))) (af 1) (gZ false (ab (ae 1)) (ab (ae 0))) (ab (ae 1))))
   (aw az))
  (aC (aw (aG (bc (bu ag)) (af 3)))
  (aC (bR (ab (ay rS 2[0]! !"num"))
   (eC (ab (bA (nQ (ae 2) (eW !1) dD))) (af 4) (fG (aW n)))
   (aw az))
  (aw (aN (ae 3))))))) ds S
instance d8:List W->ak->SM W:=cG 3 4
 (aC (aw (aG (av bB (bc (bu #[aK #[!"def",ae 1]])) (bc (gF [none] (bA (aq 2)) (af 0) jj (aK #[!"row",ae 0])))) (af 3)))
 (dR (qm [some 0,none] (ab (bA (ae 3))) (af 1) (gZ false (ab (ae 1)) (ab (ae 0))) (ab (ae 1)))))
instance dG:DS->ak->SO:=(bR (ab (ay bp (aq 9) 1[2]!))
 (cg (EY bB (ab (ae 8)) (bD (aW 9) (ab #[ae 0,ae 2,ae 10]))) (af 8))
 (aw az))
instance eQ:List W->ak->SM W:=cG 5 11
 (aC (aw (aG (ae 3) (bG 3 (aD (af 5) (aD (af 6) (aD (af 7) bJ))))))
 (aC (aw (aG (bc (bu ag)) (af 8)))
 (aC (bR (ab (gL (ay bp 5[0]! !"call") (ay bp 5[3]! 1[1]!)))
  (eC (ab (wg #[ae 4,5[4]!])) (bG 2 (aD (af 9) (aD (af 10) bJ))) dG)
  (aw az))
 (aC (aw (ci (kj (ay rS (aq 2) 1[1]!) (kj (ay fj 5[0]! (aK #[!"set",!"call",!"join"])) (ay rS 5[2]! 1[2]!)))
  (aN (ae 8))
  az))
 (aC (cg (EY bB (ab (ae 8)) (bD d8 (ab #[ae 0,ae 2,ae 6]))) (af 8))
 (aC (bR (ab (ay bp 5[0]! !"set"))
  (dR (EY bB (ab (ae 8)) (bD (aW 9) (ab #[ae 0,ae 2,5[3]!]))))
  (aw az))
 (aC (bR (uu (ab (ay bp 5[0]! !"call")) (gZ false (ab (aK #[!"back",5[3]!])) (ab (ae 0))))
  (aw (aN (av bB (aq 8) (bc (bu #[aK #[!"back",5[3]!]])))))
  (aw az))
 (aC (aw (ci (gL (ay bp 5[0]! !"join") (ay bp 5[3]! !"ahead"))
  (aN (av bB (aq 8) (bc (bu #[dC .none]))))
  az))
 (aw (aN (ae 8)))))))))))
instance bL:List W->ak->SM W:=cG 5 8
 (aC (aw (aG (ae 3) (bG 3 (aD (af 5) (aD (af 6) (aD (af 7) bJ))))))
 (aC (bR (ab (ay bp 1[0]! !"name"))
  (dR (bD eQ (bZ (ab (ae 0)) (bZ (ab (ae 1)) (bZ (ab (ae 2)) (bZ (ab (ae 3)) (bZ (eG (ab (ae 4)) (ab 1[1]!)) kS)))))))
  (aw az))
 (aC (bR (ab (ay bp 1[0]! !"def"))
  (aC (bR (ab (kj (gL (ay bp 5[0]! !"return") (ay bp (aq 2) 1[1]!)) (gL (ay bp 5[0]! !"call") (ay bp 5[3]! 1[1]!))))
  (dR (bD d8 (ab #[ae 0,ae 2,ae 6])))
  (aw az))
 (aw (aN (bc (bu ag)))))
  (aw az))
 (aC (bR (ab (ay bp 1[0]! !"back"))
  (aC (bR (ab (gL (ay bp 5[0]! !"return") (ay bp (aq 2) 1[1]!)))
  (dR (bD (aW 9) (ab #[ae 0,ae 2,5[2]!])))
  (aw az))
 (aw (aN (bc (bu ag)))))
  (aw az))
 (aC (bR (ab (gL (kj (ay bp 5[0]! !"if") (ay bp 5[0]! !"while")) (ay bp 5[1]! 1[1]!)))
  (dR (bD (aW 9) (ab #[ae 0,ae 2,5[2]!])))
  (aw az))
 (aC (bR (ab (gL (kj (ay bp 5[0]! !"break") (ay bp 5[0]! !"again")) (ay bp (aq 7) 1[1]!)))
  (dR (bD d8 (ab #[ae 0,ae 2,ae 6])))
  (aw az))
 (aw (aN (bc (bu ag))))))))))
instance cC:List W->ak->SM W:=cG 3 3
 (aC (aw (ci (kj (um (ve (nG (mQ "tuple") (ae 0)))) (kj (ay tZ (nG gP (aq 0)) !2) (um (ve (nG (mF "str") 0[0]!)))))
  (aN (dC (.bool false)))
  az))
 (aC (aw (ci (ay bp 0[0]! !"row")
  (aN (jR (dB (ay bp (nG gP (aq 0)) !2)) (jR (aU dE #[0[1]!]) (dB (ay jf 0[1]! (aq 2))))))
  az))
 (aC (bR (GX (ab (um (ve (nG (mF "str") 0[1]!)))) (gZ true (ab 0[1]!) (ab (ae 1))))
  (aw (aN (dC (.bool false))))
  (aw az))
 (aC (aw (ci (ay bp 0[0]! !"name")
  (aN (jR (dB (ay bp (nG gP (aq 0)) !3)) (nG (mF "str") 0[2]!)))
  az))
 (aw (aN (jR (Aj (dB (ay bp 0[0]! !"def")) (dB (ay bp 0[0]! !"back"))) (dB (ay bp (nG gP (aq 0)) !2)))))))))
instance b8:DS->ak->SO:=(bR (ab (gL (ay bp (aq 1) (aK #[!"back",6[0]!])) (ay bp (aq 5) (aK #[6[3]!,aK #[!"def",6[0]!]]))))
 (dR (B4 (ab (aK #[!"def",6[0]!])) (ab (ae 0))))
 (aw az))
instance bI:List W->ak->SM W:=cG 5 9
 (aC (cg (eG (ab (ae 0)) (ab (ae 1))) (af 5))
 (aC (aw (ci (kj (um (ve (nG (mQ "tuple") (ae 5)))) (kj (ay rS (nG gP (aq 5)) !2) (um (ve (aU dE #[5[0]!])))))
  (aN (dC (.bool false)))
  az))
 (aC (eC (ab (bA (ae 2))) (af 6) b8)
 (aC (bR (gZ true (ab 5[0]!) (ab (ae 4)))
  (aw (aN (dC (.bool false))))
  (aw az))
 (aC (cg (eG (ab (ae 4)) (ab 5[0]!)) (bG 2 (aD (af 7) (aD (af 8) bJ))))
 (dR (sB (ky kR (ab 5[1]!) (bD bL (ab #[ae 0,ae 1,ae 7,ae 8,ae 3]))))))))))
instance dM:DS->ak->SO:=(aC (cg (sIx (eG (ab (ae 0)) (ab (ae 1))) (ab !1)) (af 1))
 (aw (ci (ay p7 (aq 1) (dC .none))
  (aN (dC (.bool true)))
  az)))
instance d6:List W->ak->SM W:=cG 2 3
 (aC (eC (rD (bZ (yt (ab (ae 0))) kS)) (af 2) dM)
 (aw (aN (dC (.bool false)))))
instance yv:DS->ak->SO:=(aC (aw (aG 6[0]! (af 7)))
 (i7 (ab (ae 4)) (ab 7[1]!) (ab (aK #[5[0]!,ae 6]))))
instance x6:DS->ak->SO:=(aC (i7 (ab (ae 3)) (ab 5[0]!) (ab 5[1]!))
 (eC (ab (bA (aU (aO 7) #[5[2]!,bc (bu ag),dC .none]))) (af 6) yv))
instance x5:DS->ak->SO:=(bR (GX (jJ (jM (bD cC (ab #[ae 9,ae 3,ae 8])))) (jJ (jM (bD bI (ab #[ae 2,ae 9,ae 1,ae 3,ae 4])))))
 (aw (aN (dC (.bool false))))
 (aw az))
instance xL:DS->ak->SO:=(bR (jJ (jM (bD d6 (ab #[ae 2,ae 9]))))
 (aw (aN (dC (.bool false))))
 (aw az))
instance xw:List W->ak->SM W:=cG 1 10
 (aC (aw (aG (aU fO #[ae 0]) (af 1)))
 (aC (cg (bD tG (ab #[aU fO #[ae 0]])) (af 2))
 (aC (bR (jJ (jM (Bc (ab (ae 2)))))
  (aw (aN (dC (.bool false))))
  (aw az))
 (aC (cg Nv (af 3))
 (aC (cg Nv (af 4))
 (aC (eC (ab (bA (ae 1))) (af 5) x6)
 (aC (cg (kx 9000 [some 4,none] (lP (ab (ae 4))) (af 1) (ky jf (sIx (sIx (sIx (eG (ab (ae 0)) (ab (ae 1))) (ab !1)) (ab !0)) (ab !0)) (ab (aK #[!"if",!"while"]))) (ab (ae 1))) (af 8))
 (aC (eC (mY (mw (ab (ae 2)))) (af 9) x5)
 (aC (eC (mY (mw (ab (ae 2)))) (af 9) xL)
 (aw (aN (dC (.bool true)))))))))))))
instance tI (K:Frag):Sp:=λ vs H Q _=>∃ (a:Addr) (ns:List Int),vs=[.ref a]/\cR K H a (ns.map V.int)/\ns.length<=63/\∀ H',Q (.bl true) H'
section
variable (P:Program) (w:World) (K:Frag) (mg:Θ) (base:Heap) (cl:Str->Addr)
noncomputable abbrev mV:Prop:=iY P w K mg base "bodies_of" ["statement"] [] 1 (jX K jm)
noncomputable abbrev uQ:Prop:=iY P w K mg base "placed" ["body", "around"] [.none] 9 (jX K (bF 8))
noncomputable abbrev pP:Prop:=iY P w K mg base "given_by" ["statement"] [] 1 (jX K kG)
noncomputable abbrev mS:Prop:=iY P w K mg base "leaves_of" ["expression"] [] 9 (jX K (b7 9))
noncomputable abbrev gX:Prop:=Ce (λ f fd=>Mk K (cl "Links") f/\fU K fd ["self"] []) P w K mg base 1 ["self"] (kP K cl fw)
noncomputable abbrev fA:Prop:=Ce (λ f fd=>AK K (cl "Links") "add" f/\fU K fd ["self", "causes", "key", "line"] []) P w K mg base 1 ["self", "causes", "key", "line"] (kP K cl aS)
noncomputable abbrev uw:Prop:=iY P w K mg base "way_of" ["name", "around"] [] 1 (jX K pH)
noncomputable abbrev jz:Prop:=iY P w K mg base "causes_of" ["name", "expression"] [] 10 (jX K bN)
noncomputable abbrev oZ:Prop:=iY P w K mg base "link_way" ["links", "name", "statement", "around"] [] 2 (kP K cl kr)
noncomputable abbrev je:Prop:=iY P w K mg base "link_numbers" ["links", "name", "statement"] [] 11 (kP K cl fY)
noncomputable abbrev mH:Prop:=iY P w K mg base "link_call" ["links", "name", "statement", "params"] [] 11 (kP K cl gG)
noncomputable abbrev oY:Prop:=iY P w K mg base "links_of" ["program"] [] 12 (kP K cl kA)
noncomputable abbrev yP:Prop:=iY P w K mg base "marks" ["program"] [] 13 (kP K cl tG)
noncomputable abbrev iy:Prop:=iY P w K mg base "_law_whole" ["_law_found"] [] 1 (jX K dE)
noncomputable abbrev fS:Prop:=iY P w K mg base "_law_cell_at" ["_law_script", "_law_k"] [] 1 (jX K cv)
noncomputable abbrev f8:Prop:=iY P w K mg base "_law_spread" ["_law_cell", "_law_k"] [] 1 (jX K bK)
noncomputable abbrev kX:Prop:=iY P w K mg base "_law_names" ["_law_number"] [] 1 (jX K iH)
noncomputable abbrev jv:Prop:=iY P w K mg base "_law_leaf" ["_law_number", "_law_names_here", "_law_own"] [] 1 (jX K cH)
noncomputable abbrev jU:Prop:=iY P w K mg base "_law_beside" ["_law_number", "_law_names_here", "_law_own"] [] 2 (jX K f6)
noncomputable abbrev eL:Prop:=iY P w K mg base "_law_expression" ["_law_number", "_law_names_here", "_law_own"] [] 3 (jX K bf)
noncomputable abbrev mK:Prop:=iY P w K mg base "_law_call" ["_law_rest", "_law_x", "_law_names_here", "_law_rooms_here", "_law_own"] [] 4 (jX K jx)
noncomputable abbrev qu:Prop:=iY P w K mg base "_law_op" ["_law_number", "_law_names_here", "_law_rooms_here", "_law_own", "_law_words"] [] 5 (jX K m7)
noncomputable abbrev gU:Prop:=iY P w K mg base "_law_closed_up" ["_law_frame"] [] 1 (kP K cl fh)
noncomputable abbrev hJ:Prop:=iY P w K mg base "_law_may_stand" ["_law_op_here", "_law_pile", "_law_main"] [] 1 (kP K cl bH)
noncomputable abbrev mR:Prop:=iY P w K mg base "_law_laid" ["_law_ops", "_law_line", "_law_main"] [] 2 (kP K cl jt)
noncomputable abbrev l6:Prop:=iY P w K mg base "_law_rooms" ["_law_head", "_law_names_here", "_law_variables_here"] [] 1 (jX K iF)
noncomputable abbrev ip:Prop:=iY P w K mg base "_law_variables" ["_law_head", "_law_names_here"] [] 1 (jX K cT)
noncomputable abbrev iX:Prop:=iY P w K mg base "_law_program" ["_law_script", "_law_names_here", "_law_own", "_law_words", "_law_most"] [] 6 (jX K fZ)
noncomputable abbrev l9:Prop:=iY P w K mg base "_law_spots" ["_law_body", "_law_rounds", "_law_loop"] [] 7 (jX K (aO 7))
noncomputable abbrev me:Prop:=iY P w K mg base "_law_drawn" ["_law_script"] [] 7 (jX K fO)
noncomputable abbrev gK:Prop:=iY P w K mg base "_law_whence" ["_law_found", "_law_name", "_law_told"] [] 9 (kP K cl (aW 9))
noncomputable abbrev ju:Prop:=iY P w K mg base "_law_ways" ["_law_found", "_law_name", "_law_rounds"] [] 1 (kP K cl d8)
noncomputable abbrev g8:Prop:=iY P w K mg base "_law_gives_name" ["_law_found", "_law_key", "_law_name", "_law_spot", "_law_params"] [] 10 (kP K cl eQ)
noncomputable abbrev lG:Prop:=iY P w K mg base "_law_gives" ["_law_found", "_law_key", "_law_name", "_law_spot", "_law_rooms_here"] [] 11 (kP K cl bL)
noncomputable abbrev iQ:Prop:=iY P w K mg base "_law_key_good" ["_law_key", "_law_rooms_here", "_law_tests"] [] 2 (kP K cl cC)
noncomputable abbrev fX:Prop:=iY P w K mg base "_law_reason_good" ["_law_found", "_law_key", "_law_program_here", "_law_rooms_here", "_law_lines"] [] 12 (kP K cl bI)
noncomputable abbrev ni:Prop:=iY P w K mg base "_law_ends" ["_law_found", "_law_key"] [] 1 (kP K cl d6)
end
@[inline] def rlX (s:String) (t:Lean.TSyntax `tactic):Lean.MacroM (Lean.TSyntax `tactic):=(s.splitOn ";").foldlM (λ t g=>do
 let l:=g.splitOn " ";let u <-l.tail.foldlM (λ u n=>do
  let q:=n.splitOn ":";let i:=Lean.mkIdent ((if n.front.isDigit||n.front=='<' then n.drop 1 else q.head!).toName);let a <-if n.front.isDigit||n.front=='<' then pure (Array.replicate (n.front.toNat-48) (<- `(?_))) else (q.getLast!.toList.toArray.mapM λ c=>if c=='r' then `(rfl) else if c=='a' then `(by assumption) else if c=='d' then `(by first | decide | exact Nat.le_refl _ | exact Nat.le_add_right _ _) else if c=='k' then `(by decide +kernel) else `(?_))
  let v <-if q.tail.isEmpty && !n.front.isDigit&&n.front != '<' then `(tactic| apply $i) else `(tactic| refine $(Lean.Syntax.mkApp i a))
  `(tactic| first | $v:tactic | $u:tactic)) (<- `(tactic| fail))
 `(tactic| first | (show $(Lean.mkIdent l.head!.toName) ..;$u:tactic) | $t:tactic)) t
local macro_rules | `(tactic| left)=>do
 let t <-rlX "Kg BG CW Fs;ST EI Lq HD Hb LM GY zi DQ Ju Hj;LX Mn D7;MS DI.k EW;EQ uN vb;DI IX E4 Em Cs;DT Jb Ji IJ CG L7 Bh;DR ER EN IL Hf Jn Bf JO JR y7;DG JA xV;DB BL Kp Ib HC Fm GG Gx Mh Mp;K8 Bb JH;SA Dz F3 Ir;Lv Ca Eo;pz xS ku q5 wH xu vS AS sC Bv oC uO y8;DA sN sx;DK DE.dk wt;nU EZ BX xG xZ vt xQ qq Cg Av xJ FQ CV By;DO IA Ef Iu Fc wp Jx;SE Fb B5 Fh EA F4 C2 Mi JF A2 KU Au Lr Er La E3 HX Ie Fx HZ JM Jj K1 Ia E2 Fv Eu L5 MC Ey;DE DO.de Hq Lo CN Jo Ig M5 Aq IW LD Jh y3 Io CT Cf tq KL pD HQ GZ DP" (<- `(tactic| first | assumption | decide));let u <-rlX "nU BX xG xZ vt xQ qq Cg Av xJ FQ CV By;pz xS ku q5 wH xu vS AS sC Bv oC" (<- `(tactic| first | exact E0 | decide))
 `(tactic| repeat' first | with_reducible (show (_:Prop);first | intro _ | $t:tactic) | $u:tactic)
local macro_rules | `(tactic| right)=>do
 let t <-rlX "And 2And.intro;oK 1IM;kJ 0GU;PassesOwn 0PassesOwn.never;PC 3NF 3Kb;ET 1Lg 0Oa 1Nh;Nk 0NO;xb 0Mb 1K6;PW 1Np 2OM 1OK 2PU;bV 7FT;PO 0N2 1Nb;PI 1PD 6Nz 5Kw 4Km 2MQ;gy 0OT 0P0 0Ny 1Dl 1MP 2L0 2NZ 0NJ 0Nt 2Ow 0MZ 1Hw 0Ot 0OX 0PM 1EJ 0LO 0Nl 2OA;Ka 0Nn 3Le;PT 1PW.pt 3NA 2Oy 2OC 1On 4MT;PG 5NC 4N3;PS 5Hu 3LS 6NB 0FV 5N7 6NS 2Ng 3Pe 1Os 6Ol <AX;Cu 1N0;vJ 0Ni 1No 2LG;PE 2Q5 2Qa 2Qs 2PV 2Qm 6P8 5PR 8Po 6Pq 9P6 6Px 6Om 1OD 2Pn 5K2 0K4 4MY 0Mq 5KH 0M8 0Pc 2OE 3N5 1Oi 3LC 2OF 2Pt 7Lk 4M1 0NQ 4MV 1Nm 1Nq 4Pm 3Pf 0NY 4O5 0OQ;PA 0Og 3Nr" (<- `(tactic| intro _));let u <-rlX "Or Lz:r Or.inr:r Or.inl:r;Ja Or.inr:r Or.inl:r;N8 Lz:r Or.inl:r;MD O2:aad;Exists NV:aad;M2 M2.mk:rrrr;PE Ao E1 Ff:rard;fF fF.mono:a?;eB eB.mono:ad;Paired Paired.nil:;gC gC.mk:rrrkrkk;QB 0Pd 1NK 1NL 2Pi 0O9 1Ph;QM 0Pb 0PQ 0Ps;gy 2Ow 2OA;PS 3O6;vJ 2LG 1No" (<- `(tactic| first | assumption | rfl | exact λ _ _=>rfl | exact λ _=>rfl | decide +kernel))
 `(tactic| ((repeat' first | with_reducible $t:tactic | $u:tactic);all_goals try decide))
section
variable {P:Program} {w:World} {K:Frag} {mg:Θ} {base:Heap} {cl:Str->Addr}
set_option maxHeartbeats 4000000
def tM (D:jn K mg "bodies_of" ["statement"] [] nA):mV P w K mg base:=
 iC (N:=["statement"]) D rfl (λ ρ=>by left) (by right) rfl rfl (by right)
def zV (D:jn K mg "placed" ["body", "around"] [.none] oH) (_:mV P w K mg base):uQ P w K mg base:=
 oQ (k:=1) (F:=λ n=>jX K (bF n)) (Cc D λ _=>rfl) (λ n _=>iC (N:=["body", "around", "outer", "found", "statement", "inner"]) D rfl (λ ρ=>by left) (by right) rfl rfl (by right)) 8
def uT (D:jn K mg "given_by" ["statement"] [] oy):pP P w K mg base:=
 iC (N:=["statement"]) D rfl (λ ρ=>by left) (by right) rfl rfl (by right)
def tH (D:jn K mg "leaves_of" ["expression"] [] mZ) {a_WORKINGS:Addr} (m_WORKINGS:mg "WORKINGS" = some (.ref a_WORKINGS)) (g_WORKINGS:∀ G,fg K G a_WORKINGS (([(Str.ofString "+"),(Str.ofString "-"),(Str.ofString "*"),(Str.ofString "div"),(Str.ofString "rem"),(Str.ofString "<"),(Str.ofString "=")]).map V.str)):mS P w K mg base:=
 oQ (k:=0) (F:=λ n=>jX K (b7 n)) (Cc D λ _=>rfl) (λ n _=>iC (N:=["expression", "found", "part"]) D rfl (λ ρ=>(oC (AS (CG (Bh GG (DE.dk (Cf y7 (wt (i:=0)) tq)) (DE.dk CT)) (zc (ws:=[(Str.ofString "+"),(Str.ofString "-"),(Str.ofString "*"),(Str.ofString "div"),(Str.ofString "rem"),(Str.ofString "<"),(Str.ofString "=")]) g_WORKINGS (DE.dk (Cf y7 (wt (i:=0)) tq))))
  (sC (DO.de (wp (sN (pD (i:=0)) sx))))
  y8)
  (oC (xu (wp sx))
  (oC (vS (Cs (Aq (pD (i:=0)) (vb tq) uN)) xV
   (ku (y3 (sN (pD (i:=2)) sx))))
  (wH (i:=1) (sC (pD (i:=1)))))))) (by right) rfl rfl (by right)) 9
def l8 (D:Ay (λ f fd=>Mk K (cl "Links") f/\fU K fd ["self"] []) K "__init__" "Links.__init__" cQ) (_:mg "Links" = some (.ref (cl "Links"))) (_:tX K (cl "Links")) (_:dI K (cl "Links") "behind"):gX P w K mg base cl:=
 iL (N:=["self"]) D rfl (by left) (by right) rfl rfl (by right)
def tK (D:Ay (λ f fd=>AK K (cl "Links") "add" f/\fU K fd ["self", "causes", "key", "line"] []) K "add" "Links.add" fE) (_:mg "Links" = some (.ref (cl "Links"))) (_:tX K (cl "Links")) (_:dI K (cl "Links") "behind"):fA P w K mg base cl:=
 iL (N:=["self", "causes", "key", "line", "cause"]) D rfl (by left) (by right) rfl rfl (by right)
def zg (D:jn K mg "way_of" ["name", "around"] [] ul):uw P w K mg base:=
 iC (N:=["name", "around"]) D rfl (λ ρ=>by left) (by right) rfl rfl (by right)
def rL (D:jn K mg "causes_of" ["name", "expression"] [] mP) (_:mS P w K mg base):jz P w K mg base:=
 iC (N:=["name", "expression", "leaves", "causes"]) D rfl (λ ρ=>by left) (by right) rfl rfl (by right)
def vp (D:jn K mg "link_way" ["links", "name", "statement", "around"] [] oq) (_:uw P w K mg base) (_:pP P w K mg base) (h_Links_add:fA P w K mg base cl) (_:mg "Links" = some (.ref (cl "Links"))) (_:tX K (cl "Links")) (_:dI K (cl "Links") "behind"):oZ P w K mg base cl:=
 iL (N:=["links", "name", "statement", "around", "way", "line", "given", "whiles"]) D rfl (by left) (by obtain ⟨_,_,⟨_,_⟩,_⟩:=h_Links_add;right) rfl rfl (by right)
def nN (D:jn K mg "link_numbers" ["links", "name", "statement"] [] jy) (h_Links_add:fA P w K mg base cl) (_:jz P w K mg base) (_:mg "Links" = some (.ref (cl "Links"))) (_:tX K (cl "Links")) (_:dI K (cl "Links") "behind"):je P w K mg base cl:=
 iL (N:=["links", "name", "statement", "kind", "line"]) D rfl (by left) (by obtain ⟨_,_,⟨_,_⟩,_⟩:=h_Links_add;right) rfl rfl (by right)
def rT (D:jn K mg "link_call" ["links", "name", "statement", "params"] [] mL) (h_Links_add:fA P w K mg base cl) (_:jz P w K mg base) (_:mg "Links" = some (.ref (cl "Links"))) (_:tX K (cl "Links")) (_:dI K (cl "Links") "behind") (_:mg "zip" = none):mH P w K mg base cl:=
 iL (N:=["links", "name", "statement", "params", "line", "called", "param", "expression"]) D rfl (by left) (by obtain ⟨_,_,⟨_,_⟩,_⟩:=h_Links_add;right) rfl rfl (by right)
def uo (D:jn K mg "links_of" ["program"] [] pq) (h_Links___init__:gX P w K mg base cl) (h_Links_add:fA P w K mg base cl) (_:oZ P w K mg base cl) (_:je P w K mg base cl) (_:mH P w K mg base cl) (_:uQ P w K mg base) (_:mg "Links" = some (.ref (cl "Links"))) (_:tX K (cl "Links")) (_:dI K (cl "Links") "behind"):oY P w K mg base cl:=
 iL (N:=["program", "links", "params_of", "name", "params", "body", "line", "last", "statement", "around"]) D rfl (by left) (by obtain ⟨_,_,⟨_,_⟩,_⟩:=h_Links___init__;obtain ⟨_,_,⟨_,_⟩,_⟩:=h_Links_add;right) rfl rfl (by right)
def BR (D:jn K mg "marks" ["program"] [] yF) (_:oY P w K mg base cl) (_:mg "Links" = some (.ref (cl "Links"))) (_:tX K (cl "Links")) (_:dI K (cl "Links") "behind"):yP P w K mg base cl:=
 iL (N:=["program", "links", "found", "due", "cause", "key", "line"]) D rfl (by left) (by right) rfl rfl (by right)
def qj (D:jn K mg "_law_whole" ["_law_found"] [] lL) (_:mg "isinstance" = none) (_:mg "bool" = none) (_:mg "int" = none):iy P w K mg base:=
 iC (N:=["_law_found"]) D rfl (λ ρ=>by left) (by right) rfl rfl (by right)
def nI (D:jn K mg "_law_cell_at" ["_law_script", "_law_k"] [] jk) (_:mg "len" = none):fS P w K mg base:=
 iC (N:=["_law_script", "_law_k"]) D rfl (λ ρ=>by left) (by right) rfl rfl (by right)
def oV (D:jn K mg "_law_spread" ["_law_cell", "_law_k"] [] kf):f8 P w K mg base:=
 iC (N:=["_law_cell", "_law_k", "_law_big", "_law_number"]) D rfl (λ ρ=>by left) (by right) rfl rfl (by right)
def pZ (D:jn K mg "_law_names" ["_law_number"] [] lD) (_:mg "range" = none) (_:mg "len" = none):kX P w K mg base:=
 iC (N:=["_law_number", "_law_letters", "_law_kept", "_law_long", "_law_place", "_law_rest", "_law_base", "_law_k", "_law_found", "_law_sign", "_law_word"]) D rfl (λ ρ=>by left) (by right) rfl rfl (by right)
def rK (D:jn K mg "_law_leaf" ["_law_number", "_law_names_here", "_law_own"] [] mO):jv P w K mg base:=
 iC (N:=["_law_number", "_law_names_here", "_law_own", "_law_kind", "_law_rest"]) D rfl (λ ρ=>by left) (by right) rfl rfl (by right)
def oI (D:jn K mg "_law_beside" ["_law_number", "_law_names_here", "_law_own"] [] jY) (_:jv P w K mg base):jU P w K mg base:=
 iC (N:=["_law_number", "_law_names_here", "_law_own", "_law_told", "_law_rest", "_law_other"]) D rfl (λ ρ=>by left) (by right) rfl rfl (by right)
def k7 (D:jn K mg "_law_expression" ["_law_number", "_law_names_here", "_law_own"] [] gD) (_:jv P w K mg base) (_:f8 P w K mg base) (_:jU P w K mg base) (_:mg "range" = none):eL P w K mg base:=
 iC (N:=["_law_number", "_law_names_here", "_law_own", "_law_deep", "_law_told", "_law_rest", "_law_k", "_law_kind", "_law_other", "_law_word"]) D rfl (λ ρ=>by left) (by right) rfl rfl (by right)
def sK (D:jn K mg "_law_call" ["_law_rest", "_law_x", "_law_names_here", "_law_rooms_here", "_law_own"] [] mU) (_:eL P w K mg base) (_:mg "len" = none) (_:mg "range" = none):mK P w K mg base:=
 iC (N:=["_law_rest", "_law_x", "_law_names_here", "_law_rooms_here", "_law_own", "_law_others", "_law_name", "_law_params", "_law_handed", "_law_k"]) D rfl (λ ρ=>by left) (by right) rfl rfl (by right)
def vR (D:jn K mg "_law_op" ["_law_number", "_law_names_here", "_law_rooms_here", "_law_own", "_law_words"] [] qL) (_:eL P w K mg base) (_:mK P w K mg base) (_:mg "len" = none):qu P w K mg base:=
 iC (N:=["_law_number", "_law_names_here", "_law_rooms_here", "_law_own", "_law_words", "_law_kind", "_law_x", "_law_rest"]) D rfl (λ ρ=>by left) (by right) rfl rfl (by right)
def lX (D:jn K mg "_law_closed_up" ["_law_frame"] [] gW):gU P w K mg base cl:=
 iL (N:=["_law_frame"]) D rfl (by left) (by right) rfl rfl (by right)
def kU (D:jn K mg "_law_may_stand" ["_law_op_here", "_law_pile", "_law_main"] [] ie) (_:mg "any" = none) (_:mg "len" = none):hJ P w K mg base cl:=
 iL (N:=["_law_op_here", "_law_pile", "_law_main"]) D rfl (by left) (by right) rfl rfl (by right)
def tQ (D:jn K mg "_law_laid" ["_law_ops", "_law_line", "_law_main"] [] mN) (_:hJ P w K mg base cl) (_:gU P w K mg base cl):mR P w K mg base cl:=
 iL (N:=["_law_ops", "_law_line", "_law_main", "_law_body", "_law_here", "_law_pile", "_law_op_here", "_law_frame"]) D rfl (by left) (by right) rfl rfl (by right)
def pY (D:jn K mg "_law_rooms" ["_law_head", "_law_names_here", "_law_variables_here"] [] lF) (_:mg "range" = none):l6 P w K mg base:=
 iC (N:=["_law_head", "_law_names_here", "_law_variables_here", "_law_many", "_law_rooms_here", "_law_k", "_law_digits", "_law_count"]) D rfl (λ ρ=>by left) (by right) rfl rfl (by right)
def l7 (D:jn K mg "_law_variables" ["_law_head", "_law_names_here"] [] ig) (_:mg "list" = none):ip P w K mg base:=
 iC (N:=["_law_head", "_law_names_here"]) D rfl (λ ρ=>by left) (by right) rfl rfl (by right)
def nS (D:jn K mg "_law_program" ["_law_script", "_law_names_here", "_law_own", "_law_words", "_law_most"] [] jp) (_:f8 P w K mg base) (_:fS P w K mg base) (_:ip P w K mg base) (_:l6 P w K mg base) (_:qu P w K mg base) (_:mR P w K mg base cl) (_:mg "len" = none) (_:mg "enumerate" = none) (_:mg "list" = none):iX P w K mg base:=
 Ce.imp (sp:=kP K cl gj) (iL (N:=["_law_script", "_law_names_here", "_law_own", "_law_words", "_law_most", "_law_head", "_law_variables_here", "_law_rooms_here", "_law_ops", "_law_k", "_law_cell", "_law_number", "_law_program_here", "_law_line", "_law_room", "_law_body", "_law_last"]) D rfl (by left) (by right) rfl rfl (by right)) λ _ _ _ _ h=>J5 h
def qh (D:jn K mg "_law_spots" ["_law_body", "_law_rounds", "_law_loop"] [] kZ):l9 P w K mg base:=
 oQ (k:=0) (F:=λ n=>jX K (aO n)) (Cc D λ _=>rfl) (λ n _=>iC (N:=["_law_body", "_law_rounds", "_law_loop", "_law_spots_here", "_law_deed"]) D rfl (λ ρ=>by left) (by right) rfl rfl (by right)) 7
def qb (D:jn K mg "_law_drawn" ["_law_script"] [] kT) (_:f8 P w K mg base) (_:fS P w K mg base) (_:kX P w K mg base) (_:iX P w K mg base):me P w K mg base:=
 iC (N:=["_law_script", "_law_head", "_law_names_here"]) D rfl (λ ρ=>by left) (by right) rfl rfl (by right)
def o9 (D:jn K mg "_law_whence" ["_law_found", "_law_name", "_law_told"] [] jV):gK P w K mg base cl:=
 oQ (k:=0) (F:=λ n=>kP K cl (aW n)) (IH D λ _ _=>rfl) (λ n _=>iL (N:=["_law_found", "_law_name", "_law_told", "_law_whence_here", "_law_piece"]) D rfl (by left) (by right) rfl rfl (by right)) 9
def sw (D:jn K mg "_law_ways" ["_law_found", "_law_name", "_law_rounds"] [] mG):ju P w K mg base cl:=
 iL (N:=["_law_found", "_law_name", "_law_rounds", "_law_keys"]) D rfl (by left) (by right) rfl rfl (by right)
def k9 (D:jn K mg "_law_gives_name" ["_law_found", "_law_key", "_law_name", "_law_spot", "_law_params"] [] gB) (_:gK P w K mg base cl) (_:ju P w K mg base cl) (_:mg "zip" = none):g8 P w K mg base cl:=
 iL (N:=["_law_found", "_law_key", "_law_name", "_law_spot", "_law_params", "_law_deed", "_law_rounds", "_law_loop", "_law_whence_here", "_law_param", "_law_told"]) D rfl (by left) (by right) rfl rfl (by right)
def qc (D:jn K mg "_law_gives" ["_law_found", "_law_key", "_law_name", "_law_spot", "_law_rooms_here"] [] lJ) (_:g8 P w K mg base cl) (_:ju P w K mg base cl) (_:gK P w K mg base cl):lG P w K mg base cl:=
 iL (N:=["_law_found", "_law_key", "_law_name", "_law_spot", "_law_rooms_here", "_law_deed", "_law_rounds", "_law_loop"]) D rfl (by left) (by right) rfl rfl (by right)
def mq (D:jn K mg "_law_key_good" ["_law_key", "_law_rooms_here", "_law_tests"] [] iP) (_:iy P w K mg base) (_:mg "isinstance" = none) (_:mg "str" = none) (_:mg "len" = none) (_:mg "tuple" = none):iQ P w K mg base cl:=
 iL (N:=["_law_key", "_law_rooms_here", "_law_tests"]) D rfl (by left) (by right) rfl rfl (by right)
def jE (D:jn K mg "_law_reason_good" ["_law_found", "_law_key", "_law_program_here", "_law_rooms_here", "_law_lines"] [] gc) (_:iy P w K mg base) (_:lG P w K mg base cl) (_:mg "len" = none) (_:mg "isinstance" = none) (_:mg "tuple" = none):fX P w K mg base cl:=
 iL (N:=["_law_found", "_law_key", "_law_program_here", "_law_rooms_here", "_law_lines", "_law_reason", "_law_one", "_law_name", "_law_spot"]) D rfl (by left) (by right) rfl rfl (by right)
def rn (D:jn K mg "_law_ends" ["_law_found", "_law_key"] [] nj) (_:mg "range" = none) (_:mg "len" = none):ni P w K mg base cl:=
 iL (N:=["_law_found", "_law_key", "_law_k"]) D rfl (by left) (by right) rfl rfl (by right)
def Hc {R:Addr->FuncData->Prop} (hlaw:∀ ns:List Int,ns.length<=63->∃ S,xw [.list (ns.map .int)] []=some (.ok (.bool true),S)) (D:Ay R K "law" "law" uf) (_:me P w K mg base) (_:yP P w K mg base cl) (_:l9 P w K mg base) (_:fX P w K mg base cl) (_:iQ P w K mg base cl) (_:ni P w K mg base cl) (_:mg "isinstance" = none) (_:mg "dict" = none) (_:mg "list" = none):Ce R P w K mg base 14 ["_law_script"] (tI K):=
 Ce.imp (sp:=kP K cl xw) (iL (N:=["_law_script", "_law_program_here", "_law_found", "_law_rooms_here", "_law_lines", "_law_one", "_law_spot", "_law_deed", "_law_tests", "_law_key"]) D rfl (by left) (by right) rfl rfl (by right)) λ vs H Q E h=>by
  obtain ⟨a,ns,rfl,hS,h63,q⟩:=h;obtain ⟨Sf,hl⟩:=hlaw ns h63;exact ⟨[],H,[],[.list (ns.map .int)],.bool true,Sf,.refl _,Da,.cons (.lst hS (.ints ns)) .nil,hl,λ v ρ' G' H' g s dv=>by cases dv;exact q H'⟩
end
inductive Tr where
 | num (v:Int) | sig (k:Fin 3) | nam (x:Str) | box (t:Tr) | op (k:Fin 7) (a b:Tr)
instance qJ (i:Fin 3):Str:=[Str.ofString "lane", Str.ofString "lanes", Str.ofString "mine"].getD i.1 ""
instance uE (i:Fin 7):Str:=[Str.ofString "+", Str.ofString "-", Str.ofString "*", Str.ofString "div", Str.ofString "rem", Str.ofString "<", Str.ofString "="].getD i.1 ""
instance tw:Tr->W
 | .num v=>.tuple [.str "num", .int v]
 | .sig k=>.tuple [.str (qJ k)]
 | .nam x=>.tuple [.str "name", .str x]
 | .box t=>.tuple [.str "box", tw t]
 | .op k a b=>.tuple [.str (uE k),tw a,tw b]
instance qe:Tr->Nat
 | .num _=>0 | .sig _=>0 | .nam _=>0
 | .box t=>qe t+1
 | .op _ a b=>max (qe a) (qe b)+1
instance jP:Tr->Nat
 | .num _=>1 | .sig _=>1 | .nam _=>1
 | .box t=>jP t+1
 | .op _ a b=>jP a+jP b+1
instance fK:Tr->List Tr
 | .num v=>[.num v] | .sig k=>[.sig k] | .nam x=>[.nam x]
 | .box t=>fK t
 | .op _ a b=>fK a++fK b
def g7:∀ t,(fK t).length<=jP t
 | .num _=>by simp [fK,jP]
 | .sig _=>by simp [fK,jP]
 | .nam _=>by simp [fK,jP]
 | .box t=>by have:=g7 t;simp [fK,jP];omega
 | .op _ a b=>by have:=g7 a;have:=g7 b;simp [fK,jP];omega
def Qc:∀ k,decide (qJ k=Str.ofString "num")=false:=by decide +kernel
def P2:∀ k,decide (qJ k=Str.ofString "name")=false:=by decide +kernel
def Qz:∀ k,decide (qJ k=Str.ofString "box")=false:=by decide +kernel
def Qo:∀ k,fj (.str (qJ k)) (.tuple [.str "+", .str "-", .str "*", .str "div", .str "rem", .str "<", .str "="])=some true:=by decide +kernel
def Qu:∀ k,decide (uE k=Str.ofString "num")=false:=by decide +kernel
def PL:∀ k,decide (uE k=Str.ofString "name")=false:=by decide +kernel
def PX:∀ k,decide (uE k=Str.ofString "box")=false:=by decide +kernel
def Qd:∀ k,fj (.str (uE k)) (.tuple [.str "+", .str "-", .str "*", .str "div", .str "rem", .str "<", .str "="])=some false:=by decide +kernel
def Qr:decide (Str.ofString "num" = Str.ofString "box")=false:=by decide +kernel
def P3:decide (Str.ofString "num" = Str.ofString "name")=false:=by decide +kernel
def Qb:fj (.str "num") (.tuple [.str "+", .str "-", .str "*", .str "div", .str "rem", .str "<", .str "="])=some true:=by decide +kernel
def Q1:decide (Str.ofString "name" = Str.ofString "box")=false:=by decide +kernel
def Qk:fj (.str "name") (.tuple [.str "+", .str "-", .str "*", .str "div", .str "rem", .str "<", .str "="])=some true:=by decide +kernel
def Qi:decide (Str.ofString "box" = Str.ofString "num")=false:=by decide +kernel
def PJ:decide (Str.ofString "box" = Str.ofString "name")=false:=by decide +kernel
def tJ {pf:List W->Option W} {e x:W} {ds es:List W} (h:pf [x]=some (.list es)) (hz:ds.length+es.length<=9000):dy pf [.val e,.own ds,.val x]=some (.nx [.val e,.own (ds++es),.val x]):=by
 have hz:=sz _ hz;first | rfl | simp! [dy,ik,uD,h,QF hz]
def i9:∀ (t:Tr) (n:Nat),qe t<n->jP t<=500->b7 n [tw t]=some (.list ((fK t).map tw))
 | _,0,h,_=>absurd h (not_lt_zero _)
 | .num v,n+1,_,_=>by
  have z1:=sz 1 (by decide);first | rfl | simp! [b7,tw,fK,uD,su,Qr,Qb,QF z1]
 | .sig k,n+1,_,_=>by
  have z1:=sz 1 (by decide);first | rfl | simp! [b7,tw,fK,uD,su,Qz,Qo,QF z1]
 | .nam x,n+1,_,_=>by
  have z1:=sz 1 (by decide);first | rfl | simp! [b7,tw,fK,uD,su,Q1,Qk,QF z1]
 | .box t,n+1,h,hc=>by
  have z0:=sz 0 (by decide);have ih:=i9 t n (by simp only [qe] at h;omega) (by simp only [jP] at hc;omega);have l:=g7 t;have st:∀ e,dy (b7 n) [.val e,.own [],.val (tw t)]=some (.nx [.val e,.own ([]++(fK t).map tw),.val (tw t)]):=λ e=>tJ ih (by simp only [jP] at hc;simp;omega);first | rfl | simp! [b7,tw,fK,uD,su,decide_true,Bool.not_true,nQ,y0,QF z0,bz,st]
 | .op k a b,n+1,h,hc=>by
  have z0:=sz 0 (by decide);have iha:=i9 a n (by simp only [qe] at h;omega) (by simp only [jP] at hc;omega);have ihb:=i9 b n (by simp only [qe] at h;omega) (by simp only [jP] at hc;omega);have la:=g7 a;have lb:=g7 b;have s1:∀ e,dy (b7 n) [.val e,.own [],.val (tw a)]=some (.nx [.val e,.own ([]++(fK a).map tw),.val (tw a)]):=λ e=>tJ iha (by simp only [jP] at hc;simp;omega);have s2:∀ e,dy (b7 n) [.val e,.own ((fK a).map tw),.val (tw b)]=some (.nx [.val e,.own ((fK a).map tw++(fK b).map tw),.val (tw b)]):=λ e=>tJ ihb (by simp only [jP] at hc;simp;omega);first | rfl | simp! [b7,tw,fK,uD,su,PX,Qd,nQ,y0,QF z0,bz,s1,s2,Rw]
instance Bn (l:List Tr):List Str:=l.filterMap λ t=>match t with | .nam x=>some x | _=>none
instance tW (t:Tr):List Str:=Bn (fK t)
def tF {f:μ} {δ:DS} {a b:Str} (h1:f δ=some (.str a)) (h2:decide (a=b)=false):ay bp f (dC (.str b)) δ=some false:=by first | rfl | simp! [uD,h1,h2]
def tT {f:μ} {δ:DS} {a:Str} (h1:f δ=some (.str a)):ay bp f (dC (.str a)) δ=some true:=by first | rfl | simp! [uD,h1]
def sF {f:μ} {δ:DS} {a b:Str} {S:ak} (h1:f δ=some (.str a)) (h2:decide (a=b)=false):ab (ay bp f (dC (.str b))) δ S=some (.ok false,S):=ai (tF h1 h2)
def sT {f:μ} {δ:DS} {a:Str} {S:ak} (h1:f δ=some (.str a)):ab (ay bp f (dC (.str a))) δ S=some (.ok true,S):=ai (tT h1)
def x0 {f:μ} {δ:DS} {w:W} {l:List W} (h:f δ=some (.tuple (w::l))):av aI f (!0) δ=some w:=by simp only [av,h,dC,QC,pC,su]
def x1 {f:μ} {δ:DS} {v w:W} {l:List W} (h:f δ=some (.tuple (v::w::l))):av aI f (!1) δ=some w:=by simp only [av,h,dC,QC,pC,Ge]
def x2 {f:μ} {δ:DS} {u v w:W} {l:List W} (h:f δ=some (.tuple (u::v::w::l))):av aI f (!2) δ=some w:=by simp only [av,h,dC,QC,pC,Pg]
def x3 {f:μ} {δ:DS} {t u v w:W} {l:List W} (h:f δ=some (.tuple (t::u::v::w::l))):av aI f (!3) δ=some w:=by simp only [av,h,dC,QC,pC,P4]
def x4 {f:μ} {δ:DS} {s t u v w:W} {l:List W} (h:f δ=some (.tuple (s::t::u::v::w::l))):av aI f (!4) δ=some w:=by simp only [av,h,dC,QC,pC,Ou]
def gh {f g:υ} {δ:DS} {d:W} (h:f δ=some (.rt d)):aF f g δ=some (.rt d):=by unfold aF;rw [h]
def cF {f:μ} {δ:DS} {a b:Str} {S:ak} {g k:τ} (h1:f δ=some (.str a)) (h2:decide (a=b)=false):aC (bR (ab (ay bp f (dC (.str b)))) g (aw az)) k δ S=k δ S:=ah ((bi (sF h1 h2)).trans rfl)
def fT {f:μ} {δ:DS} {a:Str} {S:ak} {g k:τ} (h1:f δ=some (.str a)):bR (ab (ay bp f (dC (.str a)))) g k δ S=g δ S:=c6 (sT h1)
def jI {f:μ} {g:θ} {δ:DS} {a:W} {l:List W} (h1:f δ=some a) (h2:g δ=some l):aa f g δ=some (a::l):=by simp only [aa,h1,h2,QC,QI]
def Ml {g:θ} {δ:DS} {l:List W} (h:g δ=some l) (hl:l.length<=9000):aK g δ=some (.tuple l):=by
 have z:=sz _ hl;simp only [aK,h,QC,QF z]
def JZ {f:μ} {δ:DS} {a:W} (h:f δ=some a):aK #[f] δ=some (.tuple [a]):=Ml (jI h rfl) (by simp)
def j4 {f g:μ} {δ:DS} {a b:W} (h:f δ=some a) (h':g δ=some b):aK #[f,g] δ=some (.tuple [a,b]):=Ml (jI h (jI h' rfl)) (by simp)
def vM {f g k:μ} {δ:DS} {a b c:W} (h:f δ=some a) (h':g δ=some b) (h2:k δ=some c):aK #[f,g,k] δ=some (.tuple [a,b,c]):=Ml (jI h (jI h' (jI h2 rfl))) (by simp)
def P5 {f g k m:μ} {δ:DS} {a b c d:W} (h:f δ=some a) (h':g δ=some b) (h2:k δ=some c) (h3:m δ=some d):aK #[f,g,k,m] δ=some (.tuple [a,b,c,d]):=Ml (jI h (jI h' (jI h2 (jI h3 rfl)))) (by simp)
def rj {f g:μ} {δ:DS} {l:List W} {i:Int} {x:W} (h1:f δ=some (.list l)) (h2:g δ=some (.int i)) (h3:gz l i=some x):av aI f g δ=some x:=by simp only [av,h1,h2,QC,Gb,h3]
def iz {f:List W->Option W} {fa:θ} {δ:DS} {ds:List W} {d:W} (h1:fa δ=some ds) (h2:f ds=some d):aU f fa δ=some d:=by simp only [aU,h1,QC,h2]
def pS {c:W->W->Option Bool} {f g:μ} {δ:DS} {a b:W} {r:Bool} (h1:f δ=some a) (h2:g δ=some b) (h3:c a b=some r):ay c f g δ=some r:=by simp only [ay,h1,h2,QC,h3]
def dO {c:W->W->Option W} {f g:μ} {δ:DS} {a b r:W} (h1:f δ=some a) (h2:g δ=some b) (h3:c a b=some r):av c f g δ=some r:=by simp only [av,h1,h2,QC,h3]
def dA {f g:DS->Option Bool} {δ:DS} {r:Bool} (h1:f δ=some true) (h2:g δ=some r):gL f g δ=some r:=by first | rfl | simp! [uD,h1,h2]
def Kj {f g:DS->Option Bool} {δ:DS} (h1:f δ=some false):gL f g δ=some false:=by first | rfl | simp! [uD,h1]
def Cy {f g:μ} {δ:DS} {a b:W} (h:f δ=some a) (h':g δ=some b):#[f,g] δ=some [a,b]:=jI h (jI h' rfl)
def vF {f g k:μ} {δ:DS} {a b c:W} (h:f δ=some a) (h':g δ=some b) (h2:k δ=some c):#[f,g,k] δ=some [a,b,c]:=jI h (jI h' (jI h2 rfl))
def Ke {ix:Λ} {fi:θ} {h:η} {c:DS->Option Bool} {fe:μ} {δ:DS} {ds r:List W} (h1:fi δ=some ds) (h2:ds.length<=9000) (h3:b9 h c fe (bU ix δ) ds=some r):bc (gF ix fi h c fe) δ=some (.list r):=by
 have z:=sz _ h2;simp only [bc,gF,h1,QC,QF z,h3,QI]
def IN {i:Nat} {f:μ} {δ:DS} {ds:List W} {d:W} (h1:nz i δ=some ds) (h2:f δ=some d) (h3:ds.length<9000):eU i f δ=some (.nx (δ.set i (.own (ds++[d])))):=by
 have z:=QZ h3 (sz 9000 (QH _));simp only [eU,h1,h2,QC,QF z]
inductive Hd where
 | set (x:Str) (t:Tr) | put (a b:Tr) | tell (t:Tr) | ret (t:Tr) | brk | agn | mt | stp
 | join (x j:Str) (t:Tr) | call (x f:Str) (ts:List Tr) | ifs (t:Tr) (bs:List W) | whl (t:Tr) (bs:List W)
abbrev π:=Bool->Hd->Prop
instance dF (i:Fin 12):Str:=[Str.ofString "set", Str.ofString "put", Str.ofString "tell", Str.ofString "return", Str.ofString "break", Str.ofString "again", Str.ofString "meet", Str.ofString "stop", Str.ofString "join", Str.ofString "call", Str.ofString "if", Str.ofString "while"].getD i.1 ""
instance aA:Hd->Fin 12
 | .set _ _=>0 | .put _ _=>1 | .tell _=>2 | .ret _=>3 | .brk=>4 | .agn=>5 | .mt=>6 | .stp=>7 | .join _ _ _=>8 | .call _ _ _=>9 | .ifs _ _=>10 | .whl _ _=>11
instance rs:Hd->List W
 | .set x t=>[.str x,tw t] | .put a b=>[tw a,tw b] | .tell t=>[tw t] | .ret t=>[tw t] | .brk=>[] | .agn=>[] | .mt=>[] | .stp=>[]
 | .join x j t=>[.str x,.str j,tw t] | .call x f ts=>[.str x,.str f,.list (ts.map tw)] | .ifs t bs=>tw t::bs | .whl t bs=>tw t::bs
instance cD (k:Int) (h:Hd):W:=.tuple (.str (dF (aA h))::.int k::rs h)
def kq:∀ i:Fin 12,decide (dF i=Str.ofString "while")=decide (i=11)/\decide (dF i=Str.ofString "if")=decide (i=10)/\decide (dF i=Str.ofString "return")=decide (i=3)/\decide (dF i=Str.ofString "call")=decide (i=9)/\decide (dF i=Str.ofString "set")=decide (i=0)/\decide (dF i=Str.ofString "join")=decide (i=8):=by decide +kernel
def ki:∀ i:Fin 12,jf (.str (dF i)) (.tuple [.str "set", .str "call", .str "join"])=some (decide (i=0∨i=9∨i=8))/\jf (.str (dF i)) (.tuple [.str "break", .str "again"])=some (decide (i=4∨i=5))/\jf (.str (dF i)) (.tuple [.str "if", .str "while"])=some (decide (i=10∨i=11))/\jf (.str (dF i)) (.tuple [.str "meet", .str "join"])=some (decide (i=6∨i=8)):=by decide +kernel
def tD {f:μ} {δ:DS} {a b:Str} (h1:f δ=some (.str a)):ay bp f (dC (.str b)) δ=some (decide (a=b)):=by first | rfl | simp! [uD,h1]
instance Pj:List W->Option (List (List W))
 | [x]=>(iR x).map λ a=>[a]
 | _=>none
instance PK:List W->Option (List (List W))
 | [x,y]=>(iR x).bind λ a=>if Kk y=true then some [a] else (iR y).map λ b=>[a,b]
 | _=>none
instance jF:Hd->Option (List (List W))
 | .ifs _ l=>PK l
 | .whl _ l=>Pj l
 | _=>some []
def Bs {x:W} {a:List W} (h:iR x=some a):x=.list a:=by
 cases x with
 | list b=>cases h;rfl
 | _=>cases h
def Bj {l:List W} {bs:List (List W)} (h:Pj l=some bs):∃ a,l=[.list a]/\bs=[a]:=by
 cases l with
 | nil=>cases h
 | cons x r=>
  cases r with
  | nil=>
   obtain ⟨a,e,rfl⟩:=oM h
   exact ⟨a,by rw [Bs e],rfl⟩
  | cons y r=>cases h
def Ai {l:List W} {bs:List (List W)} (h:PK l=some bs):∃ a,(∃ b,l=[.list a,.list b]/\bs=[a,b])∨(l=[.list a,.none]/\bs=[a]):=by
 cases l with
 | nil=>cases h
 | cons x r=>
  cases r with
  | nil=>cases h
  | cons y r=>
   cases r with
   | nil=>
    obtain ⟨a,e,h⟩:=oB h
    have e':=Bs e;by_cases z:Kk y=true
    . rw [QF z] at h;cases h;cases y with
      | none=>exact ⟨a,.inr ⟨by rw [e'],rfl⟩⟩
      | _=>cases z
    . rw [QS z] at h;obtain ⟨b,e2,rfl⟩:=oM h
      exact ⟨a,.inl ⟨b,by rw [e',Bs e2],rfl⟩⟩
   | cons z r=>cases h
def uy (t:Tr) (l:List W):jF (.ifs t l)≠some []/\jF (.whl t l)≠some []:=by
 constructor
 . intro z;obtain ⟨a,⟨b,_,e⟩ | ⟨_,e⟩⟩:=Ai z <;> cases e
 . intro z;obtain ⟨a,_,e⟩:=Bj z;cases e
def Ov {h:Hd} {bs:List (List W)} (hb:jF h=some bs) (e:aA h=11):∃ t a,rs h=[tw t,.list a]/\bs=[a]:=by
 cases h with
 | whl t l=>
  obtain ⟨a,rfl,rfl⟩:=Bj hb;exact ⟨t,a,rfl,rfl⟩
 | _=>exact nomatch (show false=true from QL e)
def OB {h:Hd} {bs:List (List W)} (hb:jF h=some bs) (e:aA h=10):∃ t a,(∃ b,rs h=[tw t,.list a,.list b]/\bs=[a,b])∨(rs h=[tw t,.list a,.none]/\bs=[a]):=by
 cases h with
 | ifs t l=>
  obtain ⟨a,⟨b,rfl,rfl⟩ | ⟨rfl,rfl⟩⟩:=Ai hb
  . exact ⟨t,a,.inl ⟨b,rfl,rfl⟩⟩
  . exact ⟨t,a,.inr ⟨rfl,rfl⟩⟩
 | _=>exact nomatch (show false=true from QL e)
def Pr {f:μ} {δ:DS} {a:W} (h:f δ=some a):bc (bu #[f]) δ=some (.list [a]):=by
 unfold bc bu;rw [jI h rfl];rfl
def xn (k:Int) (h:Hd) (bs:List (List W)) (hb:jF h=some bs):jm [cD k h]=some (.list (bs.map .list)):=by
 let δ:DS:=[.val (cD k h)]
 have a0:0[0]! δ=some (.str (dF (aA h))):=x0 rfl;have t1:=tD (b:=Str.ofString "while") a0;have t2:=tD (b:=Str.ofString "if") a0;rw [(kq _).1] at t1;rw [(kq _).2.1] at t2;have p0:∀ {r},rs h=r->aq 0 δ=some (.tuple (.str (dF (aA h))::.int k::r)):=λ e=>by rw [<-e];rfl
 refine aZ rfl ?_;by_cases h11:aA h=11
 . rw [QL h11] at t1;obtain ⟨t,a,er,rfl⟩:=Ov hb h11;exact gh (aJ (b:=true) t1 (bq (Pr (x3 (p0 er)))))
 rw [QJ h11] at t1;refine ao (aJ (b:=false) t1 rfl) ?_;by_cases h10:aA h=10
 . rw [QL h10] at t2;have sl:∀ {t r},rs h=t::r->bA (nQ (ae 0) (eW !3) dD) δ=some r:=λ {t r} e=>by
    have c:iV (.str (dF (aA h))::.int k::rs h) (some ((3:Nat):Int)) none=r:=(M0 _ 3).trans (by rw [e];rfl);exact Q9 some c
   obtain ⟨t,a,⟨b,er,rfl⟩ | ⟨er,rfl⟩⟩:=OB hb h10
   . exact gh (aJ (b:=true) t2 (bq (Ke (sl er) (by simp) rfl)))
   . exact gh (aJ (b:=true) t2 (bq (Ke (sl er) (by simp) rfl)))
 . rw [QJ h10] at t2;refine ao (aJ (b:=false) t2 rfl) (bq ?_);have:bs=[]:=by cases h <;> first | (cases hb;rfl) | exact absurd rfl h10 | exact absurd rfl h11
   subst this;rfl
instance qN:Hd->Option Str
 | .set x _=>some x | .join x _ _=>some x | .call x _ _=>some x | _=>none
instance xt (h:Hd):W:=match qN h with | some x=>.str x | none=>.none
def zw (k:Int) (h:Hd):kG [cD k h]=some (xt h):=by
 have z3:=sz 3 (by decide);let δ:DS:=[.val (cD k h)]
 have a0:0[0]! δ=some (.str (dF (aA h))):=x0 rfl;have e:aK #[!"set",!"call",!"join"] δ=some (.tuple [.str "set", .str "call", .str "join"]):=by first | rfl | simp! [uD,QF z3]
 have t:ay jf 0[0]! (aK #[!"set",!"call",!"join"]) δ=some (decide (aA h=0∨aA h=9∨aA h=8)):=by
  simp only [ay,a0,e,QC];exact (ki (aA h)).1
 refine aZ rfl (bq ?_);show Fn _ _ _ δ=_;unfold Fn;rw [t];cases h with
 | set x u=>exact (x2 rfl:0[2]! [.val (cD k (.set x u))]=some (.str x))
 | join x j u=>exact (x2 rfl:0[2]! [.val (cD k (.join x j u))]=some (.str x))
 | call x f ts=>exact (x2 rfl:0[2]! [.val (cD k (.call x f ts))]=some (.str x))
 | _=>rfl
noncomputable abbrev Bk:=Int×Hd
abbrev ω:=List Bk
instance f7 (b:Bk):W:=cD b.1 b.2
instance c7 (l:ω):List W:=l.map f7
instance ft (b:Bk):Bool:=decide (aA b.2=11)
noncomputable abbrev It:=Int×Hd×List Bk
instance rc (i:It):W:=.tuple [cD i.1 i.2.1,.tuple (i.2.2.map f7)]
mutual
inductive Ab (P:π):Nat->Bool->Hd->Nat->Prop
 | lf {n:Nat} {wh:Bool} {h:Hd}:P wh h->jF h=some []->Ab P n wh h 1
 | whl {n:Nat} {wh:Bool} {t:Tr} {a:ω} {c:Nat}:P wh (.whl t [.list (c7 a)])->mm P n true a c->Ab P (n+1) wh (.whl t [.list (c7 a)]) (c+1)
 | if1 {n:Nat} {wh:Bool} {t:Tr} {a:ω} {c:Nat}:P wh (.ifs t [.list (c7 a),.none])->mm P n wh a c->Ab P (n+1) wh (.ifs t [.list (c7 a),.none]) (c+1)
 | if2 {n:Nat} {wh:Bool} {t:Tr} {a b:ω} {c c':Nat}:P wh (.ifs t [.list (c7 a),.list (c7 b)])->mm P n wh a c->mm P n wh b c'->Ab P (n+1) wh (.ifs t [.list (c7 a),.list (c7 b)]) (c+c'+1)
inductive mm (P:π):Nat->Bool->List Bk->Nat->Prop
 | nil {n:Nat} {wh:Bool}:mm P n wh [] 0
 | cons {n:Nat} {wh:Bool} {k:Int} {h:Hd} {l:ω} {c c':Nat}:Ab P n wh h c->mm P n wh l c'->mm P n wh ((k,h)::l) (c+c')
end
structure GI (P:π) (m:Nat) (i:It):Prop where
 p:∃ wh,P wh i.2.1/\(wh=true->∃ b∈i.2.2,ft b=true)
 l:i.2.2.length<=m
def Ih (ar:List W) (x:W) (h:ar.length<9000):xy (.tuple ar) (.tuple [x])=some (.tuple (ar++[x])):=by
 cases ar with
 | nil=>rfl
 | cons y r=>
  have hz:(y::r).length+[x].length<=sizeLine:=sz _ (by simp at h ⊢;omega);show bB (.tuple (y::r)) (.tuple [x])=_;exact QF ⟨by simp,hz⟩
mutual
noncomputable def wP:W->List Int
 | .tuple (.str s::.int k::r)=>k::(if s=Str.ofString "if" ∨ s=Str.ofString "while" then F5 r else [])
 | _=>[]
noncomputable def dS:List W->List Int
 | []=>[]
 | d::ds=>wP d++dS ds
noncomputable def F5:List W->List Int
 | []=>[]
 | .list ds::r=>dS ds++F5 r
 | _::r=>F5 r
end
def ug:∀ a b:List W,dS (a++b)=dS a++dS b
 | [],_=>rfl
 | d::a,b=>by simp [dS,ug a b]
def xj (t:Tr) (r:List W):F5 (tw t::r)=F5 r:=by cases t <;> simp [tw,F5]
def Gq {h:Hd} (hb:aA h≠10/\aA h≠11) (k:Int):wP (cD k h)=[k]:=by
 have q:=kq (aA h);have a:¬ dF (aA h)=Str.ofString "if" := RT (q.2.1.trans (QJ hb.1));have b:¬ dF (aA h)=Str.ofString "while" := RT (q.1.trans (QJ hb.2));simp [cD,wP,a,b]
def Gp (k:Int) (t:Tr) (a:List W):wP (cD k (.whl t [.list a]))=k::dS a:=by
 have q:dF 11=Str.ofString "while" := Rn (kq 11).1;simp [cD,aA,rs,wP,xj,F5,q]
def GW (k:Int) (t:Tr) (a:List W):wP (cD k (.ifs t [.list a,.none]))=k::dS a:=by
 have q:dF 10=Str.ofString "if" := Rn (kq 10).2.1;simp [cD,aA,rs,wP,xj,F5,q]
def Gi (k:Int) (t:Tr) (a b:List W):wP (cD k (.ifs t [.list a,.list b]))=k::(dS a++dS b):=by
 have q:dF 10=Str.ofString "if" := Rn (kq 10).2.1;simp [cD,aA,rs,wP,xj,F5,q]
structure IsL (ls:List Int) (ar:ω) (is:List It):Prop where
 l:is.map (·.1)=ls
 c:∀ i∈is,∀ b∈i.2.2,b∈ar∨∃ j∈is,(j.1,j.2.1)=b
def IsL.blk {k:Int} {h:Hd} {ar:ω} {is:List It} {ls:List Int} (q:IsL ls (ar++[(k,h)]) is):IsL (k::ls) ar ((k,h,ar)::is):=⟨by simp [q.l],λ i hi b hb=>by
 rcases QE.mp hi with rfl | hi
 . exact .inl hb
 . rcases q.c i hi b hb with z | ⟨j,hj,z⟩
   . rcases QK.mp z with z | z
     . exact .inl z
     . rw [QD.mp z];exact .inr ⟨_,Rf,rfl⟩
   . exact .inr ⟨j,Rj _ hj,z⟩⟩
def IsL.app {ar:ω} {is js:List It} {l m:List Int} (q:IsL l ar is) (q':IsL m ar js):IsL (l++m) ar (is++js):=⟨by simp [q.l,q'.l],λ i hi b hb=>by
 rcases QK.mp hi with hi | hi
 . exact (q.c i hi b hb).imp id λ ⟨j,hj,z⟩=>⟨j,QK.mpr (.inl hj),z⟩
 . exact (q'.c i hi b hb).imp id λ ⟨j,hj,z⟩=>⟨j,QK.mpr (.inr hj),z⟩⟩
section
variable {P:π}
def wd {pf:List W->Option W} {s0 s1:Sl} {ar acc es:List W} {st a:W} (h:pf [a,.tuple (ar++[st])]=some (.list es)) (hz:acc.length+es.length<=9000) (hr:ar.length<9000):iA pf [s0,s1,.val (.tuple ar),.own acc,.val st,.val a]=some (.nx [s0,s1,.val (.tuple ar),.own (acc++es),.val st,.val a]):=by
 have z:=sz _ hz;have z1:=sz 1 (by decide);first | rfl | simp! [iA,ik,uD,QF z1,Ih ar st hr,h,QF z]
def jS {h:η} {f:υ} {d:W} {ds:List W} {δ δ2 δ':DS} {o:Option dJ} (h1:h d δ=some δ2) (h2:f δ2=some (.nx δ')) (h3:bz h f ds δ'=o):bz h f (d::ds) δ=o:=by
 rw [<-h3];show (h d δ).bind _=_;rw [h1];show (match f δ2 with | some (.nx δ')=>_ | some (.ct δ')=>_ | some (.bk δ')=>_ | some (.rt d)=>_ | none=>_)=_;rw [h2]
def Fg {m:Nat} {l:ω} {ar:ω} {is:List It} (e:∃ s4 s5,bz (af 4) (eA (bF m)) (c7 l) [.val (.list (c7 l)),.val (.tuple (ar.map f7)),.val (.tuple (ar.map f7)),.own [],.no,.no]=some (.nx [.val (.list (c7 l)),.val (.tuple (ar.map f7)),.val (.tuple (ar.map f7)),.own (is.map rc),s4,s5])):bF (m+1) [.list (c7 l),.tuple (ar.map f7)]=some (.list (is.map rc)):=by
 have z0:=sz 0 (by decide);obtain ⟨s4,s5,e⟩:=e;show cn 2 6 _ _=_;refine aZ rfl ?_;refine ao (δ1:=[.val (.list (c7 l)),.val (.tuple (ar.map f7)),.val (.tuple (ar.map f7)),.no,.no,.no]) (by first | rfl | simp! [bM,uD,QF z0]) ?_;refine ao (δ1:=[.val (.list (c7 l)),.val (.tuple (ar.map f7)),.val (.tuple (ar.map f7)),.own [],.no,.no]) (by first | rfl | simp! [uD,QF z0]) ?_;refine ao (fP (ds:=c7 l) (by first | rfl | simp! [uD]) e) ?_;first | rfl | simp! [uD]
def pv {m:Nat} {s0 s1 s5:Sl} {ar acc:List W} {k:Int} {h:Hd} {bs:List (List W)} (hb:jF h=some bs) (hl:acc.length<900) {o:Option dJ} (e:bz (af 5) (iA (bF m)) (bs.map .list) [s0,s1,.val (.tuple ar),.own (acc++[.tuple [cD k h,.tuple ar]]),.val (cD k h),s5]=o):eA (bF m) [s0,s1,.val (.tuple ar),.own acc,.val (cD k h),s5]=o:=by
 have z2:=sz 2 (by decide);have zl:acc.length<sizeLine:=QZ hl (sz 900 (by decide));refine ao (δ1:=[s0,s1,.val (.tuple ar),.own (acc++[.tuple [cD k h,.tuple ar]]),.val (cD k h),s5]) (by first | rfl | simp! [uD,QF z2,QF zl]) ?_;exact fP (ds:=bs.map .list) (by first | rfl | simp! [uD,xn k h bs hb]) e
instance gH (ar:ω):W:=.list (ar.map λ b=>.int b.1)
instance sY (ar:ω):W:=match ((ar.filter ft).map (·.1)).getLast? with
 | some k=>.int k
 | none=>.none
def Kx (ar:ω) (k:Int) (t:Tr) (l:List W):sY (ar++[(k,.whl t l)])=.int k:=by simp [sY,filter_append,ft,aA]
def Gs (ar:ω) (k:Int) (t:Tr) (l:List W):sY (ar++[(k,.ifs t l)])=sY ar:=by simp [sY,filter_append,ft,aA]
noncomputable abbrev xI:List It->List W->Prop:=Paired λ i w=>w=.tuple [cD i.1 i.2.1,gH i.2.2,sY i.2.2]
def xI.app {a b:List It} {x y:List W} (h:xI a x) (h':xI b y):xI (a++b) (x++y):=by
 induction h with
 | nil=>exact h'
 | cons r _ ih=>exact .cons r ih
def xI.len {a:List It} {x:List W} (h:xI a x):a.length=x.length:=by
 induction h with
 | nil=>rfl
 | cons _ _ ih=>exact Q9 (· + 1) ih
def sy {s0 s1 s2 s4:Sl} {acc sp:List W} {fb:μ} (h:fb [s0,s1,s2,.own acc,s4]=some (.list sp)) (hz:acc.length+sp.length<=9000):iS 3 (nB (aq 3) fb) [s0,s1,s2,.own acc,s4]=some (.nx [s0,s1,s2,.own (acc++sp),s4]):=by
 have a:nB (aq 3) fb [s0,s1,s2,.own acc,s4]=some (acc++sp):=by
  show (fb _).bind _=_;rw [h];exact QF (sz _ hz)
 show (nB (aq 3) fb _).map _=_;rw [a];rfl
def xA {pf:List W->Option W} {fa fl fp:μ} {δ:DS} {ar:ω} {x:Bk} {b sp:List W} {lp:W} (h1:aq 1 δ=some (gH ar)) (ha:fa δ=some (.list b)) (hl:fl δ=some (.int x.1)) (hp:fp δ=some lp) (hr:ar.length<100) (h:pf [.list b,gH (ar++[x]),lp]=some (.list sp)):aU pf #[fa,av bB (aq 1) (bc (bu #[fl])),fp] δ=some (.list sp):=by
 have e:av bB (aq 1) (bc (bu #[fl])) δ=some (gH (ar++[x])):=by
  refine (dO h1 (Pr hl) (fI (sz _ (by simp;omega)))).trans ?_;simp [gH]
 exact iz (vF ha e hp) h
def tP {h:Hd} (hb:jF h=some []):aA h≠10/\aA h≠11:=by
 cases h with
 | ifs t l=>exact absurd hb (uy t l).1
 | whl t l=>exact absurd hb (uy t l).2
 | _=>exact ⟨λ z=>Bool.noConfusion (show false=true from QL z),λ z=>Bool.noConfusion (show false=true from QL z)⟩
section
variable {m:Nat} {s0:Sl} {ar:ω} {lp:W} {acc:List W} {k:Int}
def vz (h:Hd) {s1 s2 s3:Sl}:ay bp 4[0]! (!"if") [s0,s1,s2,s3,.val (cD k h)]=some (decide (aA h=10))/\ay bp 4[0]! (!"while") [s0,s1,s2,s3,.val (cD k h)]=some (decide (aA h=11)):=by
 have a:4[0]! [s0,s1,s2,s3,.val (cD k h)]=some (.str (dF (aA h))):=x0 rfl;exact ⟨(tD a).trans (Q9 some (kq _).2.1),(tD a).trans (Q9 some (kq _).1)⟩
def KD {h:Hd} (hb:jF h=some []) (ha:acc.length<899):bO (aO m) [s0,.val (gH ar),.val lp,.own acc,.val (cD k h)]=some (.nx [s0,.val (gH ar),.val lp,.own (acc++[.tuple [cD k h,gH ar,lp]]),.val (cD k h)]):=by
 have c:=tP hb;refine ao (IN (ds:=acc) rfl (vM rfl rfl rfl) (by omega)) ?_;refine ao (aJ (b:=false) ((vz h).1.trans (by rw [QJ c.1])) rfl) ?_;exact aJ (b:=false) ((vz h).2.trans (by rw [QJ c.2])) rfl
def KS {t:Tr} {a sp:List W} (hs:aO m [.list a,gH (ar++[(k,.whl t [.list a])]),.int k]=some (.list sp)) (hz:acc.length+sp.length<899) (hr:ar.length<100):bO (aO m) [s0,.val (gH ar),.val lp,.own acc,.val (cD k (.whl t [.list a]))]=some (.nx [s0,.val (gH ar),.val lp,.own (acc++.tuple [cD k (.whl t [.list a]),gH ar,lp]::sp),.val (cD k (.whl t [.list a]))]):=by
 refine ao (IN (ds:=acc) rfl (vM rfl rfl rfl) (by omega)) ?_;refine ao (aJ (b:=false) (vz (.whl t [.list a])).1 rfl) ?_;refine aJ (b:=true) (vz (.whl t [.list a])).2 ((sy (xA (x:=(k,.whl t [.list a])) rfl (x3 rfl) (x1 rfl) (x1 rfl) hr hs) (by simp;omega)).trans ?_);simp
def LB {t:Tr} {a sp:List W} (hs:aO m [.list a,gH (ar++[(k,.ifs t [.list a,.none])]),lp]=some (.list sp)) (hz:acc.length+sp.length<899) (hr:ar.length<100):bO (aO m) [s0,.val (gH ar),.val lp,.own acc,.val (cD k (.ifs t [.list a,.none]))]=some (.nx [s0,.val (gH ar),.val lp,.own (acc++.tuple [cD k (.ifs t [.list a,.none]),gH ar,lp]::sp),.val (cD k (.ifs t [.list a,.none]))]):=by
 refine ao (IN (ds:=acc) rfl (vM rfl rfl rfl) (by omega)) ?_;refine ao (aJ (b:=true) (vz (.ifs t [.list a,.none])).1 (ao (sy (xA (x:=(k,.ifs t [.list a,.none])) rfl (x3 rfl) (x1 rfl) rfl hr hs) (by simp;omega)) (aJ (b:=false) (pS (x4 rfl) rfl rfl) rfl))) ?_;refine aJ (b:=false) (vz (.ifs t [.list a,.none])).2 ?_;simp [az]
def Lm {t:Tr} {a b sp sq:List W} (hs:aO m [.list a,gH (ar++[(k,.ifs t [.list a,.list b])]),lp]=some (.list sp)) (hs':aO m [.list b,gH (ar++[(k,.ifs t [.list a,.list b])]),lp]=some (.list sq)) (hz:acc.length+sp.length+sq.length<899) (hr:ar.length<100):bO (aO m) [s0,.val (gH ar),.val lp,.own acc,.val (cD k (.ifs t [.list a,.list b]))]=some (.nx [s0,.val (gH ar),.val lp,.own (acc++.tuple [cD k (.ifs t [.list a,.list b]),gH ar,lp]::(sp++sq)),.val (cD k (.ifs t [.list a,.list b]))]):=by
 refine ao (IN (ds:=acc) rfl (vM rfl rfl rfl) (by omega)) ?_;refine ao (aJ (b:=true) (vz (.ifs t [.list a,.list b])).1 (ao (sy (xA (x:=(k,.ifs t [.list a,.list b])) rfl (x3 rfl) (x1 rfl) rfl hr hs) (by simp;omega)) (aJ (b:=true) (pS (x4 rfl) rfl rfl) (sy (xA (x:=(k,.ifs t [.list a,.list b])) rfl (x4 rfl) (x1 rfl) rfl hr hs') (by simp;omega))))) ?_;refine aJ (b:=false) (vz (.ifs t [.list a,.list b])).2 ?_;simp [az]
def ye {l:ω} {sp:List W} (e:∃ s4,bz (af 4) (bO (aO m)) (c7 l) [.val (.list (c7 l)),.val (gH ar),.val lp,.own [],.no]=some (.nx [.val (.list (c7 l)),.val (gH ar),.val lp,.own sp,s4])):aO (m+1) [.list (c7 l),gH ar,lp]=some (.list sp):=by
 have z0:=sz 0 (by decide);obtain ⟨s4,e⟩:=e;show cn 3 5 _ _=_;refine aZ rfl ?_;refine ao (δ1:=[.val (.list (c7 l)),.val (gH ar),.val lp,.own [],.no]) (by first | rfl | simp! [bM,uD,QF z0]) ?_;refine ao (fP (ds:=c7 l) (by first | rfl | simp! [uD]) e) ?_;first | rfl | simp! [uD]
end
instance SQ (n:Nat) (l ar:ω) (is:List It):Prop:=∀ (m:Nat) (acc:List W) (s0 s4:Sl),n<=m->acc.length+is.length<899->∃ (sp:List W) (s4':Sl),xI is sp/\bz (af 4) (bO (aO m)) (c7 l) [s0,.val (gH ar),.val (sY ar),.own acc,s4]=some (.nx [s0,.val (gH ar),.val (sY ar),.own (acc++sp),s4'])
instance SV (n:Nat) (k:Int) (h:Hd) (ar:ω) (is:List It):Prop:=∀ (m:Nat) (acc:List W) (s0:Sl),n<=m->acc.length+is.length<899->∃ sp:List W,xI is sp/\bO (aO m) [s0,.val (gH ar),.val (sY ar),.own acc,.val (cD k h)]=some (.nx [s0,.val (gH ar),.val (sY ar),.own (acc++sp),.val (cD k h)])
instance SI (n:Nat) (a ar:ω) (is:List It):Prop:=∀ (m:Nat),n<=m->∃ sp:List W,xI is sp/\aO (m+1) [.list (c7 a),gH ar,sY ar]=some (.list sp)
instance PB (P:π) (n:Nat):Prop:=∀ (wh:Bool) (l:ω) (c:Nat),mm P n wh l c->∀ (m M:Nat) (ar:ω) (acc:List W) (s0 s1 s4 s5:Sl),n<=m->ar.length+n<=M->M<100->(wh=true->∃ b∈ar,ft b=true)->acc.length+c<899->∃ (is:List It) (s4' s5':Sl),is.length=c/\(∀ i∈is,GI P M i)/\bz (af 4) (eA (bF m)) (c7 l) [s0,s1,.val (.tuple (ar.map f7)),.own acc,s4,s5]=some (.nx [s0,s1,.val (.tuple (ar.map f7)),.own (acc++is.map rc),s4',s5'])/\SQ n l ar is/\IsL (dS (c7 l)) ar is
def yI {n:Nat} (ih:PB P n) {wh:Bool} {a:ω} {c:Nat} (g:mm P n wh a c) {m M:Nat} {ar:ω} (x:Bk) (hm:n<=m) (hM:ar.length+(n+1)<=M) (h100:M<100) (hw:wh=true->∃ b∈ar++[x],ft b=true) (hc:c<899):∃ is:List It,is.length=c/\(∀ i∈is,GI P M i)/\bF (m+1) [.list (c7 a),.tuple (ar.map f7++[f7 x])]=some (.list (is.map rc))/\SI n a (ar++[x]) is/\IsL (dS (c7 a)) (ar++[x]) is:=by
 obtain ⟨is,s4,s5',l1,i1,e1,q1,iq⟩:=ih wh a c g m M (ar++[x]) [] (.val (.list (c7 a))) (.val (.tuple ((ar++[x]).map f7))) .no .no hm (by simp;omega) h100 hw (by simpa using hc);have ec:=Fg (is:=is) ⟨s4,s5',e1⟩;rw [Rw] at ec;refine ⟨is,l1,i1,ec,λ m hm=>?_,iq⟩;obtain ⟨sp,u4,r1,r2⟩:=q1 m [] (.val (.list (c7 a))) .no hm (by simp;omega);exact ⟨sp,r1,ye ⟨u4,r2⟩⟩
def xD {n M:Nat} {wh:Bool} {k:Int} {h:Hd} {ar:ω} (p:P wh h) (hM:ar.length+n<=M) (hw:wh=true->∃ b∈ar,ft b=true):GI P M (k,h,ar):=⟨⟨wh,p,hw⟩,by show ar.length<=M;omega⟩
def At {m:Nat} {s0 s1 s5:Sl} {ar:ω} {acc:List W} {k:Int} {h:Hd} {a:List W} {is:List It} (hb:jF h=some [a]) (hl:acc.length+is.length<899) (hr:ar.length<100) (ec:bF m [.list a,.tuple (ar.map f7++[f7 (k,h)])]=some (.list (is.map rc))):eA (bF m) [s0,s1,.val (.tuple (ar.map f7)),.own acc,.val (cD k h),s5]=some (.nx [s0,s1,.val (.tuple (ar.map f7)),.own (acc++((k,h,ar)::is:List It).map rc),.val (cD k h),.val (.list a)]):=by
 refine pv hb (by omega) ((jS (ds:=[]) rfl (wd (es:=is.map rc) ec (by simp;omega) (by simp;omega)) rfl).trans ?_);simp [rc,bz,f7]
def Js {m:Nat} {s0 s1 s5:Sl} {ar:ω} {acc:List W} {k:Int} {h:Hd} {a b:List W} {is js:List It} (hb:jF h=some [a,b]) (hl:acc.length+is.length+js.length<899) (hr:ar.length<100) (ec:bF m [.list a,.tuple (ar.map f7++[f7 (k,h)])]=some (.list (is.map rc))) (ed:bF m [.list b,.tuple (ar.map f7++[f7 (k,h)])]=some (.list (js.map rc))):eA (bF m) [s0,s1,.val (.tuple (ar.map f7)),.own acc,.val (cD k h),s5]=some (.nx [s0,s1,.val (.tuple (ar.map f7)),.own (acc++((k,h,ar)::(is++js):List It).map rc),.val (cD k h),.val (.list b)]):=by
 refine pv hb (by omega) ((jS (ds:=[.list b]) rfl (wd (es:=is.map rc) ec (by simp;omega) (by simp;omega)) (jS (ds:=[]) rfl (wd (es:=js.map rc) ed (by simp;omega) (by simp;omega)) rfl)).trans ?_);simp [rc,bz,f7]
def Mr {n:Nat} (ih:∀ k,n=k+1->PB P k) {wh:Bool} {h:Hd} {c:Nat} (g:Ab P n wh h c) (m M:Nat) (ar:ω) (acc:List W) (s0 s1 s5:Sl) (k:Int) (hm:n<=m) (hM:ar.length+n<=M) (h100:M<100) (hw:wh=true->∃ b∈ar,ft b=true) (hl:acc.length+c<899):∃ (is:List It) (s5':Sl),is.length=c/\(∀ i∈is,GI P M i)/\eA (bF m) [s0,s1,.val (.tuple (ar.map f7)),.own acc,.val (cD k h),s5]=some (.nx [s0,s1,.val (.tuple (ar.map f7)),   .own (acc++is.map rc),.val (cD k h),s5'])/\SV n k h ar is/\IsL (wP (cD k h)) ar is:=by
 have al:∀ {x:It} {l:List It},GI P M x->(∀ i∈l,GI P M i)->∀ i∈x::l,GI P M i:=λ {x l} h1 h2 i hi=>(QE.mp hi).elim (λ e=>e▸h1) (h2 i);have up:∀ x:Bk,wh=true->∃ b∈ar++[x],ft b=true:=λ x z=>by obtain ⟨b,hb,q⟩:=hw z;exact ⟨b,by simp [hb],q⟩
 cases g with
 | lf p hb=>exact ⟨[(k,h,ar)],s5,rfl,al (xD p hM hw) (λ i hi=>absurd hi QR),pv hb (by omega) rfl,λ m acc s0 _ ha=>⟨_,.cons rfl .nil,KD hb (by simp at ha;omega)⟩,by rw [Gq (tP hb)];exact ⟨rfl,λ i hi b hb=>.inl (by rw [QD.mp hi] at hb;exact hb)⟩⟩
 | @whl _ _ t a c p g=>
  obtain ⟨m,rfl⟩:∃ j,m=j+1:=⟨m-1,by omega⟩
  obtain ⟨is,l1,i1,ec,q1,iq⟩:=yI (m:=m) (ih _ rfl) g (k,.whl t [.list (c7 a)]) (by omega) hM h100 (λ _=>⟨_,QK.mpr (.inr (QD.mpr rfl)),rfl⟩) (by omega);exact ⟨_,_,by simp [l1],al (xD p hM hw) i1,At rfl (by omega) (by omega) ec,λ m acc s0 hm ha=>by
   obtain ⟨m,rfl⟩:∃ j,m=j+1:=⟨m-1,by omega⟩
   obtain ⟨sp,r1,r2⟩:=q1 m (by omega);rw [Kx] at r2;exact ⟨_,.cons rfl r1,KS r2 (by have:=r1.len;simp at ha;omega) (by omega)⟩,by rw [Gp];exact iq.blk⟩
 | @if1 _ _ t a c p g=>
  obtain ⟨m,rfl⟩:∃ j,m=j+1:=⟨m-1,by omega⟩
  obtain ⟨is,l1,i1,ec,q1,iq⟩:=yI (m:=m) (ih _ rfl) g (k,.ifs t [.list (c7 a),.none]) (by omega) hM h100 (up _) (by omega);exact ⟨_,_,by simp [l1],al (xD p hM hw) i1,At rfl (by omega) (by omega) ec,λ m acc s0 hm ha=>by
   obtain ⟨m,rfl⟩:∃ j,m=j+1:=⟨m-1,by omega⟩
   obtain ⟨sp,r1,r2⟩:=q1 m (by omega);rw [Gs] at r2;exact ⟨_,.cons rfl r1,LB r2 (by have:=r1.len;simp at ha;omega) (by omega)⟩,by rw [GW];exact iq.blk⟩
 | @if2 _ _ t a b c c' p g g'=>
  obtain ⟨m,rfl⟩:∃ j,m=j+1:=⟨m-1,by omega⟩
  obtain ⟨is,l1,i1,ec,q1,iq⟩:=yI (m:=m) (ih _ rfl) g (k,.ifs t [.list (c7 a),.list (c7 b)]) (by omega) hM h100 (up _) (by omega);obtain ⟨js,l2,i2,ed,q2,jq⟩:=yI (m:=m) (ih _ rfl) g' (k,.ifs t [.list (c7 a),.list (c7 b)]) (by omega) hM h100 (up _) (by omega);exact ⟨_,_,by simp [l1,l2],al (xD p hM hw) (λ i hi=>(QK.mp hi).elim (i1 i) (i2 i)),Js rfl (by omega) (by omega) ec ed,λ m acc s0 hm ha=>by
   obtain ⟨m,rfl⟩:∃ j,m=j+1:=⟨m-1,by omega⟩
   obtain ⟨sp,r1,r2⟩:=q1 m (by omega);obtain ⟨sq,r3,r4⟩:=q2 m (by omega);rw [Gs] at r2 r4;exact ⟨_,.cons rfl (r1.app r3),Lm r2 r4 (by have:=r1.len;have:=r3.len;simp at ha;omega) (by omega)⟩,by rw [Gi];exact (iq.app jq).blk⟩
def Cr {n:Nat} (ih:∀ k,n=k+1->PB P k):PB P n:=λ wh l=>by
 induction l with
 | nil=>
  intro c g m M ar acc s0 s1 s4 s5 _ _ _ _ _;cases g;exact ⟨[],s4,s5,rfl,(λ i hi=>absurd hi QR),by simp [c7,bz],(λ m acc s0 s4 _ _=>⟨[],s4,.nil,by simp [c7,bz]⟩),⟨rfl,λ i hi=>absurd hi QR⟩⟩
 | cons b l il=>
  intro c g m M ar acc s0 s1 s4 s5 hm hM h100 hw hl;cases g with
  | cons g1 g2=>
   have p2:=RN 0;obtain ⟨is,t5,l1,i1,e1,q1,iq⟩:=Mr ih g1 m M ar acc s0 s1 s5 _ hm hM h100 hw (by omega);obtain ⟨js,u4,u5,l2,i2,e2,q2,jq⟩:=il _ g2 m M ar (acc++is.map rc) s0 s1 (.val (cD _ _)) t5 hm hM h100 hw (by simp;omega);refine ⟨is++js,u4,u5,by simp [l1,l2],λ i hi=>(QK.mp hi).elim (i1 i) (i2 i),?_,λ m acc s0 s4 hm ha=>?_,iq.app jq⟩
   . refine (jS (δ2:=[s0,s1,.val (.tuple (ar.map f7)),.own acc,.val (cD _ _),s5]) rfl e1 e2).trans ?_;simp
   . simp only [QO] at ha;obtain ⟨sp,r1,r2⟩:=q1 m acc s0 hm (by omega);have:=r1.len;obtain ⟨sq,v4,r3,r4⟩:=q2 m (acc++sp) s0 (.val (cD _ _)) hm (by simp;omega);refine ⟨sp++sq,v4,r1.app r3,(jS (δ2:=[s0,.val (gH ar),.val (sY ar),.own acc,.val (cD _ _)]) rfl r2 r4).trans ?_⟩;simp
def Lf:∀ n,PB P n:=λ n=>by
 induction n with
 | zero=>exact Cr λ k z=>by cases z
 | succ n ih=>exact Cr λ k z=>by cases z;exact ih
def vQ {wh:Bool} {n:Nat} {l:ω} {c:Nat} (g:mm P n false l c) (hn:n<=6) (hc:c<899):∃ is:List It,is.length=c/\(∀ i∈is,GI P 6 i)/\bF 8 [.list (c7 l),.none]=some (.list (is.map rc))/\∃ sp,xI is sp/\aO 7 [.list (c7 l),gH [],.none]=some (.list sp)/\IsL (dS (c7 l)) [] is:=by
 have z0:=sz 0 (by decide);obtain ⟨is,s4,s5,l1,i1,e,q,iq⟩:=Lf _ _ _ _ g 7 6 [] [] (.val (.list (c7 l))) (.val .none) .no .no (by omega) (by simpa using hn) (by decide) (λ z=>by cases z) (by simpa using hc);refine ⟨is,l1,i1,?_,by obtain ⟨sp,u4,r1,r2⟩:=q 6 [] (.val (.list (c7 l))) .no hn (by simp;omega);exact ⟨sp,r1,ye ⟨u4,r2⟩,iq⟩⟩;show cn 2 6 _ _=_;refine aZ rfl ?_;refine ao (δ1:=[.val (.list (c7 l)),.val .none,.val (.tuple []),.no,.no,.no]) (by first | rfl | simp! [bM,uD,QF z0]) ?_;refine ao (δ1:=[.val (.list (c7 l)),.val .none,.val (.tuple []),.own [],.no,.no]) (by first | rfl | simp! [uD,QF z0]) ?_;refine ao (fP (ds:=c7 l) (by first | rfl | simp! [uD]) e) ?_;first | rfl | simp! [uD,SJ]
end
instance Ac:Tr->PyData
 | .num v=>.tuple [.str "num", .int v]
 | .sig k=>.tuple [.str (qJ k)]
 | .nam x=>.tuple [.str "name", .str x]
 | .box _=>.none | .op _ _ _=>.none
instance Df:Tr->Bool
 | .num _=>true
 | .sig _=>true
 | .nam _=>true
 | _=>false
instance jG (j:Fin 3):Tr->Bool
 | .sig k=>k==j
 | .num _=>false | .nam _=>false | .box _=>false | .op _ _ _=>false
def lg:∀ (t:Tr),∀ l∈fK t,Df l=true
 | .num _,l,h=>by rw [QD.mp h];rfl
 | .sig _,l,h=>by rw [QD.mp h];rfl
 | .nam _,l,h=>by rw [QD.mp h];rfl
 | .box t,l,h=>lg t l h
 | .op _ a b,l,h=>by
  rcases QK.mp h with h | h
  . exact lg a l h
  . exact lg b l h
def OU {t:Tr} (h:Df t=true):(tw t).py=some (Ac t):=by
 cases t with
 | num v=>rfl
 | sig k=>rfl
 | nam x=>rfl
 | _=>cases h
def G9:∀ (l:List Tr),(∀ t∈l,Df t=true)->W.pys (l.map tw)=some (l.map Ac)
 | [],_=>rfl
 | t::l,h=>by
  have ih:=G9 l λ u hu=>h u (by simp [hu]);simp only [QT,W.pys,OU (h t (by simp)),ih,QC,QI]
instance Nd (t:Tr):Prop:=∀ x,t=.nam x->strOk x=true
def HJ:∀ k:Fin 3,strOk (qJ k)=true:=by decide +kernel
def Ll:strOk (Str.ofString "num")=true/\strOk (Str.ofString "name")=true:=by decide +kernel
def Mv {t:Tr} (h:Df t=true) (o:Nd t):(Ac t).canLay0=true:=by
 cases t with
 | num v=>simp [Ac,canLay0,canLayAll0,Ll]
 | sig k=>simp [Ac,canLay0,canLayAll0,HJ]
 | nam x=>simp [Ac,canLay0,canLayAll0,Ll,o x rfl]
 | _=>cases h
def Ak:∀ (l:List Tr),(∀ t∈l,Df t=true/\Nd t)->canLayAll0 (l.map Ac)=true
 | [],_=>rfl
 | t::l,h=>by
  have ih:=Ak l λ u hu=>h u (by simp [hu]);have:=Mv (h t (by simp)).1 (h t (by simp)).2;simp [canLayAll0,ih,this]
def Qe:∀ j k:Fin 3,(qJ k==qJ j)=(k==j):=by decide +kernel
def Oj {t:Tr} (h:Df t=true) (j:Fin 3):PyData.eqv (Ac t) (.tuple [.str (qJ j)])=jG j t:=by
 cases t with
 | num v=>simp [Ac,jG,PyData.eqv,eqvAll]
 | sig k=>simpa [Ac,jG,PyData.eqv,eqvAll] using Qe j k
 | nam x=>simp [Ac,jG,PyData.eqv,eqvAll]
 | _=>cases h
def GN (j:Fin 3):∀ (l:List Tr),(∀ t∈l,Df t=true)->((l.map Ac).any λ y=>PyData.eqv y (.tuple [.str (qJ j)]))=l.any (jG j)
 | [],_=>rfl
 | t::l,h=>by
  rw [QT,RQ,RQ,Oj (h t (by simp)),GN j l λ u hu=>h u (by simp [hu])]
def GE (j:Fin 3) (l:List Tr) (h:∀ t∈l,Df t=true/\Nd t):kR (.tuple [.str (qJ j)]) (.list (l.map tw))=some (l.any (jG j)):=by
 have c1:jf (.tuple [.str (qJ j)]) (.list (l.map tw))=none:=rfl;have c2:(PyData.tuple [.str (qJ j)]).canLay0=true:=by simp [canLay0,canLayAll0,HJ]
 have c3:(PyData.tuple [.str (qJ j)]).depth<=60:=by simp [PyData.depth,PyData.depthAll]
 have p1:(W.tuple [.str (qJ j)]).py=some (.tuple [.str (qJ j)]):=rfl;simp only [kR,c1,jD,QC,p1,G9 l λ t ht=>(h t ht).1,c2,Ak l h,c3,decide_true,Bool.and_self,RW,GN j l λ t ht=>(h t ht).1]
instance own (t:Tr):Bool:=(fK t).any (jG 0)||(fK t).any (jG 2)
instance mj (nm y:Str):W:=.tuple [.str "name", .str nm,.str y]
instance cs (nm:Str) (t:Tr):List W:=if own t=true then [.none] else (tW t).map (mj nm)
instance D6 (t:Tr):Prop:=∀ x∈tW t,strOk x=true
def BK {t:Tr} (h:D6 t):∀ l∈fK t,Df l=true/\Nd l:=λ l hl=>⟨lg t l hl,λ x e=>h x (by subst e;exact Sr.mpr ⟨_,hl,rfl⟩)⟩
def Cn (nm:Str):∀ (l:List Tr),b9 (af 1) (ay bp 1[0]! !"name") (aK #[!"name",ae 0,1[1]!]) [.val (.str nm),.no] (l.map tw)=some ((Bn l).map (mj nm))
 | []=>rfl
 | t::l=>by
  have ih:=Cn nm l;have z3:=sz 3 (by decide);cases t with
  | num v=>simp! [QT,b9,tw,uD,su,P3,ih];simp [Bn]
  | sig k=>simp! [QT,b9,tw,uD,su,P2,ih];simp [Bn]
  | nam x=>simp! [QT,b9,tw,uD,su,Ge,decide_true,QF z3,ih];simp [Bn,mj]
  | box t=>simp! [QT,b9,tw,uD,su,PJ,ih];simp [Bn]
  | op k a b=>simp! [QT,b9,tw,uD,su,PL,ih];simp [Bn]
def pQ (nm:Str) (t:Tr) (hd:qe t<9) (hc:jP t<=300) (ho:D6 t):bN [.str nm,tw t]=some (.list (cs nm t)):=by
 have z1:=sz 1 (by decide);have lv:=i9 t 9 hd (by omega);have zl:((fK t).map tw).length<=sizeLine:=sz _ (by have:=g7 t;simp;omega);have i0:kR (.tuple [.str "lane"]) (.list ((fK t).map tw))=some ((fK t).any (jG 0)):=GE 0 (fK t) (BK ho);have i2:kR (.tuple [.str "mine"]) (.list ((fK t).map tw))=some ((fK t).any (jG 2)):=GE 2 (fK t) (BK ho);have nk:=Cn nm (fK t);refine aZ rfl ?_;refine ao (δ1:=[.val (.str nm),.val (tw t),.val (.list ((fK t).map tw)),.no]) (by first | rfl | simp! [uD,bM,lv]) ?_;refine ao (δ1:=[.val (.str nm),.val (tw t),.val (.list ((fK t).map tw)),.val (.list ((tW t).map (mj nm)))]) (aQ (d:=.list ((tW t).map (mj nm))) ?_ rfl) (bq ?_)
 . simp! [uD,QF zl];rw [nk];rfl
 . have t1:kj (ay kR (aK #[!"lane"]) (aq 2)) (ay kR (aK #[!"mine"]) (aq 2)) [.val (.str nm),.val (tw t),.val (.list ((fK t).map tw)),.val (.list ((tW t).map (mj nm)))]=some (own t):=by
    unfold own;cases h0:(fK t).any (jG 0) with
    | true=>simp! [uD,QF z1,i0,h0,Bool.true_or]
    | false=>simp! [uD,QF z1,i0,i2,h0,Bool.false_or]
   unfold cs;cases hw:own t with
   | true=>rw [hw] at t1;simp only [Fn,t1];simp! [uD,QF z1]
   | false=>rw [hw] at t1;simp only [Fn,t1];simp! [uD]
def Dd {fo fk fx:ζ} {δ:DS} {S S3:ak} {d:Nat} {kvs:ν} {y z:W} {k:List aB} (h1:fo δ S=some (.ok (.ref d),S)) (hd:S[d]?=some (.dN kvs)) (h2:fk δ S=some (.ok y,S)) (h3:fx δ S=some (.ok z,S3)) (hd3:S3[d]?=some (.dN kvs)) (hk:fB y=some k) (hl:kvs.length<9000):
 so fo fk fx δ S=match aX kvs k with
  | some v=>some (.ok v,S3)
  | none=>some (.ok z,S3.set d (.dN (eI kvs k z))):=by
 have a1:lc (.ref d) S=some (d,kvs):=by simp [lc,d7,hd]
 have a3:lc (.ref d) S3=some (d,kvs):=by simp [lc,d7,hd3]
 have hz:kvs.length<sizeLine:=QZ hl (sz 9000 (by decide));simp only [so,h1,au,a1,Su,RW,h2,h3,a3,QC,hk,QF hz];all_goals (cases aX kvs k <;> rfl)
def qM {fo:ζ} {fv:ζ} {δ:DS} {S S1:ak} {l:Nat} {q:List W} {d:W} (h1:fo δ S=some (.ok (.ref l),S1)) (h2:S1[l]?=some (.lst q)) (h3:fv δ S1=some (.ok d,S1)) (h4:q.length<9000):dq fo fv δ S=some (.nx δ,S1.set l (.lst (q++[d]))):=by
 have hz:q.length<sizeLine:=QZ h4 (sz 9000 (by decide));simp only [dq,h1,ke,fH h2,Su,RW,h3,QC,QF hz,QI]
instance oT (E:ν) (k:List aB):List W:=(E.filter λ e=>decide (e.1=k)).map (·.2)
def ii (E:ν) (k q:List aB) (x:W):oT (E++[(k,x)]) q=if q=k then oT E q++[x] else oT E q:=by
 unfold oT;rw [filter_append,Rw];by_cases h:q=k
 . subst h;simp
 . have h':¬ k=q:=λ z=>h z.symm;simp [h,h']
def BM (E:ν) (k:List aB):(oT E k).length<=E.length:=by
 unfold oT;rw [Rk];exact Se _ _
instance Oh:Ob->Bool
 | .dK _=>true
 | .dT _=>true
 | _=>false
structure LK (D:Nat->Option Ob) (S:ak) (I d:Nat) (kvs:ν) (E:ν):Prop where
 hI:S[I]?=some (.ins (Str.ofString "Links") [(Str.ofString "behind", .ref d)])
 hd:S[d]?=some (.dN kvs)
 hl:kvs.length<=E.length
 nn:∀ k,aX kvs k=none->oT E k=[]
 ss:∀ k v,aX kvs k=some v->∃ l,v=.ref l/\S[l]?=some (.lst (oT E k))
 one:∀ k k' l,aX kvs k=some (.ref l)->aX kvs k'=some (.ref l)->k=k'
 kp:∀ m o,D m=some o->S[m]?=some o/\Oh o=true
section
variable {D:Nat->Option Ob}
def KW {S:ak} {I:Nat} {fs:List (Str×W)} (h:S[I]?=some (.ins (Str.ofString "Links") fs)):iT (Str.ofString "Links") (.ref I) S=some (I,fs):=by simp [iT,d7,h]
def FK (d:Nat):List.lookup (Str.ofString "behind") [(Str.ofString "behind", W.ref d)]=some (.ref d):=by simp [List.lookup]
def A5 {S:ak} {I d:Nat} {kvs E:ν} (h:LK D S I d kvs E) (s1:Sl) (key line c:W) (k:List aB) (hk:fB c=some k) (hE:E.length<8000):∃ S' kvs',gJ [.val (.ref I),s1,.val key,.val line,.val c] S=some (.nx [.val (.ref I),s1,.val key,.val line,.val c],S')/\LK D S' I d kvs' (E++[(k,.tuple [key,line])]):=by
 have z0:=sz 0 (by decide);have z2:=sz 2 (by decide);let δ:DS:=[.val (.ref I),s1,.val key,.val line,.val c]
 have hlt:d<S.length:=(oG h.hd).1;have f1:pc "Links" "behind" (ab (ae 0)) δ S=some (.ok (.ref d),S):=by first | rfl | simp! [δ,uS,uD,KW h.hI,FK]
 have f3:eJ (ab ag) δ S=some (.ok (.ref S.length),S++[.lst []]):=by first | rfl | simp! [δ,uS,uD,QF z0]
 have dd:=Dd (fk:=ab (ae 4)) f1 h.hd rfl f3 (aY h.hd) hk (by have:=h.hl;omega);have tv:∀ S1,ab (aK #[ae 2,ae 3]) δ S1=some (.ok (.tuple [key,line]),S1):=λ S1=>by simp! [δ,uS,uD,QF z2]
 have el:=BM E k;cases hv:aX kvs k with
 | some v=>
  obtain ⟨l,rfl,hl⟩:=h.ss k v hv;rw [hv] at dd;refine ⟨_,kvs,qM dd (aY hl) (tv _) (by omega),?_⟩;have hne:∀ {m o},S[m]?=some o->o≠.lst (oT E k)->l≠m:=λ hm ho=>bY hl hm λ z=>ho z.symm;refine ⟨set_ne' (aY h.hI) (hne h.hI (by simp)),set_ne' (aY h.hd) (hne h.hd (by simp)),by have:=h.hl;simp;omega,λ q hq=>?_,λ q w hq=>?_,h.one,λ m o hm=>⟨set_ne' (aY (h.kp m o hm).1) (hne (h.kp m o hm).1 (λ z=>by have:=(h.kp m o hm).2;rw [z] at this;cases this)),(h.kp m o hm).2⟩⟩
  . have:q≠k:=λ z=>by subst z;rw [hv] at hq;cases hq
    rw [ii,QS this];exact h.nn q hq
  . obtain ⟨l',rfl,hl'⟩:=h.ss q w hq;refine ⟨l',rfl,?_⟩;rw [ii];by_cases e:q=k
    . subst e;rw [hv] at hq;cases hq;rw [QF rfl];exact set_eq' (aY hl)
    . rw [QS e];exact set_ne' (aY hl') λ z=>e (h.one q k l' hq (by rw [hv,z]))
 | none=>
  rw [hv] at dd;have pk:=j6 (W.ref S.length) hv;rw [pk] at dd;have e0:=h.nn k hv;have n1:((S++[Ob.lst []]:ak).set d (Ob.dN (kvs++[(k,W.ref S.length)])))[S.length]?=some (Ob.lst []):=set_ne' (bS _ _) (by omega);have hIl:I<S.length:=(oG h.hI).1;have hId:d≠I:=bY h.hd h.hI (by simp);refine ⟨_,kvs++[(k,.ref S.length)],qM dd n1 (tv _) (by simp),?_⟩;refine ⟨set_ne' (set_ne' (aY h.hI) hId) (by omega),set_ne' (set_eq' (aY h.hd)) (by omega),by have:=h.hl;simp;omega,λ q hq=>?_,λ q w hq=>?_,λ q q' l hq hq'=>?_,λ m a hm=>?_⟩
  . rw [dU kvs k q _ hv] at hq;by_cases e:q=k
    . rw [QF e] at hq;cases hq
    . rw [QS e] at hq;rw [ii,QS e];exact h.nn q hq
  . rw [dU kvs k q _ hv] at hq;by_cases e:q=k
    . subst e;rw [QF rfl] at hq;cases hq;refine ⟨S.length,rfl,?_⟩;rw [ii,QF rfl,e0];exact set_eq' n1
    . rw [QS e] at hq;obtain ⟨l',rfl,hl'⟩:=h.ss q w hq;have:l'<S.length:=(oG hl').1;refine ⟨l',rfl,?_⟩;rw [ii,QS e];exact set_ne' (set_ne' (aY hl') (bY h.hd hl' (by simp))) (by omega)
  . have lo:∀ q,aX kvs q=some (.ref l)->l<S.length:=λ q hq=>by
     obtain ⟨l',e,hl'⟩:=h.ss q _ hq;cases e;exact (oG hl').1
    rw [dU kvs k q _ hv] at hq;rw [dU kvs k q' _ hv] at hq';by_cases e:q=k <;> by_cases e':q'=k
    . rw [e,e']
    . rw [QF e] at hq;rw [QS e'] at hq';cases hq;exact absurd (lo q' hq') (by omega)
    . rw [QS e] at hq;rw [QF e'] at hq';cases hq';exact absurd (lo q hq) (by omega)
    . rw [QS e] at hq;rw [QS e'] at hq';exact h.one q q' l hq hq'
  . have g:=(h.kp m a hm).1;have q:=(h.kp m a hm).2;have:m<S.length:=(oG g).1;exact ⟨set_ne' (set_ne' (aY g) (bY h.hd g (λ z=>by rw [<-z] at q;cases q))) (by omega),q⟩
def uH {I d:Nat} (s1:Sl) (key line:W):∀ (kc:List (W×List aB)) (S:ak) (kvs E:ν) (s4:Sl),(∀ p∈kc,fB p.1=some p.2)->E.length+kc.length<=8000->LK D S I d kvs E->∃ S' kvs' s4',bv (af 4) gJ (kc.map (·.1)) [.val (.ref I),s1,.val key,.val line,s4] S=some (.nx [.val (.ref I),s1,.val key,.val line,s4'],S')/\LK D S' I d kvs' (E++kc.map λ p=>(p.2,.tuple [key,line]))
 | [],S,kvs,E,s4,_,_,h=>⟨S,kvs,s4,rfl,by simpa using h⟩
 | p::kc,S,kvs,E,s4,hk,hl,h=>by
  simp only [QY] at hl;obtain ⟨S1,kvs1,e1,h1⟩:=A5 h s1 key line p.1 p.2 (hk p (by simp)) (by omega);obtain ⟨S',kvs',s4',e2,h2⟩:=uH s1 key line kc S1 kvs1 _ (.val p.1) (λ q hq=>hk q (by simp [hq])) (by simp;omega) h1;exact ⟨S',kvs',s4',(bm rfl e1).trans e2,by simpa using h2⟩
def ND:(Str.ofString "add" == Str.ofString "behind")=false:=by decide +kernel
def OO {I d:Nat} {S:ak} {kvs E:ν} (h:LK D S I d kvs E) (kc:List (W×List aB)) (hk:∀ p∈kc,fB p.1=some p.2) (hl:E.length+kc.length<=8000) (key line:W) {fo:μ} {fa:Υ} {δ:DS} (h1:fo δ=some (.ref I)) (h2:fa δ S=some (.ok [.list (kc.map (·.1)),key,line],S)):
 ∃ S' kvs',bC (dm "Links" "add" aS (ab fo) fa) δ S=some (.nx δ,S')/\LK D S' I d kvs' (E++kc.map λ p=>(p.2,.tuple [key,line])):=by
 obtain ⟨S',kvs',s4',e,g⟩:=uH (.val (.list (kc.map (·.1)))) key line kc S kvs E .no hk hl h;refine ⟨S',kvs',jB (d:=.none) (BH h1 h.hI (by simp [List.lookup,ND]) h2 ?_),g⟩;refine (bg rfl).trans ((Q9 eM (?_:_=some (.nx [.val (.ref I),.val (.list (kc.map (·.1))),.val key,.val line,s4'],S'))).trans rfl);exact (bT (S1:=S) (ds:=kc.map (·.1)) (by first | rfl | simp! [uS,uD,bM])).trans e
end
instance oe (nm:Str):W:=.tuple [.str "def", .str nm]
instance iD (nm:Str):List aB:=[Sum.inr (Str.ofString "def"),Sum.inr nm]
instance EV (nm:Str):W:=.tuple [.str "back", .str nm]
instance kK (nm:Str):List aB:=[Sum.inr (Str.ofString "back"),Sum.inr nm]
instance yJ (k:Int):W:=.tuple [.str "row", .int k]
instance nh (k:Int):List aB:=[Sum.inr (Str.ofString "row"),Sum.inl k]
instance jO (nm y:Str):List aB:=[Sum.inr (Str.ofString "name"),Sum.inr nm,Sum.inr y]
noncomputable abbrev En:=W×List aB×W
abbrev ξ:=List (List aB×En)
instance FZ (e:En):W:=.tuple [e.1,e.2.2]
instance jr (EE:ξ):List (List aB×W):=EE.map λ e=>(e.1,FZ e.2)
def DM (a b:ξ):jr (a++b)=jr a++jr b:=by simp [jr]
instance iw (kc:List (W×List aB)) (kw:W) (kk:List aB) (ln:Int):List (List aB×En):=kc.map λ c=>(c.2,(kw,kk,.int ln))
instance eY (nm:Str) (ar:ω):List (W×List aB):=(oe nm,iD nm)::ar.map λ b=>(yJ b.1,nh b.1)
instance mM (nm:Str) (t:Tr):List (W×List aB):=if own t=true then [(.none,[])] else (tW t).map λ y=>(mj nm y,jO nm y)
def oi (nm:Str) (t:Tr):∀ p∈mM nm t,fB p.1=some p.2:=λ p hp=>by
 unfold mM at hp;split at hp
 . rw [QD.mp hp];rfl
 . obtain ⟨y,_,rfl⟩:=Q7.mp hp;rfl
def FY (nm:Str) (t:Tr):(mM nm t).map (·.1)=cs nm t:=by
 unfold mM cs;split <;> simp [Ry]
def og (nm:Str) (t:Tr):(mM nm t).length<=jP t:=by
 have h1:(tW t).length<=jP t:=Rh (List.length_filterMap_le _ _) (g7 t);have h2:1<=jP t:=by cases t <;> simp [jP]
 unfold mM;split <;> simp <;> omega
def B1 (nm:Str) (ar:ω):∀ p∈eY nm ar,fB p.1=some p.2:=λ p hp=>by
 rcases QE.mp hp with rfl | hp
 . rfl
 . obtain ⟨b,_,rfl⟩:=Q7.mp hp;rfl
def uz:∀ (ar:ω),b9 (af 0) jj (aK #[!"row",0[1]!]) [.no] (ar.map f7)=some (ar.map λ b=>yJ b.1)
 | []=>rfl
 | b::ar=>by
  have z2:=sz 2 (by decide);have ih:=uz ar;simp! [QT,b9,f7,cD,uD,Ge,QF z2] at ih ⊢;rw [ih];rfl
def DF (nm:Str) (ar:ω) (hl:ar.length<=100):pH [.str nm,.tuple (ar.map f7)]=some (.list ((eY nm ar).map (·.1))):=by
 have z1:=sz 1 (by decide);have z2:=sz 2 (by decide);have zl:(ar.map f7).length<=sizeLine:=sz _ (by simp;omega);have ga:bB (.list [oe nm]) (.list (ar.map λ b=>yJ b.1))=some (.list ((eY nm ar).map (·.1))):=by
  rw [fI (sz _ (by simp;omega))];simp [eY,Ry,RC]
 refine aZ rfl (bq ?_);have c1:bc (gF [none] (bA (aq 1)) (af 0) jj (aK #[!"row",0[1]!])) (bM 2 [.str nm,.tuple (ar.map f7)])=some (.list (ar.map λ b=>yJ b.1)):=by
  simp! [bM,uD,QF zl];rw [uz ar];rfl
 have c2:bc (bu #[aK #[!"def",ae 0]]) (bM 2 [.str nm,.tuple (ar.map f7)])=some (.list [oe nm]):=by
  first | rfl | (simp! [bM,uD,QF z1,QF z2];rfl)
 simp only [av,c1,c2,QC,ga]
instance cB (ar:ω):Int:=((ar.filter ft).map (·.1)).getLast?.getD 0
def xB:∀ (ar:ω),b9 (af 0) (ay bp 0[0]! !"while") 0[1]! [.no] (ar.map f7)=some ((ar.filter ft).map λ b=>.int b.1)
 | []=>rfl
 | b::ar=>by
  have ih:=xB ar;have q:=(kq (aA b.2)).1;by_cases h:aA b.2=11
  . rw [QL h] at q;have:ft b=true:=by simp [ft,h]
    simp! [QT,b9,f7,cD,uD,su,Ge,q] at ih ⊢;rw [ih];simp [this]
  . rw [QJ h] at q;have:ft b=false:=by simp [ft,h]
    simp! [QT,b9,f7,cD,uD,su,Ge,q] at ih ⊢;rw [ih];simp [this]
def Ez (ar:ω) (h:∃ b∈ar,ft b=true):gz ((ar.filter ft).map λ b=>W.int b.1) (-1)=some (.int (cB ar)):=by
 obtain ⟨b,hb,hw⟩:=h;have hm:b∈ar.filter ft:=Rq.mpr ⟨hb,hw⟩;rcases List.eq_nil_or_concat (ar.filter ft) with e | ⟨l,c,e⟩
 . rw [e] at hm;cases hm
 . unfold cB;rw [e,List.concat_eq_append,Rw,Rw];simp only [QT,map_nil];rw [MM];simp
instance gd (t:Tr) (d c:Nat):Prop:=qe t<=d/\jP t<=c/\D6 t
instance w6 (nm:Str) (k:Int) (ar:ω):Option Str->List (List aB×En)
 | some x=>iw (eY nm ar) (mj nm x) (jO nm x) k
 | none=>[]
instance LJ (nm:Str) (k:Int) (ar:ω):Hd->List (List aB×En)
 | .call _ f _=>iw (eY nm ar) (oe f) (iD f) k
 | _=>[]
instance vo (nm:Str) (k:Int) (h:Hd) (ar:ω):List (List aB×En):=
 w6 nm k ar (qN h)++((if aA h=4∨aA h=5 then iw (eY nm ar) (yJ (cB ar)) (nh (cB ar)) k else [])++((if aA h=3 then iw (eY nm ar) (oe nm) (iD nm) k else [])++LJ nm k ar h))
instance fm (nm:Str) (k:Int):Hd->List (List aB×En)
 | .ifs t _=>iw (mM nm t) (yJ k) (nh k) k
 | .whl t _=>iw (mM nm t) (yJ k) (nh k) k
 | .ret t=>iw (mM nm t) (EV nm) (kK nm) k
 | .set x t=>iw (mM nm t) (mj nm x) (jO nm x) k
 | .join x j _=>if j=Str.ofString "ahead" then iw [(.none,[])] (mj nm x) (jO nm x) k else []
 | _=>[]
instance KB (nm:Str) (k:Int) (f:Str) (ps:Ω) (ts:List Tr):List (List aB×En):=(ps.zip ts).flatMap λ p=>iw (mM nm p.2) (mj f p.1) (jO f p.1) k
instance xT (nm:Str) (k:Int) (ps:Ω):Hd->List (List aB×En)
 | .call x f ts=>iw [(EV f,kK f)] (mj nm x) (jO nm x) k++KB nm k f ps ts
 | _=>[]
section
variable {D:Nat->Option Ob} {I d:Nat} {S:ak} {kvs:ν} {EE:ξ}
def p9 (h:LK D S I d kvs (jr EE)) (kc:List (W×List aB)) (hk:∀ p∈kc,fB p.1=some p.2) (hl:EE.length+kc.length<=8000) (kw:W) (kk:List aB) (ln:Int) {fo:μ} {fa:Υ} {δ:DS} (h1:fo δ=some (.ref I)) (h2:fa δ S=some (.ok [.list (kc.map (·.1)),kw,.int ln],S)):
 ∃ S' kvs',bC (dm "Links" "add" aS (ab fo) fa) δ S=some (.nx δ,S')/\LK D S' I d kvs' (jr (EE++iw kc kw kk ln)):=by
 obtain ⟨S',kvs',e,g⟩:=OO h kc hk (by simpa [jr] using hl) kw (.int ln) h1 h2;refine ⟨S',kvs',e,?_⟩;rw [DM];simpa [jr,iw,FZ,Ry,RC] using g
def n4 {c:DS->ak->SM Bool} {act:τ} {δ:DS} {b:Bool} (hc:c δ S=some (.ok b,S)) (h:LK D S I d kvs (jr EE)) {X:ξ} (ha:b=true->∃ S' kvs',act δ S=some (.nx δ,S')/\LK D S' I d kvs' (jr (EE++X))) (hx:b=false->X=[]):∃ S' kvs',bR c act (aw az) δ S=some (.nx δ,S')/\LK D S' I d kvs' (jr (EE++X)):=by
 cases b with
 | true=>
  obtain ⟨S',kvs',e,g⟩:=ha rfl;exact ⟨S',kvs',(c6 hc).trans e,g⟩
 | false=>exact ⟨S,kvs,(bi hc).trans rfl,by rw [hx rfl,Ra];exact h⟩
end
def K5 (x:Str):fL (.str x) .none=some true:=by first | rfl | simp [fL]
def Mx:fL .none .none=some false:=by first | rfl | simp [fL]
def Q2 (h:Hd):fL (xt h) .none=some (qN h).isSome:=by
 unfold xt;cases qN h with
 | some x=>exact K5 x
 | none=>exact Mx
def NI {h:Hd} (nm:Str) (k:Int) (ar:ω) (e:aA h=9):∃ f x l,rs h=x::W.str f::l/\LJ nm k ar h=iw (eY nm ar) (oe f) (iD f) k:=by
 cases h with
 | call x f ts=>exact ⟨f,_,_,rfl,rfl⟩
 | _=>exact nomatch (show false=true from QL e)
def L8 {h:Hd} (nm:Str) (k:Int) (ar:ω) (e:aA h≠9):LJ nm k ar h=[]:=by
 cases h with
 | call x f ts=>exact absurd rfl e
 | _=>rfl
def dW (kc:List (W×List aB)) (kw:W) (kk:List aB) (ln:Int):(iw kc kw kk ln).length=kc.length:=by simp [iw]
def vC (nm:Str) (ar:ω):(eY nm ar).length=ar.length+1:=by simp [eY]
section
variable {D:Nat->Option Ob} {I d:Nat} {S:ak} {kvs:ν} {EE:ξ}
instance Ad (I:Nat) (nm:Str) (k:Int) (h:Hd) (ar:ω) (s7:Sl):DS:=[.val (.ref I),.val (.str nm),.val (cD k h),.val (.tuple (ar.map f7)),.val (.list ((eY nm ar).map (·.1))),.val (.int k),.val (xt h),s7]
def Bm (h:LK D S I d kvs (jr EE)) (hl:EE.length+50<=8000) (nm:Str) (k:Int) (hd:Hd) (ar:ω) (ha:ar.length<=6) (hb:aA hd=4∨aA hd=5->∃ b∈ar,ft b=true):∃ S' kvs',kr [.ref I,.str nm,cD k hd,.tuple (ar.map f7)] S=some (.ok .none,S')/\LK D S' I d kvs' (jr (EE++vo nm k hd ar)):=by
 have wl:=vC nm ar;have wk:=B1 nm ar;have wr:=DF nm ar (by omega);have gr:=zw k hd;let W4:W:=.list ((eY nm ar).map (·.1));have a0:∀ s7,2[0]! (Ad I nm k hd ar s7)=some (.str (dF (aA hd))):=λ s7=>x0 rfl;obtain ⟨S1,kvs1,e1,h1⟩:=n4 (c:=ab (ay fL (aq 6) (dC .none))) (act:=bC (dm "Links" "add" aS (ab (ae 0)) (ab #[ae 4,aK #[!"name",ae 1,ae 6],ae 5]))) (δ:=Ad I nm k hd ar .no) (b:=(qN hd).isSome) (X:=w6 nm k ar (qN hd)) (ai (pS rfl rfl (Q2 hd))) h (λ hb=>by
  cases hg:qN hd with
  | none=>rw [hg] at hb;cases hb
  | some x=>
   have gw:xt hd=.str x:=by simp [xt,hg]
   exact p9 h (eY nm ar) wk (by omega) (mj nm x) (jO nm x) k rfl (ai (vF rfl (vM rfl rfl (Q9 some gw)) rfl))) (λ hb=>by cases hg:qN hd with | none=>rfl | some x=>rw [hg] at hb;cases hb)
 have l1:(w6 nm k ar (qN hd)).length<=7:=by
  cases qN hd with
  | some x=>simp only [w6,dW];omega
  | none=>simp [w6]
 generalize hX:(w6 nm k ar (qN hd))=X1 at h1 l1;have st2:∃ s7 S2 kvs2,bR (ab (ay jf 2[0]! (aK #[!"break",!"again"]))) (aC (aw (aG (bc (gF [none] (bA (aq 3)) (af 0) (ay bp 0[0]! !"while") 0[1]!)) (af 7))) (bC (dm "Links" "add" aS (ab (ae 0)) (ab #[ae 4,aK #[!"row",av aI (aq 7) (Di nK !1)],ae 5])))) (aw az) (Ad I nm k hd ar .no) S1=some (.nx (Ad I nm k hd ar s7),S2)/\LK D S2 I d kvs2 (jr (EE++X1++if aA hd=4∨aA hd=5 then iw (eY nm ar) (yJ (cB ar)) (nh (cB ar)) k else [])):=by
  have t:ay jf 2[0]! (aK #[!"break",!"again"]) (Ad I nm k hd ar .no)=some (decide (aA hd=4∨aA hd=5)):=pS (a0 _) (j4 rfl rfl) (ki (aA hd)).2.1;by_cases hc:aA hd=4∨aA hd=5
  . rw [QL hc] at t;have la:=Ez ar (hb hc);let wh:W:=.list ((ar.filter ft).map λ b=>.int b.1);obtain ⟨S2,kvs2,e2,h2⟩:=p9 h1 (eY nm ar) wk (by rw [QO];omega) (yJ (cB ar)) (nh (cB ar)) k (fo:=ae 0) (fa:=(ab #[ae 4,aK #[!"row",av aI (aq 7) (Di nK !1)],ae 5])) (δ:=Ad I nm k hd ar (.val wh)) rfl (ai (vF rfl (j4 rfl (rj rfl rfl la)) rfl));exact ⟨.val wh,S2,kvs2,(c6 (ai t)).trans ((ah (δ':=Ad I nm k hd ar (.val wh)) (S':=S1) (aH (aQ (d:=wh) (Ke rfl (by rw [Rk];omega) (xB ar)) rfl))).trans e2),by rw [QF hc];exact h2⟩
  . rw [QJ hc] at t;exact ⟨.no,S1,kvs1,(bi (ai t)).trans rfl,by rw [QS hc,Ra];exact h1⟩
 obtain ⟨s7,S2,kvs2,e2,h2⟩:=st2;have l2:(if aA hd=4∨aA hd=5 then iw (eY nm ar) (yJ (cB ar)) (nh (cB ar)) k else []).length<=7:=by
  split
  . simp only [dW];omega
  . simp
 generalize hX2:(if aA hd=4∨aA hd=5 then iw (eY nm ar) (yJ (cB ar)) (nh (cB ar)) k else [])=X2 at h2 l2;obtain ⟨S3,kvs3,e3,h3⟩:=n4 (c:=ab (ay bp 2[0]! !"return")) (act:=bC (dm "Links" "add" aS (ab (ae 0)) (ab #[ae 4,aK #[!"def",ae 1],ae 5]))) (δ:=Ad I nm k hd ar s7) (b:=decide (aA hd=3)) (X:=if aA hd=3 then iw (eY nm ar) (oe nm) (iD nm) k else []) (ai (by rw [tD (a0 s7),(kq _).2.2.1])) h2 (λ hb=>by
  rw [QF (Rn hb)];exact p9 h2 (eY nm ar) wk (by simp only [QO];omega) (oe nm) (iD nm) k rfl (ai (vF rfl (j4 rfl rfl) rfl))) (λ hb=>QS (RT hb))
 have l3:(if aA hd=3 then iw (eY nm ar) (oe nm) (iD nm) k else []).length<=7:=by
  split
  . simp only [dW];omega
  . simp
 generalize hX3:(if aA hd=3 then iw (eY nm ar) (oe nm) (iD nm) k else [])=X3 at h3 l3;obtain ⟨S4,kvs4,e4,h4⟩:=n4 (c:=ab (ay bp 2[0]! !"call")) (act:=bC (dm "Links" "add" aS (ab (ae 0)) (ab #[ae 4,aK #[!"def",2[3]!],ae 5]))) (δ:=Ad I nm k hd ar s7) (b:=decide (aA hd=9)) (X:=LJ nm k ar hd) (ai (by rw [tD (a0 s7),(kq _).2.2.2.1])) h3 (λ hb=>by
  obtain ⟨f,x,l,er,et⟩:=NI nm k ar (Rn hb);rw [et];have p2:aq 2 (Ad I nm k hd ar s7)=some (.tuple (.str (dF (aA hd))::.int k::x::.str f::l)):=by rw [<-er];rfl
  exact p9 h3 (eY nm ar) wk (by simp only [QO];omega) (oe f) (iD f) k rfl (ai (vF rfl (j4 rfl (x3 p2)) rfl))) (λ hb=>L8 nm k ar (RT hb))
 refine ⟨S4,kvs4,?_,?_⟩
 . refine (bg rfl).trans ((Q9 eM (?_:_=some (.nx (Ad I nm k hd ar s7),S4))).trans rfl);refine (ah (δ':=[.val (.ref I),.val (.str nm),.val (cD k hd),.val (.tuple (ar.map f7)),.val W4,.no,.no,.no]) (S':=S) (aH (aQ (iz rfl wr) rfl))).trans ?_;refine (ah (δ':=[.val (.ref I),.val (.str nm),.val (cD k hd),.val (.tuple (ar.map f7)),.val W4,.val (.int k),.no,.no]) (S':=S) (aH (aQ (x1 rfl) rfl))).trans ?_;refine (ah (δ':=Ad I nm k hd ar .no) (S':=S) (aH (aQ (d:=xt hd) (iz rfl gr) rfl))).trans ?_;exact (ah e1).trans ((ah e2).trans ((ah e3).trans e4))
 . unfold vo;rw [hX,hX2,hX3];simpa only [Ru] using h4
end
instance Gu:Hd->List Tr
 | .set _ t=>[t] | .ret t=>[t] | .ifs t _=>[t] | .whl t _=>[t] | _=>[]
instance II:Hd->Bool
 | .join _ j _=>decide (j=Str.ofString "ahead")
 | _=>false
def sE {nm:Str} {t:Tr} {w:W} {ks:List aB} {k:Int} (h:gd t 7 30):(iw (mM nm t) w ks k).length<=30:=by
 have:=og nm t;have:=h.2.1;rw [dW];omega
def ue (nm:Str) (k:Int) (hd:Hd) (ht:∀ t∈Gu hd,gd t 7 30):(fm nm k hd).length<=30:=by
 cases hd with
 | join x j t=>
  show (if j=Str.ofString "ahead" then iw [(.none,[])] (mj nm x) (jO nm x) k else []).length<=30;split
  . rw [dW];decide
  . exact RN _
 | set x t=>exact sE (ht t (QD.mpr rfl))
 | ret t=>exact sE (ht t (QD.mpr rfl))
 | ifs t l=>exact sE (ht t (QD.mpr rfl))
 | whl t l=>exact sE (ht t (QD.mpr rfl))
 | _=>exact RN _
def JN (nm:Str) (k:Int) (hd:Hd):(if aA hd=10∨aA hd=11 then fm nm k hd else [])++(if aA hd=3 then fm nm k hd else [])++(if aA hd=0 then fm nm k hd else [])++(if II hd=true then fm nm k hd else [])=fm nm k hd:=by
 cases hd with
 | set x t=>exact Ra _
 | ret t=>exact (Ra _).trans (Ra _)
 | ifs t l=>exact (Ra _).trans ((Ra _).trans (Ra _))
 | whl t l=>exact (Ra _).trans ((Ra _).trans (Ra _))
 | join x j t=>
  by_cases hj:j=Str.ofString "ahead"
  . have:II (.join x j t)=true:=QL hj;rw [QF this];rfl
  . have:II (.join x j t)≠true:=λ z=>hj (Rn z);rw [QS this];exact (Ra _).trans (QS hj).symm
 | _=>rfl
def KY {h:Hd} (nm:Str) (k:Int) (e:aA h=10∨aA h=11):∃ t l,rs h=tw t::l/\t∈Gu h/\fm nm k h=iw (mM nm t) (yJ k) (nh k) k:=by
 cases h with
 | ifs t l=>exact ⟨t,_,rfl,.head _,rfl⟩
 | whl t l=>exact ⟨t,_,rfl,.head _,rfl⟩
 | _=>exact nomatch (show false=true from QL e)
def M6 {h:Hd} (nm:Str) (k:Int) (e:aA h=3):∃ t l,rs h=tw t::l/\t∈Gu h/\fm nm k h=iw (mM nm t) (EV nm) (kK nm) k:=by
 cases h with
 | ret t=>exact ⟨t,_,rfl,.head _,rfl⟩
 | _=>exact nomatch (show false=true from QL e)
def K9 {h:Hd} (nm:Str) (k:Int) (e:aA h=0):∃ x t l,rs h=.str x::tw t::l/\t∈Gu h/\fm nm k h=iw (mM nm t) (mj nm x) (jO nm x) k:=by
 cases h with
 | set x t=>exact ⟨x,t,_,rfl,.head _,rfl⟩
 | _=>exact nomatch (show false=true from QL e)
def Ga {h:Hd} (nm:Str) (k:Int) (e:aA h=8):∃ x j l,rs h=.str x::.str j::l/\II h=decide (j=Str.ofString "ahead")/\(j=Str.ofString "ahead" -> fm nm k h=iw [(.none,[])] (mj nm x) (jO nm x) k):=by
 cases h with
 | join x j t=>exact ⟨x,j,_,rfl,rfl,λ e=>QF e⟩
 | _=>exact nomatch (show false=true from QL e)
def GF {h:Hd} (e:aA h≠8):II h=false:=by
 cases h with
 | join x j t=>exact absurd rfl e
 | _=>rfl
section
variable {D:Nat->Option Ob} {I d:Nat} {S:ak} {kvs:ν} {EE:ξ}
instance Gj (I:Nat) (nm:Str) (k:Int) (h:Hd):DS:=[.val (.ref I),.val (.str nm),.val (cD k h),.val (.str (dF (aA h))),.val (.int k)]
def BB (h:LK D S I d kvs (jr EE)) (hl:EE.length+200<=8000) (nm:Str) (k:Int) (hd:Hd) (ht:∀ t∈Gu hd,gd t 7 30):∃ S' kvs',fY [.ref I,.str nm,cD k hd] S=some (.ok .none,S')/\LK D S' I d kvs' (jr (EE++fm nm k hd)):=by
 have nl:=ue nm k hd ht;have cr:∀ t∈Gu hd,bN [.str nm,tw t]=some (.list ((mM nm t).map (·.1)))/\(mM nm t).length<=30:=λ t q=>by
  have g:=ht t q;rw [FY];exact ⟨pQ nm t (by have:=g.1;omega) (by have:=g.2.1;omega) g.2.2,Rh (og nm t) g.2.1⟩
 have p3:aq 3 (Gj I nm k hd)=some (.str (dF (aA hd))):=rfl;have p2:∀ {r},rs hd=r->aq 2 (Gj I nm k hd)=some (.tuple (.str (dF (aA hd))::.int k::r)):=λ e=>by rw [<-e];rfl
 have sub:∀ c:Prop,[Decidable c]->(if c then fm nm k hd else []).length<=30:=λ c _=>by
  split
  . exact nl
  . simp
 obtain ⟨S1,kvs1,e1,h1⟩:=n4 (c:=ab (ay jf (aq 3) (aK #[!"if",!"while"]))) (act:=bC (dm "Links" "add" aS (ab (ae 0)) (ab #[aU bN #[ae 1,2[2]!],aK #[!"row",ae 4],ae 4]))) (δ:=Gj I nm k hd) (b:=decide (aA hd=10∨aA hd=11)) (X:=if aA hd=10∨aA hd=11 then fm nm k hd else []) (ai (pS p3 (j4 rfl rfl) (ki (aA hd)).2.2.1)) h (λ hb=>by
  have hc:=Rn hb;obtain ⟨t,l,er,ht,en⟩:=KY nm k hc;have c:=cr t ht;rw [QF hc,en];exact p9 h (mM nm t) (oi nm t) (by omega) (yJ k) (nh k) k rfl (ai (vF (iz (Cy rfl (x2 (p2 er))) c.1) (j4 rfl rfl) rfl))) (λ hb=>QS (RT hb))
 have l1:=sub (aA hd=10∨aA hd=11);generalize hX1:(if aA hd=10∨aA hd=11 then fm nm k hd else [])=X1 at h1 l1;obtain ⟨S2,kvs2,e2,h2⟩:=n4 (c:=ab (ay bp (aq 3) !"return")) (act:=bC (dm "Links" "add" aS (ab (ae 0)) (ab #[aU bN #[ae 1,2[2]!],aK #[!"back",ae 1],ae 4]))) (δ:=Gj I nm k hd) (b:=decide (aA hd=3)) (X:=if aA hd=3 then fm nm k hd else []) (ai (by rw [tD p3,(kq _).2.2.1])) h1 (λ hb=>by
  have hc:=Rn hb;obtain ⟨t,l,er,ht,en⟩:=M6 nm k hc;have c:=cr t ht;rw [QF hc,en];exact p9 h1 (mM nm t) (oi nm t) (by rw [QO];omega) (EV nm) (kK nm) k rfl (ai (vF (iz (Cy rfl (x2 (p2 er))) c.1) (j4 rfl rfl) rfl))) (λ hb=>QS (RT hb))
 have l2:=sub (aA hd=3);generalize hX2:(if aA hd=3 then fm nm k hd else [])=X2 at h2 l2;obtain ⟨S3,kvs3,e3,h3⟩:=n4 (c:=ab (ay bp (aq 3) !"set")) (act:=bC (dm "Links" "add" aS (ab (ae 0)) (ab #[aU bN #[ae 1,2[3]!],aK #[!"name",ae 1,2[2]!],ae 4]))) (δ:=Gj I nm k hd) (b:=decide (aA hd=0)) (X:=if aA hd=0 then fm nm k hd else []) (ai (by rw [tD p3,(kq _).2.2.2.2.1])) h2 (λ hb=>by
  have hc:=Rn hb;obtain ⟨x,t,l,er,ht,en⟩:=K9 nm k hc;have c:=cr t ht;rw [QF hc,en];exact p9 h2 (mM nm t) (oi nm t) (by simp only [QO];omega) (mj nm x) (jO nm x) k rfl (ai (vF (iz (Cy rfl (x3 (p2 er))) c.1) (vM rfl rfl (x2 (p2 er))) rfl))) (λ hb=>QS (RT hb))
 have l3:=sub (aA hd=0);generalize hX3:(if aA hd=0 then fm nm k hd else [])=X3 at h3 l3;obtain ⟨S4,kvs4,e4,h4⟩:=n4 (c:=ab (gL (ay bp (aq 3) !"join") (ay bp 2[3]! !"ahead"))) (act:=bC (dm "Links" "add" aS (ab (ae 0)) (ab #[bc (bu #[dC .none]),aK #[!"name",ae 1,2[2]!],ae 4]))) (δ:=Gj I nm k hd) (b:=II hd) (X:=if II hd=true then fm nm k hd else []) (ai (by
  have t:=tD (b:=Str.ofString "join") p3;rw [(kq _).2.2.2.2.2] at t;by_cases h8:aA hd=8
  . rw [QL h8] at t;obtain ⟨x,j,l,er,ea,_⟩:=Ga nm k h8;rw [ea];exact dA t (tD (x3 (p2 er)))
  . rw [QJ h8] at t;rw [GF h8];exact Kj t)) h3 (λ hb=>by
  by_cases h8:aA hd=8
  . obtain ⟨x,j,l,er,ea,en⟩:=Ga nm k h8;rw [QF hb,en (Rn (ea.symm.trans hb))];exact p9 h3 [(.none,[])] (λ p hp=>by rw [QD.mp hp];rfl) (by simp only [QO,RK];omega) (mj nm x) (jO nm x) k rfl (ai (vF rfl (vM rfl rfl (x2 (p2 er))) rfl))
  . rw [GF h8] at hb;cases hb) (λ hb=>QS (by rw [hb];exact QU))
 refine ⟨S4,kvs4,?_,?_⟩
 . refine (bg rfl).trans ((Q9 eM (?_:_=some (.nx (Gj I nm k hd),S4))).trans rfl);refine (ah (δ':=[.val (.ref I),.val (.str nm),.val (cD k hd),.val (.str (dF (aA hd))),.no]) (S':=S) (aH (aQ (x0 rfl) rfl))).trans ?_;refine (ah (δ':=Gj I nm k hd) (S':=S) (aH (aQ (x1 rfl) rfl))).trans ?_;exact (ah e1).trans ((ah e2).trans ((ah e3).trans e4))
 . have e:=JN nm k hd;rw [hX1,hX2,hX3] at e;rw [Ru,Ru,Ru,<-Ru X2,<-Ru X1,<-Ru X1,e] at h4;exact h4
def tL:∀ (ps:Ω) (ts:List Tr),qi (ps.map .str) (ts.map tw)=(ps.zip ts).map λ p=>.tuple [.str p.1,tw p.2]
 | [],_=>by simp [qi]
 | _::_,[]=>by simp [qi]
 | p::ps,t::ts=>by
  have:=tL ps ts;simp [qi] at this ⊢;exact this
def uY (nm:Str) (k:Int) (f:Str) (s2 s3:Sl):∀ (l:List (Str×Tr)) (S:ak) (kvs:ν) (EE:ξ) (s6 s7:Sl),(∀ p∈l,gd p.2 7 5)->EE.length+5*l.length<=7900->LK D S I d kvs (jr EE)->∃ S' kvs' s6' s7',bv (bG 2 (aD (af 6) (aD (af 7) bJ))) kb (l.map λ p=>.tuple [.str p.1,tw p.2]) [.val (.ref I),.val (.str nm),s2,s3,.val (.int k),.val (.str f),s6,s7] S=some (.nx [.val (.ref I),.val (.str nm),s2,s3,.val (.int k),.val (.str f),s6',s7'],S')/\LK D S' I d kvs' (jr (EE++l.flatMap λ p=>iw (mM nm p.2) (mj f p.1) (jO f p.1) k))
 | [],S,kvs,EE,s6,s7,_,_,h=>⟨S,kvs,s6,s7,rfl,by simpa using h⟩
 | p::l,S,kvs,EE,s6,s7,hp,hl,h=>by
  simp only [QY] at hl;have g:=hp p (by simp);have c1:=pQ nm p.2 (by have:=g.1;omega) (by have:=g.2.1;omega) g.2.2;rw [<-FY] at c1;have c2:=Rh (og nm p.2) g.2.1;let δ:DS:=[.val (.ref I),.val (.str nm),s2,s3,.val (.int k),.val (.str f),.val (.str p.1),.val (tw p.2)]
  obtain ⟨S1,kvs1,e1,h1⟩:=p9 h (mM nm p.2) (oi nm p.2) (by omega) (mj f p.1) (jO f p.1) k (fo:=ae 0) (fa:=(ab #[aU bN #[ae 1,ae 7],aK #[!"name",ae 5,ae 6],ae 4])) (δ:=δ) rfl (ai (vF (iz rfl c1) (vM rfl rfl rfl) rfl));obtain ⟨S',kvs',s6',s7',e2,h2⟩:=uY nm k f s2 s3 l S1 kvs1 _ (.val (.str p.1)) (.val (tw p.2)) (λ q hq=>hp q (by simp [hq])) (by rw [QO,dW];omega) h1;exact ⟨S',kvs',s6',s7',(bm (δ2:=δ) rfl e1).trans e2,by simpa using h2⟩
def zK (h:LK D S I d kvs (jr EE)) (hl:EE.length+200<=7900) (nm:Str) (k:Int) (x f:Str) (ts:List Tr) (ps:Ω) (hp:ps.length<=6) (ht:∀ t∈ts,gd t 7 5):∃ S' kvs',gG [.ref I,.str nm,cD k (.call x f ts),.list (ps.map .str)] S=some (.ok .none,S')/\LK D S' I d kvs' (jr (EE++xT nm k ps (.call x f ts))):=by
 let δ:DS:=[.val (.ref I),.val (.str nm),.val (cD k (.call x f ts)),.val (.list (ps.map .str)),.val (.int k),.val (.str f),.no,.no]
 obtain ⟨S1,kvs1,e1,h1⟩:=p9 h [(EV f,kK f)] (λ p hp=>by rw [QD.mp hp];rfl) (by simp only [RK];omega) (mj nm x) (jO nm x) k (fo:=ae 0) (fa:=(ab #[bc (bu #[aK #[!"back",ae 5]]),aK #[!"name",ae 1,2[2]!],ae 4])) (δ:=δ) rfl (ai (vF rfl (vM rfl rfl (x2 rfl)) rfl));have zl:(ps.zip ts).length<=6:=by rw [length_zip];omega
 obtain ⟨S2,kvs2,s6,s7,e2,h2⟩:=uY nm k f (.val (cD k (.call x f ts))) (.val (.list (ps.map .str))) (ps.zip ts) S1 kvs1 _ .no .no (λ p hp=>ht p.2 (R9 hp).2) (by rw [QO,dW,RK];omega) h1;refine ⟨S2,kvs2,?_,by simpa [xT,KB] using h2⟩;refine (bg rfl).trans ((Q9 eM (?_:_=some (.nx [.val (.ref I),.val (.str nm),.val (cD k (.call x f ts)),.val (.list (ps.map .str)),.val (.int k),.val (.str f),s6,s7],S2))).trans rfl);refine (ah (δ':=[.val (.ref I),.val (.str nm),.val (cD k (.call x f ts)),.val (.list (ps.map .str)),.val (.int k),.no,.no,.no]) (S':=S) (aH (aQ (x1 rfl) rfl))).trans ?_;refine (ah (δ':=δ) (S':=S) (aH (aQ (x3 rfl) rfl))).trans ?_;refine (ah e1).trans ((bT (S1:=S1) (ds:=(ps.zip ts).map λ p=>.tuple [.str p.1,tw p.2]) (ai ?_)).trans e2);have a4:2[4]! δ=some (.list (ts.map tw)):=x4 rfl;have v3:ae 3 δ=some (.list (ps.map .str)):=rfl;unfold wg;rw [Cy v3 a4];exact Q9 some (tL ps ts)
end
structure nY where
 nm:Str
 ps:Ω
 bd:ω
 ln:Int
 la:Int
instance dh (q:nY):W:=.tuple [.str q.nm,.list (q.ps.map .str),.list (c7 q.bd),.int q.ln,.int q.la]
instance pV:List nY->(Str->List Str)->Str->List Str
 | [],g=>g
 | q::qs,g=>pV qs λ f=>if f=q.nm then q.ps else g f
def lE:∀ (qs:List nY) (g:Str->Ω),(∀ q∈qs,q.ps.length<=6)->(∀ f,(g f).length<=6)->∀ f,(pV qs g f).length<=6
 | [],g,_,hg,f=>hg f
 | q::qs,g,hq,hg,f=>lE qs _ (λ r hr=>hq r (by simp [hr])) (λ f=>by split;exact hq q (by simp);exact hg f) f
noncomputable abbrev Dq:=nY×List It
instance Hi (nm:Str) (k:Int) (pO:Str->List Str):Hd->List (List aB×En)
 | .call x f ts=>xT nm k (pO f) (.call x f ts)
 | _=>[]
instance jw (nm:Str) (pO:Str->List Str) (i:It):List (List aB×En):=vo nm i.1 i.2.1 i.2.2++(fm nm i.1 i.2.1++Hi nm i.1 pO i.2.1)
instance As (pO:Str->List Str) (q:Dq):List (List aB×En):=iw [(oe q.1.nm,iD q.1.nm)] (EV q.1.nm) (kK q.1.nm) q.1.ln++q.2.flatMap (jw q.1.nm pO)
instance jQ (pO:Str->List Str) (qs:List Dq):List (List aB×En):=qs.flatMap (As pO)
instance Hg (FN:Ω) (wh:Bool) (h:Hd):Prop:=(∀ t∈Gu h,gd t 7 30)/\(aA h=4∨aA h=5->wh=true)/\∀ x f ts,h=.call x f ts->f∈FN/\∀ t∈ts,gd t 7 5
def vG (nm:Str) (k:Int) (f:Str):∀ (l:List (Str×Tr)),(∀ p∈l,gd p.2 7 5)->(l.flatMap λ p=>iw (mM nm p.2) (mj f p.1) (jO f p.1) k).length<=5*l.length
 | [],_=>by simp
 | p::l,h=>by
  have:=vG nm k f l λ q hq=>h q (by simp [hq]);have c:=Rh (og nm p.2) (h p (by simp)).2.1;rw [RD,QO,dW,QY];omega
def Mm {h:Hd} (e:aA h=9):∃ x f ts,h=.call x f ts:=by
 cases h with
 | call x f ts=>exact ⟨_,_,_,rfl⟩
 | _=>exact nomatch (show false=true from QL e)
def MA {h:Hd} {pO:Str->Ω} (nm:Str) (k:Int) (e:aA h≠9):Hi nm k pO h=[]:=by
 cases h with
 | call x f ts=>exact absurd rfl e
 | _=>rfl
def qS {FN:Ω} {wh:Bool} (nm:Str) (pO:Str->Ω) (hp:∀ f,(pO f).length<=6) (i:It) (hg:Hg FN wh i.2.1) (ha:i.2.2.length<=6):(jw nm pO i).length<=50:=by
 have n:=ue nm i.1 i.2.1 hg.1;have T:∀ kw kk,(iw (eY nm i.2.2) kw kk i.1).length<=7:=λ _ _=>by
  rw [dW,vC];omega
 have g:(w6 nm i.1 i.2.2 (qN i.2.1)).length<=7:=by
  cases qN i.2.1 with
  | some x=>exact T _ _
  | none=>exact RN _
 have a:(if aA i.2.1=4∨aA i.2.1=5 then iw (eY nm i.2.2) (yJ (cB i.2.2)) (nh (cB i.2.2)) i.1 else []).length+(if aA i.2.1=3 then iw (eY nm i.2.2) (oe nm) (iD nm) i.1 else []).length<=7:=by
  by_cases c3:aA i.2.1=3
  . rw [QF c3,QS (by rw [c3];decide)];exact Rh (le_of_eq (Nat.zero_add _)) (T _ _)
  . rw [QS c3];split
    . exact T _ _
    . exact RN _
 unfold jw vo;simp only [QO];by_cases c9:aA i.2.1=9
 . obtain ⟨x,f,ts,eh⟩:=Mm c9;have c:=vG nm i.1 f ((pO f).zip ts) λ p hp=>(hg.2.2 x f ts eh).2 p.2 (R9 hp).2;have l:((pO f).zip ts).length<=6:=by rw [length_zip];have:=hp f;omega
   have e1:(LJ nm i.1 i.2.2 i.2.1).length<=7:=by rw [eh];exact T _ _
   have e2:(fm nm i.1 i.2.1).length=0:=by rw [eh];rfl
   have e3:(Hi nm i.1 pO i.2.1).length=1+((((pO f).zip ts).flatMap λ p=>iw (mM nm p.2) (mj f p.1) (jO f p.1) i.1)).length:=by
    rw [eh];exact QO
   rw [QS (by rw [c9];decide:¬(aA i.2.1=4∨aA i.2.1=5)),QS (by rw [c9];decide:¬aA i.2.1=3)];simp only [RG];omega
 . rw [L8 nm i.1 i.2.2 c9,MA nm i.1 c9];simp only [RG];omega
section
variable {D:Nat->Option Ob}
def LK.push {S:ak} {I d:Nat} {kvs E:ν} (h:LK D S I d kvs E) (o:Ob):LK D (S++[o]) I d kvs E:=
 ⟨aY h.hI,aY h.hd,h.hl,h.nn,(λ k v hv=>by obtain ⟨l,e,hl⟩:=h.ss k v hv;exact ⟨l,e,aY hl⟩),h.one,λ m o hm=>⟨aY (h.kp m o hm).1,(h.kp m o hm).2⟩⟩
def LK.setK {S:ak} {I d m:Nat} {kvs E:ν} {a b:List (aB×W)} (h:LK D S I d kvs E) (hm:S[m]?=some (.dK a)) (hD:D m=none):LK D (S.set m (.dK b)) I d kvs E:=
 ⟨set_ne' h.hI (bY hm h.hI (by simp)),set_ne' h.hd (bY hm h.hd (by simp)),h.hl,h.nn,(λ k v hv=>by obtain ⟨l,e,hl⟩:=h.ss k v hv;exact ⟨l,e,set_ne' hl (bY hm hl (by simp))⟩),h.one,λ k o hk=>⟨set_ne' (h.kp k o hk).1 (λ z=>by rw [z,hk] at hD;cases hD),(h.kp k o hk).2⟩⟩
def yC {I d pd:Nat} {kvs E:ν} (hD:D pd=none) (s0 s8 s9:Sl):∀ (qs:List nY) (S:ak) (kv:List (aB×W)) (g:Str->Ω) (seen:Ω) (s3 s4 s5 s6 s7:Sl),LK D S I d kvs E->S[pd]?=some (.dK kv)->(∀ f∈seen,aX kv (Sum.inr f)=some (.list ((g f).map .str)))->kv.length+qs.length<900->
 ∃ S' kv' s3' s4' s5' s6' s7',bv (bG 5 (aD (af 3) (aD (af 4) (aD (af 5) (aD (af 6) (aD (af 7) bJ)))))) i3 (qs.map dh) [s0,.val (.ref I),.val (.ref pd),s3,s4,s5,s6,s7,s8,s9] S=some (.nx [s0,.val (.ref I),.val (.ref pd),s3',s4',s5',s6',s7',s8,s9],S')/\LK D S' I d kvs E/\S'[pd]?=some (.dK kv')/\∀ f,f∈seen∨f∈qs.map (·.nm)->aX kv' (Sum.inr f)=some (.list ((pV qs g f).map .str))
 | [],S,kv,g,seen,s3,s4,s5,s6,s7,h,hp,hs,_=>⟨S,kv,s3,s4,s5,s6,s7,rfl,h,hp,λ f hf=>hs f (hf.resolve_right (by simp))⟩
 | q::qs,S,kv,g,seen,s3,s4,s5,s6,s7,h,hp,hs,hl=>by
  simp only [QY] at hl;have hz:kv.length<sizeLine:=QZ (by omega) (sz 900 (by decide));have pa:nW (.ref pd) (.str q.nm) (.list (q.ps.map .str)) S=some (S.set pd (.dK (eI kv (Sum.inr q.nm) (.list (q.ps.map .str))))):=by simp [nW,d7,hp,jd,hz]
  have pl:=rg kv (Sum.inr q.nm) (W.list (q.ps.map .str));obtain ⟨S',kv',t3,t4,t5,t6,t7,e,h1,h2,h3⟩:=yC hD s0 s8 s9 qs (S.set pd (.dK (eI kv (Sum.inr q.nm) (.list (q.ps.map .str))))) (eI kv (Sum.inr q.nm) (.list (q.ps.map .str))) (λ f=>if f=q.nm then q.ps else g f) (q.nm::seen) (.val (.str q.nm)) (.val (.list (q.ps.map .str))) (.val (.list (c7 q.bd))) (.val (.int q.ln)) (.val (.int q.la)) (h.setK hp hD) (set_eq' hp) (λ f hf=>by
   rw [yu];by_cases hq:f=q.nm
   . simp [hq]
   . have:f∈seen:=(QE.mp hf).resolve_left hq;simp [hq,hs f this]) (by omega)
  refine ⟨S',kv',t3,t4,t5,t6,t7,(bm (δ2:=[s0,.val (.ref I),.val (.ref pd),.val (.str q.nm),.val (.list (q.ps.map .str)),.val (.list (c7 q.bd)),.val (.int q.ln),.val (.int q.la),s8,s9]) (δ':=[s0,.val (.ref I),.val (.ref pd),.val (.str q.nm),.val (.list (q.ps.map .str)),.val (.list (c7 q.bd)),.val (.int q.ln),.val (.int q.la),s8,s9]) (S':=S.set pd (.dK (eI kv (Sum.inr q.nm) (.list (q.ps.map .str))))) rfl ?_).trans e,h1,h2,λ f hf=>h3 f ?_⟩
  . first | rfl | simp! [i3,i7,uS,uD,pa]
  . rcases hf with hf | hf
    . exact .inl (by simp [hf])
    . rw [QT] at hf;rcases QE.mp hf with rfl | hf
      . exact .inl (by simp)
      . exact .inr hf
end
def wM {S:ak} {d:Nat} {kvs:List (aB×W)} {x:Str} (h:S[d]?=some (.dK kvs)):jK (.ref d) (.str x) S=some (aX kvs (Sum.inr x)):=by simp [jK,d7,h,jd]
structure GQ (FN:Ω) (i:It):Prop where
 p:∃ wh,Hg FN wh i.2.1/\(wh=true->∃ b∈i.2.2,ft b=true)
 l:i.2.2.length<=6
section
variable {D:Nat->Option Ob} {I d pd:Nat} {kv:List (aB×W)} {FN:Ω} {pO:Str->Ω}
def yz (hD:D pd=some (.dK kv)) (hv:∀ f∈FN,aX kv (Sum.inr f)=some (.list ((pO f).map .str))) (hp:∀ f,(pO f).length<=6) (nm:Str) (s0 s4 s5 s6 s7:Sl):∀ (is:List It) (S:ak) (kvs:ν) (EE:ξ) (s8 s9:Sl),(∀ i∈is,GQ FN i)->EE.length+50*is.length<=7500->LK D S I d kvs (jr EE)->
 ∃ S' kvs' s8' s9',bv (bG 2 (aD (af 8) (aD (af 9) bJ))) lS (is.map rc) [s0,.val (.ref I),.val (.ref pd),.val (.str nm),s4,s5,s6,s7,s8,s9] S=some (.nx [s0,.val (.ref I),.val (.ref pd),.val (.str nm),s4,s5,s6,s7,s8',s9'],S')/\LK D S' I d kvs' (jr (EE++is.flatMap (jw nm pO)))
 | [],S,kvs,EE,s8,s9,_,_,h=>⟨S,kvs,s8,s9,rfl,by simpa using h⟩
 | i::is,S,kvs,EE,s8,s9,hi,hl,h=>by
  simp only [QY] at hl;obtain ⟨⟨wh,hg,hw⟩,ha⟩:=hi i (by simp);have el:=qS nm pO hp i hg ha;have el':(vo nm i.1 i.2.1 i.2.2).length+((fm nm i.1 i.2.1).length+(Hi nm i.1 pO i.2.1).length)<=50:=by simpa only [jw,QO] using el
  obtain ⟨S1,kvs1,e1,h1⟩:=Bm h (by omega) nm i.1 i.2.1 i.2.2 ha λ hc=>hw (hg.2.1 hc);obtain ⟨S2,kvs2,e2,h2⟩:=BB h1 (by rw [QO];omega) nm i.1 i.2.1 hg.1;have hb2:(EE++vo nm i.1 i.2.1 i.2.2++fm nm i.1 i.2.1).length+200<=7900:=by simp only [QO];omega
  let δ:DS:=[s0,.val (.ref I),.val (.ref pd),.val (.str nm),s4,s5,s6,s7,.val (cD i.1 i.2.1),.val (.tuple (i.2.2.map f7))]
  have a0:8[0]! δ=some (.str (dF (aA i.2.1))):=x0 rfl;obtain ⟨S3,kvs3,e3,h3⟩:=n4 (c:=ab (ay bp 8[0]! !"call")) (act:=bC (bD gG (bZ (ab (ae 1)) (bZ (ab (ae 3)) (bZ (ab (ae 8)) (bZ (eG (ab (ae 2)) (ab 8[3]!)) kS)))))) (δ:=δ) (b:=decide (aA i.2.1=9)) (X:=Hi nm i.1 pO i.2.1) (ai (by rw [tD a0,(kq _).2.2.2.1])) h2 (λ hb=>by
   obtain ⟨x,f,ts,eh⟩:=Mm (Rn hb);obtain ⟨hf,ht⟩:=hg.2.2 x f ts eh;obtain ⟨S3,kvs3,e3,h3⟩:=zK h2 hb2 nm i.1 x f ts (pO f) (hp f) ht;have a3:8[3]! δ=some (.str f):=x3 (Q9 (λ h=>some (cD i.1 h)) eh);have gk:=wM (x:=f) (h2.kp pd _ hD).1;rw [hv f hf] at gk;rw [<-eh] at e3;have ec:Hi nm i.1 pO i.2.1=xT nm i.1 (pO f) (.call x f ts):=by rw [eh];rfl
   have g:eG (ab (ae 2)) (ab 8[3]!) δ S2=some (.ok (.list ((pO f).map .str)),S2):=by
    have v2:ab (ae 2) δ S2=some (.ok (.ref pd),S2):=rfl;simp only [eG,v2,ai a3,au,gk,QC,fN,QI]
   exact ⟨S3,kvs3,jB (bE (S1:=S2) (ds:=[.ref I,.str nm,cD i.1 i.2.1,.list ((pO f).map .str)]) (bo (S1:=S2) rfl (bo (S1:=S2) rfl (bo (S1:=S2) rfl (bo (S1:=S2) g rfl)))) e3),by rw [ec];exact h3⟩) (λ hb=>MA nm i.1 (RT hb))
  have hE:EE++vo nm i.1 i.2.1 i.2.2++fm nm i.1 i.2.1++Hi nm i.1 pO i.2.1=EE++jw nm pO i:=by simp [jw]
  rw [hE] at h3;obtain ⟨S',kvs',s8',s9',e4,h4⟩:=yz hD hv hp nm s0 s4 s5 s6 s7 is S3 kvs3 _ (.val (cD i.1 i.2.1)) (.val (.tuple (i.2.2.map f7))) (λ j hj=>hi j (by simp [hj])) (by rw [QO];omega) h3;refine ⟨S',kvs',s8',s9',?_,by simpa using h4⟩;refine (bm (δ2:=δ) (δ':=δ) (S':=S3) rfl ?_).trans e4;refine (ah (δ':=δ) (jB (bE (S1:=S) (ds:=[.ref I,.str nm,cD i.1 i.2.1,.tuple (i.2.2.map f7)]) rfl e1))).trans ?_;exact (ah (δ':=δ) (jB (bE (S1:=S1) (ds:=[.ref I,.str nm,cD i.1 i.2.1]) rfl e2))).trans e3
structure GD (FN:Ω) (q:Dq):Prop where
 pl:bF 8 [.list (c7 q.1.bd),.none]=some (.list (q.2.map rc))
 it:∀ i∈q.2,GQ FN i
 ps:q.1.ps.length<=6
instance gN (qs:List Dq):Nat:=(qs.map λ q=>q.2.length+1).sum
def ou (hp:∀ f,(pO f).length<=6) (nm:Str):∀ (is:List It),(∀ i∈is,GQ FN i)->(is.flatMap (jw nm pO)).length<=50*is.length
 | [],_=>by simp
 | i::is,h=>by
  obtain ⟨⟨wh,hg,_⟩,ha⟩:=h i (by simp);have:=qS nm pO hp i hg ha;have:=ou hp nm is λ j hj=>h j (by simp [hj]);rw [RD,QO,QY];omega
def vx (hD:D pd=some (.dK kv)) (hv:∀ f∈FN,aX kv (Sum.inr f)=some (.list ((pO f).map .str))) (hp:∀ f,(pO f).length<=6) (s0:Sl):∀ (qs:List Dq) (S:ak) (kvs:ν) (EE:ξ) (s3 s4 s5 s6 s7 s8 s9:Sl),(∀ q∈qs,GD FN q)->EE.length+50*gN qs<=7000->LK D S I d kvs (jr EE)->
 ∃ S' kvs' s3' s4' s5' s6' s7' s8' s9',bv (bG 5 (aD (af 3) (aD (af 4) (aD (af 5) (aD (af 6) (aD (af 7) bJ)))))) kQ (qs.map λ q=>dh q.1) [s0,.val (.ref I),.val (.ref pd),s3,s4,s5,s6,s7,s8,s9] S=some (.nx [s0,.val (.ref I),.val (.ref pd),s3',s4',s5',s6',s7',s8',s9'],S')/\LK D S' I d kvs' (jr (EE++jQ pO qs))
 | [],S,kvs,EE,s3,s4,s5,s6,s7,s8,s9,_,_,h=>⟨S,kvs,s3,s4,s5,s6,s7,s8,s9,rfl,by simpa [jQ] using h⟩
 | q::qs,S,kvs,EE,s3,s4,s5,s6,s7,s8,s9,hq,hl,h=>by
  have g:=hq q (by simp);have hc:gN (q::qs)=q.2.length+1+gN qs:=by simp [gN]
  rw [hc] at hl;have dl:=ou (FN:=FN) hp q.1.nm q.2 g.it;let δ (s8 s9:Sl):DS:=[s0,.val (.ref I),.val (.ref pd),.val (.str q.1.nm),.val (.list (q.1.ps.map .str)),.val (.list (c7 q.1.bd)),.val (.int q.1.ln),.val (.int q.1.la),s8,s9]
  obtain ⟨S1,kvs1,e1,h1⟩:=p9 h [(oe q.1.nm,iD q.1.nm)] (λ p hp=>by rw [QD.mp hp];rfl) (by simp only [RK];omega) (EV q.1.nm) (kK q.1.nm) q.1.ln (fo:=ae 1) (fa:=(ab #[bc (bu #[aK #[!"def",ae 3]]),aK #[!"back",ae 3],ae 6])) (δ:=δ s8 s9) rfl (ai (vF rfl rfl rfl));obtain ⟨S2,kvs2,t8,t9,e2,h2⟩:=yz hD hv hp q.1.nm s0 (.val (.list (q.1.ps.map .str))) (.val (.list (c7 q.1.bd))) (.val (.int q.1.ln)) (.val (.int q.1.la)) q.2 S1 kvs1 _ s8 s9 g.it (by rw [QO,dW,RK];omega) h1;have hE:EE++iw [(oe q.1.nm,iD q.1.nm)] (EV q.1.nm) (kK q.1.nm) q.1.ln++q.2.flatMap (jw q.1.nm pO)=EE++As pO q:=by simp [As]
  rw [hE] at h2;obtain ⟨S',kvs',u3,u4,u5,u6,u7,u8,u9,e3,h3⟩:=vx hD hv hp s0 qs S2 kvs2 _ (.val (.str q.1.nm)) (.val (.list (q.1.ps.map .str))) (.val (.list (c7 q.1.bd))) (.val (.int q.1.ln)) (.val (.int q.1.la)) t8 t9 (λ r hr=>hq r (by simp [hr])) (by rw [QO,As,QO,dW,RK];omega) h2;refine ⟨S',kvs',u3,u4,u5,u6,u7,u8,u9,?_,by simpa [jQ] using h3⟩;rw [QT];refine (bm (δ2:=δ s8 s9) (δ':=δ t8 t9) (S':=S2) rfl ?_).trans e3;refine (ah e1).trans ((bT (S1:=S1) (ds:=q.2.map rc) (ai ?_)).trans e2);have pl:=g.pl;first | rfl | simp! [δ,wG,uD,pl]
end
def zB {FN:Ω} (qs:List Dq) (S:ak) (hq:∀ q∈qs,GD FN q) (hf:∀ f∈FN,f∈qs.map (·.1.nm)) (hc:gN qs<=70) (hl:qs.length<=10) {D0:Nat->Option Ob} (hD0:∀ m o,D0 m=some o->S[m]?=some o/\Oh o=true):∃ S' d kvs,kA [.list (qs.map λ q=>dh q.1)] S=some (.ok (.ref S.length),S')/\LK D0 S' S.length d kvs (jr (jQ (pV (qs.map (·.1)) λ _=>[]) qs)):=by
 let pr:W:=.list (qs.map λ q=>dh q.1);have i0:fw [.ref S.length] (S++[.ins (Str.ofString "Links") []])=some (.ok .none,(S++[Ob.ins (Str.ofString "Links") []]++[Ob.dN []]:ak).set S.length (.ins (Str.ofString "Links") [(Str.ofString "behind", .ref (S.length+1))])):=by
  refine (bg rfl).trans ((Q9 eM (?_:_=some (.nx [.val (.ref S.length)],_))).trans rfl);exact BN (c:=Str.ofString "Links") (f:=Str.ofString "behind") (fo:=ae 0) (fv:=Na) (δ:=[.val (.ref S.length)]) (S:=S++[.ins (Str.ofString "Links") []]) (S1:=S++[Ob.ins (Str.ofString "Links") []]++[Ob.dN []]) (d:=.ref (S.length+1)) (n:=S.length) (fs:=[]) (by simp [Na]) rfl (aY (bS _ _)) (by simp)
 let S0:ak:=(S++[Ob.ins (Str.ofString "Links") []]++[Ob.dN []]:ak).set S.length (.ins (Str.ofString "Links") [(Str.ofString "behind", .ref (S.length+1))]);have h0:LK D0 S0 S.length (S.length+1) [] (jr []):=by
  have g1:(S++[Ob.ins (Str.ofString "Links") []]++[Ob.dN []]:ak)[S.length+1]?=some (.dN []):=by
   have:=bS (S++[Ob.ins (Str.ofString "Links") []]) (Ob.dN []);simpa using this
  exact ⟨set_eq' (aY (bS _ _)),set_ne' g1 (by omega),by simp,λ k _=>rfl,(λ k v hv=>by cases hv),(λ k k' l hv=>by cases hv),λ m o hm=>⟨set_ne' (aY (aY (hD0 m o hm).1)) (by have:=(oG (hD0 m o hm).1).1;omega),(hD0 m o hm).2⟩⟩
 obtain ⟨S2,kv,t3,t4,t5,t6,t7,e2,h2,hpd,hv⟩:=yC (pd:=S0.length) (D:=D0) (by cases hq:D0 S0.length with | none=>rfl | some o=>have:=(oG (hD0 _ o hq).1).1;simp [S0] at this;omega) (.val pr) .no .no (qs.map (·.1)) (S0++[.dK []]) [] (λ _=>[]) [] .no .no .no .no .no (h0.push (.dK [])) (bS _ _) (λ f hf=>absurd hf QR) (by simp;omega);rw [Ry] at e2;let pO:=pV (qs.map (·.1)) λ _=>[]
 have hp:∀ f,(pO f).length<=6:=lE _ _ (λ q hm=>by obtain ⟨r,hr,rfl⟩:=Q7.mp hm;exact (hq r hr).ps) (λ f=>by simp);let D:Nat->Option Ob:=λ m=>if m=S0.length then some (.dK kv) else D0 m
 have h3:LK D S2 S.length (S.length+1) [] (jr []):=⟨h2.hI,h2.hd,h2.hl,h2.nn,h2.ss,h2.one,λ m o hm=>by
  by_cases e:m=S0.length
  . subst e;simp [D] at hm;rw [<-hm];exact ⟨hpd,rfl⟩
  . simp [D,e] at hm;exact h2.kp m o hm⟩
 obtain ⟨S4,kvs4,u3,u4,u5,u6,u7,u8,u9,e4,h4⟩:=vx (pd:=S0.length) (kv:=kv) (FN:=FN) (pO:=pO) (by simp [D]) (λ f hf'=>hv f (.inr (by simpa [Ry,RC] using hf f hf'))) hp (.val pr) qs S2 [] [] t3 t4 t5 t6 t7 .no .no hq (by simp;omega) h3;have h5:LK D0 S4 S.length (S.length+1) kvs4 (jr (jQ pO qs)):=by
  have h4:LK D S4 S.length (S.length+1) kvs4 (jr (jQ pO qs)):=by simpa using h4
  exact ⟨h4.hI,h4.hd,h4.hl,h4.nn,h4.ss,h4.one,λ m o hm=>h4.kp m o (by
   have:m≠S0.length:=λ z=>by have:=(oG (hD0 m o hm).1).1;simp [S0] at z;omega
   simp [D,this,hm])⟩
 refine ⟨S4,S.length+1,kvs4,?_,h5⟩;refine (bg rfl).trans ((Q9 eM (?_:_=some (.rt (.ref S.length),S4))).trans rfl);refine (ah (δ':=[.val pr,.val (.ref S.length),.no,.no,.no,.no,.no,.no,.no,.no]) (S':=S0) (be (CD (S1:=S) (ds:=[]) rfl i0) rfl)).trans ?_;refine (ah (δ':=[.val pr,.val (.ref S.length),.val (.ref S0.length),.no,.no,.no,.no,.no,.no,.no]) (S':=S0++[.dK []]) (be rfl rfl)).trans ?_;refine (ah ((bT (S1:=S0++[.dK []]) (ds:=qs.map λ q=>dh q.1) (by first | rfl | simp! [pr,uS,uD])).trans e2)).trans ?_;refine (ah ((bT (S1:=S2) (ds:=qs.map λ q=>dh q.1) (by first | rfl | simp! [pr,uS,uD])).trans e4)).trans ?_;first | rfl | simp! [uS,uD]
def yl {fo:μ} {δ:DS} {S:ak} {l:Nat} {q:List W} {y:W} (h1:fo δ=some (.ref l)) (h2:S[l]?=some (.lst (q++[y]))):CZ (ab fo) δ S=some (.ok y,S.set l (.lst q)):=by
 simp [CZ,ab,h1,au,fH h2]
def Dt {fo fk fx:ζ} {δ:DS} {S S3:ak} {d:Nat} {kvs:ν} {y z:W} {k:List aB} (h1:fo δ S=some (.ok (.ref d),S)) (hd:S[d]?=some (.dN kvs)) (h2:fk δ S=some (.ok y,S)) (h3:fx δ S=some (.ok z,S3)) (hd3:S3[d]?=some (.dN kvs)) (hk:fB y=some k):pi fo fk fx δ S=some (.ok ((aX kvs k).getD z),S3):=by
 have a1:lc (.ref d) S=some (d,kvs):=by simp [lc,d7,hd]
 have a3:lc (.ref d) S3=some (d,kvs):=by simp [lc,d7,hd3]
 simp only [pi,h1,au,a1,Su,RW,h2,h3,a3,QC,hk]
def Ox {c:DS->ak->SM Bool} {b:τ} {n:Nat} {δ δ':DS} {S S1 S2:ak} (h1:c δ S=some (.ok true,S1)) (h2:b δ S1=some (.nx δ',S2)):d9 c b (n+1) δ S=d9 c b n δ' S2:=by
 show ke _ _=_;rw [h1];show (match b δ S1 with | some (.nx δ',S')=>_ | some (.ct δ',S')=>_ | some (.bk δ',S')=>_ | some (.rt d,S')=>_ | some (.xc x,S')=>_ | none=>_)=_;rw [h2]
def NX {c:DS->ak->SM Bool} {b:τ} {n:Nat} {δ:DS} {S S1:ak} (h1:c δ S=some (.ok false,S1)):d9 c b (n+1) δ S=some (.nx δ,S1):=by
 show ke _ _=_;rw [h1];rfl
def pA {n:Nat×Kd} {h:η} {fb:τ} {es:List W} {J:Nat->DS->ak->Prop} (look:∀ i δ S,J i δ S->eS S n=some es)
 (step:∀ i x δ S,es[i]?=some x->J i δ S->∃ δ2 δ' S',h x δ=some δ2/\fb δ2 S=some (.nx δ',S')/\J (i+1) δ' S'):∀ (m i:Nat) (δ:DS) (S:ak),es.length-i<m->i<=es.length->J i δ S->∃ δ' S',hU n h fb m i δ S=some (.nx δ',S')/\J es.length δ' S'
 | 0,i,δ,S,hm,_,_=>by omega
 | m+1,i,δ,S,hm,hi,hj=>by
  have hl:=look i δ S hj;by_cases hlt:i<es.length
  . obtain ⟨δ2,δ',S',e1,e2,j2⟩:=step i es[i] δ S (QP hlt) hj;obtain ⟨δ3,S3,e3,j3⟩:=pA look step m (i+1) δ' S' (by omega) (by omega) j2;refine ⟨δ3,S3,?_,j3⟩;show (eS S n).bind _=_;rw [hl];show (match es[i]? with | none=>_ | some d=>_)=_;rw [QP hlt];show (h es[i] δ).bind _=_;rw [e1];show (match fb δ2 S with | some (.nx δ',S')=>_ | some (.ct δ',S')=>_ | some (.bk δ',S')=>_ | some (.rt d,S')=>_ | some (.xc c,S')=>_ | none=>_)=_;rw [e2];exact e3
  . have:i=es.length:=by omega
    subst this;refine ⟨δ,S,?_,hj⟩;show (eS S n).bind _=_;rw [hl];show (match es[es.length]? with | none=>_ | some d=>_)=_;rw [Sd (QH _)]
structure MK (D0:Nat->Option Ob) (S:ak) (I d f q:Nat) (kvs E:ν) (F:ν) (D:List W):Prop where
 lk:LK D0 S I d kvs E
 hf:S[f]?=some (.dT F)
 nf:D0 f=none
 hq:S[q]?=some (.lst D)
 nq:∀ k l,aX kvs k=some (.ref l)->l≠q
section
variable {D0:Nat->Option Ob} {S:ak} {I d f q:Nat} {kvs E F:ν} {D:List W}
def MK.put (h:MK D0 S I d f q kvs E F D) (F':ν):MK D0 (S.set f (.dT F')) I d f q kvs E F' D:=
 ⟨⟨set_ne' h.lk.hI (bY h.hf h.lk.hI (by simp)),set_ne' h.lk.hd (bY h.hf h.lk.hd (by simp)),h.lk.hl,h.lk.nn,(λ k v hv=>by obtain ⟨l,e,hl⟩:=h.lk.ss k v hv;exact ⟨l,e,set_ne' hl (bY h.hf hl (by simp))⟩),h.lk.one,λ m o hm=>⟨set_ne' (h.lk.kp m o hm).1 (λ z=>by have:=h.nf;rw [z,hm] at this;cases this),(h.lk.kp m o hm).2⟩⟩,set_eq' h.hf,h.nf,set_ne' h.hq (bY h.hf h.hq (by simp)),h.nq⟩
def MK.due (h:MK D0 S I d f q kvs E F D) (D':List W):MK D0 (S.set q (.lst D')) I d f q kvs E F D':=
 ⟨⟨set_ne' h.lk.hI (bY h.hq h.lk.hI (by simp)),set_ne' h.lk.hd (bY h.hq h.lk.hd (by simp)),h.lk.hl,h.lk.nn,(λ k v hv=>by obtain ⟨l,rfl,hl⟩:=h.lk.ss k v hv;exact ⟨l,rfl,set_ne' hl (RM (h.nq k l hv))⟩),h.lk.one,λ m o hm=>⟨set_ne' (h.lk.kp m o hm).1 (bY h.hq (h.lk.kp m o hm).1 (λ z=>by have:=(h.lk.kp m o hm).2;rw [<-z] at this;cases this)),(h.lk.kp m o hm).2⟩⟩,set_ne' h.hf (bY h.hq h.hf (by simp)),h.nf,set_eq' h.hq,h.nq⟩
def MK.push (h:MK D0 S I d f q kvs E F D) (o:Ob):MK D0 (S++[o]) I d f q kvs E F D:=⟨h.lk.push o,aY h.hf,h.nf,aY h.hq,h.nq⟩
def pj {S:ak} {d:Nat} {kvs:ν} {x:W} {ks:List aB} (h:S[d]?=some (.dT kvs)) (hk:eX x=some ks):jK (.ref d) x S=some (aX kvs ks):=by simp [jK,d7,h,hk]
def Fl (h:MK D0 S I d f q kvs E F D) (s0:Sl) (c kw ln:W) (kk:List aB) (hk:eX kw=some kk) (hF:F.length<8000) (hD:D.length<8000):
 ∃ S',j7 [s0,.val (.ref I),.val (.ref f),.val (.ref q),.val c,.val kw,.val ln] S=some (.nx [s0,.val (.ref I),.val (.ref f),.val (.ref q),.val c,.val kw,.val ln],S')/\MK D0 S' I d f q kvs E (if aX F kk=none then F++[(kk,.tuple [ln,c])] else F) (if aX F kk=none then D++[kw] else D)/\∀ m x,m≠q->S[m]?=some (.lst x)->S'[m]?=some (.lst x):=by
 have z2:=sz 2 (by decide);have gk:jK (.ref f) kw S=some (aX F kk):=pj h.hf hk;cases hv:aX F kk with
 | some v=>
  refine ⟨S,?_,by simpa using h,λ _ _ _ hm=>hm⟩;refine (bi (S1:=S) ?_).trans rfl;first | rfl | simp! [gZ,uS,uD,gk,hv,Su]
 | none=>
  have hz:F.length<sizeLine:=QZ hF (sz 8000 (by decide));have pa:nW (.ref f) kw (.tuple [ln,c]) S=some (S.set f (.dT (F++[(kk,.tuple [ln,c])]))):=by
   rw [<-j6 (.tuple [ln,c]) hv];simp [nW,d7,h.hf,hk,hz]
  have h1:=h.put (F++[(kk,.tuple [ln,c])]);refine ⟨(S.set f (.dT (F++[(kk,.tuple [ln,c])]))).set q (.lst (D++[kw])),?_,by simpa using h1.due (D++[kw]),λ m x hmq hm=>set_ne' (set_ne' hm (bY h.hf hm (by simp))) (RM hmq)⟩;refine (c6 (S1:=S) (by first | rfl | simp! [gZ,uS,uD,gk,hv,Option.isSome_none])).trans ?_;refine (ah (δ':=[s0,.val (.ref I),.val (.ref f),.val (.ref q),.val c,.val kw,.val ln]) (S':=S.set f (.dT (F++[(kk,.tuple [ln,c])]))) ?_).trans ?_
  . first | rfl | simp! [i7,uS,uD,QF z2,pa]
  . exact eE rfl h1.hq rfl (by omega)
end
instance gg (c:W) (st:List (List aB×W)×List W) (e:En):List (List aB×W)×List W:=(if aX st.1 e.2.1=none then st.1++[(e.2.1,.tuple [e.2.2,c])] else st.1,if aX st.1 e.2.1=none then st.2++[e.1] else st.2)
def Ea (c:W) (st:ν×List W) (e:En):(gg c st e).1.length<=st.1.length+1/\(gg c st e).2.length<=st.2.length+1:=by
 unfold gg;by_cases h:aX st.1 e.2.1=none <;> simp [h]
def vB (c:W):∀ (es:List En) (st:ν×List W),(es.foldl (gg c) st).1.length<=st.1.length+es.length/\(es.foldl (gg c) st).2.length<=st.2.length+es.length
 | [],st=>by simp
 | e::es,st=>by
  have h1:=Ea c st e;have h2:=vB c es (gg c st e);simp only [foldl_cons,QY];omega
section
variable {D0:Nat->Option Ob} {I d f q:Nat} {kvs E:ν} {c:W} {s0:Sl}
def Ec (l:Nat) (es:List En) (hk:∀ e∈es,eX e.1=some e.2.1) {S:ak} {F:ν} {D:List W} (h:MK D0 S I d f q kvs E F D) (hlq:l≠q) (hl:S[l]?=some (.lst (es.map FZ))) (hF:F.length+es.length<8000) (hD:D.length+es.length<8000) (s5 s6:Sl):
 ∃ S' s5' s6',hU (l,.l) (bG 2 (aD (af 5) (aD (af 6) bJ))) j7 9000 0 [s0,.val (.ref I),.val (.ref f),.val (.ref q),.val c,s5,s6] S=some (.nx [s0,.val (.ref I),.val (.ref f),.val (.ref q),.val c,s5',s6'],S')/\MK D0 S' I d f q kvs E (es.foldl (gg c) (F,D)).1 (es.foldl (gg c) (F,D)).2:=by
 let J:Nat->DS->ak->Prop:=λ i δ S=>∃ s5 s6,δ=[s0,.val (.ref I),.val (.ref f),.val (.ref q),.val c,s5,s6]/\MK D0 S I d f q kvs E ((es.take i).foldl (gg c) (F,D)).1 ((es.take i).foldl (gg c) (F,D)).2/\S[l]?=some (.lst (es.map FZ));have look:∀ i δ S,J i δ S->eS S (l,.l)=some (es.map FZ):=λ i δ S hj=>by
  obtain ⟨_,_,_,_,h3⟩:=hj;exact xC h3
 have step:∀ i x δ S,(es.map FZ)[i]?=some x->J i δ S->∃ δ2 δ' S',(bG 2 (aD (af 5) (aD (af 6) bJ))) x δ=some δ2/\j7 δ2 S=some (.nx δ',S')/\J (i+1) δ' S':=by
  rintro i x δ S hx ⟨t5,t6,rfl,hm,h3⟩;rw [Re] at hx;obtain ⟨e,he,rfl⟩:=oM hx
  have hi:i<es.length:=(oG he).1;have fl:=vB c (es.take i) (F,D);have tl:(es.take i).length<=i:=by simp;omega
  obtain ⟨S',e1,m1,keep⟩:=Fl hm s0 c e.1 e.2.2 e.2.1 (hk e (Rz he)) (by simp at fl;omega) (by simp at fl;omega);have tk:(es.take (i+1)).foldl (gg c) (F,D)=gg c ((es.take i).foldl (gg c) (F,D)) e:=by
   rw [List.take_succ,he];simp
  refine ⟨[s0,.val (.ref I),.val (.ref f),.val (.ref q),.val c,.val e.1,.val e.2.2],_,S',rfl,e1,_,_,rfl,by rw [tk];exact m1,keep l _ hlq h3⟩
 obtain ⟨δ',S',e,t5,t6,rfl,hm,_⟩:=pA look step 9000 0 _ S (by simp;omega) (by simp) ⟨s5,s6,rfl,by simpa using h,hl⟩;exact ⟨S',t5,t6,e,by simpa using hm⟩
end
instance kC (EE:ξ) (k:List aB):List En:=(EE.filter λ e=>decide (e.1=k)).map (·.2)
def rX:∀ (EE:ξ) (k:List aB),oT (jr EE) k=(kC EE k).map FZ
 | [],k=>rfl
 | e::EE,k=>by
  have ih:=rX EE k;unfold oT jr kC at ih ⊢;by_cases h:e.1=k
  . simp [h] at ih ⊢;exact ih
  . simp [h] at ih ⊢;exact ih
def gT {EE:ξ} {k:List aB} {e:En} (h:e∈kC EE k):(k,e)∈EE:=by
 obtain ⟨x,hx,rfl⟩:=Q7.mp h;obtain ⟨h1,h2⟩:=Rq.mp hx;have:x.1=k:=by simpa using h2
 rw [<-this];exact h1
def BP (EE:ξ) (k:List aB):(kC EE k).length<=EE.length:=by
 unfold kC;rw [Rk];exact Se _ _
instance rem (EE:ξ) (F:ν):Nat:=(EE.filter λ e=>(aX F e.2.2.1).isNone).length
def zE {α:Type} (p q:α->Bool) (l:List α) (h:∀ x,q x=true->p x=true):(l.filter q).length<=(l.filter p).length:=by
 induction l with
 | nil=>simp
 | cons x l ih=>
  by_cases hq:q x=true
  . simp [hq,h x hq];exact ih
  . by_cases hp:p x=true <;> simp [hq,hp] <;> omega
def filter_lt' {α:Type} (p q:α->Bool) (l:List α) (y:α) (h:∀ x,q x=true->p x=true) (hy:y∈l) (h1:p y=true) (h2:q y=false):(l.filter q).length+1<=(l.filter p).length:=by
 induction l with
 | nil=>exact absurd hy QR
 | cons x l ih=>
  rcases QE.mp hy with rfl | hy
  . have:=zE p q l h;simp [h1,h2];omega
  . have ih:=ih hy;by_cases hq:q x=true
    . simp [hq,h x hq];omega
    . by_cases hp:p x=true <;> simp [hq,hp] <;> omega
def AN {EE:ξ} {F:ν} {D:List W} {c:W} {k:List aB} (e:En) (he:(k,e)∈EE):2*rem EE (gg c (F,D) e).1+(gg c (F,D) e).2.length<=2*rem EE F+D.length/\(gg c (F,D) e).1.length+rem EE (gg c (F,D) e).1<=F.length+rem EE F/\(D.length<=F.length+1->(gg c (F,D) e).2.length<=(gg c (F,D) e).1.length+1):=by
 unfold gg;by_cases hv:aX F e.2.1=none
 . simp only [hv,RW];have:rem EE (F++[(e.2.1,W.tuple [e.2.2,c])])+1<=rem EE F:=by
    refine filter_lt' _ _ EE (k,e) (λ x hx=>?_) he (by simp [hv]) (by simp [dU F e.2.1 e.2.1 _ hv]);rw [dU F e.2.1 x.2.2.1 _ hv] at hx;by_cases hq:x.2.2.1=e.2.1
    . simp [hq] at hx
    . simpa [hq] using hx
   simp;omega
 . simp only [hv,SF];exact ⟨QH _,QH _,id⟩
def pB {EE:ξ} {c:W} {k:List aB}:∀ (es:List En) (F:ν) (D:List W),(∀ e∈es,(k,e)∈EE)->2*rem EE (es.foldl (gg c) (F,D)).1+(es.foldl (gg c) (F,D)).2.length<=2*rem EE F+D.length/\(es.foldl (gg c) (F,D)).1.length+rem EE (es.foldl (gg c) (F,D)).1<=F.length+rem EE F/\(D.length<=F.length+1->(es.foldl (gg c) (F,D)).2.length<=(es.foldl (gg c) (F,D)).1.length+1)
 | [],F,D,_=>⟨QH _,QH _,id⟩
 | e::es,F,D,he=>by
  obtain ⟨a1,a2,a3⟩:=AN (c:=c) (F:=F) (D:=D) e (he e (by simp));obtain ⟨b1,b2,b3⟩:=pB (c:=c) es (gg c (F,D) e).1 (gg c (F,D) e).2 λ x hx=>he x (by simp [hx]);exact ⟨Rh b1 a1,Rh b2 a2,λ h=>b3 (a3 h)⟩
instance DK (D:List W):Prop:=∀ c∈D,∃ k,fB c=some k
def yk {EE:ξ} (hw:∀ e∈EE,fB e.2.1=some e.2.2.1) {c:W} {k:List aB}:∀ (es:List En) (F:ν) (D:List W),(∀ e∈es,(k,e)∈EE)->DK D->DK (es.foldl (gg c) (F,D)).2
 | [],F,D,_,h=>h
 | e::es,F,D,he,h=>by
  refine yk hw es (gg c (F,D) e).1 (gg c (F,D) e).2 (λ x hx=>he x (by simp [hx])) ?_;unfold gg;by_cases hv:aX F e.2.1=none
  . simp only [hv,RW];intro x hx;rcases QK.mp hx with hx | hx
    . exact h x hx
    . rw [QD.mp hx];exact ⟨_,hw _ (he e (by simp))⟩
  . simp only [hv,SF];exact h
instance FP (EE:ξ):Nat->List (List aB×W)->List W->List (List aB×W)
 | 0,F,_=>F
 | n+1,F,D=>match D.getLast? with
  | none=>F
  | some c=>FP EE n ((kC EE ((fB c).getD [])).foldl (gg c) (F,D.dropLast)).1 ((kC EE ((fB c).getD [])).foldl (gg c) (F,D.dropLast)).2
section
variable {D0:Nat->Option Ob} {I d f q:Nat} {kvs:ν} {EE:ξ} {s0:Sl}
def B6 (hk:∀ e∈EE,eX e.2.1=some e.2.2.1) (c:W) (k:List aB) (hc:fB c=some k) {S:ak} {F:ν} {D:List W} (h:MK D0 S I d f q kvs (jr EE) F (D++[c])) (hF:F.length+EE.length<8000) (hD:D.length+EE.length<8000) (s4 s5 s6:Sl):
 ∃ S' s5' s6',mE [s0,.val (.ref I),.val (.ref f),.val (.ref q),s4,s5,s6] S=some (.nx [s0,.val (.ref I),.val (.ref f),.val (.ref q),.val c,s5',s6'],S')/\MK D0 S' I d f q kvs (jr EE) ((kC EE k).foldl (gg c) (F,D)).1 ((kC EE k).foldl (gg c) (F,D)).2:=by
 have z0:=sz 0 (by decide);have h1:=h.due D;let S1:ak:=S.set q (.lst D);have h2:=h1.push (.lst []);have el:=BP EE k;let δ:DS:=[s0,.val (.ref I),.val (.ref f),.val (.ref q),.val c,s5,s6]
 have hI1:S1[I]?=some (.ins (Str.ofString "Links") [(Str.ofString "behind", .ref d)]):=h1.lk.hI;have f1:pc "Links" "behind" (ab (ae 1)) δ S1=some (.ok (.ref d),S1):=by first | rfl | simp! [δ,uS,uD,KW hI1,FK]
 have f3:eJ (ab ag) δ S1=some (.ok (.ref S1.length),S1++[.lst []]):=by first | rfl | simp! [δ,uS,uD,QF z0]
 have gn:=Dt (fk:=ab (ae 4)) f1 h1.lk.hd rfl f3 h2.lk.hd hc;have hq1:q<S1.length:=(oG h1.hq).1;have key:∃ l,(aX kvs k).getD (.ref S1.length)=.ref l/\l≠q/\(S1++[Ob.lst []]:ak)[l]?=some (.lst ((kC EE k).map FZ)):=by
  cases hv:aX kvs k with
  | some v=>
   obtain ⟨l,rfl,hl⟩:=h2.lk.ss k v hv;exact ⟨l,rfl,h.nq k l hv,by rw [<-rX];exact hl⟩
  | none=>
   have e0:=h.lk.nn k hv;rw [rX] at e0;exact ⟨S1.length,rfl,by omega,by rw [e0];exact bS _ _⟩
 obtain ⟨l,el1,hlq,hll⟩:=key;rw [el1] at gn;obtain ⟨S',t5,t6,e1,m1⟩:=Ec (c:=c) (s0:=s0) l (kC EE k) (λ e he=>hk _ (gT he)) h2 hlq hll (by omega) (by omega) s5 s6;refine ⟨S',t5,t6,?_,m1⟩;refine (ah (δ':=δ) (S':=S1) (be (yl rfl h.hq) rfl)).trans ?_;have li:iW (pi (pc "Links" "behind" (ab (ae 1))) (ab (ae 4)) (eJ (ab ag))) δ S1=some (.ok (l,.l),S1++[.lst []]):=by
  simp only [iW,gn,au,fH hll,QI]
 show ke _ _=_;rw [li];exact e1
def qv (hk:∀ e∈EE,eX e.2.1=some e.2.2.1) (hw:∀ e∈EE,fB e.2.1=some e.2.2.1) (hE:EE.length<3900):∀ (n:Nat) (F:ν) (D:List W) (S:ak) (s4 s5 s6:Sl),2*rem EE F+D.length<n->F.length+rem EE F<=EE.length->D.length<=F.length+1->MK D0 S I d f q kvs (jr EE) F D->DK D->
 ∃ S' s4' s5' s6',d9 (uZ (ab (ae 3))) mE n [s0,.val (.ref I),.val (.ref f),.val (.ref q),s4,s5,s6] S=some (.nx [s0,.val (.ref I),.val (.ref f),.val (.ref q),s4',s5',s6'],S')/\S'[f]?=some (.dT (FP EE n F D))/\∀ m o,D0 m=some o->S'[m]?=some o
 | 0,F,D,S,s4,s5,s6,hn,_,_,_,_=>absurd hn (not_lt_zero _)
 | n+1,F,D,S,s4,s5,s6,hn,h1,h2,hm,hp=>by
  rcases List.eq_nil_or_concat D with rfl | ⟨D,c,rfl⟩
  . exact ⟨S,s4,s5,s6,NX (by simp! [uZ,uS,uD,fH hm.hq];rfl),hm.hf,λ m o z=>(hm.lk.kp m o z).1⟩
  . rw [List.concat_eq_append] at hn h2 hm hp ⊢;obtain ⟨k,hck⟩:=hp c (by simp);have hd:D.length<=F.length:=by simp at h2;omega
    obtain ⟨S1,t5,t6,e1,m1⟩:=B6 (s0:=s0) hk c k hck hm (by omega) (by omega) s4 s5 s6;obtain ⟨r1,r2,r3⟩:=pB (EE:=EE) (c:=c) (k:=k) (kC EE k) F D λ e he=>gT he;obtain ⟨S',u4,u5,u6,e2,z1,z2⟩:=qv hk hw hE n _ _ S1 (.val c) t5 t6 (by simp at hn;omega) (by omega) (r3 (by omega)) m1 (yk hw _ F D (λ e he=>gT he) λ x hx=>hp x (by simp [hx]));refine ⟨S',u4,u5,u6,?_,?_,z2⟩
    . refine (Ox ?_ e1).trans e2;have hq:=hm.hq;simp! [uZ,uS,uD,fH hq];cases D <;> rfl
    . rw [z1];show _=some (Ob.dT (match (D++[c]).getLast? with | none=>_ | some c=>_));rw [List.getLast?_concat];simp only [hck,getD_some,List.dropLast_concat]
end
instance Ek (L:ξ):Prop:=∀ e∈L,eX e.2.1=some e.2.2.1/\fB e.2.1=some e.2.2.1
def Ek.nil:Ek []:=λ e h=>absurd h QR
def Ek.app {a b:ξ} (h:Ek a) (h':Ek b):Ek (a++b):=λ e he=>(QK.mp he).elim (h e) (h' e)
def Ek.to {kc:List (W×List aB)} {kw:W} {kk:List aB} {ln:Int} (h:eX kw=some kk) (h':fB kw=some kk):Ek (iw kc kw kk ln):=λ e he=>by
 obtain ⟨c,_,rfl⟩:=Q7.mp he;exact ⟨h,h'⟩
def Ek.flat {α:Type} {f:α->ξ} {l:List α} (h:∀ x∈l,Ek (f x)):Ek (l.flatMap f):=λ e he=>by
 obtain ⟨x,hx,hm⟩:=Sq.mp he;exact h x hx e hm
def Ek.ite {p:Prop} [Decidable p] {a:ξ} (h:Ek a):Ek (if p then a else []):=by
 split
 . exact h
 . exact .nil
def IK (nm:Str) (k:Int) (h:Hd) (ar:ω):Ek (vo nm k h ar):=by
 refine .app ?_ (.app (.ite (.to rfl rfl)) (.app (.ite (.to rfl rfl)) ?_))
 . cases qN h with
   | none=>exact .nil
   | some x=>exact .to rfl rfl
 . cases h with
   | call x f ts=>exact .to rfl rfl
   | _=>exact .nil
def Iw (nm:Str) (k:Int) (h:Hd):Ek (fm nm k h):=by
 cases h with
 | ifs t l=>exact .to rfl rfl
 | whl t l=>exact .to rfl rfl
 | ret t=>exact .to rfl rfl
 | set x t=>exact .to rfl rfl
 | join x j t=>exact .ite (.to rfl rfl)
 | _=>exact .nil
def CH (pO:Str->Ω) (qs:List Dq):Ek (jQ pO qs):=.flat λ q _=>.app (.to rfl rfl) (.flat λ i _=>.app (IK _ _ _ _) (.app (Iw _ _ _) (by
 cases i.2.1 with
 | call x f ts=>exact .app (.to rfl rfl) (.flat λ p _=>.to rfl rfl)
 | _=>exact .nil)))
def uq {FN:Ω} {pO:Str->Ω} (hp:∀ f,(pO f).length<=6) (qs:List Dq) (h:∀ q∈qs,GD FN q):(jQ pO qs).length<=50*gN qs:=by
 induction qs with
 | nil=>simp [jQ]
 | cons q qs ih=>
  have i1:=ih λ r hr=>h r (by simp [hr]);have i2:=ou hp q.1.nm q.2 (h q (by simp)).it;have hc:gN (q::qs)=q.2.length+1+gN qs:=by simp [gN]
  rw [hc];show ((As pO q)++jQ pO qs).length<=_;rw [QO];show (iw [(oe q.1.nm,iD q.1.nm)] (EV q.1.nm) (kK q.1.nm) q.1.ln++q.2.flatMap (jw q.1.nm pO)).length+_<=_;rw [QO,dW];simp only [QY,RG];omega
instance FF (qs:List Dq):List (List aB×W):=FP (jQ (pV (qs.map (·.1)) λ _=>[]) qs) 1000000 [] [.none]
def BA (EE:ξ) (F:ν):rem EE F<=EE.length:=Se _ _
def zk {FN:Ω} (qs:List Dq) (S:ak) (hq:∀ q∈qs,GD FN q) (hf:∀ f∈FN,f∈qs.map (·.1.nm)) (hc:gN qs<=70) (hl:qs.length<=10) {D0:Nat->Option Ob} (hD0:∀ m o,D0 m=some o->S[m]?=some o/\Oh o=true):∃ S' f,tG [.list (qs.map λ q=>dh q.1)] S=some (.ok (.ref f),S')/\S'[f]?=some (.dT (FF qs))/\S.length<=f/\∀ m o,D0 m=some o->S'[m]?=some o:=by
 have z1:=sz 1 (by decide);obtain ⟨S1,d,kvs,e1,lk⟩:=zB qs S hq hf hc hl hD0;let pr:W:=.list (qs.map λ q=>dh q.1);let EE:=jQ (pV (qs.map (·.1)) λ _=>[]) qs;have hp:∀ f,(pV (qs.map (·.1)) (λ _=>[]) f).length<=6:=lE _ _ (λ q hm=>by obtain ⟨r,hr,rfl⟩:=Q7.mp hm;exact (hq r hr).ps) (λ f=>by simp);have hE:EE.length<=3500:=Rh (uq hp qs hq) (by omega);have ek:=CH (pV (qs.map (·.1)) λ _=>[]) qs;have sl:S.length<S1.length:=(oG lk.hI).1;let S2:ak:=S1++[.dT []];let S3:ak:=S2++[.lst [.none]];have nf:D0 S1.length=none:=by
  cases hz:D0 S1.length with
  | none=>rfl
  | some o=>exact absurd (oG (lk.kp _ o hz).1).1 (RX _)
 have mk:MK D0 S3 S.length d S1.length S2.length kvs (jr EE) [] [.none]:=⟨(lk.push (.dT [])).push (.lst [.none]),aY (bS _ _),nf,bS _ _,λ k l hv=>by
  obtain ⟨l',e,hl'⟩:=lk.ss k _ hv;cases e;have:=(oG hl').1;simp [S2];omega⟩
 have rl:=BA EE [];obtain ⟨S',s4,s5,s6,e2,h1,h2⟩:=qv (EE:=EE) (s0:=.val pr) (λ e he=>(ek e he).1) (λ e he=>(ek e he).2) (by omega) 1000000 [] [.none] S3 .no .no .no (by simp only [QY,RG];omega) (by simpa using rl) (by simp) mk (λ c hc=>by rw [QD.mp hc];exact ⟨_,rfl⟩);refine ⟨S',S1.length,?_,h1,Sh sl,h2⟩;refine (bg rfl).trans ((Q9 eM (?_:_=some (.rt (.ref S1.length),S'))).trans rfl);refine (ah (δ':=[.val pr,.val (.ref S.length),.no,.no,.no,.no,.no]) (S':=S1) (be (bE (S1:=S) (ds:=[pr]) rfl e1) rfl)).trans ?_;refine (ah (δ':=[.val pr,.val (.ref S.length),.val (.ref S1.length),.no,.no,.no,.no]) (S':=S2) (be rfl rfl)).trans ?_;refine (ah (δ':=[.val pr,.val (.ref S.length),.val (.ref S1.length),.val (.ref S2.length),.no,.no,.no]) (S':=S3) (be (d:=.ref S2.length) (by simp! [uS,uD,QF z1];rfl) rfl)).trans ?_;exact (ah e2).trans rfl
instance pT (F:ν) (k:List aB):Bool:=(aX F k).isSome
instance tU (F:ν) (k:List aB):Prop:=k=[]∨pT F k=true
instance cW (k:List aB):W:=if k=[] then .none else cO k
def E5 {d:W} {k:aB} (h:jd d=some k):d=jc k:=by
 cases d with
 | int i=>cases h;rfl
 | str x=>cases h;rfl
 | _=>cases h
def yx:∀ {ds:List W} {ks:List aB},n9 ds=some ks->ds=ks.map jc
 | [],ks,h=>by cases h;rfl
 | d::ds,ks,h=>by
  obtain ⟨k,e1,h⟩:=oB h
  obtain ⟨ks',e2,rfl⟩:=oM h
  rw [E5 e1,yx e2];rfl
def Jz {d:W} {ks:List aB} (h:fB d=some ks):d=cW ks:=by
 cases d with
 | none=>cases h;rfl
 | tuple ds=>
  obtain ⟨k,e1,h⟩:=oB h
  split at h
  . cases h
  . rename_i hk;cases h;unfold cW;rw [QS hk,yx e1];rfl
 | _=>cases h
instance RF (EE:ξ) (F:ν) (kk:List aB) (v:W):Prop:=∃ ck kw ln,(ck,(kw,kk,ln))∈EE/\v=.tuple [ln,cW ck]/\tU F ck
instance jT (F:ν):Nat->List aB->Prop
 | 0,_=>False
 | n+1,kk=>∃ ln ck,aX F kk=some (.tuple [ln,cW ck])/\(ck=[]∨jT F n ck)
structure RI (EE:ξ) (F:ν) (D:List W):Prop where
 f:∀ kk v,aX F kk=some v->RF EE F kk v/\jT F F.length kk
 d:∀ c∈D,∃ k,c=cW k/\tU F k
section
variable {F F':ν} (hle:∀ k v,aX F k=some v->aX F' k=some v)
include hle
def tU.le {k:List aB} (h:tU F k):tU F' k:=h.imp id λ z=>by
 obtain ⟨v,e⟩:=RP.mp z;unfold pT;rw [hle k v e];rfl
def RF.le {EE:ξ} {kk:List aB} {v:W} (h:RF EE F kk v):RF EE F' kk v:=by
 obtain ⟨ck,kw,ln,h1,h2,h3⟩:=h;exact ⟨ck,kw,ln,h1,h2,tU.le hle h3⟩
def jT.le:∀ {n m:Nat} {kk:List aB},n<=m->jT F n kk->jT F' m kk
 | 0,_,_,_,h=>h.elim
 | n+1,0,_,hm,_=>by omega
 | n+1,m+1,kk,hm,h=>by
  obtain ⟨ln,ck,h1,h2⟩:=h;exact ⟨ln,ck,hle _ _ h1,h2.imp id λ z=>jT.le (by omega) z⟩
end
def Mt {EE:ξ} {F:ν} {D:List W} {k:List aB} (h:RI EE F D) (hk:tU F k) (e:En) (he:(k,e)∈EE) (hw:e.1=cW e.2.1):RI EE (gg (cW k) (F,D) e).1 (gg (cW k) (F,D) e).2/\∀ j,tU F j->tU (gg (cW k) (F,D) e).1 j:=by
 by_cases hv:aX F e.2.1=none
 . have hF:(gg (cW k) (F,D) e).1=F++[(e.2.1,.tuple [e.2.2,cW k])]:=QF hv;have hD:(gg (cW k) (F,D) e).2=D++[e.1]:=QF hv;rw [hF,hD];have le:∀ j v,aX F j=some v->aX (F++[(e.2.1,.tuple [e.2.2,cW k])]) j=some v:=λ j v hj=>by
    rw [dU F e.2.1 j _ hv,QS (λ z=>by rw [z,hv] at hj;cases hj)];exact hj
   have new:aX (F++[(e.2.1,W.tuple [e.2.2,cW k])]) e.2.1=some (.tuple [e.2.2,cW k]):=by rw [dU F e.2.1 e.2.1 _ hv,QF rfl]
   refine ⟨⟨λ kk v hkk=>?_,λ c hc=>?_⟩,λ j hj=>tU.le le hj⟩
   . rw [dU F e.2.1 kk _ hv] at hkk;by_cases hq:kk=e.2.1
     . rw [QF hq] at hkk;cases hkk;subst hq;refine ⟨⟨k,e.1,e.2.2,he,rfl,tU.le le hk⟩,?_⟩;rw [QO];refine ⟨_,_,new,hk.imp id λ z=>?_⟩;obtain ⟨v,hz⟩:=RP.mp z;exact jT.le le (QH _) (h.f k v hz).2
     . rw [QS hq] at hkk;have:=h.f kk v hkk;exact ⟨RF.le le this.1,jT.le le (by simp) this.2⟩
   . rcases QK.mp hc with hc | hc
     . obtain ⟨j,e1,e2⟩:=h.d c hc;exact ⟨j,e1,tU.le le e2⟩
     . rw [QD.mp hc,hw];exact ⟨_,rfl,.inr (by unfold pT;rw [new];rfl)⟩
 . have e1:gg (cW k) (F,D) e=(F,D):=by unfold gg;rw [QS hv,QS hv]
   rw [e1];exact ⟨h,λ _ z=>z⟩
def yr {EE:ξ} {k:List aB}:∀ (es:List En) (F:ν) (D:List W),RI EE F D->tU F k->(∀ e∈es,(k,e)∈EE/\e.1=cW e.2.1)->RI EE (es.foldl (gg (cW k)) (F,D)).1 (es.foldl (gg (cW k)) (F,D)).2
 | [],_,_,h,_,_=>h
 | e::es,F,D,h,hk,he=>by
  obtain ⟨a,b⟩:=Mt h hk e (he e (by simp)).1 (he e (by simp)).2;exact yr es _ _ a (b k hk) λ x hx=>he x (by simp [hx])
def Cv {EE:ξ} (hw:∀ e∈EE,e.2.1=cW e.2.2.1):∀ (n:Nat) (F:ν) (D:List W),RI EE F D->RI EE (FP EE n F D) []
 | 0,F,D,h=>⟨h.f,λ c hc=>absurd hc QR⟩
 | n+1,F,D,h=>by
  unfold FP;cases hl:D.getLast? with
  | none=>exact ⟨h.f,λ c hc=>absurd hc QR⟩
  | some c=>
   obtain ⟨D,rfl⟩:=List.getLast?_eq_some_iff.mp hl;simp only [List.dropLast_concat];obtain ⟨k,rfl,hk⟩:=h.d c (by simp);have kn:(fB (cW k)).getD []=k:=by
    unfold cW;by_cases z:k=[]
    . rw [QF z,z];rfl
    . rw [QS z];have kl:∀ ks:List aB,n9 (ks.map jc)=some ks:=λ ks=>by
       induction ks with
       | nil=>rfl
       | cons a ks ih=>cases a <;> (show (some _).bind _=_;simp only [QC,ih,QI])
      simp only [cO,fB,kl,QC,QS z,getD_some]
   rw [kn];refine Cv hw n _ _ (yr _ F D ⟨h.f,λ c hc=>h.d c (by simp [hc])⟩ hk λ e he=>?_);exact ⟨gT he,hw _ (gT he)⟩
def K7 (qs:List Dq):RI (jQ (pV (qs.map (·.1)) λ _=>[]) qs) (FF qs) []:=by
 have ek:=CH (pV (qs.map (·.1)) λ _=>[]) qs;refine Cv (λ e he=>Jz (ek e he).2) 1000000 [] [.none] ⟨(λ kk v h=>by cases h),λ c hc=>⟨[],QD.mp hc,.inl rfl⟩⟩
def AM:∀ (acc:Ω),rY (acc.map .str)=some (acc.map V.str)
 | []=>rfl
 | x::acc=>by
  show ((some (V.str x)).bind λ v=>(rY (acc.map .str)).map (v::·))=_;rw [AM acc];rfl
def A7 (x:Str):∀ (acc:Ω),FJ (.str x) (acc.map V.str)=decide (x∈acc)
 | []=>rfl
 | y::acc=>by
  have ih:=A7 x acc;unfold FJ at ih ⊢;rw [QT,RQ,ih];have:CI (V.str y) (V.str x)=decide (y=x):=by
   show (y==x)=_;by_cases h:y=x <;> simp [h]
  rw [this];by_cases h:y=x
  . subst h;simp
  . have h':¬ x=y:=λ z=>h z.symm;simp [h,h']
def wv {f g:DS->Option Bool} {δ:DS} (h1:f δ=some false) (h2:g δ=some false):kj f g δ=some false:=by simp only [kj,h1,h2,QC];rfl
def zy {f g:DS->Option Bool} {δ:DS} (h1:f δ=some true):kj f g δ=some true:=by simp only [kj,h1,QC];rfl
def wQ {f g:DS->Option Bool} {δ:DS} (h1:f δ=some false) (h2:g δ=some true):kj f g δ=some true:=by simp only [kj,h1,h2,QC];rfl
def sZ (k:Fin 7) (a b:Tr):tW (.op k a b)=tW a++tW b:=by simp [tW,Bn,fK,List.filterMap_append]
def JU (k:Fin 7) (a b:Tr):own (.op k a b)=(own a||own b):=by
 simp only [own,fK,List.any_append];cases (fK a).any (jG 0) <;> cases (fK a).any (jG 2) <;> cases (fK b).any (jG 0) <;> cases (fK b).any (jG 2) <;> rfl
def MN:lK (.int 10) (.int 30)=some (.int 1000000000000000000000000000000):=by
 show (if p6 10 30=true then some (W.int ((10:Int)^(30:Int).toNat)) else none)=_;rw [QF (by decide +kernel)];rfl
def Me:lK (.int 10) (.int 11)=some (.int 100000000000):=by
 show (if p6 10 11=true then some (W.int ((10:Int)^(11:Int).toNat)) else none)=_;rw [QF (by decide +kernel)];rfl
def Et {i j:Int} (h1:0<=i) (h2:i<2^190) (h3:0<=j) (h4:j<2^190):lh i j=true:=by
 have e:(2:Nat)^190<2^200:=Nat.pow_lt_pow_right (by decide) (by decide);simp only [lh,Rb,SK,Ri];exact .inr ⟨So (by omega) e,So (by omega) e⟩
def gp (c:Int) (k:Nat) (hk:k<9000):∃ m:Int,bK [.int c,.int (k:Int)]=some (.int m)/\0<=m:=by
 have hm:=cY c (j:=1000000000000000000000000000057) (by decide);generalize hx:c.fmod 1000000000000000000000000000057=x at hm;have g1:lW (.int x) (.int 271828182845904523536028747135)=some (.int (x*271828182845904523536028747135)):=o6 (Et hm.1 (Int.lt_trans hm.2 (by decide)) (by decide) (by decide));have g2:lW (.int (k:Int)) (.int (k:Int))=some (.int ((k:Int)*k)):=o6 (rN (by omega) (by omega));have kk:(k:Int)*k<=9000*9000:=Int.mul_le_mul (by omega) (by omega) (by omega) (by omega);have k0:0<=(k:Int)*k:=Int.mul_nonneg (by omega) (by omega);have g3:lW (.int ((k:Int)*k)) (.int 314159265358979323846264338327)=some (.int ((k:Int)*k*314159265358979323846264338327)):=o6 (rN (by omega) (by omega));have ga:(1000000000000000000000000000000:Int)+57=1000000000000000000000000000057:=by decide
 refine ⟨(x*271828182845904523536028747135+(k:Int)*k*314159265358979323846264338327+577215664901532860606512090082).fmod 1000000000000000000000000000057,?_,(cY _ (by decide)).1⟩;have md:∀ i:Int,bQ (.int i) (.int 1000000000000000000000000000057)=some (.int (i.fmod 1000000000000000000000000000057)):=λ i=>pw (by simp only [lq];decide);have mx:=md c;rw [hx] at mx;first | rfl | simp! [bK,uD,MN,ga,md,mx,hx,g1,g2,g3]
def ox (ns:List Int) (k:Nat):∃ c:Int,cv [.list (ns.map .int),.int (k:Int)]=some (.int c):=by
 by_cases h:(k:Int)<ns.length
 . have e1:decide ((k:Int)<((ns.map W.int).length:Nat))=true:=by simpa using h
   refine ⟨ns[k]?.getD 0,?_⟩;have Ge:=iJ ns (k:Int) (by omega) h;first | rfl | (simp! [cv,uD,e1,Ge];rfl)
 . have e1:decide ((k:Int)<((ns.map W.int).length:Nat))=false:=by simpa using h
   refine ⟨0,?_⟩;first | rfl | simp! [cv,uD,e1]
instance iG:Str:=Str.ofString "abcdefghijklmnopqrstuvwxyz"
def Fq:iG.cps.toList.length=26:=by decide +kernel
def F9:fR iG:=by unfold fR;decide +kernel
def Bw (i:Int) (h0:0<=i) (h1:i<26):∃ c:Nat,aI (.str iG) (.int i)=some (.str ⟨List.toArray [c]⟩)/\fR ⟨List.toArray [c]⟩:=by
 have hz:iG.length<=sizeLine:=sz _ (by decide +kernel);obtain ⟨k,rfl⟩:∃ k:Nat,i=k:=⟨i.toNat,by omega⟩
 have hk:k<iG.cps.toList.length:=by rw [Fq];omega
 refine ⟨iG.cps.toList[k],?_,?_⟩
 . show (if iG.length<=sizeLine then (gz iG.cps.toList (k:Int)).map λ c=>W.str ⟨List.toArray [c]⟩ else none)=_;rw [QF hz,DX _ k hk,QP hk];rfl
 . exact fR.one F9 (i:=(k:Int)) (by rw [DX _ k hk,QP hk])
instance KP:List Str:=[Str.ofString "def", Str.ofString "set", Str.ofString "put", Str.ofString "tell", Str.ofString "if", Str.ofString "else", Str.ofString "while", Str.ofString "end", Str.ofString "break", Str.ofString "again", Str.ofString "call", Str.ofString "return", Str.ofString "stop", Str.ofString "join", Str.ofString "meet", Str.ofString "lane", Str.ofString "lanes", Str.ofString "mine", Str.ofString "box", Str.ofString "div", Str.ofString "rem", Str.ofString "sum", Str.ofString "most", Str.ofString "least", Str.ofString "ahead"]
def Lw (x:Str) (acc:Ω):jf (.str x) (.list (acc.map .str))=some (decide (x∈acc)):=by
 have e1:rq (.list (acc.map .str))=some (acc.map .str):=rfl;have e2:N9 (.str x)=some (.str x):=rfl;simp only [jf,e1,e2,QC,AM,QI,A7]
def se (c:Nat):(⟨List.toArray [c]⟩:Str).length=1:=rfl
def Py (s0 s2 s3 s4 s8 s9 s10:Sl):∀ (n:Nat) (lo aM:Int) (b:Str) (s7:Sl),fR b->b.length+n<=100->∃ (rest':Int) (b':Str) (s7':Sl),bz (af 7) ge (eZ lo n) [s0,.val (.str iG),s2,s3,s4,.val (.int aM),.val (.str b),s7,s8,s9,s10]=some (.nx [s0,.val (.str iG),s2,s3,s4,.val (.int rest'),.val (.str b'),s7',s8,s9,s10])/\fR b'/\b'.length=b.length+n
 | 0,lo,aM,b,s7,hb,_=>⟨aM,b,s7,rfl,hb,rfl⟩
 | n+1,lo,aM,b,s7,hb,hn=>by
  have h1:=cY aM (j:=26) (by decide);obtain ⟨c,ec,hc⟩:=Bw _ h1.1 h1.2;have ga:bB (.str b) (.str ⟨List.toArray [c]⟩)=some (.str (b++⟨List.toArray [c]⟩)):=wJ (sz _ (by rw [se];omega));have ln:(b++⟨List.toArray [c]⟩:Str).length=b.length+1:=by rw [sL,se]
  obtain ⟨r',b',s7',e,a,l⟩:=Py s0 s2 s3 s4 s8 s9 s10 n (lo+1) (aM.fdiv 26) (b++⟨List.toArray [c]⟩) (.val (.int lo)) (hb.app hc) (by omega);refine ⟨r',b',s7',?_,a,by omega⟩;rw [fu];refine jS rfl ?_ e;first | rfl | simp +decide only [ge,uD,Nat.reduceAdd,Nat.reduceSub,reduceIte,Nat.reduceEqDiff,List.replicate,ec,ga]
def vW (z:Str) (lo hi:Option Int):(Txt.slice z lo hi).length<=z.length:=Txt.slice_le z _ _
def Oo {f:μ} {p q:DS->Option (Option Int)} {δ:DS} {b:Str} {lo hi:Option Int} (h:f δ=some (.str b)) (h1:p δ=some lo) (h2:q δ=some hi) (hz:b.length<=1000):sO f p q δ=some (.str (Txt.slice b lo hi)):=by simp only [sO,JS,h,h1,h2,QC,QF hz]
section
variable {s0:Sl} {L P aM:Int} {b:Str}
instance dN (s0:Sl) (L P aM:Int) (b:Str) (s7 s8 s9 s10:Sl):DS:=[s0,.val (.str iG),.val (.list (KP.map .str)),.val (.int L),.val (.int P),.val (.int aM),.val (.str b),s7,s8,s9,s10]
def Cq (hb:fR b) (hl:b.length<=100) (k:Int) (h0:0<=k) (h1:k<=6) (acc:List W) (ha:acc.length<100) (s9 s10:Sl):∃ (w:Str) (t9:Sl),fR w/\gf (dN s0 L P aM b (.val (.int k)) (.own acc) s9 s10)=some (.nx (dN s0 L P aM b (.val (.int k)) (.own (acc++[.str w])) t9 (.val (.str w)))):=by
 have hz:b.length<=1000:=by omega
 have h2:=cY (aM+5*k) (j:=26) (by decide);obtain ⟨c,ec,hc⟩:=Bw _ h2.1 h2.2;have gm:lW (.int 5) (.int k)=some (.int (5*k)):=o6 (rN (by decide) (by decide));let a1:=Txt.slice b none (some P);let a2:=Txt.slice b (some (P+1)) (some L);have l1:a1.length<=b.length:=vW _ _ _;have l2:a2.length<=b.length:=vW _ _ _;have g1:bB (.str a1) (.str ⟨List.toArray [c]⟩)=some (.str (a1++⟨List.toArray [c]⟩)):=wJ (sz _ (by rw [se];omega));have l3:(a1++⟨List.toArray [c]⟩:Str).length=a1.length+1:=by rw [sL,se]
 have g2:bB (.str (a1++⟨List.toArray [c]⟩)) (.str a2)=some (.str (a1++⟨List.toArray [c]⟩++a2)):=wJ (sz _ (by omega));have l4:(a1++⟨List.toArray [c]⟩++a2:Str).length=(a1++⟨List.toArray [c]⟩:Str).length+a2.length:=sL _ _;have k1:fR (a1++⟨List.toArray [c]⟩++a2:Str):=((hb.slice _ _).app hc).app (hb.slice _ _);let sg:W:=.str ⟨List.toArray [c]⟩;let w1:Str:=a1++⟨List.toArray [c]⟩++a2;have e1:aG (av aI (aq 1) (av bQ (av bB (aq 5) (av lW (!5) (ae 7))) !26)) (af 9) (dN s0 L P aM b (.val (.int k)) (.own acc) s9 s10)=some (.nx (dN s0 L P aM b (.val (.int k)) (.own acc) (.val sg) s10)):=aQ (dO rfl (dO (dO rfl (dO rfl rfl gm) rfl) rfl rfl) ec) rfl;have e2:aG (av bB (av bB (sO (ae 6) dD (eW (ae 4))) (ae 9)) (sO (ae 6) (eW (av bB (aq 4) !1)) (eW (ae 3)))) (af 10) (dN s0 L P aM b (.val (.int k)) (.own acc) (.val sg) s10)=some (.nx (dN s0 L P aM b (.val (.int k)) (.own acc) (.val sg) (.val (.str w1)))):=aQ (dO (dO (Oo rfl rfl rfl hz) rfl g1) (Oo rfl rfl rfl hz) g2) rfl;have e3:∃ w2:Str,fR w2/\w2.length<=300/\ci (ay bp (av bQ (av cE (aq 5) !26) !4) !1) (aG (sO (ae 6) dD (eW (av gSub' (!8) (ae 7)))) (af 10)) az (dN s0 L P aM b (.val (.int k)) (.own acc) (.val sg) (.val (.str w1)))=some (.nx (dN s0 L P aM b (.val (.int k)) (.own acc) (.val sg) (.val (.str w2)))):=by
  have t:ay bp (av bQ (av cE (aq 5) !26) !4) (!1) (dN s0 L P aM b (.val (.int k)) (.own acc) (.val sg) (.val (.str w1)))=some (decide ((aM.fdiv 26).fmod 4=1)):=rfl;by_cases h:(aM.fdiv 26).fmod 4=1
  . rw [QL h] at t;exact ⟨Txt.slice b none (some (8-k)),hb.slice _ _,Rh (vW _ _ _) (by omega),aJ (b:=true) t (aQ (Oo rfl rfl rfl hz) rfl)⟩
  . rw [QJ h] at t;exact ⟨w1,k1,(by show (a1++⟨List.toArray [c]⟩++a2:Str).length<=300;omega),aJ (b:=false) t rfl⟩
 obtain ⟨w2,k2,l5,e3⟩:=e3;have e4:∃ w3:Str,fR w3/\ci (kj (ay jf (aq 10) (aq 2)) (ay bp (aq 10) !"main")) (aG (av uh (!"q") (nG gP (aq 10))) (af 10)) az (dN s0 L P aM b (.val (.int k)) (.own acc) (.val sg) (.val (.str w2)))=some (.nx (dN s0 L P aM b (.val (.int k)) (.own acc) (.val sg) (.val (.str w3)))):=by
  have t:∃ bb,kj (ay jf (aq 10) (aq 2)) (ay bp (aq 10) !"main") (dN s0 L P aM b (.val (.int k)) (.own acc) (.val sg) (.val (.str w2)))=some bb:=by
   have i1:ay jf (aq 10) (aq 2) (dN s0 L P aM b (.val (.int k)) (.own acc) (.val sg) (.val (.str w2)))=some (decide (w2∈KP)):=Lw w2 KP;have i2:ay bp (aq 10) (!"main") (dN s0 L P aM b (.val (.int k)) (.own acc) (.val sg) (.val (.str w2)))=some (decide (w2=Str.ofString "main")):=tD rfl;cases h:decide (w2∈KP) with
   | true=>rw [h] at i1;exact ⟨true,zy i1⟩
   | false=>
    rw [h] at i1;cases h':decide (w2=Str.ofString "main") with
    | true=>rw [h'] at i2;exact ⟨true,wQ i1 i2⟩
    | false=>rw [h'] at i2;exact ⟨false,wv i1 i2⟩
  obtain ⟨bb,t⟩:=t;cases bb with
  | false=>exact ⟨w2,k2,aJ (b:=false) t rfl⟩
  | true=>
   have q1:fR (Str.ofString "q"):=by unfold fR;decide +kernel
   have gl:gP (.str w2)=some (.int w2.length):=QF (sz _ (by omega));have gs:uh (.str "q") (.int (w2.length:Nat))=some (.str (Txt.mul (Str.ofString "q") (w2.length:Nat))):=by
    have ql:(Str.ofString "q").length<=1000:=by decide +kernel
    refine QF ?_;simp only [Rb,Ri];exact ⟨⟨by omega,by omega⟩,ql⟩
   exact ⟨Txt.mul (Str.ofString "q") (w2.length:Nat),q1.mul _,aJ (b:=true) t (aQ (d:=.str (Txt.mul (Str.ofString "q") (w2.length:Nat))) (dO rfl gl gs) rfl)⟩
 obtain ⟨w3,k3,e4⟩:=e4;exact ⟨w3,.val sg,k3,ao e1 (ao e2 (ao e3 (ao e4 (IN rfl rfl (by omega)))))⟩
def Pu (hb:fR b) (hl:b.length<=100):∀ (n:Nat) (lo:Int) (acc:List W) (s7 s9 s10:Sl),0<=lo->lo+n<=6->acc.length+n<100->∃ (N:Ω) (t7 t9 t10:Sl),N.length=n/\(∀ x∈N,fR x)/\bz (af 7) gf (eZ lo n) (dN s0 L P aM b s7 (.own acc) s9 s10)=some (.nx (dN s0 L P aM b t7 (.own (acc++N.map .str)) t9 t10))
 | 0,lo,acc,s7,s9,s10,_,_,_=>⟨[],s7,s9,s10,rfl,(λ x hx=>absurd hx QR),by simp [eZ,bz]⟩
 | n+1,lo,acc,s7,s9,s10,h0,h1,ha=>by
  obtain ⟨w,t9,hw,e⟩:=Cq (s0:=s0) (L:=L) (P:=P) (aM:=aM) hb hl lo h0 (by omega) acc (by omega) s9 s10;obtain ⟨N,u7,u9,u10,l,k,e2⟩:=Pu hb hl n (lo+1) (acc++[.str w]) (.val (.int lo)) t9 (.val (.str w)) (by omega) (by omega) (by simp;omega);refine ⟨w::N,u7,u9,u10,by simp [l],λ x hx=>?_,?_⟩
  . rcases QE.mp hx with rfl | hx
    . exact hw
    . exact k x hx
  . rw [fu];refine jS (δ2:=dN s0 L P aM b (.val (.int lo)) (.own acc) s9 s10) rfl e (e2.trans ?_);simp
end
def wZ (m:Int):∃ N:Ω,iH [.int m]=some (.list (N.map .str))/\N.length=6/\∀ x∈N,fR x:=by
 have h8:=cY m (j:=8) (by decide);let L:Int:=1+m.fmod 8;let P:Int:=(m.fdiv 8).fmod L;obtain ⟨r1,b1,s7,e1,a1,l1⟩:=Py (.val (.int m)) (.val (.list (KP.map .str))) (.val (.int L)) (.val (.int P)) .no .no .no 8 0 (m.fdiv 64) (Str.ofString "") .no (by unfold fR;decide +kernel) (by decide +kernel);have l0:(Str.ofString "").length=0:=by decide +kernel
 obtain ⟨N,t7,t9,t10,l2,k2,e2⟩:=Pu (s0:=.val (.int m)) (L:=L) (P:=P) (aM:=r1) a1 (by omega) 6 0 [] s7 .no .no (by decide) (by decide) (by decide);refine ⟨N,?_,l2,k2⟩;show cn 1 11 _ _=_;refine aZ rfl ?_;refine ao (δ1:=[.val (.int m),.val (.str iG),.no,.no,.no,.no,.no,.no,.no,.no,.no]) rfl ?_;refine ao (δ1:=[.val (.int m),.val (.str iG),.val (.list ((KP.take 12).map .str)),.no,.no,.no,.no,.no,.no,.no,.no]) rfl ?_;refine ao (δ1:=[.val (.int m),.val (.str iG),.val (.list ((KP.take 23).map .str)),.no,.no,.no,.no,.no,.no,.no,.no]) (aQ (d:=.list ((KP.take 23).map .str)) (dO (a:=.list ((KP.take 12).map .str)) (b:=.list (((KP.drop 12).take 11).map .str)) rfl rfl ((fI (sz _ (by decide))).trans rfl)) rfl) ?_;refine ao (δ1:=[.val (.int m),.val (.str iG),.val (.list (KP.map .str)),.no,.no,.no,.no,.no,.no,.no,.no]) (aQ (d:=.list (KP.map .str)) (dO (a:=.list ((KP.take 23).map .str)) (b:=.list ((KP.drop 23).map .str)) rfl rfl ((fI (sz _ (by decide))).trans rfl)) rfl) ?_;refine ao (δ1:=[.val (.int m),.val (.str iG),.val (.list (KP.map .str)),.val (.int L),.no,.no,.no,.no,.no,.no,.no]) rfl ?_;refine ao (δ1:=[.val (.int m),.val (.str iG),.val (.list (KP.map .str)),.val (.int L),.val (.int P),.no,.no,.no,.no,.no,.no]) (aQ (d:=.int P) ?_ rfl) ?_
 . have hL:bQ (.int (m.fdiv 8)) (.int L)=some (.int P):=pw (by simp only [lq,Ri];omega);exact dO rfl rfl hL
 refine ao (δ1:=[.val (.int m),.val (.str iG),.val (.list (KP.map .str)),.val (.int L),.val (.int P),.val (.int (m.fdiv 64)),.no,.no,.no,.no,.no]) rfl ?_;refine ao (δ1:=[.val (.int m),.val (.str iG),.val (.list (KP.map .str)),.val (.int L),.val (.int P),.val (.int (m.fdiv 64)),.val (.str ""),.no,.no,.no,.no]) rfl ?_;refine ao (fP (ds:=eZ 0 8) (gS (n:=8) rfl (by decide)) e1) ?_;refine ao (δ1:=dN (.val (.int m)) L P r1 b1 s7 (.own []) .no .no) rfl ?_;refine ao (fP (ds:=eZ 0 6) (gS (n:=6) rfl (by decide)) e2) rfl
def GC {α:Type} (g:α->W) (a:List α) {i:Int} (h0:0<=i) (h1:i<a.length):∃ k:Fin a.length,i=(k.val:Int)/\gz (a.map g) i=some (g a[k]):=by
 obtain ⟨k,rfl⟩:=Int.eq_ofNat_of_zero_le h0;have hl:=ofNat_lt.mp h1;refine ⟨⟨k,hl⟩,rfl,?_⟩;rw [DX _ k (by rw [Rk];exact hl),Re,QP hl];rfl
def iJ {α:Type} (g:α->W) (a:List α) {i:Int} (h0:0<=i) (h1:i<a.length):∃ x∈a,gz (a.map g) i=some (g x):=by
 obtain ⟨k,_,e⟩:=GC g a h0 h1;exact ⟨_,RU k.2,e⟩
def qQ {α:Type} (g:α->W) (a:List α) (c:Int) (h:0<a.length):∃ x∈a,gz (a.map g) (c.fmod a.length)=some (g x):=
 have h:=cY c (ofNat_lt.mpr h)
 iJ g a h.1 h.2
def Mc (i:Int) (h0:0<=i) (h1:i<7):∃ n:Nat,gz [W.int 0,.int 0,.int 0,.int 1,.int 1,.int 2,.int 6] i=some (.int (n:Int))/\n<=6/\(i<5->n<=1):=by
 obtain ⟨k,rfl,e⟩:=GC (λ n:Nat=>W.int n) [0,0,0,1,1,2,6] h0 h1;have:∀ k:Fin 7,[0,0,0,1,1,2,6][k]<=6/\((k.val:Int)<5->[0,0,0,1,1,2,6][k]<=1):=by decide
 exact ⟨_,e,this k⟩
def AD (N:Ω) (hN:N.length=6) (c:Int):∃ x∈N,gz (N.map W.str) (c.fmod 6)=some (.str x):=by
 have h:=qQ W.str N c (by rw [hN];decide);rw [hN] at h;exact h
def wB {α:Type} (g:α->W) (a:List α) (c:Int) (h:0<a.length):bQ (.int c) (.int ((a.map g).length:Nat))=some (.int (c.fmod a.length)):=by
 rw [Rk];exact pw (by simp only [lq,Ri];omega)
instance ji (o:Int) (t:Tr) (d c:Nat):Prop:=gd t d c/\(o=0->own t=false)
section
variable {N:Ω} {o:Int}
def lT (hN:N.length=6) (hk:∀ x∈N,fR x) (c:Int):∃ (t:Tr) (r:Int),cH [.int c,.list (N.map .str),.int o]=some (.tuple [tw t,.int r])/\ji o t 0 1:=by
 have h24:=cY c (j:=24) (by decide);let δ:DS:=[.val (.int c),.val (.list (N.map .str)),.val (.int o),.val (.int (c.fmod 24)),.val (.int (c.fdiv 24))]
 have pre:∀ {f:υ} {d:W},f δ=some (.rt d)->aF (aG (av bQ (aq 0) !24) (af 3)) (aF (aG (av cE (aq 0) !24) (af 4)) f) (bM 5 [.int c,.list (N.map .str),.int o])=some (.rt d):=λ {f d} h=>ao (δ1:=[.val (.int c),.val (.list (N.map .str)),.val (.int o),.val (.int (c.fmod 24)),.no]) rfl (ao (δ1:=δ) rfl h);have t1:ay MW (aq 3) (av gSub' (!24) (ae 2)) δ=some (decide (24-o<=c.fmod 24)):=rfl;have t2:ay tZ (aq 3) (!11) δ=some (decide (c.fmod 24<11)):=rfl;have t3:ay bp (aq 3) (!11) δ=some (decide (c.fmod 24=11)):=rfl;have no:∀ t:Tr,tW t=[]->D6 t:=λ t h x hx=>by rw [h] at hx;cases hx
 by_cases h1:24-o<=c.fmod 24
 . obtain ⟨k,_,ek⟩:=qQ (λ k:Fin 3=>tw (.sig k)) [0,2] (c.fdiv 24) (by decide);rw [QL h1] at t1;exact ⟨.sig k,(c.fdiv 24).fdiv 2,aZ rfl (pre (gh (aJ (b:=true) t1 (bq (j4 (rj (l:=[.tuple [.str "lane"],.tuple [.str "mine"]]) rfl rfl ek) rfl))))),⟨QH _,QH _,no _ rfl⟩,λ z=>by omega⟩
 rw [QJ h1] at t1;have s1:=aJ (f:=aN (aK #[av aI (bc (bu #[aK #[!"lane"],aK #[!"mine"]])) (av bQ (aq 4) !2),av cE (aq 4) !2])) (g:=az) (b:=false) t1 rfl;by_cases h2:c.fmod 24<11
 . obtain ⟨x,hx,ex⟩:=AD N hN (c.fdiv 24);rw [QL h2] at t2;exact ⟨.nam x,(c.fdiv 24).fdiv 6,aZ rfl (pre (ao s1 (gh (aJ (b:=true) t2 (bq (j4 (j4 rfl (rj rfl rfl ex)) rfl)))))),⟨QH _,QH _,λ y hy=>by rw [QD.mp hy];exact (hk x hx).ok⟩,λ _=>rfl⟩
 rw [QJ h2] at t2;have s2:=aJ (f:=aN (aK #[aK #[!"name",av aI (aq 1) (av bQ (aq 4) !6)],av cE (aq 4) !6])) (g:=az) (b:=false) t2 rfl;by_cases h3:c.fmod 24=11
 . rw [QL h3] at t3;exact ⟨.sig 1,c.fdiv 24,aZ rfl (pre (ao s1 (ao s2 (gh (aJ (b:=true) t3 (bq (j4 (JZ rfl) rfl))))))),⟨QH _,QH _,no _ rfl⟩,λ _=>rfl⟩
 . rw [QJ h3] at t3;exact ⟨.num ((c.fdiv 24).fmod 1999999999-999999999),(c.fdiv 24).fdiv 199,aZ rfl (pre (ao s1 (ao s2 (ao (aJ (b:=false) t3 rfl) (bq (j4 (j4 rfl rfl) rfl)))))),⟨QH _,QH _,no _ rfl⟩,λ _=>rfl⟩
def Bt {t:Tr} {d c:Nat} (h:ji o t d c):ji o (.box t) (d+1) (c+1):=⟨⟨by have:=h.1.1;simp only [qe];omega,by have:=h.1.2.1;simp only [jP];omega,λ x hx=>h.1.2.2 x (by simpa [tW,fK] using hx)⟩,λ z=>h.2 z⟩
def BV {a b:Tr} {d c d' c':Nat} (k:Fin 7) (h:ji o a d c) (h':ji o b d' c'):ji o (.op k a b) (max d d'+1) (c+c'+1):=⟨⟨by have:=h.1.1;have:=h'.1.1;simp only [qe];omega,by have:=h.1.2.1;have:=h'.1.2.1;simp only [jP];omega,λ x hx=>by
 rw [sZ] at hx;rcases QK.mp hx with hx | hx
 . exact h.1.2.2 x hx
 . exact h'.1.2.2 x hx⟩,λ z=>by rw [JU,h.2 z,h'.2 z];rfl⟩
def iO {t:Tr} {d c d' c':Nat} (h:ji o t d c) (h1:d<=d') (h2:c<=c'):ji o t d' c':=⟨⟨Rh h.1.1 h1,Rh h.1.2.1 h2,h.1.2.2⟩,h.2⟩
def wW (hN:N.length=6) (hk:∀ x∈N,fR x) (c:Int):∃ (t:Tr) (r:Int),f6 [.int c,.list (N.map .str),.int o]=some (.tuple [tw t,.int r])/\ji o t 1 3:=by
 obtain ⟨a,r,ea,ga⟩:=lT (o:=o) hN hk (c.fdiv 5);let δ (r:Int) (s5:Sl):DS:=[.val (.int c),.val (.list (N.map .str)),.val (.int o),.val (tw a),.val (.int r),s5]
 have t1:ay bp (av bQ (aq 0) !5) (!1) (δ r .no)=some (decide (c.fmod 5=1)):=rfl;have t2:ay bp (av bQ (aq 0) !5) (!2) (δ r .no)=some (decide (c.fmod 5=2)):=rfl;have s0:aG (aU cH #[av cE (aq 0) !5,ae 1,ae 2]) (bG 2 (aD (af 3) (aD (af 4) bJ))) (bM 6 [.int c,.list (N.map .str),.int o])=some (.nx (δ r .no)):=aQ (iz rfl ea) rfl;by_cases h1:c.fmod 5=1
 . rw [QL h1] at t1;exact ⟨.box a,r,aZ rfl (ao s0 (gh (aJ (b:=true) t1 (bq (j4 (j4 rfl rfl) rfl))))),iO (Bt ga) (by decide) (by decide)⟩
 rw [QJ h1] at t1;by_cases h2:c.fmod 5=2
 . obtain ⟨b,r2,eb,gb⟩:=lT (o:=o) hN hk r;obtain ⟨k,_,ek⟩:=qQ (λ k:Fin 7=>W.str (uE k)) [0,2,5] r2 (by decide);rw [QL h2] at t2;exact ⟨.op k a b,r2.fdiv 3,aZ rfl (ao s0 (ao (aJ (b:=false) t1 rfl) (gh (aJ (b:=true) t2 (ao (f:=aG (aU cH #[ae 4,ae 1,ae 2]) (bG 2 (aD (af 5) (aD (af 4) bJ)))) (δ1:=δ r2 (.val (tw b))) (aQ (iz rfl eb) rfl) (bq (j4 (vM (rj (l:=[.str "+", .str "*", .str "<"]) rfl rfl ek) rfl rfl) rfl))))))),iO (BV k ga gb) (by decide) (by decide)⟩
 . rw [QJ h2] at t2;exact ⟨a,r,aZ rfl (ao s0 (ao (aJ (b:=false) t1 rfl) (ao (aJ (b:=false) t2 rfl) (bq (j4 rfl rfl))))),iO ga (by decide) (by decide)⟩
end
def He {f g:υ} {δ δ':DS} (h:f δ=some (.ct δ')):aF f g δ=some (.ct δ'):=by unfold aF;rw [h]
section
variable {N:Ω} {o num:Int}
instance dX (N:Ω) (o num:Int) (D:Nat) (t:Tr) (aM:Int) (s6 s7 s8 s9:Sl):DS:=[.val (.int num),.val (.list (N.map .str)),.val (.int o),.val (.int (D:Int)),.val (tw t),.val (.int aM),s6,s7,s8,s9]
def EK (hN:N.length=6) (hk:∀ x∈N,fR x) (D k:Nat) (hkk:k<100) (t:Tr) (d c:Nat) (g:ji o t d c) (aM:Int) (s7 s8 s9:Sl):∃ (t':Tr) (r':Int) (s7' s8' s9':Sl),ji o t' (max d 1+1) (c+4)/\(cP (dX N o num D t aM (.val (.int (k:Int))) s7 s8 s9)=some (.nx (dX N o num D t' r' (.val (.int (k:Int))) s7' s8' s9'))∨cP (dX N o num D t aM (.val (.int (k:Int))) s7 s8 s9)=some (.ct (dX N o num D t' r' (.val (.int (k:Int))) s7' s8' s9'))):=by
 obtain ⟨m,em,_⟩:=gp (num+(k:Int)) (k+5) (by omega);have e5:((k+5:Nat):Int)=(k:Int)+5:=by omega
 rw [e5] at em;have s1:∃ r1,ci (ay tZ (aq 5) (av lK (!10) !11)) (aG (aU bK #[av bB (aq 0) (ae 6),av bB (aq 6) !5]) (af 5)) az (dX N o num D t aM (.val (.int (k:Int))) s7 s8 s9)=some (.nx (dX N o num D t r1 (.val (.int (k:Int))) s7 s8 s9)):=by
  have tt:ay tZ (aq 5) (av lK (!10) !11) (dX N o num D t aM (.val (.int (k:Int))) s7 s8 s9)=some (decide (aM<100000000000)):=pS rfl (dO rfl rfl Me) rfl;by_cases h:aM<100000000000
  . rw [QL h] at tt;exact ⟨m,aJ (b:=true) tt (aQ (d:=.int m) (iz rfl em) rfl)⟩
  . rw [QJ h] at tt;exact ⟨aM,aJ (b:=false) tt rfl⟩
 obtain ⟨r1,s1⟩:=s1;let kd:Int:=r1.fmod 4;let r2:Int:=r1.fdiv 4;have s2:aG (av bQ (aq 5) !4) (af 7) (dX N o num D t r1 (.val (.int (k:Int))) s7 s8 s9)=some (.nx (dX N o num D t r1 (.val (.int (k:Int))) (.val (.int kd)) s8 s9)):=rfl;have s3:aG (av cE (aq 5) !4) (af 5) (dX N o num D t r1 (.val (.int (k:Int))) (.val (.int kd)) s8 s9)=some (.nx (dX N o num D t r2 (.val (.int (k:Int))) (.val (.int kd)) s8 s9)):=rfl;have t4:ay bp (aq 7) (!0) (dX N o num D t r2 (.val (.int (k:Int))) (.val (.int kd)) s8 s9)=some (decide (kd=0)):=rfl;by_cases h0:kd=0
 . rw [QL h0] at t4;refine ⟨.box t,r2,.val (.int kd),s8,s9,iO (Bt g) (by omega) (by omega),.inr ?_⟩;refine ao s1 (ao s2 (ao s3 ?_));have:ci (ay bp (aq 7) !0) (aF (aG (aK #[!"box",ae 4]) (af 4)) kM) az (dX N o num D t r2 (.val (.int (k:Int))) (.val (.int kd)) s8 s9)=some (.ct (dX N o num D (.box t) r2 (.val (.int (k:Int))) (.val (.int kd)) s8 s9)):=by
    refine aJ (b:=true) t4 (QF rfl |>.trans ?_);exact ao (δ1:=dX N o num D (.box t) r2 (.val (.int (k:Int))) (.val (.int kd)) s8 s9) (aQ (j4 rfl rfl) rfl) rfl
   exact He this
 . rw [QJ h0] at t4;have s4:∃ (u:Tr) (r3:Int),ji o u 1 3/\ci (gL (ay bp (aq 3) !6) (ay bp (aq 6) !0)) (aG (aU cH #[ae 5,ae 1,ae 2]) (bG 2 (aD (af 8) (aD (af 5) bJ)))) (aG (aU f6 #[ae 5,ae 1,ae 2]) (bG 2 (aD (af 8) (aD (af 5) bJ)))) (dX N o num D t r2 (.val (.int (k:Int))) (.val (.int kd)) s8 s9)=some (.nx (dX N o num D t r3 (.val (.int (k:Int))) (.val (.int kd)) (.val (tw u)) s9)):=by
    have tt:∃ b,gL (ay bp (aq 3) !6) (ay bp (aq 6) !0) (dX N o num D t r2 (.val (.int (k:Int))) (.val (.int kd)) s8 s9)=some b:=by
     have tD6:ay bp (aq 3) (!6) (dX N o num D t r2 (.val (.int (k:Int))) (.val (.int kd)) s8 s9)=some (decide ((D:Int)=6)):=rfl;by_cases h6:(D:Int)=6
     . exact ⟨decide ((k:Int)=0),dA (QL h6▸tD6) rfl⟩
     . exact ⟨false,Kj (QJ h6▸tD6)⟩
    obtain ⟨b,tt⟩:=tt;cases b with
    | true=>
     obtain ⟨u,r3,eu,gu⟩:=lT (o:=o) hN hk r2;exact ⟨u,r3,iO gu (by decide) (by decide),aJ (b:=true) tt (aQ (d:=.tuple [tw u,.int r3]) (iz rfl eu) rfl)⟩
    | false=>
     obtain ⟨u,r3,eu,gu⟩:=wW (o:=o) hN hk r2;exact ⟨u,r3,gu,aJ (b:=false) tt (aQ (d:=.tuple [tw u,.int r3]) (iz rfl eu) rfl)⟩
   obtain ⟨u,r3,gu,s4⟩:=s4;obtain ⟨q,_,eq⟩:=qQ (λ k:Fin 7=>W.str (uE k)) [0,1,2,3,4,5,6] r3 (by decide);have s5:aG (av aI (bc (bu #[!"+",!"-",!"*",!"div",!"rem",!"<",!"="])) (av bQ (aq 5) !7)) (af 9) (dX N o num D t r3 (.val (.int (k:Int))) (.val (.int kd)) (.val (tw u)) s9)=some (.nx (dX N o num D t r3 (.val (.int (k:Int))) (.val (.int kd)) (.val (tw u)) (.val (.str (uE q))))):=aQ (rj (l:=[W.str "+", .str "-", .str "*", .str "div", .str "rem", .str "<", .str "="]) rfl rfl eq) rfl;have s6:aG (av cE (aq 5) !7) (af 5) (dX N o num D t r3 (.val (.int (k:Int))) (.val (.int kd)) (.val (tw u)) (.val (.str (uE q))))=some (.nx (dX N o num D t (r3.fdiv 7) (.val (.int (k:Int))) (.val (.int kd)) (.val (tw u)) (.val (.str (uE q))))):=rfl;have t7:ay bp (aq 7) (!1) (dX N o num D t (r3.fdiv 7) (.val (.int (k:Int))) (.val (.int kd)) (.val (tw u)) (.val (.str (uE q))))=some (decide (kd=1)):=rfl;have s40:=aJ (f:=aF (aG (aK #[!"box",ae 4]) (af 4)) kM) (g:=az) (b:=false) t4 rfl;by_cases h1:kd=1
   . rw [QL h1] at t7;refine ⟨.op q t u,r3.fdiv 7,.val (.int kd),.val (tw u),.val (.str (uE q)),iO (BV q g gu) (by omega) (by omega),.inl ?_⟩;exact ao s1 (ao s2 (ao s3 (ao s40 (ao s4 (ao s5 (ao s6 (aJ (b:=true) t7 (aQ (d:=tw (.op q t u)) (vM rfl rfl rfl) rfl))))))))
   . rw [QJ h1] at t7;refine ⟨.op q u t,r3.fdiv 7,.val (.int kd),.val (tw u),.val (.str (uE q)),iO (BV q gu g) (by omega) (by omega),.inl ?_⟩;exact ao s1 (ao s2 (ao s3 (ao s40 (ao s4 (ao s5 (ao s6 (aJ (b:=false) t7 (aQ (d:=tw (.op q u t)) (vM rfl rfl rfl) rfl))))))))
def Mg {h:η} {f:υ} {d:W} {ds:List W} {δ δ2 δ':DS} {o:Option dJ} (h1:h d δ=some δ2) (h2:f δ2=some (.ct δ')) (h3:bz h f ds δ'=o):bz h f (d::ds) δ=o:=by
 rw [<-h3];show (h d δ).bind _=_;rw [h1];show (match f δ2 with | some (.nx δ')=>_ | some (.ct δ')=>_ | some (.bk δ')=>_ | some (.rt d)=>_ | none=>_)=_;rw [h2]
def yD (hN:N.length=6) (hk:∀ x∈N,fR x) (D:Nat):∀ (n lo d c:Nat) (t:Tr) (aM:Int) (s6 s7 s8 s9:Sl),lo+n<100->ji o t d c->1<=d->∃ (t':Tr) (r':Int) (s6' s7' s8' s9':Sl),ji o t' (d+n) (c+4*n)/\bz (af 6) cP (eZ (lo:Int) n) (dX N o num D t aM s6 s7 s8 s9)=some (.nx (dX N o num D t' r' s6' s7' s8' s9'))
 | 0,lo,d,c,t,aM,s6,s7,s8,s9,_,g,_=>⟨t,aM,s6,s7,s8,s9,g,rfl⟩
 | n+1,lo,d,c,t,aM,s6,s7,s8,s9,hl,g,hd=>by
  obtain ⟨t1,r1,u7,u8,u9,g1,e1⟩:=EK (o:=o) (num:=num) hN hk D lo (by omega) t d c g aM s7 s8 s9;obtain ⟨t2,r2,v6,v7,v8,v9,g2,e2⟩:=yD hN hk D n (lo+1) (d+1) (c+4) t1 r1 (.val (.int (lo:Int))) u7 u8 u9 (by omega) (iO g1 (by omega) (QH _)) (by omega);refine ⟨t2,r2,v6,v7,v8,v9,iO g2 (by omega) (by omega),?_⟩;rw [fu];rcases e1 with e1 | e1
  . exact jS (δ2:=dX N o num D t aM (.val (.int (lo:Int))) s7 s8 s9) rfl e1 e2
  . exact Mg (δ2:=dX N o num D t aM (.val (.int (lo:Int))) s7 s8 s9) rfl e1 e2
def gQ (hN:N.length=6) (hk:∀ x∈N,fR x):∃ t:Tr,bf [.int num,.list (N.map .str),.int o]=some (tw t)/\ji o t 7 30/\(num.fmod 7<5->ji o t 7 5):=by
 have hm:=cY num (j:=7) (by decide);obtain ⟨D,eD,hD,hD1⟩:=Mc _ hm.1 hm.2;obtain ⟨a,r,ea,ga⟩:=lT (o:=o) hN hk (num.fdiv 7);obtain ⟨t,r',s6,s7,s8,s9,g,e⟩:=yD (o:=o) (num:=num) hN hk D D 0 1 1 a r .no .no .no .no (by omega) (iO ga (by decide) (by decide)) (by decide);refine ⟨t,?_,iO g (by omega) (by omega),λ z=>iO g (by omega) (by have:=hD1 z;omega)⟩;refine aZ rfl ?_;refine ao (δ1:=[.val (.int num),.val (.list (N.map .str)),.val (.int o),.val (.int (D:Int)),.no,.no,.no,.no,.no,.no]) (aQ (rj (l:=[W.int 0,.int 0,.int 0,.int 1,.int 1,.int 2,.int 6]) rfl rfl eD) rfl) ?_;refine ao (δ1:=dX N o num D a r .no .no .no .no) (aQ (d:=.tuple [tw a,.int r]) (iz rfl ea) rfl) ?_;refine ao (fP (ds:=eZ 0 D) (gS (n:=D) rfl (by omega)) e) rfl
end
inductive Op where
 | st (h:Hd) | opn (wh:Bool) (t:Tr) | fin | els
instance nP (wh:Bool):Fin 12:=if wh=true then 11 else 10
instance dP:Op->W
 | .st h=>.tuple (.str (dF (aA h))::rs h)
 | .opn wh t=>.tuple [.str (dF (nP wh)),tw t]
 | .fin=>.tuple [.str "end"]
 | .els=>.tuple [.str "else"]
instance PP (o:Int) (FN WD:Ω) (wh:Bool):Hd->Prop
 | .set x t=>strOk x=true/\ji o t 7 30
 | .put a b=>ji o a 7 30/\ji o b 7 30
 | .tell t=>ji o t 7 30
 | .ret t=>ji o t 7 30
 | .brk=>wh=true
 | .agn=>wh=true
 | .mt=>True
 | .stp=>True
 | .join x j t=>strOk x=true/\j∈WD/\ji o t 7 30
 | .call x f ts=>strOk x=true/\f∈FN/\ts.length<=6/\∀ t∈ts,ji o t 7 5
 | .ifs t _=>ji o t 7 30
 | .whl t _=>ji o t 7 30
instance Dg (o:Int) (FN WD:Ω):Op->Prop
 | .st h=>jF h=some []/\PP o FN WD true h
 | .opn _ t=>ji o t 7 30
 | _=>True
noncomputable abbrev Rm:=Str×List Str
instance eF (r:Rm):W:=.tuple [.str r.1,.list (r.2.map .str)]
def lQ {l:Ω} (h:∀ x∈l,strOk x=true):dj (l.map .str)=true/\cz (l.map .str)<=0:=
 ⟨gR λ d hd=>by obtain ⟨x,h1,rfl⟩:=Q7.mp hd;exact h x h1,j1 λ d hd=>by obtain ⟨x,h1,rfl⟩:=Q7.mp hd;simp [cU]⟩
structure Kc (FN:Ω) (r:Rm):Prop where
 n:strOk r.1=true
 p:∀ x∈r.2,strOk x=true
 l:r.2.length<=6
 f:r.1≠Str.ofString "main" -> r.1∈FN
def IR {ds:List W} (h:dj ds=true) (hd:cz ds<=60):bp (.list ds) (.list [])=some ds.isEmpty:=by
 obtain ⟨a,a1,a2,a3,_⟩:=si (.list ds) (by simpa [iU] using h);obtain ⟨xs,b1,rfl⟩:=oM a1
 have p1:(W.list []).py=some (.list []):=rfl;have c1:(PyData.list []).canLay0=true:=by simp [canLay0,canLayAll0]
 have s1:JV (.list ds) (.list [])=none:=rfl;have d1:(PyData.list xs).depth<=64:=by rw [a3];simp [cU];omega
 have e:PyData.eqv (.list xs) (.list [])=ds.isEmpty:=by
  cases ds with
  | nil=>cases b1;simp [PyData.eqv,eqvAll]
  | cons y ys=>
   simp only [W.pys] at b1;obtain ⟨u,_,b2⟩:=oB b1
   obtain ⟨v,_,rfl⟩:=oM b2
   simp [PyData.eqv,eqvAll]
 simp only [bp,s1,a1,p1,QC,a2,c1,d1,decide_true,Bool.and_self,RW,e]
def NE:lK (.int 10) (.int 4)=some (.int 10000):=by
 show (if p6 10 4=true then some (W.int ((10:Int)^(4:Int).toNat)) else none)=_;rw [QF (by decide +kernel)];rfl
def FU:lK (.int 10) (.int 12)=some (.int 1000000000000):=by
 show (if p6 10 12=true then some (W.int ((10:Int)^(12:Int).toNat)) else none)=_;rw [QF (by decide +kernel)];rfl
def MB:lK (.int 10) (.int 9)=some (.int 1000000000):=by
 show (if p6 10 9=true then some (W.int ((10:Int)^(9:Int).toNat)) else none)=_;rw [QF (by decide +kernel)];rfl
def vD:∀ (R:List Rm),b9 (af 0) (ay rS 0[0]! !"main") (ae 0) [.no] (R.map eF)=some ((R.filter λ r=>!decide (r.1=Str.ofString "main")).map eF)
 | []=>rfl
 | r::R=>by
  have ih:=vD R;by_cases h:r.1=Str.ofString "main"
  . have e:=QL h;simp! [QT,b9,eF,uD,su,e,Bool.not_true] at ih ⊢;rw [ih];simp [e]
  . have e:=QJ h;simp! [QT,b9,eF,uD,su,e,Bool.not_false] at ih ⊢;rw [ih];simp [e,eF]
section
variable {V:Ω} {o:Int} {FN WD:Ω}
def yb (hV:V.length=6) (hk:∀ x∈V,fR x) (s1 s3 s5 s6 s7:Sl):∀ (n:Nat) (lo aM:Int) (acc:List Tr) (s9:Sl),acc.length+n<100->(∀ t∈acc,ji o t 7 5)->∃ (ts:List Tr) (rest':Int) (s9':Sl),ts.length=acc.length+n/\(∀ t∈ts,ji o t 7 5)/\bz (af 9) kh (eZ lo n) [.val (.int aM),s1,.val (.list (V.map .str)),s3,.val (.int o),s5,s6,s7,.own (acc.map tw),s9]=some (.nx [.val (.int rest'),s1,.val (.list (V.map .str)),s3,.val (.int o),s5,s6,s7,.own (ts.map tw),s9'])
 | 0,lo,aM,acc,s9,_,ha=>⟨acc,aM,s9,rfl,ha,rfl⟩
 | n+1,lo,aM,acc,s9,hl,ha=>by
  let num:Int:=aM.fmod 1000*7+(aM.fdiv 1000).fmod 5;have h5:=cY (aM.fdiv 1000) (j:=5) (by decide);have hn:num.fmod 7<5:=by
   have e:num.fmod 7=(aM.fdiv 1000).fmod 5:=by
    rw [Int.fmod_eq_emod_of_nonneg _ (by decide)];show (aM.fmod 1000*7+(aM.fdiv 1000).fmod 5)%7=_;omega
   omega
  obtain ⟨t,et,_,gt⟩:=gQ (num:=num) (o:=o) hV hk;have gm:lW (.int (aM.fmod 1000)) (.int 7)=some (.int (aM.fmod 1000*7)):=o6 (D1 (by decide) (by decide));obtain ⟨ts,r',s9',l,g,e⟩:=yb hV hk s1 s3 s5 s6 s7 n (lo+1) (aM.fdiv 10000) (acc++[t]) (.val (.int lo)) (by simp;omega) (λ u hu=>by
   rcases QK.mp hu with hu | hu
   . exact ha u hu
   . rw [QD.mp hu];exact gt hn)
  refine ⟨ts,r',s9',by simp at l;omega,g,?_⟩;rw [fu];exact jS (δ2:=[.val (.int aM),s1,.val (.list (V.map .str)),s3,.val (.int o),s5,s6,s7,.own (acc.map tw),.val (.int lo)]) rfl (ao (δ1:=[.val (.int aM),s1,.val (.list (V.map .str)),s3,.val (.int o),s5,s6,s7,.own ((acc++[t]).map tw),.val (.int lo)]) ((IN rfl (iz (vF (dO (dO rfl rfl gm) rfl rfl) rfl rfl) et) (by rw [Rk];omega)).trans (by rw [Rw];rfl)) (aQ (dO rfl (dO rfl rfl NE) rfl) rfl)) e
def yZ (hV:V.length=6) (hk:∀ x∈V,fR x) (R:List Rm) (hR:∀ r∈R,Kc FN r) (hl:R.length<=10) (aM:Int) (x:Str) (hx:strOk x=true):∃ op,jx [.int aM,.str x,.list (V.map .str),.list (R.map eF),.int o]=some (dP op)/\Dg o FN WD op:=by
 let T:=R.filter λ r=>!decide (r.1=Str.ofString "main");have tl:T.length<=R.length:=Se _ _;have tR:∀ r∈T,Kc FN r/\r.1≠Str.ofString "main" := λ r hr=>by
  obtain ⟨h1,h2⟩:=Rq.mp hr;exact ⟨hR r h1,by simpa using h2⟩
 have ok:dj (T.map eF)=true/\cz (T.map eF)<=2:=⟨gR λ d hd=>by
  obtain ⟨r,h1,rfl⟩:=Q7.mp hd;have a:=lQ (tR r h1).1.p;have b:=(tR r h1).1.n;simp [eF,iU,dj,a.1,b],j1 λ d hd=>by
  obtain ⟨r,h1,rfl⟩:=Q7.mp hd;have a:=lQ (tR r h1).1.p;simp [eF,cU,cz];omega⟩
 have en:=IR ok.1 (by omega);let δ (s5 s6 s7 s8 s9:Sl) (r:Int):DS:=[.val (.int r),.val (.str x),.val (.list (V.map .str)),.val (.list (R.map eF)),.val (.int o),s5,s6,s7,s8,s9]
 have st1:aG (bc (gF [none] (bA (aq 3)) (af 0) (ay rS 0[0]! !"main") (ae 0))) (af 5) (δ .no .no .no .no .no aM)=some (.nx (δ (.val (.list (T.map eF))) .no .no .no .no aM)):=aQ (Ke rfl (by rw [Rk];omega) (vD R)) rfl;have t1:ay bp (aq 5) (bc (bu ag)) (δ (.val (.list (T.map eF))) .no .no .no .no aM)=some (T.map eF).isEmpty:=pS rfl rfl en;by_cases hT:T=[]
 . obtain ⟨t,et,gt,_⟩:=gQ (num:=aM) (o:=o) hV hk;exact ⟨.st (.tell t),aZ rfl (ao st1 (gh (aJ (b:=true) (by rw [t1,hT];rfl) (bq (j4 rfl (iz rfl et)))))),rfl,gt⟩
 . have hp:0<T.length:=List.length_pos_iff.mpr hT;obtain ⟨q,hq,ea⟩:=qQ eF T aM hp;have hr:=tR q hq;have md:=wB eF T aM hp;obtain ⟨ts,r',s9',l,g,e⟩:=yb (o:=o) hV hk (.val (.str x)) (.val (.list (R.map eF))) (.val (.list (T.map eF))) (.val (.str q.1)) (.val (.list (q.2.map .str))) q.2.length 0 (aM.fdiv 3) [] .no (by have:=hr.1.l;simp;omega) (λ t ht=>absurd ht QR);refine ⟨.st (.call x q.1 ts),aZ rfl (ao st1 (ao (aJ (b:=false) ?_ rfl) ?_)),rfl,hx,hr.1.f hr.2,by have:=hr.1.l;simp at l;omega,g⟩
   . rw [t1];cases hq:T.map eF with
     | nil=>exact absurd (List.map_eq_nil_iff.mp hq) hT
     | cons a b=>rfl
   refine ao (δ1:=δ (.val (.list (T.map eF))) (.val (.str q.1)) (.val (.list (q.2.map .str))) .no .no aM) (aQ (d:=eF q) (rj rfl (dO rfl rfl md) ea) rfl) ?_;refine ao (δ1:=δ (.val (.list (T.map eF))) (.val (.str q.1)) (.val (.list (q.2.map .str))) .no .no (aM.fdiv 3)) rfl ?_;refine ao (δ1:=δ (.val (.list (T.map eF))) (.val (.str q.1)) (.val (.list (q.2.map .str))) (.own (([]:List Tr).map tw)) .no (aM.fdiv 3)) rfl ?_;exact ao (fP (ds:=eZ 0 q.2.length) (gS (n:=q.2.length) (by first | rfl | simp! [δ,uD,Rk]) (by have:=hr.1.l;omega)) e) (bq (P5 rfl rfl rfl rfl))
end
section
variable {V:Ω} {o:Int} {FN WD:Ω}
def IV (hV:V.length=6) (hk:∀ x∈V,fR x) (R:List Rm) (hR:∀ r∈R,Kc FN r) (hl:R.length<=10) (hW:0<WD.length) (num:Int):∃ op,m7 [.int num,.list (V.map .str),.list (R.map eF),.int o,.list (WD.map .str)]=some (dP op)/\Dg o FN WD op:=by
 have h24:=cY num (j:=24) (by decide);obtain ⟨x,hx,ex⟩:=AD V hV (num.fdiv 24);have xo:=(hk x hx).ok;let kd:=num.fmod 24;let aM:=num.fdiv 144;let δ (s0:Sl):DS:=[s0,.val (.list (V.map .str)),.val (.list (R.map eF)),.val (.int o),.val (.list (WD.map .str)),.val (.int kd),.val (.str x),.val (.int aM)]
 obtain ⟨t,et,gt,_⟩:=gQ (num:=aM) (o:=o) hV hk;have tl:∀ m:Int,ay tZ (aq 5) (dC (.int m)) (δ (.val (.int num)))=some (decide (kd<m)):=λ m=>rfl;have te:∀ m:Int,ay bp (aq 5) (dC (.int m)) (δ (.val (.int num)))=some (decide (kd=m)):=λ m=>rfl;have pre:∀ {f:υ} {d:W},f (δ (.val (.int num)))=some (.rt d)->aF (aG (av bQ (aq 0) !24) (af 5)) (aF (aG (av aI (aq 1) (av bQ (av cE (aq 0) !24) !6)) (af 6)) (aF (aG (av cE (aq 0) !144) (af 7)) f)) (bM 8 [.int num,.list (V.map .str),.list (R.map eF),.int o,.list (WD.map .str)])=some (.rt d):=λ {f d} h=>by
  refine ao (δ1:=[.val (.int num),.val (.list (V.map .str)),.val (.list (R.map eF)),.val (.int o),.val (.list (WD.map .str)),.val (.int kd),.no,.no]) rfl ?_;refine ao (δ1:=[.val (.int num),.val (.list (V.map .str)),.val (.list (R.map eF)),.val (.int o),.val (.list (WD.map .str)),.val (.int kd),.val (.str x),.no]) (aQ (rj rfl rfl ex) rfl) ?_;exact ao (δ1:=δ (.val (.int num))) rfl h
 have F:∀ {m:Int} {g k:υ},¬ kd<m->aF (ci (ay tZ (aq 5) (dC (.int m))) g az) k (δ (.val (.int num)))=k (δ (.val (.int num))):=λ {m g k} h=>ao (aJ (b:=false) (by rw [tl,QJ h]) rfl) rfl;have FE:∀ {m:Int} {g k:υ},¬ kd=m->aF (ci (ay bp (aq 5) (dC (.int m))) g az) k (δ (.val (.int num)))=k (δ (.val (.int num))):=λ {m g k} h=>ao (aJ (b:=false) (by rw [te,QJ h]) rfl) rfl;have T:∀ {m:Int} {g k:υ} {d:W},kd<m->g (δ (.val (.int num)))=some (.rt d)->aF (ci (ay tZ (aq 5) (dC (.int m))) g az) k (δ (.val (.int num)))=some (.rt d):=λ {m g k d} h e=>gh (aJ (b:=true) (by rw [tl,QL h]) e);have TE:∀ {m:Int} {g k:υ} {d:W},kd=m->g (δ (.val (.int num)))=some (.rt d)->aF (ci (ay bp (aq 5) (dC (.int m))) g az) k (δ (.val (.int num)))=some (.rt d):=λ {m g k d} h e=>gh (aJ (b:=true) (by rw [te,QL h]) e);by_cases h5:kd<5
 . exact ⟨.st (.set x t),aZ rfl (pre (T h5 (bq (vM rfl rfl (iz rfl et))))),rfl,xo,gt⟩
 by_cases h9:kd<9
 . obtain ⟨wh,_,ew⟩:=iJ (λ wh=>W.str (dF (nP wh))) [false,false,true,true] (i:=kd-5) (by omega) (by show _<(4:Int);omega);exact ⟨.opn wh t,aZ rfl (pre ((F h5).trans (T h9 (bq (j4 (rj (l:=[W.str "if", .str "if", .str "while", .str "while"]) rfl rfl ew) (iz rfl et)))))),gt⟩
 by_cases h13:kd<13
 . obtain ⟨w,_,ew⟩:=iJ (λ w:Bool=>W.str (bif w then Str.ofString "else" else Str.ofString "end")) [false,false,false,true] (i:=kd-9) (by omega) (by show _<(4:Int);omega);exact ⟨bif w then .els else .fin,Eq.trans (aZ rfl (pre ((F h5).trans ((F h9).trans (T h13 (bq (JZ (rj (l:=[W.str "end", .str "end", .str "end", .str "else"]) rfl rfl ew)))))))) (by cases w <;> rfl),by cases w <;> trivial⟩
 by_cases h17:kd<17
 . obtain ⟨h,m,ew⟩:=iJ (λ h=>W.str (dF (aA h))) [.brk,.agn,.mt,.stp] (i:=kd-13) (by omega) (by show _<(4:Int);omega);have all:∀ h∈[Hd.brk,.agn,.mt,.stp],rs h=[]/\Dg o FN WD (.st h):=Si.mpr ⟨⟨rfl,rfl,rfl⟩,Si.mpr ⟨⟨rfl,rfl,rfl⟩,Si.mpr ⟨⟨rfl,rfl,trivial⟩,Si.mpr ⟨⟨rfl,rfl,trivial⟩,λ _ h=>nomatch h⟩⟩⟩⟩;exact ⟨.st h,Eq.trans (aZ rfl (pre ((F h5).trans ((F h9).trans ((F h13).trans (T h17 (bq (JZ (rj (l:=[W.str "break", .str "again", .str "meet", .str "stop"]) rfl rfl ew))))))))) (by rw [dP,(all h m).1]),(all h m).2⟩
 by_cases h19:kd<19
 . obtain ⟨h,m,ew⟩:=iJ (λ h=>W.str (dF (aA h))) [.tell t,.ret t] (i:=kd-17) (by omega) (by show _<(2:Int);omega);have all:∀ h∈[Hd.tell t,.ret t],rs h=[tw t]/\Dg o FN WD (.st h):=Si.mpr ⟨⟨rfl,rfl,gt⟩,Si.mpr ⟨⟨rfl,rfl,gt⟩,λ _ h=>nomatch h⟩⟩;exact ⟨.st h,Eq.trans (aZ rfl (pre ((F h5).trans ((F h9).trans ((F h13).trans ((F h17).trans (T h19 (bq (j4 (rj (l:=[W.str "tell", .str "return"]) rfl rfl ew) (iz rfl et)))))))))) (by rw [dP,(all h m).1]),(all h m).2⟩
 by_cases e19:kd=19
 . obtain ⟨a,ea,ga,_⟩:=gQ (num:=aM.fdiv 1000000000000) (o:=o) hV hk;obtain ⟨b,eb,gb,_⟩:=gQ (num:=aM.fmod 1000000000000) (o:=o) hV hk;exact ⟨.st (.put b a),aZ rfl (pre ((F h5).trans ((F h9).trans ((F h13).trans ((F h17).trans ((F h19).trans (TE e19 (ao (δ1:=δ (.val (tw a))) (aQ (iz (jI (dO rfl (dO rfl rfl FU) rfl) rfl) ea) rfl) (bq (vM rfl (iz (jI (dO rfl (dO rfl rfl FU) rfl) rfl) eb) rfl)))))))))),rfl,gb,ga⟩
 by_cases e20:kd=20
 . obtain ⟨j,hj,aj⟩:=qQ W.str WD aM hW;obtain ⟨b,eb,gb,_⟩:=gQ (num:=aM.fdiv 4) (o:=o) hV hk;exact ⟨.st (.join x j b),aZ rfl (pre ((F h5).trans ((F h9).trans ((F h13).trans ((F h17).trans ((F h19).trans ((FE e19).trans (TE e20 (bq (P5 rfl rfl (rj rfl (dO rfl rfl (wB W.str WD aM hW)) aj) (iz rfl eb))))))))))),rfl,xo,hj,gb⟩
 . obtain ⟨op,eo,ho⟩:=yZ (WD:=WD) (o:=o) hV hk R hR hl aM x xo;exact ⟨op,aZ rfl (pre ((F h5).trans ((F h9).trans ((F h13).trans ((F h17).trans ((F h19).trans ((FE e19).trans ((FE e20).trans (bq (iz rfl eo)))))))))),ho⟩
end
structure Fr where
 id:Nat
 wh:Bool
 ln:Int
 t:Tr
 up:Nat
 a:Nat
 b:Option Nat
 ca:ω
 cs:ω
instance bW:Option Nat->W
 | none=>.none
 | some b=>.ref b
instance oz (f:Fr):List W:=[.str (dF (nP f.wh)),.int f.ln,tw f.t,.ref f.up,.ref f.a,bW f.b]
instance mf (f:Fr):Nat:=f.b.getD f.a
instance c8 (fs:List Fr):List W:=fs.reverse.map λ f=>.ref f.id
def k2:∀ i:Fin 12,decide (dF i=Str.ofString "break")=decide (i=4)/\decide (dF i=Str.ofString "again")=decide (i=5)/\decide (dF i=Str.ofString "else")=false/\decide (dF i=Str.ofString "end")=false:=by decide +kernel
def kE:decide (Str.ofString "else" = Str.ofString "break")=false/\decide (Str.ofString "else" = Str.ofString "again")=false/\decide (Str.ofString "end" = Str.ofString "break")=false/\decide (Str.ofString "end" = Str.ofString "again")=false/\decide (Str.ofString "end" = Str.ofString "else")=false/\decide (Str.ofString "else" = Str.ofString "end")=false:=by decide +kernel
def kO:∀ wh:Bool,decide (dF (nP wh)=Str.ofString "while")=wh/\decide (dF (nP wh)=Str.ofString "if") = !wh:=by decide +kernel
def BI {fo:ζ} {δ:DS} {S:ak} {l:Nat} {es:List W} {i:Int} {x:W} (h1:fo δ S=some (.ok (.ref l),S)) (h2:S[l]?=some (.lst es)) (h3:gz es i=some x):sIx fo (ab (dC (.int i))) δ S=some (.ok x,S):=by
 have v:ab (dC (.int i)) δ S=some (.ok (.int i),S):=rfl;simp only [sIx,h1,v,au,Gk h2,h3,fN,QI]
def O8 {fo:ζ} {δ:DS} {S:ak} {l:Nat} {es:List W} {x:W} (h1:fo δ S=some (.ok (.ref l),S)) (h2:S[l]?=some (.lst (es++[x]))):sIx fo (ab (Di nK !1)) δ S=some (.ok x,S):=by
 have v:ab (Di nK !1) δ S=some (.ok (.int (-1)),S):=rfl;simp only [sIx,h1,v,au,Gk h2,MM,fN,QI]
def O0 {fa:ζ} {δ:DS} {S:ak} {a b:Str} (h:fa δ S=some (.ok (.str a),S)):Ex false fa (ab (dC (.str b))) δ S=some (.ok (decide (a=b)),S):=by
 have v:ab (dC (.str b)) δ S=some (.ok (.str b),S):=rfl;have e:Fa false (.str a) (.str b) S=some (decide (a=b)):=rfl;simp only [Ex,h,v,au,e,fN,QI]
def MH {f:DS->ak->SM Bool} {δ:DS} {S:ak} {b:Bool} (h:f δ S=some (.ok b,S)):sB f δ S=some (.ok (.bool b),S):=by simp only [sB,h,au]
def Kq {fa fb:ζ} {δ:DS} {S:ak} {l:Nat} {es:List W} (h1:fa δ S=some (.ok (.ref l),S)) (h2:S[l]?=some (.lst es)) (h3:fb δ S=some (.ok (.list []),S)):uP true fa fb δ S=some (.ok (.bool (!es.isEmpty)),S):=by
 simp only [uP,h1,h3,au,LN,fH h2,jD,QC,RW,fN,QI];cases es <;> rfl
section
variable {S:ak} {p:Nat} {fs:List Fr}
instance tV (main:Bool) (fs:List Fr):Op->Bool
 | .st h=>if aA h=4∨aA h=5 then fs.any (·.wh) else (decide (aA h≠3) || !main)
 | .els=>match fs with | []=>false | f::_=>!f.wh&&f.b.isNone
 | .fin=>!fs.isEmpty
 | .opn _ _=>decide (fs.length<5)
def Hr (fs:List Fr):Al (λ x y=>∃ f∈fs,x=.ref f.id/\y=.bool f.wh) (c8 fs) ((fs.reverse.map (·.wh)).map .bool):=by
 have:∀ l:List Fr,(∀ f∈l,f∈fs)->Al (λ x y=>∃ f∈fs,x=W.ref f.id/\y=.bool f.wh) (l.map λ f=>.ref f.id) ((l.map (·.wh)).map .bool):=λ l=>by
  induction l with
  | nil=>intro _;exact .nil
  | cons f l ih=>intro h;exact .cons ⟨f,h f (by simp),rfl,rfl⟩ (ih λ g hg=>h g (by simp [hg]))
 exact this fs.reverse λ f hf=>List.mem_reverse.mp hf
def Dy (hp:S[p]?=some (.lst (c8 fs))) (hf:∀ f∈fs,S[f.id]?=some (.lst (oz f))) (hl:fs.length<=10) (main:Bool) (op:Op) (ho:∀ h,op=.st h->aA h≠10/\aA h≠11):bH [dP op,.ref p,.bool main] S=some (.ok (.bool (tV main fs op)),S):=by
 have z0:=sz 0 (by decide);let δ:DS:=[.val (dP op),.val (.ref p),.val (.bool main)]
 have v1:ab (ae 1) δ S=some (.ok (.ref p),S):=rfl;have vn:ab (bc (bu ag)) δ S=some (.ok (.list []),S):=ai (by first | rfl | simp! [uD,QF z0]);refine (bg rfl).trans ((Q9 eM (?_:_=some (.rt (.bool (tV main fs op)),S))).trans rfl);have run:∀ (w:Str) (c1 c2 c3 c4:Bool),0[0]! δ=some (.str w)->(decide (w=Str.ofString "break")||decide (w=Str.ofString "again"))=c1->decide (w=Str.ofString "else")=c2->decide (w=Str.ofString "end")=c3->(decide (w=Str.ofString "if")||decide (w=Str.ofString "while"))=c4->
  kj (ay bp 0[0]! !"break") (ay bp 0[0]! !"again") δ=some c1/\ay bp 0[0]! (!"else") δ=some c2/\ay bp 0[0]! (!"end") δ=some c3/\kj (ay bp 0[0]! !"if") (ay bp 0[0]! !"while") δ=some c4:=λ w c1 c2 c3 c4 h0 h1 h2 h3 h4=>by
  have orr:∀ {f g:DS->Option Bool} {a b:Bool},f δ=some a->g δ=some b->kj f g δ=some (a||b):=λ {f g a b} h h'=>by
   cases a with
   | true=>exact zy h
   | false=>cases b with
    | true=>exact wQ h h'
    | false=>exact wv h h'
  exact ⟨by rw [orr (tD h0) (tD h0),h1],by rw [tD h0,h2],by rw [tD h0,h3],by rw [orr (tD h0) (tD h0),h4]⟩
 cases op with
 | st h=>
  obtain ⟨n10,n11⟩:=ho h rfl;have q:=k2 (aA h);have q':=kq (aA h);have a0:0[0]! δ=some (.str (dF (aA h))):=x0 rfl;obtain ⟨t1,t2,t3,t4⟩:=run (dF (aA h)) (decide (aA h=4)||decide (aA h=5)) false false false a0 (by rw [q.1,q.2.1]) q.2.2.1 q.2.2.2 (by rw [q'.1,q'.2.1,QJ n10,QJ n11];rfl);by_cases hb:aA h=4∨aA h=5
  . have e1:(decide (aA h=4)||decide (aA h=5))=true:=by simpa using hb
    rw [e1] at t1;refine bw ((c6 (ai t1)).trans (cf ?_));have lk:=xC hp;have cl:=Cp (h:=af 0) (fe:=sB (Ex false (sIx (ab (ae 0)) (ab !0)) (ab !"while"))) (δ:=[.no]) lk (λ x y r=>by
     obtain ⟨f,hm,rfl,rfl⟩:=r;refine ⟨[.val (.ref f.id)],rfl,?_⟩;have:=MH (O0 (b:=Str.ofString "while") (BI (fo:=ab (ae 0)) (δ:=[.val (.ref f.id)]) rfl (hf f hm) (su _ _)));rw [(kO f.wh).1] at this;exact this) (Hr fs) 9000 0 rfl (by simp [c8];omega)
    have c:=qp (S:=S) (ix:=[none]) (fi:=iW (ab (ae 1))) (δ:=δ) (n:=(p,.l)) (S0:=S) (m:=9000) (by simp only [iW,v1,au,fH hp,QI]) (sz 9000 (by decide)) cl;have an:(fs.reverse.map (·.wh)).any id=fs.any (·.wh):=by rw [List.any_map,List.any_reverse];rfl
    have ms:tV main (fs) (.st h)=fs.any (·.wh):=by simp only [tV,QF hb]
    simp only [MX,c,au,Jl,jD,QC,AH,QI,fN,an,ms]
  . have e1:(decide (aA h=4)||decide (aA h=5))=false:=by simpa using hb
    rw [e1] at t1;refine (ah (δ':=δ) (S':=S) ((bi (ai t1)).trans rfl)).trans ?_;refine (ah (δ':=δ) (S':=S) ((bi (ai t2)).trans rfl)).trans ?_;refine (ah (δ':=δ) (S':=S) ((bi (ai t3)).trans rfl)).trans ?_;refine (ah (δ':=δ) (S':=S) ((bi (ai t4)).trans rfl)).trans ?_;refine cq (bq ?_);have nr:dB (ay rS 0[0]! !"return") δ=some (.bool (!decide (aA h=3))):=by
     have c:rS (.str (dF (aA h))) (.str "return")=some (!decide (dF (aA h)=Str.ofString "return")):=rfl;rw [q'.2.2.1] at c;simp only [dB,ay,a0,dC,QC,c,QI]
    have nv:vj (ae 2) δ=some (.bool (!main)):=rfl;simp only [Aj,nr,nv,QC,jb,tV,QS hb];by_cases h3:aA h=3 <;> simp [h3]
 | opn wh t=>
  have a0:0[0]! δ=some (.str (dF (nP wh))):=x0 rfl;have q:=k2 (nP wh);have w4:decide (nP wh=4)=false/\decide (nP wh=5)=false:=by cases wh <;> decide
  obtain ⟨t1,t2,t3,t4⟩:=run (dF (nP wh)) false false false true a0 (by rw [q.1,q.2.1,w4.1,w4.2];rfl) q.2.2.1 q.2.2.2 (by rw [(kO wh).1,(kO wh).2];cases wh <;> rfl);refine (ah (δ':=δ) (S':=S) ((bi (ai t1)).trans rfl)).trans ?_;refine (ah (δ':=δ) (S':=S) ((bi (ai t2)).trans rfl)).trans ?_;refine (ah (δ':=δ) (S':=S) ((bi (ai t3)).trans rfl)).trans ?_;refine bw ((c6 (ai t4)).trans (cf (MH ?_)));have v5:ab (!5) δ S=some (.ok (.int 5),S):=rfl;have ll:ub (.ref p) S=some (.int (fs.length:Nat)):=by simp [ub,fH hp,c8]
  simp only [ky,D5,v1,v5,au,ll,fN,QI];show some (Rs.ok (decide ((fs.length:Int)<5)),S)=some (Rs.ok (decide (fs.length<5)),S);by_cases h5:fs.length<5
  . rw [QL h5,QL (by omega)]
  . rw [QJ h5,QJ (by omega)]
 | fin=>
  have a0:0[0]! δ=some (.str "end"):=x0 rfl;obtain ⟨t1,t2,t3,t4⟩:=run (Str.ofString "end") false false true _ a0 (by rw [kE.2.2.1,kE.2.2.2.1];rfl) kE.2.2.2.2.1 (QL rfl) rfl;refine (ah (δ':=δ) (S':=S) ((bi (ai t1)).trans rfl)).trans ?_;refine (ah (δ':=δ) (S':=S) ((bi (ai t2)).trans rfl)).trans ?_;refine bw ((c6 (ai t3)).trans (cf ?_));rw [Kq v1 hp vn];simp [tV,c8]
 | els=>
  have a0:0[0]! δ=some (.str "else"):=x0 rfl;obtain ⟨t1,t2,t3,t4⟩:=run (Str.ofString "else") false true _ _ a0 (by rw [kE.1,kE.2.1];rfl) (QL rfl) rfl rfl;refine (ah (δ':=δ) (S':=S) ((bi (ai t1)).trans rfl)).trans ?_;refine bw ((c6 (ai t2)).trans (cf ?_));have n1:=Kq v1 hp vn;cases fs with
  | nil=>
   simp only [qO,n1,au,jb,QC];rfl
  | cons f fs=>
   have hp':S[p]?=some (.lst ((fs.reverse.map λ f=>W.ref f.id)++[.ref f.id])):=by rw [hp];simp [c8]
   have hff:=hf f (by simp);have i0:=BI (i:=0) (O8 v1 hp') hff (su _ _);have i5:=BI (i:=5) (O8 v1 hp') hff (OY _ _ _ _ _ _ _);have e1:=MH (O0 (b:=Str.ofString "if") i0);rw [(kO f.wh).2] at e1;have e2:sB (ky p7 (sIx (sIx (ab (ae 1)) (ab (Di nK !1))) (ab !5)) (ab (dC .none))) δ S=some (.ok (.bool f.b.isNone),S):=by
    refine MH ?_;have vN:ab (dC .none) δ S=some (.ok .none,S):=rfl;simp only [ky,i5,vN,au];cases f.b <;> rfl
   have n2:(!(c8 (f::fs)).isEmpty)=true:=by simp [c8]
   rw [n2] at n1;simp only [qO,n1,au,jb,QC,RW,e1,e2,tV];cases f.wh <;> rfl
def F8 {f:Fr} (hf:S[f.id]?=some (.lst (oz f))):fh [.ref f.id] S=some (.ok (if f.wh=true then .tuple [.str (dF 11),.int f.ln,tw f.t,.ref f.a] else .tuple [.str (dF 10),.int f.ln,tw f.t,.ref f.a,bW f.b]),S):=by
 have z4:=sz 4 (by decide);have z5:=sz 5 (by decide);let δ:DS:=[.val (.ref f.id)]
 have v0:ab (ae 0) δ S=some (.ok (.ref f.id),S):=rfl;have i0:=BI (i:=0) v0 hf (su _ _);have i1:=BI (i:=1) v0 hf (Ge _ _ _);have i2:=BI (i:=2) v0 hf (Pg _ _ _ _);have i4:=BI (i:=4) v0 hf (Ou _ _ _ _ _ _);have i5:=BI (i:=5) v0 hf (OY _ _ _ _ _ _ _);have e1:=O0 (b:=Str.ofString "if") i0;rw [(kO f.wh).2] at e1;refine (bg rfl).trans ?_;cases hw:f.wh with
 | true=>
  rw [hw] at e1;refine (Q9 eM (?_:_=some (.rt (.tuple [.str (dF 11),.int f.ln,tw f.t,.ref f.a]),S))).trans rfl;refine (ah (δ':=δ) (S':=S) ((bi e1).trans rfl)).trans (cf ?_);have c:=bo (f:=ab !"while") (δ:=δ) (S:=S) rfl (bo i1 (bo i2 (bo (g:=kS) i4 rfl)));simp only [z9,c,au,QY,RG];rw [QF z4];rfl
 | false=>
  rw [hw] at e1;refine (Q9 eM (?_:_=some (.rt (.tuple [.str (dF 10),.int f.ln,tw f.t,.ref f.a,bW f.b]),S))).trans rfl;refine bw ((c6 e1).trans (cf ?_));have c:=bo (f:=ab !"if") (δ:=δ) (S:=S) rfl (bo i1 (bo i2 (bo i4 (bo (g:=kS) i5 rfl))));simp only [z9,c,au,QY,RG];rw [QF z5];rfl
end
def Oq:∀ k:Fin 7,strOk (uE k)=true:=by decide +kernel
def rJ {k:Fin 7} {a b:Tr} (h:D6 (.op k a b)):D6 a/\D6 b:=⟨λ x hx=>h x (by rw [sZ];simp [hx]),λ x hx=>h x (by rw [sZ];simp [hx])⟩
def vg:∀ (t:Tr),D6 t->iU (tw t)=true
 | .num v,_=>by simp only [tw,iU,dj,Bool.and_true];decide +kernel
 | .sig k,_=>by simp only [tw,iU,dj,Bool.and_true];exact HJ k
 | .nam x,h=>by
  have:=h x (by simp [tW,Bn,fK]);simp only [tw,iU,dj,Bool.and_true,this];decide +kernel
 | .box t,h=>by
  have:=vg t (λ x hx=>h x (by simpa [tW,fK] using hx));simp only [tw,iU,dj,Bool.and_true,this];decide +kernel
 | .op k t u,h=>by
  have h1:=vg t (rJ h).1;have h2:=vg u (rJ h).2;simp only [tw,iU,dj,Bool.and_true,h1,h2];exact Oq k
def o7:∀ (t:Tr),cU (tw t)<=qe t+1
 | .num v=>by simp [tw,cU,cz,qe]
 | .sig k=>by simp [tw,cU,cz,qe]
 | .nam x=>by simp [tw,cU,cz,qe]
 | .box t=>by have:=o7 t;simp [tw,cU,cz,qe];omega
 | .op k t u=>by have:=o7 t;have:=o7 u;simp [tw,cU,cz,qe];omega
def fQ {f g:W->Option W} (h:∀ d e,f d=some e->g d=some e):∀ (ds es:List W),dQ f ds=some es->dQ g ds=some es
 | [],es,e=>e
 | d::ds,es,e=>by
  obtain ⟨x,e1,e⟩:=oB e
  obtain ⟨xs,e2,rfl⟩:=oM e
  show (g d).bind _=_;rw [h d x e1];show (dQ g ds).map _=_;rw [fQ h ds xs e2];rfl
def i6 {F G:χ} (h:∀ k ds,F k=some ds->G k=some ds):∀ (n m:Nat) (d e:W),n<=m->rW F n d=some e->rW G m d=some e
 | 0,_,_,_,_,e=>by cases e
 | n+1,0,_,_,hm,_=>by omega
 | n+1,m+1,d,e,hm,q=>by
  have ih:=fQ λ d e=>i6 h n m d e (by omega);cases d with
  | ref k=>
   obtain ⟨ds,hF,q⟩:=oB q
   obtain ⟨es,q1,rfl⟩:=oM q
   show (G k).bind _=_;rw [h k ds hF];show (dQ (rW G m) ds).map _=_;rw [ih ds es q1];rfl
  | list ds=>
   obtain ⟨es,q1,rfl⟩:=oM q
   show (dQ (rW G m) ds).map _=_;rw [ih ds es q1];rfl
  | tuple ds=>
   obtain ⟨es,q1,rfl⟩:=oM q
   show (dQ (rW G m) ds).map _=_;rw [ih ds es q1];rfl
  | _=>exact q
mutual
theorem vd (F:χ):∀ (n:Nat) (d:W),iU d=true->cU d<n->rW F n d=some d
 | 0,_,_,h=>absurd h (not_lt_zero _)
 | n+1,.none,_,_=>rfl
 | n+1,.bool _,_,_=>rfl
 | n+1,.int _,_,_=>rfl
 | n+1,.str _,_,_=>rfl
 | n+1,.list ds,h,hd=>by
  show (dQ (rW F n) ds).map _=_;rw [Cm F n ds (by simpa [iU] using h) (by simp only [cU] at hd;omega)];rfl
 | n+1,.tuple ds,h,hd=>by
  show (dQ (rW F n) ds).map _=_;rw [Cm F n ds (by simpa [iU] using h) (by simp only [cU] at hd;omega)];rfl
 | n+1,.ref _,h,_=>by simp [iU] at h
theorem Cm (F:χ):∀ (n:Nat) (ds:List W),dj ds=true->cz ds<n->dQ (rW F n) ds=some ds
 | n,[],_,_=>rfl
 | n,d::ds,h,hd=>by
  simp only [dj,Rb] at h;simp only [cz] at hd;show (rW F n d).bind _=_;rw [vd F n d h.1 (by omega)];show (dQ (rW F n) ds).map _=_;rw [Cm F n ds h.2 (by omega)];rfl
end
def ot {f:W->Option W}:∀ {a b x y:List W},dQ f a=some x->dQ f b=some y->dQ f (a++b)=some (x++y)
 | [],b,x,y,ha,hb=>by cases ha;exact hb
 | d::a,b,x,y,ha,hb=>by
  obtain ⟨u,e1,e⟩:=oB ha
  obtain ⟨us,e2,rfl⟩:=oM e
  show (f d).bind _=_;rw [e1];show (dQ f (a++b)).map _=_;rw [ot e2 hb];rfl
def bh {f:W->Option W} {d x:W} {ds xs:List W} (h1:f d=some x) (h2:dQ f ds=some xs):dQ f (d::ds)=some (x::xs):=by
 show (f d).bind _=_;rw [h1];show (dQ f ds).map _=_;rw [h2];rfl
def mm.snoc {P:π} {n:Nat} {wh:Bool} {k:Int} {h:Hd} {c':Nat} (g:Ab P n wh h c'):∀ (cs:ω) (c:Nat),mm P n wh cs c->mm P n wh (cs++[(k,h)]) (c+c')
 | [],c,q=>by
  cases q;have:=mm.cons (k:=k) g .nil;simpa using this
 | b::cs,c,q=>by
  cases q with
  | cons g1 g2=>
   rw [Nat.add_assoc];exact mm.cons g1 (mm.snoc g cs _ g2)
section
variable {P:π} {o:Int} {body p K0:Nat} {out:ω}
instance vK (fs:List Fr):Bool:=fs.any (·.wh)
instance Iz (P:π) (F:χ) (i:Nat) (wh:Bool) (ws:List W) (cs:ω) (c:Nat):Prop:=dQ (rW F (27-3*i)) ws=some (c7 cs)/\mm P (5-i) wh cs c
def Iz.mono {F G:χ} (h:∀ k ds,F k=some ds->G k=some ds) {i:Nat} {wh:Bool} {ws:List W} {cs:ω} {c:Nat} (l:Iz P F i wh ws cs c):Iz P G i wh ws cs c:=⟨fQ (λ d e=>i6 h _ _ d e (QH _)) _ _ l.1,l.2⟩
instance GP (P:π) (F:χ) (i:Nat) (wh:Bool) (f:Fr) (n:Nat):Prop:=match f.b with
 | none=>n=0
 | some _=>f.wh=false/\∃ wa,F f.a=some wa/\Iz P F i wh wa f.ca n
def GP.mono {F G:χ} (h:∀ k ds,F k=some ds->G k=some ds) {i:Nat} {wh:Bool} {f:Fr} {n:Nat} (l:GP P F i wh f n):GP P G i wh f n:=by
 unfold GP at l ⊢;cases hb:f.b with
 | none=>rw [hb] at l;exact l
 | some b=>rw [hb] at l;obtain ⟨a,wa,e,q⟩:=l;exact ⟨a,wa,h _ _ e,q.mono h⟩
instance LI (P:π) (o:Int) (S:ak) (F:χ) (body:Nat) (out:ω):List Fr->Nat->Nat->Prop
 | [],h,n=>h=body/\∃ ws,S[body]?=some (.lst ws)/\Iz P F 0 false ws out n
 | f::fs,h,n=>∃ n1 n2 n3 ws,h=mf f/\S[f.id]?=some (.lst (oz f))/\ji o f.t 7 30/\S[h]?=some (.lst ws)/\Iz P F (fs.length+1) (vK (f::fs)) ws f.cs n1/\GP P F (fs.length+1) (vK (f::fs)) f n2/\LI P o S F body out fs f.up n3/\n=n1+n2+n3+1
instance nJ (x:Bk):List Fr->List Fr
 | []=>[]
 | f::fs=>{ f with cs:=f.cs++[x] }::fs
instance vv (x:Bk) (out:ω):List Fr->List Bk
 | []=>out++[x]
 | _::_=>out
instance kY:List Fr->List Nat
 | []=>[]
 | f::fs=>f.id::mf f::kY fs
def LI.move {S S':ak} {F G:χ} (hF:∀ k ds,F k=some ds->G k=some ds):∀ (fs:List Fr) (h n:Nat),(∀ k∈body::kY fs,S'[k]?=S[k]?)->LI P o S F body out fs h n->LI P o S' G body out fs h n
 | [],h,n,hs,q=>by
  obtain ⟨e,ws,h1,h2⟩:=q;exact ⟨e,ws,by rw [hs body (by simp)];exact h1,h2.mono hF⟩
 | f::fs,h,n,hs,q=>by
  obtain ⟨n1,n2,n3,ws,e,h1,h2,h3,h4,h5,h6,h7⟩:=q;exact ⟨n1,n2,n3,ws,e,by rw [hs f.id (by simp [kY])];exact h1,h2,by rw [e,hs (mf f) (by simp [kY]),<-e];exact h3,h4.mono hF,h5.mono hF,LI.move hF fs f.up n3 (λ k hk=>hs k (by simp only [kY,QE] at hk ⊢;rcases hk with hk | hk <;> simp [hk])) h6,h7⟩
def LI.here {S:ak} {F:χ}:∀ (fs:List Fr) (h n:Nat),LI P o S F body out fs h n->h∈body::kY fs
 | [],h,n,q=>by simp [q.1]
 | f::fs,h,n,q=>by
  obtain ⟨_,_,_,_,e,_⟩:=q;simp [kY,e]
def LI.app {S:ak} {F:χ}:∀ (fs:List Fr) (h n:Nat),(body::kY fs).Nodup->LI P o S F body out fs h n->∃ ws,S[h]?=some (.lst ws)/\∀ (w:W) (k:Int) (hd:Hd) (c:Nat),rW F (27-3*fs.length) w=some (cD k hd)->Ab P (5-fs.length) (vK fs) hd c->LI P o (S.set h (.lst (ws++[w]))) F body (vv (k,hd) out fs) (nJ (k,hd) fs) h (n+c)
 | [],h,n,_,q=>by
  obtain ⟨e,ws,h1,h2,h3⟩:=q;subst e;exact ⟨ws,h1,λ w k hd c hw hg=>⟨rfl,ws++[w],set_eq' h1,by
   have:=ot h2 (bh (ds:=[]) hw rfl);simpa [c7,f7,vv] using this,mm.snoc hg _ _ h3⟩⟩
 | f::fs,h,n,hn,q=>by
  obtain ⟨n1,n2,n3,ws,e,h1,h2,h3,⟨h4,h4'⟩,h5,h6,h7⟩:=q;subst e;simp only [kY] at hn;have d1:mf f≠f.id:=λ z=>by rw [Rp,Rp] at hn;exact hn.2.1 (by simp [z])
  have d2:∀ k∈body::kY fs,mf f≠k:=λ k hk z=>by
   rw [Rp,Rp,Rp] at hn;rcases QE.mp hk with rfl | hk
   . exact hn.1 (by simp [z])
   . exact hn.2.2.1 (z▸hk)
  refine ⟨ws,h3,λ w k hd c hw hg=>⟨n1+c,n2,n3,ws++[w],rfl,set_ne' h1 d1,h2,set_eq' h3,⟨?_,mm.snoc hg _ _ h4'⟩,h5,LI.move (λ _ _ z=>z) fs f.up n3 (λ k hk=>QW (d2 k hk)) h6,by omega⟩⟩;have:=ot h4 (bh (ds:=[]) hw rfl);simpa [c7,f7] using this
def sP (x:Bk):∀ fs,kY (nJ x fs)=kY fs
 | []=>rfl
 | f::fs=>rfl
def B0 (x:Bk):∀ fs,c8 (nJ x fs)=c8 fs
 | []=>rfl
 | f::fs=>by simp [nJ,c8]
def xF (x:Bk):∀ fs,(nJ x fs).length=fs.length
 | []=>rfl
 | f::fs=>rfl
end
def pG {f:W->Option W}:∀ {ds es:List W},dQ f ds=some es->ds.length=es.length
 | [],es,e=>by cases e;rfl
 | d::ds,es,e=>by
  obtain ⟨x,_,e⟩:=oB e
  obtain ⟨xs,e2,rfl⟩:=oM e
  simp [pG e2]
def Ab.pos {P:π} {n:Nat} {wh:Bool} {h:Hd} {c:Nat} (g:Ab P n wh h c):1<=c:=by cases g <;> omega
def mm.len {P:π} {n:Nat} {wh:Bool}:∀ (cs:ω) (c:Nat),mm P n wh cs c->cs.length<=c
 | [],c,_=>RN _
 | b::cs,c,q=>by
  cases q with
  | cons g1 g2=>
   have:=g1.pos;have:=mm.len cs _ g2;simp only [QY];omega
section
variable {P:π} {o:Int} {body p K0:Nat} {S:ak} {F:χ} {fs:List Fr} {h n:Nat} {out:ω}
def LI.len:∀ (fs:List Fr) (h n:Nat) {ws:List W},LI P o S F body out fs h n->S[h]?=some (.lst ws)->ws.length<=n
 | [],h,n,ws,q,hw=>by
  obtain ⟨e,ws',h1,h2,h3⟩:=q;subst e;rw [h1] at hw;cases hw;have:=pG h2;have:=mm.len _ _ h3;simp [c7] at *;omega
 | f::fs,h,n,ws,q,hw=>by
  obtain ⟨n1,n2,n3,ws',e,h1,h2,h3,⟨h4,h4'⟩,h5,h6,h7⟩:=q;rw [h3] at hw;cases hw;have:=pG h4;have:=mm.len _ _ h4';simp [c7] at *;omega
def LI.frames:∀ (fs:List Fr) (h n:Nat),LI P o S F body out fs h n->∀ f∈fs,S[f.id]?=some (.lst (oz f))
 | [],_,_,_,f,hf=>absurd hf QR
 | f::fs,h,n,q,g,hg=>by
  obtain ⟨_,_,n3,_,_,h1,_,_,_,_,h6,_⟩:=q;rcases QE.mp hg with rfl | hg
  . exact h1
  . exact LI.frames fs f.up n3 h6 g hg
def LI.inS:∀ (fs:List Fr) (h n:Nat),LI P o S F body out fs h n->∀ k∈body::kY fs,∃ ws,S[k]?=some (.lst ws)
 | [],_,_,q,k,hk=>by
  obtain ⟨_,ws,h1,_⟩:=q;simp [kY] at hk;subst hk;exact ⟨ws,h1⟩
 | f::fs,h,n,q,k,hk=>by
  obtain ⟨_,_,n3,ws,e,h1,_,h3,_,_,h6,_⟩:=q;simp only [kY,QE] at hk;rcases hk with hk | hk | hk | hk
  . exact LI.inS fs f.up n3 h6 k (by simp [hk])
  . exact ⟨_,hk▸h1⟩
  . exact ⟨ws,by rw [hk,<-e];exact h3⟩
  . exact LI.inS fs f.up n3 h6 k (by simp [hk])
def MR {p b x y:Nat} {r:List Nat}:(p::b::x::y::r).Nodup↔(¬p=b/\¬p=x/\¬p=y/\p∉r)/\(¬b=x/\¬b=y/\b∉r)/\(¬x=y/\x∉r)/\y∉r/\r.Nodup:=by simp only [Rp,QE,not_or]
def Nf {p b:Nat} {r:List Nat}:(p::b::r).Nodup↔(¬p=b/\p∉r)/\b∉r/\r.Nodup:=by simp only [Rp,QE,not_or]
def m8 {k p b x y:Nat} {r:List Nat}:k∈p::b::x::y::r↔k=p∨k=b∨k=x∨k=y∨k∈r:=by simp only [QE]
def De {k p b:Nat} {r:List Nat}:k∈p::b::r↔k=p∨k=b∨k∈r:=by simp only [QE]
def Qg {k p b x y:Nat} {r:List Nat} (h:k∉p::b::x::y::r):¬k=p/\¬k=b/\¬k=x/\¬k=y/\k∉r:=by simpa only [QE,not_or] using h
def Pz {k p b:Nat} {r:List Nat} (h:k∉p::b::r):¬k=p/\¬k=b/\k∉r:=by simpa only [QE,not_or] using h
structure LV (P:π) (o:Int) (S:ak) (F:χ) (body p K0:Nat) (out:ω) (fs:List Fr) (h n:Nat):Prop where
 li:LI P o S F body out fs h n
 hp:S[p]?=some (.lst (c8 fs))
 nd:(p::body::kY fs).Nodup
 nf:∀ k∈p::body::kY fs,F k=none
 hF:∀ k ds,F k=some ds->S[k]?=some (.lst ds)
 lo:∀ k∈p::body::kY fs,K0<=k
 fl:fs.length<=5
 lf:∀ k ds,F k=some ds->K0<=k
def LV.bnd (v:LV P o S F body p K0 out fs h n):∀ k∈p::body::kY fs,k<S.length:=λ k hk=>by
 rcases QE.mp hk with rfl | hk
 . exact (oG v.hp).1
 . obtain ⟨ws,e⟩:=LI.inS fs h n v.li k hk;exact (oG e).1
def LV.hm (v:LV P o S F body p K0 out fs h n):h∈p::body::kY fs:=QE.mpr (.inr (LI.here fs h n v.li))
def LV.ph (v:LV P o S F body p K0 out fs h n):p≠h:=λ z=>by
 have:=v.nd;rw [Rp] at this;exact this.1 (z▸LI.here fs h n v.li)
def LV.add (v:LV P o S F body p K0 out fs h n):∃ ws,S[h]?=some (.lst ws)/\ws.length<=n/\∀ (w:W) (k:Int) (hd:Hd) (c:Nat),rW F (27-3*fs.length) w=some (cD k hd)->Ab P (5-fs.length) (vK fs) hd c->LV P o (S.set h (.lst (ws++[w]))) F body p K0 (vv (k,hd) out fs) (nJ (k,hd) fs) h (n+c)/\∀ k,k<K0->(S.set h (.lst (ws++[w])))[k]?=S[k]?:=by
 have nd':=v.nd;rw [Rp] at nd';obtain ⟨ws,h1,h2⟩:=LI.app fs h n nd'.2 v.li;refine ⟨ws,h1,LI.len fs h n v.li h1,λ w k hd c hw hg=>⟨⟨h2 w k hd c hw hg,by rw [B0];exact set_ne' v.hp (RM v.ph),by rw [sP];exact v.nd,by rw [sP];exact v.nf,λ k ds hk=>set_ne' (v.hF k ds hk) (λ z=>?_),by rw [sP];exact v.lo,by rw [xF];exact v.fl,v.lf⟩,λ k hk=>QW (λ z=>?_)⟩⟩
 . have:=v.nf h v.hm;rw [z,hk] at this;cases this
 . have:=v.lo h v.hm;omega
def LV.opn (v:LV P o S F body p K0 out fs h n) (hK:K0<=S.length) (h5:fs.length<5) (wh:Bool) (ln:Int) (t:Tr) (ht:ji o t 7 30):LV P o ((S++[Ob.lst []]++[Ob.lst (oz ⟨S.length+1,wh,ln,t,h,S.length,none,[],[]⟩)]:ak).set p (.lst (c8 (⟨S.length+1,wh,ln,t,h,S.length,none,[],[]⟩::fs)))) F body p K0 out (⟨S.length+1,wh,ln,t,h,S.length,none,[],[]⟩::fs) S.length (n+1):=by
 let f:Fr:=⟨S.length+1,wh,ln,t,h,S.length,none,[],[]⟩
 have bd:=v.bnd;have pb:=bd p (De.mpr (.inl rfl));have old:∀ k,k<S.length->k≠p->((S++[Ob.lst []]++[Ob.lst (oz f)]:ak).set p (.lst (c8 (f::fs))))[k]?=S[k]?:=λ k hk hp=>by
  rw [QW (RM hp),QV (by simp;omega),QV hk]
 have g1:((S++[Ob.lst []]++[Ob.lst (oz f)]:ak).set p (.lst (c8 (f::fs))))[S.length+1]?=some (.lst (oz f)):=set_ne' (by have:=bS (S++[Ob.lst []]) (Ob.lst (oz f));simpa using this) (by omega);have g0:((S++[Ob.lst []]++[Ob.lst (oz f)]:ak).set p (.lst (c8 (f::fs))))[S.length]?=some (.lst []):=set_ne' (aY (bS _ _)) (by omega);have pne:∀ k∈body::kY fs,k≠p:=λ k hk z=>by
  have:=v.nd;rw [Rp] at this;exact this.1 (z▸hk)
 refine ⟨⟨0,0,n,[],rfl,g1,ht,g0,⟨rfl,.nil⟩,rfl,LI.move (λ _ _ z=>z) fs h n (λ k hk=>old k (bd k (Rj _ hk)) (pne k hk)) v.li,by omega⟩,set_eq' (aY (aY v.hp)),?_,λ k hk=>?_,λ k ds hk=>?_,λ k hk=>?_,by simp;omega,v.lf⟩
 . have nd:=v.nd;have q1:S.length+1∉p::body::kY fs:=λ z=>absurd (bd _ z) (by omega);have q0:S.length∉p::body::kY fs:=λ z=>absurd (bd _ z) (by omega);have nd:=Nf.mp nd;have q1:=Pz q1;have q0:=Pz q0;exact MR.mpr ⟨⟨nd.1.1,RM q1.1,RM q0.1,nd.1.2⟩,⟨RM q1.2.1,RM q0.2.1,nd.2.1⟩,⟨Nat.succ_ne_self _,q1.2.2⟩,q0.2.2,nd.2.2⟩
 . have ff:∀ m,S.length<=m->F m=none:=λ m hm=>by
    cases hq:F m with
    | none=>rfl
    | some ds=>
     have:=(oG (v.hF m ds hq)).1;omega
   rcases m8.mp hk with hk | hk | hk | hk | hk
   . exact v.nf k (De.mpr (.inl hk))
   . exact v.nf k (De.mpr (.inr (.inl hk)))
   . exact ff k (hk▸Nat.le_succ _)
   . exact ff k (le_of_eq hk.symm)
   . exact v.nf k (De.mpr (.inr (.inr hk)))
 . have hs:=v.hF k ds hk;have kl:=(oG hs).1;rw [old k kl (λ z=>by have:=v.nf p (De.mpr (.inl rfl));rw [z,this] at hk;cases hk)];exact hs
 . rcases m8.mp hk with hk | hk | hk | hk | hk
   . exact v.lo k (De.mpr (.inl hk))
   . exact v.lo k (De.mpr (.inr (.inl hk)))
   . exact hk▸Nat.le_succ_of_le hK
   . exact hk▸hK
   . exact v.lo k (De.mpr (.inr (.inr hk)))
instance nu (F:χ) (a:Nat) (ws:List W):Nat->Option (List W):=λ k=>if k=a then some ws else F k
def wn {a:Nat} {ws:List W} (h:F a=none):∀ k ds,F k=some ds->nu F a ws k=some ds:=λ k ds hk=>by
 unfold nu;rw [QS (λ z=>by rw [z,h] at hk;cases hk)];exact hk
def LV.els {f:Fr} (v:LV P o S F body p K0 out (f::fs) h n) (hK:K0<=S.length) (hb:f.b=none) (hw:f.wh=false):∃ F',LV P o ((S++[Ob.lst []]:ak).set f.id (.lst (oz { f with b:=some S.length,ca:=f.cs,cs:=[] }))) F' body p K0 out ({ f with b:=some S.length,ca:=f.cs,cs:=[] }::fs) S.length n:=by
 obtain ⟨n1,n2,n3,ws,e,h1,h2,h3,h4,h5,h6,h7⟩:=v.li;have bd:=v.bnd;have ca:mf f=f.a:=by simp [mf,hb]
 have hF0:F f.a=none:=v.nf f.a (m8.mpr (.inr (.inr (.inr (.inl ca.symm)))));have le:=wn (ws:=ws) hF0;have fb:=bd f.id (m8.mpr (.inr (.inr (.inl rfl))));have old:∀ k,k<S.length->k≠f.id->((S++[Ob.lst []]:ak).set f.id (.lst (oz { f with b:=some S.length,ca:=f.cs,cs:=[] })))[k]?=S[k]?:=λ k hk hp=>by
  rw [QW (RM hp),QV hk]
 have nd:=v.nd;have q0:S.length∉p::body::kY (f::fs):=λ z=>absurd (bd _ z) (by omega);have nd:=MR.mp nd;have q0:=Qg q0;have n2':n2=0:=by unfold GP at h5;rw [hb] at h5;exact h5
 have g0:((S++[Ob.lst []]:ak).set f.id (.lst (oz { f with b:=some S.length,ca:=f.cs,cs:=[] })))[S.length]?=some (.lst []):=set_ne' (bS _ _) (by omega);refine ⟨nu F f.a ws,⟨0,n1,n3,[],rfl,set_eq' (aY h1),h2,g0,⟨rfl,.nil⟩,⟨hw,ws,by simp [nu],h4.mono le⟩,LI.move le fs f.up n3 (λ k hk=>old k (bd k (by rcases QE.mp hk with hk | hk;exact m8.mpr (.inr (.inl hk));exact m8.mpr (.inr (.inr (.inr (.inr hk)))))) (λ z=>by
  rcases QE.mp hk with hk | hk
  . exact nd.2.1.1 (hk▸z)
  . exact nd.2.2.1.2 (z▸hk))) h6,by omega⟩,?_,?_,λ k hk=>?_,λ k ds hk=>?_,λ k hk=>?_,v.fl,λ k ds hk=>?_⟩
 . rw [old p (bd p (m8.mpr (.inl rfl))) (λ z=>nd.1.2.1 z),v.hp];simp [c8]
 . exact MR.mpr ⟨⟨nd.1.1,nd.1.2.1,RM q0.1,nd.1.2.2.2⟩,⟨nd.2.1.1,RM q0.2.1,nd.2.1.2.2⟩,⟨RM q0.2.2.1,nd.2.2.1.2⟩,q0.2.2.2.2,nd.2.2.2.2⟩
 . have ne:k≠f.a:=λ z=>by
    rw [<-ca] at z;have cu:mf f<S.length:=bd (mf f) (m8.mpr (.inr (.inr (.inr (.inl rfl)))));rcases m8.mp hk with hk | hk | hk | hk | hk
    . exact nd.1.2.2.1 (by rw [<-hk,z])
    . exact nd.2.1.2.1 (by rw [<-hk,z])
    . exact nd.2.2.1.1 (by rw [<-hk,z])
    . have hk:k=S.length:=hk;omega
    . exact nd.2.2.2.1 (z▸hk)
   unfold nu;rw [QS ne];rcases m8.mp hk with hk | hk | hk | hk | hk
   . exact v.nf k (m8.mpr (.inl hk))
   . exact v.nf k (m8.mpr (.inr (.inl hk)))
   . exact v.nf k (m8.mpr (.inr (.inr (.inl hk))))
   . have hk:k=S.length:=hk;cases hq:F k with
     | none=>rfl
     | some ds=>
      have:=(oG (v.hF k ds hq)).1;omega
   . exact v.nf k (m8.mpr (.inr (.inr (.inr (.inr hk)))))
 . unfold nu at hk;split at hk
   . rename_i z;cases hk;rw [z,old f.a (by rw [<-ca];exact bd _ (m8.mpr (.inr (.inr (.inr (.inl rfl)))))) (λ z=>nd.2.2.1.1 (by rw [ca,z])),<-ca,<-e];exact h3
   . have hs:=v.hF k ds hk;rw [old k (oG hs).1 (λ z=>by have:=v.nf f.id (m8.mpr (.inr (.inr (.inl rfl))));rw [z,this] at hk;cases hk)];exact hs
 . rcases m8.mp hk with hk | hk | hk | hk | hk
   . exact v.lo k (m8.mpr (.inl hk))
   . exact v.lo k (m8.mpr (.inr (.inl hk)))
   . exact v.lo k (m8.mpr (.inr (.inr (.inl hk))))
   . exact hk▸hK
   . exact v.lo k (m8.mpr (.inr (.inr (.inr (.inr hk)))))
 . unfold nu at hk;split at hk
   . rename_i z;rw [z,<-ca];exact v.lo _ (m8.mpr (.inr (.inr (.inr (.inl rfl)))))
   . exact v.lf k ds hk
end
instance Mz (f:Fr):W:=if f.wh=true then .tuple [.str (dF 11),.int f.ln,tw f.t,.ref f.a] else .tuple [.str (dF 10),.int f.ln,tw f.t,.ref f.a,bW f.b]
section
variable {P:π} {o:Int} {body p K0:Nat} {S:ak} {F:χ} {fs:List Fr} {h n:Nat} {out:ω}
def p8 {G:χ} {a m:Nat} {ws es:List W} (h1:G a=some ws) (h2:dQ (rW G m) ws=some es):rW G (m+1) (.ref a)=some (.list es):=by
 show (G a).bind _=_;rw [h1];show (dQ (rW G m) ws).map _=_;rw [h2];rfl
def rO {G:χ} {m:Nat} {ws es:List W} (h2:dQ (rW G m) ws=some es):rW G (m+1) (.tuple ws)=some (.tuple es):=by
 show (dQ (rW G m) ws).map _=_;rw [h2];rfl
instance yS (f:Fr):Hd:=if f.wh=true then .whl f.t [.list (c7 f.cs)] else match f.b with
 | none=>.ifs f.t [.list (c7 f.cs),.none]
 | some _=>.ifs f.t [.list (c7 f.ca),.list (c7 f.cs)]
def LV.fin (hP:∀ wh t bs,ji o t 7 30->P wh (.whl t bs)/\P wh (.ifs t bs)) {f:Fr} (v:LV P o S F body p K0 out (f::fs) h n):∃ F' n3 c,LV P o (S.set p (.lst (c8 fs))) F' body p K0 out fs f.up n3/\rW F' (27-3*fs.length) (Mz f)=some (cD f.ln (yS f))/\Ab P (5-fs.length) (vK fs) (yS f) c/\n=n3+c/\S[f.id]?=some (.lst (oz f))/\ji o f.t 7 30:=by
 obtain ⟨n1,n2,n3,ws,e,h1,h2,h3,h4,h5,h6,h7⟩:=v.li;have bd:=v.bnd;have fl:=v.fl;simp only [QY] at fl;have hF0:F (mf f)=none:=v.nf (mf f) (m8.mpr (.inr (.inr (.inr (.inl rfl)))));have le:=wn (ws:=ws) hF0;have nd:=MR.mp v.nd;have nv:LV P o (S.set p (.lst (c8 fs))) (nu F (mf f) ws) body p K0 out fs f.up n3:=by
  refine ⟨LI.move le fs f.up n3 (λ k hk=>QW (λ z=>?_)) h6,set_eq' v.hp,?_,λ k hk=>?_,λ k ds hk=>?_,λ k hk=>v.lo k ?_,by omega,λ k ds hk=>?_⟩
  . rcases QE.mp hk with hk | hk
    . exact nd.1.1 (z.trans hk)
    . exact nd.1.2.2.2 (z▸hk)
  . exact Nf.mpr ⟨⟨nd.1.1,nd.1.2.2.2⟩,nd.2.1.2.2,nd.2.2.2.2⟩
  . have hk:=De.mp hk;have ne:k≠mf f:=λ z=>by
     rcases hk with hk | hk | hk
     . exact nd.1.2.2.1 (by rw [<-hk,z])
     . exact nd.2.1.2.1 (by rw [<-hk,z])
     . exact nd.2.2.2.1 (z▸hk)
    unfold nu;rw [QS ne];exact v.nf k (m8.mpr (hk.imp id (.imp id λ z=>.inr (.inr z))))
  . unfold nu at hk;split at hk
    . rename_i z;cases hk;rw [z];exact set_ne' (by rw [<-e];exact h3) (λ q=>nd.1.2.2.1 q)
    . exact set_ne' (v.hF k ds hk) (λ q=>by have:=v.nf p (m8.mpr (.inl rfl));rw [q,hk] at this;cases this)
  . exact m8.mpr ((De.mp hk).imp id (.imp id λ z=>.inr (.inr z)))
  . unfold nu at hk;split at hk
    . rename_i z;rw [z];exact v.lo _ (m8.mpr (.inr (.inr (.inr (.inl rfl)))))
    . exact v.lf k ds hk
 have g:=h2.1;have tok:=vg f.t g.2.2;have tdp:=o7 f.t;have tdd:cU (tw f.t)<=8:=by have:=g.1;omega
 have e1:27-3*fs.length=24-3*fs.length+1+1+1:=by omega
 have e2:27-3*(fs.length+1)=24-3*fs.length:=by omega
 have e3:5-fs.length=5-(fs.length+1)+1:=by omega
 have tr:rW (nu F (mf f) ws) (24-3*fs.length+1+1) (tw f.t)=some (tw f.t):=vd _ _ _ tok (by omega);have cw:nu F (mf f) ws (mf f)=some ws:=by simp [nu]
 obtain ⟨q1,q2⟩:=h4;rw [e2] at q1;have q1':dQ (rW (nu F (mf f) ws) (24-3*fs.length+1)) ws=some (c7 f.cs):=fQ (λ d e=>i6 le _ _ d e (by omega)) _ _ q1;have lit:∀ d:W,(∀ k,d≠.ref k)->iU d=true->cU d=0->rW (nu F (mf f) ws) (24-3*fs.length+1+1) d=some d:=λ d _ hd hz=>vd _ _ _ hd (by omega);rw [e1,e3];cases hb:f.b with
 | none=>
  have ca:mf f=f.a:=by simp [mf,hb]
  have n0:n2=0:=by unfold GP at h5;rw [hb] at h5;exact h5
  have ra:=p8 (G:=nu F (mf f) ws) (a:=f.a) (by rw [<-ca];exact cw) q1';cases hw:f.wh with
  | true=>
   have ch:yS f=.whl f.t [.list (c7 f.cs)]:=QF hw;rw [ch];refine ⟨nu F (mf f) ws,n3,n1+1,nv,?_,.whl (hP _ _ _ h2).1 ?_,by omega,h1,h2⟩
   . unfold Mz;rw [QF hw];exact rO (bh (d:=.str (dF 11)) rfl (bh (d:=.int f.ln) rfl (bh tr (bh (ds:=[]) ra rfl))))
   . have:vK (f::fs)=true:=by simp [vK,hw]
     rw [this] at q2;exact q2
  | false=>
   have ch:yS f=.ifs f.t [.list (c7 f.cs),.none]:=by unfold yS;rw [hw,QS (by simp),hb]
   rw [ch];refine ⟨nu F (mf f) ws,n3,n1+1,nv,?_,.if1 (hP _ _ _ h2).2 ?_,by omega,h1,h2⟩
   . unfold Mz;rw [hw,QS (by simp),hb];exact rO (bh (d:=.str (dF 10)) rfl (bh (d:=.int f.ln) rfl (bh tr (bh ra (bh (d:=.none) (ds:=[]) rfl rfl)))))
   . have:vK (f::fs)=vK fs:=by simp [vK,hw]
     rw [this] at q2;exact q2
 | some b=>
  have cb:mf f=b:=by simp [mf,hb]
  obtain ⟨hw,wa,ha,u1,u2⟩:f.wh=false/\∃ wa,F f.a=some wa/\Iz P F (fs.length+1) (vK (f::fs)) wa f.ca n2:=by unfold GP at h5;rw [hb] at h5;exact h5
  rw [e2] at u1;have u1':dQ (rW (nu F (mf f) ws) (24-3*fs.length+1)) wa=some (c7 f.ca):=fQ (λ d e=>i6 le _ _ d e (by omega)) _ _ u1;have ra:=p8 (G:=nu F (mf f) ws) (a:=f.a) (le _ _ ha) u1';have rb:=p8 (G:=nu F (mf f) ws) (a:=b) (by rw [<-cb];exact cw) q1';have:vK (f::fs)=vK fs:=by simp [vK,hw]
  rw [this] at q2 u2;have ch:yS f=.ifs f.t [.list (c7 f.ca),.list (c7 f.cs)]:=by unfold yS;rw [hw,QS (by simp),hb]
  rw [ch];refine ⟨nu F (mf f) ws,n3,n2+n1+1,nv,?_,.if2 (hP _ _ _ h2).2 u2 q2,by omega,h1,h2⟩;unfold Mz;rw [hw,QS (by simp),hb];exact rO (bh (d:=.str (dF 10)) rfl (bh (d:=.int f.ln) rfl (bh tr (bh ra (bh (d:=bW (some b)) (ds:=[]) rb rfl)))))
end
def Of:∀ i:Fin 12,strOk (dF i)=true:=by decide +kernel
def nc {o:Int} {t:Tr} {d c:Nat} (h:ji o t d c):iU (tw t)=true/\cU (tw t)<=d+1:=⟨vg t h.1.2.2,Rh (o7 t) (by have:=h.1.1;omega)⟩
def L1 {o:Int} {FN WD:Ω} (hF:∀ f∈FN,strOk f=true) (hW:∀ f∈WD,strOk f=true) (k:Int) {h:Hd} (hb:jF h=some []) (hp:PP o FN WD true h):iU (cD k h)=true/\cU (cD k h)<=10:=by
 have q:=Of (aA h);have r:dj (rs h)=true/\cz (rs h)<=9:=by
  cases h with
  | set x t=>obtain ⟨a,b⟩:=nc hp.2;have:=hp.1;simp [rs,dj,iU,cz,cU,a,this];omega
  | put a b=>obtain ⟨a1,b1⟩:=nc hp.1;obtain ⟨a2,b2⟩:=nc hp.2;simp [rs,dj,cz,a1,a2];omega
  | tell t=>obtain ⟨a,b⟩:=nc hp;simp [rs,dj,cz,a];omega
  | ret t=>obtain ⟨a,b⟩:=nc hp;simp [rs,dj,cz,a];omega
  | join x j t=>obtain ⟨a,b⟩:=nc hp.2.2;have:=hp.1;have:=hW j hp.2.1;simp [rs,dj,iU,cz,cU, *];omega
  | call x f ts=>
   have a:dj (ts.map tw)=true:=gR λ d hd=>by obtain ⟨t,h1,rfl⟩:=Q7.mp hd;exact (nc (hp.2.2.2 t h1)).1
   have b:cz (ts.map tw)<=8:=j1 λ d hd=>by obtain ⟨t,h1,rfl⟩:=Q7.mp hd;exact (nc (hp.2.2.2 t h1)).2
   have:=hp.1;have:=hF f hp.2.1;simp [rs,dj,iU,cz,cU, *] <;> omega
  | ifs t l=>exact absurd hb (uy t l).1
  | whl t l=>exact absurd hb (uy t l).2
  | _=>exact ⟨rfl,RN _⟩
 refine ⟨by simp [cD,iU,dj,q,r.1],?_⟩;have:=r.2;simp [cD,cU,cz];omega
instance vI (ops:W) (line:Int) (main:Bool) (body h p:Nat) (s6 s7:Sl):DS:=[.val ops,.val (.int line),.val (.bool main),.val (.ref body),.val (.ref h),.val (.ref p),s6,s7]
def Hs (a:W) (l:Int) (r:List W) (h:r.length<=100):bB (.tuple [a,.int l]) (.tuple r)=some (.tuple (a::.int l::r)):=QF ⟨by simp,sz _ (by simp;omega)⟩
def F7 {fo fi fv:ζ} {δ:DS} {S S1:ak} {l:Nat} {es:List W} {d:W} {k:Nat} (h1:fv δ S=some (.ok d,S1)) (h2:fo δ S1=some (.ok (.ref l),S1)) (h3:fi δ S1=some (.ok (.int (k:Int)),S1)) (h4:S1[l]?=some (.lst es)) (h5:k<es.length):rA fo fi fv δ S=some (.nx δ,S1.set l (.lst (es.set k d))):=by
 have i:vL es.length (k:Int)=some k:=by
  unfold vL;rw [QF (by omega),QF (by omega)];simp
 simp only [rA,h1,ke,h2,h3,fH h4,QC,C9,i,QI]
section
variable {o:Int} {FN WD:Ω} {body p K0:Nat} {S:ak} {F:χ} {fs:List Fr} {h n:Nat} {ops:W} {main:Bool} {out:ω}
def IZ:∀ (wh:Bool) (t:Tr) (bs:List W),ji o t 7 30->PP o FN WD wh (.whl t bs)/\PP o FN WD wh (.ifs t bs):=λ _ _ _ g=>⟨g,g⟩
def LW {h:Hd} {wh:Bool} (hp:PP o FN WD true h) (hb:aA h=4∨aA h=5->wh=true):PP o FN WD wh h:=by
 cases h with
 | brk=>exact hb (.inl rfl)
 | agn=>exact hb (.inr rfl)
 | _=>exact hp
def xR {h:Hd} (hb:jF h=some []):aA h≠10/\aA h≠11:=by
 cases h with
 | ifs t l=>exact absurd hb (uy t l).1
 | whl t l=>exact absurd hb (uy t l).2
 | _=>exact ⟨λ z=>Bool.noConfusion (show false=true from QL z),λ z=>Bool.noConfusion (show false=true from QL z)⟩
def HB {h:Hd} (hb:jF h=some []):(rs h).length<=100:=by
 cases h with
 | ifs t l=>exact absurd hb (uy t l).1
 | whl t l=>exact absurd hb (uy t l).2
 | _=>exact Rn rfl
instance Qq (P:π) (o line:Int) (fs:List Fr) (out:ω) (fs':List Fr) (out':ω):Op->Prop
 | .st h=>P (vK fs) h/\jF h=some []/\fs'=nJ (line+1,h) fs/\out'=vv (line+1,h) out fs
 | .opn wh t=>∃ f:Fr,f.wh=wh/\f.ln=line+1/\f.t=t/\f.b=none/\f.cs=[]/\fs'=f::fs/\out'=out
 | .fin=>∃ f fs1,fs=f::fs1/\ji o f.t 7 30/\fs'=nJ (f.ln,yS f) fs1/\out'=vv (f.ln,yS f) out fs1
 | .els=>∃ f fs1 b,fs=f::fs1/\f.wh=false/\f.b=none/\fs'={ f with b:=some b,ca:=f.cs,cs:=[] }::fs1/\out'=out
instance Ld (P:π) (o:Int) (main:Bool) (op:Op) (line:Int) (fs:List Fr) (out:ω) (fs':List Fr) (out':ω) (line':Int):Prop:=(tV main fs op=false/\fs'=fs/\out'=out/\line'=line)∨(tV main fs op=true/\line'=line+1/\Qq P o line fs out fs' out' op)
noncomputable abbrev Ql (o:Int) (FN WD:Ω) (body p K0:Nat) (S:ak) (fs:List Fr) (h n:Nat) (ops:W) (main:Bool) (out:ω) (line:Int) (op:Op) (s7:Sl) (S':ak) (F':χ) (out':ω) (fs':List Fr) (h':Nat) (line':Int) (s7':Sl) (n':Nat):Prop:=(dz (vI ops line main body h p (.val (dP op)) s7) S=some (.nx (vI ops line' main body h' p (.val (dP op)) s7'),S')∨dz (vI ops line main body h p (.val (dP op)) s7) S=some (.ct (vI ops line' main body h' p (.val (dP op)) s7'),S'))/\LV (PP o FN WD) o S' F' body p K0 out' fs' h' n'/\Ld (PP o FN WD) o main op line fs out fs' out' line'/\n'<=n+1/\K0<=S'.length/\(∀ k,k<K0->S'[k]?=S[k]?)/\(op=.fin->fs'.length=fs.tail.length/\n'=n)
def AT (hFN:∀ f∈FN,strOk f=true) (hWD:∀ f∈WD,strOk f=true) (v:LV (PP o FN WD) o S F body p K0 out fs h n) (hK:K0<=S.length) (hn:n<800) (line:Int) (op:Op) (ho:Dg o FN WD op) (s7:Sl):
 ∃ S' F' out' fs' h' line' s7' n',Ql o FN WD body p K0 S fs h n ops main out line op s7 S' F' out' fs' h' line' s7' n':=by
 have z6:=sz 6 (by decide);have fl:=v.fl;have ho':∀ h,op=.st h->aA h≠10/\aA h≠11:=λ h e=>by subst e;exact xR ho.1
 have mr:=Dy v.hp (LI.frames fs h n v.li) (by omega) main op ho';let δ (ln:Int) (h:Nat) (s7:Sl):DS:=vI ops ln main body h p (.val (dP op)) s7;have c0:jJ (jM (bD bH (ab #[ae 6,ae 5,ae 2]))) (δ line h s7) S=some (.ok (!tV main fs op),S):=by
  have c:bD bH (ab #[ae 6,ae 5,ae 2]) (δ line h s7) S=some (.ok (.bool (tV main fs op)),S):=bE (S1:=S) (ds:=[dP op,.ref p,.bool main]) rfl mr;simp only [jJ,jM,c,au,fN,jb,QI]
 by_cases hm:tV main fs op=true
 case neg=>
  have hm:tV main fs op=false:=by simpa using hm
  rw [hm] at c0;refine ⟨S,F,out,fs,h,line,s7,n,.inr ?_,v,.inl ⟨hm,rfl,rfl,rfl⟩,by omega,hK,λ _ _=>rfl,λ e=>?_⟩
  . have:bR (jJ (jM (bD bH (ab #[ae 6,ae 5,ae 2])))) (aw kM) (aw az) (δ line h s7) S=some (.ct (δ line h s7),S):=(c6 c0).trans rfl;show aC _ _ _ _=_;unfold aC;rw [this]
  . subst e;cases fs with
    | nil=>exact ⟨rfl,rfl⟩
    | cons f fs=>simp [tV] at hm
 rw [hm] at c0;have pre:∀ {g:τ} {r:SO},g (δ (line+1) h s7) S=r->aC (bR (jJ (jM (bD bH (ab #[ae 6,ae 5,ae 2])))) (aw kM) (aw az)) (aC (aw (aG (av bB (aq 1) !1) (af 1))) g) (δ line h s7) S=r:=λ {g r} e=>
  (ah (δ':=δ line h s7) (S':=S) ((bi c0).trans rfl)).trans ((ah (δ':=δ (line+1) h s7) (S':=S) (aH rfl)).trans e)
 cases op with
 | st hd=>
  obtain ⟨hb,hp⟩:=ho;have a0:6[0]! (δ (line+1) h s7)=some (.str (dF (aA hd))):=x0 rfl;have q:=k2 (aA hd);have q':=kq (aA hd);have cl:=xR hb;obtain ⟨ok1,ok2⟩:=L1 hFN hWD (line+1) hb hp;obtain ⟨ws,w1,w2,w3⟩:=v.add;have hp':PP o FN WD (vK fs) hd:=LW hp λ z=>by
   have:=hm;simp only [tV,QF z] at this;exact this
  obtain ⟨v',k'⟩:=w3 (cD (line+1) hd) (line+1) hd 1 (vd _ _ _ ok1 (by omega)) (.lf hp' hb);refine ⟨_,F,_,_,h,line+1,s7,n+1,.inl (pre ?_),v',.inr ⟨hm,rfl,hp',hb,rfl,rfl⟩,QH _,by simpa using hK,k',λ e=>by cases e⟩;refine (bi (S1:=S) (ai (by rw [tD a0,q.2.2.2]))).trans ?_;refine (bi (S1:=S) (ai (by rw [tD a0,q.2.2.1]))).trans ?_;refine (bi (S1:=S) (ai (wv (by rw [tD a0,q'.2.1,QJ cl.1]) (by rw [tD a0,q'.1,QJ cl.2])))).trans ?_;refine eE rfl w1 (ai ?_) (by omega);have t1:aK #[6[0]!,ae 1] (δ (line+1) h s7)=some (.tuple [.str (dF (aA hd)),.int (line+1)]):=j4 a0 rfl;have t2:nQ (ae 6) (eW !1) dD (δ (line+1) h s7)=some (.tuple (rs hd)):=by
   first | rfl | simp! [δ,vI,dP,nQ,uD,y0]
  exact dO t1 t2 (Hs _ _ _ (HB hb))
 | opn wh t=>
  have a0:6[0]! (δ (line+1) h s7)=some (.str (dF (nP wh))):=x0 rfl;have a1:6[1]! (δ (line+1) h s7)=some (tw t):=x1 rfl;have q:=k2 (nP wh);have h5:fs.length<5:=Rn hm;have v':=v.opn hK h5 wh (line+1) t ho;let f:Fr:=⟨S.length+1,wh,line+1,t,h,S.length,none,[],[]⟩
  let S1:ak:=S++[Ob.lst []];let S2:ak:=S1++[Ob.lst (oz f)];refine ⟨S2.set p (.lst (c8 (f::fs))),F,out,f::fs,S.length,line+1,.val (.ref (S.length+1)),n+1,.inl (pre ?_),v',.inr ⟨hm,rfl,f,rfl,rfl,rfl,rfl,rfl,rfl,rfl⟩,QH _,by simp [S2,S1];omega,λ k hk=>?_,λ e=>by cases e⟩
  . refine (bi (S1:=S) (ai (by rw [tD a0,q.2.2.2]))).trans ?_;refine (bi (S1:=S) (ai (by rw [tD a0,q.2.2.1]))).trans ?_;have tt:kj (ay bp 6[0]! !"if") (ay bp 6[0]! !"while") (δ (line+1) h s7)=some true:=by
     have i1:=tD (b:=Str.ofString "if") a0;have i2:=tD (b:=Str.ofString "while") a0;rw [(kO wh).2] at i1;rw [(kO wh).1] at i2;cases wh with
     | true=>exact wQ i1 i2
     | false=>exact zy i1
    refine (c6 (S1:=S) (ai tt)).trans ?_;have le:eJ (ab ag) (δ (line+1) h s7) S=some (.ok (.ref S.length),S1):=rfl;have ar:=bo (S:=S) (ai a0) (bo (f:=ab (ae 1)) (δ:=δ (line+1) h s7) (d:=.int (line+1)) rfl (bo (S:=S) (ai a1) (bo (f:=ab (ae 4)) (d:=.ref h) rfl (bo le (bo (f:=ab (dC .none)) (g:=kS) (d:=.none) rfl rfl)))));refine (ah (δ':=δ (line+1) h (.val (.ref (S.length+1)))) (S':=S2) (be (d:=.ref (S.length+1)) ?_ rfl)).trans ?_
    . simp only [eJ] at ar ⊢;rw [ar];simp only [au,QY,RG,QF z6];simp [S1,S2,oz,f,bW]
    have hp2:S2[p]?=some (.lst (c8 fs)):=aY (aY v.hp);have g1:S2[S.length+1]?=some (.lst (oz f)):=by have:=bS S1 (Ob.lst (oz f));simpa [S1,S2] using this
    have pb:=v.bnd p (by simp);refine (ah (eE rfl hp2 rfl (by simp [c8];omega))).trans ?_;have pe:c8 fs++[.ref (S.length+1)]=c8 (f::fs):=by simp [c8,f]
    rw [pe];exact be (BI (i:=4) (fo:=ab (ae 7)) rfl (set_ne' g1 (by omega)) (Ou _ _ _ _ _ _)) rfl
  . have pb:=v.lo p (by simp);rw [QW (by omega),QV (by simp [S1];omega),QV (by omega)]
 | fin=>
  have a0:6[0]! (δ (line+1) h s7)=some (.str "end"):=x0 rfl;cases fs with
  | nil=>simp [tV] at hm
  | cons f fs=>
   obtain ⟨F',n3,c,v1,r1,g1,e1,hf,gt⟩:=v.fin IZ;let S1:ak:=S.set p (.lst (c8 fs));obtain ⟨ws,w1,w2,w3⟩:=v1.add;obtain ⟨v2,k2'⟩:=w3 (Mz f) f.ln (yS f) c r1 g1;have pf:p≠f.id:=λ z=>by have:=v.nd;simp only [kY,Rp,QE,not_or] at this;exact this.1.2.1 z
   have hf1:S1[f.id]?=some (.lst (oz f)):=set_ne' hf pf;have pl:=v.lo p (by simp);refine ⟨_,F',_,_,f.up,line+1,.val (.ref f.id),n3+c,.inl (pre ?_),v2,.inr ⟨rfl,rfl,f,fs,rfl,gt,rfl,rfl⟩,by omega,by simpa using hK,λ k hk=>(k2' k hk).trans (QW (by omega)),λ _=>⟨xF _ _,e1.symm⟩⟩;refine (c6 (S1:=S) (ai (by rw [tD a0];simp))).trans ?_;have hp':S[p]?=some (.lst (c8 fs++[.ref f.id])):=by rw [v.hp];simp [c8]
   refine (ah (δ':=δ (line+1) h (.val (.ref f.id))) (S':=S1) (be (yl rfl hp') rfl)).trans ?_;refine (ah (δ':=δ (line+1) f.up (.val (.ref f.id))) (S':=S1) (be (BI (i:=3) (fo:=ab (ae 7)) rfl hf1 (P4 _ _ _ _ _)) rfl)).trans ?_;exact eE rfl w1 (bE (S1:=S1) (ds:=[.ref f.id]) rfl (F8 hf1)) (by omega)
 | els=>
  have a0:6[0]! (δ (line+1) h s7)=some (.str "else"):=x0 rfl;cases fs with
  | nil=>simp [tV] at hm
  | cons f fs=>
   have hm':f.wh=false/\f.b=none:=by simpa [tV] using hm
   obtain ⟨F',v'⟩:=v.els hK hm'.2 hm'.1;have hf:=LI.frames _ h n v.li f (by simp);let S1:ak:=S++[Ob.lst []];have fb:=v.bnd f.id (by simp [kY]);have fo:=v.lo f.id (by simp [kY]);refine ⟨_,F',out,{ f with b:=some S.length,ca:=f.cs,cs:=[] }::fs,S.length,line+1,.val (.ref f.id),n,.inl (pre ?_),v',.inr ⟨hm,rfl,f,fs,_,rfl,hm'.1,hm'.2,rfl,rfl⟩,by omega,by simp;omega,λ k hk=>?_,λ e=>by cases e⟩
   . refine (bi (S1:=S) (ai (by rw [tD a0,kE.2.2.2.2.2]))).trans ?_;refine (c6 (S1:=S) (ai (by rw [tD a0];simp))).trans ?_;have hp':S[p]?=some (.lst (c8 fs++[.ref f.id])):=by rw [v.hp];simp [c8]
     refine (ah (δ':=δ (line+1) h (.val (.ref f.id))) (S':=S) (be (O8 (fo:=ab (ae 5)) rfl hp') rfl)).trans ?_;have le:eJ (ab ag) (δ (line+1) h (.val (.ref f.id))) S=some (.ok (.ref S.length),S1):=rfl;have st:=F7 (fo:=ab (ae 7)) (fi:=ab !5) (k:=5) le rfl rfl (aY hf) (by simp [oz]);have fe:(oz f).set 5 (.ref S.length)=oz { f with b:=some S.length,ca:=f.cs,cs:=[] }:=by simp [oz,bW]
     rw [fe] at st;refine (ah st).trans ?_;exact be (BI (i:=5) (fo:=ab (ae 7)) rfl (set_eq' (aY hf)) (OY _ _ _ _ _ _ _)) rfl
   . rw [QW (by omega),QV (by omega)]
end
def wD {h:η} {fb:τ} {d:W} {ds:List W} {δ δ2 δ':DS} {S S':ak} (h1:h d δ=some δ2) (h2:fb δ2 S=some (.ct δ',S')):bv h fb (d::ds) δ S=bv h fb ds δ' S':=by
 show (h d δ).bind _=_;rw [h1];show (match fb δ2 S with | some (.nx δ',S')=>_ | some (.ct δ',S')=>_ | some (.bk δ',S')=>_ | some (.rt d,S')=>_ | some (.xc c,S')=>_ | none=>_)=_;rw [h2]
section
variable {o:Int} {FN WD:Ω} {body p K0:Nat} {ops:W} {main:Bool}
instance mD (P:π) (o:Int) (main:Bool):List Op->Int->List Fr->List Bk->List Fr->List Bk->Int->Prop
 | [],line,fs,out,fs',out',line'=>fs'=fs/\out'=out/\line'=line
 | op::l,line,fs,out,fs',out',line'=>∃ line1 fs1 out1,Ld P o main op line fs out fs1 out1 line1/\mD P o main l line1 fs1 out1 fs' out' line'
def mD.app {P:π} {o:Int} {main:Bool} {m:List Op} {line1 line2:Int} {fs1 fs2:List Fr} {out1 out2:ω} (h':mD P o main m line1 fs1 out1 fs2 out2 line2):∀ (l:List Op) {line:Int} {fs:List Fr} {out:ω},mD P o main l line fs out fs1 out1 line1->mD P o main (l++m) line fs out fs2 out2 line2:=λ l=>by
 induction l with
 | nil=>
  intro line fs out h;obtain ⟨rfl,rfl,rfl⟩:=h;exact h'
 | cons op l ih=>
  intro line fs out h;obtain ⟨a,b,c,d,h⟩:=h;exact ⟨a,b,c,d,ih h⟩
noncomputable abbrev Qt (o:Int) (FN WD:Ω) (body p K0:Nat) (ops:W) (main:Bool) (l:List Op) (S:ak) (out:ω) (fs:List Fr) (h n:Nat) (line:Int) (s6 s7:Sl) (S':ak) (F':χ) (out':ω) (fs':List Fr) (h':Nat) (line':Int) (s6' s7':Sl) (n':Nat):Prop:=(∀ aM,bv (af 6) dz (l.map dP++aM) (vI ops line main body h p s6 s7) S=bv (af 6) dz aM (vI ops line' main body h' p s6' s7') S')/\LV (PP o FN WD) o S' F' body p K0 out' fs' h' n'/\mD (PP o FN WD) o main l line fs out fs' out' line'/\n'<=n+l.length/\K0<=S'.length/\(∀ k,k<K0->S'[k]?=S[k]?)/\((∀ op∈l,op=.fin)->fs'.length=fs.length-l.length/\n'=n)
def oX (hFN:∀ f∈FN,strOk f=true) (hWD:∀ f∈WD,strOk f=true):∀ (l:List Op) (S:ak) (F:χ) (out:ω) (fs:List Fr) (h n:Nat) (line:Int) (s6 s7:Sl),LV (PP o FN WD) o S F body p K0 out fs h n->K0<=S.length->(∀ op∈l,Dg o FN WD op)->n+l.length<800->
 ∃ S' F' out' fs' h' line' s6' s7' n',Qt o FN WD body p K0 ops main l S out fs h n line s6 s7 S' F' out' fs' h' line' s6' s7' n'
 | [],S,F,out,fs,h,n,line,s6,s7,v,hK,_,_=>⟨S,F,out,fs,h,line,s6,s7,n,λ _=>rfl,v,⟨rfl,rfl,rfl⟩,QH _,hK,λ _ _=>rfl,λ _=>⟨rfl,rfl⟩⟩
 | op::l,S,F,out,fs,h,n,line,s6,s7,v,hK,ho,hl=>by
  simp only [QY] at hl;obtain ⟨S1,F1,out1,fs1,h1,line1,t7,n1,e1,v1,g1,b1,k1,f1,q1⟩:=AT (ops:=ops) (main:=main) hFN hWD v hK (by omega) line op (ho op (by simp)) s7;obtain ⟨S',F',out',fs',h',line',u6,u7,n',e2,v2,g2,b2,k2,f2,q2⟩:=oX hFN hWD l S1 F1 out1 fs1 h1 n1 line1 (.val (dP op)) t7 v1 k1 (λ o ho'=>ho o (by simp [ho'])) (by omega);refine ⟨S',F',out',fs',h',line',u6,u7,n',?_,v2,⟨_,_,_,g1,g2⟩,by simp only [QY];omega,k2,λ k hk=>(f2 k hk).trans (f1 k hk),λ hf=>?_⟩
  . intro aM;rw [QT,List.cons_append];rcases e1 with e1 | e1
    . exact (bm (δ2:=vI ops line main body h p (.val (dP op)) s7) rfl e1).trans (e2 aM)
    . exact (wD (δ2:=vI ops line main body h p (.val (dP op)) s7) rfl e1).trans (e2 aM)
  . obtain ⟨a,b⟩:=q2 λ o ho'=>hf o (by simp [ho']);obtain ⟨c,d⟩:=q1 (hf op (by simp));rw [a,c,List.length_tail,QY];omega
end
def FL {S:ak} {k:Nat} {ds:List W} (h:S[k]?=some (.lst ds)):JY S k=some ds:=by unfold JY;rw [h]
def AO {o:Int} {FN WD:Ω} (hFN:∀ f∈FN,strOk f=true) (hWD:∀ f∈WD,strOk f=true) (S:ak) (lo:Nat) (l:List Op) (hlo:S[lo]?=some (.lst (l.map dP))) (ho:∀ op∈l,Dg o FN WD op) (hl:l.length<=70) (line:Int) (main:Bool):∃ S' b cs c la fr,jt [.ref lo,.int line,.bool main] S=some (.ok (.tuple [.ref b,.int (la+1)]),S')/\mD (PP o FN WD) o main (l++[.fin,.fin,.fin,.fin,.fin]) line [] [] fr cs la/\fr=[]/\(∃ G:χ,(∀ k ds,G k=some ds->S.length<=k/\S'[k]?=some (.lst ds))/\rW G 28 (.ref b)=some (.list (c7 cs)))/\mm (PP o FN WD) 5 false cs c/\c<=l.length/\S.length<=S'.length/\∀ k,k<S.length->S'[k]?=S[k]?:=by
 let S0:ak:=S++[Ob.lst []]++[Ob.lst []];have g0:S0[S.length]?=some (.lst []):=aY (bS _ _);have g1:S0[S.length+1]?=some (.lst []):=by have:=bS (S++[Ob.lst []]) (Ob.lst []);simpa [S0] using this
 have v0:LV (PP o FN WD) o S0 (λ _=>none) S.length (S.length+1) S.length [] [] S.length 0:=
  ⟨⟨rfl,[],g0,rfl,.nil⟩,g1,by simp [kY],λ _ _=>rfl,(λ k ds hk=>by cases hk),(λ k hk=>by simp [kY] at hk;omega),by simp,(λ k ds hk=>by cases hk)⟩
 let fin5:List Op:=[.fin,.fin,.fin,.fin,.fin]
 obtain ⟨S1,F1,o1,fs1,h1,line1,t6,t7,n1,e1,v1,g1',b1,k1,f1,_⟩:=oX (ops:=.ref lo) (main:=main) hFN hWD l S0 _ [] [] S.length 0 line .no .no v0 (by simp [S0]) ho (by omega);obtain ⟨S2,F2,o2,fs2,h2,line2,u6,u7,n2,e2,v2,g2',b2,k2,f2,q2⟩:=oX (ops:=.ref lo) (main:=main) hFN hWD fin5 S1 F1 o1 fs1 h1 n1 line1 t6 t7 v1 k1 (λ op hop=>by simp [fin5] at hop;subst hop;trivial) (by simp [fin5];omega);obtain ⟨q3,q4⟩:=q2 (λ op hop=>by simpa [fin5] using hop);have fl:=v1.fl;have e0:fs2=[]:=List.eq_nil_of_length_eq_zero (by rw [q3];simp [fin5];omega);subst e0;obtain ⟨eb,ws,w1,w2,w3⟩:=v2.li;subst eb;refine ⟨S2,S.length,o2,n2,line2,[],?_,mD.app g2' _ g1',rfl,?_,w3,by omega,k2,λ k hk=>?_⟩
 . refine (bg rfl).trans ((Q9 eM (?_:_=some (.rt (.tuple [.ref S.length,.int (line2+1)]),S2))).trans rfl);refine (ah (δ':=[.val (.ref lo),.val (.int line),.val (.bool main),.val (.ref S.length),.no,.no,.no,.no]) (S':=S++[Ob.lst []]) (be (d:=.ref S.length) rfl rfl)).trans ?_;refine (ah (δ':=[.val (.ref lo),.val (.int line),.val (.bool main),.val (.ref S.length),.val (.ref S.length),.no,.no,.no]) (S':=S++[Ob.lst []]) (aH rfl)).trans ?_;refine (ah (δ':=vI (.ref lo) line main S.length S.length (S.length+1) .no .no) (S':=S0) (be (d:=.ref (S.length+1)) (by show some (Rs.ok (W.ref (S++[Ob.lst []]).length),_)=_;rw [QO];rfl) rfl)).trans ?_;have hlo0:S0[lo]?=some (.lst (l.map dP)):=aY (aY hlo);have it:mY (yG (ab (ae 0)) (ab (bc (EX (bu #[aK #[!"end"]]) !5)))) (vI (.ref lo) line main S.length S.length (S.length+1) .no .no) S0=some (.ok (l.map dP++fin5.map dP),S0):=by
    have r:bc (EX (bu #[aK #[!"end"]]) !5) (vI (.ref lo) line main S.length S.length (S.length+1) .no .no)=some (.list (fin5.map dP)):=rfl;have v0:ab (ae 0) (vI (.ref lo) line main S.length S.length (S.length+1) .no .no) S0=some (.ok (.ref lo),S0):=rfl;have ga:A4 (.ref lo) (.list (fin5.map dP)) S0=some (.list (l.map dP++fin5.map dP)):=by
     simp only [A4,fH hlo0,QC,jD];exact QF (by simp [fin5];omega)
    simp only [mY,yG,v0,ai r,au,ga,fN,QI];rfl
   have both:bv (af 6) dz (l.map dP++fin5.map dP) (vI (.ref lo) line main S.length S.length (S.length+1) .no .no) S0=some (.nx (vI (.ref lo) line2 main S.length S.length (S.length+1) u6 u7),S2):=by
    have e3:=e2 [];rw [Ra] at e3;exact (e1 _).trans e3
   refine (ah ((bT it).trans both)).trans ?_;exact cq (bq (j4 rfl rfl))
 . have n0:=v2.nf S.length (by simp);refine ⟨nu F2 S.length ws,λ k ds hk=>?_,p8 (by simp [nu]) (fQ (λ d e=>i6 (wn n0) _ _ d e (by omega)) _ _ w2)⟩;unfold nu at hk;split at hk
   . rename_i z;cases hk;subst z;exact ⟨QH _,w1⟩
   . exact ⟨v2.lf k ds hk,v2.hF k ds hk⟩
 . rw [f2 k hk,f1 k hk,QV (by simp;omega),QV hk]
def Ly (k:Nat) (h:k<4):∃ m:Int,gz [W.int 1,.int 42,.int 1764,.int 74088] (k:Int)=some (.int m)/\0<m/\m<2^64:=by
 obtain ⟨m,hm,e⟩:=iJ W.int [1,42,1764,74088] (Int.natCast_nonneg k) (ofNat_lt.mpr h);exact ⟨m,e,(show ∀ m∈[(1:Int),42,1764,74088],0<m/\m<2^64 by decide) m hm⟩
def Md (i:Int) (h0:0<=i) (h1:i<7):∃ n:Nat,gz [W.int 0,.int 0,.int 1,.int 1,.int 2,.int 3,.int 6] i=some (.int (n:Int))/\n<=6:=by
 obtain ⟨n,hn,e⟩:=iJ (λ n:Nat=>W.int n) [0,0,1,1,2,3,6] h0 h1;exact ⟨n,e,(show ∀ n∈[0,0,1,1,2,3,6],n<=6 by decide) n hn⟩
section
variable {N V:Ω}
def yE (hV:V.length=6) (dg:Int):∀ (n:Nat) (lo:Int),∃ xs:Ω,xs.length=n/\(∀ x∈xs,x∈V)/\b9 (af 2) jj (av aI (aq 0) (av bQ (av bB (av cE (aq 1) !7) (ae 2)) !6)) [.val (.list (V.map .str)),.val (.int dg),.no] (eZ lo n)=some (xs.map .str)
 | 0,lo=>⟨[],rfl,(λ x hx=>absurd hx QR),rfl⟩
 | n+1,lo=>by
  obtain ⟨xs,l,h,e⟩:=yE hV dg n (lo+1);obtain ⟨x,hx,ex⟩:=AD V hV (dg.fdiv 7+lo);refine ⟨x::xs,by simp [l],λ y hy=>?_,?_⟩
  . rcases QE.mp hy with rfl | hy
    . exact hx
    . exact h y hy
  . rw [fu];first | rfl | simp +decide only [b9,uD,Nat.reduceAdd,Nat.reduceSub,reduceIte,Nat.reduceEqDiff,List.replicate,ex,e,QT]
def yc (hN:N.length=6) (hV:V.length=6) (hn:∀ x∈N,strOk x=true) (hv:∀ x∈V,strOk x=true) (head:Int) (s3:Sl):∀ (n lo:Nat) (R:List Rm) (s5 s6 s7:Sl),lo+n<=4->R.length=lo->(∀ r∈R,strOk r.1=true/\(∀ x∈r.2,strOk x=true)/\r.2.length<=6)->∃ (R':List Rm) (t5 t6 t7:Sl),R'.length=lo+n/\(∀ r∈R',strOk r.1=true/\(∀ x∈r.2,strOk x=true)/\r.2.length<=6)/\bz (af 5) j0 (eZ (lo:Int) n) [.val (.int head),.val (.list (N.map .str)),.val (.list (V.map .str)),s3,.own (R.map eF),s5,s6,s7]=some (.nx [.val (.int head),.val (.list (N.map .str)),.val (.list (V.map .str)),s3,.own (R'.map eF),t5,t6,t7])
 | 0,lo,R,s5,s6,s7,_,hl,hR=>⟨R,s5,s6,s7,hl,hR,rfl⟩
 | n+1,lo,R,s5,s6,s7,h4,hl,hR=>by
  obtain ⟨m,em,m0,m1⟩:=Ly lo (by omega);let dg:Int:=(head.fdiv 64).fdiv m;have gd1:cE (.int (head.fdiv 64)) (.int m)=some (.int dg):=wY (pL m0 m1);have hm:=cY dg (j:=7) (by decide);obtain ⟨c,ec,hc⟩:=Md _ hm.1 hm.2;obtain ⟨xs,lx,hx,ex⟩:=yE hV dg c 0;have ln:lo<N.length:=by omega
  have en:gz (N.map W.str) (lo:Int)=some (.str N[lo]):=by
   rw [DX _ lo (by simpa using ln),Re,QP ln];rfl
  let r:Rm:=(N[lo],xs)
  obtain ⟨R',t5,t6,t7,l',h',e'⟩:=yc hN hV hn hv head s3 n (lo+1) (R++[r]) (.val (.int (lo:Int))) (.val (.int dg)) (.val (.int (c:Int))) (by omega) (by simp [hl]) (λ q hq=>by
   rcases QK.mp hq with hq | hq
   . exact hR q hq
   . rw [QD.mp hq];exact ⟨hn _ (RU ln),λ x h=>hv x (hx x h),by show xs.length<=6;omega⟩)
  refine ⟨R',t5,t6,t7,by omega,h',?_⟩;rw [fu];let δ (s6 s7:Sl) (l:List W):DS:=[.val (.int head),.val (.list (N.map .str)),.val (.list (V.map .str)),s3,.own l,.val (.int (lo:Int)),s6,s7]
  refine jS (δ2:=δ s6 s7 (R.map eF)) rfl ?_ e';refine ao (δ1:=δ (.val (.int dg)) s7 (R.map eF)) (aQ (dO rfl (rj (l:=[W.int 1,.int 42,.int 1764,.int 74088]) rfl rfl em) gd1) rfl) ?_;refine ao (δ1:=δ (.val (.int dg)) (.val (.int (c:Int))) (R.map eF)) (aQ (rj (l:=[W.int 0,.int 0,.int 1,.int 1,.int 2,.int 3,.int 6]) rfl rfl ec) rfl) ?_;have r1:jW #[ae 7] (δ (.val (.int dg)) (.val (.int (c:Int))) (R.map eF))=some (eZ 0 c):=gS (n:=c) rfl (by omega);exact (IN rfl (j4 (rj rfl rfl en) (Ke r1 (by simp [eZ];omega) ex)) (by rw [Rk];omega)).trans (by rw [Rw];rfl)
def zU (hN:N.length=6) (hV:V.length=6) (hn:∀ x∈N,strOk x=true) (hv:∀ x∈V,strOk x=true) (head:Int):∃ R:List Rm,iF [.int head,.list (N.map .str),.list (V.map .str)]=some (.list (R.map eF))/\0<R.length/\R.length<=4/\∀ r∈R,Kc (R.map (·.1)) r:=by
 have h4:=cY head (j:=4) (by decide);obtain ⟨m,hm⟩:∃ m:Nat,1+head.fmod 4=(m:Int):=⟨(1+head.fmod 4).toNat,by omega⟩
 obtain ⟨R,t5,t6,t7,l,h,e⟩:=yc hN hV hn hv head (.val (.int (m:Int))) m 0 [] .no .no .no (by omega) rfl (λ r hr=>absurd hr QR);have hj:=cY (head.fdiv 4) (j:=(m:Int)) (by omega);obtain ⟨j,ej⟩:∃ j:Nat,(head.fdiv 4).fmod (m:Int)=(j:Int):=⟨((head.fdiv 4).fmod (m:Int)).toNat,by omega⟩
 let mn:Rm:=(Str.ofString "main", [])
 have md:bQ (.int (head.fdiv 4)) (.int (m:Int))=some (.int (j:Int)):=by rw [<-ej];exact pw (by simp only [lq,Ri];omega)
 have ix:vL (R.map eF).length (j:Int)=some j:=by
  unfold vL;rw [QF (by omega),QF (by simp;omega)];simp
 have es:(R.map eF).set j (eF mn)=(R.set j mn).map eF:=by rw [map_set]
 have mo:strOk (Str.ofString "main")=true:=by decide +kernel
 refine ⟨R.set j mn,?_,by simp;omega,by simp;omega,λ r hr=>?_⟩
 . refine aZ rfl ?_;refine ao (δ1:=[.val (.int head),.val (.list (N.map .str)),.val (.list (V.map .str)),.val (.int (m:Int)),.no,.no,.no,.no]) (aQ ((rfl:_=some (W.int (1+head.fmod 4))).trans (by rw [hm])) rfl) ?_;refine ao (δ1:=[.val (.int head),.val (.list (N.map .str)),.val (.list (V.map .str)),.val (.int (m:Int)),.own (([]:List Rm).map eF),.no,.no,.no]) rfl ?_;refine ao (fP (ds:=eZ 0 m) (gS (n:=m) rfl (by omega)) e) ?_;refine ao (δ1:=[.val (.int head),.val (.list (N.map .str)),.val (.list (V.map .str)),.val (.int (m:Int)),.own ((R.set j mn).map eF),t5,t6,t7]) ?_ rfl;have tv:aK #[!"main",bc (bu ag)] [.val (.int head),.val (.list (N.map .str)),.val (.list (V.map .str)),.val (.int (m:Int)),.own (R.map eF),t5,t6,t7]=some (eF mn):=j4 rfl rfl;have ow:nz 4 [.val (.int head),.val (.list (N.map .str)),.val (.list (V.map .str)),.val (.int (m:Int)),.own (R.map eF),t5,t6,t7]=some (R.map eF):=rfl;have iv:av bQ (av cE (aq 0) !4) (ae 3) [.val (.int head),.val (.list (N.map .str)),.val (.list (V.map .str)),.val (.int (m:Int)),.own (R.map eF),t5,t6,t7]=some (.int (j:Int)):=dO rfl rfl md;simp only [sX,tv,ow,iv,QC,ix,QI,es];rfl
 . have hr':r∈R∨r=mn:=(List.mem_or_eq_of_mem_set hr).imp id id;have q:strOk r.1=true/\(∀ x∈r.2,strOk x=true)/\r.2.length<=6:=by
    rcases hr' with hr' | rfl
    . exact h r hr'
    . exact ⟨mo,(λ x hx=>absurd hx QR),by simp [mn]⟩
   exact ⟨q.1,q.2.1,q.2.2,λ _=>Q7.mpr ⟨r,hr,rfl⟩⟩
def Be (hN:N.length=6) (hn:∀ x∈N,fR x) (head:Int):∃ V:Ω,cT [.int head,.list (N.map .str)]=some (.list (V.map .str))/\V.length=6/\∀ x∈V,fR x:=by
 have z1:=sz 1 (by decide);by_cases h:(head.fdiv 1000000000).fmod 4=1
 . have e:=QL h;have cu:iV (N.map W.str) none (some 5)=(N.take 5).map .str:=by
    have:iV (N.map W.str) none (some 5)=iV (N.map W.str) (some ((0:Nat):Int)) (some ((5:Nat):Int)):=rfl;rw [this,JI];simp [map_take]
   have ma:fR (Str.ofString "main"):=by unfold fR;decide +kernel
   have ga:bB (.list ((N.take 5).map W.str)) (.list [.str "main"])=some (.list ((N.take 5++[Str.ofString "main"]).map .str)):=by
    rw [fI (sz _ (by simp;omega))];simp
   refine ⟨N.take 5++[Str.ofString "main"],?_,by simp;omega,λ x hx=>?_⟩
   . first | rfl | simp +decide only [cT,uD,Nat.reduceAdd,Nat.reduceSub,reduceIte,Nat.reduceEqDiff,List.replicate,MB,e,cu,QF z1,ga]
   . rcases QK.mp hx with hx | hx
     . exact hn x (List.mem_of_mem_take hx)
     . rw [QD.mp hx];exact ma
 . have e:=QJ h;have zn:(N.map W.str).length<=sizeLine:=sz _ (by simp;omega);refine ⟨N,?_,hN,hn⟩;first | rfl | simp +decide only [cT,uD,Nat.reduceAdd,Nat.reduceSub,reduceIte,Nat.reduceEqDiff,List.replicate,iE,MB,e,QF zn]
end
section
variable {P:π} {o:Int} {main:Bool}
instance Hz (f:Fr):List Int:=f.ln::((if f.b.isNone=true then [] else dS (c7 f.ca))++dS (c7 f.cs))
instance AL (fs:List Fr) (out:ω):List Int:=dS (c7 out)++fs.flatMap Hz
def CJ (a:ω) (x:Bk):dS (c7 (a++[x]))=dS (c7 a)++wP (f7 x):=by
 have:c7 (a++[x])=c7 a++[f7 x]:=by simp [c7]
 rw [this,ug];simp [dS]
def Bx (x:Bk) (fs:List Fr) (out:ω):(AL (nJ x fs) (vv x out fs)).Perm (wP (f7 x)++AL fs out):=by
 cases fs with
 | nil=>
  simp only [AL,nJ,vv,List.flatMap_nil,Ra,CJ];exact List.perm_append_comm
 | cons f fs=>
  refine List.perm_iff_count.mpr λ a=>?_;simp only [AL,nJ,vv,RD,Hz,CJ,count_append,List.count_cons];omega
def LF {f:Fr} (h:f.wh=true->f.b=none):(wP (f7 (f.ln,yS f))).Perm (Hz f):=by
 show (wP (cD f.ln (yS f))).Perm _;unfold yS Hz;cases hw:f.wh with
 | true=>rw [QF rfl,Gp,h hw];exact .refl _
 | false=>
  rw [QS (by simp)];cases hb:f.b with
  | none=>simp only [];rw [GW];exact .refl _
  | some b=>simp only [];rw [Gi];exact .refl _
structure LL (l0 line:Int) (fs:List Fr) (out:ω):Prop where
 nd:(AL fs out).Nodup
 bd:∀ x∈AL fs out,l0<x/\x<=line
 wb:∀ f∈fs,f.wh=true->f.b=none
 le:l0<=line
def BZ (x:Bk) (fs:List Fr) (h:∀ f∈fs,f.wh=true->f.b=none):∀ f∈nJ x fs,f.wh=true->f.b=none:=by
 cases fs with
 | nil=>exact λ f hf=>absurd hf QR
 | cons g fs=>
  intro f hf;rcases QE.mp hf with rfl | hf
  . exact h g (by simp)
  . exact h f (by simp [hf])
variable {l0 line line':Int} {fs fs':List Fr} {out out':ω}
def LL.of (q:LL l0 line fs out) (h:(AL fs' out').Perm (AL fs out)) (hw:∀ f∈fs',f.wh=true->f.b=none):LL l0 (line+1) fs' out':=⟨h.nodup_iff.mpr q.nd,λ x hx=>by have:=q.bd x (h.mem_iff.mp hx);omega,hw,by have:=q.le;omega⟩
def LL.one (q:LL l0 line fs out) (h:(AL fs' out').Perm ([line+1]++AL fs out)) (hw:∀ f∈fs',f.wh=true->f.b=none):LL l0 (line+1) fs' out':=by
 refine ⟨h.nodup_iff.mpr (Rp.mpr ⟨λ z=>?_,q.nd⟩),λ x hx=>?_,hw,by have:=q.le;omega⟩
 . have:=q.bd _ z;omega
 . rcases QK.mp (h.mem_iff.mp hx) with z | z
   . have:=QD.mp z;have:=q.le;omega
   . have:=q.bd x z;omega
def Ld.ll {op:Op} (q:LL l0 line fs out) (h:Ld P o main op line fs out fs' out' line'):LL l0 line' fs' out':=by
 rcases h with ⟨_,rfl,rfl,rfl⟩ | ⟨_,rfl,k⟩
 . exact q
 cases op with
 | st h=>
  obtain ⟨_,hb,rfl,rfl⟩:=k;have a:=Bx (line+1,h) fs out;rw [show wP (f7 (line+1,h))=[line+1] from Gq (tP hb) _] at a;exact q.one a (BZ _ _ q.wb)
 | opn wh t=>
  obtain ⟨f,_,hl,_,hb,hc,rfl,rfl⟩:=k;refine q.one ?_ λ g hg=>?_
  . have:Hz f=[line+1]:=by simp [Hz,hb,hc,hl,c7,dS]
    refine List.perm_iff_count.mpr λ a=>?_;simp only [AL,RD,this,count_append];omega
  . rcases QE.mp hg with rfl | hg
    . exact λ _=>hb
    . exact q.wb g hg
 | fin=>
  obtain ⟨f,fs1,rfl,_,rfl,rfl⟩:=k;have w1:∀ g∈fs1,g.wh=true->g.b=none:=λ g hg=>q.wb g (by simp [hg]);refine q.of ((Bx _ _ _).trans ?_) (BZ _ _ w1);refine ((LF (q.wb f (by simp))).append_right _).trans (List.perm_iff_count.mpr λ a=>?_);simp only [AL,RD,count_append];omega
 | els=>
  obtain ⟨f,fs1,b,rfl,hw,hb,rfl,rfl⟩:=k;refine q.of (.of_eq ?_) λ g hg=>?_
  . simp [AL,Hz,hb,c7,dS]
  . rcases QE.mp hg with rfl | hg
    . exact λ z=>by have z:f.wh=true:=z;rw [hw] at z;cases z
    . exact q.wb g (by simp [hg])
def mD.ll:∀ (l:List Op) {line:Int} {fs:List Fr} {out:ω},LL l0 line fs out->mD P o main l line fs out fs' out' line'->LL l0 line' fs' out':=λ l=>by
 induction l with
 | nil=>
  intro line fs out q h;obtain ⟨rfl,rfl,rfl⟩:=h;exact q
 | cons op l ih=>
  intro line fs out q h;obtain ⟨_,_,_,a,h⟩:=h;exact ih (Ld.ll q a) h
def DD {l:List Op} {cs:ω} {la:Int} (h:mD P o main l line [] [] [] cs la):(dS (c7 cs)).Nodup/\(∀ x∈dS (c7 cs),line<x/\x<=la)/\line<=la:=by
 have e0:AL [] []=[]:=rfl;have q:=mD.ll (l0:=line) l (fs:=[]) (out:=[]) ⟨by rw [e0];exact nodup_nil,(λ x hx=>by rw [e0] at hx;cases hx),(λ f hf=>absurd hf QR),Int.le_refl _⟩ h;have e:AL [] cs=dS (c7 cs):=by simp [AL]
 rw [<-e];exact ⟨q.nd,q.bd,q.le⟩
end
instance sA (OL:List (List Op)):ak:=OL.map λ l=>.lst (l.map dP)
def yf:∀ (R:List Rm) (S:ak),cj (af 0) (ab jj) (eJ (ab ag)) [.no] (R.map eF) S=some (.ok ((List.range' S.length R.length).map .ref),S++List.replicate R.length (.lst []))
 | [],S=>by simp [cj]
 | r::R,S=>by
  have z0:=sz 0 (by decide);have ih:=yf R (S++[Ob.lst []]);have:=tN (af 0) (eJ (ab ag)) [.no] [.val (eF r)] (eF r) (.ref S.length) (R.map eF) _ S (S++[Ob.lst []]) _ rfl (by first | rfl | simp! [uS,uD,QF z0]) ih;rw [QT,this];simp [List.range'_succ,RJ]
def BE {k n:Nat} (h:k<n):gz ((List.range' 0 n).map W.ref) (k:Int)=some (.ref k):=by
 rw [DX _ k (by simp;omega),Re,List.getElem?_range' h];simp
def wT:∀ (L:List (List Op)),∀ l∈L,l.length<=(L.map List.length).sum
 | a::L,l,h=>by
  rw [QT,sum_cons];rcases QE.mp h with rfl | h
  . omega
  . have:=wT L l h;omega
def Q0 {f:μ} {δ:DS} {l:List W} (h:f δ=some (.list l)):bc (iE f) δ=some (.list l):=by
 unfold bc iE;rw [h];rfl
instance Ae (OL:List (List Op)):Nat:=(OL.map List.length).sum
def rF:∀ (OL:List (List Op)) (j:Nat) (op:Op) (h:j<OL.length),Ae (OL.set j (OL[j]++[op]))=Ae OL+1
 | l::OL,0,op,_=>by simp [Ae];omega
 | l::OL,j+1,op,h=>by
  have:=rF OL j op (by simpa using h);simp [Ae] at this ⊢;omega
section
variable {V:Ω} {o:Int} {WD:Ω} {R:List Rm}
instance Kn (s0 s1:Sl) (o:Int) (WD:Ω) (s4 s5:Sl) (V:Ω) (R:List Rm) (s9 s10 s11:Sl):DS:=[s0,s1,.val (.int o),.val (.list (WD.map .str)),s4,s5,.val (.list (V.map .str)),.val (.list (R.map eF)),.val (.list ((List.range' 0 R.length).map .ref)),s9,s10,s11,.no,.no,.no,.no,.no]
def xN (hV:V.length=6) (hk:∀ x∈V,fR x) (hR:∀ r∈R,Kc (R.map (·.1)) r) (h0:0<R.length) (h4:R.length<=4) (hW:0<WD.length) (s0 s1 s4 s5:Sl):∀ (cells:List Int) (k:Nat) (OL:List (List Op)) (s9 s10 s11:Sl),k+cells.length<900->OL.length=R.length->Ae OL+cells.length<900->(∀ l∈OL,∀ op∈l,Dg o (R.map (·.1)) WD op)->∃ (OL':List (List Op)) (t9 t10 t11:Sl),OL'.length=R.length/\Ae OL'=Ae OL+cells.length/\(∀ l∈OL',∀ op∈l,Dg o (R.map (·.1)) WD op)/\bv (bG 2 (aD (af 9) (aD (af 10) bJ))) hZ (CM k (cells.map .int)) (Kn s0 s1 o WD s4 s5 V R s9 s10 s11) (sA OL)=some (.nx (Kn s0 s1 o WD s4 s5 V R t9 t10 t11),sA OL')
 | [],k,OL,s9,s10,s11,_,hl,_,ho=>⟨OL,s9,s10,s11,hl,rfl,ho,rfl⟩
 | c::cells,k,OL,s9,s10,s11,hk9,hl,ht,ho=>by
  simp only [QY] at hk9 ht;obtain ⟨m,em,_⟩:=gp c (k+2) (by omega);have e2:(((k+2:Nat)):Int)=(k:Int)+2:=by omega
  rw [e2] at em;have hm:=cY m (j:=R.length) (by omega);obtain ⟨j,ej⟩:∃ j:Nat,m.fmod R.length=j:=⟨(m.fmod R.length).toNat,by omega⟩
  have jl:j<OL.length:=by omega
  have md:=wB eF R m h0;rw [ej] at md;have dv:cE (.int m) (.int ((R.map eF).length:Nat))=some (.int (m.fdiv R.length)):=by
   rw [Rk];exact wY (pL (by omega) (by omega))
  obtain ⟨op,eo,hop⟩:=IV (o:=o) (FN:=R.map (·.1)) (WD:=WD) hV hk R hR (by omega) hW (m.fdiv R.length);have er:=BE (show j<R.length by omega);have sj:(sA OL)[j]?=some (.lst (OL[j].map dP)):=by simp [sA,QP jl]
  have lj:OL[j].length<=Ae OL:=wT OL _ (RU jl);obtain ⟨OL',t9,t10,t11,l',q',o',e'⟩:=xN hV hk hR h0 h4 hW s0 s1 s4 s5 cells (k+1) (OL.set j (OL[j]++[op])) (.val (.int (k:Int))) (.val (.int c)) (.val (.int m)) (by omega) (by simpa using hl) (by rw [rF OL j op jl];omega) (λ l hm' p hp=>by
   rcases List.mem_or_eq_of_mem_set hm' with h | rfl
   . exact ho l h p hp
   . rcases QK.mp hp with hp | hp
     . exact ho _ (RU jl) p hp
     . rw [QD.mp hp];exact hop)
  refine ⟨OL',t9,t10,t11,l',by rw [q',rF OL j op jl];simp only [QY];omega,o',?_⟩;have ss:(sA OL).set j (.lst (OL[j].map dP++[dP op]))=sA (OL.set j (OL[j]++[op])):=by simp [sA,map_set]
  rw [QT];refine (bm (δ2:=Kn s0 s1 o WD s4 s5 V R (.val (.int (k:Int))) (.val (.int c)) s11) (δ':=Kn s0 s1 o WD s4 s5 V R (.val (.int (k:Int))) (.val (.int c)) (.val (.int m))) (S':=sA (OL.set j (OL[j]++[op]))) rfl ?_).trans e';refine (ah (δ':=Kn s0 s1 o WD s4 s5 V R (.val (.int (k:Int))) (.val (.int c)) (.val (.int m))) (S':=sA OL) (aH (aQ (d:=.int m) (iz rfl em) rfl))).trans ?_;rw [<-ss];exact eE (rj rfl (dO rfl rfl md) er) sj (ai (iz (jI (dO rfl rfl dv) rfl) eo)) (by simp;omega)
instance O7 (P:π) (o:Int):List Rm->List (List Op)->Int->List nY->Prop
 | [],_,_,ds=>ds=[]
 | rm::R,OL,line,ds=>∃ l OL1 la d ds1,OL=l::OL1/\ds=d::ds1/\mD P o (decide (rm.1=Str.ofString "main")) (l++[.fin,.fin,.fin,.fin,.fin]) (line+1) [] [] [] d.bd la/\d.nm=rm.1/\d.ps=rm.2/\d.ln=line+1/\d.la=la+1/\O7 P o R OL1 (la+1) ds1
instance yp (S:ak) (q:Nat) (w:W) (d:nY):Prop:=∀ G:Nat->Option (List W),(∀ k ds,q<k->S[k]?=some (.lst ds)->G k=some ds)->rW G 30 w=some (dh d)
def yp.move {S S':ak} {q:Nat} {w:W} {d:nY} (h:yp S q w d) (hs:∀ k,q<k->k<S.length->S'[k]?=S[k]?):yp S' q w d:=λ G hG=>h G λ k ds hk hS=>hG k ds hk (by rw [hs k hk (oG hS).1];exact hS)
instance Nc (s0 s1 s2 s3 s4 s5 s6:Sl) (R:List Rm) (R8:List W) (s9 s10 s11:Sl) (q:Nat) (line:Int) (s14 s15 s16:Sl):DS:=[s0,s1,s2,s3,s4,s5,s6,.val (.list (R.map eF)),.val (.list R8),s9,s10,s11,.val (.ref q),.val (.int line),s14,s15,s16]
structure EL (P:π) (S:ak) (q:Nat) (ws:List W) (ds:List (nY×Nat)):Prop where
 hq:S[q]?=some (.lst ws)
 al:ws.length=ds.length
 en:∀ (i:Nat) (w:W) (d:nY×Nat),ws[i]?=some w->ds[i]?=some d->yp S q w d.1
 gb:∀ d∈ds,mm P 5 false d.1.bd d.2/\d.1.ps.length<=6/\strOk d.1.nm=true/\∀ x∈d.1.ps,strOk x=true
noncomputable abbrev Qj (o:Int) (WD:Ω) (R:List Rm) (R8:List W) (OL:List (List Op)) (s0 s1 s2 s3 s4 s5 s6 s10 s11:Sl) (k:Nat) (rs:List Rm) (S:ak) (ds:List (nY×Nat)) (line:Int) (s9 s14 s15 s16:Sl) (S':ak) (ws':List W) (ds':List (nY×Nat)) (line':Int) (t9 t14 t15 t16:Sl) (es:List nY):Prop:=ds'.map (·.1)=ds.map (·.1)++es/\O7 (PP o (R.map (·.1)) WD) o rs (OL.drop k) line es/\bv (bG 2 (aD (af 9) (aD (af 14) bJ))) ic (CM k (rs.map eF)) (Nc s0 s1 s2 s3 s4 s5 s6 R R8 s9 s10 s11 R.length line s14 s15 s16) S=some (.nx (Nc s0 s1 s2 s3 s4 s5 s6 R R8 t9 s10 s11 R.length line' t14 t15 t16),S')/\EL (PP o (R.map (·.1)) WD) S' R.length ws' ds'/\ds'.map (·.1.nm)=ds.map (·.1.nm)++rs.map (·.1)/\(ds'.map (·.2)).sum<=(ds.map (·.2)).sum+((OL.drop k).map List.length).sum
def yO (hFN:∀ r∈R,Kc (R.map (·.1)) r) (hWD:∀ f∈WD,strOk f=true) (R8:List W) (h8:R8=(List.range' 0 R.length).map .ref) (OL:List (List Op)) (hOL:OL.length=R.length) (ho:∀ l∈OL,∀ op∈l,Dg o (R.map (·.1)) WD op) (hl:∀ l∈OL,l.length<=70) (s0 s1 s2 s3 s4 s5 s6 s10 s11:Sl):∀ (n k:Nat) (rs:List Rm) (S:ak) (ws:List W) (ds:List (nY×Nat)) (line:Int) (s9 s14 s15 s16:Sl),rs=R.drop k->rs.length=n->(∀ i,i<R.length->S[i]?=(sA OL)[i]?)->EL (PP o (R.map (·.1)) WD) S R.length ws ds->ds.length+n<=100->
 ∃ (S':ak) (ws':List W) (ds':List (nY×Nat)) (line':Int) (t9 t14 t15 t16:Sl) (es:List nY),Qj o WD R R8 OL s0 s1 s2 s3 s4 s5 s6 s10 s11 k rs S ds line s9 s14 s15 s16 S' ws' ds' line' t9 t14 t15 t16 es
 | 0,k,rs,S,ws,ds,line,s9,s14,s15,s16,hr,hn,hS,el,_=>by
  have:rs=[]:=List.eq_nil_of_length_eq_zero hn;subst this;exact ⟨S,ws,ds,line,s9,s14,s15,s16,[],by simp,rfl,rfl,el,by simp,by omega⟩
 | n+1,k,rs,S,ws,ds,line,s9,s14,s15,s16,hr,hn,hS,el,h100=>by
  have kl:k<R.length:=by rw [hr,length_drop] at hn;omega
  have rk:rs=R[k]::R.drop (k+1):=by rw [hr];exact Rx kl
  have ok:=hFN R[k] (RU kl);have ko:k<OL.length:=by omega
  have hlo:S[k]?=some (.lst (OL[k].map dP)):=by rw [hS k kl];simp [sA,QP ko]
  let main:Bool:=decide (R[k].1=Str.ofString "main");have fnOk:∀ f∈R.map (·.1),strOk f=true:=λ f hf=>by obtain ⟨r,h1,rfl⟩:=Q7.mp hf;exact (hFN r h1).n
  obtain ⟨S1,b,cs,c,la,fr',e1,stp,fr0,⟨G1,g1,g2⟩,gb,cc,sl,fr⟩:=AO fnOk hWD S k OL[k] hlo (λ op hop=>ho _ (RU ko) op hop) (hl _ (RU ko)) (line+1) main;have ql:=(oG el.hq).1;have hq1:S1[R.length]?=some (.lst ws):=by rw [fr _ ql];exact el.hq
  subst fr0;let d:nY:=⟨R[k].1,R[k].2,cs,line+1,la+1⟩
  let w:W:=.tuple [.str R[k].1,.list (R[k].2.map .str),.ref b,.int (line+1),.int (la+1)];let S2:ak:=S1.set R.length (.lst (ws++[w]));have el2:EL (PP o (R.map (·.1)) WD) S2 R.length (ws++[w]) (ds++[(d,c)]):=by
   refine ⟨set_eq' hq1,by simp [el.al],λ i w' d' hw hd=>?_,λ x hx=>?_⟩
   . rcases Sz i ws.length with hi | hi
     . rw [QV hi] at hw;rw [QV (by rw [<-el.al];exact hi)] at hd;exact (el.en i w' d' hw hd).move λ k hk hk2=>by rw [QW (by omega),fr k hk2]
     . have il:i=ws.length:=by have:=(oG hw).1;simp at this;omega
       subst il;rw [RA (QH _),Nat.sub_self] at hw;rw [el.al,RA (QH _),Nat.sub_self] at hd;simp at hw hd;subst hw hd;intro G hG;have rb:rW G 29 (.ref b)=some (.list (c7 cs)):=i6 (λ k ds hk=>by
        obtain ⟨a1,a2⟩:=g1 k ds hk;exact hG k ds (by omega) (set_ne' a2 (by omega))) 28 29 _ _ (by omega) g2
       have st:=lQ ok.p;have rp:rW G 29 (.list (R[k].2.map .str))=some (.list (R[k].2.map .str)):=vd G 29 _ (by simpa [iU] using st.1) (by simp only [cU];omega);exact rO (bh (d:=.str R[k].1) rfl (bh rp (bh rb (bh (d:=.int (line+1)) rfl (bh (d:=.int (la+1)) (ds:=[]) rfl rfl)))))
   . rcases QK.mp hx with hx | hx
     . exact el.gb x hx
     . rw [QD.mp hx];exact ⟨gb,ok.l,ok.n,ok.p⟩
  obtain ⟨S',ws',ds',line',t9,t14,t15,t16,es,es1,es2,e2,el3,nm3,sm3⟩:=yO hFN hWD R8 h8 OL hOL ho hl s0 s1 s2 s3 s4 s5 s6 s10 s11 n (k+1) (R.drop (k+1)) S2 (ws++[w]) (ds++[(d,c)]) (la+1) (.val (.int (k:Int))) (.val (eF R[k])) (.val (.ref b)) (.val (.int (la+1))) rfl (by rw [hr,length_drop] at hn;rw [length_drop];omega) (λ i hi=>by rw [QW (by omega),fr i (by omega),hS i hi]) el2 (by simp;omega);refine ⟨S',ws',ds',line',t9,t14,t15,t16,d::es,by rw [es1,Rw,Ru];rfl,by rw [rk,Rx ko];exact ⟨_,_,_,_,_,rfl,rfl,stp,rfl,rfl,rfl,rfl,es2⟩,?_,el3,by rw [nm3,rk,Rw,QT,Ru];rfl,?_⟩
  . rw [rk,QT];let δ (s15 s16:Sl) (ln:Int):DS:=Nc s0 s1 s2 s3 s4 s5 s6 R R8 (.val (.int (k:Int))) s10 s11 R.length ln (.val (eF R[k])) s15 s16;have er:=BE kl;rw [<-h8] at er;refine (bm (δ2:=δ s15 s16 line) (δ':=δ (.val (.ref b)) (.val (.int (la+1))) (la+1)) (S':=S2) rfl ?_).trans e2;refine (ah (δ':=δ (.val (.ref b)) (.val (.int (la+1))) line) (S':=S1) (be (bE (S1:=S) (ds:=[.ref k,.int (line+1),.bool main]) (ai (vF (rj rfl rfl er) rfl (Q9 (Option.map W.bool) (tD (x0 rfl))))) e1) rfl)).trans ?_;exact (ah (δ':=δ (.val (.ref b)) (.val (.int (la+1))) line) (S':=S2) (eE rfl hq1 (ai (Ml (l:=[.str R[k].1,.list (R[k].2.map .str),.ref b,.int (line+1),.int (la+1)]) (jI (x0 rfl) (jI (Q0 (x1 rfl)) rfl)) (by simp))) (by have:=el.al;omega))).trans (aH rfl)
  . have:(OL.drop k).map List.length=OL[k].length::(OL.drop (k+1)).map List.length:=by rw [Rx ko];rfl
    rw [this,sum_cons];rw [Rw,List.sum_append] at sm3;simp only [QT,map_nil,sum_cons,sum_nil] at sm3;omega
end
def Fw (ns:List Int) (lo hi:Option Int):∃ ms:List Int,ms.length<=ns.length/\iV (ns.map .int) lo hi=ms.map .int:=by
 refine ⟨(ns.drop (HT.sIx (ns.map W.int).length 0 lo)).take (HT.sIx (ns.map W.int).length (ns.map W.int).length hi-HT.sIx (ns.map W.int).length 0 lo),?_,?_⟩
 . rw [length_take,length_drop];omega
 . unfold iV;rw [map_take,List.map_drop]
def yh {f:W->Option W}:∀ (ws:List W) (xs:List W),ws.length=xs.length->(∀ (i:Nat) (w x:W),ws[i]?=some w->xs[i]?=some x->f w=some x)->dQ f ws=some xs
 | [],[],_,_=>rfl
 | w::ws,x::xs,hl,h=>bh (h 0 w x rfl rfl) (yh ws xs (by simpa using hl) λ i a b ha hb=>h (i+1) a b (by simpa using ha) (by simpa using hb))
 | [],_::_,hl,_=>by simp at hl
 | _::_,[],hl,_=>by simp at hl
instance HF:Int->List nY->Prop
 | _,[]=>True
 | line,d::ds=>d.ln=line+1/\(dS (c7 d.bd)).Nodup/\(∀ x∈dS (c7 d.bd),line<x/\x<d.la)/\line<d.la/\HF d.la ds
def KM {P:π} {o:Int}:∀ (R:List Rm) {OL:List (List Op)} {line:Int} {ds:List nY},O7 P o R OL line ds->HF line ds:=λ R=>by
 induction R with
 | nil=>intro OL line ds h;rw [show ds=[] from h];trivial
 | cons rm R ih=>
  intro OL line ds h;obtain ⟨l,OL1,la,d,ds1,rfl,rfl,stp,_,_,hl,ha,r⟩:=h;obtain ⟨a,b,c⟩:=DD stp;have r':=ih r;rw [<-ha] at r';exact ⟨hl,a,λ x hx=>by have:=b x hx;omega,by omega,r'⟩
def HF.all:∀ (ds:List nY) {line:Int},HF line ds->(∀ x∈ds.flatMap λ d=>dS (c7 d.bd),line<x)/\(ds.flatMap λ d=>dS (c7 d.bd)).Nodup:=λ ds=>by
 induction ds with
 | nil=>exact λ _=>⟨(λ x hx=>by cases hx),nodup_nil⟩
 | cons d ds ih=>
  intro line h;obtain ⟨_,h2,h3,h4,h5⟩:=h;obtain ⟨a,b⟩:=ih h5;simp only [RD];refine ⟨λ x hx=>?_,RZ.mpr ⟨h2,b,λ x hx y hy z=>?_⟩⟩
  . rcases QK.mp hx with hx | hx
    . exact (h3 x hx).1
    . have:=a x hx;omega
  . have:=a y hy;have:=h3 x hx;omega
def BJ (ns:List Int) (hns:ns.length<=63) {N:Ω} (hN:N.length=6) (hA:∀ x∈N,fR x) (o:Int) {WD:Ω} (hW:0<WD.length) (hWD:∀ f∈WD,strOk f=true):∃ (ds:List (nY×Nat)),fZ [.list (ns.map .int),.list (N.map .str),.int o,.list (WD.map .str),.int 56]=some (.list (ds.map λ d=>dh d.1))/\ds.length<=4/\(∀ d∈ds,mm (PP o (ds.map (·.1.nm)) WD) 5 false d.1.bd d.2/\d.1.ps.length<=6/\strOk d.1.nm=true/\∀ x∈d.1.ps,strOk x=true)/\(ds.map (·.2)).sum<=63/\HF 0 (ds.map (·.1)):=by
 have hn:∀ x∈N,strOk x=true:=λ x hx=>(hA x hx).ok;obtain ⟨c0,ec0⟩:=ox ns 0;obtain ⟨head,eh,_⟩:=gp c0 0 (by decide);obtain ⟨V,eV,lV,aV⟩:=Be hN hA head;obtain ⟨R,eR,r0,r4,hR⟩:=zU hN lV hn (λ x hx=>(aV x hx).ok) head;obtain ⟨ms,lm,em⟩:=Fw ns (some 2) (some 56);let scr:Sl:=.val (.list (ns.map .int));let nl:Sl:=.val (.list (N.map .str));obtain ⟨OL,t9,t10,t11,lO,tO,kO,eO⟩:=xN (o:=o) (WD:=WD) lV aV hR r0 r4 hW scr nl (.val (.int 56)) (.val (.int head)) ms 0 (List.replicate R.length []) .no .no .no (by omega) (by simp) (by simp [Ae];omega) (λ l hl op hop=>by rw [List.eq_of_mem_replicate hl] at hop;cases hop);have t0:Ae (List.replicate R.length ([]:List Op))=0:=by simp [Ae]
 rw [t0,Nat.zero_add] at tO;have st0:sA (List.replicate R.length [])=([]:ak)++List.replicate R.length (Ob.lst []):=by simp [sA]
 have sl:(sA OL).length=R.length:=by simp [sA,lO]
 let S1:ak:=sA OL++[Ob.lst []];have hq:S1[R.length]?=some (.lst []):=by rw [<-sl];exact bS _ _
 have lb:∀ l∈OL,l.length<=70:=λ l hl=>by
  have:l.length<=Ae OL:=wT OL l hl;omega
 obtain ⟨S2,ws,ds,line',u9,u14,u15,u16,es,de,dr,e2,el,nm,sm⟩:=yO (o:=o) (WD:=WD) hR hWD ((List.range' 0 R.length).map .ref) rfl OL lO kO lb scr nl (.val (.int o)) (.val (.list (WD.map .str))) (.val (.int 56)) (.val (.int head)) (.val (.list (V.map .str))) t10 t11 R.length 0 R S1 [] [] 0 t9 .no .no .no rfl rfl (λ i hi=>by simp only [S1];rw [QV (by omega)]) ⟨hq,rfl,(λ i w d hw=>by simp at hw),λ d hd=>absurd hd QR⟩ (by simp;omega);have nm':ds.map (·.1.nm)=R.map (·.1):=by simpa using nm
 refine ⟨ds,?_,?_,λ d hd=>by rw [nm'];exact el.gb d hd,?_,by rw [de];exact KM _ dr⟩
 . have ok:dj [.list (ns.map .int),.list (N.map .str),.int o,.list (WD.map .str),.int 56]=true:=by
    have a:=(lQ hn).1;have b:=(lQ hWD).1;have c:dj (ns.map .int)=true:=gR λ d hd=>by obtain ⟨x,_,rfl⟩:=Q7.mp hd;rfl
    simp [dj,iU,a,b,c]
   have run:gj [.list (ns.map .int),.list (N.map .str),.int o,.list (WD.map .str),.int 56] []=some (.ok (.ref R.length),S2):=by
    let δ (s5 s6 s7 s8 s9 s10 s11 s12 s13:Sl):DS:=[scr,nl,.val (.int o),.val (.list (WD.map .str)),.val (.int 56),s5,s6,s7,s8,s9,s10,s11,s12,s13,.no,.no,.no]
    let sV:Sl:=.val (.list (V.map .str));let sR:Sl:=.val (.list (R.map eF));let s8:Sl:=.val (.list ((List.range' 0 R.length).map .ref));have zr:(R.map eF).length<=sizeLine:=sz _ (by simp;omega);refine (bg rfl).trans ((Q9 eM (?_:_=some (.rt (.ref R.length),S2))).trans rfl);refine (ah (δ':=δ (.val (.int head)) .no .no .no .no .no .no .no .no) (S':=[]) (aH (aQ (d:=.int head) (iz (Cy (iz rfl ec0) rfl) eh) rfl))).trans ?_;refine (ah (δ':=δ (.val (.int head)) sV .no .no .no .no .no .no .no) (S':=[]) (aH (aQ (d:=.list (V.map .str)) (iz rfl eV) rfl))).trans ?_;refine (ah (δ':=δ (.val (.int head)) sV sR .no .no .no .no .no .no) (S':=[]) (aH (aQ (d:=.list (R.map eF)) (iz rfl eR) rfl))).trans ?_;have oc:=yf R [];refine (ah (δ':=δ (.val (.int head)) sV sR s8 .no .no .no .no .no) (S':=sA (List.replicate R.length [])) (be (oR (S0:=[]) (ds:=R.map eF) rfl zr (by rw [st0];exact oc)) rfl)).trans ?_;refine (ah (δ':=δ (.val (.int head)) sV sR s8 t9 t10 t11 .no .no) (S':=sA OL) ((bT (S1:=sA (List.replicate R.length [])) (ds:=CM 0 (ms.map .int)) (ai ?_)).trans eO)).trans ?_
    . first | rfl | simp! [δ,Kn,scr,uD,em,ua]
    refine (ah (δ':=δ (.val (.int head)) sV sR s8 t9 t10 t11 (.val (.ref R.length)) .no) (S':=S1) (be (d:=.ref R.length) (by rw [<-sl];rfl) rfl)).trans ?_;refine (ah (δ':=δ (.val (.int head)) sV sR s8 t9 t10 t11 (.val (.ref R.length)) (.val (.int 0))) (S':=S1) (aH rfl)).trans ?_;refine (ah ((bT (S1:=S1) (ds:=CM 0 (R.map eF)) (ai ?_)).trans e2)).trans rfl;first | rfl | simp! [δ,Nc,sR,uD,ua]
   show AY _ _=_;unfold AY;rw [QF ok,run];refine p8 (FL el.hq) (yh ws _ (by simp [el.al]) λ i w x hw hx=>?_);rw [Re] at hx;obtain ⟨d,hd,rfl⟩:=oM hx
   exact i6 (λ _ _ z=>z) 30 39 _ _ (by omega) (el.en i w d hw hd (JY S2) λ k dd _ hk=>FL hk)
 . have:=Q9 List.length nm';simp at this;omega
 . have:(OL.map List.length).sum=ms.length:=tO;simp only [List.drop_zero,map_nil,sum_nil] at sm;omega
def M9 {o:Int} {FN WD:Ω} {wh:Bool} {h:Hd} (hp:PP o FN WD wh h):Hg FN wh h:=by
 refine ⟨λ t ht=>?_,λ hc=>?_,λ x f ts e=>?_⟩
 . cases h with
   | set x u=>rw [QD.mp ht];exact hp.2.1
   | ret u=>rw [QD.mp ht];exact hp.1
   | ifs u l=>rw [QD.mp ht];exact hp.1
   | whl u l=>rw [QD.mp ht];exact hp.1
   | _=>cases ht
 . cases h with
   | brk=>exact hp
   | agn=>exact hp
   | _=>exact nomatch (show false=true from QL hc)
 . subst e;exact ⟨hp.2.1,λ t ht=>(hp.2.2.2 t ht).1⟩
def FO {o:Int} {FN WD:Ω}:∀ (ds:List (nY×Nat)),(∀ d∈ds,mm (PP o FN WD) 5 false d.1.bd d.2/\d.1.ps.length<=6/\strOk d.1.nm=true/\∀ x∈d.1.ps,strOk x=true)->(ds.map (·.2)).sum<=63->∃ qs:List Dq,qs.map (·.1)=ds.map (·.1)/\(∀ q∈qs,GD FN q/\(∀ i∈q.2,∃ wh,PP o FN WD wh i.2.1)/\∃ sp,xI q.2 sp/\aO 7 [.list (c7 q.1.bd),gH [],.none]=some (.list sp)/\IsL (dS (c7 q.1.bd)) [] q.2)/\gN qs=(ds.map (·.2)).sum+ds.length
 | [],_,_=>⟨[],rfl,(λ q hq=>absurd hq QR),rfl⟩
 | d::ds,h,hs=>by
  simp only [QT,sum_cons] at hs;obtain ⟨g,hp,_⟩:=h d (by simp);obtain ⟨is,l,gi,e,es⟩:=vQ (wh:=false) g (by omega) (by omega);obtain ⟨qs,h1,h2,h3⟩:=FO ds (λ x hx=>h x (by simp [hx])) (by omega);refine ⟨(d.1,is)::qs,by simp [h1],λ q hq=>?_,?_⟩
  . rcases QE.mp hq with rfl | hq
    . exact ⟨⟨e,λ i hi=>⟨by obtain ⟨wh,a,b⟩:=(gi i hi).p;exact ⟨wh,M9 a,b⟩,(gi i hi).l⟩,hp⟩,(λ i hi=>by obtain ⟨wh,a,_⟩:=(gi i hi).p;exact ⟨wh,a⟩),es⟩
    . exact h2 q hq
  . have:gN ((d.1,is)::qs)=is.length+1+gN qs:=by simp [gN]
    rw [this,h3,l];simp only [QT,sum_cons,QY];omega
structure QG (o:Int) (FN WD:Ω) (q:Dq):Prop where
 gd:GD FN q
 pp:∀ i∈q.2,∃ wh,PP o FN WD wh i.2.1
 sp:∃ sp,xI q.2 sp/\aO 7 [.list (c7 q.1.bd),gH [],.none]=some (.list sp)
 il:IsL (dS (c7 q.1.bd)) [] q.2
 nm:strOk q.1.nm=true
 ps:∀ x∈q.1.ps,strOk x=true
def zA (ns:List Int) (h:ns.length<=63):∃ (o:Int) (FN WD:Ω) (qs:List Dq),fO [.list (ns.map .int)]=some (.list (qs.map λ q=>dh q.1))/\(∀ q∈qs,QG o FN WD q)/\(∀ f,f∈FN↔f∈qs.map (·.1.nm))/\gN qs<=70/\qs.length<=10/\HF 0 (qs.map (·.1)):=by
 have z4:=sz 4 (by decide);obtain ⟨c0,ec0⟩:=ox ns 0;obtain ⟨m0,em0,_⟩:=gp c0 77 (by decide);obtain ⟨c1,ec1⟩:=ox ns 1;obtain ⟨m1,em1,_⟩:=gp c1 1 (by decide);obtain ⟨N,eN,lN,kN⟩:=wZ m1;let WD:Ω:=[Str.ofString "sum", Str.ofString "most", Str.ofString "least", Str.ofString "ahead"]
 have wo:∀ f∈WD,strOk f=true:=by decide +kernel
 obtain ⟨o,eo⟩:∃ o:Int,gz [W.int 0,.int 1,.int 3,.int 12] (m0.fmod 4)=some (.int o):=by
  have:=cY m0 (j:=4) (by decide);have:m0.fmod 4=0∨m0.fmod 4=1∨m0.fmod 4=2∨m0.fmod 4=3:=by omega
  rcases this with e | e | e | e <;> rw [e] <;> exact ⟨_,rfl⟩
 obtain ⟨ds,ep,dl,dg,dsum,dln⟩:=BJ ns h lN kN o (WD:=WD) (by simp [WD]) wo;obtain ⟨qs,q1,q2,q3⟩:=FO ds dg dsum;have ql:qs.length=ds.length:=by have:=Q9 List.length q1;simpa using this
 have pe:(ds.map λ d=>dh d.1)=qs.map λ q=>dh q.1:=by
  have:(ds.map λ d=>dh d.1)=(ds.map (·.1)).map dh:=by simp [Ry,RC]
  rw [this,<-q1];simp [Ry,RC]
 have hd:∀ q∈qs,∃ d∈ds,d.1=q.1:=λ q hq=>by
  have:q.1∈ds.map (·.1):=by rw [<-q1];exact SD hq
  obtain ⟨d,h1,h2⟩:=Q7.mp this;exact ⟨d,h1,h2⟩
 rw [pe] at ep;refine ⟨o,ds.map (·.1.nm),WD,qs,?_,λ q hq=>?_,λ f=>?_,by omega,by omega,by rw [q1];exact dln⟩
 . let scr:W:=.list (ns.map .int);have md:=CB m0 (j:=4) (by decide);refine aZ rfl ?_;refine ao (δ1:=[.val scr,.val (.int m0),.no]) (aQ (iz (Cy (iz (Cy rfl rfl) ec0) rfl) em0) rfl) ?_;refine ao (δ1:=[.val scr,.val (.int m0),.val (.list (N.map .str))]) (aQ (iz (jI (iz (Cy (iz (Cy rfl rfl) ec1) rfl) em1) rfl) eN) rfl) ?_;have l1:bc (bu #[!0,!1,!3,!12]) [.val scr,.val (.int m0),.val (.list (N.map .str))]=some (.list [.int 0,.int 1,.int 3,.int 12]):=by first | rfl | simp! [uD,QF z4]
   have l2:bc (bu #[!"sum",!"most",!"least",!"ahead"]) [.val scr,.val (.int m0),.val (.list (N.map .str))]=some (.list (WD.map .str)):=by simp! [uD,QF z4];rfl
   exact Q9 (Option.map dJ.rt) (iz (jI rfl (jI rfl (jI (rj l1 (dO rfl rfl md) eo) (jI l2 (jI rfl rfl))))) ep)
 . obtain ⟨a,b,sp,c1,c2,c3⟩:=q2 q hq;obtain ⟨d,h1,h2⟩:=hd q hq;obtain ⟨_,_,n1,p1⟩:=dg d h1;rw [h2] at n1 p1;exact ⟨a,b,⟨sp,c1,c2⟩,c3,n1,p1⟩
 . have e:ds.map (·.1.nm)=(ds.map (·.1)).map (·.nm):=by simp [Ry,RC]
   rw [e,<-q1,Ry];rfl
instance qA (k:List aB):Prop:=∀ s,Sum.inr s∈k->strOk s=true
def Nx:strOk (Str.ofString "def")=true/\strOk (Str.ofString "back")=true/\strOk (Str.ofString "row")=true/\strOk (Str.ofString "name")=true:=by decide +kernel
def y4:qA []:=λ _ h=>absurd h QR
def sU {nm:Str} (h:strOk nm=true):qA (iD nm):=λ s hs=>by
 simp only [iD,QE,Sum.inr.injEq,QR,Ss] at hs;rcases hs with rfl | rfl
 . exact Nx.1
 . exact h
def wL {nm:Str} (h:strOk nm=true):qA (kK nm):=λ s hs=>by
 simp only [kK,QE,Sum.inr.injEq,QR,Ss] at hs;rcases hs with rfl | rfl
 . exact Nx.2.1
 . exact h
def CK (k:Int):qA (nh k):=λ s hs=>by
 simp only [nh,QE,Sum.inr.injEq,QR,Ss,reduceCtorEq] at hs;rw [hs];exact Nx.2.2.1
def Bl {nm x:Str} (h:strOk nm=true) (h':strOk x=true):qA (jO nm x):=λ s hs=>by
 simp only [jO,QE,Sum.inr.injEq,QR,Ss] at hs;rcases hs with rfl | rfl | rfl
 . exact Nx.2.2.2
 . exact h
 . exact h'
def oJ {k:List aB} (h:qA k):dj (k.map jc)=true:=gR λ d hd=>by
 obtain ⟨y,hy,rfl⟩:=Q7.mp hd;cases y with
 | inl i=>rfl
 | inr s=>exact h s hy
def ut (k:List aB):cz (k.map jc)=0:=by
 have:cz (k.map jc)<=0:=j1 λ d hd=>by
  obtain ⟨y,hy,rfl⟩:=Q7.mp hd;cases y <;> exact QH _
 omega
def GO {k:List aB} (h:qA k):iU (cW k)=true/\cU (cW k)<=1:=by
 unfold cW;split
 . exact ⟨rfl,by simp [cU]⟩
 . exact ⟨oJ h,by simp [cO,cU,ut]⟩
instance jH:aB->PyData
 | .inl i=>.int i
 | .inr s=>.str s
def lH:∀ k:List aB,W.pys (k.map jc)=some (k.map jH)
 | []=>rfl
 | .inl i::k=>by simp [W.pys,W.py,jc,jH,lH k]
 | .inr i::k=>by simp [W.pys,W.py,jc,jH,lH k]
def AA:∀ k k':List aB,eqvAll (k.map jH) (k'.map jH)=true->k=k'
 | [],[],_=>rfl
 | [],y::k',h=>by simp [eqvAll] at h
 | x::k,[],h=>by simp [eqvAll] at h
 | x::k,y::k',h=>by
  simp only [QT,eqvAll,Rb] at h;have:=AA k k' h.2;rw [this];congr 1;cases x <;> cases y <;> simp [jH,PyData.eqv] at h
  . rw [h.1]
  . rw [h.1]
def Kz {k k':List aB} (h:qA k) (h':qA k'):∃ b,bp (cO k) (cO k')=some b/\(b=true->k=k'):=by
 obtain ⟨xs,e1,e2,e3,_⟩:=gE _ (oJ h);obtain ⟨ys,f1,f2,_⟩:=gE _ (oJ h');rw [lH] at e1 f1;cases e1;cases f1;rw [ut] at e3;refine ⟨eqvAll (k.map jH) (k'.map jH),?_,AA k k'⟩;have p1:(cO k).py=some (.tuple (k.map jH)):=by simp [cO,W.py,lH]
 have p2:(cO k').py=some (.tuple (k'.map jH)):=by simp [cO,W.py,lH]
 have sc:JV (cO k) (cO k')=none:=rfl;unfold bp;rw [sc];simp only [p1,p2,QC,canLay0,e2,f2,PyData.depth,e3,PyData.eqv];rfl
def KI {ln ln':Int} {ck:List aB} {nm:Str} (h:qA ck) (h':strOk nm=true):∃ b,bp (.tuple [.int ln,cW ck]) (.tuple [.int ln',oe nm])=some b/\(b=true->ck=iD nm):=by
 obtain ⟨ys,f1,f2,f3,_⟩:=gE _ (oJ (sU h'));rw [lH] at f1;cases f1;have p2:(oe nm).py=some (.tuple ((iD nm).map jH)):=by
  show (W.tuple ((iD nm).map jc)).py=_;simp [W.py,lH]
 have c2:canLay0 (.tuple ((iD nm).map jH))=true:=by simpa [canLay0] using f2
 have sc:JV (.tuple [.int ln,cW ck]) (.tuple [.int ln',oe nm])=none:=rfl;unfold bp;rw [sc];by_cases hk:ck=[]
 . subst hk;refine ⟨false,?_,λ z=>by cases z⟩;simp only [cW,RW,W.py,W.pys,p2,QC,QI,canLay0,canLayAll0,f2,PyData.depth,PyData.depthAll,PyData.eqv,eqvAll,Bool.false_and,Bool.and_false];rfl
 . obtain ⟨xs,e1,e2,e3,_⟩:=gE _ (oJ h);rw [lH] at e1;cases e1;rw [ut] at e3;have c1:cW ck=cO ck:=QS hk;have p1:(cO ck).py=some (.tuple (ck.map jH)):=by simp [cO,W.py,lH]
   have d1:canLay0 (.tuple (ck.map jH))=true:=by simpa [canLay0] using e2
   rw [c1];refine ⟨eqvAll [.int ln,.tuple (ck.map jH)] [.int ln',.tuple ((iD nm).map jH)],?_,λ z=>?_⟩
   . simp only [W.py,W.pys,p1,p2,QC,QI,canLay0,canLayAll0,e2,f2,PyData.depth,PyData.depthAll,e3,PyData.eqv];rfl
   . simp only [eqvAll,PyData.eqv,Rb] at z;exact AA _ _ z.2.1
def ED {c:W} {ws:List W} (h:∀ w∈ws,iU w=true) (hd:cU c<=60) (hc:c∈ws):kR c (.list ws)=some true:=by
 have oc:=h c hc;unfold kR;cases e:jf c (.list ws) with
 | some b=>
  obtain ⟨ds,e1,e⟩:=oB e
  cases (show some ws=some ds from e1);obtain ⟨v,e2,e⟩:=oB e
  obtain ⟨vs,e3,rfl⟩:=oM e
  have:∀ (l:List W) (us:List V),rY l=some us->c∈l->v∈us:=λ l=>by
   induction l with
   | nil=>intro us _ z;cases z
   | cons d l ih=>
    intro us q z;obtain ⟨u,q1,q⟩:=oB q
    obtain ⟨us',q2,rfl⟩:=oM q
    rcases QE.mp z with rfl | z
    . rw [e2] at q1;cases q1;exact Rf
    . exact Rj _ (ih us' q2 z)
  have m:=this ws vs e3 hc;refine Q9 some (Sg.mpr ⟨v,m,?_⟩);cases c <;> cases e2 <;> simp [CI]
 | none=>
  obtain ⟨x,p1,p2,p3,p4⟩:=si c oc;obtain ⟨ys,q1,q2,_⟩:=gE ws (gR h);have pm:∀ (l:List W) (zs:List PyData),W.pys l=some zs->c∈l->x∈zs:=λ l=>by
   induction l with
   | nil=>intro us _ z;cases z
   | cons d l ih=>
    intro us q z;obtain ⟨u,r1,q⟩:=oB q
    obtain ⟨us',r2,rfl⟩:=oM q
    rcases QE.mp z with rfl | z
    . rw [p1] at r1;cases r1;exact Rf
    . exact Rj _ (ih us' r2 z)
  have an:(ys.any λ y=>PyData.eqv y x)=true:=Sg.mpr ⟨x,pm ws ys q1 hc,p4⟩;have dx:decide (x.depth<=60)=true:=QL (by rw [p3];exact hd);simp only [jD,QC,p1,q1,p2,q2,dx,Bool.and_self,RW,an]
def r9 {g:W->W->Option W} {fa fb:ζ} {δ:DS} {S S1 S2:ak} {x y z:W} (h1:fa δ S=some (.ok x,S1)) (h2:fb δ S1=some (.ok y,S2)) (h3:g x y=some z):EY g fa fb δ S=some (.ok z,S2):=by
 simp only [EY,h1,h2,au,h3,fN,QI]
def j8:∀ ks:List aB,n9 (ks.map jc)=some ks
 | []=>rfl
 | .inl a::ks=>by show (some _).bind _=_;simp only [QC,j8 ks,QI]
 | .inr a::ks=>by show (some _).bind _=_;simp only [QC,j8 ks,QI]
def vU {p q:DS->Option Bool} {δ:DS} {a b:Bool} (h1:p δ=some a) (h2:q δ=some b):kj p q δ=some (a||b):=by
 cases a with
 | true=>simp! [uD,h1,Bool.true_or]
 | false=>simp! [uD,h1,h2,Bool.false_or]
def KJ {p q:DS->Option Bool} {δ:DS} {a b:Bool} (h1:p δ=some a) (h2:q δ=some b):gL p q δ=some (a&&b):=by
 cases a with
 | true=>simp! [uD,h1,h2,Bool.true_and]
 | false=>simp! [uD,h1,Bool.false_and]
def vf {g:μ} {δ:DS} {w:W} (h:g δ=some w):bc (bu #[g]) δ=some (.list [w]):=by
 have z1:=sz 1 (by decide);simp only [bc,bu,jI h (g:=ag) (l:=[]) rfl,QC,RK,QF z1,QI]
def PH:∀ k:Fin 3,(decide (qJ k=Str.ofString "lane")||decide (qJ k=Str.ofString "mine"))=(k==0||k==2):=by decide +kernel
def Q6:∀ k:Fin 7,(decide (uE k=Str.ofString "lane")||decide (uE k=Str.ofString "mine"))=false:=by decide +kernel
def OR:(decide (Str.ofString "num" = Str.ofString "lane")||decide (Str.ofString "num" = Str.ofString "mine"))=false/\(decide (Str.ofString "name" = Str.ofString "lane")||decide (Str.ofString "name" = Str.ofString "mine"))=false/\(decide (Str.ofString "box" = Str.ofString "lane")||decide (Str.ofString "box" = Str.ofString "mine"))=false:=by decide +kernel
section
variable {S:ak} {f:Nat} {F:ν}
def Bd {δ:DS} {fk fo:μ} {k:List aB} (hf:S[f]?=some (.dT F)) (h1:fk δ=some (cO k)) (h2:fo δ=some (.ref f)):gZ false (ab fk) (ab fo) δ S=some (.ok (pT F k),S):=by
 simp only [gZ,ai h1,ai h2,au,pj hf (show eX (cO k)=some k from j8 k),QI,fN,pT];rfl
def rM (hf:S[f]?=some (.dT F)):∀ (ks:List (List aB)),cj (af 1) (gZ false (ab (ae 1)) (ab (ae 0))) (ab (ae 1)) [.val (.ref f),.no] (ks.map cO) S=some (.ok ((ks.filter (pT F)).map cO),S)
 | []=>rfl
 | k::ks=>by
  have ih:=rM hf ks;have c:gZ false (ab (ae 1)) (ab (ae 0)) [.val (.ref f),.val (cO k)] S=some (.ok (pT F k),S):=Bd hf rfl rfl;show au (gZ false (ab (ae 1)) (ab (ae 0)) [.val (.ref f),.val (cO k)] S) _=_;rw [c];cases hb:pT F k with
  | true=>
   rw [List.filter_cons_of_pos hb];show au (cj _ _ _ _ (ks.map cO) S) _=_;rw [ih];rfl
  | false=>
   rw [List.filter_cons_of_neg (by simp [hb])];exact ih
instance jZ (F:ν) (nm:Str):Tr->List (List aB)
 | .num _=>[]
 | .sig k=>if (k==0||k==2)=true then [[]] else []
 | .nam x=>[jO nm x].filter (pT F)
 | .box t=>jZ F nm t
 | .op _ a b=>jZ F nm a++jZ F nm b
def fM (nm:Str):∀ t,(jZ F nm t).length<=jP t
 | .num _=>by simp [jZ]
 | .sig k=>by simp only [jZ,jP];split <;> simp
 | .nam x=>by simp only [jZ,jP];exact Rh (Se _ _) (by simp)
 | .box t=>by have:=fM nm t;simp only [jZ,jP];omega
 | .op _ a b=>by have:=fM nm a;have:=fM nm b;simp only [jZ,jP,QO];omega
def jA {nm:Str}:∀ (t:Tr),own t=true->[]∈jZ F nm t
 | .num _,h=>by cases h
 | .sig k,h=>by
  have:(k==0||k==2)=true:=by simpa [own,fK,jG] using h
  simp [jZ,this]
 | .nam x,h=>by cases h
 | .box t,h=>jA t h
 | .op k a b,h=>by
  simp only [own,fK,List.any_append,SK] at h;rcases h with (h | h) | (h | h)
  . exact QK.mpr (.inl (jA a (by simp [own,h])))
  . exact QK.mpr (.inr (jA b (by simp [own,h])))
  . exact QK.mpr (.inl (jA a (by simp [own,h])))
  . exact QK.mpr (.inr (jA b (by simp [own,h])))
def oo {nm y:Str} (hy:pT F (jO nm y)=true):∀ (t:Tr),y∈tW t->jO nm y∈jZ F nm t
 | .num _,h=>by cases h
 | .sig k,h=>by cases h
 | .nam x,h=>by
  have:y=x:=by simpa [tW,Bn,fK] using h
  subst this;exact Rq.mpr ⟨QD.mpr rfl,hy⟩
 | .box t,h=>oo hy t h
 | .op k a b,h=>by
  rw [sZ] at h;exact QK.mpr ((QK.mp h).imp (oo hy a) (oo hy b))
def oN {nm:Str} {t:Tr} {p:W×List aB} (hp:p∈mM nm t) (hc:tU F p.2):p.2∈jZ F nm t:=by
 unfold mM at hp;split at hp
 . rename_i ho;rw [QD.mp hp];exact jA t ho
 . obtain ⟨y,hy,rfl⟩:=Q7.mp hp;exact oo (hc.resolve_left (by simp [jO])) t hy
def jo {nm:Str} (hn:strOk nm=true):∀ (t:Tr),D6 t->∀ k∈jZ F nm t,qA k
 | .num _,_,k,h=>by cases h
 | .sig j,_,k,h=>by
  simp only [jZ] at h;split at h
  . rw [QD.mp h];exact y4
  . cases h
 | .nam x,ho,k,h=>by
  have:=(Rq.mp h).1;rw [QD.mp this];exact Bl hn (ho x (by simp [tW,Bn,fK]))
 | .box t,ho,k,h=>jo hn t (λ x hx=>ho x hx) k h
 | .op j a b,ho,k,h=>(QK.mp h).elim (jo hn a (rJ ho).1 k) (jo hn b (rJ ho).2 k)
def rP {pf:List W->ak->SM W} {nm:Str} {s2:Sl} {acc ks:List W} {d:W} (h:pf [.ref f,.str nm,d] S=some (.ok (.list ks),S)) (hl:acc.length+ks.length<=9000):fG pf [.val (.ref f),.val (.str nm),s2,.val (.list acc),.val d] S=some (.nx [.val (.ref f),.val (.str nm),s2,.val (.list (acc++ks)),.val d],S):=
 be (r9 (S1:=S) rfl (bE (S1:=S) (ds:=[.ref f,.str nm,d]) rfl h) (fI (sz _ hl))) rfl
def tm {n:Nat} {nm w:Str} {ps ks:List W} {s4:Sl} (h1:(decide (w=Str.ofString "lane")||decide (w=Str.ofString "mine"))=false) (h2:decide (w=Str.ofString "name")=false) (h3:decide (w=Str.ofString "num")=false) (h:bv (af 4) (fG (aW n)) ps [.val (.ref f),.val (.str nm),.val (.tuple (.str w::ps)),.val (.list []),.no] S=some (.nx [.val (.ref f),.val (.str nm),.val (.tuple (.str w::ps)),.val (.list ks),s4],S)):aW (n+1) [.ref f,.str nm,.tuple (.str w::ps)] S=some (.ok (.list ks),S):=by
 let δ (s3 s4:Sl):DS:=[.val (.ref f),.val (.str nm),.val (.tuple (.str w::ps)),s3,s4]
 have a0 (s3 s4:Sl):2[0]! (δ s3 s4)=some (.str w):=x0 rfl;unfold aW;refine (bg rfl).trans ((Q9 eM (?_:_=some (.rt (.list ks),S))).trans rfl);refine (ah (δ':=δ .no .no) (S':=S) (aH (aJ (b:=false) ((vU (tD (a0 _ _)) (tD (a0 _ _))).trans (Q9 some h1)) rfl))).trans ?_;refine (cF (a0 _ _) h2).trans ?_;refine (ah (δ':=δ (.val (.list [])) .no) (S':=S) (aH rfl)).trans ?_;have q:bp (.str w) (.str "num")=some (decide (w=Str.ofString "num")):=tD (f:=dC (.str w)) (δ:=δ .no .no) rfl;rw [h3] at q;have c1:ay rS 2[0]! (!"num") (δ (.val (.list [])) .no)=some true:=pS (a0 _ _) rfl (by rw [rS,q];rfl);refine (ah (δ':=δ (.val (.list ks)) s4) (S':=S) ((c6 (ai c1)).trans ((bT (S1:=S) (ds:=ps) (ai ?_)).trans h))).trans rfl;first | rfl | simp! [δ,uD,nQ,y0]
def fq (hf:S[f]?=some (.dT F)) (nm:Str):∀ (t:Tr) (n:Nat),qe t<n->jP t<=100->aW n [.ref f,.str nm,tw t] S=some (.ok (.list ((jZ F nm t).map cW)),S)
 | _,0,h,_=>absurd h (not_lt_zero _)
 | .num v,n+1,_,_=>by
  let δ (s3:Sl):DS:=[.val (.ref f),.val (.str nm),.val (tw (.num v)),s3,.no]
  have a0 (s3:Sl):2[0]! (δ s3)=some (.str "num"):=x0 rfl;unfold aW;refine (bg rfl).trans ((Q9 eM (?_:_=some (.rt (.list []),S))).trans rfl);refine (ah (δ':=δ .no) (S':=S) (aH (aJ (b:=false) ((vU (tD (a0 _)) (tD (a0 _))).trans (Q9 some OR.1)) rfl))).trans ?_;refine (cF (a0 _) P3).trans ?_;refine (ah (δ':=δ (.val (.list []))) (S':=S) (aH rfl)).trans ?_;exact (ah (δ':=δ (.val (.list []))) (S':=S) ((bi (ai (pS (r:=false) (a0 _) rfl rfl))).trans rfl)).trans rfl
 | .sig k,n+1,_,_=>by
  cases hk:(k==0||k==2) with
  | true=>
   let δ:DS:=[.val (.ref f),.val (.str nm),.val (tw (.sig k)),.no,.no]
   have a0:2[0]! δ=some (.str (qJ k)):=x0 rfl;have e:jZ F nm (.sig k)=[[]]:=QF hk;rw [e];unfold aW;refine (bg rfl).trans ((Q9 eM (?_:_=some (.rt (.list [.none]),S))).trans rfl);exact bw (δ:=δ) (cq (aJ (b:=true) ((vU (tD a0) (tD a0)).trans (Q9 some ((PH k).trans hk))) (show aN (bc (bu #[dC .none])) δ=_ from bq (vf rfl))))
  | false=>
   have e:jZ F nm (.sig k)=[]:=QS (by rw [hk];simp);rw [e];exact tm (ks:=[]) (s4:=.no) ((PH k).trans hk) (P2 k) (Qc k) rfl
 | .nam x,n+1,_,_=>by
  let δ:DS:=[.val (.ref f),.val (.str nm),.val (tw (.nam x)),.no,.no]
  have a0:2[0]! δ=some (.str "name"):=x0 rfl;have cm:([jO nm x].filter (pT F)).map cW=([jO nm x].filter (pT F)).map cO:=map_congr_left λ k hk=>by
   rw [QD.mp (Rq.mp hk).1];rfl
  show _=some (Rs.ok (W.list (([jO nm x].filter (pT F)).map cW)),S);rw [cm];unfold aW;refine (bg rfl).trans ((Q9 eM (?_:_=some (.rt (.list (([jO nm x].filter (pT F)).map cO)),S))).trans rfl);refine (ah (δ':=δ) (S':=S) (aH (aJ (b:=false) ((vU (tD a0) (tD a0)).trans (Q9 some OR.2.1)) rfl))).trans ?_;refine bw ((fT a0).trans (cf (oR (ix:=[some 0,none]) (S:=S) (S0:=S) (ds:=[jO nm x].map cO) (ai ?_) (sz _ (by simp)) (rM hf _))));unfold bA;rw [vf (vM rfl rfl (x1 rfl))];rfl
 | .box t,n+1,h,hc=>by
  have ih:=fq hf nm t n (by simp only [qe] at h;omega) (by simp only [jP] at hc;omega);have hl:=fM (F:=F) nm t;simp only [jP] at hc;exact tm (w:=Str.ofString "box") (ps:=[tw t]) (s4:=.val (tw t)) OR.2.2 PJ Qi ((bm (δ2:=[.val (.ref f),.val (.str nm),.val (tw (.box t)),.val (.list []),.val (tw t)]) rfl (rP ih (by simp;omega))).trans rfl)
 | .op k a b,n+1,h,hc=>by
  simp only [jP] at hc;have ia:=fq hf nm a n (by simp only [qe] at h;omega) (by omega);have ib:=fq hf nm b n (by simp only [qe] at h;omega) (by omega);have la:=fM (F:=F) nm a;have lb:=fM (F:=F) nm b;have e:(jZ F nm (.op k a b)).map cW=(jZ F nm a).map cW++(jZ F nm b).map cW:=by simp [jZ]
  rw [e];exact tm (w:=uE k) (ps:=[tw a,tw b]) (s4:=.val (tw b)) (Q6 k) (PL k) (Qu k) ((bm (δ2:=[.val (.ref f),.val (.str nm),.val (tw (.op k a b)),.val (.list []),.val (tw a)]) rfl (rP ia (by simp;omega))).trans ((bm (δ2:=[.val (.ref f),.val (.str nm),.val (tw (.op k a b)),.val (.list ((jZ F nm a).map cW)),.val (tw b)]) rfl (rP ib (by simp;omega))).trans rfl))
instance Ky (nm:Str) (ar:ω):List (List aB):=iD nm::ar.map λ b=>nh b.1
instance vH (F:ν) (nm:Str) (ar:ω):List (List aB):=(Ky nm ar).filter (pT F)
def nX {nm:Str} {ar:ω} {p:W×List aB} (hp:p∈eY nm ar) (hc:tU F p.2):p.2∈vH F nm ar:=by
 unfold eY at hp;rcases QE.mp hp with rfl | hp
 . exact Rq.mpr ⟨Rf,hc.resolve_left (by simp [iD])⟩
 . obtain ⟨b,hb,rfl⟩:=Q7.mp hp;exact Rq.mpr ⟨Rj _ (Q7.mpr ⟨b,hb,rfl⟩),hc.resolve_left (by simp [nh])⟩
def A3 {nm:Str} (hn:strOk nm=true) (ar:ω):∀ k∈vH F nm ar,qA k/\k≠[]:=λ k hk=>by
 rcases QE.mp (Rq.mp hk).1 with rfl | hk
 . exact ⟨sU hn,by simp [iD]⟩
 . obtain ⟨b,_,rfl⟩:=Q7.mp hk;exact ⟨CK _,by simp [nh]⟩
def Fk (nm:Str) (ar:ω):(vH F nm ar).length<=ar.length+1:=Rh (Se _ _) (by simp [Ky])
def ya:∀ (ar:ω),b9 (af 0) jj (aK #[!"row",ae 0]) [.no] (ar.map λ b=>.int b.1)=some ((ar.map λ b=>nh b.1).map cO)
 | []=>rfl
 | b::ar=>by
  have ih:=ya ar;have z2:=sz 2 (by decide);first | rfl | (simp! [QT,b9,uD,QF z2,ih];rfl)
def uF (hf:S[f]?=some (.dT F)) (nm:Str) (ar:ω) (hl:ar.length<=100):d8 [.ref f,.str nm,gH ar] S=some (.ok (.list ((vH F nm ar).map cO)),S):=by
 let δ (s3:Sl):DS:=[.val (.ref f),.val (.str nm),.val (gH ar),s3]
 refine (bg rfl).trans ((Q9 eM (?_:_=some (.rt (.list ((vH F nm ar).map cO)),S))).trans rfl);refine (ah (δ':=δ (.val (.list ((Ky nm ar).map cO)))) (S':=S) (aH (aQ (dO (vf (w:=cO (iD nm)) (j4 rfl rfl)) (Ke (ds:=ar.map λ b=>.int b.1) rfl (by simp;omega) (ya ar)) (fI (sz _ (by simp;omega)))) rfl))).trans ?_;exact cf (oR (ix:=[some 0,none]) (S:=S) (S0:=S) (ds:=(Ky nm ar).map cO) (ai rfl) (sz _ (by simp [Ky];omega)) (rM hf _))
end
section
variable {S:ak} {f rm:Nat} {F:ν} {nm g p:Str} {k:Int} {ar:ω} {pO:Str->Ω}
instance mX (k:Int) (h:Hd) (ar:ω):W:=.tuple [cD k h,gH ar,sY ar]
instance Hm (f:Nat) (g p nm:Str) (k:Int) (h:Hd) (ar:ω) (ps:Ω) (acc:List (List aB)) (s9 s10:Sl):DS:=[.val (.ref f),.val (mj g p),.val (.str nm),.val (mX k h ar),.val (.list (ps.map .str)),.val (cD k h),.val (gH ar),.val (sY ar),.val (.list (acc.map cW)),s9,s10]
instance nL (F:ν) (nm p:Str) (l:List (Str×Tr)):List (List aB):=l.flatMap λ q=>if q.1=p then jZ F nm q.2 else []
def uG:∀ l:List (Str×Tr),(∀ q∈l,gd q.2 7 5)->(nL F nm p l).length<=5*l.length
 | [],_=>by simp [nL]
 | q::l,h=>by
  have ih:=uG l λ r hr=>h r (by simp [hr]);have a:=fM (F:=F) nm q.2;have b:=(h q (by simp)).2.1;have e:nL F nm p (q::l)=(if q.1=p then jZ F nm q.2 else [])++nL F nm p l:=rfl;rw [e,QO,QY];split <;> simp <;> omega
def oF (a b:List (List aB)):a.map cW++b.map cW=(a++b).map cW:=by simp
def Gm (a:List (List aB)) (k:List aB):a.map cW++[cW k]=(a++[k]).map cW:=by simp
def rC (hf:S[f]?=some (.dT F)) {h:Hd} {ps:Ω}:∀ (l:List (Str×Tr)) (acc:List (List aB)) (s9 s10:Sl),(∀ q∈l,gd q.2 7 5)->acc.length+5*l.length<=9000->∃ t9 t10,bv (bG 2 (aD (af 9) (aD (af 10) bJ))) dG (l.map λ q=>.tuple [.str q.1,tw q.2]) (Hm f g p nm k h ar ps acc s9 s10) S=some (.nx (Hm f g p nm k h ar ps (acc++nL F nm p l) t9 t10),S)
 | [],acc,s9,s10,_,_=>⟨s9,s10,by simp [nL,bv]⟩
 | q::l,acc,s9,s10,hg,hl=>by
  simp only [QY] at hl;have gq:=hg q (by simp);have w:=fq hf nm q.2 9 (by have:=gq.1;omega) (by have:=gq.2.1;omega);have wl:=fM (F:=F) nm q.2;have wc:=gq.2.1;let δ:DS:=Hm f g p nm k h ar ps acc (.val (.str q.1)) (.val (tw q.2));have c:ay bp (aq 9) 1[2]! δ=some (decide (q.1=p)):=pS rfl (x2 rfl) rfl;have e:nL F nm p (q::l)=(if q.1=p then jZ F nm q.2 else [])++nL F nm p l:=rfl;by_cases hq:q.1=p
  . obtain ⟨t9,t10,r⟩:=rC hf l (acc++jZ F nm q.2) (.val (.str q.1)) (.val (tw q.2)) (λ r hr=>hg r (by simp [hr])) (by rw [QO];omega);rw [QL hq] at c;rw [e,QF hq,<-Ru];refine ⟨t9,t10,(bm (δ2:=δ) (δ':=Hm f g p nm k h ar ps (acc++jZ F nm q.2) (.val (.str q.1)) (.val (tw q.2))) (S':=S) rfl ((c6 (ai c)).trans (be (r9 (S1:=S) rfl (bE (S1:=S) (ds:=[.ref f,.str nm,tw q.2]) rfl w) ((fI (sz _ (by simp;omega))).trans (by rw [oF]))) rfl))).trans r⟩
  . obtain ⟨t9,t10,r⟩:=rC hf l acc (.val (.str q.1)) (.val (tw q.2)) (λ r hr=>hg r (by simp [hr])) (by omega);rw [QJ hq] at c;rw [e,QS hq,SJ];exact ⟨t9,t10,(bm (δ2:=δ) (δ':=δ) (S':=S) rfl ((bi (ai c)).trans rfl)).trans r⟩
instance GM (F:ν) (nm g p:Str) (ps:Ω):Hd->List (List aB)
 | .call _ g' ts=>if g'=g then nL F nm p (ps.zip ts) else []
 | _=>[]
instance Jr (F:ν) (nm:Str):Hd->List (List aB)
 | .set _ t=>jZ F nm t
 | .call _ g' _=>if pT F (kK g')=true then [kK g'] else []
 | .join _ j _=>if j=Str.ofString "ahead" then [[]] else []
 | _=>[]
instance Ht (F:ν) (nm g p:Str) (ps:Ω) (h:Hd) (ar:ω):List (List aB):=GM F nm g p ps h++if nm=g/\qN h=some p then vH F nm ar++Jr F nm h else []
def ki':∀ i:Fin 12,fj (.str (dF i)) (.tuple [.str "set", .str "call", .str "join"])=some (!decide (i=0∨i=9∨i=8)):=λ i=>by rw [fj,(ki i).1];rfl
def OS {δ:DS}:aK #[!"set",!"call",!"join"] δ=some (.tuple [.str "set", .str "call", .str "join"]):=vM rfl rfl rfl
def yj (a b:Str):rS (.str a) (.str b)=some (!decide (a=b)):=rfl
def EC {F':ν} (hf:S[f]?=some (.dT F)) {h:Hd} {ps:Ω} {A:List (List aB)} {s9 s10:Sl} (hl:ar.length<=6) (hA:A.length<=100) (hc:aA h=0∨aA h=9∨aA h=8) (hg:∀ t∈Gu h,gd t 7 30):
 aC (cg (EY bB (ab (ae 8)) (bD d8 (ab #[ae 0,ae 2,ae 6]))) (af 8))
 (aC (bR (ab (ay bp 5[0]! !"set"))
  (dR (EY bB (ab (ae 8)) (bD (aW 9) (ab #[ae 0,ae 2,5[3]!]))))
  (aw az))
 (aC (bR (uu (ab (ay bp 5[0]! !"call")) (gZ false (ab (aK #[!"back",5[3]!])) (ab (ae 0))))
  (aw (aN (av bB (aq 8) (bc (bu #[aK #[!"back",5[3]!]])))))
  (aw az))
 (aC (aw (ci (gL (ay bp 5[0]! !"join") (ay bp 5[3]! !"ahead"))
  (aN (av bB (aq 8) (bc (bu #[dC .none]))))
  az))
 (aw (aN (ae 8)))))) (Hm f g p nm k h ar ps A s9 s10) S=some (.rt (.list ((A++(vH F nm ar++Jr F nm h)).map cW)),S):=by
 have wl:=Fk (F:=F) nm ar;have wc:(vH F nm ar).map cO=(vH F nm ar).map cW:=map_congr_left λ j hj=>by
  have:j≠[]:=by
   rcases QE.mp (Rq.mp hj).1 with rfl | hj
   . simp [iD]
   . obtain ⟨b,_,rfl⟩:=Q7.mp hj;simp [nh]
  exact (QS this).symm
 have wr:=uF hf nm ar (by omega);rw [wc] at wr;let B:=A++vH F nm ar;have lB:B.length<=110:=by simp [B];omega
 let δ:DS:=Hm f g p nm k h ar ps B s9 s10;refine (ah (δ':=δ) (S':=S) (be (r9 (S1:=S) rfl (bE (S1:=S) (ds:=[.ref f,.str nm,gH ar]) rfl wr) ((fI (sz _ (by simp;omega))).trans (by rw [oF]))) rfl)).trans ?_;have a0:5[0]! δ=some (.str (dF (aA h))):=x0 rfl;have ts:ay bp 5[0]! (!"set") δ=some (decide (aA h=0)):=(tD a0).trans (Q9 some (kq _).2.2.2.2.1);have tc:ay bp 5[0]! (!"call") δ=some (decide (aA h=9)):=(tD a0).trans (Q9 some (kq _).2.2.2.1);have tj:ay bp 5[0]! (!"join") δ=some (decide (aA h=8)):=(tD a0).trans (Q9 some (kq _).2.2.2.2.2);rw [<-Ru];cases h with
 | set x t=>
  have gt:=hg t (QD.mpr rfl);have w:=fq hf nm t 9 (by have:=gt.1;omega) (by have:=gt.2.1;omega);have l1:=fM (F:=F) nm t;have l2:=gt.2.1;exact bw ((c6 (ai ts)).trans (cf (r9 (S1:=S) rfl (bE (S1:=S) (ds:=[.ref f,.str nm,tw t]) (ai (vF rfl rfl (x3 rfl))) w) ((fI (sz _ (by simp;omega))).trans (by rw [oF];rfl)))))
 | call x g' us=>
  refine (ah (δ':=δ) (S':=S) ((bi (ai ts)).trans rfl)).trans ?_;have di:gZ false (ab (aK #[!"back",5[3]!])) (ab (ae 0)) δ S=some (.ok (pT F (kK g')),S):=Bd hf (k:=kK g') (j4 rfl (x3 rfl)) rfl;have e:Jr F nm (.call x g' us)=if pT F (kK g')=true then [kK g'] else []:=rfl
  cases hb:pT F (kK g') with
  | true=>
   rw [hb] at di;rw [e,QF hb];refine bw ((c6 (Bz (ai tc) di)).trans (cq (bq (dO rfl (vf (w:=cW (kK g')) (j4 rfl (x3 rfl))) ((fI (sz _ (by simp;omega))).trans (Q9 (λ l=>some (W.list l)) (Gm B (kK g'))))))))
  | false=>
   rw [hb] at di;rw [e,QS (by rw [hb];simp),Ra];refine (ah (δ':=δ) (S':=S) ((bi (Bz (ai tc) di)).trans rfl)).trans ?_;exact (ah (δ':=δ) (S':=S) (aH (aJ (b:=false) (Kj tj) rfl))).trans rfl
 | join x j t=>
  refine (ah (δ':=δ) (S':=S) ((bi (ai ts)).trans rfl)).trans ?_;refine (ah (δ':=δ) (S':=S) ((bi (Hv (ai tc))).trans rfl)).trans ?_;have e:Jr F nm (.join x j t)=if j=Str.ofString "ahead" then [[]] else []:=rfl
  have ta:ay bp 5[3]! (!"ahead") δ=some (decide (j=Str.ofString "ahead")):=tD (x3 rfl);by_cases hj:j=Str.ofString "ahead"
  . rw [QL hj] at ta;rw [e,QF hj];exact bw (cq (aJ (b:=true) (dA tj ta) (show aN _ δ=_ from bq (dO rfl (vf (w:=.none) rfl) ((fI (sz _ (by simp;omega))).trans (Q9 (λ l=>some (W.list l)) (Gm B [])))))))
  . rw [QJ hj] at ta;rw [e,QS hj,Ra];exact (ah (δ':=δ) (S':=S) (aH (aJ (b:=false) (dA tj ta) rfl))).trans rfl
 | _=>exact absurd hc (by simp [aA])
def IF (hf:S[f]?=some (.dT F)) {h:Hd} {ps:Ω} (hps:ps.length<=6) (hl:ar.length<=6) {FN:Ω} {wh:Bool} (hh:Hg FN wh h):eQ [.ref f,mj g p,.str nm,mX k h ar,.list (ps.map .str)] S=some (.ok (.list ((Ht F nm g p ps h ar).map cW)),S):=by
 obtain ⟨hg,_,hcl⟩:=hh;refine (bg rfl).trans ((Q9 eM (?_:_=some (.rt (.list ((Ht F nm g p ps h ar).map cW)),S))).trans rfl);refine (ah (δ':=[.val (.ref f),.val (mj g p),.val (.str nm),.val (mX k h ar),.val (.list (ps.map .str)),.val (cD k h),.val (gH ar),.val (sY ar),.no,.no,.no]) (S':=S) (aH rfl)).trans ?_;let δ (A:List (List aB)) (s9 s10:Sl):DS:=Hm f g p nm k h ar ps A s9 s10;refine (ah (δ':=δ [] .no .no) (S':=S) (aH rfl)).trans ?_;have a0 (A:List (List aB)) (s9 s10:Sl):5[0]! (δ A s9 s10)=some (.str (dF (aA h))):=x0 rfl;have tc:ay bp 5[0]! (!"call") (δ [] .no .no)=some (decide (aA h=9)):=(tD (a0 _ _ _)).trans (Q9 some (kq _).2.2.2.1);have step1:∃ s9 s10,bR (ab (gL (ay bp 5[0]! !"call") (ay bp 5[3]! 1[1]!)))
  (eC (ab (wg #[ae 4,5[4]!])) (bG 2 (aD (af 9) (aD (af 10) bJ))) dG)
  (aw az) (δ [] .no .no) S=some (.nx (δ (GM F nm g p ps h) s9 s10),S):=by
  cases h with
  | call x g' us=>
   have c2:ay bp 5[3]! 1[1]! (δ [] .no .no)=some (decide (g'=g)):=pS (x3 rfl) (x1 rfl) rfl;have e:GM F nm g p ps (.call x g' us)=if g'=g then nL F nm p (ps.zip us) else []:=rfl
   by_cases hq:g'=g
   . rw [QL hq] at c2;rw [e,QF hq];have lz:(ps.zip us).length<=6:=by rw [length_zip];omega
     obtain ⟨t9,t10,r⟩:=rC hf (g:=g) (p:=p) (nm:=nm) (k:=k) (ar:=ar) (h:=.call x g' us) (ps:=ps) (ps.zip us) [] .no .no (λ q hq=>(hcl x g' us rfl).2 _ (R9 hq).2) (by simp;omega);refine ⟨t9,t10,(c6 (ai (dA tc c2))).trans ((bT (S1:=S) (ds:=(ps.zip us).map λ q=>.tuple [.str q.1,tw q.2]) (ai ?_)).trans r)⟩;have q:#[ae 4,5[4]!] (δ [] .no .no)=some [.list (ps.map .str),.list (us.map tw)]:=Cy rfl (x4 rfl);simp only [wg,q,QC,tL]
   . rw [QJ hq] at c2;rw [e,QS hq];exact ⟨.no,.no,(bi (ai (dA tc c2))).trans rfl⟩
  | _=>exact ⟨.no,.no,(bi (ai (Kj tc))).trans rfl⟩
 obtain ⟨s9,s10,e1⟩:=step1;refine (ah e1).trans ?_;have lA:(GM F nm g p ps h).length<=60:=by
  cases h with
  | call x g' us=>
   have e:GM F nm g p ps (.call x g' us)=if g'=g then nL F nm p (ps.zip us) else []:=rfl
   rw [e];split
   . have:=uG (F:=F) (nm:=nm) (p:=p) (ps.zip us) (λ q hq=>(hcl x g' us rfl).2 _ (R9 hq).2);rw [length_zip] at this;omega
   . simp
  | _=>simp [GM]
 generalize hA:GM F nm g p ps h=A at lA;have n1:ay rS (aq 2) 1[1]! (δ A s9 s10)=some (!decide (nm=g)):=pS rfl (x1 rfl) (yj _ _);have n2:ay fj 5[0]! (aK #[!"set",!"call",!"join"]) (δ A s9 s10)=some (!decide (aA h=0∨aA h=9∨aA h=8)):=pS (a0 _ _ _) OS (ki' _);unfold Ht;rw [hA];by_cases hn:nm=g
 case neg=>
  rw [QS (λ z=>hn z.1),Ra];rw [QJ hn] at n1;exact bw (cq (aJ (b:=true) (zy n1) rfl))
 rw [QL hn] at n1;by_cases hc:aA h=0∨aA h=9∨aA h=8
 case neg=>
  have:qN h=none:=by
   cases h with
   | set x t=>exact absurd (.inl rfl) hc
   | call x t u=>exact absurd (.inr (.inl rfl)) hc
   | join x t u=>exact absurd (.inr (.inr rfl)) hc
   | _=>rfl
  rw [QS (λ z=>by rw [this] at z;cases z.2),Ra];rw [QJ hc] at n2;exact bw (cq (aJ (b:=true) (wQ n1 (zy n2)) rfl))
 rw [QL hc] at n2;obtain ⟨x,gx,d2⟩:∃ x,qN h=some x/\5[2]! (δ A s9 s10)=some (.str x):=by
  cases h with
  | set x t=>exact ⟨x,rfl,x2 rfl⟩
  | call x t u=>exact ⟨x,rfl,x2 rfl⟩
  | join x t u=>exact ⟨x,rfl,x2 rfl⟩
  | _=>exact absurd hc (by simp [aA])
 have n3:ay rS 5[2]! 1[2]! (δ A s9 s10)=some (!decide (x=p)):=pS d2 (x2 rfl) (yj _ _);by_cases hx:x=p
 . rw [QF ⟨hn,by rw [gx,hx]⟩];rw [QL hx] at n3;refine (ah (δ':=δ A s9 s10) (S':=S) (aH (aJ (b:=false) (wv n1 (wv n2 n3)) rfl))).trans ?_;exact EC (F':=F) hf hl (by omega) hc hg
 . rw [QS (λ z=>by rw [gx] at z;exact hx (Rv z.2)),Ra];rw [QJ hx] at n3;exact bw (cq (aJ (b:=true) (wQ n1 (wQ n2 n3)) rfl))
end
def kd:decide (Str.ofString "def" = Str.ofString "name")=false/\decide (Str.ofString "back" = Str.ofString "name")=false/\decide (Str.ofString "back" = Str.ofString "def")=false/\decide (Str.ofString "row" = Str.ofString "name")=false/\decide (Str.ofString "row" = Str.ofString "def")=false/\decide (Str.ofString "row" = Str.ofString "back")=false:=by decide +kernel
def PF:∀ i:Fin 12,decide (dF i=Str.ofString "break")=decide (i=4)/\decide (dF i=Str.ofString "again")=decide (i=5):=by decide +kernel
def dY {kc:List (W×List aB)} {kw:W} {kk:List aB} {ln:Int} {x:List aB×En} (h:x∈iw kc kw kk ln):∃ q∈kc,x=(q.2,(kw,kk,.int ln)):=by
 obtain ⟨q,h1,h2⟩:=Q7.mp h;exact ⟨q,h1,h2.symm⟩
def wK {ar:ω} (h:∃ b∈ar,ft b=true):∃ b∈ar,ft b=true/\b.1=cB ar/\sY ar=.int (cB ar):=by
 obtain ⟨b,hb,q⟩:=h;unfold cB sY;cases hq:((ar.filter ft).map (·.1)).getLast? with
 | none=>
  have:b∈ar.filter ft:=Rq.mpr ⟨hb,q⟩;have z:=List.getLast?_eq_none_iff.mp hq;rw [List.map_eq_nil_iff.mp z] at this;cases this
 | some k=>
  have:=List.mem_of_getLast? hq;obtain ⟨c,h1,h2⟩:=Q7.mp this;exact ⟨c,(Rq.mp h1).1,(Rq.mp h1).2,h2,rfl⟩
inductive KG (FN:Ω) (T:List Int):List aB->Prop
 | df {g:Str}:g∈FN->KG FN T (iD g)
 | ba {g:Str}:g∈FN->KG FN T (kK g)
 | nk {g y:Str}:g∈FN->strOk y=true->KG FN T (jO g y)
 | rw {l:Int}:l∈T->KG FN T (nh l)
def KG.ok {FN:Ω} {T:List Int} (hF:∀ f∈FN,strOk f=true) {kk:List aB} (h:KG FN T kk):qA kk:=by
 cases h with
 | df h=>exact sU (hF _ h)
 | ba h=>exact wL (hF _ h)
 | nk h h'=>exact Bl (hF _ h) h'
 | rw=>exact CK _
section
variable {S:ak} {f rm:Nat} {F:ν} {nm:Str} {k:Int} {ar:ω} {pO:Str->Ω} {kv:List (aB×W)} {FN:Ω} {h:Hd}
def J9 (hF:∀ f∈FN,strOk f=true) (hn:nm∈FN) {wh:Bool} (hh:Hg FN wh h) (g p:Str) (ps:Ω) (hl:ar.length<=6):∀ j∈Ht F nm g p ps h ar,qA j:=λ j hj=>by
 have sn:=hF nm hn;obtain ⟨hg,_,hc⟩:=hh;rcases QK.mp hj with hj | hj
 . cases h with
   | call x g' ts=>
    have e:GM F nm g p ps (.call x g' ts)=if g'=g then nL F nm p (ps.zip ts) else []:=rfl
    rw [e] at hj;split at hj
    . obtain ⟨q,hq,hj⟩:=Sq.mp hj;split at hj
      . exact jo sn q.2 ((hc x g' ts rfl).2 _ (R9 hq).2).2.2 j hj
      . cases hj
    . cases hj
   | _=>cases hj
 . split at hj
   . rcases QK.mp hj with hj | hj
     . exact (A3 sn ar j hj).1
     . cases h with
       | set x t=>exact jo sn t (hg t (QD.mpr rfl)).2.2 j hj
       | call x g' ts=>
        have e:Jr F nm (.call x g' ts)=if pT F (kK g')=true then [kK g'] else []:=rfl
        rw [e] at hj;split at hj
        . rw [QD.mp hj];exact wL (hF _ (hc x g' ts rfl).1)
        . cases hj
       | join x t u=>
        have e:Jr F nm (.join x t u)=if t=Str.ofString "ahead" then [[]] else []:=rfl
        rw [e] at hj;split at hj
        . rw [QD.mp hj];exact y4
        . cases hj
       | _=>cases hj
   . cases hj
instance DH (f:Nat) (kw:W) (nm:Str) (k:Int) (h:Hd) (ar:ω) (rm:Nat):DS:=[.val (.ref f),.val kw,.val (.str nm),.val (mX k h ar),.val (.ref rm),.val (cD k h),.val (gH ar),.val (sY ar)]
def oO {kw:W} {fb:τ} {ks:List W} (e:fb (DH f kw nm k h ar rm) S=some (.rt (.list ks),S)):cG 5 8 (aC (aw (aG (ae 3) (bG 3 (aD (af 5) (aD (af 6) (aD (af 7) bJ)))))) fb) [.ref f,kw,.str nm,mX k h ar,.ref rm] S=some (.ok (.list ks),S):=by
 refine (bg rfl).trans ((Q9 eM (?_:_=some (.rt (.list ks),S))).trans rfl);exact (ah (δ':=DH f kw nm k h ar rm) (S':=S) (aH rfl)).trans e
def Mo (hf:S[f]?=some (.dT F)) (hr:S[rm]?=some (.dK kv)) {g:Str} (p:Str) (hv:aX kv (Sum.inr g)=some (.list ((pO g).map .str))) (hp:(pO g).length<=6) (hl:ar.length<=6) {wh:Bool} (hh:Hg FN wh h):bL [.ref f,cO (jO g p),.str nm,mX k h ar,.ref rm] S=some (.ok (.list ((Ht F nm g p (pO g) h ar).map cW)),S):=by
 refine oO (bw ((fT (x0 rfl)).trans (cf ?_)));have gk:=wM (x:=g) hr;rw [hv] at gk;let δ:DS:=DH f (cO (jO g p)) nm k h ar rm;have g1:eG (ab (ae 4)) (ab 1[1]!) δ S=some (.ok (.list ((pO g).map .str)),S):=by
  have v2:ab (ae 4) δ S=some (.ok (.ref rm),S):=rfl;have a3:1[1]! δ=some (.str g):=x1 rfl;simp only [eG,v2,ai a3,au,gk,QC,fN,QI]
 have v (i:Nat) (w:W) (e:ae i δ=some w):ab (ae i) δ S=some (.ok w,S):=ai e;exact bE (S1:=S) (ds:=[.ref f,mj g p,.str nm,mX k h ar,.list ((pO g).map .str)]) (bo (v 0 _ rfl) (bo (v 1 _ rfl) (bo (v 2 _ rfl) (bo (v 3 _ rfl) (bo (g:=kS) g1 rfl))))) (IF hf hp hl hh)
def Aw (hf:S[f]?=some (.dT F)) (hl:ar.length<=6) {kw:W}:bD d8 (ab #[ae 0,ae 2,ae 6]) (DH f kw nm k h ar rm) S=some (.ok (.list ((vH F nm ar).map cW)),S):=by
 have wr:=uF hf nm ar (by omega);have wc:(vH F nm ar).map cO=(vH F nm ar).map cW:=map_congr_left λ j hj=>by
  have:j≠[]:=by
   rcases QE.mp (Rq.mp hj).1 with rfl | hj
   . simp [iD]
   . obtain ⟨b,_,rfl⟩:=Q7.mp hj;simp [nh]
  exact (QS this).symm
 rw [wc] at wr;exact bE (S1:=S) (ds:=[.ref f,.str nm,gH ar]) rfl wr
def Ma (hf:S[f]?=some (.dT F)) {kw:W} {t:Tr} (ht:gd t 7 30) (e:5[2]! (DH f kw nm k h ar rm)=some (tw t)):bD (aW 9) (ab #[ae 0,ae 2,5[2]!]) (DH f kw nm k h ar rm) S=some (.ok (.list ((jZ F nm t).map cW)),S):=
 bE (S1:=S) (ds:=[.ref f,.str nm,tw t]) (ai (vF rfl rfl e)) (fq hf nm t 9 (by have:=ht.1;omega) (by have:=ht.2.1;omega))
def zN {kw:W} {w:Str} {i:Fin 12} (q:decide (dF (aA h)=w)=decide (aA h=i)):ay bp 5[0]! (dC (.str w)) (DH f kw nm k h ar rm)=some (decide (aA h=i)):=(tD (x0 rfl)).trans (Q9 some q)
def FH (hf:S[f]?=some (.dT F)) (hl:ar.length<=6) {g:Str} (hh:(aA h=3/\nm=g)∨∃ x ts,h=.call x g ts):bL [.ref f,cO (iD g),.str nm,mX k h ar,.ref rm] S=some (.ok (.list ((vH F nm ar).map cW)),S):=by
 refine oO ((cF (x0 rfl) kd.1).trans (bw ((fT (x0 rfl)).trans (bw ((c6 (ai ?_)).trans (cf (Aw hf hl)))))));let δ:DS:=DH f (cO (iD g)) nm k h ar rm;have tr:ay bp 5[0]! (!"return") δ=some (decide (aA h=3)):=zN (kq _).2.2.1;have tc:ay bp 5[0]! (!"call") δ=some (decide (aA h=9)):=zN (kq _).2.2.2.1;rcases hh with ⟨h3,rfl⟩ | ⟨x,ts,rfl⟩
 . rw [QL h3] at tr;exact zy (dA tr (pS rfl (x1 rfl) (Q9 some (QL rfl))))
 . exact wQ (Kj tr) (dA tc (pS (x3 rfl) (x1 rfl) (Q9 some (QL rfl))))
def L4 (hf:S[f]?=some (.dT F)) {t:Tr} (ht:gd t 7 30) (e:h=.ret t):bL [.ref f,cO (kK nm),.str nm,mX k h ar,.ref rm] S=some (.ok (.list ((jZ F nm t).map cW)),S):=by
 subst e;refine oO ((cF (x0 rfl) kd.2.1).trans ((cF (x0 rfl) kd.2.2.1).trans (bw ((fT (x0 rfl)).trans (bw ((c6 (ai ?_)).trans (cf (Ma hf ht (x2 rfl)))))))));exact dA (zN (kq _).2.2.1) (pS rfl (x1 rfl) (Q9 some (QL rfl)))
def GH (hf:S[f]?=some (.dT F)) {t:Tr} (ht:gd t 7 30) (e:∃ l,h=.ifs t l∨h=.whl t l):bL [.ref f,cO (nh k),.str nm,mX k h ar,.ref rm] S=some (.ok (.list ((jZ F nm t).map cW)),S):=by
 obtain ⟨l,e⟩:=e;refine oO ((cF (x0 rfl) kd.2.2.2.1).trans ((cF (x0 rfl) kd.2.2.2.2.1).trans ((cF (x0 rfl) kd.2.2.2.2.2).trans (bw ((c6 (ai ?_)).trans (cf (Ma hf ht ?_)))))))
 . have ti:=zN (f:=f) (kw:=cO (nh k)) (nm:=nm) (k:=k) (h:=h) (ar:=ar) (rm:=rm) (kq (aA h)).2.1;have tw':=zN (f:=f) (kw:=cO (nh k)) (nm:=nm) (k:=k) (h:=h) (ar:=ar) (rm:=rm) (kq (aA h)).1;have q:=vU ti tw';have o:(decide (aA h=10)||decide (aA h=11))=true:=by rcases e with rfl | rfl <;> rfl
   rw [o] at q;exact dA q (pS (x1 rfl) (x1 rfl) (Q9 some (QL rfl)))
 . rcases e with rfl | rfl <;> exact x2 rfl
def KR (hf:S[f]?=some (.dT F)) (hl:ar.length<=6) (hc:aA h=4∨aA h=5) (hw:sY ar=.int (cB ar)):bL [.ref f,cO (nh (cB ar)),.str nm,mX k h ar,.ref rm] S=some (.ok (.list ((vH F nm ar).map cW)),S):=by
 have w (s:Str) (i:Fin 12) (q:decide (dF (aA h)=s)=decide (aA h=i)):=zN (f:=f) (kw:=cO (nh (cB ar))) (nm:=nm) (k:=k) (h:=h) (ar:=ar) (rm:=rm) q;have q1:=vU (w _ _ (kq (aA h)).2.1) (w _ _ (kq (aA h)).1);have q2:=vU (w _ _ (PF (aA h)).1) (w _ _ (PF (aA h)).2);have o1:(decide (aA h=10)||decide (aA h=11))=false:=by rcases hc with e | e <;> rw [e] <;> rfl
 have o2:(decide (aA h=4)||decide (aA h=5))=true:=by rcases hc with e | e <;> rw [e] <;> rfl
 rw [o1] at q1;rw [o2] at q2;refine oO ((cF (x0 rfl) kd.2.2.2.1).trans ((cF (x0 rfl) kd.2.2.2.2.1).trans ((cF (x0 rfl) kd.2.2.2.2.2).trans ((ah (δ':=DH f (cO (nh (cB ar))) nm k h ar rm) (S':=S) ((bi (ai (Kj q1))).trans rfl)).trans (bw ((c6 (ai (dA q2 (pS (show aq 7 _=some (.int (cB ar)) from Q9 some hw) (x1 rfl) (Q9 some (QL rfl)))))).trans (cf (Aw hf hl))))))))
structure EG (S:ak) (f rm:Nat) (FN:Ω) (T:List Int) (nm:Str) (k:Int) (h:Hd) (ar:ω) (x:List aB×En):Prop where
 r:∃ ks:List (List aB),bL [.ref f,cO x.2.2.1,.str nm,mX k h ar,.ref rm] S=some (.ok (.list (ks.map cW)),S)/\x.1∈ks/\∀ j∈ks,qA j
 l:x.2.2.2=.int k
 g:KG FN T x.2.2.1
def D2 {T:List Int} {o:Int} {WD:Ω} (hf:S[f]?=some (.dT F)) (hr:S[rm]?=some (.dK kv)) (hv:∀ g∈FN,aX kv (Sum.inr g)=some (.list ((pO g).map .str))) (hp:∀ g,(pO g).length<=6) (hps:∀ g,∀ y∈pO g,strOk y=true) (hF:∀ f∈FN,strOk f=true) (hn:nm∈FN) (hi:GQ FN (k,h,ar)) (hpp:∃ wh,PP o FN WD wh h) (hT:aA h=10∨aA h=11->k∈T) (hA:∀ b∈ar,ft b=true->b.1∈T):∀ x∈jw nm pO (k,h,ar),tU F x.1->EG S f rm FN T nm k h ar x:=λ x hx hc=>by
 obtain ⟨⟨wh,hh,hw⟩,hl⟩:=hi;have hl:ar.length<=6:=hl;have hh:Hg FN wh h:=hh;have sn:=hF nm hn;have nk {g p:Str} (hg:g∈FN) (hy:strOk p=true) (x:List aB×En) (e1:x.2.2.1=jO g p) (e2:x.2.2.2=.int k) (m:x.1∈Ht F nm g p (pO g) h ar):EG S f rm FN T nm k h ar x:=⟨⟨_,by rw [e1];exact Mo hf hr p (hv g hg) (hp g) hl hh,m,J9 hF hn hh g p (pO g) hl⟩,e2,by rw [e1];exact .nk hg hy⟩
 have gx {y:Str} (e:qN h=some y):strOk y=true:=by
  obtain ⟨wh',hp'⟩:=hpp;cases h with
  | set z t=>cases e;exact hp'.1
  | call z t u=>cases e;exact hp'.1
  | join z t u=>cases e;exact hp'.1
  | _=>cases e
 have in2 {y:Str} (e:qN h=some y) {j:List aB} (m:j∈vH F nm ar++Jr F nm h):j∈Ht F nm nm y (pO nm) h ar:=QK.mpr (.inr (by rw [QF ⟨rfl,e⟩];exact m));have wo:=λ j hj=>(A3 (F:=F) sn ar j hj).1;rcases QK.mp hx with hx | hx
 . rcases QK.mp hx with hx | hx
   . cases e:qN h with
     | none=>rw [e] at hx;cases hx
     | some y=>
      rw [e] at hx;obtain ⟨q,hq,rfl⟩:=dY hx;exact nk hn (gx e) _ rfl rfl (in2 e (QK.mpr (.inl (nX hq hc))))
   . rcases QK.mp hx with hx | hx
     . split at hx
       . rename_i c45;obtain ⟨q,hq,rfl⟩:=dY hx;obtain ⟨b,hb,h1,h2,h3⟩:=wK (hw (hh.2.1 c45));exact ⟨⟨_,KR hf hl c45 h3,nX hq hc,wo⟩,rfl,.rw (by rw [<-h2];exact hA b hb h1)⟩
       . cases hx
     . rcases QK.mp hx with hx | hx
       . split at hx
         . rename_i c3;obtain ⟨q,hq,rfl⟩:=dY hx;exact ⟨⟨_,FH hf hl (.inl ⟨c3,rfl⟩),nX hq hc,wo⟩,rfl,.df hn⟩
         . cases hx
       . cases h with
         | call y g ts=>
          obtain ⟨q,hq,rfl⟩:=dY hx;exact ⟨⟨_,FH hf hl (.inr ⟨y,ts,rfl⟩),nX hq hc,wo⟩,rfl,.df (hh.2.2 y g ts rfl).1⟩
         | _=>cases hx
 . rcases QK.mp hx with hx | hx
   . cases h with
     | ifs t l=>
      obtain ⟨q,hq,rfl⟩:=dY hx;have gt:=hh.1 t (QD.mpr rfl);exact ⟨⟨_,GH hf gt ⟨l,.inl rfl⟩,oN hq hc,jo sn t gt.2.2⟩,rfl,.rw (hT (.inl rfl))⟩
     | whl t l=>
      obtain ⟨q,hq,rfl⟩:=dY hx;have gt:=hh.1 t (QD.mpr rfl);exact ⟨⟨_,GH hf gt ⟨l,.inr rfl⟩,oN hq hc,jo sn t gt.2.2⟩,rfl,.rw (hT (.inr rfl))⟩
     | ret t=>
      obtain ⟨q,hq,rfl⟩:=dY hx;have gt:=hh.1 t (QD.mpr rfl);exact ⟨⟨_,L4 hf gt rfl,oN hq hc,jo sn t gt.2.2⟩,rfl,.ba hn⟩
     | set y t=>
      obtain ⟨q,hq,rfl⟩:=dY hx;exact nk hn (gx rfl) _ rfl rfl (in2 rfl (QK.mpr (.inr (oN hq hc))))
     | join y j t=>
      have e:fm nm k (.join y j t)=if j=Str.ofString "ahead" then iw [(.none,[])] (mj nm y) (jO nm y) k else []:=rfl
      have hx:x∈fm nm k (.join y j t):=hx;rw [e] at hx;split at hx
      . rename_i hj;obtain ⟨q,hq,rfl⟩:=dY hx;rw [QD.mp hq];exact nk hn (gx rfl) _ rfl rfl (in2 rfl (QK.mpr (.inr (by show _∈(if _ then _ else _);rw [QF hj];exact QD.mpr rfl))))
      . cases hx
     | _=>cases hx
   . cases h with
     | call y g ts=>
      rcases QK.mp hx with hx | hx
      . obtain ⟨q,hq,rfl⟩:=dY hx;rw [QD.mp hq] at hc ⊢;have hb:pT F (kK g)=true:=hc.resolve_left (by simp [kK]);exact nk hn (gx rfl) _ rfl rfl (in2 rfl (QK.mpr (.inr (by show _∈(if _ then _ else _);rw [QF hb];exact QD.mpr rfl))))
      . obtain ⟨p,hpz,hx⟩:=Sq.mp hx;obtain ⟨q,hq,rfl⟩:=dY hx;refine nk (hh.2.2 y g ts rfl).1 (hps g _ (R9 hpz).1) _ rfl rfl (QK.mpr (.inl ?_));show _∈(if _ then _ else _);rw [QF rfl];exact Sq.mpr ⟨p,hpz,by rw [QF rfl];exact oN hq hc⟩
     | _=>cases hx
end
def OP {l:Int} {T:List Int} (h:l∈T):jf (.int l) (.list (T.map .int))=some true:=by
 have vs:∀ T:List Int,rY (T.map W.int)=some (T.map V.int):=λ T=>by
  induction T with
  | nil=>rfl
  | cons a T ih=>show (some _).bind _=_;simp only [QT,QC,ih,QI]
 have:jf (.int l) (.list (T.map .int))=some (FJ (.int l) (T.map V.int)):=by
  show (rY (T.map W.int)).map _=_;rw [vs];rfl
 rw [this];exact Q9 some (Sg.mpr ⟨.int l,Q7.mpr ⟨l,h,rfl⟩,by simp [CI]⟩)
def Fy {p q:DS->ak->SM Bool} {δ:DS} {S:ak} {a b:Bool} (h1:p δ S=some (.ok a,S)) (h2:q δ S=some (.ok b,S)):GX p q δ S=some (.ok (a||b),S):=by
 cases a with
 | true=>simp only [GX,h1,au,RW,Bool.true_or]
 | false=>simp only [GX,h1,au,h2,RL,SF,Bool.false_or]
section
variable {S:ak} {f rm li:Nat} {F:ν} {kv lv:List (aB×W)} {FN:Ω} {T:List Int} {pO:Str->Ω}
def BF (hr:S[rm]?=some (.dK kv)) (hv:∀ g∈FN,aX kv (Sum.inr g)=some (.list ((pO g).map .str))) {kk:List aB} (h:KG FN T kk):cC [cO kk,.ref rm,.list (T.map .int)] S=some (.ok (.bool true),S):=by
 let δ:DS:=[.val (cO kk),.val (.ref rm),.val (.list (T.map .int))]
 refine (bg rfl).trans ((Q9 eM (?_:_=some (.rt (.bool true),S))).trans rfl);have di {g:Str} (hg:g∈FN) (e:0[1]! δ=some (.str g)):gZ true (ab 0[1]!) (ab (ae 1)) δ S=some (.ok false,S):=by
  have gk:=wM (x:=g) hr;rw [hv g hg] at gk;have v2:ab (ae 1) δ S=some (.ok (.ref rm),S):=rfl;simp only [gZ,ai e,v2,au,gk,QI,fN];rfl
 cases h with
 | @rw l hl=>
  refine (ah (δ':=δ) (S':=S) (aH (aJ (b:=false) rfl rfl))).trans ?_;refine bw (cq (aJ (b:=true) (tT (x0 rfl)) ?_));have c:ay jf 0[1]! (aq 2) δ=some true:=pS (x1 rfl) rfl (OP hl);have w:aU dE #[0[1]!] δ=some (.bool true):=iz (jI (x1 rfl) rfl) rfl;have a:jR (aU dE #[0[1]!]) (dB (ay jf 0[1]! (aq 2))) δ=some (.bool true):=by
   simp only [jR,w,QC,jb,RW,dB,c,QI]
  have b:dB (ay bp (nG gP (aq 0)) !2) δ=some (.bool true):=rfl;show aN _ δ=_;refine bq ?_;simp only [jR] at a ⊢;simp only [b,QC,jb,RW];exact a
 | @df g hg=>
  refine (ah (δ':=δ) (S':=S) (aH (aJ (b:=false) rfl rfl))).trans ?_;refine (ah (δ':=δ) (S':=S) (aH (aJ (b:=false) (tF (x0 rfl) (by decide +kernel)) rfl))).trans ?_;refine (ah (δ':=δ) (S':=S) ((bi (Fy (a:=false) (b:=false) (ai rfl) (di hg (x1 rfl)))).trans rfl)).trans ?_;exact (ah (δ':=δ) (S':=S) (aH (aJ (b:=false) (tF (x0 rfl) kd.1) rfl))).trans (cq rfl)
 | @ba g hg=>
  refine (ah (δ':=δ) (S':=S) (aH (aJ (b:=false) rfl rfl))).trans ?_;refine (ah (δ':=δ) (S':=S) (aH (aJ (b:=false) (tF (x0 rfl) (by decide +kernel)) rfl))).trans ?_;refine (ah (δ':=δ) (S':=S) ((bi (Fy (a:=false) (b:=false) (ai rfl) (di hg (x1 rfl)))).trans rfl)).trans ?_;exact (ah (δ':=δ) (S':=S) (aH (aJ (b:=false) (tF (x0 rfl) kd.2.1) rfl))).trans (cq rfl)
 | @nk g y hg hy=>
  refine (ah (δ':=δ) (S':=S) (aH (aJ (b:=false) rfl rfl))).trans ?_;refine (ah (δ':=δ) (S':=S) (aH (aJ (b:=false) (tF (x0 rfl) (by decide +kernel)) rfl))).trans ?_;refine (ah (δ':=δ) (S':=S) ((bi (Fy (a:=false) (b:=false) (ai rfl) (di hg (x1 rfl)))).trans rfl)).trans ?_;exact bw (cq (aJ (b:=true) (tT (x0 rfl)) rfl))
instance JL (f:Nat) (kk:List aB) (pr:W) (rm li:Nat) (ln:Int) (ck:List aB) (s6 s7 s8:Sl):DS:=[.val (.ref f),.val (cO kk),.val pr,.val (.ref rm),.val (.ref li),.val (.tuple [.int ln,cW ck]),s6,s7,s8]
def xx (hf:S[f]?=some (.dT F)) {kk ck:List aB} {ln:Int} {pr:W} (ok:qA kk) (oc:qA ck) (hc:tU F ck):∀ (l:List Dq) (s6:Sl),(∀ q∈l,strOk q.1.nm=true)->bv (af 6) b8 (l.map λ q=>dh q.1) (JL f kk pr rm li ln ck s6 .no .no) S=some (.rt (.bool true),S)∨((∃ t6,bv (af 6) b8 (l.map λ q=>dh q.1) (JL f kk pr rm li ln ck s6 .no .no) S=some (.nx (JL f kk pr rm li ln ck t6 .no .no),S))/\¬ ∃ q∈l,kk=kK q.1.nm/\ln=q.1.ln/\ck=iD q.1.nm)
 | [],s6,_=>.inr ⟨⟨s6,rfl⟩,λ z=>by obtain ⟨q,hq,_⟩:=z;cases hq⟩
 | q::l,s6,h=>by
  have sq:=h q (by simp);let δ:DS:=JL f kk pr rm li ln ck (.val (dh q.1)) .no .no;obtain ⟨b1,e1,i1⟩:=Kz (k':=kK q.1.nm) ok (wL sq);obtain ⟨b2,e2,i2⟩:=KI (ln:=ln) (ln':=q.1.ln) (nm:=q.1.nm) oc sq;have t1:ay bp (aq 1) (aK #[!"back",6[0]!]) δ=some b1:=pS rfl (j4 rfl (x0 rfl)) e1;have t2:ay bp (aq 5) (aK #[6[3]!,aK #[!"def",6[0]!]]) δ=some b2:=pS rfl (j4 (x3 rfl) (j4 rfl (x0 rfl))) e2;have t:=KJ t1 t2;cases hb:(b1&&b2) with
  | true=>
   rw [hb] at t;obtain ⟨z1,z2⟩:=(Rb _ _).mp hb;have ec:=i2 z2;have hi:pT F (iD q.1.nm)=true:=by rw [ec] at hc;exact hc.resolve_left (by simp [iD])
   refine .inl ?_;have r:b8 δ S=some (.rt (.bool true),S):=by
    refine (c6 (ai t)).trans (cf ?_);have w:aK #[!"def",6[0]!] δ=some (cO (iD q.1.nm)):=j4 rfl (x0 rfl);have v0:ab (ae 0) δ S=some (.ok (.ref f),S):=rfl;have hi':(aX F (iD q.1.nm)).isSome=true:=hi;simp only [B4,ai w,v0,au,pj hf (show eX (cO (iD q.1.nm))=some (iD q.1.nm) from j8 _),QI,fN,hi']
   show (af 6 (dh q.1) _).bind _=_;rw [show af 6 (dh q.1) (JL f kk pr rm li ln ck s6 .no .no)=some δ from rfl];show (match b8 δ S with | some (.nx δ',S')=>_ | some (.ct δ',S')=>_ | some (.bk δ',S')=>_ | some (.rt d,S')=>_ | some (.xc c,S')=>_ | none=>_)=_;rw [r]
  | false=>
   rw [hb] at t;have st:b8 δ S=some (.nx δ,S):=(bi (ai t)).trans rfl;have go:=bm (h:=af 6) (d:=dh q.1) (ds:=l.map λ q=>dh q.1) (δ:=JL f kk pr rm li ln ck s6 .no .no) (δ2:=δ) rfl st;rcases xx hf ok oc hc l (.val (dh q.1)) (λ r hr=>h r (by simp [hr])) with r | ⟨⟨t6,r⟩,no⟩
   . exact .inl (go.trans r)
   . refine .inr ⟨⟨t6,go.trans r⟩,λ z=>?_⟩;obtain ⟨r',hr',z1,z2,z3⟩:=z;rcases QE.mp hr' with rfl | hr'
     . subst z1 z2 z3;have s1:=uB (d:=cO (kK r'.1.nm)) (oJ ok) (by simp [cO,cU,ut]);rw [e1] at s1;have d1:cU (oe r'.1.nm)<=1:=by show cU (.tuple ((iD r'.1.nm).map jc))<=1;simp [cU,ut]
       have k1:iU (oe r'.1.nm)=true:=oJ oc;have s2:=uB (d:=.tuple [.int r'.1.ln,oe r'.1.nm]) (by simp [iU,dj,k1]) (by simp [cU,cz];omega);have e2':bp (.tuple [.int r'.1.ln,oe r'.1.nm]) (.tuple [.int r'.1.ln,oe r'.1.nm])=some b2:=e2;rw [e2'] at s2;cases s1;cases s2;cases hb
     . exact no ⟨r',hr',z1,z2,z3⟩
def CQ (hf:S[f]?=some (.dT F)) (hli:S[li]?=some (.dK lv)) {kk ck:List aB} {ln:Int} (hv:aX F kk=some (.tuple [.int ln,cW ck])) (ok:qA kk) (oc:qA ck) (hc:tU F ck) {qs:List Dq} (hs:∀ q∈qs,strOk q.1.nm=true)
 (he:(∃ q∈qs,kk=kK q.1.nm/\ln=q.1.ln/\ck=iD q.1.nm)∨∃ nm k h ar,ln=k/\aX lv (Sum.inl k)=some (.tuple [.str nm,mX k h ar])/\∃ ks:List (List aB),bL [.ref f,cO kk,.str nm,mX k h ar,.ref rm] S=some (.ok (.list (ks.map cW)),S)/\ck∈ks/\∀ j∈ks,qA j):
 bI [.ref f,cO kk,.list (qs.map λ q=>dh q.1),.ref rm,.ref li] S=some (.ok (.bool true),S):=by
 let pr:W:=.list (qs.map λ q=>dh q.1);let δ (s6 s7 s8:Sl):DS:=JL f kk pr rm li ln ck s6 s7 s8;refine (bg rfl).trans ((Q9 eM (?_:_=some (.rt (.bool true),S))).trans rfl);have gk:=pj hf (show eX (cO kk)=some kk from j8 kk);rw [hv] at gk;refine (ah (δ':=δ .no .no .no) (S':=S) (be (d:=.tuple [.int ln,cW ck]) ?_ rfl)).trans ?_
 . have e:∀ δ:DS,ab (ae 0) δ S=some (.ok (.ref f),S)->ab (ae 1) δ S=some (.ok (cO kk),S)->eG (ab (ae 0)) (ab (ae 1)) δ S=some (.ok (.tuple [.int ln,cW ck]),S):=λ δ v0 v1=>by simp only [eG,v0,v1,au,gk,QC,fN,QI]
   exact e _ rfl rfl
 refine (ah (δ':=δ .no .no .no) (S':=S) (aH (aJ (b:=false) ?_ rfl))).trans ?_
 . have w:aU dE #[5[0]!] (δ .no .no .no)=some (.bool true):=iz (jI (x0 rfl) rfl) rfl;exact wv rfl (wv rfl (by simp only [um,ve,w,QC,jb,QI];rfl))
 rcases xx (rm:=rm) (li:=li) (pr:=pr) hf ok oc hc qs .no hs with r | ⟨⟨t6,r⟩,no⟩
 . exact bw ((bT (S1:=S) (ds:=qs.map λ q=>dh q.1) rfl).trans r)
 obtain ⟨nm,k,h,ar,rfl,hk,ks,g1,g2,g3⟩:=he.resolve_left no;refine (ah ((bT (S1:=S) (ds:=qs.map λ q=>dh q.1) rfl).trans r)).trans ?_;have gl:jK (.ref li) (.int ln) S=some (some (.tuple [.str nm,mX ln h ar])):=by
  have:jK (.ref li) (.int ln) S=some (aX lv (Sum.inl ln)):=by simp [jK,d7,hli,jd]
  rw [this,hk]
 have a0 (s6 s7 s8:Sl):5[0]! (δ s6 s7 s8)=some (.int ln):=x0 rfl;have v4 (s6 s7 s8:Sl):ab (ae 4) (δ s6 s7 s8) S=some (.ok (.ref li),S):=rfl;refine (ah (δ':=δ t6 .no .no) (S':=S) ((bi (S1:=S) ?_).trans rfl)).trans ?_
 . have a:=ai (S:=S) (a0 t6 .no .no);simp only [δ] at a v4 ⊢;simp only [gZ,a,v4,au,gl,QI,fN];rfl
 refine (ah (δ':=δ t6 (.val (.str nm)) (.val (mX ln h ar))) (S':=S) (be (d:=.tuple [.str nm,mX ln h ar]) ?_ rfl)).trans ?_
 . have a:=ai (S:=S) (a0 t6 .no .no);simp only [δ] at a v4 ⊢;simp only [eG,a,v4,au,gl,QC,fN,QI]
 refine cf (MH ?_);have a1:5[1]! (δ t6 (.val (.str nm)) (.val (mX ln h ar)))=some (cW ck):=x1 rfl;have sc:bD bL (ab #[ae 0,ae 1,ae 7,ae 8,ae 3]) (δ t6 (.val (.str nm)) (.val (mX ln h ar))) S=some (.ok (.list (ks.map cW)),S):=bE (S1:=S) (ds:=[.ref f,cO kk,.str nm,mX ln h ar,.ref rm]) rfl g1;have im:kR (cW ck) (.list (ks.map cW))=some true:=ED (λ w hw=>by obtain ⟨j,hj,rfl⟩:=Q7.mp hw;exact (GO (g3 j hj)).1) (by have:=(GO oc).2;omega) (Q7.mpr ⟨ck,g2,rfl⟩);simp only [ky,ai a1,sc,au,im,fN,QI]
def qC (hf:S[f]?=some (.dT F)):∀ (n m:Nat) (lo:Int) (kk:List aB) (s2:Sl),n<=m->jT F n kk->bv (af 2) dM (eZ lo m) [.val (.ref f),.val (cO kk),s2] S=some (.rt (.bool true),S)
 | 0,_,_,_,_,_,h=>h.elim
 | n+1,0,_,_,_,hm,_=>by omega
 | n+1,m+1,lo,kk,s2,hm,h=>by
  obtain ⟨ln,ck,h1,h2⟩:=h;rw [fu];let δ:DS:=[.val (.ref f),.val (cO kk),.val (.int lo)]
  have gk:=pj hf (show eX (cO kk)=some kk from j8 kk);rw [h1] at gk;have v0:ab (ae 0) δ S=some (.ok (.ref f),S):=rfl;have v1:ab (ae 1) δ S=some (.ok (cO kk),S):=rfl;have vi:ab (!1) δ S=some (.ok (.int 1),S):=rfl;have ix:rZ (.tuple [ln,cW ck]) (.int 1) S=some (cW ck):=rfl;have e1:cg (sIx (eG (ab (ae 0)) (ab (ae 1))) (ab !1)) (af 1) δ S=some (.nx [.val (.ref f),.val (cW ck),.val (.int lo)],S):=by
   refine be (d:=cW ck) ?_ rfl;simp only [sIx,eG,v0,v1,vi,au,gk,QC,fN,QI,ix]
  by_cases hc:ck=[]
  . subst hc;have r:dM δ S=some (.rt (.bool true),S):=(ah e1).trans (cq (aJ (b:=true) rfl rfl));show (af 2 (.int lo) _).bind _=_;rw [show af 2 (.int lo) [.val (.ref f),.val (cO kk),s2]=some δ from rfl];show (match dM δ S with | some (.nx δ',S')=>_ | some (.ct δ',S')=>_ | some (.bk δ',S')=>_ | some (.rt d,S')=>_ | some (.xc c,S')=>_ | none=>_)=_;rw [r]
  . have ec:cW ck=cO ck:=QS hc;rw [ec] at e1;have st:dM δ S=some (.nx [.val (.ref f),.val (cO ck),.val (.int lo)],S):=(ah e1).trans (aH (aJ (b:=false) rfl rfl));exact (bm (δ2:=δ) rfl st).trans (qC hf n m (lo+1) ck (.val (.int lo)) (by omega) (h2.resolve_left hc))
def Az (hf:S[f]?=some (.dT F)) (hl:F.length<=9000) {kk:List aB} (h:jT F F.length kk):d6 [.ref f,cO kk] S=some (.ok (.bool true),S):=by
 refine (bg rfl).trans ((Q9 eM (?_:_=some (.rt (.bool true),S))).trans rfl);refine bw ((bT (S1:=S) (ds:=eZ 0 F.length) ?_).trans (qC hf _ _ 0 kk .no (QH _) h));have v0:ab (ae 0) [.val (.ref f),.val (cO kk),.no] S=some (.ok (.ref f),S):=rfl;have da:ud (.ref f) S=some (f,F):=by simp [ud,d7,hf]
 have c:=bo (f:=yt (ab (ae 0))) (g:=kS) (δ:=[.val (.ref f),.val (cO kk),.no]) (S:=S) (S1:=S) (S2:=S) (d:=.int F.length) (ds:=[]) (by simp only [yt,v0,au,da,QI,fN]) rfl;have r:xM [.int (F.length:Int)]=some (eZ 0 F.length):=yB (by omega);show rD _ [.val (.ref f),.val (cO kk),.no] S=_;simp only [rD,c,au,r,fN,QI]
end
def uR {κ:Type} [DecidableEq κ]:∀ (F:List (κ×W)) (k:κ),k∈F.map (·.1)->∃ v,aX F k=some v
 | [],_,h=>by cases h
 | e::F,k,h=>by
  by_cases hk:e.1=k
  . exact ⟨e.2,by simp [aX,Rc,hk]⟩
  . have:k∈F.map (·.1):=by
     rcases QE.mp h with z | z
     . exact absurd z.symm hk
     . exact z
    obtain ⟨v,e1⟩:=uR F k this;exact ⟨v,by simpa [aX,Rc,hk] using e1⟩
def yN {κ:Type} [DecidableEq κ]:∀ (F:List (κ×W)) (k:κ),k∉F.map (·.1)->aX F k=none
 | [],_,_=>rfl
 | e::F,k,h=>by
  have h1:¬ e.1=k:=λ z=>h (by simp [z]);have:=yN F k λ z=>h (Rj _ z);simpa [aX,Rc,h1] using this
def sQ {κ:Type} [DecidableEq κ]:∀ (F:List (κ×W)),(F.map (·.1)).Nodup->∀ e∈F,aX F e.1=some e.2
 | [],_,e,h=>by cases h
 | d::F,hn,e,h=>by
  rw [QT,Rp] at hn;rcases QE.mp h with rfl | h
  . simp [aX,Rc]
  . have h1:¬ d.1=e.1:=λ z=>hn.1 (z▸SD h);have:=sQ F hn.2 e h;simpa [aX,Rc,h1] using this
def yw {fo fk fv:ζ} {δ:DS} {S S':ak} {x y v:W} (h1:fv δ S=some (.ok v,S)) (h2:fo δ S=some (.ok x,S)) (h3:fk δ S=some (.ok y,S)) (pa:nW x y v S=some S'):i7 fo fk fv δ S=some (.nx δ,S'):=by
 simp only [i7,h1,h2,h3,ke,au,pa,QI]
noncomputable abbrev AI:=List (Str×It)
instance tS (p:Str×It):aB×W:=(Sum.inl p.2.1,.tuple [.str p.1,mX p.2.1 p.2.2.1 p.2.2.2])
instance tY (q:Dq):AI:=q.2.map λ i=>(q.1.nm,i)
section
variable {S:ak} {f rm li:Nat}
instance dL (s0 s1:Sl) (f rm li:Nat) (s5 s6 s7 s8 s9:Sl):DS:=[s0,s1,.val (.ref f),.val (.ref rm),.val (.ref li),s5,s6,s7,s8,s9]
def DN (s0 s1:Sl) (q:nY) {is:List It} {sp:List W} (h:xI is sp):∀ (S:ak) (lv:List (aB×W)) (s6 s7:Sl),S[li]?=some (.dK lv)->(is.map (·.1)).Nodup->(∀ i∈is,Sum.inl i.1∉lv.map (·.1))->lv.length+is.length<9000->∃ S' t6 t7,bv (af 6) yv sp (dL s0 s1 f rm li (.val (dh q)) s6 s7 .no .no) S=some (.nx (dL s0 s1 f rm li (.val (dh q)) t6 t7 .no .no),S')/\S'[li]?=some (.dK (lv++(is.map λ i=>(q.nm,i)).map tS))/\∀ m,m≠li->S'[m]?=S[m]?:=by
 induction h with
 | nil=>exact λ S lv s6 s7 hl _ _ _=>⟨S,s6,s7,rfl,by simpa using hl,λ _ _=>rfl⟩
 | @cons i w is sp hw _ ih=>
  intro S lv s6 s7 hl hn hd hz;subst hw;simp only [QY] at hz;rw [QT,Rp] at hn;let d:W:=mX i.1 i.2.1 i.2.2;have vn:aX lv (Sum.inl i.1)=none:=yN _ _ (hd i (by simp));have pn:=j6 (W.tuple [.str q.nm,d]) vn;have lz:lv.length<sizeLine:=QZ (by omega) (sz 9000 (by decide));have pa:nW (.ref li) (.int i.1) (.tuple [.str q.nm,d]) S=some (S.set li (.dK (lv++[(Sum.inl i.1,.tuple [.str q.nm,d])]))):=by
   rw [<-pn];simp [nW,d7,hl,jd,lz]
  obtain ⟨S',t6,t7,e,h1,h2⟩:=ih (S.set li (.dK (lv++[(Sum.inl i.1,.tuple [.str q.nm,d])]))) (lv++[(Sum.inl i.1,.tuple [.str q.nm,d])]) (.val d) (.val (cD i.1 i.2.1)) (set_eq' hl) hn.2 (λ j hj z=>by
   rw [Rw] at z;rcases QK.mp z with z | z
   . exact hd j (by simp [hj]) z
   . have z:j.1=i.1:=by simpa using z
     exact hn.1 (z▸SD hj)) (by simp;omega)
  refine ⟨S',t6,t7,(bm (δ2:=dL s0 s1 f rm li (.val (dh q)) (.val d) s7 .no .no) (δ':=dL s0 s1 f rm li (.val (dh q)) (.val d) (.val (cD i.1 i.2.1)) .no .no) (S':=S.set li (.dK (lv++[(Sum.inl i.1,.tuple [.str q.nm,d])]))) rfl ?_).trans e,by rw [h1,Ru];rfl,λ m hm=>(h2 m hm).trans (QW (RM hm))⟩;let δ:DS:=dL s0 s1 f rm li (.val (dh q)) (.val d) (.val (cD i.1 i.2.1)) .no .no;refine (ah (δ':=δ) (S':=S) (aH (aQ (x0 rfl) rfl))).trans ?_;have a0:ab 7[1]! δ S=some (.ok (.int i.1),S):=ai (x1 rfl);have a1:ab (aK #[5[0]!,ae 6]) δ S=some (.ok (.tuple [.str q.nm,d]),S):=ai (j4 (x0 rfl) rfl);have a2:ab (ae 4) δ S=some (.ok (.ref li),S):=rfl;exact yw a1 a2 a0 pa
def vm (hne:rm≠li) (s0 s1:Sl):∀ (qs:List Dq) (S:ak) (kv lv:List (aB×W)) (g:Str->Ω) (seen:Ω) (s5 s6 s7:Sl),S[rm]?=some (.dK kv)->S[li]?=some (.dK lv)->(∀ x∈seen,aX kv (Sum.inr x)=some (.list ((g x).map .str)))->(∀ q∈qs,∃ sp,xI q.2 sp/\aO 7 [.list (c7 q.1.bd),gH [],.none]=some (.list sp))->(lv.map (λ e:aB×W=>e.1)++(qs.flatMap tY).map λ p:Str×It=>(Sum.inl p.2.1:aB)).Nodup->kv.length+qs.length<900->lv.length+(qs.flatMap tY).length<9000->∃ S' kv' t5 t6 t7,bv (af 5) x6 (qs.map λ q=>dh q.1) (dL s0 s1 f rm li s5 s6 s7 .no .no) S=some (.nx (dL s0 s1 f rm li t5 t6 t7 .no .no),S')/\S'[rm]?=some (.dK kv')/\S'[li]?=some (.dK (lv++(qs.flatMap tY).map tS))/\(∀ m,m≠rm->m≠li->S'[m]?=S[m]?)/\∀ x,x∈seen∨x∈qs.map (·.1.nm)->aX kv' (Sum.inr x)=some (.list ((pV (qs.map (·.1)) g x).map .str))
 | [],S,kv,lv,g,seen,s5,s6,s7,hr,hl,hs,_,_,_,_=>⟨S,kv,s5,s6,s7,rfl,hr,by simpa using hl,λ _ _ _=>rfl,λ x hx=>hs x (hx.resolve_right (by simp))⟩
 | q::qs,S,kv,lv,g,seen,s5,s6,s7,hr,hl,hs,hq,hn,hk,hz=>by
  simp only [QY] at hk;rw [RD,QO] at hz;rw [RD,Rw,<-Ru] at hn;have al:(tY q).length=q.2.length:=by simp [tY]
  have am:(tY q).map (λ p=>(Sum.inl p.2.1:aB))=q.2.map λ i=>Sum.inl i.1:=by simp [tY,Ry,RC]
  have kz:kv.length<sizeLine:=QZ (by omega) (sz 900 (by decide));have pl:=rg kv (Sum.inr q.1.nm) (W.list (q.1.ps.map .str));let kv1:=eI kv (Sum.inr q.1.nm) (W.list (q.1.ps.map .str));let S1:ak:=S.set rm (.dK kv1);have pa:nW (.ref rm) (.str q.1.nm) (.list (q.1.ps.map .str)) S=some S1:=by simp [nW,d7,hr,jd,kz,S1,kv1]
  obtain ⟨sp,hsp,esp⟩:=hq q (by simp);have n1:=(RZ.mp hn).1;rw [am] at n1;have Nf:=(RZ.mp n1).2.1;have nds:(q.2.map (·.1)).Nodup:=by
   exact pairwise_map.mpr ((pairwise_map.mp Nf).imp λ h z=>h (Q9 Sum.inl z))
  obtain ⟨S2,u6,u7,e2,l2,o2⟩:=DN (f:=f) (rm:=rm) s0 s1 q.1 hsp S1 lv s6 s7 (set_ne' hl hne) nds (λ i hi z=>(RZ.mp n1).2.2 _ z _ (Q7.mpr ⟨i,hi,rfl⟩) rfl) (by omega);have r2:S2[rm]?=some (.dK kv1):=by rw [o2 rm hne];exact set_eq' hr
  obtain ⟨S',kv',t5,t6,t7,e,h1,h2,h3,h4⟩:=vm hne s0 s1 qs S2 kv1 (lv++(tY q).map tS) (λ x=>if x=q.1.nm then q.1.ps else g x) (q.1.nm::seen) (.val (dh q.1)) u6 u7 r2 l2 (λ x hx=>by
   rw [yu];by_cases hq:x=q.1.nm
   . simp [hq]
   . have:x∈seen:=(QE.mp hx).resolve_left hq;simp [hq,hs x this]) (λ r hr=>hq r (by simp [hr])) (by
   rw [Rw];have e:((tY q).map tS).map (·.1)=(tY q).map λ p=>Sum.inl p.2.1:=by simp [Ry,RC,tS]
   rw [e];exact hn) (by have:kv1.length<=kv.length+1:=pl;omega) (by rw [QO,Rk];omega)
  refine ⟨S',kv',t5,t6,t7,(bm (δ2:=dL s0 s1 f rm li (.val (dh q.1)) s6 s7 .no .no) (δ':=dL s0 s1 f rm li (.val (dh q.1)) u6 u7 .no .no) (S':=S2) rfl ?_).trans e,h1,by rw [h2,Ru,RD,Rw],λ m m1 m2=>by rw [h3 m m1 m2,o2 m m2,QW (RM m1)],λ x hx=>h4 x ?_⟩
  . let δ:DS:=dL s0 s1 f rm li (.val (dh q.1)) s6 s7 .no .no;have a0:ab 5[0]! δ S=some (.ok (.str q.1.nm),S):=ai (x0 rfl);have a1:ab 5[1]! δ S=some (.ok (.list (q.1.ps.map .str)),S):=ai (x1 rfl);have a2:ab (ae 3) δ S=some (.ok (.ref rm),S):=rfl;refine (ah (δ':=δ) (S':=S1) (yw a1 a2 a0 pa)).trans ?_;refine (bT (S1:=S1) (ds:=sp) (ai ?_)).trans e2;have c:aU (aO 7) #[5[2]!,bc (bu ag),dC .none] δ=some (.list sp):=iz (vF (x2 rfl) rfl rfl) esp;unfold bA;rw [c];rfl
  . rcases hx with hx | hx
    . exact .inl (by simp [hx])
    . rw [QT] at hx;rcases QE.mp hx with rfl | hx
      . exact .inl (by simp)
      . exact .inr hx
def qY {n:Nat×Kd} {h:η} {c:DS->ak->SM Bool} {fe:ζ} {δ:DS} {α:Type} {A:List α} {g:α->W} (hl:eS S n=some (A.map g)) (t:α->Bool) (δ2:α->DS) (h1:∀ a∈A,h (g a) δ=some (δ2 a)/\c (δ2 a) S=some (.ok (t a),S)/\fe (δ2 a) S=some (.ok (g a),S)):∀ (m i:Nat),A.length-i<m->bP n h c fe δ m i S=some (.ok (((A.drop i).filter t).map g),S)
 | 0,i,hm=>by omega
 | m+1,i,hm=>by
  show (eS S n).bind _=_;rw [hl];show (match (A.map g)[i]? with | none=>_ | some d=>_)=_;by_cases hi:i<A.length
  . have ih:=qY hl t δ2 h1 m (i+1) (by omega);obtain ⟨e1,e2,e3⟩:=h1 A[i] (RU hi);rw [Re,QP hi,Rx hi];show (h (g A[i]) δ).bind _=_;rw [e1];show au (c (δ2 A[i]) S) _=_;rw [e2];cases ht:t A[i] with
    | true=>
     rw [List.filter_cons_of_pos ht];show au (fe (δ2 A[i]) S) _=_;rw [e3];show au (bP n h c fe δ m (i+1) S) _=_;rw [ih];rfl
    | false=>
     rw [List.filter_cons_of_neg (by simp [ht])];exact ih
  . rw [Sd (by simp;omega),List.drop_eq_nil_of_le (by omega)];rfl
instance ON (p:Str×It):Bool:=decide (aA p.2.2.1=10∨aA p.2.2.1=11)
def zo (A:AI) (hl:S[li]?=some (.dK (A.map tS))) (hn:(A.map λ p=>p.2.1).Nodup) (ha:A.length<9000) {s0 s1 s5 s6 s7:Sl}:kx 9000 [some 4,none] (lP (ab (ae 4))) (af 1) (ky jf (sIx (sIx (sIx (eG (ab (ae 0)) (ab (ae 1))) (ab !1)) (ab !0)) (ab !0)) (ab (aK #[!"if",!"while"]))) (ab (ae 1)) (dL s0 s1 f rm li s5 s6 s7 .no .no) S=some (.ok (.list (((A.filter ON).map λ p=>p.2.1).map .int)),S):=by
 have lk:eS S (li,.d (A.map tS).length)=some (A.map λ p=>.int p.2.1):=by
  rw [Fj hl,Ry];rfl
 have nd:((A.map tS).map (·.1)).Nodup:=by
  have e:(A.map tS).map (·.1)=(A.map λ p=>p.2.1).map Sum.inl:=by simp [Ry,RC,tS]
  rw [e];exact pairwise_map.mpr (hn.imp λ h z=>h (Sum.inl.inj z))
 have dk:sH (.ref li) S=some (li,A.map tS):=Ln hl;have v4:ab (ae 4) (dL s0 s1 f rm li s5 s6 s7 .no .no) S=some (.ok (.ref li),S):=rfl;have cl:=qY (h:=af 1) (c:=ky jf (sIx (sIx (sIx (eG (ab (ae 0)) (ab (ae 1))) (ab !1)) (ab !0)) (ab !0)) (ab (aK #[!"if",!"while"]))) (fe:=ab (ae 1)) (δ:=[.val (.ref li),.no]) lk ON (λ p=>[.val (.ref li),.val (.int p.2.1)]) (λ p hp=>⟨rfl,?_,rfl⟩) 9000 0 (by omega)
 . have c:=qp (S:=S) (ix:=[some 4,none]) (fi:=lP (ab (ae 4))) (δ:=dL s0 s1 f rm li s5 s6 s7 .no .no) (n:=(li,.d (A.map tS).length)) (S0:=S) (m:=9000) (by simp only [lP,v4,au,dk,QI]) (sz 9000 (by decide)) cl;rw [c,List.drop_zero,Ry];rfl
 . let δ:DS:=[.val (.ref li),.val (.int p.2.1)]
   have gv:jK (.ref li) (.int p.2.1) S=some (some (.tuple [.str p.1,mX p.2.1 p.2.2.1 p.2.2.2])):=by
    have:jK (.ref li) (.int p.2.1) S=some (aX (A.map tS) (Sum.inl p.2.1)):=by simp [jK,d7,hl,jd]
    rw [this];exact Q9 some (sQ _ nd (tS p) (SD hp))
   have v0:ab (ae 0) δ S=some (.ok (.ref li),S):=rfl;have v1:ab (ae 1) δ S=some (.ok (.int p.2.1),S):=rfl;have vi (i:Int):ab (dC (.int i)) δ S=some (.ok (.int i),S):=rfl;have x1':rZ (.tuple [.str p.1,mX p.2.1 p.2.2.1 p.2.2.2]) (.int 1) S=some (mX p.2.1 p.2.2.1 p.2.2.2):=rfl;have x2':rZ (mX p.2.1 p.2.2.1 p.2.2.2) (.int 0) S=some (cD p.2.1 p.2.2.1):=rfl;have x3':rZ (cD p.2.1 p.2.2.1) (.int 0) S=some (.str (dF (aA p.2.2.1))):=by
    show aI (.tuple (.str (dF (aA p.2.2.1))::.int p.2.1::rs p.2.2.1)) (.int 0)=_;rw [pC,su]
   have tu:ab (aK #[!"if",!"while"]) δ S=some (.ok (.tuple [.str "if", .str "while"]),S):=ai (j4 rfl rfl);show ky jf _ _ δ S=_;simp only [ky,sIx,eG,v0,v1,vi,au,gv,QC,fN,QI,x1',x2',x3',tu,(ki _).2.2.1];rfl
end
section
variable {S:ak} {f rm li:Nat} {F:ν}
def uA {s0 s1 s5 s6 s7 s8:Sl} {pr:W} {T:List Int} (e1:s1=.val pr) (e8:s8=.val (.list (T.map .int))):∀ (ks:List (List aB)) (s9:Sl),(∀ k∈ks,cC [cO k,.ref rm,.list (T.map .int)] S=some (.ok (.bool true),S)/\bI [.ref f,cO k,pr,.ref rm,.ref li] S=some (.ok (.bool true),S))->∃ t9,bv (af 9) x5 (ks.map cO) (dL s0 s1 f rm li s5 s6 s7 s8 s9) S=some (.nx (dL s0 s1 f rm li s5 s6 s7 s8 t9),S)
 | [],s9,_=>⟨s9,rfl⟩
 | k::ks,s9,h=>by
  obtain ⟨a,b⟩:=h k (by simp);obtain ⟨t9,e⟩:=uA e1 e8 ks (.val (cO k)) λ j hj=>h j (by simp [hj]);let δ:DS:=dL s0 s1 f rm li s5 s6 s7 s8 (.val (cO k));have no {g:ζ} (q:g δ S=some (.ok (.bool true),S)):jJ (jM g) δ S=some (.ok false,S):=by simp only [jJ,jM,q,au,fN,jb,QI];rfl
  have c1:bD cC (ab #[ae 9,ae 3,ae 8]) δ S=some (.ok (.bool true),S):=by
   subst e8;exact bE (S1:=S) (ds:=[cO k,.ref rm,.list (T.map .int)]) rfl a
  have c2:bD bI (ab #[ae 2,ae 9,ae 1,ae 3,ae 4]) δ S=some (.ok (.bool true),S):=by
   subst e1;exact bE (S1:=S) (ds:=[.ref f,cO k,pr,.ref rm,.ref li]) rfl b
  exact ⟨t9,(bm (δ2:=δ) (δ':=δ) (S':=S) rfl ((bi (Fy (a:=false) (b:=false) (no c1) (no c2))).trans rfl)).trans e⟩
def uL {s0 s1 s5 s6 s7 s8:Sl}:∀ (ks:List (List aB)) (s9:Sl),(∀ k∈ks,d6 [.ref f,cO k] S=some (.ok (.bool true),S))->∃ t9,bv (af 9) xL (ks.map cO) (dL s0 s1 f rm li s5 s6 s7 s8 s9) S=some (.nx (dL s0 s1 f rm li s5 s6 s7 s8 t9),S)
 | [],s9,_=>⟨s9,rfl⟩
 | k::ks,s9,h=>by
  have a:=h k (by simp);obtain ⟨t9,e⟩:=uL ks (.val (cO k)) λ j hj=>h j (by simp [hj]);let δ:DS:=dL s0 s1 f rm li s5 s6 s7 s8 (.val (cO k));have c1:bD d6 (ab #[ae 2,ae 9]) δ S=some (.ok (.bool true),S):=bE (S1:=S) (ds:=[.ref f,cO k]) rfl a;have no:jJ (jM (bD d6 (ab #[ae 2,ae 9]))) δ S=some (.ok false,S):=by simp only [jJ,jM,c1,au,fN,jb,QI];rfl
  exact ⟨t9,(bm (δ2:=δ) (δ':=δ) (S':=S) rfl ((bi no).trans rfl)).trans e⟩
def B3 (hf:S[f]?=some (.dT F)) {δ:DS} (h:ae 2 δ=some (.ref f)):mY (mw (ab (ae 2))) δ S=some (.ok ((F.map (·.1)).map cO),S):=by
 have da:ud (.ref f) S=some (f,F):=by simp [ud,d7,hf]
 have q:mw (ab (ae 2)) δ S=some (.ok (.list ((F.map (·.1)).map cO)),S):=by
  simp only [mw,ai h,au,da,QI,fN,Ry];rfl
 simp only [mY,q,au];rfl
end
def AF {A:Str->Prop}:∀ (qs:List nY) (g:Str->Ω),(∀ q∈qs,∀ x∈q.ps,A x)->(∀ f,∀ x∈g f,A x)->∀ f,∀ x∈pV qs g f,A x
 | [],g,_,hg,f,x,hx=>hg f x hx
 | q::qs,g,hq,hg,f,x,hx=>AF qs _ (λ r hr=>hq r (by simp [hr])) (λ f x hx=>by
  split at hx
  . exact hq q (by simp) x hx
  . exact hg f x hx) f x hx
def HR {FN:Ω} (qs:List Dq) (h:∀ q∈qs,GD FN q) (hc:gN qs<=70):(FF qs).length<=8000:=by
 have hp:∀ f,(pV (qs.map (·.1)) (λ _=>[]) f).length<=6:=lE _ _ (λ q hm=>by obtain ⟨r,hr,rfl⟩:=Q7.mp hm;exact (h r hr).ps) (λ f=>by simp);have hE:=uq hp qs h;have rl:=BA (jQ (pV (qs.map (·.1)) λ _=>[]) qs) [];have:∀ (EE:ξ) (n:Nat) (F:ν) (D:List W),(FP EE n F D).length<=F.length+rem EE F:=λ EE n=>by
  induction n with
  | zero=>exact λ F D=>le_add_right _ _
  | succ n ih=>
   intro F D;unfold FP;cases hl:D.getLast? with
   | none=>exact le_add_right _ _
   | some c=>
    have r:=(pB (EE:=EE) (c:=c) (k:=(fB c).getD []) (kC EE ((fB c).getD [])) F D.dropLast λ e he=>gT he).2.1;have:=ih ((kC EE ((fB c).getD [])).foldl (gg c) (F,D.dropLast)).1 ((kC EE ((fB c).getD [])).foldl (gg c) (F,D.dropLast)).2;simp only [];omega
 have q:=this (jQ (pV (qs.map (·.1)) λ _=>[]) qs) 1000000 [] [.none];have e:(FF qs).length=(FP (jQ (pV (qs.map (·.1)) λ _=>[]) qs) 1000000 [] [.none]).length:=rfl;rw [e];simp only [RG] at q;omega
def C4 (ns:List Int) (h:ns.length<=63):∃ S,xw [.list (ns.map .int)] []=some (.ok (.bool true),S):=by
 obtain ⟨o,FN,WD,qs,ep,hq,hfn,hc,hl,dln⟩:=zA ns h;have hg:∀ q∈qs,GD FN q:=λ q h=>(hq q h).gd;have hf:∀ f∈FN,f∈qs.map (·.1.nm):=λ f h=>(hfn f).mp h;obtain ⟨S1,f,e1,h1,_⟩:=zk (D0:=λ _=>none) qs [] hg hf hc hl (λ _ _ z=>by cases z);have ri:=K7 qs;have fl:=HR qs hg hc;generalize FF qs=F at h1 ri fl;have hp:∀ f,(pV (qs.map (·.1)) (λ _=>[]) f).length<=6:=lE _ _ (λ q hm=>by obtain ⟨r,hr,rfl⟩:=Q7.mp hm;exact (hg r hr).ps) (λ f=>by simp);have hps:∀ f,∀ x∈pV (qs.map (·.1)) (λ _=>[]) f,strOk x=true:=AF _ _ (λ q hm=>by obtain ⟨r,hr,rfl⟩:=Q7.mp hm;exact (hq r hr).ps) (λ f x hx=>by cases hx);have hF:∀ f∈FN,strOk f=true:=λ f h=>by
  obtain ⟨q,hm,rfl⟩:=Q7.mp (hf f h);exact (hq q hm).nm
 let A:AI:=qs.flatMap tY;have An:(A.map λ p=>p.2.1).Nodup:=by
  have:=(HF.all _ dln).2;have e:(A.map λ p=>p.2.1)=(qs.map (·.1)).flatMap λ d=>dS (c7 d.bd):=by
   have:∀ l:List Dq,(∀ q∈l,q∈qs)->((l.flatMap tY).map λ p=>p.2.1)=(l.map (·.1)).flatMap λ d=>dS (c7 d.bd):=λ l=>by
    induction l with
    | nil=>exact λ _=>rfl
    | cons q l ih=>
     intro hm;rw [RD,Rw,QT,RD,ih λ r hr=>hm r (by simp [hr]),<-(hq q (hm q (by simp))).il.l];simp [tY,Ry,RC]
   exact this qs λ _ h=>h
  rw [e];exact this
 have Al:A.length<=70:=by
  have:∀ l:List Dq,(l.flatMap tY).length<=gN l:=λ l=>by
   induction l with
   | nil=>exact QH _
   | cons q l ih=>
    have:gN (q::l)=q.2.length+1+gN l:=by simp [gN]
    rw [RD,QO,this];have:(tY q).length=q.2.length:=by simp [tY]
    omega
  exact Rh (this qs) hc
 let T:List Int:=(A.filter ON).map λ p=>p.2.1;let scr:Sl:=.val (.list (ns.map .int));let pr:W:=.list (qs.map λ q=>dh q.1);let sp:Sl:=.val pr;let rm:Nat:=S1.length;let li:Nat:=S1.length+1;let S2:ak:=S1++[.dK []];let S3:ak:=S2++[.dK []];have s2l:S2.length=li:=by simp [S2,li]
 have fl1:f<S1.length:=(oG h1).1;have r3:S3[rm]?=some (.dK []):=aY (bS _ _);have l3:S3[li]?=some (.dK []):=by rw [<-s2l];exact bS _ _
 obtain ⟨S4,kv,t5,t6,t7,e4,r4,l4,o4,v4⟩:=vm (f:=f) (rm:=rm) (li:=li) (by simp [rm,li]) scr sp qs S3 [] [] (λ _=>[]) [] .no .no .no r3 l3 (λ x hx=>absurd hx QR) (λ q h=>(hq q h).sp) (by
  simp only [map_nil,SJ];have e:((qs.flatMap tY).map λ p:Str×It=>(Sum.inl p.2.1:aB))=(A.map λ p=>p.2.1).map Sum.inl:=by simp [A,Ry,RC]
  rw [e];exact pairwise_map.mpr (An.imp λ h z=>h (Sum.inl.inj z))) (by simp;omega) (by have:(qs.flatMap tY).length<=70:=Al;simp only [RG];omega)
 rw [SJ] at l4;have f4:S4[f]?=some (.dT F):=by rw [o4 f (by simp [rm];omega) (by simp [li];omega)];exact aY (aY h1)
 have hv:∀ g∈FN,aX kv (Sum.inr g)=some (.list ((pV (qs.map (·.1)) (λ _=>[]) g).map .str)):=λ g hg=>v4 g (.inr (hf g hg));have tr:=zo (f:=f) (rm:=rm) A l4 An (by omega) (s0:=scr) (s1:=sp) (s5:=t5) (s6:=t6) (s7:=t7);generalize hpO:pV (qs.map (·.1)) (λ _=>[])=pO at hp hps ri hv;have And:((A.map tS).map (·.1)).Nodup:=by
  have e:(A.map tS).map (·.1)=(A.map λ p=>p.2.1).map Sum.inl:=by simp [Ry,RC,tS]
  rw [e];exact pairwise_map.mpr (An.imp λ h z=>h (Sum.inl.inj z))
 have good:∀ k∈F.map (·.1),(cC [cO k,.ref rm,.list (T.map .int)] S4=some (.ok (.bool true),S4)/\bI [.ref f,cO k,pr,.ref rm,.ref li] S4=some (.ok (.bool true),S4))/\d6 [.ref f,cO k] S4=some (.ok (.bool true),S4):=λ kk hk=>by
  obtain ⟨v,hv1⟩:=uR F kk hk;obtain ⟨⟨ck,kw,ln,he,rfl,hca⟩,hend⟩:=ri.f kk v hv1;refine ⟨?_,Az f4 (by omega) hend⟩;have ss:∀ q∈qs,strOk q.1.nm=true:=λ q h=>(hq q h).nm;obtain ⟨q,hqm,hx⟩:=Sq.mp he;have nF:q.1.nm∈FN:=(hfn _).mpr (Q7.mpr ⟨q,hqm,rfl⟩);rcases QK.mp hx with hx | hx
  . obtain ⟨p,hp1,hp2⟩:=dY hx;rw [QD.mp hp1] at hp2;cases hp2;have g:KG FN T (kK q.1.nm):=.ba nF;exact ⟨BF r4 hv g,CQ f4 l4 hv1 (g.ok hF) (sU (hF _ nF)) hca ss (.inl ⟨q,hqm,rfl,rfl,rfl⟩)⟩
  . obtain ⟨i,hi,hx⟩:=Sq.mp hx;obtain ⟨k,h,ar⟩:=i;have mA:∀ j∈q.2,(q.1.nm,j)∈A:=λ j hj=>Sq.mpr ⟨q,hqm,Q7.mpr ⟨j,hj,rfl⟩⟩;have tT:∀ j∈q.2,aA j.2.1=10∨aA j.2.1=11->j.1∈T:=λ j hj hc=>Q7.mpr ⟨(q.1.nm,j),Rq.mpr ⟨mA j hj,QL hc⟩,rfl⟩;have eg:=D2 (T:=T) f4 r4 hv hp hps hF nF ((hq q hqm).gd.it _ hi) ((hq q hqm).pp _ hi) (tT _ hi) (λ b hb hw=>by
     rcases (hq q hqm).il.c _ hi b hb with z | ⟨j,hj,z⟩
     . cases z
     . rw [<-z] at hw ⊢;exact tT j hj (.inr (Rn hw))) _ hx hca
    obtain ⟨⟨ks,g1,g2,g3⟩,el,kg⟩:=eg;have el:ln=.int k:=el;subst el;have lw:=sQ _ And (tS (q.1.nm,(k,h,ar))) (SD (mA _ hi));exact ⟨BF r4 hv kg,CQ f4 l4 hv1 (kg.ok hF) (g3 _ g2) hca ss (.inr ⟨q.1.nm,k,h,ar,rfl,lw,ks,g1,g2,g3⟩)⟩
 obtain ⟨t9,e5⟩:=uA (f:=f) (rm:=rm) (li:=li) (S:=S4) (s0:=scr) (s1:=sp) (s5:=t5) (s6:=t6) (s7:=t7) (s8:=.val (.list (T.map .int))) (pr:=pr) (T:=T) rfl rfl (F.map (·.1)) .no (λ k hk=>(good k hk).1);obtain ⟨u9,e6⟩:=uL (f:=f) (rm:=rm) (li:=li) (S:=S4) (s0:=scr) (s1:=sp) (s5:=t5) (s6:=t6) (s7:=t7) (s8:=.val (.list (T.map .int))) (F.map (·.1)) t9 (λ k hk=>(good k hk).2);refine ⟨S4,?_⟩;unfold xw;refine (bg rfl).trans ((Q9 eM (?_:_=some (.rt (.bool true),S4))).trans rfl);refine (ah (δ':=[scr,sp,.no,.no,.no,.no,.no,.no,.no,.no]) (S':=[]) (aH (aQ (iz (jI rfl rfl) ep) rfl))).trans ?_;refine (ah (δ':=[scr,sp,.val (.ref f),.no,.no,.no,.no,.no,.no,.no]) (S':=S1) (be (bE (S1:=[]) (ds:=[pr]) (ai (jI (iz (jI rfl rfl) ep) rfl)) e1) rfl)).trans ?_;refine (ah (δ':=[scr,sp,.val (.ref f),.no,.no,.no,.no,.no,.no,.no]) (S':=S1) ((bi (S1:=S1) ?_).trans rfl)).trans ?_
 . have i1:Nj (.ref f) S1=some true:=by simp [Nj,d7,h1]
   have v3:ab (ae 2) [scr,sp,.val (.ref f),.no,.no,.no,.no,.no,.no,.no] S1=some (.ok (.ref f),S1):=rfl;simp only [jJ,jM,Bc,v3,au,i1,QI,fN,jb];rfl
 refine (ah (δ':=[scr,sp,.val (.ref f),.val (.ref rm),.no,.no,.no,.no,.no,.no]) (S':=S2) (be rfl rfl)).trans ?_;refine (ah (δ':=dL scr sp f rm li .no .no .no .no .no) (S':=S3) (be (d:=.ref li) (by rw [<-s2l];rfl) rfl)).trans ?_;refine (ah ((bT (S1:=S3) (ds:=qs.map λ q=>dh q.1) rfl).trans e4)).trans ?_;refine (ah (δ':=dL scr sp f rm li t5 t6 t7 (.val (.list (T.map .int))) .no) (S':=S4) (be tr rfl)).trans ?_;refine (ah ((bT (S1:=S4) (B3 f4 rfl)).trans e5)).trans ?_;exact (ah ((bT (S1:=S4) (B3 f4 rfl)).trans e6)).trans rfl
def M7 {α:Type} {P:List α->Prop} {n:Nat} (h:∀ a us,us.length=n->P (a::us)):∀ us:List α,us.length=n+1->P us:=λ us hl=>by
 cases us with
 | nil=>cases hl
 | cons a us=>exact h a us (Nat.succ.inj hl)
def Qx {α:Type} {P:List α->Prop} (h:P []):∀ us:List α,us.length=0->P us:=λ us hl=>by
 cases us with
 | nil=>exact h
 | cons a us=>cases hl
def Ag {α:Type} {P:List α->Prop} (h:∀ a0,P [a0]):∀ us:List α,us.length=1->P us:=M7 λ a us hl=>Qx (P:=λ l=>P (a::l)) (h a) us hl
def Gy {α:Type} {P:List α->Prop} (h:∀ a0 a1,P [a0,a1]):∀ us:List α,us.length=2->P us:=M7 λ a us hl=>Ag (P:=λ l=>P (a::l)) (h a) us hl
def Ah {α:Type} {P:List α->Prop} (h:∀ a0 a1 a2,P [a0,a1,a2]):∀ us:List α,us.length=3->P us:=M7 λ a us hl=>Gy (P:=λ l=>P (a::l)) (h a) us hl
def MU {α:Type} {P:List α->Prop} (h:∀ a0 a1 a2 a3,P [a0,a1,a2,a3]):∀ us:List α,us.length=4->P us:=M7 λ a us hl=>Ah (P:=λ l=>P (a::l)) (h a) us hl
def Ki {α:Type} {P:List α->Prop} (h:∀ a0 a1 a2 a3 a4,P [a0,a1,a2,a3,a4]):∀ us:List α,us.length=5->P us:=M7 λ a us hl=>MU (P:=λ l=>P (a::l)) (h a) us hl
set_option maxHeartbeats 0 in
def all_mk {l:PySem.W.OpenLaw} {w:World} {K:Frag} {h:Heap} {mg:Θ} {fa:Addr} (X:K.In h) (G:h.Ns mainGlobals mg) (hfa:mg "law" = some (.ref fa)) {c_Links:Addr} {JZ:Addr} {oT1:Obj} {nT1:Nat} {f4:Addr} {od4 an4:Option Addr} {sl4:Array (Option Value)} {oc4 kV4 dc4 pm4 cd4 ct4:Value} {f5:Addr} {od5 an5:Option Addr} {sl5:Array (Option Value)} {oc5 kV5 dc5 pm5 cd5 ct5:Value} {a_WORKINGS:Addr} {o_WORKINGS:Obj}
 (mm_Links:PySem.W.nsIn K mainGlobals "Links" = some (some (.ref c_Links)))
 (a0:An K "bodies_of" nA .none)
 (a1:An K "placed" oH (.ref JZ))
 (lT1:K.lookup JZ=some oT1)
 (hT1:oT1.data=.seq (List.toArray [.none]) nT1)
 (a2:An K "given_by" oy .none)
 (a3:An K "leaves_of" mZ .none)
 (a4:PySem.W.findIn K (.ref c_Links) "__init__" = some (some (.ref f4)))
 (ifn4:PySem.W.isFn K (.ref f4)=true)
 (l4:K.lookup f4=some ⟨oc4,od4,.func (PySem.W.fnOf "__init__" "Links.__init__" (dZ cQ) (d3 cQ) (b6 cQ) .none kV4 dc4 pm4 an4 cd4 ct4),sl4⟩)
 (c4:PySem.W.codeIn K cd4 "Links.__init__" = true)
 (k4:PySem.W.keepIn K (.ref f4)=true)
 (a5:PySem.W.findIn K (.ref c_Links) "add" = some (some (.ref f5)))
 (ifn5:PySem.W.isFn K (.ref f5)=true)
 (l5:K.lookup f5=some ⟨oc5,od5,.func (PySem.W.fnOf "add" "Links.add" (dZ fE) (d3 fE) (b6 fE) .none kV5 dc5 pm5 an5 cd5 ct5),sl5⟩)
 (c5:PySem.W.codeIn K cd5 "Links.add" = true)
 (k5:PySem.W.keepIn K (.ref f5)=true)
 (a6:An K "way_of" ul .none)
 (a7:An K "causes_of" mP .none)
 (a8:An K "link_way" oq .none)
 (a9:An K "link_numbers" jy .none)
 (a10:An K "link_call" mL .none)
 (a11:An K "links_of" pq .none)
 (a12:An K "marks" yF .none)
 (a13:An K "_law_whole" lL .none)
 (a14:An K "_law_cell_at" jk .none)
 (a15:An K "_law_spread" kf .none)
 (a16:An K "_law_names" lD .none)
 (a17:An K "_law_leaf" mO .none)
 (a18:An K "_law_beside" jY .none)
 (a19:An K "_law_expression" gD .none)
 (a20:An K "_law_call" mU .none)
 (a21:An K "_law_op" qL .none)
 (a22:An K "_law_closed_up" gW .none)
 (a23:An K "_law_may_stand" ie .none)
 (a24:An K "_law_laid" mN .none)
 (a25:An K "_law_rooms" lF .none)
 (a26:An K "_law_variables" ig .none)
 (a27:An K "_law_program" jp .none)
 (a28:An K "_law_spots" kZ .none)
 (a29:An K "_law_drawn" kT .none)
 (a30:An K "_law_whence" jV .none)
 (a31:An K "_law_ways" mG .none)
 (a32:An K "_law_gives_name" gB .none)
 (a33:An K "_law_gives" lJ .none)
 (a34:An K "_law_key_good" iP .none)
 (a35:An K "_law_reason_good" gc .none)
 (a36:An K "_law_ends" nj .none)
 (a37:An K "law" uf .none)
 (pg_Links:PySem.W.plainGet K c_Links Str.empty=true)
 (hd_Links:PySem.W.hasDictIn K c_Links=true)
 (po_Links:PySem.W.plainOver K c_Links=true)
 (sa_Links:PySem.W.findIn K (.ref c_Links) "__setattr__" = some (some (.builtin "object.__setattr__")))
 (mk_Links:PySem.W.makesIn K c_Links=true)
 (kc_Links:PySem.W.keepIn K (.ref c_Links)=true)
 (nn_Links_behind:PySem.W.findIn K (.ref c_Links) "behind" = some none)
 (zz_any:PySem.W.nsIn K mainGlobals "any" = some none)
 (zz_bool:PySem.W.nsIn K mainGlobals "bool" = some none)
 (zz_dict:PySem.W.nsIn K mainGlobals "dict" = some none)
 (zz_enumerate:PySem.W.nsIn K mainGlobals "enumerate" = some none)
 (zz_int:PySem.W.nsIn K mainGlobals "int" = some none)
 (zz_isinstance:PySem.W.nsIn K mainGlobals "isinstance" = some none)
 (zz_len:PySem.W.nsIn K mainGlobals "len" = some none)
 (zz_list:PySem.W.nsIn K mainGlobals "list" = some none)
 (zz_range:PySem.W.nsIn K mainGlobals "range" = some none)
 (zz_str:PySem.W.nsIn K mainGlobals "str" = some none)
 (zz_tuple:PySem.W.nsIn K mainGlobals "tuple" = some none)
 (zz_zip:PySem.W.nsIn K mainGlobals "zip" = some none)
 (mm_WORKINGS:PySem.W.nsIn K mainGlobals "WORKINGS" = some (some (.ref a_WORKINGS)))
 (lk_WORKINGS:K.lookup a_WORKINGS=some o_WORKINGS)
 (lc_WORKINGS:o_WORKINGS.cls=.type "tuple")
 (lt_WORKINGS:wy o_WORKINGS [(Str.ofString "+"),(Str.ofString "-"),(Str.ofString "*"),(Str.ofString "div"),(Str.ofString "rem"),(Str.ofString "<"),(Str.ofString "=")]=true):
 ∃ fd:FuncData,(∀ (s:Shared) (v:Value),BindsTo s fd ⟨[v],[]⟩ [("_law_script", v)])/\∀ base:Heap,K.In base->base.Ns mainGlobals mg->fF l.prog w K mg base Gz 14 fa fd ["_law_script"] (tI K):=by
 have m_Links:mg "Links" = some (.ref ((n5 c_Links) "Links")):=by rw [iu];exact PySem.W.mg_of X G mm_Links
 obtain ⟨f1,_,_,_,_,_,_,_,_,_,m1,l1,c1,k1⟩:=a1;have D_placed:Ay (IS K mg "placed" ["body", "around"] [.none]) K "placed" "placed" oH:=⟨_,_,lY l1 c1 k1,PySem.W.mg_of X G m1,k1,(λ s us Xs hl=>Gy (P:=λ us=>BindsTo s _ ⟨us,[]⟩ (List.zip _ (us++_))) (λ _ _=>PySem.W.binds_K Xs rfl lT1 hT1 rfl rfl) us (by simpa using hl)),(λ s us Xs hl=>Ag (P:=λ us=>BindsTo s _ ⟨us,[]⟩ (List.zip _ (us++_))) (λ _=>PySem.W.binds_K Xs rfl lT1 hT1 rfl rfl) us (by simpa using hl))⟩
 have b_Links___init__:=(wz (st:=cQ) l4 c4 k4).binds (ps:=["self"]) (λ _ _ _ _ _ _=>Ag λ _=>rfl);have b_Links_add:=(wz (st:=fE) l5 c5 k5).binds (ps:=["self", "causes", "key", "line"]) (λ _ _ _ _ _ _=>MU λ _ _ _ _=>rfl);have mt_Links_add:AK K ((n5 c_Links) "Links") "add" f5:=by rw [iu];exact ⟨a5,ifn5,k5⟩
 have cl_Links:tX K ((n5 c_Links) "Links"):=by rw [iu];exact ⟨pg_Links,hd_Links,po_Links,sa_Links⟩
 have n_Links_behind:dI K ((n5 c_Links) "Links") "behind" := by rw [iu];exact nn_Links_behind
 have M_Links:Mk K ((n5 c_Links) "Links") f4:=by rw [iu];exact ⟨mk_Links,a4,ifn4,kc_Links⟩
 have z_any:=RB X G zz_any;have z_bool:=RB X G zz_bool;have z_dict:=RB X G zz_dict;have z_enumerate:=RB X G zz_enumerate;have z_int:=RB X G zz_int;have z_isinstance:=RB X G zz_isinstance;have z_len:=RB X G zz_len;have z_list:=RB X G zz_list;have z_range:=RB X G zz_range;have z_str:=RB X G zz_str;have z_tuple:=RB X G zz_tuple;have z_zip:=RB X G zz_zip;have m_WORKINGS:=PySem.W.mg_of X G mm_WORKINGS;have g_WORKINGS:∀ G,fg K G a_WORKINGS (([(Str.ofString "+"),(Str.ofString "-"),(Str.ofString "*"),(Str.ofString "div"),(Str.ofString "rem"),(Str.ofString "<"),(Str.ofString "=")]).map V.str):=λ _=>zS lk_WORKINGS lc_WORKINGS lt_WORKINGS;obtain ⟨_,_,_,kV,dc,pm,an,cd,ct,_,ml,ll,cL,kL⟩:=a37;cases hfa.symm.trans (PySem.W.mg_of X G ml);refine ⟨PySem.W.fnOf "law" "law" (dZ uf) (d3 uf) (b6 uf) .none kV dc pm an cd ct,λ s v=>.of_eq rfl,λ base _ _=>?_⟩;have C_bodies_of:=tM (P:=l.prog) (w:=w) (base:=base) (a0.dn X G (λ _ _ _ _ _ _=>Ag λ _=>rfl));have C_placed:=zV D_placed C_bodies_of;have C_given_by:=uT (P:=l.prog) (w:=w) (base:=base) (a2.dn X G (λ _ _ _ _ _ _=>Ag λ _=>rfl));have C_leaves_of:=tH (P:=l.prog) (w:=w) (base:=base) (a3.dn X G (λ _ _ _ _ _ _=>Ag λ _=>rfl)) m_WORKINGS g_WORKINGS;have C_Links___init__:=l8 (P:=l.prog) (w:=w) (base:=base) (cl:=(n5 c_Links)) ⟨_,_,lY l4 c4 k4,M_Links,b_Links___init__⟩ m_Links cl_Links n_Links_behind;have C_Links_add:=tK (P:=l.prog) (w:=w) (base:=base) (cl:=(n5 c_Links)) ⟨_,_,lY l5 c5 k5,mt_Links_add,b_Links_add⟩ m_Links cl_Links n_Links_behind;have C_way_of:=zg (P:=l.prog) (w:=w) (base:=base) (a6.dn X G (λ _ _ _ _ _ _=>Gy λ _ _=>rfl));have C_causes_of:=rL (a7.dn X G (λ _ _ _ _ _ _=>Gy λ _ _=>rfl)) C_leaves_of;have C_link_way:=vp (cl:=(n5 c_Links)) (a8.dn X G (λ _ _ _ _ _ _=>MU λ _ _ _ _=>rfl)) C_way_of C_given_by C_Links_add m_Links cl_Links n_Links_behind;have C_link_numbers:=nN (cl:=(n5 c_Links)) (a9.dn X G (λ _ _ _ _ _ _=>Ah λ _ _ _=>rfl)) C_Links_add C_causes_of m_Links cl_Links n_Links_behind;have C_link_call:=rT (cl:=(n5 c_Links)) (a10.dn X G (λ _ _ _ _ _ _=>MU λ _ _ _ _=>rfl)) C_Links_add C_causes_of m_Links cl_Links n_Links_behind z_zip;have C_links_of:=uo (cl:=(n5 c_Links)) (a11.dn X G (λ _ _ _ _ _ _=>Ag λ _=>rfl)) C_Links___init__ C_Links_add C_link_way C_link_numbers C_link_call C_placed m_Links cl_Links n_Links_behind;have C_marks:=BR (cl:=(n5 c_Links)) (a12.dn X G (λ _ _ _ _ _ _=>Ag λ _=>rfl)) C_links_of m_Links cl_Links n_Links_behind;have C__law_whole:=qj (P:=l.prog) (w:=w) (base:=base) (a13.dn X G (λ _ _ _ _ _ _=>Ag λ _=>rfl)) z_isinstance z_bool z_int;have C__law_cell_at:=nI (P:=l.prog) (w:=w) (base:=base) (a14.dn X G (λ _ _ _ _ _ _=>Gy λ _ _=>rfl)) z_len;have C__law_spread:=oV (P:=l.prog) (w:=w) (base:=base) (a15.dn X G (λ _ _ _ _ _ _=>Gy λ _ _=>rfl));have C__law_names:=pZ (P:=l.prog) (w:=w) (base:=base) (a16.dn X G (λ _ _ _ _ _ _=>Ag λ _=>rfl)) z_range z_len;have C__law_leaf:=rK (P:=l.prog) (w:=w) (base:=base) (a17.dn X G (λ _ _ _ _ _ _=>Ah λ _ _ _=>rfl));have C__law_beside:=oI (a18.dn X G (λ _ _ _ _ _ _=>Ah λ _ _ _=>rfl)) C__law_leaf;have C__law_expression:=k7 (a19.dn X G (λ _ _ _ _ _ _=>Ah λ _ _ _=>rfl)) C__law_leaf C__law_spread C__law_beside z_range;have C__law_call:=sK (a20.dn X G (λ _ _ _ _ _ _=>Ki λ _ _ _ _ _=>rfl)) C__law_expression z_len z_range;have C__law_op:=vR (a21.dn X G (λ _ _ _ _ _ _=>Ki λ _ _ _ _ _=>rfl)) C__law_expression C__law_call z_len;have C__law_closed_up:=lX (P:=l.prog) (w:=w) (base:=base) (cl:=(n5 c_Links)) (a22.dn X G (λ _ _ _ _ _ _=>Ag λ _=>rfl));have C__law_may_stand:=kU (P:=l.prog) (w:=w) (base:=base) (cl:=(n5 c_Links)) (a23.dn X G (λ _ _ _ _ _ _=>Ah λ _ _ _=>rfl)) z_any z_len;have C__law_laid:=tQ (cl:=(n5 c_Links)) (a24.dn X G (λ _ _ _ _ _ _=>Ah λ _ _ _=>rfl)) C__law_may_stand C__law_closed_up;have C__law_rooms:=pY (P:=l.prog) (w:=w) (base:=base) (a25.dn X G (λ _ _ _ _ _ _=>Ah λ _ _ _=>rfl)) z_range;have C__law_variables:=l7 (P:=l.prog) (w:=w) (base:=base) (a26.dn X G (λ _ _ _ _ _ _=>Gy λ _ _=>rfl)) z_list;have C__law_program:=nS (cl:=(n5 c_Links)) (a27.dn X G (λ _ _ _ _ _ _=>Ki λ _ _ _ _ _=>rfl)) C__law_spread C__law_cell_at C__law_variables C__law_rooms C__law_op C__law_laid z_len z_enumerate z_list;have C__law_spots:=qh (P:=l.prog) (w:=w) (base:=base) (a28.dn X G (λ _ _ _ _ _ _=>Ah λ _ _ _=>rfl));have C__law_drawn:=qb (a29.dn X G (λ _ _ _ _ _ _=>Ag λ _=>rfl)) C__law_spread C__law_cell_at C__law_names C__law_program;have C__law_whence:=o9 (P:=l.prog) (w:=w) (base:=base) (cl:=(n5 c_Links)) (a30.dn X G (λ _ _ _ _ _ _=>Ah λ _ _ _=>rfl));have C__law_ways:=sw (P:=l.prog) (w:=w) (base:=base) (cl:=(n5 c_Links)) (a31.dn X G (λ _ _ _ _ _ _=>Ah λ _ _ _=>rfl));have C__law_gives_name:=k9 (cl:=(n5 c_Links)) (a32.dn X G (λ _ _ _ _ _ _=>Ki λ _ _ _ _ _=>rfl)) C__law_whence C__law_ways z_zip;have C__law_gives:=qc (cl:=(n5 c_Links)) (a33.dn X G (λ _ _ _ _ _ _=>Ki λ _ _ _ _ _=>rfl)) C__law_gives_name C__law_ways C__law_whence;have C__law_key_good:=mq (cl:=(n5 c_Links)) (a34.dn X G (λ _ _ _ _ _ _=>Ah λ _ _ _=>rfl)) C__law_whole z_isinstance z_str z_len z_tuple;have C__law_reason_good:=jE (cl:=(n5 c_Links)) (a35.dn X G (λ _ _ _ _ _ _=>Ki λ _ _ _ _ _=>rfl)) C__law_whole C__law_gives z_len z_isinstance z_tuple;have C__law_ends:=rn (P:=l.prog) (w:=w) (base:=base) (cl:=(n5 c_Links)) (a36.dn X G (λ _ _ _ _ _ _=>Gy λ _ _=>rfl)) z_range z_len;obtain ⟨_,_,⟨rfl,rfl⟩,F⟩:=Hc (cl:=(n5 c_Links)) (R:=λ g gd=>g=fa/\gd=_) C4 ⟨_,_,lY ll cL kL,rfl,rfl⟩ C__law_drawn C_marks C__law_spots C__law_reason_good C__law_key_good C__law_ends z_isinstance z_dict z_list;exact F
def walk {l:PySem.W.OpenLaw} {q:Program} {loose:Ω} {XP:(Θ)->Heap->Prop} {YP:World->Heap->Prop} {d:DefRec} {K:Params->Frag} (hn:l.most=some 63) (hdf:d.params.defaults=[])
 (hY:∀ (w:World) (h:Heap),YP w h->(K w.params).In h)
 (F:∀ (w:World) (mg:Θ) (fa:Addr) (h:Heap),(K w.params).In h->h.Ns mainGlobals mg->mg d.name=some (.ref fa)->
  ∃ fd:FuncData,(∀ (s:Shared) (u:Value),BindsTo s fd ⟨[u],[]⟩ [("_law_script", u)])/\∀ base:Heap,(K w.params).In base->base.Ns mainGlobals mg->fF l.prog w (K w.params) mg base Gz 14 fa fd ["_law_script"] (tI (K w.params))):
 PySem.W.WalkO q loose XP YP l.row.toRowW d [] (λ f vs=>PySem.call f vs):=
 L2.walk_of (n:=63) (k:=14) (x := "_law_script") (CX:=λ _=>Gz) (sp:=λ w=>(tI (K w.params))) hn (by decide) hdf ⟨rfl,by decide,by decide⟩ hY F (λ _ _ a ns hl _ hS=>⟨a,ns,rfl,hS,hl,λ _=>rfl⟩) λ _ _ _ _ _ z=>z
def toX {q:Program} {loose:Ω} {XP:(Θ)->Heap->Prop} {r:PySem.W.RowW} {d:DefRec} {kwd:List (Str×Expr)} {run:Value->List Value->Sem Value} {K:Params->Frag} {as:Ξ} {n t:Nat} (e:∀ P,as=(K P).map (·.1))
 (h:PySem.W.WalkO q loose XP (λ w h=>(K w.params).In h) r d kwd run):PySem.W.WalkX q loose XP (PySem.W.X.obsZ as) (PySem.W.X.valZ K n t) r d kwd run:=
 λ w s0 s1 mg mb G y a o pm cd doc dV kV h1 h2 h3 h4 h5 h6 args vals as' L hp hl hr hw ho=>h w s0 s1 mg mb G (PySem.W.InK.keeps w s0.heap s1.heap (PySem.W.X.z_facts e y).2.1 L.keeps) a o pm cd doc dV kV h1 h2 h3 h4 h5 h6 args vals as' hp hl hr hw ho
end My
end
open PySem PySem.W PyProof.Rows
def Sp.k {α : Type} (x : α) (t : True) : α := x
local macro_rules
 | `(command| universe $z) => do
  let F (s : String) (n : Lean.Name) := Lean.mkIdent (`PySem.W.Fast ++ .mkSimple s!"{s}{n.hash}")
  let mut a := #[]
  let mut b := #[]
  let p := Lean.mkIdent `PySem.Challenge.pw_widelanes_k13_reasons_end
  for k in [0:43] do
   let c := .mkStr2 "Sp" s!"c{k}"
   let C := Lean.mkIdent c
   let (T, e) <- if k < 42 then pure (<- `(Stmt), <- `(($p).main.body.getD $(Lean.quote k) (.Pass ⟨0, 0, 0, 0⟩))) else pure (<- `(Scope), <- `(($p).main.scope))
   a := ((a.push (<- `(command| def $C : $T := $e))).push (<- `(command| noncomputable def $(F "tw" c) : $T := by
    refine Sp.k ?x ?t
    case t =>
     have h : $C = ?x := by conv => lhs; whnf
     exact trivial))).push (<- `(command| theorem $(F "te" c) : $C = $(F "tw" c) := by kernel_rfl))
   b := b.push C
  for (i, j) in ([(583,859)] : List (Nat × Nat)) do
   for k in [i:j] do
    a := a.push (<- `(command| def $(F "tw" (`PySem.Challenge.cw_widelanes_k13_reasons_end_holds ++ .mkSimple s!"o_{k}")) := ()))
  let q := b.pop
  let s := b.back!
  return Lean.mkNullNode (a.push (<- `(command| def $(Lean.mkIdent `Sp.p) : Program := { main := { body := [$q,*], scope := $s, futureAnnotations := false, file := "/claim/cut.py", more := [] }, modules := [], parses := [], absent := [], harvested := [], given := { argv := [], stdin := [], environ := (some [([76, 67, 95, 65, 76, 76], [67, 46, 85, 84, 70, 45, 56])]) } })))
universe u
set_option maxRecDepth 100000 in
set_option maxHeartbeats 0 in
theorem PySem.Challenge.cw_widelanes_k13_reasons_end_holds : PySem.Challenge.rw_widelanes_k13_reasons_end.Holds := by
 show OpenLaw.Holds { prog := Sp.p, name := "law", about := ["marks"], foot := 25, most := some 63, bound := none, writes := false }
 w_on; o_law;z_head;(case hw=>w_witness2)
 refine My.toX (λ _=>rfl) (My.walk (l:={ prog := Sp.p, name := "law", about := ["marks"], foot := 25, most := some 63, bound := none, writes := false }) rfl rfl (λ w h Y=>Y) ?F)
 case F=>
  intro w mg fa h KX G hmg;refine' My.all_mk KX G hmg ?mm_Links ?a0 ?a1 ?lT1 ?hT1 ?a2 ?a3 ?a4 ?ifn4 ?l4 ?c4 ?k4 ?a5 ?ifn5 ?l5 ?c5 ?k5 ?a6 ?a7 ?a8 ?a9 ?a10 ?a11 ?a12 ?a13 ?a14 ?a15 ?a16 ?a17 ?a18 ?a19 ?a20 ?a21 ?a22 ?a23 ?a24 ?a25 ?a26 ?a27 ?a28 ?a29 ?a30 ?a31 ?a32 ?a33 ?a34 ?a35 ?a36 ?a37 ?pg_Links ?hd_Links ?po_Links ?sa_Links ?mk_Links ?kc_Links ?nn_Links_behind ?zz_any ?zz_bool ?zz_dict ?zz_enumerate ?zz_int ?zz_isinstance ?zz_len ?zz_list ?zz_range ?zz_str ?zz_tuple ?zz_zip ?mm_WORKINGS ?lk_WORKINGS ?lc_WORKINGS ?lt_WORKINGS
  (case mm_Links=>k_is)
  (case a0 | a1=>exact ⟨_,_,_,_,_,_,_,_,_,_,by k_is,by k_is,by k_is,by k_is⟩)
  (case lT1=>k_is)
  (case hT1=>rfl)
  (case a2 | a3=>exact ⟨_,_,_,_,_,_,_,_,_,_,by k_is,by k_is,by k_is,by k_is⟩)
  (case a4 | ifn4 | l4 | c4 | k4 | a5 | ifn5 | l5 | c5 | k5=>k_is)
  (case a6 | a7 | a8 | a9 | a10 | a11 | a12 | a13 | a14 | a15 | a16 | a17 | a18 | a19 | a20 | a21 | a22 | a23 | a24 | a25 | a26 | a27 | a28 | a29 | a30 | a31 | a32 | a33 | a34 | a35 | a36 | a37=>exact ⟨_,_,_,_,_,_,_,_,_,_,by k_is,by k_is,by k_is,by k_is⟩)
  (case pg_Links | hd_Links | po_Links | sa_Links | mk_Links | kc_Links | nn_Links_behind | zz_any | zz_bool | zz_dict | zz_enumerate | zz_int | zz_isinstance | zz_len | zz_list | zz_range | zz_str | zz_tuple | zz_zip | mm_WORKINGS | lk_WORKINGS=>k_is)
  (case lc_WORKINGS=>rfl)
  (case lt_WORKINGS=>kernel_rfl)
