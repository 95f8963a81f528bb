import PyProof.Rows.All
import Wide.All
import OpenK.AllK
import Wide.FinOn
import Lean
import PyProof.EqAt
import PyProof.EqKinds
import PyProof.TupleCall
import PySem.Challenge.RW_widelanes_k45_alone_and_letters
set_option Elab.async false
set_option genSizeOf false
set_option genSizeOfSpec false
set_option genInjectivity false
set_option compiler.extract_closed false
set_option linter.all false
set_option maxRecDepth 100000
namespace L2
open PySem PySem.Spec PyProof.Rows
open PySem.W (Frag)
theorem OA:type_of% @Option.bind_some:=@Option.bind_some
theorem OB:type_of% @Nat.le_refl:=@Nat.le_refl
theorem OC:type_of% @Option.map_some:=@Option.map_some
theorem OD:type_of% @wpAny_bind:=@wpAny_bind
theorem OE:type_of% @decide_eq_false:=@decide_eq_false
theorem OF:type_of% @List.length_cons:=@List.length_cons
theorem OG:type_of% @if_pos:=@if_pos
theorem OH:type_of% @List.length_map:=@List.length_map
theorem OI:type_of% @congrArg:=@congrArg
theorem OJ:type_of% @List.getElem?_eq_getElem:=@List.getElem?_eq_getElem
theorem OK:type_of% @List.map_cons:=@List.map_cons
theorem OL:type_of% @Bool.and_eq_true:=@Bool.and_eq_true
theorem OM:type_of% @Heap.get?_push_of_some:=@Heap.get?_push_of_some
theorem ON:type_of% @Nat.lt_of_lt_of_le:=@Nat.lt_of_lt_of_le
theorem OO:type_of% @List.mem_cons:=@List.mem_cons
theorem OP:type_of% @Bool.false_ne_true:=@Bool.false_ne_true
theorem OQ:type_of% @List.size_toArray:=@List.size_toArray
theorem OR:type_of% @List.getElem?_append_left:=@List.getElem?_append_left
theorem OS:type_of% @Heap.lt_size:=@Heap.lt_size
theorem OT:type_of% @if_neg:=@if_neg
theorem OU:type_of% @List.getElem?_set_ne:=@List.getElem?_set_ne
theorem OV:type_of% @decide_eq_true:=@decide_eq_true
theorem OW:type_of% @List.set_cons_zero:=@List.set_cons_zero
theorem OX:type_of% @decide_eq_true_eq:=@decide_eq_true_eq
theorem OY:type_of% @Nat.le_trans:=@Nat.le_trans
theorem OZ:type_of% @wpAny_pure:=@wpAny_pure
theorem O3:type_of% @List.map_append:=@List.map_append
theorem O4:type_of% @List.set_cons_succ:=@List.set_cons_succ
theorem O5:type_of% @List.length_nil:=@List.length_nil
theorem O6:type_of% @List.getElem?_append_right:=@List.getElem?_append_right
theorem O7:type_of% @List.mem_append_right:=@List.mem_append_right
theorem O8:type_of% @Nat.zero_le:=@Nat.zero_le
theorem O9:type_of% @List.append_nil:=@List.append_nil
theorem Pa:type_of% @List.map_nil:=@List.map_nil
theorem Pb:type_of% @List.mem_of_getElem?:=@List.mem_of_getElem?
theorem Pc:type_of% @List.mem_cons_self:=@List.mem_cons_self
theorem Pd:type_of% @List.mem_cons_of_mem:=@List.mem_cons_of_mem
theorem Pe:type_of% @List.mem_append:=@List.mem_append
theorem Pf:type_of% @Heap.get?_push_size:=@Heap.get?_push_size
theorem Pg:type_of% @Option.some.inj:=@Option.some.inj
theorem Ph:type_of% @Nat.ne_of_lt:=@Nat.ne_of_lt
theorem Pj:type_of% @if_true:=@if_true
theorem Pl:type_of% @List.not_mem_nil:=@List.not_mem_nil
theorem Pm:type_of% @PySem.W.mg_none_of:=@PySem.W.mg_none_of
theorem Pn:type_of% @wpAny_mono:=@wpAny_mono
theorem Po:type_of% @List.find?_cons:=@List.find?_cons
theorem Pp:type_of% @List.mem_map:=@List.mem_map
theorem Pq:type_of% @List.getElem?_map:=@List.getElem?_map
theorem Pr:type_of% @Heap.get?_update_self:=@Heap.get?_update_self
theorem Ps:type_of% @Nat.lt_irrefl:=@Nat.lt_irrefl
theorem Pt:type_of% @wpAny_holding:=@wpAny_holding
theorem Pu:type_of% @List.length_set:=@List.length_set
theorem Pw:type_of% @Bool.false_eq_true:=@Bool.false_eq_true
theorem Px:type_of% @List.mem_singleton:=@List.mem_singleton
theorem Py:type_of% @PySem.W.mg_of:=@PySem.W.mg_of
theorem Pz:type_of% @List.take_of_length_le:=@List.take_of_length_le
theorem PB:type_of% @Int.fdiv_eq_ediv_of_nonneg:=@Int.fdiv_eq_ediv_of_nonneg
theorem PD:type_of% @List.nodup_cons:=@List.nodup_cons
theorem PF:type_of% @List.mem_filterMap:=@List.mem_filterMap
theorem PH:type_of% @List.length_append:=@List.length_append
theorem PJ:type_of% @List.prefix_refl:=@List.prefix_refl
theorem PL:type_of% @Paired.length:=@Paired.length
theorem PM:type_of% @Obj.data_mapDictKeys:=@Obj.data_mapDictKeys
theorem PN:type_of% @wpAny_truthy_bool:=@wpAny_truthy_bool
theorem PP:type_of% @of_decide_eq_true:=@of_decide_eq_true
theorem PQ:type_of% @Nat.le_succ_of_le:=@Nat.le_succ_of_le
theorem PR:type_of% @PySem.mem_of_lookup:=@PySem.mem_of_lookup
theorem PU:type_of% @Heap.SameBut.update:=@Heap.SameBut.update
theorem PV:type_of% @Obj.isFreed_of_dict:=@Obj.isFreed_of_dict
theorem PX:type_of% @Nat.le_of_lt:=@Nat.le_of_lt
theorem PY:type_of% @Nat.lt_succ_self:=@Nat.lt_succ_self
theorem PZ:type_of% @List.drop_eq_getElem_cons:=@List.drop_eq_getElem_cons
theorem P0:type_of% @wpAny_passesOwn:=@wpAny_passesOwn
theorem P1:type_of% @Array.mem_toList_iff:=@Array.mem_toList_iff
theorem P2:type_of% @List.nodup_append:=@List.nodup_append
theorem P4:type_of% @List.map_map:=@List.map_map
theorem P5:type_of% @Array.all_eq_true_iff_forall_mem:=@Array.all_eq_true_iff_forall_mem
theorem P6:type_of% @Option.isSome_iff_exists:=@Option.isSome_iff_exists
theorem P7:type_of% @beq_eq_false_iff_ne:=@beq_eq_false_iff_ne
theorem P8:type_of% @Array.length_toList:=@Array.length_toList
theorem P9:type_of% @List.getElem?_replicate:=@List.getElem?_replicate
theorem Qa:type_of% @List.all_eq_true:=@List.all_eq_true
theorem Qb:type_of% @Obj.data_mapDict:=@Obj.data_mapDict
theorem Qc:type_of% @List.drop_length:=@List.drop_length
theorem Qd:type_of% @List.length_eq_zero_iff:=@List.length_eq_zero_iff
theorem Qe:type_of% @List.getElem?_set_self:=@List.getElem?_set_self
theorem Qf:type_of% @wpAny_Call_Name_kw:=@wpAny_Call_Name_kw
theorem Qg:type_of% @PySem.W.callWith_K:=@PySem.W.callWith_K
theorem Qh:type_of% @Calls.callWith_builtin:=@Calls.callWith_builtin
theorem Qi:type_of% @Nat.lt_trans:=@Nat.lt_trans
theorem Qj:type_of% @Option.isSome_some:=@Option.isSome_some
theorem Qk:type_of% @Nat.lt_or_ge:=@Nat.lt_or_ge
theorem Ql:type_of% @wpAny_execs_nil:=@wpAny_execs_nil
theorem Qm:type_of% @List.any_cons:=@List.any_cons
theorem Qn:type_of% @PySem.W.methodCall_KW:=@PySem.W.methodCall_KW
theorem Qo:type_of% @List.mem_iff_getElem?:=@List.mem_iff_getElem?
theorem Qp:type_of% @if_false:=@if_false
theorem Qq:type_of% @Calls.evalArgs_plain:=@Calls.evalArgs_plain
theorem Qr:type_of% @List.length_take:=@List.length_take
theorem Qs:type_of% @List.nil_append:=@List.nil_append
theorem Qt:type_of% @Calls.spliced_cons:=@Calls.spliced_cons
theorem Qu:type_of% @Ne.symm:=@Ne.symm
theorem Qv:type_of% @PySem.W.cellsFrom_some:=@PySem.W.cellsFrom_some
theorem Qw:type_of% @wpAny_dictEntries:=@wpAny_dictEntries
theorem Qx:type_of% @List.append_assoc:=@List.append_assoc
theorem Qy:type_of% @PySem.F.slot_dict_get:=@PySem.F.slot_dict_get
theorem Qz:type_of% @beq_iff_eq:=@beq_iff_eq
theorem QA:type_of% @Option.getD_none:=@Option.getD_none
theorem QC:type_of% @List.cons_append:=@List.cons_append
theorem QD:type_of% @sizeLine_eq:=@sizeLine_eq
theorem QE:type_of% @List.mem_of_mem_take:=@List.mem_of_mem_take
theorem QF:type_of% @List.length_take_le':=@List.length_take_le'
theorem QG:type_of% @Bool.eq_iff_iff:=@Bool.eq_iff_iff
theorem QH:type_of% @List.of_mem_zip:=@List.of_mem_zip
theorem QI:type_of% @Bool.or_eq_true:=@Bool.or_eq_true
theorem QJ:type_of% @codeAny_mono:=@codeAny_mono
theorem QK:type_of% @wpAny_rule:=@wpAny_rule
theorem QL:type_of% @Int.mul_le_mul:=@Int.mul_le_mul
theorem oB {α β:Type} {x:Option α} {f:α->Option β} {b:β} (h:x.bind f=some b):∃ a,x=some a/\f a=some b:=Option.bind_eq_some_iff.mp h
theorem oM {α β:Type} {x:Option α} {f:α->β} {b:β} (h:x.map f=some b):∃ a,x=some a/\f a=b:=Option.map_eq_some_iff.mp h
theorem oG {α:Type} {l:List α} {i:Nat} {a:α} (h:l[i]?=some a):∃ h:i<l.length,l[i]=a:=List.getElem?_eq_some_iff.mp h
noncomputable abbrev bn:=Sum Int Str
noncomputable def pY:bn->Value->Bool
 | .inl k,v=>Value.isInt k v
 | .inr x,v=>Value.isStrOf x v
noncomputable def Mi (w:World):bn->Int
 | .inl k=>hashInt k
 | .inr x=>hashStr w x
theorem cv:∀ {k:bn} {v:Value},pY k v=true->(∃ i t,k=Sum.inl i/\v=Value.int i t)∨(∃ x t,k=Sum.inr x/\v=Value.str x t)
 | .inl i,v,h=>by
  obtain ⟨t,e⟩:=Value.isInt_shape (k:=i) (v:=v) h;exact .inl ⟨i,t,rfl,e⟩
 | .inr x,v,h=>by
  obtain ⟨t,e⟩:=Value.isStrOf_shape (x:=x) (v:=v) h;exact .inr ⟨x,t,rfl,e⟩
theorem xt (i:Int) (t:Tok):pY (.inl i) (.int i t)=true:=by simp [pY,Value.isInt]
theorem xi (x:Str) (t:Tok):pY (.inr x) (.str x t)=true:=by simp [pY,Value.isStrOf]
theorem Eh (a b:Int):decide ((Sum.inl a:bn)=Sum.inl b)=(a==b):=by
 by_cases e:a=b
 . subst e;simp
 . have h:¬ (Sum.inl a:bn)=Sum.inl b:=λ q=>e (Sum.inl.inj q);rw [OE h];exact (P7.mpr e).symm
theorem En (a b:Str):decide ((Sum.inr a:bn)=Sum.inr b)=decide (a=b):=by
 by_cases e:a=b
 . subst e;simp
 . have h:¬ (Sum.inr a:bn)=Sum.inr b:=λ q=>e (Sum.inr.inj q);rw [OE h,OE e]
theorem E5 (a:Int) (b:Str):decide ((Sum.inl a:bn)=Sum.inr b)=false:=OE (λ q=>nomatch q)
theorem EO (a:Str) (b:Int):decide ((Sum.inr a:bn)=Sum.inl b)=false:=OE (λ q=>nomatch q)
noncomputable def aK (prog:Program) (w:World):PySem.KeyKind prog w bn where
 is:=pY
 hash:=Mi w
 inj:=λ v a b ha hb=>by
  rcases cv ha with ⟨i,t,rfl,rfl⟩ | ⟨x,t,rfl,rfl⟩
  . rcases cv hb with ⟨j,u,rfl,e⟩ | ⟨y,u,rfl,e⟩
    . injection e with e1 _;rw [e1]
    . exact nomatch e
  . rcases cv hb with ⟨j,u,rfl,e⟩ | ⟨y,u,rfl,e⟩
    . exact nomatch e
    . injection e with e1 _;rw [e1]
 byValue:=λ k v h=>by
  rcases cv h with ⟨i,t,rfl,rfl⟩ | ⟨x,t,rfl,rfl⟩ <;> rfl
 pyHash:=λ hv h=>by
  rcases cv hv with ⟨i,t,rfl,rfl⟩ | ⟨x,t,rfl,rfl⟩
  . exact wpAny_pyHash_int h
  . exact wpAny_pyHash_str h
 eqBool:=λ hu hv h=>by
  rcases cv hu with ⟨i,t,rfl,rfl⟩ | ⟨x,t,rfl,rfl⟩
  . rcases cv hv with ⟨j,u,rfl,rfl⟩ | ⟨y,u,rfl,rfl⟩
    . rw [Eh] at h;exact wpAny_eqBool_int h
    . rw [E5] at h;exact SeqAt.EqAt.int_str i t y u _ _ _ _ h
  . rcases cv hv with ⟨j,u,rfl,rfl⟩ | ⟨y,u,rfl,rfl⟩
    . rw [EO] at h;exact SeqAt.EqAt.str_int x t j u _ _ _ _ h
    . rw [En] at h;exact wpAny_eqBool_str h
 «strs»:=λ k x t v h=>by
  rcases cv h with ⟨i,u,rfl,e⟩ | ⟨y,u,rfl,e⟩
  . exact nomatch e
  . injection e with e1 _
    subst e1;cases v <;> rfl
theorem tG (prog:Program) (w:World) (i:Int) (t:Tok):(aK prog w).is (.inl i) (.int i t)=true:=xt i t
theorem tj (prog:Program) (w:World) (x:Str) (t:Tok):(aK prog w).is (.inr x) (.str x t)=true:=xi x t
noncomputable def nH (P:Program) (w:World) (ks:List bn):Int:=if ks=[] then 4238894112 else (tupleKind (aK P w)).hash ks
noncomputable def nE (P:Program) (w:World) (x:List bn×Value×Value):DictEntry:=⟨nH P w x.1,x.2.1,x.2.2⟩
end L2
namespace L2
open PySem PySem.Spec PyProof.Rows
open PySem.W (Frag)
set_option genInjectivity true in
inductive V where
 | non | bl (b:Bool) | int (i:Int) | str (x:Str) | byt (b:Array UInt8) | flt (b:UInt64) | ref (a:Addr) | ty (n:String)
 deriving DecidableEq
noncomputable def bq:V->Value->Prop
 | .non,u=>u=Value.none
 | .bl b,u=>u=Value.bool b
 | .int i,u=>∃ t,u=Value.int i t
 | .str x,u=>∃ t,u=Value.str x t
 | .byt b,u=>∃ t,u=Value.bytes b t
 | .flt b,u=>∃ t,u=Value.float b t
 | .ref a,u=>u=Value.ref a
 | .ty n,u=>u=Value.type n
noncomputable abbrev bi:List V->List Value->Prop:=Paired bq
theorem bi.length {xs:List V} {us:List Value} (r:bi xs us):xs.length=us.length:=PL r
theorem bi.get {xs:List V} {us:List Value} {i:Nat} {x:V} (h:bi xs us) (e:xs[i]?=some x):∃ u,us[i]?=some u/\bq x u:=by
 induction h generalizing i with
 | nil=>cases e
 | cons r _ ih=>
  cases i with
  | zero=>cases e;exact ⟨_,rfl,r⟩
  | succ i=>exact ih (i:=i) e
theorem bi.set {x:V} {u:Value} (r:bq x u) {xs:List V} {us:List Value} (i:Nat) (h:bi xs us):bi (xs.set i x) (us.set i u):=by
 induction h generalizing i with
 | nil=>exact .nil
 | cons q t ih=>
  cases i with
  | zero=>exact .cons r t
  | succ i=>exact .cons q (ih i)
theorem bi.append {xs ys:List V} {us ws:List Value} (h:bi xs us) (s:bi ys ws):bi (xs++ys) (us++ws):=by
 induction h with
 | nil=>exact s
 | cons r _ ih=>exact .cons r ih
theorem bi.take {xs:List V} {us:List Value} (n:Nat) (h:bi xs us):bi (xs.take n) (us.take n):=by
 induction h generalizing n with
 | nil=>cases n <;> exact .nil
 | cons r _ ih=>
  cases n with
  | zero=>exact .nil
  | succ n=>exact .cons r (ih n)
theorem bi.drop {xs:List V} {us:List Value} (n:Nat) (h:bi xs us):bi (xs.drop n) (us.drop n):=by
 induction h generalizing n with
 | nil=>cases n <;> exact .nil
 | cons r t ih=>
  cases n with
  | zero=>exact .cons r t
  | succ n=>exact ih n
noncomputable def jo:Option V->Option Value->Prop
 | some v,some u=>bq v u
 | none,none=>True
 | _,_=>False
noncomputable def KV {κ:Type}:List (κ×V)->List (κ×Value)->Prop:=Paired λ (p:κ×V) (q:κ×Value)=>p.1=q.1/\bq p.2 q.2
noncomputable def eh (P:Program) (w:World) (h:Heap) (a:Addr) (kvs:List (bn×Value)):Prop:=
 ∃ o es ep,h.get? a=some o/\o.ExactDict/\o.data=.dict es ep/\ep=es.size/\KeysOf (aK P w) es/\Pairs (aK P w) es.toList kvs/\(kvs.map (·.1)).Nodup
theorem eh.of {P:Program} {w:World} {h:Heap} {a:Addr} {kvs:List (bn×Value)} (x:eh P w h a kvs):h.DictOf (aK P w) a kvs:=by
 obtain ⟨o,es,ep,h1,h2,h3,_,h5⟩:=x;exact ⟨o,es,ep,h1,h2,h3,h5⟩
noncomputable def kV:bn->V
 | .inl i=>.int i
 | .inr x=>.str x
inductive HO where
 | lst (xs:List V)
 | tup (xs:List V)
 | dK (kvs:List (bn×V)) | dT (kvs:List (List bn×V)) | dN (kvs:List (List bn×V))
 | set (S:Int->Bool) (n:Nat)
 | ins (C dx:Addr) (fs:List (Str×V))
 | own (x:Addr)
 | xd (fs:List (Str×V))
 | met (f x:Addr)
 | rng (lo hi:Int)
 | frz (o:Obj) (u:HO)
 | tbl (ps:Array Value)
 | ext (φ:Heap->Prop)
noncomputable abbrev Hp:=Addr->Option HO
noncomputable def nV (H:Hp) (ks:List bn) (v:Value):Prop:=(ks=[]/\v=.none)∨(ks≠[]/\∃ b,v=.ref b/\H b=some (.tup (ks.map kV)))
noncomputable def cE (H:Hp) (a:Addr) (o:HO):Hp:=λ b=>if b=a then some o else H b
theorem aG {H:Hp} {a:Addr} {o:HO}:cE H a o a=some o:=by unfold cE;rw [OG rfl]
theorem aM {H:Hp} {a b:Addr} {o:HO} (h:b≠a):cE H a o b=H b:=by unfold cE;rw [OT h]
theorem JS {H:Hp} {a b:Addr} {o u:HO} (h:H a=some o) (h':H b=some u) (d:o≠u):a≠b:=by
 intro e;subst e;rw [h] at h';exact d (Pg h')
theorem dQ {H:Hp} {a b:Addr} {o:HO} (h:H a=some o) (h':H b=none):a≠b:=by
 intro e;subst e;rw [h] at h';cases h'
section
variable (P:Program) (w:World)
noncomputable def cz (H:Hp) (h:Heap) (a:Addr):HO->Prop
 | .lst xs=>xs.length<=sizeLine/\∃ (its:List Value) (n:Nat),bi xs its/\h.get? a=some { cls:=.type "list", data:=.seq its.toArray n }
 | .tup xs=>xs.length<=sizeLine/\∃ its:List Value,bi xs its/\IsTup h a its.toArray
 | .dK kvs=>kvs.length<=sizeLine/\(a==sysModules)=false/\∃ vs,KV kvs vs/\eh P w h a vs
 | .dT kvs=>kvs.length<=sizeLine/\(a==sysModules)=false/\∃ xs:List (List bn×Addr×Value),
  Paired (λ (p:List bn×V) (q:List bn×Addr×Value)=>p.1=q.1/\H q.2.1=some (.tup (p.1.map kV))/\bq p.2 q.2.2) kvs xs/\
  ∃ o es ep,h.get? a=some o/\o.ExactDict/\o.data=.dict es ep/\es.toList=xs.map (entryOfKey (tupleKind (aK P w)))/\(xs.map (·.1)).Nodup
 | .dN kvs=>kvs.length<=sizeLine/\(a==sysModules)=false/\∃ xs:List (List bn×Value×Value),
  Paired (λ (p:List bn×V) (q:List bn×Value×Value)=>p.1=q.1/\nV H p.1 q.2.1/\bq p.2 q.2.2) kvs xs/\
  ∃ o es ep,h.get? a=some o/\o.ExactDict/\o.data=.dict es ep/\es.toList=xs.map (nE P w)/\(xs.map (·.1)).Nodup
 | .set S n=>h.SetOf (intKind P w) a S n
 | .ins C dx fs=>H dx=some (.own a)/\fs.length<=1000/\dx≠a/\h.get? a=some (PySem.W.instObj C dx)/\
  ∃ mA,h.Ns1 dx mA/\(∀ f,jo (fs.lookup f) (mA f))/\PySem.Within mA (fs.map (·.1))
 | .own _=>∃ o,h.get? a=some o
 | .xd fs=>∃ mA,h.Ns1 a mA/\∀ f,jo (fs.lookup f) (mA f)
 | .rng lo hi=>∃ t u v,h.get? a=some { cls:=.type "range", data:=.fields #[.int lo t,.int hi u,.int 1 v] }
 | .frz o u=>h.get? a=some o/\cz H h a u
 | .tbl ps=>h.get? a=some { cls:=.none,data:=.fields ps }
 | .met f x=>h.get? a=some (PySem.W.methodObj (.ref f) (.ref x))
 | .ext φ=>φ h/\(∃ o,h.get? a=some o)/\∀ h1 h2:Heap,φ h1->(∀ o,h1.get? a=some o->h2.get? a=some o)->φ h2
noncomputable def iY (H:Hp) (h:Heap):Prop:=∀ a o,H a=some o->cz P w H h a o
end
section
variable {P:Program} {w:World} {H H':Hp} {h h':Heap} {a:Addr} {o:HO}
theorem cz.lt (x:cz P w H h a o):a<h.objs.size:=by
 cases o with
 | lst xs=>obtain ⟨_,_,_,_,e⟩:=x;exact OS e
 | tup xs=>obtain ⟨_,_,_,p⟩:=x;exact p.lt
 | dK kvs=>obtain ⟨_,_,_,_,o,_,_,e,_⟩:=x;exact OS e
 | dT kvs=>obtain ⟨_,_,_,_,o,_,_,e,_⟩:=x;exact OS e
 | dN kvs=>obtain ⟨_,_,_,_,o,_,_,e,_⟩:=x;exact OS e
 | set S n=>obtain ⟨o,_,_,_,e,_⟩:=x;exact OS e
 | ins C dx fs=>obtain ⟨_,_,_,e,_⟩:=x;exact OS e
 | own y=>obtain ⟨_,e⟩:=x;exact OS e
 | xd fs=>obtain ⟨_,⟨_,_,_,e,_⟩,_⟩:=x;exact OS e
 | rng lo hi=>obtain ⟨_,_,_,e⟩:=x;exact OS e
 | frz ob u=>obtain ⟨e,_⟩:=x;exact OS e
 | tbl ps=>exact OS (show h.get? a=some _ from x)
 | met f y=>exact OS (show h.get? a=some _ from x)
 | ext φ=>obtain ⟨_,⟨_,e⟩,_⟩:=x;exact OS e
theorem Paired.mapP {α β:Type} {F G:α->β->Prop} {l₁:List α} {l₂:List β} (h:Paired F l₁ l₂) (f:∀ a b,F a b->G a b):Paired G l₁ l₂:=by
 induction h with
 | nil=>exact .nil
 | cons r _ ih=>exact .cons (f _ _ r) ih
theorem cz.stay (x:cz P w H h a o) (k:∀ b u,(b=a∨H b=some (.own a))->h.get? b=some u->h'.get? b=some u)
 (ho:∀ b,H b=some (.own a)->H' b=some (.own a)) (ht:∀ b xs,H b=some (.tup xs)->H' b=some (.tup xs)):cz P w H' h' a o:=by
 induction o with
 | lst xs=>obtain ⟨z,its,n,r,e⟩:=x;exact ⟨z,its,n,r,k _ _ (.inl rfl) e⟩
 | tup xs=>obtain ⟨z,its,r,ob,e,c⟩:=x;exact ⟨z,its,r,ob,k _ _ (.inl rfl) e,c⟩
 | dK kvs=>obtain ⟨z,y,vs,r,ob,es,ep,e,c⟩:=x;exact ⟨z,y,vs,r,ob,es,ep,k _ _ (.inl rfl) e,c⟩
 | dT kvs=>
  obtain ⟨z,y,xs,r,ob,es,ep,e,c⟩:=x;exact ⟨z,y,xs,Paired.mapP r λ p q z=>⟨z.1,ht _ _ z.2.1,z.2.2⟩,ob,es,ep,k _ _ (.inl rfl) e,c⟩
 | dN kvs=>
  obtain ⟨z,y,xs,r,ob,es,ep,e,c⟩:=x;exact ⟨z,y,xs,Paired.mapP r λ p q z=>⟨z.1,z.2.1.imp id λ hy0=>by obtain ⟨n,b,e1,e2⟩:=hy0;exact ⟨n,b,e1,ht _ _ e2⟩,z.2.2⟩,ob,es,ep,k _ _ (.inl rfl) e,c⟩
 | set S n=>obtain ⟨ob,es,ep,t,e,c⟩:=x;exact ⟨ob,es,ep,t,k _ _ (.inl rfl) e,c⟩
 | ins C dx fs=>
  obtain ⟨d,z,ne,e,mA,⟨od,es,ep,e2,c⟩,r⟩:=x;exact ⟨ho _ d,z,ne,k _ _ (.inl rfl) e,mA,⟨od,es,ep,k _ _ (.inr d) e2,c⟩,r⟩
 | own y=>obtain ⟨ob,e⟩:=x;exact ⟨ob,k _ _ (.inl rfl) e⟩
 | xd fs=>obtain ⟨mA,⟨od,es,ep,e,c⟩,r⟩:=x;exact ⟨mA,⟨od,es,ep,k _ _ (.inl rfl) e,c⟩,r⟩
 | rng lo hi=>obtain ⟨t,u,v,e⟩:=x;exact ⟨t,u,v,k _ _ (.inl rfl) e⟩
 | frz ob u ih=>obtain ⟨e,q⟩:=x;exact ⟨k _ _ (.inl rfl) e,ih q⟩
 | tbl ps=>
  have e:h.get? a=some { cls:=.none,data:=.fields ps }:=x;show h'.get? a=some { cls:=.none,data:=.fields ps };exact k a _ (.inl rfl) e
 | met f y=>
  have e:h.get? a=some (PySem.W.methodObj (.ref f) (.ref y)):=x;show h'.get? a=some (PySem.W.methodObj (.ref f) (.ref y));exact k a _ (.inl rfl) e
 | ext φ=>obtain ⟨p,⟨o,e⟩,st⟩:=x;exact ⟨st _ _ p λ o q=>k _ _ (.inl rfl) q,⟨o,k _ _ (.inl rfl) e⟩,st⟩
theorem iY.lt (x:iY P w H h) (e:H a=some o):a<h.objs.size:=(x a o e).lt
theorem iY.fresh (x:iY P w H h) (e:h.objs.size<=a):H a=none:=by
 cases q:H a with
 | none=>rfl
 | some u=>exact absurd (ON (x.lt q) e) (Ps _)
theorem iY.kept (x:iY P w H h) (k:∀ b u,h.get? b=some u->h'.get? b=some u):iY P w H h':=λ a o e=>
 (x a o e).stay (λ b u _ q=>k b u q) (λ _ q=>q) λ _ _ q=>q
theorem iY.laid (x:iY P w H h) (k:∀ b u,h.get? b=some u->h'.get? b=some u) (hp:h.objs.size<=a) (new:cz P w (cE H a o) h' a o):iY P w (cE H a o) h':=λ b u e=>by
 have hn:=x.fresh hp;by_cases hb:b=a
 . subst hb;rw [aG] at e;cases e;exact new
 . rw [aM hb] at e;exact (x b u e).stay (λ c v _ q=>k c v q) (λ c q=>by rw [aM (dQ q hn)];exact q) λ c xs q=>by rw [aM (dQ q hn)];exact q
end
noncomputable def Rd (H:Hp) (a:Addr) (u:HO):Prop:=H a=some u∨∃ o,H a=some (.frz o u)
theorem Rd.ok {P:Program} {w:World} {H:Hp} {h:Heap} {a:Addr} {u:HO} (r:Rd H a u) (x:iY P w H h):cz P w H h a u:=by
 rcases r with r | ⟨o,r⟩
 . exact x a u r
 . obtain ⟨_,q⟩:=x a _ r;exact q
noncomputable def Jd:Option HO->Prop
 | some (.lst _)=>True
 | some (.dK _)=>True
 | some (.dT _)=>True
 | some (.dN _)=>True
 | some (.set _ _)=>True
 | some (.ins _ _ _)=>True
 | some (.ext _)=>True
 | _=>False
section
variable {P:Program} {w:World} {H:Hp} {h h':Heap} {x e:Addr} {o':HO}
theorem iY.write (ok:iY P w H h) (mu:Jd (H x)) (he:e=x∨H e=some (.own x)) (k:∀ b u,b≠e->h.get? b=some u->h'.get? b=some u) (heo:∃ u,h'.get? e=some u)
 (new:cz P w (cE H x o') h' x o'):iY P w (cE H x o') h':=λ b u q=>by
 have nown:∀ c y,H c=some (.own y)->c≠x:=λ c y r z=>by subst z;rw [r] at mu;exact mu
 have ntup:∀ c xs,H c=some (.tup xs)->c≠x:=λ c xs r z=>by subst z;rw [r] at mu;exact mu
 by_cases hb:b=x
 . subst hb;rw [aG] at q;cases q;exact new
 . rw [aM hb] at q;by_cases hbe:b=e
   . have q':H b=some (.own x):=by
      rcases he with z | z
      . exact absurd (hbe.trans z) hb
      . rw [hbe];exact z
     rw [q] at q';cases q';obtain ⟨v,hv⟩:=heo;exact ⟨v,by rw [hbe];exact hv⟩
   . refine (ok b u q).stay (λ c v hc r=>k c v ?_ r) (λ c r=>by rw [aM (nown c b r)];exact r) λ c xs r=>by rw [aM (ntup c xs r)];exact r
     rcases hc with rfl | hc
     . exact hbe
     . rintro rfl;rcases he with z | z
       . exact nown c b hc z
       . rw [hc] at z;cases z;exact hb rfl
end
structure Un (fs ex:List Addr) (H H':Hp) (h h':Heap):Prop where
 keep:∀ b o,h.get? b=some o->H b=none->b∉fs->b∉ex->h'.get? b=some o
 slot:∀ b o,h.get? b=some o->H b=none->b∈fs->b∉ex->∃ sl,h'.get? b=some { o with slots:=sl }
 free:∀ b o,h.get? b=some o->H b=none->b∉ex->H' b=none
 there:∀ b o,h.get? b=some o->b∉ex->∃ o',h'.get? b=some o'
 tups:∀ b xs,H b=some (.tup xs)->H' b=some (.tup xs)
 frzs:∀ b o u,H b=some (.frz o u)->H' b=some (.frz o u)
 tbls:∀ b ps,H b=some (.tbl ps)->∃ more,H' b=some (.tbl (ps++more))
section
variable {fs fs' ex ex':List Addr} {H H1 H2:Hp} {h h1 h2 h':Heap} {a x e:Addr} {o:HO}
theorem Un.any (u:Un fs ex H H1 h h1) {b:Addr} {ob:Obj} (q:h.get? b=some ob) (n:H b=none) (hx:b∉ex):∃ sl,h1.get? b=some { ob with slots:=sl }:=by
 by_cases hb:b∈fs
 . exact u.slot b ob q n hb hx
 . exact ⟨ob.slots,u.keep b ob q n hb hx⟩
theorem Un.kept (k:∀ b u,h.get? b=some u->h'.get? b=some u):Un fs ex H H h h':=
 ⟨λ b ob q _ _ _=>k b ob q,λ b ob q _ _ _=>⟨ob.slots,k b ob q⟩,λ _ _ _ n _=>n,λ b ob q _=>⟨ob,k b ob q⟩,λ _ _ q=>q,λ _ _ _ q=>q,λ _ ps q=>⟨#[],by rw [q];simp⟩⟩
theorem Un.refl:Un fs ex H H h h:=Un.kept λ _ _ q=>q
theorem Un.laid (k:∀ b u,h.get? b=some u->h'.get? b=some u) (hp:h.objs.size<=a) (hn:H a=none):Un fs ex H (cE H a o) h h' where
 keep:=λ b u q _ _ _=>k b u q
 slot:=λ b u q _ _ _=>⟨u.slots,k b u q⟩
 free:=λ b u q n _=>by rw [aM (Ph (ON (OS q) hp))];exact n
 there:=λ b u q _=>⟨u,k b u q⟩
 tups:=λ b xs q=>by rw [aM (dQ q hn)];exact q
 frzs:=λ b u xs q=>by rw [aM (dQ q hn)];exact q
 tbls:=λ b ps q=>⟨#[],by rw [aM (dQ q hn),q];simp⟩
theorem Un.write (mu:Jd (H x)) (he:e=x∨H e=some (.own x)) (k:∀ b u,b≠e->h.get? b=some u->h'.get? b=some u) (heo:∃ u,h'.get? e=some u):Un fs ex H (cE H x o) h h':=by
 have hx:∀ b,H b=none->b≠x:=λ b n z=>by subst z;rw [n] at mu;exact mu
 have hb:∀ b,H b=none->b≠e:=λ b n z=>by
  subst z;rcases he with r | r
  . exact hx b n r
  . rw [n] at r;cases r
 have hm:∀ b u,H b=some u->¬ Jd (some u)->b≠x:=λ b u q nm z=>by subst z;rw [q] at mu;exact nm mu
 refine ⟨λ b u q n _ _=>k b u (hb b n) q,λ b u q n _ _=>⟨u.slots,k b u (hb b n) q⟩,λ b u q n _=>by rw [aM (hx b n)];exact n,λ b u q _=>?_,
  λ b xs q=>by rw [aM (hm b _ q λ z=>z)];exact q,λ b u xs q=>by rw [aM (hm b _ q λ z=>z)];exact q,λ b ps q=>⟨#[],by rw [aM (hm b _ q λ z=>z),q];simp⟩⟩
 by_cases hbe:b=e
 . subst hbe;exact heo
 . exact ⟨u,k b u hbe q⟩
end
noncomputable def Kv (h:Heap) (H:Hp):List Addr:=(List.range h.objs.size).filter λ a=>(H a).isSome
noncomputable def sN (h:Heap) (H:Hp):Heap:=PySem.W.hideAll h (Kv h H)
theorem wN (h:Heap) (H:Hp):(sN h H).objs.size=h.objs.size:=PySem.W.hideAll_size _ _
theorem zh {h:Heap} {H:Hp} {b:Addr} {o:Obj} (e:h.get? b=some o) (n:H b=none):(sN h H).get? b=some o:=
 PySem.W.hideAll_get _ e λ hm=>by
  have q:(H b).isSome=true:=(List.mem_filter.mp hm).2;rw [n] at q;simp at q
theorem BI {h:Heap} {H:Hp} {b:Addr} {o:Obj} (e:(sN h H).get? b=some o):h.get? b=some o/\H b=none:=by
 have e':h.get? b=some o:=PySem.W.of_hideAll (Kv h H) e;refine ⟨e',?_⟩;cases q:H b with
 | none=>rfl
 | some x=>
  have hm:b∈Kv h H:=List.mem_filter.mpr ⟨List.mem_range.mpr (OS e'),by simp [q]⟩;have z:(sN h H).get? b=none:=PySem.W.hideAll_none (Kv h H) hm;rw [z] at e;cases e
noncomputable def AK (g h:Heap) (L:Addr):List (Addr×Obj):=(List.range h.objs.size).filterMap λ a=>if a=L∨(g.get? a).isSome=true then none else (h.get? a).map λ o=>(a,o)
noncomputable def mz (g h:Heap) (L d:Addr):List (Addr×Obj):=(AK g h L).filter λ p=>decide (p.1≠d)
end L2
namespace L2
open PySem PySem.Spec PyProof.Rows
open PySem.W (Frag)
structure Mod (K:Frag) (mg:Str->Option Value) (base:Heap):Prop where
 kin:K.In base
 glob:base.Ns mainGlobals mg
 blt:∃ mb,base.Ns builtinsNs mb/\∀ x:Str,x ≠ "__name__" -> mb x=bootBuiltins x
 nolimit:base.NoLimit
structure Cx where
 prog:Program
 w:World
 K:Frag
 mg:Str->Option Value
 base:Heap
 A:Around
 N:List Str
 s₀:Shared
 H₀:Hp
 env:Env
 outer:List Env
 stack:List Env
 ex:List Addr
 fn:Str->Bool
 calm:Bool
 pn:List (Addr×Obj)
 xe:Value->Shared->Prop
noncomputable def j3 (l:List Env):List Addr:=l.filterMap (·.frame)
noncomputable abbrev Cx.fs (X:Cx):List Addr:=j3 X.outer
noncomputable def Kz (sc:Scope) (x:Str):Prop:=sc.names.lookup x=some .local∨sc.names.lookup x=some .cell∨sc.names.lookup x=some .free
noncomputable def Eg (sc:Scope) (x:Str):Prop:=sc.names.lookup x=some .local∨sc.names.lookup x=some .cell
noncomputable def L0 (env:Env) (h:Heap) (m:Str->Option Value) (x:Str) (u:Value):Prop:=
 (env.kindOf x=some .local/\m x=some u)∨((env.kindOf x=some .cell∨env.kindOf x=some .free)/\∃ c,env.cells.lookup x=some c/\h.IsCell c (some u))
structure Cx.Ok (X:Cx):Prop where
 mod:Mod X.K X.mg X.base
 kind:X.env.scope.kind=.function
 glob:X.env.globals=mainGlobals
 blt:X.env.builtins=builtinsNs
 above:X.s₀.heap.objs.size<=X.env.locals
 inj:∀ x y c,X.env.cells.lookup x=some c->X.env.cells.lookup y=some c->x=y
 has:∀ x,(X.env.kindOf x=some .cell∨X.env.kindOf x=some .free)->∃ c,X.env.cells.lookup x=some c
 cab:∀ x c,X.fn x=true->X.env.cells.lookup x=some c->X.s₀.heap.objs.size<=c
 hd:X.calm=true->X.A.handled=none
 frames:X.A.frames=some X.stack
 stk:X.stack=X.outer∨(X.stack=X.env::X.outer/\X.env.frame=some X.env.locals)
 exf:∀ b∈X.ex,b≠X.env.locals/\∀ x c,X.env.cells.lookup x=some c->c≠b
 bs:∀ b o,X.base.get? b=some o->X.s₀.heap.get? b=some o/\X.H₀ b=none
 bsz:X.base.objs.size<=X.s₀.heap.objs.size
 noex:∀ b o,X.base.get? b=some o->b∉X.ex
 exfs:∀ b∈X.ex,b∉X.fs
 funs:X.s₀.heap.FunFrames X.base X.outer
 frf:∀ b∈X.fs,X.H₀ b=none
structure aJ (X:Cx) (pins:List (Addr×Obj)) (σ:List (Option V)) (H:Hp) (s:Shared):Prop where
 ok:X.Ok
 os:s.os=X.s₀.os
 bare:AllBare s.gens
 base:Un X.fs X.ex X.H₀ H X.s₀.heap s.heap
 loc:∃ m,s.heap.Ns X.env.locals m/\∀ (i:Nat) (x:Str) (v:V),X.N[i]?=some x->σ[i]?=some (some v)->Kz X.env.scope x->∃ u,bq v u/\L0 X.env s.heap m x u
 cell:∀ x c,X.env.cells.lookup x=some c->∃ v,s.heap.IsCell c v
 free:H X.env.locals=none
 freeC:∀ x c,X.env.cells.lookup x=some c->H c=none
 pin:∀ p∈X.pn++pins,s.heap.get? p.1=some p.2/\H p.1=none/\p.1≠X.env.locals/\p.1∉X.fs/\∀ v,p.2.data≠.cell v
 hok:iY X.prog X.w H s.heap
 len:σ.length=X.N.length
section
variable {X:Cx} {pins:List (Addr×Obj)} {σ:List (Option V)} {H H':Hp} {s:Shared} {h':Heap}
theorem Cx.Ok.nofr (ok:X.Ok) {b:Addr} {o:Obj} (e:X.base.get? b=some o):b∉X.fs:=λ hb=>by
 have:=(ok.funs.mem hb).1;rw [e] at this;cases this
theorem aJ.bs (I:aJ X pins σ H s):∀ b o,X.base.get? b=some o->s.heap.get? b=some o/\H b=none:=λ b o e=>
 ⟨I.base.keep b o (I.ok.bs b o e).1 (I.ok.bs b o e).2 (I.ok.nofr e) (I.ok.noex b o e),I.base.free b o (I.ok.bs b o e).1 (I.ok.bs b o e).2 (I.ok.noex b o e)⟩
theorem aJ.bk (I:aJ X pins σ H s):∀ b o,X.base.get? b=some o->s.heap.get? b=some o:=λ b o e=>(I.bs b o e).1
theorem aJ.mod (I:aJ X pins σ H s):Mod X.K X.mg X.base:=I.ok.mod
theorem aJ.kIn (I:aJ X pins σ H s):X.K.In s.heap:=I.ok.mod.kin.keeps I.bk
theorem aJ.lt (I:aJ X pins σ H s):X.env.locals<s.heap.objs.size:=by obtain ⟨_,hn,_⟩:=I.loc;exact hn.lt
theorem aJ.sz (I:aJ X pins σ H s):X.s₀.heap.objs.size<=s.heap.objs.size:=OY I.ok.above (PX I.lt)
theorem aJ.nofs (I:aJ X pins σ H s) {a:Addr} (h:s.heap.objs.size<=a):a∉X.fs:=λ hb=>by
 obtain ⟨_,o,ho,_⟩:=I.ok.funs.mem hb;exact absurd (ON (OS ho) (OY I.sz h)) (Ps _)
theorem aJ.cne (I:aJ X pins σ H s):∀ x c,X.env.cells.lookup x=some c->c≠X.env.locals:=λ x c e z=>by
 obtain ⟨v,o,ho,hd⟩:=I.cell x c e;obtain ⟨m,⟨o',es,ep,ho',hd',_⟩,_⟩:=I.loc;rw [z,ho'] at ho;cases ho;rw [hd'] at hd;cases hd
theorem aJ.funs (I:aJ X pins σ H s):s.heap.FunFrames X.base X.outer:=by
 have all:∀ (l:List Env),(∀ b∈j3 l,b∈X.fs)->X.s₀.heap.FunFrames X.base l->s.heap.FunFrames X.base l:=by
  intro l;induction l with
  | nil=>intro _ _;trivial
  | cons env r ih=>
   intro hs hl;obtain ⟨hk,⟨L,o,hf,hn,ho,hd⟩,hr⟩:=hl;have hL:L∈X.fs:=hs L (by unfold j3;rw [List.filterMap_cons,hf];exact Pc);obtain ⟨sl,e⟩:=I.base.slot L o ho (I.ok.frf L hL) hL λ z=>I.ok.exfs L z hL;exact ⟨hk,⟨L,_,hf,hn,e,hd⟩,ih (λ b hb=>hs b (by unfold j3;rw [List.filterMap_cons,hf];exact Pd _ hb)) hr⟩
 exact all X.outer (λ _ hb=>hb) I.ok.funs
theorem aJ.stack (I:aJ X pins σ H s):s.heap.FunFrames X.base X.stack:=by
 rcases I.ok.stk with e | ⟨e,hf⟩
 . rw [e];exact I.funs
 . rw [e];obtain ⟨m,hn,_⟩:=I.loc;refine .cons (by rw [I.ok.kind];decide) hf hn ?_ I.funs;exact Heap.get?_none_of_le (OY I.ok.bsz I.ok.above)
theorem aJ.stkSub (I:aJ X pins σ H s):∀ b∈j3 X.stack,b∈X.env.locals::X.fs:=λ b hb=>by
 rcases I.ok.stk with e | ⟨e,hf⟩
 . rw [e] at hb;exact Pd _ hb
 . rw [e] at hb;unfold j3 at hb;rw [List.filterMap_cons,hf] at hb;exact hb
theorem aJ.stkFree (I:aJ X pins σ H s):∀ b∈j3 X.stack,H b=none:=λ b hb=>by
 rcases OO.mp (I.stkSub b hb) with e | hb
 . rw [e];exact I.free
 . obtain ⟨_,o,ho,_⟩:=I.ok.funs.mem hb;exact I.base.free b o ho (I.ok.frf b hb) λ z=>I.ok.exfs b z hb
theorem aJ.step {g':Array GenState} {t':Nat} {d':Drawn} {ch:List Addr} (I:aJ X pins σ H s)
 (hch:∀ b∈ch,(b∈X.ex∨X.s₀.heap.objs.size<=b)/\b≠X.env.locals/\(∀ x c,X.env.cells.lookup x=some c->c≠b)/\∀ p∈X.pn++pins,p.1≠b)
 (keep:∀ b o,b≠X.env.locals->b∉X.fs->b∉ch->s.heap.get? b=some o->H b=none->h'.get? b=some o)
 (slot:∀ b o,b≠X.env.locals->b∈X.fs->b∉ch->s.heap.get? b=some o->H b=none->∃ sl,h'.get? b=some { o with slots:=sl }) (free:∀ b o,b∉ch->s.heap.get? b=some o->H b=none->H' b=none)
 (there:∀ b o,b∉ch->s.heap.get? b=some o->∃ o',h'.get? b=some o')
 (tups:∀ b xs,H b=some (.tup xs)->H' b=some (.tup xs)) (frzs:∀ b o u,H b=some (.frz o u)->H' b=some (.frz o u)) (tbls:∀ b ps,H b=some (.tbl ps)->∃ more,H' b=some (.tbl (ps++more)))
 (ns:∀ m,s.heap.Ns X.env.locals m->h'.Ns X.env.locals m) (hok:iY X.prog X.w H' h') (hg:AllBare g'):
 aJ X pins σ H' { s with heap:=h',gens:=g',drawn:=d',toks:=t' }:=by
 have neL:∀ b o,X.s₀.heap.get? b=some o->b≠X.env.locals:=λ b o e=>Ph (ON (OS e) I.ok.above);have neC:∀ b o,X.s₀.heap.get? b=some o->b∉X.ex->b∉ch:=λ b o e hx hb=>by
  rcases (hch b hb).1 with z | z
  . exact hx z
  . exact absurd (ON (OS e) z) (Ps _)
 have cellK:∀ x c,X.env.cells.lookup x=some c->∀ v,s.heap.IsCell c v->h'.IsCell c v:=λ x c e v hy0=>by
  obtain ⟨o,ho,hd⟩:=hy0;have nch:c∉ch:=λ z=>(hch c z).2.2.1 x c e rfl;by_cases hc:c∈X.fs
  . obtain ⟨sl,q⟩:=slot c o (I.cne x c e) hc nch ho (I.freeC x c e);exact ⟨_,q,hd⟩
  . exact ⟨o,keep c o (I.cne x c e) hc nch ho (I.freeC x c e),hd⟩
 refine ⟨I.ok,I.os,hg,⟨λ b o e n hb hx=>?_,λ b o e n hb hx=>?_,λ b o e n hx=>?_,λ b o e hx=>?_,λ b xs e=>tups b xs (I.base.tups b xs e),λ b o xs e=>frzs b o xs (I.base.frzs b o xs e),λ b ps e=>?_⟩,?_,λ x c e=>?_,?_,λ x c e=>?_,λ p hp=>?_,hok,I.len⟩
 . exact keep b o (neL b o e) hb (neC b o e hx) (I.base.keep b o e n hb hx) (I.base.free b o e n hx)
 . obtain ⟨sl,e1⟩:=I.base.slot b o e n hb hx;obtain ⟨sl',e2⟩:=slot b _ (neL b o e) hb (neC b o e hx) e1 (I.base.free b o e n hx);exact ⟨sl',e2⟩
 . obtain ⟨o',e1⟩:=I.base.there b o e hx;exact free b o' (neC b o e hx) e1 (I.base.free b o e n hx)
 . obtain ⟨o',e1⟩:=I.base.there b o e hx;exact there b o' (neC b o e hx) e1
 . obtain ⟨m1,e1⟩:=I.base.tbls b ps e;obtain ⟨m2,e2⟩:=tbls b _ e1;exact ⟨m1++m2,by rw [e2,Array.append_assoc]⟩
 . obtain ⟨m,hn,hl⟩:=I.loc;refine ⟨m,ns m hn,λ i x v e1 e2 e3=>?_⟩;obtain ⟨u,r,l⟩:=hl i x v e1 e2 e3;refine ⟨u,r,?_⟩;rcases l with l | ⟨k,c,e,z⟩
   . exact .inl l
   . exact .inr ⟨k,c,e,cellK x c e _ z⟩
 . obtain ⟨v,z⟩:=I.cell x c e;exact ⟨v,cellK x c e v z⟩
 . obtain ⟨m,⟨o,_,_,ho,_⟩,_⟩:=I.loc;exact free _ o (λ z=>(hch _ z).2.1 rfl) ho I.free
 . obtain ⟨v,o,ho,hd⟩:=I.cell x c e;exact free c o (λ z=>(hch c z).2.2.1 x c e rfl) ho (I.freeC x c e)
 . obtain ⟨e,n,ne,nf,d⟩:=I.pin p hp;have nch:p.1∉ch:=λ z=>(hch p.1 z).2.2.2 p hp rfl;exact ⟨keep p.1 p.2 ne nf nch e n,free p.1 p.2 nch e n,ne,nf,d⟩
theorem aJ.un {t':Nat} (I:aJ X pins σ H s) (u:Un X.fs [] H H' s.heap h') (hok:iY X.prog X.w H' h'):aJ X pins σ H' { s with heap:=h',toks:=t' }:=by
 obtain ⟨m,⟨o,es,ep,ho,r⟩,_⟩:=id I.loc;obtain ⟨sl,hL⟩:=u.any ho I.free (by simp);exact I.step (g':=s.gens) (d':=s.drawn) (ch:=[]) (λ _ z=>nomatch z) (λ b o _ hb _ e n=>u.keep b o e n hb (by simp)) (λ b o _ hb _ e n=>u.slot b o e n hb (by simp)) (λ b o _ e n=>u.free b o e n (by simp)) (λ b o _ e=>u.there b o e (by simp)) u.tups u.frzs u.tbls (λ m' hm=>by
  obtain ⟨o',es',ep',ho',r'⟩:=hm;rw [ho] at ho';cases ho';exact ⟨_,es',ep',hL,r'⟩) hok I.bare
theorem aJ.call {g':Array GenState} {t':Nat} {d':Drawn} {ch:List Addr} (I:aJ X pins σ H s) (u:Un (j3 X.stack) ch H H' s.heap h') (hok:iY X.prog X.w H' h') (hg:AllBare g')
 (hch:∀ b∈ch,(b∈X.ex∨X.s₀.heap.objs.size<=b)/\b≠X.env.locals/\(∀ x c,X.env.cells.lookup x=some c->c≠b)/\∀ p∈X.pn++pins,p.1≠b):
 aJ X pins σ H' { s with heap:=h',gens:=g',drawn:=d',toks:=t' }:=by
 obtain ⟨m,⟨o,es,ep,ho,r⟩,_⟩:=id I.loc;obtain ⟨sl,hL⟩:=u.any ho I.free λ z=>(hch _ z).2.1 rfl;exact I.step (ch:=ch) hch (λ b o hL hb hc e n=>u.keep b o e n (λ z=>(OO.mp (I.stkSub b z)).elim hL hb) hc) (λ b o _ _ hc e n=>u.any e n hc) (λ b o hc e n=>u.free b o e n hc) (λ b o hc e=>u.there b o e hc) u.tups u.frzs u.tbls (λ m' hm=>by
  obtain ⟨o',es',ep',ho',r'⟩:=hm;rw [ho] at ho';cases ho';exact ⟨_,es',ep',hL,r'⟩) hok hg
theorem aJ.turned {t':Nat} {it:Addr} (I:aJ X pins σ H s) (k:∀ b o,b≠it->s.heap.get? b=some o->h'.get? b=some o) (hn:H it=none) (hL:it≠X.env.locals)
 (h1:it∈X.ex∨X.s₀.heap.objs.size<=it) (h2:∀ x c,X.env.cells.lookup x=some c->c≠it) (h3:∀ p∈X.pn++pins,p.1≠it):aJ X pins σ H { s with heap:=h',toks:=t' }:=by
 have nit:∀ b u,H b=some u->b≠it:=λ b u e z=>by rw [z,hn] at e;cases e
 refine I.step (g':=s.gens) (d':=s.drawn) (ch:=[it]) (λ b hb=>?_) (λ b o _ _ hc e _=>k b o (λ z=>hc (by simp [z])) e) (λ b o _ _ hc e _=>⟨o.slots,k b o (λ z=>hc (by simp [z])) e⟩) (λ _ _ _ _ n=>n)
  (λ b o hc e=>⟨o,k b o (λ z=>hc (by simp [z])) e⟩) (λ _ _ e=>e) (λ _ _ _ e=>e) (λ b ps e=>⟨#[],by rw [e];simp⟩) (λ m hm=>?_) (λ b u e=>?_) I.bare
 . have e:b=it:=by simpa using hb
   subst e;exact ⟨h1,hL,h2,h3⟩
 . obtain ⟨o,es,ep,ho,r⟩:=hm;exact ⟨o,es,ep,k _ o (Qu hL) ho,r⟩
 . refine (I.hok b u e).stay (λ c v hc q=>k c v ?_ q) (λ _ q=>q) λ _ _ q=>q;rcases hc with z | z
   . rw [z];exact nit b u e
   . exact nit c _ z
theorem aJ.tok (I:aJ X pins σ H s) (t:Nat):aJ X pins σ H { s with toks:=t }:=I.un (h':=s.heap) (t':=t) Un.refl I.hok
theorem aJ.kept {t':Nat} (I:aJ X pins σ H s) (k:∀ b u,s.heap.get? b=some u->h'.get? b=some u):aJ X pins σ H { s with heap:=h',toks:=t' }:=I.un (Un.kept k) (I.hok.kept k)
theorem aJ.laid {a:Addr} {o:HO} {t':Nat} (I:aJ X pins σ H s) (k:∀ b u,s.heap.get? b=some u->h'.get? b=some u) (hp:s.heap.objs.size<=a) (new:cz X.prog X.w (cE H a o) h' a o):
 aJ X pins σ (cE H a o) { s with heap:=h',toks:=t' }:=I.un (Un.laid k hp (I.hok.fresh hp)) (I.hok.laid k hp new)
theorem aJ.write {x e:Addr} {o:HO} {t':Nat} (I:aJ X pins σ H s) (mu:Jd (H x)) (he:e=x∨H e=some (.own x)) (k:∀ b u,b≠e->s.heap.get? b=some u->h'.get? b=some u) (heo:∃ u,h'.get? e=some u)
 (new:cz X.prog X.w (cE H x o) h' x o):aJ X pins σ (cE H x o) { s with heap:=h',toks:=t' }:=I.un (Un.write mu he k heo) (I.hok.write mu he k heo new)
theorem aJ.weak {σ':List (Option V)} (I:aJ X pins σ H s) (hl:σ'.length=σ.length) (w:∀ (i:Nat) v,σ'[i]?=some (some v)->σ[i]?=some (some v)):aJ X pins σ' H s:=
 ⟨I.ok,I.os,I.bare,I.base,by obtain ⟨m,hn,hl'⟩:=I.loc;exact ⟨m,hn,λ i x v e1 e2 e3=>hl' i x v e1 (w i v e2) e3⟩,I.cell,I.free,I.freeC,I.pin,I.hok,hl.trans I.len⟩
theorem aJ.pins_of {pins':List (Addr×Obj)} (I:aJ X pins σ H s) (h:∀ p∈pins',s.heap.get? p.1=some p.2/\H p.1=none/\p.1≠X.env.locals/\p.1∉X.fs/\∀ v,p.2.data≠.cell v):aJ X pins' σ H s:=
 ⟨I.ok,I.os,I.bare,I.base,I.loc,I.cell,I.free,I.freeC,λ p hp=>(Pe.mp hp).elim (λ z=>I.pin p (List.mem_append_left _ z)) (h p),I.hok,I.len⟩
theorem u3 {N:List Str} (hN:N.Nodup) {i j:Nat} {x:Str} (a:N[i]?=some x) (b:N[j]?=some x):i=j:=by
 obtain ⟨h1,e1⟩:=oG a
 obtain ⟨h2,e2⟩:=oG b
 exact (List.getElem_inj hN).mp (e1.trans e2.symm)
theorem qQ {M:Model} {A:Around} {E:Value->Shared->Prop} {i:Nat} {x:Str} {v:V} {u:Value} {Q:Unit->Shared->Prop} (I:aJ X pins σ H s) (hN:X.N.Nodup) (hi:X.N[i]?=some x) (hx:Eg X.env.scope x) (r:bq v u)
 (h:∀ s',aJ X pins (σ.set i (some v)) H s'->(∃ a,Heap.SameBut a s.heap s'.heap/\(a=X.env.locals∨X.env.cells.lookup x=some a))->Q () s') (hf:X.fn x=true∨X.env.scope.names.lookup x=some .local:=by first | exact .inl rfl | exact .inr rfl | assumption):wpAny M A (storeName X.env x u) Q E s:=by
 obtain ⟨m,hn,hl⟩:=id I.loc;have hcls:(X.env.scope.kind==.class||(X.env.scope.kind==.module&&X.env.locals != X.env.globals))=false:=by rw [I.ok.kind];rfl
 have hiσ:i<σ.length:=by rw [I.len];exact (oG hi).1
 have cne:=I.cne;have tracked:∀ {a:Addr} {h':Heap},(∃ o,s.heap.get? a=some o/\H a=none)->Heap.SameBut a s.heap h'->iY X.prog X.w H h':=λ {a h'} ha hs b ob e=>by
  obtain ⟨_,_,hfree⟩:=ha;refine (I.hok b ob e).stay (λ c w' hc q=>(hs.2 c ?_).trans q) (λ _ q=>q) λ _ _ q=>q;rintro rfl;rcases hc with rfl | hc
  . rw [hfree] at e;cases e
  . rw [hfree] at hc;cases hc
 rcases hx with hk | hk
 . refine wpAny_storeName_local hk hn (λ h' hn' hs=>?_) hcls;obtain ⟨oL,_,_,hoL,_⟩:=id hn;refine h _ ⟨I.ok,I.os,I.bare,⟨λ b o e n hb hx=>?_,λ b o e n hb hx=>?_,I.base.free,λ b o e hx=>?_,I.base.tups,I.base.frzs,I.base.tbls⟩,⟨_,hn',λ j y v' e1 e2 e3=>?_⟩,λ y c e=>?_,I.free,I.freeC,λ p hp=>?_,tracked ⟨oL,hoL,I.free⟩ hs,by simpa using I.len⟩ ⟨_,hs,.inl rfl⟩
   . exact (hs.2 b (Ph (ON (OS e) I.ok.above))).trans (I.base.keep b o e n hb hx)
   . obtain ⟨sl,e1⟩:=I.base.slot b o e n hb hx;exact ⟨sl,(hs.2 b (Ph (ON (OS e) I.ok.above))).trans e1⟩
   . obtain ⟨o',e1⟩:=I.base.there b o e hx;exact ⟨o',(hs.2 b (Ph (ON (OS e) I.ok.above))).trans e1⟩
   . by_cases hj:j=i
     . subst hj;rw [hi] at e1;cases e1;rw [Qe hiσ] at e2;cases e2;exact ⟨u,r,.inl ⟨hk,by simp⟩⟩
     . rw [OU (Qu hj)] at e2;obtain ⟨u',r',q⟩:=hl j y v' e1 e2 e3;refine ⟨u',r',?_⟩;rcases q with ⟨k,e⟩ | ⟨k,c,e,z⟩
       . refine .inl ⟨k,?_⟩;have:y≠x:=λ e=>hj (u3 hN e1 (e▸hi));simp [this,e]
       . exact .inr ⟨k,c,e,z.sameBut hs (cne y c e)⟩
   . obtain ⟨w',z⟩:=I.cell y c e;exact ⟨w',z.sameBut hs (cne y c e)⟩
   . obtain ⟨e,n,ne,nf,d⟩:=I.pin p hp;exact ⟨(hs.2 p.1 ne).trans e,n,ne,nf,d⟩
 . have hfn:X.fn x=true:=by
    rcases hf with z | z
    . exact z
    . rw [z] at hk;cases hk
   obtain ⟨c,hc⟩:=I.ok.has x (.inl hk);obtain ⟨w',z⟩:=I.cell x c hc;refine wpAny_storeName_cell I.ok.kind hk hc z (λ h' hc' hs=>?_);obtain ⟨oc,hoc,hocd⟩:=id z;refine h { s with heap:=h' } ⟨I.ok,I.os,I.bare,⟨λ b o e n hb hx=>?_,λ b o e n hb hx=>?_,I.base.free,λ b o e hx=>?_,I.base.tups,I.base.frzs,I.base.tbls⟩,⟨m,hn.sameBut hs (Qu (cne x c hc)),λ j y v' e1 e2 e3=>?_⟩,λ y c' e=>?_,I.free,I.freeC,λ p hp=>?_,tracked ⟨oc,hoc,I.freeC x c hc⟩ hs,by simpa using I.len⟩ ⟨c,hs,.inr hc⟩
   . exact (hs.2 b (Ph (ON (OS e) (I.ok.cab x c hfn hc)))).trans (I.base.keep b o e n hb hx)
   . obtain ⟨sl,e1⟩:=I.base.slot b o e n hb hx;exact ⟨sl,(hs.2 b (Ph (ON (OS e) (I.ok.cab x c hfn hc)))).trans e1⟩
   . obtain ⟨o',e1⟩:=I.base.there b o e hx;exact ⟨o',(hs.2 b (Ph (ON (OS e) (I.ok.cab x c hfn hc)))).trans e1⟩
   . by_cases hj:j=i
     . subst hj;rw [hi] at e1;cases e1;rw [Qe hiσ] at e2;cases e2;exact ⟨u,r,.inr ⟨.inl hk,c,hc,hc'⟩⟩
     . rw [OU (Qu hj)] at e2;obtain ⟨u',r',q⟩:=hl j y v' e1 e2 e3;refine ⟨u',r',?_⟩;rcases q with q | ⟨k,c',e,z'⟩
       . exact .inl q
       . refine .inr ⟨k,c',e,z'.sameBut hs ?_⟩;rintro rfl;exact hj (u3 hN e1 (I.ok.inj _ _ _ e hc▸hi))
   . by_cases hcc:c'=c
     . subst hcc;exact ⟨_,hc'⟩
     . obtain ⟨w2,z2⟩:=I.cell y c' e;exact ⟨w2,z2.sameBut hs hcc⟩
   . obtain ⟨e,n,ne,nf,d⟩:=I.pin p hp;refine ⟨(hs.2 p.1 ?_).trans e,n,ne,nf,d⟩;intro q;rw [q,hoc] at e;have q':oc=p.2:=Pg e;exact d w' (by rw [<-q'];exact hocd)
theorem ui {M:Model} {A:Around} {E:Value->Shared->Prop} {i:Nat} {x:Str} {v:V} {u:Value} {Q:Unit->Shared->Prop} (I:aJ X pins σ H s) (hN:X.N.Nodup) (hi:X.N[i]?=some x) (hx:Eg X.env.scope x) (r:bq v u)
 (h:∀ s',aJ X pins (σ.set i (some v)) H s'->Q () s') (hf:X.fn x=true∨X.env.scope.names.lookup x=some .local:=by first | exact .inl rfl | exact .inr rfl | assumption):wpAny M A (storeName X.env x u) Q E s:=
 qQ I hN hi hx r (λ s' I' _=>h s' I') hf
theorem aJ.call' {s':Shared} {ch:List Addr} (I:aJ X pins σ H s) (ho:s'.os=s.os) (u:Un (j3 X.stack) ch H H' s.heap s'.heap) (hok:iY X.prog X.w H' s'.heap) (hg:AllBare s'.gens)
 (hch:∀ b∈ch,(b∈X.ex∨X.s₀.heap.objs.size<=b)/\b≠X.env.locals/\(∀ x c,X.env.cells.lookup x=some c->c≠b)/\∀ p∈X.pn++pins,p.1≠b):aJ X pins σ H' s':=by
 obtain ⟨h',g',d',t',o'⟩:=s';have e:o'=s.os:=ho;subst e;exact I.call (g':=g') (t':=t') (d':=d') u hok hg hch
end
noncomputable abbrev XK:=Value->Option Addr->Hp->Prop
noncomputable abbrev St:=List (Option V)
noncomputable abbrev VK:=V->Hp->Prop
noncomputable abbrev TE:=St->Hp->VK->Prop
noncomputable abbrev TT:=St->Hp->(Bool->Hp->Prop)->Prop
noncomputable abbrev TA:=St->Hp->(List V->Hp->Prop)->Prop
structure jm where
 nx:St->Hp->Prop
 rt:VK
 bk:St->Hp->Prop:=λ _ _=>False
 ct:St->Hp->Prop:=λ _ _=>False
noncomputable abbrev TS:=jm->St->Hp->Prop
noncomputable def EP (X:Cx) (pins:List (Addr×Obj)) (σ:St) (Q:VK) (u:Value) (s':Shared):Prop:=∃ v H',aJ X pins σ H' s'/\bq v u/\Q v H'
noncomputable def TP (X:Cx) (pins:List (Addr×Obj)) (σ:St) (Q:Bool->Hp->Prop) (b:Bool) (s':Shared):Prop:=∃ H',aJ X pins σ H' s'/\Q b H'
noncomputable def AP (X:Cx) (pins:List (Addr×Obj)) (σ:St) (Q:List V->Hp->Prop) (us:List Value) (s':Shared):Prop:=∃ vs H',aJ X pins σ H' s'/\bi vs us/\Q vs H'
noncomputable def SP (X:Cx) (pins:List (Addr×Obj)) (D:jm) (f:Flow) (s':Shared):Prop:=
 match f with
 | .next=>∃ σ' H',aJ X pins σ' H' s'/\D.nx σ' H'
 | .brk=>∃ σ' H',aJ X pins σ' H' s'/\D.bk σ' H'
 | .cont=>∃ σ' H',aJ X pins σ' H' s'/\D.ct σ' H'
 | .ret u=>∃ v σ' H',aJ X pins σ' H' s'/\bq v u/\D.rt v H'
noncomputable def PE (X:Cx) (e:Expr) (t:TE):Prop:=
 ∀ (pins:List (Addr×Obj)) (s:Shared) (σ:St) (H:Hp) (Q:VK),aJ X pins σ H s->t σ H Q->wpAny (model X.prog X.w) X.A (eval e X.env) (EP X pins σ Q) X.xe s
noncomputable def PT (X:Cx) (e:Expr) (t:TT):Prop:=
 ∀ (pins:List (Addr×Obj)) (s:Shared) (σ:St) (H:Hp) (Q:Bool->Hp->Prop),aJ X pins σ H s->t σ H Q->wpAny (model X.prog X.w) X.A (isTrue e X.env (eval e X.env)) (TP X pins σ Q) X.xe s
noncomputable def PW (X:Cx) (e:Expr) (t:TT):Prop:=
 ∀ (whole:Sem Value) (pins:List (Addr×Obj)) (s:Shared) (σ:St) (H:Hp) (Q:Bool->Hp->Prop),aJ X pins σ H s->t σ H Q->wpAny (model X.prog X.w) X.A (isTrue e X.env whole) (TP X pins σ Q) X.xe s
theorem PW.pt {X:Cx} {e:Expr} {t:TT} (h:PW X e t):PT X e t:=h _
noncomputable def PA (X:Cx) (es:List Expr) (t:TA):Prop:=
 ∀ (pos:Pos) (pins:List (Addr×Obj)) (s:Shared) (σ:St) (H:Hp) (Q:List V->Hp->Prop),aJ X pins σ H s->t σ H Q->wpAny (model X.prog X.w) X.A (spliced (backTo pos (starEach es X.env))) (AP X pins σ Q) X.xe s
noncomputable def PS (X:Cx) (st:Stmt) (t:TS):Prop:=
 ∀ (pins:List (Addr×Obj)) (s:Shared) (σ:St) (H:Hp) (D:jm),aJ X pins σ H s->t D σ H->wpAny (model X.prog X.w) X.A (exec st X.env) (SP X pins D) X.xe s
noncomputable def nY (X:Cx) (st:List Stmt) (t:TS):Prop:=
 ∀ (pins:List (Addr×Obj)) (s:Shared) (σ:St) (H:Hp) (D:jm),aJ X pins σ H s->t D σ H->wpAny (model X.prog X.w) X.A (execs st X.env) (SP X pins D) X.xe s
theorem bY {α:Type} {t:Sem α} {Q Q':α->Shared->Prop} {M:Model} {A:Around} {E:Value->Shared->Prop} {s:Shared} (h:wpAny M A t Q E s) (hQ:∀ a s,Q a s->Q' a s):wpAny M A t Q' E s:=Pn h hQ λ _ _ x=>x
end L2
namespace L2
open PySem PySem.Spec PyProof.Rows
open PySem.W (Frag)
section
variable {X:Cx}
noncomputable def Bn (i:Nat):TE:=λ σ H Q=>∃ v,σ[i]?=some (some v)/\Q v H
noncomputable def tC (v:V):TE:=λ _ H Q=>Q v H
theorem Lo {i:Nat} {x:Str} {pos:Pos} (hN:X.N[i]?=some x) (hv:Kz X.env.scope x) (hd:(x==("__debug__" : Str))=false) (hcd:(x==("__classdict__" : Str))=false):PE X (.Name x pos) (Bn i):=by
 intro pins s σ H Q I h;obtain ⟨v,e,h⟩:=h;obtain ⟨m,hn,hl⟩:=I.loc;obtain ⟨u,r,l⟩:=hl i x v hN e hv;have fin:EP X pins σ Q u s:=⟨v,H,I,r,h⟩
 rcases l with ⟨hk,hm⟩ | ⟨hk,c,hc,hcell⟩
 . exact wpAny_Name (wpAny_loadName_local I.ok.kind hk hn hm fin) hd
 . rcases hk with hk | hk
   . exact wpAny_Name (wpAny_loadName_cell I.ok.kind hk hc hcell fin) hd
   . exact wpAny_Name (wpAny_loadName_free I.ok.kind hk hc hcell fin hcd) hd
theorem LX {i j pos}:PE X (.Constant (.int i) j pos) (tC (.int i)):=λ _ _ _ H _ I h=>wpAny_Constant_int ⟨.int i,H,I.tok _,⟨_,rfl⟩,h⟩
theorem MW {b j pos}:PE X (.Constant (.bool b) j pos) (tC (.bl b)):=λ _ _ _ H _ I h=>Constant_bool ⟨.bl b,H,I,rfl,h⟩
theorem LA {j pos}:PE X (.Constant .none j pos) (tC .non):=λ _ _ _ H _ I h=>Constant_none ⟨.non,H,I,rfl,h⟩
theorem KY {x j pos}:PE X (.Constant (.str x) j pos) (tC (.str x)):=λ _ _ _ H _ I h=>Calls.Constant_str ⟨.str x,H,I.tok _,⟨_,rfl⟩,h⟩
noncomputable def Gl (X:Cx) (x:Str):Prop:=X.env.kindOf x=some .globalImplicit
theorem hV {E:Value->Shared->Prop} {pins:List (Addr×Obj)} {s:Shared} {σ:St} {H:Hp} {x:Str} {u:Value} {pos:Pos} {Q:Value->Shared->Prop} (I:aJ X pins σ H s) (hg:Gl X x) (hm:X.mg x=some u) (h:Q u s)
 (hd:(x==("__debug__" : Str))=false:=by decide):wpAny (model X.prog X.w) X.A (eval (.Name x pos) X.env) Q E s:=
 Calls.Name_function_global I.ok.kind hg (Calls.loadGlobal_global (by rw [I.ok.glob];exact I.mod.glob.keeps I.bk) hm h) hd
theorem rj {E:Value->Shared->Prop} {pins:List (Addr×Obj)} {s:Shared} {σ:St} {H:Hp} {x:Str} {u:Value} {pos:Pos} {Q:Value->Shared->Prop} (I:aJ X pins σ H s) (hg:Gl X x) (hm:X.mg x=none) (hv:bootBuiltins x=some u) (h:Q u s)
 (hn:x ≠ "__name__" := by decide) (hd:(x==("__debug__" : Str))=false:=by decide):wpAny (model X.prog X.w) X.A (eval (.Name x pos) X.env) Q E s:=by
 obtain ⟨mb,h1,h2⟩:=I.mod.blt;exact Calls.Name_function_global I.ok.kind hg (Calls.loadGlobal_builtin (by rw [I.ok.glob];exact I.mod.glob.keeps I.bk) hm (by rw [I.ok.blt];exact h1.keeps I.bk) ((h2 x hn).trans hv) h) hd
theorem vW {x:Str} {v:V} {u:Value} {pos:Pos} (hg:Gl X x) (hm:X.mg x=some u) (r:bq v u) (hd:(x==("__debug__" : Str))=false:=by decide):PE X (.Name x pos) (tC v):=
 λ _ _ _ H _ I h=>hV I hg hm ⟨v,H,I,r,h⟩ hd
theorem wo {x:Str} {v:V} {u:Value} {pos:Pos} (hg:Gl X x) (hm:X.mg x=none) (hv:bootBuiltins x=some u) (r:bq v u) (hn:x ≠ "__name__" := by decide) (hd:(x==("__debug__" : Str))=false:=by decide):PE X (.Name x pos) (tC v):=
 λ _ _ _ H _ I h=>rj I hg hm hv ⟨v,H,I,r,h⟩ hn hd
variable {a b:Expr} {ta tb:TE} {pos:Pos}
noncomputable def PC (X:Cx) (op:CmpOp) (a b:Expr) (t:TE):Prop:=
 ∀ (pins:List (Addr×Obj)) (s:Shared) (σ:St) (H:Hp) (Q:VK),aJ X pins σ H s->t σ H Q->
  wpAny (model X.prog X.w) X.A (eval a X.env) (λ v s₁=>wpAny (model X.prog X.w) X.A (eval b X.env) (λ u s₂=>wpAny (model X.prog X.w) X.A (compareOp op v u) (EP X pins σ Q) X.xe s₂) X.xe s₁) X.xe s
noncomputable def tB (t:TE):TT:=λ σ H Q=>t σ H λ x H1=>∃ c,x=.bl c/\Q c H1
theorem LP {op:CmpOp} {t:TE} (h:PC X op a b t) (h1:behindInMarks op b=false):PT X (.Compare a [op] [b] pos) (tB t):=by
 intro pins s σ H Q I hw;refine wpAny_isTrue_Compare1 (bY (h pins s σ H _ I hw) λ v s1 h1=>bY h1 λ u s2 h2=>bY h2 λ c s3 hq0=>?_) h1;obtain ⟨x,H1,I1,r1,q1⟩:=hq0;obtain ⟨d,rfl,q⟩:=q1;cases r1;exact PN ⟨H1,I1,q⟩
theorem Md {e:Expr} {t:TE} (h:PE X e t) (he:∀ whole,isTrue e X.env whole=(do let v <-whole;standAt e.pos;holding [v] (truthy v))):PT X e (tB t):=by
 intro pins s σ H Q I hw;refine isTrue_plain (bY (h pins s σ H _ I hw) λ v s1 hq0=>?_) (he _);obtain ⟨x,H1,I1,r1,q1⟩:=hq0;obtain ⟨d,rfl,q⟩:=q1;cases r1;exact PN ⟨H1,I1,q⟩
variable {tA tB':TT} {mz:List Expr}
noncomputable def G8 (t u:TT):TT:=λ σ H Q=>t σ H λ c H1=>if c=true then u σ H1 Q else Q false H1
noncomputable def LU (t u:TT):TT:=λ σ H Q=>t σ H λ c H1=>if c=true then Q true H1 else u σ H1 Q
noncomputable def ET (t:TT):TT:=λ σ H Q=>t σ H λ c H1=>Q (!c) H1
theorem Ks (ha:PT X a tA):PW X (.BoolOp .And [a] pos) tA:=by
 intro wh pins s σ H Q I h;refine isTrue_and (bY (ha pins s σ H Q I h) λ c s1 e=>?_);cases c with
 | true=>exact isTrue_and_nil e
 | false=>exact e
theorem Ml (ha:PT X a tA):PW X (.BoolOp .Or [a] pos) tA:=by
 intro wh pins s σ H Q I h;refine isTrue_or (bY (ha pins s σ H Q I h) λ c s1 e=>?_);cases c with
 | false=>exact isTrue_or_nil e
 | true=>exact e
theorem Lx (ha:PT X a tA) (hb:PW X (.BoolOp .And (b::mz) pos) tB'):PW X (.BoolOp .And (a::b::mz) pos) (G8 tA tB'):=by
 intro wh pins s σ H Q I h;refine isTrue_and (bY (ha pins s σ H _ I h) λ c s1 hq0=>?_);obtain ⟨H1,I1,q1⟩:=hq0;cases c with
 | true=>exact hb wh pins s1 σ H1 Q I1 q1
 | false=>exact ⟨H1,I1,q1⟩
theorem Nq (ha:PT X a tA) (hb:PW X (.BoolOp .Or (b::mz) pos) tB'):PW X (.BoolOp .Or (a::b::mz) pos) (LU tA tB'):=by
 intro wh pins s σ H Q I h;refine isTrue_or (bY (ha pins s σ H _ I h) λ c s1 hq0=>?_);obtain ⟨H1,I1,q1⟩:=hq0;cases c with
 | true=>exact ⟨H1,I1,q1⟩
 | false=>exact hb wh pins s1 σ H1 Q I1 q1
theorem LW (ha:PT X a tA):PT X (.UnaryOp .Not a pos) (ET tA):=by
 intro pins s σ H Q I h;exact isTrue_not (ha pins s σ H (λ c H1=>Q (!c) H1) I h)
noncomputable def Da (ta tb:TE):TE:=λ σ H Q=>ta σ H λ x H1=>∃ c,x=.bl c/\if c=true then tb σ H1 Q else Q (.bl false) H1
theorem Lk {op} {t:TE} (h:PE X a t):PE X (.BoolOp op [a] pos) t:=λ pins s σ H Q I hw=>BoolOp_one (h pins s σ H Q I hw)
theorem LN (ha:PE X a ta) (hb:PE X (.BoolOp .And (b::mz) pos) tb):PE X (.BoolOp .And (a::b::mz) pos) (Da ta tb):=by
 intro pins s σ H Q I h;refine BoolOp_and (bY (ha pins s σ H _ I h) λ v s1 hq0=>?_);obtain ⟨x,H1,I1,r1,q1⟩:=hq0;obtain ⟨c,rfl,q1⟩:=q1;cases r1;refine PN ?_;cases c with
 | true=>exact hb pins s1 σ H1 Q I1 q1
 | false=>exact ⟨.bl false,H1,I1,rfl,q1⟩
noncomputable def Lc (t:TT) (ta tb:TE):TE:=λ σ H Q=>t σ H λ c H1=>if c=true then ta σ H1 Q else tb σ H1 Q
theorem IY {c:Expr} (hc:PT X c tA) (ha:PE X a ta) (hb:PE X b tb):PE X (.IfExp c a b pos) (Lc tA ta tb):=by
 intro pins s σ H Q I h;refine wpAny_IfExp (bY (hc pins s σ H _ I h) λ d s1 hq0=>?_);obtain ⟨H1,I1,q1⟩:=hq0;cases d with
 | true=>exact ha pins s1 σ H1 Q I1 q1
 | false=>exact hb pins s1 σ H1 Q I1 q1
end
end L2
namespace L2
open PySem PySem.Spec PyProof.Rows
open PySem.W (Frag)
noncomputable def eC (K:Frag) (H:Hp) (a:Addr) (xs:List V):Prop:=
 Rd H a (.lst xs)∨
  ∃ (o:Obj) (its:Array Value) (n:Nat),K.lookup a=some o/\o.cls=.type "list" /\ o.dict=none/\o.data=.seq its n/\its.size<=sizeLine/\bi xs its.toList
noncomputable def gW (K:Frag) (H:Hp) (a:Addr) (xs:List V):Prop:=
 Rd H a (.tup xs)∨
  ∃ (o:Obj) (its:Array Value) (n:Nat),K.lookup a=some o/\o.cls=.type "tuple" /\ o.data=.seq its n/\its.size<=sizeLine/\bi xs its.toList
noncomputable def Mj:Value->Option V
 | .none=>some .non
 | .bool b=>some (.bl b)
 | .int i _=>some (.int i)
 | .str x _=>some (.str x)
 | .bytes b _=>some (.byt b)
 | .float b _=>some (.flt b)
 | .ref a=>some (.ref a)
 | .type n=>some (.ty n)
 | _=>none
theorem bq.abs {x:V} {u:Value} (r:bq x u):Mj u=some x:=by
 cases x with
 | non=>cases r;rfl
 | bl _=>cases r;rfl
 | int _=>obtain ⟨t,rfl⟩:=r;rfl
 | str _=>obtain ⟨t,rfl⟩:=r;rfl
 | byt _=>obtain ⟨t,rfl⟩:=r;rfl
 | flt _=>obtain ⟨t,rfl⟩:=r;rfl
 | ref _=>cases r;rfl
 | ty _=>cases r;rfl
theorem bq.inj {x y:V} {u:Value} (r:bq x u) (q:bq y u):x=y:=Pg (r.abs.symm.trans q.abs)
theorem bi.inj {xs ys:List V} {us:List Value} (h:bi xs us) (h':bi ys us):xs=ys:=by
 induction h generalizing ys with
 | nil=>cases h';rfl
 | cons r _ ih=>
  cases h' with
  | cons r' t'=>rw [r.inj r',ih t']
section
variable {X:Cx} {pins:List (Addr×Obj)} {σ:St} {H:Hp} {s:Shared} {a:Addr} {xs ys:List V}
theorem eC.of {K:Frag} (h:H a=some (.lst xs)):eC K H a xs:=.inl (.inl h)
theorem gW.of {K:Frag} (h:H a=some (.tup xs)):gW K H a xs:=.inl (.inl h)
theorem aJ.list (I:aJ X pins σ H s) (h:eC X.K H a xs):∃ its:List Value,bi xs its/\PlainL s.heap a its.toArray/\xs.length<=sizeLine:=by
 rcases h with h | ⟨o,its,n,hk,hc,hd,hs,hz,r⟩
 . obtain ⟨z,its,n,r,e⟩:=h.ok I.hok;exact ⟨its,r,⟨_,n,e,rfl,rfl,rfl⟩,z⟩
 . refine ⟨its.toList,r,⟨o,n,I.kIn a o hk,hc,hd,by simpa using hs⟩,?_⟩;have e:=r.length;simp only [P8] at e;omega
theorem aJ.tuple (I:aJ X pins σ H s) (h:gW X.K H a xs):∃ its:List Value,bi xs its/\IsTup s.heap a its.toArray/\xs.length<=sizeLine:=by
 rcases h with h | ⟨o,its,n,hk,hc,hs,hz,r⟩
 . obtain ⟨z,its,r,p⟩:=h.ok I.hok;exact ⟨its,r,p,z⟩
 . refine ⟨its.toList,r,⟨o,I.kIn a o hk,hc,n,by simpa using hs⟩,?_⟩;have e:=r.length;simp only [P8] at e;omega
theorem aJ.list_inj (I:aJ X pins σ H s) (h:eC X.K H a xs) (h':eC X.K H a ys):xs=ys:=by
 obtain ⟨its,r,⟨o,n,e,_,_,d⟩,_⟩:=I.list h;obtain ⟨its',r',⟨o',n',e',_,_,d'⟩,_⟩:=I.list h';rw [e] at e';cases e';rw [d] at d';injection d' with d1 _
 have:its=its':=by simpa using OI Array.toList d1
 subst this;exact r.inj r'
theorem aJ.tuple_inj (I:aJ X pins σ H s) (h:gW X.K H a xs) (h':gW X.K H a ys):xs=ys:=by
 obtain ⟨its,r,⟨o,e,_,n,d⟩,_⟩:=I.tuple h;obtain ⟨its',r',⟨o',e',_,n',d'⟩,_⟩:=I.tuple h';rw [e] at e';cases e';rw [d] at d';injection d' with d1 _
 have:its=its':=by simpa using OI Array.toList d1
 subst this;exact r.inj r'
end
noncomputable abbrev Cx.wish (X:Cx) (E:Value->Shared->Prop):Cx:={ X with xe:=E }
noncomputable abbrev Cx.nox (X:Cx):Cx:=X.wish λ _ _=>False
theorem Cx.Ok.wish {X:Cx} (ok:X.Ok) (E:Value->Shared->Prop):(X.wish E).Ok:=
 ⟨ok.mod,ok.kind,ok.glob,ok.blt,ok.above,ok.inj,ok.has,ok.cab,ok.hd,ok.frames,ok.stk,ok.exf,ok.bs,ok.bsz,ok.noex,ok.exfs,ok.funs,ok.frf⟩
theorem Cx.Ok.unwish {X:Cx} {E:Value->Shared->Prop} (ok:(X.wish E).Ok):X.Ok:=
 ⟨ok.mod,ok.kind,ok.glob,ok.blt,ok.above,ok.inj,ok.has,ok.cab,ok.hd,ok.frames,ok.stk,ok.exf,ok.bs,ok.bsz,ok.noex,ok.exfs,ok.funs,ok.frf⟩
section
variable {X:Cx} {pins:List (Addr×Obj)} {σ:St} {H:Hp} {s:Shared} {E:Value->Shared->Prop}
theorem aJ.wish (I:aJ X pins σ H s) (E:Value->Shared->Prop):aJ (X.wish E) pins σ H s:=⟨I.ok.wish E,I.os,I.bare,I.base,I.loc,I.cell,I.free,I.freeC,I.pin,I.hok,I.len⟩
theorem aJ.unwish (I:aJ (X.wish E) pins σ H s):aJ X pins σ H s:=⟨I.ok.unwish,I.os,I.bare,I.base,I.loc,I.cell,I.free,I.freeC,I.pin,I.hok,I.len⟩
theorem SP.unwish {D:jm} {f:Flow} {s':Shared} (h:SP (X.wish E) pins D f s'):SP X pins D f s':=by
 cases f with
 | next=>obtain ⟨σ',H',I,q⟩:=h;exact ⟨σ',H',I.unwish,q⟩
 | brk=>obtain ⟨σ',H',I,q⟩:=h;exact ⟨σ',H',I.unwish,q⟩
 | cont=>obtain ⟨σ',H',I,q⟩:=h;exact ⟨σ',H',I.unwish,q⟩
 | ret u=>obtain ⟨v,σ',H',I,r,q⟩:=h;exact ⟨v,σ',H',I.unwish,r,q⟩
theorem nY.nox {st:List Stmt} {t:TS} (h:nY X.nox st t):nY X st t:=λ pins s σ H D I hw=>
 Pn (h pins s σ H D (I.wish _) hw) (λ _ _ q=>q.unwish) λ _ _ z=>False.elim z
end
section
variable {X:Cx} {st:Stmt} {mz:List Stmt} {t u:TS} {e:Expr} {te:TE} {pos:Pos}
noncomputable def Dc:TS:=λ D σ H=>D.nx σ H
noncomputable def Gs (t u:TS):TS:=λ D σ H=>t { D with nx:=u D } σ H
theorem KF:nY X [] Dc:=λ _ _ σ H _ I h=>Ql ⟨σ,H,I,h⟩
theorem J5 (h1:PS X st t) (h2:nY X mz u):nY X (st::mz) (Gs t u):=by
 intro pins s σ H D I h;refine wpAny_execs_cons (bY (h1 pins s σ H { D with nx:=u D } I h) λ f s1 q=>?_);cases f with
 | next=>
  obtain ⟨σ',H',I',q⟩:=q;exact h2 pins s1 σ' H' D I' q
 | ret v=>exact q
 | brk=>exact q
 | cont=>exact q
theorem Kr (h1:PS X st t):nY X [st] t:=by
 intro pins s σ H D I h;refine wpAny_execs_cons (bY (h1 pins s σ H D I h) λ f s1 q=>?_);cases f with
 | next=>exact Ql q
 | ret v=>exact q
 | brk=>exact q
 | cont=>exact q
theorem aJ.quiet {pins:List (Addr×Obj)} {σ:St} {H:Hp} {s:Shared} (I:aJ X pins σ H s):interactive X.env=false:=by simp [interactive,I.ok.kind]
noncomputable def vY (te:TE):TS:=λ D σ H=>te σ H λ _ H1=>D.nx σ H1
theorem KW (he:PE X e te) (hs:swapsWith e none pos.line X.env=pure false):PS X (.Expr e pos) (vY te):=by
 intro pins s σ H D I h;exact wpAny_Expr_any (bY (he pins s σ H _ I h) λ v s1 hy0=>by obtain ⟨x,H1,I1,r1,q1⟩:=hy0;exact ⟨σ,H1,I1,q1⟩) I.quiet hs
noncomputable def Fk (te:TE):TS:=λ D σ H=>te σ H D.rt
theorem Mf (he:PE X e te):PS X (.Return (some e) pos) (Fk te):=by
 intro pins s σ H D I h;exact wpAny_Return_some (bY (he pins s σ H _ I h) λ v s1 hy0=>by obtain ⟨x,H1,I1,r1,q1⟩:=hy0;exact ⟨x,σ,H1,I1,r1,q1⟩)
noncomputable def Do:TS:=λ D _ H=>D.rt .non H
theorem KU:PS X (.Return none pos) Do:=λ _ _ σ H _ I h=>wpAny_Return_none ⟨.non,σ,H,I,rfl,h⟩
noncomputable def Gh (c:TT) (t u:TS):TS:=λ D σ H=>c σ H λ b H1=>if b=true then t D σ H1 else u D σ H1
theorem MR {c:Expr} {a b:List Stmt} {tc:TT} (hc:PT X c tc) (ha:nY X a t) (hb:nY X b u):PS X (.If c a b pos) (Gh tc t u):=by
 intro pins s σ H D I h;refine wpAny_If (bY (hc pins s σ H _ I h) λ d s1 hq0=>?_);obtain ⟨H1,I1,q1⟩:=hq0;cases d with
 | true=>exact ha pins s1 σ H1 D I1 q1
 | false=>exact hb pins s1 σ H1 D I1 q1
noncomputable def yH:TS:=λ _ _ _=>False
theorem HD:PS X st yH:=λ _ _ _ _ _ _ h=>h.elim
end
noncomputable abbrev TG:=V->St->Hp->(St->Hp->Prop)->Prop
noncomputable abbrev yI:=List V->St->Hp->(St->Hp->Prop)->Prop
noncomputable def PG (X:Cx) (target:Expr) (t:TG):Prop:=
 ∀ (pins:List (Addr×Obj)) (s:Shared) (σ:St) (H:Hp) (v:V) (u:Value) (Q:St->Hp->Prop),aJ X pins σ H s->bq v u->t v σ H Q->
  wpAny (model X.prog X.w) X.A (assign target X.env u) (λ _ s'=>∃ σ' H',aJ X pins σ' H' s'/\Q σ' H') X.xe s
noncomputable def GX (X:Cx) (ts:List Expr) (t:yI):Prop:=
 ∀ (pins:List (Addr×Obj)) (s:Shared) (σ:St) (H:Hp) (vs:List V) (us:List Value) (Q:St->Hp->Prop),aJ X pins σ H s->bi vs us->t vs σ H Q->
  wpAny (model X.prog X.w) X.A (assignInOrder ((assignEach ts X.env).map (·.2)) us) (λ _ s'=>∃ σ' H',aJ X pins σ' H' s'/\Q σ' H') X.xe s
noncomputable abbrev Eb:=V->V->V->Hp->(Hp->Prop)->Prop
noncomputable def HQ (X:Cx) (t:Eb):Prop:=
 ∀ (pins:List (Addr×Obj)) (s:Shared) (σ:St) (H:Hp) (o i v:V) (ov iv u:Value) (Q:Hp->Prop),aJ X pins σ H s->bq o ov->bq i iv->bq v u->t o i v H Q->
  wpAny (model X.prog X.w) X.A (setItem ov iv u) (λ _ s'=>∃ H',aJ X pins σ H' s'/\Q H') X.xe s
section
variable {X:Cx} {pos:Pos}
noncomputable def mQ (i:Nat):TG:=λ v σ H Q=>Q (σ.set i (some v)) H
theorem KM {i:Nat} {x:Str} (hN:X.N.Nodup) (hi:X.N[i]?=some x) (hx:Eg X.env.scope x) (hf:X.fn x=true∨X.env.scope.names.lookup x=some .local):PG X (.Name x pos) (mQ i):=by
 intro pins s σ H v u Q I r h;exact wpAny_assign_Name (ui I hN hi hx r (λ s' I'=>⟨_,H,I',h⟩) hf)
noncomputable def Jl:yI:=λ vs σ H Q=>vs=[]/\Q σ H
noncomputable def Di (t:TG) (u:yI):yI:=λ vs σ H Q=>∃ v r,vs=v::r/\t v σ H λ σ' H'=>u r σ' H' Q
theorem Ky:GX X [] Jl:=by
 intro pins s σ H vs us Q I r h;obtain ⟨e,h⟩:=h;subst e;cases r;exact assignInOrder_nil ⟨σ,H,I,h⟩
theorem Hi {e:Expr} {es:List Expr} {t:TG} {u:yI} (h1:PG X e t) (h2:GX X es u)
 (hs:(assignEach (e::es) X.env).map (·.2)=assign e X.env::(assignEach es X.env).map (·.2)):GX X (e::es) (Di t u):=by
 intro pins s σ H vs us Q I r h;obtain ⟨v,vr,e1,h⟩:=h;subst e1;cases r with
 | cons r rr=>
  rw [hs];refine assignInOrder_cons (bY (h1 pins s σ H _ _ _ I r h) λ _ s1 hq0=>?_);obtain ⟨σ1,H1,I1,q1⟩:=hq0;exact h2 pins s1 σ1 H1 _ _ Q I1 rr q1
noncomputable def EM (K:Frag) (n:Nat) (t:yI):TG:=λ v σ H Q=>∃ a xs,v=.ref a/\gW K H a xs/\xs.length=n/\t xs σ H Q
theorem EN {es:List Expr} {k:Nat} {t:yI} {n:Nat} (hc:X.calm=true) (h:GX X es t)
 (hn:(assignEach es X.env).length=n:=by rfl) (hst:(assignEach es X.env).findIdx? (·.1)=none:=by rfl):PG X (.Tuple es k pos) (EM X.K n t):=by
 intro pins s σ H v u Q I r hw;obtain ⟨a,xs,e1,hq,hl,hw⟩:=hw;subst e1;cases r;obtain ⟨its,rv,ht,hz⟩:=I.tuple hq;refine assign_Tuple_tuple (I.ok.hd hc) ht (by simp [hn,<-hl,rv.length]) hst λ h' hx=>?_;have I1:aJ X pins σ H { s with heap:=h' }:=I.kept (t':=s.toks) λ b o e=>hx b o (Ph (OS e)) e;exact h pins _ σ H xs _ Q I1 (by simpa using rv) hw
noncomputable def Gv (to ti:TE) (t:Eb):TG:=λ v σ H Q=>to σ H λ o H1=>ti σ H1 λ i H2=>t o i v H2 λ H3=>Q σ H3
theorem EE {o i:Expr} {to ti:TE} {t:Eb} (ho:PE X o to) (hi:PE X i ti) (hs:HQ X t)
 (ha:∀ v,assign (.Subscript o i pos) X.env v=(do
  let ov <-holding [v] (eval o X.env);let iv <-holding [v,ov] (eval i X.env)
  standAt pos
  holding [v,ov,iv] (setItem ov iv v)
  release [v,ov,iv] []):=by intro _;rfl):PG X (.Subscript o i pos) (Gv to ti t):=by
 intro pins s σ H v u Q I r h;rw [ha];refine OD (Pt (bY (ho pins s σ H _ I h) λ ov s1 hq0=>?_));obtain ⟨x,H1,I1,r1,q1⟩:=hq0;refine OD (Pt (bY (hi pins s1 σ H1 _ I1 q1) λ iv s2 hq0=>?_));obtain ⟨y,H2,I2,r2,q2⟩:=hq0;refine OD (wpAny_standAt (OD (Pt (bY (hs pins s2 σ H2 x y v ov iv u _ I2 r1 r2 r q2) λ _ s3 hq0=>?_))));obtain ⟨H3,I3,q3⟩:=hq0;exact wpAny_release ⟨σ,H3,I3,q3⟩
noncomputable def sM (te:TE) (g:TG):TS:=λ D σ H=>te σ H λ x H1=>g x σ H1 D.nx
theorem FS {tg e:Expr} {te:TE} {g:TG} (he:PE X e te) (hg:PG X tg g) (hs:swapsWithSole [tg] e pos.line X.env=pure false:=by rfl) (hw:swappedStores [tg] e X.env=pure none:=by rfl)
 (h1:(assignEach [tg] X.env).map (·.2)=[assign tg X.env]:=by rfl):PS X (.Assign [tg] e pos) (sM te g):=by
 intro pins s σ H D I h;refine wpAny_Assign_stores (bY (he pins s σ H _ I h) λ v s1 hq0=>?_) hs hw;obtain ⟨x,H1,I1,r1,q1⟩:=hq0;rw [h1];exact bY (hg pins s1 σ H1 x v _ I1 r1 q1) λ _ s2 q=>q
theorem Ld {i:Nat} {x:Str} {e:Expr} {te:TE} {pos':Pos} (hN:X.N.Nodup) (hi:X.N[i]?=some x) (hx:Eg X.env.scope x) (he:PE X e te) (hs:swapsWith e (some (.Name x pos')) pos.line X.env=pure false) (hf:X.fn x=true∨X.env.scope.names.lookup x=some .local):
 PS X (.Assign [.Name x pos'] e pos) (sM te (mQ i)):=by
 intro pins s σ H D I h;refine wpAny_Assign_Name (bY (he pins s σ H _ I h) λ v s1 hq0=>?_) hs;obtain ⟨y,H1,I1,r1,q1⟩:=hq0;exact ui I1 hN hi hx r1 (λ s2 I2=>⟨_,H1,I2,q1⟩) hf
end
section
variable {X:Cx} {pos:Pos}
noncomputable def xR (c:TT) (tb:TS):TS:=λ D σ H=>∃ W:Nat->St->Hp->Prop,(∃ m,W m σ H)/\∀ m σ H,W m σ H->
 c σ H λ b H1=>if b=true then ∃ N:St->Hp->Prop,(∀ σ' H',N σ' H'->∃ m',m'<m/\W m' σ' H')/\tb { D with nx:=N,ct:=N,bk:=D.nx } σ H1 else D.nx σ H1
theorem JM {c:Expr} {body:List Stmt} {tc:TT} {tb:TS} (hp:PassesOwn (model X.prog X.w) X.A X.env X.xe) (hc:PT X c tc) (hb:nY X body tb):PS X (.While c body [] pos) (xR tc tb):=by
 intro pins s σ H D I h;obtain ⟨W,⟨m0,w0⟩,turn⟩:=h;refine wpAny_While (codeAny_whileLoop (λ n s'=>∃ σ' H',aJ X pins σ' H' s'/\W n σ' H') ?_ m0 ⟨σ,H,I,w0⟩);rintro n s1 ⟨σ1,H1,I1,w1⟩;refine P0 hp (bY (hc pins s1 σ1 H1 _ I1 (turn n σ1 H1 w1)) λ b s2 hq0=>?_);obtain ⟨H2,I2,q2⟩:=hq0;cases b with
 | true=>
  obtain ⟨N,hN,q2⟩:=q2;rw [OG rfl];refine P0 hp (bY (hb pins s2 σ1 H2 _ I2 q2) λ f s3 q3=>?_);cases f with
  | next=>
   obtain ⟨σ3,H3,I3,n3⟩:=q3;obtain ⟨m',hm,w3⟩:=hN σ3 H3 n3;exact ⟨m',hm,σ3,H3,I3,w3⟩
  | cont=>
   obtain ⟨σ3,H3,I3,n3⟩:=q3;obtain ⟨m',hm,w3⟩:=hN σ3 H3 n3;exact ⟨m',hm,σ3,H3,I3,w3⟩
  | brk=>exact q3
  | ret v=>exact q3
 | false=>
  rw [OT OP];exact Ql ⟨σ1,H2,I2,q2⟩
end
structure It where
 go:Nat->Hp->Prop
 yld:Nat->Hp->V->Hp->Prop
 stop:Nat->Hp->Prop
noncomputable def nG (X:Cx) (pins:List (Addr×Obj)) (H:Hp) (b:Addr):Prop:=
 H b=none/\b≠X.env.locals/\b∉X.fs/\(b∈X.ex∨X.s₀.heap.objs.size<=b)/\(∀ x c,X.env.cells.lookup x=some c->c≠b)/\∀ p∈X.pn++pins,p.1≠b
theorem aJ.fpOk {X:Cx} {pins:List (Addr×Obj)} {σ:St} {H H':Hp} {s:Shared} {b:Addr} (I:aJ X pins σ H s) (hb:s.heap.objs.size<=b) (hn:H' b=none):nG X pins H' b:=by
 refine ⟨hn,Nat.ne_of_gt (ON I.lt hb),I.nofs hb,.inr (OY I.sz hb),λ x c e z=>?_,λ p hp z=>?_⟩
 . obtain ⟨v,q⟩:=I.cell x c e;exact absurd (ON q.lt (by rw [z];exact hb)) (Ps _)
 . exact absurd (ON (OS (I.pin p hp).1) (by rw [z];exact hb)) (Ps _)
structure C0 (P:Program) (w:World) (K:Frag) (tg:Expr) (J:It) (fp:List Addr) (it:Addr) (tn:Nat->Heap->Prop):Prop where
 mem:it∈fp
 obj:∀ i h,tn i h->∀ b∈fp,∃ o,h.get? b=some o/\∀ v,o.data≠.cell v
 keep:∀ i h h',tn i h->(∀ b∈fp,∀ o,h.get? b=some o->h'.get? b=some o)->tn i h'
 item:∀ (X:Cx),X.prog=P->X.w=w->X.K=K->X.calm=true->∀ (i:Nat) (pins:List (Addr×Obj)) (s:Shared) (σ:St) (H:Hp) (E:Value->Shared->Prop),aJ X pins σ H s->(∀ b∈fp,nG X pins H b)->tn i s.heap->J.go i H->
  wpAny (model P w) X.A (pyNext (.ref it)) (λ r s1=>∃ u,r=some u/\
   wpAny (model P w) X.A (letOwnedTupleGo tg (.ref it) u) (λ _ s2=>∃ x H',aJ X pins σ H' s2/\bq x u/\J.yld i H x H'/\tn (i+1) s2.heap/\∀ b∈fp,H' b=none) E s1) E s
 done:∀ (X:Cx),X.prog=P->X.w=w->X.K=K->X.calm=true->∀ (i:Nat) (pins:List (Addr×Obj)) (s:Shared) (σ:St) (H:Hp) (E:Value->Shared->Prop),aJ X pins σ H s->(∀ b∈fp,nG X pins H b)->tn i s.heap->J.stop i H->
  wpAny (model P w) X.A (pyNext (.ref it)) (λ r s1=>r=none/\aJ X pins σ H s1) E s
 self:∀ (A:Around) (i:Nat) (s:Shared) (Q:Value->Shared->Prop) (E:Value->Shared->Prop),tn i s.heap->Q (.ref it) s->wpAny (model P w) A (pyIter (.ref it)) Q E s
noncomputable abbrev TI:=St->Hp->(It->Hp->Prop)->Prop
noncomputable def M6 (X:Cx) (pins:List (Addr×Obj)) (σ:St) (tg:Expr) (R:It->Hp->Prop) (itv:Value) (s2:Shared):Prop:=
 ∃ (it:Addr) (fp:List Addr) (tn:Nat->Heap->Prop) (J:It) (H':Hp),itv=.ref it/\aJ X pins σ H' s2/\C0 X.prog X.w X.K tg J fp it tn/\tn 0 s2.heap/\(∀ b∈fp,nG X pins H' b)/\R J H'
noncomputable def PI (X:Cx) (tg iter:Expr) (wi:TI):Prop:=
 ∀ (pins:List (Addr×Obj)) (s:Shared) (σ:St) (H:Hp) (R:It->Hp->Prop),aJ X pins σ H s->wi σ H R->
  wpAny (model X.prog X.w) X.A (eval iter X.env) (λ v s1=>wpAny (model X.prog X.w) X.A (pyIter v) (M6 X pins σ tg R) X.xe s1) X.xe s
theorem oF {M:Model} {A:Around} {E:Value->Shared->Prop} {s:Shared} {tg:Expr} {it:Addr} {u:Value} {o:Obj} {n:String} {vs:Array Value} {Q:Unit->Shared->Prop} (ho:s.heap.get? it=some o) (hc:o.cls=.type n) (hd:o.data=.fields vs)
 (hn:["enumerate", "zip", "dict_itemiterator", "dict_reverseitemiterator", "odict_iterator", "itertools.zip_longest", "itertools.pairwise"].contains n=false) (hQ:Q () s):wpAny M A (letOwnedTupleGo tg (.ref it) u) Q E s:=by
 unfold letOwnedTupleGo;cases tg <;> first
  | exact OZ hQ
  | (cases u <;> first
   | exact OZ hQ
   | (refine OD (wpAny_load ho ?_)
      rw [hc,hd];show wpAny M A (if (["enumerate", "zip", "dict_itemiterator", "dict_reverseitemiterator", "odict_iterator", "itertools.zip_longest", "itertools.pairwise"].contains n&&vs[0]?==some (rawInt _))=true then _ else _) Q E s;rw [OT (by intro h;rw [hn,Bool.false_and] at h;cases h)];exact OZ hQ))
noncomputable def M4 (K:Frag) (a:Addr):It:=
 ⟨λ i H=>∃ xs x,eC K H a xs/\xs[i]?=some x,λ i H x H'=>H'=H/\∀ xs,eC K H a xs->xs[i]?=some x,λ i H=>∃ xs,eC K H a xs/\xs.length<=i⟩
noncomputable def LH (K:Frag) (a:Addr):It:=
 ⟨λ i H=>∃ xs x,gW K H a xs/\xs[i]?=some x,λ i H x H'=>H'=H/\∀ xs,gW K H a xs->xs[i]?=some x,λ i H=>∃ xs,gW K H a xs/\xs.length<=i⟩
noncomputable def K6 (lo:Int) (n:Nat):It:=⟨λ i _=>i<n,λ i H x H'=>H'=H/\x=.int (lo+i),λ i _=>n<=i⟩
theorem xz {P:Program} {w:World} {K:Frag} {tg:Expr} (a it:Addr):C0 P w K tg (M4 K a) [it] it (λ i h=>h.IsListIter it a i) where
 mem:=by simp
 obj:=λ i h st b hb=>by
  have e:b=it:=by simpa using hb
  subst e;obtain ⟨o,e,c,d⟩:=st;exact ⟨o,e,λ v z=>by rw [d] at z;cases z⟩
 keep:=λ i h h' st k=>st.at λ o e=>k it (by simp) o e
 item:=by
  intro X hP hw hK hc i pins s σ H E I hf st hg;subst hP hw hK;obtain ⟨xs,x,hq,hx⟩:=hg;obtain ⟨its,rv,p,hz⟩:=I.list hq;obtain ⟨u,hu,ru⟩:=rv.get hx;obtain ⟨f0,f1,f2,f3,f4,f5⟩:=hf it (by simp);refine wpAny_pyNext_list_item st p.isList (x:=u) (by simpa using hu) λ h' st' sb=>?_;have I1:aJ X pins σ H { s with heap:=h' }:=I.turned (t':=s.toks) (λ b o hb e=>(sb.2 b hb).trans e) f0 f1 f3 f4 f5;obtain ⟨o,e,c,d⟩:=id st';exact ⟨u,rfl,oF (s:={ s with heap:=h' }) e c d (by decide) ⟨x,H,I1,ru,⟨rfl,λ ys hy=>by rw [I.list_inj hy hq];exact hx⟩,st',λ b hb=>(hf b hb).1⟩⟩
 done:=by
  intro X hP hw hK hc i pins s σ H E I hf st hg;subst hP hw hK;obtain ⟨xs,hq,hx⟩:=hg;obtain ⟨its,rv,p,hz⟩:=I.list hq;obtain ⟨f0,f1,f2,f3,f4,f5⟩:=hf it (by simp);have hl:=rv.length;exact wpAny_pyNext_list_end (I.ok.hd hc) st p.isList (by simp;omega) λ h' eb=>⟨rfl,I.turned (t':=s.toks) (λ b o hb e=>eb b o hb e) f0 f1 f3 f4 f5⟩
 self:=λ _ _ _ _ _ st h=>wpAny_pyIter_listiter st h
theorem uM {P:Program} {w:World} {K:Frag} {tg:Expr} (a it:Addr):C0 P w K tg (LH K a) [it] it (λ i h=>h.IsTupleIter it a i) where
 mem:=by simp
 obj:=λ i h st b hb=>by
  have e:b=it:=by simpa using hb
  subst e;obtain ⟨o,e,c,d⟩:=st;exact ⟨o,e,λ v z=>by rw [d] at z;cases z⟩
 keep:=λ i h h' st k=>st.at λ o e=>k it (by simp) o e
 item:=by
  intro X hP hw hK hc i pins s σ H E I hf st hg;subst hP hw hK;obtain ⟨xs,x,hq,hx⟩:=hg;obtain ⟨its,rv,p,hz⟩:=I.tuple hq;obtain ⟨u,hu,ru⟩:=rv.get hx;obtain ⟨f0,f1,f2,f3,f4,f5⟩:=hf it (by simp);refine wpAny_pyNext_tuple_item st (show s.heap.IsTuple a its.toArray from p) (x:=u) (by simpa using hu) λ h' st' sb=>?_;have I1:aJ X pins σ H { s with heap:=h' }:=I.turned (t':=s.toks) (λ b o hb e=>(sb.2 b hb).trans e) f0 f1 f3 f4 f5;obtain ⟨o,e,c,d⟩:=id st';exact ⟨u,rfl,oF (s:={ s with heap:=h' }) e c d (by decide) ⟨x,H,I1,ru,⟨rfl,λ ys hy=>by rw [I.tuple_inj hy hq];exact hx⟩,st',λ b hb=>(hf b hb).1⟩⟩
 done:=by
  intro X hP hw hK hc i pins s σ H E I hf st hg;subst hP hw hK;obtain ⟨xs,hq,hx⟩:=hg;obtain ⟨its,rv,p,hz⟩:=I.tuple hq;obtain ⟨f0,f1,f2,f3,f4,f5⟩:=hf it (by simp);have hl:=rv.length;exact wpAny_pyNext_tuple_end (I.ok.hd hc) st (show s.heap.IsTuple a its.toArray from p) (by simp;omega) λ h' eb=>⟨rfl,I.turned (t':=s.toks) (λ b o hb e=>eb b o hb e) f0 f1 f3 f4 f5⟩
 self:=λ _ _ _ _ _ st h=>wpAny_pyIter_tupleiter st h
theorem uQ {P:Program} {w:World} {K:Frag} {tg:Expr} (it:Addr) (lo:Int) (n:Nat):C0 P w K tg (K6 lo n) [it] it (λ i h=>IsRangeIter h it (lo+(i:Nat)*1) ((n:Int)-(i:Nat)) 1) where
 mem:=by simp
 obj:=λ i h st b hb=>by
  have e:b=it:=by simpa using hb
  subst e;exact ⟨_,st,λ v z=>by
   have z':Data.fields _=Data.cell v:=z;cases z'⟩
 keep:=λ i h h' st k=>k it (by simp) _ st
 item:=by
  intro X hP hw hK hc i pins s σ H E I hf st hg;subst hP hw hK;obtain ⟨f0,f1,f2,f3,f4,f5⟩:=hf it (by simp);have W:=Walks.range (prog:=X.prog) (w:=X.w) (I.ok.hd hc) it lo 1 n;refine W.item i s _ _ hg st λ v h' tk hv st' kk=>?_;obtain ⟨t,rfl⟩:=hv;have I1:aJ X pins σ H { s with heap:=h',toks:=tk }:=I.turned (λ b o hb e=>kk b o (by simpa using hb) e) f0 f1 f3 f4 f5;refine ⟨_,rfl,oF (s:={ s with heap:=h',toks:=tk }) (n := "range_iterator") st' rfl rfl (by decide) ⟨.int (lo+i),H,I1,⟨t,?_⟩,⟨rfl,rfl⟩,st',λ b hb=>(hf b hb).1⟩⟩;rw [Int.mul_one]
 done:=by
  intro X hP hw hK hc i pins s σ H E I hf st hg;subst hP hw hK;obtain ⟨f0,f1,f2,f3,f4,f5⟩:=hf it (by simp);exact wpAny_pyNext_range_end (I.ok.hd hc) st (by have:n<=i:=hg;omega) λ h' eb=>⟨rfl,I.turned (t':=s.toks) (λ b o hb e=>eb b o hb e) f0 f1 f3 f4 f5⟩
 self:=λ _ _ _ _ _ st h=>wpAny_pyIter_rangeiter st h
end L2
namespace L2
open PySem PySem.Spec PyProof.Rows
open PySem.W (Frag)
section
variable {X:Cx} {tg:Expr}
theorem Ac {pins:List (Addr×Obj)} {σ:St} {H:Hp} {s:Shared} {R:It->Hp->Prop} {E:Value->Shared->Prop} {lo hi:Int} {t u v:Tok} {tk:Nat} (I:aJ X pins σ H s) (h1 : -(2^62)<=lo) (h2:lo<2^62) (h3 : -(2^62)<=hi) (h4:hi<2^62)
 (q:R (K6 lo (hi-lo).toNat) H):wpAny (model X.prog X.w) X.A (pyIter (.ref s.heap.objs.size)) (M6 X pins σ tg R) E { s with heap:=s.heap.push { cls:=.type "range", data:=.fields #[.int lo t,.int hi u,.int 1 v] },toks:=tk }:=by
 refine wpAny_pyIter_range (IsRange.new ..) (small_one h1 h2 h3 h4) ?_;have I1:aJ X pins σ H { s with heap:=s.heap.push { cls:=.type "range", data:=.fields #[.int lo t,.int hi u,.int 1 v] },toks:=tk }:=I.kept λ b o e=>OM _ e;refine ⟨(s.heap.push { cls:=.type "range", data:=.fields #[.int lo t,.int hi u,.int 1 v] }).objs.size,[(s.heap.push { cls:=.type "range", data:=.fields #[.int lo t,.int hi u,.int 1 v] }).objs.size],_,_,H,rfl,
  I1.kept (t':=tk) λ b o e=>OM _ e,uQ _ lo (hi-lo).toNat,?_,λ b hb=>?_,q⟩
 . have e1:lo+((0:Nat):Int)*1=lo:=by simp
   have e2:(((hi-lo).toNat:Nat):Int)-((0:Nat):Int)=Builtin.Range.rangeSize lo hi 1:=by rw [rangeSize_one];split <;> omega
   show IsRangeIter _ _ (lo+((0:Nat):Int)*1) ((((hi-lo).toNat:Nat):Int)-((0:Nat):Int)) 1;rw [e1,e2];exact Pf _ rfl
 . have e:b=(s.heap.push { cls:=.type "range", data:=.fields #[.int lo t,.int hi u,.int 1 v] }).objs.size:=by simpa using hb
   subst e;exact I1.fpOk (OB _) (I1.hok.fresh (OB _))
noncomputable def Dy (ta:TA):TI:=λ σ H R=>ta σ H λ vs H1=>∃ j:Int,vs=[.int j] /\ -(2^62)<=j/\j<2^62/\R (K6 0 j.toNat) H1
theorem Hb {a:Expr} {ta:TA} {p pos:Pos} (hg:Gl X "range") (hm:X.mg "range" = none) (ha:PA X [a] ta) (hs:starEach [a] X.env=[(false,eval a X.env)]):PI X tg (.Call (.Name "range" p) [a] [] pos) (Dy ta):=by
 intro pins s σ H R I h;refine Call_ (rj I hg hm boot_range (PyProof.Rows.callWith_type1 (bY (ha pos pins s σ H _ I h) λ us s1 hq0=>?_) hs rfl));obtain ⟨vs,H1,I1,r1,q1⟩:=hq0;obtain ⟨j,e,q1,q2,q⟩:=q1;subst e;cases r1 with
 | cons r rr=>
  cases rr;obtain ⟨t,rfl⟩:=r;exact call_range_1 (Ac I1 (by omega) (by omega) q1 q2 (by simpa using q))
noncomputable def GM (wi:TI) (g:TG) (tb:TS):TS:=λ D σ H=>wi σ H λ J H1=>∃ W:Nat->Nat->St->Hp->Prop,(∃ m,W 0 m σ H1)/\∀ i m σ H,W i m σ H->
 (J.stop i H/\D.nx σ H)∨(J.go i H/\∃ N:St->Hp->Prop,(∀ σ' H',N σ' H'->∃ m',m'<m/\W (i+1) m' σ' H')/\∀ x H',J.yld i H x H'->g x σ H' λ σ2 H2=>tb { D with nx:=N,ct:=N,bk:=D.nx } σ2 H2)
noncomputable def mK (fp:List Addr) (h:Heap):List (Addr×Obj):=fp.filterMap λ b=>(h.get? b).map λ o=>(b,o)
theorem jd {fp:List Addr} {h:Heap} {b:Addr} {o:Obj} (hb:b∈fp) (e:h.get? b=some o):(b,o)∈mK fp h:=PF.mpr ⟨b,hb,by rw [e];rfl⟩
theorem xA {fp:List Addr} {h:Heap} {p:Addr×Obj} (hp:p∈mK fp h):p.1∈fp/\h.get? p.1=some p.2:=by
 obtain ⟨b,hb,e⟩:=PF.mp hp;cases q:h.get? b with
 | none=>rw [q] at e;cases e
 | some o=>
  rw [q] at e;have e':(b,o)=p:=Pg e;subst e';exact ⟨hb,q⟩
theorem aJ.pinned {pins:List (Addr×Obj)} {σ:St} {H:Hp} {s:Shared} {fp:List Addr} (I:aJ X pins σ H s) (hf:∀ b∈fp,nG X pins H b) (ho:∀ b∈fp,∃ o,s.heap.get? b=some o/\∀ v,o.data≠.cell v):aJ X (pins++mK fp s.heap) σ H s:=
 I.pins_of λ p hp=>(Pe.mp hp).elim (λ z=>I.pin p (O7 _ z)) λ z=>by
  obtain ⟨hb,e⟩:=xA z;obtain ⟨f0,f1,f2,_⟩:=hf p.1 hb;obtain ⟨o,e',d⟩:=ho p.1 hb;rw [e] at e';cases e';exact ⟨e,f0,f1,f2,d⟩
theorem aJ.unpinned {pins pl:List (Addr×Obj)} {σ:St} {H:Hp} {s:Shared} (I:aJ X (pins++pl) σ H s):aJ X pins σ H s:=I.pins_of λ p hp=>I.pin p (O7 _ (List.mem_append_left _ hp))
theorem L5 {iter:Expr} {body:List Stmt} {wi:TI} {g:TG} {tb:TS} {pos:Pos} (hp:PassesOwn (model X.prog X.w) X.A X.env X.xe) (hc:X.calm=true) (hi:PI X tg iter wi) (hg:PG X tg g) (hb:nY X body tb)
 (hs:∀ x,foldedSetIterable iter X.env x=pure x):PS X (.For tg iter body [] pos) (GM wi g tb):=by
 intro pins s σ H D I h;refine wpAny_For (bY (hi pins s σ H _ I h) λ v s1 h1=>bY h1 λ itv s2 h2=>?_) hs;obtain ⟨it,fp,tn,J,H2,e,I2,T,st2,f2,W,⟨m0,w0⟩,turn⟩:=h2;subst e;have stat:∀ {H':Hp},(∀ b∈fp,H' b=none)->∀ b∈fp,nG X pins H' b:=λ hn b hb=>⟨hn b hb,(f2 b hb).2⟩
 refine codeAny_forLoop_any (λ n s'=>∃ i σ' H',aJ X pins σ' H' s'/\tn i s'.heap/\(∀ b∈fp,H' b=none)/\W i n σ' H') ?_ m0 ⟨0,σ,H2,I2,st2,λ b hb=>(f2 b hb).1,w0⟩;rintro n s3 ⟨i,σ3,H3,I3,DX,fr3,w3⟩;rcases turn i n σ3 H3 w3 with ⟨stop,qn⟩ | ⟨go,N,hN,step⟩
 . refine P0 hp (bY (T.done X rfl rfl rfl hc i pins s3 σ3 H3 X.xe I3 (stat fr3) DX stop) λ r s4 ⟨hr,I4⟩=>?_);subst hr;exact Ql ⟨σ3,H3,I4,qn⟩
 . refine P0 hp (bY (T.item X rfl rfl rfl hc i pins s3 σ3 H3 X.xe I3 (stat fr3) DX go) λ r s4 ⟨u,hr,h4⟩=>?_);subst hr;refine P0 hp (bY h4 λ _ s5 hq0=>?_);obtain ⟨x,H5,I5,r5,y5,CD,fr5⟩:=hq0;have I5':=I5.pinned (stat fr5) (T.obj _ _ CD);refine P0 hp (bY (hg _ s5 σ3 H5 x u _ I5' r5 (step x H5 y5)) λ _ s6 hq0=>?_);obtain ⟨σ6,H6,I6,q6⟩:=hq0;refine P0 hp (bY (hb _ s6 σ6 H6 _ I6 q6) λ f s7 q7=>?_);have again:∀ {σ7:St} {H7:Hp},aJ X (pins++mK fp s5.heap) σ7 H7 s7->N σ7 H7->∃ m,m<n/\∃ i σ' H',aJ X pins σ' H' s7/\tn i s7.heap/\(∀ b∈fp,H' b=none)/\W i m σ' H':=λ {σ7 H7} I7 n7=>by
    obtain ⟨m',hm,w7⟩:=hN σ7 H7 n7;refine ⟨m',hm,i+1,σ7,H7,I7.unpinned,T.keep _ _ _ CD λ b hb o e=>(I7.pin (b,o) (O7 _ (O7 _ (jd hb e)))).1,λ b hb=>?_,w7⟩;obtain ⟨o,e,d⟩:=T.obj _ _ CD b hb;exact (I7.pin (b,o) (O7 _ (O7 _ (jd hb e)))).2.1
   cases f with
   | next=>obtain ⟨σ7,H7,I7,n7⟩:=q7;exact again I7 n7
   | cont=>obtain ⟨σ7,H7,I7,n7⟩:=q7;exact again I7 n7
   | brk=>obtain ⟨σ7,H7,I7,q7⟩:=q7;exact ⟨σ7,H7,I7.unpinned,q7⟩
   | ret v=>obtain ⟨x7,σ7,H7,I7,r7,q7⟩:=q7;exact ⟨x7,σ7,H7,I7.unpinned,r7,q7⟩
end
end L2
namespace L2
open PySem PySem.Spec PyProof.Rows
open PySem.W (Frag)
noncomputable abbrev R2:=V->V->Hp->VK->Prop
noncomputable def ir (X:Cx) (f:Value->Value->Sem Value) (r:R2):Prop:=
 ∀ (pins:List (Addr×Obj)) (s:Shared) (σ:St) (H:Hp) (x y:V) (v u:Value) (Q:VK),aJ X pins σ H s->bq x v->bq y u->r x y H Q->
  wpAny (model X.prog X.w) X.A (f v u) (EP X pins σ Q) X.xe s
noncomputable def KE (X:Cx) (f:Value->Sem Value) (r:V->Hp->VK->Prop):Prop:=
 ∀ (pins:List (Addr×Obj)) (s:Shared) (σ:St) (H:Hp) (x:V) (v:Value) (Q:VK),aJ X pins σ H s->bq x v->r x H Q->
  wpAny (model X.prog X.w) X.A (f v) (EP X pins σ Q) X.xe s
noncomputable def cU (X:Cx) (f:Value) (r:List V->Hp->VK->Prop):Prop:=
 ∀ (pins:List (Addr×Obj)) (s:Shared) (σ:St) (H:Hp) (xs:List V) (us:List Value) (Q:VK),aJ X pins σ H s->bi xs us->r xs H Q->
  wpAny (model X.prog X.w) X.A (call f us) (EP X pins σ Q) X.xe s
noncomputable def Mu (X:Cx) (r:V->Hp->(Bool->Hp->Prop)->Prop):Prop:=
 ∀ (pins:List (Addr×Obj)) (s:Shared) (σ:St) (H:Hp) (x:V) (v:Value) (Q:Bool->Hp->Prop),aJ X pins σ H s->bq x v->r x H Q->
  wpAny (model X.prog X.w) X.A (truthy v) (TP X pins σ Q) X.xe s
noncomputable def sX (r:R2) (ta tb:TE):TE:=λ σ H Q=>ta σ H λ x H1=>tb σ H1 λ y H2=>r x y H2 Q
noncomputable def MK (r:V->Hp->VK->Prop) (ta:TE):TE:=λ σ H Q=>ta σ H λ x H1=>r x H1 Q
noncomputable def rI (C:Int->Int->Prop) (g:Int->Int->V):R2:=λ x y H Q=>∃ i j,x=.int i/\y=.int j/\C i j/\Q (g i j) H
noncomputable def vG (g:Int->Int->V):R2:=λ x y H Q=>∃ i j,x=.int i/\y=.int j/\Q (g i j) H
noncomputable def rU (g:Int->V):V->Hp->VK->Prop:=λ x H Q=>∃ i,x=.int i/\Q (g i) H
section
variable {X:Cx} {a b c:Expr} {ta tb tc:TE} {pos:Pos}
theorem GE (ha:PE X a ta) (hb:PE X b tb) {pins:List (Addr×Obj)} {s:Shared} {σ:St} {H:Hp} {R:V->V->Hp->Prop} (I:aJ X pins σ H s)
 (h:ta σ H λ x H1=>tb σ H1 λ y H2=>R x y H2) {Q:Value->Shared->Prop} {f:Value->Value->Sem Value}
 (hf:∀ v u s2 x y H2,aJ X pins σ H2 s2->bq x v->bq y u->R x y H2->wpAny (model X.prog X.w) X.A (f v u) Q X.xe s2):
 wpAny (model X.prog X.w) X.A (eval a X.env) (λ v s₁=>wpAny (model X.prog X.w) X.A (eval b X.env) (λ u s₂=>wpAny (model X.prog X.w) X.A (f v u) Q X.xe s₂) X.xe s₁) X.xe s:=by
 refine bY (ha pins s σ H _ I h) λ v s1 hq0=>?_;obtain ⟨x,H1,I1,r1,q1⟩:=hq0;refine bY (hb pins s1 σ H1 _ I1 q1) λ u s2 hq0=>?_;obtain ⟨y,H2,I2,r2,q2⟩:=hq0;exact hf v u s2 x y H2 I2 r1 r2 q2
theorem MB {op:Operator} {r:R2} (ho:ir X (binaryOp op) r) (ha:PE X a ta) (hb:PE X b tb):PE X (.BinOp a op b pos) (sX r ta tb):=by
 intro pins s σ H Q I h;exact wpAny_BinOp (GE ha hb I h λ v u s2 x y H2 I2 rx ry q=>ho pins s2 σ H2 x y v u Q I2 rx ry q)
theorem Nv {op:UnaryOp} {r:V->Hp->VK->Prop} (ho:KE X (unaryOp op) r) (ha:PE X a ta):PE X (.UnaryOp op a pos) (MK r ta):=by
 intro pins s σ H Q I h;exact UnaryOp_ (bY (ha pins s σ H _ I h) λ v s1 hy0=>by obtain ⟨x,H1,I1,r1,q1⟩:=hy0;exact ho pins s1 σ H1 x v Q I1 r1 q1)
theorem Hk {f:Value->Value->Sem Value} {C:Int->Int->Prop} {g:Int->Int->Int}
 (rule:∀ (i j:Int) (t u:Tok) (s:Shared) (Q:Value->Shared->Prop) (E:Value->Shared->Prop),C i j->Q (.int (g i j) s.toks) { s with toks:=s.toks+1 }->wpAny (model X.prog X.w) X.A (f (.int i t) (.int j u)) Q E s):
 ir X f (rI C λ i j=>.int (g i j)):=by
 intro pins s σ H x y v u Q I rx ry h;obtain ⟨i,j,rfl,rfl,hc,q⟩:=h;obtain ⟨t,rfl⟩:=rx;obtain ⟨t',rfl⟩:=ry;exact rule i j t t' s _ _ hc ⟨.int (g i j),H,I.tok _,⟨_,rfl⟩,q⟩
theorem JG {f:Value->Value->Sem Value} {g:Int->Int->Int}
 (rule:∀ (i j:Int) (t u:Tok) (s:Shared) (Q:Value->Shared->Prop) (E:Value->Shared->Prop),Q (.int (g i j) s.toks) { s with toks:=s.toks+1 }->wpAny (model X.prog X.w) X.A (f (.int i t) (.int j u)) Q E s):
 ir X f (vG λ i j=>.int (g i j)):=by
 intro pins s σ H x y v u Q I rx ry h;obtain ⟨i,j,rfl,rfl,q⟩:=h;obtain ⟨t,rfl⟩:=rx;obtain ⟨t',rfl⟩:=ry;exact rule i j t t' s _ _ ⟨.int (g i j),H,I.tok _,⟨_,rfl⟩,q⟩
theorem F5 {f:Value->Value->Sem Value} {g:Int->Int->Bool}
 (rule:∀ (i j:Int) (t u:Tok) (s:Shared) (Q:Value->Shared->Prop) (E:Value->Shared->Prop),Q (.bool (g i j)) s->wpAny (model X.prog X.w) X.A (f (.int i t) (.int j u)) Q E s):
 ir X f (vG λ i j=>.bl (g i j)):=by
 intro pins s σ H x y v u Q I rx ry h;obtain ⟨i,j,rfl,rfl,q⟩:=h;obtain ⟨t,rfl⟩:=rx;obtain ⟨t',rfl⟩:=ry;exact rule i j t t' s _ _ ⟨.bl (g i j),H,I,rfl,q⟩
noncomputable def Hw (i j:Int):Prop:=0<=j/\j<=1000000/\i.natAbs<2^64
noncomputable def BA (i j:Int):Prop:=(-(2^64)<i/\i<2^64)∨(-(2^64)<j/\j<2^64)
theorem BA.ok {i j:Int} (h:BA i j):IntMulOk i j:=by
 rcases h with ⟨h1,h2⟩ | ⟨h1,h2⟩
 . exact .of_left (intBits_le_64 h1 h2)
 . exact .of_right (intBits_le_64 h1 h2)
theorem Ga:ir X (binaryOp .Add) (vG λ i j=>.int (i+j)):=JG λ _ _ _ _ _ _ _ q=>add_int q
theorem Lg:ir X (binaryOp .Sub) (vG λ i j=>.int (i-j)):=JG λ _ _ _ _ _ _ _ q=>sub_int q
theorem FU:ir X (binaryOp .Mult) (rI BA λ i j=>.int (i*j)):=Hk λ _ _ _ _ _ _ _ hc q=>mul_int q hc.ok
theorem C3:ir X (binaryOp .Mod) (rI (λ _ j=>j≠0) λ i j=>.int (i.fmod j)):=Hk λ _ _ _ _ _ _ _ hc q=>mod_int' hc q
theorem M0:ir X (binaryOp .Pow) (rI Hw λ i j=>.int (i^j.toNat)):=Hk λ _ _ _ _ _ _ _ hc q=>pow_int_small hc.1 hc.2.1 hc.2.2 q
theorem N0 {f:Value->Sem Value} {g:Int->Int}
 (rule:∀ (i:Int) (t:Tok) (s:Shared) (Q:Value->Shared->Prop) (E:Value->Shared->Prop),Q (.int (g i) s.toks) { s with toks:=s.toks+1 }->wpAny (model X.prog X.w) X.A (f (.int i t)) Q E s):
 KE X f (rU λ i=>.int (g i)):=by
 intro pins s σ H x v Q I rx h;obtain ⟨i,rfl,q⟩:=h;obtain ⟨t,rfl⟩:=rx;exact rule i t s _ _ ⟨.int (g i),H,I.tok _,⟨_,rfl⟩,q⟩
theorem Lz:KE X (unaryOp .USub) (rU λ i=>.int (-i)):=N0 λ _ _ _ _ _ q=>neg_int q
end
noncomputable def Gj:V->V->Bool
 | .non,.non=>true | .non,.int _=>true | .int _,.non=>true | .non,.bl _=>true | .bl _,.non=>true | .non,.str _=>true | .str _,.non=>true
 | .int _,.int _=>true | .bl _,.bl _=>true | .str _,.str _=>true | .byt _,.byt _=>true
 | .int _,.str _=>true | .str _,.int _=>true | .bl _,.str _=>true | .str _,.bl _=>true
 | _,_=>false
noncomputable def MZ:R2:=λ x y H Q=>Gj x y=true/\Q (.bl (decide (x=y))) H
noncomputable def MN:R2:=λ x y H Q=>Gj x y=true/\Q (.bl (!decide (x=y))) H
theorem wJ {i j:Int}:decide (V.int i=V.int j)=(i==j):=by
 rw [QG];simp
theorem zY {i j:Bool}:decide (V.bl i=V.bl j)=(i==j):=by
 rw [QG];simp
theorem wf {i j:Str}:decide (V.str i=V.str j)=(i==j):=by
 rw [QG];simp
theorem vI {i j:Array UInt8}:decide (V.byt i=V.byt j)=(i.toList==j.toList):=by
 rw [QG];cases i;cases j;simp
section
variable {X:Cx} {a b c:Expr} {ta tb tc:TE} {pos:Pos}
theorem b8 {pins:List (Addr×Obj)} {σ:St} {H:Hp} {s:Shared} {Q:VK} {k k':Bool} (I:aJ X pins σ H s) (q:Q (.bl k) H) (e:k=k'):EP X pins σ Q (.bool k') s:=by
 subst e;exact ⟨.bl k,H,I,rfl,q⟩
theorem JD:ir X (compareOp .Eq) MZ:=by
 intro pins s σ H x y v u Q I rx ry h;obtain ⟨hs,q⟩:=h;cases x with
 | non=>
  cases rx;cases y with
  | non=>cases ry;exact PySem.EqNone.eq_none_none (b8 I q (by simp))
  | bl j=>cases ry;exact PySem.EqNone.eq_none_bool (b8 I q (by simp))
  | int j=>obtain ⟨t',rfl⟩:=ry;exact PySem.EqNone.eq_none_int (b8 I q (by simp))
  | str j=>obtain ⟨t',rfl⟩:=ry;exact PySem.EqNone.eq_none_str (b8 I q (by simp))
  | _=>exact absurd (show false=true from hs) OP
 | bl i=>
  cases rx;cases y with
  | non=>cases ry;exact PySem.EqNone.eq_bool_none (b8 I q (by simp))
  | bl j=>cases ry;exact eq_bool (b8 I q zY)
  | str j=>obtain ⟨t',rfl⟩:=ry;exact PySem.EqMixed.eq_bool_str (b8 I q (by simp))
  | _=>exact absurd (show false=true from hs) OP
 | int i=>
  obtain ⟨t,rfl⟩:=rx;cases y with
  | non=>cases ry;exact PySem.EqNone.eq_int_none (b8 I q (by simp))
  | int j=>obtain ⟨t',rfl⟩:=ry;exact eq_int (b8 I q wJ)
  | str j=>obtain ⟨t',rfl⟩:=ry;exact PySem.EqMixed.eq_int_str (b8 I q (by simp))
  | _=>exact absurd (show false=true from hs) OP
 | str i=>
  obtain ⟨t,rfl⟩:=rx;cases y with
  | non=>cases ry;exact PySem.EqNone.eq_str_none (b8 I q (by simp))
  | bl j=>cases ry;exact PySem.EqMixed.eq_str_bool (b8 I q (by simp))
  | int j=>obtain ⟨t',rfl⟩:=ry;exact PySem.EqMixed.eq_str_int (b8 I q (by simp))
  | str j=>obtain ⟨t',rfl⟩:=ry;exact eq_str (b8 I q wf)
  | _=>exact absurd (show false=true from hs) OP
 | byt i=>
  obtain ⟨t,rfl⟩:=rx;cases y with
  | byt j=>obtain ⟨t',rfl⟩:=ry;exact PySem.W.eq_bytes (b8 I q vI)
  | _=>exact absurd (show false=true from hs) OP
 | _=>cases y <;> exact absurd (show false=true from hs) OP
theorem HK:ir X (compareOp .NotEq) MN:=by
 intro pins s σ H x y v u Q I rx ry h;obtain ⟨hs,q⟩:=h;cases x with
 | non=>
  cases rx;cases y with
  | non=>cases ry;exact PySem.EqNone.ne_none_none (b8 I q (by simp))
  | bl j=>cases ry;exact PySem.EqNone.ne_none_bool (b8 I q (by simp))
  | int j=>obtain ⟨t',rfl⟩:=ry;exact PySem.EqNone.ne_none_int (b8 I q (by simp))
  | str j=>obtain ⟨t',rfl⟩:=ry;exact PySem.EqNone.ne_none_str (b8 I q (by simp))
  | _=>exact absurd (show false=true from hs) OP
 | bl i=>
  cases rx;cases y with
  | non=>cases ry;exact PySem.EqNone.ne_bool_none (b8 I q (by simp))
  | bl j=>cases ry;exact ne_bool (b8 I q (OI not zY))
  | str j=>obtain ⟨t',rfl⟩:=ry;exact PySem.EqMixed.ne_bool_str (b8 I q (by simp))
  | _=>exact absurd (show false=true from hs) OP
 | int i=>
  obtain ⟨t,rfl⟩:=rx;cases y with
  | non=>cases ry;exact PySem.EqNone.ne_int_none (b8 I q (by simp))
  | int j=>obtain ⟨t',rfl⟩:=ry;exact ne_int (b8 I q (OI not wJ))
  | str j=>obtain ⟨t',rfl⟩:=ry;exact PySem.EqMixed.ne_int_str (b8 I q (by simp))
  | _=>exact absurd (show false=true from hs) OP
 | str i=>
  obtain ⟨t,rfl⟩:=rx;cases y with
  | non=>cases ry;exact PySem.EqNone.ne_str_none (b8 I q (by simp))
  | bl j=>cases ry;exact PySem.EqMixed.ne_str_bool (b8 I q (by simp))
  | int j=>obtain ⟨t',rfl⟩:=ry;exact PySem.EqMixed.ne_str_int (b8 I q (by simp))
  | str j=>obtain ⟨t',rfl⟩:=ry;exact ne_str (b8 I q (OI not wf))
  | _=>exact absurd (show false=true from hs) OP
 | byt i=>
  obtain ⟨t,rfl⟩:=rx;cases y with
  | byt j=>obtain ⟨t',rfl⟩:=ry;exact PySem.W.ne_bytes (b8 I q (OI not vI))
  | _=>exact absurd (show false=true from hs) OP
 | _=>cases y <;> exact absurd (show false=true from hs) OP
theorem MI:ir X (compareOp .Lt) (vG λ i j=>.bl (decide (i<j))):=F5 λ _ _ _ _ _ _ _ q=>lt_int q
theorem MS:ir X (compareOp .LtE) (vG λ i j=>.bl (decide (i<=j))):=F5 λ _ _ _ _ _ _ _ q=>le_int q
theorem Nk:ir X (compareOp .GtE) (vG λ i j=>.bl (decide (j<=i))):=F5 λ _ _ _ _ _ _ _ q=>ge_int q
theorem L4:ir X (compareOp .Is) (λ x y H Q=>y=.non/\Q (.bl (decide (x=.non))) H):=by
 intro pins s σ H x y v u Q I rx ry h;obtain ⟨rfl,q⟩:=h;cases ry;refine is_none_gen (b8 I q ?_);cases x <;> first
  | (cases rx;rfl)
  | (obtain ⟨t,rfl⟩:=rx;rfl)
theorem KH:ir X (compareOp .IsNot) (λ x y H Q=>y=.non/\Q (.bl (!decide (x=.non))) H):=by
 intro pins s σ H x y v u Q I rx ry h;obtain ⟨rfl,q⟩:=h;cases ry;refine isnot_none_gen (b8 I q ?_);cases x <;> first
  | (cases rx;rfl)
  | (obtain ⟨t,rfl⟩:=rx;rfl)
theorem ir.or {f:Value->Value->Sem Value} {r r':R2} (h:ir X f r) (h':ir X f r'):ir X f (λ x y H Q=>r x y H Q∨r' x y H Q):=by
 intro pins s σ H x y v u Q I rx ry q;rcases q with q | q
 . exact h pins s σ H x y v u Q I rx ry q
 . exact h' pins s σ H x y v u Q I rx ry q
theorem K5 {op:CmpOp} {r:R2} (ho:ir X (compareOp op) r) (ha:PE X a ta) (hb:PE X b tb) (hm:behindInMarks op b=false):PE X (.Compare a [op] [b] pos) (sX r ta tb):=by
 intro pins s σ H Q I h;exact wpAny_Compare1 (GE ha hb I h λ v u s2 x y H2 I2 rx ry q=>ho pins s2 σ H2 x y v u Q I2 rx ry q) hm
noncomputable def mW (t:TE):TT:=λ σ H Q=>t σ H λ x H'=>∃ k,x=.bl k/\Q k H'
theorem Ko {op:CmpOp} {r:R2} (ho:ir X (compareOp op) r) (ha:PE X a ta) (hb:PE X b tb) (hm:behindInMarks op b=false):PT X (.Compare a [op] [b] pos) (mW (sX r ta tb)):=by
 intro pins s σ H Q I h;refine wpAny_isTrue_Compare1 (bY (ha pins s σ H _ I h) λ v s1 hy0=>?_) hm;obtain ⟨x,H1,I1,r1,q1⟩:=hy0;refine bY (hb pins s1 σ H1 _ I1 q1) λ u s2 hy0=>?_;obtain ⟨y,H2,I2,r2,q2⟩:=hy0;refine
  bY (ho pins s2 σ H2 x y v u _ I2 r1 r2 q2) λ c s3 ⟨z,H3,I3,r3,k,e,q3⟩=>?_
 subst e;cases r3;exact PN ⟨H3,I3,q3⟩
noncomputable def zX (r r':R2) (ta tb tc:TE):TE:=λ σ H Q=>ta σ H λ x H1=>tb σ H1 λ y H2=>r x y H2 λ z H3=>∃ k,z=.bl k/\
 (if k=true then tc σ H3 λ w' H4=>r' y w' H4 Q else Q (.bl false) H3)
theorem Jz {op op':CmpOp} {r r':R2} (ho:ir X (compareOp op) r) (ho':ir X (compareOp op') r') (ha:PE X a ta) (hb:PE X b tb) (hc:PE X c tc)
 (hm:lastMarks [op,op'] [b,c]=false):PT X (.Compare a [op,op'] [b,c] pos) (mW (zX r r' ta tb tc)):=by
 intro pins s σ H Q I h;refine isTrue_chain (bY (ha pins s σ H _ I h) λ v s1 hy0=>?_) hm;obtain ⟨x,H1,I1,r1,q1⟩:=hy0;refine test_link (bY (hb pins s1 σ H1 _ I1 q1) λ u s2 hy0=>?_);obtain ⟨y,H2,I2,r2,q2⟩:=hy0;refine
  bY (ho pins s2 σ H2 x y v u _ I2 r1 r2 q2) λ d s3 ⟨z,H3,I3,r3,k,e,q3⟩=>?_
 subst e;cases r3;refine PN ?_;cases k with
 | false=>
  obtain ⟨k',e',q'⟩:=q3;cases e';exact ite_ff ⟨H3,I3,q'⟩
 | true=>
  refine ite_tt (test_last (bY (hc pins s3 σ H3 _ I3 q3) λ w' s4 hy0=>?_));obtain ⟨z',H4,I4,r4,q4⟩:=hy0;refine bY (ho' pins s4 σ H4 y z' u w' _ I4 r2 r4 q4) λ d' s5 hq0=>?_;obtain ⟨z2,H5,I5,r5,k2,e2,q5⟩:=hq0;subst e2;cases r5;exact PN ⟨H5,I5,q5⟩
noncomputable def GB (K:Frag) (x:V) (H:Hp) (k:Bool):Prop:=
 match x with
 | .non=>k=false
 | .bl b=>k=b
 | .int i=>k=(i != 0)
 | .str y=>y.length<=sizeLine/\k=((y.length:Int) != 0)
 | .byt y=>y.size<=sizeLine/\k=((y.size:Int) != 0)
 | .ref p=>(∃ xs,eC K H p xs/\k = !xs.isEmpty)∨(∃ xs,gW K H p xs/\k = !xs.isEmpty)∨∃ kvs,H p=some (.dK kvs)/\k = !kvs.isEmpty
 | _=>False
theorem uV {κ:Type} {kvs:List (κ×V)} {vs:List (κ×Value)} (r:KV kvs vs):(!vs.isEmpty) = !kvs.isEmpty:=by
 cases r <;> rfl
theorem pz {xs:List V} {its:List Value} (r:bi xs its):(!its.toArray.isEmpty) = !xs.isEmpty:=by
 cases r <;> simp
theorem kG:(sizeLine:Nat)<2^63:=by rw [QD];decide
theorem GG:Mu X (λ x H Q=>∃ k,GB X.K x H k/\Q k H):=by
 intro pins s σ H x v Q I rx h;obtain ⟨k,e,q⟩:=h;have hl:=kG;have hs:sizeLine=16777216:=QD;cases x with
 | non=>
  cases rx;have e':k=false:=e;subst e';exact truthy_none ⟨H,I,q⟩
 | bl b=>
  cases rx;have e':k=b:=e;subst e';exact PN ⟨H,I,q⟩
 | int i=>
  obtain ⟨t,rfl⟩:=rx;have e':k=(i != 0):=e;subst e';exact PySem.P.truthy_int ⟨H,I,q⟩
 | str y=>
  obtain ⟨t,rfl⟩:=rx;obtain ⟨hy,e'⟩:y.length<=sizeLine/\k=((y.length:Int) != 0):=e;subst e';exact PySem.P.truthy_str (by omega) ⟨H,I.tok _,q⟩
 | byt y=>
  obtain ⟨t,rfl⟩:=rx;obtain ⟨hy,e'⟩:y.size<=sizeLine/\k=((y.size:Int) != 0):=e;subst e';exact PySem.W.truthy_bytes (by omega) ⟨H,I.tok _,q⟩
 | ref p=>
  cases rx;have e':(∃ xs,eC X.K H p xs/\k = !xs.isEmpty)∨(∃ xs,gW X.K H p xs/\k = !xs.isEmpty)∨∃ kvs,H p=some (.dK kvs)/\k = !kvs.isEmpty:=e;rcases e' with ⟨xs,hx,e'⟩ | ⟨xs,hx,e'⟩ | ⟨kvs,hx,e'⟩
  . subst e';obtain ⟨its,r,pl,hz⟩:=I.list hx;have hlen:=r.length;exact wpAny_truthy_list pl.isList (by simp only [OQ];omega) ⟨H,I.tok _,by rw [pz r];exact q⟩
  . subst e';obtain ⟨its,r,pl,hz⟩:=I.tuple hx;have hlen:=r.length;exact truthy_tuple pl (by simp only [OQ];omega) ⟨H,I.tok _,by rw [pz r];exact q⟩
  . subst e';obtain ⟨hz,hS,vs,r,m'⟩:kvs.length<=sizeLine/\(p==sysModules)=false/\∃ vs,KV kvs vs/\eh X.prog X.w s.heap p vs:=I.hok p _ hx;have m:=m'.of;have hlen:kvs.length=vs.length:=PL r;exact wpAny_truthy_dict hS m (by omega) ⟨H,I.tok _,by rw [uV r];exact q⟩
 | _=>exact (show False from e).elim
theorem Aj (ha:PE X a ta) (he:∀ whole,isTrue a X.env whole=(do let v <-whole;standAt a.pos;holding [v] (truthy v))):
 PT X a (λ σ H Q=>ta σ H λ x H'=>∃ k,GB X.K x H' k/\Q k H'):=by
 intro pins s σ H Q I h;exact isTrue_plain (bY (ha pins s σ H _ I h) λ v s1 hy0=>by obtain ⟨x,H1,I1,r1,q1⟩:=hy0;exact GG pins s1 σ H1 x v Q I1 r1 q1) (he _)
theorem uW:ir X (binaryOp .Add) (λ x y H Q=>∃ i j,x=.str i/\y=.str j/\i.length+j.length<=sizeLine/\Q (.str (i++j)) H):=by
 intro pins s σ H x y v u Q I rx ry h;obtain ⟨i,j,rfl,rfl,hz,q⟩:=h;obtain ⟨t,rfl⟩:=rx;obtain ⟨t',rfl⟩:=ry;exact add_str (λ t' tk=>⟨.str (i++j),H,I.tok _,⟨_,rfl⟩,q⟩) hz
theorem mZ {x:V} {us:List Value} (r:bi [x] us):∃ u,us=[u]/\bq x u:=by
 cases r with
 | cons r1 r2=>cases r2;exact ⟨_,rfl,r1⟩
theorem IL {x y:V} {us:List Value} (r:bi [x,y] us):∃ u w',us=[u,w']/\bq x u/\bq y w':=by
 cases r with
 | cons r1 r2=>
  cases r2 with
  | cons r3 r4=>cases r4;exact ⟨_,_,rfl,r1,r3⟩
theorem wM (hc:X.calm=true):cU X (.builtin "max") (λ xs H Q=>∃ i j,xs=[.int i,.int j]/\Q (.int (if j>i then j else i)) H):=by
 intro pins s σ H xs us Q I r h;obtain ⟨i,j,rfl,q⟩:=h;obtain ⟨u,w',rfl,⟨t,rfl⟩,⟨t',rfl⟩⟩:=IL r;refine max_two_ints (I.ok.hd hc) λ h' tk k=>⟨_,H,I.kept k,?_,q⟩
 by_cases hj:j>i
 . rw [OG hj,OG hj];exact ⟨_,rfl⟩
 . rw [OT hj,OT hj];exact ⟨_,rfl⟩
end
end L2
namespace L2
open PySem PySem.Spec PyProof.Rows
open PySem.W (Frag)
structure vj (h:Heap) (x dx C:Addr) (mA:Str->Option Value):Prop where
 obj:h.get? x=some (PySem.W.instObj C dx)
 ns:h.Ns1 dx mA
 ne:dx≠x
theorem xr {h:Heap} {dx:Addr} {mA:Str->Option Value} (n:h.Ns1 dx mA):∃ od,h.get? dx=some od/\∀ name,PySem.W.lookIn name od=some (mA name):=by
 obtain ⟨o,es,ep,ho,hd,hk,_,hm⟩:=n;refine ⟨o,ho,λ name=>?_⟩;have e:=hm name;unfold nsFind findBy at e;rw [<-Array.find?_toList] at e;unfold PySem.W.lookIn;rw [hd];dsimp only;split
 . rename_i y q;rw [q] at e;exact OI some e
 . rename_i q;rw [q] at e;have a:es.toList.any (·.refKey)=false:=by
    rw [List.any_eq_false];intro y hy;obtain ⟨z,t,hkey⟩:=hk y (P1.mp hy);simp [DictEntry.refKey,hkey]
   have a':¬ es.toList.any (·.refKey)=true:=by rw [a];exact OP
   rw [OT a'];exact OI some e
theorem vj.look {h:Heap} {x dx C:Addr} {mA:Str->Option Value} (I:vj h x dx C mA):∃ od,PySem.W.InstAt h x (PySem.W.instObj C dx) C (some od)/\∀ name,PySem.W.lookIn name od=some (mA name):=
 let ⟨od,ho,hl⟩:=xr I.ns
 ⟨od,⟨I.obj,rfl,rfl,ho⟩,hl⟩
section
variable {prog:Program} {w:World} {A:Around} {E:Value->Shared->Prop} {s:Shared} {K:Frag} {x dx C f:Addr} {mA:Str->Option Value} {name:Str} {v:Value}
theorem AS {expr:Bool} {Q:Value->Shared->Prop} (X:K.In s.heap) (I:vj s.heap x dx C mA) (hg:PySem.W.plainGet K C name=true) (hh:PySem.W.hasDictIn K C=true)
 (ha:PySem.W.findIn K (.ref C) name=some none) (hv:mA name=some v) (hv':PySem.W.handedIn v=true) (h:Q v { s with toks:=s.toks+1 }):
 wpAny (model prog w) A (getAttr (.ref x) name expr) Q E s:=by
 obtain ⟨od,J,hl⟩:=I.look;exact PySem.W.get_value X J (PySem.W.plainGet_of hg).1 (PySem.W.findObj_own hh ha rfl (by rw [hl,hv])) hv' h
theorem yS {pl:Sem Bool} {Q:Value×List Value->Shared->Prop} (X:K.In s.heap) (I:vj s.heap x dx C mA) (hg:PySem.W.plainGet K C name=true)
 (hf:PySem.W.findIn K (.ref C) name=some (some (.ref f))) (ht:PySem.W.isFn K (.ref f)=true) (hv:mA name=none) (h:Q (.ref f,[.ref x]) s):
 wpAny (model prog w) A (getMethod (.ref x) name pl) Q E s:=by
 obtain ⟨od,J,hl⟩:=I.look;exact PySem.W.method_fn X J (PySem.W.plainGet_of hg).1 (PySem.W.plainGet_of hg).2 hf (Qz.mp ht) (by show (PySem.W.lookIn name od).map (·.isSome)=some false;rw [hl,hv];rfl) h
theorem AG {ns:List Str} {Q:Unit->Shared->Prop} (X:K.In s.heap) (I:vj s.heap x dx C mA)
 (hs:PySem.W.findIn K (.ref C) "__setattr__" = some (some (.builtin "object.__setattr__"))) (hp:PySem.W.plainOver K C=true) (ht:PySem.W.takerIn K C name=some none) (hh:PySem.W.hasDictIn K C=true)
 (hw:PySem.Within mA ns) (hsz:ns.length<=sizeLine)
 (h:∀ h',vj h' x dx C (λ y=>if y=name then some v else mA y)->Heap.SameBut dx s.heap h'->Q () { s with heap:=h',toks:=s.toks+2 }):
 wpAny (model prog w) A (setAttr (.ref x) name v) Q E s:=by
 obtain ⟨od,J,hl⟩:=I.look;refine PySem.W.set_plain X J hs (PySem.W.osa_open (s:={ s with toks:=s.toks+1 }) (r:=none) X J hp ht λ b=>?_);obtain ⟨cd,hc,hd'⟩:=PySem.W.any_some hh;have hx:s.heap.get? x=some ⟨.ref C,some dx,.plain,#[]⟩:=I.obj;refine OD (OZ (OD (OD (wpAny_loadPart hx (OD (PySem.W.Looks.here (s:={ s with toks:=s.toks+1 }) (PySem.W.looks_clsIn X hc) ?_))))));rw [hd'];refine OZ (a:=some dx) (OD (OZ (OD ?_)));refine wpAny_nsSet1 (s:={ s with toks:=s.toks+1 }) I.ns λ h' hn2 hs2=>?_;obtain ⟨oD,esD,epD,hoD,hdD,hcD⟩:=hn2.count (PySem.Within.cons name v hw);refine OD (wpAny_lookBehind hoD (by rw [hdD];exact pastItsLine_dict (OY hcD (by rw [OF];omega))) ?_);exact OZ (h _ ⟨(hs2.2 _ (Qu I.ne)).trans I.obj,hn2,I.ne⟩ hs2)
theorem yg {R:Result->Shared->Prop} {vs:List Value} {kw:List (Str×Value)} (X:K.In s.heap) (hm:PySem.W.makesIn K C=true)
 (hi:PySem.W.findIn K (.ref C) "__init__" = some (some (.ref f))) (hf:PySem.W.typeIn K (.ref f)=some (.type "function"))
 (h:codeAny (model prog w) (A.under (.builtin "type.__call__" ⟨.ref C::vs,kw⟩)) (.call (.ref f) ⟨.ref (s.heap.objs.size+1)::vs,kw⟩) (PySem.W.InitBack (s.heap.objs.size+1) R)
  { s with heap:=(s.heap.push PySem.W.emptyDict).push (PySem.W.instObj C s.heap.objs.size) }):
 codeAny (model prog w) A (.call (.ref C) ⟨vs,kw⟩) R s:=by
 obtain ⟨hh,g,d,t,os⟩:=s;exact PySem.W.make_core (PySem.W.makes_of X hm) (PySem.W.looks_findIn X hi) (λ self=>PySem.W.bind_fn X self hf) (.inl rfl) h
end
noncomputable def putF (f:Str) (v:V):List (Str×V)->List (Str×V)
 | []=>[(f,v)]
 | (g,x)::r=>if g=f then (g,v)::r else (g,x)::putF f v r
theorem mP (f g:Str) (v:V):∀ fs:List (Str×V),(putF f v fs).lookup g=if g=f then some v else fs.lookup g
 | []=>by
  show List.lookup g [(f,v)]=_;by_cases h:g=f
  . have hb:(g==f)=true:=Qz.mpr h;simp only [List.lookup,hb,OG h]
  . have hb:(g==f)=false:=P7.mpr h;simp only [List.lookup,hb,OT h]
 | (k,x)::r=>by
  have ih:=mP f g v r;rw [show putF f v ((k,x)::r)=(if k=f then (k,v)::r else (k,x)::putF f v r) from rfl];by_cases hk:k=f
  . rw [OG hk];by_cases h:g=k
    . have hb:(g==k)=true:=Qz.mpr h;simp only [List.lookup,hb,OG (h.trans hk)]
    . have hb:(g==k)=false:=P7.mpr h;simp only [List.lookup,hb,OT (λ e:g=f=>h (e.trans hk.symm))]
  . rw [OT hk];by_cases h:g=k
    . have hb:(g==k)=true:=Qz.mpr h;simp only [List.lookup,hb,OT (λ e:g=f=>hk (h.symm.trans e))]
    . have hb:(g==k)=false:=P7.mpr h;simp only [List.lookup,hb];exact ih
theorem mE (f:Str) (v:V):∀ fs:List (Str×V),f∈(putF f v fs).map (·.1)/\∀ g,g∈fs.map (·.1)->g∈(putF f v fs).map (·.1)
 | []=>⟨by simp [putF],λ g h=>by simp at h⟩
 | (k,x)::r=>by
  obtain ⟨i1,i2⟩:=mE f v r;rw [show putF f v ((k,x)::r)=(if k=f then (k,v)::r else (k,x)::putF f v r) from rfl];by_cases hk:k=f
  . rw [OG hk];subst hk;exact ⟨by simp,λ g h=>by simpa using h⟩
  . rw [OT hk];refine ⟨?_,λ g h=>?_⟩
    . rw [OK];exact Pd _ i1
    . rw [OK] at h ⊢;rcases OO.mp h with e | e
      . exact OO.mpr (.inl e)
      . exact Pd _ (i2 g e)
theorem nF (f:Str) (v:V):∀ fs:List (Str×V),(putF f v fs).length<=fs.length+1
 | []=>by simp [putF]
 | (k,x)::r=>by
  have ih:=nF f v r;rw [show putF f v ((k,x)::r)=(if k=f then (k,v)::r else (k,x)::putF f v r) from rfl];by_cases hk:k=f
  . rw [OG hk,OF,OF];omega
  . rw [OT hk,OF,OF];omega
theorem jo.some_of {v:V} {o:Option Value} (r:jo (some v) o):∃ u,o=some u/\bq v u:=by
 cases o with
 | none=>exact (show False from r).elim
 | some u=>exact ⟨u,rfl,r⟩
theorem jo.none_of {o:Option Value} (r:jo none o):o=none:=by
 cases o with
 | none=>rfl
 | some u=>exact (show False from r).elim
theorem xF {v:V} {u:Value} (r:bq v u):PySem.W.handedIn u=true:=by
 cases v with
 | non=>cases (show u=Value.none from r);rfl
 | bl b=>cases (show u=Value.bool b from r);rfl
 | int i=>obtain ⟨t,e⟩:=(show ∃ t,u=Value.int i t from r);cases e;rfl
 | str x=>obtain ⟨t,e⟩:=(show ∃ t,u=Value.str x t from r);cases e;rfl
 | byt b=>obtain ⟨t,e⟩:=(show ∃ t,u=Value.bytes b t from r);cases e;rfl
 | flt b=>obtain ⟨t,e⟩:=(show ∃ t,u=Value.float b t from r);cases e;rfl
 | ref a=>cases (show u=Value.ref a from r);rfl
 | ty n=>cases (show u=Value.type n from r);rfl
section
variable {P:Program} {w:World} {H H':Hp} {h h':Heap} {a C dx:Addr} {fs fs':List (Str×V)}
theorem rp (hok:iY P w H h) (e:H a=some (.ins C dx fs)):∃ mA,vj h a dx C mA/\(∀ f,jo (fs.lookup f) (mA f))/\PySem.Within mA (fs.map (·.1))/\fs.length<=1000/\H dx=some (.own a):=by
 obtain ⟨d,z,ne,ob,mA,n,r,q⟩:=(show cz P w H h a (.ins C dx fs) from hok a _ e)
 exact ⟨mA,⟨ob,n,ne⟩,r,q,z,d⟩
end
structure eJ (K:Frag) (C:Addr):Prop where
 pg:PySem.W.plainGet K C Str.empty=true
 hd:PySem.W.hasDictIn K C=true
 po:PySem.W.plainOver K C=true
 sa:PySem.W.findIn K (.ref C) "__setattr__" = some (some (.builtin "object.__setattr__"))
theorem eJ.get {K:Frag} {C:Addr} (c:eJ K C) (f:Str):PySem.W.plainGet K C f=true:=c.pg
noncomputable def ag (K:Frag) (C:Addr) (f:Str):Prop:=PySem.W.findIn K (.ref C) f=some none
theorem ag.taker {K:Frag} {C:Addr} {f:Str} (n:ag K C f):PySem.W.takerIn K C f=some none:=by
 unfold PySem.W.takerIn;rw [show PySem.W.findIn K (.ref C) f=some none from n];rfl
structure bw (K:Frag) (C:Addr) (m:Str) (f:Addr):Prop where
 at_:PySem.W.findIn K (.ref C) m=some (some (.ref f))
 fn:PySem.W.isFn K (.ref f)=true
 kp:PySem.W.keepIn K (.ref f)=true
section
variable {X:Cx} {pins:List (Addr×Obj)} {σ:St} {H:Hp} {s:Shared} {a C dx:Addr} {fs:List (Str×V)} {f:Str} {v:V} {A:Around} {E:Value->Shared->Prop}
theorem oj {b:Bool} {Q:Value->Shared->Prop} (I:aJ X pins σ H s) (e:H a=some (.ins C dx fs)) (c:eJ X.K C) (n:ag X.K C f) (l:fs.lookup f=some v)
 (h:∀ u s',aJ X pins σ H s'->bq v u->Q u s'):wpAny (model X.prog X.w) A (getAttr (.ref a) f b) Q E s:=by
 obtain ⟨mA,O,r,_,_,_⟩:=rp I.hok e;obtain ⟨u,hu,ru⟩:=jo.some_of (v:=v) (o:=mA f) (by rw [<-l];exact r f);exact AS I.kIn O (c.get f) c.hd n hu (xF ru) (h u _ (I.tok _) ru)
theorem iU {m:Str} {g:Addr} {pl:Sem Bool} {Q:Value×List Value->Shared->Prop} (I:aJ X pins σ H s) (e:H a=some (.ins C dx fs)) (c:eJ X.K C) (k:bw X.K C m g) (l:fs.lookup m=none)
 (h:Q (.ref g,[.ref a]) s):wpAny (model X.prog X.w) A (getMethod (.ref a) m pl) Q E s:=by
 obtain ⟨mA,O,r,_,_,_⟩:=rp I.hok e;have hn:mA m=none:=jo.none_of (by rw [<-l];exact r m);exact yS I.kIn O (c.get m) k.at_ k.fn hn h
theorem pk {y:V} {u:Value} {Q:Unit->Shared->Prop} (I:aJ X pins σ H s) (e:H a=some (.ins C dx fs)) (c:eJ X.K C) (n:ag X.K C f) (hl:fs.length<1000) (ry:bq y u)
 (h:∀ s',aJ X pins σ (cE H a (.ins C dx (putF f y fs))) s'->Q () s'):wpAny (model X.prog X.w) A (setAttr (.ref a) f u) Q E s:=by
 obtain ⟨mA,O,r,wi,_,ho⟩:=rp I.hok e;have hz:(fs.map (·.1)).length<=sizeLine:=by rw [OH,QD];omega
 refine AG I.kIn O c.sa c.po n.taker c.hd wi hz λ h' O' sb=>h _ ?_;have hd:∃ o,h'.get? dx=some o:=by obtain ⟨o,_,_,e',_⟩:=O'.ns;exact ⟨o,e'⟩
 refine I.write (x:=a) (e:=dx) (by rw [e];exact True.intro) (.inr ho) (λ b q hb z=>(sb.2 b hb).trans z) hd ?_;refine ⟨by rw [aM O.ne];exact ho,?_,O.ne,O'.obj,_,O'.ns,λ g=>?_,λ g hg=>?_⟩
 . have:=nF f y fs;omega
 . show jo ((putF f y fs).lookup g) (if g=f then some u else mA g);rw [mP];by_cases q:g=f
   . rw [OG q,OG q];exact ry
   . rw [OT q,OT q];exact r g
 . by_cases q:g=f
   . rw [q];exact (mE f y fs).1
   . refine (mE f y fs).2 g (wi g λ z=>hg ?_);show (if g=f then some u else mA g)=none;rw [OT q];exact z
theorem aJ.made (I:aJ X pins σ H s):aJ X pins σ (cE (cE H s.heap.objs.size (.own (s.heap.objs.size+1))) (s.heap.objs.size+1) (.ins C s.heap.objs.size []))
 { s with heap:=(s.heap.push PySem.W.emptyDict).push (PySem.W.instObj C s.heap.objs.size) }:=by
 have e1:(s.heap.push PySem.W.emptyDict).get? s.heap.objs.size=some PySem.W.emptyDict:=Pf s.heap rfl;have e2:((s.heap.push PySem.W.emptyDict).push (PySem.W.instObj C s.heap.objs.size)).get? (s.heap.objs.size+1)=some (PySem.W.instObj C s.heap.objs.size):=by
  have:=Pf (s.heap.push PySem.W.emptyDict) (o:=PySem.W.instObj C s.heap.objs.size) rfl
  rwa [Heap.size_push] at this
 have e3:(s.heap.push PySem.W.emptyDict).Ns s.heap.objs.size (λ _=>none):=⟨PySem.W.emptyDict,#[],_,e1,rfl,(λ e he=>absurd he (by simp)),λ _=>rfl⟩
 have I1:=I.laid (a:=s.heap.objs.size) (o:=.own (s.heap.objs.size+1)) (h':=s.heap.push PySem.W.emptyDict) (t':=s.toks) (λ b u q=>OM _ q) (OB _) ⟨_,e1⟩;refine I1.laid (a:=s.heap.objs.size+1) (o:=.ins C s.heap.objs.size []) (t':=s.toks) (λ b u q=>OM _ q) (Nat.le_of_eq (Heap.size_push _ _)) ?_;have ne:s.heap.objs.size≠s.heap.objs.size+1:=Ph (PY _);refine ⟨by rw [aM ne,aG],O8 _,ne,e2,λ _=>none,(Heap.Ns1.of_empty e3).at λ o q=>OM _ q,λ _=>True.intro,λ y hy=>absurd rfl hy⟩
theorem C9 {prog:Program} {w:World} {env:Env} {e:Expr} {f:Str} {pos:Pos} {s:Shared} {Q:Value->Shared->Prop} (hb:attributeBase e f env (eval e env)=eval e env)
 (h:wpAny (model prog w) A (eval e env) (λ o s₁=>wpAny (model prog w) A (getAttr o f true) Q E s₁) E s):wpAny (model prog w) A (eval (.Attribute e f pos) env) Q E s:=
 Attribute_any_ h (by rw [arm_eval_Attribute,hb])
end
noncomputable def Ex (K:Frag) (ta:TE) (f:Str):TE:=λ σ H Q=>ta σ H λ x H1=>∃ a C dx fs v,x=.ref a/\H1 a=some (.ins C dx fs)/\eJ K C/\ag K C f/\fs.lookup f=some v/\Q v H1
noncomputable def ID (K:Frag) (ta tv:TE) (f:Str):TS:=λ D σ H=>tv σ H λ y H1=>ta σ H1 λ x H2=>∃ a C dx fs,x=.ref a/\H2 a=some (.ins C dx fs)/\eJ K C/\ag K C f/\fs.length<1000/\
 D.nx σ (cE H2 a (.ins C dx (putF f y fs)))
noncomputable def Bt (X:Cx) (op:Operator) (rd:V->V->Hp->VK->Prop):Prop:=
 ∀ (pins:List (Addr×Obj)) (s:Shared) (σ:St) (H:Hp) (x y:V) (u v:Value) (Q:VK),aJ X pins σ H s->bq x u->bq y v->rd x y H Q->wpAny (model X.prog X.w) X.A (inplaceOp op u v) (EP X pins σ Q) X.xe s
noncomputable def rL (K:Frag) (ta tv:TE) (rd:V->V->Hp->VK->Prop) (f:Str):TS:=λ D σ H=>ta σ H λ x H1=>∃ a C dx fs v,x=.ref a/\H1 a=some (.ins C dx fs)/\eJ K C/\ag K C f/\fs.lookup f=some v/\
 tv σ H1 λ y H2=>rd v y H2 λ z H3=>∃ dx' fs',H3 a=some (.ins C dx' fs')/\fs'.length<1000/\D.nx σ (cE H3 a (.ins C dx' (putF f z fs')))
section
variable {X:Cx} {o e value:Expr} {f:Str} {pos pos' tpos:Pos} {ta tv:TE}
theorem Gp (he:PE X e ta) (hb:attributeBase e f X.env (eval e X.env)=eval e X.env):PE X (.Attribute e f pos) (Ex X.K ta f):=by
 intro pins s σ H Q I h;refine C9 hb (bY (he pins s σ H _ I h) λ u s1 hq0=>?_);obtain ⟨x,H1,I1,rx,a,C,dx,fs,v,ex,ea,c,n,l,q⟩:=hq0;subst ex;obtain rfl:u=Value.ref a:=rx;exact oj I1 ea c n l λ u' s2 I2 ru=>⟨v,H1,I2,ru,q⟩
theorem L7 (ha:PE X o ta) (hv:PE X value tv) (hs:swapsWith value (some (.Attribute o f pos')) pos.line X.env=pure false):PS X (.Assign [.Attribute o f pos'] value pos) (ID X.K ta tv f):=by
 intro pins s σ H D I h;refine plainObj_wpAny_Assign_Attribute (bY (hv pins s σ H _ I h) λ u s1 hy0=>?_) hs;obtain ⟨y,H1,I1,ry,q⟩:=hy0;refine bY (ha pins s1 σ H1 _ I1 q) λ ov s2 hq0=>?_;obtain ⟨x,H2,I2,rx,a,C,dx,fs,ex,ea,c,n,l,q2⟩:=hq0;subst ex;obtain rfl:ov=Value.ref a:=rx;exact pk I2 ea c n l ry λ s3 I3=>⟨σ,_,I3,q2⟩
theorem xI {op:Operator} {rd:V->V->Hp->VK->Prop} (ha:PE X o ta) (hv:PE X value tv) (hop:Bt X op rd):PS X (.AugAssign (.Attribute o f tpos) op value pos) (rL X.K ta tv rd f):=by
 intro pins s σ H D I h;refine wpAny_AugAssign_AttributeAny (bY (ha pins s σ H _ I h) λ ov s1 hq0=>?_);obtain ⟨x,H1,I1,rx,a,C,dx,fs,v,ex,ea,c,n,l,q⟩:=hq0;subst ex;obtain rfl:ov=Value.ref a:=rx;refine oj I1 ea c n l λ u s2 I2 ru=>bY (hv pins s2 σ H1 _ I2 q) λ w3 s3 hy0=>?_;obtain ⟨y,H2,I3,ry,q3⟩:=hy0;refine bY (hop pins s3 σ H2 v y u w3 _ I3 ru ry q3) λ w4 s4 hq0=>?_;obtain ⟨z,H3,I4,rz,dx',fs',ea',l',q4⟩:=hq0;exact pk I4 ea' c n l' rz λ s5 I5=>⟨σ,_,I5,q4⟩
noncomputable def HE:V->V->Hp->VK->Prop:=λ x y H Q=>∃ i j,x=.int i/\y=.int j/\Q (.int (i+j)) H
theorem LD:Bt X .Add HE:=by
 rintro pins s σ H x y u v Q I rx ry ⟨i,j,rfl,rfl,q⟩;obtain ⟨t,rfl⟩:=(show ∃ t,u=Value.int i t from rx)
 obtain ⟨t',rfl⟩:=(show ∃ t',v=Value.int j t' from ry)
 exact PyProof.Rows.iadd_int ⟨.int (i+j),H,I.tok _,⟨_,rfl⟩,q⟩
end
section
variable {X:Cx} {pins:List (Addr×Obj)} {σ:St} {H:Hp} {s:Shared} {A:Around} {E:Value->Shared->Prop} {Q:Value->Shared->Prop} {c:Value} {b:Bool}
end
end L2
namespace L2
open PySem PySem.Spec PyProof.Rows
open PySem.W (Frag)
structure cu (k:Nat) (A:Around):Prop where
 hd:A.handled=none
 dp:A.depth+3*k+5<recursionLimit
 un:A.units+16*k+200<cLine
 gd:A.guards=some []
theorem cu.mono {j k:Nat} {A:Around} (r:cu k A) (h:j<=k):cu j A:=⟨r.hd,by have:=r.dp;omega,by have:=r.un;omega,r.gd⟩
theorem cu.deeper {k:Nat} {A:Around} (r:cu (k+1) A) (env:Env):cu k (A.deeper env):=
 ⟨r.hd,by have:=r.dp;show A.depth+1+3*k+5<_;omega,by have:=r.un;show A.units+3+16*k+200<_;omega,r.gd⟩
theorem uP {A:Around} {C:Addr} {us:List Value} {kw:List (Str×Value)}:(A.under (.builtin "type.__call__" ⟨.ref C::us,kw⟩)).depth=A.depth+1:=by
 first | rfl | simp [Around.under,Code.weight,Code.isCreation,Code.isGuard,Code.isCaller,Code.frames,Code.isFrame,guardIds]
theorem uU {A:Around} {C:Addr} {us:List Value} {kw:List (Str×Value)}:(A.under (.builtin "type.__call__" ⟨.ref C::us,kw⟩)).units=A.units+1:=by
 first | rfl | simp [Around.under,Code.cUnits,Code.frames,Code.isFrame]
theorem u7 {A:Around} {C:Addr} {us:List Value} {kw:List (Str×Value)}:(A.under (.builtin "type.__call__" ⟨.ref C::us,kw⟩)).guards=A.guards:=by
 first | rfl | (cases hg:A.guards <;> simp [Around.under,Code.guards,Code.isGuard,guardIds,pushGuards,hg])
theorem cu.make {k:Nat} {A:Around} (r:cu (k+1) A) (C:Addr) (us:List Value) (kw:List (Str×Value)):cu k (A.under (.builtin "type.__call__" ⟨.ref C::us,kw⟩)):=
 ⟨r.hd,by have:=r.dp;rw [uP];omega,by have:=r.un;rw [uU];omega,u7.trans r.gd⟩
theorem cu.depth {k:Nat} {A:Around} (r:cu k A):A.depth<recursionLimit:=by have:=r.dp;omega
theorem cu.units {k:Nat} {A:Around} (r:cu k A):A.units+64<cLine:=by have:=r.un;omega
noncomputable def kT:TA:=λ _ H Q=>Q [] H
noncomputable def iz (ta:TE) (tr:TA):TA:=λ σ H Q=>ta σ H λ x H1=>tr σ H1 λ xs H2=>Q (x::xs) H2
section
variable {X:Cx} {e:Expr} {es:List Expr} {te:TE} {t:TA} {pos:Pos}
theorem LF:PA X [] kT:=λ _ _ _ _ H Q I h=>Calls.spliced_nil ⟨[],H,I,.nil,h⟩
theorem KJ (ha:PE X e te) (hr:PA X es t) (hs:starEach (e::es) X.env=(false,eval e X.env)::starEach es X.env):PA X (e::es) (iz te t):=by
 intro pos pins s σ H Q I h;rw [hs];show wpAny _ _ (spliced ((false,eval e X.env)::backTo pos (starEach es X.env))) _ _ s;refine Qt (bY (ha pins s σ H _ I h) λ u s1 hq0=>?_);obtain ⟨x,H1,I1,r1,q1⟩:=hq0;exact bY (hr pos pins s1 σ H1 _ I1 q1) λ us s2 hy0=>by obtain ⟨xs,H2,I2,r2,q2⟩:=hy0;exact ⟨x::xs,H2,I2,.cons r1 r2,q2⟩
end
noncomputable abbrev Sp:=List V->Hp->VK->XK->Prop
noncomputable abbrev sV:=List Env->Hp->Shared->XK->Value->Shared->Prop
structure t9 (P:Program) (w:World) (K:Frag) (mg:Str->Option Value) (base:Heap) (A:Around) (outer:List Env) (s:Shared) (H:Hp):Prop where
 frames:A.frames=some outer
 mod:Mod K mg base
 bs:∀ b o,base.get? b=some o->s.heap.get? b=some o/\H b=none
 bsz:base.objs.size<=s.heap.objs.size
 funs:s.heap.FunFrames base outer
 frf:∀ b∈j3 outer,H b=none
 hok:iY P w H s.heap
 bare:AllBare s.gens
noncomputable def CE (outer:List Env) (P:Program) (w:World) (H:Hp) (s:Shared) (Q:VK) (u:Value) (s':Shared):Prop:=
 ∃ v H',s'.os=s.os/\AllBare s'.gens/\Un (j3 outer) [] H H' s.heap s'.heap/\iY P w H' s'.heap/\bq v u/\Q v H'
noncomputable def CR (CX:sV) (outer:List Env) (P:Program) (w:World) (H:Hp) (s:Shared) (Q:VK) (E:XK) (r:Result) (s':Shared):Prop:=
 match r with
 | .ok (.ret u)=>CE outer P w H s Q u s'
 | .ok _=>False
 | .error e=>CX outer H s E e s'
structure fH (P:Program) (w:World) (K:Frag) (mg:Str->Option Value) (base:Heap) (CX:sV) (k:Nat) (f:Addr) (fd:FuncData) (ps:List Str) (sp:Sp):Prop where
 len:∀ vs H Q E,sp vs H Q E->vs.length=ps.length
 run:∀ (A:Around) (outer:List Env) (s:Shared) (H:Hp) (args:Args) (us:List Value) (vs:List V) (Q:VK) (E:XK),cu k A->t9 P w K mg base A outer s H->BindsTo s fd args (ps.zip us)->bi vs us->sp vs H Q E->
  codeAny (model P w) A (.call (.ref f) args) (CR CX outer P w H s Q E) s
theorem fH.mono {P:Program} {w:World} {K:Frag} {mg:Str->Option Value} {base:Heap} {CX:sV} {j k:Nat} {f:Addr} {fd:FuncData} {ps:List Str} {sp:Sp} (F:fH P w K mg base CX j f fd ps sp) (h:j<=k):
 fH P w K mg base CX k f fd ps sp:=⟨F.len,λ A outer s H args us vs Q E hr=>F.run A outer s H args us vs Q E (hr.mono h)⟩
theorem fH.imp {P:Program} {w:World} {K:Frag} {mg:Str->Option Value} {base:Heap} {CX:sV} {k:Nat} {f:Addr} {fd:FuncData} {ps:List Str} {sp sp':Sp} (F:fH P w K mg base CX k f fd ps sp)
 (h:∀ vs H Q E,sp' vs H Q E->sp vs H Q E):fH P w K mg base CX k f fd ps sp':=
 ⟨λ vs H Q E q=>F.len vs H Q E (h _ _ _ _ q),λ A outer s H args us vs Q E hr he hb hv hs=>F.run A outer s H args us vs Q E hr he hb hv (h _ _ _ _ hs)⟩
theorem t9.make {P:Program} {w:World} {K:Frag} {mg:Str->Option Value} {base:Heap} {A:Around} {outer:List Env} {s:Shared} {H:Hp} (e:t9 P w K mg base A outer s H) (C:Addr) (us:List Value) (kw:List (Str×Value)):
 t9 P w K mg base (A.under (.builtin "type.__call__" ⟨.ref C::us,kw⟩)) outer s H:=⟨by first | exact e.frames | (simpa [Around.under,Code.envs,Code.isFrame,pushEnvs] using e.frames),e.mod,e.bs,e.bsz,e.funs,e.frf,e.hok,e.bare⟩
section
variable {X:Cx} {pins:List (Addr×Obj)} {σ:St} {H:Hp} {s s':Shared}
theorem aJ.env0 (I:aJ X pins σ H s):t9 X.prog X.w X.K X.mg X.base X.A X.stack s H:=
 ⟨I.ok.frames,I.ok.mod,I.bs,OY I.ok.bsz I.sz,I.stack,I.stkFree,I.hok,I.bare⟩
theorem aJ.after {Q:VK} {u:Value} (I:aJ X pins σ H s) (h:CE X.stack X.prog X.w H s Q u s'):EP X pins σ Q u s':=by
 obtain ⟨v,H',os,bare,un,hok,r,q⟩:=h;obtain ⟨hh,g,d,t,os'⟩:=s';obtain rfl:os'=s.os:=os;exact ⟨v,H',I.call (h':=hh) (g':=g) (d':=d) (t':=t) (ch:=[]) un hok bare (λ b z=>absurd z (by simp)),r,q⟩
end
noncomputable def u6 (sp:Sp) (dvs:List V) (E:XK) (t:TA):TE:=λ σ H Q=>t σ H λ vs H1=>sp (vs++dvs) H1 Q E
noncomputable def qY (C:Addr) (m:Str) (sp:Sp) (dvs:List V) (E:XK) (ta:TE) (t:TA):TE:=λ σ H Q=>ta σ H λ x H1=>∃ a dx fs,x=.ref a/\H1 a=some (.ins C dx fs)/\fs.lookup m=none/\
 t σ H1 λ vs H2=>sp (x::(vs++dvs)) H2 Q E
noncomputable def Am (C:Addr) (sp:Sp) (dvs:List V) (E:XK) (t:TA):TE:=λ σ H Q=>t σ H λ vs H1=>∀ x dx,H1 x=none->H1 dx=none->dx≠x->
 sp (.ref x::(vs++dvs)) (cE (cE H1 dx (.own x)) x (.ins C dx [])) (λ v H2=>v=.non/\Q (.ref x) H2) E
noncomputable def aP (K:Frag) (fd:FuncData) (ps:List Str) (ds:List Value):Prop:=
 ∀ (s:Shared) (us:List Value),K.In s.heap->(us++ds).length=ps.length->BindsTo s fd ⟨us,[]⟩ (ps.zip (us++ds))
theorem aP.all {K:Frag} {fd:FuncData} {ps:List Str} (h:∀ us:List Value,us.length=ps.length->bindArgs fd ⟨us,[]⟩=pure (ps.zip us)):aP K fd ps []:=λ s us _ hl=>by
 rw [O9] at hl ⊢;exact .of_eq (h us hl)
noncomputable def ij (CX:sV) (X:Cx) (E:XK):Prop:=∀ (pins:List (Addr×Obj)) (σ:St) (H:Hp) (s:Shared) (e:Value) (s':Shared),aJ X pins σ H s->CX X.stack H s E e s'->X.xe e s'
section
variable {X:Cx} {CX:sV} {k:Nat} {f C:Addr} {fd:FuncData} {ps:List Str} {sp:Sp} {dvs:List V} {ds:List Value} {E:XK} {x m:Str} {p pos apos:Pos} {e o:Expr} {es:List Expr} {ta:TE} {t:TA}
theorem vq {pins:List (Addr×Obj)} {σ:St} {H:Hp} {s:Shared} {Q:VK} {us:List Value} {vs:List V} (F:fH X.prog X.w X.K X.mg X.base CX k f fd ps sp) (hr:cu k X.A) (hb:aP X.K fd ps ds) (hd:bi dvs ds) (hx:ij CX X E)
 (I:aJ X pins σ H s) (r:bi vs us) (h:sp (vs++dvs) H Q E):wpAny (model X.prog X.w) X.A (call (.ref f) us) (EP X pins σ Q) X.xe s:=by
 have r2:bi (vs++dvs) (us++ds):=r.append hd;have hl:(us++ds).length=ps.length:=by rw [<-r2.length];exact F.len _ _ _ _ h
 refine wpAny_call (QJ (F.run X.A X.stack s H ⟨us,[]⟩ (us++ds) (vs++dvs) Q E hr I.env0 (hb s us I.kIn hl) r2 h) λ r s' hq=>?_);cases r with
 | error e=>exact hx pins σ H s e s' I hq
 | ok fl=>
  cases fl with
  | ret u=>exact I.after hq
  | next=>exact False.elim hq
  | brk=>exact False.elim hq
  | cont=>exact False.elim hq
theorem BG (F:fH X.prog X.w X.K X.mg X.base CX k f fd ps sp) (hr:cu k X.A) (hg:Gl X x) (hm:X.mg x=some (.ref f)) (hk:PySem.W.keepIn X.K (.ref f)=true) (hb:aP X.K fd ps ds) (hd:bi dvs ds) (hx:ij CX X E)
 (ha:PA X (e::es) t) (hdb:(x==("__debug__" : Str))=false:=by decide) (he:starEach (e::es) X.env=(false,eval e X.env)::starEach es X.env:=by rfl) (hpl:(backTo pos (starEach es X.env)).any (·.1)=false:=by rfl):
 PE X (.Call (.Name x p) (e::es) [] pos) (u6 sp dvs E t):=by
 intro pins s σ H Q I h;refine Qf (hV I hg hm ?_ hdb);refine Qg (h₀:=X.base) I.ok.mod.kin hk (bY (ha pos pins s σ H _ I h) λ us s1 hy0=>?_) he hpl;obtain ⟨vs,H1,I1,r,q⟩:=hy0;refine ⟨I1.kIn,?_⟩;exact vq F hr hb hd hx I1 r q
theorem AI {pl:Sem Bool} (he:PE X o ta) (c:eJ X.K C) (hm:bw X.K C m f) (F:fH X.prog X.w X.K X.mg X.base CX k f fd ps sp) (hr:cu k X.A) (hb:aP X.K fd ps ds) (hd:bi dvs ds) (hx:ij CX X E) (ha:PA X (e::es) t)
 (hst:starEach (e::es) X.env=(false,eval e X.env)::starEach es X.env:=by rfl) (hpl:(backTo pos (starEach es X.env)).any (·.1)=false:=by rfl)
 (ht:eval (.Call (.Attribute o m apos) (e::es) [] pos) X.env=(do
  let ov <-eval o X.env
  standAt apos.atName
  let (f,first) <-holding [ov] (getMethod ov m pl)
  callWith pos f first (backTo pos (starEach (e::es) X.env)) (backToKw pos (keywordEach [] X.env))):=by rfl):
 PE X (.Call (.Attribute o m apos) (e::es) [] pos) (qY C m sp dvs E ta t):=by
 intro pins s σ H Q I h;refine Qn (pl:=pl) (bY (he pins s σ H _ I h) λ u s1 hq0=>?_) ht;obtain ⟨x,H1,I1,rx,a,dx,fs,ex,ea,l,q⟩:=hq0;subst ex;obtain rfl:u=Value.ref a:=rx;refine iU I1 ea c hm l ?_;refine Qg (first:=[.ref a]) (h₀:=X.base) I.ok.mod.kin hm.kp (bY (ha pos pins s1 σ H1 _ I1 q) λ us s2 hy0=>?_) hst hpl;obtain ⟨vs,H2,I2,r,q2⟩:=hy0;refine ⟨I2.kIn,?_⟩;exact vq (us:=.ref a::us) (vs:=.ref a::vs) F hr hb hd hx I2 (.cons rfl r) q2
theorem yQ {pl:Sem Bool} (he:PE X o ta) (c:eJ X.K C) (hm:bw X.K C m f) (F:fH X.prog X.w X.K X.mg X.base CX k f fd ps sp) (hr:cu k X.A) (hb:aP X.K fd ps ds) (hd:bi dvs ds) (hx:ij CX X E)
 (ht:eval (.Call (.Attribute o m apos) [] [] pos) X.env=(do
  let ov <-eval o X.env
  standAt apos.atName
  let (f,first) <-holding [ov] (getMethod ov m pl)
  callWith pos f first (backTo pos (starEach [] X.env)) (backToKw pos (keywordEach [] X.env))):=by rfl):
 PE X (.Call (.Attribute o m apos) [] [] pos) (qY C m sp dvs E ta kT):=by
 intro pins s σ H Q I h;refine Qn (pl:=pl) (bY (he pins s σ H _ I h) λ u s1 hq0=>?_) ht;obtain ⟨x,H1,I1,rx,a,dx,fs,ex,ea,l,q⟩:=hq0;subst ex;obtain rfl:u=Value.ref a:=rx;refine iU I1 ea c hm l ?_;exact PySem.W.callWith_K0 (first:=[.ref a]) I1.kIn hm.kp (vq (us:=[.ref a]) (vs:=[.ref a]) F hr hb hd hx I1 (.cons rfl .nil) q)
structure Mk (K:Frag) (C f:Addr):Prop where
 makes:PySem.W.makesIn K C=true
 init:PySem.W.findIn K (.ref C) "__init__" = some (some (.ref f))
 fn:PySem.W.isFn K (.ref f)=true
 kp:PySem.W.keepIn K (.ref C)=true
theorem tV {pins:List (Addr×Obj)} {σ:St} {H:Hp} {s:Shared} {Q:VK} {us:List Value} {vs:List V} (M:Mk X.K C f) (F:fH X.prog X.w X.K X.mg X.base CX k f fd ps sp) (hr:cu (k+1) X.A) (hb:aP X.K fd ps ds) (hd:bi dvs ds)
 (hx:ij CX X E) (I:aJ X pins σ H s) (r:bi vs us)
 (h:∀ x dx,H x=none->H dx=none->dx≠x->sp (.ref x::(vs++dvs)) (cE (cE H dx (.own x)) x (.ins C dx [])) (λ v H2=>v=.non/\Q (.ref x) H2) E):
 wpAny (model X.prog X.w) X.A (call (.ref C) us) (EP X pins σ Q) X.xe s:=by
 have hq:=h (s.heap.objs.size+1) s.heap.objs.size (I.hok.fresh (Nat.le_succ _)) (I.hok.fresh (OB _)) (Ph (PY _));have I2:=aJ.made (C:=C) I;have r2:bi (V.ref (s.heap.objs.size+1)::(vs++dvs)) (Value.ref (s.heap.objs.size+1)::(us++ds)):=.cons rfl (r.append hd);have hl:(Value.ref (s.heap.objs.size+1)::us++ds).length=ps.length:=by
  have e:=r2.length;rw [F.len _ _ _ _ hq] at e;exact e.symm
 refine wpAny_call (yg (f:=f) I.kIn M.makes M.init (Qz.mp M.fn) (QJ (F.run _ X.stack _ _ ⟨Value.ref (s.heap.objs.size+1)::us,[]⟩ (Value.ref (s.heap.objs.size+1)::(us++ds)) _ _ E (hr.make C us [])
  (I2.env0.make C us []) (hb _ (Value.ref (s.heap.objs.size+1)::us) I2.kIn hl) r2 hq) λ r s' hq'=>?_))
 cases r with
 | error e=>exact hx pins σ _ _ e s' I2 hq'
 | ok fl=>
  cases fl with
  | ret u=>
   obtain ⟨v,H',I3,rv,ev,q3⟩:=I2.after hq';subst ev;exact ⟨rv,⟨V.ref (s.heap.objs.size+1),H',I3,rfl,q3⟩⟩
  | next=>exact False.elim hq'
  | brk=>exact False.elim hq'
  | cont=>exact False.elim hq'
theorem Bv (M:Mk X.K C f) (F:fH X.prog X.w X.K X.mg X.base CX k f fd ps sp) (hr:cu (k+1) X.A) (hg:Gl X x) (hm:X.mg x=some (.ref C)) (hb:aP X.K fd ps ds) (hd:bi dvs ds) (hx:ij CX X E)
 (ha:PA X (e::es) t) (hdb:(x==("__debug__" : Str))=false:=by decide) (he:starEach (e::es) X.env=(false,eval e X.env)::starEach es X.env:=by rfl) (hpl:(backTo pos (starEach es X.env)).any (·.1)=false:=by rfl):
 PE X (.Call (.Name x p) (e::es) [] pos) (Am C sp dvs E t):=by
 intro pins s σ H Q I h;refine Qf (hV I hg hm ?_ hdb);refine Qg (h₀:=X.base) I.ok.mod.kin M.kp (bY (ha pos pins s σ H _ I h) λ us s1 hy0=>?_) he hpl;obtain ⟨vs,H1,I1,r,q⟩:=hy0;refine ⟨I1.kIn,?_⟩;exact tV M F hr hb hd hx I1 r q
theorem yE (M:Mk X.K C f) (F:fH X.prog X.w X.K X.mg X.base CX k f fd ps sp) (hr:cu (k+1) X.A) (hg:Gl X x) (hm:X.mg x=some (.ref C)) (hb:aP X.K fd ps ds) (hd:bi dvs ds) (hx:ij CX X E)
 (hdb:(x==("__debug__" : Str))=false:=by decide):PE X (.Call (.Name x p) [] [] pos) (Am C sp dvs E kT):=by
 intro pins s σ H Q I h;refine Qf (hV I hg hm ?_ hdb);exact PySem.W.callWith_K0 I.kIn M.kp (tV (us:=[]) M F hr hb hd hx I .nil h)
end
section
variable {X:Cx} {CX:sV} {k:Nat} {f C:Addr} {fd:FuncData} {ps ks:List Str} {sp:Sp} {E:XK} {x m:Str} {p pos apos kpos:Pos} {e o:Expr} {es:List Expr} {kws:List Keyword} {te ta:TE} {t tk:TA} {nm:Option Str}
variable {g:List Value->List Value->List Value} {gV:List V->List V->List V}
end
structure dU (N P:List Str) (sc:Scope):Prop where
 kind:sc.kind=.function
 co:sc.isCoroutine=false
 gen:sc.isGenerator=false
 nd:N.Nodup
 pre:N.take P.length=P
 par:∀ x∈P,sc.names.lookup x=some .local∨sc.names.lookup x=some .cell
 nofree:∀ y∈sc.names,y.2≠.free
theorem qz {kindOf:Str->Option NameKind} {x:Str}:∀ {binds:List (Str×Value)} {m:Str->Option Value},(∀ v,(x,v)∉binds)->bindL kindOf binds m x=m x
 | [],_,_=>rfl
 | (n,v)::r,m,h=>by
  unfold bindL;rw [qz λ w hw=>h w (Pd _ hw)];split
  . have:x≠n:=by rintro rfl;exact h v Pc
    simp [this]
  . rfl
theorem qI {kindOf:Str->Option NameKind} {x:Str}:∀ {binds:List (Str×Value)} {m:Str->Option Value},(∀ v,(x,v)∉binds)->bindC kindOf binds m x=m x
 | [],_,_=>rfl
 | (n,v)::r,m,h=>by
  unfold bindC;rw [qI λ w hw=>h w (Pd _ hw)];split
  . rfl
  . have:x≠n:=by rintro rfl;exact h v Pc
    simp [this]
theorem qR {kindOf:Str->Option NameKind} {x:Str} {v:Value}:∀ {P:List Str} {vs:List Value} {i:Nat} {m:Str->Option Value},P.Nodup->P[i]?=some x->vs[i]?=some v->kindOf x=some .local->
 bindL kindOf (P.zip vs) m x=some v
 | [],_,_,_,_,h,_,_=>by simp at h
 | _::_,[],_,_,_,_,h,_=>by simp at h
 | p::P,w::vs,0,m,nd,h1,h2,hk=>by
  simp at h1 h2;subst h1;subst h2;show bindL kindOf ((p,w)::P.zip vs) m p=_;unfold bindL;rw [qz λ v hv=>(PD.mp nd).1 (QH hv).1,OG hk];simp
 | p::P,w::vs,i+1,m,nd,h1,h2,hk=>by
  show bindL kindOf ((p,w)::P.zip vs) m x=_;unfold bindL;exact qR (i:=i) (PD.mp nd).2 (by simpa using h1) (by simpa using h2) hk
theorem qk {kindOf:Str->Option NameKind} {x:Str} {v:Value}:∀ {P:List Str} {vs:List Value} {i:Nat} {m:Str->Option Value},P.Nodup->P[i]?=some x->vs[i]?=some v->kindOf x≠some .local->
 bindC kindOf (P.zip vs) m x=some v
 | [],_,_,_,_,h,_,_=>by simp at h
 | _::_,[],_,_,_,_,h,_=>by simp at h
 | p::P,w::vs,0,m,nd,h1,h2,hk=>by
  simp at h1 h2;subst h1;subst h2;show bindC kindOf ((p,w)::P.zip vs) m p=_;unfold bindC;rw [qI λ v hv=>(PD.mp nd).1 (QH hv).1,OT hk];simp
 | p::P,w::vs,i+1,m,nd,h1,h2,hk=>by
  show bindC kindOf ((p,w)::P.zip vs) m x=_;unfold bindC;exact qk (i:=i) (PD.mp nd).2 (by simpa using h1) (by simpa using h2) hk
noncomputable def start (N:List Str) (vs:List V):St:=vs.map some++List.replicate (N.length-vs.length) none
noncomputable def gJ (CX:sV) (P:Program) (w:World) (K:Frag) (mg:Str->Option Value) (base:Heap) (N:List Str) (qual:Str) (scope:Scope) (f:Addr) (cd:Value) (A:Around) (outer:List Env) (s:Shared) (H:Hp) (E:XK):Cx where
 prog:=P
 w:=w
 K:=K
 mg:=mg
 base:=base
 A:=A.deeper (envOfC qual scope s.heap.objs.size f cd)
 N:=N
 s₀:=s
 H₀:=H
 env:=envOfC qual scope s.heap.objs.size f cd
 outer:=outer
 stack:=envOfC qual scope s.heap.objs.size f cd::outer
 ex:=[]
 calm:=true
 fn:=λ _=>true
 pn:=[]
 xe:=λ e s'=>wpAny (model P w) (A.deeper (envOfC qual scope s.heap.objs.size f cd)) (leaving (envOfC qual scope s.heap.objs.size f cd) e) (λ _ s''=>CX outer H s E e s'') (λ e' s''=>CX outer H s E e' s'') s'
theorem uw {sc:Scope} {n:Nat} {x:Str} (h:sc.names.lookup x=some .cell):∃ c,(cellsFrom n sc.names []).lookup x=some c:=by
 have q:=Qv sc.names n [] (.inl h);exact P6.mp q
theorem qr {CX:sV} {P:Program} {w:World} {K:Frag} {mg:Str->Option Value} {base:Heap} {N ps:List Str} {qual:Str} {scope:Scope} {f:Addr} {cd:Value} {A:Around} {outer:List Env} {s s1:Shared} {H:Hp} {E:XK} {us:List Value} {vs:List V}
 (S:dU N ps scope) (hd:A.handled=none) (e0:t9 P w K mg base A outer s H) (hl:vs.length=ps.length) (r:bi vs us)
 (x:InCallC s s.heap.objs.size (bindL (envOfC qual scope s.heap.objs.size f cd).kindOf (ps.zip us) λ _=>none) (cellsFrom (s.heap.objs.size+1) scope.names []) (bindC (envOfC qual scope s.heap.objs.size f cd).kindOf (ps.zip us) λ _=>none) s1):
 aJ (gJ CX P w K mg base N qual scope f cd A outer s H E) [] (start N vs) H s1:=by
 have hpl:ps.length<=N.length:=by have:=OI List.length S.pre;rw [Qr] at this;omega
 obtain ⟨h1,tk,rfl,hk⟩:=x.done;have noA:∀ b:Addr,b∉(gJ CX P w K mg base N qual scope f cd A outer s H E).ex:=λ b z=>absurd (show b∈([]:List Addr) from z) (by simp);refine ⟨⟨e0.mod,S.kind,rfl,rfl,OB _,λ y z c h1 h2=>?_,λ y hy=>?_,λ y c _ h=>?_,λ _=>hd,Around.frames_deeper e0.frames,.inr ⟨rfl,rfl⟩,λ b z=>absurd z (noA b),e0.bs,e0.bsz,λ b _ _=>noA b,λ b z=>absurd z (noA b),e0.funs,e0.frf⟩,
  rfl,e0.bare,Un.kept hk,⟨_,x.toInCall.ns,λ i y v h1 h2 h3=>?_⟩,λ y c h=>⟨_,x.cell y c h⟩,e0.hok.fresh (OB _),λ y c h=>?_,λ p hp=>absurd (show p∈([]:List (Addr×Obj)) from hp) (by simp),e0.hok.kept hk,?_⟩
 . exact name_of_addr x.apart (PR h1) (PR h2)
 . have hy:scope.names.lookup y=some .cell∨scope.names.lookup y=some .free:=hy;rcases hy with hy | hy
   . exact uw hy
   . exact absurd rfl (S.nofree _ (PR hy))
 . exact PX (x.above y c (PR h))
 . have hi:i<vs.length:=by
    unfold start at h2;by_cases hi:i<vs.length
    . exact hi
    . rw [O6 (by simpa using hi)] at h2;rw [P9] at h2;split at h2 <;> cases h2
   have ha:vs[i]?=some v:=by
    unfold start at h2;rw [OR (by simpa using hi),Pq] at h2;cases e:vs[i]? with
    | none=>rw [e] at h2;cases h2
    | some a=>rw [e] at h2;cases h2;rfl
   obtain ⟨u,hu,rv⟩:=r.get ha;have hp:ps[i]?=some y:=by
    rw [<-S.pre,List.getElem?_take_of_lt (by omega)];exact h1
   have ndP:ps.Nodup:=by rw [<-S.pre];exact S.nd.sublist (List.take_sublist _ _)
   refine ⟨u,rv,?_⟩;rcases S.par y (Pb hp) with k | k
   . exact .inl ⟨k,qR ndP hp hu k⟩
   . obtain ⟨c,e⟩:=uw (n:=s.heap.objs.size+1) k;refine .inr ⟨.inl k,c,e,?_⟩;have q:=x.cell y c e;rw [qk ndP hp hu (by show scope.names.lookup y≠_;rw [k];decide)] at q;exact q
 . exact e0.hok.fresh (PX (x.above y c (PR h)))
 . unfold start;show _=N.length;rw [PH,OH,List.length_replicate];omega
theorem D7 {CX:sV} {P:Program} {w:World} {K:Frag} {mg:Str->Option Value} {base:Heap} {k:Nat} {f:Addr} {name qual:Str} {params:Arguments} {body:List Stmt} {scope:Scope} {dV kV doc pm cdv ct oc:Value} {an od:Option Addr}
 {osl:Array (Option Value)} {N ps:List Str} {sp:Sp} (lk:K.lookup f=some ⟨oc,od,.func (PySem.W.fnOf name qual params body scope dV kV doc pm an cdv ct),osl⟩) (hcd:PySem.W.codeIn K cdv qual=true) (S:dU N ps scope)
 (len:∀ vs H Q E,sp vs H Q E->vs.length=ps.length)
 (hbody:∀ (A:Around) (outer:List Env) (s:Shared) (H:Hp) (vs:List V) (Q:VK) (E:XK),cu k (A.deeper (envOfC qual scope s.heap.objs.size f cdv))->sp vs H Q E->
  ∃ t,nY (gJ CX P w K mg base N qual scope f cdv A outer s H E) body t/\t { nx:=λ _ H'=>Q .non H',rt:=Q } (start N vs) H):
 fH P w K mg base CX (k+1) f (PySem.W.fnOf name qual params body scope dV kV doc pm an cdv ct) ps sp:=by
 refine ⟨len,λ A outer s H args us vs Q E hr e0 hb r hsp=>?_⟩;have hl:=len _ _ _ _ hsp;have KX:K.In s.heap:=e0.mod.kin.keeps λ b o e=>(e0.bs b o e).1;have lim:s.heap.NoLimit:=e0.mod.nolimit.keeps λ b o e=>(e0.bs b o e).1;have hkind:∀ y∈ps.zip us,scope.names.lookup y.1=some .local∨(scope.names.lookup y.1=some .cell/\((cellsFrom (s.heap.objs.size+1) scope.names []).lookup y.1).isSome=true):=λ ⟨n,v⟩ hy=>by
  rcases S.par n (QH hy).1 with q | q
  . exact .inl q
  . exact .inr ⟨q,Qv _ _ _ (.inl q)⟩
 refine codeAny_call_function hr.depth (KX _ _ lk) rfl S.co S.gen rfl (PySem.W.codeRec_of KX hcd) (hb _ _ _ _ ?_);refine wpAny_newFunctionEnv_cells S.kind hkind λ env he s1 x=>?_;subst he;refine ⟨lim.keeps x.toInCall.keep,codeAny_func ?_⟩;obtain ⟨t,ht,hq⟩:=hbody A outer s H vs Q E (hr.deeper _) hsp;have I:aJ (gJ CX P w K mg base N qual scope f cdv A outer s H E) [] (start N vs) H s1:=qr S hr.hd e0 hl r x;refine Pn (ht [] s1 (start N vs) H _ I hq) (λ fl s' hs=>?_) λ e s' hs=>hs;have fin:∀ {σ':St} {H':Hp} {v:V} {u:Value},aJ (gJ CX P w K mg base N qual scope f cdv A outer s H E) [] σ' H' s'->bq v u->Q v H'->CE outer P w H s Q u s':=
  λ {σ' H' v u} J rv q=>⟨v,H',J.os,J.bare,J.base,J.hok,rv,q⟩
 cases fl with
 | ret u=>
  obtain ⟨v,σ',H',J,rv,q⟩:=hs;exact fin J rv q
 | next=>
  obtain ⟨σ',H',J,q⟩:=hs;exact fin (v:=V.non) (u:=Value.none) J rfl q
 | brk=>
  obtain ⟨_,_,_,q⟩:=hs;exact False.elim q
 | cont=>
  obtain ⟨_,_,_,q⟩:=hs;exact False.elim q
end L2
namespace L2
open PySem PySem.Spec PyProof.Rows
open PySem.W (Frag)
section
variable {X:Cx} {x:Str} {p pos:Pos} {e:Expr} {es:List Expr} {t:TA} {id T:String} {r:List V->Hp->VK->Prop}
noncomputable def wY (r:List V->Hp->VK->Prop) (t:TA):TE:=λ σ H Q=>t σ H λ vs H1=>r vs H1 Q
theorem yX (hc:cU X (.builtin id) r) (hg:Gl X x) (hm:X.mg x=none) (hv:bootBuiltins x=some (.builtin id)) (ha:PA X (e::es) t) (hn:x ≠ "__name__" := by decide) (hdb:(x==("__debug__" : Str))=false:=by decide)
 (he:starEach (e::es) X.env=(false,eval e X.env)::starEach es X.env:=by rfl) (hpl:(backTo pos (starEach es X.env)).any (·.1)=false:=by rfl):PE X (.Call (.Name x p) (e::es) [] pos) (wY r t):=by
 intro pins s σ H Q I h;refine Qf (rj I hg hm hv ?_ hn hdb);exact PyProof.Rows.callWith_builtin1 (bY (ha pos pins s σ H _ I h) λ us s1 hy0=>by obtain ⟨vs,H1,I1,r1,q1⟩:=hy0;exact hc pins s1 σ H1 vs us Q I1 r1 q1) he hpl
theorem pZ (hc:cU X (.type T) r) (hg:Gl X x) (hm:X.mg x=none) (hv:bootBuiltins x=some (.type T)) (ha:PA X (e::es) t) (hn:x ≠ "__name__" := by decide) (hdb:(x==("__debug__" : Str))=false:=by decide)
 (he:starEach (e::es) X.env=(false,eval e X.env)::starEach es X.env:=by rfl) (hpl:(backTo pos (starEach es X.env)).any (·.1)=false:=by rfl):PE X (.Call (.Name x p) (e::es) [] pos) (wY r t):=by
 intro pins s σ H Q I h;refine Qf (rj I hg hm hv ?_ hn hdb);exact PyProof.Rows.callWith_type1 (bY (ha pos pins s σ H _ I h) λ us s1 hy0=>by obtain ⟨vs,H1,I1,r1,q1⟩:=hy0;exact hc pins s1 σ H1 vs us Q I1 r1 q1) he hpl
end
end L2
namespace HT
open PySem PyProof.Rows
section
open PySem.SeqAt
open PySem.AutoSeq1 (wpAny_loadPart')
open PySem.MeetsSeq PySem.MeetsSeq2 PySem.MeetsSeq3
end
section
variable {prog:Program} {w:World} {A:Around} {E:Value->Shared->Prop} {s:Shared}
theorem cat_tup {t b:Addr} {vs ws:List Value} {Q:Value->Shared->Prop} (ht:IsTup s.heap t vs.toArray) (hb:IsTup s.heap b ws.toArray) (hv:vs≠[])
 (h1:ws=[]->Q (.ref t) s) (h2:ws≠[]->Q (.ref s.heap.objs.size) { s with heap:=s.heap.push { cls:=.type "tuple", data:=.seq (vs++ws).toArray } })
 (hsz:vs.length+ws.length<=sizeLine):wpAny (model prog w) A (binaryOp .Add (.ref t) (.ref b)) Q E s:=by
 obtain ⟨⟨cls,dd,data,sl⟩,ho,hc,n,hd⟩:=id ht;obtain ⟨⟨cls2,dd2,data2,sl2⟩,ho2,hc2,n2,hd2⟩:=id hb;simp only at hc hd hc2 hd2;subst hc hd hc2 hd2;have e:vs.toArray++ws.toArray=(vs++ws).toArray:=by simp
 by_cases hw:ws=[]
 . exact concat_meets ⟨_,ho,rfl⟩ ⟨_,ho2,rfl⟩ noFill_tuple_add seq_tuple_add PySem.F.slot_tuple_add PySem.F.entry_tuple_add (PySem.F.args_tuple_add_2 _ _)
    (tuple_addW1 t b vs.toArray ws.toArray n n2 dd dd2 sl sl2 (by simpa using hv) (by simp [hw])) ⟨ho,ho2,h1 hw⟩
 . refine concat_meets ⟨_,ho,rfl⟩ ⟨_,ho2,rfl⟩ noFill_tuple_add seq_tuple_add PySem.F.slot_tuple_add PySem.F.entry_tuple_add (PySem.F.args_tuple_add_2 _ _)
    (tuple_addW2 t b vs.toArray ws.toArray n n2 dd dd2 sl sl2 (by simpa using hv) (by simpa using hw) (by rw [List.size_toArray,List.size_toArray];exact hsz)) ⟨ho,ho2,?_⟩
   rw [e];exact h2 hw
noncomputable def sIx (n d:Nat):Option Int->Nat
 | none=>d
 | some v=>if v<0 then (v+(n:Int)).toNat else min v.toNat n
theorem sIx_none (n d:Nat):sIx n d none=d:=rfl
theorem sIx_nat (n d k:Nat):sIx n d (some (k:Int))=min k n:=by
 show (if (k:Int)<0 then ((k:Int)+(n:Int)).toNat else min (k:Int).toNat n)=min k n;rw [if_neg (by omega),Int.toNat_natCast]
end
end HT
namespace L2
open PySem PySem.Spec PyProof.Rows
open PySem.W (Frag)
noncomputable abbrev TO:=St->Hp->(Option Int->Hp->Prop)->Prop
noncomputable def PO (X:Cx) (e:Option Expr) (t:TO):Prop:=
 ∀ (pins:List (Addr×Obj)) (s:Shared) (σ:St) (H:Hp) (Q:Option Int->Hp->Prop),aJ X pins σ H s->t σ H Q->
  wpAny (model X.prog X.w) X.A (evalPart e X.env) (λ u s'=>∃ o H',aJ X pins σ H' s'/\IsPart u o/\Q o H') X.xe s
noncomputable def rG:TO:=λ _ H Q=>Q none H
noncomputable def xW (t:TE):TO:=λ σ H Q=>t σ H λ x H1=>∃ i,x=.int i/\Q (some i) H1
section
variable {X:Cx} {e:Expr} {te:TE} {lo hi:Option Expr} {tl th:TO} {pos p2:Pos}
theorem JY:PO X none rG:=by
 intro pins s σ H Q I h;rw [evalPart_none];exact OZ ⟨none,H,I,.none,h⟩
theorem KC (h:PE X e te):PO X (some e) (xW te):=by
 intro pins s σ H Q I hw;rw [evalPart_some];refine bY (h pins s σ H _ I hw) λ u s1 hq0=>?_;obtain ⟨x,H1,I1,r1,q1⟩:=hq0;obtain ⟨i,rfl,q⟩:=q1;obtain ⟨t,rfl⟩:=r1;exact ⟨some i,H1,I1,.int i t,q⟩
noncomputable def Hy (X:Cx) (r:V->Option Int->Option Int->Hp->VK->Prop):Prop:=
 ∀ (pins:List (Addr×Obj)) (s:Shared) (σ:St) (H:Hp) (x:V) (v vl vu:Value) (lo hi:Option Int) (sl:Addr) (Q:VK),aJ X pins σ H s->bq x v->s.heap.IsSliceOf sl vl vu .none->IsPart vl lo->IsPart vu hi->r x lo hi H Q->
  ∃ T id,typeLookup (.type T) "__getitem__" = pure (some (.builtin id))/\s.TypeIs v T/\wpAny (model X.prog X.w) X.A (getItem v (.ref sl)) (EP X pins σ Q) X.xe s
noncomputable def KZ (r:V->Option Int->Option Int->Hp->VK->Prop) (te:TE) (tl th:TO):TE:=λ σ H Q=>te σ H λ x H1=>tl σ H1 λ l H2=>th σ H2 λ u H3=>r x l u H3 Q
theorem HS {r:V->Option Int->Option Int->Hp->VK->Prop} (hr:Hy X r) (he:PE X e te) (hl:PO X lo tl) (hu:PO X hi th):PE X (.Subscript e (.Slice lo hi none p2) pos) (KZ r te tl th):=by
 intro pins s σ H Q I h;refine Subscript_ (bY (he pins s σ H _ I h) λ v s1 hq0=>?_);obtain ⟨x,H1,I1,r1,q1⟩:=hq0;refine wpAny_Slice (bY (hl pins s1 σ H1 _ I1 q1) λ vl s2 hy0=>?_);obtain ⟨l,H2,I2,pl,q2⟩:=hy0;refine bY (hu pins s2 σ H2 _ I2 q2) λ vu s3 hq0=>?_;obtain ⟨u,H3,I3,pu,q3⟩:=hq0;rw [evalPart_none];refine OZ ?_;have I4:aJ X pins σ H3 { s3 with heap:=s3.heap.push { cls:=.type "slice", data:=.fields #[vl,vu,.none] } }:=I3.kept (t':=s3.toks) λ b ob q=>OM _ q;obtain ⟨T,id,hT,ht,hg⟩:=hr pins { s3 with heap:=s3.heap.push { cls:=.type "slice", data:=.fields #[vl,vu,.none] } } σ H3 x v vl vu l u s3.heap.objs.size Q I4 r1 (Heap.IsSliceOf.new ..) pl pu q3;show wpAny (model X.prog X.w) X.A (subscriptTail e (.Slice lo hi none p2) v (.ref s3.heap.objs.size)) (EP X pins σ Q) X.xe { s3 with heap:=s3.heap.push { cls:=.type "slice", data:=.fields #[vl,vu,.none] } };exact tail_any (ops:=[.ref s3.heap.objs.size,v]) ht hT hg (by with_unfolding_all rfl)
noncomputable def tU (xs:List V) (lo hi:Option Int):List V:=(xs.drop (HT.sIx xs.length 0 lo)).take (HT.sIx xs.length xs.length hi-HT.sIx xs.length 0 lo)
theorem tf (xs:List V) (lo hi:Option Int):(tU xs lo hi).length<=xs.length:=by
 unfold tU;rw [Qr,List.length_drop];omega
noncomputable def Dd (K:Frag):R2:=λ x y H Q=>∃ a b xs ys,x=.ref a/\y=.ref b/\gW K H a xs/\gW K H b ys/\xs≠[]/\xs.length+ys.length<=sizeLine/\
 (ys=[]->Q (.ref a) H)/\(ys≠[]->∀ p,H p=none->Q (.ref p) (cE H p (.tup (xs++ys))))
theorem bi.nil_iff {xs:List V} {us:List Value} (r:bi xs us):us=[]↔xs=[]:=by
 cases r with
 | nil=>simp
 | cons _ _=>simp
theorem C7:ir X (binaryOp .Add) (Dd X.K):=by
 intro pins s σ H x y v u Q I rx ry h;obtain ⟨a,b,xs,ys,rfl,rfl,ha,hb,hx,hz,q1,q2⟩:=h;cases rx;cases ry;obtain ⟨its,r1,p1,_⟩:=I.tuple ha;obtain ⟨its2,r2,p2,_⟩:=I.tuple hb;refine HT.cat_tup p1 p2 (λ z=>hx (r1.nil_iff.mp z)) (λ z=>⟨.ref a,H,I,rfl,q1 (r2.nil_iff.mp z)⟩) (λ z=>?_) (by rw [<-r1.length,<-r2.length];exact hz);refine ⟨.ref s.heap.objs.size,_,I.laid (t':=s.toks) (o:=.tup (xs++ys)) (λ b ob q=>OM _ q) (OB _) ?_,rfl,q2 (λ w=>z (r2.nil_iff.mpr w)) _ (I.hok.fresh (OB _))⟩;exact ⟨by rw [PH];exact hz,_,r1.append r2,IsTup.new _ _⟩
end
end L2
namespace L2
open PySem PySem.Spec PyProof.Rows
open PySem.W (Frag)
noncomputable def w9 (n:Nat) (i:Int):Option Nat:=if 0<=i then (if i<n then some i.toNat else none) else if -(n:Int)<=i then some (i+n).toNat else none
noncomputable def iO {α:Type} (xs:List α) (i:Int):Option α:=(w9 xs.length i).bind λ j=>xs[j]?
theorem vN {n:Nat} {i:Int} {j:Nat} (h:w9 n i=some j):seqIndex? i n=some j/\j<n /\ -(n:Int)<=i/\i<n:=by
 unfold w9 at h;by_cases h0:0<=i
 . rw [OG h0] at h;by_cases h1:i<n
   . rw [OG h1] at h;have e:i.toNat=j:=Pg h;exact ⟨by rw [seqIndex_of h0 h1,e],by omega,by omega,h1⟩
   . rw [OT h1] at h;cases h
 . rw [OT h0] at h;by_cases h1 : -(n:Int)<=i
   . rw [OG h1] at h;have e:(i+n).toNat=j:=Pg h;exact ⟨by rw [seqIndex_neg (by omega) h1,e],by omega,h1,by omega⟩
   . rw [OT h1] at h;cases h
theorem sK {α:Type} {xs:List α} {i:Int} {v:α} (h:iO xs i=some v):∃ j,seqIndex? i xs.length=some j/\xs[j]?=some v/\j<xs.length /\ -(xs.length:Int)<=i/\i<xs.length:=by
 unfold iO at h;cases e:w9 xs.length i with
 | none=>rw [e] at h;cases h
 | some j=>
  rw [e] at h;obtain ⟨h1,h2,h3,h4⟩:=vN e;exact ⟨j,h1,h,h2,h3,h4⟩
noncomputable def Cm (b:Expr):Prop:=∀ o i,subscripted b false o i=operate [o,i] (getItem o i)
noncomputable def ze (X:Cx) (r:R2):Prop:=
 ∀ (value slice:Expr) (pins:List (Addr×Obj)) (s:Shared) (σ:St) (H:Hp) (x y:V) (v u:Value) (Q:VK),aJ X pins σ H s->bq x v->bq y u->r x y H Q->
  subscripted slice false v u=operate [v,u] (getItem v u)->wpAny (model X.prog X.w) X.A (subscriptTail value slice v u) (EP X pins σ Q) X.xe s
noncomputable def Ix (X:Cx) (id:String) (r:V->List V->Hp->VK->Prop):Prop:=
 ∀ (pins:List (Addr×Obj)) (s:Shared) (σ:St) (H:Hp) (x:V) (xs:List V) (v:Value) (us:List Value) (Q:VK),aJ X pins σ H s->bq x v->bi xs us->r x xs H Q->
  wpAny (model X.prog X.w) X.A (call (.builtin id) (v::us)) (EP X pins σ Q) X.xe s
section
variable {X:Cx} {a b:Expr} {ta tb:TE} {pos:Pos}
theorem ze.or {r r':R2} (h:ze X r) (h':ze X r'):ze X (λ x y H Q=>r x y H Q∨r' x y H Q):=by
 intro value slice pins s σ H x y v u Q I rx ry q hs;rcases q with q | q
 . exact h value slice pins s σ H x y v u Q I rx ry q hs
 . exact h' value slice pins s σ H x y v u Q I rx ry q hs
theorem Nh {r:R2} (hr:ze X r) (ha:PE X a ta) (hb:PE X b tb) (hs:Cm b):PE X (.Subscript a b pos) (sX r ta tb):=by
 intro pins s σ H Q I h;exact Subscript_ (GE ha hb I h λ v u s2 x y H2 I2 rx ry q=>hr a b pins s2 σ H2 x y v u Q I2 rx ry q (hs _ _))
noncomputable def JV (K:Frag):R2:=λ x y H Q=>∃ p xs i v,x=.ref p/\y=.int i/\eC K H p xs/\iO xs i=some v/\Q v H
noncomputable def Ht (K:Frag):R2:=λ x y H Q=>∃ p xs i v,x=.ref p/\y=.int i/\gW K H p xs/\iO xs i=some v/\Q v H
noncomputable def IH:R2:=λ x y H Q=>∃ z i c,x=.str z/\y=.int i/\z.length<=sizeLine/\iO z.cps.toList i=some c/\Q (.str ⟨#[c]⟩) H
theorem Bd:ze X (JV X.K):=by
 intro value slice pins s σ H x y v u Q I rx ry h hs;obtain ⟨p,xs,i,z,rfl,rfl,hq,he,q⟩:=h;cases rx;obtain ⟨t,rfl⟩:=ry;obtain ⟨its,r,pl,hz⟩:=I.list hq;obtain ⟨j,h1,h2,h3,h4,h5⟩:=sK he;obtain ⟨w,ew,rw'⟩:=r.get h2;have hl:=r.length;have hn:=kG;have fin:EP X pins σ Q w s:=⟨z,H,I,rw',q⟩
 by_cases h0:0<=i
 . have hj:i.toNat=j:=by
    rw [seqIndex_of h0 h5] at h1;exact Pg h1
   exact item_listR pl.isList h0 (by omega) (by rw [hj];simpa using ew) fin hs
 . have hj:(i+(its.toArray.size:Int)).toNat=j:=by
    rw [seqIndex_neg (by omega) h4] at h1;rw [OQ,<-hl];exact Pg h1
   exact subscriptTail_builtinR (x:=w) pl.isList.typeIs slot_list_getitem.lookup
    (wpAny_getItem_list_neg (Q:=λ r s'=>r=w/\EP X pins σ Q r s') pl.isList (by omega) (by rw [OQ] <;> omega) (by omega) (by rw [hj];simpa using ew) ⟨rfl,fin⟩) hs
theorem F7:ze X (Ht X.K):=by
 intro value slice pins s σ H x y v u Q I rx ry h hs;obtain ⟨p,xs,i,z,rfl,rfl,hq,he,q⟩:=h;cases rx;obtain ⟨t,rfl⟩:=ry;obtain ⟨its,r,pl,hz⟩:=I.tuple hq;obtain ⟨j,h1,h2,h3,h4,h5⟩:=sK he;obtain ⟨w,ew,rw'⟩:=r.get h2;have hl:=r.length;have hn:=kG;have fin:EP X pins σ Q w s:=⟨z,H,I,rw',q⟩
 exact subscriptTail_builtinR (x:=w) pl.typeIs slot_tuple_getitem.lookup
  (getItem_tuple (j:=j) (Q:=λ r s'=>r=w/\EP X pins σ Q r s') pl (by omega) (by omega) (by rw [OQ,<-hl];exact h1) (by simpa using ew) ⟨rfl,fin⟩) hs
theorem FH:ze X IH:=by
 intro value slice pins s σ H x y v u Q I rx ry h hs;obtain ⟨z,i,c,rfl,rfl,hz,he,q⟩:=h;obtain ⟨t,rfl⟩:=rx;obtain ⟨t',rfl⟩:=ry;obtain ⟨j,h1,h2,h3,h4,h5⟩:=sK he;have hl:z.cps.toList.length=z.length:=by simp [Str.length]
 rw [hl] at h1 h4 h5;have hn:=kG;exact tail_any (typeIs_str s z t) slot_str_getitem.lookup (getItem_str (c:=c) (by
  have e1:decide (i < -(2^63:Int))=false:=OE (by omega);have e2:decide (i ≥ 2^63)=false:=OE (by omega);rw [e1,e2,Bool.or_false]) (by rw [h1];simpa using h2) ⟨.str ⟨#[c]⟩,H,I.tok _,⟨_,rfl⟩,q⟩) hs
noncomputable def Kl (K:Frag):R2:=λ x y H Q=>JV K x y H Q∨Ht K x y H Q∨IH x y H Q
theorem EV:ze X (Kl X.K):=Bd.or (F7.or FH)
theorem v7 (its:List Value) (n j:Nat) (u:Value):Obj.mapSeq (·.setIfInBounds j u) { cls:=.type "list", data:=.seq its.toArray n }={ cls:=.type "list", data:=.seq (its.set j u).toArray n }:=by
 simp [Obj.mapSeq]
theorem aJ.lst {pins:List (Addr×Obj)} {σ:St} {H:Hp} {s:Shared} {p:Addr} {xs:List V} (I:aJ X pins σ H s) (h:H p=some (.lst xs)):
 ∃ (its:List Value) (n:Nat),bi xs its/\s.heap.get? p=some { cls:=.type "list", data:=.seq its.toArray n }/\xs.length<=sizeLine:=by
 obtain ⟨z,its,n,r,e⟩:=I.hok p _ h;exact ⟨its,n,r,e,z⟩
theorem aJ.lstUpd {pins:List (Addr×Obj)} {σ:St} {H:Hp} {s:Shared} {p:Addr} {xs ys:List V} {its its':List Value} {n n':Nat} {f:Obj->Obj} (I:aJ X pins σ H s) (h:H p=some (.lst xs))
 (ho:s.heap.get? p=some { cls:=.type "list", data:=.seq its.toArray n }) (hf:f { cls:=.type "list", data:=.seq its.toArray n }={ cls:=.type "list", data:=.seq its'.toArray n' }) (r:bi ys its') (hz:ys.length<=sizeLine) (t:Nat):
 aJ X pins σ (cE H p (.lst ys)) { s with heap:=s.heap.update p f,toks:=t }:=by
 have e:(s.heap.update p f).get? p=some { cls:=.type "list", data:=.seq its'.toArray n' }:=by
  rw [Pr f ho (by rw [hf] <;> rfl),hf]
 refine I.write (x:=p) (e:=p) (by rw [h];trivial) (.inl rfl) (λ b u hb q=>(Heap.get?_update_other _ _ (Qu hb)).trans q) ⟨_,e⟩ ?_;exact ⟨hz,its',n',r,e⟩
noncomputable def ym:V->V->V->Hp->(Hp->Prop)->Prop:=λ o i v H Q=>∃ p xs k j,o=.ref p/\i=.int k/\H p=some (.lst xs)/\w9 xs.length k=some j/\Q (cE H p (.lst (xs.set j v)))
theorem yu:HQ X ym:=by
 intro pins s σ H o i v ov iv u Q I ro ri rv h;obtain ⟨p,xs,k,j,rfl,rfl,hp,hj,q⟩:=h;cases ro;obtain ⟨t,rfl⟩:=ri;obtain ⟨its,n,r,ho,hz⟩:=I.lst hp;obtain ⟨h1,h2,h3,h4⟩:=vN hj;have hl:=r.length;have hn:=kG;have I':aJ X pins σ (cE H p (.lst (xs.set j v))) { s with heap:=s.heap.update p (Obj.mapSeq (·.setIfInBounds j u)) }:=
  I.lstUpd hp ho (v7 its n j u) (r.set rv j) (by rw [Pu];exact hz) s.toks
 by_cases h0:0<=k
 . have hk:k.toNat=j:=by
    rw [seqIndex_of h0 h4] at h1;exact Pg h1
   exact PySem.W.ki_setAt ho h0 (by omega) (by rw [OQ,<-hl];exact h4) (by rw [hk];exact ⟨_,I',q⟩)
 . have hk:(k+(its.toArray.size:Int)).toNat=j:=by
    rw [seqIndex_neg (by omega) h3] at h1;rw [OQ,<-hl];exact Pg h1
   exact PySem.W.ki_setBack ho (by omega) (by rw [OQ,<-hl];exact h3) (by omega) (by rw [hk];exact ⟨_,I',q⟩)
theorem rO (lo hi:Option Int) (n:Nat):(sliceBounds lo hi none n).1=((HT.sIx n 0 lo:Nat):Int)/\(sliceBounds lo hi none n).2.1=((HT.sIx n n hi:Nat):Int)/\(sliceBounds lo hi none n).2.2=1:=by
 refine ⟨?_,?_,rfl⟩
 . cases lo with
   | none=>simp [sliceBounds,HT.sIx]
   | some i=>
    simp only [sliceBounds,HT.sIx,QA,show (1:Int)>0 by decide,Pj];by_cases h:i<0
    . simp only [h,Pj] <;> omega
    . simp only [h,Qp] <;> omega
 . cases hi with
   | none=>simp [sliceBounds,HT.sIx]
   | some i=>
    simp only [sliceBounds,HT.sIx,QA,show (1:Int)>0 by decide,Pj];by_cases h:i<0
    . simp only [h,Pj] <;> omega
    . simp only [h,Qp] <;> omega
theorem pW (its:List Value) (lo hi:Option Int):slicePick its.toArray lo hi none=((its.drop (HT.sIx its.length 0 lo)).take (HT.sIx its.length its.length hi-HT.sIx its.length 0 lo)).toArray:=by
 obtain ⟨h1,h2,h3⟩:=rO lo hi its.toArray.size;unfold slicePick;rw [h1,h2,h3];simp only [sliceRange_one,pick_run,OQ] <;> rfl
noncomputable def IX (K:Frag):V->Option Int->Option Int->Hp->VK->Prop:=λ x lo hi H Q=>∃ a xs,x=.ref a/\eC K H a xs/\∀ p,H p=none->Q (.ref p) (cE H p (.lst (tU xs lo hi)))
theorem BD:Hy X (IX X.K):=by
 intro pins s σ H x v vl vu lo hi sl Q I rx hs pl pu h;obtain ⟨a,xs,rfl,hx,q⟩:=h;cases rx;obtain ⟨its,r,ht,hz⟩:=I.list hx;have hlen:=r.length;refine ⟨"list", _,slot_list_getitem.lookup,ht.isList.typeIs,?_⟩;refine wpAny_getItem_list_slice ht.isList hs pl pu .none (by simp) ?_ (by rw [OQ] <;> omega);rw [pW,<-hlen];refine ⟨.ref s.heap.objs.size,_,I.laid (t':=s.toks) (o:=.lst (tU xs lo hi)) (λ b ob q=>OM _ q) (OB _) ?_,rfl,q _ (I.hok.fresh (OB _))⟩;exact ⟨OY (tf xs lo hi) hz,_,0,(r.drop (HT.sIx xs.length 0 lo)).take (HT.sIx xs.length xs.length hi-HT.sIx xs.length 0 lo),Pf _ rfl⟩
noncomputable def gC:V->Bool
 | .non=>true
 | .bl _=>true
 | .int _=>true
 | .str _=>true
 | _=>false
noncomputable def De:V->V->Bool
 | .non,.non=>true
 | .bl a,.bl b=>a==b
 | .bl a,.int b=>(if a then 1 else 0)==b
 | .int a,.bl b=>a==(if b then 1 else 0)
 | .int a,.int b=>a==b
 | .str a,.str b=>a==b
 | _,_=>false
theorem EZ {A:Around} {s:Shared} {y x:V} {u v:Value} (ry:bq y u) (rx:bq x v) (fy:gC y=true) (fx:gC x=true):SeqAt.EqAt A s u v (De y x):=by
 cases y with
 | non=>
  cases ry;cases x with
  | non=>cases rx;exact SeqAt.EqAt.same _
  | bl b=>cases rx;exact SeqAt.EqAt.none_bool b
  | int b=>obtain ⟨t,rfl⟩:=rx;exact SeqAt.EqAt.none_int b t
  | str b=>obtain ⟨t,rfl⟩:=rx;exact SeqAt.EqAt.none_str b t
  | _=>exact absurd (show false=true from fx) OP
 | bl a=>
  cases ry;cases x with
  | non=>cases rx;exact SeqAt.EqAt.bool_none a
  | bl b=>cases rx;exact SeqAt.EqAt.bool_bool a b
  | int b=>obtain ⟨t,rfl⟩:=rx;exact SeqAt.EqAt.bool_int a b t
  | str b=>obtain ⟨t,rfl⟩:=rx;exact SeqAt.EqAt.bool_str a b t
  | _=>exact absurd (show false=true from fx) OP
 | int a=>
  obtain ⟨t',rfl⟩:=ry;cases x with
  | non=>cases rx;exact SeqAt.EqAt.int_none a t'
  | bl b=>cases rx;exact SeqAt.EqAt.int_bool a t' b
  | int b=>obtain ⟨t,rfl⟩:=rx;exact SeqAt.EqAt.int_int a t' b t
  | str b=>obtain ⟨t,rfl⟩:=rx;exact SeqAt.EqAt.int_str a t' b t
  | _=>exact absurd (show false=true from fx) OP
 | str a=>
  obtain ⟨t',rfl⟩:=ry;cases x with
  | non=>cases rx;exact SeqAt.EqAt.str_none a t'
  | bl b=>cases rx;exact SeqAt.EqAt.str_bool a t' b
  | int b=>obtain ⟨t,rfl⟩:=rx;exact SeqAt.EqAt.str_int a t' b t
  | str b=>obtain ⟨t,rfl⟩:=rx;exact SeqAt.EqAt.str_str a t' b t
  | _=>exact absurd (show false=true from fx) OP
 | _=>exact absurd (show false=true from fy) OP
noncomputable def C6 (x:V) (u:Value):Bool:=match u with
 | .none=>De .non x
 | .bool b=>De (.bl b) x
 | .int i _=>De (.int i) x
 | .str z _=>De (.str z) x
 | _=>false
theorem xV {x y:V} {u:Value} (r:bq y u) (f:gC y=true):C6 x u=De y x:=by
 cases y with
 | non=>cases r;rfl
 | bl b=>cases r;rfl
 | int i=>obtain ⟨t,rfl⟩:=r;rfl
 | str z=>obtain ⟨t,rfl⟩:=r;rfl
 | _=>exact absurd (show false=true from f) OP
theorem wu {x:V} {xs:List V} {us:List Value} (h:bi xs us):xs.all gC=true->us.any (C6 x)=xs.any λ y=>De y x:=by
 induction h with
 | nil=>exact λ _=>rfl
 | cons r _ ih=>
  intro f;rw [List.all_cons,OL] at f;rw [Qm,Qm,xV r f.1,ih f.2]
theorem uo {A:Around} {s:Shared} {x:V} {v:Value} (rx:bq x v) (fx:gC x=true):∀ {xs:List V} {us:List Value},bi xs us->xs.all gC=true->∀ u∈us,SeqAt.EqAt A s u v (C6 x u):=λ h f u' hu=>by
 induction h with
 | nil=>cases hu
 | cons r _ ih=>
  rw [List.all_cons,OL] at f;rcases OO.mp hu with rfl | hu
  . rw [xV r f.1];exact EZ r rx f.1 fx
  . exact ih f.2 hu
noncomputable def HV (x:V) (xs:List V):Bool:=xs.any λ y=>De y x
noncomputable def Hg (K:Frag) (neg:Bool):R2:=λ x y H Q=>∃ p xs,y=.ref p/\(eC K H p xs∨gW K H p xs)/\gC x=true/\xs.all gC=true/\Q (.bl (if neg then !HV x xs else HV x xs)) H
theorem xC:ir X (compareOp .In) (Hg X.K false):=by
 intro pins s σ H x y v u Q I rx ry h;obtain ⟨p,xs,rfl,hq,fx,fs,q⟩:=h;cases ry;rcases hq with hq | hq
 . obtain ⟨its,r,pl,hz⟩:=I.list hq;refine SeqAt.in_listAt (C6 x) pl.isList (λ w hw=>uo rx fx r fs w (by simpa using hw)) ⟨.bl _,H,I,rfl,?_⟩;rw [show its.toArray.any (C6 x)=its.any (C6 x) by simp,wu r fs];exact q
 . obtain ⟨its,r,pl,hz⟩:=I.tuple hq;refine SeqAt.in_tupleAt (C6 x) pl (λ w hw=>uo rx fx r fs w (by simpa using hw)) ⟨.bl _,H,I,rfl,?_⟩;rw [show its.toArray.any (C6 x)=its.any (C6 x) by simp,wu r fs];exact q
theorem rE:cU X (.builtin "len") (λ xs H Q=>∃ p ys,xs=[.ref p]/\(eC X.K H p ys∨gW X.K H p ys)/\Q (.int ys.length) H):=by
 intro pins s σ H xs us Q I r h;obtain ⟨p,ys,rfl,hq,q⟩:=h;obtain ⟨u,rfl,rx⟩:=mZ r;cases rx;have hn:=kG;rcases hq with hq | hq
 . obtain ⟨its,r',pl,hz⟩:=I.list hq;have hlen:=r'.length;exact Calls.call_len_list pl.isList (by simp only [OQ] <;> omega) ⟨.int ys.length,H,I.tok _,⟨s.toks+1,by rw [OQ,hlen]⟩,q⟩
 . obtain ⟨its,r',pl,hz⟩:=I.tuple hq;have hlen:=r'.length;exact len_tuple pl (by simp only [OQ] <;> omega) ⟨.int ys.length,H,I.tok _,⟨s.toks+1,by rw [OQ,hlen]⟩,q⟩
theorem sJ:cU X (.builtin "len") (λ xs H Q=>∃ z,xs=[.str z]/\z.length<=sizeLine/\Q (.int z.length) H):=by
 intro pins s σ H xs us Q I r h;obtain ⟨z,rfl,hz,q⟩:=h;obtain ⟨u,rfl,t,rfl⟩:=mZ r;have hn:=kG;exact len_str (by omega) ⟨.int z.length,H,I.tok _,⟨_,rfl⟩,q⟩
theorem cU.or {f:Value} {r r':List V->Hp->VK->Prop} (h:cU X f r) (h':cU X f r'):cU X f (λ xs H Q=>r xs H Q∨r' xs H Q):=by
 intro pins s σ H xs us Q I rs q;rcases q with q | q
 . exact h pins s σ H xs us Q I rs q
 . exact h' pins s σ H xs us Q I rs q
theorem sj:cU X (.type "list") (λ xs H Q=>∃ p ys,xs=[.ref p]/\(eC X.K H p ys∨gW X.K H p ys)/\∀ l,H l=none->Q (.ref l) (cE H l (.lst ys))):=by
 intro pins s σ H xs us Q I r h;obtain ⟨p,ys,rfl,hq,q⟩:=h;obtain ⟨u,rfl,rx⟩:=mZ r;cases rx;have fin:∀ (its:List Value),bi ys its->ys.length<=sizeLine->∀ (h':Heap) (c':Nat),(∀ b o',s.heap.get? b=some o'->h'.get? b=some o')->
  h'.get? s.heap.objs.size=some { cls:=.type "list", dict:=none,data:=.seq its.toArray c',slots:=#[] }->EP X pins σ Q (.ref s.heap.objs.size) { s with heap:=h' }:=λ its r' hz h' c' kp e=>
  ⟨.ref s.heap.objs.size,_,I.laid (t':=s.toks) kp (OB _) (show cz X.prog X.w _ h' _ (.lst ys) from ⟨hz,its,c',r',e⟩),rfl,q _ (I.hok.fresh (OB _))⟩
 rcases hq with hq | hq
 . obtain ⟨its,r',pl,hz⟩:=I.list hq;have hlen:=r'.length;obtain ⟨o,ho,hc,n,hd⟩:=pl.isList;exact call_list_seq p (.inl rfl) ho hc hd (λ h' c' kp e=>fin its r' hz h' c' kp e) (by simp only [OQ] <;> omega)
 . obtain ⟨its,r',pl,hz⟩:=I.tuple hq;have hlen:=r'.length;obtain ⟨o,ho,hc,n,hd⟩:=pl;exact call_list_seq p (.inr rfl) ho hc hd (λ h' c' kp e=>fin its r' hz h' c' kp e) (by simp only [OQ] <;> omega)
noncomputable def LJ (K:Frag) (T:String) (x:V) (H:Hp):Prop:=match x with
 | .str _=>T = "str"
 | .int _=>T = "int"
 | .ref p=>(T = "list" /\ ∃ xs,eC K H p xs)∨(T = "tuple" /\ ∃ o,K.lookup p=some o/\o.cls=.type "tuple" /\ o.dict=none)∨
  (T = "dict" /\ ((∃ kvs,H p=some (.dK kvs))∨∃ kvs,H p=some (.dT kvs)))∨(T = "set" /\ ∃ S n,H p=some (.set S n))
 | _=>False
theorem z5 {pins:List (Addr×Obj)} {σ:St} {H:Hp} {s:Shared} {T:String} {x:V} {v:Value} (I:aJ X pins σ H s) (r:bq x v) (ty:LJ X.K T x H):
 s.TypeIs v T/\∀ a,v=.ref a->∃ ob,s.heap.get? a=some ob/\ob.dict=none:=by
 cases x with
 | str z=>
  obtain ⟨t,rfl⟩:=r;cases (show T = "str" from ty);exact ⟨typeIs_str s z t,λ _ e=>nomatch e⟩
 | int i=>
  obtain ⟨t,rfl⟩:=r;cases (show T = "int" from ty);exact ⟨typeIs_int s i t,λ _ e=>nomatch e⟩
 | ref p=>
  cases r;rcases ty with ⟨rfl,xs,hq⟩ | ⟨rfl,o,hk,hc,hd⟩ | ⟨rfl,hk⟩ | ⟨rfl,S,n,hk⟩
  . obtain ⟨its,_,pl,_⟩:=I.list hq;refine ⟨pl.isList.typeIs,λ a e=>?_⟩;cases e;obtain ⟨o,n,e,c,hd,_⟩:=pl;exact ⟨o,e,hd⟩
  . refine ⟨⟨o,I.kIn p o hk,hc⟩,λ a e=>?_⟩;cases e;exact ⟨o,I.kIn _ o hk,hd⟩
  . have z:∃ o,s.heap.get? p=some o/\o.ExactDict:=by
     rcases hk with ⟨kvs,hk⟩ | ⟨kvs,hk⟩
     . obtain ⟨_,_,_,_,o,_,_,e,ex,_⟩:=I.hok p _ hk;exact ⟨o,e,ex⟩
     . obtain ⟨_,_,_,_,o,_,_,e,ex,_⟩:=I.hok p _ hk;exact ⟨o,e,ex⟩
    obtain ⟨o,e,ex⟩:=z;refine ⟨⟨o,e,ex.1⟩,λ a e2=>?_⟩;cases e2;exact ⟨o,e,ex.2.1⟩
  . obtain ⟨o,_,_,_,e,ex,_⟩:=I.hok p _ hk;refine ⟨⟨o,e,ex.1⟩,λ a e2=>?_⟩;cases e2;exact ⟨o,e,ex.2.1⟩
 | _=>exact False.elim ty
noncomputable def Bk (K:Frag) (T:String) (r:V->List V->Hp->VK->Prop) (to:TE):TE:=λ σ H Q=>to σ H λ x H1=>LJ K T x H1/\r x [] H1 Q
noncomputable def Hl (K:Frag) (T:String) (r:V->List V->Hp->VK->Prop) (to:TE) (t:TA):TE:=λ σ H Q=>to σ H λ x H1=>LJ K T x H1/\t σ H1 λ xs H2=>r x xs H2 Q
variable {o e:Expr} {es:List Expr} {to:TE} {t:TA} {name:Str} {apos cpos:Pos} {T id:String} {r:V->List V->Hp->VK->Prop}
theorem FZ (pa:PlainAttrs T) (slot:Slot T name id) (hty:typeOf (.builtin id)=pure (.type "method_descriptor")) (hm:Ix X id r) (ho:PE X o to)
 (hbase:attributeBase o name X.env (eval o X.env)=eval o X.env:=by rfl) (hline:(apos.endLine==cpos.line)=true:=by rfl):PE X (.Call (.Attribute o name apos) [] [] cpos) (Bk X.K T r to):=by
 intro pins s σ H Q I h;refine wpAny_Call_method0_late hbase hline (bY (ho pins s σ H _ I h) λ v s1 hq0=>?_);obtain ⟨x,H1,I1,r1,ty,q1⟩:=hq0;obtain ⟨h1,h2⟩:=z5 I1 r1 ty;exact ⟨T,id,pa,slot,hty,h1,h2,Qh rfl (PySem.evalArgs_none (hm pins s1 σ H1 x [] v [] Q I1 r1 .nil q1))⟩
theorem IR (pa:PlainAttrs T) (slot:Slot T name id) (hty:typeOf (.builtin id)=pure (.type "method_descriptor")) (hm:Ix X id r) (ho:PE X o to) (ha:PA X (e::es) t)
 (hbase:attributeBase o name X.env (eval o X.env)=eval o X.env:=by rfl)
 (hfew:((backTo cpos (starEach (e::es) X.env)).all (λ x=>!x.1)&&(backToKw cpos (keywordEach [] X.env)).all (λ x=>x.1.isSome)
  && decide ((e::es).length+([]:List Keyword).length+(if ([]:List Keyword).isEmpty then 0 else 1)<30))=true:=by rfl)
 (hline:(apos.endLine==cpos.line)=true:=by rfl) (hs:starEach (e::es) X.env=(false,eval e X.env)::starEach es X.env:=by rfl) (hplain:(backTo cpos (starEach es X.env)).any (·.1)=false:=by rfl):
 PE X (.Call (.Attribute o name apos) (e::es) [] cpos) (Hl X.K T r to t):=by
 intro pins s σ H Q I h;refine wpAny_Call_method_late hbase hfew hline rfl (bY (ho pins s σ H _ I h) λ v s1 hq0=>?_);obtain ⟨x,H1,I1,r1,ty,q1⟩:=hq0;obtain ⟨h1,h2⟩:=z5 I1 r1 ty;refine ⟨T,id,pa,slot,hty,h1,h2,?_⟩;have hA:=ha cpos pins s1 σ H1 _ I1 q1;rw [hs] at hA ⊢;refine Qh (by show (false||(backTo cpos (starEach es X.env)).any (·.1))=false;rw [hplain] <;> rfl) (Qq ?_);exact bY hA λ us s2 hy0=>by obtain ⟨vs,H2,I2,r2,q2⟩:=hy0;exact hm pins s2 σ H2 x vs v us Q I2 r1 r2 q2
end
end L2
namespace L2
open PySem PySem.Spec PyProof.Rows
open PySem.W (Frag)
noncomputable def MX (X:Cx) (id:String) (r:V->List V->Hp->VK->Prop):Prop:=
 ∀ (pins:List (Addr×Obj)) (s:Shared) (σ:St) (H:Hp) (x:V) (xs:List V) (v:Value) (us:List Value) (Q:VK),aJ X pins σ H s->bq x v->bi xs us->r x xs H Q->
  wpAny (model X.prog X.w) X.A (call (.builtin id) (v::us)) (EP X pins σ Q) X.xe s
theorem bi.one {x:V} {us:List Value} (h:bi [x] us):∃ u,us=[u]/\bq x u:=by
 cases h with
 | cons r t=>cases t;exact ⟨_,rfl,r⟩
theorem bi.zero:∀ {us:List Value},bi [] us->us=[]
 | _,.nil=>rfl
theorem bi.dropLast {xs:List V} {us:List Value} (h:bi xs us):bi xs.dropLast us.dropLast:=by
 induction h with
 | nil=>exact .nil
 | cons r t ih=>
  cases t with
  | nil=>exact .nil
  | cons q t'=>exact .cons r ih
theorem uN {α:Type} (l:List α):l.eraseIdx (l.length-1)=l.dropLast:=by
 induction l with
 | nil=>rfl
 | cons a r ih=>
  cases r with
  | nil=>rfl
  | cons b r=>
   have e:(a::b::r).length-1=((b::r).length-1)+1:=by
    have h1:(a::b::r).length=r.length+2:=rfl;have h2:(b::r).length=r.length+1:=rfl;omega
   rw [e,List.eraseIdx_cons_succ,ih];all_goals rfl
section
variable {X:Cx} {pins:List (Addr×Obj)} {σ:St} {H:Hp} {s:Shared} {l b:Addr} {xs ys zs:List V}
theorem aJ.lset {its its':List Value} {n:Nat} {f:Array Value->Array Value} {t':Nat} (I:aJ X pins σ H s) (hH:H l=some (.lst xs))
 (e:s.heap.get? l=some { cls:=.type "list", data:=.seq its.toArray n }) (hf:f its.toArray=its'.toArray) (hv:bi ys its') (hz:ys.length<=sizeLine):
 aJ X pins σ (cE H l (.lst ys)) { s with heap:=s.heap.update l (Obj.mapSeq f),toks:=t' }:=by
 have q:=PySem.IsL.update e f;rw [hf] at q;refine I.write (x:=l) (e:=l) (by rw [hH];exact trivial) (.inl rfl) (λ b' u hb hu=>(Heap.get?_update_other s.heap (Obj.mapSeq f) (Qu hb)).trans hu) ⟨_,q⟩ ?_;exact ⟨hz,its',_,hv,q⟩
theorem aJ.lnew {its:List Value} {t':Nat} (I:aJ X pins σ H s) (hv:bi ys its) (hz:ys.length<=sizeLine):
 aJ X pins σ (cE H s.heap.objs.size (.lst ys)) { s with heap:=s.heap.push { cls:=.type "list", data:=.seq its.toArray },toks:=t' }:=
 I.laid (λ _ _ q=>OM _ q) (OB _) ⟨hz,its,0,hv,Pf _ rfl⟩
theorem aJ.fresh (I:aJ X pins σ H s):H s.heap.objs.size=none:=I.hok.fresh (OB _)
theorem aJ.lstM (I:aJ X pins σ H s) (hH:H l=some (.lst xs)):xs.length<=sizeLine/\∃ (its:List Value) (n:Nat),bi xs its/\xs.length=its.length/\s.heap.get? l=some { cls:=.type "list", data:=.seq its.toArray n }:=by
 obtain ⟨z,its,n,r,e⟩:=I.hok l _ hH;exact ⟨z,its,n,r,r.length,e⟩
end
section
variable {X:Cx}
noncomputable def nX:V->List V->Hp->VK->Prop:=λ x vs H Q=>∃ l xs y,x=.ref l/\vs=[y]/\H l=some (.lst xs)/\xs.length<sizeLine/\Q .non (cE H l (.lst (xs++[y])))
theorem wX:MX X "list.append" nX:=by
 intro pins s σ H x vs v us Q I rx rv h;obtain ⟨l,xs,y,rfl,rfl,hH,hz,q⟩:=h;cases rx;obtain ⟨u,rfl,ru⟩:=rv.one;obtain ⟨z,its,n,r,hl,e⟩:=I.lstM hH;refine call_meets F.slot_list_append ⟨_,e,rfl⟩ F.entry_list_append (F.args_list_append_2 _ _) (PySem.list_append l its.toArray n u (by rw [OQ];omega)) ⟨e,?_⟩;refine ⟨.non,_,I.lset (its':=its++[u]) hH e (by simp) (r.append (.cons ru .nil)) ?_,rfl,q⟩;rw [PH,List.length_singleton];omega
noncomputable def Fl:V->List V->Hp->VK->Prop:=λ x vs H Q=>∃ l xs y,x=.ref l/\vs=[]/\H l=some (.lst xs)/\xs[xs.length-1]?=some y/\Q y (cE H l (.lst xs.dropLast))
theorem Ft:MX X "list.pop" Fl:=by
 intro pins s σ H x vs v us Q I rx rv h;obtain ⟨l,xs,y,rfl,rfl,hH,hy,q⟩:=h;cases rx;have hus:=rv.zero;subst hus;obtain ⟨z,its,n,r,hl,e⟩:=I.lstM hH;obtain ⟨u,hu,ru⟩:=r.get hy;have hy':its.toArray[its.toArray.size-1]?=some u:=by
  show its.toArray[its.length-1]?=some u;rw [<-Array.getElem?_toList,<-hl];exact hu
 refine call_meets F.slot_list_pop ⟨_,e,rfl⟩ F.entry_list_pop (F.args_list_pop_1 _) (MeetsSeq.list_pop_last l its.toArray n u hy' (by rw [OQ];omega)) ⟨e,?_⟩;refine ⟨y,_,I.lset (its':=its.dropLast) hH e ?_ r.dropLast ?_,ru,q⟩
 . show its.toArray.eraseIdxIfInBounds (its.toArray.size-1)=its.dropLast.toArray;rw [OQ,List.eraseIdxIfInBounds_toArray,uN]
 . rw [List.length_dropLast];omega
end
section
variable {prog:Program} {w:World} {A:Around} {E:Value->Shared->Prop} {s:Shared}
end
section
variable {X:Cx}
end
end L2
namespace Att
open PySem PySem.W PySem.Calls PyProof.Rows
theorem nO {P:Params} {h:Heap}:∀ (ns:List Int) (vs:List Value),WellAll P h vs (ns.map WData.int)->IntsAre vs ns:=by
 intro ns;induction ns with
 | nil=>
  intro vs w;rw [List.map_nil] at w;cases w;exact .nil
 | cons n ns ih=>
  intro vs w;rw [List.map_cons] at w;cases w with
  | cons a b=>
   cases a;exact .cons _ _ (ih _ b)
theorem xG {l:OpenLaw} {n:Nat} (hn:l.most=some n) {P:Params} {h:Heap} {args:List WData} {vals:List Value}
 (hpre:l.row.toRowW.claim.pre args=true) (hwl:WellAll P h vals args):
 ∃ a vs ns,vals=[Value.ref a]/\args=[WData.list (ns.map WData.int)]/\h.get? a=some { cls:=.type "list", data:=.seq vs.toArray }/\IntsAre vs ns/\ns.length<=n:=by
 have hsh:WShape.hasAll [] args [.list .int]=true:=(pre_splitW hpre).1;have hc:l.pre.holds [] { args:=args }=true:=(pre_splitW hpre).2;obtain ⟨d,r,rfl,h1,h2⟩:=hasAllW_cons hsh;obtain rfl:=hasAllW_nil h2;obtain ⟨xs,rfl,h3⟩:=hasW_list h1;obtain ⟨ns,rfl⟩:=items_int h3;have hlen:ns.length<=n:=by
  unfold OpenLaw.pre at hc;have h4:(WTm.not (.lt (.lit (.int (n:Int))) (.len (.arg 0)))).holds [] { args:=[.list (ns.map .int)] }=true:=by
   have h4:=(holds_andW hc).1;rw [hn] at h4;exact h4
  have h5:=condW_of h4 (w_not (w_lt w_lit (w_len_list (w_arg rfl))));rw [List.length_map] at h5;refine Nat.le_of_not_lt λ q=>?_;have q':(n:Int)<((ns.length:Nat):Int):=by omega
  first
   | (rw [decide_eq_true q'] at h5;exact absurd h5 (by decide))
   | (simp at h5;omega)
 cases hwl with
 | cons w1 w2=>
  cases w2;cases w1 with
  | list ho hall=>exact ⟨_,_,ns,rfl,rfl,ho,nO ns _ hall,hlen⟩
theorem xJ (l:OpenLaw) (args:List WData):l.row.toRowW.claim.post args (.bool true) args=true:=
 postW_of (r:=l.row.toRowW) (X:=(true==true))
  (show WShape.has [] (.bool true) .bool=true by first | rfl | decide | simp [WShape.has,WShape.arms,WShape.armsAll])
  (show (WTm.eq .res (.lit (.bool true))).value [] { args:=args,res:=some (.bool true),after:=args }=some (.bool (true==true)) from w_eq_bool (w_res rfl) w_lit) rfl
theorem attach_call {l:OpenLaw} {n:Nat} {q:Program} {loose:List Str} {XP:(Str->Option Value)->Heap->Prop} {YP:World->Heap->Prop} {d:DefRec}
 (hn:l.most=some n) (hdf:d.params.defaults=[])
 (call:∀ (w:World) (s₀ s₁:Shared) (mg mb:Str->Option Value) (fa:Addr) (o:Obj) (pm cd doc:Value) (a:Addr) (vs:List Value) (ns:List Int),
  Ground q loose [] XP w s₀ mg mb s₁.heap->YP w s₁.heap->
  s₁.heap.get? fa=some o->o.data=.func (docDef d.name d.params d.body d.scope pm cd doc)->s₁.heap.CodeRec cd d.name->mg d.name=some (.ref fa)->
  s₁.heap.get? a=some { cls:=.type "list", data:=.seq vs.toArray }->IntsAre vs ns->ns.length<=n->s₁.gens = #[]->
  codeAny (model l.prog w) callerA (.call (.ref fa) ⟨[.ref a],[]⟩) (λ r s'=>r=.ok (.ret (.bool true))/\OldK s₁.heap s'.heap/\s'.os=s₁.os/\AllBare s'.gens) s₁):
 WalkO q loose XP YP l.row.toRowW d [] (λ f vs=>PySem.call f vs):=by
 intro w s₀ s₁ mg mb G Y fa o pm cd doc dV kV ho hd hcd hD hmg hg args vals as hpre hlay hrd hwl hlo;obtain rfl:dV=.none:=Dflts.none hD hdf;obtain rfl:kV=.none:=Dflts.noKw hD;obtain ⟨a,vs,ns,rfl,rfl,hobj,hints,hlen⟩:=xG hn hpre hwl;refine enter_call (codeAny_mono (call w s₀ s₁ mg mb fa o pm cd doc a vs ns G Y ho (fd_plain hd) hcd hmg hobj hints hlen hg) λ r s' hq=>?_);obtain ⟨rfl,h2,h3,h4⟩:=hq;exact ⟨.inl ⟨.bool true,.bool true,[],rfl,λ _=>rfl,.bool true,xJ l _,λ _=>⟨List.Pairwise.nil,λ _ hm=>(nomatch hm)⟩⟩,h2,h3,h4⟩
section
variable {prog:Program} {w:World} {A:Around} {E:Value->Shared->Prop} {s:Shared} {K:Frag}
end
end Att
namespace L2
open PySem PySem.Spec PyProof.Rows
open PySem.W (Frag)
theorem xa {vs:List Value} {ns:List Int} (h:IntsAre vs ns):bi (ns.map V.int) vs:=by
 induction h with
 | nil=>exact .nil
 | cons n t _ ih=>exact .cons ⟨t,rfl⟩ ih
noncomputable def E6 (H:Hp):Prop:=∀ b,H b=none∨∃ o xs,H b=some (.frz o (.lst xs))
theorem Aq {P:Program} {w:World} {K:Frag} {mg mb:Str->Option Value} {CX:sV} {k:Nat} {fa a:Addr} {fd:FuncData} {x:Str} {sp:Sp} {s₁:Shared} {vs:List Value} {ns:List Int}
 (KX:K.In s₁.heap) (hns:s₁.heap.Ns mainGlobals mg) (hb:s₁.heap.Ns builtinsNs mb) (hbb:∀ x:Str,x ≠ "__name__" -> mb x=bootBuiltins x) (hlim:s₁.heap.NoLimit) (hg:s₁.gens = #[])
 (ha:s₁.heap.get? a=some { cls:=.type "list", data:=.seq vs.toArray }) (hi:IntsAre vs ns) (hl:ns.length<=sizeLine) (hr:cu k callerA)
 (F:∀ base:Heap,K.In base->base.Ns mainGlobals mg->fH P w K mg base CX k fa fd [x] sp) (hbind:∀ (s:Shared) (u:Value),BindsTo s fd ⟨[u],[]⟩ [(x,u)])
 (hsp:∀ H:Hp,E6 H->eC K H a (ns.map V.int)->sp [.ref a] H (λ v _=>v=.bl true) λ _ _ _=>False)
 (hCX:∀ H e s',CX [] H s₁ (λ _ _ _=>False) e s'->False):
 codeAny (model P w) callerA (.call (.ref fa) ⟨[.ref a],[]⟩) (λ r s'=>r=.ok (.ret (.bool true))/\OldK s₁.heap s'.heap/\s'.os=s₁.os/\AllBare s'.gens) s₁:=by
 have rv:=xa hi;have lenV:=hi.length;have core:∀ H:Hp,E6 H->eC K H a (ns.map V.int)->iY P w H s₁.heap->(∀ b,H b≠none->b=a)->(H a≠none->K.lookup a=none)->
  codeAny (model P w) callerA (.call (.ref fa) ⟨[.ref a],[]⟩) (λ r s'=>r=.ok (.ret (.bool true))/\OldK s₁.heap s'.heap/\s'.os=s₁.os/\AllBare s'.gens) s₁:=by
  intro H hO hS hok hA hK;have base_of:∀ {b:Addr} {o:Obj},s₁.heap.get? b=some o->H b=none->(sN s₁.heap H).get? b=some o:=λ e n=>zh e n;have noA:∀ {b:Addr} {o:Obj} {es:Array DictEntry} {ep:Nat},s₁.heap.get? b=some o->o.data=.dict es ep->H b=none:=λ {b o es ep} e d=>by
   cases q:H b with
   | none=>rfl
   | some u=>
    have e':b=a:=hA b (by rw [q];simp);subst e';rw [ha] at e;cases e;have d':Data.seq vs.toArray _=Data.dict es ep:=d;cases d'
  have nsK:∀ {b:Addr} {m:Str->Option Value},s₁.heap.Ns b m->(sN s₁.heap H).Ns b m:=λ {b m} hy0=>by obtain ⟨o,es,ep,e,d,r⟩:=hy0;exact ⟨o,es,ep,base_of e (noA e d),d,r⟩
  have hKb:K.In (sN s₁.heap H):=λ b o e=>base_of (KX b o e) (by
   cases q:H b with
   | none=>rfl
   | some u=>
    have e':b=a:=hA b (by rw [q];simp);subst e';rw [hK (by rw [q];simp)] at e;cases e)
  have hM:Mod K mg (sN s₁.heap H):=⟨hKb,nsK hns,⟨mb,nsK hb,hbb⟩,by obtain ⟨mc,h1,h2⟩:=hlim;exact ⟨mc,nsK h1,h2⟩⟩
  have e0:t9 P w K mg (sN s₁.heap H) callerA [] s₁ H:=⟨rfl,hM,λ b o e=>BI e,Nat.le_of_eq (wN _ _),trivial,λ b hb=>absurd (show b∈([]:List Addr) from hb) (by simp),hok,.of_eq hg⟩
  refine QJ ((F _ hKb (nsK hns)).run callerA [] s₁ H ⟨[.ref a],[]⟩ [.ref a] [.ref a] _ _ hr e0 (hbind s₁ (.ref a)) (.cons rfl .nil) (hsp H hO hS)) λ r s' h=>?_;cases r with
  | error e=>exact (hCX H e s' h).elim
  | ok fl=>
   cases fl with
   | next=>exact False.elim h
   | brk=>exact False.elim h
   | cont=>exact False.elim h
   | ret u=>
    obtain ⟨v,H',os,bare,un,hok',r',q⟩:=h;have q':v=.bl true:=q;subst q';obtain rfl:u=Value.bool true:=r';refine ⟨rfl,OldK.of_keep λ b o e=>?_,os,bare⟩;cases q:H b with
    | none=>exact un.keep b o e q (by intro z;exact absurd (show b∈([]:List Addr) from z) (by simp)) (by simp)
    | some u=>
     rcases hO b with z | ⟨ob,xs,z⟩
     . rw [q] at z;cases z
     . have z2:=un.frzs b ob _ z;obtain ⟨e1,_⟩:=hok b _ z;obtain ⟨e2,_⟩:=hok' b _ z2;rw [e] at e1;cases e1;exact e2
 cases hk:K.lookup a with
 | some o=>
  have e:=KX a o hk;rw [ha] at e;cases e;refine core (λ _=>none) (λ _=>.inl rfl) (.inr ⟨_,vs.toArray,_,hk,rfl,rfl,rfl,by rw [OQ,lenV];exact hl,by simpa using rv⟩) (λ b u z=>by have z':(none:Option HO)=some u:=z;cases z') (λ b z=>absurd rfl z) λ z=>absurd rfl z
 | none=>
  refine core (λ b=>if b=a then some (.frz { cls:=.type "list", data:=.seq vs.toArray } (.lst (ns.map V.int))) else none) (λ b=>?_) (.inl (.inr ⟨{ cls:=.type "list", data:=.seq vs.toArray },OG rfl⟩)) (λ b u z=>?_) (λ b z=>?_) λ _=>hk
  . by_cases hb:b=a
    . exact .inr ⟨_,_,OG hb⟩
    . exact .inl (OT hb)
  . by_cases hb:b=a
    . have z':=(OG hb).symm.trans z;cases z';subst hb;exact ⟨ha,by rw [OH];exact hl,vs,_,rv,ha⟩
    . have z':=(OT hb).symm.trans z;cases z'
  . by_cases hb:b=a
    . exact hb
    . exact absurd (OT hb) z
end L2
namespace L2
open PySem PySem.Spec PyProof.Rows
open PySem.W (Frag)
theorem walk_of {l:PySem.W.OpenLaw} {n k:Nat} {q:Program} {loose:List Str} {XP:(Str->Option Value)->Heap->Prop} {YP:World->Heap->Prop} {d:DefRec} {K:Params->Frag} {CX:World->sV} {sp:World->Sp} {x:Str}
 (hn:l.most=some n) (hn2:n<=sizeLine) (hdf:d.params.defaults=[]) (hr:cu k callerA)
 (hY:∀ (w:World) (h:Heap),YP w h->(K w.params).In h)
 (F:∀ (w:World) (mg:Str->Option Value) (fa:Addr) (h:Heap),(K w.params).In h->h.Ns mainGlobals mg->mg d.name=some (.ref fa)->
  ∃ fd:FuncData,(∀ (s:Shared) (u:Value),BindsTo s fd ⟨[u],[]⟩ [(x,u)])/\
   ∀ base:Heap,(K w.params).In base->base.Ns mainGlobals mg->fH l.prog w (K w.params) mg base (CX w) k fa fd [x] (sp w))
 (hsp:∀ (w:World) (H:Hp) (a:Addr) (ns:List Int),ns.length<=n->E6 H->eC (K w.params) H a (ns.map V.int)->sp w [.ref a] H (λ v _=>v=.bl true) λ _ _ _=>False)
 (hCX:∀ (w:World) (H:Hp) (s:Shared) (e:Value) (s':Shared),CX w [] H s (λ _ _ _=>False) e s'->False):
 PySem.W.WalkO q loose XP YP l.row.toRowW d [] (λ f vs=>PySem.call f vs):=by
 refine Att.attach_call hn hdf λ w s₀ s₁ mg mb fa o pm cd doc a vs ns G Y ho hd hcd hmg hobj hints hlen hg=>?_;have KX:=hY w _ Y;obtain ⟨fd,hb,hF⟩:=F w mg fa _ KX G.T.g hmg;exact Aq KX G.T.g G.T.b G.T.builtins G.T.nolimit hg hobj hints (OY hlen hn2) hr hF hb (λ H hO hS=>hsp w H a ns hlen hO hS) λ H e s'=>hCX w H s₁ e s'
end L2
namespace L2
open PySem PySem.Spec PyProof.Rows
open PySem.W (Frag)
noncomputable def bA (s:Stmt) (j:Nat):Stmt:=match s with
 | .ClassDef _ _ _ body _ _ _ _ _ _ _=>body.getD j (.Pass ⟨0,0,0,0⟩)
 | _=>.Pass ⟨0,0,0,0⟩
noncomputable def aU (s:Stmt):Arguments:=match s with
 | .FunctionDef _ a _ _ _ _ _ _ _ _=>a
 | _=>{ posonlyargs:=[],args:=[],vararg:=none,kwonlyargs:=[],kw_defaults:=[],kwarg:=none,defaults:=[] }
noncomputable def aO (s:Stmt):List Stmt:=match s with
 | .FunctionDef _ _ b _ _ _ _ _ _ _=>b
 | _=>[]
noncomputable def ax (s:Stmt):Scope:=match s with
 | .FunctionDef _ _ _ _ _ _ sc _ _ _=>sc
 | _=>{ kind:=.function,names:=[],isGenerator:=false,isCoroutine:=false }
noncomputable abbrev vk:sV:=λ _ _ _ _ _ _=>False
noncomputable abbrev E0:XK:=λ _ _ _=>False
theorem IC {X:Cx}:ij vk X E0:=λ _ _ _ _ _ _ _ h=>h.elim
structure Lj (K:Frag) (x qual:Str) (st:Stmt) (f:Addr) (fd:FuncData):Prop where
 ex:∃ (oc:Value) (od:Option Addr) (kV doc pm:Value) (an:Option Addr) (cdv ct:Value) (osl:Array (Option Value)),
  fd=PySem.W.fnOf x qual (aU st) (aO st) (ax st) .none kV doc pm an cdv ct/\K.lookup f=some ⟨oc,od,.func fd,osl⟩/\PySem.W.codeIn K cdv qual=true
 kp:PySem.W.keepIn K (.ref f)=true
section
variable {P:Program} {w:World} {K:Frag} {mg:Str->Option Value} {base:Heap}
theorem Lj.binds {x qual:Str} {st:Stmt} {f:Addr} {fd:FuncData} {ps:List Str} (F:Lj K x qual st f fd)
 (h:∀ (kV doc pm:Value) (an:Option Addr) (cdv ct:Value) (us:List Value),us.length=ps.length->bindArgs (PySem.W.fnOf x qual (aU st) (aO st) (ax st) .none kV doc pm an cdv ct) ⟨us,[]⟩=pure (ps.zip us)):aP K fd ps []:=by
 obtain ⟨oc,od,kV,doc,pm,an,cdv,ct,osl,rfl,lk,hcd⟩:=F.ex;exact .all (h kV doc pm an cdv ct)
theorem bN {x qual:Str} {st:Stmt} {f:Addr} {oc:Value} {od an:Option Addr} {osl:Array (Option Value)} {kV doc pm cdv ct:Value} (l:K.lookup f=some ⟨oc,od,.func (PySem.W.fnOf x qual (aU st) (aO st) (ax st) .none kV doc pm an cdv ct),osl⟩)
 (c:PySem.W.codeIn K cdv qual=true) (k:PySem.W.keepIn K (.ref f)=true):Lj K x qual st f (PySem.W.fnOf x qual (aU st) (aO st) (ax st) .none kV doc pm an cdv ct):=⟨⟨oc,od,kV,doc,pm,an,cdv,ct,osl,rfl,l,c⟩,k⟩
end
theorem wS {n:Nat} (h:n<=1000):n<sizeLine:=Nat.lt_of_le_of_lt h (by decide)
section
variable {X:Cx}
end
noncomputable def bB (H H':Hp):Prop:=∀ b o,H b=some o->H' b=some o
theorem bB.refl (H:Hp):bB H H:=λ _ _ h=>h
theorem bB.trans {H H1 H2:Hp} (a:bB H H1) (b:bB H1 H2):bB H H2:=λ c o h=>b c o (a c o h)
theorem bB.seq {K:Frag} {H H':Hp} {a:Addr} {xs:List V} (e:bB H H') (h:eC K H a xs):eC K H' a xs:=by
 rcases h with (h | ⟨o,h⟩) | h
 . exact .inl (.inl (e _ _ h))
 . exact .inl (.inr ⟨o,e _ _ h⟩)
 . exact .inr h
noncomputable def pD (cells:List (Str×Addr)):List (Str×NameKind)->List (Str×Addr)->List (Str×Addr)
 | [],cs=>cs
 | (n,k)::r,cs=>pD cells r (if k==.free then (n,(cells.lookup n).getD 0)::cs else cs)
noncomputable def xL (scope:Scope) (env:Env):List (Str×Addr):=pD env.cells scope.names []
theorem wn {env:Env}:∀ (names:List (Str×NameKind)) (cs:List (Str×Addr)),(∀ y∈names,y.2=.free->∃ c,env.cells.lookup y.1=some c)->
 (forIn names cs λ (x:Str×NameKind) (r:List (Str×Addr))=>(match x with
  | (name,kind)=>if (kind==NameKind.free)=true then do let a <-cellOf env name;pure (ForInStep.yield ((name,a)::r)) else pure (ForInStep.yield r):Sem (ForInStep (List (Str×Addr)))))=(pure (pD env.cells names cs):Sem _)
 | [],cs,_=>rfl
 | (n,k)::r,cs,h=>by
  have hr:=λ cs'=>wn (env:=env) r cs' λ y hy=>h y (Pd _ hy);rw [List.forIn_cons];by_cases hk:(k==NameKind.free)=true
  . obtain ⟨c,hc⟩:=h (n,k) Pc (by simpa using hk);have e1:cellOf env n=pure c:=by unfold cellOf;rw [hc]
    simp only [hk,Pj,e1,pure_bind];rw [hr];unfold pD;rw [OG hk,hc]
    conv=>rhs;unfold pD
    rfl
  . simp only [hk,Qp,pure_bind,Pw];rw [hr]
    conv=>rhs;unfold pD
    rw [OT hk]
theorem oH {scope:Scope} {env:Env} (h:∀ y∈scope.names,y.2=.free->∃ c,env.cells.lookup y.1=some c):closureFor scope env=pure (xL scope env):=by
 unfold closureFor xL;rw [<-wn scope.names [] h];simp
theorem mX {cells:List (Str×Addr)} {x:Str} {c:Addr}:∀ (names:List (Str×NameKind)) (cs:List (Str×Addr)),(∀ y∈names,y.2=.free->∃ d,cells.lookup y.1=some d)->(∀ d,cs.lookup x=some d->cells.lookup x=some d)->
 (pD cells names cs).lookup x=some c->cells.lookup x=some c
 | [],cs,_,hc,h=>hc c h
 | (n,k)::r,cs,hn,hc,h=>by
  unfold pD at h;refine mX r _ (λ y hy=>hn y (Pd _ hy)) ?_ h;intro d hd;by_cases hk:(k==NameKind.free)=true
  . rw [OG hk] at hd;obtain ⟨e,he⟩:=hn (n,k) Pc (by simpa using hk);simp only at he;rw [List.lookup_cons] at hd;cases hx:x==n with
    | true=>
     have:x=n:=by simpa using hx
     subst this;rw [hx] at hd;simp only [Option.some.injEq] at hd;rw [he] at hd ⊢;simp at hd;rw [hd]
    | false=>
     rw [hx] at hd;exact hc d hd
  . rw [OT hk] at hd;exact hc d hd
theorem oE {cells:List (Str×Addr)} {x:Str}:∀ (names:List (Str×NameKind)) (cs:List (Str×Addr)),((x,NameKind.free)∈names∨∃ d,cs.lookup x=some d)->∃ d,(pD cells names cs).lookup x=some d
 | [],cs,h=>by
  rcases h with h | h
  . cases h
  . exact h
 | (n,k)::r,cs,h=>by
  unfold pD;refine oE r _ ?_;rcases h with h | ⟨d,h⟩
  . rcases OO.mp h with e | h
    . cases e;exact .inr ⟨_,by rw [OG (by rfl),List.lookup_cons,beq_self_eq_true]⟩
    . exact .inl h
  . refine .inr ?_;split
    . rw [List.lookup_cons];cases hx:x==n with
      | true=>exact ⟨_,rfl⟩
      | false=>exact ⟨d,h⟩
    . exact ⟨d,h⟩
theorem hX {scope:Scope} {env:Env} {x:Str} {k:NameKind} (h:(relabel scope env).names.lookup x=some k) (hk:k=.cell∨k=.free) (hc:∀ y∈scope.names,y.2≠.cell):(x,NameKind.free)∈scope.names:=by
 have hm:=PR h;unfold relabel at hm;obtain ⟨⟨n,k'⟩,hy,e⟩:=Pp.mp hm;by_cases q:(k'==NameKind.free&&env.scope.kind==.function&&env.kindOf n==some .cell)=true
 . simp only [q,Pj] at e;cases e;have:k'=.free:=by
    simp only [OL,Qz] at q;exact q.1.1
   subst this;exact hy
 . simp only [q,Qp,Pw] at e;cases e;rcases hk with rfl | rfl
   . exact absurd rfl (hc _ hy)
   . exact hy
noncomputable def lift (ix:List (Option Nat)) (σ:St):St:=ix.map λ o=>match o with
 | none=>none
 | some i=>match σ[i]? with
  | some v=>v
  | none=>none
structure bS (X:Cx) (scope:Scope) (N:List Str) (ix:List (Option Nat)):Prop where
 kind:scope.kind=.function
 nocell:∀ y∈scope.names,y.2≠.cell
 locs:∀ y∈scope.names,y.2=.local->scope.names.lookup y.1=some .local
 free:∀ y∈scope.names,y.2=.free->X.env.kindOf y.1=some .cell∨X.env.kindOf y.1=some .free
 len:ix.length=N.length
 nd:N.Nodup
 from':∀ j i:Nat,ix[j]?=some (some i)->∃ x,N[j]?=some x/\X.N[i]?=some x/\(X.env.kindOf x=some .cell∨X.env.kindOf x=some .free)/\((relabel scope X.env).names.lookup x=some .cell∨(relabel scope X.env).names.lookup x=some .free)
noncomputable def bT (X:Cx) (scope:Scope) (N:List Str) (s₀:Shared) (H₀:Hp) (C:Addr) (ex:List Addr):Cx where
 prog:=X.prog
 w:=X.w
 K:=X.K
 mg:=X.mg
 base:=X.base
 A:=X.A
 N:=N
 s₀:=s₀
 H₀:=H₀
 env:=compEnvC scope (xL scope X.env) C X.env
 outer:=X.stack
 stack:=X.stack
 ex:=ex
 fn:=λ _=>false
 calm:=X.calm
 pn:=[]
 xe:=λ _ _=>False
section
variable {X:Cx} {pins:List (Addr×Obj)} {σ:St} {H:Hp} {s:Shared} {scope:Scope} {N:List Str} {ix:List (Option Nat)}
theorem bS.cells (S:bS X scope N ix) (I:aJ X pins σ H s):∀ y∈scope.names,y.2=.free->∃ c,X.env.cells.lookup y.1=some c:=λ y hy hk=>I.ok.has y.1 (S.free y hy hk)
theorem bS.sub (S:bS X scope N ix) (I:aJ X pins σ H s) {x:Str} {c:Addr} (h:(xL scope X.env).lookup x=some c):X.env.cells.lookup x=some c:=
 mX scope.names [] (S.cells I) (λ d h=>by simp at h) h
theorem bS.start (S:bS X scope N ix) (I:aJ X pins σ H s) {fp:List Addr} {C D:Addr} {h':Heap} {tk:Nat} (hf:∀ b∈fp,nG X pins H b) (hfo:∀ b∈fp,∃ o,s.heap.get? b=some o) (hD:D=s.heap.objs.size) (hC:s.heap.objs.size<C)
 (k:∀ b o,s.heap.get? b=some o->h'.get? b=some o) (hn:h'.Ns C λ _=>none):aJ (bT X scope N s H C (D::fp)) [] (lift ix σ) H { s with heap:=h',toks:=tk }:=by
 have ltC:∀ x c,X.env.cells.lookup x=some c->c<s.heap.objs.size:=λ x c e=>let ⟨v,q⟩:=I.cell x c e;q.lt;refine ⟨⟨I.ok.mod,S.kind,I.ok.glob,I.ok.blt,PX hC,λ x y c h1 h2=>I.ok.inj x y c (S.sub I h1) (S.sub I h2),λ x hx=>?_,λ x c z=>?_,I.ok.hd,I.ok.frames,.inl rfl,λ b hb=>?_,I.bs,OY I.ok.bsz I.sz,λ b o e hb=>?_,λ b hb hb'=>?_,I.stack,I.stkFree⟩,
  rfl,I.bare,Un.kept k,⟨_,hn,λ j x v e1 e2 e3=>?_⟩,λ x c e=>?_,I.hok.fresh (PX hC),λ x c e=>I.freeC x c (S.sub I e),λ p hp=>absurd (show p∈([]:List (Addr×Obj)) from hp) (by simp),I.hok.kept k,?_⟩
 . have hx:(relabel scope X.env).names.lookup x=some .cell∨(relabel scope X.env).names.lookup x=some .free:=hx;have hm:(x,NameKind.free)∈scope.names:=by
    rcases hx with h | h
    . exact hX h (.inl rfl) S.nocell
    . exact hX h (.inr rfl) S.nocell
   exact oE _ _ (.inl hm)
 . cases z
 . rcases OO.mp hb with e | hb
   . subst e;subst hD;exact ⟨Ph hC,λ x c e z=>absurd (ltC x c (S.sub I e)) (by rw [z];exact Ps _)⟩
   . obtain ⟨o,e⟩:=hfo b hb;exact ⟨Ph (Qi (OS e) hC),λ x c e=>(hf b hb).2.2.2.2.1 x c (S.sub I e)⟩
 . have lb:=ON (OS e) I.ok.bsz;rcases OO.mp hb with z | hb
   . subst z;subst hD;exact absurd (ON lb I.sz) (Ps _)
   . rcases (hf b hb).2.2.2.1 with z | z
     . exact I.ok.noex b o e z
     . exact absurd (ON lb z) (Ps _)
 . have hs:=I.stkSub b hb';rcases OO.mp hb with z | hb
   . subst z;subst hD;rcases OO.mp hs with z | z
     . exact absurd I.lt (by rw [<-z];exact Ps _)
     . exact I.nofs (OB _) z
   . rcases OO.mp hs with z | z
     . exact (hf b hb).2.1 z
     . exact (hf b hb).2.2.1 z
 . unfold lift at e2;rw [Pq] at e2;cases q:ix[j]? with
   | none=>rw [q] at e2;cases e2
   | some o=>
    rw [q] at e2;cases o with
    | none=>cases e2
    | some i=>
     obtain ⟨y,f1,f2,f3,f4⟩:=S.from' j i q;have e1':N[j]?=some x:=e1;rw [f1] at e1';cases e1';simp only [OC,Option.some.injEq] at e2;cases q2:σ[i]? with
     | none=>rw [q2] at e2;cases e2
     | some w=>
      rw [q2] at e2;simp only at e2;subst e2;obtain ⟨m,hm,hl⟩:=I.loc;have vis:Kz X.env.scope x:=by
       rcases f3 with z | z
       . exact .inr (.inl z)
       . exact .inr (.inr z)
      obtain ⟨u,r,l⟩:=hl i x v f2 q2 vis;refine ⟨u,r,.inr ⟨f4,?_⟩⟩;rcases l with ⟨l1,_⟩ | ⟨_,c,hc,hcell⟩
      . rw [l1] at f3;rcases f3 with z | z <;> cases z
      . have hmf:(x,NameKind.free)∈scope.names:=by
         rcases f4 with h | h
         . exact hX h (.inl rfl) S.nocell
         . exact hX h (.inr rfl) S.nocell
        obtain ⟨d,hd⟩:=oE (cells:=X.env.cells) scope.names [] (.inl hmf);have hd':=S.sub I hd;rw [hc] at hd';cases hd';refine ⟨c,hd,?_⟩;obtain ⟨o,ho,hod⟩:=hcell;exact ⟨o,k _ _ ho,hod⟩
 . obtain ⟨v,o,ho,hod⟩:=I.cell x c (S.sub I e);exact ⟨v,o,k _ _ ho,hod⟩
 . show (lift ix σ).length=N.length;unfold lift;rw [OH,S.len]
end
theorem jB {prog:Program} {w:World} {A:Around} {R:Result->Shared->Prop} {s:Shared} {elt target iter:Expr} {ifs:List Expr} {scope:Scope} {pos:Pos} {it acc:Value} {env:Env} (I:Nat->Shared->Prop)
 (turn:∀ n s,I n s->wpAny (model prog w) A (pyNext it) (λ r s₁=>match r with
  | none=>R (.ok .next) s₁
  | some v=>wpAny (model prog w) A (letOwnedTupleGo target it v) (λ _ s₁'=>wpAny (model prog w) A (assign target env v) (λ _ s₂=>
   wpAny (model prog w) A (forIn ifs true λ c r=>if r=true then do let ok <-isTrue c env (eval c env);pure (ForInStep.yield ok) else pure (ForInStep.yield r)) (λ ok s₃=>
    if ok=true then wpAny (model prog w) A (eval elt env) (λ x s₄=>
     wpAny (model prog w) A (call (.builtin "list.append") [acc,x]) (λ _ s₅=>∃ m,m<n/\I m s₅) (λ _ _=>False) s₄) (λ _ _=>False) s₃
    else ∃ m,m<n/\I m s₃) (λ _ _=>False) s₂) (λ _ _=>False) s₁') (λ _ _=>False) s₁) (λ _ _=>False) s)
 (n:Nat) (h:I n s):
 codeAny (model prog w) A (.compLoop (.ListComp elt [⟨target,iter,ifs,0⟩] scope pos) 0 it acc env) R s:=by
 refine codeAny_loop rfl I (λ n s hI=>?_) n h;show wpAny _ A ((compTurn (.ListComp elt [⟨target,iter,ifs,0⟩] scope pos) 0 it acc env).onRaise (λ x=>do noteFrame x env;theTreesLotGoes x)) _ _ s;refine wpAny_noted ?_;rw [compTurn_list];refine OD (wpAny_standAt (OD (Pn (turn n s hI) (λ r s₁ h₁=>?_) λ _ _ h'=>h'.elim)));cases r with
 | none=>exact OZ h₁
 | some v=>
  refine OD (Pn h₁ (λ _ s₁' h₁'=>?_) λ _ _ h'=>h'.elim);refine OD (Pn h₁' (λ _ s₂ h₂=>OD (Pn h₂ (λ ok s₃ h₃=>?_) λ _ _ h'=>h'.elim)) λ _ _ h'=>h'.elim);cases ok with
  | false=>exact OZ ⟨rfl,h₃⟩
  | true=>
   exact OD (OD (Pn h₃ (λ x s₄ h₄=>OD (Pn h₄ (λ _ s₅ h₅=>OZ (OZ ⟨rfl,h₅⟩)) λ _ _ h'=>h'.elim)) λ _ _ h'=>h'.elim))
noncomputable def uZ (X:Cx) (ifs:List Expr) (t:TT):Prop:=
 ∀ (pins:List (Addr×Obj)) (s:Shared) (σ:St) (H:Hp) (Q:Bool->Hp->Prop),aJ X pins σ H s->t σ H Q->
  wpAny (model X.prog X.w) X.A (forIn ifs true λ c r=>if r=true then do let ok <-isTrue c X.env (eval c X.env);pure (ForInStep.yield ok) else pure (ForInStep.yield r)) (TP X pins σ Q) X.xe s
noncomputable def JP:TT:=λ _ H Q=>Q true H
theorem JK {X:Cx}:uZ X [] JP:=λ _ _ _ H _ I h=>wpAny_tests_nil ⟨H,I,h⟩
theorem Hs {X:Cx} {c:Expr} {t:TT} (h:PT X c t):uZ X [c] t:=λ pins s σ H Q I q=>wpAny_tests_one (h pins s σ H Q I q)
noncomputable def CW (σ σ':St):Prop:=σ.length=σ'.length/\∀ (i:Nat) (v:V),σ[i]?=some (some v)->σ'[i]?=some (some v)
theorem CW.refl (σ:St):CW σ σ:=⟨rfl,λ _ _ h=>h⟩
theorem CW.set {σ σ':St} {j:Nat} {v:V} (e:CW σ σ') (h:σ[j]?=some none):CW σ (σ'.set j (some v)):=by
 refine ⟨by rw [Pu];exact e.1,λ i u q=>?_⟩;have hne:j≠i:=λ z=>by subst z;rw [h] at q;cases q
 rw [OU hne];exact e.2 i u q
theorem wZ {ix:List (Option Nat)} {σ:St} {j:Nat} (h:ix[j]?=some none):(lift ix σ)[j]?=some none:=by
 unfold lift;rw [Pq,h];rfl
noncomputable def pA (ix:List (Option Nat)) (g:TG):Prop:=∀ (v:V) (σ:St) (H:Hp) (Q:St->Hp->Prop),g v (lift ix σ) H Q->g v (lift ix σ) H λ σ2 H2=>Q σ2 H2/\CW (lift ix σ) σ2
theorem Ez {ix:List (Option Nat)} {j:Nat} (h:ix[j]?=some none):pA ix (mQ j):=λ v σ H Q q=>⟨q,(CW.refl _).set (wZ h)⟩
noncomputable def oU (ix:List (Option Nat)) (wi:TI) (g:TG) (tc:TT) (te:TE):TE:=λ σ H Q=>wi σ H λ J H1=>∃ W:Nat->Nat->List V->Hp->Prop,(∃ m,W 0 m [] H1)/\∀ i m ys H,W i m ys H->
 (J.stop i H/\ys.length<=sizeLine/\∀ p,H p=none->Q (.ref p) (cE H p (.lst ys)))∨
 (J.go i H/\ys.length<sizeLine/\∃ N:List V->Hp->Prop,(∀ ys' H',N ys' H'->∃ m',m'<m/\W (i+1) m' ys' H')/\∀ x H',J.yld i H x H'->g x (lift ix σ) H' λ σ2 H2=>tc σ2 H2 λ b H3=>if b=true then te σ2 H3 λ v H4=>N (ys++[v]) H4 else N ys H3)
theorem xQ {X:Cx} {pins pins':List (Addr×Obj)} {σ σ':St} {H2 H':Hp} {s2 s4:Shared} {scope:Scope} {N:List Str} {C D:Addr} {fp:List Addr} {h':Heap} {ys:List V} {its:List Value} {n:Nat}
 (I2:aJ X pins σ H2 s2) (I':aJ (bT X scope N s2 H2 C (D::fp)) pins' σ' H' s4) (f2:∀ b∈fp,nG X pins H2 b) (hD:D=s2.heap.objs.size) (hC:s2.heap.objs.size<C) (hDC:D≠C)
 (hs:Heap.SameBut C s4.heap h') (eD:s4.heap.get? D=some { cls:=.type "list", data:=.seq its.toArray n }) (fD:H' D=none) (rv:bi ys its) (hz:ys.length<=sizeLine):
 aJ X pins σ (cE H' D (.lst ys)) { s4 with heap:=h' }:=by
 have lt:∀ b o,s2.heap.get? b=some o->b≠D/\b≠C:=λ b o e=>
  ⟨by rw [hD];exact Ph (OS e),Ph (Qi (OS e) hC)⟩
 have nex:∀ b o,s2.heap.get? b=some o->b∉fp->b∉D::fp:=λ b o e hb z=>by
  rcases OO.mp z with z | z
  . exact (lt b o e).1 z
  . exact hb z
 have nD:∀ b u,H' b=some u->b≠D:=λ b u e=>dQ e fD;have nC:∀ b u,H' b=some u->b≠C:=λ b u e=>dQ e I'.free;have u:=I'.base;refine I2.call' (ch:=fp) (show s4.os=s2.os from I'.os) ⟨λ b o e n hb hx=>?_,λ b o e n hb hx=>?_,λ b o e n hx=>?_,λ b o e hx=>?_,λ b xs e=>?_,λ b o xs e=>?_,λ b ps e=>?_⟩ (λ b o e=>?_) I'.bare λ b hb=>⟨(f2 b hb).2.2.2.1,(f2 b hb).2.1,(f2 b hb).2.2.2.2.1,(f2 b hb).2.2.2.2.2⟩
 . exact (hs.2 b (lt b o e).2).trans (u.keep b o e n hb (nex b o e hx))
 . obtain ⟨sl,q⟩:=u.slot b o e n hb (nex b o e hx);exact ⟨sl,(hs.2 b (lt b o e).2).trans q⟩
 . rw [aM (lt b o e).1];exact u.free b o e n (nex b o e hx)
 . obtain ⟨o',q⟩:=u.there b o e (nex b o e hx);exact ⟨o',(hs.2 b (lt b o e).2).trans q⟩
 . have q:=u.tups b xs e;rw [aM (nD b _ q)];exact q
 . have q:=u.frzs b o xs e;rw [aM (nD b _ q)];exact q
 . obtain ⟨m,q⟩:=u.tbls b ps e;exact ⟨m,by rw [aM (nD b _ q)];exact q⟩
 . by_cases hb:b=D
   . subst hb;rw [aG] at e;cases e;exact ⟨hz,its,n,rv,(hs.2 b hDC).trans eD⟩
   . rw [aM hb] at e;refine (I'.hok b o e).stay (λ c v hc q=>(hs.2 c ?_).trans q) (λ c q=>by rw [aM (nD c _ q)];exact q) λ c xs q=>by rw [aM (nD c _ q)];exact q
     rcases hc with z | z
     . rw [z];exact nC b o e
     . exact nC c _ z
section
variable {X:Cx} {elt tg iter:Expr} {ifs:List Expr} {scope:Scope} {pos:Pos} {wi:TI} {g:TG} {tc:TT} {te:TE} {N:List Str} {ix:List (Option Nat)}
theorem qw {pins:List (Addr×Obj)} {σ:St} {Q:VK} {s2:Shared} {itv:Value} {Rr:Value->Addr->Result->Shared->Prop} (S:bS X scope N ix) (hc:X.calm=true) (hG:pA ix g)
 (hb:∀ (s₀:Shared) (H₀:Hp) (C:Addr) (ex:List Addr),PG (bT X scope N s₀ H₀ C ex) tg g/\uZ (bT X scope N s₀ H₀ C ex) ifs tc/\PE (bT X scope N s₀ H₀ C ex) elt te)
 (h2:M6 X pins σ tg (λ J H1=>∃ W:Nat->Nat->List V->Hp->Prop,(∃ m,W 0 m [] H1)/\∀ i m ys H,W i m ys H->
  (J.stop i H/\ys.length<=sizeLine/\∀ p,H p=none->Q (.ref p) (cE H p (.lst ys)))∨
  (J.go i H/\ys.length<sizeLine/\∃ N:List V->Hp->Prop,(∀ ys' H',N ys' H'->∃ m',m'<m/\W (i+1) m' ys' H')/\∀ x H',J.yld i H x H'->g x (lift ix σ) H' λ σ2 H2=>tc σ2 H2 λ b H3=>if b=true then te σ2 H3 λ v H4=>N (ys++[v]) H4 else N ys H3)) itv s2)
 (hR:∀ (s4:Shared) (H':Hp) (D C:Addr) (m:Str->Option Value) (ys:List V),s4.heap.Ns C m->nG X pins H' C->(∀ h',Heap.SameBut C s4.heap h'->aJ X pins σ (cE H' D (.lst ys)) { s4 with heap:=h' })->aJ X pins σ (cE H' D (.lst ys)) s4->D≠C->Q (.ref D) (cE H' D (.lst ys))->Rr (.ref D) C (.ok .next) s4):
 wpAny (model X.prog X.w) X.A (newList []) (λ acc s₃=>wpAny (model X.prog X.w) X.A (newFunctionEnv scope X.env.globals (xL scope X.env) [] X.env.qual none .none (some X.env)) (λ cenv s₄=>
  codeAny (model X.prog X.w) X.A (.compStart (.ListComp elt [⟨tg,iter,ifs,0⟩] scope pos) 0 itv acc { cenv with scope:=relabel scope X.env }) (Rr acc cenv.locals) s₄) X.xe s₃) X.xe s2:=by
 obtain ⟨it,fp,tn,J,H2,e,I2,T,st2,f2,W,⟨m0,w0⟩,turn⟩:=h2;subst e;have fo:∀ b∈fp,∃ o,s2.heap.get? b=some o:=λ b hb=>let ⟨o,e,_⟩:=T.obj _ _ st2 b hb;⟨o,e⟩;refine wpAny_newObj_type (wpAny_newFunctionEnv S.nocell (by intro y hy;simp at hy) (λ h₁ hns₁ hsb₁=>?_) S.kind);dsimp only at hns₁ hsb₁ ⊢;generalize hH2:s2.heap.push { cls:=.type "list", dict:=none,data:=.seq ([]:List Value).toArray }=HH at hns₁ hsb₁ ⊢;have hC:HH.objs.size=s2.heap.objs.size+1:=by rw [<-hH2,Heap.size_push]
 generalize hCC:HH.objs.size=C at hns₁ hsb₁ hC ⊢;generalize hDD:s2.heap.objs.size=D at hC ⊢;have hlt:s2.heap.objs.size<C:=by rw [hDD,hC];exact PY _
 have hDC:D≠C:=by rw [hC];exact Ph (PY _)
 have old:∀ b o,s2.heap.get? b=some o->h₁.get? b=some o:=λ b o e=>
  hsb₁.extBut b o (Ph (Qi (OS e) hlt)) (OM _ (hH2▸OM _ e))
 have hacc:h₁.PlainList D #[]:=⟨_,hsb₁.extBut _ _ hDC (OM _ (hH2▸hDD▸Pf _ rfl))⟩
 have hns₂:h₁.Ns C λ _=>none:=hns₁;have I4:=S.start (tk:=s2.toks+([]:List (Str×Value)).length) I2 f2 fo hDD.symm hlt old hns₂;obtain ⟨hg,hif,hel⟩:=hb s2 H2 C (D::fp);have stat:∀ {H':Hp},(∀ b∈D::fp,H' b=none)->∀ b∈D::fp,nG (bT X scope N s2 H2 C (D::fp)) [] H' b:=λ hn b hb=>
  ⟨hn b hb,(I4.ok.exf b hb).1,I4.ok.exfs b hb,.inl hb,(I4.ok.exf b hb).2,λ p hp=>absurd (show p∈([]:List (Addr×Obj)) from hp) (by simp)⟩
 have sub:∀ b∈fp,b∈D::fp:=λ b hb=>Pd _ hb;have nDf:∀ b∈fp,b≠D:=λ b hb z=>by
  obtain ⟨o,e⟩:=fo b hb;exact absurd (OS e) (by rw [z,hDD];exact Ps _)
 have free0:∀ b∈D::fp,H2 b=none:=λ b hb=>by
  rcases OO.mp hb with z | hb
  . rw [z];exact I2.hok.fresh (Nat.le_of_eq hDD)
  . exact (f2 b hb).1
 have loop:∀ s₃:Shared,s₃={ s2 with heap:=h₁,toks:=s2.toks+([]:List (Str×Value)).length }->
  codeAny (model X.prog X.w) X.A (.compLoop (.ListComp elt [⟨tg,iter,ifs,0⟩] scope pos) 0 (.ref it) (.ref D) (compEnvC scope (xL scope X.env) C X.env))
   (Rr (.ref D) C) s₃:=by
  rintro s₃ rfl;refine jB (λ n s'=>∃ i H' ys its,aJ (bT X scope N s2 H2 C (D::fp)) [] (lift ix σ) H' s'/\tn i s'.heap/\(∀ b∈D::fp,H' b=none)/\s'.heap.PlainList D (List.toArray its)/\bi ys its/\W i n ys H') ?_ m0
   ⟨0,H2,[],[],I4,T.keep _ _ _ st2 λ b _ o e=>old b o e,free0,hacc,.nil,w0⟩
  rintro n s3 ⟨i,H3,ys,its,I3,DX,fr3,pl3,rv3,w3⟩;obtain ⟨kk,plE⟩:=pl3;have pinD:∀ {pp:List (Addr×Obj)} {σ':St} {H':Hp} {s':Shared},aJ (bT X scope N s2 H2 C (D::fp)) pp σ' H' s'->H' D=none->s'.heap.get? D=some { cls:=.type "list", data:=.seq its.toArray kk }->
   aJ (bT X scope N s2 H2 C (D::fp)) [(D,{ cls:=.type "list", data:=.seq its.toArray kk })] σ' H' s':=λ {pp σ' H' s'} J f e=>J.pins_of λ p hp=>by
   have z:p=(D,{ cls:=.type "list", data:=.seq its.toArray kk }):=by simpa using hp
   subst z;exact ⟨e,f,(J.ok.exf D Pc).1,J.ok.exfs D Pc,λ v z=>by cases z⟩
  have fpD:∀ {H':Hp},(∀ b∈D::fp,H' b=none)->∀ b∈fp,nG (bT X scope N s2 H2 C (D::fp)) [(D,{ cls:=.type "list", data:=.seq its.toArray kk })] H' b:=λ hn b hb=>by
   obtain ⟨a1,a2,a3,a4,a5,a6⟩:=stat hn b (sub b hb);refine ⟨a1,a2,a3,a4,a5,λ p hp=>?_⟩;have z:p=(D,{ cls:=.type "list", data:=.seq its.toArray kk }):=by simpa [bT] using hp
   subst z;exact (nDf b hb).symm
  have frD:H3 D=none:=fr3 D Pc;rcases turn i n ys H3 w3 with ⟨stop,hz,qn⟩ | ⟨go,hz,NN,hN,step⟩
  . refine bY (T.done (bT X scope N s2 H2 C (D::fp)) rfl rfl rfl hc i _ s3 _ H3 (λ _ _=>False) (pinD I3 frD plE) (fpD fr3) DX stop) λ r s4 ⟨hr,I4'⟩=>?_;subst hr;obtain ⟨m,hm,_⟩:=I4'.loc;have eD:=(I4'.pin (D,_) (O7 _ Pc)).1;have fin:∀ h',Heap.SameBut C s4.heap h'->aJ X pins σ (cE H3 D (.lst ys)) { s4 with heap:=h' }:=λ h' hs'=>xQ I2 I4' f2 hDD.symm hlt hDC hs' eD frD rv3 hz;have hC0:s2.heap.objs.size<=C:=PX hlt;have fC:nG X pins H3 C:=by
     have q:=I2.fpOk (H':=H3) hC0 I4'.free;exact q
    exact hR s4 H3 D C m ys hm fC fin (by simpa using fin s4.heap (Heap.SameBut.refl ..)) hDC (qn D frD)
  . refine bY (T.item (bT X scope N s2 H2 C (D::fp)) rfl rfl rfl hc i _ s3 _ H3 (λ _ _=>False) (pinD I3 frD plE) (fpD fr3) DX go) λ r s4 ⟨u,hr,h4⟩=>?_;subst hr;refine bY h4 λ _ s5 hq0=>?_;obtain ⟨x,H5,I5,r5,y5,CD,fr5⟩:=hq0;have eD5:=(I5.pin (D,_) (O7 _ Pc))
    have fr5':∀ b∈D::fp,H5 b=none:=λ b hb=>by
     rcases OO.mp hb with z | hb
     . rw [z];exact eD5.2.1
     . exact fr5 b hb
    have I5':aJ (bT X scope N s2 H2 C (D::fp)) ([]++mK (D::fp) s5.heap) (lift ix σ) H5 s5:=(I5.unpinned (pins:=[]) (pl:=[_])).pinned (stat fr5') λ b hb=>by
     rcases OO.mp hb with z | hb
     . rw [z];exact ⟨_,eD5.1,λ v z=>by cases z⟩
     . exact T.obj _ _ CD b hb
    have back:∀ {σ7:St} {H7:Hp} {s7:Shared},aJ (bT X scope N s2 H2 C (D::fp)) ([]++mK (D::fp) s5.heap) σ7 H7 s7->CW (lift ix σ) σ7->
     aJ (bT X scope N s2 H2 C (D::fp)) [] (lift ix σ) H7 s7/\tn (i+1) s7.heap/\(∀ b∈D::fp,H7 b=none)/\s7.heap.get? D=some { cls:=.type "list", data:=.seq its.toArray kk }:=λ {σ7 H7 s7} I7 ex=>by
     have keepAt:∀ b∈D::fp,∀ o,s5.heap.get? b=some o->s7.heap.get? b=some o/\H7 b=none:=λ b hb o e=>
      ⟨(I7.pin (b,o) (O7 _ (O7 _ (jd hb e)))).1,(I7.pin (b,o) (O7 _ (O7 _ (jd hb e)))).2.1⟩
     refine ⟨I7.unpinned.weak ex.1 ex.2,T.keep _ _ _ CD λ b hb o e=>(keepAt b (sub b hb) o e).1,λ b hb=>?_,(keepAt D Pc _ eD5.1).1⟩;rcases OO.mp hb with z | hb'
     . rw [z];exact (keepAt D Pc _ eD5.1).2
     . obtain ⟨o,e,_⟩:=T.obj _ _ CD b hb';exact (keepAt b hb o e).2
    refine bY (hg _ s5 _ H5 x u _ I5' r5 (hG _ _ _ _ (step x H5 y5))) λ _ s6 hq0=>?_;obtain ⟨σ6,H6,I6,q6,ex6⟩:=hq0;refine bY (hif _ s6 σ6 H6 _ I6 q6) λ ok s7 hq0=>?_;obtain ⟨H7,I7,q7⟩:=hq0;cases ok with
    | false=>
     rw [OT OP] at q7 ⊢;obtain ⟨m',hm,w7⟩:=hN _ _ q7;obtain ⟨J1,J2,J3,J4⟩:=back I7 ex6;exact ⟨m',hm,i+1,H7,ys,its,J1,J2,J3,⟨_,J4⟩,rv3,w7⟩
    | true=>
     rw [OG rfl] at q7 ⊢;refine bY (hel _ s7 σ6 H7 _ I7 q7) λ uv s8 hq0=>?_;obtain ⟨y,H8,I8,r8,q8⟩:=hq0;obtain ⟨m',hm,w8⟩:=hN _ _ q8;obtain ⟨J1,J2,J3,J4⟩:=back I8 ex6;refine wpAny_list_append_plain (hsz:=by rw [OQ,<-rv3.length];exact PX hz) ⟨_,J4⟩ λ h₉ hl₉ hs₉=>?_;obtain ⟨a1,a2,a3,a4,a5,a6⟩:=stat J3 D Pc;refine ⟨m',hm,i+1,H8,ys++[y],its++[uv],J1.turned (t':=s8.toks) (λ b o hb e=>hs₉.extBut b o hb e) a1 a2 a4 a5 a6,T.keep _ _ _ J2 λ b hb o e=>hs₉.extBut b o (nDf b hb) e,J3,by simpa using hl₉,rv3.append (.cons r8 .nil),w8⟩
 exact codeAny_compStart_list (loop _ rfl) (T.self _ 0 _ _ _ (T.keep _ _ _ st2 λ b _ o e=>old b o e) (loop _ rfl))
theorem CB (S:bS X scope N ix) (hc:X.calm=true) (hi:PI X tg iter wi) (hG:pA ix g)
 (hb:∀ (s₀:Shared) (H₀:Hp) (C:Addr) (ex:List Addr),PG (bT X scope N s₀ H₀ C ex) tg g/\uZ (bT X scope N s₀ H₀ C ex) ifs tc/\PE (bT X scope N s₀ H₀ C ex) elt te)
 (hs:∀ x,foldedSetIterable iter X.env x=pure x:=by intro _;rfl):PE X (.ListComp elt [⟨tg,iter,ifs,0⟩] scope pos) (oU ix wi g tc te):=by
 intro pins s σ H Q I h;rw [eval_ListComp];refine wpAny_comprehension_free (use:=none) rfl hs (oH (S.cells I)) S.kind S.locs ?_;refine bY (hi pins s σ H _ I h) λ v s1 h1=>bY h1 λ itv s2 h2=>?_;refine qw (Rr:=λ acc C=>compPost (model X.prog X.w) X.A X.xe none (EP X pins σ Q) acc C) S hc hG hb h2 ?_;intro s4 H' D C m ys hm _ fin _ _ q;exact ⟨m,hm,λ h' hs'=>⟨.ref D,_,fin h' hs',rfl,q⟩⟩
theorem BO {y:Str} {py spos:Pos} {i:Nat} (hN:X.N.Nodup) (hi:X.N[i]?=some y) (hy:Eg X.env.scope y) (S:bS X scope N ix) (hc:X.calm=true) (hit:PI X tg iter wi) (hG:pA ix g)
 (hb:∀ (s₀:Shared) (H₀:Hp) (C:Addr) (ex:List Addr),PG (bT X scope N s₀ H₀ C ex) tg g/\uZ (bT X scope N s₀ H₀ C ex) ifs tc/\PE (bT X scope N s₀ H₀ C ex) elt te)
 (hsw:swapsWith (.ListComp elt [⟨tg,iter,ifs,0⟩] scope pos) (some (.Name y py)) spos.line X.env=pure true:=by rfl) (hs:∀ x,foldedSetIterable iter X.env x=pure x:=by intro _;rfl)
 (hf:X.fn y=true∨X.env.scope.names.lookup y=some .local:=by first | exact .inl rfl | exact .inr rfl | assumption):
 PS X (.Assign [.Name y py] (.ListComp elt [⟨tg,iter,ifs,0⟩] scope pos) spos) (sM (oU ix wi g tc te) (mQ i)):=by
 intro pins s σ H D0 I h;rw [exec_Assign_Name_used _ _ _ _ hsw];refine OD (wpAny_standAt (OD ?_));show wpAny _ X.A (do let _ <-comprehension (.ListComp elt [⟨tg,iter,ifs,0⟩] scope pos) scope X.env _ (newList []) false (eval iter X.env) (some (assign (.Name y py) X.env))) _ _ s;refine OD (Pn (wpAny_comprehension_free (use:=some (assign (.Name y py) X.env)) (Q:=λ _ s'=>SP X pins D0 .next s') rfl hs (oH (S.cells I)) S.kind S.locs ?_) (λ _ s' hq=>OZ (OZ hq)) λ _ _ e=>e);refine bY (hit pins s σ H _ I h) λ v s1 h1=>bY h1 λ itv s2 h2=>?_;refine qw (Q:=λ x H1=>mQ i x σ H1 D0.nx) (Rr:=λ acc C=>compPost (model X.prog X.w) X.A X.xe (some (assign (.Name y py) X.env)) (λ _ s'=>SP X pins D0 .next s') acc C) S hc hG hb h2 ?_;intro s4 H' D C m ys hm fC _ I4 hDC q;show wpAny _ X.A (assign (.Name y py) X.env (.ref D)) _ _ _;obtain ⟨c0,c1,c2,c3,c4,c5⟩:=fC;refine wpAny_assign_Name (qQ (v:=.ref D) I4 hN hi hy rfl (λ s5 I5 hsb=>?_) hf);obtain ⟨a,hsa,ha⟩:=hsb;have haC:C≠a:=by
  rcases ha with z | z
  . rw [z];exact c1
  . exact λ e=>c4 y a z e.symm
 refine ⟨m,hm.sameBut hsa haC,λ h' hs'=>?_⟩;have hCn:(cE H' D (.lst ys)) C=none:=by rw [aM hDC.symm];exact c0
 exact ⟨_,_,I5.turned (t':=s5.toks) (λ b o hb e=>hs'.extBut b o hb e) hCn c1 c3 c4 c5,q⟩
end
noncomputable def EY (T:String):Option Bool:=if T = "int" then some true else if T = "bool" then some false else if T = "str" then some false else if T = "list" then some false else if T = "tuple" then some false else if T = "dict" then some false else none
noncomputable def ES (T:String):Option Bool:=if T = "int" then some true else if T = "bool" then some true else if T = "str" then some false else if T = "list" then some false else if T = "tuple" then some false else if T = "dict" then some false else none
noncomputable def EH (T:String):Option Bool:=if T = "int" then some false else if T = "bool" then some false else if T = "str" then some true else if T = "list" then some false else if T = "tuple" then some false else if T = "dict" then some false else none
noncomputable def yc (v:V) (T:String):Option Bool:=match v with
 | .int _=>EY T
 | .bl _=>ES T
 | .str _=>EH T
 | _=>none
theorem zH {X:Cx}:cU X (.builtin "isinstance") (λ xs H Q=>∃ v T k,xs=[v,.ty T]/\yc v T=some k/\Q (.bl k) H):=by
 intro pins s σ H xs us Q I r h;obtain ⟨v,T,k,rfl,hk,q⟩:=h;cases r with
 | cons r rr=>
  cases rr with
  | cons r' rr=>
   cases rr;cases r';have fin:∀ {n:Option Bool} {T':String} {b:Bool},(if T=T' then some b else n)=some k->(T=T'/\b=k)∨n=some k:=λ {n T' b} h=>by
    by_cases e:T=T'
    . rw [OG e] at h;cases h;exact .inl ⟨e,rfl⟩
    . rw [OT e] at h;exact .inr h
   cases v with
   | int i=>
    obtain ⟨t,rfl⟩:=r;replace hk:EY T=some k:=hk;unfold EY at hk;rcases fin hk with ⟨rfl,rfl⟩ | hk
    . exact IsiPair.int_int ⟨.bl _,H,I,rfl,q⟩
    rcases fin hk with ⟨rfl,rfl⟩ | hk
    . exact IsiPair.int_bool ⟨.bl _,H,I.tok _,rfl,q⟩
    rcases fin hk with ⟨rfl,rfl⟩ | hk
    . exact IsiPair.int_str ⟨.bl _,H,I.tok _,rfl,q⟩
    rcases fin hk with ⟨rfl,rfl⟩ | hk
    . exact IsiPair.int_list ⟨.bl _,H,I.tok _,rfl,q⟩
    rcases fin hk with ⟨rfl,rfl⟩ | hk
    . exact IsiPair.int_tuple ⟨.bl _,H,I.tok _,rfl,q⟩
    rcases fin hk with ⟨rfl,rfl⟩ | hk
    . exact IsiPair.int_dict ⟨.bl _,H,I.tok _,rfl,q⟩
    cases hk
   | bl i=>
    cases r;replace hk:ES T=some k:=hk;unfold ES at hk;rcases fin hk with ⟨rfl,rfl⟩ | hk
    . first | exact IsiPair.bool_int ⟨.bl _,H,I,rfl,q⟩ | exact IsiPair.bool_int ⟨.bl _,H,I.tok _,rfl,q⟩
    rcases fin hk with ⟨rfl,rfl⟩ | hk
    . first | exact IsiPair.bool_bool ⟨.bl _,H,I,rfl,q⟩ | exact IsiPair.bool_bool ⟨.bl _,H,I.tok _,rfl,q⟩
    rcases fin hk with ⟨rfl,rfl⟩ | hk
    . first | exact IsiPair.bool_str ⟨.bl _,H,I,rfl,q⟩ | exact IsiPair.bool_str ⟨.bl _,H,I.tok _,rfl,q⟩
    rcases fin hk with ⟨rfl,rfl⟩ | hk
    . first | exact IsiPair.bool_list ⟨.bl _,H,I,rfl,q⟩ | exact IsiPair.bool_list ⟨.bl _,H,I.tok _,rfl,q⟩
    rcases fin hk with ⟨rfl,rfl⟩ | hk
    . first | exact IsiPair.bool_tuple ⟨.bl _,H,I,rfl,q⟩ | exact IsiPair.bool_tuple ⟨.bl _,H,I.tok _,rfl,q⟩
    rcases fin hk with ⟨rfl,rfl⟩ | hk
    . first | exact IsiPair.bool_dict ⟨.bl _,H,I,rfl,q⟩ | exact IsiPair.bool_dict ⟨.bl _,H,I.tok _,rfl,q⟩
    cases hk
   | str i=>
    obtain ⟨t,rfl⟩:=r;replace hk:EH T=some k:=hk;unfold EH at hk;rcases fin hk with ⟨rfl,rfl⟩ | hk
    . first | exact IsiPair.str_int ⟨.bl _,H,I,rfl,q⟩ | exact IsiPair.str_int ⟨.bl _,H,I.tok _,rfl,q⟩
    rcases fin hk with ⟨rfl,rfl⟩ | hk
    . first | exact IsiPair.str_bool ⟨.bl _,H,I,rfl,q⟩ | exact IsiPair.str_bool ⟨.bl _,H,I.tok _,rfl,q⟩
    rcases fin hk with ⟨rfl,rfl⟩ | hk
    . first | exact IsiPair.str_str ⟨.bl _,H,I,rfl,q⟩ | exact IsiPair.str_str ⟨.bl _,H,I.tok _,rfl,q⟩
    rcases fin hk with ⟨rfl,rfl⟩ | hk
    . first | exact IsiPair.str_list ⟨.bl _,H,I,rfl,q⟩ | exact IsiPair.str_list ⟨.bl _,H,I.tok _,rfl,q⟩
    rcases fin hk with ⟨rfl,rfl⟩ | hk
    . first | exact IsiPair.str_tuple ⟨.bl _,H,I,rfl,q⟩ | exact IsiPair.str_tuple ⟨.bl _,H,I.tok _,rfl,q⟩
    rcases fin hk with ⟨rfl,rfl⟩ | hk
    . first | exact IsiPair.str_dict ⟨.bl _,H,I,rfl,q⟩ | exact IsiPair.str_dict ⟨.bl _,H,I.tok _,rfl,q⟩
    cases hk
   | _=>cases hk
section
variable {X:Cx}
noncomputable def DC (i j:Int):Prop:=j≠0/\j.natAbs<2^512
theorem HR:ir X (binaryOp .FloorDiv) (rI DC λ i j=>.int (i.fdiv j)):=Hk λ i j _ _ _ _ _ hc q=>floordiv_int hc.1 q (.inl (PyProof.noPylong_of_log2 (by
 by_cases h0:j.natAbs=0
 . rw [h0];decide +kernel
 . have:=(Nat.log2_lt h0).mpr hc.2;omega)))
theorem Ki:ir X (binaryOp .Mod) (rI (λ _ j=>j≠0) λ i j=>.int (i.fmod j)):=C3
theorem boot_bool':bootBuiltins "bool" = some (.type "bool"):=by decide +kernel
theorem uO {scope:Scope} {N:List Str} {ix:List (Option Nat)} (kind:scope.kind=.function) (nocell:(scope.names.all λ y=>y.2 != .cell)=true) (locs:(scope.names.all λ y=>y.2 != .local||scope.names.lookup y.1==some .local)=true)
 (free:(scope.names.all λ y=>y.2 != .free||X.env.kindOf y.1==some .cell||X.env.kindOf y.1==some .free)=true) (len:ix.length=N.length) (nd:N.Nodup)
 (fr:((ix.zip N).all λ p=>match p.1 with
  | none=>true
  | some i=>X.N[i]?==some p.2&&(X.env.kindOf p.2==some .cell||X.env.kindOf p.2==some .free)&&((relabel scope X.env).names.lookup p.2==some .cell||(relabel scope X.env).names.lookup p.2==some .free))=true):bS X scope N ix:=by
 refine ⟨kind,λ y hy=>?_,λ y hy hl=>?_,λ y hy hf=>?_,len,nd,λ j i e=>?_⟩
 . have:=Qa.mp nocell y hy;simpa using this
 . have:=Qa.mp locs y hy;rw [hl] at this;simpa using this
 . have:=Qa.mp free y hy;rw [hf] at this;simpa using this
 . have hj:j<ix.length:=(oG e).1;have hj':j<N.length:=by omega
   have hm:(ix.zip N)[j]?=some (some i,N[j]):=by
    rw [List.getElem?_zip_eq_some];exact ⟨e,by simp [hj']⟩
   have:=Qa.mp fr _ (Pb hm);simp only [OL,QI,Qz] at this;exact ⟨N[j],by simp [hj'],this.1.1,this.1.2,this.2⟩
end
section
variable {K:Frag} {a b:Addr} {xs ys:List V} {wi:TI} {g:TG} {tb:TS} {D:jm} {σ:St} {H H1:Hp} {ix:List (Option Nat)} {tc:TT} {te:TE} {Q:VK}
end
mutual
inductive Dp (K:Frag) (H:Hp):V->PyData->Prop
 | non:Dp K H .non .none
 | bl (b:Bool):Dp K H (.bl b) (.bool b)
 | int (i:Int):Dp K H (.int i) (.int i)
 | str (x:Str):Dp K H (.str x) (.str x)
 | lst {a:Addr} {xs:List V} {ds:List PyData}:eC K H a xs->nA K H xs ds->Dp K H (.ref a) (.list ds)
 | tup {a:Addr} {xs:List V} {ds:List PyData}:gW K H a xs->nA K H xs ds->Dp K H (.ref a) (.tuple ds)
inductive nA (K:Frag) (H:Hp):List V->List PyData->Prop
 | nil:nA K H [] []
 | cons {v:V} {vs:List V} {d:PyData} {ds:List PyData}:Dp K H v d->nA K H vs ds->nA K H (v::vs) (d::ds)
end
theorem Dp.reads {X:Cx} {pins:List (Addr×Obj)} {σ:St} {H:Hp} {s:Shared} (I:aJ X pins σ H s) {v:V} {d:PyData} {u:Value} (h:Dp X.K H v d):bq v u->∃ as,Reads s.heap u d as:=
 Dp.rec (motive_1:=λ v d _=>∀ u,bq v u->∃ as,Reads s.heap u d as) (motive_2:=λ vs ds _=>∀ us,bi vs us->∃ as,ReadsAll s.heap us ds as)
  (λ u r=>by cases r;exact ⟨_,.none⟩) (λ b u r=>by cases r;exact ⟨_,.bool b⟩) (λ i u r=>by obtain ⟨t,rfl⟩:=r;exact ⟨_,.int i t⟩) (λ x u r=>by obtain ⟨t,rfl⟩:=r;exact ⟨_,.str x t⟩)
  (λ q _ ih u r=>by
   cases r;obtain ⟨its,rv,⟨o,n,e,c,_,d⟩,_⟩:=I.list q;obtain ⟨as,ra⟩:=ih _ rv;exact ⟨_,.list e c d (by simpa using ra)⟩)
  (λ q _ ih u r=>by
   cases r;obtain ⟨its,rv,⟨o,e,c,n,d⟩,_⟩:=I.tuple q;obtain ⟨as,ra⟩:=ih _ rv;exact ⟨_,.tuple e c d (by simpa using ra)⟩)
  (λ us r=>by cases r;exact ⟨_,.nil⟩)
  (λ _ _ ih1 ih2 us r=>by
   cases r with
   | cons r rr=>
    obtain ⟨as,ra⟩:=ih1 _ r;obtain ⟨bs,rb⟩:=ih2 _ rr;exact ⟨_,.cons ra rb⟩) h u
noncomputable def C5 (K:Frag) (neg:Bool):R2:=λ x y H Q=>∃ d e,Dp K H x d/\Dp K H y e/\d.canLay0=true/\e.canLay0=true/\d.depth<=64/\Q (.bl (if neg then !(PyData.eqv d e) else PyData.eqv d e)) H
theorem Fo {X:Cx} (hu:X.A.units+64<cLine):ir X (compareOp .Eq) (C5 X.K false):=by
 intro pins s σ H x y v u Q I rx ry h;obtain ⟨d,e,hx,hy,cd,ce,dd,q⟩:=h;obtain ⟨as,ra⟩:=hx.reads I rx;obtain ⟨bs,rb⟩:=hy.reads I ry;exact SeqAt.compareEq_reads ra rb cd ce (by omega) ⟨.bl _,H,I,rfl,by simpa using q⟩
theorem Fq {X:Cx} (hu:X.A.units+64<cLine):ir X (compareOp .NotEq) (C5 X.K true):=by
 intro pins s σ H x y v u Q I rx ry h;obtain ⟨d,e,hx,hy,cd,ce,dd,q⟩:=h;obtain ⟨as,ra⟩:=hx.reads I rx;obtain ⟨bs,rb⟩:=hy.reads I ry;exact SeqAt.compareNe_reads ra rb cd ce (by omega) ⟨.bl _,H,I,rfl,by simpa using q⟩
theorem cz.there {P:Program} {w:World} {H:Hp} {h:Heap} {a:Addr} {o:HO} (x:cz P w H h a o):∃ ob,h.get? a=some ob:=by
 cases o with
 | lst xs=>obtain ⟨_,_,_,_,e⟩:=x;exact ⟨_,e⟩
 | tup xs=>obtain ⟨_,_,_,ob,e,_⟩:=x;exact ⟨_,e⟩
 | dK kvs=>obtain ⟨_,_,_,_,o,_,_,e,_⟩:=x;exact ⟨_,e⟩
 | dT kvs=>obtain ⟨_,_,_,_,o,_,_,e,_⟩:=x;exact ⟨_,e⟩
 | dN kvs=>obtain ⟨_,_,_,_,o,_,_,e,_⟩:=x;exact ⟨_,e⟩
 | set S n=>obtain ⟨o,_,_,_,e,_⟩:=x;exact ⟨_,e⟩
 | ins C dx fs=>obtain ⟨_,_,_,e,_⟩:=x;exact ⟨_,e⟩
 | own y=>exact x
 | xd fs=>obtain ⟨_,⟨_,_,_,e,_⟩,_⟩:=x;exact ⟨_,e⟩
 | rng lo hi=>obtain ⟨_,_,_,e⟩:=x;exact ⟨_,e⟩
 | frz ob u=>obtain ⟨e,_⟩:=x;exact ⟨_,e⟩
 | tbl ps=>exact ⟨_,(show h.get? a=some _ from x)⟩
 | met f y=>exact ⟨_,(show h.get? a=some _ from x)⟩
 | ext φ=>obtain ⟨_,e,_⟩:=x;exact e
theorem iY.none_of {P:Program} {w:World} {H:Hp} {h:Heap} {a:Addr} (x:iY P w H h) (e:h.get? a=none):H a=none:=by
 cases q:H a with
 | none=>rfl
 | some o=>
  obtain ⟨ob,z⟩:=(x a o q).there;rw [e] at z;cases z
theorem iY.hide {P:Program} {w:World} {H:Hp} {h:Heap} {as:List Addr} (x:iY P w H h) (n:∀ b∈as,H b=none):iY P w H (PySem.W.hideAll h as):=λ a o e=>
 (x a o e).stay (λ b u hb q=>PySem.W.hideAll_get _ q λ hm=>by
  have z:=n b hm;rcases hb with hb | hb
  . rw [hb,e] at z;cases z
  . rw [hb] at z;cases z) (λ _ q=>q) λ _ _ q=>q
noncomputable def ss (P:Program) (w:World):sV:=λ outer H s E e s'=>
 ∃ (ea:Addr) (cls a0:Value) (H':Hp) (B:Heap),e=.ref ea/\s'.os=s.os/\AllBare s'.gens/\Heap.FlyingW B outer ea cls a0 s'.heap/\iY P w H' B/\Un (j3 outer) [] H H' s.heap s'.heap/\
  (∀ b o,s.heap.get? b=some o->H b=none->b∉j3 outer->B.get? b=some o)/\(∀ b o,s.heap.get? b=some o->b∉j3 outer->∃ o',B.get? b=some o')/\H' ea=none/\E cls none H'
noncomputable def vn (X:Cx) (E:XK):Prop:=∀ (pins:List (Addr×Obj)) (σ:St) (H:Hp) (s:Shared) (h':Heap) (e:Addr) (cls:Value) (vs:List Value),aJ X pins σ H s->Heap.MadeExcOf s.heap h' e cls vs->E cls none H->X.xe (.ref e) { s with heap:=h' }
section
variable {P:Program} {w:World} {K:Frag} {mg:Str->Option Value} {base:Heap} {N:List Str} {qual:Str} {scope:Scope} {f:Addr} {cd:Value} {A:Around} {outer:List Env} {s:Shared} {H:Hp} {E:XK}
theorem su {l:List Env} {env:Env} {b:Addr} (he:env∈l) (hb:env.frame=some b):b∈j3 l:=PF.mpr ⟨env,he,hb⟩
theorem Hd:vn (gJ (ss P w) P w K mg base N qual scope f cd A outer s H E) E:=by
 intro pins σ H1 s1 h' e cls vs I hx hE;have stk:(gJ (ss P w) P w K mg base N qual scope f cd A outer s H E).stack=(gJ (ss P w) P w K mg base N qual scope f cd A outer s H E).env::outer:=rfl;have FF:=I.stack;have fr:=I.stkFree;have keepFr:∀ b o,s.heap.get? b=some o->b∉j3 outer->b∉j3 (gJ (ss P w) P w K mg base N qual scope f cd A outer s H E).stack:=λ b o q hb hm=>by
  rcases OO.mp (I.stkSub b hm) with z | z
  . have l1:=OS q;have l2:b=s.heap.objs.size:=z;rw [l2] at l1;exact absurd l1 (Ps _)
  . exact hb z
 refine wpAny_leaves_madeW (base:=PySem.W.hideAll s1.heap (j3 (gJ (ss P w) P w K mg base N qual scope f cd A outer s H E).stack)) I.ok.frames rfl (λ b o q=>PySem.W.of_hideAll _ q) (PySem.W.funFrames_hide FF λ env he a ha=>su he ha) hx λ h'' t x1 x2 x3 x4=>?_;have keep:∀ b o,s1.heap.get? b=some o->b∉j3 (gJ (ss P w) P w K mg base N qual scope f cd A outer s H E).stack->(PySem.W.hideAll s1.heap (j3 (gJ (ss P w) P w K mg base N qual scope f cd A outer s H E).stack)).get? b=some o:=λ b o q hb=>PySem.W.hideAll_get _ q hb;have slot:∀ b∈j3 outer,∀ o,s.heap.get? b=some o->∃ sl,h''.get? b=some { o with slots:=sl }:=λ b hb o q=>by
  obtain ⟨sl,e1⟩:=I.base.slot b o q (I.ok.frf b hb) hb (show b∉([]:List Addr) by simp);obtain ⟨_,o2,e2,nf⟩:=FF.mem (show b∈j3 (gJ (ss P w) P w K mg base N qual scope f cd A outer s H E).stack from by
   obtain ⟨env,he,hf⟩:=PF.mp hb;exact su (Pd _ he) hf)
  rw [e1] at e2;cases e2;obtain ⟨sl',e3⟩:=x4 b _ (hx.keeps _ _ e1) nf;exact ⟨sl',e3⟩
 refine ⟨e,cls,.ref t,H1,_,rfl,I.os,I.bare,x1,I.hok.hide fr,⟨λ b o q n hb _=>?_,λ b o q n hb _=>slot b hb o q,λ b o q n _=>I.base.free b o q n (show b∉([]:List Addr) by simp),λ b o q _=>?_,I.base.tups,I.base.frzs,I.base.tbls⟩,λ b o q n hb=>?_,λ b o q hb=>?_,I.hok.none_of hx.new,hE⟩
 . exact x1.1 _ _ (keep b o (I.base.keep b o q n hb (show b∉([]:List Addr) by simp)) (keepFr b o q hb))
 . by_cases hb:b∈j3 outer
   . obtain ⟨sl,e1⟩:=slot b hb o q;exact ⟨_,e1⟩
   . obtain ⟨o',e1⟩:=I.base.there b o q (show b∉([]:List Addr) by simp);exact ⟨o',x1.1 _ _ (keep b o' e1 (keepFr b o q hb))⟩
 . exact keep b o (I.base.keep b o q n hb (show b∉([]:List Addr) by simp)) (keepFr b o q hb)
 . obtain ⟨o',e1⟩:=I.base.there b o q (show b∉([]:List Addr) by simp);exact ⟨o',keep b o' e1 (keepFr b o q hb)⟩
theorem MA:ij (ss P w) (gJ (ss P w) P w K mg base N qual scope f cd A outer s H E) E:=by
 intro pins σ H1 s1 e s2 I hq;obtain ⟨ea,cls,a0,H2,B,rfl,os,bare,fl,hokB,un,keepB,thereB,f1,q⟩:=hq;have keepFr:∀ b o,s.heap.get? b=some o->b∉j3 outer->b∉j3 (gJ (ss P w) P w K mg base N qual scope f cd A outer s H E).stack:=λ b o q hb hm=>by
  rcases OO.mp (I.stkSub b hm) with z | z
  . have l1:=OS q;have l2:b=s.heap.objs.size:=z;rw [l2] at l1;exact absurd l1 (Ps _)
  . exact hb z
 have upFr:∀ b∈j3 outer,b∈j3 (gJ (ss P w) P w K mg base N qual scope f cd A outer s H E).stack:=λ b hb=>by
  obtain ⟨env,he,hf⟩:=PF.mp hb;exact su (Pd _ he) hf
 refine wpAny_leaves_onW I.ok.frames rfl fl λ h' x1 x2=>?_;have no:∀ b:Addr,b∉([]:List Addr):=λ b=>by simp
 have slot:∀ b∈j3 outer,∀ o,s.heap.get? b=some o->∃ sl,h'.get? b=some { o with slots:=sl }:=λ b hb o q=>by
  obtain ⟨sl,e1⟩:=I.base.slot b o q (I.ok.frf b hb) hb (no b);obtain ⟨sl2,e2⟩:=un.slot b _ e1 (I.stkFree b (upFr b hb)) (upFr b hb) (no b);obtain ⟨_,o3,e3,nf⟩:=fl.2.2.1.mem (show b∈j3 (gJ (ss P w) P w K mg base N qual scope f cd A outer s H E).stack from upFr b hb);rw [e2] at e3;cases e3;obtain ⟨sl',e4⟩:=x2 b _ e2 nf;exact ⟨sl',e4⟩
 refine ⟨ea,cls,a0,H2,B,rfl,os.trans I.os,bare,x1,hokB,⟨λ b o q n hb _=>?_,λ b o q n hb _=>slot b hb o q,λ b o q n _=>?_,λ b o q _=>?_,λ b xs e=>un.tups b xs (I.base.tups b xs e),λ b o xs e=>un.frzs b o xs (I.base.frzs b o xs e),λ b ps e=>?_⟩,λ b o q n hb=>?_,λ b o q hb=>?_,f1,q⟩
 . exact x1.1 _ _ (keepB b o (I.base.keep b o q n hb (no b)) (I.base.free b o q n (no b)) (keepFr b o q hb))
 . obtain ⟨o',e1⟩:=I.base.there b o q (no b);exact un.free b o' e1 (I.base.free b o q n (no b)) (no b)
 . by_cases hb:b∈j3 outer
   . obtain ⟨sl,e1⟩:=slot b hb o q;exact ⟨_,e1⟩
   . obtain ⟨o',e1⟩:=I.base.there b o q (no b);obtain ⟨o2,e2⟩:=thereB b o' e1 (keepFr b o q hb);exact ⟨o2,x1.1 _ _ e2⟩
 . obtain ⟨m1,e1⟩:=I.base.tbls b ps e;obtain ⟨m2,e2⟩:=un.tbls b _ e1;exact ⟨m1++m2,by rw [e2,Array.append_assoc]⟩
 . exact keepB b o (I.base.keep b o q n hb (no b)) (I.base.free b o q n (no b)) (keepFr b o q hb)
 . obtain ⟨o',e1⟩:=I.base.there b o q (no b);exact thereB b o' e1 (keepFr b o q hb)
end
section
variable {X:Cx} {E:XK} {C:Addr} {x:Str} {np cpos pos:Pos} {e:Expr} {es:List Expr} {t:TA}
noncomputable def yJ (C:Addr) (E:XK) (t:TA):TS:=λ _ σ H=>t σ H λ vs H1=>vs.length<=sizeLine/\E (.ref C) none H1
end
theorem aJ.flown {X:Cx} {pins:List (Addr×Obj)} {σ:St} {H H2:Hp} {s s2:Shared} {h5 B:Heap} {ea:Addr} {cls a0:Value} (I:aJ X pins σ H s) (os:s2.os=s.os) (bare:AllBare s2.gens) (un:Un (j3 X.stack) [] H H2 s.heap s2.heap) (hokB:iY X.prog X.w H2 B)
 (keepB:∀ b o,s.heap.get? b=some o->H b=none->b∉j3 X.stack->B.get? b=some o) (thereB:∀ b o,s.heap.get? b=some o->b∉j3 X.stack->∃ o',B.get? b=some o')
 (fl0:s2.heap.FunFrames B X.stack) (fl:Heap.FlyingW B X.stack ea cls a0 h5) (up:s2.heap.UpToSlots h5):aJ X pins σ H2 { s2 with heap:=h5 }:=by
 have no:∀ b:Addr,b∉([]:List Addr):=λ b=>by simp
 have slot:∀ b∈j3 X.stack,∀ o,s.heap.get? b=some o->∃ sl,h5.get? b=some { o with slots:=sl }:=λ b hb o q=>by
  obtain ⟨sl,e1⟩:=un.slot b o q (I.stkFree b hb) hb (no b);obtain ⟨_,o3,e3,nf⟩:=fl0.mem hb;rw [e1] at e3;cases e3;obtain ⟨sl',e4⟩:=up b _ e1 nf;exact ⟨sl',e4⟩
 refine I.call' (ch:=[]) (show s2.os=s.os from os) ⟨λ b o q n hb _=>fl.1 _ _ (keepB b o q n hb),λ b o q n hb _=>slot b hb o q,λ b o q n _=>un.free b o q n (no b),λ b o q _=>?_,un.tups,un.frzs,un.tbls⟩ (hokB.kept λ b u q=>fl.1 b u q) bare λ b z=>absurd z (no b);by_cases hb:b∈j3 X.stack
 . obtain ⟨sl,e1⟩:=slot b hb o q;exact ⟨_,e1⟩
 . obtain ⟨o',e1⟩:=thereB b o q hb;exact ⟨o',fl.1 _ _ e1⟩
noncomputable abbrev Cx.suite (X:Cx) (e:Addr):Cx:={ X with A:=X.A.mark (some (.ref e)),calm:=false,xe:=λ _ _=>False }
theorem aJ.inSuite {X:Cx} {pins:List (Addr×Obj)} {σ:St} {H:Hp} {s:Shared} (I:aJ X pins σ H s) (e:Addr):aJ (X.suite e) pins σ H s:=
 ⟨⟨I.ok.mod,I.ok.kind,I.ok.glob,I.ok.blt,I.ok.above,I.ok.inj,I.ok.has,I.ok.cab,(λ h=>by cases h),I.ok.frames,I.ok.stk,I.ok.exf,I.ok.bs,I.ok.bsz,I.ok.noex,I.ok.exfs,I.ok.funs,I.ok.frf⟩,I.os,I.bare,I.base,I.loc,I.cell,I.free,I.freeC,I.pin,I.hok,I.len⟩
theorem aJ.outSuite {X:Cx} {pins:List (Addr×Obj)} {σ:St} {H:Hp} {s:Shared} {e:Addr} (I:aJ (X.suite e) pins σ H s) (ok:X.Ok):aJ X pins σ H s:=
 ⟨ok,I.os,I.bare,I.base,I.loc,I.cell,I.free,I.freeC,I.pin,I.hok,I.len⟩
section
variable {K:Frag} {x D:Addr}
variable {prog:Program} {w:World} {A:Around} {E:Value->Shared->Prop} {s:Shared} {nm:Str}
end
section
variable {X:Cx}
end
section
variable {κ:Type} [DecidableEq κ]
noncomputable def kf (kvs:List (κ×V)) (k:κ):Option V:=(kvs.find? λ kv=>decide (kv.1=k)).map (·.2)
noncomputable def iD (kvs:List (κ×V)) (k:κ) (v:V):List (κ×V):=
 if (kvs.any λ kv=>decide (kv.1=k))=true then kvs.map (λ kv=>if kv.1=k then (kv.1,v) else kv) else kvs++[(k,v)]
theorem lc {p:κ×V} {r:List (κ×V)} {k:κ} (e:p.1=k):kf (p::r) k=some p.2:=by simp [kf,Po,e]
theorem j9 {p:κ×V} {r:List (κ×V)} {k:κ} (e:¬ p.1=k):kf (p::r) k=kf r k:=by simp [kf,Po,e]
theorem t7 (k:κ):∀ kvs:List (κ×V),(kvs.any λ kv=>decide (kv.1=k))=(kf kvs k).isSome
 | []=>rfl
 | p::r=>by
  rw [Qm];by_cases e:p.1=k
  . simp only [lc e,OV e,Bool.true_or,Qj]
  . rw [j9 e,OE e,Bool.false_or];exact t7 k r
theorem jA (kvs:List (κ×V)) (k:κ) (v:V):(iD kvs k v).length<=kvs.length+1:=by
 unfold iD;split
 . rw [OH];omega
 . rw [PH,OF,O5];omega
theorem jo.isSome_eq {o:Option V} {u:Option Value} (r:jo o u):o.isSome=u.isSome:=by
 cases o with
 | none=>cases u with
  | none=>rfl
  | some _=>exact (show False from r).elim
 | some _=>cases u with
  | none=>exact (show False from r).elim
  | some _=>rfl
theorem jo.getD {o:Option V} {u:Option Value} {d:V} {d':Value} (r:jo o u) (rd:bq d d'):bq (o.getD d) (u.getD d'):=by
 cases o with
 | none=>cases u with
  | none=>exact rd
  | some _=>exact (show False from r).elim
 | some _=>cases u with
  | none=>exact (show False from r).elim
  | some _=>exact r
theorem KV.val {kvs:List (κ×V)} {vs:List (κ×Value)} (r:KV kvs vs) (k:κ):jo (kf kvs k) (valueAt vs k):=by
 unfold KV at r;induction r with
 | nil=>exact True.intro
 | @cons p q ps qs h t ih=>
  obtain ⟨h1,h2⟩:=h;by_cases e:p.1=k
  . have e':q.1=k:=h1.symm.trans e;have b:valueAt (q::qs) k=some q.2:=by simp [valueAt,Po,e']
    rw [lc e,b];exact h2
  . have e':¬ q.1=k:=λ z=>e (h1.trans z);have b:valueAt (q::qs) k=valueAt qs k:=by simp [valueAt,Po,e']
    rw [j9 e,b];exact ih
theorem KV.any {kvs:List (κ×V)} {vs:List (κ×Value)} (r:KV kvs vs) (k:κ):(kvs.any λ kv=>decide (kv.1=k))=vs.any λ kv=>decide (kv.1=k):=by
 unfold KV at r;induction r with
 | nil=>rfl
 | cons h t ih=>rw [Qm,Qm,ih,h.1]
theorem KV.repl {kvs:List (κ×V)} {vs:List (κ×Value)} (r:KV kvs vs) (k:κ) {y:V} {u:Value} (ry:bq y u):
 KV (kvs.map λ kv=>if kv.1=k then (kv.1,y) else kv) (vs.map λ kv=>if kv.1=k then (kv.1,u) else kv):=by
 unfold KV at r ⊢;induction r with
 | nil=>exact .nil
 | @cons p q ps qs h t ih=>
  rw [OK,OK];refine .cons ?_ ih;obtain ⟨h1,h2⟩:=h;by_cases e:p.1=k
  . rw [OG e,OG (h1.symm.trans e)];exact ⟨h1,ry⟩
  . rw [OT e,OT (λ z=>e (h1.trans z))];exact ⟨h1,h2⟩
theorem KV.put {kvs:List (κ×V)} {vs:List (κ×Value)} (r:KV kvs vs) (k:κ) {y:V} {u:Value} (ry:bq y u):KV (iD kvs k y) (stored vs k u):=by
 unfold iD stored;rw [r.any k];by_cases e:(vs.any λ kv=>decide (kv.1=k))=true
 . rw [OG e,OG e];exact r.repl k ry
 . rw [OT e,OT e];exact Paired.snoc r ⟨rfl,ry⟩
theorem KV.length {kvs:List (κ×V)} {vs:List (κ×Value)} (r:KV kvs vs):kvs.length=vs.length:=PL r
end
theorem tP {P:Program} {w:World} {k:bn} {u:Value} (r:bq (kV k) u):(aK P w).is k u=true:=by
 cases k with
 | inl i=>obtain ⟨t,e⟩:=(show ∃ t,u=Value.int i t from r);subst e;exact tG P w i t
 | inr x=>obtain ⟨t,e⟩:=(show ∃ t,u=Value.str x t from r);subst e;exact tj P w x t
theorem qH {P:Program} {w:World}:∀ {ks:List bn} {us:List Value},bi (ks.map kV) us->ItemsAre (aK P w) ks us
 | [],_,r=>by rw [Pa] at r;cases r;exact .nil
 | k::ks,_,r=>by
  rw [OK] at r;cases r with
  | cons h t=>exact .cons (tP h) (qH t)
noncomputable abbrev KT (H:Hp):List (List bn×V)->List (List bn×Addr×Value)->Prop:=Paired λ p q=>p.1=q.1/\H q.2.1=some (.tup (p.1.map kV))/\bq p.2 q.2.2
theorem KT.val {H:Hp} {kvs:List (List bn×V)} {xs:List (List bn×Addr×Value)} (r:KT H kvs xs) (k:List bn):jo (kf kvs k) ((atKey xs k).map (·.2)):=by
 induction r with
 | nil=>exact True.intro
 | @cons p q ps qs h t ih=>
  obtain ⟨h1,_,h2⟩:=h;by_cases e:p.1=k
  . have e':q.1=k:=h1.symm.trans e;have b:atKey (q::qs) k=some q.2:=by simp [atKey,Po,e']
    rw [lc e,b];exact h2
  . have e':¬ q.1=k:=λ z=>e (h1.trans z);have b:atKey (q::qs) k=atKey qs k:=by simp [atKey,Po,e']
    rw [j9 e,b];exact ih
theorem KT.repl {H:Hp} {kvs:List (List bn×V)} {xs:List (List bn×Addr×Value)} (r:KT H kvs xs) (k:List bn) {y:V} {u:Value} (ry:bq y u):
 KT H (kvs.map λ kv=>if kv.1=k then (kv.1,y) else kv) (xs.map (putAt k u)):=by
 induction r with
 | nil=>exact .nil
 | @cons p q ps qs h t ih=>
  rw [OK,OK];refine .cons ?_ ih;obtain ⟨h1,h2,h3⟩:=h;unfold putAt;by_cases e:p.1=k
  . rw [OG e,OG (h1.symm.trans e)];exact ⟨h1,h2,ry⟩
  . rw [OT e,OT (λ z=>e (h1.trans z))];exact ⟨h1,h2,h3⟩
theorem KT.put {H:Hp} {kvs:List (List bn×V)} {xs:List (List bn×Addr×Value)} (r:KT H kvs xs) (k:List bn) {b:Addr} {y:V} {u:Value} (hb:H b=some (.tup (k.map kV))) (ry:bq y u):
 KT H (iD kvs k y) (storedH xs k b u):=by
 have e:(kvs.any λ kv=>decide (kv.1=k))=(atKey xs k).isSome:=by
  rw [t7,(r.val k).isSome_eq,Option.isSome_map]
 unfold iD storedH;rw [e];by_cases q:(atKey xs k).isSome=true
 . rw [OG q,OG q];exact r.repl k ry
 . rw [OT q,OT q];exact Paired.snoc r ⟨rfl,hb,ry⟩
theorem KT.keeps {H H':Hp} {kvs:List (List bn×V)} {xs:List (List bn×Addr×Value)} (r:KT H kvs xs) (ht:∀ b ys,H b=some (.tup ys)->H' b=some (.tup ys)):KT H' kvs xs:=
 Paired.mapP r λ _ _ z=>⟨z.1,ht _ _ z.2.1,z.2.2⟩
section
variable {P:Program} {w:World} {H:Hp} {h:Heap} {a:Addr}
theorem CO {u:HO} (ok:iY P w H h) (e:Rd H a u):cz P w H h a u:=e.ok ok
theorem t8 {kvs:List (bn×V)} (ok:iY P w H h) (e:Rd H a (.dK kvs)):kvs.length<=sizeLine/\(a==sysModules)=false/\∃ vs,KV kvs vs/\h.DictOf (aK P w) a vs:=
 by obtain ⟨z,y,vs,r,x⟩:=(show cz P w H h a (.dK kvs) from CO ok e);exact ⟨z,y,vs,r,x.of⟩
theorem Ll {kvs:List (bn×V)} (ok:iY P w H h) (e:H a=some (.dK kvs)):∃ vs,KV kvs vs/\eh P w h a vs:=by
 obtain ⟨_,_,vs,r,x⟩:=(show cz P w H h a (.dK kvs) from ok a _ e);exact ⟨vs,r,x⟩
theorem Io {kvs:List (bn×V)} (ok:iY P w H h) (e:H a=some (.dK kvs)):kvs.length<=sizeLine/\(a==sysModules)=false/\∃ vs,KV kvs vs/\h.DictOf (aK P w) a vs:=t8 ok (.inl e)
theorem sP {ks:List bn} (ok:iY P w H h) (e:H a=some (.tup (ks.map kV))):(tupleKind (aK P w)).is h ks a:=by
 obtain ⟨_,its,r,o,h1,h2,n,h3⟩:=(show cz P w H h a (.tup (ks.map kV)) from ok a _ e)
 exact ⟨o,its.toArray,n,h1,h2,h3,by simpa using qH r⟩
theorem uy {kvs:List (List bn×V)} (ok:iY P w H h) (e:Rd H a (.dT kvs)):kvs.length<=sizeLine/\(a==sysModules)=false/\
 ∃ xs,KT H kvs xs/\h.DictOfH (tupleKind (aK P w)) a xs:=by
 obtain ⟨z,y,xs,r,o,es,ep,h1,h2,h3,h4,h5⟩:=(show cz P w H h a (.dT kvs) from CO ok e)
 refine ⟨z,y,xs,r,o,es,ep,h1,h2,h3,h4,λ x hx=>?_,h5⟩;have all:∀ {l:List (List bn×V)} {m:List (List bn×Addr×Value)},KT H l m->∀ x∈m,(tupleKind (aK P w)).is h x.1 x.2.1:=by
  intro l m q;induction q with
  | nil=>intro x hx;exact nomatch hx
  | @cons p q ps qs hq t ih=>
   intro x hx;rcases OO.mp hx with e | hx
   . subst e;exact sP ok (by rw [<-hq.1];exact hq.2.1)
   . exact ih x hx
 exact all r x hx
theorem Jc {kvs:List (List bn×V)} (ok:iY P w H h) (e:H a=some (.dT kvs)):kvs.length<=sizeLine/\(a==sysModules)=false/\
 ∃ xs,KT H kvs xs/\h.DictOfH (tupleKind (aK P w)) a xs:=uy ok (.inl e)
end
noncomputable def nS (H:Hp) (a:Addr) (y:V) (r:Option V):Prop:=
 (∃ kvs k,Rd H a (.dK kvs)/\y=kV k/\r=kf kvs k)∨∃ kvs k b,Rd H a (.dT kvs)/\y=.ref b/\H b=some (.tup (k.map kV))/\r=kf kvs k
noncomputable def r9 (H:Hp) (a:Addr) (y v:V) (H':Hp):Prop:=
 (∃ kvs k,H a=some (.dK kvs)/\y=kV k/\kvs.length<sizeLine/\H'=cE H a (.dK (iD kvs k v)))∨
 ∃ kvs k b,H a=some (.dT kvs)/\y=.ref b/\H b=some (.tup (k.map kV))/\kvs.length<sizeLine/\H'=cE H a (.dT (iD kvs k v))
theorem nS.k {H:Hp} {a:Addr} {kvs:List (bn×V)} {k:bn} (e:H a=some (.dK kvs)):nS H a (kV k) (kf kvs k):=.inl ⟨kvs,k,.inl e,rfl,rfl⟩
theorem nS.t {H:Hp} {a b:Addr} {kvs:List (List bn×V)} {k:List bn} (e:H a=some (.dT kvs)) (eb:H b=some (.tup (k.map kV))):nS H a (.ref b) (kf kvs k):=.inr ⟨kvs,k,b,.inl e,rfl,eb,rfl⟩
theorem r9.k {H:Hp} {a:Addr} {kvs:List (bn×V)} {k:bn} {v:V} (e:H a=some (.dK kvs)) (hl:kvs.length<sizeLine):r9 H a (kV k) v (cE H a (.dK (iD kvs k v))):=.inl ⟨kvs,k,e,rfl,hl,rfl⟩
theorem r9.t {H:Hp} {a b:Addr} {kvs:List (List bn×V)} {k:List bn} {v:V} (e:H a=some (.dT kvs)) (eb:H b=some (.tup (k.map kV))) (hl:kvs.length<sizeLine):
 r9 H a (.ref b) v (cE H a (.dT (iD kvs k v))):=.inr ⟨kvs,k,b,e,rfl,eb,hl,rfl⟩
section
variable {X:Cx} {pins:List (Addr×Obj)} {σ:St} {H:Hp} {s:Shared} {a:Addr} {y v:V} {u r:Value} {o:Option V} {A:Around} {E:Value->Shared->Prop}
theorem aJ.big (I:aJ X pins σ H s):sysModules<s.heap.objs.size:=by
 have h:mainGlobals<s.heap.objs.size:=(I.mod.glob.keeps I.bk).lt;exact Qi (by decide) h
theorem xB {Q:Value->Shared->Prop} (hu:A.units+1<cLine) (I:aJ X pins σ H s) (g:nS H a y (some v)) (ry:bq y u) (h:∀ w' s',aJ X pins σ H s'->bq v w'->Q w' s'):
 wpAny (model X.prog X.w) A (getItem (.ref a) u) Q E s:=by
 rcases g with ⟨kvs,k,e,ey,l⟩ | ⟨kvs,k,b,e,ey,eb,l⟩
 . subst ey;obtain ⟨z,hd,vs,rel,dd⟩:=t8 I.hok e;obtain ⟨w',hw,rw'⟩:=jo.some_of (v:=v) (o:=valueAt vs k) (by rw [l];exact rel.val k);exact wpAny_getItem_of (tP ry) dd.mapOf hw (h w' _ (I.tok _) rw')
 . subst ey;cases (show u=Value.ref b from ry);obtain ⟨z,hd,xs,rel,dd⟩:=uy I.hok e;obtain ⟨w',hw,rw'⟩:=jo.some_of (v:=v) (o:=(atKey xs k).map (·.2)) (by rw [l];exact rel.val k);obtain ⟨p,hp,hp2⟩:=oM hw
   refine wpAny_getItem_heap (tupleKind_room_in1 hu) (sP I.hok eb) dd hp ?_;rw [hp2];exact h w' _ (I.tok _) rw'
theorem oe {h':Heap} {t':Nat} {ob:HO} (I:aJ X pins σ H s) (mu:Jd (H a)) (hs:Heap.SameBut a s.heap h') (he:∃ q,h'.get? a=some q) (new:cz X.prog X.w (cE H a ob) h' a ob):
 aJ X pins σ (cE H a ob) { s with heap:=h',toks:=t' }:=
 I.write (x:=a) (e:=a) mu (.inl rfl) (λ b q hb z=>(hs.2 b hb).trans z) he new
theorem vC {P:Program} {w:World} {H':Hp} {h':Heap} {kvs:List (bn×V)} {vs:List (bn×Value)} (z:kvs.length<=sizeLine) (hd:(a==sysModules)=false) (rel:KV kvs vs) (dd:eh P w h' a vs):
 cz P w H' h' a (.dK kvs):=⟨z,hd,vs,rel,dd⟩
theorem Ib {P:Program} {w:World} {d:Addr} {kvs:List (bn×Value)} {k:bn} {key v:Value} {Q:Unit->Shared->Prop} (hkey:(aK P w).is k key=true) (hm:eh P w s.heap d kvs) (hsz:kvs.length<=sizeLine)
 (hQ:∀ h',eh P w h' d (stored kvs k v)->Heap.SameBut d s.heap h'->Q () { s with heap:=h',toks:=s.toks+1 }):wpAny (model P w) A (setItem (.ref d) key v) Q E s:=by
 have T:=hm.of.typeIs;obtain ⟨o,es,ep,ho,hc,hd,he,hk,hp,hn⟩:=hm;have hes:es.size<=sizeLine:=by have e1:=hp.length;rw [P8] at e1;omega
 unfold setItem;try with_reducible refine Pt ?_
 refine OD (wpAny_sequenceKey T (by decide) (OD (wpAny_callSpecial?_slot (name:=Str.ofString "__setitem__") T F.slot_dict_setitem (wpAny_call_entry F.slot_dict_setitem T F.entry_dict_setitem (OD (wpAny_notOrdered_dict T (show wpAny _ _ (dictSet d key v >>= _) _ _ s from OD ?_))) (args_dict_setitem _ _ _)))));unfold dictSet;try with_reducible refine Pt ?_
 refine OD ((aK P w).pyHash hkey ?_);unfold dictSetHashed;try with_reducible refine Pt ?_
 refine OD (wpAny_dictFind_of (s:={ s with toks:=s.toks+1 }) hkey ho hd hk ?_);have ix:(es.findIdx? λ e=>(aK P w).is k e.key)=kvs.findIdx? λ kv=>decide (kv.1=k):=by
  rw [<-hp.findIdx k];obtain ⟨l⟩:=es;simp
 cases hi:es.findIdx? λ e=>(aK P w).is k e.key with
 | some i=>
  have an:=any_of_findIdx_some (ix▸hi);have hl:(es.toList.findIdx? λ e=>(aK P w).is k e.key)=some i:=by rw [<-hi];obtain ⟨l⟩:=es;simp
  have hm:=hp.modify hn hl v;refine OD (QK (OD (wpAny_updateDict (s:={ s with toks:=s.toks+1 }) ho hd (wpAny_point (OZ ⟨.none,rfl,OZ (hQ _ ?_ (PU ..))⟩)))));refine ⟨_,_,ep,Pr _ ho (PV (Qb hd _)),hc.mapDict _,Qb hd _,by simpa using he,hk.modify _ _,?_,?_⟩
  . rw [stored,OG an];obtain ⟨l⟩:=es;simpa using hm
  . rw [stored,OG an,keys_map_store];exact hn
 | none=>
  have nm:k∉kvs.map (·.1):=not_mem_of_findIdx_none (ix▸hi);have na:¬ (kvs.any λ kv=>decide (kv.1=k))=true:=λ z=>by
   obtain ⟨kv,h1,h2⟩:=List.any_eq_true.mp z;exact nm (Pp.mpr ⟨kv,h1,PP h2⟩)
  have ha:=hp.append hkey ((aK P w).hash k) v;refine OD (QK (wpAny_updateDictKeys (hz:=hes) (s:={ s with toks:=s.toks+1 }) ho hd (OZ ⟨.none,rfl,OZ (hQ _ ?_ (PU ..))⟩)));refine ⟨_,_,ep+1,Pr _ ho (PV (PM hd _)),hc.mapDictKeys _,PM hd _,by simp [he],hk.push hkey _,?_,?_⟩
  . rw [stored,OT na];obtain ⟨l⟩:=es;simpa using ha
  . rw [stored,OT na,O3,P2];exact ⟨hn,by simp,λ x hx y hy z=>nm (by simp at hy;rw [<-hy,<-z];exact hx)⟩
theorem wV {H':Hp} {Q:Unit->Shared->Prop} (hu:A.units+1<cLine) (I:aJ X pins σ H s) (g:r9 H a y v H') (ry:bq y u) (rv:bq v r) (h:∀ s',aJ X pins σ H' s'->Q () s'):
 wpAny (model X.prog X.w) A (setItem (.ref a) u r) Q E s:=by
 rcases g with ⟨kvs,k,e,ey,l,eH⟩ | ⟨kvs,k,b,e,ey,eb,l,eH⟩
 . subst ey eH;obtain ⟨z,hd,_⟩:=Io I.hok e;obtain ⟨vs,rel,dd⟩:=Ll I.hok e;have hz:vs.length<=sizeLine:=by rw [<-rel.length];exact z
   have hl:(iD kvs k v).length<=sizeLine:=by have:=jA kvs k v;omega
   refine Ib (tP ry) dd hz λ h' dd' hs=>h _ ?_;have he:∃ q,h'.get? a=some q:=let ⟨q,_,_,hq,_⟩:=dd';⟨q,hq⟩;exact oe I (by rw [e];exact True.intro) hs he (vC hl hd (rel.put k rv) dd')
 . subst ey eH;cases (show u=Value.ref b from ry);obtain ⟨z,hd,xs,rel,dd⟩:=Jc I.hok e;have hz:xs.length<=sizeLine:=by rw [<-PL rel];exact z
   have hl:(iD kvs k v).length<=sizeLine:=by have:=jA kvs k v;omega
   refine wpAny_setItem_heap (hsz:=hz) (tupleKind_room_in1 hu) (sP I.hok eb) dd λ h' dd' hs=>h _ ?_;obtain ⟨q,es,ep,hq,h2,h3,h4,_,h5⟩:=dd';refine oe I (by rw [e];exact True.intro) hs ⟨q,hq⟩ ⟨hl,hd,_,(rel.put k eb rv).keeps λ c ys ec=>?_,q,es,ep,hq,h2,h3,h4,h5⟩;rw [aM (JS ec e (λ z=>nomatch z))];exact ec
end
section
variable {X:Cx} {pins:List (Addr×Obj)} {σ:St} {H:Hp} {s:Shared} {a:Addr} {kvs:List (bn×V)} {k:bn} {u:Value} {A:Around} {E:Value->Shared->Prop}
end
noncomputable def IP (i:Expr):Prop:=∀ ov iv,subscripted i false ov iv=operate [ov,iv] (getItem ov iv)
theorem CH {prog:Program} {w:World} {A:Around} {E:Value->Shared->Prop} {s:Shared} {env:Env} {value slice:Expr} {pos:Pos} {T id:String} {Q:Value->Shared->Prop}
 (hl:typeLookup (.type T) "__getitem__" = pure (some (.builtin id))) (hs:IP slice)
 (h:wpAny (model prog w) A (eval value env) (λ o s₁=>wpAny (model prog w) A (eval slice env) (λ i s₂=>s₂.TypeIs o T/\wpAny (model prog w) A (getItem o i) Q E s₂) E s₁) E s):
 wpAny (model prog w) A (eval (.Subscript value slice pos) env) Q E s:=by
 refine Subscript_ (Pn h (λ o s₁ h₁=>Pn h₁ (λ i s₂ h₂=>?_) λ _ _ x=>x) λ _ _ x=>x);obtain ⟨hT,h₂⟩:=h₂;unfold subscriptTail;refine OD ?_;rw [getitemInPython_of_ne hT.not_modules];refine OD (wpAny_specialOf hT hl ?_);have fin:wpAny (model prog w) A (subscripted slice false o i) (λ r s₃=>wpAny (model prog w) A (letTemporaryGo value o r >>= λ _=>pure r) Q E s₃) E s₂:=by
  rw [hs o i];exact wpAny_operating (Pn h₂ (λ r s₃ h₃=>OD (wpAny_letTemporaryGo (OZ h₃))) λ _ _ x=>x)
 first
  | exact OZ (OD fin)
  | exact OD (OZ (OD fin))
  | exact OD fin
theorem u8 {X:Cx} {pins:List (Addr×Obj)} {σ:St} {H:Hp} {s:Shared} {a:Addr} {y:V} {o:Option V} (I:aJ X pins σ H s) (g:nS H a y o):s.TypeIs (.ref a) "dict" := by
 rcases g with ⟨kvs,k,e,_,_⟩ | ⟨kvs,k,b,e,_,_,_⟩
 . obtain ⟨_,_,vs,_,dd⟩:=t8 I.hok e;exact dd.typeIs
 . obtain ⟨_,_,xs,_,dd⟩:=uy I.hok e;exact dd.typeIs
noncomputable def Dk (td ty:TE):TE:=λ σ H Q=>td σ H λ x H1=>ty σ H1 λ y H2=>∃ a v,x=.ref a/\nS H2 a y (some v)/\Q v H2
noncomputable def Dt (td ty tv:TE):TS:=λ D σ H=>tv σ H λ v H1=>td σ H1 λ x H2=>ty σ H2 λ y H3=>∃ a H4,x=.ref a/\r9 H3 a y v H4/\D.nx σ H4
section
variable {X:Cx} {o i e value:Expr} {pos pos' tpos:Pos} {td ty tv:TE}
theorem KN (hu:X.A.units+1<cLine) (ho:PE X o td) (hi:PE X i ty) (hs:IP i):PE X (.Subscript o i pos) (Dk td ty):=by
 intro pins s σ H Q I h;refine CH PySem.F.slot_dict_getitem.lookup hs (bY (ho pins s σ H _ I h) λ u s1 hy0=>?_);obtain ⟨x,H1,I1,rx,q1⟩:=hy0;refine bY (hi pins s1 σ H1 _ I1 q1) λ iv s2 hq0=>?_;obtain ⟨y,H2,I2,ry,a,v,ex,g,q2⟩:=hq0;subst ex;obtain rfl:u=Value.ref a:=rx;exact ⟨u8 I2 g,xB hu I2 g ry λ w' s3 I3 rw'=>⟨v,H2,I3,rw',q2⟩⟩
theorem Kh (hu:X.A.units+1<cLine) (ho:PE X o td) (hi:PE X i ty) (hv:PE X value tv) (hs:swapsWith value (some (.Subscript o i pos')) pos.line X.env=pure false):
 PS X (.Assign [.Subscript o i pos'] value pos) (Dt td ty tv):=by
 intro pins s σ H D I h;refine wpAny_Assign_Subscript (bY (hv pins s σ H _ I h) λ r s1 hy0=>?_) hs;obtain ⟨v,H1,I1,rv,q1⟩:=hy0;refine bY (ho pins s1 σ H1 _ I1 q1) λ u s2 hy0=>?_;obtain ⟨x,H2,I2,rx,q2⟩:=hy0;refine bY (hi pins s2 σ H2 _ I2 q2) λ iv s3 hq0=>?_;obtain ⟨y,H3,I3,ry,a,H4,ex,g,q3⟩:=hq0;subst ex;obtain rfl:u=Value.ref a:=rx;exact wV hu I3 g ry rv λ s4 I4=>⟨σ,H4,I4,q3⟩
end
theorem ur {P:Program} {w:World} {H:Hp} (h:Heap) (hb:sysModules<h.objs.size):cz P w H (h.push { cls:=.type "dict", data:=.dict #[] }) h.objs.size (.dK []):=
 ⟨O8 _,P7.mpr (Qu (Ph hb)),[],.nil,_,#[],0,Pf _ rfl,⟨rfl,rfl,rfl⟩,rfl,rfl,λ _ he=>by simp at he,.nil,List.nodup_nil⟩
noncomputable def Aw:TE:=λ _ H Q=>∀ p,H p=none->Q (.ref p) (cE H p (.dK []))
section
variable {X:Cx} {pos:Pos}
theorem IN:PE X (.Dict [] [] pos) Aw:=λ pins s σ H Q I h=>
 wpAny_Dict_empty ⟨.ref s.heap.objs.size,_,I.laid (a:=s.heap.objs.size) (o:=.dK []) (t':=s.toks) (λ _ _ q=>OM _ q) (OB _) (ur s.heap I.big),rfl,h _ (I.hok.fresh (OB _))⟩
end
noncomputable def oX:List (TE×TE)->St->Hp->(List (V×V)->Hp->Prop)->Prop
 | [],_,H,Q=>Q [] H
 | (tk,tv)::r,σ,H,Q=>tk σ H λ x H1=>tv σ H1 λ y H2=>oX r σ H2 λ ps H3=>Q ((x,y)::ps) H3
noncomputable abbrev VV:List (V×V)->List (Value×Value)->Prop:=Paired λ p q=>bq p.1 q.1/\bq p.2 q.2
noncomputable def HP (X:Cx) (pos:Pos) (keys:List (Option Expr)) (values:List Expr) (trs:List (TE×TE)):Prop:=
 ∀ (pins:List (Addr×Obj)) (s:Shared) (σ:St) (H:Hp) (Q:List (V×V)->Hp->Prop),aJ X pins σ H s->oX trs σ H Q->
  wpAny (model X.prog X.w) X.A (evalPairs (pairTrees keys values X.env pos)) (λ vs s'=>∃ ps H',aJ X pins σ H' s'/\VV ps vs/\Q ps H') X.xe s
theorem KQ {X:Cx} {pos:Pos}:HP X pos [] [] []:=λ pins s σ H Q I h=>pairTrees_nil_walk ⟨[],H,I,.nil,h⟩
theorem HZ {X:Cx} {pos:Pos} {k v:Expr} {ks:List (Option Expr)} {vs:List Expr} {tk tv:TE} {trs:List (TE×TE)} (hk:PE X k tk) (hv:PE X v tv) (hr:HP X pos ks vs trs):
 HP X pos (some k::ks) (v::vs) ((tk,tv)::trs):=λ pins s σ H Q I h=>
 pairTrees_cons_walk (bY (hk pins s σ H _ I h) λ u s1 ⟨x,H1,I1,rx,q1⟩=>bY (hv pins s1 σ H1 _ I1 q1) λ w2 s2 ⟨y,H2,I2,ry,q2⟩=>
  bY (hr pins s2 σ H2 _ I2 q2) λ ws s3 ⟨ps,H3,I3,rel,q3⟩=>⟨(x,y)::ps,H3,I3,.cons ⟨rx,ry⟩ rel,q3⟩)
noncomputable def fQ (kvs more:List (bn×V)):List (bn×V):=more.foldl (λ acc kv=>iD acc kv.1 kv.2) kvs
theorem KV.merge:∀ {more:List (bn×V)} {rs:List (bn×Value)} {kvs:List (bn×V)} {vs:List (bn×Value)},KV more rs->KV kvs vs->KV (fQ kvs more) (merged vs rs):=by
 intro more rs kvs vs r;unfold KV at r;induction r generalizing kvs vs with
 | nil=>intro q;exact q
 | @cons p q ps qs h t ih=>
  intro r0;have e:KV (iD kvs p.1 p.2) (stored vs q.1 q.2):=by
   have:=r0.put p.1 h.2;rw [<-h.1];exact this
  exact ih e
theorem ii:∀ (more kvs:List (bn×V)),(fQ kvs more).length<=kvs.length+more.length
 | [],kvs=>by show kvs.length<=kvs.length+0;omega
 | p::r,kvs=>by
  have h1:=ii r (iD kvs p.1 p.2);have h2:=jA kvs p.1 p.2;show (fQ (iD kvs p.1 p.2) r).length<=_;rw [OF];omega
theorem pb {P:Program} {w:World}:∀ {kvs:List (bn×V)} {ws:List (Value×Value)},VV (kvs.map λ kv=>(kV kv.1,kv.2)) ws->∃ rs,Carries (aK P w) ws rs/\KV kvs rs
 | [],_,r=>by rw [Pa] at r;cases r;exact ⟨[],True.intro,.nil⟩
 | p::kvs,_,r=>by
  rw [OK] at r;cases r with
  | @cons a b as bs h t=>
   obtain ⟨rs,c,q⟩:=pb (P:=P) (w:=w) t;obtain ⟨b1,b2⟩:=b;exact ⟨(p.1,b2)::rs,⟨tP h.1,rfl,c⟩,.cons ⟨rfl,h.2⟩ q⟩
noncomputable def A2 (trs:List (TE×TE)):TE:=λ σ H Q=>∀ p,H p=none->oX trs σ (cE H p (.dK [])) λ ps H2=>H2 p=some (.dK [])/\∃ kvs:List (bn×V),ps=kvs.map (λ kv=>(kV kv.1,kv.2))/\kvs.length<=15/\Q (.ref p) (cE H2 p (.dK (fQ [] kvs)))
structure M1 (X:Cx) (o:Expr) (m:Str) (apos:Pos) (e:Expr) (cpos:Pos):Prop where
 base:attributeBase o m X.env (eval o X.env)=eval o X.env
 few:((backTo cpos (starEach [e] X.env)).all (λ x=>!x.1)&&(backToKw cpos (keywordEach [] X.env)).all (λ x=>x.1.isSome)
  && decide (([e]:List Expr).length+([]:List Keyword).length+(if ([]:List Keyword).isEmpty then 0 else 1)<30))=true
 line:(apos.endLine==cpos.line)=true
 trees:backTo cpos (starEach [e] X.env)=[(false,eval e X.env)]
structure M2 (X:Cx) (o:Expr) (m:Str) (apos:Pos) (e f:Expr) (cpos:Pos):Prop where
 base:attributeBase o m X.env (eval o X.env)=eval o X.env
 few:((backTo cpos (starEach [e,f] X.env)).all (λ x=>!x.1)&&(backToKw cpos (keywordEach [] X.env)).all (λ x=>x.1.isSome)
  && decide (([e,f]:List Expr).length+([]:List Keyword).length+(if ([]:List Keyword).isEmpty then 0 else 1)<30))=true
 line:(apos.endLine==cpos.line)=true
 trees:backTo cpos (starEach [e,f] X.env)=[(false,eval e X.env),(false,eval f X.env)]
noncomputable def Mz (H:Hp) (a:Addr):Prop:=(∃ kvs,Rd H a (.dK kvs))∨∃ kvs,Rd H a (.dT kvs)
theorem zm {X:Cx} {pins:List (Addr×Obj)} {σ:St} {H:Hp} {s:Shared} {a:Addr} (I:aJ X pins σ H s) (d:Mz H a):
 s.TypeIs (.ref a) "dict" /\ (∀ b,Value.ref a=.ref b->∃ ob,s.heap.get? b=some ob/\ob.dict=none)/\(a==sysModules)=false:=by
 rcases d with ⟨kvs,e⟩ | ⟨kvs,e⟩
 . obtain ⟨_,hd,vs,_,dd⟩:=t8 I.hok e;refine ⟨dd.typeIs,λ b q=>?_,hd⟩;cases q;obtain ⟨ob,_,_,h1,h2,_⟩:=dd;exact ⟨ob,h1,h2.2.1⟩
 . obtain ⟨_,hd,xs,_,dd⟩:=uy I.hok e;refine ⟨dd.typeIs,λ b q=>?_,hd⟩;cases q;obtain ⟨ob,_,_,h1,h2,_⟩:=dd;exact ⟨ob,h1,h2.2.1⟩
section
variable {X:Cx} {pins:List (Addr×Obj)} {σ:St} {H:Hp} {s:Shared} {a:Addr} {y d:V} {u r:Value} {o:Option V} {A:Around} {E:Value->Shared->Prop}
theorem Fn {Q:Value->Shared->Prop} (hu:A.units+1<cLine) (I:aJ X pins σ H s) (g:nS H a y o) (ry:bq y u) (rd:bq d r) (h:∀ w' s',aJ X pins σ H s'->bq (o.getD d) w'->Q w' s'):
 wpAny (model X.prog X.w) A (call (.builtin "dict.get") [.ref a,u,r]) Q E s:=by
 rcases g with ⟨kvs,k,e,ey,l⟩ | ⟨kvs,k,b,e,ey,eb,l⟩
 . subst ey;obtain ⟨z,hd,vs,rel,dd⟩:=t8 I.hok e;refine call_meetsIn Qy dd.typeIs PySem.F.entry_dict_get (PySem.F.args_dict_get_3 _ _ _) (meets_dict_get_default (aK X.prog X.w) a (tP ry) hd r) ⟨_,dd.mapOf,h _ _ (I.tok _) ?_⟩;rw [l];exact (rel.val k).getD rd
 . subst ey;cases (show u=Value.ref b from ry);obtain ⟨z,hd,xs,rel,dd⟩:=uy I.hok e;refine call_meetsIn Qy dd.typeIs PySem.F.entry_dict_get (PySem.F.args_dict_get_3 _ _ _) (meetsH_dict_get_default (tupleKind (aK X.prog X.w)) a b hd r) ⟨tupleKind_room_in1 hu,k,xs,sP I.hok eb,dd,h _ _ (I.tok _) ?_⟩;rw [l];exact (rel.val k).getD rd
end
noncomputable def zA (td ty tx:TE):TE:=λ σ H Q=>td σ H λ x H1=>∃ a,x=.ref a/\Mz H1 a/\ty σ H1 λ y H2=>tx σ H2 λ z H3=>∃ o,nS H3 a y o/\Q (o.getD z) H3
section
variable {X:Cx} {o e f:Expr} {apos cpos:Pos} {td ty tx:TE}
theorem IU (hu:X.A.units+1<cLine) (ho:PE X o td) (he:PE X e ty) (hf:PE X f tx) (m:M2 X o "get" apos e f cpos):PE X (.Call (.Attribute o "get" apos) [e,f] [] cpos) (zA td ty tx):=by
 intro pins s σ H Q I h;refine wpAny_Call_method m.base m.few m.line PySem.F.plainAttrs_dict Qy PySem.F.type_dict_get (bY (ho pins s σ H _ I h) λ u s1 hq0=>?_);obtain ⟨x,H1,I1,rx,a,ex,d,q1⟩:=hq0;subst ex;obtain rfl:u=Value.ref a:=rx;obtain ⟨t1,t2,_⟩:=zm I1 d;refine ⟨t1,t2,?_⟩;rw [m.trees];refine Qh rfl (Qq (Qt (bY (he pins s1 σ H1 _ I1 q1) λ iv s2 hy0=>?_)));obtain ⟨y,H2,I2,ry,q2⟩:=hy0;refine
  Qt (bY (hf pins s2 σ H2 _ I2 q2) λ fv s3 hy0=>?_)
 obtain ⟨z,H3,I3,rz,ov,g,q3⟩:=hy0;refine Calls.spliced_nil ?_;exact Fn hu I3 g ry rz λ w' s4 I4 rw'=>⟨_,H3,I4,rw',q3⟩
end
section
variable {X:Cx} {pins:List (Addr×Obj)} {σ:St} {H:Hp} {s:Shared} {a:Addr} {kvs:List (bn×V)} {A:Around} {E:Value->Shared->Prop}
end
section
variable {X:Cx} {pins:List (Addr×Obj)} {σ:St} {H:Hp} {s:Shared} {a:Addr} {y:V} {u:Value} {A:Around} {E:Value->Shared->Prop}
end
end L2
namespace L2
open PySem PySem.Spec PyProof.Rows
open PySem.W (Frag)
section
variable {X:Cx}
end
section
variable {κ:Type} [DecidableEq κ]
end
section
variable {z:Str} {wi:TI} {g:TG} {tb:TS} {D:jm} {σ:St} {H H1:Hp} {ix:List (Option Nat)} {tc:TT} {te:TE} {Q:VK}
end
section
variable {X:Cx}
end
section
variable {X:Cx}
noncomputable def CN (i j:Int):Prop:=i.natAbs<2^512/\j.natAbs<2^512
theorem BV:ir X (binaryOp .Mult) (rI CN λ i j=>.int (i*j)):=Hk λ _ _ _ _ _ _ _ hc q=>mul_int q (IntMulOk.of_le (PySem.intBits_le_iff.mpr hc.1) (PySem.intBits_le_iff.mpr hc.2) (by decide))
noncomputable def CL:R2:=λ x y H Q=>∃ z n,x=.str z/\y=.int n/\0<=n/\n<=1000/\z.length<=1000/\Q (.str (Txt.mul z n)) H
theorem K1:ir X (binaryOp .Mult) CL:=by
 intro pins s σ H x y v u Q I rx ry h;obtain ⟨z,n,rfl,rfl,h0,h1,hz,q⟩:=h;obtain ⟨t,rfl⟩:=rx;obtain ⟨t',rfl⟩:=ry;have hm:z.length*n.toNat<=1000*1000:=Nat.mul_le_mul hz (by omega);refine SB.mul ⟨?_,λ a b=>?_,λ a b=>?_⟩ (λ t2 k=>⟨.str _,H,I.tok k,⟨t2,rfl⟩,q⟩)
 . have e1:decide (n < -(2^63:Int))=false:=OE (by omega);have e2:decide (n ≥ 2^63)=false:=OE (by omega);rw [e1,e2];rfl
 . have hn:1<=n:=by omega
   have:(1000:Int)<=(2^63-1) / n:=by
    rw [Int.le_ediv_iff_mul_le (by omega)];omega
   omega
 . unfold PySem.Builtin.Str.tooLong;exact OE (by have:sizeLine=16777216:=QD;omega)
end
section
variable {X:Cx} {K:Frag}
theorem K3 (h:X.K=K):ze X (Kl K):=h▸EV
theorem At (h:X.K=K):Hy X (IX K):=h▸BD
theorem EG (h:X.K=K):ir X (compareOp .In) (Hg K false):=h▸xC
noncomputable def Jh (K:Frag):List V->Hp->VK->Prop:=λ xs H Q=>∃ p ys,xs=[.ref p]/\(eC K H p ys∨gW K H p ys)/\Q (.int ys.length) H
theorem pN (h:X.K=K):cU X (.builtin "len") (Jh K):=h▸rE
noncomputable def CQ:List V->Hp->VK->Prop:=λ xs H Q=>∃ z,xs=[.str z]/\z.length<=sizeLine/\Q (.int z.length) H
theorem pL:cU X (.builtin "len") CQ:=sJ
noncomputable def DZ:List V->Hp->VK->Prop:=λ xs H Q=>∃ v T k,xs=[v,.ty T]/\yc v T=some k/\Q (.bl k) H
theorem wL:cU X (.builtin "isinstance") DZ:=zH
noncomputable def nW (K:Frag):List V->Hp->VK->Prop:=λ xs H Q=>∃ p ys,xs=[.ref p]/\(eC K H p ys∨gW K H p ys)/\∀ l,H l=none->Q (.ref l) (cE H l (.lst ys))
theorem pX (h:X.K=K):cU X (.type "list") (nW K):=h▸sj
theorem K4 {pos:Pos} {es:List Expr} {k:Nat} {t:yI} {n:Nat} (h:X.K=K) (hc:X.calm=true) (hh:GX X es t)
 (hn:(assignEach es X.env).length=n) (hst:(assignEach es X.env).findIdx? (·.1)=none):PG X (.Tuple es k pos) (EM K n t):=h▸EN hc hh hn hst
variable {o e:Expr} {es:List Expr} {to:TE} {t:TA} {name:Str} {apos cpos:Pos} {T id:String} {r:V->List V->Hp->VK->Prop}
theorem AM (h:X.K=K) (pa:PlainAttrs T) (slot:Slot T name id) (hty:typeOf (.builtin id)=pure (.type "method_descriptor")) (hm:Ix X id r) (ho:PE X o to)
 (hbase:attributeBase o name X.env (eval o X.env)=eval o X.env:=by rfl) (hline:(apos.endLine==cpos.line)=true:=by rfl):PE X (.Call (.Attribute o name apos) [] [] cpos) (Bk K T r to):=h▸FZ pa slot hty hm ho hbase hline
theorem F8 (h:X.K=K) (pa:PlainAttrs T) (slot:Slot T name id) (hty:typeOf (.builtin id)=pure (.type "method_descriptor")) (hm:Ix X id r) (ho:PE X o to) (ha:PA X (e::es) t)
 (hbase:attributeBase o name X.env (eval o X.env)=eval o X.env:=by rfl)
 (hfew:((backTo cpos (starEach (e::es) X.env)).all (λ x=>!x.1)&&(backToKw cpos (keywordEach [] X.env)).all (λ x=>x.1.isSome)
  && decide ((e::es).length+([]:List Keyword).length+(if ([]:List Keyword).isEmpty then 0 else 1)<30))=true:=by rfl)
 (hline:(apos.endLine==cpos.line)=true:=by rfl) (hs:starEach (e::es) X.env=(false,eval e X.env)::starEach es X.env:=by rfl) (hplain:(backTo cpos (starEach es X.env)).any (·.1)=false:=by rfl):
 PE X (.Call (.Attribute o name apos) (e::es) [] cpos) (Hl K T r to t):=h▸IR pa slot hty hm ho ha hbase hfew hline hs hplain
end
theorem kM {H:Hp} {p:Addr} (h:H p=none) (o:HO):bB H (cE H p o):=λ b u q=>by rw [aM (dQ q h)];exact q
theorem bB.tup {K:Frag} {H H':Hp} {a:Addr} {xs:List V} (g:bB H H') (q:gW K H a xs):gW K H' a xs:=by
 rcases q with (h | ⟨o,h⟩) | h
 . exact .inl (.inl (g _ _ h))
 . exact .inl (.inr ⟨o,g _ _ h⟩)
 . exact .inr h
noncomputable def Nw (H H':Hp) (p:Addr) (o:HO):Prop:=bB H H'/\H p=none/\H' p=some o
theorem Nw.of {H:Hp} {p:Addr} {o:HO} (h:H p=none):Nw H (cE H p o) p o:=⟨kM h o,h,aG⟩
noncomputable def yd (t:TA):TE:=λ σ H Q=>t σ H λ xs H1=>xs.length<=sizeLine/\∀ p H',Nw H1 H' p (.tup xs)->Q (.ref p) H'
noncomputable def yU (t:TA):TE:=λ σ H Q=>t σ H λ xs H1=>xs.length<=sizeLine/\∀ p H',Nw H1 H' p (.lst xs)->Q (.ref p) H'
section
variable {X:Cx} {K:Frag} {es:List Expr} {t:TA} {pos:Pos}
theorem KS {x1} (h:PA X es t):PE X (.Tuple es x1 pos) (yd t):=λ pins s σ H Q I hq=>wpAny_Tuple_spliced (bY (h pos pins s σ H _ I hq) λ us s1 ⟨xs,H1,I1,r,z,q⟩=>⟨by rw [<-r.length];exact z,
 .ref s1.heap.objs.size,_,I1.laid (t':=s1.toks) (o:=.tup xs) (λ b u e=>OM _ e) (OB _) ⟨z,us,r,⟨_,Pf _ rfl,rfl,_,rfl⟩⟩,rfl,q _ _ (.of (I1.hok.fresh (OB _)))⟩)
theorem KP (h:PA X es t):PE X (.List es pos) (yU t):=λ pins s σ H Q I hq=>wpAny_List_spliced (bY (h pos pins s σ H _ I hq) λ us s1 ⟨xs,H1,I1,r,z,q⟩=>⟨by rw [<-r.length];exact z,
 .ref s1.heap.objs.size,_,I1.laid (t':=s1.toks) (o:=.lst xs) (λ b u e=>OM _ e) (OB _) ⟨z,us,0,r,Pf _ rfl⟩,rfl,q _ _ (.of (I1.hok.fresh (OB _)))⟩)
noncomputable def vO (K:Frag):V->Option Int->Option Int->Hp->VK->Prop:=λ x lo hi H Q=>∃ a xs,x=.ref a/\eC K H a xs/\∀ p H',Nw H H' p (.lst (tU xs lo hi))->Q (.ref p) H'
theorem HU (h:X.K=K):Hy X (vO K):=λ pins s σ H x v vl vu lo hi sl Q I rx hs pl pu hy0=>by obtain ⟨a,xs,e,q,r⟩:=hy0;exact At h pins s σ H x v vl vu lo hi sl Q I rx hs pl pu ⟨a,xs,e,q,λ p hp=>r p _ (.of hp)⟩
end
section
variable {X:Cx} {K:Frag}
theorem Kq {o i e:Expr} {to ti te:TE} {pos tpos:Pos} (he:PE X e te) (ho:PE X o to) (hi:PE X i ti)
 (ha:∀ v,assign (.Subscript o i tpos) X.env v=(do
  let ov <-holding [v] (eval o X.env);let iv <-holding [v,ov] (eval i X.env)
  standAt tpos
  holding [v,ov,iv] (setItem ov iv v)
  release [v,ov,iv] [])) (hs:swapsWithSole [.Subscript o i tpos] e pos.line X.env=pure false) (hw:swappedStores [.Subscript o i tpos] e X.env=pure none):PS X (.Assign [.Subscript o i tpos] e pos) (sM te (Gv to ti ym)):=FS he (EE ho hi yu ha) hs hw
end
noncomputable def vH:Value->Option Str
 | .str x _=>some x
 | _=>none
noncomputable def CA (us:List Value) (ws:List Str):Bool:=decide (us.map vH=ws.map some)
theorem xg {u:Value} {y:Str} (h:vH u=some y):bq (.str y) u:=by
 unfold vH at h;split at h
 . cases h;exact ⟨_,rfl⟩
 . cases h
theorem kN:∀ {us:List Value} {ws:List Str},us.map vH=ws.map some->bi (ws.map V.str) us
 | [],[],_=>.nil
 | u::r,y::s,h=>by
  simp only [OK,List.cons.injEq] at h;exact .cons (xg h.1) (kN h.2)
 | [],_::_,h=>by simp at h
 | _::_,[],h=>by simp at h
noncomputable def uJ (o:Obj) (ws:List Str):Bool:=match o.data with
 | .seq its _=>CA its.toList ws&&decide (its.size<=1000)
 | _=>false
theorem xv {K:Frag} {H:Hp} {a:Addr} {o:Obj} {ws:List Str} (h:K.lookup a=some o) (hc:o.cls=.type "tuple") (ht:uJ o ws=true):gW K H a (ws.map V.str):=by
 unfold uJ at ht;split at ht
 . rename_i its n e;rw [OL] at ht;exact .inr ⟨o,its,n,h,hc,e,PX (wS (by simpa using ht.2)),kN (PP ht.1)⟩
 . cases ht
section
variable {K:Frag} {x D:Addr} {prog:Program} {w:World} {A:Around} {E:Value->Shared->Prop} {s:Shared}
end
section
variable {X:Cx} {K:Frag}
end
section
variable {P:Program} {w:World} {A:Around} {E:Value->Shared->Prop} {s:Shared}
end
section
variable {X:Cx} {K:Frag}
end
section
variable {K:Frag} {a b:Addr} {xs ys:List V} {wi:TI} {g:TG} {σ:St} {H H1:Hp} {ix:List (Option Nat)} {tc:TT} {te:TE} {Q:VK}
end
section
variable {K:Frag} {a:Addr} {xs:List V} {wi:TI} {g:TG} {σ:St} {H H1:Hp} {ix:List (Option Nat)} {tc:TT} {te:TE} {Q:VK}
end
inductive W where
 | none | bool (b:Bool) | int (i:Int) | str (x:Str) | list (ds:List W) | tuple (ds:List W) | ref (n:Nat)
mutual
inductive Dw (K:Frag) (ρ:List Addr) (H:Hp):V->W->Prop
 | non:Dw K ρ H .non .none
 | bl (b:Bool):Dw K ρ H (.bl b) (.bool b)
 | int (i:Int):Dw K ρ H (.int i) (.int i)
 | str (x:Str):Dw K ρ H (.str x) (.str x)
 | lst {a:Addr} {xs:List V} {ds:List W}:eC K H a xs->aF K ρ H xs ds->Dw K ρ H (.ref a) (.list ds)
 | tup {a:Addr} {xs:List V} {ds:List W}:H a=some (.tup xs)->aF K ρ H xs ds->Dw K ρ H (.ref a) (.tuple ds)
 | ref {a:Addr} {n:Nat}:ρ[n]?=some a->Dw K ρ H (.ref a) (.ref n)
inductive aF (K:Frag) (ρ:List Addr) (H:Hp):List V->List W->Prop
 | nil:aF K ρ H [] []
 | cons {v:V} {vs:List V} {d:W} {ds:List W}:Dw K ρ H v d->aF K ρ H vs ds->aF K ρ H (v::vs) (d::ds)
end
theorem Dw.mapG {K:Frag} {ρ ρ':List Addr} {H H':Hp} (hs:∀ a xs,eC K H a xs->eC K H' a xs) (ht:∀ a xs,H a=some (.tup xs)->H' a=some (.tup xs)) (hr:∀ (n:Nat) (a:Addr),ρ[n]?=some a->ρ'[n]?=some a) {v:V} {d:W} (h:Dw K ρ H v d):Dw K ρ' H' v d:=
 Dw.rec (motive_1:=λ v d _=>Dw K ρ' H' v d) (motive_2:=λ vs ds _=>aF K ρ' H' vs ds) .non .bl .int .str (λ q _ ih=>.lst (hs _ _ q) ih) (λ q _ ih=>.tup (ht _ _ q) ih) (λ e=>.ref (hr _ _ e)) .nil (λ _ _ a b=>.cons a b) h
theorem aF.ind {K:Frag} {ρ:List Addr} {H:Hp} {M:List V->List W->Prop} (h0:M [] []) (h1:∀ v vs d ds,Dw K ρ H v d->M vs ds->M (v::vs) (d::ds)) {vs:List V} {ds:List W} (h:aF K ρ H vs ds):M vs ds:=
 aF.rec (motive_1:=λ _ _ _=>True) (motive_2:=λ vs ds _=>M vs ds) trivial (λ _=>trivial) (λ _=>trivial) (λ _=>trivial) (λ _ _ _=>trivial) (λ _ _ _=>trivial) (λ _=>trivial) h0 (λ a _ _ ih=>h1 _ _ _ _ a ih) h
theorem Dw.same {K:Frag} {ρ:List Addr} {H H':Hp} (g:bB H H') {v:V} {d:W} (h:Dw K ρ H v d):Dw K ρ H' v d:=h.mapG (λ _ _ q=>g.seq q) (λ _ _ q=>g _ _ q) λ _ _ e=>e
theorem aF.mapA {K:Frag} {ρ ρ':List Addr} {H H':Hp} (f:∀ v d,Dw K ρ H v d->Dw K ρ' H' v d) {vs:List V} {ds:List W} (h:aF K ρ H vs ds):aF K ρ' H' vs ds:=h.ind (M:=λ vs ds=>aF K ρ' H' vs ds) .nil λ _ _ _ _ a b=>.cons (f _ _ a) b
theorem aF.same {K:Frag} {ρ:List Addr} {H H':Hp} (g:bB H H') {vs:List V} {ds:List W} (h:aF K ρ H vs ds):aF K ρ H' vs ds:=h.mapA λ _ _ a=>a.same g
mutual
noncomputable def W.py:W->Option PyData
 | .none=>some .none
 | .bool b=>some (.bool b)
 | .int i=>some (.int i)
 | .str x=>some (.str x)
 | .list ds=>(W.pys ds).map .list
 | .tuple ds=>(W.pys ds).map .tuple
 | .ref _=>Option.none
noncomputable def W.pys:List W->Option (List PyData)
 | []=>some []
 | d::ds=>(W.py d).bind λ x=>(W.pys ds).map (x::·)
end
theorem Dw.dp {K:Frag} {ρ:List Addr} {H:Hp} {v:V} {d:W} {x:PyData} (h:Dw K ρ H v d):d.py=some x->Dp K H v x:=
 Dw.rec (motive_1:=λ v d _=>∀ x,d.py=some x->Dp K H v x) (motive_2:=λ vs ds _=>∀ xs,W.pys ds=some xs->nA K H vs xs)
  (λ x e=>by cases e;exact .non) (λ b x e=>by cases e;exact .bl b) (λ i x e=>by cases e;exact .int i) (λ y x e=>by cases e;exact .str y)
  (λ q _ ih x e=>by
   obtain ⟨xs,e1,rfl⟩:=oM e
   exact .lst q (ih _ e1))
  (λ q _ ih x e=>by
   obtain ⟨xs,e1,rfl⟩:=oM e
   exact .tup (gW.of q) (ih _ e1))
  (λ _ x e=>by cases e) (λ xs e=>by cases e;exact .nil)
  (λ _ _ ih1 ih2 xs e=>by
   obtain ⟨x,e1,e⟩:=oB e
   obtain ⟨ys,e2,rfl⟩:=oM e
   exact .cons (ih1 _ e1) (ih2 _ e2)) h x
inductive Sl where
 | no
 | val (d:W)
 | own (ds:List W)
noncomputable abbrev DS:=List Sl
noncomputable def vy (K:Frag) (ρ:List Addr) (G H:Hp):Sl->Option V->Prop
 | .no,_=>True
 | .val d,o=>∃ v,o=some v/\Dw K ρ G v d
 | .own ds,o=>∃ p vs,o=some (.ref p)/\G p=none/\H p=some (.lst vs)/\aF K ρ G vs ds
noncomputable def nT (H:Hp) (b:Addr):Prop:=H b≠none/\∀ xs,H b≠some (.tup xs)
theorem nT.of {H:Hp} {b:Addr} {o:HO} (h:H b=some o) (n:∀ xs,o≠.tup xs):nT H b:=⟨by rw [h];exact nofun,λ xs z=>n xs (by rw [h] at z;cases z;rfl)⟩
theorem nT.l {H:Hp} {b:Addr} {vs:List V} (h:H b=some (.lst vs)):nT H b:=.of h λ _ z=>by cases z
theorem nT.same {H H':Hp} {b:Addr} (x:nT H b) (s:bB H H'):nT H' b:=by
 cases q:H b with
 | none=>exact absurd q x.1
 | some o=>exact .of (s b o q) λ xs z=>x.2 xs (by rw [q,z])
structure Gr (G H G' H':Hp):Prop where
 g:bB G G'
 h:bB H H'
 s:bB G' H'
 n:∀ b,nT H b->G b=none->G' b=none
theorem sE {H H':Hp} (s:bB H H') {b:Addr} (h:H b≠none):H' b≠none:=λ e=>by
 cases q:H b with
 | none=>exact h q
 | some o=>
  have:=s b o q;rw [e] at this;cases this
theorem dX {G H:Hp} (s:bB G H) {b:Addr} (h:H b=none):G b=none:=by
 cases q:G b with
 | none=>rfl
 | some o=>
  have:=s b o q;rw [h] at this;cases this
theorem Gr.refl {G H:Hp} (s:bB G H):Gr G H G H:=⟨.refl _,.refl _,s,λ _ _ h=>h⟩
theorem Gr.trans {G H G1 H1 G2 H2:Hp} (a:Gr G H G1 H1) (b:Gr G1 H1 G2 H2):Gr G H G2 H2:=
 ⟨a.g.trans b.g,a.h.trans b.h,b.s,λ c h1 h2=>b.n c (h1.same a.h) (a.n c h1 h2)⟩
theorem qy {G H':Hp} {p:Addr} {o:HO} (s:bB G H') (h:H' p=some o):bB (cE G p o) H':=λ b u e=>by
 by_cases hb:b=p
 . subst hb;rw [aG] at e;cases e;exact h
 . rw [aM hb] at e;exact s _ _ e
theorem Gr.new {G H G' H':Hp} {p:Addr} {o:HO} (a:Gr G H G' H') (h0:H p=none) (g0:G' p=none) (h:H' p=some o):Gr G H (cE G' p o) H':=
 ⟨a.g.trans (kM g0 o),a.h,qy a.s h,λ b h1 h2=>by
  rw [aM (λ e=>h1.1 (by rw [e];exact h0))];exact a.n b h1 h2⟩
theorem Gr.nw {G H H':Hp} {p:Addr} {o:HO} (s:bB G H) (n:Nw H H' p o):Gr G H (cE G p o) H':=
 Gr.new ⟨.refl _,n.1,s.trans n.1,λ _ _ h=>h⟩ n.2.1 (dX s n.2.1) n.2.2
theorem Gr.nwO {G H H':Hp} {p:Addr} {o:HO} (s:bB G H) (n:Nw H H' p o):Gr G H G H':=⟨.refl _,n.1,s.trans n.1,λ _ _ h=>h⟩
structure Rl (K:Frag) (ρ:List Addr) (G H:Hp) (δ:DS) (σ:St):Prop where
 sub:bB G H
 len:δ.length=σ.length
 sl:∀ (i:Nat) s,δ[i]?=some s->∃ o,σ[i]?=some o/\vy K ρ G H s o
 apart:∀ (i j:Nat) p ds es,δ[i]?=some (.own ds)->δ[j]?=some (.own es)->σ[i]?=some (some (.ref p))->σ[j]?=some (some (.ref p))->i=j
theorem vy.grow {K:Frag} {ρ:List Addr} {G H G' H':Hp} (g:Gr G H G' H') {s:Sl} {o:Option V} (h:vy K ρ G H s o):vy K ρ G' H' s o:=by
 cases s with
 | no=>exact trivial
 | val d=>
  obtain ⟨v,e,h⟩:=h;exact ⟨v,e,h.same g.g⟩
 | own ds=>
  obtain ⟨p,vs,e,h1,h2,h3⟩:=h;exact ⟨p,vs,e,g.n p (.l h2) h1,g.h _ _ h2,h3.same g.g⟩
theorem Rl.grow {K:Frag} {ρ:List Addr} {G H G' H':Hp} {δ:DS} {σ:St} (R:Rl K ρ G H δ σ) (g:Gr G H G' H'):Rl K ρ G' H' δ σ:=
 ⟨g.s,R.len,λ i s e=>by
  obtain ⟨o,h1,h2⟩:=R.sl i s e;exact ⟨o,h1,h2.grow g⟩,R.apart⟩
theorem fA {α:Type} {xs:List α} {i j:Nat} {a b:α} (h:(xs.set i a)[j]?=some b):(i=j/\a=b/\j<xs.length)∨(i≠j/\xs[j]?=some b):=by
 by_cases e:i=j
 . subst e;rw [List.getElem?_set] at h;simp only [Pj] at h;split at h
   . rename_i hl;cases h;exact .inl ⟨rfl,rfl,hl⟩
   . cases h
 . rw [OU e] at h;exact .inr ⟨e,h⟩
theorem lW {α:Type} {xs:List α} {i:Nat} {a:α} (h:i<xs.length):(xs.set i a)[i]?=some a:=by
 rw [List.getElem?_set];simp [h]
noncomputable def gF (δ':DS) (σ':St) (δ:DS) (σ:St):Prop:=∀ (i:Nat) ds p,δ'[i]?=some (.own ds)->σ'[i]?=some (some (.ref p))->∃ es,δ[i]?=some (.own es)/\σ[i]?=some (some (.ref p))
theorem gF.refl (δ:DS) (σ:St):gF δ σ δ σ:=λ i ds p h1 h2=>⟨ds,h1,h2⟩
theorem gF.trans {δ δ1 δ2:DS} {σ σ1 σ2:St} (a:gF δ2 σ2 δ1 σ1) (b:gF δ1 σ1 δ σ):gF δ2 σ2 δ σ:=λ i ds p h1 h2=>by
 obtain ⟨es,h3,h4⟩:=a i ds p h1 h2;exact b i es p h3 h4
theorem ky {δ:DS} {σ:St} {i:Nat} {d:W} {v:V} (h:δ.length=σ.length):gF (δ.set i (.val d)) (σ.set i (some v)) δ σ:=λ j ds p h1 h2=>by
 rcases fA h1 with ⟨_,e,_⟩ | ⟨ne,h1⟩
 . cases e
 . rw [OU ne] at h2;exact ⟨ds,h1,h2⟩
theorem Rl.set {K:Frag} {ρ:List Addr} {G H:Hp} {δ:DS} {σ:St} {i:Nat} {d:W} {v:V} (R:Rl K ρ G H δ σ) (h:Dw K ρ G v d):Rl K ρ G H (δ.set i (.val d)) (σ.set i (some v)):=
 ⟨R.sub,by rw [Pu,Pu];exact R.len,λ j s e=>by
  rcases fA e with ⟨rfl,rfl,hl⟩ | ⟨ne,e⟩
  . exact ⟨_,lW (by rw [<-R.len];exact hl),v,rfl,h⟩
  . rw [OU ne];exact R.sl j s e,λ j k p ds es h1 h2 h3 h4=>by
  obtain ⟨ds',a1,a2⟩:=ky (v:=v) R.len j ds p h1 h3;obtain ⟨es',b1,b2⟩:=ky (v:=v) R.len k es p h2 h4;exact R.apart j k p _ _ a1 b1 a2 b2⟩
theorem Rl.setO {K:Frag} {ρ:List Addr} {G H:Hp} {δ:DS} {σ:St} {i:Nat} {ds:List W} {p:Addr} {vs:List V} (R:Rl K ρ G H δ σ) (g0:G p=none) (h:H p=some (.lst vs)) (hd:aF K ρ G vs ds)
 (hn:∀ (j:Nat) es,j≠i->δ[j]?=some (.own es)->σ[j]?≠some (some (.ref p))):Rl K ρ G H (δ.set i (.own ds)) (σ.set i (some (.ref p))):=
 ⟨R.sub,by rw [Pu,Pu];exact R.len,λ j s e=>by
  rcases fA e with ⟨rfl,rfl,hl⟩ | ⟨ne,e⟩
  . exact ⟨_,lW (by rw [<-R.len];exact hl),p,vs,rfl,g0,h,hd⟩
  . rw [OU ne];exact R.sl j s e,λ j k q ds' es' h1 h2 h3 h4=>by
  rcases fA h1 with ⟨rfl,_,hl⟩ | ⟨ne,h1⟩ <;> rcases fA h2 with ⟨rfl,_,hl2⟩ | ⟨ne2,h2⟩
  . rfl
  . rw [lW (by rw [<-R.len];exact hl)] at h3;rw [OU ne2] at h4;cases h3;exact absurd h4 (hn k es' (Qu ne2) h2)
  . rw [lW (by rw [<-R.len];exact hl2)] at h4;rw [OU ne] at h3;cases h4;exact absurd h3 (hn j ds' (Qu ne) h1)
  . rw [OU ne] at h3;rw [OU ne2] at h4;exact R.apart j k q _ _ h1 h2 h3 h4⟩
noncomputable def DE (K:Frag) (ρ:List Addr) (t:TE) (f:DS->Option W):Prop:=
 ∀ (G:Hp) (σ:St) (H:Hp) (δ:DS) (d:W) (Q:VK),Rl K ρ G H δ σ->f δ=some d->(∀ v G' H',Gr G H G' H'->Dw K ρ G' v d->Q v H')->t σ H Q
noncomputable def DA (K:Frag) (ρ:List Addr) (t:TA) (f:DS->Option (List W)):Prop:=
 ∀ (G:Hp) (σ:St) (H:Hp) (δ:DS) (ds:List W) (Q:List V->Hp->Prop),Rl K ρ G H δ σ->f δ=some ds->(∀ vs G' H',Gr G H G' H'->aF K ρ G' vs ds->Q vs H')->t σ H Q
noncomputable def DT (K:Frag) (ρ:List Addr) (t:TT) (f:DS->Option Bool):Prop:=
 ∀ (G:Hp) (σ:St) (H:Hp) (δ:DS) (b:Bool) (Q:Bool->Hp->Prop),Rl K ρ G H δ σ->f δ=some b->(∀ G' H',Gr G H G' H'->Q b H')->t σ H Q
noncomputable def DO (K:Frag) (ρ:List Addr) (t:TE) (f:DS->Option (List W)):Prop:=
 ∀ (G:Hp) (σ:St) (H:Hp) (δ:DS) (ds:List W) (Q:VK),Rl K ρ G H δ σ->f δ=some ds->(∀ p vs G' H',Gr G H G' H'->H p=none->G' p=none->H' p=some (.lst vs)->aF K ρ G' vs ds->Q (.ref p) H')->t σ H Q
noncomputable def Pk (K:Frag) (ρ:List Addr) (G H:Hp) (v:V) (d:W):Prop:=Dw K ρ G v d∨∃ p vs ds,v=.ref p/\d=.list ds/\H p=some (.lst vs)/\aF K ρ G vs ds
noncomputable def DK (K:Frag) (ρ:List Addr) (t:TE) (f:DS->Option W):Prop:=
 ∀ (G:Hp) (σ:St) (H:Hp) (δ:DS) (d:W) (Q:VK),Rl K ρ G H δ σ->f δ=some d->(∀ v G' H',Gr G H G' H'->Pk K ρ G' H' v d->Q v H')->t σ H Q
section
variable {K:Frag} {ρ:List Addr}
theorem Pk.dp {G H:Hp} {v:V} {d:W} (s:bB G H) (h:Pk K ρ G H v d):Dw K ρ H v d:=by
 rcases h with h | ⟨p,vs,ds,rfl,rfl,h1,h2⟩
 . exact h.same s
 . exact .lst (eC.of h1) (h2.same s)
theorem Pk.grow {G H G' H':Hp} {v:V} {d:W} (g:Gr G H G' H') (h:Pk K ρ G H v d):Pk K ρ G' H' v d:=by
 rcases h with h | ⟨p,vs,ds,rfl,rfl,h1,h2⟩
 . exact .inl (h.same g.g)
 . exact .inr ⟨p,vs,ds,rfl,rfl,g.h _ _ h1,h2.same g.g⟩
theorem DE.dk {t:TE} {f:DS->Option W} (h:DE K ρ t f):DK K ρ t f:=λ G σ H δ d Q R e q=>h G σ H δ d Q R e λ v G' H' g dv=>q v G' H' g (.inl dv)
noncomputable def cn (f:DS->Option (List W)):DS->Option W:=λ δ=>(f δ).map .list
theorem DO.de {t:TE} {f:DS->Option (List W)} (h:DO K ρ t f):DE K ρ t (cn f):=λ G σ H δ d Q R e q=>by
 obtain ⟨ds,e1,rfl⟩:=oM e
 exact h G σ H δ ds Q R e1 λ p vs G' H' g h0 g0 hh da=>q _ _ H' (g.new h0 g0 hh) (.lst (eC.of aG) (da.same (kM g0 _)))
noncomputable def ae (i:Nat):DS->Option W:=λ δ=>match δ[i]? with
 | some (.val d)=>some d
 | _=>none
theorem Gw {i:Nat}:DE K ρ (Bn i) (ae i):=λ G σ H δ d Q R e q=>by
 unfold ae at e;split at e
 . rename_i d' h;cases e;obtain ⟨o,h1,v,h2,h3⟩:=R.sl i _ h;exact ⟨v,by rw [h1,h2],q v G H (.refl R.sub) h3⟩
 . cases e
noncomputable def aA (i:Nat):DS->Option W:=λ δ=>match δ[i]? with
 | some (.val d)=>some d
 | some (.own ds)=>some (.list ds)
 | _=>none
theorem Gd {i:Nat}:DK K ρ (Bn i) (aA i):=λ G σ H δ d Q R e q=>by
 unfold aA at e;split at e
 . rename_i d' h;cases e;obtain ⟨o,h1,v,h2,h3⟩:=R.sl i _ h;exact ⟨v,by rw [h1,h2],q v G H (.refl R.sub) (.inl h3)⟩
 . rename_i ds h;cases e;obtain ⟨o,h1,p,vs,h2,h3,h4,h5⟩:=R.sl i _ h;exact ⟨.ref p,by rw [h1,h2],q _ G H (.refl R.sub) (.inr ⟨p,vs,ds,rfl,rfl,h4,h5⟩)⟩
 . cases e
noncomputable def dC (d:W):DS->Option W:=λ _=>some d
theorem Bs {v:V} {d:W} (h:∀ G,Dw K ρ G v d):DE K ρ (tC v) (dC d):=λ G σ H δ d' Q R e q=>by
 cases e;exact q v G H (.refl R.sub) (h G)
theorem Fm {i:Int}:DE K ρ (tC (.int i)) (dC (.int i)):=Bs λ _=>.int i
theorem JF {b:Bool}:DE K ρ (tC (.bl b)) (dC (.bool b)):=Bs λ _=>.bl b
theorem Gn {x:Str}:DE K ρ (tC (.str x)) (dC (.str x)):=Bs λ _=>.str x
theorem GF:DE K ρ (tC .non) (dC .none):=Bs λ _=>.non
noncomputable def DR (K:Frag) (ρ:List Addr) (r:R2) (g:W->W->Option W):Prop:=
 ∀ (G H:Hp) (x y:V) (d e c:W) (Q:VK),bB G H->Pk K ρ G H x d->Dw K ρ G y e->g d e=some c->(∀ v G' H',Gr G H G' H'->Dw K ρ G' v c->Q v H')->r x y H Q
noncomputable def aB (g:W->W->Option W) (fa fb:DS->Option W):DS->Option W:=λ δ=>(fa δ).bind λ x=>(fb δ).bind λ y=>g x y
theorem Hv {r:R2} {ta tb:TE} {fa fb:DS->Option W} {g:W->W->Option W} (hr:DR K ρ r g) (ha:DK K ρ ta fa) (hb:DE K ρ tb fb):DE K ρ (sX r ta tb) (aB g fa fb):=λ G σ H δ d Q R e q=>by
 obtain ⟨x,ex,e⟩:=oB e
 obtain ⟨y,ey,e⟩:=oB e
 exact ha G σ H δ x _ R ex λ v G1 H1 g1 dv=>hb G1 σ H1 δ y _ (R.grow g1) ey λ u G2 H2 g2 du=>hr G2 H2 v u x y d Q g2.s (dv.grow g2) du e λ w G3 H3 g3 dw=>q w G3 H3 (g1.trans (g2.trans g3)) dw
noncomputable def DB (K:Frag) (ρ:List Addr) (r:R2) (g:W->W->Option Bool):Prop:=
 ∀ (H:Hp) (x y:V) (d e:W) (b:Bool) (Q:VK),Dw K ρ H x d->Dw K ρ H y e->g d e=some b->Q (.bl b) H->r x y H Q
noncomputable def aC (g:W->W->Option Bool) (fa fb:DS->Option W):DS->Option Bool:=λ δ=>(fa δ).bind λ x=>(fb δ).bind λ y=>g x y
noncomputable def dB (f:DS->Option Bool):DS->Option W:=λ δ=>(f δ).map .bool
theorem qO {r:R2} {ta tb:TE} {fa fb:DS->Option W} {g:W->W->Option Bool} (hr:DB K ρ r g) (ha:DK K ρ ta fa) (hb:DK K ρ tb fb) {G:Hp} {σ:St} {H:Hp} {δ:DS} {b:Bool} {Q:VK} (R:Rl K ρ G H δ σ) (e:aC g fa fb δ=some b) (q:∀ G' H',Gr G H G' H'->Q (.bl b) H'):sX r ta tb σ H Q:=by
 obtain ⟨x,ex,e⟩:=oB e
 obtain ⟨y,ey,e⟩:=oB e
 exact ha G σ H δ x _ R ex λ v G1 H1 g1 dv=>hb G1 σ H1 δ y _ (R.grow g1) ey λ u G2 H2 g2 du=>hr H2 v u x y b Q ((dv.grow g2).dp g2.s) (du.dp g2.s) e (q G2 H2 (g1.trans g2))
theorem DN {r:R2} {ta tb:TE} {fa fb:DS->Option W} {g:W->W->Option Bool} (hr:DB K ρ r g) (ha:DK K ρ ta fa) (hb:DK K ρ tb fb):DE K ρ (sX r ta tb) (dB (aC g fa fb)):=λ G σ H δ d Q R e q=>by
 obtain ⟨b,e1,rfl⟩:=oM e
 exact qO hr ha hb R e1 λ G' H' g=>q _ G' H' g (.bl b)
theorem FG {r:R2} {ta tb:TE} {fa fb:DS->Option W} {g:W->W->Option Bool} (hr:DB K ρ r g) (ha:DK K ρ ta fa) (hb:DK K ρ tb fb):DT K ρ (mW (sX r ta tb)) (aC g fa fb):=λ G σ H δ b Q R e q=>
 qO hr ha hb R e λ G' H' g=>⟨b,rfl,q G' H' g⟩
noncomputable def AB:W->Option Bool
 | .bool b=>some b
 | _=>none
noncomputable def pU (f:DS->Option W):DS->Option Bool:=λ δ=>(f δ).bind AB
theorem v3 {d:W} {b:Bool} (h:AB d=some b):d=.bool b:=by
 cases d <;> first | (cases h;rfl) | cases h
theorem F3 {t:TE} {f:DS->Option W} (h:DE K ρ t f):DT K ρ (tB t) (pU f):=λ G σ H δ b Q R e q=>by
 obtain ⟨x,ex,e⟩:=oB e
 cases v3 e;exact h G σ H δ _ _ R ex λ v G1 H1 g1 dv=>by
  cases dv;exact ⟨b,rfl,q G1 H1 g1⟩
noncomputable def lX (f g:DS->Option Bool):DS->Option Bool:=λ δ=>(f δ).bind λ b=>if b=true then g δ else some false
noncomputable def AA (f g:DS->Option Bool):DS->Option Bool:=λ δ=>(f δ).bind λ b=>if b=true then some true else g δ
noncomputable def wR (f:DS->Option Bool):DS->Option Bool:=λ δ=>(f δ).map (!·)
theorem GC {t u:TT} {f g:DS->Option Bool} (h1:DT K ρ t f) (h2:DT K ρ u g):DT K ρ (G8 t u) (lX f g):=λ G σ H δ b Q R e q=>by
 obtain ⟨x,ex,e⟩:=oB e
 refine h1 G σ H δ x _ R ex λ G1 H1 g1=>?_;cases x with
 | true=>exact h2 G1 σ H1 δ b Q (R.grow g1) e λ G2 H2 g2=>q G2 H2 (g1.trans g2)
 | false=>cases e;exact q G1 H1 g1
theorem JW {t u:TT} {f g:DS->Option Bool} (h1:DT K ρ t f) (h2:DT K ρ u g):DT K ρ (LU t u) (AA f g):=λ G σ H δ b Q R e q=>by
 obtain ⟨x,ex,e⟩:=oB e
 refine h1 G σ H δ x _ R ex λ G1 H1 g1=>?_;cases x with
 | false=>exact h2 G1 σ H1 δ b Q (R.grow g1) e λ G2 H2 g2=>q G2 H2 (g1.trans g2)
 | true=>cases e;exact q G1 H1 g1
theorem Eo {t:TT} {f:DS->Option Bool} (h:DT K ρ t f):DT K ρ (ET t) (wR f):=λ G σ H δ b Q R e q=>by
 obtain ⟨x,ex,rfl⟩:=oM e
 exact h G σ H δ x _ R ex q
noncomputable def Jx (f g:DS->Option W):DS->Option W:=λ δ=>(f δ).bind λ x=>(AB x).bind λ b=>if b=true then g δ else some (.bool false)
noncomputable def Ma (f g:DS->Option W):DS->Option W:=λ δ=>(f δ).bind λ x=>(AB x).bind λ b=>if b=true then some (.bool true) else g δ
noncomputable def HF (f:DS->Option W):DS->Option W:=λ δ=>(f δ).bind λ x=>(AB x).map λ b=>.bool (!b)
noncomputable def GW (c:DS->Option Bool) (f g:DS->Option W):DS->Option W:=λ δ=>(c δ).bind λ b=>if b=true then f δ else g δ
theorem II {tc:TT} {t u:TE} {c:DS->Option Bool} {f g:DS->Option W} (hc:DT K ρ tc c) (h1:DE K ρ t f) (h2:DE K ρ u g):DE K ρ (Lc tc t u) (GW c f g):=λ G σ H δ d Q R e q=>by
 obtain ⟨b,eb,e⟩:=oB e
 refine hc G σ H δ b _ R eb λ G1 H1 g1=>?_;cases b with
 | true=>exact h1 G1 σ H1 δ d Q (R.grow g1) e λ v G2 H2 g2 dv=>q v G2 H2 (g1.trans g2) dv
 | false=>exact h2 G1 σ H1 δ d Q (R.grow g1) e λ v G2 H2 g2 dv=>q v G2 H2 (g1.trans g2) dv
noncomputable def aj:DS->Option (List W):=λ _=>some []
noncomputable def ac (f:DS->Option W) (g:DS->Option (List W)):DS->Option (List W):=λ δ=>(f δ).bind λ d=>(g δ).map (d::·)
theorem FW:DA K ρ kT aj:=λ G σ H δ ds Q R e q=>by
 cases e;exact q [] G H (.refl R.sub) .nil
theorem Ca {t:TE} {u:TA} {f:DS->Option W} {g:DS->Option (List W)} (h1:DE K ρ t f) (h2:DA K ρ u g):DA K ρ (iz t u) (ac f g):=λ G σ H δ ds Q R e q=>by
 obtain ⟨d,ed,e⟩:=oB e
 obtain ⟨es,ee,rfl⟩:=oM e
 exact h1 G σ H δ d _ R ed λ v G1 H1 g1 dv=>h2 G1 σ H1 δ es _ (R.grow g1) ee λ vs G2 H2 g2 da=>q _ G2 H2 (g1.trans g2) (.cons (dv.same g2.g) da)
theorem aF.length {G:Hp} {vs:List V} {ds:List W} (h:aF K ρ G vs ds):vs.length=ds.length:=h.ind (M:=λ vs ds=>vs.length=ds.length) rfl λ _ _ _ _ _ e=>OI (· + 1) e
theorem aF.get {G:Hp} {vs:List V} {ds:List W} {i:Nat} {d:W} (h:aF K ρ G vs ds):ds[i]?=some d->∃ v,vs[i]?=some v/\Dw K ρ G v d:=
 h.ind (M:=λ vs ds=>∀ (i:Nat) d,ds[i]?=some d->∃ v,vs[i]?=some v/\Dw K ρ G v d) (λ _ _ e=>by cases e) (λ v _ _ _ a ih i d e=>by
  cases i with
  | zero=>cases e;exact ⟨v,rfl,a⟩
  | succ i=>exact ih i d e) i d
theorem aF.app {G:Hp} {vs ws:List V} {ds es:List W} (h:aF K ρ G vs ds) (h':aF K ρ G ws es):aF K ρ G (vs++ws) (ds++es):=h.ind (M:=λ vs ds=>aF K ρ G (vs++ws) (ds++es)) h' λ _ _ _ _ a ih=>.cons a ih
theorem aF.drop {G:Hp} {vs:List V} {ds:List W} (n:Nat) (h:aF K ρ G vs ds):aF K ρ G (vs.drop n) (ds.drop n):=by
 induction n generalizing vs ds with
 | zero=>exact h
 | succ n ih=>
  cases h with
  | nil=>exact .nil
  | cons _ t=>exact ih t
theorem aF.take {G:Hp} {vs:List V} {ds:List W} (n:Nat) (h:aF K ρ G vs ds):aF K ρ G (vs.take n) (ds.take n):=by
 induction n generalizing vs ds with
 | zero=>exact .nil
 | succ n ih=>
  cases h with
  | nil=>exact .nil
  | cons a t=>exact .cons a (ih t)
theorem aF.set {G:Hp} {v:V} {d:W} (h:Dw K ρ G v d):∀ {vs:List V} {ds:List W} (n:Nat),aF K ρ G vs ds->aF K ρ G (vs.set n v) (ds.set n d):=λ {vs ds} n q=>by
 induction n generalizing vs ds with
 | zero=>
  cases q with
  | nil=>exact .nil
  | cons _ t=>exact .cons h t
 | succ n ih=>
  cases q with
  | nil=>exact .nil
  | cons a t=>exact .cons a (ih t)
theorem aF.ints {G:Hp}:∀ (ns:List Int),aF K ρ G (ns.map V.int) (ns.map .int)
 | []=>.nil
 | n::r=>.cons (.int n) (aF.ints r)
noncomputable def aR (f:DS->Option (List W)):DS->Option W:=λ δ=>(f δ).bind λ ds=>if ds.length<=sizeLine then some (.tuple ds) else none
theorem Ee {t:TA} {f:DS->Option (List W)} (h:DA K ρ t f):DE K ρ (yd t) (aR f):=λ G σ H δ d Q R e q=>by
 obtain ⟨ds,e1,e⟩:=oB e
 split at e
 . rename_i hz;cases e;refine h G σ H δ ds _ R e1 λ vs G1 H1 g1 da=>⟨by rw [da.length];exact hz,λ p H' n=>?_⟩
   have g2:=Gr.nw g1.s n;exact q _ _ H' (g1.trans g2) (.tup aG (da.same g2.g))
 . cases e
noncomputable def ff (f:DS->Option (List W)):DS->Option (List W):=λ δ=>(f δ).bind λ ds=>if ds.length<=sizeLine then some ds else none
theorem EW {t:TA} {f:DS->Option (List W)} (h:DA K ρ t f):DO K ρ (yU t) (ff f):=λ G σ H δ ds Q R e q=>by
 obtain ⟨ds',e1,e⟩:=oB e
 split at e
 . rename_i hz;cases e;refine h G σ H δ _ _ R e1 λ vs G1 H1 g1 da=>⟨by rw [da.length];exact hz,λ p H' n=>?_⟩
   exact q p vs G1 H' (g1.trans (.nwO g1.s n)) (by
    cases hp:H p with
    | none=>rfl
    | some o=>exact absurd (g1.h _ _ hp) (by rw [n.2.1];simp)) (dX g1.s n.2.1) n.2.2 da
 . cases e
end
section
variable {X:Cx} {tg:Expr}
noncomputable def xU (K:Frag) (tl:TE):TI:=λ σ H R=>tl σ H λ x H1=>∃ a,x=.ref a/\(((∃ xs,eC K H1 a xs)/\R (M4 K a) H1)∨((∃ xs,gW K H1 a xs)/\R (LH K a) H1))
theorem EJ {l:Expr} {tl:TE} (hl:PE X l tl):PI X tg l (xU X.K tl):=by
 intro pins s σ H R I h;refine bY (hl pins s σ H _ I h) λ v s1 hq0=>?_;obtain ⟨x,H1,I1,r1,q1⟩:=hq0;obtain ⟨a,e,⟨⟨xs,hq⟩,q⟩ | ⟨⟨xs,hq⟩,q⟩⟩:=q1;all_goals
  subst e;cases r1
 . obtain ⟨its,rv,p,hz⟩:=I1.list hq;refine wpAny_pyIter_list p.isList ?_;refine ⟨s1.heap.objs.size,[s1.heap.objs.size],_,_,H1,rfl,I1.kept (t':=s1.toks) λ b o e=>OM _ e,xz a _,⟨_,Pf _ rfl,rfl,rfl⟩,λ b hb=>?_,q⟩;have e:b=s1.heap.objs.size:=by simpa using hb
   subst e;exact I1.fpOk (OB _) (I1.hok.fresh (OB _))
 . obtain ⟨its,rv,p,hz⟩:=I1.tuple hq;refine wpAny_pyIter_tuple (show s1.heap.IsTuple a its.toArray from p) ?_;refine ⟨s1.heap.objs.size,[s1.heap.objs.size],_,_,H1,rfl,I1.kept (t':=s1.toks) λ b o e=>OM _ e,uM a _,⟨_,Pf _ rfl,rfl,rfl⟩,λ b hb=>?_,q⟩;have e:b=s1.heap.objs.size:=by simpa using hb
   subst e;exact I1.fpOk (OB _) (I1.hok.fresh (OB _))
theorem Kj {K:Frag} (h:X.K=K) {l:Expr} {tl:TE} (hl:PE X l tl):PI X tg l (xU K tl):=h▸EJ hl
end
section
variable {K:Frag} {ρ:List Addr}
noncomputable def CT (K:Frag) (ρ:List Addr) (J:It) (ds:List W) (i:Nat) (G1 H1:Hp):Prop:=
 (∀ d,ds[i]?=some d->J.go i H1/\∀ x H',J.yld i H1 x H'->∃ G',Gr G1 H1 G' H'/\Dw K ρ G' x d)/\(ds.length<=i->J.stop i H1)
noncomputable def Nb (K:Frag) (ρ:List Addr) (J:It) (G H:Hp) (ds:List W):Prop:=∀ i G1 H1,Gr G H G1 H1->CT K ρ J ds i G1 H1
noncomputable def Iy (K:Frag) (ρ:List Addr) (J:It) (G:Hp) (ds:List W):Prop:=∀ i G1 H1,bB G G1->bB G1 H1->CT K ρ J ds i G1 H1
theorem Iy.d {J:It} {G H:Hp} {ds:List W} (h:Iy K ρ J G ds):Nb K ρ J G H ds:=λ i G1 H1 g=>h i G1 H1 g.g g.s
noncomputable def DI (K:Frag) (ρ:List Addr) (wi:TI) (f:DS->Option (List W)):Prop:=
 ∀ (G:Hp) (σ:St) (H:Hp) (δ:DS) (ds:List W) (R':It->Hp->Prop),Rl K ρ G H δ σ->f δ=some ds->(∀ J G' H',Gr G H G' H'->Iy K ρ J G' ds->R' J H')->wi σ H R'
noncomputable def K0 (K:Frag) (ρ:List Addr) (wi:TI) (f:DS->Option (List W)):Prop:=
 ∀ (G:Hp) (σ:St) (H:Hp) (δ:DS) (ds:List W) (R':It->Hp->Prop),Rl K ρ G H δ σ->f δ=some ds->(∀ J G' H',Gr G H G' H'->Nb K ρ J G' H' ds->R' J H')->wi σ H R'
theorem DI.k {wi:TI} {f:DS->Option (List W)} (h:DI K ρ wi f):K0 K ρ wi f:=λ G σ H δ ds R' R e q=>h G σ H δ ds R' R e λ J G' H' g i=>q J G' H' g i.d
noncomputable def vm:W->Option (List W)
 | .list ds=>some ds
 | .tuple ds=>some ds
 | _=>none
noncomputable def bX (f:DS->Option W):DS->Option (List W):=λ δ=>(f δ).bind vm
theorem sf {G1 H1:Hp} {a:Addr} {xs:List V} {ds:List W} {i:Nat} (s:bB G1 H1) (q:eC K H1 a xs) (da:aF K ρ G1 xs ds):CT K ρ (M4 K a) ds i G1 H1:=by
 refine ⟨λ d hd=>?_,λ h=>⟨xs,q,by rw [da.length];exact h⟩⟩;obtain ⟨v,h1,h2⟩:=da.get hd;refine ⟨⟨xs,v,q,h1⟩,λ x H' y=>?_⟩;obtain ⟨rfl,y⟩:=y;have:=y xs q;rw [h1] at this;cases this;exact ⟨G1,.refl s,h2⟩
theorem yD {G1 H1:Hp} {a:Addr} {xs:List V} {ds:List W} {i:Nat} (s:bB G1 H1) (q:gW K H1 a xs) (da:aF K ρ G1 xs ds):CT K ρ (LH K a) ds i G1 H1:=by
 refine ⟨λ d hd=>?_,λ h=>⟨xs,q,by rw [da.length];exact h⟩⟩;obtain ⟨v,h1,h2⟩:=da.get hd;refine ⟨⟨xs,v,q,h1⟩,λ x H' y=>?_⟩;obtain ⟨rfl,y⟩:=y;have:=y xs q;rw [h1] at this;cases this;exact ⟨G1,.refl s,h2⟩
theorem FC {t:TE} {f:DS->Option W} (h:DE K ρ t f):DI K ρ (xU K t) (bX f):=λ G σ H δ ds R' R e q=>by
 obtain ⟨d,ed,e⟩:=oB e
 refine h G σ H δ d _ R ed λ v G1 H1 g1 dv=>?_;cases dv with
 | lst sq da=>
  cases e;exact ⟨_,rfl,.inl ⟨⟨_,g1.s.seq sq⟩,q _ G1 H1 g1 λ i G2 H2 a b=>sf b ((a.trans b).seq sq) (da.same a)⟩⟩
 | tup sq da=>
  cases e;exact ⟨_,rfl,.inr ⟨⟨_,g1.s.tup (gW.of sq)⟩,q _ G1 H1 g1 λ i G2 H2 a b=>yD b ((a.trans b).tup (gW.of sq)) (da.same a)⟩⟩
 | _=>cases e
theorem C4 {t:TE} {f:DS->Option W} (h:DK K ρ t f):K0 K ρ (xU K t) (bX f):=λ G σ H δ ds R' R e q=>by
 obtain ⟨d,ed,e⟩:=oB e
 refine h G σ H δ d _ R ed λ v G1 H1 g1 dv=>?_;rcases dv with dv | ⟨p,vs,es,rfl,rfl,hp,da⟩
 . cases dv with
   | lst sq da=>
    cases e;exact ⟨_,rfl,.inl ⟨⟨_,g1.s.seq sq⟩,q _ G1 H1 g1 λ i G2 H2 g=>sf g.s ((g.g.trans g.s).seq sq) (da.same g.g)⟩⟩
   | tup sq da=>
    cases e;exact ⟨_,rfl,.inr ⟨⟨_,g1.s.tup (gW.of sq)⟩,q _ G1 H1 g1 λ i G2 H2 g=>yD g.s ((g.g.trans g.s).tup (gW.of sq)) (da.same g.g)⟩⟩
   | _=>cases e
 . cases e;exact ⟨p,rfl,.inl ⟨⟨_,eC.of hp⟩,q _ G1 H1 g1 λ i G2 H2 g=>sf g.s (eC.of (g.h _ _ hp)) (da.same g.g)⟩⟩
noncomputable def gn (lo:Int) (n:Nat):List W:=(List.range n).map λ i=>.int (lo+(i:Nat))
theorem FE {G:Hp} {lo:Int} {n:Nat}:Iy K ρ (K6 lo n) G (gn lo n):=λ i G1 H1 _ s=>by
 refine ⟨λ d hd=>?_,λ h=>show n<=i by simpa [gn] using h⟩;have hi:i<n:=by
  have:=(oG hd).1;simpa [gn] using this
 refine ⟨hi,λ x H' y=>?_⟩;obtain ⟨rfl,rfl⟩:=y;have:d=.int (lo+i):=by
  unfold gn at hd;rw [Pq,List.getElem?_range hi] at hd;cases hd;rfl
 subst this;exact ⟨G1,.refl s,.int _⟩
noncomputable def sY (j:Int):Bool:=decide (-(2^62)<=j)&&decide (j<2^62)
theorem xk {j:Int} (h:sY j=true) : -(2^62)<=j/\j<2^62:=by
 simp only [sY,OL,OX] at h;exact h
theorem Av {j:Int} (h1 : -(2^62)<=j) (h2:j<2^62):sY j=true:=by
 simp only [sY,OL,OX];exact ⟨h1,h2⟩
noncomputable def xf (j:Int):Option (List W):=if sY j=true then some (gn 0 j.toNat) else none
noncomputable def vX:List W->Option (List W)
 | [.int j]=>xf j
 | _=>none
noncomputable def jh (f:DS->Option (List W)):DS->Option (List W):=λ δ=>(f δ).bind vX
theorem AJ {j:Int} {ds:List W} (h:xf j=some ds):(-(2^62)<=j/\j<2^62)/\ds=gn 0 j.toNat:=by
 unfold xf at h;split at h
 . rename_i hc;cases h;exact ⟨xk hc,rfl⟩
 . cases h
theorem dI {G:Hp} {v:V} {i:Int} (h:Dw K ρ G v (.int i)):v=.int i:=by cases h;rfl
theorem yz {G:Hp} {v:V} {i:Str} (h:Dw K ρ G v (.str i)):v=.str i:=by cases h;rfl
theorem CP {G:Hp} {v:V} {i:Bool} (h:Dw K ρ G v (.bool i)):v=.bl i:=by cases h;rfl
theorem v9 {G:Hp} {v:V} (h:Dw K ρ G v .none):v=.non:=by cases h;rfl
theorem EC {G:Hp} {vs:List V} {d:W} (h:aF K ρ G vs [d]):∃ v,vs=[v]/\Dw K ρ G v d:=by
 cases h with
 | cons a b=>cases b;exact ⟨_,rfl,a⟩
theorem zW {ds es:List W} (e:vX ds=some es):∃ j,ds=[.int j]/\xf j=some es:=by
 cases ds with
 | nil=>cases e
 | cons x r=>
  cases x with
  | int j=>
   cases r with
   | nil=>exact ⟨j,rfl,e⟩
   | cons y r=>cases e
  | _=>cases r <;> cases e
theorem Cw {t:TA} {f:DS->Option (List W)} (h:DA K ρ t f):DI K ρ (Dy t) (jh f):=λ G σ H δ ds R' R e q=>by
 obtain ⟨es,ed,e⟩:=oB e
 refine h G σ H δ es _ R ed λ vs G1 H1 g1 da=>?_;obtain ⟨j,rfl,e⟩:=zW e;obtain ⟨hc,rfl⟩:=AJ e;obtain ⟨v,rfl,dv⟩:=EC da;cases dI dv;exact ⟨_,rfl,hc.1,hc.2,q _ G1 H1 g1 FE⟩
noncomputable def Dv (ds:List W):List W:=(List.range ds.length).map λ (i:Nat)=>.tuple [.int (i:Int),ds[i]?.getD .none]
noncomputable def HC (f:DS->Option (List W)):DS->Option (List W):=λ δ=>(f δ).bind λ ds=>match ds with
 | [.list es]=>some (Dv es)
 | _=>none
noncomputable def Ln (ds es:List W):List W:=List.zipWith (λ x y=>.tuple [x,y]) ds es
noncomputable def M5 (f:DS->Option (List W)):DS->Option (List W):=λ δ=>(f δ).bind λ ds=>match ds with
 | [.list a,.list b]=>some (Ln a b)
 | _=>none
noncomputable def DG (K:Frag) (ρ:List Addr) (g:TG) (h:W->DS->Option DS):Prop:=
 ∀ (G H:Hp) (δ:DS) (σ:St) (v:V) (d:W) (δ':DS) (Q:St->Hp->Prop),Rl K ρ G H δ σ->Dw K ρ G v d->h d δ=some δ'->(∀ σ',Rl K ρ G H δ' σ'->gF δ' σ' δ σ->Q σ' H)->g v σ H Q
noncomputable def Ii (K:Frag) (ρ:List Addr) (g:yI) (h:List W->DS->Option DS):Prop:=
 ∀ (G H:Hp) (δ:DS) (σ:St) (vs:List V) (ds:List W) (δ':DS) (Q:St->Hp->Prop),Rl K ρ G H δ σ->aF K ρ G vs ds->h ds δ=some δ'->(∀ σ',Rl K ρ G H δ' σ'->gF δ' σ' δ σ->Q σ' H)->g vs σ H Q
noncomputable def ao (i:Nat):W->DS->Option DS:=λ d δ=>some (δ.set i (.val d))
theorem BP {i:Nat}:DG K ρ (mQ i) (ao i):=λ G H δ σ v d δ' Q R dv e q=>by
 cases e;exact q _ (R.set dv) (ky R.len)
noncomputable def ue:List W->DS->Option DS:=λ ds δ=>match ds with
 | []=>some δ
 | _=>none
noncomputable def iX (h:W->DS->Option DS) (k:List W->DS->Option DS):List W->DS->Option DS:=λ ds δ=>match ds with
 | d::r=>(h d δ).bind (k r)
 | _=>none
theorem BR:Ii K ρ Jl ue:=λ G H δ σ vs ds δ' Q R dv e q=>by
 cases dv with
 | nil=>cases e;exact ⟨rfl,q _ R (.refl _ _)⟩
 | cons _ _=>cases e
theorem A3 {g:TG} {u:yI} {h:W->DS->Option DS} {k:List W->DS->Option DS} (h1:DG K ρ g h) (h2:Ii K ρ u k):Ii K ρ (Di g u) (iX h k):=λ G H δ σ vs ds δ' Q R dv e q=>by
 cases dv with
 | nil=>cases e
 | cons a b=>
  obtain ⟨δ1,e1,e⟩:=oB e
  exact ⟨_,_,rfl,h1 G H δ σ _ _ δ1 _ R a e1 λ σ1 R1 o1=>h2 G H δ1 σ1 _ _ δ' Q R1 b e λ σ2 R2 o2=>q σ2 R2 (o2.trans o1)⟩
noncomputable def qu (n:Nat) (k:List W->DS->Option DS):W->DS->Option DS:=λ d δ=>match d with
 | .tuple ds=>if ds.length=n then k ds δ else none
 | _=>none
theorem DP {n:Nat} {u:yI} {k:List W->DS->Option DS} (h:Ii K ρ u k):DG K ρ (EM K n u) (qu n k):=λ G H δ σ v d δ' Q R dv e q=>by
 cases dv with
 | tup sq da=>
  simp only [qu] at e;split at e
  . rename_i hn;exact ⟨_,_,rfl,R.sub.tup (gW.of sq),by rw [da.length];exact hn,h G H δ σ _ _ δ' Q R da e q⟩
  . cases e
 | _=>cases e
noncomputable def pT (δ:DS):Option Nat->Sl
 | none=>.no
 | some i=>δ[i]?.getD .no
noncomputable def K2 (σ:St):Option Nat->Option V
 | none=>none
 | some i=>match σ[i]? with
  | some v=>v
  | none=>none
noncomputable def bP (ix:List (Option Nat)) (δ:DS):DS:=ix.map (pT δ)
theorem px {ix:List (Option Nat)} {σ:St} {j:Nat} {o:Option Nat} (h:ix[j]?=some o):(lift ix σ)[j]?=some (K2 σ o):=by
 unfold lift;rw [Pq,h];cases o <;> rfl
theorem me {ix:List (Option Nat)} {δ:DS} {j:Nat} {s:Sl} (h:(bP ix δ)[j]?=some s):∃ o,ix[j]?=some o/\s=pT δ o:=by
 unfold bP at h;rw [Pq] at h;obtain ⟨o,h1,h2⟩:=oM h
 exact ⟨o,h1,h2.symm⟩
noncomputable def wT (ix:List (Option Nat)):Bool:=decide ((ix.filterMap id).Nodup)
theorem FB {ix:List (Option Nat)} (h:(ix.filterMap id).Nodup):∀ {i j k:Nat},ix[i]?=some (some k)->ix[j]?=some (some k)->i=j:=by
 induction ix with
 | nil=>intro i j k h1;simp at h1
 | cons o r ih=>
  intro i j k h1 h2;have hr:(r.filterMap id).Nodup:=by
   cases o with
   | none=>simpa using h
   | some a=>
    have h':(a::r.filterMap id).Nodup:=h;exact (PD.mp h').2
  have hm:∀ m,r[m]?=some (some k)->k∈r.filterMap id:=λ m hm=>PF.mpr ⟨some k,Pb hm,rfl⟩;cases i with
  | zero=>
   cases j with
   | zero=>rfl
   | succ j=>
    simp at h1 h2;subst h1;have h':(k::r.filterMap id).Nodup:=h;exact absurd (hm j h2) (PD.mp h').1
  | succ i=>
   cases j with
   | zero=>
    simp at h1 h2;subst h2;have h':(k::r.filterMap id).Nodup:=h;exact absurd (hm i h1) (PD.mp h').1
   | succ j=>
    simp at h1 h2;rw [ih hr h1 h2]
theorem Rl.lift {G H:Hp} {δ:DS} {σ:St} {ix:List (Option Nat)} (hx:wT ix=true) (R:Rl K ρ G H δ σ):Rl K ρ G H (bP ix δ) (lift ix σ):=by
 have hx':(ix.filterMap id).Nodup:=by simpa [wT] using hx
 have own:∀ {j:Nat} {ds:List W},(bP ix δ)[j]?=some (.own ds)->∃ i,ix[j]?=some (some i)/\δ[i]?=some (.own ds):=λ {j ds} h=>by
  obtain ⟨o,h1,h2⟩:=me h;cases o with
  | none=>cases h2
  | some i=>
   refine ⟨i,h1,?_⟩;cases e:δ[i]? with
   | none=>simp [pT,e] at h2
   | some s=>simp [pT,e] at h2;rw [h2]
 have at':∀ {j i:Nat} {v:V},ix[j]?=some (some i)->(L2.lift ix σ)[j]?=some (some v)->σ[i]?=some (some v):=λ {j i v} h1 h2=>by
  rw [px h1] at h2;simp only [K2] at h2;split at h2
  . rename_i w e;rw [e];simpa using h2
  . cases h2
 refine ⟨R.sub,by simp [bP,L2.lift],λ j s h=>?_,λ j k p ds es h1 h2 h3 h4=>?_⟩
 . obtain ⟨o,h1,rfl⟩:=me h;refine ⟨_,px h1,?_⟩;cases o with
   | none=>trivial
   | some i=>
    cases e:δ[i]? with
    | none=>simp only [pT,e,QA];trivial
    | some s=>
     obtain ⟨o,k1,k2⟩:=R.sl i s e;simp only [pT,K2,e,k1,Option.getD_some];exact k2
 . obtain ⟨i1,a1,a2⟩:=own h1;obtain ⟨i2,b1,b2⟩:=own h2;have:=R.apart i1 i2 p ds es a2 b2 (at' a1 h3) (at' b1 h4);subst this;exact FB hx' a1 b1
noncomputable def io:DS->Option Bool:=λ _=>some true
theorem FA:DT K ρ JP io:=λ G σ H δ b Q R e q=>by
 cases e;exact q G H (.refl R.sub)
noncomputable def dZ (h:W->DS->Option DS) (c:DS->Option Bool) (fe:DS->Option W) (δ:DS):List W->Option (List W)
 | []=>some []
 | d::ds=>(h d δ).bind λ δ2=>(c δ2).bind λ b=>if b=true then (fe δ2).bind λ e=>(dZ h c fe δ ds).map (e::·) else dZ h c fe δ ds
noncomputable def iG (ix:List (Option Nat)) (fi:DS->Option (List W)) (h:W->DS->Option DS) (c:DS->Option Bool) (fe:DS->Option W):DS->Option (List W):=λ δ=>
 (fi δ).bind λ ds=>if ds.length<=sizeLine then dZ h c fe (bP ix δ) ds else none
theorem BQ {ix:List (Option Nat)} {wi:TI} {g:TG} {tc:TT} {te:TE} {fi:DS->Option (List W)} {h:W->DS->Option DS} {c:DS->Option Bool} {fe:DS->Option W}
 (hx:wT ix=true) (hi:K0 K ρ wi fi) (hg:DG K ρ g h) (hc:DT K ρ tc c) (he:DE K ρ te fe):DO K ρ (oU ix wi g tc te) (iG ix fi h c fe):=λ G σ H δ es Q R e q=>by
 obtain ⟨ds,ed,e⟩:=oB e
 split at e
 case isFalse=>cases e
 rename_i hz;refine hi G σ H δ ds _ R ed λ J G1 H1 g1 it=>?_;refine ⟨λ i m ys H2=>m=ds.length-i/\i<=ds.length/\ys.length<=i/\∃ G2 as bs,Gr G1 H1 G2 H2/\aF K ρ G2 ys as/\dZ h c fe (bP ix δ) (ds.drop i)=some bs/\as++bs=es,⟨ds.length,by simp,O8 _,OB _,G1,[],es,.refl g1.s,.nil,by simpa using e,rfl⟩,?_⟩;rintro i m ys H2 ⟨rfl,hil,hyl,G2,as,bs,g2,da,eb,rfl⟩;have ia:=it i G2 H2 g2;by_cases hlt:i<ds.length
 . refine .inr ?_;obtain ⟨go,step⟩:=ia.1 ds[i] (OJ hlt);rw [PZ hlt] at eb;obtain ⟨δ2,e2,eb⟩:=oB eb
   obtain ⟨b,e3,eb⟩:=oB eb
   refine ⟨go,by omega,λ ys' H'=>ys'.length<=i+1/\∃ G2 as' bs',Gr G1 H1 G2 H'/\aF K ρ G2 ys' as'/\dZ h c fe (bP ix δ) (ds.drop (i+1))=some bs'/\as'++bs'=as++bs,λ ys' H' hy0=>by obtain ⟨l,z⟩:=hy0;exact ⟨ds.length-(i+1),by omega,rfl,hlt,l,z⟩,λ x H' y=>?_⟩;obtain ⟨G3,g3,dx⟩:=step x H' y;have R3:=((R.grow g1).grow g2).grow g3;refine hg G3 H' (bP ix δ) _ x _ δ2 _ (R3.lift hx) dx e2 λ σ2 R4 _=>?_;refine hc G3 σ2 H' δ2 b _ R4 e3 λ G5 H5 g5=>?_;have g25:=g2.trans (g3.trans g5);have da5:=da.same (g3.trans g5).g;cases b with
   | false=>exact ⟨by omega,G5,as,bs,g25,da5,eb,rfl⟩
   | true=>
    obtain ⟨ev,e6,eb⟩:=oB eb
    obtain ⟨bs',e7,rfl⟩:=oM eb
    refine he G5 σ2 H5 δ2 ev _ (R4.grow g5) e6 λ v G6 H6 g6 dv=>?_;exact ⟨by simp;omega,G6,as++[ev],bs',g25.trans g6,(da5.same g6.g).app (.cons dv .nil),e7,by simp⟩
 . have hi':i=ds.length:=by omega
   subst hi';refine .inl ⟨ia.2 (OB _),by omega,λ p hp=>?_⟩;rw [Qc] at eb;cases eb;rw [O9] at q;have n:Nw H2 (cE H2 p (.lst ys)) p (.lst ys):=.of hp;exact q p ys G2 _ (g1.trans (g2.trans (.nwO g2.s n))) (dX (g1.trans g2).h hp) (dX g2.s hp) aG da
inductive fZ where
 | nx (δ:DS)
 | bk (δ:DS)
 | ct (δ:DS)
 | rt (d:W)
structure Iv (K:Frag) (ρ:List Addr) (G0 H0 G H:Hp) (δ:DS) (σ:St):Prop where
 rl:Rl K ρ G H δ σ
 gr:Gr G0 H0 G H
 ow:∀ (i:Nat) p ds,δ[i]?=some (.own ds)->σ[i]?=some (some (.ref p))->H0 p=none
noncomputable def N3 (K:Frag) (ρ:List Addr) (G0 H0:Hp) (D:jm):fZ->Prop
 | .nx δ=>∀ σ G H,Iv K ρ G0 H0 G H δ σ->D.nx σ H
 | .bk δ=>∀ σ G H,Iv K ρ G0 H0 G H δ σ->D.bk σ H
 | .ct δ=>∀ σ G H,Iv K ρ G0 H0 G H δ σ->D.ct σ H
 | .rt d=>∀ v G H,Gr G0 H0 G H->Dw K ρ G v d->D.rt v H
noncomputable def pv (K:Frag) (ρ:List Addr) (t:TS) (f:DS->Option fZ):Prop:=
 ∀ (G0 H0 G:Hp) (σ:St) (H:Hp) (δ:DS) (o:fZ) (D:jm),Iv K ρ G0 H0 G H δ σ->f δ=some o->N3 K ρ G0 H0 D o->t D σ H
theorem Iv.grow {G0 H0 G H G' H':Hp} {δ:DS} {σ:St} (I:Iv K ρ G0 H0 G H δ σ) (g:Gr G H G' H'):Iv K ρ G0 H0 G' H' δ σ:=⟨I.rl.grow g,I.gr.trans g,I.ow⟩
theorem Iv.sub {G0 H0 G H:Hp} {δ δ':DS} {σ σ':St} (I:Iv K ρ G0 H0 G H δ σ) (R:Rl K ρ G H δ' σ') (o:gF δ' σ' δ σ):Iv K ρ G0 H0 G H δ' σ':=⟨R,I.gr,λ i p ds h1 h2=>by
 obtain ⟨es,h3,h4⟩:=o i ds p h1 h2;exact I.ow i p es h3 h4⟩
theorem Iv.base {G0 H0 G H:Hp} {δ:DS} {σ:St} (I:Iv K ρ G0 H0 G H δ σ):Iv K ρ G H0 G H δ σ:=⟨I.rl,⟨.refl _,I.gr.h,I.gr.s,λ _ _ h=>h⟩,I.ow⟩
theorem Gr.rebase {G0 H0 G H G' H':Hp} (a:Gr G0 H0 G H) (b:Gr G H0 G' H'):Gr G0 H0 G' H':=⟨a.g.trans b.g,b.h,b.s,λ c h1 h2=>b.n c h1 (a.n c h1 h2)⟩
theorem Iv.rebase {G0 H0 G H G' H':Hp} {δ:DS} {σ:St} (a:Gr G0 H0 G H) (I:Iv K ρ G H0 G' H' δ σ):Iv K ρ G0 H0 G' H' δ σ:=⟨I.rl,a.rebase I.gr,I.ow⟩
noncomputable def aw:DS->Option fZ:=λ δ=>some (.nx δ)
theorem BH:pv K ρ Dc aw:=λ G0 H0 G σ H δ o D I e p=>by
 cases e;exact p σ G H I
noncomputable def bF (f g:DS->Option fZ):DS->Option fZ:=λ δ=>match f δ with
 | some (.nx δ')=>g δ'
 | o=>o
theorem yk {t u:TS} {f g:DS->Option fZ} (h1:pv K ρ t f) (h2:pv K ρ u g):pv K ρ (Gs t u) (bF f g):=λ G0 H0 G σ H δ o D I e p=>by
 unfold bF at e;cases ef:f δ with
 | none=>rw [ef] at e;cases e
 | some o1=>
  rw [ef] at e;refine h1 G0 H0 G σ H δ o1 _ I ef ?_;cases o1 with
  | nx δ'=>exact λ σ' G' H' I'=>h2 G0 H0 G' σ' H' δ' o D I' e p
  | bk δ'=>cases e;exact p
  | ct δ'=>cases e;exact p
  | rt d=>cases e;exact p
noncomputable def cB (c:DS->Option Bool) (f g:DS->Option fZ):DS->Option fZ:=λ δ=>(c δ).bind λ b=>if b=true then f δ else g δ
theorem Df {tc:TT} {t u:TS} {c:DS->Option Bool} {f g:DS->Option fZ} (hc:DT K ρ tc c) (h1:pv K ρ t f) (h2:pv K ρ u g):pv K ρ (Gh tc t u) (cB c f g):=λ G0 H0 G σ H δ o D I e p=>by
 obtain ⟨b,eb,e⟩:=oB e
 refine hc G σ H δ b _ I.rl eb λ G1 H1 g1=>?_;cases b with
 | true=>exact h1 G0 H0 G1 σ H1 δ o D (I.grow g1) e p
 | false=>exact h2 G0 H0 G1 σ H1 δ o D (I.grow g1) e p
noncomputable def aW (f:DS->Option W):DS->Option fZ:=λ δ=>(f δ).map .rt
theorem Ab {t:TE} {f:DS->Option W} (h:DE K ρ t f):pv K ρ (Fk t) (aW f):=λ G0 H0 G σ H δ o D I e p=>by
 obtain ⟨d,ed,rfl⟩:=oM e
 exact h G σ H δ d _ I.rl ed λ v G1 H1 g1 dv=>p v G1 H1 (I.gr.trans g1) dv
noncomputable def rD:DS->Option fZ:=λ _=>some (.rt .none)
theorem BW:pv K ρ Do rD:=λ G0 H0 G σ H δ o D I e p=>by
 cases e;exact p .non G H I.gr .non
noncomputable def fX:DS->Option fZ:=λ _=>none
theorem A5 {t:TS}:pv K ρ t fX:=λ G0 H0 G σ H δ o D I e p=>by cases e
noncomputable def bz (f:DS->Option W) (h:W->DS->Option DS):DS->Option fZ:=λ δ=>(f δ).bind λ d=>(h d δ).map .nx
theorem yj {t:TE} {g:TG} {f:DS->Option W} {h:W->DS->Option DS} (h1:DE K ρ t f) (h2:DG K ρ g h):pv K ρ (sM t g) (bz f h):=λ G0 H0 G σ H δ o D I e p=>by
 obtain ⟨d,ed,e⟩:=oB e
 obtain ⟨δ',e2,rfl⟩:=oM e
 exact h1 G σ H δ d _ I.rl ed λ v G1 H1 g1 dv=>h2 G1 H1 δ σ v d δ' _ (I.rl.grow g1) dv e2 λ σ' R o=>p σ' G1 H1 ((I.grow g1).sub R o)
noncomputable def lK (i:Nat) (f:DS->Option (List W)):DS->Option fZ:=λ δ=>(f δ).map λ ds=>.nx (δ.set i (.own ds))
theorem yO {i:Nat} {t:TE} {f:DS->Option (List W)} (h:DO K ρ t f):pv K ρ (sM t (mQ i)) (lK i f):=λ G0 H0 G σ H δ o D I e p=>by
 obtain ⟨ds,ed,rfl⟩:=oM e
 refine h G σ H δ ds _ I.rl ed λ q vs G1 H1 g1 h0 g0 hh da=>?_;have I1:=I.grow g1;refine p _ G1 H1 ⟨I1.rl.setO g0 hh da λ j es hj h1 h2=>?_,I1.gr,λ j q' ds' h1 h2=>?_⟩
 . obtain ⟨o,k1,q1,vs1,k2,k3,k4,_⟩:=I.rl.sl j _ h1;rw [h2] at k1;cases k1;cases k2;rw [h0] at k4;cases k4
 . rcases fA h1 with ⟨rfl,_,hl⟩ | ⟨ne,h1⟩
   . rw [lW (by rw [<-I.rl.len];exact hl)] at h2;cases h2;exact dX I.gr.h h0
   . rw [OU ne] at h2;exact I.ow j q' _ h1 h2
noncomputable def frz (i:Nat) (δ:DS):DS:=match δ[i]? with
 | some (.own ds)=>δ.set i (.val (.list ds))
 | _=>δ
noncomputable def lO (i:Nat) (f:DS->Option fZ):DS->Option fZ:=λ δ=>f (frz i δ)
theorem Iv.frz {G0 H0 G H:Hp} {δ:DS} {σ:St} (i:Nat) (I:Iv K ρ G0 H0 G H δ σ):∃ G',Iv K ρ G0 H0 G' H (L2.frz i δ) σ:=by
 unfold L2.frz;split
 . rename_i ds h;obtain ⟨o,h1,p,vs,rfl,h3,h4,h5⟩:=I.rl.sl i _ h;have h0:=I.ow i p ds h h1;have g:bB G (cE G p (.lst vs)):=kM h3 _;have set1:σ=σ.set i (some (.ref p)):=by
    apply List.ext_getElem?;intro j;by_cases e:i=j
    . subst e;rw [lW (oG h1).1,h1]
    . rw [OU e]
   refine ⟨cE G p (.lst vs),⟨⟨qy I.gr.s h4,by rw [Pu];exact I.rl.len,λ j s e=>?_,λ j k q ds' es' k1 k2 k3 k4=>?_⟩,I.gr.new h0 h3 h4,λ j q ds' k1 k2=>?_⟩⟩
   . rcases fA e with ⟨rfl,rfl,hl⟩ | ⟨ne,e⟩
     . exact ⟨_,h1,.ref p,rfl,.lst (eC.of aG) (h5.same g)⟩
     . obtain ⟨o,k1,k2⟩:=I.rl.sl j s e;refine ⟨o,k1,?_⟩;cases s with
       | no=>trivial
       | val d=>
        obtain ⟨v,e1,e2⟩:=k2;exact ⟨v,e1,e2.same g⟩
       | own es=>
        obtain ⟨q,ws,rfl,e2,e3,e4⟩:=k2;refine ⟨q,ws,rfl,?_,e3,e4.same g⟩;rw [aM]
        . exact e2
        . rintro rfl;exact ne (I.rl.apart i j q ds es h e h1 k1)
   all_goals
    rcases fA k1 with ⟨_,z,_⟩ | ⟨ne,k1⟩
    . cases z
   . rcases fA k2 with ⟨_,z,_⟩ | ⟨ne2,k2⟩
     . cases z
     . exact I.rl.apart j k q ds' es' k1 k2 k3 k4
   . exact I.ow j q ds' k1 k2
 . exact ⟨G,I⟩
theorem Aa {i:Nat} {t:TS} {f:DS->Option fZ} (h:pv K ρ t f):pv K ρ t (lO i f):=λ G0 H0 G σ H δ o D I e p=>by
 obtain ⟨G',I'⟩:=I.frz i;exact h G0 H0 G' σ H _ o D I' e p
noncomputable def cG (h:W->DS->Option DS) (fb:DS->Option fZ):List W->DS->Option fZ
 | [],δ=>some (.nx δ)
 | d::ds,δ=>(h d δ).bind λ δ2=>match fb δ2 with
  | some (.nx δ')=>cG h fb ds δ'
  | some (.ct δ')=>cG h fb ds δ'
  | some (.bk δ')=>some (.nx δ')
  | some (.rt d)=>some (.rt d)
  | none=>none
noncomputable def qg (fi:DS->Option (List W)) (h:W->DS->Option DS) (fb:DS->Option fZ):DS->Option fZ:=λ δ=>(fi δ).bind λ ds=>cG h fb ds δ
theorem Au {wi:TI} {g:TG} {tb:TS} {fi:DS->Option (List W)} {h:W->DS->Option DS} {fb:DS->Option fZ} (hi:DI K ρ wi fi) (hg:DG K ρ g h) (hb:pv K ρ tb fb):pv K ρ (GM wi g tb) (qg fi h fb):=λ G0 H0 G σ H δ o D I e p=>by
 obtain ⟨ds,ed,e⟩:=oB e
 refine hi G σ H δ ds _ I.rl ed λ J G1 H1 g1 it=>?_;refine ⟨λ i m σ H=>m=ds.length-i/\i<=ds.length/\∃ G δ,Iv K ρ G0 H0 G H δ σ/\bB G1 G/\cG h fb (ds.drop i) δ=some o,⟨ds.length,by simp,O8 _,G1,δ,I.grow g1,.refl _,by simpa using e⟩,?_⟩;rintro i m σ2 H2 ⟨rfl,hil,G2,δ2,I2,s2,e2⟩;have ia:=it i G2 H2 s2 I2.gr.s;by_cases hlt:i<ds.length
 . refine .inr ?_;obtain ⟨go,step⟩:=ia.1 ds[i] (OJ hlt);rw [PZ hlt] at e2;obtain ⟨δ3,e3,e4⟩:=oB e2
   have back:∀ {G3 H3:Hp},Gr G2 H2 G3 H3->∀ {G4 H4:Hp} {σ4:St} {δ4:DS},Iv K ρ G3 H0 G4 H4 δ4 σ4->Iv K ρ G0 H0 G4 H4 δ4 σ4/\bB G1 G4:=λ {G3 H3} g3 {G4 H4 σ4 δ4} I4=>⟨I4.rebase (I2.gr.trans g3),s2.trans (g3.g.trans I4.gr.g)⟩
   have again:∀ (δ':DS),cG h fb (ds.drop (i+1)) δ'=some o->(fb δ3=some (.nx δ')∨fb δ3=some (.ct δ'))->∃ N:St->Hp->Prop,(∀ σ' H',N σ' H'->∃ m',m'<ds.length-i/\m'=ds.length-(i+1)/\i+1<=ds.length/\∃ G δ,Iv K ρ G0 H0 G H' δ σ'/\bB G1 G/\cG h fb (ds.drop (i+1)) δ=some o)/\∀ x H',J.yld i H2 x H'->g x σ2 H' λ σ2 H2=>tb { D with nx:=N,ct:=N,bk:=D.nx } σ2 H2:=λ δ' ed' ef=>by
    refine ⟨λ σ' H'=>∃ G',Iv K ρ G0 H0 G' H' δ' σ'/\bB G1 G',λ σ' H' hy0=>by obtain ⟨G',I',s'⟩:=hy0;exact ⟨ds.length-(i+1),by omega,rfl,hlt,G',δ',I',s',ed'⟩,λ x H' y=>?_⟩;obtain ⟨G3,g3,dx⟩:=step x H' y;have I3:=I2.grow g3;refine hg G3 H' δ2 σ2 x _ δ3 _ I3.rl dx e3 λ σ3 R3 o3=>?_;have I4:=(I3.sub R3 o3).base;rcases ef with ef | ef
    . exact hb G3 H0 G3 σ3 H' δ3 _ _ I4 ef λ σ5 G5 H5 I5=>⟨G5,back g3 I5⟩
    . exact hb G3 H0 G3 σ3 H' δ3 _ _ I4 ef λ σ5 G5 H5 I5=>⟨G5,back g3 I5⟩
   cases ef:fb δ3 with
   | none=>rw [ef] at e4;cases e4
   | some o1=>
    rw [ef] at e4;cases o1 with
    | nx δ'=>
     obtain ⟨N,n1,n2⟩:=again δ' e4 (.inl ef);exact ⟨go,N,n1,n2⟩
    | ct δ'=>
     obtain ⟨N,n1,n2⟩:=again δ' e4 (.inr ef);exact ⟨go,N,n1,n2⟩
    | bk δ'=>
     cases e4;refine ⟨go,λ _ _=>False,λ _ _ z=>z.elim,λ x H' y=>?_⟩;obtain ⟨G3,g3,dx⟩:=step x H' y;have I3:=I2.grow g3;refine hg G3 H' δ2 σ2 x _ δ3 _ I3.rl dx e3 λ σ3 R3 o3=>?_;exact hb G3 H0 G3 σ3 H' δ3 _ _ (I3.sub R3 o3).base ef λ σ5 G5 H5 I5=>p σ5 G5 H5 (back g3 I5).1
    | rt d=>
     cases e4;refine ⟨go,λ _ _=>False,λ _ _ z=>z.elim,λ x H' y=>?_⟩;obtain ⟨G3,g3,dx⟩:=step x H' y;have I3:=I2.grow g3;refine hg G3 H' δ2 σ2 x _ δ3 _ I3.rl dx e3 λ σ3 R3 o3=>?_;exact hb G3 H0 G3 σ3 H' δ3 _ _ (I3.sub R3 o3).base ef λ v G5 H5 g5 dv=>p v G5 H5 ((I2.gr.trans g3).rebase g5) dv
 . have hi':i=ds.length:=by omega
   subst hi';rw [Qc] at e2;cases e2;exact .inl ⟨ia.2 (OB _),p σ2 G2 H2 I2⟩
noncomputable def qe (i:Nat) (δ:DS):Option (List W):=match δ[i]? with
 | some (.own ds)=>some ds
 | _=>none
theorem xY {i:Nat} {δ:DS} {ds:List W} (h:qe i δ=some ds):δ[i]?=some (.own ds):=by
 unfold qe at h;split at h
 . rename_i e;cases h;exact e
 . cases h
theorem Iv.put {G0 H0 G H:Hp} {δ:DS} {σ:St} {i:Nat} {ds es:List W} {p:Addr} {vs:List V} (I:Iv K ρ G0 H0 G H δ σ) (h:δ[i]?=some (.own ds)) (hp:σ[i]?=some (some (.ref p))) (g0:G p=none) (da:aF K ρ G vs es):Iv K ρ G0 H0 G (cE H p (.lst vs)) (δ.set i (.own es)) σ:=by
 have h0:=I.ow i p ds h hp;have sG:bB G (cE H p (.lst vs)):=λ b o e=>by
  rw [aM (λ z=>by rw [z,g0] at e;cases e)];exact I.gr.s _ _ e
 refine ⟨⟨sG,by rw [Pu];exact I.rl.len,λ j s e=>?_,λ j k q ds' es' k1 k2 k3 k4=>?_⟩,⟨I.gr.g,λ b o e=>?_,sG,I.gr.n⟩,λ j q ds' k1 k2=>?_⟩
 . rcases fA e with ⟨rfl,rfl,hl⟩ | ⟨ne,e⟩
   . exact ⟨_,hp,p,vs,rfl,g0,aG,da⟩
   . obtain ⟨o,k1,k2⟩:=I.rl.sl j s e;refine ⟨o,k1,?_⟩;cases s with
     | no=>trivial
     | val d=>exact k2
     | own es2=>
      obtain ⟨q,ws,rfl,e2,e3,e4⟩:=k2;refine ⟨q,ws,rfl,e2,?_,e4⟩;rw [aM]
      . exact e3
      . rintro rfl;exact ne (I.rl.apart i j q ds es2 h e hp k1)
 . rcases fA k1 with ⟨rfl,_,_⟩ | ⟨ne,k1⟩ <;> rcases fA k2 with ⟨rfl,_,_⟩ | ⟨ne2,k2⟩
   . rfl
   . exact I.rl.apart _ _ q _ _ h k2 k3 k4
   . exact I.rl.apart _ _ q _ _ k1 h k3 k4
   . exact I.rl.apart _ _ q _ _ k1 k2 k3 k4
 . rw [aM (λ z=>by rw [z,h0] at e;cases e)];exact I.gr.h _ _ e
 . rcases fA k1 with ⟨rfl,_,_⟩ | ⟨ne,k1⟩
   . exact I.ow _ q _ h k2
   . exact I.ow j q _ k1 k2
noncomputable def cr (i:Nat) (f:DS->Option W):DS->Option fZ:=λ δ=>(qe i δ).bind λ ds=>(f δ).bind λ d=>if ds.length<sizeLine then some (.nx (δ.set i (.own (ds++[d])))) else none
theorem qp {i:Nat} {t:TE} {f:DS->Option W} (h:DE K ρ t f):pv K ρ (vY (Hl K "list" nX (Bn i) (iz t kT))) (cr i f):=λ G0 H0 G σ H δ o D I e p=>by
 obtain ⟨ds,eo,e⟩:=oB e
 obtain ⟨d,ed,e⟩:=oB e
 split at e
 case isFalse=>cases e
 rename_i hz;cases e;have ho:=xY eo;obtain ⟨o,h1,q,vs,rfl,h3,h4,h5⟩:=I.rl.sl i _ ho;refine ⟨.ref q,h1,.inl ⟨rfl,vs,eC.of h4⟩,h G σ H δ d _ I.rl ed λ v G1 H1 g1 dv=>⟨q,vs,v,rfl,rfl,g1.h _ _ h4,by rw [h5.length];exact hz,?_⟩⟩;have I1:=I.grow g1;exact p σ G1 _ (I1.put ho h1 (g1.n q (.l h4) h3) ((h5.same g1.g).app (.cons dv .nil)))
noncomputable def Fg (i:Nat) (fi fv:DS->Option W):DS->Option fZ:=λ δ=>(fv δ).bind λ d=>(qe i δ).bind λ ds=>(fi δ).bind λ x=>match x with
 | .int k=>(w9 ds.length k).map λ j=>.nx (δ.set i (.own (ds.set j d)))
 | _=>none
end
section
variable {K:Frag} {ρ:List Addr}
noncomputable def uL (K:Frag) (f:List W->Option W):Sp:=λ vs H Q _=>∃ ρ G ds d,bB G H/\aF K ρ G vs ds/\f ds=some d/\∀ v G' H',Gr G H G' H'->Dw K ρ G' v d->Q v H'
noncomputable def aZ (f:List W->Option W) (fa:DS->Option (List W)):DS->Option W:=λ δ=>(fa δ).bind f
theorem Bq {f:List W->Option W} {t:TA} {fa:DS->Option (List W)} {E:XK} (h:DA K ρ t fa):DE K ρ (u6 (uL K f) [] E t) (aZ f fa):=λ G σ H δ d Q R e q=>by
 obtain ⟨ds,ed,e⟩:=oB e
 exact h G σ H δ ds _ R ed λ vs G1 H1 g1 da=>by
  refine ⟨ρ,G1,ds,d,g1.s,?_,e,λ v G2 H2 g2 dv=>q v G2 H2 (g1.trans g2) dv⟩;rw [O9];exact da
noncomputable def fE (n:Nat) (ds:List W):DS:=ds.map .val++List.replicate (n-ds.length) .no
noncomputable def Bl:Option fZ->Option W
 | some (.rt d)=>some d
 | some (.nx _)=>some .none
 | _=>none
noncomputable def fz (a n:Nat) (fb:DS->Option fZ):List W->Option W:=λ ds=>if ds.length=a then Bl (fb (fE n ds)) else none
theorem qW {a n:Nat} {fb:DS->Option fZ} {ds:List W} {d:W} (h:fz a n fb ds=some d):ds.length=a:=by
 unfold fz at h;split at h
 . assumption
 . cases h
theorem Ci {f:List W->Option W} {a:Nat} {vs:List V} {H:Hp} {Q:VK} {E:XK} (hf:∀ ds d,f ds=some d->ds.length=a) (h:uL K f vs H Q E):vs.length=a:=by
 obtain ⟨ρ,G,ds,d,s,da,e,q⟩:=h;rw [da.length];exact hf ds d e
theorem iS {n:Nat} {ds:List W} {i:Nat} {es:List W}:(fE n ds)[i]?≠some (.own es):=by
 unfold fE;intro h;rcases Qk i (ds.map Sl.val).length with hl | hl
 . rw [OR hl,Pq] at h;obtain ⟨d,_,e⟩:=oM h
   cases e
 . rw [O6 hl,P9] at h;split at h <;> cases h
theorem u1 {G H:Hp} {N:List Str} {vs:List V} {ds:List W} (s:bB G H) (h:aF K ρ G vs ds):Rl K ρ G H (fE N.length ds) (start N vs):=by
 refine ⟨s,by simp [fE,start,h.length],λ i sl e=>?_,λ i j p ds' es' h1=>absurd h1 iS⟩;unfold fE at e;unfold start;rcases Qk i ds.length with hl | hl
 . rw [OR (by simpa using hl),Pq] at e;obtain ⟨d,e1,rfl⟩:=oM e
   obtain ⟨v,h1,h2⟩:=h.get e1;refine ⟨some v,?_,v,rfl,h2⟩;rw [OR (by simp [h.length];exact hl),Pq,h1];rfl
 . rw [O6 (by simpa using hl),P9] at e;split at e
   . cases e;rename_i hlt;refine ⟨none,?_,trivial⟩;rw [O6 (by simp [h.length];exact hl),P9,OG];simp only [OH] at hlt ⊢;rw [h.length];exact hlt
   . cases e
theorem M9 {t:TS} {fb:DS->Option fZ} {N:List Str} {a n:Nat} {vs:List V} {H:Hp} {Q:VK} {E:XK} (hn:N.length=n) (h:∀ ρ,pv K ρ t fb) (hsp:uL K (fz a n fb) vs H Q E):t { nx:=λ _ H'=>Q .non H',rt:=Q } (start N vs) H:=by
 subst hn;obtain ⟨ρ,G,ds,d,s,da,e,q⟩:=hsp;have R:=u1 (N:=N) s da;have I:Iv K ρ G H G H (fE N.length ds) (start N vs):=⟨R,.refl s,λ i p ds' h1=>absurd h1 iS⟩
 unfold fz at e;rw [OG (qW (show fz a N.length fb ds=some d from e))] at e;cases ef:fb (fE N.length ds) with
 | none=>rw [ef] at e;cases e
 | some o=>
  rw [ef] at e;refine h ρ G H G _ H _ o _ I ef ?_;cases o with
  | nx δ=>cases e;exact λ σ' G' H' I'=>q _ G' H' I'.gr .non
  | rt d'=>cases e;exact λ v G' H' g dv=>q v G' H' g dv
  | bk _=>cases e
  | ct _=>cases e
end
noncomputable def Dq (K:Frag):R2:=λ x y H Q=>∃ l b xs zs,x=.ref l/\y=.ref b/\eC K H l xs/\eC K H b zs/\xs.length+zs.length<=sizeLine/\∀ p H',Nw H H' p (.lst (xs++zs))->Q (.ref p) H'
theorem AQ {X:Cx}:ir X (binaryOp .Add) (Dq X.K):=by
 intro pins s σ H x y v u Q I rx ry h;obtain ⟨l,b,xs,zs,rfl,rfl,hH,hB,hz,q⟩:=h;cases rx;cases ry;obtain ⟨its,r,hl,_⟩:=I.list hH;obtain ⟨its2,r2,hb,_⟩:=I.list hB;obtain ⟨⟨cls,dd,data,sl⟩,n,ho,hc,hdd,hd⟩:=hl;obtain ⟨⟨cls2,dd2,data2,sl2⟩,n2,ho2,hc2,hdd2,hd2⟩:=hb;simp only at hc hd hc2 hd2;subst hc hd hc2 hd2;have e:its.toArray++its2.toArray=(its++its2).toArray:=by simp
 refine concat_meets ⟨_,ho,rfl⟩ ⟨_,ho2,rfl⟩ noFill_list_add seq_list_add PySem.F.slot_list_add PySem.F.entry_list_add (PySem.F.args_list_add_2 _ _) (list_addW l b its.toArray its2.toArray n n2 dd dd2 sl sl2 (by rw [OQ,OQ,<-r.length,<-r2.length];exact hz)) ⟨ho,ho2,?_⟩;rw [e];exact ⟨.ref _,_,I.lnew (t':=s.toks) (r.append r2) (by rw [PH];omega),rfl,q _ _ (.of I.fresh)⟩
noncomputable def B1:R2:=λ x y H Q=>∃ i j,x=.str i/\y=.str j/\i.length+j.length<=sizeLine/\Q (.str (i++j)) H
noncomputable def yG (K:Frag):R2:=λ x y H Q=>vG (λ i j=>.int (i+j)) x y H Q∨B1 x y H Q∨Dq K x y H Q∨Dd K x y H Q
theorem Kk {X:Cx} {K:Frag} (h:X.K=K):ir X (binaryOp .Add) (yG K):=h▸Ga.or (uW.or (AQ.or C7))
section
variable {K:Frag} {ρ:List Addr}
noncomputable def bI:W->W->Option W
 | .int i,.int j=>some (.int (i+j))
 | .str i,.str j=>if i.length+j.length<=sizeLine then some (.str (i++j)) else none
 | .list a,.list b=>if a.length+b.length<=sizeLine then some (.list (a++b)) else none
 | .tuple a,.tuple b=>if a≠[]/\a.length+b.length<=sizeLine then some (.tuple (a++b)) else none
 | _,_=>none
theorem v6 {G H:Hp} {v:V} {i:Int} (h:Pk K ρ G H v (.int i)):v=.int i:=by
 rcases h with h | ⟨_,_,_,_,e,_⟩
 . exact dI h
 . cases e
theorem rW {G H:Hp} {v:V} {i:Str} (h:Pk K ρ G H v (.str i)):v=.str i:=by
 rcases h with h | ⟨_,_,_,_,e,_⟩
 . exact yz h
 . cases e
theorem jF {G H:Hp} {v:V} {ds:List W} (s:bB G H) (h:Pk K ρ G H v (.list ds)):∃ p vs,v=.ref p/\eC K H p vs/\aF K ρ G vs ds:=by
 rcases h with h | ⟨p,vs,es,rfl,e,h1,h2⟩
 . cases h with
   | lst sq da=>exact ⟨_,_,rfl,s.seq sq,da⟩
 . cases e;exact ⟨p,vs,rfl,eC.of h1,h2⟩
theorem Gx {G:Hp} {v:V} {ds:List W} (h:Dw K ρ G v (.list ds)):∃ p vs,v=.ref p/\eC K G p vs/\aF K ρ G vs ds:=by
 cases h with
 | lst sq da=>exact ⟨_,_,rfl,sq,da⟩
theorem yp {G:Hp} {v:V} {ds:List W} (h:Dw K ρ G v (.tuple ds)):∃ p vs,v=.ref p/\G p=some (.tup vs)/\aF K ρ G vs ds:=by
 cases h with
 | tup sq da=>exact ⟨_,_,rfl,sq,da⟩
theorem rq {G H:Hp} {v:V} {ds:List W} (h:Pk K ρ G H v (.tuple ds)):∃ p vs,v=.ref p/\G p=some (.tup vs)/\aF K ρ G vs ds:=by
 rcases h with h | ⟨_,_,_,_,e,_⟩
 . exact yp h
 . cases e
theorem DM:DR K ρ (yG K) bI:=λ G H x y d e c Q s hx hy hg q=>by
 cases d with
 | int i=>
  cases e with
  | int j=>
   cases hg;cases v6 hx;cases dI hy;exact .inl ⟨_,_,rfl,rfl,q _ G H (.refl s) (.int _)⟩
  | _=>cases hg
 | str a=>
  cases e with
  | str b=>
   by_cases hz:a.length+b.length<=sizeLine
   . cases (OG hz).symm.trans hg;cases rW hx;cases yz hy;exact .inr (.inl ⟨_,_,rfl,rfl,hz,q _ G H (.refl s) (.str _)⟩)
   . cases (OT hz).symm.trans hg
  | _=>cases hg
 | list a=>
  cases e with
  | list b=>
   by_cases hz:a.length+b.length<=sizeLine
   . cases (OG hz).symm.trans hg;obtain ⟨p,vs,rfl,sq,da⟩:=jF s hx;obtain ⟨p2,vs2,rfl,sq2,da2⟩:=Gx hy;refine .inr (.inr (.inl ⟨p,p2,vs,vs2,rfl,rfl,sq,s.seq sq2,by rw [da.length,da2.length];exact hz,λ l H' n=>?_⟩));have g:=Gr.nw s n;exact q _ _ H' g (.lst (eC.of aG) ((da.same g.g).app (da2.same g.g)))
   . cases (OT hz).symm.trans hg
  | _=>cases hg
 | tuple a=>
  cases e with
  | tuple b=>
   by_cases hz:a≠[]/\a.length+b.length<=sizeLine
   . cases (OG hz).symm.trans hg;obtain ⟨p,vs,rfl,sq,da⟩:=rq hx;obtain ⟨p2,vs2,rfl,sq2,da2⟩:=yp hy;refine .inr (.inr (.inr ⟨p,p2,vs,vs2,rfl,rfl,s.tup (gW.of sq),s.tup (gW.of sq2),?_,by rw [da.length,da2.length];exact hz.2,λ e=>?_,λ e l hl=>?_⟩))
     . rintro rfl;cases da;exact hz.1 rfl
     . subst e;cases da2;rw [O9] at q;exact q _ G H (.refl s) (.tup sq da)
     . have g:=Gr.nw s (Nw.of (o:=.tup (vs++vs2)) hl);exact q _ _ _ g (.tup aG ((da.same g.g).app (da2.same g.g)))
   . cases (OT hz).symm.trans hg
  | _=>cases hg
 | _=>cases hg
noncomputable def HA:W->W->Option (List W)
 | .list a,.list b=>if a.length+b.length<=sizeLine then some (a++b) else none
 | _,_=>none
noncomputable def J6 (fa fb:DS->Option W):DS->Option (List W):=λ δ=>(fa δ).bind λ x=>(fb δ).bind λ y=>HA x y
noncomputable def gI (f:Int->Int->Int):W->W->Option W
 | .int i,.int j=>some (.int (f i j))
 | _,_=>none
noncomputable def Bb (C:Int->Int->Bool) (f:Int->Int->Int):W->W->Option W
 | .int i,.int j=>if C i j=true then some (.int (f i j)) else none
 | _,_=>none
theorem Ik {f:Int->Int->Int}:DR K ρ (vG λ i j=>.int (f i j)) (gI f):=λ G H x y d e c Q s hx hy hg q=>by
 unfold gI at hg;split at hg
 . cases hg;cases v6 hx;cases dI hy;exact ⟨_,_,rfl,rfl,q _ G H (.refl s) (.int _)⟩
 . cases hg
theorem vZ {C:Int->Int->Prop} {Cb:Int->Int->Bool} {f:Int->Int->Int} (hC:∀ i j,Cb i j=true->C i j):DR K ρ (rI C λ i j=>.int (f i j)) (Bb Cb f):=λ G H x y d e c Q s hx hy hg q=>by
 unfold Bb at hg;split at hg
 . split at hg
   . rename_i hc;cases hg;cases v6 hx;cases dI hy;exact ⟨_,_,rfl,rfl,hC _ _ hc,q _ G H (.refl s) (.int _)⟩
   . cases hg
 . cases hg
noncomputable def gSub':W->W->Option W:=gI λ i j=>i-j
theorem Ej:DR K ρ (vG λ i j=>.int (i-j)) gSub':=Ik
theorem vv:2^200<2^512:=Nat.pow_lt_pow_right (by decide) (by decide)
noncomputable def n9 (i j:Int):Bool:=decide (i.natAbs<2^64)||decide (j.natAbs<2^64)||(decide (i.natAbs<2^200)&&decide (j.natAbs<2^200))
noncomputable def DF (i j:Int):Prop:=BA i j∨CN i j
theorem K9 {X:Cx}:ir X (binaryOp .Mult) (rI DF λ i j=>.int (i*j)):=λ pins s σ H x y v u Q I rx ry h=>by
 obtain ⟨i,j,e1,e2,hc,q⟩:=h;rcases hc with hc | hc
 . exact FU pins s σ H x y v u Q I rx ry ⟨i,j,e1,e2,hc,q⟩
 . exact BV pins s σ H x y v u Q I rx ry ⟨i,j,e1,e2,hc,q⟩
noncomputable def oJ (i j:Int):Bool:=decide (j≠0)&&decide (j.natAbs<2^200)
noncomputable def ub (i j:Int):Bool:=decide (j≠0)
noncomputable def cw:W->W->Option W:=Bb n9 λ i j=>i*j
noncomputable def gD:W->W->Option W:=Bb oJ λ i j=>i.fdiv j
noncomputable def b6:W->W->Option W:=Bb ub λ i j=>i.fmod j
theorem E3:DR K ρ (rI DF λ i j=>.int (i*j)) cw:=vZ λ i j h=>by
 simp only [n9,OL,QI,OX] at h;rcases h with (h | h) | h
 . exact .inl (.inl ⟨by omega,by omega⟩)
 . exact .inl (.inr ⟨by omega,by omega⟩)
 . exact .inr ⟨Qi h.1 vv,Qi h.2 vv⟩
theorem Fd:DR K ρ (rI DC λ i j=>.int (i.fdiv j)) gD:=vZ λ i j h=>by
 simp only [oJ,OL,OX] at h;exact ⟨h.1,Qi h.2 vv⟩
theorem Fy:DR K ρ (rI (λ _ j=>j≠0) λ i j=>.int (i.fmod j)) b6:=vZ λ i j h=>by simpa [ub] using h
noncomputable def gQ:W->Option W
 | .int i=>some (.int (-i))
 | _=>none
noncomputable def qo (g:W->Option W) (f:DS->Option W):DS->Option W:=λ δ=>(f δ).bind g
theorem GJ {t:TE} {f:DS->Option W} (h:DE K ρ t f):DE K ρ (MK (rU λ i=>.int (-i)) t) (qo gQ f):=λ G σ H δ d Q R e q=>by
 obtain ⟨x,ex,e⟩:=oB e
 refine h G σ H δ x _ R ex λ v G1 H1 g1 dv=>?_;unfold gQ at e;split at e
 . cases e;cases dI dv;exact ⟨_,rfl,q _ G1 H1 g1 (.int _)⟩
 . cases e
noncomputable def cI (p:Int->Int->Bool):W->W->Option Bool
 | .int i,.int j=>some (p i j)
 | _,_=>none
theorem Ei {p:Int->Int->Bool}:DB K ρ (vG λ i j=>.bl (p i j)) (cI p):=λ H x y d e b Q hx hy hg q=>by
 unfold cI at hg;split at hg
 . cases hg;cases dI hx;cases dI hy;exact ⟨_,_,rfl,rfl,q⟩
 . cases hg
noncomputable def sO:W->W->Option Bool:=cI λ i j=>decide (i<j)
noncomputable def Km:W->W->Option Bool:=cI λ i j=>decide (i<=j)
noncomputable def NV:W->W->Option Bool:=cI λ i j=>decide (j<i)
noncomputable def ER:W->W->Option Bool:=cI λ i j=>decide (j<=i)
theorem J7:DB K ρ (vG λ i j=>.bl (decide (i<j))) sO:=Ei
theorem IW:DB K ρ (vG λ i j=>.bl (decide (i<=j))) Km:=Ei
theorem JE:DB K ρ (vG λ i j=>.bl (decide (j<=i))) ER:=Ei
noncomputable def KB:W->Bool
 | .none=>true
 | _=>false
noncomputable def mf:W->W->Option Bool
 | d,.none=>some (KB d)
 | _,_=>none
theorem wE {H:Hp} {x:V} {d:W} (h:Dw K ρ H x d):decide (x=.non)=KB d:=by
 cases h <;> simp [KB]
theorem G9:DB K ρ (λ x y H Q=>y=.non/\Q (.bl (decide (x=.non))) H) mf:=λ H x y d e b Q hx hy hg q=>by
 unfold mf at hg;split at hg
 . cases hg;cases v9 hy;exact ⟨rfl,by rw [wE hx];exact q⟩
 . cases hg
noncomputable def eW:W->W->Option Bool
 | d,.none=>some (!(KB d))
 | _,_=>none
theorem Cz:DB K ρ (λ x y H Q=>y=.non/\Q (.bl (!decide (x=.non))) H) eW:=λ H x y d e b Q hx hy hg q=>by
 unfold eW at hg;split at hg
 . cases hg;cases v9 hy;exact ⟨rfl,by rw [wE hx];exact q⟩
 . cases hg
noncomputable def O2:W->Option Bool
 | .none=>some true
 | .int _=>some false
 | .bool _=>some false
 | .str _=>some false
 | _=>none
noncomputable def NM (i:Int):W->Option Bool
 | .none=>some false
 | .int j=>some (decide (i=j))
 | .str _=>some false
 | _=>none
noncomputable def Ny (i:Bool):W->Option Bool
 | .none=>some false
 | .bool j=>some (decide (i=j))
 | .str _=>some false
 | _=>none
noncomputable def NI (i:Str):W->Option Bool
 | .none=>some false
 | .int _=>some false
 | .bool _=>some false
 | .str j=>some (decide (i=j))
 | _=>none
noncomputable def Kn:W->W->Option Bool
 | .none,e=>O2 e
 | .int i,e=>NM i e
 | .bool i,e=>Ny i e
 | .str i,e=>NI i e
 | _,_=>none
theorem v4 {H:Hp} {x y:V} {d e:W} {b:Bool} (hx:Dw K ρ H x d) (hy:Dw K ρ H y e) (h:Kn d e=some b):Gj x y=true/\decide (x=y)=b:=by
 cases hx with
 | non=>cases hy <;> first | (cases h;exact ⟨rfl,by simp⟩) | cases h
 | int i=>cases hy <;> first | (cases h;exact ⟨rfl,by simp⟩) | cases h
 | bl i=>cases hy <;> first | (cases h;exact ⟨rfl,by simp⟩) | cases h
 | str i=>cases hy <;> first | (cases h;exact ⟨rfl,by simp⟩) | cases h
 | _=>cases h
noncomputable def bJ (d e:W):Option Bool:=match Kn d e with
 | some b=>some b
 | none=>d.py.bind λ a=>e.py.bind λ b=>if (a.canLay0&&b.canLay0&&decide (a.depth<=64))=true then some (PyData.eqv a b) else none
noncomputable def Ev (K:Frag):R2:=λ x y H Q=>MZ x y H Q∨C5 K false x y H Q
noncomputable def E7 (K:Frag):R2:=λ x y H Q=>MN x y H Q∨C5 K true x y H Q
theorem Mh {X:Cx} {K:Frag} (h:X.K=K) (hu:X.A.units+64<cLine):ir X (compareOp .Eq) (Ev K):=h▸JD.or (Fo hu)
theorem LC {X:Cx} {K:Frag} (h:X.K=K) (hu:X.A.units+64<cLine):ir X (compareOp .NotEq) (E7 K):=h▸HK.or (Fq hu)
theorem Jj:DB K ρ (Ev K) bJ:=λ H x y d e b Q hx hy hg q=>by
 unfold bJ at hg;split at hg
 . rename_i b' hb;cases hg;obtain ⟨h1,h2⟩:=v4 hx hy hb;exact .inl ⟨h1,by rw [h2];exact q⟩
 . obtain ⟨a,ea,hg⟩:=oB hg
   obtain ⟨b,eb,hg⟩:=oB hg
   split at hg
   . rename_i hc;cases hg;simp only [OL,OX] at hc;exact .inr ⟨a,b,hx.dp ea,hy.dp eb,hc.1.1,hc.1.2,hc.2,q⟩
   . cases hg
noncomputable def tX (d e:W):Option Bool:=(bJ d e).map (!·)
theorem Ji:DB K ρ (E7 K) tX:=λ H x y d e b Q hx hy hg q=>by
 obtain ⟨c,hg',rfl⟩:=oM hg
 unfold bJ at hg';split at hg'
 . rename_i b' hb;cases hg';obtain ⟨h1,h2⟩:=v4 hx hy hb;exact .inl ⟨h1,by rw [h2];exact q⟩
 . obtain ⟨a,ea,hg'⟩:=oB hg'
   obtain ⟨b,eb,hg'⟩:=oB hg'
   split at hg'
   . rename_i hc;cases hg';simp only [OL,OX] at hc;exact .inr ⟨a,b,hx.dp ea,hy.dp eb,hc.1.1,hc.1.2,hc.2,q⟩
   . cases hg'
noncomputable def bC:W->W->Option W
 | .list ds,.int i=>iO ds i
 | .tuple ds,.int i=>iO ds i
 | .str z,.int i=>if z.length<=sizeLine then (iO z.cps.toList i).map λ c=>.str ⟨#[c]⟩ else none
 | _,_=>none
theorem aF.at {G:Hp} {vs:List V} {ds:List W} {i:Int} {d:W} (h:aF K ρ G vs ds) (e:iO ds i=some d):∃ v,iO vs i=some v/\Dw K ρ G v d:=by
 unfold iO at e ⊢;rw [h.length];obtain ⟨j,h1,h2⟩:=oB e
 obtain ⟨v,h3,h4⟩:=h.get h2;exact ⟨v,Option.bind_eq_some_iff.mpr ⟨j,h1,h3⟩,h4⟩
theorem Dr:DR K ρ (Kl K) bC:=λ G H x y d e c Q s hx hy hg q=>by
 cases e with
 | int i=>
  cases dI hy;cases d with
  | list ds=>
   obtain ⟨p,vs,rfl,sq,da⟩:=jF s hx;obtain ⟨v,h1,h2⟩:=da.at hg;exact .inl ⟨p,vs,_,v,rfl,rfl,sq,h1,q v G H (.refl s) h2⟩
  | tuple ds=>
   obtain ⟨p,vs,rfl,sq,da⟩:=rq hx;obtain ⟨v,h1,h2⟩:=da.at hg;exact .inr (.inl ⟨p,vs,_,v,rfl,rfl,s.tup (gW.of sq),h1,q v G H (.refl s) h2⟩)
  | str z=>
   by_cases hz:z.length<=sizeLine
   . obtain ⟨c',h1,rfl⟩:=oM ((OG hz).symm.trans hg)
     cases rW hx;exact .inr (.inr ⟨_,_,c',rfl,rfl,hz,h1,q _ G H (.refl s) (.str _)⟩)
   . cases (OT hz).symm.trans hg
  | _=>cases hg
 | _=>cases d <;> cases hg
noncomputable def kE (xs:List W) (lo hi:Option Int):List W:=(xs.drop (HT.sIx xs.length 0 lo)).take (HT.sIx xs.length xs.length hi-HT.sIx xs.length 0 lo)
theorem aF.cut {G:Hp} {vs:List V} {ds:List W} (h:aF K ρ G vs ds) (lo hi:Option Int):aF K ρ G (tU vs lo hi) (kE ds lo hi):=by
 unfold tU kE;rw [h.length];exact (h.drop _).take _
noncomputable def Jn (K:Frag) (ρ:List Addr) (t:TO) (f:DS->Option (Option Int)):Prop:=
 ∀ (G:Hp) (σ:St) (H:Hp) (δ:DS) (x:Option Int) (Q:Option Int->Hp->Prop),Rl K ρ G H δ σ->f δ=some x->(∀ G' H',Gr G H G' H'->Q x H')->t σ H Q
noncomputable def ja:DS->Option (Option Int):=λ _=>some none
noncomputable def AY:W->Option Int
 | .int i=>some i
 | _=>none
theorem oV {d:W} {i:Int} (h:AY d=some i):d=.int i:=by
 cases d <;> first | (cases h;rfl) | cases h
noncomputable def hW (f:DS->Option W):DS->Option (Option Int):=λ δ=>(f δ).bind λ d=>(AY d).map some
theorem zQ:Jn K ρ rG ja:=λ G σ H δ x Q R e q=>by
 cases e;exact q G H (.refl R.sub)
theorem zu {t:TE} {f:DS->Option W} (h:DE K ρ t f):Jn K ρ (xW t) (hW f):=λ G σ H δ x Q R e q=>by
 obtain ⟨d,ed,e⟩:=oB e
 obtain ⟨i,ei,rfl⟩:=oM e
 cases oV ei;exact h G σ H δ _ _ R ed λ v G1 H1 g1 dv=>by
  cases dI dv;exact ⟨i,rfl,q G1 H1 g1⟩
noncomputable def qD:W->Option (List W)
 | .list ds=>some ds
 | _=>none
theorem lS {d:W} {ds:List W} (h:qD d=some ds):d=.list ds:=by
 cases d <;> first | (cases h;rfl) | cases h
noncomputable def pj (f:DS->Option W) (lo hi:DS->Option (Option Int)):DS->Option (List W):=λ δ=>(f δ).bind λ d=>(qD d).bind λ ds=>(lo δ).bind λ l=>(hi δ).map λ u=>kE ds l u
theorem FY {t:TE} {tl th:TO} {f:DS->Option W} {lo hi:DS->Option (Option Int)} (h:DK K ρ t f) (hl:Jn K ρ tl lo) (hh:Jn K ρ th hi):DO K ρ (KZ (vO K) t tl th) (pj f lo hi):=λ G σ H δ ds Q R e q=>by
 obtain ⟨d,ed,e⟩:=oB e
 obtain ⟨es,ee,e⟩:=oB e
 obtain ⟨l,el,e⟩:=oB e
 obtain ⟨u,eu,rfl⟩:=oM e
 cases lS ee;refine h G σ H δ _ _ R ed λ v G1 H1 g1 dv=>hl G1 σ H1 δ l _ (R.grow g1) el λ G2 H2 g2=>hh G2 σ H2 δ u _ ((R.grow g1).grow g2) eu λ G3 H3 g3=>?_;have g23:=g2.trans g3;obtain ⟨p,vs,rfl,sq,da⟩:=jF g23.s (dv.grow g23);refine ⟨p,vs,rfl,sq,λ r H' n=>?_⟩;have g:=g1.trans g23;exact q r _ G3 H' (g.trans (.nwO g.s n)) (dX g.h n.2.1) (dX g.s n.2.1) n.2.2 (da.cut l u)
noncomputable def Ha (K:Frag) (ρ:List Addr) (r:List V->Hp->VK->Prop) (g:W->Option W):Prop:=
 ∀ (G H:Hp) (x:V) (d c:W) (Q:VK),bB G H->Pk K ρ G H x d->g d=some c->(∀ v G' H',Gr G H G' H'->Dw K ρ G' v c->Q v H')->r [x] H Q
noncomputable def kj (g:W->Option W) (f:DS->Option W):DS->Option W:=λ δ=>(f δ).bind g
theorem Hr {r:List V->Hp->VK->Prop} {g:W->Option W} {t:TE} {f:DS->Option W} (hr:Ha K ρ r g) (h:DK K ρ t f):DE K ρ (wY r (iz t kT)) (kj g f):=λ G σ H δ d Q R e q=>by
 obtain ⟨x,ex,e⟩:=oB e
 exact h G σ H δ x _ R ex λ v G1 H1 g1 dv=>hr G1 H1 v x d Q g1.s dv e λ u G2 H2 g2 du=>q u G2 H2 (g1.trans g2) du
noncomputable def wD (K:Frag):List V->Hp->VK->Prop:=λ xs H Q=>Jh K xs H Q∨CQ xs H Q
theorem wU {X:Cx} {K:Frag} (h:X.K=K):cU X (.builtin "len") (wD K):=(pN h).or pL
noncomputable def jD:W->Option W
 | .list ds=>some (.int ds.length)
 | .tuple ds=>some (.int ds.length)
 | .str z=>if z.length<=sizeLine then some (.int z.length) else none
 | _=>none
theorem yh:Ha K ρ (wD K) jD:=λ G H x d c Q s hx hg q=>by
 unfold jD at hg;split at hg
 . cases hg;obtain ⟨p,vs,rfl,sq,da⟩:=jF s hx;exact .inl ⟨p,vs,rfl,.inl sq,by rw [da.length];exact q _ G H (.refl s) (.int _)⟩
 . cases hg;obtain ⟨p,vs,rfl,sq,da⟩:=rq hx;exact .inl ⟨p,vs,rfl,.inr (s.tup (gW.of sq)),by rw [da.length];exact q _ G H (.refl s) (.int _)⟩
 . split at hg
   . rename_i hz;cases hg;cases rW hx;exact .inr ⟨_,rfl,hz,q _ G H (.refl s) (.int _)⟩
   . cases hg
 . cases hg
noncomputable def lF (f:DS->Option W):DS->Option (List W):=λ δ=>(f δ).bind vm
theorem BY {t:TE} {f:DS->Option W} (h:DK K ρ t f):DO K ρ (wY (nW K) (iz t kT)) (lF f):=λ G σ H δ ds Q R e q=>by
 obtain ⟨x,ex,e⟩:=oB e
 refine h G σ H δ x _ R ex λ v G1 H1 g1 dv=>?_;have fin:∀ (vs:List V) (l:Addr),aF K ρ G1 vs ds->H1 l=none->Q (.ref l) (cE H1 l (.lst vs)):=λ vs l da hl=>by
  have n:Nw H1 (cE H1 l (.lst vs)) l (.lst vs):=.of hl;exact q l vs G1 _ (g1.trans (.nwO g1.s n)) (dX g1.h hl) (dX g1.s hl) aG da
 unfold vm at e;split at e
 . cases e;obtain ⟨p,vs,rfl,sq,da⟩:=jF g1.s dv;exact ⟨p,vs,rfl,.inl sq,λ l hl=>fin vs l da hl⟩
 . cases e;obtain ⟨p,vs,rfl,sq,da⟩:=rq dv;exact ⟨p,vs,rfl,.inr (g1.s.tup (gW.of sq)),λ l hl=>fin vs l da hl⟩
 . cases e
noncomputable def ku (T:String):W->Option W
 | .int i=>(yc (.int i) T).map .bool
 | .bool i=>(yc (.bl i) T).map .bool
 | .str i=>(yc (.str i) T).map .bool
 | _=>none
theorem FP {T:String} {t:TE} {f:DS->Option W} (h:DE K ρ t f):DE K ρ (wY DZ (iz t (iz (tC (.ty T)) kT))) (kj (ku T) f):=λ G σ H δ d Q R e q=>by
 obtain ⟨x,ex,e⟩:=oB e
 refine h G σ H δ x _ R ex λ v G1 H1 g1 dv=>?_;unfold ku at e;split at e;all_goals first
  | cases e
  | (obtain ⟨k,ek,rfl⟩:=oM e
     cases dv;exact ⟨_,T,k,rfl,ek,q _ G1 H1 g1 (.bl k)⟩)
end
section
variable {X:Cx} {tg:Expr}
end
section
variable {K:Frag} {ρ:List Addr}
end
theorem lr:∀ {ns:List Int} {its:List Value},bi (ns.map V.int) its->∃ l:List (Int×Tok),its=l.map (λ p=>.int p.1 p.2)/\l.map (·.1)=ns
 | [],_,.nil=>⟨[],rfl,rfl⟩
 | n::ns,_,.cons r t=>by
  obtain ⟨l,e1,e2⟩:=lr t;obtain ⟨tk,rfl⟩:=r;exact ⟨(n,tk)::l,by rw [e1];rfl,by rw [OK,e2]⟩
noncomputable def wG (K:Frag):List V->Hp->VK->Prop:=λ xs H Q=>∃ (a:Addr) (ns:List Int),xs=[.ref a]/\eC K H a (ns.map V.int)/\PySem.SumFits ns/\Q (.int ns.sum) H
noncomputable def vD (K:Frag):List V->Hp->VK->Prop:=λ xs H Q=>∃ (a:Addr) (ns:List Int),xs=[.ref a]/\eC K H a (ns.map V.int)/\0<ns.length/\∀ M,M∈ns->(∀ n∈ns,n<=M)->Q (.int M) H
noncomputable def wc (K:Frag):List V->Hp->VK->Prop:=λ xs H Q=>∃ (a:Addr) (ns:List Int),xs=[.ref a]/\eC K H a (ns.map V.int)/\0<ns.length/\∀ M,M∈ns->(∀ n∈ns,M<=n)->Q (.int M) H
section
variable {X:Cx}
theorem p5 (l:List (Int×Tok)):(l.map (λ p=>Value.int p.1 p.2)).toArray=intItems l.toArray:=by simp [intItems]
theorem call_sum' (hc:X.calm=true):cU X (.builtin "sum") (wG X.K):=by
 intro pins s σ H xs us Q I r h;obtain ⟨a,ns,rfl,hq,hf,q⟩:=h;obtain ⟨u,rfl,ru⟩:=mZ r;cases ru;obtain ⟨its,rv,pl,_⟩:=I.list hq;obtain ⟨l,rfl,rfl⟩:=lr rv;refine sum_intList (xs:=l.toArray) (I.ok.hd hc) (by rw [<-p5];exact pl.isList) (λ j hj=>?_) λ h' tk t' hk=>?_
 . rw [numAt_eq,preSum_eq];exact hf j (by simpa using hj)
 . rw [preSum_eq,Pz (by simp)];exact ⟨.int _,H,I.kept hk,⟨_,rfl⟩,q⟩
theorem call_max' (hc:X.calm=true):cU X (.builtin "max") (vD X.K):=by
 intro pins s σ H xs us Q I r h;obtain ⟨a,ns,rfl,hq,hf,q⟩:=h;obtain ⟨u,rfl,ru⟩:=mZ r;cases ru;obtain ⟨its,rv,pl,_⟩:=I.list hq;obtain ⟨l,rfl,rfl⟩:=lr rv;have hsz:0<l.toArray.size:=by simpa using hf
 refine max_intList (xs:=l.toArray) (I.ok.hd hc) (by rw [<-p5];exact pl.isList) hsz λ v h' tk hv hk=>?_;obtain ⟨t,rfl⟩:=intItems_at hv;obtain ⟨h1,h2⟩:=argBest_gt (numAt l.toArray) (l.toArray.size-1);refine ⟨.int _,H,I.kept hk,⟨_,rfl⟩,q _ ?_ λ n hn=>?_⟩
 . rw [numAt_eq];have e:l.toArray.toList.length=l.toArray.size:=by simp
   have e2:l.toArray.toList.length=l.length:=by simp
   exact getD_mem (by rw [OH];omega)
 . obtain ⟨j,hj,rfl⟩:=mem_getD hn;rw [OH] at hj;have:=h2 j (by simp;omega);rw [numAt_eq (xs:=l.toArray) (j)] at this;exact this
theorem call_min' (hc:X.calm=true):cU X (.builtin "min") (wc X.K):=by
 intro pins s σ H xs us Q I r h;obtain ⟨a,ns,rfl,hq,hf,q⟩:=h;obtain ⟨u,rfl,ru⟩:=mZ r;cases ru;obtain ⟨its,rv,pl,_⟩:=I.list hq;obtain ⟨l,rfl,rfl⟩:=lr rv;have hsz:0<l.toArray.size:=by simpa using hf
 refine min_intList (xs:=l.toArray) (I.ok.hd hc) (by rw [<-p5];exact pl.isList) hsz λ v h' tk hv hk=>?_;obtain ⟨t,rfl⟩:=intItems_at hv;obtain ⟨h1,h2⟩:=argBest_lt (numAt l.toArray) (l.toArray.size-1);refine ⟨.int _,H,I.kept hk,⟨_,rfl⟩,q _ ?_ λ n hn=>?_⟩
 . rw [numAt_eq];have e:l.toArray.toList.length=l.toArray.size:=by simp
   have e2:l.toArray.toList.length=l.length:=by simp
   exact getD_mem (by rw [OH];omega)
 . obtain ⟨j,hj,rfl⟩:=mem_getD hn;rw [OH] at hj;have:=h2 j (by simp;omega);rw [numAt_eq (xs:=l.toArray) (j)] at this;exact this
theorem xo {K:Frag} (h:X.K=K) (hc:X.calm=true):cU X (.builtin "sum") (wG K):=h▸call_sum' hc
theorem wW {K:Frag} (h:X.K=K) (hc:X.calm=true):cU X (.builtin "max") (vD K):=h▸call_max' hc
theorem xl {K:Frag} (h:X.K=K) (hc:X.calm=true):cU X (.builtin "min") (wc K):=h▸call_min' hc
end
section
variable {K:Frag} {ρ:List Addr}
noncomputable def qv:List W->Option (List Int)
 | []=>some []
 | d::ds=>(AY d).bind λ i=>(qv ds).map (i::·)
theorem jQ:∀ (ns:List Int),qv (ns.map .int)=some ns
 | []=>rfl
 | n::ns=>by
  show (some n).bind _=_;rw [jQ ns];rfl
theorem iZ {G:Hp}:∀ {vs:List V} {ds:List W} {ns:List Int},aF K ρ G vs ds->qv ds=some ns->vs=ns.map V.int
 | _,_,_,.nil,e=>by cases e;rfl
 | _,_,_,.cons h t,e=>by
  obtain ⟨i,e1,e⟩:=oB e
  obtain ⟨ms,e2,rfl⟩:=oM e
  cases oV e1;cases dI h;rw [iZ t e2];rfl
noncomputable def A0 (ns:List Int):Bool:=ns.all (λ n=>decide (n.natAbs<2^40))&&decide (ns.length<=1000000)
theorem ww:∀ (ns:List Int),(∀ n∈ns,n.natAbs<2^40)->ns.sum.natAbs<=ns.length*2^40
 | [],_=>by simp
 | n::ns,h=>by
  have h1:=h n (by simp);have h2:=ww ns λ m hm=>h m (by simp [hm]);rw [List.sum_cons,OF];omega
theorem AL {ns:List Int} (h:A0 ns=true):PySem.SumFits ns:=by
 simp only [A0,OL,Qa,OX] at h;intro j hj;have a:ns.getD j 0∈ns:=getD_mem hj;have h1:=h.1 _ a;have h2:=ww (ns.take (j+1)) λ n hn=>h.1 n (QE hn);have h3:(ns.take (j+1)).length<=1000000:=by rw [Qr];omega
 have h4:(ns.take (j+1)).sum.natAbs<=1000000*2^40:=OY h2 (Nat.mul_le_mul_right _ h3);unfold InLong;constructor <;> omega
noncomputable def xD (d:W):Option W:=(qD d).bind λ ds=>(qv ds).bind λ ns=>if A0 ns=true then some (.int ns.sum) else none
theorem GI:Ha K ρ (wG K) xD:=λ G H x d c Q s hx hg q=>by
 obtain ⟨ds,e1,hg⟩:=oB hg
 obtain ⟨ns,e2,hg⟩:=oB hg
 split at hg
 . rename_i hf;cases hg;cases lS e1;obtain ⟨p,vs,rfl,sq,da⟩:=jF s hx;rw [iZ da e2] at sq;exact ⟨p,ns,rfl,sq,AL hf,q _ G H (.refl s) (.int _)⟩
 . cases hg
noncomputable def yv:List Int->Int
 | []=>0
 | n::r=>r.foldl max n
noncomputable def yw:List Int->Int
 | []=>0
 | n::r=>r.foldl min n
theorem mw:∀ (r:List Int) (n:Int),n<=r.foldl max n/\(∀ m∈r,m<=r.foldl max n)/\(r.foldl max n=n∨r.foldl max n∈r)
 | [],n=>by simp
 | m::r,n=>by
  obtain ⟨h1,h2,h3⟩:=mw r (max n m);rw [List.foldl_cons];refine ⟨by omega,λ k hk=>?_,?_⟩
  . rcases OO.mp hk with rfl | hk
    . omega
    . exact h2 k hk
  . rcases h3 with h3 | h3
    . by_cases hnm:n<=m
      . right;rw [h3,Int.max_eq_right hnm];simp
      . left;rw [h3];omega
    . right;simp [h3]
theorem ma:∀ (r:List Int) (n:Int),r.foldl min n<=n/\(∀ m∈r,r.foldl min n<=m)/\(r.foldl min n=n∨r.foldl min n∈r)
 | [],n=>by simp
 | m::r,n=>by
  obtain ⟨h1,h2,h3⟩:=ma r (min n m);rw [List.foldl_cons];refine ⟨by omega,λ k hk=>?_,?_⟩
  . rcases OO.mp hk with rfl | hk
    . omega
    . exact h2 k hk
  . rcases h3 with h3 | h3
    . by_cases hnm:m<=n
      . right;rw [h3,Int.min_eq_right hnm];simp
      . left;rw [h3];omega
    . right;simp [h3]
theorem B5 {ns:List Int} {M:Int} (h:0<ns.length) (hm:M∈ns) (hb:∀ n∈ns,n<=M):M=yv ns:=by
 cases ns with
 | nil=>cases hm
 | cons n r=>
  obtain ⟨h1,h2,h3⟩:=mw r n;show M=r.foldl max n;have ha:M<=r.foldl max n:=by
   rcases OO.mp hm with rfl | hm
   . exact h1
   . exact h2 M hm
  have hb2:r.foldl max n<=M:=by
   rcases h3 with h3 | h3
   . rw [h3];exact hb n (by simp)
   . exact hb _ (by simp [h3])
  omega
theorem Bz {ns:List Int} {M:Int} (h:0<ns.length) (hm:M∈ns) (hb:∀ n∈ns,M<=n):M=yw ns:=by
 cases ns with
 | nil=>cases hm
 | cons n r=>
  obtain ⟨h1,h2,h3⟩:=ma r n;show M=r.foldl min n;have ha:r.foldl min n<=M:=by
   rcases OO.mp hm with rfl | hm
   . exact h1
   . exact h2 M hm
  have hb2:M<=r.foldl min n:=by
   rcases h3 with h3 | h3
   . rw [h3];exact hb n (by simp)
   . exact hb _ (by simp [h3])
  omega
noncomputable def yA (d:W):Option W:=(qD d).bind λ ds=>(qv ds).bind λ ns=>if 0<ns.length then some (.int (yv ns)) else none
noncomputable def yo (d:W):Option W:=(qD d).bind λ ds=>(qv ds).bind λ ns=>if 0<ns.length then some (.int (yw ns)) else none
theorem EI:Ha K ρ (vD K) yA:=λ G H x d c Q s hx hg q=>by
 obtain ⟨ds,e1,hg⟩:=oB hg
 obtain ⟨ns,e2,hg⟩:=oB hg
 split at hg
 . rename_i hf;cases hg;cases lS e1;obtain ⟨p,vs,rfl,sq,da⟩:=jF s hx;rw [iZ da e2] at sq;exact ⟨p,ns,rfl,sq,hf,λ M h1 h2=>by rw [B5 hf h1 h2];exact q _ G H (.refl s) (.int _)⟩
 . cases hg
theorem Gk:Ha K ρ (wc K) yo:=λ G H x d c Q s hx hg q=>by
 obtain ⟨ds,e1,hg⟩:=oB hg
 obtain ⟨ns,e2,hg⟩:=oB hg
 split at hg
 . rename_i hf;cases hg;cases lS e1;obtain ⟨p,vs,rfl,sq,da⟩:=jF s hx;rw [iZ da e2] at sq;exact ⟨p,ns,rfl,sq,hf,λ M h1 h2=>by rw [Bz hf h1 h2];exact q _ G H (.refl s) (.int _)⟩
 . cases hg
end
theorem d7 (i j:Int):bI (.int i) (.int j)=some (.int (i+j)):=rfl
theorem yt {a b:Str} (h:a.length+b.length<=sizeLine):bI (.str a) (.str b)=some (.str (a++b)):=OG h
theorem iq (i j:Int):gSub' (.int i) (.int j)=some (.int (i-j)):=rfl
theorem fM {i j:Int} (h:n9 i j=true):cw (.int i) (.int j)=some (.int (i*j)):=by simp only [cw,Bb,OG h]
theorem vB {i j:Int} (h:oJ i j=true):gD (.int i) (.int j)=some (.int (i.fdiv j)):=by simp only [gD,Bb,OG h]
theorem GN {i j:Int} (h:ub i j=true):b6 (.int i) (.int j)=some (.int (i.fmod j)):=by simp only [b6,Bb,OG h]
theorem DU (i:Int):gQ (.int i)=some (.int (-i)):=rfl
theorem fW {i j:Int} (h1 : -(2^64)<i) (h2:i<2^64):n9 i j=true:=by
 simp only [n9,OL,QI,OX];exact .inl (.inl (by omega))
theorem si {i j:Int} (h1 : -(2^64)<j) (h2:j<2^64):n9 i j=true:=by
 simp only [n9,OL,QI,OX];exact .inl (.inr (by omega))
theorem zM {i j:Int} (h1:0<j) (h2:j<2^64):oJ i j=true:=by
 have e:(2:Nat)^64<2^200:=Nat.pow_lt_pow_right (by decide) (by decide);simp only [oJ,OL,OX];exact ⟨by omega,Qi (by omega) e⟩
theorem xP {i j:Int} (h:j≠0):ub i j=true:=by simp [ub,h]
theorem fq (i:Int) {j:Int} (h1:0<j) (h2:j<2^64):gD (.int i) (.int j)=some (.int (i.fdiv j)):=vB (zM h1 h2)
theorem b3 (i:Int) {j:Int} (h1:j≠0):b6 (.int i) (.int j)=some (.int (i.fmod j)):=GN (xP h1)
theorem zy (b:Bool):AB (.bool b)=some b:=rfl
theorem vV (i:Int):AY (.int i)=some i:=rfl
theorem jY (ds:List W):qD (.list ds)=some ds:=rfl
theorem Fc (ds:List W):vm (.list ds)=some ds:=rfl
theorem FQ (ds:List W):vm (.tuple ds)=some ds:=rfl
theorem DV (ds:List W):jD (.list ds)=some (.int ds.length):=rfl
theorem FJ (ds:List W):jD (.tuple ds)=some (.int ds.length):=rfl
theorem CM (ds:List W) (i:Int):bC (.list ds) (.int i)=iO ds i:=rfl
theorem qK (ds:List W) (i:Int):bC (.tuple ds) (.int i)=iO ds i:=rfl
theorem Jr (i j:Int):bJ (.int i) (.int j)=some (decide (i=j)):=rfl
theorem DD (i j:Str):bJ (.str i) (.str j)=some (decide (i=j)):=rfl
theorem IF (i j:Bool):bJ (.bool i) (.bool j)=some (decide (i=j)):=rfl
theorem Ie (i j:Int):tX (.int i) (.int j)=some (!decide (i=j)):=rfl
theorem IB (i j:Str):tX (.str i) (.str j)=some (!decide (i=j)):=rfl
theorem qC (i j:Int):sO (.int i) (.int j)=some (decide (i<j)):=rfl
theorem CS (i j:Int):Km (.int i) (.int j)=some (decide (i<=j)):=rfl
theorem JO (i j:Int):NV (.int i) (.int j)=some (decide (j<i)):=rfl
theorem JR (i j:Int):ER (.int i) (.int j)=some (decide (j<=i)):=rfl
theorem BS (i:Int):eW (.int i) .none=some true:=rfl
theorem Cg:eW .none .none=some false:=rfl
theorem B8 (i:Str):eW (.str i) .none=some true:=rfl
theorem AH (i:List W):eW (.list i) .none=some true:=rfl
theorem BL (i:List W):eW (.tuple i) .none=some true:=rfl
theorem Gb (i:Int):mf (.int i) .none=some false:=rfl
theorem Fh:mf .none .none=some true:=rfl
theorem GD (i:Str):mf (.str i) .none=some false:=rfl
theorem EF (i:List W):mf (.list i) .none=some false:=rfl
theorem Gm (i:List W):mf (.tuple i) .none=some false:=rfl
theorem B9 (i:Int):ku "int" (.int i)=some (.bool true):=rfl
theorem zR (i:Int):ku "bool" (.int i)=some (.bool false):=rfl
theorem Bm (i:Str):ku "str" (.str i)=some (.bool true):=rfl
theorem ba {f g:DS->Option fZ} {δ δ1:DS} {o:Option fZ} (h1:f δ=some (.nx δ1)) (h2:g δ1=o):bF f g δ=o:=by
 unfold bF;rw [h1];exact h2
theorem eG {a n:Nat} {fb:DS->Option fZ} {ds:List W} {d:W} (hl:ds.length=a) (h:fb (fE n ds)=some (.rt d)):fz a n fb ds=some d:=by
 unfold fz;rw [OG hl,h];rfl
theorem aT {f:DS->Option W} {h:W->DS->Option DS} {δ δ':DS} {d:W} (h1:f δ=some d) (h2:h d δ=some δ'):bz f h δ=some (.nx δ'):=by
 unfold bz;rw [h1];show (h d δ).map fZ.nx=_;rw [h2];rfl
theorem aV {f:DS->Option W} {δ:DS} {d:W} (h1:f δ=some d):aW f δ=some (.rt d):=by
 unfold aW;rw [h1];rfl
theorem aX {c:DS->Option Bool} {f g:DS->Option fZ} {δ:DS} {b:Bool} {o:Option fZ} (h1:c δ=some b) (h2:(if b=true then f δ else g δ)=o):cB c f g δ=o:=by
 unfold cB;rw [h1];exact h2
inductive Ob where
 | lst (ds:List W)
 | dK (kvs:List (bn×W))
 | dT (kvs:List (List bn×W))
 | dN (kvs:List (List bn×W))
 | ins (c:Str) (fs:List (Str×W))
noncomputable abbrev ai:=List Ob
inductive gP (K:Frag) (ρ:List Addr) (G:Hp) {κ:Type}:List (κ×W)->List (κ×V)->Prop
 | nil:gP K ρ G [] []
 | cons {k:κ} {d:W} {v:V} {l:List (κ×W)} {m:List (κ×V)}:Dw K ρ G v d->gP K ρ G l m->gP K ρ G ((k,d)::l) ((k,v)::m)
noncomputable def Ay (K:Frag) (ρ:List Addr) (cl:Str->Addr) (G H:Hp) (a:Addr):Ob->Prop
 | .lst ds=>∃ vs,H a=some (.lst vs)/\aF K ρ G vs ds
 | .dK kvs=>∃ ws,H a=some (.dK ws)/\gP K ρ G kvs ws
 | .dT kvs=>∃ ws,H a=some (.dT ws)/\gP K ρ G kvs ws
 | .dN kvs=>∃ ws,H a=some (.dN ws)/\gP K ρ G kvs ws
 | .ins c fs=>∃ dx ws,H a=some (.ins (cl c) dx ws)/\G dx=none/\H dx=some (.own a)/\gP K ρ G fs ws
theorem wb {ρ ρ':List Addr} (h:ρ <+: ρ') (n:Nat) (a:Addr) (e:ρ[n]?=some a):ρ'[n]?=some a:=by
 obtain ⟨t,rfl⟩:=h;rw [OR (oG e).1];exact e
theorem Dw.ext {K:Frag} {ρ ρ':List Addr} {G:Hp} (h:ρ <+: ρ') {v:V} {d:W} (q:Dw K ρ G v d):Dw K ρ' G v d:=q.mapG (λ _ _ q=>q) (λ _ _ q=>q) (wb h)
theorem aF.ext {K:Frag} {ρ ρ':List Addr} {G:Hp} (h:ρ <+: ρ') {vs:List V} {ds:List W} (q:aF K ρ G vs ds):aF K ρ' G vs ds:=q.mapA λ _ _ a=>a.ext h
theorem gP.ext {K:Frag} {ρ ρ':List Addr} {G G':Hp} {κ:Type} (h:ρ <+: ρ') (g:bB G G') {l:List (κ×W)} {m:List (κ×V)} (q:gP K ρ G l m):gP K ρ' G' l m:=by
 induction q with
 | nil=>exact .nil
 | cons a _ ih=>exact .cons ((a.ext h).same g) ih
theorem gP.lookup {K:Frag} {ρ:List Addr} {G:Hp} {κ:Type} [BEq κ] {k:κ} {l:List (κ×W)} {m:List (κ×V)} {d:W} (q:gP K ρ G l m):l.lookup k=some d->∃ v,m.lookup k=some v/\Dw K ρ G v d:=by
 induction q with
 | nil=>exact λ e=>by cases e
 | @cons j d v l m a _ ih=>
  intro e;simp only [List.lookup] at e ⊢;split at e
  . cases e;exact ⟨_,rfl,a⟩
  . exact ih e
theorem gP.lookup_none {K:Frag} {ρ:List Addr} {G:Hp} {κ:Type} [BEq κ] {k:κ} {l:List (κ×W)} {m:List (κ×V)} (q:gP K ρ G l m):l.lookup k=none->m.lookup k=none:=by
 induction q with
 | nil=>exact λ _=>rfl
 | @cons j d v l m a _ ih=>
  intro e;simp only [List.lookup] at e ⊢;split at e
  . cases e
  . exact ih e
theorem gP.length {K:Frag} {ρ:List Addr} {G:Hp} {κ:Type} {l:List (κ×W)} {m:List (κ×V)} (q:gP K ρ G l m):l.length=m.length:=by
 induction q with
 | nil=>rfl
 | cons _ _ ih=>exact OI (· + 1) ih
noncomputable def dF (f:Str) (v:W):List (Str×W)->List (Str×W)
 | []=>[(f,v)]
 | (g,x)::r=>if g=f then (g,v)::r else (g,x)::dF f v r
theorem gP.putF {K:Frag} {ρ:List Addr} {G:Hp} {f:Str} {v:V} {d:W} (h:Dw K ρ G v d) {l:List (Str×W)} {m:List (Str×V)} (q:gP K ρ G l m):gP K ρ G (dF f d l) (putF f v m):=by
 induction q with
 | nil=>exact .cons h .nil
 | cons a b ih=>
  unfold dF L2.putF;split
  . exact .cons h b
  . exact .cons a ih
structure SR (K:Frag) (ρ:List Addr) (cl:Str->Addr) (G H:Hp) (S:ai):Prop where
 len:ρ.length=S.length
 nd:ρ.Nodup
 ob:∀ (n:Nat) o,S[n]?=some o->∃ a,ρ[n]?=some a/\G a=none/\Ay K ρ cl G H a o
structure GS (ρ:List Addr) (G H:Hp) (ρ':List Addr) (G' H':Hp):Prop where
 r:ρ <+: ρ'
 g:bB G G'
 s:bB G' H'
 h:∀ b o,b∉ρ->H b=some o->H' b=some o
 k:∀ b,H b≠none->H' b≠none
 n:∀ b,nT H b->G b=none->G' b=none
 f:∀ a,a∈ρ'->a∉ρ->H a=none
 t:∀ b,nT H b->nT H' b
theorem GS.refl {ρ:List Addr} {G H:Hp} (s:bB G H):GS ρ G H ρ G H:=⟨PJ _,.refl _,s,λ _ _ _ e=>e,λ _ e=>e,λ _ _ e=>e,λ a h1 h2=>absurd h1 h2,λ _ e=>e⟩
theorem GS.of {ρ:List Addr} {G H G' H':Hp} (g:Gr G H G' H'):GS ρ G H ρ G' H':=⟨PJ _,g.g,g.s,λ b o _ e=>g.h b o e,λ b e=>sE g.h e,g.n,λ a h1 h2=>absurd h1 h2,λ _ e=>e.same g.h⟩
theorem GS.trans {ρ ρ1 ρ2:List Addr} {G H G1 H1 G2 H2:Hp} (a:GS ρ G H ρ1 G1 H1) (b:GS ρ1 G1 H1 ρ2 G2 H2):GS ρ G H ρ2 G2 H2:=
 ⟨a.r.trans b.r,a.g.trans b.g,b.s,λ c o hc e=>b.h c o (λ h1=>by rw [a.f c h1 hc] at e;cases e) (a.h c o hc e),λ c e=>b.k c (a.k c e),λ c h1 h2=>b.n c (a.t c h1) (a.n c h1 h2),(λ c h1 h2=>by
  by_cases h3:c∈ρ1
  . exact a.f c h3 h2
  . have:=b.f c h1 h3;cases e:H c with
    | none=>rfl
    | some o=>exact absurd this (a.k c (by rw [e];simp))),λ c e=>b.t c (a.t c e)⟩
section
variable {K:Frag} {cl:Str->Addr}
theorem Ay.move {ρ ρ':List Addr} {G H G' H':Hp} {a:Addr} (hr:ρ <+: ρ') (g:bB G G') (ha:H' a=H a) (hd:∀ dx,G dx=none->H dx=some (.own a)->H' dx=some (.own a)/\G' dx=none) {o:Ob} (h:Ay K ρ cl G H a o):Ay K ρ' cl G' H' a o:=by
 cases o with
 | lst ds=>
  obtain ⟨vs,h1,h2⟩:=h;exact ⟨vs,ha.trans h1,(h2.ext hr).same g⟩
 | ins c fs=>
  obtain ⟨dx,ws,h1,h2,h3,h4⟩:=h;exact ⟨dx,ws,ha.trans h1,(hd dx h2 h3).2,(hd dx h2 h3).1,h4.ext hr g⟩
 | _=>
  obtain ⟨ws,h1,h2⟩:=h;exact ⟨ws,ha.trans h1,h2.ext hr g⟩
theorem Ay.some {ρ:List Addr} {G H:Hp} {a:Addr} {o:Ob} (h:Ay K ρ cl G H a o):∃ x,H a=some x/\∀ b,x≠.own b:=by
 cases o with
 | ins c fs=>
  obtain ⟨dx,ws,h1,_⟩:=h;exact ⟨_,h1,λ b e=>by cases e⟩
 | _=>
  obtain ⟨ws,h1,_⟩:=h;exact ⟨_,h1,λ b e=>by cases e⟩
theorem Ay.nt {ρ:List Addr} {G H:Hp} {a:Addr} {o:Ob} (h:Ay K ρ cl G H a o):nT H a:=by
 cases o with
 | ins c fs=>
  obtain ⟨_,_,h1,_⟩:=h;exact .of h1 λ _ z=>by cases z
 | _=>
  obtain ⟨_,h1,_⟩:=h;exact .of h1 λ _ z=>by cases z
theorem SR.grow {ρ:List Addr} {G H G' H':Hp} {S:ai} (s:SR K ρ cl G H S) (g:Gr G H G' H'):SR K ρ cl G' H' S:=
 ⟨s.len,s.nd,λ n o e=>by
  obtain ⟨a,h1,h2,h3⟩:=s.ob n o e;obtain ⟨x,hx,_⟩:=h3.some;exact ⟨a,h1,g.n a h3.nt h2,h3.move (PJ _) g.g (by rw [hx];exact g.h _ _ hx) λ dx e1 e2=>⟨g.h _ _ e2,g.n dx (.of e2 λ _ z=>by cases z) e1⟩⟩⟩
theorem SR.addr {ρ:List Addr} {G H:Hp} {S:ai} (s:SR K ρ cl G H S) {n:Nat} {o:Ob} {a:Addr} (e:S[n]?=some o) (ea:ρ[n]?=some a):G a=none/\Ay K ρ cl G H a o:=by
 obtain ⟨b,h1,h2,h3⟩:=s.ob n o e;rw [ea] at h1;cases h1;exact ⟨h2,h3⟩
theorem wQ {l:List Addr} (h:l.Nodup) {i j:Nat} {a:Addr} (h1:l[i]?=some a) (h2:l[j]?=some a):i=j:=by
 obtain ⟨hi,e1⟩:=oG h1
 obtain ⟨hj,e2⟩:=oG h2
 have hp:=List.pairwise_iff_getElem.mp h;rcases Nat.lt_trichotomy i j with c | c | c
 . exact absurd (e1.trans e2.symm) (hp i j hi hj c)
 . exact c
 . exact absurd (e2.trans e1.symm) (hp j i hj hi c)
theorem SR.put {ρ:List Addr} {G H:Hp} {S:ai} {n:Nat} {o o':Ob} {a:Addr} {x:HO} (s:SR K ρ cl G H S) (sg:bB G H) (e:S[n]?=some o) (ea:ρ[n]?=some a) (hx:∀ b,x≠.own b) (ho:Ay K ρ cl G (cE H a x) a o'):SR K ρ cl G (cE H a x) (S.set n o')/\GS ρ G H ρ G (cE H a x):=by
 obtain ⟨ga,ob⟩:=s.addr e ea;obtain ⟨y,hy,hno⟩:=ob.some;have am:a∈ρ:=Pb ea;refine ⟨⟨by rw [Pu];exact s.len,s.nd,λ m q em=>?_⟩,⟨PJ _,.refl _,λ b u eb=>?_,λ b u hb eb=>?_,λ b hb=>?_,λ _ _ e=>e,λ b h1 h2=>absurd h1 h2,λ b hb=>by
  by_cases z:b=a
  . exact z▸ho.nt
  . unfold nT;rw [aM z];exact hb⟩⟩
 . rcases fA em with ⟨rfl,rfl,_⟩ | ⟨ne,em⟩
   . exact ⟨a,ea,ga,ho⟩
   . obtain ⟨b,h1,h2,h3⟩:=s.ob m q em;have hab:b≠a:=λ z=>ne (wQ s.nd ea (z▸h1));exact ⟨b,h1,h2,h3.move (PJ _) (.refl _) (aM hab) λ dx e1 e2=>⟨by
      rw [aM (λ z=>by rw [z,hy] at e2;cases e2;exact hno _ rfl)];exact e2,e1⟩⟩
 . rw [aM (λ z=>by rw [z,ga] at eb;cases eb)];exact sg _ _ eb
 . rw [aM (λ z=>hb (by rw [z];exact am))];exact eb
 . by_cases z:b=a
   . subst z;rw [aG];simp
   . rw [aM z];exact hb
theorem SR.push {ρ:List Addr} {G H H':Hp} {S:ai} {p:Addr} {o:Ob} {x:HO} (s:SR K ρ cl G H S) (sg:bB G H) (n:Nw H H' p x) (ho:∀ ρ',ρ <+: ρ'->Ay K ρ' cl G H' p o):SR K (ρ++[p]) cl G H' (S++[o])/\GS ρ G H (ρ++[p]) G H':=by
 have pm:p∉ρ:=λ hp=>by
  obtain ⟨i,hi,e⟩:=List.mem_iff_getElem.mp hp;obtain ⟨b,h1,h2,h3⟩:=s.ob i (S[i]'(by rw [<-s.len];exact hi)) (OJ _);rw [OJ hi,e] at h1;cases h1;obtain ⟨y,hy,_⟩:=h3.some;rw [n.2.1] at hy;cases hy
 have pre:ρ <+: ρ++[p]:=⟨[p],rfl⟩
 refine ⟨⟨by simp [s.len],P2.mpr ⟨s.nd,by simp,λ a ha b hb=>by
  rw [Px.mp hb];exact λ z=>pm (z▸ha)⟩,λ m q em=>?_⟩,⟨pre,.refl _,sg.trans n.1,λ b u _ e=>n.1 b u e,λ b e=>sE n.1 e,λ _ _ e=>e,λ a h1 h2=>?_,λ _ e=>e.same n.1⟩⟩
 . rcases Qk m S.length with hm | hm
   . rw [OR hm] at em;obtain ⟨b,h1,h2,h3⟩:=s.ob m q em;obtain ⟨y,hy,_⟩:=h3.some;exact ⟨b,by rw [OR (by rw [s.len];exact hm)];exact h1,h2,h3.move pre (.refl _) (by rw [hy];exact n.1 _ _ hy) λ dx e1 e2=>⟨n.1 _ _ e2,e1⟩⟩
   . rw [O6 hm] at em;have hz:m-S.length=0:=by
      have:=(oG em).1;simp at this;omega
     rw [hz] at em;cases em;refine ⟨p,?_,dX sg n.2.1,ho _ pre⟩;rw [O6 (by rw [s.len];exact hm),s.len,hz];rfl
 . rcases Pe.mp h1 with h | h
   . exact absurd h h2
   . rw [Px.mp h];exact n.2.1
inductive Rs (α:Type) where
 | ok (a:α)
 | xc (c:Str)
noncomputable abbrev SM (α:Type):=Option (Rs α×ai)
noncomputable def aq {α β:Type} (m:SM α) (k:α->ai->SM β):SM β:=match m with
 | some (.ok a,S)=>k a S
 | some (.xc c,S)=>some (.xc c,S)
 | none=>none
theorem aL {α β:Type} {m:SM α} {k:α->ai->SM β} {r:Rs β} {S':ai} (h:aq m k=some (r,S')):(∃ c,m=some (.xc c,S')/\r=.xc c)∨∃ a S1,m=some (.ok a,S1)/\k a S1=some (r,S'):=by
 unfold aq at h;split at h
 . exact .inr ⟨_,_,rfl,h⟩
 . cases h;exact .inl ⟨_,rfl,rfl⟩
 . cases h
structure RS (K:Frag) (cl:Str->Addr) (ρ:List Addr) (G H:Hp) (δ:DS) (σ:St) (S:ai):Prop where
 rl:Rl K ρ G H δ σ
 st:SR K ρ cl G H S
 ap:∀ (i:Nat) ds p,δ[i]?=some (.own ds)->σ[i]?=some (some (.ref p))->p∉ρ
theorem vy.move {ρ ρ':List Addr} {G H G' H':Hp} (g:GS ρ G H ρ' G' H') {s:Sl} {o:Option V} (ha:∀ ds p,s=.own ds->o=some (.ref p)->p∉ρ) (h:vy K ρ G H s o):vy K ρ' G' H' s o:=by
 cases s with
 | no=>exact trivial
 | val d=>
  obtain ⟨v,e,h⟩:=h;exact ⟨v,e,(h.ext g.r).same g.g⟩
 | own ds=>
  obtain ⟨p,vs,e,h1,h2,h3⟩:=h;exact ⟨p,vs,e,g.n p (.l h2) h1,g.h _ _ (ha ds p rfl e) h2,(h3.ext g.r).same g.g⟩
theorem RS.grow {ρ ρ':List Addr} {G H G' H':Hp} {δ:DS} {σ:St} {S S':ai} (R:RS K cl ρ G H δ σ S) (g:GS ρ G H ρ' G' H') (s:SR K ρ' cl G' H' S'):RS K cl ρ' G' H' δ σ S':=
 ⟨⟨g.s,R.rl.len,λ i sl e=>by
  obtain ⟨o,h1,h2⟩:=R.rl.sl i sl e;exact ⟨o,h1,h2.move g λ ds p e1 e2=>R.ap i ds p (e1▸e) (e2▸h1)⟩,R.rl.apart⟩,s,λ i ds p h1 h2 hp=>by
  obtain ⟨o,k1,p',vs,rfl,k3,k4,k5⟩:=R.rl.sl i _ h1;rw [h2] at k1;cases k1;rw [g.f p hp (R.ap i ds p h1 h2)] at k4;cases k4⟩
noncomputable def SE (K:Frag) (cl:Str->Addr) (E:XK) (t:TE) (f:DS->ai->SM W):Prop:=
 ∀ (ρ:List Addr) (G:Hp) (σ:St) (H:Hp) (δ:DS) (S:ai) (r:Rs W) (S':ai) (Q:VK),RS K cl ρ G H δ σ S->f δ S=some (r,S')->
  (∀ d,r=.ok d->∀ v ρ' G' H',GS ρ G H ρ' G' H'->SR K ρ' cl G' H' S'->Dw K ρ' G' v d->Q v H')->
  (∀ c,r=.xc c->∀ ρ' G' H',GS ρ G H ρ' G' H'->SR K ρ' cl G' H' S'->E (.ref (cl c)) none H')->t σ H Q
noncomputable def SA (K:Frag) (cl:Str->Addr) (E:XK) (t:TA) (f:DS->ai->SM (List W)):Prop:=
 ∀ (ρ:List Addr) (G:Hp) (σ:St) (H:Hp) (δ:DS) (S:ai) (r:Rs (List W)) (S':ai) (Q:List V->Hp->Prop),RS K cl ρ G H δ σ S->f δ S=some (r,S')->
  (∀ ds,r=.ok ds->∀ vs ρ' G' H',GS ρ G H ρ' G' H'->SR K ρ' cl G' H' S'->aF K ρ' G' vs ds->Q vs H')->
  (∀ c,r=.xc c->∀ ρ' G' H',GS ρ G H ρ' G' H'->SR K ρ' cl G' H' S'->E (.ref (cl c)) none H')->t σ H Q
noncomputable def ST (K:Frag) (cl:Str->Addr) (E:XK) (t:TT) (f:DS->ai->SM Bool):Prop:=
 ∀ (ρ:List Addr) (G:Hp) (σ:St) (H:Hp) (δ:DS) (S:ai) (r:Rs Bool) (S':ai) (Q:Bool->Hp->Prop),RS K cl ρ G H δ σ S->f δ S=some (r,S')->
  (∀ b,r=.ok b->∀ ρ' G' H',GS ρ G H ρ' G' H'->SR K ρ' cl G' H' S'->Q b H')->
  (∀ c,r=.xc c->∀ ρ' G' H',GS ρ G H ρ' G' H'->SR K ρ' cl G' H' S'->E (.ref (cl c)) none H')->t σ H Q
variable {E:XK}
noncomputable def aa {α:Type} (f:DS->Option α):DS->ai->SM α:=λ δ S=>(f δ).map λ d=>(.ok d,S)
theorem jc {α:Type} {f:DS->Option α} {δ:DS} {S S':ai} {r:Rs α} (h:aa f δ S=some (r,S')):∃ d,f δ=some d/\r=.ok d/\S'=S:=by
 obtain ⟨d,e1,e2⟩:=oM h
 cases e2;exact ⟨d,e1,rfl,rfl⟩
theorem B6 {t:TE} {f:DS->Option W} (h:∀ ρ,DE K ρ t f):SE K cl E t (aa f):=λ ρ G σ H δ S r S' Q R e q _=>by
 obtain ⟨d,e1,rfl,rfl⟩:=jc e;exact h ρ G σ H δ d Q R.rl e1 λ v G' H' g dv=>q d rfl v ρ G' H' (.of g) (R.st.grow g) dv
theorem AZ {t:TA} {f:DS->Option (List W)} (h:∀ ρ,DA K ρ t f):SA K cl E t (aa f):=λ ρ G σ H δ S r S' Q R e q _=>by
 obtain ⟨d,e1,rfl,rfl⟩:=jc e;exact h ρ G σ H δ d Q R.rl e1 λ v G' H' g dv=>q d rfl v ρ G' H' (.of g) (R.st.grow g) dv
theorem AR {t:TT} {f:DS->Option Bool} (h:∀ ρ,DT K ρ t f):ST K cl E t (aa f):=λ ρ G σ H δ S r S' Q R e q _=>by
 obtain ⟨d,e1,rfl,rfl⟩:=jc e;exact h ρ G σ H δ d Q R.rl e1 λ G' H' g=>q d rfl ρ G' H' (.of g) (R.st.grow g)
noncomputable def bb:DS->ai->SM (List W):=λ _ S=>some (.ok [],S)
noncomputable def av (f:DS->ai->SM W) (g:DS->ai->SM (List W)):DS->ai->SM (List W):=λ δ S=>aq (f δ S) λ d S1=>aq (g δ S1) λ ds S2=>some (.ok (d::ds),S2)
theorem GV:SA K cl E kT bb:=λ ρ G σ H δ S r S' Q R e q _=>by
 cases e;exact q [] rfl [] ρ G H (.refl R.rl.sub) R.st .nil
theorem CI {t:TE} {u:TA} {f:DS->ai->SM W} {g:DS->ai->SM (List W)} (h1:SE K cl E t f) (h2:SA K cl E u g):SA K cl E (iz t u) (av f g):=λ ρ G σ H δ S r S' Q R e q qx=>by
 rcases aL e with ⟨c,em,rfl⟩ | ⟨d,S1,em,e⟩
 . exact h1 ρ G σ H δ S _ _ _ R em (λ d hd=>by cases hd) (λ c' hc=>by cases hc;exact qx c rfl)
 . refine h1 ρ G σ H δ S _ _ _ R em (λ d' hd=>?_) (λ c' hc=>by cases hc);cases hd;intro v ρ1 G1 H1 g1 s1 dv;have R1:=R.grow g1 s1;rcases aL e with ⟨c,em,rfl⟩ | ⟨ds,S2,em,e⟩
   . exact h2 ρ1 G1 σ H1 δ S1 _ _ _ R1 em (λ d hd=>by cases hd) (λ c' hc=>by cases hc;exact λ ρ2 G2 H2 g2 s2=>qx c rfl ρ2 G2 H2 (g1.trans g2) s2)
   . refine h2 ρ1 G1 σ H1 δ S1 _ _ _ R1 em (λ d' hd=>?_) (λ c' hc=>by cases hc);cases hd;cases e;intro vs ρ2 G2 H2 g2 s2 da;exact q _ rfl _ ρ2 G2 H2 (g1.trans g2) s2 (.cons ((dv.ext g2.r).same g2.g) da)
end
section
variable {K:Frag} {cl:Str->Addr} {E:XK}
theorem cC {α:Type} {t:TE} {f:DS->ai->SM W} (h:SE K cl E t f) {ρ:List Addr} {G:Hp} {σ:St} {H:Hp} {δ:DS} {S:ai} {r:Rs α} {S':ai} {k:W->ai->SM α} {P:V->Hp->Prop} (R:RS K cl ρ G H δ σ S) (e:aq (f δ S) k=some (r,S'))
 (q:∀ d S1,k d S1=some (r,S')->∀ v ρ' G' H',GS ρ G H ρ' G' H'->SR K ρ' cl G' H' S1->Dw K ρ' G' v d->P v H')
 (qx:∀ c,r=.xc c->∀ ρ' G' H',GS ρ G H ρ' G' H'->SR K ρ' cl G' H' S'->E (.ref (cl c)) none H'):t σ H P:=by
 rcases aL e with ⟨c,em,rfl⟩ | ⟨d,S1,em,e⟩
 . exact h ρ G σ H δ S _ _ _ R em (λ d hd=>by cases hd) (λ c' hc=>by cases hc;exact qx c rfl)
 . exact h ρ G σ H δ S _ _ _ R em (λ d' hd=>by cases hd;exact q _ _ e) (λ c' hc=>by cases hc)
theorem kD {α:Type} {t:TA} {f:DS->ai->SM (List W)} (h:SA K cl E t f) {ρ:List Addr} {G:Hp} {σ:St} {H:Hp} {δ:DS} {S:ai} {r:Rs α} {S':ai} {k:List W->ai->SM α} {P:List V->Hp->Prop} (R:RS K cl ρ G H δ σ S) (e:aq (f δ S) k=some (r,S'))
 (q:∀ d S1,k d S1=some (r,S')->∀ v ρ' G' H',GS ρ G H ρ' G' H'->SR K ρ' cl G' H' S1->aF K ρ' G' v d->P v H')
 (qx:∀ c,r=.xc c->∀ ρ' G' H',GS ρ G H ρ' G' H'->SR K ρ' cl G' H' S'->E (.ref (cl c)) none H'):t σ H P:=by
 rcases aL e with ⟨c,em,rfl⟩ | ⟨d,S1,em,e⟩
 . exact h ρ G σ H δ S _ _ _ R em (λ d hd=>by cases hd) (λ c' hc=>by cases hc;exact qx c rfl)
 . exact h ρ G σ H δ S _ _ _ R em (λ d' hd=>by cases hd;exact q _ _ e) (λ c' hc=>by cases hc)
theorem sI {α:Type} {t:TT} {f:DS->ai->SM Bool} (h:ST K cl E t f) {ρ:List Addr} {G:Hp} {σ:St} {H:Hp} {δ:DS} {S:ai} {r:Rs α} {S':ai} {k:Bool->ai->SM α} {P:Bool->Hp->Prop} (R:RS K cl ρ G H δ σ S) (e:aq (f δ S) k=some (r,S'))
 (q:∀ d S1,k d S1=some (r,S')->∀ ρ' G' H',GS ρ G H ρ' G' H'->SR K ρ' cl G' H' S1->P d H')
 (qx:∀ c,r=.xc c->∀ ρ' G' H',GS ρ G H ρ' G' H'->SR K ρ' cl G' H' S'->E (.ref (cl c)) none H'):t σ H P:=by
 rcases aL e with ⟨c,em,rfl⟩ | ⟨d,S1,em,e⟩
 . exact h ρ G σ H δ S _ _ _ R em (λ d hd=>by cases hd) (λ c' hc=>by cases hc;exact qx c rfl)
 . exact h ρ G σ H δ S _ _ _ R em (λ d' hd=>by cases hd;exact q _ _ e) (λ c' hc=>by cases hc)
theorem ip {α:Type} {ta tb:TE} {fa fb:DS->ai->SM W} (ha:SE K cl E ta fa) (hb:SE K cl E tb fb) {ρ:List Addr} {G:Hp} {σ:St} {H:Hp} {δ:DS} {S:ai} {r:Rs α} {S':ai} {k:W->W->ai->SM α} {P:V->V->Hp->Prop} (R:RS K cl ρ G H δ σ S)
 (e:aq (fa δ S) (λ x S1=>aq (fb δ S1) λ y S2=>k x y S2)=some (r,S'))
 (q:∀ x y S2,k x y S2=some (r,S')->∀ v u ρ' G' H',GS ρ G H ρ' G' H'->SR K ρ' cl G' H' S2->Dw K ρ' G' v x->Dw K ρ' G' u y->P v u H')
 (qx:∀ c,r=.xc c->∀ ρ' G' H',GS ρ G H ρ' G' H'->SR K ρ' cl G' H' S'->E (.ref (cl c)) none H'):ta σ H λ v H1=>tb σ H1 λ u H2=>P v u H2:=
 cC ha R e (λ x S1 e1 v ρ1 G1 H1 g1 s1 dv=>cC hb (R.grow g1 s1) e1 (λ y S2 e2 u ρ2 G2 H2 g2 s2 du=>q x y S2 e2 v u ρ2 G2 H2 (g1.trans g2) s2 ((dv.ext g2.r).same g2.g) du) λ c hc ρ2 G2 H2 g2 s2=>qx c hc ρ2 G2 H2 (g1.trans g2) s2) qx
noncomputable def iL {α:Type} (x:Option α) (S:ai):SM α:=x.map λ d=>(.ok d,S)
theorem cj {α:Type} {x:Option α} {S S':ai} {r:Rs α} (h:iL x S=some (r,S')):∃ d,x=some d/\r=.ok d/\S'=S:=by
 obtain ⟨d,e1,e2⟩:=oM h
 cases e2;exact ⟨d,e1,rfl,rfl⟩
noncomputable def yT (g:W->W->Option W) (fa fb:DS->ai->SM W):DS->ai->SM W:=λ δ S=>aq (fa δ S) λ x S1=>aq (fb δ S1) λ y S2=>iL (g x y) S2
theorem J9 {r:R2} {ta tb:TE} {fa fb:DS->ai->SM W} {g:W->W->Option W} (hr:∀ ρ,DR K ρ r g) (ha:SE K cl E ta fa) (hb:SE K cl E tb fb):SE K cl E (sX r ta tb) (yT g fa fb):=λ ρ G σ H δ S r' S' Q R e q qx=>
 ip ha hb R e (λ x y S2 e2 v u ρ2 G2 H2 g2 s2 dv du=>by
  obtain ⟨c,e3,rfl,rfl⟩:=cj e2;exact hr ρ2 G2 H2 v u x y c Q g2.s (.inl dv) du e3 λ w G3 H3 g3 dw=>q c rfl w ρ2 G3 H3 (g2.trans (.of g3)) (s2.grow g3) dw) qx
noncomputable def kS (g:W->W->Option Bool) (fa fb:DS->ai->SM W):DS->ai->SM Bool:=λ δ S=>aq (fa δ S) λ x S1=>aq (fb δ S1) λ y S2=>iL (g x y) S2
noncomputable def sB (f:DS->ai->SM Bool):DS->ai->SM W:=λ δ S=>aq (f δ S) λ b S1=>some (.ok (.bool b),S1)
theorem Fa {r:R2} {ta tb:TE} {fa fb:DS->ai->SM W} {g:W->W->Option Bool} (hr:∀ ρ,DB K ρ r g) (ha:SE K cl E ta fa) (hb:SE K cl E tb fb):ST K cl E (mW (sX r ta tb)) (kS g fa fb):=λ ρ G σ H δ S r' S' Q R e q qx=>
 ip ha hb R e (λ x y S2 e2 v u ρ2 G2 H2 g2 s2 dv du=>by
  obtain ⟨c,e3,rfl,rfl⟩:=cj e2;exact hr ρ2 H2 v u x y c _ (dv.same g2.s) (du.same g2.s) e3 ⟨c,rfl,q c rfl ρ2 G2 H2 g2 s2⟩) qx
noncomputable def mH (f g:DS->ai->SM Bool):DS->ai->SM Bool:=λ δ S=>aq (f δ S) λ b S1=>if b=true then g δ S1 else some (.ok false,S1)
noncomputable def wI (f g:DS->ai->SM Bool):DS->ai->SM Bool:=λ δ S=>aq (f δ S) λ b S1=>if b=true then some (.ok true,S1) else g δ S1
noncomputable def jr (f:DS->ai->SM Bool):DS->ai->SM Bool:=λ δ S=>aq (f δ S) λ b S1=>some (.ok (!b),S1)
theorem Fe {t u:TT} {f g:DS->ai->SM Bool} (h1:ST K cl E t f) (h2:ST K cl E u g):ST K cl E (G8 t u) (mH f g):=λ ρ G σ H δ S r S' Q R e q qx=>
 sI h1 R e (λ b S1 e1 ρ1 G1 H1 g1 s1=>by
  cases b with
  | true=>exact h2 ρ1 G1 σ H1 δ S1 r S' Q (R.grow g1 s1) e1 (λ b hb ρ2 G2 H2 g2 s2=>q b hb ρ2 G2 H2 (g1.trans g2) s2) λ c hc ρ2 G2 H2 g2 s2=>qx c hc ρ2 G2 H2 (g1.trans g2) s2
  | false=>cases e1;exact q false rfl ρ1 G1 H1 g1 s1) qx
theorem Iq {t u:TT} {f g:DS->ai->SM Bool} (h1:ST K cl E t f) (h2:ST K cl E u g):ST K cl E (LU t u) (wI f g):=λ ρ G σ H δ S r S' Q R e q qx=>
 sI h1 R e (λ b S1 e1 ρ1 G1 H1 g1 s1=>by
  cases b with
  | false=>exact h2 ρ1 G1 σ H1 δ S1 r S' Q (R.grow g1 s1) e1 (λ b hb ρ2 G2 H2 g2 s2=>q b hb ρ2 G2 H2 (g1.trans g2) s2) λ c hc ρ2 G2 H2 g2 s2=>qx c hc ρ2 G2 H2 (g1.trans g2) s2
  | true=>cases e1;exact q true rfl ρ1 G1 H1 g1 s1) qx
theorem Fx {t:TT} {f:DS->ai->SM Bool} (h:ST K cl E t f):ST K cl E (ET t) (jr f):=λ ρ G σ H δ S r S' Q R e q qx=>
 sI h R e (λ b S1 e1 ρ1 G1 H1 g1 s1=>by cases e1;exact q _ rfl ρ1 G1 H1 g1 s1) qx
noncomputable def Dx (c:DS->ai->SM Bool) (f g:DS->ai->SM W):DS->ai->SM W:=λ δ S=>aq (c δ S) λ b S1=>if b=true then f δ S1 else g δ S1
theorem HN {tc:TT} {t u:TE} {c:DS->ai->SM Bool} {f g:DS->ai->SM W} (hc:ST K cl E tc c) (h1:SE K cl E t f) (h2:SE K cl E u g):SE K cl E (Lc tc t u) (Dx c f g):=λ ρ G σ H δ S r S' Q R e q qx=>
 sI hc R e (λ b S1 e1 ρ1 G1 H1 g1 s1=>by
  cases b with
  | true=>exact h1 ρ1 G1 σ H1 δ S1 r S' Q (R.grow g1 s1) e1 (λ d hd v ρ2 G2 H2 g2 s2 dv=>q d hd v ρ2 G2 H2 (g1.trans g2) s2 dv) λ c hc ρ2 G2 H2 g2 s2=>qx c hc ρ2 G2 H2 (g1.trans g2) s2
  | false=>exact h2 ρ1 G1 σ H1 δ S1 r S' Q (R.grow g1 s1) e1 (λ d hd v ρ2 G2 H2 g2 s2 dv=>q d hd v ρ2 G2 H2 (g1.trans g2) s2 dv) λ c hc ρ2 G2 H2 g2 s2=>qx c hc ρ2 G2 H2 (g1.trans g2) s2) qx
noncomputable def ik (f:DS->ai->SM (List W)):DS->ai->SM W:=λ δ S=>aq (f δ S) λ ds S1=>if ds.length<=sizeLine then some (.ok (.tuple ds),S1) else none
theorem EL {t:TA} {f:DS->ai->SM (List W)} (h:SA K cl E t f):SE K cl E (yd t) (ik f):=λ ρ G σ H δ S r S' Q R e q qx=>
 kD h R e (λ ds S1 e1 vs ρ1 G1 H1 g1 s1 da=>by
  split at e1
  . rename_i hz;cases e1;refine ⟨by rw [da.length];exact hz,λ p H' n=>?_⟩;have g2:=Gr.nw g1.s n;exact q _ rfl _ ρ1 _ H' (g1.trans (.of g2)) (s1.grow g2) (.tup aG (da.same g2.g))
  . cases e1) qx
noncomputable def Mq (f:DS->ai->SM (List W)):DS->ai->SM W:=λ δ S=>aq (f δ S) λ ds S1=>if ds.length<=sizeLine then some (.ok (.list ds),S1) else none
noncomputable def bd (f:DS->ai->SM (List W)):DS->ai->SM W:=λ δ S=>aq (f δ S) λ ds S1=>if ds.length<=sizeLine then some (.ok (.ref S1.length),S1++[.lst ds]) else none
theorem Be {t:TA} {f:DS->ai->SM (List W)} (h:SA K cl E t f):SE K cl E (yU t) (bd f):=λ ρ G σ H δ S r S' Q R e q qx=>
 kD h R e (λ ds S1 e1 vs ρ1 G1 H1 g1 s1 da=>by
  split at e1
  . rename_i hz;cases e1;refine ⟨by rw [da.length];exact hz,λ p H' n=>?_⟩;obtain ⟨s2,g2⟩:=s1.push (o:=.lst ds) g1.s n λ ρ' hr=>⟨vs,n.2.2,da.ext hr⟩
    exact q _ rfl _ _ _ H' (g1.trans g2) s2 (.ref (by rw [<-s1.len];simp))
  . cases e1) qx
noncomputable def uA:DS->ai->SM W:=λ _ S=>some (.ok (.ref S.length),S++[.dK []])
theorem HB:SE K cl E Aw uA:=λ ρ G σ H δ S r S' Q R e q qx=>by
 cases e;intro p hp;obtain ⟨s2,g2⟩:=R.st.push (o:=.dK []) R.rl.sub (Nw.of (o:=.dK []) hp) λ ρ' hr=>⟨[],aG,.nil⟩
 exact q _ rfl _ _ _ _ g2 s2 (.ref (by rw [<-R.st.len];simp))
noncomputable def kg (x:W) (S:ai):Option (Nat×Ob):=match x with
 | .ref n=>(S[n]?).map λ o=>(n,o)
 | _=>none
theorem fO {x:W} {S:ai} {n:Nat} {o:Ob} (h:kg x S=some (n,o)):x=.ref n/\S[n]?=some o:=by
 unfold kg at h;split at h
 . obtain ⟨o',e1,e2⟩:=oM h
   cases e2;exact ⟨rfl,e1⟩
 . cases h
noncomputable def jl (c:Str) (x:W) (S:ai):Option (Nat×List (Str×W)):=match kg x S with
 | some (n,.ins c' fs)=>if c'=c then some (n,fs) else none
 | _=>none
theorem eV {c:Str} {x:W} {S:ai} {n:Nat} {fs:List (Str×W)} (h:jl c x S=some (n,fs)):x=.ref n/\S[n]?=some (.ins c fs):=by
 unfold jl at h;cases e:kg x S with
 | none=>rw [e] at h;cases h
 | some p=>
  obtain ⟨m,o⟩:=p;rw [e] at h;cases o with
  | ins c' fs'=>
   by_cases hc:c'=c
   . subst hc;cases (OG rfl).symm.trans h;exact fO e
   . cases (OT hc).symm.trans h
  | _=>cases h
noncomputable def ar (c f:Str) (fa:DS->ai->SM W):DS->ai->SM W:=λ δ S=>aq (fa δ S) λ x S1=>(jl c x S1).bind λ p=>iL (p.2.lookup f) S1
theorem cc {ρ:List Addr} {G:Hp} {v:V} {n:Nat} (h:Dw K ρ G v (.ref n)):∃ a,v=.ref a/\ρ[n]?=some a:=by
 cases h with
 | ref e=>exact ⟨_,rfl,e⟩
theorem Fz {c f:Str} {ta:TE} {fa:DS->ai->SM W} (hc:eJ K (cl c)) (hn:ag K (cl c) f) (ha:SE K cl E ta fa):SE K cl E (Ex K ta f) (ar c f fa):=λ ρ G σ H δ S r S' Q R e q qx=>
 cC ha R e (λ x S1 e1 v ρ1 G1 H1 g1 s1 dv=>by
  obtain ⟨⟨n,fs⟩,e2,e3⟩:=oB e1
  obtain ⟨d,e4,rfl,rfl⟩:=cj e3;obtain ⟨rfl,e5⟩:=eV e2;obtain ⟨a,rfl,ea⟩:=cc dv;obtain ⟨ga,dx,ws,k1,k2,k3,k4⟩:=s1.addr e5 ea;obtain ⟨u,k5,k6⟩:=k4.lookup e4;exact ⟨a,_,dx,ws,u,rfl,k1,hc,hn,k5,q d rfl u ρ1 G1 H1 g1 s1 k6⟩) qx
noncomputable def uH (K:Frag) (cl:Str->Addr) (f:List W->ai->SM W):Sp:=λ vs H Q E=>∃ ρ G S ds r S',bB G H/\SR K ρ cl G H S/\aF K ρ G vs ds/\f ds S=some (r,S')/\
 (∀ d,r=.ok d->∀ v ρ' G' H',GS ρ G H ρ' G' H'->SR K ρ' cl G' H' S'->Dw K ρ' G' v d->Q v H')/\(∀ c,r=.xc c->∀ ρ' G' H',GS ρ G H ρ' G' H'->SR K ρ' cl G' H' S'->E (.ref (cl c)) none H')
noncomputable def eB (f:List W->Option W) (fa:DS->ai->SM (List W)):DS->ai->SM W:=λ δ S=>aq (fa δ S) λ ds S1=>iL (f ds) S1
theorem Ad {f:List W->Option W} {t:TA} {fa:DS->ai->SM (List W)} {E':XK} (h:SA K cl E t fa):SE K cl E (u6 (uL K f) [] E' t) (eB f fa):=λ ρ G σ H δ S r S' Q R e q qx=>
 kD h R e (λ ds S1 e1 vs ρ1 G1 H1 g1 s1 da=>by
  obtain ⟨d,e2,rfl,rfl⟩:=cj e1;exact ⟨ρ1,G1,ds,d,g1.s,by rw [O9];exact da,e2,λ v G2 H2 g2 dv=>q d rfl v ρ1 G2 H2 (g1.trans (.of g2)) (s1.grow g2) dv⟩) qx
noncomputable def b7 (c m:Str) (f:List W->ai->SM W) (fo:DS->ai->SM W) (fa:DS->ai->SM (List W)):DS->ai->SM W:=λ δ S=>aq (fo δ S) λ x S1=>(jl c x S1).bind λ p=>if p.2.lookup m=none then aq (fa δ S1) λ ds S2=>f (x::ds) S2 else none
theorem yR {c m:Str} {f:List W->ai->SM W} {to:TE} {t:TA} {fo:DS->ai->SM W} {fa:DS->ai->SM (List W)} (ho:SE K cl E to fo) (h:SA K cl E t fa):SE K cl E (qY (cl c) m (uH K cl f) [] E to t) (b7 c m f fo fa):=λ ρ G σ H δ S r S' Q R e q qx=>
 cC ho R e (λ x S1 e1 v ρ1 G1 H1 g1 s1 dv=>by
  obtain ⟨⟨n,fs⟩,e2,e3⟩:=oB e1
  split at e3
  case isFalse=>cases e3
  rename_i hm;obtain ⟨rfl,e5⟩:=eV e2;obtain ⟨a,rfl,ea⟩:=cc dv;obtain ⟨ga,dx,ws,k1,k2,k3,k4⟩:=s1.addr e5 ea;refine ⟨a,dx,ws,rfl,k1,k4.lookup_none hm,?_⟩;exact kD h (R.grow g1 s1) e3 (λ ds S2 e6 vs ρ2 G2 H2 g2 s2 da=>⟨ρ2,G2,S2,.ref n::ds,r,S',g2.s,s2,by rw [O9];exact .cons ((dv.ext g2.r).same g2.g) da,e6,λ d hd v ρ3 G3 H3 g3 s3 dv=>q d hd v ρ3 G3 H3 (g1.trans (g2.trans g3)) s3 dv,λ c hc ρ3 G3 H3 g3 s3=>qx c hc ρ3 G3 H3 (g1.trans (g2.trans g3)) s3⟩) λ c hc ρ2 G2 H2 g2 s2=>qx c hc ρ2 G2 H2 (g1.trans g2) s2) qx
noncomputable def ji (K:Frag) (cl:Str->Addr) (f:List W->ai->SM W):Sp:=λ vs H Q _=>∃ ρ G S ds d S',bB G H/\SR K ρ cl G H S/\aF K ρ G vs ds/\f ds S=some (.ok d,S')/\
 ∀ v ρ' G' H',GS ρ G H ρ' G' H'->SR K ρ' cl G' H' S'->Dw K ρ' G' v d->Q v H'
noncomputable def noX (m:SM W):SM W:=match m with
 | some (.ok d,S)=>some (.ok d,S)
 | _=>none
theorem lI {m:SM W} {r:Rs W} {S':ai} (h:noX m=some (r,S')):∃ d,r=.ok d/\m=some (.ok d,S'):=by
 unfold noX at h;split at h
 . cases h;exact ⟨_,rfl,rfl⟩
 . cases h
noncomputable def bZ (f:List W->ai->SM W) (fa:DS->ai->SM (List W)):DS->ai->SM W:=λ δ S=>aq (fa δ S) λ ds S1=>noX (f ds S1)
theorem AU {f:List W->ai->SM W} {t:TA} {fa:DS->ai->SM (List W)} {E':XK} (h:SA K cl E t fa):SE K cl E (u6 (ji K cl f) [] E' t) (bZ f fa):=λ ρ G σ H δ S r S' Q R e q qx=>
 kD h R e (λ ds S1 e1 vs ρ1 G1 H1 g1 s1 da=>by
  obtain ⟨d,rfl,e2⟩:=lI e1;exact ⟨ρ1,G1,S1,ds,d,S',g1.s,s1,by rw [O9];exact da,e2,λ v ρ2 G2 H2 g2 s2 dv=>q d rfl v ρ2 G2 H2 (g1.trans g2) s2 dv⟩) qx
noncomputable def ck (c m:Str) (f:List W->ai->SM W) (fo:DS->ai->SM W) (fa:DS->ai->SM (List W)):DS->ai->SM W:=λ δ S=>aq (fo δ S) λ x S1=>(jl c x S1).bind λ p=>if p.2.lookup m=none then aq (fa δ S1) λ ds S2=>noX (f (x::ds) S2) else none
theorem vL {c m:Str} {f:List W->ai->SM W} {to:TE} {t:TA} {fo:DS->ai->SM W} {fa:DS->ai->SM (List W)} {E':XK} (ho:SE K cl E to fo) (h:SA K cl E t fa):SE K cl E (qY (cl c) m (ji K cl f) [] E' to t) (ck c m f fo fa):=λ ρ G σ H δ S r S' Q R e q qx=>
 cC ho R e (λ x S1 e1 v ρ1 G1 H1 g1 s1 dv=>by
  obtain ⟨⟨n,fs⟩,e2,e3⟩:=oB e1
  split at e3
  case isFalse=>cases e3
  rename_i hm;obtain ⟨rfl,e5⟩:=eV e2;obtain ⟨a,rfl,ea⟩:=cc dv;obtain ⟨ga,dx,ws,k1,k2,k3,k4⟩:=s1.addr e5 ea;refine ⟨a,dx,ws,rfl,k1,k4.lookup_none hm,?_⟩;exact kD h (R.grow g1 s1) e3 (λ ds S2 e6 vs ρ2 G2 H2 g2 s2 da=>by
   obtain ⟨d,rfl,e7⟩:=lI e6;exact ⟨ρ2,G2,S2,.ref n::ds,d,S',g2.s,s2,by rw [O9];exact .cons ((dv.ext g2.r).same g2.g) da,e7,λ v ρ3 G3 H3 g3 s3 dv=>q d rfl v ρ3 G3 H3 (g1.trans (g2.trans g3)) s3 dv⟩) λ c hc ρ2 G2 H2 g2 s2=>qx c hc ρ2 G2 H2 (g1.trans g2) s2) qx
noncomputable def kn (c:Str) (f:List W->ai->SM W) (fa:DS->ai->SM (List W)):DS->ai->SM W:=λ δ S=>aq (fa δ S) λ ds S1=>aq (noX (f (.ref S1.length::ds) (S1++[.ins c []]))) λ d S2=>match d with
 | .none=>some (.ok (.ref S1.length),S2)
 | _=>none
theorem Cf {c:Str} {f:List W->ai->SM W} {t:TA} {fa:DS->ai->SM (List W)} {E':XK} (h:SA K cl E t fa):SE K cl E (Am (cl c) (ji K cl f) [] E' t) (kn c f fa):=λ ρ G σ H δ S r S' Q R e q qx=>
 kD h R e (λ ds S1 e1 vs ρ1 G1 H1 g1 s1 da=>by
  intro x dx hx hdx hne;have na:Nw H1 (cE H1 dx (.own x)) dx (.own x):=.of hdx;have gA:Gr G1 H1 G1 (cE H1 dx (.own x)):=.nwO g1.s na;have hx':(cE H1 dx (.own x)) x=none:=by rw [aM (Qu hne)];exact hx
  have nb:Nw (cE H1 dx (.own x)) (cE (cE H1 dx (.own x)) x (.ins (cl c) dx [])) x (.ins (cl c) dx []):=.of hx';obtain ⟨s2,g2⟩:=(s1.grow gA).push (o:=.ins c []) gA.s nb λ ρ' hr=>⟨dx,[],aG,dX g1.s hdx,by rw [aM hne];exact aG,.nil⟩
  have g12:=(GS.of (ρ:=ρ1) gA).trans g2;have dx1:aF K (ρ1++[x]) G1 (.ref x::vs) (.ref S1.length::ds):=.cons (.ref (by rw [<-s1.len];simp)) (da.ext ⟨[x],rfl⟩);rcases aL e1 with ⟨c',em,rfl⟩ | ⟨d,S2,em,e2⟩
  . obtain ⟨_,z,_⟩:=lI em;cases z
  . obtain ⟨d',z,em⟩:=lI em;cases z;refine ⟨_,G1,_,_,_,_,g2.s,s2,by rw [O9];exact dx1,em,λ v ρ3 G3 H3 g3 s3 dv=>?_⟩;split at e2
    . cases e2;exact ⟨v9 dv,q _ rfl _ ρ3 G3 H3 (g1.trans (g12.trans g3)) s3 (.ref (by
       have h1:(ρ1++[x])[S1.length]?=some x:=by rw [<-s1.len];simp
       obtain ⟨t',ht⟩:=g3.r;rw [<-ht,OR (oG h1).1];exact h1))⟩
    . cases e2) qx
noncomputable def KL (K:Frag) (cl:Str->Addr) (E:XK) (wi:TI) (f:DS->ai->SM (List W)):Prop:=
 ∀ (ρ:List Addr) (G:Hp) (σ:St) (H:Hp) (δ:DS) (S:ai) (r:Rs (List W)) (S':ai) (R':It->Hp->Prop),RS K cl ρ G H δ σ S->f δ S=some (r,S')->
  (∀ ds,r=.ok ds->∀ J ρ' G' H',GS ρ G H ρ' G' H'->SR K ρ' cl G' H' S'->Iy K ρ' J G' ds->R' J H')->
  (∀ c,r=.xc c->∀ ρ' G' H',GS ρ G H ρ' G' H'->SR K ρ' cl G' H' S'->E (.ref (cl c)) none H')->wi σ H R'
theorem zx {wi:TI} {f:DS->Option (List W)} (h:∀ ρ,DI K ρ wi f):KL K cl E wi (aa f):=λ ρ G σ H δ S r S' R' R e q qx=>by
 obtain ⟨ds,e1,rfl,rfl⟩:=jc e;exact h ρ G σ H δ ds R' R.rl e1 λ J G' H' g it=>q ds rfl J ρ G' H' (.of g) (R.st.grow g) it
end
inductive ug where
 | nx (δ:DS)
 | bk (δ:DS)
 | ct (δ:DS)
 | rt (d:W)
 | xc (c:Str)
noncomputable abbrev SO:=Option (ug×ai)
section
variable {K:Frag} {cl:Str->Addr} {E:XK}
structure lT (K:Frag) (cl:Str->Addr) (ρ0:List Addr) (G0 H0:Hp) (ρ:List Addr) (G H:Hp) (δ:DS) (σ:St) (S:ai):Prop where
 rs:RS K cl ρ G H δ σ S
 gs:GS ρ0 G0 H0 ρ G H
 ow:∀ (i:Nat) p ds,δ[i]?=some (.own ds)->σ[i]?=some (some (.ref p))->H0 p=none
noncomputable def CJ (K:Frag) (cl:Str->Addr) (E:XK) (ρ0:List Addr) (G0 H0:Hp) (D:jm) (S:ai):ug->Prop
 | .nx δ=>∀ σ ρ G H,lT K cl ρ0 G0 H0 ρ G H δ σ S->D.nx σ H
 | .bk δ=>∀ σ ρ G H,lT K cl ρ0 G0 H0 ρ G H δ σ S->D.bk σ H
 | .ct δ=>∀ σ ρ G H,lT K cl ρ0 G0 H0 ρ G H δ σ S->D.ct σ H
 | .rt d=>∀ v ρ G H,GS ρ0 G0 H0 ρ G H->SR K ρ cl G H S->Dw K ρ G v d->D.rt v H
 | .xc c=>∀ ρ G H,GS ρ0 G0 H0 ρ G H->SR K ρ cl G H S->E (.ref (cl c)) none H
noncomputable def kK (K:Frag) (cl:Str->Addr) (E:XK) (t:TS) (f:DS->ai->SO):Prop:=
 ∀ (ρ0:List Addr) (G0 H0:Hp) (ρ:List Addr) (G:Hp) (σ:St) (H:Hp) (δ:DS) (S:ai) (o:ug) (S':ai) (D:jm),lT K cl ρ0 G0 H0 ρ G H δ σ S->f δ S=some (o,S')->CJ K cl E ρ0 G0 H0 D S' o->t D σ H
theorem lT.grow {ρ0:List Addr} {G0 H0:Hp} {ρ ρ':List Addr} {G H G' H':Hp} {δ:DS} {σ:St} {S S':ai} (I:lT K cl ρ0 G0 H0 ρ G H δ σ S) (g:GS ρ G H ρ' G' H') (s:SR K ρ' cl G' H' S'):lT K cl ρ0 G0 H0 ρ' G' H' δ σ S':=⟨I.rs.grow g s,I.gs.trans g,I.ow⟩
theorem lT.sub {ρ0:List Addr} {G0 H0:Hp} {ρ:List Addr} {G H:Hp} {δ δ':DS} {σ σ':St} {S:ai} (I:lT K cl ρ0 G0 H0 ρ G H δ σ S) (R:Rl K ρ G H δ' σ') (o:gF δ' σ' δ σ):lT K cl ρ0 G0 H0 ρ G H δ' σ' S:=
 ⟨⟨R,I.rs.st,λ i ds p h1 h2=>by
  obtain ⟨es,h3,h4⟩:=o i ds p h1 h2;exact I.rs.ap i es p h3 h4⟩,I.gs,λ i p ds h1 h2=>by
  obtain ⟨es,h3,h4⟩:=o i ds p h1 h2;exact I.ow i p es h3 h4⟩
theorem lT.base {ρ0:List Addr} {G0 H0:Hp} {ρ:List Addr} {G H:Hp} {δ:DS} {σ:St} {S:ai} (I:lT K cl ρ0 G0 H0 ρ G H δ σ S):lT K cl ρ G H0 ρ G H δ σ S:=
 ⟨I.rs,⟨PJ _,.refl _,I.gs.s,λ b o hb e=>I.gs.h b o (λ h=>hb (I.gs.r.subset h)) e,I.gs.k,λ _ _ e=>e,λ a h1 h2=>absurd h1 h2,I.gs.t⟩,I.ow⟩
theorem GS.rebase {ρ0:List Addr} {G0 H0:Hp} {ρ:List Addr} {G H:Hp} {ρ':List Addr} {G' H':Hp} (a:GS ρ0 G0 H0 ρ G H) (b:GS ρ G H0 ρ' G' H'):GS ρ0 G0 H0 ρ' G' H':=
 ⟨a.r.trans b.r,a.g.trans b.g,b.s,λ c o hc e=>b.h c o (λ h=>by rw [a.f c h hc] at e;cases e) e,b.k,λ c h1 h2=>b.n c h1 (a.n c h1 h2),(λ c h1 h2=>by
  by_cases h3:c∈ρ
  . exact a.f c h3 h2
  . exact b.f c h1 h3),b.t⟩
theorem lT.rebase {ρ0:List Addr} {G0 H0:Hp} {ρ:List Addr} {G H:Hp} {ρ':List Addr} {G' H':Hp} {δ:DS} {σ:St} {S:ai} (a:GS ρ0 G0 H0 ρ G H) (I:lT K cl ρ G H0 ρ' G' H' δ σ S):lT K cl ρ0 G0 H0 ρ' G' H' δ σ S:=⟨I.rs,a.rebase I.gs,I.ow⟩
noncomputable def tz (δ:DS) (σ:St) (b:Addr):Prop:=∃ (i:Nat) (ds:List W),δ[i]?=some (.own ds)/\σ[i]?=some (some (.ref b))
noncomputable def hideO (δ:DS) (σ:St) (H:Hp):Hp:=λ b=>@ite _ (tz δ σ b) (Classical.propDecidable _) none (H b)
theorem qm {δ:DS} {σ:St} {H:Hp} {b:Addr} (h:tz δ σ b):hideO δ σ H b=none:=by
 unfold hideO;rw [OG h]
theorem d6 {δ:DS} {σ:St} {H:Hp} {b:Addr} (h:¬ tz δ σ b):hideO δ σ H b=H b:=by
 unfold hideO;rw [OT h]
noncomputable def Ar:fZ->ug
 | .nx δ=>.nx δ
 | .bk δ=>.bk δ
 | .ct δ=>.ct δ
 | .rt d=>.rt d
noncomputable def al (f:DS->Option fZ):DS->ai->SO:=λ δ S=>(f δ).map λ o=>(Ar o,S)
theorem AX {t:TS} {f:DS->Option fZ} (h:∀ ρ,pv K ρ t f):kK K cl E t (al f):=λ ρ0 G0 H0 ρ G σ H δ S o S' D I e p=>by
 obtain ⟨o',e1,e2⟩:=oM e
 cases e2;have same0:bB (hideO δ σ H) H:=λ b u hb=>by
  by_cases ho:tz δ σ b
  . rw [qm ho] at hb;cases hb
  . rw [d6 ho] at hb;exact hb
 have sameG:bB G (hideO δ σ H):=λ b u hb=>by
  by_cases ho:tz δ σ b
  . obtain ⟨i,ds,k1,k2⟩:=ho;obtain ⟨o,m1,q,vs,rfl,m3,m4,m5⟩:=I.rs.rl.sl i _ k1;rw [k2] at m1;cases m1;rw [m3] at hb;cases hb
  . rw [d6 ho];exact I.gs.s b u hb
 have notown:∀ a,a∈ρ->¬ tz δ σ a:=λ a ha hy0=>by obtain ⟨i,ds,k1,k2⟩:=hy0;exact I.rs.ap i ds a k1 k2 ha
 have ownlst:∀ b,tz δ σ b->∃ vs,H b=some (.lst vs):=λ b hy0=>by
  obtain ⟨i,ds,k1,k2⟩:=hy0;obtain ⟨o,m1,q,vs,rfl,m3,m4,m5⟩:=I.rs.rl.sl i _ k1;rw [k2] at m1;cases m1;exact ⟨vs,m4⟩
 have sr0:SR K ρ cl G (hideO δ σ H) S:=⟨I.rs.st.len,I.rs.st.nd,λ n ob en=>by
  obtain ⟨a,k1,k2,k3⟩:=I.rs.st.ob n ob en;refine ⟨a,k1,k2,k3.move (PJ _) (.refl _) (d6 (notown a (Pb k1))) λ dx d1 d2=>⟨?_,d1⟩⟩;rw [d6 λ ho=>by
   obtain ⟨vs,hv⟩:=ownlst dx ho;rw [d2] at hv;cases hv]
  exact d2⟩
 have iv:Iv K ρ G (hideO δ σ H) G H δ σ:=⟨I.rs.rl,⟨.refl _,same0,I.gs.s,λ _ _ e=>e⟩,λ i q ds k1 k2=>qm ⟨i,ds,k1,k2⟩⟩
 have h0own:∀ b,H0 b≠none->¬ tz δ σ b:=λ b hb hy0=>by obtain ⟨i,ds,k1,k2⟩:=hy0;exact hb (I.ow i b ds k1 k2)
 have gs:∀ {G' H':Hp},Gr G (hideO δ σ H) G' H'->GS ρ0 G0 H0 ρ G' H':=λ {G' H'} g=>
  ⟨I.gs.r,I.gs.g.trans g.g,g.s,λ b u hb eb=>g.h b u (by rw [d6 (h0own b (by rw [eb];simp))];exact I.gs.h b u hb eb),λ b hb=>sE g.h (by rw [d6 (h0own b hb)];exact I.gs.k b hb),λ b h1 h2=>g.n b (by unfold nT;rw [d6 (h0own b h1.1)];exact I.gs.t b h1) (I.gs.n b h1 h2),I.gs.f,λ b h1=>nT.same (by unfold nT;rw [d6 (h0own b h1.1)];exact I.gs.t b h1) g.h⟩
 have nx:∀ {δ':DS} {σ':St} {G' H':Hp},Iv K ρ G (hideO δ σ H) G' H' δ' σ'->lT K cl ρ0 G0 H0 ρ G' H' δ' σ' S:=λ {δ' σ' G' H'} I'=>
  ⟨⟨I'.rl,sr0.grow I'.gr,λ i ds q k1 k2 hq=>by
   have:=I'.ow i q ds k1 k2;rw [d6 (notown q hq)] at this;obtain ⟨j,hj,ej⟩:=List.mem_iff_getElem.mp hq;obtain ⟨b,m1,m2,m3⟩:=I.rs.st.ob j (S[j]'(by rw [<-I.rs.st.len];exact hj)) (OJ _);rw [OJ hj,ej] at m1;cases m1;obtain ⟨y,hy,_⟩:=m3.some;rw [this] at hy;cases hy⟩,gs I'.gr,λ i q ds k1 k2=>by
   have h1:=I'.ow i q ds k1 k2;cases h2:H0 q with
   | none=>rfl
   | some u=>
    exfalso;have h3:=I.gs.k q (by rw [h2];simp);rw [d6 (h0own q (by rw [h2];simp))] at h1;exact h3 h1⟩
 refine h ρ G (hideO δ σ H) G σ H δ o' D iv e1 ?_;cases o' with
 | nx δ'=>exact λ σ' G' H' I'=>p σ' ρ G' H' (nx I')
 | bk δ'=>exact λ σ' G' H' I'=>p σ' ρ G' H' (nx I')
 | ct δ'=>exact λ σ' G' H' I'=>p σ' ρ G' H' (nx I')
 | rt d=>exact λ v G' H' g dv=>p v ρ G' H' (gs g) (sr0.grow g) dv
noncomputable def ak (f g:DS->ai->SO):DS->ai->SO:=λ δ S=>match f δ S with
 | some (.nx δ',S')=>g δ' S'
 | o=>o
theorem yf {t u:TS} {f g:DS->ai->SO} (h1:kK K cl E t f) (h2:kK K cl E u g):kK K cl E (Gs t u) (ak f g):=λ ρ0 G0 H0 ρ G σ H δ S o S' D I e p=>by
 unfold ak at e;cases ef:f δ S with
 | none=>rw [ef] at e;cases e
 | some r=>
  obtain ⟨o1,S1⟩:=r;rw [ef] at e;refine h1 ρ0 G0 H0 ρ G σ H δ S o1 S1 _ I ef ?_;cases o1 with
  | nx δ'=>exact λ σ' ρ' G' H' I'=>h2 ρ0 G0 H0 ρ' G' σ' H' δ' S1 o S' D I' e p
  | bk δ'=>cases e;exact p
  | ct δ'=>cases e;exact p
  | rt d=>cases e;exact p
  | xc c=>cases e;exact p
noncomputable def iN {α:Type} (m:SM α) (k:α->ai->SO):SO:=match m with
 | some (.ok a,S)=>k a S
 | some (.xc c,S)=>some (.xc c,S)
 | none=>none
theorem lA {α:Type} {m:SM α} {k:α->ai->SO} {o:ug} {S':ai} (h:iN m k=some (o,S')):(∃ c,m=some (.xc c,S')/\o=.xc c)∨∃ a S1,m=some (.ok a,S1)/\k a S1=some (o,S'):=by
 unfold iN at h;split at h
 . exact .inr ⟨_,_,rfl,h⟩
 . cases h;exact .inl ⟨_,rfl,rfl⟩
 . cases h
theorem eU {t:TE} {f:DS->ai->SM W} (h:SE K cl E t f) {ρ0:List Addr} {G0 H0:Hp} {ρ:List Addr} {G:Hp} {σ:St} {H:Hp} {δ:DS} {S:ai} {o:ug} {S':ai} {D:jm} {k:W->ai->SO} {P:V->Hp->Prop} (I:lT K cl ρ0 G0 H0 ρ G H δ σ S) (e:iN (f δ S) k=some (o,S')) (p:CJ K cl E ρ0 G0 H0 D S' o)
 (q:∀ d S1,k d S1=some (o,S')->∀ v ρ' G' H',GS ρ G H ρ' G' H'->SR K ρ' cl G' H' S1->Dw K ρ' G' v d->P v H'):t σ H P:=by
 rcases lA e with ⟨c,em,rfl⟩ | ⟨d,S1,em,e⟩
 . exact h ρ G σ H δ S _ _ _ I.rs em (λ d hd=>by cases hd) (λ c' hc ρ1 G1 H1 g1 s1=>by cases hc;exact p ρ1 G1 H1 (I.gs.trans g1) s1)
 . exact h ρ G σ H δ S _ _ _ I.rs em (λ d' hd=>by cases hd;exact q _ _ e) (λ c' hc=>by cases hc)
theorem we {t:TT} {f:DS->ai->SM Bool} (h:ST K cl E t f) {ρ0:List Addr} {G0 H0:Hp} {ρ:List Addr} {G:Hp} {σ:St} {H:Hp} {δ:DS} {S:ai} {o:ug} {S':ai} {D:jm} {k:Bool->ai->SO} {P:Bool->Hp->Prop} (I:lT K cl ρ0 G0 H0 ρ G H δ σ S) (e:iN (f δ S) k=some (o,S')) (p:CJ K cl E ρ0 G0 H0 D S' o)
 (q:∀ d S1,k d S1=some (o,S')->∀ ρ' G' H',GS ρ G H ρ' G' H'->SR K ρ' cl G' H' S1->P d H'):t σ H P:=by
 rcases lA e with ⟨c,em,rfl⟩ | ⟨d,S1,em,e⟩
 . exact h ρ G σ H δ S _ _ _ I.rs em (λ d hd=>by cases hd) (λ c' hc ρ1 G1 H1 g1 s1=>by cases hc;exact p ρ1 G1 H1 (I.gs.trans g1) s1)
 . exact h ρ G σ H δ S _ _ _ I.rs em (λ d' hd=>by cases hd;exact q _ _ e) (λ c' hc=>by cases hc)
noncomputable def bv (c:DS->ai->SM Bool) (f g:DS->ai->SO):DS->ai->SO:=λ δ S=>iN (c δ S) λ b S1=>if b=true then f δ S1 else g δ S1
theorem Ds {tc:TT} {t u:TS} {c:DS->ai->SM Bool} {f g:DS->ai->SO} (hc:ST K cl E tc c) (h1:kK K cl E t f) (h2:kK K cl E u g):kK K cl E (Gh tc t u) (bv c f g):=λ ρ0 G0 H0 ρ G σ H δ S o S' D I e p=>
 we hc I e p λ b S1 e1 ρ1 G1 H1 g1 s1=>by
  cases b with
  | true=>exact h1 ρ0 G0 H0 ρ1 G1 σ H1 δ S1 o S' D (I.grow g1 s1) e1 p
  | false=>exact h2 ρ0 G0 H0 ρ1 G1 σ H1 δ S1 o S' D (I.grow g1 s1) e1 p
noncomputable def bO (f:DS->ai->SM W):DS->ai->SO:=λ δ S=>iN (f δ S) λ d S1=>some (.rt d,S1)
theorem yZ {t:TE} {f:DS->ai->SM W} (h:SE K cl E t f):kK K cl E (Fk t) (bO f):=λ ρ0 G0 H0 ρ G σ H δ S o S' D I e p=>
 eU h I e p λ d S1 e1 v ρ1 G1 H1 g1 s1 dv=>by
  cases e1;exact p v ρ1 G1 H1 (I.gs.trans g1) s1 dv
noncomputable def bU (f:DS->ai->SM W) (h:W->DS->Option DS):DS->ai->SO:=λ δ S=>iN (f δ S) λ d S1=>(h d δ).map λ δ'=>(.nx δ',S1)
theorem zi {t:TE} {g:TG} {f:DS->ai->SM W} {h:W->DS->Option DS} (h1:SE K cl E t f) (h2:∀ ρ,DG K ρ g h):kK K cl E (sM t g) (bU f h):=λ ρ0 G0 H0 ρ G σ H δ S o S' D I e p=>
 eU h1 I e p λ d S1 e1 v ρ1 G1 H1 g1 s1 dv=>by
  obtain ⟨δ',e2,e3⟩:=oM e1
  cases e3;have I1:=I.grow g1 s1;exact h2 ρ1 G1 H1 δ σ v d δ' _ I1.rs.rl dv e2 λ σ' R o=>p σ' ρ1 G1 H1 (I1.sub R o)
noncomputable def aS (f:DS->ai->SM W):DS->ai->SO:=λ δ S=>iN (f δ S) λ _ S1=>some (.nx δ,S1)
theorem vP {t:TE} {f:DS->ai->SM W} (h:SE K cl E t f):kK K cl E (vY t) (aS f):=λ ρ0 G0 H0 ρ G σ H δ S o S' D I e p=>
 eU h I e p λ d S1 e1 v ρ1 G1 H1 g1 s1 dv=>by
  cases e1;exact p σ ρ1 G1 H1 (I.grow g1 s1)
noncomputable def HL (i:Nat) (f:DS->ai->SO):DS->ai->SO:=λ δ S=>f (frz i δ) S
noncomputable def bQ (c f:Str) (fo fv:DS->ai->SM W):DS->ai->SO:=λ δ S=>iN (fv δ S) λ d S1=>iN (fo δ S1) λ x S2=>(jl c x S2).bind λ p=>if p.2.length<1000 then some (.nx δ,S2.set p.1 (.ins c (dF f d p.2))) else none
theorem zN {c f:Str} {to tv:TE} {fo fv:DS->ai->SM W} (hc:eJ K (cl c)) (hn:ag K (cl c) f) (ho:SE K cl E to fo) (hv:SE K cl E tv fv):kK K cl E (ID K to tv f) (bQ c f fo fv):=λ ρ0 G0 H0 ρ G σ H δ S o S' D I e p=>
 eU hv I e p λ d S1 e1 v ρ1 G1 H1 g1 s1 dv=>by
  have I1:=I.grow g1 s1;refine eU ho I1 e1 p λ x S2 e2 u ρ2 G2 H2 g2 s2 du=>?_;obtain ⟨⟨n,fs⟩,e3,e4⟩:=oB e2
  split at e4
  case isFalse=>cases e4
  rename_i hl;cases e4;obtain ⟨rfl,e5⟩:=eV e3;obtain ⟨a,rfl,ea⟩:=cc du;obtain ⟨ga,dx,ws,k1,k2,k3,k4⟩:=s2.addr e5 ea;have I2:=I1.grow g2 s2;have hda:dx≠a:=λ z=>by rw [z,k1] at k3;cases k3
  obtain ⟨s3,g3⟩:=s2.put (x:=.ins (cl c) dx (putF f v ws)) (o':=.ins c (dF f d fs)) g2.s e5 ea (λ b z=>by cases z) ⟨dx,_,aG,k2,by rw [aM hda];exact k3,k4.putF ((dv.ext g2.r).same g2.g)⟩;exact ⟨a,_,dx,ws,rfl,k1,hc,hn,by rw [<-k4.length];exact hl,p σ ρ2 G2 _ (I2.grow g3 s3)⟩
noncomputable def j5 (c f:Str) (fo fv:DS->ai->SM W):DS->ai->SO:=λ δ S=>iN (fo δ S) λ x S1=>(jl c x S1).bind λ p=>(p.2.lookup f).bind λ old=>iN (fv δ S1) λ y S2=>(gI (λ i j=>i+j) old y).bind λ z=>(jl c x S2).bind λ p2=>if p2.2.length<1000 then some (.nx δ,S2.set p2.1 (.ins c (dF f z p2.2))) else none
theorem xj {c f:Str} {to tv:TE} {fo fv:DS->ai->SM W} (hc:eJ K (cl c)) (hn:ag K (cl c) f) (ho:SE K cl E to fo) (hv:SE K cl E tv fv):kK K cl E (rL K to tv HE f) (j5 c f fo fv):=λ ρ0 G0 H0 ρ G σ H δ S o S' D I e p=>
 eU ho I e p λ x S1 e1 u ρ1 G1 H1 g1 s1 du=>by
  obtain ⟨⟨n,fs⟩,e3,e4⟩:=oB e1
  obtain ⟨old,e5,e6⟩:=oB e4
  obtain ⟨rfl,e7⟩:=eV e3;obtain ⟨a,rfl,ea⟩:=cc du;obtain ⟨ga,dx,ws,k1,k2,k3,k4⟩:=s1.addr e7 ea;obtain ⟨ov,k5,k6⟩:=k4.lookup e5;have I1:=I.grow g1 s1;refine ⟨a,_,dx,ws,ov,rfl,k1,hc,hn,k5,?_⟩;refine eU hv I1 e6 p λ y S2 e8 v ρ2 G2 H2 g2 s2 dv=>?_;obtain ⟨z,e9,e10⟩:=oB e8
  obtain ⟨⟨m,fs2⟩,e11,e12⟩:=oB e10
  split at e12
  case isFalse=>cases e12
  rename_i hl;cases e12;obtain ⟨em,e13⟩:=eV e11;cases em;have ea2:ρ2[n]?=some a:=by
   obtain ⟨t',ht⟩:=g2.r;rw [<-ht,OR (oG ea).1];exact ea
  obtain ⟨ga2,dx2,ws2,m1,m2,m3,m4⟩:=s2.addr e13 ea2;have I2:=I1.grow g2 s2;have hda:dx2≠a:=λ zz=>by rw [zz,m1] at m3;cases m3
  unfold gI at e9;split at e9
  . cases e9;cases dI k6;cases dI dv;rename_i i j;obtain ⟨s3,g3⟩:=s2.put (x:=.ins (cl c) dx2 (putF f (.int (i+j)) ws2)) (o':=.ins c (dF f (.int (i+j)) fs2)) g2.s e13 ea2 (λ b zz=>by cases zz) ⟨dx2,_,aG,m2,by rw [aM hda];exact m3,m4.putF (.int _)⟩;exact ⟨i,j,rfl,rfl,dx2,ws2,m1,by rw [<-m4.length];exact hl,p σ ρ2 G2 _ (I2.grow g3 s3)⟩
  . cases e9
noncomputable def eM (h:W->DS->Option DS) (fb:DS->ai->SO):List W->DS->ai->SO
 | [],δ,S=>some (.nx δ,S)
 | d::ds,δ,S=>(h d δ).bind λ δ2=>match fb δ2 S with
  | some (.nx δ',S')=>eM h fb ds δ' S'
  | some (.ct δ',S')=>eM h fb ds δ' S'
  | some (.bk δ',S')=>some (.nx δ',S')
  | some (.rt d,S')=>some (.rt d,S')
  | some (.xc c,S')=>some (.xc c,S')
  | none=>none
noncomputable def qN (fi:DS->ai->SM (List W)) (h:W->DS->Option DS) (fb:DS->ai->SO):DS->ai->SO:=λ δ S=>iN (fi δ S) λ ds S1=>eM h fb ds δ S1
theorem zl {wi:TI} {g:TG} {tb:TS} {fi:DS->ai->SM (List W)} {h:W->DS->Option DS} {fb:DS->ai->SO} (hi:KL K cl E wi fi) (hg:∀ ρ,DG K ρ g h) (hb:kK K cl E tb fb):kK K cl E (GM wi g tb) (qN fi h fb):=λ ρ0 G0 H0 ρ G σ H δ S o S' D I e p=>by
 rcases lA e with ⟨c,em,rfl⟩ | ⟨ds,S1,em,e⟩
 . exact hi ρ G σ H δ S _ _ _ I.rs em (λ d hd=>by cases hd) (λ c' hc ρ1 G1 H1 g1 s1=>by cases hc;exact p ρ1 G1 H1 (I.gs.trans g1) s1)
 refine hi ρ G σ H δ S _ _ _ I.rs em (λ ds' hd=>?_) (λ c' hc=>by cases hc);cases hd;intro J ρ1 G1 H1 g1 s1 it;refine ⟨λ i m σ H=>m=ds.length-i/\i<=ds.length/\∃ ρ2 G2 δ2 S2,lT K cl ρ0 G0 H0 ρ2 G2 H δ2 σ S2/\ρ1 <+: ρ2/\bB G1 G2/\eM h fb (ds.drop i) δ2 S2=some (o,S'),⟨ds.length,by simp,O8 _,ρ1,G1,δ,S1,I.grow g1 s1,PJ _,.refl _,by simpa using e⟩,?_⟩;rintro i m σ2 H2 ⟨rfl,hil,ρ2,G2,δ2,S2,I2,pr2,s2,e2⟩;have ia:=it i G2 H2 s2 I2.gs.s;by_cases hlt:i<ds.length
 . refine .inr ?_;obtain ⟨go,step⟩:=ia.1 ds[i] (OJ hlt);rw [PZ hlt] at e2;obtain ⟨δ3,e3,e4⟩:=oB e2
   have turn:∀ (P:jm) (o1:ug) (S3:ai),fb δ3 S2=some (o1,S3)->(∀ G3 H3,Gr G2 H2 G3 H3->CJ K cl E ρ2 G3 H0 P S3 o1)->∀ x H',J.yld i H2 x H'->g x σ2 H' λ σ2 H2=>tb P σ2 H2:=λ P o1 S3 ef hp x H' y=>by
    obtain ⟨G3,g3,dx⟩:=step x H' y;have I3:=I2.grow (.of g3) (I2.rs.st.grow g3);refine hg ρ2 G3 H' δ2 σ2 x _ δ3 _ I3.rs.rl (dx.ext pr2) e3 λ σ3 R3 o3=>?_;exact hb ρ2 G3 H0 ρ2 G3 σ3 H' δ3 S2 o1 S3 P (I3.sub R3 o3).base ef (hp G3 H' g3)
   have back:∀ {G3 H3:Hp},Gr G2 H2 G3 H3->∀ {ρ4:List Addr} {G4 H4:Hp} {σ4:St} {δ4:DS} {S4:ai},lT K cl ρ2 G3 H0 ρ4 G4 H4 δ4 σ4 S4->lT K cl ρ0 G0 H0 ρ4 G4 H4 δ4 σ4 S4/\ρ1 <+: ρ4/\bB G1 G4:=λ {G3 H3} g3 {ρ4 G4 H4 σ4 δ4 S4} I4=>⟨I4.rebase (I2.gs.trans (.of g3)),pr2.trans I4.gs.r,s2.trans (g3.g.trans I4.gs.g)⟩
   cases ef:fb δ3 S2 with
   | none=>rw [ef] at e4;cases e4
   | some r=>
    obtain ⟨o1,S3⟩:=r;rw [ef] at e4;cases o1 with
    | nx δ'=>
     exact ⟨go,λ σ' H'=>∃ ρ' G',lT K cl ρ0 G0 H0 ρ' G' H' δ' σ' S3/\ρ1 <+: ρ'/\bB G1 G',λ σ' H' hy0=>by obtain ⟨ρ',G',I',q1,q2⟩:=hy0;exact ⟨ds.length-(i+1),by omega,rfl,hlt,ρ',G',δ',S3,I',q1,q2,e4⟩,turn _ _ _ ef λ G3 H3 g3 σ5 ρ5 G5 H5 I5=>⟨ρ5,G5,back g3 I5⟩⟩
    | ct δ'=>
     exact ⟨go,λ σ' H'=>∃ ρ' G',lT K cl ρ0 G0 H0 ρ' G' H' δ' σ' S3/\ρ1 <+: ρ'/\bB G1 G',λ σ' H' hy0=>by obtain ⟨ρ',G',I',q1,q2⟩:=hy0;exact ⟨ds.length-(i+1),by omega,rfl,hlt,ρ',G',δ',S3,I',q1,q2,e4⟩,turn _ _ _ ef λ G3 H3 g3 σ5 ρ5 G5 H5 I5=>⟨ρ5,G5,back g3 I5⟩⟩
    | bk δ'=>
     cases e4;exact ⟨go,λ _ _=>False,λ _ _ z=>z.elim,turn _ _ _ ef λ G3 H3 g3 σ5 ρ5 G5 H5 I5=>p σ5 ρ5 G5 H5 (back g3 I5).1⟩
    | rt d=>
     cases e4;exact ⟨go,λ _ _=>False,λ _ _ z=>z.elim,turn _ _ _ ef λ G3 H3 g3 v ρ5 G5 H5 g5 s5 dv=>p v ρ5 G5 H5 ((I2.gs.trans (.of g3)).rebase g5) s5 dv⟩
    | xc c=>
     cases e4;exact ⟨go,λ _ _=>False,λ _ _ z=>z.elim,turn _ _ _ ef λ G3 H3 g3 ρ5 G5 H5 g5 s5=>p ρ5 G5 H5 ((I2.gs.trans (.of g3)).rebase g5) s5⟩
 . have hi':i=ds.length:=by omega
   subst hi';rw [Qc] at e2;cases e2;exact .inl ⟨ia.2 (OB _),p σ2 ρ2 G2 H2 I2⟩
noncomputable def cS (c:DS->ai->SM Bool) (fb:DS->ai->SO):Nat->DS->ai->SO
 | 0,_,_=>none
 | n+1,δ,S=>iN (c δ S) λ b S1=>if b=true then match fb δ S1 with
  | some (.nx δ',S')=>cS c fb n δ' S'
  | some (.ct δ',S')=>cS c fb n δ' S'
  | some (.bk δ',S')=>some (.nx δ',S')
  | some (.rt d,S')=>some (.rt d,S')
  | some (.xc x,S')=>some (.xc x,S')
  | none=>none
  else some (.nx δ,S1)
theorem tW {n:Nat} {tc:TT} {tb:TS} {c:DS->ai->SM Bool} {fb:DS->ai->SO} (hc:ST K cl E tc c) (hb:kK K cl E tb fb):kK K cl E (xR tc tb) (cS c fb n):=λ ρ0 G0 H0 ρ G σ H δ S o S' D I e p=>by
 refine ⟨λ m σ H=>∃ ρ G δ S,lT K cl ρ0 G0 H0 ρ G H δ σ S/\cS c fb m δ S=some (o,S'),⟨n,ρ,G,δ,S,I,e⟩,?_⟩;rintro m σ2 H2 ⟨ρ2,G2,δ2,S2,I2,e2⟩;cases m with
 | zero=>cases e2
 | succ m=>
  refine we hc I2 e2 p λ b S3 e3 ρ3 G3 H3 g3 s3=>?_;have I3:=I2.grow g3 s3;cases b with
  | false=>cases e3;exact p σ2 ρ3 G3 H3 I3
  | true=>
   rw [OG rfl] at e3 ⊢;cases ef:fb δ2 S3 with
   | none=>rw [ef] at e3;cases e3
   | some r=>
    obtain ⟨o1,S4⟩:=r;rw [ef] at e3;cases o1 with
    | nx δ'=>exact ⟨λ σ' H'=>∃ ρ' G',lT K cl ρ0 G0 H0 ρ' G' H' δ' σ' S4,λ σ' H' hy0=>by obtain ⟨ρ',G',I'⟩:=hy0;exact ⟨m,PY _,ρ',G',δ',S4,I',e3⟩,hb ρ0 G0 H0 ρ3 G3 σ2 H3 δ2 S3 _ _ _ I3 ef λ σ5 ρ5 G5 H5 I5=>⟨ρ5,G5,I5⟩⟩
    | ct δ'=>exact ⟨λ σ' H'=>∃ ρ' G',lT K cl ρ0 G0 H0 ρ' G' H' δ' σ' S4,λ σ' H' hy0=>by obtain ⟨ρ',G',I'⟩:=hy0;exact ⟨m,PY _,ρ',G',δ',S4,I',e3⟩,hb ρ0 G0 H0 ρ3 G3 σ2 H3 δ2 S3 _ _ _ I3 ef λ σ5 ρ5 G5 H5 I5=>⟨ρ5,G5,I5⟩⟩
    | bk δ'=>cases e3;exact ⟨λ _ _=>False,λ _ _ z=>z.elim,hb ρ0 G0 H0 ρ3 G3 σ2 H3 δ2 S3 _ _ _ I3 ef λ σ5 ρ5 G5 H5 I5=>p σ5 ρ5 G5 H5 I5⟩
    | rt d=>cases e3;exact ⟨λ _ _=>False,λ _ _ z=>z.elim,hb ρ0 G0 H0 ρ3 G3 σ2 H3 δ2 S3 _ _ _ I3 ef p⟩
    | xc x=>cases e3;exact ⟨λ _ _=>False,λ _ _ z=>z.elim,hb ρ0 G0 H0 ρ3 G3 σ2 H3 δ2 S3 _ _ _ I3 ef p⟩
noncomputable def rX (c:Str) (f:DS->ai->SM (List W)):DS->ai->SO:=λ δ S=>iN (f δ S) λ ds S1=>if ds.length<=sizeLine then some (.xc c,S1) else none
theorem zB {c:Str} {t:TA} {f:DS->ai->SM (List W)} (h:SA K cl E t f):kK K cl E (yJ (cl c) E t) (rX c f):=λ ρ0 G0 H0 ρ G σ H δ S o S' D I e p=>by
 rcases lA e with ⟨c',em,rfl⟩ | ⟨d,S1,em,e⟩
 . exact h ρ G σ H δ S _ _ _ I.rs em (λ d hd=>by cases hd) (λ c' hc ρ1 G1 H1 g1 s1=>by cases hc;exact p ρ1 G1 H1 (I.gs.trans g1) s1)
 . refine h ρ G σ H δ S _ _ _ I.rs em (λ d' hd=>?_) (λ c' hc=>by cases hc);cases hd;intro vs ρ1 G1 H1 g1 s1 da;split at e
   . rename_i hz;cases e;exact ⟨by rw [da.length];exact hz,p ρ1 G1 H1 (I.gs.trans g1) s1⟩
   . cases e
noncomputable def bh:SO->SM W
 | some (.rt d,S)=>some (.ok d,S)
 | some (.nx _,S)=>some (.ok .none,S)
 | some (.xc c,S)=>some (.xc c,S)
 | _=>none
noncomputable def be (a n:Nat) (fb:DS->ai->SO):List W->ai->SM W:=λ ds S=>if ds.length=a then bh (fb (fE n ds) S) else none
theorem jV {a n:Nat} {fb:DS->ai->SO} {ds:List W} {S:ai} {r:Rs W×ai} (h:be a n fb ds S=some r):ds.length=a:=by
 unfold be at h;split at h
 . assumption
 . cases h
theorem Bf {f:List W->ai->SM W} {a:Nat} {vs:List V} {H:Hp} {Q:VK} {E:XK} (hf:∀ ds S r,f ds S=some r->ds.length=a) (h:uH K cl f vs H Q E):vs.length=a:=by
 obtain ⟨ρ,G,S,ds,r,S',s,sr,da,e,q⟩:=h;rw [da.length];exact hf ds S _ e
theorem Jg {t:TS} {fb:DS->ai->SO} {N:List Str} {a n:Nat} {vs:List V} {H:Hp} {Q:VK} {E:XK} (hn:N.length=n) (h:kK K cl E t fb) (hsp:uH K cl (be a n fb) vs H Q E):t { nx:=λ _ H'=>Q .non H',rt:=Q } (start N vs) H:=by
 subst hn;obtain ⟨ρ,G,S,ds,r,S',s,sr,da,e,q,qx⟩:=hsp;have R:=u1 (N:=N) s da;have I:lT K cl ρ G H ρ G H (fE N.length ds) (start N vs) S:=⟨⟨R,sr,λ i ds' p h1=>absurd h1 iS⟩,.refl s,λ i p ds' h1=>absurd h1 iS⟩
 unfold be at e;rw [OG (jV (show be a N.length fb ds S=some (r,S') from e))] at e;cases ef:fb (fE N.length ds) S with
 | none=>rw [ef] at e;cases e
 | some o=>
  obtain ⟨o,S1⟩:=o;rw [ef] at e;refine h ρ G H ρ G _ H _ S o S1 _ I ef ?_;cases o with
  | nx δ=>cases e;exact λ σ' ρ' G' H' I'=>q _ rfl _ ρ' G' H' I'.gs I'.rs.st .non
  | rt d'=>cases e;exact λ v ρ' G' H' g s dv=>q _ rfl v ρ' G' H' g s dv
  | xc c=>cases e;exact λ ρ' G' H' g s=>qx _ rfl ρ' G' H' g s
  | bk _=>cases e
  | ct _=>cases e
theorem vE {f:List W->ai->SM W} {a:Nat} {vs:List V} {H:Hp} {Q:VK} {E:XK} (hf:∀ ds S r,f ds S=some r->ds.length=a) (h:ji K cl f vs H Q E):vs.length=a:=by
 obtain ⟨ρ,G,S,ds,r,S',s,sr,da,e,q⟩:=h;rw [da.length];exact hf ds S _ e
theorem CY {t:TS} {fb:DS->ai->SO} {N:List Str} {a n:Nat} {vs:List V} {H:Hp} {Q:VK} {E:XK} (hn:N.length=n) (h:kK K cl E0 t fb) (hsp:ji K cl (be a n fb) vs H Q E):t { nx:=λ _ H'=>Q .non H',rt:=Q } (start N vs) H:=by
 obtain ⟨ρ,G,S,ds,d,S',s,sr,da,e,q⟩:=hsp;exact Jg (E:=E0) hn h ⟨ρ,G,S,ds,.ok d,S',s,sr,da,e,(λ d' hd=>by cases hd;exact q),(λ c hc=>by cases hc)⟩
theorem zf {g:List W->ai->SM W} {vs:List V} {H:Hp} {Q:VK} {E:XK} (hg:∀ ds S,g ds S=none) (h:uH K cl g vs H Q E):False:=by
 obtain ⟨ρ,G,S,ds,r,S',s,sr,da,e,q⟩:=h;rw [hg] at e;cases e
theorem fH.noX {P:Program} {w:World} {mg:Str->Option Value} {base:Heap} {CX:sV} {k:Nat} {f:Addr} {fd:FuncData} {ps:List Str} {g:List W->ai->SM W} (hg:∀ ds S,g ds S=none):fH P w K mg base CX k f fd ps (uH K cl g):=
 ⟨λ _ _ _ _ h=>(zf hg h).elim,λ _ _ _ _ _ _ _ _ _ _ _ _ _ h=>(zf hg h).elim⟩
end
section
variable {X:Cx} {pins:List (Addr×Obj)} {σ:St} {H:Hp} {s:Shared} {a:Addr} {kvs:List (bn×V)} {k:bn} {u:Value} {A:Around} {E:Value->Shared->Prop}
end
section
variable {X:Cx} {o e f:Expr} {td ty tx:TE} {apos cpos:Pos}
end
section
variable {prog:Program} {w:World} {A:Around} {E:Value->Shared->Prop} {s:Shared}
end
section
variable {X:Cx} {pos:Pos}
end
section
variable {K:Frag} {ρ:List Addr}
noncomputable def LO:W->Option V
 | .none=>some .non
 | .bool b=>some (.bl b)
 | .int i=>some (.int i)
 | .str x=>some (.str x)
 | _=>none
noncomputable def B7:List W->Option (List V)
 | []=>some []
 | d::ds=>(LO d).bind λ v=>(B7 ds).map (v::·)
theorem v8 {H:Hp} {v u:V} {d:W} (h:Dw K ρ H v d) (e:LO d=some u):v=u/\gC u=true:=by
 cases h <;> first | (cases e;exact ⟨rfl,rfl⟩) | cases e
theorem rA {H:Hp} {vs us:List V} {ds:List W} (h:aF K ρ H vs ds):B7 ds=some us->vs=us/\us.all gC=true:=
 h.ind (M:=λ vs ds=>∀ us,B7 ds=some us->vs=us/\us.all gC=true) (λ us e=>by cases e;exact ⟨rfl,rfl⟩) (λ _ _ _ _ a ih us e=>by
  obtain ⟨u,e1,e⟩:=oB e
  obtain ⟨us,e2,rfl⟩:=oM e
  obtain ⟨h1,h2⟩:=v8 a e1;obtain ⟨h3,h4⟩:=ih _ e2;exact ⟨by rw [h1,h3],by rw [List.all_cons,h2,h4];rfl⟩) us
noncomputable def rK (d e:W):Option Bool:=(vm e).bind λ ds=>(LO d).bind λ v=>(B7 ds).map λ vs=>HV v vs
noncomputable def A4 (d e:W):Option Bool:=(rK d e).map (!·)
theorem zJ {H:Hp} {x y:V} {d e:W} {b:Bool} (hx:Dw K ρ H x d) (hy:Dw K ρ H y e) (h:rK d e=some b):∃ p xs,y=.ref p/\(eC K H p xs∨gW K H p xs)/\gC x=true/\xs.all gC=true/\HV x xs=b:=by
 obtain ⟨ds,e1,h⟩:=oB h
 obtain ⟨v,e2,h⟩:=oB h
 obtain ⟨vs,e3,rfl⟩:=oM h
 obtain ⟨rfl,f1⟩:=v8 hx e2;cases hy with
 | lst sq da=>
  cases e1;obtain ⟨rfl,f2⟩:=rA da e3;exact ⟨_,_,rfl,.inl sq,f1,f2,rfl⟩
 | tup sq da=>
  cases e1;obtain ⟨rfl,f2⟩:=rA da e3;exact ⟨_,_,rfl,.inr (gW.of sq),f1,f2,rfl⟩
 | _=>cases e1
theorem JL:DB K ρ (Hg K false) rK:=λ H x y d e b Q hx hy hg q=>by
 obtain ⟨p,xs,h1,h2,h3,h4,rfl⟩:=zJ hx hy hg;exact ⟨p,xs,h1,h2,h3,h4,q⟩
end
section
variable {K:Frag} {cl:Str->Addr} {E:XK}
noncomputable def eY (x:W) (S:ai):Option (Nat×List W):=match kg x S with
 | some (n,.lst ds)=>some (n,ds)
 | _=>none
theorem cD {x:W} {S:ai} {n:Nat} {ds:List W} (h:eY x S=some (n,ds)):x=.ref n/\S[n]?=some (.lst ds):=by
 unfold eY at h;cases e:kg x S with
 | none=>rw [e] at h;cases h
 | some p=>
  obtain ⟨m,o⟩:=p;rw [e] at h;cases o with
  | lst ds=>cases h;exact fO e
  | _=>cases h
noncomputable def Cj (x:W) (S:ai):Option (List W):=match eY x S with
 | some (_,ds)=>some ds
 | none=>vm x
theorem xb {ρ:List Addr} {G H:Hp} {S:ai} {v:V} {x:W} {ds:List W} (sg:bB G H) (s:SR K ρ cl G H S) (dv:Dw K ρ G v x) (h:Cj x S=some ds):∃ p vs,v=.ref p/\(eC K H p vs∨gW K H p vs)/\aF K ρ G vs ds:=by
 unfold Cj at h;split at h
 . rename_i n ds' e;cases h;obtain ⟨rfl,e2⟩:=cD e;obtain ⟨a,rfl,ea⟩:=cc dv;obtain ⟨ga,vs,k1,k2⟩:=s.addr e2 ea;exact ⟨a,vs,rfl,.inl (eC.of k1),k2⟩
 . cases dv with
   | lst sq da=>cases h;exact ⟨_,_,rfl,.inl (sg.seq sq),da⟩
   | tup sq da=>cases h;exact ⟨_,_,rfl,.inr (sg.tup (gW.of sq)),da⟩
   | _=>cases h
noncomputable def v5 (x y:W) (S:ai):Option W:=match eY x S with
 | some (_,ds)=>(AY y).bind λ i=>iO ds i
 | none=>bC x y
noncomputable def sIx (fa fb:DS->ai->SM W):DS->ai->SM W:=λ δ S=>aq (fa δ S) λ x S1=>aq (fb δ S1) λ y S2=>iL (v5 x y S2) S2
theorem IG {ta tb:TE} {fa fb:DS->ai->SM W} (ha:SE K cl E ta fa) (hb:SE K cl E tb fb):SE K cl E (sX (Kl K) ta tb) (sIx fa fb):=λ ρ G σ H δ S r' S' Q R e q qx=>
 ip ha hb R e (λ x y S2 e2 v u ρ2 G2 H2 g2 s2 dv du=>by
  obtain ⟨c,e3,rfl,rfl⟩:=cj e2;unfold v5 at e3;split at e3
  . rename_i n ds e4;obtain ⟨i,e5,e6⟩:=oB e3
    cases oV e5;cases dI du;obtain ⟨rfl,e7⟩:=cD e4;obtain ⟨a,rfl,ea⟩:=cc dv;obtain ⟨ga,vs,k1,k2⟩:=s2.addr e7 ea;obtain ⟨w,h1,h2⟩:=k2.at e6;exact .inl ⟨a,vs,_,w,rfl,rfl,eC.of k1,h1,q c rfl w ρ2 G2 H2 g2 s2 h2⟩
  . exact Dr G2 H2 v u x y c Q g2.s (.inl dv) du e3 λ w G3 H3 g3 dw=>q c rfl w ρ2 G3 H3 (g2.trans (.of g3)) (s2.grow g3) dw) qx
noncomputable def qt (x:W) (S:ai):Option W:=match eY x S with
 | some (_,ds)=>some (.int ds.length)
 | none=>jD x
noncomputable def gR (fa:DS->ai->SM W):DS->ai->SM W:=λ δ S=>aq (fa δ S) λ x S1=>iL (qt x S1) S1
theorem Gg {ta:TE} {fa:DS->ai->SM W} (ha:SE K cl E ta fa):SE K cl E (wY (wD K) (iz ta kT)) (gR fa):=λ ρ G σ H δ S r' S' Q R e q qx=>
 cC ha R e (λ x S2 e2 v ρ2 G2 H2 g2 s2 dv=>by
  obtain ⟨c,e3,rfl,rfl⟩:=cj e2;unfold qt at e3;split at e3
  . rename_i n ds e4;cases e3;obtain ⟨rfl,e7⟩:=cD e4;obtain ⟨a,rfl,ea⟩:=cc dv;obtain ⟨ga,vs,k1,k2⟩:=s2.addr e7 ea;exact .inl ⟨a,vs,rfl,.inl (eC.of k1),by rw [k2.length];exact q _ rfl _ ρ2 G2 H2 g2 s2 (.int _)⟩
  . exact yh G2 H2 v x c Q g2.s (.inl dv) e3 λ w G3 H3 g3 dw=>q c rfl w ρ2 G3 H3 (g2.trans (.of g3)) (s2.grow g3) dw) qx
noncomputable def Ot (g:W->Option W) (fa:DS->ai->SM W):DS->ai->SM W:=λ δ S=>aq (fa δ S) λ x S1=>iL (g x) S1
noncomputable def ig (fa:DS->ai->SM W):DS->ai->SM W:=λ δ S=>aq (fa δ S) λ x S1=>(Cj x S1).map λ ds=>(.ok (.ref S1.length),S1++[.lst ds])
theorem yr {ta:TE} {fa:DS->ai->SM W} (ha:SE K cl E ta fa):SE K cl E (wY (nW K) (iz ta kT)) (ig fa):=λ ρ G σ H δ S r' S' Q R e q qx=>
 cC ha R e (λ x S2 e2 v ρ2 G2 H2 g2 s2 dv=>by
  obtain ⟨ds,e4,e5⟩:=oM e2
  cases e5;obtain ⟨p,vs,rfl,sq,da⟩:=xb g2.s s2 dv e4;refine ⟨p,vs,rfl,sq,λ l hl=>?_⟩;obtain ⟨s3,g3⟩:=s2.push (o:=.lst ds) g2.s (Nw.of (o:=.lst vs) hl) λ ρ' hr=>⟨vs,aG,da.ext hr⟩
  exact q _ rfl _ _ _ _ (g2.trans g3) s3 (.ref (by rw [<-s2.len];simp))) qx
noncomputable def wH (T:String) (x:W) (S:ai):Option W:=match eY x S with
 | some _=>if T = "list" then some (.bool true) else none
 | none=>match x with
  | .list _=>if T = "list" then some (.bool true) else none
  | .tuple _=>if T = "tuple" then some (.bool true) else none
  | _=>ku T x
noncomputable def Mb (T:String) (fa:DS->ai->SM W):DS->ai->SM W:=λ δ S=>aq (fa δ S) λ x S1=>iL (wH T x S1) S1
noncomputable def aQ (fo fv:DS->ai->SM W):DS->ai->SO:=λ δ S=>iN (fo δ S) λ x S1=>if (eY x S1).isSome=true then iN (fv δ S1) λ d S2=>(eY x S2).bind λ p=>if p.2.length<sizeLine then some (.nx δ,S2.set p.1 (.lst (p.2++[d]))) else none else none
theorem lz {ρ ρ':List Addr} {n:Nat} {a:Addr} (h:ρ <+: ρ') (e:ρ[n]?=some a):ρ'[n]?=some a:=by
 obtain ⟨t,rfl⟩:=h;rw [OR (oG e).1];exact e
theorem qc {to tv:TE} {fo fv:DS->ai->SM W} (ho:SE K cl E to fo) (hv:SE K cl E tv fv):kK K cl E (vY (Hl K "list" nX to (iz tv kT))) (aQ fo fv):=λ ρ0 G0 H0 ρ G σ H δ S o S' D I e p=>
 eU ho I e p λ x S1 e1 u ρ1 G1 H1 g1 s1 du=>by
  split at e1
  case isFalse=>cases e1
  rename_i hx;obtain ⟨⟨n,ds0⟩,hx0⟩:=P6.mp hx;obtain ⟨rfl,h0⟩:=cD hx0;obtain ⟨a,rfl,ea⟩:=cc du;obtain ⟨_,vs0,k0,_⟩:=s1.addr h0 ea;have I1:=I.grow g1 s1;refine ⟨.inl ⟨rfl,vs0,eC.of k0⟩,eU hv I1 e1 p λ d S2 e2 v ρ2 G2 H2 g2 s2 dv=>?_⟩;obtain ⟨⟨m,ds⟩,e3,e4⟩:=oB e2
  split at e4
  case isFalse=>cases e4
  rename_i hl;cases e4;obtain ⟨em,e5⟩:=cD e3;cases em;have ea2:=lz g2.r ea;obtain ⟨ga,vs,k1,k2⟩:=s2.addr e5 ea2;obtain ⟨s3,g3⟩:=s2.put (x:=.lst (vs++[v])) (o':=.lst (ds++[d])) g2.s e5 ea2 (λ b z=>by cases z) ⟨_,aG,k2.app (.cons dv .nil)⟩;exact ⟨a,vs,v,rfl,rfl,k1,by rw [k2.length];exact hl,p σ ρ2 G2 _ ((I1.grow g2 s2).grow g3 s3)⟩
noncomputable def kx (fo fi fv:DS->ai->SM W):DS->ai->SO:=λ δ S=>iN (fv δ S) λ d S1=>iN (fo δ S1) λ x S2=>iN (fi δ S2) λ y S3=>(eY x S3).bind λ p=>(AY y).bind λ k=>(w9 p.2.length k).map λ j=>(.nx δ,S3.set p.1 (.lst (p.2.set j d)))
theorem wx {to ti tv:TE} {fo fi fv:DS->ai->SM W} (ho:SE K cl E to fo) (hi:SE K cl E ti fi) (hv:SE K cl E tv fv):kK K cl E (sM tv (Gv to ti ym)) (kx fo fi fv):=λ ρ0 G0 H0 ρ G σ H δ S o S' D I e p=>
 eU hv I e p λ d S1 e1 v ρ1 G1 H1 g1 s1 dv=>by
  have I1:=I.grow g1 s1;refine eU ho I1 e1 p λ x S2 e2 u ρ2 G2 H2 g2 s2 du=>?_;have I2:=I1.grow g2 s2;refine eU hi I2 e2 p λ y S3 e3 w ρ3 G3 H3 g3 s3 dw=>?_;obtain ⟨⟨n,ds⟩,e4,e5⟩:=oB e3
  obtain ⟨k,e6,e7⟩:=oB e5
  obtain ⟨j,e8,e9⟩:=oM e7
  cases e9;cases oV e6;cases dI dw;obtain ⟨rfl,e10⟩:=cD e4;obtain ⟨a,rfl,ea⟩:=cc du;have ea3:=lz g3.r ea;obtain ⟨ga,vs,k1,k2⟩:=s3.addr e10 ea3;have g23:=g2.trans g3;obtain ⟨s4,g4⟩:=s3.put (x:=.lst (vs.set j v)) (o':=.lst (ds.set j d)) g3.s e10 ea3 (λ b z=>by cases z) ⟨_,aG,aF.set ((dv.ext g23.r).same g23.g) j k2⟩;exact ⟨a,vs,k,j,rfl,rfl,k1,by rw [k2.length];exact e8,p σ ρ3 G3 _ ((I2.grow g3 s3).grow g4 s4)⟩
noncomputable def mS:W->Option bn
 | .int i=>some (Sum.inl i)
 | .str x=>some (Sum.inr x)
 | _=>none
theorem p9 {ρ:List Addr} {G:Hp} {v:V} {d:W} {k:bn} (h:Dw K ρ G v d) (e:mS d=some k):v=kV k:=by
 cases h <;> first | (cases e;rfl) | cases e
noncomputable def oK (x:W) (S:ai):Option (Nat×List (bn×W)):=match kg x S with
 | some (n,.dK kvs)=>some (n,kvs)
 | _=>none
theorem i9 {x:W} {S:ai} {n:Nat} {kvs:List (bn×W)} (h:oK x S=some (n,kvs)):x=.ref n/\S[n]?=some (.dK kvs):=by
 unfold oK at h;split at h
 . rename_i n' ds' e;cases h;exact fO e
 . cases h
noncomputable def d8 {κ:Type} [DecidableEq κ] (kvs:List (κ×W)) (k:κ):Option W:=(kvs.find? λ kv=>decide (kv.1=k)).map (·.2)
noncomputable def eX {κ:Type} [DecidableEq κ] (kvs:List (κ×W)) (k:κ) (v:W):List (κ×W):=if (kvs.any λ kv=>decide (kv.1=k))=true then kvs.map λ kv=>if kv.1=k then (kv.1,v) else kv else kvs++[(k,v)]
theorem gP.val {κ:Type} [DecidableEq κ] {ρ:List Addr} {G:Hp} {k:κ}:∀ {l:List (κ×W)} {m:List (κ×V)},gP K ρ G l m->(∀ d,d8 l k=some d->∃ v,kf m k=some v/\Dw K ρ G v d)/\(d8 l k=none->kf m k=none):=λ q=>by
 induction q with
 | nil=>exact ⟨(λ d e=>by cases e),λ _=>rfl⟩
 | @cons j x0 v0 l m a b ih=>
  obtain ⟨h1,h2⟩:=ih;by_cases hj:j=k
  . subst hj;refine ⟨λ d e=>?_,λ e=>?_⟩
    . have e':d8 ((j,x0)::l) j=some x0:=by simp [d8,Po]
      rw [e'] at e;cases e;exact ⟨_,lc rfl,a⟩
    . simp [d8,Po] at e
  . refine ⟨λ d e=>?_,λ e=>?_⟩
    . rw [j9 hj];exact h1 d (by simpa [d8,Po,hj] using e)
    . rw [j9 hj];exact h2 (by simpa [d8,Po,hj] using e)
theorem gP.any {κ:Type} [DecidableEq κ] {ρ:List Addr} {G:Hp} {k:κ}:∀ {l:List (κ×W)} {m:List (κ×V)},gP K ρ G l m->(l.any λ kv=>decide (kv.1=k))=m.any λ kv=>decide (kv.1=k):=λ q=>by
 induction q with
 | nil=>rfl
 | cons a b ih=>rw [Qm,Qm,ih]
theorem gP.repl {κ:Type} [DecidableEq κ] {ρ:List Addr} {G:Hp} {k:κ} {v:V} {d:W} (h:Dw K ρ G v d):∀ {l:List (κ×W)} {m:List (κ×V)},gP K ρ G l m->gP K ρ G (l.map λ kv=>if kv.1=k then (kv.1,d) else kv) (m.map λ kv=>if kv.1=k then (kv.1,v) else kv):=λ q=>by
 induction q with
 | nil=>exact .nil
 | @cons j d0 v0 l m a b ih=>
  rw [OK,OK];by_cases hj:j=k
  . simp only [OG hj];exact .cons h ih
  . simp only [OT hj];exact .cons a ih
theorem gP.snoc {κ:Type} {ρ:List Addr} {G:Hp} {k:κ} {v:V} {d:W} (h:Dw K ρ G v d):∀ {l:List (κ×W)} {m:List (κ×V)},gP K ρ G l m->gP K ρ G (l++[(k,d)]) (m++[(k,v)]):=λ q=>by
 induction q with
 | nil=>exact .cons h .nil
 | cons a _ ih=>exact .cons a ih
theorem gP.put {κ:Type} [DecidableEq κ] {ρ:List Addr} {G:Hp} {k:κ} {v:V} {d:W} (h:Dw K ρ G v d) {l:List (κ×W)} {m:List (κ×V)} (r:gP K ρ G l m):gP K ρ G (eX l k d) (iD m k v):=by
 unfold eX iD;rw [r.any];split
 . exact r.repl h
 . exact r.snoc h
noncomputable def dh (S:ai) (n:Nat):Option (List W):=match S[n]? with
 | some (.lst ds)=>some ds
 | _=>none
noncomputable def kA (f:W->Option PyData):List W->Option (List PyData)
 | []=>some []
 | d::ds=>(f d).bind λ x=>(kA f ds).map (x::·)
noncomputable def mC (S:ai):Nat->W->Option PyData
 | 0,_=>none
 | n+1,d=>match d with
  | .list ds=>(kA (mC S n) ds).map .list
  | .tuple ds=>(kA (mC S n) ds).map .tuple
  | .ref m=>(dh S m).bind λ ds=>(kA (mC S n) ds).map .list
  | d=>d.py
theorem rh {H:Hp} {ρ:List Addr} {G:Hp} {f:W->Option PyData} (hf:∀ v d x,Dw K ρ G v d->f d=some x->Dp K H v x) {vs:List V} {ds:List W} {xs:List PyData} (h:aF K ρ G vs ds):kA f ds=some xs->nA K H vs xs:=
 h.ind (M:=λ vs ds=>∀ xs,kA f ds=some xs->nA K H vs xs) (λ xs e=>by cases e;exact .nil) (λ _ _ _ _ a ih xs e=>by
  obtain ⟨x,e1,e⟩:=oB e
  obtain ⟨ys,e2,rfl⟩:=oM e
  exact .cons (hf _ _ _ a e1) (ih _ e2)) xs
theorem kH {ρ:List Addr} {G H:Hp} {S:ai} (sg:bB G H) (s:SR K ρ cl G H S):∀ (n:Nat) (v:V) (d:W) (x:PyData),Dw K ρ G v d->mC S n d=some x->Dp K H v x
 | 0,_,_,_,_,e=>by cases e
 | n+1,v,d,x,h,e=>by
  cases h with
  | lst sq da=>
   obtain ⟨xs,e1,rfl⟩:=oM e
   exact .lst (sg.seq sq) (rh (λ v d x=>kH sg s n v d x) da e1)
  | tup sq da=>
   obtain ⟨xs,e1,rfl⟩:=oM e
   exact .tup (sg.tup (gW.of sq)) (rh (λ v d x=>kH sg s n v d x) da e1)
  | ref ea=>
   obtain ⟨ds,e1,e2⟩:=oB e
   obtain ⟨xs,e3,rfl⟩:=oM e2
   unfold dh at e1;split at e1
   . rename_i ds' h1;cases e1;obtain ⟨ga,vs,k1,k2⟩:=s.addr h1 ea;exact .lst (eC.of k1) (rh (λ v d x=>kH sg s n v d x) k2 e3)
   . cases e1
  | non=>exact Dw.dp (ρ:=ρ) .non e
  | bl b=>exact Dw.dp (ρ:=ρ) (.bl b) e
  | int i=>exact Dw.dp (ρ:=ρ) (.int i) e
  | str y=>exact Dw.dp (ρ:=ρ) (.str y) e
noncomputable def lh (neg:Bool) (d e:W) (S:ai):Option Bool:=match Kn d e with
 | some b=>some (if neg then !b else b)
 | none=>(mC S 24 d).bind λ a=>(mC S 24 e).bind λ b=>if (a.canLay0&&b.canLay0&&decide (a.depth<=64))=true then some (if neg then !(PyData.eqv a b) else PyData.eqv a b) else none
noncomputable def DW (K:Frag) (neg:Bool):R2:=if neg then E7 K else Ev K
noncomputable def kd (neg:Bool) (fa fb:DS->ai->SM W):DS->ai->SM Bool:=λ δ S=>aq (fa δ S) λ x S1=>aq (fb δ S1) λ y S2=>iL (lh neg x y S2) S2
theorem tt {ρ:List Addr} {G H:Hp} {S:ai} {neg:Bool} {v u:V} {x y:W} {b:Bool} {Q:VK} (sg:bB G H) (s:SR K ρ cl G H S) (dv:Dw K ρ G v x) (du:Dw K ρ G u y) (h:lh neg x y S=some b) (q:Q (.bl b) H):DW K neg v u H Q:=by
 unfold lh at h;split at h
 . rename_i b' hb;cases h;obtain ⟨h1,h2⟩:=v4 (dv.same sg) (du.same sg) hb;cases neg with
   | false=>exact .inl ⟨h1,by rw [h2];exact q⟩
   | true=>exact .inl ⟨h1,by rw [h2];exact q⟩
 . obtain ⟨a,ea,h⟩:=oB h
   obtain ⟨c,ec,h⟩:=oB h
   split at h
   . rename_i hc;cases h;simp only [OL,OX] at hc;cases neg with
     | false=>exact .inr ⟨a,c,kH sg s 24 _ _ _ dv ea,kH sg s 24 _ _ _ du ec,hc.1.1,hc.1.2,hc.2,q⟩
     | true=>exact .inr ⟨a,c,kH sg s 24 _ _ _ dv ea,kH sg s 24 _ _ _ du ec,hc.1.1,hc.1.2,hc.2,q⟩
   . cases h
theorem Ic {neg:Bool} {ta tb:TE} {fa fb:DS->ai->SM W} (ha:SE K cl E ta fa) (hb:SE K cl E tb fb):ST K cl E (mW (sX (DW K neg) ta tb)) (kd neg fa fb):=λ ρ G σ H δ S r' S' Q R e q qx=>
 ip ha hb R e (λ x y S2 e2 v u ρ2 G2 H2 g2 s2 dv du=>by
  obtain ⟨c,e3,rfl,rfl⟩:=cj e2;exact tt g2.s s2 dv du e3 ⟨c,rfl,q c rfl ρ2 G2 H2 g2 s2⟩) qx
theorem JB {neg:Bool} {ta tb:TE} {fa fb:DS->ai->SM W} (ha:SE K cl E ta fa) (hb:SE K cl E tb fb):SE K cl E (sX (DW K neg) ta tb) (sB (kd neg fa fb)):=λ ρ G σ H δ S r' S' Q R e q qx=>by
 rcases aL e with ⟨c,em,rfl⟩ | ⟨b,S1,em,e⟩
 . exact ip (r:=Rs.xc c) ha hb R em (λ x y S2 e2=>by obtain ⟨_,_,z,_⟩:=cj e2;cases z) (λ c' hc=>by cases hc;exact qx c rfl)
 . cases e;exact ip ha hb R em (λ x y S2 e2 v u ρ2 G2 H2 g2 s2 dv du=>by
    obtain ⟨c,e3,z,rfl⟩:=cj e2;cases z;exact tt g2.s s2 dv du e3 (q _ rfl _ ρ2 G2 H2 g2 s2 (.bl _))) (λ c hc=>by cases hc)
end
section
variable {K:Frag} {cl:Str->Addr} {E:XK}
noncomputable def iV (f:DS->ai->SM W):DS->ai->SM Bool:=λ δ S=>aq (f δ S) λ x S1=>iL (AB x) S1
theorem Fp {t:TE} {f:DS->ai->SM W} (h:SE K cl E t f):ST K cl E (tB t) (iV f):=λ ρ G σ H δ S r S' Q R e q qx=>
 cC h R e (λ x S1 e1 v ρ1 G1 H1 g1 s1 dv=>by
  obtain ⟨b,e2,rfl,rfl⟩:=cj e1;cases v3 e2;cases CP dv;exact ⟨b,rfl,q b rfl ρ1 G1 H1 g1 s1⟩) qx
noncomputable def wj (f g:DS->ai->SM W):DS->ai->SM W:=λ δ S=>aq (f δ S) λ x S1=>(AB x).bind λ b=>if b=true then g δ S1 else some (.ok (.bool false),S1)
noncomputable def LV (f g:DS->ai->SM W):DS->ai->SM W:=λ δ S=>aq (f δ S) λ x S1=>(AB x).bind λ b=>if b=true then some (.ok (.bool true),S1) else g δ S1
noncomputable def Jw (f:DS->ai->SM W):DS->ai->SM W:=λ δ S=>aq (f δ S) λ x S1=>(AB x).map λ b=>(.ok (.bool (!b)),S1)
theorem Ea {t u:TE} {f g:DS->ai->SM W} (h1:SE K cl E t f) (h2:SE K cl E u g):SE K cl E (Da t u) (wj f g):=λ ρ G σ H δ S r S' Q R e q qx=>
 cC h1 R e (λ x S1 e1 v ρ1 G1 H1 g1 s1 dv=>by
  obtain ⟨b,e2,e3⟩:=oB e1
  cases v3 e2;cases CP dv;refine ⟨b,rfl,?_⟩;cases b with
  | true=>exact h2 ρ1 G1 σ H1 δ S1 r S' Q (R.grow g1 s1) e3 (λ d hd v ρ2 G2 H2 g2 s2 dv=>q d hd v ρ2 G2 H2 (g1.trans g2) s2 dv) λ c hc ρ2 G2 H2 g2 s2=>qx c hc ρ2 G2 H2 (g1.trans g2) s2
  | false=>cases e3;exact q _ rfl _ ρ1 G1 H1 g1 s1 (.bl _)) qx
theorem CT.ext {ρ ρ1:List Addr} {J:It} {ds:List W} {i:Nat} {G H:Hp} (h:ρ <+: ρ1) (a:CT K ρ J ds i G H):CT K ρ1 J ds i G H:=⟨λ d hd=>⟨(a.1 d hd).1,λ x H' y=>by
 obtain ⟨G',g,dx⟩:=(a.1 d hd).2 x H' y;exact ⟨G',g,dx.ext h⟩⟩,a.2⟩
theorem uI {S:ai} {n:Nat} {ds:List W} (h:dh S n=some ds):S[n]?=some (.lst ds):=by
 unfold dh at h;split at h
 . rename_i e;cases h;exact e
 . cases h
inductive Kd where
 | l
 | e
 | d (m:Nat)
noncomputable def L1:bn->W
 | .inl i=>.int i
 | .inr x=>.str x
noncomputable def ot (S:ai) (n:Nat×Kd):Option (List W):=match n.2 with
 | .l=>dh S n.1
 | .e=>(dh S n.1).map Dv
 | .d m=>(oK (.ref n.1) S).bind λ p=>if p.2.length=m then some (p.2.map λ e=>L1 e.1) else none
noncomputable def LB (K:Frag) (cl:Str->Addr) (ρ:List Addr) (J:It) (n:Nat×Kd):Prop:=
 ∀ (i:Nat) (ρ1:List Addr) (G1 H1:Hp) (S1:ai) (es:List W),ρ <+: ρ1->bB G1 H1->SR K ρ1 cl G1 H1 S1->ot S1 n=some es->CT K ρ1 J es i G1 H1
noncomputable def Lr (K:Frag) (cl:Str->Addr) (E:XK) (wi:TI) (f:DS->ai->SM (Nat×Kd)):Prop:=
 ∀ (ρ:List Addr) (G:Hp) (σ:St) (H:Hp) (δ:DS) (S:ai) (r:Rs (Nat×Kd)) (S':ai) (R':It->Hp->Prop),RS K cl ρ G H δ σ S->f δ S=some (r,S')->
  (∀ n,r=.ok n->∀ J ρ' G' H',GS ρ G H ρ' G' H'->SR K ρ' cl G' H' S'->LB K cl ρ' J n->R' J H')->
  (∀ c,r=.xc c->∀ ρ' G' H',GS ρ G H ρ' G' H'->SR K ρ' cl G' H' S'->E (.ref (cl c)) none H')->wi σ H R'
noncomputable def m9 (f:DS->ai->SM W):DS->ai->SM (Nat×Kd):=λ δ S=>aq (f δ S) λ x S1=>(eY x S1).map λ p=>(.ok (p.1,.l),S1)
theorem AN {t:TE} {f:DS->ai->SM W} (h:SE K cl E t f):Lr K cl E (xU K t) (m9 f):=λ ρ G σ H δ S r S' R' R e q qx=>
 cC h R e (λ x S1 e1 v ρ1 G1 H1 g1 s1 dv=>by
  obtain ⟨⟨n,ds⟩,e2,e3⟩:=oM e1
  cases e3;obtain ⟨rfl,e4⟩:=cD e2;obtain ⟨a,rfl,ea⟩:=cc dv;obtain ⟨ga,vs,k1,k2⟩:=s1.addr e4 ea;refine ⟨a,rfl,.inl ⟨⟨vs,eC.of k1⟩,q (n,.l) rfl _ ρ1 G1 H1 g1 s1 λ i ρ2 G2 H2 S2 es pr s2 sr he=>?_⟩⟩;obtain ⟨ga2,vs2,m1,m2⟩:=sr.addr (uI he) (lz pr ea);exact sf s2 (eC.of m1) m2) qx
noncomputable def oC (n:Nat×Kd) (h:W->DS->Option DS) (fb:DS->ai->SO):Nat->Nat->DS->ai->SO
 | 0,_,_,_=>none
 | f+1,i,δ,S=>(ot S n).bind λ es=>match es[i]? with
  | none=>some (.nx δ,S)
  | some d=>(h d δ).bind λ δ2=>match fb δ2 S with
   | some (.nx δ',S')=>oC n h fb f (i+1) δ' S'
   | some (.ct δ',S')=>oC n h fb f (i+1) δ' S'
   | some (.bk δ',S')=>some (.nx δ',S')
   | some (.rt d,S')=>some (.rt d,S')
   | some (.xc c,S')=>some (.xc c,S')
   | none=>none
noncomputable def Gt (m:Nat) (fi:DS->ai->SM (Nat×Kd)) (h:W->DS->Option DS) (fb:DS->ai->SO):DS->ai->SO:=λ δ S=>iN (fi δ S) λ n S1=>oC n h fb m 0 δ S1
theorem RS.lift {ρ:List Addr} {G H:Hp} {δ:DS} {σ:St} {S:ai} {ix:List (Option Nat)} (hx:wT ix=true) (R:RS K cl ρ G H δ σ S):RS K cl ρ G H (bP ix δ) (lift ix σ) S:=
 ⟨R.rl.lift hx,R.st,λ j ds p h1 h2=>by
  obtain ⟨o,k1,k2⟩:=me h1;cases o with
  | none=>cases k2
  | some i=>
   have k3:δ[i]?=some (.own ds):=by
    cases e:δ[i]? with
    | none=>simp [pT,e] at k2
    | some s=>simp [pT,e] at k2;rw [k2]
   rw [px k1] at h2;simp only [K2] at h2;split at h2
   . rename_i w e;exact R.ap i ds p k3 (by rw [e];simpa using h2)
   . cases h2⟩
noncomputable def cY (h:W->DS->Option DS) (c:DS->ai->SM Bool) (fe:DS->ai->SM W) (δ:DS):List W->ai->SM (List W)
 | [],S=>some (.ok [],S)
 | d::ds,S=>(h d δ).bind λ δ2=>aq (c δ2 S) λ b S1=>if b=true then aq (fe δ2 S1) λ e S2=>aq (cY h c fe δ ds S2) λ es S3=>some (.ok (e::es),S3) else cY h c fe δ ds S1
end
section
variable {K:Frag} {cl:Str->Addr} {E:XK}
noncomputable def iQ (ix:List (Option Nat)) (fi:DS->ai->SM (List W)) (h:W->DS->Option DS) (c:DS->ai->SM Bool) (fe:DS->ai->SM W):DS->ai->SM W:=λ δ S=>
 aq (fi δ S) λ ds S0=>if ds.length<=sizeLine then aq (cY h c fe (bP ix δ) ds S0) λ es S1=>some (.ok (.ref S1.length),S1++[.lst es]) else none
theorem zT {ix:List (Option Nat)} {wi:TI} {g:TG} {tc:TT} {te:TE} {fi:DS->ai->SM (List W)} {h:W->DS->Option DS} {c:DS->ai->SM Bool} {fe:DS->ai->SM W}
 (hx:wT ix=true) (hi:KL K cl E wi fi) (hg:∀ ρ,DG K ρ g h) (hc:ST K cl E tc c) (he:SE K cl E te fe):SE K cl E (oU ix wi g tc te) (iQ ix fi h c fe):=λ ρ G σ H δ S r S' Q R e q qx=>by
 rcases aL e with ⟨c0,em,rfl⟩ | ⟨ds,S0,em,e⟩
 . exact hi ρ G σ H δ S _ _ _ R em (λ d hd=>by cases hd) (λ c' hc=>by cases hc;exact qx c0 rfl)
 split at e
 case isFalse=>cases e
 rename_i hz;refine hi ρ G σ H δ S _ _ _ R em (λ ds' hd=>?_) (λ c' hc=>by cases hc);cases hd;intro J ρ1 G1 H1 gs1 sr1 it;have R1:=R.grow gs1 sr1;refine ⟨λ i m ys H2=>m=ds.length-i/\i<=ds.length/\ys.length<=i/\∃ ρ2 G2 as S2,GS ρ1 G1 H1 ρ2 G2 H2/\SR K ρ2 cl G2 H2 S2/\aF K ρ2 G2 ys as/\aq (cY h c fe (bP ix δ) (ds.drop i) S2) (λ es S1=>some (.ok (.ref S1.length),S1++[.lst (as++es)]))=some (r,S'),⟨ds.length,by simp,O8 _,OB _,ρ1,G1,[],S0,.refl gs1.s,R1.st,.nil,by simpa using e⟩,?_⟩;rintro i m ys H2 ⟨rfl,hil,hyl,ρ2,G2,as,S2,g2,s2,da,eb⟩;have ia:=(it i G2 H2 g2.g g2.s).ext g2.r;have R2:=R1.grow g2 s2;have g12:=gs1.trans g2;by_cases hlt:i<ds.length
 . refine .inr ?_;obtain ⟨go,step⟩:=ia.1 ds[i] (OJ hlt);rw [PZ hlt] at eb;have eb':∃ δ2,h ds[i] (bP ix δ)=some δ2/\aq (aq (c δ2 S2) λ b S1=>if b=true then aq (fe δ2 S1) λ e S2=>aq (cY h c fe (bP ix δ) (ds.drop (i+1)) S2) λ es S3=>some (.ok (e::es),S3) else cY h c fe (bP ix δ) (ds.drop (i+1)) S1) (λ es S1=>some (.ok (.ref S1.length),S1++[.lst (as++es)]))=some (r,S'):=by
    simp only [cY] at eb;cases e2:h ds[i] (bP ix δ) with
    | none=>rw [e2] at eb;cases eb
    | some δ2=>rw [e2] at eb;exact ⟨δ2,rfl,eb⟩
   obtain ⟨δ2,e2,e3⟩:=eb';refine ⟨go,by omega,λ ys' H'=>ys'.length<=i+1/\∃ ρ3 G3 as' S3,GS ρ1 G1 H1 ρ3 G3 H'/\SR K ρ3 cl G3 H' S3/\aF K ρ3 G3 ys' as'/\aq (cY h c fe (bP ix δ) (ds.drop (i+1)) S3) (λ es S1=>some (.ok (.ref S1.length),S1++[.lst (as'++es)]))=some (r,S'),λ ys' H' hy0=>by obtain ⟨l,z⟩:=hy0;exact ⟨ds.length-(i+1),by omega,rfl,hlt,l,z⟩,λ x H' y=>?_⟩;obtain ⟨G3,g3,dx⟩:=step x H' y;have gs3:GS ρ2 G2 H2 ρ2 G3 H':=.of g3;have s3:=s2.grow g3;have R3:=R2.grow gs3 s3;refine hg ρ2 G3 H' (bP ix δ) _ x _ δ2 _ (R3.lift hx).rl dx e2 λ σ2 R4 o4=>?_;have RS4:RS K cl ρ2 G3 H' δ2 σ2 S2:=⟨R4,s3,λ j ds' p h1 h2=>by
    obtain ⟨es',m1,m2⟩:=o4 j ds' p h1 h2;exact (R3.lift hx).ap j es' p m1 m2⟩
   rcases aL e3 with ⟨c',em,rfl⟩ | ⟨es,S5,em,e4⟩
   . -- an exception on the way
     rcases aL em with ⟨c2,en,z⟩ | ⟨b,S4,en,e5⟩
     . cases z;exact hc ρ2 G3 σ2 H' δ2 S2 _ _ _ RS4 en (λ d hd=>by cases hd) (λ c3 h3 ρ5 G5 H5 g5 s5=>by cases h3;exact qx c' rfl ρ5 G5 H5 (g12.trans (gs3.trans g5)) s5)
     . refine hc ρ2 G3 σ2 H' δ2 S2 _ _ _ RS4 en (λ d hd=>?_) (λ c3 h3=>by cases h3);cases hd;intro ρ5 G5 H5 g5 s5;have g15:=g2.trans (gs3.trans g5);have da5:=((da.ext (gs3.trans g5).r).same (gs3.trans g5).g)
       cases b with
       | false=>exact ⟨by omega,ρ5,G5,as,S4,g15,s5,da5,by rw [show cY h c fe (bP ix δ) (ds.drop (i+1)) S4=some (.xc c',S') from e5];rfl⟩
       | true=>
        rw [OG rfl] at e5 ⊢;rcases aL e5 with ⟨c2,en2,z⟩ | ⟨ev,S6,en2,e6⟩
        . cases z;exact he ρ5 G5 σ2 H5 δ2 S4 _ _ _ (RS4.grow g5 s5) en2 (λ d hd=>by cases hd) (λ c3 h3 ρ6 G6 H6 g6 s6=>by cases h3;exact qx c' rfl ρ6 G6 H6 (g12.trans (gs3.trans (g5.trans g6))) s6)
        . refine he ρ5 G5 σ2 H5 δ2 S4 _ _ _ (RS4.grow g5 s5) en2 (λ d hd=>?_) (λ c3 h3=>by cases h3);cases hd;intro v ρ6 G6 H6 g6 s6 dv;rcases aL e6 with ⟨c2,en3,z⟩ | ⟨es2,S7,en3,e7⟩
          . cases z;exact ⟨by simp;omega,ρ6,G6,as++[ev],S6,g15.trans g6,s6,((da5.ext g6.r).same g6.g).app (.cons dv .nil),by rw [en3];rfl⟩
          . cases e7
   . cases e4;rcases aL em with ⟨c2,en,z⟩ | ⟨b,S4,en,e5⟩
     . cases z
     . refine hc ρ2 G3 σ2 H' δ2 S2 _ _ _ RS4 en (λ d hd=>?_) (λ c3 h3=>by cases h3);cases hd;intro ρ5 G5 H5 g5 s5;have g15:=g2.trans (gs3.trans g5);have da5:=((da.ext (gs3.trans g5).r).same (gs3.trans g5).g)
       cases b with
       | false=>exact ⟨by omega,ρ5,G5,as,S4,g15,s5,da5,by rw [show cY h c fe (bP ix δ) (ds.drop (i+1)) S4=some (.ok es,S5) from e5];rfl⟩
       | true=>
        rw [OG rfl] at e5 ⊢;rcases aL e5 with ⟨c2,en2,z⟩ | ⟨ev,S6,en2,e6⟩
        . cases z
        . refine he ρ5 G5 σ2 H5 δ2 S4 _ _ _ (RS4.grow g5 s5) en2 (λ d hd=>?_) (λ c3 h3=>by cases h3);cases hd;intro v ρ6 G6 H6 g6 s6 dv;rcases aL e6 with ⟨c2,en3,z⟩ | ⟨es2,S7,en3,e7⟩
          . cases z
          . cases e7;exact ⟨by simp;omega,ρ6,G6,as++[ev],S6,g15.trans g6,s6,((da5.ext g6.r).same g6.g).app (.cons dv .nil),by rw [en3];simp [aq]⟩
 . have hi':i=ds.length:=by omega
   subst hi';refine .inl ⟨ia.2 (OB _),by omega,λ p hp=>?_⟩;rw [Qc] at eb;simp only [cY,aq,O9] at eb;cases eb;have n:Nw H2 (cE H2 p (.lst ys)) p (.lst ys):=.of hp;obtain ⟨s3,g3⟩:=s2.push (o:=.lst as) g2.s n λ ρ' hr=>⟨ys,aG,da.ext hr⟩
   exact q _ rfl _ _ _ _ (g12.trans g3) s3 (.ref (by rw [<-s2.len];simp))
noncomputable def cg (n:Nat×Kd) (h:W->DS->Option DS) (c:DS->ai->SM Bool) (fe:DS->ai->SM W) (δ:DS):Nat->Nat->ai->SM (List W)
 | 0,_,_=>none
 | f+1,i,S=>(ot S n).bind λ es=>match es[i]? with
  | none=>some (.ok [],S)
  | some d=>(h d δ).bind λ δ2=>aq (c δ2 S) λ b S1=>if b=true then aq (fe δ2 S1) λ e S2=>aq (cg n h c fe δ f (i+1) S2) λ es S3=>some (.ok (e::es),S3) else cg n h c fe δ f (i+1) S1
noncomputable def pi (m:Nat) (ix:List (Option Nat)) (fi:DS->ai->SM (Nat×Kd)) (h:W->DS->Option DS) (c:DS->ai->SM Bool) (fe:DS->ai->SM W):DS->ai->SM W:=λ δ S=>
 aq (fi δ S) λ n S0=>if m<=sizeLine then aq (cg n h c fe (bP ix δ) m 0 S0) λ es S1=>some (.ok (.list es),S1) else none
theorem yM {m:Nat} {ix:List (Option Nat)} {wi:TI} {g:TG} {tc:TT} {te:TE} {fi:DS->ai->SM (Nat×Kd)} {h:W->DS->Option DS} {c:DS->ai->SM Bool} {fe:DS->ai->SM W}
 (hx:wT ix=true) (hi:Lr K cl E wi fi) (hg:∀ ρ,DG K ρ g h) (hc:ST K cl E tc c) (he:SE K cl E te fe):SE K cl E (oU ix wi g tc te) (pi m ix fi h c fe):=λ ρ G σ H δ S r S' Q R e q qx=>by
 rcases aL e with ⟨c0,em,rfl⟩ | ⟨n,S0,em,e⟩
 . exact hi ρ G σ H δ S _ _ _ R em (λ d hd=>by cases hd) (λ c' hc=>by cases hc;exact qx c0 rfl)
 split at e
 case isFalse=>cases e
 rename_i hz;refine hi ρ G σ H δ S _ _ _ R em (λ n' hn=>?_) (λ c' hc=>by cases hc);cases hn;intro J ρ1 G1 H1 gs1 sr1 it;have R1:=R.grow gs1 sr1;refine ⟨λ i k ys H2=>k+i=m/\ys.length<=i/\∃ ρ2 G2 as S2,GS ρ1 G1 H1 ρ2 G2 H2/\SR K ρ2 cl G2 H2 S2/\aF K ρ2 G2 ys as/\aq (cg n h c fe (bP ix δ) k i S2) (λ es S1=>some (.ok (.list (as++es)),S1))=some (r,S'),⟨m,by simp,OB _,ρ1,G1,[],S0,.refl gs1.s,R1.st,.nil,by simpa using e⟩,?_⟩;rintro i k ys H2 ⟨hk,hyl,ρ2,G2,as,S2,g2,s2,da,eb⟩;have R2:=R1.grow g2 s2;have g12:=gs1.trans g2;cases k with
 | zero=>cases eb
 | succ k=>
  have eb0:∃ es0,ot S2 n=some es0:=by
   cases hl:ot S2 n with
   | none=>simp only [cg,hl] at eb;cases eb
   | some es0=>exact ⟨es0,rfl⟩
  obtain ⟨es0,hl⟩:=eb0;have ia:=it i ρ2 G2 H2 S2 es0 g2.r g2.s s2 hl;cases hd:es0[i]? with
  | none=>
   refine .inl ⟨ia.2 (List.getElem?_eq_none_iff.mp hd),by omega,λ p hp=>?_⟩;simp only [cg,hl,OA,hd,aq,O9] at eb;cases eb;have nn:Nw H2 (cE H2 p (.lst ys)) p (.lst ys):=.of hp;have g3:=Gr.nw g2.s nn;exact q _ rfl _ ρ2 _ _ (g12.trans (.of g3)) (s2.grow g3) (.lst (eC.of aG) (da.same g3.g))
  | some d0=>
   refine .inr ?_;obtain ⟨go,step⟩:=ia.1 d0 hd;have eb':∃ δ2,h d0 (bP ix δ)=some δ2/\aq (aq (c δ2 S2) λ b S1=>if b=true then aq (fe δ2 S1) λ e S2=>aq (cg n h c fe (bP ix δ) k (i+1) S2) λ es S3=>some (.ok (e::es),S3) else cg n h c fe (bP ix δ) k (i+1) S1) (λ es S1=>some (.ok (.list (as++es)),S1))=some (r,S'):=by
    simp only [cg,hl,OA,hd] at eb;cases e2:h d0 (bP ix δ) with
    | none=>rw [e2] at eb;cases eb
    | some δ2=>rw [e2] at eb;exact ⟨δ2,rfl,eb⟩
   obtain ⟨δ2,e2,e3⟩:=eb';refine ⟨go,by omega,λ ys' H'=>ys'.length<=i+1/\∃ ρ3 G3 as' S3,GS ρ1 G1 H1 ρ3 G3 H'/\SR K ρ3 cl G3 H' S3/\aF K ρ3 G3 ys' as'/\aq (cg n h c fe (bP ix δ) k (i+1) S3) (λ es S1=>some (.ok (.list (as'++es)),S1))=some (r,S'),λ ys' H' hy0=>by obtain ⟨l,z⟩:=hy0;exact ⟨k,PY _,by omega,l,z⟩,λ x H' y=>?_⟩;obtain ⟨G3,g3,dx⟩:=step x H' y;have gs3:GS ρ2 G2 H2 ρ2 G3 H':=.of g3;have s3:=s2.grow g3;have R3:=R2.grow gs3 s3;refine hg ρ2 G3 H' (bP ix δ) _ x _ δ2 _ (R3.lift hx).rl dx e2 λ σ2 R4 o4=>?_;have RS4:RS K cl ρ2 G3 H' δ2 σ2 S2:=⟨R4,s3,λ j ds' p h1 h2=>by
    obtain ⟨es',m1,m2⟩:=o4 j ds' p h1 h2;exact (R3.lift hx).ap j es' p m1 m2⟩
   rcases aL e3 with ⟨c',em,rfl⟩ | ⟨es,S5,em,e4⟩
   . -- an exception on the way
     rcases aL em with ⟨c2,en,z⟩ | ⟨b,S4,en,e5⟩
     . cases z;exact hc ρ2 G3 σ2 H' δ2 S2 _ _ _ RS4 en (λ d hd=>by cases hd) (λ c3 h3 ρ5 G5 H5 g5 s5=>by cases h3;exact qx c' rfl ρ5 G5 H5 (g12.trans (gs3.trans g5)) s5)
     . refine hc ρ2 G3 σ2 H' δ2 S2 _ _ _ RS4 en (λ d hd=>?_) (λ c3 h3=>by cases h3);cases hd;intro ρ5 G5 H5 g5 s5;have g15:=g2.trans (gs3.trans g5);have da5:=((da.ext (gs3.trans g5).r).same (gs3.trans g5).g)
       cases b with
       | false=>exact ⟨by omega,ρ5,G5,as,S4,g15,s5,da5,by rw [show cg n h c fe (bP ix δ) k (i+1) S4=some (.xc c',S') from e5];rfl⟩
       | true=>
        rw [OG rfl] at e5 ⊢;rcases aL e5 with ⟨c2,en2,z⟩ | ⟨ev,S6,en2,e6⟩
        . cases z;exact he ρ5 G5 σ2 H5 δ2 S4 _ _ _ (RS4.grow g5 s5) en2 (λ d hd=>by cases hd) (λ c3 h3 ρ6 G6 H6 g6 s6=>by cases h3;exact qx c' rfl ρ6 G6 H6 (g12.trans (gs3.trans (g5.trans g6))) s6)
        . refine he ρ5 G5 σ2 H5 δ2 S4 _ _ _ (RS4.grow g5 s5) en2 (λ d hd=>?_) (λ c3 h3=>by cases h3);cases hd;intro v ρ6 G6 H6 g6 s6 dv;rcases aL e6 with ⟨c2,en3,z⟩ | ⟨es2,S7,en3,e7⟩
          . cases z;exact ⟨by simp;omega,ρ6,G6,as++[ev],S6,g15.trans g6,s6,((da5.ext g6.r).same g6.g).app (.cons dv .nil),by rw [en3];rfl⟩
          . cases e7
   . cases e4;rcases aL em with ⟨c2,en,z⟩ | ⟨b,S4,en,e5⟩
     . cases z
     . refine hc ρ2 G3 σ2 H' δ2 S2 _ _ _ RS4 en (λ d hd=>?_) (λ c3 h3=>by cases h3);cases hd;intro ρ5 G5 H5 g5 s5;have g15:=g2.trans (gs3.trans g5);have da5:=((da.ext (gs3.trans g5).r).same (gs3.trans g5).g)
       cases b with
       | false=>exact ⟨by omega,ρ5,G5,as,S4,g15,s5,da5,by rw [show cg n h c fe (bP ix δ) k (i+1) S4=some (.ok es,S') from e5];rfl⟩
       | true=>
        rw [OG rfl] at e5 ⊢;rcases aL e5 with ⟨c2,en2,z⟩ | ⟨ev,S6,en2,e6⟩
        . cases z
        . refine he ρ5 G5 σ2 H5 δ2 S4 _ _ _ (RS4.grow g5 s5) en2 (λ d hd=>?_) (λ c3 h3=>by cases h3);cases hd;intro v ρ6 G6 H6 g6 s6 dv;rcases aL e6 with ⟨c2,en3,z⟩ | ⟨es2,S7,en3,e7⟩
          . cases z
          . cases e7;exact ⟨by simp;omega,ρ6,G6,as++[ev],S6,g15.trans g6,s6,((da5.ext g6.r).same g6.g).app (.cons dv .nil),by rw [en3];simp [aq]⟩
end
theorem EU {K:Frag} {cl:Str->Addr} {G H:Hp}:SR K [] cl G H []:=⟨rfl,List.nodup_nil,λ n o e=>by simp at e⟩
end L2
set_option Elab.async false
set_option linter.all false
set_option maxRecDepth 100000
namespace L2
open PySem PySem.Spec PyProof.Rows PySem.AutoSeq1
open PySem.W (Frag)
section
variable {X:Cx}
end
section
variable {K:Frag} {ρ:List Addr}
theorem o0 {G:Hp}:∀ ws:List Str,aF K ρ G (ws.map V.str) (ws.map W.str)
 | []=>.nil
 | w::ws=>.cons (.str w) (o0 ws)
theorem tM {H:Hp} {x:V} {d:W} {a:Addr} {ws:List Str} {b:Bool} (h:gW K H a (ws.map V.str)) (hx:Dw K ρ H x d) (e:rK d (.tuple (ws.map W.str))=some b):gC x=true/\(ws.map V.str).all gC=true/\HV x (ws.map V.str)=b:=by
 obtain ⟨ds,e1,e⟩:=oB e
 obtain ⟨v,e2,e⟩:=oB e
 obtain ⟨vs,e3,rfl⟩:=oM e
 cases e1;obtain ⟨rfl,f1⟩:=v8 hx e2;obtain ⟨rfl,f2⟩:=rA (K:=K) (ρ:=ρ) (H:=H) (o0 ws) e3;exact ⟨f1,f2,rfl⟩
theorem yV {neg:Bool} {ta:TE} {fa:DS->Option W} {a:Addr} {ws:List Str} (hs:∀ G,gW K G a (ws.map V.str)) (ha:DK K ρ ta fa) {G:Hp} {σ:St} {H:Hp} {δ:DS} {b:Bool} {Q:VK} (R:Rl K ρ G H δ σ) (e:aC (if neg then A4 else rK) fa (dC (.tuple (ws.map W.str))) δ=some b) (q:∀ G' H',Gr G H G' H'->Q (.bl b) H'):sX (Hg K neg) ta (tC (.ref a)) σ H Q:=by
 obtain ⟨x,ex,e⟩:=oB e
 have e:(if neg then A4 else rK) x (.tuple (ws.map W.str))=some b:=e;refine ha G σ H δ x _ R ex λ v G1 H1 g1 dv=>?_;have dv:=dv.dp g1.s;cases neg with
 | false=>
  obtain ⟨f1,f2,rfl⟩:=tM (hs H1) dv e;exact ⟨a,_,rfl,.inr (hs H1),f1,f2,q G1 H1 g1⟩
 | true=>
  obtain ⟨b',e',rfl⟩:=oM e
  obtain ⟨f1,f2,rfl⟩:=tM (hs H1) dv e';exact ⟨a,_,rfl,.inr (hs H1),f1,f2,q G1 H1 g1⟩
theorem Fi {ta:TE} {fa:DS->Option W} {a:Addr} {ws:List Str} (hs:∀ G,gW K G a (ws.map V.str)) (ha:DK K ρ ta fa):DT K ρ (mW (sX (Hg K false) ta (tC (.ref a)))) (aC rK fa (dC (.tuple (ws.map W.str)))):=λ G σ H δ b Q R e q=>
 yV (neg:=false) hs ha R e λ G' H' g=>⟨b,rfl,q G' H' g⟩
end
structure uq (K:Frag) (x q:Str) (st:Stmt) (f:Addr) (fd:FuncData):Prop where
 ex:∃ (dV oc kV dc pm cd ct:Value) (od an:Option Addr) (sl:Array (Option Value)),fd=PySem.W.fnOf x q (aU st) (aO st) (ax st) dV kV dc pm an cd ct/\K.lookup f=some ⟨oc,od,.func fd,sl⟩/\PySem.W.codeIn K cd q=true
 kp:PySem.W.keepIn K (.ref f)=true
theorem uq.ok {P:Program} {w:World} {K:Frag} {mg:Str->Option Value} {base:Heap} {x q:Str} {st:Stmt} {f:Addr} {fd:FuncData} {N ps:List Str} {k:Nat} {sp:Sp} (F:uq K x q st f fd) (S:dU N ps (ax st)) (hl:∀ vs H Q E,sp vs H Q E->vs.length=ps.length)
 (hb:∀ (cd:Value) (A:Around) (outer:List Env) (s:Shared) (H:Hp) (vs:List V) (Q:VK) (E:XK),cu k (A.deeper (envOfC q (ax st) s.heap.objs.size f cd))->sp vs H Q E->
  ∃ t,nY (gJ vk P w K mg base N q (ax st) f cd A outer s H E).nox (aO st) t/\t ({ nx:=λ _ H'=>Q V.non H',rt:=Q }:jm) (start N vs) H):fH P w K mg base vk (k+1) f fd ps sp:=by
 obtain ⟨dV,oc,kV,dc,pm,cd,ct,od,an,sl,rfl,lk,hc⟩:=F.ex;refine D7 lk hc S hl λ A outer s H vs Q E hr hs=>?_;obtain ⟨t,h,r⟩:=hb cd A outer s H vs Q E hr hs;exact ⟨t,h.nox,r⟩
theorem b4 {K:Frag} {x q:Str} {st:Stmt} {f:Addr} {dV oc kV dc pm cd ct:Value} {od an:Option Addr} {sl:Array (Option Value)} (l:K.lookup f=some ⟨oc,od,.func (PySem.W.fnOf x q (aU st) (aO st) (ax st) dV kV dc pm an cd ct),sl⟩) (c:PySem.W.codeIn K cd q=true) (k:PySem.W.keepIn K (.ref f)=true):uq K x q st f (PySem.W.fnOf x q (aU st) (aO st) (ax st) dV kV dc pm an cd ct):=⟨⟨dV,oc,kV,dc,pm,cd,ct,od,an,sl,rfl,l,c⟩,k⟩
section
variable {K:Frag} {ρ:List Addr}
end
noncomputable def D6 (i j:Int):Bool:=decide (0<=j)&&decide (j<=1000)&&decide (i.natAbs<2^64)
noncomputable def lV:W->W->Option W:=Bb D6 λ i j=>i^j.toNat
theorem Go {K:Frag} {ρ:List Addr}:DR K ρ (rI Hw λ i j=>.int (i^j.toNat)) lV:=vZ λ i j h=>by
 simp only [D6,OL,OX] at h;exact ⟨h.1.1,by omega,h.2⟩
section
variable {K:Frag} {cl:Str->Addr} {E:XK}
noncomputable def vU:List W->Option (List bn)
 | []=>some []
 | d::ds=>(mS d).bind λ k=>(vU ds).map (k::·)
noncomputable def vh:W->Option (List bn)
 | .tuple ds=>vU ds
 | _=>none
theorem zn {ρ:List Addr} {G:Hp} {vs:List V} {ds:List W} {ks:List bn} (h:aF K ρ G vs ds):vU ds=some ks->vs=ks.map kV:=
 h.ind (M:=λ vs ds=>∀ ks,vU ds=some ks->vs=ks.map kV) (λ ks e=>by cases e;rfl) (λ _ _ _ _ a ih ks e=>by
  obtain ⟨k,e1,e⟩:=oB e
  obtain ⟨ks,e2,rfl⟩:=oM e
  rw [p9 a e1,ih _ e2];rfl) ks
theorem ql {ρ:List Addr} {G:Hp} {v:V} {d:W} {ks:List bn} (h:Dw K ρ G v d) (e:vh d=some ks):∃ b,v=.ref b/\G b=some (.tup (ks.map kV)):=by
 cases h with
 | tup sq da=>exact ⟨_,rfl,by rw [<-zn da e];exact sq⟩
 | _=>cases e
noncomputable def uz (x y:W) (S:ai):Option (Option W):=match kg x S with
 | some (_,.dK kvs)=>(mS y).map λ k=>d8 kvs k
 | some (_,.dT kvs)=>(vh y).map λ k=>d8 kvs k
 | _=>none
theorem wq {ρ:List Addr} {G H:Hp} {S:ai} {v u:V} {x y:W} {o:Option W} (sg:bB G H) (s:SR K ρ cl G H S) (dv:Dw K ρ G v x) (du:Dw K ρ G u y) (h:uz x y S=some o):∃ a r,v=.ref a/\nS H a u r/\(match o with | some d=>∃ z,r=some z/\Dw K ρ G z d | none=>r=none):=by
 unfold uz at h;split at h
 . rename_i n kvs e1;obtain ⟨k,e3,e4⟩:=oM h
   obtain ⟨rfl,e5⟩:=fO e1;obtain ⟨a,rfl,ea⟩:=cc dv;obtain ⟨ga,ws,k1,k2⟩:=s.addr e5 ea;obtain ⟨v1,v2⟩:=k2.val (k:=k);refine ⟨a,kf ws k,rfl,?_,?_⟩
   . rw [p9 du e3];exact nS.k k1
   . cases o with
     | some d=>exact v1 d e4
     | none=>exact v2 e4
 . rename_i n kvs e1;obtain ⟨k,e3,e4⟩:=oM h
   obtain ⟨rfl,e5⟩:=fO e1;obtain ⟨a,rfl,ea⟩:=cc dv;obtain ⟨ga,ws,k1,k2⟩:=s.addr e5 ea;obtain ⟨v1,v2⟩:=k2.val (k:=k);obtain ⟨b,rfl,hb⟩:=ql du e3;refine ⟨a,kf ws k,rfl,nS.t k1 (sg _ _ hb),?_⟩
   . cases o with
     | some d=>exact v1 d e4
     | none=>exact v2 e4
 . cases h
noncomputable def aD (fo fk:DS->ai->SM W):DS->ai->SM W:=λ δ S=>aq (fo δ S) λ x S1=>aq (fk δ S1) λ y S2=>(uz x y S2).bind λ o=>iL o S2
theorem C8 {to tk:TE} {fo fk:DS->ai->SM W} (ho:SE K cl E to fo) (hk:SE K cl E tk fk):SE K cl E (Dk to tk) (aD fo fk):=λ ρ G σ H δ S r S' Q R e q qx=>
 ip ho hk R e (λ x y S2 e2 v u ρ2 G2 H2 g2 s2 dv du=>by
  obtain ⟨o,e3,e4⟩:=oB e2
  obtain ⟨d,rfl,rfl,rfl⟩:=cj e4;obtain ⟨a,r,rfl,h1,z,rfl,h2⟩:=wq g2.s s2 dv du e3;exact ⟨a,z,rfl,h1,q d rfl z ρ2 G2 H2 g2 s2 h2⟩) qx
noncomputable def uK (x y d:W) (S:ai):Option ai:=match kg x S with
 | some (n,.dK kvs)=>(mS y).bind λ k=>if kvs.length<sizeLine then some (S.set n (.dK (eX kvs k d))) else none
 | some (n,.dT kvs)=>(vh y).bind λ k=>if kvs.length<sizeLine then some (S.set n (.dT (eX kvs k d))) else none
 | _=>none
theorem BE {ρ:List Addr} {G H:Hp} {S S':ai} {v u w:V} {x y d:W} (sg:bB G H) (s:SR K ρ cl G H S) (dv:Dw K ρ G v x) (du:Dw K ρ G u y) (dw:Dw K ρ G w d) (h:uK x y d S=some S'):∃ a H',v=.ref a/\r9 H a u w H'/\SR K ρ cl G H' S'/\GS ρ G H ρ G H':=by
 unfold uK at h;split at h
 . rename_i n kvs e1;obtain ⟨k,e3,e4⟩:=oB h
   split at e4
   case isFalse=>cases e4
   rename_i hl;cases e4;obtain ⟨rfl,e5⟩:=fO e1;obtain ⟨a,rfl,ea⟩:=cc dv;obtain ⟨ga,ws,k1,k2⟩:=s.addr e5 ea;obtain ⟨s4,g4⟩:=s.put (x:=.dK (iD ws k w)) (o':=.dK (eX kvs k d)) sg e5 ea (λ b z=>by cases z) ⟨_,aG,k2.put dw⟩;refine ⟨a,_,rfl,?_,s4,g4⟩;rw [p9 du e3];exact r9.k k1 (by rw [<-k2.length];exact hl)
 . rename_i n kvs e1;obtain ⟨k,e3,e4⟩:=oB h
   split at e4
   case isFalse=>cases e4
   rename_i hl;cases e4;obtain ⟨rfl,e5⟩:=fO e1;obtain ⟨a,rfl,ea⟩:=cc dv;obtain ⟨ga,ws,k1,k2⟩:=s.addr e5 ea;obtain ⟨s4,g4⟩:=s.put (x:=.dT (iD ws k w)) (o':=.dT (eX kvs k d)) sg e5 ea (λ b z=>by cases z) ⟨_,aG,k2.put dw⟩;obtain ⟨b,rfl,hb⟩:=ql du e3;exact ⟨a,_,rfl,r9.t k1 (sg _ _ hb) (by rw [<-k2.length];exact hl),s4,g4⟩
 . cases h
noncomputable def bE (fo fk fv:DS->ai->SM W):DS->ai->SO:=λ δ S=>iN (fv δ S) λ d S1=>iN (fo δ S1) λ x S2=>iN (fk δ S2) λ y S3=>(uK x y d S3).map λ S4=>(.nx δ,S4)
theorem w6 {to tk tv:TE} {fo fk fv:DS->ai->SM W} (ho:SE K cl E to fo) (hk:SE K cl E tk fk) (hv:SE K cl E tv fv):kK K cl E (Dt to tk tv) (bE fo fk fv):=λ ρ0 G0 H0 ρ G σ H δ S o S' D I e p=>
 eU hv I e p λ d S1 e1 v ρ1 G1 H1 g1 s1 dv=>by
  have I1:=I.grow g1 s1;refine eU ho I1 e1 p λ x S2 e2 u ρ2 G2 H2 g2 s2 du=>?_;have I2:=I1.grow g2 s2;refine eU hk I2 e2 p λ y S3 e3 w ρ3 G3 H3 g3 s3 dw=>?_;obtain ⟨S4,e4,e5⟩:=oM e3
  cases e5;have g23:=g2.trans g3;obtain ⟨a,H4,rfl,h1,s4,g4⟩:=BE g3.s s3 ((du.ext g3.r).same g3.g) dw ((dv.ext g23.r).same g23.g) e4;exact ⟨a,_,rfl,h1,p σ ρ3 G3 _ ((I2.grow g3 s3).grow g4 s4)⟩
end
theorem cu.units1 {k:Nat} {A:Around} (r:cu k A):A.units+1<cLine:=Nat.lt_of_le_of_lt (by omega) r.units
section
variable {K:Frag} {cl:Str->Addr} {E:XK}
noncomputable def A8 (fo:DS->ai->SM W):DS->ai->SM W:=λ δ S=>aq (fo δ S) λ x S1=>(eY x S1).bind λ p=>(p.2[p.2.length-1]?).map λ d=>(.ok d,S1.set p.1 (.lst p.2.dropLast))
theorem aF.dropL {ρ:List Addr} {G:Hp} {vs:List V} {ds:List W} (h:aF K ρ G vs ds):aF K ρ G vs.dropLast ds.dropLast:=by rw [List.dropLast_eq_take,List.dropLast_eq_take,h.length];exact h.take _
theorem GQ {to:TE} {fo:DS->ai->SM W} (ho:SE K cl E to fo):SE K cl E (Bk K "list" Fl to) (A8 fo):=λ ρ G σ H δ S r' S' Q R e q qx=>
 cC ho R e (λ x S2 e2 v ρ2 G2 H2 g2 s2 dv=>by
  obtain ⟨⟨n,ds⟩,e3,e4⟩:=oB e2
  obtain ⟨d,e5,e6⟩:=oM e4
  cases e6;obtain ⟨rfl,e7⟩:=cD e3;obtain ⟨a,rfl,ea⟩:=cc dv;obtain ⟨ga,vs,k1,k2⟩:=s2.addr e7 ea;obtain ⟨z,h1,h2⟩:=k2.get e5;obtain ⟨s4,g4⟩:=s2.put (x:=.lst vs.dropLast) (o':=.lst ds.dropLast) g2.s e7 ea (λ b z=>by cases z) ⟨_,aG,k2.dropL⟩;exact ⟨.inl ⟨rfl,vs,eC.of k1⟩,a,vs,z,rfl,rfl,k1,by rw [k2.length];exact h1,q d rfl z ρ2 G2 _ (g2.trans g4) s4 h2⟩) qx
end
noncomputable def zg:List V->Hp->VK->Prop:=λ xs H Q=>∃ i j,xs=[.int i,.int j]/\Q (.int (if j>i then j else i)) H
theorem vx {X:Cx} (hc:X.calm=true):cU X (.builtin "max") zg:=wM hc
noncomputable def jJ:List W->Option W
 | [.int i,.int j]=>some (.int (if j>i then j else i))
 | _=>none
noncomputable def AF (g:List W->Option W) (fa:DS->Option (List W)):DS->Option W:=λ δ=>(fa δ).bind g
section
variable {K:Frag} {ρ:List Addr}
theorem yq {G:Hp} {vs:List V} {i j:Int} (h:aF K ρ G vs [.int i,.int j]):vs=[.int i,.int j]:=by
 cases h with
 | cons a t=>
  cases a;cases t with
  | cons b u=>cases b;cases u;rfl
theorem Ba {t:TA} {fa:DS->Option (List W)} (h:DA K ρ t fa):DE K ρ (wY zg t) (AF jJ fa):=λ G σ H δ d Q R e q=>by
 obtain ⟨ds,ed,e⟩:=oB e
 refine h G σ H δ ds _ R ed λ vs G1 H1 g1 da=>?_;unfold jJ at e;split at e
 . cases e;exact ⟨_,_,yq da,q _ G1 H1 g1 (.int _)⟩
 . cases e
end
section
variable {K:Frag} {cl:Str->Addr} {E:XK}
end
open PySem.AutoSeq1 (wpAny_loadPart')
section
variable {prog:Program} {w:World} {A:Around} {E:Value->Shared->Prop} {s:Shared}
end
open PySem.AutoSeq1 (wpAny_loadPart')
section
variable {prog:Program} {w:World} {A:Around} {E:Value->Shared->Prop} {s:Shared}
end
section
variable {M:Model} {A:Around} {E:Value->Shared->Prop} {s:Shared} {env:Env}
end
section
variable {K:Frag} {ρ:List Addr}
noncomputable def IM:W->Option (List W)
 | .tuple ds=>some ds
 | _=>none
theorem GK (ds:List W):IM (.tuple ds)=some ds:=rfl
noncomputable def Mp (f:DS->Option W) (lo hi:DS->Option (Option Int)):DS->Option W:=λ δ=>(f δ).bind λ d=>(IM d).bind λ ds=>(lo δ).bind λ l=>(hi δ).map λ u=>.tuple (kE ds l u)
noncomputable def wa (T:String):W->Option W
 | .list _=>if T = "list" then some (.bool true) else none
 | .tuple _=>if T = "tuple" then some (.bool true) else none
 | d=>ku T d
theorem Gi (ds:List W):wa "list" (.list ds)=some (.bool true):=by simp [wa]
theorem FO (ds:List W):wa "tuple" (.tuple ds)=some (.bool true):=by simp [wa]
end
section
variable {K:Frag} {cl:Str->Addr} {E:XK}
end
theorem KO {X:Cx} {K:Frag} {e:Expr} {f:Str} {pos:Pos} {ta:TE} (hK:X.K=K) (he:PE X e ta) (hb:attributeBase e f X.env (eval e X.env)=eval e X.env):PE X (.Attribute e f pos) (Ex K ta f):=hK▸Gp he hb
theorem Oe {α:Type} (x y:α) (r:List α):iO (x::y::r) 1=some y:=by
 unfold iO w9;rw [OG (by decide),OG (by simp;omega)];rfl
theorem Ku {α:Type} (x:α) (r:List α):iO (x::r) 0=some x:=by
 unfold iO w9;rw [OG (by decide),OG (by simp)];rfl
theorem sz (n:Nat) (h:n<=9000):n<=sizeLine:=OY h (by decide)
theorem fj {S:ai} {l:Nat} {es:List W} (h:S[l]?=some (.lst es)):eY (.ref l) S=some (l,es):=by simp [eY,kg,h]
theorem uh {S:ai} {l:Nat} {es:List (bn×W)} (h:S[l]?=some (.dK es)):oK (.ref l) S=some (l,es):=by simp [oK,kg,h]
theorem vf (B:List Int) (i:Int) (h0:0<=i) (h1:i<B.length):iO (B.map W.int) i=some (.int (B[i.toNat]?.getD 0)):=by
 unfold iO w9;rw [OG h0,OG (by simpa using h1)];have h2:i.toNat<B.length:=by omega
 simp [OJ h2]
theorem iu (lo:Int) (n:Nat):gn lo (n+1)=.int lo::gn (lo+1) n:=by
 unfold gn;rw [List.range_succ_eq_map,OK,P4];congr 1
 . simp
 . apply List.map_congr_left;intro a _;show W.int (lo+((a+1:Nat):Int))=W.int (lo+1+(a:Int));congr 1;omega
theorem az {a n:Nat} {fb:DS->ai->SO} {ds:List W} {S:ai} (h:ds.length=a):be a n fb ds S=bh (fb (fE n ds) S):=OG h
theorem ah {f g:DS->ai->SO} {δ δ':DS} {S S':ai} (h:f δ S=some (.nx δ',S')):ak f g δ S=g δ' S':=by unfold ak;rw [h]
theorem cf {c:DS->ai->SM Bool} {f g:DS->ai->SO} {δ:DS} {S S1:ai} (h:c δ S=some (.ok true,S1)):bv c f g δ S=f δ S1:=by unfold bv;rw [h];rfl
theorem bH {c:DS->ai->SM Bool} {f g:DS->ai->SO} {δ:DS} {S S1:ai} (h:c δ S=some (.ok false,S1)):bv c f g δ S=g δ S1:=by unfold bv;rw [h];rfl
theorem bj {f:DS->ai->SM W} {h:W->DS->Option DS} {δ δ':DS} {S S1:ai} {d:W} (h1:f δ S=some (.ok d,S1)) (h2:h d δ=some δ'):bU f h δ S=some (.nx δ',S1):=by
 unfold bU;rw [h1];show (h d δ).map _=_;rw [h2];rfl
theorem oZ {fi:DS->ai->SM (List W)} {h:W->DS->Option DS} {fb:DS->ai->SO} {δ:DS} {S S1:ai} {ds:List W} (h1:fi δ S=some (.ok ds,S1)):qN fi h fb δ S=eM h fb ds δ S1:=by unfold qN;rw [h1];rfl
theorem jb {h:W->DS->Option DS} {fb:DS->ai->SO} {d:W} {ds:List W} {δ δ2 δ':DS} {S S':ai} (h1:h d δ=some δ2) (h2:fb δ2 S=some (.nx δ',S')):eM h fb (d::ds) δ S=eM h fb ds δ' S':=by
 show (h d δ).bind _=_;rw [h1];show (match fb δ2 S with | some (.nx δ',S')=>_ | some (.ct δ',S')=>_ | some (.bk δ',S')=>_ | some (.rt d,S')=>_ | some (.xc c,S')=>_ | none=>_)=_;rw [h2]
theorem BF {j:Int} (h1:0<=j) (h2:j<1000000):vX [.int j]=some (gn 0 j.toNat):=by
 show xf j=_;unfold xf;rw [OG (Av (by omega) (by omega))]
theorem b9 (i:Int) {j:Int} (h:0<j):0<=i.fmod j/\i.fmod j<j:=⟨Int.fmod_nonneg_of_pos i h,Int.fmod_lt_of_pos i h⟩
mutual
noncomputable def im:W->Bool
 | .none | .bool _ | .int _=>true
 | .str x=>PyData.strOk x
 | .list ds | .tuple ds=>gi ds
 | .ref _=>false
noncomputable def gi:List W->Bool
 | []=>true
 | d::ds=>im d&&gi ds
end
mutual
noncomputable def eA:W->Nat
 | .list ds | .tuple ds=>eK ds+1
 | _=>0
noncomputable def eK:List W->Nat
 | []=>0
 | d::ds=>max (eA d) (eK ds)
end
mutual
theorem vo:∀ (d:W),im d=true->∃ a,d.py=some a/\a.canLay0=true/\a.depth=eA d/\PyData.eqv a a=true
 | .none,_=>⟨.none,rfl,by simp [PyData.canLay0],by simp [PyData.depth,eA],by simp [PyData.eqv]⟩
 | .bool b,_=>⟨.bool b,rfl,by simp [PyData.canLay0],by simp [PyData.depth,eA],by simp [PyData.eqv]⟩
 | .int i,_=>⟨.int i,rfl,by simp [PyData.canLay0],by simp [PyData.depth,eA],by simp [PyData.eqv]⟩
 | .str x,h=>⟨.str x,rfl,by simpa [PyData.canLay0,im] using h,by simp [PyData.depth,eA],by simp [PyData.eqv]⟩
 | .list ds,h=>by
  obtain ⟨xs,e1,e2,e3,e4⟩:=jR ds (by simpa [im] using h);exact ⟨.list xs,by simp [W.py,e1],by simpa [PyData.canLay0] using e2,by simp [PyData.depth,eA,e3],by simpa [PyData.eqv] using e4⟩
 | .tuple ds,h=>by
  obtain ⟨xs,e1,e2,e3,e4⟩:=jR ds (by simpa [im] using h);exact ⟨.tuple xs,by simp [W.py,e1],by simpa [PyData.canLay0] using e2,by simp [PyData.depth,eA,e3],by simpa [PyData.eqv] using e4⟩
 | .ref _,h=>by simp [im] at h
theorem jR:∀ (ds:List W),gi ds=true->∃ xs,W.pys ds=some xs/\PyData.canLayAll0 xs=true/\PyData.depthAll xs=eK ds/\PyData.eqvAll xs xs=true
 | [],_=>⟨[],rfl,by simp [PyData.canLayAll0],by simp [PyData.depthAll,eK],by simp [PyData.eqvAll]⟩
 | d::ds,h=>by
  have h':im d=true/\gi ds=true:=by simpa [gi] using h
  obtain ⟨a,a1,a2,a3,a4⟩:=vo d h'.1;obtain ⟨xs,e1,e2,e3,e4⟩:=jR ds h'.2;exact ⟨a::xs,by simp [W.pys,a1,e1],by simp [PyData.canLayAll0,a2,e2],by simp [PyData.depthAll,eK,a3,e3],by simp [PyData.eqvAll,a4,e4]⟩
end
theorem u0 {d:W} (h:im d=true) (b:Bool) (e:Kn d d=some b):b=true:=by
 cases d with
 | none=>exact (Pg e).symm
 | int i=>exact (Pg e).symm.trans (by simp)
 | bool i=>exact (Pg e).symm.trans (by simp)
 | str i=>exact (Pg e).symm.trans (by simp)
 | _=>cases e
theorem zw {d:W} (h:im d=true) (hd:eA d<=64):bJ d d=some true:=by
 obtain ⟨a,a1,a2,a3,a4⟩:=vo d h;unfold bJ;split
 . rename_i b e;rw [u0 h b e]
 . simp [a1,a2,a3,a4,hd]
theorem zV {d:W} (h:im d=true) (hd:eA d<=64):tX d d=some false:=by
 unfold tX;rw [zw h hd];rfl
mutual
theorem zO (S:ai):∀ (n:Nat) (d:W),im d=true->eA d<n->mC S n d=d.py
 | 0,d,_,h=>absurd h (Nat.not_lt_zero _)
 | n+1,.none,_,_=>rfl
 | n+1,.bool b,_,_=>rfl
 | n+1,.int i,_,_=>rfl
 | n+1,.str x,_,_=>rfl
 | n+1,.list ds,h,hd=>by
  show (kA (mC S n) ds).map PyData.list=(W.pys ds).map .list;rw [jP S n ds (by simpa [im] using h) (by simp [eA] at hd;omega)]
 | n+1,.tuple ds,h,hd=>by
  show (kA (mC S n) ds).map PyData.tuple=(W.pys ds).map .tuple;rw [jP S n ds (by simpa [im] using h) (by simp [eA] at hd;omega)]
 | n+1,.ref m,h,_=>by simp [im] at h
theorem jP (S:ai):∀ (n:Nat) (ds:List W),gi ds=true->eK ds<n->kA (mC S n) ds=W.pys ds
 | n,[],_,_=>rfl
 | n,d::ds,h,hd=>by
  have h':im d=true/\gi ds=true:=by simpa [gi] using h
  simp only [eK] at hd;show (mC S n d).bind _=(W.py d).bind _;rw [zO S n d h'.1 (by omega),jP S n ds h'.2 (by omega)]
end
theorem tQ {S:ai} {d:W} (neg:Bool) (h:im d=true) (hd:eA d<24):lh neg d d S=some (!neg):=by
 obtain ⟨a,a1,a2,a3,a4⟩:=vo d h;unfold lh;split
 . rename_i b e;rw [u0 h b e];cases neg <;> rfl
 . rw [zO S 24 d h hd,a1];cases neg <;> simp [a2,a3,a4] <;> omega
theorem zF {α:Type} (l:List α) (k:Nat) (h:k<l.length):iO l (k:Int)=l[k]?:=by
 unfold iO w9;rw [OG (by omega),OG (by omega)];simp
theorem LR {α:Type} (a b c:α) (r:List α):iO (a::b::c::r) 2=some c:=(zF _ 2 (by simp)).trans rfl
theorem MD {α:Type} (a b c d:α) (r:List α):iO (a::b::c::d::r) 3=some d:=(zF _ 3 (by simp)).trans rfl
theorem Nl {α:Type} (a b c d e:α) (r:List α):iO (a::b::c::d::e::r) 4=some e:=(zF _ 4 (by simp)).trans rfl
theorem N5 {α:Type} (l:List α) (k:Nat) (h0:0<k) (h:k<=l.length):iO l (-(k:Int))=l[l.length-k]?:=by
 unfold iO w9;rw [OT (by omega),OG (by omega)];have e2:(-(k:Int)+(l.length:Int)).toNat=l.length-k:=by omega
 simp [e2]
theorem FX (l:List W) (a b:Nat):kE l (some (a:Int)) (some (b:Int))=(l.drop a).take (b-a):=by
 unfold kE;rw [HT.sIx_nat,HT.sIx_nat];rcases Qk l.length a with h | h
 . rw [List.drop_of_length_le (PX h),show min a l.length=l.length by omega,Qc];simp
 . rw [show min a l.length=a by omega];rcases Qk l.length b with h2 | h2
   . rw [show min b l.length=l.length by omega,Pz (by simp),Pz (by simp;omega)]
   . rw [show min b l.length=b by omega]
theorem HM (l:List W) (a:Nat):kE l (some (a:Int)) none=l.drop a:=by
 unfold kE;rw [HT.sIx_nat,HT.sIx_none];rcases Qk l.length a with h | h
 . rw [List.drop_of_length_le (PX h),show min a l.length=l.length by omega,Qc];simp
 . rw [show min a l.length=a by omega,Pz (by simp)]
theorem aN {f:DS->ai->SM W} {δ:DS} {S S1:ai} {d:W} (h:f δ S=some (.ok d,S1)):aS f δ S=some (.nx δ,S1):=by unfold aS;rw [h];rfl
theorem cO {f:List W->ai->SM W} {fa:DS->ai->SM (List W)} {δ:DS} {S S1 S2:ai} {ds:List W} {d:W} (h1:fa δ S=some (.ok ds,S1)) (h2:f ds S1=some (.ok d,S2)):bZ f fa δ S=some (.ok d,S2):=by
 unfold bZ;rw [h1];show noX (f ds S1)=_;rw [h2];rfl
theorem au {α:Type} {f:DS->Option α} {δ:DS} {S:ai} {d:α} (h:f δ=some d):aa f δ S=some (.ok d,S):=by unfold aa;rw [h];rfl
theorem aI {f:DS->Option fZ} {δ δ':DS} {S:ai} (h:f δ=some (.nx δ')):al f δ S=some (.nx δ',S):=by unfold al;rw [h];rfl
theorem fP {f:DS->Option fZ} {δ:DS} {S:ai} {d:W} (h:f δ=some (.rt d)):al f δ S=some (.rt d,S):=by unfold al;rw [h];rfl
theorem cR {f g:DS->ai->SO} {δ:DS} {S S':ai} {d:W} (h:f δ S=some (.rt d,S')):ak f g δ S=some (.rt d,S'):=by unfold ak;rw [h]
theorem bD {f:DS->ai->SM W} {δ:DS} {S S1:ai} {d:W} (h:f δ S=some (.ok d,S1)):bO f δ S=some (.rt d,S1):=by unfold bO;rw [h];rfl
theorem aE {f:DS->ai->SM W} {g:DS->ai->SM (List W)} {δ:DS} {S S1 S2:ai} {d:W} {ds:List W} (h1:f δ S=some (.ok d,S1)) (h2:g δ S1=some (.ok ds,S2)):av f g δ S=some (.ok (d::ds),S2):=by
 unfold av;rw [h1];show aq (g δ S1) _=_;rw [h2];rfl
theorem kO {c:Str} {f:List W->ai->SM W} {fa:DS->ai->SM (List W)} {δ:DS} {S S1 S2:ai} {ds:List W} (h1:fa δ S=some (.ok ds,S1)) (h2:f (.ref S1.length::ds) (S1++[.ins c []])=some (.ok .none,S2)):kn c f fa δ S=some (.ok (.ref S1.length),S2):=by
 simp only [kn,h1,aq,h2,noX]
theorem rm {f g:DS->ai->SM Bool} {δ:DS} {S S1:ai} (h1:f δ S=some (.ok false,S1)):mH f g δ S=some (.ok false,S1):=by simp only [mH,h1,aq,Pw,Qp]
theorem rS {f g:DS->ai->SM Bool} {δ:DS} {S S1 S2:ai} {b:Bool} (h1:f δ S=some (.ok true,S1)) (h2:g δ S1=some (.ok b,S2)):mH f g δ S=some (.ok b,S2):=by simp only [mH,h1,aq,Pj,h2]
theorem LS {α:Type} (q:List α) (b:α):iO (q++[b]) (-1)=some b:=by
 have:=N5 (q++[b]) 1 (by decide) (by simp);simpa using this
theorem Ju {S:ai} {l:Nat} {es:List W} (h:S[l]?=some (.lst es)) (i:Int):v5 (.ref l) (.int i) S=iO es i:=by simp only [v5,fj h,vV,OA]
noncomputable def uD:=And.intro @fz.eq_1 <| And.intro @Bl.eq_1 <| And.intro @Bl.eq_2 <| And.intro @Bl.eq_3 <| And.intro @fE.eq_1 <| And.intro @aw.eq_1 <| And.intro @bF.eq_1 <| And.intro @cB.eq_1 <| And.intro @aW.eq_1 <| And.intro @rD.eq_1 <| And.intro @bz.eq_1 <| And.intro @lK.eq_1 <| And.intro @lO.eq_1 <| And.intro @frz.eq_1 <| And.intro @qg.eq_1 <| And.intro @cr.eq_1 <| And.intro @Fg.eq_1 <| And.intro @qe.eq_1 <| And.intro @ae.eq_1 <| And.intro @aA.eq_1 <| And.intro @dC.eq_1 <| And.intro @aB.eq_1 <| And.intro @aC.eq_1 <| And.intro @dB.eq_1 <| And.intro @pU.eq_1 <| And.intro @wR.eq_1 <| And.intro @HF.eq_1 <| And.intro @Jx.eq_1 <| And.intro @Ma.eq_1 <| And.intro @lX.eq_1 <| And.intro @AA.eq_1 <| And.intro @aZ.eq_1 <| And.intro @ac.eq_1 <| And.intro @aj.eq_1 <| And.intro @aR.eq_1 <| And.intro @ff.eq_1 <| And.intro @cn.eq_1 <| And.intro @iG.eq_1 <| And.intro @kj.eq_1 <| And.intro @bX.eq_1 <| And.intro @ao.eq_1 <| And.intro @qu.eq_1 <| And.intro @qu.eq_2 <| And.intro @iX.eq_1 <| And.intro @iX.eq_2 <| And.intro @ue.eq_1 <| And.intro @ue.eq_2 <| And.intro @pj.eq_1 <| And.intro @hW.eq_1 <| And.intro @ja.eq_1 <| And.intro @HC.eq_1 <| And.intro @M5.eq_1 <| And.intro @lF.eq_1 <| And.intro @J6.eq_1 <| And.intro @bP.eq_1 <| And.intro @pT.eq_1 <| And.intro @pT.eq_2 <| And.intro @io.eq_1 <| And.intro @GW.eq_1 <| And.intro @Mp.eq_1 <| And.intro @GK <| And.intro @d7 <| And.intro @iq <| And.intro @fq <| And.intro @b3 <| And.intro @DU <| And.intro @zy <| And.intro @vV <| And.intro @jY <| And.intro @Fc <| And.intro @FQ <| And.intro @DV <| And.intro @FJ <| And.intro @CM <| And.intro @qK <| And.intro @Jr <| And.intro @DD <| And.intro @IF <| And.intro @Ie <| And.intro @IB <| And.intro @qC <| And.intro @CS <| And.intro @JO <| And.intro @JR <| And.intro @BS <| And.intro @Cg <| And.intro @B8 <| And.intro @AH <| And.intro @BL <| And.intro @Gb <| And.intro @Fh <| And.intro @GD <| And.intro @EF <| And.intro @Gm <| And.intro @B9 <| And.intro @zR <| And.intro @Bm <| And.intro @Gi <| And.intro @FO <| And.intro @OF.{0} <| And.intro @O5.{0} <| And.intro @OK.{0,0} <| And.intro @Pa.{0,0} <| And.intro @Qs.{0} <| And.intro @QC.{0} <| And.intro @List.getElem?_cons_zero.{0} <| And.intro @List.getElem?_cons_succ.{0} <| And.intro @OW.{0} <| And.intro @O4.{0} <| And.intro @OA.{0,0} <| And.intro @OC.{0,0} <| And.intro @Option.bind_none.{0,0} <| And.intro @Option.map_none.{0,0} <| And.intro @Option.getD_some.{0} <| And.intro @QA.{0} <| And.intro @Pj.{1} <| And.intro @decide_true <| And.intro @decide_false <| And.intro @Bool.not_true <| And.intro @Bool.not_false <| And.intro @Pw <| And.intro @ne_eq.{1} <| @not_false_eq_true
noncomputable def uS:=And.intro @be.eq_1 <| And.intro @bh.eq_1 <| And.intro @bh.eq_2 <| And.intro @bh.eq_3 <| And.intro @bh.eq_4 <| And.intro @ak.eq_1 <| And.intro @bv.eq_1 <| And.intro @bO.eq_1 <| And.intro @bU.eq_1 <| And.intro @aS.eq_1 <| And.intro @al.eq_1 <| And.intro @iN.eq_1 <| And.intro @iN.eq_2 <| And.intro @iN.eq_3 <| And.intro @aq.eq_1 <| And.intro @aq.eq_2 <| And.intro @aq.eq_3 <| And.intro @iL.eq_1 <| And.intro @aa.eq_1 <| And.intro @ar.eq_1 <| And.intro @ck.eq_1 <| And.intro @bZ.eq_1 <| And.intro @eB.eq_1 <| And.intro @noX.eq_1 <| And.intro @noX.eq_2 <| And.intro @Ar.eq_1 <| And.intro @Ar.eq_2 <| And.intro @Ar.eq_3 <| And.intro @Ar.eq_4 <| And.intro @bb.eq_1 <| And.intro @av.eq_1 <| And.intro @iV.eq_1 <| And.intro @jr.eq_1 <| And.intro @mH.eq_1 <| And.intro @wI.eq_1 <| And.intro @wj.eq_1 <| And.intro @LV.eq_1 <| And.intro @Jw.eq_1 <| And.intro @sB.eq_1 <| And.intro @kS.eq_1 <| And.intro @Ot.eq_1 <| And.intro @ik.eq_1 <| And.intro @Mq.eq_1 <| And.intro @bd.eq_1 <| And.intro @gR.eq_1 <| And.intro @qt.eq_1 <| And.intro @sIx.eq_1 <| And.intro @v5.eq_1 <| And.intro @Mb.eq_1 <| And.intro @wH.eq_1 <| And.intro @wH.eq_2 <| And.intro @wH.eq_3 <| And.intro @kd.eq_1 <| And.intro @HL.eq_1 <| And.intro @m9.eq_1 <| And.intro @Gt.eq_1 <| And.intro @pi.eq_1 <| @Option.map_eq_map.{0}
section
variable {X:Cx}
end
section
variable {K:Frag} {cl:Str->Addr} {E:XK}
end
section
variable {prog:Program} {w:World} {A:Around} {E:Value->Shared->Prop} {s:Shared}
noncomputable def jS (es:Array DictEntry) (h:Int):List Nat:=placesWithHash es.size (λ i=>es[i]?.map (·.hash)) h
variable {es:Array DictEntry} {ep:Nat} {key:Value} {h:Int} {m:Nat->Bool} {d:Addr} {o:Obj}
end
section
variable {P:Program} {w:World} {A:Around} {E:Value->Shared->Prop} {s:Shared}
noncomputable def nD (ks:List bn):Nat:=ks.length+1
end
section
variable {P:Program} {w:World} {H:Hp} {h:Heap} {a:Addr}
end
section
variable {X:Cx} {pins:List (Addr×Obj)} {σ:St} {H:Hp} {s:Shared} {a:Addr} {kvs:List (List bn×V)} {ks:List bn} {y z:V} {u dv:Value} {A:Around} {E:Value->Shared->Prop}
end
section
variable {X:Cx} {o e f:Expr} {td ty tx:TE} {apos cpos pos:Pos}
end
section
variable {K:Frag} {cl:Str->Addr} {E:XK}
noncomputable def D3 (K:Frag) (t:TE):TT:=λ σ H Q=>t σ H λ x H'=>∃ k,GB K x H' k/\Q k H'
theorem JX {X:Cx} {a:Expr} {ta:TE} (hK:X.K=K) (ha:PE X a ta) (he:∀ whole,isTrue a X.env whole=(do let v <-whole;standAt a.pos;holding [v] (truthy v))):PT X a (D3 K ta):=hK▸Aj ha he
noncomputable def nr (f:DS->ai->SM W):DS->ai->SM Bool:=λ δ S=>aq (f δ S) λ x S1=>iL ((eY x S1).map λ p=>!p.2.isEmpty) S1
theorem Cp {t:TE} {f:DS->ai->SM W} (h:SE K cl E t f):ST K cl E (D3 K t) (nr f):=λ ρ G σ H δ S r S' Q R e q qx=>
 cC h R e (λ x S1 e1 v ρ1 G1 H1 g1 s1 dv=>by
  obtain ⟨b,e2,rfl,rfl⟩:=cj e1;obtain ⟨⟨n,ds⟩,e3,rfl⟩:=oM e2
  obtain ⟨rfl,e4⟩:=cD e3;obtain ⟨a,rfl,ea⟩:=cc dv;obtain ⟨ga,vs,k1,k2⟩:=s1.addr e4 ea;have hl:vs.isEmpty=ds.isEmpty:=by
   have:=k2.length;cases vs <;> cases ds <;> simp_all
  exact ⟨!ds.isEmpty,.inl ⟨vs,eC.of k1,by rw [hl]⟩,q _ rfl ρ1 G1 H1 g1 s1⟩) qx
end
section
variable {P:Program} {w:World} {A:Around} {E:Value->Shared->Prop} {s:Shared} {d:Addr} {o:Obj} {es:Array DictEntry} {ep:Nat}
end
section
variable {K:Frag} {cl:Str->Addr} {E:XK}
end
section
variable {X:Cx} {K:Frag}
end
section
variable {K:Frag} {ρ:List Addr}
noncomputable def Oa:W->Option Str
 | .str z=>some z
 | _=>none
noncomputable def tK:W->W->Option W
 | .str z,.int n=>if (decide (0<=n)&&decide (n<=1000)&&decide (z.length<=1000))=true then some (.str (Txt.mul z n)) else none
 | _,_=>none
theorem B0:DR K ρ CL tK:=λ G H x y d e c Q s hx hy hg q=>by
 unfold tK at hg;split at hg
 . rename_i z n;split at hg
   . rename_i hc;cases hg;simp only [OL,OX] at hc;cases rW hx;cases dI hy;exact ⟨z,n,rfl,rfl,hc.1.1,hc.1.2,hc.2,q _ G H (.refl s) (.str _)⟩
   . cases hg
 . cases hg
end
section
variable {K:Frag} {ρ:List Addr}
end
section
variable {X:Cx} {K:Frag}
end
section
variable {K:Frag} {cl:Str->Addr} {E:XK}
end
noncomputable def HI (K:Frag) (mg:Str->Option Value) (x:Str) (ps:List Str) (us:List Value) (f:Addr) (fd:FuncData):Prop:=mg x=some (.ref f)/\PySem.W.keepIn K (.ref f)=true/\aP K fd ps []/\aP K fd ps us
noncomputable def Ce (R:Addr->FuncData->Prop) (P:Program) (w:World) (K:Frag) (mg:Str->Option Value) (base:Heap) (k:Nat) (ps:List Str) (sp:Sp):Prop:=∃ f fd,R f fd/\fH P w K mg base vk k f fd ps sp
noncomputable def jU (R:Addr->FuncData->Prop) (K:Frag) (x q:Str) (st:Stmt):Prop:=∃ f fd,uq K x q st f fd/\R f fd
noncomputable abbrev rZ (K:Frag) (mg:Str->Option Value) (x:Str) (ps:List Str) (us:List Value) (st:Stmt):Prop:=jU (HI K mg x ps us) K x x st
noncomputable abbrev sQ (P:Program) (w:World) (K:Frag) (mg:Str->Option Value) (base:Heap) (x:Str) (ps:List Str) (us:List Value) (k:Nat) (sp:Sp):Prop:=Ce (HI K mg x ps us) P w K mg base k ps sp
section
variable {X:Cx} {x:Str} {o e:Expr} {es:List Expr} {t:TA} {ps:List Str} {us:List Value} {sp:Sp} {p pos:Pos} {K:Frag} {T:String} {name:Str} {r:V->List V->Hp->VK->Prop} {q:List V->Hp->VK->Prop} {to:TE} {apos:Pos}
noncomputable def MY (X:Cx) (x:Str) (us:List Value) (sp:Sp):Prop:=∃ j k ps,Ce (HI X.K X.mg x ps us) X.prog X.w X.K X.mg X.base j ps sp/\cu k X.A/\j<=k
theorem Nc (h:∃ us,MY X x us sp) (hg:Gl X x) (ha:PA X (e::es) t) (hd:(x==("__debug__" : Str))=false)
 (he:starEach (e::es) X.env=(false,eval e X.env)::starEach es X.env) (hp:(backTo pos (starEach es X.env)).any (·.1)=false):PE X (.Call (.Name x p) (e::es) [] pos) (u6 sp [] E0 t):=by
 obtain ⟨us,j,k,ps,⟨f,fd,⟨m,kp,b,_⟩,F⟩,hr,hl⟩:=h;exact BG (F.mono hl) hr hg m kp b .nil IC ha hd he hp
noncomputable def QM (X:Cx) (T:String) (name:Str) (r:V->List V->Hp->VK->Prop):Prop:=∃ id,PlainAttrs T/\Slot T name id/\typeOf (.builtin id)=pure (.type "method_descriptor")/\Ix X id r
noncomputable def QB (X:Cx) (x:Str) (q:List V->Hp->VK->Prop):Prop:=∃ id,cU X (.builtin id) q/\bootBuiltins x=some (.builtin id)
theorem Nu:QM X "list" "append" nX:=⟨_,PySem.F.plainAttrs_list,PySem.F.slot_list_append,PySem.F.type_list_append,wX⟩
theorem MU:QM X "list" "pop" Fl:=⟨_,PySem.F.plainAttrs_list,PySem.F.slot_list_pop,PySem.F.type_list_pop,Ft⟩
theorem MV (h:X.K=K):QB X "len" (wD K):=⟨_,wU h,PySem.boot_len⟩
theorem Nr:QB X "isinstance" DZ:=⟨_,wL,boot_isinstance⟩
theorem MT (h:X.K=K) (hm:QM X T name r) (ho:PE X o to) (hb:attributeBase o name X.env (eval o X.env)=eval o X.env) (hl:(apos.endLine==pos.line)=true):PE X (.Call (.Attribute o name apos) [] [] pos) (Bk K T r to):=by
 obtain ⟨_,a,b,c,d⟩:=hm;exact AM h a b c d ho hb hl
theorem Nf (h:X.K=K) (hm:QM X T name r) (ho:PE X o to) (ha:PA X (e::es) t) (hb:attributeBase o name X.env (eval o X.env)=eval o X.env)
 (hf:((backTo pos (starEach (e::es) X.env)).all (λ x=>!x.1)&&(backToKw pos (keywordEach [] X.env)).all (λ x=>x.1.isSome)
  && decide ((e::es).length+([]:List Keyword).length+(if ([]:List Keyword).isEmpty then 0 else 1)<30))=true)
 (hl:(apos.endLine==pos.line)=true) (hs:starEach (e::es) X.env=(false,eval e X.env)::starEach es X.env) (hp:(backTo pos (starEach es X.env)).any (·.1)=false):
 PE X (.Call (.Attribute o name apos) (e::es) [] pos) (Hl K T r to t):=by
 obtain ⟨_,a,b,c,d⟩:=hm;exact F8 h a b c d ho ha hb hf hl hs hp
theorem No (hq:QB X x q) (hg:Gl X x) (hm:X.mg x=none) (ha:PA X (e::es) t) (hn:x ≠ "__name__") (hd:(x==("__debug__" : Str))=false)
 (he:starEach (e::es) X.env=(false,eval e X.env)::starEach es X.env) (hp:(backTo pos (starEach es X.env)).any (·.1)=false):PE X (.Call (.Name x p) (e::es) [] pos) (wY q t):=by
 obtain ⟨_,a,b⟩:=hq;exact yX a hg hm b ha hn hd he hp
theorem MH (h:X.K=K) (hg:Gl X "list") (hm:X.mg "list" = none) (ha:PA X (e::es) t)
 (he:starEach (e::es) X.env=(false,eval e X.env)::starEach es X.env) (hp:(backTo pos (starEach es X.env)).any (·.1)=false):PE X (.Call (.Name "list" p) (e::es) [] pos) (wY (nW K) t):=pZ (pX h) hg hm boot_list ha (by decide) (by decide) he hp
end
section
variable {X:Cx} {x:Str} {us:List Value} {sp:Sp} {j k:Nat} {ps:List Str} {pos:Pos}
theorem LQ (h:Ce (HI X.K X.mg x ps us) X.prog X.w X.K X.mg X.base j ps sp) (hr:cu k X.A) (hl:j<=k):∃ us,MY X x us sp:=⟨us,j,k,ps,h,hr,hl⟩
theorem Nz (hg:Gl X "int") (hm:X.mg "int" = none):PE X (.Name "int" pos) (tC (.ty "int")):=wo hg hm (by decide +kernel:bootBuiltins "int" = some (.type "int")) rfl (by decide) (by decide)
theorem NL (hg:Gl X "bool") (hm:X.mg "bool" = none):PE X (.Name "bool" pos) (tC (.ty "bool")):=wo hg hm boot_bool' rfl (by decide) (by decide)
theorem JA {a b c:Prop} (h:b):a∨b∨c:=.inr (.inl h)
end
noncomputable def cN (N:List Str):List (Option Nat)->List Str->List Str
 | some i::r,u=>N.getD i "" :: cN N r u
 | _,u=>u
section
variable {X:Cx} {scope:Scope} {ix:List (Option Nat)} {z:Str} {zp:Pos} {iter elt:Expr} {ifs:List Expr} {wi:TI} {g:TG} {tc:TT} {te:TE} {pos py spos:Pos} {y:Str} {i:Nat}
theorem CU {N:List Str} (kind:scope.kind=.function) (nocell:(scope.names.all λ y=>y.2 != .cell)=true) (locs:(scope.names.all λ y=>y.2 != .local||scope.names.lookup y.1==some .local)=true)
 (free:(scope.names.all λ y=>y.2 != .free||X.env.kindOf y.1==some .cell||X.env.kindOf y.1==some .free)=true) (len:ix.length=N.length) (nd:decide N.Nodup=true)
 (fr:((ix.zip N).all λ p=>match p.1 with
  | none=>true
  | some i=>X.N[i]?==some p.2&&(X.env.kindOf p.2==some .cell||X.env.kindOf p.2==some .free)&&((relabel scope X.env).names.lookup p.2==some .cell||(relabel scope X.env).names.lookup p.2==some .free))=true):bS X scope N ix:=uO kind nocell locs free len (PP nd) fr
noncomputable abbrev MO (X:Cx) (scope:Scope) (ix:List (Option Nat)) (z:Str) (zp:Pos) (elt:Expr) (ifs:List Expr) (g:TG) (tc:TT) (te:TE):Prop:=∀ (s₀:Shared) (H₀:Hp) (C:Addr) (ex:List Addr),(cN X.N ix [z]).Nodup->PG (bT X scope (cN X.N ix [z]) s₀ H₀ C ex) (.Name z zp) g/\uZ (bT X scope (cN X.N ix [z]) s₀ H₀ C ex) ifs tc/\PE (bT X scope (cN X.N ix [z]) s₀ H₀ C ex) elt te
theorem IA (S:bS X scope (cN X.N ix [z]) ix) (hn:decide (cN X.N ix [z]).Nodup=true) (hc:X.calm=true) (hi:PI X (.Name z zp) iter wi) (hG:pA ix g) (hb:MO X scope ix z zp elt ifs g tc te)
 (hs:∀ x,foldedSetIterable iter X.env x=pure x):PE X (.ListComp elt [⟨.Name z zp,iter,ifs,0⟩] scope pos) (oU ix wi g tc te):=CB S hc hi hG (λ a b c d=>hb a b c d (PP hn)) hs
theorem Al (hN:X.N.Nodup) (hi:X.N[i]?=some y) (hy:Eg X.env.scope y) (S:bS X scope (cN X.N ix [z]) ix) (hn:decide (cN X.N ix [z]).Nodup=true) (hc:X.calm=true) (hit:PI X (.Name z zp) iter wi) (hG:pA ix g) (hb:MO X scope ix z zp elt ifs g tc te)
 (hsw:swapsWith (.ListComp elt [⟨.Name z zp,iter,ifs,0⟩] scope pos) (some (.Name y py)) spos.line X.env=pure true) (hs:∀ x,foldedSetIterable iter X.env x=pure x) (hf:X.fn y=true∨X.env.scope.names.lookup y=some .local):
 PS X (.Assign [.Name y py] (.ListComp elt [⟨.Name z zp,iter,ifs,0⟩] scope pos) spos) (sM (oU ix wi g tc te) (mQ i)):=BO hN hi hy S hc hit hG (λ a b c d=>hb a b c d (PP hn)) hsw hs hf
end
noncomputable abbrev Mt (P:Program) (w:World) (K:Frag) (mg:Str->Option Value) (base:Heap) (N:List Str) (q:Str) (st:Stmt) (k:Nat) (t:TS):Prop:=∀ (f:Addr) (cd:Value) (A:Around) (outer:List Env) (s:Shared) (H:Hp) (E:XK),N.Nodup->cu k (A.deeper (envOfC q (ax st) s.heap.objs.size f cd))->(A.deeper (envOfC q (ax st) s.heap.objs.size f cd)).units+64<cLine->(A.deeper (envOfC q (ax st) s.heap.objs.size f cd)).units+1<cLine->
 nY (gJ vk P w K mg base N q (ax st) f cd A outer s H E).nox (aO st) t
section
variable {P:Program} {w:World} {K:Frag} {mg:Str->Option Value} {base:Heap} {cl:Str->Addr} {R:Addr->FuncData->Prop} {x q:Str} {st:Stmt} {N ps:List Str} {a n k:Nat} {t:TS} {sp:Sp}
theorem HX (D:jU R K x q st) (S:dU N ps (ax st)) (hl:∀ vs H Q E,sp vs H Q E->vs.length=ps.length) (rd:∀ vs H Q E,sp vs H Q E->t ({ nx:=λ _ H'=>Q V.non H',rt:=Q }:jm) (start N vs) H)
 (pe:Mt P w K mg base N q st k t):Ce R P w K mg base (k+1) ps sp:=by
 obtain ⟨f,fd,F,r⟩:=D;exact ⟨f,fd,r,F.ok S hl λ cd A outer s H vs Q E hr h=>⟨t,pe f cd A outer s H E S.nd hr hr.units hr.units1,rd vs H Q E h⟩⟩
theorem pR {fb:DS->Option fZ} {g:List W->Option W} (D:jU R K x q st) (hg:g=fz a n fb) (de:∀ ρ,pv K ρ t fb)
 (pe:Mt P w K mg base N q st k t) (hN:N.length=n) (ha:ps.length=a) (S:dU N ps (ax st)):Ce R P w K mg base (k+1) ps (uL K g):=by
 subst hg ha;exact HX D S (λ vs H Q E h=>Ci (λ ds d e=>qW e) h) (λ vs H Q E h=>M9 hN de h) pe
theorem fK {fb:DS->ai->SO} {g:List W->ai->SM W} (D:jU R K x q st) (hg:g=be a n fb) (de:kK K cl E0 t fb)
 (pe:Mt P w K mg base N q st k t) (hN:N.length=n) (ha:ps.length=a) (S:dU N ps (ax st)):Ce R P w K mg base (k+1) ps (ji K cl g):=by
 subst hg ha;exact HX D S (λ vs H Q E h=>vE (λ ds S r e=>jV e) h) (λ vs H Q E h=>CY hN de h) pe
theorem Ce.imp {sq:Sp} (h:Ce R P w K mg base k ps sp) (i:∀ vs H Q E,sq vs H Q E->sp vs H Q E):Ce R P w K mg base k ps sq:=by
 obtain ⟨f,fd,r,F⟩:=h;exact ⟨f,fd,r,F.imp i⟩
noncomputable def An (K:Frag) (x:Str) (st:Stmt) (dV:Value):Prop:=∃ (f:Addr) (oc:Value) (od:Option Addr) (kV dc pm:Value) (an:Option Addr) (cd ct:Value) (sl:Array (Option Value)),
 PySem.W.nsIn K mainGlobals x=some (some (.ref f))/\K.lookup f=some ⟨oc,od,.func (PySem.W.fnOf x x (aU st) (aO st) (ax st) dV kV dc pm an cd ct),sl⟩/\PySem.W.codeIn K cd x=true/\PySem.W.keepIn K (.ref f)=true
theorem An.dn {h:Heap} (X:K.In h) (G:h.Ns mainGlobals mg) (z:An K x st .none) (hb:∀ (kV dc pm:Value) (an:Option Addr) (cd ct:Value) (us:List Value),us.length=ps.length->bindArgs (PySem.W.fnOf x x (aU st) (aO st) (ax st) .none kV dc pm an cd ct) ⟨us,[]⟩=pure (ps.zip us)):
 jU (HI K mg x ps []) K x x st:=by
 obtain ⟨f,oc,od,kV,dc,pm,an,cd,ct,sl,m,l,c,kp⟩:=z;have b:aP K _ ps []:=(bN l c kp).binds hb;exact ⟨f,_,b4 l c kp,Py X G m,kp,b,b⟩
end
section
variable {K:Frag} {cl:Str->Addr} {E:XK}
end
section
variable {prog:Program} {w:World} {A:Around} {E:Value->Shared->Prop} {s:Shared} {d it:Addr} {es:Array DictEntry} {ep i:Nat}
end
section
variable {K:Frag} {cl:Str->Addr} {E:XK} {ρ:List Addr}
end
section
variable {K:Frag} {cl:Str->Addr} {E:XK}
end
section
variable {X:Cx} {e:Expr} {es:List Expr} {t:TA} {p pos:Pos}
end
section
variable {X:Cx} {pos:Pos}
end
section
variable {K:Frag} {cl:Str->Addr} {E:XK}
end
section
variable {X:Cx}
end
noncomputable abbrev mroEx:List Value:=[.type "Exception", .type "BaseException", .type "object"]
noncomputable def XClE (K:Frag) (C:Addr):Prop:=PySem.W.excIn K C mroEx "Exception.__new__" = true
theorem XClE.parts {K:Frag} {C:Addr} {hh:Heap} (q:XClE K C) (X:K.In hh):∃ tl N nm qn bs hdct sn sub ab col dd k0 k1 k2 k3 k5 mN,
 hh.get? C=some (excClassObj nm qn C N bs tl hdct sn sub ab col dd k0 k1 k2 k3 k5 "Exception.__new__")/\hh.Ns N mN/\mN "__init__" = none/\OwnTail hh mroEx tl:=by
 unfold XClE PySem.W.excIn at q;split at q <;> try (cases q;done)
 split at q <;> try (cases q;done)
 rename_i dct cdat slots look0 l1 l2 D tail a0 a1 a2 a3 nid a5 hmro hslots;rw [OL,OL,OL,OL,OL] at q;obtain ⟨⟨⟨⟨⟨q1,q2⟩,q3⟩,q4⟩,q5⟩,q6⟩:=q;have z1:D=C:=by simpa using q1
 have z2:nid = "Exception.__new__" := by simpa using q2
 have z3:cdat.hasDel=false:=by simpa using q3
 have z6:PySem.W.nsIn K cdat.ns "__init__" = some none:=by simpa using q6
 have zs:slots = #[a0,a1,a2,a3,some (.builtin nid),a5]:=by
  rw [<-hslots,Array.toArray_toList]
 subst z1 z2 zs;refine ⟨tail,cdat.ns,cdat.name,cdat.qualname,cdat.bases,cdat.hasDict,cdat.slotNames,cdat.subclasses,cdat.abstract,cdat.collection,dct,a0,a1,a2,a3,a5,_,?_,.of_isNs (PySem.W.isNs_of_in X q5),PySem.W.nsMap_none_of_in X q5 z6,PySem.W.tail_of_in X q4⟩;have got:=X _ _ look0;cases cdat;simp only at hmro z3;subst hmro z3;exact got
section
variable {X:Cx} {E:XK} {C:Addr} {x:Str} {np cpos pos:Pos} {e:Expr} {es:List Expr} {t:TA}
theorem GZ (hr:vn X E) (hc:X.calm=true) (hC:XClE X.K C) (hg:Gl X x) (hm:X.mg x=some (.ref C)) (ha:PA X (e::es) t)
 (he:starEach (e::es) X.env=(false,eval e X.env)::starEach es X.env) (hpl:(backTo cpos (starEach es X.env)).any (·.1)=false) (hd:(x==("__debug__" : Str))=false):
 PS X (.Raise (some (.Call (.Name x np) (e::es) [] cpos)) none pos) (yJ C E t):=by
 intro pins s σ H D I h;obtain ⟨tl,N,nm,q,bs,hdct,sn,sub,ab,col,dd,k0,k1,k2,k3,k5,mN,hCo,hNs,hni,T0⟩:=hC.parts I.mod.kin;refine wpAny_Raise_call_subT (C:=C) (nm:=nm) (q:=q) (N:=N) (bs:=bs) (bm:=tl) (hdct:=hdct) (sn:=sn) (sub:=sub) (ab:=ab) (col:=col) (dd:=dd) (k0:=k0) (k1:=k1) (k2:=k2) (k3:=k3) (k5:=k5) F.excBase_Exception (mN:=mN)
  (T0.hasType F.excBase_Exception.hasBase) (I.ok.hd hc) (by rw [he];show (false||(backTo cpos (starEach es X.env)).any (·.1))=false;rw [hpl];rfl) hni (hV I hg hm ⟨rfl,?_⟩ hd)
 rw [he];refine Qq ?_;have h1:=ha cpos pins s σ H _ I h;rw [he] at h1;refine bY h1 λ us s2 hy0=>?_;obtain ⟨vs,H2,I2,rv,hz,hE⟩:=hy0;refine ⟨rfl,by rw [<-rv.length];exact hz,I2.bk _ _ hCo,hNs.keeps I2.bk,T0.keeps I2.bk,λ h' ee hm=>?_⟩;exact hr pins σ H2 s2 h' ee (.ref C) us I2 hm hE
end
structure iA (k:Nat) (A:Around):Prop where
 dp:A.depth+3*k+5<recursionLimit
 un:A.units+16*k+200<cLine
theorem cu.n {k:Nat} {A:Around} (r:cu k A):iA k A:=⟨r.dp,r.un⟩
theorem iA.mono {j k:Nat} {A:Around} (r:iA k A) (h:j<=k):iA j A:=⟨by have:=r.dp;omega,by have:=r.un;omega⟩
theorem iA.deeper {k:Nat} {A:Around} (r:iA (k+1) A) (env:Env):iA k (A.deeper env):=
 ⟨by have:=r.dp;show A.depth+1+3*k+5<_;omega,by have:=r.un;show A.units+3+16*k+200<_;omega⟩
structure oA (P:Program) (w:World) (K:Frag) (mg:Str->Option Value) (base:Heap) (CX:sV) (k:Nat) (f:Addr) (fd:FuncData) (ps:List Str) (sp:Sp):Prop where
 len:∀ vs H Q E,sp vs H Q E->vs.length=ps.length
 run:∀ (A:Around) (outer:List Env) (s:Shared) (H:Hp) (args:Args) (us:List Value) (vs:List V) (Q:VK) (E:XK),iA k A->t9 P w K mg base A outer s H->BindsTo s fd args (ps.zip us)->bi vs us->sp vs H Q E->
  codeAny (model P w) A (.call (.ref f) args) (CR CX outer P w H s Q E) s
theorem oA.all {P:Program} {w:World} {K:Frag} {mg:Str->Option Value} {base:Heap} {CX:sV} {k:Nat} {f:Addr} {fd:FuncData} {ps:List Str} {sp:Sp} (F:oA P w K mg base CX k f fd ps sp):fH P w K mg base CX k f fd ps sp:=
 ⟨F.len,λ A outer s H args us vs Q E hr=>F.run A outer s H args us vs Q E hr.n⟩
noncomputable abbrev Jy (P:Program) (w:World) (K:Frag) (mg:Str->Option Value) (base:Heap) (N:List Str) (qual:Str) (scope:Scope) (f:Addr) (cd:Value) (A:Around) (outer:List Env) (s:Shared) (H:Hp) (E:XK):Cx:=
 { gJ vk P w K mg base N qual scope f cd A outer s H E with calm:=false,xe:=λ _ _=>False }
theorem F4 {P:Program} {w:World} {K:Frag} {mg:Str->Option Value} {base:Heap} {k:Nat} {f:Addr} {name qual:Str} {params:Arguments} {body:List Stmt} {scope:Scope} {dV kV doc pm cdv ct oc:Value} {an od:Option Addr}
 {osl:Array (Option Value)} {N ps:List Str} {sp:Sp} (lk:K.lookup f=some ⟨oc,od,.func (PySem.W.fnOf name qual params body scope dV kV doc pm an cdv ct),osl⟩) (hcd:PySem.W.codeIn K cdv qual=true) (S:dU N ps scope)
 (len:∀ vs H Q E,sp vs H Q E->vs.length=ps.length)
 (hbody:∀ (A:Around) (outer:List Env) (s:Shared) (H:Hp) (vs:List V) (Q:VK) (E:XK),iA k (A.deeper (envOfC qual scope s.heap.objs.size f cdv))->sp vs H Q E->
  ∃ t,nY (Jy P w K mg base N qual scope f cdv A outer s H E) body t/\t { nx:=λ _ H'=>Q .non H',rt:=Q } (start N vs) H):
 oA P w K mg base vk (k+1) f (PySem.W.fnOf name qual params body scope dV kV doc pm an cdv ct) ps sp:=by
 refine ⟨len,λ A outer s H args us vs Q E hr e0 hb r hsp=>?_⟩;have hl:=len _ _ _ _ hsp;have KX:K.In s.heap:=e0.mod.kin.keeps λ b o e=>(e0.bs b o e).1;have lim:s.heap.NoLimit:=e0.mod.nolimit.keeps λ b o e=>(e0.bs b o e).1;have hkind:∀ y∈ps.zip us,scope.names.lookup y.1=some .local∨(scope.names.lookup y.1=some .cell/\((cellsFrom (s.heap.objs.size+1) scope.names []).lookup y.1).isSome=true):=λ ⟨n,v⟩ hy=>by
  rcases S.par n (QH hy).1 with q | q
  . exact .inl q
  . exact .inr ⟨q,Qv _ _ _ (.inl q)⟩
 have hdep:A.depth<recursionLimit:=by have:=hr.dp;omega
 refine codeAny_call_function hdep (KX _ _ lk) rfl S.co S.gen rfl (PySem.W.codeRec_of KX hcd) (hb _ _ _ _ ?_);refine wpAny_newFunctionEnv_cells S.kind hkind λ env he s1 x=>?_;subst he;refine ⟨lim.keeps x.toInCall.keep,codeAny_func ?_⟩;obtain ⟨t,ht,hq⟩:=hbody A outer s H vs Q E (hr.deeper _) hsp;have I0:aJ (gJ vk P w K mg base N qual scope f cdv { A with handled:=none } outer s H E) [] (start N vs) H s1:=qr S rfl ⟨e0.frames,e0.mod,e0.bs,e0.bsz,e0.funs,e0.frf,e0.hok,e0.bare⟩ hl r x;have I:aJ (Jy P w K mg base N qual scope f cdv A outer s H E) [] (start N vs) H s1:=
  ⟨⟨I0.ok.mod,I0.ok.kind,I0.ok.glob,I0.ok.blt,I0.ok.above,I0.ok.inj,I0.ok.has,I0.ok.cab,(λ h=>by cases h),I0.ok.frames,I0.ok.stk,I0.ok.exf,I0.ok.bs,I0.ok.bsz,I0.ok.noex,I0.ok.exfs,I0.ok.funs,I0.ok.frf⟩,I0.os,I0.bare,I0.base,I0.loc,I0.cell,I0.free,I0.freeC,I0.pin,I0.hok,I0.len⟩
 refine Pn (ht [] s1 (start N vs) H _ I hq) (λ fl s' hs=>?_) λ e s' hs=>hs.elim;have fin:∀ {σ':St} {H':Hp} {v:V} {u:Value},aJ (Jy P w K mg base N qual scope f cdv A outer s H E) [] σ' H' s'->bq v u->Q v H'->CE outer P w H s Q u s':=
  λ {σ' H' v u} J rv q=>⟨v,H',J.os,J.bare,J.base,J.hok,rv,q⟩
 cases fl with
 | ret u=>
  obtain ⟨v,σ',H',J,rv,q⟩:=hs;exact fin J rv q
 | next=>
  obtain ⟨σ',H',J,q⟩:=hs;exact fin (v:=V.non) (u:=Value.none) J rfl q
 | brk=>
  obtain ⟨_,_,_,q⟩:=hs;exact False.elim q
 | cont=>
  obtain ⟨_,_,_,q⟩:=hs;exact False.elim q
section
variable {X:Cx} {CX:sV} {k:Nat} {f C:Addr} {fd:FuncData} {ps:List Str} {sp:Sp} {dvs:List V} {ds:List Value} {E:XK} {x m:Str} {p pos apos:Pos} {e o:Expr} {es:List Expr} {ta:TE} {t:TA}
theorem zL {pl:Sem Bool} (he:PE X o ta) (c:eJ X.K C) (hm:bw X.K C m f) (F:oA X.prog X.w X.K X.mg X.base vk k f fd ps sp) (hr:iA k X.A) (hb:aP X.K fd ps []) (ha:PA X (e::es) t)
 (hst:starEach (e::es) X.env=(false,eval e X.env)::starEach es X.env) (hpl:(backTo pos (starEach es X.env)).any (·.1)=false)
 (ht:eval (.Call (.Attribute o m apos) (e::es) [] pos) X.env=(do
  let ov <-eval o X.env
  standAt apos.atName
  let (f,first) <-holding [ov] (getMethod ov m pl)
  callWith pos f first (backTo pos (starEach (e::es) X.env)) (backToKw pos (keywordEach [] X.env)))):
 PE X (.Call (.Attribute o m apos) (e::es) [] pos) (qY C m sp [] E0 ta t):=by
 intro pins s σ H Q I h;refine Qn (pl:=pl) (bY (he pins s σ H _ I h) λ u s1 hq0=>?_) ht;obtain ⟨x,H1,I1,rx,a,dx,fs,ex,ea,l,q⟩:=hq0;subst ex;obtain rfl:u=Value.ref a:=rx;refine iU I1 ea c hm l ?_;refine Qg (first:=[.ref a]) (h₀:=X.base) I.ok.mod.kin hm.kp (bY (ha pos pins s1 σ H1 _ I1 q) λ us s2 hy0=>?_) hst hpl;obtain ⟨vs,H2,I2,r,q2⟩:=hy0;refine ⟨I2.kIn,?_⟩;have r2:bi (.ref a::(vs++[])) ((.ref a::us)++[]):=by rw [O9,O9];exact .cons rfl r
 have hl:((.ref a::us)++([]:List Value)).length=ps.length:=by rw [<-r2.length];exact F.len _ _ _ _ q2
 refine wpAny_call (QJ (F.run X.A X.stack s2 H2 ⟨.ref a::us,[]⟩ (.ref a::us++[]) _ Q E0 hr I2.env0 (hb s2 (.ref a::us) I2.kIn hl) r2 q2) λ r s' hq=>?_);cases r with
 | error e=>exact hq.elim
 | ok fl=>
  cases fl with
  | ret u=>exact I2.after hq
  | next=>exact False.elim hq
  | brk=>exact False.elim hq
  | cont=>exact False.elim hq
end
noncomputable def D5 (C:Addr) (m:Str) (sp:Sp) (C1 C2:Addr) (to:TE) (ta:TA) (t1 t2:TS):TS:=λ D σ H=>to σ H λ x H1=>∃ a dx fs,x=.ref a/\H1 a=some (.ins C dx fs)/\fs.lookup m=none/\
 ta σ H1 λ vs H2=>sp (x::(vs++[])) H2 (λ _ H3=>D.nx σ H3) (λ cls _ H3=>(cls=.ref C1/\t1 D σ H3)∨(cls=.ref C2/\t2 D σ H3))
section
variable {X:Cx} {k:Nat} {f C C1 C2:Addr} {fd:FuncData} {ps:List Str} {sp:Sp} {m n1 n2:Str} {apos cpos xpos pos p1 p2 q1 q2:Pos} {e o:Expr} {es:List Expr} {to:TE} {ta:TA} {t1 t2:TS} {b1 b2:Stmt} {l1 l2:List Stmt} {pl:Sem Bool}
structure Eu (K:Frag) (C1 C2:Addr):Prop where
 a:PySem.W.exmOne K (.ref C1) (.ref C1)=some true
 b:PySem.W.exmOne K (.ref C2) (.ref C1)=some false
 c:PySem.W.exmOne K (.ref C2) (.ref C2)=some true
theorem Cy (hst:X.stack=X.env::X.outer) (hfr:X.env.frame=some X.env.locals) (hx:X.xe=λ _ _=>False) (hg1:Gl X n1) (hm1:X.mg n1=some (.ref C1)) (hg2:Gl X n2) (hm2:X.mg n2=some (.ref C2)) (hE:Eu X.K C1 C2)
 (ho:PE X o to) (c:eJ X.K C) (hm:bw X.K C m f) (F:fH X.prog X.w X.K X.mg X.base (ss X.prog X.w) k f fd ps sp) (hr:cu k X.A) (hb:aP X.K fd ps []) (ha:PA X (e::es) ta)
 (s1:∀ ea:Addr,nY (X.suite ea) (b1::l1) t1) (s2:∀ ea:Addr,nY (X.suite ea) (b2::l2) t2)
 (hse:starEach (e::es) X.env=(false,eval e X.env)::starEach es X.env) (hpl:(backTo cpos (starEach es X.env)).any (·.1)=false)
 (ht:eval (.Call (.Attribute o m apos) (e::es) [] cpos) X.env=(do
  let ov <-eval o X.env
  standAt apos.atName
  let (f,first) <-holding [ov] (getMethod ov m pl)
  callWith cpos f first (backTo cpos (starEach (e::es) X.env)) (backToKw cpos (keywordEach [] X.env))))
 (hsw:swapsWith (.Call (.Attribute o m apos) (e::es) [] cpos) none xpos.line X.env=pure false) (hd1:(n1==("__debug__" : Str))=false) (hd2:(n2==("__debug__" : Str))=false):
 PS X (.Try [.Expr (.Call (.Attribute o m apos) (e::es) [] cpos) xpos] [.ExceptHandler (some (.Name n1 p1)) none (b1::l1) q1,.ExceptHandler (some (.Name n2 p2)) none (b2::l2) q2] [] [] pos) (D5 C m sp C1 C2 to ta t1 t2):=by
 intro pins s σ H D I h;let E1:XK:=λ cls _ H3=>(cls=.ref C1/\t1 D σ H3)∨(cls=.ref C2/\t2 D σ H3);have key:∀ Xe:Value->Shared->Prop,(∀ H2 s2 e s3,aJ X pins σ H2 s2->ss X.prog X.w X.stack H2 s2 E1 e s3->Xe e s3)->
  wpAny (model X.prog X.w) X.A (execs [.Expr (.Call (.Attribute o m apos) (e::es) [] cpos) xpos] X.env) (SP X pins D) Xe s:=by
  intro Xe hXe;have any:∀ {α:Type} {t:Sem α} {Q:α->Shared->Prop} {s:Shared},wpAny (model X.prog X.w) X.A t Q X.xe s->wpAny (model X.prog X.w) X.A t Q Xe s:=λ {α t Q s} w0=>Pn w0 (λ _ _ z=>z) λ e s z=>by rw [hx] at z;exact z.elim
  refine wpAny_execs_cons (bY (Q:=λ f s1=>f=.next/\∃ H',aJ X pins σ H' s1/\D.nx σ H') (wpAny_Expr_any (bY (Q:=λ _ s1=>∃ H',aJ X pins σ H' s1/\D.nx σ H') ?_ λ v s1 z=>⟨rfl,z⟩) I.quiet hsw) λ f s1 q=>?_)
  . refine Qn (pl:=pl) (bY (any (ho pins s σ H _ I h)) λ u s1 ⟨x,H1,I1,rx,a,dx,fs,ex,ea,l,q⟩=>?_) ht;subst ex;obtain rfl:u=Value.ref a:=rx;refine iU I1 ea c hm l ?_;refine Qg (first:=[.ref a]) (h₀:=X.base) I.ok.mod.kin hm.kp (bY (any (ha cpos pins s1 σ H1 _ I1 q)) λ us s2 hy0=>?_) hse hpl;obtain ⟨vs,H2,I2,r,q2⟩:=hy0;refine ⟨I2.kIn,?_⟩;have r2:bi (.ref a::(vs++[])) ((.ref a::us)++[]):=by rw [O9,O9];exact .cons rfl r
    have hl:((.ref a::us)++([]:List Value)).length=ps.length:=by rw [<-r2.length];exact F.len _ _ _ _ q2
    refine wpAny_call (QJ (F.run X.A X.stack s2 H2 ⟨.ref a::us,[]⟩ (.ref a::us++[]) _ _ E1 hr I2.env0 (hb s2 (.ref a::us) I2.kIn hl) r2 q2) λ r s' hq=>?_);cases r with
    | error e=>exact hXe H2 s2 e s' I2 hq
    | ok fl=>
     cases fl with
     | ret u=>
      obtain ⟨v,H',I',_,z⟩:=I2.after hq;exact ⟨H',I',z⟩
     | next=>exact False.elim hq
     | brk=>exact False.elim hq
     | cont=>exact False.elim hq
  . obtain ⟨rfl,H',I',z⟩:=q;exact Ql ⟨σ,H',I',z⟩
 refine wpAny_Try_except (Pn (key _ ?_) (λ f s1 q=>?_) λ e s1 q=>q)
 . intro H1 s1' e s2' I1 hq;obtain ⟨ea,cls,a0,H2,B,rfl,os,bare,fl,hokB,un,keepB,thereB,f1,q⟩:=hq;have fl0:=fl.2.2.1;have hfl:=fl;have frames:X.A.frames=some (X.env::X.outer):=by rw [<-hst];exact I.ok.frames
   have fl:Heap.FlyingW B (X.env::X.outer) ea cls a0 s2'.heap:=by rw [<-hst];exact hfl
   refine wpAny_looks_onW frames hfr fl λ h4 held4 up4=>wpAny_landsW held4 λ h5 fl5 up5=>?_;have up45:=up4.trans up5;rw [<-hst] at fl5;have I5:aJ X pins σ H2 { s2' with heap:=h5 }:=I1.flown os bare un hokB keepB thereB fl0 fl5 up45;obtain ⟨ob,hob,hobc⟩:=fl5.there;have suite:∀ {b:Stmt} {l:List Stmt} {t:TS} {p:Pos} {R:Flow->Shared->Prop},(∀ ea:Addr,nY (X.suite ea) (b::l) t)->t D σ H2->(∀ f s,SP X pins D f s->R f s)->codeAny (model X.prog X.w) (X.A.mark (some (.ref ea))) (.handlers (.ref ea) [.ExceptHandler none none (b::l) p] X.env) (λ r s₂=>match r with
    | .ok f=>R f s₂
    | .error x=>cameBackBy (model X.prog X.w) X.A X.env X.xe x s₂) { s2' with heap:=h5 }:=λ {b l t p R} hs q hR=>by
    refine codeAny_handlers_suite (lands_againW fl5 λ h6 fl6 up6=>?_);have I6:aJ X pins σ H2 { s2' with heap:=h6 }:=I1.flown os bare un hokB keepB thereB fl0 fl6 (up45.trans up6);refine Pn (hs ea pins _ σ H2 D (I6.inSuite ea) q) (λ f s9 q9=>hR f s9 ?_) λ _ _ z=>z.elim;cases f with
    | next=>obtain ⟨σ9,H9,I9,z⟩:=q9;exact ⟨σ9,H9,I9.outSuite I6.ok,z⟩
    | brk=>obtain ⟨σ9,H9,I9,z⟩:=q9;exact ⟨σ9,H9,I9.outSuite I6.ok,z⟩
    | cont=>obtain ⟨σ9,H9,I9,z⟩:=q9;exact ⟨σ9,H9,I9.outSuite I6.ok,z⟩
    | ret u=>obtain ⟨v,σ9,H9,I9,r,z⟩:=q9;exact ⟨v,σ9,H9,I9.outSuite I6.ok,r,z⟩
   have qq:(cls=.ref C1/\t1 D σ H2)∨(cls=.ref C2/\t2 D σ H2):=q;clear q;rcases qq with ⟨rfl,q⟩ | ⟨rfl,q⟩
   . refine wpAny_handleBy_cons (codeAny_handlers_test (hV (I5.inSuite ea) hg1 hm1 ?_ hd1)) (by intro z;cases z);refine PySem.W.exm_one (M:=model X.prog X.w) I5.kIn (hobc▸(PySem.W.Looks.ld hob).andThen .now) hE.a _ _ _ _ (λ _ _ z=>z) ?_;show codeAny _ _ _ _ _;exact suite s1 q λ _ _ z=>z
   . refine wpAny_handleBy_cons (codeAny_handlers_test (hV (I5.inSuite ea) hg1 hm1 ?_ hd1)) (by intro z;cases z);refine PySem.W.exm_one (M:=model X.prog X.w) I5.kIn (hobc▸(PySem.W.Looks.ld hob).andThen .now) hE.b _ _ _ _ (λ _ _ z=>z) ?_;show wpAny _ _ (handleBy _ _ _) _ _ _;refine wpAny_handleBy_cons (codeAny_handlers_test (hV (I5.inSuite ea) hg2 hm2 ?_ hd2)) (by intro z;cases z);refine PySem.W.exm_one (M:=model X.prog X.w) I5.kIn (hobc▸(PySem.W.Looks.ld hob).andThen .now) hE.c _ _ _ _ (λ _ _ z=>z) ?_;show codeAny _ _ _ _ _;exact suite s2 q λ _ _ z=>z
 . cases f with
   | next=>exact Ql q
   | brk=>exact q
   | cont=>exact q
   | ret u=>exact q
end
section
variable {K:Frag} {cl:Str->Addr} {E:XK}
noncomputable def m6 (c m:Str) (f:List W->ai->SM W) (c1 c2:Str) (fo:DS->Option W) (fa:DS->Option (List W)) (h1 h2:DS->ai->SO):DS->ai->SO:=λ δ S=>(fo δ).bind λ x=>(fa δ).bind λ ds=>(jl c x S).bind λ p=>if p.2.lookup m=none then
 (match f (x::ds) S with
 | some (.ok _,S1)=>some (.nx δ,S1)
 | some (.xc y,S1)=>if y=c1 then h1 δ S1 else if y=c2 then h2 δ S1 else none
 | none=>none)
 else none
theorem CF {c m c1 c2:Str} {f:List W->ai->SM W} {to:TE} {ta:TA} {fo:DS->Option W} {fa:DS->Option (List W)} {t1 t2:TS} {h1 h2:DS->ai->SO} (ho:∀ ρ,DE K ρ to fo) (ha:∀ ρ,DA K ρ ta fa) (g1:kK K cl E t1 h1) (g2:kK K cl E t2 h2):
 kK K cl E (D5 (cl c) m (uH K cl f) (cl c1) (cl c2) to ta t1 t2) (m6 c m f c1 c2 fo fa h1 h2):=λ ρ0 G0 H0 ρ G σ H δ S o S' D I e p=>by
 obtain ⟨x,ex,e⟩:=oB e
 obtain ⟨ds,ed,e⟩:=oB e
 obtain ⟨⟨n,fs⟩,ei,e⟩:=oB e
 split at e
 case isFalse=>cases e
 rename_i hm;refine ho ρ G σ H δ x _ I.rs.rl ex λ v G1 H1 gr1 dv=>?_;have gs1:GS ρ G H ρ G1 H1:=.of gr1;have sr1:=I.rs.st.grow gr1;have I1:=I.grow gs1 sr1;obtain ⟨rfl,e5⟩:=eV ei;obtain ⟨a,rfl,ea⟩:=cc dv;obtain ⟨ga,dx,ws,k1,k2,k3,k4⟩:=sr1.addr e5 ea;refine ⟨a,dx,ws,rfl,k1,k4.lookup_none hm,?_⟩;refine ha ρ G1 σ H1 δ ds _ I1.rs.rl ed λ vs G2 H2 gr2 da=>?_;have gs2:GS ρ G1 H1 ρ G2 H2:=.of gr2;have sr2:=sr1.grow gr2;have I2:=I1.grow gs2 sr2;cases ef:f (.ref n::ds) S with
 | none=>rw [ef] at e;cases e
 | some r=>
  obtain ⟨r,S1⟩:=r;rw [ef] at e;refine ⟨ρ,G2,S,.ref n::ds,r,S1,gr2.s,sr2,by rw [O9];exact .cons (dv.same gr2.g) da,ef,λ d hd v ρ3 G3 H3 g3 s3 dv=>?_,λ y hy ρ3 G3 H3 g3 s3=>?_⟩
  . subst hd;cases e;exact p σ ρ3 G3 H3 (I2.grow g3 s3)
  . subst hy;have e9:(if y=c1 then h1 δ S1 else if y=c2 then h2 δ S1 else none)=some (o,S'):=e;have I3:=I2.grow g3 s3;by_cases z:y=c1
    . rw [OG z] at e9;exact .inl ⟨by rw [z],g1 ρ0 G0 H0 ρ3 G3 σ H3 δ S1 o S' D I3 e9 p⟩
    . rw [OT z] at e9;by_cases z2:y=c2
      . rw [OG z2] at e9;exact .inr ⟨by rw [z2],g2 ρ0 G0 H0 ρ3 G3 σ H3 δ S1 o S' D I3 e9 p⟩
      . rw [OT z2] at e9;cases e9
end
section
variable {A:Around} {E:Value->Shared->Prop}
theorem GP {P:Program} {w:World} {s:Shared} {d:Addr} {kvs:List (bn×Value)} {k:bn} {key v:Value} {Q:Unit->Shared->Prop} (hkey:(aK P w).is k key=true) (hm:eh P w s.heap d kvs) (hsz:kvs.length<=sizeLine)
 (hQ:∀ h',eh P w h' d (stored kvs k v)->Heap.SameBut d s.heap h'->Q () { s with heap:=h',toks:=s.toks+1 }):wpAny (model P w) A (dictSet d key v) Q E s:=by
 obtain ⟨o,es,ep,ho,hc,hd,he,hk,hp,hn⟩:=hm;have hes:es.size<=sizeLine:=by have e1:=hp.length;rw [P8] at e1;omega
 unfold dictSet;try with_reducible refine Pt ?_
 refine OD ((aK P w).pyHash hkey ?_);unfold dictSetHashed;try with_reducible refine Pt ?_
 refine OD (wpAny_dictFind_of (s:={ s with toks:=s.toks+1 }) hkey ho hd hk ?_);have ix:(es.findIdx? λ e=>(aK P w).is k e.key)=kvs.findIdx? λ kv=>decide (kv.1=k):=by
  rw [<-hp.findIdx k];obtain ⟨l⟩:=es;simp
 cases hi:es.findIdx? λ e=>(aK P w).is k e.key with
 | some i=>
  have an:=any_of_findIdx_some (ix▸hi);have hl:(es.toList.findIdx? λ e=>(aK P w).is k e.key)=some i:=by rw [<-hi];obtain ⟨l⟩:=es;simp
  have hm:=hp.modify hn hl v;refine OD (QK (OD (wpAny_updateDict (s:={ s with toks:=s.toks+1 }) ho hd (wpAny_point (hQ _ ?_ (PU ..))))));refine ⟨_,_,ep,Pr _ ho (PV (Qb hd _)),hc.mapDict _,Qb hd _,by simpa using he,hk.modify _ _,?_,?_⟩
  . rw [stored,OG an];obtain ⟨l⟩:=es;simpa using hm
  . rw [stored,OG an,keys_map_store];exact hn
 | none=>
  have nm:k∉kvs.map (·.1):=not_mem_of_findIdx_none (ix▸hi);have na:¬ (kvs.any λ kv=>decide (kv.1=k))=true:=λ z=>by
   obtain ⟨kv,h1,h2⟩:=List.any_eq_true.mp z;exact nm (Pp.mpr ⟨kv,h1,PP h2⟩)
  have ha:=hp.append hkey ((aK P w).hash k) v;refine OD (QK (wpAny_updateDictKeys (hz:=hes) (s:={ s with toks:=s.toks+1 }) ho hd (hQ _ ?_ (PU ..))));refine ⟨_,_,ep+1,Pr _ ho (PV (PM hd _)),hc.mapDictKeys _,PM hd _,by simp [he],hk.push hkey _,?_,?_⟩
  . rw [stored,OT na];obtain ⟨l⟩:=es;simpa using ha
  . rw [stored,OT na,O3,P2];exact ⟨hn,by simp,λ x hx y hy z=>nm (by simp at hy;rw [<-hy,<-z];exact hx)⟩
theorem p6 {P:Program} {w:World} {d:Addr}:∀ (vs:List (Value×Value)) (kvs acc:List (bn×Value)) (s:Shared) (Q:PUnit->Shared->Prop),Carries (aK P w) vs kvs->eh P w s.heap d acc->acc.length+kvs.length<=sizeLine->
 (∀ h' tk,eh P w h' d (merged acc kvs)->Heap.SameBut d s.heap h'->Q PUnit.unit { s with heap:=h',toks:=tk })->
 wpAny (model P w) A (forIn vs PUnit.unit λ (x:Value×Value) (_:PUnit)=>(do dictSet d x.1 x.2;pure (ForInStep.yield PUnit.unit):Sem (ForInStep PUnit))) Q E s
 | [],[],acc,s,Q,_,hm,_,hQ=>by
  rw [List.forIn_nil];exact OZ (hQ s.heap s.toks (by simpa [merged] using hm) (Heap.SameBut.refl _ _))
 | (key,v)::vs,(k,v')::kvs,acc,s,Q,hc,hm,hsz,hQ=>by
  obtain ⟨hkey,rfl,hc'⟩:=hc;rw [OF] at hsz;rw [List.forIn_cons];refine OD (OD (GP hkey hm (by omega) λ h₁ hm₁ hs₁=>OZ ?_));refine p6 vs kvs (stored acc k v) _ Q hc' hm₁ (by have e:=stored_length_le acc k v;omega) λ h' tk hm' hs'=>?_;exact hQ h' tk (by simpa [merged] using hm') (hs₁.trans hs')
 | [],_::_,_,_,_,hc,_,_,_=>hc.elim
 | _::_,[],_,_,_,hc,_,_,_=>hc.elim
end
theorem Il {X:Cx} {pos:Pos} {keys:List (Option Expr)} {values:List Expr} {trs:List (TE×TE)} (h:HP X pos keys values trs) (hall:keys.all (·.isSome)=true) (hl:keys.length=values.length) (h0:keys≠[])
 (h15:keys.length<=15):PE X (.Dict keys values pos) (A2 trs):=by
 intro pins s σ H Q I q;have hn:=I.hok.fresh (OB s.heap.objs.size);have I1:=I.laid (a:=s.heap.objs.size) (o:=.dK []) (h':=s.heap.push { cls:=.type "dict", data:=.dict #[] }) (t':=s.toks) (λ _ _ q=>OM _ q) (OB _) (ur s.heap I.big);have hpl:=pairTrees_length keys values X.env pos hall hl;have hpn:pairTrees keys values X.env pos≠[]:=λ he=>by
  rw [he] at hpl;exact h0 (Qd.mp hpl.symm)
 rw [arm_eval_Dict,zip_pairTrees keys values X.env pos hall hl,dictDisplay_pairs _ hpn (by omega)];refine OD (wpAny_standAt (OD ?_));unfold subDict;refine OD (wpAny_alloc ?_);refine OD (Pt ?_);rw [OG (by omega)];refine OD (Pn (wpAny_evalPairs_len (h pins _ σ _ _ I1 (q _ hn))) (λ ws s2 hy=>?_) λ _ _ e=>e);obtain ⟨hvl,ps,H2,I2,rel,e,kvs,ep,lk,q2⟩:=hy;subst ep;obtain ⟨rs,c,rk⟩:=pb (P:=X.prog) (w:=X.w) rel;obtain ⟨z,hd,vs0,r0,dd⟩:=(show cz X.prog X.w H2 s2.heap s.heap.objs.size (.dK []) from I2.hok _ _ e)
 cases r0;have hz:(fQ [] kvs).length<=sizeLine:=by
  have h1:=ii kvs [];rw [O5] at h1;rw [QD];omega
 have hrs:rs.length=kvs.length:=(PL rk).symm;refine Pt ?_;refine OD (p6 ws rs [] s2 _ c dd (by rw [O5,QD];omega) λ h' tk dd' hs=>OZ (OZ (OZ ?_)));have he:∃ q,h'.get? s.heap.objs.size=some q:=let ⟨q,_,_,hq,_⟩:=dd';⟨q,hq⟩;exact ⟨.ref s.heap.objs.size,_,oe I2 (by rw [e];exact True.intro) hs he (vC hz hd (rk.merge .nil) dd'),rfl,q2⟩
section
variable {K:Frag} {cl:Str->Addr} {E:XK}
noncomputable def tR:List (Str×(DS->Option W))->DS->Option (List (bn×W))
 | [],_=>some []
 | (k,f)::r,δ=>(f δ).bind λ d=>(tR r δ).map ((.inr k,d)::·)
noncomputable def dP (kvs more:List (bn×W)):List (bn×W):=more.foldl (λ acc kv=>eX acc kv.1 kv.2) kvs
noncomputable def vR (kfs:List (Str×(DS->Option W))):DS->ai->SM W:=λ δ S=>(tR kfs δ).bind λ kvs=>if kvs.length<=15 then some (.ok (.ref S.length),S++[.dK (dP [] kvs)]) else none
inductive Dm (K:Frag):List (TE×TE)->List (Str×(DS->Option W))->Prop
 | nil:Dm K [] []
 | cons {k:Str} {t:TE} {f:DS->Option W} {trs:List (TE×TE)} {kfs:List (Str×(DS->Option W))}:(∀ ρ,DE K ρ t f)->Dm K trs kfs->Dm K ((tC (.str k),t)::trs) ((k,f)::kfs)
theorem gP.merge {ρ:List Addr} {G:Hp}:∀ {more:List (bn×W)} {ms:List (bn×V)} {l:List (bn×W)} {m:List (bn×V)},gP K ρ G more ms->gP K ρ G l m->gP K ρ G (dP l more) (fQ m ms):=by
 intro more ms l m h;induction h generalizing l m with
 | nil=>exact λ h2=>h2
 | cons h1 _ ih=>exact λ h2=>ih (h2.put h1)
theorem gP.extR {ρ ρ':List Addr} {G:Hp} (g:ρ <+: ρ') {l:List (bn×W)} {m:List (bn×V)} (h:gP K ρ G l m):gP K ρ' G l m:=by
 induction h with
 | nil=>exact .nil
 | cons h1 _ ih=>exact .cons (h1.ext g) ih
theorem Cu {trs:List (TE×TE)} {kfs:List (Str×(DS->Option W))} (h:Dm K trs kfs):∀ {ρ:List Addr} {G:Hp} {σ:St} {H:Hp} {δ:DS} {kvs:List (bn×W)} {Q:List (V×V)->Hp->Prop},Rl K ρ G H δ σ->tR kfs δ=some kvs->
 (∀ ms G' H',Gr G H G' H'->gP K ρ G' kvs ms->Q (ms.map λ kv=>(kV kv.1,kv.2)) H')->oX trs σ H Q:=by
 induction h with
 | nil=>
  intro ρ G σ H δ kvs Q R e q;cases e;exact q [] G H (.refl R.sub) .nil
 | @cons k t f trs kfs h1 _ ih=>
  intro ρ G σ H δ kvs Q R e q;obtain ⟨d,e1,e⟩:=oB e
  obtain ⟨r,e2,rfl⟩:=oM e
  refine h1 ρ G σ H δ d _ R e1 λ v G1 H1 g1 dv=>?_;refine ih (R.grow g1) e2 λ ms G2 H2 g2 kv=>?_;exact q ((.inr k,v)::ms) G2 H2 (g1.trans g2) (.cons (dv.same g2.g) kv)
theorem Ck {trs:List (TE×TE)} {kfs:List (Str×(DS->Option W))} (h:Dm K trs kfs):SE K cl E (A2 trs) (vR kfs):=λ ρ G σ H δ S r S' Q R e q qx=>by
 obtain ⟨kvs,e1,e⟩:=oB e
 split at e
 case isFalse=>cases e
 rename_i h15;cases e;intro p hp;have n0:Nw H (cE H p (.dK [])) p (.dK []):=.of hp;have g0:Gr G H G (cE H p (.dK [])):=.nwO R.rl.sub n0;refine Cu h (R.rl.grow g0) e1 λ ms G2 H2 g2 kv=>?_;have hp2:H2 p=some (.dK []):=g2.h _ _ aG;have gp:G2 p=none:=g2.n p (.of aG λ _ z=>by cases z) (dX R.rl.sub hp);refine ⟨hp2,ms,rfl,by rw [<-kv.length];exact h15,?_⟩;let Hx:Hp:=λ b=>if b=p then none else H2 b
 have hx:∀ b,b≠p->Hx b=H2 b:=λ b hb=>OT hb;have hxp:Hx p=none:=OG rfl;have gx:Gr G H G2 Hx:=by
  refine ⟨g2.g,λ b o eb=>?_,λ b o eb=>?_,λ b hb=>?_⟩
  . have hb:b≠p:=λ z=>by rw [z,hp] at eb;cases eb
    rw [hx b hb];exact g2.h _ _ (by rw [aM hb];exact eb)
  . have hb:b≠p:=λ z=>by rw [z,gp] at eb;cases eb
    rw [hx b hb];exact g2.s _ _ eb
  . exact g2.n b (hb.same n0.1)
 have ex:cE H2 p (.dK (fQ [] ms))=cE Hx p (.dK (fQ [] ms)):=by
  funext b;by_cases hb:b=p
  . subst hb;rw [aG,aG]
  . rw [aM hb,aM hb,hx b hb]
 rw [ex];have sx:=R.st.grow gx;have n1:Nw Hx (cE Hx p (.dK (fQ [] ms))) p (.dK (fQ [] ms)):=.of hxp;obtain ⟨s2,gg⟩:=sx.push (o:=.dK (dP [] kvs)) gx.s n1 λ ρ' hr=>⟨_,aG,gP.merge (kv.extR hr) .nil⟩
 exact q _ rfl _ _ _ _ ((GS.of gx).trans gg) s2 (.ref (by rw [<-R.st.len];simp))
noncomputable def fN (fo fk fx:DS->ai->SM W):DS->ai->SM W:=λ δ S=>aq (fo δ S) λ x S1=>if (oK x S1).isSome=true then aq (fk δ S1) λ y S2=>aq (fx δ S2) λ z S3=>(uz x y S3).bind λ o=>some (.ok (o.getD z),S3) else none
theorem zr {to tk tx:TE} {fo fk fx:DS->ai->SM W} (ho:SE K cl E to fo) (hk:SE K cl E tk fk) (hx:SE K cl E tx fx):SE K cl E (zA to tk tx) (fN fo fk fx):=λ ρ G σ H δ S r S' Q R e q qx=>
 cC ho R e (λ x S1 e1 v ρ1 G1 H1 g1 s1 dv=>by
  split at e1
  case isFalse=>cases e1
  rename_i hx1;obtain ⟨⟨n,kvs0⟩,hx0⟩:=P6.mp hx1;obtain ⟨rfl,h0⟩:=i9 hx0;obtain ⟨a,rfl,ea⟩:=cc dv;obtain ⟨_,ws0,k0,_⟩:=s1.addr h0 ea;have R1:=R.grow g1 s1;refine ⟨a,rfl,.inl ⟨ws0,.inl k0⟩,?_⟩;refine cC hk R1 e1 (λ y S2 e2 u ρ2 G2 H2 g2 s2 du=>?_) λ c hc ρ2 G2 H2 g2 s2=>qx c hc ρ2 G2 H2 (g1.trans g2) s2;refine cC hx (R1.grow g2 s2) e2 (λ z S3 e3 w ρ3 G3 H3 g3 s3 dw=>?_) λ c hc ρ3 G3 H3 g3 s3=>qx c hc ρ3 G3 H3 (g1.trans (g2.trans g3)) s3;obtain ⟨o,e4,e5⟩:=oB e3
  cases e5;have g13:=g1.trans (g2.trans g3);have g23:=g2.trans g3;obtain ⟨a',r',ez,h1,h2⟩:=wq g13.s s3 ((dv.ext g23.r).same g23.g) ((du.ext g3.r).same g3.g) e4;cases ez;refine ⟨r',h1,?_⟩;cases o with
  | some d=>
   obtain ⟨z',rfl,dz⟩:=h2;exact q _ rfl _ ρ3 G3 H3 g13 s3 dz
  | none=>
   rw [show r'=none from h2];exact q _ rfl _ ρ3 G3 H3 g13 s3 dw) qx
noncomputable def oN (g g':W->W->Option Bool) (fa fb fc:DS->ai->SM W):DS->ai->SM Bool:=λ δ S=>aq (fa δ S) λ x S1=>aq (fb δ S1) λ y S2=>(g x y).bind λ b=>if b=true then aq (fc δ S2) λ z S3=>iL (g' y z) S3 else some (.ok false,S2)
theorem xX {r r':R2} {ta tb tc:TE} {fa fb fc:DS->ai->SM W} {g g':W->W->Option Bool} (hr:∀ ρ,DB K ρ r g) (hr':∀ ρ,DB K ρ r' g') (ha:SE K cl E ta fa) (hb:SE K cl E tb fb) (hc:SE K cl E tc fc):ST K cl E (mW (zX r r' ta tb tc)) (oN g g' fa fb fc):=λ ρ G σ H δ S rr S' Q R e q qx=>
 cC ha R e (λ x S1 e1 v ρ1 G1 H1 g1 s1 dv=>by
  refine cC hb (R.grow g1 s1) e1 (λ y S2 e2 u ρ2 G2 H2 g2 s2 du=>?_) λ c hc ρ2 G2 H2 g2 s2=>qx c hc ρ2 G2 H2 (g1.trans g2) s2;obtain ⟨b,e3,e4⟩:=oB e2
  refine hr ρ2 H2 v u x y b _ ((dv.ext g2.r).same (g2.g.trans g2.s)) (du.same g2.s) e3 ⟨b,rfl,?_⟩;cases b with
  | false=>
   cases e4;exact ⟨false,rfl,q _ rfl ρ2 G2 H2 (g1.trans g2) s2⟩
  | true=>
   rw [OG rfl] at e4 ⊢;refine cC hc ((R.grow g1 s1).grow g2 s2) e4 (λ z S3 e5 w ρ3 G3 H3 g3 s3 dw=>?_) λ c hc ρ3 G3 H3 g3 s3=>qx c hc ρ3 G3 H3 (g1.trans (g2.trans g3)) s3;obtain ⟨c,e6,rfl,rfl⟩:=cj e5;exact hr' ρ3 H3 u w y z c _ ((du.ext g3.r).same (g3.g.trans g3.s)) (dw.same g3.s) e6 ⟨c,rfl,q c rfl ρ3 G3 H3 (g1.trans (g2.trans g3)) s3⟩) qx
end
noncomputable def yy:List V->Hp->VK->Prop:=λ xs H Q=>∃ b:Bool,xs=[.bl b]/\Q (.int (if b then 1 else 0)) H
theorem wK {X:Cx}:cU X (.type "int") yy:=by
 intro pins s σ H xs us Q I r h;obtain ⟨b,e,q⟩:=h;subst e;obtain ⟨u,rfl,rb⟩:=mZ r;cases rb;exact call_int_bool ⟨.int _,H,I.tok _,⟨_,rfl⟩,q⟩
theorem Lp {X:Cx} {e:Expr} {es:List Expr} {t:TA} {p pos:Pos} (hg:Gl X "int") (hm:X.mg "int" = none) (ha:PA X (e::es) t)
 (he:starEach (e::es) X.env=(false,eval e X.env)::starEach es X.env) (hp:(backTo pos (starEach es X.env)).any (·.1)=false):PE X (.Call (.Name "int" p) (e::es) [] pos) (wY yy t):=pZ wK hg hm (by decide +kernel:bootBuiltins "int" = some (.type "int")) ha (by decide) (by decide) he hp
noncomputable def HY:W->Option W
 | .bool b=>some (.int (if b then 1 else 0))
 | _=>none
noncomputable def kh (f:DS->Option W):DS->Option W:=λ δ=>(f δ).bind HY
theorem B3 {K:Frag} {ρ:List Addr} {t:TE} {f:DS->Option W} (h:DE K ρ t f):DE K ρ (wY yy (iz t kT)) (kh f):=λ G σ H δ d Q R e q=>by
 obtain ⟨x,ex,e⟩:=oB e
 cases x <;> first | cases e
 rename_i b;exact h G σ H δ _ _ R ex λ v G1 H1 g1 dv=>by
  cases dv;exact ⟨b,rfl,q _ G1 H1 g1 (.int _)⟩
noncomputable def kI (d:PyData):Bool:=d.showable && !d.hasDict&&decide (d.depth<=64)&&decide (d.shown.length<=sizeLine)
noncomputable def qi (K:Frag):List V->Hp->VK->Prop:=λ xs H Q=>∃ a d,xs=[.ref a]/\Dp K H (.ref a) d/\kI d=true/\Q (.str d.shown) H
theorem uY {X:Cx} {K:Frag} (h:X.K=K) {k:Nat} (hr:cu k X.A):cU X (.builtin "repr") (qi K):=by
 subst h;intro pins s σ H xs us Q I r h;obtain ⟨a,d,e,dp,ok,q⟩:=h;subst e;obtain ⟨u,rfl,rb⟩:=mZ r;cases rb;obtain ⟨as,rd⟩:=Dp.reads I dp rfl;simp only [kI,OL,OX,Bool.not_eq_true'] at ok;obtain ⟨⟨⟨o1,o2⟩,o3⟩,o4⟩:=ok;exact repr_of_reads' rd o1 (PyData.noDict_hsm o2) hr.gd (by have:=hr.un;omega) (λ _ _ e=>e) (λ h' u tk hk=>⟨.str d.shown,H,I.kept (t':=tk) λ b o e=>hk b o e,⟨u,rfl⟩,q⟩) o4
theorem boot_repr':bootBuiltins "repr" = some (.builtin "repr"):=by decide +kernel
theorem Ep {X:Cx} {K:Frag} (h:X.K=K) {k:Nat} (hr:cu k X.A):QB X "repr" (qi K):=⟨_,uY h hr,boot_repr'⟩
noncomputable def ua (x:W):Option W:=(W.py x).bind λ d=>match x with
 | .list _=>if kI d=true then some (.str d.shown) else none
 | .tuple _=>if kI d=true then some (.str d.shown) else none
 | _=>none
noncomputable def gG (f:DS->Option W):DS->Option W:=λ δ=>(f δ).bind ua
theorem CC {K:Frag} {ρ:List Addr} {t:TE} {f:DS->Option W} (h:DE K ρ t f):DE K ρ (wY (qi K) (iz t kT)) (gG f):=λ G σ H δ d Q R e q=>by
 obtain ⟨x,ex,e⟩:=oB e
 obtain ⟨y,ey,e⟩:=oB e
 refine h G σ H δ _ _ R ex λ v G1 H1 g1 dv=>?_;have dp:=(dv.same g1.s).dp ey;have go:∀ {a:Addr},v=.ref a->(if kI y=true then some (W.str y.shown) else none)=some d->qi K [v] H1 Q:=λ {a} hv e=>by
  subst hv;split at e
  . cases e;exact ⟨a,y,rfl,dp,by assumption,q _ G1 H1 g1 (.str _)⟩
  . cases e
 show qi K [v] H1 Q;cases x with
 | list ds=>
  obtain ⟨a,rfl⟩:∃ a,v=.ref a:=by cases dv;exact ⟨_,rfl⟩
  exact go rfl e
 | tuple ds=>
  obtain ⟨a,rfl⟩:∃ a,v=.ref a:=by cases dv;exact ⟨_,rfl⟩
  exact go rfl e
 | none=>cases e
 | bool _=>cases e
 | int _=>cases e
 | str _=>cases e
 | ref _=>cases e
theorem mD:∀ {as:List Addr} {us:List Value},bi (as.map V.ref) us->us=as.map Value.ref
 | [],us,h=>by cases h;rfl
 | a::as,us,h=>by
  cases h with
  | cons h1 h2=>
   cases h1;rw [mD h2];rfl
section
variable {K:Frag} {cl:Str->Addr} {E:XK}
end
noncomputable def xM (R:Addr->FuncData->Prop) (P:Program) (w:World) (K:Frag) (mg:Str->Option Value) (base:Heap) (k:Nat) (ps:List Str) (sp:Sp):Prop:=∃ f fd,R f fd/\fH P w K mg base (ss P w) k f fd ps sp
noncomputable def K8 (R:Addr->FuncData->Prop) (P:Program) (w:World) (K:Frag) (mg:Str->Option Value) (base:Heap) (k:Nat) (ps:List Str) (sp:Sp):Prop:=∃ f fd,R f fd/\oA P w K mg base vk k f fd ps sp
noncomputable abbrev Li (P:Program) (w:World) (K:Frag) (mg:Str->Option Value) (base:Heap) (N:List Str) (q:Str) (st:Stmt) (k:Nat) (E:XK) (t:TS):Prop:=∀ (f:Addr) (cd:Value) (A:Around) (outer:List Env) (s:Shared) (H:Hp),N.Nodup->cu k (A.deeper (envOfC q (ax st) s.heap.objs.size f cd))->(A.deeper (envOfC q (ax st) s.heap.objs.size f cd)).units+64<cLine->(A.deeper (envOfC q (ax st) s.heap.objs.size f cd)).units+1<cLine->
 nY (gJ (ss P w) P w K mg base N q (ax st) f cd A outer s H E) (aO st) t
noncomputable abbrev LY (P:Program) (w:World) (K:Frag) (mg:Str->Option Value) (base:Heap) (N:List Str) (q:Str) (st:Stmt) (k:Nat) (t:TS):Prop:=∀ (f:Addr) (cd:Value) (A:Around) (outer:List Env) (s:Shared) (H:Hp) (E:XK),N.Nodup->iA k (A.deeper (envOfC q (ax st) s.heap.objs.size f cd))->
 nY (Jy P w K mg base N q (ax st) f cd A outer s H E) (aO st) t
theorem uq.okX {P:Program} {w:World} {K:Frag} {mg:Str->Option Value} {base:Heap} {x q:Str} {st:Stmt} {f:Addr} {fd:FuncData} {N ps:List Str} {k:Nat} {sp:Sp} (F:uq K x q st f fd) (S:dU N ps (ax st)) (hl:∀ vs H Q E,sp vs H Q E->vs.length=ps.length)
 (hb:∀ (cd:Value) (A:Around) (outer:List Env) (s:Shared) (H:Hp) (vs:List V) (Q:VK) (E:XK),cu k (A.deeper (envOfC q (ax st) s.heap.objs.size f cd))->sp vs H Q E->
  ∃ t,nY (gJ (ss P w) P w K mg base N q (ax st) f cd A outer s H E) (aO st) t/\t ({ nx:=λ _ H'=>Q V.non H',rt:=Q }:jm) (start N vs) H):fH P w K mg base (ss P w) (k+1) f fd ps sp:=by
 obtain ⟨dV,oc,kV,dc,pm,cd,ct,od,an,sl,rfl,lk,hc⟩:=F.ex;exact D7 lk hc S hl λ A outer s H vs Q E hr hs=>hb cd A outer s H vs Q E hr hs
theorem uq.okN {P:Program} {w:World} {K:Frag} {mg:Str->Option Value} {base:Heap} {x q:Str} {st:Stmt} {f:Addr} {fd:FuncData} {N ps:List Str} {k:Nat} {sp:Sp} (F:uq K x q st f fd) (S:dU N ps (ax st)) (hl:∀ vs H Q E,sp vs H Q E->vs.length=ps.length)
 (hb:∀ (cd:Value) (A:Around) (outer:List Env) (s:Shared) (H:Hp) (vs:List V) (Q:VK) (E:XK),iA k (A.deeper (envOfC q (ax st) s.heap.objs.size f cd))->sp vs H Q E->
  ∃ t,nY (Jy P w K mg base N q (ax st) f cd A outer s H E) (aO st) t/\t ({ nx:=λ _ H'=>Q V.non H',rt:=Q }:jm) (start N vs) H):oA P w K mg base vk (k+1) f fd ps sp:=by
 obtain ⟨dV,oc,kV,dc,pm,cd,ct,od,an,sl,rfl,lk,hc⟩:=F.ex;exact F4 lk hc S hl λ A outer s H vs Q E hr hs=>hb cd A outer s H vs Q E hr hs
section
variable {P:Program} {w:World} {K:Frag} {mg:Str->Option Value} {base:Heap} {cl:Str->Addr} {R:Addr->FuncData->Prop} {x q:Str} {st:Stmt} {N ps:List Str} {a n k:Nat} {t:TS} {sp:Sp}
theorem K8.ce (h:K8 R P w K mg base k ps sp):Ce R P w K mg base k ps sp:=by
 obtain ⟨f,fd,r,F⟩:=h;exact ⟨f,fd,r,F.all⟩
theorem xx {fb:DS->ai->SO} {g:List W->ai->SM W} (D:jU R K x q st) (hg:g=be a n fb) (h:∀ E:XK,∃ t,kK K cl E t fb/\Li P w K mg base N q st k E t)
 (hN:N.length=n) (ha:ps.length=a) (S:dU N ps (ax st)):xM R P w K mg base (k+1) ps (uH K cl g):=by
 subst hg ha;obtain ⟨f,fd,F,r⟩:=D;exact ⟨f,fd,r,F.okX S (λ vs H Q E h=>Bf (λ ds S r e=>jV e) h) λ cd A outer s H vs Q E hr hs=>by
  obtain ⟨t,de,pe⟩:=h E;exact ⟨t,pe f cd A outer s H S.nd hr hr.units hr.units1,Jg hN de hs⟩⟩
theorem Lh {fb:DS->ai->SO} {g:List W->ai->SM W} (D:jU R K x q st) (hg:g=be a n fb) (de:kK K cl E0 t fb) (pe:LY P w K mg base N q st k t)
 (hN:N.length=n) (ha:ps.length=a) (S:dU N ps (ax st)):K8 R P w K mg base (k+1) ps (ji K cl g):=by
 subst hg ha;obtain ⟨f,fd,F,r⟩:=D;exact ⟨f,fd,r,F.okN S (λ vs H Q E h=>vE (λ ds S r e=>jV e) h) λ cd A outer s H vs Q E hr hs=>⟨t,pe f cd A outer s H E S.nd hr,CY hN de hs⟩⟩
theorem Fu {g:List W->ai->SM W} (D:jU R K x q st) (h:∀ ds S,g ds S=none):xM R P w K mg base k ps (uH K cl g):=by
 obtain ⟨f,fd,_,r⟩:=D;exact ⟨f,fd,r,fH.noX h⟩
theorem wv {F:Nat->Sp} (h0:xM R P w K mg base (k+0) ps (F 0)) (hs:∀ n,xM R P w K mg base (k+n) ps (F n)->xM R P w K mg base (k+n+1) ps (F (n+1))):∀ n,xM R P w K mg base (k+n) ps (F n)
 | 0=>h0
 | n+1=>hs n (wv h0 hs n)
end
noncomputable def zZ (C:Addr) (m:Str) (sp:Sp) (ta:TE) (t:TA):TE:=λ σ H Q=>True/\qY C m sp [] E0 ta t σ H Q
noncomputable def oY (c m:Str) (f:List W->ai->SM W) (fo:DS->ai->SM W) (fa:DS->ai->SM (List W)):DS->ai->SM W:=ck c m f fo fa
theorem zC {K:Frag} {cl:Str->Addr} {E:XK} {c m:Str} {f:List W->ai->SM W} {to:TE} {t:TA} {fo:DS->ai->SM W} {fa:DS->ai->SM (List W)} (ho:SE K cl E to fo) (h:SA K cl E t fa):SE K cl E (zZ (cl c) m (ji K cl f) to t) (oY c m f fo fa):=λ ρ G σ H δ S r S' Q R e q qx=>⟨True.intro,vL ho h ρ G σ H δ S r S' Q R e q qx⟩
theorem IE {X:Cx} {k j:Nat} {f C:Addr} {fd:FuncData} {ps:List Str} {sp:Sp} {m:Str} {pos apos:Pos} {e o:Expr} {es:List Expr} {ta:TE} {t:TA} {pl:Sem Bool} (he:PE X o ta) (c:eJ X.K C) (hm:bw X.K C m f) (F:oA X.prog X.w X.K X.mg X.base vk k f fd ps sp) (hr:∃ A e,X.A=Around.mark A e/\cu j A) (hk:k<=j) (hb:aP X.K fd ps []) (ha:PA X (e::es) t)
 (hst:starEach (e::es) X.env=(false,eval e X.env)::starEach es X.env) (hpl:(backTo pos (starEach es X.env)).any (·.1)=false)
 (ht:eval (.Call (.Attribute o m apos) (e::es) [] pos) X.env=(do
  let ov <-eval o X.env
  standAt apos.atName
  let (f,first) <-holding [ov] (getMethod ov m pl)
  callWith pos f first (backTo pos (starEach (e::es) X.env)) (backToKw pos (keywordEach [] X.env)))):
 PE X (.Call (.Attribute o m apos) (e::es) [] pos) (zZ C m sp ta t):=by
 have hr':iA k X.A:=by
  obtain ⟨A,e,hA,r⟩:=hr;rw [hA];exact ⟨(r.n.mono hk).dp,(r.n.mono hk).un⟩
 exact λ pins s σ H Q I h=>zL he c hm F hr' hb ha hst hpl ht pins s σ H Q I h.2
theorem xq {A:Around} {e:Option Value} {j:Nat} (r:cu j A):∃ B v,A.mark e=Around.mark B v/\cu j B:=⟨A,e,rfl,r⟩
section
variable {K:Frag} {cl:Str->Addr} {E:XK}
end
end L2
namespace L2
open PySem PySem.Spec PyProof.Rows
open PySem.W (Frag)
theorem boot_max':bootBuiltins "max" = some (.builtin "max"):=by decide +kernel
theorem LL {X:Cx} (hc:X.calm=true):QB X "max" zg:=⟨_,vx hc,boot_max'⟩
end L2
namespace L2
open PySem PySem.Spec PyProof.Rows
open PySem.W (Frag)
theorem Et {X:Cx} {K:Frag} (h:X.K=K) {op:Operator} {rd:V->V->Hp->VK->Prop} {o value:Expr} {ta tv:TE} {f:Str} {tpos pos:Pos} (ha:PE X o ta) (hv:PE X value tv) (hop:Bt X op rd):PS X (.AugAssign (.Attribute o f tpos) op value pos) (rL K ta tv rd f):=h▸xI ha hv hop
theorem E4 {K:Frag} {ρ:List Addr}:pv K ρ yH fX:=A5
noncomputable def DQ (K:Frag) (a:Addr) (ws:List Str):Prop:=∀ G,gW K G a (ws.map V.str)
theorem Ec {K:Frag} {ρ:List Addr} {ta:TE} {fa:DS->Option W} {a:Addr} {ws:List Str} {d:W} (hs:DQ K a ws) (hd:d=.tuple (ws.map W.str)) (ha:DK K ρ ta fa):DT K ρ (mW (sX (Hg K false) ta (tC (.ref a)))) (aC rK fa (dC d)):=by
 subst hd;exact Fi hs ha
end L2
namespace L2
open PySem PySem.Spec PyProof.Rows
open PySem.W (Frag)
noncomputable def zo (A:Around):Prop:=∃ k,cu k A
theorem JC {A:Around} {k:Nat} (r:cu k A):zo A:=⟨k,r⟩
theorem Kg {X:Cx} {K:Frag} (h:X.K=K) (hr:zo X.A):QB X "repr" (qi K):=by
 obtain ⟨k,r⟩:=hr;exact Ep h r
theorem xT {X:Cx} {x:Str} {i:Int} {t:Tok} {pos:Pos} (hg:Gl X x) (hm:X.mg x=some (.int i t)) (hd:(x==("__debug__" : Str))=false):PE X (.Name x pos) (tC (.int i)):=vW hg hm ⟨_,rfl⟩ hd
section
variable {K:Frag} {cl:Str->Addr} {E:XK}
theorem pq {ρ:List Addr} {G H:Hp} {S:ai} {v:V} {x:W} {n:Nat} {ds:List W} (s:SR K ρ cl G H S) (dv:Dw K ρ G v x) (h:eY x S=some (n,ds)):∃ a vs,v=.ref a/\H a=some (.lst vs)/\aF K ρ G vs ds:=by
 obtain ⟨rfl,e6⟩:=cD h;obtain ⟨a,rfl,ea⟩:=cc dv;obtain ⟨ga,vs,k1,k2⟩:=s.addr e6 ea;exact ⟨a,vs,rfl,k1,k2⟩
noncomputable def Ap (fa fb:DS->ai->SM W):DS->ai->SM W:=λ δ S=>aq (fa δ S) λ x S1=>aq (fb δ S1) λ y S2=>(eY x S2).bind λ p=>(AY y).bind λ i=>some (.ok (.ref S2.length),S2++[.lst (kE p.2 (some i) none)])
theorem Gq {ta tb:TE} {fa fb:DS->ai->SM W} (ha:SE K cl E ta fa) (hb:SE K cl E tb fb):SE K cl E (KZ (vO K) ta (xW tb) rG) (Ap fa fb):=λ ρ G σ H δ S r' S' Q R e q qx=>
 ip (P:=λ v u H=>∃ i,u=.int i/\vO K v (some i) none H Q) ha hb R e (λ x y S2 e2 v u ρ2 G2 H2 g2 s2 dv du=>by
  obtain ⟨⟨n,ds⟩,e4,e3⟩:=oB e2
  obtain ⟨i,e5,e7⟩:=oB e3
  cases oV e5;cases dI du;cases e7;obtain ⟨a,vs,rfl,k1,k2⟩:=pq s2 dv e4;refine ⟨i,rfl,a,vs,rfl,eC.of k1,λ p H' n=>?_⟩;obtain ⟨s3,g3⟩:=s2.push (o:=.lst (kE ds (some i) none)) g2.s n λ ρ' hr=>⟨tU vs (some i) none,n.2.2,(k2.cut (some i) none).ext hr⟩
  exact q _ rfl _ _ _ H' (g2.trans g3) s3 (.ref (by rw [<-s2.len];simp))) qx
noncomputable def um (fa fb:DS->ai->SM W):DS->ai->SM W:=λ δ S=>aq (fa δ S) λ x S1=>aq (fb δ S1) λ y S2=>(eY x S2).bind λ p=>(eY y S2).bind λ q=>if p.2.length+q.2.length<=9000 then some (.ok (.ref S2.length),S2++[.lst (p.2++q.2)]) else none
theorem BB {ta tb:TE} {fa fb:DS->ai->SM W} (ha:SE K cl E ta fa) (hb:SE K cl E tb fb):SE K cl E (sX (yG K) ta tb) (um fa fb):=λ ρ G σ H δ S r' S' Q R e q qx=>
 ip ha hb R e (λ x y S2 e2 v u ρ2 G2 H2 g2 s2 dv du=>by
  obtain ⟨⟨n,ds⟩,e4,e3⟩:=oB e2
  obtain ⟨⟨m,es⟩,e5,e7⟩:=oB e3
  split at e7
  case isFalse=>cases e7
  rename_i hz;cases e7;obtain ⟨a,vs,rfl,k1,k2⟩:=pq s2 dv e4;obtain ⟨b,ws,rfl,l1,l2⟩:=pq s2 du e5;refine .inr (.inr (.inl ⟨a,b,vs,ws,rfl,rfl,eC.of k1,eC.of l1,by rw [k2.length,l2.length];exact OY hz (by decide),λ p H' n=>?_⟩));obtain ⟨s3,g3⟩:=s2.push (o:=.lst (ds++es)) g2.s n λ ρ' hr=>⟨vs++ws,n.2.2,(k2.app l2).ext hr⟩
  exact q _ rfl _ _ _ H' (g2.trans g3) s3 (.ref (by rw [<-s2.len];simp))) qx
end
section
variable {prog:Program} {w:World} {A:Around} {E:Value->Shared->Prop} {s:Shared}
end
section
variable {prog:Program} {w:World} {A:Around} {E:Value->Shared->Prop} {s:Shared} {z TI TO T i1 i2 l1 l2:Addr} {f:Bool} {k1 k2:Nat} {xs ys:Array Value} {x y:Value} {oT:Obj}
end
section
variable {prog:Program} {w:World} {A:Around} {E:Value->Shared->Prop} {s:Shared} {z TI TO i1 i2 l1 l2 d:Addr} {xs ys:Array Value}
end
section
variable {K:Frag} {cl:Str->Addr} {E:XK}
end
section
variable {K:Frag} {ρ:List Addr}
end
section
variable {K:Frag} {cl:Str->Addr} {E:XK}
end
section
variable {prog:Program} {w:World} {A:Around} {E:Value->Shared->Prop} {s:Shared}
theorem Em {d:Addr} {kvs:List (bn×Value)} {k:bn} {key v:Value} {Q:Unit->Shared->Prop} (hkey:(aK prog w).is k key=true) (hm:eh prog w s.heap d kvs) (hsz:kvs.length<=sizeLine)
 (hQ:∀ h',eh prog w h' d (stored kvs k v)->Heap.SameBut d s.heap h'->Q () { s with heap:=h' }):wpAny (model prog w) A (dictSetHashed d key ((aK prog w).hash k) v) Q E s:=by
 obtain ⟨o,es,ep,ho,hc,hd,he,hk,hp,hn⟩:=hm;have hes:es.size<=sizeLine:=by have e1:=hp.length;rw [P8] at e1;omega
 unfold dictSetHashed;try with_reducible refine Pt ?_
 refine OD (wpAny_dictFind_of hkey ho hd hk ?_);have ix:(es.findIdx? λ e=>(aK prog w).is k e.key)=kvs.findIdx? λ kv=>decide (kv.1=k):=by
  rw [<-hp.findIdx k];obtain ⟨l⟩:=es;simp
 cases hi:es.findIdx? λ e=>(aK prog w).is k e.key with
 | some i=>
  have an:=any_of_findIdx_some (ix▸hi);have hl:(es.toList.findIdx? λ e=>(aK prog w).is k e.key)=some i:=by rw [<-hi];obtain ⟨l⟩:=es;simp
  have hm:=hp.modify hn hl v;refine OD (QK (OD (wpAny_updateDict ho hd (wpAny_point (hQ _ ?_ (PU ..))))));refine ⟨_,_,ep,Pr _ ho (PV (Qb hd _)),hc.mapDict _,Qb hd _,by simpa using he,hk.modify _ _,?_,?_⟩
  . rw [stored,OG an];obtain ⟨l⟩:=es;simpa using hm
  . rw [stored,OG an,keys_map_store];exact hn
 | none=>
  have nm:k∉kvs.map (·.1):=not_mem_of_findIdx_none (ix▸hi);have na:¬ (kvs.any λ kv=>decide (kv.1=k))=true:=λ z=>by
   obtain ⟨kv,h1,h2⟩:=List.any_eq_true.mp z;exact nm (Pp.mpr ⟨kv,h1,PP h2⟩)
  have ha:=hp.append hkey ((aK prog w).hash k) v;refine OD (QK (wpAny_updateDictKeys (hz:=hes) ho hd (hQ _ ?_ (PU ..))));refine ⟨_,_,ep+1,Pr _ ho (PV (PM hd _)),hc.mapDictKeys _,PM hd _,by simp [he],hk.push hkey _,?_,?_⟩
  . rw [stored,OT na];obtain ⟨l⟩:=es;simpa using ha
  . rw [stored,OT na,O3,P2];exact ⟨hn,by simp,λ x hx y hy z=>nm (by simp at hy;rw [<-hy,<-z];exact hx)⟩
theorem Bx {nm:String} {d o:Addr} {kvs more:List (bn×Value)} {Q:Unit->Shared->Prop} (ne:d≠o) (ho:(o==sysModules)=false) (he:kvs≠[]) (hd:eh prog w s.heap d kvs) (hm:eh prog w s.heap o more) (hz:kvs.length+more.length<=sizeLine)
 (hQ:∀ h',eh prog w h' d (merged kvs more)->Heap.SameBut d s.heap h'->Q () { s with heap:=h' }):wpAny (model prog w) A (Builtin.Dict.mergeDict nm d o) Q E s:=by
 obtain ⟨od,ed,pd,god,_,dd,_,_,hpd,_⟩:=id hd;obtain ⟨oo,eo,po,goo,_,dO,_,ko,hpo,_⟩:=id hm;have hlen:more.length=eo.size:=by rw [<-hpo.length];simp
 unfold Builtin.Dict.mergeDict Builtin.Dict.showsAll;rw [OT (by simpa using ne),OT (by rw [ho];exact OP)];refine OD (OZ (OD (Qw goo dO ?_)));have go:wpAny (model prog w) A (do
  let epoch <-dictEpoch o;let l <-dictEntries o
  forIn [:l.size] PUnit.unit λ i (_:PUnit)=>(do
   let l' <-dictEntries o
   match l'[i]? with
    | some e=>do
     holding [e.key,e.val] (dictSetHashed d e.key e.hash e.val)
     let ep' <-dictEpoch o
     if (ep' != epoch)=true then do
         (unsupported (toString nm++toString ":source-changed-during-callback"):Sem PUnit)
         pure (ForInStep.yield PUnit.unit)
      else pure (ForInStep.yield PUnit.unit)
    | _=>do
     (unsupported "internal:dict-merge" : Sem PUnit)
     pure (ForInStep.yield PUnit.unit):Sem (ForInStep PUnit))
  pure ()) Q E s:=by
  refine OD (wpAny_dictEpoch goo dO (OD (Qw goo dO (OD ?_))));rw [Std.Legacy.Range.forIn_eq_forIn_range'];simp only [Std.Legacy.Range.size,Nat.sub_zero,Nat.add_sub_cancel,Nat.div_one];refine wpAny_forIn_list _ (λ mz _ t=>∃ h' i,t={ s with heap:=h' }/\mz=List.range' i (eo.size-i)/\i<=eo.size/\eh prog w h' d (merged kvs (more.take i))/\h'.get? o=some oo/\Heap.SameBut d s.heap h') _ ?_ ?_ _ _ ⟨s.heap,0,rfl,by simp,O8 _,by simpa [merged] using hd,goo,Heap.SameBut.refl _ _⟩
  . rintro x mz b t ⟨h',i,rfl,hr,hi,hd',goo',hs'⟩;have lt:i<eo.size:=by
     rcases Qk i eo.size with h | h
     . exact h
     . rw [Nat.sub_eq_zero_of_le h] at hr;simp at hr
    have e:eo.size-i=(eo.size-(i+1))+1:=by omega
    rw [e,List.range'_succ] at hr;injection hr with e1 e2
    subst e1;refine OD (Qw goo' dO ?_);rw [Array.getElem?_eq_getElem lt];obtain ⟨⟨k,v⟩,hkv⟩:∃ kv,more[x]?=some kv:=⟨more[x]'(by rw [hlen];exact lt),OJ _⟩
    obtain ⟨hkey,hval⟩:=hpo.get? (e:=eo[x]) (by simp [lt]) hkv;obtain ⟨k',hkey',hh⟩:=ko eo[x] (Array.getElem_mem lt);obtain rfl:k'=k:=(aK prog w).inj _ _ _ hkey' hkey;show wpAny _ _ (holding [eo[x].key,eo[x].val] (dictSetHashed d eo[x].key eo[x].hash eo[x].val) >>= _) _ _ _;rw [hh,hval];have hmx:(merged kvs (more.take x)).length<=sizeLine:=by
     have e1:=merged_length_le kvs (more.take x);have e2:(more.take x).length<=more.length:=by rw [Qr];omega
     omega
    refine OD (Pt (Em hkey hd' hmx λ h2 hd2 hs2=>?_));have goo2:h2.get? o=some oo:=(hs2.2 o (Qu ne)).trans goo';refine OD (wpAny_dictEpoch goo2 dO ?_);rw [OT (by simp)];exact OZ ⟨h2,x+1,rfl,e2,lt,by rw [merged_take_succ kvs more x (k',v) hkv];exact hd2,goo2,hs'.trans hs2⟩
  . rintro b t ⟨h',i,rfl,hr,hi,hd',_,hs'⟩;have hin:i=eo.size:=by
     rcases Qk i eo.size with h | h
     . have e:eo.size-i=(eo.size-(i+1))+1:=by omega
       rw [e,List.range'_succ] at hr;exact nomatch hr
     . exact Nat.le_antisymm hi h
    refine OZ (hQ h' ?_ hs');rw [hin,<-hlen,List.take_length] at hd';exact hd'
 dsimp only;split
 . refine OD (Qw god dd ?_);split
   . rename_i hemp;have h0:ed = #[]:=Array.isEmpty_iff.mp hemp;have:=hpd.length;rw [h0] at this;exact absurd (Qd.mp (by simpa using this.symm)) he
   . exact go
 . exact go
theorem Ak {a b:Addr} {kvs more:List (bn×Value)} {Q:Value->Shared->Prop} (ne:a≠b) (hb:(b==sysModules)=false) (he:kvs≠[]) (ha:eh prog w s.heap a kvs) (hm:eh prog w s.heap b more) (hz:kvs.length+more.length<=sizeLine)
 (hQ:∀ h',eh prog w h' a (merged kvs more)->Heap.SameBut a s.heap h'->Q .none { s with heap:=h' }):wpAny (model prog w) A (call (.builtin "dict.update") [.ref a,.ref b]) Q E s:=by
 have ta:=ha.of.typeIs;have tb:=hm.of.typeIs;refine wpAny_call_entry PySem.F.slot_dict_update ta PySem.F.entry_dict_update ?_ (PySem.F.args_dict_update_2 _ _);unfold Builtin.«dict.update»;refine OD ?_;unfold Builtin.Dict.selfAndRest;refine OD (wpAny_notOrdered_dict ta ?_);show wpAny _ _ (pure (a,[Value.ref b])) _ _ _;refine OZ ?_;show wpAny _ _ (Builtin.Dict.updateFrom "dict.update" a (.ref b) [] .none) _ _ _;unfold Builtin.Dict.updateFrom;refine OD (wpAny_typeOf tb ?_);rw [OT (by decide)];refine OD ?_;unfold Builtin.Dict.merge;refine OD ?_;unfold Builtin.Dict.readDirectly;refine OD (wpAny_isInstance tb isSubtype_dict_dict ?_);simp only [Bool.not_true,Pw,Qp];refine OD (wpAny_specialOf tb PySem.F.slot_dict_iter.lookup (OZ ?_));simp only [beq_self_eq_true,Pj];refine OD (OZ ?_);refine Bx ne hb he ha hm hz λ h' hd' hs'=>?_;show wpAny _ _ (Builtin.Dict.addKeywords a [] >>= _) _ _ _;exact OD (OZ (OZ ⟨_,rfl,hQ h' hd' hs'⟩))
end
noncomputable def DH (td ty:TE):TE:=λ σ H Q=>td σ H λ x H1=>∃ a,x=.ref a/\Mz H1 a/\ty σ H1 λ y H2=>∃ b kvs more,y=.ref b/\a≠b/\H2 a=some (.dK kvs)/\H2 b=some (.dK more)/\kvs≠[]/\kvs.length+more.length<=sizeLine/\Q .non (cE H2 a (.dK (fQ kvs more)))
theorem KD {X:Cx} {o e:Expr} {apos cpos:Pos} {td ty:TE} (ho:PE X o td) (he:PE X e ty) (m:M1 X o "update" apos e cpos):PE X (.Call (.Attribute o "update" apos) [e] [] cpos) (DH td ty):=by
 intro pins s σ H Q I h;refine wpAny_Call_method m.base m.few m.line PySem.F.plainAttrs_dict PySem.F.slot_dict_update PySem.F.type_dict_update (bY (ho pins s σ H _ I h) λ u s1 hq0=>?_);obtain ⟨x,H1,I1,rx,a,ex,d,q1⟩:=hq0;subst ex;obtain rfl:u=Value.ref a:=rx;obtain ⟨t1,t2,_⟩:=zm I1 d;refine ⟨t1,t2,?_⟩;rw [m.trees];refine Qh rfl (Qq (Qt (bY (he pins s1 σ H1 _ I1 q1) λ iv s2 hq0=>?_)));obtain ⟨y,H2,I2,ry,b,kvs,more,ey,ne,ha,hb,hne,hz,q2⟩:=hq0;refine Calls.spliced_nil ?_;subst ey;obtain rfl:iv=Value.ref b:=ry;obtain ⟨za,da,vs,ra,ea⟩:=(show cz X.prog X.w H2 s2.heap a (.dK kvs) from I2.hok a _ ha)
 obtain ⟨zb,db,ws,rb,eb⟩:=(show cz X.prog X.w H2 s2.heap b (.dK more) from I2.hok b _ hb)
 have l1:=PL ra;have l2:=PL rb;refine Ak ne db (λ z=>hne (by rw [z] at l1;exact Qd.mp l1)) ea eb (by omega) λ h' hd' hs'=>?_;have hx:∃ q,h'.get? a=some q:=let ⟨q,_,_,hq,_⟩:=hd';⟨q,hq⟩;have lm:=ii more kvs;exact ⟨.non,_,oe I2 (by rw [ha];exact True.intro) hs' hx (vC (by omega) da (rb.merge ra) hd'),rfl,q2⟩
section
variable {K:Frag} {cl:Str->Addr} {E:XK}
noncomputable def lg (fo fe:DS->ai->SM W):DS->ai->SM W:=λ δ S=>aq (fo δ S) λ x S1=>if (oK x S1).isSome=true then aq (fe δ S1) λ y S2=>(oK x S2).bind λ p=>(oK y S2).bind λ q=>if p.1≠q.1/\p.2≠[]/\p.2.length+q.2.length<=9000 then some (.ok .none,S2.set p.1 (.dK (dP p.2 q.2))) else none else none
theorem JU {ρ:List Addr} (h:ρ.Nodup) {i j:Nat} {a b:Addr} (hi:ρ[i]?=some a) (hj:ρ[j]?=some b) (ne:i≠j):a≠b:=λ z=>by
 subst z;exact ne ((List.getElem?_inj (oG hi).1 h).mp (hi.trans hj.symm))
theorem AV {to te:TE} {fo fe:DS->ai->SM W} (ho:SE K cl E to fo) (he:SE K cl E te fe):SE K cl E (DH to te) (lg fo fe):=λ ρ G σ H δ S r S' Q R e q qx=>
 cC ho R e (λ x S1 e1 v ρ1 G1 H1 g1 s1 dv=>by
  split at e1
  case isFalse=>cases e1
  rename_i hx1;obtain ⟨⟨n,kvs0⟩,hx0⟩:=P6.mp hx1;obtain ⟨rfl,h0⟩:=i9 hx0;obtain ⟨a,rfl,ea⟩:=cc dv;obtain ⟨_,ws0,k0,_⟩:=s1.addr h0 ea;refine ⟨a,rfl,.inl ⟨ws0,.inl k0⟩,?_⟩;refine cC he (R.grow g1 s1) e1 (λ y S2 e2 u ρ2 G2 H2 g2 s2 du=>?_) λ c hc ρ2 G2 H2 g2 s2=>qx c hc ρ2 G2 H2 (g1.trans g2) s2;obtain ⟨⟨n',kvs⟩,e3,e4⟩:=oB e2
  obtain ⟨⟨m,more⟩,e5,e6⟩:=oB e4
  split at e6
  case isFalse=>cases e6
  rename_i hc;obtain ⟨c1,c2,c3⟩:=hc;cases e6;obtain ⟨ez,h1⟩:=i9 e3;cases ez;obtain ⟨rfl,h2⟩:=i9 e5;obtain ⟨b,rfl,eb⟩:=cc du;have ea2:=lz g2.r ea;obtain ⟨_,ws,k1,k2⟩:=s2.addr h1 ea2;obtain ⟨_,us,l1,l2⟩:=s2.addr h2 eb;have g12:=g1.trans g2;obtain ⟨s4,g4⟩:=s2.put (x:=.dK (fQ ws us)) (o':=.dK (dP kvs more)) g12.s h1 ea2 (λ b z=>by cases z) ⟨_,aG,gP.merge l2 k2⟩;refine ⟨b,ws,us,rfl,JU s2.nd ea2 eb c1,k1,l1,λ z=>c2 ?_,by rw [<-k2.length,<-l2.length];exact OY c3 (by decide),q .none rfl .non ρ2 G2 _ (g12.trans g4) s4 .non⟩;have:=k2.length;rw [z] at this;exact Qd.mp this) qx
noncomputable def nh:List (Str×(DS->ai->SM W))->DS->ai->SM (List (bn×W))
 | [],_,S=>some (.ok [],S)
 | (k,f)::r,δ,S=>aq (f δ S) λ d S1=>aq (nh r δ S1) λ l S2=>some (.ok ((.inr k,d)::l),S2)
noncomputable def fI (kfs:List (Str×(DS->ai->SM W))):DS->ai->SM W:=λ δ S=>aq (nh kfs δ S) λ kvs S1=>if kvs.length<=15 then some (.ok (.ref S1.length),S1++[.dK (dP [] kvs)]) else none
inductive CK (K:Frag) (cl:Str->Addr) (E:XK):List (TE×TE)->List (Str×(DS->ai->SM W))->Prop
 | nil:CK K cl E [] []
 | cons {k:Str} {t:TE} {f:DS->ai->SM W} {trs:List (TE×TE)} {kfs:List (Str×(DS->ai->SM W))}:SE K cl E t f->CK K cl E trs kfs->CK K cl E ((tC (.str k),t)::trs) ((k,f)::kfs)
theorem wz {trs:List (TE×TE)} {kfs:List (Str×(DS->ai->SM W))} (h:CK K cl E trs kfs):∀ {ρ:List Addr} {G:Hp} {σ:St} {H:Hp} {δ:DS} {S:ai} {r:Rs (List (bn×W))} {S':ai} {Q:List (V×V)->Hp->Prop},RS K cl ρ G H δ σ S->nh kfs δ S=some (r,S')->
 (∀ kvs,r=.ok kvs->∀ ms ρ' G' H',GS ρ G H ρ' G' H'->SR K ρ' cl G' H' S'->gP K ρ' G' kvs ms->Q (ms.map λ kv=>(kV kv.1,kv.2)) H')->(∀ c,r=.xc c->∀ ρ' G' H',GS ρ G H ρ' G' H'->SR K ρ' cl G' H' S'->E (.ref (cl c)) none H')->oX trs σ H Q:=by
 induction h with
 | nil=>
  intro ρ G σ H δ S r S' Q R e q qx;cases e;exact q [] rfl [] ρ G H (.refl R.rl.sub) R.st .nil
 | @cons k t f trs kfs h1 _ ih=>
  intro ρ G σ H δ S r S' Q R e q qx;refine cC h1 R e (λ d S1 e1 v ρ1 G1 H1 g1 s1 dv=>?_) qx;rcases aL e1 with ⟨c,em,rfl⟩ | ⟨l,S2,em,e2⟩
  . exact ih (R.grow g1 s1) em (λ _ hz=>by cases hz) λ c' hc ρ2 G2 H2 g2 s2=>by cases hc;exact qx c rfl ρ2 G2 H2 (g1.trans g2) s2
  . cases e2;refine ih (R.grow g1 s1) em (λ kvs hz ms ρ2 G2 H2 g2 s2 kv=>?_) λ c' hc=>by cases hc
    cases hz;exact q _ rfl ((.inr k,v)::ms) ρ2 G2 H2 (g1.trans g2) s2 (.cons ((dv.ext g2.r).same g2.g) kv)
theorem SR.adopt {ρ:List Addr} {G H:Hp} {S:ai} {p:Addr} {ms:List (bn×V)} {kvs:List (bn×W)} (s:SR K ρ cl G H S) (hp:p∉ρ) (gp:G p=none) (hH:H p=some (.dK [])) (kv:gP K ρ G kvs ms):SR K (ρ++[p]) cl G (cE H p (.dK ms)) (S++[.dK kvs]):=by
 have pre:ρ <+: ρ++[p]:=List.prefix_append _ _;refine ⟨by simp [s.len],P2.mpr ⟨s.nd,by simp,λ a ha b hb z=>hp (by rw [Px.mp hb] at z;exact z▸ha)⟩,λ n o e=>?_⟩;by_cases hn:n<S.length
 . rw [OR hn] at e;obtain ⟨a,h1,h2,h3⟩:=s.ob n o e;have ne:a≠p:=λ z=>hp (z▸Pb h1);refine ⟨a,wb pre n a h1,h2,h3.move pre (.refl _) (aM ne) λ dx e1 e2=>⟨?_,e1⟩⟩;have nd:dx≠p:=λ z=>by rw [z,hH] at e2;cases e2
   rw [aM nd];exact e2
 . have hn':n=S.length:=by
    have:=(oG e).1;simp at this;omega
   subst hn';rw [O6 (OB _)] at e;simp at e;subst e;refine ⟨p,?_,gp,ms,aG,kv.ext pre (.refl _)⟩;rw [O6 (by rw [s.len];exact OB _)];simp [s.len]
theorem Af {trs:List (TE×TE)} {kfs:List (Str×(DS->ai->SM W))} (h:CK K cl E trs kfs):SE K cl E (A2 trs) (fI kfs):=λ ρ G σ H δ S r S' Q R e q qx=>by
 intro p hp;have n0:Nw H (cE H p (.dK [])) p (.dK []):=.of hp;have g0:Gr G H G (cE H p (.dK [])):=.nwO R.rl.sub n0;have r0:RS K cl ρ G (cE H p (.dK [])) δ σ S:=R.grow (.of g0) (R.st.grow g0);have pr:p∉ρ:=λ z=>by
  obtain ⟨n,hn⟩:=Qo.mp z;have hl:=(oG hn).1;rw [R.st.len] at hl;obtain ⟨_,ob⟩:=R.st.addr (OJ hl) hn;obtain ⟨x,hx,_⟩:=ob.some;rw [hp] at hx;cases hx
 have all:∀ {ρ2:List Addr} {G2 H2:Hp},GS ρ G (cE H p (.dK [])) ρ2 G2 H2->H2 p=some (.dK [])/\G2 p=none/\p∉ρ2:=λ {ρ2 G2 H2} g2=>⟨g2.h _ _ pr aG,g2.n p (.of aG λ _ z=>by cases z) (dX R.rl.sub hp),λ z=>by
  have:=g2.f p z pr;rw [aG] at this;cases this⟩
 rcases aL e with ⟨c,em,rfl⟩ | ⟨kvs,S1,em,e2⟩
 . exact wz h r0 em (λ _ hz=>by cases hz) λ c' hc ρ2 G2 H2 g2 s2=>by
    cases hc;exact qx c rfl ρ2 G2 H2 ((GS.of g0).trans g2) s2
 . split at e2
   case isFalse=>cases e2
   rename_i h15;cases e2;refine wz h r0 em (λ l hz ms ρ2 G2 H2 g2 s2 kv=>?_) λ c' hc=>by cases hc
   cases hz;obtain ⟨a1,a2,a3⟩:=all g2;refine ⟨a1,ms,rfl,by rw [<-kv.length];exact h15,?_⟩;have s3:=s2.adopt (ms:=fQ [] ms) (kvs:=dP [] kvs) a3 a2 a1 (gP.merge kv .nil);have g02:=(GS.of g0).trans g2;refine q _ rfl _ (ρ2++[p]) G2 _ ⟨g02.r.trans (List.prefix_append _ _),g02.g,λ b o eb=>?_,λ b o hb eb=>?_,λ b hb=>?_,g02.n,λ a h1 h2=>?_,λ b hb=>?_⟩ s3 (.ref (by rw [O6 (by rw [s2.len];exact OB _)];simp [s2.len]))
   . have ne:b≠p:=λ z=>by rw [z,a2] at eb;cases eb
     rw [aM ne];exact g02.s b o eb
   . have ne:b≠p:=λ z=>by rw [z,hp] at eb;cases eb
     rw [aM ne];exact g02.h b o hb eb
   . by_cases z:b=p
     . rw [z,aG];exact nofun
     . rw [aM z];exact g02.k b hb
   . rcases Pe.mp h1 with h1 | h1
     . exact g02.f a h1 h2
     . rw [Px.mp h1];exact hp
   . by_cases z:b=p
     . subst z;exact .of aG λ _ z=>by cases z
     . have:=g02.t b hb;exact ⟨by rw [aM z];exact this.1,λ xs=>by rw [aM z];exact this.2 xs⟩
end
noncomputable def x5 (l:List (Int×Int)):List (bn×V):=l.map λ p=>(.inl p.1,.int p.2)
theorem wt {l:List (Int×Int)}:∀ {vs:List (bn×Value)},KV (x5 l) vs->∀ (i:Nat) (k:bn) (v:Value),vs[i]?=some (k,v)->∃ (p:Int×Int) (t:Tok),l[i]?=some p/\k=Sum.inl p.1/\v=Value.int p.2 t:=by
 induction l with
 | nil=>intro vs r i k v h;cases r;cases h
 | cons p l ih=>
  intro vs r i k v h;cases r with
  | @cons _ q _ qs h1 h2=>
   cases i with
   | zero=>
    cases h;obtain ⟨e1,t,e2⟩:=h1;exact ⟨p,t,rfl,e1.symm,e2⟩
   | succ i=>
    obtain ⟨p',t,a,b,c⟩:=ih h2 i k v h;exact ⟨p',t,a,b,c⟩
theorem D9 {P:Program} {w:World} {h:Heap} {a:Addr} {l:List (Int×Int)} {vs:List (bn×Value)} (r:KV (x5 l) vs) (x:eh P w h a vs) (prog:Program) (w':World):h.DictOf (aK prog w') a vs:=by
 obtain ⟨o,es,ep,h1,h2,h3,_,h5,h6,h7⟩:=x;have pr:∀ {es:List DictEntry} {vs:List (bn×Value)},Pairs (aK P w) es vs->Pairs (aK prog w') es vs:=λ {es vs} z=>by
  induction z with
  | nil=>exact .nil
  | cons a b _ ih=>exact .cons a b ih
 refine ⟨o,es,ep,h1,h2,h3,λ e he=>?_,pr h6,h7⟩;obtain ⟨k,k1,k2⟩:=h5 e he;obtain ⟨i,hi⟩:=Qo.mp (P1.mpr he);have hl:i<vs.length:=by
  have:=(oG hi).1;rw [<-h6.length];exact this
 obtain ⟨k',v⟩:bn×Value:=vs[i];have hv:vs[i]?=some vs[i]:=OJ hl;obtain ⟨q1,q2⟩:=h6.get? (e:=e) (k:=vs[i].1) (v:=vs[i].2) hi hv;obtain ⟨p,t,_,e2,_⟩:=wt r i vs[i].1 vs[i].2 hv;have ek:k=vs[i].1:=(aK P w).inj _ _ _ k1 q1;refine ⟨k,k1,?_⟩;rw [k2,ek,e2];rfl
theorem Gc {A:Around} {s:Shared} {l:List (Int×Int)} {kb:List (bn×Value)} (nb:(kb.map (·.1)).Nodup) (rb:KV (x5 l) kb):∀ {ka:List (bn×Value)} {l':List (Int×Int)} (i:Nat),KV (x5 l') ka->l.drop i=l'->PySem.W.KeqHits A s kb ka true:=by
 intro ka;induction ka with
 | nil=>exact λ _ _ _=>.nil
 | cons q ka ih=>
  intro l' i r e;cases l' with
  | nil=>cases r
  | cons p l'=>
   cases r with
   | cons h1 h2=>
    obtain ⟨k,v⟩:=q;obtain ⟨e1,t,e2⟩:=h1;have hp:l[i]?=some p:=by
     have:=OI (λ z=>z[0]?) e;simpa using this
    have hl:i<kb.length:=by
     have:=(oG hp).1;rw [<-PL rb];simpa [x5] using this
    have hv:kb[i]?=some kb[i]:=OJ hl;obtain ⟨p',t',f1,f2,f3⟩:=wt rb i kb[i].1 kb[i].2 hv;rw [hp] at f1;cases f1;have ek:k=kb[i].1:=by rw [f2];exact e1.symm
    have va:valueAt kb k=some kb[i].2:=valueAt_of_get nb (i:=i) (by rw [ek];exact hv);have ne:=ih (i+1) h2 (by rw [<-List.tail_drop,e];rfl);have eq:SeqAt.EqAt A s v kb[i].2 true:=by
     have e2':v=.int p.2 t:=e2;rw [e2',f3];have:=SeqAt.EqAt.int_int (A:=A) (s:=s) p.2 t p.2 t';simpa using this
    exact .hit va eq ne
theorem Fw {P:Program} {w:World} {A:Around} {s:Shared} {H:Hp} {a b:Addr} {l:List (Int×Int)} (ok:iY P w H s.heap) (ha:H a=some (.dK (x5 l))) (hb:H b=some (.dK (x5 l))) (hu:A.units<cLine):SeqAt.EqAt A s (.ref a) (.ref b) true:=by
 by_cases hab:a=b
 . subst hab;exact SeqAt.EqAt.same _
 . refine SeqAt.EqAt.of_refs hab λ prog w' E Q h=>?_;obtain ⟨_,da,va,ra,ea⟩:=(show cz P w H s.heap a (.dK (x5 l)) from ok a _ ha)
   obtain ⟨_,db,vb,rb,eb⟩:=(show cz P w H s.heap b (.dK (x5 l)) from ok b _ hb)
   have nb:(vb.map (·.1)).Nodup:=let ⟨_,_,_,_,_,_,_,_,_,n⟩:=eb;n;have l1:=PL ra;have l2:=PL rb;exact PySem.W.keq_eq (knd:=aK prog w') da db (D9 ra ea prog w') (D9 rb eb prog w') hu (λ _=>Gc nb rb 0 ra rfl) (by rw [show (va.length==vb.length&&true)=true by rw [<-l1,<-l2];simp];exact h)
noncomputable def Im (K:Frag):R2:=λ x y H Q=>∃ (a b:Addr) (as bs:List Addr) (ls:List (List (Int×Int))),x=.ref a/\y=.ref b/\eC K H a (as.map V.ref)/\eC K H b (bs.map V.ref)/\as.length=ls.length/\bs.length=ls.length/\(∀ (i:Nat) c l,as[i]?=some c->ls[i]?=some l->H c=some (.dK (x5 l)))/\(∀ (i:Nat) c l,bs[i]?=some c->ls[i]?=some l->H c=some (.dK (x5 l)))/\Q (.bl true) H
theorem Mo {X:Cx} {K:Frag} (h:X.K=K) (hu:X.A.units+64<cLine):ir X (compareOp .Eq) (Im K):=by
 subst h;intro pins s σ H x y v u Q I rx ry h;obtain ⟨a,b,as,bs,ls,rfl,rfl,ha,hb,la,lb,da,db,q⟩:=h;cases rx;cases ry;obtain ⟨its,rv,pl,_⟩:=I.list ha;obtain ⟨jts,rw',pm,_⟩:=I.list hb;have e1:=mD rv;have e2:=mD rw';subst e1 e2;have go:SeqAt.RcAt X.A s (.ref a) (.ref b) true:=by
  have:=SeqAt.RcAt.lists (A:=X.A) (e:=λ _=>true) pl.isList pm.isList (by simp [la,lb]) (by omega) λ j h1 h2=>by
   have h1':j<as.length:=by simpa using h1
   have h2':j<bs.length:=by simpa using h2
   have h3':j<ls.length:=by omega
   have:=Fw (A:=X.A.in1) I.hok (da j _ _ (OJ h1') (OJ h3')) (db j _ _ (OJ h2') (OJ h3')) (by show X.A.units+1<cLine;omega);simpa using this
  have e:((List.range (as.map Value.ref).toArray.size).all λ _=>true)=true:=by simp
  rw [e] at this;exact this
 exact go X.prog X.w _ _ ⟨.bl _,H,I,rfl,q⟩
section
variable {K:Frag} {cl:Str->Addr} {E:XK}
noncomputable def Ij:List (bn×W)->Option (List (Int×Int))
 | []=>some []
 | (.inl i,.int v)::r=>(Ij r).map ((i,v)::·)
 | _=>none
noncomputable def Jk (S:ai):List W->Option (List (List (Int×Int)))
 | []=>some []
 | x::r=>(oK x S).bind λ p=>(Ij p.2).bind λ l=>(Jk S r).map (l::·)
noncomputable def Br (x y:W) (S:ai):Option Bool:=(eY x S).bind λ p=>(eY y S).bind λ q=>(Jk S p.2).bind λ l=>(Jk S q.2).bind λ m=>if l=m then some true else none
noncomputable def xn (fa fb:DS->ai->SM W):DS->ai->SM Bool:=λ δ S=>aq (fa δ S) λ x S1=>aq (fb δ S1) λ y S2=>iL (Br x y S2) S2
theorem GL {ρ:List Addr} {G:Hp}:∀ {kvs:List (bn×W)} {ws:List (bn×V)} {l:List (Int×Int)},gP K ρ G kvs ws->Ij kvs=some l->ws=x5 l:=by
 intro kvs ws l h;induction h generalizing l with
 | nil=>intro e;cases e;rfl
 | @cons k d v kvs ws a _ ih=>
  intro e;cases k with
  | inr x=>cases e
  | inl i=>
   cases a with
   | int j=>
    obtain ⟨r,e1,rfl⟩:=oM e
    rw [ih e1];rfl
   | _=>cases e
theorem yn {ρ:List Addr} {G H:Hp} {S:ai} (s:SR K ρ cl G H S):∀ {ds:List W} {vs:List V} {ls:List (List (Int×Int))},aF K ρ G vs ds->Jk S ds=some ls->∃ as:List Addr,vs=as.map V.ref/\as.length=ls.length/\∀ (i:Nat) c l,as[i]?=some c->ls[i]?=some l->H c=some (.dK (x5 l)):=by
 intro ds;induction ds with
 | nil=>
  intro vs ls h e;cases e;cases h;exact ⟨[],rfl,rfl,λ i c l h=>by cases h⟩
 | cons d ds ih=>
  intro vs ls h e;obtain ⟨⟨n,kvs⟩,e1,e2⟩:=oB e
  obtain ⟨l,e3,e4⟩:=oB e2
  obtain ⟨ls',e5,rfl⟩:=oM e4
  obtain ⟨rfl,e6⟩:=i9 e1;cases h with
  | cons hd ht=>
   obtain ⟨a,rfl,ea⟩:=cc hd;obtain ⟨_,ws,k1,k2⟩:=s.addr e6 ea;obtain ⟨as,rfl,h2,h3⟩:=ih ht e5;have ew:=GL k2 e3;subst ew;refine ⟨a::as,rfl,by simp [h2],λ i c m hc hm=>?_⟩;cases i with
   | zero=>cases hc;cases hm;exact k1
   | succ i=>exact h3 i c m hc hm
theorem E2 {ta tb:TE} {fa fb:DS->ai->SM W} (ha:SE K cl E ta fa) (hb:SE K cl E tb fb):SE K cl E (sX (Im K) ta tb) (sB (xn fa fb)):=λ ρ G σ H δ S r' S' Q R e q qx=>by
 have e':(aq (fa δ S) λ x S1=>aq (fb δ S1) λ y S2=>aq (iL (Br x y S2) S2) λ b S3=>some (.ok (.bool b),S3))=some (r',S'):=by
  rw [<-e];show _=aq (xn fa fb δ S) _;simp only [xn,aq];cases fa δ S with
  | none=>rfl
  | some p=>
   obtain ⟨r1,S1⟩:=p;cases r1 with
   | xc c=>rfl
   | ok x=>
    simp only;cases fb δ S1 with
    | none=>rfl
    | some p=>
     obtain ⟨r2,S2⟩:=p;cases r2 <;> rfl
 refine ip ha hb R e' (λ x y S2 e2 v u ρ2 G2 H2 g2 s2 dv du=>?_) qx;rcases aL e2 with ⟨c,em,_⟩ | ⟨b,S3,em,e3⟩
 . obtain ⟨_,_,z,_⟩:=cj em;cases z
 . cases e3;obtain ⟨b',e4,eb,rfl⟩:=cj em;cases eb;obtain ⟨⟨n,ds⟩,e5,e6⟩:=oB e4
   obtain ⟨⟨m,es⟩,e7,e8⟩:=oB e6
   obtain ⟨l,e9,e10⟩:=oB e8
   obtain ⟨l',e11,e12⟩:=oB e10
   split at e12
   case isFalse=>cases e12
   rename_i hl;subst hl;cases e12;obtain ⟨a,vs,rfl,k1,k2⟩:=pq s2 dv e5;obtain ⟨b,us,rfl,m1,m2⟩:=pq s2 du e7;obtain ⟨as,rfl,c1,c2⟩:=yn s2 k2 e9;obtain ⟨bs,rfl,d1,d2⟩:=yn s2 m2 e11;exact ⟨a,b,as,bs,l,rfl,rfl,eC.of k1,eC.of m1,c1,d1,c2,d2,q _ rfl _ ρ2 G2 H2 g2 s2 (.bl _)⟩
end
theorem boot_min':bootBuiltins "min" = some (.builtin "min"):=by decide +kernel
theorem boot_sum':bootBuiltins "sum" = some (.builtin "sum"):=by decide +kernel
theorem Lb {X:Cx} {K:Frag} (h:X.K=K) (hc:X.calm=true):QB X "sum" (wG K):=⟨_,xo h hc,boot_sum'⟩
theorem LI {X:Cx} {K:Frag} (h:X.K=K) (hc:X.calm=true):QB X "max" (vD K):=⟨_,wW h hc,boot_max'⟩
theorem M8 {X:Cx} {K:Frag} (h:X.K=K) (hc:X.calm=true):QB X "min" (wc K):=⟨_,xl h hc,boot_min'⟩
end L2
set_option Elab.async false
set_option linter.all false
set_option maxRecDepth 100000
namespace My
open PySem PySem.Spec PyProof.Rows L2
open PySem.W (Frag)
local macro_rules
 | `($x:num[$i:num]!)=>`(aB bC (aA $x) (dC (.int $i)))
 | `(!$x:num)=>`(dC (.int $x))
 | `(!$x:str)=>`(dC (.str $x))
 | `(#[$a,*])=>do
  let mut r<-`(aj)
  for x in a.getElems.reverse do r<-`(ac $x $r)
  return r
local macro_rules | `(tactic| simp! [$a,*] $[$l]?)=>`(tactic| simp only [Nat.reduceAdd,Nat.reduceSub,reduceIte,Nat.reduceEqDiff,List.replicate,$a,*] $[$l]?)
noncomputable def gU (i:Nat):Stmt:=PySem.Challenge.pw_widelanes_k45_alone_and_letters.main.body.getD i (.Pass ⟨0,0,0,0⟩)
noncomputable abbrev qX:Stmt:=gU 8
noncomputable abbrev mV:Stmt:=gU 10
noncomputable abbrev tJ:Stmt:=gU 9
noncomputable abbrev uk:Stmt:=gU 12
noncomputable abbrev cZ:Stmt:=bA (gU 1) 0
noncomputable abbrev dH:Stmt:=bA (gU 1) 1
noncomputable abbrev eE:Stmt:=bA (gU 1) 2
noncomputable abbrev fw:Stmt:=bA (gU 1) 3
noncomputable abbrev cM:Stmt:=bA (gU 4) 0
noncomputable abbrev cy:Stmt:=bA (gU 4) 1
noncomputable abbrev dq:Stmt:=bA (gU 4) 2
noncomputable abbrev cP:Stmt:=bA (gU 14) 0
noncomputable abbrev bV:Stmt:=bA (gU 14) 1
noncomputable abbrev cK:Stmt:=bA (gU 14) 2
noncomputable abbrev cx:Stmt:=bA (gU 14) 3
noncomputable abbrev dj:Stmt:=bA (gU 14) 4
noncomputable abbrev dJ:Stmt:=bA (gU 14) 5
noncomputable abbrev di:Stmt:=bA (gU 19) 0
noncomputable abbrev fh:Stmt:=bA (gU 19) 16
noncomputable abbrev gK:Stmt:=bA (gU 19) 15
noncomputable abbrev dm:Stmt:=bA (gU 19) 14
noncomputable abbrev gk:Stmt:=bA (gU 19) 12
noncomputable abbrev eI:Stmt:=bA (gU 19) 7
noncomputable abbrev dR:Stmt:=bA (gU 19) 9
noncomputable abbrev iF:Stmt:=bA (gU 19) 4
noncomputable abbrev ge:Stmt:=bA (gU 19) 3
noncomputable abbrev dG:Stmt:=bA (gU 19) 2
noncomputable abbrev iy:Stmt:=bA (gU 19) 1
noncomputable abbrev gh:Stmt:=bA (gU 19) 13
noncomputable abbrev wF:Stmt:=gU 20
noncomputable abbrev nv:Stmt:=gU 22
noncomputable abbrev lP:Stmt:=gU 23
noncomputable abbrev iw:Stmt:=gU 24
noncomputable abbrev gX:Stmt:=gU 25
noncomputable abbrev lu:Stmt:=gU 26
noncomputable abbrev jE:Stmt:=gU 27
noncomputable abbrev lN:Stmt:=gU 28
noncomputable abbrev lw:Stmt:=gU 29
noncomputable abbrev nq:Stmt:=gU 30
noncomputable abbrev lJ:Stmt:=gU 31
noncomputable abbrev j8:Stmt:=gU 32
noncomputable abbrev ju:Stmt:=gU 33
noncomputable abbrev ni:Stmt:=gU 34
noncomputable abbrev kY:Stmt:=gU 35
noncomputable abbrev tN:Stmt:=gU 36
noncomputable def bM (c_Walk c_Frame c_Story c_Goer c_Nought c_Outside:Addr):Str->Addr:=λ s=>if s = "Walk" then c_Walk else if s = "Frame" then c_Frame else if s = "Story" then c_Story else if s = "Goer" then c_Goer else if s = "Nought" then c_Nought else if s = "Outside" then c_Outside else 0
theorem gj (c_Walk c_Frame c_Story c_Goer c_Nought c_Outside:Addr):bM c_Walk c_Frame c_Story c_Goer c_Nought c_Outside "Walk" = c_Walk:=by
 unfold bM;rw [OG rfl]
theorem eg (c_Walk c_Frame c_Story c_Goer c_Nought c_Outside:Addr):bM c_Walk c_Frame c_Story c_Goer c_Nought c_Outside "Frame" = c_Frame:=by
 unfold bM;rw [OT (by decide +kernel),OG rfl]
theorem bK (c_Walk c_Frame c_Story c_Goer c_Nought c_Outside:Addr):bM c_Walk c_Frame c_Story c_Goer c_Nought c_Outside "Story" = c_Story:=by
 unfold bM;rw [OT (by decide +kernel),OT (by decide +kernel),OG rfl]
theorem bu (c_Walk c_Frame c_Story c_Goer c_Nought c_Outside:Addr):bM c_Walk c_Frame c_Story c_Goer c_Nought c_Outside "Goer" = c_Goer:=by
 unfold bM;rw [OT (by decide +kernel),OT (by decide +kernel),OT (by decide +kernel),OG rfl]
theorem kt (c_Walk c_Frame c_Story c_Goer c_Nought c_Outside:Addr):bM c_Walk c_Frame c_Story c_Goer c_Nought c_Outside "Nought" = c_Nought:=by
 unfold bM;rw [OT (by decide +kernel),OT (by decide +kernel),OT (by decide +kernel),OT (by decide +kernel),OG rfl]
theorem jG (c_Walk c_Frame c_Story c_Goer c_Nought c_Outside:Addr):bM c_Walk c_Frame c_Story c_Goer c_Nought c_Outside "Outside" = c_Outside:=by
 unfold bM;rw [OT (by decide +kernel),OT (by decide +kernel),OT (by decide +kernel),OT (by decide +kernel),OT (by decide +kernel),OG rfl]
noncomputable def bR:List W->Option W:=fz 1 1
 (aW (aB bI (aB b6 (aB gSub' (aA 0) (dC (.int (-2147483648)))) (dC (.int 4294967296))) (dC (.int (-2147483648)))))
noncomputable def j0:List W->Option W:=fz 3 3
 (bF (cB (aC bJ (aA 0) !"+")
  (aW (aB bI (aA 1) (ae 2)))
  aw)
 (bF (cB (aC bJ (aA 0) !"-")
  (aW (aB gSub' (aA 1) (ae 2)))
  aw)
 (bF (cB (aC bJ (aA 0) !"*")
  (aW (aB cw (aA 1) (ae 2)))
  aw)
 (bF (cB (aC bJ (aA 0) !"div")
  (aW (aB gD (aA 1) (ae 2)))
  aw)
 (bF (cB (aC bJ (aA 0) !"rem")
  (aW (aB gSub' (aA 1) (aB cw (aA 2) (aB gD (aA 1) (ae 2)))))
  aw)
 (bF (cB (aC bJ (aA 0) !"<")
  (aW (GW (aC sO (aA 1) (aA 2)) (!1) !0))
  aw)
 (aW (GW (aC bJ (aA 1) (aA 2)) (!1) !0))))))))
noncomputable def lp:List W->Option W:=fz 3 3
 (bF (cB (lX (aC rK (aA 0) (aR #[!"div",!"rem"])) (aC bJ (aA 2) !0))
  (aW (dC .none))
  aw)
 (aW (aZ bR #[aZ j0 #[ae 0,ae 1,ae 2]])))
noncomputable def lq:List W->Option W:=fz 3 4
 (bF (bz (cn (iG [none] (bX (aA 1)) (ao 0) (aC eW (aA 0) (dC .none)) (ae 0))) (ao 3))
 (bF (cB (aC bJ (aA 0) !"sum")
  (aW (aZ bR #[kj xD (aA 3)]))
  aw)
 (bF (cB (aC bJ (aA 0) !"most")
  (aW (kj yA (aA 3)))
  aw)
 (bF (cB (aC bJ (aA 0) !"least")
  (aW (kj yo (aA 3)))
  aw)
 (aW (aZ bR #[kj xD (cn (iG [none] (bX (cn (pj (aA 1) ja (hW (ae 2))))) (ao 0) (aC eW (aA 0) (dC .none)) (ae 0)))]))))))
noncomputable def dt:List W->ai->SM W:=be 2 2
 (ak (bQ "Walk" "row" (aa (ae 0)) (aa (ae 1)))
 (bQ "Walk" "at" (aa (ae 0)) (aa !0)))
noncomputable def fu:List W->ai->SM W:=be 1 1
 (bO (sB (kd false (ar "Walk" "at" (aa (ae 0))) (gR (ar "Walk" "row" (aa (ae 0)))))))
noncomputable def ie:List W->ai->SM W:=be 1 1
 (bO (sIx (ar "Walk" "row" (aa (ae 0))) (ar "Walk" "at" (aa (ae 0)))))
noncomputable def iT:List W->ai->SM W:=be 1 2
 (ak (bU (sIx (ar "Walk" "row" (aa (ae 0))) (ar "Walk" "at" (aa (ae 0)))) (ao 1))
 (ak (j5 "Walk" "at" (aa (ae 0)) (aa !1))
 (al (aW (ae 1)))))
noncomputable def cH:List W->ai->SM W:=be 4 4
 (ak (bQ "Frame" "names" (aa (ae 0)) (aa (ae 2)))
 (ak (bQ "Frame" "given" (aa (ae 0)) (aa (ae 3)))
 (ak (bQ "Frame" "walks" (aa (ae 0)) (bd (av (kn "Walk" dt (aa #[ae 1])) bb)))
 (bQ "Frame" "loops" (aa (ae 0)) (bd (aa aj))))))
noncomputable def gm:DS->ai->SO:=(ak (aS (A8 (ar "Frame" "walks" (aa (ae 0)))))
 (bv (mH (nr (ar "Frame" "loops" (aa (ae 0)))) (kd false (sIx (ar "Frame" "loops" (aa (ae 0))) (aa (qo gQ !1))) (gR (ar "Frame" "walks" (aa (ae 0))))))
  (aS (A8 (ar "Frame" "loops" (aa (ae 0)))))
  (al aw)))
noncomputable def dD:List W->ai->SM W:=be 1 1
 (ak (cS (mH (nr (ar "Frame" "walks" (aa (ae 0)))) (iV (ck "Walk" "is_over" fu (sIx (ar "Frame" "walks" (aa (ae 0))) (aa (qo gQ !1))) (aa aj)))) gm 1000000)
 (bO (Dx (nr (ar "Frame" "walks" (aa (ae 0)))) (ck "Walk" "before" ie (sIx (ar "Frame" "walks" (aa (ae 0))) (aa (qo gQ !1))) (aa aj)) (aa (dC .none)))))
noncomputable def eQ:List W->ai->SM W:=be 1 1
 (aS (ck "Walk" "taken" iT (sIx (ar "Frame" "walks" (aa (ae 0))) (aa (qo gQ !1))) (aa aj)))
noncomputable def cJ:List W->ai->SM W:=be 1 1
 (ak (bQ "Story" "told" (aa (ae 0)) (bd (aa aj)))
 (ak (bQ "Story" "steps" (aa (ae 0)) (aa !0))
 (ak (bQ "Story" "end" (aa (ae 0)) (aa (dC .none)))
 (ak (bQ "Story" "brought" (aa (ae 0)) (bd (aa aj)))
 (ak (bQ "Story" "touches" (aa (ae 0)) (bd (aa aj)))
 (ak (bQ "Story" "puts" (aa (ae 0)) (bd (aa aj)))
 (bQ "Story" "lines" (aa (ae 0)) (bd (aa aj)))))))))
noncomputable def bW:List W->ai->SM W:=be 1 1
 (ak (aQ (ar "Story" "touches" (aa (ae 0))) (bd (aa aj)))
 (aQ (ar "Story" "puts" (aa (ae 0))) uA))
noncomputable def dY:List W->ai->SM W:=be 2 2
 (ak (j5 "Story" "steps" (aa (ae 0)) (aa !1))
 (aQ (ar "Story" "lines" (aa (ae 0))) (aa (ae 1))))
noncomputable def fG:List W->ai->SM W:=be 4 4
 (aQ (sIx (ar "Story" "touches" (aa (ae 0))) (aa (qo gQ !1))) (aa (aR #[ae 1,ae 2,ae 3])))
noncomputable def eO:List W->ai->SM W:=be 3 3
 (bE (sIx (ar "Story" "puts" (aa (ae 0))) (aa (qo gQ !1))) (aa (ae 1)) (aa (ae 2)))
noncomputable def bG:List W->ai->SM W:=be 3 3
 (bQ "Story" "end" (aa (ae 0)) (aa (aR #[ae 1,ae 2])))
noncomputable def gZ:DS->ai->SO:=(bE (ar "Goer" "defs" (aa (ae 0))) (aa 7[0]!) (aa (ae 7)))
noncomputable def eR:List W->ai->SM W:=be 7 8
 (ak (bQ "Goer" "defs" (aa (ae 0)) uA)
 (ak (qN (aa (bX (ae 1))) (ao 7) gZ)
 (ak (bQ "Goer" "lane" (aa (ae 0)) (aa (ae 2)))
 (ak (bQ "Goer" "signs" (aa (ae 0)) (vR [(Str.ofString "lane", (ae 2)),(Str.ofString "lanes", (ae 3)),(Str.ofString "mine", (aZ bR #[ae 4]))]))
 (ak (bQ "Goer" "boxes" (aa (ae 0)) (iQ [none] (aa (bX (ae 5))) (ao 0) (aa io) (aa (aZ bR #[ae 0]))))
 (ak (bQ "Goer" "most" (aa (ae 0)) (aa (ae 6)))
 (ak (bQ "Goer" "frames" (aa (ae 0)) (bd (av (kn "Frame" cH (av (sIx (aD (ar "Goer" "defs" (aa (ae 0))) (aa !"main")) (aa !2)) (av uA (av (aa (dC .none)) bb)))) bb)))
 (ak (bQ "Goer" "line" (aa (ae 0)) (aa (dC .none)))
 (ak (bQ "Goer" "meeting" (aa (ae 0)) (aa (dC .none)))
 (ak (bQ "Goer" "story" (aa (ae 0)) (kn "Story" cJ (aa aj)))
 (aS (ck "Story" "begin_phase" bW (ar "Goer" "story" (aa (ae 0))) (aa aj)))))))))))))
noncomputable def cA:List W->ai->SM W:=be 3 3
 (ak (bv (jr (oN Km sO (aa !0) (aa (ae 2)) (gR (ar "Goer" "boxes" (aa (ae 0))))))
  (rX "Outside" (aa #[!"a place of no box"]))
  (al aw))
 (aS (ck "Story" "add_touch" fG (ar "Goer" "story" (aa (ae 0))) (av (aa (ae 1)) (av (aa (ae 2)) (av (ar "Goer" "line" (aa (ae 0))) bb))))))
noncomputable def fR:List W->ai->SM W:=be 2 2
 (ak (aS (b7 "Goer" "touch" cA (aa (ae 0)) (aa #[!"get",ae 1])))
 (bO (sIx (ar "Goer" "boxes" (aa (ae 0))) (aa (ae 1)))))
noncomputable def ay:Nat->List W->ai->SM W
 | 0,_,_=>none
 | n+1,ds,S=>be 2 4
  (ak (al (bz 1[0]! (ao 2)))
  (ak (al (cB (aC bJ (aA 2) !"num")
   (aW 1[1]!)
   aw))
  (ak (bv (aa (aC bJ (aA 2) !"name"))
   (bO (fN (ar "Frame" "names" (sIx (ar "Goer" "frames" (aa (ae 0))) (aa (qo gQ !1)))) (aa 1[1]!) (aa !0)))
   (al aw))
  (ak (bv (aa (aC rK (aA 2) (dC (.tuple [.str "lane", .str "lanes", .str "mine"]))))
   (bO (aD (ar "Goer" "signs" (aa (ae 0))) (aa (ae 2))))
   (al aw))
  (ak (bv (aa (aC bJ (aA 2) !"box"))
   (bO (b7 "Goer" "got" fR (aa (ae 0)) (av (b7 "Goer" "reckoned" (ay n) (aa (ae 0)) (aa #[1[1]!])) bb)))
   (al aw))
  (ak (bU (eB lp (av (aa (ae 2)) (av (b7 "Goer" "reckoned" (ay n) (aa (ae 0)) (aa #[1[1]!])) (av (b7 "Goer" "reckoned" (ay n) (aa (ae 0)) (aa #[1[2]!])) bb)))) (ao 3))
  (ak (bv (aa (aC mf (aA 3) (dC .none)))
   (rX "Nought" (aa #[!"a working that has no number"]))
   (al aw))
  (al (aW (ae 3)))))))))) ds S
noncomputable def eZ:List W->ai->SM W:=be 3 3
 (bE (ar "Frame" "names" (sIx (ar "Goer" "frames" (aa (ae 0))) (aa (qo gQ !1)))) (aa (ae 1)) (aa (ae 2)))
noncomputable def d4:List W->ai->SM W:=be 2 4
 (ak (bU (b7 "Goer" "reckoned" (ay 9) (aa (ae 0)) (aa #[1[2]!])) (ao 2))
 (ak (bU (b7 "Goer" "reckoned" (ay 9) (aa (ae 0)) (aa #[1[3]!])) (ao 3))
 (ak (aS (b7 "Goer" "touch" cA (aa (ae 0)) (aa #[!"put",ae 2])))
 (ak (kx (ar "Goer" "boxes" (aa (ae 0))) (aa (ae 2)) (aa (ae 3)))
 (aS (ck "Story" "add_put" eO (ar "Goer" "story" (aa (ae 0))) (aa #[ae 2,ae 3])))))))
noncomputable def fm:List W->ai->SM W:=be 2 3
 (ak (bU (Dx (aa (aC bJ 1[0]! !"join")) (b7 "Goer" "reckoned" (ay 9) (aa (ae 0)) (aa #[1[4]!])) (aa !0)) (ao 2))
 (ak (aQ (ar "Story" "brought" (ar "Goer" "story" (aa (ae 0)))) (ik (av (ar "Goer" "line" (aa (ae 0))) (av (aa (ae 2)) bb))))
 (bQ "Goer" "meeting" (aa (ae 0)) (aa (ae 1)))))
noncomputable def fU:List W->ai->SM W:=be 2 3
 (ak (al (bz 1[0]! (ao 2)))
 (ak (bv (aa (aC bJ (aA 2) !"while"))
  (ak (al fX)
 (al rD))
  (al aw))
 (ak (aS (ck "Frame" "pass_by" eQ (sIx (ar "Goer" "frames" (aa (ae 0))) (aa (qo gQ !1))) (aa aj)))
 (bv (aa (aC bJ (aA 2) !"set"))
  (aS (ck "Goer" "give" eZ (aa (ae 0)) (av (aa 1[2]!) (av (b7 "Goer" "reckoned" (ay 9) (aa (ae 0)) (aa #[1[3]!])) bb))))
  (bv (aa (aC bJ (aA 2) !"put"))
  (aS (b7 "Goer" "do_put" d4 (aa (ae 0)) (aa #[ae 1])))
  (bv (aa (aC bJ (aA 2) !"tell"))
  (aQ (ar "Story" "told" (ar "Goer" "story" (aa (ae 0)))) (b7 "Goer" "reckoned" (ay 9) (aa (ae 0)) (aa #[1[2]!])))
  (bv (aa (aC bJ (aA 2) !"if"))
  (al fX)
  (bv (aa (aC bJ (aA 2) !"call"))
  (al fX)
  (bv (aa (aC rK (aA 2) (aR #[!"meet",!"join"])))
  (aS (b7 "Goer" "come_to" fm (aa (ae 0)) (aa #[ae 1])))
  (al fX))))))))))
noncomputable def cV:List W->ai->SM W:=be 2 2
 (ak (bQ "Goer" "line" (aa (ae 0)) (aa 1[1]!))
 (ak (bv (kS ER (ar "Story" "steps" (ar "Goer" "story" (aa (ae 0)))) (ar "Goer" "most" (aa (ae 0))))
  (ak (aS (ck "Story" "finish" bG (ar "Goer" "story" (aa (ae 0))) (av (aa !"tired") (av (ar "Goer" "line" (aa (ae 0))) bb))))
 (al rD))
  (al aw))
 (ak (aS (ck "Story" "add_step" dY (ar "Goer" "story" (aa (ae 0))) (av (ar "Goer" "line" (aa (ae 0))) bb)))
 (m6 "Goer" "do" fU "Nought" "Outside" (ae 0) #[ae 1]
  (aS (oY "Story" "finish" bG (ar "Goer" "story" (aa (ae 0))) (av (aa !"nought") (av (ar "Goer" "line" (aa (ae 0))) bb))))
  (aS (oY "Story" "finish" bG (ar "Goer" "story" (aa (ae 0))) (av (aa !"outside") (av (ar "Goer" "line" (aa (ae 0))) bb))))))))
noncomputable def gz:List W->ai->SM W:=be 1 1
 (bv (kd false (gR (ar "Goer" "frames" (aa (ae 0)))) (aa !1))
  (aS (ck "Story" "finish" bG (ar "Goer" "story" (aa (ae 0))) (av (aa !"done") (av (sIx (aD (ar "Goer" "defs" (aa (ae 0))) (aa !"main")) (aa !4)) bb))))
  (al fX))
noncomputable def gc:DS->ai->SO:=(ak (bU (ck "Frame" "statement" dD (sIx (ar "Goer" "frames" (aa (ae 0))) (aa (qo gQ !1))) (aa aj)) (ao 1))
 (bv (aa (aC mf (aA 1) (dC .none)))
  (aS (ck "Goer" "end_def" gz (aa (ae 0)) (aa aj)))
  (aS (ck "Goer" "step" cV (aa (ae 0)) (aa #[ae 1])))))
noncomputable def iC:List W->ai->SM W:=be 1 2
 (cS (mH (kS mf (ar "Story" "end" (ar "Goer" "story" (aa (ae 0)))) (aa (dC .none))) (kS mf (ar "Goer" "meeting" (aa (ae 0))) (aa (dC .none)))) gc 1000000)
noncomputable def jK:List W->ai->SM W:=be 2 2
 (ak (bv (kd false (sIx (ar "Goer" "meeting" (aa (ae 0))) (aa !0)) (aa !"join"))
  (aS (ck "Goer" "give" eZ (aa (ae 0)) (av (sIx (ar "Goer" "meeting" (aa (ae 0))) (aa !2)) (av (eB lq (av (sIx (ar "Goer" "meeting" (aa (ae 0))) (aa !3)) (av (aa 1[1]!) (av (ar "Goer" "lane" (aa (ae 0))) bb)))) bb))))
  (al aw))
 (ak (bQ "Goer" "boxes" (aa (ae 0)) (ig (aa 1[2]!)))
 (ak (bQ "Goer" "meeting" (aa (ae 0)) (aa (dC .none)))
 (aS (ck "Story" "begin_phase" bW (ar "Goer" "story" (aa (ae 0))) (aa aj))))))
noncomputable def mL:DS->ai->SO:=(bv (kS eW (ar "Goer" "meeting" (aa (ae 7))) (aa (dC .none)))
 (ak (aS (ck "Goer" "take" jK (aa (ae 7)) (aa #[ae 8])))
 (aS (ck "Goer" "go" iC (aa (ae 7)) (aa aj))))
  (al aw))
noncomputable def gY:List W->ai->SM W:=be 7 9
 (ak (bU (kn "Goer" eR (aa #[ae 0,ae 1,ae 2,ae 3,ae 4,ae 5])) (ao 7))
 (ak (aS (ck "Goer" "go" iC (aa (ae 7)) (aa aj)))
 (ak (qN (aa (bX (ae 6))) (ao 8) mL)
 (bO (ar "Goer" "story" (aa (ae 7)))))))
noncomputable def aY:List W->Option W:=fz 2 2
 (bF (cB (aC sO (aA 1) (kj jD (aA 0)))
  (aW (aB bC (aA 0) (ae 1)))
  aw)
 (aW !0))
noncomputable def bc:List W->Option W:=fz 2 3
 (bF (bz (aB b6 (aB bI (aB bI (aB b6 (aA 0) !2147483647) (aB cw (!16807) (ae 1))) !7) !2147483629) (ao 2))
 (bF (bz (aB b6 (aB cw (aA 2) (ae 2)) !2147483587) (ao 2))
 (aW (aB gD (aB b6 (aB cw (aA 2) (aB bI (aA 2) !48271)) !2147483579) !5))))
noncomputable def ca:List W->ai->SM W:=be 1 1
 (bO (sB (kd false (gR (pi 9000 [none] (m9 (aa (ae 0))) (ao 0) (aa (AA (wR (pU (kj (ku "int") (ae 0)))) (pU (kj (ku "bool") (ae 0))))) (aa (ae 0)))) (aa !0))))
noncomputable def aH:List W->Option W:=fz 1 1
 (aW (aB gSub' (aB b6 (aB bI (aA 0) !2147483648) !4294967296) !2147483648))
noncomputable def jC:DS->Option fZ:=(bF (bz (aB bC (aA 3) (aB b6 (aB bI (aB gD (aA 0) !64) (ae 5)) !26)) (ao 6))
 (cr 4 (aB bI (aB bI (aB tK (!"q") (ae 2)) (ae 6)) (aB tK (!"q") (aB gSub' (aB gSub' (aA 1) !1) (ae 2))))))
noncomputable def gw:List W->Option W:=fz 1 7
 (bF (bz (aB bI (!1) (aB b6 (aA 0) !8)) (ao 1))
 (bF (bz (aB b6 (aB gD (aA 0) !8) (ae 1)) (ao 2))
 (bF (bz (!"abcdefghijklmnopqrstuvwxyz") (ao 3))
 (bF (lK 4 (ff aj))
 (bF (qg (jh #[!3]) (ao 5) jC)
 (lO 4 (aW (ae 4))))))))
noncomputable def dW:DS->Option fZ:=(bF (bz (aZ bc #[ae 7,aB bI (aB bI (aB cw (!40) (ae 6)) (ae 9)) !300]) (ao 10))
 (cB (lX (aC bJ (aB b6 (aA 10) !5) !0) (aC tX (aA 9) (aA 3)))
  (cr 8 (dC .none))
  (cr 8 (aB gSub' (aB b6 (aB cw (aB gD (aA 10) !5) !53) !4294967296) !2147483648))))
noncomputable def fL:DS->Option fZ:=(bF (bz (aB bI (aZ aY #[ae 0,aB bI (!4) (aB cw (!7) (ae 6))]) (aZ aY #[ae 0,!2])) (ao 7))
 (bF (lK 8 (ff aj))
 (bF (qg (jh #[ae 2]) (ao 9) dW)
 (bF (bz (cn (iG [some 7,some 6,none] (jh #[ae 4]) (ao 2) io (aB gSub' (aB b6 (aB cw (aZ bc #[ae 0,aB bI (aB bI (aB cw (!40) (ae 1)) (ae 2)) !320]) !11) !4294967296) !2147483648))) (ao 11))
 (lO 8 (cr 5 (aR #[aB bI (!1) (aB b6 (aZ bc #[ae 7,aB bI (aA 6) !290]) !200),ae 8,ae 11])))))))
noncomputable def gO:List W->Option W:=fz 5 12
 (bF (lK 5 (ff aj))
 (bF (qg (jh #[ae 1]) (ao 6) fL)
 (lO 5 (aW (ae 5)))))
noncomputable def gq:List W->ai->SM W:=be 2 6
 (ak (al (bz (aB b6 (aA 0) !5) (ao 2)))
 (ak (al (bz (aB gD (aA 0) !5) (ao 3)))
 (ak (bU (sIx (aD (aa (ae 1)) (aa !"names")) (aa (aB b6 (aA 3) !3))) (ao 4))
 (ak (al (bz (aB gSub' (aB b6 (aB cw (aA 3) !7919007919) !1999999999) !999999999) (ao 5)))
 (ak (al (cB (aC bJ (aA 2) !0)
  (aW (aR #[aR #[!"num",ae 5],ae 5]))
  aw))
 (ak (bv (aa (aC bJ (aA 2) !1))
  (bO (ik (av (aa (aR #[!"name",ae 4])) (av (fN (aD (aa (ae 1)) (aa !"worth")) (aa (ae 4)) (aa !0)) bb))))
  (al aw))
 (ak (bv (aa (aC bJ (aA 2) !2))
  (bO (ik (av (aa (aR #[!"lane"])) (av (aD (aa (ae 1)) (aa !"lane")) bb))))
  (al aw))
 (ak (bv (aa (aC bJ (aA 2) !3))
  (bO (ik (av (aa (aR #[!"mine"])) (av (aD (aa (ae 1)) (aa !"mine")) bb))))
  (al aw))
 (bO (ik (av (aa (aR #[!"+",aR #[!"name",ae 4],aR #[!"num",ae 5]])) (av (eB aH (av (yT bI (fN (aD (aa (ae 1)) (aa !"worth")) (aa (ae 4)) (aa !0)) (aa (ae 5))) bb)) bb))))))))))))
noncomputable def gt:List W->ai->SM W:=be 2 6
 (ak (bU (gR (aD (aa (ae 1)) (aa !"boxes"))) (ao 2))
 (ak (al (bz (aB b6 (aA 0) !5) (ao 3)))
 (ak (al (bz (aB gD (aA 0) !5) (ao 4)))
 (ak (bU (sIx (aD (aa (ae 1)) (aa !"names")) (aa (aB b6 (aA 4) !3))) (ao 5))
 (ak (al (cB (lX (aC bJ (aA 3) !0) (aC bJ (aB b6 (aA 4) !8) !0))
  (aW (aR #[aR #[!"num",ae 2],ae 2]))
  aw))
 (ak (al (cB (aC sO (aA 3) !2)
  (aW (aR #[aR #[!"num",aB b6 (aA 4) (AF jJ #[!1,ae 2])],aB b6 (aA 4) (AF jJ #[!1,ae 2])]))
  aw))
 (ak (bv (aa (aC bJ (aA 3) !2))
  (bO (ik (av (aa (aR #[!"+",aR #[!"lane"],aR #[!"num",aB b6 (aA 4) !3]])) (av (yT bI (aD (aa (ae 1)) (aa !"lane")) (aa (aB b6 (aA 4) !3))) bb))))
  (al aw))
 (ak (bv (aa (aC bJ (aA 3) !3))
  (bO (ik (av (aa (aR #[!"rem",aR #[!"name",ae 5],aR #[!"num",AF jJ #[!1,ae 2]]])) (av (yT b6 (fN (aD (aa (ae 1)) (aa !"worth")) (aa (ae 5)) (aa !0)) (aa (AF jJ #[!1,ae 2]))) bb))))
  (al aw))
 (ak (al (cB (aC bJ (aB b6 (aA 4) !32) !0)
  (aW (aR #[aR #[!"num",aB gSub' (aB gSub' (!0) !1) (aB b6 (aA 4) !3)],aB gSub' (aB gSub' (!0) !1) (aB b6 (aA 4) !3)]))
  aw))
 (bO (ik (av (aa (aR #[!"lane"])) (av (aD (aa (ae 1)) (aa !"lane")) bb)))))))))))))
noncomputable def gf:List W->ai->SM W:=be 3 9
 (ak (al (bz (aZ bc #[ae 0,ae 1]) (ao 3)))
 (ak (al (bz (aB b6 (aZ bc #[ae 0,aB bI (aA 1) !200]) !10) (ao 4)))
 (ak (bU (sIx (aD (aa (ae 2)) (aa !"names")) (aa (aB b6 (aA 3) !3))) (ao 5))
 (ak (bU (bZ gt (aa #[aB gD (aA 3) !3,ae 2])) (ao 6))
 (ak (bU (bZ gq (aa #[aB gD (aA 3) !15,ae 2])) (ao 7))
 (ak (al (cB (aC sO (aA 4) !3)
  (aW (aR #[aR #[!"put",ae 1,6[0]!,7[0]!],6[1]!,7[1]!]))
  aw))
 (ak (al (cB (aC sO (aA 4) !5)
  (aW (aR #[aR #[!"tell",ae 1,aR #[!"box",6[0]!]],6[1]!,!0]))
  aw))
 (ak (al (cB (aC bJ (aA 4) !5)
  (aW (aR #[aR #[!"set",ae 1,ae 5,aR #[!"box",6[0]!]],6[1]!,!0]))
  aw))
 (ak (al (cB (aC bJ (aA 4) !6)
  (aW (aR #[aR #[!"set",ae 1,ae 5,7[0]!],dC .none,7[1]!]))
  aw))
 (ak (al (cB (aC bJ (aA 4) !7)
  (aW (aR #[aR #[!"meet",ae 1],dC .none,!0]))
  aw))
 (ak (al (cB (aC bJ (aA 4) !8)
  (bF (bz (aB bC (cn (ff #[!"sum",!"most",!"least",!"ahead"])) (aB b6 (aB gD (aA 3) !7) !4)) (ao 8))
 (aW (aR #[aR #[!"join",ae 1,ae 5,ae 8,7[0]!],dC .none,7[1]!])))
  aw))
 (al (aW (aR #[aR #[!"tell",ae 1,7[0]!],dC .none,7[1]!]))))))))))))))
noncomputable def fJ:List W->Option W:=fz 3 4
 (bF (bz (cn (iG [none] (bX (aA 1)) (ao 0) (aC eW (aA 0) (dC .none)) (ae 0))) (ao 3))
 (bF (cB (aC bJ (aA 0) !"most")
  (aW (kj yA (aA 3)))
  aw)
 (bF (cB (aC bJ (aA 0) !"least")
  (aW (kj yo (aA 3)))
  aw)
 (bF (cB (aC bJ (aA 0) !"ahead")
  (bz (cn (iG [none] (bX (cn (pj (aA 1) ja (hW (ae 2))))) (ao 0) (aC eW (aA 0) (dC .none)) (ae 0))) (ao 3))
  aw)
 (aW (aZ aH #[kj xD (aA 3)]))))))
noncomputable def cQ:List W->ai->SM W:=be 3 5
 (ak (aQ (aD (aa (ae 0)) (aa !"brought")) (aa (aR #[1[1]!,ae 2])))
 (bv (kd false (aD (aa (ae 0)) (aa !"letters")) (bd (aa aj)))
  (bE (aa (ae 0)) (aa !"over") (aa (dC (.bool true))))
  (ak (bU (sIx (aD (aa (ae 0)) (aa !"letters")) (aa !0)) (ao 3))
 (ak (bE (aa (ae 0)) (aa !"letters") (Ap (aD (aa (ae 0)) (aa !"letters")) (aa !1)))
 (ak (bE (aa (ae 0)) (aa !"boxes") (ig (aa 3[2]!)))
 (ak (aQ (aD (aa (ae 0)) (aa !"touches")) (bd (aa aj)))
 (ak (aQ (aD (aa (ae 0)) (aa !"puts")) uA)
 (bv (aa (aC bJ 1[0]! !"join"))
  (ak (bU (aD (aa (ae 0)) (aa !"worth")) (ao 4))
 (bE (aa (ae 4)) (aa 1[2]!) (eB fJ (av (aa 1[3]!) (av (aa 3[1]!) (av (aD (aa (ae 0)) (aa !"lane")) bb))))))
  (al aw)))))))))
noncomputable def cT:List W->ai->SM W:=be 4 6
 (ak (aQ (sIx (aD (aa (ae 0)) (aa !"touches")) (aa (qo gQ !1))) (aa (aR #[aB bC (cn (ff #[!"get",!"put"])) (kh (dB (aC bJ 1[0]! !"put"))),ae 2,1[1]!])))
 (ak (bU (aD (aa (ae 0)) (aa !"boxes")) (ao 4))
 (ak (bv (aa (aC tX 1[0]! !"put"))
  (bO (sIx (aa (ae 4)) (aa (ae 2))))
  (al aw))
 (ak (kx (aa (ae 4)) (aa (ae 2)) (aa (ae 3)))
 (ak (bU (sIx (aD (aa (ae 0)) (aa !"puts")) (aa (qo gQ !1))) (ao 5))
 (ak (bE (aa (ae 5)) (aa (ae 2)) (aa (ae 3)))
 (al (aW (ae 3)))))))))
noncomputable def cW:List W->ai->SM W:=be 4 5
 (ak (bv (kd false (gR (aD (aa (ae 0)) (aa !"lines"))) (aD (aa (ae 0)) (aa !"most")))
  (ak (bE (aa (ae 0)) (aa !"end") (aa (aR #[!"tired",1[1]!])))
 (ak (bE (aa (ae 0)) (aa !"over") (aa (dC (.bool true))))
 (al (aW (dC (.bool false))))))
  (al aw))
 (ak (aQ (aD (aa (ae 0)) (aa !"lines")) (aa 1[1]!))
 (ak (bv (mH (aa (aC eW (aA 2) (dC .none))) (wI (aa (aC sO (aA 2) !0)) (kS ER (aa (ae 2)) (gR (aD (aa (ae 0)) (aa !"boxes"))))))
  (ak (bE (aa (ae 0)) (aa !"end") (aa (aR #[!"outside",1[1]!])))
 (ak (bE (aa (ae 0)) (aa !"over") (aa (dC (.bool true))))
 (al (aW (dC (.bool false))))))
  (al aw))
 (ak (bv (aa (aC eW (aA 2) (dC .none)))
  (bU (bZ cT (aa #[ae 0,ae 1,ae 2,ae 3])) (ao 3))
  (al aw))
 (ak (bv (aa (AA (aC bJ 1[0]! !"meet") (aC bJ 1[0]! !"join")))
  (aS (bZ cQ (aa #[ae 0,ae 1,ae 3])))
  (al aw))
 (ak (bv (aa (aC bJ 1[0]! !"tell"))
  (aQ (aD (aa (ae 0)) (aa !"told")) (aa (ae 3)))
  (al aw))
 (ak (bv (aa (aC bJ 1[0]! !"set"))
  (ak (bU (aD (aa (ae 0)) (aa !"worth")) (ao 4))
 (bE (aa (ae 4)) (aa 1[2]!) (aa (ae 3))))
  (al aw))
 (al (aW (dC (.bool true)))))))))))
noncomputable def cX:List W->ai->SM W:=be 2 2
 (ak (bv (wI (kd true (ar "Story" "told" (aa (ae 0))) (aD (aa (ae 1)) (aa !"told"))) (wI (jr (iV (bZ ca (av (ar "Story" "told" (aa (ae 0))) bb)))) (kd true (ar "Story" "end" (aa (ae 0))) (aD (aa (ae 1)) (aa !"end")))))
  (al (aW (dC (.bool false))))
  (al aw))
 (ak (bv (wI (kd true (ar "Story" "lines" (aa (ae 0))) (aD (aa (ae 1)) (aa !"lines"))) (jr (iV (bZ ca (av (um (ar "Story" "lines" (aa (ae 0))) (bd (av (ar "Story" "steps" (aa (ae 0))) bb))) bb)))))
  (al (aW (dC (.bool false))))
  (al aw))
 (ak (bv (wI (kd true (ar "Story" "steps" (aa (ae 0))) (gR (aD (aa (ae 1)) (aa !"lines")))) (kd true (ar "Story" "brought" (aa (ae 0))) (aD (aa (ae 1)) (aa !"brought"))))
  (al (aW (dC (.bool false))))
  (al aw))
 (bO (wj (sB (kd false (ar "Story" "touches" (aa (ae 0))) (aD (aa (ae 1)) (aa !"touches")))) (sB (xn (ar "Story" "puts" (aa (ae 0))) (aD (aa (ae 1)) (aa !"puts")))))))))
noncomputable def nU:DS->ai->SO:=(ak (bU (bZ gf (aa #[ae 12,aB bI (kj jD (aA 11)) !2,ae 10])) (qu 3 (iX (ao 13) (iX (ao 14) (iX (ao 15) ue)))))
 (ak (al (cr 11 (ae 13)))
 (bv (jr (iV (aD (aa (ae 10)) (aa !"over"))))
  (aS (bZ cW (aa #[ae 10,ae 13,ae 14,ae 15])))
  (al aw))))
noncomputable def zj:List W->ai->SM W:=be 1 19
 (ak (al (bz (aZ bc #[aZ aY #[ae 0,!0],!601]) (ao 1)))
 (ak (al (bz (aB bI (!1) (aB b6 (aA 1) !8)) (ao 2)))
 (ak (al (bz (aB b6 (aB gD (aA 1) !8) (ae 2)) (ao 3)))
 (ak (al (bz (aB b6 (aB gD (aA 1) !64) !13) (ao 4)))
 (ak (al (bz (aB gSub' (aB b6 (aZ aY #[ae 0,!2]) (aB lV (!10) !60)) (aB cw (!5) (aB lV (!10) !59))) (ao 5)))
 (ak (al (bz (cn (iG [some 0,none] (jh #[ae 4]) (ao 1) io (aB gSub' (aB b6 (aB bI (aB cw (aZ aY #[ae 0,ae 1]) (aB bI (aA 1) !3)) (aB cw (aA 1) !977)) (aB lV (!10) !60)) (aB cw (!5) (aB lV (!10) !59))))) (ao 6)))
 (ak (al (bz (aZ bc #[aZ aY #[ae 0,!3],!602]) (ao 7)))
 (ak (al (bz (aZ gO #[ae 0,aB b6 (aA 7) !6,ae 2,ae 3,ae 4]) (ao 8)))
 (ak (al (bz (!1000) (ao 9)))
 (ak (al (cB (aC bJ (aB b6 (aB gD (aA 7) !6) !4) !1)
  (bz (aB b6 (aB gD (aA 7) !24) !60) (ao 9))
  aw))
 (ak (bU (fI [(Str.ofString "worth", uA),(Str.ofString "lane", (aa (ae 3))),(Str.ofString "mine", (aa (aZ aH #[ae 5])))]) (ao 10))
 (ak (bE (aa (ae 10)) (aa !"names") (aa (aZ gw #[aZ bc #[aZ aY #[ae 0,!1],!603]])))
 (ak (aS (lg (aa (ae 10)) (fI [(Str.ofString "boxes", (iQ [none] (aa (bX (ae 6))) (ao 0) (aa io) (aa (aZ aH #[ae 0])))),(Str.ofString "letters", (ig (aa (ae 8)))),(Str.ofString "most", (aa (ae 9)))])))
 (ak (aS (lg (aa (ae 10)) (fI [(Str.ofString "told", (bd (aa aj))),(Str.ofString "lines", (bd (aa aj))),(Str.ofString "brought", (bd (aa aj))),(Str.ofString "touches", (bd (av (bd (aa aj)) bb)))])))
 (ak (aS (lg (aa (ae 10)) (fI [(Str.ofString "puts", (bd (av uA bb))),(Str.ofString "end", (aa (dC .none))),(Str.ofString "over", (aa (dC (.bool false))))])))
 (ak (al (lK 11 (ff aj)))
 (ak (qN (aa (bX (cn (pj (aA 0) (hW !4) (hW !104))))) (ao 12) nU)
 (ak (bv (jr (iV (aD (aa (ae 10)) (aa !"over"))))
  (bE (aa (ae 10)) (aa !"end") (aa (aR #[!"done",aB bI (kj jD (aA 11)) !2])))
  (al aw))
 (ak (al (lO 11 (bz (cn (ff #[aR #[!"main",cn (ff aj),ae 11,!1,aB bI (kj jD (aA 11)) !2]])) (ao 16))))
 (ak (al (bz (cn (ff #[cn (lF (aA 6)),gG (ae 16),gG (ae 8)])) (ao 17)))
 (ak (bU (bZ gY (aa #[ae 16,ae 3,ae 2,ae 5,ae 6,ae 9,ae 8])) (ao 18))
 (ak (bv (wI (jr (iV (bZ cX (aa #[ae 18,ae 10])))) (aa (aC tX (cn (ff #[ae 6,gG (ae 16),gG (ae 8)])) (aA 17))))
  (al (aW (dC (.bool false))))
  (al aw))
 (ak (aQ (sIx (ar "Story" "touches" (aa (ae 18))) (aa !0)) (aa (aR #[!"put",!0,!1])))
 (ak (aQ (ar "Story" "brought" (aa (ae 18))) (aa (aR #[!0,!0])))
 (bO (bZ cX (av (bZ gY (aa #[ae 16,ae 3,ae 2,ae 5,ae 6,ae 9,ae 8])) (av (aa (ae 10)) bb))))))))))))))))))))))))))))
noncomputable def rc (K:Frag):Sp:=λ vs H Q _=>∃ (a:Addr) (ns:List Int),vs=[.ref a]/\eC K H a (ns.map V.int)/\ns.length<=63/\∀ H',Q (.bl true) H'
section
variable (P:Program) (w:World) (K:Frag) (mg:Str->Option Value) (base:Heap) (cl:Str->Addr)
noncomputable abbrev jO:Prop:=sQ P w K mg base "wrapped" ["n"] [] 1 (uL K bR)
noncomputable abbrev mT:Prop:=sQ P w K mg base "unwrapped" ["word", "one", "other"] [] 1 (uL K j0)
noncomputable abbrev u9:Prop:=sQ P w K mg base "worked" ["word", "one", "other"] [] 2 (uL K lp)
noncomputable abbrev tZ:Prop:=sQ P w K mg base "joined" ["word", "brought", "lane"] [] 2 (uL K lq)
noncomputable abbrev jg:Prop:=Ce (λ f fd=>Mk K (cl "Walk") f/\aP K fd ["self", "row"] []) P w K mg base 1 ["self", "row"] (ji K cl dt)
noncomputable abbrev jL:Prop:=Ce (λ f fd=>bw K (cl "Walk") "is_over" f/\aP K fd ["self"] []) P w K mg base 1 ["self"] (ji K cl fu)
noncomputable abbrev ki:Prop:=Ce (λ f fd=>bw K (cl "Walk") "before" f/\aP K fd ["self"] []) P w K mg base 1 ["self"] (ji K cl ie)
noncomputable abbrev kW:Prop:=Ce (λ f fd=>bw K (cl "Walk") "taken" f/\aP K fd ["self"] []) P w K mg base 1 ["self"] (ji K cl iT)
noncomputable abbrev iH:Prop:=Ce (λ f fd=>Mk K (cl "Frame") f/\aP K fd ["self", "body", "names", "given"] []) P w K mg base 3 ["self", "body", "names", "given"] (ji K cl cH)
noncomputable abbrev hJ:Prop:=Ce (λ f fd=>bw K (cl "Frame") "statement" f/\aP K fd ["self"] []) P w K mg base 2 ["self"] (ji K cl dD)
noncomputable abbrev jk:Prop:=Ce (λ f fd=>bw K (cl "Frame") "pass_by" f/\aP K fd ["self"] []) P w K mg base 2 ["self"] (ji K cl eQ)
noncomputable abbrev iK:Prop:=Ce (λ f fd=>Mk K (cl "Story") f/\aP K fd ["self"] []) P w K mg base 1 ["self"] (ji K cl cJ)
noncomputable abbrev et:Prop:=Ce (λ f fd=>bw K (cl "Story") "begin_phase" f/\aP K fd ["self"] []) P w K mg base 1 ["self"] (ji K cl bW)
noncomputable abbrev iE:Prop:=Ce (λ f fd=>bw K (cl "Story") "add_step" f/\aP K fd ["self", "line"] []) P w K mg base 1 ["self", "line"] (ji K cl dY)
noncomputable abbrev h9:Prop:=Ce (λ f fd=>bw K (cl "Story") "add_touch" f/\aP K fd ["self", "word", "place", "line"] []) P w K mg base 1 ["self", "word", "place", "line"] (ji K cl fG)
noncomputable abbrev je:Prop:=Ce (λ f fd=>bw K (cl "Story") "add_put" f/\aP K fd ["self", "place", "number"] []) P w K mg base 1 ["self", "place", "number"] (ji K cl eO)
noncomputable abbrev ou:Prop:=Ce (λ f fd=>bw K (cl "Story") "finish" f/\aP K fd ["self", "word", "line"] []) P w K mg base 1 ["self", "word", "line"] (ji K cl bG)
noncomputable abbrev jM:Prop:=K8 (λ f fd=>bw K (cl "Story") "finish" f/\aP K fd ["self", "word", "line"] []) P w K mg base 1 ["self", "word", "line"] (ji K cl bG)
noncomputable abbrev jf:Prop:=Ce (λ f fd=>Mk K (cl "Goer") f/\aP K fd ["self", "program", "lane", "lanes", "mine", "boxes", "most"] []) P w K mg base 5 ["self", "program", "lane", "lanes", "mine", "boxes", "most"] (ji K cl eR)
noncomputable abbrev iW:Prop:=xM (λ f fd=>bw K (cl "Goer") "touch" f/\aP K fd ["self", "word", "place"] []) P w K mg base 2 ["self", "word", "place"] (uH K cl cA)
noncomputable abbrev oR:Prop:=xM (λ f fd=>bw K (cl "Goer") "got" f/\aP K fd ["self", "place"] []) P w K mg base 3 ["self", "place"] (uH K cl fR)
noncomputable abbrev eS:Prop:=xM (λ f fd=>bw K (cl "Goer") "reckoned" f/\aP K fd ["self", "expression"] []) P w K mg base 12 ["self", "expression"] (uH K cl (ay 9))
noncomputable abbrev jx:Prop:=Ce (λ f fd=>bw K (cl "Goer") "give" f/\aP K fd ["self", "name", "number"] []) P w K mg base 1 ["self", "name", "number"] (ji K cl eZ)
noncomputable abbrev km:Prop:=xM (λ f fd=>bw K (cl "Goer") "do_put" f/\aP K fd ["self", "statement"] []) P w K mg base 13 ["self", "statement"] (uH K cl d4)
noncomputable abbrev j4:Prop:=xM (λ f fd=>bw K (cl "Goer") "come_to" f/\aP K fd ["self", "statement"] []) P w K mg base 13 ["self", "statement"] (uH K cl fm)
noncomputable abbrev qB:Prop:=xM (λ f fd=>bw K (cl "Goer") "do" f/\aP K fd ["self", "statement"] []) P w K mg base 14 ["self", "statement"] (uH K cl fU)
noncomputable abbrev nj:Prop:=Ce (λ f fd=>bw K (cl "Goer") "step" f/\aP K fd ["self", "statement"] []) P w K mg base 15 ["self", "statement"] (ji K cl cV)
noncomputable abbrev jN:Prop:=Ce (λ f fd=>bw K (cl "Goer") "end_def" f/\aP K fd ["self"] []) P w K mg base 2 ["self"] (ji K cl gz)
noncomputable abbrev qf:Prop:=Ce (λ f fd=>bw K (cl "Goer") "go" f/\aP K fd ["self"] []) P w K mg base 16 ["self"] (ji K cl iC)
noncomputable abbrev ny:Prop:=Ce (λ f fd=>bw K (cl "Goer") "take" f/\aP K fd ["self", "letter"] []) P w K mg base 3 ["self", "letter"] (ji K cl jK)
noncomputable abbrev vQ:Prop:=sQ P w K mg base "alone" ["program", "lane", "lanes", "mine", "boxes", "most", "letters"] [] 17 (ji K cl gY)
noncomputable abbrev j1:Prop:=sQ P w K mg base "_law_cell" ["_law_script", "_law_k"] [] 1 (uL K aY)
noncomputable abbrev gu:Prop:=sQ P w K mg base "_law_mixed" ["_law_cell_here", "_law_k"] [] 1 (uL K bc)
noncomputable abbrev iI:Prop:=sQ P w K mg base "_law_all_whole" ["_law_row"] [] 1 (ji K cl ca)
noncomputable abbrev d9:Prop:=sQ P w K mg base "_law_into_range" ["_law_number"] [] 1 (uL K aH)
noncomputable abbrev lC:Prop:=sQ P w K mg base "_law_names" ["_law_cell_here"] [] 1 (uL K gw)
noncomputable abbrev jy:Prop:=sQ P w K mg base "_law_letters" ["_law_script", "_law_many", "_law_lanes", "_law_lane", "_law_room"] [] 2 (uL K gO)
noncomputable abbrev kX:Prop:=sQ P w K mg base "_law_value" ["_law_number", "_law_now"] [] 2 (ji K cl gq)
noncomputable abbrev kR:Prop:=sQ P w K mg base "_law_place" ["_law_number", "_law_now"] [] 1 (ji K cl gt)
noncomputable abbrev mY:Prop:=sQ P w K mg base "_law_line" ["_law_cell_here", "_law_line_here", "_law_now"] [] 3 (ji K cl gf)
noncomputable abbrev lQ:Prop:=sQ P w K mg base "_law_comes" ["_law_word", "_law_brought", "_law_lane"] [] 2 (uL K fJ)
noncomputable abbrev jI:Prop:=sQ P w K mg base "_law_meeting" ["_law_now", "_law_row", "_law_number"] [] 3 (ji K cl cQ)
noncomputable abbrev jH:Prop:=sQ P w K mg base "_law_touched" ["_law_now", "_law_row", "_law_place_here", "_law_number"] [] 1 (ji K cl cT)
noncomputable abbrev nB:Prop:=sQ P w K mg base "_law_done" ["_law_now", "_law_row", "_law_place_here", "_law_number"] [] 4 (ji K cl cW)
noncomputable abbrev lR:Prop:=sQ P w K mg base "_law_holds" ["_law_story", "_law_now"] [] 2 (ji K cl cX)
end
def rlX (s:String) (t:Lean.TSyntax `tactic):Lean.MacroM (Lean.TSyntax `tactic):=(s.splitOn ";").foldlM (λ t g=>do
 let l:=g.splitOn " ";let u <-l.tail.foldlM (λ u n=>do
  let q:=n.splitOn ":";let i:=Lean.mkIdent ((if n.front.isDigit||n.front=='<' then n.drop 1 else q.head!).toName);let a <-if n.front.isDigit||n.front=='<' then pure (Array.replicate (n.front.toNat-48) (<- `(?_))) else (q.getLast!.toList.toArray.mapM λ c=>if c=='r' then `(rfl) else if c=='a' then `(by assumption) else if c=='d' then `(by first | decide | exact Nat.le_refl _ | exact Nat.le_add_right _ _ | omega) else if c=='k' then `(by decide +kernel) else `(?_))
  let v <-if q.tail.isEmpty && !n.front.isDigit&&n.front != '<' then `(tactic| apply $i) else `(tactic| refine $(Lean.Syntax.mkApp i a))
  `(tactic| first | $v:tactic | $u:tactic)) (<- `(tactic| fail))
 `(tactic| first | (show $(Lean.mkIdent l.head!.toName) ..;$u:tactic) | $t:tactic)) t
local macro_rules | `(tactic| left)=>do
 let t <-rlX "CK CK.nil CK.cons;Dm Dm.nil Dm.cons;KL zx;ST xX AR Iq Fe Fa Ic Cp Fp Fx;Lr AN;K0 DI.k C4;Jn zQ zu;DI Cw FC;DR B0 E3 Go Ej DM Fd Fy Dr;DG DP BP;DB IW JE G9 Cz Ji JL J7 Jj;Ha Gk EI GI yh;SA AZ CI GV;Ii A3 BR;DA Ca FW;DK DE.dk Gd;kK xj CF zB AX zN wx tW w6 qc yZ zl vP Ds zi yf;DO BY FY BQ EW;SE yr E2 Af AV BB Gq Ad HN zT zC yR Ck zr B6 J9 Gg yM C8 HB Cf EL Fz GQ JB Ea Be vL AU IG;DE Ba CC B3 DO.de DN II GJ Hr GF Bq Ee Gn Hv Fm JF Gw FP;pv BW qp Aa yO Au Df Ab yj yk BH E4;DT F3 Eo FA GC JW FG Ec" (<- `(tactic| first | assumption | decide));let u <-rlX "kK zN wx tW w6 qc yZ zl vP Ds zi yf;pv qp Aa yO Au Df Ab yj yk;Eq rfl" (<- `(tactic| first | exact E0 | decide))
 `(tactic| repeat' first | with_reducible (show (_:Prop);first | intro _ | $t:tactic) | $u:tactic)
local macro_rules | `(tactic| right)=>do
 let t <-rlX "Bt 0LD;vn 0Hd;HP 0KQ 3HZ;And 2And.intro;pA 1Ez;PassesOwn 0PassesOwn.never;Hy 1HU;KE 0Lz;uZ 0JK 1Hs;PW 1Ks 2Lx 1Ml 2Nq;bS 7CU;PO 0JY 1KC;PI 4Hb 2Kj;GX 0Ky 3Hi;PT 1PW.pt 6Jz 3JX 2Md 1LW 4Ko;PG 5K4 4KM;PS 0HD 0KU 4Et 9GZ 5FS 3JM 6Kq 5Kh 6L5 2KW 3MR 1Mf 6Ld <Al;ze 1K3;nY 0KF 1Kr 2J5;PA 0LF 3KJ;ij 0MA 0IC;ir 0MS 0Nk 0K1 0L4 0KH 2LC 0K9 1EG 0M0 0Lg 0MI 1Kk 0HR 0Ki 2Mh 2Mo;PE 5Il 5IU 2NL 2Nz 5MT 8No 6MH 9Nf 6Nc 4KN 0IN 0MW 3KO 1Lk 3IY 2LN 2Nv 7IA 4HS 0LA 4K5 1KP 1KS 4Nh 3MB 0KY 4Lo 0LX 9pe_cSet 3KD 5Lp" (<- `(tactic| intro _));let u <-rlX "Or JA:r Or.inr:r Or.inl:r;Eg Or.inr:r Or.inl:r;Kz JA:r Or.inl:r;Exists LQ:aad;M2 M2.mk:rrrr;PE Bv yE AI yQ vW:rard xT:rad IE;fH fH.mono:a?;cu cu.mono:ad;Paired Paired.nil:;dU dU.mk:rrrkrkk;M1 M1.mk:rrrr;PS Cy;Exists xq:a;zo JC:a;QB 2M8 2LI 2Lb 1LL 2Kg 3q_sort 0Nr 1MV;QM 0MU 0Nu;ir 2LC 2Mh;PS 3L7;nY 2J5 1Kr" (<- `(tactic| first | assumption | rfl | exact λ _ _=>rfl | exact λ _=>rfl | decide +kernel))
 `(tactic| ((repeat' first | with_reducible $t:tactic | $u:tactic);all_goals try decide))
section
variable {P:Program} {w:World} {K:Frag} {mg:Str->Option Value} {base:Heap} {cl:Str->Addr}
set_option maxHeartbeats 4000000
theorem vw (D:rZ K mg "wrapped" ["n"] [] qX) {tL:Tok} (m_LEAST:mg "LEAST" = some (.int (-2147483648) tL)) (g_LEAST:∀ ρ G,Dw K ρ G (.int (-2147483648)) ((.int (-2147483648)))) {tS:Tok} (m_SPAN:mg "SPAN" = some (.int 4294967296 tS)) (g_SPAN:∀ ρ G,Dw K ρ G (.int 4294967296) ((.int 4294967296))):jO P w K mg base:=
 pR (N:=["n"]) D rfl (λ ρ=>by left) (by right) rfl rfl (by right)
theorem sH (D:rZ K mg "unwrapped" ["word", "one", "other"] [] mV):mT P w K mg base:=
 pR (N:=["word", "one", "other"]) D rfl (λ ρ=>by left) (by right) rfl rfl (by right)
theorem xH (D:rZ K mg "worked" ["word", "one", "other"] [] tJ) (_:jO P w K mg base) (_:mT P w K mg base):u9 P w K mg base:=
 pR (N:=["word", "one", "other"]) D rfl (λ ρ=>by left) (by right) rfl rfl (by right)
theorem xu (D:rZ K mg "joined" ["word", "brought", "lane"] [] uk) (_:jO P w K mg base) (_:mg "sum" = none) (_:mg "max" = none) (_:mg "min" = none):tZ P w K mg base:=
 pR (N:=["word", "brought", "lane", "numbers"]) D rfl (λ ρ=>by left) (by right) rfl rfl (by right)
theorem mF (D:jU (λ f fd=>Mk K (cl "Walk") f/\aP K fd ["self", "row"] []) K "__init__" "Walk.__init__" cZ) (_:mg "Walk" = some (.ref (cl "Walk"))) (_:eJ K (cl "Walk")) (_:ag K (cl "Walk") "row") (_:ag K (cl "Walk") "at"):jg P w K mg base cl:=
 fK (N:=["self", "row"]) D rfl (by left) (by right) rfl rfl (by right)
theorem nP (D:jU (λ f fd=>bw K (cl "Walk") "is_over" f/\aP K fd ["self"] []) K "is_over" "Walk.is_over" dH) (_:mg "Walk" = some (.ref (cl "Walk"))) (_:eJ K (cl "Walk")) (_:ag K (cl "Walk") "row") (_:ag K (cl "Walk") "at") (_:mg "len" = none):jL P w K mg base cl:=
 fK (N:=["self"]) D rfl (by left) (by right) rfl rfl (by right)
theorem oS (D:jU (λ f fd=>bw K (cl "Walk") "before" f/\aP K fd ["self"] []) K "before" "Walk.before" eE) (_:mg "Walk" = some (.ref (cl "Walk"))) (_:eJ K (cl "Walk")) (_:ag K (cl "Walk") "row") (_:ag K (cl "Walk") "at"):ki P w K mg base cl:=
 fK (N:=["self"]) D rfl (by left) (by right) rfl rfl (by right)
theorem pS (D:jU (λ f fd=>bw K (cl "Walk") "taken" f/\aP K fd ["self"] []) K "taken" "Walk.taken" fw) (_:mg "Walk" = some (.ref (cl "Walk"))) (_:eJ K (cl "Walk")) (_:ag K (cl "Walk") "row") (_:ag K (cl "Walk") "at"):kW P w K mg base cl:=
 fK (N:=["self", "thing"]) D rfl (by left) (by right) rfl rfl (by right)
theorem lf (D:jU (λ f fd=>Mk K (cl "Frame") f/\aP K fd ["self", "body", "names", "given"] []) K "__init__" "Frame.__init__" cM) (h_Walk___init__:jg P w K mg base cl) (_:mg "Frame" = some (.ref (cl "Frame"))) (_:eJ K (cl "Frame")) (_:ag K (cl "Frame") "names") (_:ag K (cl "Frame") "given") (_:ag K (cl "Frame") "walks") (_:ag K (cl "Frame") "loops") (_:mg "Walk" = some (.ref (cl "Walk"))) (_:eJ K (cl "Walk")) (_:ag K (cl "Walk") "row") (_:ag K (cl "Walk") "at"):iH P w K mg base cl:=
 fK (N:=["self", "body", "names", "given"]) D rfl (by left) (by obtain ⟨_,_,⟨_,_⟩,_⟩:=h_Walk___init__;right) rfl rfl (by right)
theorem kB (D:jU (λ f fd=>bw K (cl "Frame") "statement" f/\aP K fd ["self"] []) K "statement" "Frame.statement" cy) (h_Walk_is_over:jL P w K mg base cl) (h_Walk_before:ki P w K mg base cl) (_:mg "Frame" = some (.ref (cl "Frame"))) (_:eJ K (cl "Frame")) (_:ag K (cl "Frame") "names") (_:ag K (cl "Frame") "given") (_:ag K (cl "Frame") "walks") (_:ag K (cl "Frame") "loops") (_:mg "Walk" = some (.ref (cl "Walk"))) (_:eJ K (cl "Walk")) (_:ag K (cl "Walk") "row") (_:ag K (cl "Walk") "at") (_:mg "len" = none):hJ P w K mg base cl:=
 fK (N:=["self"]) D rfl (by left) (by obtain ⟨_,_,⟨_,_⟩,_⟩:=h_Walk_is_over;obtain ⟨_,_,⟨_,_⟩,_⟩:=h_Walk_before;right) rfl rfl (by right)
theorem mq (D:jU (λ f fd=>bw K (cl "Frame") "pass_by" f/\aP K fd ["self"] []) K "pass_by" "Frame.pass_by" dq) (h_Walk_taken:kW P w K mg base cl) (_:mg "Frame" = some (.ref (cl "Frame"))) (_:eJ K (cl "Frame")) (_:ag K (cl "Frame") "names") (_:ag K (cl "Frame") "given") (_:ag K (cl "Frame") "walks") (_:ag K (cl "Frame") "loops") (_:mg "Walk" = some (.ref (cl "Walk"))) (_:eJ K (cl "Walk")) (_:ag K (cl "Walk") "row") (_:ag K (cl "Walk") "at"):jk P w K mg base cl:=
 fK (N:=["self"]) D rfl (by left) (by obtain ⟨_,_,⟨_,_⟩,_⟩:=h_Walk_taken;right) rfl rfl (by right)
theorem lE (D:jU (λ f fd=>Mk K (cl "Story") f/\aP K fd ["self"] []) K "__init__" "Story.__init__" cP) (_:mg "Story" = some (.ref (cl "Story"))) (_:eJ K (cl "Story")) (_:ag K (cl "Story") "told") (_:ag K (cl "Story") "steps") (_:ag K (cl "Story") "end") (_:ag K (cl "Story") "brought") (_:ag K (cl "Story") "touches") (_:ag K (cl "Story") "puts") (_:ag K (cl "Story") "lines"):iK P w K mg base cl:=
 fK (N:=["self"]) D rfl (by left) (by right) rfl rfl (by right)
theorem jz (D:jU (λ f fd=>bw K (cl "Story") "begin_phase" f/\aP K fd ["self"] []) K "begin_phase" "Story.begin_phase" bV) (_:mg "Story" = some (.ref (cl "Story"))) (_:eJ K (cl "Story")) (_:ag K (cl "Story") "told") (_:ag K (cl "Story") "steps") (_:ag K (cl "Story") "end") (_:ag K (cl "Story") "brought") (_:ag K (cl "Story") "touches") (_:ag K (cl "Story") "puts") (_:ag K (cl "Story") "lines"):et P w K mg base cl:=
 fK (N:=["self"]) D rfl (by left) (by right) rfl rfl (by right)
theorem kZ (D:jU (λ f fd=>bw K (cl "Story") "add_step" f/\aP K fd ["self", "line"] []) K "add_step" "Story.add_step" cK) (_:mg "Story" = some (.ref (cl "Story"))) (_:eJ K (cl "Story")) (_:ag K (cl "Story") "told") (_:ag K (cl "Story") "steps") (_:ag K (cl "Story") "end") (_:ag K (cl "Story") "brought") (_:ag K (cl "Story") "touches") (_:ag K (cl "Story") "puts") (_:ag K (cl "Story") "lines"):iE P w K mg base cl:=
 fK (N:=["self", "line"]) D rfl (by left) (by right) rfl rfl (by right)
theorem kz (D:jU (λ f fd=>bw K (cl "Story") "add_touch" f/\aP K fd ["self", "word", "place", "line"] []) K "add_touch" "Story.add_touch" cx) (_:mg "Story" = some (.ref (cl "Story"))) (_:eJ K (cl "Story")) (_:ag K (cl "Story") "told") (_:ag K (cl "Story") "steps") (_:ag K (cl "Story") "end") (_:ag K (cl "Story") "brought") (_:ag K (cl "Story") "touches") (_:ag K (cl "Story") "puts") (_:ag K (cl "Story") "lines"):h9 P w K mg base cl:=
 fK (N:=["self", "word", "place", "line"]) D rfl (by left) (by right) rfl rfl (by right)
theorem md (D:jU (λ f fd=>bw K (cl "Story") "add_put" f/\aP K fd ["self", "place", "number"] []) K "add_put" "Story.add_put" dj) (_:mg "Story" = some (.ref (cl "Story"))) (_:eJ K (cl "Story")) (_:ag K (cl "Story") "told") (_:ag K (cl "Story") "steps") (_:ag K (cl "Story") "end") (_:ag K (cl "Story") "brought") (_:ag K (cl "Story") "touches") (_:ag K (cl "Story") "puts") (_:ag K (cl "Story") "lines"):je P w K mg base cl:=
 fK (N:=["self", "place", "number"]) D rfl (by left) (by right) rfl rfl (by right)
theorem nI (D:jU (λ f fd=>bw K (cl "Story") "finish" f/\aP K fd ["self", "word", "line"] []) K "finish" "Story.finish" dJ) (_:mg "Story" = some (.ref (cl "Story"))) (_:eJ K (cl "Story")) (_:ag K (cl "Story") "told") (_:ag K (cl "Story") "steps") (_:ag K (cl "Story") "end") (_:ag K (cl "Story") "brought") (_:ag K (cl "Story") "touches") (_:ag K (cl "Story") "puts") (_:ag K (cl "Story") "lines"):jM P w K mg base cl:=
 Lh (N:=["self", "word", "line"]) D rfl (by left) (by right) rfl rfl (by right)
theorem m7 (D:jU (λ f fd=>Mk K (cl "Goer") f/\aP K fd ["self", "program", "lane", "lanes", "mine", "boxes", "most"] []) K "__init__" "Goer.__init__" di) (_:jO P w K mg base) (h_Frame___init__:iH P w K mg base cl) (h_Story___init__:iK P w K mg base cl) (h_Story_begin_phase:et P w K mg base cl) (_:mg "Frame" = some (.ref (cl "Frame"))) (_:eJ K (cl "Frame")) (_:ag K (cl "Frame") "names") (_:ag K (cl "Frame") "given") (_:ag K (cl "Frame") "walks") (_:ag K (cl "Frame") "loops") (_:mg "Goer" = some (.ref (cl "Goer"))) (_:eJ K (cl "Goer")) (_:ag K (cl "Goer") "defs") (_:ag K (cl "Goer") "lane") (_:ag K (cl "Goer") "signs") (_:ag K (cl "Goer") "boxes") (_:ag K (cl "Goer") "most") (_:ag K (cl "Goer") "frames") (_:ag K (cl "Goer") "line") (_:ag K (cl "Goer") "meeting") (_:ag K (cl "Goer") "story") (_:mg "Story" = some (.ref (cl "Story"))) (_:eJ K (cl "Story")) (_:ag K (cl "Story") "told") (_:ag K (cl "Story") "steps") (_:ag K (cl "Story") "end") (_:ag K (cl "Story") "brought") (_:ag K (cl "Story") "touches") (_:ag K (cl "Story") "puts") (_:ag K (cl "Story") "lines"):jf P w K mg base cl:=
 fK (N:=["self", "program", "lane", "lanes", "mine", "boxes", "most", "each"]) D rfl (by left) (by obtain ⟨_,_,⟨_,_⟩,_⟩:=h_Frame___init__;obtain ⟨_,_,⟨_,_⟩,_⟩:=h_Story___init__;obtain ⟨_,_,⟨_,_⟩,_⟩:=h_Story_begin_phase;right) rfl rfl (by right)
theorem pG (D:jU (λ f fd=>bw K (cl "Goer") "touch" f/\aP K fd ["self", "word", "place"] []) K "touch" "Goer.touch" fh) (h_Story_add_touch:h9 P w K mg base cl) (_:mg "Goer" = some (.ref (cl "Goer"))) (_:eJ K (cl "Goer")) (_:ag K (cl "Goer") "defs") (_:ag K (cl "Goer") "lane") (_:ag K (cl "Goer") "signs") (_:ag K (cl "Goer") "boxes") (_:ag K (cl "Goer") "most") (_:ag K (cl "Goer") "frames") (_:ag K (cl "Goer") "line") (_:ag K (cl "Goer") "meeting") (_:ag K (cl "Goer") "story") (_:mg "Story" = some (.ref (cl "Story"))) (_:eJ K (cl "Story")) (_:ag K (cl "Story") "told") (_:ag K (cl "Story") "steps") (_:ag K (cl "Story") "end") (_:ag K (cl "Story") "brought") (_:ag K (cl "Story") "touches") (_:ag K (cl "Story") "puts") (_:ag K (cl "Story") "lines") (_:mg "Outside" = some (.ref (cl "Outside"))) (_:XClE K (cl "Outside")) (_:mg "len" = none):iW P w K mg base cl:=
 xx (N:=["self", "word", "place"]) D rfl (λ E=>⟨_,by left,by obtain ⟨_,_,⟨_,_⟩,_⟩:=h_Story_add_touch;right⟩) rfl rfl (by right)
theorem ux (D:jU (λ f fd=>bw K (cl "Goer") "got" f/\aP K fd ["self", "place"] []) K "got" "Goer.got" gK) (h_Goer_touch:iW P w K mg base cl) (_:mg "Goer" = some (.ref (cl "Goer"))) (_:eJ K (cl "Goer")) (_:ag K (cl "Goer") "defs") (_:ag K (cl "Goer") "lane") (_:ag K (cl "Goer") "signs") (_:ag K (cl "Goer") "boxes") (_:ag K (cl "Goer") "most") (_:ag K (cl "Goer") "frames") (_:ag K (cl "Goer") "line") (_:ag K (cl "Goer") "meeting") (_:ag K (cl "Goer") "story"):oR P w K mg base cl:=
 xx (N:=["self", "place"]) D rfl (λ E=>⟨_,by left,by obtain ⟨_,_,⟨_,_⟩,_⟩:=h_Goer_touch;right⟩) rfl rfl (by right)
theorem mI (D:jU (λ f fd=>bw K (cl "Goer") "reckoned" f/\aP K fd ["self", "expression"] []) K "reckoned" "Goer.reckoned" dm) (h_Goer_got:oR P w K mg base cl) (_:u9 P w K mg base) (_:mg "Frame" = some (.ref (cl "Frame"))) (_:eJ K (cl "Frame")) (_:ag K (cl "Frame") "names") (_:ag K (cl "Frame") "given") (_:ag K (cl "Frame") "walks") (_:ag K (cl "Frame") "loops") (_:mg "Goer" = some (.ref (cl "Goer"))) (_:eJ K (cl "Goer")) (_:ag K (cl "Goer") "defs") (_:ag K (cl "Goer") "lane") (_:ag K (cl "Goer") "signs") (_:ag K (cl "Goer") "boxes") (_:ag K (cl "Goer") "most") (_:ag K (cl "Goer") "frames") (_:ag K (cl "Goer") "line") (_:ag K (cl "Goer") "meeting") (_:ag K (cl "Goer") "story") (_:mg "Nought" = some (.ref (cl "Nought"))) (_:XClE K (cl "Nought")) {a_SIGNS:Addr} (m_SIGNS:mg "SIGNS" = some (.ref a_SIGNS)) (g_SIGNS:DQ K a_SIGNS ([(Str.ofString "lane"),(Str.ofString "lanes"),(Str.ofString "mine")])):eS P w K mg base cl:=
 wv (k:=3) (F:=λ n=>uH K cl (ay n)) (Fu D λ _ _=>rfl) (λ n hself=>xx (N:=["self", "expression", "kind", "number"]) D rfl (λ E=>⟨_,by left,by obtain ⟨_,_,⟨_,_⟩,_⟩:=h_Goer_got;obtain ⟨_,_,⟨_,_⟩,_⟩:=hself;right⟩) rfl rfl (by right)) 9
theorem rP (D:jU (λ f fd=>bw K (cl "Goer") "give" f/\aP K fd ["self", "name", "number"] []) K "give" "Goer.give" gk) (_:mg "Frame" = some (.ref (cl "Frame"))) (_:eJ K (cl "Frame")) (_:ag K (cl "Frame") "names") (_:ag K (cl "Frame") "given") (_:ag K (cl "Frame") "walks") (_:ag K (cl "Frame") "loops") (_:mg "Goer" = some (.ref (cl "Goer"))) (_:eJ K (cl "Goer")) (_:ag K (cl "Goer") "defs") (_:ag K (cl "Goer") "lane") (_:ag K (cl "Goer") "signs") (_:ag K (cl "Goer") "boxes") (_:ag K (cl "Goer") "most") (_:ag K (cl "Goer") "frames") (_:ag K (cl "Goer") "line") (_:ag K (cl "Goer") "meeting") (_:ag K (cl "Goer") "story"):jx P w K mg base cl:=
 fK (N:=["self", "name", "number"]) D rfl (by left) (by right) rfl rfl (by right)
theorem p8 (D:jU (λ f fd=>bw K (cl "Goer") "do_put" f/\aP K fd ["self", "statement"] []) K "do_put" "Goer.do_put" eI) (h_Goer_reckoned:eS P w K mg base cl) (h_Goer_touch:iW P w K mg base cl) (h_Story_add_put:je P w K mg base cl) (_:mg "Goer" = some (.ref (cl "Goer"))) (_:eJ K (cl "Goer")) (_:ag K (cl "Goer") "defs") (_:ag K (cl "Goer") "lane") (_:ag K (cl "Goer") "signs") (_:ag K (cl "Goer") "boxes") (_:ag K (cl "Goer") "most") (_:ag K (cl "Goer") "frames") (_:ag K (cl "Goer") "line") (_:ag K (cl "Goer") "meeting") (_:ag K (cl "Goer") "story") (_:mg "Story" = some (.ref (cl "Story"))) (_:eJ K (cl "Story")) (_:ag K (cl "Story") "told") (_:ag K (cl "Story") "steps") (_:ag K (cl "Story") "end") (_:ag K (cl "Story") "brought") (_:ag K (cl "Story") "touches") (_:ag K (cl "Story") "puts") (_:ag K (cl "Story") "lines"):km P w K mg base cl:=
 xx (N:=["self", "statement", "place", "number"]) D rfl (λ E=>⟨_,by left,by obtain ⟨_,_,⟨_,_⟩,_⟩:=h_Goer_reckoned;obtain ⟨_,_,⟨_,_⟩,_⟩:=h_Goer_touch;obtain ⟨_,_,⟨_,_⟩,_⟩:=h_Story_add_put;right⟩) rfl rfl (by right)
theorem nJ (D:jU (λ f fd=>bw K (cl "Goer") "come_to" f/\aP K fd ["self", "statement"] []) K "come_to" "Goer.come_to" dR) (h_Goer_reckoned:eS P w K mg base cl) (_:mg "Goer" = some (.ref (cl "Goer"))) (_:eJ K (cl "Goer")) (_:ag K (cl "Goer") "defs") (_:ag K (cl "Goer") "lane") (_:ag K (cl "Goer") "signs") (_:ag K (cl "Goer") "boxes") (_:ag K (cl "Goer") "most") (_:ag K (cl "Goer") "frames") (_:ag K (cl "Goer") "line") (_:ag K (cl "Goer") "meeting") (_:ag K (cl "Goer") "story") (_:mg "Story" = some (.ref (cl "Story"))) (_:eJ K (cl "Story")) (_:ag K (cl "Story") "told") (_:ag K (cl "Story") "steps") (_:ag K (cl "Story") "end") (_:ag K (cl "Story") "brought") (_:ag K (cl "Story") "touches") (_:ag K (cl "Story") "puts") (_:ag K (cl "Story") "lines"):j4 P w K mg base cl:=
 xx (N:=["self", "statement", "number"]) D rfl (λ E=>⟨_,by left,by obtain ⟨_,_,⟨_,_⟩,_⟩:=h_Goer_reckoned;right⟩) rfl rfl (by right)
theorem vA (D:jU (λ f fd=>bw K (cl "Goer") "do" f/\aP K fd ["self", "statement"] []) K "do" "Goer.do" iF) (h_Frame_pass_by:jk P w K mg base cl) (h_Goer_give:jx P w K mg base cl) (h_Goer_reckoned:eS P w K mg base cl) (h_Goer_do_put:km P w K mg base cl) (h_Goer_come_to:j4 P w K mg base cl) (_:mg "Frame" = some (.ref (cl "Frame"))) (_:eJ K (cl "Frame")) (_:ag K (cl "Frame") "names") (_:ag K (cl "Frame") "given") (_:ag K (cl "Frame") "walks") (_:ag K (cl "Frame") "loops") (_:mg "Goer" = some (.ref (cl "Goer"))) (_:eJ K (cl "Goer")) (_:ag K (cl "Goer") "defs") (_:ag K (cl "Goer") "lane") (_:ag K (cl "Goer") "signs") (_:ag K (cl "Goer") "boxes") (_:ag K (cl "Goer") "most") (_:ag K (cl "Goer") "frames") (_:ag K (cl "Goer") "line") (_:ag K (cl "Goer") "meeting") (_:ag K (cl "Goer") "story") (_:mg "Story" = some (.ref (cl "Story"))) (_:eJ K (cl "Story")) (_:ag K (cl "Story") "told") (_:ag K (cl "Story") "steps") (_:ag K (cl "Story") "end") (_:ag K (cl "Story") "brought") (_:ag K (cl "Story") "touches") (_:ag K (cl "Story") "puts") (_:ag K (cl "Story") "lines"):qB P w K mg base cl:=
 xx (N:=["self", "statement", "kind"]) D rfl (λ E=>⟨_,by left,by obtain ⟨_,_,⟨_,_⟩,_⟩:=h_Frame_pass_by;obtain ⟨_,_,⟨_,_⟩,_⟩:=h_Goer_give;obtain ⟨_,_,⟨_,_⟩,_⟩:=h_Goer_reckoned;obtain ⟨_,_,⟨_,_⟩,_⟩:=h_Goer_do_put;obtain ⟨_,_,⟨_,_⟩,_⟩:=h_Goer_come_to;right⟩) rfl rfl (by right)
theorem sR (D:jU (λ f fd=>bw K (cl "Goer") "step" f/\aP K fd ["self", "statement"] []) K "step" "Goer.step" ge) (h_Story_add_step:iE P w K mg base cl) (h_Goer_do:qB P w K mg base cl) (_:mg "Goer" = some (.ref (cl "Goer"))) (_:eJ K (cl "Goer")) (_:ag K (cl "Goer") "defs") (_:ag K (cl "Goer") "lane") (_:ag K (cl "Goer") "signs") (_:ag K (cl "Goer") "boxes") (_:ag K (cl "Goer") "most") (_:ag K (cl "Goer") "frames") (_:ag K (cl "Goer") "line") (_:ag K (cl "Goer") "meeting") (_:ag K (cl "Goer") "story") (_:mg "Story" = some (.ref (cl "Story"))) (_:eJ K (cl "Story")) (_:ag K (cl "Story") "told") (_:ag K (cl "Story") "steps") (_:ag K (cl "Story") "end") (_:ag K (cl "Story") "brought") (_:ag K (cl "Story") "touches") (_:ag K (cl "Story") "puts") (_:ag K (cl "Story") "lines") (_:mg "Nought" = some (.ref (cl "Nought"))) (_:mg "Outside" = some (.ref (cl "Outside"))) (_:Eu K (cl "Nought") (cl "Outside")) (hn_Story_finish:jM P w K mg base cl):nj P w K mg base cl:=
 fK (N:=["self", "statement"]) D rfl (by left) (by obtain ⟨_,_,⟨_,_⟩,_⟩:=h_Story_add_step;obtain ⟨_,_,⟨_,_⟩,_⟩:=h_Goer_do;obtain ⟨_,_,⟨_,_⟩,hF⟩:=hn_Story_finish;have:=hF.all;right) rfl rfl (by right)
theorem nQ (D:jU (λ f fd=>bw K (cl "Goer") "end_def" f/\aP K fd ["self"] []) K "end_def" "Goer.end_def" dG) (h_Story_finish:ou P w K mg base cl) (_:mg "Goer" = some (.ref (cl "Goer"))) (_:eJ K (cl "Goer")) (_:ag K (cl "Goer") "defs") (_:ag K (cl "Goer") "lane") (_:ag K (cl "Goer") "signs") (_:ag K (cl "Goer") "boxes") (_:ag K (cl "Goer") "most") (_:ag K (cl "Goer") "frames") (_:ag K (cl "Goer") "line") (_:ag K (cl "Goer") "meeting") (_:ag K (cl "Goer") "story") (_:mg "Story" = some (.ref (cl "Story"))) (_:eJ K (cl "Story")) (_:ag K (cl "Story") "told") (_:ag K (cl "Story") "steps") (_:ag K (cl "Story") "end") (_:ag K (cl "Story") "brought") (_:ag K (cl "Story") "touches") (_:ag K (cl "Story") "puts") (_:ag K (cl "Story") "lines") (_:mg "len" = none):jN P w K mg base cl:=
 fK (N:=["self"]) D rfl (by left) (by obtain ⟨_,_,⟨_,_⟩,_⟩:=h_Story_finish;right) rfl rfl (by right)
theorem uT (D:jU (λ f fd=>bw K (cl "Goer") "go" f/\aP K fd ["self"] []) K "go" "Goer.go" iy) (h_Frame_statement:hJ P w K mg base cl) (h_Goer_end_def:jN P w K mg base cl) (h_Goer_step:nj P w K mg base cl) (_:mg "Frame" = some (.ref (cl "Frame"))) (_:eJ K (cl "Frame")) (_:ag K (cl "Frame") "names") (_:ag K (cl "Frame") "given") (_:ag K (cl "Frame") "walks") (_:ag K (cl "Frame") "loops") (_:mg "Goer" = some (.ref (cl "Goer"))) (_:eJ K (cl "Goer")) (_:ag K (cl "Goer") "defs") (_:ag K (cl "Goer") "lane") (_:ag K (cl "Goer") "signs") (_:ag K (cl "Goer") "boxes") (_:ag K (cl "Goer") "most") (_:ag K (cl "Goer") "frames") (_:ag K (cl "Goer") "line") (_:ag K (cl "Goer") "meeting") (_:ag K (cl "Goer") "story") (_:mg "Story" = some (.ref (cl "Story"))) (_:eJ K (cl "Story")) (_:ag K (cl "Story") "told") (_:ag K (cl "Story") "steps") (_:ag K (cl "Story") "end") (_:ag K (cl "Story") "brought") (_:ag K (cl "Story") "touches") (_:ag K (cl "Story") "puts") (_:ag K (cl "Story") "lines"):qf P w K mg base cl:=
 fK (N:=["self", "statement"]) D rfl (by left) (by obtain ⟨_,_,⟨_,_⟩,_⟩:=h_Frame_statement;obtain ⟨_,_,⟨_,_⟩,_⟩:=h_Goer_end_def;obtain ⟨_,_,⟨_,_⟩,_⟩:=h_Goer_step;right) rfl rfl (by right)
theorem rN (D:jU (λ f fd=>bw K (cl "Goer") "take" f/\aP K fd ["self", "letter"] []) K "take" "Goer.take" gh) (h_Goer_give:jx P w K mg base cl) (_:tZ P w K mg base) (h_Story_begin_phase:et P w K mg base cl) (_:mg "Goer" = some (.ref (cl "Goer"))) (_:eJ K (cl "Goer")) (_:ag K (cl "Goer") "defs") (_:ag K (cl "Goer") "lane") (_:ag K (cl "Goer") "signs") (_:ag K (cl "Goer") "boxes") (_:ag K (cl "Goer") "most") (_:ag K (cl "Goer") "frames") (_:ag K (cl "Goer") "line") (_:ag K (cl "Goer") "meeting") (_:ag K (cl "Goer") "story") (_:mg "Story" = some (.ref (cl "Story"))) (_:eJ K (cl "Story")) (_:ag K (cl "Story") "told") (_:ag K (cl "Story") "steps") (_:ag K (cl "Story") "end") (_:ag K (cl "Story") "brought") (_:ag K (cl "Story") "touches") (_:ag K (cl "Story") "puts") (_:ag K (cl "Story") "lines") (_:mg "list" = none):ny P w K mg base cl:=
 fK (N:=["self", "letter"]) D rfl (by left) (by obtain ⟨_,_,⟨_,_⟩,_⟩:=h_Goer_give;obtain ⟨_,_,⟨_,_⟩,_⟩:=h_Story_begin_phase;right) rfl rfl (by right)
theorem yB (D:rZ K mg "alone" ["program", "lane", "lanes", "mine", "boxes", "most", "letters"] [] wF) (h_Goer___init__:jf P w K mg base cl) (h_Goer_go:qf P w K mg base cl) (h_Goer_take:ny P w K mg base cl) (_:mg "Goer" = some (.ref (cl "Goer"))) (_:eJ K (cl "Goer")) (_:ag K (cl "Goer") "defs") (_:ag K (cl "Goer") "lane") (_:ag K (cl "Goer") "signs") (_:ag K (cl "Goer") "boxes") (_:ag K (cl "Goer") "most") (_:ag K (cl "Goer") "frames") (_:ag K (cl "Goer") "line") (_:ag K (cl "Goer") "meeting") (_:ag K (cl "Goer") "story"):vQ P w K mg base cl:=
 fK (N:=["program", "lane", "lanes", "mine", "boxes", "most", "letters", "goer", "letter"]) D rfl (by left) (by obtain ⟨_,_,⟨_,_⟩,_⟩:=h_Goer___init__;obtain ⟨_,_,⟨_,_⟩,_⟩:=h_Goer_go;obtain ⟨_,_,⟨_,_⟩,_⟩:=h_Goer_take;right) rfl rfl (by right)
theorem sD (D:rZ K mg "_law_cell" ["_law_script", "_law_k"] [] nv) (_:mg "len" = none):j1 P w K mg base:=
 pR (N:=["_law_script", "_law_k"]) D rfl (λ ρ=>by left) (by right) rfl rfl (by right)
theorem pJ (D:rZ K mg "_law_mixed" ["_law_cell_here", "_law_k"] [] lP):gu P w K mg base:=
 pR (N:=["_law_cell_here", "_law_k", "_law_number"]) D rfl (λ ρ=>by left) (by right) rfl rfl (by right)
theorem lB (D:rZ K mg "_law_all_whole" ["_law_row"] [] iw) (_:mg "len" = none) (_:mg "isinstance" = none) (_:mg "bool" = none) (_:mg "int" = none):iI P w K mg base cl:=
 fK (N:=["_law_row"]) D rfl (by left) (by right) rfl rfl (by right)
theorem kr (D:rZ K mg "_law_into_range" ["_law_number"] [] gX):d9 P w K mg base:=
 pR (N:=["_law_number"]) D rfl (λ ρ=>by left) (by right) rfl rfl (by right)
theorem pQ (D:rZ K mg "_law_names" ["_law_cell_here"] [] lu) (_:mg "range" = none):lC P w K mg base:=
 pR (N:=["_law_cell_here", "_law_size", "_law_at", "_law_letters_here", "_law_names_here", "_law_k", "_law_one"]) D rfl (λ ρ=>by left) (by right) rfl rfl (by right)
theorem nR (D:rZ K mg "_law_letters" ["_law_script", "_law_many", "_law_lanes", "_law_lane", "_law_room"] [] jE) (_:j1 P w K mg base) (_:gu P w K mg base) (_:mg "range" = none):jy P w K mg base:=
 pR (N:=["_law_script", "_law_many", "_law_lanes", "_law_lane", "_law_room", "_law_letters_here", "_law_j", "_law_cell_here", "_law_brought", "_law_k", "_law_number", "_law_boxes"]) D rfl (λ ρ=>by left) (by right) rfl rfl (by right)
theorem pV (D:rZ K mg "_law_value" ["_law_number", "_law_now"] [] lN) (_:d9 P w K mg base):kX P w K mg base cl:=
 fK (N:=["_law_number", "_law_now", "_law_way", "_law_more", "_law_name", "_law_drawn"]) D rfl (by left) (by right) rfl rfl (by right)
theorem pH (D:rZ K mg "_law_place" ["_law_number", "_law_now"] [] lw) (_:mg "len" = none) (_:mg "max" = none):kR P w K mg base cl:=
 fK (N:=["_law_number", "_law_now", "_law_room", "_law_way", "_law_more", "_law_name"]) D rfl (by left) (by right) rfl rfl (by right)
theorem sk (D:rZ K mg "_law_line" ["_law_cell_here", "_law_line_here", "_law_now"] [] nq) (_:gu P w K mg base) (_:kR P w K mg base cl) (_:kX P w K mg base cl):mY P w K mg base cl:=
 fK (N:=["_law_cell_here", "_law_line_here", "_law_now", "_law_number", "_law_kind", "_law_name", "_law_place_here", "_law_one", "_law_word"]) D rfl (by left) (by right) rfl rfl (by right)
theorem pP (D:rZ K mg "_law_comes" ["_law_word", "_law_brought", "_law_lane"] [] lJ) (_:d9 P w K mg base) (_:mg "max" = none) (_:mg "min" = none) (_:mg "sum" = none):lQ P w K mg base:=
 pR (N:=["_law_word", "_law_brought", "_law_lane", "_law_there"]) D rfl (λ ρ=>by left) (by right) rfl rfl (by right)
theorem nM (D:rZ K mg "_law_meeting" ["_law_now", "_law_row", "_law_number"] [] j8) (_:lQ P w K mg base) (_:mg "list" = none):jI P w K mg base cl:=
 fK (N:=["_law_now", "_law_row", "_law_number", "_law_letter", "_law_worth"]) D rfl (by left) (by right) rfl rfl (by right)
theorem nK (D:rZ K mg "_law_touched" ["_law_now", "_law_row", "_law_place_here", "_law_number"] [] ju) (_:mg "int" = none):jH P w K mg base cl:=
 fK (N:=["_law_now", "_law_row", "_law_place_here", "_law_number", "_law_boxes", "_law_puts"]) D rfl (by left) (by right) rfl rfl (by right)
theorem sC (D:rZ K mg "_law_done" ["_law_now", "_law_row", "_law_place_here", "_law_number"] [] ni) (_:jH P w K mg base cl) (_:jI P w K mg base cl) (_:mg "len" = none):nB P w K mg base cl:=
 fK (N:=["_law_now", "_law_row", "_law_place_here", "_law_number", "_law_worth"]) D rfl (by left) (by right) rfl rfl (by right)
theorem pK (D:rZ K mg "_law_holds" ["_law_story", "_law_now"] [] kY) (_:iI P w K mg base cl) (_:mg "Story" = some (.ref (cl "Story"))) (_:eJ K (cl "Story")) (_:ag K (cl "Story") "told") (_:ag K (cl "Story") "steps") (_:ag K (cl "Story") "end") (_:ag K (cl "Story") "brought") (_:ag K (cl "Story") "touches") (_:ag K (cl "Story") "puts") (_:ag K (cl "Story") "lines") (_:mg "len" = none):lR P w K mg base cl:=
 fK (N:=["_law_story", "_law_now"]) D rfl (by left) (by right) rfl rfl (by right)
theorem G7 {R:Addr->FuncData->Prop} (hlaw:∀ ns:List Int,ns.length<=63->∃ S,zj [.list (ns.map .int)] []=some (.ok (.bool true),S)) (D:jU R K "law" "law" tN) (_:gu P w K mg base) (_:j1 P w K mg base) (_:jy P w K mg base) (_:d9 P w K mg base) (_:lC P w K mg base) (_:mY P w K mg base cl) (_:nB P w K mg base cl) (_:vQ P w K mg base cl) (_:lR P w K mg base cl) (_:mg "Story" = some (.ref (cl "Story"))) (_:eJ K (cl "Story")) (_:ag K (cl "Story") "told") (_:ag K (cl "Story") "steps") (_:ag K (cl "Story") "end") (_:ag K (cl "Story") "brought") (_:ag K (cl "Story") "touches") (_:ag K (cl "Story") "puts") (_:ag K (cl "Story") "lines") (_:mg "range" = none) (_:mg "list" = none) (_:mg "len" = none) (_:mg "repr" = none):Ce R P w K mg base 18 ["_law_script"] (rc K):=
 Ce.imp (sp:=ji K cl zj) (fK (N:=["_law_script", "_law_first", "_law_lanes", "_law_lane", "_law_room", "_law_mine", "_law_handed", "_law_third", "_law_letters_here", "_law_most", "_law_now", "_law_body", "_law_cell_here", "_law_row", "_law_place_here", "_law_number", "_law_program", "_law_kept", "_law_story"]) D rfl (by left) (by right) rfl rfl (by right)) λ vs H Q E h=>by
  obtain ⟨a,ns,rfl,hS,h63,q⟩:=h;obtain ⟨Sf,hl⟩:=hlaw ns h63;exact ⟨[],H,[],[.list (ns.map .int)],.bool true,Sf,.refl _,EU,.cons (.lst hS (.ints ns)) .nil,hl,λ v ρ' G' H' g s dv=>by cases dv;exact q H'⟩
end
inductive Tr where
 | num (v:Int) | sig (k:Fin 3) | nam (x:Str) | box (t:Tr) | op (k:Fin 7) (a b:Tr)
noncomputable def AE (i:Fin 3):Str:=[Str.ofString "lane", Str.ofString "lanes", Str.ofString "mine"].getD i.1 ""
noncomputable def kU (i:Fin 7):Str:=[Str.ofString "+", Str.ofString "-", Str.ofString "*", Str.ofString "div", Str.ofString "rem", Str.ofString "<", Str.ofString "="].getD i.1 ""
noncomputable def tw:Tr->W
 | .num v=>.tuple [.str "num", .int v]
 | .sig k=>.tuple [.str (AE k)]
 | .nam x=>.tuple [.str "name", .str x]
 | .box t=>.tuple [.str "box", tw t]
 | .op k a b=>.tuple [.str (kU k),tw a,tw b]
noncomputable def mj:Tr->Nat
 | .num _=>0 | .sig _=>0 | .nam _=>0
 | .box t=>mj t+1
 | .op _ a b=>max (mj a) (mj b)+1
theorem Og:∀ k,decide (AE k=Str.ofString "num")=false:=by decide +kernel
theorem Om:∀ k,decide (AE k=Str.ofString "name")=false:=by decide +kernel
theorem N7:∀ k,rK (.str (AE k)) (.tuple [.str "lane", .str "lanes", .str "mine"])=some true:=by decide +kernel
theorem NO:∀ k,decide (kU k=Str.ofString "num")=false:=by decide +kernel
theorem NR:∀ k,decide (kU k=Str.ofString "name")=false:=by decide +kernel
theorem Ox:∀ k,decide (kU k=Str.ofString "box")=false:=by decide +kernel
theorem Oh:∀ k,rK (.str (kU k)) (.tuple [.str "lane", .str "lanes", .str "mine"])=some false:=by decide +kernel
theorem N2:decide (Str.ofString "name" = Str.ofString "num")=false:=by decide +kernel
theorem On:decide (Str.ofString "box" = Str.ofString "num")=false:=by decide +kernel
theorem Oz:decide (Str.ofString "box" = Str.ofString "name")=false:=by decide +kernel
theorem NF:rK (.str "box") (.tuple [.str "lane", .str "lanes", .str "mine"])=some false:=by decide +kernel
theorem tF {f:DS->Option W} {δ:DS} {a b:Str} (h1:f δ=some (.str a)) (h2:decide (a=b)=false):aC bJ f (dC (.str b)) δ=some false:=by simp! [uD,h1,h2]
theorem tT {f:DS->Option W} {δ:DS} {a:Str} (h1:f δ=some (.str a)):aC bJ f (dC (.str a)) δ=some true:=by simp! [uD,h1]
theorem sF {f:DS->Option W} {δ:DS} {a b:Str} {S:ai} (h1:f δ=some (.str a)) (h2:decide (a=b)=false):aa (aC bJ f (dC (.str b))) δ S=some (.ok false,S):=au (tF h1 h2)
theorem sT {f:DS->Option W} {δ:DS} {a:Str} {S:ai} (h1:f δ=some (.str a)):aa (aC bJ f (dC (.str a))) δ S=some (.ok true,S):=au (tT h1)
theorem x0 {f:DS->Option W} {δ:DS} {w:W} {l:List W} (h:f δ=some (.tuple (w::l))):aB bC f (!0) δ=some w:=by simp only [aB,h,dC,OA,qK,Ku]
theorem x1 {f:DS->Option W} {δ:DS} {v w:W} {l:List W} (h:f δ=some (.tuple (v::w::l))):aB bC f (!1) δ=some w:=by simp only [aB,h,dC,OA,qK,Oe]
theorem x2 {f:DS->Option W} {δ:DS} {u v w:W} {l:List W} (h:f δ=some (.tuple (u::v::w::l))):aB bC f (!2) δ=some w:=by simp only [aB,h,dC,OA,qK,LR]
theorem x3 {f:DS->Option W} {δ:DS} {t u v w:W} {l:List W} (h:f δ=some (.tuple (t::u::v::w::l))):aB bC f (!3) δ=some w:=by simp only [aB,h,dC,OA,qK,MD]
theorem x4 {f:DS->Option W} {δ:DS} {s t u v w:W} {l:List W} (h:f δ=some (.tuple (s::t::u::v::w::l))):aB bC f (!4) δ=some w:=by simp only [aB,h,dC,OA,qK,Nl]
theorem fS {f g:DS->Option fZ} {δ:DS} {d:W} (h:f δ=some (.rt d)):bF f g δ=some (.rt d):=by unfold bF;rw [h]
theorem pF {f:DS->Option W} {δ:DS} {a b:Str} {S:ai} {g:DS->Option fZ} {k:DS->ai->SO} (h1:f δ=some (.str a)) (h2:decide (a=b)=false):ak (al (cB (aC bJ f (dC (.str b))) g aw)) k δ S=k δ S:=ah (aI (aX (b:=false) (tF h1 h2) rfl))
theorem cF {f:DS->Option W} {δ:DS} {a b:Str} {S:ai} {g k:DS->ai->SO} (h1:f δ=some (.str a)) (h2:decide (a=b)=false):ak (bv (aa (aC bJ f (dC (.str b)))) g (al aw)) k δ S=k δ S:=ah ((bH (sF h1 h2)).trans rfl)
theorem fF {f:DS->Option W} {δ:DS} {a b:Str} {S:ai} {g k:DS->ai->SO} (h1:f δ=some (.str a)) (h2:decide (a=b)=false):bv (aa (aC bJ f (dC (.str b)))) g k δ S=k δ S:=bH (sF h1 h2)
theorem fT {f:DS->Option W} {δ:DS} {a:Str} {S:ai} {g k:DS->ai->SO} (h1:f δ=some (.str a)):bv (aa (aC bJ f (dC (.str a)))) g k δ S=g δ S:=cf (sT h1)
theorem fB {f:DS->Option W} {g:DS->Option (List W)} {δ:DS} {a:W} {l:List W} (h1:f δ=some a) (h2:g δ=some l):ac f g δ=some (a::l):=by simp only [ac,h1,h2,OA,OC]
theorem Hc {g:DS->Option (List W)} {δ:DS} {l:List W} (h:g δ=some l) (hl:l.length<=9000):aR g δ=some (.tuple l):=by
 have z:=sz _ hl;simp only [aR,h,OA,OG z]
theorem Kx {f:DS->Option W} {δ:DS} {a:W} (h:f δ=some a):aR #[f] δ=some (.tuple [a]):=Hc (fB h rfl) (by simp)
theorem mU {f g:DS->Option W} {δ:DS} {a b:W} (h:f δ=some a) (h':g δ=some b):aR #[f,g] δ=some (.tuple [a,b]):=Hc (fB h (fB h' rfl)) (by simp)
theorem uj {f g k:DS->Option W} {δ:DS} {a b c:W} (h:f δ=some a) (h':g δ=some b) (h2:k δ=some c):aR #[f,g,k] δ=some (.tuple [a,b,c]):=Hc (fB h (fB h' (fB h2 rfl))) (by simp)
theorem Ly {f g k m:DS->Option W} {δ:DS} {a b c d:W} (h:f δ=some a) (h':g δ=some b) (h2:k δ=some c) (h3:m δ=some d):aR #[f,g,k,m] δ=some (.tuple [a,b,c,d]):=Hc (fB h (fB h' (fB h2 (fB h3 rfl)))) (by simp)
theorem JZ {f g:DS->Option W} {δ:DS} {l:List W} {i:Int} {x:W} (h1:f δ=some (.list l)) (h2:g δ=some (.int i)) (h3:iO l i=some x):aB bC f g δ=some x:=by simp only [aB,h1,h2,OA,CM,h3]
theorem mO {f:List W->Option W} {fa:DS->Option (List W)} {δ:DS} {ds:List W} {d:W} (h1:fa δ=some ds) (h2:f ds=some d):aZ f fa δ=some d:=by simp only [aZ,h1,OA,h2]
theorem uE {c:W->W->Option Bool} {f g:DS->Option W} {δ:DS} {a b:W} {r:Bool} (h1:f δ=some a) (h2:g δ=some b) (h3:c a b=some r):aC c f g δ=some r:=by simp only [aC,h1,h2,OA,h3]
theorem dO {c:W->W->Option W} {f g:DS->Option W} {δ:DS} {a b r:W} (h1:f δ=some a) (h2:g δ=some b) (h3:c a b=some r):aB c f g δ=some r:=by simp only [aB,h1,h2,OA,h3]
theorem dA {f g:DS->Option Bool} {δ:DS} {r:Bool} (h1:f δ=some true) (h2:g δ=some r):lX f g δ=some r:=by simp! [uD,h1,h2]
theorem Mn {f g:DS->Option Bool} {δ:DS} (h1:f δ=some false):lX f g δ=some false:=by simp! [uD,h1]
theorem ye {f g:DS->Option W} {δ:DS} {a b:W} (h:f δ=some a) (h':g δ=some b):#[f,g] δ=some [a,b]:=fB h (fB h' rfl)
theorem Oi {f g k:DS->Option W} {δ:DS} {a b c:W} (h:f δ=some a) (h':g δ=some b) (h2:k δ=some c):#[f,g,k] δ=some [a,b,c]:=fB h (fB h' (fB h2 rfl))
theorem Kb {ix:List (Option Nat)} {fi:DS->Option (List W)} {h:W->DS->Option DS} {c:DS->Option Bool} {fe:DS->Option W} {δ:DS} {ds r:List W} (h1:fi δ=some ds) (h2:ds.length<=9000) (h3:dZ h c fe (bP ix δ) ds=some r):cn (iG ix fi h c fe) δ=some (.list r):=by
 have z:=sz _ h2;simp only [cn,iG,h1,OA,OG z,h3,OC]
theorem tD {f:DS->Option W} {δ:DS} {a b:Str} (h1:f δ=some (.str a)):aC bJ f (dC (.str b)) δ=some (decide (a=b)):=by simp! [uD,h1]
noncomputable def wr (n:Int):Int:=(n+2147483648).fmod 4294967296-2147483648
noncomputable abbrev Rg (n:Int):Prop := -2147483648<=n/\n<=2147483647
theorem qA (n:Int):Rg (wr n):=by
 have h:=b9 (n+2147483648) (j:=4294967296) (by decide);unfold wr;constructor <;> omega
theorem Dj {n:Int} (h:Rg n):wr n=n:=by
 unfold wr;rw [Int.fmod_eq_emod_of_nonneg _ (by decide),Int.emod_eq_of_lt (by omega) (by omega)];omega
theorem fY (n:Int):bR [.int n]=some (.int (wr n)):=by
 refine eG rfl (aV ?_);have e:n - -2147483648=n+2147483648:=by omega
 have m:=b3 (n+2147483648) (j:=4294967296) (by decide);simp! [uD,e,m];rfl
theorem jv (n:Int):aH [.int n]=some (.int (wr n)):=by
 refine eG rfl (aV ?_);have m:=b3 (n+2147483648) (j:=4294967296) (by decide);simp! [uD,m];rfl
noncomputable def xK (k:Fin 7) (a b:Int):Int:=if k=0 then a+b else if k=1 then a-b else if k=2 then a*b else if k=3 then a.fdiv b else if k=4 then a-b*a.fdiv b else if k=5 then (if a<b then 1 else 0) else (if a=b then 1 else 0)
noncomputable def wk (k:Fin 7) (a b:Int):Option Int:=if (k=3∨k=4)/\b=0 then none else some (wr (xK k a b))
theorem oq:∀ k:Fin 7,(decide (kU k=Str.ofString "+")=decide (k=0)/\decide (kU k=Str.ofString "-")=decide (k=1)/\decide (kU k=Str.ofString "*")=decide (k=2)/\decide (kU k=Str.ofString "div")=decide (k=3)/\decide (kU k=Str.ofString "rem")=decide (k=4)/\decide (kU k=Str.ofString "<")=decide (k=5)):=by decide +kernel
theorem oi:∀ k:Fin 7,rK (.str (kU k)) (.tuple [.str "div", .str "rem"])=some (decide (k=3∨k=4)):=by decide +kernel
theorem om {a b:Int} (ha:Rg a):n9 a b=true:=fW (by have:=ha.1;omega) (by have:=ha.2;omega)
theorem od {a b:Int} (hb:Rg b) (h0:b≠0):oJ a b=true:=by
 have:b.natAbs<2^200:=ON (show b.natAbs<2^32 by omega) (Nat.pow_le_pow_right (by decide) (by decide));simp [oJ,h0,this]
theorem FT (a:Int) {b:Int} (h:b<0):b<a.fmod b/\a.fmod b<=0:=by
 have e:=@Int.fmod_eq_emod a b;have h1:=Int.emod_nonneg a (show b≠0 by omega);have h2:a%b < -b:=by
  have:=Int.emod_lt_of_pos a (b := -b) (by omega)
  rwa [Int.emod_neg] at this
 rw [e];split
 . rename_i hd;rcases hd with hd | hd
   . omega
   . have:=Int.emod_eq_zero_of_dvd hd;omega
 . rename_i hd;have:a%b≠0:=λ z=>hd (.inr (Int.dvd_of_emod_eq_zero z));omega
theorem IQ {a b:Int} (ha:Rg a) (hb:Rg b) (h0:b≠0) : -(2^64)<a.fdiv b/\a.fdiv b<2^64:=by
 have e:=Int.mul_fdiv_add_fmod a b;have q1:0<b->0<=a.fmod b/\a.fmod b<b:=λ h=>b9 a h;have q2:b<0->b<a.fmod b/\a.fmod b<=0:=λ h=>FT a h;generalize a.fdiv b=d at e ⊢;generalize a.fmod b=r at e q1 q2;rcases Int.lt_or_gt_of_ne h0 with h | h
 . obtain ⟨h1,h2⟩:=q2 h;constructor
   . refine Int.not_le.mp λ hd=>?_;have:b*d ≥ (-1)*(-(2^64)):=by
      have h3:(-b)*(-d) ≥ 1*(2^64):=QL (by omega) (by omega) (by decide) (by omega);have:(-b)*(-d)=b*d:=by simp [Int.neg_mul_neg]
      omega
     omega
   . refine Int.not_le.mp λ hd=>?_;have h3:(-b)*d ≥ 1*(2^64):=QL (by omega) (by omega) (by decide) (by omega);have:(-b)*d = -(b*d):=by rw [Int.neg_mul]
     omega
 . obtain ⟨h1,h2⟩:=q1 h;constructor
   . refine Int.not_le.mp λ hd=>?_;have h3:b*(-d) ≥ 1*(2^64):=QL (by omega) (by omega) (by decide) (by omega);have:b*(-d) = -(b*d):=by rw [Int.mul_neg]
     omega
   . refine Int.not_le.mp λ hd=>?_;have h3:b*d ≥ 1*(2^64):=QL (by omega) (by omega) (by decide) (by omega);omega
theorem Fs {a b:Int}:a-b*a.fdiv b=a.fmod b:=by have:=Int.mul_fdiv_add_fmod a b;omega
theorem Ch (k:Fin 7) {a b:Int} (ha:Rg a) (hb:Rg b) (h0:¬ ((k=3∨k=4)/\b=0)):j0 [.str (kU k),.int a,.int b]=some (.int (xK k a b)):=by
 obtain ⟨q0,q1,q2,q3,q4,q5⟩:=oq k;have z0:∀ {δ:DS} {w:Str},aA 0 δ=some (.str (kU k))->aC bJ (aA 0) (dC (.str w)) δ=some (decide (kU k=w)):=λ h=>tD h;let δ:DS:=[.val (.str (kU k)),.val (.int a),.val (.int b)]
 refine eG rfl ?_;by_cases e0:k=0
 . subst e0;exact fS (aX (b:=true) (by rw [z0 rfl,q0];rfl) (aV rfl))
 refine ba (δ1:=δ) (aX (b:=false) (by rw [z0 rfl,q0,OE e0]) rfl) ?_;by_cases e1:k=1
 . subst e1;exact fS (aX (b:=true) (by rw [z0 rfl,q1];rfl) (aV rfl))
 refine ba (δ1:=δ) (aX (b:=false) (by rw [z0 rfl,q1,OE e1]) rfl) ?_;by_cases e2:k=2
 . subst e2;exact fS (aX (b:=true) (by rw [z0 rfl,q2];rfl) (aV (dO rfl rfl (fM (om ha)))))
 refine ba (δ1:=δ) (aX (b:=false) (by rw [z0 rfl,q2,OE e2]) rfl) ?_;by_cases e3:k=3
 . subst e3;have hb0:b≠0:=λ z=>h0 ⟨.inl rfl,z⟩;exact fS (aX (b:=true) (by rw [z0 rfl,q3];rfl) (aV (dO rfl rfl (vB (od hb hb0)))))
 refine ba (δ1:=δ) (aX (b:=false) (by rw [z0 rfl,q3,OE e3]) rfl) ?_;by_cases e4:k=4
 . subst e4;have hb0:b≠0:=λ z=>h0 ⟨.inr rfl,z⟩;have f:=IQ ha hb hb0;exact fS (aX (b:=true) (by rw [z0 rfl,q4];rfl) (aV (dO (b:=.int (b*a.fdiv b)) rfl (dO rfl (dO rfl rfl (vB (od hb hb0))) (fM (si f.1 f.2))) rfl)))
 refine ba (δ1:=δ) (aX (b:=false) (by rw [z0 rfl,q4,OE e4]) rfl) ?_;by_cases e5:k=5
 . subst e5;refine fS (aX (b:=true) (by rw [z0 rfl,q5];rfl) (aV ?_));show GW (aC sO (aA 1) (aA 2)) (!1) (!0) δ=_;simp! [δ,uD];by_cases h:a<b <;> simp [h,xK]
 refine ba (δ1:=δ) (aX (b:=false) (by rw [z0 rfl,q5,OE e5]) rfl) (aV ?_);show GW (aC bJ (aA 1) (aA 2)) (!1) (!0) δ=_;simp! [δ,uD];by_cases h:a=b <;> simp [h,xK,e0,e1,e2,e3,e4,e5]
noncomputable def oI:Option Int->W
 | some v=>.int v
 | none=>.none
theorem ve (k:Fin 7) {a b:Int} (ha:Rg a) (hb:Rg b):lp [.str (kU k),.int a,.int b]=some (oI (wk k a b)):=by
 have z2:=sz 2 (by decide);refine eG rfl ?_;have t1:aC rK (aA 0) (aR #[!"div",!"rem"]) [.val (.str (kU k)),.val (.int a),.val (.int b)]=some (decide (k=3∨k=4)):=uE rfl (mU rfl rfl) (oi k);have t2:aC bJ (aA 2) (!0) [.val (.str (kU k)),.val (.int a),.val (.int b)]=some (decide (b=0)):=rfl;by_cases h:(k=3∨k=4)/\b=0
 . rw [OV h.1] at t1;rw [OV h.2] at t2;refine fS (aX (b:=true) (dA t1 t2) ?_);rw [show wk k a b=none from OG h];exact aV rfl
 . have c:lX (aC rK (aA 0) (aR #[!"div",!"rem"])) (aC bJ (aA 2) !0) [.val (.str (kU k)),.val (.int a),.val (.int b)]=some false:=by
    by_cases h1:k=3∨k=4
    . rw [OV h1] at t1;rw [OE (λ z=>h ⟨h1,z⟩)] at t2;exact dA t1 t2
    . rw [OE h1] at t1;exact Mn t1
   refine ba (aX (b:=false) c rfl) ?_;rw [show wk k a b=some (wr (xK k a b)) from OT h];exact aV (mO (ds:=[.int (xK k a b)]) (fB (mO rfl (Ch k ha hb h)) rfl) (fY _))
section
variable {c f m:Str} {fo fi fv fk fx:DS->ai->SM W} {fa:DS->ai->SM (List W)} {δ:DS} {S S1 S2 S3:ai} {n l:Nat} {fs:List (Str×W)} {d y:W} {es q ds:List W} {i:Int}
theorem gH (h:S[n]?=some (.ins c fs)):jl c (.ref n) S=some (n,fs):=by simp [jl,kg,h]
theorem bg (h1:fo δ S=some (.ok (.ref n),S1)) (h2:S1[n]?=some (.ins c fs)) (h3:fs.lookup f=some d):ar c f fo δ S=some (.ok d,S1):=by simp only [ar,aq,h1,gH h2,OA,iL,h3,OC]
theorem er {g:List W->ai->SM W} (h1:fo δ S=some (.ok (.ref n),S1)) (h2:S1[n]?=some (.ins c fs)) (h3:fs.lookup m=none) (h4:fa δ S1=some (.ok ds,S2)) (h5:g (.ref n::ds) S2=some (.ok d,S3)):ck c m g fo fa δ S=some (.ok d,S3):=by
 simp only [ck,aq,h1,gH h2,OA,h3,Pj,h4,h5,noX]
theorem gN {g:List W->ai->SM W} {r:SM W} (h1:fo δ S=some (.ok (.ref n),S1)) (h2:S1[n]?=some (.ins c fs)) (h3:fs.lookup m=none) (h4:fa δ S1=some (.ok ds,S2)) (h5:g (.ref n::ds) S2=r):b7 c m g fo fa δ S=r:=by
 simp only [b7,aq,h1,gH h2,OA,h3,Pj,h4,h5]
theorem Fv {g:List W->ai->SM W} {e:Str} (h1:fo δ S=some (.ok (.ref n),S1)) (h2:S1[n]?=some (.ins c fs)) (h3:fs.lookup m=none) (h4:fa δ S1=some (.xc e,S2)):ck c m g fo fa δ S=some (.xc e,S2):=by
 simp only [ck,aq,h1,gH h2,OA,h3,Pj,h4]
theorem Hn {g:DS->ai->SM (List W)} {e:Str} (h1:fo δ S=some (.xc e,S1)):av fo g δ S=some (.xc e,S1):=by simp only [av,aq,h1]
theorem Gy {g:DS->ai->SM (List W)} {e:Str} (h1:fo δ S=some (.ok d,S1)) (h2:g δ S1=some (.xc e,S2)):av fo g δ S=some (.xc e,S2):=by simp only [av,aq,h1,h2]
theorem JQ (h1:fo δ S=some (.ok (.ref l),S1)) (h2:fi δ S1=some (.ok (.int i),S2)) (h3:S2[l]?=some (.lst es)) (h4:iO es i=some d):sIx fo fi δ S=some (.ok d,S2):=by simp only [sIx,aq,h1,h2,Ju h3,h4,iL,OC]
theorem Hq (h1:fo δ S=some (.ok (.list es),S1)) (h2:fi δ S1=some (.ok (.int i),S2)) (h4:iO es i=some d):sIx fo fi δ S=some (.ok d,S2):=by
 have:v5 (.list es) (.int i) S2=iO es i:=rfl;simp only [sIx,aq,h1,h2,this,h4,iL,OC]
theorem He (h1:fo δ S=some (.ok (.tuple es),S1)) (h2:fi δ S1=some (.ok (.int i),S2)) (h4:iO es i=some d):sIx fo fi δ S=some (.ok d,S2):=by
 have:v5 (.tuple es) (.int i) S2=iO es i:=rfl;simp only [sIx,aq,h1,h2,this,h4,iL,OC]
theorem JT (h1:fo δ S=some (.ok (.ref l),S1)) (h2:S1[l]?=some (.lst es)):nr fo δ S=some (.ok (!es.isEmpty),S1):=by simp only [nr,aq,h1,fj h2,OC,iL]
theorem wP (h1:fo δ S=some (.ok (.ref l),S1)) (h2:S1[l]?=some (.lst es)):gR fo δ S=some (.ok (.int es.length),S1):=by
 have:qt (.ref l) S1=some (.int es.length):=by unfold qt;rw [fj h2]
 simp only [gR,aq,h1,this,iL,OC]
theorem JJ (h1:fo δ S=some (.ok (.list es),S1)):gR fo δ S=some (.ok (.int es.length),S1):=by
 have:qt (.list es) S1=some (.int es.length):=rfl;simp only [gR,aq,h1,this,iL,OC]
theorem Lq (h1:fo δ S=some (.ok (.ref l),S1)) (h2:S1[l]?=some (.lst (es++[d]))):A8 fo δ S=some (.ok d,S1.set l (.lst es)):=by
 simp [A8,aq,h1,fj h2]
theorem js (h1:fo δ S=some (.ok (.ref l),S1)) (h2:S1[l]?=some (.lst es)) (h3:fv δ S1=some (.ok d,S2)) (h4:S2[l]?=some (.lst q)) (h5:q.length<9000):aQ fo fv δ S=some (.nx δ,S2.set l (.lst (q++[d]))):=by
 have z:q.length<sizeLine:=ON h5 (sz 9000 (by decide));simp only [aQ,iN,h1,fj h2,Qj,Pj,h3,fj h4,OA,OG z]
theorem appX {e:Str} (h1:fo δ S=some (.ok (.ref l),S1)) (h2:S1[l]?=some (.lst es)) (h3:fv δ S1=some (.xc e,S2)):aQ fo fv δ S=some (.xc e,S2):=by
 simp only [aQ,iN,h1,fj h2,Qj,Pj,h3]
theorem xh (h1:fv δ S=some (.ok d,S1)) (h2:fo δ S1=some (.ok (.ref n),S2)) (h3:S2[n]?=some (.ins c fs)) (h4:fs.length<1000):bQ c f fo fv δ S=some (.nx δ,S2.set n (.ins c (dF f d fs))):=by
 simp only [bQ,iN,h1,h2,gH h3,OA,OG h4]
theorem IV {a b:Int} (h1:fo δ S=some (.ok (.ref n),S)) (h2:S[n]?=some (.ins c fs)) (h3:fs.lookup f=some (.int a)) (h4:fv δ S=some (.ok (.int b),S)) (h5:fs.length<1000):j5 c f fo fv δ S=some (.nx δ,S.set n (.ins c (dF f (.int (a+b)) fs))):=by
 simp only [j5,iN,h1,gH h2,OA,h3,h4,gI,OG h5]
theorem wA {e:Str} (h:fo δ S=some (.xc e,S1)):aS fo δ S=some (.xc e,S1):=by simp only [aS,iN,h]
theorem L3 {e:Str} (h:fo δ S=some (.xc e,S1)):bO fo δ S=some (.xc e,S1):=by simp only [bO,iN,h]
theorem Bo {g h:DS->ai->SO} {e:Str} (h1:g δ S=some (.xc e,S1)):ak g h δ S=some (.xc e,S1):=by unfold ak;rw [h1]
theorem qZ {g:W->W->Option Bool} {b:Bool} (h1:fo δ S=some (.ok d,S1)) (h2:fi δ S1=some (.ok y,S2)) (h3:g d y=some b):kS g fo fi δ S=some (.ok b,S2):=by simp only [kS,aq,h1,h2,h3,iL,OC]
theorem Kt {a b:Int} (h1:fo δ S=some (.ok (.int a),S1)) (h2:fi δ S1=some (.ok (.int b),S2)):kd false fo fi δ S=some (.ok (decide (a=b)),S2):=by
 have:lh false (.int a) (.int b) S2=some (decide (a=b)):=rfl;simp only [kd,aq,h1,h2,this,iL,OC]
theorem vT {g:DS->ai->SM Bool} {b:Bool} (h:g δ S=some (.ok b,S1)):sB g δ S=some (.ok (.bool b),S1):=by simp only [sB,aq,h]
theorem iR {b:Bool} (h:fo δ S=some (.ok (.bool b),S1)):iV fo δ S=some (.ok b,S1):=by simp only [iV,aq,h,zy,iL,OC]
theorem hZ {g:DS->ai->SM Bool} {b:Bool} (h:g δ S=some (.ok b,S1)):jr g δ S=some (.ok (!b),S1):=by simp only [jr,aq,h]
theorem D1 {t:DS->ai->SM Bool} {r:SM W} (h:t δ S=some (.ok true,S1)) (h2:fo δ S1=r):Dx t fo fi δ S=r:=by simp only [Dx,aq,h,Pj,h2]
theorem Dz {t:DS->ai->SM Bool} {r:SM W} (h:t δ S=some (.ok false,S1)) (h2:fi δ S1=r):Dx t fo fi δ S=r:=by simp only [Dx,aq,h,Pw,Qp,h2]
theorem FN {t:DS->ai->SM Bool} {g:DS->ai->SO} {δ':DS} {k:Nat} (h1:t δ S=some (.ok true,S1)) (h2:g δ S1=some (.nx δ',S2)):cS t g (k+1) δ S=cS t g k δ' S2:=by
 show iN (t δ S) _=_;rw [h1];simp only [iN,Pj,h2]
theorem xO {t:DS->ai->SM Bool} {g:DS->ai->SO} {k:Nat} (h1:t δ S=some (.ok false,S1)):cS t g (k+1) δ S=some (.nx δ,S1):=by
 show iN (t δ S) _=_;rw [h1];rfl
theorem lj {kvs:List (bn×W)} {k:Str} (h1:fo δ S=some (.ok (.ref l),S1)) (h2:fk δ S1=some (.ok (.str k),S2)) (h3:S2[l]?=some (.dK kvs)) (h4:d8 kvs (.inr k)=some d):aD fo fk δ S=some (.ok d,S2):=by
 have:uz (.ref l) (.str k) S2=some (d8 kvs (Sum.inr k)):=by simp [uz,kg,h3,mS]
 simp only [aD,aq,h1,h2,this,OA,h4,iL,OC]
theorem Ah {kvs kvs':List (bn×W)} {k:Str} (h1:fo δ S=some (.ok (.ref l),S1)) (h0:S1[l]?=some (.dK kvs')) (h2:fk δ S1=some (.ok (.str k),S2)) (h5:fx δ S2=some (.ok y,S3)) (h3:S3[l]?=some (.dK kvs)):fN fo fk fx δ S=some (.ok ((d8 kvs (.inr k)).getD y),S3):=by
 have:uz (.ref l) (.str k) S3=some (d8 kvs (Sum.inr k)):=by simp [uz,kg,h3,mS]
 simp only [fN,aq,h1,uh h0,Qj,Pj,h2,h5,this,OA]
theorem Dn {kvs:List (bn×W)} {i:Int} (h1:fv δ S=some (.ok d,S1)) (h2:fo δ S1=some (.ok (.ref l),S2)) (h3:fk δ S2=some (.ok (.int i),S3)) (h4:S3[l]?=some (.dK kvs)) (h5:kvs.length<9000):bE fo fk fv δ S=some (.nx δ,S3.set l (.dK (eX kvs (.inl i) d))):=by
 have hl':kvs.length<sizeLine:=ON h5 (sz 9000 (by decide));have:uK (.ref l) (.int i) d S3=some (S3.set l (.dK (eX kvs (.inl i) d))):=by simp [uK,kg,h4,mS,hl']
 simp only [bE,iN,h1,h2,h3,this,OC]
theorem jw {kvs:List (bn×W)} {k:Str} (h1:fv δ S=some (.ok d,S1)) (h2:fo δ S1=some (.ok (.ref l),S2)) (h3:fk δ S2=some (.ok (.str k),S3)) (h4:S3[l]?=some (.dK kvs)) (h5:kvs.length<9000):bE fo fk fv δ S=some (.nx δ,S3.set l (.dK (eX kvs (.inr k) d))):=by
 have hl':kvs.length<sizeLine:=ON h5 (sz 9000 (by decide));have:uK (.ref l) (.str k) d S3=some (S3.set l (.dK (eX kvs (.inr k) d))):=by simp [uK,kg,h4,mS,hl']
 simp only [bE,iN,h1,h2,h3,this,OC]
end
noncomputable abbrev sU:=List (Str×Int)
noncomputable def vF (l:sU) (x:Str):Int:=match l.find? λ p=>decide (p.1=x) with
 | some p=>p.2
 | none=>0
noncomputable def uF (l:sU):List (bn×W):=l.map λ p=>(.inr p.1,.int p.2)
theorem zc (l:sU) (x:Str):(d8 (uF l) (.inr x)).getD (.int 0)=.int (vF l x):=by
 unfold d8 uF vF;induction l with
 | nil=>rfl
 | cons p l ih=>
  simp only [OK,Po];by_cases h:p.1=x
  . simp [h]
  . have:¬ (Sum.inr p.1:bn)=Sum.inr x:=λ z=>h (Sum.inr.inj z);simp only [this,h,decide_false];exact ih
noncomputable def iJ (l:sU) (x:Str) (v:Int):sU:=if (l.any λ p=>decide (p.1=x))=true then l.map λ p=>if p.1=x then (p.1,v) else p else l++[(x,v)]
theorem rH (l:sU) (x:Str) (v:Int):eX (uF l) (.inr x) (.int v)=uF (iJ l x v):=by
 have e:((uF l).any λ kv=>decide (kv.1=(Sum.inr x:bn)))=l.any λ p=>decide (p.1=x):=by
  unfold uF;rw [List.any_map];congr 1;funext p;simp
 unfold eX iJ;rw [e];split
 . unfold uF;rw [P4,P4];congr 1;funext p;by_cases h:p.1=x
   . simp [h]
   . have:¬ (Sum.inr p.1:bn)=Sum.inr x:=λ z=>h (Sum.inr.inj z);simp [h]
 . simp [uF]
noncomputable def zv (l:sU):Prop:=∀ p∈l,Rg p.2
theorem zv.put {l:sU} (h:zv l) (x:Str) {v:Int} (hv:Rg v):zv (iJ l x v):=by
 unfold iJ;split
 . intro p hp;obtain ⟨p',h1,rfl⟩:=Pp.mp hp;by_cases e:p'.1=x
   . simp only [e,Pj];exact hv
   . simp only [e,Qp];exact h p' h1
 . intro p hp;rcases Pe.mp hp with hp | hp
   . exact h p hp
   . rw [Px.mp hp];exact hv
theorem ud (l:sU) (x:Str) (v:Int):(iJ l x v).length<=l.length+1:=by
 unfold iJ;split <;> simp
theorem Er {l:sU} (h:zv l) (x:Str):Rg (vF l x):=by
 unfold vF;split
 . rename_i p hp;exact h p (List.mem_of_find?_eq_some hp)
 . decide
noncomputable def gy (T:ai) (l:List (Nat×Ob)):Prop:=(l.map (·.1)).Nodup/\∀ x∈l,T[x.1]?=some x.2
section
variable {T:ai} {l l':List (Nat×Ob)} {k i:Nat} {o:Ob}
theorem gy.get (h:gy T l) (e:l[k]?=some (i,o)):T[i]?=some o:=h.2 _ (Pb e)
theorem gy.lt (h:gy T l) {x:Nat×Ob} (m:x∈l):x.1<T.length:=(oG (h.2 x m)).1
theorem gy.set (h:gy T l) (e:l[k]?=some (i,o)) (o':Ob):gy (T.set i o') (l.set k (i,o')):=by
 have hk:=(oG e).1;have hi:(l.map (·.1))[k]?=some i:=by simp [e]
 have eq:(l.set k (i,o')).map (·.1)=l.map (·.1):=by
  rw [List.map_set];obtain ⟨h1,h2⟩:=oG hi
  show (l.map (·.1)).set k i=_;rw [<-h2,List.set_getElem_self]
 refine ⟨eq▸h.1,λ x hx=>?_⟩;obtain ⟨j,hj⟩:=Qo.mp hx;have il:i<T.length:=h.lt (Pb e);by_cases c:k=j
 . subst c;rw [Qe hk] at hj;cases hj;exact Qe il
 . rw [OU c] at hj;have hx1:(l.map (·.1))[j]?=some x.1:=by simp [hj]
   have ne:i≠x.1:=λ z=>c ((List.getElem?_inj (by simpa using hk) h.1).mp (by rw [hi,hx1,z]));rw [OU ne];exact h.2 x (Pb hj)
theorem gy.push (h:gy T l) (o:Ob):gy (T++[o]) ((T.length,o)::l):=by
 refine ⟨PD.mpr ⟨λ m=>?_,h.1⟩,λ x hx=>?_⟩
 . obtain ⟨x,hx,e⟩:=Pp.mp m;have:x.1<T.length:=h.lt hx;have e:x.1=T.length:=e;omega
 . rcases OO.mp hx with rfl | hx
   . simp
   . rw [OR (h.lt hx)];exact h.2 x hx
theorem gy.perm (h:gy T l) (p:l'.Perm l):gy T l':=⟨(p.map _).nodup_iff.mpr h.1,λ x hx=>h.2 x (p.mem_iff.mp hx)⟩
theorem gy.cast (h:gy T l) (e:l'=l):gy T l':=e▸h
theorem gy.tail {x:Nat×Ob} (h:gy T (x::l)):gy T l:=⟨(PD.mp h.1).2,λ y hy=>h.2 y (.tail _ hy)⟩
theorem gy.swap {A R:List (Nat×Ob)} {b t p b' t' p':Nat×Ob} (h:gy T (p'::t'::b'::(A++b::t::p::R))):gy T (A++b'::t'::p'::t::p::R):=by
 have q:(b::(A++b'::t'::p'::t::p::R)).Perm (p'::t'::b'::(A++b::t::p::R)):=by
  have h1:∀ {x:Nat×Ob} {X Y:List (Nat×Ob)},(X++x::Y).Perm (x::(X++Y)):=List.perm_middle;refine ((List.Perm.cons _ (h1.trans (.cons _ (h1.trans (.cons _ (h1.trans (.cons _ (List.Perm.refl _)))))))):List.Perm _ (b::b'::t'::p'::(A++t::p::R))).trans ?_;refine List.Perm.symm ?_;refine ((List.Perm.cons _ (.cons _ (.cons _ h1))):List.Perm _ (p'::t'::b'::b::(A++t::p::R))).trans ?_;generalize A++t::p::R=Z;have s:∀ (x y:Nat×Ob) (X:List (Nat×Ob)),(x::y::X).Perm (y::x::X):=λ x y X=>.swap y x X;exact ((List.Perm.cons _ (.cons _ (s _ _ _))).trans ((List.Perm.cons _ (s _ _ _)).trans ((s _ _ _).trans (List.Perm.cons _ ((List.Perm.cons _ (s _ _ _)).trans ((s _ _ _).trans (List.Perm.cons _ (s _ _ _))))))))
 exact (h.perm q).tail
end
noncomputable def sW (s:String):W:=.str (Str.ofString s)
structure Cn where
 defs:List (bn×W)
 lane:Int
 lanes:Int
 mine:Int
 most:Int
structure Lt where
 a:Int
 br:List (Option Int)
 bx:List Int
noncomputable def gl:Option Int->W
 | some i=>.int i
 | none=>.none
noncomputable def dS (l:Lt):W:=.tuple [.int l.a,.list (l.br.map gl),.list (l.bx.map .int)]
structure As where
 nm:sU
 bx:List Int
 td:List Int
 ln:List Int
 br:List (Int×Int)
 tc:List (List (Bool×Int×Int))
 tn:List (Bool×Int×Int)
 pt:List (List (Int×Int))
 pn:List (Int×Int)
 en:Option (Str×Int)
 lt:List Lt
 ov:Bool
noncomputable def iM (x:Bool×Int×Int):W:=.tuple [.str (if x.1=true then Str.ofString "put" else Str.ofString "get"),.int x.2.1,.int x.2.2]
noncomputable def uC (x:Int×Int):W:=.tuple [.int x.1,.int x.2]
noncomputable def pf:Option (Str×Int)->W
 | none=>.none
 | some x=>.tuple [.str x.1,.int x.2]
noncomputable def uB (l:List (Int×Int)):List (bn×W):=l.map λ p=>(.inl p.1,.int p.2)
noncomputable def li (l:List (Int×Int)) (x v:Int):List (Int×Int):=if (l.any λ p=>decide (p.1=x))=true then l.map λ p=>if p.1=x then (p.1,v) else p else l++[(x,v)]
theorem vJ (l:List (Int×Int)) (x v:Int):eX (uB l) (.inl x) (.int v)=uB (li l x v):=by
 have e:((uB l).any λ kv=>decide (kv.1=(Sum.inl x:bn)))=l.any λ p=>decide (p.1=x):=by
  unfold uB;rw [List.any_map];congr 1;funext p;simp
 unfold eX li;rw [e];split
 . unfold uB;rw [P4,P4];congr 1;funext p;by_cases h:p.1=x
   . simp [h]
   . have:¬ (Sum.inl p.1:bn)=Sum.inl x:=λ z=>h (Sum.inl.inj z);simp [h]
 . simp [uB]
theorem yb (l:List (Int×Int)) (x v:Int):(li l x v).length<=l.length+1:=by
 unfold li;split <;> simp
noncomputable def J8 (c:Cn) (k:Fin 3):Int:=[c.lane,c.lanes,c.mine].getD k.1 0
noncomputable def qd:Tr->Prop
 | .num v=>Rg v
 | .nam _=>True
 | .sig _=>True
 | .op k a b=>(k=0∨k=4/\∃ v,b=.num v/\0<v)/\qd a/\qd b
 | .box _=>False
noncomputable def vl (c:Cn) (l:sU):Tr->Int
 | .num v=>v
 | .nam x=>vF l x
 | .sig k=>J8 c k
 | .op k a b=>(wk k (vl c l a) (vl c l b)).getD 0
 | .box _=>0
structure ke (c:Cn):Prop where
 a:Rg c.lane
 b:Rg c.lanes
 m:Rg c.mine
 z:0<=c.lane
theorem EB {c:Cn} (h:ke c) (k:Fin 3):Rg (J8 c k):=by
 match k with
 | 0=>exact h.a
 | 1=>exact h.b
 | 2=>exact h.m
theorem so {k:Fin 7} {a b:Int} (h:¬ ((k=3∨k=4)/\b=0)):wk k a b=some (wr (xK k a b)):=by unfold wk;rw [OT h]
theorem Du {k:Fin 7} {b:Tr} {c:Cn} {l:sU} (h:k=0∨k=4/\∃ v,b=.num v/\0<v):¬ ((k=3∨k=4)/\vl c l b=0):=by
 rintro ⟨h1,h2⟩;rcases h with rfl | ⟨rfl,v,rfl,hv⟩
 . rcases h1 with h1 | h1 <;> exact absurd h1 (by decide)
 . have:v=0:=h2;omega
theorem wC {c:Cn} (hc:ke c) {l:sU} (hl:zv l):∀ {t:Tr},qd t->Rg (vl c l t)
 | .num _,h=>h
 | .nam x,_=>Er hl x
 | .sig k,_=>EB hc k
 | .op k a b,h=>by
  show Rg ((wk k (vl c l a) (vl c l b)).getD 0);rw [so (Du h.1)];exact qA _
 | .box _,h=>h.elim
inductive Rw where
 | put (a e:Tr)
 | tellB (a:Tr)
 | setB (x:Str) (a:Tr)
 | set (x:Str) (e:Tr)
 | tell (e:Tr)
 | meet
 | join (x:Str) (w:Fin 4) (e:Tr)
noncomputable def jW (w:Fin 4):Str:=[Str.ofString "sum", Str.ofString "most", Str.ofString "least", Str.ofString "ahead"].getD w.1 ""
noncomputable def cq (p:Int):Rw->W
 | .put a e=>.tuple [sW "put", .int p,tw a,tw e]
 | .tellB a=>.tuple [sW "tell", .int p,tw (.box a)]
 | .setB x a=>.tuple [sW "set", .int p,.str x,tw (.box a)]
 | .set x e=>.tuple [sW "set", .int p,.str x,tw e]
 | .tell e=>.tuple [sW "tell", .int p,tw e]
 | .meet=>.tuple [sW "meet", .int p]
 | .join x w e=>.tuple [sW "join", .int p,.str x,.str (jW w),tw e]
noncomputable def bL:Int->List Rw->List W
 | _,[]=>[]
 | p,r::rs=>cq p r::bL (p+1) rs
theorem nZ:∀ (p:Int) (rs:List Rw),(bL p rs).length=rs.length
 | _,[]=>rfl
 | p,r::rs=>OI (· + 1) (nZ (p+1) rs)
noncomputable def AD:Rw->Prop
 | .put a e=>qd a/\qd e/\mj a<7/\mj e<7
 | .tellB a=>qd a/\mj a<7
 | .setB _ a=>qd a/\mj a<7
 | .set _ e=>qd e/\mj e<7
 | .tell e=>qd e/\mj e<7
 | .meet=>True
 | .join _ _ e=>qd e/\mj e<7
noncomputable def jS (c:Cn) (l:sU):Rw->Option Int
 | .put a _=>some (vl c l a)
 | .tellB a=>some (vl c l a)
 | .setB _ a=>some (vl c l a)
 | _=>none
noncomputable def rQ (c:Cn) (l:sU):Rw->Int
 | .put _ e=>vl c l e
 | .set _ e=>vl c l e
 | .tell e=>vl c l e
 | .join _ _ e=>vl c l e
 | _=>0
noncomputable def ft (l:List (Option Int)):List Int:=l.filterMap id
noncomputable def jn (w:Fin 4) (br:List (Option Int)) (lane:Int):Int:=if w=0 then wr (ft br).sum else if w=1 then yv (ft br) else if w=2 then yw (ft br) else wr (ft (br.take lane.toNat)).sum
noncomputable def AC (c:Cn) (r:Rw) (l:Lt) (s:As):As:={ s with bx:=l.bx,tc:=s.tc++[s.tn],tn:=[],pt:=s.pt++[s.pn],pn:=[],nm:=match r with
 | .join x w _=>iJ s.nm x (jn w l.br c.lane)
 | _=>s.nm }
noncomputable def nN (c:Cn) (r:Rw) (s:As):As:=match s.lt with
 | []=>{ s with ov:=true }
 | l::L=>AC c r l { s with lt:=L }
noncomputable def A9 (c:Cn) (p:Int) (r:Rw) (i:Int) (s:As):As:=match r with
 | .put _ e=>{ s with tn:=s.tn++[(true,i,p)],bx:=s.bx.set i.toNat (vl c s.nm e),pn:=li s.pn i (vl c s.nm e) }
 | .tellB _=>{ s with tn:=s.tn++[(false,i,p)],td:=s.td++[s.bx[i.toNat]?.getD 0] }
 | .setB x _=>{ s with tn:=s.tn++[(false,i,p)],nm:=iJ s.nm x (s.bx[i.toNat]?.getD 0) }
 | _=>s
noncomputable def oth (c:Cn) (p:Int) (r:Rw) (s:As):As:=match r with
 | .set x e=>{ s with nm:=iJ s.nm x (vl c s.nm e) }
 | .tell e=>{ s with td:=s.td++[vl c s.nm e] }
 | .meet=>nN c .meet { s with br:=s.br++[(p,0)] }
 | .join x w e=>nN c (.join x w e) { s with br:=s.br++[(p,vl c s.nm e)] }
 | _=>s
noncomputable def dn (c:Cn) (p:Int) (r:Rw) (s:As):As:=match jS c s.nm r with
 | some i=>if 0<=i/\i<s.bx.length then A9 c p r i s else { s with en:=some (Str.ofString "outside", p),ov:=true }
 | none=>oth c p r s
noncomputable def gM (c:Cn) (p:Int) (r:Rw) (s:As):As:=if (s.ln.length:Int)=c.most then { s with en:=some (Str.ofString "tired", p),ov:=true } else dn c p r { s with ln:=s.ln++[p] }
noncomputable def j7 (c:Cn):Int->List Rw->As->As
 | p,[],s=>if s.ov=true then s else { s with en:=some (Str.ofString "done", p) }
 | p,r::rs,s=>j7 c (p+1) rs (if s.ov=true then s else gM c p r s)
theorem vc (c:Cn):∀ (rs:List Rw) (p:Int) {s:As},s.ov=true->j7 c p rs s=s
 | [],_,_,h=>OG h
 | _::rs,p,s,h=>by
  show j7 c (p+1) rs (if s.ov=true then s else _)=s;rw [OG h];exact vc c rs (p+1) h
structure mh (c:Cn) (l:Lt):Prop where
 br:∀ i,some i∈l.br->Rg i
 bx:∀ i∈l.bx,Rg i
 nn:ft l.br≠[]
 le:l.br.length<=8
structure bf (c:Cn) (k:Nat) (s:As):Prop where
 nm:zv s.nm
 bx:∀ i∈s.bx,Rg i
 lt:∀ l∈s.lt,mh c l
 n1:s.nm.length<=k
 n2:s.td.length<=k
 n3:s.ln.length<=k
 n4:s.br.length<=k
 n5:s.tn.length<=k
 n6:s.pn.length<=k
 n7:s.tc.length<=k
 n8:s.pt.length=s.tc.length
 mo:(s.ln.length:Int)<=c.most
structure Ct where
 line:W
 mt:W
 b:Nat
 t:Nat
 p:Nat
 tI:List Nat
 pI:List Nat
 rows:List W
 pl:Nat
 wl:Bool
noncomputable def jj (n b:Nat) (c:Cn) (ln mt:W):List (Str×W):=[(Str.ofString "defs", .ref (n+1)),(Str.ofString "lane", .int c.lane),(Str.ofString "signs", .ref (n+2)),(Str.ofString "boxes", .ref b),(Str.ofString "most", .int c.most),(Str.ofString "frames", .ref (n+9)),(Str.ofString "line", ln),(Str.ofString "meeting", mt),(Str.ofString "story", .ref (n+10))]
noncomputable def Ao (n:Nat):List (Str×W):=[(Str.ofString "names", .ref (n+4)),(Str.ofString "given", .none),(Str.ofString "walks", .ref (n+7)),(Str.ofString "loops", .ref (n+8))]
noncomputable def pC (rows:List W) (i:Nat):List (Str×W):=[(Str.ofString "row", .list rows),(Str.ofString "at", .int i)]
noncomputable def kQ (n:Nat) (k:Int) (e:W):List (Str×W):=[(Str.ofString "told", .ref (n+11)),(Str.ofString "steps", .int k),(Str.ofString "end", e),(Str.ofString "brought", .ref (n+12)),(Str.ofString "touches", .ref (n+13)),(Str.ofString "puts", .ref (n+14)),(Str.ofString "lines", .ref (n+15))]
noncomputable def Ek (c:Cn):List (bn×W):=[(.inr (Str.ofString "lane"),.int c.lane),(.inr (Str.ofString "lanes"),.int c.lanes),(.inr (Str.ofString "mine"),.int c.mine)]
noncomputable def lU (l:List Nat) (x:Nat):List W:=l.map .ref++[.ref x]
noncomputable def gL (n:Nat) (c:Cn) (j:Ct) (s:As) (R:List (Nat×Ob)):List (Nat×Ob):=
 (n,.ins (Str.ofString "Goer") (jj n j.b c j.line j.mt))::(n+1,.dK c.defs)::(n+2,.dK (Ek c))::(n+4,.dK (uF s.nm))::(n+5,.ins (Str.ofString "Frame") (Ao n))::(n+6,.ins (Str.ofString "Walk") (pC j.rows j.pl))::(n+7,.lst (if j.wl=true then [.ref (n+6)] else []))::(n+8,.lst [])::(n+9,.lst [.ref (n+5)])::
 (n+10,.ins (Str.ofString "Story") (kQ n s.ln.length (pf s.en)))::(n+11,.lst (s.td.map .int))::(n+12,.lst (s.br.map uC))::(n+13,.lst (lU j.tI j.t))::(n+14,.lst (lU j.pI j.p))::(n+15,.lst (s.ln.map .int))::
 (j.b,.lst (s.bx.map .int))::(j.t,.lst (s.tn.map iM))::(j.p,.dK (uB s.pn))::R
noncomputable abbrev GH (T:ai) (n:Nat) (c:Cn) (j:Ct) (s:As) (R:List (Nat×Ob)):Prop:=gy T (gL n c j s R)
section
variable (n b:Nat) (c:Cn) (l m e x:W) (k:Int) (i:Nat) (r:List W)
theorem Of:(jj n b c l m).lookup (Str.ofString "defs")=some (.ref (n+1)):=by kernel_rfl
theorem N4:(jj n b c l m).lookup (Str.ofString "lane")=some (.int c.lane):=by kernel_rfl
theorem NW:(jj n b c l m).lookup (Str.ofString "signs")=some (.ref (n+2)):=by kernel_rfl
theorem Mx:(jj n b c l m).lookup (Str.ofString "boxes")=some (.ref b):=by kernel_rfl
theorem NK:(jj n b c l m).lookup (Str.ofString "most")=some (.int c.most):=by kernel_rfl
theorem MJ:(jj n b c l m).lookup (Str.ofString "frames")=some (.ref (n+9)):=by kernel_rfl
theorem Iu:(jj n b c l m).lookup (Str.ofString "line")=some l:=by kernel_rfl
theorem Kw:(jj n b c l m).lookup (Str.ofString "meeting")=some m:=by kernel_rfl
theorem tY:(jj n b c l m).lookup (Str.ofString "story")=some (.ref (n+10)):=by kernel_rfl
theorem NU (b':Nat):dF (Str.ofString "boxes") (.ref b') (jj n b c l m)=jj n b' c l m:=by kernel_rfl
theorem Os:dF (Str.ofString "line") x (jj n b c l m)=jj n b c x m:=by kernel_rfl
theorem MM:dF (Str.ofString "meeting") x (jj n b c l m)=jj n b c l x:=by kernel_rfl
theorem Ng:(Ao n).lookup (Str.ofString "names")=some (.ref (n+4)):=by kernel_rfl
theorem Mc:(Ao n).lookup (Str.ofString "walks")=some (.ref (n+7)):=by kernel_rfl
theorem NG:(Ao n).lookup (Str.ofString "loops")=some (.ref (n+8)):=by kernel_rfl
theorem Lf:(pC r i).lookup (Str.ofString "row")=some (.list r):=by kernel_rfl
theorem KA:(pC r i).lookup (Str.ofString "at")=some (.int i):=by kernel_rfl
theorem N1:dF (Str.ofString "at") (.int ((i:Int)+1)) (pC r i)=pC r (i+1):=by kernel_rfl
theorem Jf:(kQ n k e).lookup (Str.ofString "told")=some (.ref (n+11)):=by kernel_rfl
theorem KR:(kQ n k e).lookup (Str.ofString "steps")=some (.int k):=by kernel_rfl
theorem Kp:(kQ n k e).lookup (Str.ofString "end")=some e:=by kernel_rfl
theorem Mr:(kQ n k e).lookup (Str.ofString "brought")=some (.ref (n+12)):=by kernel_rfl
theorem Jt:(kQ n k e).lookup (Str.ofString "touches")=some (.ref (n+13)):=by kernel_rfl
theorem KI:(kQ n k e).lookup (Str.ofString "puts")=some (.ref (n+14)):=by kernel_rfl
theorem Ms:(kQ n k e).lookup (Str.ofString "lines")=some (.ref (n+15)):=by kernel_rfl
theorem ND (j:Int):dF (Str.ofString "steps") (.int j) (kQ n k e)=kQ n j e:=by kernel_rfl
theorem Oy:dF (Str.ofString "end") x (kQ n k e)=kQ n k x:=by kernel_rfl
theorem JI:∀ z∈[Str.ofString "reckoned", Str.ofString "give", Str.ofString "do", Str.ofString "step", Str.ofString "end_def", Str.ofString "go", Str.ofString "do_put", Str.ofString "come_to", Str.ofString "touch", Str.ofString "got", Str.ofString "take"],(jj n b c l m).lookup z=none:=by
 intro z hm;simp only [OO,Pl,or_false] at hm;rcases hm with rfl | rfl | rfl | rfl | rfl | rfl | rfl | rfl | rfl | rfl | rfl <;> kernel_rfl
theorem Np:(Ao n).lookup (Str.ofString "statement")=none:=by kernel_rfl
theorem Oo:(Ao n).lookup (Str.ofString "pass_by")=none:=by kernel_rfl
theorem NS:(pC r i).lookup (Str.ofString "is_over")=none:=by kernel_rfl
theorem N6:(pC r i).lookup (Str.ofString "before")=none:=by kernel_rfl
theorem Op:(pC r i).lookup (Str.ofString "taken")=none:=by kernel_rfl
theorem MF:(kQ n k e).lookup (Str.ofString "begin_phase")=none:=by kernel_rfl
theorem Oj:(kQ n k e).lookup (Str.ofString "add_step")=none:=by kernel_rfl
theorem O0:(kQ n k e).lookup (Str.ofString "add_touch")=none:=by kernel_rfl
theorem Mm:(kQ n k e).lookup (Str.ofString "finish")=none:=by kernel_rfl
theorem NJ:(kQ n k e).lookup (Str.ofString "add_put")=none:=by kernel_rfl
end
theorem v0 {x:W} {r:DS} {S:ai}:aa (ae 0) (.val x::r) S=some (.ok x,S):=rfl
theorem pc {x d:W} {r:DS} {T:ai} {l:Nat} {fo:DS->ai->SM W} {es:List W} (h:fo (.val x::r) T=some (.ok (.ref l),T)) (h2:T[l]?=some (.lst (es++[d]))):sIx fo (aa (qo gQ !1)) (.val x::r) T=some (.ok d,T):=JQ h rfl h2 (LS es d)
section
variable {T:ai} {n:Nat} {c:Cn} {j:Ct} {s:As} {R:List (Nat×Ob)}
theorem mG (m:Str) (hm:m∈[Str.ofString "reckoned", Str.ofString "give", Str.ofString "do", Str.ofString "step", Str.ofString "end_def", Str.ofString "go", Str.ofString "do_put", Str.ofString "come_to", Str.ofString "touch", Str.ofString "got", Str.ofString "take"]):(jj n j.b c j.line j.mt).lookup m=none:=JI _ _ _ _ _ m hm
theorem A1 (h:GH T n c j s R) (x:Int) (hl:s.ln.length<8000):∃ T',dY [.ref (n+10),.int x] T=some (.ok .none,T')/\GH T' n c j { s with ln:=s.ln++[x] } R:=by
 have h1:=h.set (k:=9) rfl (.ins (Str.ofString "Story") (kQ n (s.ln.length+1) (pf s.en)));have h2:=h1.set (k:=14) rfl (.lst (s.ln.map .int++[.int x]));have e:gL n c j { s with ln:=s.ln++[x] } R=((gL n c j s R).set 9 (n+10,.ins (Str.ofString "Story") (kQ n (s.ln.length+1) (pf s.en)))).set 14 (n+15,.lst (s.ln.map .int++[.int x])):=by
  simp only [gL,OW,O4,O3,OK,Pa,PH,OF,O5];rfl
 refine ⟨_,(az rfl).trans ((OI bh (?_:_=some (.nx [.val (.ref (n+10)),.val (.int x)],_))).trans rfl),h2.cast e⟩;refine (ah (δ':=[.val (.ref (n+10)),.val (.int x)]) (S':=T.set (n+10) (.ins (Str.ofString "Story") (kQ n (s.ln.length+1) (pf s.en)))) ((IV v0 (h.get (k:=9) rfl) (KR _ _ _) (b:=1) rfl (by simp [kQ])).trans (by rw [ND];rfl))).trans ?_;exact js (bg v0 (h1.get (k:=9) rfl) (Ms _ _ _)) (h1.get (k:=14) rfl) (d:=.int x) rfl (h1.get (k:=14) rfl) (by rw [OH];omega)
theorem kF (h:GH T n c j s R) (a:Str) (x:Int):∃ T',bG [.ref (n+10),.str a,.int x] T=some (.ok .none,T')/\GH T' n c j { s with en:=some (a,x) } R:=by
 have h1:=h.set (k:=9) rfl (.ins (Str.ofString "Story") (kQ n s.ln.length (.tuple [.str a,.int x])));refine ⟨_,(az rfl).trans ((OI bh (?_:_=some (.nx [.val (.ref (n+10)),.val (.str a),.val (.int x)],_))).trans rfl),h1⟩;exact (xh (d:=.tuple [.str a,.int x]) (au (mU rfl rfl)) v0 (h.get (k:=9) rfl) (by simp [kQ])).trans (by rw [Oy];rfl)
theorem uX (h:GH T n c j s R) (b:Bool) (i p:Int) (hl:s.tn.length<8000):∃ T',fG [.ref (n+10),.str (if b=true then Str.ofString "put" else Str.ofString "get"),.int i,.int p] T=some (.ok .none,T')/\GH T' n c j { s with tn:=s.tn++[(b,i,p)] } R:=by
 have h1:=h.set (k:=16) rfl (.lst (s.tn.map iM++[iM (b,i,p)]));have e:gL n c j { s with tn:=s.tn++[(b,i,p)] } R=(gL n c j s R).set 16 (j.t,.lst (s.tn.map iM++[iM (b,i,p)])):=by
  simp only [gL,OW,O4,O3,OK,Pa]
 refine ⟨_,(az rfl).trans ((OI bh (?_:_=some (.nx [.val (.ref (n+10)),.val (.str (if b=true then Str.ofString "put" else Str.ofString "get")),.val (.int i),.val (.int p)],_))).trans rfl),h1.cast e⟩;exact js (pc (es:=j.tI.map .ref) (bg v0 (h.get (k:=9) rfl) (Jt _ _ _)) (h.get (k:=12) rfl)) (h.get (k:=16) rfl) (d:=iM (b,i,p)) (au (uj rfl rfl rfl)) (h.get (k:=16) rfl) (by rw [OH];omega)
theorem xS (h:GH T n c j s R) (i v:Int) (hl:s.pn.length<8000):∃ T',eO [.ref (n+10),.int i,.int v] T=some (.ok .none,T')/\GH T' n c j { s with pn:=li s.pn i v } R:=by
 have h1:=h.set (k:=17) rfl (.dK (uB (li s.pn i v)));refine ⟨_,(az rfl).trans ((OI bh (?_:_=some (.nx [.val (.ref (n+10)),.val (.int i),.val (.int v)],_))).trans rfl),h1⟩;refine (Dn (d:=.int v) rfl (pc (es:=j.pI.map .ref) (bg v0 (h.get (k:=9) rfl) (KI _ _ _)) (h.get (k:=13) rfl)) (i:=i) rfl (h.get (k:=17) rfl) (by simp [uB];omega)).trans ?_;rw [vJ];rfl
theorem yN (h:GH T n c j s R):fu [.ref (n+6)] T=some (.ok (.bool (decide ((j.pl:Int)=j.rows.length))),T):=
 (az rfl).trans ((OI bh (bD (vT (Kt (bg v0 (h.get (k:=5) rfl) (KA _ _)) (JJ (bg v0 (h.get (k:=5) rfl) (Lf _ _))))))).trans rfl)
theorem uG (h:GH T n c j s R) {x:W} (hx:j.rows[j.pl]?=some x):ie [.ref (n+6)] T=some (.ok x,T):=
 (az rfl).trans ((OI bh (bD (Hq (bg v0 (h.get (k:=5) rfl) (Lf _ _)) (bg v0 (h.get (k:=5) rfl) (KA _ _)) (by rw [zF _ _ (oG hx).1];exact hx)))).trans rfl)
theorem xE (h:GH T n c j s R) {x:W} (hx:j.rows[j.pl]?=some x):∃ T',iT [.ref (n+6)] T=some (.ok x,T')/\GH T' n c { j with pl:=j.pl+1 } s R:=by
 have h1:=h.set (k:=5) rfl (.ins (Str.ofString "Walk") (pC j.rows (j.pl+1)));refine ⟨_,(az rfl).trans ((OI bh (?_:_=some (.rt x,_))).trans rfl),h1⟩;refine (ah (δ':=[.val (.ref (n+6)),.val x]) (bj (Hq (bg v0 (h.get (k:=5) rfl) (Lf _ _)) (bg v0 (h.get (k:=5) rfl) (KA _ _)) (by rw [zF _ _ (oG hx).1];exact hx)) rfl)).trans ?_;exact (ah (δ':=[.val (.ref (n+6)),.val x]) (S':=T.set (n+6) (.ins (Str.ofString "Walk") (pC j.rows (j.pl+1)))) ((IV v0 (h.get (k:=5) rfl) (KA _ _) (b:=1) rfl (by simp [pC])).trans (by rw [N1]))).trans rfl
theorem zU (h:GH T n c j s R) (hw:j.wl=true) {r:DS}:sIx (ar "Frame" "walks" (aa (ae 0))) (aa (qo gQ !1)) (.val (.ref (n+5))::r) T=some (.ok (.ref (n+6)),T):=
 pc (es:=[]) (bg v0 (h.get (k:=4) rfl) (Mc _)) (by rw [h.get (k:=6) rfl,hw];rfl)
theorem gB (h:GH T n c j s R) (hw:j.wl=true) {x:W} (hx:j.rows[j.pl]?=some x):∃ T',eQ [.ref (n+5)] T=some (.ok .none,T')/\GH T' n c { j with pl:=j.pl+1 } s R:=by
 obtain ⟨T',e,h'⟩:=xE h hx;exact ⟨T',(az rfl).trans ((OI bh (aN (er (zU h hw) (h.get (k:=5) rfl) (Op _ _) (ds:=[]) rfl e))).trans rfl),h'⟩
theorem Ka (h:GH T n c j s R) {r:DS}:nr (ar "Frame" "walks" (aa (ae 0))) (.val (.ref (n+5))::r) T=some (.ok j.wl,T):=by
 have:=JT (bg (c := "Frame") (f := "walks") (v0 (r:=r)) (h.get (k:=4) rfl) (Mc _)) (h.get (k:=6) rfl);rw [this];cases j.wl <;> rfl
noncomputable abbrev ME:DS->ai->SM Bool:=mH (nr (ar "Frame" "walks" (aa (ae 0)))) (iV (ck "Walk" "is_over" fu (sIx (ar "Frame" "walks" (aa (ae 0))) (aa (qo gQ !1))) (aa aj)))
theorem D4 (h:GH T n c j s R) (hw:j.wl=true):ME [.val (.ref (n+5))] T=some (.ok (decide ((j.pl:Int)=j.rows.length)),T):=by
 refine rS (by rw [Ka h,hw]) ?_;exact iR (er (zU h hw) (h.get (k:=5) rfl) (NS _ _) (ds:=[]) rfl (yN h))
theorem EK (h:GH T n c j s R) (hw:j.wl=true) {x:W} (hx:j.rows[j.pl]?=some x):dD [.ref (n+5)] T=some (.ok x,T):=by
 have hl:=(oG hx).1;have V:=D4 h hw;rw [OE (by omega)] at V;refine (az rfl).trans ((OI bh ((?_:_=some (.rt x,T)))).trans rfl);refine (ah (xO V)).trans ?_;exact bD (D1 (by rw [Ka h,hw]) (er (zU h hw) (h.get (k:=5) rfl) (N6 _ _) (ds:=[]) rfl (uG h hx)))
theorem Es (h:GH T n c j s R) (hw:j.wl=true) (hx:j.pl=j.rows.length):∃ T',dD [.ref (n+5)] T=some (.ok .none,T')/\GH T' n c { j with wl:=false } s R:=by
 have V:=D4 h hw;rw [OV (by omega)] at V;have h2:GH (T.set (n+7) (.lst [])) n c { j with wl:=false } s R:=h.set (k:=6) rfl (.lst []);have V2:ME [.val (.ref (n+5))] (T.set (n+7) (.lst []))=some (.ok false,T.set (n+7) (.lst [])):=rm (Ka h2);have B:gm [.val (.ref (n+5))] T=some (.nx [.val (.ref (n+5))],T.set (n+7) (.lst [])):=by
  refine (ah (δ':=[.val (.ref (n+5))]) (aN (d:=.ref (n+6)) (Lq (es:=[]) (d:=.ref (n+6)) (bg v0 (h.get (k:=4) rfl) (Mc _)) (by rw [h.get (k:=6) rfl,hw];rfl)))).trans ?_;exact (bH (rm (JT (es:=[]) (bg v0 (h2.get (k:=4) rfl) (NG _)) (h2.get (k:=7) rfl)))).trans rfl
 refine ⟨_,(az rfl).trans ((OI bh ((?_:_=some (.rt .none,T.set (n+7) (.lst []))))).trans rfl),h2⟩;refine (ah ((FN V B).trans (xO V2))).trans ?_;exact bD (Dz (Ka h2) rfl)
theorem oO (h:GH T n c j s R) {r:DS}:sIx (ar "Goer" "frames" (aa (ae 0))) (aa (qo gQ !1)) (.val (.ref n)::r) T=some (.ok (.ref (n+5)),T):=pc (es:=[]) (bg v0 (h.get (k:=0) rfl) (MJ _ _ _ _ _)) (h.get (k:=8) rfl)
end
theorem vf (l:List Int) {p:Int} (h:0<=p/\p<l.length):iO (l.map W.int) p=some (.int (l[p.toNat]?.getD 0)):=by
 have e:(p.toNat:Int)=p:=Int.toNat_of_nonneg h.1;have hl:p.toNat<(l.map W.int).length:=by rw [OH];omega
 have:=zF (l.map W.int) p.toNat hl;rw [e] at this;rw [this];have h2:p.toNat<l.length:=by omega
 simp [h2]
theorem Ol (c:Cn):∀ k:Fin 3,d8 (Ek c) (.inr (AE k))=some (.int (J8 c k))
 | 0=>by kernel_rfl
 | 1=>by kernel_rfl
 | 2=>by kernel_rfl
noncomputable def wd (b:Bool):Str:=if b=true then Str.ofString "put" else Str.ofString "get"
section
variable {T:ai} {n:Nat} {c:Cn} {j:Ct} {s:As} {R:List (Nat×Ob)} {p:Int}
theorem Nj (h:GH T n c j s R) (w:W) (i:Int):oN Km sO (aa !0) (aa (ae 2)) (gR (ar "Goer" "boxes" (aa (ae 0)))) [.val (.ref n),.val w,.val (.int i)] T=some (.ok (decide (0<=i/\i<s.bx.length)),T):=by
 let δ:DS:=[.val (.ref n),.val w,.val (.int i)]
 have ln:gR (ar "Goer" "boxes" (aa (ae 0))) δ T=some (.ok (.int s.bx.length),T):=by
  have:=wP (bg (c := "Goer") (f := "boxes") (v0 (x:=.ref n) (r:=[.val w,.val (.int i)])) (h.get (k:=0) rfl) (Mx _ _ _ _ _)) (h.get (k:=15) rfl);rw [OH] at this;exact this
 have a1:aa (!0) δ T=some (.ok (.int 0),T):=rfl;have a2:aa (ae 2) δ T=some (.ok (.int i),T):=rfl;show oN _ _ _ _ _ δ T=_;simp only [oN,aq,a1,a2,CS,OA];by_cases h:0<=i
 . simp only [h,decide_true,Pj,ln,qC,iL,OC,true_and]
 . simp [h]
theorem tE (h:GH T n c j s R) (hj:j.line=.int p) (b:Bool) {i:Int} (hi:0<=i/\i<s.bx.length) (hl:s.tn.length<8000):∃ T',cA [.ref n,.str (wd b),.int i] T=some (.ok .none,T')/\GH T' n c j { s with tn:=s.tn++[(b,i,p)] } R:=by
 have ch:=Nj h (.str (wd b)) i;rw [OV hi] at ch;obtain ⟨T',e,h'⟩:=uX h b i p hl;refine ⟨T',(az rfl).trans ((OI bh (?_:_=some (.nx [.val (.ref n),.val (.str (wd b)),.val (.int i)],T'))).trans rfl),h'⟩;refine (ah (δ':=[.val (.ref n),.val (.str (wd b)),.val (.int i)]) ((bH (hZ ch)).trans rfl)).trans ?_;have L:ar "Goer" "line" (aa (ae 0)) [.val (.ref n),.val (.str (wd b)),.val (.int i)] T=some (.ok (.int p),T):=hj▸bg v0 (h.get (k:=0) rfl) (Iu _ _ _ _ _);exact aN (er (ds:=[.str (wd b),.int i,.int p]) (bg v0 (h.get (k:=0) rfl) (tY _ _ _ _ _)) (h.get (k:=9) rfl) (O0 _ _ _) (aE rfl (aE rfl (aE L rfl))) e)
theorem qU (h:GH T n c j s R) (b:Bool) {i:Int} (hi:¬ (0<=i/\i<s.bx.length)):cA [.ref n,.str (wd b),.int i] T=some (.xc (Str.ofString "Outside"),T):=by
 have ch:=Nj h (.str (wd b)) i;rw [OE hi] at ch;refine (az rfl).trans ((OI bh (?_:_=some (.xc (Str.ofString "Outside"),T))).trans rfl);refine Bo ((cf (hZ ch)).trans ?_);show iN _ _=_;have z1:=sz 1 (by decide);simp! [uS,uD,OG z1]
theorem FD (h:GH T n c j s R) (hj:j.line=.int p) {i:Int} (hi:0<=i/\i<s.bx.length) (hl:s.tn.length<8000):∃ T',fR [.ref n,.int i] T=some (.ok (.int (s.bx[i.toNat]?.getD 0)),T')/\GH T' n c j { s with tn:=s.tn++[(false,i,p)] } R:=by
 obtain ⟨T',e,h'⟩:=tE h hj false hi hl;refine ⟨T',(az rfl).trans ((OI bh (?_:_=some (.rt (.int (s.bx[i.toNat]?.getD 0)),T'))).trans rfl),h'⟩;refine (ah (δ':=[.val (.ref n),.val (.int i)]) (aN (gN (ds:=[.str (wd false),.int i]) v0 (h.get (k:=0) rfl) (mG _ (by simp)) rfl e))).trans ?_;exact bD (JQ (bg v0 (h'.get (k:=0) rfl) (Mx _ _ _ _ _)) (i:=i) rfl (h'.get (k:=15) rfl) (vf _ hi))
theorem BU (h:GH T n c j s R) {i:Int} (hi:¬ (0<=i/\i<s.bx.length)):fR [.ref n,.int i] T=some (.xc (Str.ofString "Outside"),T):=by
 refine (az rfl).trans ?_;exact (OI bh (Bo (wA (gN (ds:=[.str (wd false),.int i]) v0 (h.get (k:=0) rfl) (mG _ (by simp)) rfl (qU h false hi))))).trans rfl
theorem rk (h:GH T n c j s R) (hc:ke c) (hn:zv s.nm):∀ (t:Tr) (m:Nat),mj t<m->qd t->ay m [.ref n,tw t] T=some (.ok (.int (vl c s.nm t)),T)
 | _,0,h,_=>absurd h (Nat.not_lt_zero _)
 | .num v,m+1,_,_=>by
  show be 2 4 _ _ _=_;refine (az rfl).trans ((OI bh (?_:_=some (.rt (.int v),T))).trans rfl);refine (ah (δ':=[.val (.ref n),.val (tw (.num v)),.val (.str "num"),.no]) (aI (aT (x0 rfl) rfl))).trans ?_;exact cR (fP (aX (b:=true) (tT rfl) (aV (x1 rfl))))
 | .sig k,m+1,_,_=>by
  show be 2 4 _ _ _=_;refine (az rfl).trans ((OI bh (?_:_=some (.rt (.int (J8 c k)),T))).trans rfl);refine (ah (δ':=[.val (.ref n),.val (tw (.sig k)),.val (.str (AE k)),.no]) (aI (aT (x0 rfl) rfl))).trans ?_;refine (pF (a:=AE k) rfl (Og k)).trans ?_;refine (cF (a:=AE k) rfl (Om k)).trans ?_;refine cR ((cf (au (uE rfl rfl (N7 k)))).trans (bD (lj (bg v0 (h.get (k:=0) rfl) (NW _ _ _ _ _)) rfl (h.get (k:=2) rfl) (Ol c k))))
 | .nam x,m+1,_,_=>by
  show be 2 4 _ _ _=_;let δ:DS:=[.val (.ref n),.val (tw (.nam x)),.val (.str "name"),.no]
  refine (az rfl).trans ((OI bh (?_:_=some (.rt (.int (vF s.nm x)),T))).trans rfl);refine (ah (δ':=δ) (aI (aT (x0 rfl) rfl))).trans ?_;refine (pF (a:=Str.ofString "name") rfl N2).trans ?_;have g:=Ah (fo:=ar "Frame" "names" (sIx (ar "Goer" "frames" (aa (ae 0))) (aa (qo gQ !1)))) (fk:=aa 1[1]!) (fx:=aa !0) (δ:=δ) (k:=x) (y:=.int 0) (bg (oO h) (h.get (k:=4) rfl) (Ng _)) (h.get (k:=3) rfl) (au (x1 rfl)) rfl (h.get (k:=3) rfl);rw [zc] at g;exact cR ((fT rfl).trans (bD g))
 | .box _,_,_,h=>h.elim
 | .op k x y,m+1,hd,⟨hk,ox,oy⟩=>by
  simp only [mj] at hd;have ihx:=rk h hc hn x m (by omega) ox;have ihy:=rk h hc hn y m (by omega) oy;show be 2 4 _ _ _=_;let δ:DS:=[.val (.ref n),.val (tw (.op k x y)),.val (.str (kU k)),.no]
  have R1:b7 "Goer" "reckoned" (ay m) (aa (ae 0)) (aa #[1[1]!]) δ T=some (.ok (.int (vl c s.nm x)),T):=gN (ds:=[tw x]) v0 (h.get (k:=0) rfl) (mG _ (by simp)) (au (fB (x1 rfl) rfl)) ihx;have R2:b7 "Goer" "reckoned" (ay m) (aa (ae 0)) (aa #[1[2]!]) δ T=some (.ok (.int (vl c s.nm y)),T):=gN (ds:=[tw y]) v0 (h.get (k:=0) rfl) (mG _ (by simp)) (au (fB (x2 rfl) rfl)) ihy;have W:=ve k (wC hc hn ox) (wC hc hn oy);have hk':=Du (c:=c) (l:=s.nm) hk;rw [so hk'] at W;have e:vl c s.nm (.op k x y)=wr (xK k (vl c s.nm x) (vl c s.nm y)):=by
   show (wk k (vl c s.nm x) (vl c s.nm y)).getD 0=_;rw [so hk'];rfl
  rw [e];have C:eB lp (av (aa (ae 2)) (av (b7 "Goer" "reckoned" (ay m) (aa (ae 0)) (aa #[1[1]!])) (av (b7 "Goer" "reckoned" (ay m) (aa (ae 0)) (aa #[1[2]!])) bb))) δ T=some (.ok (.int (wr (xK k (vl c s.nm x) (vl c s.nm y)))),T):=by
   have:=aE (f:=aa (ae 2)) (δ:=δ) (S:=T) (d:=.str (kU k)) rfl (aE R1 (aE R2 (g:=bb) rfl));simp only [eB,aq,this,W,iL,OC];rfl
  generalize wr (xK k (vl c s.nm x) (vl c s.nm y))=z at C;refine (az rfl).trans ((OI bh (?_:_=some (.rt (.int z),T))).trans rfl);refine (ah (δ':=δ) (aI (aT (x0 rfl) rfl))).trans ?_;refine (pF (a:=kU k) rfl (NO k)).trans ?_;refine (cF (a:=kU k) rfl (NR k)).trans ?_;refine (ah (δ':=δ) ((bH (au (uE rfl rfl (Oh k)))).trans rfl)).trans ?_;refine (cF (a:=kU k) rfl (Ox k)).trans ?_;refine (ah (δ':=[.val (.ref n),.val (tw (.op k x y)),.val (.str (kU k)),.val (.int z)]) (bj C rfl)).trans ?_;exact (ah (δ':=[.val (.ref n),.val (tw (.op k x y)),.val (.str (kU k)),.val (.int z)]) ((bH (S1:=T) rfl).trans rfl)).trans (fP (aV rfl))
theorem Bp {f g k:DS->ai->SO} {δ:DS} {S:ai} (h:f δ S=g δ S):ak f k δ S=ak g k δ S:=by unfold ak;rw [h]
theorem yF {m:Nat} {t:Tr}:∀ {O:SO},(∀ {k:DS->ai->SO},ak (bO (b7 "Goer" "got" fR (aa (ae 0)) (av (b7 "Goer" "reckoned" (ay m) (aa (ae 0)) (aa #[1[1]!])) bb))) k [.val (.ref n),.val (tw (.box t)),.val (.str "box"),.no] T=O)->ay (m+1) [.ref n,tw (.box t)] T=bh O:=λ {O} hO=>by
 show be 2 4 _ _ _=_;let δ:DS:=[.val (.ref n),.val (tw (.box t)),.val (.str "box"),.no]
 refine (az rfl).trans (OI bh ?_);refine (ah (δ':=δ) (aI (aT (x0 rfl) rfl))).trans ?_;refine (pF (a:=Str.ofString "box") rfl On).trans ?_;refine (cF (a:=Str.ofString "box") rfl Oz).trans ?_;refine (ah (δ':=δ) ((bH (au (uE rfl rfl NF))).trans rfl)).trans ?_;have q1:=fT (S:=T) (δ:=δ) (f:=aA 2) (a:=Str.ofString "box") (g:=bO (b7 "Goer" "got" fR (aa (ae 0)) (av (b7 "Goer" "reckoned" (ay m) (aa (ae 0)) (aa #[1[1]!])) bb))) (k:=al aw) rfl;exact (Bp q1).trans hO
theorem Db (h:GH T n c j s R) (hc:ke c) (hn:zv s.nm) (hj:j.line=.int p) {t:Tr} {m:Nat} (hd:mj t<m) (ht:qd t) (hi:0<=vl c s.nm t/\vl c s.nm t<s.bx.length) (hl:s.tn.length<8000):∃ T',ay (m+1) [.ref n,tw (.box t)] T=some (.ok (.int (s.bx[(vl c s.nm t).toNat]?.getD 0)),T')/\GH T' n c j { s with tn:=s.tn++[(false,vl c s.nm t,p)] } R:=by
 obtain ⟨T',e,h'⟩:=FD h hj hi hl;refine ⟨T',(yF (O:=some (.rt (.int (s.bx[(vl c s.nm t).toNat]?.getD 0)),T')) ?_).trans rfl,h'⟩;intro k;exact cR (bD (gN (ds:=[.int (vl c s.nm t)]) v0 (h.get (k:=0) rfl) (mG _ (by simp)) (aE (gN (ds:=[tw t]) v0 (h.get (k:=0) rfl) (mG _ (by simp)) (au (fB (x1 rfl) rfl)) (rk h hc hn t m hd ht)) rfl) e))
theorem Az (h:GH T n c j s R) (hc:ke c) (hn:zv s.nm) {t:Tr} {m:Nat} (hd:mj t<m) (ht:qd t) (hi:¬ (0<=vl c s.nm t/\vl c s.nm t<s.bx.length)):ay (m+1) [.ref n,tw (.box t)] T=some (.xc (Str.ofString "Outside"),T):=by
 refine (yF (O:=some (.xc (Str.ofString "Outside"),T)) ?_).trans rfl;intro k;exact Bo (L3 (gN (ds:=[.int (vl c s.nm t)]) v0 (h.get (k:=0) rfl) (mG _ (by simp)) (aE (gN (ds:=[tw t]) v0 (h.get (k:=0) rfl) (mG _ (by simp)) (au (fB (x1 rfl) rfl)) (rk h hc hn t m hd ht)) rfl) (BU h hi)))
theorem oQ (h:GH T n c j s R) (hb:s.nm.length<8000) (x:Str) (v:Int):∃ T',eZ [.ref n,.str x,.int v] T=some (.ok .none,T')/\GH T' n c j { s with nm:=iJ s.nm x v } R:=by
 have h1:=h.set (k:=3) rfl (.dK (uF (iJ s.nm x v)));refine ⟨_,(az rfl).trans ((OI bh (?_:_=some (.nx [.val (.ref n),.val (.str x),.val (.int v)],_))).trans rfl),h1⟩;refine (jw (k:=x) (d:=.int v) rfl (bg (oO h) (h.get (k:=4) rfl) (Ng _)) rfl (h.get (k:=3) rfl) (by simp [uF];omega)).trans ?_;rw [rH];rfl
end
noncomputable abbrev cN:DS->Option Bool:=aC eW (aA 0) (dC .none)
theorem jT:∀ (row:List (Option Int)),dZ (ao 0) cN (ae 0) [.no] (row.map gl)=some ((ft row).map .int)
 | []=>rfl
 | none::r=>by
  show dZ (ao 0) cN (ae 0) [.no] (r.map gl)=_;rw [jT r];rfl
 | some i::r=>by
  show (dZ (ao 0) cN (ae 0) [.no] (r.map gl)).map (W.int i::·)=_;rw [jT r];rfl
theorem yK (row:List (Option Int)):(ft row).length<=row.length:=List.length_filterMap_le _ _
theorem oz {row:List (Option Int)} {i:Int} (h:i∈ft row):some i∈row:=by
 obtain ⟨a,h1,h2⟩:=PF.mp h;cases a with
 | none=>cases h2
 | some x=>cases h2;exact h1
theorem jZ {row:List (Option Int)} (h:row.length<=8) (hb:∀ i,some i∈row->Rg i):xD (.list ((ft row).map .int))=some (.int (ft row).sum):=by
 have f:A0 (ft row)=true:=by
  simp only [A0,OL,Qa,OX];refine ⟨λ n hn=>?_,OY (yK row) (by omega)⟩;have:=hb n (oz hn);omega
 simp only [xD,jY,OA,jQ,f,Pj]
theorem qM {row:List (Option Int)} (h:ft row≠[]):yA (.list ((ft row).map .int))=some (.int (yv (ft row))):=by
 simp only [yA,jY,OA,jQ,OG (List.length_pos_iff.mpr h)]
theorem qL {row:List (Option Int)} (h:ft row≠[]):yo (.list ((ft row).map .int))=some (.int (yw (ft row))):=by
 simp only [yo,jY,OA,jQ,OG (List.length_pos_iff.mpr h)]
theorem FI (ds:List W) (k:Nat):kE ds none (some (k:Int))=ds.take k:=by
 unfold kE;rw [HT.sIx_none,HT.sIx_nat,List.drop_zero,Nat.sub_zero];rcases Nat.le_total k ds.length with h | h
 . rw [Nat.min_eq_left h]
 . rw [Nat.min_eq_right h,Pz (OB _),Pz h]
theorem nc {g:W->Option W} {f:DS->Option W} {δ:DS} {x y:W} (h1:f δ=some x) (h2:g x=some y):kj g f δ=some y:=by simp only [kj,h1,OA,h2]
theorem BX {l:List Int} (h:l≠[]):yv l∈l:=by
 cases l with
 | nil=>exact absurd rfl h
 | cons n r=>
  obtain ⟨_,_,h3⟩:=mw r n;show r.foldl max n∈_;rcases h3 with h3 | h3
  . rw [h3];exact .head _
  . exact .tail _ h3
theorem Cq {l:List Int} (h:l≠[]):yw l∈l:=by
 cases l with
 | nil=>exact absurd rfl h
 | cons n r=>
  obtain ⟨_,_,h3⟩:=ma r n;show r.foldl min n∈_;rcases h3 with h3 | h3
  . rw [h3];exact .head _
  . exact .tail _ h3
theorem Hz {c:Cn} {l:Lt} (h:mh c l) (w:Fin 4) (k:Int):Rg (jn w l.br k):=by
 unfold jn;split
 . exact qA _
 split
 . exact h.br _ (oz (BX h.nn))
 split
 . exact h.br _ (oz (Cq h.nn))
 . exact qA _
theorem jq:∀ w:Fin 4,decide (jW w=Str.ofString "sum")=decide (w=0)/\decide (jW w=Str.ofString "most")=decide (w=1)/\decide (jW w=Str.ofString "least")=decide (w=2)/\decide (jW w=Str.ofString "ahead")=decide (w=3):=by decide +kernel
section
variable {c:Cn} {l:Lt}
theorem IT (h:mh c l) {δ:DS} (e:aA 1 δ=some (.list (l.br.map gl))):cn (iG [none] (bX (aA 1)) (ao 0) (aC eW (aA 0) (dC .none)) (ae 0)) δ=some (.list ((ft l.br).map .int)):=Kb (ds:=l.br.map gl) (by simp only [bX,e,OA];rfl) (by rw [OH];have:=h.le;omega) (jT _)
theorem HW (hc:ke c) (h:mh c l) {δ:DS} (e:aA 1 δ=some (.list (l.br.map gl))) (e2:ae 2 δ=some (.int c.lane)):cn (iG [none] (bX (cn (pj (aA 1) ja (hW (ae 2))))) (ao 0) (aC eW (aA 0) (dC .none)) (ae 0)) δ=some (.list ((ft (l.br.take c.lane.toNat)).map .int)):=by
 have ct:kE (l.br.map gl) none (some c.lane)=(l.br.take c.lane.toNat).map gl:=by
  have:=FI (l.br.map gl) c.lane.toNat;rw [Int.toNat_of_nonneg hc.z] at this;rw [this,List.map_take]
 have sl:cn (pj (aA 1) ja (hW (ae 2))) δ=some (.list ((l.br.take c.lane.toNat).map gl)):=by
  simp only [cn,pj,e,OA,ja,hW,e2,vV,OC,jY,ct]
 refine Kb (ds:=(l.br.take c.lane.toNat).map gl) (by simp only [bX,sl,OA];rfl) ?_ (jT _);rw [OH];have:=h.le;have:(l.br.take c.lane.toNat).length<=l.br.length:=QF _ _;omega
theorem vz (hc:ke c) (h:mh c l) (w:Fin 4):lq [.str (jW w),.list (l.br.map gl),.int c.lane]=some (.int (jn w l.br c.lane)):=by
 obtain ⟨q0,q1,q2,q3⟩:=jq w;have z0:∀ {δ:DS} {x:Str},aA 0 δ=some (.str (jW w))->aC bJ (aA 0) (dC (.str x)) δ=some (decide (jW w=x)):=λ h=>tD h;let δ:DS:=[.val (.str (jW w)),.val (.list (l.br.map gl)),.val (.int c.lane),.val (.list ((ft l.br).map .int))]
 have le:=h.le;refine eG rfl ((ba (δ1:=δ) (aT (IT h rfl) rfl)) ?_);by_cases e0:w=0
 . subst e0;exact fS (aX (b:=true) (by rw [z0 rfl,q0];rfl) (aV (mO (fB (nc rfl (jZ le h.br)) rfl) (fY _))))
 refine ba (δ1:=δ) (aX (b:=false) (by rw [z0 rfl,q0,OE e0]) rfl) ?_;by_cases e1:w=1
 . subst e1;exact fS (aX (b:=true) (by rw [z0 rfl,q1];rfl) (aV (nc rfl (qM h.nn))))
 refine ba (δ1:=δ) (aX (b:=false) (by rw [z0 rfl,q1,OE e1]) rfl) ?_;by_cases e2:w=2
 . subst e2;exact fS (aX (b:=true) (by rw [z0 rfl,q2];rfl) (aV (nc rfl (qL h.nn))))
 refine ba (δ1:=δ) (aX (b:=false) (by rw [z0 rfl,q2,OE e2]) rfl) ?_;have tk:(l.br.take c.lane.toNat).length<=8:=OY (QF _ _) le;have j:jn w l.br c.lane=wr (ft (l.br.take c.lane.toNat)).sum:=by simp only [jn,e0,e1,e2,Qp]
 rw [j];exact aV (mO (fB (nc (HW hc h rfl rfl) (jZ tk λ i hi=>h.br i (QE hi))) rfl) (fY _))
theorem xy (hc:ke c) (h:mh c l) (w:Fin 4):fJ [.str (jW w),.list (l.br.map gl),.int c.lane]=some (.int (jn w l.br c.lane)):=by
 obtain ⟨q0,q1,q2,q3⟩:=jq w;have z0:∀ {δ:DS} {x:Str},aA 0 δ=some (.str (jW w))->aC bJ (aA 0) (dC (.str x)) δ=some (decide (jW w=x)):=λ h=>tD h;let δ:DS:=[.val (.str (jW w)),.val (.list (l.br.map gl)),.val (.int c.lane),.val (.list ((ft l.br).map .int))]
 have le:=h.le;have tk:(l.br.take c.lane.toNat).length<=8:=OY (QF _ _) le;refine eG rfl ((ba (δ1:=δ) (aT (IT h rfl) rfl)) ?_);by_cases e1:w=1
 . subst e1;exact fS (aX (b:=true) (by rw [z0 rfl,q1];rfl) (aV (nc rfl (qM h.nn))))
 refine ba (δ1:=δ) (aX (b:=false) (by rw [z0 rfl,q1,OE e1]) rfl) ?_;by_cases e2:w=2
 . subst e2;exact fS (aX (b:=true) (by rw [z0 rfl,q2];rfl) (aV (nc rfl (qL h.nn))))
 refine ba (δ1:=δ) (aX (b:=false) (by rw [z0 rfl,q2,OE e2]) rfl) ?_;by_cases e3:w=3
 . subst e3;let δ2:DS:=[.val (.str (jW 3)),.val (.list (l.br.map gl)),.val (.int c.lane),.val (.list ((ft (l.br.take c.lane.toNat)).map .int))]
   refine ba (δ1:=δ2) (aX (b:=true) (by rw [z0 rfl,q3];rfl) (aT (HW hc h rfl rfl) rfl)) ?_;exact aV (mO (fB (nc rfl (jZ tk λ i hi=>h.br i (QE hi))) rfl) (jv _))
 . refine ba (δ1:=δ) (aX (b:=false) (by rw [z0 rfl,q3,OE e3]) rfl) ?_;have e0:w=0:=by omega
   have j:jn w l.br c.lane=wr (ft l.br).sum:=by simp only [jn,e0,Pj]
   rw [j];exact aV (mO (fB (nc rfl (jZ le h.br)) rfl) (jv _))
end
section
variable {c:Cn} {k:Nat} {s:As}
theorem bf.up (h:bf c k s):bf c (k+1) s:=⟨h.nm,h.bx,h.lt,PQ h.n1,PQ h.n2,PQ h.n3,PQ h.n4,PQ h.n5,PQ h.n6,PQ h.n7,h.n8,h.mo⟩
theorem bf.ln' (h:bf c k s) (p:Int) (hm:(s.ln.length:Int)≠c.most):bf c (k+1) { s with ln:=s.ln++[p] }:=by
 have u:=h.up;have m:=h.mo;have n3:=h.n3;exact ⟨u.nm,u.bx,u.lt,u.n1,u.n2,by simp;omega,u.n4,u.n5,u.n6,u.n7,u.n8,by simp;omega⟩
theorem bf.setN (h:bf c k s) (x:Str) {v:Int} (hv:Rg v):bf c (k+1) { s with nm:=iJ s.nm x v }:=by
 have u:=h.up;have:=ud s.nm x v;have:=h.n1;exact ⟨h.nm.put x hv,u.bx,u.lt,by show (iJ s.nm x v).length<=_;omega,u.n2,u.n3,u.n4,u.n5,u.n6,u.n7,u.n8,u.mo⟩
theorem bf.tell (h:bf c k s) (v:Int):bf c (k+1) { s with td:=s.td++[v] }:=by
 have u:=h.up;have:=h.n2;exact ⟨u.nm,u.bx,u.lt,u.n1,by simp;omega,u.n3,u.n4,u.n5,u.n6,u.n7,u.n8,u.mo⟩
theorem bf.touch (h:bf c k s) (x:Bool×Int×Int):bf c (k+1) { s with tn:=s.tn++[x] }:=by
 have u:=h.up;have:=h.n5;exact ⟨u.nm,u.bx,u.lt,u.n1,u.n2,u.n3,u.n4,by simp;omega,u.n6,u.n7,u.n8,u.mo⟩
theorem bf.brg (h:bf c k s) (x:Int×Int):bf c (k+1) { s with br:=s.br++[x] }:=by
 have u:=h.up;have:=h.n4;exact ⟨u.nm,u.bx,u.lt,u.n1,u.n2,u.n3,by simp;omega,u.n5,u.n6,u.n7,u.n8,u.mo⟩
theorem bf.box (h:bf c k s) (i:Nat) {v:Int} (x:Int) (hv:Rg v):bf c (k+1) { s with bx:=s.bx.set i v,pn:=li s.pn x v }:=by
 have u:=h.up;have:=h.n6;have:=yb s.pn x v;refine ⟨u.nm,λ y hy=>?_,u.lt,u.n1,u.n2,u.n3,u.n4,u.n5,by show (li s.pn x v).length<=_;omega,u.n7,u.n8,u.mo⟩;rcases List.mem_or_eq_of_mem_set hy with hy | rfl
 . exact h.bx y hy
 . exact hv
theorem HJ (h:bf c k s) (i:Nat):Rg (s.bx[i]?.getD 0):=by
 cases e:s.bx[i]? with
 | none=>decide
 | some v=>exact h.bx v (Pb e)
theorem bf.tak' (h:bf c k s) (r:Rw) {l:Lt} (hl:mh c l):bf c (k+1) (AC c r l s):=by
 have u:=h.up;have:=h.n7;have:=h.n8;have a:∀ nm',zv nm'->nm'.length<=k+1->bf c (k+1) { s with bx:=l.bx,tc:=s.tc++[s.tn],tn:=[],pt:=s.pt++[s.pn],pn:=[],nm:=nm' }:=λ nm' h1 h2=>⟨h1,hl.bx,u.lt,h2,u.n2,u.n3,u.n4,O8 _,O8 _,by simp;omega,by simp;omega,u.mo⟩
 cases r with
 | join x w e=>exact a _ (h.nm.put x (Hz hl w _)) (by show (iJ s.nm x (jn w l.br c.lane)).length<=_;have:=ud s.nm x (jn w l.br c.lane);have:=h.n1;omega)
 | _=>exact a _ h.nm u.n1
theorem bf.aft' (h:bf c k s) (r:Rw):bf c (k+1) (nN c r s):=by
 have hl:=h.lt;unfold nN;split
 . have u:=h.up;exact ⟨u.nm,u.bx,u.lt,u.n1,u.n2,u.n3,u.n4,u.n5,u.n6,u.n7,u.n8,u.mo⟩
 . rename_i l L e;rw [e] at hl;exact bf.tak' (s:={ s with lt:=L }) ⟨h.nm,h.bx,λ x hx=>hl x (.tail _ hx),h.n1,h.n2,h.n3,h.n4,h.n5,h.n6,h.n7,h.n8,h.mo⟩ r (hl l (.head _))
theorem bf.en' (h:bf c k s) (e:Option (Str×Int)) (b:Bool):bf c k { s with en:=e,ov:=b }:=⟨h.nm,h.bx,h.lt,h.n1,h.n2,h.n3,h.n4,h.n5,h.n6,h.n7,h.n8,h.mo⟩
theorem bf.dn' (h:bf c k s) (hc:ke c) (p:Int) {r:Rw} (hr:AD r):bf c (k+2) (dn c p r s):=by
 unfold dn;split
 . split
   . rename_i i _ _;cases r with
     | put a e=>exact (h.touch (true,i,p)).box (s:={ s with tn:=s.tn++[(true,i,p)] }) i.toNat i (wC hc h.nm hr.2.1)
     | tellB a=>exact (h.touch (false,i,p)).tell _
     | setB x a=>exact (h.touch (false,i,p)).setN (s:={ s with tn:=s.tn++[(false,i,p)] }) x (HJ h _)
     | _=>exact h.up.up
   . exact h.up.up.en' _ _
 . cases r with
   | set x e=>exact (h.setN x (wC hc h.nm hr.1)).up
   | tell e=>exact (h.tell _).up
   | meet=>exact (h.brg _).aft' _
   | join x w e=>exact (h.brg _).aft' _
   | _=>exact h.up.up
theorem bf.stp' (h:bf c k s) (hc:ke c) (p:Int) {r:Rw} (hr:AD r):bf c (k+3) (gM c p r s):=by
 unfold gM;split
 . exact h.up.up.up.en' _ _
 . rename_i e;exact (h.ln' p e).dn' hc p hr
end
theorem Dg {fo fi fv:DS->ai->SM W} {δ:DS} {S S1 S2 S3:ai} {d:W} {n:Nat} {i:Int} {es:List W} (h1:fv δ S=some (.ok d,S1)) (h2:fo δ S1=some (.ok (.ref n),S2)) (h3:fi δ S2=some (.ok (.int i),S3)) (h4:S3[n]?=some (.lst es)) (h5:0<=i/\i<es.length):kx fo fi fv δ S=some (.nx δ,S3.set n (.lst (es.set i.toNat d))):=by
 have e1:AY (.int i)=some i:=rfl;have e2:w9 es.length i=some i.toNat:=by
  unfold w9;rw [OG h5.1,OG (by omega)]
 simp only [kx,iN,h1,h2,h3,fj h4,OA,e1,e2,OC]
theorem kq:(∀ w∈["set", "put", "tell", "meet", "join"],decide (Str.ofString w=Str.ofString "while")=false)/\(∀ w∈["put", "tell", "meet", "join"],decide (Str.ofString w=Str.ofString "set")=false)/\(∀ w∈["tell", "meet", "join"],decide (Str.ofString w=Str.ofString "put")=false)/\(∀ w∈["meet", "join"],decide (Str.ofString w=Str.ofString "tell")=false/\decide (Str.ofString w=Str.ofString "if")=false/\decide (Str.ofString w=Str.ofString "call")=false):=by decide +kernel
theorem kin:∀ w∈["meet", "join"],rK (sW w) (.tuple [sW "meet", sW "join"])=some true:=by decide +kernel
theorem LM:decide (Str.ofString "meet" = Str.ofString "join")=false:=by decide +kernel
section
variable {T:ai} {n:Nat} {c:Cn} {j:Ct} {s:As} {R:List (Nat×Ob)} {p:Int} {k:Nat}
theorem kl {T1:ai} {y:W} {w:String} (h:GH T n c j s R) (hy:∃ l,y=.tuple (sW w::l)) (hw:decide (Str.ofString w=Str.ofString "while")=false) (e:eQ [.ref (n+5)] T=some (.ok .none,T1)):
 fU [.ref n,y] T=bh (bv (aa (aC bJ (aA 2) !"set")) (aS (ck "Goer" "give" eZ (aa (ae 0)) (av (aa 1[2]!) (av (b7 "Goer" "reckoned" (ay 9) (aa (ae 0)) (aa #[1[3]!])) bb))))
  (bv (aa (aC bJ (aA 2) !"put")) (aS (b7 "Goer" "do_put" d4 (aa (ae 0)) (aa #[ae 1])))
  (bv (aa (aC bJ (aA 2) !"tell")) (aQ (ar "Story" "told" (ar "Goer" "story" (aa (ae 0)))) (b7 "Goer" "reckoned" (ay 9) (aa (ae 0)) (aa #[1[2]!])))
  (bv (aa (aC bJ (aA 2) !"if")) (al fX)
  (bv (aa (aC bJ (aA 2) !"call")) (al fX)
  (bv (aa (aC rK (aA 2) (aR #[!"meet",!"join"]))) (aS (b7 "Goer" "come_to" fm (aa (ae 0)) (aa #[ae 1])))
  (al fX)))))) [.val (.ref n),.val y,.val (sW w)] T1):=by
 obtain ⟨l,rfl⟩:=hy;refine (az rfl).trans (OI bh ?_);refine (ah (δ':=[.val (.ref n),.val (.tuple (sW w::l)),.val (sW w)]) (aI (aT (x0 rfl) rfl))).trans ?_;refine (cF (a:=Str.ofString w) rfl hw).trans ?_;exact ah (aN (er (oO h) (h.get (k:=4) rfl) (Oo _) (ds:=[]) rfl e))
theorem mR (h:GH T n c j s R) (hc:ke c) (hn:zv s.nm) {t:Tr} (hd:mj t<7) (ht:qd t) {δ:DS} {fa:DS->ai->SM (List W)} (e:fa (.val (.ref n)::δ) T=some (.ok [tw t],T)):b7 "Goer" "reckoned" (ay 9) (aa (ae 0)) fa (.val (.ref n)::δ) T=some (.ok (.int (vl c s.nm t)),T):=gN v0 (h.get (k:=0) rfl) (mG _ (by simp)) e (rk h hc hn t 9 (by omega) ht)
theorem mB {r:SM W} (h:GH T n c j s R) {t:Tr} {δ:DS} {fa:DS->ai->SM (List W)} (e:fa (.val (.ref n)::δ) T=some (.ok [tw (.box t)],T)) (e2:ay 9 [.ref n,tw (.box t)] T=r):b7 "Goer" "reckoned" (ay 9) (aa (ae 0)) fa (.val (.ref n)::δ) T=r:=gN v0 (h.get (k:=0) rfl) (mG _ (by simp)) e e2
noncomputable def zG (T:ai) (n:Nat) (c:Cn) (j:Ct) (s:As) (R:List (Nat×Ob)) (p:Int) (r:Rw):Prop:=
 (∃ T',fU [.ref n,cq p r] T=some (.ok .none,T')/\GH T' n c { j with pl:=j.pl+1 } (dn c p r s) R/\(dn c p r s).en=s.en/\(dn c p r s).ov=s.ov/\(dn c p r s).tc=s.tc/\(dn c p r s).pt=s.pt/\(dn c p r s).lt=s.lt)∨
 (∃ T',fU [.ref n,cq p r] T=some (.xc (Str.ofString "Outside"),T')/\GH T' n c { j with pl:=j.pl+1 } s R/\dn c p r s={ s with en:=some (Str.ofString "outside", p),ov:=true })∨
 (∃ T' v,fU [.ref n,cq p r] T=some (.ok .none,T')/\GH T' n c { j with pl:=j.pl+1,mt:=cq p r } { s with br:=s.br++[(p,v)] } R/\dn c p r s=nN c r { s with br:=s.br++[(p,v)] }/\(r=.meet∨∃ x w e,r=.join x w e))
theorem E9 (h:GH T n c j s R) (hc:ke c) (ok:bf c k s) (hk:k<7000) (hw:j.wl=true) {x:Str} {e:Tr} (hr:qd e/\mj e<7) (hx:j.rows[j.pl]?=some (cq p (.set x e))):zG T n c j s R p (.set x e):=by
 obtain ⟨T1,e1,h1⟩:=gB h hw hx;obtain ⟨T2,e2,h2⟩:=oQ h1 (by have:=ok.n1;omega) x (vl c s.nm e);refine .inl ⟨T2,(kl (w := "set") h ⟨_,rfl⟩ (kq.1 _ (by simp)) e1).trans ((OI bh ((fT rfl).trans (aN (er v0 (h1.get (k:=0) rfl) (mG _ (by simp)) (aE (au (x2 rfl)) (aE (mR h1 hc ok.nm hr.2 hr.1 (au (fB (x3 rfl) rfl))) rfl)) e2)))).trans rfl),h2,rfl,rfl,rfl,rfl,rfl⟩
theorem Cd (h:GH T n c j s R) (hc:ke c) (ok:bf c k s) (hk:k<7000) (hw:j.wl=true) {e:Tr} (hr:qd e/\mj e<7) (hx:j.rows[j.pl]?=some (cq p (.tell e))):zG T n c j s R p (.tell e):=by
 obtain ⟨T1,e1,h1⟩:=gB h hw hx;have h2:=h1.set (k:=10) rfl (.lst (s.td.map .int++[.int (vl c s.nm e)]));have eq:gL n c { j with pl:=j.pl+1 } (dn c p (.tell e) s) R=(gL n c { j with pl:=j.pl+1 } s R).set 10 (n+11,.lst (s.td.map .int++[.int (vl c s.nm e)])):=by
  simp only [dn,jS,oth,gL,OW,O4,O3,OK,Pa]
 refine .inl ⟨_,(kl (w := "tell") h ⟨_,rfl⟩ (kq.1 _ (by simp)) e1).trans ((OI bh ((fF rfl (kq.2.1 _ (by simp))).trans ((fF rfl (kq.2.2.1 _ (by simp))).trans ((fT rfl).trans (js (bg (bg v0 (h1.get (k:=0) rfl) (tY _ _ _ _ _)) (h1.get (k:=9) rfl) (Jf _ _ _)) (h1.get (k:=10) rfl) (mR h1 hc ok.nm hr.2 hr.1 (au (fB (x2 rfl) rfl))) (h1.get (k:=10) rfl) (by rw [OH];have:=ok.n2;omega)))))).trans rfl),h2.cast eq,rfl,rfl,rfl,rfl,rfl⟩
theorem Cr (h:GH T n c j s R) (hc:ke c) (ok:bf c k s) (hk:k<7000) (hw:j.wl=true) (hj:j.line=.int p) {x:Str} {a:Tr} (hr:qd a/\mj a<7) (hx:j.rows[j.pl]?=some (cq p (.setB x a))):zG T n c j s R p (.setB x a):=by
 obtain ⟨T1,e1,h1⟩:=gB h hw hx;by_cases hi:0<=vl c s.nm a/\vl c s.nm a<s.bx.length
 . obtain ⟨T2,e2,h2⟩:=Db (m:=8) h1 hc ok.nm hj (by omega) hr.1 hi (by have:=ok.n5;omega);obtain ⟨T3,e3,h3⟩:=oQ h2 (by show s.nm.length<_;have:=ok.n1;omega) x (s.bx[(vl c s.nm a).toNat]?.getD 0);have d:dn c p (.setB x a) s={ s with tn:=s.tn++[(false,vl c s.nm a,p)],nm:=iJ s.nm x (s.bx[(vl c s.nm a).toNat]?.getD 0) }:=by simp only [dn,jS,OG hi,A9]
   unfold zG;rw [d];exact .inl ⟨T3,(kl (w := "set") h ⟨_,rfl⟩ (kq.1 _ (by simp)) e1).trans ((OI bh ((fT rfl).trans (aN (er v0 (h1.get (k:=0) rfl) (mG _ (by simp)) (aE (au (x2 rfl)) (aE (mB h1 (au (fB (x3 rfl) rfl)) e2) rfl)) e3)))).trans rfl),h3,rfl,rfl,rfl,rfl,rfl⟩
 . have e2:=Az (m:=8) h1 hc ok.nm (by omega) hr.1 hi;have d:dn c p (.setB x a) s={ s with en:=some (Str.ofString "outside", p),ov:=true }:=by simp only [dn,jS,OT hi]
   exact .inr (.inl ⟨T1,(kl (w := "set") h ⟨_,rfl⟩ (kq.1 _ (by simp)) e1).trans ((OI bh ((fT rfl).trans (wA (Fv v0 (h1.get (k:=0) rfl) (mG _ (by simp)) (Gy (au (x2 rfl)) (Hn (mB h1 (au (fB (x3 rfl) rfl)) e2))))))).trans rfl),h1,d⟩)
theorem zE (h:GH T n c j s R) (hc:ke c) (ok:bf c k s) (hk:k<7000) (hw:j.wl=true) (hj:j.line=.int p) {a:Tr} (hr:qd a/\mj a<7) (hx:j.rows[j.pl]?=some (cq p (.tellB a))):zG T n c j s R p (.tellB a):=by
 obtain ⟨T1,e1,h1⟩:=gB h hw hx;by_cases hi:0<=vl c s.nm a/\vl c s.nm a<s.bx.length
 . obtain ⟨T2,e2,h2⟩:=Db (m:=8) h1 hc ok.nm hj (by omega) hr.1 hi (by have:=ok.n5;omega);have h3:=h2.set (k:=10) rfl (.lst (s.td.map .int++[.int (s.bx[(vl c s.nm a).toNat]?.getD 0)]));have d:dn c p (.tellB a) s={ s with tn:=s.tn++[(false,vl c s.nm a,p)],td:=s.td++[s.bx[(vl c s.nm a).toNat]?.getD 0] }:=by simp only [dn,jS,OG hi,A9]
   unfold zG;rw [d];have eq:gL n c { j with pl:=j.pl+1 } { s with tn:=s.tn++[(false,vl c s.nm a,p)],td:=s.td++[s.bx[(vl c s.nm a).toNat]?.getD 0] } R=(gL n c { j with pl:=j.pl+1 } { s with tn:=s.tn++[(false,vl c s.nm a,p)] } R).set 10 (n+11,.lst (s.td.map .int++[.int (s.bx[(vl c s.nm a).toNat]?.getD 0)])):=by
    simp only [gL,OW,O4,O3,OK,Pa]
   exact .inl ⟨_,(kl (w := "tell") h ⟨_,rfl⟩ (kq.1 _ (by simp)) e1).trans ((OI bh ((fF rfl (kq.2.1 _ (by simp))).trans ((fF rfl (kq.2.2.1 _ (by simp))).trans ((fT rfl).trans (js (bg (bg v0 (h1.get (k:=0) rfl) (tY _ _ _ _ _)) (h1.get (k:=9) rfl) (Jf _ _ _)) (h1.get (k:=10) rfl) (mB h1 (au (fB (x2 rfl) rfl)) e2) (h2.get (k:=10) rfl) (by rw [OH];have:=ok.n2;show s.td.length<_;omega)))))).trans rfl),h3.cast eq,rfl,rfl,rfl,rfl,rfl⟩
 . have e2:=Az (m:=8) h1 hc ok.nm (by omega) hr.1 hi;have d:dn c p (.tellB a) s={ s with en:=some (Str.ofString "outside", p),ov:=true }:=by simp only [dn,jS,OT hi]
   exact .inr (.inl ⟨T1,(kl (w := "tell") h ⟨_,rfl⟩ (kq.1 _ (by simp)) e1).trans ((OI bh ((fF rfl (kq.2.1 _ (by simp))).trans ((fF rfl (kq.2.2.1 _ (by simp))).trans ((fT rfl).trans (appX (bg (bg v0 (h1.get (k:=0) rfl) (tY _ _ _ _ _)) (h1.get (k:=9) rfl) (Jf _ _ _)) (h1.get (k:=10) rfl) (mB h1 (au (fB (x2 rfl) rfl)) e2)))))).trans rfl),h1,d⟩)
theorem do_put' (h:GH T n c j s R) (hc:ke c) (ok:bf c k s) (hk:k<7000) (hw:j.wl=true) (hj:j.line=.int p) {a e:Tr} (hr:AD (.put a e)) (hx:j.rows[j.pl]?=some (cq p (.put a e))):zG T n c j s R p (.put a e):=by
 obtain ⟨T1,e1,h1⟩:=gB h hw hx;obtain ⟨ra,re,da,de⟩:=hr;let δ:DS:=[.val (.ref n),.val (cq p (.put a e)),.val (.int (vl c s.nm a)),.val (.int (vl c s.nm e))]
 have pre:∀ {r:SM W} {O:SO},cA [.ref n,.str (wd true),.int (vl c s.nm a)] T1=r->(∀ {q:DS->ai->SO},b7 "Goer" "touch" cA (aa (ae 0)) (aa #[!"put",ae 2]) δ T1=r->ak (aS (b7 "Goer" "touch" cA (aa (ae 0)) (aa #[!"put",ae 2]))) (ak (kx (ar "Goer" "boxes" (aa (ae 0))) (aa (ae 2)) (aa (ae 3))) (aS (ck "Story" "add_put" eO (ar "Goer" "story" (aa (ae 0))) (aa #[ae 2,ae 3])))) δ T1=O)->d4 [.ref n,cq p (.put a e)] T1=bh O:=λ {r O} ht hq=>by
  refine (az rfl).trans (OI bh ?_);refine (ah (δ':=[.val (.ref n),.val (cq p (.put a e)),.val (.int (vl c s.nm a)),.no]) (bj (mR h1 hc ok.nm da ra (au (fB (x2 rfl) rfl))) rfl)).trans ?_;refine (ah (δ':=δ) (bj (mR h1 hc ok.nm de re (au (fB (x3 rfl) rfl))) rfl)).trans ?_;exact hq (q:=al aw) (gN (ds:=[.str (wd true),.int (vl c s.nm a)]) v0 (h1.get (k:=0) rfl) (mG _ (by simp)) rfl ht)
 by_cases hi:0<=vl c s.nm a/\vl c s.nm a<s.bx.length
 . obtain ⟨T2,e2,h2⟩:=tE h1 hj true hi (by have:=ok.n5;omega);have h3:GH _ n c { j with pl:=j.pl+1 } { s with tn:=s.tn++[(true,vl c s.nm a,p)],bx:=s.bx.set (vl c s.nm a).toNat (vl c s.nm e) } R:=(h2.set (k:=15) rfl (.lst ((s.bx.map W.int).set (vl c s.nm a).toNat (.int (vl c s.nm e))))).cast (by simp only [gL,OW,O4,List.map_set]);obtain ⟨T4,e4,h4⟩:=xS h3 (vl c s.nm a) (vl c s.nm e) (by have:=ok.n6;show s.pn.length<_;omega);have d:dn c p (.put a e) s={ s with tn:=s.tn++[(true,vl c s.nm a,p)],bx:=s.bx.set (vl c s.nm a).toNat (vl c s.nm e),pn:=li s.pn (vl c s.nm a) (vl c s.nm e) }:=by simp only [dn,jS,OG hi,A9]
   have P:d4 [.ref n,cq p (.put a e)] T1=some (.ok .none,T4):=by
    refine (pre (O:=some (.nx δ,T4)) e2 λ {q} m=>?_).trans rfl;refine (ah (δ':=δ) (aN m)).trans ?_;refine (ah (δ':=δ) (Dg rfl (bg v0 (h2.get (k:=0) rfl) (Mx _ _ _ _ _)) rfl (h2.get (k:=15) rfl) (by rw [OH];exact hi))).trans ?_;exact aN (er (ds:=[.int (vl c s.nm a),.int (vl c s.nm e)]) (bg v0 (h3.get (k:=0) rfl) (tY _ _ _ _ _)) (h3.get (k:=9) rfl) (NJ _ _ _) rfl e4)
   unfold zG;rw [d];exact .inl ⟨T4,(kl (w := "put") h ⟨_,rfl⟩ (kq.1 _ (by simp)) e1).trans ((OI bh ((fF rfl (kq.2.1 _ (by simp))).trans ((fT rfl).trans (aN (gN (ds:=[cq p (.put a e)]) v0 (h1.get (k:=0) rfl) (mG _ (by simp)) rfl P))))).trans rfl),h4,rfl,rfl,rfl,rfl,rfl⟩
 . have e2:=qU h1 true hi;have d:dn c p (.put a e) s={ s with en:=some (Str.ofString "outside", p),ov:=true }:=by simp only [dn,jS,OT hi]
   have P:d4 [.ref n,cq p (.put a e)] T1=some (.xc (Str.ofString "Outside"),T1):=(pre (O:=some (.xc (Str.ofString "Outside"),T1)) e2 λ {q} m=>Bo (wA m)).trans rfl;exact .inr (.inl ⟨T1,(kl (w := "put") h ⟨_,rfl⟩ (kq.1 _ (by simp)) e1).trans ((OI bh ((fF rfl (kq.2.1 _ (by simp))).trans ((fT rfl).trans (wA (gN (ds:=[cq p (.put a e)]) v0 (h1.get (k:=0) rfl) (mG _ (by simp)) rfl P))))).trans rfl),h1,d⟩)
theorem uf {v:Int} {y:W} (h:GH T n c j s R) (hj:j.line=.int p) (hb:s.br.length<8000) (hv:Dx (aa (aC bJ 1[0]! !"join")) (b7 "Goer" "reckoned" (ay 9) (aa (ae 0)) (aa #[1[4]!])) (aa !0) [.val (.ref n),.val y,.no] T=some (.ok (.int v),T)):∃ T',fm [.ref n,y] T=some (.ok .none,T')/\GH T' n c { j with mt:=y } { s with br:=s.br++[(p,v)] } R:=by
 have h1:GH _ n c j { s with br:=s.br++[(p,v)] } R:=(h.set (k:=11) rfl (.lst (s.br.map uC++[uC (p,v)]))).cast (by simp only [gL,OW,O4,O3,OK,Pa]);have h2:GH _ n c { j with mt:=y } { s with br:=s.br++[(p,v)] } R:=h1.set (k:=0) rfl (.ins (Str.ofString "Goer") (jj n j.b c j.line y));let δ:DS:=[.val (.ref n),.val y,.val (.int v)]
 have L:ar "Goer" "line" (aa (ae 0)) δ T=some (.ok (.int p),T):=hj▸bg v0 (h.get (k:=0) rfl) (Iu _ _ _ _ _);have tp:ik (av (ar "Goer" "line" (aa (ae 0))) (av (aa (ae 2)) bb)) δ T=some (.ok (uC (p,v)),T):=by
  have z:=sz 2 (by decide);have:=aE L (aE (f:=aa (ae 2)) (δ:=δ) (S:=T) (d:=.int v) rfl (g:=bb) (ds:=[]) rfl);simp only [ik,aq,this,OF,O5,OG z];rfl
 refine ⟨_,(az rfl).trans ((OI bh (?_:_=some (.nx δ,_))).trans rfl),h2⟩;refine (ah (δ':=δ) (bj hv rfl)).trans ?_;refine (ah (δ':=δ) (js (bg (bg v0 (h.get (k:=0) rfl) (tY _ _ _ _ _)) (h.get (k:=9) rfl) (Mr _ _ _)) (h.get (k:=11) rfl) tp (h.get (k:=11) rfl) (by rw [OH];omega))).trans ?_;exact (xh (d:=y) rfl v0 (h1.get (k:=0) rfl) (by simp [jj])).trans (by rw [MM])
theorem AO (h:GH T n c j s R) (ok:bf c k s) (hk:k<7000) (hw:j.wl=true) (hj:j.line=.int p) (hx:j.rows[j.pl]?=some (cq p .meet)):zG T n c j s R p .meet:=by
 obtain ⟨T1,e1,h1⟩:=gB h hw hx;obtain ⟨T2,e2,h2⟩:=uf (y:=cq p .meet) (v:=0) h1 hj (by have:=ok.n4;omega) (Dz (sF (x0 rfl) LM) rfl);obtain ⟨k1,k2,k3⟩:=kq.2.2.2 "meet" (by simp);exact .inr (.inr ⟨T2,0,(kl (w := "meet") h ⟨_,rfl⟩ (kq.1 _ (by simp)) e1).trans ((OI bh ((fF rfl (kq.2.1 _ (by simp))).trans ((fF rfl (kq.2.2.1 _ (by simp))).trans ((fF rfl k1).trans ((fF rfl k2).trans ((fF rfl k3).trans ((cf (au (uE rfl (mU rfl rfl) (kin _ (by simp))))).trans (aN (gN (ds:=[cq p .meet]) v0 (h1.get (k:=0) rfl) (mG _ (by simp)) rfl e2))))))))).trans rfl),h2,rfl,.inl rfl⟩)
theorem BK (h:GH T n c j s R) (hc:ke c) (ok:bf c k s) (hk:k<7000) (hw:j.wl=true) (hj:j.line=.int p) {x:Str} {w:Fin 4} {e:Tr} (hr:qd e/\mj e<7) (hx:j.rows[j.pl]?=some (cq p (.join x w e))):zG T n c j s R p (.join x w e):=by
 obtain ⟨T1,e1,h1⟩:=gB h hw hx;obtain ⟨T2,e2,h2⟩:=uf (y:=cq p (.join x w e)) (v:=vl c s.nm e) h1 hj (by have:=ok.n4;omega) (D1 (sT (x0 rfl)) (mR h1 hc ok.nm hr.2 hr.1 (au (fB (x4 rfl) rfl))));obtain ⟨k1,k2,k3⟩:=kq.2.2.2 "join" (by simp);exact .inr (.inr ⟨T2,vl c s.nm e,(kl (w := "join") h ⟨_,rfl⟩ (kq.1 _ (by simp)) e1).trans ((OI bh ((fF rfl (kq.2.1 _ (by simp))).trans ((fF rfl (kq.2.2.1 _ (by simp))).trans ((fF rfl k1).trans ((fF rfl k2).trans ((fF rfl k3).trans ((cf (au (uE rfl (mU rfl rfl) (kin _ (by simp))))).trans (aN (gN (ds:=[cq p (.join x w e)]) v0 (h1.get (k:=0) rfl) (mG _ (by simp)) rfl e2))))))))).trans rfl),h2,rfl,.inr ⟨x,w,e,rfl⟩⟩)
theorem Fj (h:GH T n c j s R) (hc:ke c) (ok:bf c k s) (hk:k<7000) (hw:j.wl=true) (hj:j.line=.int p) {r:Rw} (hr:AD r) (hx:j.rows[j.pl]?=some (cq p r)):zG T n c j s R p r:=by
 cases r with
 | put a e=>exact do_put' h hc ok hk hw hj hr hx
 | tellB a=>exact zE h hc ok hk hw hj hr hx
 | setB x a=>exact Cr h hc ok hk hw hj hr hx
 | set x e=>exact E9 h hc ok hk hw hr hx
 | tell e=>exact Cd h hc ok hk hw hr hx
 | meet=>exact AO h ok hk hw hj hx
 | join x w e=>exact BK h hc ok hk hw hj hr hx
end
theorem xN:Str.ofString "Outside" ≠ Str.ofString "Nought" := by decide +kernel
theorem Ax (p:Int) (r:Rw):∃ a l,cq p r=.tuple (a::.int p::l):=by cases r <;> exact ⟨_,_,rfl⟩
section
variable {T:ai} {n:Nat} {c:Cn} {j:Ct} {s:As} {R:List (Nat×Ob)} {p:Int} {k:Nat}
noncomputable def Le (T:ai) (n:Nat) (c:Cn) (j:Ct) (s:As) (R:List (Nat×Ob)) (p:Int) (r:Rw):Prop:=
 (∃ T',cV [.ref n,cq p r] T=some (.ok .none,T')/\GH T' n c { j with line:=.int p,pl:=j.pl+1 } (gM c p r s) R/\(gM c p r s).en=s.en/\(gM c p r s).ov=s.ov/\(gM c p r s).tc=s.tc/\(gM c p r s).pt=s.pt/\(gM c p r s).lt=s.lt)∨
 (∃ T' k',cV [.ref n,cq p r] T=some (.ok .none,T')/\GH T' n c { j with line:=.int p,pl:=k' } (gM c p r s) R/\(∃ x,(gM c p r s).en=some x)/\(gM c p r s).ov=true/\(gM c p r s).tc=s.tc/\(gM c p r s).pt=s.pt)∨
 (∃ T' v,cV [.ref n,cq p r] T=some (.ok .none,T')/\GH T' n c { j with line:=.int p,pl:=j.pl+1,mt:=cq p r } { s with ln:=s.ln++[p],br:=s.br++[(p,v)] } R/\gM c p r s=nN c r { s with ln:=s.ln++[p],br:=s.br++[(p,v)] }/\(r=.meet∨∃ x w e,r=.join x w e)/\(s.ln.length:Int)≠c.most)
theorem Bc (h:GH T n c j s R) (hc:ke c) (ok:bf c k s) (hk:k<6000) (hw:j.wl=true) {r:Rw} (hr:AD r) (hx:j.rows[j.pl]?=some (cq p r)):Le T n c j s R p r:=by
 let δ:DS:=[.val (.ref n),.val (cq p r)]
 have ix1:1[1]! δ=some (.int p):=by
  obtain ⟨a,l',e⟩:=Ax p r;exact x1 (v:=a) (l:=l') (by rw [<-e];rfl)
 have h1:GH _ n c { j with line:=.int p } s R:=h.set (k:=0) rfl (.ins (Str.ofString "Goer") (jj n j.b c (.int p) j.mt));have s1:bQ "Goer" "line" (aa (ae 0)) (aa 1[1]!) δ T=some (.nx δ,T.set n (.ins (Str.ofString "Goer") (jj n j.b c (.int p) j.mt))):=(xh (au ix1) v0 (h.get (k:=0) rfl) (by simp [jj])).trans (by rw [Os]);revert s1 h1;generalize T.set n (.ins (Str.ofString "Goer") (jj n j.b c (.int p) j.mt))=T1;intro h1 s1;have cm:kS ER (ar "Story" "steps" (ar "Goer" "story" (aa (ae 0)))) (ar "Goer" "most" (aa (ae 0))) δ T1=some (.ok (decide (c.most<=s.ln.length)),T1):=qZ (bg (bg v0 (h1.get (k:=0) rfl) (tY _ _ _ _ _)) (h1.get (k:=9) rfl) (KR _ _ _)) (bg v0 (h1.get (k:=0) rfl) (NK _ _ _ _ _)) rfl;have hm:=ok.mo;by_cases e:(s.ln.length:Int)=c.most
 . rw [OV (by omega)] at cm;obtain ⟨T2,e2,h2⟩:=kF h1 (Str.ofString "tired") p;have st:gM c p r s={ s with en:=some (Str.ofString "tired", p),ov:=true }:=by unfold gM;rw [OG e]
   unfold Le;rw [st];refine .inr (.inl ⟨T2,j.pl,(az rfl).trans ?_,h2,⟨_,rfl⟩,rfl,rfl,rfl⟩);exact (OI bh ((ah s1).trans (cR ((cf cm).trans ((ah (aN (er (bg v0 (h1.get (k:=0) rfl) (tY _ _ _ _ _)) (h1.get (k:=9) rfl) (Mm _ _ _) (aE rfl (aE (bg v0 (h1.get (k:=0) rfl) (Iu _ _ _ _ _)) rfl)) e2))).trans rfl))))).trans rfl
 . rw [OE (by omega)] at cm;have st:gM c p r s=dn c p r { s with ln:=s.ln++[p] }:=by unfold gM;rw [OT e]
   obtain ⟨T2,e2,h2⟩:=A1 h1 p (by have:=ok.n3;omega);have s2:aS (ck "Story" "add_step" dY (ar "Goer" "story" (aa (ae 0))) (av (ar "Goer" "line" (aa (ae 0))) bb)) δ T1=some (.nx δ,T2):=aN (er (bg v0 (h1.get (k:=0) rfl) (tY _ _ _ _ _)) (h1.get (k:=9) rfl) (Oj _ _ _) (aE (bg v0 (h1.get (k:=0) rfl) (Iu _ _ _ _ _)) rfl) e2);have D:=Fj (p:=p) h2 hc (ok.ln' p e) (by omega) hw rfl hr hx;have I:jl "Goer" (.ref n) T2=some (n,jj n j.b c (.int p) j.mt):=gH (h2.get (k:=0) rfl);have M:(jj n j.b c (.int p) j.mt).lookup (Str.ofString "do")=none:=JI _ _ _ _ _ _ (by simp);have e0:ae 0 δ=some (.ref n):=rfl;have e1:#[ae 1] δ=some [cq p r]:=rfl;have pre:∀ {q:SM W},bh (m6 "Goer" "do" fU "Nought" "Outside" (ae 0) #[ae 1] (aS (oY "Story" "finish" bG (ar "Goer" "story" (aa (ae 0))) (av (aa !"nought") (av (ar "Goer" "line" (aa (ae 0))) bb)))) (aS (oY "Story" "finish" bG (ar "Goer" "story" (aa (ae 0))) (av (aa !"outside") (av (ar "Goer" "line" (aa (ae 0))) bb)))) δ T2)=q->cV [.ref n,cq p r] T=q:=λ {q} hq=>by
    refine (az rfl).trans ?_;exact (OI bh ((ah s1).trans ((ah (δ':=δ) ((bH cm).trans rfl)).trans (ah s2)))).trans hq
   rcases D with ⟨T3,d1,h3,f1,f2,f3,f4,f5⟩ | ⟨T3,d1,h3,f1⟩ | ⟨T3,v,d1,h3,f1,f2⟩
   . refine .inl ⟨T3,pre ?_,st▸h3,by rw [st];exact f1,by rw [st];exact f2,by rw [st];exact f3,by rw [st];exact f4,by rw [st];exact f5⟩;unfold m6;rw [e0,e1];simp only [OA,I,M,Pj,d1];rfl
   . obtain ⟨T4,e4,h4⟩:=kF h3 (Str.ofString "outside") p;rw [f1] at st;unfold Le;rw [st];refine .inr (.inl ⟨T4,j.pl+1,pre ?_,h4,⟨_,rfl⟩,rfl,rfl,rfl⟩);unfold m6;rw [e0,e1];simp only [OA,I,M,Pj,d1,xN,Qp];exact (OI bh (aN (er (bg v0 (h3.get (k:=0) rfl) (tY _ _ _ _ _)) (h3.get (k:=9) rfl) (Mm _ _ _) (aE rfl (aE (bg v0 (h3.get (k:=0) rfl) (Iu _ _ _ _ _)) rfl)) e4))).trans rfl
   . refine .inr (.inr ⟨T3,v,pre ?_,h3,st.trans f1,f2,e⟩);unfold m6;rw [e0,e1];simp only [OA,I,M,Pj,d1];rfl
theorem Bi (h:GH T n c j s R) {a b d e:W} {N:Int} (hp:d8 c.defs (.inr (Str.ofString "main"))=some (.tuple [a,b,d,e,.int N])):∃ T',gz [.ref n] T=some (.ok .none,T')/\GH T' n c j { s with en:=some (Str.ofString "done", N) } R:=by
 obtain ⟨T',e1,h1⟩:=kF h (Str.ofString "done") N;refine ⟨T',(az rfl).trans ((OI bh (?_:_=some (.nx [.val (.ref n)],T'))).trans rfl),h1⟩;refine (cf (Kt (b:=1) (wP (bg v0 (h.get (k:=0) rfl) (MJ _ _ _ _ _)) (h.get (k:=8) rfl)) rfl)).trans ?_;have dg:aD (ar "Goer" "defs" (aa (ae 0))) (aa !"main") [.val (.ref n)] T=some (.ok (.tuple [a,b,d,e,.int N]),T):=lj (bg v0 (h.get (k:=0) rfl) (Of _ _ _ _ _)) rfl (h.get (k:=1) rfl) hp;exact aN (er (bg v0 (h.get (k:=0) rfl) (tY _ _ _ _ _)) (h.get (k:=9) rfl) (Mm _ _ _) (aE rfl (aE (He dg rfl (Nl _ _ _ _ _ _)) rfl)) e1)
noncomputable abbrev Hu:DS->ai->SM Bool:=mH (kS mf (ar "Story" "end" (ar "Goer" "story" (aa (ae 0)))) (aa (dC .none))) (kS mf (ar "Goer" "meeting" (aa (ae 0))) (aa (dC .none)))
theorem Iz (h:GH T n c j s R) {r:DS} (h1:s.en=none) (h2:j.mt=.none):Hu (.val (.ref n)::r) T=some (.ok true,T):=by
 have e:ar "Story" "end" (ar "Goer" "story" (aa (ae 0))) (.val (.ref n)::r) T=some (.ok (pf s.en),T):=bg (bg v0 (h.get (k:=0) rfl) (tY _ _ _ _ _)) (h.get (k:=9) rfl) (Kp _ _ _);have m:ar "Goer" "meeting" (aa (ae 0)) (.val (.ref n)::r) T=some (.ok j.mt,T):=bg v0 (h.get (k:=0) rfl) (Kw _ _ _ _ _);rw [h1] at e;rw [h2] at m;exact rS (qZ e rfl rfl) (qZ m rfl rfl)
theorem Jb (h:GH T n c j s R) {r:DS} (h1:∃ x,s.en=some x):Hu (.val (.ref n)::r) T=some (.ok false,T):=by
 obtain ⟨x,h1⟩:=h1;have e:ar "Story" "end" (ar "Goer" "story" (aa (ae 0))) (.val (.ref n)::r) T=some (.ok (pf s.en),T):=bg (bg v0 (h.get (k:=0) rfl) (tY _ _ _ _ _)) (h.get (k:=9) rfl) (Kp _ _ _);rw [h1] at e;exact rm (qZ e rfl rfl)
theorem L8 (h:GH T n c j s R) {r:DS} {x:List W} (h1:s.en=none) (h2:j.mt=.tuple x):Hu (.val (.ref n)::r) T=some (.ok false,T):=by
 have e:ar "Story" "end" (ar "Goer" "story" (aa (ae 0))) (.val (.ref n)::r) T=some (.ok (pf s.en),T):=bg (bg v0 (h.get (k:=0) rfl) (tY _ _ _ _ _)) (h.get (k:=9) rfl) (Kp _ _ _);have m:ar "Goer" "meeting" (aa (ae 0)) (.val (.ref n)::r) T=some (.ok j.mt,T):=bg v0 (h.get (k:=0) rfl) (Kw _ _ _ _ _);rw [h1] at e;rw [h2] at m;exact rS (qZ e rfl rfl) (qZ m rfl rfl)
structure Mv (j:Ct) (p:Int) (rs:List Rw):Prop where
 wl:j.wl=true
 le:j.pl<=j.rows.length
 dr:j.rows.drop j.pl=bL p rs
 ok:∀ r∈rs,AD r
theorem Mv.hd {r:Rw} {rs:List Rw} (h:Mv j p (r::rs)):j.rows[j.pl]?=some (cq p r):=by
 have:=OI (λ z=>z[0]?) h.dr;simpa [bL] using this
theorem Mv.nx {r:Rw} {rs:List Rw} (h:Mv j p (r::rs)) {l m:W}:Mv { j with line:=l,pl:=j.pl+1,mt:=m } (p+1) rs:=by
 refine ⟨h.wl,(oG h.hd).1,?_,λ r hr=>h.ok r (.tail _ hr)⟩;show j.rows.drop (j.pl+1)=_;rw [<-List.tail_drop,h.dr];rfl
noncomputable def N9 (T:ai) (n:Nat) (c:Cn) (j:Ct) (s:As) (R:List (Nat×Ob)) (p:Int) (rs:List Rw) (K:Nat) (O:ai->Prop):Prop:=
 (∃ T' l k w,O T'/\GH T' n c { j with line:=l,pl:=k,wl:=w } (j7 c p rs s) R/\(j7 c p rs s).tc=s.tc/\(j7 c p rs s).pt=s.pt/\∃ x,(j7 c p rs s).en=some x)∨
 (∃ T' l k s1 p1 r rs1,O T'/\GH T' n c { j with line:=l,pl:=k,mt:=cq p1 r } s1 R/\j7 c p rs s=j7 c (p1+1) rs1 (nN c r s1)/\s1.lt=s.lt/\s1.tc=s.tc/\s1.pt=s.pt/\s1.en=none/\s1.ov=false/\bf c (K-4*rs1.length-1) s1/\Mv { j with line:=l,pl:=k,mt:=.none } (p1+1) rs1/\(r=.meet∨∃ x w e,r=.join x w e)/\p+rs.length=p1+1+rs1.length/\rs1.length<rs.length)
theorem vK (hc:ke c) {a b d e:W} {N:Int} (hp:d8 c.defs (.inr (Str.ofString "main"))=some (.tuple [a,b,d,e,.int N])) {K:Nat} (hK:K<6000):∀ (rs:List Rw) (T:ai) (j:Ct) (s:As) (p:Int) (f:Nat) (x:Sl),GH T n c j s R->Mv j p rs->j.mt=.none->s.en=none->s.ov=false->4*rs.length<=K->bf c (K-4*rs.length) s->N=p+rs.length->rs.length+2<=f->N9 T n c j s R p rs K λ T'=>∃ x',cS Hu gc f [.val (.ref n),x] T=some (.nx [.val (.ref n),x'],T')
 | [],T,j,s,p,f,x,h,m,hm,hen,hov,_,_,hN,hf=>by
  obtain ⟨f,rfl⟩:∃ i,f=i+2:=⟨f-2,by simp only [O5] at hf;omega⟩
  have hl:j.pl=j.rows.length:=by
   have h1:=OI List.length m.dr;simp only [List.length_drop,bL,O5] at h1;have:=m.le;omega
  obtain ⟨T1,e1,h1⟩:=Es h m.wl hl;obtain ⟨T2,e2,h2⟩:=Bi h1 hp;have hN':N=p:=by simp only [O5] at hN;omega
  have rn:j7 c p [] s={ s with en:=some (Str.ofString "done", N) }:=by
   show (if s.ov=true then _ else _)=_;rw [hov,hN'];rfl
  have B:gc [.val (.ref n),x] T=some (.nx [.val (.ref n),.val .none],T2):=by
   refine (ah (δ':=[.val (.ref n),.val .none]) (bj (er (oO h) (h.get (k:=4) rfl) (Np _) (ds:=[]) rfl e1) rfl)).trans ?_;refine (cf (S1:=T1) rfl).trans ?_;exact aN (er v0 (h1.get (k:=0) rfl) (mG _ (by simp)) (ds:=[]) rfl e2)
  refine .inl ⟨T2,j.line,j.pl,false,⟨_,(FN (Iz h hen hm) B).trans (xO (Jb h2 ⟨_,rfl⟩))⟩,rn▸h2,by rw [rn],by rw [rn],by rw [rn];exact ⟨_,rfl⟩⟩
 | r::rs,T,j,s,p,f,x,h,m,hm,hen,hov,hb,ok,hN,hf=>by
  simp only [OF] at hf hb hN;obtain ⟨f,rfl⟩:∃ i,f=i+2:=⟨f-2,by omega⟩
  have hr:=m.ok r (.head _);have P:=Bc h hc ok (by omega) m.wl hr m.hd;have B:∀ {T'},cV [.ref n,cq p r] T=some (.ok .none,T')->gc [.val (.ref n),x] T=some (.nx [.val (.ref n),.val (cq p r)],T'):=λ {T'} e=>by
   refine (ah (δ':=[.val (.ref n),.val (cq p r)]) (bj (er (oO h) (h.get (k:=4) rfl) (Np _) (ds:=[]) rfl (EK h m.wl m.hd)) rfl)).trans ?_;refine (bH (S1:=T) (by cases r <;> rfl)).trans ?_;exact aN (er v0 (h.get (k:=0) rfl) (mG _ (by simp)) (ds:=[cq p r]) rfl e)
  have go:∀ {T'},cV [.ref n,cq p r] T=some (.ok .none,T')->_:=λ {T'} e=>FN (k:=f+1) (Iz h (r:=[x]) hen hm) (B e);have rn:j7 c p (r::rs) s=j7 c (p+1) rs (gM c p r s):=by
   show j7 c (p+1) rs (if s.ov=true then s else gM c p r s)=_;rw [hov];rfl
  rcases P with ⟨T1,e1,h1,f1,f2,f3,f4,f5⟩ | ⟨T1,k1,e1,h1,f1,f2,f3,f4⟩ | ⟨T1,v,e1,h1,f1,f2,f3⟩
  . have ok2:=(ok.stp' hc p hr).up;rw [show K-4*(r::rs).length+3+1=K-4*rs.length by simp only [OF];omega] at ok2;have ih:=vK hc hp hK rs T1 _ (gM c p r s) (p+1) (f+1) (.val (cq p r)) h1 m.nx hm (f1.trans hen) (f2.trans hov) (by omega) ok2 (by omega) (by omega);rcases ih with ⟨T2,l,k2,w,⟨x',o⟩,h2,g1,g2,g3⟩ | ⟨T2,l,k2,s1,p1,r1,rs1,⟨x',o⟩,h2,g1,g2,g3,g4,g5,g6,g7,g8,g9,g10,g11⟩
    . exact .inl ⟨T2,l,k2,w,⟨x',(go e1).trans o⟩,rn▸h2,by rw [rn,g1,f3],by rw [rn,g2,f4],rn▸g3⟩
    . exact .inr ⟨T2,l,k2,s1,p1,r1,rs1,⟨x',(go e1).trans o⟩,h2,rn.trans g1,g2.trans f5,g3.trans f3,g4.trans f4,g5,g6,g7,g8,g9,by simp only [OF];omega,by simp only [OF];omega⟩
  . rw [vc c rs (p+1) f2] at rn;refine .inl ⟨T1,.int p,k1,j.wl,⟨_,(go e1).trans (xO (Jb h1 f1))⟩,rn▸h1,by rw [rn,f3],by rw [rn,f4],by rw [rn];exact f1⟩
  . have hq:∃ y,cq p r=.tuple y:=by
     obtain ⟨a,l,e⟩:=Ax p r;exact ⟨_,e⟩
    obtain ⟨y,hy⟩:=hq;have ok2:bf c (K-4*rs.length-1) { s with ln:=s.ln++[p],br:=s.br++[(p,v)] }:=by
     have:=((ok.ln' p f3).brg (p,v)).up;rw [show K-4*(r::rs).length+1+1+1=K-4*rs.length-1 by simp only [OF];omega] at this;exact this
    have nx:=m.nx (l:=.int p) (m:=.none);refine .inr ⟨T1,.int p,j.pl+1,_,p,r,rs,⟨_,(go e1).trans (xO (L8 h1 hen hy))⟩,h1,by rw [rn,f1],rfl,rfl,rfl,hen,hov,ok2,nx,f2,by simp only [OF];omega,by simp⟩
end
theorem oW {δ:DS} {S:ai}:bd (aa aj) δ S=some (.ok (.ref S.length),S++[.lst []]):=rfl
theorem uR {δ:DS} {S:ai}:uA δ S=some (.ok (.ref S.length),S++[.dK []]):=rfl
theorem Hh {fo fi:DS->ai->SM W} {δ:DS} {S S1 S2:ai} {a b:Str} (h1:fo δ S=some (.ok (.str a),S1)) (h2:fi δ S1=some (.ok (.str b),S2)):kd false fo fi δ S=some (.ok (decide (a=b)),S2):=by
 have:lh false (.str a) (.str b) S2=some (decide (a=b)):=rfl;simp only [kd,aq,h1,h2,this,iL,OC]
theorem vt {fo:DS->ai->SM W} {δ:DS} {S S1:ai} {es:List W} (h1:fo δ S=some (.ok (.list es),S1)):ig fo δ S=some (.ok (.ref S1.length),S1++[.lst es]):=by
 have:Cj (.list es) S1=some es:=rfl;simp only [ig,aq,h1,this,OC]
noncomputable def jX {α:Type} (f:α->Ob) (n:Nat) (R:List (Nat×Ob)):List Nat->List α->Prop
 | [],[]=>True
 | i::I,x::X=>(n<=i/\(i,f x)∈R)/\jX f n R I X
 | _,_=>False
theorem jX.mono {α:Type} {f:α->Ob} {n:Nat} {R R':List (Nat×Ob)} (hR:∀ x∈R,x∈R'):∀ {I:List Nat} {X:List α},jX f n R I X->jX f n R' I X
 | [],[],_=>trivial
 | _::_,_::_,h=>⟨⟨h.1.1,hR _ h.1.2⟩,jX.mono hR h.2⟩
 | [],_::_,h=>h.elim
 | _::_,[],h=>h.elim
theorem jX.snoc {α:Type} {f:α->Ob} {n:Nat} {R:List (Nat×Ob)} {i:Nat} {x:α} (hx:n<=i/\(i,f x)∈R):∀ {I:List Nat} {X:List α},jX f n R I X->jX f n R (I++[i]) (X++[x])
 | [],[],_=>⟨hx,trivial⟩
 | _::_,_::_,h=>⟨h.1,jX.snoc hx h.2⟩
 | [],_::_,h=>h.elim
 | _::_,[],h=>h.elim
noncomputable def tO (l:List (Bool×Int×Int)):Ob:=.lst (l.map iM)
noncomputable def pO (l:List (Int×Int)):Ob:=.dK (uB l)
structure mJ (n:Nat) (R:List (Nat×Ob)) (j:Ct) (s:As):Prop where
 tc:jX tO n R j.tI s.tc
 pt:jX pO n R j.pI s.pt
 t:n<=j.t
 p:n<=j.p
section
variable {T:ai} {n:Nat} {c:Cn} {j:Ct} {s:As} {R:List (Nat×Ob)} {k:Nat}
theorem Ai (h:GH T n c j s R) (hc:ke c) (ok:bf c k s) (hk:k<6000) {l:Lt} (hl:mh c l) {p:Int} {r:Rw} (hm:j.mt=cq p r) (hr:r=.meet∨∃ x w e,r=.join x w e) (ol:mJ n R j s) (hI:j.tI.length<=k/\j.pI.length<=k):
 ∃ T' b t q,jK [.ref n,dS l] T=some (.ok .none,T')/\GH T' n c { j with mt:=.none,b:=b,t:=t,p:=q,tI:=j.tI++[j.t],pI:=j.pI++[j.p] } (AC c r l s) ((j.t,tO s.tn)::(j.p,pO s.pn)::R)/\mJ n ((j.t,tO s.tn)::(j.p,pO s.pn)::R) { j with mt:=.none,b:=b,t:=t,p:=q,tI:=j.tI++[j.t],pI:=j.pI++[j.p] } (AC c r l s):=by
 let δ:DS:=[.val (.ref n),.val (dS l)]
 have mt:ar "Goer" "meeting" (aa (ae 0)) δ T=some (.ok (cq p r),T):=hm▸bg v0 (h.get (k:=0) rfl) (Kw _ _ _ _ _);have A:∃ T1,bv (kd false (sIx (ar "Goer" "meeting" (aa (ae 0))) (aa !0)) (aa !"join")) (aS (ck "Goer" "give" eZ (aa (ae 0)) (av (sIx (ar "Goer" "meeting" (aa (ae 0))) (aa !2)) (av (eB lq (av (sIx (ar "Goer" "meeting" (aa (ae 0))) (aa !3)) (av (aa 1[1]!) (av (ar "Goer" "lane" (aa (ae 0))) bb)))) bb)))) (al aw) δ T=some (.nx δ,T1)/\GH T1 n c j { s with nm:=(AC c r l s).nm } R:=by
  rcases hr with rfl | ⟨x,w,e,rfl⟩
  . refine ⟨T,?_,h⟩;have e0:=Hh (He (fi:=aa !0) mt rfl (Ku _ _)) (fi:=aa !"join") rfl;rw [LM] at e0;exact (bH e0).trans rfl
  . obtain ⟨T1,e1,h1⟩:=oQ h (by have:=ok.n1;omega) x (jn w l.br c.lane);refine ⟨T1,?_,h1⟩;have e0:=Hh (He (fi:=aa !0) mt rfl (Ku _ _)) (fi:=aa !"join") rfl;rw [OV rfl] at e0;refine (cf e0).trans (aN (er v0 (h.get (k:=0) rfl) (mG _ (by simp)) (aE (He mt rfl (LR _ _ _ _)) (aE ?_ rfl)) e1));have a:=aE (He (fi:=aa !3) mt rfl (MD _ _ _ _ _)) (aE (f:=aa 1[1]!) (au (x1 (f:=aA 1) (δ:=δ) rfl)) (aE (bg (f := "lane") (c := "Goer") (v0 (x:=.ref n) (r:=[.val (dS l)])) (h.get (k:=0) rfl) (N4 _ _ _ _ _)) (g:=bb) (ds:=[]) rfl));have J:=vz hc hl w;simp only [eB,aq];rw [a];simp only [J,iL,OC]
 obtain ⟨T1,e1,h0⟩:=A;have H1:=h0.push (.lst (l.bx.map .int));have H2:=H1.set (k:=1) rfl (.ins (Str.ofString "Goer") (jj n T1.length c j.line j.mt));have s2:bQ "Goer" "boxes" (aa (ae 0)) (ig (aa 1[2]!)) δ T1=some (.nx δ,(T1++[Ob.lst (l.bx.map .int)]).set n (.ins (Str.ofString "Goer") (jj n T1.length c j.line j.mt))):=(xh (vt (au (x2 rfl))) v0 (H1.get (k:=1) rfl) (by simp [jj])).trans (by rw [NU]);revert s2 H2;generalize T1.length=b';generalize (T1++[Ob.lst (l.bx.map .int)]).set n (.ins (Str.ofString "Goer") (jj n b' c j.line j.mt))=T2;intro H2 s2;have H3:=H2.set (k:=1) rfl (.ins (Str.ofString "Goer") (jj n b' c j.line .none));have s3:bQ "Goer" "meeting" (aa (ae 0)) (aa (dC .none)) δ T2=some (.nx δ,T2.set n (.ins (Str.ofString "Goer") (jj n b' c j.line .none))):=(xh (d:=.none) rfl v0 (H2.get (k:=1) rfl) (by simp [jj])).trans (by rw [MM]);revert s3 H3;generalize T2.set n (.ins (Str.ofString "Goer") (jj n b' c j.line .none))=T3;intro H3 s3;have nt:n<T3.length:=(H3.lt (x:=(n,.ins (Str.ofString "Goer") (jj n b' c j.line .none))) (by simp [gL]))
 have H4:=H3.push (.lst []);have H5:=H4.set (k:=14) rfl (.lst (lU j.tI j.t++[.ref T3.length]));have a5:aQ (ar "Story" "touches" (aa (ae 0))) (bd (aa aj)) [.val (.ref (n+10))] T3=some (.nx [.val (.ref (n+10))],(T3++[Ob.lst []]).set (n+13) (.lst (lU j.tI j.t++[.ref T3.length]))):=js (bg v0 (H3.get (k:=10) rfl) (Jt _ _ _)) (H3.get (k:=13) rfl) oW (H4.get (k:=14) rfl) (by simp [lU];omega);have nl:n<((T3++[Ob.lst []]).set (n+13) (.lst (lU j.tI j.t++[.ref T3.length]))).length:=by simp;omega
 revert a5 H5 nl;generalize (T3++[Ob.lst []]).set (n+13) (.lst (lU j.tI j.t++[.ref T3.length]))=T5;generalize T3.length=t' at nt;intro H5 a5 nl;have H6:=H5.push (.dK []);have H7:=H6.set (k:=16) rfl (.lst (lU j.pI j.p++[.ref T5.length]));have a7:aQ (ar "Story" "puts" (aa (ae 0))) uA [.val (.ref (n+10))] T5=some (.nx [.val (.ref (n+10))],(T5++[Ob.dK []]).set (n+14) (.lst (lU j.pI j.p++[.ref T5.length]))):=js (bg v0 (H5.get (k:=11) rfl) (KI _ _ _)) (H5.get (k:=15) rfl) uR (H6.get (k:=16) rfl) (by simp [lU];omega);revert a7 H7;generalize (T5++[Ob.dK []]).set (n+14) (.lst (lU j.pI j.p++[.ref T5.length]))=T7;generalize T5.length=p' at nl;intro H7 a7;have bp:bW [.ref (n+10)] T3=some (.ok .none,T7):=(az rfl).trans ((OI bh ((ah a5).trans a7)).trans rfl);refine ⟨T7,b',t',p',(az rfl).trans ((OI bh (?_:_=some (.nx δ,T7))).trans rfl),?_,?_⟩
 . refine (ah e1).trans ((ah s2).trans ((ah s3).trans ?_));exact aN (er (bg v0 (H3.get (k:=1) rfl) (tY _ _ _ _ _)) (H3.get (k:=10) rfl) (MF _ _ _) (ds:=[]) rfl bp)
 . have sw:=gy.swap (T:=T7) (A:=(gL n c { j with mt:=.none,b:=b',t:=t',p:=p',tI:=j.tI++[j.t],pI:=j.pI++[j.p] } (AC c r l s) []).take 15) (b:=(j.b,.lst (s.bx.map .int))) (t:=(j.t,tO s.tn)) (p:=(j.p,pO s.pn)) (b':=(b',.lst (l.bx.map .int))) (t':=(t',.lst [])) (p':=(p',.dK [])) (R:=R) (H7.cast (by
    simp only [gL,lU,O3,OK,Pa,OW,O4,List.take_succ_cons,List.take_zero,QC,Qs,tO,pO];rfl))
   exact sw
 . refine ⟨?_,?_,by show n<=t';omega,by show n<=p';omega⟩
   . exact jX.snoc ⟨ol.t,.head _⟩ (jX.mono (λ x hx=>.tail _ (.tail _ hx)) ol.tc)
   . exact jX.snoc ⟨ol.p,.tail _ (.head _)⟩ (jX.mono (λ x hx=>.tail _ (.tail _ hx)) ol.pt)
end
theorem jX.len {α:Type} {f:α->Ob} {n:Nat} {R:List (Nat×Ob)}:∀ {I:List Nat} {X:List α},jX f n R I X->I.length=X.length
 | [],[],_=>rfl
 | _::_,_::_,h=>OI (· + 1) (jX.len h.2)
 | [],_::_,h=>h.elim
 | _::_,[],h=>h.elim
theorem mJ.to {n:Nat} {R:List (Nat×Ob)} {j j':Ct} {s s':As} (h:mJ n R j s) (h1:s'.tc=s.tc) (h2:s'.pt=s.pt) (h3:j'.tI=j.tI) (h4:j'.pI=j.pI) (h5:j'.t=j.t) (h6:j'.p=j.p):mJ n R j' s':=by
 obtain ⟨a,b,c,d⟩:=h;exact ⟨by rw [h1,h3];exact a,by rw [h2,h4];exact b,h5▸c,h6▸d⟩
section
variable {n:Nat} {c:Cn} {a0 a1 a2 a3 a4 a5 a6:Sl}
theorem Ig {T:ai} {j:Ct} {s:As} {R:List (Nat×Ob)} (h:GH T n c j s R) {x:Sl}:ar "Goer" "meeting" (aa (ae 7)) [a0,a1,a2,a3,a4,a5,a6,.val (.ref n),x] T=some (.ok j.mt,T):=bg (n:=n) rfl (h.get (k:=0) rfl) (Kw _ _ _ _ _)
theorem wg {T:ai} {j:Ct} {s:As} {R:List (Nat×Ob)} (h:GH T n c j s R) (hm:j.mt=.none):∀ (L:List W) (x:Sl),∃ x',eM (ao 8) mL L [a0,a1,a2,a3,a4,a5,a6,.val (.ref n),x] T=some (.nx [a0,a1,a2,a3,a4,a5,a6,.val (.ref n),x'],T)
 | [],x=>⟨x,rfl⟩
 | l::L,x=>by
  obtain ⟨x',e⟩:=wg h hm L (.val l);refine ⟨x',(jb (δ2:=[a0,a1,a2,a3,a4,a5,a6,.val (.ref n),.val l]) rfl ?_).trans e⟩;have m:=Ig (a0:=a0) (a1:=a1) (a2:=a2) (a3:=a3) (a4:=a4) (a5:=a5) (a6:=a6) h (x:=.val l);rw [hm] at m;exact (bH (qZ m rfl rfl)).trans rfl
theorem oF {T:ai} {x':Sl} {T':ai} (h:cS Hu gc 1000000 [.val (.ref n),.no] T=some (.nx [.val (.ref n),x'],T')):iC [.ref n] T=some (.ok .none,T'):=(az rfl).trans ((OI bh h).trans rfl)
theorem Dh (hc:ke c) {a b d e:W} {N:Int} (hp:d8 c.defs (.inr (Str.ofString "main"))=some (.tuple [a,b,d,e,.int N])) {K:Nat} (hK:K<6000) {F:List (Nat×Ob)}:∀ (L:List Lt) (T:ai) (j:Ct) (s:As) (R:List (Nat×Ob)) (p:Int) (rs:List Rw) (x:Sl),GH T n c j s R->Mv j p rs->j.mt=.none->s.en=none->s.ov=false->s.lt=L->4*rs.length<=K->bf c (K-4*rs.length) s->N=p+rs.length->mJ n R j s->(∀ y∈F,y∈R)->
 ∃ T1 T' j' R' x',iC [.ref n] T=some (.ok .none,T1)/\eM (ao 8) mL (L.map dS) [a0,a1,a2,a3,a4,a5,a6,.val (.ref n),x] T1=some (.nx [a0,a1,a2,a3,a4,a5,a6,.val (.ref n),x'],T')/\GH T' n c j' (j7 c p rs s) R'/\mJ n R' j' (j7 c p rs s)/\∀ y∈F,y∈R'
 | L,T,j,s,R,p,rs,x,h,m,hm,hen,hov,hL,hb,ok,hN,ol,hF=>by
  have G:=vK hc hp hK rs T j s p 1000000 .no h m hm hen hov hb ok hN (by omega);rcases G with ⟨T1,l,k,w,⟨x1,o⟩,h1,g1,g2,g3⟩ | ⟨T1,l,k,s1,p1,r,rs1,⟨x1,o⟩,h1,g1,g2,g3,g4,g5,g6,g7,g8,g9,g10,g11⟩
  . obtain ⟨x',e'⟩:=wg (a0:=a0) (a1:=a1) (a2:=a2) (a3:=a3) (a4:=a4) (a5:=a5) (a6:=a6) h1 hm (L.map dS) x;exact ⟨T1,T1,_,R,x',oF o,e',h1,ol.to g1 g2 rfl rfl rfl rfl,hF⟩
  . cases L with
    | nil=>
     have af:nN c r s1={ s1 with ov:=true }:=by
      unfold nN;rw [g2,hL]
     have rn:j7 c p rs s={ s1 with ov:=true }:=by rw [g1,af,vc c _ _ rfl]
     rw [rn];exact ⟨T1,T1,_,R,x,oF o,rfl,h1,ol.to g3 g4 rfl rfl rfl rfl,hF⟩
    | cons l1 L=>
     have lt1:s1.lt=l1::L:=g2.trans hL;have af:nN c r s1=AC c r l1 { s1 with lt:=L }:=by
      unfold nN;rw [lt1]
     have hl1:mh c l1:=g7.lt l1 (by rw [lt1];exact .head _);have ol1:mJ n R { j with line:=l,pl:=k,mt:=cq p1 r } s1:=ol.to g3 g4 rfl rfl rfl rfl;have l7:=g7.n7;have l8:=g7.n8;have o7:=ol1.tc.len;have o8:=ol1.pt.len;obtain ⟨T2,b2,t2,q2,e2,h2,ol2⟩:=Ai (k:=K) h1 hc ⟨g7.nm,g7.bx,g7.lt,by have:=g7.n1;omega,by have:=g7.n2;omega,by have:=g7.n3;omega,by have:=g7.n4;omega,by have:=g7.n5;omega,by have:=g7.n6;omega,by omega,g7.n8,g7.mo⟩ hK hl1 rfl g9 ol1 ⟨by omega,by omega⟩;have ok2:bf c (K-4*rs1.length) (AC c r l1 { s1 with lt:=L }):=by
      have:=bf.tak' (s:={ s1 with lt:=L }) ⟨g7.nm,g7.bx,λ y hy=>g7.lt y (by rw [lt1];exact .tail _ hy),g7.n1,g7.n2,g7.n3,g7.n4,g7.n5,g7.n6,g7.n7,g7.n8,g7.mo⟩ r hl1
      rwa [show K-4*rs1.length-1+1=K-4*rs1.length by omega] at this
     have mv:Mv { j with line:=l,pl:=k,mt:=.none,b:=b2,t:=t2,p:=q2,tI:=j.tI++[j.t],pI:=j.pI++[j.p] } (p1+1) rs1:=⟨g8.wl,g8.le,g8.dr,g8.ok⟩
     obtain ⟨T3,T',j',R',x',e3,e4,h4,ol4,f4⟩:=Dh hc hp hK L T2 _ (AC c r l1 { s1 with lt:=L }) _ (p1+1) rs1 (.val (dS l1)) h2 mv rfl g5 g6 rfl (by omega) ok2 (by omega) (ol2.to rfl rfl rfl rfl rfl rfl) (F:=F) (λ y hy=>.tail _ (.tail _ (hF y hy)));have hq:∃ y,cq p1 r=.tuple y:=by
      obtain ⟨a,l,e⟩:=Ax p1 r;exact ⟨_,e⟩
     obtain ⟨y,hy⟩:=hq;have mm:=Ig (a0:=a0) (a1:=a1) (a2:=a2) (a3:=a3) (a4:=a4) (a5:=a5) (a6:=a6) h1 (x:=.val (dS l1));have mm:_=some (Rs.ok (cq p1 r),T1):=mm;rw [hy] at mm;rw [<-af,<-g1] at h4 ol4;refine ⟨T1,T',j',R',x',oF o,?_,h4,ol4,f4⟩;refine (jb (δ2:=[a0,a1,a2,a3,a4,a5,a6,.val (.ref n),.val (dS l1)]) rfl ?_).trans e4;refine (cf (qZ mm rfl rfl)).trans ?_;refine (ah (aN (er (n:=n) rfl (h1.get (k:=0) rfl) (JI _ _ _ _ _ _ (by simp)) (ds:=[dS l1]) rfl e2))).trans ?_;exact aN (er (n:=n) rfl (h2.get (k:=0) rfl) (JI _ _ _ _ _ _ (by simp)) (ds:=[]) rfl e3)
end
theorem gA (S L:ai) (k:Nat):(S++L)[S.length+k]?=L[k]?:=by rw [O6 (by omega)];congr 1;omega
theorem sA (S L:ai) (k:Nat) (o:Ob):(S++L).set (S.length+k) o=S++L.set k o:=by rw [List.set_append_right _ _ (by omega)];congr 2;omega
section
variable {c f:Str} {S L L':ai} {fs:List (Str×W)} {d:W} {fv:DS->ai->SM W} {r:DS}
theorem gS (h1:fv (.val (.ref S.length)::r) (S++.ins c fs::L)=some (.ok d,S++.ins c fs::L')) (hl:fs.length<1000):bQ c f (aa (ae 0)) fv (.val (.ref S.length)::r) (S++.ins c fs::L)=some (.nx (.val (.ref S.length)::r),S++.ins c (dF f d fs)::L'):=by
 have:=xh (c:=c) (f:=f) h1 (v0 (S:=S++.ins c fs::L')) (by have:=gA S (.ins c fs::L') 0;exact this) hl;rw [this];have e:=sA S (.ins c fs::L') 0 (.ins c (dF f d fs));rw [Nat.add_zero] at e;rw [e];rfl
end
theorem uu (f:Str) (d:W):∀ fs:List (Str×W),(dF f d fs).length<=fs.length+1
 | []=>by simp [dF]
 | p::fs=>by
  have:=uu f d fs;unfold dF;split
  . simp
  . simp only [OF];omega
theorem pl {f:Str} {d:W} {fs:List (Str×W)} {n:Nat} (h:fs.length<n):(dF f d fs).length<n+1:=by
 have:=uu f d fs;omega
theorem B4 (S:ai) (rows:List W):dt [.ref S.length,.list rows] (S++[.ins (Str.ofString "Walk") []])=some (.ok .none,S++[.ins (Str.ofString "Walk") (pC rows 0)]):=by
 refine (az rfl).trans ((OI bh (?_:_=some (.nx [.val (.ref S.length),.val (.list rows)],S++[.ins (Str.ofString "Walk") (pC rows 0)]))).trans rfl);refine (ah (gS (fs:=[]) (d:=.list rows) rfl (by simp))).trans ?_;exact (gS (d:=.int 0) rfl (by simp [dF])).trans (by kernel_rfl)
theorem BC (S:ai) (rows:List W) (m:Nat) (g:W):cH [.ref S.length,.list rows,.ref m,g] (S++[.ins (Str.ofString "Frame") []])=some (.ok .none,S++[.ins (Str.ofString "Frame") [(Str.ofString "names", .ref m),(Str.ofString "given", g),(Str.ofString "walks", .ref (S.length+2)),(Str.ofString "loops", .ref (S.length+3))],.ins (Str.ofString "Walk") (pC rows 0),.lst [.ref (S.length+1)],.lst []]):=by
 let δ:DS:=[.val (.ref S.length),.val (.list rows),.val (.ref m),.val g]
 refine (az rfl).trans ((OI bh (?_:_=some (.nx δ,_))).trans rfl);refine (ah (gS (fs:=[]) (d:=.ref m) rfl (by simp))).trans ?_;refine (ah (gS (d:=g) rfl (by simp [dF]))).trans ?_;let F2:List (Str×W):=dF (Str.ofString "given") g (dF (Str.ofString "names") (.ref m) []);let S1:ai:=S++[.ins (Str.ofString "Frame") F2];have e1:S1.length=S.length+1:=by simp [S1]
 have wi:=B4 S1 rows;have mk:bd (av (kn "Walk" dt (aa #[ae 1])) bb) δ (S++[.ins (Str.ofString "Frame") F2])=some (.ok (.ref (S.length+2)),S++[.ins (Str.ofString "Frame") F2,.ins (Str.ofString "Walk") (pC rows 0),.lst [.ref (S.length+1)]]):=by
  have a:=kO (c := "Walk") (f:=dt) (fa:=aa #[ae 1]) (δ:=δ) (S:=S1) (S1:=S1) (ds:=[.list rows]) rfl wi;have z:=sz 1 (by decide);have b:=aE a (g:=bb) (ds:=[]) rfl;simp only [bd,aq];rw [b];simp only [OF,O5,OG z];simp [S1,e1]
 refine (ah (gS (L:=[]) (L':=[.ins (Str.ofString "Walk") (pC rows 0),.lst [.ref (S.length+1)]]) mk (pl (pl (by simp))))).trans ?_;refine (gS (d:=.ref (S.length+3)) (L':=[.ins (Str.ofString "Walk") (pC rows 0),.lst [.ref (S.length+1)],.lst []]) ?_ (pl (pl (pl (by simp))))).trans (by kernel_rfl);rw [oW];simp
theorem AT (S:ai):cJ [.ref S.length] (S++[.ins (Str.ofString "Story") []])=some (.ok .none,S++[.ins (Str.ofString "Story") [(Str.ofString "told", .ref (S.length+1)),(Str.ofString "steps", .int 0),(Str.ofString "end", .none),(Str.ofString "brought", .ref (S.length+2)),(Str.ofString "touches", .ref (S.length+3)),(Str.ofString "puts", .ref (S.length+4)),(Str.ofString "lines", .ref (S.length+5))],.lst [],.lst [],.lst [],.lst [],.lst []]):=by
 have nl:∀ (x:Ob) (L:ai) (δ:DS),bd (aa aj) δ (S++x::L)=some (.ok (.ref (S.length+(L.length+1))),S++x::(L++[.lst []])):=λ x L δ=>by
  rw [oW];simp
 refine (az rfl).trans ((OI bh (?_:_=some (.nx [.val (.ref S.length)],_))).trans rfl);refine (ah (gS (fs:=[]) (nl _ _ _) (by simp))).trans ?_;refine (ah (gS (d:=.int 0) rfl (by simp [dF]))).trans ?_;refine (ah (gS (d:=.none) rfl (pl (pl (by simp))))).trans ?_;refine (ah (gS (nl _ _ _) (pl (pl (pl (by simp)))))).trans ?_;refine (ah (gS (nl _ _ _) (pl (pl (pl (pl (by simp))))))).trans ?_;refine (ah (gS (nl _ _ _) (pl (pl (pl (pl (pl (by simp)))))))).trans ?_;exact (gS (nl _ _ _) (pl (pl (pl (pl (pl (pl (by simp)))))))).trans (by kernel_rfl)
theorem gy.app {S M:ai} {F:List (Nat×Ob)} (h:gy S F) {ks:List Nat} (hn:ks.Nodup) (hb:∀ k∈ks,k<M.length):gy (S++M) (ks.map (λ k=>(S.length+k,M.getD k (.lst [])))++F):=by
 refine ⟨?_,λ x hx=>?_⟩
 . rw [O3,P2];refine ⟨?_,h.1,λ a ha b hb e=>?_⟩
   . rw [P4];exact List.Pairwise.map _ (λ a b (hab:a≠b) (e:S.length+a=S.length+b)=>hab (by omega)) hn
   . rw [P4] at ha;obtain ⟨k,_,rfl⟩:=Pp.mp ha;obtain ⟨x,hx,rfl⟩:=Pp.mp hb;have:=h.lt hx;have e:S.length+k=x.1:=e;omega
 . rcases Pe.mp hx with hx | hx
   . obtain ⟨k,hk,rfl⟩:=Pp.mp hx;show (S++M)[S.length+k]?=_;rw [gA];have:=hb k hk;simp [this]
   . rw [OR (h.lt hx)];exact h.2 x hx
noncomputable def sZ (rows:List Rw):W:=.tuple [sW "main", .list [],.list (bL 2 rows),.int 1,.int (2+rows.length)]
noncomputable def pB (rows:List Rw) (lane lanes mine most:Int):Cn:={ defs:=[(.inr (Str.ofString "main"),sZ rows)],lane:=lane,lanes:=lanes,mine:=wr mine,most:=most }
noncomputable def kJ (bx:List Int) (L:List Lt):As:={ nm:=[],bx:=bx.map wr,td:=[],ln:=[],br:=[],tc:=[],tn:=[],pt:=[],pn:=[],en:=none,lt:=L,ov:=false }
noncomputable def Lv (n:Nat) (rows:List Rw):Ct:={ line:=.none,mt:=.none,b:=n+3,t:=n+16,p:=n+17,tI:=[],pI:=[],rows:=bL 2 rows,pl:=0,wl:=true }
noncomputable def Fb (n:Nat) (c:Cn) (bx:List Int) (rows:List Rw):ai:=[.ins (Str.ofString "Goer") (jj n (n+3) c .none .none),.dK c.defs,.dK (Ek c),.lst (bx.map λ i=>.int (wr i)),.dK [],.ins (Str.ofString "Frame") (Ao n),.ins (Str.ofString "Walk") (pC (bL 2 rows) 0),.lst [.ref (n+6)],.lst [],.lst [.ref (n+5)],.ins (Str.ofString "Story") (kQ n 0 .none),.lst [],.lst [],.lst [.ref (n+16)],.lst [.ref (n+17)],.lst [],.lst [],.dK []]
theorem vS (S:ai):∀ (bx:List Int),cY (ao 0) (aa io) (aa (aZ bR #[ae 0])) [.no] (bx.map .int) S=some (.ok (bx.map λ i=>.int (wr i)),S)
 | []=>rfl
 | i::bx=>by
  have ih:=vS S bx;have m:aa (aZ bR #[ae 0]) [.val (.int i)] S=some (.ok (.int (wr i)),S):=au (mO (ds:=[.int i]) rfl (fY i));have y:aa io [.val (.int i)] S=some (.ok true,S):=rfl;show (ao 0 (W.int i) [.no]).bind _=_;simp only [ao,OW,OA,y,aq,Pj,m,ih,OK]
theorem BM (S:ai) (rows:List Rw) (lane lanes mine most:Int) (bx:List Int) (hb:bx.length<=100):eR [.ref S.length,.list [sZ rows],.int lane,.int lanes,.int mine,.list (bx.map .int),.int most] (S++[.ins (Str.ofString "Goer") []])=some (.ok .none,S++Fb S.length (pB rows lane lanes mine most) bx rows):=by
 let c:=pB rows lane lanes mine most;let F1:List (Str×W):=dF (Str.ofString "defs") (.ref (S.length+1)) [];let δ0:DS:=[.val (.ref S.length),.val (.list [sZ rows]),.val (.int lane),.val (.int lanes),.val (.int mine),.val (.list (bx.map .int)),.val (.int most),.no]
 let δ:DS:=[.val (.ref S.length),.val (.list [sZ rows]),.val (.int lane),.val (.int lanes),.val (.int mine),.val (.list (bx.map .int)),.val (.int most),.val (sZ rows)]
 refine (az rfl).trans ((OI bh (?_:_=some (.nx δ,_))).trans rfl);have push:∀ (x:Ob) (L:ai) (o:Ob),(S++x::L)++[o]=S++x::(L++[o]):=λ x L o=>by simp
 have plen:∀ (x:Ob) (L:ai),(S++x::L).length=S.length+(L.length+1):=λ x L=>by simp
 refine (ah (gS (fs:=[]) (L:=[]) (L':=[.dK []]) (d:=.ref (S.length+1)) (by rw [uR,plen,push];rfl) (by simp))).trans ?_;have DL:eM (ao 7) gZ [sZ rows] δ0 (S++[.ins (Str.ofString "Goer") F1,.dK []])=some (.nx δ,S++[.ins (Str.ofString "Goer") F1,.dK c.defs]):=by
  refine (jb (δ2:=δ) rfl ?_).trans rfl;refine (jw (k:=Str.ofString "main") (l:=S.length+1) (kvs:=[]) (d:=sZ rows) rfl (bg v0 (gA S [.ins (Str.ofString "Goer") F1,.dK []] 0) (by kernel_rfl)) (au (x0 rfl)) (gA S [.ins (Str.ofString "Goer") F1,.dK []] 1) (by simp)).trans ?_;rw [sA S [.ins (Str.ofString "Goer") F1,.dK []] 1];rfl
 refine (ah (δ':=δ) (S':=S++[.ins (Str.ofString "Goer") F1,.dK c.defs]) ((oZ (ds:=[sZ rows]) rfl).trans DL)).trans ?_;refine (ah (gS (d:=.int lane) rfl (pl (by simp)))).trans ?_;have dv:tR [(Str.ofString "lane", (ae 2)),(Str.ofString "lanes", (ae 3)),(Str.ofString "mine", (aZ bR #[ae 4]))] δ=some [(.inr (Str.ofString "lane"),.int lane),(.inr (Str.ofString "lanes"),.int lanes),(.inr (Str.ofString "mine"),.int (wr mine))]:=by
  have w:aZ bR #[ae 4] δ=some (.int (wr mine)):=mO (ds:=[.int mine]) rfl (fY mine);simp only [tR,w,OA,OC];rfl
 have ds:∀ (x:Ob) (L:ai),vR [(Str.ofString "lane", (ae 2)),(Str.ofString "lanes", (ae 3)),(Str.ofString "mine", (aZ bR #[ae 4]))] δ (S++x::L)=some (.ok (.ref (S.length+(L.length+1))),S++x::(L++[.dK (Ek c)])):=λ x L=>by
  have e:dP [] [(.inr (Str.ofString "lane"),.int lane),(.inr (Str.ofString "lanes"),.int lanes),(.inr (Str.ofString "mine"),.int (wr mine))]=Ek c:=by kernel_rfl
  simp only [vR,dv,OA,OF,O5,e,plen,push];rfl
 refine (ah (gS (ds _ _) (pl (pl (by simp))))).trans ?_;have cb:∀ (x:Ob) (L:ai),iQ [none] (aa (bX (ae 5))) (ao 0) (aa io) (aa (aZ bR #[ae 0])) δ (S++x::L)=some (.ok (.ref (S.length+(L.length+1))),S++x::(L++[.lst (bx.map λ i=>.int (wr i))])):=λ x L=>by
  have z:(bx.map W.int).length<=sizeLine:=sz _ (by rw [OH];omega);have s:aa (bX (ae 5)) δ (S++x::L)=some (.ok (bx.map .int),S++x::L):=rfl;have g:cY (ao 0) (aa io) (aa (aZ bR #[ae 0])) (bP [none] δ) (bx.map .int) (S++x::L)=some (.ok (bx.map λ i=>.int (wr i)),S++x::L):=vS _ _;unfold iQ;rw [s];simp only [aq,OG z];rw [g];simp only [plen,push]
 refine (ah (gS (cb _ _) (pl (pl (pl (by simp)))))).trans ?_;refine (ah (gS (d:=.int most) rfl (pl (pl (pl (pl (by simp))))))).trans ?_;let F6:List (Str×W):=dF (Str.ofString "most") (.int most) (dF (Str.ofString "boxes") (.ref (S.length+3)) (dF (Str.ofString "signs") (.ref (S.length+2)) (dF (Str.ofString "lane") (.int lane) F1)));let B:Ob:=.lst (bx.map λ i=>.int (wr i));let L6:ai:=[.dK c.defs,.dK (Ek c),B]
 have fr:bd (av (kn "Frame" cH (av (sIx (aD (ar "Goer" "defs" (aa (ae 0))) (aa !"main")) (aa !2)) (av uA (av (aa (dC .none)) bb)))) bb) δ (S++.ins (Str.ofString "Goer") F6::L6)=some (.ok (.ref (S.length+9)),S++.ins (Str.ofString "Goer") F6::(L6++[.dK [],.ins (Str.ofString "Frame") (Ao S.length),.ins (Str.ofString "Walk") (pC (bL 2 rows) 0),.lst [.ref (S.length+6)],.lst [],.lst [.ref (S.length+5)]])):=by
  let T0:ai:=S++.ins (Str.ofString "Goer") F6::L6;let T1:ai:=T0++[.dK []];have t0:T0.length=S.length+4:=by simp [T0,L6]
  have t1:T1.length=S.length+5:=by simp [T1,t0]
  have g0:T0[S.length]?=some (.ins (Str.ofString "Goer") F6):=gA S _ 0;have dg:aD (ar "Goer" "defs" (aa (ae 0))) (aa !"main") δ T0=some (.ok (sZ rows),T0):=lj (bg (n:=S.length) v0 g0 (show F6.lookup (Str.ofString "defs")=some (.ref (S.length+1)) by kernel_rfl)) rfl (gA S _ 1) (by kernel_rfl);have a:=aE (He dg (fi:=aa !2) rfl (LR _ _ _ _)) (aE (uR (δ:=δ) (S:=T0)) (aE (f:=aa (dC .none)) (g:=bb) (d:=.none) (ds:=[]) rfl rfl));rw [t0] at a;have fi:=BC T1 (bL 2 rows) (S.length+4) .none;have mk:=kO (c := "Frame") (f:=cH) a fi;have z:=sz 1 (by decide);have b:=aE mk (g:=bb) (ds:=[]) rfl;simp only [bd,aq];rw [b];simp only [OF,O5,OG z,t1];simp [T1,T0,L6,Ao]
 refine (ah (gS fr (pl (pl (pl (pl (pl (by simp)))))))).trans ?_;refine (ah (gS (d:=.none) rfl (pl (pl (pl (pl (pl (pl (by simp))))))))).trans ?_;refine (ah (gS (d:=.none) rfl (pl (pl (pl (pl (pl (pl (pl (by simp)))))))))).trans ?_;let F9:List (Str×W):=dF (Str.ofString "meeting") .none (dF (Str.ofString "line") .none (dF (Str.ofString "frames") (.ref (S.length+9)) F6));let L9:ai:=L6++[.dK [],.ins (Str.ofString "Frame") (Ao S.length),.ins (Str.ofString "Walk") (pC (bL 2 rows) 0),.lst [.ref (S.length+6)],.lst [],.lst [.ref (S.length+5)]];have sy:kn "Story" cJ (aa aj) δ (S++.ins (Str.ofString "Goer") F9::L9)=some (.ok (.ref (S.length+10)),S++.ins (Str.ofString "Goer") F9::(L9++[.ins (Str.ofString "Story") (kQ S.length 0 .none),.lst [],.lst [],.lst [],.lst [],.lst []])):=by
  let T0:ai:=S++.ins (Str.ofString "Goer") F9::L9;have t0:T0.length=S.length+10:=by simp [T0,L9,L6]
  have a:=kO (c := "Story") (f:=cJ) (fa:=aa aj) (δ:=δ) (S:=T0) (S1:=T0) (ds:=[]) rfl (AT T0);rw [t0] at a;rw [a];simp [T0,kQ]
 refine (ah (gS sy (pl (pl (pl (pl (pl (pl (pl (pl (by simp))))))))))).trans ?_;let F10:List (Str×W):=dF (Str.ofString "story") (.ref (S.length+10)) F9;have eF:F10=jj S.length (S.length+3) c .none .none:=by kernel_rfl
 let M:ai:=[.ins (Str.ofString "Goer") (jj S.length (S.length+3) c .none .none),.dK c.defs,.dK (Ek c),B,.dK [],.ins (Str.ofString "Frame") (Ao S.length),.ins (Str.ofString "Walk") (pC (bL 2 rows) 0),.lst [.ref (S.length+6)],.lst [],.lst [.ref (S.length+5)],.ins (Str.ofString "Story") (kQ S.length 0 .none),.lst [],.lst [],.lst [],.lst [],.lst []]
 have e10:S++.ins (Str.ofString "Goer") F10::(L9++[.ins (Str.ofString "Story") (kQ S.length 0 .none),.lst [],.lst [],.lst [],.lst [],.lst []])=S++M:=by rw [eF];rfl
 rw [show dF (Str.ofString "story") (.ref (S.length+10)) F9=F10 from rfl,e10];have bp:bW [.ref (S.length+10)] (S++M)=some (.ok .none,S++Fb S.length c bx rows):=by
  have g:∀ (L:ai) (k:Nat),(S++L)[S.length+k]?=L[k]?:=gA S;refine (az rfl).trans ((OI bh (?_:_=some (.nx [.val (.ref (S.length+10))],S++Fb S.length c bx rows))).trans rfl);have n1:bd (aa aj) [.val (.ref (S.length+10))] (S++M)=some (.ok (.ref (S.length+16)),S++(M++[.lst []])):=by
   rw [oW];simp [M]
  have a1:=js (fo:=ar "Story" "touches" (aa (ae 0))) (δ:=[.val (.ref (S.length+10))]) (l:=S.length+13) (bg (n:=S.length+10) v0 (g M 10) (Jt _ _ _)) (g M 13) n1 (g (M++[.lst []]) 13) (by simp);refine (ah a1).trans ?_;rw [sA S (M++[Ob.lst []]) 13];let M2:ai:=(M++[Ob.lst []]).set 13 (Ob.lst ([]++[W.ref (S.length+16)]));have n2:uA [.val (.ref (S.length+10))] (S++M2)=some (.ok (.ref (S.length+17)),S++(M2++[.dK []])):=by
   rw [uR];simp [M2,M]
  have a2:=js (fo:=ar "Story" "puts" (aa (ae 0))) (δ:=[.val (.ref (S.length+10))]) (l:=S.length+14) (bg (n:=S.length+10) v0 (g M2 10) (KI _ _ _)) (g M2 14) n2 (g (M2++[.dK []]) 14) (by simp);refine a2.trans ?_;rw [sA S (M2++[Ob.dK []]) 14];rfl
 exact aN (er (n:=S.length+10) (bg (n:=S.length) v0 (gA S M 0) (tY _ _ _ _ _)) (gA S M 10) (MF _ _ _) (ds:=[]) rfl bp)
theorem zK {S:ai} {F:List (Nat×Ob)} (h:gy S F) (rows:List Rw) (c:Cn) (bx:List Int) (L:List Lt):GH (S++Fb S.length c bx rows) S.length c (Lv S.length rows) (kJ bx L) F:=by
 have a:=h.app (M:=Fb S.length c bx rows) (ks:=[0,1,2,4,5,6,7,8,9,10,11,12,13,14,15,3,16,17]) (by decide) (by simp [Fb]);refine a.cast ?_;simp only [gL,kJ,Lv,Fb,OK,Pa,P4];rfl
theorem qG {S:ai} {F:List (Nat×Ob)} (h:gy S F) (rows:List Rw) {lane lanes mine most:Int} {bx:List Int} {L:List Lt} (hc:ke (pB rows lane lanes mine most)) (hb:bx.length<=100) (hr:rows.length<=100) (ho:∀ r∈rows,AD r) (hL:∀ l∈L,mh (pB rows lane lanes mine most) l) (hl:L.length<=100) (hm:0<=most):
 ∃ T j R,gY [.list [sZ rows],.int lane,.int lanes,.int mine,.list (bx.map .int),.int most,.list (L.map dS)] S=some (.ok (.ref (S.length+10)),T)/\GH T S.length (pB rows lane lanes mine most) j (j7 (pB rows lane lanes mine most) 2 rows (kJ bx L)) R/\mJ S.length R j (j7 (pB rows lane lanes mine most) 2 rows (kJ bx L))/\∀ y∈F,y∈R:=by
 let c:=pB rows lane lanes mine most;have I:=BM S rows lane lanes mine most bx hb;have H:=zK h rows c bx L;have mv:Mv (Lv S.length rows) 2 rows:=⟨rfl,O8 _,rfl,ho⟩
 have ok:bf c (1000-4*rows.length) (kJ bx L):=⟨λ _ h=>absurd h Pl,λ i hi=>by obtain ⟨y,_,rfl⟩:=Pp.mp hi;exact qA y,hL,O8 _,O8 _,O8 _,O8 _,O8 _,O8 _,O8 _,rfl,hm⟩
 obtain ⟨T1,T',j',R',x',e1,e2,h2,o2,f2⟩:=Dh (a0:=.val (.list [sZ rows])) (a1:=.val (.int lane)) (a2:=.val (.int lanes)) (a3:=.val (.int mine)) (a4:=.val (.list (bx.map .int))) (a5:=.val (.int most)) (a6:=.val (.list (L.map dS))) hc (a:=sW "main") (b:=.list []) (d:=.list (bL 2 rows)) (e:=.int 1) (N:=2+rows.length) (by kernel_rfl) (K:=1000) (by omega) (F:=F) L _ _ _ F 2 rows .no H mv rfl rfl rfl rfl (by omega) ok rfl ⟨trivial,trivial,by show S.length<=S.length+16;omega,by show S.length<=S.length+17;omega⟩ (λ _ h=>h);refine ⟨T',j',R',(az rfl).trans ((OI bh (?_:_=some (.rt (.ref (S.length+10)),T'))).trans rfl),h2,o2,f2⟩;have mk:=kO (c := "Goer") (f:=eR) (fa:=aa #[ae 0,ae 1,ae 2,ae 3,ae 4,ae 5]) (δ:=[.val (.list [sZ rows]),.val (.int lane),.val (.int lanes),.val (.int mine),.val (.list (bx.map .int)),.val (.int most),.val (.list (L.map dS)),.no,.no]) (S:=S) (S1:=S) rfl I;refine (ah (δ':=[.val (.list [sZ rows]),.val (.int lane),.val (.int lanes),.val (.int mine),.val (.list (bx.map .int)),.val (.int most),.val (.list (L.map dS)),.val (.ref S.length),.no]) (bj mk rfl)).trans ?_;refine (ah (aN (er (n:=S.length) rfl (H.get (k:=0) rfl) (JI _ _ _ _ _ _ (by simp)) (ds:=[]) rfl e1))).trans ?_;refine (ah ((oZ (ds:=L.map dS) rfl).trans e2)).trans ?_;exact bD (bg (n:=S.length) rfl (h2.get (k:=0) rfl) (tY _ _ _ _ _))
structure Ni where
 w:Nat
 g:Nat
 b:Nat
 l:Nat
 t1:Nat
 t2:Nat
 t3:Nat
 t4:Nat
 t5:Nat
 t:Nat
 p:Nat
 tI:List Nat
 pI:List Nat
noncomputable def iP (i:Ni) (c:Cn) (nms:List Str) (en:W) (ov:Bool):List (bn×W):=[(.inr (Str.ofString "worth"),.ref i.g),(.inr (Str.ofString "lane"),.int c.lane),(.inr (Str.ofString "mine"),.int c.mine),(.inr (Str.ofString "names"),.list (nms.map .str)),(.inr (Str.ofString "boxes"),.ref i.b),(.inr (Str.ofString "letters"),.ref i.l),(.inr (Str.ofString "most"),.int c.most),(.inr (Str.ofString "told"),.ref i.t1),(.inr (Str.ofString "lines"),.ref i.t2),(.inr (Str.ofString "brought"),.ref i.t3),(.inr (Str.ofString "touches"),.ref i.t4),(.inr (Str.ofString "puts"),.ref i.t5),(.inr (Str.ofString "end"),en),(.inr (Str.ofString "over"),.bool ov)]
noncomputable def nL (i:Ni) (c:Cn) (nms:List Str) (s:As) (R:List (Nat×Ob)):List (Nat×Ob):=
 (i.w,.dK (iP i c nms (pf s.en) s.ov))::(i.g,.dK (uF s.nm))::(i.t1,.lst (s.td.map .int))::(i.t2,.lst (s.ln.map .int))::(i.t3,.lst (s.br.map uC))::(i.t4,.lst (lU i.tI i.t))::(i.t5,.lst (lU i.pI i.p))::(i.l,.lst (s.lt.map dS))::(i.b,.lst (s.bx.map .int))::(i.t,.lst (s.tn.map iM))::(i.p,.dK (uB s.pn))::R
noncomputable abbrev NH (T:ai) (i:Ni) (c:Cn) (nms:List Str) (s:As) (R:List (Nat×Ob)):Prop:=gy T (nL i c nms s R)
structure kc (R:List (Nat×Ob)) (i:Ni) (s:As):Prop where
 tc:jX tO 0 R i.tI s.tc
 pt:jX pO 0 R i.pI s.pt
section
variable (i:Ni) (c:Cn) (nms:List Str) (en:W) (ov:Bool)
theorem Lu:d8 (iP i c nms en ov) (.inr (Str.ofString "worth"))=some (.ref i.g):=by kernel_rfl
theorem Ke:d8 (iP i c nms en ov) (.inr (Str.ofString "lane"))=some (.int c.lane):=by kernel_rfl
theorem NP:d8 (iP i c nms en ov) (.inr (Str.ofString "mine"))=some (.int c.mine):=by kernel_rfl
theorem M3:d8 (iP i c nms en ov) (.inr (Str.ofString "names"))=some (.list (nms.map .str)):=by kernel_rfl
theorem Kc:d8 (iP i c nms en ov) (.inr (Str.ofString "boxes"))=some (.ref i.b):=by kernel_rfl
theorem Kf:d8 (iP i c nms en ov) (.inr (Str.ofString "letters"))=some (.ref i.l):=by kernel_rfl
theorem Nx:d8 (iP i c nms en ov) (.inr (Str.ofString "most"))=some (.int c.most):=by kernel_rfl
theorem MQ:d8 (iP i c nms en ov) (.inr (Str.ofString "told"))=some (.ref i.t1):=by kernel_rfl
theorem KG:d8 (iP i c nms en ov) (.inr (Str.ofString "lines"))=some (.ref i.t2):=by kernel_rfl
theorem Ia:d8 (iP i c nms en ov) (.inr (Str.ofString "brought"))=some (.ref i.t3):=by kernel_rfl
theorem Cc:d8 (iP i c nms en ov) (.inr (Str.ofString "touches"))=some (.ref i.t4):=by kernel_rfl
theorem GO:d8 (iP i c nms en ov) (.inr (Str.ofString "puts"))=some (.ref i.t5):=by kernel_rfl
theorem Mg:d8 (iP i c nms en ov) (.inr (Str.ofString "end"))=some en:=by kernel_rfl
theorem Hm:d8 (iP i c nms en ov) (.inr (Str.ofString "over"))=some (.bool ov):=by kernel_rfl
theorem Ou (b:Nat):eX (iP i c nms en ov) (.inr (Str.ofString "boxes")) (.ref b)=iP { i with b:=b } c nms en ov:=by kernel_rfl
theorem NY (b:Nat):eX (iP i c nms en ov) (.inr (Str.ofString "letters")) (.ref b)=iP { i with l:=b } c nms en ov:=by kernel_rfl
theorem JN (x:W):eX (iP i c nms en ov) (.inr (Str.ofString "end")) x=iP i c nms x ov:=by kernel_rfl
theorem Jv (x:Bool):eX (iP i c nms en ov) (.inr (Str.ofString "over")) (.bool x)=iP i c nms en x:=by kernel_rfl
end
theorem mi (i:Ni) (c:Cn) (nms:List Str) (en:W) (ov:Bool):(iP i c nms en ov).length<9000:=by simp [iP]
theorem gy.repl {T:ai} {A Z:List (Nat×Ob)} {x y:Nat×Ob} (h:gy T (y::(A++x::Z))):gy T (A++y::Z):=by
 refine gy.tail (x:=x) (h.perm ?_);have h1:∀ {x:Nat×Ob} {X Y:List (Nat×Ob)},(X++x::Y).Perm (x::(X++Y)):=List.perm_middle;exact (List.Perm.cons _ h1).trans ((List.Perm.swap _ _ _).trans (List.Perm.cons _ h1.symm))
theorem gy.ins {T:ai} {A Z:List (Nat×Ob)} {x y z:Nat×Ob} (h:gy T (y::(A++x::z::Z))):gy T (A++y::z::x::Z):=by
 refine h.perm ?_;have h1:∀ {x:Nat×Ob} {X Y:List (Nat×Ob)},(X++x::Y).Perm (x::(X++Y)):=List.perm_middle;exact h1.trans (.cons _ (List.Perm.append_left _ (List.Perm.swap _ _ _)))
section
variable {T:ai} {i:Ni} {c:Cn} {nms:List Str} {s:As} {R:List (Nat×Ob)} {p:Int} {k:Nat} {r:DS}
theorem iB (h:NH T i c nms s R) {key:Str} {v:W} (e:d8 (iP i c nms (pf s.en) s.ov) (.inr key)=some v):aD (aa (ae 0)) (aa (dC (.str key))) (.val (.ref i.w)::r) T=some (.ok v,T):=lj (l:=i.w) v0 rfl (h.get (k:=0) rfl) e
theorem Ho (h:NH T i c nms s R) (x:Str) (q:Int) {fe:DS->ai->SM W} {δ:DS} (e:fe (.val (.ref i.w)::δ) T=some (.ok (.tuple [.str x,.int q]),T)) {g:DS->ai->SO}:∃ T',ak (bE (aa (ae 0)) (aa !"end") fe) (ak (bE (aa (ae 0)) (aa !"over") (aa (dC (.bool true)))) g) (.val (.ref i.w)::δ) T=g (.val (.ref i.w)::δ) T'/\NH T' i c nms { s with en:=some (x,q),ov:=true } R:=by
 have h1:NH _ i c nms { s with en:=some (x,q) } R:=h.set (k:=0) rfl (.dK (iP i c nms (.tuple [.str x,.int q]) s.ov));have h2:NH _ i c nms { s with en:=some (x,q),ov:=true } R:=h1.set (k:=0) rfl (.dK (iP i c nms (.tuple [.str x,.int q]) true));refine ⟨_,?_,h2⟩;refine (ah (δ':=.val (.ref i.w)::δ) ((jw (k:=Str.ofString "end") e v0 rfl (h.get (k:=0) rfl) (mi _ _ _ _ _)).trans (by rw [JN]))).trans ?_;exact ah (δ':=.val (.ref i.w)::δ) ((jw (k:=Str.ofString "over") (d:=.bool true) rfl v0 rfl (h1.get (k:=0) rfl) (mi _ _ _ _ _)).trans (by rw [Jv];rfl))
theorem BJ {S:ai} {l m:Nat} {d:W} {ds:List W} (h:S[l]?=some (.lst (d::ds))) (h':S[m]?=some (.lst [])) (hk:gi (d::ds)=true) (hd:eK (d::ds)<20):lh false (.ref l) (.ref m) S=some false:=by
 obtain ⟨xs,e1,e2,e3,e4⟩:=jR (d::ds) hk;have p1:mC S 24 (.ref l)=some (.list xs):=by
  show (dh S l).bind _=_;rw [show dh S l=some (d::ds) by simp [dh,h]];show (kA (mC S 23) (d::ds)).map PyData.list=_;rw [jP S 23 _ hk (by omega),e1];rfl
 have p2:mC S 24 (.ref m)=some (.list []):=by
  show (dh S m).bind _=_;rw [show dh S m=some [] by simp [dh,h']];rfl
 unfold lh;show (mC S 24 (.ref l)).bind _=_;rw [p1,p2];have hx:∃ x y,xs=x::y:=by
  cases xs with
  | nil=>
   simp only [W.pys] at e1;obtain ⟨a,_,e1⟩:=oB e1
   obtain ⟨b,_,e1⟩:=oM e1
   cases e1
  | cons x y=>exact ⟨x,y,rfl⟩
 obtain ⟨x,y,rfl⟩:=hx;simp only [PyData.canLay0,e2,PyData.depth,e3,PyData.eqv,OA];rw [OG (by simp [PyData.canLayAll0];omega)];simp [PyData.eqvAll]
theorem sd {S:ai} {l m:Nat} {ds:List W} (neg:Bool) (h:S[l]?=some (.lst ds)) (h':S[m]?=some (.lst ds)) (hk:gi ds=true) (hd:eK ds<20):lh neg (.ref l) (.ref m) S=some (!neg):=by
 obtain ⟨xs,e1,e2,e3,e4⟩:=jR ds hk;have p:∀ {l:Nat},S[l]?=some (.lst ds)->mC S 24 (.ref l)=some (.list xs):=λ {l} h=>by
  show (dh S l).bind _=_;rw [show dh S l=some ds by simp [dh,h]];show (kA (mC S 23) ds).map PyData.list=_;rw [jP S 23 ds hk (by omega),e1];rfl
 unfold lh;show (mC S 24 (.ref l)).bind _=_;rw [p h,p h'];cases neg <;> simp [PyData.canLay0,e2,PyData.depth,e3,PyData.eqv,e4] <;> omega
theorem dy {α:Type} {f:α->W} {m:Nat} (hf:∀ x,im (f x)=true/\eA (f x)<=m):∀ l:List α,gi (l.map f)=true/\eK (l.map f)<=m
 | []=>⟨rfl,O8 _⟩
 | x::l=>by
  obtain ⟨h1,h2⟩:=dy hf l;obtain ⟨h3,h4⟩:=hf x;refine ⟨by simp [gi,h1,h3],?_⟩;simp only [OK,eK];omega
theorem El (x:Option Int):im (gl x)=true/\eA (gl x)<=0:=by cases x <;> exact ⟨rfl,OB _⟩
theorem o5 (x:Int):im (.int x)=true/\eA (.int x)<=0:=⟨rfl,OB _⟩
theorem Iw (l:Lt):im (dS l)=true/\eA (dS l)<=2:=by
 obtain ⟨h1,h2⟩:=dy El l.br;obtain ⟨h3,h4⟩:=dy (f:=W.int) o5 l.bx;refine ⟨by simp [dS,im,gi,h1,h3],?_⟩;simp only [dS,eA,eK];omega
theorem Lm {fa fb:DS->ai->SM W} {δ:DS} {S S1 S2:ai} {l:Nat} {d:W} {es:List W} (h1:fa δ S=some (.ok (.ref l),S1)) (h2:fb δ S1=some (.ok (.int 1),S2)) (h3:S2[l]?=some (.lst (d::es))):Ap fa fb δ S=some (.ok (.ref S2.length),S2++[.lst es]):=by
 have a:AY (.int 1)=some 1:=rfl;have ct:kE (d::es) (some 1) none=es:=HM (d::es) 1;simp only [Ap,aq,h1,h2,fj h3,OA,a,ct]
end
theorem kw:decide (Str.ofString "put" = Str.ofString "meet")=false/\decide (Str.ofString "put" = Str.ofString "join")=false/\decide (Str.ofString "put" = Str.ofString "tell")=false/\decide (Str.ofString "put" = Str.ofString "set")=false/\decide (Str.ofString "tell" = Str.ofString "meet")=false/\decide (Str.ofString "tell" = Str.ofString "join")=false/\decide (Str.ofString "tell" = Str.ofString "set")=false/\decide (Str.ofString "set" = Str.ofString "meet")=false/\decide (Str.ofString "set" = Str.ofString "join")=false/\decide (Str.ofString "set" = Str.ofString "tell")=false/\decide (Str.ofString "meet" = Str.ofString "tell")=false/\decide (Str.ofString "meet" = Str.ofString "set")=false/\decide (Str.ofString "join" = Str.ofString "tell")=false/\decide (Str.ofString "join" = Str.ofString "set")=false/\decide (Str.ofString "join" = Str.ofString "meet")=false/\decide (Str.ofString "tell" = Str.ofString "put")=false/\decide (Str.ofString "set" = Str.ofString "put")=false:=by decide +kernel
theorem cO {f:List W->ai->SM W} {fa:DS->ai->SM (List W)} {δ:DS} {S S1 S2:ai} {ds:List W} {d:W} (h1:fa δ S=some (.ok ds,S1)) (h2:f ds S1=some (.ok d,S2)):bZ f fa δ S=some (.ok d,S2):=by simp only [bZ,aq,h1,h2,noX]
section
variable {T:ai} {i:Ni} {c:Cn} {nms:List Str} {s:As} {R:List (Nat×Ob)} {p:Int} {k:Nat} {r:DS}
theorem tu (h:NH T i c nms s R) (hc:ke c) (ok:bf c k s) (hk:k<6000) (ol:kc R i s) {w:Rw} (hr:w=.meet∨∃ x y e,w=.join x y e) (v:Int):
 ∃ T' i' R',cQ [.ref i.w,cq p w,.int v] T=some (.ok .none,T')/\NH T' i' c nms (nN c w { s with br:=s.br++[(p,v)] }) R'/\kc R' i' (nN c w { s with br:=s.br++[(p,v)] })/\i'.w=i.w:=by
 let δ:DS:=[.val (.ref i.w),.val (cq p w),.val (.int v),.no,.no]
 have ix1:1[1]! δ=some (.int p):=by
  obtain ⟨a,l',e⟩:=Ax p w;exact x1 (v:=a) (l:=l') (by rw [<-e];rfl)
 have h1:NH _ i c nms { s with br:=s.br++[(p,v)] } R:=(h.set (k:=4) rfl (.lst (s.br.map uC++[uC (p,v)]))).cast (by simp only [nL,OW,O4,O3,OK,Pa]);have s1:aQ (aD (aa (ae 0)) (aa !"brought")) (aa (aR #[1[1]!,ae 2])) δ T=some (.nx δ,_):=js (iB h (Ia _ _ _ _ _)) (h.get (k:=4) rfl) (d:=uC (p,v)) (au (mU ix1 rfl)) (h.get (k:=4) rfl) (by rw [OH];have:=ok.n4;omega);revert h1 s1;generalize T.set i.t3 (.lst (s.br.map uC++[uC (p,v)]))=T1;intro h1 s1;have h2:NH (T1++[.lst []]) i c nms { s with br:=s.br++[(p,v)] } R:=(h1.push (.lst [])).tail;have g2:(T1++[Ob.lst []])[T1.length]?=some (.lst []):=by simp
 obtain ⟨ok1,ok2⟩:=dy Iw s.lt;have hd:s.lt=[]∨∃ l L,s.lt=l::L:=by
  cases s.lt with
  | nil=>exact .inl rfl
  | cons l L=>exact .inr ⟨l,L,rfl⟩
 rcases hd with hl | ⟨l,L,hl⟩
 . have h3:NH _ i c nms { s with br:=s.br++[(p,v)],ov:=true } R:=h2.set (k:=0) rfl (.dK (iP i c nms (pf s.en) true));have af:nN c w { s with br:=s.br++[(p,v)] }={ s with br:=s.br++[(p,v)],ov:=true }:=by simp only [nN,hl]
   rw [af];refine ⟨_,i,R,(az rfl).trans ((OI bh (?_:_=some (.nx δ,_))).trans rfl),h3,⟨ol.tc,ol.pt⟩,rfl⟩;refine (ah s1).trans ?_;have q:=h2.get (k:=7) rfl;rw [show ({ s with br:=s.br++[(p,v)] }:As).lt=[] from hl] at q;have e:=sd false q g2 rfl (by simp [eK]);refine (cf ?_).trans ((jw (k:=Str.ofString "over") (d:=.bool true) rfl v0 rfl (h2.get (k:=0) rfl) (mi _ _ _ _ _)).trans (by rw [Jv]));simp only [kd,aq,iB h1 (Kf _ _ _ _ _),oW,δ,e,iL,OC];rfl
 . have af:nN c w { s with br:=s.br++[(p,v)] }=AC c w l { s with br:=s.br++[(p,v)],lt:=L }:=by simp only [nN,hl]
   rw [af];rw [hl] at ok1 ok2;have q:=h2.get (k:=7) rfl;rw [show ({ s with br:=s.br++[(p,v)] }:As).lt=l::L from hl] at q;have e:=BJ q g2 ok1 (by simp only [OK] at ok2;omega);have t2:kd false (aD (aa (ae 0)) (aa !"letters")) (bd (aa aj)) δ T1=some (.ok false,T1++[.lst []]):=by
    simp only [kd,aq,iB h1 (Kf _ _ _ _ _),oW,δ,e,iL,OC]
   revert h2 t2 q;generalize T1++[Ob.lst []]=T2;intro h2 q t2;let δ3:DS:=[.val (.ref i.w),.val (cq p w),.val (.int v),.val (dS l),.no]
   have a3:bU (sIx (aD (aa (ae 0)) (aa !"letters")) (aa !0)) (ao 3) δ T2=some (.nx δ3,T2):=bj (JQ (iB h2 (Kf _ _ _ _ _)) rfl q (Ku _ _)) rfl;have h4:=(h2.push (.lst (L.map dS))).set (k:=1) rfl (.dK (iP { i with l:=T2.length } c nms (pf s.en) s.ov));have a4:bE (aa (ae 0)) (aa !"letters") (Ap (aD (aa (ae 0)) (aa !"letters")) (aa !1)) δ3 T2=some (.nx δ3,_):=(jw (k:=Str.ofString "letters") (Lm (iB h2 (Kf _ _ _ _ _)) rfl q) v0 rfl ((h2.push (.lst (L.map dS))).get (k:=1) rfl) (mi _ _ _ _ _)).trans (by rw [NY]);revert h4 a4;generalize T2.length=l4;generalize (T2++[Ob.lst (L.map dS)]).set i.w (.dK (iP { i with l:=l4 } c nms (pf s.en) s.ov))=T4;intro h4 a4;have H4:NH T4 { i with l:=l4 } c nms { s with br:=s.br++[(p,v)],lt:=L } R:=gy.repl (A:=(nL { i with l:=l4 } c nms { s with br:=s.br++[(p,v)],lt:=L } []).take 7) (y:=(l4,.lst (L.map dS))) h4;have h5:=(H4.push (.lst (l.bx.map .int))).set (k:=1) rfl (.dK (iP { i with l:=l4,b:=T4.length } c nms (pf s.en) s.ov));have a5:bE (aa (ae 0)) (aa !"boxes") (ig (aa 3[2]!)) δ3 T4=some (.nx δ3,_):=(jw (k:=Str.ofString "boxes") (vt (au (x2 rfl))) v0 rfl ((H4.push (.lst (l.bx.map .int))).get (k:=1) rfl) (mi _ _ _ _ _)).trans (by rw [Ou]);revert h5 a5;generalize T4.length=b5;generalize (T4++[Ob.lst (l.bx.map .int)]).set ({ i with l:=l4 }:Ni).w (.dK (iP { i with l:=l4,b:=b5 } c nms (pf s.en) s.ov))=T5;intro h5 a5;have H5:NH T5 { i with l:=l4,b:=b5 } c nms { s with br:=s.br++[(p,v)],lt:=L,bx:=l.bx } R:=gy.repl (A:=(nL { i with l:=l4,b:=b5 } c nms { s with br:=s.br++[(p,v)],lt:=L,bx:=l.bx } []).take 8) (y:=(b5,.lst (l.bx.map .int))) h5;have lt7:i.tI.length<=k/\i.pI.length<=k:=by
    have:=ol.tc.len;have:=ol.pt.len;have:=ok.n7;have:=ok.n8;omega
   have h6:=(H5.push (.lst [])).set (k:=6) rfl (.lst (lU i.tI i.t++[.ref T5.length]));have a6:aQ (aD (aa (ae 0)) (aa !"touches")) (bd (aa aj)) δ3 T5=some (.nx δ3,_):=js (iB H5 (Cc _ _ _ _ _)) (H5.get (k:=5) rfl) oW ((H5.push (.lst [])).get (k:=6) rfl) (by simp [lU];omega);revert h6 a6;generalize T5.length=t6;generalize (T5++[Ob.lst []]).set ({ i with l:=l4,b:=b5 }:Ni).t4 (.lst (lU i.tI i.t++[.ref t6]))=T6;intro h6 a6;have H6:NH T6 { i with l:=l4,b:=b5,t:=t6,tI:=i.tI++[i.t] } c nms { s with br:=s.br++[(p,v)],lt:=L,bx:=l.bx,tn:=[] } ((i.t,tO s.tn)::R):=gy.ins (A:=(nL { i with l:=l4,b:=b5,t:=t6,tI:=i.tI++[i.t] } c nms { s with br:=s.br++[(p,v)],lt:=L,bx:=l.bx,tn:=[] } []).take 9) (y:=(t6,.lst [])) (x:=(i.t,tO s.tn)) (z:=(i.p,pO s.pn)) (Z:=R) (h6.cast (by
    simp only [nL,lU,O3,OK,Pa,OW,O4,List.take_succ_cons,List.take_zero,QC,Qs,tO,pO];rfl))
   have h7:=(H6.push (.dK [])).set (k:=7) rfl (.lst (lU i.pI i.p++[.ref T6.length]));have a7:aQ (aD (aa (ae 0)) (aa !"puts")) uA δ3 T6=some (.nx δ3,_):=js (iB H6 (GO _ _ _ _ _)) (H6.get (k:=6) rfl) uR ((H6.push (.dK [])).get (k:=7) rfl) (by simp [lU];omega);revert h7 a7;generalize T6.length=p7;generalize (T6++[Ob.dK []]).set ({ i with l:=l4,b:=b5,t:=t6,tI:=i.tI++[i.t] }:Ni).t5 (.lst (lU i.pI i.p++[.ref p7]))=T7;intro h7 a7;have H7:NH T7 { i with l:=l4,b:=b5,t:=t6,tI:=i.tI++[i.t],p:=p7,pI:=i.pI++[i.p] } c nms { s with br:=s.br++[(p,v)],lt:=L,bx:=l.bx,tn:=[],pn:=[] } ((i.p,pO s.pn)::(i.t,tO s.tn)::R):=by
    have:=gy.ins (T:=T7) (A:=(nL { i with l:=l4,b:=b5,t:=t6,tI:=i.tI++[i.t],p:=p7,pI:=i.pI++[i.p] } c nms { s with br:=s.br++[(p,v)],lt:=L,bx:=l.bx,tn:=[],pn:=[] } []).take 9) (y:=(p7,.dK [])) (x:=(t6,.lst [])) (z:=(i.p,pO s.pn)) (Z:=(i.t,tO s.tn)::R) (h7.cast (by
     simp only [nL,lU,O3,OK,Pa,OW,O4,List.take_succ_cons,List.take_zero,QC,Qs,tO,pO];rfl))
    refine this.perm (List.Perm.append_left ((nL { i with l:=l4,b:=b5,t:=t6,tI:=i.tI++[i.t],p:=p7,pI:=i.pI++[i.p] } c nms { s with br:=s.br++[(p,v)],lt:=L,bx:=l.bx,tn:=[],pn:=[] } []).take 9) ?_);exact (List.Perm.swap _ _ _).trans (.cons _ (.swap _ _ _))
   have oldn:∀ nm',kc ((i.p,pO s.pn)::(i.t,tO s.tn)::R) { i with l:=l4,b:=b5,t:=t6,tI:=i.tI++[i.t],p:=p7,pI:=i.pI++[i.p] } { s with br:=s.br++[(p,v)],lt:=L,bx:=l.bx,tc:=s.tc++[s.tn],tn:=[],pt:=s.pt++[s.pn],pn:=[],nm:=nm' }:=λ nm'=>⟨jX.snoc ⟨O8 _,.tail _ (.head _)⟩ (jX.mono (λ x hx=>.tail _ (.tail _ hx)) ol.tc),jX.snoc ⟨O8 _,.head _⟩ (jX.mono (λ x hx=>.tail _ (.tail _ hx)) ol.pt)⟩
   have pre:∀ {O:SO},bv (aa (aC bJ 1[0]! !"join")) (ak (bU (aD (aa (ae 0)) (aa !"worth")) (ao 4)) (bE (aa (ae 4)) (aa 1[2]!) (eB fJ (av (aa 1[3]!) (av (aa 3[1]!) (av (aD (aa (ae 0)) (aa !"lane")) bb)))))) (al aw) δ3 T7=O->cQ [.ref i.w,cq p w,.int v] T=bh O:=λ {O} hO=>by
    refine (az rfl).trans (OI bh ?_);exact (ah s1).trans ((bH t2).trans ((ah a3).trans ((ah a4).trans ((ah a5).trans ((ah a6).trans ((ah a7).trans hO))))))
   rcases hr with rfl | ⟨x,y,e',rfl⟩
   . exact ⟨T7,_,_,(pre (O:=some (.nx δ3,T7)) ((bH (sF (x0 rfl) LM)).trans rfl)).trans rfl,H7,oldn s.nm,rfl⟩
   . have H8:=H7.set (k:=1) rfl (.dK (uF (iJ s.nm x (jn y l.br c.lane))));refine ⟨_,_,_,(pre (O:=some (.nx [.val (.ref i.w),.val (cq p (.join x y e')),.val (.int v),.val (dS l),.val (.ref i.g)],_)) ?_).trans rfl,H8,oldn _,rfl⟩;refine (cf (sT (x0 rfl))).trans ?_;refine (ah (δ':=[.val (.ref i.w),.val (cq p (.join x y e')),.val (.int v),.val (dS l),.val (.ref i.g)]) (bj (iB H7 (Lu _ _ _ _ _)) rfl)).trans ?_;have cm:eB fJ (av (aa 1[3]!) (av (aa 3[1]!) (av (aD (aa (ae 0)) (aa !"lane")) bb))) [.val (.ref i.w),.val (cq p (.join x y e')),.val (.int v),.val (dS l),.val (.ref i.g)] T7=some (.ok (.int (jn y l.br c.lane)),T7):=by
      have a:=aE (f:=aa 1[3]!) (au (x3 (f:=aA 1) (δ:=[.val (.ref i.w),.val (cq p (.join x y e')),.val (.int v),.val (dS l),.val (.ref i.g)]) rfl)) (aE (f:=aa 3[1]!) (au (x1 (f:=aA 3) (δ:=[.val (.ref i.w),.val (cq p (.join x y e')),.val (.int v),.val (dS l),.val (.ref i.g)]) rfl)) (aE (iB H7 (Ke _ _ _ _ _)) (g:=bb) (ds:=[]) rfl));have J:=xy hc (ok.lt l (by rw [hl];exact .head _)) y;simp only [eB,aq];rw [a];simp only [J,iL,OC]
     refine (jw (k:=x) (l:=i.g) cm rfl (au (x2 rfl)) (H7.get (k:=1) rfl) (by simp [uF];have:=ok.n1;omega)).trans ?_;rw [rH]
end
section
variable {T:ai} {i:Ni} {c:Cn} {nms:List Str} {s:As} {R:List (Nat×Ob)} {p:Int} {k:Nat}
theorem u5 (h:NH T i c nms s R) (ok:bf c k s) (hk:k<6000) {a e:Tr} {q v:Int} (hq:0<=q/\q<s.bx.length):∃ T',cT [.ref i.w,cq p (.put a e),.int q,.int v] T=some (.ok (.int v),T')/\NH T' i c nms { s with tn:=s.tn++[(true,q,p)],bx:=s.bx.set q.toNat v,pn:=li s.pn q v } R:=by
 let δ:DS:=[.val (.ref i.w),.val (cq p (.put a e)),.val (.int q),.val (.int v),.no,.no]
 let δ1:DS:=[.val (.ref i.w),.val (cq p (.put a e)),.val (.int q),.val (.int v),.val (.ref i.b),.no]
 let δ2:DS:=[.val (.ref i.w),.val (cq p (.put a e)),.val (.int q),.val (.int v),.val (.ref i.b),.val (.ref i.p)]
 have h1:NH _ i c nms { s with tn:=s.tn++[(true,q,p)] } R:=(h.set (k:=9) rfl (.lst (s.tn.map iM++[iM (true,q,p)]))).cast (by simp only [nL,OW,O4,O3,OK,Pa]);have ib:kh (dB (aC bJ 1[0]! !"put")) δ=some (.int 1):=by simp only [kh,dB,tT (f:=1[0]!) (δ:=δ) (a:=Str.ofString "put") (x0 rfl),OA,OC];rfl
 have wd:aB bC (cn (ff #[!"get",!"put"])) (kh (dB (aC bJ 1[0]! !"put"))) δ=some (.str "put"):=JZ (l:=[.str "get", .str "put"]) rfl ib rfl;have a1:aQ (sIx (aD (aa (ae 0)) (aa !"touches")) (aa (qo gQ !1))) (aa (aR #[aB bC (cn (ff #[!"get",!"put"])) (kh (dB (aC bJ 1[0]! !"put"))),ae 2,1[1]!])) δ T=some (.nx δ,_):=js (pc (es:=i.tI.map .ref) (iB h (Cc _ _ _ _ _)) (h.get (k:=5) rfl)) (h.get (k:=9) rfl) (d:=iM (true,q,p)) (au (uj wd rfl (x1 rfl))) (h.get (k:=9) rfl) (by rw [OH];have:=ok.n5;omega);revert h1 a1;generalize T.set i.t (.lst (s.tn.map iM++[iM (true,q,p)]))=T1;intro h1 a1;have h2:NH _ i c nms { s with tn:=s.tn++[(true,q,p)],bx:=s.bx.set q.toNat v } R:=(h1.set (k:=8) rfl (.lst ((s.bx.map W.int).set q.toNat (.int v)))).cast (by simp only [nL,OW,O4,List.map_set]);have a2:kx (aa (ae 4)) (aa (ae 2)) (aa (ae 3)) δ1 T1=some (.nx δ1,_):=Dg (n:=i.b) rfl rfl rfl (h1.get (k:=8) rfl) (by rw [OH];exact hq);revert h2 a2;generalize T1.set i.b (.lst ((s.bx.map W.int).set q.toNat (.int v)))=T2;intro h2 a2;have h3:NH _ i c nms { s with tn:=s.tn++[(true,q,p)],bx:=s.bx.set q.toNat v,pn:=li s.pn q v } R:=h2.set (k:=10) rfl (.dK (uB (li s.pn q v)));refine ⟨_,(az rfl).trans ((OI bh (?_:_=some (.rt (.int v),_))).trans rfl),h3⟩;refine (ah a1).trans ?_;refine (ah (δ':=δ1) (bj (iB h1 (Kc _ _ _ _ _)) rfl)).trans ?_;have ne:aC tX 1[0]! (!"put") δ1=some false:=uE (a:=.str "put") (x0 rfl) rfl (by kernel_rfl);refine (ah (δ':=δ1) ((bH (au ne)).trans rfl)).trans ?_;refine (ah a2).trans ?_;refine (ah (δ':=δ2) (bj (pc (es:=i.pI.map .ref) (iB h2 (GO _ _ _ _ _)) (h2.get (k:=6) rfl)) rfl)).trans ?_;refine (ah (δ':=δ2) ((Dn (d:=.int v) (l:=i.p) rfl rfl (i:=q) rfl (h2.get (k:=10) rfl) (by simp [uB];have:=ok.n6;omega)).trans (by rw [vJ]))).trans rfl
theorem nk (h:NH T i c nms s R) (ok:bf c k s) (hk:k<6000) {w:String} {l:List W} {q v:Int} (hw:decide (Str.ofString w=Str.ofString "put")=false) (hq:0<=q/\q<s.bx.length):∃ T',cT [.ref i.w,.tuple (sW w::.int p::l),.int q,.int v] T=some (.ok (.int (s.bx[q.toNat]?.getD 0)),T')/\NH T' i c nms { s with tn:=s.tn++[(false,q,p)] } R:=by
 let δ:DS:=[.val (.ref i.w),.val (.tuple (sW w::.int p::l)),.val (.int q),.val (.int v),.no,.no]
 let δ1:DS:=[.val (.ref i.w),.val (.tuple (sW w::.int p::l)),.val (.int q),.val (.int v),.val (.ref i.b),.no]
 have h1:NH _ i c nms { s with tn:=s.tn++[(false,q,p)] } R:=(h.set (k:=9) rfl (.lst (s.tn.map iM++[iM (false,q,p)]))).cast (by simp only [nL,OW,O4,O3,OK,Pa]);have ib:kh (dB (aC bJ 1[0]! !"put")) δ=some (.int 0):=by simp only [kh,dB,tF (f:=1[0]!) (δ:=δ) (x0 rfl) hw,OA,OC];rfl
 have wd:aB bC (cn (ff #[!"get",!"put"])) (kh (dB (aC bJ 1[0]! !"put"))) δ=some (.str "get"):=JZ (l:=[.str "get", .str "put"]) rfl ib rfl;have a1:aQ (sIx (aD (aa (ae 0)) (aa !"touches")) (aa (qo gQ !1))) (aa (aR #[aB bC (cn (ff #[!"get",!"put"])) (kh (dB (aC bJ 1[0]! !"put"))),ae 2,1[1]!])) δ T=some (.nx δ,_):=js (pc (es:=i.tI.map .ref) (iB h (Cc _ _ _ _ _)) (h.get (k:=5) rfl)) (h.get (k:=9) rfl) (d:=iM (false,q,p)) (au (uj wd rfl (x1 rfl))) (h.get (k:=9) rfl) (by rw [OH];have:=ok.n5;omega);refine ⟨_,(az rfl).trans ((OI bh (?_:_=some (.rt (.int (s.bx[q.toNat]?.getD 0)),_))).trans rfl),h1⟩;refine (ah a1).trans ?_;refine (ah (δ':=δ1) (bj (iB h1 (Kc _ _ _ _ _)) rfl)).trans ?_;have ne:aC tX 1[0]! (!"put") δ1=some true:=uE (a:=sW w) (x0 rfl) rfl (by simp only [sW,tX,DD,hw];rfl);exact cR ((cf (au ne)).trans (bD (JQ (l:=i.b) rfl rfl (h1.get (k:=8) rfl) (vf _ hq))))
noncomputable abbrev Nd:DS->ai->SO:=bv (aa (AA (aC bJ 1[0]! !"meet") (aC bJ 1[0]! !"join"))) (aS (bZ cQ (aa #[ae 0,ae 1,ae 3]))) (al aw)
noncomputable abbrev Na:DS->ai->SO:=bv (aa (aC bJ 1[0]! !"tell")) (aQ (aD (aa (ae 0)) (aa !"told")) (aa (ae 3))) (al aw)
noncomputable abbrev MG:DS->ai->SO:=bv (aa (aC bJ 1[0]! !"set")) (ak (bU (aD (aa (ae 0)) (aa !"worth")) (ao 4)) (bE (aa (ae 4)) (aa 1[2]!) (aa (ae 3)))) (al aw)
noncomputable abbrev FV:DS->ai->SO:=ak Nd (ak Na (ak MG (al (aW (dC (.bool true))))))
theorem CV {f g:DS->Option Bool} {δ:DS} {b:Bool} (h1:f δ=some false) (h2:g δ=some b):AA f g δ=some b:=by simp! [uD,h1,h2]
theorem Jq {f g:DS->Option Bool} {δ:DS} (h1:f δ=some true):AA f g δ=some true:=by simp! [uD,h1]
section
variable {w:String} {l:List W} {x:W} {v:Int}
theorem GA {δ:DS} {f:DS->Option W} (e:1[0]! δ=some (sW w)) (h1:decide (Str.ofString w=Str.ofString "meet")=false) (h2:decide (Str.ofString w=Str.ofString "join")=false):Nd δ T=some (.nx δ,T):=(bH (au (CV (tF e h1) (tF e h2)))).trans rfl
theorem Cv {δ:DS} (e:1[0]! δ=some (sW w)) (h1:decide (Str.ofString w=Str.ofString "tell")=false):Na δ T=some (.nx δ,T):=(bH (sF e h1)).trans rfl
theorem Bw {δ:DS} (e:1[0]! δ=some (sW w)) (h1:decide (Str.ofString w=Str.ofString "set")=false):MG δ T=some (.nx δ,T):=(bH (sF e h1)).trans rfl
theorem Ff (q:W):FV [.val (.ref i.w),.val (.tuple (sW "put" :: l)),.val q,.val (.int v),.no] T=some (.rt (.bool true),T):=
 (ah (GA (f:=ae 0) (x0 rfl) kw.1 kw.2.1)).trans ((ah (Cv (x0 rfl) kw.2.2.1)).trans ((ah (Bw (x0 rfl) kw.2.2.2.1)).trans rfl))
theorem wy (h:NH T i c nms s R) (ok:bf c k s) (hk:k<6000) (q:W):∃ T',FV [.val (.ref i.w),.val (.tuple (sW "tell" :: l)),.val q,.val (.int v),.no] T=some (.rt (.bool true),T')/\NH T' i c nms { s with td:=s.td++[v] } R:=by
 have h1:NH _ i c nms { s with td:=s.td++[v] } R:=(h.set (k:=2) rfl (.lst (s.td.map .int++[.int v]))).cast (by simp only [nL,OW,O4,O3,OK,Pa]);obtain ⟨_,_,_,_,k1,k2,k3,_⟩:=kw;refine ⟨_,(ah (GA (f:=ae 0) (x0 rfl) k1 k2)).trans ((ah ((cf (sT (x0 rfl))).trans (js (iB h (MQ _ _ _ _ _)) (h.get (k:=2) rfl) (d:=.int v) rfl (h.get (k:=2) rfl) (by rw [OH];have:=ok.n2;omega)))).trans ((ah (Bw (x0 rfl) k3)).trans rfl)),h1⟩
theorem ya (h:NH T i c nms s R) (ok:bf c k s) (hk:k<6000) (q:W) {y:Str}:∃ T',FV [.val (.ref i.w),.val (.tuple (sW "set" :: x::.str y::l)),.val q,.val (.int v),.no] T=some (.rt (.bool true),T')/\NH T' i c nms { s with nm:=iJ s.nm y v } R:=by
 have h1:NH _ i c nms { s with nm:=iJ s.nm y v } R:=h.set (k:=1) rfl (.dK (uF (iJ s.nm y v)));obtain ⟨_,_,_,_,_,_,_,k1,k2,k3,_⟩:=kw;refine ⟨_,(ah (GA (f:=ae 0) (x0 rfl) k1 k2)).trans ((ah (Cv (x0 rfl) k3)).trans ((ah (δ':=[.val (.ref i.w),.val (.tuple (sW "set" :: x::.str y::l)),.val q,.val (.int v),.val (.ref i.g)]) ((cf (sT (x0 rfl))).trans ((ah (bj (iB h (Lu _ _ _ _ _)) rfl)).trans ((jw (k:=y) (l:=i.g) (d:=.int v) rfl rfl (au (x2 rfl)) (h.get (k:=1) rfl) (by simp [uF];have:=ok.n1;omega)).trans (by rw [rH];rfl))))).trans rfl)),h1⟩
theorem D8 (h:NH T i c nms s R) (hc:ke c) (ok:bf c k s) (hk:k<6000) (ol:kc R i s) {r:Rw} (hr:r=.meet∨∃ x y e,r=.join x y e) (q:W):∃ T' i' R',FV [.val (.ref i.w),.val (cq p r),.val q,.val (.int v),.no] T=some (.rt (.bool true),T')/\NH T' i' c nms (nN c r { s with br:=s.br++[(p,v)] }) R'/\kc R' i' (nN c r { s with br:=s.br++[(p,v)] })/\i'.w=i.w:=by
 obtain ⟨T',i',R',e,h',o',w'⟩:=tu (p:=p) h hc ok hk ol hr v;refine ⟨T',i',R',?_,h',o',w'⟩;obtain ⟨_,_,_,_,_,_,_,_,_,_,k1,k2,k3,k4,k5,_⟩:=kw;have X:∀ {δ:DS},aa #[ae 0,ae 1,ae 3] δ T=some (.ok [.ref i.w,cq p r,.int v],T)->aS (bZ cQ (aa #[ae 0,ae 1,ae 3])) δ T=some (.nx δ,T'):=λ {δ} he=>aN (cO he e);rcases hr with rfl | ⟨x,y,e',rfl⟩
 . exact (ah ((cf (au (Jq (tT (x0 rfl))))).trans (X rfl))).trans ((ah (Cv (w := "meet") (x0 rfl) k1)).trans ((ah (Bw (w := "meet") (x0 rfl) k2)).trans rfl))
 . exact (ah ((cf (au (CV (tF (x0 rfl) k5) (tT (x0 rfl))))).trans (X rfl))).trans ((ah (Cv (w := "join") (x0 rfl) k3)).trans ((ah (Bw (w := "join") (x0 rfl) k4)).trans rfl))
end
end
theorem sOr_t' {f g:DS->ai->SM Bool} {δ:DS} {S S1:ai} (h1:f δ S=some (.ok true,S1)):wI f g δ S=some (.ok true,S1):=by simp only [wI,aq,h1,Pj]
theorem qE {f g:DS->ai->SM Bool} {δ:DS} {S S1 S2:ai} {b:Bool} (h1:f δ S=some (.ok false,S1)) (h2:g δ S1=some (.ok b,S2)):wI f g δ S=some (.ok b,S2):=by simp only [wI,aq,h1,Pw,Qp,h2]
section
variable {T:ai} {i:Ni} {c:Cn} {nms:List Str} {s:As} {R:List (Nat×Ob)} {p:Int} {k:Nat}
noncomputable abbrev Js:DS->ai->SM Bool:=mH (aa (aC eW (aA 2) (dC .none))) (wI (aa (aC sO (aA 2) !0)) (kS ER (aa (ae 2)) (gR (aD (aa (ae 0)) (aa !"boxes")))))
theorem Dl (h:NH T i c nms s R) {a x y:Sl} (q:Int):Js [.val (.ref i.w),a,.val (.int q),x,y] T=some (.ok (decide (¬ (0<=q/\q<s.bx.length))),T):=by
 let δ:DS:=[.val (.ref i.w),a,.val (.int q),x,y]
 have e1:aa (aC sO (aA 2) !0) δ T=some (.ok (decide (q<0)),T):=au (uE (a:=.int q) rfl rfl (qC _ _));have e2:kS ER (aa (ae 2)) (gR (aD (aa (ae 0)) (aa !"boxes"))) δ T=some (.ok (decide ((s.bx.length:Int)<=q)),T):=by
  have:=wP (iB (r:=[a,.val (.int q),x,y]) h (Kc _ _ _ _ _)) (h.get (k:=8) rfl);rw [OH] at this;exact qZ (d:=.int q) rfl this rfl
 refine rS (S1:=T) rfl ?_;by_cases h0:q<0
 . rw [OV h0] at e1;rw [sOr_t' e1,OV (by omega)]
 . rw [OE h0] at e1;rw [qE e1 e2];congr 3;exact decide_eq_decide.mpr (by omega)
theorem yL (h:NH T i c nms s R) (hc:ke c) (ok:bf c k s) (hk:k<5000) (ol:kc R i s) {r:Rw} (hr:AD r):∃ T' i' R' b,cW [.ref i.w,cq p r,gl (jS c s.nm r),.int (rQ c s.nm r)] T=some (.ok (.bool b),T')/\NH T' i' c nms (gM c p r s) R'/\kc R' i' (gM c p r s)/\i'.w=i.w:=by
 let δ:DS:=[.val (.ref i.w),.val (cq p r),.val (gl (jS c s.nm r)),.val (.int (rQ c s.nm r)),.no]
 have ix1:∀ {a b d:Sl},1[1]! [.val (.ref i.w),.val (cq p r),a,b,d]=some (.int p):=λ {a b d}=>by
  obtain ⟨x,l',e⟩:=Ax p r;exact x1 (v:=x) (l:=l') (by rw [<-e];rfl)
 have tm:kd false (gR (aD (aa (ae 0)) (aa !"lines"))) (aD (aa (ae 0)) (aa !"most")) δ T=some (.ok (decide ((s.ln.length:Int)=c.most)),T):=by
  have:=wP (iB (r:=[.val (cq p r),.val (gl (jS c s.nm r)),.val (.int (rQ c s.nm r)),.no]) h (KG _ _ _ _ _)) (h.get (k:=3) rfl);rw [OH] at this;exact Kt this (iB h (Nx _ _ _ _ _))
 by_cases e:(s.ln.length:Int)=c.most
 . rw [OV e] at tm;have st:gM c p r s={ s with en:=some (Str.ofString "tired", p),ov:=true }:=by unfold gM;rw [OG e]
   rw [st];obtain ⟨T1,e1,h1⟩:=Ho h (Str.ofString "tired") p (δ:=[.val (cq p r),.val (gl (jS c s.nm r)),.val (.int (rQ c s.nm r)),.no]) (fe:=aa (aR #[!"tired",1[1]!])) (au (mU rfl ix1)) (g:=al (aW (dC (.bool false))));exact ⟨T1,i,R,false,(az rfl).trans ((OI bh (cR (d:=.bool false) (S':=T1) ((cf tm).trans (e1.trans rfl)))).trans rfl),h1,⟨ol.tc,ol.pt⟩,rfl⟩
 rw [OE e] at tm;have st:gM c p r s=dn c p r { s with ln:=s.ln++[p] }:=by unfold gM;rw [OT e]
 rw [st];have h1:NH _ i c nms { s with ln:=s.ln++[p] } R:=(h.set (k:=3) rfl (.lst (s.ln.map .int++[.int p]))).cast (by simp only [nL,OW,O4,O3,OK,Pa]);have a1:aQ (aD (aa (ae 0)) (aa !"lines")) (aa 1[1]!) δ T=some (.nx δ,_):=js (iB h (KG _ _ _ _ _)) (h.get (k:=3) rfl) (d:=.int p) (au ix1) (h.get (k:=3) rfl) (by rw [OH];have:=ok.n3;omega);revert h1 a1;generalize T.set i.t2 (.lst (s.ln.map .int++[.int p]))=T1;intro h1 a1;have ok1:=ok.ln' p e;have ol1:kc R i { s with ln:=s.ln++[p] }:=⟨ol.tc,ol.pt⟩
 have pre:∀ {O:SO},ak (bv Js (ak (bE (aa (ae 0)) (aa !"end") (aa (aR #[!"outside",1[1]!]))) (ak (bE (aa (ae 0)) (aa !"over") (aa (dC (.bool true)))) (al (aW (dC (.bool false)))))) (al aw)) (ak (bv (aa (aC eW (aA 2) (dC .none))) (bU (bZ cT (aa #[ae 0,ae 1,ae 2,ae 3])) (ao 3)) (al aw)) FV) δ T1=O->cW [.ref i.w,cq p r,gl (jS c s.nm r),.int (rQ c s.nm r)] T=bh O:=λ {O} hO=>(az rfl).trans (OI bh ((ah (δ':=δ) ((bH tm).trans rfl)).trans ((ah a1).trans hO)));have none':jS c s.nm r=none->∀ {O:SO},FV δ T1=O->cW [.ref i.w,cq p r,gl (jS c s.nm r),.int (rQ c s.nm r)] T=bh O:=λ hn {O} hO=>by
  have v2:aA 2 δ=some .none:=by
   show some (gl (jS c s.nm r))=_;rw [hn];rfl
  have n2:aa (aC eW (aA 2) (dC .none)) δ T1=some (.ok false,T1):=au (uE (a:=.none) v2 rfl rfl);exact pre ((ah (δ':=δ) ((bH (rm n2)).trans rfl)).trans ((ah (δ':=δ) ((bH n2).trans rfl)).trans hO))
 have some':∀ {q:Int},jS c s.nm r=some q->¬ (0<=q/\q<s.bx.length)->∃ T' b,cW [.ref i.w,cq p r,gl (jS c s.nm r),.int (rQ c s.nm r)] T=some (.ok (.bool b),T')/\NH T' i c nms { s with ln:=s.ln++[p],en:=some (Str.ofString "outside", p),ov:=true } R:=λ {q} hq hi=>by
  have o:=Dl h1 (a:=.val (cq p r)) (x:=.val (.int (rQ c s.nm r))) (y:=.no) q;have o:_=some (Rs.ok (decide (¬ (0<=q/\q<s.bx.length))),T1):=o;rw [OV hi] at o;obtain ⟨T2,e2,h2⟩:=Ho h1 (Str.ofString "outside") p (δ:=[.val (cq p r),.val (gl (jS c s.nm r)),.val (.int (rQ c s.nm r)),.no]) (fe:=aa (aR #[!"outside",1[1]!])) (au (mU rfl ix1)) (g:=al (aW (dC (.bool false))));refine ⟨T2,false,(pre (O:=some (.rt (.bool false),T2)) (cR ((cf ?_).trans (e2.trans rfl)))).trans rfl,h2⟩;have dd:δ=[.val (.ref i.w),.val (cq p r),.val (.int q),.val (.int (rQ c s.nm r)),.no]:=by simp only [δ,hq,gl]
  rw [dd];exact o
 have in':∀ {q v:Int} {T2:ai},jS c s.nm r=some q->(0<=q/\q<s.bx.length)->cT [.ref i.w,cq p r,.int q,.int (rQ c s.nm r)] T1=some (.ok (.int v),T2)->∀ {O:SO},FV [.val (.ref i.w),.val (cq p r),.val (.int q),.val (.int v),.no] T2=O->cW [.ref i.w,cq p r,gl (jS c s.nm r),.int (rQ c s.nm r)] T=bh O:=λ {q v T2} hq hi ht {O} hO=>by
  have o:=Dl h1 (a:=.val (cq p r)) (x:=.val (.int (rQ c s.nm r))) (y:=.no) q;have o:_=some (Rs.ok (decide (¬ (0<=q/\q<s.bx.length))),T1):=o;rw [OE (not_not_intro hi)] at o;refine pre ?_;have dd:δ=[.val (.ref i.w),.val (cq p r),.val (.int q),.val (.int (rQ c s.nm r)),.no]:=by simp only [δ,hq,gl]
  rw [dd];refine (ah (δ':=[.val (.ref i.w),.val (cq p r),.val (.int q),.val (.int (rQ c s.nm r)),.no]) ((bH o).trans rfl)).trans ?_;refine (ah (δ':=[.val (.ref i.w),.val (cq p r),.val (.int q),.val (.int v),.no]) ((cf (au (uE (a:=.int q) rfl rfl rfl))).trans (bj (cO (ds:=[.ref i.w,cq p r,.int q,.int (rQ c s.nm r)]) rfl ht) rfl))).trans hO
 cases r with
 | put a e'=>
  by_cases hi:0<=vl c s.nm a/\vl c s.nm a<s.bx.length
  . obtain ⟨T2,e2,h2⟩:=u5 (p:=p) (a:=a) (e:=e') (v:=vl c s.nm e') h1 ok1 (by omega) hi;have d:dn c p (.put a e') { s with ln:=s.ln++[p] }={ s with ln:=s.ln++[p],tn:=s.tn++[(true,vl c s.nm a,p)],bx:=s.bx.set (vl c s.nm a).toNat (vl c s.nm e'),pn:=li s.pn (vl c s.nm a) (vl c s.nm e') }:=by simp only [dn,jS,OG hi,A9]
    rw [d];exact ⟨T2,i,R,true,(in' rfl hi e2 (Ff _)).trans rfl,h2,⟨ol.tc,ol.pt⟩,rfl⟩
  . obtain ⟨T2,b,e2,h2⟩:=some' rfl hi;have d:dn c p (.put a e') { s with ln:=s.ln++[p] }={ s with ln:=s.ln++[p],en:=some (Str.ofString "outside", p),ov:=true }:=by simp only [dn,jS,OT hi]
    rw [d];exact ⟨T2,i,R,b,e2,h2,⟨ol.tc,ol.pt⟩,rfl⟩
 | tellB a=>
  by_cases hi:0<=vl c s.nm a/\vl c s.nm a<s.bx.length
  . obtain ⟨T2,e2,h2⟩:=nk (p:=p) (w := "tell") (l:=[tw (.box a)]) (v:=0) h1 ok1 (by omega) kw.2.2.2.2.2.2.2.2.2.2.2.2.2.2.2.1 hi;obtain ⟨T3,e3,h3⟩:=wy (l:=[.int p,tw (.box a)]) (v:=s.bx[(vl c s.nm a).toNat]?.getD 0) h2 (ok1.touch (false,vl c s.nm a,p)) (by omega) (.int (vl c s.nm a));have d:dn c p (.tellB a) { s with ln:=s.ln++[p] }={ s with ln:=s.ln++[p],tn:=s.tn++[(false,vl c s.nm a,p)],td:=s.td++[s.bx[(vl c s.nm a).toNat]?.getD 0] }:=by simp only [dn,jS,OG hi,A9]
    rw [d];exact ⟨T3,i,R,true,(in' rfl hi e2 e3).trans rfl,h3,⟨ol.tc,ol.pt⟩,rfl⟩
  . obtain ⟨T2,b,e2,h2⟩:=some' rfl hi;have d:dn c p (.tellB a) { s with ln:=s.ln++[p] }={ s with ln:=s.ln++[p],en:=some (Str.ofString "outside", p),ov:=true }:=by simp only [dn,jS,OT hi]
    rw [d];exact ⟨T2,i,R,b,e2,h2,⟨ol.tc,ol.pt⟩,rfl⟩
 | setB x a=>
  by_cases hi:0<=vl c s.nm a/\vl c s.nm a<s.bx.length
  . obtain ⟨T2,e2,h2⟩:=nk (p:=p) (w := "set") (l:=[.str x,tw (.box a)]) (v:=0) h1 ok1 (by omega) kw.2.2.2.2.2.2.2.2.2.2.2.2.2.2.2.2 hi;obtain ⟨T3,e3,h3⟩:=ya (x:=.int p) (l:=[tw (.box a)]) (y:=x) (v:=s.bx[(vl c s.nm a).toNat]?.getD 0) h2 (ok1.touch (false,vl c s.nm a,p)) (by omega) (.int (vl c s.nm a));have d:dn c p (.setB x a) { s with ln:=s.ln++[p] }={ s with ln:=s.ln++[p],tn:=s.tn++[(false,vl c s.nm a,p)],nm:=iJ s.nm x (s.bx[(vl c s.nm a).toNat]?.getD 0) }:=by simp only [dn,jS,OG hi,A9]
    rw [d];exact ⟨T3,i,R,true,(in' rfl hi e2 e3).trans rfl,h3,⟨ol.tc,ol.pt⟩,rfl⟩
  . obtain ⟨T2,b,e2,h2⟩:=some' rfl hi;have d:dn c p (.setB x a) { s with ln:=s.ln++[p] }={ s with ln:=s.ln++[p],en:=some (Str.ofString "outside", p),ov:=true }:=by simp only [dn,jS,OT hi]
    rw [d];exact ⟨T2,i,R,b,e2,h2,⟨ol.tc,ol.pt⟩,rfl⟩
 | set x e'=>
  obtain ⟨T3,e3,h3⟩:=ya (x:=.int p) (l:=[tw e']) (y:=x) (v:=vl c s.nm e') h1 ok1 (by omega) .none;exact ⟨T3,i,R,true,(none' rfl e3).trans rfl,h3,⟨ol.tc,ol.pt⟩,rfl⟩
 | tell e'=>
  obtain ⟨T3,e3,h3⟩:=wy (l:=[.int p,tw e']) (v:=vl c s.nm e') h1 ok1 (by omega) .none;exact ⟨T3,i,R,true,(none' rfl e3).trans rfl,h3,⟨ol.tc,ol.pt⟩,rfl⟩
 | meet=>
  obtain ⟨T3,i',R',e3,h3,o3,w3⟩:=D8 (p:=p) (v:=0) h1 hc ok1 (by omega) ol1 (r:=.meet) (.inl rfl) .none;exact ⟨T3,i',R',true,(none' rfl e3).trans rfl,h3,o3,w3⟩
 | join x y e'=>
  obtain ⟨T3,i',R',e3,h3,o3,w3⟩:=D8 (p:=p) (v:=vl c s.nm e') h1 hc ok1 (by omega) ol1 (r:=.join x y e') (.inr ⟨x,y,e',rfl⟩) .none;exact ⟨T3,i',R',true,(none' rfl e3).trans rfl,h3,o3,w3⟩
end
structure NX (a:PyData) (D w:Nat):Prop where
 sh:a.showable=true
 ly:a.canLay0=true
 is:a.intsShort 13=true
 d:a.depth<=D
 w:a.weight<=w
structure NC (a:List PyData) (D w:Nat):Prop where
 sh:PyData.showableAll a=true
 ly:PyData.canLayAll0 a=true
 is:PyData.intsShortAll 13 a=true
 d:PyData.depthAll a<=D
 w:PyData.weightAll a<=w
noncomputable def RO (x:W) (D w:Nat):Prop:=∃ a,x.py=some a/\NX a D w
noncomputable def RA (x:List W) (D w:Nat):Prop:=∃ a,W.pys x=some a/\NC a D w
theorem RO.mono {x:W} {D w D' w':Nat} (h:RO x D w) (h1:D<=D') (h2:w<=w'):RO x D' w':=let ⟨a,e,r⟩:=h;⟨a,e,r.sh,r.ly,r.is,OY r.d h1,OY r.w h2⟩
theorem FK {n:Nat} (h:n<10^12):n.log2<40:=by
 by_cases h0:n=0
 . subst h0;decide
 . rw [Nat.log2_lt h0];have:(10:Nat)^12<2^40:=by decide
   omega
theorem RO.int {i:Int} (h:i.natAbs<10^12):RO (.int i) 0 41:=by
 have hl:=FK h;refine ⟨.int i,rfl,?_,rfl,?_,OB _,?_⟩
 . simp only [PyData.showable,OX];omega
 . simp only [PyData.intsShort,OX];exact PyData.shown_int_le h
 . simp only [PyData.weight];split <;> omega
theorem RO.str {x:Str} {s:Nat} (h:x.cps.size<=s) (h':PyData.strOk x=true):RO (.str x) 0 s:=⟨.str x,rfl,rfl,h',rfl,OB _,h⟩
theorem RA.nil (D:Nat):RA [] D 0:=⟨[],rfl,rfl,rfl,rfl,O8 _,OB _⟩
theorem RA.cons {x:W} {xs:List W} {D w w':Nat} (h:RO x D w) (h':RA xs D w'):RA (x::xs) D (w+1+w'):=by
 obtain ⟨a,e,r⟩:=h;obtain ⟨as,es,rs⟩:=h';refine ⟨a::as,by simp only [W.pys,e,es,OA,OC],?_,?_,?_,?_,?_⟩
 . simp only [PyData.showableAll,r.sh,rs.sh,Bool.and_self]
 . simp only [PyData.canLayAll0,r.ly,rs.ly,Bool.and_self]
 . simp only [PyData.intsShortAll,r.is,rs.is,Bool.and_self]
 . simp only [PyData.depthAll];exact Nat.max_le.mpr ⟨r.d,rs.d⟩
 . simp only [PyData.weightAll];have:=r.w;have:=rs.w;omega
theorem RA.tup {xs:List W} {D w:Nat} (h:RA xs D w):RO (.tuple xs) (D+1) w:=by
 obtain ⟨a,e,r⟩:=h;exact ⟨.tuple a,by simp only [W.py,e,OC],r.sh,r.ly,r.is,Nat.succ_le_succ r.d,r.w⟩
theorem RA.lst {xs:List W} {D w:Nat} (h:RA xs D w):RO (.list xs) (D+1) w:=by
 obtain ⟨a,e,r⟩:=h;exact ⟨.list a,by simp only [W.py,e,OC],r.sh,r.ly,r.is,Nat.succ_le_succ r.d,r.w⟩
theorem RO.none:RO .none 0 0:=⟨.none,rfl,rfl,rfl,rfl,OB _,OB _⟩
theorem yW {v:Int} (h:Rg v):v.natAbs<10^12:=by
 have e:(10:Nat)^12=1000000000000:=by decide
 rw [e];have:=h.1;have:=h.2;omega
theorem RA.mono {x:List W} {D w D' w':Nat} (h:RA x D w) (h1:D<=D') (h2:w<=w'):RA x D' w':=let ⟨a,e,r⟩:=h;⟨a,e,r.sh,r.ly,r.is,OY r.d h1,OY r.w h2⟩
noncomputable def df (ns:List Int) (k:Nat):Int:=(ns[k]?).getD 0
theorem gE (ns:List Int) (k:Nat):aY [.list (ns.map .int),.int k]=some (.int (df ns k)):=by
 refine eG rfl ?_;have t:aC sO (aA 1) (kj jD (aA 0)) [.val (.list (ns.map .int)),.val (.int k)]=some (decide (k<ns.length)):=by
  simp! [uD,OH];congr 1;exact decide_eq_decide.mpr (by omega)
 by_cases h:k<ns.length
 . rw [OV h] at t;refine fS (aX (b:=true) t (aV (JZ (l:=ns.map .int) rfl rfl ?_)));rw [zF _ _ (by simpa using h)];simp [df,OJ h]
 . rw [OE h] at t;refine ba (aX (b:=false) t rfl) (aV ?_);simp [df,List.getElem?_eq_none (Nat.le_of_not_lt h),dC]
noncomputable def EA (b:Int):Int:=((b*(b+48271)).fmod 2147483579).fdiv 5
noncomputable def jt (x k:Int):Int:=EA (((x.fmod 2147483647+16807*k+7).fmod 2147483629*(x.fmod 2147483647+16807*k+7).fmod 2147483629).fmod 2147483587)
theorem ic (x k:Int):bc [.int x,.int k]=some (.int (jt x k)):=by
 have h1:=b9 (x.fmod 2147483647+16807*k+7) (j:=2147483629) (by decide);have h2:=b9 ((x.fmod 2147483647+16807*k+7).fmod 2147483629*(x.fmod 2147483647+16807*k+7).fmod 2147483629) (j:=2147483587) (by decide);have m0:=b3 x (j:=2147483647) (by decide);have m1:=b3 (x.fmod 2147483647+16807*k+7) (j:=2147483629) (by decide);have p0:cw (.int 16807) (.int k)=some (.int (16807*k)):=fM (fW (by decide) (by decide));unfold jt;refine eG rfl ?_;refine ba (δ1:=[.val (.int x),.val (.int k),.val (.int ((x.fmod 2147483647+16807*k+7).fmod 2147483629))]) (aT (by simp! [uD,m0,p0,m1]) rfl) ?_;generalize (x.fmod 2147483647+16807*k+7).fmod 2147483629=a at h1 h2 ⊢;have p1:cw (.int a) (.int a)=some (.int (a*a)):=fM (fW (by omega) (by omega));have m2:=b3 (a*a) (j:=2147483587) (by decide);refine ba (δ1:=[.val (.int x),.val (.int k),.val (.int ((a*a).fmod 2147483587))]) (aT (by simp! [uD,p1,m2]) rfl) ?_;generalize (a*a).fmod 2147483587=b at h2 ⊢;have p2:cw (.int b) (.int (b+48271))=some (.int (b*(b+48271))):=fM (fW (by omega) (by omega));have m3:=b3 (b*(b+48271)) (j:=2147483579) (by decide);have d3:=fq ((b*(b+48271)).fmod 2147483579) (j:=5) (by decide) (by decide);refine aV ?_;simp! [uD,p2,m3,d3,EA]
theorem my (x k:Int):0<=jt x k/\jt x k<2147483579:=by
 unfold jt;generalize ((x.fmod 2147483647+16807*k+7).fmod 2147483629*(x.fmod 2147483647+16807*k+7).fmod 2147483629).fmod 2147483587=b;unfold EA;have h:=b9 (b*(b+48271)) (j:=2147483579) (by decide);rw [PB _ (by decide)];omega
noncomputable def qV (y:Str):Prop:=y.cps.size<=8/\∀ x∈y.cps.toList,x<1000
theorem qV.ok {y:Str} (h:qV y):PyData.strOk y=true:=by
 simp only [PyData.strOk];rw [P5];intro x hx;have:=h.2 x (P1.mpr hx);simp;omega
noncomputable def rg:Str:=Str.ofString "abcdefghijklmnopqrstuvwxyz"
noncomputable def A7 (k:Nat):Nat:=rg.cps.toList.getD k 0
theorem CG:rg.cps.toList.length=26:=by decide +kernel
theorem EQ (k:Nat) (h:k<26):bC (.str rg) (.int k)=some (.str ⟨List.toArray [A7 k]⟩):=by
 have hz:rg.length<=sizeLine:=sz _ (by decide +kernel);have hk:k<rg.cps.toList.length:=by rw [CG];omega
 show (if rg.length<=sizeLine then (iO rg.cps.toList (k:Int)).map λ c=>W.str ⟨List.toArray [c]⟩ else none)=_;rw [OG hz,zF _ k hk,OJ hk];simp [A7,List.getD,OJ hk]
noncomputable instance (y:Str):Decidable (qV y):=by unfold qV;infer_instance
noncomputable def qS (k:Nat):Str:=Txt.mul (Str.ofString "q") (k:Int)
noncomputable def GY (a b l:Nat):Str:=(qS a++(⟨List.toArray [A7 l]⟩:Str))++qS b
theorem Ew:∀ (a b:Fin 8) (l:Fin 26),a.1+b.1<=7->qV (GY a.1 b.1 l.1):=by decide +kernel
theorem zd:∀ a:Fin 8,(qS a.1).length<=8:=by decide +kernel
theorem Jo:(Str.ofString "q").length<=1000:=by decide +kernel
theorem Ag (k:Nat) (h:k<8):tK (.str "q") (.int (k:Int))=some (.str (qS k)):=by
 show (if (decide (0<=(k:Int))&&decide ((k:Int)<=1000)&&decide ((Str.ofString "q").length<=1000))=true then some (W.str (Txt.mul (Str.ofString "q") (k:Int))) else none)=_;rw [OG (by simp [Jo];omega)];rfl
theorem LZ (a b:Str):(a++b).length=a.length+b.length:=strLen_append a b
theorem yx {h:W->DS->Option DS} {fb:DS->Option fZ} {d:W} {ds:List W} {δ δ2 δ':DS} (h1:h d δ=some δ2) (h2:fb δ2=some (.nx δ')):cG h fb (d::ds) δ=cG h fb ds δ':=by simp only [cG,h1,OA,h2]
theorem ph {f:DS->Option W} {δ:DS} {n:Nat} (hf:f δ=some (.int n)) (hn:n<1000):jh #[f] δ=some (gn 0 n):=by
 have e:#[f] δ=some [.int n]:=fB hf rfl;have r:=BF (j:=(n:Int)) (by omega) (by omega);show (#[f] δ).bind vX=_;rw [e,OA,r];rfl
theorem u4 {i:Nat} {δ:DS} {l:List W} {f:DS->Option W} {x:W} (ho:qe i δ=some l) (hf:f δ=some x) (hl:l.length<1000):cr i f δ=some (.nx (δ.set i (.own (l++[x])))):=by
 have z:l.length<sizeLine:=ON hl (sz 1000 (by decide));simp only [cr,ho,hf,OA,OG z]
theorem xw (c:Int):∃ L:List Str,gw [.int c]=some (.list (L.map .str))/\L.length=3/\∀ s∈L,qV s:=by
 have r8:=b9 c (j:=8) (by decide);obtain ⟨s,hs⟩:∃ s:Nat,c.fmod 8=s:=⟨(c.fmod 8).toNat,by omega⟩
 have ra:=b9 (c.fdiv 8) (j:=1+(s:Int)) (by omega);obtain ⟨a,ha⟩:∃ a:Nat,(c.fdiv 8).fmod (1+(s:Int))=a:=⟨((c.fdiv 8).fmod (1+(s:Int))).toNat,by omega⟩
 obtain ⟨b,hb⟩:∃ b:Nat,b=s-a:=⟨_,rfl⟩
 have hab:a+b<=7:=by omega
 have m1:=Ag a (by omega);have m2:=Ag b (by omega);have qa:=zd ⟨a,by omega⟩;have qb:=zd ⟨b,by omega⟩;dsimp only at qa qb;have g1:∀ k:Nat,bI (.str (qS a)) (.str ⟨List.toArray [A7 k]⟩)=some (.str (qS a++⟨List.toArray [A7 k]⟩)):=λ k=>yt (sz _ (by have:(⟨List.toArray [A7 k]⟩:Str).length=1:=rfl;omega));have g2:∀ k:Nat,bI (.str (qS a++⟨List.toArray [A7 k]⟩)) (.str (qS b))=some (.str (GY a b k)):=λ k=>yt (sz _ (by rw [LZ];have:(⟨List.toArray [A7 k]⟩:Str).length=1:=rfl;omega));have eb:(1+(s:Int))-1-(a:Int)=(b:Int):=by omega
 let δ (l:List Str) (s5 s6:Sl):DS:=[.val (.int c),.val (.int (1+(s:Int))),.val (.int a),.val (.str rg),.own (l.map .str),s5,s6]
 have loop:∀ (n k:Nat) (l:List Str) (s5 s6:Sl),l.length+n<=3->∃ l' s5' s6',cG (ao 5) jC (gn k n) (δ l s5 s6)=some (.nx (δ (l++l') s5' s6'))/\l'.length=n/\∀ x∈l',qV x:=by
  intro n;induction n with
  | zero=>exact λ k l s5 s6 _=>⟨[],s5,s6,by simp [gn,cG],rfl,λ _ h=>absurd h Pl⟩
  | succ n ih=>
   intro k l s5 s6 hl;have rl:=b9 (c.fdiv 64+(k:Int)) (j:=26) (by decide);obtain ⟨q,hq⟩:∃ q:Nat,(c.fdiv 64+(k:Int)).fmod 26=q:=⟨((c.fdiv 64+(k:Int)).fmod 26).toNat,by omega⟩
   obtain ⟨l',t5,t6,e,h1,h2⟩:=ih (k+1) (l++[GY a b q]) (.val (.int k)) (.val (.str ⟨List.toArray [A7 q]⟩)) (by simp;omega);refine ⟨GY a b q::l',t5,t6,?_,by simp [h1],?_⟩
   . rw [iu];refine (yx (δ2:=δ l (.val (.int k)) s6) (δ':=δ (l++[GY a b q]) (.val (.int k)) (.val (.str ⟨List.toArray [A7 q]⟩))) rfl ?_).trans ?_
     . refine ba (δ1:=δ l (.val (.int k)) (.val (.str ⟨List.toArray [A7 q]⟩))) (aT (dO rfl (dO (dO (dO rfl rfl (fq c (by decide) (by decide))) rfl (d7 _ _)) rfl ((b3 _ (by decide)).trans (by rw [hq]))) (EQ q (by omega))) rfl) ?_;refine (u4 (l:=l.map .str) (x:=.str (GY a b q)) rfl (dO (dO (dO rfl rfl m1) rfl (g1 q)) (dO rfl (dO (dO rfl rfl (iq _ _)) rfl ((iq _ _).trans (by rw [eb]))) m2) (g2 q)) (by simp;omega)).trans ?_;simp [δ]
     . have ek:((k+1:Nat):Int)=(k:Int)+1:=by omega
       rw [ek] at e;rw [e];simp
   . intro x hx;rcases OO.mp hx with rfl | hx
     . exact Ew ⟨a,by omega⟩ ⟨b,by omega⟩ ⟨q,by omega⟩ hab
     . exact h2 x hx
 obtain ⟨l',t5,t6,e,h1,h2⟩:=loop 3 0 [] .no .no (by simp);refine ⟨l',?_,h1,h2⟩;let δ0 (s1 s2 s3 s4:Sl):DS:=[.val (.int c),s1,s2,s3,s4,.no,.no]
 refine eG rfl ?_;refine ba (δ1:=δ0 (.val (.int (1+(s:Int)))) .no .no .no) (aT (dO rfl (dO rfl rfl ((b3 c (by decide)).trans (by rw [hs]))) rfl) rfl) ?_;refine ba (δ1:=δ0 (.val (.int (1+(s:Int)))) (.val (.int a)) .no .no) (aT (dO (dO rfl rfl (fq c (by decide) (by decide))) rfl ((b3 _ (by omega)).trans (by rw [ha]))) rfl) ?_;refine ba (δ1:=δ0 (.val (.int (1+(s:Int)))) (.val (.int a)) (.val (.str rg)) .no) rfl ?_;refine ba (δ1:=δ [] .no .no) ?_ ?_
 . have z:=sz 0 (by decide);simp only [lK,ff,aj,OA,O5,OG z,OC];rfl
 refine ba (δ1:=δ l' t5 t6) ?_ rfl;show (jh _ _).bind _=_;rw [ph (n:=3) rfl (by omega),OA];simpa using e
structure GT (t:Tr):Prop where
 ok:qd t
 dp:mj t<3
 ro:RO (tw t) 2 170
theorem JH:∀ w∈["num", "name", "put", "set", "tell", "meet", "join", "main", "box"],(Str.ofString w).cps.size<=6/\PyData.strOk (Str.ofString w)=true:=by decide +kernel
theorem Je:∀ k:Fin 7,(kU k).cps.size<=6/\PyData.strOk (kU k)=true:=by decide +kernel
theorem J0:∀ k:Fin 3,(AE k).cps.size<=6/\PyData.strOk (AE k)=true:=by decide +kernel
theorem Jm:∀ k:Fin 4,(jW k).cps.size<=6/\PyData.strOk (jW k)=true:=by decide +kernel
theorem p4 (w:String) (h:w∈["num", "name", "put", "set", "tell", "meet", "join", "main", "box"]):RO (sW w) 0 6:=RO.str (JH w h).1 (JH w h).2
theorem sm {v:Int} (h:Rg v):RO (tw (.num v)) 1 49:=(RA.cons (p4 "num" (by simp)) (RA.cons (RO.int (yW h)) (RA.nil _))).tup.mono (OB _) (by omega)
theorem vp {x:Str} (h:qV x):RO (tw (.nam x)) 1 49:=(RA.cons (p4 "name" (by simp)) (RA.cons (RO.str h.1 h.ok) (RA.nil _))).tup.mono (OB _) (by omega)
theorem zk (k:Fin 3):RO (tw (.sig k)) 1 49:=(RA.cons (RO.str (J0 k).1 (J0 k).2) (RA.nil _)).tup.mono (OB _) (by omega)
theorem yl {k:Fin 7} {a b:Tr} (h:RO (tw a) 1 49) (h':RO (tw b) 1 49):RO (tw (.op k a b)) 2 170:=(RA.cons (D:=1) ((RO.str (Je k).1 (Je k).2).mono (by omega) (OB _)) (RA.cons h (RA.cons h' (RA.nil _)))).tup.mono (OB _) (by omega)
theorem rV {v:Int} (h:Rg v):GT (.num v):=⟨h,by simp [mj],(sm h).mono (by omega) (by omega)⟩
theorem FM {x:Str} (h:qV x):GT (.nam x):=⟨trivial,by simp [mj],(vp h).mono (by omega) (by omega)⟩
theorem vd (k:Fin 3):GT (.sig k):=⟨trivial,by simp [mj],(zk k).mono (by omega) (by omega)⟩
theorem FR {x:Str} {v:Int} (h:qV x) (h':Rg v):GT (.op 0 (.nam x) (.num v)):=⟨⟨.inl rfl,trivial,h'⟩,by simp [mj],yl (vp h) (sm h')⟩
theorem GU {v:Int} (h':Rg v):GT (.op 0 (.sig 0) (.num v)):=⟨⟨.inl rfl,trivial,h'⟩,by simp [mj],yl (zk 0) (sm h')⟩
theorem Gf {x:Str} {v:Int} (h:qV x) (h':Rg v) (h0:0<v):GT (.op 4 (.nam x) (.num v)):=⟨⟨.inr ⟨rfl,v,rfl,h0⟩,trivial,h'⟩,by simp [mj],yl (vp h) (sm h')⟩
section
variable {T:ai} {i:Ni} {c:Cn} {nms:List Str} {s:As} {R:List (Nat×Ob)} {k:Nat}
theorem nu (h:NH T i c nms s R) {x:Sl} {r:DS} {key:Str} {v:W} (e:d8 (iP i c nms (pf s.en) s.ov) (.inr key)=some v):aD (aa (ae 1)) (aa (dC (.str key))) (x::.val (.ref i.w)::r) T=some (.ok v,T):=lj (l:=i.w) rfl rfl (h.get (k:=0) rfl) e
theorem Ae {nms:List Str} (hn:nms.length=3) (hs:∀ x∈nms,qV x) (q:Int):∃ x,iO (nms.map W.str) (q.fmod 3)=some (.str x)/\qV x:=by
 have h:=b9 q (j:=3) (by decide);obtain ⟨a,ha⟩:∃ a:Nat,q.fmod 3=a:=⟨(q.fmod 3).toNat,by omega⟩
 have hl:a<nms.length:=by omega
 refine ⟨nms[a],?_,hs _ (List.getElem_mem hl)⟩;rw [ha,zF _ _ (by simpa using hl)];simp [hl]
theorem o9 {f g:DS->ai->SM W} {δ:DS} {S S1 S2:ai} {a b:W} (h1:f δ S=some (.ok a,S1)) (h2:g δ S1=some (.ok b,S2)):ik (av f (av g bb)) δ S=some (.ok (.tuple [a,b]),S2):=by
 have z:=sz 2 (by decide);have:=aE h1 (aE h2 (g:=bb) (ds:=[]) rfl);simp only [ik,aq,this,OF,O5,OG z]
theorem ci {f:DS->Option W} {δ:DS} {a b:Int} (h:f δ=some (.int a)):aC bJ f (dC (.int b)) δ=some (decide (a=b)):=by simp! [uD,h]
theorem qF {f:DS->Option W} {δ:DS} {a b:Int} {S:ai} {g:DS->Option fZ} {q:DS->ai->SO} (h:f δ=some (.int a)) (hn:a≠b):ak (al (cB (aC bJ f (dC (.int b))) g aw)) q δ S=q δ S:=ah (aI (aX (b:=false) (by rw [ci h,OE hn]) rfl))
theorem qT {f:DS->Option W} {δ:DS} {a:Int} {S:ai} {g:DS->Option fZ} {q:DS->ai->SO} {d:W} (h:f δ=some (.int a)) (hg:g δ=some (.rt d)):ak (al (cB (aC bJ f (dC (.int a))) g aw)) q δ S=some (.rt d,S):=cR (fP (aX (b:=true) (by rw [ci h,OV rfl]) hg))
theorem rF {f:DS->Option W} {δ:DS} {a b:Int} {S:ai} {g q:DS->ai->SO} (h:f δ=some (.int a)) (hn:a≠b):ak (bv (aa (aC bJ f (dC (.int b)))) g (al aw)) q δ S=q δ S:=ah ((bH (au (by rw [ci h,OE hn]))).trans rfl)
theorem rT {f:DS->Option W} {δ:DS} {a:Int} {S S':ai} {g q:DS->ai->SO} {d:W} (h:f δ=some (.int a)) (hg:g δ S=some (.rt d,S')):ak (bv (aa (aC bJ f (dC (.int a)))) g (al aw)) q δ S=some (.rt d,S'):=cR ((cf (au (by rw [ci h,OV rfl]))).trans hg)
theorem lY (h:NH T i c nms s R) {a:Sl} {r:DS} {fk:DS->ai->SM W} {x:Str} (hk:fk (a::.val (.ref i.w)::r) T=some (.ok (.str x),T)):fN (aD (aa (ae 1)) (aa !"worth")) fk (aa !0) (a::.val (.ref i.w)::r) T=some (.ok (.int (vF s.nm x)),T):=by
 have g:=Ah (fx:=aa !0) (y:=.int 0) (nu (x:=a) (r:=r) h (Lu _ _ _ _ _)) (h.get (k:=1) rfl) hk rfl (h.get (k:=1) rfl);rw [zc] at g;exact g
theorem wO (h:NH T i c nms s R) (hn:nms.length=3) (hs:∀ x∈nms,qV x) (q:Int) (h0:0<=q/\q<2147483648):∃ t,gq [.int q,.ref i.w] T=some (.ok (.tuple [tw t,.int (vl c s.nm t)]),T)/\GT t:=by
 have r5:=b9 q (j:=5) (by decide);have d5:0<=q.fdiv 5/\q.fdiv 5<2147483648:=by rw [PB _ (by decide)];omega
 obtain ⟨x,ex,sx⟩:=Ae hn hs (q.fdiv 5);have m1:=b3 q (j:=5) (by decide);have d1:=fq q (j:=5) (by decide) (by decide);have m2:=b3 (q.fdiv 5) (j:=3) (by decide);have p3:cw (.int (q.fdiv 5)) (.int 7919007919)=some (.int (q.fdiv 5*7919007919)):=fM (fW (by omega) (by omega));have m3:=b3 (q.fdiv 5*7919007919) (j:=1999999999) (by decide);have r3:=b9 (q.fdiv 5*7919007919) (j:=1999999999) (by decide);generalize hm:(q.fdiv 5*7919007919).fmod 1999999999=m at m3 r3;generalize hw:q.fmod 5=w at m1 r5;generalize q.fdiv 5=d at *;let δ (s5:Sl):DS:=[.val (.int q),.val (.ref i.w),.val (.int w),.val (.int d),.val (.str x),s5]
 let δ5:DS:=δ (.val (.int (m-999999999)));have rv:Rg (m-999999999):=by constructor <;> omega
 have pre:∀ {O:SO},ak (al (cB (aC bJ (aA 2) !0) (aW (aR #[aR #[!"num",ae 5],ae 5])) aw))
  (ak (bv (aa (aC bJ (aA 2) !1)) (bO (ik (av (aa (aR #[!"name",ae 4])) (av (fN (aD (aa (ae 1)) (aa !"worth")) (aa (ae 4)) (aa !0)) bb)))) (al aw))
  (ak (bv (aa (aC bJ (aA 2) !2)) (bO (ik (av (aa (aR #[!"lane"])) (av (aD (aa (ae 1)) (aa !"lane")) bb)))) (al aw))
  (ak (bv (aa (aC bJ (aA 2) !3)) (bO (ik (av (aa (aR #[!"mine"])) (av (aD (aa (ae 1)) (aa !"mine")) bb)))) (al aw))
  (bO (ik (av (aa (aR #[!"+",aR #[!"name",ae 4],aR #[!"num",ae 5]])) (av (eB aH (av (yT bI (fN (aD (aa (ae 1)) (aa !"worth")) (aa (ae 4)) (aa !0)) (aa (ae 5))) bb)) bb))))))) δ5 T=O->gq [.int q,.ref i.w] T=bh O:=λ {O} hO=>by
  refine (az rfl).trans (OI bh ?_);refine (ah (δ':=[.val (.int q),.val (.ref i.w),.val (.int w),.no,.no,.no]) (aI (aT (dO rfl rfl m1) rfl))).trans ?_;refine (ah (δ':=[.val (.int q),.val (.ref i.w),.val (.int w),.val (.int d),.no,.no]) (aI (aT (dO rfl rfl d1) rfl))).trans ?_;refine (ah (δ':=δ .no) (bj (Hq (nu h (M3 _ _ _ _ _)) (au (dO rfl rfl m2)) ex) rfl)).trans ?_;exact (ah (δ':=δ5) (aI (aT (dO (dO (dO rfl rfl p3) rfl m3) rfl (iq _ _)) rfl))).trans hO
 have hw5:w=0∨w=1∨w=2∨w=3∨w=4:=by omega
 rcases hw5 with rfl | rfl | rfl | rfl | rfl
 . exact ⟨.num (m-999999999),(pre (qT rfl (aV (mU (mU rfl rfl) rfl)))).trans rfl,rV rv⟩
 . exact ⟨.nam x,(pre ((qF rfl (by decide)).trans (rT rfl (bD (o9 (au (mU rfl rfl)) (lY h rfl)))))).trans rfl,FM sx⟩
 . exact ⟨.sig 0,(pre ((qF rfl (by decide)).trans ((rF rfl (by decide)).trans (rT rfl (bD (o9 (au (Kx rfl)) (nu h (Ke _ _ _ _ _)))))))).trans rfl,vd 0⟩
 . exact ⟨.sig 2,(pre ((qF rfl (by decide)).trans ((rF rfl (by decide)).trans ((rF rfl (by decide)).trans (rT rfl (bD (o9 (au (Kx rfl)) (nu h (NP _ _ _ _ _))))))))).trans rfl,vd 2⟩
 . refine ⟨.op 0 (.nam x) (.num (m-999999999)),(pre ((qF rfl (by decide)).trans ((rF rfl (by decide)).trans ((rF rfl (by decide)).trans ((rF rfl (by decide)).trans (bD (o9 (au (uj rfl (mU rfl rfl) (mU rfl rfl))) (?_:_=some (Rs.ok (.int (vl c s.nm (.op 0 (.nam x) (.num (m-999999999))))),T))))))))).trans rfl,FR sx rv⟩;have a:yT bI (fN (aD (aa (ae 1)) (aa !"worth")) (aa (ae 4)) (aa !0)) (aa (ae 5)) δ5 T=some (.ok (.int (vF s.nm x+(m-999999999))),T):=by
    have w1:fN (aD (aa (ae 1)) (aa !"worth")) (aa (ae 4)) (aa !0) δ5 T=some (.ok (.int (vF s.nm x)),T):=lY h rfl;have w2:aa (ae 5) δ5 T=some (.ok (.int (m-999999999)),T):=rfl;simp only [yT,aq,w1,w2,d7,iL,OC]
   have b:=aE a (g:=bb) (ds:=[]) rfl;have e:vl c s.nm (.op 0 (.nam x) (.num (m-999999999)))=wr (vF s.nm x+(m-999999999)):=by simp [vl,wk,xK]
   rw [e];show eB _ _ δ5 T=_;simp only [eB,aq];rw [b];simp only [jv,iL,OC]
end
noncomputable def mx (n:Nat):Int:=if (n:Int)>1 then (n:Int) else 1
theorem xZ (n:Nat):0<mx n:=by unfold mx;split <;> omega
theorem IK {n:Nat} (h:n<=100):mx n<=100:=by unfold mx;split <;> omega
section
variable {T:ai} {i:Ni} {c:Cn} {nms:List Str} {s:As} {R:List (Nat×Ob)} {k:Nat}
theorem IZ {o:W->W->Option W} {f g:DS->ai->SM W} {δ:DS} {S S1 S2:ai} {a b r:W} (h1:f δ S=some (.ok a,S1)) (h2:g δ S1=some (.ok b,S2)) (h3:o a b=some r):yT o f g δ S=some (.ok r,S2):=by simp only [yT,aq,h1,h2,h3,iL,OC]
theorem xp (h:NH T i c nms s R) (hn:nms.length=3) (hs:∀ x∈nms,qV x) (hb:s.bx.length<=100) (hl:0<=c.lane/\c.lane<100) (q:Int) (h0:0<=q/\q<2147483648):∃ t,gt [.int q,.ref i.w] T=some (.ok (.tuple [tw t,.int (vl c s.nm t)]),T)/\GT t:=by
 have r5:=b9 q (j:=5) (by decide);obtain ⟨x,ex,sx⟩:=Ae hn hs (q.fdiv 5);have m1:=b3 q (j:=5) (by decide);have d1:=fq q (j:=5) (by decide) (by decide);have m2:=b3 (q.fdiv 5) (j:=3) (by decide);have m8:=b3 (q.fdiv 5) (j:=8) (by decide);have m32:=b3 (q.fdiv 5) (j:=32) (by decide);have r3:=b9 (q.fdiv 5) (j:=3) (by decide);have pM:=xZ s.bx.length;have mM:=b3 (q.fdiv 5) (j:=mx s.bx.length) (by omega);have rM:=b9 (q.fdiv 5) (j:=mx s.bx.length) (xZ _);have lM:=IK hb;generalize hw:q.fmod 5=w at m1 r5;generalize q.fdiv 5=d at *;let δ:DS:=[.val (.int q),.val (.ref i.w),.val (.int s.bx.length),.val (.int w),.val (.int d),.val (.str x)]
 have mxr:∀ {r:DS},AF jJ #[!1,ae 2] δ=some (.int (mx s.bx.length)):=λ {r}=>rfl;have ln:gR (aD (aa (ae 1)) (aa !"boxes")) [.val (.int q),.val (.ref i.w),.no,.no,.no,.no] T=some (.ok (.int s.bx.length),T):=by
  have:=wP (nu (x:=.val (.int q)) (r:=[.no,.no,.no,.no]) h (Kc _ _ _ _ _)) (h.get (k:=8) rfl);rw [OH] at this;exact this
 have pre:∀ {O:SO},(ak (al (cB (lX (aC bJ (aA 3) !0) (aC bJ (aB b6 (aA 4) !8) !0))
  (aW (aR #[aR #[!"num",ae 2],ae 2]))
  aw))
  (ak (al (cB (aC sO (aA 3) !2)
   (aW (aR #[aR #[!"num",aB b6 (aA 4) (AF jJ #[!1,ae 2])],aB b6 (aA 4) (AF jJ #[!1,ae 2])]))
   aw))
  (ak (bv (aa (aC bJ (aA 3) !2))
   (bO (ik (av (aa (aR #[!"+",aR #[!"lane"],aR #[!"num",aB b6 (aA 4) !3]])) (av (yT bI (aD (aa (ae 1)) (aa !"lane")) (aa (aB b6 (aA 4) !3))) bb))))
   (al aw))
  (ak (bv (aa (aC bJ (aA 3) !3))
   (bO (ik (av (aa (aR #[!"rem",aR #[!"name",ae 5],aR #[!"num",AF jJ #[!1,ae 2]]])) (av (yT b6 (fN (aD (aa (ae 1)) (aa !"worth")) (aa (ae 5)) (aa !0)) (aa (AF jJ #[!1,ae 2]))) bb))))
   (al aw))
  (ak (al (cB (aC bJ (aB b6 (aA 4) !32) !0)
   (aW (aR #[aR #[!"num",aB gSub' (aB gSub' (!0) !1) (aB b6 (aA 4) !3)],aB gSub' (aB gSub' (!0) !1) (aB b6 (aA 4) !3)]))
   aw))
  (bO (ik (av (aa (aR #[!"lane"])) (av (aD (aa (ae 1)) (aa !"lane")) bb))))))))) δ T=O->gt [.int q,.ref i.w] T=bh O:=λ {O} hO=>by
  refine (az rfl).trans (OI bh ?_);refine (ah (δ':=[.val (.int q),.val (.ref i.w),.val (.int s.bx.length),.no,.no,.no]) (bj ln rfl)).trans ?_;refine (ah (δ':=[.val (.int q),.val (.ref i.w),.val (.int s.bx.length),.val (.int w),.no,.no]) (aI (aT (dO rfl rfl m1) rfl))).trans ?_;refine (ah (δ':=[.val (.int q),.val (.ref i.w),.val (.int s.bx.length),.val (.int w),.val (.int d),.no]) (aI (aT (dO rfl rfl d1) rfl))).trans ?_;exact (ah (δ':=δ) (bj (Hq (nu h (M3 _ _ _ _ _)) (au (dO rfl rfl m2)) ex) rfl)).trans hO
 have lt2:aC sO (aA 3) (!2) δ=some (decide (w<2)):=uE (a:=.int w) rfl rfl (qC _ _);have c8:aC bJ (aB b6 (aA 4) !8) (!0) δ=some (decide (d.fmod 8=0)):=ci (dO rfl rfl m8);have c3:aC bJ (aA 3) (!0) δ=some (decide (w=0)):=ci rfl;have a0:∀ {g:DS->Option fZ} {q':DS->ai->SO},¬ (w=0/\d.fmod 8=0)->ak (al (cB (lX (aC bJ (aA 3) !0) (aC bJ (aB b6 (aA 4) !8) !0)) g aw)) q' δ T=q' δ T:=λ {g q'} hno=>by
  refine ah (aI (aX (b:=false) ?_ rfl));by_cases e:w=0
  . rw [OV e] at c3;exact dA c3 (c8.trans (by rw [OE λ z=>hno ⟨e,z⟩]))
  . rw [OE e] at c3;exact Mn c3
 have a2:∀ {g:DS->Option fZ} {q':DS->ai->SO},¬ w<2->ak (al (cB (aC sO (aA 3) !2) g aw)) q' δ T=q' δ T:=λ {g q'} hno=>ah (aI (aX (b:=false) (lt2.trans (by rw [OE hno])) rfl));by_cases e0:w=0/\d.fmod 8=0
 . have t0:lX (aC bJ (aA 3) !0) (aC bJ (aB b6 (aA 4) !8) !0) δ=some true:=dA (c3.trans (by rw [OV e0.1])) (c8.trans (by rw [OV e0.2]));exact ⟨.num s.bx.length,(pre (cR (fP (aX (b:=true) t0 (aV (mU (mU rfl rfl) rfl)))))).trans rfl,rV (by constructor <;> omega)⟩
 by_cases e2:w<2
 . exact ⟨.num (d.fmod (mx s.bx.length)),(pre ((a0 e0).trans (cR (fP (aX (b:=true) (lt2.trans (by rw [OV e2])) (aV (mU (mU rfl (dO rfl rfl mM)) (dO rfl rfl mM)))))))).trans rfl,rV (by constructor <;> omega)⟩
 have hw3:w=2∨w=3∨w=4:=by omega
 rcases hw3 with rfl | rfl | rfl
 . have e:vl c s.nm (.op 0 (.sig 0) (.num (d.fmod 3)))=c.lane+d.fmod 3:=by
    have:vl c s.nm (.op 0 (.sig 0) (.num (d.fmod 3)))=wr (c.lane+d.fmod 3):=by simp [vl,wk,xK,J8]
    rw [this];exact Dj (by constructor <;> omega)
   refine ⟨.op 0 (.sig 0) (.num (d.fmod 3)),?_,GU (by constructor <;> omega)⟩;rw [e];exact (pre ((a0 e0).trans ((a2 e2).trans (rT rfl (bD (o9 (au (uj rfl (Kx rfl) (mU rfl (dO rfl rfl m2)))) (IZ (nu h (Ke _ _ _ _ _)) (au (dO rfl rfl m2)) (d7 _ _)))))))).trans rfl
 . have rn:=b9 (vF s.nm x) (j:=mx s.bx.length) pM;have e:vl c s.nm (.op 4 (.nam x) (.num (mx s.bx.length)))=(vF s.nm x).fmod (mx s.bx.length):=by
    have:vl c s.nm (.op 4 (.nam x) (.num (mx s.bx.length)))=wr (vF s.nm x-mx s.bx.length*(vF s.nm x).fdiv (mx s.bx.length)):=by
     have nz:mx s.bx.length≠0:=by omega
     simp [vl,wk,xK,nz]
    rw [this,Fs];exact Dj (by constructor <;> omega)
   refine ⟨.op 4 (.nam x) (.num (mx s.bx.length)),?_,Gf sx (by constructor <;> omega) pM⟩;rw [e];exact (pre ((a0 e0).trans ((a2 e2).trans ((rF rfl (by decide)).trans (rT rfl (bD (o9 (au (uj rfl (mU rfl rfl) (mU rfl rfl))) (IZ (lY h rfl) rfl (b3 _ (by omega)))))))))).trans rfl
 . have c32:aB b6 (aA 4) (!32) δ=some (.int (d.fmod 32)):=dO rfl rfl m32;by_cases e32:d.fmod 32=0
   . rw [e32] at c32;exact ⟨.num (0-1-d.fmod 3),(pre ((a0 e0).trans ((a2 e2).trans ((rF rfl (by decide)).trans ((rF rfl (by decide)).trans (qT c32 (aV (mU (mU rfl (dO rfl (dO rfl rfl m2) (iq _ _))) (dO rfl (dO rfl rfl m2) (iq _ _)))))))))).trans rfl,rV (by constructor <;> omega)⟩
   . exact ⟨.sig 0,(pre ((a0 e0).trans ((a2 e2).trans ((rF rfl (by decide)).trans ((rF rfl (by decide)).trans ((qF c32 e32).trans (bD (o9 (au (Kx rfl)) (nu h (Ke _ _ _ _ _)))))))))).trans rfl,vd 0⟩
end
structure GR (r:Rw):Prop where
 ok:AD r
 ro:∀ p:Int,0<=p->p<1000->RO (cq p r) 4 500
theorem pE {p:Int} (h0:0<=p) (h1:p<1000):RO (.int p) 0 41:=RO.int (by
 have e:(10:Nat)^12=1000000000000:=by decide
 rw [e];omega)
theorem RO.up {x:W} {D w D':Nat} (h:RO x D w) (h1:D<=D'):RO x D' w:=h.mono h1 (OB _)
theorem A6 {a:Tr} (h:GT a):RO (tw (.box a)) 3 180:=(RA.cons ((p4 "box" (by simp)).up (by omega)) (RA.cons h.ro (RA.nil _))).tup.mono (OB _) (by omega)
theorem FL {a e:Tr} (ha:GT a) (he:GT e):GR (.put a e):=⟨⟨ha.ok,he.ok,by have:=ha.dp;omega,by have:=he.dp;omega⟩,λ p h0 h1=>(RA.cons (D:=3) ((p4 "put" (by simp)).up (by omega)) (RA.cons ((pE h0 h1).up (by omega)) (RA.cons (ha.ro.up (by omega)) (RA.cons (he.ro.up (by omega)) (RA.nil _))))).tup.mono (OB _) (by omega)⟩
theorem yi {a:Tr} (ha:GT a):GR (.tellB a):=⟨⟨ha.ok,by have:=ha.dp;omega⟩,λ p h0 h1=>(RA.cons (D:=3) ((p4 "tell" (by simp)).up (by omega)) (RA.cons ((pE h0 h1).up (by omega)) (RA.cons (A6 ha) (RA.nil _)))).tup.mono (OB _) (by omega)⟩
theorem Co {x:Str} (hx:qV x) {a:Tr} (ha:GT a):GR (.setB x a):=⟨⟨ha.ok,by have:=ha.dp;omega⟩,λ p h0 h1=>(RA.cons (D:=3) ((p4 "set" (by simp)).up (by omega)) (RA.cons ((pE h0 h1).up (by omega)) (RA.cons ((RO.str hx.1 hx.ok).up (by omega)) (RA.cons (A6 ha) (RA.nil _))))).tup.mono (OB _) (by omega)⟩
theorem DY {x:Str} (hx:qV x) {a:Tr} (ha:GT a):GR (.set x a):=⟨⟨ha.ok,by have:=ha.dp;omega⟩,λ p h0 h1=>(RA.cons (D:=3) ((p4 "set" (by simp)).up (by omega)) (RA.cons ((pE h0 h1).up (by omega)) (RA.cons ((RO.str hx.1 hx.ok).up (by omega)) (RA.cons (ha.ro.up (by omega)) (RA.nil _))))).tup.mono (OB _) (by omega)⟩
theorem By {a:Tr} (ha:GT a):GR (.tell a):=⟨⟨ha.ok,by have:=ha.dp;omega⟩,λ p h0 h1=>(RA.cons (D:=3) ((p4 "tell" (by simp)).up (by omega)) (RA.cons ((pE h0 h1).up (by omega)) (RA.cons (ha.ro.up (by omega)) (RA.nil _)))).tup.mono (OB _) (by omega)⟩
theorem Bg:GR .meet:=⟨trivial,λ p h0 h1=>(RA.cons (D:=3) ((p4 "meet" (by simp)).up (by omega)) (RA.cons ((pE h0 h1).up (by omega)) (RA.nil _))).tup.mono (OB _) (by omega)⟩
theorem B2 {x:Str} (hx:qV x) (w:Fin 4) {a:Tr} (ha:GT a):GR (.join x w a):=⟨⟨ha.ok,by have:=ha.dp;omega⟩,λ p h0 h1=>(RA.cons (D:=3) ((p4 "join" (by simp)).up (by omega)) (RA.cons ((pE h0 h1).up (by omega)) (RA.cons ((RO.str hx.1 hx.ok).up (by omega)) (RA.cons ((RO.str (Jm w).1 (Jm w).2).up (by omega)) (RA.cons (ha.ro.up (by omega)) (RA.nil _)))))).tup.mono (OB _) (by omega)⟩
section
variable {T:ai} {i:Ni} {c:Cn} {nms:List Str} {s:As} {R:List (Nat×Ob)} {k:Nat}
theorem Hj (h:NH T i c nms s R) {x y:Sl} {r:DS} {key:Str} {v:W} (e:d8 (iP i c nms (pf s.en) s.ov) (.inr key)=some v):aD (aa (ae 2)) (aa (dC (.str key))) (x::y::.val (.ref i.w)::r) T=some (.ok v,T):=lj (l:=i.w) rfl rfl (h.get (k:=0) rfl) e
noncomputable def N8 (c:Cn) (l:sU) (p:Int) (r:Rw):W:=.tuple [cq p r,gl (jS c l r),.int (rQ c l r)]
theorem Nn {δ:DS} {f:DS->Option W} {a b:Int} {S:ai} {g:DS->Option fZ} {q:DS->ai->SO} {d:W} (h:f δ=some (.int a)) (hn:a<b) (hg:g δ=some (.rt d)):ak (al (cB (aC sO f (dC (.int b))) g aw)) q δ S=some (.rt d,S):=cR (fP (aX (b:=true) (uE h rfl ((qC _ _).trans (by rw [OV hn]))) hg))
theorem yY {δ:DS} {f:DS->Option W} {a b:Int} {S:ai} {g:DS->Option fZ} {q:DS->ai->SO} (h:f δ=some (.int a)) (hn:¬ a<b):ak (al (cB (aC sO f (dC (.int b))) g aw)) q δ S=q δ S:=ah (aI (aX (b:=false) (uE h rfl ((qC _ _).trans (by rw [OE hn]))) rfl))
theorem yC (h:NH T i c nms s R) (hn:nms.length=3) (hs:∀ x∈nms,qV x) (hb:s.bx.length<=100) (hl:0<=c.lane/\c.lane<100) (u p:Int):∃ r,gf [.int u,.int p,.ref i.w] T=some (.ok (N8 c s.nm p r),T)/\GR r:=by
 have mr:=my u p;have mk:=my u (p+200);have e1:=ic u p;have e2:=ic u (p+200);generalize jt u p=q at mr e1;generalize jt u (p+200)=z at mk e2;obtain ⟨x,ex,sx⟩:=Ae hn hs q;have d3:0<=q.fdiv 3/\q.fdiv 3<2147483648:=by rw [PB _ (by decide)];omega
 have d15:0<=q.fdiv 15/\q.fdiv 15<2147483648:=by rw [PB _ (by decide)];omega
 obtain ⟨a,ea,ga⟩:=xp h hn hs hb hl (q.fdiv 3) d3;obtain ⟨b,eb,gb⟩:=wO h hn hs (q.fdiv 15) d15;have m10:=b3 z (j:=10) (by decide);have r10:=b9 z (j:=10) (by decide);have m3:=b3 q (j:=3) (by decide);have g3:=fq q (j:=3) (by decide) (by decide);have g15:=fq q (j:=15) (by decide) (by decide);have g7:=fq q (j:=7) (by decide) (by decide);have m4:=b3 (q.fdiv 7) (j:=4) (by decide);have r4:=b9 (q.fdiv 7) (j:=4) (by decide);generalize z.fmod 10=w at m10 r10;let δ:DS:=[.val (.int u),.val (.int p),.val (.ref i.w),.val (.int q),.val (.int w),.val (.str x),.val (.tuple [tw a,.int (vl c s.nm a)]),.val (.tuple [tw b,.int (vl c s.nm b)]),.no]
 have pre:∀ {O:SO},_=O->gf [.int u,.int p,.ref i.w] T=bh O:=λ {O} hO=>by
  refine (az rfl).trans (OI bh ?_);refine (ah (δ':=[.val (.int u),.val (.int p),.val (.ref i.w),.val (.int q),.no,.no,.no,.no,.no]) (aI (aT (mO (ds:=[.int u,.int p]) rfl e1) rfl))).trans ?_;refine (ah (δ':=[.val (.int u),.val (.int p),.val (.ref i.w),.val (.int q),.val (.int w),.no,.no,.no,.no]) (aI (aT (dO (mO (ds:=[.int u,.int (p+200)]) rfl e2) rfl m10) rfl))).trans ?_;refine (ah (δ':=[.val (.int u),.val (.int p),.val (.ref i.w),.val (.int q),.val (.int w),.val (.str x),.no,.no,.no]) (bj (Hq (Hj h (M3 _ _ _ _ _)) (au (dO rfl rfl m3)) ex) rfl)).trans ?_;refine (ah (δ':=[.val (.int u),.val (.int p),.val (.ref i.w),.val (.int q),.val (.int w),.val (.str x),.val (.tuple [tw a,.int (vl c s.nm a)]),.no,.no]) (bj (cO (ds:=[.int (q.fdiv 3),.ref i.w]) (au (fB (dO rfl rfl g3) rfl)) ea) rfl)).trans ?_;refine (ah (δ':=δ) (bj (cO (ds:=[.int (q.fdiv 15),.ref i.w]) (au (fB (dO rfl rfl g15) rfl)) eb) rfl)).trans ?_;exact hO
 have a0:6[0]! δ=some (tw a):=x0 rfl;have a1:6[1]! δ=some (.int (vl c s.nm a)):=x1 rfl;have b0:7[0]! δ=some (tw b):=x0 rfl;have b1:7[1]! δ=some (.int (vl c s.nm b)):=x1 rfl;by_cases w3:w<3
 . exact ⟨.put a b,(pre (Nn rfl w3 (aV (uj (Ly rfl rfl a0 b0) a1 b1)))).trans rfl,FL ga gb⟩
 by_cases w5:w<5
 . exact ⟨.tellB a,(pre ((yY rfl w3).trans (Nn rfl w5 (aV (uj (uj rfl rfl (mU rfl a0)) a1 rfl))))).trans rfl,yi ga⟩
 have hw:w=5∨w=6∨w=7∨w=8∨w=9:=by omega
 rcases hw with rfl | rfl | rfl | rfl | rfl
 . exact ⟨.setB x a,(pre ((yY rfl w3).trans ((yY rfl w5).trans (qT rfl (aV (uj (Ly rfl rfl rfl (mU rfl a0)) a1 rfl)))))).trans rfl,Co sx ga⟩
 . exact ⟨.set x b,(pre ((yY rfl w3).trans ((yY rfl w5).trans ((qF rfl (by decide)).trans (qT rfl (aV (uj (Ly rfl rfl rfl b0) rfl b1))))))).trans rfl,DY sx gb⟩
 . exact ⟨.meet,(pre ((yY rfl w3).trans ((yY rfl w5).trans ((qF rfl (by decide)).trans ((qF rfl (by decide)).trans (qT rfl (aV (uj (mU rfl rfl) rfl rfl)))))))).trans rfl,Bg⟩
 . obtain ⟨y,hy⟩:∃ y:Nat,(q.fdiv 7).fmod 4=y:=⟨((q.fdiv 7).fmod 4).toNat,by omega⟩
   have y4:y<4:=by omega
   rw [hy] at m4;have jat:iO [W.str "sum", .str "most", .str "least", .str "ahead"] (y:Int)=some (.str (jW ⟨y,y4⟩)):=by
    rw [zF _ _ (by simp;omega)]
    match y,y4 with
    | 0,_=>rfl
    | 1,_=>rfl
    | 2,_=>rfl
    | 3,_=>rfl
   let δ8:DS:=[.val (.int u),.val (.int p),.val (.ref i.w),.val (.int q),.val (.int 8),.val (.str x),.val (.tuple [tw a,.int (vl c s.nm a)]),.val (.tuple [tw b,.int (vl c s.nm b)]),.val (.str (jW ⟨y,y4⟩))]
   have ty:aR #[!"join",ae 1,ae 5,ae 8,7[0]!] δ8=some (cq p (.join x ⟨y,y4⟩ b)):=Hc (fB rfl (fB rfl (fB rfl (fB rfl (fB (x0 rfl) rfl))))) (by simp);exact ⟨.join x ⟨y,y4⟩ b,(pre ((yY rfl w3).trans ((yY rfl w5).trans ((qF rfl (by decide)).trans ((qF rfl (by decide)).trans ((qF rfl (by decide)).trans (qT rfl (ba (δ1:=δ8) (aT (JZ (l:=[.str "sum", .str "most", .str "least", .str "ahead"]) rfl (dO (dO rfl rfl g7) rfl m4) jat) rfl) (aV (uj ty rfl (x1 rfl))))))))))).trans rfl,B2 sx _ gb⟩
 . exact ⟨.tell b,(pre ((yY rfl w3).trans ((yY rfl w5).trans ((qF rfl (by decide)).trans ((qF rfl (by decide)).trans ((qF rfl (by decide)).trans ((qF rfl (by decide)).trans (fP (aV (uj (uj rfl rfl b0) rfl b1)))))))))).trans rfl,By gb⟩
end
noncomputable def oa (c:Cn):Int->List Rw->As->As
 | _,[],s=>s
 | p,r::rs,s=>oa c (p+1) rs (if s.ov=true then s else gM c p r s)
theorem lD (c:Cn):∀ (rs:List Rw) (p:Int) (s:As),j7 c p rs s=if (oa c p rs s).ov=true then oa c p rs s else { oa c p rs s with en:=some (Str.ofString "done", p+rs.length) }
 | [],p,s=>by simp [j7,oa]
 | r::rs,p,s=>by
  show j7 c (p+1) rs _=_;rw [lD c rs (p+1)];have e:p+1+(rs.length:Int)=p+((r::rs).length:Int):=by simp only [OF];omega
  rw [e];rfl
theorem wB:∀ (a b:List Rw) (p:Int),bL p (a++b)=bL p a++bL (p+a.length) b
 | [],b,p=>by simp [bL]
 | r::a,b,p=>by
  show cq p r::bL (p+1) (a++b)=cq p r::(bL (p+1) a++_);rw [wB a b (p+1)];congr 3;simp only [OF];omega
noncomputable def pw (s:As):Prop:=s.bx.length<=100/\∀ l∈s.lt,l.bx.length<=100
theorem pw.aft2 {s:As} (h:pw s) (c:Cn) (r:Rw):pw (nN c r s):=by
 have hl:=h.2;unfold nN;split
 . exact h
 . rename_i l L e;rw [e] at hl;exact ⟨hl l (.head _),λ x hx=>hl x (.tail _ hx)⟩
theorem pw.stp2 {s:As} (h:pw s) (c:Cn) (p:Int) (r:Rw):pw (gM c p r s):=by
 unfold gM;split
 . exact h
 . unfold dn;split
   . split
     . cases r with
       | put a e=>exact ⟨by show (s.bx.set _ _).length<=100;rw [Pu];exact h.1,h.2⟩
       | _=>exact h
     . exact h
   . cases r with
     | meet=>exact pw.aft2 (s:={ s with ln:=s.ln++[p],br:=s.br++[(p,0)] }) h c _
     | join x w e=>exact pw.aft2 (s:={ s with ln:=s.ln++[p],br:=s.br++[(p,vl c s.nm e)] }) h c _
     | _=>exact h
section
variable {c:Cn} {nms:List Str} {a0 a1 a2 a3 a4 a5 a6 a7 a8 a9:Sl}
noncomputable def dL (a0 a1 a2 a3 a4 a5 a6 a7 a8 a9:Sl) (w:Nat) (b:List W) (x1 x2 x3 x4:Sl):DS:=[a0,a1,a2,a3,a4,a5,a6,a7,a8,a9,.val (.ref w),.own b,x1,x2,x3,x4,.no,.no,.no]
theorem zI (hc:ke c) (hn:nms.length=3) (hs:∀ x∈nms,qV x) (hl:0<=c.lane/\c.lane<100):∀ (cs:List Int) (rows:List Rw) (T:ai) (i:Ni) (s:As) (R:List (Nat×Ob)) (k:Nat) (x1 x2 x3 x4:Sl),NH T i c nms s R->kc R i s->bf c k s->pw s->k+3*cs.length<5000->rows.length+cs.length<=100->
 ∃ rs T' i' R' y1 y2 y3 y4,eM (ao 12) nU (cs.map .int) (dL a0 a1 a2 a3 a4 a5 a6 a7 a8 a9 i.w (bL 2 rows) x1 x2 x3 x4) T=some (.nx (dL a0 a1 a2 a3 a4 a5 a6 a7 a8 a9 i.w (bL 2 (rows++rs)) y1 y2 y3 y4),T')/\rs.length=cs.length/\(∀ r∈rs,GR r)/\NH T' i' c nms (oa c (2+rows.length) rs s) R'/\kc R' i' (oa c (2+rows.length) rs s)/\bf c (k+3*cs.length) (oa c (2+rows.length) rs s)/\i'.w=i.w
 | [],rows,T,i,s,R,k,x1,x2,x3,x4,h,ol,ok,bo,_,_=>⟨[],T,i,R,x1,x2,x3,x4,by simp only [O9,Pa,eM],rfl,λ _ h=>absurd h Pl,h,ol,ok,rfl⟩
 | u::cs,rows,T,i,s,R,k,x1,x2,x3,x4,h,ol,ok,bo,hk,hr=>by
  simp only [OF] at hk hr;have pe:((bL 2 rows).length:Int)+2=2+rows.length:=by rw [nZ];omega
  obtain ⟨r,e1,g⟩:=yC h hn hs bo.1 hl u (2+rows.length);let p:Int:=2+rows.length;let D:=λ (b:List W) (z2 z3 z4:Sl)=>dL a0 a1 a2 a3 a4 a5 a6 a7 a8 a9 i.w b (.val (.int u)) z2 z3 z4;let z2:Sl:=.val (cq p r);let z3:Sl:=.val (gl (jS c s.nm r));let z4:Sl:=.val (.int (rQ c s.nm r));have t1:bU (bZ gf (aa #[ae 12,aB bI (kj jD (aA 11)) !2,ae 10])) (qu 3 (iX (ao 13) (iX (ao 14) (iX (ao 15) ue)))) (D (bL 2 rows) x2 x3 x4) T=some (.nx (D (bL 2 rows) z2 z3 z4),T):=by
   refine bj (cO (ds:=[.int u,.int p,.ref i.w]) (au (Oi rfl (dO (a:=.int ((bL 2 rows).length:Int)) rfl rfl ?_) rfl)) e1) rfl;rw [d7,pe]
  have t2:al (cr 11 (ae 13)) (D (bL 2 rows) z2 z3 z4) T=some (.nx (D (bL 2 rows++[cq p r]) z2 z3 z4),T):=aI (u4 (l:=bL 2 rows) rfl rfl (by rw [nZ];omega));have ra:bL 2 rows++[cq p r]=bL 2 (rows++[r]):=by rw [wB];rfl
  rw [ra] at t2;have ov:∀ {z:DS},jr (iV (aD (aa (ae 10)) (aa !"over"))) (D (bL 2 (rows++[r])) z2 z3 z4) T=some (.ok (!s.ov),T):=λ {z}=>hZ (iR (lj (l:=i.w) rfl rfl (h.get (k:=0) rfl) (Hm _ _ _ _ _)));have pre:∀ {T'},bv (jr (iV (aD (aa (ae 10)) (aa !"over")))) (aS (bZ cW (aa #[ae 10,ae 13,ae 14,ae 15]))) (al aw) (D (bL 2 (rows++[r])) z2 z3 z4) T=some (.nx (D (bL 2 (rows++[r])) z2 z3 z4),T')->nU (D (bL 2 rows) x2 x3 x4) T=some (.nx (D (bL 2 (rows++[r])) z2 z3 z4),T'):=λ {T'} e=>(ah t1).trans ((ah t2).trans e);have fe:oa c (2+rows.length) (r::(([]:List Rw))) s=(if s.ov=true then s else gM c p r s):=rfl;have step:∃ T1 i1 R1,nU (D (bL 2 rows) x2 x3 x4) T=some (.nx (D (bL 2 (rows++[r])) z2 z3 z4),T1)/\NH T1 i1 c nms (if s.ov=true then s else gM c p r s) R1/\kc R1 i1 (if s.ov=true then s else gM c p r s)/\bf c (k+3) (if s.ov=true then s else gM c p r s)/\pw (if s.ov=true then s else gM c p r s)/\i1.w=i.w:=by
   by_cases o:s.ov=true
   . simp only [o,Pj];have ov':=ov (z:=[]);rw [o] at ov';exact ⟨T,i,R,pre ((bH ov').trans rfl),h,ol,ok.up.up.up,bo,rfl⟩
   . simp only [o];have o':s.ov=false:=by simpa using o
     have ov':=ov (z:=[]);rw [o'] at ov';obtain ⟨T1,i1,R1,b,e2,h2,o2,w2⟩:=yL (p:=p) h hc ok (by omega) ol g.ok;exact ⟨T1,i1,R1,pre ((cf ov').trans (aN (cO (ds:=[.ref i.w,cq p r,gl (jS c s.nm r),.int (rQ c s.nm r)]) rfl e2))),h2,o2,ok.stp' hc p g.ok,bo.stp2 c p r,w2⟩
  obtain ⟨T1,i1,R1,e2,h2,o2,k2,b2,w2⟩:=step;obtain ⟨rs,T',i',R',y1,y2,y3,y4,e3,l3,g3,h3,o3,k3,w3⟩:=zI hc hn hs hl cs (rows++[r]) T1 i1 _ R1 (k+3) (.val (.int u)) z2 z3 z4 h2 o2 k2 b2 (by omega) (by simp;omega);have pp:(2:Int)+((rows++[r]).length:Nat)=p+1:=by simp only [PH,OF,O5,p];omega
  rw [pp] at h3 o3 k3;rw [w2] at e3 w3;refine ⟨r::rs,T',i',R',y1,y2,y3,y4,?_,by simp [l3],λ x hx=>?_,h3,o3,?_,w3⟩
  . refine (jb (δ2:=D (bL 2 rows) x2 x3 x4) rfl e2).trans ?_;rw [Qx] at e3;exact e3
  . rcases OO.mp hx with rfl | hx
    . exact g
    . exact g3 x hx
  . rw [show k+3*(u::cs).length=k+3+3*cs.length by simp only [OF];omega];exact k3
end
theorem tH {fe:DS->Option W} {δ:DS} {j:Nat} (hj:∀ k:Nat,∃ v:Int,fe (δ.set j (.val (.int k)))=some (.int v)/\Rg v):∀ (n k:Nat),∃ l:List Int,dZ (ao j) io fe δ (gn k n)=some (l.map .int)/\l.length=n/\∀ v∈l,Rg v
 | 0,k=>⟨[],rfl,rfl,λ _ h=>absurd h Pl⟩
 | n+1,k=>by
  obtain ⟨v,e1,rv⟩:=hj k;obtain ⟨l,e2,l2,r2⟩:=tH hj n (k+1);refine ⟨v::l,?_,by simp [l2],λ x hx=>?_⟩
  . rw [iu];have ek:((k+1:Nat):Int)=(k:Int)+1:=by omega
    rw [ek] at e2;have g:ao j (.int (k:Int)) δ=some (δ.set j (.val (.int k))):=rfl;have y:io (δ.set j (.val (.int (k:Int))))=some true:=rfl;simp only [dZ,g,OA,y,Pj,e1,e2,OC,OK]
  . rcases OO.mp hx with rfl | hx
    . exact rv
    . exact r2 x hx
structure LG (lane room:Nat) (l:Lt):Prop where
 br:∀ i,some i∈l.br->Rg i
 bx:∀ i∈l.bx,Rg i
 nn:ft l.br≠[]
 le:l.br.length<=8
 bl:l.bx.length=room
 a:0<=l.a/\l.a<1000
section
variable {ns:List Int} {lanes lane room many:Nat} (h8:lanes<=8) (hl:lane<lanes) (hr:room<=12) (hm:many<=5)
noncomputable abbrev dE (ns:List Int) (many lanes lane room:Nat) (L:List W) (x6 x7 x8 x9 x10 x11:Sl):DS:=[.val (.list (ns.map .int)),.val (.int many),.val (.int lanes),.val (.int lane),.val (.int room),.own L,x6,x7,x8,x9,x10,x11]
theorem vM (h8:lanes<=8) {L:List W} {j:Nat} {u:Int} {x11:Sl}:∀ (n k:Nat) (b:List (Option Int)) (x9 x10:Sl),b.length+n<=8->∃ b' y9 y10,cG (ao 9) dW (gn k n) (dE ns many lanes lane room L (.val (.int j)) (.val (.int u)) (.own (b.map gl)) x9 x10 x11)=some (.nx (dE ns many lanes lane room L (.val (.int j)) (.val (.int u)) (.own ((b++b').map gl)) y9 y10 x11))/\b'.length=n/\(∀ v,some v∈b'->Rg v)/\(k<=lane->lane<k+n->ft b'≠[])
 | 0,k,b,x9,x10,_=>⟨[],x9,x10,by simp [gn,cG],rfl,λ _ h=>absurd h Pl,λ h1 h2=>absurd h2 (by omega)⟩
 | n+1,k,b,x9,x10,hb=>by
  let q:Int:=jt u (40*(j:Int)+(k:Int)+300);have mr:=my u (40*(j:Int)+(k:Int)+300);have e1:=ic u (40*(j:Int)+(k:Int)+300);let D:=λ (o:List (Option Int)) (y10:Sl)=>dE ns many lanes lane room L (.val (.int j)) (.val (.int u)) (.own (o.map gl)) (.val (.int k)) y10 x11;have p40:cw (.int 40) (.int j)=some (.int (40*(j:Int))):=fM (fW (by decide) (by decide));have s1:bz (aZ bc #[ae 7,aB bI (aB bI (aB cw (!40) (ae 6)) (ae 9)) !300]) (ao 10) (D b x10)=some (.nx (D b (.val (.int q)))):=aT (mO (ye rfl (dO (dO (dO rfl rfl p40) rfl (d7 _ _)) rfl (d7 _ _))) e1) rfl;have m5:=b3 q (j:=5) (by decide);have d5:=fq q (j:=5) (by decide) (by decide);have dr:0<=q.fdiv 5/\q.fdiv 5<2147483648:=by
   rw [PB _ (by decide)];have a:=mr.1;have b:=mr.2;show 0<=jt u _ / 5/\jt u _ / 5<_;omega
  have p53:cw (.int (q.fdiv 5)) (.int 53)=some (.int (q.fdiv 5*53)):=fM (fW (by omega) (by omega));have mB:=b3 (q.fdiv 5*53) (j:=4294967296) (by decide);have rB:=b9 (q.fdiv 5*53) (j:=4294967296) (by decide);have c5:aC bJ (aB b6 (aA 10) !5) (!0) (D b (.val (.int q)))=some (decide (q.fmod 5=0)):=ci (dO rfl rfl m5);have cl:aC tX (aA 9) (aA 3) (D b (.val (.int q)))=some (decide (k≠lane)):=by
   have:tX (.int (k:Int)) (.int (lane:Int))=some (!decide ((k:Int)=lane)):=rfl;refine (uE (a:=.int (k:Int)) (b:=.int (lane:Int)) rfl rfl this).trans ?_;by_cases z:k=lane
   . subst z;simp
   . have:(k:Int)≠lane:=by omega
     simp [z,this]
  have ek:((k+1:Nat):Int)=(k:Int)+1:=by omega
  have fin:∀ (v:Option Int),(∀ x,v=some x->Rg x)->(k=lane->v.isSome=true)->cB (lX (aC bJ (aB b6 (aA 10) !5) !0) (aC tX (aA 9) (aA 3))) (cr 8 (dC .none)) (cr 8 (aB gSub' (aB b6 (aB cw (aB gD (aA 10) !5) !53) !4294967296) !2147483648)) (D b (.val (.int q)))=some (.nx (D (b++[v]) (.val (.int q))))->∃ b' y9 y10,cG (ao 9) dW (gn k (n+1)) (dE ns many lanes lane room L (.val (.int j)) (.val (.int u)) (.own (b.map gl)) x9 x10 x11)=some (.nx (dE ns many lanes lane room L (.val (.int j)) (.val (.int u)) (.own ((b++b').map gl)) y9 y10 x11))/\b'.length=n+1/\(∀ v,some v∈b'->Rg v)/\(k<=lane->lane<k+(n+1)->ft b'≠[]):=λ v rv sv es=>by
   obtain ⟨b',y9,y10,e3,l3,r3,n3⟩:=vM h8 (L:=L) (j:=j) (u:=u) (x11:=x11) n (k+1) (b++[v]) (.val (.int k)) (.val (.int q)) (by simp;omega);refine ⟨v::b',y9,y10,?_,by simp [l3],λ x hx=>?_,λ h1 h2=>?_⟩
   . rw [iu];rw [ek] at e3;refine (yx (δ2:=D b x10) rfl ((ba s1) es)).trans ?_;rw [Qx] at e3;exact e3
   . rcases OO.mp hx with hx | hx
     . exact rv x hx.symm
     . exact r3 x hx
   . by_cases z:k=lane
     . have:=sv z;cases v with
       | none=>cases this
       | some x=>simp [ft]
     . have:=n3 (by omega) (by omega);cases v with
       | none=>exact this
       | some x=>simp [ft]
  by_cases z:q.fmod 5=0/\k≠lane
  . refine fin none (λ x h=>by cases h) (λ h=>absurd h z.2) ?_;refine aX (b:=true) (dA (c5.trans (by rw [OV z.1])) (cl.trans (by rw [OV z.2]))) ?_;refine (u4 (l:=b.map gl) (x:=.none) rfl rfl (by simp;omega)).trans ?_;simp only [D,O3,OK,Pa];rfl
  . refine fin (some ((q.fdiv 5*53).fmod 4294967296-2147483648)) (λ x h=>by cases h;constructor <;> omega) (λ _=>rfl) ?_;have tF:lX (aC bJ (aB b6 (aA 10) !5) !0) (aC tX (aA 9) (aA 3)) (D b (.val (.int q)))=some false:=by
     by_cases z1:q.fmod 5=0
     . exact dA (c5.trans (by rw [OV z1])) (cl.trans (by rw [OE λ h=>z ⟨z1,h⟩]))
     . exact Mn (c5.trans (by rw [OE z1]))
    refine aX (b:=false) tF ?_;refine (u4 (l:=b.map gl) (x:=.int ((q.fdiv 5*53).fmod 4294967296-2147483648)) rfl (dO (dO (dO (dO rfl rfl d5) rfl p53) rfl mB) rfl (iq _ _)) (by simp;omega)).trans ?_;simp only [D,O3,OK,Pa];rfl
end
section
variable {ns:List Int} {lanes lane room many:Nat}
theorem EX {i:Nat} {δ:DS}:lK i (ff aj) δ=some (.nx (δ.set i (.own []))):=by
 have z:=sz 0 (by decide);simp only [lK,ff,aj,OA,O5,OG z,OC]
theorem u2 (h8:lanes<=8) (hl:lane<lanes) (hr:room<=12):∀ (n j:Nat) (L:List Lt) (x6 x7 x8 x9 x10 x11:Sl),L.length+n<=5->∃ L' y6 y7 y8 y9 y10 y11,cG (ao 6) fL (gn j n) (dE ns many lanes lane room (L.map dS) x6 x7 x8 x9 x10 x11)=some (.nx (dE ns many lanes lane room ((L++L').map dS) y6 y7 y8 y9 y10 y11))/\L'.length=n/\∀ l∈L',LG lane room l
 | 0,j,L,x6,x7,x8,x9,x10,x11,_=>⟨[],x6,x7,x8,x9,x10,x11,by simp [gn,cG],rfl,λ _ h=>absurd h Pl⟩
 | n+1,j,L,x6,x7,x8,x9,x10,x11,hL=>by
  let u:Int:=df ns (4+7*j)+df ns 2;have p7:cw (.int 7) (.int j)=some (.int (7*(j:Int))):=fM (fW (by decide) (by decide));have c4:=gE ns (4+7*j);rw [show ((4+7*j:Nat):Int)=4+7*(j:Int) by omega] at c4;have s1:bz (aB bI (aZ aY #[ae 0,aB bI (!4) (aB cw (!7) (ae 6))]) (aZ aY #[ae 0,!2])) (ao 7) (dE ns many lanes lane room (L.map dS) (.val (.int j)) x7 x8 x9 x10 x11)=some (.nx (dE ns many lanes lane room (L.map dS) (.val (.int j)) (.val (.int u)) x8 x9 x10 x11)):=aT (dO (mO (ye rfl (dO rfl (dO rfl rfl p7) (d7 _ _))) c4) (mO (ye rfl rfl) (gE ns 2)) (d7 _ _)) rfl;obtain ⟨b,y9,y10,e3,l3,r3,n3⟩:=vM (ns:=ns) (many:=many) (lane:=lane) (room:=room) h8 (L:=L.map dS) (j:=j) (u:=u) (x11:=x11) lanes 0 [] x9 x10 (by simpa using h8);rw [Qs] at e3;have s3:qg (jh #[ae 2]) (ao 9) dW (dE ns many lanes lane room (L.map dS) (.val (.int j)) (.val (.int u)) (.own []) x9 x10 x11)=some (.nx (dE ns many lanes lane room (L.map dS) (.val (.int j)) (.val (.int u)) (.own (b.map gl)) y9 y10 x11)):=by
   show (jh _ _).bind _=_;rw [ph (n:=lanes) rfl (by omega),OA];exact e3
  have p40:cw (.int 40) (.int j)=some (.int (40*(j:Int))):=fM (fW (by decide) (by decide));obtain ⟨bx,e4,l4,r4⟩:=tH (fe:=aB gSub' (aB b6 (aB cw (aZ bc #[ae 0,aB bI (aB bI (aB cw (!40) (ae 1)) (ae 2)) !320]) !11) !4294967296) !2147483648) (δ:=[.val (.int u),.val (.int j),.no]) (j:=2) (λ k=>by
   have mr:=my u (40*(j:Int)+(k:Int)+320);have e1:=ic u (40*(j:Int)+(k:Int)+320);generalize jt u (40*(j:Int)+(k:Int)+320)=q at mr e1;have p11:cw (.int q) (.int 11)=some (.int (q*11)):=fM (fW (by omega) (by omega));have mB:=b3 (q*11) (j:=4294967296) (by decide);have rB:=b9 (q*11) (j:=4294967296) (by decide);exact ⟨(q*11).fmod 4294967296-2147483648,dO (dO (dO (mO (ye rfl (dO (dO (dO rfl rfl p40) rfl (d7 _ _)) rfl (d7 _ _))) e1) rfl p11) rfl mB) rfl (iq _ _),by constructor <;> omega⟩) room 0
  have s4:bz (cn (iG [some 7,some 6,none] (jh #[ae 4]) (ao 2) io (aB gSub' (aB b6 (aB cw (aZ bc #[ae 0,aB bI (aB bI (aB cw (!40) (ae 1)) (ae 2)) !320]) !11) !4294967296) !2147483648))) (ao 11) (dE ns many lanes lane room (L.map dS) (.val (.int j)) (.val (.int u)) (.own (b.map gl)) y9 y10 x11)=some (.nx (dE ns many lanes lane room (L.map dS) (.val (.int j)) (.val (.int u)) (.own (b.map gl)) y9 y10 (.val (.list (bx.map .int))))):=aT (Kb (ds:=gn 0 room) (ph (n:=room) rfl (by omega)) (by simp [gn];omega) e4) rfl;have m1:=ic u ((j:Int)+290);have m2:=b3 (jt u ((j:Int)+290)) (j:=200) (by decide);have r2:=b9 (jt u ((j:Int)+290)) (j:=200) (by decide);let l:Lt:=⟨1+(jt u ((j:Int)+290)).fmod 200,b,bx⟩
  have s5:lO 8 (cr 5 (aR #[aB bI (!1) (aB b6 (aZ bc #[ae 7,aB bI (aA 6) !290]) !200),ae 8,ae 11])) (dE ns many lanes lane room (L.map dS) (.val (.int j)) (.val (.int u)) (.own (b.map gl)) y9 y10 (.val (.list (bx.map .int))))=some (.nx (dE ns many lanes lane room ((L++[l]).map dS) (.val (.int j)) (.val (.int u)) (.val (.list (b.map gl))) y9 y10 (.val (.list (bx.map .int))))):=by
   show cr 5 _ (dE ns many lanes lane room (L.map dS) (.val (.int j)) (.val (.int u)) (.val (.list (b.map gl))) y9 y10 (.val (.list (bx.map .int))))=_;refine (u4 (l:=L.map dS) (x:=dS l) rfl (uj (dO rfl (dO (mO (ye rfl (dO rfl rfl (d7 _ _))) m1) rfl m2) (d7 _ _)) rfl rfl) (by simp;omega)).trans ?_;simp only [O3,OK,Pa];rfl
  obtain ⟨L',z6,z7,z8,z9,z10,z11,e6,l6,g6⟩:=u2 h8 hl hr n (j+1) (L++[l]) (.val (.int j)) (.val (.int u)) (.val (.list (b.map gl))) y9 y10 (.val (.list (bx.map .int))) (by simp;omega);refine ⟨l::L',z6,z7,z8,z9,z10,z11,?_,by simp [l6],λ x hx=>?_⟩
  . rw [iu];have ek:((j+1:Nat):Int)=(j:Int)+1:=by omega
    rw [ek] at e6;have body:fL (dE ns many lanes lane room (L.map dS) (.val (.int j)) x7 x8 x9 x10 x11)=some (.nx (dE ns many lanes lane room ((L++[l]).map dS) (.val (.int j)) (.val (.int u)) (.val (.list (b.map gl))) y9 y10 (.val (.list (bx.map .int))))):=by
     refine ba s1 ?_;refine ba (δ1:=dE ns many lanes lane room (L.map dS) (.val (.int j)) (.val (.int u)) (.own []) x9 x10 x11) EX ?_;refine ba s3 ?_;exact ba s4 s5
    refine (yx (δ2:=dE ns many lanes lane room (L.map dS) (.val (.int j)) x7 x8 x9 x10 x11) rfl body).trans ?_;rw [Qx] at e6;exact e6
  . rcases OO.mp hx with rfl | hx
    . exact ⟨r3,r4,n3 (O8 _) (by omega),by show b.length<=8;omega,l4,by show 0<=1+_/\1+_<_;omega⟩
    . exact g6 x hx
theorem ul (h8:lanes<=8) (hl:lane<lanes) (hr:room<=12) (hm:many<=5):∃ L:List Lt,gO [.list (ns.map .int),.int many,.int lanes,.int lane,.int room]=some (.list (L.map dS))/\L.length=many/\∀ l∈L,LG lane room l:=by
 obtain ⟨L,y6,y7,y8,y9,y10,y11,e,l1,g⟩:=u2 (ns:=ns) (many:=many) h8 hl hr many 0 [] .no .no .no .no .no .no (by simpa using hm);refine ⟨L,?_,l1,g⟩;refine eG rfl ?_;refine ba (δ1:=dE ns many lanes lane room [] .no .no .no .no .no .no) EX ?_;refine ba (δ1:=dE ns many lanes lane room (L.map dS) y6 y7 y8 y9 y10 y11) ?_ rfl;show (jh _ _).bind _=_;rw [ph (n:=many) rfl (by omega),OA];exact e
theorem Bh {l:List (Option Int)} (h:∀ i,some i∈l->Rg i):RA (l.map gl) 0 (42*l.length):=by
 induction l with
 | nil=>exact RA.nil _
 | cons x l ih=>
  have r:RO (gl x) 0 41:=by
   cases x with
   | none=>exact RO.none.mono (OB _) (by omega)
   | some i=>exact RO.int (yW (h i (.head _)))
  exact (RA.cons r (ih λ i hi=>h i (.tail _ hi))).mono (OB _) (by simp only [OF];omega)
theorem Bj {l:List Int} (h:∀ i∈l,Rg i):RA (l.map W.int) 0 (42*l.length):=by
 induction l with
 | nil=>exact RA.nil _
 | cons x l ih=>exact (RA.cons (RO.int (yW (h x (.head _)))) (ih λ i hi=>h i (.tail _ hi))).mono (OB _) (by simp only [OF];omega)
theorem Ir {l:Lt} (hr:room<=12) (h:LG lane room l):RO (dS l) 2 1000:=by
 have a:=(Bh h.br).lst;have b:=(Bj h.bx).lst;have c:=pE h.a.1 h.a.2;have h1:=h.le;have h2:=h.bl;exact (RA.cons (D:=1) (c.up (by omega)) (RA.cons a (RA.cons b (RA.nil _)))).tup.mono (OB _) (by omega)
theorem Ef {L:List Lt} (hr:room<=12) (h:∀ l∈L,LG lane room l):RA (L.map dS) 2 (1001*L.length):=by
 induction L with
 | nil=>exact RA.nil _
 | cons x l ih=>exact (RA.cons (Ir hr (h x (.head _))) (ih λ i hi=>h i (.tail _ hi))).mono (OB _) (by simp only [OF];omega)
theorem wm:∀ {rs:List Rw} {p:Int},(∀ r∈rs,GR r)->0<=p->p+rs.length<1000->RA (bL p rs) 4 (501*rs.length)
 | [],_,_,_,_=>RA.nil _
 | r::rs,p,h,h0,h1=>by
  simp only [OF] at h1;exact (RA.cons ((h r (.head _)).ro p h0 (by omega)) (wm (p:=p+1) (λ x hx=>h x (.tail _ hx)) (by omega) (by omega))).mono (OB _) (by simp only [OF];omega)
theorem AW {rs:List Rw} (h:∀ r∈rs,GR r) (hl:rs.length<=100):RO (.list [sZ rs]) 7 60000:=by
 have b:=(wm (p:=2) h (by omega) (by omega)).lst;have n1:=pE (p:=1) (by omega) (by omega);have n2:=pE (p:=2+(rs.length:Int)) (by omega) (by omega);have m:RO (sZ rs) 6 50300:=(RA.cons (D:=5) ((p4 "main" (by simp)).up (by omega)) (RA.cons (((RA.nil 0).lst).up (by omega)) (RA.cons b (RA.cons (n1.up (by omega)) (RA.cons (n2.up (by omega)) (RA.nil _)))))).tup.mono (OB _) (by omega);exact (RA.cons m (RA.nil _)).lst.mono (OB _) (by omega)
end
noncomputable def Vw (T:ai) (l:List (Nat×Ob)):Prop:=∀ x∈l,T[x.1]?=some x.2
section
variable {T:ai} {l l':List (Nat×Ob)} {k i:Nat} {o:Ob}
theorem Vw.get (h:Vw T l) (e:l[k]?=some (i,o)):T[i]?=some o:=h _ (Pb e)
theorem Vw.app (h:Vw T l) (X:ai):Vw (T++X) l:=λ x hx=>by
 have:=h x hx;rw [OR (oG this).1];exact this
end
theorem uc {S:ai} {l:Nat} {es:List W} (h:S[l]?=some (.lst es)) (hi:∀ d∈es,∃ i,d=W.int i):∀ (f i:Nat),es.length-i<f->cg (l,.l) (ao 0) (aa (AA (wR (pU (kj (ku "int") (ae 0)))) (pU (kj (ku "bool") (ae 0))))) (aa (ae 0)) [.no] f i S=some (.ok [],S)
 | 0,i,hf=>by omega
 | f+1,i,hf=>by
  have le:ot S (l,.l)=some es:=by simp [ot,dh,h]
  cases hd:es[i]? with
  | none=>simp only [cg,le,OA,hd]
  | some d=>
   obtain ⟨j,rfl⟩:=hi d (Pb hd);have hl:i<es.length:=(oG hd).1;have t:aa (AA (wR (pU (kj (ku "int") (ae 0)))) (pU (kj (ku "bool") (ae 0)))) [.val (.int j)] S=some (.ok false,S):=rfl;have g:ao 0 (.int j) [.no]=some [.val (.int j)]:=rfl;simp only [cg,le,OA,hd,g,aq,t,Pw,Qp];exact uc h hi f (i+1) (by omega)
theorem qj {S:ai} {l:Nat} {es:List W} (h:S[l]?=some (.lst es)) (hi:∀ d∈es,∃ i,d=W.int i) (hl:es.length<8000):ca [.ref l] S=some (.ok (.bool true),S):=by
 have z:=sz 9000 (by decide);have lv:m9 (aa (ae 0)) [.val (.ref l)] S=some (.ok (l,.l),S):=by
  have:aa (ae 0) [.val (.ref l)] S=some (.ok (.ref l),S):=rfl;simp only [m9,aq,this,fj h,OC]
 have cp:pi 9000 [none] (m9 (aa (ae 0))) (ao 0) (aa (AA (wR (pU (kj (ku "int") (ae 0)))) (pU (kj (ku "bool") (ae 0))))) (aa (ae 0)) [.val (.ref l)] S=some (.ok (.list []),S):=by
  have e:bP [none] [Sl.val (.ref l)]=[.no]:=rfl;simp only [pi,aq,lv,OG z,e,uc h hi 9000 0 (by omega)]
 refine (az rfl).trans ((OI bh (?_:_=some (.rt (.bool true),S))).trans rfl);exact bD (vT (Kt (a:=0) (b:=0) (JJ cp) rfl))
theorem rY {T:ai} {n:Nat} {G:List (Nat×Ob)} (hG:Vw T G):∀ {I:List Nat} {X:List (List (Bool×Int×Int))},jX tO n G I X->kA (mC T 23) (I.map W.ref)=W.pys (X.map λ l=>W.list (l.map iM))
 | [],[],_=>rfl
 | i::I,l::X,h=>by
  have ih:=rY hG h.2;have g:T[i]?=some (.lst (l.map iM)):=hG _ h.1.2;have tk:∀ x:Bool×Int×Int,im (iM x)=true/\eA (iM x)<=1:=λ x=>by
   obtain ⟨b,y,z⟩:=x;have e1:PyData.strOk (Str.ofString "put")=true:=by decide +kernel
   have e2:PyData.strOk (Str.ofString "get")=true:=by decide +kernel
   cases b
   . exact ⟨by simp [iM,im,gi,e2],by simp [iM,eA,eK]⟩
   . exact ⟨by simp [iM,im,gi,e1],by simp [iM,eA,eK]⟩
  obtain ⟨k1,k2⟩:=dy tk l;have p1:mC T 23 (.ref i)=(W.list (l.map iM)).py:=by
   show (dh T i).bind _=_;rw [show dh T i=some (l.map iM) by simp [dh,g]];show (kA (mC T 22) (l.map iM)).map PyData.list=_;rw [jP T 22 _ k1 (by omega)];rfl
  show (mC T 23 (.ref i)).bind _=(W.py (.list (l.map iM))).bind _;rw [p1];show _=(W.py (.list (l.map iM))).bind λ a=>(W.pys (X.map λ l=>W.list (l.map iM))).map (a::·);rw [<-ih]
 | [],_::_,h=>h.elim
 | _::_,[],h=>h.elim
theorem Gz (X:List (List (Bool×Int×Int))):gi (X.map λ l=>W.list (l.map iM))=true/\eK (X.map λ l=>W.list (l.map iM))<=2:=dy (λ l=>by
 have tk:∀ x:Bool×Int×Int,im (iM x)=true/\eA (iM x)<=1:=λ x=>by
  obtain ⟨b,y,z⟩:=x;have e1:PyData.strOk (Str.ofString "put")=true:=by decide +kernel
  have e2:PyData.strOk (Str.ofString "get")=true:=by decide +kernel
  cases b
  . exact ⟨by simp [iM,im,gi,e2],by simp [iM,eA,eK]⟩
  . exact ⟨by simp [iM,im,gi,e1],by simp [iM,eA,eK]⟩
 obtain ⟨k1,k2⟩:=dy tk l;exact ⟨by simpa [im] using k1,by simp only [eA];omega⟩) X
theorem BN {T:ai} {n m:Nat} {G G':List (Nat×Ob)} {a b:Nat} {I J:List Nat} {X:List (List (Bool×Int×Int))} (hG:Vw T G) (hG':Vw T G') (h:jX tO n G I X) (h':jX tO m G' J X) (ea:T[a]?=some (.lst (I.map .ref))) (eb:T[b]?=some (.lst (J.map .ref))):lh false (.ref a) (.ref b) T=some true:=by
 obtain ⟨k1,k2⟩:=Gz X;obtain ⟨xs,e1,e2,e3,e4⟩:=jR _ k1;have p1:mC T 24 (.ref a)=some (.list xs):=by
  show (dh T a).bind _=_;rw [show dh T a=some (I.map .ref) by simp [dh,ea]];show (kA (mC T 23) (I.map .ref)).map PyData.list=_;rw [rY hG h,e1];rfl
 have p2:mC T 24 (.ref b)=some (.list xs):=by
  show (dh T b).bind _=_;rw [show dh T b=some (J.map .ref) by simp [dh,eb]];show (kA (mC T 23) (J.map .ref)).map PyData.list=_;rw [rY hG' h',e1];rfl
 unfold lh;show (mC T 24 (.ref a)).bind _=_;rw [p1,p2];simp [PyData.canLay0,e2,PyData.depth,e3,PyData.eqv,e4];omega
theorem D2:∀ l:List (Int×Int),Ij (uB l)=some l
 | []=>rfl
 | (a,b)::l=>by
  show (Ij (uB l)).map ((a,b)::·)=_;rw [D2 l];rfl
theorem rJ {T:ai} {n:Nat} {G:List (Nat×Ob)} (hG:Vw T G):∀ {I:List Nat} {X:List (List (Int×Int))},jX pO n G I X->Jk T (I.map W.ref)=some X
 | [],[],_=>rfl
 | i::I,l::X,h=>by
  have ih:=rJ hG h.2;have g:T[i]?=some (.dK (uB l)):=hG _ h.1.2;show (oK (.ref i) T).bind _=_;rw [uh g];simp only [OA,D2,ih,OC]
 | [],_::_,h=>h.elim
 | _::_,[],h=>h.elim
theorem Bu {T:ai} {n m:Nat} {G G':List (Nat×Ob)} {a b:Nat} {I J:List Nat} {X:List (List (Int×Int))} (hG:Vw T G) (hG':Vw T G') (h:jX pO n G I X) (h':jX pO m G' J X) (ea:T[a]?=some (.lst (I.map .ref))) (eb:T[b]?=some (.lst (J.map .ref))):Br (.ref a) (.ref b) T=some true:=by
 simp only [Br,fj ea,fj eb,OA,rJ hG h,rJ hG' h',Pj]
theorem se (l:List Nat) (x:Nat):lU l x=(l++[x]).map .ref:=by simp [lU]
theorem jX.app {α:Type} {f:α->Ob} {n:Nat} {G:List (Nat×Ob)} {I:List Nat} {X:List α} (h:jX f n G I X) {i:Nat} {x:α} (h1:n<=i) (h2:(i,f x)∈G):jX f n G (I++[i]) (X++[x]):=jX.snoc ⟨h1,h2⟩ h
theorem lZ {neg b:Bool} {fo fi:DS->ai->SM W} {δ:DS} {S S1 S2:ai} {x y:W} (h1:fo δ S=some (.ok x,S1)) (h2:fi δ S1=some (.ok y,S2)) (h3:lh neg x y S2=some b):kd neg fo fi δ S=some (.ok b,S2):=by simp only [kd,aq,h1,h2,h3,iL,OC]
theorem Ja {s:As} (h:∀ x,s.en=some x->x.1∈[Str.ofString "tired", Str.ofString "outside", Str.ofString "done"]):im (pf s.en)=true/\eA (pf s.en)<=1:=by
 cases e:s.en with
 | none=>exact ⟨rfl,O8 _⟩
 | some x=>
  have m:=h x e;have k:∀ y∈[Str.ofString "tired", Str.ofString "outside", Str.ofString "done"],PyData.strOk y=true:=by decide +kernel
  exact ⟨by simp [pf,im,gi,k _ m],by simp [pf,eA,eK]⟩
theorem IJ (x:Int×Int):im (uC x)=true/\eA (uC x)<=1:=⟨by simp [uC,im,gi],by simp [uC,eA,eK]⟩
theorem qP {T:ai} {n:Nat} {c c':Cn} {j:Ct} {s:As} {R R':List (Nat×Ob)} {i:Ni} {nms:List Str} (h:Vw T (gL n c j s R)) (o:mJ n R j s) (h':Vw T (nL i c' nms s R')) (o':kc R' i s) (he:∀ x,s.en=some x->x.1∈[Str.ofString "tired", Str.ofString "outside", Str.ofString "done"]) (l1:s.td.length<7000) (l2:s.ln.length<7000):∃ X,cX [.ref (n+10),.ref i.w] T=some (.ok (.bool true),T++X):=by
 let δ:DS:=[.val (.ref (n+10)),.val (.ref i.w)]
 have ng:∀ {U:ai} {key:Str} {v:W},Vw U (nL i c' nms s R')->d8 (iP i c' nms (pf s.en) s.ov) (.inr key)=some v->aD (aa (ae 1)) (aa (dC (.str key))) δ U=some (.ok v,U):=λ hU e=>lj (l:=i.w) rfl rfl (hU.get (k:=0) rfl) e;obtain ⟨i1,i2⟩:=dy (f:=W.int) o5 s.td;obtain ⟨i3,i4⟩:=dy (f:=W.int) o5 s.ln;obtain ⟨i5,i6⟩:=dy IJ s.br;obtain ⟨i7,i8⟩:=Ja he;have ti:∀ (l:List Int),∀ d∈l.map W.int,∃ i,d=W.int i:=λ l d hd=>by
  obtain ⟨x,_,rfl⟩:=Pp.mp hd;exact ⟨x,rfl⟩
 have a1:kd true (ar "Story" "told" (aa (ae 0))) (aD (aa (ae 1)) (aa !"told")) δ T=some (.ok false,T):=lZ (bg v0 (h.get (k:=9) rfl) (Jf _ _ _)) (ng h' (MQ _ _ _ _ _)) (sd true (h.get (k:=10) rfl) (h'.get (k:=2) rfl) i1 (by omega));have a2:jr (iV (bZ ca (av (ar "Story" "told" (aa (ae 0))) bb))) δ T=some (.ok false,T):=hZ (iR (cO (aE (bg v0 (h.get (k:=9) rfl) (Jf _ _ _)) rfl) (qj (h.get (k:=10) rfl) (ti _) (by rw [OH];omega))));have a3:kd true (ar "Story" "end" (aa (ae 0))) (aD (aa (ae 1)) (aa !"end")) δ T=some (.ok false,T):=lZ (bg v0 (h.get (k:=9) rfl) (Kp _ _ _)) (ng h' (Mg _ _ _ _ _)) (tQ true i7 (by omega));have b1:kd true (ar "Story" "lines" (aa (ae 0))) (aD (aa (ae 1)) (aa !"lines")) δ T=some (.ok false,T):=lZ (bg v0 (h.get (k:=9) rfl) (Ms _ _ _)) (ng h' (KG _ _ _ _ _)) (sd true (h.get (k:=14) rfl) (h'.get (k:=3) rfl) i3 (by omega));let T1:ai:=T++[.lst [.int s.ln.length]];have h1:=h.app [.lst [.int s.ln.length]];have ls:bd (av (ar "Story" "steps" (aa (ae 0))) bb) δ T=some (.ok (.ref T.length),T1):=by
  have z:=sz 1 (by decide);have:=aE (bg (c := "Story") (f := "steps") (v0 (x:=.ref (n+10)) (r:=[.val (.ref i.w)])) (h.get (k:=9) rfl) (KR _ _ _)) (g:=bb) (ds:=[]) rfl;simp only [bd,aq];rw [this];simp only [OF,O5,OG z];rfl
 have gT:T1[T.length]?=some (.lst [.int s.ln.length]):=by simp [T1]
 let T2:ai:=T1++[.lst (s.ln.map .int++[.int s.ln.length])];have ad:um (ar "Story" "lines" (aa (ae 0))) (bd (av (ar "Story" "steps" (aa (ae 0))) bb)) δ T=some (.ok (.ref T1.length),T2):=by
  have f:ar "Story" "lines" (aa (ae 0)) δ T=some (.ok (.ref (n+15)),T):=bg v0 (h.get (k:=9) rfl) (Ms _ _ _);have g1:T1[n+15]?=some (.lst (s.ln.map .int)):=h1.get (k:=14) rfl;simp only [um,aq,f,ls,fj g1,fj gT,OA];rw [OG (by simp;omega)]
 have b2:jr (iV (bZ ca (av (um (ar "Story" "lines" (aa (ae 0))) (bd (av (ar "Story" "steps" (aa (ae 0))) bb))) bb))) δ T=some (.ok false,T2):=by
  have e:s.ln.map W.int++[.int (s.ln.length:Int)]=(s.ln++[(s.ln.length:Int)]).map W.int:=by simp
  refine hZ (iR (cO (aE ad rfl) (qj (es:=s.ln.map .int++[.int s.ln.length]) (by simp [T2]) (by rw [e];exact ti _) (by simp;omega))))
 have h2:Vw T2 (gL n c j s R):=(h.app _).app _;have h2':Vw T2 (nL i c' nms s R'):=(h'.app _).app _;have d1:kd true (ar "Story" "steps" (aa (ae 0))) (gR (aD (aa (ae 1)) (aa !"lines"))) δ T2=some (.ok false,T2):=by
  have q:=wP (ng h2' (KG _ _ _ _ _)) (h2'.get (k:=3) rfl);rw [OH] at q;exact lZ (bg v0 (h2.get (k:=9) rfl) (KR _ _ _)) q (tQ true rfl (by simp [eA]))
 have d2:kd true (ar "Story" "brought" (aa (ae 0))) (aD (aa (ae 1)) (aa !"brought")) δ T2=some (.ok false,T2):=lZ (bg v0 (h2.get (k:=9) rfl) (Mr _ _ _)) (ng h2' (Ia _ _ _ _ _)) (sd true (h2.get (k:=11) rfl) (h2'.get (k:=4) rfl) i5 (by omega));have sub:∀ x∈R,x∈gL n c j s R:=λ x hx=>by simp [gL,hx]
 have sub':∀ x∈R',x∈nL i c' nms s R':=λ x hx=>by simp [nL,hx]
 have oT:=(o.tc.mono sub).app o.t (x:=s.tn) (by simp [gL,tO]);have oP:=(o.pt.mono sub).app o.p (x:=s.pn) (by simp [gL,pO]);have oT':=(o'.tc.mono sub').app (O8 i.t) (x:=s.tn) (by simp [nL,tO]);have oP':=(o'.pt.mono sub').app (O8 i.p) (x:=s.pn) (by simp [nL,pO]);have g1:kd false (ar "Story" "touches" (aa (ae 0))) (aD (aa (ae 1)) (aa !"touches")) δ T2=some (.ok true,T2):=lZ (bg v0 (h2.get (k:=9) rfl) (Jt _ _ _)) (ng h2' (Cc _ _ _ _ _)) (BN h2 h2' oT oT' (by rw [<-se];exact h2.get (k:=12) rfl) (by rw [<-se];exact h2'.get (k:=5) rfl));have g2:xn (ar "Story" "puts" (aa (ae 0))) (aD (aa (ae 1)) (aa !"puts")) δ T2=some (.ok true,T2):=by
  have q:=Bu h2 h2' oP oP' (a:=n+14) (b:=i.t5) (by rw [<-se];exact h2.get (k:=13) rfl) (by rw [<-se];exact h2'.get (k:=6) rfl);have f1:ar "Story" "puts" (aa (ae 0)) δ T2=some (.ok (.ref (n+14)),T2):=bg v0 (h2.get (k:=9) rfl) (KI _ _ _);have f2:=ng h2' (GO i c' nms (pf s.en) s.ov);simp only [xn,aq,f1,f2,q,iL,OC]
 refine ⟨[.lst [.int s.ln.length]]++[.lst (s.ln.map .int++[.int s.ln.length])],(az rfl).trans ((OI bh (?_:_=some (.rt (.bool true),T2))).trans (by simp only [T2,T1,Qx];rfl))⟩;refine (ah (δ':=δ) ((bH (qE a1 (qE a2 a3))).trans rfl)).trans ?_;refine (ah (δ':=δ) ((bH (qE b1 b2)).trans rfl)).trans ?_;refine (ah (δ':=δ) ((bH (qE d1 d2)).trans rfl)).trans ?_;have bt:=vT g1;have bp:=vT g2;refine bD ?_;simp only [wj,aq,bt,zy,OA,Pj,bp]
noncomputable def fg (x:Str):Prop:=∀ c∈x.cps.toList,c<1114112
theorem fg.app {x y:Str} (h:fg x) (h':fg y):fg (x++y):=λ c hc=>by
 have e:(x++y).cps=x.cps++y.cps:=rfl;rw [e,Array.toList_append] at hc;rcases Pe.mp hc with hc | hc
 . exact h c hc
 . exact h' c hc
theorem CZ (c:Char):c.toNat<1114112:=by
 have:=c.valid;have h:c.toNat=c.val.toNat:=rfl;rcases this with h1 | h1
 . have:c.val.toNat<0xd800:=h1;omega
 . have:c.val.toNat<0x110000:=h1.2;omega
theorem fg.of (s:String):fg (Str.ofString s):=λ c hc=>by
 rw [Str.ofString_eq_toList] at hc;simp only [Pp] at hc;obtain ⟨d,_,rfl⟩:=hc;exact CZ d
theorem fg.join {s:Str} (hs:fg s):∀ {l:List Str},(∀ x∈l,fg x)->fg (Str.join s l)
 | [],_=>λ c hc=>absurd hc (by simp [Str.join,Str.empty])
 | [x],h=>h x (.head _)
 | x::y::l,h=>by
  have ih:=fg.join hs (l:=y::l) λ z hz=>h z (.tail _ hz);exact ((h x (.head _)).app hs).app ih
theorem Ey {q c:Nat} (hq:q<1114112) (hc:c<1114112):∀ d∈PySem.Builtin.Str.reprChar q c,d<1114112:=by
 have hx:∀ (w:Nat),∀ d∈List.replicate (w-((Nat.toDigits 16 c).map Char.toNat).length) 48++(Nat.toDigits 16 c).map Char.toNat,d<1114112:=λ w d hd=>by
  rcases Pe.mp hd with hd | hd
  . rw [(List.mem_replicate.mp hd).2];decide
  . obtain ⟨e,_,rfl⟩:=Pp.mp hd;exact CZ e
 unfold PySem.Builtin.Str.reprChar;dsimp only;intro d hd
 repeat' split at hd
 all_goals (simp only [Pe,OO,Pl,or_false] at hd)
 . omega
 . omega
 . omega
 . omega
 . omega
 . rcases hd with hd | hd
   . omega
   . exact hx 2 d (Pe.mpr hd)
 . rcases hd with hd | hd
   . omega
   . exact hx 4 d (Pe.mpr hd)
 . rcases hd with hd | hd
   . omega
   . exact hx 8 d (Pe.mpr hd)
theorem fg.repr {x:Str} (h:fg x):fg (reprText x):=by
 have hq:reprQuote x<1114112:=by unfold reprQuote;split <;> decide
 have fo:∀ (l:List Nat) (acc:Array Nat),(∀ c∈l,c<1114112)->(∀ c∈acc.toList,c<1114112)->∀ c∈(l.foldl (λ out c=>out++(PySem.Builtin.Str.reprChar (reprQuote x) c).toArray) acc).toList,c<1114112:=by
  intro l;induction l with
  | nil=>exact λ acc _ ha=>ha
  | cons d l ih=>
   intro acc hl ha;refine ih _ (λ c hc=>hl c (.tail _ hc)) λ c hc=>?_;rw [Array.toList_append] at hc;rcases Pe.mp hc with hc | hc
   . exact ha c hc
   . exact Ey hq (hl d (.head _)) c (by simpa using hc)
 intro c hc;unfold reprText at hc;simp only [Array.toList_push,Pe,Px] at hc;rcases hc with hc | rfl
 . rw [<-Array.foldl_toList] at hc;exact fo x.cps.toList (List.toArray [reprQuote x]) h (λ c hc=>by
    simp only [Px] at hc;rw [hc];exact hq) c hc
 . exact hq
theorem fg.ok {x:Str} (h:fg x):PyData.strOk x=true:=by
 simp only [PyData.strOk];rw [P5];intro c hc;have:=h c (P1.mpr hc);simp;omega
theorem HG {x:Str} (h:PyData.strOk x=true):fg x:=by
 simp only [PyData.strOk] at h;rw [P5] at h;intro c hc;have:=h c (P1.mp hc);simpa using this
mutual
theorem Ip:∀ (d:W),im d=true->∀ a,d.py=some a->fg a.shown
 | .none,_,a,e=>by
  cases e;rw [PyData.shown_none];exact fg.of _
 | .bool b,_,a,e=>by
  cases e;rw [PyData.shown_bool];cases b <;> exact fg.of _
 | .int i,_,a,e=>by
  cases e;rw [PyData.shown_int];exact fg.of _
 | .str x,h,a,e=>by
  cases e;rw [PyData.shown_str];exact (HG h).repr
 | .list ds,h,a,e=>by
  obtain ⟨xs,e1,rfl⟩:=oM (show (W.pys ds).map PyData.list=some a from e)
  rw [PyData.shown_list];exact ((fg.of _).app (fg.join (fg.of _) (zq ds (by simpa [im] using h) xs e1))).app (fg.of _)
 | .tuple ds,h,a,e=>by
  obtain ⟨xs,e1,rfl⟩:=oM (show (W.pys ds).map PyData.tuple=some a from e)
  rw [PyData.shown_tuple];refine ((fg.of _).app (fg.join (fg.of _) (zq ds (by simpa [im] using h) xs e1))).app ?_;exact fg.of _
 | .ref _,h,_,_=>by simp [im] at h
theorem zq:∀ (ds:List W),gi ds=true->∀ xs,W.pys ds=some xs->∀ t∈PyData.shownAll xs,fg t
 | [],_,xs,e,t,ht=>by
  cases e;rw [PyData.shownAll_nil] at ht;exact absurd ht Pl
 | d::ds,h,xs,e,t,ht=>by
  have h':im d=true/\gi ds=true:=by simpa [gi] using h
  obtain ⟨a,e1,e⟩:=oB (show (W.py d).bind (λ a=>(W.pys ds).map (a::·))=some xs from e)
  obtain ⟨ys,e2,rfl⟩:=oM e
  rw [PyData.shownAll_cons] at ht;rcases OO.mp ht with rfl | ht
  . exact Ip d h'.1 a e1
  . exact zq ds h'.2 ys e2 t ht
end
mutual
theorem y0:∀ (d:W) (a:PyData),d.py=some a->a.canLay0=true->im d=true
 | .none,_,_,_=>rfl
 | .bool b,_,_,_=>rfl
 | .int i,_,_,_=>rfl
 | .str x,a,e,h=>by
  cases e;simpa [PyData.canLay0,im] using h
 | .list ds,a,e,h=>by
  obtain ⟨xs,e1,rfl⟩:=oM (show (W.pys ds).map PyData.list=some a from e)
  simpa [im] using rC ds xs e1 (by simpa [PyData.canLay0] using h)
 | .tuple ds,a,e,h=>by
  obtain ⟨xs,e1,rfl⟩:=oM (show (W.pys ds).map PyData.tuple=some a from e)
  simpa [im] using rC ds xs e1 (by simpa [PyData.canLay0] using h)
 | .ref _,a,e,_=>by cases e
theorem rC:∀ (ds:List W) (xs:List PyData),W.pys ds=some xs->PyData.canLayAll0 xs=true->gi ds=true
 | [],_,_,_=>rfl
 | d::ds,xs,e,h=>by
  obtain ⟨a,e1,e⟩:=oB (show (W.py d).bind (λ a=>(W.pys ds).map (a::·))=some xs from e)
  obtain ⟨ys,e2,rfl⟩:=oM e
  have h':a.canLay0=true/\PyData.canLayAll0 ys=true:=by simpa [PyData.canLayAll0] using h
  simp [gi,y0 d a e1 h'.1,rC ds ys e2 h'.2]
end
theorem ut {l:List W} {D w:Nat} (h:RO (.list l) D w) (hD:D<=60) (hw:w<=1000000):∃ sh,ua (.list l)=some (.str sh)/\PyData.strOk sh=true:=by
 obtain ⟨a,ea,r⟩:=h;have rd:=r.d;have rw':=r.w;have e20:(2:Nat)^20=1048576:=by decide
 have ly:PyData.layable0 a=true:=by
  simp only [PyData.layable0,OL,OX];exact ⟨⟨r.ly,by omega⟩,by rw [e20];omega⟩
 have okr:kI a=true:=by
  simp only [kI,OL,OX,Bool.not_eq_true'];exact ⟨⟨⟨r.sh,PyData.hasDict_of_canLay a r.ly⟩,by omega⟩,PyData.shown_fits_of_layable0 (by decide) (by decide) ly r.is⟩
 refine ⟨a.shown,?_,(Ip _ (y0 _ a ea r.ly) a ea).ok⟩;unfold ua;rw [ea];simp only [OA,OG okr]
noncomputable def jp (s:As):Prop:=∀ x,s.en=some x->x.1∈[Str.ofString "tired", Str.ofString "outside", Str.ofString "done"]
theorem jp.aft2 {s:As} (h:jp s) (c:Cn) (r:Rw):jp (nN c r s):=by
 unfold nN;split <;> exact h
theorem jp.stp2 {s:As} (h:jp s) (c:Cn) (p:Int) (r:Rw):jp (gM c p r s):=by
 unfold gM;split
 . intro x hx;cases hx;exact .head _
 . unfold dn;split
   . split
     . cases r <;> exact h
     . intro x hx;cases hx;exact .tail _ (.head _)
   . cases r with
     | meet=>exact jp.aft2 (s:={ s with ln:=s.ln++[p],br:=s.br++[(p,0)] }) h c _
     | join x w e=>exact jp.aft2 (s:={ s with ln:=s.ln++[p],br:=s.br++[(p,vl c s.nm e)] }) h c _
     | _=>exact h
theorem jp.fld2 (c:Cn):∀ (rs:List Rw) (p:Int) {s:As},jp s->jp (oa c p rs s)
 | [],_,_,h=>h
 | r::rs,p,s,h=>by
  refine jp.fld2 c rs (p+1) (s:=if s.ov=true then s else gM c p r s) ?_;split
  . exact h
  . exact h.stp2 c p r
theorem jp.rn (c:Cn) (rs:List Rw) (p:Int) {s:As} (h:jp s):jp (j7 c p rs s):=by
 rw [lD];split
 . exact jp.fld2 c rs p h
 . intro x hx;cases hx;exact .tail _ (.tail _ (.head _))
theorem tq (c:Cn) (d:List (bn×W)) (l:sU):∀ t,vl { c with defs:=d } l t=vl c l t
 | .num _=>rfl
 | .nam _=>rfl
 | .sig _=>rfl
 | .op k a b=>by
  show (wk k (vl { c with defs:=d } l a) (vl { c with defs:=d } l b)).getD 0=_;rw [tq c d l a,tq c d l b];rfl
 | .box _=>rfl
theorem Ed (c:Cn) (d:List (bn×W)) (p:Int) (r:Rw) (s:As):gM { c with defs:=d } p r s=gM c p r s:=by
 have hp:∀ l,jS { c with defs:=d } l r=jS c l r:=λ l=>by cases r <;> simp only [jS,tq]
 have hb:∀ i s,A9 { c with defs:=d } p r i s=A9 c p r i s:=λ i s=>by cases r <;> simp only [A9,tq]
 have ho:∀ s,oth { c with defs:=d } p r s=oth c p r s:=λ s=>by cases r <;> simp only [oth,tq] <;> rfl
 unfold gM dn;simp only [hp,hb,ho]
theorem zt (c:Cn) (d:List (bn×W)):∀ (rs:List Rw) (p:Int) (s:As),oa { c with defs:=d } p rs s=oa c p rs s
 | [],_,_=>rfl
 | r::rs,p,s=>by
  show oa _ (p+1) rs (if s.ov=true then s else gM { c with defs:=d } p r s)=oa c (p+1) rs (if s.ov=true then s else gM c p r s);rw [Ed,zt c d rs]
theorem Jp (c:Cn) (d:List (bn×W)) (rs:List Rw) (p:Int) (s:As):j7 { c with defs:=d } p rs s=j7 c p rs s:=by rw [lD,lD,zt]
theorem E8 {c:Cn} (h:ke c) (d:List (bn×W)):ke { c with defs:=d }:=⟨h.a,h.b,h.m,h.z⟩
noncomputable def Hf:Int:=1000000000000000000000000000000000000000000000000000000000000
noncomputable def IS:Int:=500000000000000000000000000000000000000000000000000000000000
theorem Oc:lV (.int 10) (.int 60)=some (.int Hf):=by kernel_rfl
theorem NT:lV (.int 10) (.int 59)=some (.int 100000000000000000000000000000000000000000000000000000000000):=by kernel_rfl
theorem Ov:cw (.int 5) (.int 100000000000000000000000000000000000000000000000000000000000)=some (.int IS):=by kernel_rfl
theorem MP (δ:DS):aB lV (!10) (!60) δ=some (.int Hf):=dO rfl rfl Oc
theorem Nt (δ:DS):aB cw (!5) (aB lV (!10) !59) δ=some (.int IS):=dO rfl (dO rfl rfl NT) Ov
theorem Nm:Hf≠0:=by decide
theorem qh (ns:List Int):∀ (n k:Nat),k+n<=100->∃ l:List Int,dZ (ao 1) io (aB gSub' (aB b6 (aB bI (aB cw (aZ aY #[ae 0,ae 1]) (aB bI (aA 1) !3)) (aB cw (aA 1) !977)) (aB lV (!10) !60)) (aB cw (!5) (aB lV (!10) !59))) [.val (.list (ns.map .int)),.no] (gn k n)=some (l.map .int)/\l.length=n
 | 0,k,_=>⟨[],rfl,rfl⟩
 | n+1,k,h=>by
  obtain ⟨l,e,hl⟩:=qh ns n (k+1) (by omega);let δ:DS:=[.val (.list (ns.map .int)),.val (.int k)]
  have c1:=gE ns k;have m1:cw (.int (df ns k)) (.int ((k:Int)+3))=some (.int (df ns k*(k+3))):=fM (si (by omega) (by omega));have m2:cw (.int (k:Int)) (.int 977)=some (.int ((k:Int)*977)):=fM (si (by omega) (by omega));have v:aB gSub' (aB b6 (aB bI (aB cw (aZ aY #[ae 0,ae 1]) (aB bI (aA 1) !3)) (aB cw (aA 1) !977)) (aB lV (!10) !60)) (aB cw (!5) (aB lV (!10) !59)) δ=some (.int ((df ns k*(k+3)+k*977).fmod Hf-IS)):=
   dO (dO (dO (dO (mO (ds:=[.list (ns.map .int),.int k]) rfl c1) (dO rfl rfl (d7 _ _)) m1) (dO rfl rfl m2) (d7 _ _)) (MP _) (b3 _ Nm)) (Nt _) (iq _ _)
  refine ⟨((df ns k*(k+3)+k*977).fmod Hf-IS)::l,?_,by simp [hl]⟩;rw [iu];have ek:((k+1:Nat):Int)=(k:Int)+1:=by omega
  rw [ek] at e;have g:ao 1 (.int (k:Int)) [.val (.list (ns.map .int)),.no]=some δ:=rfl;have y:io δ=some true:=rfl;simp only [dZ,g,OA,y,Pj,v,e,OC,OK]
theorem qJ (S:ai):∀ (bx:List Int),cY (ao 0) (aa io) (aa (aZ aH #[ae 0])) [.no] (bx.map .int) S=some (.ok (bx.map λ i=>.int (wr i)),S)
 | []=>rfl
 | i::bx=>by
  have ih:=qJ S bx;have m:aa (aZ aH #[ae 0]) [.val (.int i)] S=some (.ok (.int (wr i)),S):=au (mO (ds:=[.int i]) rfl (jv i));have y:aa io [.val (.int i)] S=some (.ok true,S):=rfl;show (ao 0 (W.int i) [.no]).bind _=_;simp only [ao,OW,OA,y,aq,Pj,m,ih,OK]
theorem lx {kfs:List (Str×(DS->ai->SM W))} {δ:DS} {S S1:ai} {kvs m:List (bn×W)} (h:nh kfs δ S=some (.ok kvs,S1)) (hl:kvs.length<=15) (hm:dP [] kvs=m):fI kfs δ S=some (.ok (.ref S1.length),S1++[.dK m]):=by simp only [fI,aq,h,OG hl,hm]
theorem fV {k:Str} {f:DS->ai->SM W} {r:List (Str×(DS->ai->SM W))} {δ:DS} {S S1 S2:ai} {d:W} {l:List (bn×W)} (h1:f δ S=some (.ok d,S1)) (h2:nh r δ S1=some (.ok l,S2)):nh ((k,f)::r) δ S=some (.ok ((.inr k,d)::l),S2):=by simp only [nh,aq,h1,h2]
theorem rR {fo fe:DS->ai->SM W} {δ:DS} {S S2:ai} {n m:Nat} {a a' b r:List (bn×W)} (h1:fo δ S=some (.ok (.ref n),S)) (h2:S[n]?=some (.dK a')) (h3:fe δ S=some (.ok (.ref m),S2)) (h4:S2[n]?=some (.dK a)) (h5:S2[m]?=some (.dK b)) (ne:n≠m) (hz:a≠[]) (hl:a.length+b.length<=9000) (hr:dP a b=r):lg fo fe δ S=some (.ok .none,S2.set n (.dK r)):=by
 have q:n≠m/\a≠[]/\a.length+b.length<=9000:=⟨ne,hz,hl⟩
 simp only [lg,aq,h1,uh h2,Qj,Pj,h3,uh h4,uh h5,OA];rw [OG q,hr]
noncomputable def i0:Ni:={ w:=1,g:=0,b:=2,l:=3,t1:=5,t2:=6,t3:=7,t4:=9,t5:=12,t:=8,p:=11,tI:=[],pI:=[] }
noncomputable def vi (lane mine:Int):List (bn×W):=[(.inr (Str.ofString "worth"),.ref 0),(.inr (Str.ofString "lane"),.int lane),(.inr (Str.ofString "mine"),.int mine)]
noncomputable def oh (lane mine:Int) (nms:List Str):List (bn×W):=vi lane mine++[(.inr (Str.ofString "names"),.list (nms.map .str))]
noncomputable def lG (most:Int):List (bn×W):=[(.inr (Str.ofString "boxes"),.ref 2),(.inr (Str.ofString "letters"),.ref 3),(.inr (Str.ofString "most"),.int most)]
noncomputable def sS:List (bn×W):=[(.inr (Str.ofString "told"),.ref 5),(.inr (Str.ofString "lines"),.ref 6),(.inr (Str.ofString "brought"),.ref 7),(.inr (Str.ofString "touches"),.ref 9)]
noncomputable def Ge:List (bn×W):=[(.inr (Str.ofString "puts"),.ref 12),(.inr (Str.ofString "end"),.none),(.inr (Str.ofString "over"),.bool false)]
section
variable (lane mine most:Int) (nms:List Str)
theorem Oq:dP [] (vi lane mine)=vi lane mine:=by kernel_rfl
theorem NB:eX (vi lane mine) (.inr (Str.ofString "names")) (.list (nms.map .str))=oh lane mine nms:=by kernel_rfl
theorem Me:dP [] (lG most)=lG most:=by kernel_rfl
theorem NQ:dP (oh lane mine nms) (lG most)=oh lane mine nms++lG most:=by kernel_rfl
theorem M7:dP [] sS=sS:=by kernel_rfl
theorem Ow:dP (oh lane mine nms++lG most) sS=oh lane mine nms++lG most++sS:=by kernel_rfl
theorem Mw:dP [] Ge=Ge:=by kernel_rfl
theorem NA (c:Cn):dP (oh c.lane c.mine nms++lG c.most++sS) Ge=iP i0 c nms .none false:=by kernel_rfl
end
noncomputable def DJ (c:Cn) (nms:List Str) (hb:List Int) (L:List Lt):ai:=[.dK [],.dK (iP i0 c nms .none false),.lst (hb.map λ i=>.int (wr i)),.lst (L.map dS),.dK (lG c.most),.lst [],.lst [],.lst [],.lst [],.lst [.ref 8],.dK sS,.dK [],.lst [.ref 11],.dK Ge]
theorem BZ (c:Cn) (nms:List Str) (hb:List Int) (L:List Lt):NH (DJ c nms hb L) i0 c nms (kJ hb L) []:=by
 have a:=gy.app (S:=[]) (F:=[]) ⟨List.nodup_nil,λ _ h=>absurd h Pl⟩ (M:=DJ c nms hb L) (ks:=[1,0,5,6,7,9,12,3,2,8,11]) (by decide) (by simp [DJ]);refine a.cast ?_;simp only [nL,kJ,i0,DJ,OK,Pa,P4];rfl
section
variable (ns hb:List Int) (L:List Lt) (nms:List Str) (F lanes lane room mine third most:Int)
noncomputable def dN (x10 x11:Sl):DS:=[.val (.list (ns.map .int)),.val (.int F),.val (.int lanes),.val (.int lane),.val (.int room),.val (.int mine),.val (.list (hb.map .int)),.val (.int third),.val (.list (L.map dS)),.val (.int most),x10,x11,.no,.no,.no,.no,.no,.no,.no]
theorem sL {δ:DS} {S:ai}:nh [] δ S=some (.ok [],S):=rfl
theorem Od:fI [(Str.ofString "worth", uA),(Str.ofString "lane", (aa (ae 3))),(Str.ofString "mine", (aa (aZ aH #[ae 5])))] (dN ns hb L F lanes lane room mine third most .no .no) []=some (.ok (.ref 1),[.dK [],.dK (vi lane (wr mine))]):=by
 have m:aa (aZ aH #[ae 5]) (dN ns hb L F lanes lane room mine third most .no .no) [.dK []]=some (.ok (.int (wr mine)),[.dK []]):=au (mO (ds:=[.int mine]) rfl (jv mine));have v:=fV (k:=Str.ofString "worth") (uR (δ:=dN ns hb L F lanes lane room mine third most .no .no) (S:=[])) (fV (k:=Str.ofString "lane") (f:=aa (ae 3)) (d:=.int lane) (S1:=[.dK []]) rfl (fV (k:=Str.ofString "mine") m sL));exact lx (m:=vi lane (wr mine)) v (by simp) (Oq _ _)
theorem DX (h:hb.length<=100):lg (aa (ae 10)) (fI [(Str.ofString "boxes", (iQ [none] (aa (bX (ae 6))) (ao 0) (aa io) (aa (aZ aH #[ae 0])))),(Str.ofString "letters", (ig (aa (ae 8)))),(Str.ofString "most", (aa (ae 9)))]) (dN ns hb L F lanes lane room mine third most (.val (.ref 1)) .no) [.dK [],.dK (oh lane (wr mine) nms)]=some (.ok .none,[.dK [],.dK (oh lane (wr mine) nms++lG most),.lst (hb.map λ i=>.int (wr i)),.lst (L.map dS),.dK (lG most)]):=by
 let δ:=dN ns hb L F lanes lane room mine third most (.val (.ref 1)) .no;let S0:ai:=[.dK [],.dK (oh lane (wr mine) nms)]
 have cb:iQ [none] (aa (bX (ae 6))) (ao 0) (aa io) (aa (aZ aH #[ae 0])) δ S0=some (.ok (.ref 2),S0++[.lst (hb.map λ i=>.int (wr i))]):=by
  have z:(hb.map W.int).length<=sizeLine:=sz _ (by rw [OH];omega);have s:aa (bX (ae 6)) δ S0=some (.ok (hb.map .int),S0):=rfl;have g:cY (ao 0) (aa io) (aa (aZ aH #[ae 0])) (bP [none] δ) (hb.map .int) S0=some (.ok (hb.map λ i=>.int (wr i)),S0):=qJ _ _;unfold iQ;rw [s];simp only [aq,OG z];rw [g];rfl
 have ds:fI [(Str.ofString "boxes", (iQ [none] (aa (bX (ae 6))) (ao 0) (aa io) (aa (aZ aH #[ae 0])))),(Str.ofString "letters", (ig (aa (ae 8)))),(Str.ofString "most", (aa (ae 9)))] δ S0=some (.ok (.ref 4),[.dK [],.dK (oh lane (wr mine) nms),.lst (hb.map λ i=>.int (wr i)),.lst (L.map dS),.dK (lG most)]):=by
  have v:=fV (k:=Str.ofString "boxes") cb (fV (k:=Str.ofString "letters") (vt (fo:=aa (ae 8)) (S1:=S0++[.lst (hb.map λ i=>.int (wr i))]) (es:=L.map dS) rfl) (fV (k:=Str.ofString "most") (f:=aa (ae 9)) (d:=.int most) (S1:=S0++[.lst (hb.map λ i=>.int (wr i))]++[.lst (L.map dS)]) rfl sL));exact lx (m:=lG most) v (by simp) (Me _)
 exact rR (n:=1) rfl rfl ds rfl rfl (by decide) (by simp [oh,vi]) (by simp [oh,vi,lG]) (NQ _ _ _ _)
theorem NE (c:Cn):lg (aa (ae 10)) (fI [(Str.ofString "told", (bd (aa aj))),(Str.ofString "lines", (bd (aa aj))),(Str.ofString "brought", (bd (aa aj))),(Str.ofString "touches", (bd (av (bd (aa aj)) bb)))]) (dN ns hb L F lanes lane room mine third most (.val (.ref 1)) .no) [.dK [],.dK (oh c.lane c.mine nms++lG c.most),.lst (hb.map λ i=>.int (wr i)),.lst (L.map dS),.dK (lG c.most)]=some (.ok .none,[.dK [],.dK (oh c.lane c.mine nms++lG c.most++sS),.lst (hb.map λ i=>.int (wr i)),.lst (L.map dS),.dK (lG c.most),.lst [],.lst [],.lst [],.lst [],.lst [.ref 8],.dK sS]):=by
 let δ:=dN ns hb L F lanes lane room mine third most (.val (.ref 1)) .no;let S0:ai:=[.dK [],.dK (oh c.lane c.mine nms++lG c.most),.lst (hb.map λ i=>.int (wr i)),.lst (L.map dS),.dK (lG c.most)]
 have tl:bd (av (bd (aa aj)) bb) δ (S0++[.lst []]++[.lst []]++[.lst []])=some (.ok (.ref 9),(S0++[.lst []]++[.lst []]++[.lst []])++[.lst []]++[.lst [.ref 8]]):=by
  have z:=sz 1 (by decide);have b:=aE (oW (δ:=δ) (S:=S0++[.lst []]++[.lst []]++[.lst []])) (g:=bb) (ds:=[]) rfl;simp only [bd,aq] at b ⊢;rw [b];simp only [OF,O5,OG z];rfl
 have ds:fI [(Str.ofString "told", (bd (aa aj))),(Str.ofString "lines", (bd (aa aj))),(Str.ofString "brought", (bd (aa aj))),(Str.ofString "touches", (bd (av (bd (aa aj)) bb)))] δ S0=some (.ok (.ref 10),[.dK [],.dK (oh c.lane c.mine nms++lG c.most),.lst (hb.map λ i=>.int (wr i)),.lst (L.map dS),.dK (lG c.most),.lst [],.lst [],.lst [],.lst [],.lst [.ref 8],.dK sS]):=by
  have v:=fV (k:=Str.ofString "told") (oW (δ:=δ) (S:=S0)) (fV (k:=Str.ofString "lines") (oW (S:=S0++[.lst []])) (fV (k:=Str.ofString "brought") (oW (S:=S0++[.lst []]++[.lst []])) (fV (k:=Str.ofString "touches") tl sL)));exact lx (m:=sS) v (by simp) M7
 exact rR (n:=1) rfl rfl ds rfl rfl (by decide) (by simp [oh,vi]) (by simp [oh,vi,lG,sS]) (Ow _ _ _ _)
theorem CD (c:Cn):lg (aa (ae 10)) (fI [(Str.ofString "puts", (bd (av uA bb))),(Str.ofString "end", (aa (dC .none))),(Str.ofString "over", (aa (dC (.bool false))))]) (dN ns hb L F lanes lane room mine third most (.val (.ref 1)) .no) [.dK [],.dK (oh c.lane c.mine nms++lG c.most++sS),.lst (hb.map λ i=>.int (wr i)),.lst (L.map dS),.dK (lG c.most),.lst [],.lst [],.lst [],.lst [],.lst [.ref 8],.dK sS]=some (.ok .none,DJ c nms hb L):=by
 let δ:=dN ns hb L F lanes lane room mine third most (.val (.ref 1)) .no;let S0:ai:=[.dK [],.dK (oh c.lane c.mine nms++lG c.most++sS),.lst (hb.map λ i=>.int (wr i)),.lst (L.map dS),.dK (lG c.most),.lst [],.lst [],.lst [],.lst [],.lst [.ref 8],.dK sS]
 have tl:bd (av uA bb) δ S0=some (.ok (.ref 12),S0++[.dK []]++[.lst [.ref 11]]):=by
  have z:=sz 1 (by decide);have b:=aE (uR (δ:=δ) (S:=S0)) (g:=bb) (ds:=[]) rfl;simp only [bd,aq];rw [b];simp only [OF,O5,OG z];rfl
 have ds:fI [(Str.ofString "puts", (bd (av uA bb))),(Str.ofString "end", (aa (dC .none))),(Str.ofString "over", (aa (dC (.bool false))))] δ S0=some (.ok (.ref 13),[.dK [],.dK (oh c.lane c.mine nms++lG c.most++sS),.lst (hb.map λ i=>.int (wr i)),.lst (L.map dS),.dK (lG c.most),.lst [],.lst [],.lst [],.lst [],.lst [.ref 8],.dK sS,.dK [],.lst [.ref 11],.dK Ge]):=by
  have v:=fV (k:=Str.ofString "puts") tl (fV (k:=Str.ofString "end") (f:=aa (dC .none)) (d:=.none) (S1:=S0++[.dK []]++[.lst [.ref 11]]) rfl (fV (k:=Str.ofString "over") (f:=aa (dC (.bool false))) (d:=.bool false) (S1:=S0++[.dK []]++[.lst [.ref 11]]) rfl sL));exact lx (m:=Ge) v (by simp) Mw
 exact rR (n:=1) rfl rfl ds rfl rfl (by decide) (by simp [oh,vi]) (by simp [oh,vi,lG,sS,Ge]) (NA _ _)
end
theorem gy.appX {T:ai} {l:List (Nat×Ob)} (h:gy T l) (X:ai):gy (T++X) l:=⟨h.1,λ x hx=>by
 rw [OR (h.lt hx)];exact h.2 x hx⟩
theorem gy.oth {T:ai} {l:List (Nat×Ob)} {k k' i i':Nat} {o o' o'':Ob} (h:gy T l) (e:l[k]?=some (i,o)) (e':l[k']?=some (i',o'')) (hk:k≠k'):(T.set i o')[i']?=some o'':=(h.set e o').get (k:=k') (by rw [OU hk];exact e')
noncomputable def kC (k:Nat) (s:As):Prop:=∀ l∈s.tc,l.length<=k
theorem kC.stp2 {c:Cn} {k:Nat} {s:As} (h:kC k s) (ok:bf c k s) (p:Int) (r:Rw):kC (k+3) (gM c p r s):=by
 have h3:kC (k+3) s:=λ l hl=>Nat.le_add_right_of_le (h l hl);have af:∀ (w:Rw) (s':As),s'.tc=s.tc->s'.tn=s.tn->kC (k+3) (nN c w s'):=λ w s' e1 e2=>by
  unfold nN;split
  . intro l hl;exact h3 l (e1▸hl)
  . intro l hl;have hl:l∈s'.tc++[s'.tn]:=hl;rw [e1,e2] at hl;rcases Pe.mp hl with hl | hl
    . exact h3 l hl
    . rw [Px.mp hl];have:=ok.n5;omega
 unfold gM;split
 . exact h3
 . unfold dn;split
   . split
     . cases r <;> exact h3
     . exact h3
   . cases r with
     | meet=>exact af _ _ rfl rfl
     | join x w e=>exact af _ _ rfl rfl
     | _=>exact h3
theorem kC.fld2 {c:Cn} (hc:ke c):∀ (rs:List Rw) (p:Int) (k:Nat) (s:As),kC k s->bf c k s->(∀ r∈rs,GR r)->kC (k+3*rs.length) (oa c p rs s)
 | [],_,_,_,h,_,_=>h
 | r::rs,p,k,s,h,ok,g=>by
  have ih:=kC.fld2 hc rs (p+1) (k+3) (if s.ov=true then s else gM c p r s) (by
   split
   . exact λ l hl=>Nat.le_add_right_of_le (h l hl)
   . exact h.stp2 ok p r) (by
   split
   . exact ok.up.up.up
   . exact ok.stp' hc p (g r (.head _)).ok) (λ x hx=>g x (.tail _ hx))
  rw [show k+3*(r::rs).length=k+3+3*rs.length by simp only [OF];omega];exact ih
theorem Gu {n:Nat} {c:Cn} {j:Ct} {s:As} {R:List (Nat×Ob)} {x:Nat×Ob} (h:x∈R):∃ m,(gL n c j s R)[18+m]?=some x:=by
 obtain ⟨m,e⟩:=Qo.mp h;refine ⟨m,?_⟩;rw [Nat.add_comm 18 m];exact e
theorem Cs {T:ai} {n:Nat} {c:Cn} {j:Ct} {s:As} {R:List (Nat×Ob)} {k:Nat} (h:GH T n c j s R) (o:mJ n R j s) (ht:kC k s) (hn:s.tn.length<=k):∃ t0 l0 q,(lU j.tI j.t)[0]?=some (.ref t0)/\(gL n c j s R)[q]?=some (t0,.lst l0)/\l0.length<=k/\n<=t0/\16<=q:=by
 have o1:=o.tc;cases e:j.tI with
 | nil=>exact ⟨j.t,s.tn.map iM,16,rfl,rfl,by simpa using hn,o.t,by omega⟩
 | cons i I=>
  rw [e] at o1;cases e2:s.tc with
  | nil=>rw [e2] at o1;exact o1.elim
  | cons x X=>
   rw [e2] at o1;obtain ⟨m,em⟩:=Gu (n:=n) (c:=c) (j:=j) (s:=s) o1.1.2;exact ⟨i,x.map iM,18+m,rfl,em,by rw [OH];exact ht x (by rw [e2];exact .head _),o1.1.1,by omega⟩
noncomputable abbrev LK:DS->ai->SO:=(ak (bv (jr (iV (aD (aa (ae 10)) (aa !"over"))))
 (bE (aa (ae 10)) (aa !"end") (aa (aR #[!"done",aB bI (kj jD (aA 11)) !2])))
 (al aw))
 (ak (al (lO 11 (bz (cn (ff #[aR #[!"main",cn (ff aj),ae 11,!1,aB bI (kj jD (aA 11)) !2]])) (ao 16))))
 (ak (al (bz (cn (ff #[cn (lF (aA 6)),gG (ae 16),gG (ae 8)])) (ao 17)))
 (ak (bU (bZ gY (aa #[ae 16,ae 3,ae 2,ae 5,ae 6,ae 9,ae 8])) (ao 18))
 (ak (bv (wI (jr (iV (bZ cX (aa #[ae 18,ae 10])))) (aa (aC tX (cn (ff #[ae 6,gG (ae 16),gG (ae 8)])) (aA 17))))
  (al (aW (dC (.bool false))))
  (al aw))
 (ak (aQ (sIx (ar "Story" "touches" (aa (ae 18))) (aa !0)) (aa (aR #[!"put",!0,!1])))
 (ak (aQ (ar "Story" "brought" (aa (ae 18))) (aa (aR #[!0,!0])))
 (bO (bZ cX (av (bZ gY (aa #[ae 16,ae 3,ae 2,ae 5,ae 6,ae 9,ae 8])) (av (aa (ae 10)) bb)))))))))))
theorem K7 {f:DS->Option (List W)} {δ:DS} {l:List W} (h:f δ=some l) (hl:l.length<=9000):cn (ff f) δ=some (.list l):=by
 have z:=sz _ hl;simp only [cn,ff,h,OA,OG z,OC]
theorem og {f:DS->Option W} {δ:DS} {x y:W} (h:f δ=some x) (h2:ua x=some y):gG f δ=some y:=by simp only [gG,h,OA,h2]
theorem zS (rs:List Rw) (lane lanes mine most:Int) (s:As):j7 (pB rs lane lanes mine most) 2 rs s=j7 (pB [] lane lanes mine most) 2 rs s:=Jp (pB [] lane lanes mine most) _ rs 2 s
section
variable {ns hb:List Int} {L:List Lt} {nms:List Str} {F lanes lane room mine third most:Int}
noncomputable def dM (ns hb:List Int) (L:List Lt) (F lanes lane room mine third most:Int) (x10 x11 y1 y2 y3 y4 y5 y6 y7:Sl):DS:=[.val (.list (ns.map .int)),.val (.int F),.val (.int lanes),.val (.int lane),.val (.int room),.val (.int mine),.val (.list (hb.map .int)),.val (.int third),.val (.list (L.map dS)),.val (.int most),x10,x11,y1,y2,y3,y4,y5,y6,y7]
theorem zD {T:ai} {i:Ni} {R:List (Nat×Ob)} {rs:List Rw} (hc:ke (pB [] lane lanes mine most)) (hh:hb.length<=100) (hrl:rs.length<=60) (hrs:∀ r∈rs,GR r) (hL:∀ l∈L,mh (pB [] lane lanes mine most) l) (hLl:L.length<=5) (hm:0<=most) (hsL:∃ sh,ua (.list (L.map dS))=some (.str sh)/\PyData.strOk sh=true) (h:NH T i (pB [] lane lanes mine most) nms (oa (pB [] lane lanes mine most) 2 rs (kJ hb L)) R) (ol:kc R i (oa (pB [] lane lanes mine most) 2 rs (kJ hb L))) (ok:bf (pB [] lane lanes mine most) 500 (oa (pB [] lane lanes mine most) 2 rs (kJ hb L))) (tk:kC 500 (oa (pB [] lane lanes mine most) 2 rs (kJ hb L))) (hw:i.w=1) {y1 y2 y3 y4:Sl}:
 ∃ T',LK (dM ns hb L F lanes lane room mine third most (.val (.ref 1)) (.own (bL 2 rs)) y1 y2 y3 y4 .no .no .no) T=some (.rt (.bool true),T'):=by
 let c:=pB [] lane lanes mine most;let D:=dM ns hb L F lanes lane room mine third most (.val (.ref 1));let sF:=j7 c 2 rs (kJ hb L);have pe:((bL 2 rs).length:Int)+2=2+rs.length:=by rw [nZ];omega
 have rf:=lD c rs 2 (kJ hb L);have gv:∀ {x:Sl},aD (aa (ae 10)) (aa !"over") (D (.own (bL 2 rs)) y1 y2 y3 y4 .no .no .no) T=some (.ok (.bool (oa c 2 rs (kJ hb L)).ov),T):=λ {x}=>lj (l:=1) rfl rfl (hw▸h.get (k:=0) rfl) (Hm _ _ _ _ _);have A:∃ T1,bv (jr (iV (aD (aa (ae 10)) (aa !"over")))) (bE (aa (ae 10)) (aa !"end") (aa (aR #[!"done",aB bI (kj jD (aA 11)) !2]))) (al aw) (D (.own (bL 2 rs)) y1 y2 y3 y4 .no .no .no) T=some (.nx (D (.own (bL 2 rs)) y1 y2 y3 y4 .no .no .no),T1)/\NH T1 i c nms sF R/\kc R i sF/\bf c 500 sF/\kC 500 sF:=by
  by_cases o:(oa c 2 rs (kJ hb L)).ov=true
  . rw [OG o] at rf;have gv':=gv (x:=.no);rw [o] at gv';exact ⟨T,(bH (hZ (iR gv'))).trans rfl,by show NH T i c nms (j7 c 2 rs (kJ hb L)) R;rw [rf];exact h,by show kc R i (j7 c 2 rs (kJ hb L));rw [rf];exact ol,by show bf c 500 (j7 c 2 rs (kJ hb L));rw [rf];exact ok,by show kC 500 (j7 c 2 rs (kJ hb L));rw [rf];exact tk⟩
  . rw [OT o] at rf;have o':(oa c 2 rs (kJ hb L)).ov=false:=by simpa using o
    have gv':=gv (x:=.no);rw [o'] at gv';have h1:NH (T.set i.w (.dK (iP i c nms (.tuple [sW "done", .int (2+rs.length)]) (oa c 2 rs (kJ hb L)).ov))) i c nms sF R:=by
     show NH _ i c nms (j7 c 2 rs (kJ hb L)) R;rw [rf];exact h.set (k:=0) rfl (.dK (iP i c nms (.tuple [sW "done", .int (2+rs.length)]) (oa c 2 rs (kJ hb L)).ov))
    refine ⟨_,(cf (hZ (iR gv'))).trans ?_,h1,by show kc R i (j7 c 2 rs (kJ hb L));rw [rf];exact ⟨ol.tc,ol.pt⟩,by show bf c 500 (j7 c 2 rs (kJ hb L));rw [rf];exact ok.en' _ _,by show kC 500 (j7 c 2 rs (kJ hb L));rw [rf];exact tk⟩;have tp:aa (aR #[!"done",aB bI (kj jD (aA 11)) !2]) (D (.own (bL 2 rs)) y1 y2 y3 y4 .no .no .no) T=some (.ok (.tuple [sW "done", .int (2+rs.length)]),T):=au (mU rfl (dO (a:=.int ((bL 2 rs).length:Int)) rfl rfl (by rw [d7,pe])));refine (jw (k:=Str.ofString "end") (l:=i.w) tp (by rw [hw];rfl) rfl (h.get (k:=0) rfl) (mi _ _ _ _ _)).trans ?_;rw [JN]
 obtain ⟨T1,e1,h1,ol1,ok1,tk1⟩:=A;let P:W:=.list [sZ rs];obtain ⟨shP,eP,kP⟩:=ut (AW hrs (by omega)) (by omega) (by omega);obtain ⟨shL,eL,kL⟩:=hsL;let kept:W:=.list [.list (hb.map .int),.str shP,.str shL];have mn:aR #[!"main",cn (ff aj),ae 11,!1,aB bI (kj jD (aA 11)) !2] (D (.val (.list (bL 2 rs))) y1 y2 y3 y4 .no .no .no)=some (sZ rs):=Hc (fB rfl (fB (K7 rfl (by simp)) (fB rfl (fB rfl (fB (dO (a:=.int ((bL 2 rs).length:Int)) rfl rfl (by rw [d7,pe])) rfl))))) (by simp);have e2:al (lO 11 (bz (cn (ff #[aR #[!"main",cn (ff aj),ae 11,!1,aB bI (kj jD (aA 11)) !2]])) (ao 16))) (D (.own (bL 2 rs)) y1 y2 y3 y4 .no .no .no) T1=some (.nx (D (.val (.list (bL 2 rs))) y1 y2 y3 y4 (.val P) .no .no),T1):=aI (aT (K7 (fB mn rfl) (by simp)) rfl);have e3:al (bz (cn (ff #[cn (lF (aA 6)),gG (ae 16),gG (ae 8)])) (ao 17)) (D (.val (.list (bL 2 rs))) y1 y2 y3 y4 (.val P) .no .no) T1=some (.nx (D (.val (.list (bL 2 rs))) y1 y2 y3 y4 (.val P) (.val kept) .no),T1):=aI (aT (K7 (fB rfl (fB (og rfl eP) (fB (og rfl eL) rfl))) (by simp)) rfl);let F0:=nL i c nms sF R;have hF:gy T1 F0:=h1;let c':=pB rs lane lanes mine most;have hc':ke c':=E8 hc _;have hL':∀ l∈L,mh c' l:=λ l hl=>⟨(hL l hl).br,(hL l hl).bx,(hL l hl).nn,(hL l hl).le⟩
 have hok:∀ r∈rs,AD r:=λ r hr=>(hrs r hr).ok;obtain ⟨T2,j2,R2,e4,h2,o2,f2⟩:=qG hF rs hc' hh (by omega) hok hL' (by omega) hm;rw [zS] at h2 o2;have h2:GH T2 T1.length c' j2 sF R2:=h2;have o2:mJ T1.length R2 j2 sF:=o2;have sub2:∀ x∈R2,x∈gL T1.length c' j2 sF R2:=λ x hx=>by simp [gL,hx]
 have en:jp sF:=jp.rn c rs 2 (λ x hx=>by cases hx);have hq:=ok1.n2;have hq3:=ok1.n3;obtain ⟨X2,e5⟩:=qP (c':=c) (nms:=nms) h2.2 o2 (i:=i) (R':=R) (λ x hx=>h2.2 x (sub2 x (f2 x hx))) ol1 en (by omega) (by omega);let δ6:DS:=D (.val (.list (bL 2 rs))) y1 y2 y3 y4 (.val P) (.val kept) (.val (.ref (T1.length+10)));have c4:bU (bZ gY (aa #[ae 16,ae 3,ae 2,ae 5,ae 6,ae 9,ae 8])) (ao 18) (D (.val (.list (bL 2 rs))) y1 y2 y3 y4 (.val P) (.val kept) .no) T1=some (.nx δ6,T2):=bj (cO (ds:=[P,.int lane,.int lanes,.int mine,.list (hb.map .int),.int most,.list (L.map dS)]) rfl e4) rfl;have okk:im kept=true:=by
  obtain ⟨i1,_⟩:=dy (f:=W.int) o5 hb;simp [kept,im,gi,i1,kP,kL]
 have dpk:eA kept<=64:=by
  obtain ⟨_,i1⟩:=dy (f:=W.int) o5 hb;simp only [kept,eA,eK];omega
 have ne:aC tX (cn (ff #[ae 6,gG (ae 16),gG (ae 8)])) (aA 17) δ6=some false:=uE (a:=kept) (b:=kept) (K7 (fB rfl (fB (og rfl eP) (fB (og rfl eL) rfl))) (by simp)) rfl (zV okk dpk);let T3:ai:=T2++X2;have c5:jr (iV (bZ cX (aa #[ae 18,ae 10]))) δ6 T2=some (.ok false,T3):=hZ (iR (cO (ds:=[.ref (T1.length+10),.ref i.w]) (by rw [hw];rfl) e5));have h3:GH T3 T1.length c' j2 sF R2:=h2.appX X2;obtain ⟨t0,l0,q,r0,g0,b0,n0,q0⟩:=Cs h3 o2 tk1 (by have:=ok1.n5;omega);have a0:iO (lU j2.tI j2.t) 0=some (.ref t0):=(zF _ 0 (by simp [lU])).trans r0;have v18:∀ {U:ai},aa (ae 18) δ6 U=some (.ok (.ref (T1.length+10)),U):=rfl;have c6:aQ (sIx (ar "Story" "touches" (aa (ae 18))) (aa !0)) (aa (aR #[!"put",!0,!1])) δ6 T3=some (.nx δ6,_):=js (JQ (bg v18 (h3.get (k:=9) rfl) (Jt _ _ _)) rfl (h3.get (k:=12) rfl) a0) (h3.get g0) (d:=.tuple [sW "put", .int 0,.int 1]) (au (uj rfl rfl rfl)) (h3.get g0) (by omega);let T4:ai:=T3.set t0 (.lst (l0++[.tuple [sW "put", .int 0,.int 1]]));have g10:T4[T1.length+10]?=some (.ins (Str.ofString "Story") (kQ T1.length sF.ln.length (pf sF.en))):=h3.oth g0 (k':=9) rfl (by omega);have g12:T4[T1.length+12]?=some (.lst (sF.br.map uC)):=h3.oth g0 (k':=11) rfl (by omega);have c7:aQ (ar "Story" "brought" (aa (ae 18))) (aa (aR #[!0,!0])) δ6 T4=some (.nx δ6,_):=js (bg v18 g10 (Mr _ _ _)) g12 (d:=.tuple [.int 0,.int 0]) (au (mU rfl rfl)) g12 (by rw [OH];have:=ok1.n4;omega);let T5:ai:=T4.set (T1.length+12) (.lst (sF.br.map uC++[.tuple [.int 0,.int 0]]));have hF5:gy T5 F0:=by
  refine ⟨hF.1,λ x hx=>?_⟩;have lt:=hF.lt hx;show ((T3.set t0 _).set (T1.length+12) _)[x.1]?=_;rw [OU (by omega),OU (by omega)];exact h3.2 x (sub2 x (f2 x hx))
 obtain ⟨T6,j6,R6,e6,h6,o6,f6⟩:=qG hF5 rs hc' hh (by omega) hok hL' (by omega) hm;rw [zS] at h6 o6;have h6:GH T6 T5.length c' j6 sF R6:=h6;have o6:mJ T5.length R6 j6 sF:=o6;have sub6:∀ x∈R6,x∈gL T5.length c' j6 sF R6:=λ x hx=>by simp [gL,hx]
 obtain ⟨X6,e7⟩:=qP (c':=c) (nms:=nms) h6.2 o6 (i:=i) (R':=R) (λ x hx=>h6.2 x (sub6 x (f6 x hx))) ol1 en (by omega) (by omega);have c8:bZ gY (aa #[ae 16,ae 3,ae 2,ae 5,ae 6,ae 9,ae 8]) δ6 T5=some (.ok (.ref (T5.length+10)),T6):=cO (ds:=[P,.int lane,.int lanes,.int mine,.list (hb.map .int),.int most,.list (L.map dS)]) rfl e6;refine ⟨T6++X6,?_⟩;refine (ah e1).trans ((ah e2).trans ((ah e3).trans ((ah c4).trans ?_)));refine (ah (δ':=δ6) ((bH (qE c5 (au ne))).trans rfl)).trans ?_;refine (ah c6).trans ((ah c7).trans ?_);exact bD (cO (ds:=[.ref (T5.length+10),.ref i.w]) (aE c8 (aE (f:=aa (ae 10)) (d:=.ref i.w) (by rw [hw];rfl) rfl)) e7)
end
theorem bf.le {c:Cn} {k k':Nat} {s:As} (h:bf c k s) (hk:k<=k'):bf c k' s:=⟨h.nm,h.bx,h.lt,OY h.n1 hk,OY h.n2 hk,OY h.n3 hk,OY h.n4 hk,OY h.n5 hk,OY h.n6 hk,OY h.n7 hk,h.n8,h.mo⟩
theorem yP (ns:List Int) (_h:ns.length<=63):∃ S,zj [.list (ns.map .int)] []=some (.ok (.bool true),S):=by
 have k0:aY [.list (ns.map .int),.int 0]=some (.int (df ns 0)):=gE ns 0;have k1:aY [.list (ns.map .int),.int 1]=some (.int (df ns 1)):=gE ns 1;have k2:aY [.list (ns.map .int),.int 2]=some (.int (df ns 2)):=gE ns 2;have k3:aY [.list (ns.map .int),.int 3]=some (.int (df ns 3)):=gE ns 3;have m0:=ic (df ns 0) 601;have g0:=my (df ns 0) 601;generalize jt (df ns 0) 601=F at m0 g0;have m3:=ic (df ns 3) 602;have g3:=my (df ns 3) 602;generalize jt (df ns 3) 602=Th at m3 g3;obtain ⟨nms,eN,hn,hs⟩:=xw (jt (df ns 1) 603);have r8:=b9 F (j:=8) (by decide);obtain ⟨Ls,hLs⟩:∃ m:Nat,1+F.fmod 8=m:=⟨(1+F.fmod 8).toNat,by omega⟩
 have rl:=b9 (F.fdiv 8) (j:=(Ls:Int)) (by omega);obtain ⟨La,hLa⟩:∃ m:Nat,(F.fdiv 8).fmod (Ls:Int)=m:=⟨((F.fdiv 8).fmod (Ls:Int)).toNat,by omega⟩
 have rr:=b9 (F.fdiv 64) (j:=13) (by decide);obtain ⟨Rm,hRm⟩:∃ m:Nat,(F.fdiv 64).fmod 13=m:=⟨((F.fdiv 64).fmod 13).toNat,by omega⟩
 obtain ⟨mine,hmi⟩:∃ x,x=(df ns 2).fmod Hf-IS:=⟨_,rfl⟩
 obtain ⟨hb,eH,lH⟩:=qh ns Rm 0 (by omega);have r6:=b9 Th (j:=6) (by decide);obtain ⟨mn,hmn⟩:∃ m:Nat,Th.fmod 6=m:=⟨(Th.fmod 6).toNat,by omega⟩
 obtain ⟨L,eL,lL,gL'⟩:=ul (ns:=ns) (lanes:=Ls) (lane:=La) (room:=Rm) (many:=mn) (by omega) (by omega) (by omega) (by omega);obtain ⟨most,hmo⟩:∃ x:Int,x=if (Th.fdiv 6).fmod 4=1 then (Th.fdiv 24).fmod 60 else 1000:=⟨_,rfl⟩
 have hm0:0<=most:=by
  rw [hmo];split
  . exact (b9 _ (j:=60) (by decide)).1
  . decide
 let c:=pB [] (La:Int) (Ls:Int) mine most;have hc:ke c:=⟨by show Rg (La:Int);constructor <;> omega,by show Rg (Ls:Int);constructor <;> omega,qA _,by show (0:Int)<=(La:Int);omega⟩
 have hL:∀ l∈L,mh c l:=λ l hl=>⟨(gL' l hl).br,(gL' l hl).bx,(gL' l hl).nn,(gL' l hl).le⟩
 have ok0:bf c 0 (kJ hb L):=⟨λ _ h=>absurd h Pl,λ i hi=>by obtain ⟨y,_,rfl⟩:=Pp.mp hi;exact qA y,hL,OB _,OB _,OB _,OB _,OB _,OB _,OB _,rfl,hm0⟩
 have bo0:pw (kJ hb L):=⟨by show (hb.map wr).length<=100;rw [OH];omega,λ l hl=>by have:=(gL' l hl).bl;omega⟩
 let cs:List Int:=(ns.drop 4).take 100;have lcs:cs.length<=59:=by
  show ((ns.drop 4).take 100).length<=59;rw [Qr,List.length_drop];omega
 obtain ⟨rs,T1,i1,R1,y1,y2,y3,y4,e1,l1,g1,h1,o1,q1,w1⟩:=zI (c:=c) (a0:=.val (.list (ns.map .int))) (a1:=.val (.int F)) (a2:=.val (.int Ls)) (a3:=.val (.int La)) (a4:=.val (.int Rm)) (a5:=.val (.int mine)) (a6:=.val (.list (hb.map .int))) (a7:=.val (.int Th)) (a8:=.val (.list (L.map dS))) (a9:=.val (.int most)) hc hn hs ⟨by show (0:Int)<=(La:Int);omega,by show (La:Int)<100;omega⟩ cs [] (DJ c nms hb L) i0 (kJ hb L) [] 0 .no .no .no .no (BZ c nms hb L) ⟨trivial,trivial⟩ ok0 bo0 (by omega) (by simp;omega);have tk:=kC.fld2 hc rs 2 0 (kJ hb L) (λ l h=>absurd h Pl) ok0 g1;have shl:=ut (Ef (by omega) gL').lst (by omega) (by omega);obtain ⟨T',eT⟩:=zD (ns:=ns) (F:=F) (room:=(Rm:Int)) (third:=Th) (y1:=y1) (y2:=y2) (y3:=y3) (y4:=y4) hc (by omega) (by omega) g1 hL (by omega) hm0 shl h1 o1 (q1.le (by omega)) (λ l hl=>OY (tk l hl) (by omega)) w1;let D (a b c' d e f g h i:Sl):DS:=[.val (.list (ns.map .int)),a,b,c',d,e,f,g,h,i,.no,.no,.no,.no,.no,.no,.no,.no,.no]
 let v (x:Int):Sl:=.val (.int x);let H:Sl:=.val (.list (hb.map .int));let Lw:Sl:=.val (.list (L.map dS));refine ⟨T',(az rfl).trans ((OI bh (?_:_=some (.rt (.bool true),T'))).trans rfl)⟩;refine (ah (aI (δ':=D (v F) .no .no .no .no .no .no .no .no) (aT (mO (ds:=[.int (df ns 0),.int 601]) (fB (mO (ds:=[.list (ns.map .int),.int 0]) rfl k0) rfl) m0) rfl))).trans ?_;refine (ah (aI (δ':=D (v F) (v Ls) .no .no .no .no .no .no .no) (aT (dO rfl (dO rfl rfl (b3 _ (by decide))) ((d7 _ _).trans (by rw [hLs]))) rfl))).trans ?_;refine (ah (aI (δ':=D (v F) (v Ls) (v La) .no .no .no .no .no .no) (aT (dO (dO rfl rfl (fq _ (by decide) (by decide))) rfl ((b3 _ (by omega)).trans (by rw [hLa]))) rfl))).trans ?_;refine (ah (aI (δ':=D (v F) (v Ls) (v La) (v Rm) .no .no .no .no .no) (aT (dO (dO rfl rfl (fq _ (by decide) (by decide))) rfl ((b3 _ (by decide)).trans (by rw [hRm]))) rfl))).trans ?_;refine (ah (aI (δ':=D (v F) (v Ls) (v La) (v Rm) (v mine) .no .no .no .no) (aT (dO (dO (mO (ds:=[.list (ns.map .int),.int 2]) rfl k2) (MP _) (b3 _ Nm)) (Nt _) ((iq _ _).trans (by rw [hmi]))) rfl))).trans ?_;refine (ah (aI (δ':=D (v F) (v Ls) (v La) (v Rm) (v mine) H .no .no .no) (aT (Kb (ds:=gn 0 Rm) (ph (n:=Rm) rfl (by omega)) (by simp [gn];omega) eH) rfl))).trans ?_;refine (ah (aI (δ':=D (v F) (v Ls) (v La) (v Rm) (v mine) H (v Th) .no .no) (aT (mO (ds:=[.int (df ns 3),.int 602]) (fB (mO (ds:=[.list (ns.map .int),.int 3]) rfl k3) rfl) m3) rfl))).trans ?_;refine (ah (aI (δ':=D (v F) (v Ls) (v La) (v Rm) (v mine) H (v Th) Lw .no) (aT (mO (ds:=[.list (ns.map .int),.int mn,.int Ls,.int La,.int Rm]) (fB rfl (fB (dO rfl rfl ((b3 _ (by decide)).trans (by rw [hmn]))) rfl)) eL) rfl))).trans ?_;refine (ah (aI (δ':=D (v F) (v Ls) (v La) (v Rm) (v mine) H (v Th) Lw (v 1000)) (aT rfl rfl))).trans ?_;have t10:aC bJ (aB b6 (aB gD (aA 7) !6) !4) (!1) (D (v F) (v Ls) (v La) (v Rm) (v mine) H (v Th) Lw (v 1000))=some (decide ((Th.fdiv 6).fmod 4=1)):=ci (dO (dO rfl rfl (fq _ (by decide) (by decide))) rfl (b3 _ (by decide)));have s10:al (cB (aC bJ (aB b6 (aB gD (aA 7) !6) !4) !1) (bz (aB b6 (aB gD (aA 7) !24) !60) (ao 9)) aw) (D (v F) (v Ls) (v La) (v Rm) (v mine) H (v Th) Lw (v 1000)) []=some (.nx (D (v F) (v Ls) (v La) (v Rm) (v mine) H (v Th) Lw (v most)),[]):=by
  by_cases z:(Th.fdiv 6).fmod 4=1
  . rw [OV z] at t10;rw [OG z] at hmo;exact aI (aX (b:=true) t10 (aT (dO (dO rfl rfl (fq _ (by decide) (by decide))) rfl ((b3 _ (by decide)).trans (by rw [hmo]))) rfl))
  . rw [OE z] at t10;rw [OT z] at hmo;rw [hmo];exact aI (aX (b:=false) t10 rfl)
 refine (ah s10).trans ?_;refine (ah (δ':=dN ns hb L F Ls La Rm mine Th most (.val (.ref 1)) .no) (bj (Od ns hb L F Ls La Rm mine Th most) rfl)).trans ?_;have nmr:aa (aZ gw #[aZ bc #[aZ aY #[ae 0,!1],!603]]) (dN ns hb L F Ls La Rm mine Th most (.val (.ref 1)) .no) [.dK [],.dK (vi La (wr mine))]=some (.ok (.list (nms.map .str)),[.dK [],.dK (vi La (wr mine))]):=au (mO (ds:=[.int (jt (df ns 1) 603)]) (fB (mO (ds:=[.int (df ns 1),.int 603]) (fB (mO (ds:=[.list (ns.map .int),.int 1]) rfl k1) rfl) (ic _ _)) rfl) eN);refine (ah (δ':=dN ns hb L F Ls La Rm mine Th most (.val (.ref 1)) .no) (S':=[.dK [],.dK (oh La (wr mine) nms)]) ((jw (k:=Str.ofString "names") (l:=1) nmr rfl rfl rfl (by simp [vi])).trans (by rw [NB];rfl))).trans ?_;refine (ah (aN (DX ns hb L nms F Ls La Rm mine Th most (by omega)))).trans ?_;refine (ah (aN (NE ns hb L nms F Ls La Rm mine Th most c))).trans ?_;refine (ah (aN (CD ns hb L nms F Ls La Rm mine Th most c))).trans ?_;refine (ah (δ':=dN ns hb L F Ls La Rm mine Th most (.val (.ref 1)) (.own [])) (aI EX)).trans ?_;have ct:kE (ns.map W.int) (some 4) (some 104)=cs.map .int:=by
  have:=FX (ns.map W.int) 4 104;rw [show ((4:Nat):Int)=4 from rfl,show ((104:Nat):Int)=104 from rfl] at this;rw [this,<-List.map_drop,<-List.map_take]
 have sq:aa (bX (cn (pj (aA 0) (hW !4) (hW !104)))) (dN ns hb L F Ls La Rm mine Th most (.val (.ref 1)) (.own [])) (DJ c nms hb L)=some (.ok (cs.map .int),DJ c nms hb L):=by
  refine au ?_;have sl:cn (pj (aA 0) (hW !4) (hW !104)) (dN ns hb L F Ls La Rm mine Th most (.val (.ref 1)) (.own []))=some (.list (cs.map .int)):=by
   have e:aA 0 (dN ns hb L F Ls La Rm mine Th most (.val (.ref 1)) (.own []))=some (.list (ns.map .int)):=rfl;simp only [cn,pj,e,OA,hW,dC,vV,OC,jY,ct]
  simp only [bX,sl,OA];rfl
 refine (ah ((oZ sq).trans e1)).trans ?_;exact eT
theorem ED {α:Type} {P:List α->Prop} {n:Nat} (h:∀ a us,us.length=n->P (a::us)):∀ us:List α,us.length=n+1->P us:=λ us hl=>by
 cases us with
 | nil=>cases hl
 | cons a us=>exact h a us (Nat.succ.inj hl)
theorem O1 {α:Type} {P:List α->Prop} (h:P []):∀ us:List α,us.length=0->P us:=λ us hl=>by
 cases us with
 | nil=>exact h
 | cons a us=>cases hl
theorem wp {α:Type} {P:List α->Prop} (h:∀ a0,P [a0]):∀ us:List α,us.length=1->P us:=ED λ a us hl=>O1 (P:=λ l=>P (a::l)) (h a) us hl
theorem vg {α:Type} {P:List α->Prop} (h:∀ a0 a1,P [a0,a1]):∀ us:List α,us.length=2->P us:=ED λ a us hl=>wp (P:=λ l=>P (a::l)) (h a) us hl
theorem zP {α:Type} {P:List α->Prop} (h:∀ a0 a1 a2,P [a0,a1,a2]):∀ us:List α,us.length=3->P us:=ED λ a us hl=>vg (P:=λ l=>P (a::l)) (h a) us hl
theorem Ih {α:Type} {P:List α->Prop} (h:∀ a0 a1 a2 a3,P [a0,a1,a2,a3]):∀ us:List α,us.length=4->P us:=ED λ a us hl=>zP (P:=λ l=>P (a::l)) (h a) us hl
theorem ML {α:Type} {P:List α->Prop} (h:∀ a0 a1 a2 a3 a4,P [a0,a1,a2,a3,a4]):∀ us:List α,us.length=5->P us:=ED λ a us hl=>Ih (P:=λ l=>P (a::l)) (h a) us hl
theorem NZ {α:Type} {P:List α->Prop} (h:∀ a0 a1 a2 a3 a4 a5,P [a0,a1,a2,a3,a4,a5]):∀ us:List α,us.length=6->P us:=ED λ a us hl=>ML (P:=λ l=>P (a::l)) (h a) us hl
theorem MC {α:Type} {P:List α->Prop} (h:∀ a0 a1 a2 a3 a4 a5 a6,P [a0,a1,a2,a3,a4,a5,a6]):∀ us:List α,us.length=7->P us:=ED λ a us hl=>NZ (P:=λ l=>P (a::l)) (h a) us hl
set_option maxHeartbeats 0 in
theorem all_mk {l:PySem.W.OpenLaw} {w:World} {K:Frag} {h:Heap} {mg:Str->Option Value} {fa:Addr} (X:K.In h) (G:h.Ns mainGlobals mg) (hfa:mg "law" = some (.ref fa)) {c_Walk:Addr} {c_Frame:Addr} {c_Story:Addr} {c_Goer:Addr} {c_Nought:Addr} {c_Outside:Addr} {f4:Addr} {od4 an4:Option Addr} {sl4:Array (Option Value)} {oc4 kV4 dc4 pm4 cd4 ct4:Value} {f5:Addr} {od5 an5:Option Addr} {sl5:Array (Option Value)} {oc5 kV5 dc5 pm5 cd5 ct5:Value} {f6:Addr} {od6 an6:Option Addr} {sl6:Array (Option Value)} {oc6 kV6 dc6 pm6 cd6 ct6:Value} {f7:Addr} {od7 an7:Option Addr} {sl7:Array (Option Value)} {oc7 kV7 dc7 pm7 cd7 ct7:Value} {f8:Addr} {od8 an8:Option Addr} {sl8:Array (Option Value)} {oc8 kV8 dc8 pm8 cd8 ct8:Value} {f9:Addr} {od9 an9:Option Addr} {sl9:Array (Option Value)} {oc9 kV9 dc9 pm9 cd9 ct9:Value} {f10:Addr} {od10 an10:Option Addr} {sl10:Array (Option Value)} {oc10 kV10 dc10 pm10 cd10 ct10:Value} {f11:Addr} {od11 an11:Option Addr} {sl11:Array (Option Value)} {oc11 kV11 dc11 pm11 cd11 ct11:Value} {f12:Addr} {od12 an12:Option Addr} {sl12:Array (Option Value)} {oc12 kV12 dc12 pm12 cd12 ct12:Value} {f13:Addr} {od13 an13:Option Addr} {sl13:Array (Option Value)} {oc13 kV13 dc13 pm13 cd13 ct13:Value} {f14:Addr} {od14 an14:Option Addr} {sl14:Array (Option Value)} {oc14 kV14 dc14 pm14 cd14 ct14:Value} {f15:Addr} {od15 an15:Option Addr} {sl15:Array (Option Value)} {oc15 kV15 dc15 pm15 cd15 ct15:Value} {f16:Addr} {od16 an16:Option Addr} {sl16:Array (Option Value)} {oc16 kV16 dc16 pm16 cd16 ct16:Value} {f17:Addr} {od17 an17:Option Addr} {sl17:Array (Option Value)} {oc17 kV17 dc17 pm17 cd17 ct17:Value} {f18:Addr} {od18 an18:Option Addr} {sl18:Array (Option Value)} {oc18 kV18 dc18 pm18 cd18 ct18:Value} {f19:Addr} {od19 an19:Option Addr} {sl19:Array (Option Value)} {oc19 kV19 dc19 pm19 cd19 ct19:Value} {f20:Addr} {od20 an20:Option Addr} {sl20:Array (Option Value)} {oc20 kV20 dc20 pm20 cd20 ct20:Value} {f21:Addr} {od21 an21:Option Addr} {sl21:Array (Option Value)} {oc21 kV21 dc21 pm21 cd21 ct21:Value} {f22:Addr} {od22 an22:Option Addr} {sl22:Array (Option Value)} {oc22 kV22 dc22 pm22 cd22 ct22:Value} {f23:Addr} {od23 an23:Option Addr} {sl23:Array (Option Value)} {oc23 kV23 dc23 pm23 cd23 ct23:Value} {f24:Addr} {od24 an24:Option Addr} {sl24:Array (Option Value)} {oc24 kV24 dc24 pm24 cd24 ct24:Value} {f25:Addr} {od25 an25:Option Addr} {sl25:Array (Option Value)} {oc25 kV25 dc25 pm25 cd25 ct25:Value} {f26:Addr} {od26 an26:Option Addr} {sl26:Array (Option Value)} {oc26 kV26 dc26 pm26 cd26 ct26:Value} {f27:Addr} {od27 an27:Option Addr} {sl27:Array (Option Value)} {oc27 kV27 dc27 pm27 cd27 ct27:Value} {f28:Addr} {od28 an28:Option Addr} {sl28:Array (Option Value)} {oc28 kV28 dc28 pm28 cd28 ct28:Value} {tL:Tok} {a_SIGNS:Addr} {o_SIGNS:Obj} {tS:Tok}
 (mm_Walk:PySem.W.nsIn K mainGlobals "Walk" = some (some (.ref c_Walk)))
 (mm_Frame:PySem.W.nsIn K mainGlobals "Frame" = some (some (.ref c_Frame)))
 (mm_Story:PySem.W.nsIn K mainGlobals "Story" = some (some (.ref c_Story)))
 (mm_Goer:PySem.W.nsIn K mainGlobals "Goer" = some (some (.ref c_Goer)))
 (mm_Nought:PySem.W.nsIn K mainGlobals "Nought" = some (some (.ref c_Nought)))
 (mm_Outside:PySem.W.nsIn K mainGlobals "Outside" = some (some (.ref c_Outside)))
 (ex_Nought:XClE K c_Nought)
 (ex_Outside:XClE K c_Outside)
 (xm1:PySem.W.exmOne K (.ref c_Nought) (.ref c_Nought)=some true)
 (xm2:PySem.W.exmOne K (.ref c_Outside) (.ref c_Nought)=some false)
 (xm3:PySem.W.exmOne K (.ref c_Outside) (.ref c_Outside)=some true)
 (a0:An K "wrapped" qX .none)
 (a1:An K "unwrapped" mV .none)
 (a2:An K "worked" tJ .none)
 (a3:An K "joined" uk .none)
 (a4:PySem.W.findIn K (.ref c_Walk) "__init__" = some (some (.ref f4)))
 (ifn4:PySem.W.isFn K (.ref f4)=true)
 (l4:K.lookup f4=some ⟨oc4,od4,.func (PySem.W.fnOf "__init__" "Walk.__init__" (aU cZ) (aO cZ) (ax cZ) .none kV4 dc4 pm4 an4 cd4 ct4),sl4⟩)
 (c4:PySem.W.codeIn K cd4 "Walk.__init__" = true)
 (k4:PySem.W.keepIn K (.ref f4)=true)
 (a5:PySem.W.findIn K (.ref c_Walk) "is_over" = some (some (.ref f5)))
 (ifn5:PySem.W.isFn K (.ref f5)=true)
 (l5:K.lookup f5=some ⟨oc5,od5,.func (PySem.W.fnOf "is_over" "Walk.is_over" (aU dH) (aO dH) (ax dH) .none kV5 dc5 pm5 an5 cd5 ct5),sl5⟩)
 (c5:PySem.W.codeIn K cd5 "Walk.is_over" = true)
 (k5:PySem.W.keepIn K (.ref f5)=true)
 (a6:PySem.W.findIn K (.ref c_Walk) "before" = some (some (.ref f6)))
 (ifn6:PySem.W.isFn K (.ref f6)=true)
 (l6:K.lookup f6=some ⟨oc6,od6,.func (PySem.W.fnOf "before" "Walk.before" (aU eE) (aO eE) (ax eE) .none kV6 dc6 pm6 an6 cd6 ct6),sl6⟩)
 (c6:PySem.W.codeIn K cd6 "Walk.before" = true)
 (k6:PySem.W.keepIn K (.ref f6)=true)
 (a7:PySem.W.findIn K (.ref c_Walk) "taken" = some (some (.ref f7)))
 (ifn7:PySem.W.isFn K (.ref f7)=true)
 (l7:K.lookup f7=some ⟨oc7,od7,.func (PySem.W.fnOf "taken" "Walk.taken" (aU fw) (aO fw) (ax fw) .none kV7 dc7 pm7 an7 cd7 ct7),sl7⟩)
 (c7:PySem.W.codeIn K cd7 "Walk.taken" = true)
 (k7:PySem.W.keepIn K (.ref f7)=true)
 (a8:PySem.W.findIn K (.ref c_Frame) "__init__" = some (some (.ref f8)))
 (ifn8:PySem.W.isFn K (.ref f8)=true)
 (l8:K.lookup f8=some ⟨oc8,od8,.func (PySem.W.fnOf "__init__" "Frame.__init__" (aU cM) (aO cM) (ax cM) .none kV8 dc8 pm8 an8 cd8 ct8),sl8⟩)
 (c8:PySem.W.codeIn K cd8 "Frame.__init__" = true)
 (k8:PySem.W.keepIn K (.ref f8)=true)
 (a9:PySem.W.findIn K (.ref c_Frame) "statement" = some (some (.ref f9)))
 (ifn9:PySem.W.isFn K (.ref f9)=true)
 (l9:K.lookup f9=some ⟨oc9,od9,.func (PySem.W.fnOf "statement" "Frame.statement" (aU cy) (aO cy) (ax cy) .none kV9 dc9 pm9 an9 cd9 ct9),sl9⟩)
 (c9:PySem.W.codeIn K cd9 "Frame.statement" = true)
 (k9:PySem.W.keepIn K (.ref f9)=true)
 (a10:PySem.W.findIn K (.ref c_Frame) "pass_by" = some (some (.ref f10)))
 (ifn10:PySem.W.isFn K (.ref f10)=true)
 (l10:K.lookup f10=some ⟨oc10,od10,.func (PySem.W.fnOf "pass_by" "Frame.pass_by" (aU dq) (aO dq) (ax dq) .none kV10 dc10 pm10 an10 cd10 ct10),sl10⟩)
 (c10:PySem.W.codeIn K cd10 "Frame.pass_by" = true)
 (k10:PySem.W.keepIn K (.ref f10)=true)
 (a11:PySem.W.findIn K (.ref c_Story) "__init__" = some (some (.ref f11)))
 (ifn11:PySem.W.isFn K (.ref f11)=true)
 (l11:K.lookup f11=some ⟨oc11,od11,.func (PySem.W.fnOf "__init__" "Story.__init__" (aU cP) (aO cP) (ax cP) .none kV11 dc11 pm11 an11 cd11 ct11),sl11⟩)
 (c11:PySem.W.codeIn K cd11 "Story.__init__" = true)
 (k11:PySem.W.keepIn K (.ref f11)=true)
 (a12:PySem.W.findIn K (.ref c_Story) "begin_phase" = some (some (.ref f12)))
 (ifn12:PySem.W.isFn K (.ref f12)=true)
 (l12:K.lookup f12=some ⟨oc12,od12,.func (PySem.W.fnOf "begin_phase" "Story.begin_phase" (aU bV) (aO bV) (ax bV) .none kV12 dc12 pm12 an12 cd12 ct12),sl12⟩)
 (c12:PySem.W.codeIn K cd12 "Story.begin_phase" = true)
 (k12:PySem.W.keepIn K (.ref f12)=true)
 (a13:PySem.W.findIn K (.ref c_Story) "add_step" = some (some (.ref f13)))
 (ifn13:PySem.W.isFn K (.ref f13)=true)
 (l13:K.lookup f13=some ⟨oc13,od13,.func (PySem.W.fnOf "add_step" "Story.add_step" (aU cK) (aO cK) (ax cK) .none kV13 dc13 pm13 an13 cd13 ct13),sl13⟩)
 (c13:PySem.W.codeIn K cd13 "Story.add_step" = true)
 (k13:PySem.W.keepIn K (.ref f13)=true)
 (a14:PySem.W.findIn K (.ref c_Story) "add_touch" = some (some (.ref f14)))
 (ifn14:PySem.W.isFn K (.ref f14)=true)
 (l14:K.lookup f14=some ⟨oc14,od14,.func (PySem.W.fnOf "add_touch" "Story.add_touch" (aU cx) (aO cx) (ax cx) .none kV14 dc14 pm14 an14 cd14 ct14),sl14⟩)
 (c14:PySem.W.codeIn K cd14 "Story.add_touch" = true)
 (k14:PySem.W.keepIn K (.ref f14)=true)
 (a15:PySem.W.findIn K (.ref c_Story) "add_put" = some (some (.ref f15)))
 (ifn15:PySem.W.isFn K (.ref f15)=true)
 (l15:K.lookup f15=some ⟨oc15,od15,.func (PySem.W.fnOf "add_put" "Story.add_put" (aU dj) (aO dj) (ax dj) .none kV15 dc15 pm15 an15 cd15 ct15),sl15⟩)
 (c15:PySem.W.codeIn K cd15 "Story.add_put" = true)
 (k15:PySem.W.keepIn K (.ref f15)=true)
 (a16:PySem.W.findIn K (.ref c_Story) "finish" = some (some (.ref f16)))
 (ifn16:PySem.W.isFn K (.ref f16)=true)
 (l16:K.lookup f16=some ⟨oc16,od16,.func (PySem.W.fnOf "finish" "Story.finish" (aU dJ) (aO dJ) (ax dJ) .none kV16 dc16 pm16 an16 cd16 ct16),sl16⟩)
 (c16:PySem.W.codeIn K cd16 "Story.finish" = true)
 (k16:PySem.W.keepIn K (.ref f16)=true)
 (a17:PySem.W.findIn K (.ref c_Goer) "__init__" = some (some (.ref f17)))
 (ifn17:PySem.W.isFn K (.ref f17)=true)
 (l17:K.lookup f17=some ⟨oc17,od17,.func (PySem.W.fnOf "__init__" "Goer.__init__" (aU di) (aO di) (ax di) .none kV17 dc17 pm17 an17 cd17 ct17),sl17⟩)
 (c17:PySem.W.codeIn K cd17 "Goer.__init__" = true)
 (k17:PySem.W.keepIn K (.ref f17)=true)
 (a18:PySem.W.findIn K (.ref c_Goer) "touch" = some (some (.ref f18)))
 (ifn18:PySem.W.isFn K (.ref f18)=true)
 (l18:K.lookup f18=some ⟨oc18,od18,.func (PySem.W.fnOf "touch" "Goer.touch" (aU fh) (aO fh) (ax fh) .none kV18 dc18 pm18 an18 cd18 ct18),sl18⟩)
 (c18:PySem.W.codeIn K cd18 "Goer.touch" = true)
 (k18:PySem.W.keepIn K (.ref f18)=true)
 (a19:PySem.W.findIn K (.ref c_Goer) "got" = some (some (.ref f19)))
 (ifn19:PySem.W.isFn K (.ref f19)=true)
 (l19:K.lookup f19=some ⟨oc19,od19,.func (PySem.W.fnOf "got" "Goer.got" (aU gK) (aO gK) (ax gK) .none kV19 dc19 pm19 an19 cd19 ct19),sl19⟩)
 (c19:PySem.W.codeIn K cd19 "Goer.got" = true)
 (k19:PySem.W.keepIn K (.ref f19)=true)
 (a20:PySem.W.findIn K (.ref c_Goer) "reckoned" = some (some (.ref f20)))
 (ifn20:PySem.W.isFn K (.ref f20)=true)
 (l20:K.lookup f20=some ⟨oc20,od20,.func (PySem.W.fnOf "reckoned" "Goer.reckoned" (aU dm) (aO dm) (ax dm) .none kV20 dc20 pm20 an20 cd20 ct20),sl20⟩)
 (c20:PySem.W.codeIn K cd20 "Goer.reckoned" = true)
 (k20:PySem.W.keepIn K (.ref f20)=true)
 (a21:PySem.W.findIn K (.ref c_Goer) "give" = some (some (.ref f21)))
 (ifn21:PySem.W.isFn K (.ref f21)=true)
 (l21:K.lookup f21=some ⟨oc21,od21,.func (PySem.W.fnOf "give" "Goer.give" (aU gk) (aO gk) (ax gk) .none kV21 dc21 pm21 an21 cd21 ct21),sl21⟩)
 (c21:PySem.W.codeIn K cd21 "Goer.give" = true)
 (k21:PySem.W.keepIn K (.ref f21)=true)
 (a22:PySem.W.findIn K (.ref c_Goer) "do_put" = some (some (.ref f22)))
 (ifn22:PySem.W.isFn K (.ref f22)=true)
 (l22:K.lookup f22=some ⟨oc22,od22,.func (PySem.W.fnOf "do_put" "Goer.do_put" (aU eI) (aO eI) (ax eI) .none kV22 dc22 pm22 an22 cd22 ct22),sl22⟩)
 (c22:PySem.W.codeIn K cd22 "Goer.do_put" = true)
 (k22:PySem.W.keepIn K (.ref f22)=true)
 (a23:PySem.W.findIn K (.ref c_Goer) "come_to" = some (some (.ref f23)))
 (ifn23:PySem.W.isFn K (.ref f23)=true)
 (l23:K.lookup f23=some ⟨oc23,od23,.func (PySem.W.fnOf "come_to" "Goer.come_to" (aU dR) (aO dR) (ax dR) .none kV23 dc23 pm23 an23 cd23 ct23),sl23⟩)
 (c23:PySem.W.codeIn K cd23 "Goer.come_to" = true)
 (k23:PySem.W.keepIn K (.ref f23)=true)
 (a24:PySem.W.findIn K (.ref c_Goer) "do" = some (some (.ref f24)))
 (ifn24:PySem.W.isFn K (.ref f24)=true)
 (l24:K.lookup f24=some ⟨oc24,od24,.func (PySem.W.fnOf "do" "Goer.do" (aU iF) (aO iF) (ax iF) .none kV24 dc24 pm24 an24 cd24 ct24),sl24⟩)
 (c24:PySem.W.codeIn K cd24 "Goer.do" = true)
 (k24:PySem.W.keepIn K (.ref f24)=true)
 (a25:PySem.W.findIn K (.ref c_Goer) "step" = some (some (.ref f25)))
 (ifn25:PySem.W.isFn K (.ref f25)=true)
 (l25:K.lookup f25=some ⟨oc25,od25,.func (PySem.W.fnOf "step" "Goer.step" (aU ge) (aO ge) (ax ge) .none kV25 dc25 pm25 an25 cd25 ct25),sl25⟩)
 (c25:PySem.W.codeIn K cd25 "Goer.step" = true)
 (k25:PySem.W.keepIn K (.ref f25)=true)
 (a26:PySem.W.findIn K (.ref c_Goer) "end_def" = some (some (.ref f26)))
 (ifn26:PySem.W.isFn K (.ref f26)=true)
 (l26:K.lookup f26=some ⟨oc26,od26,.func (PySem.W.fnOf "end_def" "Goer.end_def" (aU dG) (aO dG) (ax dG) .none kV26 dc26 pm26 an26 cd26 ct26),sl26⟩)
 (c26:PySem.W.codeIn K cd26 "Goer.end_def" = true)
 (k26:PySem.W.keepIn K (.ref f26)=true)
 (a27:PySem.W.findIn K (.ref c_Goer) "go" = some (some (.ref f27)))
 (ifn27:PySem.W.isFn K (.ref f27)=true)
 (l27:K.lookup f27=some ⟨oc27,od27,.func (PySem.W.fnOf "go" "Goer.go" (aU iy) (aO iy) (ax iy) .none kV27 dc27 pm27 an27 cd27 ct27),sl27⟩)
 (c27:PySem.W.codeIn K cd27 "Goer.go" = true)
 (k27:PySem.W.keepIn K (.ref f27)=true)
 (a28:PySem.W.findIn K (.ref c_Goer) "take" = some (some (.ref f28)))
 (ifn28:PySem.W.isFn K (.ref f28)=true)
 (l28:K.lookup f28=some ⟨oc28,od28,.func (PySem.W.fnOf "take" "Goer.take" (aU gh) (aO gh) (ax gh) .none kV28 dc28 pm28 an28 cd28 ct28),sl28⟩)
 (c28:PySem.W.codeIn K cd28 "Goer.take" = true)
 (k28:PySem.W.keepIn K (.ref f28)=true)
 (a29:An K "alone" wF .none)
 (a30:An K "_law_cell" nv .none)
 (a31:An K "_law_mixed" lP .none)
 (a32:An K "_law_all_whole" iw .none)
 (a33:An K "_law_into_range" gX .none)
 (a34:An K "_law_names" lu .none)
 (a35:An K "_law_letters" jE .none)
 (a36:An K "_law_value" lN .none)
 (a37:An K "_law_place" lw .none)
 (a38:An K "_law_line" nq .none)
 (a39:An K "_law_comes" lJ .none)
 (a40:An K "_law_meeting" j8 .none)
 (a41:An K "_law_touched" ju .none)
 (a42:An K "_law_done" ni .none)
 (a43:An K "_law_holds" kY .none)
 (a44:An K "law" tN .none)
 (pg_Walk:PySem.W.plainGet K c_Walk Str.empty=true)
 (hd_Walk:PySem.W.hasDictIn K c_Walk=true)
 (po_Walk:PySem.W.plainOver K c_Walk=true)
 (sa_Walk:PySem.W.findIn K (.ref c_Walk) "__setattr__" = some (some (.builtin "object.__setattr__")))
 (mk_Walk:PySem.W.makesIn K c_Walk=true)
 (kc_Walk:PySem.W.keepIn K (.ref c_Walk)=true)
 (nn_Walk_row:PySem.W.findIn K (.ref c_Walk) "row" = some none)
 (nn_Walk_at:PySem.W.findIn K (.ref c_Walk) "at" = some none)
 (pg_Frame:PySem.W.plainGet K c_Frame Str.empty=true)
 (hd_Frame:PySem.W.hasDictIn K c_Frame=true)
 (po_Frame:PySem.W.plainOver K c_Frame=true)
 (sa_Frame:PySem.W.findIn K (.ref c_Frame) "__setattr__" = some (some (.builtin "object.__setattr__")))
 (mk_Frame:PySem.W.makesIn K c_Frame=true)
 (kc_Frame:PySem.W.keepIn K (.ref c_Frame)=true)
 (nn_Frame_names:PySem.W.findIn K (.ref c_Frame) "names" = some none)
 (nn_Frame_given:PySem.W.findIn K (.ref c_Frame) "given" = some none)
 (nn_Frame_walks:PySem.W.findIn K (.ref c_Frame) "walks" = some none)
 (nn_Frame_loops:PySem.W.findIn K (.ref c_Frame) "loops" = some none)
 (pg_Story:PySem.W.plainGet K c_Story Str.empty=true)
 (hd_Story:PySem.W.hasDictIn K c_Story=true)
 (po_Story:PySem.W.plainOver K c_Story=true)
 (sa_Story:PySem.W.findIn K (.ref c_Story) "__setattr__" = some (some (.builtin "object.__setattr__")))
 (mk_Story:PySem.W.makesIn K c_Story=true)
 (kc_Story:PySem.W.keepIn K (.ref c_Story)=true)
 (nn_Story_told:PySem.W.findIn K (.ref c_Story) "told" = some none)
 (nn_Story_steps:PySem.W.findIn K (.ref c_Story) "steps" = some none)
 (nn_Story_end:PySem.W.findIn K (.ref c_Story) "end" = some none)
 (nn_Story_brought:PySem.W.findIn K (.ref c_Story) "brought" = some none)
 (nn_Story_touches:PySem.W.findIn K (.ref c_Story) "touches" = some none)
 (nn_Story_puts:PySem.W.findIn K (.ref c_Story) "puts" = some none)
 (nn_Story_lines:PySem.W.findIn K (.ref c_Story) "lines" = some none)
 (pg_Goer:PySem.W.plainGet K c_Goer Str.empty=true)
 (hd_Goer:PySem.W.hasDictIn K c_Goer=true)
 (po_Goer:PySem.W.plainOver K c_Goer=true)
 (sa_Goer:PySem.W.findIn K (.ref c_Goer) "__setattr__" = some (some (.builtin "object.__setattr__")))
 (mk_Goer:PySem.W.makesIn K c_Goer=true)
 (kc_Goer:PySem.W.keepIn K (.ref c_Goer)=true)
 (nn_Goer_defs:PySem.W.findIn K (.ref c_Goer) "defs" = some none)
 (nn_Goer_lane:PySem.W.findIn K (.ref c_Goer) "lane" = some none)
 (nn_Goer_signs:PySem.W.findIn K (.ref c_Goer) "signs" = some none)
 (nn_Goer_boxes:PySem.W.findIn K (.ref c_Goer) "boxes" = some none)
 (nn_Goer_most:PySem.W.findIn K (.ref c_Goer) "most" = some none)
 (nn_Goer_frames:PySem.W.findIn K (.ref c_Goer) "frames" = some none)
 (nn_Goer_line:PySem.W.findIn K (.ref c_Goer) "line" = some none)
 (nn_Goer_meeting:PySem.W.findIn K (.ref c_Goer) "meeting" = some none)
 (nn_Goer_story:PySem.W.findIn K (.ref c_Goer) "story" = some none)
 (zz_bool:PySem.W.nsIn K mainGlobals "bool" = some none)
 (zz_int:PySem.W.nsIn K mainGlobals "int" = some none)
 (zz_isinstance:PySem.W.nsIn K mainGlobals "isinstance" = some none)
 (zz_len:PySem.W.nsIn K mainGlobals "len" = some none)
 (zz_list:PySem.W.nsIn K mainGlobals "list" = some none)
 (zz_max:PySem.W.nsIn K mainGlobals "max" = some none)
 (zz_min:PySem.W.nsIn K mainGlobals "min" = some none)
 (zz_range:PySem.W.nsIn K mainGlobals "range" = some none)
 (zz_repr:PySem.W.nsIn K mainGlobals "repr" = some none)
 (zz_sum:PySem.W.nsIn K mainGlobals "sum" = some none)
 (mm_LEAST:PySem.W.nsIn K mainGlobals "LEAST" = some (some (.int (-2147483648) tL)))
 (mm_SIGNS:PySem.W.nsIn K mainGlobals "SIGNS" = some (some (.ref a_SIGNS)))
 (lk_SIGNS:K.lookup a_SIGNS=some o_SIGNS)
 (lc_SIGNS:o_SIGNS.cls=.type "tuple")
 (lt_SIGNS:uJ o_SIGNS [(Str.ofString "lane"),(Str.ofString "lanes"),(Str.ofString "mine")]=true)
 (mm_SPAN:PySem.W.nsIn K mainGlobals "SPAN" = some (some (.int 4294967296 tS))):
 ∃ fd:FuncData,(∀ (s:Shared) (v:Value),BindsTo s fd ⟨[v],[]⟩ [("_law_script", v)])/\∀ base:Heap,K.In base->base.Ns mainGlobals mg->fH l.prog w K mg base vk 18 fa fd ["_law_script"] (rc K):=by
 have m_Walk:mg "Walk" = some (.ref ((bM c_Walk c_Frame c_Story c_Goer c_Nought c_Outside) "Walk")):=by rw [gj];exact Py X G mm_Walk
 have m_Frame:mg "Frame" = some (.ref ((bM c_Walk c_Frame c_Story c_Goer c_Nought c_Outside) "Frame")):=by rw [eg];exact Py X G mm_Frame
 have m_Story:mg "Story" = some (.ref ((bM c_Walk c_Frame c_Story c_Goer c_Nought c_Outside) "Story")):=by rw [bK];exact Py X G mm_Story
 have m_Goer:mg "Goer" = some (.ref ((bM c_Walk c_Frame c_Story c_Goer c_Nought c_Outside) "Goer")):=by rw [bu];exact Py X G mm_Goer
 have m_Nought:mg "Nought" = some (.ref ((bM c_Walk c_Frame c_Story c_Goer c_Nought c_Outside) "Nought")):=by rw [kt];exact Py X G mm_Nought
 have m_Outside:mg "Outside" = some (.ref ((bM c_Walk c_Frame c_Story c_Goer c_Nought c_Outside) "Outside")):=by rw [jG];exact Py X G mm_Outside
 have x_Nought:XClE K ((bM c_Walk c_Frame c_Story c_Goer c_Nought c_Outside) "Nought"):=by rw [kt];exact ex_Nought
 have x_Outside:XClE K ((bM c_Walk c_Frame c_Story c_Goer c_Nought c_Outside) "Outside"):=by rw [jG];exact ex_Outside
 have xm:Eu K ((bM c_Walk c_Frame c_Story c_Goer c_Nought c_Outside) "Nought") ((bM c_Walk c_Frame c_Story c_Goer c_Nought c_Outside) "Outside"):=by rw [kt,jG];exact ⟨xm1,xm2,xm3⟩
 have b_Walk___init__:=(bN (st:=cZ) l4 c4 k4).binds (ps:=["self", "row"]) (λ _ _ _ _ _ _=>vg λ _ _=>rfl);have b_Walk_is_over:=(bN (st:=dH) l5 c5 k5).binds (ps:=["self"]) (λ _ _ _ _ _ _=>wp λ _=>rfl);have mt_Walk_is_over:bw K ((bM c_Walk c_Frame c_Story c_Goer c_Nought c_Outside) "Walk") "is_over" f5:=by rw [gj];exact ⟨a5,ifn5,k5⟩
 have b_Walk_before:=(bN (st:=eE) l6 c6 k6).binds (ps:=["self"]) (λ _ _ _ _ _ _=>wp λ _=>rfl);have mt_Walk_before:bw K ((bM c_Walk c_Frame c_Story c_Goer c_Nought c_Outside) "Walk") "before" f6:=by rw [gj];exact ⟨a6,ifn6,k6⟩
 have b_Walk_taken:=(bN (st:=fw) l7 c7 k7).binds (ps:=["self"]) (λ _ _ _ _ _ _=>wp λ _=>rfl);have mt_Walk_taken:bw K ((bM c_Walk c_Frame c_Story c_Goer c_Nought c_Outside) "Walk") "taken" f7:=by rw [gj];exact ⟨a7,ifn7,k7⟩
 have b_Frame___init__:=(bN (st:=cM) l8 c8 k8).binds (ps:=["self", "body", "names", "given"]) (λ _ _ _ _ _ _=>Ih λ _ _ _ _=>rfl);have b_Frame_statement:=(bN (st:=cy) l9 c9 k9).binds (ps:=["self"]) (λ _ _ _ _ _ _=>wp λ _=>rfl);have mt_Frame_statement:bw K ((bM c_Walk c_Frame c_Story c_Goer c_Nought c_Outside) "Frame") "statement" f9:=by rw [eg];exact ⟨a9,ifn9,k9⟩
 have b_Frame_pass_by:=(bN (st:=dq) l10 c10 k10).binds (ps:=["self"]) (λ _ _ _ _ _ _=>wp λ _=>rfl);have mt_Frame_pass_by:bw K ((bM c_Walk c_Frame c_Story c_Goer c_Nought c_Outside) "Frame") "pass_by" f10:=by rw [eg];exact ⟨a10,ifn10,k10⟩
 have b_Story___init__:=(bN (st:=cP) l11 c11 k11).binds (ps:=["self"]) (λ _ _ _ _ _ _=>wp λ _=>rfl);have b_Story_begin_phase:=(bN (st:=bV) l12 c12 k12).binds (ps:=["self"]) (λ _ _ _ _ _ _=>wp λ _=>rfl);have mt_Story_begin_phase:bw K ((bM c_Walk c_Frame c_Story c_Goer c_Nought c_Outside) "Story") "begin_phase" f12:=by rw [bK];exact ⟨a12,ifn12,k12⟩
 have b_Story_add_step:=(bN (st:=cK) l13 c13 k13).binds (ps:=["self", "line"]) (λ _ _ _ _ _ _=>vg λ _ _=>rfl);have mt_Story_add_step:bw K ((bM c_Walk c_Frame c_Story c_Goer c_Nought c_Outside) "Story") "add_step" f13:=by rw [bK];exact ⟨a13,ifn13,k13⟩
 have b_Story_add_touch:=(bN (st:=cx) l14 c14 k14).binds (ps:=["self", "word", "place", "line"]) (λ _ _ _ _ _ _=>Ih λ _ _ _ _=>rfl);have mt_Story_add_touch:bw K ((bM c_Walk c_Frame c_Story c_Goer c_Nought c_Outside) "Story") "add_touch" f14:=by rw [bK];exact ⟨a14,ifn14,k14⟩
 have b_Story_add_put:=(bN (st:=dj) l15 c15 k15).binds (ps:=["self", "place", "number"]) (λ _ _ _ _ _ _=>zP λ _ _ _=>rfl);have mt_Story_add_put:bw K ((bM c_Walk c_Frame c_Story c_Goer c_Nought c_Outside) "Story") "add_put" f15:=by rw [bK];exact ⟨a15,ifn15,k15⟩
 have b_Story_finish:=(bN (st:=dJ) l16 c16 k16).binds (ps:=["self", "word", "line"]) (λ _ _ _ _ _ _=>zP λ _ _ _=>rfl);have mt_Story_finish:bw K ((bM c_Walk c_Frame c_Story c_Goer c_Nought c_Outside) "Story") "finish" f16:=by rw [bK];exact ⟨a16,ifn16,k16⟩
 have b_Goer___init__:=(bN (st:=di) l17 c17 k17).binds (ps:=["self", "program", "lane", "lanes", "mine", "boxes", "most"]) (λ _ _ _ _ _ _=>MC λ _ _ _ _ _ _ _=>rfl);have b_Goer_touch:=(bN (st:=fh) l18 c18 k18).binds (ps:=["self", "word", "place"]) (λ _ _ _ _ _ _=>zP λ _ _ _=>rfl);have mt_Goer_touch:bw K ((bM c_Walk c_Frame c_Story c_Goer c_Nought c_Outside) "Goer") "touch" f18:=by rw [bu];exact ⟨a18,ifn18,k18⟩
 have b_Goer_got:=(bN (st:=gK) l19 c19 k19).binds (ps:=["self", "place"]) (λ _ _ _ _ _ _=>vg λ _ _=>rfl);have mt_Goer_got:bw K ((bM c_Walk c_Frame c_Story c_Goer c_Nought c_Outside) "Goer") "got" f19:=by rw [bu];exact ⟨a19,ifn19,k19⟩
 have b_Goer_reckoned:=(bN (st:=dm) l20 c20 k20).binds (ps:=["self", "expression"]) (λ _ _ _ _ _ _=>vg λ _ _=>rfl);have mt_Goer_reckoned:bw K ((bM c_Walk c_Frame c_Story c_Goer c_Nought c_Outside) "Goer") "reckoned" f20:=by rw [bu];exact ⟨a20,ifn20,k20⟩
 have b_Goer_give:=(bN (st:=gk) l21 c21 k21).binds (ps:=["self", "name", "number"]) (λ _ _ _ _ _ _=>zP λ _ _ _=>rfl);have mt_Goer_give:bw K ((bM c_Walk c_Frame c_Story c_Goer c_Nought c_Outside) "Goer") "give" f21:=by rw [bu];exact ⟨a21,ifn21,k21⟩
 have b_Goer_do_put:=(bN (st:=eI) l22 c22 k22).binds (ps:=["self", "statement"]) (λ _ _ _ _ _ _=>vg λ _ _=>rfl);have mt_Goer_do_put:bw K ((bM c_Walk c_Frame c_Story c_Goer c_Nought c_Outside) "Goer") "do_put" f22:=by rw [bu];exact ⟨a22,ifn22,k22⟩
 have b_Goer_come_to:=(bN (st:=dR) l23 c23 k23).binds (ps:=["self", "statement"]) (λ _ _ _ _ _ _=>vg λ _ _=>rfl);have mt_Goer_come_to:bw K ((bM c_Walk c_Frame c_Story c_Goer c_Nought c_Outside) "Goer") "come_to" f23:=by rw [bu];exact ⟨a23,ifn23,k23⟩
 have b_Goer_do:=(bN (st:=iF) l24 c24 k24).binds (ps:=["self", "statement"]) (λ _ _ _ _ _ _=>vg λ _ _=>rfl);have mt_Goer_do:bw K ((bM c_Walk c_Frame c_Story c_Goer c_Nought c_Outside) "Goer") "do" f24:=by rw [bu];exact ⟨a24,ifn24,k24⟩
 have b_Goer_step:=(bN (st:=ge) l25 c25 k25).binds (ps:=["self", "statement"]) (λ _ _ _ _ _ _=>vg λ _ _=>rfl);have mt_Goer_step:bw K ((bM c_Walk c_Frame c_Story c_Goer c_Nought c_Outside) "Goer") "step" f25:=by rw [bu];exact ⟨a25,ifn25,k25⟩
 have b_Goer_end_def:=(bN (st:=dG) l26 c26 k26).binds (ps:=["self"]) (λ _ _ _ _ _ _=>wp λ _=>rfl);have mt_Goer_end_def:bw K ((bM c_Walk c_Frame c_Story c_Goer c_Nought c_Outside) "Goer") "end_def" f26:=by rw [bu];exact ⟨a26,ifn26,k26⟩
 have b_Goer_go:=(bN (st:=iy) l27 c27 k27).binds (ps:=["self"]) (λ _ _ _ _ _ _=>wp λ _=>rfl);have mt_Goer_go:bw K ((bM c_Walk c_Frame c_Story c_Goer c_Nought c_Outside) "Goer") "go" f27:=by rw [bu];exact ⟨a27,ifn27,k27⟩
 have b_Goer_take:=(bN (st:=gh) l28 c28 k28).binds (ps:=["self", "letter"]) (λ _ _ _ _ _ _=>vg λ _ _=>rfl);have mt_Goer_take:bw K ((bM c_Walk c_Frame c_Story c_Goer c_Nought c_Outside) "Goer") "take" f28:=by rw [bu];exact ⟨a28,ifn28,k28⟩
 have cl_Walk:eJ K ((bM c_Walk c_Frame c_Story c_Goer c_Nought c_Outside) "Walk"):=by rw [gj];exact ⟨pg_Walk,hd_Walk,po_Walk,sa_Walk⟩
 have n_Walk_row:ag K ((bM c_Walk c_Frame c_Story c_Goer c_Nought c_Outside) "Walk") "row" := by rw [gj];exact nn_Walk_row
 have n_Walk_at:ag K ((bM c_Walk c_Frame c_Story c_Goer c_Nought c_Outside) "Walk") "at" := by rw [gj];exact nn_Walk_at
 have M_Walk:Mk K ((bM c_Walk c_Frame c_Story c_Goer c_Nought c_Outside) "Walk") f4:=by rw [gj];exact ⟨mk_Walk,a4,ifn4,kc_Walk⟩
 have cl_Frame:eJ K ((bM c_Walk c_Frame c_Story c_Goer c_Nought c_Outside) "Frame"):=by rw [eg];exact ⟨pg_Frame,hd_Frame,po_Frame,sa_Frame⟩
 have n_Frame_names:ag K ((bM c_Walk c_Frame c_Story c_Goer c_Nought c_Outside) "Frame") "names" := by rw [eg];exact nn_Frame_names
 have n_Frame_given:ag K ((bM c_Walk c_Frame c_Story c_Goer c_Nought c_Outside) "Frame") "given" := by rw [eg];exact nn_Frame_given
 have n_Frame_walks:ag K ((bM c_Walk c_Frame c_Story c_Goer c_Nought c_Outside) "Frame") "walks" := by rw [eg];exact nn_Frame_walks
 have n_Frame_loops:ag K ((bM c_Walk c_Frame c_Story c_Goer c_Nought c_Outside) "Frame") "loops" := by rw [eg];exact nn_Frame_loops
 have M_Frame:Mk K ((bM c_Walk c_Frame c_Story c_Goer c_Nought c_Outside) "Frame") f8:=by rw [eg];exact ⟨mk_Frame,a8,ifn8,kc_Frame⟩
 have cl_Story:eJ K ((bM c_Walk c_Frame c_Story c_Goer c_Nought c_Outside) "Story"):=by rw [bK];exact ⟨pg_Story,hd_Story,po_Story,sa_Story⟩
 have n_Story_told:ag K ((bM c_Walk c_Frame c_Story c_Goer c_Nought c_Outside) "Story") "told" := by rw [bK];exact nn_Story_told
 have n_Story_steps:ag K ((bM c_Walk c_Frame c_Story c_Goer c_Nought c_Outside) "Story") "steps" := by rw [bK];exact nn_Story_steps
 have n_Story_end:ag K ((bM c_Walk c_Frame c_Story c_Goer c_Nought c_Outside) "Story") "end" := by rw [bK];exact nn_Story_end
 have n_Story_brought:ag K ((bM c_Walk c_Frame c_Story c_Goer c_Nought c_Outside) "Story") "brought" := by rw [bK];exact nn_Story_brought
 have n_Story_touches:ag K ((bM c_Walk c_Frame c_Story c_Goer c_Nought c_Outside) "Story") "touches" := by rw [bK];exact nn_Story_touches
 have n_Story_puts:ag K ((bM c_Walk c_Frame c_Story c_Goer c_Nought c_Outside) "Story") "puts" := by rw [bK];exact nn_Story_puts
 have n_Story_lines:ag K ((bM c_Walk c_Frame c_Story c_Goer c_Nought c_Outside) "Story") "lines" := by rw [bK];exact nn_Story_lines
 have M_Story:Mk K ((bM c_Walk c_Frame c_Story c_Goer c_Nought c_Outside) "Story") f11:=by rw [bK];exact ⟨mk_Story,a11,ifn11,kc_Story⟩
 have cl_Goer:eJ K ((bM c_Walk c_Frame c_Story c_Goer c_Nought c_Outside) "Goer"):=by rw [bu];exact ⟨pg_Goer,hd_Goer,po_Goer,sa_Goer⟩
 have n_Goer_defs:ag K ((bM c_Walk c_Frame c_Story c_Goer c_Nought c_Outside) "Goer") "defs" := by rw [bu];exact nn_Goer_defs
 have n_Goer_lane:ag K ((bM c_Walk c_Frame c_Story c_Goer c_Nought c_Outside) "Goer") "lane" := by rw [bu];exact nn_Goer_lane
 have n_Goer_signs:ag K ((bM c_Walk c_Frame c_Story c_Goer c_Nought c_Outside) "Goer") "signs" := by rw [bu];exact nn_Goer_signs
 have n_Goer_boxes:ag K ((bM c_Walk c_Frame c_Story c_Goer c_Nought c_Outside) "Goer") "boxes" := by rw [bu];exact nn_Goer_boxes
 have n_Goer_most:ag K ((bM c_Walk c_Frame c_Story c_Goer c_Nought c_Outside) "Goer") "most" := by rw [bu];exact nn_Goer_most
 have n_Goer_frames:ag K ((bM c_Walk c_Frame c_Story c_Goer c_Nought c_Outside) "Goer") "frames" := by rw [bu];exact nn_Goer_frames
 have n_Goer_line:ag K ((bM c_Walk c_Frame c_Story c_Goer c_Nought c_Outside) "Goer") "line" := by rw [bu];exact nn_Goer_line
 have n_Goer_meeting:ag K ((bM c_Walk c_Frame c_Story c_Goer c_Nought c_Outside) "Goer") "meeting" := by rw [bu];exact nn_Goer_meeting
 have n_Goer_story:ag K ((bM c_Walk c_Frame c_Story c_Goer c_Nought c_Outside) "Goer") "story" := by rw [bu];exact nn_Goer_story
 have M_Goer:Mk K ((bM c_Walk c_Frame c_Story c_Goer c_Nought c_Outside) "Goer") f17:=by rw [bu];exact ⟨mk_Goer,a17,ifn17,kc_Goer⟩
 have z_bool:=Pm X G zz_bool;have z_int:=Pm X G zz_int;have z_isinstance:=Pm X G zz_isinstance;have z_len:=Pm X G zz_len;have z_list:=Pm X G zz_list;have z_max:=Pm X G zz_max;have z_min:=Pm X G zz_min;have z_range:=Pm X G zz_range;have z_repr:=Pm X G zz_repr;have z_sum:=Pm X G zz_sum;have m_LEAST:=Py X G mm_LEAST;have g_LEAST:∀ ρ G,Dw K ρ G (.int (-2147483648)) ((.int (-2147483648))):=λ ρ G=>Dw.int _;have m_SIGNS:=Py X G mm_SIGNS;have g_SIGNS:DQ K a_SIGNS ([(Str.ofString "lane"),(Str.ofString "lanes"),(Str.ofString "mine")]):=λ _=>xv lk_SIGNS lc_SIGNS lt_SIGNS;have m_SPAN:=Py X G mm_SPAN;have g_SPAN:∀ ρ G,Dw K ρ G (.int 4294967296) ((.int 4294967296)):=λ ρ G=>Dw.int _;obtain ⟨_,_,_,kV,dc,pm,an,cd,ct,_,ml,ll,cL,kL⟩:=a44;cases hfa.symm.trans (Py X G ml);refine ⟨PySem.W.fnOf "law" "law" (aU tN) (aO tN) (ax tN) .none kV dc pm an cd ct,λ s v=>.of_eq rfl,λ base _ _=>?_⟩;have C_wrapped:=vw (P:=l.prog) (w:=w) (base:=base) (a0.dn X G (λ _ _ _ _ _ _=>wp λ _=>rfl)) m_LEAST g_LEAST m_SPAN g_SPAN;have C_unwrapped:=sH (P:=l.prog) (w:=w) (base:=base) (a1.dn X G (λ _ _ _ _ _ _=>zP λ _ _ _=>rfl));have C_worked:=xH (a2.dn X G (λ _ _ _ _ _ _=>zP λ _ _ _=>rfl)) C_wrapped C_unwrapped;have C_joined:=xu (a3.dn X G (λ _ _ _ _ _ _=>zP λ _ _ _=>rfl)) C_wrapped z_sum z_max z_min;have C_Walk___init__:=mF (P:=l.prog) (w:=w) (base:=base) (cl:=(bM c_Walk c_Frame c_Story c_Goer c_Nought c_Outside)) ⟨_,_,b4 l4 c4 k4,M_Walk,b_Walk___init__⟩ m_Walk cl_Walk n_Walk_row n_Walk_at;have C_Walk_is_over:=nP (P:=l.prog) (w:=w) (base:=base) (cl:=(bM c_Walk c_Frame c_Story c_Goer c_Nought c_Outside)) ⟨_,_,b4 l5 c5 k5,mt_Walk_is_over,b_Walk_is_over⟩ m_Walk cl_Walk n_Walk_row n_Walk_at z_len;have C_Walk_before:=oS (P:=l.prog) (w:=w) (base:=base) (cl:=(bM c_Walk c_Frame c_Story c_Goer c_Nought c_Outside)) ⟨_,_,b4 l6 c6 k6,mt_Walk_before,b_Walk_before⟩ m_Walk cl_Walk n_Walk_row n_Walk_at;have C_Walk_taken:=pS (P:=l.prog) (w:=w) (base:=base) (cl:=(bM c_Walk c_Frame c_Story c_Goer c_Nought c_Outside)) ⟨_,_,b4 l7 c7 k7,mt_Walk_taken,b_Walk_taken⟩ m_Walk cl_Walk n_Walk_row n_Walk_at;have C_Frame___init__:=lf (cl:=(bM c_Walk c_Frame c_Story c_Goer c_Nought c_Outside)) ⟨_,_,b4 l8 c8 k8,M_Frame,b_Frame___init__⟩ C_Walk___init__ m_Frame cl_Frame n_Frame_names n_Frame_given n_Frame_walks n_Frame_loops m_Walk cl_Walk n_Walk_row n_Walk_at;have C_Frame_statement:=kB (cl:=(bM c_Walk c_Frame c_Story c_Goer c_Nought c_Outside)) ⟨_,_,b4 l9 c9 k9,mt_Frame_statement,b_Frame_statement⟩ C_Walk_is_over C_Walk_before m_Frame cl_Frame n_Frame_names n_Frame_given n_Frame_walks n_Frame_loops m_Walk cl_Walk n_Walk_row n_Walk_at z_len;have C_Frame_pass_by:=mq (cl:=(bM c_Walk c_Frame c_Story c_Goer c_Nought c_Outside)) ⟨_,_,b4 l10 c10 k10,mt_Frame_pass_by,b_Frame_pass_by⟩ C_Walk_taken m_Frame cl_Frame n_Frame_names n_Frame_given n_Frame_walks n_Frame_loops m_Walk cl_Walk n_Walk_row n_Walk_at;have C_Story___init__:=lE (P:=l.prog) (w:=w) (base:=base) (cl:=(bM c_Walk c_Frame c_Story c_Goer c_Nought c_Outside)) ⟨_,_,b4 l11 c11 k11,M_Story,b_Story___init__⟩ m_Story cl_Story n_Story_told n_Story_steps n_Story_end n_Story_brought n_Story_touches n_Story_puts n_Story_lines;have C_Story_begin_phase:=jz (P:=l.prog) (w:=w) (base:=base) (cl:=(bM c_Walk c_Frame c_Story c_Goer c_Nought c_Outside)) ⟨_,_,b4 l12 c12 k12,mt_Story_begin_phase,b_Story_begin_phase⟩ m_Story cl_Story n_Story_told n_Story_steps n_Story_end n_Story_brought n_Story_touches n_Story_puts n_Story_lines;have C_Story_add_step:=kZ (P:=l.prog) (w:=w) (base:=base) (cl:=(bM c_Walk c_Frame c_Story c_Goer c_Nought c_Outside)) ⟨_,_,b4 l13 c13 k13,mt_Story_add_step,b_Story_add_step⟩ m_Story cl_Story n_Story_told n_Story_steps n_Story_end n_Story_brought n_Story_touches n_Story_puts n_Story_lines;have C_Story_add_touch:=kz (P:=l.prog) (w:=w) (base:=base) (cl:=(bM c_Walk c_Frame c_Story c_Goer c_Nought c_Outside)) ⟨_,_,b4 l14 c14 k14,mt_Story_add_touch,b_Story_add_touch⟩ m_Story cl_Story n_Story_told n_Story_steps n_Story_end n_Story_brought n_Story_touches n_Story_puts n_Story_lines;have C_Story_add_put:=md (P:=l.prog) (w:=w) (base:=base) (cl:=(bM c_Walk c_Frame c_Story c_Goer c_Nought c_Outside)) ⟨_,_,b4 l15 c15 k15,mt_Story_add_put,b_Story_add_put⟩ m_Story cl_Story n_Story_told n_Story_steps n_Story_end n_Story_brought n_Story_touches n_Story_puts n_Story_lines;have N_Story_finish:=nI (P:=l.prog) (w:=w) (base:=base) (cl:=(bM c_Walk c_Frame c_Story c_Goer c_Nought c_Outside)) ⟨_,_,b4 l16 c16 k16,mt_Story_finish,b_Story_finish⟩ m_Story cl_Story n_Story_told n_Story_steps n_Story_end n_Story_brought n_Story_touches n_Story_puts n_Story_lines;have C_Story_finish:=N_Story_finish.ce;have C_Goer___init__:=m7 (cl:=(bM c_Walk c_Frame c_Story c_Goer c_Nought c_Outside)) ⟨_,_,b4 l17 c17 k17,M_Goer,b_Goer___init__⟩ C_wrapped C_Frame___init__ C_Story___init__ C_Story_begin_phase m_Frame cl_Frame n_Frame_names n_Frame_given n_Frame_walks n_Frame_loops m_Goer cl_Goer n_Goer_defs n_Goer_lane n_Goer_signs n_Goer_boxes n_Goer_most n_Goer_frames n_Goer_line n_Goer_meeting n_Goer_story m_Story cl_Story n_Story_told n_Story_steps n_Story_end n_Story_brought n_Story_touches n_Story_puts n_Story_lines;have C_Goer_touch:=pG (cl:=(bM c_Walk c_Frame c_Story c_Goer c_Nought c_Outside)) ⟨_,_,b4 l18 c18 k18,mt_Goer_touch,b_Goer_touch⟩ C_Story_add_touch m_Goer cl_Goer n_Goer_defs n_Goer_lane n_Goer_signs n_Goer_boxes n_Goer_most n_Goer_frames n_Goer_line n_Goer_meeting n_Goer_story m_Story cl_Story n_Story_told n_Story_steps n_Story_end n_Story_brought n_Story_touches n_Story_puts n_Story_lines m_Outside x_Outside z_len;have C_Goer_got:=ux (cl:=(bM c_Walk c_Frame c_Story c_Goer c_Nought c_Outside)) ⟨_,_,b4 l19 c19 k19,mt_Goer_got,b_Goer_got⟩ C_Goer_touch m_Goer cl_Goer n_Goer_defs n_Goer_lane n_Goer_signs n_Goer_boxes n_Goer_most n_Goer_frames n_Goer_line n_Goer_meeting n_Goer_story;have C_Goer_reckoned:=mI (cl:=(bM c_Walk c_Frame c_Story c_Goer c_Nought c_Outside)) ⟨_,_,b4 l20 c20 k20,mt_Goer_reckoned,b_Goer_reckoned⟩ C_Goer_got C_worked m_Frame cl_Frame n_Frame_names n_Frame_given n_Frame_walks n_Frame_loops m_Goer cl_Goer n_Goer_defs n_Goer_lane n_Goer_signs n_Goer_boxes n_Goer_most n_Goer_frames n_Goer_line n_Goer_meeting n_Goer_story m_Nought x_Nought m_SIGNS g_SIGNS;have C_Goer_give:=rP (P:=l.prog) (w:=w) (base:=base) (cl:=(bM c_Walk c_Frame c_Story c_Goer c_Nought c_Outside)) ⟨_,_,b4 l21 c21 k21,mt_Goer_give,b_Goer_give⟩ m_Frame cl_Frame n_Frame_names n_Frame_given n_Frame_walks n_Frame_loops m_Goer cl_Goer n_Goer_defs n_Goer_lane n_Goer_signs n_Goer_boxes n_Goer_most n_Goer_frames n_Goer_line n_Goer_meeting n_Goer_story;have C_Goer_do_put:=p8 (cl:=(bM c_Walk c_Frame c_Story c_Goer c_Nought c_Outside)) ⟨_,_,b4 l22 c22 k22,mt_Goer_do_put,b_Goer_do_put⟩ C_Goer_reckoned C_Goer_touch C_Story_add_put m_Goer cl_Goer n_Goer_defs n_Goer_lane n_Goer_signs n_Goer_boxes n_Goer_most n_Goer_frames n_Goer_line n_Goer_meeting n_Goer_story m_Story cl_Story n_Story_told n_Story_steps n_Story_end n_Story_brought n_Story_touches n_Story_puts n_Story_lines;have C_Goer_come_to:=nJ (cl:=(bM c_Walk c_Frame c_Story c_Goer c_Nought c_Outside)) ⟨_,_,b4 l23 c23 k23,mt_Goer_come_to,b_Goer_come_to⟩ C_Goer_reckoned m_Goer cl_Goer n_Goer_defs n_Goer_lane n_Goer_signs n_Goer_boxes n_Goer_most n_Goer_frames n_Goer_line n_Goer_meeting n_Goer_story m_Story cl_Story n_Story_told n_Story_steps n_Story_end n_Story_brought n_Story_touches n_Story_puts n_Story_lines;have C_Goer_do:=vA (cl:=(bM c_Walk c_Frame c_Story c_Goer c_Nought c_Outside)) ⟨_,_,b4 l24 c24 k24,mt_Goer_do,b_Goer_do⟩ C_Frame_pass_by C_Goer_give C_Goer_reckoned C_Goer_do_put C_Goer_come_to m_Frame cl_Frame n_Frame_names n_Frame_given n_Frame_walks n_Frame_loops m_Goer cl_Goer n_Goer_defs n_Goer_lane n_Goer_signs n_Goer_boxes n_Goer_most n_Goer_frames n_Goer_line n_Goer_meeting n_Goer_story m_Story cl_Story n_Story_told n_Story_steps n_Story_end n_Story_brought n_Story_touches n_Story_puts n_Story_lines;have C_Goer_step:=sR (cl:=(bM c_Walk c_Frame c_Story c_Goer c_Nought c_Outside)) ⟨_,_,b4 l25 c25 k25,mt_Goer_step,b_Goer_step⟩ C_Story_add_step C_Goer_do m_Goer cl_Goer n_Goer_defs n_Goer_lane n_Goer_signs n_Goer_boxes n_Goer_most n_Goer_frames n_Goer_line n_Goer_meeting n_Goer_story m_Story cl_Story n_Story_told n_Story_steps n_Story_end n_Story_brought n_Story_touches n_Story_puts n_Story_lines m_Nought m_Outside xm N_Story_finish;have C_Goer_end_def:=nQ (cl:=(bM c_Walk c_Frame c_Story c_Goer c_Nought c_Outside)) ⟨_,_,b4 l26 c26 k26,mt_Goer_end_def,b_Goer_end_def⟩ C_Story_finish m_Goer cl_Goer n_Goer_defs n_Goer_lane n_Goer_signs n_Goer_boxes n_Goer_most n_Goer_frames n_Goer_line n_Goer_meeting n_Goer_story m_Story cl_Story n_Story_told n_Story_steps n_Story_end n_Story_brought n_Story_touches n_Story_puts n_Story_lines z_len;have C_Goer_go:=uT (cl:=(bM c_Walk c_Frame c_Story c_Goer c_Nought c_Outside)) ⟨_,_,b4 l27 c27 k27,mt_Goer_go,b_Goer_go⟩ C_Frame_statement C_Goer_end_def C_Goer_step m_Frame cl_Frame n_Frame_names n_Frame_given n_Frame_walks n_Frame_loops m_Goer cl_Goer n_Goer_defs n_Goer_lane n_Goer_signs n_Goer_boxes n_Goer_most n_Goer_frames n_Goer_line n_Goer_meeting n_Goer_story m_Story cl_Story n_Story_told n_Story_steps n_Story_end n_Story_brought n_Story_touches n_Story_puts n_Story_lines;have C_Goer_take:=rN (cl:=(bM c_Walk c_Frame c_Story c_Goer c_Nought c_Outside)) ⟨_,_,b4 l28 c28 k28,mt_Goer_take,b_Goer_take⟩ C_Goer_give C_joined C_Story_begin_phase m_Goer cl_Goer n_Goer_defs n_Goer_lane n_Goer_signs n_Goer_boxes n_Goer_most n_Goer_frames n_Goer_line n_Goer_meeting n_Goer_story m_Story cl_Story n_Story_told n_Story_steps n_Story_end n_Story_brought n_Story_touches n_Story_puts n_Story_lines z_list;have C_alone:=yB (cl:=(bM c_Walk c_Frame c_Story c_Goer c_Nought c_Outside)) (a29.dn X G (λ _ _ _ _ _ _=>MC λ _ _ _ _ _ _ _=>rfl)) C_Goer___init__ C_Goer_go C_Goer_take m_Goer cl_Goer n_Goer_defs n_Goer_lane n_Goer_signs n_Goer_boxes n_Goer_most n_Goer_frames n_Goer_line n_Goer_meeting n_Goer_story;have C__law_cell:=sD (P:=l.prog) (w:=w) (base:=base) (a30.dn X G (λ _ _ _ _ _ _=>vg λ _ _=>rfl)) z_len;have C__law_mixed:=pJ (P:=l.prog) (w:=w) (base:=base) (a31.dn X G (λ _ _ _ _ _ _=>vg λ _ _=>rfl));have C__law_all_whole:=lB (P:=l.prog) (w:=w) (base:=base) (cl:=(bM c_Walk c_Frame c_Story c_Goer c_Nought c_Outside)) (a32.dn X G (λ _ _ _ _ _ _=>wp λ _=>rfl)) z_len z_isinstance z_bool z_int;have C__law_into_range:=kr (P:=l.prog) (w:=w) (base:=base) (a33.dn X G (λ _ _ _ _ _ _=>wp λ _=>rfl));have C__law_names:=pQ (P:=l.prog) (w:=w) (base:=base) (a34.dn X G (λ _ _ _ _ _ _=>wp λ _=>rfl)) z_range;have C__law_letters:=nR (a35.dn X G (λ _ _ _ _ _ _=>ML λ _ _ _ _ _=>rfl)) C__law_cell C__law_mixed z_range;have C__law_value:=pV (cl:=(bM c_Walk c_Frame c_Story c_Goer c_Nought c_Outside)) (a36.dn X G (λ _ _ _ _ _ _=>vg λ _ _=>rfl)) C__law_into_range;have C__law_place:=pH (P:=l.prog) (w:=w) (base:=base) (cl:=(bM c_Walk c_Frame c_Story c_Goer c_Nought c_Outside)) (a37.dn X G (λ _ _ _ _ _ _=>vg λ _ _=>rfl)) z_len z_max;have C__law_line:=sk (cl:=(bM c_Walk c_Frame c_Story c_Goer c_Nought c_Outside)) (a38.dn X G (λ _ _ _ _ _ _=>zP λ _ _ _=>rfl)) C__law_mixed C__law_place C__law_value;have C__law_comes:=pP (a39.dn X G (λ _ _ _ _ _ _=>zP λ _ _ _=>rfl)) C__law_into_range z_max z_min z_sum;have C__law_meeting:=nM (cl:=(bM c_Walk c_Frame c_Story c_Goer c_Nought c_Outside)) (a40.dn X G (λ _ _ _ _ _ _=>zP λ _ _ _=>rfl)) C__law_comes z_list;have C__law_touched:=nK (P:=l.prog) (w:=w) (base:=base) (cl:=(bM c_Walk c_Frame c_Story c_Goer c_Nought c_Outside)) (a41.dn X G (λ _ _ _ _ _ _=>Ih λ _ _ _ _=>rfl)) z_int;have C__law_done:=sC (cl:=(bM c_Walk c_Frame c_Story c_Goer c_Nought c_Outside)) (a42.dn X G (λ _ _ _ _ _ _=>Ih λ _ _ _ _=>rfl)) C__law_touched C__law_meeting z_len;have C__law_holds:=pK (cl:=(bM c_Walk c_Frame c_Story c_Goer c_Nought c_Outside)) (a43.dn X G (λ _ _ _ _ _ _=>vg λ _ _=>rfl)) C__law_all_whole m_Story cl_Story n_Story_told n_Story_steps n_Story_end n_Story_brought n_Story_touches n_Story_puts n_Story_lines z_len;obtain ⟨_,_,⟨rfl,rfl⟩,F⟩:=G7 (cl:=(bM c_Walk c_Frame c_Story c_Goer c_Nought c_Outside)) (R:=λ g gd=>g=fa/\gd=_) yP ⟨_,_,b4 ll cL kL,rfl,rfl⟩ C__law_mixed C__law_cell C__law_letters C__law_into_range C__law_names C__law_line C__law_done C_alone C__law_holds m_Story cl_Story n_Story_told n_Story_steps n_Story_end n_Story_brought n_Story_touches n_Story_puts n_Story_lines z_range z_list z_len z_repr;exact F
theorem walk {l:PySem.W.OpenLaw} {q:Program} {loose:List Str} {XP:(Str->Option Value)->Heap->Prop} {YP:World->Heap->Prop} {d:DefRec} {K:Params->Frag} (hn:l.most=some 63) (hdf:d.params.defaults=[])
 (hY:∀ (w:World) (h:Heap),YP w h->(K w.params).In h)
 (F:∀ (w:World) (mg:Str->Option Value) (fa:Addr) (h:Heap),(K w.params).In h->h.Ns mainGlobals mg->mg d.name=some (.ref fa)->
  ∃ fd:FuncData,(∀ (s:Shared) (u:Value),BindsTo s fd ⟨[u],[]⟩ [("_law_script", u)])/\∀ base:Heap,(K w.params).In base->base.Ns mainGlobals mg->fH l.prog w (K w.params) mg base vk 18 fa fd ["_law_script"] (rc (K w.params))):
 PySem.W.WalkO q loose XP YP l.row.toRowW d [] (λ f vs=>PySem.call f vs):=
 L2.walk_of (n:=63) (k:=18) (x := "_law_script") (CX:=λ _=>vk) (sp:=λ w=>(rc (K w.params))) hn (by decide) hdf ⟨rfl,by decide,by decide,rfl⟩ hY F (λ _ _ a ns hl _ hS=>⟨a,ns,rfl,hS,hl,λ _=>rfl⟩) λ _ _ _ _ _ z=>z
theorem toX {q:Program} {loose:List Str} {XP:(Str->Option Value)->Heap->Prop} {r:PySem.W.RowW} {d:DefRec} {kwd:List (Str×Expr)} {run:Value->List Value->Sem Value} {K:Params->Frag} {as:List Addr} {n t:Nat} (e:∀ P,as=(K P).map (·.1))
 (h:PySem.W.WalkO q loose XP (λ w h=>(K w.params).In h) r d kwd run):PySem.W.WalkX q loose XP (PySem.W.X.obsZ as) (PySem.W.X.valZ K n t) r d kwd run:=
 λ w s0 s1 mg mb G y a o pm cd doc dV kV h1 h2 h3 h4 h5 h6 args vals as' L hp hl hr hw ho=>h w s0 s1 mg mb G (PySem.W.InK.keeps w s0.heap s1.heap (PySem.W.X.z_facts e y).2.1 L.keeps) a o pm cd doc dV kV h1 h2 h3 h4 h5 h6 args vals as' hp hl hr hw ho
end My
open PySem PySem.W PyProof.Rows
def Sp.k {α : Type} (x : α) (t : True) : α := x
local macro_rules
 | `(command| universe $z) => do
  let F (s : String) (n : Lean.Name) := Lean.mkIdent (`PySem.W.Fast ++ .mkSimple s!"{s}{n.hash}")
  let mut a := #[]
  let mut b := #[]
  let p := Lean.mkIdent `PySem.Challenge.pw_widelanes_k45_alone_and_letters
  for k in [0:38] do
   let c := .mkStr2 "Sp" s!"c{k}"
   let C := Lean.mkIdent c
   let (T, e) <- if k < 37 then pure (<- `(Stmt), <- `(($p).main.body.getD $(Lean.quote k) (.Pass ⟨0, 0, 0, 0⟩))) else pure (<- `(Scope), <- `(($p).main.scope))
   a := ((a.push (<- `(command| def $C : $T := $e))).push (<- `(command| noncomputable def $(F "tw" c) : $T := by
    refine Sp.k ?x ?t
    case t =>
     have h : $C = ?x := by conv => lhs; whnf
     exact trivial))).push (<- `(command| theorem $(F "te" c) : $C = $(F "tw" c) := by kernel_rfl))
   b := b.push C
  for (i, j) in ([(897,1447)] : List (Nat × Nat)) do
   for k in [i:j] do
    a := a.push (<- `(command| def $(F "tw" (`PySem.Challenge.cw_widelanes_k45_alone_and_letters_holds ++ .mkSimple s!"o_{k}")) := ()))
  let q := b.pop
  let s := b.back!
  return Lean.mkNullNode (a.push (<- `(command| def $(Lean.mkIdent `Sp.p) : Program := { main := { body := [$q,*], scope := $s, futureAnnotations := false, file := "/claim/cut.py", more := [] }, modules := [], parses := [], absent := [], harvested := [], given := { argv := [], stdin := [], environ := (some [([76, 67, 95, 65, 76, 76], [67, 46, 85, 84, 70, 45, 56])]) } })))
universe u
set_option maxRecDepth 100000 in
set_option maxHeartbeats 0 in
theorem PySem.Challenge.cw_widelanes_k45_alone_and_letters_holds : PySem.Challenge.rw_widelanes_k45_alone_and_letters.Holds := by
 show OpenLaw.Holds { prog := Sp.p, name := "law", about := ["alone"], foot := 15, most := some 63, bound := none, writes := false }
 w_on; o_law;z_head;(case hw=>w_witness2)
 refine My.toX (λ _=>rfl) (My.walk (l:={ prog := Sp.p, name := "law", about := ["alone"], foot := 15, most := some 63, bound := none, writes := false }) rfl rfl (λ w h Y=>Y) ?F)
 case F=>
  intro w mg fa h KX G hmg;refine' My.all_mk KX G hmg ?mm_Walk ?mm_Frame ?mm_Story ?mm_Goer ?mm_Nought ?mm_Outside ?ex_Nought ?ex_Outside ?xm1 ?xm2 ?xm3 ?a0 ?a1 ?a2 ?a3 ?a4 ?ifn4 ?l4 ?c4 ?k4 ?a5 ?ifn5 ?l5 ?c5 ?k5 ?a6 ?ifn6 ?l6 ?c6 ?k6 ?a7 ?ifn7 ?l7 ?c7 ?k7 ?a8 ?ifn8 ?l8 ?c8 ?k8 ?a9 ?ifn9 ?l9 ?c9 ?k9 ?a10 ?ifn10 ?l10 ?c10 ?k10 ?a11 ?ifn11 ?l11 ?c11 ?k11 ?a12 ?ifn12 ?l12 ?c12 ?k12 ?a13 ?ifn13 ?l13 ?c13 ?k13 ?a14 ?ifn14 ?l14 ?c14 ?k14 ?a15 ?ifn15 ?l15 ?c15 ?k15 ?a16 ?ifn16 ?l16 ?c16 ?k16 ?a17 ?ifn17 ?l17 ?c17 ?k17 ?a18 ?ifn18 ?l18 ?c18 ?k18 ?a19 ?ifn19 ?l19 ?c19 ?k19 ?a20 ?ifn20 ?l20 ?c20 ?k20 ?a21 ?ifn21 ?l21 ?c21 ?k21 ?a22 ?ifn22 ?l22 ?c22 ?k22 ?a23 ?ifn23 ?l23 ?c23 ?k23 ?a24 ?ifn24 ?l24 ?c24 ?k24 ?a25 ?ifn25 ?l25 ?c25 ?k25 ?a26 ?ifn26 ?l26 ?c26 ?k26 ?a27 ?ifn27 ?l27 ?c27 ?k27 ?a28 ?ifn28 ?l28 ?c28 ?k28 ?a29 ?a30 ?a31 ?a32 ?a33 ?a34 ?a35 ?a36 ?a37 ?a38 ?a39 ?a40 ?a41 ?a42 ?a43 ?a44 ?pg_Walk ?hd_Walk ?po_Walk ?sa_Walk ?mk_Walk ?kc_Walk ?nn_Walk_row ?nn_Walk_at ?pg_Frame ?hd_Frame ?po_Frame ?sa_Frame ?mk_Frame ?kc_Frame ?nn_Frame_names ?nn_Frame_given ?nn_Frame_walks ?nn_Frame_loops ?pg_Story ?hd_Story ?po_Story ?sa_Story ?mk_Story ?kc_Story ?nn_Story_told ?nn_Story_steps ?nn_Story_end ?nn_Story_brought ?nn_Story_touches ?nn_Story_puts ?nn_Story_lines ?pg_Goer ?hd_Goer ?po_Goer ?sa_Goer ?mk_Goer ?kc_Goer ?nn_Goer_defs ?nn_Goer_lane ?nn_Goer_signs ?nn_Goer_boxes ?nn_Goer_most ?nn_Goer_frames ?nn_Goer_line ?nn_Goer_meeting ?nn_Goer_story ?zz_bool ?zz_int ?zz_isinstance ?zz_len ?zz_list ?zz_max ?zz_min ?zz_range ?zz_repr ?zz_sum ?mm_LEAST ?mm_SIGNS ?lk_SIGNS ?lc_SIGNS ?lt_SIGNS ?mm_SPAN
  (case mm_Walk | mm_Frame | mm_Story | mm_Goer | mm_Nought | mm_Outside=>k_is)
  (case ex_Nought | ex_Outside=>(unfold L2.XClE L2.mroEx;k_exc))
  (case xm1 | xm2 | xm3=>kts_exm)
  (case a0 | a1 | a2 | a3=>exact ⟨_,_,_,_,_,_,_,_,_,_,by k_is,by k_is,by k_is,by k_is⟩)
  (case a4 | ifn4 | l4 | c4 | k4 | a5 | ifn5 | l5 | c5 | k5 | a6 | ifn6 | l6 | c6 | k6 | a7 | ifn7 | l7 | c7 | k7 | a8 | ifn8 | l8 | c8 | k8 | a9 | ifn9 | l9 | c9 | k9 | a10 | ifn10 | l10 | c10 | k10 | a11 | ifn11 | l11 | c11 | k11 | a12 | ifn12 | l12 | c12 | k12 | a13 | ifn13 | l13 | c13 | k13 | a14 | ifn14 | l14 | c14 | k14 | a15 | ifn15 | l15 | c15 | k15 | a16 | ifn16 | l16 | c16 | k16 | a17 | ifn17 | l17 | c17 | k17 | a18 | ifn18 | l18 | c18 | k18 | a19 | ifn19 | l19 | c19 | k19 | a20 | ifn20 | l20 | c20 | k20 | a21 | ifn21 | l21 | c21 | k21 | a22 | ifn22 | l22 | c22 | k22 | a23 | ifn23 | l23 | c23 | k23 | a24 | ifn24 | l24 | c24 | k24 | a25 | ifn25 | l25 | c25 | k25 | a26 | ifn26 | l26 | c26 | k26 | a27 | ifn27 | l27 | c27 | k27 | a28 | ifn28 | l28 | c28 | k28=>k_is)
  (case a29 | a30 | a31 | a32 | a33 | a34 | a35 | a36 | a37 | a38 | a39 | a40 | a41 | a42 | a43 | a44=>exact ⟨_,_,_,_,_,_,_,_,_,_,by k_is,by k_is,by k_is,by k_is⟩)
  (case pg_Walk | hd_Walk | po_Walk | sa_Walk | mk_Walk | kc_Walk | nn_Walk_row | nn_Walk_at | pg_Frame | hd_Frame | po_Frame | sa_Frame | mk_Frame | kc_Frame | nn_Frame_names | nn_Frame_given | nn_Frame_walks | nn_Frame_loops | pg_Story | hd_Story | po_Story | sa_Story | mk_Story | kc_Story | nn_Story_told | nn_Story_steps | nn_Story_end | nn_Story_brought | nn_Story_touches | nn_Story_puts | nn_Story_lines | pg_Goer | hd_Goer | po_Goer | sa_Goer | mk_Goer | kc_Goer | nn_Goer_defs | nn_Goer_lane | nn_Goer_signs | nn_Goer_boxes | nn_Goer_most | nn_Goer_frames | nn_Goer_line | nn_Goer_meeting | nn_Goer_story | zz_bool | zz_int | zz_isinstance | zz_len | zz_list | zz_max | zz_min | zz_range | zz_repr | zz_sum | mm_LEAST | mm_SIGNS | lk_SIGNS=>k_is)
  (case lc_SIGNS=>rfl)
  (case lt_SIGNS=>kernel_rfl)
  (case mm_SPAN=>k_is)
