import PyProof.Rows.All
import Wide.All
import OpenK.AllK
import Wide.FinOn
import Lean
import PyProof.EqAt
import PyProof.EqKinds
import PyProof.TupleCall
import PySem.Challenge.RW_widelanes_k24_rows_of_defs
set_option Elab.async false
set_option genSizeOf false
set_option genSizeOfSpec false
set_option compiler.extract_closed false
set_option linter.all false
set_option maxRecDepth 100000
section
local macro_rules|`(tactic| omega)=>`(tactic| first | lia | omega +splitNatSub)
namespace L2
open PySem PySem.Spec PyProof.Rows
open PySem.W (Frag)
theorem TY:type_of% @List.mem_cons_of_mem:=@List.mem_cons_of_mem
theorem TZ:type_of% @Option.bind_some:=@Option.bind_some
theorem Ua:type_of% @List.mem_cons_self:=@List.mem_cons_self
theorem Ub:type_of% @List.mem_cons:=@List.mem_cons
theorem Uc:type_of% @Heap.get?_push_of_some:=@Heap.get?_push_of_some
theorem Ud:type_of% @List.length_cons:=@List.length_cons
theorem Ue:type_of% @Option.map_some:=@Option.map_some
theorem Uf:type_of% @wpAny_bind:=@wpAny_bind
theorem Ug:type_of% @Nat.le_refl:=@Nat.le_refl
theorem Uh:type_of% @congrArg:=@congrArg
theorem Ui:type_of% @Nat.lt_of_lt_of_le:=@Nat.lt_of_lt_of_le
theorem Uj:type_of% @List.length_map:=@List.length_map
theorem Uk:type_of% @List.map_cons:=@List.map_cons
theorem Ul:type_of% @if_pos:=@if_pos
theorem Um:type_of% @Heap.lt_size:=@Heap.lt_size
theorem Uo:type_of% @List.mem_append_right:=@List.mem_append_right
theorem Up:type_of% @decide_eq_false:=@decide_eq_false
theorem Uq:type_of% @decide_eq_true:=@decide_eq_true
theorem Ur:type_of% @List.length_append:=@List.length_append
theorem Us:type_of% @List.mem_append:=@List.mem_append
theorem Ut:type_of% @wpAny_pure:=@wpAny_pure
theorem Uu:type_of% @List.getElem?_eq_getElem:=@List.getElem?_eq_getElem
theorem Uv:type_of% @Heap.get?_push_size:=@Heap.get?_push_size
theorem Uw:type_of% @Bool.false_ne_true:=@Bool.false_ne_true
theorem Ux:type_of% @List.getElem?_set_ne:=@List.getElem?_set_ne
theorem Uy:type_of% @Nat.ne_of_lt:=@Nat.ne_of_lt
theorem Uz:type_of% @Bool.and_eq_true:=@Bool.and_eq_true
theorem UA:type_of% @List.getElem?_append_left:=@List.getElem?_append_left
theorem UB:type_of% @List.mem_singleton:=@List.mem_singleton
theorem UC:type_of% @decide_eq_true_eq:=@decide_eq_true_eq
theorem UD:type_of% @List.find?_cons:=@List.find?_cons
theorem UE:type_of% @if_neg:=@if_neg
theorem UF:type_of% @Nat.le_trans:=@Nat.le_trans
theorem UG:type_of% @List.size_toArray:=@List.size_toArray
theorem UH:type_of% @PySem.W.mg_of:=@PySem.W.mg_of
theorem UI:type_of% @List.all_eq_true:=@List.all_eq_true
theorem UJ:type_of% @PySem.W.mg_none_of:=@PySem.W.mg_none_of
theorem UK:type_of% @List.append_nil:=@List.append_nil
theorem UL:type_of% @List.nil_append:=@List.nil_append
theorem UM:type_of% @List.mem_append_left:=@List.mem_append_left
theorem UN:type_of% @of_decide_eq_true:=@of_decide_eq_true
theorem UO:type_of% @List.getElem?_append_right:=@List.getElem?_append_right
theorem UP:type_of% @wpAny_truthy_bool:=@wpAny_truthy_bool
theorem UQ:type_of% @wpAny_holding:=@wpAny_holding
theorem UR:type_of% @Bool.false_eq_true:=@Bool.false_eq_true
theorem US:type_of% @List.length_filter_le:=@List.length_filter_le
theorem UT:type_of% @List.getElem?_map:=@List.getElem?_map
theorem UU:type_of% @wpAny_mono:=@wpAny_mono
theorem UV:type_of% @List.mem_of_getElem?:=@List.mem_of_getElem?
theorem UW:type_of% @Option.some.inj:=@Option.some.inj
theorem UX:type_of% @List.map_append:=@List.map_append
theorem UY:type_of% @Nat.lt_succ_self:=@Nat.lt_succ_self
theorem UZ:type_of% @List.prefix_refl:=@List.prefix_refl
theorem U0:type_of% @List.drop_eq_getElem_cons:=@List.drop_eq_getElem_cons
theorem U1:type_of% @List.length_set:=@List.length_set
theorem U2:type_of% @PySem.F.called_set:=@PySem.F.called_set
theorem U3:type_of% @List.filter_append_perm:=@List.filter_append_perm
theorem U4:type_of% @PyProof.Rows.slot_tuple_getitem:=@PyProof.Rows.slot_tuple_getitem
theorem U5:type_of% @if_true:=@if_true
theorem U6:type_of% @List.not_mem_nil:=@List.not_mem_nil
theorem U7:type_of% @List.cons_append:=@List.cons_append
theorem U8:type_of% @Nat.lt_irrefl:=@Nat.lt_irrefl
theorem U9:type_of% @PySem.F.plainAttrs_list:=@PySem.F.plainAttrs_list
theorem Va:type_of% @List.append_assoc:=@List.append_assoc
theorem Vb:type_of% @List.nodup_cons:=@List.nodup_cons
theorem Vc:type_of% @List.cons.injEq:=@List.cons.injEq
theorem Vd:type_of% @PySem.mem_of_lookup:=@PySem.mem_of_lookup
theorem Ve:type_of% @Nat.le_of_lt:=@Nat.le_of_lt
theorem Vf:type_of% @List.mem_map:=@List.mem_map
theorem Vg:type_of% @Nat.add_assoc:=@Nat.add_assoc
theorem Vh:type_of% @List.range'_succ:=@List.range'_succ
theorem Vi:type_of% @wpAny_Call_Name_kw:=@wpAny_Call_Name_kw
theorem Vj:type_of% @Option.isSome_some:=@Option.isSome_some
theorem Vk:type_of% @Heap.get?_update_self:=@Heap.get?_update_self
theorem Vm:type_of% @wpAny_passesOwn:=@wpAny_passesOwn
theorem Vn:type_of% @Nat.zero_le:=@Nat.zero_le
theorem Vo:type_of% @wpAny_pyIter_list:=@wpAny_pyIter_list
theorem Vp:type_of% @Option.isSome_iff_exists:=@Option.isSome_iff_exists
theorem Vq:type_of% @Heap.size_push:=@Heap.size_push
theorem Vr:type_of% @List.getElem?_replicate:=@List.getElem?_replicate
theorem Vs:type_of% @List.getElem_mem:=@List.getElem_mem
theorem Vt:type_of% @List.getElem?_cons_succ:=@List.getElem?_cons_succ
theorem Vu:type_of% @call_meets:=@call_meets
theorem Vv:type_of% @Nat.lt_trans:=@Nat.lt_trans
theorem Vw:type_of% @tupleKind_room_in1:=@tupleKind_room_in1
theorem Vx:type_of% @List.take_of_length_le:=@List.take_of_length_le
theorem Vy:type_of% @List.mem_filter:=@List.mem_filter
theorem Vz:type_of% @wpAny_loadPart':=@wpAny_loadPart'
theorem VA:type_of% @List.length_nil:=@List.length_nil
theorem VB:type_of% @Ne.symm:=@Ne.symm
theorem VC:type_of% @PyProof.Rows.callWith_type1:=@PyProof.Rows.callWith_type1
theorem VD:type_of% @sizeLine_eq:=@sizeLine_eq
theorem VE:type_of% @Obj.data_mapDictKeys:=@Obj.data_mapDictKeys
theorem VF:type_of% @List.mem_iff_getElem:=@List.mem_iff_getElem
theorem VG:type_of% @codeAny_mono:=@codeAny_mono
theorem VH:type_of% @List.drop_length:=@List.drop_length
theorem VI:type_of% @Nat.add_zero:=@Nat.add_zero
theorem VJ:type_of% @List.filter_cons:=@List.filter_cons
theorem VL:type_of% @Heap.SameBut.update:=@Heap.SameBut.update
theorem VM:type_of% @Obj.isFreed_of_dict:=@Obj.isFreed_of_dict
theorem VN:type_of% @List.mem_map_of_mem:=@List.mem_map_of_mem
theorem VO:type_of% @List.sum_cons:=@List.sum_cons
theorem VP:type_of% @Sum.inr.injEq:=@Sum.inr.injEq
theorem VQ:type_of% @Bool.or_eq_true:=@Bool.or_eq_true
theorem VR:type_of% @PySem.W.callWith_K:=@PySem.W.callWith_K
theorem VS:type_of% @Option.map_eq_some_iff:=@Option.map_eq_some_iff
theorem VT:type_of% @wpAny_pyIter_enum:=@wpAny_pyIter_enum
theorem VU:type_of% @List.nodup_append:=@List.nodup_append
theorem VW:type_of% @Nat.lt_or_ge:=@Nat.lt_or_ge
theorem VX:type_of% @PySem.F.plainAttrs_str:=@PySem.F.plainAttrs_str
theorem VY:type_of% @List.drop_drop:=@List.drop_drop
theorem VZ:type_of% @PySem.F.slot_dict_get:=@PySem.F.slot_dict_get
theorem V0:type_of% @List.any_eq_true:=@List.any_eq_true
theorem V1:type_of% @List.mem_flatMap:=@List.mem_flatMap
theorem V2:type_of% @Paired.length:=@Paired.length
theorem V3:type_of% @wpAny_standAt:=@wpAny_standAt
theorem V4:type_of% @if_false:=@if_false
theorem V5:type_of% @decide_false:=@decide_false
theorem V6:type_of% @List.map_nil:=@List.map_nil
theorem V7:type_of% @typeIs_str:=@typeIs_str
theorem V8:type_of% @List.all_cons:=@List.all_cons
theorem V9:type_of% @List.any_cons:=@List.any_cons
theorem Wa:type_of% @List.map_take:=@List.map_take
theorem Wb:type_of% @or_false:=@or_false
theorem Wc:type_of% @Nat.ne_of_gt:=@Nat.ne_of_gt
theorem Wd:type_of% @Nat.add_comm:=@Nat.add_comm
theorem oB{α β:Type}{x:Option α}{f:α->Option β}{b:β}(h:x.bind f=some b):∃a,x=some a/\f a=some b:=Option.bind_eq_some_iff.mp h
theorem oM{α β:Type}{x:Option α}{f:α->β}{b:β}(h:x.map f=some b):∃a,x=some a/\f a=b:=VS.mp h
theorem oG{α:Type}{l:List α}{i:Nat}{a:α}(h:l[i]?=some a):∃h:i<l.length,l[i]=a:=List.getElem?_eq_some_iff.mp h
noncomputable abbrev bD:=Sum Int Str
noncomputable def uh:bD->Value->Bool
 | .inl k,v=>Value.isInt k v
 | .inr x,v=>Value.isStrOf x v
noncomputable def Sq(w:World):bD->Int
 | .inl k=>hashInt k
 | .inr x=>hashStr w x
theorem cz:∀{k:bD}{v:Value},uh k v=true->(∃i t,k=Sum.inl i/\v=Value.int i t)∨(∃x t,k=Sum.inr x/\v=Value.str x t)
 | .inl i,v,h=>by
  obtain⟨t,e⟩:=Value.isInt_shape   h
  simp_all
 | .inr x,v,h=>by
  obtain⟨t,e⟩:=Value.isStrOf_shape   h
  simp_all
theorem A5(i:Int)(t:Tok):uh (.inl i) (.int i t)=true:=by simp[uh,Value.isInt]
theorem AT(x:Str)(t:Tok):uh (.inr x) (.str x t)=true:=by simp[uh,Value.isStrOf]
theorem MO(a b:Int):decide ((Sum.inl a:bD)=Sum.inl b)=(a==b):=by
 grind
theorem KA(a b:Str):decide ((Sum.inr a:bD)=Sum.inr b)=decide (a=b):=by
 simp_all
theorem MP(a:Int)(b:Str):decide ((Sum.inl a:bD)=Sum.inr b)=false:=Up λq=>nomatch q
theorem Ld(a:Str)(b:Int):decide ((Sum.inr a:bD)=Sum.inl b)=false:=Up λq=>nomatch q
noncomputable def bd(prog:Program)(w:World):PySem.KeyKind prog w bD where
 is:=uh
 hash:=Sq w
 inj:=λv a b ha hb=>by
  rcases cz ha with⟨i,t,rfl,rfl⟩ | ⟨x,t,rfl,rfl⟩
  . rcases cz hb with⟨j,u,rfl,e⟩ | ⟨y,u,rfl,e⟩
    . injection e with e1 _;rw[e1]
    . exact nomatch e
  . rcases cz hb with⟨j,u,rfl,e⟩ | ⟨y,u,rfl,e⟩
    . exact nomatch e
    . injection e with e1 _;rw[e1]
 byValue:=λk v h=>by
  rcases cz h with⟨i,t,rfl,rfl⟩ | ⟨x,t,rfl,rfl⟩ <;> rfl
 pyHash:=λhv h=>by
  rcases cz hv with⟨i,t,rfl,rfl⟩ | ⟨x,t,rfl,rfl⟩
  . exact wpAny_pyHash_int h
  . exact wpAny_pyHash_str h
 eqBool:=λhu hv h=>by
  rcases cz hu with⟨i,t,rfl,rfl⟩ | ⟨x,t,rfl,rfl⟩
  . rcases cz hv with⟨j,u,rfl,rfl⟩ | ⟨y,u,rfl,rfl⟩
    . rw[MO]at h;exact wpAny_eqBool_int h
    . rw[MP]at h;exact SeqAt.EqAt.int_str i t y u _ _ _ _ h
  . rcases cz hv with⟨j,u,rfl,rfl⟩ | ⟨y,u,rfl,rfl⟩
    . rw[Ld]at h;exact SeqAt.EqAt.str_int x t j u _ _ _ _ h
    . rw[KA]at h;exact wpAny_eqBool_str h
 «strs»:=λk x t v h=>by
  rcases cz h with⟨i,u,rfl,e⟩ | ⟨y,u,rfl,e⟩
  . exact nomatch e
  . injection e with e1 _
    subst e1;cases v <;> rfl
theorem wl(prog:Program)(w:World)(i:Int)(t:Tok):(bd prog w).is (.inl i) (.int i t)=true:=A5 i t
theorem xk(prog:Program)(w:World)(x:Str)(t:Tok):(bd prog w).is (.inr x) (.str x t)=true:=AT x t
noncomputable def nH(P:Program)(w:World)(ks:List bD):Int:=if ks=[] then 4238894112 else(tupleKind (bd P w)).hash ks
noncomputable def nE(P:Program)(w:World)(x:List bD×Value×Value):DictEntry:=⟨nH P w x.1,x.2.1,x.2.2⟩
end L2
namespace L2
open PySem PySem.Spec PyProof.Rows
open PySem.W (Frag)
inductive V where
 | non | bl (b:Bool) | int (i:Int) | str (x:Str) | byt (b:Array UInt8) | flt (b:UInt64) | ref (a:Addr) | ty (n:String)
 deriving DecidableEq
noncomputable def bi:V->Value->Prop
 | .non,u=>u=Value.none
 | .bl b,u=>u=Value.bool b
 | .int i,u=>∃t,u=Value.int i t
 | .str x,u=>∃t,u=Value.str x t
 | .byt b,u=>∃t,u=Value.bytes b t
 | .flt b,u=>∃t,u=Value.float b t
 | .ref a,u=>u=Value.ref a
 | .ty n,u=>u=Value.type n
noncomputable abbrev aV:List V->List Value->Prop:=Paired bi
theorem aV.length(r:aV xs us):xs.length=us.length:=V2 r
theorem aV.get{i:Nat}(h:aV xs us)(e:xs[i]?=some x):∃u,us[i]?=some u/\bi x u:=by
 induction h generalizing i with
 | nil=>cases e
 | cons r _ ih=>
  grind
theorem aV.set(r:bi x u)(i:Nat)(h:aV xs us):aV (xs.set i x) (us.set i u):=by
 induction h generalizing i with
 | nil=>exact .nil
 | cons q t ih=>
  cases i with
  | zero=>exact .cons r t
  | succ i=>exact .cons q (ih i)
theorem aV.append(h:aV xs us)(s:aV ys ws):aV (xs++ys) (us++ws):=by
 induction h with
 | nil=>exact s
 | cons r _ ih=>exact .cons r ih
theorem aV.take(n:Nat)(h:aV xs us):aV (xs.take n) (us.take n):=by
 induction h generalizing n with
 | nil=>cases n <;> exact .nil
 | cons r _ ih=>
  cases n with
  | zero=>exact .nil
  | succ n=>exact .cons r (ih n)
theorem aV.drop(n:Nat)(h:aV xs us):aV (xs.drop n) (us.drop n):=by
 induction h generalizing n with
 | nil=>cases n <;> exact .nil
 | cons r t ih=>
  cases n with
  | zero=>exact .cons r t
  | succ n=>exact ih n
noncomputable def jQ:Option V->Option Value->Prop
 | some v,some u=>bi v u
 | none,none=>True
 | _,_=>False
noncomputable def KV{κ:Type}:List (κ×V)->List (κ×Value)->Prop:=Paired λ(p:κ×V) (q:κ×Value)=>p.1=q.1/\bi p.2 q.2
noncomputable def jy(P:Program)(w:World)(h:Heap)(a:Addr)(kvs:List (bD×Value)):Prop:=
 ∃o es ep,h.get? a=some o/\o.ExactDict/\o.data=.dict es ep/\ep=es.size/\KeysOf (bd P w) es/\Pairs (bd P w) es.toList kvs/\(kvs.map (·.1)).Nodup
theorem jy.of(x:jy P w h a kvs):h.DictOf (bd P w) a kvs:=by
 obtain⟨o,es,ep,h1,h2,h3,_,h5⟩:=x;exact⟨o,es,ep,h1,h2,h3,h5⟩
noncomputable def kV:bD->V
 | .inl i=>.int i
 | .inr x=>.str x
inductive HO where
 | lst (xs:List V)
 | tup (xs:List V)
 | dK (kvs:List (bD×V)) | dT (kvs:List (List bD×V)) | dN (kvs:List (List bD×V))
 | set (S:Int->Bool) (n:Nat)
 | ins (C dx:Addr) (fs:List (Str×V))
 | own (x:Addr)
 | xd (fs:List (Str×V))
 | met (f x:Addr)
 | rng (lo hi:Int)
 | frz (o:Obj) (u:HO)
 | tbl (ps:Array Value)
 | ext (φ:Heap->Prop)
noncomputable abbrev Hp:=Addr->Option HO
noncomputable def nV(H:Hp)(ks:List bD)(v:Value):Prop:=(ks=[]/\v=.none)∨(ks≠[]/\∃b,v=.ref b/\H b=some (.tup (ks.map kV)))
noncomputable def cx(H:Hp)(a:Addr)(o:HO):Hp:=λb=>if b=a then some o else H b
theorem aC:cx H a o a=some o:=by unfold cx;simp_all
theorem aE(h:b≠a):cx H a o b=H b:=by unfold cx;grind
theorem O4{H:Hp}(h:H a=some o)(h':H b=some u)(d:o≠u):a≠b:=by
 grind
theorem bK{H:Hp}(h:H a=some o)(h':H b=none):a≠b:=by
 grind
section
variable(P:Program)(w:World)
noncomputable def cH(H:Hp)(h:Heap)(a:Addr):HO->Prop
 | .lst xs=>xs.length<=sizeLine/\∃(its:List Value) (n:Nat),aV xs its/\h.get? a=some { cls:=.type "list", data:=.seq its.toArray n }
 | .tup xs=>xs.length<=sizeLine/\∃its:List Value,aV xs its/\IsTup h a its.toArray
 | .dK kvs=>kvs.length<=sizeLine/\(a==sysModules)=false/\∃vs,KV kvs vs/\jy P w h a vs
 | .dT kvs=>kvs.length<=sizeLine/\(a==sysModules)=false/\∃xs:List (List bD×Addr×Value),
  Paired (λ(p:List bD×V) (q:List bD×Addr×Value)=>p.1=q.1/\H q.2.1=some (.tup (p.1.map kV))/\bi p.2 q.2.2) kvs xs/\
  ∃o es ep,h.get? a=some o/\o.ExactDict/\o.data=.dict es ep/\es.toList=xs.map (entryOfKey (tupleKind (bd P w)))/\(xs.map (·.1)).Nodup
 | .dN kvs=>kvs.length<=sizeLine/\(a==sysModules)=false/\∃xs:List (List bD×Value×Value),
  Paired (λ(p:List bD×V) (q:List bD×Value×Value)=>p.1=q.1/\nV H p.1 q.2.1/\bi p.2 q.2.2) kvs xs/\
  ∃o es ep,h.get? a=some o/\o.ExactDict/\o.data=.dict es ep/\es.toList=xs.map (nE P w)/\(xs.map (·.1)).Nodup
 | .set S n=>h.SetOf (intKind P w) a S n
 | .ins C dx fs=>H dx=some (.own a)/\fs.length<=1000/\dx≠a/\h.get? a=some (PySem.W.instObj C dx)/\
  ∃mA,h.Ns1 dx mA/\(∀f,jQ (fs.lookup f) (mA f))/\PySem.Within mA (fs.map (·.1))
 | .own _=>∃o,h.get? a=some o
 | .xd fs=>∃mA,h.Ns1 a mA/\∀f,jQ (fs.lookup f) (mA f)
 | .rng lo hi=>∃t u v,h.get? a=some { cls:=.type "range", data:=.fields #[.int lo t,.int hi u,.int 1 v] }
 | .frz o u=>h.get? a=some o/\cH H h a u
 | .tbl ps=>h.get? a=some { cls:=.none,data:=.fields ps }
 | .met f x=>h.get? a=some (PySem.W.methodObj (.ref f) (.ref x))
 | .ext φ=>φ h/\(∃o,h.get? a=some o)/\∀h1 h2:Heap,φ h1->(∀o,h1.get? a=some o->h2.get? a=some o)->φ h2
noncomputable def lF(H:Hp)(h:Heap):Prop:=∀a o,H a=some o->cH P w H h a o
end
section
variable{P:Program}{w:World}{H H':Hp}{h h':Heap}{a:Addr}{o:HO}
theorem cH.lt(x:cH P w H h a o):a<h.objs.size:=by
 cases o with
 | lst xs=>obtain⟨_,_,_,_,e⟩:=x;exact Um e
 | tup xs=>obtain⟨_,_,_,p⟩:=x;exact p.lt
 | dK kvs=>obtain⟨_,_,_,_,o,_,_,e,_⟩:=x;exact Um e
 | dT kvs=>obtain⟨_,_,_,_,o,_,_,e,_⟩:=x;exact Um e
 | dN kvs=>obtain⟨_,_,_,_,o,_,_,e,_⟩:=x;exact Um e
 | set S n=>obtain⟨o,_,_,_,e,_⟩:=x;exact Um e
 | ins C dx fs=>obtain⟨_,_,_,e,_⟩:=x;exact Um e
 | own y=>obtain⟨_,e⟩:=x;exact Um e
 | xd fs=>obtain⟨_,⟨_,_,_,e,_⟩,_⟩:=x;exact Um e
 | rng lo hi=>obtain⟨_,_,_,e⟩:=x;exact Um e
 | frz ob u=>obtain⟨e,_⟩:=x;exact Um e
 | tbl ps=>exact Um (show h.get? a=some _ from x)
 | met f y=>exact Um (show h.get? a=some _ from x)
 | ext φ=>obtain⟨_,⟨_,e⟩,_⟩:=x;exact Um e
theorem Paired.mapP{F G:α->β->Prop}{l₁:List α}{l₂:List β}(h:Paired F l₁ l₂)(f:∀a b,F a b->G a b):Paired G l₁ l₂:=by
 induction h with
 | nil=>exact .nil
 | cons r _ ih=>exact .cons (f _ _ r) ih
theorem cH.stay(x:cH P w H h a o)(k:∀b u,(b=a∨H b=some (.own a))->h.get? b=some u->h'.get? b=some u)
 (ho:∀b,H b=some (.own a)->H' b=some (.own a)) (ht:∀b xs,H b=some (.tup xs)->H' b=some (.tup xs)):cH P w H' h' a o:=by
 induction o with
 | lst xs=>obtain⟨z,its,n,r,e⟩:=x;exact⟨z,its,n,r,k _ _ (.inl rfl) e⟩
 | tup xs=>obtain⟨z,its,r,ob,e,c⟩:=x;exact⟨z,its,r,ob,k _ _ (.inl rfl) e,c⟩
 | dK kvs=>obtain⟨z,y,vs,r,ob,es,ep,e,c⟩:=x;exact⟨z,y,vs,r,ob,es,ep,k _ _ (.inl rfl) e,c⟩
 | dT kvs=>
  obtain⟨z,y,xs,r,ob,es,ep,e,c⟩:=x;exact⟨z,y,xs,Paired.mapP r λp q z=>⟨z.1,ht _ _ z.2.1,z.2.2⟩,ob,es,ep,k _ _ (.inl rfl) e,c⟩
 | dN kvs=>
  obtain⟨z,y,xs,r,ob,es,ep,e,c⟩:=x;exact⟨z,y,xs,Paired.mapP r λp q z=>⟨z.1,z.2.1.imp id λhy0=>by grind,z.2.2⟩,ob,es,ep,k _ _ (.inl rfl) e,c⟩
 | set S n=>obtain⟨ob,es,ep,t,e,c⟩:=x;exact⟨ob,es,ep,t,k _ _ (.inl rfl) e,c⟩
 | ins C dx fs=>
  obtain⟨d,z,ne,e,mA,⟨od,es,ep,e2,c⟩,r⟩:=x;exact⟨ho _ d,z,ne,k _ _ (.inl rfl) e,mA,⟨od,es,ep,k _ _ (.inr d) e2,c⟩,r⟩
 | own y=>obtain⟨ob,e⟩:=x;exact⟨ob,k _ _ (.inl rfl) e⟩
 | xd fs=>obtain⟨mA,⟨od,es,ep,e,c⟩,r⟩:=x;exact⟨mA,⟨od,es,ep,k _ _ (.inl rfl) e,c⟩,r⟩
 | rng lo hi=>obtain⟨t,u,v,e⟩:=x;exact⟨t,u,v,k _ _ (.inl rfl) e⟩
 | frz ob u ih=>obtain⟨e,q⟩:=x;exact⟨k _ _ (.inl rfl) e,ih q⟩
 | tbl ps=>
  have e:h.get? a=some { cls:=.none,data:=.fields ps }:=x;show h'.get? a=some { cls:=.none,data:=.fields ps };exact k a _ (.inl rfl) e
 | met f y=>
  have e:h.get? a=some (PySem.W.methodObj (.ref f) (.ref y)):=x;show h'.get? a=some (PySem.W.methodObj (.ref f) (.ref y));exact k a _ (.inl rfl) e
 | ext φ=>obtain⟨p,⟨o,e⟩,st⟩:=x;exact⟨st _ _ p λo q=>k _ _ (.inl rfl) q,⟨o,k _ _ (.inl rfl) e⟩,st⟩
theorem lF.lt(x:lF P w H h)(e:H a=some o):a<h.objs.size:=(x a o e).lt
theorem lF.fresh(x:lF P w H h)(e:h.objs.size<=a):H a=none:=by
 cases q:H a with
 | none=>rfl
 | some u=>exact absurd (Ui (x.lt q) e) (U8 _)
theorem lF.kept(x:lF P w H h)(k:∀b u,h.get? b=some u->h'.get? b=some u):lF P w H h':=λa o e=>
 (x a o e).stay (λb u _ q=>k b u q) (λ_ q=>q) λ_ _ q=>q
theorem lF.laid(x:lF P w H h)(k:∀b u,h.get? b=some u->h'.get? b=some u)(hp:h.objs.size<=a)(new:cH P w (cx H a o) h' a o):lF P w (cx H a o) h':=λb u e=>by
 have hn:=x.fresh hp;by_cases hb:b=a
 . subst hb;rw[aC]at e;simp_all
 . rw[aE hb]at e;exact(x b u e).stay (λc v _ q=>k c v q) (λc q=>by rw[aE (bK q hn)];exact q) λc xs q=>by rw[aE (bK q hn)];exact q
end
noncomputable def Rd(H:Hp)(a:Addr)(u:HO):Prop:=H a=some u∨∃o,H a=some (.frz o u)
theorem Rd.ok(r:Rd H a u)(x:lF P w H h):cH P w H h a u:=by
 rcases r with r | ⟨o,r⟩
 . exact x a u r
 . obtain⟨_,q⟩:=x a _ r;exact q
noncomputable def PP:Option HO->Prop
 | some (.lst _)=>True
 | some (.dK _)=>True
 | some (.dT _)=>True
 | some (.dN _)=>True
 | some (.set _ _)=>True
 | some (.ins _ _ _)=>True
 | some (.ext _)=>True
 | _=>False
section
variable{P:Program}{w:World}{H:Hp}{h h':Heap}{x e:Addr}{o':HO}
theorem lF.write(ok:lF P w H h)(mu:PP (H x))(he:e=x∨H e=some (.own x))(k:∀b u,b≠e->h.get? b=some u->h'.get? b=some u)(heo:∃u,h'.get? e=some u)
 (new:cH P w (cx H x o') h' x o'):lF P w (cx H x o') h':=λb u q=>by
 have nown:∀c y,H c=some (.own y)->c≠x:=λc y r z=>by subst z;rw[r]at mu;exact mu
 have ntup:∀c xs,H c=some (.tup xs)->c≠x:=λc xs r z=>by subst z;rw[r]at mu;exact mu
 by_cases hb:b=x
 . subst hb;rw[aC]at q;simp_all
 . rw[aE hb]at q;by_cases hbe:b=e
   . have q':H b=some (.own x):=by
      rcases he with z | z
      . exact absurd (hbe.trans z) hb
      . rw[hbe];exact z
     rw[q]at q';cases q';obtain⟨v,hv⟩:=heo;exact⟨v,by rw[hbe];exact hv⟩
   . refine(ok b u q).stay (λc v hc r=>k c v ?_ r) (λc r=>by rw[aE (nown c b r)];exact r) λc xs r=>by rw[aE (ntup c xs r)];exact r
     rcases hc with rfl | hc
     . exact hbe
     . rintro rfl;rcases he with z | z
       . exact nown c b hc z
       . rw[hc]at z;cases z;exact hb rfl
end
structure Un(fs ex:List Addr)(H H':Hp)(h h':Heap):Prop where
 keep:∀b o,h.get? b=some o->H b=none->b∉fs->b∉ex->h'.get? b=some o
 slot:∀b o,h.get? b=some o->H b=none->b∈fs->b∉ex->∃sl,h'.get? b=some { o with slots:=sl }
 free:∀b o,h.get? b=some o->H b=none->b∉ex->H' b=none
 there:∀b o,h.get? b=some o->b∉ex->∃o',h'.get? b=some o'
 tups:∀b xs,H b=some (.tup xs)->H' b=some (.tup xs)
 frzs:∀b o u,H b=some (.frz o u)->H' b=some (.frz o u)
 tbls:∀b ps,H b=some (.tbl ps)->∃more,H' b=some (.tbl (ps++more))
section
variable{fs fs' ex ex':List Addr}{H H1 H2:Hp}{h h1 h2 h':Heap}{a x e:Addr}{o:HO}
theorem Un.any(u:Un fs ex H H1 h h1)(q:h.get? b=some ob)(n:H b=none)(hx:b∉ex):∃sl,h1.get? b=some { ob with slots:=sl }:=by
 by_cases hb:b∈fs
 . exact u.slot b ob q n hb hx
 . exact⟨ob.slots,u.keep b ob q n hb hx⟩
theorem Un.kept(k:∀b u,h.get? b=some u->h'.get? b=some u):Un fs ex H H h h':=
 ⟨λb ob q _ _ _=>k b ob q,λb ob q _ _ _=>⟨ob.slots,k b ob q⟩,λ_ _ _ n _=>n,λb ob q _=>⟨ob,k b ob q⟩,λ_ _ q=>q,λ_ _ _ q=>q,λ_ ps q=>⟨#[],by grind⟩⟩
theorem Un.refl:Un fs ex H H h h:=Un.kept λ_ _ q=>q
theorem Un.laid(k:∀b u,h.get? b=some u->h'.get? b=some u)(hp:h.objs.size<=a)(hn:H a=none):Un fs ex H (cx H a o) h h' where
 keep:=λb u q _ _ _=>k b u q
 slot:=λb u q _ _ _=>⟨u.slots,k b u q⟩
 free:=λb u q n _=>by rw[aE (Uy (Ui (Um q) hp))];exact n
 there:=λb u q _=>⟨u,k b u q⟩
 tups:=λb xs q=>by rw[aE (bK q hn)];exact q
 frzs:=λb u xs q=>by rw[aE (bK q hn)];exact q
 tbls:=λb ps q=>⟨#[],by rw[aE (bK q hn),q];simp⟩
theorem Un.write(mu:PP (H x))(he:e=x∨H e=some (.own x))(k:∀b u,b≠e->h.get? b=some u->h'.get? b=some u)(heo:∃u,h'.get? e=some u):Un fs ex H (cx H x o) h h':=by
 have hx:∀b,H b=none->b≠x:=λb n z=>by subst z;rw[n]at mu;exact mu
 have hb:∀b,H b=none->b≠e:=λb n z=>by
  simp_all
 have hm:∀b u,H b=some u->¬ PP (some u)->b≠x:=λb u q nm z=>by simp_all
 refine⟨λb u q n _ _=>k b u (hb b n) q,λb u q n _ _=>⟨u.slots,k b u (hb b n) q⟩,λb u q n _=>by rw[aE (hx b n)];exact n,λb u q _=>?_,
  λb xs q=>by rw[aE (hm b _ q λz=>z)];exact q,λb u xs q=>by rw[aE (hm b _ q λz=>z)];exact q,λb ps q=>⟨#[],by rw[aE (hm b _ q λz=>z),q];simp⟩⟩
 grind
end
noncomputable def OA(h:Heap)(H:Hp):List Addr:=(List.range h.objs.size).filter λa=>(H a).isSome
noncomputable def vH(h:Heap)(H:Hp):Heap:=PySem.W.hideAll h (OA h H)
theorem Bm(h:Heap)(H:Hp):(vH h H).objs.size=h.objs.size:=PySem.W.hideAll_size _ _
theorem BW(e:h.get? b=some o)(n:H b=none):(vH h H).get? b=some o:=
 PySem.W.hideAll_get _ e λhm=>by
  have q  := (Vy.mp hm).2
  simp_all
theorem Hl(e:(vH h H).get? b=some o):h.get? b=some o/\H b=none:=by
 have e'  := PySem.W.of_hideAll _ e;refine⟨e',?_⟩;cases q:H b with
 | none=>rfl
 | some x=>
  have hm:b∈OA h H:=Vy.mpr ⟨List.mem_range.mpr (Um e'),by simp[q]⟩;have z:(vH h H).get? b=none:=PySem.W.hideAll_none _ hm
  simp_all
noncomputable def Hr(g h:Heap)(L:Addr):List (Addr×Obj):=(List.range h.objs.size).filterMap λa=>if a=L∨(g.get? a).isSome=true then none else(h.get? a).map λo=>(a,o)
noncomputable def iO(g h:Heap)(L d:Addr):List (Addr×Obj):=(Hr g h L).filter λp=>decide (p.1≠d)
end L2
namespace L2
open PySem PySem.Spec PyProof.Rows
open PySem.W (Frag)
structure Mod(K:Frag)(mg:Str->Option Value)(base:Heap):Prop where
 kin:K.In base
 glob:base.Ns mainGlobals mg
 blt:∃mb,base.Ns builtinsNs mb/\∀x:Str,x ≠ "__name__" -> mb x=bootBuiltins x
 nolimit:base.NoLimit
structure Cx where
 prog:Program
 w:World
 K:Frag
 mg:Str->Option Value
 base:Heap
 A:Around
 N:List Str
 s₀:Shared
 H₀:Hp
 env:Env
 outer:List Env
 stack:List Env
 ex:List Addr
 fn:Str->Bool
 calm:Bool
 pn:List (Addr×Obj)
 xe:Value->Shared->Prop
noncomputable def CL(l:List Env):List Addr:=l.filterMap (·.frame)
noncomputable abbrev Cx.fs(X:Cx):List Addr:=CL X.outer
noncomputable def O0(sc:Scope)(x:Str):Prop:=sc.names.lookup x=some .local∨sc.names.lookup x=some .cell∨sc.names.lookup x=some .free
noncomputable def J6(sc:Scope)(x:Str):Prop:=sc.names.lookup x=some .local∨sc.names.lookup x=some .cell
noncomputable def Se(env:Env)(h:Heap)(m:Str->Option Value)(x:Str)(u:Value):Prop:=
 (env.kindOf x=some .local/\m x=some u)∨((env.kindOf x=some .cell∨env.kindOf x=some .free)/\∃c,env.cells.lookup x=some c/\h.IsCell c (some u))
structure Cx.Ok(X:Cx):Prop where
 mod:Mod X.K X.mg X.base
 kind:X.env.scope.kind=.function
 glob:X.env.globals=mainGlobals
 blt:X.env.builtins=builtinsNs
 above:X.s₀.heap.objs.size<=X.env.locals
 inj:∀x y c,X.env.cells.lookup x=some c->X.env.cells.lookup y=some c->x=y
 has:∀x,(X.env.kindOf x=some .cell∨X.env.kindOf x=some .free)->∃c,X.env.cells.lookup x=some c
 cab:∀x c,X.fn x=true->X.env.cells.lookup x=some c->X.s₀.heap.objs.size<=c
 hd:X.calm=true->X.A.handled=none
 frames:X.A.frames=some X.stack
 stk:X.stack=X.outer∨(X.stack=X.env::X.outer/\X.env.frame=some X.env.locals)
 exf:∀b∈X.ex,b≠X.env.locals/\∀x c,X.env.cells.lookup x=some c->c≠b
 bs:∀b o,X.base.get? b=some o->X.s₀.heap.get? b=some o/\X.H₀ b=none
 bsz:X.base.objs.size<=X.s₀.heap.objs.size
 noex:∀b o,X.base.get? b=some o->b∉X.ex
 exfs:∀b∈X.ex,b∉X.fs
 funs:X.s₀.heap.FunFrames X.base X.outer
 frf:∀b∈X.fs,X.H₀ b=none
structure aJ(X:Cx)(pins:List (Addr×Obj))(σ:List (Option V))(H:Hp)(s:Shared):Prop where
 ok:X.Ok
 os:s.os=X.s₀.os
 bare:AllBare s.gens
 base:Un X.fs X.ex X.H₀ H X.s₀.heap s.heap
 loc:∃m,s.heap.Ns X.env.locals m/\∀(i:Nat)(x:Str)(v:V),X.N[i]?=some x->σ[i]?=some (some v)->O0 X.env.scope x->∃u,bi v u/\Se X.env s.heap m x u
 cell:∀x c,X.env.cells.lookup x=some c->∃v,s.heap.IsCell c v
 free:H X.env.locals=none
 freeC:∀x c,X.env.cells.lookup x=some c->H c=none
 pin:∀p∈X.pn++pins,s.heap.get? p.1=some p.2/\H p.1=none/\p.1≠X.env.locals/\p.1∉X.fs/\∀v,p.2.data≠.cell v
 hok:lF X.prog X.w H s.heap
 len:σ.length=X.N.length
section
variable{X:Cx}{pins:List (Addr×Obj)}{σ:List (Option V)}{H H':Hp}{s:Shared}{h':Heap}
theorem Cx.Ok.nofr(ok:X.Ok)(e:X.base.get? b=some o):b∉X.fs:=λhb=>by
 have:=(ok.funs.mem hb).1
 simp_all
theorem aJ.bs(I:aJ X pins σ H s):∀b o,X.base.get? b=some o->s.heap.get? b=some o/\H b=none:=λb o e=>
 ⟨I.base.keep b o (I.ok.bs b o e).1 (I.ok.bs b o e).2 (I.ok.nofr e) (I.ok.noex b o e),I.base.free b o (I.ok.bs b o e).1 (I.ok.bs b o e).2 (I.ok.noex b o e)⟩
theorem aJ.bk(I:aJ X pins σ H s):∀b o,X.base.get? b=some o->s.heap.get? b=some o:=λb o e=>(I.bs b o e).1
theorem aJ.mod(I:aJ X pins σ H s):Mod X.K X.mg X.base:=I.ok.mod
theorem aJ.kIn(I:aJ X pins σ H s):X.K.In s.heap:=I.ok.mod.kin.keeps I.bk
theorem aJ.lt(I:aJ X pins σ H s):X.env.locals<s.heap.objs.size:=by obtain⟨_,hn,_⟩:=I.loc;exact hn.lt
theorem aJ.sz(I:aJ X pins σ H s):X.s₀.heap.objs.size<=s.heap.objs.size:=UF I.ok.above (Ve I.lt)
theorem aJ.nofs(I:aJ X pins σ H s){a:Addr}(h:s.heap.objs.size<=a):a∉X.fs:=λhb=>by
 obtain⟨_,o,ho,_⟩:=I.ok.funs.mem hb;exact absurd (Ui (Um ho) (UF I.sz h)) (U8 _)
theorem aJ.cne(I:aJ X pins σ H s):∀x c,X.env.cells.lookup x=some c->c≠X.env.locals:=λx c e z=>by
 obtain⟨v,o,ho,hd⟩:=I.cell x c e;obtain⟨m,⟨o',es,ep,ho',hd',_⟩,_⟩:=I.loc
 simp_all
theorem aJ.funs(I:aJ X pins σ H s):s.heap.FunFrames X.base X.outer:=by
 have all:∀l,(∀b∈CL l,b∈X.fs)->X.s₀.heap.FunFrames X.base l->s.heap.FunFrames X.base l:=by
  intro l;induction l with
  | nil=>intro _ _;trivial
  | cons env r ih=>
   intro hs hl;obtain⟨hk,⟨L,o,hf,hn,ho,hd⟩,hr⟩:=hl;have hL  := hs L (by unfold CL;simp_all);obtain⟨sl,e⟩:=I.base.slot L o ho (I.ok.frf L hL) hL λz=>I.ok.exfs L z hL;exact⟨hk,⟨L,_,hf,hn,e,hd⟩,ih (λb hb=>hs b (by unfold CL;rw[List.filterMap_cons,hf];exact TY _ hb)) hr⟩
 exact all _ (λ_ hb=>hb) I.ok.funs
theorem aJ.stack(I:aJ X pins σ H s):s.heap.FunFrames X.base X.stack:=by
 rcases I.ok.stk with e | ⟨e,hf⟩
 . rw[e];exact I.funs
 . rw[e];obtain⟨m,hn,_⟩:=I.loc;refine .cons (by rw[I.ok.kind];decide) hf hn ?_ I.funs;exact Heap.get?_none_of_le (UF I.ok.bsz I.ok.above)
theorem aJ.stkSub(I:aJ X pins σ H s):∀b∈CL X.stack,b∈X.env.locals::X.fs:=λb hb=>by
 rcases I.ok.stk with e | ⟨e,hf⟩
 . simp_all
 . rw[e]at hb;unfold CL at hb;rw[List.filterMap_cons,hf]at hb;exact hb
theorem aJ.stkFree(I:aJ X pins σ H s):∀b∈CL X.stack,H b=none:=λb hb=>by
 rcases Ub.mp (I.stkSub b hb) with e | hb
 . rw[e];exact I.free
 . obtain⟨_,o,ho,_⟩:=I.ok.funs.mem hb;exact I.base.free b o ho (I.ok.frf b hb) λz=>I.ok.exfs b z hb
theorem aJ.step{ch:List Addr}(I:aJ X pins σ H s)
 (hch:∀b∈ch,(b∈X.ex∨X.s₀.heap.objs.size<=b)/\b≠X.env.locals/\(∀x c,X.env.cells.lookup x=some c->c≠b)/\∀p∈X.pn++pins,p.1≠b)
 (keep:∀b o,b≠X.env.locals->b∉X.fs->b∉ch->s.heap.get? b=some o->H b=none->h'.get? b=some o)
 (slot:∀b o,b≠X.env.locals->b∈X.fs->b∉ch->s.heap.get? b=some o->H b=none->∃sl,h'.get? b=some { o with slots:=sl }) (free:∀b o,b∉ch->s.heap.get? b=some o->H b=none->H' b=none)
 (there:∀b o,b∉ch->s.heap.get? b=some o->∃o',h'.get? b=some o')
 (tups:∀b xs,H b=some (.tup xs)->H' b=some (.tup xs)) (frzs:∀b o u,H b=some (.frz o u)->H' b=some (.frz o u)) (tbls:∀b ps,H b=some (.tbl ps)->∃more,H' b=some (.tbl (ps++more)))
 (ns:∀m,s.heap.Ns X.env.locals m->h'.Ns X.env.locals m) (hok:lF X.prog X.w H' h') (hg:AllBare g'):
 aJ X pins σ H' { s with heap:=h',gens:=g',drawn:=d',toks:=t' }:=by
 have neL:∀b o,X.s₀.heap.get? b=some o->b≠X.env.locals:=λb o e=>Uy (Ui (Um e) I.ok.above);have neC:∀b o,X.s₀.heap.get? b=some o->b∉X.ex->b∉ch:=λb o e hx hb=>by
  rcases(hch b hb).1 with z | z
  . exact hx z
  . exact absurd (Ui (Um e) z) (U8 _)
 have cellK:∀x c,X.env.cells.lookup x=some c->∀v,s.heap.IsCell c v->h'.IsCell c v:=λx c e v hy0=>by
  obtain⟨o,ho,hd⟩:=hy0;have nch:c∉ch:=λz=>(hch c z).2.2.1 x c e rfl;by_cases hc:c∈X.fs
  . obtain⟨sl,q⟩:=slot c o (I.cne x c e) hc nch ho (I.freeC x c e);exact⟨_,q,hd⟩
  . exact⟨o,keep c o (I.cne x c e) hc nch ho (I.freeC x c e),hd⟩
 refine⟨I.ok,I.os,hg,⟨λb o e n hb hx=>?_,λb o e n hb hx=>?_,λb o e n hx=>?_,λb o e hx=>?_,λb xs e=>tups b xs (I.base.tups b xs e),λb o xs e=>frzs b o xs (I.base.frzs b o xs e),λb ps e=>?_⟩,?_,λx c e=>?_,?_,λx c e=>?_,λp hp=>?_,hok,I.len⟩
 . exact keep b o (neL b o e) hb (neC b o e hx) (I.base.keep b o e n hb hx) (I.base.free b o e n hx)
 . obtain⟨sl,e1⟩:=I.base.slot b o e n hb hx;obtain⟨sl',e2⟩:=slot b _ (neL b o e) hb (neC b o e hx) e1 (I.base.free b o e n hx);exact⟨sl',e2⟩
 . obtain⟨o',e1⟩:=I.base.there b o e hx;exact free b o' (neC b o e hx) e1 (I.base.free b o e n hx)
 . obtain⟨o',e1⟩:=I.base.there b o e hx;exact there b o' (neC b o e hx) e1
 . obtain⟨m1,e1⟩:=I.base.tbls b ps e;obtain⟨m2,e2⟩:=tbls b _ e1;exact⟨m1++m2,by rw[e2,Array.append_assoc]⟩
 . obtain⟨m,hn,hl⟩:=I.loc;refine⟨m,ns m hn,λi x v e1 e2 e3=>?_⟩;obtain⟨u,r,l⟩:=hl i x v e1 e2 e3;refine⟨u,r,?_⟩;rcases l with l | ⟨k,c,e,z⟩
   . exact .inl l
   . exact .inr ⟨k,c,e,cellK x c e _ z⟩
 . obtain⟨v,z⟩:=I.cell x c e;exact⟨v,cellK x c e v z⟩
 . obtain⟨m,⟨o,_,_,ho,_⟩,_⟩:=I.loc;exact free _ o (λz=>(hch _ z).2.1 rfl) ho I.free
 . obtain⟨v,o,ho,hd⟩:=I.cell x c e;exact free c o (λz=>(hch c z).2.2.1 x c e rfl) ho (I.freeC x c e)
 . obtain⟨e,n,ne,nf,d⟩:=I.pin p hp;have nch:p.1∉ch:=λz=>(hch p.1 z).2.2.2 p hp rfl;exact⟨keep p.1 p.2 ne nf nch e n,free p.1 p.2 nch e n,ne,nf,d⟩
theorem aJ.un(I:aJ X pins σ H s)(u:Un X.fs [] H H' s.heap h')(hok:lF X.prog X.w H' h'):aJ X pins σ H' { s with heap:=h',toks:=t' }:=by
 obtain⟨m,⟨o,es,ep,ho,r⟩,_⟩:=id I.loc;obtain⟨sl,hL⟩:=u.any ho I.free (by simp);exact I.step   (ch:=[]) (λ_ z=>nomatch z) (λb o _ hb _ e n=>u.keep b o e n hb (by simp)) (λb o _ hb _ e n=>u.slot b o e n hb (by simp)) (λb o _ e n=>u.free b o e n (by simp)) (λb o _ e=>u.there b o e (by simp)) u.tups u.frzs u.tbls (λm' hm=>by
  obtain⟨o',es',ep',ho',r'⟩:=hm;rw[ho]at ho';cases ho';exact⟨_,es',ep',hL,r'⟩) hok I.bare
theorem aJ.call(I:aJ X pins σ H s)(u:Un (CL X.stack) ch H H' s.heap h')(hok:lF X.prog X.w H' h')(hg:AllBare g')
 (hch:∀b∈ch,(b∈X.ex∨X.s₀.heap.objs.size<=b)/\b≠X.env.locals/\(∀x c,X.env.cells.lookup x=some c->c≠b)/\∀p∈X.pn++pins,p.1≠b):
 aJ X pins σ H' { s with heap:=h',gens:=g',drawn:=d',toks:=t' }:=by
 obtain⟨m,⟨o,es,ep,ho,r⟩,_⟩:=id I.loc;obtain⟨sl,hL⟩:=u.any ho I.free λz=>(hch _ z).2.1 rfl;exact I.step  hch (λb o hL hb hc e n=>u.keep b o e n (λz=>(Ub.mp (I.stkSub b z)).elim hL hb) hc) (λb o _ _ hc e n=>u.any e n hc) (λb o hc e n=>u.free b o e n hc) (λb o hc e=>u.there b o e hc) u.tups u.frzs u.tbls (λm' hm=>by
  obtain⟨o',es',ep',ho',r'⟩:=hm;rw[ho]at ho';cases ho';exact⟨_,es',ep',hL,r'⟩) hok hg
theorem aJ.turned(I:aJ X pins σ H s)(k:∀b o,b≠it->s.heap.get? b=some o->h'.get? b=some o)(hn:H it=none)(hL:it≠X.env.locals)
 (h1:it∈X.ex∨X.s₀.heap.objs.size<=it) (h2:∀x c,X.env.cells.lookup x=some c->c≠it) (h3:∀p∈X.pn++pins,p.1≠it):aJ X pins σ H { s with heap:=h',toks:=t' }:=by
 have nit:∀b u,H b=some u->b≠it:=λb u e z=>by simp_all
 refine I.step (g':=s.gens) (d':=s.drawn) (ch:=[it]) (λb hb=>?_) (λb o _ _ hc e _=>k b o (λz=>hc (by simp[z])) e) (λb o _ _ hc e _=>⟨o.slots,k b o (λz=>hc (by simp[z])) e⟩) (λ_ _ _ _ n=>n)
  (λb o hc e=>⟨o,k b o (λz=>hc (by simp[z])) e⟩) (λ_ _ e=>e) (λ_ _ _ e=>e) (λb ps e=>⟨#[],by grind⟩) (λm hm=>?_) (λb u e=>?_) I.bare
 . grind
 . obtain⟨o,es,ep,ho,r⟩:=hm;exact⟨o,es,ep,k _ o (VB hL) ho,r⟩
 . refine(I.hok b u e).stay (λc v hc q=>k c v ?_ q) (λ_ q=>q) λ_ _ q=>q;rcases hc with z | z
   . rw[z];exact nit b u e
   . exact nit c _ z
theorem aJ.tok(I:aJ X pins σ H s)(t:Nat):aJ X pins σ H { s with toks:=t }:=I.un   Un.refl I.hok
theorem aJ.kept(I:aJ X pins σ H s)(k:∀b u,s.heap.get? b=some u->h'.get? b=some u):aJ X pins σ H { s with heap:=h',toks:=t' }:=I.un (Un.kept k) (I.hok.kept k)
theorem aJ.laid{a:Addr}(I:aJ X pins σ H s)(k:∀b u,s.heap.get? b=some u->h'.get? b=some u)(hp:s.heap.objs.size<=a)(new:cH X.prog X.w (cx H a o) h' a o):
 aJ X pins σ (cx H a o) { s with heap:=h',toks:=t' }:=I.un (Un.laid k hp (I.hok.fresh hp)) (I.hok.laid k hp new)
theorem aJ.write(I:aJ X pins σ H s)(mu:PP (H x))(he:e=x∨H e=some (.own x))(k:∀b u,b≠e->s.heap.get? b=some u->h'.get? b=some u)(heo:∃u,h'.get? e=some u)
 (new:cH X.prog X.w (cx H x o) h' x o):aJ X pins σ (cx H x o) { s with heap:=h',toks:=t' }:=I.un (Un.write mu he k heo) (I.hok.write mu he k heo new)
theorem aJ.weak(I:aJ X pins σ H s)(hl:σ'.length=σ.length)(w:∀(i:Nat) v,σ'[i]?=some (some v)->σ[i]?=some (some v)):aJ X pins σ' H s:=
 ⟨I.ok,I.os,I.bare,I.base,by obtain⟨m,hn,hl'⟩:=I.loc;grind,I.cell,I.free,I.freeC,I.pin,I.hok,hl.trans I.len⟩
theorem aJ.pins_of(I:aJ X pins σ H s)(h:∀p∈pins',s.heap.get? p.1=some p.2/\H p.1=none/\p.1≠X.env.locals/\p.1∉X.fs/\∀v,p.2.data≠.cell v):aJ X pins' σ H s:=
 ⟨I.ok,I.os,I.bare,I.base,I.loc,I.cell,I.free,I.freeC,λp hp=>(Us.mp hp).elim (λz=>I.pin p (UM _ z)) (h p),I.hok,I.len⟩
theorem wp{N:List Str}(hN:N.Nodup){i j:Nat}(a:N[i]?=some x)(b:N[j]?=some x):i=j:=by
 obtain⟨h1,e1⟩:=oG a
 obtain⟨h2,e2⟩:=oG b
 exact(List.getElem_inj hN).mp (e1.trans e2.symm)
theorem ud(I:aJ X pins σ H s)(hN:X.N.Nodup)(hi:X.N[i]?=some x)(hx:J6 X.env.scope x)(r:bi v u)
 (h:∀s',aJ X pins (σ.set i (some v)) H s'->(∃a,Heap.SameBut a s.heap s'.heap/\(a=X.env.locals∨X.env.cells.lookup x=some a))->Q () s') (hf:X.fn x=true∨X.env.scope.names.lookup x=some .local:=by first | exact .inl rfl | exact .inr rfl | assumption):wpAny M A (storeName X.env x u) Q E s:=by
 obtain⟨m,hn,hl⟩:=id I.loc;have hcls:(X.env.scope.kind==.class||X.env.scope.kind==.module&&X.env.locals != X.env.globals)=false:=by rw[I.ok.kind];rfl
 have hiσ:i<σ.length:=by rw[I.len];grind
 have cne:=I.cne;have tracked:∀{a:Addr}{h':Heap},(∃o,s.heap.get? a=some o/\H a=none)->Heap.SameBut a _ h'->lF _ _ H h':=λ{a h'} ha hs b ob e=>by
  obtain⟨_,_,hfree⟩:=ha;refine(I.hok b ob e).stay (λc w' hc q=>(hs.2 c ?_).trans q) (λ_ q=>q) λ_ _ q=>q
  grind
 rcases hx with hk | hk
 . refine wpAny_storeName_local hk hn (λh' hn' hs=>?_) hcls;obtain⟨oL,_,_,hoL,_⟩:=id hn;refine h _ ⟨I.ok,I.os,I.bare,⟨λb o e n hb hx=>?_,λb o e n hb hx=>?_,I.base.free,λb o e hx=>?_,I.base.tups,I.base.frzs,I.base.tbls⟩,⟨_,hn',λj y v' e1 e2 e3=>?_⟩,λy c e=>?_,I.free,I.freeC,λp hp=>?_,tracked ⟨oL,hoL,I.free⟩ hs,by simpa using I.len⟩ ⟨_,hs,.inl rfl⟩
   . exact(hs.2 b (Uy (Ui (Um e) I.ok.above))).trans (I.base.keep b o e n hb hx)
   . obtain⟨sl,e1⟩:=I.base.slot b o e n hb hx;exact⟨sl,(hs.2 b (Uy (Ui (Um e) I.ok.above))).trans e1⟩
   . obtain⟨o',e1⟩:=I.base.there b o e hx;exact⟨o',(hs.2 b (Uy (Ui (Um e) I.ok.above))).trans e1⟩
   . by_cases hj:j=i
     . subst hj;rw[hi]at e1;cases e1;rw[List.getElem?_set_self hiσ]at e2;cases e2;exact⟨u,r,.inl ⟨hk,by simp⟩⟩
     . rw[Ux (VB hj)]at e2;obtain⟨u',r',q⟩:=hl j y v' e1 e2 e3;refine⟨u',r',?_⟩;rcases q with⟨k,e⟩ | ⟨k,c,e,z⟩
       . refine .inl ⟨k,?_⟩;have:y≠x:=λe=>hj (wp hN e1 (e▸hi));simp[this,e]
       . exact .inr ⟨k,c,e,z.sameBut hs (cne y c e)⟩
   . obtain⟨w',z⟩:=I.cell y c e;exact⟨w',z.sameBut hs (cne y c e)⟩
   . obtain⟨e,n,ne,nf,d⟩:=I.pin p hp;exact⟨(hs.2 p.1 ne).trans e,n,ne,nf,d⟩
 . have hfn:X.fn x=true:=by
    rcases hf with z | z
    . exact z
    . rw[z]at hk;cases hk
   obtain⟨c,hc⟩:=I.ok.has x (.inl hk);obtain⟨w',z⟩:=I.cell x c hc;refine wpAny_storeName_cell I.ok.kind hk hc z (λh' hc' hs=>?_);obtain⟨oc,hoc,hocd⟩:=id z;refine h { s with heap:=h' } ⟨I.ok,I.os,I.bare,⟨λb o e n hb hx=>?_,λb o e n hb hx=>?_,I.base.free,λb o e hx=>?_,I.base.tups,I.base.frzs,I.base.tbls⟩,⟨m,hn.sameBut hs (VB (cne x c hc)),λj y v' e1 e2 e3=>?_⟩,λy c' e=>?_,I.free,I.freeC,λp hp=>?_,tracked ⟨oc,hoc,I.freeC x c hc⟩ hs,by simpa using I.len⟩ ⟨c,hs,.inr hc⟩
   . exact(hs.2 b (Uy (Ui (Um e) (I.ok.cab x c hfn hc)))).trans (I.base.keep b o e n hb hx)
   . obtain⟨sl,e1⟩:=I.base.slot b o e n hb hx;exact⟨sl,(hs.2 b (Uy (Ui (Um e) (I.ok.cab x c hfn hc)))).trans e1⟩
   . obtain⟨o',e1⟩:=I.base.there b o e hx;exact⟨o',(hs.2 b (Uy (Ui (Um e) (I.ok.cab x c hfn hc)))).trans e1⟩
   . by_cases hj:j=i
     . subst hj;rw[hi]at e1;cases e1;rw[List.getElem?_set_self hiσ]at e2;cases e2;exact⟨u,r,.inr ⟨.inl hk,c,hc,hc'⟩⟩
     . rw[Ux (VB hj)]at e2;obtain⟨u',r',q⟩:=hl j y v' e1 e2 e3;refine⟨u',r',?_⟩;rcases q with q | ⟨k,c',e,z'⟩
       . exact .inl q
       . refine .inr ⟨k,c',e,z'.sameBut hs ?_⟩;rintro rfl;exact hj (wp hN e1 (I.ok.inj _ _ _ e hc▸hi))
   . by_cases hcc:c'=c
     . subst hcc;exact⟨_,hc'⟩
     . obtain⟨w2,z2⟩:=I.cell y c' e;exact⟨w2,z2.sameBut hs hcc⟩
   . obtain⟨e,n,ne,nf,d⟩:=I.pin p hp;refine⟨(hs.2 p.1 ?_).trans e,n,ne,nf,d⟩;intro q;rw[q,hoc]at e;have q':oc=p.2:=UW e;exact d w' (by rw[<-q'];exact hocd)
theorem xz(I:aJ X pins σ H s)(hN:X.N.Nodup)(hi:X.N[i]?=some x)(hx:J6 X.env.scope x)(r:bi v u)
 (h:∀s',aJ X pins (σ.set i (some v)) H s'->Q () s') (hf:X.fn x=true∨X.env.scope.names.lookup x=some .local:=by first | exact .inl rfl | exact .inr rfl | assumption):wpAny M A (storeName X.env x u) Q E s:=
 ud I hN hi hx r (λs' I' _=>h s' I') hf
theorem aJ.call'(I:aJ X pins σ H s)(ho:s'.os=s.os)(u:Un (CL X.stack) ch H H' s.heap s'.heap)(hok:lF X.prog X.w H' s'.heap)(hg:AllBare s'.gens)
 (hch:∀b∈ch,(b∈X.ex∨X.s₀.heap.objs.size<=b)/\b≠X.env.locals/\(∀x c,X.env.cells.lookup x=some c->c≠b)/\∀p∈X.pn++pins,p.1≠b):aJ X pins σ H' s':=by
 obtain⟨h',g',d',t',o'⟩:=s';have e  := ho;subst e;exact I.call    u hok hg hch
end
noncomputable abbrev XK:=Value->Option Addr->Hp->Prop
noncomputable abbrev St:=List (Option V)
noncomputable abbrev VK:=V->Hp->Prop
noncomputable abbrev TE:=St->Hp->VK->Prop
noncomputable abbrev TT:=St->Hp->(Bool->Hp->Prop)->Prop
noncomputable abbrev TA:=St->Hp->(List V->Hp->Prop)->Prop
structure oi where
 nx:St->Hp->Prop
 rt:VK
 bk:St->Hp->Prop:=λ_ _=>False
 ct:St->Hp->Prop:=λ_ _=>False
noncomputable abbrev TS:=oi->St->Hp->Prop
noncomputable def EP(X:Cx)(pins:List (Addr×Obj))(σ:St)(Q:VK)(u:Value)(s':Shared):Prop:=∃v H',aJ X pins σ H' s'/\bi v u/\Q v H'
noncomputable def TP(X:Cx)(pins:List (Addr×Obj))(σ:St)(Q:Bool->Hp->Prop)(b:Bool)(s':Shared):Prop:=∃H',aJ X pins σ H' s'/\Q b H'
noncomputable def AP(X:Cx)(pins:List (Addr×Obj))(σ:St)(Q:List V->Hp->Prop)(us:List Value)(s':Shared):Prop:=∃vs H',aJ X pins σ H' s'/\aV vs us/\Q vs H'
noncomputable def SP(X:Cx)(pins:List (Addr×Obj))(D:oi)(f:Flow)(s':Shared):Prop:=
 match f with
 | .next=>∃σ' H',aJ X pins σ' H' s'/\D.nx σ' H'
 | .brk=>∃σ' H',aJ X pins σ' H' s'/\D.bk σ' H'
 | .cont=>∃σ' H',aJ X pins σ' H' s'/\D.ct σ' H'
 | .ret u=>∃v σ' H',aJ X pins σ' H' s'/\bi v u/\D.rt v H'
noncomputable def PE(X:Cx)(e:Expr)(t:TE):Prop:=
 ∀(pins:List (Addr×Obj))(s:Shared)(σ:St)(H:Hp)(Q:VK),aJ X pins σ H s->t σ H Q->wpAny (model X.prog X.w) X.A (eval e X.env) (EP X pins σ Q) X.xe s
noncomputable def PT(X:Cx)(e:Expr)(t:TT):Prop:=
 ∀(pins:List (Addr×Obj))(s:Shared)(σ:St)(H:Hp)(Q:Bool->Hp->Prop),aJ X pins σ H s->t σ H Q->wpAny (model X.prog X.w) X.A (isTrue e X.env (eval e X.env)) (TP X pins σ Q) X.xe s
noncomputable def PW(X:Cx)(e:Expr)(t:TT):Prop:=
 ∀(whole:Sem Value)(pins:List (Addr×Obj))(s:Shared)(σ:St)(H:Hp)(Q:Bool->Hp->Prop),aJ X pins σ H s->t σ H Q->wpAny (model X.prog X.w) X.A (isTrue e X.env whole) (TP X pins σ Q) X.xe s
theorem PW.pt(h:PW X e t):PT X e t:=h _
noncomputable def PA(X:Cx)(es:List Expr)(t:TA):Prop:=
 ∀(pos:Pos)(pins:List (Addr×Obj))(s:Shared)(σ:St)(H:Hp)(Q:List V->Hp->Prop),aJ X pins σ H s->t σ H Q->wpAny (model X.prog X.w) X.A (spliced (backTo pos (starEach es X.env))) (AP X pins σ Q) X.xe s
noncomputable def PS(X:Cx)(st:Stmt)(t:TS):Prop:=
 ∀(pins:List (Addr×Obj))(s:Shared)(σ:St)(H:Hp)(D:oi),aJ X pins σ H s->t D σ H->wpAny (model X.prog X.w) X.A (exec st X.env) (SP X pins D) X.xe s
noncomputable def vR(X:Cx)(st:List Stmt)(t:TS):Prop:=
 ∀(pins:List (Addr×Obj))(s:Shared)(σ:St)(H:Hp)(D:oi),aJ X pins σ H s->t D σ H->wpAny (model X.prog X.w) X.A (execs st X.env) (SP X pins D) X.xe s
theorem bQ{t:Sem α}{Q Q':α->Shared->Prop}(h:wpAny M A t Q E s)(hQ:∀a s,Q a s->Q' a s):wpAny M A t Q' E s:=UU h hQ λ_ _ x=>x
end L2
namespace L2
open PySem PySem.Spec PyProof.Rows
open PySem.W (Frag)
section
variable{X:Cx}
noncomputable def uW(i:Nat):TE:=λσ H Q=>∃v,σ[i]?=some (some v)/\Q v H
noncomputable def tC(v:V):TE:=λ_ H Q=>Q v H
theorem Md{pos:Pos}(hN:X.N[i]?=some x)(hv:O0 X.env.scope x)(hd:(x==("__debug__" : Str))=false:=by decide)(hcd:(x==("__classdict__" : Str))=false:=by decide):PE X (.Name x pos) (uW i):=by
 intro pins s σ H Q I h;obtain⟨v,e,h⟩:=h;obtain⟨m,hn,hl⟩:=I.loc;obtain⟨u,r,l⟩:=hl i x v hN e hv;have fin:EP X _ σ Q u s:=⟨v,H,I,r,h⟩
 rcases l with⟨hk,hm⟩ | ⟨hk,c,hc,hcell⟩
 . exact wpAny_Name (wpAny_loadName_local I.ok.kind hk hn hm fin) hd
 . rcases hk with hk | hk
   . exact wpAny_Name (wpAny_loadName_cell I.ok.kind hk hc hcell fin) hd
   . exact wpAny_Name (wpAny_loadName_free I.ok.kind hk hc hcell fin hcd) hd
theorem RO:PE X (.Constant (.int i) j pos) (tC (.int i)):=λ_ _ _ H _ I h=>wpAny_Constant_int ⟨.int i,H,I.tok _,⟨_,rfl⟩,h⟩
theorem Tt:PE X (.Constant (.bool b) j pos) (tC (.bl b)):=λ_ _ _ H _ I h=>Constant_bool ⟨.bl b,H,I,rfl,h⟩
theorem RB:PE X (.Constant .none j pos) (tC .non):=λ_ _ _ H _ I h=>Constant_none ⟨.non,H,I,rfl,h⟩
theorem Ry:PE X (.Constant (.str x) j pos) (tC (.str x)):=λ_ _ _ H _ I h=>Calls.Constant_str ⟨.str x,H,I.tok _,⟨_,rfl⟩,h⟩
noncomputable def Gl(X:Cx)(x:Str):Prop:=X.env.kindOf x=some .globalImplicit
theorem mR{σ:St}(I:aJ X pins σ H s)(hg:Gl X x)(hm:X.mg x=some u)(h:Q u s)
 (hd:(x==("__debug__" : Str))=false:=by decide):wpAny (model X.prog X.w) X.A (eval (.Name x pos) X.env) Q E s:=
 Calls.Name_function_global I.ok.kind hg (Calls.loadGlobal_global (by rw[I.ok.glob];exact I.mod.glob.keeps I.bk) hm h) hd
theorem nZ{E:Value->Shared->Prop}{σ:St}{pos:Pos}(I:aJ X pins σ H s)(hg:Gl X x)(hm:X.mg x=none)(hv:bootBuiltins x=some u)(h:Q u s)
 (hn:x ≠ "__name__" := by decide) (hd:(x==("__debug__" : Str))=false:=by decide):wpAny (model X.prog X.w) X.A (eval (.Name x pos) X.env) Q E s:=by
 obtain⟨mb,h1,h2⟩:=I.mod.blt;exact Calls.Name_function_global I.ok.kind hg (Calls.loadGlobal_builtin (by rw[I.ok.glob];exact I.mod.glob.keeps I.bk) hm (by rw[I.ok.blt];exact h1.keeps I.bk) ((h2 x hn).trans hv) h) hd
theorem pX(hg:Gl X x)(hm:X.mg x=some u)(r:bi v u)(hd:(x==("__debug__" : Str))=false:=by decide):PE X (.Name x pos) (tC v):=
 λ_ _ _ H _ I h=>mR I hg hm ⟨v,H,I,r,h⟩ hd
theorem mP{pos:Pos}(hg:Gl X x)(hm:X.mg x=none)(hv:bootBuiltins x=some u)(r:bi v u)(hn:x ≠ "__name__" := by decide)(hd:(x==("__debug__" : Str))=false:=by decide):PE X (.Name x pos) (tC v):=
 λ_ _ _ H _ I h=>nZ I hg hm hv ⟨v,H,I,r,h⟩ hn hd
variable{a b:Expr}{ta tb:TE}{pos:Pos}
noncomputable def PC(X:Cx)(op:CmpOp)(a b:Expr)(t:TE):Prop:=
 ∀(pins:List (Addr×Obj))(s:Shared)(σ:St)(H:Hp)(Q:VK),aJ X pins σ H s->t σ H Q->
  wpAny (model X.prog X.w) X.A (eval a X.env) (λv s₁=>wpAny (model X.prog X.w) X.A (eval b X.env) (λu s₂=>wpAny (model X.prog X.w) X.A (compareOp op v u) (EP X pins σ Q) X.xe s₂) X.xe s₁) X.xe s
theorem Fk(b:Expr)(h:op≠.In)(h2:op≠.NotIn):behindInMarks op b=false:=by
 have e1:(op==CmpOp.In)=false:=by simp_all
 have e2:(op==CmpOp.NotIn)=false:=by simp_all
 cases b <;> simp[behindInMarks,e1,e2]
noncomputable def tB(t:TE):TT:=λσ H Q=>t σ H λx H1=>∃c,x=.bl c/\Q c H1
theorem MK(h:PC X op a b t)(h1:behindInMarks op b=false:=by first | exact Fk _ (by decide) (by decide) | rfl):PT X (.Compare a [op] [b] pos) (tB t):=by
 intro pins s σ H Q I hw;refine wpAny_isTrue_Compare1 (bQ (h _ s σ H _ I hw) λv s1 h1=>bQ h1 λu s2 h2=>bQ h2 λc s3 hq0=>?_) h1;obtain⟨x,H1,I1,r1,q1⟩:=hq0;obtain⟨d,rfl,q⟩:=q1;cases r1;exact UP ⟨H1,I1,q⟩
theorem RD(h:PE X e t)(he:∀whole,isTrue e X.env whole=(do let v <-whole;standAt e.pos;holding [v] (truthy v))):PT X e (tB t):=by
 intro pins s σ H Q I hw;refine isTrue_plain (bQ (h _ s σ H _ I hw) λv s1 hq0=>?_) (he _);obtain⟨x,H1,I1,r1,q1⟩:=hq0;obtain⟨d,rfl,q⟩:=q1;cases r1;exact UP ⟨H1,I1,q⟩
variable{tA tB':TT}{iO:List Expr}
noncomputable def Mu(t u:TT):TT:=λσ H Q=>t σ H λc H1=>if c=true then u σ H1 Q else Q false H1
noncomputable def QZ(t u:TT):TT:=λσ H Q=>t σ H λc H1=>if c=true then Q true H1 else u σ H1 Q
noncomputable def K4(t:TT):TT:=λσ H Q=>t σ H λc H1=>Q (!c) H1
theorem Q1(ha:PT X a tA):PW X (.BoolOp .And [a] pos) tA:=by
 intro wh pins s σ H Q I h;refine isTrue_and (bQ (ha _ s σ H Q I h) λc s1 e=>?_);cases c with
 | true=>exact isTrue_and_nil e
 | false=>exact e
theorem Rh(ha:PT X a tA):PW X (.BoolOp .Or [a] pos) tA:=by
 intro wh pins s σ H Q I h;refine isTrue_or (bQ (ha _ s σ H Q I h) λc s1 e=>?_);cases c with
 | false=>exact isTrue_or_nil e
 | true=>exact e
theorem RQ(ha:PT X a tA)(hb:PW X (.BoolOp .And (b::iO) pos) tB'):PW X (.BoolOp .And (a::b::iO) pos) (Mu tA tB'):=by
 intro wh pins s σ H Q I h;refine isTrue_and (bQ (ha _ s σ H _ I h) λc s1 hq0=>?_);obtain⟨H1,I1,q1⟩:=hq0;cases c with
 | true=>exact hb wh _ s1 σ H1 Q I1 q1
 | false=>exact⟨H1,I1,q1⟩
theorem Ta(ha:PT X a tA)(hb:PW X (.BoolOp .Or (b::iO) pos) tB'):PW X (.BoolOp .Or (a::b::iO) pos) (QZ tA tB'):=by
 intro wh pins s σ H Q I h;refine isTrue_or (bQ (ha _ s σ H _ I h) λc s1 hq0=>?_);obtain⟨H1,I1,q1⟩:=hq0;cases c with
 | true=>exact⟨H1,I1,q1⟩
 | false=>exact hb wh _ s1 σ H1 Q I1 q1
theorem Rx(ha:PT X a tA):PT X (.UnaryOp .Not a pos) (K4 tA):=by
 intro pins s σ H Q I h;exact isTrue_not (ha _ s σ H _ I h)
noncomputable def IQ(ta tb:TE):TE:=λσ H Q=>ta σ H λx H1=>∃c,x=.bl c/\if c=true then tb σ H1 Q else Q (.bl false) H1
noncomputable def NJ(ta tb:TE):TE:=λσ H Q=>ta σ H λx H1=>∃c,x=.bl c/\if c=true then Q (.bl true) H1 else tb σ H1 Q
noncomputable def IM(ta:TE):TE:=λσ H Q=>ta σ H λx H1=>∃c,x=.bl c/\Q (.bl (!c)) H1
theorem RH(h:PE X a t):PE X (.BoolOp op [a] pos) t:=λpins s σ H Q I hw=>BoolOp_one (h _ s σ H Q I hw)
theorem Rb(ha:PE X a ta)(hb:PE X (.BoolOp .And (b::iO) pos) tb):PE X (.BoolOp .And (a::b::iO) pos) (IQ ta tb):=by
 intro pins s σ H Q I h;refine BoolOp_and (bQ (ha _ s σ H _ I h) λv s1 hq0=>?_);obtain⟨x,H1,I1,r1,q1⟩:=hq0;obtain⟨c,rfl,q1⟩:=q1;cases r1;refine UP ?_;cases c with
 | true=>exact hb _ s1 σ H1 Q I1 q1
 | false=>exact⟨.bl _,H1,I1,rfl,q1⟩
theorem Tg(ha:PE X a ta)(hb:PE X (.BoolOp .Or (b::iO) pos) tb):PE X (.BoolOp .Or (a::b::iO) pos) (NJ ta tb):=by
 intro pins s σ H Q I h;refine BoolOp_or (bQ (ha _ s σ H _ I h) λv s1 hq0=>?_);obtain⟨x,H1,I1,r1,q1⟩:=hq0;obtain⟨c,rfl,q1⟩:=q1;cases r1;refine UP ?_;cases c with
 | false=>exact hb _ s1 σ H1 Q I1 q1
 | true=>exact⟨.bl _,H1,I1,rfl,q1⟩
theorem S9(ha:PE X a ta):PE X (.UnaryOp .Not a pos) (IM ta):=by
 intro pins s σ H Q I h;refine UnaryOp_ (bQ (ha _ s σ H _ I h) λv s1 hq0=>?_);obtain⟨x,H1,I1,r1,q1⟩:=hq0;obtain⟨c,rfl,q1⟩:=q1;cases r1;exact not_of (UP ⟨.bl _,H1,I1,rfl,q1⟩)
noncomputable def SX(t:TT)(ta tb:TE):TE:=λσ H Q=>t σ H λc H1=>if c=true then ta σ H1 Q else tb σ H1 Q
theorem OG(hc:PT X c tA)(ha:PE X a ta)(hb:PE X b tb):PE X (.IfExp c a b pos) (SX tA ta tb):=by
 intro pins s σ H Q I h;refine wpAny_IfExp (bQ (hc _ s σ H _ I h) λd s1 hq0=>?_);obtain⟨H1,I1,q1⟩:=hq0;cases d with
 | true=>exact ha _ s1 σ H1 Q I1 q1
 | false=>exact hb _ s1 σ H1 Q I1 q1
end
end L2
namespace L2
open PySem PySem.Spec PyProof.Rows
open PySem.W (Frag)
noncomputable def c8(K:Frag)(H:Hp)(a:Addr)(xs:List V):Prop:=
 Rd H a (.lst xs)∨
  ∃(o:Obj) (its:Array Value) (n:Nat),K.lookup a=some o/\o.cls=.type "list" /\ o.dict=none/\o.data=.seq its n/\its.size<=sizeLine/\aV xs its.toList
noncomputable def fj(K:Frag)(H:Hp)(a:Addr)(xs:List V):Prop:=
 Rd H a (.tup xs)∨
  ∃(o:Obj) (its:Array Value) (n:Nat),K.lookup a=some o/\o.cls=.type "tuple" /\ o.data=.seq its n/\its.size<=sizeLine/\aV xs its.toList
noncomputable def Ro:Value->Option V
 | .none=>some .non
 | .bool b=>some (.bl b)
 | .int i _=>some (.int i)
 | .str x _=>some (.str x)
 | .bytes b _=>some (.byt b)
 | .float b _=>some (.flt b)
 | .ref a=>some (.ref a)
 | .type n=>some (.ty n)
 | _=>none
theorem bi.abs(r:bi x u):Ro u=some x:=by
 cases x with
 | non=>cases r;rfl
 | bl _=>cases r;rfl
 | int _=>obtain⟨t,rfl⟩:=r;rfl
 | str _=>obtain⟨t,rfl⟩:=r;rfl
 | byt _=>obtain⟨t,rfl⟩:=r;rfl
 | flt _=>obtain⟨t,rfl⟩:=r;rfl
 | ref _=>cases r;rfl
 | ty _=>cases r;rfl
theorem bi.inj(r:bi x u)(q:bi y u):x=y:=UW (r.abs.symm.trans q.abs)
theorem aV.inj(h:aV xs us)(h':aV ys us):xs=ys:=by
 induction h generalizing ys with
 | nil=>cases h';rfl
 | cons r _ ih=>
  cases h' with
  | cons r' t'=>rw[r.inj r',ih t']
section
variable{X:Cx}{pins:List (Addr×Obj)}{σ:St}{H:Hp}{s:Shared}{a:Addr}{xs ys:List V}
theorem c8.of{K:Frag}(h:H a=some (.lst xs)):c8 K H a xs:=.inl (.inl h)
theorem fj.of{K:Frag}(h:H a=some (.tup xs)):fj K H a xs:=.inl (.inl h)
theorem aJ.list(I:aJ X pins σ H s)(h:c8 X.K H a xs):∃its:List Value,aV xs its/\PlainL s.heap a its.toArray/\xs.length<=sizeLine:=by
 rcases h with h | ⟨o,its,n,hk,hc,hd,hs,hz,r⟩
 . obtain⟨z,its,n,r,e⟩:=h.ok I.hok;exact⟨its,r,⟨_,n,e,rfl,rfl,rfl⟩,z⟩
 . refine⟨its.toList,r,⟨o,n,I.kIn a o hk,hc,hd,by omega⟩,?_⟩;have e:=r.length
   simp_all
theorem aJ.tuple(I:aJ X pins σ H s)(h:fj X.K H a xs):∃its:List Value,aV xs its/\IsTup s.heap a its.toArray/\xs.length<=sizeLine:=by
 rcases h with h | ⟨o,its,n,hk,hc,hs,hz,r⟩
 . obtain⟨z,its,r,p⟩:=h.ok I.hok
   grind
 . refine⟨its.toList,r,⟨o,I.kIn a o hk,hc,n,by omega⟩,?_⟩;have e:=r.length
   simp_all
theorem aJ.list_inj(I:aJ X pins σ H s)(h:c8 X.K H a xs)(h':c8 X.K H a ys):xs=ys:=by
 obtain⟨its,r,⟨o,n,e,_,_,d⟩,_⟩:=I.list h;obtain⟨its',r',⟨o',n',e',_,_,d'⟩,_⟩:=I.list h';rw[e]at e';cases e';rw[d]at d';injection d' with d1 _
 have  := by simpa using Uh Array.toList d1
 subst this;exact r.inj r'
theorem aJ.tuple_inj(I:aJ X pins σ H s)(h:fj X.K H a xs)(h':fj X.K H a ys):xs=ys:=by
 obtain⟨its,r,⟨o,e,_,n,d⟩,_⟩:=I.tuple h;obtain⟨its',r',⟨o',e',_,n',d'⟩,_⟩:=I.tuple h';rw[e]at e';cases e';rw[d]at d';injection d' with d1 _
 have  := by simpa using Uh Array.toList d1
 subst this;exact r.inj r'
end
noncomputable abbrev Cx.wish(X:Cx)(E:Value->Shared->Prop):Cx:={ X with xe:=E }
noncomputable abbrev Cx.nox(X:Cx):Cx:=X.wish λ_ _=>False
theorem Cx.Ok.wish{X:Cx}(ok:X.Ok)(E:Value->Shared->Prop):(X.wish E).Ok:=
 ⟨ok.mod,ok.kind,ok.glob,ok.blt,ok.above,ok.inj,ok.has,ok.cab,ok.hd,ok.frames,ok.stk,ok.exf,ok.bs,ok.bsz,ok.noex,ok.exfs,ok.funs,ok.frf⟩
theorem Cx.Ok.unwish{X:Cx}(ok:(X.wish E).Ok):X.Ok:=
 ⟨ok.mod,ok.kind,ok.glob,ok.blt,ok.above,ok.inj,ok.has,ok.cab,ok.hd,ok.frames,ok.stk,ok.exf,ok.bs,ok.bsz,ok.noex,ok.exfs,ok.funs,ok.frf⟩
section
variable{X:Cx}{pins:List (Addr×Obj)}{σ:St}{H:Hp}{s:Shared}{E:Value->Shared->Prop}
theorem aJ.wish(I:aJ X pins σ H s)(E:Value->Shared->Prop):aJ (X.wish E) pins σ H s:=⟨I.ok.wish E,I.os,I.bare,I.base,I.loc,I.cell,I.free,I.freeC,I.pin,I.hok,I.len⟩
theorem aJ.unwish(I:aJ (X.wish E) pins σ H s):aJ X pins σ H s:=⟨I.ok.unwish,I.os,I.bare,I.base,I.loc,I.cell,I.free,I.freeC,I.pin,I.hok,I.len⟩
theorem SP.unwish(h:SP (X.wish E) pins D f s'):SP X pins D f s':=by
 cases f with
 | next=>obtain⟨σ',H',I,q⟩:=h;exact⟨σ',H',I.unwish,q⟩
 | brk=>obtain⟨σ',H',I,q⟩:=h;exact⟨σ',H',I.unwish,q⟩
 | cont=>obtain⟨σ',H',I,q⟩:=h;exact⟨σ',H',I.unwish,q⟩
 | ret u=>obtain⟨v,σ',H',I,r,q⟩:=h;exact⟨v,σ',H',I.unwish,r,q⟩
theorem vR.nox{st:List Stmt}(h:vR X.nox st t):vR X st t:=λpins s σ H D I hw=>
 UU (h _ s σ H D (I.wish _) hw) (λ_ _ q=>q.unwish) λ_ _ z=>False.elim z
end
section
variable{X:Cx}{st:Stmt}{iO:List Stmt}{t u:TS}{e:Expr}{te:TE}{pos:Pos}
noncomputable def IS:TS:=λD σ H=>D.nx σ H
noncomputable def GE(t u:TS):TS:=λD σ H=>t { D with nx:=u D } σ H
theorem Qr:vR X [] IS:=λ_ _ σ H _ I h=>wpAny_execs_nil ⟨σ,H,I,h⟩
theorem FA(h1:PS X st t)(h2:vR X iO u):vR X (st::iO) (GE t u):=by
 intro pins s σ H D I h;refine wpAny_execs_cons (bQ (h1 _ s σ H _ I h) λf s1 q=>?_);cases f with
 | next=>
  obtain⟨σ',H',I',q⟩:=q;exact h2 _ s1 _ H' D I' q
 | ret v=>exact q
 | brk=>exact q
 | cont=>exact q
theorem QN(h1:PS X st t):vR X [st] t:=by
 intro pins s σ H D I h;refine wpAny_execs_cons (bQ (h1 _ s σ H D I h) λf s1 q=>?_);cases f with
 | next=>exact wpAny_execs_nil q
 | ret v=>exact q
 | brk=>exact q
 | cont=>exact q
theorem aJ.quiet{σ:St}(I:aJ X pins σ H s):interactive X.env=false:=by simp[interactive,I.ok.kind]
noncomputable def oC(te:TE):TS:=λD σ H=>te σ H λ_ H1=>D.nx σ H1
theorem Qi(he:PE X e te)(hs:swapsWith e none pos.line X.env=pure false):PS X (.Expr e pos) (oC te):=by
 intro pins s σ H D I h;exact wpAny_Expr_any (bQ (he _ s σ H _ I h) λv s1 hy0=>by obtain⟨x,H1,I1,r1,q1⟩:=hy0;exact⟨σ,H1,I1,q1⟩) I.quiet hs
noncomputable def K3(te:TE):TS:=λD σ H=>te σ H D.rt
theorem Sz(he:PE X e te):PS X (.Return (some e) pos) (K3 te):=by
 intro pins s σ H D I h;exact wpAny_Return_some (bQ (he _ s σ H _ I h) λv s1 hy0=>by obtain⟨x,H1,I1,r1,q1⟩:=hy0;exact⟨x,σ,H1,I1,r1,q1⟩)
noncomputable def K1(c:TT)(t u:TS):TS:=λD σ H=>c σ H λb H1=>if b=true then t D σ H1 else u D σ H1
theorem SD{a b:List Stmt}{tc:TT}(hc:PT X c tc)(ha:vR X a t)(hb:vR X b u):PS X (.If c a b pos) (K1 tc t u):=by
 intro pins s σ H D I h;refine wpAny_If (bQ (hc _ s σ H _ I h) λd s1 hq0=>?_);obtain⟨H1,I1,q1⟩:=hq0;cases d with
 | true=>exact ha _ s1 σ H1 D I1 q1
 | false=>exact hb _ s1 σ H1 D I1 q1
noncomputable def Fj:TS:=λ_ _ _=>False
theorem Pu:PS X st Fj:=λ_ _ _ _ _ _ h=>h.elim
end
noncomputable abbrev TG:=V->St->Hp->(St->Hp->Prop)->Prop
noncomputable abbrev Ny:=List V->St->Hp->(St->Hp->Prop)->Prop
noncomputable def PG(X:Cx)(target:Expr)(t:TG):Prop:=
 ∀(pins:List (Addr×Obj))(s:Shared)(σ:St)(H:Hp)(v:V)(u:Value)(Q:St->Hp->Prop),aJ X pins σ H s->bi v u->t v σ H Q->
  wpAny (model X.prog X.w) X.A (assign target X.env u) (λ_ s'=>∃σ' H',aJ X pins σ' H' s'/\Q σ' H') X.xe s
noncomputable def N1(X:Cx)(ts:List Expr)(t:Ny):Prop:=
 ∀(pins:List (Addr×Obj))(s:Shared)(σ:St)(H:Hp)(vs:List V)(us:List Value)(Q:St->Hp->Prop),aJ X pins σ H s->aV vs us->t vs σ H Q->
  wpAny (model X.prog X.w) X.A (assignInOrder ((assignEach ts X.env).map (·.2)) us) (λ_ s'=>∃σ' H',aJ X pins σ' H' s'/\Q σ' H') X.xe s
noncomputable abbrev Op:=V->V->V->Hp->(Hp->Prop)->Prop
noncomputable def Ov(X:Cx)(t:Op):Prop:=
 ∀(pins:List (Addr×Obj))(s:Shared)(σ:St)(H:Hp)(o i v:V)(ov iv u:Value)(Q:Hp->Prop),aJ X pins σ H s->bi o ov->bi i iv->bi v u->t o i v H Q->
  wpAny (model X.prog X.w) X.A (setItem ov iv u) (λ_ s'=>∃H',aJ X pins σ H' s'/\Q H') X.xe s
section
variable{X:Cx}{pos:Pos}
noncomputable def kO(i:Nat):TG:=λv σ H Q=>Q (σ.set i (some v)) H
theorem Qx(hN:X.N.Nodup)(hi:X.N[i]?=some x)(hx:J6 X.env.scope x)(hf:X.fn x=true∨X.env.scope.names.lookup x=some .local):PG X (.Name x pos) (kO i):=by
 intro pins s σ H v u Q I r h;exact wpAny_assign_Name (xz I hN hi hx r (λs' I'=>⟨_,H,I',h⟩) hf)
noncomputable def P5:Ny:=λvs σ H Q=>vs=[]/\Q σ H
noncomputable def Jf(t:TG)(u:Ny):Ny:=λvs σ H Q=>∃v r,vs=v::r/\t v σ H λσ' H'=>u r σ' H' Q
theorem Qp:N1 X [] P5:=by
 intro pins s σ H vs us Q I r h;obtain⟨e,h⟩:=h;subst e;exact assignInOrder_nil ⟨σ,H,I,h⟩
theorem NW(h1:PG X e t)(h2:N1 X es u)
 (hs:(assignEach (e::es) X.env).map (·.2)=assign e X.env::(assignEach es X.env).map (·.2)):N1 X (e::es) (Jf t u):=by
 intro pins s σ H vs us Q I r h;obtain⟨v,vr,e1,h⟩:=h;subst e1;cases r with
 | cons r rr=>
  rw[hs];refine assignInOrder_cons (bQ (h1 _ s σ H _ _ _ I r h) λ_ s1 hq0=>?_);obtain⟨σ1,H1,I1,q1⟩:=hq0;exact h2 _ s1 _ H1 _ _ Q I1 rr q1
noncomputable def M6(K:Frag)(n:Nat)(t:Ny):TG:=λv σ H Q=>∃a xs,v=.ref a/\fj K H a xs/\xs.length=n/\t xs σ H Q
theorem KM{k:Nat}(hc:X.calm=true)(h:N1 X es t)
 (hn:(assignEach es X.env).length=n:=by rfl) (hst:(assignEach es X.env).findIdx? (·.1)=none:=by rfl):PG X (.Tuple es k pos) (M6 X.K n t):=by
 intro pins s σ H v u Q I r hw;obtain⟨a,xs,e1,hq,hl,hw⟩:=hw;subst e1;cases r;obtain⟨its,rv,ht,hz⟩:=I.tuple hq;refine assign_Tuple_tuple (I.ok.hd hc) ht (by simp[hn,<-hl,rv.length]) hst λh' hx=>?_;have I1  := I.kept (t':=s.toks) λb o e=>hx b o (Uy (Um e)) e;exact h _ _ σ H xs _ Q I1 (by omega) hw
noncomputable def MT(to ti:TE)(t:Op):TG:=λv σ H Q=>to σ H λo H1=>ti σ H1 λi H2=>t o i v H2 λH3=>Q σ H3
theorem LU(ho:PE X o to)(hi:PE X i ti)(hs:Ov X t)
 (ha:∀v,assign (.Subscript o i pos) X.env v=(do
  let ov <-holding [v] (eval o X.env);let iv <-holding [v,ov] (eval i X.env)
  standAt pos
  holding [v,ov,iv] (setItem ov iv v)
  release [v,ov,iv] []):=by intro _;rfl):PG X (.Subscript o i pos) (MT to ti t):=by
 intro pins s σ H v u Q I r h;refine Uf (UQ (bQ (ho _ s σ H _ I h) λov s1 hq0=>?_));obtain⟨x,H1,I1,r1,q1⟩:=hq0;refine Uf (UQ (bQ (hi _ s1 σ H1 _ I1 q1) λiv s2 hq0=>?_));obtain⟨y,H2,I2,r2,q2⟩:=hq0;refine Uf (V3 (Uf (UQ (bQ (hs _ s2 σ H2 x y v ov iv u _ I2 r1 r2 r q2) λ_ s3 hq0=>?_))));obtain⟨H3,I3,q3⟩:=hq0;exact wpAny_release ⟨σ,H3,I3,q3⟩
noncomputable def r9(te:TE)(g:TG):TS:=λD σ H=>te σ H λx H1=>g x σ H1 D.nx
theorem KE(he:PE X e te)(hg:PG X tg g)(hs:swapsWithSole [tg] e pos.line X.env=pure false:=by rfl)(hw:swappedStores [tg] e X.env=pure none:=by rfl)
 (h1:(assignEach [tg] X.env).map (·.2)=[assign tg X.env]:=by rfl):PS X (.Assign [tg] e pos) (r9 te g):=by
 intro pins s σ H D I h;refine wpAny_Assign_stores (bQ (he _ s σ H _ I h) λv s1 hq0=>?_) hs hw;obtain⟨x,H1,I1,r1,q1⟩:=hq0;rw[h1];exact bQ (hg _ s1 σ H1 x v _ I1 r1 q1) λ_ s2 q=>q
theorem Me(hN:X.N.Nodup)(hi:X.N[i]?=some x)(hx:J6 X.env.scope x)(he:PE X e te)(hs:swapsWith e (some (.Name x pos')) pos.line X.env=pure false:=by rfl)(hf:X.fn x=true∨X.env.scope.names.lookup x=some .local:=by first | exact .inl rfl | exact .inr rfl | assumption):
 PS X (.Assign [.Name x pos'] e pos) (r9 te (kO i)):=by
 intro pins s σ H D I h;refine wpAny_Assign_Name (bQ (he _ s σ H _ I h) λv s1 hq0=>?_) hs;obtain⟨y,H1,I1,r1,q1⟩:=hq0;exact xz I1 hN hi hx r1 (λs2 I2=>⟨_,H1,I2,q1⟩) hf
end
section
variable{X:Cx}{pos:Pos}
noncomputable def CC(c:TT)(tb:TS):TS:=λD σ H=>∃W:Nat->St->Hp->Prop,(∃m,W m σ H)/\∀m σ H,W m σ H->
 c σ H λb H1=>if b=true then ∃N:St->Hp->Prop,(∀σ' H',N σ' H'->∃m',m'<m/\W m' σ' H')/\tb { D with nx:=N,ct:=N,bk:=D.nx } σ H1 else D.nx σ H1
theorem P7(hp:PassesOwn (model X.prog X.w) X.A X.env X.xe)(hc:PT X c tc)(hb:vR X body tb):PS X (.While c body [] pos) (CC tc tb):=by
 intro pins s σ H D I h;obtain⟨W,⟨m0,w0⟩,turn⟩:=h;refine wpAny_While (codeAny_whileLoop (λn s'=>∃σ' H',aJ X _ σ' H' s'/\W n σ' H') ?_ m0 ⟨σ,H,I,w0⟩);rintro n s1 ⟨σ1,H1,I1,w1⟩;refine Vm hp (bQ (hc _ s1 _ H1 _ I1 (turn n _ H1 w1)) λb s2 hq0=>?_);obtain⟨H2,I2,q2⟩:=hq0;cases b with
 | true=>
  obtain⟨N,hN,q2⟩:=q2;refine Vm hp (bQ (hb _ s2 _ H2 _ I2 q2) λf s3 q3=>?_);cases f with
  | next=>
   obtain⟨σ3,H3,I3,n3⟩:=q3
   grind
  | cont=>
   obtain⟨σ3,H3,I3,n3⟩:=q3
   grind
  | brk=>exact q3
  | ret v=>exact q3
 | false=>
  exact wpAny_execs_nil ⟨σ1,H2,I2,q2⟩
end
structure It where
 go:Nat->Hp->Prop
 yld:Nat->Hp->V->Hp->Prop
 stop:Nat->Hp->Prop
noncomputable def nG(X:Cx)(pins:List (Addr×Obj))(H:Hp)(b:Addr):Prop:=
 H b=none/\b≠X.env.locals/\b∉X.fs/\(b∈X.ex∨X.s₀.heap.objs.size<=b)/\(∀x c,X.env.cells.lookup x=some c->c≠b)/\∀p∈X.pn++pins,p.1≠b
theorem aJ.fpOk{σ:St}{b:Addr}(I:aJ X pins σ H s)(hb:s.heap.objs.size<=b)(hn:H' b=none):nG X pins H' b:=by
 refine⟨hn,Wc (Ui I.lt hb),I.nofs hb,.inr (UF I.sz hb),λx c e z=>?_,λp hp z=>?_⟩
 . obtain⟨v,q⟩:=I.cell x c e;exact absurd (Ui q.lt (by simp_all)) (U8 _)
 . exact absurd (Ui (Um (I.pin p hp).1) (by simp_all)) (U8 _)
structure yr(P:Program)(w:World)(K:Frag)(tg:Expr)(J:It)(fp:List Addr)(it:Addr)(tn:Nat->Heap->Prop):Prop where
 mem:it∈fp
 obj:∀i h,tn i h->∀b∈fp,∃o,h.get? b=some o/\∀v,o.data≠.cell v
 keep:∀i h h',tn i h->(∀b∈fp,∀o,h.get? b=some o->h'.get? b=some o)->tn i h'
 item:∀(X:Cx),X.prog=P->X.w=w->X.K=K->X.calm=true->∀(i:Nat)(pins:List (Addr×Obj))(s:Shared)(σ:St)(H:Hp)(E:Value->Shared->Prop),aJ X pins σ H s->(∀b∈fp,nG X pins H b)->tn i s.heap->J.go i H->
  wpAny (model P w) X.A (pyNext (.ref it)) (λr s1=>∃u,r=some u/\
   wpAny (model P w) X.A (letOwnedTupleGo tg (.ref it) u) (λ_ s2=>∃x H',aJ X pins σ H' s2/\bi x u/\J.yld i H x H'/\tn (i+1) s2.heap/\∀b∈fp,H' b=none) E s1) E s
 done:∀(X:Cx),X.prog=P->X.w=w->X.K=K->X.calm=true->∀(i:Nat)(pins:List (Addr×Obj))(s:Shared)(σ:St)(H:Hp)(E:Value->Shared->Prop),aJ X pins σ H s->(∀b∈fp,nG X pins H b)->tn i s.heap->J.stop i H->
  wpAny (model P w) X.A (pyNext (.ref it)) (λr s1=>r=none/\aJ X pins σ H s1) E s
 self:∀(A:Around)(i:Nat)(s:Shared)(Q:Value->Shared->Prop)(E:Value->Shared->Prop),tn i s.heap->Q (.ref it) s->wpAny (model P w) A (pyIter (.ref it)) Q E s
noncomputable abbrev TI:=St->Hp->(It->Hp->Prop)->Prop
noncomputable def Re(X:Cx)(pins:List (Addr×Obj))(σ:St)(tg:Expr)(R:It->Hp->Prop)(itv:Value)(s2:Shared):Prop:=
 ∃(it:Addr) (fp:List Addr) (tn:Nat->Heap->Prop) (J:It) (H':Hp),itv=.ref it/\aJ X pins σ H' s2/\yr X.prog X.w X.K tg J fp it tn/\tn 0 s2.heap/\(∀b∈fp,nG X pins H' b)/\R J H'
noncomputable def PI(X:Cx)(tg iter:Expr)(wi:TI):Prop:=
 ∀(pins:List (Addr×Obj))(s:Shared)(σ:St)(H:Hp)(R:It->Hp->Prop),aJ X pins σ H s->wi σ H R->
  wpAny (model X.prog X.w) X.A (eval iter X.env) (λv s1=>wpAny (model X.prog X.w) X.A (pyIter v) (Re X pins σ tg R) X.xe s1) X.xe s
theorem Av(ho:s.heap.get? it=some o)(hc:o.cls=.type n)(hd:o.data=.fields vs)
 (hn:["enumerate", "zip", "dict_itemiterator", "dict_reverseitemiterator", "odict_iterator", "itertools.zip_longest", "itertools.pairwise"].contains n=false) (hQ:Q () s):wpAny M A (letOwnedTupleGo tg (.ref it) u) Q E s:=by
 cases tg <;> first
  | exact Ut hQ
  | (cases u <;> first
   | exact Ut hQ
   | (refine Uf (wpAny_load ho ?_)
      rw[hc,hd];show wpAny M A (if(["enumerate", "zip", "dict_itemiterator", "dict_reverseitemiterator", "odict_iterator", "itertools.zip_longest", "itertools.pairwise"].contains n&&vs[0]?==some _)=true then _ else _) Q E s;rw[UE (by simp_all)];exact Ut hQ))
noncomputable def RX(K:Frag)(a:Addr):It:=
 ⟨λi H=>∃xs x,c8 K H a xs/\xs[i]?=some x,λi H x H'=>H'=H/\∀xs,c8 K H a xs->xs[i]?=some x,λi H=>∃xs,c8 K H a xs/\xs.length<=i⟩
noncomputable def RU(K:Frag)(a:Addr):It:=
 ⟨λi H=>∃xs x,fj K H a xs/\xs[i]?=some x,λi H x H'=>H'=H/\∀xs,fj K H a xs->xs[i]?=some x,λi H=>∃xs,fj K H a xs/\xs.length<=i⟩
noncomputable def Qs(lo:Int)(n:Nat):It:=⟨λi _=>i<n,λi H x H'=>H'=H/\x=.int (lo+i),λi _=>n<=i⟩
theorem B9{K:Frag}(a it:Addr):yr P w K tg (RX K a) [it] it (λi h=>h.IsListIter it a i) where
 mem:=by simp
 obj:=λi h st b hb=>by
  have e  := by simpa using hb
  subst e;obtain⟨o,e,c,d⟩:=st
  simp_all
 keep:=λi h h' st k=>st.at λo e=>k it (by simp) o e
 item:=by
  intro X hP hw hK hc i pins s σ H E I hf st hg;subst hP hw hK;obtain⟨xs,x,hq,hx⟩:=hg;obtain⟨its,rv,p,hz⟩:=I.list hq;obtain⟨u,hu,ru⟩:=rv.get hx;obtain⟨f0,f1,f2,f3,f4,f5⟩:=hf it (by simp);refine wpAny_pyNext_list_item st p.isList  (by simpa using hu) λh' st' sb=>?_;have I1  := I.turned (t':=s.toks) (λb o hb e=>(sb.2 b hb).trans e) f0 f1 f3 f4 f5;obtain⟨o,e,c,d⟩:=id st';exact⟨u,rfl,Av  e c d (by decide) ⟨x,H,I1,ru,⟨rfl,λys hy=>by rw[I.list_inj hy hq];exact hx⟩,st',λb hb=>(hf b hb).1⟩⟩
 done:=by
  intro X hP hw hK hc i pins s σ H E I hf st hg;subst hP hw hK;obtain⟨xs,hq,hx⟩:=hg;obtain⟨its,rv,p,hz⟩:=I.list hq;obtain⟨f0,f1,f2,f3,f4,f5⟩:=hf it (by simp);have hl:=rv.length;exact wpAny_pyNext_list_end (I.ok.hd hc) st p.isList (by simp;omega) λh' eb=>⟨rfl,I.turned (t':=s.toks) (λb o hb e=>eb b o hb e) f0 f1 f3 f4 f5⟩
 self:=λ_ _ _ _ _ st h=>wpAny_pyIter_listiter st h
theorem y9{K:Frag}(a it:Addr):yr P w K tg (RU K a) [it] it (λi h=>h.IsTupleIter it a i) where
 mem:=by simp
 obj:=λi h st b hb=>by
  have e  := by simpa using hb
  subst e;obtain⟨o,e,c,d⟩:=st
  simp_all
 keep:=λi h h' st k=>st.at λo e=>k it (by simp) o e
 item:=by
  intro X hP hw hK hc i pins s σ H E I hf st hg;subst hP hw hK;obtain⟨xs,x,hq,hx⟩:=hg;obtain⟨its,rv,p,hz⟩:=I.tuple hq;obtain⟨u,hu,ru⟩:=rv.get hx;obtain⟨f0,f1,f2,f3,f4,f5⟩:=hf it (by simp);refine wpAny_pyNext_tuple_item st (show s.heap.IsTuple a _ from p)  (by simpa using hu) λh' st' sb=>?_;have I1  := I.turned (t':=s.toks) (λb o hb e=>(sb.2 b hb).trans e) f0 f1 f3 f4 f5;obtain⟨o,e,c,d⟩:=id st';exact⟨u,rfl,Av  e c d (by decide) ⟨x,H,I1,ru,⟨rfl,λys hy=>by rw[I.tuple_inj hy hq];exact hx⟩,st',λb hb=>(hf b hb).1⟩⟩
 done:=by
  intro X hP hw hK hc i pins s σ H E I hf st hg;subst hP hw hK;obtain⟨xs,hq,hx⟩:=hg;obtain⟨its,rv,p,hz⟩:=I.tuple hq;obtain⟨f0,f1,f2,f3,f4,f5⟩:=hf it (by simp);have hl:=rv.length;exact wpAny_pyNext_tuple_end (I.ok.hd hc) st (show s.heap.IsTuple a its.toArray from p) (by simp;omega) λh' eb=>⟨rfl,I.turned (t':=s.toks) (λb o hb e=>eb b o hb e) f0 f1 f3 f4 f5⟩
 self:=λ_ _ _ _ _ st h=>wpAny_pyIter_tupleiter st h
theorem xY{K:Frag}(it:Addr)(lo:Int)(n:Nat):yr P w K tg (Qs lo n) [it] it (λi h=>IsRangeIter h it (lo+(i:Nat)*1) ((n:Int)-(i:Nat)) 1) where
 mem:=by simp
 obj:=λi h st b hb=>by
  simp_all
 keep:=λi h h' st k=>k it (by simp) _ st
 item:=by
  intro X hP hw hK hc i pins s σ H E I hf st hg;subst hP hw hK;obtain⟨f0,f1,f2,f3,f4,f5⟩:=hf it (by simp);have W:=Walks.range (prog:=X.prog) (w:=X.w) (I.ok.hd hc) it lo 1 n;refine W.item i s _ _ hg st λv h' tk hv st' kk=>?_;obtain⟨t,rfl⟩:=hv;have I1:aJ X _ σ H { s with heap:=h',toks:=tk }:=I.turned (λb o hb e=>kk b o (by grind) e) f0 f1 f3 f4 f5;refine⟨_,rfl,Av (s:={ s with heap:=h',toks:=tk }) (n := "range_iterator") st' rfl rfl (by decide) ⟨.int _,H,I1,⟨t,?_⟩,⟨rfl,rfl⟩,st',λb hb=>(hf b hb).1⟩⟩
  simp_all
 done:=by
  intro X hP hw hK hc i pins s σ H E I hf st hg;obtain⟨f0,f1,f2,f3,f4,f5⟩:=hf it (by simp);exact wpAny_pyNext_range_end (I.ok.hd hc) st (by have:n<=i:=hg;omega) λh' eb=>⟨rfl,I.turned (t':=s.toks) (λb o hb e=>eb b o hb e) f0 f1 f3 f4 f5⟩
 self:=λ_ _ _ _ _ st h=>wpAny_pyIter_rangeiter st h
end L2
namespace L2
open PySem PySem.Spec PyProof.Rows
open PySem.W (Frag)
section
variable{X:Cx}{tg:Expr}
theorem ET{σ:St}{lo hi:Int}(I:aJ X pins σ H s)(h1 : -(2^62)<=lo)(h2:lo<2^62)(h3 : -(2^62)<=hi)(h4:hi<2^62)
 (q:R (Qs lo (hi-lo).toNat) H):wpAny (model X.prog X.w) X.A (pyIter (.ref s.heap.objs.size)) (Re X pins σ tg R) E { s with heap:=s.heap.push { cls:=.type "range", data:=.fields #[.int lo t,.int hi u,.int 1 v] },toks:=tk }:=by
 refine wpAny_pyIter_range (IsRange.new ..) (small_one h1 h2 h3 h4) ?_;have I1:aJ X _ σ H { s with heap:=s.heap.push { cls:=.type "range", data:=.fields #[.int lo t,.int hi u,.int 1 v] },toks:=tk }:=I.kept λb o e=>Uc _ e;refine⟨(s.heap.push _).objs.size,[(s.heap.push _).objs.size],_,_,H,rfl,
  I1.kept  λb o e=>Uc _ e,xY _ lo _,?_,λb hb=>?_,q⟩
 . have e1:lo+(0:Nat)*1=lo:=by simp
   have e2:(hi-lo).toNat-(0:Nat)=Builtin.Range.rangeSize lo hi 1:=by rw[rangeSize_one];grind
   rw[e1,e2];exact Uv _ rfl
 . have e:b=(s.heap.push { cls:=.type "range", data:=.fields #[.int lo t,.int hi u,.int 1 v] }).objs.size:=by simpa using hb
   subst e;exact I1.fpOk (Ug _) (I1.hok.fresh (Ug _))
noncomputable def EU(ta:TA):TI:=λσ H R=>ta σ H λvs H1=>∃j:Int,vs=[.int j] /\ -(2^62)<=j/\j<2^62/\R (Qs 0 j.toNat) H1
theorem N3(hg:Gl X "range")(hm:X.mg "range" = none)(ha:PA X [a] ta)(hs:starEach [a] X.env=[(false,eval a X.env)]):PI X tg (.Call (.Name "range" p) [a] [] pos) (EU ta):=by
 intro pins s σ H R I h;refine Call_ (nZ I hg hm boot_range (VC (bQ (ha _ _ s σ H _ I h) λus s1 hq0=>?_) hs rfl));obtain⟨vs,H1,I1,r1,q1⟩:=hq0;obtain⟨j,e,q1,q2,q⟩:=q1;subst e;cases r1 with
 | cons r rr=>
  cases rr;obtain⟨t,rfl⟩:=r;exact call_range_1 (ET I1 (by omega) (by omega) q1 q2 (by grind))
noncomputable def LO(wi:TI)(g:TG)(tb:TS):TS:=λD σ H=>wi σ H λJ H1=>∃W:Nat->Nat->St->Hp->Prop,(∃m,W 0 m σ H1)/\∀i m σ H,W i m σ H->
 (J.stop i H/\D.nx σ H)∨(J.go i H/\∃N:St->Hp->Prop,(∀σ' H',N σ' H'->∃m',m'<m/\W (i+1) m' σ' H')/\∀x H',J.yld i H x H'->g x σ H' λσ2 H2=>tb { D with nx:=N,ct:=N,bk:=D.nx } σ2 H2)
noncomputable def nU(fp:List Addr)(h:Heap):List (Addr×Obj):=fp.filterMap λb=>(h.get? b).map λo=>(b,o)
theorem jr(hb:b∈fp)(e:h.get? b=some o):(b,o)∈nU fp h:=List.mem_filterMap.mpr ⟨b,hb,by rw[e];rfl⟩
theorem Bq(hp:p∈nU fp h):p.1∈fp/\h.get? p.1=some p.2:=by
 obtain⟨b,hb,e⟩:=List.mem_filterMap.mp hp;cases q:h.get? b with
 | none=>simp_all
 | some o=>
  grind
theorem aJ.pinned{σ:St}(I:aJ X pins σ H s)(hf:∀b∈fp,nG X pins H b)(ho:∀b∈fp,∃o,s.heap.get? b=some o/\∀v,o.data≠.cell v):aJ X (pins++nU fp s.heap) σ H s:=
 I.pins_of λp hp=>(Us.mp hp).elim (λz=>I.pin p (Uo _ z)) λz=>by
  obtain⟨hb,e⟩:=Bq z;obtain⟨f0,f1,f2,_⟩:=hf p.1 hb
  grind
theorem aJ.unpinned{σ:St}(I:aJ X (pins++pl) σ H s):aJ X pins σ H s:=I.pins_of λp hp=>I.pin p (Uo _ (UM _ hp))
theorem Sc{body:List Stmt}{wi:TI}{g:TG}{tb:TS}{pos:Pos}(hp:PassesOwn (model X.prog X.w) X.A X.env X.xe)(hc:X.calm=true)(hi:PI X tg iter wi)(hg:PG X tg g)(hb:vR X body tb)
 (hs:∀x,foldedSetIterable iter X.env x=pure x):PS X (.For tg iter body [] pos) (LO wi g tb):=by
 intro pins s σ H D I h;refine wpAny_For (bQ (hi _ s σ H _ I h) λv s1 h1=>bQ h1 λitv s2 h2=>?_) hs;obtain⟨it,fp,tn,J,H2,e,I2,T,st2,f2,W,⟨m0,w0⟩,turn⟩:=h2;subst e;have stat:∀{H':Hp},(∀b∈fp,H' b=none)->∀b∈fp,nG X _ H' b:=λhn b hb=>⟨hn b hb,(f2 b hb).2⟩
 refine codeAny_forLoop_any (λn s'=>∃i σ' H',aJ X _ σ' H' s'/\tn i s'.heap/\(∀b∈fp,H' b=none)/\W i n σ' H') ?_ m0 ⟨0,σ,H2,I2,st2,λb hb=>(f2 b hb).1,w0⟩;rintro n s3 ⟨i,σ3,H3,I3,st3,fr3,w3⟩;rcases turn i n _ H3 w3 with⟨stop,qn⟩ | ⟨go,N,hN,step⟩
 . refine Vm hp (bQ (T.done X rfl rfl rfl hc i _ s3 _ H3 _ I3 (stat fr3) st3 stop) λr s4 ⟨hr,I4⟩=>?_);subst hr;exact wpAny_execs_nil ⟨σ3,H3,I4,qn⟩
 . refine Vm hp (bQ (T.item X rfl rfl rfl hc i pins s3 σ3 H3 X.xe I3 (stat fr3) st3 go) λr s4 ⟨u,hr,h4⟩=>?_);subst hr;refine Vm hp (bQ h4 λ_ s5 hq0=>?_);obtain⟨x,H5,I5,r5,y5,st5,fr5⟩:=hq0;have I5':=I5.pinned (stat fr5) (T.obj _ _ st5);refine Vm hp (bQ (hg _ s5 σ3 H5 x u _ I5' r5 (step x H5 y5)) λ_ s6 hq0=>?_);obtain⟨σ6,H6,I6,q6⟩:=hq0;refine Vm hp (bQ (hb _ s6 σ6 H6 _ I6 q6) λf s7 q7=>?_);have again:∀{σ7:St}{H7:Hp},aJ X (pins++nU fp s5.heap) σ7 H7 s7->N σ7 H7->∃m,m<n/\∃i σ' H',aJ X pins σ' H' s7/\tn i s7.heap/\(∀b∈fp,H' b=none)/\W i m σ' H':=λ{σ7 H7} I7 n7=>by
    obtain⟨m',hm,w7⟩:=hN σ7 H7 n7;refine⟨m',hm,i+1,σ7,H7,I7.unpinned,T.keep _ _ _ st5 λb hb o e=>(I7.pin (b,o) (Uo _ (Uo _ (jr hb e)))).1,λb hb=>?_,w7⟩;obtain⟨o,e,d⟩:=T.obj _ _ st5 b hb;exact(I7.pin (b,o) (Uo _ (Uo _ (jr hb e)))).2.1
   cases f with
   | next=>obtain⟨σ7,H7,I7,n7⟩:=q7;exact again I7 n7
   | cont=>obtain⟨σ7,H7,I7,n7⟩:=q7;exact again I7 n7
   | brk=>obtain⟨σ7,H7,I7,q7⟩:=q7;exact⟨σ7,H7,I7.unpinned,q7⟩
   | ret v=>obtain⟨x7,σ7,H7,I7,r7,q7⟩:=q7;exact⟨x7,σ7,H7,I7.unpinned,r7,q7⟩
end
end L2
namespace L2
open PySem PySem.Spec PyProof.Rows
open PySem.W (Frag)
noncomputable abbrev R2:=V->V->Hp->VK->Prop
noncomputable def gz(X:Cx)(f:Value->Value->Sem Value)(r:R2):Prop:=
 ∀(pins:List (Addr×Obj))(s:Shared)(σ:St)(H:Hp)(x y:V)(v u:Value)(Q:VK),aJ X pins σ H s->bi x v->bi y u->r x y H Q->
  wpAny (model X.prog X.w) X.A (f v u) (EP X pins σ Q) X.xe s
noncomputable def Qj(X:Cx)(f:Value->Sem Value)(r:V->Hp->VK->Prop):Prop:=
 ∀(pins:List (Addr×Obj))(s:Shared)(σ:St)(H:Hp)(x:V)(v:Value)(Q:VK),aJ X pins σ H s->bi x v->r x H Q->
  wpAny (model X.prog X.w) X.A (f v) (EP X pins σ Q) X.xe s
noncomputable def bV(X:Cx)(f:Value)(r:List V->Hp->VK->Prop):Prop:=
 ∀(pins:List (Addr×Obj))(s:Shared)(σ:St)(H:Hp)(xs:List V)(us:List Value)(Q:VK),aJ X pins σ H s->aV xs us->r xs H Q->
  wpAny (model X.prog X.w) X.A (call f us) (EP X pins σ Q) X.xe s
noncomputable def Ri(X:Cx)(r:V->Hp->(Bool->Hp->Prop)->Prop):Prop:=
 ∀(pins:List (Addr×Obj))(s:Shared)(σ:St)(H:Hp)(x:V)(v:Value)(Q:Bool->Hp->Prop),aJ X pins σ H s->bi x v->r x H Q->
  wpAny (model X.prog X.w) X.A (truthy v) (TP X pins σ Q) X.xe s
noncomputable def qd(r:R2)(ta tb:TE):TE:=λσ H Q=>ta σ H λx H1=>tb σ H1 λy H2=>r x y H2 Q
noncomputable def Tb(r:V->Hp->VK->Prop)(ta:TE):TE:=λσ H Q=>ta σ H λx H1=>r x H1 Q
noncomputable def rI(C:Int->Int->Prop)(g:Int->Int->V):R2:=λx y H Q=>∃i j,x=.int i/\y=.int j/\C i j/\Q (g i j) H
noncomputable def zQ(g:Int->Int->V):R2:=λx y H Q=>∃i j,x=.int i/\y=.int j/\Q (g i j) H
noncomputable def rU(g:Int->V):V->Hp->VK->Prop:=λx H Q=>∃i,x=.int i/\Q (g i) H
section
variable{X:Cx}{a b c:Expr}{ta tb tc:TE}{pos:Pos}
theorem LH(ha:PE X a ta)(hb:PE X b tb){σ:St}{R:V->V->Hp->Prop}(I:aJ X pins σ H s)
 (h:ta σ H λx H1=>tb σ H1 λy H2=>R x y H2) {f:Value->Value->Sem Value}
 (hf:∀v u s2 x y H2,aJ X pins σ H2 s2->bi x v->bi y u->R x y H2->wpAny (model X.prog X.w) X.A (f v u) Q X.xe s2):
 wpAny (model X.prog X.w) X.A (eval a X.env) (λv s₁=>wpAny (model X.prog X.w) X.A (eval b X.env) (λu s₂=>wpAny (model X.prog X.w) X.A (f v u) Q X.xe s₂) X.xe s₁) X.xe s:=by
 refine bQ (ha _ s σ H _ I h) λv s1 hq0=>?_;obtain⟨x,H1,I1,r1,q1⟩:=hq0;refine bQ (hb _ s1 σ H1 _ I1 q1) λu s2 hq0=>?_;obtain⟨y,H2,I2,r2,q2⟩:=hq0
 grind
theorem SI(ho:gz X (binaryOp op) r)(ha:PE X a ta)(hb:PE X b tb):PE X (.BinOp a op b pos) (qd r ta tb):=by
 intro pins s σ H Q I h;exact wpAny_BinOp (LH ha hb I h λv u s2 x y H2 I2 rx ry q=>ho _ s2 σ H2 x y v u Q I2 rx ry q)
theorem Tj(ho:Qj X (unaryOp op) r)(ha:PE X a ta):PE X (.UnaryOp op a pos) (Tb r ta):=by
 intro pins s σ H Q I h;exact UnaryOp_ (bQ (ha _ s σ H _ I h) λv s1 hy0=>by obtain⟨x,H1,I1,r1,q1⟩:=hy0;exact ho _ s1 σ H1 x v Q I1 r1 q1)
theorem QC{g:Int->Int->Int}
 (rule:∀(i j:Int)(t u:Tok)(s:Shared)(Q:Value->Shared->Prop)(E:Value->Shared->Prop),C i j->Q (.int (g i j) s.toks) { s with toks:=s.toks+1 }->wpAny (model X.prog X.w) X.A (f (.int i t) (.int j u)) Q E s):
 gz X f (rI C λi j=>.int (g i j)):=by
 intro pins s σ H x y v u Q I rx ry h;obtain⟨i,j,rfl,rfl,hc,q⟩:=h;obtain⟨t,rfl⟩:=rx;obtain⟨t',rfl⟩:=ry;exact rule i j t t' s _ _ hc ⟨.int _,H,I.tok _,⟨_,rfl⟩,q⟩
theorem PJ{g:Int->Int->Int}
 (rule:∀(i j:Int)(t u:Tok)(s:Shared)(Q:Value->Shared->Prop)(E:Value->Shared->Prop),Q (.int (g i j) s.toks) { s with toks:=s.toks+1 }->wpAny (model X.prog X.w) X.A (f (.int i t) (.int j u)) Q E s):
 gz X f (zQ λi j=>.int (g i j)):=by
 intro pins s σ H x y v u Q I rx ry h;obtain⟨i,j,rfl,rfl,q⟩:=h;obtain⟨t,rfl⟩:=rx;obtain⟨t',rfl⟩:=ry;exact rule i j t t' s _ _ ⟨.int _,H,I.tok _,⟨_,rfl⟩,q⟩
theorem L0{g:Int->Int->Bool}
 (rule:∀(i j:Int)(t u:Tok)(s:Shared)(Q:Value->Shared->Prop)(E:Value->Shared->Prop),Q (.bool (g i j)) s->wpAny (model X.prog X.w) X.A (f (.int i t) (.int j u)) Q E s):
 gz X f (zQ λi j=>.bl (g i j)):=by
 intro pins s σ H x y v u Q I rx ry h;obtain⟨i,j,rfl,rfl,q⟩:=h;obtain⟨t,rfl⟩:=rx;obtain⟨t',rfl⟩:=ry;exact rule i j t t' s _ _ ⟨.bl _,H,I,rfl,q⟩
noncomputable def Il(i j:Int):Prop:=(-(2^64)<i/\i<2^64)∨(-(2^64)<j/\j<2^64)
theorem Il.ok(h:Il i j):IntMulOk i j:=by
 rcases h with⟨h1,h2⟩ | ⟨h1,h2⟩
 . exact .of_left (intBits_le_64 h1 h2)
 . exact .of_right (intBits_le_64 h1 h2)
theorem Mi:gz X (binaryOp .Add) (zQ λi j=>.int (i+j)):=PJ λ_ _ _ _ _ _ _ q=>add_int q
theorem Rg:gz X (binaryOp .Sub) (zQ λi j=>.int (i-j)):=PJ λ_ _ _ _ _ _ _ q=>sub_int q
theorem LQ:gz X (binaryOp .Mult) (rI Il λi j=>.int (i*j)):=QC λ_ _ _ _ _ _ _ hc q=>mul_int q hc.ok
theorem HK:gz X (binaryOp .Mod) (rI (λ_ j=>j≠0) λi j=>.int (i.fmod j)):=QC λ_ _ _ _ _ _ _ hc q=>mod_int' hc q
theorem T8{g:Int->Int}
 (rule:∀(i:Int)(t:Tok)(s:Shared)(Q:Value->Shared->Prop)(E:Value->Shared->Prop),Q (.int (g i) s.toks) { s with toks:=s.toks+1 }->wpAny (model X.prog X.w) X.A (f (.int i t)) Q E s):
 Qj X f (rU λi=>.int (g i)):=by
 intro pins s σ H x v Q I rx h;obtain⟨i,rfl,q⟩:=h;obtain⟨t,rfl⟩:=rx;exact rule i t s _ _ ⟨.int _,H,I.tok _,⟨_,rfl⟩,q⟩
theorem Sk:Qj X (unaryOp .USub) (rU λi=>.int (-i)):=T8 λ_ _ _ _ _ q=>neg_int q
end
noncomputable def Lb:V->V->Bool
 | .non,.non=>true | .non,.int _=>true | .int _,.non=>true | .non,.bl _=>true | .bl _,.non=>true | .non,.str _=>true | .str _,.non=>true
 | .int _,.int _=>true | .bl _,.bl _=>true | .str _,.str _=>true | .byt _,.byt _=>true
 | .int _,.str _=>true | .str _,.int _=>true | .bl _,.str _=>true | .str _,.bl _=>true
 | _,_=>false
noncomputable def Tw:R2:=λx y H Q=>Lb x y=true/\Q (.bl (decide (x=y))) H
noncomputable def SF:R2:=λx y H Q=>Lb x y=true/\Q (.bl (!decide (x=y))) H
theorem Af:decide (V.int i=V.int j)=(i==j):=by
 grind
theorem Eg:decide (V.bl i=V.bl j)=(i==j):=by
 grind
theorem zU:decide (V.str i=V.str j)=(i==j):=by
 grind
theorem yY:decide (V.byt i=V.byt j)=(i.toList==j.toList):=by
 rw[Bool.eq_iff_iff]
 simp_all
section
variable{X:Cx}{a b c:Expr}{ta tb tc:TE}{pos:Pos}
theorem br{σ:St}(I:aJ X pins σ H s)(q:Q (.bl k) H)(e:k=k'):EP X pins σ Q (.bool k') s:=by
 subst e;exact⟨.bl k,H,I,rfl,q⟩
theorem OH:gz X (compareOp .Eq) Tw:=by
 intro pins s σ H x y v u Q I rx ry h;obtain⟨hs,q⟩:=h;cases x with
 | non=>
  cases rx;cases y with
  | non=>cases ry;exact PySem.EqNone.eq_none_none (br I q (by simp))
  | bl j=>cases ry;exact PySem.EqNone.eq_none_bool (br I q (by simp))
  | int j=>obtain⟨t',rfl⟩:=ry;exact PySem.EqNone.eq_none_int (br I q (by simp))
  | str j=>obtain⟨t',rfl⟩:=ry;exact PySem.EqNone.eq_none_str (br I q (by simp))
  | _=>exact absurd (show false=true from hs) Uw
 | bl i=>
  cases rx;cases y with
  | non=>cases ry;exact PySem.EqNone.eq_bool_none (br I q (by simp))
  | bl j=>cases ry;exact eq_bool (br I q Eg)
  | str j=>obtain⟨t',rfl⟩:=ry;exact PySem.EqMixed.eq_bool_str (br I q (by simp))
  | _=>exact absurd (show false=true from hs) Uw
 | int i=>
  obtain⟨t,rfl⟩:=rx;cases y with
  | non=>cases ry;exact PySem.EqNone.eq_int_none (br I q (by simp))
  | int j=>obtain⟨t',rfl⟩:=ry;exact eq_int (br I q Af)
  | str j=>obtain⟨t',rfl⟩:=ry;exact PySem.EqMixed.eq_int_str (br I q (by simp))
  | _=>exact absurd (show false=true from hs) Uw
 | str i=>
  obtain⟨t,rfl⟩:=rx;cases y with
  | non=>cases ry;exact PySem.EqNone.eq_str_none (br I q (by simp))
  | bl j=>cases ry;exact PySem.EqMixed.eq_str_bool (br I q (by simp))
  | int j=>obtain⟨t',rfl⟩:=ry;exact PySem.EqMixed.eq_str_int (br I q (by simp))
  | str j=>obtain⟨t',rfl⟩:=ry;exact eq_str (br I q zU)
  | _=>exact absurd (show false=true from hs) Uw
 | byt i=>
  obtain⟨t,rfl⟩:=rx;cases y with
  | byt j=>obtain⟨t',rfl⟩:=ry;exact PySem.W.eq_bytes (br I q yY)
  | _=>exact absurd (show false=true from hs) Uw
 | _=>cases y <;> exact absurd (show false=true from hs) Uw
theorem Pl:gz X (compareOp .NotEq) SF:=by
 intro pins s σ H x y v u Q I rx ry h;obtain⟨hs,q⟩:=h;cases x with
 | non=>
  cases rx;cases y with
  | non=>cases ry;exact PySem.EqNone.ne_none_none (br I q (by simp))
  | bl j=>cases ry;exact PySem.EqNone.ne_none_bool (br I q (by simp))
  | int j=>obtain⟨t',rfl⟩:=ry;exact PySem.EqNone.ne_none_int (br I q (by simp))
  | str j=>obtain⟨t',rfl⟩:=ry;exact PySem.EqNone.ne_none_str (br I q (by simp))
  | _=>exact absurd (show false=true from hs) Uw
 | bl i=>
  cases rx;cases y with
  | non=>cases ry;exact PySem.EqNone.ne_bool_none (br I q (by simp))
  | bl j=>cases ry;exact ne_bool (br I q (Uh not Eg))
  | str j=>obtain⟨t',rfl⟩:=ry;exact PySem.EqMixed.ne_bool_str (br I q (by simp))
  | _=>exact absurd (show false=true from hs) Uw
 | int i=>
  obtain⟨t,rfl⟩:=rx;cases y with
  | non=>cases ry;exact PySem.EqNone.ne_int_none (br I q (by simp))
  | int j=>obtain⟨t',rfl⟩:=ry;exact ne_int (br I q (Uh not Af))
  | str j=>obtain⟨t',rfl⟩:=ry;exact PySem.EqMixed.ne_int_str (br I q (by simp))
  | _=>exact absurd (show false=true from hs) Uw
 | str i=>
  obtain⟨t,rfl⟩:=rx;cases y with
  | non=>cases ry;exact PySem.EqNone.ne_str_none (br I q (by simp))
  | bl j=>cases ry;exact PySem.EqMixed.ne_str_bool (br I q (by simp))
  | int j=>obtain⟨t',rfl⟩:=ry;exact PySem.EqMixed.ne_str_int (br I q (by simp))
  | str j=>obtain⟨t',rfl⟩:=ry;exact ne_str (br I q (Uh not zU))
  | _=>exact absurd (show false=true from hs) Uw
 | byt i=>
  obtain⟨t,rfl⟩:=rx;cases y with
  | byt j=>obtain⟨t',rfl⟩:=ry;exact PySem.W.ne_bytes (br I q (Uh not yY))
  | _=>exact absurd (show false=true from hs) Uw
 | _=>cases y <;> exact absurd (show false=true from hs) Uw
theorem Tf:gz X (compareOp .Lt) (zQ λi j=>.bl (decide (i<j))):=L0 λ_ _ _ _ _ _ _ q=>lt_int q
theorem SN:gz X (compareOp .LtE) (zQ λi j=>.bl (decide (i<=j))):=L0 λ_ _ _ _ _ _ _ q=>le_int q
theorem Th:gz X (compareOp .Gt) (zQ λi j=>.bl (decide (j<i))):=L0 λ_ _ _ _ _ _ _ q=>gt_int q
theorem RM:gz X (compareOp .Is) (λx y H Q=>y=.non/\Q (.bl (decide (x=.non))) H):=by
 intro pins s σ H x y v u Q I rx ry h;obtain⟨rfl,q⟩:=h;cases ry;refine is_none_gen (br I q ?_);cases x <;> first
  | rfl
  | (obtain⟨t,rfl⟩:=rx;rfl)
theorem Q9:gz X (compareOp .IsNot) (λx y H Q=>y=.non/\Q (.bl (!decide (x=.non))) H):=by
 intro pins s σ H x y v u Q I rx ry h;obtain⟨rfl,q⟩:=h;cases ry;refine isnot_none_gen (br I q ?_);cases x <;> first
  | rfl
  | (obtain⟨t,rfl⟩:=rx;rfl)
theorem gz.or(h:gz X f r)(h':gz X f r'):gz X f (λx y H Q=>r x y H Q∨r' x y H Q):=by
 intro pins s σ H x y v u Q I rx ry q;rcases q with q | q
 . exact h _ s σ H x y v u Q I rx ry q
 . exact h' _ s σ H x y v u Q I rx ry q
theorem Q7(ho:gz X (compareOp op) r)(ha:PE X a ta)(hb:PE X b tb)(hm:behindInMarks op b=false):PE X (.Compare a [op] [b] pos) (qd r ta tb):=by
 intro pins s σ H Q I h;exact wpAny_Compare1 (LH ha hb I h λv u s2 x y H2 I2 rx ry q=>ho _ s2 σ H2 x y v u Q I2 rx ry q) hm
noncomputable def iA(t:TE):TT:=λσ H Q=>t σ H λx H'=>∃k,x=.bl k/\Q k H'
theorem QI(ho:gz X (compareOp op) r)(ha:PE X a ta)(hb:PE X b tb)(hm:behindInMarks op b=false):PT X (.Compare a [op] [b] pos) (iA (qd r ta tb)):=by
 intro pins s σ H Q I h;refine wpAny_isTrue_Compare1 (bQ (ha _ s σ H _ I h) λv s1 hy0=>?_) hm;obtain⟨x,H1,I1,r1,q1⟩:=hy0;refine bQ (hb _ s1 σ H1 _ I1 q1) λu s2 hy0=>?_;obtain⟨y,H2,I2,r2,q2⟩:=hy0;refine
  bQ (ho _ s2 σ H2 x y v u _ I2 r1 r2 q2) λc s3 ⟨z,H3,I3,r3,k,e,q3⟩=>?_
 subst e;cases r3;exact UP ⟨H3,I3,q3⟩
noncomputable def sn(r r':R2)(ta tb tc:TE):TE:=λσ H Q=>ta σ H λx H1=>tb σ H1 λy H2=>r x y H2 λz H3=>∃k,z=.bl k/\
 (if k=true then tc σ H3 λw' H4=>r' y w' H4 Q else Q (.bl false) H3)
theorem NP(ho:gz X (compareOp op) r)(ho':gz X (compareOp op') r')(ha:PE X a ta)(hb:PE X b tb)(hc:PE X c tc)
 (hm:lastMarks [op,op'] [b,c]=false):PE X (.Compare a [op,op'] [b,c] pos) (sn r r' ta tb tc):=by
 intro pins s σ H Q I h;refine Compare_chain (bQ (ha _ s σ H _ I h) λv s1 hy0=>?_) hm;obtain⟨x,H1,I1,r1,q1⟩:=hy0;refine chain_link (bQ (hb _ s1 σ H1 _ I1 q1) λu s2 hy0=>?_);obtain⟨y,H2,I2,r2,q2⟩:=hy0;refine
  bQ (ho _ s2 σ H2 x y v u _ I2 r1 r2 q2) λd s3 ⟨z,H3,I3,r3,k,e,q3⟩=>?_
 subst e;cases r3;refine UP ?_;cases k with
 | false=>exact ite_ff ⟨.bl _,H3,I3,rfl,q3⟩
 | true=>exact ite_tt (chain_last (bQ (hc _ s3 σ H3 _ I3 q3) λw' s4 hy0=>by obtain⟨z',H4,I4,r4,q4⟩:=hy0;exact ho' _ s4 σ H4 y z' u w' Q I4 r2 r4 q4))
theorem Om(ho:gz X (compareOp op) r)(ho':gz X (compareOp op') r')(ha:PE X a ta)(hb:PE X b tb)(hc:PE X c tc)
 (hm:lastMarks [op,op'] [b,c]=false):PT X (.Compare a [op,op'] [b,c] pos) (iA (sn r r' ta tb tc)):=by
 intro pins s σ H Q I h;refine isTrue_chain (bQ (ha _ s σ H _ I h) λv s1 hy0=>?_) hm;obtain⟨x,H1,I1,r1,q1⟩:=hy0;refine test_link (bQ (hb _ s1 σ H1 _ I1 q1) λu s2 hy0=>?_);obtain⟨y,H2,I2,r2,q2⟩:=hy0;refine
  bQ (ho _ s2 σ H2 x y v u _ I2 r1 r2 q2) λd s3 ⟨z,H3,I3,r3,k,e,q3⟩=>?_
 subst e;cases r3;refine UP ?_;cases k with
 | false=>
  obtain⟨k',e',q'⟩:=q3;cases e';exact ite_ff ⟨H3,I3,q'⟩
 | true=>
  refine ite_tt (test_last (bQ (hc _ s3 σ H3 _ I3 q3) λw' s4 hy0=>?_));obtain⟨z',H4,I4,r4,q4⟩:=hy0;refine bQ (ho' _ s4 σ H4 y z' u w' _ I4 r2 r4 q4) λd' s5 hq0=>?_;obtain⟨z2,H5,I5,r5,k2,e2,q5⟩:=hq0;subst e2;cases r5;exact UP ⟨H5,I5,q5⟩
noncomputable def L1(K:Frag)(x:V)(H:Hp)(k:Bool):Prop:=
 match x with
 | .non=>k=false
 | .bl b=>k=b
 | .int i=>k=(i != 0)
 | .str y=>y.length<=sizeLine/\k=((y.length:Int) != 0)
 | .byt y=>y.size<=sizeLine/\k=((y.size:Int) != 0)
 | .ref p=>(∃xs,c8 K H p xs/\k = !xs.isEmpty)∨(∃xs,fj K H p xs/\k = !xs.isEmpty)∨∃kvs,H p=some (.dK kvs)/\k = !kvs.isEmpty
 | _=>False
theorem xT(r:KV kvs vs):(!vs.isEmpty) = !kvs.isEmpty:=by
 cases r <;> rfl
theorem rK(r:aV xs its):(!its.toArray.isEmpty) = !xs.isEmpty:=by
 cases r <;> simp
theorem nR:(sizeLine:Nat)<2^63:=by decide
theorem L3:Ri X (λx H Q=>∃k,L1 X.K x H k/\Q k H):=by
 intro pins s σ H x v Q I rx h;obtain⟨k,e,q⟩:=h;have hs  := VD;cases x with
 | non=>
  cases rx;have e'  := e;subst e';exact truthy_none ⟨H,I,q⟩
 | bl b=>
  cases rx;have e'  := e;subst e';exact UP ⟨H,I,q⟩
 | int i=>
  obtain⟨t,rfl⟩:=rx;have e':k=(i != 0):=e;subst e';exact PySem.P.truthy_int ⟨H,I,q⟩
 | str y=>
  obtain⟨t,rfl⟩:=rx;obtain⟨hy,e'⟩:y.length<=sizeLine/\k=((y.length:Int) != 0):=e;subst e';exact PySem.P.truthy_str (by omega) ⟨H,I.tok _,q⟩
 | byt y=>
  obtain⟨t,rfl⟩:=rx;obtain⟨hy,e'⟩:y.size<=sizeLine/\k=((y.size:Int) != 0):=e;subst e';exact PySem.W.truthy_bytes (by omega) ⟨H,I.tok _,q⟩
 | ref p=>
  cases rx;have e':(∃xs,c8 X.K H p xs/\k = !xs.isEmpty)∨(∃xs,fj X.K H p xs/\k = !xs.isEmpty)∨∃kvs,H p=some (.dK kvs)/\k = !kvs.isEmpty:=e;rcases e' with⟨xs,hx,e'⟩ | ⟨xs,hx,e'⟩ | ⟨kvs,hx,e'⟩
  . subst e';obtain⟨its,r,pl,hz⟩:=I.list hx;have hlen:=r.length;exact wpAny_truthy_list pl.isList (by simp only[UG];omega) ⟨H,I.tok _,by rw[rK r];exact q⟩
  . subst e';obtain⟨its,r,pl,hz⟩:=I.tuple hx;have hlen:=r.length;exact truthy_tuple pl (by simp only[UG];omega) ⟨H,I.tok _,by rw[rK r];exact q⟩
  . subst e';obtain⟨hz,hS,vs,r,m'⟩:kvs.length<=sizeLine/\(p==sysModules)=false/\∃vs,KV kvs vs/\jy X.prog X.w s.heap p vs:=I.hok p _ hx;have m:=m'.of;have hlen:kvs.length=vs.length:=V2 r;exact wpAny_truthy_dict hS m (by omega) ⟨H,I.tok _,by rw[xT r];exact q⟩
 | _=>exact(show False from e).elim
theorem Du(ha:PE X a ta)(he:∀whole,isTrue a X.env whole=(do let v <-whole;standAt a.pos;holding [v] (truthy v))):
 PT X a (λσ H Q=>ta σ H λx H'=>∃k,L1 X.K x H' k/\Q k H'):=by
 intro pins s σ H Q I h;exact isTrue_plain (bQ (ha _ s σ H _ I h) λv s1 hy0=>by obtain⟨x,H1,I1,r1,q1⟩:=hy0;exact L3 _ s1 σ H1 x v Q I1 r1 q1) (he _)
theorem yo:gz X (binaryOp .Add) (λx y H Q=>∃i j,x=.str i/\y=.str j/\i.length+j.length<=sizeLine/\Q (.str (i++j)) H):=by
 intro pins s σ H x y v u Q I rx ry h;obtain⟨i,j,rfl,rfl,hz,q⟩:=h;obtain⟨t,rfl⟩:=rx;obtain⟨t',rfl⟩:=ry;exact add_str (λt' tk=>⟨.str _,H,I.tok _,⟨_,rfl⟩,q⟩) hz
theorem jE(r:aV [x] us):∃u,us=[u]/\bi x u:=by
 cases r with
 | cons r1 r2=>cases r2;simp_all
theorem vG:bV X (.type "str") (λxs H Q=>∃i,xs=[.int i]/\i.natAbs.log2<1920/\Q (.str (toString i)) H):=by
 intro pins s σ H xs us Q I r h;obtain⟨i,rfl,hz,q⟩:=h;obtain⟨u,rfl,t,rfl⟩:=jE r;exact PySem.P.str_of_int hz ⟨.str _,H,I.tok _,⟨_,rfl⟩,q⟩
end
end L2
namespace L2
open PySem PySem.Spec PyProof.Rows
open PySem.W (Frag)
structure ye(h:Heap)(x dx C:Addr)(mA:Str->Option Value):Prop where
 obj:h.get? x=some (PySem.W.instObj C dx)
 ns:h.Ns1 dx mA
 ne:dx≠x
theorem By{h:Heap}(n:h.Ns1 dx mA):∃od,h.get? dx=some od/\∀name,PySem.W.lookIn name od=some (mA name):=by
 obtain⟨o,es,ep,ho,hd,hk,_,hm⟩:=n;refine⟨o,ho,λname=>?_⟩;have e:=hm name;unfold nsFind findBy at e;rw[<-Array.find?_toList]at e;unfold PySem.W.lookIn;rw[hd];dsimp only;split
 . simp_all
 . rename_i q;rw[q]at e;have a:es.toList.any (·.refKey)=false:=by
    rw[List.any_eq_false];intro y hy;obtain⟨z,t,hkey⟩:=hk y (Array.mem_toList_iff.mp hy);simp[DictEntry.refKey,hkey]
   simp_all
theorem ye.look(I:ye h x dx C mA):∃od,PySem.W.InstAt h x (PySem.W.instObj C dx) C (some od)/\∀name,PySem.W.lookIn name od=some (mA name):=
 let ⟨od,ho,hl⟩:=By I.ns
 ⟨od,⟨I.obj,rfl,rfl,ho⟩,hl⟩
section
variable{prog:Program}{w:World}{A:Around}{E:Value->Shared->Prop}{s:Shared}{K:Frag}{x dx C f:Addr}{mA:Str->Option Value}{name:Str}{v:Value}
theorem Ij(X:K.In s.heap)(I:ye s.heap x dx C mA)(hg:PySem.W.plainGet K C name=true)(hh:PySem.W.hasDictIn K C=true)
 (ha:PySem.W.findIn K (.ref C) name=some none) (hv:mA name=some v) (hv':PySem.W.handedIn v=true) (h:Q v { s with toks:=s.toks+1 }):
 wpAny (model prog w) A (getAttr (.ref x) name expr) Q E s:=by
 obtain⟨od,J,hl⟩:=I.look;exact PySem.W.get_value X J (PySem.W.plainGet_of hg).1 (PySem.W.findObj_own hh ha rfl (by rw[hl,hv])) hv' h
theorem Fe(X:K.In s.heap)(I:ye s.heap x dx C mA)(hg:PySem.W.plainGet K C name=true)
 (hf:PySem.W.findIn K (.ref C) name=some (some (.ref f))) (ht:PySem.W.isFn K (.ref f)=true) (hv:mA name=none) (h:Q (.ref f,[.ref x]) s):
 wpAny (model prog w) A (getMethod (.ref x) name pl) Q E s:=by
 obtain⟨od,J,hl⟩:=I.look;exact PySem.W.method_fn X J (PySem.W.plainGet_of hg).1 (PySem.W.plainGet_of hg).2 hf (beq_iff_eq.mp ht) (by show(PySem.W.lookIn _ od).map _=some _;simp_all) h
theorem GW(X:K.In s.heap)(I:ye s.heap x dx C mA)
 (hs:PySem.W.findIn K (.ref C) "__setattr__" = some (some (.builtin "object.__setattr__"))) (hp:PySem.W.plainOver K C=true) (ht:PySem.W.takerIn K C name=some none) (hh:PySem.W.hasDictIn K C=true)
 (hw:PySem.Within mA ns) (hsz:ns.length<=sizeLine)
 (h:∀h',ye h' x dx C (λy=>if y=name then some v else mA y)->Heap.SameBut dx s.heap h'->Q () { s with heap:=h',toks:=s.toks+2 }):
 wpAny (model prog w) A (setAttr (.ref x) name v) Q E s:=by
 obtain⟨od,J,hl⟩:=I.look;refine PySem.W.set_plain X J hs (PySem.W.osa_open   X J hp ht λb=>?_);obtain⟨cd,hc,hd'⟩:=PySem.W.any_some hh;have hx  := I.obj;refine Uf (Ut (Uf (Uf (wpAny_loadPart hx (Uf (PySem.W.Looks.here  (PySem.W.looks_clsIn X hc) ?_))))));rw[hd'];refine Ut  (Uf (Ut (Uf ?_)));refine wpAny_nsSet1  I.ns λh' hn2 hs2=>?_;obtain⟨oD,esD,epD,hoD,hdD,hcD⟩:=hn2.count (PySem.Within.cons _ v hw);refine Uf (wpAny_lookBehind hoD (by rw[hdD];exact pastItsLine_dict (UF hcD (by simp_all))) ?_);exact Ut (h _ ⟨(hs2.2 _ (VB I.ne)).trans I.obj,hn2,I.ne⟩ hs2)
theorem Ek(X:K.In s.heap)(hm:PySem.W.makesIn K C=true)
 (hi:PySem.W.findIn K (.ref C) "__init__" = some (some (.ref f))) (hf:PySem.W.typeIn K (.ref f)=some (.type "function"))
 (h:codeAny (model prog w) (A.under (.builtin "type.__call__" ⟨.ref C::vs,kw⟩)) (.call (.ref f) ⟨.ref (s.heap.objs.size+1)::vs,kw⟩) (PySem.W.InitBack (s.heap.objs.size+1) R)
  { s with heap:=(s.heap.push PySem.W.emptyDict).push (PySem.W.instObj C s.heap.objs.size) }):
 codeAny (model prog w) A (.call (.ref C) ⟨vs,kw⟩) R s:=by
 exact PySem.W.make_core (PySem.W.makes_of X hm) (PySem.W.looks_findIn X hi) (λself=>PySem.W.bind_fn X _ hf) (.inl rfl) h
end
noncomputable def putF(f:Str)(v:V):List (Str×V)->List (Str×V)
 | []=>[(f,v)]
 | (g,x)::r=>if g=f then(g,v)::r else(g,x)::putF f v r
theorem oY(f g:Str)(v:V):∀fs:List (Str×V),(putF f v fs).lookup g=if g=f then some v else fs.lookup g
 | []=>by
  show List.lookup g [(f,v)]=_
  grind
 | (k,x)::r=>by
  have ih:=oY f g v r;rw[show putF f v ((k,x)::r)=if k=f then(k,v)::r else(k,x)::putF f v r from rfl]
  grind
theorem nX(f:Str)(v:V):∀fs:List (Str×V),f∈(putF f v fs).map (·.1)/\∀g,g∈fs.map (·.1)->g∈(putF f v fs).map (·.1)
 | []=>⟨by simp[putF],λg h=>by simp at h⟩
 | (k,x)::r=>by
  obtain⟨i1,i2⟩:=nX f v r;rw[show putF f v ((k,x)::r)=if k=f then(k,v)::r else(k,x)::putF f v r from rfl]
  grind
theorem pA(f:Str)(v:V):∀fs:List (Str×V),(putF f v fs).length<=fs.length+1
 | []=>by simp[putF]
 | (k,x)::r=>by
  have ih:=pA f v r;rw[show putF f v ((k,x)::r)=if k=f then(k,v)::r else(k,x)::putF f v r from rfl]
  grind
theorem jQ.some_of(r:jQ (some v) o):∃u,o=some u/\bi v u:=by
 cases o with
 | none=>exact(show False from r).elim
 | some u=>exact⟨u,rfl,r⟩
theorem jQ.none_of(r:jQ none o):o=none:=by
 cases o with
 | none=>rfl
 | some u=>exact(show False from r).elim
theorem A9(r:bi v u):PySem.W.handedIn u=true:=by
 cases v with
 | non=>cases show u=Value.none from r;rfl
 | bl b=>cases show u=Value.bool b from r;rfl
 | int i=>obtain⟨t,e⟩:=show ∃t,u=Value.int i t from r;cases e;rfl
 | str x=>obtain⟨t,e⟩:=show ∃t,u=Value.str x t from r;cases e;rfl
 | byt b=>obtain⟨t,e⟩:=show ∃t,u=Value.bytes b t from r;cases e;rfl
 | flt b=>obtain⟨t,e⟩:=show ∃t,u=Value.float b t from r;cases e;rfl
 | ref a=>cases show u=Value.ref a from r;rfl
 | ty n=>cases show u=Value.type n from r;rfl
section
variable{P:Program}{w:World}{H H':Hp}{h h':Heap}{a C dx:Addr}{fs fs':List (Str×V)}
theorem vx(hok:lF P w H h)(e:H a=some (.ins C dx fs)):∃mA,ye h a dx C mA/\(∀f,jQ (fs.lookup f) (mA f))/\PySem.Within mA (fs.map (·.1))/\fs.length<=1000/\H dx=some (.own a):=by
 obtain⟨d,z,ne,ob,mA,n,r,q⟩:=show cH P w H h a _ from hok a _ e
 exact⟨mA,⟨ob,n,ne⟩,r,q,z,d⟩
end
structure xx(K:Frag)(C:Addr):Prop where
 pg:PySem.W.plainGet K C Str.empty=true
 hd:PySem.W.hasDictIn K C=true
 po:PySem.W.plainOver K C=true
 sa:PySem.W.findIn K (.ref C) "__setattr__" = some (some (.builtin "object.__setattr__"))
theorem xx.get{K:Frag}(c:xx K C)(f:Str):PySem.W.plainGet K C f=true:=c.pg
noncomputable def NoAttr(K:Frag)(C:Addr)(f:Str):Prop:=PySem.W.findIn K (.ref C) f=some none
theorem NoAttr.taker{K:Frag}(n:NoAttr K C f):PySem.W.takerIn K C f=some none:=by
 unfold PySem.W.takerIn;rw[show PySem.W.findIn K _ f=some _ from n];rfl
structure gm(K:Frag)(C:Addr)(m:Str)(f:Addr):Prop where
 at_:PySem.W.findIn K (.ref C) m=some (some (.ref f))
 fn:PySem.W.isFn K (.ref f)=true
 kp:PySem.W.keepIn K (.ref f)=true
section
variable{X:Cx}{pins:List (Addr×Obj)}{σ:St}{H:Hp}{s:Shared}{a C dx:Addr}{fs:List (Str×V)}{f:Str}{v:V}{A:Around}{E:Value->Shared->Prop}
theorem su(I:aJ X pins σ H s)(e:H a=some (.ins C dx fs))(c:xx X.K C)(n:NoAttr X.K C f)(l:fs.lookup f=some v)
 (h:∀u s',aJ X pins σ H s'->bi v u->Q u s'):wpAny (model X.prog X.w) A (getAttr (.ref a) f b) Q E s:=by
 obtain⟨mA,O,r,_,_,_⟩:=vx I.hok e;obtain⟨u,hu,ru⟩:=jQ.some_of   (by rw[<-l];exact r f);exact Ij I.kIn O (c.get f) c.hd n hu (A9 ru) (h u _ (I.tok _) ru)
theorem rH(I:aJ X pins σ H s)(e:H a=some (.ins C dx fs))(c:xx X.K C)(k:gm X.K C m g)(l:fs.lookup m=none)
 (h:Q (.ref g,[.ref a]) s):wpAny (model X.prog X.w) A (getMethod (.ref a) m pl) Q E s:=by
 obtain⟨mA,O,r,_,_,_⟩:=vx I.hok e;have hn  := jQ.none_of (by rw[<-l];exact r m);exact Fe I.kIn O (c.get m) k.at_ k.fn hn h
theorem qY(I:aJ X pins σ H s)(e:H a=some (.ins C dx fs))(c:xx X.K C)(n:NoAttr X.K C f)(hl:fs.length<1000)(ry:bi y u)
 (h:∀s',aJ X pins σ (cx H a (.ins C dx (putF f y fs))) s'->Q () s'):wpAny (model X.prog X.w) A (setAttr (.ref a) f u) Q E s:=by
 obtain⟨mA,O,r,wi,_,ho⟩:=vx I.hok e;have hz:(fs.map (·.1)).length<=sizeLine:=by rw[Uj,VD];omega
 refine GW I.kIn O c.sa c.po n.taker c.hd wi hz λh' O' sb=>h _ ?_;have hd:∃o,h'.get? dx=some o:=by obtain⟨o,_,_,e',_⟩:=O'.ns;simp_all
 refine I.write   (by rw[e];exact True.intro) (.inr ho) (λb q hb z=>(sb.2 b hb).trans z) hd ?_;refine⟨by rw[aE O.ne];exact ho,?_,O.ne,O'.obj,_,O'.ns,λg=>?_,λg hg=>?_⟩
 . have:=pA f y fs;omega
 . rw[oY];by_cases q:g=f
   . rw[Ul q,Ul q];exact ry
   simp_all
 . by_cases q:g=f
   . rw[q];exact(nX f y fs).1
   . refine(nX f y fs).2 g (wi g λz=>hg ?_);show(if g=f then some u else mA g)=none;rw[UE q];exact z
theorem aJ.made(I:aJ X pins σ H s):aJ X pins σ (cx (cx H s.heap.objs.size (.own (s.heap.objs.size+1))) (s.heap.objs.size+1) (.ins C s.heap.objs.size []))
 { s with heap:=(s.heap.push PySem.W.emptyDict).push (PySem.W.instObj C s.heap.objs.size) }:=by
 have e1:(s.heap.push _).get? _=some PySem.W.emptyDict:=Uv _ rfl;have e2  := by
  have:=Uv (s.heap.push PySem.W.emptyDict) (o:=PySem.W.instObj C s.heap.objs.size) rfl
  rwa[Vq]at this
 have e3:(s.heap.push _).Ns _ _:=⟨PySem.W.emptyDict,#[],_,e1,rfl,λe he=>absurd he (by simp),λ_=>rfl⟩
 have I1:=I.laid  (o:=.own (s.heap.objs.size+1))  (t':=s.toks) (λb u q=>Uc _ q) (Ug _) ⟨_,e1⟩;refine I1.laid    (λb u q=>Uc _ q) (Nat.le_of_eq (Vq _ _)) ?_;have ne:s.heap.objs.size≠s.heap.objs.size+1:=Uy (UY _);refine⟨by rw[aE ne,aC],Vn _,ne,e2,λ_=>none,(Heap.Ns1.of_empty e3).at λo q=>Uc _ q,λ_=>True.intro,λy hy=>absurd rfl hy⟩
theorem Hz(hb:attributeBase e f env (eval e env)=eval e env)
 (h:wpAny (model prog w) A (eval e env) (λo s₁=>wpAny (model prog w) A (getAttr o f true) Q E s₁) E s):wpAny (model prog w) A (eval (.Attribute e f pos) env) Q E s:=
 Attribute_any_ h (by rw[arm_eval_Attribute,hb])
end
noncomputable def KU(K:Frag)(ta:TE)(f:Str):TE:=λσ H Q=>ta σ H λx H1=>∃a C dx fs v,x=.ref a/\H1 a=some (.ins C dx fs)/\xx K C/\NoAttr K C f/\fs.lookup f=some v/\Q v H1
noncomputable def Pp(K:Frag)(ta tv:TE)(f:Str):TS:=λD σ H=>tv σ H λy H1=>ta σ H1 λx H2=>∃a C dx fs,x=.ref a/\H2 a=some (.ins C dx fs)/\xx K C/\NoAttr K C f/\fs.length<1000/\
 D.nx σ (cx H2 a (.ins C dx (putF f y fs)))
noncomputable def I0(X:Cx)(op:Operator)(rd:V->V->Hp->VK->Prop):Prop:=
 ∀(pins:List (Addr×Obj))(s:Shared)(σ:St)(H:Hp)(x y:V)(u v:Value)(Q:VK),aJ X pins σ H s->bi x u->bi y v->rd x y H Q->wpAny (model X.prog X.w) X.A (inplaceOp op u v) (EP X pins σ Q) X.xe s
noncomputable def uY(K:Frag)(ta tv:TE)(rd:V->V->Hp->VK->Prop)(f:Str):TS:=λD σ H=>ta σ H λx H1=>∃a C dx fs v,x=.ref a/\H1 a=some (.ins C dx fs)/\xx K C/\NoAttr K C f/\fs.lookup f=some v/\
 tv σ H1 λy H2=>rd v y H2 λz H3=>∃dx' fs',H3 a=some (.ins C dx' fs')/\fs'.length<1000/\D.nx σ (cx H3 a (.ins C dx' (putF f z fs')))
section
variable{X:Cx}{o e value:Expr}{f:Str}{pos pos' tpos:Pos}{ta tv:TE}
theorem MA(he:PE X e ta)(hb:attributeBase e f X.env (eval e X.env)=eval e X.env):PE X (.Attribute e f pos) (KU X.K ta f):=by
 intro pins s σ H Q I h;refine Hz hb (bQ (he _ s σ H _ I h) λu s1 hq0=>?_);obtain⟨x,H1,I1,rx,a,C,dx,fs,v,ex,ea,c,n,l,q⟩:=hq0;subst ex;obtain rfl:u=Value.ref a:=rx;exact su I1 ea c n l λu' s2 I2 ru=>⟨v,H1,I2,ru,q⟩
theorem QX(ha:PE X o ta)(hv:PE X value tv)(hs:swapsWith value (some (.Attribute o f pos')) pos.line X.env=pure false):PS X (.Assign [.Attribute o f pos'] value pos) (Pp X.K ta tv f):=by
 intro pins s σ H D I h;refine plainObj_wpAny_Assign_Attribute (bQ (hv _ s σ H _ I h) λu s1 hy0=>?_) hs;obtain⟨y,H1,I1,ry,q⟩:=hy0;refine bQ (ha _ s1 σ H1 _ I1 q) λov s2 hq0=>?_;obtain⟨x,H2,I2,rx,a,C,dx,fs,ex,ea,c,n,l,q2⟩:=hq0;subst ex;obtain rfl:ov=Value.ref a:=rx;exact qY I2 ea c n l ry λs3 I3=>⟨σ,_,I3,q2⟩
theorem Bi(ha:PE X o ta)(hv:PE X value tv)(hop:I0 X op rd):PS X (.AugAssign (.Attribute o f tpos) op value pos) (uY X.K ta tv rd f):=by
 intro pins s σ H D I h;refine wpAny_AugAssign_AttributeAny (bQ (ha _ s σ H _ I h) λov s1 hq0=>?_);obtain⟨x,H1,I1,rx,a,C,dx,fs,v,ex,ea,c,n,l,q⟩:=hq0;subst ex;obtain rfl:ov=Value.ref a:=rx;refine su I1 ea c n l λu s2 I2 ru=>bQ (hv _ s2 σ H1 _ I2 q) λw3 s3 hy0=>?_;obtain⟨y,H2,I3,ry,q3⟩:=hy0;refine bQ (hop _ s3 σ H2 v y u w3 _ I3 ru ry q3) λw4 s4 hq0=>?_;obtain⟨z,H3,I4,rz,dx',fs',ea',l',q4⟩:=hq0;exact qY I4 ea' c n l' rz λs5 I5=>⟨σ,_,I5,q4⟩
noncomputable def N8:V->V->Hp->VK->Prop:=λx y H Q=>∃i j,x=.int i/\y=.int j/\Q (.int (i+j)) H
theorem Ra:I0 X .Add N8:=by
 rintro pins s σ H x y u v Q I rx ry ⟨i,j,rfl,rfl,q⟩;obtain⟨t,rfl⟩:=show ∃t,u=Value.int i t from rx
 obtain⟨t',rfl⟩:=show ∃t',v=Value.int j t' from ry
 exact PyProof.Rows.iadd_int ⟨.int _,H,I.tok _,⟨_,rfl⟩,q⟩
end
section
variable{X:Cx}{pins:List (Addr×Obj)}{σ:St}{H:Hp}{s:Shared}{A:Around}{E:Value->Shared->Prop}{Q:Value->Shared->Prop}{c:Value}{b:Bool}
end
end L2
namespace L2
open PySem PySem.Spec PyProof.Rows
open PySem.W (Frag)
structure dI(k:Nat)(A:Around):Prop where
 hd:A.handled=none
 dp:A.depth+3*k+5<recursionLimit
 un:A.units+16*k+200<cLine
 gd:A.guards=some []
theorem dI.mono(r:dI k A)(h:j<=k):dI j A:=⟨r.hd,by have:=r.dp;omega,by have:=r.un;omega,r.gd⟩
theorem dI.deeper(r:dI (k+1) A)(env:Env):dI k (A.deeper env):=
 ⟨r.hd,by have:=r.dp;show A.depth+1+3*k+5<_;omega,by have:=r.un;show A.units+3+16*k+200<_;omega,r.gd⟩
theorem yG{A:Around}:(A.under (.builtin "type.__call__" ⟨.ref C::us,kw⟩)).depth=A.depth+1:=by
 rfl
theorem yF{A:Around}:(A.under (.builtin "type.__call__" ⟨.ref C::us,kw⟩)).units=A.units+1:=by
 rfl
theorem wC{A:Around}:(A.under (.builtin "type.__call__" ⟨.ref C::us,kw⟩)).guards=A.guards:=by
 rfl
theorem dI.make(r:dI (k+1) A)(C:Addr)(us:List Value)(kw:List (Str×Value)):dI k (A.under (.builtin "type.__call__" ⟨.ref C::us,kw⟩)):=
 ⟨r.hd,by have:=r.dp;rw[yG];omega,by have:=r.un;rw[yF];omega,wC.trans r.gd⟩
theorem dI.depth(r:dI k A):A.depth<recursionLimit:=by have:=r.dp;omega
theorem dI.units(r:dI k A):A.units+64<cLine:=by have:=r.un;omega
noncomputable def gS:TA:=λ_ H Q=>Q [] H
noncomputable def dM(ta:TE)(tr:TA):TA:=λσ H Q=>ta σ H λx H1=>tr σ H1 λxs H2=>Q (x::xs) H2
section
variable{X:Cx}{e:Expr}{es:List Expr}{te:TE}{t:TA}{pos:Pos}
theorem Rk:PA X [] gS:=λ_ _ _ _ H Q I h=>Calls.spliced_nil ⟨[],H,I,.nil,h⟩
theorem Q0(ha:PE X e te)(hr:PA X es t)(hs:starEach (e::es) X.env=(false,eval e X.env)::starEach es X.env):PA X (e::es) (dM te t):=by
 intro pos pins s σ H Q I h;rw[hs];refine Calls.spliced_cons (bQ (ha _ s σ H _ I h) λu s1 hq0=>?_);obtain⟨x,H1,I1,r1,q1⟩:=hq0;exact bQ (hr _ _ s1 σ H1 _ I1 q1) λus s2 hy0=>by obtain⟨xs,H2,I2,r2,q2⟩:=hy0;exact⟨x::xs,H2,I2,.cons r1 r2,q2⟩
end
noncomputable abbrev Sp:=List V->Hp->VK->XK->Prop
noncomputable abbrev FU:=List Env->Hp->Shared->XK->Value->Shared->Prop
structure yg(P:Program)(w:World)(K:Frag)(mg:Str->Option Value)(base:Heap)(A:Around)(outer:List Env)(s:Shared)(H:Hp):Prop where
 frames:A.frames=some outer
 mod:Mod K mg base
 bs:∀b o,base.get? b=some o->s.heap.get? b=some o/\H b=none
 bsz:base.objs.size<=s.heap.objs.size
 funs:s.heap.FunFrames base outer
 frf:∀b∈CL outer,H b=none
 hok:lF P w H s.heap
 bare:AllBare s.gens
noncomputable def CE(outer:List Env)(P:Program)(w:World)(H:Hp)(s:Shared)(Q:VK)(u:Value)(s':Shared):Prop:=
 ∃v H',s'.os=s.os/\AllBare s'.gens/\Un (CL outer) [] H H' s.heap s'.heap/\lF P w H' s'.heap/\bi v u/\Q v H'
noncomputable def CR(CX:FU)(outer:List Env)(P:Program)(w:World)(H:Hp)(s:Shared)(Q:VK)(E:XK)(r:Result)(s':Shared):Prop:=
 match r with
 | .ok (.ret u)=>CE outer P w H s Q u s'
 | .ok _=>False
 | .error e=>CX outer H s E e s'
structure eW(P:Program)(w:World)(K:Frag)(mg:Str->Option Value)(base:Heap)(CX:FU)(k:Nat)(f:Addr)(fd:FuncData)(ps:List Str)(sp:Sp):Prop where
 len:∀vs H Q E,sp vs H Q E->vs.length=ps.length
 run:∀(A:Around)(outer:List Env)(s:Shared)(H:Hp)(args:Args)(us:List Value)(vs:List V)(Q:VK)(E:XK),dI k A->yg P w K mg base A outer s H->BindsTo s fd args (ps.zip us)->aV vs us->sp vs H Q E->
  codeAny (model P w) A (.call (.ref f) args) (CR CX outer P w H s Q E) s
theorem eW.mono{K:Frag}(F:eW P w K mg base CX j f fd ps sp)(h:j<=k):
 eW P w K mg base CX k f fd ps sp:=⟨F.len,λA outer s H args us vs Q E hr=>F.run A _ s H _ us vs Q E (hr.mono h)⟩
theorem eW.imp{K:Frag}(F:eW P w K mg base CX k f fd ps sp)
 (h:∀vs H Q E,sp' vs H Q E->sp vs H Q E):eW P w K mg base CX k f fd ps sp':=
 ⟨λvs H Q E q=>F.len vs H Q E (h _ _ _ _ q),λA outer s H args us vs Q E hr he hb hv hs=>F.run A _ s H _ us vs Q E hr he hb hv (h _ _ _ _ hs)⟩
theorem yg.make{K:Frag}(e:yg P w K mg base A outer s H)(C:Addr)(us:List Value)(kw:List (Str×Value)):
 yg P w K mg base (A.under (.builtin "type.__call__" ⟨.ref C::us,kw⟩)) outer s H:=⟨by first | rfl | (simpa[Around.under,Code.envs,Code.isFrame,pushEnvs] using e.frames),e.mod,e.bs,e.bsz,e.funs,e.frf,e.hok,e.bare⟩
section
variable{X:Cx}{pins:List (Addr×Obj)}{σ:St}{H:Hp}{s s':Shared}
theorem aJ.env0(I:aJ X pins σ H s):yg X.prog X.w X.K X.mg X.base X.A X.stack s H:=
 ⟨I.ok.frames,I.ok.mod,I.bs,UF I.ok.bsz I.sz,I.stack,I.stkFree,I.hok,I.bare⟩
theorem aJ.after(I:aJ X pins σ H s)(h:CE X.stack X.prog X.w H s Q u s'):EP X pins σ Q u s':=by
 obtain⟨v,H',os,bare,un,hok,r,q⟩:=h;obtain⟨hh,g,d,t,os'⟩:=s';obtain rfl:os'=s.os:=os;exact⟨v,H',I.call      un hok bare λb z=>absurd z (by simp),r,q⟩
end
noncomputable def uc(sp:Sp)(dvs:List V)(E:XK)(t:TA):TE:=λσ H Q=>t σ H λvs H1=>sp (vs++dvs) H1 Q E
noncomputable def Et(C:Addr)(m:Str)(sp:Sp)(dvs:List V)(E:XK)(ta:TE)(t:TA):TE:=λσ H Q=>ta σ H λx H1=>∃a dx fs,x=.ref a/\H1 a=some (.ins C dx fs)/\fs.lookup m=none/\
 t σ H1 λvs H2=>sp (x::(vs++dvs)) H2 Q E
noncomputable def Dh(C:Addr)(sp:Sp)(dvs:List V)(E:XK)(t:TA):TE:=λσ H Q=>t σ H λvs H1=>∀x dx,H1 x=none->H1 dx=none->dx≠x->
 sp (.ref x::(vs++dvs)) (cx (cx H1 dx (.own x)) x (.ins C dx [])) (λv H2=>v=.non/\Q (.ref x) H2) E
noncomputable def bA(K:Frag)(fd:FuncData)(ps:List Str)(ds:List Value):Prop:=
 ∀(s:Shared)(us:List Value),K.In s.heap->(us++ds).length=ps.length->BindsTo s fd ⟨us,[]⟩ (ps.zip (us++ds))
theorem bA.all{K:Frag}(h:∀us:List Value,us.length=ps.length->bindArgs fd ⟨us,[]⟩=pure (ps.zip us)):bA K fd ps []:=λs us _ hl=>by
 rw[UK]at hl ⊢;exact .of_eq (h us hl)
noncomputable def iW(CX:FU)(X:Cx)(E:XK):Prop:=∀(pins:List (Addr×Obj))(σ:St)(H:Hp)(s:Shared)(e:Value)(s':Shared),aJ X pins σ H s->CX X.stack H s E e s'->X.xe e s'
section
variable{X:Cx}{CX:FU}{k:Nat}{f C:Addr}{fd:FuncData}{ps:List Str}{sp:Sp}{dvs:List V}{ds:List Value}{E:XK}{x m:Str}{p pos apos:Pos}{e o:Expr}{es:List Expr}{ta:TE}{t:TA}
theorem uK{σ:St}(F:eW X.prog X.w X.K X.mg X.base CX k f fd ps sp)(hr:dI k X.A)(hb:bA X.K fd ps ds)(hd:aV dvs ds)(hx:iW CX X E)
 (I:aJ X pins σ H s) (r:aV vs us) (h:sp (vs++dvs) H Q E):wpAny (model X.prog X.w) X.A (call (.ref f) us) (EP X pins σ Q) X.xe s:=by
 have r2  := r.append hd;have hl:(us++ds).length=ps.length:=by rw[<-r2.length];exact F.len _ _ _ _ h
 refine wpAny_call (VG (F.run _ _ s H _ _ _ Q E hr I.env0 (hb s us I.kIn hl) r2 h) λr s' hq=>?_);cases r with
 | error e=>exact hx _ σ H s e s' I hq
 | ok fl=>
  cases fl with
  | ret u=>exact I.after hq
  | next=>exact False.elim hq
  | brk=>exact False.elim hq
  | cont=>exact False.elim hq
theorem zu(F:eW X.prog X.w X.K X.mg X.base CX k f fd ps sp)(hr:dI k X.A)(hg:Gl X x)(hm:X.mg x=some (.ref f))(hk:PySem.W.keepIn X.K (.ref f)=true)(hb:bA X.K fd ps ds)(hd:aV dvs ds)(hx:iW CX X E)
 (ha:PA X (e::es) t) (hdb:(x==("__debug__" : Str))=false:=by decide) (he:starEach (e::es) X.env=(false,eval e X.env)::starEach es X.env:=by rfl) (hpl:(backTo pos (starEach es X.env)).any (·.1)=false:=by rfl):
 PE X (.Call (.Name x p) (e::es) [] pos) (uc sp dvs E t):=by
 intro pins s σ H Q I h;refine Vi (mR I hg hm ?_ hdb);refine VR  I.ok.mod.kin hk (bQ (ha _ _ s σ H _ I h) λus s1 hy0=>?_) he hpl;obtain⟨vs,H1,I1,r,q⟩:=hy0;refine⟨I1.kIn,?_⟩;exact uK F hr hb hd hx I1 r q
theorem Gx{pl:Sem Bool}(he:PE X o ta)(c:xx X.K C)(hm:gm X.K C m f)(F:eW X.prog X.w X.K X.mg X.base CX k f fd ps sp)(hr:dI k X.A)(hb:bA X.K fd ps ds)(hd:aV dvs ds)(hx:iW CX X E)(ha:PA X (e::es) t)
 (hst:starEach (e::es) X.env=(false,eval e X.env)::starEach es X.env:=by rfl) (hpl:(backTo pos (starEach es X.env)).any (·.1)=false:=by rfl)
 (ht:eval (.Call (.Attribute o m apos) (e::es) [] pos) X.env=(do
  let ov <-eval o X.env
  standAt apos.atName
  let (f,first) <-holding [ov] (getMethod ov m pl)
  callWith pos f first (backTo pos (starEach (e::es) X.env)) (backToKw pos (keywordEach [] X.env))):=by rfl):
 PE X (.Call (.Attribute o m apos) (e::es) [] pos) (Et C m sp dvs E ta t):=by
 intro pins s σ H Q I h;refine PySem.W.methodCall_KW  (bQ (he _ s σ H _ I h) λu s1 hq0=>?_) ht;obtain⟨x,H1,I1,rx,a,dx,fs,ex,ea,l,q⟩:=hq0;subst ex;obtain rfl:u=Value.ref a:=rx;refine rH I1 ea c hm l ?_;refine VR   I.ok.mod.kin hm.kp (bQ (ha _ _ s1 σ H1 _ I1 q) λus s2 hy0=>?_) hst hpl;obtain⟨vs,H2,I2,r,q2⟩:=hy0;refine⟨I2.kIn,?_⟩;exact uK  (vs:=.ref a::vs) F hr hb hd hx I2 (.cons rfl r) q2
theorem Er(he:PE X o ta)(c:xx X.K C)(hm:gm X.K C m f)(F:eW X.prog X.w X.K X.mg X.base CX k f fd ps sp)(hr:dI k X.A)(hb:bA X.K fd ps ds)(hd:aV dvs ds)(hx:iW CX X E)
 (ht:eval (.Call (.Attribute o m apos) [] [] pos) X.env=(do
  let ov <-eval o X.env
  standAt apos.atName
  let (f,first) <-holding [ov] (getMethod ov m pl)
  callWith pos f first (backTo pos (starEach [] X.env)) (backToKw pos (keywordEach [] X.env))):=by rfl):
 PE X (.Call (.Attribute o m apos) [] [] pos) (Et C m sp dvs E ta gS):=by
 intro pins s σ H Q I h;refine PySem.W.methodCall_KW  (bQ (he _ s σ H _ I h) λu s1 hq0=>?_) ht;obtain⟨x,H1,I1,rx,a,dx,fs,ex,ea,l,q⟩:=hq0;subst ex;obtain rfl:u=Value.ref a:=rx;refine rH I1 ea c hm l ?_;exact PySem.W.callWith_K0  I1.kIn hm.kp (uK  (vs:=[.ref a]) F hr hb hd hx I1 (.cons rfl .nil) q)
structure Mk(K:Frag)(C f:Addr):Prop where
 makes:PySem.W.makesIn K C=true
 init:PySem.W.findIn K (.ref C) "__init__" = some (some (.ref f))
 fn:PySem.W.isFn K (.ref f)=true
 kp:PySem.W.keepIn K (.ref C)=true
theorem wa{σ:St}(M:Mk X.K C f)(F:eW X.prog X.w X.K X.mg X.base CX k f fd ps sp)(hr:dI (k+1) X.A)(hb:bA X.K fd ps ds)(hd:aV dvs ds)
 (hx:iW CX X E) (I:aJ X pins σ H s) (r:aV vs us)
 (h:∀x dx,H x=none->H dx=none->dx≠x->sp (.ref x::(vs++dvs)) (cx (cx H dx (.own x)) x (.ins C dx [])) (λv H2=>v=.non/\Q (.ref x) H2) E):
 wpAny (model X.prog X.w) X.A (call (.ref C) us) (EP X pins σ Q) X.xe s:=by
 have hq:=h _ _ (I.hok.fresh (Nat.le_succ _)) (I.hok.fresh (Ug _)) (Uy (UY _));have I2:=aJ.made (C:=C) I;have r2:aV (V.ref (s.heap.objs.size+1)::(vs++dvs)) _:=.cons rfl (r.append hd);have hl  := by
  have e:=r2.length;rw[F.len _ _ _ _ hq]at e;exact e.symm
 refine wpAny_call (Ek  I.kIn M.makes M.init (beq_iff_eq.mp M.fn) (VG (F.run _ _ _ _ _ _ _ _ E (hr.make C us [])
  (I2.env0.make C us []) (hb _ _ I2.kIn hl) r2 hq) λr s' hq'=>?_))
 cases r with
 | error e=>exact hx _ σ _ _ e s' I2 hq'
 | ok fl=>
  cases fl with
  | ret u=>
   obtain⟨v,H',I3,rv,ev,q3⟩:=I2.after hq';subst ev;exact⟨rv,⟨V.ref _,H',I3,rfl,q3⟩⟩
  | next=>exact False.elim hq'
  | brk=>exact False.elim hq'
  | cont=>exact False.elim hq'
theorem GF(M:Mk X.K C f)(F:eW X.prog X.w X.K X.mg X.base CX k f fd ps sp)(hr:dI (k+1) X.A)(hg:Gl X x)(hm:X.mg x=some (.ref C))(hb:bA X.K fd ps ds)(hd:aV dvs ds)(hx:iW CX X E)
 (ha:PA X (e::es) t) (hdb:(x==("__debug__" : Str))=false:=by decide) (he:starEach (e::es) X.env=(false,eval e X.env)::starEach es X.env:=by rfl) (hpl:(backTo pos (starEach es X.env)).any (·.1)=false:=by rfl):
 PE X (.Call (.Name x p) (e::es) [] pos) (Dh C sp dvs E t):=by
 intro pins s σ H Q I h;refine Vi (mR I hg hm ?_ hdb);refine VR  I.ok.mod.kin M.kp (bQ (ha _ _ s σ H _ I h) λus s1 hy0=>?_) he hpl;obtain⟨vs,H1,I1,r,q⟩:=hy0;refine⟨I1.kIn,?_⟩;exact wa M F hr hb hd hx I1 r q
theorem FB(M:Mk X.K C f)(F:eW X.prog X.w X.K X.mg X.base CX k f fd ps sp)(hr:dI (k+1) X.A)(hg:Gl X x)(hm:X.mg x=some (.ref C))(hb:bA X.K fd ps ds)(hd:aV dvs ds)(hx:iW CX X E)
 (hdb:(x==("__debug__" : Str))=false:=by decide):PE X (.Call (.Name x p) [] [] pos) (Dh C sp dvs E gS):=by
 intro pins s σ H Q I h;refine Vi (mR I hg hm ?_ hdb);exact PySem.W.callWith_K0 I.kIn M.kp (wa  M F hr hb hd hx I .nil h)
end
section
variable{X:Cx}{CX:FU}{k:Nat}{f C:Addr}{fd:FuncData}{ps ks:List Str}{sp:Sp}{E:XK}{x m:Str}{p pos apos kpos:Pos}{e o:Expr}{es:List Expr}{kws:List Keyword}{te ta:TE}{t tk:TA}{nm:Option Str}
variable{g:List Value->List Value->List Value}{gV:List V->List V->List V}
end
structure hZ(N P:List Str)(sc:Scope):Prop where
 kind:sc.kind=.function
 co:sc.isCoroutine=false
 gen:sc.isGenerator=false
 nd:N.Nodup
 pre:N.take P.length=P
 par:∀x∈P,sc.names.lookup x=some .local∨sc.names.lookup x=some .cell
 nofree:∀y∈sc.names,y.2≠.free
theorem tG{kindOf:Str->Option NameKind}:∀{binds:List (Str×Value)}{m:Str->Option Value},(∀v,(x,v)∉binds)->bindL kindOf binds m x=m x
 | [],_,_=>rfl
 | (n,v)::r,m,h=>by
  unfold bindL;rw[tG λw hw=>h w (TY _ hw)];split
  . grind
  . rfl
theorem uj{kindOf:Str->Option NameKind}:∀{binds:List (Str×Value)}{m:Str->Option Value},(∀v,(x,v)∉binds)->bindC kindOf binds m x=m x
 | [],_,_=>rfl
 | (n,v)::r,m,h=>by
  unfold bindC;rw[uj λw hw=>h w (TY _ hw)];split
  . rfl
  grind
theorem ua{kindOf:Str->Option NameKind}:∀{P:List Str}{vs:List Value}{i:Nat}{m:Str->Option Value},P.Nodup->P[i]?=some x->vs[i]?=some v->kindOf x=some .local->
 bindL kindOf (P.zip vs) m x=some v
 | [],_,_,_,_,h,_,_=>by simp at h
 | _::_,[],_,_,_,_,h,_=>by simp at h
 | p::P,w::vs,0,m,nd,h1,h2,hk=>by
  simp at h1 h2;subst h1;subst h2;show bindL _ ((p,w)::P.zip vs) m p=_;unfold bindL;rw[tG λv hv=>(Vb.mp nd).1 (List.of_mem_zip hv).1,Ul hk];simp
 | p::P,w::vs,i+1,m,nd,h1,h2,hk=>by
  unfold bindL;exact ua  (Vb.mp nd).2 (by simpa using h1) (by grind) hk
theorem tP{kindOf:Str->Option NameKind}:∀{P:List Str}{vs:List Value}{i:Nat}{m:Str->Option Value},P.Nodup->P[i]?=some x->vs[i]?=some v->kindOf x≠some .local->
 bindC kindOf (P.zip vs) m x=some v
 | [],_,_,_,_,h,_,_=>by simp at h
 | _::_,[],_,_,_,_,h,_=>by simp at h
 | p::P,w::vs,0,m,nd,h1,h2,hk=>by
  simp at h1 h2;subst h1;subst h2;show bindC _ ((p,w)::P.zip vs) m p=_;unfold bindC;rw[uj λv hv=>(Vb.mp nd).1 (List.of_mem_zip hv).1,UE hk];simp
 | p::P,w::vs,i+1,m,nd,h1,h2,hk=>by
  unfold bindC;exact tP  (Vb.mp nd).2 (by simpa using h1) (by grind) hk
noncomputable def start(N:List Str)(vs:List V):St:=vs.map some++List.replicate (N.length-vs.length) none
noncomputable def yt(CX:FU)(P:Program)(w:World)(K:Frag)(mg:Str->Option Value)(base:Heap)(N:List Str)(qual:Str)(scope:Scope)(f:Addr)(cd:Value)(A:Around)(outer:List Env)(s:Shared)(H:Hp)(E:XK):Cx where
 prog:=P
 w:=w
 K:=K
 mg:=mg
 base:=base
 A:=A.deeper (envOfC qual scope s.heap.objs.size f cd)
 N:=N
 s₀:=s
 H₀:=H
 env:=envOfC qual scope s.heap.objs.size f cd
 outer:=outer
 stack:=envOfC qual scope s.heap.objs.size f cd::outer
 ex:=[]
 calm:=true
 fn:=λ_=>true
 pn:=[]
 xe:=λe s'=>wpAny (model P w) (A.deeper (envOfC qual scope s.heap.objs.size f cd)) (leaving (envOfC qual scope s.heap.objs.size f cd) e) (λ_ s''=>CX outer H s E e s'') (λe' s''=>CX outer H s E e' s'') s'
theorem wL{sc:Scope}(h:sc.names.lookup x=some .cell):∃c,(cellsFrom n sc.names []).lookup x=some c:=by
 have q:=PySem.W.cellsFrom_some _ n [] (.inl h);exact Vp.mp q
theorem Bv{K:Frag}
 (S:hZ N ps scope) (hd:A.handled=none) (e0:yg P w K mg base A outer s H) (hl:vs.length=ps.length) (r:aV vs us)
 (x:InCallC s s.heap.objs.size (bindL (envOfC qual scope s.heap.objs.size f cd).kindOf (ps.zip us) λ_=>none) (cellsFrom (s.heap.objs.size+1) scope.names []) (bindC (envOfC qual scope s.heap.objs.size f cd).kindOf (ps.zip us) λ_=>none) s1):
 aJ (yt CX P w K mg base N qual scope f cd A outer s H E) [] (start N vs) H s1:=by
 have hpl  := by have:=Uh List.length S.pre;rw[List.length_take]at this;omega
 obtain⟨h1,tk,rfl,hk⟩:=x.done;have noA:∀b , b∉(yt CX P w K mg base N qual scope f cd A outer s H E).ex:=λb z=>absurd (show b∈[] from z) (by simp);refine⟨⟨e0.mod,S.kind,rfl,rfl,Ug _,λy z c h1 h2=>?_,λy hy=>?_,λy c _ h=>?_,λ_=>hd,Around.frames_deeper e0.frames,.inr ⟨rfl,rfl⟩,λb z=>absurd z (noA b),e0.bs,e0.bsz,λb _ _=>noA b,λb z=>absurd z (noA b),e0.funs,e0.frf⟩,
  rfl,e0.bare,Un.kept hk,⟨_,x.toInCall.ns,λi y v h1 h2 h3=>?_⟩,λy c h=>⟨_,x.cell y c h⟩,e0.hok.fresh (Ug _),λy c h=>?_,λp hp=>absurd (show p∈[] from hp) (by simp),e0.hok.kept hk,?_⟩
 . exact name_of_addr x.apart (Vd h1) (Vd h2)
 . rcases hy with hy | hy
   . exact wL hy
   . exact absurd rfl (S.nofree _ (Vd hy))
 . exact Ve (x.above y c (Vd h))
 . have hi:i<vs.length:=by
    unfold start at h2;by_cases hi:i<vs.length
    . exact hi
    . rw[UO (by simpa using hi)]at h2;rw[Vr]at h2;split at h2 <;> cases h2
   have ha:vs[i]?=some v:=by
    unfold start at h2;rw[UA (by simpa using hi),UT]at h2;cases e:vs[i]? with
    | none=>rw[e]at h2;cases h2
    | some a=>rw[e]at h2;cases h2;rfl
   obtain⟨u,hu,rv⟩:=r.get ha;have hp:ps[i]?=some y:=by
    rw[<-S.pre,List.getElem?_take_of_lt (by omega)];exact h1
   have ndP:ps.Nodup:=by rw[<-S.pre];exact S.nd.sublist (List.take_sublist _ _)
   refine⟨u,rv,?_⟩;rcases S.par y (UV hp) with k | k
   . exact .inl ⟨k,ua ndP hp hu k⟩
   . obtain⟨c,e⟩:=wL (n:=s.heap.objs.size+1) k;refine .inr ⟨.inl k,c,e,?_⟩;have q:=x.cell y c e;rw[tP ndP hp hu (by show scope.names.lookup y≠_;rw[k];decide)]at q;exact q
 . exact e0.hok.fresh (Ve (x.above y c (Vd h)))
 . unfold start;show _=N.length;rw[Ur,Uj,List.length_replicate];omega
theorem OY{K:Frag}{dV kV doc pm cdv ct oc:Value}
 (lk:K.lookup f=some ⟨oc,od,.func (PySem.W.fnOf name qual params body scope dV kV doc pm an cdv ct),osl⟩) (hcd:PySem.W.codeIn K cdv qual=true) (S:hZ N ps scope)
 (len:∀vs H Q E,sp vs H Q E->vs.length=ps.length)
 (hbody:∀(A:Around)(outer:List Env)(s:Shared)(H:Hp)(vs:List V)(Q:VK)(E:XK),dI k (A.deeper (envOfC qual scope s.heap.objs.size f cdv))->sp vs H Q E->
  ∃t,vR (yt CX P w K mg base N qual scope f cdv A outer s H E) body t/\t { nx:=λ_ H'=>Q .non H',rt:=Q } (start N vs) H):
 eW P w K mg base CX (k+1) f (PySem.W.fnOf name qual params body scope dV kV doc pm an cdv ct) ps sp:=by
 refine⟨len,λA outer s H args us vs Q E hr e0 hb r hsp=>?_⟩;have hl:=len _ _ _ _ hsp;have KX  := e0.mod.kin.keeps λb o e=>(e0.bs b o e).1;have lim  := e0.mod.nolimit.keeps λb o e=>(e0.bs b o e).1;have hkind:∀y∈ps.zip us,scope.names.lookup y.1=some _∨scope.names.lookup y.1=some _/\((cellsFrom (s.heap.objs.size+1) _ []).lookup y.1).isSome=true:=λ⟨n,v⟩ hy=>by
  rcases S.par n (List.of_mem_zip hy).1 with q | q
  . exact .inl q
  . exact .inr ⟨q,PySem.W.cellsFrom_some _ _ _ (.inl q)⟩
 refine codeAny_call_function hr.depth (KX _ _ lk) rfl S.co S.gen rfl (PySem.W.codeRec_of KX hcd) (hb _ _ _ _ ?_);refine wpAny_newFunctionEnv_cells S.kind hkind λenv he s1 x=>?_;subst he;refine⟨lim.keeps x.toInCall.keep,codeAny_func ?_⟩;obtain⟨t,ht,hq⟩:=hbody A outer s H vs Q E (hr.deeper _) hsp;have I:aJ (yt CX P w K mg base N qual scope f cdv A outer s H E) [] (start N vs) H s1:=Bv S hr.hd e0 hl r x;refine UU (ht [] s1 (start N vs) H _ I hq) (λfl s' hs=>?_) λe s' hs=>hs;have fin:∀{σ':St}{H':Hp}{v:V}{u:Value},aJ (yt CX P w K mg base N qual scope f cdv A outer s H E) [] σ' H' s'->bi v u->Q v H'->CE outer P w H s Q u s':=
  λ{σ' H' v u} J rv q=>⟨v,H',J.os,J.bare,J.base,J.hok,rv,q⟩
 cases fl with
 | ret u=>
  obtain⟨v,σ',H',J,rv,q⟩:=hs;exact fin J rv q
 | next=>
  obtain⟨σ',H',J,q⟩:=hs;exact fin (v:=V.non) (u:=Value.none) J rfl q
 | brk=>
  obtain⟨_,_,_,q⟩:=hs;exact False.elim q
 | cont=>
  obtain⟨_,_,_,q⟩:=hs;exact False.elim q
end L2
namespace L2
open PySem PySem.Spec PyProof.Rows
open PySem.W (Frag)
section
variable{X:Cx}{x:Str}{p pos:Pos}{e:Expr}{es:List Expr}{t:TA}{id T:String}{r:List V->Hp->VK->Prop}
noncomputable def vQ(r:List V->Hp->VK->Prop)(t:TA):TE:=λσ H Q=>t σ H λvs H1=>r vs H1 Q
theorem E5(hc:bV X (.builtin id) r)(hg:Gl X x)(hm:X.mg x=none)(hv:bootBuiltins x=some (.builtin id))(ha:PA X (e::es) t)(hn:x ≠ "__name__" := by decide)(hdb:(x==("__debug__" : Str))=false:=by decide)
 (he:starEach (e::es) X.env=(false,eval e X.env)::starEach es X.env:=by rfl) (hpl:(backTo pos (starEach es X.env)).any (·.1)=false:=by rfl):PE X (.Call (.Name x p) (e::es) [] pos) (vQ r t):=by
 intro pins s σ H Q I h;refine Vi (nZ I hg hm hv ?_ hn hdb);exact PyProof.Rows.callWith_builtin1 (bQ (ha _ _ s σ H _ I h) λus s1 hy0=>by obtain⟨vs,H1,I1,r1,q1⟩:=hy0;exact hc _ s1 σ H1 vs us Q I1 r1 q1) he hpl
theorem gy(hc:bV X (.type T) r)(hg:Gl X x)(hm:X.mg x=none)(hv:bootBuiltins x=some (.type T))(ha:PA X (e::es) t)(hn:x ≠ "__name__" := by decide)(hdb:(x==("__debug__" : Str))=false:=by decide)
 (he:starEach (e::es) X.env=(false,eval e X.env)::starEach es X.env:=by rfl) (hpl:(backTo pos (starEach es X.env)).any (·.1)=false:=by rfl):PE X (.Call (.Name x p) (e::es) [] pos) (vQ r t):=by
 intro pins s σ H Q I h;refine Vi (nZ I hg hm hv ?_ hn hdb);exact VC (bQ (ha _ _ s σ H _ I h) λus s1 hy0=>by obtain⟨vs,H1,I1,r1,q1⟩:=hy0;exact hc _ s1 σ H1 vs us Q I1 r1 q1) he hpl
end
end L2
namespace HT
open PySem PyProof.Rows
section
open PySem.SeqAt
open PySem.AutoSeq1 (wpAny_loadPart')
open PySem.MeetsSeq PySem.MeetsSeq2 PySem.MeetsSeq3
end
section
variable{prog:Program}{w:World}{A:Around}{E:Value->Shared->Prop}{s:Shared}
theorem cat_tup(ht:IsTup s.heap t vs.toArray)(hb:IsTup s.heap b ws.toArray)(hv:vs≠[])
 (h1:ws=[]->Q (.ref t) s) (h2:ws≠[]->Q (.ref s.heap.objs.size) { s with heap:=s.heap.push { cls:=.type "tuple", data:=.seq (vs++ws).toArray } })
 (hsz:vs.length+ws.length<=sizeLine):wpAny (model prog w) A (binaryOp .Add (.ref t) (.ref b)) Q E s:=by
 obtain⟨⟨cls,dd,data,sl⟩,ho,hc,n,hd⟩:=id ht;obtain⟨⟨cls2,dd2,data2,sl2⟩,ho2,hc2,n2,hd2⟩:=id hb;subst hc hd hc2 hd2;have e:vs.toArray++ws.toArray=(vs++ws).toArray:=by simp
 by_cases hw:ws=[]
 . exact concat_meets ⟨_,ho,rfl⟩ ⟨_,ho2,rfl⟩ noFill_tuple_add seq_tuple_add PySem.F.slot_tuple_add PySem.F.entry_tuple_add (PySem.F.args_tuple_add_2 _ _)
    (tuple_addW1 t b _ _ n n2 dd _ sl _ (by grind) (by simp[hw])) ⟨ho,ho2,h1 hw⟩
 . refine concat_meets ⟨_,ho,rfl⟩ ⟨_,ho2,rfl⟩ noFill_tuple_add seq_tuple_add PySem.F.slot_tuple_add PySem.F.entry_tuple_add (PySem.F.args_tuple_add_2 _ _)
    (tuple_addW2 t b _ _ n n2 dd _ sl _ (by grind) (by grind) (by omega)) ⟨ho,ho2,?_⟩
   simp_all
noncomputable def sIx(n d:Nat):Option Int->Nat
 | none=>d
 | some v=>if v<0 then(v+(n:Int)).toNat else min v.toNat n
theorem sIx_none(n d:Nat):sIx n d none=d:=rfl
theorem sIx_nat(n d k:Nat):sIx n d (some (k:Int))=min k n:=by
 rfl
theorem Ac(v:Int)(n d:Nat):(if v<0 then max (v+(n:Int)) 0 else min v (n:Int))=((sIx n d (some v):Nat):Int):=by
 show(if v<0 then max _ 0 else min v _)=if v<0 then(v+n).toNat else min _ n
 grind
theorem yM(lo hi:Option Int)(n:Nat):Builtin.Slice.sliceAdjust lo hi 1 (n:Int)=(((sIx n 0 lo:Nat):Int),((sIx n n hi:Nat):Int)):=by
 have h1  := by omega
 unfold Builtin.Slice.sliceAdjust;refine Prod.ext ?_ ?_
 . cases lo with
   | none=>rfl
   | some v=>exact Ac v n 0
 . cases hi with
   | none=>rfl
   | some v=>exact Ac v n n
theorem yD(i j:Nat):Builtin.Slice.slicePlaces (i:Int) (j:Int) 1=j-i:=by
 unfold Builtin.Slice.slicePlaces
 grind
theorem rS(p:IsPart v o)(h:Q o s):wpAny (model prog w) A (Builtin.Slice.slicePartIndex v) Q E s:=by
 cases p with
 | none=>exact slicePart_none h
 | int i t=>exact slicePart_int h
theorem sliceApplied_gen{lo hi:Option Int}{n:Nat}(hs:s.heap.IsSliceOf sl vl vu .none)(pl:IsPart vl lo)(pu:IsPart vu hi)
 (h:Q (((sIx n 0 lo:Nat):Int),1,sIx n n hi-sIx n 0 lo) s):wpAny (model prog w) A (Builtin.Slice.sliceApplied (.ref sl) (pure (n:Int))) Q E s:=by
 obtain⟨os,hos,hcs,hds⟩:=id hs;refine wpAny_bind (wpAny_bind (wpAny_field hos hds  rfl (wpAny_bind (wpAny_field hos hds  rfl (wpAny_bind (wpAny_field hos hds  rfl (wpAny_pure ?_)))))));refine wpAny_bind (slicePart_none ?_);refine wpAny_bind (rS pl (wpAny_bind (rS pu (wpAny_bind (wpAny_pure ?_)))));show wpAny _ _ (match Builtin.Slice.sliceAdjust lo hi 1 _ with | (lo,hi)=>pure (lo,(1:Int),Builtin.Slice.slicePlaces lo hi 1)) _ _ s;rw[yM lo hi n];show wpAny _ _ (pure _) _ _ s;rw[yD];exact wpAny_pure h
theorem C3(xs:Array Value)(i k:Nat):((List.range k).filterMap λ(m:Nat)=>xs[((i:Int)+(m:Int)*1).toNat]?).toArray=((xs.toList.drop i).take k).toArray:=by
 have e:(λ(m:Nat)=>xs[(i+(m:Int)*1).toNat]?)=λm=>xs[i+m]?:=by
  grind
 rw[e];have:=pick_run xs i k;rw[List.filterMap_map]at this;have e2:((λx=>xs[x]?) ∘ λx=>i+x)=λm=>xs[i+m]?:=rfl
 simp_all
theorem getItem_tuple_cut{lo hi:Option Int}(ht:IsTup s.heap t items)(hs:s.heap.IsSliceOf sl vl vu .none)(pl:IsPart vl lo)(pu:IsPart vu hi)
 (hw:¬ (sIx items.size 0 lo=0/\sIx items.size items.size hi=items.size))
 (h:Q (.ref s.heap.objs.size) { s with heap:=s.heap.push { cls:=.type "tuple", data:=.seq ((items.toList.drop (sIx items.size 0 lo)).take (sIx items.size items.size hi-sIx items.size 0 lo)).toArray } })
 (hsz:items.size<=sizeLine):wpAny (model prog w) A (getItem (.ref t) (.ref sl)) Q E s:=by
 have htake  := by
  show((items.toList.drop (sIx items.size 0 lo)).take (sIx items.size items.size hi-sIx items.size 0 lo)).toArray.size<=sizeLine
  grind
 obtain⟨os,hos,hcs,hds⟩:=id hs;have hTs:s.TypeIs (.ref sl) _:=⟨os,hos,hcs⟩
 unfold getItem;try with_reducible refine wpAny_holding ?_
 refine wpAny_bind (wpAny_sequenceKey ht.typeIs (by decide) ?_);refine wpAny_bind (wpAny_callSpecial?_slot  ht.typeIs PyProof.Rows.slot_tuple_getitem
  (wpAny_call_entry PyProof.Rows.slot_tuple_getitem ht.typeIs entry_tuple_getitem ?_ (args_tuple_getitem _ _)))
 show wpAny _ _ (Builtin.Tuple.tupleItemsOf (.ref t) >>= _) _ _ s;refine wpAny_bind (tupleItemsOf_ ht ?_);refine wpAny_bind (wpAny_typeOf hTs ?_);refine wpAny_bind (sliceApplied_gen hs pl pu ?_);have hno:¬ ((((sIx items.size 0 lo:Nat):Int)==0&&(1:Int)==1&&(sIx items.size items.size hi-sIx items.size 0 lo)==items.size)=true):=by
  intro q;rw[Bool.and_eq_true,Bool.and_eq_true]at q;have q1:((sIx items.size 0 lo:Nat):Int)=0:=eq_of_beq q.1.1;have q2:sIx items.size items.size hi-sIx items.size 0 lo=items.size:=eq_of_beq q.2;exact hw ⟨by omega,by omega⟩
 show wpAny _ _ (if(((sIx items.size 0 lo:Nat):Int)==0&&(1:Int)==1&&(sIx items.size items.size hi-sIx items.size 0 lo)==items.size)=true then _ else _) _ _ s;rw[if_neg hno,C3];first
  | exact wpAny_bind (m:=Builtin.Tuple.tupleExact _) (wpAny_newObj_type (wpAny_pure ⟨_,rfl,wpAny_pure h⟩) htake)
  | exact wpAny_bind (m:=Builtin.Tuple.tupleExact _) (wpAny_newObj_type (wpAny_bind (wpAny_pure (wpAny_pure ⟨_,rfl,wpAny_pure h⟩))) htake)
  | exact wpAny_bind (wpAny_bind (m:=Builtin.Tuple.tupleExact _) (wpAny_newObj_type (wpAny_pure (wpAny_pure ⟨_,rfl,wpAny_pure h⟩)) htake))
  | exact wpAny_bind (wpAny_bind (m:=Builtin.Tuple.tupleExact _) (wpAny_newObj_type (wpAny_pure ⟨_,rfl,wpAny_pure h⟩) htake))
end
end HT
namespace L2
open PySem PySem.Spec PyProof.Rows
open PySem.W (Frag)
noncomputable abbrev TO:=St->Hp->(Option Int->Hp->Prop)->Prop
noncomputable def PO(X:Cx)(e:Option Expr)(t:TO):Prop:=
 ∀(pins:List (Addr×Obj))(s:Shared)(σ:St)(H:Hp)(Q:Option Int->Hp->Prop),aJ X pins σ H s->t σ H Q->
  wpAny (model X.prog X.w) X.A (evalPart e X.env) (λu s'=>∃o H',aJ X pins σ H' s'/\IsPart u o/\Q o H') X.xe s
noncomputable def vz:TO:=λ_ H Q=>Q none H
noncomputable def Do(t:TE):TO:=λσ H Q=>t σ H λx H1=>∃i,x=.int i/\Q (some i) H1
section
variable{X:Cx}{e:Expr}{te:TE}{lo hi:Option Expr}{tl th:TO}{pos p2:Pos}
theorem QE:PO X none vz:=by
 intro pins s σ H Q I h;exact Ut ⟨none,H,I,.none,h⟩
theorem Qt(h:PE X e te):PO X (some e) (Do te):=by
 intro pins s σ H Q I hw;refine bQ (h _ s σ H _ I hw) λu s1 hq0=>?_;obtain⟨x,H1,I1,r1,q1⟩:=hq0;obtain⟨i,rfl,q⟩:=q1;obtain⟨t,rfl⟩:=r1;exact⟨some i,H1,I1,.int i t,q⟩
noncomputable def I9(X:Cx)(r:V->Option Int->Option Int->Hp->VK->Prop):Prop:=
 ∀(pins:List (Addr×Obj))(s:Shared)(σ:St)(H:Hp)(x:V)(v vl vu:Value)(lo hi:Option Int)(sl:Addr)(Q:VK),aJ X pins σ H s->bi x v->s.heap.IsSliceOf sl vl vu .none->IsPart vl lo->IsPart vu hi->r x lo hi H Q->
  ∃T id,typeLookup (.type T) "__getitem__" = pure (some (.builtin id))/\s.TypeIs v T/\wpAny (model X.prog X.w) X.A (getItem v (.ref sl)) (EP X pins σ Q) X.xe s
noncomputable def Og(r:V->Option Int->Option Int->Hp->VK->Prop)(te:TE)(tl th:TO):TE:=λσ H Q=>te σ H λx H1=>tl σ H1 λl H2=>th σ H2 λu H3=>r x l u H3 Q
theorem NV(hr:I9 X r)(he:PE X e te)(hl:PO X lo tl)(hu:PO X hi th):PE X (.Subscript e (.Slice lo hi none p2) pos) (Og r te tl th):=by
 intro pins s σ H Q I h;refine Subscript_ (bQ (he _ s σ H _ I h) λv s1 hq0=>?_);obtain⟨x,H1,I1,r1,q1⟩:=hq0;refine wpAny_Slice (bQ (hl _ s1 σ H1 _ I1 q1) λvl s2 hy0=>?_);obtain⟨l,H2,I2,pl,q2⟩:=hy0;refine bQ (hu _ s2 σ H2 _ I2 q2) λvu s3 hq0=>?_;obtain⟨u,H3,I3,pu,q3⟩:=hq0;refine Ut ?_;have I4:aJ X _ σ H3 { s3 with heap:=s3.heap.push { cls:=.type "slice", data:=.fields #[vl,vu,.none] } }:=I3.kept  λb ob q=>Uc _ q;obtain⟨T,id,hT,ht,hg⟩:=hr _ _ σ H3 x v vl vu l u _ Q I4 r1 (Heap.IsSliceOf.new ..) pl pu q3;exact tail_any  ht hT hg (by rfl)
noncomputable def wX(xs:List V)(lo hi:Option Int):List V:=(xs.drop (HT.sIx xs.length 0 lo)).take (HT.sIx xs.length xs.length hi-HT.sIx xs.length 0 lo)
theorem pc(xs:List V)(lo hi:Option Int):(wX xs lo hi).length<=xs.length:=by
 unfold wX
 grind
noncomputable def OD(K:Frag):V->Option Int->Option Int->Hp->VK->Prop:=λx lo hi H Q=>∃a xs,x=.ref a/\fj K H a xs/\
 ¬ (HT.sIx xs.length 0 lo=0/\HT.sIx xs.length xs.length hi=xs.length)/\∀p,H p=none->Q (.ref p) (cx H p (.tup (wX xs lo hi)))
theorem MF:I9 X (OD X.K):=by
 intro pins s σ H x v vl vu lo hi sl Q I rx hs pl pu h;obtain⟨a,xs,rfl,hx,hw,q⟩:=h;cases rx;obtain⟨its,r,ht,hz⟩:=I.tuple hx;have hlen:its.toArray.size=xs.length:=by exact r.length.symm
 refine⟨"tuple", _,U4.lookup,ht.typeIs,?_⟩;refine HT.getItem_tuple_cut ht hs pl pu (by simp_all) ?_ (by omega);rw[hlen];refine⟨.ref s.heap.objs.size,_,I.laid   (λb ob q=>Uc _ q) (Ug _) ?_,rfl,q _ (I.hok.fresh (Ug _))⟩;exact⟨UF (pc xs lo hi) hz,_,(r.drop (HT.sIx xs.length 0 lo)).take _,IsTup.new _ _⟩
noncomputable def IT(K:Frag):R2:=λx y H Q=>∃a b xs ys,x=.ref a/\y=.ref b/\fj K H a xs/\fj K H b ys/\xs≠[]/\xs.length+ys.length<=sizeLine/\
 (ys=[]->Q (.ref a) H)/\(ys≠[]->∀p,H p=none->Q (.ref p) (cx H p (.tup (xs++ys))))
theorem aV.nil_iff(r:aV xs us):us=[]↔xs=[]:=by
 cases r with
 | nil=>simp
 | cons _ _=>simp
theorem FQ:gz X (binaryOp .Add) (IT X.K):=by
 intro pins s σ H x y v u Q I rx ry h;obtain⟨a,b,xs,ys,rfl,rfl,ha,hb,hx,hz,q1,q2⟩:=h;cases rx;cases ry;obtain⟨its,r1,p1,_⟩:=I.tuple ha;obtain⟨its2,r2,p2,_⟩:=I.tuple hb;refine HT.cat_tup p1 p2 (λz=>hx (r1.nil_iff.mp z)) (λz=>⟨.ref a,H,I,rfl,q1 (r2.nil_iff.mp z)⟩) (λz=>?_) (by rw[<-r1.length,<-r2.length];exact hz);refine⟨.ref _,_,I.laid   (λb ob q=>Uc _ q) (Ug _) ?_,rfl,q2 (λw=>z (r2.nil_iff.mpr w)) _ (I.hok.fresh (Ug _))⟩;exact⟨by simp_all,_,r1.append r2,IsTup.new _ _⟩
end
end L2
namespace L2
open PySem PySem.Spec PyProof.Rows
open PySem.W (Frag)
noncomputable def xS(n:Nat)(i:Int):Option Nat:=if 0<=i then(if i<n then some i.toNat else none) else if -(n:Int)<=i then some (i+n).toNat else none
noncomputable def jC{α:Type}(xs:List α)(i:Int):Option α:=(xS xs.length i).bind λj=>xs[j]?
theorem zG(h:xS n i=some j):seqIndex? i n=some j/\j<n /\ -(n:Int)<=i/\i<n:=by
 unfold xS at h;by_cases h0:0<=i
 . rw[Ul h0]at h;by_cases h1:i<n
   . rw[Ul h1]at h;have e  := UW h;exact⟨by rw[seqIndex_of h0 h1,e],by omega,by omega,h1⟩
   simp_all
 . rw[UE h0]at h;by_cases h1 : -n<=i
   . rw[Ul h1]at h;have e  := UW h;exact⟨by rw[seqIndex_neg (by omega) h1,e],by omega,h1,by omega⟩
   simp_all
theorem vI(h:jC xs i=some v):∃j,seqIndex? i xs.length=some j/\xs[j]?=some v/\j<xs.length /\ -(xs.length:Int)<=i/\i<xs.length:=by
 unfold jC at h;cases e:xS _ i with
 | none=>rw[e]at h;cases h
 | some j=>
  rw[e]at h;obtain⟨h1,h2,h3,h4⟩:=zG e
  simp_all
theorem zW{xs:List α}{j:Nat}{v:α}(h:xs[j]?=some v):jC xs (j:Int)=some v:=by
 have hj  := (oG h).1;have e:xS xs.length j=some j:=by
  unfold xS
  simp_all
 unfold jC;simp_all
noncomputable def Gz(b:Expr):Prop:=∀o i,subscripted b false o i=operate [o,i] (getItem o i)
noncomputable def BR(X:Cx)(r:R2):Prop:=
 ∀(value slice:Expr)(pins:List (Addr×Obj))(s:Shared)(σ:St)(H:Hp)(x y:V)(v u:Value)(Q:VK),aJ X pins σ H s->bi x v->bi y u->r x y H Q->
  subscripted slice false v u=operate [v,u] (getItem v u)->wpAny (model X.prog X.w) X.A (subscriptTail value slice v u) (EP X pins σ Q) X.xe s
noncomputable def JE(X:Cx)(id:String)(r:V->List V->Hp->VK->Prop):Prop:=
 ∀(pins:List (Addr×Obj))(s:Shared)(σ:St)(H:Hp)(x:V)(xs:List V)(v:Value)(us:List Value)(Q:VK),aJ X pins σ H s->bi x v->aV xs us->r x xs H Q->
  wpAny (model X.prog X.w) X.A (call (.builtin id) (v::us)) (EP X pins σ Q) X.xe s
section
variable{X:Cx}{a b:Expr}{ta tb:TE}{pos:Pos}
theorem BR.or(h:BR X r)(h':BR X r'):BR X (λx y H Q=>r x y H Q∨r' x y H Q):=by
 intro value slice pins s σ H x y v u Q I rx ry q hs;rcases q with q | q
 . exact h _ _ _ s σ H x y v u Q I rx ry q hs
 . exact h' _ _ _ s σ H x y v u Q I rx ry q hs
theorem Pc(hr:BR X r)(ha:PE X a ta)(hb:PE X b tb)(hs:Gz b):PE X (.Subscript a b pos) (qd r ta tb):=by
 intro pins s σ H Q I h;exact Subscript_ (LH ha hb I h λv u s2 x y H2 I2 rx ry q=>hr a b _ s2 σ H2 x y v u Q I2 rx ry q (hs _ _))
noncomputable def Pq(K:Frag):R2:=λx y H Q=>∃p xs i v,x=.ref p/\y=.int i/\c8 K H p xs/\jC xs i=some v/\Q v H
noncomputable def N7(K:Frag):R2:=λx y H Q=>∃p xs i v,x=.ref p/\y=.int i/\fj K H p xs/\jC xs i=some v/\Q v H
noncomputable def O5:R2:=λx y H Q=>∃z i c,x=.str z/\y=.int i/\z.length<=sizeLine/\jC z.cps.toList i=some c/\Q (.str ⟨#[c]⟩) H
theorem FS:BR X (Pq X.K):=by
 intro value slice pins s σ H x y v u Q I rx ry h hs;obtain⟨p,xs,i,z,rfl,rfl,hq,he,q⟩:=h;cases rx;obtain⟨t,rfl⟩:=ry;obtain⟨its,r,pl,hz⟩:=I.list hq;obtain⟨j,h1,h2,h3,h4,h5⟩:=vI he;obtain⟨w,ew,rw'⟩:=r.get h2;have hl:=r.length;have hn:=nR;have fin:EP X _ σ Q w s:=⟨z,H,I,rw',q⟩
 by_cases h0:0<=i
 . have hj  := by
    rw[seqIndex_of h0 h5]at h1;exact UW h1
   exact item_listR pl.isList h0 (by omega) (by simp_all) fin hs
 . have hj:(i+its.toArray.size).toNat=j:=by
    rw[seqIndex_neg (by omega) h4]at h1
    simp_all
   exact subscriptTail_builtinR  pl.isList.typeIs slot_list_getitem.lookup
    (wpAny_getItem_list_neg  pl.isList (by omega) (by simp_all) (by omega) (by simp_all) ⟨rfl,fin⟩) hs
theorem Mb:BR X (N7 X.K):=by
 intro value slice pins s σ H x y v u Q I rx ry h hs;obtain⟨p,xs,i,z,rfl,rfl,hq,he,q⟩:=h;cases rx;obtain⟨t,rfl⟩:=ry;obtain⟨its,r,pl,hz⟩:=I.tuple hq;obtain⟨j,h1,h2,h3,h4,h5⟩:=vI he;obtain⟨w,ew,rw'⟩:=r.get h2;have hl:=r.length;have hn:=nR;have fin:EP X _ σ Q w s:=⟨z,H,I,rw',q⟩
 exact subscriptTail_builtinR  pl.typeIs slot_tuple_getitem.lookup
  (getItem_tuple   pl (by omega) (by omega) (by rw[UG,<-hl];exact h1) (by grind) ⟨rfl,fin⟩) hs
theorem MY:BR X O5:=by
 intro value slice pins s σ H x y v u Q I rx ry h hs;obtain⟨z,i,c,rfl,rfl,hz,he,q⟩:=h;obtain⟨t,rfl⟩:=rx;obtain⟨t',rfl⟩:=ry;obtain⟨j,h1,h2,h3,h4,h5⟩:=vI he;have hl:z.cps.toList.length=z.length:=by rfl
 rw[hl]at h1 h4 h5;have hn:=nR;exact tail_any (V7 s z t) slot_str_getitem.lookup (getItem_str  (by
  grind) (by simp_all) ⟨.str ⟨#[c]⟩,H,I.tok _,⟨_,rfl⟩,q⟩) hs
noncomputable def QH(K:Frag):R2:=λx y H Q=>Pq K x y H Q∨N7 K x y H Q∨O5 x y H Q
theorem Lr:BR X (QH X.K):=FS.or (Mb.or MY)
theorem y2(its:List Value)(n j:Nat)(u:Value):Obj.mapSeq (·.setIfInBounds j u) { cls:=.type "list", data:=.seq its.toArray n }={ cls:=.type "list", data:=.seq (its.set j u).toArray n }:=by
 simp[Obj.mapSeq]
theorem aJ.lst{σ:St}(I:aJ X pins σ H s)(h:H p=some (.lst xs)):
 ∃(its:List Value) (n:Nat),aV xs its/\s.heap.get? p=some { cls:=.type "list", data:=.seq its.toArray n }/\xs.length<=sizeLine:=by
 obtain⟨z,its,n,r,e⟩:=I.hok p _ h
 simp_all
theorem aJ.lstUpd{σ:St}{its its':List Value}(I:aJ X pins σ H s)(h:H p=some (.lst xs))
 (ho:s.heap.get? p=some { cls:=.type "list", data:=.seq its.toArray n }) (hf:f { cls:=.type "list", data:=.seq its.toArray n }={ cls:=.type "list", data:=.seq its'.toArray n' }) (r:aV ys its') (hz:ys.length<=sizeLine) (t:Nat):
 aJ X pins σ (cx H p (.lst ys)) { s with heap:=s.heap.update p f,toks:=t }:=by
 have e:(s.heap.update p f).get? p=some { cls:=.type "list", data:=.seq its'.toArray n' }:=by
  rw[Vk f ho (by rw[hf] <;> rfl),hf]
 refine I.write   (by rw[h];trivial) (.inl rfl) (λb u hb q=>(Heap.get?_update_other _ _ (VB hb)).trans q) ⟨_,e⟩ ?_;exact⟨hz,its',n',r,e⟩
noncomputable def Cy:V->V->V->Hp->(Hp->Prop)->Prop:=λo i v H Q=>∃p xs k j,o=.ref p/\i=.int k/\H p=some (.lst xs)/\xS xs.length k=some j/\Q (cx H p (.lst (xs.set j v)))
theorem EV:Ov X Cy:=by
 intro pins s σ H o i v ov iv u Q I ro ri rv h;obtain⟨p,xs,k,j,rfl,rfl,hp,hj,q⟩:=h;cases ro;obtain⟨t,rfl⟩:=ri;obtain⟨its,n,r,ho,hz⟩:=I.lst hp;obtain⟨h1,h2,h3,h4⟩:=zG hj;have hl:=r.length;have hn:=nR;have I'  :=
  I.lstUpd hp ho (y2 _ n j u) (r.set rv j) (by simp_all) s.toks
 by_cases h0:0<=k
 . have hk  := by
    rw[seqIndex_of h0 h4]at h1;exact UW h1
   exact PySem.W.ki_setAt ho h0 (by omega) (by simp_all) (by grind)
 . have hk:(k+its.toArray.size).toNat=j:=by
    rw[seqIndex_neg (by omega) h3]at h1
    simp_all
   exact PySem.W.ki_setBack ho (by omega) (by simp_all) (by omega) (by grind)
theorem uG(lo hi:Option Int)(n:Nat):(sliceBounds lo hi none n).1=((HT.sIx n 0 lo:Nat):Int)/\(sliceBounds lo hi none n).2.1=((HT.sIx n n hi:Nat):Int)/\(sliceBounds lo hi none n).2.2=1:=by
 refine⟨?_,?_,rfl⟩
 . cases lo with
   | none=>rfl
   | some i=>
    simp only[sliceBounds,HT.sIx,   U5]
    grind
 . cases hi with
   | none=>rfl
   | some i=>
    simp only[sliceBounds,HT.sIx,   U5]
    grind
theorem sE(its:List Value)(lo hi:Option Int):slicePick its.toArray lo hi none=((its.drop (HT.sIx its.length 0 lo)).take (HT.sIx its.length its.length hi-HT.sIx its.length 0 lo)).toArray:=by
 obtain⟨h1,h2,h3⟩:=uG lo hi _;unfold slicePick;rw[h1,h2,h3];simp only[sliceRange_one,pick_run,UG] <;> rfl
noncomputable def PU(K:Frag):V->Option Int->Option Int->Hp->VK->Prop:=λx lo hi H Q=>∃a xs,x=.ref a/\c8 K H a xs/\∀p,H p=none->Q (.ref p) (cx H p (.lst (wX xs lo hi)))
theorem Gn:I9 X (PU X.K):=by
 intro pins s σ H x v vl vu lo hi sl Q I rx hs pl pu h;obtain⟨a,xs,rfl,hx,q⟩:=h;cases rx;obtain⟨its,r,ht,hz⟩:=I.list hx;have hlen:=r.length;refine⟨"list", _,slot_list_getitem.lookup,ht.isList.typeIs,?_⟩;refine wpAny_getItem_list_slice ht.isList hs pl pu .none (by simp) ?_ (by simp_all);rw[sE,<-hlen];refine⟨.ref s.heap.objs.size,_,I.laid   (λb ob q=>Uc _ q) (Ug _) ?_,rfl,q _ (I.hok.fresh (Ug _))⟩;exact⟨UF (pc xs lo hi) hz,_,0,(r.drop _).take _,Uv _ rfl⟩
noncomputable def gc:V->Bool
 | .non=>true
 | .bl _=>true
 | .int _=>true
 | .str _=>true
 | _=>false
noncomputable def yR:V->V->Bool
 | .non,.non=>true
 | .bl a,.bl b=>a==b
 | .bl a,.int b=>(if a then 1 else 0)==b
 | .int a,.bl b=>a==(if b then 1 else 0)
 | .int a,.int b=>a==b
 | .str a,.str b=>a==b
 | _,_=>false
theorem Nn(ry:bi y u)(rx:bi x v)(fy:gc y=true)(fx:gc x=true):SeqAt.EqAt A s u v (yR y x):=by
 cases y with
 | non=>
  cases ry;cases x with
  | non=>cases rx;exact SeqAt.EqAt.same _
  | bl b=>cases rx;exact SeqAt.EqAt.none_bool b
  | int b=>obtain⟨t,rfl⟩:=rx;exact SeqAt.EqAt.none_int b t
  | str b=>obtain⟨t,rfl⟩:=rx;exact SeqAt.EqAt.none_str b t
  | _=>exact absurd (show false=true from fx) Uw
 | bl a=>
  cases ry;cases x with
  | non=>cases rx;exact SeqAt.EqAt.bool_none a
  | bl b=>cases rx;exact SeqAt.EqAt.bool_bool a b
  | int b=>obtain⟨t,rfl⟩:=rx;exact SeqAt.EqAt.bool_int a b t
  | str b=>obtain⟨t,rfl⟩:=rx;exact SeqAt.EqAt.bool_str a b t
  | _=>exact absurd (show false=true from fx) Uw
 | int a=>
  obtain⟨t',rfl⟩:=ry;cases x with
  | non=>cases rx;exact SeqAt.EqAt.int_none a t'
  | bl b=>cases rx;exact SeqAt.EqAt.int_bool a t' b
  | int b=>obtain⟨t,rfl⟩:=rx;exact SeqAt.EqAt.int_int a t' b t
  | str b=>obtain⟨t,rfl⟩:=rx;exact SeqAt.EqAt.int_str a t' b t
  | _=>exact absurd (show false=true from fx) Uw
 | str a=>
  obtain⟨t',rfl⟩:=ry;cases x with
  | non=>cases rx;exact SeqAt.EqAt.str_none a t'
  | bl b=>cases rx;exact SeqAt.EqAt.str_bool a t' b
  | int b=>obtain⟨t,rfl⟩:=rx;exact SeqAt.EqAt.str_int a t' b t
  | str b=>obtain⟨t,rfl⟩:=rx;exact SeqAt.EqAt.str_str a t' b t
  | _=>exact absurd (show false=true from fx) Uw
 | _=>exact absurd (show false=true from fy) Uw
noncomputable def BO(x:V)(u:Value):Bool:=match u with
 | .none=>yR .non x
 | .bool b=>yR (.bl b) x
 | .int i _=>yR (.int i) x
 | .str z _=>yR (.str z) x
 | _=>false
theorem xP(r:bi y u)(f:gc y=true):BO x u=yR y x:=by
 cases y with
 | non=>cases r;rfl
 | bl b=>cases r;rfl
 | int i=>obtain⟨t,rfl⟩:=r;rfl
 | str z=>obtain⟨t,rfl⟩:=r;rfl
 | _=>exact absurd (show false=true from f) Uw
theorem qj(h:aV xs us):xs.all gc=true->us.any (BO x)=xs.any λy=>yR y x:=by
 induction h with
 | nil=>simp_all
 | cons r _ ih=>
  intro f;rw[V8,Uz]at f;rw[V9,V9,xP r f.1,ih f.2]
theorem jV(rx:bi x v)(fx:gc x=true):∀{xs:List V}{us:List Value},aV xs us->xs.all gc=true->∀u∈us,SeqAt.EqAt A s u v (BO x u):=λh f u' hu=>by
 induction h with
 | nil=>cases hu
 | cons r _ ih=>
  rw[V8,Uz]at f;rcases Ub.mp hu with rfl | hu
  . rw[xP r f.1];exact Nn r rx f.1 fx
  simp_all
noncomputable def IN(x:V)(xs:List V):Bool:=xs.any λy=>yR y x
noncomputable def zt(K:Frag)(neg:Bool):R2:=λx y H Q=>∃p xs,y=.ref p/\(c8 K H p xs∨fj K H p xs)/\gc x=true/\xs.all gc=true/\Q (.bl (if neg then !IN x xs else IN x xs)) H
theorem A6:gz X (compareOp .In) (zt X.K false):=by
 intro pins s σ H x y v u Q I rx ry h;obtain⟨p,xs,rfl,hq,fx,fs,q⟩:=h;cases ry;rcases hq with hq | hq
 . obtain⟨its,r,pl,hz⟩:=I.list hq;refine SeqAt.in_listAt _ pl.isList (λw hw=>jV rx fx r fs w (by grind)) ⟨.bl _,H,I,rfl,?_⟩;rw[show its.toArray.any (BO x)=its.any (BO x) by simp,qj r fs];exact q
 . obtain⟨its,r,pl,hz⟩:=I.tuple hq;refine SeqAt.in_tupleAt _ pl (λw hw=>jV rx fx r fs w (by grind)) ⟨.bl _,H,I,rfl,?_⟩;rw[show its.toArray.any (BO x)=its.any (BO x) by simp,qj r fs];exact q
theorem vE:gz X (compareOp .NotIn) (zt X.K true):=by
 intro pins s σ H x y v u Q I rx ry h;obtain⟨p,xs,rfl,hq,fx,fs,q⟩:=h;cases ry;rcases hq with hq | hq
 . obtain⟨its,r,pl,hz⟩:=I.list hq;refine SeqAt.notIn_listAt _ pl.isList (λw hw=>jV rx fx r fs w (by grind)) ⟨.bl _,H,I,rfl,?_⟩;rw[show its.toArray.any (BO x)=its.any (BO x) by simp,qj r fs];exact q
 . obtain⟨its,r,pl,hz⟩:=I.tuple hq;refine SeqAt.notIn_tupleAt _ pl (λw hw=>jV rx fx r fs w (by grind)) ⟨.bl _,H,I,rfl,?_⟩;rw[show its.toArray.any (BO x)=its.any (BO x) by simp,qj r fs];exact q
theorem uA:bV X (.builtin "len") (λxs H Q=>∃p ys,xs=[.ref p]/\(c8 X.K H p ys∨fj X.K H p ys)/\Q (.int ys.length) H):=by
 intro pins s σ H xs us Q I r h;obtain⟨p,ys,rfl,hq,q⟩:=h;obtain⟨u,rfl,rx⟩:=jE r;cases rx;have hn:=nR;rcases hq with hq | hq
 . obtain⟨its,r',pl,hz⟩:=I.list hq;have hlen:=r'.length;exact Calls.call_len_list pl.isList (by grind) ⟨.int ys.length,H,I.tok _,⟨s.toks+1,by simp_all⟩,q⟩
 . obtain⟨its,r',pl,hz⟩:=I.tuple hq;have hlen:=r'.length;exact len_tuple pl (by grind) ⟨.int ys.length,H,I.tok _,⟨s.toks+1,by simp_all⟩,q⟩
theorem vm:bV X (.builtin "len") (λxs H Q=>∃z,xs=[.str z]/\z.length<=sizeLine/\Q (.int z.length) H):=by
 intro pins s σ H xs us Q I r h;obtain⟨z,rfl,hz,q⟩:=h;obtain⟨u,rfl,t,rfl⟩:=jE r;have hn:=nR;exact len_str (by omega) ⟨.int _,H,I.tok _,⟨_,rfl⟩,q⟩
theorem bV.or(h:bV X f r)(h':bV X f r'):bV X f (λxs H Q=>r xs H Q∨r' xs H Q):=by
 intro pins s σ H xs us Q I rs q;rcases q with q | q
 . exact h _ s σ H xs us Q I rs q
 . exact h' _ s σ H xs us Q I rs q
theorem uy:bV X (.type "list") (λxs H Q=>∃p ys,xs=[.ref p]/\(c8 X.K H p ys∨fj X.K H p ys)/\∀l,H l=none->Q (.ref l) (cx H l (.lst ys))):=by
 intro pins s σ H xs us Q I r h;obtain⟨p,ys,rfl,hq,q⟩:=h;obtain⟨u,rfl,rx⟩:=jE r;cases rx;have fin:∀its,aV ys its->ys.length<=sizeLine->∀h' c',(∀b o',s.heap.get? b=some o'->h'.get? b=some o')->
  h'.get? s.heap.objs.size=some _->EP X _ σ Q _ { s with heap:=h' }:=λits r' hz h' c' kp e=>
  ⟨.ref _,_,I.laid  kp (Ug _) (show cH _ _ _ h' _ (.lst ys) from⟨hz,its,c',r',e⟩),rfl,q _ (I.hok.fresh (Ug _))⟩
 rcases hq with hq | hq
 . obtain⟨its,r',pl,hz⟩:=I.list hq;have hlen:=r'.length;obtain⟨o,ho,hc,n,hd⟩:=pl.isList;exact call_list_seq p (.inl rfl) ho hc hd (λh' c' kp e=>fin _ r' hz h' c' kp e) (by simp_all)
 . obtain⟨its,r',pl,hz⟩:=I.tuple hq;have hlen:=r'.length;obtain⟨o,ho,hc,n,hd⟩:=pl;exact call_list_seq p (.inr rfl) ho hc hd (λh' c' kp e=>fin _ r' hz h' c' kp e) (by simp_all)
theorem sV:bV X (.type "tuple") (λxs H Q=>∃p ys,xs=[.ref p]/\((c8 X.K H p ys/\∀l,H l=none->Q (.ref l) (cx H l (.tup ys)))∨(fj X.K H p ys/\Q (.ref p) H))):=by
 intro pins s σ H xs us Q I r h;obtain⟨p,ys,rfl,h⟩:=h;obtain⟨u,rfl,rx⟩:=jE r;cases rx;rcases h with⟨hq,q⟩ | ⟨hq,q⟩
 . obtain⟨its,r',pl,hz⟩:=I.list hq;have hlen:=r'.length;refine call_tuple_list pl.isList (λh' kp=>?_) (by simp_all);have I1:aJ X pins σ H _:=I.kept (t':=s.toks) kp;have I2  :=
    I1.laid (t':=s.toks) (λb o e=>Uc _ e) (Ug _) (show cH _ _ _ _ _ (.tup ys) from⟨hz,its,r',IsTup.new _ _⟩)
   exact⟨.ref _,_,I2,rfl,q _ (I1.hok.fresh (Ug _))⟩
 . obtain⟨its,r',pl,hz⟩:=I.tuple hq;exact call_tuple_same pl ⟨.ref p,H,I,rfl,q⟩
noncomputable def Sr(K:Frag)(T:String)(x:V)(H:Hp):Prop:=match x with
 | .str _=>T = "str"
 | .int _=>T = "int"
 | .ref p=>(T = "list" /\ ∃xs,c8 K H p xs)∨(T = "tuple" /\ ∃o,K.lookup p=some o/\o.cls=.type "tuple" /\ o.dict=none)∨
  (T = "dict" /\ ((∃kvs,H p=some (.dK kvs))∨∃kvs,H p=some (.dT kvs)))∨(T = "set" /\ ∃S n,H p=some (.set S n))
 | _=>False
theorem C8{σ:St}(I:aJ X pins σ H s)(r:bi x v)(ty:Sr X.K T x H):
 s.TypeIs v T/\∀a,v=.ref a->∃ob,s.heap.get? a=some ob/\ob.dict=none:=by
 cases x with
 | str z=>
  obtain⟨t,rfl⟩:=r;cases show T = "str" from ty
  exact⟨V7 s z t,λ_ e=>nomatch e⟩
 | int i=>
  obtain⟨t,rfl⟩:=r;cases show T = "int" from ty
  exact⟨typeIs_int s i t,λ_ e=>nomatch e⟩
 | ref p=>
  cases r;rcases ty with⟨rfl,xs,hq⟩ | ⟨rfl,o,hk,hc,hd⟩ | ⟨rfl,hk⟩ | ⟨rfl,S,n,hk⟩
  . obtain⟨its,_,pl,_⟩:=I.list hq;refine⟨pl.isList.typeIs,λa e=>?_⟩;cases e;obtain⟨o,n,e,c,hd,_⟩:=pl
    simp_all
  . refine⟨⟨o,I.kIn p o hk,hc⟩,λa e=>?_⟩;cases e;exact⟨o,I.kIn _ o hk,hd⟩
  . have z:∃o,s.heap.get? p=some o/\o.ExactDict:=by
     rcases hk with⟨kvs,hk⟩ | ⟨kvs,hk⟩
     . obtain⟨_,_,_,_,o,_,_,e,ex,_⟩:=I.hok p _ hk
       simp_all
     . obtain⟨_,_,_,_,o,_,_,e,ex,_⟩:=I.hok p _ hk
       simp_all
    obtain⟨o,e,ex⟩:=z;refine⟨⟨o,e,ex.1⟩,λa e2=>?_⟩;cases e2;exact⟨o,e,ex.2.1⟩
  . obtain⟨o,_,_,_,e,ex,_⟩:=I.hok p _ hk;refine⟨⟨o,e,ex.1⟩,λa e2=>?_⟩;cases e2;exact⟨o,e,ex.2.1⟩
 | _=>exact False.elim ty
noncomputable def Hi(K:Frag)(T:String)(r:V->List V->Hp->VK->Prop)(to:TE):TE:=λσ H Q=>to σ H λx H1=>Sr K T x H1/\r x [] H1 Q
noncomputable def F4(K:Frag)(T:String)(r:V->List V->Hp->VK->Prop)(to:TE)(t:TA):TE:=λσ H Q=>to σ H λx H1=>Sr K T x H1/\t σ H1 λxs H2=>r x xs H2 Q
variable{o e:Expr}{es:List Expr}{to:TE}{t:TA}{name:Str}{apos cpos:Pos}{T id:String}{r:V->List V->Hp->VK->Prop}
theorem Kv(pa:PlainAttrs T)(slot:Slot T name id)(hty:typeOf (.builtin id)=pure (.type "method_descriptor"))(hm:JE X id r)(ho:PE X o to)
 (hbase:attributeBase o name X.env (eval o X.env)=eval o X.env:=by rfl) (hline:(apos.endLine==cpos.line)=true:=by rfl):PE X (.Call (.Attribute o name apos) [] [] cpos) (Hi X.K T r to):=by
 intro pins s σ H Q I h;refine wpAny_Call_method0_late hbase hline (bQ (ho _ s σ H _ I h) λv s1 hq0=>?_);obtain⟨x,H1,I1,r1,ty,q1⟩:=hq0;obtain⟨h1,h2⟩:=C8 I1 r1 ty;exact⟨T,id,pa,slot,hty,h1,h2,Calls.callWith_builtin rfl (PySem.evalArgs_none (hm _ s1 σ H1 x [] v [] Q I1 r1 .nil q1))⟩
theorem OS(pa:PlainAttrs T)(slot:Slot T name id)(hty:typeOf (.builtin id)=pure (.type "method_descriptor"))(hm:JE X id r)(ho:PE X o to)(ha:PA X (e::es) t)
 (hbase:attributeBase o name X.env (eval o X.env)=eval o X.env:=by rfl)
 (hfew:((backTo cpos (starEach (e::es) X.env)).all (λx=>!x.1)&&(backToKw cpos (keywordEach [] X.env)).all (λx=>x.1.isSome)
  && decide ((e::es).length+([]:List Keyword).length+(if([]:List Keyword).isEmpty then 0 else 1)<30))=true:=by rfl)
 (hline:(apos.endLine==cpos.line)=true:=by rfl) (hs:starEach (e::es) X.env=(false,eval e X.env)::starEach es X.env:=by rfl) (hplain:(backTo cpos (starEach es X.env)).any (·.1)=false:=by rfl):
 PE X (.Call (.Attribute o name apos) (e::es) [] cpos) (F4 X.K T r to t):=by
 intro pins s σ H Q I h;refine wpAny_Call_method_late hbase hfew hline rfl (bQ (ho _ s σ H _ I h) λv s1 hq0=>?_);obtain⟨x,H1,I1,r1,ty,q1⟩:=hq0;obtain⟨h1,h2⟩:=C8 I1 r1 ty;refine⟨T,id,pa,slot,hty,h1,h2,?_⟩;have hA:=ha cpos _ s1 σ H1 _ I1 q1;rw[hs]at hA ⊢;refine Calls.callWith_builtin (by simp_all) (Calls.evalArgs_plain ?_);exact bQ hA λus s2 hy0=>by obtain⟨vs,H2,I2,r2,q2⟩:=hy0;exact hm _ s2 σ H2 x vs v us Q I2 r1 r2 q2
end
end L2
namespace L2
open PySem PySem.Spec PyProof.Rows
open PySem.W (Frag)
noncomputable def N4(X:Cx)(id:String)(r:V->List V->Hp->VK->Prop):Prop:=
 ∀(pins:List (Addr×Obj))(s:Shared)(σ:St)(H:Hp)(x:V)(xs:List V)(v:Value)(us:List Value)(Q:VK),aJ X pins σ H s->bi x v->aV xs us->r x xs H Q->
  wpAny (model X.prog X.w) X.A (call (.builtin id) (v::us)) (EP X pins σ Q) X.xe s
theorem aV.one(h:aV [x] us):∃u,us=[u]/\bi x u:=by
 cases h with
 | cons r t=>cases t;simp_all
theorem aV.zero:∀{us:List Value},aV [] us->us=[]
 | _,.nil=>rfl
theorem aV.dropLast(h:aV xs us):aV xs.dropLast us.dropLast:=by
 induction h with
 | nil=>exact .nil
 | cons r t ih=>
  cases t with
  | nil=>exact .nil
  | cons q t'=>exact .cons r ih
theorem aV.rep(h:aV xs us):∀k:Nat,aV (List.replicate k xs).flatten (List.replicate k us).flatten
 | 0=>.nil
 | k+1=>by
  exact aV.append h (aV.rep h k)
theorem ub(its:List Value):∀(k:Nat)(acc:List Value),
 List.foldl (λx1 x2=>x1++x2) acc.toArray (List.replicate k its.toArray)=(acc++(List.replicate k its).flatten).toArray
 | 0,acc=>by simp
 | k+1,acc=>by
  have e:acc.toArray++its.toArray=(acc++its).toArray:=by simp
  have e2:acc++its++(List.replicate k its).flatten=acc++(List.replicate (k+1) its).flatten:=by
   grind
  rw[<-e2,<-ub its k _,<-e,List.replicate_succ,List.foldl_cons]
section
variable{X:Cx}{pins:List (Addr×Obj)}{σ:St}{H:Hp}{s:Shared}{l b:Addr}{xs ys zs:List V}
theorem aJ.lset{its its':List Value}(I:aJ X pins σ H s)(hH:H l=some (.lst xs))
 (e:s.heap.get? l=some { cls:=.type "list", data:=.seq its.toArray n }) (hf:f its.toArray=its'.toArray) (hv:aV ys its') (hz:ys.length<=sizeLine):
 aJ X pins σ (cx H l (.lst ys)) { s with heap:=s.heap.update l (Obj.mapSeq f),toks:=t' }:=by
 have q:=PySem.IsL.update e f;rw[hf]at q;refine I.write   (by rw[hH];exact trivial) (.inl rfl) (λb' u hb hu=>(Heap.get?_update_other _ _ (VB hb)).trans hu) ⟨_,q⟩ ?_;exact⟨hz,its',_,hv,q⟩
theorem aJ.lnew(I:aJ X pins σ H s)(hv:aV ys its)(hz:ys.length<=sizeLine):
 aJ X pins σ (cx H s.heap.objs.size (.lst ys)) { s with heap:=s.heap.push { cls:=.type "list", data:=.seq its.toArray },toks:=t' }:=
 I.laid (λ_ _ q=>Uc _ q) (Ug _) ⟨hz,its,0,hv,Uv _ rfl⟩
theorem aJ.fresh(I:aJ X pins σ H s):H s.heap.objs.size=none:=I.hok.fresh (Ug _)
theorem aJ.lstM(I:aJ X pins σ H s)(hH:H l=some (.lst xs)):xs.length<=sizeLine/\∃(its:List Value) (n:Nat),aV xs its/\xs.length=its.length/\s.heap.get? l=some { cls:=.type "list", data:=.seq its.toArray n }:=by
 obtain⟨z,its,n,r,e⟩:=I.hok l _ hH;exact⟨z,its,n,r,r.length,e⟩
theorem qI(h:n<=sizeLine):Builtin.List.listTooLong n=false:=by
 exact Up (by omega)
end
section
variable{X:Cx}
noncomputable def mv:V->List V->Hp->VK->Prop:=λx vs H Q=>∃l xs y,x=.ref l/\vs=[y]/\H l=some (.lst xs)/\xs.length<sizeLine/\Q .non (cx H l (.lst (xs++[y])))
theorem B8:N4 X "list.append" mv:=by
 intro pins s σ H x vs v us Q I rx rv h;obtain⟨l,xs,y,rfl,rfl,hH,hz,q⟩:=h;cases rx;obtain⟨u,rfl,ru⟩:=rv.one;obtain⟨z,its,n,r,hl,e⟩:=I.lstM hH;refine Vu F.slot_list_append ⟨_,e,rfl⟩ F.entry_list_append (F.args_list_append_2 _ _) (PySem.list_append l _ n u (by simp_all)) ⟨e,?_⟩;refine⟨.non,_,I.lset (its':=its++[u]) hH e (by simp) (r.append (.cons ru .nil)) ?_,rfl,q⟩
 grind
noncomputable def vJ:V->List V->Hp->VK->Prop:=λx vs H Q=>∃l b xs zs,x=.ref l/\vs=[.ref b]/\H l=some (.lst xs)/\H b=some (.lst zs)/\xs.length+zs.length<=sizeLine/\Q .non (cx H l (.lst (xs++zs)))
theorem Bs:N4 X "list.extend" vJ:=by
 intro pins s σ H x vs v us Q I rx rv h;obtain⟨l,b,xs,zs,rfl,rfl,hH,hB,hz,q⟩:=h;cases rx;obtain⟨u,rfl,ru⟩:=rv.one;cases ru;obtain⟨z,its,n,r,hl,e⟩:=I.lstM hH;obtain⟨z2,its2,n2,r2,hl2,e2⟩:=I.lstM hB;have hsz:its.toArray.size+its2.toArray.size<=sizeLine:=by simp_all
 have hlong:¬ (!its.toArray.isEmpty&&Builtin.List.listTooLong (its.toArray.size+its2.toArray.size))=true:=by
  rw[qI hsz,Bool.and_false]
  simp_all
 refine Vu F.slot_list_extend ⟨_,e,rfl⟩ F.entry_list_extend (F.args_list_extend_2 _ _)
  (AutoSeq1.list_extend_list_list_0 l _ n b _ n2 hlong (by omega) (by omega)) ⟨e,e2,?_⟩
 refine⟨.non,_,I.lset  hH e (by simp) (r.append r2) ?_,rfl,q⟩
 simp_all
noncomputable def Mo:V->List V->Hp->VK->Prop:=λx vs H Q=>∃l xs y,x=.ref l/\vs=[]/\H l=some (.lst xs)/\xs[xs.length-1]?=some y/\Q y (cx H l (.lst xs.dropLast))
theorem Lc:N4 X "list.pop" Mo:=by
 intro pins s σ H x vs v us Q I rx rv h;obtain⟨l,xs,y,rfl,rfl,hH,hy,q⟩:=h;cases rx;have hus:=rv.zero;subst hus;obtain⟨z,its,n,r,hl,e⟩:=I.lstM hH;obtain⟨u,hu,ru⟩:=r.get hy;have hy':its.toArray[its.toArray.size-1]?=some u:=by
  simp_all
 refine Vu F.slot_list_pop ⟨_,e,rfl⟩ F.entry_list_pop (F.args_list_pop_1 _) (MeetsSeq.list_pop_last l _ n u hy' (by simp_all)) ⟨e,?_⟩;refine⟨y,_,I.lset (its':=its.dropLast) hH e ?_ r.dropLast ?_,ru,q⟩
 . simp_all
 grind
noncomputable def NF:R2:=λx y H Q=>∃l k xs,x=.ref l/\y=.int k/\H l=some (.lst xs) /\ -(2^63)<=k/\k<2^63/\xs.length*k.toNat<=sizeLine/\
 ∀p,H p=none->Q (.ref p) (cx H p (.lst (List.replicate k.toNat xs).flatten))
theorem GG{α:Type}(xs:List α)(k:Nat):(List.replicate k xs).flatten.length=k*xs.length:=by
 simp_all
theorem RG:gz X (binaryOp .Mult) NF:=by
 intro pins s σ H x y v u Q I rx ry h;obtain⟨l,k,xs,rfl,rfl,hH,h1,h2,hz,q⟩:=h;cases rx;obtain⟨t,rfl⟩:=ry;obtain⟨z,its,n,r,hl,e⟩:=I.lstM hH;have hlen:its.toArray.size*k.toNat<=sizeLine:=by simp_all
 have hcap:¬ its.toArray.size*k.toNat>(2^63-1) / 8:=by
  have:sizeLine<=(2^63-1) / 8:=by decide
  omega
 have hfit:¬ (!Builtin.List.listFitsIndex k)=true:=by
  rw[fitsIndex_both h1 h2]
  simp_all
 have hlong:¬ Builtin.List.listTooLong (its.toArray.size*k.toNat)=true:=by
  rw[qI hlen]
  simp_all
 have hnew:List.foldl (λx1 x2=>x1++x2) #[] (List.replicate (if its.toArray.isEmpty=true then 0 else k.toNat) its.toArray)=(List.replicate k.toNat its).flatten.toArray:=by
  have f0  := λm=>by
   have:=ub its m [];rw[UL]at this;exact this
  rw[f0];cases its with
  | nil=>simp
  | cons a r'=>rw[UE (by simp)]
 refine wpAny_binaryOp_repeat_ref (T := "list") (U := "int") (by decide) ⟨_,e,rfl⟩ (λs'=>typeIs_int s' k t) noFill_list_mul F.fills_int_mul F.slot_int_rmul repeat_list F.slot_int_index.lookup
  (Vu F.slot_int_rmul (typeIs_int s k t) F.entry_int_rmul (F.args_int_rmul_2 _ _) (int___rmul___int_list k t l its.toArray n)
   ⟨e,rfl,⟨_,e,rfl⟩,Vu F.slot_list_mul ⟨_,e,rfl⟩ F.entry_list_mul (F.args_list_mul_2 _ _) (AutoListH.list___mul___list_int_3 l its.toArray n k t hfit hcap hlong) ⟨e,?_⟩⟩)
 rw[hnew];exact⟨.ref _,_,I.lnew (t':=s.toks) (r.rep k.toNat) (by rw[GG,Nat.mul_comm];exact hz),rfl,q _ I.fresh⟩
end
section
variable{prog:Program}{w:World}{A:Around}{E:Value->Shared->Prop}{s:Shared}
end
section
variable{X:Cx}
end
end L2
namespace Att
open PySem PySem.W PySem.Calls PyProof.Rows
theorem pV:∀(ns:List Int)(vs:List Value),WellAll P h vs (ns.map WData.int)->IntsAre vs ns:=by
 intro ns;induction ns with
 | nil=>
  intro vs w;cases w;exact .nil
 | cons n ns ih=>
  intro vs w;cases w with
  | cons a b=>
   cases a;exact .cons _ _ (ih _ b)
theorem Bh{l:OpenLaw}(hn:l.most=some n)
 (hpre:l.row.toRowW.claim.pre args=true) (hwl:WellAll P h vals args):
 ∃a vs ns,vals=[Value.ref a]/\args=[WData.list (ns.map WData.int)]/\h.get? a=some { cls:=.type "list", data:=.seq vs.toArray }/\IntsAre vs ns/\ns.length<=n:=by
 have hsh  := (pre_splitW hpre).1;have hc:l.pre.holds [] _=true:=(pre_splitW hpre).2;obtain⟨d,r,rfl,h1,h2⟩:=hasAllW_cons hsh;obtain rfl:=hasAllW_nil h2;obtain⟨xs,rfl,h3⟩:=hasW_list h1;obtain⟨ns,rfl⟩:=items_int h3;have hlen:ns.length<=n:=by
  have h4  := by
   have h4:=(holds_andW hc).1;rw[hn]at h4;exact h4
  have h5:=condW_of h4 (w_not (w_lt w_lit (w_len_list (w_arg rfl))))
  simp_all
 cases hwl with
 | cons w1 w2=>
  cases w2;cases w1 with
  | list ho hall=>exact⟨_,_,ns,rfl,rfl,ho,pV ns _ hall,hlen⟩
theorem AV(l:OpenLaw)(args:List WData):l.row.toRowW.claim.post args (.bool true) args=true:=
 postW_of
  (show WShape.has [] _ _=true by rfl)
  (show(WTm.eq _ _).value [] _=some _ from w_eq_bool (w_res rfl) w_lit) rfl
theorem attach_call{l:OpenLaw}
 (hn:l.most=some n) (hdf:d.params.defaults=[])
 (call:∀(w:World)(s₀ s₁:Shared)(mg mb:Str->Option Value)(fa:Addr)(o:Obj)(pm cd doc:Value)(a:Addr)(vs:List Value)(ns:List Int),
  Ground q loose [] XP w s₀ mg mb s₁.heap->YP w s₁.heap->
  s₁.heap.get? fa=some o->o.data=.func (docDef d.name d.params d.body d.scope pm cd doc)->s₁.heap.CodeRec cd d.name->mg d.name=some (.ref fa)->
  s₁.heap.get? a=some { cls:=.type "list", data:=.seq vs.toArray }->IntsAre vs ns->ns.length<=n->s₁.gens = #[]->
  codeAny (model l.prog w) callerA (.call (.ref fa) ⟨[.ref a],[]⟩) (λr s'=>r=.ok (.ret (.bool true))/\OldK s₁.heap s'.heap/\s'.os=s₁.os/\AllBare s'.gens) s₁):
 WalkO q loose XP YP l.row.toRowW d [] (λf vs=>PySem.call f vs):=by
 intro w s₀ s₁ mg mb G Y fa o pm cd doc dV kV ho hd hcd hD hmg hg args vals as hpre hlay hrd hwl hlo;obtain rfl:dV=.none:=Dflts.none hD hdf;obtain rfl:kV=.none:=Dflts.noKw hD;obtain⟨a,vs,ns,rfl,rfl,hobj,hints,hlen⟩:=Bh hn hpre hwl;refine enter_call (codeAny_mono (call w _ _ mg mb fa o pm cd _ a vs ns G Y ho (fd_plain hd) hcd hmg hobj hints hlen hg) λr s' hq=>?_);obtain⟨rfl,h2,h3,h4⟩:=hq;exact⟨.inl ⟨.bool _,.bool _,[],rfl,λ_=>rfl,.bool _,AV l _,λ_=>⟨List.Pairwise.nil,λ_ hm=>nomatch hm⟩⟩,h2,h3,h4⟩
section
variable{prog:Program}{w:World}{A:Around}{E:Value->Shared->Prop}{s:Shared}{K:Frag}
end
end Att
namespace L2
open PySem PySem.Spec PyProof.Rows
open PySem.W (Frag)
theorem Bc(h:IntsAre vs ns):aV (ns.map V.int) vs:=by
 induction h with
 | nil=>exact .nil
 | cons n t _ ih=>exact .cons ⟨t,rfl⟩ ih
noncomputable def LP(H:Hp):Prop:=∀b,H b=none∨∃o xs,H b=some (.frz o (.lst xs))
theorem Ed{K:Frag}
 (KX:K.In s₁.heap) (hns:s₁.heap.Ns mainGlobals mg) (hb:s₁.heap.Ns builtinsNs mb) (hbb:∀x:Str,x ≠ "__name__" -> mb x=bootBuiltins x) (hlim:s₁.heap.NoLimit) (hg:s₁.gens = #[])
 (ha:s₁.heap.get? a=some { cls:=.type "list", data:=.seq vs.toArray }) (hi:IntsAre vs ns) (hl:ns.length<=sizeLine) (hr:dI k callerA)
 (F:∀base:Heap,K.In base->base.Ns mainGlobals mg->eW P w K mg base CX k fa fd [x] sp) (hbind:∀(s:Shared)(u:Value),BindsTo s fd ⟨[u],[]⟩ [(x,u)])
 (hsp:∀H:Hp,LP H->c8 K H a (ns.map V.int)->sp [.ref a] H (λv _=>v=.bl true) λ_ _ _=>False)
 (hCX:∀H e s',CX [] H s₁ (λ_ _ _=>False) e s'->False):
 codeAny (model P w) callerA (.call (.ref fa) ⟨[.ref a],[]⟩) (λr s'=>r=.ok (.ret (.bool true))/\OldK s₁.heap s'.heap/\s'.os=s₁.os/\AllBare s'.gens) s₁:=by
 have rv:=Bc hi;have lenV:=hi.length;have core:∀H , LP H->c8 K H a (ns.map V.int)->lF P w H s₁.heap->(∀b,H b≠none->b=a)->(H a≠none->K.lookup a=none)->
  codeAny (model P w) callerA (.call (.ref fa) ⟨[.ref a],[]⟩) (λr s'=>r=.ok (.ret (.bool true))/\OldK s₁.heap s'.heap/\s'.os=s₁.os/\AllBare s'.gens) s₁:=by
  intro H hO hS hok hA hK;have base_of:∀{b:Addr}{o:Obj},s₁.heap.get? b=some o->H b=none->(vH _ H).get? b=some o:=λe n=>BW e n;have noA:∀{b:Addr}{o:Obj}{es:Array DictEntry}{ep:Nat},s₁.heap.get? b=some o->o.data=.dict es ep->H b=none:=λ{b o es ep} e d=>by
   cases q:H b with
   | none=>rfl
   | some u=>
    have e':b=a:=hA b (by rw[q];simp);subst e';rw[ha]at e;cases e;have d':Data.seq vs.toArray _=Data.dict es ep:=d;cases d'
  have nsK:∀{b:Addr}{m:Str->Option Value},s₁.heap.Ns b m->(vH s₁.heap H).Ns b m:=λ{b m} hy0=>by obtain⟨o,es,ep,e,d,r⟩:=hy0;exact⟨o,es,ep,base_of e (noA e d),d,r⟩
  have hKb:K.In (vH s₁.heap H):=λb o e=>base_of (KX b o e) (by
   cases q:H b with
   | none=>rfl
   | some u=>
    have e':b=a:=hA b (by rw[q];simp);subst e';rw[hK (by rw[q];simp)]at e;cases e)
  have hM:Mod K mg (vH s₁.heap H):=⟨hKb,nsK hns,⟨mb,nsK hb,hbb⟩,by obtain⟨mc,h1,h2⟩:=hlim;exact⟨mc,nsK h1,h2⟩⟩
  have e0:yg P w K mg (vH s₁.heap H) callerA [] s₁ H:=⟨rfl,hM,λb o e=>Hl e,Nat.le_of_eq (Bm _ _),trivial,λb hb=>absurd (show b∈([]:List Addr) from hb) (by simp),hok,.of_eq hg⟩
  refine VG ((F _ hKb (nsK hns)).run callerA [] s₁ H ⟨[.ref a],[]⟩ [.ref a] [.ref a] _ _ hr e0 (hbind s₁ (.ref a)) (.cons rfl .nil) (hsp H hO hS)) λr s' h=>?_;cases r with
  | error e=>exact(hCX H e s' h).elim
  | ok fl=>
   cases fl with
   | next=>exact False.elim h
   | brk=>exact False.elim h
   | cont=>exact False.elim h
   | ret u=>
    obtain⟨v,H',os,bare,un,hok',r',q⟩:=h;have q':v=.bl true:=q;subst q';obtain rfl:u=Value.bool true:=r';refine⟨rfl,OldK.of_keep λb o e=>?_,os,bare⟩;cases q:H b with
    | none=>exact un.keep b o e q (by intro z;exact absurd (show b∈([]:List Addr) from z) (by simp)) (by simp)
    | some u=>
     rcases hO b with z | ⟨ob,xs,z⟩
     . rw[q]at z;cases z
     . have z2:=un.frzs b ob _ z;obtain⟨e1,_⟩:=hok b _ z;obtain⟨e2,_⟩:=hok' b _ z2;rw[e]at e1;cases e1;exact e2
 cases hk:K.lookup a with
 | some o=>
  have e:=KX a o hk;rw[ha]at e;cases e;refine core (λ_=>none) (λ_=>.inl rfl) (.inr ⟨_,vs.toArray,_,hk,rfl,rfl,rfl,by rw[UG,lenV];exact hl,by simpa using rv⟩) (λb u z=>by have z':(none:Option HO)=some u:=z;cases z') (λb z=>absurd rfl z) λz=>absurd rfl z
 | none=>
  refine core (λb=>if b=a then some (.frz { cls:=.type "list", data:=.seq vs.toArray } (.lst (ns.map V.int))) else none) (λb=>?_) (.inl (.inr ⟨{ cls:=.type "list", data:=.seq vs.toArray },Ul rfl⟩)) (λb u z=>?_) (λb z=>?_) λ_=>hk
  . by_cases hb:b=a
    . exact .inr ⟨_,_,Ul hb⟩
    . exact .inl (UE hb)
  . by_cases hb:b=a
    . have z':=(Ul hb).symm.trans z;cases z';subst hb;exact⟨ha,by rw[Uj];exact hl,vs,_,rv,ha⟩
    . have z':=(UE hb).symm.trans z;cases z'
  . by_cases hb:b=a
    . exact hb
    . exact absurd (UE hb) z
end L2
namespace L2
open PySem PySem.Spec PyProof.Rows
open PySem.W (Frag)
theorem walk_of{l:PySem.W.OpenLaw}{K:Params->Frag}{CX:World->FU}{sp:World->Sp}
 (hn:l.most=some n) (hn2:n<=sizeLine) (hdf:d.params.defaults=[]) (hr:dI k callerA)
 (hY:∀(w:World)(h:Heap),YP w h->(K w.params).In h)
 (F:∀(w:World)(mg:Str->Option Value)(fa:Addr)(h:Heap),(K w.params).In h->h.Ns mainGlobals mg->mg d.name=some (.ref fa)->
  ∃fd:FuncData,(∀(s:Shared)(u:Value),BindsTo s fd ⟨[u],[]⟩ [(x,u)])/\
   ∀base:Heap,(K w.params).In base->base.Ns mainGlobals mg->eW l.prog w (K w.params) mg base (CX w) k fa fd [x] (sp w))
 (hsp:∀(w:World)(H:Hp)(a:Addr)(ns:List Int),ns.length<=n->LP H->c8 (K w.params) H a (ns.map V.int)->sp w [.ref a] H (λv _=>v=.bl true) λ_ _ _=>False)
 (hCX:∀(w:World)(H:Hp)(s:Shared)(e:Value)(s':Shared),CX w [] H s (λ_ _ _=>False) e s'->False):
 PySem.W.WalkO q loose XP YP l.row.toRowW d [] (λf vs=>PySem.call f vs):=by
 refine Att.attach_call hn hdf λw s₀ s₁ mg mb fa o pm cd doc a vs ns G Y ho hd hcd hmg hobj hints hlen hg=>?_;have KX:=hY w _ Y;obtain⟨fd,hb,hF⟩:=F w mg fa _ KX G.T.g hmg;exact Ed KX G.T.g G.T.b G.T.builtins G.T.nolimit hg hobj hints (UF hlen hn2) hr hF hb (λH hO hS=>hsp w H a ns hlen hO hS) λH e s'=>hCX w H _ e s'
end L2
namespace L2
open PySem PySem.Spec PyProof.Rows
open PySem.W (Frag)
noncomputable def dD(s:Stmt)(j:Nat):Stmt:=match s with
 | .ClassDef _ _ _ body _ _ _ _ _ _ _=>body.getD j (.Pass ⟨0,0,0,0⟩)
 | _=>.Pass ⟨0,0,0,0⟩
noncomputable def dH(s:Stmt):Arguments:=match s with
 | .FunctionDef _ a _ _ _ _ _ _ _ _=>a
 | _=>{ posonlyargs:=[],args:=[],vararg:=none,kwonlyargs:=[],kw_defaults:=[],kwarg:=none,defaults:=[] }
noncomputable def cM(s:Stmt):List Stmt:=match s with
 | .FunctionDef _ _ b _ _ _ _ _ _ _=>b
 | _=>[]
noncomputable def bf(s:Stmt):Scope:=match s with
 | .FunctionDef _ _ _ _ _ _ sc _ _ _=>sc
 | _=>{ kind:=.function,names:=[],isGenerator:=false,isCoroutine:=false }
noncomputable abbrev FN:FU:=λ_ _ _ _ _ _=>False
noncomputable abbrev E0:XK:=λ_ _ _=>False
theorem ER:iW FN X E0:=λ_ _ _ _ _ _ _ h=>h.elim
structure Q4(K:Frag)(x qual:Str)(st:Stmt)(f:Addr)(fd:FuncData):Prop where
 ex:∃(oc:Value) (od:Option Addr) (kV doc pm:Value) (an:Option Addr) (cdv ct:Value) (osl:Array (Option Value)),
  fd=PySem.W.fnOf x qual (dH st) (cM st) (bf st) .none kV doc pm an cdv ct/\K.lookup f=some ⟨oc,od,.func fd,osl⟩/\PySem.W.codeIn K cdv qual=true
 kp:PySem.W.keepIn K (.ref f)=true
section
variable{P:Program}{w:World}{K:Frag}{mg:Str->Option Value}{base:Heap}
theorem Q4.binds{st:Stmt}(F:Q4 K x qual st f fd)
 (h:∀(kV doc pm:Value)(an:Option Addr)(cdv ct:Value)(us:List Value),us.length=ps.length->bindArgs (PySem.W.fnOf x qual (dH st) (cM st) (bf st) .none kV doc pm an cdv ct) ⟨us,[]⟩=pure (ps.zip us)):bA K fd ps []:=by
 obtain⟨oc,od,kV,doc,pm,an,cdv,ct,osl,rfl,lk,hcd⟩:=F.ex;exact .all (h kV _ pm an _ ct)
theorem y8{st:Stmt}{kV doc pm cdv ct:Value}(l:K.lookup f=some ⟨oc,od,.func (PySem.W.fnOf x qual (dH st) (cM st) (bf st) .none kV doc pm an cdv ct),osl⟩)
 (c:PySem.W.codeIn K cdv qual=true) (k:PySem.W.keepIn K (.ref f)=true):Q4 K x qual st f (PySem.W.fnOf x qual (dH st) (cM st) (bf st) .none kV doc pm an cdv ct):=⟨⟨oc,od,kV,doc,pm,an,cdv,ct,osl,rfl,l,c⟩,k⟩
end
theorem BA(h:n<=1000):n<sizeLine:=Nat.lt_of_le_of_lt h (by decide)
section
variable{X:Cx}
end
noncomputable def bm(H H':Hp):Prop:=∀b o,H b=some o->H' b=some o
theorem bm.refl(H:Hp):bm H H:=λ_ _ h=>h
theorem bm.trans(a:bm H H1)(b:bm H1 H2):bm H H2:=λc o h=>b c o (a c o h)
theorem bm.seq{K:Frag}(e:bm H H')(h:c8 K H a xs):c8 K H' a xs:=by
 rcases h with(h | ⟨o,h⟩) | h
 . exact .inl (.inl (e _ _ h))
 . exact .inl (.inr ⟨o,e _ _ h⟩)
 . exact .inr h
noncomputable def xp(cells:List (Str×Addr)):List (Str×NameKind)->List (Str×Addr)->List (Str×Addr)
 | [],cs=>cs
 | (n,k)::r,cs=>xp cells r (if k==.free then(n,(cells.lookup n).getD 0)::cs else cs)
noncomputable def AM(scope:Scope)(env:Env):List (Str×Addr):=xp env.cells scope.names []
theorem yU{env:Env}:∀(names:List (Str×NameKind))(cs:List (Str×Addr)),(∀y∈names,y.2=.free->∃c,env.cells.lookup y.1=some c)->
 (forIn names cs λ(x:Str×NameKind) (r:List (Str×Addr))=>(match x with
  | (name,kind)=>if(kind==NameKind.free)=true then do let a <-cellOf env name;pure (ForInStep.yield ((name,a)::r)) else pure (ForInStep.yield r):Sem (ForInStep (List (Str×Addr)))))=(pure (xp env.cells names cs):Sem _)
 | [],cs,_=>rfl
 | (n,k)::r,cs,h=>by
  have hr:=λcs'=>yU (env:=env) r cs' λy hy=>h y (TY _ hy);rw[List.forIn_cons];by_cases hk:(k==NameKind.free)=true
  . obtain⟨c,hc⟩:=h (n,k) Ua (by simpa using hk);have e1:cellOf env n=pure c:=by unfold cellOf;rw[hc]
    simp only[hk,U5,e1,pure_bind];rw[hr];unfold xp;rw[Ul hk,hc]
    conv=>rhs;unfold xp
    rfl
  . simp only[hk,V4,pure_bind,UR];rw[hr]
    conv=>rhs;unfold xp
    rw[UE hk]
theorem sv(h:∀y∈scope.names,y.2=.free->∃c,env.cells.lookup y.1=some c):closureFor scope env=pure (AM scope env):=by
 unfold closureFor AM;rw[<-yU _ [] h];simp
theorem oO:∀(names:List (Str×NameKind))(cs:List (Str×Addr)),(∀y∈names,y.2=.free->∃d,cells.lookup y.1=some d)->(∀d,cs.lookup x=some d->cells.lookup x=some d)->
 (xp cells names cs).lookup x=some c->cells.lookup x=some c
 | [],cs,_,hc,h=>hc c h
 | (n,k)::r,cs,hn,hc,h=>by
  refine oO r _ (λy hy=>hn y (TY _ hy)) ?_ h;intro d hd;by_cases hk:(k==NameKind.free)=true
  . rw[Ul hk]at hd;obtain⟨e,he⟩:=hn (n,k) Ua (by grind)
    grind
  simp_all
theorem rV:∀(names:List (Str×NameKind))(cs:List (Str×Addr)),((x,NameKind.free)∈names∨∃d,cs.lookup x=some d)->∃d,(xp cells names cs).lookup x=some d
 | [],cs,h=>by
  rcases h with h | h
  . cases h
  . exact h
 | (n,k)::r,cs,h=>by
  refine rV r _ ?_;rcases h with h | ⟨d,h⟩
  . rcases Ub.mp h with e | h
    . simp_all
    simp_all
  grind
theorem h8(h:(relabel scope env).names.lookup x=some k)(hk:k=.cell∨k=.free)(hc:∀y∈scope.names,y.2≠.cell):(x,NameKind.free)∈scope.names:=by
 have hm:=Vd h;obtain⟨⟨n,k'⟩,hy,e⟩:=Vf.mp hm
 grind
noncomputable def lift(ix:List (Option Nat))(σ:St):St:=ix.map λo=>match o with
 | none=>none
 | some i=>match σ[i]? with
  | some v=>v
  | none=>none
structure bR(X:Cx)(scope:Scope)(N:List Str)(ix:List (Option Nat)):Prop where
 kind:scope.kind=.function
 nocell:∀y∈scope.names,y.2≠.cell
 locs:∀y∈scope.names,y.2=.local->scope.names.lookup y.1=some .local
 free:∀y∈scope.names,y.2=.free->X.env.kindOf y.1=some .cell∨X.env.kindOf y.1=some .free
 len:ix.length=N.length
 nd:N.Nodup
 from':∀j i:Nat,ix[j]?=some (some i)->∃x,N[j]?=some x/\X.N[i]?=some x/\(X.env.kindOf x=some .cell∨X.env.kindOf x=some .free)/\((relabel scope X.env).names.lookup x=some .cell∨(relabel scope X.env).names.lookup x=some .free)
noncomputable def bU(X:Cx)(scope:Scope)(N:List Str)(s₀:Shared)(H₀:Hp)(C:Addr)(ex:List Addr):Cx where
 prog:=X.prog
 w:=X.w
 K:=X.K
 mg:=X.mg
 base:=X.base
 A:=X.A
 N:=N
 s₀:=s₀
 H₀:=H₀
 env:=compEnvC scope (AM scope X.env) C X.env
 outer:=X.stack
 stack:=X.stack
 ex:=ex
 fn:=λ_=>false
 calm:=X.calm
 pn:=[]
 xe:=λ_ _=>False
section
variable{X:Cx}{pins:List (Addr×Obj)}{σ:St}{H:Hp}{s:Shared}{scope:Scope}{N:List Str}{ix:List (Option Nat)}
theorem bR.cells(S:bR X scope N ix)(I:aJ X pins σ H s):∀y∈scope.names,y.2=.free->∃c,X.env.cells.lookup y.1=some c:=λy hy hk=>I.ok.has _ (S.free y hy hk)
theorem bR.sub(S:bR X scope N ix)(I:aJ X pins σ H s)(h:(AM scope X.env).lookup x=some c):X.env.cells.lookup x=some c:=
 oO _ [] (S.cells I) (λd h=>by simp at h) h
theorem bR.start(S:bR X scope N ix)(I:aJ X pins σ H s){C D:Addr}(hf:∀b∈fp,nG X pins H b)(hfo:∀b∈fp,∃o,s.heap.get? b=some o)(hD:D=s.heap.objs.size)(hC:s.heap.objs.size<C)
 (k:∀b o,s.heap.get? b=some o->h'.get? b=some o) (hn:h'.Ns C λ_=>none):aJ (bU X scope N s H C (D::fp)) [] (lift ix σ) H { s with heap:=h',toks:=tk }:=by
 have ltC  := λx c e=>let ⟨v,q⟩:=I.cell x c e;q.lt;refine⟨⟨I.ok.mod,S.kind,I.ok.glob,I.ok.blt,Ve hC,λx y c h1 h2=>I.ok.inj x y c (S.sub I h1) (S.sub I h2),λx hx=>?_,λx c z=>?_,I.ok.hd,I.ok.frames,.inl rfl,λb hb=>?_,I.bs,UF I.ok.bsz I.sz,λb o e hb=>?_,λb hb hb'=>?_,I.stack,I.stkFree⟩,
  rfl,I.bare,Un.kept k,⟨_,hn,λj x v e1 e2 e3=>?_⟩,λx c e=>?_,I.hok.fresh (Ve hC),λx c e=>I.freeC x c (S.sub I e),λp hp=>absurd (show p∈[] from hp) (by simp),I.hok.kept k,?_⟩
 . have hm:(x,NameKind.free)∈scope.names:=by
    rcases hx with h | h
    . exact h8 h (.inl rfl) S.nocell
    . exact h8 h (.inr rfl) S.nocell
   exact rV _ _ (.inl hm)
 . cases z
 . rcases Ub.mp hb with e | hb
   . subst e;subst hD;exact⟨Uy hC,λx c e z=>absurd (ltC x c (S.sub I e)) (by rw[z];exact U8 _)⟩
   . obtain⟨o,e⟩:=hfo b hb;exact⟨Uy (Vv (Um e) hC),λx c e=>(hf b hb).2.2.2.2.1 x c (S.sub I e)⟩
 . have lb:=Ui (Um e) I.ok.bsz;rcases Ub.mp hb with z | hb
   . subst z;subst hD;exact absurd (Ui lb I.sz) (U8 _)
   . rcases(hf b hb).2.2.2.1 with z | z
     . exact I.ok.noex b o e z
     . exact absurd (Ui lb z) (U8 _)
 . have hs:=I.stkSub b hb';rcases Ub.mp hb with z | hb
   . subst z;subst hD;rcases Ub.mp hs with z | z
     . exact absurd I.lt (by rw[<-z];exact U8 _)
     . exact I.nofs (Ug _) z
   . rcases Ub.mp hs with z | z
     . exact(hf b hb).2.1 z
     . exact(hf b hb).2.2.1 z
 . unfold lift at e2;rw[UT]at e2;cases q:ix[j]? with
   | none=>rw[q]at e2;cases e2
   | some o=>
    rw[q]at e2;cases o with
    | none=>cases e2
    | some i=>
     obtain⟨y,f1,f2,f3,f4⟩:=S.from' j i q;have e1':N[j]?=some x:=e1;rw[f1]at e1';cases e1';simp only[Ue,Option.some.injEq]at e2;cases q2:σ[i]? with
     | none=>rw[q2]at e2;cases e2
     | some w=>
      rw[q2]at e2;simp only at e2;subst e2;obtain⟨m,hm,hl⟩:=I.loc;have vis:O0 X.env.scope x:=by
       rcases f3 with z | z
       . exact .inr (.inl z)
       . exact .inr (.inr z)
      obtain⟨u,r,l⟩:=hl i x v f2 q2 vis;refine⟨u,r,.inr ⟨f4,?_⟩⟩;rcases l with⟨l1,_⟩ | ⟨_,c,hc,hcell⟩
      . rw[l1]at f3;rcases f3 with z | z <;> cases z
      . have hmf:(x,NameKind.free)∈scope.names:=by
         rcases f4 with h | h
         . exact h8 h (.inl rfl) S.nocell
         . exact h8 h (.inr rfl) S.nocell
        obtain⟨d,hd⟩:=rV (cells:=X.env.cells) scope.names [] (.inl hmf);have hd':=S.sub I hd;rw[hc]at hd';cases hd';refine⟨c,hd,?_⟩;obtain⟨o,ho,hod⟩:=hcell;exact⟨o,k _ _ ho,hod⟩
 . obtain⟨v,o,ho,hod⟩:=I.cell x c (S.sub I e);exact⟨v,o,k _ _ ho,hod⟩
 . show(lift ix σ).length=N.length;unfold lift;rw[Uj,S.len]
end
theorem jL(I:Nat->Shared->Prop)
 (turn:∀n s,I n s->wpAny (model prog w) A (pyNext it) (λr s₁=>match r with
  | none=>R (.ok .next) s₁
  | some v=>wpAny (model prog w) A (letOwnedTupleGo target it v) (λ_ s₁'=>wpAny (model prog w) A (assign target env v) (λ_ s₂=>
   wpAny (model prog w) A (forIn ifs true λc r=>if r=true then do let ok <-isTrue c env (eval c env);pure (ForInStep.yield ok) else pure (ForInStep.yield r)) (λok s₃=>
    if ok=true then wpAny (model prog w) A (eval elt env) (λx s₄=>
     wpAny (model prog w) A (call (.builtin "list.append") [acc,x]) (λ_ s₅=>∃m,m<n/\I m s₅) (λ_ _=>False) s₄) (λ_ _=>False) s₃
    else ∃m,m<n/\I m s₃) (λ_ _=>False) s₂) (λ_ _=>False) s₁') (λ_ _=>False) s₁) (λ_ _=>False) s)
 (n:Nat) (h:I n s):
 codeAny (model prog w) A (.compLoop (.ListComp elt [⟨target,iter,ifs,0⟩] scope pos) 0 it acc env) R s:=by
 refine codeAny_loop rfl I (λn s hI=>?_) n h;refine wpAny_noted ?_;refine Uf (V3 (Uf (UU (turn n s hI) (λr s₁ h₁=>?_) λ_ _ h'=>h'.elim)));cases r with
 | none=>exact Ut h₁
 | some v=>
  refine Uf (UU h₁ (λ_ s₁' h₁'=>?_) λ_ _ h'=>h'.elim);refine Uf (UU h₁' (λ_ s₂ h₂=>Uf (UU h₂ (λok s₃ h₃=>?_) λ_ _ h'=>h'.elim)) λ_ _ h'=>h'.elim);cases ok with
  | false=>exact Ut ⟨rfl,h₃⟩
  | true=>
   exact Uf (Uf (UU h₃ (λx s₄ h₄=>Uf (UU h₄ (λ_ s₅ h₅=>Ut (Ut ⟨rfl,h₅⟩)) λ_ _ h'=>h'.elim)) λ_ _ h'=>h'.elim))
noncomputable def yk(X:Cx)(ifs:List Expr)(t:TT):Prop:=
 ∀(pins:List (Addr×Obj))(s:Shared)(σ:St)(H:Hp)(Q:Bool->Hp->Prop),aJ X pins σ H s->t σ H Q->
  wpAny (model X.prog X.w) X.A (forIn ifs true λc r=>if r=true then do let ok <-isTrue c X.env (eval c X.env);pure (ForInStep.yield ok) else pure (ForInStep.yield r)) (TP X pins σ Q) X.xe s
noncomputable def Oh:TT:=λ_ H Q=>Q true H
theorem NU:yk X [] Oh:=λ_ _ _ H _ I h=>wpAny_tests_nil ⟨H,I,h⟩
theorem O9(h:PT X c t):yk X [c] t:=λpins s σ H Q I q=>wpAny_tests_one (h _ s σ H Q I q)
noncomputable def JI(σ σ':St):Prop:=σ.length=σ'.length/\∀(i:Nat)(v:V),σ[i]?=some (some v)->σ'[i]?=some (some v)
theorem JI.refl(σ:St):JI σ σ:=⟨rfl,λ_ _ h=>h⟩
theorem JI.set(e:JI σ σ')(h:σ[j]?=some none):JI σ (σ'.set j (some v)):=by
 refine⟨by rw[U1];exact e.1,λi u q=>?_⟩;have hne:j≠i:=λz=>by simp_all
 rw[Ux hne];exact e.2 i u q
theorem B0{j:Nat}(h:ix[j]?=some none):(lift ix σ)[j]?=some none:=by
 unfold lift
 simp_all
noncomputable def qW(ix:List (Option Nat))(g:TG):Prop:=∀(v:V)(σ:St)(H:Hp)(Q:St->Hp->Prop),g v (lift ix σ) H Q->g v (lift ix σ) H λσ2 H2=>Q σ2 H2/\JI (lift ix σ) σ2
theorem Mn(h:ix[j]?=some none):qW ix (kO j):=λv σ H Q q=>⟨q,(JI.refl _).set (B0 h)⟩
noncomputable def ph(ix:List (Option Nat))(wi:TI)(g:TG)(tc:TT)(te:TE):TE:=λσ H Q=>wi σ H λJ H1=>∃W:Nat->Nat->List V->Hp->Prop,(∃m,W 0 m [] H1)/\∀i m ys H,W i m ys H->
 (J.stop i H/\ys.length<=sizeLine/\∀p,H p=none->Q (.ref p) (cx H p (.lst ys)))∨
 (J.go i H/\ys.length<sizeLine/\∃N:List V->Hp->Prop,(∀ys' H',N ys' H'->∃m',m'<m/\W (i+1) m' ys' H')/\∀x H',J.yld i H x H'->g x (lift ix σ) H' λσ2 H2=>tc σ2 H2 λb H3=>if b=true then te σ2 H3 λv H4=>N (ys++[v]) H4 else N ys H3)
theorem Dx{σ σ':St}
 (I2:aJ X pins σ H2 s2) (I':aJ (bU X scope N s2 H2 C (D::fp)) pins' σ' H' s4) (f2:∀b∈fp,nG X pins H2 b) (hD:D=s2.heap.objs.size) (hC:s2.heap.objs.size<C) (hDC:D≠C)
 (hs:Heap.SameBut C s4.heap h') (eD:s4.heap.get? D=some { cls:=.type "list", data:=.seq its.toArray n }) (fD:H' D=none) (rv:aV ys its) (hz:ys.length<=sizeLine):
 aJ X pins σ (cx H' D (.lst ys)) { s4 with heap:=h' }:=by
 have lt:∀b o,s2.heap.get? b=some o->b≠D/\b≠C:=λb o e=>
  ⟨by rw[hD];exact Uy (Um e),Uy (Vv (Um e) hC)⟩
 have nex:∀b o,s2.heap.get? b=some o->b∉fp->b∉D::fp:=λb o e hb z=>by
  simp_all
 have nD:∀b u,H' b=some u->b≠D:=λb u e=>bK e fD;have nC:∀b u,H' b=some u->b≠C:=λb u e=>bK e I'.free;have u:=I'.base;refine I2.call'  (show s4.os=s2.os from I'.os) ⟨λb o e n hb hx=>?_,λb o e n hb hx=>?_,λb o e n hx=>?_,λb o e hx=>?_,λb xs e=>?_,λb o xs e=>?_,λb ps e=>?_⟩ (λb o e=>?_) I'.bare λb hb=>⟨(f2 b hb).2.2.2.1,(f2 b hb).2.1,(f2 b hb).2.2.2.2.1,(f2 b hb).2.2.2.2.2⟩
 . exact(hs.2 b (lt b o e).2).trans (u.keep b o e n hb (nex b o e hx))
 . obtain⟨sl,q⟩:=u.slot b o e n hb (nex b o e hx);exact⟨sl,(hs.2 b (lt b o e).2).trans q⟩
 . rw[aE (lt b o e).1];exact u.free b o e n (nex b o e hx)
 . obtain⟨o',q⟩:=u.there b o e (nex b o e hx);exact⟨o',(hs.2 b (lt b o e).2).trans q⟩
 . have q:=u.tups b xs e;rw[aE (nD b _ q)];exact q
 . have q:=u.frzs b o xs e;rw[aE (nD b _ q)];exact q
 . obtain⟨m,q⟩:=u.tbls b ps e;exact⟨m,by rw[aE (nD b _ q)];exact q⟩
 . by_cases hb:b=D
   . subst hb;rw[aC]at e;cases e;exact⟨hz,its,n,rv,(hs.2 b hDC).trans eD⟩
   . rw[aE hb]at e;refine(I'.hok b o e).stay (λc v hc q=>(hs.2 c ?_).trans q) (λc q=>by rw[aE (nD c _ q)];exact q) λc xs q=>by rw[aE (nD c _ q)];exact q
     rcases hc with z | z
     . rw[z];exact nC b o e
     . exact nC c _ z
section
variable{X:Cx}{elt tg iter:Expr}{ifs:List Expr}{scope:Scope}{pos:Pos}{wi:TI}{g:TG}{tc:TT}{te:TE}{N:List Str}{ix:List (Option Nat)}
theorem tH{pins:List (Addr×Obj)}{σ:St}{Q:VK}{s2:Shared}{itv:Value}{Rr:Value->Addr->Result->Shared->Prop}(S:bR X scope N ix)(hc:X.calm=true)(hG:qW ix g)
 (hb:∀(s₀:Shared)(H₀:Hp)(C:Addr)(ex:List Addr),PG (bU X scope N s₀ H₀ C ex) tg g/\yk (bU X scope N s₀ H₀ C ex) ifs tc/\PE (bU X scope N s₀ H₀ C ex) elt te)
 (h2:Re X pins σ tg (λJ H1=>∃W:Nat->Nat->List V->Hp->Prop,(∃m,W 0 m [] H1)/\∀i m ys H,W i m ys H->
  (J.stop i H/\ys.length<=sizeLine/\∀p,H p=none->Q (.ref p) (cx H p (.lst ys)))∨
  (J.go i H/\ys.length<sizeLine/\∃N:List V->Hp->Prop,(∀ys' H',N ys' H'->∃m',m'<m/\W (i+1) m' ys' H')/\∀x H',J.yld i H x H'->g x (lift ix σ) H' λσ2 H2=>tc σ2 H2 λb H3=>if b=true then te σ2 H3 λv H4=>N (ys++[v]) H4 else N ys H3)) itv s2)
 (hR:∀(s4:Shared)(H':Hp)(D C:Addr)(m:Str->Option Value)(ys:List V),s4.heap.Ns C m->nG X pins H' C->(∀h',Heap.SameBut C s4.heap h'->aJ X pins σ (cx H' D (.lst ys)) { s4 with heap:=h' })->aJ X pins σ (cx H' D (.lst ys)) s4->D≠C->Q (.ref D) (cx H' D (.lst ys))->Rr (.ref D) C (.ok .next) s4):
 wpAny (model X.prog X.w) X.A (newList []) (λacc s₃=>wpAny (model X.prog X.w) X.A (newFunctionEnv scope X.env.globals (AM scope X.env) [] X.env.qual none .none (some X.env)) (λcenv s₄=>
  codeAny (model X.prog X.w) X.A (.compStart (.ListComp elt [⟨tg,iter,ifs,0⟩] scope pos) 0 itv acc { cenv with scope:=relabel scope X.env }) (Rr acc cenv.locals) s₄) X.xe s₃) X.xe s2:=by
 obtain⟨it,fp,tn,J,H2,e,I2,T,st2,f2,W,⟨m0,w0⟩,turn⟩:=h2;subst e;have fo:∀b∈fp,∃o,s2.heap.get? b=some o:=λb hb=>let ⟨o,e,_⟩:=T.obj _ _ st2 b hb;⟨o,e⟩;refine wpAny_newObj_type (wpAny_newFunctionEnv S.nocell (by intro y hy;simp at hy) (λh₁ hns₁ hsb₁=>?_) S.kind);dsimp only at hns₁ hsb₁ ⊢;generalize hH2:s2.heap.push { cls:=.type "list", dict:=none,data:=.seq ([]:List Value).toArray }=HH at hns₁ hsb₁ ⊢;have hC:HH.objs.size=s2.heap.objs.size+1:=by rw[<-hH2,Vq]
 generalize hCC:HH.objs.size=C at hns₁ hsb₁ hC ⊢;generalize hDD:s2.heap.objs.size=D at hC ⊢;have hlt:s2.heap.objs.size<C:=by rw[hDD,hC];exact UY _
 have hDC:D≠C:=by rw[hC];exact Uy (UY _)
 have old:∀b o,s2.heap.get? b=some o->h₁.get? b=some o:=λb o e=>
  hsb₁.extBut b o (Uy (Vv (Um e) hlt)) (Uc _ (hH2▸Uc _ e))
 have hacc:h₁.PlainList D #[]:=⟨_,hsb₁.extBut _ _ hDC (Uc _ (hH2▸hDD▸Uv _ rfl))⟩
 have hns₂:h₁.Ns C λ_=>none:=hns₁;have I4:=S.start (tk:=s2.toks+([]:List (Str×Value)).length) I2 f2 fo hDD.symm hlt old hns₂;obtain⟨hg,hif,hel⟩:=hb s2 H2 C (D::fp);have stat:∀{H':Hp},(∀b∈D::fp,H' b=none)->∀b∈D::fp,nG (bU X scope N s2 H2 C (D::fp)) [] H' b:=λhn b hb=>
  ⟨hn b hb,(I4.ok.exf b hb).1,I4.ok.exfs b hb,.inl hb,(I4.ok.exf b hb).2,λp hp=>absurd (show p∈([]:List (Addr×Obj)) from hp) (by simp)⟩
 have sub:∀b∈fp,b∈D::fp:=λb hb=>TY _ hb;have nDf:∀b∈fp,b≠D:=λb hb z=>by
  obtain⟨o,e⟩:=fo b hb;exact absurd (Um e) (by rw[z,hDD];exact U8 _)
 have free0:∀b∈D::fp,H2 b=none:=λb hb=>by
  rcases Ub.mp hb with z | hb
  . rw[z];exact I2.hok.fresh (Nat.le_of_eq hDD)
  . exact(f2 b hb).1
 have loop:∀s₃:Shared,s₃={ s2 with heap:=h₁,toks:=s2.toks+([]:List (Str×Value)).length }->
  codeAny (model X.prog X.w) X.A (.compLoop (.ListComp elt [⟨tg,iter,ifs,0⟩] scope pos) 0 (.ref it) (.ref D) (compEnvC scope (AM scope X.env) C X.env))
   (Rr (.ref D) C) s₃:=by
  rintro s₃ rfl;refine jL (λn s'=>∃i H' ys its,aJ (bU X scope N s2 H2 C (D::fp)) [] (lift ix σ) H' s'/\tn i s'.heap/\(∀b∈D::fp,H' b=none)/\s'.heap.PlainList D (List.toArray its)/\aV ys its/\W i n ys H') ?_ m0
   ⟨0,H2,[],[],I4,T.keep _ _ _ st2 λb _ o e=>old b o e,free0,hacc,.nil,w0⟩
  rintro n s3 ⟨i,H3,ys,its,I3,st3,fr3,pl3,rv3,w3⟩;obtain⟨kk,plE⟩:=pl3;have pinD:∀{pp:List (Addr×Obj)}{σ':St}{H':Hp}{s':Shared},aJ (bU X scope N s2 H2 C (D::fp)) pp σ' H' s'->H' D=none->s'.heap.get? D=some { cls:=.type "list", data:=.seq its.toArray kk }->
   aJ (bU X scope N s2 H2 C (D::fp)) [(D,{ cls:=.type "list", data:=.seq its.toArray kk })] σ' H' s':=λ{pp σ' H' s'} J f e=>J.pins_of λp hp=>by
   have z:p=(D,{ cls:=.type "list", data:=.seq its.toArray kk }):=by simpa using hp
   subst z;exact⟨e,f,(J.ok.exf D Ua).1,J.ok.exfs D Ua,λv z=>by cases z⟩
  have fpD:∀{H':Hp},(∀b∈D::fp,H' b=none)->∀b∈fp,nG (bU X scope N s2 H2 C (D::fp)) [(D,{ cls:=.type "list", data:=.seq its.toArray kk })] H' b:=λhn b hb=>by
   obtain⟨a1,a2,a3,a4,a5,a6⟩:=stat hn b (sub b hb);refine⟨a1,a2,a3,a4,a5,λp hp=>?_⟩;have z:p=(D,{ cls:=.type "list", data:=.seq its.toArray kk }):=by simpa[bU] using hp
   subst z;exact(nDf b hb).symm
  have frD:H3 D=none:=fr3 D Ua;rcases turn i n ys H3 w3 with⟨stop,hz,qn⟩ | ⟨go,hz,NN,hN,step⟩
  . refine bQ (T.done (bU X scope N s2 H2 C (D::fp)) rfl rfl rfl hc i _ s3 _ H3 (λ_ _=>False) (pinD I3 frD plE) (fpD fr3) st3 stop) λr s4 ⟨hr,I4'⟩=>?_;subst hr;obtain⟨m,hm,_⟩:=I4'.loc;have eD:=(I4'.pin (D,_) (Uo _ Ua)).1;have fin:∀h',Heap.SameBut C s4.heap h'->aJ X pins σ (cx H3 D (.lst ys)) { s4 with heap:=h' }:=λh' hs'=>Dx I2 I4' f2 hDD.symm hlt hDC hs' eD frD rv3 hz;have hC0:s2.heap.objs.size<=C:=Ve hlt;have fC:nG X pins H3 C:=by
     have q:=I2.fpOk (H':=H3) hC0 I4'.free;exact q
    exact hR s4 H3 D C m ys hm fC fin (by simpa using fin s4.heap (Heap.SameBut.refl ..)) hDC (qn D frD)
  . refine bQ (T.item (bU X scope N s2 H2 C (D::fp)) rfl rfl rfl hc i _ s3 _ H3 (λ_ _=>False) (pinD I3 frD plE) (fpD fr3) st3 go) λr s4 ⟨u,hr,h4⟩=>?_;subst hr;refine bQ h4 λ_ s5 hq0=>?_;obtain⟨x,H5,I5,r5,y5,st5,fr5⟩:=hq0;have eD5:=(I5.pin (D,_) (Uo _ Ua))
    have fr5':∀b∈D::fp,H5 b=none:=λb hb=>by
     rcases Ub.mp hb with z | hb
     . rw[z];exact eD5.2.1
     . exact fr5 b hb
    have I5':aJ (bU X scope N s2 H2 C (D::fp)) ([]++nU (D::fp) s5.heap) (lift ix σ) H5 s5:=(I5.unpinned (pins:=[]) (pl:=[_])).pinned (stat fr5') λb hb=>by
     rcases Ub.mp hb with z | hb
     . rw[z];exact⟨_,eD5.1,λv z=>by cases z⟩
     . exact T.obj _ _ st5 b hb
    have back:∀{σ7:St}{H7:Hp}{s7:Shared},aJ (bU X scope N s2 H2 C (D::fp)) ([]++nU (D::fp) s5.heap) σ7 H7 s7->JI (lift ix σ) σ7->
     aJ (bU X scope N s2 H2 C (D::fp)) [] (lift ix σ) H7 s7/\tn (i+1) s7.heap/\(∀b∈D::fp,H7 b=none)/\s7.heap.get? D=some { cls:=.type "list", data:=.seq its.toArray kk }:=λ{σ7 H7 s7} I7 ex=>by
     have keepAt:∀b∈D::fp,∀o,s5.heap.get? b=some o->s7.heap.get? b=some o/\H7 b=none:=λb hb o e=>
      ⟨(I7.pin (b,o) (Uo _ (Uo _ (jr hb e)))).1,(I7.pin (b,o) (Uo _ (Uo _ (jr hb e)))).2.1⟩
     refine⟨I7.unpinned.weak ex.1 ex.2,T.keep _ _ _ st5 λb hb o e=>(keepAt b (sub b hb) o e).1,λb hb=>?_,(keepAt D Ua _ eD5.1).1⟩;rcases Ub.mp hb with z | hb'
     . rw[z];exact(keepAt D Ua _ eD5.1).2
     . obtain⟨o,e,_⟩:=T.obj _ _ st5 b hb';exact(keepAt b hb o e).2
    refine bQ (hg _ s5 _ H5 x u _ I5' r5 (hG _ _ _ _ (step x H5 y5))) λ_ s6 hq0=>?_;obtain⟨σ6,H6,I6,q6,ex6⟩:=hq0;refine bQ (hif _ s6 σ6 H6 _ I6 q6) λok s7 hq0=>?_;obtain⟨H7,I7,q7⟩:=hq0;cases ok with
    | false=>
     rw[UE Uw]at q7 ⊢;obtain⟨m',hm,w7⟩:=hN _ _ q7;obtain⟨J1,J2,J3,J4⟩:=back I7 ex6;exact⟨m',hm,i+1,H7,ys,its,J1,J2,J3,⟨_,J4⟩,rv3,w7⟩
    | true=>
     rw[Ul rfl]at q7 ⊢;refine bQ (hel _ s7 σ6 H7 _ I7 q7) λuv s8 hq0=>?_;obtain⟨y,H8,I8,r8,q8⟩:=hq0;obtain⟨m',hm,w8⟩:=hN _ _ q8;obtain⟨J1,J2,J3,J4⟩:=back I8 ex6;refine wpAny_list_append_plain (hsz:=by rw[UG,<-rv3.length];exact Ve hz) ⟨_,J4⟩ λh₉ hl₉ hs₉=>?_;obtain⟨a1,a2,a3,a4,a5,a6⟩:=stat J3 D Ua;refine⟨m',hm,i+1,H8,ys++[y],its++[uv],J1.turned (t':=s8.toks) (λb o hb e=>hs₉.extBut b o hb e) a1 a2 a4 a5 a6,T.keep _ _ _ J2 λb hb o e=>hs₉.extBut b o (nDf b hb) e,J3,by simpa using hl₉,rv3.append (.cons r8 .nil),w8⟩
 exact codeAny_compStart_list (loop _ rfl) (T.self _ 0 _ _ _ (T.keep _ _ _ st2 λb _ o e=>old b o e) (loop _ rfl))
theorem Ha(S:bR X scope N ix)(hc:X.calm=true)(hi:PI X tg iter wi)(hG:qW ix g)
 (hb:∀(s₀:Shared)(H₀:Hp)(C:Addr)(ex:List Addr),PG (bU X scope N s₀ H₀ C ex) tg g/\yk (bU X scope N s₀ H₀ C ex) ifs tc/\PE (bU X scope N s₀ H₀ C ex) elt te)
 (hs:∀x,foldedSetIterable iter X.env x=pure x:=by intro _;rfl):PE X (.ListComp elt [⟨tg,iter,ifs,0⟩] scope pos) (ph ix wi g tc te):=by
 intro pins s σ H Q I h;refine wpAny_comprehension_free  rfl hs (sv (S.cells I)) S.kind S.locs ?_;refine bQ (hi _ s σ H _ I h) λv s1 h1=>bQ h1 λitv s2 h2=>?_;refine tH  S hc hG hb h2 ?_;intro s4 H' D C m ys hm _ fin _ _ q;exact⟨m,hm,λh' hs'=>⟨.ref D,_,fin h' hs',rfl,q⟩⟩
theorem IA{py spos:Pos}(hN:X.N.Nodup)(hi:X.N[i]?=some y)(hy:J6 X.env.scope y)(S:bR X scope N ix)(hc:X.calm=true)(hit:PI X tg iter wi)(hG:qW ix g)
 (hb:∀(s₀:Shared)(H₀:Hp)(C:Addr)(ex:List Addr),PG (bU X scope N s₀ H₀ C ex) tg g/\yk (bU X scope N s₀ H₀ C ex) ifs tc/\PE (bU X scope N s₀ H₀ C ex) elt te)
 (hsw:swapsWith (.ListComp elt [⟨tg,iter,ifs,0⟩] scope pos) (some (.Name y py)) spos.line X.env=pure true:=by rfl) (hs:∀x,foldedSetIterable iter X.env x=pure x:=by intro _;rfl)
 (hf:X.fn y=true∨X.env.scope.names.lookup y=some .local:=by first | exact .inl rfl | exact .inr rfl | assumption):
 PS X (.Assign [.Name y py] (.ListComp elt [⟨tg,iter,ifs,0⟩] scope pos) spos) (r9 (ph ix wi g tc te) (kO i)):=by
 intro pins s σ H D0 I h;rw[exec_Assign_Name_used _ _ _ _ hsw];refine Uf (V3 (Uf ?_));refine Uf (UU (wpAny_comprehension_free   rfl hs (sv (S.cells I)) S.kind S.locs ?_) (λ_ s' hq=>Ut (Ut hq)) λ_ _ e=>e);refine bQ (hit _ s σ H _ I h) λv s1 h1=>bQ h1 λitv s2 h2=>?_;refine tH (Q:=λx H1=>kO i x σ H1 D0.nx) (Rr:=λacc C=>compPost (model X.prog X.w) X.A X.xe (some (assign (.Name y py) X.env)) (λ_ s'=>SP X pins D0 .next s') acc C) S hc hG hb h2 ?_;intro s4 H' D C m ys hm fC _ I4 hDC q;obtain⟨c0,c1,c2,c3,c4,c5⟩:=fC;refine wpAny_assign_Name (ud (v:=.ref D) I4 hN hi hy rfl (λs5 I5 hsb=>?_) hf);obtain⟨a,hsa,ha⟩:=hsb;have haC:C≠a:=by
  rcases ha with z | z
  . rw[z];exact c1
  . exact λe=>c4 y a z e.symm
 refine⟨m,hm.sameBut hsa haC,λh' hs'=>?_⟩;have hCn:(cx H' D (.lst ys)) C=none:=by rw[aE hDC.symm];exact c0
 exact⟨_,_,I5.turned (t':=s5.toks) (λb o hb e=>hs'.extBut b o hb e) hCn c1 c3 c4 c5,q⟩
end
noncomputable def QW(T:String):Option Bool:=if T = "int" then some true else if T = "bool" then some false else if T = "str" then some false else if T = "list" then some false else if T = "tuple" then some false else if T = "dict" then some false else none
noncomputable def LX(T:String):Option Bool:=if T = "int" then some true else if T = "bool" then some true else if T = "str" then some false else if T = "list" then some false else if T = "tuple" then some false else if T = "dict" then some false else none
noncomputable def MI(T:String):Option Bool:=if T = "int" then some false else if T = "bool" then some false else if T = "str" then some true else if T = "list" then some false else if T = "tuple" then some false else if T = "dict" then some false else none
noncomputable def F3(v:V)(T:String):Option Bool:=match v with
 | .int _=>QW T
 | .bl _=>LX T
 | .str _=>MI T
 | _=>none
theorem Ca:bV X (.builtin "isinstance") (λxs H Q=>∃v T k,xs=[v,.ty T]/\F3 v T=some k/\Q (.bl k) H):=by
 intro pins s σ H xs us Q I r h;obtain⟨v,T,k,rfl,hk,q⟩:=h;cases r with
 | cons r rr=>
  cases rr with
  | cons r' rr=>
   cases rr;cases r';have fin:∀{n:Option _}{T':String}{b:Bool},(if T=T' then some b else n)=some k->T=T'/\b=k∨n=some k:=λ{n T' b} h=>by
    grind
   cases v with
   | int i=>
    obtain⟨t,rfl⟩:=r;replace hk  := hk;rcases fin hk with⟨rfl,rfl⟩ | hk
    . exact IsiPair.int_int ⟨.bl _,H,I,rfl,q⟩
    rcases fin hk with⟨rfl,rfl⟩ | hk
    . exact IsiPair.int_bool ⟨.bl _,H,I.tok _,rfl,q⟩
    rcases fin hk with⟨rfl,rfl⟩ | hk
    . exact IsiPair.int_str ⟨.bl _,H,I.tok _,rfl,q⟩
    rcases fin hk with⟨rfl,rfl⟩ | hk
    . exact IsiPair.int_list ⟨.bl _,H,I.tok _,rfl,q⟩
    rcases fin hk with⟨rfl,rfl⟩ | hk
    . exact IsiPair.int_tuple ⟨.bl _,H,I.tok _,rfl,q⟩
    rcases fin hk with⟨rfl,rfl⟩ | hk
    . exact IsiPair.int_dict ⟨.bl _,H,I.tok _,rfl,q⟩
    cases hk
   | bl i=>
    cases r;replace hk:LX T=some k:=hk;unfold LX at hk;rcases fin hk with⟨rfl,rfl⟩ | hk
    . first | exact IsiPair.bool_int ⟨.bl _,H,I,rfl,q⟩ | exact IsiPair.bool_int ⟨.bl _,H,I.tok _,rfl,q⟩
    rcases fin hk with⟨rfl,rfl⟩ | hk
    . first | exact IsiPair.bool_bool ⟨.bl _,H,I,rfl,q⟩ | exact IsiPair.bool_bool ⟨.bl _,H,I.tok _,rfl,q⟩
    rcases fin hk with⟨rfl,rfl⟩ | hk
    . first | exact IsiPair.bool_str ⟨.bl _,H,I,rfl,q⟩ | exact IsiPair.bool_str ⟨.bl _,H,I.tok _,rfl,q⟩
    rcases fin hk with⟨rfl,rfl⟩ | hk
    . first | exact IsiPair.bool_list ⟨.bl _,H,I,rfl,q⟩ | exact IsiPair.bool_list ⟨.bl _,H,I.tok _,rfl,q⟩
    rcases fin hk with⟨rfl,rfl⟩ | hk
    . first | exact IsiPair.bool_tuple ⟨.bl _,H,I,rfl,q⟩ | exact IsiPair.bool_tuple ⟨.bl _,H,I.tok _,rfl,q⟩
    rcases fin hk with⟨rfl,rfl⟩ | hk
    . first | exact IsiPair.bool_dict ⟨.bl _,H,I,rfl,q⟩ | exact IsiPair.bool_dict ⟨.bl _,H,I.tok _,rfl,q⟩
    cases hk
   | str i=>
    obtain⟨t,rfl⟩:=r;replace hk:MI T=some k:=hk;unfold MI at hk;rcases fin hk with⟨rfl,rfl⟩ | hk
    . first | exact IsiPair.str_int ⟨.bl _,H,I,rfl,q⟩ | exact IsiPair.str_int ⟨.bl _,H,I.tok _,rfl,q⟩
    rcases fin hk with⟨rfl,rfl⟩ | hk
    . first | exact IsiPair.str_bool ⟨.bl _,H,I,rfl,q⟩ | exact IsiPair.str_bool ⟨.bl _,H,I.tok _,rfl,q⟩
    rcases fin hk with⟨rfl,rfl⟩ | hk
    . first | exact IsiPair.str_str ⟨.bl _,H,I,rfl,q⟩ | exact IsiPair.str_str ⟨.bl _,H,I.tok _,rfl,q⟩
    rcases fin hk with⟨rfl,rfl⟩ | hk
    . first | exact IsiPair.str_list ⟨.bl _,H,I,rfl,q⟩ | exact IsiPair.str_list ⟨.bl _,H,I.tok _,rfl,q⟩
    rcases fin hk with⟨rfl,rfl⟩ | hk
    . first | exact IsiPair.str_tuple ⟨.bl _,H,I,rfl,q⟩ | exact IsiPair.str_tuple ⟨.bl _,H,I.tok _,rfl,q⟩
    rcases fin hk with⟨rfl,rfl⟩ | hk
    . first | exact IsiPair.str_dict ⟨.bl _,H,I,rfl,q⟩ | exact IsiPair.str_dict ⟨.bl _,H,I.tok _,rfl,q⟩
    cases hk
   | _=>cases hk
section
variable{X:Cx}
noncomputable def Jb(i j:Int):Prop:=j≠0/\j.natAbs<2^512
theorem NQ:gz X (binaryOp .FloorDiv) (rI Jb λi j=>.int (i.fdiv j)):=QC λi j _ _ _ _ _ hc q=>floordiv_int hc.1 q (.inl (PyProof.noPylong_of_log2 (by
 by_cases h0:j.natAbs=0
 . simp_all
 . have:=(Nat.log2_lt h0).mpr hc.2;omega)))
theorem QG:gz X (binaryOp .Mod) (rI (λ_ j=>j≠0) λi j=>.int (i.fmod j)):=HK
theorem boot_bool':bootBuiltins "bool" = some (.type "bool"):=by rfl
theorem ym{scope:Scope}{N:List Str}{ix:List (Option Nat)}(kind:scope.kind=.function)(nocell:(scope.names.all λy=>y.2 != .cell)=true)(locs:(scope.names.all λy=>y.2 != .local||scope.names.lookup y.1==some .local)=true)
 (free:(scope.names.all λy=>y.2 != .free||X.env.kindOf y.1==some .cell||X.env.kindOf y.1==some .free)=true) (len:ix.length=N.length) (nd:N.Nodup)
 (fr:((ix.zip N).all λp=>match p.1 with
  | none=>true
  | some i=>X.N[i]?==some p.2&&(X.env.kindOf p.2==some .cell||X.env.kindOf p.2==some .free)&&((relabel scope X.env).names.lookup p.2==some .cell||(relabel scope X.env).names.lookup p.2==some .free))=true):bR X scope N ix:=by
 refine⟨kind,λy hy=>?_,λy hy hl=>?_,λy hy hf=>?_,len,nd,λj i e=>?_⟩
 . have:=UI.mp nocell y hy;simpa using this
 . have:=UI.mp locs y hy;rw[hl]at this;simpa using this
 . have:=UI.mp free y hy;rw[hf]at this;simpa using this
 . have hj:j<ix.length:=(oG e).1;have hj':j<N.length:=by omega
   have hm:(ix.zip N)[j]?=some (some i,N[j]):=by
    rw[List.getElem?_zip_eq_some];exact⟨e,by simp[hj']⟩
   have:=UI.mp fr _ (UV hm);simp only[Uz,VQ,beq_iff_eq]at this;exact⟨N[j],by simp[hj'],this.1.1,this.1.2,this.2⟩
end
structure Df(K:Frag)(mg:Str->Option Value)(x:Str)(st:Stmt)(ps:List Str)(f:Addr)(fd:FuncData):Prop where
 fn:Q4 K x x st f fd
 b:bA K fd ps []
 m:mg x=some (.ref f)
section
variable{K:Frag}{a b:Addr}{xs ys:List V}{wi:TI}{g:TG}{tb:TS}{D:oi}{σ:St}{H H1:Hp}{ix:List (Option Nat)}{tc:TT}{te:TE}{Q:VK}
end
theorem aJ.turnedTup{σ:St}{ch:List Addr}{T:Addr}(I:aJ X pins σ H s)(hf:∀b∈ch,nG X pins H b)
 (k:∀b o,b∉ch->s.heap.get? b=some o->h'.get? b=some o) (hT:s.heap.objs.size<=T) (eT:IsTup h' T its.toArray) (r:aV xs its) (hz:xs.length<=sizeLine):aJ X pins σ (cx H T (.tup xs)) { s with heap:=h',toks:=t' }:=by
 have hTn  := I.hok.fresh hT;have big:∀{c:Addr}{o:Obj},s.heap.get? c=some o->c≠T:=λe=>Uy (Ui (Um e) hT);have OA:∀c t,H c=some t->c∉ch:=λc t e hc=>by rw[(hf c hc).1]at e;cases e
 refine I.step    (λc hc=>⟨(hf c hc).2.2.2.1,(hf c hc).2.1,(hf c hc).2.2.2.2.1,(hf c hc).2.2.2.2.2⟩) (λc o _ _ hc e _=>k c o hc e) (λc o _ _ hc e _=>⟨o.slots,k c o hc e⟩) (λc o hc e n=>?_) (λc o hc e=>⟨o,k c o hc e⟩) (λc t e=>?_) (λc o t e=>?_) (λc ps e=>?_) (λm hm=>?_) (λc t e=>?_) I.bare
 . rw[aE (big e)];exact n
 . rw[aE (bK e hTn)];exact e
 . rw[aE (bK e hTn)];exact e
 . exact⟨#[],by rw[aE (bK e hTn),e];simp⟩
 . obtain⟨o,es,ep,ho,r⟩:=hm;exact⟨o,es,ep,k _ o (λhc=>(hf _ hc).2.1 rfl) ho,r⟩
 . by_cases hcT:c=T
   . subst hcT;rw[aC]at e;cases e;exact⟨hz,its,r,eT⟩
   . rw[aE hcT]at e;refine(I.hok c t e).stay (λd o hd q=>k d o ?_ q) (λd q=>by rw[aE (bK q hTn)];exact q) λd zs q=>by rw[aE (bK q hTn)];exact q
     rcases hd with hd | hd
     . rw[hd];exact OA c t e
     . exact OA d _ hd
noncomputable def S8(K:Frag)(a:Addr):It:=
 ⟨λi H=>∃xs x,c8 K H a xs/\xs[i]?=some x,
  λi H v H'=>∃p x,H p=none/\v=.ref p/\H'=cx H p (.tup [.int i,x])/\∀xs,c8 K H a xs->xs[i]?=some x,
  λi H=>∃xs,c8 K H a xs/\xs.length<=i⟩
theorem AB{K:Frag}(a e it:Addr)(hei:e≠it):
 yr P w K (.Tuple elts x1 pos) (S8 K a) [e,it] e (λi h=>(∃old,IsEnum h e it i old)/\h.IsListIter it a i) where
 mem:=by simp
 obj:=λi h st c hc=>by
  obtain⟨⟨old,e1⟩,⟨o4,e4,_,d4⟩⟩:=st
  grind
 keep:=λi h h' st k=>by
  obtain⟨⟨old,e1⟩,e4⟩:=st;exact⟨⟨old,k e (by simp) _ e1⟩,e4.at λo q=>k it (by simp) o q⟩
 item:=by
  intro X hP hw hK hc i pins s σ H E I hf st hg;subst hP hw hK;obtain⟨xs,x,qx,hx⟩:=hg;obtain⟨its,rvx,px,_⟩:=I.list qx;obtain⟨u,hu,ru⟩:=rvx.get hx;obtain⟨⟨old,e1⟩,e4⟩:=st;have big:∀{c:Addr}{o:Obj},s.heap.get? c=some o->c≠s.heap.objs.size:=λe=>Uy (Um e);refine wpAny_pyNext_enum_item e1 e4 px.isList (x:=u) (by simpa using hu) hei λh' a1 a2 a3 a4 a5=>?_;refine⟨_,rfl,wpAny_letOwnedTupleGo_enum (s:={ s with heap:=h',toks:=s.toks+1 }) a1 λh'' b1 b2=>?_⟩;have k2:∀c o,c∉[e,it]->s.heap.get? c=some o->h''.get? c=some o:=λc o hc q=>by
   simp only[Ub,U6,Wb,not_or]at hc;exact(b2.2 c hc.1).trans (a5 c o hc.1 hc.2 q)
  have eT:IsTup h'' s.heap.objs.size (List.toArray [.int i s.toks,u]):=⟨_,(b2.2 _ (big e1).symm).trans a3,rfl,_,rfl⟩
  have I1:=I.turnedTup (t':=s.toks+1) (xs:=[.int i,x]) hf k2 (Ug _) eT (.cons ⟨_,rfl⟩ (.cons ru .nil)) (by show 2<=sizeLine;decide);refine⟨.ref s.heap.objs.size,_,I1,rfl,⟨s.heap.objs.size,x,I.hok.fresh (Ug _),rfl,rfl,λzs hz=>by rw[I.list_inj hz qx];exact hx⟩,⟨⟨u,by simpa using b1⟩,a2.at λo q=>(b2.2 _ hei.symm).trans q⟩,λc hc=>?_⟩;have hcn:c≠s.heap.objs.size:=by
   obtain⟨o4,g4,_⟩:=id e4;simp only[Ub,U6,Wb]at hc;rcases hc with rfl | rfl
   . exact big e1
   . exact big g4
  rw[aE hcn];exact(hf c hc).1
 done:=by
  intro X hP hw hK hc i pins s σ H E I hf st hg;subst hP hw hK;obtain⟨xs,qx,hl⟩:=hg;obtain⟨its,rvx,px,_⟩:=I.list qx;obtain⟨⟨old,e1⟩,e4⟩:=st;have lx:=rvx.length;obtain⟨f0,f1,f2,f3,f4,f5⟩:=hf it (by simp);exact wpAny_pyNext_enum_end (I.ok.hd hc) e1 e4 px.isList (by simp;omega) λh' k=>⟨rfl,I.turned (t':=s.toks) (λb o hb q=>k b o hb q) f0 f1 f3 f4 f5⟩
 self:=λ_ _ _ _ _ st h=>by
  obtain⟨⟨old,e1⟩,_⟩:=st;exact VT e1 h
noncomputable def CJ(K:Frag)(ta:TA):TI:=λσ H R=>ta σ H λvs H1=>∃a,vs=[.ref a]/\(∃xs,c8 K H1 a xs)/\R (S8 K a) H1
theorem HN(hg:Gl X "enumerate")(hm:X.mg "enumerate" = none)(ha:PA X [a] ta)(hs:starEach [a] X.env=[(false,eval a X.env)]:=by rfl):
 PI X (.Tuple elts x1 tpos) (.Call (.Name "enumerate" p) [a] [] pos) (CJ X.K ta):=by
 intro pins s σ H R I h;refine Call_ (nZ I hg hm boot_enumerate (VC (bQ (ha _ _ s σ H _ I h) λus s1 hq0=>?_) hs rfl));obtain⟨vs,H1,I1,r1,q1⟩:=hq0;obtain⟨a,e,⟨xs,qx⟩,q⟩:=q1;subst e;cases r1 with
 | cons r rr=>
  cases rr;cases r;obtain⟨its,rvx,px,_⟩:=I1.list qx;refine call_enumerate_list px.isList λh' g5 g1 z5 k=>?_;refine VT  g5 ?_;refine⟨s1.heap.objs.size+1,[s1.heap.objs.size+1,s1.heap.objs.size],_,_,H1,rfl,I1.kept  k,AB a _ _ (Wc (UY _)),⟨⟨_,g5⟩,g1⟩,λc hc=>?_,q⟩;have hc':s1.heap.objs.size<=c:=by
   grind
  exact I1.fpOk hc' (I1.hok.fresh hc')
mutual
inductive Dp(K:Frag)(H:Hp):V->PyData->Prop
 | non:Dp K H .non .none
 | bl (b:Bool):Dp K H (.bl b) (.bool b)
 | int (i:Int):Dp K H (.int i) (.int i)
 | str (x:Str):Dp K H (.str x) (.str x)
 | lst {a:Addr} {xs:List V} {ds:List PyData}:c8 K H a xs->o6 K H xs ds->Dp K H (.ref a) (.list ds)
 | tup {a:Addr} {xs:List V} {ds:List PyData}:fj K H a xs->o6 K H xs ds->Dp K H (.ref a) (.tuple ds)
inductive o6(K:Frag)(H:Hp):List V->List PyData->Prop
 | nil:o6 K H [] []
 | cons {v:V} {vs:List V} {d:PyData} {ds:List PyData}:Dp K H v d->o6 K H vs ds->o6 K H (v::vs) (d::ds)
end
theorem Dp.reads{σ:St}(I:aJ X pins σ H s)(h:Dp X.K H v d):bi v u->∃as,Reads s.heap u d as:=
 Dp.rec  (motive_2:=λvs ds _=>∀us,aV vs us->∃as,ReadsAll _ us ds as)
  (λu r=>by cases r;exact⟨_,.none⟩) (λb u r=>by cases r;exact⟨_,.bool b⟩) (λi u r=>by obtain⟨t,rfl⟩:=r;exact⟨_,.int i t⟩) λx u r=>by obtain⟨t,rfl⟩:=r;exact⟨_,.str x t⟩
  λq _ ih u r=>by
   cases r;obtain⟨its,rv,⟨o,n,e,c,_,d⟩,_⟩:=I.list q;obtain⟨as,ra⟩:=ih _ rv;exact⟨_,.list e c d (by omega)⟩
  (λq _ ih u r=>by
   cases r;obtain⟨its,rv,⟨o,e,c,n,d⟩,_⟩:=I.tuple q;obtain⟨as,ra⟩:=ih _ rv;exact⟨_,.tuple e c d (by omega)⟩)
  (λus r=>by cases r;exact⟨_,.nil⟩)
  (λ_ _ ih1 ih2 us r=>by
   cases r with
   | cons r rr=>
    obtain⟨as,ra⟩:=ih1 _ r;obtain⟨bs,rb⟩:=ih2 _ rr;exact⟨_,.cons ra rb⟩) h u
noncomputable def HM(K:Frag)(neg:Bool):R2:=λx y H Q=>∃d e,Dp K H x d/\Dp K H y e/\d.canLay0=true/\e.canLay0=true/\d.depth<=64/\Q (.bl (if neg then !(PyData.eqv d e) else PyData.eqv d e)) H
theorem Na{X:Cx}(hu:X.A.units+64<cLine):gz X (compareOp .Eq) (HM X.K false):=by
 intro pins s σ H x y v u Q I rx ry h;obtain⟨d,e,hx,hy,cd,ce,dd,q⟩:=h;obtain⟨as,ra⟩:=hx.reads I rx;obtain⟨bs,rb⟩:=hy.reads I ry;exact SeqAt.compareEq_reads ra rb cd ce (by omega) ⟨.bl _,H,I,rfl,by simpa using q⟩
theorem LB{X:Cx}(hu:X.A.units+64<cLine):gz X (compareOp .NotEq) (HM X.K true):=by
 intro pins s σ H x y v u Q I rx ry h;obtain⟨d,e,hx,hy,cd,ce,dd,q⟩:=h;obtain⟨as,ra⟩:=hx.reads I rx;obtain⟨bs,rb⟩:=hy.reads I ry;exact SeqAt.compareNe_reads ra rb cd ce (by omega) ⟨.bl _,H,I,rfl,by simpa using q⟩
section
variable{P:Program}{w:World}{K:Frag}{mg:Str->Option Value}{base:Heap}{N:List Str}{qual:Str}{scope:Scope}{f:Addr}{cd:Value}{A:Around}{outer:List Env}{s:Shared}{H:Hp}{E:XK}
end
section
variable{X:Cx}{E:XK}{C:Addr}{x:Str}{np cpos pos:Pos}{e:Expr}{es:List Expr}{t:TA}
end
section
variable{K:Frag}{x D:Addr}
variable{prog:Program}{w:World}{A:Around}{E:Value->Shared->Prop}{s:Shared}{nm:Str}
end
section
variable{X:Cx}
end
section
variable{κ:Type}[DecidableEq κ]
noncomputable def k9(kvs:List (κ×V))(k:κ):Option V:=(kvs.find? λkv=>decide (kv.1=k)).map (·.2)
noncomputable def ke(kvs:List (κ×V))(k:κ)(v:V):List (κ×V):=
 if(kvs.any λkv=>decide (kv.1=k))=true then kvs.map (λkv=>if kv.1=k then(kv.1,v) else kv) else kvs++[(k,v)]
theorem md{p:κ×V}(e:p.1=k):k9 (p::r) k=some p.2:=by simp[k9,  e]
theorem jX{p:κ×V}(e:¬ p.1=k):k9 (p::r) k=k9 r k:=by simp[k9,  e]
theorem xr(k:κ):∀kvs:List (κ×V),(kvs.any λkv=>decide (kv.1=k))=(k9 kvs k).isSome
 | []=>rfl
 | p::r=>by
  rw[V9];by_cases e:p.1=k
  . simp only[md e,Uq e,Bool.true_or,Vj]
  . rw[jX e,Up e,Bool.false_or];exact xr k r
theorem jT(kvs:List (κ×V))(k:κ)(v:V):(ke kvs k v).length<=kvs.length+1:=by
 unfold ke
 grind
theorem jQ.isSome_eq(r:jQ o u):o.isSome=u.isSome:=by
 cases o with
 | none=>cases u with
  | none=>rfl
  | some _=>exact(show False from r).elim
 | some _=>cases u with
  | none=>exact(show False from r).elim
  | some _=>rfl
theorem jQ.getD(r:jQ o u)(rd:bi d d'):bi (o.getD d) (u.getD d'):=by
 cases o with
 | none=>cases u with
  | none=>exact rd
  | some _=>exact(show False from r).elim
 | some _=>cases u with
  | none=>exact(show False from r).elim
  | some _=>exact r
theorem KV.val(r:KV kvs vs)(k:κ):jQ (k9 kvs k) (valueAt vs k):=by
 induction r with
 | nil=>exact True.intro
 | @cons p q ps qs h t ih=>
  obtain⟨h1,h2⟩:=h;by_cases e:p.1=k
  . have e'  := h1.symm.trans e;have b:valueAt (q::qs) k=some q.2:=by simp[valueAt,  e']
    rw[md e,b];exact h2
  . have e':¬ q.1=k:=λz=>e (h1.trans z);have b:valueAt (q::qs) k=valueAt qs k:=by simp[valueAt,  e']
    rw[jX e,b];exact ih
theorem KV.any(r:KV kvs vs)(k:κ):(kvs.any λkv=>decide (kv.1=k))=vs.any λkv=>decide (kv.1=k):=by
 induction r with
 | nil=>rfl
 | cons h t ih=>simp_all
theorem KV.repl(r:KV kvs vs)(k:κ)(ry:bi y u):
 KV (kvs.map λkv=>if kv.1=k then(kv.1,y) else kv) (vs.map λkv=>if kv.1=k then(kv.1,u) else kv):=by
 induction r with
 | nil=>exact .nil
 | @cons p q ps qs h t ih=>
  rw[Uk,Uk];refine .cons ?_ ih
  grind
theorem KV.put(r:KV kvs vs)(k:κ)(ry:bi y u):KV (ke kvs k y) (stored vs k u):=by
 unfold ke stored;rw[r.any k];by_cases e:(vs.any λkv=>decide (kv.1=k))=true
 . rw[Ul e,Ul e];exact r.repl k ry
 . rw[UE e,UE e];exact Paired.snoc r ⟨rfl,ry⟩
theorem KV.length{kvs:List (κ×V)}(r:KV kvs vs):kvs.length=vs.length:=V2 r
end
theorem qv(r:bi (kV k) u):(bd P w).is k u=true:=by
 cases k with
 | inl i=>obtain⟨t,e⟩:=show ∃t,u=Value.int i t from r;subst e;exact wl P w i t
 | inr x=>obtain⟨t,e⟩:=show ∃t,u=Value.str x t from r;subst e;exact xk P w x t
theorem tO:∀{ks:List bD}{us:List Value},aV (ks.map kV) us->ItemsAre (bd P w) ks us
 | [],_,r=>by cases r;exact .nil
 | k::ks,_,r=>by
  cases r with
  | cons h t=>exact .cons (qv h) (tO t)
noncomputable abbrev KT(H:Hp):List (List bD×V)->List (List bD×Addr×Value)->Prop:=Paired λp q=>p.1=q.1/\H q.2.1=some (.tup (p.1.map kV))/\bi p.2 q.2.2
theorem KT.val(r:KT H kvs xs)(k:List bD):jQ (k9 kvs k) ((atKey xs k).map (·.2)):=by
 induction r with
 | nil=>exact True.intro
 | @cons p q ps qs h t ih=>
  obtain⟨h1,_,h2⟩:=h;by_cases e:p.1=k
  . have e'  := h1.symm.trans e;have b:atKey (q::qs) k=some q.2:=by simp[atKey,  e']
    rw[md e,b];exact h2
  . have e':¬ q.1=k:=λz=>e (h1.trans z);have b:atKey (q::qs) k=atKey qs k:=by simp[atKey,  e']
    rw[jX e,b];exact ih
theorem KT.repl(r:KT H kvs xs)(k:List bD)(ry:bi y u):
 KT H (kvs.map λkv=>if kv.1=k then(kv.1,y) else kv) (xs.map (putAt k u)):=by
 induction r with
 | nil=>exact .nil
 | @cons p q ps qs h t ih=>
  rw[Uk,Uk];refine .cons ?_ ih;obtain⟨h1,h2,h3⟩:=h;unfold putAt
  grind
theorem KT.put(r:KT H kvs xs)(k:List bD)(hb:H b=some (.tup (k.map kV)))(ry:bi y u):
 KT H (ke kvs k y) (storedH xs k b u):=by
 have e:(kvs.any λkv=>decide (kv.1=k))=(atKey xs k).isSome:=by
  rw[xr,(r.val k).isSome_eq,Option.isSome_map]
 unfold ke storedH;rw[e];by_cases q:(atKey xs k).isSome=true
 . rw[Ul q,Ul q];exact r.repl k ry
 . rw[UE q,UE q];exact Paired.snoc r ⟨rfl,hb,ry⟩
theorem KT.keeps(r:KT H kvs xs)(ht:∀b ys,H b=some (.tup ys)->H' b=some (.tup ys)):KT H' kvs xs:=
 Paired.mapP r λ_ _ z=>⟨z.1,ht _ _ z.2.1,z.2.2⟩
section
variable{P:Program}{w:World}{H:Hp}{h:Heap}{a:Addr}
theorem Jv(ok:lF P w H h)(e:Rd H a u):cH P w H h a u:=e.ok ok
theorem pb(ok:lF P w H h)(e:Rd H a (.dK kvs)):kvs.length<=sizeLine/\(a==sysModules)=false/\∃vs,KV kvs vs/\h.DictOf (bd P w) a vs:=
 by obtain⟨z,y,vs,r,x⟩:=show cH P w H h a _ from Jv ok e;exact⟨z,y,vs,r,x.of⟩
theorem Rm(ok:lF P w H h)(e:H a=some (.dK kvs)):∃vs,KV kvs vs/\jy P w h a vs:=by
 obtain⟨_,_,vs,r,x⟩:=(show cH P w H h a _ from ok a _ e);grind
theorem Po(ok:lF P w H h)(e:H a=some (.dK kvs)):kvs.length<=sizeLine/\(a==sysModules)=false/\∃vs,KV kvs vs/\h.DictOf (bd P w) a vs:=pb ok (.inl e)
theorem oj(ok:lF P w H h)(e:H a=some (.tup (ks.map kV))):(tupleKind (bd P w)).is h ks a:=by
 obtain⟨_,its,r,o,h1,h2,n,h3⟩:=show cH P w H h a _ from ok a _ e
 exact⟨o,its.toArray,n,h1,h2,h3,by simpa using tO r⟩
theorem si(ok:lF P w H h)(e:Rd H a (.dT kvs)):kvs.length<=sizeLine/\(a==sysModules)=false/\
 ∃xs,KT H kvs xs/\h.DictOfH (tupleKind (bd P w)) a xs:=by
 obtain⟨z,y,xs,r,o,es,ep,h1,h2,h3,h4,h5⟩:=(show cH P w H h a _ from Jv ok e)
 refine⟨z,y,xs,r,o,es,ep,h1,h2,h3,h4,λx hx=>?_,h5⟩;have all:∀{l:List _}{m:List _},KT H l m->∀x∈m,(tupleKind (bd P w)).is h x.1 x.2.1:=by
  intro l m q;induction q with
  | nil=>simp_all
  | @cons p q ps qs hq t ih=>
   intro x hx;rcases Ub.mp hx with e | hx
   . subst e;exact oj ok (by simp_all)
   grind
 grind
theorem PD(ok:lF P w H h)(e:H a=some (.dT kvs)):kvs.length<=sizeLine/\(a==sysModules)=false/\
 ∃xs,KT H kvs xs/\h.DictOfH (tupleKind (bd P w)) a xs:=si ok (.inl e)
end
noncomputable def kE(H:Hp)(a:Addr)(y:V)(r:Option V):Prop:=
 (∃kvs k,Rd H a (.dK kvs)/\y=kV k/\r=k9 kvs k)∨∃kvs k b,Rd H a (.dT kvs)/\y=.ref b/\H b=some (.tup (k.map kV))/\r=k9 kvs k
noncomputable def vy(H:Hp)(a:Addr)(y v:V)(H':Hp):Prop:=
 (∃kvs k,H a=some (.dK kvs)/\y=kV k/\kvs.length<sizeLine/\H'=cx H a (.dK (ke kvs k v)))∨
 ∃kvs k b,H a=some (.dT kvs)/\y=.ref b/\H b=some (.tup (k.map kV))/\kvs.length<sizeLine/\H'=cx H a (.dT (ke kvs k v))
theorem kE.k{k:bD}(e:H a=some (.dK kvs)):kE H a (kV k) (k9 kvs k):=.inl ⟨kvs,k,.inl e,rfl,rfl⟩
theorem kE.t{k:List bD}(e:H a=some (.dT kvs))(eb:H b=some (.tup (k.map kV))):kE H a (.ref b) (k9 kvs k):=.inr ⟨kvs,k,b,.inl e,rfl,eb,rfl⟩
theorem vy.k{k:bD}(e:H a=some (.dK kvs))(hl:kvs.length<sizeLine):vy H a (kV k) v (cx H a (.dK (ke kvs k v))):=.inl ⟨kvs,k,e,rfl,hl,rfl⟩
theorem vy.t{k:List bD}(e:H a=some (.dT kvs))(eb:H b=some (.tup (k.map kV)))(hl:kvs.length<sizeLine):
 vy H a (.ref b) v (cx H a (.dT (ke kvs k v))):=.inr ⟨kvs,k,b,e,rfl,eb,hl,rfl⟩
section
variable{X:Cx}{pins:List (Addr×Obj)}{σ:St}{H:Hp}{s:Shared}{a:Addr}{y v:V}{u r:Value}{o:Option V}{A:Around}{E:Value->Shared->Prop}
theorem aJ.big(I:aJ X pins σ H s):sysModules<s.heap.objs.size:=by
 have h  := (I.mod.glob.keeps I.bk).lt;exact Vv (by decide) h
theorem AQ(hu:A.units+1<cLine)(I:aJ X pins σ H s)(g:kE H a y (some v))(ry:bi y u)(h:∀w' s',aJ X pins σ H s'->bi v w'->Q w' s'):
 wpAny (model X.prog X.w) A (getItem (.ref a) u) Q E s:=by
 rcases g with⟨kvs,k,e,ey,l⟩ | ⟨kvs,k,b,e,ey,eb,l⟩
 . subst ey;obtain⟨z,hd,vs,rel,dd⟩:=pb I.hok e;obtain⟨w',hw,rw'⟩:=jQ.some_of   (by rw[l];exact rel.val k);exact wpAny_getItem_of (qv ry) dd.mapOf hw (h w' _ (I.tok _) rw')
 . subst ey;cases show u=Value.ref b from ry
   obtain⟨z,hd,xs,rel,dd⟩:=si I.hok e;obtain⟨w',hw,rw'⟩:=jQ.some_of   (by rw[l];exact rel.val k);obtain⟨p,hp,hp2⟩:=oM hw
   refine wpAny_getItem_heap (Vw hu) (oj I.hok eb) dd hp ?_;rw[hp2];exact h w' _ (I.tok _) rw'
theorem Sh(hu:A.units+1<cLine)(I:aJ X pins σ H s)(g:kE H a y o)(ry:bi y u)(h:∀s',aJ X pins σ H s'->Q (.bool o.isSome) s'):
 wpAny (model X.prog X.w) A (compareOp .In u (.ref a)) Q E s:=by
 rcases g with⟨kvs,k,e,ey,l⟩ | ⟨kvs,k,b,e,ey,eb,l⟩
 . subst ey;obtain⟨z,hd,vs,rel,dd⟩:=pb I.hok e;refine wpAny_in_of (qv ry) hd dd.mapOf ?_;rw[<-(rel.val k).isSome_eq,<-l];exact h _ (I.tok _)
 . subst ey;cases show u=Value.ref b from ry
   obtain⟨z,hd,xs,rel,dd⟩:=si I.hok e;refine wpAny_in_heap (Vw hu) (oj I.hok eb) hd dd ?_;have q:=(rel.val k).isSome_eq;rw[Option.isSome_map]at q;rw[<-q,<-l];exact h _ (I.tok _)
theorem Hm(hu:A.units+1<cLine)(I:aJ X pins σ H s)(g:kE H a y o)(ry:bi y u)(h:∀s',aJ X pins σ H s'->Q (.bool (!o.isSome)) s'):
 wpAny (model X.prog X.w) A (compareOp .NotIn u (.ref a)) Q E s:=by
 rcases g with⟨kvs,k,e,ey,l⟩ | ⟨kvs,k,b,e,ey,eb,l⟩
 . subst ey;obtain⟨z,hd,vs,rel,dd⟩:=pb I.hok e;refine wpAny_notIn_of (qv ry) hd dd.mapOf ?_;rw[<-(rel.val k).isSome_eq,<-l];exact h _ (I.tok _)
 . subst ey;cases show u=Value.ref b from ry
   obtain⟨z,hd,xs,rel,dd⟩:=si I.hok e;refine wpAny_notIn_heap (Vw hu) (oj I.hok eb) hd dd ?_;have q:=(rel.val k).isSome_eq;rw[Option.isSome_map]at q;rw[<-q,<-l];exact h _ (I.tok _)
theorem vt(I:aJ X pins σ H s)(mu:PP (H a))(hs:Heap.SameBut a s.heap h')(he:∃q,h'.get? a=some q)(new:cH X.prog X.w (cx H a ob) h' a ob):
 aJ X pins σ (cx H a ob) { s with heap:=h',toks:=t' }:=
 I.write   mu (.inl rfl) (λb q hb z=>(hs.2 b hb).trans z) he new
theorem Cu(z:kvs.length<=sizeLine)(hd:(a==sysModules)=false)(rel:KV kvs vs)(dd:jy P w h' a vs):
 cH P w H' h' a (.dK kvs):=⟨z,hd,vs,rel,dd⟩
theorem Pm{key v:Value}(hkey:(bd P w).is k key=true)(hm:jy P w s.heap d kvs)(hsz:kvs.length<=sizeLine)
 (hQ:∀h',jy P w h' d (stored kvs k v)->Heap.SameBut d s.heap h'->Q () { s with heap:=h',toks:=s.toks+1 }):wpAny (model P w) A (setItem (.ref d) key v) Q E s:=by
 have T:=hm.of.typeIs;obtain⟨o,es,ep,ho,hc,hd,he,hk,hp,hn⟩:=hm;have hes:es.size<=sizeLine:=by have e1:=hp.length;simp_all
 unfold setItem;try with_reducible refine UQ ?_
 refine Uf (wpAny_sequenceKey T (by decide) (Uf (wpAny_callSpecial?_slot  T F.slot_dict_setitem (wpAny_call_entry F.slot_dict_setitem T F.entry_dict_setitem (Uf (wpAny_notOrdered_dict T (show wpAny _ _ (dictSet d _ v >>= _) _ _ s from Uf ?_))) (args_dict_setitem _ _ _)))));unfold dictSet;try with_reducible refine UQ ?_
 refine Uf ((bd P w).pyHash hkey ?_);unfold dictSetHashed;try with_reducible refine UQ ?_
 refine Uf (wpAny_dictFind_of  hkey ho hd hk ?_);have ix:(es.findIdx? λe=>(bd P w).is k e.key)=kvs.findIdx? λkv=>decide (kv.1=k):=by
  rw[<-hp.findIdx k];obtain⟨l⟩:=es;simp
 cases hi:es.findIdx? λe=>(bd P w).is k e.key with
 | some i=>
  have an:=any_of_findIdx_some (ix▸hi);have hl:(es.toList.findIdx? λe=>(bd P w).is k e.key)=some i:=by rw[<-hi];obtain⟨l⟩:=es;simp
  have hm:=hp.modify hn hl v;refine Uf (wpAny_rule (Uf (wpAny_updateDict (s:={ s with toks:=s.toks+1 }) ho hd (wpAny_point (Ut ⟨.none,rfl,Ut (hQ _ ?_ (VL ..))⟩)))));refine⟨_,_,ep,Vk _ ho (VM (Obj.data_mapDict hd _)),hc.mapDict _,Obj.data_mapDict hd _,by simpa using he,hk.modify _ _,?_,?_⟩
  . rw[stored,Ul an];obtain⟨l⟩:=es;simpa using hm
  . rw[stored,Ul an,keys_map_store];exact hn
 | none=>
  have nm:k∉kvs.map (·.1):=not_mem_of_findIdx_none (ix▸hi);have na:¬ (kvs.any λkv=>decide (kv.1=k))=true:=λz=>by
   obtain⟨kv,h1,h2⟩:=V0.mp z;exact nm (Vf.mpr ⟨kv,h1,UN h2⟩)
  have ha:=hp.append hkey ((bd P w).hash k) v;refine Uf (wpAny_rule (wpAny_updateDictKeys (hz:=hes) (s:={ s with toks:=s.toks+1 }) ho hd (Ut ⟨.none,rfl,Ut (hQ _ ?_ (VL ..))⟩)));refine⟨_,_,ep+1,Vk _ ho (VM (VE hd _)),hc.mapDictKeys _,VE hd _,by simp[he],hk.push hkey _,?_,?_⟩
  . rw[stored,UE na];obtain⟨l⟩:=es;simpa using ha
  . rw[stored,UE na,UX,VU];exact⟨hn,by simp,λx hx y hy z=>nm (by simp at hy;rw[<-hy,<-z];exact hx)⟩
theorem AU(hu:A.units+1<cLine)(I:aJ X pins σ H s)(g:vy H a y v H')(ry:bi y u)(rv:bi v r)(h:∀s',aJ X pins σ H' s'->Q () s'):
 wpAny (model X.prog X.w) A (setItem (.ref a) u r) Q E s:=by
 rcases g with⟨kvs,k,e,ey,l,eH⟩ | ⟨kvs,k,b,e,ey,eb,l,eH⟩
 . subst ey eH;obtain⟨z,hd,_⟩:=Po I.hok e;obtain⟨vs,rel,dd⟩:=Rm I.hok e;have hz:vs.length<=sizeLine:=by rw[<-rel.length];exact z
   have hl:(ke kvs k v).length<=sizeLine:=by have:=jT kvs k v;omega
   refine Pm (qv ry) dd hz λh' dd' hs=>h _ ?_;have he:∃q,h'.get? a=some q:=let ⟨q,_,_,hq,_⟩:=dd';⟨q,hq⟩;exact vt I (by rw[e];exact True.intro) hs he (Cu hl hd (rel.put k rv) dd')
 . subst ey eH;cases show u=Value.ref b from ry
   obtain⟨z,hd,xs,rel,dd⟩:=PD I.hok e;have hz:xs.length<=sizeLine:=by rw[<-V2 rel];exact z
   have hl:(ke kvs k v).length<=sizeLine:=by have:=jT kvs k v;omega
   refine wpAny_setItem_heap (hsz:=hz) (Vw hu) (oj I.hok eb) dd λh' dd' hs=>h _ ?_;obtain⟨q,es,ep,hq,h2,h3,h4,_,h5⟩:=dd';refine vt I (by rw[e];exact True.intro) hs ⟨q,hq⟩ ⟨hl,hd,_,(rel.put k eb rv).keeps λc ys ec=>?_,q,es,ep,hq,h2,h3,h4,h5⟩;rw[aE (O4 ec e (λz=>nomatch z))];exact ec
end
section
variable{X:Cx}{pins:List (Addr×Obj)}{σ:St}{H:Hp}{s:Shared}{a:Addr}{kvs:List (bD×V)}{k:bD}{u:Value}{A:Around}{E:Value->Shared->Prop}
theorem PZ(I:aJ X pins σ H s)(e:Rd H a (.dK kvs))(h:∀t s',aJ X pins σ H s'->Q (.int kvs.length t) s'):wpAny (model X.prog X.w) A (call (.builtin "len") [.ref a]) Q E s:=by
 obtain⟨z,hd,vs,rel,dd⟩:=pb I.hok e;refine call_len_dict hd dd (by rw[<-rel.length];rw[VD]at z;omega) ?_;rw[<-rel.length];exact h _ _ (I.tok _)
end
noncomputable def Pg(i:Expr):Prop:=∀ov iv,subscripted i false ov iv=operate [ov,iv] (getItem ov iv)
theorem GJ{T id:String}
 (hl:typeLookup (.type T) "__getitem__" = pure (some (.builtin id))) (hs:Pg slice)
 (h:wpAny (model prog w) A (eval value env) (λo s₁=>wpAny (model prog w) A (eval slice env) (λi s₂=>s₂.TypeIs o T/\wpAny (model prog w) A (getItem o i) Q E s₂) E s₁) E s):
 wpAny (model prog w) A (eval (.Subscript value slice pos) env) Q E s:=by
 refine Subscript_ (UU h (λo s₁ h₁=>UU h₁ (λi s₂ h₂=>?_) λ_ _ x=>x) λ_ _ x=>x);obtain⟨hT,h₂⟩:=h₂;refine Uf ?_;refine Uf (wpAny_specialOf hT hl ?_);have fin:wpAny (model prog w) A (subscripted slice false o i) (λr s₃=>wpAny (model prog w) A (letTemporaryGo value o r >>= λ_=>pure r) Q E s₃) E s₂:=by
  rw[hs o i];exact wpAny_operating (UU h₂ (λr s₃ h₃=>Uf (wpAny_letTemporaryGo (Ut h₃))) λ_ _ x=>x)
 first
  | exact Ut (Uf fin)
  | rfl
  | rfl
theorem wG{σ:St}(I:aJ X pins σ H s)(g:kE H a y o):s.TypeIs (.ref a) "dict" := by
 rcases g with⟨kvs,k,e,_,_⟩ | ⟨kvs,k,b,e,_,_,_⟩
 . obtain⟨_,_,vs,_,dd⟩:=pb I.hok e;exact dd.typeIs
 . obtain⟨_,_,xs,_,dd⟩:=si I.hok e;exact dd.typeIs
noncomputable def Ja(td ty:TE):TE:=λσ H Q=>td σ H λx H1=>ty σ H1 λy H2=>∃a v,x=.ref a/\kE H2 a y (some v)/\Q v H2
noncomputable def ND(ty td:TE):TE:=λσ H Q=>ty σ H λy H1=>td σ H1 λx H2=>∃a o,x=.ref a/\kE H2 a y o/\Q (.bl o.isSome) H2
noncomputable def zb(ty td:TE):TE:=λσ H Q=>ty σ H λy H1=>td σ H1 λx H2=>∃a o,x=.ref a/\kE H2 a y o/\Q (.bl (!o.isSome)) H2
noncomputable def Jm(td ty tv:TE):TS:=λD σ H=>tv σ H λv H1=>td σ H1 λx H2=>ty σ H2 λy H3=>∃a H4,x=.ref a/\vy H3 a y v H4/\D.nx σ H4
section
variable{X:Cx}{o i e value:Expr}{pos pos' tpos:Pos}{td ty tv:TE}
theorem QR(hu:X.A.units+1<cLine)(ho:PE X o td)(hi:PE X i ty)(hs:Pg i):PE X (.Subscript o i pos) (Ja td ty):=by
 intro pins s σ H Q I h;refine GJ PySem.F.slot_dict_getitem.lookup hs (bQ (ho _ s σ H _ I h) λu s1 hy0=>?_);obtain⟨x,H1,I1,rx,q1⟩:=hy0;refine bQ (hi _ s1 σ H1 _ I1 q1) λiv s2 hq0=>?_;obtain⟨y,H2,I2,ry,a,v,ex,g,q2⟩:=hq0;subst ex;obtain rfl:u=Value.ref a:=rx;exact⟨wG I2 g,AQ hu I2 g ry λw' s3 I3 rw'=>⟨v,H2,I3,rw',q2⟩⟩
theorem QU(hu:X.A.units+1<cLine)(hi:PE X i ty)(ho:PE X o td):PC X .In i o (ND ty td):=by
 intro pins s σ H Q I h;refine bQ (hi _ s σ H _ I h) λiv s1 hy0=>?_;obtain⟨y,H1,I1,ry,q1⟩:=hy0;refine bQ (ho _ s1 σ H1 _ I1 q1) λu s2 hq0=>?_;obtain⟨x,H2,I2,rx,a,ov,ex,g,q2⟩:=hq0;subst ex;obtain rfl:u=Value.ref a:=rx;exact Sh hu I2 g ry λs3 I3=>⟨.bl _,H2,I3,rfl,q2⟩
theorem Nr(hu:X.A.units+1<cLine)(hi:PE X i ty)(ho:PE X o td):PC X .NotIn i o (zb ty td):=by
 intro pins s σ H Q I h;refine bQ (hi _ s σ H _ I h) λiv s1 hy0=>?_;obtain⟨y,H1,I1,ry,q1⟩:=hy0;refine bQ (ho _ s1 σ H1 _ I1 q1) λu s2 hq0=>?_;obtain⟨x,H2,I2,rx,a,ov,ex,g,q2⟩:=hq0;subst ex;obtain rfl:u=Value.ref a:=rx;exact Hm hu I2 g ry λs3 I3=>⟨.bl _,H2,I3,rfl,q2⟩
theorem Q8(hu:X.A.units+1<cLine)(ho:PE X o td)(hi:PE X i ty)(hv:PE X value tv)(hs:swapsWith value (some (.Subscript o i pos')) pos.line X.env=pure false):
 PS X (.Assign [.Subscript o i pos'] value pos) (Jm td ty tv):=by
 intro pins s σ H D I h;refine wpAny_Assign_Subscript (bQ (hv _ s σ H _ I h) λr s1 hy0=>?_) hs;obtain⟨v,H1,I1,rv,q1⟩:=hy0;refine bQ (ho _ s1 σ H1 _ I1 q1) λu s2 hy0=>?_;obtain⟨x,H2,I2,rx,q2⟩:=hy0;refine bQ (hi _ s2 σ H2 _ I2 q2) λiv s3 hq0=>?_;obtain⟨y,H3,I3,ry,a,H4,ex,g,q3⟩:=hq0;subst ex;obtain rfl:u=Value.ref a:=rx;exact AU hu I3 g ry rv λs4 I4=>⟨σ,H4,I4,q3⟩
end
theorem wU(h:Heap)(hb:sysModules<h.objs.size):cH P w H (h.push { cls:=.type "dict", data:=.dict #[] }) h.objs.size (.dK []):=
 ⟨Vn _,beq_eq_false_iff_ne.mpr (VB (Uy hb)),[],.nil,_,#[],0,Uv _ rfl,⟨rfl,rfl,rfl⟩,rfl,rfl,λ_ he=>by simp at he,.nil,List.nodup_nil⟩
theorem Ez(h:Heap)(hb:sysModules<h.objs.size):cH P w H (h.push { cls:=.type "dict", data:=.dict #[] }) h.objs.size (.dT []):=
 ⟨Vn _,beq_eq_false_iff_ne.mpr (VB (Uy hb)),[],.nil,_,#[],0,Uv _ rfl,⟨rfl,rfl,rfl⟩,rfl,rfl,List.nodup_nil⟩
noncomputable def Ej:TE:=λ_ H Q=>∀p,H p=none->Q (.ref p) (cx H p (.dK []))
noncomputable def E6:TE:=λ_ H Q=>∀p,H p=none->Q (.ref p) (cx H p (.dT []))
section
variable{X:Cx}{pos:Pos}
theorem OO:PE X (.Dict [] [] pos) Ej:=λpins s σ H Q I h=>
 wpAny_Dict_empty ⟨.ref _,_,I.laid    (λ_ _ q=>Uc _ q) (Ug _) (wU _ I.big),rfl,h _ (I.hok.fresh (Ug _))⟩
theorem PM:PE X (.Dict [] [] pos) E6:=λpins s σ H Q I h=>
 wpAny_Dict_empty ⟨.ref _,_,I.laid    (λ_ _ q=>Uc _ q) (Ug _) (Ez _ I.big),rfl,h _ (I.hok.fresh (Ug _))⟩
end
noncomputable def uX:List (TE×TE)->St->Hp->(List (V×V)->Hp->Prop)->Prop
 | [],_,H,Q=>Q [] H
 | (tk,tv)::r,σ,H,Q=>tk σ H λx H1=>tv σ H1 λy H2=>uX r σ H2 λps H3=>Q ((x,y)::ps) H3
noncomputable abbrev VV:List (V×V)->List (Value×Value)->Prop:=Paired λp q=>bi p.1 q.1/\bi p.2 q.2
noncomputable def Ou(X:Cx)(pos:Pos)(keys:List (Option Expr))(values:List Expr)(trs:List (TE×TE)):Prop:=
 ∀(pins:List (Addr×Obj))(s:Shared)(σ:St)(H:Hp)(Q:List (V×V)->Hp->Prop),aJ X pins σ H s->uX trs σ H Q->
  wpAny (model X.prog X.w) X.A (evalPairs (pairTrees keys values X.env pos)) (λvs s'=>∃ps H',aJ X pins σ H' s'/\VV ps vs/\Q ps H') X.xe s
theorem Qu:Ou X pos [] [] []:=λpins s σ H Q I h=>pairTrees_nil_walk ⟨[],H,I,.nil,h⟩
theorem OR(hk:PE X k tk)(hv:PE X v tv)(hr:Ou X pos ks vs trs):
 Ou X pos (some k::ks) (v::vs) ((tk,tv)::trs):=λpins s σ H Q I h=>
 pairTrees_cons_walk (bQ (hk _ s σ H _ I h) λu s1 ⟨x,H1,I1,rx,q1⟩=>bQ (hv _ s1 σ H1 _ I1 q1) λw2 s2 ⟨y,H2,I2,ry,q2⟩=>
  bQ (hr _ s2 σ H2 _ I2 q2) λws s3 ⟨ps,H3,I3,rel,q3⟩=>⟨(x,y)::ps,H3,I3,.cons ⟨rx,ry⟩ rel,q3⟩)
noncomputable def il(kvs more:List (bD×V)):List (bD×V):=more.foldl (λacc kv=>ke acc kv.1 kv.2) kvs
theorem KV.merge:∀{more:List (bD×V)}{rs:List (bD×Value)}{kvs:List (bD×V)}{vs:List (bD×Value)},KV more rs->KV kvs vs->KV (il kvs more) (merged vs rs):=by
 intro more rs kvs vs r;induction r generalizing kvs vs with
 | nil=>intro q;exact q
 | @cons p q ps qs h t ih=>
  intro r0;have e:KV (ke kvs p.1 p.2) (stored vs q.1 q.2):=by
   have:=r0.put p.1 h.2
   simp_all
  exact ih e
theorem kG:∀(more kvs:List (bD×V)),(il kvs more).length<=kvs.length+more.length
 | [],kvs=>by show kvs.length<=kvs.length+0;omega
 | p::r,kvs=>by
  have h1:=kG r (ke kvs p.1 p.2);have h2:=jT kvs p.1 p.2;show(il _ r).length<=_
  grind
theorem qL:∀{kvs:List (bD×V)}{ws:List (Value×Value)},VV (kvs.map λkv=>(kV kv.1,kv.2)) ws->∃rs,Carries (bd P w) ws rs/\KV kvs rs
 | [],_,r=>by cases r;exact⟨[],True.intro,.nil⟩
 | p::kvs,_,r=>by
  cases r with
  | @cons a b as bs h t=>
   obtain⟨rs,c,q⟩:=qL   t;obtain⟨b1,b2⟩:=b;exact⟨(p.1,b2)::rs,⟨qv h.1,rfl,c⟩,.cons ⟨rfl,h.2⟩ q⟩
noncomputable def J0(trs:List (TE×TE)):TE:=λσ H Q=>∀p,H p=none->uX trs σ (cx H p (.dK [])) λps H2=>H2 p=some (.dK [])/\∃kvs:List (bD×V),ps=kvs.map (λkv=>(kV kv.1,kv.2))/\kvs.length<=15/\Q (.ref p) (cx H2 p (.dK (il [] kvs)))
structure M1(X:Cx)(o:Expr)(m:Str)(apos:Pos)(e:Expr)(cpos:Pos):Prop where
 base:attributeBase o m X.env (eval o X.env)=eval o X.env
 few:((backTo cpos (starEach [e] X.env)).all (λx=>!x.1)&&(backToKw cpos (keywordEach [] X.env)).all (λx=>x.1.isSome)
  && decide (([e]:List Expr).length+([]:List Keyword).length+(if([]:List Keyword).isEmpty then 0 else 1)<30))=true
 line:(apos.endLine==cpos.line)=true
 trees:backTo cpos (starEach [e] X.env)=[(false,eval e X.env)]
structure M2(X:Cx)(o:Expr)(m:Str)(apos:Pos)(e f:Expr)(cpos:Pos):Prop where
 base:attributeBase o m X.env (eval o X.env)=eval o X.env
 few:((backTo cpos (starEach [e,f] X.env)).all (λx=>!x.1)&&(backToKw cpos (keywordEach [] X.env)).all (λx=>x.1.isSome)
  && decide (([e,f]:List Expr).length+([]:List Keyword).length+(if([]:List Keyword).isEmpty then 0 else 1)<30))=true
 line:(apos.endLine==cpos.line)=true
 trees:backTo cpos (starEach [e,f] X.env)=[(false,eval e X.env),(false,eval f X.env)]
noncomputable def Tq(H:Hp)(a:Addr):Prop:=(∃kvs,Rd H a (.dK kvs))∨∃kvs,Rd H a (.dT kvs)
theorem Mm{σ:St}(I:aJ X pins σ H s)(d:Tq H a):
 s.TypeIs (.ref a) "dict" /\ (∀b,Value.ref a=.ref b->∃ob,s.heap.get? b=some ob/\ob.dict=none)/\(a==sysModules)=false:=by
 rcases d with⟨kvs,e⟩ | ⟨kvs,e⟩
 . obtain⟨_,hd,vs,_,dd⟩:=pb I.hok e;refine⟨dd.typeIs,λb q=>?_,hd⟩;cases q;obtain⟨ob,_,_,h1,h2,_⟩:=dd;exact⟨ob,h1,h2.2.1⟩
 . obtain⟨_,hd,xs,_,dd⟩:=si I.hok e;refine⟨dd.typeIs,λb q=>?_,hd⟩;cases q;obtain⟨ob,_,_,h1,h2,_⟩:=dd;exact⟨ob,h1,h2.2.1⟩
section
variable{X:Cx}{pins:List (Addr×Obj)}{σ:St}{H:Hp}{s:Shared}{a:Addr}{y d:V}{u r:Value}{o:Option V}{A:Around}{E:Value->Shared->Prop}
theorem LR(hu:A.units+1<cLine)(I:aJ X pins σ H s)(g:kE H a y o)(ry:bi y u)(h:∀w' s',aJ X pins σ H s'->bi (o.getD .non) w'->Q w' s'):
 wpAny (model X.prog X.w) A (call (.builtin "dict.get") [.ref a,u]) Q E s:=by
 rcases g with⟨kvs,k,e,ey,l⟩ | ⟨kvs,k,b,e,ey,eb,l⟩
 . subst ey;obtain⟨z,hd,vs,rel,dd⟩:=pb I.hok e;refine call_meetsIn VZ dd.typeIs PySem.F.entry_dict_get (PySem.F.args_dict_get_2 _ _) (meets_dict_get _ a (qv ry) hd) ⟨_,dd.mapOf,h _ _ (I.tok _) ?_⟩;rw[l];exact(rel.val k).getD rfl
 . subst ey;cases show u=Value.ref b from ry
   obtain⟨z,hd,xs,rel,dd⟩:=si I.hok e;refine call_meetsIn VZ dd.typeIs PySem.F.entry_dict_get (PySem.F.args_dict_get_2 _ _) (meetsH_dict_get _ a b hd) ⟨Vw hu,k,xs,oj I.hok eb,dd,h _ _ (I.tok _) ?_⟩;rw[l];exact(rel.val k).getD rfl
end
noncomputable def Fh(td ty:TE):TE:=λσ H Q=>td σ H λx H1=>∃a,x=.ref a/\Tq H1 a/\ty σ H1 λy H2=>∃o,kE H2 a y o/\Q (o.getD .non) H2
section
variable{X:Cx}{o e f:Expr}{apos cpos:Pos}{td ty tx:TE}
theorem O1(hu:X.A.units+1<cLine)(ho:PE X o td)(he:PE X e ty)(m:M1 X o "get" apos e cpos):PE X (.Call (.Attribute o "get" apos) [e] [] cpos) (Fh td ty):=by
 intro pins s σ H Q I h;refine wpAny_Call_method m.base m.few m.line PySem.F.plainAttrs_dict VZ PySem.F.type_dict_get (bQ (ho _ s σ H _ I h) λu s1 hq0=>?_);obtain⟨x,H1,I1,rx,a,ex,d,q1⟩:=hq0;subst ex;obtain rfl:u=Value.ref a:=rx;obtain⟨t1,t2,_⟩:=Mm I1 d;refine⟨t1,t2,?_⟩;rw[m.trees];refine Calls.callWith_builtin rfl (Calls.evalArgs_plain (Calls.spliced_cons (bQ (he _ s1 σ H1 _ I1 q1) λiv s2 hy0=>?_)));obtain⟨y,H2,I2,ry,ov,g,q2⟩:=hy0;refine Calls.spliced_nil ?_;exact LR hu I2 g ry λw' s3 I3 rw'=>⟨_,H2,I3,rw',q2⟩
end
section
variable{X:Cx}{pins:List (Addr×Obj)}{σ:St}{H:Hp}{s:Shared}{a:Addr}{kvs:List (bD×V)}{A:Around}{E:Value->Shared->Prop}
end
section
variable{X:Cx}{pins:List (Addr×Obj)}{σ:St}{H:Hp}{s:Shared}{a:Addr}{y:V}{u:Value}{A:Around}{E:Value->Shared->Prop}
end
end L2
namespace L2
open PySem PySem.Spec PyProof.Rows
open PySem.W (Frag)
section
variable{X:Cx}
theorem AE:bV X (.builtin "len") (λxs H Q=>∃a kvs,xs=[V.ref a]/\H a=some (.dK kvs)/\Q (.int kvs.length) H):=by
 intro pins s σ H xs us Q I r h;obtain⟨a,kvs,rfl,ha,q⟩:=h;obtain⟨u,rfl,ru⟩:=jE r;cases ru;exact PZ I (.inl ha) λt s' I'=>⟨.int _,H,I',⟨t,rfl⟩,q⟩
end
section
variable{κ:Type}[DecidableEq κ]
end
noncomputable def TU(z:Str):Prop:=z.cps.all (· < 128)=true
noncomputable def SZ(z:Str):It:=⟨λi _=>i<z.cps.size,λi H x H'=>H'=H/\∃c,z.cps[i]?=some c/\x=.str ⟨#[c]⟩,λi _=>z.cps.size<=i⟩
theorem Cd{K:Frag}(it:Addr)(z:Str)(tk:Tok):yr P w K tg (SZ z) [it] it (λi h=>h.IsStrIter it "str_ascii_iterator" z tk i) where
 mem:=by simp
 obj:=λi h st b hb=>by
  have e  := by simpa using hb
  subst e;obtain⟨o,e,c,d⟩:=st
  simp_all
 keep:=λi h h' st k=>by
  obtain⟨o,e,r⟩:=st;exact⟨o,k it (by simp) o e,r⟩
 item:=by
  intro X hP hw hK hc i pins s σ H E I hf st hg;obtain⟨f0,f1,f2,f3,f4,f5⟩:=hf it (by simp);have hlt:i<z.cps.size:=hg;refine wpAny_pyNext_ascii_item st (c:=z.cps[i]) (by simp[hlt]) λh' st' sb=>?_;have I1:aJ X _ σ H { s with heap:=h',toks:=s.toks+1 }:=I.turned (λb o hb e=>(sb.2 b hb).trans e) f0 f1 f3 f4 f5;obtain⟨o,e,c,d⟩:=id st';exact⟨_,rfl,Av  e c d (by decide) ⟨.str _,H,I1,⟨_,rfl⟩,⟨rfl,z.cps[i],by simp[hlt],rfl⟩,st',λb hb=>(hf b hb).1⟩⟩
 done:=by
  intro X hP hw hK hc i pins s σ H E I hf st hg;obtain⟨f0,f1,f2,f3,f4,f5⟩:=hf it (by simp);have hle:z.cps.size<=i:=hg;exact wpAny_pyNext_ascii_end (I.ok.hd hc) st (by simp[hle]) λh' eb=>⟨rfl,I.turned (t':=s.toks) (λb o hb e=>eb b o hb e) f0 f1 f3 f4 f5⟩
 self:=λ_ _ _ _ _ st h=>wpAny_pyIter_striter_ascii st h
noncomputable def Oo(tl:TE):TI:=λσ H R=>tl σ H λx H1=>∃z,x=.str z/\TU z/\R (SZ z) H1
theorem Sj{tg l:Expr}{tl:TE}(hl:PE X l tl):PI X tg l (Oo tl):=by
 intro pins s σ H R I h;refine bQ (hl _ s σ H _ I h) λv s1 hq0=>?_;obtain⟨x,H1,I1,r1,z,e,ha,q⟩:=hq0;subst e;obtain⟨t,rfl⟩:=r1;refine wpAny_pyIter_ascii ha ?_;refine⟨s1.heap.objs.size,[s1.heap.objs.size],_,_,H1,rfl,I1.kept  λb o e=>Uc _ e,Cd _ z t,⟨_,Uv _ rfl,rfl,rfl⟩,λb hb=>?_,q⟩;have e  := by simpa using hb
 subst e;exact I1.fpOk (Ug _) (I1.hok.fresh (Ug _))
section
variable{z:Str}{wi:TI}{g:TG}{tb:TS}{D:oi}{σ:St}{H H1:Hp}{ix:List (Option Nat)}{tc:TT}{te:TE}{Q:VK}
end
theorem RV:I9 X (λx lo hi H Q=>∃z,x=.str z/\z.length<=sizeLine/\Q (.str (Txt.slice z lo hi)) H):=by
 intro pins s σ H x v vl vu lo hi sl Q I rx hs pl pu h;obtain⟨z,rfl,hz,q⟩:=h;obtain⟨t,rfl⟩:=rx;have part:∀{v:Value}{o:Option _},IsPart v o->∃p:Option _,v=partValue p/\o=p.map (·.1):=λ{v o} p=>by
  cases p with
  | none=>exact⟨none,rfl,rfl⟩
  | int i t=>exact⟨some (i,t),rfl,rfl⟩
 obtain⟨p1,rfl,rfl⟩:=part pl;obtain⟨p2,rfl,rfl⟩:=part pu;refine⟨"str", _,F.slot_str_getitem.lookup,V7 _ _ _,wpAny_getItem_str_slice   (st:=none) hs rfl ?_⟩;refine post_val_or_str ⟨UF (Txt.slice_le z _ _) hz,λt' k=>⟨.str _,H,I.tok k,⟨t',rfl⟩,q⟩⟩
section
variable{X:Cx}
theorem xg{its:Array Value}{bs:List Bool}(r:aV (bs.map V.bl) its.toList):TruthOf P w A (λi v=>its[i]?=some v) λi=>bs.getD i false:=by
 intro i v s Q E hv hQ;have hv':its.toList[i]?=some v:=by grind
 have hlen:=r.length;have hi:i<bs.length:=by
  grind
 have hb:(bs.map V.bl)[i]?=some (V.bl bs[i]):=by simp_all
 obtain⟨u,hu,ru⟩:=r.get hb;rw[hv']at hu;cases hu;cases ru;refine UP ?_
 simp_all
theorem BI(bs:List Bool):(List.range bs.length).all (λi=>bs.getD i false)=bs.all id:=by
 rw[Bool.eq_iff_iff,UI,UI];constructor
 . intro h b hb;obtain⟨i,hi,rfl⟩:=VF.mp hb
   simp_all
 . intro h i hi;have hi':=List.mem_range.mp hi;have:=h _ (Vs hi')
   simp_all
theorem call_all'(hc:X.calm=true):bV X (.builtin "all") (λxs H Q=>∃(a:Addr) (bs:List Bool),xs=[.ref a]/\c8 X.K H a (bs.map V.bl)/\Q (.bl (bs.all id)) H):=by
 intro pins s σ H xs us Q I r h;obtain⟨a,bs,rfl,hq,q⟩:=h;obtain⟨u,rfl,ru⟩:=jE r;cases ru;obtain⟨its,rv,pl,_⟩:=I.list hq;refine call_all_walk (Vo pl.isList ?_);have hne:a≠s.heap.objs.size:=by
  obtain⟨o,n,e,_⟩:=pl;exact Uy (Um e)
 refine⟨s.heap.objs.size,_,_,_,_,_,_,rfl,Walks.list  (show X.A.in1.handled=none from I.ok.hd hc) _ a hne _,⟨⟨_,Uv _ rfl,rfl,rfl⟩,pl.isList.push _⟩,xg  (by omega),λh' tk k=>?_⟩;have hsz:its.toArray.size=bs.length:=by rw[UG,<-rv.length,Uj]
 rw[hsz,BI];exact⟨.bl _,H,I.kept λb o e=>k b o (by
  simp only[Ub,U6,Wb];exact Uy (Um e)) (Uc _ e),rfl,q⟩
end
section
variable{X:Cx}
noncomputable def Jy(i j:Int):Prop:=i.natAbs<2^512/\j.natAbs<2^512
theorem Ic:gz X (binaryOp .Mult) (rI Jy λi j=>.int (i*j)):=QC λ_ _ _ _ _ _ _ hc q=>mul_int q (IntMulOk.of_le (PySem.intBits_le_iff.mpr hc.1) (PySem.intBits_le_iff.mpr hc.2) (by decide))
theorem B3:gz X (compareOp .LtE) (λx y H Q=>∃i j,x=.str i/\y=.str j/\Q (.bl (!(decide (j.cps.toList<i.cps.toList)))) H):=by
 intro pins s σ H x y v u Q I rx ry h;obtain⟨i,j,rfl,rfl,q⟩:=h;obtain⟨t,rfl⟩:=rx;obtain⟨t',rfl⟩:=ry;exact PySem.P.le_str (br I q rfl)
theorem A8:bV X (.builtin "isinstance") (λxs H Q=>∃(a:Addr) (ys:List V) (T:String) (k:Bool),xs=[.ref a,.ty T]/\fj X.K H a ys/\PySem.W.kitOne X.K (.type "tuple") (.type T)=some k/\Q (.bl k) H):=by
 intro pins s σ H xs us Q I r h;obtain⟨a,ys,T,k,rfl,ha,hk,q⟩:=h;cases r with
 | cons r rr=>
  cases rr with
  | cons r' rr=>
   cases rr;cases r;cases r';obtain⟨its,_,⟨o,e,c,_⟩,_⟩:=I.tuple ha;exact PySem.W.kia_one PySem.W.kitx_tuple I.kIn ⟨o,e,c⟩ hk (by simp_all) λtk=>⟨.bl k,H,I.tok tk,rfl,q⟩
theorem AL:bV X (.builtin "isinstance") (λxs H Q=>∃(a:Addr) (ys:List V) (T:String) (k:Bool),xs=[.ref a,.ty T]/\c8 X.K H a ys/\PySem.W.kitOne X.K (.type "list") (.type T)=some k/\Q (.bl k) H):=by
 intro pins s σ H xs us Q I r h;obtain⟨a,ys,T,k,rfl,ha,hk,q⟩:=h;cases r with
 | cons r rr=>
  cases rr with
  | cons r' rr=>
   cases rr;cases r;cases r';obtain⟨its,_,⟨o,n,e,c,_⟩,_⟩:=I.list ha;exact PySem.W.kia_one PySem.W.kitx_list I.kIn ⟨o,e,c⟩ hk (by simp_all) λtk=>⟨.bl k,H,I.tok tk,rfl,q⟩
end
section
variable{X:Cx}{K:Frag}
theorem QF(h:X.K=K):BR X (QH K):=h▸Lr
theorem EN(h:X.K=K):I9 X (PU K):=h▸Gn
theorem Hy(h:X.K=K):I9 X (OD K):=h▸MF
theorem LC(h:X.K=K):gz X (compareOp .In) (zt K false):=h▸A6
theorem FF(h:X.K=K):gz X (compareOp .NotIn) (zt K true):=h▸vE
noncomputable def OB(K:Frag):List V->Hp->VK->Prop:=λxs H Q=>∃p ys,xs=[.ref p]/\(c8 K H p ys∨fj K H p ys)/\Q (.int ys.length) H
theorem sJ(h:X.K=K):bV X (.builtin "len") (OB K):=h▸uA
noncomputable def IR:List V->Hp->VK->Prop:=λxs H Q=>∃z,xs=[.str z]/\z.length<=sizeLine/\Q (.int z.length) H
theorem sQ:bV X (.builtin "len") IR:=vm
noncomputable def Jc(K:Frag):List V->Hp->VK->Prop:=λxs H Q=>∃(a:Addr) (ys:List V) (T:String) (k:Bool),xs=[.ref a,.ty T]/\fj K H a ys/\PySem.W.kitOne K (.type "tuple") (.type T)=some k/\Q (.bl k) H
theorem yP(h:X.K=K):bV X (.builtin "isinstance") (Jc K):=h▸A8
noncomputable def IU(K:Frag):List V->Hp->VK->Prop:=λxs H Q=>∃(a:Addr) (ys:List V) (T:String) (k:Bool),xs=[.ref a,.ty T]/\c8 K H a ys/\PySem.W.kitOne K (.type "list") (.type T)=some k/\Q (.bl k) H
theorem xH(h:X.K=K):bV X (.builtin "isinstance") (IU K):=h▸AL
noncomputable def Hh:List V->Hp->VK->Prop:=λxs H Q=>∃v T k,xs=[v,.ty T]/\F3 v T=some k/\Q (.bl k) H
theorem tq:bV X (.builtin "isinstance") Hh:=Ca
noncomputable def uB(K:Frag):List V->Hp->VK->Prop:=λxs H Q=>∃p ys,xs=[.ref p]/\(c8 K H p ys∨fj K H p ys)/\∀l,H l=none->Q (.ref l) (cx H l (.lst ys))
theorem sM(h:X.K=K):bV X (.type "list") (uB K):=h▸uy
noncomputable def Mv(K:Frag):List V->Hp->VK->Prop:=λxs H Q=>∃(a:Addr) (bs:List Bool),xs=[.ref a]/\c8 K H a (bs.map V.bl)/\Q (.bl (bs.all id)) H
theorem AR(h:X.K=K)(hc:X.calm=true):bV X (.builtin "all") (Mv K):=h▸call_all' hc
theorem Q5{pos:Pos}{k:Nat}(h:X.K=K)(hc:X.calm=true)(hh:N1 X es t)
 (hn:(assignEach es X.env).length=n) (hst:(assignEach es X.env).findIdx? (·.1)=none):PG X (.Tuple es k pos) (M6 K n t):=h▸KM hc hh hn hst
theorem Qg(h:X.K=K)(hg:Gl X "enumerate")(hm:X.mg "enumerate" = none)(ha:PA X [a] ta)(hs:starEach [a] X.env=[(false,eval a X.env)]):
 PI X (.Tuple elts x1 tpos) (.Call (.Name "enumerate" p) [a] [] pos) (CJ K ta):=h▸HN hg hm ha hs
variable{o e:Expr}{es:List Expr}{to:TE}{t:TA}{name:Str}{apos cpos:Pos}{T id:String}{r:V->List V->Hp->VK->Prop}
theorem GC(h:X.K=K)(pa:PlainAttrs T)(slot:Slot T name id)(hty:typeOf (.builtin id)=pure (.type "method_descriptor"))(hm:JE X id r)(ho:PE X o to)
 (hbase:attributeBase o name X.env (eval o X.env)=eval o X.env:=by rfl) (hline:(apos.endLine==cpos.line)=true:=by rfl):PE X (.Call (.Attribute o name apos) [] [] cpos) (Hi K T r to):=h▸Kv pa slot hty hm ho hbase hline
theorem LK(h:X.K=K)(pa:PlainAttrs T)(slot:Slot T name id)(hty:typeOf (.builtin id)=pure (.type "method_descriptor"))(hm:JE X id r)(ho:PE X o to)(ha:PA X (e::es) t)
 (hbase:attributeBase o name X.env (eval o X.env)=eval o X.env:=by rfl)
 (hfew:((backTo cpos (starEach (e::es) X.env)).all (λx=>!x.1)&&(backToKw cpos (keywordEach [] X.env)).all (λx=>x.1.isSome)
  && decide ((e::es).length+([]:List Keyword).length+(if([]:List Keyword).isEmpty then 0 else 1)<30))=true:=by rfl)
 (hline:(apos.endLine==cpos.line)=true:=by rfl) (hs:starEach (e::es) X.env=(false,eval e X.env)::starEach es X.env:=by rfl) (hplain:(backTo cpos (starEach es X.env)).any (·.1)=false:=by rfl):
 PE X (.Call (.Attribute o name apos) (e::es) [] cpos) (F4 K T r to t):=h▸OS pa slot hty hm ho ha hbase hfew hline hs hplain
end
theorem jH(h:H p=none)(o:HO):bm H (cx H p o):=λb u q=>by rw[aE (bK q h)];exact q
theorem bm.tup{K:Frag}(g:bm H H')(q:fj K H a xs):fj K H' a xs:=by
 rcases q with(h | ⟨o,h⟩) | h
 . exact .inl (.inl (g _ _ h))
 . exact .inl (.inr ⟨o,g _ _ h⟩)
 . exact .inr h
noncomputable def Nw(H H':Hp)(p:Addr)(o:HO):Prop:=bm H H'/\H p=none/\H' p=some o
theorem Nw.of(h:H p=none):Nw H (cx H p o) p o:=⟨jH h o,h,aC⟩
noncomputable def Fb(t:TA):TE:=λσ H Q=>t σ H λxs H1=>xs.length<=sizeLine/\∀p H',Nw H1 H' p (.tup xs)->Q (.ref p) H'
noncomputable def zO(t:TA):TE:=λσ H Q=>t σ H λxs H1=>xs.length<=sizeLine/\∀p H',Nw H1 H' p (.lst xs)->Q (.ref p) H'
section
variable{X:Cx}{K:Frag}{es:List Expr}{t:TA}{pos:Pos}
theorem QL(h:PA X es t):PE X (.Tuple es x1 pos) (Fb t):=λpins s σ H Q I hq=>wpAny_Tuple_spliced (bQ (h _ _ s σ H _ I hq) λus s1 ⟨xs,H1,I1,r,z,q⟩=>⟨by rw[<-r.length];exact z,
 .ref _,_,I1.laid  (o:=.tup xs) (λb u e=>Uc _ e) (Ug _) ⟨z,us,r,⟨_,Uv _ rfl,rfl,_,rfl⟩⟩,rfl,q _ _ (.of (I1.hok.fresh (Ug _)))⟩)
theorem Qy(h:PA X es t):PE X (.List es pos) (zO t):=λpins s σ H Q I hq=>wpAny_List_spliced (bQ (h _ _ s σ H _ I hq) λus s1 ⟨xs,H1,I1,r,z,q⟩=>⟨by rw[<-r.length];exact z,
 .ref _,_,I1.laid  (o:=.lst xs) (λb u e=>Uc _ e) (Ug _) ⟨z,us,0,r,Uv _ rfl⟩,rfl,q _ _ (.of (I1.hok.fresh (Ug _)))⟩)
noncomputable def Ds(K:Frag):V->Option Int->Option Int->Hp->VK->Prop:=λx lo hi H Q=>∃a xs,x=.ref a/\c8 K H a xs/\∀p H',Nw H H' p (.lst (wX xs lo hi))->Q (.ref p) H'
theorem OL(h:X.K=K):I9 X (Ds K):=λpins s σ H x v vl vu lo hi sl Q I rx hs pl pu hy0=>by obtain⟨a,xs,e,q,r⟩:=hy0;exact EN h _ s σ H x v vl vu lo hi sl Q I rx hs pl pu ⟨a,xs,e,q,λp hp=>r p _ (.of hp)⟩
noncomputable def Jl(K:Frag):V->Option Int->Option Int->Hp->VK->Prop:=λx lo hi H Q=>∃a xs,x=.ref a/\fj K H a xs/\
 ((HT.sIx xs.length 0 lo=0/\HT.sIx xs.length xs.length hi=xs.length/\Q (.ref a) H)∨(¬ (HT.sIx xs.length 0 lo=0/\HT.sIx xs.length xs.length hi=xs.length)/\∀p H',Nw H H' p (.tup (wX xs lo hi))->Q (.ref p) H'))
theorem AY{lo hi:Option Int}(ht:IsTup s.heap a its)(hs:s.heap.IsSliceOf sl vl vu .none)(pl:IsPart vl lo)(pu:IsPart vu hi)
 (h1:HT.sIx its.size 0 lo=0) (h2:HT.sIx its.size its.size hi=its.size) (h:Q (.ref a) s):wpAny (model prog w) A (getItem (.ref a) (.ref sl)) Q E s:=by
 obtain⟨os,hos,hcs,hds⟩:=id hs;unfold getItem;try with_reducible refine UQ ?_
 refine Uf (wpAny_sequenceKey ht.typeIs (by decide) (Uf (wpAny_callSpecial?_slot  ht.typeIs U4 (wpAny_call_entry U4 ht.typeIs entry_tuple_getitem ?_ (args_tuple_getitem _ _)))));show wpAny _ _ (Builtin.Tuple.tupleItemsOf _ >>= _) _ _ s;refine Uf (PyProof.Rows.tupleItemsOf_ ht (Uf (wpAny_typeOf (show s.TypeIs _ _ from⟨os,hos,hcs⟩) ?_)));refine Uf (HT.sliceApplied_gen hs pl pu ?_);have yes:((HT.sIx its.size 0 lo:Int)==0&&(1:Int)==1&&HT.sIx its.size its.size hi-HT.sIx its.size 0 lo==its.size)=true:=by
  simp_all
 show wpAny _ _ (if((HT.sIx _ 0 lo:Int)==0&&1==1&&HT.sIx _ _ hi-HT.sIx _ 0 lo==its.size)=true then _ else _) _ _ s;rw[Ul yes];refine Uf ?_;refine Uf (wpAny_typeOf ht.typeIs (Ut ?_));exact Uf (wpAny_rule (Ut ⟨_,rfl,Ut h⟩))
theorem Qz(h:X.K=K):I9 X (Jl K):=by
 intro pins s σ H x v vl vu lo hi sl Q I rx hs pl pu q;obtain⟨a,xs,e,hx,q | q⟩:=q
 . subst h e;cases rx;obtain⟨its,r,ht,hz⟩:=I.tuple hx;have hlen:its.toArray.size=xs.length:=by exact r.length.symm
   exact⟨"tuple", _,U4.lookup,ht.typeIs,AY ht hs pl pu (by simp_all) (by simp_all) ⟨.ref a,H,I,rfl,q.2.2⟩⟩
 . exact Hy h _ s σ H x v vl vu lo hi sl Q I rx hs pl pu ⟨a,xs,e,hx,q.1,λp hp=>q.2 p _ (.of hp)⟩
end
section
variable{X:Cx}{K:Frag}
noncomputable def RW:V->List V->Hp->VK->Prop:=λx xs H Q=>∃z y,x=.str z/\xs=[.str y]/\Q (.bl (Txt.startswith z y)) H
theorem sH:JE X "str.startswith" RW:=by
 intro pins s σ H x xs v us Q I rx rs ⟨z,y,e1,e2,q⟩;subst e1 e2;obtain⟨t,rfl⟩:=rx;obtain⟨u,rfl,t',rfl⟩:=aV.one rs;exact SC.startswith ⟨.bl _,H,I,rfl,q⟩
noncomputable def FD:List V->Hp->VK->Prop:=λxs H Q=>∃z n,xs=[.str z]/\PySem.intText? z=some n/\z.length<=640/\Q (.int n) H
theorem vf:bV X (.type "int") FD:=by
 intro pins s σ H xs us Q I r ⟨z,n,e,hn,hl,q⟩;subst e;obtain⟨u,rfl,t,rfl⟩:=aV.one r;exact PySem.W.KIN.call_text hn hl ⟨.int n,H,I.tok _,⟨_,rfl⟩,q⟩
theorem QS{pos tpos:Pos}(he:PE X e te)(ho:PE X o to)(hi:PE X i ti)
 (ha:∀v,assign (.Subscript o i tpos) X.env v=(do
  let ov <-holding [v] (eval o X.env);let iv <-holding [v,ov] (eval i X.env)
  standAt tpos
  holding [v,ov,iv] (setItem ov iv v)
  release [v,ov,iv] [])) (hs:swapsWithSole [.Subscript o i tpos] e pos.line X.env=pure false) (hw:swappedStores [.Subscript o i tpos] e X.env=pure none):PS X (.Assign [.Subscript o i tpos] e pos) (r9 te (MT to ti Cy)):=KE he (LU ho hi EV ha) hs hw
end
theorem zL{a b:Str}(h:a.cps.toList=b.cps.toList):a=b:=by
 cases a;simp_all
theorem len_list(z:Str):z.cps.toList.length=z.length:=by rfl
noncomputable def zE:Value->Option Str
 | .str x _=>some x
 | _=>none
noncomputable def Ix(us:List Value)(ws:List Str):Bool:=decide (us.map zE=ws.map some)
theorem AH(h:zE u=some y):bi (.str y) u:=by
 unfold zE at h;split at h
 . cases h;exact⟨_,rfl⟩
 . cases h
theorem mD:∀{us:List Value}{ws:List Str},us.map zE=ws.map some->aV (ws.map V.str) us
 | [],[],_=>.nil
 | u::r,y::s,h=>by
  simp only[Uk,Vc]at h;exact .cons (AH h.1) (mD h.2)
 | [],_::_,h=>by simp at h
 | _::_,[],h=>by simp at h
noncomputable def l7(o:Obj)(ws:List Str):Bool:=match o.data with
 | .seq its _=>Ix its.toList ws&&decide (its.size<=1000)
 | _=>false
theorem kx{K:Frag}(h:K.lookup a=some o)(hc:o.cls=.type "tuple")(ht:l7 o ws=true):fj K H a (ws.map V.str):=by
 unfold l7 at ht;split at ht
 . rename_i its n e;rw[Uz]at ht;exact .inr ⟨o,its,n,h,hc,e,Ve (BA (by simp_all)),mD (UN ht.1)⟩
 . cases ht
section
variable{K:Frag}{x D:Addr}{prog:Program}{w:World}{A:Around}{E:Value->Shared->Prop}{s:Shared}
end
section
variable{X:Cx}{K:Frag}
end
section
variable{P:Program}{w:World}{A:Around}{E:Value->Shared->Prop}{s:Shared}
end
theorem qB:∀l:List (Str×Tok),aV ((l.map (·.1)).map V.str) (strValues l)
 | []=>.nil
 | p::r=>.cons ⟨p.2,rfl⟩ (qB r)
theorem ul:∀{ws:List Str}{us:List Value},aV (ws.map V.str) us->∃l:List (Str×Tok),us=strValues l/\l.map (·.1)=ws
 | [],_,.nil=>⟨[],rfl,rfl⟩
 | w::r,_,.cons h t=>by
  obtain⟨tk,rfl⟩:=h;obtain⟨l,rfl,e⟩:=ul t;exact⟨(w,tk)::l,rfl,by simp_all⟩
section
variable{X:Cx}{K:Frag}
noncomputable def yd:V->List V->Hp->VK->Prop:=λx xs H Q=>∃z y,x=.str z/\xs=[.str y]/\y.length≠0/\z.length<=100000/\∀p H',Nw H H' p (.lst ((Txt.split z y).map V.str))->Q (.ref p) H'
theorem Db:JE X "str.split" yd:=by
 intro pins s σ H x xs v us Q I rx rs ⟨z,y,e1,e2,hy,hz,q⟩;subst e1 e2;obtain⟨t,rfl⟩:=rx;obtain⟨u,rfl,t',rfl⟩:=aV.one rs;have hy':(y.length==0)=false:=by grind
 have lay:∀(l:List _) k,l.map _=Txt.split z y->wants (EP X _ σ Q) X.xe (.ok (.ret _)) { s with heap:=s.heap.push _,toks:=k }:=λl k e=>by
  have hl:(Txt.split z y).length<=sizeLine:=UF (split_le z y) (by have  := VD;omega);refine⟨.ref _,_,I.lnew   (e▸qB l) (by simp_all),rfl,q _ _ (.of I.fresh)⟩
 cases c:decide (z.length<y.length)||decide (Builtin.Str.strKind z<Builtin.Str.strKind y) with
 | true=>exact Vu F.slot_str_split (V7 _ _ _) F.entry_str_split (F.args_str_split_2 _ _) (meets_str_split_cannot_occur z y t t' c) (lay [(z,t)] _ (by unfold Txt.split;simp_all))
 | false=>
  have c':¬ (decide (z.length<y.length)||decide (Builtin.Str.strKind z<Builtin.Str.strKind y))=true:=by rw[c];decide
  cases f:(Builtin.Str.occurrences z y 0 z.length (z.length+1)).isEmpty with
  | true=>exact Vu F.slot_str_split (V7 _ _ _) F.entry_str_split (F.args_str_split_2 _ _) (meets_str_split_not_found z y t t' c hy' f) (lay [(z,t)] s.toks (by unfold Txt.split;rw[UE c',Ul f];rfl))
  | false=>
   have f':¬ (Builtin.Str.occurrences z y 0 z.length (z.length+1)).isEmpty=true:=by rw[f];decide
   have e:Txt.split z y=Builtin.Str.partsBetween z (Builtin.Str.occurrences z y 0 z.length (z.length+1)) y.length:=by unfold Txt.split;rw[UE c',UE f']
   have sl:sizeLine=16777216:=VD;refine Vu F.slot_str_split (V7 _ _ _) F.entry_str_split (F.args_str_split_2 _ _) (meets_str_split_sep z y t t' c hy' f (by omega) (by rw[<-e];exact UF (split_le z y) (by omega))) ?_;have h:=lay (numbered s.toks (Txt.split z y)) (s.toks+(Txt.split z y).length) (numbered_texts _ _);rw[<-strsFrom_eq,e]at h;exact h
noncomputable def Cn(K:Frag):V->List V->Hp->VK->Prop:=λx xs H Q=>∃z a ws,x=.str z/\xs=[.ref a]/\c8 K H a (ws.map V.str)/\JoinOk z ws=true/\Q (.str (Txt.join z ws)) H
theorem Iz(h:X.K=K):JE X "str.join" (Cn K):=by
 intro pins s σ H x xs v us Q I rx rs ⟨z,a,ws,e1,e2,hs,hj,q⟩;subst h e1 e2;obtain⟨t,rfl⟩:=rx;obtain⟨u,rfl,ru⟩:=aV.one rs;cases ru;obtain⟨its,rv,pl,_⟩:=I.list hs;obtain⟨l,rfl,e⟩:=ul rv;exact SC.join pl.isList e hj λt2 k=>⟨.str _,H,I.tok k,⟨t2,rfl⟩,q⟩
end
section
variable{K:Frag}{a b:Addr}{xs ys:List V}{wi:TI}{g:TG}{σ:St}{H H1:Hp}{ix:List (Option Nat)}{tc:TT}{te:TE}{Q:VK}
end
theorem zR(y:Str)(ws:List Str):Txt.join y ws=Str.join y ws:=by
 cases ws with
 | nil=>rfl
 | cons x r=>exact StrLaws.glued_cons y r x
section
variable{K:Frag}{a:Addr}{xs:List V}{wi:TI}{g:TG}{σ:St}{H H1:Hp}{ix:List (Option Nat)}{tc:TT}{te:TE}{Q:VK}
end
inductive W where
 | none | bool (b:Bool) | int (i:Int) | str (x:Str) | list (ds:List W) | tuple (ds:List W) | ref (n:Nat) | fn (n:Str)
mutual
inductive Dw(K:Frag)(ρ:List Addr)(H:Hp):V->W->Prop
 | non:Dw K ρ H .non .none
 | bl (b:Bool):Dw K ρ H (.bl b) (.bool b)
 | int (i:Int):Dw K ρ H (.int i) (.int i)
 | str (x:Str):Dw K ρ H (.str x) (.str x)
 | lst {a:Addr} {xs:List V} {ds:List W}:c8 K H a xs->az K ρ H xs ds->Dw K ρ H (.ref a) (.list ds)
 | tup {a:Addr} {xs:List V} {ds:List W}:H a=some (.tup xs)->az K ρ H xs ds->Dw K ρ H (.ref a) (.tuple ds)
 | ref {a:Addr} {n:Nat}:ρ[n]?=some a->Dw K ρ H (.ref a) (.ref n)
 | fn {a:Addr} {n:Str}:PySem.W.nsIn K mainGlobals n=some (some (.ref a))->Dw K ρ H (.ref a) (.fn n)
inductive az(K:Frag)(ρ:List Addr)(H:Hp):List V->List W->Prop
 | nil:az K ρ H [] []
 | cons {v:V} {vs:List V} {d:W} {ds:List W}:Dw K ρ H v d->az K ρ H vs ds->az K ρ H (v::vs) (d::ds)
end
theorem Dw.mapG{K:Frag}(hs:∀a xs,c8 K H a xs->c8 K H' a xs)(ht:∀a xs,H a=some (.tup xs)->H' a=some (.tup xs))(hr:∀(n:Nat)(a:Addr),ρ[n]?=some a->ρ'[n]?=some a)(h:Dw K ρ H v d):Dw K ρ' H' v d:=
 Dw.rec   .non .bl .int .str (λq _ ih=>.lst (hs _ _ q) ih) (λq _ ih=>.tup (ht _ _ q) ih) (λe=>.ref (hr _ _ e)) (λe=>.fn e) .nil (λ_ _ a b=>.cons a b) h
theorem az.ind{K:Frag}{M:List V->List W->Prop}(h0:M [] [])(h1:∀v vs d ds,Dw K ρ H v d->M vs ds->M (v::vs) (d::ds))(h:az K ρ H vs ds):M vs ds:=
 az.rec (motive_1:=λ_ _ _=>True)  trivial (λ_=>trivial) (λ_=>trivial) (λ_=>trivial) (λ_ _ _=>trivial) (λ_ _ _=>trivial) (λ_=>trivial) (λ_=>trivial) h0 (λa _ _ ih=>h1 _ _ _ _ a ih) h
theorem Dw.same{K:Frag}(g:bm H H')(h:Dw K ρ H v d):Dw K ρ H' v d:=h.mapG (λ_ _ q=>g.seq q) (λ_ _ q=>g _ _ q) λ_ _ e=>e
theorem az.mapA{K:Frag}(f:∀v d,Dw K ρ H v d->Dw K ρ' H' v d)(h:az K ρ H vs ds):az K ρ' H' vs ds:=h.ind  .nil λ_ _ _ _ a b=>.cons (f _ _ a) b
theorem az.same{K:Frag}(g:bm H H')(h:az K ρ H vs ds):az K ρ H' vs ds:=h.mapA λ_ _ a=>a.same g
mutual
noncomputable def W.py:W->Option PyData
 | .none=>some .none
 | .bool b=>some (.bool b)
 | .int i=>some (.int i)
 | .str x=>some (.str x)
 | .list ds=>(W.pys ds).map .list
 | .tuple ds=>(W.pys ds).map .tuple
 | .ref _ | .fn _=>Option.none
noncomputable def W.pys:List W->Option (List PyData)
 | []=>some []
 | d::ds=>(W.py d).bind λx=>(W.pys ds).map (x::·)
end
theorem Dw.dp{K:Frag}(h:Dw K ρ H v d):d.py=some x->Dp K H v x:=
 Dw.rec  (motive_2:=λvs ds _=>∀xs,W.pys ds=some xs->o6 K H vs xs)
  (λx e=>by cases e;exact .non) (λb x e=>by cases e;exact .bl b) (λi x e=>by cases e;exact .int i) λy x e=>by cases e;exact .str y
  λq _ ih x e=>by
   obtain⟨xs,e1,rfl⟩:=oM e
   exact .lst q (ih _ e1)
  λq _ ih x e=>by
   obtain⟨xs,e1,rfl⟩:=oM e
   exact .tup (fj.of q) (ih _ e1)
  (λ_ x e=>by cases e) (λ_ x e=>by cases e) (λxs e=>by cases e;exact .nil)
  (λ_ _ ih1 ih2 xs e=>by
   obtain⟨x,e1,e⟩:=oB e
   obtain⟨ys,e2,rfl⟩:=oM e
   exact .cons (ih1 _ e1) (ih2 _ e2)) h x
inductive Sl where
 | no
 | val (d:W)
 | own (ds:List W)
noncomputable abbrev DS:=List Sl
noncomputable def xJ(K:Frag)(ρ:List Addr)(G H:Hp):Sl->Option V->Prop
 | .no,_=>True
 | .val d,o=>∃v,o=some v/\Dw K ρ G v d
 | .own ds,o=>∃p vs,o=some (.ref p)/\G p=none/\H p=some (.lst vs)/\az K ρ G vs ds
noncomputable def nT(H:Hp)(b:Addr):Prop:=H b≠none/\∀xs,H b≠some (.tup xs)
theorem nT.of(h:H b=some o)(n:∀xs,o≠.tup xs):nT H b:=⟨by simp_all,λxs z=>n xs (by simp_all)⟩
theorem nT.l(h:H b=some (.lst vs)):nT H b:=.of h λ_ z=>by cases z
theorem nT.same(x:nT H b)(s:bm H H'):nT H' b:=by
 cases q:H b with
 | none=>exact absurd q x.1
 | some o=>exact .of (s b o q) λxs z=>x.2 xs (by rw[q,z])
structure Gr(G H G' H':Hp):Prop where
 g:bm G G'
 h:bm H H'
 s:bm G' H'
 n:∀b,nT H b->G b=none->G' b=none
theorem vb(s:bm H H')(h:H b≠none):H' b≠none:=λe=>by
 cases q:H b with
 | none=>exact h q
 | some o=>
  have:=s b o q
  simp_all
theorem cR(s:bm G H)(h:H b=none):G b=none:=by
 cases q:G b with
 | none=>rfl
 | some o=>
  have:=s b o q
  simp_all
theorem Gr.refl(s:bm G H):Gr G H G H:=⟨.refl _,.refl _,s,λ_ _ h=>h⟩
theorem Gr.trans(a:Gr G H G1 H1)(b:Gr G1 H1 G2 H2):Gr G H G2 H2:=
 ⟨a.g.trans b.g,a.h.trans b.h,b.s,λc h1 h2=>b.n c (h1.same a.h) (a.n c h1 h2)⟩
theorem kt(s:bm G H')(h:H' p=some o):bm (cx G p o) H':=λb u e=>by
 by_cases hb:b=p
 . subst hb;rw[aC]at e
   simp_all
 . rw[aE hb]at e;exact s _ _ e
theorem Gr.new(a:Gr G H G' H')(h0:H p=none)(g0:G' p=none)(h:H' p=some o):Gr G H (cx G' p o) H':=
 ⟨a.g.trans (jH g0 o),a.h,kt a.s h,λb h1 h2=>by
  rw[aE λe=>h1.1 (by simp_all)];exact a.n b h1 h2⟩
theorem Gr.nw(s:bm G H)(n:Nw H H' p o):Gr G H (cx G p o) H':=
 Gr.new ⟨.refl _,n.1,s.trans n.1,λ_ _ h=>h⟩ n.2.1 (cR s n.2.1) n.2.2
theorem Gr.nwO(s:bm G H)(n:Nw H H' p o):Gr G H G H':=⟨.refl _,n.1,s.trans n.1,λ_ _ h=>h⟩
structure Rl(K:Frag)(ρ:List Addr)(G H:Hp)(δ:DS)(σ:St):Prop where
 sub:bm G H
 len:δ.length=σ.length
 sl:∀(i:Nat) s,δ[i]?=some s->∃o,σ[i]?=some o/\xJ K ρ G H s o
 apart:∀(i j:Nat) p ds es,δ[i]?=some (.own ds)->δ[j]?=some (.own es)->σ[i]?=some (some (.ref p))->σ[j]?=some (some (.ref p))->i=j
theorem xJ.grow{K:Frag}(g:Gr G H G' H')(h:xJ K ρ G H s o):xJ K ρ G' H' s o:=by
 cases s with
 | no=>exact trivial
 | val d=>
  obtain⟨v,e,h⟩:=h;exact⟨v,e,h.same g.g⟩
 | own ds=>
  obtain⟨p,vs,e,h1,h2,h3⟩:=h;exact⟨p,vs,e,g.n p (.l h2) h1,g.h _ _ h2,h3.same g.g⟩
theorem Rl.grow{K:Frag}(R:Rl K ρ G H δ σ)(g:Gr G H G' H'):Rl K ρ G' H' δ σ:=
 ⟨g.s,R.len,λi s e=>by
  obtain⟨o,h1,h2⟩:=R.sl i s e;exact⟨o,h1,h2.grow g⟩,R.apart⟩
theorem cC{α:Type}{xs:List α}{i j:Nat}{a b:α}(h:(xs.set i a)[j]?=some b):(i=j/\a=b/\j<xs.length)∨(i≠j/\xs[j]?=some b):=by
 by_cases e:i=j
 . subst e;rw[List.getElem?_set]at h;simp only[U5]at h;split at h
   . rename_i hl;cases h;exact .inl ⟨rfl,rfl,hl⟩
   . cases h
 . rw[Ux e]at h;exact .inr ⟨e,h⟩
theorem ji{α:Type}{xs:List α}{a:α}(h:i<xs.length):(xs.set i a)[i]?=some a:=by
 simp_all
noncomputable def gL(δ':DS)(σ':St)(δ:DS)(σ:St):Prop:=∀(i:Nat) ds p,δ'[i]?=some (.own ds)->σ'[i]?=some (some (.ref p))->∃es,δ[i]?=some (.own es)/\σ[i]?=some (some (.ref p))
theorem gL.refl(δ:DS)(σ:St):gL δ σ δ σ:=λi ds p h1 h2=>⟨ds,h1,h2⟩
theorem gL.trans(a:gL δ2 σ2 δ1 σ1)(b:gL δ1 σ1 δ σ):gL δ2 σ2 δ σ:=λi ds p h1 h2=>by
 obtain⟨es,h3,h4⟩:=a i ds p h1 h2;exact b i es p h3 h4
theorem lI{δ:DS}{σ:St}{i:Nat}{d:W}{v:V}(h:δ.length=σ.length):gL (δ.set i (.val d)) (σ.set i (some v)) δ σ:=λj ds p h1 h2=>by
 rcases cC h1 with⟨_,e,_⟩ | ⟨ne,h1⟩
 . cases e
 . rw[Ux ne]at h2;exact⟨ds,h1,h2⟩
theorem Rl.set{K:Frag}(R:Rl K ρ G H δ σ)(h:Dw K ρ G v d):Rl K ρ G H (δ.set i (.val d)) (σ.set i (some v)):=
 ⟨R.sub,by rw[U1,U1];exact R.len,λj s e=>by
  rcases cC e with⟨rfl,rfl,hl⟩ | ⟨ne,e⟩
  . exact⟨_,ji (by rw[<-R.len];exact hl),v,rfl,h⟩
  . rw[Ux ne];exact R.sl j s e,λj k p ds es h1 h2 h3 h4=>by
  obtain⟨ds',a1,a2⟩:=lI  R.len j ds p h1 h3;obtain⟨es',b1,b2⟩:=lI  R.len k es p h2 h4;exact R.apart j k p _ _ a1 b1 a2 b2⟩
theorem Rl.setO{K:Frag}{ρ:List Addr}{G H:Hp}{δ:DS}{σ:St}{i:Nat}{ds:List W}{p:Addr}{vs:List V}(R:Rl K ρ G H δ σ)(g0:G p=none)(h:H p=some (.lst vs))(hd:az K ρ G vs ds)
 (hn:∀(j:Nat) es,j≠i->δ[j]?=some (.own es)->σ[j]?≠some (some (.ref p))):Rl K ρ G H (δ.set i (.own ds)) (σ.set i (some (.ref p))):=
 ⟨R.sub,by rw[U1,U1];exact R.len,λj s e=>by
  rcases cC e with⟨rfl,rfl,hl⟩ | ⟨ne,e⟩
  . exact⟨_,ji (by rw[<-R.len];exact hl),p,vs,rfl,g0,h,hd⟩
  . rw[Ux ne];exact R.sl j s e,λj k q ds' es' h1 h2 h3 h4=>by
  rcases cC h1 with⟨rfl,_,hl⟩ | ⟨ne,h1⟩ <;> rcases cC h2 with⟨rfl,_,hl2⟩ | ⟨ne2,h2⟩
  . rfl
  . rw[ji (by rw[<-R.len];exact hl)]at h3;rw[Ux ne2]at h4;cases h3;exact absurd h4 (hn k es' (VB ne2) h2)
  . rw[ji (by rw[<-R.len];exact hl2)]at h4;rw[Ux ne]at h3;cases h4;exact absurd h3 (hn j ds' (VB ne) h1)
  . rw[Ux ne]at h3;rw[Ux ne2]at h4;exact R.apart j k q _ _ h1 h2 h3 h4⟩
noncomputable def DE(K:Frag)(ρ:List Addr)(t:TE)(f:DS->Option W):Prop:=
 ∀(G:Hp)(σ:St)(H:Hp)(δ:DS)(d:W)(Q:VK),Rl K ρ G H δ σ->f δ=some d->(∀v G' H',Gr G H G' H'->Dw K ρ G' v d->Q v H')->t σ H Q
noncomputable def DA(K:Frag)(ρ:List Addr)(t:TA)(f:DS->Option (List W)):Prop:=
 ∀(G:Hp)(σ:St)(H:Hp)(δ:DS)(ds:List W)(Q:List V->Hp->Prop),Rl K ρ G H δ σ->f δ=some ds->(∀vs G' H',Gr G H G' H'->az K ρ G' vs ds->Q vs H')->t σ H Q
noncomputable def DT(K:Frag)(ρ:List Addr)(t:TT)(f:DS->Option Bool):Prop:=
 ∀(G:Hp)(σ:St)(H:Hp)(δ:DS)(b:Bool)(Q:Bool->Hp->Prop),Rl K ρ G H δ σ->f δ=some b->(∀G' H',Gr G H G' H'->Q b H')->t σ H Q
noncomputable def DO(K:Frag)(ρ:List Addr)(t:TE)(f:DS->Option (List W)):Prop:=
 ∀(G:Hp)(σ:St)(H:Hp)(δ:DS)(ds:List W)(Q:VK),Rl K ρ G H δ σ->f δ=some ds->(∀p vs G' H',Gr G H G' H'->H p=none->G' p=none->H' p=some (.lst vs)->az K ρ G' vs ds->Q (.ref p) H')->t σ H Q
noncomputable def Pk(K:Frag)(ρ:List Addr)(G H:Hp)(v:V)(d:W):Prop:=Dw K ρ G v d∨∃p vs ds,v=.ref p/\d=.list ds/\H p=some (.lst vs)/\az K ρ G vs ds
noncomputable def DK(K:Frag)(ρ:List Addr)(t:TE)(f:DS->Option W):Prop:=
 ∀(G:Hp)(σ:St)(H:Hp)(δ:DS)(d:W)(Q:VK),Rl K ρ G H δ σ->f δ=some d->(∀v G' H',Gr G H G' H'->Pk K ρ G' H' v d->Q v H')->t σ H Q
section
variable{K:Frag}{ρ:List Addr}
theorem Pk.dp(s:bm G H)(h:Pk K ρ G H v d):Dw K ρ H v d:=by
 rcases h with h | ⟨p,vs,ds,rfl,rfl,h1,h2⟩
 . exact h.same s
 . exact .lst (c8.of h1) (h2.same s)
theorem Pk.grow(g:Gr G H G' H')(h:Pk K ρ G H v d):Pk K ρ G' H' v d:=by
 rcases h with h | ⟨p,vs,ds,rfl,rfl,h1,h2⟩
 . exact .inl (h.same g.g)
 . exact .inr ⟨p,vs,ds,rfl,rfl,g.h _ _ h1,h2.same g.g⟩
theorem DE.dk(h:DE K ρ t f):DK K ρ t f:=λG σ H δ d Q R e q=>h G σ H δ d Q R e λv G' H' g dv=>q v G' H' g (.inl dv)
noncomputable def aP(f:DS->Option (List W)):DS->Option W:=λδ=>(f δ).map .list
theorem DO.de(h:DO K ρ t f):DE K ρ t (aP f):=λG σ H δ d Q R e q=>by
 obtain⟨ds,e1,rfl⟩:=oM e
 exact h G σ H δ ds Q R e1 λp vs G' H' g h0 g0 hh da=>q _ _ H' (g.new h0 g0 hh) (.lst (c8.of aC) (da.same (jH g0 _)))
noncomputable def ac(i:Nat):DS->Option W:=λδ=>match δ[i]? with
 | some (.val d)=>some d
 | _=>none
theorem EQ:DE K ρ (uW i) (ac i):=λG σ H δ d Q R e q=>by
 unfold ac at e;split at e
 . rename_i d' h;cases e;obtain⟨o,h1,v,h2,h3⟩:=R.sl i _ h;exact⟨v,by rw[h1,h2],q v G H (.refl R.sub) h3⟩
 . cases e
noncomputable def ao(i:Nat):DS->Option W:=λδ=>match δ[i]? with
 | some (.val d)=>some d
 | some (.own ds)=>some (.list ds)
 | _=>none
theorem Kq:DK K ρ (uW i) (ao i):=λG σ H δ d Q R e q=>by
 unfold ao at e;split at e
 . rename_i d' h;cases e;obtain⟨o,h1,v,h2,h3⟩:=R.sl i _ h;exact⟨v,by rw[h1,h2],q v G H (.refl R.sub) (.inl h3)⟩
 . rename_i ds h;cases e;obtain⟨o,h1,p,vs,h2,h3,h4,h5⟩:=R.sl i _ h;exact⟨.ref p,by rw[h1,h2],q _ G H (.refl R.sub) (.inr ⟨p,vs,ds,rfl,rfl,h4,h5⟩)⟩
 . cases e
noncomputable def dC(d:W):DS->Option W:=λ_=>some d
theorem CV(h:∀G,Dw K ρ G v d):DE K ρ (tC v) (dC d):=λG σ H δ d' Q R e q=>by
 cases e;exact q v G H (.refl R.sub) (h G)
theorem Lg:DE K ρ (tC (.int i)) (dC (.int i)):=CV λ_=>.int i
theorem P4:DE K ρ (tC (.bl b)) (dC (.bool b)):=CV λ_=>.bl b
theorem Kf:DE K ρ (tC (.str x)) (dC (.str x)):=CV λ_=>.str x
theorem Li:DE K ρ (tC .non) (dC .none):=CV λ_=>.non
noncomputable def DR(K:Frag)(ρ:List Addr)(r:R2)(g:W->W->Option W):Prop:=
 ∀(G H:Hp)(x y:V)(d e c:W)(Q:VK),bm G H->Pk K ρ G H x d->Dw K ρ G y e->g d e=some c->(∀v G' H',Gr G H G' H'->Dw K ρ G' v c->Q v H')->r x y H Q
noncomputable def aF(g:W->W->Option W)(fa fb:DS->Option W):DS->Option W:=λδ=>(fa δ).bind λx=>(fb δ).bind λy=>g x y
theorem OQ(hr:DR K ρ r g)(ha:DK K ρ ta fa)(hb:DE K ρ tb fb):DE K ρ (qd r ta tb) (aF g fa fb):=λG σ H δ d Q R e q=>by
 obtain⟨x,ex,e⟩:=oB e
 obtain⟨y,ey,e⟩:=oB e
 exact ha G σ H δ x _ R ex λv G1 H1 g1 dv=>hb G1 σ H1 δ y _ (R.grow g1) ey λu G2 H2 g2 du=>hr G2 H2 v u x y d Q g2.s (dv.grow g2) du e λw G3 H3 g3 dw=>q w G3 H3 (g1.trans (g2.trans g3)) dw
noncomputable def DB(K:Frag)(ρ:List Addr)(r:R2)(g:W->W->Option Bool):Prop:=
 ∀(H:Hp)(x y:V)(d e:W)(b:Bool)(Q:VK),Dw K ρ H x d->Dw K ρ H y e->g d e=some b->Q (.bl b) H->r x y H Q
noncomputable def aw(g:W->W->Option Bool)(fa fb:DS->Option W):DS->Option Bool:=λδ=>(fa δ).bind λx=>(fb δ).bind λy=>g x y
noncomputable def dB(f:DS->Option Bool):DS->Option W:=λδ=>(f δ).map .bool
theorem tj(hr:DB K ρ r g)(ha:DK K ρ ta fa)(hb:DK K ρ tb fb)(R:Rl K ρ G H δ σ)(e:aw g fa fb δ=some b)(q:∀G' H',Gr G H G' H'->Q (.bl b) H'):qd r ta tb σ H Q:=by
 obtain⟨x,ex,e⟩:=oB e
 obtain⟨y,ey,e⟩:=oB e
 exact ha G σ H δ x _ R ex λv G1 H1 g1 dv=>hb G1 σ H1 δ y _ (R.grow g1) ey λu G2 H2 g2 du=>hr H2 v u x y b Q ((dv.grow g2).dp g2.s) (du.dp g2.s) e (q G2 H2 (g1.trans g2))
theorem KR(hr:DB K ρ r g)(ha:DK K ρ ta fa)(hb:DK K ρ tb fb):DE K ρ (qd r ta tb) (dB (aw g fa fb)):=λG σ H δ d Q R e q=>by
 obtain⟨b,e1,rfl⟩:=oM e
 exact tj hr ha hb R e1 λG' H' g=>q _ G' H' g (.bl b)
theorem L7(hr:DB K ρ r g)(ha:DK K ρ ta fa)(hb:DK K ρ tb fb):DT K ρ (iA (qd r ta tb)) (aw g fa fb):=λG σ H δ b Q R e q=>
 tj hr ha hb R e λG' H' g=>⟨b,rfl,q G' H' g⟩
noncomputable def lD(g g':W->W->Option Bool)(fa fb fc:DS->Option W):DS->Option Bool:=λδ=>(fa δ).bind λx=>(fb δ).bind λy=>(g x y).bind λb=>if b=true then(fc δ).bind λz=>g' y z else some false
theorem oP(hr:DB K ρ r g)(hr':DB K ρ r' g')(ha:DK K ρ ta fa)(hb:DK K ρ tb fb)(hc:DK K ρ tc fc)(R:Rl K ρ G H δ σ)(e:lD g g' fa fb fc δ=some b)(q:∀G' H',Gr G H G' H'->Q (.bl b) H'):sn r r' ta tb tc σ H Q:=by
 obtain⟨x,ex,e⟩:=oB e
 obtain⟨y,ey,e⟩:=oB e
 obtain⟨k,ek,e⟩:=oB e
 refine ha G σ H δ x _ R ex λv G1 H1 g1 dv=>hb G1 σ H1 δ y _ (R.grow g1) ey λu G2 H2 g2 du=>hr H2 v u x y k _ ((dv.grow g2).dp g2.s) (du.dp g2.s) ek ⟨k,rfl,?_⟩;cases k with
 | false=>
  cases e;exact q G2 H2 (g1.trans g2)
 | true=>
  obtain⟨z,ez,e⟩:=oB e
  exact hc G2 σ H2 δ z _ ((R.grow g1).grow g2) ez λw G3 H3 g3 dw=>hr' H3 u w y z b Q ((du.grow g3).dp g3.s) (dw.dp g3.s) e (q G3 H3 (g1.trans (g2.trans g3)))
theorem CM(hr:DB K ρ r g)(hr':DB K ρ r' g')(ha:DK K ρ ta fa)(hb:DK K ρ tb fb)(hc:DK K ρ tc fc):DE K ρ (sn r r' ta tb tc) (dB (lD g g' fa fb fc)):=λG σ H δ d Q R e q=>by
 obtain⟨b,e1,rfl⟩:=oM e
 exact oP hr hr' ha hb hc R e1 λG' H' g=>q _ G' H' g (.bl b)
theorem Cz(hr:DB K ρ r g)(hr':DB K ρ r' g')(ha:DK K ρ ta fa)(hb:DK K ρ tb fb)(hc:DK K ρ tc fc):DT K ρ (iA (sn r r' ta tb tc)) (lD g g' fa fb fc):=λG σ H δ b Q R e q=>
 oP hr hr' ha hb hc R e λG' H' g=>⟨b,rfl,q G' H' g⟩
noncomputable def BY:W->Option Bool
 | .bool b=>some b
 | _=>none
noncomputable def lE(f:DS->Option W):DS->Option Bool:=λδ=>(f δ).bind BY
theorem og(h:BY d=some b):d=.bool b:=by
 cases d <;> first | (cases h;rfl) | cases h
theorem KB{t:TE}{f:DS->Option W}(h:DE K ρ t f):DT K ρ (tB t) (lE f):=λG σ H δ b Q R e q=>by
 obtain⟨x,ex,e⟩:=oB e
 cases og e;exact h G σ H δ _ _ R ex λv G1 H1 g1 dv=>by
  cases dv;exact⟨b,rfl,q G1 H1 g1⟩
noncomputable def lj(f g:DS->Option Bool):DS->Option Bool:=λδ=>(f δ).bind λb=>if b=true then g δ else some false
noncomputable def FE(f g:DS->Option Bool):DS->Option Bool:=λδ=>(f δ).bind λb=>if b=true then some true else g δ
noncomputable def pH(f:DS->Option Bool):DS->Option Bool:=λδ=>(f δ).map (!·)
theorem KS{t u:TT}{f g:DS->Option Bool}(h1:DT K ρ t f)(h2:DT K ρ u g):DT K ρ (Mu t u) (lj f g):=λG σ H δ b Q R e q=>by
 obtain⟨x,ex,e⟩:=oB e
 refine h1 G σ H δ x _ R ex λG1 H1 g1=>?_;cases x with
 | true=>exact h2 G1 σ H1 δ b Q (R.grow g1) e λG2 H2 g2=>q G2 H2 (g1.trans g2)
 | false=>cases e;exact q G1 H1 g1
theorem OV(h1:DT K ρ t f)(h2:DT K ρ u g):DT K ρ (QZ t u) (FE f g):=λG σ H δ b Q R e q=>by
 obtain⟨x,ex,e⟩:=oB e
 refine h1 G σ H δ x _ R ex λG1 H1 g1=>?_;cases x with
 | false=>exact h2 G1 σ H1 δ b Q (R.grow g1) e λG2 H2 g2=>q G2 H2 (g1.trans g2)
 | true=>grind
theorem LZ(h:DT K ρ t f):DT K ρ (K4 t) (pH f):=λG σ H δ b Q R e q=>by
 obtain⟨x,ex,rfl⟩:=oM e
 exact h G σ H δ x _ R ex q
noncomputable def Cv(f g:DS->Option W):DS->Option W:=λδ=>(f δ).bind λx=>(BY x).bind λb=>if b=true then g δ else some (.bool false)
noncomputable def AO(f g:DS->Option W):DS->Option W:=λδ=>(f δ).bind λx=>(BY x).bind λb=>if b=true then some (.bool true) else g δ
theorem Nk(h1:DE K ρ t f)(h2:DE K ρ u g):DE K ρ (IQ t u) (Cv f g):=λG σ H δ d Q R e q=>by
 obtain⟨x,ex,e⟩:=oB e
 obtain⟨b,eb,e⟩:=oB e
 cases og eb;refine h1 G σ H δ _ _ R ex λv G1 H1 g1 dv=>?_;cases dv;refine⟨b,rfl,?_⟩;cases b with
 | true=>exact h2 G1 σ H1 δ d Q (R.grow g1) e λv G2 H2 g2 dv=>q v G2 H2 (g1.trans g2) dv
 | false=>cases e;exact q _ G1 H1 g1 (.bl _)
theorem Ps(h1:DE K ρ t f)(h2:DE K ρ u g):DE K ρ (NJ t u) (AO f g):=λG σ H δ d Q R e q=>by
 obtain⟨x,ex,e⟩:=oB e
 obtain⟨b,eb,e⟩:=oB e
 cases og eb;refine h1 G σ H δ _ _ R ex λv G1 H1 g1 dv=>?_;cases dv;refine⟨b,rfl,?_⟩;cases b with
 | false=>exact h2 G1 σ H1 δ d Q (R.grow g1) e λv G2 H2 g2 dv=>q v G2 H2 (g1.trans g2) dv
 | true=>cases e;exact q _ G1 H1 g1 (.bl _)
noncomputable def F6(f:DS->Option W):DS->Option W:=λδ=>(f δ).bind λx=>(BY x).map λb=>.bool (!b)
theorem Kk(h:DE K ρ t f):DE K ρ (IM t) (F6 f):=λG σ H δ d Q R e q=>by
 obtain⟨x,ex,e⟩:=oB e
 obtain⟨b,eb,rfl⟩:=oM e
 cases og eb;refine h G σ H δ _ _ R ex λv G1 H1 g1 dv=>?_;cases dv;exact⟨b,rfl,q _ G1 H1 g1 (.bl _)⟩
noncomputable def C6(c:DS->Option Bool)(f g:DS->Option W):DS->Option W:=λδ=>(c δ).bind λb=>if b=true then f δ else g δ
theorem OK(hc:DT K ρ tc c)(h1:DE K ρ t f)(h2:DE K ρ u g):DE K ρ (SX tc t u) (C6 c f g):=λG σ H δ d Q R e q=>by
 obtain⟨b,eb,e⟩:=oB e
 refine hc G σ H δ b _ R eb λG1 H1 g1=>?_;cases b with
 | true=>exact h1 G1 σ H1 δ d Q (R.grow g1) e λv G2 H2 g2 dv=>q v G2 H2 (g1.trans g2) dv
 | false=>exact h2 G1 σ H1 δ d Q (R.grow g1) e λv G2 H2 g2 dv=>q v G2 H2 (g1.trans g2) dv
noncomputable def ah:DS->Option (List W):=λ_=>some []
noncomputable def ab(f:DS->Option W)(g:DS->Option (List W)):DS->Option (List W):=λδ=>(f δ).bind λd=>(g δ).map (d::·)
theorem Mg:DA K ρ gS ah:=λG σ H δ ds Q R e q=>by
 cases e;exact q [] G H (.refl R.sub) .nil
theorem HJ(h1:DE K ρ t f)(h2:DA K ρ u g):DA K ρ (dM t u) (ab f g):=λG σ H δ ds Q R e q=>by
 obtain⟨d,ed,e⟩:=oB e
 obtain⟨es,ee,rfl⟩:=oM e
 exact h1 G σ H δ d _ R ed λv G1 H1 g1 dv=>h2 G1 σ H1 δ es _ (R.grow g1) ee λvs G2 H2 g2 da=>q _ G2 H2 (g1.trans g2) (.cons (dv.same g2.g) da)
theorem az.length(h:az K ρ G vs ds):vs.length=ds.length:=h.ind (M:=λvs ds=>vs.length=ds.length) rfl λ_ _ _ _ _ e=>Uh _ e
theorem az.get{G:Hp}{vs:List V}{ds:List W}{i:Nat}{d:W}(h:az K ρ G vs ds):ds[i]?=some d->∃v,vs[i]?=some v/\Dw K ρ G v d:=
 h.ind (M:=λvs ds=>∀(i:Nat) d,ds[i]?=some d->∃v,vs[i]?=some v/\Dw K ρ G v d) (λ_ _ e=>by cases e) (λv _ _ _ a ih i d e=>by
  cases i with
  | zero=>cases e;exact⟨v,rfl,a⟩
  | succ i=>exact ih i d e) i d
theorem az.app(h:az K ρ G vs ds)(h':az K ρ G ws es):az K ρ G (vs++ws) (ds++es):=h.ind (M:=λvs ds=>az K ρ G (vs++ws) (ds++es)) h' λ_ _ _ _ a ih=>.cons a ih
theorem az.drop(n:Nat)(h:az K ρ G vs ds):az K ρ G (vs.drop n) (ds.drop n):=by
 induction n generalizing vs ds with
 | zero=>exact h
 | succ n ih=>
  cases h with
  | nil=>exact .nil
  | cons _ t=>exact ih t
theorem az.take(n:Nat)(h:az K ρ G vs ds):az K ρ G (vs.take n) (ds.take n):=by
 induction n generalizing vs ds with
 | zero=>exact .nil
 | succ n ih=>
  cases h with
  | nil=>exact .nil
  | cons a t=>exact .cons a (ih t)
theorem az.set(h:Dw K ρ G v d):∀{vs:List V}{ds:List W}(n:Nat),az K ρ G vs ds->az K ρ G (vs.set n v) (ds.set n d):=λ{vs ds} n q=>by
 induction n generalizing vs ds with
 | zero=>
  cases q with
  | nil=>exact .nil
  | cons _ t=>exact .cons h t
 | succ n ih=>
  cases q with
  | nil=>exact .nil
  | cons a t=>exact .cons a (ih t)
theorem az.ints:∀(ns:List Int),az K ρ G (ns.map V.int) (ns.map .int)
 | []=>.nil
 | n::r=>.cons (.int n) (az.ints r)
noncomputable def bJ(f:DS->Option (List W)):DS->Option W:=λδ=>(f δ).bind λds=>if ds.length<=sizeLine then some (.tuple ds) else none
theorem Lk(h:DA K ρ t f):DE K ρ (Fb t) (bJ f):=λG σ H δ d Q R e q=>by
 obtain⟨ds,e1,e⟩:=oB e
 split at e
 . rename_i hz;cases e;refine h G σ H δ ds _ R e1 λvs G1 H1 g1 da=>⟨by rw[da.length];exact hz,λp H' n=>?_⟩
   have g2:=Gr.nw g1.s n;exact q _ _ H' (g1.trans g2) (.tup aC (da.same g2.g))
 . cases e
noncomputable def bW(f:DS->Option (List W)):DS->Option (List W):=λδ=>(f δ).bind λds=>if ds.length<=sizeLine then some ds else none
theorem LI(h:DA K ρ t f):DO K ρ (zO t) (bW f):=λG σ H δ ds Q R e q=>by
 obtain⟨ds',e1,e⟩:=oB e
 split at e
 . rename_i hz;cases e;refine h G σ H δ _ _ R e1 λvs G1 H1 g1 da=>⟨by rw[da.length];exact hz,λp H' n=>?_⟩
   exact q p vs G1 H' (g1.trans (.nwO g1.s n)) (by
    cases hp:H p with
    | none=>rfl
    | some o=>exact absurd (g1.h _ _ hp) (by rw[n.2.1];simp)) (cR g1.s n.2.1) n.2.2 da
 . cases e
end
section
variable{X:Cx}{tg:Expr}
noncomputable def Bt(K:Frag)(tl:TE):TI:=λσ H R=>tl σ H λx H1=>∃a,x=.ref a/\(((∃xs,c8 K H1 a xs)/\R (RX K a) H1)∨((∃xs,fj K H1 a xs)/\R (RU K a) H1))
theorem LN(hl:PE X l tl):PI X tg l (Bt X.K tl):=by
 intro pins s σ H R I h;refine bQ (hl _ s σ H _ I h) λv s1 hq0=>?_;obtain⟨x,H1,I1,r1,q1⟩:=hq0;obtain⟨a,e,⟨⟨xs,hq⟩,q⟩ | ⟨⟨xs,hq⟩,q⟩⟩:=q1;all_goals
  subst e;cases r1
 . obtain⟨its,rv,p,hz⟩:=I1.list hq;refine Vo p.isList ?_;refine⟨s1.heap.objs.size,[s1.heap.objs.size],_,_,H1,rfl,I1.kept  λb o e=>Uc _ e,B9 a _,⟨_,Uv _ rfl,rfl,rfl⟩,λb hb=>?_,q⟩;have e  := by simpa using hb
   subst e;exact I1.fpOk (Ug _) (I1.hok.fresh (Ug _))
 . obtain⟨its,rv,p,hz⟩:=I1.tuple hq;refine wpAny_pyIter_tuple (show s1.heap.IsTuple a _ from p) ?_;refine⟨s1.heap.objs.size,[s1.heap.objs.size],_,_,H1,rfl,I1.kept  λb o e=>Uc _ e,y9 a _,⟨_,Uv _ rfl,rfl,rfl⟩,λb hb=>?_,q⟩;have e  := by simpa using hb
   subst e;exact I1.fpOk (Ug _) (I1.hok.fresh (Ug _))
theorem QQ{K:Frag}(h:X.K=K)(hl:PE X l tl):PI X tg l (Bt K tl):=h▸LN hl
end
section
variable{K:Frag}{ρ:List Addr}
noncomputable def FL(K:Frag)(ρ:List Addr)(J:It)(ds:List W)(i:Nat)(G1 H1:Hp):Prop:=
 (∀d,ds[i]?=some d->J.go i H1/\∀x H',J.yld i H1 x H'->∃G',Gr G1 H1 G' H'/\Dw K ρ G' x d)/\(ds.length<=i->J.stop i H1)
noncomputable def SG(K:Frag)(ρ:List Addr)(J:It)(G H:Hp)(ds:List W):Prop:=∀i G1 H1,Gr G H G1 H1->FL K ρ J ds i G1 H1
noncomputable def Ow(K:Frag)(ρ:List Addr)(J:It)(G:Hp)(ds:List W):Prop:=∀i G1 H1,bm G G1->bm G1 H1->FL K ρ J ds i G1 H1
theorem Ow.d(h:Ow K ρ J G ds):SG K ρ J G H ds:=λi G1 H1 g=>h i G1 H1 g.g g.s
noncomputable def DI(K:Frag)(ρ:List Addr)(wi:TI)(f:DS->Option (List W)):Prop:=
 ∀(G:Hp)(σ:St)(H:Hp)(δ:DS)(ds:List W)(R':It->Hp->Prop),Rl K ρ G H δ σ->f δ=some ds->(∀J G' H',Gr G H G' H'->Ow K ρ J G' ds->R' J H')->wi σ H R'
noncomputable def Qk(K:Frag)(ρ:List Addr)(wi:TI)(f:DS->Option (List W)):Prop:=
 ∀(G:Hp)(σ:St)(H:Hp)(δ:DS)(ds:List W)(R':It->Hp->Prop),Rl K ρ G H δ σ->f δ=some ds->(∀J G' H',Gr G H G' H'->SG K ρ J G' H' ds->R' J H')->wi σ H R'
theorem DI.k(h:DI K ρ wi f):Qk K ρ wi f:=λG σ H δ ds R' R e q=>h G σ H δ ds R' R e λJ G' H' g i=>q J G' H' g i.d
noncomputable def wV:W->Option (List W)
 | .list ds=>some ds
 | .tuple ds=>some ds
 | _=>none
noncomputable def aI(f:DS->Option W):DS->Option (List W):=λδ=>(f δ).bind wV
theorem uM(s:bm G1 H1)(q:c8 K H1 a xs)(da:az K ρ G1 xs ds):FL K ρ (RX K a) ds i G1 H1:=by
 refine⟨λd hd=>?_,λh=>⟨xs,q,by rw[da.length];exact h⟩⟩;obtain⟨v,h1,h2⟩:=da.get hd;refine⟨⟨xs,v,q,h1⟩,λx H' y=>?_⟩;obtain⟨rfl,y⟩:=y;have:=y xs q;rw[h1]at this;cases this;exact⟨G1,.refl s,h2⟩
theorem yJ(s:bm G1 H1)(q:fj K H1 a xs)(da:az K ρ G1 xs ds):FL K ρ (RU K a) ds i G1 H1:=by
 refine⟨λd hd=>?_,λh=>⟨xs,q,by rw[da.length];exact h⟩⟩;obtain⟨v,h1,h2⟩:=da.get hd;refine⟨⟨xs,v,q,h1⟩,λx H' y=>?_⟩;obtain⟨rfl,y⟩:=y;have:=y xs q;rw[h1]at this;cases this;exact⟨G1,.refl s,h2⟩
theorem MZ(h:DE K ρ t f):DI K ρ (Bt K t) (aI f):=λG σ H δ ds R' R e q=>by
 obtain⟨d,ed,e⟩:=oB e
 refine h G σ H δ d _ R ed λv G1 H1 g1 dv=>?_;cases dv with
 | lst sq da=>
  cases e;exact⟨_,rfl,.inl ⟨⟨_,g1.s.seq sq⟩,q _ G1 H1 g1 λi G2 H2 a b=>uM b ((a.trans b).seq sq) (da.same a)⟩⟩
 | tup sq da=>
  cases e;exact⟨_,rfl,.inr ⟨⟨_,g1.s.tup (fj.of sq)⟩,q _ G1 H1 g1 λi G2 H2 a b=>yJ b ((a.trans b).tup (fj.of sq)) (da.same a)⟩⟩
 | _=>cases e
theorem Ge(h:DK K ρ t f):Qk K ρ (Bt K t) (aI f):=λG σ H δ ds R' R e q=>by
 obtain⟨d,ed,e⟩:=oB e
 refine h G σ H δ d _ R ed λv G1 H1 g1 dv=>?_;rcases dv with dv | ⟨p,vs,es,rfl,rfl,hp,da⟩
 . cases dv with
   | lst sq da=>
    cases e;exact⟨_,rfl,.inl ⟨⟨_,g1.s.seq sq⟩,q _ G1 H1 g1 λi G2 H2 g=>uM g.s ((g.g.trans g.s).seq sq) (da.same g.g)⟩⟩
   | tup sq da=>
    cases e;exact⟨_,rfl,.inr ⟨⟨_,g1.s.tup (fj.of sq)⟩,q _ G1 H1 g1 λi G2 H2 g=>yJ g.s ((g.g.trans g.s).tup (fj.of sq)) (da.same g.g)⟩⟩
   | _=>cases e
 . cases e;exact⟨p,rfl,.inl ⟨⟨_,c8.of hp⟩,q _ G1 H1 g1 λi G2 H2 g=>uM g.s (c8.of (g.h _ _ hp)) (da.same g.g)⟩⟩
noncomputable def kC(lo:Int)(n:Nat):List W:=(List.range n).map λi=>.int (lo+(i:Nat))
theorem EK{lo:Int}:Ow K ρ (Qs lo n) G (kC lo n):=λi G1 H1 _ s=>by
 refine⟨λd hd=>?_,λh=>show n<=i by simpa[kC] using h⟩;have hi  := by
  have:=(oG hd).1;simpa[kC] using this
 refine⟨hi,λx H' y=>?_⟩;obtain⟨rfl,rfl⟩:=y;have:d=.int (lo+i):=by
  unfold kC at hd
  simp_all
 subst this;exact⟨G1,.refl s,.int _⟩
noncomputable def tZ(j:Int):Bool:=decide (-(2^62)<=j)&&decide (j<2^62)
theorem AF(h:tZ j=true) : -(2^62)<=j/\j<2^62:=by
 simp only[tZ,Uz,UC]at h;exact h
theorem wM(h1 : -(2^62)<=j)(h2:j<2^62):tZ j=true:=by
 simp only[tZ,  UC]
 simp_all
theorem Bu{n:Nat}(h:n<=16777216):tZ (n:Int)=true:=wM (by omega) (by omega)
noncomputable def x6(j:Int):Option (List W):=if tZ j=true then some (kC 0 j.toNat) else none
noncomputable def Aj:List W->Option (List W)
 | [.int j]=>x6 j
 | _=>none
noncomputable def iC(f:DS->Option (List W)):DS->Option (List W):=λδ=>(f δ).bind Aj
theorem zx(h:x6 j=some ds):(-(2^62)<=j/\j<2^62)/\ds=kC 0 j.toNat:=by
 unfold x6 at h;split at h
 . rename_i hc;cases h;exact⟨AF hc,rfl⟩
 . cases h
theorem cQ(h:Dw K ρ G v (.int i)):v=.int i:=by cases h;rfl
theorem rj(h:Dw K ρ G v (.str i)):v=.str i:=by cases h;rfl
theorem IK(h:Dw K ρ G v (.bool i)):v=.bl i:=by cases h;rfl
theorem yK(h:Dw K ρ G v .none):v=.non:=by cases h;rfl
theorem uL(h:az K ρ G vs [d]):∃v,vs=[v]/\Dw K ρ G v d:=by
 cases h with
 | cons a b=>cases b;simp_all
theorem wA(e:Aj ds=some es):∃j,ds=[.int j]/\x6 j=some es:=by
 cases ds with
 | nil=>cases e
 | cons x r=>
  cases x with
  | int j=>
   cases r with
   | nil=>exact⟨j,rfl,e⟩
   | cons y r=>cases e
  | _=>cases r <;> cases e
theorem Io(h:DA K ρ t f):DI K ρ (EU t) (iC f):=λG σ H δ ds R' R e q=>by
 obtain⟨es,ed,e⟩:=oB e
 refine h G σ H δ es _ R ed λvs G1 H1 g1 da=>?_;obtain⟨j,rfl,e⟩:=wA e;obtain⟨hc,rfl⟩:=zx e;obtain⟨v,rfl,dv⟩:=uL da;cases cQ dv;exact⟨_,rfl,hc.1,hc.2,q _ G1 H1 g1 EK⟩
noncomputable def mL(ds:List W):List W:=(List.range ds.length).map λ(i:Nat)=>.tuple [.int (i:Int),ds[i]?.getD .none]
theorem B7{i:Nat}(h:(mL ds)[i]?=some d):∃x,ds[i]?=some x/\d=.tuple [.int i,x]:=by
 have hi  := by
  have:=(oG h).1;simpa[mL] using this
 unfold mL at h
 simp_all
theorem LY(s:bm G1 H1)(q:c8 K H1 a xs)(da:az K ρ G1 xs ds):FL K ρ (S8 K a) (mL ds) i G1 H1:=by
 refine⟨λd hd=>?_,λh=>⟨xs,q,by rw[da.length];simpa[mL] using h⟩⟩;obtain⟨x,hx,rfl⟩:=B7 hd;obtain⟨v,h1,h2⟩:=da.get hx;refine⟨⟨xs,v,q,h1⟩,λy H' w=>?_⟩;obtain⟨p,u,hp,rfl,rfl,w⟩:=w;have:=w xs q;rw[h1]at this;cases this;have n:Nw H1 _ p (.tup [.int i,v]):=.of hp;have g:=Gr.nw s n;exact⟨_,g,.tup aC (.cons (.int i) (.cons (h2.same g.g) .nil))⟩
noncomputable def jS(f:DS->Option (List W)):DS->Option (List W):=λδ=>(f δ).bind λds=>match ds with
 | [.list es]=>some (mL es)
 | _=>none
theorem HS(h:DA K ρ t f):DI K ρ (CJ K t) (jS f):=λG σ H δ ds R' R e q=>by
 obtain⟨es,ed,e⟩:=oB e
 refine h G σ H δ es _ R ed λvs G1 H1 g1 da=>?_;split at e
 . cases e;obtain⟨v,rfl,dv⟩:=uL da;cases dv with
   | lst sq da=>exact⟨_,rfl,⟨_,g1.s.seq sq⟩,q _ G1 H1 g1 λi G2 H2 a b=>LY b ((a.trans b).seq sq) (da.same a)⟩
 . cases e
noncomputable def Rz(ds es:List W):List W:=List.zipWith (λx y=>.tuple [x,y]) ds es
noncomputable def RP(f:DS->Option (List W)):DS->Option (List W):=λδ=>(f δ).bind λds=>match ds with
 | [.list a,.list b]=>some (Rz a b)
 | _=>none
noncomputable def DG(K:Frag)(ρ:List Addr)(g:TG)(h:W->DS->Option DS):Prop:=
 ∀(G H:Hp)(δ:DS)(σ:St)(v:V)(d:W)(δ':DS)(Q:St->Hp->Prop),Rl K ρ G H δ σ->Dw K ρ G v d->h d δ=some δ'->(∀σ',Rl K ρ G H δ' σ'->gL δ' σ' δ σ->Q σ' H)->g v σ H Q
noncomputable def PL(K:Frag)(ρ:List Addr)(g:Ny)(h:List W->DS->Option DS):Prop:=
 ∀(G H:Hp)(δ:DS)(σ:St)(vs:List V)(ds:List W)(δ':DS)(Q:St->Hp->Prop),Rl K ρ G H δ σ->az K ρ G vs ds->h ds δ=some δ'->(∀σ',Rl K ρ G H δ' σ'->gL δ' σ' δ σ->Q σ' H)->g vs σ H Q
noncomputable def ae(i:Nat):W->DS->Option DS:=λd δ=>some (δ.set i (.val d))
theorem Hw:DG K ρ (kO i) (ae i):=λG H δ σ v d δ' Q R dv e q=>by
 cases e;exact q _ (R.set dv) (lI R.len)
noncomputable def db:List W->DS->Option DS:=λds δ=>match ds with
 | []=>some δ
 | _=>none
noncomputable def aD(h:W->DS->Option DS)(k:List W->DS->Option DS):List W->DS->Option DS:=λds δ=>match ds with
 | d::r=>(h d δ).bind (k r)
 | _=>none
theorem IG:PL K ρ P5 db:=λG H δ σ vs ds δ' Q R dv e q=>by
 cases dv with
 | nil=>cases e;exact⟨rfl,q _ R (.refl _ _)⟩
 | cons _ _=>cases e
theorem Dj(h1:DG K ρ g h)(h2:PL K ρ u k):PL K ρ (Jf g u) (aD h k):=λG H δ σ vs ds δ' Q R dv e q=>by
 cases dv with
 | nil=>cases e
 | cons a b=>
  obtain⟨δ1,e1,e⟩:=oB e
  exact⟨_,_,rfl,h1 G H δ σ _ _ _ _ R a e1 λσ1 R1 o1=>h2 G H _ _ _ _ _ Q R1 b e λσ2 R2 o2=>q _ R2 (o2.trans o1)⟩
noncomputable def cW(n:Nat)(k:List W->DS->Option DS):W->DS->Option DS:=λd δ=>match d with
 | .tuple ds=>if ds.length=n then k ds δ else none
 | _=>none
theorem Mr(h:PL K ρ u k):DG K ρ (M6 K n u) (cW n k):=λG H δ σ v d δ' Q R dv e q=>by
 cases dv with
 | tup sq da=>
  simp only[cW]at e;split at e
  . rename_i hn;exact⟨_,_,rfl,R.sub.tup (fj.of sq),by rw[da.length];exact hn,h G H δ σ _ _ _ Q R da e q⟩
  . cases e
 | _=>cases e
noncomputable def sC(δ:DS):Option Nat->Sl
 | none=>.no
 | some i=>δ[i]?.getD .no
noncomputable def Q6(σ:St):Option Nat->Option V
 | none=>none
 | some i=>match σ[i]? with
  | some v=>v
  | none=>none
noncomputable def c9(ix:List (Option Nat))(δ:DS):DS:=ix.map (sC δ)
theorem so{j:Nat}(h:ix[j]?=some o):(lift ix σ)[j]?=some (Q6 σ o):=by
 unfold lift;rw[UT,h];cases o <;> rfl
theorem nI{ix:List (Option Nat)}{δ:DS}{j:Nat}{s:Sl}(h:(c9 ix δ)[j]?=some s):∃o,ix[j]?=some o/\s=sC δ o:=by
 unfold c9 at h;rw[UT]at h;obtain⟨o,h1,h2⟩:=oM h
 exact⟨o,h1,h2.symm⟩
noncomputable def wf(ix:List (Option Nat)):Bool:=decide ((ix.filterMap id).Nodup)
theorem Ke{ix:List (Option Nat)}(h:(ix.filterMap id).Nodup):∀{i j k:Nat},ix[i]?=some (some k)->ix[j]?=some (some k)->i=j:=by
 induction ix with
 | nil=>intro i j k h1;simp at h1
 | cons o r ih=>
  intro i j k h1 h2;have hr:(r.filterMap id).Nodup:=by
   cases o with
   | none=>simpa using h
   | some a=>
    have h':(a::r.filterMap id).Nodup:=h;exact(Vb.mp h').2
  have hm:∀m,r[m]?=some (some k)->k∈r.filterMap id:=λm hm=>List.mem_filterMap.mpr ⟨some k,UV hm,rfl⟩;cases i with
  | zero=>
   cases j with
   | zero=>rfl
   | succ j=>
    simp at h1 h2;subst h1;have h':(k::r.filterMap id).Nodup:=h;exact absurd (hm j h2) (Vb.mp h').1
  | succ i=>
   cases j with
   | zero=>
    simp at h1 h2;subst h2;have h':(k::r.filterMap id).Nodup:=h;exact absurd (hm i h1) (Vb.mp h').1
   | succ j=>
    simp at h1 h2;rw[ih hr h1 h2]
theorem Rl.lift(hx:wf ix=true)(R:Rl K ρ G H δ σ):Rl K ρ G H (c9 ix δ) (lift ix σ):=by
 have hx'  := by simpa[wf] using hx
 have own:∀{j:Nat}{ds:List W},(c9 ix δ)[j]?=some (.own ds)->∃i,ix[j]?=some (some i)/\δ[i]?=some (.own ds):=λ{j ds} h=>by
  obtain⟨o,h1,h2⟩:=nI h;cases o with
  | none=>cases h2
  | some i=>
   refine⟨i,h1,?_⟩;cases e:δ[i]? with
   | none=>simp[sC,e]at h2
   | some s=>simp[sC,e]at h2;rw[h2]
 have at':∀{j i:Nat}{v:V},ix[j]?=some (some i)->(L2.lift ix σ)[j]?=some _->σ[i]?=some (some v):=λ{j i v} h1 h2=>by
  rw[so h1]at h2;simp only[Q6]at h2;split at h2
  . rename_i w e;rw[e];simpa using h2
  . cases h2
 refine⟨R.sub,by simp[c9,L2.lift],λj s h=>?_,λj k p ds es h1 h2 h3 h4=>?_⟩
 . obtain⟨o,h1,rfl⟩:=nI h;refine⟨_,so h1,?_⟩;cases o with
   | none=>trivial
   | some i=>
    cases e:δ[i]? with
    | none=>simp only[sC,e,Option.getD_none];trivial
    | some s=>
     obtain⟨o,k1,k2⟩:=R.sl i s e;simp only[sC,Q6,e,k1,Option.getD_some];exact k2
 . obtain⟨i1,a1,a2⟩:=own h1;obtain⟨i2,b1,b2⟩:=own h2;have:=R.apart i1 i2 p ds es a2 b2 (at' a1 h3) (at' b1 h4);subst this;exact Ke hx' a1 b1
noncomputable def cb:DS->Option Bool:=λ_=>some true
theorem La:DT K ρ Oh cb:=λG σ H δ b Q R e q=>by
 cases e;exact q G H (.refl R.sub)
noncomputable def ba(h:W->DS->Option DS)(c:DS->Option Bool)(fe:DS->Option W)(δ:DS):List W->Option (List W)
 | []=>some []
 | d::ds=>(h d δ).bind λδ2=>(c δ2).bind λb=>if b=true then(fe δ2).bind λe=>(ba h c fe δ ds).map (e::·) else ba h c fe δ ds
noncomputable def cf(ix:List (Option Nat))(fi:DS->Option (List W))(h:W->DS->Option DS)(c:DS->Option Bool)(fe:DS->Option W):DS->Option (List W):=λδ=>
 (fi δ).bind λds=>if ds.length<=sizeLine then ba h c fe (c9 ix δ) ds else none
theorem GQ
 (hx:wf ix=true) (hi:Qk K ρ wi fi) (hg:DG K ρ g h) (hc:DT K ρ tc c) (he:DE K ρ te fe):DO K ρ (ph ix wi g tc te) (cf ix fi h c fe):=λG σ H δ es Q R e q=>by
 obtain⟨ds,ed,e⟩:=oB e
 split at e
 case isFalse=>cases e
 refine hi G σ H δ ds _ R ed λJ G1 H1 g1 it=>?_;refine⟨λi m ys H2=>m=ds.length-i/\i<=ds.length/\ys.length<=i/\∃G2 as bs,Gr G1 H1 G2 H2/\az K ρ G2 ys as/\ba h c fe _ (ds.drop i)=some bs/\as++bs=es,⟨ds.length,by simp,Vn _,Ug _,G1,[],es,.refl g1.s,.nil,by simpa using e,rfl⟩,?_⟩;rintro i m ys H2 ⟨rfl,hil,hyl,G2,as,bs,g2,da,eb,rfl⟩;have ia:=it i G2 H2 g2;by_cases hlt:i<ds.length
 . refine .inr ?_;obtain⟨go,step⟩:=ia.1 _ (Uu _);rw[U0 hlt]at eb;obtain⟨δ2,e2,eb⟩:=oB eb
   obtain⟨b,e3,eb⟩:=oB eb
   refine⟨go,by omega,λys' H'=>ys'.length<=i+1/\∃G2 as' bs',Gr G1 H1 G2 H'/\az K ρ G2 _ _/\ba h c fe _ _=some _/\as'++bs'=as++bs,λys' H' hy0=>by obtain⟨l,z⟩:=hy0;exact⟨ds.length-(i+1),by omega,rfl,hlt,l,z⟩,λx H' y=>?_⟩;obtain⟨G3,g3,dx⟩:=step x H' y;have R3:=((R.grow g1).grow g2).grow g3;refine hg G3 H' (c9 ix δ) _ x _ δ2 _ (R3.lift hx) dx e2 λσ2 R4 _=>?_;refine hc G3 σ2 H' δ2 b _ R4 e3 λG5 H5 g5=>?_;have g25:=g2.trans (g3.trans g5);have da5:=da.same (g3.trans g5).g;cases b with
   | false=>exact⟨by omega,G5,as,bs,g25,da5,eb,rfl⟩
   | true=>
    obtain⟨ev,e6,eb⟩:=oB eb
    obtain⟨bs',e7,rfl⟩:=oM eb
    refine he G5 σ2 H5 δ2 ev _ (R4.grow g5) e6 λv G6 H6 g6 dv=>?_;exact⟨by simp;omega,G6,as++[ev],bs',g25.trans g6,(da5.same g6.g).app (.cons dv .nil),e7,by simp⟩
 . have hi':i=ds.length:=by omega
   subst hi';refine .inl ⟨ia.2 (Ug _),by omega,λp hp=>?_⟩;rw[VH]at eb;cases eb;rw[UK]at q;have n:Nw H2 (cx H2 p (.lst ys)) p (.lst ys):=.of hp;exact q p ys G2 _ (g1.trans (g2.trans (.nwO g2.s n))) (cR (g1.trans g2).h hp) (cR g2.s hp) aC da
inductive i5 where
 | nx (δ:DS)
 | bk (δ:DS)
 | ct (δ:DS)
 | rt (d:W)
structure Iv(K:Frag)(ρ:List Addr)(G0 H0 G H:Hp)(δ:DS)(σ:St):Prop where
 rl:Rl K ρ G H δ σ
 gr:Gr G0 H0 G H
 ow:∀(i:Nat) p ds,δ[i]?=some (.own ds)->σ[i]?=some (some (.ref p))->H0 p=none
noncomputable def T4(K:Frag)(ρ:List Addr)(G0 H0:Hp)(D:oi):i5->Prop
 | .nx δ=>∀σ G H,Iv K ρ G0 H0 G H δ σ->D.nx σ H
 | .bk δ=>∀σ G H,Iv K ρ G0 H0 G H δ σ->D.bk σ H
 | .ct δ=>∀σ G H,Iv K ρ G0 H0 G H δ σ->D.ct σ H
 | .rt d=>∀v G H,Gr G0 H0 G H->Dw K ρ G v d->D.rt v H
noncomputable def pT(K:Frag)(ρ:List Addr)(t:TS)(f:DS->Option i5):Prop:=
 ∀(G0 H0 G:Hp)(σ:St)(H:Hp)(δ:DS)(o:i5)(D:oi),Iv K ρ G0 H0 G H δ σ->f δ=some o->T4 K ρ G0 H0 D o->t D σ H
theorem Iv.grow(I:Iv K ρ G0 H0 G H δ σ)(g:Gr G H G' H'):Iv K ρ G0 H0 G' H' δ σ:=⟨I.rl.grow g,I.gr.trans g,I.ow⟩
theorem Iv.sub(I:Iv K ρ G0 H0 G H δ σ)(R:Rl K ρ G H δ' σ')(o:gL δ' σ' δ σ):Iv K ρ G0 H0 G H δ' σ':=⟨R,I.gr,λi p ds h1 h2=>by
 obtain⟨es,h3,h4⟩:=o i ds p h1 h2;exact I.ow i p es h3 h4⟩
theorem Iv.base(I:Iv K ρ G0 H0 G H δ σ):Iv K ρ G H0 G H δ σ:=⟨I.rl,⟨.refl _,I.gr.h,I.gr.s,λ_ _ h=>h⟩,I.ow⟩
theorem Gr.rebase(a:Gr G0 H0 G H)(b:Gr G H0 G' H'):Gr G0 H0 G' H':=⟨a.g.trans b.g,b.h,b.s,λc h1 h2=>b.n c h1 (a.n c h1 h2)⟩
theorem Iv.rebase(a:Gr G0 H0 G H)(I:Iv K ρ G H0 G' H' δ σ):Iv K ρ G0 H0 G' H' δ σ:=⟨I.rl,a.rebase I.gr,I.ow⟩
noncomputable def ay:DS->Option i5:=λδ=>some (.nx δ)
theorem FW:pT K ρ IS ay:=λG0 H0 G σ H δ o D I e p=>by
 cases e;exact p σ G H I
noncomputable def bx(f g:DS->Option i5):DS->Option i5:=λδ=>match f δ with
 | some (.nx δ')=>g δ'
 | o=>o
theorem CQ(h1:pT K ρ t f)(h2:pT K ρ u g):pT K ρ (GE t u) (bx f g):=λG0 H0 G σ H δ o D I e p=>by
 unfold bx at e;cases ef:f δ with
 | none=>simp_all
 | some o1=>
  rw[ef]at e;refine h1 G0 H0 G σ H δ o1 _ I ef ?_;cases o1 with
  | nx δ'=>exact λσ' G' H' I'=>h2 G0 H0 G' _ H' _ o D I' e p
  | bk δ'=>cases e;exact p
  | ct δ'=>cases e;exact p
  | rt d=>cases e;exact p
noncomputable def cA(c:DS->Option Bool)(f g:DS->Option i5):DS->Option i5:=λδ=>(c δ).bind λb=>if b=true then f δ else g δ
theorem IV(hc:DT K ρ tc c)(h1:pT K ρ t f)(h2:pT K ρ u g):pT K ρ (K1 tc t u) (cA c f g):=λG0 H0 G σ H δ o D I e p=>by
 obtain⟨b,eb,e⟩:=oB e
 refine hc G σ H δ b _ I.rl eb λG1 H1 g1=>?_;cases b with
 | true=>exact h1 G0 H0 G1 σ H1 δ o D (I.grow g1) e p
 | false=>exact h2 G0 H0 G1 σ H1 δ o D (I.grow g1) e p
noncomputable def aO(f:DS->Option W):DS->Option i5:=λδ=>(f δ).map .rt
theorem Dk(h:DE K ρ t f):pT K ρ (K3 t) (aO f):=λG0 H0 G σ H δ o D I e p=>by
 obtain⟨d,ed,rfl⟩:=oM e
 exact h G σ H δ d _ I.rl ed λv G1 H1 g1 dv=>p v G1 H1 (I.gr.trans g1) dv
noncomputable def K2:DS->Option i5:=λ_=>some (.rt .none)
noncomputable def aH:DS->Option i5:=λ_=>none
theorem F9:pT K ρ t aH:=λG0 H0 G σ H δ o D I e p=>by cases e
noncomputable def bo(f:DS->Option W)(h:W->DS->Option DS):DS->Option i5:=λδ=>(f δ).bind λd=>(h d δ).map .nx
theorem D2(h1:DE K ρ t f)(h2:DG K ρ g h):pT K ρ (r9 t g) (bo f h):=λG0 H0 G σ H δ o D I e p=>by
 obtain⟨d,ed,e⟩:=oB e
 obtain⟨δ',e2,rfl⟩:=oM e
 exact h1 G σ H δ d _ I.rl ed λv G1 H1 g1 dv=>h2 G1 H1 δ σ v d _ _ (I.rl.grow g1) dv e2 λσ' R o=>p _ G1 H1 ((I.grow g1).sub R o)
noncomputable def kN(i:Nat)(f:DS->Option (List W)):DS->Option i5:=λδ=>(f δ).map λds=>.nx (δ.set i (.own ds))
theorem EB(h:DO K ρ t f):pT K ρ (r9 t (kO i)) (kN i f):=λG0 H0 G σ H δ o D I e p=>by
 obtain⟨ds,ed,rfl⟩:=oM e
 refine h G σ H δ ds _ I.rl ed λq vs G1 H1 g1 h0 g0 hh da=>?_;have I1:=I.grow g1;refine p _ G1 H1 ⟨I1.rl.setO g0 hh da λj es hj h1 h2=>?_,I1.gr,λj q' ds' h1 h2=>?_⟩
 . obtain⟨o,k1,q1,vs1,k2,k3,k4,_⟩:=I.rl.sl j _ h1
   simp_all
 . rcases cC h1 with⟨rfl,_,hl⟩ | ⟨ne,h1⟩
   . rw[ji (by grind)]at h2;cases h2;exact cR I.gr.h h0
   . rw[Ux ne]at h2;exact I.ow j q' _ h1 h2
noncomputable def frz(i:Nat)(δ:DS):DS:=match δ[i]? with
 | some (.own ds)=>δ.set i (.val (.list ds))
 | _=>δ
noncomputable def pG(i:Nat)(f:DS->Option i5):DS->Option i5:=λδ=>f (frz i δ)
theorem Iv.frz(i:Nat)(I:Iv K ρ G0 H0 G H δ σ):∃G',Iv K ρ G0 H0 G' H (L2.frz i δ) σ:=by
 unfold L2.frz;split
 . rename_i ds h;obtain⟨o,h1,p,vs,rfl,h3,h4,h5⟩:=I.rl.sl i _ h;have h0:=I.ow i p ds h h1;have g:bm G (cx G p (.lst vs)):=jH h3 _;refine⟨cx G p _,⟨⟨kt I.gr.s h4,by rw[U1];exact I.rl.len,λj s e=>?_,λj k q ds' es' k1 k2 k3 k4=>?_⟩,I.gr.new h0 h3 h4,λj q ds' k1 k2=>?_⟩⟩
   . rcases cC e with⟨rfl,rfl,hl⟩ | ⟨ne,e⟩
     . exact⟨_,h1,.ref p,rfl,.lst (c8.of aC) (h5.same g)⟩
     . obtain⟨o,k1,k2⟩:=I.rl.sl j s e;refine⟨o,k1,?_⟩;cases s with
       | no=>trivial
       | val d=>
        obtain⟨v,e1,e2⟩:=k2;exact⟨v,e1,e2.same g⟩
       | own es=>
        obtain⟨q,ws,rfl,e2,e3,e4⟩:=k2;refine⟨q,ws,rfl,?_,e3,e4.same g⟩;rw[aE]
        . exact e2
        . rintro rfl;exact ne (I.rl.apart i j q ds es h e h1 k1)
   all_goals
    rcases cC k1 with⟨_,z,_⟩ | ⟨ne,k1⟩
    . cases z
   . rcases cC k2 with⟨_,z,_⟩ | ⟨ne2,k2⟩
     . cases z
     . exact I.rl.apart j k q ds' es' k1 k2 k3 k4
   . exact I.ow j q ds' k1 k2
 grind
theorem Fx(h:pT K ρ t f):pT K ρ t (pG i f):=λG0 H0 G σ H δ o D I e p=>by
 obtain⟨G',I'⟩:=I.frz i;exact h G0 H0 G' σ H _ o D I' e p
noncomputable def bZ(h:W->DS->Option DS)(fb:DS->Option i5):List W->DS->Option i5
 | [],δ=>some (.nx δ)
 | d::ds,δ=>(h d δ).bind λδ2=>match fb δ2 with
  | some (.nx δ')=>bZ h fb ds δ'
  | some (.ct δ')=>bZ h fb ds δ'
  | some (.bk δ')=>some (.nx δ')
  | some (.rt d)=>some (.rt d)
  | none=>none
noncomputable def mX(fi:DS->Option (List W))(h:W->DS->Option DS)(fb:DS->Option i5):DS->Option i5:=λδ=>(fi δ).bind λds=>bZ h fb ds δ
theorem Dn(hi:DI K ρ wi fi)(hg:DG K ρ g h)(hb:pT K ρ tb fb):pT K ρ (LO wi g tb) (mX fi h fb):=λG0 H0 G σ H δ o D I e p=>by
 obtain⟨ds,ed,e⟩:=oB e
 refine hi G σ H δ ds _ I.rl ed λJ G1 H1 g1 it=>?_;refine⟨λi m σ H=>m=ds.length-i/\i<=ds.length/\∃G δ,Iv K ρ G0 H0 G H δ σ/\bm G1 G/\bZ h fb (ds.drop i) δ=some o,⟨ds.length,by simp,Vn _,G1,δ,I.grow g1,.refl _,by grind⟩,?_⟩;rintro i m σ2 H2 ⟨rfl,hil,G2,δ2,I2,s2,e2⟩;have ia:=it i G2 H2 s2 I2.gr.s;by_cases hlt:i<ds.length
 . refine .inr ?_;obtain⟨go,step⟩:=ia.1 _ (Uu _);rw[U0 hlt]at e2;obtain⟨δ3,e3,e4⟩:=oB e2
   have back:∀{G3 H3:Hp},Gr G2 H2 G3 H3->∀{G4 H4:Hp}{σ4:St}{δ4:DS},Iv K ρ G3 H0 G4 H4 _ _->Iv K ρ G0 H0 G4 H4 δ4 σ4/\bm G1 G4:=λ{G3 H3} g3 {G4 H4 σ4 δ4} I4=>⟨I4.rebase (I2.gr.trans g3),s2.trans (g3.g.trans I4.gr.g)⟩
   have again:∀δ',bZ h fb _ _=some o->fb _=some (.nx _)∨fb _=some (.ct _)->∃N:St->Hp->Prop,(∀σ' H',N σ' H'->∃m',m'<ds.length-i/\m'=ds.length-(i+1)/\i+1<=ds.length/\∃G δ,Iv K ρ G0 H0 G H' δ σ'/\bm G1 G/\bZ h fb (ds.drop (i+1)) δ=some o)/\∀x H',J.yld i H2 x H'->g x _ H' λσ2 H2=>tb { D with nx:=N,ct:=N,bk:=D.nx } σ2 H2:=λδ' ed' ef=>by
    refine⟨λσ' H'=>∃G',Iv K ρ G0 H0 G' H' δ' σ'/\bm G1 G',λσ' H' hy0=>by obtain⟨G',I',s'⟩:=hy0;exact⟨ds.length-(i+1),by omega,rfl,hlt,G',δ',I',s',ed'⟩,λx H' y=>?_⟩;obtain⟨G3,g3,dx⟩:=step x H' y;have I3:=I2.grow g3;refine hg G3 H' δ2 σ2 x _ δ3 _ I3.rl dx e3 λσ3 R3 o3=>?_;have I4:=(I3.sub R3 o3).base;rcases ef with ef | ef
    . exact hb G3 H0 G3 σ3 H' δ3 _ _ I4 ef λσ5 G5 H5 I5=>⟨G5,back g3 I5⟩
    . exact hb G3 H0 G3 σ3 H' δ3 _ _ I4 ef λσ5 G5 H5 I5=>⟨G5,back g3 I5⟩
   cases ef:fb δ3 with
   | none=>rw[ef]at e4;cases e4
   | some o1=>
    rw[ef]at e4;cases o1 with
    | nx δ'=>
     obtain⟨N,n1,n2⟩:=again δ' e4 (.inl ef);exact⟨go,N,n1,n2⟩
    | ct δ'=>
     obtain⟨N,n1,n2⟩:=again δ' e4 (.inr ef);exact⟨go,N,n1,n2⟩
    | bk δ'=>
     cases e4;refine⟨go,λ_ _=>False,λ_ _ z=>z.elim,λx H' y=>?_⟩;obtain⟨G3,g3,dx⟩:=step x H' y;have I3:=I2.grow g3;refine hg G3 H' δ2 σ2 x _ δ3 _ I3.rl dx e3 λσ3 R3 o3=>?_;exact hb G3 H0 G3 σ3 H' δ3 _ _ (I3.sub R3 o3).base ef λσ5 G5 H5 I5=>p σ5 G5 H5 (back g3 I5).1
    | rt d=>
     cases e4;refine⟨go,λ_ _=>False,λ_ _ z=>z.elim,λx H' y=>?_⟩;obtain⟨G3,g3,dx⟩:=step x H' y;have I3:=I2.grow g3;refine hg G3 H' δ2 σ2 x _ δ3 _ I3.rl dx e3 λσ3 R3 o3=>?_;exact hb G3 H0 G3 σ3 H' δ3 _ _ (I3.sub R3 o3).base ef λv G5 H5 g5 dv=>p v G5 H5 ((I2.gr.trans g3).rebase g5) dv
 . have hi':i=ds.length:=by omega
   subst hi';rw[VH]at e2;cases e2;exact .inl ⟨ia.2 (Ug _),p σ2 G2 H2 I2⟩
noncomputable def gR(i:Nat)(δ:DS):Option (List W):=match δ[i]? with
 | some (.own ds)=>some ds
 | _=>none
theorem iK{i:Nat}{δ:DS}{ds:List W}(h:gR i δ=some ds):δ[i]?=some (.own ds):=by
 unfold gR at h;split at h
 . rename_i e;cases h;exact e
 . cases h
theorem Iv.put(I:Iv K ρ G0 H0 G H δ σ)(h:δ[i]?=some (.own ds))(hp:σ[i]?=some (some (.ref p)))(g0:G p=none)(da:az K ρ G vs es):Iv K ρ G0 H0 G (cx H p (.lst vs)) (δ.set i (.own es)) σ:=by
 have h0:=I.ow i p ds h hp;have sG:bm G (cx H p (.lst vs)):=λb o e=>by
  rw[aE λz=>by simp_all];exact I.gr.s _ _ e
 refine⟨⟨sG,by rw[U1];exact I.rl.len,λj s e=>?_,λj k q ds' es' k1 k2 k3 k4=>?_⟩,⟨I.gr.g,λb o e=>?_,sG,I.gr.n⟩,λj q ds' k1 k2=>?_⟩
 . rcases cC e with⟨rfl,rfl,hl⟩ | ⟨ne,e⟩
   . exact⟨_,hp,p,vs,rfl,g0,aC,da⟩
   . obtain⟨o,k1,k2⟩:=I.rl.sl j s e;refine⟨o,k1,?_⟩;cases s with
     | no=>trivial
     | val d=>exact k2
     | own es2=>
      obtain⟨q,ws,rfl,e2,e3,e4⟩:=k2;refine⟨q,ws,rfl,e2,?_,e4⟩;rw[aE]
      . exact e3
      . rintro rfl;exact ne (I.rl.apart i j q ds es2 h e hp k1)
 . rcases cC k1 with⟨rfl,_,_⟩ | ⟨ne,k1⟩ <;> rcases cC k2 with⟨rfl,_,_⟩ | ⟨ne2,k2⟩
   . rfl
   . exact I.rl.apart _ _ q _ _ h k2 k3 k4
   . exact I.rl.apart _ _ q _ _ k1 h k3 k4
   . exact I.rl.apart _ _ q _ _ k1 k2 k3 k4
 . rw[aE (λz=>by rw[z,h0]at e;cases e)];exact I.gr.h _ _ e
 . rcases cC k1 with⟨rfl,_,_⟩ | ⟨ne,k1⟩
   . exact I.ow _ q _ h k2
   . exact I.ow j q _ k1 k2
noncomputable def cV(i:Nat)(f:DS->Option W):DS->Option i5:=λδ=>(gR i δ).bind λds=>(f δ).bind λd=>if ds.length<sizeLine then some (.nx (δ.set i (.own (ds++[d])))) else none
theorem tR(h:DE K ρ t f):pT K ρ (oC (F4 K "list" mv (uW i) (dM t gS))) (cV i f):=λG0 H0 G σ H δ o D I e p=>by
 obtain⟨ds,eo,e⟩:=oB e
 obtain⟨d,ed,e⟩:=oB e
 split at e
 case isFalse=>cases e
 rename_i hz;cases e;have ho:=iK eo;obtain⟨o,h1,q,vs,rfl,h3,h4,h5⟩:=I.rl.sl i _ ho;refine⟨.ref q,h1,.inl ⟨rfl,vs,c8.of h4⟩,h G σ H δ d _ I.rl ed λv G1 H1 g1 dv=>⟨q,vs,v,rfl,rfl,g1.h _ _ h4,by rw[h5.length];exact hz,?_⟩⟩;have I1:=I.grow g1;exact p σ G1 _ (I1.put ho h1 (g1.n q (.l h4) h3) ((h5.same g1.g).app (.cons dv .nil)))
noncomputable def kg(i:Nat)(f:DS->Option (List W)):DS->Option i5:=λδ=>(gR i δ).bind λds=>(f δ).bind λes=>if ds.length+es.length<=sizeLine then some (.nx (δ.set i (.own (ds++es)))) else none
theorem uk(h:DO K ρ t f):pT K ρ (oC (F4 K "list" vJ (uW i) (dM t gS))) (kg i f):=λG0 H0 G σ H δ o D I e p=>by
 obtain⟨ds,eo,e⟩:=oB e
 obtain⟨es,ed,e⟩:=oB e
 split at e
 case isFalse=>cases e
 rename_i hz;cases e;have ho:=iK eo;obtain⟨o,h1,q,vs,rfl,h3,h4,h5⟩:=I.rl.sl i _ ho;refine⟨.ref q,h1,.inl ⟨rfl,vs,c8.of h4⟩,h G σ H δ es _ I.rl ed λr ws G1 H1 g1 r0 gr0 hr da=>⟨q,r,vs,ws,rfl,rfl,g1.h _ _ h4,hr,by rw[h5.length,da.length];exact hz,?_⟩⟩;have I1:=I.grow g1;exact p σ G1 _ (I1.put ho h1 (g1.n q (.l h4) h3) ((h5.same g1.g).app da))
noncomputable def qC(i:Nat)(fi fv:DS->Option W):DS->Option i5:=λδ=>(fv δ).bind λd=>(gR i δ).bind λds=>(fi δ).bind λx=>match x with
 | .int k=>(xS ds.length k).map λj=>.nx (δ.set i (.own (ds.set j d)))
 | _=>none
end
section
variable{K:Frag}{ρ:List Addr}
noncomputable def oQ(K:Frag)(f:List W->Option W):Sp:=λvs H Q _=>∃ρ G ds d,bm G H/\az K ρ G vs ds/\f ds=some d/\∀v G' H',Gr G H G' H'->Dw K ρ G' v d->Q v H'
noncomputable def bz(f:List W->Option W)(fa:DS->Option (List W)):DS->Option W:=λδ=>(fa δ).bind f
theorem GH(h:DA K ρ t fa):DE K ρ (uc (oQ K f) [] E t) (bz f fa):=λG σ H δ d Q R e q=>by
 obtain⟨ds,ed,e⟩:=oB e
 exact h G σ H δ ds _ R ed λvs G1 H1 g1 da=>by
  refine⟨ρ,G1,ds,d,g1.s,?_,e,λv G2 H2 g2 dv=>q v G2 H2 (g1.trans g2) dv⟩
  simp_all
noncomputable def f6(n:Nat)(ds:List W):DS:=ds.map .val++List.replicate (n-ds.length) .no
noncomputable def Gy:Option i5->Option W
 | some (.rt d)=>some d
 | some (.nx _)=>some .none
 | _=>none
noncomputable def cD(a n:Nat)(fb:DS->Option i5):List W->Option W:=λds=>if ds.length=a then Gy (fb (f6 n ds)) else none
theorem tW(h:cD a n fb ds=some d):ds.length=a:=by
 unfold cD at h
 simp_all
theorem HX(hf:∀ds d,f ds=some d->ds.length=a)(h:oQ K f vs H Q E):vs.length=a:=by
 obtain⟨ρ,G,ds,d,s,da,e,q⟩:=h;rw[da.length]
 simp_all
theorem iV{n:Nat}{ds:List W}{i:Nat}{es:List W}:(f6 n ds)[i]?≠some (.own es):=by
 unfold f6;intro h;rcases VW i (ds.map Sl.val).length with hl | hl
 . rw[UA hl,UT]at h;obtain⟨d,_,e⟩:=oM h
   cases e
 . rw[UO hl,Vr]at h;split at h <;> cases h
theorem xb{G H:Hp}{N:List Str}{vs:List V}{ds:List W}(s:bm G H)(h:az K ρ G vs ds):Rl K ρ G H (f6 N.length ds) (start N vs):=by
 refine⟨s,by simp[f6,start,h.length],λi sl e=>?_,λi j p ds' es' h1=>absurd h1 iV⟩;unfold f6 at e;unfold start;rcases VW i ds.length with hl | hl
 . rw[UA (by simpa using hl),UT]at e;obtain⟨d,e1,rfl⟩:=oM e
   obtain⟨v,h1,h2⟩:=h.get e1;refine⟨some v,?_,v,rfl,h2⟩;rw[UA (by simp[h.length];exact hl),UT,h1];rfl
 . rw[UO (by simpa using hl),Vr]at e;split at e
   . cases e;rename_i hlt;refine⟨none,?_,trivial⟩;rw[UO (by simp[h.length];exact hl),Vr,Ul];simp only[Uj]at hlt ⊢;rw[h.length];exact hlt
   . cases e
theorem Rf(hn:N.length=n)(h:∀ρ,pT K ρ t fb)(hsp:oQ K (cD a n fb) vs H Q E):t { nx:=λ_ H'=>Q .non H',rt:=Q } (start N vs) H:=by
 subst hn;obtain⟨ρ,G,ds,d,s,da,e,q⟩:=hsp;have R:=xb (N:=N) s da;have I:Iv K ρ G H G H _ _:=⟨R,.refl s,λi p ds' h1=>absurd h1 iV⟩
 unfold cD at e;rw[Ul (tW (show cD a _ fb ds=some d from e))]at e;cases ef:fb _ with
 | none=>rw[ef]at e;cases e
 | some o=>
  rw[ef]at e;refine h ρ G H G _ H _ o _ I ef ?_;cases o with
  | nx δ=>cases e;exact λσ' G' H' I'=>q _ G' H' I'.gr .non
  | rt d'=>cases e;exact λv G' H' g dv=>q v G' H' g dv
  | bk _=>cases e
  | ct _=>cases e
end
noncomputable def JP(K:Frag):R2:=λx y H Q=>∃l b xs zs,x=.ref l/\y=.ref b/\c8 K H l xs/\c8 K H b zs/\xs.length+zs.length<=sizeLine/\∀p H',Nw H H' p (.lst (xs++zs))->Q (.ref p) H'
theorem H9:gz X (binaryOp .Add) (JP X.K):=by
 intro pins s σ H x y v u Q I rx ry h;obtain⟨l,b,xs,zs,rfl,rfl,hH,hB,hz,q⟩:=h;cases rx;cases ry;obtain⟨its,r,hl,_⟩:=I.list hH;obtain⟨its2,r2,hb,_⟩:=I.list hB;obtain⟨⟨cls,dd,data,sl⟩,n,ho,hc,hdd,hd⟩:=hl;obtain⟨⟨cls2,dd2,data2,sl2⟩,n2,ho2,hc2,hdd2,hd2⟩:=hb;subst hc hd hc2 hd2;have e:its.toArray++its2.toArray=(its++its2).toArray:=by simp
 refine concat_meets ⟨_,ho,rfl⟩ ⟨_,ho2,rfl⟩ noFill_list_add seq_list_add PySem.F.slot_list_add PySem.F.entry_list_add (PySem.F.args_list_add_2 _ _) (list_addW l b _ _ n n2 dd _ sl _ (by rw[UG,UG,<-r.length,<-r2.length];exact hz)) ⟨ho,ho2,?_⟩;rw[e];exact⟨.ref _,_,I.lnew  (r.append r2) (by simp_all),rfl,q _ _ (.of I.fresh)⟩
noncomputable def Ht:R2:=λx y H Q=>∃i j,x=.str i/\y=.str j/\i.length+j.length<=sizeLine/\Q (.str (i++j)) H
noncomputable def CG(K:Frag):R2:=λx y H Q=>zQ (λi j=>.int (i+j)) x y H Q∨Ht x y H Q∨JP K x y H Q∨IT K x y H Q
theorem HL{K:Frag}(h:X.K=K):gz X (binaryOp .Add) (CG K):=h▸Mi.or (yo.or (H9.or FQ))
section
variable{K:Frag}{ρ:List Addr}
noncomputable def bp:W->W->Option W
 | .int i,.int j=>some (.int (i+j))
 | .str i,.str j=>if i.length+j.length<=sizeLine then some (.str (i++j)) else none
 | .list a,.list b=>if a.length+b.length<=sizeLine then some (.list (a++b)) else none
 | .tuple a,.tuple b=>if a≠[]/\a.length+b.length<=sizeLine then some (.tuple (a++b)) else none
 | _,_=>none
theorem vC(h:Pk K ρ G H v (.int i)):v=.int i:=by
 rcases h with h | ⟨_,_,_,_,e,_⟩
 . exact cQ h
 . cases e
theorem n5(h:Pk K ρ G H v (.str i)):v=.str i:=by
 rcases h with h | ⟨_,_,_,_,e,_⟩
 . exact rj h
 . cases e
theorem jc(s:bm G H)(h:Pk K ρ G H v (.list ds)):∃p vs,v=.ref p/\c8 K H p vs/\az K ρ G vs ds:=by
 rcases h with h | ⟨p,vs,es,rfl,e,h1,h2⟩
 . cases h with
   | lst sq da=>exact⟨_,_,rfl,s.seq sq,da⟩
 . cases e;exact⟨p,vs,rfl,c8.of h1,h2⟩
theorem ya{G:Hp}{v:V}{ds:List W}(h:Dw K ρ G v (.list ds)):∃p vs,v=.ref p/\c8 K G p vs/\az K ρ G vs ds:=by
 cases h with
 | lst sq da=>exact⟨_,_,rfl,sq,da⟩
theorem rF(h:Dw K ρ G v (.tuple ds)):∃p vs,v=.ref p/\G p=some (.tup vs)/\az K ρ G vs ds:=by
 cases h with
 | tup sq da=>simp_all
theorem qo(h:Pk K ρ G H v (.tuple ds)):∃p vs,v=.ref p/\G p=some (.tup vs)/\az K ρ G vs ds:=by
 rcases h with h | ⟨_,_,_,_,e,_⟩
 . exact rF h
 . cases e
theorem En:DR K ρ (CG K) bp:=λG H x y d e c Q s hx hy hg q=>by
 cases d with
 | int i=>
  cases e with
  | int j=>
   cases hg;cases vC hx;cases cQ hy;exact .inl ⟨_,_,rfl,rfl,q _ G H (.refl s) (.int _)⟩
  | _=>cases hg
 | str a=>
  cases e with
  | str b=>
   by_cases hz:a.length+b.length<=sizeLine
   . cases(Ul hz).symm.trans hg;cases n5 hx;cases rj hy;exact .inr (.inl ⟨_,_,rfl,rfl,hz,q _ G H (.refl s) (.str _)⟩)
   . cases(UE hz).symm.trans hg
  | _=>cases hg
 | list a=>
  cases e with
  | list b=>
   by_cases hz:a.length+b.length<=sizeLine
   . cases(Ul hz).symm.trans hg;obtain⟨p,vs,rfl,sq,da⟩:=jc s hx;obtain⟨p2,vs2,rfl,sq2,da2⟩:=ya hy;refine .inr (.inr (.inl ⟨p,p2,vs,vs2,rfl,rfl,sq,s.seq sq2,by rw[da.length,da2.length];exact hz,λl H' n=>?_⟩));have g:=Gr.nw s n;exact q _ _ H' g (.lst (c8.of aC) ((da.same g.g).app (da2.same g.g)))
   . cases(UE hz).symm.trans hg
  | _=>cases hg
 | tuple a=>
  cases e with
  | tuple b=>
   by_cases hz:a≠[]/\a.length+b.length<=sizeLine
   . cases(Ul hz).symm.trans hg;obtain⟨p,vs,rfl,sq,da⟩:=qo hx;obtain⟨p2,vs2,rfl,sq2,da2⟩:=rF hy;refine .inr (.inr (.inr ⟨p,p2,vs,vs2,rfl,rfl,s.tup (fj.of sq),s.tup (fj.of sq2),?_,by rw[da.length,da2.length];exact hz.2,λe=>?_,λe l hl=>?_⟩))
     . rintro rfl;cases da;exact hz.1 rfl
     . subst e;cases da2;rw[UK]at q;exact q _ G H (.refl s) (.tup sq da)
     . have g:=Gr.nw s (Nw.of (o:=.tup (vs++vs2)) hl);exact q _ _ _ g (.tup aC ((da.same g.g).app (da2.same g.g)))
   . cases(UE hz).symm.trans hg
  | _=>cases hg
 | _=>cases hg
noncomputable def OC:W->W->Option (List W)
 | .list a,.list b=>if a.length+b.length<=sizeLine then some (a++b) else none
 | _,_=>none
noncomputable def Px(fa fb:DS->Option W):DS->Option (List W):=λδ=>(fa δ).bind λx=>(fb δ).bind λy=>OC x y
noncomputable def gI(f:Int->Int->Int):W->W->Option W
 | .int i,.int j=>some (.int (f i j))
 | _,_=>none
noncomputable def JD(C:Int->Int->Bool)(f:Int->Int->Int):W->W->Option W
 | .int i,.int j=>if C i j=true then some (.int (f i j)) else none
 | _,_=>none
theorem OX:DR K ρ (zQ λi j=>.int (f i j)) (gI f):=λG H x y d e c Q s hx hy hg q=>by
 unfold gI at hg;split at hg
 . cases hg;cases vC hx;cases cQ hy;exact⟨_,_,rfl,rfl,q _ G H (.refl s) (.int _)⟩
 . cases hg
theorem CB(hC:∀i j,Cb i j=true->C i j):DR K ρ (rI C λi j=>.int (f i j)) (JD Cb f):=λG H x y d e c Q s hx hy hg q=>by
 unfold JD at hg;split at hg
 . split at hg
   . rename_i hc;cases hg;cases vC hx;cases cQ hy;exact⟨_,_,rfl,rfl,hC _ _ hc,q _ G H (.refl s) (.int _)⟩
   . cases hg
 . cases hg
noncomputable def gSub':W->W->Option W:=gI λi j=>i-j
theorem Lz:DR K ρ (zQ λi j=>.int (i-j)) gSub':=OX
theorem yA:2^200<2^512:=Nat.pow_lt_pow_right (by decide) (by decide)
noncomputable def qS(i j:Int):Bool:=decide (i.natAbs<2^64)||decide (j.natAbs<2^64)||(decide (i.natAbs<2^200)&&decide (j.natAbs<2^200))
noncomputable def JG(i j:Int):Prop:=Il i j∨Jy i j
theorem QD:gz X (binaryOp .Mult) (rI JG λi j=>.int (i*j)):=λpins s σ H x y v u Q I rx ry h=>by
 obtain⟨i,j,e1,e2,hc,q⟩:=h;rcases hc with hc | hc
 . exact LQ _ s σ H x y v u Q I rx ry ⟨i,j,e1,e2,hc,q⟩
 . exact Ic _ s σ H x y v u Q I rx ry ⟨i,j,e1,e2,hc,q⟩
noncomputable def vW(i j:Int):Bool:=decide (j≠0)&&decide (j.natAbs<2^200)
noncomputable def wP(i j:Int):Bool:=decide (j≠0)
noncomputable def lQ:W->W->Option W:=JD qS λi j=>i*j
noncomputable def iZ:W->W->Option W:=JD vW λi j=>i.fdiv j
noncomputable def ij:W->W->Option W:=JD wP λi j=>i.fmod j
theorem Lw:DR K ρ (rI JG λi j=>.int (i*j)) lQ:=CB λi j h=>by
 simp only[qS,Uz,VQ,UC]at h;rcases h with(h | h) | h
 . exact .inl (.inl ⟨by omega,by omega⟩)
 . exact .inl (.inr ⟨by omega,by omega⟩)
 . exact .inr ⟨Vv h.1 yA,Vv h.2 yA⟩
theorem Kj:DR K ρ (rI Jb λi j=>.int (i.fdiv j)) iZ:=CB λi j h=>by
 simp only[vW,Uz,UC]at h;exact⟨h.1,Vv h.2 yA⟩
theorem Lj:DR K ρ (rI (λ_ j=>j≠0) λi j=>.int (i.fmod j)) ij:=CB λi j h=>by simpa[wP] using h
noncomputable def pJ:W->Option W
 | .int i=>some (.int (-i))
 | _=>none
noncomputable def FJ(g:W->Option W)(f:DS->Option W):DS->Option W:=λδ=>(f δ).bind g
theorem LV(h:DE K ρ t f):DE K ρ (Tb (rU λi=>.int (-i)) t) (FJ pJ f):=λG σ H δ d Q R e q=>by
 obtain⟨x,ex,e⟩:=oB e
 refine h G σ H δ x _ R ex λv G1 H1 g1 dv=>?_;unfold pJ at e;split at e
 . cases e;cases cQ dv;exact⟨_,rfl,q _ G1 H1 g1 (.int _)⟩
 . cases e
noncomputable def cI(p:Int->Int->Bool):W->W->Option Bool
 | .int i,.int j=>some (p i j)
 | _,_=>none
theorem Lu:DB K ρ (zQ λi j=>.bl (p i j)) (cI p):=λH x y d e b Q hx hy hg q=>by
 unfold cI at hg;split at hg
 . cases hg;cases cQ hx;cases cQ hy;exact⟨_,_,rfl,rfl,q⟩
 . cases hg
noncomputable def BM:W->W->Option Bool:=cI λi j=>decide (i<j)
noncomputable def N2:W->W->Option Bool:=cI λi j=>decide (i<=j)
noncomputable def zB:W->W->Option Bool:=cI λi j=>decide (j<i)
noncomputable def TL:W->W->Option Bool:=cI λi j=>decide (j<=i)
theorem Pa:DB K ρ (zQ λi j=>.bl (decide (i<j))) BM:=Lu
theorem NZ:DB K ρ (zQ λi j=>.bl (decide (i<=j))) N2:=Lu
theorem Oz:DB K ρ (zQ λi j=>.bl (decide (j<i))) zB:=Lu
noncomputable def Qm:W->Bool
 | .none=>true
 | _=>false
noncomputable def uq:W->W->Option Bool
 | d,.none=>some (Qm d)
 | _,_=>none
theorem zF(h:Dw K ρ H x d):decide (x=.non)=Qm d:=by
 cases h <;> simp[Qm]
theorem Ly:DB K ρ (λx y H Q=>y=.non/\Q (.bl (decide (x=.non))) H) uq:=λH x y d e b Q hx hy hg q=>by
 unfold uq at hg;split at hg
 . cases hg;cases yK hy;exact⟨rfl,by rw[zF hx];exact q⟩
 . cases hg
noncomputable def iQ:W->W->Option Bool
 | d,.none=>some (!(Qm d))
 | _,_=>none
theorem Hs:DB K ρ (λx y H Q=>y=.non/\Q (.bl (!decide (x=.non))) H) iQ:=λH x y d e b Q hx hy hg q=>by
 unfold iQ at hg;split at hg
 . cases hg;cases yK hy;exact⟨rfl,by rw[zF hx];exact q⟩
 . cases hg
noncomputable def Tz:W->Option Bool
 | .none=>some true
 | .int _=>some false
 | .bool _=>some false
 | .str _=>some false
 | _=>none
noncomputable def TV(i:Int):W->Option Bool
 | .none=>some false
 | .int j=>some (decide (i=j))
 | .str _=>some false
 | _=>none
noncomputable def TN(i:Bool):W->Option Bool
 | .none=>some false
 | .bool j=>some (decide (i=j))
 | .str _=>some false
 | _=>none
noncomputable def TM(i:Str):W->Option Bool
 | .none=>some false
 | .int _=>some false
 | .bool _=>some false
 | .str j=>some (decide (i=j))
 | _=>none
noncomputable def Qn:W->W->Option Bool
 | .none,e=>Tz e
 | .int i,e=>TV i e
 | .bool i,e=>TN i e
 | .str i,e=>TM i e
 | _,_=>none
theorem yy(hx:Dw K ρ H x d)(hy:Dw K ρ H y e)(h:Qn d e=some b):Lb x y=true/\decide (x=y)=b:=by
 cases hx with
 | non=>cases hy <;> first | (cases h;exact⟨rfl,by simp⟩) | cases h
 | int i=>cases hy <;> first | (cases h;exact⟨rfl,by simp⟩) | cases h
 | bl i=>cases hy <;> first | (cases h;exact⟨rfl,by simp⟩) | cases h
 | str i=>cases hy <;> first | (cases h;exact⟨rfl,by simp⟩) | cases h
 | _=>cases h
noncomputable def bM(d e:W):Option Bool:=match Qn d e with
 | some b=>some b
 | none=>d.py.bind λa=>e.py.bind λb=>if(a.canLay0&&b.canLay0&&decide (a.depth<=64))=true then some (PyData.eqv a b) else none
noncomputable def K5(K:Frag):R2:=λx y H Q=>Tw x y H Q∨HM K false x y H Q
noncomputable def KN(K:Frag):R2:=λx y H Q=>SF x y H Q∨HM K true x y H Q
theorem RZ(h:X.K=K)(hu:X.A.units+64<cLine):gz X (compareOp .Eq) (K5 K):=h▸OH.or (Na hu)
theorem Sg(h:X.K=K)(hu:X.A.units+64<cLine):gz X (compareOp .NotEq) (KN K):=h▸Pl.or (LB hu)
theorem Ph:DB K ρ (K5 K) bM:=λH x y d e b Q hx hy hg q=>by
 unfold bM at hg;split at hg
 . rename_i b' hb;cases hg;obtain⟨h1,h2⟩:=yy hx hy hb;exact .inl ⟨h1,by simp_all⟩
 . obtain⟨a,ea,hg⟩:=oB hg
   obtain⟨b,eb,hg⟩:=oB hg
   split at hg
   . rename_i hc;cases hg;simp only[Uz,UC]at hc;exact .inr ⟨a,b,hx.dp ea,hy.dp eb,hc.1.1,hc.1.2,hc.2,q⟩
   . cases hg
noncomputable def ng(d e:W):Option Bool:=(bM d e).map (!·)
theorem NG:DB K ρ (KN K) ng:=λH x y d e b Q hx hy hg q=>by
 obtain⟨c,hg',rfl⟩:=oM hg
 unfold bM at hg';split at hg'
 . rename_i b' hb;cases hg';obtain⟨h1,h2⟩:=yy hx hy hb;exact .inl ⟨h1,by simp_all⟩
 . obtain⟨a,ea,hg'⟩:=oB hg'
   obtain⟨b,eb,hg'⟩:=oB hg'
   split at hg'
   . rename_i hc;cases hg';simp only[Uz,UC]at hc;exact .inr ⟨a,b,hx.dp ea,hy.dp eb,hc.1.1,hc.1.2,hc.2,q⟩
   grind
noncomputable def aW:W->W->Option W
 | .list ds,.int i=>jC ds i
 | .tuple ds,.int i=>jC ds i
 | .str z,.int i=>if z.length<=sizeLine then(jC z.cps.toList i).map λc=>.str ⟨#[c]⟩ else none
 | _,_=>none
theorem az.at(h:az K ρ G vs ds)(e:jC ds i=some d):∃v,jC vs i=some v/\Dw K ρ G v d:=by
 unfold jC at e ⊢;rw[h.length];obtain⟨j,h1,h2⟩:=oB e
 obtain⟨v,h3,h4⟩:=h.get h2
 simp_all
theorem Jd:DR K ρ (QH K) aW:=λG H x y d e c Q s hx hy hg q=>by
 cases e with
 | int i=>
  cases cQ hy;cases d with
  | list ds=>
   obtain⟨p,vs,rfl,sq,da⟩:=jc s hx;obtain⟨v,h1,h2⟩:=da.at hg;exact .inl ⟨p,vs,_,v,rfl,rfl,sq,h1,q v G H (.refl s) h2⟩
  | tuple ds=>
   obtain⟨p,vs,rfl,sq,da⟩:=qo hx;obtain⟨v,h1,h2⟩:=da.at hg;exact .inr (.inl ⟨p,vs,_,v,rfl,rfl,s.tup (fj.of sq),h1,q v G H (.refl s) h2⟩)
  | str z=>
   by_cases hz:z.length<=sizeLine
   . obtain⟨c',h1,rfl⟩:=oM ((Ul hz).symm.trans hg)
     cases n5 hx;exact .inr (.inr ⟨_,_,c',rfl,rfl,hz,h1,q _ G H (.refl s) (.str _)⟩)
   . cases(UE hz).symm.trans hg
  | _=>cases hg
 | _=>cases d <;> cases hg
noncomputable def dS(xs:List W)(lo hi:Option Int):List W:=(xs.drop (HT.sIx xs.length 0 lo)).take (HT.sIx xs.length xs.length hi-HT.sIx xs.length 0 lo)
theorem az.cut(h:az K ρ G vs ds)(lo hi:Option Int):az K ρ G (wX vs lo hi) (dS ds lo hi):=by
 unfold wX dS;rw[h.length];exact(h.drop _).take _
noncomputable def HD(K:Frag)(ρ:List Addr)(t:TO)(f:DS->Option (Option Int)):Prop:=
 ∀(G:Hp)(σ:St)(H:Hp)(δ:DS)(x:Option Int)(Q:Option Int->Hp->Prop),Rl K ρ G H δ σ->f δ=some x->(∀G' H',Gr G H G' H'->Q x H')->t σ H Q
noncomputable def b8:DS->Option (Option Int):=λ_=>some none
noncomputable def Gw:W->Option Int
 | .int i=>some i
 | _=>none
theorem qJ(h:Gw d=some i):d=.int i:=by
 cases d <;> first | (cases h;rfl) | cases h
noncomputable def b9(f:DS->Option W):DS->Option (Option Int):=λδ=>(f δ).bind λd=>(Gw d).map some
theorem Eh:HD K ρ vz b8:=λG σ H δ x Q R e q=>by
 cases e;exact q G H (.refl R.sub)
theorem Dg{t:TE}{f:DS->Option W}(h:DE K ρ t f):HD K ρ (Do t) (b9 f):=λG σ H δ x Q R e q=>by
 obtain⟨d,ed,e⟩:=oB e
 obtain⟨i,ei,rfl⟩:=oM e
 cases qJ ei;exact h G σ H δ _ _ R ed λv G1 H1 g1 dv=>by
  cases cQ dv;exact⟨i,rfl,q G1 H1 g1⟩
noncomputable def kQ:W->Option (List W)
 | .list ds=>some ds
 | _=>none
theorem fP(h:kQ d=some ds):d=.list ds:=by
 cases d <;> first | (cases h;rfl) | cases h
noncomputable def fQ(f:DS->Option W)(lo hi:DS->Option (Option Int)):DS->Option (List W):=λδ=>(f δ).bind λd=>(kQ d).bind λds=>(lo δ).bind λl=>(hi δ).map λu=>dS ds l u
theorem Mj{lo hi:DS->Option (Option Int)}(h:DK K ρ t f)(hl:HD K ρ tl lo)(hh:HD K ρ th hi):DO K ρ (Og (Ds K) t tl th) (fQ f lo hi):=λG σ H δ ds Q R e q=>by
 obtain⟨d,ed,e⟩:=oB e
 obtain⟨es,ee,e⟩:=oB e
 obtain⟨l,el,e⟩:=oB e
 obtain⟨u,eu,rfl⟩:=oM e
 cases fP ee;refine h G σ H δ _ _ R ed λv G1 H1 g1 dv=>hl G1 σ H1 δ l _ (R.grow g1) el λG2 H2 g2=>hh G2 σ H2 δ u _ ((R.grow g1).grow g2) eu λG3 H3 g3=>?_;have g23:=g2.trans g3;obtain⟨p,vs,rfl,sq,da⟩:=jc g23.s (dv.grow g23);refine⟨p,vs,rfl,sq,λr H' n=>?_⟩;have g:=g1.trans g23;exact q r _ G3 H' (g.trans (.nwO g.s n)) (cR g.h n.2.1) (cR g.s n.2.1) n.2.2 (da.cut l u)
noncomputable def Jx(K:Frag)(ρ:List Addr)(r:List V->Hp->VK->Prop)(g:W->Option W):Prop:=
 ∀(G H:Hp)(x:V)(d c:W)(Q:VK),bm G H->Pk K ρ G H x d->g d=some c->(∀v G' H',Gr G H G' H'->Dw K ρ G' v c->Q v H')->r [x] H Q
noncomputable def cp(g:W->Option W)(f:DS->Option W):DS->Option W:=λδ=>(f δ).bind g
theorem NC(hr:Jx K ρ r g)(h:DK K ρ t f):DE K ρ (vQ r (dM t gS)) (cp g f):=λG σ H δ d Q R e q=>by
 obtain⟨x,ex,e⟩:=oB e
 exact h G σ H δ x _ R ex λv G1 H1 g1 dv=>hr G1 H1 v x d Q g1.s dv e λu G2 H2 g2 du=>q u G2 H2 (g1.trans g2) du
noncomputable def Aa(K:Frag):List V->Hp->VK->Prop:=λxs H Q=>OB K xs H Q∨IR xs H Q
theorem B6(h:X.K=K):bV X (.builtin "len") (Aa K):=(sJ h).or sQ
noncomputable def bw:W->Option W
 | .list ds=>some (.int ds.length)
 | .tuple ds=>some (.int ds.length)
 | .str z=>if z.length<=sizeLine then some (.int z.length) else none
 | _=>none
theorem Cm:Jx K ρ (Aa K) bw:=λG H x d c Q s hx hg q=>by
 unfold bw at hg;split at hg
 . cases hg;obtain⟨p,vs,rfl,sq,da⟩:=jc s hx;exact .inl ⟨p,vs,rfl,.inl sq,by rw[da.length];exact q _ G H (.refl s) (.int _)⟩
 . cases hg;obtain⟨p,vs,rfl,sq,da⟩:=qo hx;exact .inl ⟨p,vs,rfl,.inr (s.tup (fj.of sq)),by rw[da.length];exact q _ G H (.refl s) (.int _)⟩
 . split at hg
   . rename_i hz;cases hg;cases n5 hx;exact .inr ⟨_,rfl,hz,q _ G H (.refl s) (.int _)⟩
   . cases hg
 . cases hg
noncomputable def mT(f:DS->Option W):DS->Option (List W):=λδ=>(f δ).bind wV
theorem HY(h:DK K ρ t f):DO K ρ (vQ (uB K) (dM t gS)) (mT f):=λG σ H δ ds Q R e q=>by
 obtain⟨x,ex,e⟩:=oB e
 refine h G σ H δ x _ R ex λv G1 H1 g1 dv=>?_;have fin  := λvs l da hl=>by
  have n:Nw H1 _ l (.lst vs):=.of hl;exact q l vs G1 _ (g1.trans (.nwO g1.s n)) (cR g1.h hl) (cR g1.s hl) aC da
 unfold wV at e;split at e
 . cases e;obtain⟨p,vs,rfl,sq,da⟩:=jc g1.s dv;exact⟨p,vs,rfl,.inl sq,λl hl=>fin vs l da hl⟩
 . cases e;obtain⟨p,vs,rfl,sq,da⟩:=qo dv;exact⟨p,vs,rfl,.inr (g1.s.tup (fj.of sq)),λl hl=>fin vs l da hl⟩
 . cases e
noncomputable def lM(T:String):W->Option W
 | .int i=>(F3 (.int i) T).map .bool
 | .bool i=>(F3 (.bl i) T).map .bool
 | .str i=>(F3 (.str i) T).map .bool
 | _=>none
theorem Ma(h:DE K ρ t f):DE K ρ (vQ Hh (dM t (dM (tC (.ty T)) gS))) (cp (lM T) f):=λG σ H δ d Q R e q=>by
 obtain⟨x,ex,e⟩:=oB e
 refine h G σ H δ x _ R ex λv G1 H1 g1 dv=>?_;unfold lM at e;split at e;all_goals first
  | cases e
  | (obtain⟨k,ek,rfl⟩:=oM e
     cases dv;exact⟨_,T,k,rfl,ek,q _ G1 H1 g1 (.bl k)⟩)
theorem zq(hv:DE K ρ te fv)(hi:DE K ρ ti fi):pT K ρ (r9 te (MT (uW i) ti Cy)) (qC i fi fv):=λG0 H0 G σ H δ o D I e p=>by
 obtain⟨d,ed,e⟩:=oB e
 obtain⟨ds,eo,e⟩:=oB e
 obtain⟨x,ex,e⟩:=oB e
 have ho:=iK eo;refine hv G σ H δ d _ I.rl ed λv G1 H1 g1 dv=>?_;have I1:=I.grow g1;obtain⟨o',h1,q,vs,rfl,h3,h4,h5⟩:=I1.rl.sl i _ ho;refine⟨.ref q,h1,hi G1 σ H1 δ x _ I1.rl ex λu G2 H2 g2 du=>?_⟩;have I2:=I1.grow g2;split at e
 . obtain⟨j,ej,rfl⟩:=oM e
   cases cQ du;exact⟨q,vs,_,j,rfl,rfl,g2.h _ _ h4,by rw[h5.length];exact ej,p σ G2 _ (I2.put ho h1 (g2.n q (.l h4) h3) (az.set (dv.same g2.g) j (h5.same g2.g)))⟩
 . cases e
end
section
variable{X:Cx}{tg:Expr}
end
section
variable{K:Frag}{ρ:List Addr}
end
theorem wb:∀{ns:List Int}{its:List Value},aV (ns.map V.int) its->∃l:List (Int×Tok),its=l.map (λp=>.int p.1 p.2)/\l.map (·.1)=ns
 | [],_,.nil=>⟨[],rfl,rfl⟩
 | n::ns,_,.cons r t=>by
  obtain⟨l,e1,e2⟩:=wb t;obtain⟨tk,rfl⟩:=r;exact⟨(n,tk)::l,by rw[e1];rfl,by rw[Uk,e2]⟩
noncomputable def zw(K:Frag):List V->Hp->VK->Prop:=λxs H Q=>∃(a:Addr) (ns:List Int),xs=[.ref a]/\c8 K H a (ns.map V.int)/\PySem.SumFits ns/\Q (.int ns.sum) H
section
variable{X:Cx}
theorem Ex(l:List (Int×Tok)):(l.map (λp=>Value.int p.1 p.2)).toArray=intItems l.toArray:=by simp[intItems]
theorem call_sum'(hc:X.calm=true):bV X (.builtin "sum") (zw X.K):=by
 intro pins s σ H xs us Q I r h;obtain⟨a,ns,rfl,hq,hf,q⟩:=h;obtain⟨u,rfl,ru⟩:=jE r;cases ru;obtain⟨its,rv,pl,_⟩:=I.list hq;obtain⟨l,rfl,rfl⟩:=wb rv;refine sum_intList (xs:=l.toArray) (I.ok.hd hc) (by rw[<-Ex];exact pl.isList) (λj hj=>?_) λh' tk t' hk=>?_
 . rw[numAt_eq,preSum_eq];exact hf j (by simpa using hj)
 . rw[preSum_eq,Vx (by simp)];exact⟨.int _,H,I.kept hk,⟨_,rfl⟩,q⟩
theorem Be{K:Frag}(h:X.K=K)(hc:X.calm=true):bV X (.builtin "sum") (zw K):=h▸call_sum' hc
end
section
variable{K:Frag}{ρ:List Addr}
noncomputable def xt:List W->Option (List Int)
 | []=>some []
 | d::ds=>(Gw d).bind λi=>(xt ds).map (i::·)
theorem qy:∀{vs:List V}{ds:List W}{ns:List Int},az K ρ G vs ds->xt ds=some ns->vs=ns.map V.int
 | _,_,_,.nil,e=>by cases e;rfl
 | _,_,_,.cons h t,e=>by
  obtain⟨i,e1,e⟩:=oB e
  obtain⟨ms,e2,rfl⟩:=oM e
  cases qJ e1;cases cQ h;rw[qy t e2];rfl
noncomputable def DV(ns:List Int):Bool:=ns.all (λn=>decide (n.natAbs<2^40))&&decide (ns.length<=1000000)
theorem Aw:∀(ns:List Int),(∀n∈ns,n.natAbs<2^40)->ns.sum.natAbs<=ns.length*2^40
 | [],_=>by simp
 | n::ns,h=>by
  have h1:=h n (by simp);have h2:=Aw ns λm hm=>h m (by simp[hm]);rw[VO,Ud];omega
theorem Gq(h:DV ns=true):PySem.SumFits ns:=by
 simp only[DV,Uz,UI,UC]at h;intro j hj;have a  := getD_mem hj;have h1:=h.1 _ a;have h2:=Aw (ns.take (j+1)) λn hn=>h.1 n (List.mem_of_mem_take hn);have h3:(ns.take (j+1)).length<=1000000:=by grind
 unfold InLong
 grind
noncomputable def vd(d:W):Option W:=(kQ d).bind λds=>(xt ds).bind λns=>if DV ns=true then some (.int ns.sum) else none
theorem MQ:Jx K ρ (zw K) vd:=λG H x d c Q s hx hg q=>by
 obtain⟨ds,e1,hg⟩:=oB hg
 obtain⟨ns,e2,hg⟩:=oB hg
 split at hg
 . rename_i hf;cases hg;cases fP e1;obtain⟨p,vs,rfl,sq,da⟩:=jc s hx;rw[qy da e2]at sq;exact⟨p,ns,rfl,sq,Gq hf,q _ G H (.refl s) (.int _)⟩
 . cases hg
end
theorem Mq(i j:Int):bp (.int i) (.int j)=some (.int (i+j)):=rfl
theorem iw(h:a.length+b.length<=sizeLine):bp (.list a) (.list b)=some (.list (a++b)):=Ul h
theorem yE(h0:a≠[])(h:a.length+b.length<=sizeLine):bp (.tuple a) (.tuple b)=some (.tuple (a++b)):=Ul ⟨h0,h⟩
theorem Ms(i j:Int):gSub' (.int i) (.int j)=some (.int (i-j)):=rfl
theorem rq(h:qS i j=true):lQ (.int i) (.int j)=some (.int (i*j)):=by simp only[lQ,JD,Ul h]
theorem oh(h:vW i j=true):iZ (.int i) (.int j)=some (.int (i.fdiv j)):=by simp only[iZ,JD,Ul h]
theorem ip(h:wP i j=true):ij (.int i) (.int j)=some (.int (i.fmod j)):=by simp only[ij,JD,Ul h]
theorem MR(i:Int):pJ (.int i)=some (.int (-i)):=rfl
theorem uQ{i j:Int}(h1 : -(2^64)<i)(h2:i<2^64):qS i j=true:=by
 simp only[qS,Uz,VQ,UC];exact .inl (.inl (by omega))
theorem zn{i j:Int}(h1 : -(2^64)<j)(h2:j<2^64):qS i j=true:=by
 simp only[qS,Uz,VQ,UC];exact .inl (.inr (by omega))
theorem iG(h1:0<j)(h2:j<2^64):vW i j=true:=by
 have e:2^64<2^200:=Nat.pow_lt_pow_right (by decide) (by decide);simp only[vW,  UC]
 grind
theorem eh(h:j≠0):wP i j=true:=by simp[wP,h]
theorem JT(i:Int){j:Int}(h1:0<j)(h2:j<2^64):iZ (.int i) (.int j)=some (.int (i.fdiv j)):=oh (iG h1 h2)
theorem Lm(i:Int){j:Int}(h1:j≠0):ij (.int i) (.int j)=some (.int (i.fmod j)):=ip (eh h1)
theorem Aq(b:Bool):BY (.bool b)=some b:=rfl
theorem PK(i:Int):Gw (.int i)=some i:=rfl
theorem gX(ds:List W):kQ (.list ds)=some ds:=rfl
theorem Kx(ds:List W):wV (.list ds)=some ds:=rfl
theorem LL(ds:List W):wV (.tuple ds)=some ds:=rfl
theorem Kw(ds:List W):bw (.list ds)=some (.int ds.length):=rfl
theorem KF(ds:List W):bw (.tuple ds)=some (.int ds.length):=rfl
theorem j3(ds:List W)(i:Int):aW (.list ds) (.int i)=jC ds i:=rfl
theorem qN(ds:List W)(i:Int):aW (.tuple ds) (.int i)=jC ds i:=rfl
theorem On(i j:Int):bM (.int i) (.int j)=some (decide (i=j)):=rfl
theorem JM(i j:Str):bM (.str i) (.str j)=some (decide (i=j)):=rfl
theorem P3(i j:Bool):bM (.bool i) (.bool j)=some (decide (i=j)):=rfl
theorem P2(i j:Int):ng (.int i) (.int j)=some (!decide (i=j)):=rfl
theorem OW(i j:Str):ng (.str i) (.str j)=some (!decide (i=j)):=rfl
theorem OU(i j:Int):BM (.int i) (.int j)=some (decide (i<j)):=rfl
theorem Ot(i j:Int):N2 (.int i) (.int j)=some (decide (i<=j)):=rfl
theorem P0(i j:Int):zB (.int i) (.int j)=some (decide (j<i)):=rfl
theorem OP(i j:Int):TL (.int i) (.int j)=some (decide (j<=i)):=rfl
theorem Gj(i:Int):iQ (.int i) .none=some true:=rfl
theorem Ih:iQ .none .none=some false:=rfl
theorem HC(i:Str):iQ (.str i) .none=some true:=rfl
theorem HU(i:List W):iQ (.list i) .none=some true:=rfl
theorem Gv(i:List W):iQ (.tuple i) .none=some true:=rfl
theorem L9(i:Int):uq (.int i) .none=some false:=rfl
theorem Kg:uq .none .none=some true:=rfl
theorem M8(i:Str):uq (.str i) .none=some false:=rfl
theorem Ko(i:List W):uq (.list i) .none=some false:=rfl
theorem M5(i:List W):uq (.tuple i) .none=some false:=rfl
theorem GZ(i:Int):lM "int" (.int i)=some (.bool true):=rfl
theorem C9(i:Int):lM "bool" (.int i)=some (.bool false):=rfl
theorem GP(i:Str):lM "str" (.str i)=some (.bool true):=rfl
theorem bb(h1:f δ=some (.nx δ1))(h2:g δ1=o):bx f g δ=o:=by
 unfold bx
 simp_all
theorem cw(hl:ds.length=a)(h:fb (f6 n ds)=some (.rt d)):cD a n fb ds=some d:=by
 unfold cD;rw[Ul hl,h];rfl
theorem mz(h1:fi δ=some ds)(h2:bZ h fb ds δ=o):mX fi h fb δ=o:=by
 unfold mX
 simp_all
theorem aR(h1:f δ=some d)(h2:h d δ=some δ'):bo f h δ=some (.nx δ'):=by
 unfold bo
 simp_all
theorem bt(h1:f δ=some d):aO f δ=some (.rt d):=by
 unfold aO
 grind
theorem bq(h1:c δ=some b)(h2:(if b=true then f δ else g δ)=o):cA c f g δ=o:=by
 unfold cA
 simp_all
theorem Gi{n:Nat}(hn:n<=16777216):x6 (n:Int)=some (kC 0 n):=by
 unfold x6;rw[Ul (Bu hn),Int.toNat_natCast]
theorem wI(h:f δ=some [.int n])(hn:n<=16777216):iC f δ=some (kC 0 n):=by
 unfold iC;rw[h,TZ];exact Gi hn
theorem FC{K:Frag}(hg:∀ds,g ds=none)(h:oQ K g vs H Q E):False:=by
 obtain⟨ρ,G,ds,d,_,_,e,_⟩:=h
 simp_all
theorem eW.no{K:Frag}(hg:∀ds,g ds=none):eW P w K mg base CX k f fd ps (oQ K g):=
 ⟨λ_ _ _ _ h=>(FC hg h).elim,λ_ _ _ _ _ _ _ _ _ _ _ _ _ h=>(FC hg h).elim⟩
inductive Ob where
 | lst (ds:List W)
 | dK (kvs:List (bD×W))
 | dT (kvs:List (List bD×W))
 | dN (kvs:List (List bD×W))
 | ins (c:Str) (fs:List (Str×W))
noncomputable abbrev ai:=List Ob
inductive i7(K:Frag)(ρ:List Addr)(G:Hp){κ:Type}:List (κ×W)->List (κ×V)->Prop
 | nil:i7 K ρ G [] []
 | cons {k:κ} {d:W} {v:V} {l:List (κ×W)} {m:List (κ×V)}:Dw K ρ G v d->i7 K ρ G l m->i7 K ρ G ((k,d)::l) ((k,v)::m)
noncomputable def C7(K:Frag)(ρ:List Addr)(cl:Str->Addr)(G H:Hp)(a:Addr):Ob->Prop
 | .lst ds=>∃vs,H a=some (.lst vs)/\az K ρ G vs ds
 | .dK kvs=>∃ws,H a=some (.dK ws)/\i7 K ρ G kvs ws
 | .dT kvs=>∃ws,H a=some (.dT ws)/\i7 K ρ G kvs ws
 | .dN kvs=>∃ws,H a=some (.dN ws)/\i7 K ρ G kvs ws
 | .ins c fs=>∃dx ws,H a=some (.ins (cl c) dx ws)/\G dx=none/\H dx=some (.own a)/\i7 K ρ G fs ws
theorem IC{ρ ρ':List Addr}(h:ρ <+: ρ')(n:Nat)(a:Addr)(e:ρ[n]?=some a):ρ'[n]?=some a:=by
 obtain⟨t,rfl⟩:=h;rw[UA (oG e).1];exact e
theorem Dw.ext{K:Frag}(h:ρ <+: ρ')(q:Dw K ρ G v d):Dw K ρ' G v d:=q.mapG (λ_ _ q=>q) (λ_ _ q=>q) (IC h)
theorem az.ext{K:Frag}(h:ρ <+: ρ')(q:az K ρ G vs ds):az K ρ' G vs ds:=q.mapA λ_ _ a=>a.ext h
theorem i7.ext{K:Frag}(h:ρ <+: ρ')(g:bm G G'){l:List (κ×W)}{m:List (κ×V)}(q:i7 K ρ G l m):i7 K ρ' G' l m:=by
 induction q with
 | nil=>exact .nil
 | cons a _ ih=>exact .cons ((a.ext h).same g) ih
theorem i7.lookup{K:Frag}{ρ:List Addr}{G:Hp}{κ:Type}[BEq κ]{k:κ}{l:List (κ×W)}{m:List (κ×V)}{d:W}(q:i7 K ρ G l m):l.lookup k=some d->∃v,m.lookup k=some v/\Dw K ρ G v d:=by
 induction q with
 | nil=>exact λe=>by cases e
 | @cons j d v l m a _ ih=>
  intro e;simp only[List.lookup]at e ⊢;split at e
  . cases e;exact⟨_,rfl,a⟩
  . exact ih e
theorem i7.lookup_none{K:Frag}{ρ:List Addr}{G:Hp}{κ:Type}[BEq κ]{k:κ}{l:List (κ×W)}{m:List (κ×V)}(q:i7 K ρ G l m):l.lookup k=none->m.lookup k=none:=by
 induction q with
 | nil=>exact λ_=>rfl
 | @cons j d v l m a _ ih=>
  intro e;simp only[List.lookup]at e ⊢;split at e
  . cases e
  . exact ih e
theorem i7.length{K:Frag}{l:List (κ×W)}{m:List (κ×V)}(q:i7 K ρ G l m):l.length=m.length:=by
 induction q with
 | nil=>rfl
 | cons _ _ ih=>simp_all
noncomputable def c7(f:Str)(v:W):List (Str×W)->List (Str×W)
 | []=>[(f,v)]
 | (g,x)::r=>if g=f then(g,v)::r else(g,x)::c7 f v r
theorem i7.putF{K:Frag}(h:Dw K ρ G v d)(q:i7 K ρ G l m):i7 K ρ G (c7 f d l) (putF f v m):=by
 induction q with
 | nil=>exact .cons h .nil
 | cons a b ih=>
  unfold c7 L2.putF;split
  . exact .cons h b
  . exact .cons a ih
structure SR(K:Frag)(ρ:List Addr)(cl:Str->Addr)(G H:Hp)(S:ai):Prop where
 len:ρ.length=S.length
 nd:ρ.Nodup
 ob:∀(n:Nat) o,S[n]?=some o->∃a,ρ[n]?=some a/\G a=none/\C7 K ρ cl G H a o
structure GS(ρ:List Addr)(G H:Hp)(ρ':List Addr)(G' H':Hp):Prop where
 r:ρ <+: ρ'
 g:bm G G'
 s:bm G' H'
 h:∀b o,b∉ρ->H b=some o->H' b=some o
 k:∀b,H b≠none->H' b≠none
 n:∀b,nT H b->G b=none->G' b=none
 f:∀a,a∈ρ'->a∉ρ->H a=none
 t:∀b,nT H b->nT H' b
theorem GS.refl(s:bm G H):GS ρ G H ρ G H:=⟨UZ _,.refl _,s,λ_ _ _ e=>e,λ_ e=>e,λ_ _ e=>e,λa h1 h2=>absurd h1 h2,λ_ e=>e⟩
theorem GS.of(g:Gr G H G' H'):GS ρ G H ρ G' H':=⟨UZ _,g.g,g.s,λb o _ e=>g.h b o e,λb e=>vb g.h e,g.n,λa h1 h2=>absurd h1 h2,λ_ e=>e.same g.h⟩
theorem GS.trans(a:GS ρ G H ρ1 G1 H1)(b:GS ρ1 G1 H1 ρ2 G2 H2):GS ρ G H ρ2 G2 H2:=
 ⟨a.r.trans b.r,a.g.trans b.g,b.s,λc o hc e=>b.h c o (λh1=>by rw[a.f c h1 hc]at e;cases e) (a.h c o hc e),λc e=>b.k c (a.k c e),λc h1 h2=>b.n c (a.t c h1) (a.n c h1 h2),λc h1 h2=>by
  by_cases h3:c∈ρ1
  . exact a.f c h3 h2
  . have:=b.f c h1 h3;cases e:H c with
    | none=>rfl
    | some o=>exact absurd this (a.k c (by grind)),λc e=>b.t c (a.t c e)⟩
section
variable{K:Frag}{cl:Str->Addr}
theorem C7.move(hr:ρ <+: ρ')(g:bm G G')(ha:H' a=H a)(hd:∀dx,G dx=none->H dx=some (.own a)->H' dx=some (.own a)/\G' dx=none)(h:C7 K ρ cl G H a o):C7 K ρ' cl G' H' a o:=by
 cases o with
 | lst ds=>
  obtain⟨vs,h1,h2⟩:=h;exact⟨vs,ha.trans h1,(h2.ext hr).same g⟩
 | ins c fs=>
  obtain⟨dx,ws,h1,h2,h3,h4⟩:=h;exact⟨dx,ws,ha.trans h1,(hd dx h2 h3).2,(hd dx h2 h3).1,h4.ext hr g⟩
 | _=>
  obtain⟨ws,h1,h2⟩:=h;exact⟨ws,ha.trans h1,h2.ext hr g⟩
theorem C7.some(h:C7 K ρ cl G H a o):∃x,H a=some x/\∀b,x≠.own b:=by
 cases o with
 | ins c fs=>
  obtain⟨dx,ws,h1,_⟩:=h
  simp_all
 | _=>
  obtain⟨ws,h1,_⟩:=h
  simp_all
theorem C7.nt(h:C7 K ρ cl G H a o):nT H a:=by
 cases o with
 | ins c fs=>
  obtain⟨_,_,h1,_⟩:=h;exact .of h1 λ_ z=>by cases z
 | _=>
  obtain⟨_,h1,_⟩:=h;exact .of h1 λ_ z=>by cases z
theorem SR.grow(s:SR K ρ cl G H S)(g:Gr G H G' H'):SR K ρ cl G' H' S:=
 ⟨s.len,s.nd,λn o e=>by
  obtain⟨a,h1,h2,h3⟩:=s.ob n o e;obtain⟨x,hx,_⟩:=h3.some;exact⟨a,h1,g.n a h3.nt h2,h3.move (UZ _) g.g (by rw[hx];exact g.h _ _ hx) λdx e1 e2=>⟨g.h _ _ e2,g.n dx (.of e2 λ_ z=>by cases z) e1⟩⟩⟩
theorem SR.addr(s:SR K ρ cl G H S){n:Nat}(e:S[n]?=some o)(ea:ρ[n]?=some a):G a=none/\C7 K ρ cl G H a o:=by
 obtain⟨b,h1,h2,h3⟩:=s.ob n o e
 simp_all
theorem Bn{l:List Addr}(h:l.Nodup){i j:Nat}{a:Addr}(h1:l[i]?=some a)(h2:l[j]?=some a):i=j:=by
 obtain⟨hi,e1⟩:=oG h1
 obtain⟨hj,e2⟩:=oG h2
 have hp:=List.pairwise_iff_getElem.mp h;rcases Nat.lt_trichotomy i j with c | c | c
 . exact absurd (e1.trans e2.symm) (hp i j hi hj c)
 . exact c
 . exact absurd (e2.trans e1.symm) (hp j i hj hi c)
theorem SR.put(s:SR K ρ cl G H S)(sg:bm G H)(e:S[n]?=some o)(ea:ρ[n]?=some a)(hx:∀b,x≠.own b)(ho:C7 K ρ cl G (cx H a x) a o'):SR K ρ cl G (cx H a x) (S.set n o')/\GS ρ G H ρ G (cx H a x):=by
 obtain⟨ga,ob⟩:=s.addr e ea;obtain⟨y,hy,hno⟩:=ob.some;have am  := UV ea;refine⟨⟨by rw[U1];exact s.len,s.nd,λm q em=>?_⟩,⟨UZ _,.refl _,λb u eb=>?_,λb u hb eb=>?_,λb hb=>?_,λ_ _ e=>e,λb h1 h2=>absurd h1 h2,λb hb=>by
  by_cases z:b=a
  . exact z▸ho.nt
  . unfold nT;rw[aE z];exact hb⟩⟩
 . rcases cC em with⟨rfl,rfl,_⟩ | ⟨ne,em⟩
   . simp_all
   . obtain⟨b,h1,h2,h3⟩:=s.ob m q em;have hab:b≠a:=λz=>ne (Bn s.nd ea (z▸h1));exact⟨b,h1,h2,h3.move (UZ _) (.refl _) (aE hab) λdx e1 e2=>⟨by
      rw[aE λz=>by simp_all];exact e2,e1⟩⟩
 . rw[aE (λz=>by rw[z,ga]at eb;cases eb)];exact sg _ _ eb
 . rw[aE (λz=>hb (by rw[z];exact am))];exact eb
 . by_cases z:b=a
   . subst z;rw[aC];simp
   . rw[aE z];exact hb
theorem SR.push{ρ:List Addr}{G H H':Hp}{S:ai}{p:Addr}{o:Ob}{x:HO}(s:SR K ρ cl G H S)(sg:bm G H)(n:Nw H H' p x)(ho:∀ρ',ρ <+: ρ'->C7 K ρ' cl G H' p o):SR K (ρ++[p]) cl G H' (S++[o])/\GS ρ G H (ρ++[p]) G H':=by
 have pm:p∉ρ:=λhp=>by
  obtain⟨i,hi,e⟩:=VF.mp hp;obtain⟨b,h1,h2,h3⟩:=s.ob i (S[i]'(by rw[<-s.len];exact hi)) (Uu _);rw[Uu hi,e]at h1;cases h1;obtain⟨y,hy,_⟩:=h3.some;rw[n.2.1]at hy;cases hy
 have pre:ρ <+: ρ++[p]:=⟨[p],rfl⟩
 refine⟨⟨by simp[s.len],VU.mpr ⟨s.nd,by simp,λa ha b hb=>by
  rw[UB.mp hb];exact λz=>pm (z▸ha)⟩,λm q em=>?_⟩,⟨pre,.refl _,sg.trans n.1,λb u _ e=>n.1 b u e,λb e=>vb n.1 e,λ_ _ e=>e,λa h1 h2=>?_,λ_ e=>e.same n.1⟩⟩
 . rcases VW m S.length with hm | hm
   . rw[UA hm]at em;obtain⟨b,h1,h2,h3⟩:=s.ob m q em;obtain⟨y,hy,_⟩:=h3.some;exact⟨b,by rw[UA (by rw[s.len];exact hm)];exact h1,h2,h3.move pre (.refl _) (by rw[hy];exact n.1 _ _ hy) λdx e1 e2=>⟨n.1 _ _ e2,e1⟩⟩
   . rw[UO hm]at em;have hz:m-S.length=0:=by
      have:=(oG em).1;simp at this;omega
     rw[hz]at em;cases em;refine⟨p,?_,cR sg n.2.1,ho _ pre⟩;rw[UO (by rw[s.len];exact hm),s.len,hz];rfl
 . rcases Us.mp h1 with h | h
   . exact absurd h h2
   . rw[UB.mp h];exact n.2.1
inductive Rs(α:Type) where
 | ok (a:α)
 | xc (c:Str)
noncomputable abbrev SM(α:Type):=Option (Rs α×ai)
noncomputable def aq{α β:Type}(m:SM α)(k:α->ai->SM β):SM β:=match m with
 | some (.ok a,S)=>k a S
 | some (.xc c,S)=>some (.xc c,S)
 | none=>none
theorem cJ{m:SM α}{k:α->ai->SM β}{r:Rs β}(h:aq m k=some (r,S')):(∃c,m=some (.xc c,S')/\r=.xc c)∨∃a S1,m=some (.ok a,S1)/\k a S1=some (r,S'):=by
 unfold aq at h
 grind
structure RS(K:Frag)(cl:Str->Addr)(ρ:List Addr)(G H:Hp)(δ:DS)(σ:St)(S:ai):Prop where
 rl:Rl K ρ G H δ σ
 st:SR K ρ cl G H S
 ap:∀(i:Nat) ds p,δ[i]?=some (.own ds)->σ[i]?=some (some (.ref p))->p∉ρ
theorem xJ.move(g:GS ρ G H ρ' G' H')(ha:∀ds p,s=.own ds->o=some (.ref p)->p∉ρ)(h:xJ K ρ G H s o):xJ K ρ' G' H' s o:=by
 cases s with
 | no=>exact trivial
 | val d=>
  obtain⟨v,e,h⟩:=h;exact⟨v,e,(h.ext g.r).same g.g⟩
 | own ds=>
  obtain⟨p,vs,e,h1,h2,h3⟩:=h;exact⟨p,vs,e,g.n p (.l h2) h1,g.h _ _ (ha ds p rfl e) h2,(h3.ext g.r).same g.g⟩
theorem RS.grow(R:RS K cl ρ G H δ σ S)(g:GS ρ G H ρ' G' H')(s:SR K ρ' cl G' H' S'):RS K cl ρ' G' H' δ σ S':=
 ⟨⟨g.s,R.rl.len,λi sl e=>by
  obtain⟨o,h1,h2⟩:=R.rl.sl i sl e;exact⟨o,h1,h2.move g λds p e1 e2=>R.ap i ds p (e1▸e) (e2▸h1)⟩,R.rl.apart⟩,s,λi ds p h1 h2 hp=>by
  obtain⟨o,k1,p',vs,rfl,k3,k4,k5⟩:=R.rl.sl i _ h1;rw[h2]at k1;cases k1;rw[g.f p hp (R.ap i ds p h1 h2)]at k4;cases k4⟩
noncomputable def SE(K:Frag)(cl:Str->Addr)(E:XK)(t:TE)(f:DS->ai->SM W):Prop:=
 ∀(ρ:List Addr)(G:Hp)(σ:St)(H:Hp)(δ:DS)(S:ai)(r:Rs W)(S':ai)(Q:VK),RS K cl ρ G H δ σ S->f δ S=some (r,S')->
  (∀d,r=.ok d->∀v ρ' G' H',GS ρ G H ρ' G' H'->SR K ρ' cl G' H' S'->Dw K ρ' G' v d->Q v H')->
  (∀c,r=.xc c->∀ρ' G' H',GS ρ G H ρ' G' H'->SR K ρ' cl G' H' S'->E (.ref (cl c)) none H')->t σ H Q
noncomputable def SA(K:Frag)(cl:Str->Addr)(E:XK)(t:TA)(f:DS->ai->SM (List W)):Prop:=
 ∀(ρ:List Addr)(G:Hp)(σ:St)(H:Hp)(δ:DS)(S:ai)(r:Rs (List W))(S':ai)(Q:List V->Hp->Prop),RS K cl ρ G H δ σ S->f δ S=some (r,S')->
  (∀ds,r=.ok ds->∀vs ρ' G' H',GS ρ G H ρ' G' H'->SR K ρ' cl G' H' S'->az K ρ' G' vs ds->Q vs H')->
  (∀c,r=.xc c->∀ρ' G' H',GS ρ G H ρ' G' H'->SR K ρ' cl G' H' S'->E (.ref (cl c)) none H')->t σ H Q
noncomputable def ST(K:Frag)(cl:Str->Addr)(E:XK)(t:TT)(f:DS->ai->SM Bool):Prop:=
 ∀(ρ:List Addr)(G:Hp)(σ:St)(H:Hp)(δ:DS)(S:ai)(r:Rs Bool)(S':ai)(Q:Bool->Hp->Prop),RS K cl ρ G H δ σ S->f δ S=some (r,S')->
  (∀b,r=.ok b->∀ρ' G' H',GS ρ G H ρ' G' H'->SR K ρ' cl G' H' S'->Q b H')->
  (∀c,r=.xc c->∀ρ' G' H',GS ρ G H ρ' G' H'->SR K ρ' cl G' H' S'->E (.ref (cl c)) none H')->t σ H Q
variable{E:XK}
noncomputable def aa{α:Type}(f:DS->Option α):DS->ai->SM α:=λδ S=>(f δ).map λd=>(.ok d,S)
theorem je{f:DS->Option α}{r:Rs α}(h:aa f δ S=some (r,S')):∃d,f δ=some d/\r=.ok d/\S'=S:=by
 obtain⟨d,e1,e2⟩:=oM h
 simp_all
theorem FT(h:∀ρ,DE K ρ t f):SE K cl E t (aa f):=λρ G σ H δ S r S' Q R e q _=>by
 obtain⟨d,e1,rfl,rfl⟩:=je e;exact h ρ G σ H δ d Q R.rl e1 λv G' H' g dv=>q d rfl v ρ G' H' (.of g) (R.st.grow g) dv
theorem HW(h:∀ρ,DA K ρ t f):SA K cl E t (aa f):=λρ G σ H δ S r S' Q R e q _=>by
 obtain⟨d,e1,rfl,rfl⟩:=je e;exact h ρ G σ H δ d Q R.rl e1 λv G' H' g dv=>q d rfl v ρ G' H' (.of g) (R.st.grow g) dv
theorem Iq(h:∀ρ,DT K ρ t f):ST K cl E t (aa f):=λρ G σ H δ S r S' Q R e q _=>by
 obtain⟨d,e1,rfl,rfl⟩:=je e;exact h ρ G σ H δ d Q R.rl e1 λG' H' g=>q d rfl ρ G' H' (.of g) (R.st.grow g)
noncomputable def dX:DS->ai->SM (List W):=λ_ S=>some (.ok [],S)
noncomputable def aK(f:DS->ai->SM W)(g:DS->ai->SM (List W)):DS->ai->SM (List W):=λδ S=>aq (f δ S) λd S1=>aq (g δ S1) λds S2=>some (.ok (d::ds),S2)
theorem Lx:SA K cl E gS dX:=λρ G σ H δ S r S' Q R e q _=>by
 cases e;exact q [] rfl [] ρ G H (.refl R.rl.sub) R.st .nil
theorem FZ{t:TE}{u:TA}{f:DS->ai->SM W}{g:DS->ai->SM (List W)}(h1:SE K cl E t f)(h2:SA K cl E u g):SA K cl E (dM t u) (aK f g):=λρ G σ H δ S r S' Q R e q qx=>by
 rcases cJ e with⟨c,em,rfl⟩ | ⟨d,S1,em,e⟩
 . exact h1 ρ G σ H δ S _ _ _ R em (λd hd=>by cases hd) (λc' hc=>by cases hc;exact qx c rfl)
 . refine h1 ρ G σ H δ S _ _ _ R em (λd' hd=>?_) (λc' hc=>by cases hc);cases hd;intro v ρ1 G1 H1 g1 s1 dv;have R1:=R.grow g1 s1;rcases cJ e with⟨c,em,rfl⟩ | ⟨ds,S2,em,e⟩
   . exact h2 ρ1 G1 σ H1 δ S1 _ _ _ R1 em (λd hd=>by cases hd) (λc' hc=>by cases hc;exact λρ2 G2 H2 g2 s2=>qx c rfl ρ2 G2 H2 (g1.trans g2) s2)
   . refine h2 ρ1 G1 σ H1 δ S1 _ _ _ R1 em (λd' hd=>?_) (λc' hc=>by cases hc);cases hd;cases e;intro vs ρ2 G2 H2 g2 s2 da;exact q _ rfl _ ρ2 G2 H2 (g1.trans g2) s2 (.cons ((dv.ext g2.r).same g2.g) da)
end
section
variable{K:Frag}{cl:Str->Addr}{E:XK}
theorem dQ{α:Type}{t:TE}{f:DS->ai->SM W}(h:SE K cl E t f){ρ:List Addr}{G:Hp}{σ:St}{H:Hp}{δ:DS}{S:ai}{r:Rs α}{S':ai}{k:W->ai->SM α}{P:V->Hp->Prop}(R:RS K cl ρ G H δ σ S)(e:aq (f δ S) k=some (r,S'))
 (q:∀d S1,k d S1=some (r,S')->∀v ρ' G' H',GS ρ G H ρ' G' H'->SR K ρ' cl G' H' S1->Dw K ρ' G' v d->P v H')
 (qx:∀c,r=.xc c->∀ρ' G' H',GS ρ G H ρ' G' H'->SR K ρ' cl G' H' S'->E (.ref (cl c)) none H'):t σ H P:=by
 rcases cJ e with⟨c,em,rfl⟩ | ⟨d,S1,em,e⟩
 . exact h ρ G σ H δ S _ _ _ R em (λd hd=>by cases hd) (λc' hc=>by cases hc;exact qx c rfl)
 . exact h ρ G σ H δ S _ _ _ R em (λd' hd=>by cases hd;exact q _ _ e) (λc' hc=>by cases hc)
theorem l8{α:Type}{t:TA}{f:DS->ai->SM (List W)}(h:SA K cl E t f){ρ:List Addr}{G:Hp}{σ:St}{H:Hp}{δ:DS}{S:ai}{r:Rs α}{S':ai}{k:List W->ai->SM α}{P:List V->Hp->Prop}(R:RS K cl ρ G H δ σ S)(e:aq (f δ S) k=some (r,S'))
 (q:∀d S1,k d S1=some (r,S')->∀v ρ' G' H',GS ρ G H ρ' G' H'->SR K ρ' cl G' H' S1->az K ρ' G' v d->P v H')
 (qx:∀c,r=.xc c->∀ρ' G' H',GS ρ G H ρ' G' H'->SR K ρ' cl G' H' S'->E (.ref (cl c)) none H'):t σ H P:=by
 rcases cJ e with⟨c,em,rfl⟩ | ⟨d,S1,em,e⟩
 . exact h ρ G σ H δ S _ _ _ R em (λd hd=>by cases hd) (λc' hc=>by cases hc;exact qx c rfl)
 . exact h ρ G σ H δ S _ _ _ R em (λd' hd=>by cases hd;exact q _ _ e) (λc' hc=>by cases hc)
theorem nF{α:Type}{t:TT}{f:DS->ai->SM Bool}(h:ST K cl E t f){ρ:List Addr}{G:Hp}{σ:St}{H:Hp}{δ:DS}{S:ai}{r:Rs α}{S':ai}{k:Bool->ai->SM α}{P:Bool->Hp->Prop}(R:RS K cl ρ G H δ σ S)(e:aq (f δ S) k=some (r,S'))
 (q:∀d S1,k d S1=some (r,S')->∀ρ' G' H',GS ρ G H ρ' G' H'->SR K ρ' cl G' H' S1->P d H')
 (qx:∀c,r=.xc c->∀ρ' G' H',GS ρ G H ρ' G' H'->SR K ρ' cl G' H' S'->E (.ref (cl c)) none H'):t σ H P:=by
 rcases cJ e with⟨c,em,rfl⟩ | ⟨d,S1,em,e⟩
 . exact h ρ G σ H δ S _ _ _ R em (λd hd=>by cases hd) (λc' hc=>by cases hc;exact qx c rfl)
 . exact h ρ G σ H δ S _ _ _ R em (λd' hd=>by cases hd;exact q _ _ e) (λc' hc=>by cases hc)
theorem gM{α:Type}{ta tb:TE}{fa fb:DS->ai->SM W}(ha:SE K cl E ta fa)(hb:SE K cl E tb fb){ρ:List Addr}{G:Hp}{σ:St}{H:Hp}{δ:DS}{S:ai}{r:Rs α}{S':ai}{k:W->W->ai->SM α}{P:V->V->Hp->Prop}(R:RS K cl ρ G H δ σ S)
 (e:aq (fa δ S) (λx S1=>aq (fb δ S1) λy S2=>k x y S2)=some (r,S'))
 (q:∀x y S2,k x y S2=some (r,S')->∀v u ρ' G' H',GS ρ G H ρ' G' H'->SR K ρ' cl G' H' S2->Dw K ρ' G' v x->Dw K ρ' G' u y->P v u H')
 (qx:∀c,r=.xc c->∀ρ' G' H',GS ρ G H ρ' G' H'->SR K ρ' cl G' H' S'->E (.ref (cl c)) none H'):ta σ H λv H1=>tb σ H1 λu H2=>P v u H2:=
 dQ ha R e (λx S1 e1 v ρ1 G1 H1 g1 s1 dv=>dQ hb (R.grow g1 s1) e1 (λy S2 e2 u ρ2 G2 H2 g2 s2 du=>q x y S2 e2 v u ρ2 G2 H2 (g1.trans g2) s2 ((dv.ext g2.r).same g2.g) du) λc hc ρ2 G2 H2 g2 s2=>qx c hc ρ2 G2 H2 (g1.trans g2) s2) qx
noncomputable def iD{α:Type}(x:Option α)(S:ai):SM α:=x.map λd=>(.ok d,S)
theorem bI{x:Option α}{r:Rs α}(h:iD x S=some (r,S')):∃d,x=some d/\r=.ok d/\S'=S:=by
 obtain⟨d,e1,e2⟩:=oM h
 simp_all
noncomputable def sZ(g:W->W->Option W)(fa fb:DS->ai->SM W):DS->ai->SM W:=λδ S=>aq (fa δ S) λx S1=>aq (fb δ S1) λy S2=>iD (g x y) S2
theorem Qh(hr:∀ρ,DR K ρ r g)(ha:SE K cl E ta fa)(hb:SE K cl E tb fb):SE K cl E (qd r ta tb) (sZ g fa fb):=λρ G σ H δ S r' S' Q R e q qx=>
 gM ha hb R e (λx y S2 e2 v u ρ2 G2 H2 g2 s2 dv du=>by
  obtain⟨c,e3,rfl,rfl⟩:=bI e2;exact hr _ G2 H2 v u x y c Q g2.s (.inl dv) du e3 λw G3 H3 g3 dw=>q c rfl w _ G3 H3 (g2.trans (.of g3)) (s2.grow g3) dw) qx
noncomputable def wB(g:W->W->Option Bool)(fa fb:DS->ai->SM W):DS->ai->SM Bool:=λδ S=>aq (fa δ S) λx S1=>aq (fb δ S1) λy S2=>iD (g x y) S2
noncomputable def sB(f:DS->ai->SM Bool):DS->ai->SM W:=λδ S=>aq (f δ S) λb S1=>some (.ok (.bool b),S1)
theorem MB(hr:∀ρ,DB K ρ r g)(ha:SE K cl E ta fa)(hb:SE K cl E tb fb):ST K cl E (iA (qd r ta tb)) (wB g fa fb):=λρ G σ H δ S r' S' Q R e q qx=>
 gM ha hb R e (λx y S2 e2 v u ρ2 G2 H2 g2 s2 dv du=>by
  obtain⟨c,e3,rfl,rfl⟩:=bI e2;exact hr _ H2 v u x y c _ (dv.same g2.s) (du.same g2.s) e3 ⟨c,rfl,q c rfl _ G2 H2 g2 s2⟩) qx
noncomputable def pR(f g:DS->ai->SM Bool):DS->ai->SM Bool:=λδ S=>aq (f δ S) λb S1=>if b=true then g δ S1 else some (.ok false,S1)
noncomputable def FH(f g:DS->ai->SM Bool):DS->ai->SM Bool:=λδ S=>aq (f δ S) λb S1=>if b=true then some (.ok true,S1) else g δ S1
noncomputable def sX(f:DS->ai->SM Bool):DS->ai->SM Bool:=λδ S=>aq (f δ S) λb S1=>some (.ok (!b),S1)
theorem KC(h1:ST K cl E t f)(h2:ST K cl E u g):ST K cl E (Mu t u) (pR f g):=λρ G σ H δ S r S' Q R e q qx=>
 nF h1 R e (λb S1 e1 ρ1 G1 H1 g1 s1=>by
  cases b with
  | true=>exact h2 _ G1 σ H1 δ S1 r S' Q (R.grow g1 s1) e1 (λb hb ρ2 G2 H2 g2 s2=>q b hb _ G2 H2 (g1.trans g2) s2) λc hc ρ2 G2 H2 g2 s2=>qx c hc _ G2 H2 (g1.trans g2) s2
  | false=>grind) qx
theorem ON(h1:ST K cl E t f)(h2:ST K cl E u g):ST K cl E (QZ t u) (FH f g):=λρ G σ H δ S r S' Q R e q qx=>
 nF h1 R e (λb S1 e1 ρ1 G1 H1 g1 s1=>by
  cases b with
  | false=>exact h2 _ G1 σ H1 δ S1 r S' Q (R.grow g1 s1) e1 (λb hb ρ2 G2 H2 g2 s2=>q b hb _ G2 H2 (g1.trans g2) s2) λc hc ρ2 G2 H2 g2 s2=>qx c hc _ G2 H2 (g1.trans g2) s2
  | true=>grind) qx
theorem MN(h:ST K cl E t f):ST K cl E (K4 t) (sX f):=λρ G σ H δ S r S' Q R e q qx=>
 nF h R e (λb S1 e1 ρ1 G1 H1 g1 s1=>by grind) qx
noncomputable def jA(f:DS->ai->SM (List W)):DS->ai->SM W:=λδ S=>aq (f δ S) λds S1=>if ds.length<=sizeLine then some (.ok (.tuple ds),S1) else none
theorem Kh(h:SA K cl E t f):SE K cl E (Fb t) (jA f):=λρ G σ H δ S r S' Q R e q qx=>
 l8 h R e (λds S1 e1 vs ρ1 G1 H1 g1 s1 da=>by
  split at e1
  . rename_i hz;cases e1;refine⟨by rw[da.length];exact hz,λp H' n=>?_⟩;have g2:=Gr.nw g1.s n;exact q _ rfl _ _ _ H' (g1.trans (.of g2)) (s1.grow g2) (.tup aC (da.same g2.g))
  . cases e1) qx
noncomputable def R8(f:DS->ai->SM (List W)):DS->ai->SM W:=λδ S=>aq (f δ S) λds S1=>if ds.length<=sizeLine then some (.ok (.list ds),S1) else none
noncomputable def kT(f:DS->ai->SM (List W)):DS->ai->SM W:=λδ S=>aq (f δ S) λds S1=>if ds.length<=sizeLine then some (.ok (.ref S1.length),S1++[.lst ds]) else none
theorem HP(h:SA K cl E t f):SE K cl E (zO t) (kT f):=λρ G σ H δ S r S' Q R e q qx=>
 l8 h R e (λds S1 e1 vs ρ1 G1 H1 g1 s1 da=>by
  split at e1
  . rename_i hz;cases e1;refine⟨by rw[da.length];exact hz,λp H' n=>?_⟩;obtain⟨s2,g2⟩:=s1.push (o:=.lst ds) g1.s n λρ' hr=>⟨vs,n.2.2,da.ext hr⟩
    exact q _ rfl _ _ _ H' (g1.trans g2) s2 (.ref (by rw[<-s1.len];simp))
  . cases e1) qx
noncomputable def Nu:DS->ai->SM W:=λ_ S=>some (.ok (.ref S.length),S++[.dK []])
noncomputable def Ss:DS->ai->SM W:=λ_ S=>some (.ok (.ref S.length),S++[.dT []])
theorem Pi:SE K cl E Ej Nu:=λρ G σ H δ S r S' Q R e q qx=>by
 cases e;intro p hp;obtain⟨s2,g2⟩:=R.st.push (o:=.dK []) R.rl.sub (Nw.of  hp) λρ' hr=>⟨[],aC,.nil⟩
 exact q _ rfl _ _ _ _ g2 s2 (.ref (by rw[<-R.st.len];simp))
theorem OE:SE K cl E E6 Ss:=λρ G σ H δ S r S' Q R e q qx=>by
 cases e;intro p hp;obtain⟨s2,g2⟩:=R.st.push (o:=.dT []) R.rl.sub (Nw.of  hp) λρ' hr=>⟨[],aC,.nil⟩
 exact q _ rfl _ _ _ _ g2 s2 (.ref (by rw[<-R.st.len];simp))
noncomputable def iy(x:W)(S:ai):Option (Nat×Ob):=match x with
 | .ref n=>(S[n]?).map λo=>(n,o)
 | _=>none
theorem f9{x:W}{S:ai}{n:Nat}{o:Ob}(h:iy x S=some (n,o)):x=.ref n/\S[n]?=some o:=by
 unfold iy at h;split at h
 . obtain⟨o',e1,e2⟩:=oM h
   cases e2;exact⟨rfl,e1⟩
 . cases h
noncomputable def ge(c:Str)(x:W)(S:ai):Option (Nat×List (Str×W)):=match iy x S with
 | some (n,.ins c' fs)=>if c'=c then some (n,fs) else none
 | _=>none
theorem gF(h:ge c x S=some (n,fs)):x=.ref n/\S[n]?=some (.ins c fs):=by
 unfold ge at h;cases e:iy x S with
 | none=>simp_all
 | some p=>
  obtain⟨m,o⟩:=p;rw[e]at h;cases o with
  | ins c' fs'=>
   by_cases hc:c'=c
   . subst hc;cases(Ul rfl).symm.trans h;exact f9 e
   simp_all
  | _=>cases h
noncomputable def bB(c f:Str)(fa:DS->ai->SM W):DS->ai->SM W:=λδ S=>aq (fa δ S) λx S1=>(ge c x S1).bind λp=>iD (p.2.lookup f) S1
theorem cY(h:Dw K ρ G v (.ref n)):∃a,v=.ref a/\ρ[n]?=some a:=by
 cases h with
 | ref e=>simp_all
theorem LS{c f:Str}{ta:TE}{fa:DS->ai->SM W}(hc:xx K (cl c))(hn:NoAttr K (cl c) f)(ha:SE K cl E ta fa):SE K cl E (KU K ta f) (bB c f fa):=λρ G σ H δ S r S' Q R e q qx=>
 dQ ha R e (λx S1 e1 v ρ1 G1 H1 g1 s1 dv=>by
  obtain⟨⟨n,fs⟩,e2,e3⟩:=oB e1
  obtain⟨d,e4,rfl,rfl⟩:=bI e3;obtain⟨rfl,e5⟩:=gF e2;obtain⟨a,rfl,ea⟩:=cY dv;obtain⟨ga,dx,ws,k1,k2,k3,k4⟩:=s1.addr e5 ea;obtain⟨u,k5,k6⟩:=k4.lookup e4;exact⟨a,_,dx,ws,u,rfl,k1,hc,hn,k5,q d rfl u ρ1 G1 H1 g1 s1 k6⟩) qx
noncomputable def TW(K:Frag)(cl:Str->Addr)(f:List W->ai->SM W):Sp:=λvs H Q E=>∃ρ G S ds r S',bm G H/\SR K ρ cl G H S/\az K ρ G vs ds/\f ds S=some (r,S')/\
 (∀d,r=.ok d->∀v ρ' G' H',GS ρ G H ρ' G' H'->SR K ρ' cl G' H' S'->Dw K ρ' G' v d->Q v H')/\(∀c,r=.xc c->∀ρ' G' H',GS ρ G H ρ' G' H'->SR K ρ' cl G' H' S'->E (.ref (cl c)) none H')
noncomputable def K6(f:List W->Option W)(fa:DS->ai->SM (List W)):DS->ai->SM W:=λδ S=>aq (fa δ S) λds S1=>iD (f ds) S1
noncomputable def eE(K:Frag)(cl:Str->Addr)(f:List W->ai->SM W):Sp:=λvs H Q _=>∃ρ G S ds d S',bm G H/\SR K ρ cl G H S/\az K ρ G vs ds/\f ds S=some (.ok d,S')/\
 ∀v ρ' G' H',GS ρ G H ρ' G' H'->SR K ρ' cl G' H' S'->Dw K ρ' G' v d->Q v H'
noncomputable def Dz(m:SM W):SM W:=match m with
 | some (.ok d,S)=>some (.ok d,S)
 | _=>none
theorem m9(h:Dz m=some (r,S')):∃d,r=.ok d/\m=some (.ok d,S'):=by
 unfold Dz at h
 grind
noncomputable def aM(f:List W->ai->SM W)(fa:DS->ai->SM (List W)):DS->ai->SM W:=λδ S=>aq (fa δ S) λds S1=>Dz (f ds S1)
theorem zv(h:SA K cl E t fa):SE K cl E (uc (eE K cl f) [] E' t) (aM f fa):=λρ G σ H δ S r S' Q R e q qx=>
 l8 h R e (λds S1 e1 vs ρ1 G1 H1 g1 s1 da=>by
  obtain⟨d,rfl,e2⟩:=m9 e1;exact⟨ρ1,G1,S1,ds,d,S',g1.s,s1,by simp_all,e2,λv ρ2 G2 H2 g2 s2 dv=>q d rfl v ρ2 G2 H2 (g1.trans g2) s2 dv⟩) qx
noncomputable def aZ(c m:Str)(f:List W->ai->SM W)(fo:DS->ai->SM W)(fa:DS->ai->SM (List W)):DS->ai->SM W:=λδ S=>aq (fo δ S) λx S1=>(ge c x S1).bind λp=>if p.2.lookup m=none then aq (fa δ S1) λds S2=>Dz (f (x::ds) S2) else none
theorem IB(ho:SE K cl E to fo)(h:SA K cl E t fa):SE K cl E (Et (cl c) m (eE K cl f) [] E' to t) (aZ c m f fo fa):=λρ G σ H δ S r S' Q R e q qx=>
 dQ ho R e (λx S1 e1 v ρ1 G1 H1 g1 s1 dv=>by
  obtain⟨⟨n,fs⟩,e2,e3⟩:=oB e1
  split at e3
  case isFalse=>cases e3
  rename_i hm;obtain⟨rfl,e5⟩:=gF e2;obtain⟨a,rfl,ea⟩:=cY dv;obtain⟨ga,dx,ws,k1,k2,k3,k4⟩:=s1.addr e5 ea;refine⟨a,dx,ws,rfl,k1,k4.lookup_none hm,?_⟩;exact l8 h (R.grow g1 s1) e3 (λds S2 e6 vs ρ2 G2 H2 g2 s2 da=>by
   obtain⟨d,rfl,e7⟩:=m9 e6;exact⟨ρ2,G2,S2,.ref n::ds,d,S',g2.s,s2,by rw[UK];exact .cons ((dv.ext g2.r).same g2.g) da,e7,λv ρ3 G3 H3 g3 s3 dv=>q d rfl v _ G3 H3 (g1.trans (g2.trans g3)) s3 dv⟩) λc hc ρ2 G2 H2 g2 s2=>qx c hc _ G2 H2 (g1.trans g2) s2) qx
noncomputable def sj(c:Str)(f:List W->ai->SM W)(fa:DS->ai->SM (List W)):DS->ai->SM W:=λδ S=>aq (fa δ S) λds S1=>aq (Dz (f (.ref S1.length::ds) (S1++[.ins c []]))) λd S2=>match d with
 | .none=>some (.ok (.ref S1.length),S2)
 | _=>none
theorem HG(h:SA K cl E t fa):SE K cl E (Dh (cl c) (eE K cl f) [] E' t) (sj c f fa):=λρ G σ H δ S r S' Q R e q qx=>
 l8 h R e (λds S1 e1 vs ρ1 G1 H1 g1 s1 da=>by
  intro x dx hx hdx hne;have na:Nw H1 _ dx (.own x):=.of hdx;have gA:Gr G1 H1 G1 _:=.nwO g1.s na;have hx':cx H1 dx (.own x) x=none:=by rw[aE (VB hne)];exact hx
  have nb:Nw _ _ x (.ins (cl c) dx []):=.of hx';obtain⟨s2,g2⟩:=(s1.grow gA).push (o:=.ins c []) gA.s nb λρ' hr=>⟨dx,[],aC,cR g1.s hdx,by rw[aE hne];exact aC,.nil⟩
  have g12:=(GS.of  gA).trans g2;have dx1:az K _ G1 (.ref x::vs) (.ref S1.length::ds):=.cons (.ref (by rw[<-s1.len];simp)) (da.ext ⟨[x],rfl⟩);rcases cJ e1 with⟨c',em,rfl⟩ | ⟨d,S2,em,e2⟩
  . obtain⟨_,z,_⟩:=m9 em;cases z
  . obtain⟨d',z,em⟩:=m9 em;cases z;refine⟨_,G1,_,_,_,_,g2.s,s2,by rw[UK];exact dx1,em,λv ρ3 G3 H3 g3 s3 dv=>?_⟩;split at e2
    . cases e2;exact⟨yK dv,q _ rfl _ ρ3 G3 H3 (g1.trans (g12.trans g3)) s3 (.ref (by
       have h1:(ρ1++[x])[S1.length]?=some x:=by rw[<-s1.len];simp
       obtain⟨t',ht⟩:=g3.r;rw[<-ht,UA (oG h1).1];exact h1))⟩
    . cases e2) qx
noncomputable def Mc(K:Frag)(cl:Str->Addr)(E:XK)(wi:TI)(f:DS->ai->SM (List W)):Prop:=
 ∀(ρ:List Addr)(G:Hp)(σ:St)(H:Hp)(δ:DS)(S:ai)(r:Rs (List W))(S':ai)(R':It->Hp->Prop),RS K cl ρ G H δ σ S->f δ S=some (r,S')->
  (∀ds,r=.ok ds->∀J ρ' G' H',GS ρ G H ρ' G' H'->SR K ρ' cl G' H' S'->Ow K ρ' J G' ds->R' J H')->
  (∀c,r=.xc c->∀ρ' G' H',GS ρ G H ρ' G' H'->SR K ρ' cl G' H' S'->E (.ref (cl c)) none H')->wi σ H R'
theorem E1(h:∀ρ,DI K ρ wi f):Mc K cl E wi (aa f):=λρ G σ H δ S r S' R' R e q qx=>by
 obtain⟨ds,e1,rfl,rfl⟩:=je e;exact h ρ G σ H δ ds R' R.rl e1 λJ G' H' g it=>q ds rfl J ρ G' H' (.of g) (R.st.grow g) it
noncomputable def rB(f:DS->ai->SM (List W)):DS->ai->SM (List W):=λδ S=>aq (f δ S) λds S1=>iD (Aj ds) S1
theorem D9(h:SA K cl E t f):Mc K cl E (EU t) (rB f):=λρ G σ H δ S r S' R' R e q qx=>
 l8 h R e (λes S1 e1 vs ρ1 G1 H1 g1 s1 da=>by
  obtain⟨ds,e2,rfl,rfl⟩:=bI e1;obtain⟨j,rfl,e2⟩:=wA e2;obtain⟨hc,rfl⟩:=zx e2;obtain⟨v,rfl,dv⟩:=uL da;cases cQ dv;exact⟨_,rfl,hc.1,hc.2,q _ rfl _ _ G1 H1 g1 s1 EK⟩) qx
end
inductive wz where
 | nx (δ:DS)
 | bk (δ:DS)
 | ct (δ:DS)
 | rt (d:W)
 | xc (c:Str)
noncomputable abbrev SO:=Option (wz×ai)
section
variable{K:Frag}{cl:Str->Addr}{E:XK}
structure jG(K:Frag)(cl:Str->Addr)(ρ0:List Addr)(G0 H0:Hp)(ρ:List Addr)(G H:Hp)(δ:DS)(σ:St)(S:ai):Prop where
 rs:RS K cl ρ G H δ σ S
 gs:GS ρ0 G0 H0 ρ G H
 ow:∀(i:Nat) p ds,δ[i]?=some (.own ds)->σ[i]?=some (some (.ref p))->H0 p=none
noncomputable def EZ(K:Frag)(cl:Str->Addr)(E:XK)(ρ0:List Addr)(G0 H0:Hp)(D:oi)(S:ai):wz->Prop
 | .nx δ=>∀σ ρ G H,jG K cl ρ0 G0 H0 ρ G H δ σ S->D.nx σ H
 | .bk δ=>∀σ ρ G H,jG K cl ρ0 G0 H0 ρ G H δ σ S->D.bk σ H
 | .ct δ=>∀σ ρ G H,jG K cl ρ0 G0 H0 ρ G H δ σ S->D.ct σ H
 | .rt d=>∀v ρ G H,GS ρ0 G0 H0 ρ G H->SR K ρ cl G H S->Dw K ρ G v d->D.rt v H
 | .xc c=>∀ρ G H,GS ρ0 G0 H0 ρ G H->SR K ρ cl G H S->E (.ref (cl c)) none H
noncomputable def nv(K:Frag)(cl:Str->Addr)(E:XK)(t:TS)(f:DS->ai->SO):Prop:=
 ∀(ρ0:List Addr)(G0 H0:Hp)(ρ:List Addr)(G:Hp)(σ:St)(H:Hp)(δ:DS)(S:ai)(o:wz)(S':ai)(D:oi),jG K cl ρ0 G0 H0 ρ G H δ σ S->f δ S=some (o,S')->EZ K cl E ρ0 G0 H0 D S' o->t D σ H
theorem jG.grow(I:jG K cl ρ0 G0 H0 ρ G H δ σ S)(g:GS ρ G H ρ' G' H')(s:SR K ρ' cl G' H' S'):jG K cl ρ0 G0 H0 ρ' G' H' δ σ S':=⟨I.rs.grow g s,I.gs.trans g,I.ow⟩
theorem jG.sub(I:jG K cl ρ0 G0 H0 ρ G H δ σ S)(R:Rl K ρ G H δ' σ')(o:gL δ' σ' δ σ):jG K cl ρ0 G0 H0 ρ G H δ' σ' S:=
 ⟨⟨R,I.rs.st,λi ds p h1 h2=>by
  obtain⟨es,h3,h4⟩:=o i ds p h1 h2;exact I.rs.ap i es p h3 h4⟩,I.gs,λi p ds h1 h2=>by
  obtain⟨es,h3,h4⟩:=o i ds p h1 h2;exact I.ow i p es h3 h4⟩
theorem jG.base(I:jG K cl ρ0 G0 H0 ρ G H δ σ S):jG K cl ρ G H0 ρ G H δ σ S:=
 ⟨I.rs,⟨UZ _,.refl _,I.gs.s,λb o hb e=>I.gs.h b o (λh=>hb (I.gs.r.subset h)) e,I.gs.k,λ_ _ e=>e,λa h1 h2=>absurd h1 h2,I.gs.t⟩,I.ow⟩
theorem GS.rebase(a:GS ρ0 G0 H0 ρ G H)(b:GS ρ G H0 ρ' G' H'):GS ρ0 G0 H0 ρ' G' H':=
 ⟨a.r.trans b.r,a.g.trans b.g,b.s,λc o hc e=>b.h c o (λh=>by rw[a.f c h hc]at e;cases e) e,b.k,λc h1 h2=>b.n c h1 (a.n c h1 h2),λc h1 h2=>by
  by_cases h3:c∈ρ
  . exact a.f c h3 h2
  . exact b.f c h1 h3,b.t⟩
theorem jG.rebase(a:GS ρ0 G0 H0 ρ G H)(I:jG K cl ρ G H0 ρ' G' H' δ σ S):jG K cl ρ0 G0 H0 ρ' G' H' δ σ S:=⟨I.rs,a.rebase I.gs,I.ow⟩
noncomputable def yi(δ:DS)(σ:St)(b:Addr):Prop:=∃(i:Nat) (ds:List W),δ[i]?=some (.own ds)/\σ[i]?=some (some (.ref b))
noncomputable def hideO(δ:DS)(σ:St)(H:Hp):Hp:=λb=>@ite _ (yi δ σ b) (Classical.propDecidable _) none (H b)
theorem ue(h:yi δ σ b):hideO δ σ H b=none:=by
 unfold hideO
 grind
theorem dE(h:¬ yi δ σ b):hideO δ σ H b=H b:=by
 unfold hideO
 grind
noncomputable def Dr:i5->wz
 | .nx δ=>.nx δ
 | .bk δ=>.bk δ
 | .ct δ=>.ct δ
 | .rt d=>.rt d
noncomputable def ag(f:DS->Option i5):DS->ai->SO:=λδ S=>(f δ).map λo=>(Dr o,S)
theorem Ah(h:∀ρ,pT K ρ t f):nv K cl E t (ag f):=λρ0 G0 H0 ρ G σ H δ S o S' D I e p=>by
 obtain⟨o',e1,e2⟩:=oM e
 cases e2;have same0:bm (hideO δ σ H) H:=λb u hb=>by
  by_cases ho:yi δ σ b
  . rw[ue ho]at hb;cases hb
  . rw[dE ho]at hb;exact hb
 have notown:∀a,a∈ρ->¬ yi δ σ a:=λa ha hy0=>by obtain⟨i,ds,k1,k2⟩:=hy0;exact I.rs.ap i ds a k1 k2 ha
 have ownlst:∀b,yi δ σ b->∃vs,H b=some _:=λb hy0=>by
  obtain⟨i,ds,k1,k2⟩:=hy0;obtain⟨o,m1,q,vs,rfl,m3,m4,m5⟩:=I.rs.rl.sl i _ k1;rw[k2]at m1;cases m1;exact⟨vs,m4⟩
 have sr0:SR K ρ cl G _ S:=⟨I.rs.st.len,I.rs.st.nd,λn ob en=>by
  obtain⟨a,k1,k2,k3⟩:=I.rs.st.ob n ob en;refine⟨a,k1,k2,k3.move (UZ _) (.refl _) (dE (notown a (UV k1))) λdx d1 d2=>⟨?_,d1⟩⟩;rw[dE λho=>by
   grind]
  exact d2⟩
 have iv:Iv K ρ G (hideO δ σ H) G H δ σ:=⟨I.rs.rl,⟨.refl _,same0,I.gs.s,λ_ _ e=>e⟩,λi q ds k1 k2=>ue ⟨i,ds,k1,k2⟩⟩
 have h0own:∀b,H0 b≠none->¬ yi δ σ b:=λb hb hy0=>by obtain⟨i,ds,k1,k2⟩:=hy0;exact hb (I.ow i b ds k1 k2)
 have gs:∀{G' H':Hp},Gr G (hideO δ σ H) G' H'->GS _ G0 H0 ρ G' H':=λ{G' H'} g=>
  ⟨I.gs.r,I.gs.g.trans g.g,g.s,λb u hb eb=>g.h b u (by rw[dE (h0own b (by rw[eb];simp))];exact I.gs.h b u hb eb),λb hb=>vb g.h (by rw[dE (h0own b hb)];exact I.gs.k b hb),λb h1 h2=>g.n b (by unfold nT;rw[dE (h0own b h1.1)];exact I.gs.t b h1) (I.gs.n b h1 h2),I.gs.f,λb h1=>nT.same (by unfold nT;rw[dE (h0own b h1.1)];exact I.gs.t b h1) g.h⟩
 have nx:∀{δ':DS}{σ':St}{G' H':Hp},Iv K ρ G (hideO δ σ H) G' H' δ' σ'->jG K cl ρ0 G0 H0 ρ G' H' δ' σ' S:=λ{δ' σ' G' H'} I'=>
  ⟨⟨I'.rl,sr0.grow I'.gr,λi ds q k1 k2 hq=>by
   have:=I'.ow i q ds k1 k2;rw[dE (notown q hq)]at this;obtain⟨j,hj,ej⟩:=VF.mp hq;obtain⟨b,m1,m2,m3⟩:=I.rs.st.ob j (S[j]'(by rw[<-I.rs.st.len];exact hj)) (Uu _);rw[Uu hj,ej]at m1;cases m1;obtain⟨y,hy,_⟩:=m3.some;rw[this]at hy;cases hy⟩,gs I'.gr,λi q ds k1 k2=>by
   have h1:=I'.ow i q ds k1 k2;cases h2:H0 q with
   | none=>rfl
   | some u=>
    exfalso;have h3:=I.gs.k q (by rw[h2];simp);rw[dE (h0own q (by rw[h2];simp))]at h1;exact h3 h1⟩
 refine h ρ G (hideO δ σ H) G σ H δ o' D iv e1 ?_;cases o' with
 | nx δ'=>exact λσ' G' H' I'=>p σ' ρ G' H' (nx I')
 | bk δ'=>exact λσ' G' H' I'=>p σ' ρ G' H' (nx I')
 | ct δ'=>exact λσ' G' H' I'=>p σ' ρ G' H' (nx I')
 | rt d=>exact λv G' H' g dv=>p v ρ G' H' (gs g) (sr0.grow g) dv
noncomputable def ak(f g:DS->ai->SO):DS->ai->SO:=λδ S=>match f δ S with
 | some (.nx δ',S')=>g δ' S'
 | o=>o
theorem Cs(h1:nv K cl E t f)(h2:nv K cl E u g):nv K cl E (GE t u) (ak f g):=λρ0 G0 H0 ρ G σ H δ S o S' D I e p=>by
 unfold ak at e;cases ef:f δ S with
 | none=>simp_all
 | some r=>
  obtain⟨o1,S1⟩:=r;rw[ef]at e;refine h1 _ G0 H0 ρ G σ H δ S o1 S1 _ I ef ?_;cases o1 with
  | nx δ'=>exact λσ' ρ' G' H' I'=>h2 _ G0 H0 _ G' _ H' _ S1 o S' D I' e p
  | bk δ'=>cases e;exact p
  | ct δ'=>cases e;exact p
  | rt d=>cases e;exact p
  | xc c=>cases e;exact p
noncomputable def jz{α:Type}(m:SM α)(k:α->ai->SO):SO:=match m with
 | some (.ok a,S)=>k a S
 | some (.xc c,S)=>some (.xc c,S)
 | none=>none
theorem mI(h:jz m k=some (o,S')):(∃c,m=some (.xc c,S')/\o=.xc c)∨∃a S1,m=some (.ok a,S1)/\k a S1=some (o,S'):=by
 unfold jz at h
 grind
theorem eP(h:SE K cl E t f){P:V->Hp->Prop}(I:jG K cl ρ0 G0 H0 ρ G H δ σ S)(e:jz (f δ S) k=some (o,S'))(p:EZ K cl E ρ0 G0 H0 D S' o)
 (q:∀d S1,k d S1=some (o,S')->∀v ρ' G' H',GS ρ G H ρ' G' H'->SR K ρ' cl G' H' S1->Dw K ρ' G' v d->P v H'):t σ H P:=by
 rcases mI e with⟨c,em,rfl⟩ | ⟨d,S1,em,e⟩
 . exact h ρ G σ H δ S _ _ _ I.rs em (λd hd=>by cases hd) λc' hc ρ1 G1 H1 g1 s1=>by cases hc;exact p _ G1 H1 (I.gs.trans g1) s1
 . exact h ρ G σ H δ S _ _ _ I.rs em (λd' hd=>by grind) (λc' hc=>by cases hc)
theorem A0(h:ST K cl E t f)(I:jG K cl ρ0 G0 H0 ρ G H δ σ S)(e:jz (f δ S) k=some (o,S'))(p:EZ K cl E ρ0 G0 H0 D S' o)
 (q:∀d S1,k d S1=some (o,S')->∀ρ' G' H',GS ρ G H ρ' G' H'->SR K ρ' cl G' H' S1->P d H'):t σ H P:=by
 rcases mI e with⟨c,em,rfl⟩ | ⟨d,S1,em,e⟩
 . exact h ρ G σ H δ S _ _ _ I.rs em (λd hd=>by cases hd) λc' hc ρ1 G1 H1 g1 s1=>by cases hc;exact p _ G1 H1 (I.gs.trans g1) s1
 . exact h ρ G σ H δ S _ _ _ I.rs em (λd' hd=>by grind) (λc' hc=>by cases hc)
noncomputable def bh(c:DS->ai->SM Bool)(f g:DS->ai->SO):DS->ai->SO:=λδ S=>jz (c δ S) λb S1=>if b=true then f δ S1 else g δ S1
theorem Jw(hc:ST K cl E tc c)(h1:nv K cl E t f)(h2:nv K cl E u g):nv K cl E (K1 tc t u) (bh c f g):=λρ0 G0 H0 ρ G σ H δ S o S' D I e p=>
 A0 hc I e p λb S1 e1 ρ1 G1 H1 g1 s1=>by
  cases b with
  | true=>exact h1 _ G0 H0 _ G1 σ H1 δ S1 o S' D (I.grow g1 s1) e1 p
  | false=>exact h2 _ G0 H0 _ G1 σ H1 δ S1 o S' D (I.grow g1 s1) e1 p
noncomputable def eM(f:DS->ai->SM W):DS->ai->SO:=λδ S=>jz (f δ S) λd S1=>some (.rt d,S1)
theorem Cw(h:SE K cl E t f):nv K cl E (K3 t) (eM f):=λρ0 G0 H0 ρ G σ H δ S o S' D I e p=>
 eP h I e p λd S1 e1 v ρ1 G1 H1 g1 s1 dv=>by
  cases e1;exact p v _ G1 H1 (I.gs.trans g1) s1 dv
noncomputable def bH(f:DS->ai->SM W)(h:W->DS->Option DS):DS->ai->SO:=λδ S=>jz (f δ S) λd S1=>(h d δ).map λδ'=>(.nx δ',S1)
theorem Cc(h1:SE K cl E t f)(h2:∀ρ,DG K ρ g h):nv K cl E (r9 t g) (bH f h):=λρ0 G0 H0 ρ G σ H δ S o S' D I e p=>
 eP h1 I e p λd S1 e1 v ρ1 G1 H1 g1 s1 dv=>by
  obtain⟨δ',e2,e3⟩:=oM e1
  cases e3;have I1:=I.grow g1 s1;exact h2 _ G1 H1 δ σ v d _ _ I1.rs.rl dv e2 λσ' R o=>p _ _ G1 H1 (I1.sub R o)
noncomputable def aT(f:DS->ai->SM W):DS->ai->SO:=λδ S=>jz (f δ S) λ_ S1=>some (.nx δ,S1)
theorem zm(h:SE K cl E t f):nv K cl E (oC t) (aT f):=λρ0 G0 H0 ρ G σ H δ S o S' D I e p=>
 eP h I e p λd S1 e1 v ρ1 G1 H1 g1 s1 dv=>by
  cases e1;exact p σ _ G1 H1 (I.grow g1 s1)
noncomputable def Fm(i:Nat)(f:DS->ai->SO):DS->ai->SO:=λδ S=>f (frz i δ) S
theorem jG.frz(i:Nat)(I:jG K cl ρ0 G0 H0 ρ G H δ σ S):∃G',jG K cl ρ0 G0 H0 ρ G' H (L2.frz i δ) σ S:=by
 unfold L2.frz;split
 . rename_i ds h;obtain⟨o,h1,p,vs,rfl,h3,h4,h5⟩:=I.rs.rl.sl i _ h;have h0:=I.ow i p ds h h1;have g:bm G (cx G p (.lst vs)):=jH h3 _;have pm:=I.rs.ap i ds p h h1;have sub:∀{j:Nat}{es:List W},(δ.set i (.val (.list ds)))[j]?=some (.own es)->i≠j/\δ[j]?=some _:=λ{j es} k=>by
    rcases cC k with⟨_,z,_⟩ | ⟨ne,k⟩
    . cases z
    . exact⟨ne,k⟩
   refine⟨cx G p _,⟨⟨⟨kt I.gs.s h4,by rw[U1];exact I.rs.rl.len,λj s e=>?_,λj k q ds' es' k1 k2 k3 k4=>I.rs.rl.apart j k q _ _ (sub k1).2 (sub k2).2 k3 k4⟩,?_,λj es q k1 k2=>I.rs.ap j es q (sub k1).2 k2⟩,?_,λj q es k1 k2=>I.ow j q es (sub k1).2 k2⟩⟩
   . rcases cC e with⟨rfl,rfl,hl⟩ | ⟨ne,e⟩
     . exact⟨_,h1,.ref p,rfl,.lst (c8.of aC) (h5.same g)⟩
     . obtain⟨o,k1,k2⟩:=I.rs.rl.sl j s e;refine⟨o,k1,?_⟩;cases s with
       | no=>trivial
       | val d=>
        obtain⟨v,e1,e2⟩:=k2;exact⟨v,e1,e2.same g⟩
       | own es=>
        obtain⟨q,ws,rfl,e2,e3,e4⟩:=k2;refine⟨q,ws,rfl,?_,e3,e4.same g⟩;rw[aE]
        . exact e2
        . rintro rfl;exact ne (I.rs.rl.apart i j q ds es h e h1 k1)
   . refine⟨I.rs.st.len,I.rs.st.nd,λn ob en=>?_⟩;obtain⟨a,k1,k2,k3⟩:=I.rs.st.ob n ob en;have hap:a≠p:=λz=>pm (z▸UV k1);exact⟨a,k1,by rw[aE hap];exact k2,k3.move (UZ _) g rfl λdx d1 d2=>⟨d2,by
      rw[aE (λz=>by rw[z,h4]at d2;cases d2)];exact d1⟩⟩
   . exact⟨I.gs.r,I.gs.g.trans g,kt I.gs.s h4,I.gs.h,I.gs.k,λb k1 k2=>by
      rw[aE (λz=>k1.1 (by rw[z];exact h0))];exact I.gs.n b k1 k2,I.gs.f,I.gs.t⟩
 grind
theorem Kp(h:nv K cl E t f):nv K cl E t (Fm i f):=λρ0 G0 H0 ρ G σ H δ S o S' D I e p=>by
 obtain⟨G',I'⟩:=I.frz i;exact h _ G0 H0 ρ G' σ H _ S o S' D I' e p
noncomputable def dP(c f:Str)(fo fv:DS->ai->SM W):DS->ai->SO:=λδ S=>jz (fv δ S) λd S1=>jz (fo δ S1) λx S2=>(ge c x S2).bind λp=>if p.2.length<1000 then some (.nx δ,S2.set p.1 (.ins c (c7 f d p.2))) else none
theorem Dy(hc:xx K (cl c))(hn:NoAttr K (cl c) f)(ho:SE K cl E to fo)(hv:SE K cl E tv fv):nv K cl E (Pp K to tv f) (dP c f fo fv):=λρ0 G0 H0 ρ G σ H δ S o S' D I e p=>
 eP hv I e p λd S1 e1 v ρ1 G1 H1 g1 s1 dv=>by
  have I1:=I.grow g1 s1;refine eP ho I1 e1 p λx S2 e2 u ρ2 G2 H2 g2 s2 du=>?_;obtain⟨⟨n,fs⟩,e3,e4⟩:=oB e2
  split at e4
  case isFalse=>cases e4
  rename_i hl;cases e4;obtain⟨rfl,e5⟩:=gF e3;obtain⟨a,rfl,ea⟩:=cY du;obtain⟨ga,dx,ws,k1,k2,k3,k4⟩:=s2.addr e5 ea;have I2:=I1.grow g2 s2;have hda:dx≠a:=λz=>by simp_all
  obtain⟨s3,g3⟩:=s2.put (x:=.ins _ dx _) (o':=.ins c _) g2.s e5 ea (λb z=>by cases z) ⟨dx,_,aC,k2,by rw[aE hda];exact k3,k4.putF ((dv.ext g2.r).same g2.g)⟩;exact⟨a,_,dx,ws,rfl,k1,hc,hn,by rw[<-k4.length];exact hl,p σ _ G2 _ (I2.grow g3 s3)⟩
noncomputable def mZ(c f:Str)(fo fv:DS->ai->SM W):DS->ai->SO:=λδ S=>jz (fo δ S) λx S1=>(ge c x S1).bind λp=>(p.2.lookup f).bind λold=>jz (fv δ S1) λy S2=>(gI (λi j=>i+j) old y).bind λz=>(ge c x S2).bind λp2=>if p2.2.length<1000 then some (.nx δ,S2.set p2.1 (.ins c (c7 f z p2.2))) else none
theorem AZ{c f:Str}{to tv:TE}{fo fv:DS->ai->SM W}(hc:xx K (cl c))(hn:NoAttr K (cl c) f)(ho:SE K cl E to fo)(hv:SE K cl E tv fv):nv K cl E (uY K to tv N8 f) (mZ c f fo fv):=λρ0 G0 H0 ρ G σ H δ S o S' D I e p=>
 eP ho I e p λx S1 e1 u ρ1 G1 H1 g1 s1 du=>by
  obtain⟨⟨n,fs⟩,e3,e4⟩:=oB e1
  obtain⟨old,e5,e6⟩:=oB e4
  obtain⟨rfl,e7⟩:=gF e3;obtain⟨a,rfl,ea⟩:=cY du;obtain⟨ga,dx,ws,k1,k2,k3,k4⟩:=s1.addr e7 ea;obtain⟨ov,k5,k6⟩:=k4.lookup e5;have I1:=I.grow g1 s1;refine⟨a,_,dx,ws,ov,rfl,k1,hc,hn,k5,?_⟩;refine eP hv I1 e6 p λy S2 e8 v ρ2 G2 H2 g2 s2 dv=>?_;obtain⟨z,e9,e10⟩:=oB e8
  obtain⟨⟨m,fs2⟩,e11,e12⟩:=oB e10
  split at e12
  case isFalse=>cases e12
  rename_i hl;cases e12;obtain⟨em,e13⟩:=gF e11;cases em;have ea2:ρ2[n]?=some a:=by
   obtain⟨t',ht⟩:=g2.r;rw[<-ht,UA (oG ea).1];exact ea
  obtain⟨ga2,dx2,ws2,m1,m2,m3,m4⟩:=s2.addr e13 ea2;have I2:=I1.grow g2 s2;have hda:dx2≠a:=λzz=>by rw[zz,m1]at m3;cases m3
  unfold gI at e9;split at e9
  . cases e9;cases cQ k6;cases cQ dv;rename_i i j;obtain⟨s3,g3⟩:=s2.put (x:=.ins (cl c) dx2 (putF f (.int (i+j)) ws2)) (o':=.ins c (c7 f (.int (i+j)) fs2)) g2.s e13 ea2 (λb zz=>by cases zz) ⟨dx2,_,aC,m2,by rw[aE hda];exact m3,m4.putF (.int _)⟩;exact⟨i,j,rfl,rfl,dx2,ws2,m1,by rw[<-m4.length];exact hl,p σ ρ2 G2 _ (I2.grow g3 s3)⟩
  . cases e9
noncomputable def bc(h:W->DS->Option DS)(fb:DS->ai->SO):List W->DS->ai->SO
 | [],δ,S=>some (.nx δ,S)
 | d::ds,δ,S=>(h d δ).bind λδ2=>match fb δ2 S with
  | some (.nx δ',S')=>bc h fb ds δ' S'
  | some (.ct δ',S')=>bc h fb ds δ' S'
  | some (.bk δ',S')=>some (.nx δ',S')
  | some (.rt d,S')=>some (.rt d,S')
  | some (.xc c,S')=>some (.xc c,S')
  | none=>none
noncomputable def fw(fi:DS->ai->SM (List W))(h:W->DS->Option DS)(fb:DS->ai->SO):DS->ai->SO:=λδ S=>jz (fi δ S) λds S1=>bc h fb ds δ S1
theorem C0(hi:Mc K cl E wi fi)(hg:∀ρ,DG K ρ g h)(hb:nv K cl E tb fb):nv K cl E (LO wi g tb) (fw fi h fb):=λρ0 G0 H0 ρ G σ H δ S o S' D I e p=>by
 rcases mI e with⟨c,em,rfl⟩ | ⟨ds,S1,em,e⟩
 . exact hi ρ G σ H δ S _ _ _ I.rs em (λd hd=>by cases hd) λc' hc ρ1 G1 H1 g1 s1=>by cases hc;exact p _ G1 H1 (I.gs.trans g1) s1
 refine hi ρ G σ H δ S _ _ _ I.rs em (λds' hd=>?_) λc' hc=>by cases hc
 cases hd;intro J ρ1 G1 H1 g1 s1 it;refine⟨λi m σ H=>m=ds.length-i/\i<=ds.length/\∃ρ2 G2 δ2 S2,jG K cl _ G0 H0 ρ2 G2 H δ2 σ S2/\ρ1 <+: ρ2/\bm G1 G2/\bc h fb (ds.drop i) δ2 S2=some _,⟨ds.length,by simp,Vn _,ρ1,G1,δ,S1,I.grow g1 s1,UZ _,.refl _,by simpa using e⟩,?_⟩;rintro i m σ2 H2 ⟨rfl,hil,ρ2,G2,δ2,S2,I2,pr2,s2,e2⟩;have ia:=it i G2 H2 s2 I2.gs.s;by_cases hlt:i<ds.length
 . refine .inr ?_;obtain⟨go,step⟩:=ia.1 _ (Uu _);rw[U0 hlt]at e2;obtain⟨δ3,e3,e4⟩:=oB e2
   have turn:∀P o1 S3,fb _ S2=some _->(∀G3 H3,Gr G2 H2 G3 H3->EZ K cl E _ G3 H0 P S3 o1)->∀x H',J.yld i H2 x H'->g x _ H' _:=λP o1 S3 ef hp x H' y=>by
    obtain⟨G3,g3,dx⟩:=step x H' y;have I3:=I2.grow (.of g3) (I2.rs.st.grow g3);refine hg ρ2 G3 H' δ2 σ2 x _ δ3 _ I3.rs.rl (dx.ext pr2) e3 λσ3 R3 o3=>?_;exact hb ρ2 G3 H0 ρ2 G3 σ3 H' δ3 S2 o1 S3 P (I3.sub R3 o3).base ef (hp G3 H' g3)
   have back:∀{G3 H3:Hp},Gr G2 H2 G3 H3->∀{ρ4:List Addr}{G4 H4:Hp}{σ4:St}{δ4:DS}{S4:ai},jG K cl ρ2 G3 H0 ρ4 G4 H4 δ4 σ4 S4->jG K cl ρ0 G0 H0 ρ4 G4 H4 δ4 σ4 S4/\ρ1 <+: ρ4/\bm G1 G4:=λ{G3 H3} g3 {ρ4 G4 H4 σ4 δ4 S4} I4=>⟨I4.rebase (I2.gs.trans (.of g3)),pr2.trans I4.gs.r,s2.trans (g3.g.trans I4.gs.g)⟩
   cases ef:fb δ3 S2 with
   | none=>rw[ef]at e4;cases e4
   | some r=>
    obtain⟨o1,S3⟩:=r;rw[ef]at e4;cases o1 with
    | nx δ'=>
     exact⟨go,λσ' H'=>∃ρ' G',jG K cl ρ0 G0 H0 ρ' G' H' δ' σ' S3/\ρ1 <+: ρ'/\bm G1 G',λσ' H' hy0=>by obtain⟨ρ',G',I',q1,q2⟩:=hy0;exact⟨ds.length-(i+1),by omega,rfl,hlt,ρ',G',δ',S3,I',q1,q2,e4⟩,turn _ _ _ ef λG3 H3 g3 σ5 ρ5 G5 H5 I5=>⟨ρ5,G5,back g3 I5⟩⟩
    | ct δ'=>
     exact⟨go,λσ' H'=>∃ρ' G',jG K cl ρ0 G0 H0 ρ' G' H' δ' σ' S3/\ρ1 <+: ρ'/\bm G1 G',λσ' H' hy0=>by obtain⟨ρ',G',I',q1,q2⟩:=hy0;exact⟨ds.length-(i+1),by omega,rfl,hlt,ρ',G',δ',S3,I',q1,q2,e4⟩,turn _ _ _ ef λG3 H3 g3 σ5 ρ5 G5 H5 I5=>⟨ρ5,G5,back g3 I5⟩⟩
    | bk δ'=>
     cases e4;exact⟨go,λ_ _=>False,λ_ _ z=>z.elim,turn _ _ _ ef λG3 H3 g3 σ5 ρ5 G5 H5 I5=>p σ5 ρ5 G5 H5 (back g3 I5).1⟩
    | rt d=>
     cases e4;exact⟨go,λ_ _=>False,λ_ _ z=>z.elim,turn _ _ _ ef λG3 H3 g3 v ρ5 G5 H5 g5 s5 dv=>p v ρ5 G5 H5 ((I2.gs.trans (.of g3)).rebase g5) s5 dv⟩
    | xc c=>
     cases e4;exact⟨go,λ_ _=>False,λ_ _ z=>z.elim,turn _ _ _ ef λG3 H3 g3 ρ5 G5 H5 g5 s5=>p ρ5 G5 H5 ((I2.gs.trans (.of g3)).rebase g5) s5⟩
 . have hi':i=ds.length:=by omega
   subst hi';rw[VH]at e2;cases e2;exact .inl ⟨ia.2 (Ug _),p σ2 ρ2 G2 H2 I2⟩
noncomputable def bG(c:DS->ai->SM Bool)(fb:DS->ai->SO):Nat->DS->ai->SO
 | 0,_,_=>none
 | n+1,δ,S=>jz (c δ S) λb S1=>if b=true then match fb δ S1 with
  | some (.nx δ',S')=>bG c fb n δ' S'
  | some (.ct δ',S')=>bG c fb n δ' S'
  | some (.bk δ',S')=>some (.nx δ',S')
  | some (.rt d,S')=>some (.rt d,S')
  | some (.xc x,S')=>some (.xc x,S')
  | none=>none
  else some (.nx δ,S1)
theorem vX{n:Nat}{tc:TT}{tb:TS}{c:DS->ai->SM Bool}{fb:DS->ai->SO}(hc:ST K cl E tc c)(hb:nv K cl E tb fb):nv K cl E (CC tc tb) (bG c fb n):=λρ0 G0 H0 ρ G σ H δ S o S' D I e p=>by
 refine⟨λm σ H=>∃ρ G δ S,jG K cl ρ0 G0 H0 ρ G H δ σ S/\bG c fb m δ S=some (o,S'),⟨n,ρ,G,δ,S,I,e⟩,?_⟩;rintro m σ2 H2 ⟨ρ2,G2,δ2,S2,I2,e2⟩;cases m with
 | zero=>cases e2
 | succ m=>
  refine A0 hc I2 e2 p λb S3 e3 ρ3 G3 H3 g3 s3=>?_;have I3:=I2.grow g3 s3;cases b with
  | false=>cases e3;exact p σ2 ρ3 G3 H3 I3
  | true=>
   rw[Ul rfl]at e3 ⊢;cases ef:fb δ2 S3 with
   | none=>rw[ef]at e3;cases e3
   | some r=>
    obtain⟨o1,S4⟩:=r;rw[ef]at e3;cases o1 with
    | nx δ'=>exact⟨λσ' H'=>∃ρ' G',jG K cl ρ0 G0 H0 ρ' G' H' δ' σ' S4,λσ' H' hy0=>by obtain⟨ρ',G',I'⟩:=hy0;exact⟨m,UY _,ρ',G',δ',S4,I',e3⟩,hb ρ0 G0 H0 ρ3 G3 σ2 H3 δ2 S3 _ _ _ I3 ef λσ5 ρ5 G5 H5 I5=>⟨ρ5,G5,I5⟩⟩
    | ct δ'=>exact⟨λσ' H'=>∃ρ' G',jG K cl ρ0 G0 H0 ρ' G' H' δ' σ' S4,λσ' H' hy0=>by obtain⟨ρ',G',I'⟩:=hy0;exact⟨m,UY _,ρ',G',δ',S4,I',e3⟩,hb ρ0 G0 H0 ρ3 G3 σ2 H3 δ2 S3 _ _ _ I3 ef λσ5 ρ5 G5 H5 I5=>⟨ρ5,G5,I5⟩⟩
    | bk δ'=>cases e3;exact⟨λ_ _=>False,λ_ _ z=>z.elim,hb ρ0 G0 H0 ρ3 G3 σ2 H3 δ2 S3 _ _ _ I3 ef λσ5 ρ5 G5 H5 I5=>p σ5 ρ5 G5 H5 I5⟩
    | rt d=>cases e3;exact⟨λ_ _=>False,λ_ _ z=>z.elim,hb ρ0 G0 H0 ρ3 G3 σ2 H3 δ2 S3 _ _ _ I3 ef p⟩
    | xc x=>cases e3;exact⟨λ_ _=>False,λ_ _ z=>z.elim,hb ρ0 G0 H0 ρ3 G3 σ2 H3 δ2 S3 _ _ _ I3 ef p⟩
noncomputable def bC:SO->SM W
 | some (.rt d,S)=>some (.ok d,S)
 | some (.nx _,S)=>some (.ok .none,S)
 | some (.xc c,S)=>some (.xc c,S)
 | _=>none
noncomputable def aN(a n:Nat)(fb:DS->ai->SO):List W->ai->SM W:=λds S=>if ds.length=a then bC (fb (f6 n ds) S) else none
theorem tM(h:aN a n fb ds S=some r):ds.length=a:=by
 unfold aN at h
 simp_all
theorem RJ(hn:N.length=n)(h:nv K cl E t fb)(hsp:TW K cl (aN a n fb) vs H Q E):t { nx:=λ_ H'=>Q .non H',rt:=Q } (start N vs) H:=by
 subst hn;obtain⟨ρ,G,S,ds,r,S',s,sr,da,e,q,qx⟩:=hsp;have R:=xb (N:=N) s da;have I:jG K cl ρ G H ρ G H _ _ S:=⟨⟨R,sr,λi ds' p h1=>absurd h1 iV⟩,.refl s,λi p ds' h1=>absurd h1 iV⟩
 unfold aN at e;rw[Ul (tM (show aN a _ fb ds S=some _ from e))]at e;cases ef:fb _ S with
 | none=>rw[ef]at e;cases e
 | some o=>
  obtain⟨o,S1⟩:=o;rw[ef]at e;refine h ρ G H ρ G _ H _ S o S1 _ I ef ?_;cases o with
  | nx δ=>cases e;exact λσ' ρ' G' H' I'=>q _ rfl _ _ G' H' I'.gs I'.rs.st .non
  | rt d'=>cases e;exact λv ρ' G' H' g s dv=>q _ rfl v _ G' H' g s dv
  | xc c=>cases e;exact λρ' G' H' g s=>qx _ rfl _ G' H' g s
  | bk _=>cases e
  | ct _=>cases e
theorem Ig{f:List W->ai->SM W}(hf:∀ds S r,f ds S=some r->ds.length=a)(h:eE K cl f vs H Q E):vs.length=a:=by
 obtain⟨ρ,G,S,ds,r,S',s,sr,da,e,q⟩:=h;rw[da.length]
 grind
theorem PF(hn:N.length=n)(h:nv K cl E0 t fb)(hsp:eE K cl (aN a n fb) vs H Q E):t { nx:=λ_ H'=>Q .non H',rt:=Q } (start N vs) H:=by
 obtain⟨ρ,G,S,ds,d,S',s,sr,da,e,q⟩:=hsp;exact RJ  hn h ⟨ρ,G,S,ds,.ok d,S',s,sr,da,e,λd' hd=>by grind,(λc hc=>by cases hc)⟩
theorem E7{g:List W->ai->SM W}(hg:∀ds S,g ds S=none)(h:eE K cl g vs H Q E):False:=by
 obtain⟨ρ,G,S,ds,r,S',s,sr,da,e,q⟩:=h
 simp_all
theorem eW.no0{g:List W->ai->SM W}(hg:∀ds S,g ds S=none):eW P w K mg base CX k f fd ps (eE K cl g):=
 ⟨λ_ _ _ _ h=>(E7 hg h).elim,λ_ _ _ _ _ _ _ _ _ _ _ _ _ h=>(E7 hg h).elim⟩
end
section
variable{X:Cx}{pins:List (Addr×Obj)}{σ:St}{H:Hp}{s:Shared}{a:Addr}{kvs:List (bD×V)}{k:bD}{u:Value}{A:Around}{E:Value->Shared->Prop}
end
section
variable{X:Cx}{o e f:Expr}{td ty tx:TE}{apos cpos:Pos}
end
section
variable{prog:Program}{w:World}{A:Around}{E:Value->Shared->Prop}{s:Shared}
end
section
variable{X:Cx}{pos:Pos}
end
section
variable{K:Frag}{ρ:List Addr}
noncomputable def JF:W->Option V
 | .none=>some .non
 | .bool b=>some (.bl b)
 | .int i=>some (.int i)
 | .str x=>some (.str x)
 | _=>none
noncomputable def w6:List W->Option (List V)
 | []=>some []
 | d::ds=>(JF d).bind λv=>(w6 ds).map (v::·)
theorem rQ(h:Dw K ρ H v d)(e:JF d=some u):v=u/\gc u=true:=by
 cases h <;> first | (cases e;exact⟨rfl,rfl⟩) | cases e
theorem mq(h:az K ρ H vs ds):w6 ds=some us->vs=us/\us.all gc=true:=
 h.ind (M:=λvs ds=>∀us,w6 ds=some us->vs=us/\us.all _=true) (λus e=>by cases e;simp_all) (λ_ _ _ _ a ih us e=>by
  obtain⟨u,e1,e⟩:=oB e
  obtain⟨us,e2,rfl⟩:=oM e
  obtain⟨h1,h2⟩:=rQ a e1
  simp_all) us
noncomputable def iS(d e:W):Option Bool:=(wV e).bind λds=>(JF d).bind λv=>(w6 ds).map λvs=>IN v vs
noncomputable def i3(d e:W):Option Bool:=(iS d e).map (!·)
theorem wD{H:Hp}{x y:V}{d e:W}{b:Bool}(hx:Dw K ρ H x d)(hy:Dw K ρ H y e)(h:iS d e=some b):∃p xs,y=.ref p/\(c8 K H p xs∨fj K H p xs)/\gc x=true/\xs.all gc=true/\IN x xs=b:=by
 obtain⟨ds,e1,h⟩:=oB h
 obtain⟨v,e2,h⟩:=oB h
 obtain⟨vs,e3,rfl⟩:=oM h
 obtain⟨rfl,f1⟩:=rQ hx e2;cases hy with
 | lst sq da=>
  cases e1;obtain⟨rfl,f2⟩:=mq da e3;exact⟨_,_,rfl,.inl sq,f1,f2,rfl⟩
 | tup sq da=>
  cases e1;obtain⟨rfl,f2⟩:=mq da e3;exact⟨_,_,rfl,.inr (fj.of sq),f1,f2,rfl⟩
 | _=>cases e1
theorem N9:DB K ρ (zt K false) iS:=λH x y d e b Q hx hy hg q=>by
 obtain⟨p,xs,h1,h2,h3,h4,rfl⟩:=wD hx hy hg;exact⟨p,xs,h1,h2,h3,h4,q⟩
theorem D6:DB K ρ (zt K true) i3:=λH x y d e b Q hx hy hg q=>by
 obtain⟨b',hg',rfl⟩:=oM hg
 obtain⟨p,xs,h1,h2,h3,h4,rfl⟩:=wD hx hy hg';exact⟨p,xs,h1,h2,h3,h4,q⟩
noncomputable def Fl:List W->Option (List Bool)
 | []=>some []
 | d::ds=>(BY d).bind λb=>(Fl ds).map (b::·)
theorem II(h:az K ρ G vs ds):Fl ds=some bs->vs=bs.map V.bl:=
 h.ind (M:=λvs ds=>∀bs,Fl ds=some bs->vs=bs.map _) λbs e=>by cases e;rfl λ_ _ _ _ a ih bs e=>by
  obtain⟨i,e1,e⟩:=oB e
  obtain⟨ms,e2,rfl⟩:=oM e
  cases og e1;cases IK a
  simp_all bs
noncomputable def wT(d:W):Option W:=(kQ d).bind λds=>(Fl ds).map λbs=>.bool (bs.all id)
theorem MW:Jx K ρ (Mv K) wT:=λG H x d c Q s hx hg q=>by
 obtain⟨ds,e1,hg⟩:=oB hg
 obtain⟨bs,e2,rfl⟩:=oM hg
 cases fP e1;obtain⟨p,vs,rfl,sq,da⟩:=jc s hx;rw[II da e2]at sq;exact⟨p,bs,rfl,sq,q _ G H (.refl s) (.bl _)⟩
end
section
variable{K:Frag}{cl:Str->Addr}{E:XK}
noncomputable def ig(x:W)(S:ai):Option (Nat×List W):=match iy x S with
 | some (n,.lst ds)=>some (n,ds)
 | _=>none
theorem cP(h:ig x S=some (n,ds)):x=.ref n/\S[n]?=some (.lst ds):=by
 unfold ig at h;cases e:iy x S with
 | none=>simp_all
 | some p=>
  obtain⟨m,o⟩:=p;rw[e]at h;cases o with
  | lst ds=>cases h;exact f9 e
  | _=>cases h
noncomputable def EA(x:W)(S:ai):Option (List W):=match ig x S with
 | some (_,ds)=>some ds
 | none=>wV x
theorem Bf(sg:bm G H)(s:SR K ρ cl G H S)(dv:Dw K ρ G v x)(h:EA x S=some ds):∃p vs,v=.ref p/\(c8 K H p vs∨fj K H p vs)/\az K ρ G vs ds:=by
 unfold EA at h;split at h
 . rename_i n ds' e;cases h;obtain⟨rfl,e2⟩:=cP e;obtain⟨a,rfl,ea⟩:=cY dv;obtain⟨ga,vs,k1,k2⟩:=s.addr e2 ea;exact⟨a,vs,rfl,.inl (c8.of k1),k2⟩
 . cases dv with
   | lst sq da=>cases h;exact⟨_,_,rfl,.inl (sg.seq sq),da⟩
   | tup sq da=>cases h;exact⟨_,_,rfl,.inr (sg.tup (fj.of sq)),da⟩
   | _=>cases h
noncomputable def EG(x y:W)(S:ai):Option W:=match ig x S with
 | some (_,ds)=>(Gw y).bind λi=>jC ds i
 | none=>aW x y
noncomputable def sIx(fa fb:DS->ai->SM W):DS->ai->SM W:=λδ S=>aq (fa δ S) λx S1=>aq (fb δ S1) λy S2=>iD (EG x y S2) S2
theorem Pj(ha:SE K cl E ta fa)(hb:SE K cl E tb fb):SE K cl E (qd (QH K) ta tb) (sIx fa fb):=λρ G σ H δ S r' S' Q R e q qx=>
 gM ha hb R e (λx y S2 e2 v u ρ2 G2 H2 g2 s2 dv du=>by
  obtain⟨c,e3,rfl,rfl⟩:=bI e2;unfold EG at e3;split at e3
  . rename_i n ds e4;obtain⟨i,e5,e6⟩:=oB e3
    cases qJ e5;cases cQ du;obtain⟨rfl,e7⟩:=cP e4;obtain⟨a,rfl,ea⟩:=cY dv;obtain⟨ga,vs,k1,k2⟩:=s2.addr e7 ea;obtain⟨w,h1,h2⟩:=k2.at e6;exact .inl ⟨a,vs,_,w,rfl,rfl,c8.of k1,h1,q c rfl w _ G2 H2 g2 s2 h2⟩
  . exact Jd G2 H2 v u x y c Q g2.s (.inl dv) du e3 λw G3 H3 g3 dw=>q c rfl w _ G3 H3 (g2.trans (.of g3)) (s2.grow g3) dw) qx
noncomputable def ui(x:W)(S:ai):Option W:=match ig x S with
 | some (_,ds)=>some (.int ds.length)
 | none=>bw x
noncomputable def ly(fa:DS->ai->SM W):DS->ai->SM W:=λδ S=>aq (fa δ S) λx S1=>iD (ui x S1) S1
theorem KQ(ha:SE K cl E ta fa):SE K cl E (vQ (Aa K) (dM ta gS)) (ly fa):=λρ G σ H δ S r' S' Q R e q qx=>
 dQ ha R e (λx S2 e2 v ρ2 G2 H2 g2 s2 dv=>by
  obtain⟨c,e3,rfl,rfl⟩:=bI e2;unfold ui at e3;split at e3
  . rename_i n ds e4;cases e3;obtain⟨rfl,e7⟩:=cP e4;obtain⟨a,rfl,ea⟩:=cY dv;obtain⟨ga,vs,k1,k2⟩:=s2.addr e7 ea;exact .inl ⟨a,vs,rfl,.inl (c8.of k1),by rw[k2.length];exact q _ rfl _ _ G2 H2 g2 s2 (.int _)⟩
  . exact Cm G2 H2 v x c Q g2.s (.inl dv) e3 λw G3 H3 g3 dw=>q c rfl w _ G3 H3 (g2.trans (.of g3)) (s2.grow g3) dw) qx
noncomputable def T5(g:W->Option W)(fa:DS->ai->SM W):DS->ai->SM W:=λδ S=>aq (fa δ S) λx S1=>iD (g x) S1
noncomputable def zA(T:String)(x:W)(S:ai):Option W:=match ig x S with
 | some _=>if T = "list" then some (.bool true) else none
 | none=>match x with
  | .list _=>if T = "list" then some (.bool true) else none
  | .tuple _=>if T = "tuple" then some (.bool true) else none
  | _=>lM T x
noncomputable def EM(K:Frag):List V->Hp->VK->Prop:=λxs H Q=>Hh xs H Q∨Jc K xs H Q∨IU K xs H Q
theorem AN(h:X.K=K):bV X (.builtin "isinstance") (EM K):=tq.or ((yP h).or (xH h))
noncomputable def Si(T:String)(fa:DS->ai->SM W):DS->ai->SM W:=λδ S=>aq (fa δ S) λx S1=>iD (zA T x S1) S1
theorem wR(c:Value)(h:(c==c)=true):PySem.W.kitOne K c c=some true:=by
 unfold PySem.W.kitOne
 grind
noncomputable def eO(fo fv:DS->ai->SM W):DS->ai->SO:=λδ S=>jz (fo δ S) λx S1=>if(ig x S1).isSome=true then jz (fv δ S1) λd S2=>(ig x S2).bind λp=>if p.2.length<sizeLine then some (.nx δ,S2.set p.1 (.lst (p.2++[d]))) else none else none
theorem wH{ρ ρ':List Addr}{n:Nat}{a:Addr}(h:ρ <+: ρ')(e:ρ[n]?=some a):ρ'[n]?=some a:=by
 obtain⟨t,rfl⟩:=h;rw[UA (oG e).1];exact e
theorem tI(ho:SE K cl E to fo)(hv:SE K cl E tv fv):nv K cl E (oC (F4 K "list" mv to (dM tv gS))) (eO fo fv):=λρ0 G0 H0 ρ G σ H δ S o S' D I e p=>
 eP ho I e p λx S1 e1 u ρ1 G1 H1 g1 s1 du=>by
  split at e1
  case isFalse=>cases e1
  rename_i hx;obtain⟨⟨n,ds0⟩,hx0⟩:=Vp.mp hx;obtain⟨rfl,h0⟩:=cP hx0;obtain⟨a,rfl,ea⟩:=cY du;obtain⟨_,vs0,k0,_⟩:=s1.addr h0 ea;have I1:=I.grow g1 s1;refine⟨.inl ⟨rfl,vs0,c8.of k0⟩,eP hv I1 e1 p λd S2 e2 v ρ2 G2 H2 g2 s2 dv=>?_⟩;obtain⟨⟨m,ds⟩,e3,e4⟩:=oB e2
  split at e4
  case isFalse=>cases e4
  rename_i hl;cases e4;obtain⟨em,e5⟩:=cP e3;cases em;have ea2:=wH g2.r ea;obtain⟨ga,vs,k1,k2⟩:=s2.addr e5 ea2;obtain⟨s3,g3⟩:=s2.put  (o':=.lst _) g2.s e5 ea2 (λb z=>by cases z) ⟨_,aC,k2.app (.cons dv .nil)⟩;exact⟨a,vs,v,rfl,rfl,k1,by rw[k2.length];exact hl,p σ _ G2 _ ((I1.grow g2 s2).grow g3 s3)⟩
noncomputable def o8:W->Option bD
 | .int i=>some (Sum.inl i)
 | .str x=>some (Sum.inr x)
 | _=>none
theorem qp(h:Dw K ρ G v d)(e:o8 d=some k):v=kV k:=by
 cases h <;> first | (cases e;rfl) | cases e
noncomputable def wN(x:W)(S:ai):Option (Nat×List (bD×W)):=match iy x S with
 | some (n,.dK kvs)=>some (n,kvs)
 | _=>none
theorem tw(h:wN x S=some (n,kvs)):x=.ref n/\S[n]?=some (.dK kvs):=by
 unfold wN at h;split at h
 . rename_i n' ds' e;cases h;exact f9 e
 . cases h
noncomputable def aU{κ:Type}[DecidableEq κ](kvs:List (κ×W))(k:κ):Option W:=(kvs.find? λkv=>decide (kv.1=k)).map (·.2)
noncomputable def bL{κ:Type}[DecidableEq κ](kvs:List (κ×W))(k:κ)(v:W):List (κ×W):=if(kvs.any λkv=>decide (kv.1=k))=true then kvs.map λkv=>if kv.1=k then(kv.1,v) else kv else kvs++[(k,v)]
theorem i7.val[DecidableEq κ]{ρ:List Addr}{G:Hp}{k:κ}:∀{l:List (κ×W)}{m:List (κ×V)},i7 K ρ G l m->(∀d,aU l k=some d->∃v,k9 m k=some v/\Dw K ρ G v d)/\(aU l k=none->k9 m k=none):=λq=>by
 induction q with
 | nil=>exact⟨(λd e=>by cases e),λ_=>rfl⟩
 | @cons j x0 v0 l m a b ih=>
  obtain⟨h1,h2⟩:=ih;by_cases hj:j=k
  . subst hj;refine⟨λd e=>?_,λe=>?_⟩
    . have e':aU ((j,x0)::l) j=some x0:=by simp[aU,UD]
      rw[e']at e;cases e;exact⟨_,md rfl,a⟩
    . simp[aU,UD]at e
  . refine⟨λd e=>?_,λe=>?_⟩
    . rw[jX hj];exact h1 d (by simpa[aU,  hj] using e)
    . rw[jX hj];exact h2 (by simpa[aU,  hj] using e)
theorem i7.any[DecidableEq κ]{ρ:List Addr}{G:Hp}{k:κ}:∀{l:List (κ×W)}{m:List (κ×V)},i7 K ρ G l m->(l.any λkv=>decide (kv.1=k))=m.any λkv=>decide (kv.1=k):=λq=>by
 induction q with
 | nil=>rfl
 | cons a b ih=>simp_all
theorem i7.repl[DecidableEq κ]{ρ:List Addr}{G:Hp}{k:κ}{v:V}{d:W}(h:Dw K ρ G v d):∀{l:List (κ×W)}{m:List (κ×V)},i7 K ρ G l m->i7 K ρ G (l.map λkv=>if kv.1=k then(kv.1,d) else kv) (m.map λkv=>if kv.1=k then(kv.1,v) else kv):=λq=>by
 induction q with
 | nil=>exact .nil
 | @cons j d0 v0 l m a b ih=>
  rw[Uk,Uk];by_cases hj:j=k
  . simp only[Ul hj];exact .cons h ih
  . simp only[UE hj];exact .cons a ih
theorem i7.snoc(h:Dw K ρ G v d):∀{l:List (κ×W)}{m:List (κ×V)},i7 K ρ G l m->i7 K ρ G (l++[(k,d)]) (m++[(k,v)]):=λq=>by
 induction q with
 | nil=>exact .cons h .nil
 | cons a _ ih=>exact .cons a ih
theorem i7.put[DecidableEq κ]{ρ:List Addr}{G:Hp}{k:κ}{v:V}{d:W}(h:Dw K ρ G v d){l:List (κ×W)}{m:List (κ×V)}(r:i7 K ρ G l m):i7 K ρ G (bL l k d) (ke m k v):=by
 unfold bL ke;rw[r.any];split
 . exact r.repl h
 . exact r.snoc h
noncomputable def qQ(S:ai)(n:Nat):Option (List W):=match S[n]? with
 | some (.lst ds)=>some ds
 | _=>none
noncomputable def up(f:W->Option PyData):List W->Option (List PyData)
 | []=>some []
 | d::ds=>(f d).bind λx=>(up f ds).map (x::·)
noncomputable def IE(S:ai):Nat->W->Option PyData
 | 0,_=>none
 | n+1,d=>match d with
  | .list ds=>(up (IE S n) ds).map .list
  | .tuple ds=>(up (IE S n) ds).map .tuple
  | .ref m=>(qQ S m).bind λds=>(up (IE S n) ds).map .list
  | d=>d.py
theorem ux(hf:∀v d x,Dw K ρ G v d->f d=some x->Dp K H v x)(h:az K ρ G vs ds):up f ds=some xs->o6 K H vs xs:=
 h.ind (M:=λvs ds=>∀xs,up f ds=some xs->o6 K H vs xs) (λxs e=>by cases e;exact .nil) (λ_ _ _ _ a ih xs e=>by
  obtain⟨x,e1,e⟩:=oB e
  obtain⟨ys,e2,rfl⟩:=oM e
  exact .cons (hf _ _ _ a e1) (ih _ e2)) xs
theorem lJ(sg:bm G H)(s:SR K ρ cl G H S):∀(n:Nat)(v:V)(d:W)(x:PyData),Dw K ρ G v d->IE S n d=some x->Dp K H v x
 | 0,_,_,_,_,e=>by cases e
 | n+1,v,d,x,h,e=>by
  cases h with
  | fn _=>cases e
  | lst sq da=>
   obtain⟨xs,e1,rfl⟩:=oM e
   exact .lst (sg.seq sq) (ux (λv d x=>lJ sg s n v d x) da e1)
  | tup sq da=>
   obtain⟨xs,e1,rfl⟩:=oM e
   exact .tup (sg.tup (fj.of sq)) (ux (λv d x=>lJ sg s n v d x) da e1)
  | ref ea=>
   obtain⟨ds,e1,e2⟩:=oB e
   obtain⟨xs,e3,rfl⟩:=oM e2
   unfold qQ at e1;split at e1
   . rename_i ds' h1;cases e1;obtain⟨ga,vs,k1,k2⟩:=s.addr h1 ea;exact .lst (c8.of k1) (ux (λv d x=>lJ sg s n v d x) k2 e3)
   . cases e1
  | non=>exact Dw.dp (ρ:=ρ) .non e
  | bl b=>exact Dw.dp (ρ:=ρ) (.bl b) e
  | int i=>exact Dw.dp (ρ:=ρ) (.int i) e
  | str y=>exact Dw.dp (ρ:=ρ) (.str y) e
noncomputable def qZ(neg:Bool)(d e:W)(S:ai):Option Bool:=match Qn d e with
 | some b=>some (if neg then !b else b)
 | none=>(IE S 24 d).bind λa=>(IE S 24 e).bind λb=>if(a.canLay0&&b.canLay0&&decide (a.depth<=64))=true then some (if neg then !(PyData.eqv a b) else PyData.eqv a b) else none
noncomputable def Kr(K:Frag)(neg:Bool):R2:=if neg then KN K else K5 K
noncomputable def uf(neg:Bool)(fa fb:DS->ai->SM W):DS->ai->SM Bool:=λδ S=>aq (fa δ S) λx S1=>aq (fb δ S1) λy S2=>iD (qZ neg x y S2) S2
theorem xu(sg:bm G H)(s:SR K ρ cl G H S)(dv:Dw K ρ G v x)(du:Dw K ρ G u y)(h:qZ neg x y S=some b)(q:Q (.bl b) H):Kr K neg v u H Q:=by
 unfold qZ at h;split at h
 . rename_i b' hb;cases h;obtain⟨h1,h2⟩:=yy (dv.same sg) (du.same sg) hb;cases neg with
   | false=>exact .inl ⟨h1,by simp_all⟩
   | true=>exact .inl ⟨h1,by simp_all⟩
 . obtain⟨a,ea,h⟩:=oB h
   obtain⟨c,ec,h⟩:=oB h
   split at h
   . rename_i hc;cases h;simp only[Uz,UC]at hc;cases neg with
     | false=>exact .inr ⟨a,c,lJ sg s 24 _ _ _ dv ea,lJ sg s 24 _ _ _ du ec,hc.1.1,hc.1.2,hc.2,q⟩
     | true=>exact .inr ⟨a,c,lJ sg s 24 _ _ _ dv ea,lJ sg s 24 _ _ _ du ec,hc.1.1,hc.1.2,hc.2,q⟩
   . cases h
theorem O3(ha:SE K cl E ta fa)(hb:SE K cl E tb fb):ST K cl E (iA (qd (Kr K neg) ta tb)) (uf neg fa fb):=λρ G σ H δ S r' S' Q R e q qx=>
 gM ha hb R e (λx y S2 e2 v u ρ2 G2 H2 g2 s2 dv du=>by
  obtain⟨c,e3,rfl,rfl⟩:=bI e2;exact xu g2.s s2 dv du e3 ⟨c,rfl,q c rfl _ G2 H2 g2 s2⟩) qx
theorem OZ{neg:Bool}{ta tb:TE}{fa fb:DS->ai->SM W}(ha:SE K cl E ta fa)(hb:SE K cl E tb fb):SE K cl E (qd (Kr K neg) ta tb) (sB (uf neg fa fb)):=λρ G σ H δ S r' S' Q R e q qx=>by
 rcases cJ e with⟨c,em,rfl⟩ | ⟨b,S1,em,e⟩
 . exact gM (r:=Rs.xc c) ha hb R em (λx y S2 e2=>by obtain⟨_,_,z,_⟩:=bI e2;cases z) (λc' hc=>by cases hc;exact qx c rfl)
 . cases e;exact gM ha hb R em (λx y S2 e2 v u ρ2 G2 H2 g2 s2 dv du=>by
    obtain⟨c,e3,z,rfl⟩:=bI e2;cases z;exact xu g2.s s2 dv du e3 (q _ rfl _ ρ2 G2 H2 g2 s2 (.bl _))) (λc hc=>by cases hc)
end
section
variable{K:Frag}{cl:Str->Addr}{E:XK}
noncomputable def mB(f:DS->ai->SM W):DS->ai->SM Bool:=λδ S=>aq (f δ S) λx S1=>iD (BY x) S1
theorem Kl{t:TE}{f:DS->ai->SM W}(h:SE K cl E t f):ST K cl E (tB t) (mB f):=λρ G σ H δ S r S' Q R e q qx=>
 dQ h R e (λx S1 e1 v ρ1 G1 H1 g1 s1 dv=>by
  obtain⟨b,e2,rfl,rfl⟩:=bI e1;cases og e2;cases IK dv;exact⟨b,rfl,q b rfl ρ1 G1 H1 g1 s1⟩) qx
noncomputable def Od(f g:DS->ai->SM W):DS->ai->SM W:=λδ S=>aq (f δ S) λx S1=>(BY x).bind λb=>if b=true then g δ S1 else some (.ok (.bool false),S1)
noncomputable def RY(f g:DS->ai->SM W):DS->ai->SM W:=λδ S=>aq (f δ S) λx S1=>(BY x).bind λb=>if b=true then some (.ok (.bool true),S1) else g δ S1
noncomputable def P1(f:DS->ai->SM W):DS->ai->SM W:=λδ S=>aq (f δ S) λx S1=>(BY x).map λb=>(.ok (.bool (!b)),S1)
theorem FL.ext(h:ρ <+: ρ1)(a:FL K ρ J ds i G H):FL K ρ1 J ds i G H:=⟨λd hd=>⟨(a.1 d hd).1,λx H' y=>by
 obtain⟨G',g,dx⟩:=(a.1 d hd).2 x H' y;exact⟨G',g,dx.ext h⟩⟩,a.2⟩
theorem yx{S:ai}{n:Nat}{ds:List W}(h:qQ S n=some ds):S[n]?=some (.lst ds):=by
 unfold qQ at h;split at h
 . rename_i e;cases h;exact e
 . cases h
inductive Kd where
 | l
 | e
 | d (m:Nat)
 | i (m:Nat)
noncomputable def O6:bD->W
 | .inl i=>.int i
 | .inr x=>.str x
noncomputable def kZ(S:ai)(n:Nat×Kd):Option (List W):=match n.2 with
 | .l=>qQ S n.1
 | .e=>(qQ S n.1).map mL
 | .d m=>(wN (.ref n.1) S).bind λp=>if p.2.length=m then some (p.2.map λe=>O6 e.1) else none
 | .i m=>(wN (.ref n.1) S).bind λp=>if p.2.length=m then some (p.2.map λe=>.tuple [O6 e.1,e.2]) else none
noncomputable def QY(K:Frag)(cl:Str->Addr)(ρ:List Addr)(J:It)(n:Nat×Kd):Prop:=
 ∀(i:Nat)(ρ1:List Addr)(G1 H1:Hp)(S1:ai)(es:List W),ρ <+: ρ1->bm G1 H1->SR K ρ1 cl G1 H1 S1->kZ S1 n=some es->FL K ρ1 J es i G1 H1
noncomputable def Rv(K:Frag)(cl:Str->Addr)(E:XK)(wi:TI)(f:DS->ai->SM (Nat×Kd)):Prop:=
 ∀(ρ:List Addr)(G:Hp)(σ:St)(H:Hp)(δ:DS)(S:ai)(r:Rs (Nat×Kd))(S':ai)(R':It->Hp->Prop),RS K cl ρ G H δ σ S->f δ S=some (r,S')->
  (∀n,r=.ok n->∀J ρ' G' H',GS ρ G H ρ' G' H'->SR K ρ' cl G' H' S'->QY K cl ρ' J n->R' J H')->
  (∀c,r=.xc c->∀ρ' G' H',GS ρ G H ρ' G' H'->SR K ρ' cl G' H' S'->E (.ref (cl c)) none H')->wi σ H R'
noncomputable def xU(f:DS->ai->SM W):DS->ai->SM (Nat×Kd):=λδ S=>aq (f δ S) λx S1=>(ig x S1).map λp=>(.ok (p.1,.l),S1)
theorem Gh(h:SE K cl E t f):Rv K cl E (Bt K t) (xU f):=λρ G σ H δ S r S' R' R e q qx=>
 dQ h R e (λx S1 e1 v ρ1 G1 H1 g1 s1 dv=>by
  obtain⟨⟨n,ds⟩,e2,e3⟩:=oM e1
  cases e3;obtain⟨rfl,e4⟩:=cP e2;obtain⟨a,rfl,ea⟩:=cY dv;obtain⟨ga,vs,k1,k2⟩:=s1.addr e4 ea;refine⟨a,rfl,.inl ⟨⟨vs,c8.of k1⟩,q _ rfl _ _ G1 H1 g1 s1 λi ρ2 G2 H2 S2 es pr s2 sr he=>?_⟩⟩;obtain⟨ga2,vs2,m1,m2⟩:=sr.addr (yx he) (wH pr ea);exact uM s2 (c8.of m1) m2) qx
noncomputable def qH(n:Nat×Kd)(h:W->DS->Option DS)(fb:DS->ai->SO):Nat->Nat->DS->ai->SO
 | 0,_,_,_=>none
 | f+1,i,δ,S=>(kZ S n).bind λes=>match es[i]? with
  | none=>some (.nx δ,S)
  | some d=>(h d δ).bind λδ2=>match fb δ2 S with
   | some (.nx δ',S')=>qH n h fb f (i+1) δ' S'
   | some (.ct δ',S')=>qH n h fb f (i+1) δ' S'
   | some (.bk δ',S')=>some (.nx δ',S')
   | some (.rt d,S')=>some (.rt d,S')
   | some (.xc c,S')=>some (.xc c,S')
   | none=>none
noncomputable def KD(m:Nat)(fi:DS->ai->SM (Nat×Kd))(h:W->DS->Option DS)(fb:DS->ai->SO):DS->ai->SO:=λδ S=>jz (fi δ S) λn S1=>qH n h fb m 0 δ S1
theorem RS.lift(hx:wf ix=true)(R:RS K cl ρ G H δ σ S):RS K cl ρ G H (c9 ix δ) (lift ix σ) S:=
 ⟨R.rl.lift hx,R.st,λj ds p h1 h2=>by
  obtain⟨o,k1,k2⟩:=nI h1;cases o with
  | none=>cases k2
  | some i=>
   have k3:δ[i]?=some (.own ds):=by
    cases e:δ[i]? with
    | none=>simp[sC,e]at k2
    | some s=>simp[sC,e]at k2;rw[k2]
   rw[so k1]at h2;simp only[Q6]at h2;split at h2
   . rename_i w e;exact R.ap i ds p k3 (by simp_all)
   . cases h2⟩
noncomputable def ck(h:W->DS->Option DS)(c:DS->ai->SM Bool)(fe:DS->ai->SM W)(δ:DS):List W->ai->SM (List W)
 | [],S=>some (.ok [],S)
 | d::ds,S=>(h d δ).bind λδ2=>aq (c δ2 S) λb S1=>if b=true then aq (fe δ2 S1) λe S2=>aq (ck h c fe δ ds S2) λes S3=>some (.ok (e::es),S3) else ck h c fe δ ds S1
noncomputable def gK(ix:List (Option Nat))(fi:DS->ai->SM (List W))(h:W->DS->Option DS)(c:DS->ai->SM Bool)(fe:DS->ai->SM W):DS->ai->SM W:=λδ S=>
 aq (fi δ S) λds S0=>if ds.length<=sizeLine then aq (ck h c fe (c9 ix δ) ds S0) λes S1=>some (.ok (.list es),S1) else none
noncomputable def M4(k:List W->ai->SM W)(ix:List (Option Nat))(fi:DS->ai->SM (List W))(h:W->DS->Option DS)(c:DS->ai->SM Bool)(fe:DS->ai->SM W):DS->ai->SM W:=λδ S=>
 aq (fi δ S) λds S0=>if ds.length<=sizeLine then aq (ck h c fe (c9 ix δ) ds S0) k else none
noncomputable def Qv(h:W->DS->Option DS)(c:DS->ai->SM Bool)(fe:DS->ai->SM W)(δ:DS)(F:ai->SM (List W))(d:W)(S:ai):SM (List W):=
 (h d δ).bind λδ2=>aq (c δ2 S) λb S1=>if b=true then aq (fe δ2 S1) λe S2=>aq (F S2) λes S3=>some (.ok (e::es),S3) else F S1
theorem qR{m:SM α}{f:α->ai->SM β}{g:β->ai->SM γ}:aq (aq m f) g=aq m λa S=>aq (f a S) g:=by
 rcases m with _ | ⟨_ | _,_⟩ <;> rfl
theorem Nh{k:List W->ai->SM α}(e:aq (Qv h c fe δ F d S) k=some z):∃δ2,h d δ=some δ2/\aq (c δ2 S) (λb S1=>if b=true then aq (fe δ2 S1) λe S2=>aq (F S2) λes S3=>k (e::es) S3 else aq (F S1) k)=some z:=by
 unfold Qv at e;cases e2:h d δ with
 | none=>rw[e2]at e;cases e
 | some δ2=>
  refine⟨δ2,rfl,?_⟩;rw[e2,TZ,qR]at e;rw[<-e];congr 1;funext b S1;cases b with
  | false=>rfl
  | true=>exact Eq.symm (by rw[Ul rfl,Ul rfl,qR];congr 1;funext _ _;rw[qR];rfl)
theorem Ab{F:Nat->Nat->ai->SM (List W)}{nx:Nat->ai->Option (Option W)}{k:List W->ai->SM W}{r:Rs W}{Q:VK}{m:Nat}{J:It}
 (hF:∀n i S,n+i=m->F n i S=none∨(nx i S=some none/\F n i S=some (.ok [],S))∨∃n' d,n=n'+1/\nx i S=some (some d)/\F n i S=Qv h c fe (c9 ix δ) (F n' (i+1)) d S)
 (it:∀i ρ G H S o,ρ1 <+: ρ->bm G1 G->bm G H->SR K ρ cl G H S->nx i S=some o->match o with
  | none=>J.stop i H
  | some d=>J.go i H/\∀x H',J.yld i H x H'->∃G',Gr G H G' H'/\Dw K ρ G' x d)
 (hx:wf ix=true) (hg:∀ρ,DG K ρ g h) (hc:ST K cl E tc c) (he:SE K cl E te fe) (R1:RS K cl ρ1 G1 H1 δ σ S0) (hz:m<=sizeLine) (e:aq (F m 0 S0) k=some (r,S'))
 (hk:∀{ρ G H S as ys p},GS ρ1 G1 H1 ρ G H->SR K ρ cl G H S->az K ρ G ys as->k as S=some (r,S')->H p=none->Q (.ref p) (cx H p (.lst ys)))
 (qx:∀c,r=.xc c->∀ρ' G' H',GS ρ1 G1 H1 ρ' G' H'->SR K ρ' cl G' H' S'->E (.ref (cl c)) none H'):
 ∃W:Nat->Nat->List V->Hp->Prop,(∃m,W 0 m [] H1)/\∀i m ys H,W i m ys H->
  (J.stop i H/\ys.length<=sizeLine/\∀p,H p=none->Q (.ref p) (cx H p (.lst ys)))∨
  (J.go i H/\ys.length<sizeLine/\∃N:List V->Hp->Prop,(∀ys' H',N ys' H'->∃m',m'<m/\W (i+1) m' ys' H')/\∀x H',J.yld i H x H'->g x (lift ix σ) H' λσ2 H2=>tc σ2 H2 λb H3=>if b=true then te σ2 H3 λv H4=>N (ys++[v]) H4 else N ys H3):=by
 refine⟨λi n ys H2=>n+i=m/\ys.length<=i/\∃ρ2 G2 as S2,GS ρ1 G1 H1 ρ2 G2 H2/\SR K ρ2 cl G2 H2 S2/\az K ρ2 G2 ys as/\aq (F n i S2) (λes S1=>k (as++es) S1)=some (r,S'),⟨m,rfl,Ug _,ρ1,G1,[],S0,.refl R1.rl.sub,R1.st,.nil,e⟩,?_⟩;rintro i n ys H2 ⟨hn,hyl,ρ2,G2,as,S2,g2,s2,da,eb⟩;rcases hF n i S2 hn with z | ⟨hx0,z⟩ | ⟨n',d,rfl,hx0,z⟩ <;> rw[z]at eb
 . cases eb
 . exact .inl ⟨it i ρ2 G2 H2 S2 _ g2.r g2.g g2.s s2 hx0,by omega,λp hp=>hk g2 s2 da (by simpa[aq] using eb) hp⟩
 obtain⟨go,step⟩:=it i ρ2 G2 H2 S2 _ g2.r g2.g g2.s s2 hx0;obtain⟨δ2,e2,e3⟩:=Nh eb;refine .inr ⟨go,by omega,λys' H'=>ys'.length<=i+1/\∃ρ3 G3 as' S3,GS ρ1 G1 H1 ρ3 G3 H'/\SR K ρ3 cl G3 H' S3/\az K ρ3 G3 ys' as'/\aq (F n' (i+1) S3) (λes S1=>k (as'++es) S1)=some (r,S'),λys' H' hy0=>⟨n',UY _,by omega,hy0⟩,λx H' y=>?_⟩;obtain⟨G3,g3,dx⟩:=step x H' y;have gs3:GS ρ2 G2 H2 ρ2 G3 H':=.of g3;have R3:=((R1.grow g2 s2).grow gs3 (s2.grow g3)).lift hx;refine hg ρ2 G3 H' (c9 ix δ) _ x _ δ2 _ R3.rl dx e2 λσ2 R4 o4=>?_;have RS4:RS K cl ρ2 G3 H' δ2 σ2 S2:=⟨R4,s2.grow g3,λj ds' p h1 h2=>by
  obtain⟨es',m1,m2⟩:=o4 j ds' p h1 h2;exact R3.ap j es' p m1 m2⟩
 have g23:=g2.trans gs3;refine nF hc RS4 e3 (λb S4 e5 ρ5 G5 H5 g5 s5=>?_) λc hc' ρ5 G5 H5 g5 s5=>qx c hc' _ G5 H5 (g23.trans g5) s5;have g15:=g23.trans g5;have da5:=((da.ext (gs3.trans g5).r).same (gs3.trans g5).g)
 cases b with
 | false=>exact⟨by omega,ρ5,G5,as,S4,g15,s5,da5,e5⟩
 | true=>exact dQ he (RS4.grow g5 s5) e5 (λev S6 e6 v ρ6 G6 H6 g6 s6 dv=>⟨by simp;omega,ρ6,G6,as++[ev],S6,g15.trans g6,s6,((da5.ext g6.r).same g6.g).app (.cons dv .nil),by simpa using e6⟩) λc hc' ρ6 G6 H6 g6 s6=>qx c hc' _ G6 H6 (g15.trans g6) s6
theorem DC
 (hk:∀{ρ0 G0 H0 ρ G H S as r S' ys p}{Q:VK},GS ρ0 G0 H0 ρ G H->SR K ρ cl G H S->az K ρ G ys as->k as S=some (r,S')->H p=none->(∀d,r=.ok d->∀v ρ' G' H',GS ρ0 G0 H0 ρ' G' H'->SR K ρ' cl G' H' S'->Dw K ρ' G' v d->Q v H')->Q (.ref p) (cx H p (.lst ys)))
 (hx:wf ix=true) (hi:Mc K cl E wi fi) (hg:∀ρ,DG K ρ g h) (hc:ST K cl E tc c) (he:SE K cl E te fe):SE K cl E (ph ix wi g tc te) (M4 k ix fi h c fe):=λρ G σ H δ S r S' Q R e q qx=>by
 rcases cJ e with⟨c0,em,rfl⟩ | ⟨ds,S0,em,e⟩
 . exact hi ρ G σ H δ S _ _ _ R em (λd hd=>by cases hd) λc' hc=>by grind
 split at e
 case isFalse=>cases e
 rename_i hz;refine hi ρ G σ H δ S _ _ _ R em (λds' hd=>?_) λc' hc=>by cases hc
 cases hd;intro J ρ1 G1 H1 gs1 sr1 it;refine Ab (m:=ds.length) (F:=λ_ i S=>ck h c fe (c9 ix δ) (ds.drop i) S) (nx:=λi _=>some ds[i]?) (λn i S hn=>.inr ?_) (λi ρ2 G2 H2 S2 o hr gg sg s e=>?_) hx hg hc he (R.grow gs1 sr1) hz e (λg s da e hp=>hk (gs1.trans g) s da e hp q) λc hc ρ' G' H' g s=>qx c hc _ _ _ (gs1.trans g) s
 . by_cases hl:i<ds.length
   . refine .inr ⟨n-1,ds[i],by omega,by simp[hl],?_⟩;show ck _ _ _ _ (ds.drop i) _=_;rw[U0 hl];rfl
   . refine .inl ⟨by simp;omega,?_⟩;show ck _ _ _ _ (ds.drop i) _=_;rw[List.drop_eq_nil_of_le (by omega)];rfl
 . have ia:=(it i G2 H2 gg sg).ext hr;cases e;cases hd:ds[i]? with
   | none=>exact ia.2 (List.getElem?_eq_none_iff.mp hd)
   | some d=>exact ia.1 d hd
theorem Hk(hx:wf ix=true)(hi:Mc K cl E wi fi)(hg:∀ρ,DG K ρ g h)(hc:ST K cl E tc c)(he:SE K cl E te fe):SE K cl E (ph ix wi g tc te) (gK ix fi h c fe):=DC (k:=λes S1=>some (.ok (.list es),S1)) (λ{ρ0 G0 H0 ρ G H S as r S' ys p Q} g s da e hp q=>by
 cases e;have n:Nw H (cx H p (.lst ys)) p (.lst ys):=.of hp;have g3:=Gr.nw g.s n;exact q _ rfl _ _ _ _ (g.trans (.of g3)) (s.grow g3) (.lst (c8.of aC) (da.same g3.g))) hx hi hg hc he
end
section
variable{K:Frag}{cl:Str->Addr}{E:XK}
noncomputable def dU(n:Nat×Kd)(h:W->DS->Option DS)(c:DS->ai->SM Bool)(fe:DS->ai->SM W)(δ:DS):Nat->Nat->ai->SM (List W)
 | 0,_,_=>none
 | f+1,i,S=>(kZ S n).bind λes=>match es[i]? with
  | none=>some (.ok [],S)
  | some d=>(h d δ).bind λδ2=>aq (c δ2 S) λb S1=>if b=true then aq (fe δ2 S1) λe S2=>aq (dU n h c fe δ f (i+1) S2) λes S3=>some (.ok (e::es),S3) else dU n h c fe δ f (i+1) S1
noncomputable def qA(m:Nat)(ix:List (Option Nat))(fi:DS->ai->SM (Nat×Kd))(h:W->DS->Option DS)(c:DS->ai->SM Bool)(fe:DS->ai->SM W):DS->ai->SM W:=λδ S=>
 aq (fi δ S) λn S0=>if m<=sizeLine then aq (dU n h c fe (c9 ix δ) m 0 S0) λes S1=>some (.ok (.list es),S1) else none
theorem Fz
 (hx:wf ix=true) (hi:Rv K cl E wi fi) (hg:∀ρ,DG K ρ g h) (hc:ST K cl E tc c) (he:SE K cl E te fe):SE K cl E (ph ix wi g tc te) (qA m ix fi h c fe):=λρ G σ H δ S r S' Q R e q qx=>by
 rcases cJ e with⟨c0,em,rfl⟩ | ⟨n,S0,em,e⟩
 . exact hi ρ G σ H δ S _ _ _ R em (λd hd=>by cases hd) λc' hc=>by grind
 split at e
 case isFalse=>cases e
 rename_i hz;refine hi ρ G σ H δ S _ _ _ R em (λn' hn=>?_) λc' hc=>by cases hc
 cases hn;intro J ρ1 G1 H1 gs1 sr1 it;refine Ab (m:=m) (F:=dU n h c fe (c9 ix δ)) (nx:=λi S=>(kZ S n).map (·[i]?)) (λk i S hn=>?_) (λi ρ2 G2 H2 S2 o hr gg sg s e=>?_) hx hg hc he (R.grow gs1 sr1) hz e (λ{ρ2 G2 H2 S2 as ys p} g s da e hp=>?_) λc hc ρ' G' H' g s=>qx c hc _ _ _ (gs1.trans g) s
 . cases k with
   | zero=>exact .inl rfl
   | succ k=>
    cases hl:kZ S n with
    | none=>exact .inl (by simp[dU,hl])
    | some es=>
     cases hd:es[i]? with
     | none=>exact .inr (.inl ⟨by simp[hd],by simp[dU,hl,hd]⟩)
     | some d=>exact .inr (.inr ⟨k,d,rfl,by simp[hd],by simp[dU,hl,hd,Qv]⟩)
 . obtain⟨es,e1,rfl⟩:=oM e
   have ia:=it i ρ2 G2 H2 S2 es hr sg s e1;cases hd:es[i]? with
   | none=>exact ia.2 (List.getElem?_eq_none_iff.mp hd)
   | some d=>exact ia.1 d hd
 . cases e;have nn:Nw H2 (cx H2 p (.lst ys)) p (.lst ys):=.of hp;have g3:=Gr.nw g.s nn;exact q _ rfl _ ρ2 _ _ ((gs1.trans g).trans (.of g3)) (s.grow g3) (.lst (c8.of aC) (da.same g3.g))
end
theorem Km{K:Frag}:SR K [] cl G H []:=⟨rfl,List.nodup_nil,λn o e=>by simp at e⟩
end L2
set_option Elab.async false
set_option linter.all false
set_option maxRecDepth 100000
namespace L2
open PySem PySem.Spec PyProof.Rows PySem.AutoSeq1
open PySem.W (Frag)
theorem Ir(l b:Addr)(xs ys:Array Value)(n k:Nat)(sl:Array (Option Value))(h1:¬(!xs.isEmpty&&Builtin.List.listTooLong (xs.size+ys.size))=true)(h2:xs.size<=sizeLine)(h3:xs.size+ys.size<=sizeLine+1):
 Meets (Builtin.«list.extend» ⟨[.ref l,.ref b],[]⟩) (λ_ R s=>s.heap.get? l=some { cls:=.type "list", data:=.seq xs n }/\s.heap.get? b=some { cls:=.type "list", dict:=none,data:=.seq ys k,slots:=sl }/\R (.ok (.ret .none)) { s with heap:=s.heap.update l (Obj.mapSeq (·++ys)),toks:=s.toks }):=
 .of_wp λprog w A R s h=>by
  obtain⟨hl,hb,h⟩:=h;have hz:(xs++ys).size<=sizeLine+1:=by
   simp_all
  wp_walk using(wpAny_updateSeq hl rfl  ),Vz hl,Vz hb
  simp_all
section
variable{X:Cx}
noncomputable def lY(K:Frag):V->List V->Hp->VK->Prop:=λx vs H Q=>∃l b xs ys,x=.ref l/\vs=[.ref b]/\H l=some (.lst xs)/\c8 K H b ys/\xs.length+ys.length<=sizeLine/\Q .non (cx H l (.lst (xs++ys)))
theorem xG:N4 X "list.extend" (lY X.K):=by
 intro pins s σ H x vs v us Q I rx rv h;obtain⟨l,b,xs,ys,rfl,rfl,h1,h2,h3,q⟩:=h;cases rx;obtain⟨u,rfl,ru⟩:=rv.one;cases ru;obtain⟨z,its,n,r,hl,e⟩:=I.lstM h1;obtain⟨jts,r2,⟨⟨oc,od,da,sl⟩,k,e2,c1,c2,c3⟩,z2⟩:=I.list h2;subst c1 c2 c3;have l2:=r2.length;have hn:¬ (!its.toArray.isEmpty&&Builtin.List.listTooLong (its.toArray.size+jts.toArray.size))=true:=by
  rw[UG,UG,qI (by omega),Bool.and_false]
  simp_all
 refine Vu F.slot_list_extend ⟨_,e,rfl⟩ F.entry_list_extend (F.args_list_extend_2 _ _) (Ir l b _ _ n k sl hn (by simp_all) (by grind)) ⟨e,e2,?_⟩;refine⟨.non,_,I.lset (its':=its++jts) h1 e (by simp) (r.append r2) ?_,rfl,q⟩
 simp_all
end
section
variable{K:Frag}{ρ:List Addr}
theorem qm:∀ws:List Str,az K ρ G (ws.map V.str) (ws.map W.str)
 | []=>.nil
 | w::ws=>.cons (.str w) (qm ws)
theorem vT{H:Hp}{x:V}{d:W}{a:Addr}{ws:List Str}{b:Bool}(h:fj K H a (ws.map V.str))(hx:Dw K ρ H x d)(e:iS d (.tuple (ws.map W.str))=some b):gc x=true/\(ws.map V.str).all gc=true/\IN x (ws.map V.str)=b:=by
 obtain⟨ds,e1,e⟩:=oB e
 obtain⟨v,e2,e⟩:=oB e
 obtain⟨vs,e3,rfl⟩:=oM e
 cases e1;obtain⟨rfl,f1⟩:=rQ hx e2;obtain⟨rfl,f2⟩:=mq (K:=K) (ρ:=ρ) (H:=H) (qm ws) e3;exact⟨f1,f2,rfl⟩
theorem xi{neg:Bool}{ws:List Str}(hs:∀G,fj K G a (ws.map V.str))(ha:DK K ρ ta fa)(R:Rl K ρ G H δ σ)(e:aw (if neg then i3 else iS) fa (dC (.tuple (ws.map W.str))) δ=some b)(q:∀G' H',Gr G H G' H'->Q (.bl b) H'):qd (zt K neg) ta (tC (.ref a)) σ H Q:=by
 obtain⟨x,ex,e⟩:=oB e
 refine ha G σ H δ x _ R ex λv G1 H1 g1 dv=>?_;have dv:=dv.dp g1.s;cases neg with
 | false=>
  obtain⟨f1,f2,rfl⟩:=vT (hs H1) dv e;exact⟨a,_,rfl,.inr (hs H1),f1,f2,q G1 H1 g1⟩
 | true=>
  obtain⟨b',e',rfl⟩:=oM e
  obtain⟨f1,f2,rfl⟩:=vT (hs H1) dv e';exact⟨a,_,rfl,.inr (hs H1),f1,f2,q G1 H1 g1⟩
theorem Le{ws:List Str}(hs:∀G,fj K G a (ws.map V.str))(ha:DK K ρ ta fa):DT K ρ (iA (qd (zt K false) ta (tC (.ref a)))) (aw iS fa (dC (.tuple (ws.map W.str)))):=λG σ H δ b Q R e q=>
 xi  hs ha R e λG' H' g=>⟨b,rfl,q G' H' g⟩
theorem Bg{ws:List Str}(hs:∀G,fj K G a (ws.map V.str))(ha:DK K ρ ta fa):DT K ρ (iA (qd (zt K true) ta (tC (.ref a)))) (aw i3 fa (dC (.tuple (ws.map W.str)))):=λG σ H δ b Q R e q=>
 xi  hs ha R e λG' H' g=>⟨b,rfl,q G' H' g⟩
noncomputable def n9(i:Nat)(f:DS->Option W):DS->Option i5:=λδ=>(gR i δ).bind λds=>(f δ).bind λd=>(kQ d).bind λes=>if ds.length+es.length<=sizeLine then some (.nx (δ.set i (.own (ds++es)))) else none
theorem rZ(h:DE K ρ t f):pT K ρ (oC (F4 K "list" (lY K) (uW i) (dM t gS))) (n9 i f):=λG0 H0 G σ H δ o D I e p=>by
 obtain⟨ds,eo,e⟩:=oB e
 obtain⟨d,ed,e⟩:=oB e
 obtain⟨es,ee,e⟩:=oB e
 split at e
 case isFalse=>cases e
 rename_i hz;cases e;cases fP ee;have ho:=iK eo;obtain⟨o,h1,q,vs,rfl,h3,h4,h5⟩:=I.rl.sl i _ ho;refine⟨.ref q,h1,.inl ⟨rfl,vs,c8.of h4⟩,h G σ H δ _ _ I.rl ed λv G1 H1 g1 dv=>?_⟩;have I1:=I.grow g1;cases dv with
 | lst sq da=>
  refine⟨q,_,vs,_,rfl,rfl,g1.h _ _ h4,g1.s.seq sq,by rw[h5.length,da.length];exact hz,?_⟩;exact p σ G1 _ (I1.put ho h1 (g1.n q (.l h4) h3) ((h5.same g1.g).app da))
end
structure Gk(K:Frag)(x q:Str)(st:Stmt)(f:Addr)(fd:FuncData):Prop where
 ex:∃(dV oc kV dc pm cd ct:Value) (od an:Option Addr) (sl:Array (Option Value)),fd=PySem.W.fnOf x q (dH st) (cM st) (bf st) dV kV dc pm an cd ct/\K.lookup f=some ⟨oc,od,.func fd,sl⟩/\PySem.W.codeIn K cd q=true
 kp:PySem.W.keepIn K (.ref f)=true
theorem Gk.ok{K:Frag}{st:Stmt}(F:Gk K x q st f fd)(S:hZ N ps (bf st))(hl:∀vs H Q E,sp vs H Q E->vs.length=ps.length)
 (hb:∀(cd:Value)(A:Around)(outer:List Env)(s:Shared)(H:Hp)(vs:List V)(Q:VK)(E:XK),dI k (A.deeper (envOfC q (bf st) s.heap.objs.size f cd))->sp vs H Q E->
  ∃t,vR (yt FN P w K mg base N q (bf st) f cd A outer s H E).nox (cM st) t/\t ({ nx:=λ_ H'=>Q V.non H',rt:=Q }:oi) (start N vs) H):eW P w K mg base FN (k+1) f fd ps sp:=by
 obtain⟨dV,oc,kV,dc,pm,cd,ct,od,an,sl,rfl,lk,hc⟩:=F.ex;refine OY lk hc S hl λA outer s H vs Q E hr hs=>?_;obtain⟨t,h,r⟩:=hb cd A _ s H vs Q E hr hs;exact⟨t,h.nox,r⟩
theorem mn{K:Frag}{st:Stmt}{dV oc kV dc pm cd ct:Value}(l:K.lookup f=some ⟨oc,od,.func (PySem.W.fnOf x q (dH st) (cM st) (bf st) dV kV dc pm an cd ct),sl⟩)(c:PySem.W.codeIn K cd q=true)(k:PySem.W.keepIn K (.ref f)=true):Gk K x q st f (PySem.W.fnOf x q (dH st) (cM st) (bf st) dV kV dc pm an cd ct):=⟨⟨dV,oc,kV,dc,pm,cd,ct,od,an,sl,rfl,l,c⟩,k⟩
section
variable{K:Frag}{ρ:List Addr}
noncomputable def nA(f:List W->Option W)(fa:DS->Option (List W)):DS->Option W:=λδ=>(fa δ).bind λds=>f (ds++[.none])
theorem F7(h:DA K ρ t fa):DE K ρ (uc (oQ K f) [.non] E t) (nA f fa):=λG σ H δ d Q R e q=>by
 obtain⟨ds,ed,e⟩:=oB e
 exact h G σ H δ ds _ R ed λvs G1 H1 g1 da=>⟨ρ,G1,ds++[.none],d,g1.s,da.app (.cons .non .nil),e,λv G2 H2 g2 dv=>q v G2 H2 (g1.trans g2) dv⟩
end
theorem F1:aV [V.non] [Value.none]:=.cons rfl .nil
section
variable{K:Frag}{cl:Str->Addr}{E:XK}
noncomputable def pd:List W->Option (List bD)
 | []=>some []
 | d::ds=>(o8 d).bind λk=>(pd ds).map (k::·)
noncomputable def rf:W->Option (List bD)
 | .tuple ds=>pd ds
 | _=>none
theorem F8(h:az K ρ G vs ds):pd ds=some ks->vs=ks.map kV:=
 h.ind (M:=λvs ds=>∀ks,pd ds=some ks->vs=ks.map kV) λks e=>by cases e;rfl λ_ _ _ _ a ih ks e=>by
  obtain⟨k,e1,e⟩:=oB e
  obtain⟨ks,e2,rfl⟩:=oM e
  rw[qp a e1,ih _ e2];rfl ks
theorem ug(h:Dw K ρ G v d)(e:rf d=some ks):∃b,v=.ref b/\G b=some (.tup (ks.map kV)):=by
 cases h with
 | tup sq da=>exact⟨_,rfl,by rw[<-F8 da e];exact sq⟩
 | _=>cases e
noncomputable def qV(x y:W)(S:ai):Option (Option W):=match iy x S with
 | some (_,.dK kvs)=>(o8 y).map λk=>aU kvs k
 | some (_,.dT kvs)=>(rf y).map λk=>aU kvs k
 | _=>none
theorem qc{ρ:List Addr}{G H:Hp}{S:ai}{v u:V}{x y:W}{o:Option W}(sg:bm G H)(s:SR K ρ cl G H S)(dv:Dw K ρ G v x)(du:Dw K ρ G u y)(h:qV x y S=some o):∃a r,v=.ref a/\kE H a u r/\(match o with | some d=>∃z,r=some z/\Dw K ρ G z d | none=>r=none):=by
 unfold qV at h;split at h
 . rename_i n kvs e1;obtain⟨k,e3,e4⟩:=oM h
   obtain⟨rfl,e5⟩:=f9 e1;obtain⟨a,rfl,ea⟩:=cY dv;obtain⟨ga,ws,k1,k2⟩:=s.addr e5 ea;obtain⟨v1,v2⟩:=k2.val (k:=k);refine⟨a,k9 ws k,rfl,?_,?_⟩
   . rw[qp du e3];exact kE.k k1
   . cases o with
     | some d=>exact v1 d e4
     | none=>exact v2 e4
 . rename_i n kvs e1;obtain⟨k,e3,e4⟩:=oM h
   obtain⟨rfl,e5⟩:=f9 e1;obtain⟨a,rfl,ea⟩:=cY dv;obtain⟨ga,ws,k1,k2⟩:=s.addr e5 ea;obtain⟨v1,v2⟩:=k2.val (k:=k);obtain⟨b,rfl,hb⟩:=ug du e3;refine⟨a,k9 ws k,rfl,kE.t k1 (sg _ _ hb),?_⟩
   . cases o with
     | some d=>exact v1 d e4
     | none=>exact v2 e4
 . cases h
noncomputable def gB(fo fk:DS->ai->SM W):DS->ai->SM W:=λδ S=>aq (fo δ S) λx S1=>aq (fk δ S1) λy S2=>(qV x y S2).bind λo=>iD o S2
theorem Gu{to tk:TE}{fo fk:DS->ai->SM W}(ho:SE K cl E to fo)(hk:SE K cl E tk fk):SE K cl E (Ja to tk) (gB fo fk):=λρ G σ H δ S r S' Q R e q qx=>
 gM ho hk R e (λx y S2 e2 v u ρ2 G2 H2 g2 s2 dv du=>by
  obtain⟨o,e3,e4⟩:=oB e2
  obtain⟨d,rfl,rfl,rfl⟩:=bI e4;obtain⟨a,r,rfl,h1,z,rfl,h2⟩:=qc g2.s s2 dv du e3;exact⟨a,z,rfl,h1,q d rfl z ρ2 G2 H2 g2 s2 h2⟩) qx
noncomputable def wy(neg:Bool)(fk fo:DS->ai->SM W):DS->ai->SM Bool:=λδ S=>aq (fk δ S) λy S1=>aq (fo δ S1) λx S2=>iD ((qV x y S2).map λo=>if neg then !o.isSome else o.isSome) S2
theorem MH(hk:SE K cl E tk fk)(ho:SE K cl E to fo):ST K cl E (tB (ND tk to)) (wy false fk fo):=λρ G σ H δ S r S' Q R e q qx=>
 gM hk ho R e (λy x S2 e2 u v ρ2 G2 H2 g2 s2 du dv=>by
  obtain⟨b,e3,rfl,rfl⟩:=bI e2;obtain⟨o,e4,rfl⟩:=oM e3
  obtain⟨a,r,rfl,h1,h2⟩:=qc g2.s s2 dv du e4
  grind) qx
theorem AX{to tk:TE}{fo fk:DS->ai->SM W}(hk:SE K cl E tk fk)(ho:SE K cl E to fo):ST K cl E (tB (zb tk to)) (wy true fk fo):=λρ G σ H δ S r S' Q R e q qx=>
 gM hk ho R e (λy x S2 e2 u v ρ2 G2 H2 g2 s2 du dv=>by
  obtain⟨b,e3,rfl,rfl⟩:=bI e2;obtain⟨o,e4,rfl⟩:=oM e3
  obtain⟨a,r,rfl,h1,h2⟩:=qc g2.s s2 dv du e4;have hb:r.isSome=o.isSome:=by
   cases o with
   | some d=>obtain⟨z,rfl,_⟩:=h2;rfl
   | none=>rw[show r=none from h2];rfl
  refine⟨a,r,rfl,h1,?_⟩;rw[hb];exact⟨!o.isSome,rfl,q _ rfl ρ2 G2 H2 g2 s2⟩) qx
noncomputable def uN(x y d:W)(S:ai):Option ai:=match iy x S with
 | some (n,.dK kvs)=>(o8 y).bind λk=>if kvs.length<sizeLine then some (S.set n (.dK (bL kvs k d))) else none
 | some (n,.dT kvs)=>(rf y).bind λk=>if kvs.length<sizeLine then some (S.set n (.dT (bL kvs k d))) else none
 | _=>none
theorem Iu(sg:bm G H)(s:SR K ρ cl G H S)(dv:Dw K ρ G v x)(du:Dw K ρ G u y)(dw:Dw K ρ G w d)(h:uN x y d S=some S'):∃a H',v=.ref a/\vy H a u w H'/\SR K ρ cl G H' S'/\GS ρ G H ρ G H':=by
 unfold uN at h;split at h
 . rename_i n kvs e1;obtain⟨k,e3,e4⟩:=oB h
   split at e4
   case isFalse=>cases e4
   rename_i hl;cases e4;obtain⟨rfl,e5⟩:=f9 e1;obtain⟨a,rfl,ea⟩:=cY dv;obtain⟨ga,ws,k1,k2⟩:=s.addr e5 ea;obtain⟨s4,g4⟩:=s.put  (o':=.dK _) sg e5 ea (λb z=>by cases z) ⟨_,aC,k2.put dw⟩;refine⟨a,_,rfl,?_,s4,g4⟩;rw[qp du e3];exact vy.k k1 (by rw[<-k2.length];exact hl)
 . rename_i n kvs e1;obtain⟨k,e3,e4⟩:=oB h
   split at e4
   case isFalse=>cases e4
   rename_i hl;cases e4;obtain⟨rfl,e5⟩:=f9 e1;obtain⟨a,rfl,ea⟩:=cY dv;obtain⟨ga,ws,k1,k2⟩:=s.addr e5 ea;obtain⟨s4,g4⟩:=s.put  (o':=.dT _) sg e5 ea (λb z=>by cases z) ⟨_,aC,k2.put dw⟩;obtain⟨b,rfl,hb⟩:=ug du e3;exact⟨a,_,rfl,vy.t k1 (sg _ _ hb) (by rw[<-k2.length];exact hl),s4,g4⟩
 . cases h
noncomputable def iU(fo fk fv:DS->ai->SM W):DS->ai->SO:=λδ S=>jz (fv δ S) λd S1=>jz (fo δ S1) λx S2=>jz (fk δ S2) λy S3=>(uN x y d S3).map λS4=>(.nx δ,S4)
theorem Ae(ho:SE K cl E to fo)(hk:SE K cl E tk fk)(hv:SE K cl E tv fv):nv K cl E (Jm to tk tv) (iU fo fk fv):=λρ0 G0 H0 ρ G σ H δ S o S' D I e p=>
 eP hv I e p λd S1 e1 v ρ1 G1 H1 g1 s1 dv=>by
  have I1:=I.grow g1 s1;refine eP ho I1 e1 p λx S2 e2 u ρ2 G2 H2 g2 s2 du=>?_;have I2:=I1.grow g2 s2;refine eP hk I2 e2 p λy S3 e3 w ρ3 G3 H3 g3 s3 dw=>?_;obtain⟨S4,e4,e5⟩:=oM e3
  cases e5;have g23:=g2.trans g3;obtain⟨a,H4,rfl,h1,s4,g4⟩:=Iu g3.s s3 ((du.ext g3.r).same g3.g) dw ((dv.ext g23.r).same g23.g) e4;exact⟨a,_,rfl,h1,p σ _ G3 _ ((I2.grow g3 s3).grow g4 s4)⟩
end
theorem dI.units1(r:dI k A):A.units+1<cLine:=Nat.lt_of_le_of_lt (by omega) r.units
section
variable{K:Frag}{cl:Str->Addr}{E:XK}
noncomputable def Ev:List V->Hp->VK->Prop:=λxs H Q=>∃a kvs,xs=[V.ref a]/\H a=some (.dK kvs)/\Q (.int kvs.length) H
theorem yj:bV X (.builtin "len") Ev:=AE
noncomputable def wK(fa:DS->ai->SM W):DS->ai->SM W:=λδ S=>aq (fa δ S) λx S1=>iD ((wN x S1).map λp=>.int p.2.length) S1
theorem Hd(ha:SE K cl E ta fa):SE K cl E (vQ Ev (dM ta gS)) (wK fa):=λρ G σ H δ S r' S' Q R e q qx=>
 dQ ha R e (λx S2 e2 v ρ2 G2 H2 g2 s2 dv=>by
  obtain⟨c,e3,rfl,rfl⟩:=bI e2;obtain⟨⟨n,kvs⟩,e4,rfl⟩:=oM e3
  obtain⟨rfl,e5⟩:=tw e4;obtain⟨a,rfl,ea⟩:=cY dv;obtain⟨ga,ws,k1,k2⟩:=s2.addr e5 ea;refine⟨a,ws,rfl,k1,?_⟩;rw[<-k2.length];exact q _ rfl _ _ G2 H2 g2 s2 (.int _)) qx
noncomputable def AC(fo:DS->ai->SM W):DS->ai->SM W:=λδ S=>aq (fo δ S) λx S1=>(ig x S1).bind λp=>(p.2[p.2.length-1]?).map λd=>(.ok d,S1.set p.1 (.lst p.2.dropLast))
theorem az.dropL(h:az K ρ G vs ds):az K ρ G vs.dropLast ds.dropLast:=by rw[List.dropLast_eq_take,List.dropLast_eq_take,h.length];exact h.take _
theorem L8(ho:SE K cl E to fo):SE K cl E (Hi K "list" Mo to) (AC fo):=λρ G σ H δ S r' S' Q R e q qx=>
 dQ ho R e (λx S2 e2 v ρ2 G2 H2 g2 s2 dv=>by
  obtain⟨⟨n,ds⟩,e3,e4⟩:=oB e2
  obtain⟨d,e5,e6⟩:=oM e4
  cases e6;obtain⟨rfl,e7⟩:=cP e3;obtain⟨a,rfl,ea⟩:=cY dv;obtain⟨ga,vs,k1,k2⟩:=s2.addr e7 ea;obtain⟨z,h1,h2⟩:=k2.get e5;obtain⟨s4,g4⟩:=s2.put  (o':=.lst _) g2.s e7 ea (λb z=>by cases z) ⟨_,aC,k2.dropL⟩;exact⟨.inl ⟨rfl,vs,c8.of k1⟩,a,vs,z,rfl,rfl,k1,by rw[k2.length];exact h1,q d rfl z _ G2 _ (g2.trans g4) s4 h2⟩) qx
end
noncomputable def Tk(g:List W->Option W)(fa:DS->Option (List W)):DS->Option W:=λδ=>(fa δ).bind g
section
variable{K:Frag}{ρ:List Addr}
end
section
variable{K:Frag}{cl:Str->Addr}{E:XK}
end
open PySem.AutoSeq1 (wpAny_loadPart')
section
variable{prog:Program}{w:World}{A:Around}{E:Value->Shared->Prop}{s:Shared}
theorem ML(h1:typeLookup (.type T) "__init__" = pure (some (.builtin "object.__init__")))
 (h2:Bind.madeBy (.type T)=pure (some mk)) (h3:(some mk != some "object.__new__")=true):Meets (Builtin.«object.__init__» ⟨me::more,kw⟩) (λ_ R s=>s.TypeIs me T/\R (.ok (.ret .none)) s):=by
 refine .of_wp λpr wo B R z hz=>?_;obtain⟨t1,t2⟩:=hz;cases more with
 | nil=>
  cases kw with
  | nil=>exact Ut ⟨_,rfl,t2⟩
  | cons k ks=>
   repeat (any_goals (first | rfl | wp_step))
   simp_all
 | cons a as=>
  repeat (any_goals (first | rfl | wp_step))
  simp_all
theorem DX(ft:TypeCalled T mk "object.__init__")(hne:(some mk != some "object.__new__")=true)
 (c1:checkTypeCall T ⟨vs,kw⟩=pure ()) (c2:checkBuiltinCall mk ⟨.type T::vs,kw⟩=pure ()) (c3:∀o,argsOk "object.__init__" ⟨o::vs,kw⟩) (eB:entryFor table mk=some B) (g:Meets (B ⟨.type T::vs,kw⟩) S)
 (h:S A.in1 (wants (λo z=>z.TypeIs o T/\Q o z) E) s):wpAny (model prog w) A (call (.type T) vs kw) Q E s:=by
 obtain⟨c,tl,m1⟩:=ft.mro;have m2:=ft.made;have m3:=ft.sub;refine wpAny_call (codeAny_of_tree ?_);refine Ut ⟨Code.quiet_builtin _ (by decide +kernel),codeAny_builtin F.entry_type_call ?_⟩;have m4:=ft.notType;have m5:=ft.canCreate;repeat (any_goals (first | rfl | wp_step))
 refine VG (codeAny_call_builtin ft.plain eB (wpAny_of_eq c2 (g _ w _ _ s h))) λr z hr=>?_;cases r with
 | error e=>exact hr
 | ok fl=>
  cases fl with
  | ret o=>
   obtain⟨t1,t2⟩:=hr;have l1:=ft.init.lookup;have l2:=ft.init.bind o;repeat (any_goals (first | assumption | wp_step))
   refine VG (codeAny_call_builtin ft.init.plain F.entry_object_init (ft.init.check _ _ _ _ _ _ _ _ t1 (c3 o) (ML ft.init.lookup ft.made hne prog w A.in1 (wants (λr y=>r=.none/\Q o y) E) z ⟨t1,rfl,t2⟩))) λr2 z2 hr2=>?_;cases r2 with
   | error e=>exact hr2
   | ok f2=>
    cases f2 with
    | ret r=>
     obtain⟨rfl,q⟩:=hr2;repeat (any_goals (first | assumption | wp_step))
    | _=>exact hr2.elim
  | _=>exact hr.elim
theorem Nb(a b:Value):checkTypeCall "enumerate" ⟨[a],[("start", b)]⟩=pure ():=by rfl
theorem IF(a b:Value):checkBuiltinCall "enumerate.__new__" ⟨[.type "enumerate", a],[("start", b)]⟩=pure ():=by kernel_rfl
end
open PySem.AutoSeq1 (wpAny_loadPart')
noncomputable abbrev zH(l:Addr):Obj:={ cls:=.type "list_iterator", data:=.fields #[.ref l,.int 0 0] }
noncomputable abbrev IL(it:Addr)(z:Int):Obj:={ cls:=.type "enumerate", data:=.fields #[.none,.bool false,.ref it,rawInt z,.none,.none] }
theorem Fc(l:Addr)(items:Array Value)(n:Nat)(dct:Option Addr)(sl:Array (Option Value))(z:Int)(t:Tok)(hf:Builtin.SmallTypes.fitsIndex z=true):
 Meets (Builtin.«enumerate.__new__» ⟨[.type "enumerate", .ref l],[("start", .int z t)]⟩) (λ_ R s=>s.heap.get? l=some { cls:=.type "list", dict:=dct,data:=.seq items n,slots:=sl }/\
  R (.ok (.ret (.ref (s.heap.push (zH l)).objs.size))) { s with heap:=(s.heap.push (zH l)).push (IL s.heap.objs.size z) }):=
 .of_wp λprog w A R s h=>by
  obtain⟨hp,g,d,tk,os⟩:=s;obtain⟨hl,h⟩:=h;have e0:=sub_enumerate;have hL:Heap.IsList (Shared.heap ⟨hp,g,d,tk,os⟩) l items:=⟨_,hl,rfl,n,rfl⟩
  wp_walk using Vz hl
  refine wpAny_stack_any λst=>Ut ?_;have hf':(!Builtin.SmallTypes.fitsIndex z)=false:=by rw[hf];rfl
  split
  . rename_i c _ _ _ _ _;cases(c==Value.type "enumerate")
    . wp_walk using Vz hl,Vo hL
      exact⟨_,rfl,h⟩
    . wp_walk using Vz hl,Vo hL
      exact⟨_,rfl,h⟩
  . wp_walk using Vz hl,Vo hL
    exact⟨_,rfl,h⟩
section
variable{prog:Program}{w:World}{A:Around}{E:Value->Shared->Prop}{s:Shared}
theorem AK(o a b:Value):argsOk "object.__init__" ⟨[o,a],[("start", b)]⟩:=by
 unfold argsOk;kernel_rfl
theorem AA(hf:Builtin.SmallTypes.fitsIndex z=true)(hL:s.heap.IsList l items)
 (h:∀h',IsEnum h' (s.heap.objs.size+1) s.heap.objs.size z .none->h'.IsListIter s.heap.objs.size l 0->(∀b o,s.heap.get? b=some o->h'.get? b=some o)->Q (.ref (s.heap.objs.size+1)) { s with heap:=h' }):
 wpAny (model prog w) A (call (.type "enumerate") [.ref l] [("start", .int z t)]) Q E s:=by
 obtain⟨⟨c,dct,dt,sl⟩,hl,hc,n,hd⟩:=hL;subst hc hd;refine DX F.called_enumerate (by decide) (Nb _ _) (IF _ _) (λo=>AK o _ _) F.entry_enumerate_new (Fc l _ n _ sl z t hf) ⟨hl,?_⟩;have e1:(s.heap.push (zH l)).objs.size=s.heap.objs.size+1:=Vq ..;have e2  := by
  have e3:=Uv (s.heap.push (zH l)) (o:=IL s.heap.objs.size z) rfl;rw[e1]at e3;exact e3
 rw[e1];exact⟨⟨_,e2,rfl⟩,h _ e2 ⟨_,Uc _ (Uv _ rfl),rfl,rfl⟩ λb o x=>Uc _ (Uc _ x)⟩
theorem tQ(k m i0:Nat)(hh:A.handled=none)(hil:l≠it)(h1:∀i,i0<=i->i<m->i<items.size)(h2:items[m]?=none):
 Draws prog w A it [it,l] (k+m) (λj y=>∃i,j=k+i/\items[i]?=some y) (λj h=>∃i,j=k+i/\i0<=i/\h.IsListIter it l i/\h.IsList l items) where
 live:=λj h hy0=>by obtain⟨i,_,_,⟨o,ho,_⟩,_⟩:=hy0;simp_all
 frame:=λj h h' hy0 hk=>by obtain⟨i,e,hi,a,b⟩:=hy0;exact⟨i,e,hi,a.at λo q=>hk it (by simp) o q,b.at λo q=>hk l (by simp) o q⟩
 item:=λj s Q E hj hy0 hQ=>by
  obtain⟨i,e,hi,a,b⟩:=hy0;have hlt:=h1 i hi (by omega);exact wpAny_nextOf_list_item a b (x:=items[i]) (by simp[hlt]) λh' a' s'=>hQ _ h' _ ⟨i,e,by simp[hlt]⟩ ⟨i+1,by omega,by omega,a',b.extBut s'.extBut hil⟩ s'
 done:=λs Q E hy0 hE=>by
  obtain⟨i,e,hi,a,b⟩:=hy0;have e':i=m:=by omega
  subst e';exact wpAny_nextOf_list_end hh a b h2 hE
theorem z7{h:Heap}(a:h.IsListIter it l i)(b:h.IsList l items):l≠it:=λz=>by
 obtain⟨o,e1,c1,_⟩:=a;obtain⟨o',e2,c2,_⟩:=b
 simp_all
theorem GA(a:IsEnum h e it z old)(b:h.IsList l items):e≠l:=λz=>by
 obtain⟨o',e2,c2,_⟩:=b
 grind
theorem Fy(hh:A.handled=none)(he:IsEnum s.heap e it ((k+i:Nat):Int) old)(hit:s.heap.IsListIter it l i)(hl:s.heap.IsList l items)(hx:items[i]?=some x)(hne:e≠it)
 (hQ:∀h' tk,IsEnumOut h' e it (((k+i:Nat):Int)+1) x s.heap.objs.size->h'.IsListIter it l (i+1)->h'.get? s.heap.objs.size=some { cls:=.type "tuple", data:=.seq #[.int ((k+i:Nat):Int) tk,x] }->
  (∀b o,b≠e->b≠it->s.heap.get? b=some o->h'.get? b=some o)->Q (some (.ref s.heap.objs.size)) { s with heap:=h',toks:=tk+1 }):wpAny (model prog w) A (pyNext (.ref e)) Q E s:=by
 have hlt:i<items.size:=(Array.getElem?_eq_some_iff.mp hx).1;have D:=tQ (prog:=prog) (w:=w) (A:=A.in1)  k items.size 0 hh (z7 hit hl) (λ_ _ h=>h) (by simp);refine wpAny_pyNext_enum_itemD D he ⟨i,rfl,Vn _,hit,hl⟩ (by omega) hne (by simp[hne,GA he hl]) λy h' tk p1 p2 p3 p4 p5 p6=>?_
 grind
theorem IH(hh:A.handled=none)(he:IsEnum s.heap e it ((k+i:Nat):Int) old)(hit:s.heap.IsListIter it l i)(hl:s.heap.IsList l items)(hx:items[i]?=none)
 (hQ:∀h',Heap.ExtBut it s.heap h'->Q none { s with heap:=h' }):wpAny (model prog w) A (pyNext (.ref e)) Q E s:=by
 have D:=tQ (prog:=prog) (w:=w) (A:=A.in1)  k i i hh (z7 hit hl) λj h1 h2=>by omega hx
 exact wpAny_pyNext_enum_endD D he ⟨i,rfl,Ug _,hit,hl⟩ hQ
end
noncomputable def R0(K:Frag)(a:Addr)(k:Nat):It:=
 ⟨λi H=>∃xs x,c8 K H a xs/\xs[i]?=some x,λi H v H'=>∃p x,H p=none/\v=.ref p/\H'=cx H p (.tup [.int ((k+i:Nat):Int),x])/\∀xs,c8 K H a xs->xs[i]?=some x,λi H=>∃xs,c8 K H a xs/\xs.length<=i⟩
theorem Pe{K:Frag}(a e it:Addr)(k:Nat)(hei:e≠it):
 yr P w K (.Tuple elts x1 pos) (R0 K a k) [e,it] e (λi h=>(∃old,IsEnum h e it ((k+i:Nat):Int) old)/\h.IsListIter it a i) where
 mem:=by simp
 obj:=λi h st c hc=>by
  obtain⟨⟨old,e1⟩,⟨o4,e4,_,d4⟩⟩:=st
  grind
 keep:=λi h h' st kp=>by
  obtain⟨⟨old,e1⟩,e4⟩:=st;exact⟨⟨old,kp e (by simp) _ e1⟩,e4.at λo q=>kp it (by simp) o q⟩
 item:=by
  intro X hP hw hK hc i pins s σ H E I hf st hg;subst hP hw hK;obtain⟨xs,x,qx,hx⟩:=hg;obtain⟨its,rvx,px,_⟩:=I.list qx;obtain⟨u,hu,ru⟩:=rvx.get hx;obtain⟨⟨old,e1⟩,e4⟩:=st;have big:∀{c:Addr}{o:Obj},s.heap.get? c=some o->c≠s.heap.objs.size:=λe=>Uy (Um e);refine Fy (I.ok.hd hc) e1 e4 px.isList (x:=u) (by simpa using hu) hei λh' tk a1 a2 a3 a5=>?_;refine⟨_,rfl,wpAny_letOwnedTupleGo_enum (s:={ s with heap:=h',toks:=tk+1 }) a1 λh'' b1 b2=>?_⟩;have k2:∀c o,c∉[e,it]->s.heap.get? c=some o->h''.get? c=some o:=λc o hc q=>by
   simp only[Ub,U6,Wb,not_or]at hc;exact(b2.2 c hc.1).trans (a5 c o hc.1 hc.2 q)
  have eT:IsTup h'' s.heap.objs.size (List.toArray [.int ((k+i:Nat):Int) tk,u]):=⟨_,(b2.2 _ (big e1).symm).trans a3,rfl,_,rfl⟩
  have I1:=I.turnedTup (t':=tk+1) (xs:=[.int ((k+i:Nat):Int),x]) hf k2 (Ug _) eT (.cons ⟨_,rfl⟩ (.cons ru .nil)) (by show 2<=sizeLine;decide);refine⟨.ref s.heap.objs.size,_,I1,rfl,⟨s.heap.objs.size,x,I.hok.fresh (Ug _),rfl,rfl,λzs hz=>by rw[I.list_inj hz qx];exact hx⟩,⟨⟨u,by simpa[Int.add_assoc] using b1⟩,a2.at λo q=>(b2.2 _ hei.symm).trans q⟩,λc hc=>?_⟩;have hcn:c≠s.heap.objs.size:=by
   obtain⟨o4,g4,_⟩:=id e4;simp only[Ub,U6,Wb]at hc;rcases hc with rfl | rfl
   . exact big e1
   . exact big g4
  rw[aE hcn];exact(hf c hc).1
 done:=by
  intro X hP hw hK hc i pins s σ H E I hf st hg;subst hP hw hK;obtain⟨xs,qx,hl⟩:=hg;obtain⟨its,rvx,px,_⟩:=I.list qx;obtain⟨⟨old,e1⟩,e4⟩:=st;have lx:=rvx.length;obtain⟨f0,f1,f2,f3,f4,f5⟩:=hf it (by simp);exact IH (I.ok.hd hc) e1 e4 px.isList (by simp;omega) λh' kp=>⟨rfl,I.turned (t':=s.toks) (λb o hb q=>kp b o hb q) f0 f1 f3 f4 f5⟩
 self:=λ_ _ _ _ _ st h=>by
  obtain⟨⟨old,e1⟩,_⟩:=st;exact VT e1 h
noncomputable def E4(K:Frag)(ta:TA)(tx:TE):TI:=λσ H R=>ta σ H λvs H1=>tx σ H1 λy H2=>∃(a:Addr) (k:Nat),vs=[.ref a]/\y=.int k/\k<2^62/\(∃xs,c8 K H2 a xs)/\R (R0 K a k) H2
section
variable{M:Model}{A:Around}{E:Value->Shared->Prop}{s:Shared}{env:Env}
theorem MJ
 (h:wpAny M A (spliced (backTo pos (starEach [e] env))) (λvs s1=>wpAny M A (eval x env) (λv s2=>wpAny M A (call (.type T) vs [(n,v)]) Q E s2) E s1) E s)
 (he:starEach [e] env=[(false,eval e env)]:=by rfl):
 wpAny M A (callWith pos (.type T) [] (backTo pos (starEach [e] env)) (backToKw pos (keywordEach [⟨some n,x,kp⟩] env))) Q E s:=by
 rw[he]at h ⊢;refine Uf (UQ (UU (evalArgs_kwB (Q:=λa s1=>wpAny M A (call (.type T) ([]++a.pos) a.kw) Q E s1) rfl (UU h (λvs s1 h1=>?_) λ_ _ z=>z)) (λa s1 h1=>Uf (V3 ?_)) λ_ _ z=>z))
 . exact kws_cons (UU h1 (λv s2 h2=>kws_nil h2) λ_ _ z=>z)
 . refine Uf (Ut ?_);exact Uf (UU h1 (λr s2 hr=>Uf (UQ (wpAny_point (Ut hr)))) λ_ _ z=>z)
end
theorem Os{K:Frag}{elts:List Expr}{x1}{tpos:Pos}{p pos kp:Pos}(hK:X.K=K)(hg:Gl X "enumerate")(hm:X.mg "enumerate" = none)(ha:PA X [a] ta)(hx:PE X x tx)(hs:starEach [a] X.env=[(false,eval a X.env)])
 (he:eval (.Call (.Name "enumerate" p) [a] [⟨some "start", x,kp⟩] pos) X.env=(do callWith pos (<-eval (.Name "enumerate" p) X.env) [] (backTo pos (starEach [a] X.env)) (backToKw pos (keywordEach [⟨some "start", x,kp⟩] X.env)))):
 PI X (.Tuple elts x1 tpos) (.Call (.Name "enumerate" p) [a] [⟨some "start", x,kp⟩] pos) (E4 K ta tx):=by
 subst hK;intro pins s σ H R I h;refine Uf (nZ I hg hm boot_enumerate (MJ (bQ (ha _ _ s σ H _ I h) λus s1 hy0=>?_) hs));obtain⟨vs,H1,I1,r1,q1⟩:=hy0;refine bQ (hx _ s1 σ H1 _ I1 q1) λu s2 hq0=>?_;obtain⟨y,H2,I2,ry,q2⟩:=hq0;obtain⟨b,k,e1,e2,hk,⟨xs,qx⟩,q⟩:=q2;subst e1 e2;obtain⟨t,rfl⟩:∃t,u=.int k t:=ry;cases r1 with
 | cons r rr=>
  cases rr;cases r;obtain⟨its,rvx,px,_⟩:=I2.list qx;refine AA (by simp only[Builtin.SmallTypes.fitsIndex,Uz,UC];omega) px.isList λh' g5 g1 kp=>?_;refine VT  g5 ?_;refine⟨s2.heap.objs.size+1,[s2.heap.objs.size+1,s2.heap.objs.size],_,_,H2,rfl,I2.kept  kp,Pe b _ _ k (Wc (UY _)),⟨⟨_,g5⟩,g1⟩,λc hc=>?_,q⟩;have hc':s2.heap.objs.size<=c:=by
   simp only[Ub,U6,Wb]at hc;rcases hc with h | h <;> subst h <;> first
    | exact Ug _
    | exact Nat.le_add_right _ _
  exact I2.fpOk hc' (I2.hok.fresh hc')
noncomputable def jd(k:Nat)(ds:List W):List W:=(List.range ds.length).map λ(i:Nat)=>.tuple [.int ((k+i:Nat):Int),ds[i]?.getD .none]
section
variable{K:Frag}{ρ:List Addr}
theorem xW{i:Nat}(h:(jd k ds)[i]?=some d):∃x,ds[i]?=some x/\d=.tuple [.int ((k+i:Nat):Int),x]:=by
 have hi  := by
  have:=(oG h).1;simpa[jd] using this
 unfold jd at h
 simp_all
theorem LM(s:bm G1 H1)(q:c8 K H1 a xs)(da:az K ρ G1 xs ds):FL K ρ (R0 K a k) (jd k ds) i G1 H1:=by
 refine⟨λd hd=>?_,λh=>⟨xs,q,by rw[da.length];simpa[jd] using h⟩⟩;obtain⟨x,hx,rfl⟩:=xW hd;obtain⟨v,h1,h2⟩:=da.get hx;refine⟨⟨xs,v,q,h1⟩,λy H' w=>?_⟩;obtain⟨p,u,hp,rfl,rfl,w⟩:=w;have:=w xs q;rw[h1]at this;cases this;have n:Nw H1 _ p (.tup [.int (k+i:Nat),v]):=.of hp;have g:=Gr.nw s n;exact⟨_,g,.tup aC (.cons (.int _) (.cons (h2.same g.g) .nil))⟩
noncomputable def Ky:W->Option (List W)
 | .tuple ds=>some ds
 | _=>none
theorem Gg(h:Ky d=some ds):d=.tuple ds:=by
 cases d <;> first | (cases h;rfl) | cases h
theorem Lp(ds:List W):Ky (.tuple ds)=some ds:=rfl
noncomputable def x8(f:DS->Option W)(lo hi:DS->Option (Option Int)):DS->Option W:=λδ=>(f δ).bind λd=>(Ky d).bind λds=>(lo δ).bind λl=>(hi δ).map λu=>.tuple (dS ds l u)
theorem Mf{lo hi:DS->Option (Option Int)}(h:DE K ρ t f)(hl:HD K ρ tl lo)(hh:HD K ρ th hi):DE K ρ (Og (Jl K) t tl th) (x8 f lo hi):=λG σ H δ d Q R e q=>by
 obtain⟨x,ed,e⟩:=oB e
 obtain⟨es,ee,e⟩:=oB e
 obtain⟨l,el,e⟩:=oB e
 obtain⟨u,eu,rfl⟩:=oM e
 cases Gg ee;refine h G σ H δ _ _ R ed λv G1 H1 g1 dv=>hl G1 σ H1 δ l _ (R.grow g1) el λG2 H2 g2=>hh G2 σ H2 δ u _ ((R.grow g1).grow g2) eu λG3 H3 g3=>?_;have g23:=g2.trans g3;have g:=g1.trans g23;obtain⟨p,vs,rfl,sq,da⟩:=rF (dv.same g23.g);refine⟨p,vs,rfl,fj.of (g.s _ _ sq),?_⟩;by_cases hw:HT.sIx vs.length 0 l=0/\HT.sIx vs.length vs.length u=vs.length
 . refine .inl ⟨hw.1,hw.2,q _ G3 H3 g ?_⟩;have e1:dS es l u=es:=by
    unfold dS;rw[<-da.length,hw.1,hw.2,da.length];simp
   rw[e1];exact .tup sq da
 . refine .inr ⟨hw,λr H' n=>?_⟩;have g4:=Gr.nw g.s n;exact q _ _ H' (g.trans g4) (.tup aC ((da.cut l u).same g4.g))
noncomputable def oR(T:String):W->Option W
 | .list _=>if T = "list" then some (.bool true) else none
 | .tuple _=>if T = "tuple" then some (.bool true) else none
 | d=>lM T d
theorem Hg(h:DE K ρ t f):DE K ρ (vQ (EM K) (dM t (dM (tC (.ty T)) gS))) (cp (oR T) f):=λG σ H δ d Q R e q=>by
 obtain⟨x,ex,e2⟩:=oB e
 refine h G σ H δ x _ R ex λv G1 H1 g1 dv=>?_;unfold oR at e2;split at e2
 . split at e2
   . rename_i hT;subst hT;cases e2;obtain⟨a,vs,rfl,sq,da⟩:=ya dv;exact .inr (.inr ⟨a,vs, "list", true,rfl,g1.s.seq sq,wR _ (by decide),q _ G1 H1 g1 (.bl _)⟩)
   . cases e2
 . split at e2
   . rename_i hT;subst hT;cases e2;obtain⟨a,vs,rfl,sq,da⟩:=rF dv;exact .inr (.inl ⟨a,vs, "tuple", true,rfl,g1.s.tup (fj.of sq),wR _ (by decide),q _ G1 H1 g1 (.bl _)⟩)
   . cases e2
 . unfold lM at e2;split at e2;all_goals first
    | cases e2
    | (obtain⟨k,ek,rfl⟩:=oM e2
       cases dv;exact .inl ⟨_,T,k,rfl,ek,q _ G1 H1 g1 (.bl k)⟩)
theorem JZ(ds:List W):oR "list" (.list ds)=some (.bool true):=by rfl
theorem K0(ds:List W):oR "tuple" (.tuple ds)=some (.bool true):=by rfl
end
section
variable{K:Frag}{cl:Str->Addr}{E:XK}
noncomputable def Qa(x y:W):Option (List W):=match x,y with
 | .list es,.int z=>if 0<=z/\z<2^62 then some (jd z.toNat es) else none
 | _,_=>none
noncomputable def qh(fa:DS->ai->SM (List W))(fx:DS->ai->SM W):DS->ai->SM (List W):=λδ S=>aq (fa δ S) λds S1=>aq (fx δ S1) λy S2=>match ds with
 | [x]=>iD (Qa x y) S2
 | _=>none
theorem AD(ha:SA K cl E ta fa)(hx:SE K cl E tx fx):Mc K cl E (E4 K ta tx) (qh fa fx):=λρ G σ H δ S r S' R' R e q qx=>
 l8 ha R e (λds S1 e1 vs ρ1 G1 H1 g1 s1 da=>dQ hx (R.grow g1 s1) e1 (λy S2 e2 u ρ2 G2 H2 g2 s2 du=>by
  split at e2
  case h_2=>cases e2
  obtain⟨es,e3,rfl,rfl⟩:=bI e2;unfold Qa at e3;split at e3
  case h_2=>cases e3
  rename_i xs z;split at e3
  case isFalse=>cases e3
  rename_i hz;cases e3;obtain⟨v,rfl,dv⟩:=uL da;cases cQ du;have g12:=g1.trans g2;cases dv with
  | lst sq da'=>
   have sq2:=(g2.g.trans g2.s).seq sq;have da2:=(da'.ext g2.r).same g2.g;exact⟨_,z.toNat,rfl,by grind,by omega,⟨_,sq2⟩,q _ rfl _ ρ2 G2 H2 g12 s2 λi G3 H3 a b=>LM b ((a.trans b).seq (g2.g.seq sq)) (da2.same a)⟩) λc hc ρ2 G2 H2 g2 s2=>qx c hc _ G2 H2 (g1.trans g2) s2) qx
noncomputable def M9(d e:W)(S:ai):Option Bool:=(EA e S).bind λds=>(JF d).bind λv=>(w6 ds).map λvs=>IN v vs
noncomputable def xh(neg:Bool)(fa fb:DS->ai->SM W):DS->ai->SM Bool:=λδ S=>aq (fa δ S) λx S1=>aq (fb δ S1) λy S2=>iD ((M9 x y S2).map λb=>if neg then !b else b) S2
theorem KL(ha:SE K cl E ta fa)(hb:SE K cl E tb fb):ST K cl E (iA (qd (zt K neg) ta tb)) (xh neg fa fb):=λρ G σ H δ S r' S' Q R e q qx=>
 gM ha hb R e (λx y S2 e2 v u ρ2 G2 H2 g2 s2 dv du=>by
  obtain⟨b,e3,rfl,rfl⟩:=bI e2;obtain⟨b',e4,rfl⟩:=oM e3
  obtain⟨ds,e5,e4⟩:=oB e4
  obtain⟨v',e6,e4⟩:=oB e4
  obtain⟨vs,e7,rfl⟩:=oM e4
  obtain⟨p,xs,rfl,h2,da⟩:=Bf g2.s s2 du e5;obtain⟨rfl,f1⟩:=rQ dv e6;obtain⟨rfl,f2⟩:=mq da e7;cases neg with
  | false=>exact⟨p,xs,rfl,h2,f1,f2,_,rfl,q _ rfl _ G2 H2 g2 s2⟩
  | true=>exact⟨p,xs,rfl,h2,f1,f2,_,rfl,q _ rfl _ G2 H2 g2 s2⟩) qx
end
theorem Qq{K:Frag}(hK:X.K=K)(he:PE X e ta)(hb:attributeBase e f X.env (eval e X.env)=eval e X.env):PE X (.Attribute e f pos) (KU K ta f):=hK▸MA he hb
theorem SQ{α:Type}(x y:α)(r:List α):jC (x::y::r) 1=some y:=by
 unfold jC xS;rw[Ul (by decide),Ul (by simp;omega)];rfl
theorem BU(x:α)(r:List α):jC (x::r) 0=some x:=by
 unfold jC xS
 simp_all
theorem sz(n:Nat)(h:n<=9000):n<=sizeLine:=UF h (by decide)
theorem iq(h:S[l]?=some (.lst es)):ig (.ref l) S=some (l,es):=by simp[ig,iy,h]
theorem F5(h:S[l]?=some (.dK es)):wN (.ref l) S=some (l,es):=by simp[wN,iy,h]
theorem Fd[DecidableEq κ]:∀(kvs:List (κ×W))(k q:κ)(x:W),aU kvs k=none->aU (kvs++[(k,x)]) q=if q=k then some x else aU kvs q:=λkvs k q x h=>by
 induction kvs with
 | nil=>
  by_cases e:q=k
  . subst e;simp[aU]
  . have e':¬ k=q:=λz=>e z.symm;simp[aU,e,e']
 | cons p r ih=>
  obtain⟨j,y⟩:=p;by_cases hj:j=k
  . subst hj;simp[aU,UD]at h
  . have h':aU r k=none:=by simpa[aU,  hj] using h
    have ih':=ih h';by_cases hq:j=q
    . subst hq;simp[aU,  hj]
    . simp only[aU,U7,UD,hq,V5]at ih' ⊢;exact ih'
theorem nK[DecidableEq κ]{kvs:List (κ×W)}{k:κ}(x:W)(h:aU kvs k=none):bL kvs k x=kvs++[(k,x)]:=by
 unfold bL;rw[UE];intro ha;obtain⟨kv,h1,h2⟩:=V0.mp ha;unfold aU at h;have h3:kvs.find? (λkv=>decide (kv.1=k))=none:=by
  cases hf:kvs.find? _ with
  | none=>rfl
  | some z=>simp_all
 grind
theorem cq{S:ai}{m:Nat}(h:S[m]?=some o):(S++[x])[m]?=some o:=by
 grind
theorem MD{n:Nat}{i:Int}(h0:0<=i)(h1:i<n):xS n i=some i.toNat:=by
 unfold xS
 simp_all
theorem au(h:ds.length=a):aN a n fb ds S=bC (fb (f6 n ds) S):=Ul h
theorem af{f g:DS->ai->SO}(h:f δ S=some (.nx δ',S')):ak f g δ S=g δ' S':=by unfold ak;rw[h]
theorem eZ{c:DS->ai->SM Bool}(h:c δ S=some (.ok true,S1)):bh c f g δ S=f δ S1:=by unfold bh;rw[h];rfl
theorem aY{c:DS->ai->SM Bool}(h:c δ S=some (.ok false,S1)):bh c f g δ S=g δ S1:=by unfold bh;rw[h];rfl
theorem aQ{f:DS->ai->SM W}(h1:f δ S=some (.ok d,S1))(h2:h d δ=some δ'):bH f h δ S=some (.nx δ',S1):=by
 unfold bH;rw[h1];show(h d δ).map _=_
 grind
theorem cc{fi:DS->ai->SM (List W)}(h1:fi δ S=some (.ok ds,S1)):fw fi h fb δ S=bc h fb ds δ S1:=by unfold fw;rw[h1];rfl
theorem aL{fb:DS->ai->SO}(h1:h d δ=some δ2)(h2:fb δ2 S=some (.nx δ',S')):bc h fb (d::ds) δ S=bc h fb ds δ' S':=by
 show(h d δ).bind _=_
 simp_all
theorem D7{fi:DS->ai->SM (List W)}(h1:fi δ S=some (.ok ds,S0))(h2:ds.length<=sizeLine)(h3:ck h c fe (c9 ix δ) ds S0=some (.ok es,S1)):gK ix fi h c fe δ S=some (.ok (.list es),S1):=by
 unfold gK;rw[h1];show(if ds.length<=sizeLine then _ else _)=_;rw[Ul h2,h3];rfl
theorem AW{fi:DS->ai->SM (Nat×Kd)}(h1:fi δ S=some (.ok n,S0))(h2:m<=sizeLine)(h3:dU n h c fe (c9 ix δ) m 0 S0=some (.ok es,S1)):qA m ix fi h c fe δ S=some (.ok (.list es),S1):=by
 unfold qA;rw[h1];show(if m<=sizeLine then _ else _)=_;rw[Ul h2,h3];rfl
theorem Gp(h1:0<=j)(h2:j<1000000):Aj [.int j]=some (kC 0 j.toNat):=by
 show x6 j=_;unfold x6;rw[Ul (wM (by omega) (by omega))]
theorem eX(i:Int)(h:0<j):0<=i.fmod j/\i.fmod j<j:=⟨Int.fmod_nonneg_of_pos i h,Int.fmod_lt_of_pos i h⟩
theorem Hj(h:S[l]?=some (.lst es)):kZ S (l,.l)=some es:=by simp[kZ,qQ,h]
mutual
noncomputable def li:W->Bool
 | .none | .bool _ | .int _=>true
 | .str x=>PyData.strOk x
 | .list ds | .tuple ds=>fu ds
 | .ref _ | .fn _=>false
noncomputable def fu:List W->Bool
 | []=>true
 | d::ds=>li d&&fu ds
end
mutual
noncomputable def fA:W->Nat
 | .list ds | .tuple ds=>ca ds+1
 | _=>0
noncomputable def ca:List W->Nat
 | []=>0
 | d::ds=>max (fA d) (ca ds)
end
mutual
theorem yO:∀(d:W),li d=true->∃a,d.py=some a/\a.canLay0=true/\a.depth=fA d/\PyData.eqv a a=true
 | .none,_=>⟨.none,rfl,by rfl,by rfl,by rfl⟩
 | .bool b,_=>⟨.bool b,rfl,by rfl,by rfl,by simp[PyData.eqv]⟩
 | .int i,_=>⟨.int i,rfl,by rfl,by rfl,by simp[PyData.eqv]⟩
 | .str x,h=>⟨.str x,rfl,by simpa[PyData.canLay0,li] using h,by rfl,by simp[PyData.eqv]⟩
 | .list ds,h=>by
  obtain⟨xs,e1,e2,e3,e4⟩:=uw ds (by simpa[li] using h);exact⟨.list xs,by simp[W.py,e1],by simpa[PyData.canLay0] using e2,by simp[PyData.depth,fA,e3],by simpa[PyData.eqv] using e4⟩
 | .tuple ds,h=>by
  obtain⟨xs,e1,e2,e3,e4⟩:=uw ds (by simpa[li] using h);exact⟨.tuple xs,by simp[W.py,e1],by simpa[PyData.canLay0] using e2,by simp[PyData.depth,fA,e3],by simpa[PyData.eqv] using e4⟩
 | .ref _,h | .fn _,h=>by simp[li]at h
theorem uw:∀(ds:List W),fu ds=true->∃xs,W.pys ds=some xs/\PyData.canLayAll0 xs=true/\PyData.depthAll xs=ca ds/\PyData.eqvAll xs xs=true
 | [],_=>⟨[],rfl,by simp[PyData.canLayAll0],by simp[PyData.depthAll,ca],by simp[PyData.eqvAll]⟩
 | d::ds,h=>by
  have h':li d=true/\fu ds=true:=by simpa[fu] using h
  obtain⟨a,a1,a2,a3,a4⟩:=yO d h'.1;obtain⟨xs,e1,e2,e3,e4⟩:=uw ds h'.2;exact⟨a::xs,by simp[W.pys,a1,e1],by simp[PyData.canLayAll0,a2,e2],by simp[PyData.depthAll,ca,a3,e3],by simp[PyData.eqvAll,a4,e4]⟩
end
theorem wm(h:li d=true)(b:Bool)(e:Qn d d=some b):b=true:=by
 cases d with
 | none=>exact UW e.symm
 | int i=>exact(UW e).symm.trans (by simp)
 | bool i=>exact(UW e).symm.trans (by simp)
 | str i=>exact(UW e).symm.trans (by simp)
 | _=>cases e
theorem D1(h:li d=true)(hd:fA d<=64):bM d d=some true:=by
 obtain⟨a,a1,a2,a3,a4⟩:=yO d h;unfold bM;split
 . rename_i b e;rw[wm h b e]
 simp_all
theorem E8(h:li d=true)(hd:fA d<=64):ng d d=some false:=by
 unfold ng;rw[D1 h hd];rfl
mutual
theorem CN(S:ai):∀(n:Nat)(d:W),li d=true->fA d<n->IE S n d=d.py
 | 0,d,_,h=>absurd h (Nat.not_lt_zero _)
 | n+1,.none,_,_=>rfl
 | n+1,.bool b,_,_=>rfl
 | n+1,.int i,_,_=>rfl
 | n+1,.str x,_,_=>rfl
 | n+1,.list ds,h,hd=>by
  show(up _ ds).map PyData.list=(W.pys ds).map _;rw[vN S n ds (by simpa[li] using h) (by simp[fA]at hd;omega)]
 | n+1,.tuple ds,h,hd=>by
  show(up _ ds).map PyData.tuple=(W.pys ds).map _;rw[vN S n ds (by simpa[li] using h) (by simp[fA]at hd;omega)]
 | n+1,.ref m,h,_=>by simp[li]at h
theorem vN(S:ai):∀(n:Nat)(ds:List W),fu ds=true->ca ds<n->up (IE S n) ds=W.pys ds
 | n,[],_,_=>rfl
 | n,d::ds,h,hd=>by
  have h':li d=true/\fu ds=true:=by simpa[fu] using h
  simp only[ca]at hd;show(IE S n d).bind _=(W.py d).bind _;rw[CN S n d h'.1 (by omega),vN S n ds h'.2 (by omega)]
end
theorem Es(neg:Bool)(h:li d=true)(hd:fA d<24):qZ neg d d S=some (!neg):=by
 obtain⟨a,a1,a2,a3,a4⟩:=yO d h;unfold qZ;split
 . rename_i b e;rw[wm h b e]
   simp_all
 . rw[CN S 24 d h hd,a1]
   grind
theorem Cr(l:List α)(k:Nat)(h:k<l.length):jC l (k:Int)=l[k]?:=by
 unfold jC xS
 simp_all
theorem SL(a b c:α)(r:List α):jC (a::b::c::r) 2=some c:=(Cr _ 2 (by simp)).trans rfl
theorem TR(a b c d:α)(r:List α):jC (a::b::c::d::r) 3=some d:=(Cr _ 3 (by simp)).trans rfl
theorem TF(a b c d e:α)(r:List α):jC (a::b::c::d::e::r) 4=some e:=(Cr _ 4 (by simp)).trans rfl
theorem T7{α:Type}(l:List α)(k:Nat)(h0:0<k)(h:k<=l.length):jC l (-(k:Int))=l[l.length-k]?:=by
 unfold jC xS;rw[UE (by omega),Ul (by omega)];have e2:(-(k:Int)+(l.length:Int)).toNat=l.length-k:=by omega
 simp[e2]
theorem IJ(x:W)(r:List W):dS (x::r) (some 1) none=r:=by
 unfold dS;rw[HT.sIx_none,show some 1=some ((1:Nat):Int) from rfl,HT.sIx_nat]
 simp_all
theorem EL(l:List W)(a b:Nat):dS l (some (a:Int)) (some (b:Int))=(l.drop a).take (b-a):=by
 unfold dS;rw[HT.sIx_nat,HT.sIx_nat];rcases VW _ a with h | h
 . rw[List.drop_of_length_le (Ve h),show min a _=l.length by omega,VH];simp
 . rw[show min a _=a by omega];rcases VW l.length b with h2 | h2
   . rw[show min b _=l.length by omega,Vx (by simp),Vx (by simp;omega)]
   simp_all
theorem Az(l:List W)(a:Nat):dS l (some (a:Int)) none=l.drop a:=by
 unfold dS;rw[HT.sIx_nat,HT.sIx_none];rcases VW _ a with h | h
 . rw[List.drop_of_length_le (Ve h),show min a _=l.length by omega,VH];simp
 . rw[show min a _=a by omega,Vx (by simp)]
theorem aX{f:DS->ai->SM W}(h:f δ S=some (.ok d,S1)):aT f δ S=some (.nx δ,S1):=by unfold aT;rw[h];rfl
theorem aB{f:List W->ai->SM W}{fa:DS->ai->SM (List W)}(h1:fa δ S=some (.ok ds,S1))(h2:f ds S1=some (.ok d,S2)):aM f fa δ S=some (.ok d,S2):=by
 unfold aM;rw[h1];show Dz _=_;rw[h2];rfl
theorem gG{f:List W->ai->SM W}{fa:DS->ai->SM (List W)}(h1:fo δ=some (.ref I))(h2:S[I]?=some (.ins c fs))(h3:fs.lookup m=none)(h4:fa δ S=some (.ok ds,S1))(h5:f (.ref I::ds) S1=some (.ok d,S2)):aZ c m f (aa fo) fa δ S=some (.ok d,S2):=by
 unfold aZ aa;rw[h1];show(ge c _ S).bind _=_;rw[show ge c _ S=some (I,fs) by simp[ge,iy,h2]];show(if fs.lookup m=none then _ else _)=_;rw[Ul h3,h4];show Dz _=_;rw[h5];rfl
theorem aj{f:DS->Option α}{d:α}(h:f δ=some d):aa f δ S=some (.ok d,S):=by unfold aa;rw[h];rfl
theorem aA(h:f δ=some (.nx δ')):ag f δ S=some (.nx δ',S):=by unfold ag;rw[h];rfl
theorem cX(h:f δ=some (.rt d)):ag f δ S=some (.rt d,S):=by unfold ag;rw[h];rfl
theorem gE{f g:DS->ai->SO}(h:f δ S=some (.rt d,S')):ak f g δ S=some (.rt d,S'):=by unfold ak;rw[h]
theorem cg{f:DS->ai->SM W}(h:f δ S=some (.ok d,S1)):eM f δ S=some (.rt d,S1):=by unfold eM;rw[h];rfl
theorem set_ne'{S:ai}(h:S[k]?=some o)(hne:m≠k):(S.set m x)[k]?=some o:=by simp_all
theorem set_eq'{S:ai}(h:S[m]?=some o):(S.set m x)[m]?=some x:=ji (oG h).1
theorem cU{S:ai}{m k:Nat}(h:S[m]?=some o)(h2:S[k]?=some x)(hne:o≠x):m≠k:=λe=>hne (by simp_all)
theorem bS[DecidableEq κ](kvs:List (κ×W))(k:κ)(x:W):(bL kvs k x).length<=kvs.length+1:=by
 unfold bL
 grind
theorem eg(S:ai)(o:Ob):(S++[o])[S.length]?=some o:=by simp
theorem ax{f:DS->ai->SM W}{g:DS->ai->SM (List W)}(h1:f δ S=some (.ok d,S1))(h2:g δ S1=some (.ok ds,S2)):aK f g δ S=some (.ok (d::ds),S2):=by
 unfold aK;rw[h1];show aq (g δ S1) _=_;rw[h2];rfl
theorem xL{fa:DS->ai->SM (List W)}{fx:DS->ai->SM W}(h1:fa δ S=some (.ok [x],S1))(h2:fx δ S1=some (.ok y,S2))(h3:Qa x y=some ds):qh fa fx δ S=some (.ok ds,S2):=by
 simp only[qh,h1,aq,h2,iD,h3,Ue]
theorem dY{fv:DS->ai->SM W}(h1:fv δ S=some (.ok d,S1))(h2:fo δ=some (.ref n))(h3:S1[n]?=some (.ins c fs))(h4:fs.length<1000):dP c f (aa fo) fv δ S=some (.nx δ,S1.set n (.ins c (c7 f d fs))):=by
 have h5:ge c (.ref n) S1=some (n,fs):=by simp[ge,iy,h3]
 simp only[dP,h1,jz,aa,h2,Ue,h5,TZ,Ul h4]
theorem lX{f:List W->ai->SM W}{fa:DS->ai->SM (List W)}(h1:fa δ S=some (.ok ds,S1))(h2:f (.ref S1.length::ds) (S1++[.ins c []])=some (.ok .none,S2)):sj c f fa δ S=some (.ok (.ref S1.length),S2):=by
 simp only[sj,h1,aq,h2,Dz]
theorem rh{f g:DS->ai->SM Bool}(h1:f δ S=some (.ok false,S1)):pR f g δ S=some (.ok false,S1):=by simp only[pR,h1,aq,UR,V4]
theorem se{f g:DS->ai->SM Bool}(h1:f δ S=some (.ok true,S1))(h2:g δ S1=some (.ok b,S2)):pR f g δ S=some (.ok b,S2):=by simp only[pR,h1,aq,U5,h2]
theorem R7(q:List α)(b:α):jC (q++[b]) (-1)=some b:=by
 have:=T7 (q++[b]) 1 (by decide) (by simp)
 simp_all
theorem El:∀(bs:List Bool),Fl (bs.map .bool)=some bs
 | []=>rfl
 | b::bs=>by
  show((some b).bind _)=_;rw[El bs];rfl
theorem Fi(xs:List W):wT (.list ((xs.map λ_=>true).map .bool))=some (.bool true):=by
 have:(xs.map λ_=>true).all id=true:=by simp
 simp only[wT,gX,TZ,El,Ue,this]
theorem cB{κ:Type}[DecidableEq κ](kvs:List (κ×W))(k q:κ)(x:W):aU (bL kvs k x) q=if q=k then some x else aU kvs q:=by
 by_cases h:aU kvs k=none
 . rw[nK x h,Fd kvs k q x h]
 . have ha:(kvs.any λkv=>decide (kv.1=k))=true:=by
    cases e:kvs.any λkv=>decide (kv.1=k) with
    | true=>rfl
    | false=>
     exact absurd (by
      unfold aU;rw[List.find?_eq_none.mpr λz hz=>by simpa using List.any_eq_false.mp e z hz];rfl) h
   unfold bL;rw[Ul ha];clear ha;induction kvs with
   | nil=>simp[aU]at h
   | cons p r ih=>
    obtain⟨j,y⟩:=p;by_cases hj:j=k
    . subst hj;by_cases hq:q=j
      . subst hq;simp[aU,UD]
      . have hq':¬ j=q:=λz=>hq z.symm;rw[UE hq];clear ih h;simp only[aU,Uk,U5,UD,hq',V5];induction r with
        | nil=>rfl
        | cons p r ih=>
         obtain⟨i,z⟩:=p;by_cases hi:i=j
         . subst hi;simpa[UD,hq'] using ih
         . by_cases hiq:i=q
           . subst hiq;simp[UD,hi]
           . simpa[UD,hi,hiq] using ih
    . have h':¬ aU r k=none:=by simpa[aU,UD,hj] using h
      have ih':=ih h';by_cases hjq:j=q
      . subst hjq;simp[aU,UD,hj]
      . simpa[aU,UD,hj,hjq] using ih'
inductive Al(R:W->W->Prop):List W->List W->Prop
 | nil:Al R [] []
 | cons {x y:W} {a b:List W}:R x y->Al R a b->Al R (x::a) (y::b)
theorem Al.app(h:Al R a b)(g:Al R c d):Al R (a++c) (b++d):=by
 induction h with
 | nil=>exact g
 | cons r _ ih=>exact .cons r ih
theorem Ee{fe:DS->ai->SM W}(hl:kZ S n=some es)(hh:∀x y,R x y->∃δ2,h x δ=some δ2/\fe δ2 S=some (.ok y,S))(A:Al R a b):∀(m i:Nat),es.drop i=a->a.length<m->dU n h (aa cb) fe δ m i S=some (.ok b,S):=by
 induction A with
 | nil=>
  intro m i e hm;obtain⟨m,rfl⟩:∃k,m=k+1:=⟨m-1,by omega⟩
  show(kZ S n).bind _=_
  simp_all
 | cons r _ ih=>
  rename_i x y a b _;intro m i e hm;obtain⟨m,rfl⟩:∃k,m=k+1:=⟨m-1,by omega⟩
  have hi:i<es.length:=Nat.lt_of_not_le λhc=>by grind
  rw[U0 hi]at e;obtain⟨e1,e2⟩:=List.cons.inj e;obtain⟨δ2,h1,h2⟩:=hh x y r;show(kZ S n).bind _=_;rw[hl];show(match es[i]? with | none=>_ | some d=>_)=_;rw[Uu hi,e1];show(h x δ).bind _=_;rw[h1];show aq _ _=_;rw[h2];show aq (dU n h _ fe δ m _ S) _=_;rw[ih m _ e2 (by simp_all)];rfl
noncomputable def nz:Nat->List W->List W
 | _,[]=>[]
 | k,x::r=>.tuple [.int (k:Int),x]::nz (k+1) r
theorem zV:∀(l:List W)(k i:Nat),(nz k l)[i]?=(l[i]?).map λx=>.tuple [.int ((k+i:Nat):Int),x]
 | [],k,i=>by rfl
 | x::l,k,0=>by rfl
 | x::l,k,i+1=>by
  simp only[nz,Vt,zV l _ i]
  grind
theorem zT(l:List W)(k:Nat):jd k l=nz k l:=by
 apply List.ext_getElem?;intro i;rw[zV];unfold jd
 grind
theorem sw(l:List W):mL l=nz 0 l:=by
 rw[<-zT];unfold mL jd;simp
theorem Rj(l:List W)(n:Nat)(h:n<=9000):Qa (.list l) (.int ((n:Int)+1))=some (nz (n+1) l):=by
 have hz:0<=(n:Int)+1/\(n:Int)+1<2^62:=by omega
 simp only[Qa,  <-zT]
 simp_all
noncomputable def uD:=And.intro @cD.eq_1 <| And.intro @Gy.eq_1 <| And.intro @Gy.eq_2 <| And.intro @Gy.eq_3 <| And.intro @f6.eq_1 <| And.intro @ay.eq_1 <| And.intro @bx.eq_1 <| And.intro @cA.eq_1 <| And.intro @aO.eq_1 <| And.intro @K2.eq_1 <| And.intro @bo.eq_1 <| And.intro @kN.eq_1 <| And.intro @pG.eq_1 <| And.intro @frz.eq_1 <| And.intro @mX.eq_1 <| And.intro @cV.eq_1 <| And.intro @qC.eq_1 <| And.intro @gR.eq_1 <| And.intro @ac.eq_1 <| And.intro @ao.eq_1 <| And.intro @dC.eq_1 <| And.intro @aF.eq_1 <| And.intro @aw.eq_1 <| And.intro @dB.eq_1 <| And.intro @lE.eq_1 <| And.intro @pH.eq_1 <| And.intro @F6.eq_1 <| And.intro @Cv.eq_1 <| And.intro @AO.eq_1 <| And.intro @lj.eq_1 <| And.intro @FE.eq_1 <| And.intro @bz.eq_1 <| And.intro @ab.eq_1 <| And.intro @ah.eq_1 <| And.intro @bJ.eq_1 <| And.intro @bW.eq_1 <| And.intro @aP.eq_1 <| And.intro @cf.eq_1 <| And.intro @cp.eq_1 <| And.intro @aI.eq_1 <| And.intro @ae.eq_1 <| And.intro @cW.eq_1 <| And.intro @cW.eq_2 <| And.intro @aD.eq_1 <| And.intro @aD.eq_2 <| And.intro @db.eq_1 <| And.intro @db.eq_2 <| And.intro @fQ.eq_1 <| And.intro @b9.eq_1 <| And.intro @b8.eq_1 <| And.intro @jS.eq_1 <| And.intro @RP.eq_1 <| And.intro @mT.eq_1 <| And.intro @Px.eq_1 <| And.intro @c9.eq_1 <| And.intro @sC.eq_1 <| And.intro @sC.eq_2 <| And.intro @cb.eq_1 <| And.intro @C6.eq_1 <| And.intro @x8.eq_1 <| And.intro @Lp <| And.intro @Mq <| And.intro @Ms <| And.intro @JT <| And.intro @Lm <| And.intro @MR <| And.intro @Aq <| And.intro @PK <| And.intro @gX <| And.intro @Kx <| And.intro @LL <| And.intro @Kw <| And.intro @KF <| And.intro @j3 <| And.intro @qN <| And.intro @On <| And.intro @JM <| And.intro @P3 <| And.intro @P2 <| And.intro @OW <| And.intro @OU <| And.intro @Ot <| And.intro @P0 <| And.intro @OP <| And.intro @Gj <| And.intro @Ih <| And.intro @HC <| And.intro @HU <| And.intro @Gv <| And.intro @L9 <| And.intro @Kg <| And.intro @M8 <| And.intro @Ko <| And.intro @M5 <| And.intro @GZ <| And.intro @C9 <| And.intro @GP <| And.intro @JZ <| And.intro @K0 <| And.intro @Ud.{0} <| And.intro @VA.{0} <| And.intro @Uk.{0,0} <| And.intro @V6.{0,0} <| And.intro @UL.{0} <| And.intro @U7.{0} <| And.intro @List.getElem?_cons_zero.{0} <| And.intro @Vt.{0} <| And.intro @List.set_cons_zero.{0} <| And.intro @List.set_cons_succ.{0} <| And.intro @TZ.{0,0} <| And.intro @Ue.{0,0} <| And.intro @Option.bind_none.{0,0} <| And.intro @Option.map_none.{0,0} <| And.intro @Option.getD_some.{0} <| And.intro @Option.getD_none.{0} <| And.intro @U5.{1} <| And.intro @decide_true <| And.intro @V5 <| And.intro @Bool.not_true <| And.intro @Bool.not_false <| And.intro @UR <| And.intro @ne_eq.{1} <| @not_false_eq_true
noncomputable def uS:=And.intro @aN.eq_1 <| And.intro @bC.eq_1 <| And.intro @bC.eq_2 <| And.intro @bC.eq_3 <| And.intro @bC.eq_4 <| And.intro @ak.eq_1 <| And.intro @bh.eq_1 <| And.intro @eM.eq_1 <| And.intro @bH.eq_1 <| And.intro @aT.eq_1 <| And.intro @ag.eq_1 <| And.intro @jz.eq_1 <| And.intro @jz.eq_2 <| And.intro @jz.eq_3 <| And.intro @aq.eq_1 <| And.intro @aq.eq_2 <| And.intro @aq.eq_3 <| And.intro @iD.eq_1 <| And.intro @aa.eq_1 <| And.intro @bB.eq_1 <| And.intro @aZ.eq_1 <| And.intro @aM.eq_1 <| And.intro @K6.eq_1 <| And.intro @Dz.eq_1 <| And.intro @Dz.eq_2 <| And.intro @Dr.eq_1 <| And.intro @Dr.eq_2 <| And.intro @Dr.eq_3 <| And.intro @Dr.eq_4 <| And.intro @dX.eq_1 <| And.intro @aK.eq_1 <| And.intro @mB.eq_1 <| And.intro @sX.eq_1 <| And.intro @pR.eq_1 <| And.intro @FH.eq_1 <| And.intro @Od.eq_1 <| And.intro @RY.eq_1 <| And.intro @P1.eq_1 <| And.intro @sB.eq_1 <| And.intro @wB.eq_1 <| And.intro @T5.eq_1 <| And.intro @jA.eq_1 <| And.intro @R8.eq_1 <| And.intro @kT.eq_1 <| And.intro @ly.eq_1 <| And.intro @ui.eq_1 <| And.intro @sIx.eq_1 <| And.intro @EG.eq_1 <| And.intro @Si.eq_1 <| And.intro @zA.eq_1 <| And.intro @zA.eq_2 <| And.intro @zA.eq_3 <| And.intro @uf.eq_1 <| And.intro @Fm.eq_1 <| And.intro @xU.eq_1 <| And.intro @KD.eq_1 <| And.intro @qA.eq_1 <| @Option.map_eq_map.{0}
section
variable{X:Cx}
noncomputable def v8(K:Frag):V->List V->Hp->VK->Prop:=λx vs H Q=>∃l xs y j,x=.ref l/\vs=[y]/\c8 K H l xs/\gc y=true/\xs.all gc=true/\xs.findIdx? (λz=>yR z y)=some j/\Q (.int (j:Nat)) H
theorem DM:N4 X "list.index" (v8 X.K):=by
 intro pins s σ H x vs v us Q I rx rv h;obtain⟨l,xs,y,j,rfl,rfl,hq,fy,fs,hj,q⟩:=h;cases rx;obtain⟨u,rfl,ru⟩:=rv.one;obtain⟨its,r,⟨⟨oc,od,da,sl⟩,k,e2,c1,c2,c3⟩,hz⟩:=I.list hq;subst c1 c2 c3;obtain⟨jl,j1,j2⟩:=List.findIdx?_eq_some_iff_getElem.mp hj;have hl:=r.length;have at':∀m hm (hm':m<xs.length),BO y _=yR _ y:=λm hm hm'=>by
  obtain⟨w,e3,rw'⟩:=r.get   (Uu _);rw[Uu hm]at e3;cases e3;exact xP rw' (UI.mp fs _ (Vs hm'))
 have hsz:its.toArray.size=its.length:=UG ..;have h9:sizeLine<4611686018427387904:=by decide
 have hsm:(j:Int)<2^63-1:=by omega
 refine Vu F.slot_list_index ⟨_,e2,rfl⟩ F.entry_list_index (F.args_list_index_2 _ _) (SeqAt.list_indexAt l _ k _ sl u _ j (by omega) hsm ?_ ?_) ⟨e2,λw hw=>jV ru fy r fs w (by grind),?_⟩
 . simp_all
 . simp_all
 . exact⟨.int _,H,I.tok _,⟨_,rfl⟩,q⟩
theorem AJ{K:Frag}(h:X.K=K):N4 X "list.index" (v8 K):=h▸DM
end
section
variable{K:Frag}{cl:Str->Addr}{E:XK}
noncomputable def oq(x:W)(S:ai):Option (List W):=match ig x S with
 | some (_,ds)=>some ds
 | none=>kQ x
theorem pi(sg:bm G H)(s:SR K ρ cl G H S)(dv:Dw K ρ G v x)(h:oq x S=some ds):∃p vs,v=.ref p/\c8 K H p vs/\az K ρ G vs ds:=by
 unfold oq at h;split at h
 . rename_i n ds' e;cases h;obtain⟨rfl,e2⟩:=cP e;obtain⟨a,rfl,ea⟩:=cY dv;obtain⟨ga,vs,k1,k2⟩:=s.addr e2 ea;exact⟨a,vs,rfl,c8.of k1,k2⟩
 . cases fP h;obtain⟨p,vs,rfl,sq,da⟩:=ya dv;exact⟨p,vs,rfl,sg.seq sq,da⟩
noncomputable def yq(x y:W)(S:ai):Option W:=(oq x S).bind λds=>(JF y).bind λv=>(w6 ds).bind λvs=>(vs.findIdx? λz=>yR z v).map λj=>.int (j:Nat)
noncomputable def nN(fo fk:DS->ai->SM W):DS->ai->SM W:=λδ S=>aq (fo δ S) λx S1=>if(oq x S1).isSome=true then aq (fk δ S1) λy S2=>iD (yq x y S2) S2 else none
theorem CO(ho:SE K cl E to fo)(hk:SE K cl E tk fk):SE K cl E (F4 K "list" (v8 K) to (dM tk gS)) (nN fo fk):=λρ G σ H δ S r S' Q R e q qx=>
 dQ ho R e (λx S1 e1 v ρ1 G1 H1 g1 s1 dv=>by
  split at e1
  case isFalse=>cases e1
  rename_i hx;obtain⟨ds0,h0⟩:=Vp.mp hx;obtain⟨p,vs0,rfl,sq0,_⟩:=pi g1.s s1 dv h0;refine⟨.inl ⟨rfl,vs0,sq0⟩,dQ hk (R.grow g1 s1) e1 (λy S2 e2 u ρ2 G2 H2 g2 s2 du=>?_) λc hc ρ2 G2 H2 g2 s2=>qx c hc _ G2 H2 (g1.trans g2) s2⟩;obtain⟨d,e3,rfl,rfl⟩:=bI e2;obtain⟨ds,e4,e3⟩:=oB e3
  obtain⟨w,e5,e3⟩:=oB e3
  obtain⟨ws,e6,e3⟩:=oB e3
  obtain⟨j,e7,rfl⟩:=oM e3
  obtain⟨p',vs,ep,sq,da⟩:=pi g2.s s2 ((dv.ext g2.r).same g2.g) e4;cases ep;obtain⟨rfl,f1⟩:=rQ du e5;obtain⟨rfl,f2⟩:=mq da e6;exact⟨p,vs,u,j,rfl,rfl,sq,f1,f2,e7,q _ rfl _ _ G2 H2 (g1.trans g2) s2 (.int _)⟩) qx
end
section
variable{prog:Program}{w:World}{A:Around}{E:Value->Shared->Prop}{s:Shared}
variable{es:Array DictEntry}{ep:Nat}{key:Value}{h:Int}{m:Nat->Bool}{d:Addr}{o:Obj}
end
section
variable{P:Program}{w:World}{A:Around}{E:Value->Shared->Prop}{s:Shared}
noncomputable def nD(ks:List bD):Nat:=ks.length+1
end
section
variable{P:Program}{w:World}{H:Hp}{h:Heap}{a:Addr}
end
section
variable{X:Cx}{pins:List (Addr×Obj)}{σ:St}{H:Hp}{s:Shared}{a:Addr}{kvs:List (List bD×V)}{ks:List bD}{y z:V}{u dv:Value}{A:Around}{E:Value->Shared->Prop}
end
section
variable{X:Cx}{o e f:Expr}{td ty tx:TE}{apos cpos pos:Pos}
end
section
variable{K:Frag}{cl:Str->Addr}{E:XK}
noncomputable def IP(K:Frag)(t:TE):TT:=λσ H Q=>t σ H λx H'=>∃k,L1 K x H' k/\Q k H'
theorem QJ(hK:X.K=K)(ha:PE X a ta)(he:∀whole,isTrue a X.env whole=(do let v <-whole;standAt a.pos;holding [v] (truthy v))):PT X a (IP K ta):=hK▸Du ha he
noncomputable def sm(f:DS->ai->SM W):DS->ai->SM Bool:=λδ S=>aq (f δ S) λx S1=>iD ((ig x S1).map λp=>!p.2.isEmpty) S1
theorem ID(h:SE K cl E t f):ST K cl E (IP K t) (sm f):=λρ G σ H δ S r S' Q R e q qx=>
 dQ h R e (λx S1 e1 v ρ1 G1 H1 g1 s1 dv=>by
  obtain⟨b,e2,rfl,rfl⟩:=bI e1;obtain⟨⟨n,ds⟩,e3,rfl⟩:=oM e2
  obtain⟨rfl,e4⟩:=cP e3;obtain⟨a,rfl,ea⟩:=cY dv;obtain⟨ga,vs,k1,k2⟩:=s1.addr e4 ea;have hl:vs.isEmpty=ds.isEmpty:=by
   have:=k2.length;cases vs <;> cases ds <;> simp_all
  exact⟨!ds.isEmpty,.inl ⟨vs,c8.of k1,by rw[hl]⟩,q _ rfl _ G1 H1 g1 s1⟩) qx
end
section
variable{P:Program}{w:World}{A:Around}{E:Value->Shared->Prop}{s:Shared}{d:Addr}{o:Obj}{es:Array DictEntry}{ep:Nat}
end
section
variable{K:Frag}{cl:Str->Addr}{E:XK}
end
section
variable{X:Cx}{K:Frag}
end
section
variable{K:Frag}{ρ:List Addr}
noncomputable def xy:W->Option Str
 | .str z=>some z
 | _=>none
theorem ku(h:xy d=some z):d=.str z:=by
 cases d <;> first | (cases h;rfl) | cases h
noncomputable def Qd(f:DS->Option W)(lo hi:DS->Option (Option Int)):DS->Option W:=λδ=>(f δ).bind λd=>(xy d).bind λz=>(lo δ).bind λl=>(hi δ).bind λu=>if z.length<=1000 then some (.str (Txt.slice z l u)) else none
theorem K7{lo hi:DS->Option (Option Int)}(h:DE K ρ t f)(hl:HD K ρ tl lo)(hh:HD K ρ th hi):DE K ρ (Og (λx lo hi H Q=>∃z,x=.str z/\z.length<=sizeLine/\Q (.str (Txt.slice z lo hi)) H) t tl th) (Qd f lo hi):=λG σ H δ d Q R e q=>by
 obtain⟨x,ed,e⟩:=oB e
 obtain⟨z,ee,e⟩:=oB e
 obtain⟨l,el,e⟩:=oB e
 obtain⟨u,eu,e4⟩:=oB e
 cases ku ee;by_cases hz:z.length<=1000
 . rw[Ul hz]at e4;cases e4;refine h G σ H δ _ _ R ed λv G1 H1 g1 dv=>hl G1 σ H1 δ l _ (R.grow g1) el λG2 H2 g2=>hh G2 σ H2 δ u _ ((R.grow g1).grow g2) eu λG3 H3 g3=>?_;cases rj dv;exact⟨z,rfl,UF hz (by decide),q _ G3 H3 (g1.trans (g2.trans g3)) (.str _)⟩
 simp_all
end
section
variable{K:Frag}{ρ:List Addr}
noncomputable def Hq(f:DS->Option (List W))(g:DS->Option W):DS->Option (List W):=λδ=>(f δ).bind λds=>(g δ).bind λy=>(Gw y).bind λk=>if(decide (0<=k)&&decide (k<=1000)&&decide (ds.length<=1000))=true then some (List.replicate k.toNat ds).flatten else none
theorem az.rep(h:az K ρ G vs ds):∀n,az K ρ G (List.replicate n vs).flatten (List.replicate n ds).flatten
 | 0=>.nil
 | n+1=>by
  exact h.app (az.rep h n)
theorem Kz(h:DO K ρ t f)(hg:DE K ρ u g):DO K ρ (qd NF t u) (Hq f g):=λG σ H δ ds Q R e q=>by
 obtain⟨es,e1,e⟩:=oB e
 obtain⟨y,e2,e⟩:=oB e
 obtain⟨k,e3,e4⟩:=oB e
 split at e4
 . rename_i hc;cases e4;cases qJ e3;simp only[Uz,UC]at hc;refine h G σ H δ es _ R e1 λp vs G1 H1 g1 h0 h1 h2 da=>hg G1 σ H1 δ _ _ (R.grow g1) e2 λv G2 H2 g2 dv=>?_;cases cQ dv;have hm:vs.length*k.toNat<=1000*1000:=Nat.mul_le_mul (by rw[da.length];exact hc.2) (by omega);refine⟨p,k,vs,rfl,rfl,g2.h _ _ h2,by omega,by omega,UF hm (by decide),λr hr=>?_⟩;have n:Nw H2 _ r (.lst (List.replicate k.toNat vs).flatten):=.of hr;have g12:=g1.trans g2;exact q r _ G2 _ (g12.trans (.nwO g2.s n)) (cR g12.h hr) (cR g2.s hr) n.2.2 ((da.same g2.g).rep _)
 . cases e4
end
section
variable{X:Cx}{K:Frag}
theorem Fp{ws:List Value}(ht:IsTup s.heap t ([]:List Value).toArray)(hb:IsTup s.heap b ws.toArray)(h0:Q (.ref b) s):wpAny (model prog w) A (binaryOp .Add (.ref t) (.ref b)) Q E s:=by
 obtain⟨⟨cls,dd,data,sl⟩,ho,hc,n,hd⟩:=id ht;obtain⟨⟨cls2,dd2,data2,sl2⟩,ho2,hc2,n2,hd2⟩:=id hb;subst hc hd hc2 hd2;exact concat_meets ⟨_,ho,rfl⟩ ⟨_,ho2,rfl⟩ noFill_tuple_add seq_tuple_add PySem.F.slot_tuple_add PySem.F.entry_tuple_add (PySem.F.args_tuple_add_2 _ _) (tuple_addW0 t b _ _ n n2 dd _ sl _ (by simp)) ⟨ho,ho2,h0⟩
noncomputable def J7(K:Frag):R2:=λx y H Q=>∃a b ys,x=.ref a/\y=.ref b/\fj K H a []/\fj K H b ys/\Q (.ref b) H
theorem HB:gz X (binaryOp .Add) (J7 X.K):=by
 intro pins s σ H x y v u Q I rx ry h;obtain⟨a,b,ys,rfl,rfl,ha,hb,q⟩:=h;cases rx;cases ry;obtain⟨its,r1,p1,_⟩:=I.tuple ha;obtain⟨its2,r2,p2,_⟩:=I.tuple hb;cases r1;exact Fp p1 p2 ⟨.ref b,H,I,rfl,q⟩
noncomputable def IX(K:Frag):R2:=λx y H Q=>CG K x y H Q∨J7 K x y H Q
theorem Qw(h:X.K=K):gz X (binaryOp .Add) (IX K):=by
 subst h;exact(HL rfl).or HB
noncomputable def Ag:W->W->Option W
 | .tuple [],.tuple b=>some (.tuple b)
 | x,y=>bp x y
theorem Ib:DR K ρ (IX K) Ag:=λG H x y d e c Q s hx hy hg q=>by
 unfold Ag at hg;split at hg
 . cases hg;obtain⟨p,vs,rfl,sq,da⟩:=qo hx;obtain⟨p2,vs2,rfl,sq2,da2⟩:=rF hy;cases da;exact .inr ⟨p,p2,vs2,rfl,rfl,s.tup (fj.of sq),s.tup (fj.of sq2),q _ G H (.refl s) (.tup sq2 da2)⟩
 . exact .inl (En G H x y d e c Q s hx hy hg q)
end
section
variable{K:Frag}{cl:Str->Addr}{E:XK}
end
noncomputable def MU(K:Frag)(mg:Str->Option Value)(x:Str)(ps:List Str)(us:List Value)(f:Addr)(fd:FuncData):Prop:=mg x=some (.ref f)/\PySem.W.keepIn K (.ref f)=true/\bA K fd ps []/\bA K fd ps us
noncomputable def Ce(R:Addr->FuncData->Prop)(P:Program)(w:World)(K:Frag)(mg:Str->Option Value)(base:Heap)(k:Nat)(ps:List Str)(sp:Sp):Prop:=∃f fd,R f fd/\eW P w K mg base FN k f fd ps sp
noncomputable def qf(R:Addr->FuncData->Prop)(K:Frag)(x q:Str)(st:Stmt):Prop:=∃f fd,Gk K x q st f fd/\R f fd
noncomputable abbrev fB(K:Frag)(mg:Str->Option Value)(x:Str)(ps:List Str)(us:List Value)(st:Stmt):Prop:=qf (MU K mg x ps us) K x x st
noncomputable abbrev gu(P:Program)(w:World)(K:Frag)(mg:Str->Option Value)(base:Heap)(x:Str)(ps:List Str)(us:List Value)(k:Nat)(sp:Sp):Prop:=Ce (MU K mg x ps us) P w K mg base k ps sp
section
variable{X:Cx}{x:Str}{o e:Expr}{es:List Expr}{t:TA}{ps:List Str}{us:List Value}{sp:Sp}{p pos:Pos}{K:Frag}{T:String}{name:Str}{r:V->List V->Hp->VK->Prop}{q:List V->Hp->VK->Prop}{to:TE}{apos:Pos}
noncomputable def IY(X:Cx)(x:Str)(us:List Value)(sp:Sp):Prop:=∃j k ps,Ce (MU X.K X.mg x ps us) X.prog X.w X.K X.mg X.base j ps sp/\dI k X.A/\j<=k
theorem Ti(h:∃us,IY X x us sp)(hg:Gl X x)(ha:PA X (e::es) t)(hd:(x==("__debug__" : Str))=false)
 (he:starEach (e::es) X.env=(false,eval e X.env)::starEach es X.env) (hp:(backTo pos (starEach es X.env)).any (·.1)=false):PE X (.Call (.Name x p) (e::es) [] pos) (uc sp [] E0 t):=by
 obtain⟨us,j,k,ps,⟨f,fd,⟨m,kp,b,_⟩,F⟩,hr,hl⟩:=h;exact zu (F.mono hl) hr hg m kp b .nil ER ha hd he hp
theorem Tx(h:IY X x [.none] sp)(hg:Gl X x)(ha:PA X (e::es) t)(hd:(x==("__debug__" : Str))=false)
 (he:starEach (e::es) X.env=(false,eval e X.env)::starEach es X.env) (hp:(backTo pos (starEach es X.env)).any (·.1)=false):PE X (.Call (.Name x p) (e::es) [] pos) (uc sp [.non] E0 t):=by
 obtain⟨j,k,ps,⟨f,fd,⟨m,kp,_,b⟩,F⟩,hr,hl⟩:=h;exact zu (F.mono hl) hr hg m kp b F1 ER ha hd he hp
noncomputable def QM(X:Cx)(T:String)(name:Str)(r:V->List V->Hp->VK->Prop):Prop:=∃id,PlainAttrs T/\Slot T name id/\typeOf (.builtin id)=pure (.type "method_descriptor")/\JE X id r
noncomputable def QB(X:Cx)(x:Str)(q:List V->Hp->VK->Prop):Prop:=∃id,bV X (.builtin id) q/\bootBuiltins x=some (.builtin id)
theorem Td:QM X "list" "append" mv:=⟨_,U9,PySem.F.slot_list_append,PySem.F.type_list_append,B8⟩
theorem SU:QM X "list" "extend" (lY X.K):=⟨_,U9,PySem.F.slot_list_extend,PySem.F.type_list_extend,xG⟩
theorem Tu:QM X "list" "pop" Mo:=⟨_,U9,PySem.F.slot_list_pop,PySem.F.type_list_pop,Lc⟩
theorem SJ(h:X.K=K):QB X "len" (Aa K):=⟨_,B6 h,PySem.boot_len⟩
theorem Tv:QB X "isinstance" Hh:=⟨_,tq,boot_isinstance⟩
theorem Sn(h:X.K=K):QB X "isinstance" (EM K):=⟨_,AN h,boot_isinstance⟩
theorem SK(h:X.K=K)(hm:QM X T name r)(ho:PE X o to)(hb:attributeBase o name X.env (eval o X.env)=eval o X.env)(hl:(apos.endLine==pos.line)=true):PE X (.Call (.Attribute o name apos) [] [] pos) (Hi K T r to):=by
 obtain⟨_,a,b,c,d⟩:=hm;exact GC h a b c d ho hb hl
theorem Tp(h:X.K=K)(hm:QM X T name r)(ho:PE X o to)(ha:PA X (e::es) t)(hb:attributeBase o name X.env (eval o X.env)=eval o X.env)
 (hf:((backTo pos (starEach (e::es) X.env)).all (λx=>!x.1)&&(backToKw pos (keywordEach [] X.env)).all (λx=>x.1.isSome)
  && decide ((e::es).length+([]:List Keyword).length+(if([]:List Keyword).isEmpty then 0 else 1)<30))=true)
 (hl:(apos.endLine==pos.line)=true) (hs:starEach (e::es) X.env=(false,eval e X.env)::starEach es X.env) (hp:(backTo pos (starEach es X.env)).any (·.1)=false):
 PE X (.Call (.Attribute o name apos) (e::es) [] pos) (F4 K T r to t):=by
 obtain⟨_,a,b,c,d⟩:=hm;exact LK h a b c d ho ha hb hf hl hs hp
theorem Tl(hq:QB X x q)(hg:Gl X x)(hm:X.mg x=none)(ha:PA X (e::es) t)(hn:x ≠ "__name__")(hd:(x==("__debug__" : Str))=false)
 (he:starEach (e::es) X.env=(false,eval e X.env)::starEach es X.env) (hp:(backTo pos (starEach es X.env)).any (·.1)=false):PE X (.Call (.Name x p) (e::es) [] pos) (vQ q t):=by
 obtain⟨_,a,b⟩:=hq;exact E5 a hg hm b ha hn hd he hp
theorem Tr(h:X.K=K)(hg:Gl X "list")(hm:X.mg "list" = none)(ha:PA X (e::es) t)
 (he:starEach (e::es) X.env=(false,eval e X.env)::starEach es X.env) (hp:(backTo pos (starEach es X.env)).any (·.1)=false):PE X (.Call (.Name "list" p) (e::es) [] pos) (vQ (uB K) t):=gy (sM h) hg hm boot_list ha (by decide) (by decide) he hp
end
section
variable{X:Cx}{x:Str}{us:List Value}{sp:Sp}{j k:Nat}{ps:List Str}{pos:Pos}
theorem R9(h:Ce (MU X.K X.mg x ps us) X.prog X.w X.K X.mg X.base j ps sp)(hr:dI k X.A)(hl:j<=k):IY X x us sp:=⟨j,k,ps,h,hr,hl⟩
theorem R5(h:Ce (MU X.K X.mg x ps us) X.prog X.w X.K X.mg X.base j ps sp)(hr:dI k X.A)(hl:j<=k):∃us,IY X x us sp:=⟨us,j,k,ps,h,hr,hl⟩
theorem T3(hg:Gl X "list")(hm:X.mg "list" = none):PE X (.Name "list" pos) (tC (.ty "list")):=mP hg hm boot_list rfl (by decide) (by decide)
theorem TD(hg:Gl X "int")(hm:X.mg "int" = none):PE X (.Name "int" pos) (tC (.ty "int")):=mP hg hm (by rfl:bootBuiltins _=some _) rfl (by decide) (by decide)
theorem T6(hg:Gl X "bool")(hm:X.mg "bool" = none):PE X (.Name "bool" pos) (tC (.ty "bool")):=mP hg hm boot_bool' rfl (by decide) (by decide)
theorem TB(hg:Gl X "tuple")(hm:X.mg "tuple" = none):PE X (.Name "tuple" pos) (tC (.ty "tuple")):=mP hg hm (by rfl:bootBuiltins _=some _) rfl (by decide) (by decide)
theorem Pr(h:b):a∨b∨c:=.inr (.inl h)
end
noncomputable def cN(N:List Str):List (Option Nat)->List Str->List Str
 | some i::r,u=>N.getD i "" :: cN N r u
 | _,u=>u
section
variable{X:Cx}{scope:Scope}{ix:List (Option Nat)}{z:Str}{zp:Pos}{iter elt:Expr}{ifs:List Expr}{wi:TI}{g:TG}{tc:TT}{te:TE}{pos py spos:Pos}{y:Str}{i:Nat}
theorem Ji(kind:scope.kind=.function)(nocell:(scope.names.all λy=>y.2 != .cell)=true)(locs:(scope.names.all λy=>y.2 != .local||scope.names.lookup y.1==some .local)=true)
 (free:(scope.names.all λy=>y.2 != .free||X.env.kindOf y.1==some .cell||X.env.kindOf y.1==some .free)=true) (len:ix.length=N.length) (nd:decide N.Nodup=true)
 (fr:((ix.zip N).all λp=>match p.1 with
  | none=>true
  | some i=>X.N[i]?==some p.2&&(X.env.kindOf p.2==some .cell||X.env.kindOf p.2==some .free)&&((relabel scope X.env).names.lookup p.2==some .cell||(relabel scope X.env).names.lookup p.2==some .free))=true):bR X scope N ix:=ym kind nocell locs free len (UN nd) fr
noncomputable abbrev To(X:Cx)(scope:Scope)(ix:List (Option Nat))(z:Str)(zp:Pos)(elt:Expr)(ifs:List Expr)(g:TG)(tc:TT)(te:TE):Prop:=∀(s₀:Shared)(H₀:Hp)(C:Addr)(ex:List Addr),(cN X.N ix [z]).Nodup->PG (bU X scope (cN X.N ix [z]) s₀ H₀ C ex) (.Name z zp) g/\yk (bU X scope (cN X.N ix [z]) s₀ H₀ C ex) ifs tc/\PE (bU X scope (cN X.N ix [z]) s₀ H₀ C ex) elt te
theorem N6(S:bR X scope (cN X.N ix [z]) ix)(hn:decide (cN X.N ix [z]).Nodup=true)(hc:X.calm=true)(hi:PI X (.Name z zp) iter wi)(hG:qW ix g)(hb:To X scope ix z zp elt ifs g tc te)
 (hs:∀x,foldedSetIterable iter X.env x=pure x):PE X (.ListComp elt [⟨.Name z zp,iter,ifs,0⟩] scope pos) (ph ix wi g tc te):=Ha S hc hi hG (λa b c d=>hb a b c d (UN hn)) hs
theorem Eu(hN:X.N.Nodup)(hi:X.N[i]?=some y)(hy:J6 X.env.scope y)(S:bR X scope (cN X.N ix [z]) ix)(hn:decide (cN X.N ix [z]).Nodup=true)(hc:X.calm=true)(hit:PI X (.Name z zp) iter wi)(hG:qW ix g)(hb:To X scope ix z zp elt ifs g tc te)
 (hsw:swapsWith (.ListComp elt [⟨.Name z zp,iter,ifs,0⟩] scope pos) (some (.Name y py)) spos.line X.env=pure true) (hs:∀x,foldedSetIterable iter X.env x=pure x) (hf:X.fn y=true∨X.env.scope.names.lookup y=some .local):
 PS X (.Assign [.Name y py] (.ListComp elt [⟨.Name z zp,iter,ifs,0⟩] scope pos) spos) (r9 (ph ix wi g tc te) (kO i)):=IA hN hi hy S hc hit hG (λa b c d=>hb a b c d (UN hn)) hsw hs hf
end
noncomputable abbrev RK(P:Program)(w:World)(K:Frag)(mg:Str->Option Value)(base:Heap)(N:List Str)(q:Str)(st:Stmt)(k:Nat)(t:TS):Prop:=∀(f:Addr)(cd:Value)(A:Around)(outer:List Env)(s:Shared)(H:Hp)(E:XK),N.Nodup->dI k (A.deeper (envOfC q (bf st) s.heap.objs.size f cd))->(A.deeper (envOfC q (bf st) s.heap.objs.size f cd)).units+64<cLine->(A.deeper (envOfC q (bf st) s.heap.objs.size f cd)).units+1<cLine->
 vR (yt FN P w K mg base N q (bf st) f cd A outer s H E).nox (cM st) t
section
variable{P:Program}{w:World}{K:Frag}{mg:Str->Option Value}{base:Heap}{cl:Str->Addr}{R:Addr->FuncData->Prop}{x q:Str}{st:Stmt}{N ps:List Str}{a n k:Nat}{t:TS}{sp:Sp}
theorem O7(D:qf R K x q st)(S:hZ N ps (bf st))(hl:∀vs H Q E,sp vs H Q E->vs.length=ps.length)(rd:∀vs H Q E,sp vs H Q E->t ({ nx:=λ_ H'=>Q V.non H',rt:=Q }:oi) (start N vs) H)
 (pe:RK P w K mg base N q st k t):Ce R P w K mg base (k+1) ps sp:=by
 obtain⟨f,fd,F,r⟩:=D;exact⟨f,fd,r,F.ok S hl λcd A outer s H vs Q E hr h=>⟨t,pe f cd A _ s H E S.nd hr hr.units hr.units1,rd vs H Q E h⟩⟩
theorem kF(D:qf R K x q st)(hg:g=cD a n fb)(de:∀ρ,pT K ρ t fb)
 (pe:RK P w K mg base N q st k t) (hN:N.length=n) (ha:ps.length=a) (S:hZ N ps (bf st)):Ce R P w K mg base (k+1) ps (oQ K g):=by
 subst hg ha;exact O7 D S (λvs H Q E h=>HX (λds d e=>tW e) h) (λvs H Q E h=>Rf hN de h) pe
theorem ci(D:qf R K x q st)(hg:g=aN a n fb)(de:nv K cl E0 t fb)
 (pe:RK P w K mg base N q st k t) (hN:N.length=n) (ha:ps.length=a) (S:hZ N ps (bf st)):Ce R P w K mg base (k+1) ps (eE K cl g):=by
 subst hg ha;exact O7 D S (λvs H Q E h=>Ig (λds S r e=>tM e) h) (λvs H Q E h=>PF hN de h) pe
theorem Ce.imp(h:Ce R P w K mg base k ps sp)(i:∀vs H Q E,sq vs H Q E->sp vs H Q E):Ce R P w K mg base k ps sq:=by
 obtain⟨f,fd,r,F⟩:=h;exact⟨f,fd,r,F.imp i⟩
theorem JH(D:qf R K x q st)(h:∀ds,g ds=none):Ce R P w K mg base k ps (oQ K g):=by
 obtain⟨f,fd,_,r⟩:=D;exact⟨f,fd,r,eW.no h⟩
theorem sf{F:Nat->Sp}(h0:Ce R P w K mg base (k+0) ps (F 0))(hs:∀n,Ce R P w K mg base (k+n) ps (F n)->Ce R P w K mg base (k+n+1) ps (F (n+1))):∀n,Ce R P w K mg base (k+n) ps (F n)
 | 0=>h0
 | n+1=>hs n (sf h0 hs n)
noncomputable def An(K:Frag)(x:Str)(st:Stmt)(dV:Value):Prop:=∃(f:Addr) (oc:Value) (od:Option Addr) (kV dc pm:Value) (an:Option Addr) (cd ct:Value) (sl:Array (Option Value)),
 PySem.W.nsIn K mainGlobals x=some (some (.ref f))/\K.lookup f=some ⟨oc,od,.func (PySem.W.fnOf x x (dH st) (cM st) (bf st) dV kV dc pm an cd ct),sl⟩/\PySem.W.codeIn K cd x=true/\PySem.W.keepIn K (.ref f)=true
theorem An.dn(X:K.In h)(G:h.Ns mainGlobals mg)(z:An K x st .none)(hb:∀(kV dc pm:Value)(an:Option Addr)(cd ct:Value)(us:List Value),us.length=ps.length->bindArgs (PySem.W.fnOf x x (dH st) (cM st) (bf st) .none kV dc pm an cd ct) ⟨us,[]⟩=pure (ps.zip us)):
 qf (MU K mg x ps []) K x x st:=by
 obtain⟨f,oc,od,kV,dc,pm,an,cd,ct,sl,m,l,c,kp⟩:=z;have b  := (y8 l c kp).binds hb;exact⟨f,_,mn l c kp,UH X G m,kp,b,b⟩
end
theorem Oa{X:Cx}{l r:List Stmt}{a b:Stmt}{ta:TS}{tb:TS}(e:l=a::b::r)(h1:PS X a ta)(h2:vR X (b::r) tb):vR X l (GE ta tb):=e▸FA h1 h2
section
variable{K:Frag}{cl:Str->Addr}{E:XK}
theorem uC{st:Stmt}{g:List W->ai->SM W}(D:qf R K x q st)(h:∀ds S,g ds S=none):Ce R P w K mg base k ps (eE K cl g):=by
 obtain⟨f,fd,_,r⟩:=D;exact⟨f,fd,r,eW.no0 h⟩
end
section
variable{prog:Program}{w:World}{A:Around}{E:Value->Shared->Prop}{s:Shared}{d it:Addr}{es:Array DictEntry}{ep i:Nat}
end
section
variable{K:Frag}{cl:Str->Addr}{E:XK}{ρ:List Addr}
end
section
variable{K:Frag}{cl:Str->Addr}{E:XK}
end
section
variable{X:Cx}{e:Expr}{es:List Expr}{t:TA}{p pos:Pos}
end
theorem boot_str':bootBuiltins "str" = some (.type "str"):=by rfl
section
variable{X:Cx}{pos:Pos}
theorem T0(hg:Gl X "str")(hm:X.mg "str" = none):PE X (.Name "str" pos) (tC (.ty "str")):=mP hg hm boot_str' rfl (by decide) (by decide)
end
section
variable{K:Frag}{cl:Str->Addr}{E:XK}
end
section
variable{X:Cx}
theorem RT:QB X "len" Ev:=⟨_,yj,PySem.boot_len⟩
theorem Rp:QM X "list" "extend" vJ:=⟨_,U9,PySem.F.slot_list_extend,PySem.F.type_list_extend,Bs⟩
theorem SV{K:Frag}(h:X.K=K)(hc:X.calm=true):QB X "all" (Mv K):=⟨_,AR h hc,boot_all⟩
end
section
variable{prog:Program}{w:World}{A:Around}{E:Value->Shared->Prop}{s:Shared}
end
section
variable{prog:Program}{w:World}{A:Around}{E:Value->Shared->Prop}{s:Shared}{a it:Addr}{o:Obj}{es:Array (Int×Value)}{ep sl i:Nat}{t:SetTable}
end
section
variable{prog:Program}{w:World}{A:Around}{E:Value->Shared->Prop}{s:Shared}{a:Addr}
end
section
variable{prog:Program}{w:World}{A:Around}{E:Value->Shared->Prop}{s:Shared}{a:Addr}
end
section
variable{prog:Program}{w:World}{A:Around}{E:Value->Shared->Prop}{s:Shared}{S I l:Addr}
end
section
variable{X:Cx}{K:Frag}{P:Program}{w:World}
end
section
variable{X:Cx}{E:XK}{C:Addr}{x:Str}{np cpos pos:Pos}{e:Expr}{es:List Expr}{t:TA}
end
section
variable{X:Cx}{CX:FU}{k:Nat}{f C:Addr}{fd:FuncData}{ps:List Str}{sp:Sp}{dvs:List V}{ds:List Value}{E:XK}{x m:Str}{p pos apos:Pos}{e o:Expr}{es:List Expr}{ta:TE}{t:TA}
end
section
variable{X:Cx}{k:Nat}{f C C1 C2:Addr}{fd:FuncData}{ps:List Str}{sp:Sp}{m n1 n2:Str}{apos cpos xpos pos p1 p2 q1 q2:Pos}{e o:Expr}{es:List Expr}{to:TE}{ta:TA}{t1 t2:TS}{b1 b2:Stmt}{l1 l2:List Stmt}{pl:Sem Bool}
end
section
variable{K:Frag}{cl:Str->Addr}{E:XK}
end
section
variable{A:Around}{E:Value->Shared->Prop}
theorem JX(hkey:(bd P w).is k key=true)(hm:jy P w s.heap d kvs)(hsz:kvs.length<=sizeLine)
 (hQ:∀h',jy P w h' d (stored kvs k v)->Heap.SameBut d s.heap h'->Q () { s with heap:=h',toks:=s.toks+1 }):wpAny (model P w) A (dictSet d key v) Q E s:=by
 obtain⟨o,es,ep,ho,hc,hd,he,hk,hp,hn⟩:=hm;have hes:es.size<=sizeLine:=by have e1:=hp.length;simp_all
 unfold dictSet;try with_reducible refine UQ ?_
 refine Uf ((bd P w).pyHash hkey ?_);unfold dictSetHashed;try with_reducible refine UQ ?_
 refine Uf (wpAny_dictFind_of  hkey ho hd hk ?_);have ix:(es.findIdx? λe=>(bd P w).is k e.key)=kvs.findIdx? λkv=>decide (kv.1=k):=by
  rw[<-hp.findIdx k];obtain⟨l⟩:=es;simp
 cases hi:es.findIdx? _ with
 | some i=>
  have an:=any_of_findIdx_some (ix▸hi);have hl:(es.toList.findIdx? λe=>(bd P w).is k e.key)=some i:=by rw[<-hi];obtain⟨l⟩:=es;simp
  have hm:=hp.modify hn hl v;refine Uf (wpAny_rule (Uf (wpAny_updateDict  ho hd (wpAny_point (hQ _ ?_ (VL ..))))));refine⟨_,_,ep,Vk _ ho (VM (Obj.data_mapDict hd _)),hc.mapDict _,Obj.data_mapDict hd _,by simpa using he,hk.modify _ _,?_,?_⟩
  . rw[stored,Ul an];obtain⟨l⟩:=es;simpa using hm
  . rw[stored,Ul an,keys_map_store];exact hn
 | none=>
  have nm:k∉kvs.map (·.1):=not_mem_of_findIdx_none (ix▸hi);have na:¬ (kvs.any λkv=>decide (kv.1=k))=true:=λz=>by
   obtain⟨kv,h1,h2⟩:=V0.mp z;exact nm (Vf.mpr ⟨kv,h1,UN h2⟩)
  have ha:=hp.append hkey ((bd P w).hash k) v;refine Uf (wpAny_rule (wpAny_updateDictKeys (hz:=hes) (s:={ s with toks:=s.toks+1 }) ho hd (hQ _ ?_ (VL ..))));refine⟨_,_,ep+1,Vk _ ho (VM (VE hd _)),hc.mapDictKeys _,VE hd _,by simp[he],hk.push hkey _,?_,?_⟩
  . rw[stored,UE na];obtain⟨l⟩:=es;simpa using ha
  . rw[stored,UE na,UX,VU];exact⟨hn,by simp,λx hx y hy z=>nm (by simp at hy;rw[<-hy,<-z];exact hx)⟩
theorem qM:∀(vs:List (Value×Value))(kvs acc:List (bD×Value))(s:Shared)(Q:PUnit->Shared->Prop),Carries (bd P w) vs kvs->jy P w s.heap d acc->acc.length+kvs.length<=sizeLine->
 (∀h' tk,jy P w h' d (merged acc kvs)->Heap.SameBut d s.heap h'->Q PUnit.unit { s with heap:=h',toks:=tk })->
 wpAny (model P w) A (forIn vs PUnit.unit λ(x:Value×Value) (_:PUnit)=>(do dictSet d x.1 x.2;pure (ForInStep.yield PUnit.unit):Sem (ForInStep PUnit))) Q E s
 | [],[],acc,s,Q,_,hm,_,hQ=>by
  exact Ut (hQ _ _ (by simpa[merged] using hm) (Heap.SameBut.refl _ _))
 | (key,v)::vs,(k,v')::kvs,acc,s,Q,hc,hm,hsz,hQ=>by
  obtain⟨hkey,rfl,hc'⟩:=hc;rw[Ud]at hsz;rw[List.forIn_cons];refine Uf (Uf (JX hkey hm (by omega) λh₁ hm₁ hs₁=>Ut ?_));refine qM vs _ (stored _ k v) _ Q hc' hm₁ (by have e:=stored_length_le acc k v;omega) λh' tk hm' hs'=>?_;exact hQ h' tk (by simpa[merged] using hm') (hs₁.trans hs')
 | [],_::_,_,_,_,hc,_,_,_=>hc.elim
 | _::_,[],_,_,_,hc,_,_,_=>hc.elim
end
theorem NK(h:Ou X pos keys values trs)(hall:keys.all (·.isSome)=true)(hl:keys.length=values.length)(h0:keys≠[])
 (h15:keys.length<=15):PE X (.Dict keys values pos) (J0 trs):=by
 intro pins s σ H Q I q;have hn:=I.hok.fresh (Ug _);have I1:=I.laid    (t':=s.toks) (λ_ _ q=>Uc _ q) (Ug _) (wU _ I.big);have hpl:=pairTrees_length _ _ X.env pos hall hl;have hpn:pairTrees _ _ _ _≠[]:=λhe=>by
  rw[he]at hpl
  grind
 rw[arm_eval_Dict,zip_pairTrees _ _ _ _ hall hl,dictDisplay_pairs _ hpn (by omega)];refine Uf (V3 (Uf ?_));refine Uf (wpAny_alloc ?_);refine Uf (UQ ?_);rw[Ul (by omega)];refine Uf (UU (wpAny_evalPairs_len (h pins _ σ _ _ I1 (q _ hn))) (λws s2 hy=>?_) λ_ _ e=>e);obtain⟨hvl,ps,H2,I2,rel,e,kvs,ep,lk,q2⟩:=hy;subst ep;obtain⟨rs,c,rk⟩:=qL (P:=X.prog) (w:=X.w) rel;obtain⟨z,hd,vs0,r0,dd⟩:=(show cH X.prog X.w H2 s2.heap s.heap.objs.size (.dK []) from I2.hok _ _ e)
 cases r0;have hz:(il [] kvs).length<=sizeLine:=by
  have h1:=kG kvs [];rw[VA]at h1;rw[VD];omega
 have hrs:rs.length=kvs.length:=(V2 rk).symm;refine UQ ?_;refine Uf (qM ws rs [] s2 _ c dd (by rw[VA,VD];omega) λh' tk dd' hs=>Ut (Ut (Ut ?_)));have he:∃q,h'.get? s.heap.objs.size=some q:=let ⟨q,_,_,hq,_⟩:=dd';⟨q,hq⟩;exact⟨.ref s.heap.objs.size,_,vt I2 (by rw[e];exact True.intro) hs he (Cu hz hd (rk.merge .nil) dd'),rfl,q2⟩
section
variable{K:Frag}{cl:Str->Addr}{E:XK}
noncomputable def C5:List (Str×(DS->Option W))->DS->Option (List (bD×W))
 | [],_=>some []
 | (k,f)::r,δ=>(f δ).bind λd=>(C5 r δ).map ((.inr k,d)::·)
noncomputable def yn(kvs more:List (bD×W)):List (bD×W):=more.foldl (λacc kv=>bL acc kv.1 kv.2) kvs
noncomputable def JL(kfs:List (Str×(DS->Option W))):DS->ai->SM W:=λδ S=>(C5 kfs δ).bind λkvs=>if kvs.length<=15 then some (.ok (.ref S.length),S++[.dK (yn [] kvs)]) else none
inductive J9(K:Frag):List (TE×TE)->List (Str×(DS->Option W))->Prop
 | nil:J9 K [] []
 | cons {k:Str} {t:TE} {f:DS->Option W} {trs:List (TE×TE)} {kfs:List (Str×(DS->Option W))}:(∀ρ,DE K ρ t f)->J9 K trs kfs->J9 K ((tC (.str k),t)::trs) ((k,f)::kfs)
theorem i7.merge:∀{more:List (bD×W)}{ms:List (bD×V)}{l:List (bD×W)}{m:List (bD×V)},i7 K ρ G more ms->i7 K ρ G l m->i7 K ρ G (yn l more) (il m ms):=by
 intro more ms l m h;induction h generalizing l m with
 | nil=>exact λh2=>h2
 | cons h1 _ ih=>exact λh2=>ih (h2.put h1)
theorem i7.extR(g:ρ <+: ρ'){l:List (bD×W)}(h:i7 K ρ G l m):i7 K ρ' G l m:=by
 induction h with
 | nil=>exact .nil
 | cons h1 _ ih=>exact .cons (h1.ext g) ih
theorem Ip(h:J9 K trs kfs):∀{ρ:List Addr}{G:Hp}{σ:St}{H:Hp}{δ:DS}{kvs:List (bD×W)}{Q:List (V×V)->Hp->Prop},Rl K ρ G H δ σ->C5 kfs δ=some kvs->
 (∀ms G' H',Gr G H G' H'->i7 K ρ G' kvs ms->Q (ms.map λkv=>(kV kv.1,kv.2)) H')->uX trs σ H Q:=by
 induction h with
 | nil=>
  intro ρ G σ H δ kvs Q R e q;cases e;exact q [] G H (.refl R.sub) .nil
 | @cons k t f trs kfs h1 _ ih=>
  intro ρ G σ H δ kvs Q R e q;obtain⟨d,e1,e⟩:=oB e
  obtain⟨r,e2,rfl⟩:=oM e
  refine h1 ρ G σ H δ d _ R e1 λv G1 H1 g1 dv=>?_;refine ih (R.grow g1) e2 λms G2 H2 g2 kv=>?_;exact q _ G2 H2 (g1.trans g2) (.cons (dv.same g2.g) kv)
theorem Gc(h:J9 K trs kfs):SE K cl E (J0 trs) (JL kfs):=λρ G σ H δ S r S' Q R e q qx=>by
 obtain⟨kvs,e1,e⟩:=oB e
 split at e
 case isFalse=>cases e
 rename_i h15;cases e;intro p hp;have n0:Nw H _ p (.dK []):=.of hp;have g0:Gr G H G _:=.nwO R.rl.sub n0;refine Ip h (R.rl.grow g0) e1 λms G2 H2 g2 kv=>?_;have hp2  := g2.h _ _ aC;have gp  := g2.n p (.of aC λ_ z=>by cases z) (cR R.rl.sub hp);refine⟨hp2,ms,rfl,by rw[<-kv.length];exact h15,?_⟩;let Hx  := λb=>if b=p then none else H2 b
 have hx:∀b,b≠p->Hx b=H2 b:=λb hb=>UE hb;have hxp:Hx p=none:=Ul rfl;have gx:Gr G H G2 Hx:=by
  refine⟨g2.g,λb o eb=>?_,λb o eb=>?_,λb hb=>?_⟩
  . have hb:b≠p:=λz=>by rw[z,hp]at eb;cases eb
    rw[hx b hb];exact g2.h _ _ (by rw[aE hb];exact eb)
  . have hb:b≠p:=λz=>by rw[z,gp]at eb;cases eb
    rw[hx b hb];exact g2.s _ _ eb
  . exact g2.n b (hb.same n0.1)
 have ex:cx H2 p (.dK (il [] ms))=cx Hx p (.dK (il [] ms)):=by
  funext b;by_cases hb:b=p
  . subst hb;rw[aC,aC]
  . rw[aE hb,aE hb,hx b hb]
 rw[ex];have sx:=R.st.grow gx;have n1:Nw Hx (cx Hx p (.dK (il [] ms))) p (.dK (il [] ms)):=.of hxp;obtain⟨s2,gg⟩:=sx.push (o:=.dK (yn [] kvs)) gx.s n1 λρ' hr=>⟨_,aC,i7.merge (kv.extR hr) .nil⟩
 exact q _ rfl _ _ _ _ ((GS.of gx).trans gg) s2 (.ref (by rw[<-R.st.len];simp))
end
noncomputable def DJ:List V->Hp->VK->Prop:=λxs H Q=>∃b:Bool,xs=[.bl b]/\Q (.int (if b then 1 else 0)) H
theorem AI:bV X (.type "int") DJ:=by
 intro pins s σ H xs us Q I r h;obtain⟨b,e,q⟩:=h;subst e;obtain⟨u,rfl,rb⟩:=jE r;cases rb;exact call_int_bool ⟨.int _,H,I.tok _,⟨_,rfl⟩,q⟩
theorem Rt(hg:Gl X "int")(hm:X.mg "int" = none)(ha:PA X (e::es) t)
 (he:starEach (e::es) X.env=(false,eval e X.env)::starEach es X.env) (hp:(backTo pos (starEach es X.env)).any (·.1)=false):PE X (.Call (.Name "int" p) (e::es) [] pos) (vQ DJ t):=gy AI hg hm (by rfl:bootBuiltins _=some _) ha (by decide) (by decide) he hp
noncomputable def JO:W->Option W
 | .bool b=>some (.int (if b then 1 else 0))
 | _=>none
noncomputable def pD(f:DS->Option W):DS->Option W:=λδ=>(f δ).bind JO
theorem Ga{K:Frag}(h:DE K ρ t f):DE K ρ (vQ DJ (dM t gS)) (pD f):=λG σ H δ d Q R e q=>by
 obtain⟨x,ex,e⟩:=oB e
 cases x <;> first | cases e
 rename_i b;exact h G σ H δ _ _ R ex λv G1 H1 g1 dv=>by
  cases dv;exact⟨b,rfl,q _ G1 H1 g1 (.int _)⟩
section
variable{K:Frag}{cl:Str->Addr}{E:XK}
end
section
variable{P:Program}{w:World}{K:Frag}{mg:Str->Option Value}{base:Heap}{cl:Str->Addr}{R:Addr->FuncData->Prop}{x q:Str}{st:Stmt}{N ps:List Str}{a n k:Nat}{t:TS}{sp:Sp}
end
section
variable{K:Frag}{cl:Str->Addr}{E:XK}
end
end L2
namespace L2
open PySem PySem.Spec PyProof.Rows
open PySem.W (Frag)
end L2
namespace L2
open PySem PySem.Spec PyProof.Rows
open PySem.W (Frag)
theorem Mw{K:Frag}(h:X.K=K)(ha:PE X o ta)(hv:PE X value tv)(hop:I0 X op rd):PS X (.AugAssign (.Attribute o f tpos) op value pos) (uY K ta tv rd f):=h▸Bi ha hv hop
theorem Ni{K:Frag}:pT K ρ Fj aH:=F9
noncomputable def pU(K:Frag)(a:Addr)(ws:List Str):Prop:=∀G,fj K G a (ws.map V.str)
theorem Kc{K:Frag}(hs:pU K a ws)(hd:d=.tuple (ws.map W.str))(ha:DK K ρ ta fa):DT K ρ (iA (qd (zt K false) ta (tC (.ref a)))) (aw iS fa (dC d)):=by
 subst hd;exact Le hs ha
theorem Bz{K:Frag}(hs:pU K a ws)(hd:d=.tuple (ws.map W.str))(ha:DK K ρ ta fa):DT K ρ (iA (qd (zt K true) ta (tC (.ref a)))) (aw i3 fa (dC d)):=by
 subst hd;exact Bg hs ha
end L2
namespace L2
open PySem PySem.Spec PyProof.Rows
open PySem.W (Frag)
theorem Dt(hg:Gl X x)(hm:X.mg x=some (.int i t))(hd:(x==("__debug__" : Str))=false):PE X (.Name x pos) (tC (.int i)):=pX hg hm ⟨_,rfl⟩ hd
section
variable{K:Frag}{cl:Str->Addr}{E:XK}
end
section
variable{prog:Program}{w:World}{A:Around}{E:Value->Shared->Prop}{s:Shared}
end
section
variable{prog:Program}{w:World}{A:Around}{E:Value->Shared->Prop}{s:Shared}{z TI TO T i1 i2 l1 l2:Addr}{f:Bool}{k1 k2:Nat}{xs ys:Array Value}{x y:Value}{oT:Obj}
end
section
variable{prog:Program}{w:World}{A:Around}{E:Value->Shared->Prop}{s:Shared}{z TI TO i1 i2 l1 l2 d:Addr}{xs ys:Array Value}
end
section
variable{K:Frag}{cl:Str->Addr}{E:XK}
end
section
variable{K:Frag}{ρ:List Addr}
end
section
variable{K:Frag}{cl:Str->Addr}{E:XK}
end
section
variable{prog:Program}{w:World}{A:Around}{E:Value->Shared->Prop}{s:Shared}
end
section
variable{K:Frag}{cl:Str->Addr}{E:XK}
inductive Np(K:Frag)(cl:Str->Addr)(E:XK):List (TE×TE)->List (Str×(DS->ai->SM W))->Prop
 | nil:Np K cl E [] []
 | cons {k:Str} {t:TE} {f:DS->ai->SM W} {trs:List (TE×TE)} {kfs:List (Str×(DS->ai->SM W))}:SE K cl E t f->Np K cl E trs kfs->Np K cl E ((tC (.str k),t)::trs) ((k,f)::kfs)
end
section
variable{K:Frag}{cl:Str->Addr}{E:XK}
end
theorem boot_sum':bootBuiltins "sum" = some (.builtin "sum"):=by rfl
theorem RA{K:Frag}(h:X.K=K)(hc:X.calm=true):QB X "sum" (zw K):=⟨_,Be h hc,boot_sum'⟩
noncomputable def Am(K:Frag)(c:Addr)(m q:Str)(st:Stmt):Prop:=∃(f:Addr) (oc:Value) (od:Option Addr) (kV dc pm:Value) (an:Option Addr) (cd ct:Value) (sl:Array (Option Value)),
 PySem.W.findIn K (.ref c) m=some (some (.ref f))/\PySem.W.isFn K (.ref f)=true/\K.lookup f=some ⟨oc,od,.func (PySem.W.fnOf m q (dH st) (cM st) (bf st) .none kV dc pm an cd ct),sl⟩/\PySem.W.codeIn K cd q=true/\PySem.W.keepIn K (.ref f)=true
noncomputable def Qc(K:Frag)(c:Addr):Prop:=PySem.W.plainGet K c Str.empty=true/\PySem.W.hasDictIn K c=true/\PySem.W.plainOver K c=true/\PySem.W.findIn K (.ref c) "__setattr__" = some (some (.builtin "object.__setattr__"))/\PySem.W.makesIn K c=true/\PySem.W.keepIn K (.ref c)=true
section
variable{K:Frag}{c:Addr}{m q:Str}{st:Stmt}{ps:List Str}
theorem Qc.cls(h:Qc K c):xx K c:=⟨h.1,h.2.1,h.2.2.1,h.2.2.2.1⟩
theorem Am.dn(z:Am K c m q st)(hb:∀(kV dc pm:Value)(an:Option Addr)(cd ct:Value)(us:List Value),us.length=ps.length->bindArgs (PySem.W.fnOf m q (dH st) (cM st) (bf st) .none kV dc pm an cd ct) ⟨us,[]⟩=pure (ps.zip us)):qf (λf fd=>gm K c m f/\bA K fd ps []) K m q st:=by
 obtain⟨f,oc,od,kV,dc,pm,an,cd,ct,sl,a,i,l,e,kp⟩:=z;exact⟨f,_,mn l e kp,⟨a,i,kp⟩,(y8 l e kp).binds hb⟩
theorem Am.mk(z:Am K c "__init__" q st)(h:Qc K c)(hb:∀(kV dc pm:Value)(an:Option Addr)(cd ct:Value)(us:List Value),us.length=ps.length->bindArgs (PySem.W.fnOf "__init__" q (dH st) (cM st) (bf st) .none kV dc pm an cd ct) ⟨us,[]⟩=pure (ps.zip us)):qf (λf fd=>Mk K c f/\bA K fd ps []) K "__init__" q st:=by
 obtain⟨f,oc,od,kV,dc,pm,an,cd,ct,sl,a,i,l,e,kp⟩:=z;exact⟨f,_,mn l e kp,⟨h.2.2.2.2.1,a,i,h.2.2.2.2.2⟩,(y8 l e kp).binds hb⟩
end
section
variable{X:Cx}{K:Frag}
end
structure M0(X:Cx)(o:Expr)(name:Str)(apos cpos:Pos):Prop where
 base:attributeBase o name X.env (eval o X.env)=eval o X.env
 line:(apos.endLine==cpos.line)=true
section
variable{K:Frag}{cl:Str->Addr}{E:XK}
end
section
variable{K:Frag}{cl:Str->Addr}{E:XK}
end
section
variable{X:Cx}{scope:Scope}{ix:List (Option Nat)}{z1 z2 z3:Str}{p1 p2 p3 tp:Pos}{tk:Nat}{iter elt:Expr}{ifs:List Expr}{wi:TI}{g:TG}{tc:TT}{te:TE}{pos py spos:Pos}{y:Str}{i:Nat}
end
section
variable{prog:Program}{w:World}{A:Around}{E:Value->Shared->Prop}{s:Shared}
end
section
variable{X:Cx}
end
section
variable{K:Frag}{cl:Str->Addr}{E:XK}
end
section
variable{X:Cx}{pins:List (Addr×Obj)}{σ:St}{H:Hp}{s:Shared}{scope:Scope}{N:List Str}{ix:List (Option Nat)}{y0:Str}
end
section
variable{X:Cx}{elt tg iter:Expr}{ifs:List Expr}{scope:Scope}{pos:Pos}{wi:TI}{g:TG}{tc:TT}{te:TE}{N:List Str}{ix:List (Option Nat)}{y0:Str}
end
section
variable{X:Cx}{scope:Scope}{N:List Str}{ix:List (Option Nat)}{z d0:Str}{zp:Pos}{iter elt:Expr}{ifs:List Expr}{wi:TI}{g:TG}{tc:TT}{te:TE}{pos py spos:Pos}{y:Str}{i:Nat}{k0:ScopeKind}{b1 b2:Bool}{m0:List (Str×Const)}{r:List (Str×NameKind)}
end
section
variable{X:Cx}{scope:Scope}{ix:List (Option Nat)}{z1 z2:Str}{p1 p2 tp:Pos}{tk:Nat}{iter elt:Expr}{ifs:List Expr}{wi:TI}{g:TG}{tc:TT}{te:TE}{pos:Pos}
end
section
variable{K:Frag}{ρ:List Addr}
end
section
variable{X:Cx}
end
section
variable{X:Cx}
end
section
variable{K:Frag}{cl:Str->Addr}{E:XK}{ρ:List Addr}
end
section
variable{K:Frag}{ρ:List Addr}
noncomputable def Oq:R2:=λx y H Q=>∃i j,x=.str i/\y=.str j/\Q (.bl (!(decide (j.cps.toList<i.cps.toList)))) H
theorem QT{X:Cx}:gz X (compareOp .LtE) Oq:=B3
noncomputable def BH:W->W->Option Bool
 | .str a,.str b=>some (!(decide (b.cps.toList<a.cps.toList)))
 | _,_=>none
theorem KP:DB K ρ Oq BH:=λH x y d e b Q hx hy hg q=>by
 unfold BH at hg;split at hg
 . cases hg;cases rj hx;cases rj hy;exact⟨_,_,rfl,rfl,q⟩
 . cases hg
noncomputable def Py(z:Str):List W:=z.cps.toList.map λc=>.str ⟨#[c]⟩
noncomputable def yu(f:DS->Option W):DS->Option (List W):=λδ=>(f δ).bind λd=>(xy d).bind λz=>if z.cps.all (· < 128)=true then some (Py z) else none
theorem KW(h:DE K ρ t f):DI K ρ (Oo t) (yu f):=λG σ H δ ds R' R e q=>by
 obtain⟨d,ed,e⟩:=oB e
 obtain⟨z,ez,e2⟩:=oB e
 cases ku ez;split at e2
 case isFalse=>cases e2
 rename_i ha;cases e2;refine h G σ H δ _ _ R ed λv G1 H1 g1 dv=>?_;cases dv;refine⟨z,rfl,ha,q _ G1 H1 g1 λi G2 H2 a b=>⟨λd hd=>?_,λhi=>?_⟩⟩
 . have hd':z.cps.toList[i]?.map (λc=>(W.str ⟨#[c]⟩))=some d:=by rw[<-UT];exact hd
   obtain⟨c,hc,rfl⟩:=oM hd'
   refine⟨show i<z.cps.size by have:=(oG hc).1;simpa using this,λx H' y=>?_⟩;obtain⟨rfl,c',hc',rfl⟩:=y;have:z.cps[i]?=some c:=by simpa using hc
   rw[this]at hc';cases hc';exact⟨G2,.refl b,.str _⟩
 . show z.cps.size<=i;simpa[Py] using hi
noncomputable def Pd(K:Frag)(ρ:List Addr)(r:V->List V->Hp->VK->Prop)(g:Str->W->Option W):Prop:=
 ∀(G H:Hp)(z:Str)(y:V)(e c:W)(Q:VK),bm G H->Pk K ρ G H y e->g z e=some c->(∀v G' H',Gr G H G' H'->Dw K ρ G' v c->Q v H')->r (.str z) [y] H Q
noncomputable def BN(g:Str->W->Option W)(fo fa:DS->Option W):DS->Option W:=λδ=>(fo δ).bind λx=>(xy x).bind λz=>(fa δ).bind λy=>g z y
theorem Pt(hm:Pd K ρ r g)(ho:DE K ρ to fo)(ha:DK K ρ t fa):DE K ρ (F4 K "str" r to (dM t gS)) (BN g fo fa):=λG σ H δ d Q R e q=>by
 obtain⟨x,ex,e⟩:=oB e
 obtain⟨z,ez,e2⟩:=oB e
 obtain⟨y,ey,e3⟩:=oB e2
 cases ku ez;refine ho G σ H δ _ _ R ex λv G1 H1 g1 dv=>?_;cases dv;exact⟨rfl,ha G1 σ H1 δ y _ (R.grow g1) ey λu G2 H2 g2 du=>hm G2 H2 z u y d Q g2.s du e3 λw G3 H3 g3 dw=>q w G3 H3 (g1.trans (g2.trans g3)) dw⟩
theorem az.strs:∀(ws:List Str),az K ρ G (ws.map V.str) (ws.map .str)
 | []=>.nil
 | n::r=>.cons (.str n) (az.strs r)
noncomputable def om(z:Str):W->Option W
 | .str y=>if(decide (y.length≠0)&&decide (z.length<=100000))=true then some (.list ((Txt.split z y).map .str)) else none
 | _=>none
theorem Eo:Pd K ρ yd om:=λG H z y e c Q s hy hg q=>by
 unfold om at hg;split at hg
 . split at hg
   . rename_i hc;cases hg;cases n5 hy;simp only[Uz,UC]at hc;exact⟨z,_,rfl,rfl,hc.1,hc.2,λp H' n=>q _ _ H' (.nw s n) (.lst (c8.of aC) (.strs _))⟩
   . cases hg
 . cases hg
noncomputable def mS:List W->Option (List Str)
 | []=>some []
 | d::ds=>(xy d).bind λz=>(mS ds).map (z::·)
theorem q0(h:az K ρ G vs ds):mS ds=some ws->vs=ws.map V.str:=
 h.ind (M:=λvs ds=>∀ws,mS ds=some ws->vs=ws.map V.str) (λws e=>by cases e;rfl) (λv _ d _ a ih ws e=>by
  obtain⟨z,e1,e⟩:=oB e
  obtain⟨r,e2,rfl⟩:=oM e
  cases ku e1;cases a;rw[ih r e2];rfl) ws
noncomputable def mJ(z:Str):W->Option W
 | .list ds=>(mS ds).bind λws=>if JoinOk z ws=true then some (.str (Txt.join z ws)) else none
 | _=>none
theorem FR:Pd K ρ (Cn K) mJ:=λG H z y e c Q s hy hg q=>by
 unfold mJ at hg;split at hg
 . obtain⟨ws,e1,hg⟩:=oB hg
   split at hg
   . rename_i hc;cases hg;obtain⟨p,vs,rfl,sq,da⟩:=jc s hy;cases q0 da e1;exact⟨z,p,ws,rfl,rfl,sq,hc,q _ G H (.refl s) (.str _)⟩
   . cases hg
 . cases hg
noncomputable def pY(z:Str):W->Option W
 | .str y=>some (.bool (Txt.startswith z y))
 | _=>none
theorem AS:Pd K ρ RW pY:=λG H z y e c Q s hy hg q=>by
 unfold pY at hg;split at hg
 . cases hg;cases n5 hy;exact⟨z,_,rfl,rfl,q _ G H (.refl s) (.bl _)⟩
 . cases hg
theorem Ql{X:Cx}:QM X "str" "split" yd:=⟨_,VX,PySem.F.slot_str_split,PySem.F.type_str_split,Db⟩
theorem RC{X:Cx}(h:X.K=K):QM X "str" "join" (Cn K):=⟨_,VX,PySem.F.slot_str_join,PySem.F.type_str_join,Iz h⟩
theorem OJ{X:Cx}:QM X "str" "startswith" RW:=⟨_,VX,PySem.F.slot_str_startswith,PySem.F.type_str_startswith,sH⟩
noncomputable def vZ:W->Option W
 | .str z=>if z.length<=640 then(PySem.intText? z).map .int else none
 | _=>none
theorem G7:Jx K ρ FD vZ:=λG H x d c Q s hx hg q=>by
 unfold vZ at hg;split at hg
 . split at hg
   . rename_i hz;obtain⟨n,e1,rfl⟩:=oM hg
     cases n5 hx;exact⟨_,n,rfl,e1,hz,q _ G H (.refl s) (.int _)⟩
   . cases hg
 . cases hg
noncomputable def Jr:List V->Hp->VK->Prop:=λxs H Q=>∃i,xs=[.int i]/\i.natAbs.log2<1920/\Q (.str (toString i)) H
noncomputable def yQ:W->Option W
 | .int i=>if i.natAbs<1000000000000 then some (.str (toString i)) else none
 | _=>none
theorem LD(h:n<1000000000000):Nat.log2 n<1920:=by
 by_cases h0:n=0
 . subst h0;decide
 . refine Ui ((Nat.log2_lt h0).mpr (Vv h (by decide:1000000000000<2^40))) (by decide)
theorem Im:Jx K ρ Jr yQ:=λG H x d c Q s hx hg q=>by
 unfold yQ at hg;split at hg
 . split at hg
   . rename_i hz;cases hg;cases vC hx;exact⟨_,rfl,LD hz,q _ G H (.refl s) (.str _)⟩
   . cases hg
 . cases hg
noncomputable def DW(K:Frag):List V->Hp->VK->Prop:=λxs H Q=>∃p ys,xs=[.ref p]/\((c8 K H p ys/\∀l,H l=none->Q (.ref l) (cx H l (.tup ys)))∨(fj K H p ys/\Q (.ref p) H))
noncomputable def y4:W->Option W
 | .list ds=>some (.tuple ds)
 | _=>none
theorem Cg:Jx K ρ (DW K) y4:=λG H x d c Q s hx hg q=>by
 unfold y4 at hg;split at hg
 . cases hg;obtain⟨p,vs,rfl,sq,da⟩:=jc s hx;refine⟨p,vs,rfl,.inl ⟨sq,λl hl=>?_⟩⟩;have n:Nw H (cx H l (.tup vs)) l (.tup vs):=.of hl;have g:=Gr.nw s n;exact q _ _ _ g (.tup aC (da.same g.g))
 . cases hg
end
section
variable{X:Cx}{K:Frag}{e:Expr}{es:List Expr}{t:TA}{p pos:Pos}
theorem Sv(hg:Gl X "int")(hm:X.mg "int" = none)(ha:PA X (e::es) t)
 (he:starEach (e::es) X.env=(false,eval e X.env)::starEach es X.env) (hp:(backTo pos (starEach es X.env)).any (·.1)=false):PE X (.Call (.Name "int" p) (e::es) [] pos) (vQ FD t):=gy vf hg hm (by rfl:bootBuiltins _=some _) ha (by decide) (by decide) he hp
theorem Rn(hg:Gl X "str")(hm:X.mg "str" = none)(ha:PA X (e::es) t)
 (he:starEach (e::es) X.env=(false,eval e X.env)::starEach es X.env) (hp:(backTo pos (starEach es X.env)).any (·.1)=false):PE X (.Call (.Name "str" p) (e::es) [] pos) (vQ Jr t):=gy vG hg hm (by rfl:bootBuiltins _=some _) ha (by decide) (by decide) he hp
theorem Tn(h:X.K=K)(hg:Gl X "tuple")(hm:X.mg "tuple" = none)(ha:PA X (e::es) t)
 (he:starEach (e::es) X.env=(false,eval e X.env)::starEach es X.env) (hp:(backTo pos (starEach es X.env)).any (·.1)=false):PE X (.Call (.Name "tuple" p) (e::es) [] pos) (vQ (DW K) t):=gy (h▸sV) hg hm (by rfl:bootBuiltins _=some _) ha (by decide) (by decide) he hp
end
section
variable{K:Frag}{cl:Str->Addr}{E:XK}
theorem jG.putO(I:jG K cl ρ0 G0 H0 ρ G H δ σ S)(h:δ[i]?=some (.own ds))(hp:σ[i]?=some (some (.ref p)))(g0:G p=none)(hH:H p=some (.lst vs0))(da:az K ρ G vs es):jG K cl ρ0 G0 H0 ρ G (cx H p (.lst vs)) (δ.set i (.own es)) σ S:=by
 have iv:Iv K ρ G G G H δ σ:=⟨I.rs.rl,⟨.refl _,I.rs.rl.sub,I.rs.rl.sub,λ_ _ e=>e⟩,λj q ds' k1 k2=>by
  obtain⟨o,m1,q',vs',rfl,m3,_⟩:=I.rs.rl.sl j _ k1;rw[k2]at m1;cases m1;exact m3⟩
 have iv2:=iv.put h hp g0 da;have np:=I.rs.ap i ds p h hp;have h0:=I.ow i p ds h hp;refine⟨⟨iv2.rl,⟨I.rs.st.len,I.rs.st.nd,λn ob en=>?_⟩,λj ds' q k1 k2=>?_⟩,⟨I.gs.r,I.gs.g,iv2.rl.sub,λb o hb e=>?_,λb hb=>?_,I.gs.n,I.gs.f,λb hb=>?_⟩,λj q ds' k1 k2=>?_⟩
 . obtain⟨a,k1,k2,k3⟩:=I.rs.st.ob n ob en;have ha:a≠p:=λz=>np (z▸UV k1);exact⟨a,k1,k2,k3.move (UZ _) (.refl _) (aE ha) λdx d1 d2=>⟨by
    rw[aE λz=>by rw[z,hH]at d2;cases d2];exact d2,d1⟩⟩
 . rcases cC k1 with⟨rfl,_,_⟩ | ⟨_,k1⟩
   . rw[hp]at k2;cases k2;exact np
   . exact I.rs.ap j ds' q k1 k2
 . rw[aE λz=>by rw[z,h0]at e;cases e];exact I.gs.h b o hb e
 . by_cases z:b=p
   . subst z;rw[aC];simp
   . rw[aE z];exact I.gs.k b hb
 . have z:b≠p:=λz=>hb.1 (by rw[z,h0]);have:=I.gs.t b hb;unfold nT at this ⊢;rw[aE z];exact this
 . rcases cC k1 with⟨rfl,_,_⟩ | ⟨_,k1⟩
   . rw[hp]at k2;cases k2;exact h0
   . exact I.ow j q ds' k1 k2
noncomputable def jW(i:Nat)(fv:DS->ai->SM W):DS->ai->SO:=λδ S=>(gR i δ).bind λds=>jz (fv δ S) λd S1=>if ds.length<sizeLine then some (.nx (δ.set i (.own (ds++[d]))),S1) else none
theorem zN(hv:SE K cl E tv fv):nv K cl E (oC (F4 K "list" mv (uW i) (dM tv gS))) (jW i fv):=λρ0 G0 H0 ρ G σ H δ S o S' D I e p=>by
 obtain⟨ds,eo,e⟩:=oB e
 have ho:=iK eo;obtain⟨o1,h1,q,vs,rfl,h3,h4,h5⟩:=I.rs.rl.sl i _ ho;refine⟨.ref q,h1,.inl ⟨rfl,vs,c8.of h4⟩,eP hv I e p λd S1 e1 v ρ1 G1 H1 g1 s1 dv=>?_⟩;split at e1
 case isFalse=>cases e1
 rename_i hz;cases e1;have I1:=I.grow g1 s1;obtain⟨o2,k1,q2,vs2,rfl,k3,k4,k5⟩:=I1.rs.rl.sl i _ ho;rw[h1]at k1;cases k1;exact⟨q,vs2,v,rfl,rfl,k4,by rw[k5.length];exact hz,p σ ρ1 G1 _ (I1.putO ho h1 k3 k4 (k5.app (.cons dv .nil)))⟩
noncomputable def qX(i:Nat)(fv:DS->ai->SM W):DS->ai->SO:=λδ S=>(gR i δ).bind λds=>jz (fv δ S) λd S1=>(kQ d).bind λes=>if ds.length+es.length<=sizeLine then some (.nx (δ.set i (.own (ds++es))),S1) else none
theorem zo(hv:SE K cl E tv fv):nv K cl E (oC (F4 K "list" (lY K) (uW i) (dM tv gS))) (qX i fv):=λρ0 G0 H0 ρ G σ H δ S o S' D I e p=>by
 obtain⟨ds,eo,e⟩:=oB e
 have ho:=iK eo;obtain⟨o1,h1,q,vs,rfl,h3,h4,h5⟩:=I.rs.rl.sl i _ ho;refine⟨.ref q,h1,.inl ⟨rfl,vs,c8.of h4⟩,eP hv I e p λd S1 e1 v ρ1 G1 H1 g1 s1 dv=>?_⟩;obtain⟨es,e2,e3⟩:=oB e1
 cases fP e2;split at e3
 case isFalse=>cases e3
 rename_i hz;cases e3;have I1:=I.grow g1 s1;obtain⟨o2,k1,q2,vs2,rfl,k3,k4,k5⟩:=I1.rs.rl.sl i _ ho;rw[h1]at k1;cases k1;cases dv with
 | lst sq da=>exact⟨q,_,vs2,_,rfl,rfl,k4,g1.s.seq sq,by rw[k5.length,da.length];exact hz,p σ ρ1 G1 _ (I1.putO ho h1 k3 k4 (k5.app da))⟩
end
noncomputable def N5(K:Frag)(mg:Str->Option Value)(n:Str)(a:Addr):Prop:=PySem.W.nsIn K mainGlobals n=some (some (.ref a))/\mg n=some (.ref a)
noncomputable def Ie(K:Frag)(mg:Str->Option Value):Prop:=∀n a,PySem.W.nsIn K mainGlobals n=some (some (.ref a))->mg n=some (.ref a)
theorem Nl{K:Frag}{mg:Str->Option Value}{ρ:List Addr}{n:Str}{a:Addr}(h:N5 K mg n a):DE K ρ (tC (.ref a)) (dC (.fn n)):=CV λ_=>.fn h.1
theorem KJ{X:Cx}{n:Str}{a:Addr}{p:Pos}(hg:Gl X n)(h:N5 X.K X.mg n a)(hd:(n==("__debug__" : Str))=false):PE X (.Name n p) (tC (.ref a)):=pX hg h.2 rfl hd
noncomputable def SW(X:Cx)(f:Addr)(sp:Sp):Prop:=∃j k fd ps,PySem.W.keepIn X.K (.ref f)=true/\bA X.K fd ps []/\eW X.prog X.w X.K X.mg X.base FN j f fd ps sp/\dI k X.A/\j<=k
noncomputable def Dd(sel:Addr->Sp->Prop)(i:Nat)(t:TA):TE:=λσ H Q=>∃f sp,σ[i]?=some (some (.ref f))/\sel f sp/\t σ H λvs H1=>sp (vs++[]) H1 Q E0
noncomputable abbrev SY:=List (Str×(List W->ai->SM W))
noncomputable def Pw(K:Frag)(cl:Str->Addr)(tab:SY):Addr->Sp->Prop:=λf sp=>∃n p,tab.lookup n=some p/\PySem.W.nsIn K mainGlobals n=some (some (.ref f))/\sp=eE K cl p
noncomputable def EY(X:Cx)(sel:Addr->Sp->Prop):Prop:=∀f sp,sel f sp->SW X f sp
section
variable{X:Cx}{sel:Addr->Sp->Prop}{i:Nat}{e:Expr}{es:List Expr}{t:TA}{x:Str}{p pos:Pos}
theorem NH(hN:X.N[i]?=some x)(hv:O0 X.env.scope x)(hs:EY X sel)(ha:PA X (e::es) t)(hd:(x==("__debug__" : Str))=false)(hcd:(x==("__classdict__" : Str))=false)
 (he:starEach (e::es) X.env=(false,eval e X.env)::starEach es X.env) (hp:(backTo pos (starEach es X.env)).any (·.1)=false):PE X (.Call (.Name x p) (e::es) [] pos) (Dd sel i t):=by
 intro pins s σ H Q I h;obtain⟨f,sp,e1,hsel,h⟩:=h;obtain⟨j,k,fd,ps,hk,hb,F,hr,hl⟩:=hs f sp hsel;refine Vi (bQ (Md hN hv hd hcd (pos:=p) pins s σ H (λv H1=>v=.ref f/\H1=H) I ⟨_,e1,rfl,rfl⟩) λu s1 hy0=>?_);obtain⟨v,H1,I1,r1,ev,eH⟩:=hy0;subst ev eH;obtain rfl:u=Value.ref f:=r1;refine VR I1.ok.mod.kin hk (bQ (ha _ _ s1 σ _ _ I1 h) λus s2 hy0=>?_) he hp;obtain⟨vs,H2,I2,r,q⟩:=hy0;refine⟨I2.kIn,?_⟩;exact uK (F.mono hl) hr hb .nil ER I2 r q
theorem Ec{us:List Value}{sp:Sp}{n:Str}{f:Addr}(h:IY X n us sp)(hN:Ie X.K X.mg)(hn:PySem.W.nsIn X.K mainGlobals n=some (some (.ref f))):SW X f sp:=by
 obtain⟨j,k,ps,⟨g,fd,⟨m,kp,b,_⟩,F⟩,hr,hl⟩:=h;rw[hN n f hn]at m;cases m;exact⟨j,k,fd,ps,kp,b,F,hr,hl⟩
theorem QO{K:Frag}{cl:Str->Addr}{n1 n2:Str}{p1 p2:List W->ai->SM W}(hK:X.K=K)(hN:Ie K X.mg)(h1:∃us,IY X n1 us (eE K cl p1))(h2:∃us,IY X n2 us (eE K cl p2)):EY X (Pw K cl [(n1,p1),(n2,p2)]):=by
 subst hK;obtain⟨_,h1⟩:=h1;obtain⟨_,h2⟩:=h2;rintro f sp ⟨n,p,e,hn,rfl⟩;simp only[List.lookup]at e;split at e
 . rename_i z;cases e;obtain rfl:n=n1:=by simpa using z
   exact Ec h1 hN hn
 . split at e
   . rename_i z;cases e;obtain rfl:n=n2:=by simpa using z
     exact Ec h2 hN hn
   . cases e
end
section
variable{K:Frag}{cl:Str->Addr}{E:XK}
noncomputable def RI:W->Option Str
 | .fn n=>some n
 | _=>none
theorem LA(h:RI d=some n):d=.fn n:=by cases d <;> first | (cases h;rfl) | cases h
noncomputable def yC(tab:SY)(i:Nat)(fa:DS->ai->SM (List W)):DS->ai->SM W:=λδ S=>(ac i δ).bind λx=>(RI x).bind λn=>(tab.lookup n).bind λp=>aM p fa δ S
theorem E9(h:SA K cl E t fa):SE K cl E (Dd (Pw K cl tab) i t) (yC tab i fa):=λρ G σ H δ S r S' Q R e q qx=>by
 obtain⟨x,ex,e1⟩:=oB e
 obtain⟨n,en,e2⟩:=oB e1
 obtain⟨p,ep,e3⟩:=oB e2
 cases LA en;have hs:∃a,σ[i]?=some (some (.ref a))/\PySem.W.nsIn K mainGlobals n=some (some (.ref a)):=by
  refine EQ (K:=K) (ρ:=ρ) (i:=i) G σ H δ (.fn n) (λv _=>∃a,v=.ref a/\PySem.W.nsIn K mainGlobals n=some (some (.ref a))) R.rl ex (λv G' H' g dv=>by
   cases dv with
   | fn z=>exact⟨_,rfl,z⟩) |>.elim λv hv=>?_
  obtain⟨h1,a,rfl,h2⟩:=hv;exact⟨a,h1,h2⟩
 obtain⟨a,h1,h2⟩:=hs;exact⟨a,_,h1,⟨n,p,ep,h2,rfl⟩,zv h ρ G σ H δ S r S' Q R e3 q qx⟩
end
noncomputable def Jh(K:Frag)(dA:Addr)(tab:List (Str×List Str)):Bool:=tab.all λp=>match PySem.W.nsIn K dA p.1 with
 | some (some (.ref a))=>match K.lookup a with
  | some o=>decide (o.cls=.type "tuple")&&l7 o p.2
  | _=>false
 | _=>false
structure vD(K:Frag)(P:Params)(dA:Addr)(tab:List (Str×List Str)):Prop where
 d:∃es n,K.lookup dA=some ⟨.type "dict", none,.dict es n,#[]⟩/\PySem.W.KeysLit P es.toList
 t:Jh K dA tab=true
 lo:(dA==sysModules)=false
theorem vD.get{K:Frag}{P:Params}(T:vD K P dA tab)(h:tab.lookup z=some ws):∃a o,PySem.W.nsIn K dA z=some (some (.ref a))/\K.lookup a=some o/\o.cls=.type "tuple" /\ l7 o ws=true:=by
 have hm:(z,ws)∈tab:=by
  revert h;clear T;induction tab with
  | nil=>intro h;cases h
  | cons p r ih=>
   intro h;obtain⟨k,w⟩:=p;simp only[List.lookup]at h;split at h
   . rename_i e;cases h;obtain rfl:z=k:=by simpa using e
     exact Ua
   . exact TY _ (ih h)
 have q:=UI.mp T.t _ hm;split at q
 . rename_i a e1;split at q
   . rename_i o e2;simp only[Uz,UC]at q;exact⟨a,o,e1,e2,q.1,q.2⟩
   . cases q
 . cases q
noncomputable def FY(K:Frag)(P:Params)(dA:Addr):Prop:=∃tab,vD K P dA tab
noncomputable def DZ(K:Frag)(dA:Addr)(tab:List (Str×List Str)):Prop:=∃P,vD K P dA tab
theorem RL{K:Frag}(h:vD K P dA tab):FY K P dA:=⟨_,h⟩
theorem NM{K:Frag}(h:vD K P dA tab):DZ K dA tab:=⟨_,h⟩
noncomputable def Kn(K:Frag)(dA:Addr):R2:=λx y H Q=>x=.ref dA/\∃z a,y=.str z/\PySem.W.nsIn K dA z=some (some (.ref a))/\Q (.ref a) H
theorem L5{X:Cx}{K:Frag}(hK:X.K=K)(T:vD K X.w.params dA tab):BR X (Kn K dA):=by
 subst hK;intro value slice pins s σ H x y v u Q I rx ry h hs;obtain⟨rfl,z,a,rfl,hn,q⟩:=h;obtain rfl:v=Value.ref dA:=rx;obtain⟨t,rfl⟩:=ry;obtain⟨es,n,hl,hk⟩:=T.d;have hm:=PySem.W.mapOf_K (prog:=X.prog) I.kIn hl hk;exact tail_any hm.typeIs slot_dict_getitem.lookup (wpAny_getItem_of (strKind_is X.prog X.w z t) hm (PySem.W.find_K hl hn) ⟨.ref a,H,I.tok _,rfl,q⟩) hs
theorem RN{X:Cx}{K:Frag}{x:Str}{p pos:Pos}{i:Expr}{ti:TE}(hK:X.K=K)(hg:Gl X x)(hm:X.mg x=some (.ref dA))(T:FY K X.w.params dA)(hi:PE X i ti)(hd:(x==("__debug__" : Str))=false)
 (hpl:∀o j,subscripted i false o j=operate [o,j] (getItem o j)):PE X (.Subscript (.Name x p) i pos) (qd (Kn K dA) (tC (.ref dA)) ti):=by
 obtain⟨_,T⟩:=T;exact Pc (L5 hK T) (pX hg hm rfl hd) hi hpl
noncomputable def Jo(K:Frag)(dA:Addr)(ti:TE):TE:=λσ H Q=>ti σ H λy H1=>∃z a,y=.str z/\PySem.W.nsIn K dA z=some (some (.ref a))/\Q (.bl false) H1
theorem QA{X:Cx}{K:Frag}{x:Str}{p pos:Pos}{i:Expr}{ti:TE}(hK:X.K=K)(hg:Gl X x)(hm:X.mg x=some (.ref dA))(T:FY K X.w.params dA)(hi:PE X i ti)(hd:(x==("__debug__" : Str))=false)(hb:behindInMarks .NotIn (.Name x p)=false):
 PT X (.Compare i [.NotIn] [.Name x p] pos) (tB (Jo K dA ti)):=by
 refine MK ?_ hb;obtain⟨_,T⟩:=T;subst hK;intro pins s σ H Q I h;refine bQ (hi _ s σ H _ I h) λiv s1 hy0=>?_;obtain⟨y,H1,I1,ry,z,a,rfl,hn,q⟩:=hy0;refine mR I1 hg hm ?_ hd;obtain⟨t,rfl⟩:=ry;obtain⟨es,n,hl,hk⟩:=T.d;have hm:=PySem.W.mapOf_K (prog:=X.prog) I1.kIn hl hk;refine wpAny_notIn_of (strKind_is X.prog X.w z t) T.lo hm ?_;rw[PySem.W.find_K hl hn];exact⟨.bl false,H1,I1.tok _,rfl,q⟩
section
variable{K:Frag}{ρ:List Addr}
noncomputable def yc(tab:List (Str×List Str))(f:DS->Option W):DS->Option (List W):=λδ=>(f δ).bind λd=>(xy d).bind λz=>(tab.lookup z).map λws=>ws.map .str
theorem KY(T:DZ K dA tab)(h:DE K ρ ti f):DI K ρ (Bt K (qd (Kn K dA) (tC (.ref dA)) ti)) (yc tab f):=λG σ H δ ds R' R e q=>by
 obtain⟨d,ed,e1⟩:=oB e
 obtain⟨z,ez,e2⟩:=oB e1
 obtain⟨ws,e3,rfl⟩:=oM e2
 cases ku ez;obtain⟨_,T⟩:=T;obtain⟨a,o,k1,k2,k3,k4⟩:=T.get e3;refine h G σ H δ _ _ R ed λv G1 H1 g1 dv=>?_;cases dv;have sq:∀{H:Hp},fj K H a (ws.map V.str):=kx k2 k3 k4;exact⟨rfl,z,a,rfl,k1,a,rfl,.inr ⟨⟨_,sq⟩,q _ G1 H1 g1 λi G2 H2 a b=>yJ b sq (.strs ws)⟩⟩
noncomputable def JA(tab:List (Str×List Str))(f:DS->Option W):DS->Option Bool:=λδ=>(f δ).bind λd=>(xy d).bind λz=>(tab.lookup z).map λ_=>false
theorem HZ(T:DZ K dA tab)(h:DE K ρ ti f):DT K ρ (tB (Jo K dA ti)) (JA tab f):=λG σ H δ b Q R e q=>by
 obtain⟨d,ed,e1⟩:=oB e
 obtain⟨z,ez,e2⟩:=oB e1
 obtain⟨ws,e3,rfl⟩:=oM e2
 cases ku ez;obtain⟨_,T⟩:=T;obtain⟨a,o,k1,k2,k3,k4⟩:=T.get e3;refine h G σ H δ _ _ R ed λv G1 H1 g1 dv=>?_;cases dv;exact⟨z,a,rfl,k1,_,rfl,q G1 H1 g1⟩
end
section
variable{K:Frag}{cl:Str->Addr}{E:XK}
noncomputable def jK(fo fk:DS->ai->SM W):DS->ai->SM W:=λδ S=>aq (fo δ S) λx S1=>if(wN x S1).isSome=true then aq (fk δ S1) λy S2=>(qV x y S2).bind λo=>some (.ok (o.getD .none),S2) else none
theorem Fa{to tk:TE}{fo fk:DS->ai->SM W}(ho:SE K cl E to fo)(hk:SE K cl E tk fk):SE K cl E (Fh to tk) (jK fo fk):=λρ G σ H δ S r S' Q R e q qx=>
 dQ ho R e (λx S1 e1 v ρ1 G1 H1 g1 s1 dv=>by
  split at e1
  case isFalse=>cases e1
  rename_i hx1;obtain⟨⟨n,kvs0⟩,hx0⟩:=Vp.mp hx1;obtain⟨rfl,h0⟩:=tw hx0;obtain⟨a,rfl,ea⟩:=cY dv;obtain⟨_,ws0,k0,_⟩:=s1.addr h0 ea;have R1:=R.grow g1 s1;refine⟨a,rfl,.inl ⟨ws0,.inl k0⟩,?_⟩;refine dQ hk R1 e1 (λy S2 e2 u ρ2 G2 H2 g2 s2 du=>?_) λc hc ρ2 G2 H2 g2 s2=>qx c hc ρ2 G2 H2 (g1.trans g2) s2;obtain⟨o,e4,e5⟩:=oB e2
  cases e5;have g12:=g1.trans g2;obtain⟨a',r',ez,h1,h2⟩:=qc g12.s s2 ((dv.ext g2.r).same g2.g) du e4;cases ez;refine⟨r',h1,?_⟩;cases o with
  | some d=>
   obtain⟨z',rfl,dz⟩:=h2;exact q _ rfl _ ρ2 G2 H2 g12 s2 dz
  | none=>
   rw[show r'=none from h2];exact q _ rfl _ ρ2 G2 H2 g12 s2 .non) qx
end
noncomputable def xD(m:List Str)(x:Str):List Str:=if m.any (·==x) then m else m++[x]
noncomputable def fst'(g:Nat->Str)(i:Nat):List Str:=((List.range i).map g).foldl xD []
theorem qU(g:Nat->Str)(i:Nat):fst' g (i+1)=xD (fst' g i) (g i):=by
 unfold fst';rw[List.range_succ,UX,List.foldl_append];rfl
theorem KH(g:Nat->Str)(i:Nat):(fst' g i).length<=i:=by
 induction i with
 | zero=>exact Ug _
 | succ i ih=>
  rw[qU];unfold xD;split
  . omega
  . simp;omega
theorem Gb(m:List Str)(x k:Str):(xD m x).any (·==k)=(m.any (·==k)||decide (k=x)):=by
 unfold xD;by_cases e:k=x
 . subst e;split <;> simp_all
 . have:(x==k)=false:=by simpa using λz=>e z.symm
   split <;> simp[e,this]
theorem zd(m:List Str)(x:Str):(xD m x).length=if m.any (·==x) then m.length else m.length+1:=by
 unfold xD;split <;> simp
noncomputable def Ik(P:Program)(w:World)(h:Heap)(a:Addr)(m:List Str):Prop:=h.SetOf (strKind P w) a (λk=>m.any (·==k)) m.length
theorem Ik.keep(h:Ik P w h1 a m)(k:∀o,h1.get? a=some o->h2.get? a=some o):Ik P w h2 a m:=by
 obtain⟨o,es,ep,t,e,r⟩:=h;exact⟨o,es,ep,t,k o e,r⟩
theorem Ks{P:Program}{w:World}{A:Around}{R:Result->Shared->Prop}{I S:Addr}{fp wr:List Addr}{Gs:Array GenState->Array GenState->Prop}{n:Nat}{Pv:Nat->Value->Prop}{St:Nat->Shared->Prop}
 (W:WalksS P w A.in1 I fp wr Gs n Pv St) (hS:S∉fp) (g:Nat->Str) (hg:∀i v,Pv i v->∃t,v=.str (g i) t) (hb:n+1<scanBound):∀(k i:Nat)(s:Shared),n-i=k->i<=n->St i s->Ik P w s.heap S (fst' g i)->
  (∀s',Moved (S::wr) Gs s s'->Ik P w s'.heap S (fst' g n)->R (.ok (.ret .none)) s')->codeAny (model P w) A (.builtin "set.update.loop" ⟨[.ref S,.ref I],[]⟩) R s:=by
 have hw:S∉wr:=λh=>hS (W.sub _ h);have sub:∀b∈wr,b∈S::wr:=λb hb=>TY _ hb;intro k;induction k with
 | zero=>
  intro i s hk hi hst hs hR;obtain rfl:i=n:=by omega
  refine codeAny_builtin F.entry_set_update_loop ?_;rw[Around.under_plainId F.plain_set_update_loop _];refine Uf (m:=pyNext (.ref I)) (W.done s _ _ hst λs' hm=>?_);show wpAny _ _ (ret Value.none) _ _ s';exact Ut (hR s' (hm.mono sub) (hs.keep λo e=>hm.heap S o hw e))
 | succ k ih=>
  intro i s hk hi hst hs hR;have hlt:i<n:=by omega
  refine codeAny_builtin F.entry_set_update_loop ?_;rw[Around.under_plainId F.plain_set_update_loop _];refine Uf (m:=pyNext (.ref I)) (W.item i s _ _ hlt hst λv s' hP hst' hm=>?_);obtain⟨t,rfl⟩:=hg i v hP;have hs':=hs.keep λo e=>hm.heap S o hw e;refine Uf (m:=holding [Value.str (g i) t] (setAdd S (.str (g i) t))) (UQ ?_);unfold setAdd;refine UQ (Uf ((strKind P w).pyHash (k:=g i) (strKind_is _ _ _ _) ?_));have room:(fst' g i).length+1<scanBound:=by have:=KH g i;omega
  refine wpAny_setAddHashed_of (knd:=strKind P w) (s:={ s' with toks:=s'.toks+1 }) (strKind_is _ _ _ _) rfl hs' room λh' hsb hS2=>?_;have hSi:Ik P w h' S (fst' g (i+1)):=SetOf_congr hS2 (λk=>by rw[qU,Gb]) (by rw[qU,zd]);refine Ut ⟨plainId_quiet F.plain_set_update_loop _,ih (i+1) _ (by omega) hlt (W.frame _ s' _ _ hst' (Nat.le_succ _) λb hb o e=>?_) hSi λs'' hm'' hS''=>?_⟩
  . rw[hsb.2 b λz=>hS (z▸hb)];exact e
  . refine hR s'' (Moved.trans W.gtrans ((hm.mono sub).then_heap (Nat.le_succ _) λb o hb e=>?_) hm'') hS'';rw[hsb.2 b λz=>hb (z▸Ua)];exact e
section
variable{prog:Program}{w:World}{A:Around}{E:Value->Shared->Prop}{s:Shared}
noncomputable abbrev vn(led:Bool):Obj:={ cls:=.type "set", dict:=none,data:=.set #[] 0 (.fresh 0 0 led) }
set_option maxHeartbeats 4000000 in
theorem Bj{l:Addr}{its:Array Value}{g:Nat->Str}{Q:Value->Shared->Prop}(hh:A.handled=none)(hl:s.heap.IsList l its)(hg:∀(i:Nat)(v:Value),its[i]?=some v->∃t,v=Value.str (g i) t)(hb:its.size+1<scanBound)
 (h:∀(h':Heap)(tk:Nat),Ik prog w h' s.heap.objs.size (fst' g its.size)->(∀b o,b<s.heap.objs.size->s.heap.get? b=some o->h'.get? b=some o)->Q (.ref s.heap.objs.size) { s with heap:=h',toks:=tk }):
 wpAny (model prog w) A (call (.type "set") [.ref l]) Q E s:=by
 obtain⟨c,tl,hmro⟩:=U2.mro;have m1:=U2.made;have m2:=U2.sub;refine wpAny_call (codeAny_of_tree ?_);show wpAny _ _ (callAny (.type "set") _) _ _ _;refine Ut ⟨Code.quiet_builtin _ (by decide +kernel),codeAny_builtin PySem.F.entry_type_call ?_⟩;rw[Around.under_plain (weight_type_call_type "set" [.ref l] []) rfl];have h1:=U2.notType;have h2:=U2.canCreate;have h3:=PySem.F.typeCall_set_1 (.ref l);repeat (any_goals (first | assumption | wp_step))
 refine VG (code_set_new_1 (.ref l) (E:=E) (Q₁:=λobj s1=>∃led,obj=.ref s.heap.objs.size/\s1={ s with heap:=s.heap.push (vn led) }) λled=>⟨led,rfl,rfl⟩) λr s1 hr=>?_;rcases r with e | fl
 . exact hr
 cases fl <;> try exact hr
 rename_i obj;obtain⟨led,rfl,rfl⟩:=hr;have hS:(s.heap.push (vn led)).get? s.heap.objs.size=some (vn led):=Uv _ rfl;have hT:Shared.TypeIs { s with heap:=s.heap.push (vn led) } (.ref s.heap.objs.size) "set" := ⟨_,hS,rfl⟩
 have h4:=U2.init.lookup;have h5:=U2.init.bind (.ref s.heap.objs.size);repeat (any_goals (first | assumption | wp_step))
 refine VG (codeAny_call_builtin (R:=wants (λr s2=>r=.none/\∃h' tk,s2={ s with heap:=h',toks:=tk }/\Ik prog w h' s.heap.objs.size (fst' g its.size)/\(∀b o,b<s.heap.objs.size->s.heap.get? b=some o->h'.get? b=some o)) E)
  U2.init.plain PySem.F.entry_set_init (check_set_init_1 hT ?_)) λr2 s2 hr2=>?_
 . obtain⟨⟨oc,od,oda,os⟩,hol,hcl,nl,hdl⟩:=hl;simp only at hcl hdl;subst hcl hdl;have hol':=Uc (vn led) hol;have k1:=PySem.F.sub_list_set;have k2:=PySem.F.sub_list_frozenset;have k3:(Value.type "list" == Value.type "dict")=false:=by decide
   have hl1:(s.heap.push (vn led)).IsList l its:=⟨_,hol',rfl,nl,rfl⟩
   unfold Builtin.«set.__init__» noKeywords Builtin.Frozenset.updateFrom;generalize hPI:pyIter=PI
   wp_walk
   subst hPI;refine Vo hl1 (Uf (wpAny_runValue ?_));have hlS:l<s.heap.objs.size:=Um hol;have hneI:l≠(s.heap.push (vn led)).objs.size:=by rw[Vq];exact Uy (Nat.lt_succ_of_lt hlS)
   have hSf:s.heap.objs.size∉[(s.heap.push (vn led)).objs.size,l]:=by
    rw[Vq];simp only[Ub,U6,Wb,not_or];exact⟨Uy (UY _),Wc hlS⟩
   have hbb:its.size+1<scanBound:=hb;refine Ks (n:=its.size) (S:=s.heap.objs.size) ((Walks.list (by simp[hh]) _ l hneI its).toS) hSf g (λi v hv=>hg i v hv) hbb its.size 0 _ (Nat.sub_zero _) (Vn _) ⟨⟨_,Uv _ rfl,rfl,rfl⟩,hl1.push _⟩ ?_ ?_
   . exact SetOf_congr ((setObjOf_fresh (knd:=strKind prog w) led).setOf (Uc _ hS) (by unfold scanBound;omega)) (λ_=>rfl) rfl
   . intro s' hm hs';obtain⟨h',g',d',tk',os'⟩:=s';obtain rfl:g'=s.gens:=hm.gens;obtain rfl:d'=s.drawn:=hm.drawn;obtain rfl:os'=s.os:=hm.os;refine Ut (a:=_) ?_;refine Ut (a:=_) ⟨rfl,h',tk',rfl,hs',λb o hb e=>?_⟩;have n1:b≠s.heap.objs.size:=Uy hb;have n2:b≠(s.heap.push (vn led)).objs.size:=by rw[Vq];exact Uy (Nat.lt_succ_of_lt hb)
     exact hm.heap b o (λz=>(Ub.mp z).elim n1 λz=>n2 (UB.mp z)) (Uc _ (Uc _ e))
 . rcases r2 with e | fl
   . exact hr2
   cases fl <;> try exact hr2
   rename_i r;obtain⟨rfl,h',tk,rfl,a,b⟩:=hr2;repeat (any_goals (first | assumption | wp_step))
   exact h _ _ a b
end
noncomputable def Dq(a:Addr)(n:Nat):Heap->Prop:=λh=>∃o es ep t,h.get? a=some o/\o.ExactSet/\o.data=.set es ep t/\t.fits es.size=true/\es.size=n
noncomputable def E2(K:Frag):List V->Hp->VK->Prop:=λxs H Q=>∃(p:Addr) (ws:List Str),xs=[.ref p]/\c8 K H p (ws.map V.str)/\ws.length<1000/\∀l,H l=none->Q (.ref l) (cx H l (.ext (Dq l (ws.foldl xD []).length)))
theorem Gm(ws:List Str):fst' (λi=>ws.getD i "") ws.length=ws.foldl xD []:=by
 unfold fst';congr 1;refine List.ext_getElem (by simp) λi h1 h2=>?_;simp[h2]
theorem yL{X:Cx}{K:Frag}(h:X.K=K)(hc:X.calm=true):bV X (.type "set") (E2 K):=by
 subst h;intro pins s σ H xs us Q I r h;obtain⟨p,ws,rfl,hq,hl,q⟩:=h;obtain⟨u,rfl,rx⟩:=jE r;cases rx;obtain⟨its,r',pl,hz⟩:=I.list hq;have hlen:=r'.length;rw[Uj]at hlen;refine Bj (g:=λi=>ws.getD i "") (I.ok.hd hc) pl.isList (λi v hv=>?_) (by simp only[UG,<-hlen];unfold scanBound;omega) λh' tk hs hk=>?_
 . have hi:its[i]?=some v:=by simpa using hv
   have hi2:i<ws.length:=by rw[hlen];exact(oG hi).1
   obtain⟨u,e1,t,e2⟩:=r'.get (i:=i) (x:=.str ws[i]) (by simp[hi2]);rw[hi]at e1;cases e1;exact⟨t,by rw[e2];simp[hi2]⟩
 . have hs:Ik X.prog X.w h' s.heap.objs.size (ws.foldl xD []):=by
    have h0:its.toArray.size=ws.length:=by rw[UG,hlen]
    rw[h0,Gm]at hs;exact hs
   have kp:∀b o,s.heap.get? b=some o->h'.get? b=some o:=λb o e=>hk b o (Um e) e;have new:cH X.prog X.w (cx H s.heap.objs.size (.ext (Dq s.heap.objs.size (ws.foldl xD []).length))) h' s.heap.objs.size (.ext (Dq s.heap.objs.size (ws.foldl xD []).length)):=by
    obtain⟨o,es,ep,t,e,hex,hd,_,_,_,hf,hm⟩:=hs;exact⟨⟨o,es,ep,t,e,hex,hd,hf,hm⟩,⟨o,e⟩,λh1 h2 ⟨o,es,ep,t,e,r⟩ k=>⟨o,es,ep,t,k _ e,r⟩⟩
   exact⟨.ref _,_,I.laid kp (Ug _) new,rfl,q _ I.fresh⟩
noncomputable def Ew:List V->Hp->VK->Prop:=λxs H Q=>∃l n,xs=[.ref l]/\H l=some (.ext (Dq l n))/\n<1000/\Q (.int n) H
theorem Bx{X:Cx}:bV X (.builtin "len") Ew:=by
 intro pins s σ H xs us Q I r h;obtain⟨l,n,rfl,hl,hn,q⟩:=h;obtain⟨u,rfl,rx⟩:=jE r;cases rx;obtain⟨⟨o,es,ep,t,e,hex,hd,hf,hm⟩,_,_⟩:=I.hok l _ hl;refine call_len_set e hex hd hf (by omega) ⟨.int _,H,I.tok _,⟨_,by rw[hm]⟩,q⟩
section
variable{K:Frag}{ρ:List Addr}
noncomputable def mK(f:DS->Option W):DS->Option W:=λδ=>(f δ).bind λd=>(kQ d).bind λds=>(mS ds).bind λws=>if ws.length<1000 then some (.int (ws.foldl xD []).length) else none
theorem MC(ws:List Str):∀m:List Str,(ws.foldl xD m).length<=m.length+ws.length:=by
 induction ws with
 | nil=>intro m;exact Ug _
 | cons x ws ih=>
  intro m;refine UF (ih _) ?_;rw[zd];split <;> simp <;> omega
theorem A7(h:DE K ρ t f):DE K ρ (vQ Ew (dM (vQ (E2 K) (dM t gS)) gS)) (mK f):=λG σ H δ d Q R e q=>by
 obtain⟨x,ex,e1⟩:=oB e
 obtain⟨ds,e2,e3⟩:=oB e1
 obtain⟨ws,e4,e5⟩:=oB e3
 cases fP e2;split at e5
 case isFalse=>cases e5
 rename_i hl;cases e5;refine h G σ H δ _ _ R ex λv G1 H1 g1 dv=>?_;cases dv with
 | lst sq da=>
  cases q0 da e4;refine⟨_,ws,rfl,g1.s.seq sq,hl,λl hn=>⟨l,_,rfl,aC,by have:=MC ws [];simp at this;omega,?_⟩⟩;have n:Nw H1 (cx H1 l (.ext (Dq l (ws.foldl xD []).length))) l _:=.of hn;exact q _ G1 _ (g1.trans (.nwO g1.s n)) (.int _)
end
section
variable{X:Cx}{K:Frag}{e:Expr}{es:List Expr}{t:TA}{p pos:Pos}
theorem RF(h:X.K=K)(hc:X.calm=true)(hg:Gl X "set")(hm:X.mg "set" = none)(ha:PA X (e::es) t)
 (he:starEach (e::es) X.env=(false,eval e X.env)::starEach es X.env) (hp:(backTo pos (starEach es X.env)).any (·.1)=false):PE X (.Call (.Name "set" p) (e::es) [] pos) (vQ (E2 K) t):=gy (yL h hc) hg hm (by rfl:bootBuiltins _=some _) ha (by decide) (by decide) he hp
theorem Sw{X:Cx}:QB X "len" Ew:=⟨_,Bx,PySem.boot_len⟩
end
section
variable{K:Frag}{cl:Str->Addr}{E:XK}
noncomputable def Lv(fa fb:DS->ai->SM W):DS->ai->SM W:=λδ S=>aq (fa δ S) λx S1=>aq (fb δ S1) λy S2=>(kQ x).bind λds=>(Gw y).bind λi=>some (.ok (.list (dS ds none (some i))),S2)
theorem LJ(ha:SE K cl E ta fa)(hb:SE K cl E tb fb):SE K cl E (Og (Ds K) ta vz (Do tb)) (Lv fa fb):=λρ G σ H δ S r' S' Q R e q qx=>
 gM ha hb R e (λx y S2 e2 v u ρ2 G2 H2 g2 s2 dv du=>by
  obtain⟨ds,e4,e3⟩:=oB e2
  obtain⟨i,e5,e7⟩:=oB e3
  cases qJ e5;cases fP e4;cases cQ du;cases e7;cases dv with
  | @lst a vs _ sq da=>
   refine⟨i,rfl,a,vs,rfl,g2.s.seq sq,λp H' n=>?_⟩;have g3:=Gr.nw g2.s n;exact q _ rfl _ ρ2 _ H' (g2.trans (.of g3)) (s2.grow g3) (.lst (c8.of aC) ((da.cut _ _).same g3.g))) qx
end
theorem Ka{K:Frag}(hd:d=.tuple (ws.map W.str))(hs:pU K a ws)(ha:DK K ρ ta fa):DT K ρ (iA (qd (zt K false) ta (tC (.ref a)))) (aw iS fa (dC d)):=Kc hs hd ha
theorem Bb{K:Frag}(hd:d=.tuple (ws.map W.str))(hs:pU K a ws)(ha:DK K ρ ta fa):DT K ρ (iA (qd (zt K true) ta (tC (.ref a)))) (aw i3 fa (dC d)):=Bz hs hd ha
section
variable{X:Cx}{K:Frag}{y:Str}{i:Nat}{te:TE}{elt:Expr}{gs:List Comprehension}{scope:Scope}{pos py spos:Pos}
theorem QK(h:X.K=K):QM X "list" "index" (v8 K):=⟨_,U9,PySem.F.slot_list_index,PySem.F.type_list_index,AJ h⟩
theorem CY(hw:swapsWith (.ListComp elt gs scope pos) (some (.Name y py)) spos.line X.env=pure false)(hN:X.N.Nodup)(hi:X.N[i]?=some y)(hy:J6 X.env.scope y)(he:PE X (.ListComp elt gs scope pos) te)(hf:X.fn y=true∨X.env.scope.names.lookup y=some .local):
 PS X (.Assign [.Name y py] (.ListComp elt gs scope pos) spos) (r9 te (kO i)):=Me hN hi hy he hw hf
end
variable{K:Frag}{cl:Str->Addr}{E:XK}{ρ0 ρ:List Addr}{G0 H0 G H:Hp}{δ:DS}{σ:St}{S S':ai}{D:oi}{o:wz}
theorem Iw{t:TA}{f:DS->ai->SM (List W)}{k:List W->ai->SO}(h:SA K cl E t f){P:List V->Hp->Prop}(I:jG K cl ρ0 G0 H0 ρ G H δ σ S)(e:jz (f δ S) k=some (o,S'))(p:EZ K cl E ρ0 G0 H0 D S' o)
 (q:∀d S1,k d S1=some (o,S')->∀v ρ' G' H',GS ρ G H ρ' G' H'->SR K ρ' cl G' H' S1->az K ρ' G' v d->P v H'):t σ H P:=by
 rcases mI e with⟨c,em,rfl⟩ | ⟨d,S1,em,e⟩
 . exact h ρ G σ H δ S _ _ _ I.rs em (λd hd=>by cases hd) λc' hc ρ1 G1 H1 g1 s1=>by cases hc;exact p _ G1 H1 (I.gs.trans g1) s1
 . exact h ρ G σ H δ S _ _ _ I.rs em (λd' hd=>by cases hd;exact q _ _ e) (λc' hc=>by cases hc)
noncomputable def zD(i:Nat)(f:DS->ai->SM (List W)):DS->ai->SO:=λδ S=>jz (f δ S) λds S1=>if ds.length<=sizeLine then some (.nx (δ.set i (.own ds)),S1) else none
theorem DY{t:TA}{f:DS->ai->SM (List W)}{i:Nat}(h:SA K cl E t f):nv K cl E (r9 (zO t) (kO i)) (zD i f):=λρ0 G0 H0 ρ G σ H δ S o S' D I e p=>
 Iw h I e p λds S1 e1 vs ρ1 G1 H1 g1 s1 da=>by
  split at e1
  case isFalse=>cases e1
  rename_i hz;cases e1;refine⟨by rw[da.length];exact hz,λq H' n=>?_⟩;have I1:=I.grow g1 s1;have gO:Gr G1 H1 G1 H':=.nwO g1.s n;have I2:=I1.grow (.of gO) (s1.grow gO);have isE:∀{j:Nat}{es:List W},δ[j]?=some (.own es)->σ[j]?≠some (some (.ref q)):=λ{j es} h1 h2=>by
   obtain⟨o,k1,q1,vs1,k2,k3,k4,_⟩:=I1.rs.rl.sl j _ h1;rw[h2]at k1;cases k1;cases k2;rw[n.2.1]at k4;cases k4
  have nr:q∉ρ1:=λhq=>by
   obtain⟨j,hj,ej⟩:=VF.mp hq;obtain⟨b,m1,m2,m3⟩:=I1.rs.st.ob j (S'[j]'(by rw[<-I1.rs.st.len];exact hj)) (Uu _);rw[Uu hj,ej]at m1;cases m1;obtain⟨y,hy,_⟩:=m3.some;rw[n.2.1]at hy;cases hy
  refine p _ ρ1 G1 H' ⟨⟨I2.rs.rl.setO (cR g1.s n.2.1) n.2.2 da (λj es _ h1 h2=>isE h1 h2),I2.rs.st,λj es p' h1 h2=>?_⟩,I2.gs,λj p' es h1 h2=>?_⟩
  . rcases cC h1 with⟨rfl,_,hl⟩ | ⟨ne,h1⟩
    . rw[ji (by have:=I2.rs.rl.len;omega)]at h2;cases h2;exact nr
    . rw[Ux ne]at h2;exact I2.rs.ap j es p' h1 h2
  . rcases cC h1 with⟨rfl,_,hl⟩ | ⟨ne,h1⟩
    . rw[ji (by have:=I2.rs.rl.len;omega)]at h2;cases h2;cases h3:H0 q with
      | none=>rfl
      | some u=>exact absurd n.2.1 (I1.gs.k q (by rw[h3];simp))
    . rw[Ux ne]at h2;exact I2.ow j p' es h1 h2
end L2
set_option Elab.async false
set_option linter.all false
set_option maxRecDepth 100000
namespace My
open PySem PySem.Spec PyProof.Rows L2
open PySem.W (Frag)
local macro_rules
 | `($x:num[$i:num]!)=>`(aF aW (ao $x) (dC (.int $i)))
 | `(!$x:num)=>`(dC (.int $x))
 | `(!$x:str)=>`(dC (.str $x))
 | `(#[$a,*])=>do
  let mut r<-`(ah)
  for x in a.getElems.reverse do r<-`(ab $x $r)
  return r
local macro_rules | `(tactic| simp! [$a,*] $[$l]?)=>`(tactic| simp only [Nat.reduceAdd,Nat.reduceSub,reduceIte,Nat.reduceEqDiff,List.replicate,$a,*] $[$l]?)
noncomputable def eF(i:Nat):Stmt:=PySem.Challenge.pw_widelanes_k24_rows_of_defs.main.body.getD i (.Pass ⟨0,0,0,0⟩)
noncomputable abbrev pF:Stmt:=eF 1
noncomputable abbrev rG:Stmt:=eF 2
noncomputable abbrev iB:Stmt:=eF 3
noncomputable abbrev qz:Stmt:=eF 4
noncomputable abbrev pB:Stmt:=eF 21
noncomputable abbrev oF:Stmt:=eF 22
noncomputable abbrev tS:Stmt:=eF 20
noncomputable abbrev kM:Stmt:=eF 23
noncomputable abbrev pv:Stmt:=eF 30
noncomputable abbrev jv:Stmt:=dD (eF 12) 0
noncomputable abbrev jI:Stmt:=dD (eF 12) 1
noncomputable abbrev kY:Stmt:=dD (eF 12) 2
noncomputable abbrev mm:Stmt:=dD (eF 12) 3
noncomputable abbrev sk:Stmt:=eF 24
noncomputable abbrev oZ:Stmt:=eF 25
noncomputable abbrev m6:Stmt:=eF 26
noncomputable abbrev pC:Stmt:=eF 27
noncomputable abbrev pE:Stmt:=eF 29
noncomputable abbrev gZ:Stmt:=eF 28
noncomputable abbrev tz:Stmt:=eF 49
noncomputable abbrev ox:Stmt:=eF 48
noncomputable abbrev oE:Stmt:=eF 47
noncomputable abbrev j8:Stmt:=dD (eF 53) 0
noncomputable abbrev i8:Stmt:=dD (eF 53) 2
noncomputable abbrev gH:Stmt:=dD (eF 53) 4
noncomputable abbrev mQ:Stmt:=dD (eF 53) 1
noncomputable abbrev kW:Stmt:=eF 54
noncomputable abbrev jk:Stmt:=eF 61
noncomputable abbrev fz:Stmt:=eF 60
noncomputable abbrev jF:Stmt:=eF 59
noncomputable abbrev rW:Stmt:=eF 58
noncomputable abbrev kH:Stmt:=eF 63
noncomputable abbrev kS:Stmt:=eF 62
noncomputable abbrev BV:Stmt:=eF 57
noncomputable abbrev iH:Stmt:=dD (eF 32) 0
noncomputable abbrev pz:Stmt:=dD (eF 32) 2
noncomputable abbrev lg:Stmt:=dD (eF 32) 1
noncomputable abbrev oV:Stmt:=dD (eF 32) 3
noncomputable abbrev mE:Stmt:=dD (eF 32) 4
noncomputable abbrev uo:Stmt:=eF 34
noncomputable abbrev kh:Stmt:=eF 36
noncomputable abbrev ql:Stmt:=eF 35
noncomputable abbrev gU:Stmt:=eF 39
noncomputable abbrev p0:Stmt:=eF 42
noncomputable abbrev nJ:Stmt:=eF 40
noncomputable abbrev f8:Stmt:=eF 38
noncomputable abbrev kb:Stmt:=eF 37
noncomputable abbrev CF:Stmt:=eF 33
noncomputable abbrev mH:Stmt:=eF 65
noncomputable abbrev fN:Stmt:=eF 66
noncomputable abbrev kJ:Stmt:=eF 67
noncomputable abbrev mr:Stmt:=eF 68
noncomputable abbrev jY:Stmt:=eF 69
noncomputable abbrev jP:Stmt:=eF 70
noncomputable abbrev qr:Stmt:=eF 71
noncomputable abbrev oS:Stmt:=eF 72
noncomputable abbrev mh:Stmt:=eF 73
noncomputable abbrev j0:Stmt:=eF 74
noncomputable abbrev i9:Stmt:=eF 75
noncomputable abbrev m8:Stmt:=eF 76
noncomputable abbrev qE:Stmt:=eF 77
noncomputable abbrev oH:Stmt:=eF 78
noncomputable abbrev vV:Stmt:=eF 79
theorem TJ(c_Walk c_Nest c_Sheet:Addr):∃cl:Str->Addr,cl "Walk" = c_Walk/\cl "Nest" = c_Nest/\cl "Sheet" = c_Sheet:=⟨λs=>(List.lookup s [("Walk", c_Walk),("Nest", c_Nest),("Sheet", c_Sheet)]).getD 0,by kernel_rfl,by kernel_rfl,by kernel_rfl⟩
noncomputable def d9:List (Str×List Str):=[("def", ["name", "names"]),("tell", ["expression"]),("if", ["expression"]),("end", []),("call", ["name", "name", "expressions"]),("return", ["expression"])]
noncomputable def fR:List W->Option W:=cD 1 1
 (bx (cA (aw bM 0[0]! !"while")
  (aO (aP (bW #[0[3]!])))
  ay)
 (bx (cA (aw bM 0[0]! !"if")
  (aO (aP (cf [none] (aI (x8 (ac 0) (b9 !3) b8)) (ae 0) (aw iQ (ao 0) (dC .none)) (ac 0))))
  ay)
 (aO (aP (bW ah)))))
noncomputable def iX(pf:List W->Option W):DS->Option i5:=(n9 3 (bz pf #[ac 5,aF Ag (ao 2) (bJ #[ac 4])]))
noncomputable def jm(pf:List W->Option W):DS->Option i5:=(bx (cV 3 (bJ #[ac 4,ac 2]))
 (mX (aI (bz fR #[ac 4])) (ae 5) (iX pf)))
noncomputable def cr:Nat->List W->Option W
 | 0,_=>none
 | n+1,ds=>cD 2 6
  (bx (bo (C6 (aw uq (ao 1) (dC .none)) (bJ ah) (ac 1)) (ae 2))
  (bx (kN 3 (bW ah))
  (bx (mX (aI (ac 0)) (ae 4) (jm (cr n)))
  (pG 3 (aO (ac 3)))))) ds
noncomputable def bn:List W->Option W:=cD 1 2
 (bx (bo 0[0]! (ae 1))
 (bx (cA (aw iS (ao 1) (bJ #[!"tell",!"if",!"while",!"return"]))
  (aO (aP (bW #[0[2]!])))
  ay)
 (bx (cA (aw bM (ao 1) !"put")
  (aO (aP (bW #[0[2]!,0[3]!])))
  ay)
 (bx (cA (aw bM (ao 1) !"set")
  (aO (aP (bW #[0[3]!])))
  ay)
 (bx (cA (aw bM (ao 1) !"call")
  (aO (aP (mT 0[4]!)))
  ay)
 (aO (C6 (aw bM (ao 1) !"join") (aP (bW #[0[4]!])) (aP (bW ah)))))))))
noncomputable def gD:List W->Option W:=cD 1 1
 (aO (C6 (aw iS 0[0]! (bJ #[!"set",!"call",!"join"])) 0[2]! (dC .none)))
noncomputable def oX:List W->Option W:=cD 1 1
 (aO (dB (lD BH BH (!"a") (ao 0) !"z")))
noncomputable def oJ:List W->Option W:=cD 1 1
 (aO (dB (lD BH BH (!"0") (ao 0) !"9")))
noncomputable def eK:List W->Option W:=cD 1 1
 (bx (cA (FE (aw iS (ao 0) (dC (.tuple (List.map .str [(Str.ofString "def"),(Str.ofString "set"),(Str.ofString "put"),(Str.ofString "tell"),(Str.ofString "if"),(Str.ofString "else"),(Str.ofString "while"),(Str.ofString "end"),(Str.ofString "break"),(Str.ofString "again"),(Str.ofString "call"),(Str.ofString "return"),(Str.ofString "stop"),(Str.ofString "join"),(Str.ofString "meet"),(Str.ofString "lane"),(Str.ofString "lanes"),(Str.ofString "mine"),(Str.ofString "box"),(Str.ofString "div"),(Str.ofString "rem"),(Str.ofString "sum"),(Str.ofString "most"),(Str.ofString "least"),(Str.ofString "ahead")])))) (pH (lD N2 N2 (!1) (cp bw (ao 0)) (dC (.int 8)))))
  (aO (dC (.bool false)))
  ay)
 (aO (cp wT (aP (cf [none] (yu (ac 0)) (ae 0) cb (bz oX #[ac 0]))))))
noncomputable def iu:List W->Option W:=cD 1 2
 (bx (bo (C6 (lE (BN pY (ac 0) !"-")) (Qd (ac 0) (b9 !1) b8) (ac 0)) (ae 1))
 (bx (cA (FE (pH (lD N2 N2 (!1) (cp bw (ao 1)) (dC (.int 9)))) (pH (lE (cp wT (aP (cf [none] (yu (ac 1)) (ae 0) cb (bz oJ #[ac 0])))))))
  aH
  ay)
 (bx (cA (lj (lE (BN pY (ac 1) !"0")) (aw ng (ao 0) !"0"))
  aH
  ay)
 (aO (cp vZ (ao 0))))))
noncomputable def eL:Nat->List W->Option W
 | 0,_=>none
 | n+1,ds=>cD 1 3
  (bx (cA (lj (aw ng 0[0]! !"box") (aw i3 0[0]! (dC (.tuple (List.map .str [(Str.ofString "+"),(Str.ofString "-"),(Str.ofString "*"),(Str.ofString "div"),(Str.ofString "rem"),(Str.ofString "<"),(Str.ofString "=")])))))
   (aO (aP (bW #[ac 0])))
   ay)
  (bx aH
  (bx aH
  aH))) ds
noncomputable def eC:List W->ai->SM W:=aN 2 2
 (ak (dP "Walk" "row" (aa (ac 0)) (aa (ac 1)))
 (dP "Walk" "at" (aa (ac 0)) (aa !0)))
noncomputable def bE:List W->ai->SM W:=aN 1 1
 (eM (sB (uf false (bB "Walk" "at" (aa (ac 0))) (ly (bB "Walk" "row" (aa (ac 0)))))))
noncomputable def dW:List W->ai->SM W:=aN 1 1
 (eM (sIx (bB "Walk" "row" (aa (ac 0))) (bB "Walk" "at" (aa (ac 0)))))
noncomputable def bj:List W->ai->SM W:=aN 1 2
 (ak (bH (sIx (bB "Walk" "row" (aa (ac 0))) (bB "Walk" "at" (aa (ac 0)))) (ae 1))
 (ak (mZ "Walk" "at" (aa (ac 0)) (aa !1))
 (ag (aO (ac 1)))))
noncomputable def lB:List W->ai->SM W:=aN 1 1
 (eM (sj "Walk" eC (aa #[BN om (ac 0) !" "])))
noncomputable def fS:List W->ai->SM W:=aN 1 1
 (ak (bh (mB (aZ "Walk" "is_over" bE (aa (ac 0)) (aa ah)))
  (ag aH)
  (ag ay))
 (eM (aZ "Walk" "taken" bj (aa (ac 0)) (aa ah))))
noncomputable def gq:List W->ai->SM W:=aN 1 1
 (bh (sX (mB (aZ "Walk" "is_over" bE (aa (ac 0)) (aa ah))))
  (ag aH)
  (ag ay))
noncomputable def dy:List W->ai->SM W:=aN 1 2
 (ak (bH (aM fS (aa #[ac 0])) (ae 1))
 (ak (bh (aa (pH (lE (bz eK #[ac 1]))))
  (ag aH)
  (ag ay))
 (ag (aO (ac 1)))))
noncomputable def ic:Nat->List W->ai->SM W
 | 0,_,_=>none
 | n+1,ds,S=>aN 2 4
  (ak (bH (aM fS (aa #[ac 0])) (ae 2))
  (ak (bh (aa (FE (aw bM (ao 2) !"box") (aw iS (ao 2) (dC (.tuple (List.map .str [(Str.ofString "+"),(Str.ofString "-"),(Str.ofString "*"),(Str.ofString "div"),(Str.ofString "rem"),(Str.ofString "<"),(Str.ofString "=")]))))))
   (ak (ag aH)
  (ak (ag aH)
  (ag aH)))
   (ag ay))
  (ak (ag (cA (aw iS (ao 2) (dC (.tuple (List.map .str [(Str.ofString "lane"),(Str.ofString "lanes"),(Str.ofString "mine")]))))
   (aO (bJ #[ac 2]))
   ay))
  (ak (ag (cA (lE (bz eK #[ac 2]))
   (aO (bJ #[!"name",ac 2]))
   ay))
  (ag (aO (bJ #[!"num",bz iu #[ac 2]]))))))) ds S
noncomputable def bF:List W->ai->SM W:=aN 1 1
 (eM (aM (ic 2) (aa #[ac 0,dC (.int 6)])))
noncomputable def kf:DS->ai->SO:=(jW 2 (yC [("name_from", dy),("expression_from", bF)] 0 (aa #[ac 1])))
noncomputable def g8:List W->ai->SM W:=aN 2 3
 (ak (ag (kN 2 (bW ah)))
 (ak (bG (pR (aa (aw BM (cp bw (ao 2)) (dC (.int 6)))) (sX (mB (aZ "Walk" "is_over" bE (aa (ac 1)) (aa ah))))) kf 1000000)
 (ag (pG 2 (aO (ac 2))))))
noncomputable def cy:List W->ai->SM W:=aN 2 2
 (ak (bh (aa (aw bM (ao 0) !"names"))
  (eM (aM g8 (aa #[dC (.fn "name_from"),ac 1])))
  (ag ay))
 (ak (bh (aa (aw bM (ao 0) !"expressions"))
  (eM (aM g8 (aa #[dC (.fn "expression_from"),ac 1])))
  (ag ay))
 (ak (bh (aa (aw bM (ao 0) !"name"))
  (eM (aM dy (aa #[ac 1])))
  (ag ay))
 (ak (bh (aa (aw bM (ao 0) !"joint"))
  (ag aH)
  (ag ay))
 (eM (aM bF (aa #[ac 1])))))))
noncomputable def di:List W->ai->SM W:=aN 1 4
 (ak (bH (aM lB (aa #[ac 0])) (ae 1))
 (ak (bH (aM fS (aa #[ac 1])) (ae 2))
 (ak (bh (aa (JA d9 (ac 2)))
  (ag aH)
  (ag ay))
 (ak (bH (gK [some 1,none] (aa (yc d9 (ac 2))) (ae 1) (aa cb) (aM cy (aa #[ac 1,ac 0]))) (ae 3))
 (ak (aT (aM gq (aa #[ac 1])))
 (ag (aO (aF bp (bJ #[ac 2]) (cp y4 (ao 3))))))))))
noncomputable def gb:List W->ai->SM W:=aN 1 1
 (ak (dP "Nest" "opened" (aa (ac 0)) (kT (aa ah)))
 (dP "Nest" "in_main" (aa (ac 0)) (aa (dC (.bool false)))))
noncomputable def f7:List W->ai->SM W:=aN 2 2
 (ak (bh (sm (bB "Nest" "opened" (aa (ac 0))))
  (ag aH)
  (ag ay))
 (ak (eO (bB "Nest" "opened" (aa (ac 0))) (aa !"def"))
 (dP "Nest" "in_main" (aa (ac 0)) (aa (dB (aw bM (ao 1) !"main"))))))
noncomputable def eI:List W->ai->SM W:=aN 2 2
 (ak (bh (wB zB (ly (bB "Nest" "opened" (aa (ac 0)))) (aa (dC (.int 5))))
  (ag aH)
  (ag ay))
 (eO (bB "Nest" "opened" (aa (ac 0))) (aa (ac 1))))
noncomputable def fm:List W->ai->SM W:=aN 2 3
 (ak (ag (bo 1[0]! (ae 2)))
 (bh (aa (aw bM (ao 2) !"def"))
  (aT (aZ "Nest" "check_def" f7 (aa (ac 0)) (aa #[1[1]!])))
  (bh (sX (sm (bB "Nest" "opened" (aa (ac 0)))))
  (ag aH)
  (bh (aa (aw bM (ao 2) !"else"))
  (ag aH)
  (bh (aa (aw bM (ao 2) !"end"))
  (aT (AC (bB "Nest" "opened" (aa (ac 0)))))
  (bh (aa (aw iS (ao 2) (bJ #[!"if",!"while"])))
  (aT (aZ "Nest" "check_block" eI (aa (ac 0)) (aa #[ac 2])))
  (bh (pR (aa (aw iS (ao 2) (bJ #[!"break",!"again"]))) (xh true (aa !"while") (bB "Nest" "opened" (aa (ac 0)))))
  (ag aH)
  (bh (pR (aa (aw bM (ao 2) !"return")) (mB (bB "Nest" "in_main" (aa (ac 0)))))
  (ag aH)
  (ag ay)))))))))
noncomputable def jx:DS->ai->SO:=(aT (aZ "Nest" "check" fm (aa (ac 1)) (aa #[ac 2])))
noncomputable def io:List W->ai->SM W:=aN 1 3
 (ak (bH (sj "Nest" gb (aa ah)) (ae 1))
 (ak (fw (aa (aI (ac 0))) (ae 2) jx)
 (bh (sm (bB "Nest" "opened" (aa (ac 1))))
  (ag aH)
  (ag ay))))
noncomputable def jj(pf:List W->ai->SM W):List W->ai->SM W:=aN 1 2
 (ak (bh (uf false (sIx (aZ "Walk" "taken" bj (aa (ac 0)) (aa ah)) (aa !0)) (aa !"end"))
  (ag (aO (dC .none)))
  (ag ay))
 (ak (ag aH)
 (ak (aT (aZ "Walk" "taken" bj (aa (ac 0)) (aa ah)))
 (ag aH))))
noncomputable def cE(pf:List W->ai->SM W):List W->ai->SM W:=aN 1 3
 (ak (bH (aZ "Walk" "taken" bj (aa (ac 0)) (aa ah)) (ae 1))
 (ak (bH (sZ bp (jA (aK (aa 1[0]!) (aK (bB "Walk" "at" (aa (ac 0))) dX))) (aa (x8 (ac 1) (b9 !1) b8))) (ae 2))
 (ak (bh (aa (aw bM 1[0]! !"if"))
  (eM (sZ bp (aa (ac 2)) (jA (aK (aM pf (aa #[ac 0])) (aK (aM (jj pf) (aa #[ac 0])) dX)))))
  (ag ay))
 (ak (bh (aa (aw bM 1[0]! !"while"))
  (ak (ag aH)
 (aT (aZ "Walk" "taken" bj (aa (ac 0)) (aa ah))))
  (ag ay))
 (ag (aO (ac 2)))))))
noncomputable def dZ(pf:List W->ai->SM W):DS->ai->SO:=(jW 1 (aM (cE pf) (aa #[ac 0])))
noncomputable def bO:Nat->List W->ai->SM W
 | 0,_,_=>none
 | n+1,ds,S=>aN 1 2
  (ak (ag (kN 1 (bW ah)))
  (ak (bG (wB i3 (sIx (aZ "Walk" "before" dW (aa (ac 0)) (aa ah)) (aa !0)) (aa (bJ #[!"else",!"end"]))) (dZ (bO n)) 1000000)
  (ag (pG 1 (aO (ac 1)))))) ds S
noncomputable def lH:List W->ai->SM W:=aN 1 4
 (ak (bH (aZ "Walk" "taken" bj (aa (ac 0)) (aa ah)) (ae 1))
 (ak (bH (bB "Walk" "at" (aa (ac 0))) (ae 2))
 (ak (bH (aM (bO 7) (aa #[ac 0])) (ae 3))
 (ak (aT (aZ "Walk" "taken" bj (aa (ac 0)) (aa ah)))
 (eM (jA (aK (aa 1[1]!) (aK (aa 1[2]!) (aK (aa (ac 3)) (aK (aa (ac 2)) (aK (bB "Walk" "at" (aa (ac 0))) dX)))))))))))
noncomputable def fY:DS->ai->SO:=(bh (aa (aw bM 2[0]! !"call"))
 (ak (ag (bo 2[3]! (ae 4)))
 (bh (FH (aa (aw bM (ao 4) !"main")) (uf true (jK (aa (ac 1)) (aa (ac 4))) (aa (cp bw 2[4]!))))
  (ag aH)
  (ag ay)))
  (ag ay))
noncomputable def ik:List W->ai->SM W:=aN 2 5
 (fw (aa (aI (nA (cr 8) #[ac 0]))) (cW 2 (aD (ae 2) (aD (ae 3) db))) fY)
noncomputable def j6:DS->ai->SO:=(ak (bh (wy false (aa (ac 2)) (aa (ac 1)))
 (ag aH)
 (ag ay))
 (ak (bh (aa (aw ng (mK (ac 3)) (cp bw (ao 3))))
  (ag aH)
  (ag ay))
 (iU (aa (ac 1)) (aa (ac 2)) (aa (cp bw (ao 3))))))
noncomputable def j4:DS->ai->SO:=(aT (aM ik (aa #[ac 4,ac 1])))
noncomputable def ir:List W->ai->SM W:=aN 1 7
 (ak (bH Nu (ae 1))
 (ak (fw (aa (aI (ac 0))) (cW 5 (aD (ae 2) (aD (ae 3) (aD (ae 4) (aD (ae 5) (aD (ae 6) db)))))) j6)
 (ak (bh (uf true (jK (aa (ac 1)) (aa !"main")) (aa !0))
  (ag aH)
  (ag ay))
 (fw (aa (aI (ac 0))) (cW 5 (aD (ae 2) (aD (ae 3) (aD (ae 4) (aD (ae 5) (aD (ae 6) db)))))) j4))))
noncomputable def wk:DS->ai->SO:=(jW 4 (aM lH (aa #[ac 3])))
noncomputable def lA:List W->ai->SM W:=aN 1 5
 (ak (ag (bo (BN om (ac 0) !"\n") (ae 1)))
 (ak (bh (aa (aw zB (cp bw (ao 1)) (dC (.int 200))))
  (ag aH)
  (ag ay))
 (ak (bH (gK [none] (aa (aI (ac 1))) (ae 0) (aa cb) (aM di (aa #[ac 0]))) (ae 2))
 (ak (aT (aM io (aa #[ac 2])))
 (ak (bH (sj "Walk" eC (aa #[ac 2])) (ae 3))
 (ak (ag (kN 4 (bW ah)))
 (ak (bG (sX (mB (aZ "Walk" "is_over" bE (aa (ac 3)) (aa ah)))) wk 1000000)
 (ak (Fm 4 (aT (aM ir (aa #[ac 4]))))
 (ag (pG 4 (aO (ac 4))))))))))))
noncomputable def fE:List W->ai->SM W:=aN 1 1
 (ak (dP "Sheet" "rows" (aa (ac 0)) (kT (aa ah)))
 (ak (dP "Sheet" "spots" (aa (ac 0)) Ss)
 (ak (dP "Sheet" "name" (aa (ac 0)) (aa (dC .none)))
 (dP "Sheet" "slots" (aa (ac 0)) Nu))))
noncomputable def cu:List W->ai->SM W:=aN 2 2
 (iU (bB "Sheet" "spots" (aa (ac 0))) (aa (ac 1)) (ly (bB "Sheet" "rows" (aa (ac 0)))))
noncomputable def iz:List W->ai->SM W:=aN 3 3
 (ak (dP "Sheet" "name" (aa (ac 0)) (aa (ac 1)))
 (ak (dP "Sheet" "slots" (aa (ac 0)) (aa (ac 2)))
 (aT (aZ "Sheet" "lay" cu (aa (ac 0)) (aa #[bJ #[!"def",ac 1]])))))
noncomputable def bu:List W->ai->SM W:=aN 2 2
 (eO (bB "Sheet" "rows" (aa (ac 0))) (aa (ac 1)))
noncomputable def cK:List W->ai->SM W:=aN 1 1
 (eM (sZ bp (wK (bB "Sheet" "slots" (aa (ac 0)))) (aa !1)))
noncomputable def kn:List W->ai->SM W:=aN 2 2
 (ak (bh (aa (aw iS 0[0]! (bJ #[!"split",!"jump",!"call"])))
  (eM (sZ bp (aa (x8 (ac 0) b8 (b9 (FJ pJ !1)))) (jA (aK (gB (aa (ac 1)) (aa (aF aW (ao 0) (FJ pJ !1)))) dX))))
  (ag ay))
 (ag (aO (ac 0))))
noncomputable def d5:DS->Option i5:=(kg 1 (cf [none] (aI (bz (eL 2) #[ac 5])) (ae 0) (aw bM 0[0]! !"name") 0[1]!))
noncomputable def dG:DS->Option i5:=(bx (bo (bz gD #[ac 2]) (ae 4))
 (bx (cA (aw iQ (ao 4) (dC .none))
  (cV 1 (ac 4))
  ay)
 (mX (aI (bz bn #[ac 2])) (ae 5) d5)))
noncomputable def eV:List W->Option W:=cD 1 6
 (bx (kN 1 (bW ah))
 (bx (mX (aI (nA (cr 8) #[ac 0])) (cW 2 (aD (ae 2) (aD (ae 3) db))) dG)
 (pG 1 (aO (ac 1)))))
noncomputable def dL:DS->ai->SO:=(bh (wy true (aa (ac 3)) (aa (ac 2)))
 (iU (aa (ac 2)) (aa (ac 3)) (sZ bp (wK (aa (ac 2))) (aa !1)))
 (ag ay))
noncomputable def lv:List W->ai->SM W:=aN 2 4
 (ak (bH Nu (ae 2))
 (ak (fw (aa (aI (aF bp (ao 0) (bz eV #[ac 1])))) (ae 3) dL)
 (ag (aO (ac 2)))))
noncomputable def cZ:Nat->List W->ai->SM W
 | 0,_,_=>none
 | n+1,ds,S=>aN 4 5
  (ak (ag (bo 2[0]! (ae 4)))
  (bh (aa (aw bM (ao 4) !"num"))
   (aT (aZ "Sheet" "add" bu (aa (ac 0)) (aa #[bJ #[!"num",ac 1,ac 3,2[1]!]])))
   (bh (aa (aw bM (ao 4) !"name"))
   (aT (aZ "Sheet" "add" bu (aa (ac 0)) (aK (jA (aK (aa !"copy") (aK (aa (ac 1)) (aK (aa (ac 3)) (aK (gB (bB "Sheet" "slots" (aa (ac 0))) (aa 2[1]!)) dX))))) dX)))
   (bh (aa (aw iS (ao 4) (dC (.tuple (List.map .str [(Str.ofString "lane"),(Str.ofString "lanes"),(Str.ofString "mine")])))))
   (aT (aZ "Sheet" "add" bu (aa (ac 0)) (aa #[bJ #[!"sign",ac 1,ac 3,ac 4]])))
   (bh (aa (aw bM (ao 4) !"box"))
   (ak (ag aH)
  (ag aH))
   (ak (ag aH)
  (ak (ag aH)
  (ag aH)))))))) ds S
noncomputable def fM:List W->ai->SM W:=aN 2 5
 (ak (ag (bo 1[0]! (ae 2)))
 (ak (ag (bo 1[1]! (ae 3)))
 (ak (bH (aZ "Sheet" "free" cK (aa (ac 0)) (aa ah)) (ae 4))
 (bh (aa (aw bM (ao 2) !"set"))
  (ag aH)
  (bh (aa (aw bM (ao 2) !"put"))
  (ag aH)
  (bh (aa (aw bM (ao 2) !"tell"))
  (aT (aZ "Sheet" "add" bu (aa (ac 0)) (aa #[bJ #[!"tell",ac 3,ac 4]])))
  (bh (aa (aw bM (ao 2) !"call"))
  (aT (aZ "Sheet" "add" bu (aa (ac 0)) (aK (jA (aK (aa !"call") (aK (aa (ac 3)) (aK (gB (bB "Sheet" "slots" (aa (ac 0))) (aa 1[2]!)) (aK (aa (ac 4)) (aK (aa (cp bw 1[4]!)) (aK (aa (bJ #[!"def",1[3]!])) dX))))))) dX)))
  (bh (aa (aw bM (ao 2) !"return"))
  (ak (aT (aZ "Sheet" "add" bu (aa (ac 0)) (aa #[bJ #[!"copy",ac 3,!0,ac 4]])))
 (aT (aZ "Sheet" "add" bu (aa (ac 0)) (aK (jA (aK (aa !"jump") (aK (aa (ac 3)) (aK (jA (aK (aa !"last") (aK (bB "Sheet" "name" (aa (ac 0))) dX))) dX)))) dX))))
  (bh (aa (aw bM (ao 2) !"join"))
  (ag aH)
  (ag aH))))))))))
noncomputable def ki(pf:List W->ai->SM W):List W->ai->SM W:=aN 3 4
 (ak (ag (bo 1[1]! (ae 3)))
 (ak (aT (aZ "Sheet" "add" bu (aa (ac 0)) (aK (jA (aK (aa !"split") (aK (aa (ac 3)) (aK (aZ "Sheet" "free" cK (aa (ac 0)) (aa ah)) (aK (aa (bJ #[!"else",ac 3])) dX))))) dX)))
 (ak (aT (aM pf (aa #[ac 0,1[3]!,ac 2])))
 (ak (bh (aa (aw iQ 1[4]! (dC .none)))
  (ag aH)
  (ag ay))
 (ak (aT (aZ "Sheet" "lay" cu (aa (ac 0)) (aa #[bJ #[!"else",ac 3]])))
 (ak (bh (aa (aw iQ 1[4]! (dC .none)))
  (ag aH)
  (ag ay))
 (aT (aZ "Sheet" "lay" cu (aa (ac 0)) (aa #[bJ #[!"behind",ac 3]])))))))))
noncomputable def gP(pf:List W->ai->SM W):DS->ai->SO:=(aT (aM (cZ 2) (aa #[ac 0,ac 4,ac 6,ac 5])))
noncomputable def dJ(pf:List W->ai->SM W):List W->ai->SM W:=aN 3 7
 (ak (ag (bo 1[0]! (ae 3)))
 (ak (ag (bo 1[1]! (ae 4)))
 (ak (aT (aZ "Sheet" "lay" cu (aa (ac 0)) (aa #[bJ #[!"tick",ac 4]])))
 (ak (aT (aZ "Sheet" "add" bu (aa (ac 0)) (aa #[bJ #[!"tick",ac 4]])))
 (ak (fw (qh (aa #[bz bn #[ac 1]]) (aZ "Sheet" "free" cK (aa (ac 0)) (aa ah))) (cW 2 (aD (ae 5) (aD (ae 6) db))) (gP pf))
 (bh (aa (aw bM (ao 3) !"if"))
  (aT (aM (ki pf) (aa #[ac 0,ac 1,ac 2])))
  (bh (aa (aw bM (ao 3) !"while"))
  (ag aH)
  (bh (aa (aw bM (ao 3) !"break"))
  (ag aH)
  (bh (aa (aw bM (ao 3) !"again"))
  (ag aH)
  (aT (aM fM (aa #[ac 0,ac 1]))))))))))))
noncomputable def fJ(pf:List W->ai->SM W):DS->ai->SO:=(aT (aM (dJ pf) (aa #[ac 0,ac 3,ac 2])))
noncomputable def be:Nat->List W->ai->SM W
 | 0,_,_=>none
 | n+1,ds,S=>aN 3 4
  (fw (aa (aI (ac 1))) (ae 3) (fJ (be n))) ds S
noncomputable def rE:DS->ai->SO:=(ak (aT (aZ "Sheet" "begin" iz (aa (ac 1)) (aK (aa (ac 3)) (aK (aM lv (aa #[ac 4,ac 5])) dX))))
 (ak (aT (aM (be 7) (aa #[ac 1,ac 5,dC .none])))
 (ak (aT (aZ "Sheet" "lay" cu (aa (ac 1)) (aa #[bJ #[!"last",ac 3]])))
 (aT (aZ "Sheet" "add" bu (aa (ac 1)) (aa #[bJ #[!"back",ac 7]]))))))
noncomputable def yb:List W->ai->SM W:=aN 1 8
 (ak (bH (sj "Sheet" fE (aa ah)) (ae 1))
 (ak (ag (bo (aF bp (aP (cf [none] (aI (ao 0)) (ae 0) (aw bM 0[0]! !"main") (ac 0))) (aP (cf [none] (aI (ao 0)) (ae 0) (aw ng 0[0]! !"main") (ac 0)))) (ae 2)))
 (ak (fw (aa (aI (ac 2))) (cW 5 (aD (ae 3) (aD (ae 4) (aD (ae 5) (aD (ae 6) (aD (ae 7) db)))))) rE)
 (eM (qA 9000 [some 1,none] (xU (bB "Sheet" "rows" (aa (ac 1)))) (ae 1) (aa cb) (aM kn (aK (aa (ac 1)) (aK (bB "Sheet" "spots" (aa (ac 0))) dX))))))))
noncomputable def cO:List W->Option W:=cD 1 1
 (aO (Cv (cp (lM "int") (ac 0)) (F6 (cp (lM "bool") (ac 0)))))
noncomputable def dm:List W->Option W:=cD 1 5
 (bx (bo (aP (bW #[!"f",!"ff",!"g",!"main",!"zz",!"fg"])) (ae 1))
 (bx (bo (aF bp (!2) (aF ij (ao 0) !5)) (ae 2))
 (bx (bo (aP (fQ (aP (cf [none] (aI (ao 1)) (ae 0) (aw ng (ao 0) !"main") (ac 0))) b8 (b9 (aF gSub' (ao 2) !1)))) (ae 3))
 (bx (bo (aF ij (aF iZ (ao 0) !5) (ac 2)) (ae 4))
 (aO (aF bp (aF bp (aP (fQ (ao 3) b8 (b9 (ac 4)))) (aP (bW #[!"main"]))) (aP (fQ (ao 3) (b9 (ac 4)) b8))))))))
noncomputable def bN:List W->ai->SM W:=aN 1 2
 (ak (bH (JL [(Str.ofString "main", !0),(Str.ofString "f", !1),(Str.ofString "ff", !3),(Str.ofString "g", !1),(Str.ofString "zz", !2),(Str.ofString "fg", !0)]) (ae 1))
 (eM (Lv (aa (aP (bW #[!"p",!"x",!"q"]))) (gB (aa (ac 1)) (aa (ac 0))))))
noncomputable def gh:List W->Option W:=cD 2 3
 (bx (bo (aF ij (aF bp (aF bp (aF lQ (ao 0) !48271) (aF lQ (aF lQ (ao 1) (ac 1)) !7919)) !101) !2147483647) (ae 2))
 (aO (aF ij (aF lQ (ao 2) (ac 2)) !2147483629)))
noncomputable def b0:List W->Option W:=cD 1 1
 (bx (cA (aw bM (aF ij (ao 0) !3) !0)
  (aO !"lane")
  ay)
 (bx (cA (aw bM (aF ij (ao 0) !3) !1)
  (aO (cp yQ (aF gSub' (aF ij (aF iZ (ao 0) !3) !19) !9)))
  ay)
 (aO (aF aW (aP (bW #[!"x",!"q",!"w"])) (aF ij (aF iZ (ao 0) !3) !3)))))
noncomputable def eQ:List W->ai->SM W:=aN 4 9
 (ak (ag (bo (aF ij (ao 0) !7) (ae 4)))
 (ak (ag (bo (aF iZ (ao 0) !7) (ae 5)))
 (ak (bh (aa (lj (aw BM (ao 4) !2) (aw zB (cp bw (ao 2)) !1)))
  (ak (ag (bo (aP (cf [none] (aI (ao 2)) (ae 0) (aw ng (ao 0) !"main") (ac 0))) (ae 6)))
 (ak (ag (bo (aF aW (ao 6) (aF ij (ao 5) (cp bw (ao 6)))) (ae 7)))
 (ak (bH (gK [some 5,none] (rB (aK (ly (aM bN (aa #[ac 7]))) dX)) (ae 1) (aa cb) (aa (bz b0 #[aF bp (aF iZ (ao 0) !5) (aF lQ (!4) (ac 1))]))) (ae 8))
 (ag (aO (aF bp (aP (bW #[!"call",aF aW (aP (bW #[!"w",!"x"])) (aF ij (aF iZ (ao 5) !5) !2),ac 7])) (ac 8)))))))
  (ag ay))
 (ak (ag (cA (lj (aw bM (ao 4) !2) (aw ng (ao 1) !"main"))
  (aO (aP (bW #[!"return",bz b0 #[ac 5]])))
  ay))
 (ak (ag (cA (lj (aw bM (ao 4) !3) (aw BM (ao 3) !5))
  (aO (aP (bW #[!"if",bz b0 #[ac 5]])))
  ay))
 (ak (ag (cA (lj (aw bM (ao 4) !4) (aw zB (ao 3) !0))
  (aO (aP (bW #[!"end"])))
  ay))
 (ag (aO (aP (bW #[!"tell",bz b0 #[ac 5]]))))))))))
noncomputable def jf:DS->ai->SO:=(bh (aa (aw bM (aF ij (ao 5) (cp bw (ao 2))) (ao 1)))
 (ak (bH (aM eQ (aa #[bz gh #[ac 6,ac 5],aF aW (ao 2) (ac 1),ac 2,ac 4])) (ae 7))
 (ak (ag (bo (aF gSub' (aF bp (ao 4) (pD (dB (aw bM 7[0]! !"if")))) (pD (dB (aw bM 7[0]! !"end")))) (ae 4)))
 (ag (cV 3 (ac 7)))))
  (ag ay))
noncomputable def gC:List W->ai->SM W:=aN 3 8
 (ak (zD 3 (aK (sZ bp (aa (aP (bW #[!"def",aF aW (ao 2) (ac 1)]))) (aM bN (aa #[aF aW (ao 2) (ac 1)]))) dX))
 (ak (ag (bo (!0) (ae 4)))
 (ak (fw (aa (jS #[aP (fQ (ao 0) (b9 !1) (b9 !101))])) (cW 2 (aD (ae 5) (aD (ae 6) db))) jf)
 (ag (aO (aF bp (ao 3) (aP (Hq (bW #[aP (bW #[!"end"])]) (aF bp (ao 4) !1)))))))))
noncomputable def jD:List W->ai->SM W:=aN 2 2
 (bh (pR (aa (aw iS (ao 0) (bJ #[!"x",!"q",!"w",!"p"]))) (xh true (aa (ac 0)) (aa (ac 1))))
  (eO (aa (ac 1)) (aa (ac 0)))
  (ag ay))
noncomputable def jM:DS->ai->SO:=(aT (aM jD (aa #[ac 3,ac 1])))
noncomputable def ka:DS->ai->SO:=(fw (aa (aI (aP (fQ (ao 2) (b9 (aF bp (!1) (pD (dB (aw bM 2[0]! !"def"))))) b8)))) (ae 3) jM)
noncomputable def jh:List W->ai->SM W:=aN 1 4
 (ak (bH (kT (aa ah)) (ae 1))
 (ak (fw (aa (aI (ac 0))) (ae 2) ka)
 (ag (aO (ac 1)))))
noncomputable def fZ:List W->ai->SM W:=aN 4 4
 (ak (ag (cA (aw bM (ao 0) !"lane")
  (aO (bJ #[!"sign",ac 1,ac 2,!"lane"]))
  ay))
 (ak (bh (xh false (aa (ac 0)) (aa (ac 3)))
  (eM (jA (aK (aa !"copy") (aK (aa (ac 1)) (aK (aa (ac 2)) (aK (sZ bp (nN (aa (ac 3)) (aa (ac 0))) (aa !1)) dX))))))
  (ag ay))
 (ag (aO (bJ #[!"num",ac 1,ac 2,cp vZ (ao 0)])))))
noncomputable def gQ:DS->ai->SO:=(jW 6 (aM fZ (aa #[ac 9,ac 1,aF bp (ao 5) (ac 8),ac 2])))
noncomputable def dF:List W->ai->SM W:=aN 5 10
 (ak (bH (sZ bp (ly (aa (ac 2))) (aa !1)) (ae 5))
 (ak (ag (kN 6 (bW #[bJ #[!"tick",ac 1]])))
 (ak (ag (bo (aP (fQ (ao 0) (b9 !1) b8)) (ae 7)))
 (ak (ag (cA (aw bM 0[0]! !"call")
  (bo (aP (fQ (ao 0) (b9 !3) b8)) (ae 7))
  ay))
 (ak (fw (aa (jS #[ac 7])) (cW 2 (aD (ae 8) (aD (ae 9) db))) gQ)
 (ak (bh (aa (aw bM 0[0]! !"call"))
  (jW 6 (jA (aK (aa !"call") (aK (aa (ac 1)) (aK (sZ bp (nN (aa (ac 2)) (aa 0[1]!)) (aa !1)) (aK (aa (ac 5)) (aK (aa (cp bw (ao 7))) (aK (gB (aa (ac 3)) (aa 0[2]!)) dX))))))))
  (ag ay))
 (ak (ag (cA (aw bM 0[0]! !"return")
  (bx (cV 6 (bJ #[!"copy",ac 1,!0,ac 5]))
 (cV 6 (bJ #[!"jump",ac 1,ac 4])))
  ay))
 (ak (ag (cA (aw bM 0[0]! !"tell")
  (cV 6 (bJ #[!"tell",ac 1,ac 5]))
  ay))
 (ag (pG 6 (aO (ac 6))))))))))))
noncomputable def c6:List W->Option W:=cD 1 1
 (bx (cA (FE (aw bM 0[0]! !"def") (aw bM 0[0]! !"end"))
  (aO !0)
  ay)
 (bx (cA (aw bM 0[0]! !"call")
  (aO (aF gSub' (cp bw (ao 0)) !1))
  ay)
 (bx (cA (aw bM 0[0]! !"return")
  (aO !4)
  ay)
 (aO !3))))
noncomputable def d7:DS->ai->SO:=(ak (bh (aa (aw bM 9[0]! !"end"))
 (ak (bH (AC (aa (ac 7))) (cW 3 (aD (ae 10) (aD (ae 11) (aD (ae 12) db)))))
 (ag (qC 6 (ac 10) (bJ #[!"split",ac 11,ac 12,aF bp (ao 1) (cp bw (ao 6))]))))
  (qX 6 (aM dF (aa #[ac 9,aF bp (aF bp (ao 2) !1) (ac 8),ac 4,ac 3,ac 5]))))
 (bh (aa (aw bM 9[0]! !"if"))
  (ak (eO (aa (ac 7)) (jA (aK (aa (cp bw (ao 6))) (aK (aa (aF bp (aF bp (ao 2) !1) (ac 8))) (aK (sZ bp (ly (aa (ac 4))) (aa !1)) dX)))))
 (ag (cV 6 (bJ #[!"split",!0,!0,!0]))))
  (ag ay)))
noncomputable def lS:List W->ai->SM W:=aN 4 13
 (ak (bH (aM jh (aa #[ac 0])) (ae 4))
 (ak (ag (bo (aF bp (ao 1) (cp vd (aP (cf [none] (aI (ao 0)) (ae 0) cb (bz c6 #[ac 0]))))) (ae 5)))
 (ak (ag (kN 6 (bW ah)))
 (ak (bH (kT (aa ah)) (ae 7))
 (ak (fw (aa (jS #[aP (fQ (ao 0) (b9 !1) (b9 (FJ pJ !1)))])) (cW 2 (aD (ae 8) (aD (ae 9) db))) d7)
 (ag (aO (aF bp (ao 6) (aP (bW #[bJ #[!"back",aF gSub' (aF bp (ao 2) (cp bw (ao 0))) !1]]))))))))))
noncomputable def hU:List W->Option W:=cD 2 2
 (bx (cA (FE (pH (lE (cp (oR "tuple") (ac 0)))) (aw ng (ao 0) (ao 1)))
  (aO (dC (.bool false)))
  ay)
 (aO (cp wT (aP (cf [none] (aI (ao 0)) (ae 0) cb (AO (cp (lM "str") (ac 0)) (bz cO #[ac 0])))))))
noncomputable def zc:DS->ai->SO:=(ak (iU (aa (ac 6)) (aa (aF aW (ao 2) (ac 8))) (aa (ac 7)))
 (ag (bo (aF bp (aF bp (ao 7) !1) (cp vd (aP (cf [none] (aI (aF aW (ao 3) (ac 8))) (ae 0) cb (bz c6 #[ac 0]))))) (ae 7))))
noncomputable def pZ:DS->Option i5:=(kg 9 (cf [none] (aI (ao 10)) (ae 0) cb (BN mJ (!" ") (ao 0))))
noncomputable def zZ:DS->ai->SO:=(bH (sZ bp (aa (ac 14)) (aM lS (aK (aa (aF aW (ao 3) (ac 8))) (aK (gB (aa (ac 6)) (aa (aF aW (ao 2) (ac 8)))) (aK (aa (aF aW (ao 4) (ac 8))) (aK (aa (ac 6)) dX)))))) (ae 14))
noncomputable def Fo:List W->ai->SM W:=aN 1 15
 (ak (ag (bo (!0) (ae 1)))
 (ak (ag (cA (aw zB (cp bw (ao 0)) !0)
  (bo 0[0]! (ae 1))
  ay))
 (ak (ag (bo (bz dm #[ac 1]) (ae 2)))
 (ak (bH (gK [some 0,some 2,none] (aa (iC #[cp bw (ao 2)])) (ae 2) (aa cb) (aM gC (aa #[ac 0,ac 2,ac 1]))) (ae 3))
 (ak (ag (bo (aP (cf [some 3,none] (iC #[cp bw (ao 2)]) (ae 1) cb (aF bp (!1) (cp vd (aP (cf [none] (aI (aP (fQ (ao 0) b8 (b9 (ac 1))))) (ae 0) cb (cp bw (ao 0)))))))) (ae 4)))
 (ak (ag (bo (aF bp (aP (cf [some 2,none] (iC #[cp bw (ao 2)]) (ae 1) (aw bM (aF aW (ao 0) (ac 1)) !"main") (ac 1))) (aP (cf [some 2,none] (iC #[cp bw (ao 2)]) (ae 1) (aw ng (aF aW (ao 0) (ac 1)) !"main") (ac 1)))) (ae 5)))
 (ak (bH Nu (ae 6))
 (ak (ag (bo (!0) (ae 7)))
 (ak (fw (aa (aI (ac 5))) (ae 8) zc)
 (ak (ag (kN 9 (bW ah)))
 (ak (ag (mX (aI (ac 3)) (ae 10) pZ))
 (ak (ag (bo (BN mJ (!"\n") (ao 9)) (ae 11)))
 (ak (bH (aM lA (aa #[ac 11])) (ae 12))
 (ak (bH (aM yb (aa #[ac 12])) (ae 13))
 (ak (ag (bo (aP (bW ah)) (ae 14)))
 (ak (fw (aa (aI (ac 5))) (ae 8) zZ)
 (ak (bh (FH (uf true (aa (ac 12)) (aM lA (aa #[ac 11]))) (FH (aa (pH (lE (cp (oR "list") (ac 13))))) (aa (aw ng (cp bw (ao 13)) (cp bw (ao 14))))))
  (ag (aO (dC (.bool false))))
  (ag ay))
 (ag (aO (cp wT (aP (cf [some 13,some 14,none] (iC #[cp bw (ao 14)]) (ae 2) cb (bz hU #[aF aW (ao 0) (ac 2),aF aW (ao 1) (ac 2)])))))))))))))))))))))))
noncomputable def vB(K:Frag):Sp:=λvs H Q _=>∃(a:Addr) (ns:List Int),vs=[.ref a]/\c8 K H a (ns.map V.int)/\ns.length<=63/\∀H',Q (.bl true) H'
noncomputable abbrev eY(K:Frag)(mg:Str->Option Value)(cl:Str->Addr):Prop:=mg "Walk" = some (.ref (cl "Walk"))/\xx K (cl "Walk")/\NoAttr K (cl "Walk") "row" /\ NoAttr K (cl "Walk") "at"
noncomputable abbrev nQ(K:Frag)(mg:Str->Option Value)(cl:Str->Addr):Prop:=mg "Nest" = some (.ref (cl "Nest"))/\xx K (cl "Nest")/\NoAttr K (cl "Nest") "opened" /\ NoAttr K (cl "Nest") "in_main"
noncomputable abbrev eR(K:Frag)(mg:Str->Option Value)(cl:Str->Addr):Prop:=mg "Sheet" = some (.ref (cl "Sheet"))/\xx K (cl "Sheet")/\NoAttr K (cl "Sheet") "rows" /\ NoAttr K (cl "Sheet") "spots" /\ NoAttr K (cl "Sheet") "name" /\ NoAttr K (cl "Sheet") "slots"
section
variable(P:Program)(w:World)(K:Frag)(mg:Str->Option Value)(base:Heap)(cl:Str->Addr)
noncomputable abbrev p8:Prop:=gu P w K mg base "bodies_of" ["statement"] [] 1 (oQ K fR)
noncomputable abbrev qK:Prop:=gu P w K mg base "placed" ["body", "around"] [.none] 9 (oQ K (cr 8))
noncomputable abbrev fG:Prop:=gu P w K mg base "expressions_of" ["statement"] [] 1 (oQ K bn)
noncomputable abbrev rN:Prop:=gu P w K mg base "given_by" ["statement"] [] 1 (oQ K gD)
noncomputable abbrev oU:Prop:=gu P w K mg base "is_letter" ["sign"] [] 1 (oQ K oX)
noncomputable abbrev oI:Prop:=gu P w K mg base "is_figure" ["sign"] [] 1 (oQ K oJ)
noncomputable abbrev ou:Prop:=gu P w K mg base "is_name" ["text"] [] 2 (oQ K eK)
noncomputable abbrev kX:Prop:=gu P w K mg base "read_number" ["text"] [] 2 (oQ K iu)
noncomputable abbrev o7:Prop:=gu P w K mg base "leaves_of" ["expression"] [] 2 (oQ K (eL 2))
noncomputable abbrev fV:Prop:=Ce (λf fd=>Mk K (cl "Walk") f/\bA K fd ["self", "row"] []) P w K mg base 1 ["self", "row"] (eE K cl eC)
noncomputable abbrev dr:Prop:=Ce (λf fd=>gm K (cl "Walk") "is_over" f/\bA K fd ["self"] []) P w K mg base 1 ["self"] (eE K cl bE)
noncomputable abbrev lh:Prop:=Ce (λf fd=>gm K (cl "Walk") "before" f/\bA K fd ["self"] []) P w K mg base 1 ["self"] (eE K cl dW)
noncomputable abbrev fq:Prop:=Ce (λf fd=>gm K (cl "Walk") "taken" f/\bA K fd ["self"] []) P w K mg base 1 ["self"] (eE K cl bj)
noncomputable abbrev qq:Prop:=gu P w K mg base "words_of" ["text"] [] 3 (eE K cl lB)
noncomputable abbrev hJ:Prop:=gu P w K mg base "word_from" ["words"] [] 2 (eE K cl fS)
noncomputable abbrev mV:Prop:=gu P w K mg base "check_over" ["words"] [] 2 (eE K cl gq)
noncomputable abbrev jJ:Prop:=gu P w K mg base "name_from" ["words"] [] 3 (eE K cl dy)
noncomputable abbrev p9:Prop:=gu P w K mg base "part_from" ["words", "deep"] [] 4 (eE K cl (ic 2))
noncomputable abbrev fh:Prop:=gu P w K mg base "expression_from" ["words"] [] 5 (eE K cl bF)
noncomputable abbrev tK:Prop:=gu P w K mg base "several" ["part_from", "words"] [] 6 (eE K cl g8)
noncomputable abbrev oz:Prop:=gu P w K mg base "read_part" ["form", "words"] [] 7 (eE K cl cy)
noncomputable abbrev oK:Prop:=gu P w K mg base "read_line" ["text"] [] 8 (eE K cl di)
noncomputable abbrev ju:Prop:=Ce (λf fd=>Mk K (cl "Nest") f/\bA K fd ["self"] []) P w K mg base 1 ["self"] (eE K cl gb)
noncomputable abbrev iR:Prop:=Ce (λf fd=>gm K (cl "Nest") "check_def" f/\bA K fd ["self", "name"] []) P w K mg base 1 ["self", "name"] (eE K cl f7)
noncomputable abbrev gJ:Prop:=Ce (λf fd=>gm K (cl "Nest") "check_block" f/\bA K fd ["self", "kind"] []) P w K mg base 1 ["self", "kind"] (eE K cl eI)
noncomputable abbrev ma:Prop:=Ce (λf fd=>gm K (cl "Nest") "check" f/\bA K fd ["self", "line"] []) P w K mg base 2 ["self", "line"] (eE K cl fm)
noncomputable abbrev kI:Prop:=gu P w K mg base "check_nests" ["lines"] [] 3 (eE K cl io)
noncomputable abbrev mj(n k:Nat):Prop:=gu P w K mg base "other_from" ["lines"] [] k (eE K cl (jj (bO n)))
noncomputable abbrev iM(n k:Nat):Prop:=gu P w K mg base "statement_from" ["lines"] [] k (eE K cl (cE (bO n)))
noncomputable abbrev hX(n k:Nat):Prop:=gu P w K mg base "body_from" ["lines"] [] k (eE K cl (bO n))
noncomputable abbrev w9:Prop:=hX P w K mg base cl 7 22
noncomputable abbrev qw:Prop:=gu P w K mg base "def_from" ["lines"] [] 23 (eE K cl lH)
noncomputable abbrev kR:Prop:=gu P w K mg base "check_calls" ["body", "counts"] [] 10 (eE K cl ik)
noncomputable abbrev kU:Prop:=gu P w K mg base "check_names" ["program"] [] 11 (eE K cl ir)
noncomputable abbrev Ck:Prop:=gu P w K mg base "read" ["text"] [] 24 (eE K cl lA)
noncomputable abbrev iN:Prop:=Ce (λf fd=>Mk K (cl "Sheet") f/\bA K fd ["self"] []) P w K mg base 1 ["self"] (eE K cl fE)
noncomputable abbrev fL:Prop:=Ce (λf fd=>gm K (cl "Sheet") "lay" f/\bA K fd ["self", "key"] []) P w K mg base 1 ["self", "key"] (eE K cl cu)
noncomputable abbrev kP:Prop:=Ce (λf fd=>gm K (cl "Sheet") "begin" f/\bA K fd ["self", "name", "slots"] []) P w K mg base 2 ["self", "name", "slots"] (eE K cl iz)
noncomputable abbrev eJ:Prop:=Ce (λf fd=>gm K (cl "Sheet") "add" f/\bA K fd ["self", "row"] []) P w K mg base 1 ["self", "row"] (eE K cl bu)
noncomputable abbrev gj:Prop:=Ce (λf fd=>gm K (cl "Sheet") "free" f/\bA K fd ["self"] []) P w K mg base 1 ["self"] (eE K cl cK)
noncomputable abbrev tX:Prop:=gu P w K mg base "settled" ["row", "spots"] [] 1 (eE K cl kn)
noncomputable abbrev jR:Prop:=gu P w K mg base "names_within" ["body"] [] 10 (oQ K eV)
noncomputable abbrev re:Prop:=gu P w K mg base "slots_of" ["params", "body"] [] 11 (eE K cl lv)
noncomputable abbrev hW:Prop:=gu P w K mg base "make_expression" ["sheet", "line", "expression", "at"] [] 3 (eE K cl (cZ 2))
noncomputable abbrev o9:Prop:=gu P w K mg base "make_rest" ["sheet", "statement"] [] 2 (eE K cl fM)
noncomputable abbrev tu(n k:Nat):Prop:=gu P w K mg base "make_if" ["sheet", "statement", "loop"] [] k (eE K cl (ki (be n)))
noncomputable abbrev iJ(n k:Nat):Prop:=gu P w K mg base "make_statement" ["sheet", "statement", "loop"] [] k (eE K cl (dJ (be n)))
noncomputable abbrev ib(n k:Nat):Prop:=gu P w K mg base "make_body" ["sheet", "body", "loop"] [] k (eE K cl (be n))
noncomputable abbrev xw:Prop:=ib P w K mg base cl 7 24
noncomputable abbrev Da:Prop:=gu P w K mg base "made" ["program"] [] 25 (eE K cl yb)
noncomputable abbrev lW:Prop:=gu P w K mg base "_law_whole" ["_law_found"] [] 1 (oQ K cO)
noncomputable abbrev fO:Prop:=gu P w K mg base "_law_names_of_defs" ["_law_cell"] [] 1 (oQ K dm)
noncomputable abbrev i4:Prop:=gu P w K mg base "_law_params" ["_law_name"] [] 1 (eE K cl bN)
noncomputable abbrev mf:Prop:=gu P w K mg base "_law_mixed" ["_law_cell", "_law_k"] [] 1 (oQ K gh)
noncomputable abbrev jN:Prop:=gu P w K mg base "_law_leaf_by" ["_law_cell"] [] 1 (oQ K b0)
noncomputable abbrev jO:Prop:=gu P w K mg base "_law_line_by" ["_law_cell", "_law_name", "_law_names", "_law_opened"] [] 2 (eE K cl eQ)
noncomputable abbrev qt:Prop:=gu P w K mg base "_law_def" ["_law_script", "_law_k", "_law_names"] [] 3 (eE K cl gC)
noncomputable abbrev oy:Prop:=gu P w K mg base "_law_note" ["_law_word", "_law_found"] [] 1 (eE K cl jD)
noncomputable abbrev nc:Prop:=gu P w K mg base "_law_slots" ["_law_lines"] [] 2 (eE K cl jh)
noncomputable abbrev j5:Prop:=gu P w K mg base "_law_leaf_row" ["_law_word", "_law_line", "_law_at", "_law_slots_here"] [] 1 (eE K cl fZ)
noncomputable abbrev iL:Prop:=gu P w K mg base "_law_statement" ["_law_words", "_law_line", "_law_slots_here", "_law_begins", "_law_last"] [] 2 (eE K cl dF)
noncomputable abbrev js:Prop:=gu P w K mg base "_law_sizes" ["_law_words"] [] 1 (oQ K c6)
noncomputable abbrev rL:Prop:=gu P w K mg base "_law_due" ["_law_lines", "_law_begin", "_law_line", "_law_begins"] [] 3 (eE K cl lS)
noncomputable abbrev p7:Prop:=gu P w K mg base "_law_same" ["_law_found", "_law_due_here"] [] 2 (oQ K hU)
end
def rlX(s:String)(t:Lean.TSyntax `tactic):Lean.MacroM (Lean.TSyntax `tactic):=do
 let z (a:List (Lean.TSyntax `tactic)):Lean.MacroM (Lean.TSyntax `tactic):=do
  let a <-a.toArray.mapM λ a=>`(tactic| case $(Lean.mkIdent `zz):ident=>$a:tactic)
  `(tactic| first $[| ($a:tactic)]*)
 let F (l:List (Lean.TSyntax `tactic)):=do z (<-(List.range ((l.length+5) / 6)).mapM λi=>z ((l.drop (6*i)).take 6))
 let r <-(s.splitOn ";").mapM λg=>do
  let l:=g.splitOn " ";let u <-l.tail.mapM λn=>do
   let q:=n.splitOn ":";let i:=Lean.mkIdent ((if n.front.isDigit||n.front=='<' then n.drop 1 else q.head!).toName);let a <-if n.front.isDigit||n.front=='<' then pure (Array.replicate (n.front.toNat-48) (<- `(?_))) else (q.getLast!.toList.toArray.mapM λ c=>if c=='r' then `(rfl) else if c=='a' then `(by assumption) else if c=='d' then `(by first | decide | exact Nat.le_refl _ | exact Nat.le_add_right _ _ | omega) else if c=='k' then `(by decide +kernel) else if c=='w' then `(by with_unfolding_all rfl) else `(?_))
   if q.tail.isEmpty && !n.front.isDigit&&n.front != '<' then `(tactic| apply $i) else `(tactic| refine $(Lean.Syntax.mkApp i a))
  `(tactic| (show $(Lean.mkIdent l.head!.toName) ..;$(<-F u.reverse):tactic))
 `(tactic| first | $(<-F r.reverse):tactic | $t:tactic)
local macro_rules | `(tactic| case zz=>$t)=>`(tactic| ($t))
local macro_rules | `(tactic| left)=>do
 let t <-rlX "Pd AS FR Eo;Np Np.nil Np.cons;J9 J9.nil J9.cons;Mc AD E1 D9;ST KL Iq ON KC MB O3 MH AX ID Kl MN;Rv Gh;Qk DI.k Ge;HD Eh Dg;DI KY KW HS Io MZ;DR Ib Lw Lz En Kj Lj Jd;DG Mr Hw;DB KP NZ Oz D6 Ly Hs NG N9 Pa Ph;Jx Cg Im G7 MQ MW Cm;SA HW FZ Lx;PL Dj IG;DA HJ Mg;DK DE.dk Kq;nv zo zN DY AZ Ah Dy vX Ae tI Cw C0 zm Jw Cc Cs Kp;DO Kz HY Mj GQ LI;SE CO LJ Fa E9 Gc Hd FT Qh KQ Fz OE Gu Pi HG Kh Hk LS L8 OZ HP IB zv Pj;DE Nl A7 Pt CM Ga DO.de Kk Ps F7 KR K7 OK Mf LV NC Li GH Lk Kf OQ Lg P4 EQ Nk Ma Hg;pT uk zq rZ tR Fx EB Dn IV Dk D2 CQ FW Ni;DT HZ Cz KB LZ La KS OV L7 Bb Ka" (<- `(tactic| first | assumption | decide));let u <-rlX "pT uk zq rZ tR Fx EB Dn IV Dk D2 CQ;DZ NM;nv DY Dy vX Ae tI Cw C0 zm Jw Cc Cs Ah zo zN;Eq rfl" (<- `(tactic| first | exact E0 | decide))
 `(tactic| repeat' first | (case $(Lean.mkIdent `zz):ident=>with_reducible (show (_:Prop);first | intro _ | $t:tactic)) | $u:tactic)
local macro_rules | `(tactic| right)=>do
 let t <-rlX "I0 0Ra;Ou 0Qu 3OR;And 2And.intro;PassesOwn 0PassesOwn.never;PC 3QU 3Nr;I9 1OL 0RV 1Qz;Qj 0Sk;yk 0NU 1O9;PW 1Q1 2RQ 1Rh 2Ta;bR 7Ji;PO 0QE 1Qt;N1 0Qp 3NW;PG 5Q5 4Qx;BR 1QF;vR 0Qr 1QN Oa:ruu 2FA;PA 0Rk 3Q0;iW 0ER;PI 1Sj 7Os 5Qg 4N3 2QQ;PS 0Pu 4Mw 5KE 3P7 6QS 5Q8 6Sc 2Qi 3SD 1Sz 6Me <Eu;qW 1Mn;gz 0SN 0Th 0RG 1FF 1Qw 0RM 0Q9 2Sg 0QD 1LC 0Rg 0Tf 1HL 0NQ 0QG 2RZ 0QT;PT 1PW.pt 6Om 3QJ 2RD 2MK 1Rx 4QI 7QA;PE 6NP 5NK 2T0 2TB 2T6 2TD 2T3 6Tx 5SK 8Tl 6Tr 9Tp 6Ti 1S9 2Tg 0PM 4QR 0OO 0Tt 3Qq 1RH 3OG 2Rb 2Tj 7N6 4NV 0RB 4Q7 1Qy 1QL 4Pc 3SI 0Ry 4Md 0RO 4O1 7RF 6Tn 5Rn 5Sv 7RN 8NH 5Rt;PS CY:wuuuuu" (<- `(tactic| intro _));let u <-rlX "Or Pr:r Or.inr:r Or.inl:r;J6 Or.inr:r Or.inl:r;O0 Pr:r Or.inl:r;IY R9:aad;Exists R5:aad;M2 M2.mk:rrrr;PE KJ:rad GF FB Gx Er pX:rard Dt:rad;eW eW.mono:a?;dI dI.mono:ad;Paired Paired.nil:;hZ hZ.mk:rrrkrkk;M1 M1.mk:rrrr;M0 M0.mk:rr;FY RL:a;DZ NM:a;EY 4QO;QB 0Sw 2RA 2SV 0RT 0Tv 1Sn 1SJ;QM 1QK 0OJ 1RC 0Ql 0Rp 0Tu 0SU 0Td;gz 2Sg 2RZ;PS 3QX;vR 2FA 1QN" (<- `(tactic| first | assumption | rfl | exact λ _ _=>rfl | exact λ _=>rfl | decide +kernel))
 `(tactic| ((repeat' first | (case $(Lean.mkIdent `zz):ident=>with_reducible $t:tactic) | $u:tactic);all_goals try decide))
section
variable{P:Program}{w:World}{K:Frag}{mg:Str->Option Value}{base:Heap}{cl:Str->Addr}
set_option maxHeartbeats 4000000
theorem uu(D:fB K mg "bodies_of" ["statement"] [] pF):p8 P w K mg base:=
 kF (N:=["statement"]) D rfl (λρ=>by left) (by right) rfl rfl (by right)
theorem B1(D:fB K mg "placed" ["body", "around"] [.none] rG)(_:p8 P w K mg base):qK P w K mg base:=
 sf (k:=1) (F:=λn=>oQ K (cr n)) (JH D λ_=>rfl) (λn _=>kF (N:=["body", "around", "outer", "found", "statement", "inner"]) D rfl (λρ=>by left) (by right) rfl rfl (by right)) 8
theorem mW(D:fB K mg "expressions_of" ["statement"] [] iB)(_:mg "list" = none):fG P w K mg base:=
 kF (N:=["statement", "kind"]) D rfl (λρ=>by left) (by right) rfl rfl (by right)
theorem wY(D:fB K mg "given_by" ["statement"] [] qz):rN P w K mg base:=
 kF (N:=["statement"]) D rfl (λρ=>by left) (by right) rfl rfl (by right)
theorem uH(D:fB K mg "is_letter" ["sign"] [] pB):oU P w K mg base:=
 kF (N:=["sign"]) D rfl (λρ=>by left) (by right) rfl rfl (by right)
theorem ve(D:fB K mg "is_figure" ["sign"] [] oF):oI P w K mg base:=
 kF (N:=["sign"]) D rfl (λρ=>by left) (by right) rfl rfl (by right)
theorem xN(D:fB K mg "is_name" ["text"] [] tS)(_:oU P w K mg base)(_:mg "len" = none)(_:mg "all" = none){tLN:Tok}(m_LONGEST_NAME:mg "LONGEST_NAME" = some (.int 8 tLN))(g_LONGEST_NAME:∀ρ G,Dw K ρ G (.int 8) ((.int 8))){a_KEPT:Addr}(m_KEPT:mg "KEPT" = some (.ref a_KEPT))(g_KEPT:pU K a_KEPT ([(Str.ofString "def"),(Str.ofString "set"),(Str.ofString "put"),(Str.ofString "tell"),(Str.ofString "if"),(Str.ofString "else"),(Str.ofString "while"),(Str.ofString "end"),(Str.ofString "break"),(Str.ofString "again"),(Str.ofString "call"),(Str.ofString "return"),(Str.ofString "stop"),(Str.ofString "join"),(Str.ofString "meet"),(Str.ofString "lane"),(Str.ofString "lanes"),(Str.ofString "mine"),(Str.ofString "box"),(Str.ofString "div"),(Str.ofString "rem"),(Str.ofString "sum"),(Str.ofString "most"),(Str.ofString "least"),(Str.ofString "ahead")])):ou P w K mg base:=
 kF (N:=["text"]) D rfl (λρ=>by left) (by right) rfl rfl (by right)
theorem qu(D:fB K mg "read_number" ["text"] [] kM)(_:oI P w K mg base)(_:mg "all" = none)(_:mg "len" = none)(_:mg "int" = none){tMF:Tok}(m_MOST_FIGURES:mg "MOST_FIGURES" = some (.int 9 tMF))(g_MOST_FIGURES:∀ρ G,Dw K ρ G (.int 9) ((.int 9))):kX P w K mg base:=
 kF (N:=["text", "figures"]) D rfl (λρ=>by left) (by right) rfl rfl (by right)
theorem vi(D:fB K mg "leaves_of" ["expression"] [] pv){a_WORKINGS:Addr}(m_WORKINGS:mg "WORKINGS" = some (.ref a_WORKINGS))(g_WORKINGS:pU K a_WORKINGS ([(Str.ofString "+"),(Str.ofString "-"),(Str.ofString "*"),(Str.ofString "div"),(Str.ofString "rem"),(Str.ofString "<"),(Str.ofString "=")])):o7 P w K mg base:=
 sf (k:=0) (F:=λn=>oQ K (eL n)) (JH D λ_=>rfl) (λn _=>kF (N:=["expression", "found", "part"]) D rfl (λρ=>by left) (by right) rfl rfl (by right)) 2
theorem nP(D:qf (λf fd=>Mk K (cl "Walk") f/\bA K fd ["self", "row"] []) K "__init__" "Walk.__init__" jv)(q_Walk:eY K mg cl):fV P w K mg base cl:=by
 obtain⟨_,_,_,_⟩:=q_Walk;exact
 ci (N:=["self", "row"]) D rfl (by left) (by right) rfl rfl (by right)
theorem pS(D:qf (λf fd=>gm K (cl "Walk") "is_over" f/\bA K fd ["self"] []) K "is_over" "Walk.is_over" jI)(q_Walk:eY K mg cl)(_:mg "len" = none):dr P w K mg base cl:=by
 obtain⟨_,_,_,_⟩:=q_Walk;exact
 ci (N:=["self"]) D rfl (by left) (by right) rfl rfl (by right)
theorem sh(D:qf (λf fd=>gm K (cl "Walk") "before" f/\bA K fd ["self"] []) K "before" "Walk.before" kY)(q_Walk:eY K mg cl):lh P w K mg base cl:=by
 obtain⟨_,_,_,_⟩:=q_Walk;exact
 ci (N:=["self"]) D rfl (by left) (by right) rfl rfl (by right)
theorem sR(D:qf (λf fd=>gm K (cl "Walk") "taken" f/\bA K fd ["self"] []) K "taken" "Walk.taken" mm)(q_Walk:eY K mg cl):fq P w K mg base cl:=by
 obtain⟨_,_,_,_⟩:=q_Walk;exact
 ci (N:=["self", "thing"]) D rfl (by left) (by right) rfl rfl (by right)
theorem wn(D:fB K mg "words_of" ["text"] [] sk)(h_Walk___init__:fV P w K mg base cl)(q_Walk:eY K mg cl):qq P w K mg base cl:=by
 obtain⟨_,_,_,_⟩:=q_Walk;exact
 ci (N:=["text"]) D rfl (by left) (by obtain⟨_,_,⟨_,_⟩,_⟩:=h_Walk___init__;right) rfl rfl (by right)
theorem uV(D:fB K mg "word_from" ["words"] [] oZ)(h_Walk_is_over:dr P w K mg base cl)(h_Walk_taken:fq P w K mg base cl)(q_Walk:eY K mg cl):hJ P w K mg base cl:=by
 obtain⟨_,_,_,_⟩:=q_Walk;exact
 ci (N:=["words"]) D rfl (by left) (by obtain⟨_,_,⟨_,_⟩,_⟩:=h_Walk_is_over;obtain⟨_,_,⟨_,_⟩,_⟩:=h_Walk_taken;right) rfl rfl (by right)
theorem sO(D:fB K mg "check_over" ["words"] [] m6)(h_Walk_is_over:dr P w K mg base cl)(q_Walk:eY K mg cl):mV P w K mg base cl:=by
 obtain⟨_,_,_,_⟩:=q_Walk;exact
 ci (N:=["words"]) D rfl (by left) (by obtain⟨_,_,⟨_,_⟩,_⟩:=h_Walk_is_over;right) rfl rfl (by right)
theorem vj(D:fB K mg "name_from" ["words"] [] pC)(_:hJ P w K mg base cl)(_:ou P w K mg base):jJ P w K mg base cl:=
 ci (N:=["words", "word"]) D rfl (by left) (by right) rfl rfl (by right)
theorem uJ(D:fB K mg "part_from" ["words", "deep"] [] pE)(_:hJ P w K mg base cl)(_:ou P w K mg base)(_:kX P w K mg base){a_WORKINGS:Addr}(m_WORKINGS:mg "WORKINGS" = some (.ref a_WORKINGS))(g_WORKINGS:pU K a_WORKINGS ([(Str.ofString "+"),(Str.ofString "-"),(Str.ofString "*"),(Str.ofString "div"),(Str.ofString "rem"),(Str.ofString "<"),(Str.ofString "=")])){a_SIGNS:Addr}(m_SIGNS:mg "SIGNS" = some (.ref a_SIGNS))(g_SIGNS:pU K a_SIGNS ([(Str.ofString "lane"),(Str.ofString "lanes"),(Str.ofString "mine")])):p9 P w K mg base cl:=
 sf (k:=2) (F:=λn=>eE K cl (ic n)) (uC D λ_ _=>rfl) (λn _=>ci (N:=["words", "deep", "word", "first"]) D rfl (by left) (by right) rfl rfl (by right)) 2
theorem lC(D:fB K mg "expression_from" ["words"] [] gZ)(_:p9 P w K mg base cl){tMD:Tok}(m_MOST_DEEP:mg "MOST_DEEP" = some (.int 6 tMD))(g_MOST_DEEP:∀ρ G,Dw K ρ G (.int 6) ((.int 6))):fh P w K mg base cl:=
 ci (N:=["words"]) D rfl (by left) (by right) rfl rfl (by right)
theorem xZ(D:fB K mg "several" ["part_from", "words"] [] tz)(h_Walk_is_over:dr P w K mg base cl)(_:jJ P w K mg base cl)(_:fh P w K mg base cl)(q_Walk:eY K mg cl)(_:mg "len" = none)(_:Ie K mg){tMP:Tok}(m_MOST_PARTS:mg "MOST_PARTS" = some (.int 6 tMP))(g_MOST_PARTS:∀ρ G,Dw K ρ G (.int 6) ((.int 6))):tK P w K mg base cl:=by
 obtain⟨_,_,_,_⟩:=q_Walk;exact
 ci (N:=["part_from", "words", "parts"]) D rfl (by left) (by obtain⟨_,_,⟨_,_⟩,_⟩:=h_Walk_is_over;right) rfl rfl (by right)
theorem vw(D:fB K mg "read_part" ["form", "words"] [] ox)(_:tK P w K mg base cl)(_:jJ P w K mg base cl)(_:fh P w K mg base cl){y_name_from:Addr}(_:N5 K mg "name_from" y_name_from){y_expression_from:Addr}(_:N5 K mg "expression_from" y_expression_from):oz P w K mg base cl:=
 ci (N:=["form", "words"]) D rfl (by left) (by right) rfl rfl (by right)
theorem v6(D:fB K mg "read_line" ["text"] [] oE)(_:qq P w K mg base cl)(_:hJ P w K mg base cl)(_:oz P w K mg base cl)(_:mV P w K mg base cl)(_:mg "tuple" = none){a_FORMS:Addr}(m_FORMS:mg "FORMS" = some (.ref a_FORMS))(g_FORMS:vD K w.params a_FORMS d9):oK P w K mg base cl:=
 ci (N:=["text", "words", "kind", "parts"]) D rfl (by left) (by right) rfl rfl (by right)
theorem nW(D:qf (λf fd=>Mk K (cl "Nest") f/\bA K fd ["self"] []) K "__init__" "Nest.__init__" j8)(q_Nest:nQ K mg cl):ju P w K mg base cl:=by
 obtain⟨_,_,_,_⟩:=q_Nest;exact
 ci (N:=["self"]) D rfl (by left) (by right) rfl rfl (by right)
theorem mG(D:qf (λf fd=>gm K (cl "Nest") "check_def" f/\bA K fd ["self", "name"] []) K "check_def" "Nest.check_def" i8)(q_Nest:nQ K mg cl):iR P w K mg base cl:=by
 obtain⟨_,_,_,_⟩:=q_Nest;exact
 ci (N:=["self", "name"]) D rfl (by left) (by right) rfl rfl (by right)
theorem kB(D:qf (λf fd=>gm K (cl "Nest") "check_block" f/\bA K fd ["self", "kind"] []) K "check_block" "Nest.check_block" gH)(q_Nest:nQ K mg cl)(_:mg "len" = none){tMR:Tok}(m_MOST_ROUND:mg "MOST_ROUND" = some (.int 5 tMR))(g_MOST_ROUND:∀ρ G,Dw K ρ G (.int 5) ((.int 5))):gJ P w K mg base cl:=by
 obtain⟨_,_,_,_⟩:=q_Nest;exact
 ci (N:=["self", "kind"]) D rfl (by left) (by right) rfl rfl (by right)
theorem sD(D:qf (λf fd=>gm K (cl "Nest") "check" f/\bA K fd ["self", "line"] []) K "check" "Nest.check" mQ)(h_Nest_check_def:iR P w K mg base cl)(h_Nest_check_block:gJ P w K mg base cl)(q_Nest:nQ K mg cl):ma P w K mg base cl:=by
 obtain⟨_,_,_,_⟩:=q_Nest;exact
 ci (N:=["self", "line", "kind"]) D rfl (by left) (by obtain⟨_,_,⟨_,_⟩,_⟩:=h_Nest_check_def;obtain⟨_,_,⟨_,_⟩,_⟩:=h_Nest_check_block;right) rfl rfl (by right)
theorem rY(D:fB K mg "check_nests" ["lines"] [] kW)(h_Nest___init__:ju P w K mg base cl)(h_Nest_check:ma P w K mg base cl)(q_Nest:nQ K mg cl):kI P w K mg base cl:=by
 obtain⟨_,_,_,_⟩:=q_Nest;exact
 ci (N:=["lines", "nest", "line"]) D rfl (by left) (by obtain⟨_,_,⟨_,_⟩,_⟩:=h_Nest___init__;obtain⟨_,_,⟨_,_⟩,_⟩:=h_Nest_check;right) rfl rfl (by right)
theorem sK{n k:Nat}(hk:1<=k)(D:fB K mg "other_from" ["lines"] [] jk)(h_Walk_taken:fq P w K mg base cl)(q_Walk:eY K mg cl):mj P w K mg base cl n (k+1):=by
 obtain⟨_,_,_,_⟩:=q_Walk;exact
 ci (N:=["lines", "body"]) D rfl (by left) (by obtain⟨_,_,⟨_,_⟩,_⟩:=h_Walk_taken;right) rfl rfl (by right)
theorem my{n k:Nat}(hk:1<=k)(D:fB K mg "statement_from" ["lines"] [] fz)(h_Walk_taken:fq P w K mg base cl)(_:mj P w K mg base cl n (k+1))(_:hX P w K mg base cl n (k+0))(q_Walk:eY K mg cl):iM P w K mg base cl n (k+2):=by
 obtain⟨_,_,_,_⟩:=q_Walk;exact
 ci (N:=["lines", "line", "statement"]) D rfl (by left) (by obtain⟨_,_,⟨_,_⟩,_⟩:=h_Walk_taken;right) rfl rfl (by right)
theorem uz{n k:Nat}(hk:1<=k)(D:fB K mg "body_from" ["lines"] [] jF)(h_Walk_before:lh P w K mg base cl)(_:iM P w K mg base cl n (k+2))(q_Walk:eY K mg cl):hX P w K mg base cl (n+1) (k+3):=by
 obtain⟨_,_,_,_⟩:=q_Walk;exact
 ci (N:=["lines", "body"]) D rfl (by left) (by obtain⟨_,_,⟨_,_⟩,_⟩:=h_Walk_before;right) rfl rfl (by right)
theorem xj(D:fB K mg "def_from" ["lines"] [] rW)(h_Walk_taken:fq P w K mg base cl)(_:w9 P w K mg base cl)(q_Walk:eY K mg cl):qw P w K mg base cl:=by
 obtain⟨_,_,_,_⟩:=q_Walk;exact
 ci (N:=["lines", "line", "number", "body"]) D rfl (by left) (by obtain⟨_,_,⟨_,_⟩,_⟩:=h_Walk_taken;right) rfl rfl (by right)
theorem sy(D:fB K mg "check_calls" ["body", "counts"] [] kH)(_:qK P w K mg base)(_:mg "len" = none):kR P w K mg base cl:=
 ci (N:=["body", "counts", "statement", "around", "called"]) D rfl (by left) (by right) rfl rfl (by right)
theorem rM(D:fB K mg "check_names" ["program"] [] kS)(_:kR P w K mg base cl)(_:mg "len" = none)(_:mg "set" = none):kU P w K mg base cl:=
 ci (N:=["program", "counts", "name", "params", "body", "line", "last"]) D rfl (by left) (by right) rfl rfl (by right)
theorem GK(D:fB K mg "read" ["text"] [] BV)(_:oK P w K mg base cl)(_:kI P w K mg base cl)(h_Walk___init__:fV P w K mg base cl)(h_Walk_is_over:dr P w K mg base cl)(_:qw P w K mg base cl)(_:kU P w K mg base cl)(q_Walk:eY K mg cl)(_:mg "len" = none){tML:Tok}(m_MOST_LINES:mg "MOST_LINES" = some (.int 200 tML))(g_MOST_LINES:∀ρ G,Dw K ρ G (.int 200) ((.int 200))):Ck P w K mg base cl:=by
 obtain⟨_,_,_,_⟩:=q_Walk;exact
 ci (N:=["text", "texts", "row", "lines", "program"]) D rfl (by left) (by obtain⟨_,_,⟨_,_⟩,_⟩:=h_Walk___init__;obtain⟨_,_,⟨_,_⟩,_⟩:=h_Walk_is_over;right) rfl rfl (by right)
theorem lV(D:qf (λf fd=>Mk K (cl "Sheet") f/\bA K fd ["self"] []) K "__init__" "Sheet.__init__" iH)(q_Sheet:eR K mg cl):iN P w K mg base cl:=by
 obtain⟨_,_,_,_,_,_⟩:=q_Sheet;exact
 ci (N:=["self"]) D rfl (by left) (by right) rfl rfl (by right)
theorem uI(D:qf (λf fd=>gm K (cl "Sheet") "lay" f/\bA K fd ["self", "key"] []) K "lay" "Sheet.lay" pz)(q_Sheet:eR K mg cl)(_:mg "len" = none):fL P w K mg base cl:=by
 obtain⟨_,_,_,_,_,_⟩:=q_Sheet;exact
 ci (N:=["self", "key"]) D rfl (by left) (by right) rfl rfl (by right)
theorem rO(D:qf (λf fd=>gm K (cl "Sheet") "begin" f/\bA K fd ["self", "name", "slots"] []) K "begin" "Sheet.begin" lg)(h_Sheet_lay:fL P w K mg base cl)(q_Sheet:eR K mg cl):kP P w K mg base cl:=by
 obtain⟨_,_,_,_,_,_⟩:=q_Sheet;exact
 ci (N:=["self", "name", "slots"]) D rfl (by left) (by obtain⟨_,_,⟨_,_⟩,_⟩:=h_Sheet_lay;right) rfl rfl (by right)
theorem uU(D:qf (λf fd=>gm K (cl "Sheet") "add" f/\bA K fd ["self", "row"] []) K "add" "Sheet.add" oV)(q_Sheet:eR K mg cl):eJ P w K mg base cl:=by
 obtain⟨_,_,_,_,_,_⟩:=q_Sheet;exact
 ci (N:=["self", "row"]) D rfl (by left) (by right) rfl rfl (by right)
theorem sP(D:qf (λf fd=>gm K (cl "Sheet") "free" f/\bA K fd ["self"] []) K "free" "Sheet.free" mE)(q_Sheet:eR K mg cl)(_:mg "len" = none):gj P w K mg base cl:=by
 obtain⟨_,_,_,_,_,_⟩:=q_Sheet;exact
 ci (N:=["self"]) D rfl (by left) (by right) rfl rfl (by right)
theorem yh(D:fB K mg "settled" ["row", "spots"] [] uo):tX P w K mg base cl:=
 ci (N:=["row", "spots"]) D rfl (by left) (by right) rfl rfl (by right)
theorem pW(D:fB K mg "names_within" ["body"] [] kh)(_:qK P w K mg base)(_:rN P w K mg base)(_:fG P w K mg base)(_:o7 P w K mg base):jR P w K mg base:=
 kF (N:=["body", "names", "statement", "around", "given", "expression"]) D rfl (λρ=>by left) (by right) rfl rfl (by right)
theorem wv(D:fB K mg "slots_of" ["params", "body"] [] ql)(_:jR P w K mg base)(_:mg "len" = none):re P w K mg base cl:=
 ci (N:=["params", "body", "slots", "name"]) D rfl (by left) (by right) rfl rfl (by right)
theorem lu(D:fB K mg "make_expression" ["sheet", "line", "expression", "at"] [] gU)(h_Sheet_add:eJ P w K mg base cl)(q_Sheet:eR K mg cl){a_SIGNS:Addr}(m_SIGNS:mg "SIGNS" = some (.ref a_SIGNS))(g_SIGNS:pU K a_SIGNS ([(Str.ofString "lane"),(Str.ofString "lanes"),(Str.ofString "mine")])):hW P w K mg base cl:=by
 obtain⟨_,_,_,_,_,_⟩:=q_Sheet;exact
 sf (k:=1) (F:=λn=>eE K cl (cZ n)) (uC D λ_ _=>rfl) (λn _=>ci (N:=["sheet", "line", "expression", "at", "kind"]) D rfl (by left) (by obtain⟨_,_,⟨_,_⟩,_⟩:=h_Sheet_add;right) rfl rfl (by right)) 2
theorem uE(D:fB K mg "make_rest" ["sheet", "statement"] [] p0)(h_Sheet_free:gj P w K mg base cl)(h_Sheet_add:eJ P w K mg base cl)(q_Sheet:eR K mg cl)(_:mg "len" = none):o9 P w K mg base cl:=by
 obtain⟨_,_,_,_,_,_⟩:=q_Sheet;exact
 ci (N:=["sheet", "statement", "kind", "line", "first"]) D rfl (by left) (by obtain⟨_,_,⟨_,_⟩,_⟩:=h_Sheet_free;obtain⟨_,_,⟨_,_⟩,_⟩:=h_Sheet_add;right) rfl rfl (by right)
theorem y6{n k:Nat}(hk:3<=k)(D:fB K mg "make_if" ["sheet", "statement", "loop"] [] nJ)(h_Sheet_add:eJ P w K mg base cl)(h_Sheet_free:gj P w K mg base cl)(_:ib P w K mg base cl n (k+0))(h_Sheet_lay:fL P w K mg base cl)(q_Sheet:eR K mg cl):tu P w K mg base cl n (k+1):=by
 obtain⟨_,_,_,_,_,_⟩:=q_Sheet;exact
 ci (N:=["sheet", "statement", "loop", "line"]) D rfl (by left) (by obtain⟨_,_,⟨_,_⟩,_⟩:=h_Sheet_add;obtain⟨_,_,⟨_,_⟩,_⟩:=h_Sheet_free;obtain⟨_,_,⟨_,_⟩,_⟩:=h_Sheet_lay;right) rfl rfl (by right)
theorem mY{n k:Nat}(hk:3<=k)(D:fB K mg "make_statement" ["sheet", "statement", "loop"] [] f8)(h_Sheet_lay:fL P w K mg base cl)(h_Sheet_add:eJ P w K mg base cl)(_:hW P w K mg base cl)(_:fG P w K mg base)(h_Sheet_free:gj P w K mg base cl)(_:tu P w K mg base cl n (k+1))(_:o9 P w K mg base cl)(q_Sheet:eR K mg cl)(_:mg "enumerate" = none):iJ P w K mg base cl n (k+2):=by
 obtain⟨_,_,_,_,_,_⟩:=q_Sheet;exact
 ci (N:=["sheet", "statement", "loop", "kind", "line", "at", "expression"]) D rfl (by left) (by obtain⟨_,_,⟨_,_⟩,_⟩:=h_Sheet_lay;obtain⟨_,_,⟨_,_⟩,_⟩:=h_Sheet_add;obtain⟨_,_,⟨_,_⟩,_⟩:=h_Sheet_free;right) rfl rfl (by right)
theorem vg{n k:Nat}(hk:3<=k)(D:fB K mg "make_body" ["sheet", "body", "loop"] [] kb)(_:iJ P w K mg base cl n (k+2)):ib P w K mg base cl (n+1) (k+3):=
 ci (N:=["sheet", "body", "loop", "statement"]) D rfl (by left) (by right) rfl rfl (by right)
theorem HA(D:fB K mg "made" ["program"] [] CF)(h_Sheet___init__:iN P w K mg base cl)(h_Sheet_begin:kP P w K mg base cl)(_:re P w K mg base cl)(_:xw P w K mg base cl)(h_Sheet_lay:fL P w K mg base cl)(h_Sheet_add:eJ P w K mg base cl)(_:tX P w K mg base cl)(q_Sheet:eR K mg cl):Da P w K mg base cl:=by
 obtain⟨_,_,_,_,_,_⟩:=q_Sheet;exact
 ci (N:=["program", "sheet", "ordered", "name", "params", "body", "line", "last"]) D rfl (by left) (by obtain⟨_,_,⟨_,_⟩,_⟩:=h_Sheet___init__;obtain⟨_,_,⟨_,_⟩,_⟩:=h_Sheet_begin;obtain⟨_,_,⟨_,_⟩,_⟩:=h_Sheet_lay;obtain⟨_,_,⟨_,_⟩,_⟩:=h_Sheet_add;right) rfl rfl (by right)
theorem sY(D:fB K mg "_law_whole" ["_law_found"] [] mH)(_:mg "isinstance" = none)(_:mg "bool" = none)(_:mg "int" = none):lW P w K mg base:=
 kF (N:=["_law_found"]) D rfl (λρ=>by left) (by right) rfl rfl (by right)
theorem j9(D:fB K mg "_law_names_of_defs" ["_law_cell"] [] fN):fO P w K mg base:=
 kF (N:=["_law_cell", "_law_some", "_law_many", "_law_names", "_law_place"]) D rfl (λρ=>by left) (by right) rfl rfl (by right)
theorem rm(D:fB K mg "_law_params" ["_law_name"] [] kJ):i4 P w K mg base cl:=
 ci (N:=["_law_name", "_law_many"]) D rfl (by left) (by right) rfl rfl (by right)
theorem sW(D:fB K mg "_law_mixed" ["_law_cell", "_law_k"] [] mr):mf P w K mg base:=
 kF (N:=["_law_cell", "_law_k", "_law_number"]) D rfl (λρ=>by left) (by right) rfl rfl (by right)
theorem pP(D:fB K mg "_law_leaf_by" ["_law_cell"] [] jY)(_:mg "str" = none):jN P w K mg base:=
 kF (N:=["_law_cell"]) D rfl (λρ=>by left) (by right) rfl rfl (by right)
theorem pK(D:fB K mg "_law_line_by" ["_law_cell", "_law_name", "_law_names", "_law_opened"] [] jP)(_:i4 P w K mg base cl)(_:jN P w K mg base)(_:mg "len" = none)(_:mg "range" = none):jO P w K mg base cl:=
 ci (N:=["_law_cell", "_law_name", "_law_names", "_law_opened", "_law_kind", "_law_rest", "_law_others", "_law_other", "_law_handed"]) D rfl (by left) (by right) rfl rfl (by right)
theorem vY(D:fB K mg "_law_def" ["_law_script", "_law_k", "_law_names"] [] qr)(_:i4 P w K mg base cl)(_:jO P w K mg base cl)(_:mf P w K mg base)(_:mg "len" = none)(_:mg "int" = none)(_:mg "enumerate" = none):qt P w K mg base cl:=
 ci (N:=["_law_script", "_law_k", "_law_names", "_law_lines", "_law_opened", "_law_j", "_law_cell", "_law_line"]) D rfl (by left) (by right) rfl rfl (by right)
theorem vM(D:fB K mg "_law_note" ["_law_word", "_law_found"] [] oS):oy P w K mg base cl:=
 ci (N:=["_law_word", "_law_found"]) D rfl (by left) (by right) rfl rfl (by right)
theorem sN(D:fB K mg "_law_slots" ["_law_lines"] [] mh)(_:oy P w K mg base cl)(_:mg "int" = none):nc P w K mg base cl:=
 ci (N:=["_law_lines", "_law_found", "_law_line", "_law_word"]) D rfl (by left) (by right) rfl rfl (by right)
theorem nB(D:fB K mg "_law_leaf_row" ["_law_word", "_law_line", "_law_at", "_law_slots_here"] [] j0)(_:mg "int" = none):j5 P w K mg base cl:=
 ci (N:=["_law_word", "_law_line", "_law_at", "_law_slots_here"]) D rfl (by left) (by right) rfl rfl (by right)
theorem lZ(D:fB K mg "_law_statement" ["_law_words", "_law_line", "_law_slots_here", "_law_begins", "_law_last"] [] i9)(_:j5 P w K mg base cl)(_:mg "len" = none)(_:mg "enumerate" = none):iL P w K mg base cl:=
 ci (N:=["_law_words", "_law_line", "_law_slots_here", "_law_begins", "_law_last", "_law_free", "_law_due_here", "_law_handed", "_law_k", "_law_word"]) D rfl (by left) (by right) rfl rfl (by right)
theorem sU(D:fB K mg "_law_sizes" ["_law_words"] [] m8)(_:mg "len" = none):js P w K mg base:=
 kF (N:=["_law_words"]) D rfl (λρ=>by left) (by right) rfl rfl (by right)
theorem wW(D:fB K mg "_law_due" ["_law_lines", "_law_begin", "_law_line", "_law_begins"] [] qE)(_:nc P w K mg base cl)(_:js P w K mg base)(_:iL P w K mg base cl)(_:mg "sum" = none)(_:mg "len" = none)(_:mg "enumerate" = none):rL P w K mg base cl:=
 ci (N:=["_law_lines", "_law_begin", "_law_line", "_law_begins", "_law_slots_here", "_law_last", "_law_due_here", "_law_waiting", "_law_k", "_law_words", "_law_place", "_law_other", "_law_free"]) D rfl (by left) (by right) rfl rfl (by right)
theorem vv(D:fB K mg "_law_same" ["_law_found", "_law_due_here"] [] oH)(_:lW P w K mg base)(_:mg "isinstance" = none)(_:mg "tuple" = none)(_:mg "all" = none)(_:mg "str" = none):p7 P w K mg base:=
 kF (N:=["_law_found", "_law_due_here"]) D rfl (λρ=>by left) (by right) rfl rfl (by right)
theorem K8{R:Addr->FuncData->Prop}(hlaw:∀ns:List Int,ns.length<=63->∃S,Fo [.list (ns.map .int)] []=some (.ok (.bool true),S))(D:qf R K "law" "law" vV)(_:fO P w K mg base)(_:qt P w K mg base cl)(_:js P w K mg base)(_:Ck P w K mg base cl)(_:Da P w K mg base cl)(_:rL P w K mg base cl)(_:p7 P w K mg base)(_:mg "len" = none)(_:mg "range" = none)(_:mg "sum" = none)(_:mg "isinstance" = none)(_:mg "list" = none)(_:mg "all" = none):Ce R P w K mg base 26 ["_law_script"] (vB K):=
 Ce.imp (sp:=eE K cl Fo) (ci (N:=["_law_script", "_law_cell", "_law_names", "_law_parts", "_law_starts", "_law_order", "_law_begins", "_law_at", "_law_k", "_law_texts", "_law_part", "_law_text", "_law_program", "_law_rows", "_law_due_here"]) D rfl (by left) (by right) rfl rfl (by right)) λvs H Q E h=>by
  obtain⟨a,ns,rfl,hS,h63,q⟩:=h;obtain⟨Sf,hl⟩:=hlaw ns h63;exact⟨[],H,[],[.list (ns.map .int)],.bool true,Sf,.refl _,Km,.cons (.lst hS (.ints ns)) .nil,hl,λv ρ' G' H' g s dv=>by cases dv;exact q H'⟩
end
theorem tF{f:DS->Option W}{δ:DS}{a b:Str}(h1:f δ=some (.str a))(h2:decide (a=b)=false):aw bM f (dC (.str b)) δ=some false:=by first | rfl | simp![uD,h1,h2]
theorem tT{f:DS->Option W}{δ:DS}{a:Str}(h1:f δ=some (.str a)):aw bM f (dC (.str a)) δ=some true:=by first | rfl | simp![uD,h1]
theorem sF{f:DS->Option W}{δ:DS}{a b:Str}{S:ai}(h1:f δ=some (.str a))(h2:decide (a=b)=false):aa (aw bM f (dC (.str b))) δ S=some (.ok false,S):=aj (tF h1 h2)
theorem sT{f:DS->Option W}{δ:DS}{a:Str}{S:ai}(h1:f δ=some (.str a)):aa (aw bM f (dC (.str a))) δ S=some (.ok true,S):=aj (tT h1)
theorem x0{f:DS->Option W}{δ:DS}{w:W}{l:List W}(h:f δ=some (.tuple (w::l))):aF aW f (!0) δ=some w:=by simp only[aF,h,dC,TZ,qN,BU]
theorem x1{f:DS->Option W}{δ:DS}{v w:W}{l:List W}(h:f δ=some (.tuple (v::w::l))):aF aW f (!1) δ=some w:=by simp only[aF,h,dC,TZ,qN,SQ]
theorem x2{f:DS->Option W}{δ:DS}{u v w:W}{l:List W}(h:f δ=some (.tuple (u::v::w::l))):aF aW f (!2) δ=some w:=by simp only[aF,h,dC,TZ,qN,SL]
theorem x3{f:DS->Option W}{δ:DS}{t u v w:W}{l:List W}(h:f δ=some (.tuple (t::u::v::w::l))):aF aW f (!3) δ=some w:=by simp only[aF,h,dC,TZ,qN,TR]
theorem x4{f:DS->Option W}{δ:DS}{s t u v w:W}{l:List W}(h:f δ=some (.tuple (s::t::u::v::w::l))):aF aW f (!4) δ=some w:=by simp only[aF,h,dC,TZ,qN,TF]
theorem g9{f g:DS->Option i5}{δ:DS}{d:W}(h:f δ=some (.rt d)):bx f g δ=some (.rt d):=by unfold bx;rw[h]
theorem iF{f:DS->Option W}{δ:DS}{a b:Str}{g k:DS->Option i5}(h1:f δ=some (.str a))(h2:decide (a=b)=false):bx (cA (aw bM f (dC (.str b))) g ay) k δ=k δ:=bb (bq (b:=false) (tF h1 h2) rfl) rfl
theorem iT{f:DS->Option W}{δ:DS}{a:Str}{d:W}{g k:DS->Option i5}(h1:f δ=some (.str a))(h2:g δ=some (.rt d)):bx (cA (aw bM f (dC (.str a))) g ay) k δ=some (.rt d):=g9 (bq (b:=true) (tT h1) h2)
theorem cF{f:DS->Option W}{δ:DS}{a b:Str}{S:ai}{g k:DS->ai->SO}(h1:f δ=some (.str a))(h2:decide (a=b)=false):ak (bh (aa (aw bM f (dC (.str b)))) g (ag ay)) k δ S=k δ S:=af ((aY (sF h1 h2)).trans rfl)
theorem fF{f:DS->Option W}{δ:DS}{a b:Str}{S:ai}{g k:DS->ai->SO}(h1:f δ=some (.str a))(h2:decide (a=b)=false):bh (aa (aw bM f (dC (.str b)))) g k δ S=k δ S:=aY (sF h1 h2)
theorem fT{f:DS->Option W}{δ:DS}{a:Str}{S:ai}{g k:DS->ai->SO}(h1:f δ=some (.str a)):bh (aa (aw bM f (dC (.str a)))) g k δ S=g δ S:=eZ (sT h1)
theorem gT{f:DS->Option W}{g:DS->Option (List W)}{δ:DS}{a:W}{l:List W}(h1:f δ=some a)(h2:g δ=some l):ab f g δ=some (a::l):=by simp only[ab,h1,h2,TZ,Ue]
theorem Q2{g:DS->Option (List W)}{δ:DS}{l:List W}(h:g δ=some l)(hl:l.length<=9000):bJ g δ=some (.tuple l):=by
 have z:=sz _ hl;simp only[bJ,h,TZ,Ul z]
theorem PB{f:DS->Option W}{δ:DS}{a:W}(h:f δ=some a):bJ #[f] δ=some (.tuple [a]):=Q2 (gT h rfl) (by simp)
theorem xB{f g:DS->Option W}{δ:DS}{a b:W}(h:f δ=some a)(h':g δ=some b):bJ #[f,g] δ=some (.tuple [a,b]):=Q2 (gT h (gT h' rfl)) (by simp)
theorem Nv{f g k:DS->Option W}{δ:DS}{a b c:W}(h:f δ=some a)(h':g δ=some b)(h2:k δ=some c):bJ #[f,g,k] δ=some (.tuple [a,b,c]):=Q2 (gT h (gT h' (gT h2 rfl))) (by simp)
theorem Em{f g k m:DS->Option W}{δ:DS}{a b c d:W}(h:f δ=some a)(h':g δ=some b)(h2:k δ=some c)(h3:m δ=some d):bJ #[f,g,k,m] δ=some (.tuple [a,b,c,d]):=Q2 (gT h (gT h' (gT h2 (gT h3 rfl)))) (by simp)
theorem Ep{f g:DS->Option W}{δ:DS}{l:List W}{i:Int}{x:W}(h1:f δ=some (.list l))(h2:g δ=some (.int i))(h3:jC l i=some x):aF aW f g δ=some x:=by simp only[aF,h1,h2,TZ,j3,h3]
theorem De{f:List W->Option W}{fa:DS->Option (List W)}{δ:DS}{ds:List W}{d:W}(h1:fa δ=some ds)(h2:f ds=some d):bz f fa δ=some d:=by simp only[bz,h1,TZ,h2]
theorem jU{c:W->W->Option Bool}{f g:DS->Option W}{δ:DS}{a b:W}{r:Bool}(h1:f δ=some a)(h2:g δ=some b)(h3:c a b=some r):aw c f g δ=some r:=by simp only[aw,h1,h2,TZ,h3]
theorem dO{c:W->W->Option W}{f g:DS->Option W}{δ:DS}{a b r:W}(h1:f δ=some a)(h2:g δ=some b)(h3:c a b=some r):aF c f g δ=some r:=by simp only[aF,h1,h2,TZ,h3]
theorem dA{f g:DS->Option Bool}{δ:DS}{r:Bool}(h1:f δ=some true)(h2:g δ=some r):lj f g δ=some r:=by first | rfl | simp![uD,h1,h2]
theorem Q3{f g:DS->Option Bool}{δ:DS}(h1:f δ=some false):lj f g δ=some false:=by first | rfl | simp![uD,h1]
theorem Tk{f g:DS->Option W}{δ:DS}{a b:W}(h:f δ=some a)(h':g δ=some b):#[f,g] δ=some [a,b]:=gT h (gT h' rfl)
theorem CT{ix:List (Option Nat)}{fi:DS->Option (List W)}{h:W->DS->Option DS}{c:DS->Option Bool}{fe:DS->Option W}{δ:DS}{ds r:List W}(h1:fi δ=some ds)(h2:ds.length<=9000)(h3:ba h c fe (c9 ix δ) ds=some r):aP (cf ix fi h c fe) δ=some (.list r):=by
 have z:=sz _ h2;simp only[aP,cf,h1,TZ,Ul z,h3,Ue]
theorem PN{i:Nat}{f:DS->Option W}{δ:DS}{ds:List W}{d:W}(h1:gR i δ=some ds)(h2:f δ=some d)(h3:ds.length<9000):cV i f δ=some (.nx (δ.set i (.own (ds++[d])))):=by
 have z:=Ui h3 (sz 9000 (Ug _));simp only[cV,h1,h2,TZ,Ul z]
section
variable{c f m:Str}{fo fi fv fk fx:DS->ai->SM W}{fa:DS->ai->SM (List W)}{δ:DS}{S S1 S2 S3:ai}{n l:Nat}{fs:List (Str×W)}{d y:W}{es q ds:List W}{i:Int}
theorem mC(h:S[n]?=some (.ins c fs)):ge c (.ref n) S=some (n,fs):=by simp[ge,iy,h]
theorem pO(h1:fo δ S=some (.ok (.ref n),S1))(h2:S1[n]?=some (.ins c fs))(h3:fs.lookup f=some d):bB c f fo δ S=some (.ok d,S1):=by simp only[bB,aq,h1,mC h2,TZ,iD,h3,Ue]
theorem Co{g:List W->ai->SM W}(h1:fo δ S=some (.ok (.ref n),S1))(h2:S1[n]?=some (.ins c fs))(h3:fs.lookup m=none)(h4:fa δ S1=some (.ok ds,S2))(h5:g (.ref n::ds) S2=some (.ok d,S3)):aZ c m g fo fa δ S=some (.ok d,S3):=by
 simp only[aZ,aq,h1,mC h2,TZ,h3,U5,h4,h5,Dz]
theorem SS(h1:fo δ S=some (.ok (.list es),S1))(h2:fi δ S1=some (.ok (.int i),S2))(h4:jC es i=some d):sIx fo fi δ S=some (.ok d,S2):=by
 have:EG (.list es) (.int i) S2=jC es i:=rfl;simp only[sIx,aq,h1,h2,this,h4,iD,Ue]
theorem Tc(h1:fo δ S=some (.ok (.tuple es),S1))(h2:fi δ S1=some (.ok (.int i),S2))(h4:jC es i=some d):sIx fo fi δ S=some (.ok d,S2):=by
 have:EG (.tuple es) (.int i) S2=jC es i:=rfl;simp only[sIx,aq,h1,h2,this,h4,iD,Ue]
theorem R6(h1:fo δ S=some (.ok (.ref l),S1))(h2:S1[l]?=some (.lst es)):sm fo δ S=some (.ok (!es.isEmpty),S1):=by simp only[sm,aq,h1,iq h2,Ue,iD]
theorem M3(h1:fo δ S=some (.ok (.ref l),S1))(h2:S1[l]?=some (.lst es)):ly fo δ S=some (.ok (.int es.length),S1):=by
 have:ui (.ref l) S1=some (.int es.length):=by unfold ui;rw[iq h2]
 simp only[ly,aq,h1,this,iD,Ue]
theorem NI(h1:fo δ S=some (.ok (.list es),S1)):ly fo δ S=some (.ok (.int es.length),S1):=by
 have:ui (.list es) S1=some _:=rfl;simp only[ly,aq,h1,this,iD,Ue]
theorem Ox(h1:fo δ S=some (.ok (.ref l),S1))(h2:S1[l]?=some (.lst (es++[d]))):AC fo δ S=some (.ok d,S1.set l (.lst es)):=by
 simp[AC,aq,h1,iq h2]
theorem GV(h1:fo δ S=some (.ok (.ref l),S1))(h2:S1[l]?=some (.lst es))(h3:fv δ S1=some (.ok d,S2))(h4:S2[l]?=some (.lst q))(h5:q.length<9000):eO fo fv δ S=some (.nx δ,S2.set l (.lst (q++[d]))):=by
 have z  := Ui h5 (sz _ (by decide));simp only[eO,jz,h1,iq h2,Vj,U5,h3,iq h4,TZ,Ul z]
theorem Sa(h1:fv δ S=some (.ok d,S1))(h2:fo δ S1=some (.ok (.ref n),S2))(h3:S2[n]?=some (.ins c fs))(h4:fs.length<1000):dP c f fo fv δ S=some (.nx δ,S2.set n (.ins c (c7 f d fs))):=by
 simp only[dP,jz,h1,h2,mC h3,TZ,Ul h4]
theorem Ru(h1:fo δ S=some (.ok (.ref n),S))(h2:S[n]?=some (.ins c fs))(h3:fs.lookup f=some (.int a))(h4:fv δ S=some (.ok (.int b),S))(h5:fs.length<1000):mZ c f fo fv δ S=some (.nx δ,S.set n (.ins c (c7 f (.int (a+b)) fs))):=by
 simp only[mZ,jz,h1,mC h2,TZ,h3,h4,gI,Ul h5]
theorem Oy(h1:fo δ S=some (.ok d,S1))(h2:fi δ S1=some (.ok y,S2))(h3:g d y=some b):wB g fo fi δ S=some (.ok b,S2):=by simp only[wB,aq,h1,h2,h3,iD,Ue]
theorem TC(h1:fo δ S=some (.ok (.int a),S1))(h2:fi δ S1=some (.ok (.int b),S2)):uf false fo fi δ S=some (.ok (decide (a=b)),S2):=by
 have:qZ false (.int a) (.int b) S2=some (decide _):=rfl;simp only[uf,aq,h1,h2,this,iD,Ue]
theorem Pn{g:DS->ai->SM Bool}(h:g δ S=some (.ok b,S1)):sB g δ S=some (.ok (.bool b),S1):=by simp only[sB,aq,h]
theorem Ak(h:fo δ S=some (.ok (.bool b),S1)):mB fo δ S=some (.ok b,S1):=by simp only[mB,aq,h,Aq,iD,Ue]
theorem ii{g:DS->ai->SM Bool}(h:g δ S=some (.ok b,S1)):sX g δ S=some (.ok (!b),S1):=by simp only[sX,aq,h]
theorem Lq{t:DS->ai->SM Bool}{g:DS->ai->SO}(h1:t δ S=some (.ok true,S1))(h2:g δ S1=some (.nx δ',S2)):bG t g (k+1) δ S=bG t g k δ' S2:=by
 show jz _ _=_;rw[h1];simp only[jz,U5,h2]
theorem HE{t:DS->ai->SM Bool}(h1:t δ S=some (.ok false,S1)):bG t g (k+1) δ S=some (.nx δ,S1):=by
 show jz _ _=_;rw[h1];rfl
theorem zf(h1:fo δ S=some (.ok (.ref l),S1))(h2:fk δ S1=some (.ok (.str k),S2))(h3:S2[l]?=some (.dK kvs))(h4:aU kvs (.inr k)=some d):gB fo fk δ S=some (.ok d,S2):=by
 have:qV (.ref l) (.str k) S2=some (aU kvs (Sum.inr k)):=by simp[qV,iy,h3,o8]
 simp only[gB,aq,h1,h2,this,TZ,h4,iD,Ue]
theorem Jz(h1:fv δ S=some (.ok d,S1))(h2:fo δ S1=some (.ok (.ref l),S2))(h3:fk δ S2=some (.ok (.str k),S3))(h4:S3[l]?=some (.dK kvs))(h5:kvs.length<9000):iU fo fk fv δ S=some (.nx δ,S3.set l (.dK (bL kvs (.inr k) d))):=by
 have hl'  := Ui h5 (sz _ (by decide));have:uN (.ref l) (.str k) d S3=some (S3.set l (.dK (bL kvs (.inr k) d))):=by simp[uN,iy,h4,o8,hl']
 simp only[iU,jz,h1,h2,h3,this,Ue]
end
theorem PX{f:DS->Option W}{δ:DS}{a:W}(h:f δ=some a):aP (bW #[f]) δ=some (.list [a]):=by
 unfold aP bW;rw[gT h rfl];rfl
theorem aG(S L:ai)(k:Nat):(S++L)[S.length+k]?=L[k]?:=by rw[UO (by omega)];congr 1;omega
theorem aS(S L:ai)(k:Nat)(o:Ob):(S++L).set (S.length+k) o=S++L.set k o:=by rw[List.set_append_right _ _ (by omega)];congr 2;omega
theorem gN{S:ai}{n:Nat}{o x:Ob}(h:S[n]?=some o):(S.set n x)[n]?=some x:=ji (oG h).1
theorem gO{S:ai}{n m:Nat}{x:Ob}(h:m≠n):(S.set n x)[m]?=S[m]?:=Ux (VB h)
theorem wQ(S:ai)(n:Nat)(x y:Ob):(S.set n x).set n y=S.set n y:=List.set_set ..
theorem vL{g:Str->W->Option W}{f k:DS->Option W}{δ:DS}{z:Str}{y r:W}(h1:f δ=some (.str z))(h2:k δ=some y)(h3:g z y=some r):BN g f k δ=some r:=by simp only[BN,h1,TZ,xy,h2,h3]
theorem bX{g:W->Option W}{f:DS->Option W}{δ:DS}{a r:W}(h1:f δ=some a)(h2:g a=some r):cp g f δ=some r:=by simp only[cp,h1,TZ,h2]
theorem m7{i:Nat}{fv:DS->ai->SM W}{δ:DS}{S S1:ai}{ds:List W}{d:W}(h1:gR i δ=some ds)(h2:fv δ S=some (.ok d,S1))(h3:ds.length<9000):jW i fv δ S=some (.nx (δ.set i (.own (ds++[d]))),S1):=by
 have z:=Ui h3 (sz 9000 (Ug _));simp only[jW,h1,TZ,h2,jz,Ul z]
theorem Ii{i:Nat}{fv:DS->ai->SM W}{δ:DS}{S S1:ai}{ds es:List W}(h1:gR i δ=some ds)(h2:fv δ S=some (.ok (.list es),S1))(h3:ds.length+es.length<=9000):qX i fv δ S=some (.nx (δ.set i (.own (ds++es))),S1):=by
 have z:=sz _ h3;simp only[qX,h1,TZ,h2,jz,gX,Ul z]
theorem tD{f:DS->Option W}{δ:DS}{a b:Str}(h1:f δ=some (.str a)):aw bM f (dC (.str b)) δ=some (decide (a=b)):=by simp only[aw,h1,dC,TZ,JM]
noncomputable abbrev ch(c:Nat):Str:=⟨List.toArray [c]⟩
theorem Fq{c:Nat}:∀{w v A B:List Nat},c∉w->c∉v->w++c::A=v++c::B->w=v/\A=B
 | [],[],A,B,_,_,h=>⟨rfl,by grind⟩
 | [],d::v,A,B,_,hv,h=>by simp_all
 | d::w,[],A,B,hw,_,h=>by simp_all
 | e::w,d::v,A,B,hw,hv,h=>by
  simp only[U7,Vc]at h;obtain⟨e1,e2⟩:=Fq (λz=>hw (TY _ z)) (λz=>hv (TY _ z)) h.2
  simp_all
theorem km(c:Nat)(x y:Str)(r:List Str):(Str.join (ch c) (x::y::r)).cps.toList=x.cps.toList++c::(Str.join (ch c) (y::r)).cps.toList:=by
 show(x.cps++(List.toArray [c])++(Str.join (ch c) _).cps).toList=_;simp
theorem zk{c:Nat}:∀{ws vs:List Str},ws≠[]->vs≠[]->(∀w∈ws,c∉w.cps.toList)->(∀w∈vs,c∉w.cps.toList)->Str.join (ch c) ws=Str.join (ch c) vs->ws=vs
 | [],_,h,_,_,_,_=>absurd rfl h
 | _,[],_,h,_,_,_=>absurd rfl h
 | [w],[v],_,_,_,_,e=>by
  have e':w=v:=e;rw[e']
 | [w],v::v2::r,_,_,hw,_,e=>by
  have e':=Uh (λz=>z.cps.toList) e;rw[km]at e';have e2:w.cps.toList=v.cps.toList++c::(Str.join (ch c) _).cps.toList:=e'
  simp_all
 | w::w2::r,[v],_,_,_,hv,e=>by
  have e':=Uh (λz=>z.cps.toList) e;rw[km]at e';have e2:w.cps.toList++c::(Str.join (ch c) _).cps.toList=v.cps.toList:=e'
  grind
 | w::w2::r,v::v2::t,_,_,hw,hv,e=>by
  have e':=Uh (λz=>z.cps.toList) e;rw[km,km]at e';obtain⟨e1,e2⟩:=Fq (hw w Ua) (hv v Ua) e';rw[zL e1,zk (by simp) (by simp) (λx hx=>hw x (TY _ hx)) (λx hx=>hv x (TY _ hx)) (zL e2)]
theorem Cq{c:Nat}{ws:List Str}(h0:ws≠[])(hb:∀w∈ws,c∉w.cps.toList):Txt.split (Str.join (ch c) ws) (ch c)=ws:=by
 have h1:=StrLaws.join_split (Str.join (ch c) ws) (ch c);have h2:Txt.split _ (ch c)≠[]:=λe=>by
  have:=split_pos (Str.join (ch c) ws) (ch c);rw[e]at this
  grind
 exact zk h2 h0 (StrLaws.split_free _ c) hb h1
theorem Ad{c d:Nat}(hcd:d≠c):∀{ws:List Str},(∀w∈ws,d∉w.cps.toList)->d∉(Str.join (ch c) ws).cps.toList
 | [],_=>by
  show d∉((List.toArray []):Array Nat).toList;simp
 | [w],h=>h w Ua
 | w::v::r,h=>by
  rw[km];have:=Ad hcd (ws:=v::r) λx hx=>h x (TY _ hx);have h0:=h w Ua;simp only[Us,Ub,not_or];exact⟨h0,hcd,this⟩
theorem rX{c:Nat}{m:Nat}:∀{ws:List Str},(∀w∈ws,w.length<=m)->(Str.join (ch c) ws).length<=ws.length*(m+1)
 | [],_=>Vn _
 | [w],h=>by
  have:=h w Ua;show w.length<=_;simp;omega
 | w::v::r,h=>by
  have ih:=rX (c:=c) (ws:=v::r) λx hx=>h x (TY _ hx);have h0:=h w Ua;have e:(Str.join (ch c) (w::v::r)).length=w.length+1+(Str.join (ch c) (v::r)).length:=by
   rw[<-L2.len_list,km,<-L2.len_list,<-L2.len_list];simp;omega
  rw[e];simp only[Ud]at ih ⊢;rw[Nat.succ_mul];omega
theorem yS{c:Nat}{ws:List Str}(h0:ws≠[])(hb:∀w∈ws,c∉w.cps.toList)(hl:(Str.join (ch c) ws).length<=100000):om (Str.join (ch c) ws) (.str (ch c))=some (.list (ws.map .str)):=by
 have z:(decide ((ch c).length≠0)&&decide ((Str.join (ch c) ws).length<=100000))=true:=by
  rw[Uq hl];rfl
 simp only[om,z,U5,Cq h0 hb]
theorem xv(c:Nat){m:Nat}:∀(ws:List Str)(a:Nat),(∀w∈ws,w.length<=m)->ws.foldl (λa w=>a+w.length+(ch c).length) a<=a+ws.length*(m+1)
 | [],a,_=>by simp
 | w::ws,a,h=>by
  have h0:=h w Ua;have ih:=xv c ws (a+w.length+(ch c).length) λx hx=>h x (TY _ hx);have e:(ch c).length=1:=rfl;rw[e]at ih;simp only[List.foldl_cons,Ud,e];rw[Nat.succ_mul];omega
theorem CU{c:Nat}{m:Nat}{ws:List Str}(h:∀w∈ws,w.length<=m)(hn:ws.length*(m+1)<=1000000):JoinOk (ch c) ws=true:=by
 have:=xv c ws 0 h;unfold JoinOk;rw[List.foldl_toArray];unfold Builtin.Str.tooLong;have sl:sizeLine=16777216:=VD;simp;omega
noncomputable abbrev Lf:=Fin 23
noncomputable def dR(a:Lf):Str:=[Str.ofString "lane", Str.ofString "-9", Str.ofString "-8", Str.ofString "-7", Str.ofString "-6", Str.ofString "-5", Str.ofString "-4", Str.ofString "-3", Str.ofString "-2", Str.ofString "-1", Str.ofString "0", Str.ofString "1", Str.ofString "2", Str.ofString "3", Str.ofString "4", Str.ofString "5", Str.ofString "6", Str.ofString "7", Str.ofString "8", Str.ofString "9", Str.ofString "x", Str.ofString "q", Str.ofString "w"].getD a.1 ""
noncomputable def JR(a:Lf):Int:=(a.1:Int)-10
noncomputable def cG(a:Lf):W:=if a.1=0 then .tuple [.str "lane"] else if a.1<20 then .tuple [.str "num", .int (JR a)] else .tuple [.str "name", .str (dR a)]
noncomputable def Nt(o:Option W)(b:Bool):Bool:=match o with
 | some (.bool a)=>a==b
 | _=>false
theorem rT(h:Nt o b=true):o=some (.bool b):=by
 unfold Nt at h;split at h
 . obtain rfl:_=b:=by simpa using h
   rfl
 . cases h
noncomputable def QP(o:Option W)(b:Int):Bool:=match o with
 | some (.int a)=>a==b
 | _=>false
theorem C4(h:QP o b=true):o=some (.int b):=by
 unfold QP at h;split at h
 . obtain rfl:_=b:=by simpa using h
   rfl
 . cases h
theorem HI:∀a:Lf,Nt (eK [.str (dR a)]) (decide (20<=a.1))=true:=by decide +kernel
theorem KZ:∀a:Lf,0<a.1->a.1<20->QP (iu [.str (dR a)]) (JR a)=true:=by decide +kernel
theorem K9:∀a:Lf,decide (dR a=Str.ofString "box")=false:=by decide +kernel
theorem OI:∀a:Lf,iS (.str (dR a)) (.tuple (List.map .str [Str.ofString "+", Str.ofString "-", Str.ofString "*", Str.ofString "div", Str.ofString "rem", Str.ofString "<", Str.ofString "="]))=some false:=by decide +kernel
theorem JK:∀a:Lf,iS (.str (dR a)) (.tuple (List.map .str [Str.ofString "lane", Str.ofString "lanes", Str.ofString "mine"]))=some (decide (a.1=0)):=by decide +kernel
theorem Mp:∀a:Lf,PyData.strOk (dR a)=true:=by decide +kernel
noncomputable def FM(ds:List W)(i:Nat):List (Str×W):=[(Str.ofString "row", .list ds),(Str.ofString "at", .int i)]
noncomputable abbrev bT(ds:List W)(i:Nat):Ob:=.ins (Str.ofString "Walk") (FM ds i)
theorem Nj(ds:List W)(i:Nat):(FM ds i).lookup (Str.ofString "row")=some (.list ds):=by kernel_rfl
theorem DN(ds:List W)(i:Nat):(FM ds i).lookup (Str.ofString "at")=some (.int i):=by kernel_rfl
theorem Kt(ds:List W)(i:Nat):(FM ds i).lookup (Str.ofString "taken")=none/\(FM ds i).lookup (Str.ofString "is_over")=none/\(FM ds i).lookup (Str.ofString "before")=none:=⟨by kernel_rfl,by kernel_rfl,by kernel_rfl⟩
theorem Sx(ds:List W)(i:Nat)(d:W):c7 (Str.ofString "at") d (FM ds i)=[(Str.ofString "row", .list ds),(Str.ofString "at", d)]:=by kernel_rfl
section
variable{S:ai}{I i:Nat}{ds:List W}{d:W}
theorem BB(h:S[I]?=some (bT ds i))(hd:ds[i]?=some d):bj [.ref I] S=some (.ok d,S.set I (bT ds (i+1))):=by
 refine(au rfl).trans ((Uh bC (?_:_=some (.rt d,S.set I (bT ds (i+1))))).trans rfl);refine(af (δ':=[.val (.ref I),.val d]) (aQ (SS (pO (S1:=S) rfl h (Nj ds i)) (pO (S1:=S) rfl h (DN ds i)) (zW hd)) rfl)).trans ?_;refine(af (Ru (b:=1) rfl h (DN ds i) rfl (by simp[FM]))).trans ?_;rw[Sx];rfl
theorem yv(h:S[I]?=some (bT ds i))(hd:ds[i]?=some d):dW [.ref I] S=some (.ok d,S):=by
 refine(au rfl).trans ((Uh bC (?_:_=some (.rt d,S))).trans rfl);exact cg (SS (pO (S1:=S) rfl h (Nj ds i)) (pO (S1:=S) rfl h (DN ds i)) (zW hd))
theorem CI(h:S[I]?=some (bT ds i)):bE [.ref I] S=some (.ok (.bool (decide (i=ds.length))),S):=by
 refine(au rfl).trans ((Uh bC (?_:_=some (.rt (.bool (decide (i=ds.length))),S))).trans rfl);have e:=TC (pO (fo:=aa (ac 0)) (δ:=[.val (.ref I)]) (S1:=S) rfl h (DN ds i)) (NI (pO (fo:=aa (ac 0)) (δ:=[.val (.ref I)]) (S1:=S) rfl h (Nj ds i)));rw[show decide ((i:Int)=(ds.length:Int))=decide (i=ds.length) from decide_eq_decide.mpr Int.ofNat_inj]at e;exact cg (Pn e)
variable{δ:DS}{fo:DS->Option W}
theorem rc(h1:fo δ=some (.ref I))(h:S[I]?=some (bT ds i))(hd:ds[i]?=some d):aZ "Walk" "taken" bj (aa fo) (aa ah) δ S=some (.ok d,S.set I (bT ds (i+1))):=Co (S1:=S) (ds:=[]) (aj h1) h (Kt ds i).1 rfl (BB h hd)
theorem Hb(h1:fo δ=some (.ref I))(h:S[I]?=some (bT ds i))(hd:ds[i]?=some d):aZ "Walk" "before" dW (aa fo) (aa ah) δ S=some (.ok d,S):=Co (S1:=S) (ds:=[]) (aj h1) h (Kt ds i).2.2 rfl (yv h hd)
theorem tL(h1:fo δ=some (.ref I))(h:S[I]?=some (bT ds i)):mB (aZ "Walk" "is_over" bE (aa fo) (aa ah)) δ S=some (.ok (decide (i=ds.length)),S):=Ak (Co (S1:=S) (ds:=[]) (aj h1) h (Kt ds i).2.1 rfl (CI h))
theorem sA(h:S[I]?=some (bT ds i))(hd:ds[i]?=some d):fS [.ref I] S=some (.ok d,S.set I (bT ds (i+1))):=by
 have hl:=(oG hd).1;have ov:=tL (δ:=[.val (.ref I)]) (fo:=ac 0) rfl h;rw[Up (by omega)]at ov;refine(au rfl).trans ((Uh bC (?_:_=some (.rt d,S.set I (bT ds (i+1))))).trans rfl);exact(af ((aY ov).trans rfl)).trans (cg (rc rfl h hd))
theorem D3(h:S[I]?=some (bT ds ds.length)):gq [.ref I] S=some (.ok .none,S):=by
 have ov:=ii (tL (δ:=[.val (.ref I)]) (fo:=ac 0) rfl h);rw[Uq rfl]at ov;refine(au rfl).trans ((Uh bC (?_:_=some (.nx [.val (.ref I)],S))).trans rfl);exact(aY ov).trans rfl
end
theorem tJ(S:ai)(es:List W):eC [.ref S.length,.list es] (S++[.ins (Str.ofString "Walk") []])=some (.ok .none,S++[bT es 0]):=by
 have a0:=aG S [.ins (Str.ofString "Walk") []] 0;let δ:DS:=[.val (.ref S.length),.val (.list es)]
 refine(au rfl).trans ((Uh bC (?_:_=some (.nx δ,S++[bT es 0]))).trans rfl);refine(af (dY (n:=S.length) (fs:=[]) (S1:=S++[.ins (Str.ofString "Walk") []]) (d:=.list es) rfl rfl (by simp) (by simp))).trans ?_;refine(dY (n:=S.length) (fs:=[(Str.ofString "row", .list es)]) (d:=.int 0) rfl rfl ?_ (by simp)).trans ?_
 . simp[c7]
 . have e1:=aS S [.ins (Str.ofString "Walk") []] 0;simp only[VI]at e1;rw[e1];simp only[List.set_cons_zero];have e2:=aS S [.ins (Str.ofString "Walk") (c7 (Str.ofString "row") (.list es) [])] 0;simp only[VI]at e2;rw[e2];have e3:c7 (Str.ofString "at") (.int 0) [(Str.ofString "row", W.list es)]=FM es 0:=by kernel_rfl
   rw[e3];rfl
theorem BD{ws:List Str}{S:ai}(h0:ws≠[])(hb:∀w∈ws,32∉w.cps.toList)(hl:(Str.join (ch 32) ws).length<=100000):lB [.str (Str.join (ch 32) ws)] S=some (.ok (.ref S.length),S++[bT (ws.map .str) 0]):=by
 have wi:=tJ S (ws.map .str);refine(au rfl).trans ((Uh bC (?_:_=some (.rt (.ref S.length),S++[bT (ws.map .str) 0]))).trans rfl);exact cg (lX (S1:=S) (aj (gT (vL rfl rfl (yS h0 hb hl)) rfl)) wi)
theorem tN{f:DS->Option W}{δ:DS}{b:Bool}(h:f δ=some (.bool b)):pH (lE f) δ=some (!b):=by simp only[pH,lE,h,TZ,Aq,Ue]
theorem tY{f:DS->Option W}{δ:DS}{b:Bool}(h:f δ=some (.bool b)):lE f δ=some b:=by simp only[lE,h,TZ,Aq]
theorem RR{f g:DS->Option Bool}{δ:DS}{b:Bool}(h1:f δ=some false)(h2:g δ=some b):FE f g δ=some b:=by simp only[FE,h1,TZ,h2];rfl
theorem fK{S:ai}{I:Nat}{x:Ob}(h:S[I]?=some x):S.set I x=S:=by
 obtain⟨hl,e⟩:=oG h
 subst e;exact List.set_getElem_self hl
section
variable{S:ai}{I i:Nat}{ds:List W}{d:W}
theorem mF{x:Str}(h:S[I]?=some (bT ds i))(hd:ds[i]?=some (.str x))(hn:eK [.str x]=some (.bool true)):dy [.ref I] S=some (.ok (.str x),S.set I (bT ds (i+1))):=by
 refine(au rfl).trans ((Uh bC (?_:_=some (.rt (.str x),S.set I (bT ds (i+1))))).trans rfl);refine(af (δ':=[.val (.ref I),.val (.str x)]) (aQ (aB (S1:=S) (ds:=[.ref I]) rfl (sA h hd)) rfl)).trans ?_;refine(af (δ':=[.val (.ref I),.val (.str x)]) (S':=S.set I (bT ds (i+1))) ((aY (aj (tN (De (ds:=[.str x]) rfl hn)))).trans rfl)).trans ?_;rfl
theorem D8(n:Nat)(a:Lf)(h:S[I]?=some (bT ds i))(hd:ds[i]?=some (.str (dR a))):ic (n+1) [.ref I,.int 6] S=some (.ok (cG a),S.set I (bT ds (i+1))):=by
 let S1:=S.set I (bT ds (i+1));let δ:DS:=[.val (.ref I),.val (.int 6),.val (.str (dR a)),.no]
 show aN 2 4 _ _ _=_;refine(au rfl).trans ((Uh bC (?_:_=some (.rt (cG a),S1))).trans rfl);refine(af (δ':=δ) (aQ (aB (S1:=S) (ds:=[.ref I]) rfl (sA h hd)) rfl)).trans ?_;refine(af (δ':=δ) (S':=S1) ((aY (aj (RR (tF rfl (K9 a)) (jU rfl rfl (OI a))))).trans rfl)).trans ?_;by_cases h0:a.1=0
 . have e0:dR a=Str.ofString "lane" := by
    obtain rfl:a=0:=Fin.ext h0;rfl
   have t:cG a=.tuple [.str (dR a)]:=by unfold cG;rw[Ul h0,e0]
   rw[t];have sg:=JK a;rw[Uq h0]at sg;exact gE (cX (bq (b:=true) (jU rfl rfl sg) (bt (PB rfl))))
 have sg:=JK a;rw[Up h0]at sg;refine(af (δ':=δ) (S':=S1) (aA (bq (b:=false) (jU rfl rfl sg) rfl))).trans ?_;have nm:=rT (HI a);by_cases h1:20<=a.1
 . rw[Uq h1]at nm;have t:cG a=.tuple [.str "name", .str (dR a)]:=by unfold cG;rw[UE h0,UE (by omega)]
   rw[t];exact gE (cX (bq (b:=true) (tY (De (ds:=[.str (dR a)]) rfl nm)) (bt (xB rfl rfl))))
 . rw[Up h1]at nm;have t:cG a=.tuple [.str "num", .int (JR a)]:=by unfold cG;rw[UE h0,Ul (by omega)]
   rw[t];refine(af (δ':=δ) (S':=S1) (aA (bq (b:=false) (tY (De (ds:=[.str (dR a)]) rfl nm)) rfl))).trans ?_;exact cX (bt (xB rfl (De (ds:=[.str (dR a)]) rfl (C4 (KZ a (by omega) (by omega))))))
theorem wO(a:Lf)(h:S[I]?=some (bT ds i))(hd:ds[i]?=some (.str (dR a))):bF [.ref I] S=some (.ok (cG a),S.set I (bT ds (i+1))):=by
 refine(au rfl).trans ((Uh bC (?_:_=some (.rt (cG a),S.set I (bT ds (i+1))))).trans rfl);exact cg (aB (S1:=S) (ds:=[.ref I,.int 6]) rfl (D8 1 a h hd))
end
noncomputable abbrev D4:List (Str×(List W->ai->SM W)):=[("name_from", dy),("expression_from", bF)]
theorem ww{g:Str}{p:List W->ai->SM W}(hg:D4.lookup g=some p){ds:List W}{I m:Nat}{q:W->W}(hp:∀(S:ai)(i:Nat)(d:W),S[I]?=some (bT ds i)->ds[i]?=some d->m<=i->p [.ref I] S=some (.ok (q d),S.set I (bT ds (i+1)))):
 ∀(iO:List W)(i fuel:Nat)(acc:List W)(S:ai),m<=i->ds.drop i=iO->S[I]?=some (bT ds i)->acc.length+iO.length<=6->iO.length<fuel->i<=ds.length->
  bG (pR (aa (aw BM (cp bw (ao 2)) (dC (.int 6)))) (sX (mB (aZ "Walk" "is_over" bE (aa (ac 1)) (aa ah))))) kf fuel [.val (.fn g),.val (.ref I),.own acc] S=some (.nx [.val (.fn g),.val (.ref I),.own (acc++iO.map q)],S.set I (bT ds ds.length))
 | [],i,fuel,acc,S,h1,hr,h,ha,hf,hi=>by
  obtain⟨f,rfl⟩:∃f,fuel=f+1:=⟨fuel-1,by omega⟩
  have hl:i=ds.length:=by
   have:=Uh List.length hr;simp at this;omega
  subst hl;rw[fK h,V6,UK];have ov:=ii (tL (δ:=[.val (.fn g),.val (.ref I),.own acc]) (fo:=ac 1) rfl h);rw[Uq rfl]at ov;have t:aw BM (cp bw (ao 2)) (dC (.int 6)) [.val (.fn g),.val (.ref I),.own acc]=some (decide ((acc.length:Int)<6)):=rfl;by_cases hc:(acc.length:Int)<6
  . rw[Uq hc]at t;exact HE (se (aj t) ov)
  . rw[Up hc]at t;exact HE (rh (aj t))
 | d::iO,i,fuel,acc,S,h1,hr,h,ha,hf,hi=>by
  obtain⟨f,rfl⟩:∃f,fuel=f+1:=⟨fuel-1,by omega⟩
  have hd:ds[i]?=some d:=by
   have:=Uh (·[0]?) hr;simpa using this
  have hl:=(oG hd).1;have hr2:ds.drop (i+1)=iO:=by
   rw[<-VY,hr];rfl
  simp only[Ud]at ha hf;have ov:=ii (tL (δ:=[.val (.fn g),.val (.ref I),.own acc]) (fo:=ac 1) rfl h);rw[Up (by omega)]at ov;have t:aw BM (cp bw (ao 2)) (dC (.int 6)) [.val (.fn g),.val (.ref I),.own acc]=some (decide ((acc.length:Int)<6)):=rfl;rw[Uq (by omega)]at t;have st:kf [.val (.fn g),.val (.ref I),.own acc] S=some (.nx [.val (.fn g),.val (.ref I),.own (acc++[q d])],S.set I (bT ds (i+1))):=by
   have c:yC D4 0 (aa #[ac 1]) [.val (.fn g),.val (.ref I),.own acc] S=some (.ok (q d),S.set I (bT ds (i+1))):=by
    show((ac 0 [.val (.fn g),.val (.ref I),.own acc]).bind λx=>(RI x).bind λn=>(D4.lookup n).bind λp=>aM p _ _ S)=_;show(D4.lookup g).bind _=_;rw[hg];exact aB (S1:=S) (ds:=[.ref I]) rfl (hp S i d h hd h1)
   exact m7 rfl c (by omega)
  refine(Lq (se (aj t) ov) st).trans ?_;refine(ww hg hp iO (i+1) f (acc++[q d]) _ (by omega) hr2 (gN h) (by simp;omega) (by omega) (by omega)).trans ?_;rw[wQ];simp
theorem pj{g:Str}{p:List W->ai->SM W}(hg:D4.lookup g=some p){ds:List W}{S:ai}{I i m:Nat}{q:W->W}(hp:∀(S:ai)(i:Nat)(d:W),S[I]?=some (bT ds i)->ds[i]?=some d->m<=i->p [.ref I] S=some (.ok (q d),S.set I (bT ds (i+1))))(h:S[I]?=some (bT ds i))(h1:m<=i)(h2:i<=ds.length)(h3:ds.length<=i+6):g8 [.fn g,.ref I] S=some (.ok (.list ((ds.drop i).map q)),S.set I (bT ds ds.length)):=by
 refine(au rfl).trans ((Uh bC (?_:_=some (.rt (.list ((ds.drop i).map q)),S.set I (bT ds ds.length)))).trans rfl);refine(af (δ':=[.val (.fn g),.val (.ref I),.own []]) (S':=S) rfl).trans ?_;refine(af (ww hg hp (ds.drop i) i 1000000 [] S h1 rfl h (by simp;omega) (by simp;omega) h2)).trans ?_;rfl
theorem cT{f:DS->Option W}{δ:DS}{a:Str}{S S':ai}{d:W}{g k:DS->ai->SO}(h1:f δ=some (.str a))(h2:g δ S=some (.rt d,S')):ak (bh (aa (aw bM f (dC (.str a)))) g (ag ay)) k δ S=some (.rt d,S'):=gE ((fT h1).trans h2)
section
variable{S S':ai}{I:Nat}{d:W}
theorem EO(h:g8 [.fn "name_from", .ref I] S=some (.ok d,S')):cy [.str "names", .ref I] S=some (.ok d,S'):=by
 refine(au rfl).trans ((Uh bC (?_:_=some (.rt d,S'))).trans rfl);exact cT rfl (cg (aB (S1:=S) (ds:=[.fn "name_from", .ref I]) rfl h))
theorem DF(h:g8 [.fn "expression_from", .ref I] S=some (.ok d,S')):cy [.str "expressions", .ref I] S=some (.ok d,S'):=by
 refine(au rfl).trans ((Uh bC (?_:_=some (.rt d,S'))).trans rfl);refine(cF rfl (by decide +kernel)).trans ?_;exact cT rfl (cg (aB (S1:=S) (ds:=[.fn "expression_from", .ref I]) rfl h))
theorem uF(h:dy [.ref I] S=some (.ok d,S')):cy [.str "name", .ref I] S=some (.ok d,S'):=by
 refine(au rfl).trans ((Uh bC (?_:_=some (.rt d,S'))).trans rfl);refine(cF rfl (by decide +kernel)).trans ?_;refine(cF rfl (by decide +kernel)).trans ?_;exact cT rfl (cg (aB (S1:=S) (ds:=[.ref I]) rfl h))
theorem He(h:bF [.ref I] S=some (.ok d,S')):cy [.str "expression", .ref I] S=some (.ok d,S'):=by
 refine(au rfl).trans ((Uh bC (?_:_=some (.rt d,S'))).trans rfl);refine(cF rfl (by decide +kernel)).trans ?_;refine(cF rfl (by decide +kernel)).trans ?_;refine(cF rfl (by decide +kernel)).trans ?_;refine(cF rfl (by decide +kernel)).trans ?_;exact cg (aB (S1:=S) (ds:=[.ref I]) rfl h)
end
inductive Ln where
 | df (f:Fin 6) | call (i:Fin 2) (f:Fin 5) (as:List Lf) | ret (a:Lf) | iff (a:Lf) | fin | tell (a:Lf)
noncomputable def bP(f:Fin 6):Str:=[Str.ofString "f", Str.ofString "ff", Str.ofString "g", Str.ofString "zz", Str.ofString "fg", Str.ofString "main"].getD f.1 ""
noncomputable def lT(f:Fin 6):Nat:=[1,3,1,2,0,0].getD f.1 0
noncomputable def oN(i:Fin 2):Str:=[Str.ofString "w", Str.ofString "x"].getD i.1 ""
noncomputable def jq(f:Fin 6):List Str:=[Str.ofString "p", Str.ofString "x", Str.ofString "q"].take (lT f)
noncomputable abbrev f5(f:Fin 5):Fin 6:=f.castSucc
noncomputable def cj:Ln->Str
 | .df _=>Str.ofString "def" | .call _ _ _=>Str.ofString "call" | .ret _=>Str.ofString "return" | .iff _=>Str.ofString "if" | .fin=>Str.ofString "end" | .tell _=>Str.ofString "tell"
noncomputable def kA:Ln->List Str
 | .df f=>bP f::jq f
 | .call i f as=>oN i::bP (f5 f)::as.map dR
 | .ret a=>[dR a] | .iff a=>[dR a] | .fin=>[] | .tell a=>[dR a]
noncomputable def fH(l:Ln):List Str:=cj l::kA l
noncomputable def qk:Ln->List W
 | .df f=>[.str (bP f),.list ((jq f).map .str)]
 | .call i f as=>[.str (oN i),.str (bP (f5 f)),.list (as.map cG)]
 | .ret a=>[cG a] | .iff a=>[cG a] | .fin=>[] | .tell a=>[cG a]
noncomputable def fW(l:Ln):W:=.tuple (.str (cj l)::qk l)
noncomputable def NB:Ln->List Str
 | .df _=>["name", "names"] | .call _ _ _=>["name", "name", "expressions"] | .fin=>[] | _=>["expression"]
noncomputable def qO:Ln->Prop
 | .call _ f as=>as.length=lT (f5 f)
 | _=>True
theorem Ao(l:Ln):d9.lookup (cj l)=some (NB l):=by cases l <;> kernel_rfl
theorem qa:∀f:Fin 6,Nt (eK [.str (bP f)]) true=true/\(jq f).all (λx=>Nt (eK [.str x]) true)=true:=by decide +kernel
theorem GY:∀i:Fin 2,Nt (eK [.str (oN i)]) true=true:=by decide +kernel
theorem jw:∀f:Fin 6,lT f<=3/\(jq f).length=lT f:=by decide +kernel
noncomputable def FI(x:Str):Bool:=x.cps.toList.all (λc=>c != 10&&c != 32)&&decide (x.length<=8)
theorem xM:∀f:Fin 6,FI (bP f)=true/\(jq f).all FI=true:=by decide +kernel
theorem MM:∀i:Fin 2,FI (oN i)=true:=by decide +kernel
theorem CD:∀a:Lf,FI (dR a)=true:=by decide +kernel
theorem OF(l:Ln):FI (cj l)=true:=by cases l <;> simp only[cj] <;> decide +kernel
theorem ur(l:Ln):∀w∈fH l,FI w=true:=by
 intro w hw;rcases Ub.mp hw with rfl | hw
 . exact OF l
 cases l with
 | df f=>
  rcases Ub.mp hw with rfl | hw
  . exact(xM f).1
  . exact UI.mp (xM f).2 w hw
 | call i f as=>
  rcases Ub.mp hw with rfl | hw
  . exact MM i
  rcases Ub.mp hw with rfl | hw
  . exact(xM _).1
  . obtain⟨a,_,rfl⟩:=Vf.mp hw;exact CD a
 | fin=>cases hw
 | _=>rcases UB.mp hw with rfl;exact CD _
theorem yw{x:Str}(h:FI x=true):10∉x.cps.toList/\32∉x.cps.toList/\x.length<=8:=by
 simp only[FI,Uz,UC]at h;have:=UI.mp h.1;exact⟨λz=>by have:=this _ z;simp at this,λz=>by have:=this _ z;simp at this,h.2⟩
theorem Ho(l:Ln)(h:qO l):(fH l).length<=6:=by
 cases l with
 | df f=>have:=jw f;simp[fH,kA];omega
 | call i f as=>have:=jw (f5 f);simp only[qO]at h;simp[fH,kA];omega
 | _=>simp[fH,kA]
noncomputable abbrev pQ(l:Ln):Str:=Str.join (ch 32) (fH l)
theorem xR(l:Ln)(h:qO l):(pQ l).length<=54/\10∉(pQ l).cps.toList:=by
 have h1:=rX (c:=32) (m:=8) (ws:=fH l) λw hw=>(yw (ur l w hw)).2.2;have h2:=Ho l h;refine⟨UF h1 (by omega),Ad (by decide) λw hw=>(yw (ur l w hw)).1⟩
theorem Sy{α β:Type}{a:α}{S:ai}{k:α->ai->SM β}:aq (some (.ok a,S)) k=k a S:=rfl
theorem Qo{h:W->DS->Option DS}{fe:DS->ai->SM W}{δ δ2:DS}{d e:W}{ds es:List W}{S S1 S2:ai}(h1:h d δ=some δ2)(h2:fe δ2 S=some (.ok e,S1))(h3:ck h (aa cb) fe δ ds S1=some (.ok es,S2)):ck h (aa cb) fe δ (d::ds) S=some (.ok (e::es),S2):=by
 show((h d δ).bind _)=_;have y:aa cb δ2 S=some (.ok true,S):=rfl;rw[h1,TZ,y,Sy,Ul rfl,h2,Sy,h3,Sy]
noncomputable abbrev st(S:ai)(ds:List W)(k:Nat):ai:=S++[bT ds k]
theorem Je(S:ai)(ds:List W)(k:Nat):(st S ds k)[S.length]?=some (bT ds k):=by simp
theorem Mt(S:ai)(ds:List W)(k j:Nat):(st S ds k).set S.length (bT ds j)=st S ds j:=by
 have:=aS S [bT ds k] 0 (bT ds j);simpa using this
noncomputable abbrev Nx(I:Nat)(fs:List Str)(T:ai):=ck (ae 1) (aa cb) (aM cy (aa #[ac 1,ac 0])) [.val (.ref I),.no] (fs.map .str) T
theorem ky{I:Nat}{f:Str}{fs:List Str}{T T1 T2:ai}{d:W}{ds:List W}(h1:cy [.str f,.ref I] T=some (.ok d,T1))(h2:Nx I fs T1=some (.ok ds,T2)):Nx I (f::fs) T=some (.ok (d::ds),T2):=
 Qo (δ2:=[.val (.ref I),.val (.str f)]) rfl (aB (S1:=T) (ds:=[.str f,.ref I]) rfl h1) h2
theorem rP(S:ai)(k:Str)(a:Lf):Nx S.length ["expression"] (st S ([k,dR a].map .str) 1)=some (.ok [cG a],st S ([k,dR a].map .str) 2):=by
 have e:=wO a (Je S ([k,dR a].map .str) 1) rfl;rw[Mt]at e;exact ky (He e) rfl
theorem AG(S:ai)(l:Ln)(hl:qO l):Nx S.length (NB l) (st S ((fH l).map .str) 1)=some (.ok (qk l),st S ((fH l).map .str) (fH l).length):=by
 cases l with
 | df f=>
  let ds:=(fH (.df f)).map W.str;have e1:=mF (Je S ds 1) rfl (rT (qa f).1);rw[Mt]at e1;have al:=jw f;have hd:ds.length=lT f+2:=by simp[ds,fH,kA,al.2]
  have e2:=pj (m:=1) (g := "name_from") (p:=dy) (q:=id) rfl (ds:=ds) (I:=S.length) (λT i d hT hi h1=>by
   obtain⟨x,hx,rfl⟩:∃x,(fH (.df f))[i]?=some x/\d=.str x:=by
    simp only[ds,UT,VS]at hi;obtain⟨x,a,b⟩:=hi;exact⟨x,a,b.symm⟩
   refine mF hT hi (rT ?_);obtain⟨i,rfl⟩:∃j,i=j+1:=⟨i-1,by omega⟩
   rcases i with _ | i
   . obtain rfl:bP f=x:=UW hx;exact(qa f).1
   . exact UI.mp (qa f).2 x (UV hx)) (Je S ds 2) (by decide) (by omega) (by omega)
  rw[Mt,List.map_id]at e2;have:=ky (fs:=["names"]) (uF e1) (ky (fs:=[]) (EO e2) rfl);rw[hd]at this;show Nx S.length ["name", "names"] _=_;refine this.trans ?_;show some (Rs.ok _,st S ds _)=some (Rs.ok _,st S ds (fH (.df f)).length);rw[show(fH (.df f)).length=lT f+2 by simp[fH,kA,al.2]];rfl
 | call i f as=>
  let ds:=(fH (.call i f as)).map W.str;have e1:=mF (Je S ds 1) rfl (rT (GY i));rw[Mt]at e1;have e2:=mF (Je S ds 2) rfl (rT (qa (f5 f)).1);rw[Mt]at e2;have al:=jw (f5 f);have hd:ds.length=as.length+3:=by simp[ds,fH,kA]
  simp only[qO]at hl;let q:W->W:=λd=>match d with
   | .str x=>((List.finRange 23).find? λa=>decide (dR a=x)).elim .none cG
   | _=>.none
  have hq:∀a:Lf,q (.str (dR a))=cG a:=by
   have:∀a:Lf,(List.finRange 23).find? (λb=>decide (dR b=dR a))=some a:=by decide +kernel
   intro a;show((List.finRange 23).find? λb=>decide (dR b=dR a)).elim _ _=_;rw[this a];rfl
  have e3:=pj (m:=3) (g := "expression_from") (p:=bF) (q:=q) rfl (ds:=ds) (I:=S.length) (λT j d hT hj h1=>by
   obtain⟨j,rfl⟩:∃k,j=k+3:=⟨j-3,by omega⟩
   obtain⟨a,rfl⟩:∃a:Lf,d=.str (dR a):=by
    simp only[ds,fH,kA,Uk,Vt,UT,VS]at hj;obtain⟨x,⟨a,_,rfl⟩,rfl⟩:=hj;exact⟨a,rfl⟩
   rw[hq];exact wO a hT hj) (Je S ds 3) (by decide) (by omega) (by omega)
  rw[Mt]at e3;have ed:(ds.drop 3).map q=as.map cG:=by
   simp only[ds,fH,kA,Uk,List.drop_succ_cons,List.drop_zero,List.map_map];exact List.map_congr_left λa _=>hq a
  rw[ed,hd]at e3;have:=ky (fs:=["name", "expressions"]) (uF e1) (ky (fs:=["expressions"]) (uF e2) (ky (fs:=[]) (DF e3) rfl));show Nx S.length ["name", "name", "expressions"] _=_;refine this.trans ?_;show some (Rs.ok _,st S ds _)=some (Rs.ok _,st S ds (fH (.call i f as)).length);rw[show(fH (.call i f as)).length=as.length+3 by simp[fH,kA]];rfl
 | fin=>rfl
 | ret a=>exact rP S _ a
 | iff a=>exact rP S _ a
 | tell a=>exact rP S _ a
theorem DL(S:ai)(l:Ln)(hl:qO l):di [.str (pQ l)] S=some (.ok (fW l),st S ((fH l).map .str) (fH l).length):=by
 let ds:=(fH l).map W.str;let S1:=st S ds 1;let S2:=st S ds (fH l).length;have lk:=xR l hl;have wr:=BD (S:=S) (ws:=fH l) (by simp[fH]) (λw hw=>(yw (ur l w hw)).2.1) (UF lk.1 (by decide));have wd:=sA (Je S ds 0) (d:=.str (cj l)) rfl;rw[Mt]at wd;have z:(NB l).length<=9000:=by cases l <;> simp[NB]
 have cm:gK [some 1,none] (aa (yc d9 (ac 2))) (ae 1) (aa cb) (aM cy (aa #[ac 1,ac 0])) [.val (.str (pQ l)),.val (.ref S.length),.val (.str (cj l)),.no] S1=some (.ok (.list (qk l)),S2):=by
  refine D7 (S0:=S1) (ds:=(NB l).map .str) (aj ?_) (sz _ (by simpa using z)) (AG S l hl);show(d9.lookup (cj l)).map _=_;rw[Ao];rfl
 have ov:gq [.ref S.length] S2=some (.ok .none,S2):=D3 (ds:=ds) (by
  have:=Je S ds (fH l).length;rw[show ds.length=(fH l).length by simp[ds]];exact this)
 refine(au rfl).trans ((Uh bC (?_:_=some (.rt (fW l),S2))).trans rfl);refine(af (δ':=[.val (.str (pQ l)),.val (.ref S.length),.no,.no]) (aQ (aB (S1:=S) (ds:=[.str (pQ l)]) rfl wr) rfl)).trans ?_;refine(af (δ':=[.val (.str (pQ l)),.val (.ref S.length),.val (.str (cj l)),.no]) (S':=S1) (aQ (aB (S1:=st S ds 0) (ds:=[.ref S.length]) rfl wd) rfl)).trans ?_;refine(af (δ':=[.val (.str (pQ l)),.val (.ref S.length),.val (.str (cj l)),.no]) (S':=S1) ((aY (S1:=S1) (aj ?_)).trans rfl)).trans ?_
 . show(d9.lookup (cj l)).map _=_;rw[Ao];rfl
 refine(af (δ':=[.val (.str (pQ l)),.val (.ref S.length),.val (.str (cj l)),.val (.list (qk l))]) (S':=S2) (aQ cm rfl)).trans ?_;refine(af (S':=S2) (aX (aB (S1:=S2) (ds:=[.ref S.length]) rfl ov))).trans ?_;refine cX (bt (dO (a:=.tuple [.str (cj l)]) (b:=.tuple (qk l)) (PB rfl) rfl ?_));have zz:([W.str (cj l)]≠[])/\[W.str (cj l)].length+(qk l).length<=sizeLine:=⟨by simp,sz _ (by cases l <;> simp[qk])⟩
 simp only[bp,Ul zz];rfl
noncomputable def gW(Ls:List Ln):ai:=Ls.map λl=>bT ((fH l).map .str) (fH l).length
noncomputable def pN(Ls:List Ln):List W:=Ls.map λl=>.str (pQ l)
theorem wq:∀(Ls:List Ln)(S:ai),(∀l∈Ls,qO l)->ck (ae 0) (aa cb) (aM di (aa #[ac 0])) [.no] (pN Ls) S=some (.ok (Ls.map fW),S++gW Ls)
 | [],S,_=>by simp[pN,gW,ck]
 | l::Ls,S,h=>by
  have ih:=wq Ls (st S ((fH l).map .str) (fH l).length) λx hx=>h x (TY _ hx);have e:=Qo (h:=ae 0) (δ:=[.no]) (δ2:=[.val (.str (pQ l))]) (d:=.str (pQ l)) rfl (aB (f:=di) (fa:=aa #[ac 0]) (S1:=S) (ds:=[.str (pQ l)]) rfl (DL S l (h l Ua))) ih;refine e.trans ?_;simp[gW]
noncomputable def pl:Option Nat->List W
 | none=>[]
 | some k=>.str "def" :: List.replicate k (.str "if")
noncomputable def wZ(l:Nat)(b:Bool):List (Str×W):=[(Str.ofString "opened", .ref l),(Str.ofString "in_main", .bool b)]
noncomputable abbrev nS(S:ai)(c:Option Nat×Bool):ai:=S++[.ins (Str.ofString "Nest") (wZ (S.length+1) c.2),.lst (pl c.1)]
noncomputable def BQ:Option Nat×Bool->Ln->Option (Option Nat×Bool)
 | (none,_),.df f=>some (some 0,decide (bP f=Str.ofString "main"))
 | (some 0,b),.fin=>some (none,b)
 | (some (k+1),b),.fin=>some (some k,b)
 | (some k,b),.iff _=>if k<5 then some (some (k+1),b) else none
 | (some k,b),.ret _=>if b=false then some (some k,b) else none
 | (some k,b),.tell _=>some (some k,b)
 | (some k,b),.call _ _ _=>some (some k,b)
 | _,_=>none
theorem RE(l:Nat)(b:Bool):(wZ l b).lookup (Str.ofString "opened")=some (.ref l):=by kernel_rfl
theorem Rq(l:Nat)(b:Bool):(wZ l b).lookup (Str.ofString "in_main")=some (.bool b):=by kernel_rfl
theorem LF(l:Nat)(b:Bool):(wZ l b).lookup (Str.ofString "check")=none/\(wZ l b).lookup (Str.ofString "check_def")=none/\(wZ l b).lookup (Str.ofString "check_block")=none:=⟨by kernel_rfl,by kernel_rfl,by kernel_rfl⟩
theorem P6(l:Nat)(b c:Bool):c7 (Str.ofString "in_main") (.bool c) (wZ l b)=wZ l c:=by kernel_rfl
section
variable{S:ai}{c:Option Nat×Bool}{δ:DS}
theorem Oe:(nS S c)[S.length]?=some (.ins (Str.ofString "Nest") (wZ (S.length+1) c.2)):=by simp
theorem Nm:(nS S c)[S.length+1]?=some (.lst (pl c.1)):=by simp
theorem So(x:List W):(nS S c).set (S.length+1) (.lst x)=S++[.ins (Str.ofString "Nest") (wZ (S.length+1) c.2),.lst x]:=aS S _ 1 _
theorem PH{fo:DS->Option W}(h:fo δ=some (.ref S.length)):bB "Nest" "opened" (aa fo) δ (nS S c)=some (.ok (.ref (S.length+1)),nS S c):=pO (S1:=nS S c) (aj h) Oe (RE _ _)
theorem NT{fo:DS->Option W}(h:fo δ=some (.ref S.length)):sm (bB "Nest" "opened" (aa fo)) δ (nS S c)=some (.ok (c.1.isSome),nS S c):=by
 refine(R6 (PH h) Nm).trans ?_;obtain⟨c,b⟩:=c;cases c <;> rfl
theorem JJ{g:W->W->Option W}{fa fb:DS->ai->SM W}{T T1 T2:ai}{x y r:W}(h1:fa δ T=some (.ok x,T1))(h2:fb δ T1=some (.ok y,T2))(h3:g x y=some r):sZ g fa fb δ T=some (.ok r,T2):=by
 simp only[sZ,aq,h1,h2,h3,iD,Ue]
theorem pI{fa:DS->ai->SM (List W)}{T T1:ai}{ds:List W}(h1:fa δ T=some (.ok ds,T1))(h2:ds.length<=9000):jA fa δ T=some (.ok (.tuple ds),T1):=by
 have z:=sz _ h2;simp only[jA,aq,h1,Ul z]
theorem kin:∀l:Ln,iS (.str (cj l)) (.tuple [.str "if", .str "while"])=some (match l with | .iff _=>true | _=>false)/\iS (.str (cj l)) (.tuple [.str "break", .str "again"])=some false/\i3 (.str (cj l)) (.tuple [.str "else", .str "end"])=some (match l with | .fin=>false | _=>true):=by
 intro l;cases l <;> exact⟨by kernel_rfl,by kernel_rfl,by kernel_rfl⟩
theorem Go(f:Fin 6)(b:Bool):f7 [.ref S.length,.str (bP f)] (nS S (none,b))=some (.ok .none,nS S (some 0,decide (bP f=Str.ofString "main"))):=by
 let δ:DS:=[.val (.ref S.length),.val (.str (bP f))]
 refine(au rfl).trans ((Uh bC (?_:_=some (.nx δ,nS S (some 0,decide (bP f=Str.ofString "main"))))).trans rfl);refine(af (δ':=δ) (S':=nS S (none,b)) ((aY (NT rfl)).trans rfl)).trans ?_;refine(af (GV (q:=[]) (PH rfl) Nm rfl Nm (by simp))).trans ?_;rw[So];have e:=Sa (c := "Nest") (f := "in_main") (fv:=aa (dB (aw bM (ao 1) !"main"))) (fo:=aa (ac 0)) (δ:=δ) (S:=S++[.ins (Str.ofString "Nest") (wZ (S.length+1) b),.lst [.str "def"]]) (d:=.bool (decide (bP f=Str.ofString "main"))) (n:=S.length) rfl rfl (by simp;rfl) (by simp[wZ]);refine e.trans ?_;have e1:=aS S [.ins (Str.ofString "Nest") (wZ (S.length+1) b),.lst [.str "def"]] 0 (.ins (Str.ofString "Nest") (c7 (Str.ofString "in_main") (.bool (decide (bP f=Str.ofString "main"))) (wZ (S.length+1) b)));simp only[VI]at e1;rw[P6]at e1;rw[P6,e1];rfl
theorem Ba(k:Nat)(b:Bool)(hk:k<5):eI [.ref S.length,.str "if"] (nS S (some k,b))=some (.ok .none,nS S (some (k+1),b)):=by
 let δ:DS:=[.val (.ref S.length),.val (.str "if")]
 refine(au rfl).trans ((Uh bC (?_:_=some (.nx δ,nS S (some (k+1),b)))).trans rfl);have ln:(pl (some k)).length=k+1:=by simp[pl]
 have t:wB zB (ly (bB "Nest" "opened" (aa (ac 0)))) (aa (dC (.int 5))) δ (nS S (some k,b))=some (.ok false,nS S (some k,b)):=by
  refine Oy (M3 (PH rfl) Nm) rfl ?_;show some (decide ((5:Int)<(pl (some k)).length))=_;rw[ln,Up (by omega)]
 refine(af (δ':=δ) (S':=nS S (some k,b)) ((aY t).trans rfl)).trans ?_;refine(GV (PH rfl) Nm rfl Nm (by rw[ln];omega)).trans ?_;rw[So];have:pl (some k)++[.str "if"]=pl (some (k+1)):=by simp[pl,<-List.replicate_append_replicate]
 rw[this]
end
theorem kq:∀l:Ln,decide (cj l=Str.ofString "def")=(match l with | .df _=>true | _=>false)/\decide (cj l=Str.ofString "else")=false/\decide (cj l=Str.ofString "end")=(match l with | .fin=>true | _=>false)/\decide (cj l=Str.ofString "return")=(match l with | .ret _=>true | _=>false)/\decide (cj l=Str.ofString "if")=(match l with | .iff _=>true | _=>false)/\decide (cj l=Str.ofString "while")=false/\decide (cj l=Str.ofString "call")=(match l with | .call _ _ _=>true | _=>false)/\decide (cj l=Str.ofString "tell")=(match l with | .tell _=>true | _=>false):=by
 intro l;cases l <;> exact⟨by kernel_rfl,by kernel_rfl,by kernel_rfl,by kernel_rfl,by kernel_rfl,by kernel_rfl,by kernel_rfl,by kernel_rfl⟩
section
variable{S:ai}{c:Option Nat×Bool}
theorem nO{l:Ln}(k:Nat)(b:Bool)(h1:decide (cj l=Str.ofString "def")=false)(h2:decide (cj l=Str.ofString "end")=false)(h3:decide (cj l=Str.ofString "if")=false)(h4:decide (cj l=Str.ofString "return")=false∨b=false)(h5:iS (.str (cj l)) (.tuple [.str "if", .str "while"])=some false):
 fm [.ref S.length,fW l] (nS S (some k,b))=some (.ok .none,nS S (some k,b)):=by
 let δ:DS:=[.val (.ref S.length),.val (fW l),.val (.str (cj l))]
 let T:=nS S (some k,b);refine(au rfl).trans ((Uh bC (?_:_=some (.nx δ,T))).trans rfl);refine(af (δ':=δ) (S':=T) (aA (aR (x0 rfl) rfl))).trans ?_;refine(fF rfl h1).trans ?_;refine(aY (S1:=T) (ii (NT rfl))).trans ?_;refine(fF rfl (kq l).2.1).trans ?_;refine(fF rfl h2).trans ?_;refine(aY (S1:=T) (aj (jU (b:=.tuple [.str "if", .str "while"]) rfl (xB rfl rfl) h5))).trans ?_;refine(aY (S1:=T) (rh (aj (jU (b:=.tuple [.str "break", .str "again"]) rfl (xB rfl rfl) (kin l).2.1)))).trans ?_;have t:pR (aa (aw bM (ao 2) !"return")) (mB (bB "Nest" "in_main" (aa (ac 0)))) δ T=some (.ok false,T):=by
  rcases h4 with h4 | rfl
  . exact rh (sF rfl h4)
  . have im:mB (bB "Nest" "in_main" (aa (ac 0))) δ T=some (.ok false,T):=Ak (pO (S1:=T) rfl Oe (Rq _ _));cases hr:decide (cj l=Str.ofString "return") with
    | false=>exact rh (sF rfl hr)
    | true=>exact se (by have:=aj (S:=T) (tD (f:=ao 2) (δ:=δ) (b:=Str.ofString "return") rfl);rw[hr]at this;exact this) im
 exact(aY t).trans rfl
theorem Br{l:Ln}{c c':Option Nat×Bool}(h:BQ c l=some c'):fm [.ref S.length,fW l] (nS S c)=some (.ok .none,nS S c'):=by
 obtain⟨o,b⟩:=c;cases o with
 | none=>
  cases l with
  | df f=>
   cases h;let δ:DS:=[.val (.ref S.length),.val (fW (.df f)),.val (.str "def")]
   refine(au rfl).trans ((Uh bC (?_:_=some (.nx δ,_))).trans rfl);refine(af (δ':=δ) (S':=nS S (none,b)) (aA (aR (x0 rfl) rfl))).trans ?_;exact(fT rfl).trans (aX (gG (ds:=[.str (bP f)]) (S1:=nS S (none,b)) rfl Oe (LF _ _).2.1 (aj (gT (x1 rfl) rfl)) (Go f b)))
  | _=>cases h
 | some k=>
  cases l with
  | df f=>cases k <;> cases h
  | fin=>
   let δ:DS:=[.val (.ref S.length),.val (fW .fin),.val (.str "end")]
   have go:∀(d:W)(q:List W)(c':Option Nat),pl (some k)=q++[d]->q=pl c'->fm [.ref S.length,fW .fin] (nS S (some k,b))=some (.ok .none,nS S (c',b)):=λd q c' hq hc=>by
    refine(au rfl).trans ((Uh bC (?_:_=some (.nx δ,nS S (c',b)))).trans rfl);refine(af (δ':=δ) (S':=nS S (some k,b)) (aA (aR (x0 rfl) rfl))).trans ?_;refine(fF rfl (by decide +kernel)).trans ?_;refine(aY (S1:=nS S (some k,b)) (ii (NT rfl))).trans ?_;refine(fF rfl (by decide +kernel)).trans ?_;refine(fT rfl).trans (aX (d:=d) ?_);have:=Ox (δ:=δ) (PH (c:=(some k,b)) (fo:=ac 0) rfl) (by rw[<-hq];exact Nm);rw[So,hc]at this;exact this
   cases k with
   | zero=>cases h;exact go (.str "def") [] none rfl rfl
   | succ k=>cases h;exact go (.str "if") (pl (some k)) (some k) (by simp[pl,List.replicate_succ']) rfl
  | iff a=>
   have hk:k<5/\c'=(some (k+1),b):=by
    cases k with
    | zero=>cases h;exact⟨by decide,rfl⟩
    | succ k=>
     simp only[BQ]at h;split at h
     . cases h;exact⟨by assumption,rfl⟩
     . cases h
   obtain⟨hk,rfl⟩:=hk;let δ:DS:=[.val (.ref S.length),.val (fW (.iff a)),.val (.str "if")]
   let T:=nS S (some k,b);refine(au rfl).trans ((Uh bC (?_:_=some (.nx δ,nS S (some (k+1),b)))).trans rfl);refine(af (δ':=δ) (S':=T) (aA (aR (x0 rfl) rfl))).trans ?_;refine(fF rfl (by decide +kernel)).trans ?_;refine(aY (S1:=T) (ii (NT rfl))).trans ?_;refine(fF rfl (by decide +kernel)).trans ?_;refine(fF rfl (by decide +kernel)).trans ?_;refine(eZ (S1:=T) (aj (jU (b:=.tuple [.str "if", .str "while"]) rfl (xB rfl rfl) (kin (.iff a)).1))).trans ?_;exact aX (gG (ds:=[.str "if"]) (S1:=T) rfl Oe (LF _ _).2.2 rfl (Ba k b hk))
  | ret a=>
   have hb:b=false/\c'=(some k,b):=by
    cases k <;> simp only[BQ]at h <;> split at h <;> first | (cases h;exact⟨by assumption,rfl⟩) | cases h
   obtain⟨hb,rfl⟩:=hb;exact nO k b (kq _).1 (kq _).2.2.1 (kq _).2.2.2.2.1 (.inr hb) (kin _).1
  | tell a=>
   obtain rfl:c'=(some k,b):=by cases k <;> cases h <;> rfl
   exact nO k b (kq _).1 (kq _).2.2.1 (kq _).2.2.2.2.1 (.inl (kq _).2.2.2.1) (kin _).1
  | call i f as=>
   obtain rfl:c'=(some k,b):=by cases k <;> cases h <;> rfl
   exact nO k b (kq _).1 (kq _).2.2.1 (kq _).2.2.2.2.1 (.inl (kq _).2.2.2.1) (kin _).1
noncomputable def lz:Option Nat×Bool->List Ln->Option (Option Nat×Bool)
 | c,[]=>some c
 | c,l::Ls=>(BQ c l).bind λc'=>lz c' Ls
theorem mU:∀(a b:List Ln)(c:Option Nat×Bool),lz c (a++b)=(lz c a).bind λc'=>lz c' b
 | [],_,_=>rfl
 | l::a,b,c=>by
  simp only[U7,lz];cases BQ c l with
  | none=>rfl
  | some c'=>exact mU a b c'
theorem As:∀(Ls:List Ln)(c c':Option Nat×Bool)(x:W)(s:Sl),lz c Ls=some c'->∃s',bc (ae 2) jx (Ls.map fW) [.val x,.val (.ref S.length),s] (nS S c)=some (.nx [.val x,.val (.ref S.length),s'],nS S c')
 | [],c,c',x,s,h=>by cases h;exact⟨s,rfl⟩
 | l::Ls,c,c',x,s,h=>by
  obtain⟨c1,h1,h2⟩:=oB h
  obtain⟨s',e⟩:=As Ls c1 c' x (.val (fW l)) h2;refine⟨s',(aL (δ2:=[.val x,.val (.ref S.length),.val (fW l)]) rfl (aX (gG (ds:=[fW l]) (S1:=nS S c) rfl Oe (LF _ _).1 rfl (Br h1)))).trans e⟩
end
theorem BF(S:ai)(Ls:List Ln)(b:Bool)(h:lz (none,false) Ls=some (none,b)):io [.list (Ls.map fW)] S=some (.ok .none,nS S (none,b)):=by
 have mi:gb [.ref S.length] (S++[.ins (Str.ofString "Nest") []])=some (.ok .none,nS S (none,false)):=by
  let δ:DS:=[.val (.ref S.length)]
  refine(au rfl).trans ((Uh bC (?_:_=some (.nx δ,nS S (none,false)))).trans rfl);refine(af (dY (n:=S.length) (fs:=[]) (S1:=S++[.ins (Str.ofString "Nest") [],.lst []]) (d:=.ref (S.length+1)) (by simp[kT,aq,aa,ah]) rfl (by simp) (by simp))).trans ?_;have e1:=aS S [.ins (Str.ofString "Nest") [],.lst []] 0 (.ins (Str.ofString "Nest") (c7 (Str.ofString "opened") (.ref (S.length+1)) []));simp only[VI]at e1;rw[e1];refine(dY (n:=S.length) (fs:=c7 (Str.ofString "opened") (.ref (S.length+1)) []) (S1:=S++[.ins (Str.ofString "Nest") (c7 (Str.ofString "opened") (.ref (S.length+1)) []),.lst []]) (d:=.bool false) rfl rfl (by simp) (by simp[c7])).trans ?_;have e2:=aS S [.ins (Str.ofString "Nest") (c7 (Str.ofString "opened") (.ref (S.length+1)) []),.lst []] 0 (.ins (Str.ofString "Nest") (c7 (Str.ofString "in_main") (.bool false) (c7 (Str.ofString "opened") (.ref (S.length+1)) [])));simp only[VI]at e2;rw[e2];have e3:c7 (Str.ofString "in_main") (.bool false) (c7 (Str.ofString "opened") (.ref (S.length+1)) [])=wZ (S.length+1) false:=by kernel_rfl
  rw[e3];rfl
 obtain⟨s',e⟩:=As (S:=S) Ls (none,false) (none,b) (.list (Ls.map fW)) .no h;let δ:DS:=[.val (.list (Ls.map fW)),.val (.ref S.length),s']
 refine(au rfl).trans ((Uh bC (?_:_=some (.nx δ,nS S (none,b)))).trans rfl);refine(af (δ':=[.val (.list (Ls.map fW)),.val (.ref S.length),.no]) (S':=nS S (none,false)) (aQ (lX (S1:=S) (ds:=[]) rfl mi) rfl)).trans ?_;refine(af ((cc (S1:=nS S (none,false)) (ds:=Ls.map fW) rfl).trans e)).trans ?_;exact(aY (NT rfl)).trans rfl
inductive Bd where
 | nil | tell (a:Lf) (r:Bd) | call (i:Fin 2) (f:Fin 5) (as:List Lf) (r:Bd) | ret (a:Lf) (r:Bd) | iff (a:Lf) (b r:Bd)
noncomputable def av:Bd->List Ln
 | .nil=>[] | .tell a r=>.tell a::av r | .call i f as r=>.call i f as::av r | .ret a r=>.ret a::av r
 | .iff a b r=>.iff a::(av b++.fin::av r)
noncomputable def i6:Bd->Nat
 | .nil=>0 | .tell _ r=>i6 r | .call _ _ _ r=>i6 r | .ret _ r=>i6 r
 | .iff _ b r=>max (i6 b+1) (i6 r)
noncomputable def dg(n:Nat)(l:Ln):W:=.tuple (.str (cj l)::.int n::qk l)
noncomputable def cS:Nat->Bd->List W
 | _,.nil=>[]
 | n,.tell a r=>dg n (.tell a)::cS (n+1) r
 | n,.call i f as r=>dg n (.call i f as)::cS (n+1) r
 | n,.ret a r=>dg n (.ret a)::cS (n+1) r
 | n,.iff a b r=>.tuple [.str "if", .int n,cG a,.list (cS (n+1) b),.none]::cS (n+(av b).length+2) r
section
variable{I:Nat}{ds:List W}{pf:List W->ai->SM W}
theorem EW{S:ai}{i:Nat}{δ:DS}{fo:DS->Option W}(h1:fo δ=some (.ref I))(h:S[I]?=some (bT ds i)):bB "Walk" "at" (aa fo) δ S=some (.ok (.int i),S):=pO (S1:=S) (aj h1) h (DN ds i)
theorem Cf{S:ai}{i:Nat}{l:Ln}{s:Sl}(h:S[I]?=some (bT ds (i+1))):sZ bp (jA (aK (aa 1[0]!) (aK (bB "Walk" "at" (aa (ac 0))) dX))) (aa (x8 (ac 1) (b9 !1) b8)) [.val (.ref I),.val (fW l),s] S=some (.ok (dg (i+1) l),S):=by
 refine JJ (pI (ds:=[.str (cj l),.int ((i+1:Nat):Int)]) (ax (aj (x0 rfl)) (ax (EW rfl h) rfl)) (by simp)) (aj (d:=.tuple (qk l)) ?_) ?_
 . show some (W.tuple (dS (.str (cj l)::qk l) (some 1) none))=_;rw[IJ]
 . have z:=sz (2+(qk l).length) (by cases l <;> simp[qk]);rw[yE (by simp) (by simp;omega)];rfl
theorem wJ{S:ai}{i:Nat}{l:Ln}(h:S[I]?=some (bT ds i))(hd:ds[i]?=some (fW l)){k:DS->ai->SO}{o:wz×ai}(hk:k [.val (.ref I),.val (fW l),.val (dg (i+1) l)] (S.set I (bT ds (i+1)))=some o):
 ak (bH (aZ "Walk" "taken" bj (aa (ac 0)) (aa ah)) (ae 1)) (ak (bH (sZ bp (jA (aK (aa 1[0]!) (aK (bB "Walk" "at" (aa (ac 0))) dX))) (aa (x8 (ac 1) (b9 !1) b8))) (ae 2)) k) [.val (.ref I),.no,.no] S=some o:=by
 refine(af (δ':=[.val (.ref I),.val (fW l),.no]) (aQ (rc rfl h hd) rfl)).trans ?_;exact(af (δ':=[.val (.ref I),.val (fW l),.val (dg (i+1) l)]) (aQ (Cf (gN h)) rfl)).trans hk
theorem oe{S:ai}{i:Nat}{l:Ln}(h:S[I]?=some (bT ds i))(hd:ds[i]?=some (fW l))(hl:decide (cj l=Str.ofString "if")=false):cE pf [.ref I] S=some (.ok (dg (i+1) l),S.set I (bT ds (i+1))):=by
 refine(au rfl).trans ((Uh bC (?_:_=some (.rt (dg (i+1) l),S.set I (bT ds (i+1))))).trans rfl);refine wJ h hd ?_;refine(cF (x0 rfl) hl).trans ?_;refine(cF (x0 rfl) (kq l).2.2.2.2.2.1).trans ?_;rfl
theorem B2{S:ai}{i:Nat}(h:S[I]?=some (bT ds i))(hd:ds[i]?=some (fW .fin)):jj pf [.ref I] S=some (.ok .none,S.set I (bT ds (i+1))):=by
 refine(au rfl).trans ((Uh bC (?_:_=some (.rt .none,S.set I (bT ds (i+1))))).trans rfl);have t:uf false (sIx (aZ "Walk" "taken" bj (aa (ac 0)) (aa ah)) (aa !0)) (aa !"end") [.val (.ref I),.no] S=some (.ok true,S.set I (bT ds (i+1))):=by
  have e:sIx (aZ "Walk" "taken" bj (aa (ac 0)) (aa ah)) (aa !0) [.val (.ref I),.no] S=some (.ok (.str (cj .fin)),S.set I (bT ds (i+1))):=Tc (es:=.str (cj .fin)::qk .fin) (rc rfl h hd) rfl (BU _ _);have q:qZ false (.str (cj .fin)) (.str "end") (S.set I (bT ds (i+1)))=some true:=by kernel_rfl
  simp only[uf,aq];rw[e];show iD (qZ false (.str (cj .fin)) (.str "end") (S.set I (bT ds (i+1)))) _=_;rw[q];rfl
 exact gE ((eZ t).trans rfl)
theorem O8{S:ai}{i j:Nat}{a:Lf}{b:List W}(h:S[I]?=some (bT ds i))(hd:ds[i]?=some (fW (.iff a)))(hb:pf [.ref I] (S.set I (bT ds (i+1)))=some (.ok (.list b),S.set I (bT ds j)))(he:ds[j]?=some (fW .fin)):
 cE pf [.ref I] S=some (.ok (.tuple [.str "if", .int ((i+1:Nat):Int),cG a,.list b,.none]),S.set I (bT ds (j+1))):=by
 let R:W:=.tuple [.str "if", .int ((i+1:Nat):Int),cG a,.list b,.none];have o:=B2 (pf:=pf) (gN (x:=bT ds j) h) he;rw[wQ]at o;refine(au rfl).trans ((Uh bC (?_:_=some (.rt R,S.set I (bT ds (j+1))))).trans rfl);refine wJ h hd ?_;refine cT (x0 rfl) (cg (JJ (x:=dg (i+1) (.iff a)) (y:=.tuple [.list b,.none]) (T1:=S.set I (bT ds (i+1))) rfl (pI (ax (aB (S1:=S.set I (bT ds (i+1))) (ds:=[.ref I]) rfl hb) (ax (aB (S1:=S.set I (bT ds j)) (ds:=[.ref I]) rfl o) rfl)) (by simp)) ?_));exact yE (by simp) (sz 5 (by decide))
end
section
variable{I:Nat}{ds:List W}
noncomputable abbrev we:DS->ai->SM Bool:=wB i3 (sIx (aZ "Walk" "before" dW (aa (ac 0)) (aa ah)) (aa !0)) (aa (bJ #[!"else",!"end"]))
noncomputable def nf:Ln->Bool
 | .fin=>false
 | _=>true
theorem vS{S:ai}{i:Nat}{l:Ln}{acc:List W}(h:S[I]?=some (bT ds i))(hd:ds[i]?=some (fW l)):we [.val (.ref I),.own acc] S=some (.ok (nf l),S):=
 Oy (Tc (es:=.str (cj l)::qk l) (Hb rfl h hd) rfl (BU _ _)) (aj (xB rfl rfl)) ((kin l).2.2.trans (by cases l <;> rfl))
theorem ie{i:Nat}{x:W}{r:List W}(h:ds.drop i=x::r):ds[i]?=some x/\ds.drop (i+1)=r:=by
 constructor
 . have:=Uh (·[0]?) h;simpa using this
 . rw[<-VY,h];rfl
theorem k8{S:ai}{i j:Nat}{l:Ln}{x:W}{m fuel:Nat}{acc:List W}{o:wz×ai}(h:S[I]?=some (bT ds i))(hd:ds[i]?=some (fW l))(hl:nf l=true)(e:cE (bO m) [.ref I] S=some (.ok x,S.set I (bT ds j)))(ha:acc.length<9000)
 (k:bG we (dZ (bO m)) fuel [.val (.ref I),.own (acc++[x])] (S.set I (bT ds j))=some o):bG we (dZ (bO m)) (fuel+1) [.val (.ref I),.own acc] S=some o:=by
 have c:=vS (acc:=acc) h hd;rw[hl]at c;exact(Lq c (m7 rfl (aB (S1:=S) (ds:=[.ref I]) rfl e) ha)).trans k
theorem Ap{m i j:Nat}{S:ai}{b:List W}(e:bG we (dZ (bO m)) 1000000 [.val (.ref I),.own []] S=some (.nx [.val (.ref I),.own b],S.set I (bT ds j))):bO (m+1) [.ref I] S=some (.ok (.list b),S.set I (bT ds j)):=by
 show aN 1 2 _ _ _=_;refine(au rfl).trans ((Uh bC (?_:_=some (.rt (.list b),S.set I (bT ds j)))).trans rfl);refine(af (δ':=[.val (.ref I),.own []]) (S':=S) rfl).trans ?_;exact(af e).trans rfl
theorem gw:∀(b:Bd)(m i fuel:Nat)(acc r:List W)(S:ai),i6 b<=m->S[I]?=some (bT ds i)->ds.drop i=(av b).map fW++fW .fin::r->acc.length+(av b).length<9000->(av b).length<fuel->(av b).length<1000000->
 bG we (dZ (bO m)) fuel [.val (.ref I),.own acc] S=some (.nx [.val (.ref I),.own (acc++cS (i+1) b)],S.set I (bT ds (i+(av b).length)))
 | .nil,m,i,fuel,acc,r,S,hm,h,hd,ha,hf,hM=>by
  obtain⟨f,rfl⟩:∃f,fuel=f+1:=⟨fuel-1,by omega⟩
  have hd:=(ie hd).1;refine(HE (vS h hd)).trans ?_;rw[show i+(av .nil).length=i from rfl,fK h];simp[cS]
 | .tell a t,m,i,fuel,acc,r,S,hm,h,hd,ha,hf,hM=>by
  obtain⟨f,rfl⟩:∃f,fuel=f+1:=⟨fuel-1,by omega⟩
  obtain⟨h1,h2⟩:=ie hd;simp only[av,Ud]at ha hf hM;have e:=gw t m (i+1) f (acc++[dg (i+1) (.tell a)]) r _ hm (gN (x:=bT ds (i+1)) h) h2 (by simp;omega) (by omega) (by omega);rw[wQ]at e;refine k8 (l:=.tell a) h h1 rfl (oe h h1 (kq _).2.2.2.2.1) (by omega) (e.trans ?_);simp[cS,av,Vg,Wd 1]
 | .call c g as t,m,i,fuel,acc,r,S,hm,h,hd,ha,hf,hM=>by
  obtain⟨f,rfl⟩:∃f,fuel=f+1:=⟨fuel-1,by omega⟩
  obtain⟨h1,h2⟩:=ie hd;simp only[av,Ud]at ha hf hM;have e:=gw t m (i+1) f (acc++[dg (i+1) (.call c g as)]) r _ hm (gN (x:=bT ds (i+1)) h) h2 (by simp;omega) (by omega) (by omega);rw[wQ]at e;refine k8 (l:=.call c g as) h h1 rfl (oe h h1 (kq _).2.2.2.2.1) (by omega) (e.trans ?_);simp[cS,av,Vg,Wd 1]
 | .ret a t,m,i,fuel,acc,r,S,hm,h,hd,ha,hf,hM=>by
  obtain⟨f,rfl⟩:∃f,fuel=f+1:=⟨fuel-1,by omega⟩
  obtain⟨h1,h2⟩:=ie hd;simp only[av,Ud]at ha hf hM;have e:=gw t m (i+1) f (acc++[dg (i+1) (.ret a)]) r _ hm (gN (x:=bT ds (i+1)) h) h2 (by simp;omega) (by omega) (by omega);rw[wQ]at e;refine k8 (l:=.ret a) h h1 rfl (oe h h1 (kq _).2.2.2.2.1) (by omega) (e.trans ?_);simp[cS,av,Vg,Wd 1]
 | .iff a b t,m,i,fuel,acc,r,S,hm,h,hd,ha,hf,hM=>by
  obtain⟨f,rfl⟩:∃f,fuel=f+1:=⟨fuel-1,by omega⟩
  simp only[av,Ud,Ur]at ha hf hM;simp only[i6]at hm;obtain⟨m,rfl⟩:∃k,m=k+1:=⟨m-1,by omega⟩
  have hd0:ds.drop i=fW (.iff a)::((av b).map fW++fW .fin::((av t).map fW++fW .fin::r)):=by
   rw[hd];simp[av]
  obtain⟨h1,h2⟩:=ie hd0;have hj:ds.drop (i+1+(av b).length)=fW .fin::((av t).map fW++fW .fin::r):=by
   rw[<-VY,h2];rw[List.drop_left' (by simp)]
  obtain⟨h3,h4⟩:=ie hj;have eb:=gw b m (i+1) 1000000 [] _ _ (by omega) (gN (x:=bT ds (i+1)) h) h2 (by simp;omega) (by omega) (by omega);rw[wQ,UL]at eb;have es:=O8 h h1 (Ap (i:=i) (by have:=eb;rw[<-wQ S I (bT ds (i+1)) (bT ds (i+1+(av b).length))]at this;exact this) |>.trans (by rw[wQ])) h3;have e:=gw t (m+1) (i+1+(av b).length+1) f (acc++[.tuple [.str "if", .int ((i+1:Nat):Int),cG a,.list (cS (i+1+1) b),.none]]) r _ (by omega) (gN (x:=bT ds (i+1+(av b).length+1)) h) h4 (by simp;omega) (by omega) (by omega);rw[wQ]at e;refine k8 (l:=.iff a) h h1 rfl es (by omega) (e.trans ?_);have n1:i+1+(av b).length+1+(av t).length=i+(av (.iff a b t)).length:=by simp[av];omega
  have n2:i+1+(av b).length+1+1=i+1+(av b).length+2:=by omega
  rw[n1,n2];simp[cS]
end
noncomputable abbrev Df:=Fin 6×Bd
noncomputable def fU(d:Df):List Ln:=.df d.1::(av d.2++[.fin])
noncomputable def Ju(n:Nat)(d:Df):W:=.tuple [.str (bP d.1),.list ((jq d.1).map .str),.list (cS (n+1) d.2),.int n,.int ((n+(av d.2).length+1:Nat):Int)]
noncomputable def lP:List Df->List Ln
 | []=>[]
 | d::ds=>fU d++lP ds
noncomputable def nu:Nat->List Df->List W
 | _,[]=>[]
 | n,d::ds=>Ju n d::nu (n+(av d.2).length+2) ds
theorem gv(d:Df):(fU d).length=(av d.2).length+2:=by simp[fU]
theorem def_from{S:ai}{I i:Nat}{ds r:List W}{d:Df}(hm:i6 d.2<=6)(h:S[I]?=some (bT ds i))(hd:ds.drop i=(fU d).map fW++r)(hl:(av d.2).length<9000):lH [.ref I] S=some (.ok (Ju (i+1) d),S.set I (bT ds (i+(av d.2).length+2))):=by
 obtain⟨f,b⟩:=d;have hd0:ds.drop i=fW (.df f)::((av b).map fW++fW .fin::r):=by rw[hd];simp[fU]
 obtain⟨h1,h2⟩:=ie hd0;have hj:ds.drop (i+1+(av b).length)=fW .fin::r:=by
  rw[<-VY,h2,List.drop_left' (by simp)]
 obtain⟨h3,_⟩:=ie hj;let T:=S.set I (bT ds (i+1));let U:=S.set I (bT ds (i+1+(av b).length));let V:=S.set I (bT ds (i+1+(av b).length+1));have hT:T[I]?=some (bT ds (i+1)):=gN h;have eb:=Ap (i:=i) (gw b 6 (i+1) 1000000 [] _ _ hm hT h2 (by simpa using hl) (by dsimp only at hl;omega) (by dsimp only at hl;omega));have eu:T.set I (bT ds (i+1+(av b).length))=U:=wQ ..;rw[eu,UL]at eb;have ev:U.set I (bT ds (i+1+(av b).length+1))=V:=wQ ..;let L:W:=fW (.df f);refine(au rfl).trans ((Uh bC (?_:_=some (.rt (Ju (i+1) (f,b)),V))).trans ?_)
 . refine(af (δ':=[.val (.ref I),.val L,.no,.no]) (S':=T) (aQ (rc rfl h h1) rfl)).trans ?_;refine(af (δ':=[.val (.ref I),.val L,.val (.int ((i+1:Nat):Int)),.no]) (S':=T) (aQ (EW rfl hT) rfl)).trans ?_;refine(af (δ':=[.val (.ref I),.val L,.val (.int ((i+1:Nat):Int)),.val (.list (cS (i+1+1) b))]) (S':=U) (aQ (aB (S1:=T) (ds:=[.ref I]) rfl eb) rfl)).trans ?_;have e4:=rc (δ:=[.val (.ref I),.val L,.val (.int ((i+1:Nat):Int)),.val (.list (cS (i+1+1) b))]) (fo:=ac 0) rfl (gN h:U[I]?=_) h3;rw[ev]at e4;refine(af (aX e4)).trans ?_;have hV:V[I]?=some (bT ds (i+1+(av b).length+1)):=gN h;refine cg (pI (ax (aj (x1 rfl)) (ax (aj (x2 rfl)) (ax rfl (ax rfl (ax (EW rfl hV) rfl))))) (by simp)) |>.trans ?_
   simp[Ju]
 . have:i+1+(av b).length+1=i+(av b).length+2:=by omega
   simp only[V,this];rfl
theorem Ax:∀(ps:List Df)(i fuel:Nat)(acc ds:List W)(S:ai)(I:Nat)(a b c:Sl),(∀d∈ps,i6 d.2<=6)->S[I]?=some (bT ds i)->i<=ds.length->ds.drop i=(lP ps).map fW->acc.length+(lP ps).length<9000->(lP ps).length<fuel->
 bG (sX (mB (aZ "Walk" "is_over" bE (aa (ac 3)) (aa ah)))) wk fuel [a,b,c,.val (.ref I),.own acc] S=some (.nx [a,b,c,.val (.ref I),.own (acc++nu (i+1) ps)],S.set I (bT ds ds.length))
 | [],i,fuel,acc,ds,S,I,a,b,c,hm,h,hi,hd,ha,hf=>by
  obtain⟨f,rfl⟩:∃f,fuel=f+1:=⟨fuel-1,by omega⟩
  have hi:i=ds.length:=Nat.le_antisymm hi (List.drop_eq_nil_iff.mp hd);have o:=ii (tL (fo:=ac 3) (δ:=[a,b,c,.val (.ref I),.own acc]) rfl h);rw[Uq hi]at o;refine(HE o).trans ?_;rw[<-hi,fK h];simp[nu]
 | d::ps,i,fuel,acc,ds,S,I,a,b,c,hm,h,hi,hd,ha,hf=>by
  obtain⟨f,rfl⟩:∃f,fuel=f+1:=⟨fuel-1,by omega⟩
  simp only[lP,Ur,gv]at ha hf;have hd0:ds.drop i=(fU d).map fW++(lP ps).map fW:=by rw[hd];simp[lP]
  have ne:i≠ds.length:=by
   intro e;have:=Uh List.length hd0;rw[List.length_drop]at this;simp[fU]at this;omega
  have o:=ii (tL (fo:=ac 3) (δ:=[a,b,c,.val (.ref I),.own acc]) rfl h);rw[Up ne]at o;have e:=def_from (hm d Ua) h hd0 (by omega);have hj:ds.drop (i+(av d.2).length+2)=(lP ps).map fW:=by
   rw[Vg,<-VY,hd0,List.drop_left' (by simp[fU])]
  have hi2:i+(av d.2).length+2<=ds.length:=by
   have:=Uh List.length hd0;rw[List.length_drop]at this;simp[fU]at this;omega
  have ih:=Ax ps (i+(av d.2).length+2) f (acc++[Ju (i+1) d]) ds _ I a b c (λx hx=>hm x (TY _ hx)) (gN (x:=bT ds (i+(av d.2).length+2)) h) hi2 hj (by simp;omega) (by omega);rw[wQ]at ih;refine(Lq o (m7 rfl (aB (S1:=S) (ds:=[.ref I]) rfl e) (by omega))).trans (ih.trans ?_);have n2:i+(av d.2).length+2+1=i+1+(av d.2).length+2:=by omega
  rw[n2];simp[nu]
noncomputable def ny(n:Nat)(a:Lf)(b:Bd):W:=.tuple [.str "if", .int n,cG a,.list (cS (n+1) b),.none]
noncomputable def nj:List W->Nat->Bd->List W
 | _,_,.nil=>[]
 | ar,n,.tell a r=>.tuple [dg n (.tell a),.tuple ar]::nj ar (n+1) r
 | ar,n,.call i f as r=>.tuple [dg n (.call i f as),.tuple ar]::nj ar (n+1) r
 | ar,n,.ret a r=>.tuple [dg n (.ret a),.tuple ar]::nj ar (n+1) r
 | ar,n,.iff a b r=>.tuple [ny n a b,.tuple ar]::(nj (ar++[ny n a b]) (n+1) b++nj ar (n+(av b).length+2) r)
theorem kj:∀(b:Bd)(ar:List W)(n:Nat),(nj ar n b).length<=(av b).length
 | .nil,_,_=>by simp[nj]
 | .tell a r,ar,n=>by have:=kj r ar (n+1);simp[nj,av];omega
 | .call i f as r,ar,n=>by have:=kj r ar (n+1);simp[nj,av];omega
 | .ret a r,ar,n=>by have:=kj r ar (n+1);simp[nj,av];omega
 | .iff a b r,ar,n=>by
  have:=kj b (ar++[ny n a b]) (n+1);have:=kj r ar (n+(av b).length+2);simp[nj,av];omega
theorem rJ{l:Ln}(n:Nat)(h:decide (cj l=Str.ofString "if")=false):fR [dg n l]=some (.list []):=by
 have z0:=sz 0 (by decide);refine cw rfl ((iF (x0 rfl) (kq l).2.2.2.2.2.1).trans ((iF (x0 rfl) h).trans (bt ?_)));first | rfl | simp![uD,Ul z0]
theorem NS(n:Nat)(a:Lf)(b:Bd):fR [ny n a b]=some (.list [.list (cS (n+1) b)]):=by
 have z0:=sz 0 (by decide);have z1:=sz 1 (by decide);refine cw rfl ((iF (x0 rfl) (by decide +kernel)).trans (iT (x0 rfl) (bt ?_)));refine CT (ds:=[.list (cS (n+1) b),.none]) (r:=[.list (cS (n+1) b)]) ?_ (by simp) ?_
 . rfl
 . rfl
theorem Ng(ar:List W)(x:W)(h:ar.length<9000):Ag (.tuple ar) (.tuple [x])=some (.tuple (ar++[x])):=by
 cases ar with
 | nil=>rfl
 | cons y r=>
  have hz:(y::r).length+[x].length<=sizeLine:=sz _ (by simp at h ⊢;omega);show bp (.tuple (y::r)) (.tuple [x])=_;exact Ul ⟨by simp,hz⟩
theorem MX{pf:List W->Option W}{s0 s1:Sl}{ar acc es:List W}{st a:W}(h:pf [a,.tuple (ar++[st])]=some (.list es))(hz:acc.length+es.length<=9000)(hr:ar.length<9000):iX pf [s0,s1,.val (.tuple ar),.own acc,.val st,.val a]=some (.nx [s0,s1,.val (.tuple ar),.own (acc++es),.val st,.val a]):=by
 have z:=sz _ hz;have z1:=sz 1 (by decide);first | rfl | simp![iX,n9,uD,Ul z1,Ng ar st hr,h,Ul z]
theorem jZ{h:W->DS->Option DS}{f:DS->Option i5}{d:W}{ds:List W}{δ δ2 δ':DS}{o:Option i5}(h1:h d δ=some δ2)(h2:f δ2=some (.nx δ'))(h3:bZ h f ds δ'=o):bZ h f (d::ds) δ=o:=by
 rw[<-h3];show(h d δ).bind _=_;rw[h1];show(match f δ2 with | some (.nx δ')=>_ | some (.ct δ')=>_ | some (.bk δ')=>_ | some (.rt d)=>_ | none=>_)=_;rw[h2]
theorem qe{m:Nat}{s0 s1 s5:Sl}{ar acc bs:List W}{x:W}(hb:fR [x]=some (.list bs))(hl:acc.length<9000){o:Option i5}(e:bZ (ae 5) (iX (cr m)) bs [s0,s1,.val (.tuple ar),.own (acc++[.tuple [x,.tuple ar]]),.val x,s5]=o):jm (cr m) [s0,s1,.val (.tuple ar),.own acc,.val x,s5]=o:=by
 have z2:=sz 2 (by decide);have zl:acc.length<sizeLine:=Ui hl (sz 9000 (by decide));refine bb (δ1:=[s0,s1,.val (.tuple ar),.own (acc++[.tuple [x,.tuple ar]]),.val x,s5]) (by first | rfl | simp![uD,Ul z2,Ul zl]) ?_;exact mz (ds:=bs) (by first | rfl | simp![uD,hb]) e
theorem Ar{m n:Nat}{b:Bd}{ar:List W}{x:W}{y:List W}(hc:C6 (aw uq (ao 1) (dC .none)) (bJ ah) (ac 1) [.val (.list (cS n b)),.val x,.no,.no,.no,.no]=some (.tuple ar))
 (e:∃s4 s5,bZ (ae 4) (jm (cr m)) (cS n b) [.val (.list (cS n b)),.val x,.val (.tuple ar),.own [],.no,.no]=some (.nx [.val (.list (cS n b)),.val x,.val (.tuple ar),.own y,s4,s5])):cr (m+1) [.list (cS n b),x]=some (.list y):=by
 have z0:=sz 0 (by decide);obtain⟨s4,s5,e⟩:=e;show cD 2 6 _ _=_;refine cw rfl ?_;refine bb (δ1:=[.val (.list (cS n b)),.val x,.val (.tuple ar),.no,.no,.no]) (aR hc rfl) ?_;refine bb (δ1:=[.val (.list (cS n b)),.val x,.val (.tuple ar),.own [],.no,.no]) (by first | rfl | simp![uD,Ul z0]) ?_;refine bb (mz (ds:=cS n b) (by first | rfl | simp![uD]) e) ?_;first | rfl | simp![uD]
theorem on:∀(b:Bd)(m n:Nat)(ar acc:List W)(s0 s1 s4 s5:Sl),i6 b<=m->ar.length+i6 b<9000->acc.length+(av b).length<9000->∃s4' s5',bZ (ae 4) (jm (cr m)) (cS n b) [s0,s1,.val (.tuple ar),.own acc,s4,s5]=some (.nx [s0,s1,.val (.tuple ar),.own (acc++nj ar n b),s4',s5'])
 | .nil,m,n,ar,acc,s0,s1,s4,s5,_,_,_=>⟨s4,s5,by simp[cS,nj,bZ]⟩
 | .tell a r,m,n,ar,acc,s0,s1,s4,s5,hm,h9,hl=>by
  simp only[av,Ud]at hl;obtain⟨t4,t5,e⟩:=on r m (n+1) ar (acc++[.tuple [dg n (.tell a),.tuple ar]]) s0 s1 (.val (dg n (.tell a))) s5 hm h9 (by simp;omega);exact⟨t4,t5,(jZ (δ2:=[s0,s1,.val (.tuple ar),.own acc,.val (dg n (.tell a)),s5]) rfl (qe (rJ n (kq _).2.2.2.2.1) (by omega) rfl) e).trans (by simp[nj])⟩
 | .call i f as r,m,n,ar,acc,s0,s1,s4,s5,hm,h9,hl=>by
  simp only[av,Ud]at hl;obtain⟨t4,t5,e⟩:=on r m (n+1) ar (acc++[.tuple [dg n (.call i f as),.tuple ar]]) s0 s1 (.val (dg n (.call i f as))) s5 hm h9 (by simp;omega);exact⟨t4,t5,(jZ (δ2:=[s0,s1,.val (.tuple ar),.own acc,.val (dg n (.call i f as)),s5]) rfl (qe (rJ n (kq _).2.2.2.2.1) (by omega) rfl) e).trans (by simp[nj])⟩
 | .ret a r,m,n,ar,acc,s0,s1,s4,s5,hm,h9,hl=>by
  simp only[av,Ud]at hl;obtain⟨t4,t5,e⟩:=on r m (n+1) ar (acc++[.tuple [dg n (.ret a),.tuple ar]]) s0 s1 (.val (dg n (.ret a))) s5 hm h9 (by simp;omega);exact⟨t4,t5,(jZ (δ2:=[s0,s1,.val (.tuple ar),.own acc,.val (dg n (.ret a)),s5]) rfl (qe (rJ n (kq _).2.2.2.2.1) (by omega) rfl) e).trans (by simp[nj])⟩
 | .iff a b r,m,n,ar,acc,s0,s1,s4,s5,hm,h9,hl=>by
  simp only[av,Ud,Ur]at hl;simp only[i6]at hm h9;obtain⟨m,rfl⟩:∃j,m=j+1:=⟨m-1,by omega⟩
  obtain⟨u4,u5,eb⟩:=on b m (n+1) (ar++[ny n a b]) [] (.val (.list (cS (n+1) b))) (.val (.tuple (ar++[ny n a b]))) .no .no (by omega) (by simp;omega) (by simp;omega);have ec:=Ar (x:=.tuple (ar++[ny n a b])) rfl ⟨u4,u5,eb⟩;rw[UL]at ec;have lb:=kj b (ar++[ny n a b]) (n+1);obtain⟨t4,t5,e⟩:=on r (m+1) (n+(av b).length+2) ar (acc++[.tuple [ny n a b,.tuple ar]]++nj (ar++[ny n a b]) (n+1) b) s0 s1 (.val (ny n a b)) (.val (.list (cS (n+1) b))) (by omega) (by omega) (by simp;omega);refine⟨t4,t5,(jZ (δ2:=[s0,s1,.val (.tuple ar),.own acc,.val (ny n a b),s5]) rfl (qe (NS n a b) (by omega) (jZ (ds:=[]) rfl (MX ec (by simp;omega) (by omega)) rfl)) e).trans (by simp[nj])⟩
theorem qD(b:Bd)(n:Nat)(hm:i6 b<=7)(hl:(av b).length<9000):cr 8 [.list (cS n b),.none]=some (.list (nj [] n b)):=by
 obtain⟨s4,s5,e⟩:=on b 7 n [] [] (.val (.list (cS n b))) (.val .none) .no .no hm (by simp;omega) (by simpa using hl);exact Ar (x:=.none) (by simp![uD];rfl) ⟨s4,s5,e⟩
theorem uZ{S:ai}{d:Nat}{kvs:List (bD×W)}{x:Str}(h:S[d]?=some (.dK kvs)):qV (.ref d) (.str x) S=some (aU kvs (Sum.inr x)):=by simp[qV,iy,h,o8]
theorem JV{S:ai}{d:Nat}{kvs:List (bD×W)}{x:Str}{v:W}(h:S[d]?=some (.dK kvs))(hl:kvs.length<9000):uN (.ref d) (.str x) v S=some (S.set d (.dK (bL kvs (Sum.inr x) v))):=by
 have:=Ui hl (sz 9000 (Ug _));simp[uN,iy,h,o8,this]
theorem JB{fo fk:DS->ai->SM W}{δ:DS}{S:ai}{l:Nat}{kvs:List (bD×W)}{x:Str}{d:W}(h1:fo δ S=some (.ok (.ref l),S))(h:S[l]?=some (.dK kvs))(h2:fk δ S=some (.ok (.str x),S))(h3:aU kvs (.inr x)=some d):jK fo fk δ S=some (.ok d,S):=by
 simp only[jK,aq,h1,F5 h,Vj,U5,h2,uZ h,TZ,h3,Option.getD_some]
theorem Ts{fa fb:DS->ai->SM W}{δ:DS}{S:ai}{a:Int}(h1:fa δ S=some (.ok (.int a),S))(h2:fb δ S=some (.ok (.int a),S)):uf true fa fb δ S=some (.ok false,S):=by
 have:qZ true (.int a) (.int a) S=some (!decide (a=a)):=rfl;simp only[uf,aq,h1,h2,this,iD,Ue,decide_true,Bool.not_true]
noncomputable def CH(c:Nat)(S:ai)(x:W):Prop:=∃st ar,x=.tuple [st,ar]/\∀s0 s4,∃s4',fY [s0,.val (.ref c),.val st,.val ar,s4] S=some (.nx [s0,.val (.ref c),.val st,.val ar,s4'],S)
theorem zK{c:Nat}{S:ai}{s0:Sl}:∀(xs:List W)(s2 s3 s4:Sl),(∀x∈xs,CH c S x)->∃t2 t3 t4,bc (cW 2 (aD (ae 2) (aD (ae 3) db))) fY xs [s0,.val (.ref c),s2,s3,s4] S=some (.nx [s0,.val (.ref c),t2,t3,t4],S)
 | [],s2,s3,s4,_=>⟨s2,s3,s4,rfl⟩
 | x::xs,s2,s3,s4,h=>by
  obtain⟨st,ar,rfl,k⟩:=h x Ua;obtain⟨s4',e⟩:=k s0 s4;obtain⟨t2,t3,t4,e2⟩:=zK xs (.val st) (.val ar) s4' λy hy=>h y (TY _ hy);exact⟨t2,t3,t4,(aL rfl e).trans e2⟩
noncomputable def y3:Bd->List (Fin 5×List Lf)
 | .nil=>[] | .tell _ r=>y3 r | .call _ f as r=>(f,as)::y3 r | .ret _ r=>y3 r | .iff _ b r=>y3 b++y3 r
theorem T9:∀f:Fin 5,decide (bP (f5 f)=Str.ofString "main")=false:=by decide +kernel
section
variable{c:Nat}{S:ai}{kvs:List (bD×W)}
theorem vU{l:Ln}(n:Nat)(ar:W)(h:decide (cj l=Str.ofString "call")=false):CH c S (.tuple [dg n l,ar]):=⟨dg n l,ar,rfl,λs0 s4=>⟨s4,(fF (x0 rfl) h).trans rfl⟩⟩
theorem PV(n:Nat)(a:Lf)(b:Bd)(ar:W):CH c S (.tuple [ny n a b,ar]):=⟨ny n a b,ar,rfl,λs0 s4=>⟨s4,(fF (x0 rfl) (by decide +kernel)).trans rfl⟩⟩
theorem Hc(hS:S[c]?=some (.dK kvs))(n:Nat)(i:Fin 2)(f:Fin 5)(as:List Lf)(ar:W)(h:aU kvs (.inr (bP (f5 f)))=some (.int as.length)):CH c S (.tuple [dg n (.call i f as),ar]):=by
 refine⟨dg n (.call i f as),ar,rfl,λs0 s4=>⟨.val (.str (bP (f5 f))),(fT (x0 rfl)).trans ?_⟩⟩;let δ:DS:=[s0,.val (.ref c),.val (dg n (.call i f as)),.val ar,.val (.str (bP (f5 f)))]
 refine(af (δ':=δ) (S':=S) (aA (aR (x3 rfl) rfl))).trans ?_;have ln:cp bw 2[4]! δ=some (.int as.length):=bX (a:=.list (as.map cG)) (x4 rfl) (by show some (W.int ((as.map cG).length:Int))=_;rw[Uj]);have g:=JB (fo:=aa (ac 1)) (fk:=aa (ac 4)) (δ:=δ) rfl hS rfl h;have m0:aa (aw bM (ao 4) !"main") δ S=some (.ok false,S):=sF rfl (T9 f);have m1:uf true (jK (aa (ac 1)) (aa (ac 4))) (aa (cp bw 2[4]!)) δ S=some (.ok false,S):=Ts g (aj ln);have m:FH (aa (aw bM (ao 4) !"main")) (uf true (jK (aa (ac 1)) (aa (ac 4))) (aa (cp bw 2[4]!))) δ S=some (.ok false,S):=by
  simp only[FH,aq,m0,UR,V4,m1]
 exact(aY m).trans rfl
theorem nM(hS:S[c]?=some (.dK kvs)):∀(b:Bd)(n:Nat)(ar:List W),(∀q∈y3 b,aU kvs (.inr (bP (f5 q.1)))=some (.int q.2.length))->∀x∈nj ar n b,CH c S x
 | .nil,_,_,_,x,hx=>nomatch hx
 | .tell a r,n,ar,h,x,hx=>by
  rcases Ub.mp hx with rfl | hx
  . exact vU n _ (by kernel_rfl)
  . exact nM hS r _ ar h x hx
 | .ret a r,n,ar,h,x,hx=>by
  rcases Ub.mp hx with rfl | hx
  . exact vU n _ (by kernel_rfl)
  . exact nM hS r _ ar h x hx
 | .call i f as r,n,ar,h,x,hx=>by
  rcases Ub.mp hx with rfl | hx
  . exact Hc hS n i f as _ (h (f,as) Ua)
  . exact nM hS r _ ar (λq hq=>h q (TY _ hq)) x hx
 | .iff a b r,n,ar,h,x,hx=>by
  rcases Ub.mp hx with rfl | hx
  . exact PV n a b _
  . rcases Us.mp hx with hx | hx
    . exact nM hS b _ _ (λq hq=>h q (UM _ hq)) x hx
    . exact nM hS r _ ar (λq hq=>h q (Uo _ hq)) x hx
theorem Bl(hS:S[c]?=some (.dK kvs))(b:Bd)(n:Nat)(hm:i6 b<=7)(hl:(av b).length<9000)(h:∀q∈y3 b,aU kvs (.inr (bP (f5 q.1)))=some (.int q.2.length)):ik [.list (cS n b),.ref c] S=some (.ok .none,S):=by
 obtain⟨t2,t3,t4,e⟩:=zK (s0:=.val (.list (cS n b))) (nj [] n b) .no .no .no (nM hS b n [] h);refine(au rfl).trans ((Uh bC (?_:_=some (.nx [.val (.list (cS n b)),.val (.ref c),t2,t3,t4],S))).trans rfl);refine(cc (S1:=S) (ds:=nj [] n b) (aj ?_)).trans e;have p:nA (cr 8) #[ac 0] (f6 5 [.list (cS n b),.ref c])=some (.list (nj [] n b)):=qD b n hm hl;simp only[aI,p];rfl
end
noncomputable def sS(ps:List Df):List (bD×W):=ps.map λd=>(.inr (bP d.1),.int (lT d.1))
theorem ss:∀f g:Fin 6,bP f=bP g->f=g:=by decide +kernel
theorem wc:∀(ps:List Df)(f:Fin 6),f∉ps.map (·.1)->aU (sS ps) (.inr (bP f))=none
 | [],_,_=>rfl
 | d::ps,f,h=>by
  have ne:(Sum.inr (bP d.1):bD)≠Sum.inr (bP f):=λe=>h (by rw[<-ss _ _ (Sum.inr.inj e)];simp);have ih:=wc ps f λx=>h (TY _ x);simpa[sS,aU,UD,ne] using ih
theorem rR:∀(ps:List Df)(f:Fin 6),f∈ps.map (·.1)->aU (sS ps) (.inr (bP f))=some (.int (lT f))
 | d::ps,f,h=>by
  by_cases e:d.1=f
  . subst e;simp[sS,aU]
  . have ne:(Sum.inr (bP d.1):bD)≠Sum.inr (bP f):=λz=>e (ss _ _ (Sum.inr.inj z));have ih:=rR ps f ((Ub.mp h).resolve_left λz=>e z.symm);simpa[sS,aU,UD,ne] using ih
theorem uT:∀f:Fin 6,((jq f).foldl xD []).length=lT f/\(jq f).length=lT f:=by decide +kernel
theorem ko:∀ws:List Str,mS (ws.map .str)=some ws
 | []=>rfl
 | w::ws=>by
  show(some w).bind (λz=>(mS (ws.map .str)).map (z::·))=_;rw[ko ws];rfl
theorem tU:∀(ps acc:List Df)(n c:Nat)(S:ai)(s0 s2 s3 s4 s5 s6:Sl),S[c]?=some (.dK (sS acc))->((acc++ps).map (·.1)).Nodup->(acc++ps).length<9000->∃t2 t3 t4 t5 t6,bc (cW 5 (aD (ae 2) (aD (ae 3) (aD (ae 4) (aD (ae 5) (aD (ae 6) db)))))) j6 (nu n ps) [s0,.val (.ref c),s2,s3,s4,s5,s6] S=some (.nx [s0,.val (.ref c),t2,t3,t4,t5,t6],S.set c (.dK (sS (acc++ps))))
 | [],acc,n,c,S,s0,s2,s3,s4,s5,s6,h,nd,hl=>⟨s2,s3,s4,s5,s6,by rw[UK,fK h];rfl⟩
 | d::ps,acc,n,c,S,s0,s2,s3,s4,s5,s6,h,nd,hl=>by
  have nm:d.1∉acc.map (·.1):=by
   rw[UX,VU]at nd;exact λx=>nd.2.2 _ x _ (by simp) rfl
  have lk:=wc acc d.1 nm;have l9:(sS acc).length<9000:=by
   simp[sS]at hl ⊢;omega
  let T:=S.set c (.dK (sS (acc++[d])));obtain⟨t2,t3,t4,t5,t6,e⟩:=tU ps (acc++[d]) (n+(av d.2).length+2) c T s0 (.val (.str (bP d.1))) (.val (.list ((jq d.1).map .str))) (.val (.list (cS (n+1) d.2))) (.val (.int n)) (.val (.int ((n+(av d.2).length+1:Nat):Int))) (gN h) (by simpa using nd) (by simpa using hl);rw[wQ]at e;refine⟨t2,t3,t4,t5,t6,(aL (δ2:=[s0,.val (.ref c),.val (.str (bP d.1)),.val (.list ((jq d.1).map .str)),.val (.list (cS (n+1) d.2)),.val (.int n),.val (.int ((n+(av d.2).length+1:Nat):Int))]) rfl ?_).trans (e.trans (by simp))⟩;let δ:DS:=[s0,.val (.ref c),.val (.str (bP d.1)),.val (.list ((jq d.1).map .str)),.val (.list (cS (n+1) d.2)),.val (.int n),.val (.int ((n+(av d.2).length+1:Nat):Int))]
  have i1:wy false (aa (ac 2)) (aa (ac 1)) δ S=some (.ok false,S):=by
   simp only[wy,aq,aj (S:=S) (show ac 2 δ=some (.str (bP d.1)) from rfl),aj (S:=S) (show ac 1 δ=some (.ref c) from rfl),uZ h,lk,iD,Ue,Option.isSome_none,UR,V4]
  have p1:mK (ac 3) δ=some (.int (lT d.1)):=by
   have:ac 3 δ=some (.list ((jq d.1).map .str)):=rfl;have l3:(jq d.1).length<1000:=by have:=(jw d.1);omega
   simp only[mK,this,TZ,gX,ko,Ul l3,(uT d.1).1]
  have p2:cp bw (ao 3) δ=some (.int (lT d.1)):=bX (a:=.list ((jq d.1).map .str)) rfl (by show some (W.int (((jq d.1).map W.str).length:Int))=_;rw[Uj,(uT d.1).2]);have i2:aa (aw ng (mK (ac 3)) (cp bw (ao 3))) δ S=some (.ok false,S):=aj (jU p1 p2 (by show some (!decide ((lT d.1:Int)=lT d.1))=_;rw[Uq rfl];rfl));refine(af (δ':=δ) (S':=S) ((aY i1).trans rfl)).trans ?_;refine(af (δ':=δ) (S':=S) ((aY i2).trans rfl)).trans ?_;refine(Jz (S1:=S) (S2:=S) (S3:=S) (aj p2) rfl rfl h l9).trans ?_;rw[nK _ lk];simp[T,δ,sS]
theorem um{S:ai}{s0:Sl}{c:Nat}{kvs:List (bD×W)}(hS:S[c]?=some (.dK kvs)):∀(ps:List Df)(n:Nat)(s2 s3 s4 s5 s6:Sl),(∀d∈ps,i6 d.2<=7/\(av d.2).length<9000/\∀q∈y3 d.2,aU kvs (.inr (bP (f5 q.1)))=some (.int q.2.length))->∃t2 t3 t4 t5 t6,bc (cW 5 (aD (ae 2) (aD (ae 3) (aD (ae 4) (aD (ae 5) (aD (ae 6) db)))))) j4 (nu n ps) [s0,.val (.ref c),s2,s3,s4,s5,s6] S=some (.nx [s0,.val (.ref c),t2,t3,t4,t5,t6],S)
 | [],n,s2,s3,s4,s5,s6,h=>⟨s2,s3,s4,s5,s6,rfl⟩
 | d::ps,n,s2,s3,s4,s5,s6,h=>by
  obtain⟨t2,t3,t4,t5,t6,e⟩:=um hS ps (n+(av d.2).length+2) (.val (.str (bP d.1))) (.val (.list ((jq d.1).map .str))) (.val (.list (cS (n+1) d.2))) (.val (.int n)) (.val (.int ((n+(av d.2).length+1:Nat):Int))) λx hx=>h x (TY _ hx);obtain⟨h1,h2,h3⟩:=h d Ua;exact⟨t2,t3,t4,t5,t6,(aL (δ2:=[s0,.val (.ref c),.val (.str (bP d.1)),.val (.list ((jq d.1).map .str)),.val (.list (cS (n+1) d.2)),.val (.int n),.val (.int ((n+(av d.2).length+1:Nat):Int))]) rfl (aX (aB (S1:=S) (ds:=[.list (cS (n+1) d.2),.ref c]) rfl (Bl hS d.2 (n+1) h1 h2 h3)))).trans e⟩
noncomputable def GO(ps:List Df):Prop:=(ps.map (·.1)).Nodup/\ps.length<=6/\5∈ps.map (·.1)/\∀d∈ps,i6 d.2<=5/\(av d.2).length<9000/\∀q∈y3 d.2,f5 q.1∈ps.map (·.1)/\q.2.length=lT (f5 q.1)
theorem Bo{ps:List Df}(h:GO ps)(S:ai)(n:Nat):ir [.list (nu n ps)] S=some (.ok .none,S++[.dK (sS ps)]):=by
 let T:=S++[.dK []];let U:=S++[.dK (sS ps)];have eT:T[S.length]?=some (.dK (sS [])):=by simp[T,sS]
 have eU:U[S.length]?=some (.dK (sS ps)):=by simp[U]
 have eTU:T.set S.length (.dK (sS ps))=U:=by have:=aS S [.dK []] 0 (.dK (sS ps));simpa[T,U] using this
 obtain⟨t2,t3,t4,t5,t6,e1⟩:=tU ps [] n S.length T (.val (.list (nu n ps))) .no .no .no .no .no eT h.1 (by simp;have:=h.2.1;omega);rw[UL,eTU]at e1;obtain⟨u2,u3,u4,u5,u6,e2⟩:=um (s0:=.val (.list (nu n ps))) eU ps n t2 t3 t4 t5 t6 λd hd=>by
  obtain⟨a,b,c⟩:=h.2.2.2 d hd;exact⟨by omega,b,λq hq=>by rw[rR ps _ (c q hq).1,(c q hq).2]⟩
 have g:uf true (jK (aa (ac 1)) (aa !"main")) (aa !0) [.val (.list (nu n ps)),.val (.ref S.length),t2,t3,t4,t5,t6] U=some (.ok false,U):=Ts (JB rfl eU rfl (rR ps 5 h.2.2.1)) rfl;refine(au rfl).trans ((Uh bC (?_:_=some (.nx [.val (.list (nu n ps)),.val (.ref S.length),u2,u3,u4,u5,u6],U))).trans rfl);refine(af (δ':=[.val (.list (nu n ps)),.val (.ref S.length),.no,.no,.no,.no,.no]) (S':=T) rfl).trans ?_;refine(af ((cc (S1:=T) (ds:=nu n ps) rfl).trans e1)).trans ?_;refine(af (δ':=[.val (.list (nu n ps)),.val (.ref S.length),t2,t3,t4,t5,t6]) (S':=U) ((aY g).trans rfl)).trans ?_;exact(cc (S1:=U) (ds:=nu n ps) rfl).trans e2
noncomputable def Sd(Ls:List Ln):Str:=Str.join (ch 10) (Ls.map pQ)
noncomputable def rt:Bd->Bool
 | .nil=>false | .tell _ r=>rt r | .call _ _ _ r=>rt r | .ret _ _=>true | .iff _ b r=>rt b||rt r
theorem KI(c:Bool)(f:Fin 6):BQ (none,c) (.df f)=some (some 0,decide (bP f=Str.ofString "main")):=rfl
theorem JU{k:Nat}(c:Bool)(a:Lf)(h:k<5):BQ (some k,c) (.iff a)=some (some (k+1),c):=by cases k <;> simp[BQ,h]
theorem Oj(k:Nat)(c:Bool):BQ (some (k+1),c) .fin=some (some k,c):=rfl
theorem Ol(k:Nat)(c:Bool)(a:Lf):BQ (some k,c) (.tell a)=some (some k,c):=by cases k <;> rfl
theorem PY(k:Nat)(c:Bool)(i:Fin 2)(f:Fin 5)(as:List Lf):BQ (some k,c) (.call i f as)=some (some k,c):=by cases k <;> rfl
theorem Qe(k:Nat)(a:Lf):BQ (some k,false) (.ret a)=some (some k,false):=by cases k <;> rfl
theorem ot:∀(b:Bd)(k:Nat)(c:Bool),k+i6 b<=5->(c=true->rt b=false)->lz (some k,c) (av b)=some (some k,c)
 | .nil,_,_,_,_=>rfl
 | .tell a r,k,c,h,q=>by
  simp only[av,lz,Ol,TZ];exact ot r k c h q
 | .call i f as r,k,c,h,q=>by
  simp only[av,lz,PY,TZ];exact ot r k c h q
 | .ret a r,k,c,h,q=>by
  cases c with
  | true=>exact nomatch q rfl
  | false=>
   simp only[av,lz,Qe,TZ];exact ot r k false h nofun
 | .iff a b r,k,c,h,q=>by
  simp only[i6]at h;have qb:c=true->rt b=false/\rt r=false:=λe=>by have:=q e;simpa[rt] using this
  simp only[av,lz,JU c a (show k<5 by omega),TZ];rw[mU,ot b (k+1) c (by omega) λe=>(qb e).1];simp only[TZ,lz,Oj];exact ot r k c (by omega) λe=>(qb e).2
theorem Cj:∀(ps:List Df)(c:Bool),(∀d∈ps,i6 d.2<=5/\(d.1=5->rt d.2=false))->∃c',lz (none,c) (lP ps)=some (none,c')
 | [],c,_=>⟨c,rfl⟩
 | d::ps,c,h=>by
  obtain⟨h1,h2⟩:=h d Ua;obtain⟨c',e⟩:=Cj ps (decide (bP d.1=Str.ofString "main")) λx hx=>h x (TY _ hx);refine⟨c',?_⟩;rw[lP,mU,fU];simp only[lz,KI,TZ];rw[mU,ot d.2 0 (decide (bP d.1=Str.ofString "main")) (by omega) λz=>h2 (ss d.1 5 (UN z))];exact e
theorem tE:∀(b:Bd),(∀q∈y3 b,q.2.length=lT (f5 q.1))->∀l∈av b,qO l
 | .nil,_,l,hl=>nomatch hl
 | .tell a r,h,l,hl=>by
  rcases Ub.mp hl with rfl | hl
  . trivial
  . exact tE r h l hl
 | .ret a r,h,l,hl=>by
  rcases Ub.mp hl with rfl | hl
  . trivial
  . exact tE r h l hl
 | .call i f as r,h,l,hl=>by
  rcases Ub.mp hl with rfl | hl
  . exact h (f,as) Ua
  . exact tE r (λq hq=>h q (TY _ hq)) l hl
 | .iff a b r,h,l,hl=>by
  rcases Ub.mp hl with rfl | hl
  . trivial
  rcases Us.mp hl with hl | hl
  . exact tE b (λq hq=>h q (UM _ hq)) l hl
  rcases Ub.mp hl with rfl | hl
  . trivial
  . exact tE r (λq hq=>h q (Uo _ hq)) l hl
theorem Fv:∀(ps:List Df),(∀d∈ps,∀q∈y3 d.2,q.2.length=lT (f5 q.1))->∀l∈lP ps,qO l
 | [],_,l,hl=>nomatch hl
 | d::ps,h,l,hl=>by
  rcases Us.mp hl with hl | hl
  . rcases Ub.mp hl with rfl | hl
    . trivial
    rcases Us.mp hl with hl | hl
    . exact tE d.2 (h d Ua) l hl
    . rw[UB.mp hl];trivial
  . exact Fv ps (λx hx=>h x (TY _ hx)) l hl
theorem xq{ps:List Df}(h:GO ps)(hr:∀d∈ps,d.1=5->rt d.2=false)(hL:(lP ps).length<=200)(S:ai):∃R,lA [.str (Sd (lP ps))] S=some (.ok (.list (nu 1 ps)),S++R):=by
 let Ls:=lP ps;have ok:∀l∈Ls,qO l:=Fv ps λd hd q hq=>((h.2.2.2 d hd).2.2 q hq).2;have ne:Ls.map pQ≠[]:=by
  intro e;cases ps with
  | nil=>exact nomatch h.2.2.1
  | cons d ps=>simp[Ls,lP,fU]at e
 have lw:∀w∈Ls.map pQ,w.length<=54/\10∉w.cps.toList:=λw hw=>by
  obtain⟨l,hl,rfl⟩:=Vf.mp hw;exact xR l (ok l hl)
 have ln:(Ls.map pQ).length<=200:=by rw[Uj];exact hL
 have sp:=yS (c:=10) ne (λw hw=>(lw w hw).2) (UF (rX λw hw=>(lw w hw).1) (by have:=Nat.mul_le_mul_right 55 ln;omega));rw[List.map_map]at sp;obtain⟨c',en⟩:=Cj ps false λd hd=>⟨(h.2.2.2 d hd).1,hr d hd⟩
 let D:=Ls.map fW;let S1:=S++gW Ls;let S2:=nS S1 (none,c');let S3:=S2++[bT D 0];let S4:=S2++[bT D D.length];let S5:=S4++[.dK (sS ps)];let t:=Sd Ls;have e1:=wq Ls S ok;have e2:=BF S1 Ls c' en;have e3:=tJ S2 D;have g3:S3[S2.length]?=some (bT D 0):=by simp[S3]
 have e4:=Ax ps 0 1000000 [] D S3 S2.length (.val (.str t)) (.val (.list (pN Ls))) (.val (.list D)) (λd hd=>by have:=(h.2.2.2 d hd).1;omega) g3 (Vn _) rfl (by simp;omega) (by omega);have e34:S3.set S2.length (bT D D.length)=S4:=by have:=aS S2 [bT D 0] 0 (bT D D.length);simpa[S3,S4] using this
 rw[e34,UL,Nat.zero_add]at e4;have e5:=Bo h S4 1;refine⟨gW Ls++([.ins (Str.ofString "Nest") (wZ (S1.length+1) c'),.lst (pl none)]++([bT D D.length]++[.dK (sS ps)])),?_⟩;have eS:S++(gW Ls++([.ins (Str.ofString "Nest") (wZ (S1.length+1) c'),.lst (pl none)]++([bT D D.length]++[.dK (sS ps)])))=S5:=by simp[S5,S4,S2,S1,nS]
 rw[eS];let P:W:=.list (nu 1 ps);let δ0:DS:=[.val (.str t),.val (.list (pN Ls)),.no,.no,.no]
 refine(au rfl).trans ((Uh bC (?_:_=some (.rt P,S5))).trans rfl);refine(af (δ':=δ0) (S':=S) (aA (aR (vL rfl rfl sp) rfl))).trans ?_;have gt:aa (aw zB (cp bw (ao 1)) (dC (.int 200))) δ0 S=some (.ok false,S):=by
  refine aj (jU (bX (a:=.list (pN Ls)) (r:=.int (pN Ls).length) rfl rfl) rfl ?_);show some (decide ((200:Int)<((pN Ls).length:Int)))=_;rw[Up (by have:Ls.length<=200:=hL;simp[pN];omega)]
 refine(af (δ':=δ0) (S':=S) ((aY gt).trans rfl)).trans ?_;let δ1:DS:=[.val (.str t),.val (.list (pN Ls)),.val (.list D),.no,.no]
 have co:gK [none] (aa (aI (ac 1))) (ae 0) (aa cb) (aM di (aa #[ac 0])) δ0 S=some (.ok (.list D),S1):=by
  have z:(pN Ls).length<=sizeLine:=sz _ (by have:Ls.length<=200:=hL;simp[pN];omega);have a:aa (aI (ac 1)) δ0 S=some (.ok (pN Ls),S):=rfl;have b:ck (ae 0) (aa cb) (aM di (aa #[ac 0])) (c9 [none] δ0) (pN Ls) S=_:=e1;simp only[gK,aq,a,Ul z,b];rfl
 refine(af (δ':=δ1) (S':=S1) (aQ co rfl)).trans ?_;refine(af (aX (aB (S1:=S1) (ds:=[.list D]) rfl e2))).trans ?_;let δ2:DS:=[.val (.str t),.val (.list (pN Ls)),.val (.list D),.val (.ref S2.length),.no]
 refine(af (δ':=δ2) (S':=S3) (aQ (lX (S1:=S2) (ds:=[.list D]) rfl e3) rfl)).trans ?_;refine(af (δ':=[.val (.str t),.val (.list (pN Ls)),.val (.list D),.val (.ref S2.length),.own []]) (S':=S3) rfl).trans ?_;refine(af e4).trans ?_;let δ3:DS:=[.val (.str t),.val (.list (pN Ls)),.val (.list D),.val (.ref S2.length),.val P]
 refine(af (δ':=δ3) (S':=S5) ?_).trans rfl;exact aX (aB (S1:=S4) (ds:=[P]) rfl e5)
noncomputable def BS(a:Lf):Str:=if a.1=0 then Str.ofString "lane" else if a.1<20 then Str.ofString "num" else Str.ofString "name"
theorem xO(a:Lf):∃r,cG a=.tuple (.str (BS a)::r):=by
 unfold cG BS;split
 . exact⟨_,rfl⟩
 . split <;> exact⟨_,rfl⟩
theorem Au:∀a:Lf,decide (BS a=Str.ofString "box")=false/\decide (BS a=Str.ofString "name")=decide (20<=a.1)/\decide (BS a=Str.ofString "num")=decide (0<a.1/\a.1<20):=by decide +kernel
theorem Pf:∀a:Lf,i3 (.str (BS a)) (.tuple (List.map .str [Str.ofString "+", Str.ofString "-", Str.ofString "*", Str.ofString "div", Str.ofString "rem", Str.ofString "<", Str.ofString "="]))=some true:=by decide +kernel
theorem yp(a:Lf):eL 2 [cG a]=some (.list [cG a]):=by
 obtain⟨r,e⟩:=xO a;show cD 1 3 _ _=_;refine cw rfl (g9 (bq (b:=true) (dA (jU (x0 (by show some (cG a)=_;rw[e])) rfl ?_) (jU (x0 (by show some (cG a)=_;rw[e])) rfl (Pf a))) (bt (PX rfl))));show some (!decide (BS a=Str.ofString "box"))=_;rw[(Au a).1];rfl
noncomputable def iP(a:Lf):List Str:=if 20<=a.1 then [dR a] else []
theorem gn(a:Lf):(iP a).length<=1:=by unfold iP;split <;> simp
theorem JY(a:Lf):ba (ae 0) (aw bM 0[0]! !"name") 0[1]! [.no] [cG a]=some ((iP a).map .str):=by
 obtain⟨r,e⟩:=xO a;have c:aw bM 0[0]! (!"name") [.val (cG a)]=some (decide (20<=a.1)):=(tD (x0 (by show some (cG a)=_;rw[e]))).trans (by rw[(Au a).2.1]);have g:ae 0 (cG a) [.no]=some [.val (cG a)]:=rfl;simp only[ba,g,c,TZ];by_cases h:20<=a.1
 . have v:0[1]! [.val (cG a)]=some (.str (dR a)):=by
    have t:cG a=.tuple [.str "name", .str (dR a)]:=by
     unfold cG;rw[UE (by omega),UE (by omega)]
    exact x1 (f:=ao 0) (by show some (cG a)=_;rw[t])
   simp[h,v,iP]
 . simp[h,iP]
noncomputable def iI:Ln->List Lf
 | .call _ _ as=>as | .ret a=>[a] | .iff a=>[a] | .tell a=>[a] | _=>[]
noncomputable def TX:Ln->List Str
 | .call i _ _=>[oN i] | _=>[]
theorem Ki(a:Lf)(acc:List W)(s0 s2 s3 s4:Sl)(h:acc.length<9000):d5 [s0,.own acc,s2,s3,s4,.val (cG a)]=some (.nx [s0,.own (acc++(iP a).map .str),s2,s3,s4,.val (cG a)]):=by
 have z1:=sz 1 (by decide);have ze:acc.length+((iP a).map W.str).length<=sizeLine:=sz _ (by have:=gn a;simp;omega);have l:aI (bz (eL 2) #[ac 5]) [s0,.own acc,s2,s3,s4,.val (cG a)]=some [cG a]:=by
  have p:bz (eL 2) #[ac 5] [s0,.own acc,s2,s3,s4,.val (cG a)]=some (.list [cG a]):=yp a;simp only[aI,p];rfl
 have n:ba (ae 0) (aw bM 0[0]! !"name") 0[1]! (c9 [none] [s0,.own acc,s2,s3,s4,.val (cG a)]) [cG a]=_:=JY a;have o:gR 1 [s0,.own acc,s2,s3,s4,.val (cG a)]=some acc:=rfl;have z1':[cG a].length<=sizeLine:=z1;simp only[d5,kg,cf,o,l,n,TZ,Ul z1',Ul ze];rfl
theorem yX:∀(as:List Lf)(acc:List W)(s0 s2 s3 s4 s5:Sl),acc.length+as.length<9000->∃s5',bZ (ae 5) d5 (as.map cG) [s0,.own acc,s2,s3,s4,s5]=some (.nx [s0,.own (acc++(as.flatMap iP).map .str),s2,s3,s4,s5'])
 | [],acc,s0,s2,s3,s4,s5,_=>⟨s5,by simp[bZ]⟩
 | a::as,acc,s0,s2,s3,s4,s5,h=>by
  have:=gn a;simp only[Ud]at h;obtain⟨s5',e⟩:=yX as (acc++(iP a).map .str) s0 s2 s3 s4 (.val (cG a)) (by simp;omega);exact⟨s5',(jZ (δ2:=[s0,.own acc,s2,s3,s4,.val (cG a)]) rfl (Ki a acc s0 s2 s3 s4 (by omega)) e).trans (by simp)⟩
theorem Sm:∀l:Ln,iS (.str (cj l)) (.tuple [.str "tell", .str "if", .str "while", .str "return"])=some (match l with | .tell _=>true | .iff _=>true | .ret _=>true | _=>false)/\iS (.str (cj l)) (.tuple [.str "set", .str "call", .str "join"])=some (match l with | .call _ _ _=>true | _=>false):=by
 intro l;cases l <;> exact⟨by kernel_rfl,by kernel_rfl⟩
theorem TK{c:DS->Option Bool}{f g:DS->Option W}{δ:DS}{r:Option W}(h:c δ=some true)(h2:f δ=r):C6 c f g δ=r:=by simp only[C6,h,TZ,U5,h2]
theorem TQ{c:DS->Option Bool}{f g:DS->Option W}{δ:DS}{r:Option W}(h:c δ=some false)(h2:g δ=r):C6 c f g δ=r:=by simp only[C6,h,TZ,UR,V4,h2]
theorem mM{l:Ln}{n:Nat}{x:W}(hx:∃r,x=.tuple (.str (cj l)::.int n::r))(hg:∀i f as,l=.call i f as->∃r,x=.tuple (.str (cj l)::.int n::.str (oN i)::r)):gD [x]=some (match l with | .call i _ _=>.str (oN i) | _=>.none):=by
 obtain⟨r,rfl⟩:=hx;have z3:=sz 3 (by decide);let δ:DS:=[.val (.tuple (.str (cj l)::.int n::r))]
 have t:aw iS 0[0]! (bJ #[!"set",!"call",!"join"]) δ=some _:=jU (x0 rfl) (Nv rfl rfl rfl) (Sm l).2;refine cw rfl (bt ?_);cases l with
 | call i f as=>
  obtain⟨q,e⟩:=hg i f as rfl;refine TK (δ:=δ) t ?_;have v:ao 0 δ=some (.tuple (.str (cj (.call i f as))::.int n::.str (oN i)::q)):=by show some (W.tuple _)=_;rw[e]
  exact x2 v
 | _=>exact TQ (δ:=δ) t rfl
theorem mO{l:Ln}(n:Nat)(h:decide (cj l=Str.ofString "if")=false)(hf:l≠.fin)(hd:∀f,l≠.df f)(hl:(iI l).length<9000):bn [dg n l]=some (.list ((iI l).map cG)):=by
 have hin:aw iS (ao 1) (bJ #[!"tell",!"if",!"while",!"return"]) [.val (dg n l),.val (.str (cj l))]=some _:=jU rfl (Em rfl rfl rfl rfl) (Sm l).1;refine cw rfl (bb (δ1:=[.val (dg n l),.val (.str (cj l))]) (aR (x0 rfl) rfl) ?_);cases l with
 | tell a=>exact g9 (bq (b:=true) hin (bt (PX (x2 rfl))))
 | ret a=>exact g9 (bq (b:=true) hin (bt (PX (x2 rfl))))
 | call i f as=>
  have zl:(as.map cG).length<=sizeLine:=sz _ (by simp only[iI]at hl;simp;omega);refine bb (bq (b:=false) hin rfl) ?_;refine(iF rfl (by kernel_rfl)).trans ?_;refine(iF rfl (by kernel_rfl)).trans ?_;refine iT rfl (bt ?_);have v:0[4]! [.val (dg n (.call i f as)),.val (.str "call")]=some (.list (as.map cG)):=x4 rfl;have w:mT 0[4]! [.val (dg n (.call i f as)),.val (.str "call")]=some (as.map cG):=by
   simp only[mT,v];rfl
  exact Uh (Option.map W.list) w
 | iff a=>cases h
 | fin=>exact absurd rfl hf
 | df f=>exact absurd rfl (hd f)
theorem xf(n:Nat)(a:Lf)(b:Bd):bn [ny n a b]=some (.list [cG a]):=by
 have hin:aw iS (ao 1) (bJ #[!"tell",!"if",!"while",!"return"]) [.val (ny n a b),.val (.str "if")]=some true:=jU rfl (Em rfl rfl rfl rfl) (Sm (.iff a)).1;refine cw rfl (bb (δ1:=[.val (ny n a b),.val (.str "if")]) (aR (x0 rfl) rfl) ?_);exact g9 (bq (b:=true) hin (bt (PX (x2 rfl))))
noncomputable def iE:Bd->List Str
 | .nil=>[] | .tell a r=>iP a++iE r | .call i _ as r=>oN i::(as.flatMap iP++iE r) | .ret a r=>iP a++iE r
 | .iff a b r=>iP a++(iE b++iE r)
theorem yI:∀as:List Lf,(as.flatMap iP).length<=as.length
 | []=>by simp
 | a::as=>by have:=yI as;have:=gn a;simp[-List.length_flatMap];omega
noncomputable def qi:Bd->Nat
 | .nil=>0 | .tell _ r=>1+qi r | .call _ _ as r=>1+as.length+qi r | .ret _ r=>1+qi r | .iff _ b r=>1+qi b+qi r
theorem iY:∀b:Bd,(iE b).length<=qi b
 | .nil=>by simp[iE]
 | .tell a r=>by have:=iY r;have:=gn a;simp[iE,qi];omega
 | .ret a r=>by have:=iY r;have:=gn a;simp[iE,qi];omega
 | .call i f as r=>by have:=iY r;have:=yI as;simp[iE,qi, -List.length_flatMap];omega
 | .iff a b r=>by have:=iY b;have:=iY r;have:=gn a;simp[iE,qi];omega
section
variable{s0 s2 s3 s4 s5:Sl}{acc:List W}{ar:W}
theorem qg{x:W}{g:W}{gs:List Str}{as:List Lf}(h1:gD [x]=some g)(h2:(gs=[]/\g=.none)∨∃y,gs=[y]/\g=.str y)(h3:bn [x]=some (.list (as.map cG)))(hl:acc.length+1+as.length<9000):∃s5',dG [s0,.own acc,.val x,.val ar,s4,s5]=some (.nx [s0,.own (acc++(gs++as.flatMap iP).map .str),.val x,.val ar,.val g,s5']):=by
 have zl:acc.length<sizeLine:=Ui (show acc.length<9000 by omega) (sz 9000 (by decide));obtain⟨s5',e⟩:=yX as (acc++gs.map .str) s0 (.val x) (.val ar) (.val g) s5 (by rcases h2 with⟨rfl,_⟩ | ⟨y,rfl,_⟩ <;> simp <;> omega);have gr:bz gD #[ac 2] [s0,.own acc,.val x,.val ar,s4,s5]=some g:=h1;have gs1:cA (aw iQ (ao 4) (dC .none)) (cV 1 (ac 4)) ay [s0,.own acc,.val x,.val ar,.val g,s5]=some (.nx [s0,.own (acc++gs.map .str),.val x,.val ar,.val g,s5]):=by
  rcases h2 with⟨rfl,rfl⟩ | ⟨y,rfl,rfl⟩
  . first | rfl | simp![uD,UK,V6]
  . first | rfl | simp![uD,Ul zl,Uk,V6]
 have ex:aI (bz bn #[ac 2]) [s0,.own (acc++gs.map .str),.val x,.val ar,.val g,s5]=some (as.map cG):=by
  have p:bz bn #[ac 2] [s0,.own (acc++gs.map .str),.val x,.val ar,.val g,s5]=some (.list (as.map cG)):=h3;simp only[aI,p];rfl
 refine⟨s5',bb (δ1:=[s0,.own acc,.val x,.val ar,.val g,s5]) (aR gr rfl) (bb gs1 ((mz ex e).trans ?_))⟩;simp
end
theorem nL:∀(b:Bd)(ar:List W)(n:Nat)(s0:Sl)(acc:List W)(s2 s3 s4 s5:Sl),acc.length+qi b<8999->∃s2' s3' s4' s5',∀k,bZ (cW 2 (aD (ae 2) (aD (ae 3) db))) dG (nj ar n b++k) [s0,.own acc,s2,s3,s4,s5]=bZ (cW 2 (aD (ae 2) (aD (ae 3) db))) dG k [s0,.own (acc++(iE b).map .str),s2',s3',s4',s5']
 | .nil,ar,n,s0,acc,s2,s3,s4,s5,_=>⟨s2,s3,s4,s5,λk=>by simp[nj,iE]⟩
 | .tell a r,ar,n,s0,acc,s2,s3,s4,s5,h=>by
  simp only[qi]at h;have lm:=gn a;obtain⟨u5,e⟩:=qg (s0:=s0) (s4:=s4) (s5:=s5) (acc:=acc) (ar:=.tuple ar) (x:=dg n (.tell a)) (mM (l:=.tell a) ⟨_,rfl⟩ nofun) (.inl ⟨rfl,rfl⟩) (mO n rfl nofun nofun (by simp[iI])) (by simp[iI];omega);obtain⟨t2,t3,t4,t5,e2⟩:=nL r ar (n+1) s0 (acc++(iP a).map .str) (.val (dg n (.tell a))) (.val (.tuple ar)) (.val .none) u5 (by simp;omega);refine⟨t2,t3,t4,t5,λk=>(jZ (δ2:=[s0,.own acc,.val (dg n (.tell a)),.val (.tuple ar),s4,s5]) rfl e ?_)⟩;have:=e2 k;simpa[iE,iI] using this
 | .ret a r,ar,n,s0,acc,s2,s3,s4,s5,h=>by
  simp only[qi]at h;have lm:=gn a;obtain⟨u5,e⟩:=qg (s0:=s0) (s4:=s4) (s5:=s5) (acc:=acc) (ar:=.tuple ar) (x:=dg n (.ret a)) (mM (l:=.ret a) ⟨_,rfl⟩ nofun) (.inl ⟨rfl,rfl⟩) (mO n rfl nofun nofun (by simp[iI])) (by simp[iI];omega);obtain⟨t2,t3,t4,t5,e2⟩:=nL r ar (n+1) s0 (acc++(iP a).map .str) (.val (dg n (.ret a))) (.val (.tuple ar)) (.val .none) u5 (by simp;omega);refine⟨t2,t3,t4,t5,λk=>(jZ (δ2:=[s0,.own acc,.val (dg n (.ret a)),.val (.tuple ar),s4,s5]) rfl e ?_)⟩;have:=e2 k;simpa[iE,iI] using this
 | .call i f as r,ar,n,s0,acc,s2,s3,s4,s5,h=>by
  simp only[qi]at h;have lm:=yI as;obtain⟨u5,e⟩:=qg (s0:=s0) (s4:=s4) (s5:=s5) (acc:=acc) (ar:=.tuple ar) (x:=dg n (.call i f as)) (mM (l:=.call i f as) ⟨_,rfl⟩ (λ_ _ _ z=>by cases z;exact⟨_,rfl⟩)) (.inr ⟨oN i,rfl,rfl⟩) (mO n rfl nofun nofun (by simp[iI];omega)) (by simp[iI];omega);obtain⟨t2,t3,t4,t5,e2⟩:=nL r ar (n+1) s0 (acc++(oN i::as.flatMap iP).map .str) (.val (dg n (.call i f as))) (.val (.tuple ar)) (.val (.str (oN i))) u5 (by simp[-List.length_flatMap];omega);refine⟨t2,t3,t4,t5,λk=>(jZ (δ2:=[s0,.own acc,.val (dg n (.call i f as)),.val (.tuple ar),s4,s5]) rfl e ?_)⟩;have:=e2 k;simpa[iE,iI] using this
 | .iff a b r,ar,n,s0,acc,s2,s3,s4,s5,h=>by
  simp only[qi]at h;have lm:=gn a;have lb:=iY b;obtain⟨u5,e⟩:=qg (s0:=s0) (s4:=s4) (s5:=s5) (acc:=acc) (ar:=.tuple ar) (x:=ny n a b) (as:=[a]) (mM (l:=.iff a) ⟨_,rfl⟩ nofun) (.inl ⟨rfl,rfl⟩) (xf n a b) (by simp;omega);obtain⟨v2,v3,v4,v5,e1⟩:=nL b (ar++[ny n a b]) (n+1) s0 (acc++(iP a).map .str) (.val (ny n a b)) (.val (.tuple ar)) (.val .none) u5 (by simp;omega);obtain⟨t2,t3,t4,t5,e2⟩:=nL r ar (n+(av b).length+2) s0 (acc++(iP a).map .str++(iE b).map .str) v2 v3 v4 v5 (by simp;omega);refine⟨t2,t3,t4,t5,λk=>(jZ (δ2:=[s0,.own acc,.val (ny n a b),.val (.tuple ar),s4,s5]) rfl e ?_)⟩;have q1:=e1 (nj ar (n+(av b).length+2) r++k);have q2:=e2 k;rw[q2]at q1;simpa[iE,Va] using q1
theorem Kb(b:Bd)(n:Nat)(hm:i6 b<=7)(hl:(av b).length<9000)(hz:qi b<8000):eV [.list (cS n b)]=some (.list ((iE b).map .str)):=by
 obtain⟨t2,t3,t4,t5,e⟩:=nL b [] n (.val (.list (cS n b))) [] .no .no .no .no (by simp;omega);have e':=e [];rw[UK,UL]at e';have p:aI (nA (cr 8) #[ac 0]) [.val (.list (cS n b)),.own [],.no,.no,.no,.no]=some (nj [] n b):=by
  have p:nA (cr 8) #[ac 0] [.val (.list (cS n b)),.own [],.no,.no,.no,.no]=some (.list (nj [] n b)):=qD b n hm hl;simp only[aI,p];rfl
 refine cw rfl (bb (δ1:=[.val (.list (cS n b)),.own [],.no,.no,.no,.no]) rfl ?_);exact bb ((mz p e').trans rfl) rfl
noncomputable def dd:List Str->List Str->List Str
 | acc,[]=>acc
 | acc,x::r=>dd (if x∈acc then acc else acc++[x]) r
noncomputable def gf:Nat->List Str->List (bD×W)
 | _,[]=>[]
 | i,x::r=>(Sum.inr x,.int ((i+1:Nat):Int))::gf (i+1) r
theorem zP:∀(N:List Str)(i:Nat)(x:Str),gf i (N++[x])=gf i N++[(Sum.inr x,.int ((i+N.length+1:Nat):Int))]
 | [],i,x=>by simp[gf]
 | y::N,i,x=>by
  first | rfl | simp only[U7,gf,zP N (i+1) x,Ud]
  rw[show i+1+N.length+1=i+(N.length+1)+1 by omega]
theorem v9:∀(N:List Str)(i:Nat),(gf i N).length=N.length
 | [],_=>rfl
 | y::N,i=>by simp[gf,v9 N]
theorem yZ:∀(N:List Str)(i:Nat)(x:Str),x∉N->aU (gf i N) (Sum.inr x)=none
 | [],i,x,_=>rfl
 | y::N,i,x,h=>by
  have h':¬ y=x/\x∉N:=⟨λe=>h (by simp[e]),λe=>h (by simp[e])⟩
  have ih:=yZ N (i+1) x h'.2;simp only[aU,gf,UD,VP,h'.1,V5]at ih ⊢;exact ih
theorem zh:∀(N:List Str)(i:Nat)(x:Str),x∈N->∃j,N[j]?=some x/\aU (gf i N) (Sum.inr x)=some (.int ((i+j+1:Nat):Int))
 | y::N,i,x,h=>by
  by_cases e:y=x
  . subst e;exact⟨0,rfl,by simp[aU,gf,UD]⟩
  . obtain⟨j,h1,h2⟩:=zh N (i+1) x ((Ub.mp h).resolve_left λz=>e z.symm);refine⟨j+1,by simpa using h1,?_⟩;have h3:aU (gf i (y::N)) (Sum.inr x)=aU (gf (i+1) N) (Sum.inr x):=by simp[aU,gf,UD,e]
    rw[h3,h2,show i+1+j+1=i+(j+1)+1 by omega]
theorem vA:∀(l acc:List Str),(dd acc l).length<=acc.length+l.length
 | [],acc=>by simp[dd]
 | x::l,acc=>by
  unfold dd;have:=vA l (if x∈acc then acc else acc++[x]);split at this <;> split <;> simp_all <;> omega
theorem lG:∀(l acc:List Str)(S:ai)(d:Nat)(s0 s1 s3:Sl),S[d]?=some (.dK (gf 0 acc))->acc.length+l.length<=8000->∃S' s3',bc (ae 3) dL (l.map .str) [s0,s1,.val (.ref d),s3] S=some (.nx [s0,s1,.val (.ref d),s3'],S')/\S'[d]?=some (.dK (gf 0 (dd acc l)))/\∀m,m≠d->S'[m]?=S[m]?
 | [],acc,S,d,s0,s1,s3,hd,_=>⟨S,s3,rfl,hd,λ_ _=>rfl⟩
 | x::l,acc,S,d,s0,s1,s3,hd,hl=>by
  simp only[Ud]at hl;have kl:=v9 acc 0;by_cases hx:x∈acc
  . obtain⟨j,j1,j2⟩:=zh acc 0 x hx;obtain⟨S',s3',e1,e2,e3⟩:=lG l acc S d s0 s1 (.val (.str x)) hd (by omega);refine⟨S',s3',?_,by simpa[dd,hx] using e2,e3⟩;have st:dL [s0,s1,.val (.ref d),.val (.str x)] S=some (.nx [s0,s1,.val (.ref d),.val (.str x)],S):=by
     first | rfl | simp![dL,wy,uS,uD,uZ hd,j2,Vj]
    exact(aL rfl st).trans e1
  . have n0:=yZ acc 0 x hx;have h1:(S.set d (.dK (gf 0 (acc++[x]))))[d]?=some (.dK (gf 0 (acc++[x]))):=set_eq' hd;obtain⟨S',s3',e1,e2,e3⟩:=lG l (acc++[x]) _ d s0 s1 (.val (.str x)) h1 (by simp;omega);refine⟨S',s3',?_,by simpa[dd,hx] using e2,λm hm=>(e3 m hm).trans (Ux (λz=>hm z.symm))⟩;have st:dL [s0,s1,.val (.ref d),.val (.str x)] S=some (.nx [s0,s1,.val (.ref d),.val (.str x)],S.set d (.dK (gf 0 (acc++[x])))):=by
     have pa:=JV (x:=x) (v:=.int ((gf 0 acc).length+1)) hd (by omega);rw[nK _ n0]at pa;have ev:gf 0 acc++[(Sum.inr x,W.int ((gf 0 acc).length+1))]=gf 0 (acc++[x]):=by
      rw[zP,kl];simp
     rw[ev]at pa;first | rfl | simp![dL,wy,iU,wK,sZ,uS,uD,uZ hd,n0,Option.isSome_none,F5 hd,pa]
    exact(aL rfl st).trans e1
theorem BE(ps N:List Str)(b:W)(S:ai)(hn:eV [b]=some (.list (N.map .str)))(h:N.length<=7900)(hp:ps.length<=10):∃S',lv [.list (ps.map .str),b] S=some (.ok (.ref S.length),S')/\S'[S.length]?=some (.dK (gf 0 (dd [] (ps++N))))/\∀m,m≠S.length->S'[m]?=(S++[.dK []])[m]?:=by
 obtain⟨S',s3',e1,e2,e3⟩:=lG (ps++N) [] (S++[.dK []]) S.length (.val (.list (ps.map .str))) (.val b) .no (by simp[gf]) (by simp;omega);refine⟨S',?_,e2,e3⟩;have za:(ps.map W.str).length+(N.map W.str).length<=sizeLine:=sz _ (by simp;omega);have ga:bp (.list (ps.map W.str)) (.list (N.map W.str))=some (.list ((ps++N).map W.str)):=by rw[iw za,UX]
 refine(au rfl).trans ?_;refine(Uh bC (?_:_=some (.rt (.ref S.length),S'))).trans rfl;refine(af (aQ (d:=.ref S.length) (S1:=S++[.dK []]) rfl rfl)).trans ?_;refine(af ((cc (S1:=S++[.dK []]) (ds:=(ps++N).map W.str) ?_).trans e1)).trans ?_
 . first | rfl | simp![uS,uD,f6,hn,ga]
 . first | rfl | simp![uS,uD]
noncomputable def lU(r p d:Nat)(nm:W):List (Str×W):=[(Str.ofString "rows", .ref r),(Str.ofString "spots", .ref p),(Str.ofString "name", nm),(Str.ofString "slots", .ref d)]
theorem Nq:(Str.ofString "spots" == Str.ofString "rows")=false/\(Str.ofString "name" == Str.ofString "rows")=false/\(Str.ofString "name" == Str.ofString "spots")=false/\(Str.ofString "slots" == Str.ofString "rows")=false/\(Str.ofString "slots" == Str.ofString "spots")=false/\(Str.ofString "slots" == Str.ofString "name")=false:=by decide +kernel
theorem M7(r p d:Nat)(nm:W):(lU r p d nm).lookup (Str.ofString "rows")=some (.ref r):=by simp[lU,List.lookup]
theorem PR(r p d:Nat)(nm:W):(lU r p d nm).lookup (Str.ofString "spots")=some (.ref p):=by simp[lU,List.lookup,Nq.1]
theorem SB(r p d:Nat)(nm:W):(lU r p d nm).lookup (Str.ofString "name")=some nm:=by simp[lU,List.lookup,Nq.2.1,Nq.2.2.1]
theorem NR(r p d:Nat)(nm:W):(lU r p d nm).lookup (Str.ofString "slots")=some (.ref d):=by simp[lU,List.lookup,Nq.2.2.2.1,Nq.2.2.2.2.1,Nq.2.2.2.2.2]
theorem G9(m:Str)(h:(m==Str.ofString "rows")=false/\(m==Str.ofString "spots")=false/\(m==Str.ofString "name")=false/\(m==Str.ofString "slots")=false)(r p d:Nat)(nm:W):(lU r p d nm).lookup m=none:=by simp[lU,List.lookup,h.1,h.2.1,h.2.2.1,h.2.2.2]
theorem Oc:(Str.ofString "add" == Str.ofString "rows")=false/\(Str.ofString "add" == Str.ofString "spots")=false/\(Str.ofString "add" == Str.ofString "name")=false/\(Str.ofString "add" == Str.ofString "slots")=false:=by decide +kernel
theorem NE:(Str.ofString "lay" == Str.ofString "rows")=false/\(Str.ofString "lay" == Str.ofString "spots")=false/\(Str.ofString "lay" == Str.ofString "name")=false/\(Str.ofString "lay" == Str.ofString "slots")=false:=by decide +kernel
theorem KG:(Str.ofString "free" == Str.ofString "rows")=false/\(Str.ofString "free" == Str.ofString "spots")=false/\(Str.ofString "free" == Str.ofString "name")=false/\(Str.ofString "free" == Str.ofString "slots")=false:=by decide +kernel
theorem Hv:(Str.ofString "begin" == Str.ofString "rows")=false/\(Str.ofString "begin" == Str.ofString "spots")=false/\(Str.ofString "begin" == Str.ofString "name")=false/\(Str.ofString "begin" == Str.ofString "slots")=false:=by decide +kernel
structure SH(F:Nat->Option Ob)(S:ai)(I r p d:Nat)(nm:W)(rows:List W)(kv:List (List bD×W))(sl:List (bD×W)):Prop where
 hI:S[I]?=some (.ins (Str.ofString "Sheet") (lU r p d nm))
 hr:S[r]?=some (.lst rows)
 hp:S[p]?=some (.dT kv)
 hd:S[d]?=some (.dK sl)
 f:∀i o,F i=some o->S[i]?=some o
 fI:F I=none
 fr:F r=none
 fp:F p=none
theorem HQ{F:Nat->Option Ob}{S:ai}{r:Nat}(h:∀i o,F i=some o->S[i]?=some o)(n:F r=none)(x:Ob):∀i o,F i=some o->(S.set r x)[i]?=some o:=λi o e=>set_ne' (h i o e) λz=>by subst z;rw[n]at e;cases e
theorem vc{S:ai}{I:Nat}{fs:List (Str×W)}(h:S[I]?=some (.ins (Str.ofString "Sheet") fs)):ge (Str.ofString "Sheet") (.ref I) S=some (I,fs):=by simp[ge,iy,h]
section
variable{F:Nat->Option Ob}{S:ai}{I r p d:Nat}{nm:W}{rows:List W}{kv:List (List bD×W)}{sl:List (bD×W)}{N:List Str}
theorem SH.row(h:SH F S I r p d nm rows kv sl)(x:List W):SH F (S.set r (.lst x)) I r p d nm x kv sl:=
 ⟨set_ne' h.hI (cU h.hr h.hI (by simp)),set_eq' h.hr,set_ne' h.hp (cU h.hr h.hp (by simp)),set_ne' h.hd (cU h.hr h.hd (by simp)),HQ h.f h.fr _,h.fI,h.fr,h.fp⟩
theorem SH.spot(h:SH F S I r p d nm rows kv sl)(x:List (List bD×W)):SH F (S.set p (.dT x)) I r p d nm rows x sl:=
 ⟨set_ne' h.hI (cU h.hp h.hI (by simp)),set_ne' h.hr (cU h.hp h.hr (by simp)),set_eq' h.hp,set_ne' h.hd (cU h.hp h.hd (by simp)),HQ h.f h.fp _,h.fI,h.fr,h.fp⟩
theorem GT(h:SH F S I r p d nm rows kv sl)(row:W)(hl:rows.length<9000):bu [.ref I,row] S=some (.ok .none,S.set r (.lst (rows++[row]))):=by
 have hl':rows.length<sizeLine:=Ui hl (sz 9000 (by decide));first | rfl | simp![bu,eO,uS,uD,vc h.hI,M7,iq h.hr,Vj,Ul hl']
theorem LG{x:List W}{ks:List bD}{v:W}(hk:pd x=some ks)(h:S[p]?=some (.dT kv))(hl:kv.length<9000):uN (.ref p) (.tuple x) v S=some (S.set p (.dT (bL kv ks v))):=by
 have hl':kv.length<sizeLine:=Ui hl (sz 9000 (by decide));simp[uN,iy,h,rf,hk,hl']
theorem G8(h:SH F S I r p d nm rows kv sl){x:List W}{ks:List bD}(hk:pd x=some ks)(hl:kv.length<9000):cu [.ref I,.tuple x] S=some (.ok .none,S.set p (.dT (bL kv ks (.int rows.length)))):=by
 first | rfl | simp![cu,iU,uS,uD,vc h.hI,M7,PR,iq h.hr,LG hk h.hp hl]
theorem BX(h:SH F S I r p d nm rows kv sl):cK [.ref I] S=some (.ok (.int (sl.length+1)),S):=by
 first | rfl | simp![cK,sZ,wK,uS,uD,vc h.hI,NR,F5 h.hd]
theorem sI(h:SH F S I r p d nm rows kv sl)(row:W)(hl:rows.length<9000){fo:DS->Option W}{fa:DS->ai->SM (List W)}{δ:DS}(h1:fo δ=some (.ref I))(h2:fa δ S=some (.ok [row],S)):aT (aZ "Sheet" "add" bu (aa fo) fa) δ S=some (.nx δ,S.set r (.lst (rows++[row]))):=
 aX (gG h1 h.hI (G9 _ Oc _ _ _ _) h2 (GT h row hl))
theorem EH(h:SH F S I r p d nm rows kv sl){x:List W}{ks:List bD}(hk:pd x=some ks)(hl:kv.length<9000){fo:DS->Option W}{fa:DS->ai->SM (List W)}{δ:DS}(h1:fo δ=some (.ref I))(h2:fa δ S=some (.ok [.tuple x],S)):aT (aZ "Sheet" "lay" cu (aa fo) fa) δ S=some (.nx δ,S.set p (.dT (bL kv ks (.int rows.length)))):=
 aX (gG h1 h.hI (G9 _ NE _ _ _ _) h2 (G8 h hk hl))
theorem Dv(h:SH F S I r p d nm rows kv (gf 0 N)){fo:DS->Option W}{δ:DS}(h1:fo δ=some (.ref I)):aZ "Sheet" "free" cK (aa fo) (aa ah) δ S=some (.ok (.int ((N.length:Int)+1)),S):=by
 have fr:=BX h;rw[v9]at fr;exact gG (ds:=[]) (S1:=S) h1 h.hI (G9 _ KG _ _ _ _) rfl fr
end
theorem SH.cast{F0:Nat->Option Ob}{S:ai}{I r p d:Nat}{nm:W}{rows rows':List W}{kv:List (List bD×W)}{sl:List (bD×W)}(h:SH F0 S I r p d nm rows kv sl)(e:rows=rows'):SH F0 S I r p d nm rows' kv sl:=e▸h
theorem EJ:∀(N:List Str)(i:Nat)(x:Str),x∈N->aU (gf i N) (Sum.inr x)=some (.int ((i+N.idxOf x+1:Nat):Int))
 | y::N,i,x,h=>by
  by_cases e:y=x
  . subst e;simp[aU,gf,UD,List.idxOf_cons]
  . have ih:=EJ N (i+1) x ((Ub.mp h).resolve_left λz=>e z.symm);have h3:aU (gf i (y::N)) (Sum.inr x)=aU (gf (i+1) N) (Sum.inr x):=by simp[aU,gf,UD,e]
    have b:(y==x)=false:=by simpa using e
    rw[h3,ih,List.idxOf_cons,b,show i+1+N.idxOf x+1=i+(N.idxOf x+1)+1 by omega];rfl
noncomputable def Jj(N:List Str)(x:Str):W:=.int ((N.idxOf x+1:Nat):Int)
noncomputable def vh(N:List Str):W:=.int ((N.length:Int)+1)
noncomputable def vp(n:Nat):W:=.tuple [.str "tick", .int n]
noncomputable def lO(N:List Str)(n k:Nat)(a:Lf):W:=if a.1=0 then .tuple [.str "sign", .int n,.int k,.str "lane"] else if a.1<20 then .tuple [.str "num", .int n,.int k,.int (JR a)] else .tuple [.str "copy", .int n,.int k,Jj N (dR a)]
noncomputable def oA(N:List Str)(n:Nat):Nat->List Lf->List W
 | _,[]=>[]
 | k,a::as=>lO N n k a::oA N n (k+1) as
theorem gY(N:List Str)(n:Nat):∀(as:List Lf)(k:Nat),(oA N n k as).length=as.length
 | [],_=>rfl
 | a::as,k=>by simp[oA,gY N n as]
section
variable{F:Nat->Option Ob}{S:ai}{I r p d:Nat}{nm:W}{rows:List W}{kv:List (List bD×W)}{N:List Str}
theorem IW(h:SH F S I r p d nm rows kv (gf 0 N)){x:Str}(hx:x∈N){fo fk:DS->Option W}{δ:DS}(h1:fo δ=some (.ref I))(h2:fk δ=some (.str x)):gB (bB "Sheet" "slots" (aa fo)) (aa fk) δ S=some (.ok (Jj N x),S):=by
 have v:=EJ N 0 x hx;rw[Nat.zero_add]at v;exact zf (S1:=S) (S2:=S) (pO (S1:=S) (aj h1) h.hI (NR ..)) (aj h2) h.hd v
theorem Bw(h:SH F S I r p d nm rows kv (gf 0 N))(n k:Nat)(a:Lf)(hi:∀x∈iP a,x∈N)(hl:rows.length<9000):cZ 2 [.ref I,.int n,cG a,.int k] S=some (.ok .none,S.set r (.lst (rows++[lO N n k a]))):=by
 have z4:=sz 4 (by decide);show aN 4 5 _ _ _=_;obtain⟨q,e⟩:=xO a;let δ:DS:=[.val (.ref I),.val (.int n),.val (cG a),.val (.int k),.val (.str (BS a))]
 refine(au rfl).trans ((Uh bC (?_:_=some (.nx δ,_))).trans rfl);refine(af (δ':=δ) (S':=S) (aA (aR (x0 (by show some (cG a)=_;rw[e])) rfl))).trans ?_;have tn:aa (aw bM (ao 4) !"num") δ S=some (.ok _,S):=aj (tD (a:=BS a) rfl);rw[(Au a).2.2]at tn;have tm:aa (aw bM (ao 4) !"name") δ S=some (.ok _,S):=aj (tD (a:=BS a) rfl);rw[(Au a).2.1]at tm;by_cases h0:a.1=0
 . have ek:BS a=Str.ofString "lane" := Ul h0;rw[Up (by omega)]at tn tm;refine(aY tn).trans ((aY tm).trans ?_);have ts:aa (aw iS (ao 4) (dC (.tuple (List.map .str [(Str.ofString "lane"),(Str.ofString "lanes"),(Str.ofString "mine")])))) δ S=some (.ok true,S):=aj (jU (a:=.str (BS a)) rfl rfl (by rw[ek];kernel_rfl));refine(eZ ts).trans (sI h (lO N n k a) hl rfl (aj (gT (Em rfl rfl rfl rfl) rfl) |>.trans ?_));have:lO N n k a=.tuple [.str "sign", .int n,.int k,.str "lane"]:=Ul h0;rw[this,ek]
 by_cases h1:a.1<20
 . rw[Uq ⟨by omega,h1⟩]at tn;have et:cG a=.tuple [.str "num", .int (JR a)]:=by unfold cG;rw[UE h0,Ul h1]
   refine(eZ tn).trans (sI h (lO N n k a) hl rfl (aj (gT (Em rfl rfl rfl (x1 (f:=ao 2) (by show some (cG a)=_;rw[et]))) rfl) |>.trans ?_));have:lO N n k a=.tuple [.str "num", .int n,.int k,.int (JR a)]:=by unfold lO;rw[UE h0,Ul h1]
   rw[this]
 . rw[Up (by omega)]at tn;rw[Uq (by omega)]at tm;have et:cG a=.tuple [.str "name", .str (dR a)]:=by unfold cG;rw[UE h0,UE h1]
   have mx:dR a∈N:=hi _ (by unfold iP;rw[Ul (by omega)];exact Ua);have er:lO N n k a=.tuple [.str "copy", .int n,.int k,Jj N (dR a)]:=by unfold lO;rw[UE h0,UE h1]
   refine(aY tn).trans ((eZ tm).trans (sI h (lO N n k a) hl rfl ?_));rw[er];exact ax (pI (ax rfl (ax rfl (ax rfl (ax (IW h mx rfl (x1 (f:=ao 2) (by show some (cG a)=_;rw[et]))) rfl)))) (by simp)) rfl
theorem zg{pf:List W->ai->SM W}{n:Nat}{s1 s2 s3:Sl}:∀(as:List Lf)(k:Nat)(S:ai)(rows:List W)(s5 s6:Sl),(∀a∈as,∀x∈iP a,x∈N)->rows.length+as.length<9000->SH F S I r p d nm rows kv (gf 0 N)->
 ∃S' s5' s6',bc (cW 2 (aD (ae 5) (aD (ae 6) db))) (gP pf) (nz k (as.map cG)) [.val (.ref I),s1,s2,s3,.val (.int n),s5,s6] S=some (.nx [.val (.ref I),s1,s2,s3,.val (.int n),s5',s6'],S')/\SH F S' I r p d nm (rows++oA N n k as) kv (gf 0 N)
 | [],k,S,rows,s5,s6,_,_,h=>⟨S,s5,s6,rfl,by simpa[oA] using h⟩
 | a::as,k,S,rows,s5,s6,ht,hl,h=>by
  simp only[Ud]at hl;have e1:=Bw h n k a (ht a Ua) (by omega);obtain⟨S',s5',s6',e2,g⟩:=zg (pf:=pf) (s1:=s1) (s2:=s2) (s3:=s3) (n:=n) as (k+1) _ _ (.val (.int k)) (.val (cG a)) (λu hu=>ht u (TY _ hu)) (by simp;omega) (h.row (rows++[lO N n k a]));refine⟨S',s5',s6',?_,by simpa[oA] using g⟩;exact(aL (δ2:=[.val (.ref I),s1,s2,s3,.val (.int n),.val (.int k),.val (cG a)]) rfl (aX (aB (S1:=S) (ds:=[.ref I,.int n,cG a,.int k]) rfl e1))).trans e2
end
theorem kz:∀l:Ln,decide (cj l=Str.ofString "set")=false/\decide (cj l=Str.ofString "put")=false/\decide (cj l=Str.ofString "break")=false/\decide (cj l=Str.ofString "again")=false/\decide (cj l=Str.ofString "while")=false:=by
 intro l;cases l <;> exact⟨by kernel_rfl,by kernel_rfl,by kernel_rfl,by kernel_rfl,by kernel_rfl⟩
noncomputable def zj(n:Nat):List bD:=[Sum.inr (Str.ofString "tick"),Sum.inl (n:Int)]
noncomputable def oW(n:Nat):List bD:=[Sum.inr (Str.ofString "else"),Sum.inl (n:Int)]
noncomputable def GU(n:Nat):List bD:=[Sum.inr (Str.ofString "behind"),Sum.inl (n:Int)]
noncomputable def MG(n:Nat):W:=.tuple [.str "else", .int n]
noncomputable def xm(f:Fin 5):W:=.tuple [.str "def", .str (bP (f5 f))]
noncomputable def wj(xn:Str):W:=.tuple [.str "last", .str xn]
noncomputable def wu(N:List Str)(dq:Fin 5->W)(lq:W)(n:Nat):Ln->List W
 | .tell _=>[.tuple [.str "tell", .int n,vh N]]
 | .call i f as=>[.tuple [.str "call", .int n,Jj N (oN i),vh N,.int as.length,dq f]]
 | .ret _=>[.tuple [.str "copy", .int n,.int 0,vh N],.tuple [.str "jump", .int n,lq]]
 | _=>[]
noncomputable def kD(N:List Str)(dq:Fin 5->W)(lq:W)(n:Nat)(l:Ln):List W:=vp n::(oA N n (N.length+1) (iI l)++wu N dq lq n l)
noncomputable def BK(N:List Str)(n:Nat)(x:W):W:=.tuple [.str "split", .int n,vh N,x]
noncomputable def eG:Bd->Nat
 | .nil=>0 | .tell _ r=>3+eG r | .call _ _ as r=>(2+as.length)+eG r | .ret _ r=>4+eG r | .iff _ b r=>3+eG b+eG r
noncomputable def d8(N:List Str)(e:Nat->Nat->W)(dq:Fin 5->W)(lq:W):Nat->Nat->Bd->List W
 | _,_,.nil=>[]
 | j,n,.tell a r=>kD N dq lq n (.tell a)++d8 N e dq lq (j+3) (n+1) r
 | j,n,.call i f as r=>kD N dq lq n (.call i f as)++d8 N e dq lq (j+(2+as.length)) (n+1) r
 | j,n,.ret a r=>kD N dq lq n (.ret a)++d8 N e dq lq (j+4) (n+1) r
 | j,n,.iff a b r=>vp n::lO N n (N.length+1) a::BK N n (e n (j+3+eG b))::(d8 N e dq lq (j+3) (n+1) b++d8 N e dq lq (j+3+eG b) (n+(av b).length+2) r)
theorem eA(N:List Str)(e:Nat->Nat->W)(dq:Fin 5->W)(lq:W):∀(b:Bd)(j n:Nat),(d8 N e dq lq j n b).length=eG b
 | .nil,_,_=>rfl
 | .tell a r,j,n=>by simp[d8,kD,wu,iI,eG,gY,eA N e dq lq r];omega
 | .call i f as r,j,n=>by simp[d8,kD,wu,iI,eG,gY,eA N e dq lq r];omega
 | .ret a r,j,n=>by simp[d8,kD,wu,iI,eG,gY,eA N e dq lq r];omega
 | .iff a b r,j,n=>by simp[d8,eG,eA N e dq lq b,eA N e dq lq r];omega
section
variable{F:Nat->Option Ob}{S:ai}{I r p d:Nat}{rows:List W}{kv:List (List bD×W)}{N:List Str}{nm:W}{xn:Str}{pf:List W->ai->SM W}
theorem Ay(h:SH F S I r p d nm rows kv (gf 0 N)){l:Ln}{n:Nat}{x lp:W}{as:List Lf}(hx:∃q,x=.tuple (.str (cj l)::.int n::q))(he:bn [x]=some (.list (as.map cG)))(hi:∀a∈as,∀y∈iP a,y∈N)(hl:rows.length+as.length<8990)(hk:kv.length<9000)(hN:N.length<=8000):
 ∃S3 s5 s6,SH F S3 I r p d nm (rows++vp n::oA N n (N.length+1) as) (bL kv (zj n) (.int rows.length)) (gf 0 N)/\
  ∀S4,bh (aa (aw bM (ao 3) !"if"))
  (aT (aM (ki pf) (aa #[ac 0,ac 1,ac 2])))
  (bh (aa (aw bM (ao 3) !"while"))
  (ag aH)
  (bh (aa (aw bM (ao 3) !"break"))
  (ag aH)
  (bh (aa (aw bM (ao 3) !"again"))
  (ag aH)
  (aT (aM fM (aa #[ac 0,ac 1])))))) [.val (.ref I),.val x,.val lp,.val (.str (cj l)),.val (.int n),s5,s6] S3=some (.nx [.val (.ref I),.val x,.val lp,.val (.str (cj l)),.val (.int n),s5,s6],S4)->
  dJ pf [.ref I,x,lp] S=some (.ok .none,S4):=by
 obtain⟨q,rfl⟩:=hx;let x:W:=.tuple (.str (cj l)::.int n::q);let δ:DS:=[.val (.ref I),.val x,.val lp,.val (.str (cj l)),.val (.int n),.no,.no]
 have g1:=h.spot (bL kv (zj n) (.int rows.length));have g2:=g1.row (rows++[vp n]);obtain⟨S3,s5,s6,e3,g3⟩:=zg (pf:=pf) (n:=n) (s1:=.val x) (s2:=.val lp) (s3:=.val (.str (cj l))) as (N.length+1) _ _ .no .no hi (by simp;omega) g2;rw[Va]at g3;refine⟨S3,s5,s6,g3,λS4 e4=>?_⟩;refine(au rfl).trans ((Uh bC (?_:_=some (.nx [.val (.ref I),.val x,.val lp,.val (.str (cj l)),.val (.int n),s5,s6],S4))).trans rfl);refine(af (δ':=[.val (.ref I),.val x,.val lp,.val (.str (cj l)),.no,.no,.no]) (S':=S) (aA (aR (x0 rfl) rfl))).trans ?_;refine(af (δ':=δ) (S':=S) (aA (aR (x1 rfl) rfl))).trans ?_;refine(af (EH h (x:=[.str "tick", .int n]) (ks:=zj n) rfl hk rfl (aj (gT (xB rfl rfl) rfl)))).trans ?_;refine(af (sI g1 (vp n) (by omega) rfl (aj (gT (xB rfl rfl) rfl)))).trans ?_;refine(af ((cc (ds:=nz (N.length+1) (as.map cG)) (xL (aj (gT (De (ds:=[x]) rfl he) rfl)) (Dv g2 rfl) (Rj _ _ (by omega)))).trans e3)).trans ?_;exact e4
theorem FO(h:SH F S I r p d (.str xn) rows kv (gf 0 N)){l:Ln}(n:Nat)(hc:(∃a,l=.tell a)∨(∃a,l=.ret a)∨∃i f as,l=.call i f as/\oN i∈N/\as.length<9000)(hl:rows.length<8990):∃S',fM [.ref I,dg n l] S=some (.ok .none,S')/\SH F S' I r p d (.str xn) (rows++wu N xm (wj xn) n l) kv (gf 0 N):=by
 let δ:DS:=[.val (.ref I),.val (dg n l),.val (.str (cj l)),.val (.int n),.val (vh N)]
 have go:∀{S':ai},bh (aa (aw bM (ao 2) !"set")) _ _ δ S=some (.nx δ,S')->fM [.ref I,dg n l] S=some (.ok .none,S'):=λ{S'} q=>by
  refine(au rfl).trans ((Uh bC (?_:_=some (.nx δ,S'))).trans rfl);refine(af (δ':=[.val (.ref I),.val (dg n l),.val (.str (cj l)),.no,.no]) (S':=S) (aA (aR (x0 rfl) rfl))).trans ?_;refine(af (δ':=[.val (.ref I),.val (dg n l),.val (.str (cj l)),.val (.int n),.no]) (S':=S) (aA (aR (x1 rfl) rfl))).trans ?_;exact(af (δ':=δ) (S':=S) (aQ (Dv h rfl) rfl)).trans q
 have fst:=λ{g k:DS->ai->SO}=>fF (f:=ao 2) (δ:=δ) (a:=cj l) (S:=S) (g:=g) (k:=k) rfl (kz l).1;have snd:=λ{g k:DS->ai->SO}=>fF (f:=ao 2) (δ:=δ) (a:=cj l) (S:=S) (g:=g) (k:=k) rfl (kz l).2.1;rcases hc with⟨a,rfl⟩ | ⟨a,rfl⟩ | ⟨i,f,as,rfl,hi,ha⟩
 . exact⟨_,go (fst.trans (snd.trans ((fT rfl).trans (sI h (.tuple [.str "tell", .int n,vh N]) (by omega) rfl (aj (gT (Nv rfl rfl rfl) rfl)))))),h.row _⟩
 . have h2:=h.row (rows++[.tuple [.str "copy", .int n,.int 0,vh N]]);refine⟨_,go (fst.trans (snd.trans ((fF rfl (by kernel_rfl)).trans ((fF rfl (by kernel_rfl)).trans ((fT rfl).trans ((af (sI h (.tuple [.str "copy", .int n,.int 0,vh N]) (by omega) rfl (aj (gT (Em rfl rfl rfl rfl) rfl)))).trans (sI h2 (.tuple [.str "jump", .int n,wj xn]) (by simp;omega) rfl ?_))))))),?_⟩
   . exact ax (pI (ax rfl (ax rfl (ax (pI (ax rfl (ax (pO (aj rfl) h2.hI (SB ..)) rfl)) (by simp)) rfl))) (by simp)) rfl
   . have:=h2.row (rows++[.tuple [.str "copy", .int n,.int 0,vh N]]++[.tuple [.str "jump", .int n,wj xn]]);simpa[wu] using this
 . refine⟨_,go (fst.trans (snd.trans ((fF rfl (by kernel_rfl)).trans ((fT rfl).trans (sI h (.tuple [.str "call", .int n,Jj N (oN i),vh N,.int as.length,xm f]) (by omega) rfl ?_))))),h.row _⟩;have ln:cp bw 1[4]! δ=some (.int as.length):=bX (a:=.list (as.map cG)) (x4 rfl) (by show some (W.int ((as.map cG).length:Int))=_;rw[Uj]);exact ax (pI (ax rfl (ax rfl (ax (IW h hi rfl (x2 rfl)) (ax rfl (ax (aj ln) (ax (aj (xB rfl (x3 rfl))) rfl)))))) (by simp)) rfl
end
noncomputable def Fs:Nat->Nat->Bd->List (Nat×Nat)
 | _,_,.nil=>[]
 | j,n,.tell _ r=>Fs (j+3) (n+1) r
 | j,n,.call _ _ as r=>Fs (j+(2+as.length)) (n+1) r
 | j,n,.ret _ r=>Fs (j+4) (n+1) r
 | j,n,.iff _ b r=>(n,j+3+eG b)::(Fs (j+3) (n+1) b++Fs (j+3+eG b) (n+(av b).length+2) r)
theorem jb:∀(b:Bd)(j n:Nat),∀q∈Fs j n b,n<=q.1/\q.1<n+(av b).length
 | .nil,_,_,q,h=>nomatch h
 | .tell _ r,j,n,q,h=>by have:=jb r _ _ q h;simp only[av,Ud];omega
 | .call _ _ as r,j,n,q,h=>by have:=jb r _ _ q h;simp only[av,Ud];omega
 | .ret _ r,j,n,q,h=>by have:=jb r _ _ q h;simp only[av,Ud];omega
 | .iff _ b r,j,n,q,h=>by
  simp only[av,Ud,Ur];rcases Ub.mp h with rfl | h
  . dsimp only;omega
  rcases Us.mp h with h | h
  . have:=jb b _ _ q h;omega
  . have:=jb r _ _ q h;omega
noncomputable def Ey(n k:Nat)(ks:List bD):Prop:=∀(w:Str)(m:Nat),n<=m->m<n+k->ks≠[Sum.inr w,Sum.inl (m:Int)]
structure KO(j n:Nat)(b:Bd)(kv kv':List (List bD×W)):Prop where
 len:kv'.length<=kv.length+3*(av b).length
 out:∀ks,Ey n (av b).length ks->aU kv' ks=aU kv ks
 els:∀q∈Fs j n b,aU kv' (oW q.1)=some (.int (q.2:Nat))
theorem KO.plain{j j' n:Nat}{b c:Bd}{kv kv':List (List bD×W)}{v:W}(h:KO j' (n+1) b (bL kv (zj n) v) kv')(e1:(av c).length=(av b).length+1)(e2:Fs j n c=Fs j' (n+1) b):KO j n c kv kv':=by
 have pl:=bS kv (zj n) v;refine⟨by have:=h.len;omega,λks o=>?_,λq hq=>h.els q (e2▸hq)⟩;rw[h.out ks λw m a b=>o w m (by omega) (by omega),cB,UE (show ks≠zj n from o _ n (Ug _) (by omega))]
theorem vF{n m k:Nat}(h:m<n∨n+k<=m):Ey n k (oW m):=λw q a b e=>by
 simp only[oW,Vc,VP,Sum.inl.injEq]at e;omega
theorem GN{n m:Nat}(h:oW n=oW m):n=m:=by
 simp only[oW,Vc,Sum.inl.injEq]at h;omega
theorem D5(n m:Nat):oW n≠GU m:=λe=>by
 simp only[oW,GU,Vc,VP]at e;exact absurd e.1 (by decide +kernel)
theorem KO.iff{j n:Nat}{a:Lf}{b r:Bd}{kv k2 kv':List (List bD×W)}{u v:W}(h1:KO (j+3) (n+1) b (bL kv (zj n) u) k2)
 (h2:KO (j+3+eG b) (n+(av b).length+2) r (bL (bL k2 (oW n) (.int ((j+3+eG b:Nat):Int))) (GU n) v) kv'):KO j n (.iff a b r) kv kv':=by
 have p1:=bS kv (zj n) u;have p2:=bS k2 (oW n) (.int ((j+3+eG b:Nat):Int));have p3:=bS (bL k2 (oW n) (.int ((j+3+eG b:Nat):Int))) (GU n) v;have l1:=h1.len;have l2:=h2.len;refine⟨by simp only[av,Ud,Ur];omega,λks o=>?_,λq hq=>?_⟩
 . simp only[av,Ud,Ur]at o;have o0:∀w,ks≠[Sum.inr w,Sum.inl (n:Int)]:=λw=>o w n (Ug _) (by omega);rw[h2.out ks λw m a b=>o w m (by omega) (by omega),cB,UE (show ks≠GU n from o0 _),cB,UE (show ks≠oW n from o0 _),h1.out ks λw m a b=>o w m (by omega) (by omega),cB,UE (show ks≠zj n from o0 _)]
 . rcases Ub.mp hq with rfl | hq
   . rw[h2.out _ (vF (.inl (by dsimp only;omega))),cB,UE (D5 _ _),cB,Ul rfl]
   rcases Us.mp hq with hq | hq
   . have g:=jb b _ _ q hq;rw[h2.out _ (vF (.inl (by omega))),cB,UE (D5 _ _),cB,UE λe=>by have:=GN e;omega];exact h1.els q hq
   . exact h2.els q hq
section
variable{F:Nat->Option Ob}{I r p d:Nat}{N:List Str}{xn:Str}{pf:List W->ai->SM W}
theorem GI{S S2:ai}{rows rows2:List W}{kv kv2:List (List bD×W)}{n:Nat}{a:Lf}{b:Bd}{nm lp:W}(h:SH F S I r p d nm rows kv (gf 0 N))(hl:rows.length<9000)(hb:pf [.ref I,.list (cS (n+1) b),lp] (S.set r (.lst (rows++[BK N n (MG n)])))=some (.ok .none,S2))(g2:SH F S2 I r p d nm rows2 kv2 (gf 0 N))(hk:kv2.length<8999):
 ∃S',ki pf [.ref I,ny n a b,lp] S=some (.ok .none,S')/\SH F S' I r p d nm rows2 (bL (bL kv2 (oW n) (.int rows2.length)) (GU n) (.int rows2.length)) (gf 0 N):=by
 let δ:DS:=[.val (.ref I),.val (ny n a b),.val lp,.val (.int n)]
 have g3:=g2.spot (bL kv2 (oW n) (.int rows2.length));have p3:=bS kv2 (oW n) (.int (rows2.length:Int));have g4:=g3.spot (bL (bL kv2 (oW n) (.int rows2.length)) (GU n) (.int rows2.length));have nt:∀T,aa (aw iQ 1[4]! (dC .none)) δ T=some (.ok false,T):=λT=>aj (jU (a:=.none) (x4 rfl) rfl rfl);refine⟨_,?_,g4⟩;refine(au rfl).trans ((Uh bC (?_:_=some (.nx δ,_))).trans rfl);refine(af (δ':=δ) (S':=S) (aA (aR (x1 rfl) rfl))).trans ?_;refine(af (sI h (BK N n (MG n)) hl rfl (ax (pI (ax rfl (ax rfl (ax (Dv h rfl) (ax (aj (xB rfl rfl)) rfl)))) (by simp)) rfl))).trans ?_;refine(af (aX (aB (S1:=S.set r (.lst (rows++[BK N n (MG n)]))) (ds:=[.ref I,.list (cS (n+1) b),lp]) (aj (gT rfl (gT (x3 rfl) (gT rfl rfl)))) hb))).trans ?_;refine(af (δ':=δ) (S':=S2) ((aY (nt _)).trans rfl)).trans ?_;refine(af (EH g2 (x:=[.str "else", .int n]) (ks:=oW n) rfl (by omega) rfl (aj (gT (xB rfl rfl) rfl)))).trans ?_;refine(af (δ':=δ) ((aY (nt _)).trans rfl)).trans ?_;exact EH g3 (x:=[.str "behind", .int n]) (ks:=GU n) rfl (by omega) rfl (aj (gT (xB rfl rfl) rfl))
theorem rD{S:ai}{rows:List W}{kv:List (List bD×W)}(h:SH F S I r p d (.str xn) rows kv (gf 0 N)){l:Ln}{n:Nat}{lp:W}(hc:(∃a,l=.tell a)∨(∃a,l=.ret a)∨∃i f as,l=.call i f as/\oN i∈N/\as.length<9000)(hi:∀a∈iI l,∀y∈iP a,y∈N)(hl:rows.length+(iI l).length<8980)(hk:kv.length<9000)(hN:N.length<=8000):
 ∃S',dJ pf [.ref I,dg n l,lp] S=some (.ok .none,S')/\SH F S' I r p d (.str xn) (rows++kD N xm (wj xn) n l) (bL kv (zj n) (.int rows.length)) (gf 0 N):=by
 have hif:decide (cj l=Str.ofString "if")=false:=by
  rcases hc with⟨a,rfl⟩ | ⟨a,rfl⟩ | ⟨i,f,as,rfl,_⟩ <;> kernel_rfl
 have ne:l≠.fin/\∀f,l≠.df f:=by
  rcases hc with⟨a,rfl⟩ | ⟨a,rfl⟩ | ⟨i,f,as,rfl,_⟩ <;> exact⟨nofun,nofun⟩
 obtain⟨S3,s5,s6,g3,go⟩:=Ay (pf:=pf) (lp:=lp) (x:=dg n l) h ⟨_,rfl⟩ (mO n hif ne.1 ne.2 (by omega)) hi (by omega) hk hN;obtain⟨S4,e4,g4⟩:=FO g3 n hc (by simp[gY];omega);refine⟨S4,go S4 ?_,g4.cast (by simp[kD])⟩;refine(fF rfl hif).trans ((fF rfl (kz l).2.2.2.2).trans ((fF rfl (kz l).2.2.1).trans ((fF rfl (kz l).2.2.2.1).trans ?_)));exact aX (aB (S1:=S3) (ds:=[.ref I,dg n l]) rfl e4)
noncomputable abbrev CP:Nat->Nat->W:=λn _=>MG n
theorem z6{S S':ai}{m n:Nat}{b:Bd}{s3:Sl}(e:bc (ae 3) (fJ (be m)) (cS n b) [.val (.ref I),.val (.list (cS n b)),.val .none,.no] S=some (.nx [.val (.ref I),.val (.list (cS n b)),.val .none,s3],S')):be (m+1) [.ref I,.list (cS n b),.none] S=some (.ok .none,S'):=by
 show aN 3 4 _ _ _=_;refine(au rfl).trans ((Uh bC (?_:_=some (.nx [.val (.ref I),.val (.list (cS n b)),.val .none,s3],S'))).trans rfl);exact(cc (S1:=S) (ds:=cS n b) rfl).trans e
theorem n8:∀(b:Bd)(m n:Nat)(S:ai)(rows:List W)(kv:List (List bD×W))(s1 s3:Sl),i6 b<=m->(∀x∈iE b,x∈N)->rows.length+eG b<8900->kv.length+3*(av b).length<8900->N.length<=8000->SH F S I r p d (.str xn) rows kv (gf 0 N)->
 ∃S' kv' s3',(∀k,bc (ae 3) (fJ (be m)) (cS n b++k) [.val (.ref I),s1,.val .none,s3] S=bc (ae 3) (fJ (be m)) k [.val (.ref I),s1,.val .none,s3'] S')/\SH F S' I r p d (.str xn) (rows++d8 N CP xm (wj xn) rows.length n b) kv' (gf 0 N)/\KO rows.length n b kv kv'
 | .nil,m,n,S,rows,kv,s1,s3,_,_,_,_,_,h=>⟨S,kv,s3,λk=>rfl,h.cast (by simp[d8]),⟨by simp,λ_ _=>rfl,nofun⟩⟩
 | .tell a t,m,n,S,rows,kv,s1,s3,hm,hi,hl,hk,hN,h=>by
  simp only[eG]at hl;simp only[av,Ud]at hk;have pl:=bS kv (zj n) (.int (rows.length:Int));obtain⟨S1,e1,g1⟩:=rD (pf:=be m) (lp:=.none) h (l:=.tell a) (n:=n) (.inl ⟨a,rfl⟩) (by simp only[iI,UB];rintro _ rfl y hy;exact hi y (by simp[iE,hy])) (by simp[iI];omega) (by omega) hN;have ln:(rows++kD N xm (wj xn) n (.tell a)).length=rows.length+3:=by simp[kD,wu,iI,oA]
  obtain⟨S2,kv2,t3,e2,g2,k2⟩:=n8 t m (n+1) S1 _ _ s1 (.val (dg n (.tell a))) hm (λx hx=>hi x (by simp[iE,hx])) (by rw[ln];omega) (by omega) hN g1;rw[ln]at g2 k2;refine⟨S2,kv2,t3,λk=>(aL (δ2:=[.val (.ref I),s1,.val .none,.val (dg n (.tell a))]) rfl (aX (aB (S1:=S) (ds:=[.ref I,dg n (.tell a),.none]) rfl e1))).trans (e2 k),g2.cast (by simp[d8]),k2.plain rfl rfl⟩
 | .ret a t,m,n,S,rows,kv,s1,s3,hm,hi,hl,hk,hN,h=>by
  simp only[eG]at hl;simp only[av,Ud]at hk;have pl:=bS kv (zj n) (.int (rows.length:Int));obtain⟨S1,e1,g1⟩:=rD (pf:=be m) (lp:=.none) h (l:=.ret a) (n:=n) (.inr (.inl ⟨a,rfl⟩)) (by simp only[iI,UB];rintro _ rfl y hy;exact hi y (by simp[iE,hy])) (by simp[iI];omega) (by omega) hN;have ln:(rows++kD N xm (wj xn) n (.ret a)).length=rows.length+4:=by simp[kD,wu,iI,oA]
  obtain⟨S2,kv2,t3,e2,g2,k2⟩:=n8 t m (n+1) S1 _ _ s1 (.val (dg n (.ret a))) hm (λx hx=>hi x (by simp[iE,hx])) (by rw[ln];omega) (by omega) hN g1;rw[ln]at g2 k2;refine⟨S2,kv2,t3,λk=>(aL (δ2:=[.val (.ref I),s1,.val .none,.val (dg n (.ret a))]) rfl (aX (aB (S1:=S) (ds:=[.ref I,dg n (.ret a),.none]) rfl e1))).trans (e2 k),g2.cast (by simp[d8]),k2.plain rfl rfl⟩
 | .call i f as t,m,n,S,rows,kv,s1,s3,hm,hi,hl,hk,hN,h=>by
  simp only[eG]at hl;simp only[av,Ud]at hk;have pl:=bS kv (zj n) (.int (rows.length:Int));obtain⟨S1,e1,g1⟩:=rD (pf:=be m) (lp:=.none) h (l:=.call i f as) (n:=n) (.inr (.inr ⟨i,f,as,rfl,hi _ (by simp[iE]),by omega⟩)) (λa ha y hy=>hi y (by simp only[iE,Ub,Us,V1];exact .inr (.inl ⟨a,ha,hy⟩))) (by simp[iI];omega) (by omega) hN;have ln:(rows++kD N xm (wj xn) n (.call i f as)).length=rows.length+(2+as.length):=by simp[kD,wu,iI,gY];omega
  obtain⟨S2,kv2,t3,e2,g2,k2⟩:=n8 t m (n+1) S1 _ _ s1 (.val (dg n (.call i f as))) hm (λx hx=>hi x (by simp only[iE,Ub,Us];exact .inr (.inr hx))) (by rw[ln];omega) (by omega) hN g1;rw[ln]at g2 k2;refine⟨S2,kv2,t3,λk=>(aL (δ2:=[.val (.ref I),s1,.val .none,.val (dg n (.call i f as))]) rfl (aX (aB (S1:=S) (ds:=[.ref I,dg n (.call i f as),.none]) rfl e1))).trans (e2 k),g2.cast (by simp[d8]),k2.plain rfl rfl⟩
 | .iff a b t,m,n,S,rows,kv,s1,s3,hm,hi,hl,hk,hN,h=>by
  simp only[eG]at hl;simp only[av,Ud,Ur]at hk;simp only[i6]at hm;obtain⟨m,rfl⟩:∃j,m=j+1:=⟨m-1,by omega⟩
  have pl:=bS kv (zj n) (.int (rows.length:Int));obtain⟨S3,u5,u6,g3,go⟩:=Ay (pf:=be (m+1)) (lp:=.none) (l:=.iff a) (n:=n) (x:=ny n a b) (as:=[a]) h ⟨_,rfl⟩ (xf n a b) (by simp only[UB];rintro _ rfl y hy;exact hi y (by simp[iE,hy])) (by simp;omega) (by omega) hN;have g4:=g3.row (rows++vp n::oA N n (N.length+1) [a]++[BK N n (MG n)]);have ln:(rows++vp n::oA N n (N.length+1) [a]++[BK N n (MG n)]).length=rows.length+3:=by simp[oA]
  obtain⟨S5,kv5,t5,e5,g5,k5⟩:=n8 b m (n+1) _ _ _ (.val (.list (cS (n+1) b))) .no (by omega) (λx hx=>hi x (by simp[iE,hx])) (by rw[ln];omega) (by omega) hN g4;rw[ln]at g5 k5;have e5':=e5 [];rw[UK]at e5';have l5:=k5.len;obtain⟨S6,e6,g6⟩:=GI (a:=a) (b:=b) (n:=n) (pf:=be (m+1)) (lp:=.none) g3 (by simp[oA];omega) (z6 (e5'.trans rfl)) g5 (by omega);have p2:=bS kv5 (oW n) (.int ((rows.length+3+eG b:Nat):Int));have l6:(rows++vp n::oA N n (N.length+1) [a]++[BK N n (MG n)]++d8 N CP xm (wj xn) (rows.length+3) (n+1) b).length=rows.length+3+eG b:=by rw[Ur,ln,eA]
  rw[l6]at g6;have p3:=bS (bL kv5 (oW n) (.int ((rows.length+3+eG b:Nat):Int))) (GU n) (.int ((rows.length+3+eG b:Nat):Int));obtain⟨S7,kv7,t7,e7,g7,k7⟩:=n8 t (m+1) (n+(av b).length+2) S6 _ _ s1 (.val (ny n a b)) (by omega) (λx hx=>hi x (by simp[iE,hx])) (by rw[l6];omega) (by omega) hN g6;rw[l6]at g7 k7;have es:=go S6 ((fT rfl).trans (aX (aB (S1:=S3) (ds:=[.ref I,ny n a b,.none]) rfl e6)));refine⟨S7,kv7,t7,λk=>(aL (δ2:=[.val (.ref I),s1,.val .none,.val (ny n a b)]) rfl (aX (aB (S1:=S) (ds:=[.ref I,ny n a b,.none]) rfl es))).trans (e7 k),g7.cast (by simp[d8,oA]),.iff k5 k7⟩
theorem ME{S:ai}{rows:List W}{kv:List (List bD×W)}(b:Bd)(n:Nat)(hm:i6 b<=6)(hi:∀x∈iE b,x∈N)(hl:rows.length+eG b<8900)(hk:kv.length+3*(av b).length<8900)(hN:N.length<=8000)(h:SH F S I r p d (.str xn) rows kv (gf 0 N)):
 ∃S' kv',be 7 [.ref I,.list (cS n b),.none] S=some (.ok .none,S')/\SH F S' I r p d (.str xn) (rows++d8 N CP xm (wj xn) rows.length n b) kv' (gf 0 N)/\KO rows.length n b kv kv':=by
 obtain⟨S',kv',s3',e,g,k⟩:=n8 b 6 n S rows kv (.val (.list (cS n b))) .no hm hi hl hk hN h;have e':=e [];rw[UK]at e';exact⟨S',kv',z6 (e'.trans rfl),g,k⟩
end
theorem nq:Str.ofString "rows" ≠ Str.ofString "spots" /\ Str.ofString "rows" ≠ Str.ofString "name" /\ Str.ofString "spots" ≠ Str.ofString "name" /\ Str.ofString "rows" ≠ Str.ofString "slots" /\ Str.ofString "spots" ≠ Str.ofString "slots" /\ Str.ofString "name" ≠ Str.ofString "slots" := by decide +kernel
theorem QV(r p d:Nat)(nm x:W):c7 (Str.ofString "name") x (lU r p d nm)=lU r p d x:=by simp[lU,c7,nq.2.1,nq.2.2.1]
theorem Rc(r p d e:Nat)(nm:W):c7 (Str.ofString "slots") (.ref e) (lU r p d nm)=lU r p e nm:=by simp[lU,c7,nq.2.2.2.1,nq.2.2.2.2.1,nq.2.2.2.2.2]
theorem ED(S:ai):∃S',fE [.ref S.length] (S++[.ins (Str.ofString "Sheet") []])=some (.ok .none,S')/\SH (λi=>S[i]?) S' S.length (S.length+1) (S.length+2) (S.length+3) .none [] [] []:=by
 have z0:=sz 0 (by decide);let δ:DS:=[.val (.ref S.length)]
 let c:Str:=Str.ofString "Sheet";let S0:ai:=S++[.ins c []];have l0:S0.length=S.length+1:=by simp[S0]
 have a0:S0[S.length]?=some (.ins c []):=eg _ _;let S1:ai:=S0++[.lst []];have b1:S1[S.length+1]?=some (.lst []):=by rw[<-l0];exact eg _ _
 have e1:dP "Sheet" "rows" (aa (ac 0)) (kT (aa ah)) δ S0=some (.nx δ,S1.set S.length (.ins c (c7 (Str.ofString "rows") (.ref (S.length+1)) []))):=dY (by rw[<-l0];simp![S1,uS,uD,Ul z0]) rfl (cq a0) (by simp);let S2:ai:=S1.set S.length (.ins c (c7 (Str.ofString "rows") (.ref (S.length+1)) []));have l2:S2.length=S.length+2:=by simp[S2,S1,l0]
 have a2:S2[S.length]?=some (.ins c [(Str.ofString "rows", .ref (S.length+1))]):=set_eq' (cq a0);have b2:S2[S.length+1]?=some (.lst []):=set_ne' b1 (by omega);let S3:ai:=S2++[.dT []];have c3:S3[S.length+2]?=some (.dT []):=by rw[<-l2];exact eg _ _
 have e2:dP "Sheet" "spots" (aa (ac 0)) Ss δ S2=some (.nx δ,S3.set S.length (.ins c (c7 (Str.ofString "spots") (.ref (S.length+2)) [(Str.ofString "rows", .ref (S.length+1))]))):=dY (by rw[<-l2];rfl) rfl (cq a2) (by simp);let S4:ai:=S3.set S.length (.ins c (c7 (Str.ofString "spots") (.ref (S.length+2)) [(Str.ofString "rows", .ref (S.length+1))]));have p4:c7 (Str.ofString "spots") (.ref (S.length+2)) [(Str.ofString "rows", .ref (S.length+1))]=[(Str.ofString "rows", .ref (S.length+1)),(Str.ofString "spots", .ref (S.length+2))]:=by simp[c7,nq.1]
 have l4:S4.length=S.length+3:=by simp[S4,S3,l2]
 have a4:S4[S.length]?=some (.ins c [(Str.ofString "rows", .ref (S.length+1)),(Str.ofString "spots", .ref (S.length+2))]):=by rw[<-p4];exact set_eq' (cq a2)
 have b4:S4[S.length+1]?=some (.lst []):=set_ne' (cq b2) (by omega);have c4:S4[S.length+2]?=some (.dT []):=set_ne' c3 (by omega);have e3:dP "Sheet" "name" (aa (ac 0)) (aa (dC .none)) δ S4=some (.nx δ,S4.set S.length (.ins c (c7 (Str.ofString "name") .none [(Str.ofString "rows", .ref (S.length+1)),(Str.ofString "spots", .ref (S.length+2))]))):=dY rfl rfl a4 (by simp);let S5:ai:=S4.set S.length (.ins c (c7 (Str.ofString "name") .none [(Str.ofString "rows", .ref (S.length+1)),(Str.ofString "spots", .ref (S.length+2))]));have p5:c7 (Str.ofString "name") .none [(Str.ofString "rows", .ref (S.length+1)),(Str.ofString "spots", .ref (S.length+2))]=[(Str.ofString "rows", .ref (S.length+1)),(Str.ofString "spots", .ref (S.length+2)),(Str.ofString "name", .none)]:=by simp[c7,nq.2.1,nq.2.2.1]
 have l5:S5.length=S.length+3:=by simp[S5,l4]
 have a5:S5[S.length]?=some (.ins c [(Str.ofString "rows", .ref (S.length+1)),(Str.ofString "spots", .ref (S.length+2)),(Str.ofString "name", .none)]):=by rw[<-p5];exact set_eq' a4
 have b5:S5[S.length+1]?=some (.lst []):=set_ne' b4 (by omega);have c5:S5[S.length+2]?=some (.dT []):=set_ne' c4 (by omega);let S6:ai:=S5++[.dK []];have d6:S6[S.length+3]?=some (.dK []):=by rw[<-l5];exact eg _ _
 have e4:dP "Sheet" "slots" (aa (ac 0)) Nu δ S5=some (.nx δ,S6.set S.length (.ins c (c7 (Str.ofString "slots") (.ref (S.length+3)) [(Str.ofString "rows", .ref (S.length+1)),(Str.ofString "spots", .ref (S.length+2)),(Str.ofString "name", .none)]))):=dY (by rw[<-l5];rfl) rfl (cq a5) (by simp);have p6:c7 (Str.ofString "slots") (.ref (S.length+3)) [(Str.ofString "rows", .ref (S.length+1)),(Str.ofString "spots", .ref (S.length+2)),(Str.ofString "name", .none)]=lU (S.length+1) (S.length+2) (S.length+3) .none:=by simp[lU,c7,nq.2.2.2.1,nq.2.2.2.2.1,nq.2.2.2.2.2]
 rw[p6]at e4;refine⟨_,?_,⟨set_eq' (cq a5),set_ne' (cq b5) (by omega),set_ne' (cq c5) (by omega),set_ne' d6 (by omega),λi o e=>?_,by simp,by simp,by simp⟩⟩
 rotate_left
 . have hi:i<S.length:=(oG e).1;exact set_ne' (cq (set_ne' (set_ne' (cq (set_ne' (cq (cq e)) (by omega))) (by omega)) (by omega))) (by omega)
 refine(au rfl).trans ((Uh bC (?_:_=some (.nx δ,_))).trans rfl);exact(af e1).trans ((af e2).trans ((af e3).trans e4))
theorem xQ:∀(l acc:List Str)(x:Str),x∈acc∨x∈l->x∈dd acc l
 | [],acc,x,h=>by simpa[dd] using h
 | y::l,acc,x,h=>by
  unfold dd;refine xQ l _ x ?_;rcases h with h | h
  . refine .inl ?_;split
    . exact h
    . simp[h]
  . rcases Ub.mp h with rfl | h
    . refine .inl ?_;split
      . assumption
      . simp
    . exact .inr h
theorem B4{F:Nat->Option Ob}{S:ai}{I r p d e:Nat}{nm:W}{rows:List W}{kv:List (List bD×W)}{sl sl':List (bD×W)}(h:SH F S I r p d nm rows kv sl)(he:S[e]?=some (.dK sl'))(x:Str)(hk:kv.length<9000):∃S',iz [.ref I,.str x,.ref e] S=some (.ok .none,S')/\SH F S' I r p e (.str x) rows (bL kv [Sum.inr (Str.ofString "def"),Sum.inr x] (.int rows.length)) sl':=by
 have z2:=sz 2 (by decide);let δ:DS:=[.val (.ref I),.val (.str x),.val (.ref e)]
 have e1:dP "Sheet" "name" (aa (ac 0)) (aa (ac 1)) δ S=some (.nx δ,S.set I (.ins (Str.ofString "Sheet") (c7 (Str.ofString "name") (.str x) (lU r p d nm)))):=dY rfl rfl h.hI (by simp[lU]);rw[QV]at e1;have i1:(S.set I (.ins (Str.ofString "Sheet") (lU r p d (.str x))))[I]?=some (.ins (Str.ofString "Sheet") (lU r p d (.str x))):=set_eq' h.hI;have e2:dP "Sheet" "slots" (aa (ac 0)) (aa (ac 2)) δ (S.set I (.ins (Str.ofString "Sheet") (lU r p d (.str x))))=some (.nx δ,(S.set I (.ins (Str.ofString "Sheet") (lU r p d (.str x)))).set I (.ins (Str.ofString "Sheet") (c7 (Str.ofString "slots") (.ref e) (lU r p d (.str x))))):=dY rfl rfl i1 (by simp[lU]);rw[Rc]at e2;have g:SH F ((S.set I (.ins (Str.ofString "Sheet") (lU r p d (.str x)))).set I (.ins (Str.ofString "Sheet") (lU r p e (.str x)))) I r p e (.str x) rows kv sl':=
  ⟨set_eq' i1,set_ne' (set_ne' h.hr (cU h.hI h.hr (by simp))) (cU h.hI h.hr (by simp)),set_ne' (set_ne' h.hp (cU h.hI h.hp (by simp))) (cU h.hI h.hp (by simp)),set_ne' (set_ne' he (cU h.hI he (by simp))) (cU h.hI he (by simp)),HQ (HQ h.f h.fI _) h.fI _,h.fI,h.fr,h.fp⟩
 refine⟨_,?_,g.spot _⟩;refine(au rfl).trans ((Uh bC (?_:_=some (.nx δ,_))).trans rfl);exact(af e1).trans ((af e2).trans (EH g (x:=[.str "def", .str x]) rfl hk rfl (aj (gT (xB rfl rfl) rfl))))
theorem dd_len'(l:List Str):(dd [] l).length<=l.length:=by have:=vA l [];simpa using this
noncomputable abbrev Nd:=Nat×Df
noncomputable def yH(d:Df):List Str:=dd [] (jq d.1++iE d.2)
noncomputable def xF(f:Fin 6):List bD:=[Sum.inr (Str.ofString "def"),Sum.inr (bP f)]
noncomputable def At(f:Fin 6):List bD:=[Sum.inr (Str.ofString "last"),Sum.inr (bP f)]
noncomputable def Of(l:Nat):W:=.tuple [.str "back", .int l]
noncomputable def Ct(e:Nat->Nat->W)(dq:Fin 5->W)(lq:Fin 6->W)(j:Nat)(q:Nd):List W:=d8 (yH q.2) e dq (lq q.2.1) j (q.1+1) q.2.2++[Of (q.1+(av q.2.2).length+1)]
structure GD(d:Df):Prop where
 h:i6 d.2<=5
 l:(av d.2).length<300
 n:qi d.2<2000
 r:eG d.2<1400
noncomputable def P8(q:Nd)(ks:List bD):Prop:=Ey (q.1+1) (av q.2.2).length ks/\ks≠xF q.2.1/\ks≠At q.2.1
noncomputable def FK(kv:List (List bD×W))(j:Nat)(q:Nd):Prop:=(∀e∈Fs j (q.1+1) q.2.2,aU kv (oW e.1)=some (.int (e.2:Nat)))/\aU kv (xF q.2.1)=some (.int j)/\aU kv (At q.2.1)=some (.int ((j+eG q.2.2:Nat):Int))
theorem Hu(f g:Fin 6)(n m:Nat):xF f≠At g/\oW n≠xF f/\oW n≠At f/\Ey n m (xF f)/\Ey n m (At f):=by
 refine⟨λe=>?_,λe=>?_,λe=>?_,λw m a b e=>?_,λw m a b e=>?_⟩
 . simp only[xF,At,Vc,VP]at e;exact absurd e.1 (by decide +kernel)
 . simp[xF,oW]at e
 . simp[At,oW]at e
 . simp[xF]at e
 . simp[At]at e
noncomputable abbrev Te:Fin 6->W:=λf=>wj (bP f)
theorem get_kept'{S T:ai}{n m:Nat}{o:Ob}(hn:n=S.length)(k:∀m,m≠n->T[m]?=(S++[Ob.dK []])[m]?)(h:S[m]?=some o):T[m]?=some o:=by
 have l:=(oG h).1;rw[k m (by omega),cq h]
theorem Hf{F:Nat->Option Ob}{S:ai}{I r p d:Nat}{nm:W}{rows:List W}{kv:List (List bD×W)}{sl:List (bD×W)}(h:SH F S I r p d nm rows kv sl){q:Nd}(g:GD q.2)(s0 s2:Sl)(hr:rows.length+1401<8900)(hk:kv.length+902<8900):
 ∃S' d' kv',rE [s0,.val (.ref I),s2,.val (.str (bP q.2.1)),.val (.list ((jq q.2.1).map .str)),.val (.list (cS (q.1+1) q.2.2)),.val (.int q.1),.val (.int ((q.1+(av q.2.2).length+1:Nat):Int))] S=some (.nx [s0,.val (.ref I),s2,.val (.str (bP q.2.1)),.val (.list ((jq q.2.1).map .str)),.val (.list (cS (q.1+1) q.2.2)),.val (.int q.1),.val (.int ((q.1+(av q.2.2).length+1:Nat):Int))],S')
  /\ SH F S' I r p d' (.str (bP q.2.1)) (rows++Ct CP xm Te rows.length q) kv' (gf 0 (yH q.2))/\kv'.length<=kv.length+902/\(∀ks,P8 q ks->aU kv' ks=aU kv ks)/\FK kv' rows.length q:=by
 obtain⟨n,f,b⟩:=q;dsimp only at g ⊢;have g1:i6 b<=5:=g.h;have g2:(av b).length<300:=g.l;have g3:qi b<2000:=g.n;have g4:eG b<1400:=g.r;have nl:=iY b;have pl:=jw f;obtain⟨S1,e1,h1,k1⟩:=BE (jq f) (iE b) (.list (cS (n+1) b)) S (Kb b (n+1) (by omega) (by omega) (by omega)) (by omega) (by omega);have hN:(yH (f,b)).length<=8000:=UF (dd_len' _) (by simp only[Ur];omega);have s1:SH F S1 I r p d nm rows kv sl:=⟨get_kept' rfl k1 h.hI,get_kept' rfl k1 h.hr,get_kept' rfl k1 h.hp,get_kept' rfl k1 h.hd,λi o e=>get_kept' rfl k1 (h.f i o e),h.fI,h.fr,h.fp⟩
 obtain⟨S2,e2,s2'⟩:=B4 s1 h1 (bP f) (by omega);have l2:=bS kv (xF f) (.int (rows.length:Int));have s2'':SH F S2 I r p S.length (.str (bP f)) rows (bL kv (xF f) (.int rows.length)) (gf 0 (yH (f,b))):=s2';obtain⟨S3,kv3,e3,s3,k3⟩:=ME (N:=yH (f,b)) b (n+1) (by omega) (λx hx=>xQ _ _ x (.inr (Us.mpr (.inr hx)))) (by omega) (by omega) hN s2'';have l3:=k3.len;have ln:(rows++d8 (yH (f,b)) CP xm (wj (bP f)) rows.length (n+1) b).length=rows.length+eG b:=by rw[Ur,eA]
 have l4:=bS kv3 (At f) (.int ((rows.length+eG b:Nat):Int));have s4:=s3.spot (bL kv3 (At f) (.int ((rows.length+eG b:Nat):Int)));have s5:=s4.row (rows++d8 (yH (f,b)) CP xm (wj (bP f)) rows.length (n+1) b++[Of (n+(av b).length+1)]);refine⟨_,S.length,_,?_,s5.cast (Va _ _ _),by omega,λks ⟨o,n1,n2⟩=>?_,λe he=>?_,?_,?_⟩
 . refine(af (aX (gG (S1:=S1) (fs:=lU r p d nm) (I:=I) (ds:=[.str (bP f),.ref S.length]) rfl h.hI (G9 _ Hv _ _ _ _) (ax (S1:=S) rfl (ax (S1:=S1) (aB (S1:=S) (ds:=[.list ((jq f).map .str),.list (cS (n+1) b)]) rfl e1) rfl)) e2))).trans ?_;refine(af (aX (aB (S1:=S2) (ds:=[.ref I,.list (cS (n+1) b),.none]) rfl e3))).trans ?_;have la:=EH s3 (x:=[.str "last", .str (bP f)]) (ks:=At f) rfl (by omega) (fo:=ac 1) (fa:=aa #[bJ #[!"last",ac 3]]) (δ:=[s0,.val (.ref I),s2,.val (.str (bP f)),.val (.list ((jq f).map .str)),.val (.list (cS (n+1) b)),.val (.int n),.val (.int ((n+(av b).length+1:Nat):Int))]) rfl (aj (gT (xB rfl rfl) rfl));rw[ln]at la;refine(af la).trans ?_;exact sI s4 (Of (n+(av b).length+1)) (by omega) rfl (aj (gT (xB rfl rfl) rfl))
 . rw[cB,UE n2,k3.out ks o,cB,UE n1]
 . rw[cB,UE (Hu f f e.1 0).2.2.1];exact k3.els e he
 . rw[cB,UE (Hu f f 0 0).1,k3.out _ (Hu f f _ _).2.2.2.1,cB,Ul rfl]
 . rw[cB,Ul rfl]
noncomputable def dj(p q:Nd):Prop:=(p.1+1+(av p.2.2).length<=q.1+1∨q.1+1+(av q.2.2).length<=p.1+1)/\p.2.1≠q.2.1
theorem dj.kst{p q:Nd}(h:dj p q):(∀m,q.1+1<=m->m<q.1+1+(av q.2.2).length->P8 p (oW m))/\P8 p (xF q.2.1)/\P8 p (At q.2.1):=by
 have ne:bP p.2.1≠bP q.2.1:=λe=>h.2 (ss _ _ e);refine⟨λm a b=>⟨vF (by have:=h.1;omega),(Hu _ 0 _ 0).2.1,(Hu _ 0 _ 0).2.2.1⟩,⟨(Hu _ 0 _ _).2.2.2.1,λe=>?_,(Hu _ _ 0 0).1⟩,⟨(Hu _ 0 _ _).2.2.2.2,(λe=>(Hu _ _ 0 0).1 e.symm),λe=>?_⟩⟩
 . simp only[xF,Vc,VP]at e;exact ne e.2.1.symm
 . simp only[At,Vc,VP]at e;exact ne e.2.1.symm
noncomputable def x5(q:Nd):Nat:=eG q.2.2+1
noncomputable def FP(kv:List (List bD×W)):Nat->List Nd->Prop
 | _,[]=>True
 | j,q::L=>FK kv j q/\FP kv (j+x5 q) L
noncomputable def xC(e:Nat->Nat->W)(dq:Fin 5->W)(lq:Nat->Nd->W):Nat->List Nd->List W
 | _,[]=>[]
 | j,q::L=>Ct e dq (λ_=>lq j q) j q++xC e dq lq (j+x5 q) L
theorem u7(e:Nat->Nat->W)(dq:Fin 5->W)(lq:Fin 6->W)(j:Nat)(q:Nd):(Ct e dq lq j q).length=x5 q:=by simp[Ct,eA,x5]
noncomputable def pM(q:Nd):W:=Ju q.1 q.2
theorem zi{F:Nat->Option Ob}{I r p:Nat}{s0 s2:Sl}:∀(L:List Nd){S:ai}{d:Nat}{nm:W}{rows:List W}{kv:List (List bD×W)}{sl:List (bD×W)}(s3 s4 s5 s6 s7:Sl),SH F S I r p d nm rows kv sl->(∀q∈L,GD q.2)->L.Pairwise dj->rows.length+1401*L.length<8900->kv.length+902*L.length<8900->
 ∃S' d' nm' sl' kv' t3 t4 t5 t6 t7,bc (cW 5 (aD (ae 3) (aD (ae 4) (aD (ae 5) (aD (ae 6) (aD (ae 7) db)))))) rE (L.map pM) [s0,.val (.ref I),s2,s3,s4,s5,s6,s7] S=some (.nx [s0,.val (.ref I),s2,t3,t4,t5,t6,t7],S')/\SH F S' I r p d' nm' (rows++xC CP xm (λ_ q=>wj (bP q.2.1)) rows.length L) kv' sl'/\(∀ks,(∀q∈L,P8 q ks)->aU kv' ks=aU kv ks)/\FP kv' rows.length L
 | [],S,d,nm,rows,kv,sl,s3,s4,s5,s6,s7,h,_,_,_,_=>⟨S,d,nm,sl,kv,s3,s4,s5,s6,s7,rfl,h.cast (by simp[xC]),λ_ _=>rfl,trivial⟩
 | q::L,S,d,nm,rows,kv,sl,s3,s4,s5,s6,s7,h,g,pw,hr,hk=>by
  simp only[Ud]at hr hk;obtain⟨pq,pw⟩:=List.pairwise_cons.mp pw;obtain⟨S1,d1,kv1,e1,h1,l1,k1,f1⟩:=Hf h (g q Ua) s0 s2 (by omega) (by omega);have gr:=(g q Ua).r;have lr:(rows++Ct CP xm Te rows.length q).length=rows.length+x5 q:=by rw[Ur,u7]
  obtain⟨S2,d2,nm2,sl2,kv2,t3,t4,t5,t6,t7,e2,h2,k2,f2⟩:=zi (s0:=s0) (s2:=s2) L (.val (.str (bP q.2.1))) (.val (.list ((jq q.2.1).map .str))) (.val (.list (cS (q.1+1) q.2.2))) (.val (.int q.1)) (.val (.int ((q.1+(av q.2.2).length+1:Nat):Int))) h1 (λx hx=>g x (TY _ hx)) pw (by rw[lr];simp only[x5];omega) (by omega);rw[lr]at h2 f2;refine⟨S2,d2,nm2,sl2,kv2,t3,t4,t5,t6,t7,(aL rfl e1).trans e2,h2.cast (Va _ _ _),λks hks=>?_,?_,f2⟩
  . rw[k2 ks λx hx=>hks x (TY _ hx),k1 ks (hks q Ua)]
  . obtain⟨fa,fb,fc⟩:=f1;have kst:=λx (hx:x∈L)=>(show dj x q from⟨(pq x hx).1.symm,λz=>(pq x hx).2 z.symm⟩).kst;refine⟨λe he=>?_,?_,?_⟩
    . have:=jb _ _ _ e he;rw[k2 _ λx hx=>(kst x hx).1 _ this.1 this.2,fa e he]
    . rw[k2 _ λx hx=>(kst x hx).2.1,fb]
    . rw[k2 _ λx hx=>(kst x hx).2.2,fc]
theorem Lh:iS (.str "call") (.tuple [.str "split", .str "jump", .str "call"])=some true/\iS (.str "split") (.tuple [.str "split", .str "jump", .str "call"])=some true/\iS (.str "jump") (.tuple [.str "split", .str "jump", .str "call"])=some true:=by decide +kernel
section
variable{S:ai}{p:Nat}{kv:List (List bD×W)}
noncomputable abbrev SR'(S:ai)(p:Nat)(x y:W):Prop:=kn [x,.ref p] S=some (.ok y,S)
theorem u0{w:Str}{q x:List W}{ks:List bD}{v:W}(hp:S[p]?=some (.dT kv))(hw:iS (.str w) (.tuple [.str "split", .str "jump", .str "call"])=some true)(hx:pd x=some ks)(hv:aU kv ks=some v)(hq:q.length<=100)(c1:dS (.str w::(q++[.tuple x])) none (some (-1))=.str w::q):SR' S p (.tuple (.str w::(q++[.tuple x]))) (.tuple (.str w::(q++[v]))):=by
 let y:W:=.tuple (.str w::(q++[.tuple x]));let δ:DS:=[.val y,.val (.ref p)]
 have a1:aF aW (ao 0) (FJ pJ !1) δ=some (.tuple x):=by
  have:jC (.str w::(q++[.tuple x])) (-1)=some (.tuple x):=R7 (W.str w::q) (W.tuple x);exact dO (c:=aW) (a:=y) (b:=.int (-1)) rfl rfl (by rw[qN];exact this)
 have gk:qV (.ref p) (.tuple x) S=some (some v):=by simp[qV,iy,hp,rf,hx,hv]
 have ga:bp (.tuple (.str w::q)) (.tuple [v])=some (.tuple (.str w::(q++[v]))):=yE (a:=.str w::q) (b:=[v]) (by simp) (sz _ (by simp;omega));refine(au rfl).trans ((Uh bC (?_:_=some (.rt (.tuple (.str w::(q++[v]))),S))).trans rfl);have tt:aa (aw iS 0[0]! (bJ #[!"split",!"jump",!"call"])) δ S=some (.ok true,S):=aj (jU (x0 rfl) (Nv rfl rfl rfl) hw);have c2:aa (x8 (ac 0) b8 (b9 (FJ pJ !1))) δ S=some (.ok (.tuple (.str w::q)),S):=aj (by show some (W.tuple (dS _ none (some (-1))))=_;rw[c1]);have gd:gB (aa (ac 1)) (aa (aF aW (ao 0) (FJ pJ !1))) δ S=some (.ok v,S):=by
  have v1:aa (ac 1) δ S=some (.ok (.ref p),S):=rfl;simp only[gB,aq,v1,aj (S:=S) a1,gk,TZ,iD,Ue]
 exact gE ((eZ tt).trans (cg (JJ c2 (pI (ax gd rfl) (by simp)) ga)))
theorem jg{w:Str}{xs:List W}(hw:iS (.str w) (.tuple [.str "split", .str "jump", .str "call"])=some false):SR' S p (.tuple (.str w::xs)) (.tuple (.str w::xs)):=by
 let δ:DS:=[.val (.tuple (.str w::xs)),.val (.ref p)]
 have tt:aa (aw iS 0[0]! (bJ #[!"split",!"jump",!"call"])) δ S=some (.ok false,S):=aj (jU (x0 rfl) (Nv rfl rfl rfl) hw);refine(au rfl).trans ((Uh bC (?_:_=some (.rt (.tuple (.str w::xs)),S))).trans rfl);exact(af (δ':=δ) (S':=S) ((aY tt).trans rfl)).trans rfl
theorem Ci(N:List Str)(n k:Nat)(a:Lf):SR' S p (lO N n k a) (lO N n k a):=by
 unfold lO;split
 . exact jg (by decide +kernel)
 . split <;> exact jg (by decide +kernel)
theorem uR(N:List Str)(n:Nat):∀(as:List Lf)(k:Nat),Al (SR' S p) (oA N n k as) (oA N n k as)
 | [],_=>.nil
 | a::as,k=>.cons (Ci N n k a) (uR N n as (k+1))
noncomputable abbrev qP:Nat->Nat->W:=λ_ i=>.int i
theorem oa(hp:S[p]?=some (.dT kv))(N:List Str){dq:Fin 5->W}{f:Fin 6}{lq:W}(hl:aU kv (At f)=some lq):∀(b:Bd)(j n:Nat),(∀e∈Fs j n b,aU kv (oW e.1)=some (.int (e.2:Nat)))->(∀q∈y3 b,aU kv (xF (f5 q.1))=some (dq q.1))->Al (SR' S p) (d8 N CP xm (wj (bP f)) j n b) (d8 N qP dq lq j n b)
 | .nil,_,_,_,_=>.nil
 | .tell a r,j,n,he,hq=>.cons (jg (by decide +kernel)) (((uR N n [a] _).app (.cons (jg (by decide +kernel)) .nil)).app (oa hp N hl r _ _ he hq))
 | .ret a r,j,n,he,hq=>.cons (jg (by decide +kernel)) (((uR N n [a] _).app (.cons (jg (by decide +kernel)) (.cons (u0 (q:=[.int n]) hp Lh.2.2 rfl hl (by simp) rfl) .nil))).app (oa hp N hl r _ _ he hq))
 | .call i g as r,j,n,he,hq=>.cons (jg (by decide +kernel)) (((uR N n as _).app (.cons (u0 (q:=[.int n,Jj N (oN i),vh N,.int as.length]) hp Lh.1 rfl (hq (g,as) Ua) (by simp) rfl) .nil)).app (oa hp N hl r _ _ he λq h=>hq q (TY _ h)))
 | .iff a b r,j,n,he,hq=>.cons (jg (by decide +kernel)) (.cons (Ci N n _ a) (.cons (u0 (q:=[.int n,vh N]) hp Lh.2.1 rfl (he (n,j+3+eG b) Ua) (by simp) rfl) ((oa hp N hl b _ _ (λe h=>he e (TY _ (UM _ h))) λq h=>hq q (UM _ h)).app (oa hp N hl r _ _ (λe h=>he e (TY _ (Uo _ h))) λq h=>hq q (Uo _ h)))))
theorem EE(hp:S[p]?=some (.dT kv)){dq:Fin 5->W}:∀(L:List Nd)(j:Nat),FP kv j L->(∀q∈L,∀c∈y3 q.2.2,aU kv (xF (f5 c.1))=some (dq c.1))->Al (SR' S p) (xC CP xm (λ_ q=>wj (bP q.2.1)) j L) (xC qP dq (λj q=>.int ((j+eG q.2.2:Nat):Int)) j L)
 | [],_,_,_=>.nil
 | q::L,j,h,hq=>((oa hp _ h.1.2.2 q.2.2 j (q.1+1) h.1.1 (hq q Ua)).app (.cons (jg (by decide +kernel)) .nil)).app (EE hp L _ h.2 λx hx=>hq x (TY _ hx))
end
noncomputable def ja:Nat->List Df->List Nd
 | _,[]=>[]
 | n,d::ds=>(n,d)::ja (n+(av d.2).length+2) ds
theorem A1:∀(ps:List Df)(n:Nat),nu n ps=(ja n ps).map pM
 | [],_=>rfl
 | d::ps,n=>by simp[nu,ja,A1 ps,pM]
theorem jp:∀(ps:List Df)(n:Nat),(ja n ps).map (·.2)=ps
 | [],_=>rfl
 | d::ps,n=>by simp[ja,jp ps]
theorem EC:∀(ps:List Df)(n:Nat),∀q∈ja n ps,n<=q.1
 | [],_,q,h=>nomatch h
 | d::ps,n,q,h=>by
  rcases Ub.mp h with rfl | h
  . exact Ug _
  . have:=EC ps _ q h;omega
theorem xK:∀(ps:List Df)(n:Nat),(ps.map (·.1)).Nodup->(ja n ps).Pairwise dj
 | [],_,_=>.nil
 | d::ps,n,h=>by
  obtain⟨h1,h2⟩:=Vb.mp h;refine .cons (λq hq=>⟨?_,λe=>h1 ?_⟩) (xK ps _ h2)
  . have:=EC ps _ q hq;dsimp only;omega
  . have m:=VN (f:=(·.2)) hq;rw[jp]at m;dsimp only at e;have:=VN (f:=λx:Df=>x.1) m;dsimp only at this ⊢
    rwa[<-e]at this
theorem dj.symm{p q:Nd}(h:dj p q):dj q p:=⟨h.1.symm,λe=>h.2 e.symm⟩
noncomputable def nh(q:Nd):Bool:=decide (bP q.2.1=Str.ofString "main")
noncomputable def q9(L:List Nd):List Nd:=L.filter nh++L.filter λq=>!nh q
noncomputable def No:Nat->List Nd->Fin 6->Nat
 | _,[],_=>0
 | j,q::L,f=>if q.2.1=f then j else No (j+x5 q) L f
theorem JS{kv:List (List bD×W)}{f:Fin 6}:∀(L:List Nd)(j:Nat),FP kv j L->f∈L.map (·.2.1)->aU kv (xF f)=some (.int (No j L f:Nat))
 | q::L,j,h,hf=>by
  unfold No;by_cases e:q.2.1=f
  . rw[Ul e,<-e];exact h.1.2.1
  . rw[UE e];exact JS L _ h.2 ((Ub.mp hf).resolve_left λz=>e z.symm)
theorem Dc:∀L:List Nd,ba (ae 0) (aw bM 0[0]! !"main") (ac 0) [.no] (L.map pM)=some ((L.filter nh).map pM)
 | []=>rfl
 | q::L=>by
  have ih:=Dc L;have c:aw bM 0[0]! (!"main") [.val (pM q)]=some (nh q):=tD (x0 rfl);have g:ae 0 (pM q) [.no]=some [.val (pM q)]:=rfl;have v:ac 0 [.val (pM q)]=some (pM q):=rfl;simp only[Uk,ba,g,c,v,TZ,ih];cases h:nh q <;> simp[h]
theorem zY:∀L:List Nd,ba (ae 0) (aw ng 0[0]! !"main") (ac 0) [.no] (L.map pM)=some ((L.filter λq=>!nh q).map pM)
 | []=>rfl
 | q::L=>by
  have ih:=zY L;have c:aw ng 0[0]! (!"main") [.val (pM q)]=some (!nh q):=jU (x0 (f:=ao 0) rfl) rfl rfl;have g:ae 0 (pM q) [.no]=some [.val (pM q)]:=rfl;have v:ac 0 [.val (pM q)]=some (pM q):=rfl;simp only[Uk,ba,g,c,v,TZ,ih];cases h:nh q <;> simp[h]
noncomputable def GR(L:List Nd):Fin 5->W:=λf=>.int (No 0 L (f5 f))
noncomputable def Fn:Nat->Nd->W:=λj q=>.int ((j+eG q.2.2:Nat):Int)
theorem vq(e:Nat->Nat->W)(dq:Fin 5->W)(lq:Nat->Nd->W):∀(L:List Nd)(j:Nat),(∀q∈L,GD q.2)->(xC e dq lq j L).length<=1401*L.length
 | [],_,_=>by simp[xC]
 | q::L,j,g=>by
  have:=vq e dq lq L (j+x5 q) λx hx=>g x (TY _ hx);have:=(g q Ua).r;simp only[xC,Ur,u7,x5,Ud];simp only[x5]at *;omega
theorem Ft{ps:List Df}(h:GO ps)(g:∀d∈ps,GD d)(S:ai):∃S',yb [.list (nu 1 ps)] S=some (.ok (.list (xC qP (GR (q9 (ja 1 ps))) Fn 0 (q9 (ja 1 ps)))),S')/\∀(i:Nat)(o:Ob),S[i]?=some o->S'[i]?=some o:=by
 obtain⟨S0,e0,g0⟩:=ED S;let N:=ja 1 ps;let L:=q9 N;have pL:L.Perm N:=U3 nh N;have lN:N.length=ps.length:=by have:=Uh List.length (jp ps 1);simpa using this
 have lL:L.length=ps.length:=pL.length_eq.trans lN;have l6:=h.2.1;have mem:∀q∈L,q.2∈ps:=λq hq=>by
  have m:=VN (f:=(·.2)) (pL.mem_iff.mp hq)
  rwa[jp]at m
 have pw:L.Pairwise dj:=(pL.pairwise_iff λh=>dj.symm h).mpr (xK ps 1 h.1);rw[A1];let pr:W:=.list (N.map pM);let od:W:=.list (L.map pM);obtain⟨S2,d2,nm2,sl2,kv2,t3,t4,t5,t6,t7,e2,g5,k2,f2⟩:=zi (s0:=.val pr) (s2:=.val od) L .no .no .no .no .no g0 (λq hq=>g _ (mem q hq)) pw (by rw[lL];simp;omega) (by rw[lL];simp;omega);rw[UL,VA]at g5;have A:=EE (S:=S2) g5.hp (dq:=GR L) L 0 f2 λq hq c hc=>JS L 0 f2 (by
  have:=((h.2.2.2 _ (mem q hq)).2.2 c hc).1;have e:L.map (·.2.1)=(L.map (·.2)).map (·.1):=by simp
  rw[e];have p2:((L.map (·.2)).map (·.1)).Perm (ps.map (·.1)):=((pL.map (·.2)).trans (by rw[jp])).map _;exact p2.mem_iff.mpr this)
 have rl:=vq CP xm (λ_ q=>wj (bP q.2.1)) L 0 λq hq=>g _ (mem q hq);refine⟨S2,?_,g5.f⟩;let Y:W:=.list (xC qP (GR L) Fn 0 L);refine(au rfl).trans ((Uh bC (?_:_=some (.rt Y,S2))).trans rfl);refine(af (δ':=[.val pr,.val (.ref S.length),.no,.no,.no,.no,.no,.no]) (S':=S0) (aQ (lX (S1:=S) (ds:=[]) rfl e0) rfl)).trans ?_;refine(af (δ':=[.val pr,.val (.ref S.length),.val od,.no,.no,.no,.no,.no]) (S':=S0) ?_).trans ?_
 . have l1:(N.filter nh).length<=N.length:=US _ _;have l2:(N.filter λq=>!nh q).length<=N.length:=US _ _;have za:((N.filter nh).map pM).length+((N.filter λq=>!nh q).map pM).length<=sizeLine:=sz _ (by simp only[Uj];omega);have ga:bp (.list ((N.filter nh).map pM)) (.list ((N.filter λq=>!nh q).map pM))=some od:=by rw[iw za,<-UX];rfl
   have ds:aI (ao 0) [.val pr,.val (.ref S.length),.no,.no,.no,.no,.no,.no]=some (N.map pM):=rfl;exact aA (aR (dO (CT ds (by rw[Uj,lN];omega) (Dc N)) (CT ds (by rw[Uj,lN];omega) (zY N)) ga) rfl)
 refine(af ((cc (S1:=S0) (ds:=L.map pM) rfl).trans e2)).trans ?_;refine cg (AW (n:=(S.length+1,.l)) (S0:=S2) ?_ (sz 9000 (by decide)) ?_)
 . first | rfl | simp![uS,uD,vc g5.hI,M7,iq g5.hr]
 . have hs:∀x y,SR' S2 (S.length+2) x y->∃δ2,ae 1 x [.val (.ref S.length),.no]=some δ2/\aM kn (aK (aa (ac 1)) (aK (bB "Sheet" "spots" (aa (ac 0))) dX)) δ2 S2=some (.ok y,S2):=λx y hxy=>⟨_,rfl,aB (S1:=S2) (ds:=[x,.ref (S.length+2)]) (ax rfl (ax (pO (S1:=S2) (aj rfl) g5.hI (PR ..)) rfl)) hxy⟩
   have:=Ee (Hj g5.hr) hs A 9000 0 rfl (by omega);rw[show c9 [some 1,none] [.val pr,.val (.ref S.length),.val od,t3,t4,t5,t6,t7]=[.val (.ref S.length),.no] from rfl];exact this
theorem FX(ns:List Int)(lo hi:Option Int):∃ms:List Int,ms.length<=ns.length/\dS (ns.map .int) lo hi=ms.map .int:=by
 refine⟨(ns.drop (HT.sIx (ns.map W.int).length 0 lo)).take (HT.sIx (ns.map W.int).length (ns.map W.int).length hi-HT.sIx (ns.map W.int).length 0 lo),?_,?_⟩
 . rw[List.length_take,List.length_drop];omega
 . unfold dS;rw[Wa,List.map_drop]
theorem Bk(one:Int)(k:Nat)(hk:k<9000):∃m:Int,gh [.int one,.int k]=some (.int m)/\0<=m:=by
 have g1:lQ (.int one) (.int 48271)=some (.int (one*48271)):=rq (zn (by decide) (by decide));have g2:lQ (.int (k:Int)) (.int k)=some (.int ((k:Int)*k)):=rq (uQ (by omega) (by omega));have g3:lQ (.int ((k:Int)*k)) (.int 7919)=some (.int ((k:Int)*k*7919)):=rq (zn (by decide) (by decide));have hm:=eX (one*48271+(k:Int)*k*7919+101) (j:=2147483647) (by decide);generalize hx:(one*48271+(k:Int)*k*7919+101).fmod 2147483647=x at hm;have g4:lQ (.int x) (.int x)=some (.int (x*x)):=rq (uQ (by omega) (by omega));refine⟨(x*x).fmod 2147483629,?_,(eX (x*x) (by decide)).1⟩;first | rfl | simp +decide only[gh,uD,Nat.reduceAdd,Nat.reduceSub,reduceIte,Nat.reduceEqDiff,List.replicate,g1,g2,g3,hx,g4]
noncomputable def OM(o:Option W)(b:Str):Bool:=match o with
 | some (.str a)=>decide (a=b)
 | _=>false
theorem xI{o:Option W}{b:Str}(h:OM o b=true):o=some (.str b):=by
 unfold OM at h;split at h
 . obtain rfl:_=b:=by simpa using h
   rfl
 . cases h
theorem MV:∀i:Fin 19,OM (yQ (.int ((i.1:Int)-9))) (dR ⟨i.1+1,by omega⟩)=true:=by decide +kernel
theorem Mh:∀i:Fin 3,OM (jC [W.str "x", .str "q", .str "w"] (i.1:Int)) (dR ⟨i.1+20,by omega⟩)=true:=by decide +kernel
theorem zI(c:Int):∃a:Lf,b0 [.int c]=some (.str (dR a)):=by
 have h3:=eX c (j:=3) (by decide);have m3:∀δ:DS,ao 0 δ=some (.int c)->aF ij (ao 0) (dC (.int 3)) δ=some (.int (c.fmod 3)):=λδ h=>dO h rfl (ip (eh (by decide)));have d3:∀δ:DS,ao 0 δ=some (.int c)->aF iZ (ao 0) (dC (.int 3)) δ=some (.int (c.fdiv 3)):=λδ h=>dO h rfl (oh (iG (by decide) (by decide)));by_cases h0:c.fmod 3=0
 . refine⟨0,cw rfl (g9 (bq (b:=true) (jU (m3 _ rfl) rfl ?_) rfl))⟩;rw[h0];rfl
 have f0:bM (.int (c.fmod 3)) (.int 0)=some false:=by show some (decide (c.fmod 3=0))=_;rw[Up h0]
 by_cases h1:c.fmod 3=1
 . have b:=eX (c.fdiv 3) (j:=19) (by decide);obtain⟨i,hi⟩:∃i:Fin 19,(c.fdiv 3).fmod 19=i.1:=⟨⟨((c.fdiv 3).fmod 19).toNat,by omega⟩,by simp;omega⟩
   refine⟨⟨i.1+1,by omega⟩,cw rfl (bb (bq (b:=false) (jU (m3 _ rfl) rfl f0) rfl) (g9 (bq (b:=true) (jU (m3 _ rfl) rfl ?_) (bt (bX (dO (dO (d3 _ rfl) rfl (ip (eh (by decide)))) rfl rfl) ?_)))))⟩
   . rw[h1];rfl
   . rw[hi];exact xI (MV i)
 . have f1:bM (.int (c.fmod 3)) (.int 1)=some false:=by show some (decide (c.fmod 3=1))=_;rw[Up h1]
   have b:=eX (c.fdiv 3) (j:=3) (by decide);obtain⟨i,hi⟩:∃i:Fin 3,(c.fdiv 3).fmod 3=i.1:=⟨⟨((c.fdiv 3).fmod 3).toNat,by omega⟩,by simp;omega⟩
   refine⟨⟨i.1+20,by omega⟩,cw rfl (bb (bq (b:=false) (jU (m3 _ rfl) rfl f0) rfl) (bb (bq (b:=false) (jU (m3 _ rfl) rfl f1) rfl) (bt (dO (c:=aW) (a:=.list [W.str "x", .str "q", .str "w"]) rfl (dO (d3 _ rfl) rfl (ip (eh (by decide)))) ?_))))⟩;rw[hi,j3];exact xI (Mh i)
noncomputable def BP:List (bD×W):=[(.inr (Str.ofString "main"),.int 0),(.inr (Str.ofString "f"),.int 1),(.inr (Str.ofString "ff"),.int 3),(.inr (Str.ofString "g"),.int 1),(.inr (Str.ofString "zz"),.int 2),(.inr (Str.ofString "fg"),.int 0)]
theorem JW:∀f:Fin 6,(match aU BP (.inr (bP f)) with | some (.int i)=>decide (i=lT f) | _=>false)=true:=by decide +kernel
theorem rn(f:Fin 6)(S:ai):∃R,bN [.str (bP f)] S=some (.ok (.list ((jq f).map .str)),S++R):=by
 have v:aU BP (.inr (bP f))=some (.int (lT f)):=by
  have:=JW f;split at this
  . rename_i i e;rw[e,UN this]
  . cases this
 refine⟨[.dK BP],?_⟩;let δ:DS:=[.val (.str (bP f)),.val (.ref S.length)]
 have g:gB (aa (ac 1)) (aa (ac 0)) δ (S++[.dK BP])=some (.ok (.int (lT f)),S++[.dK BP]):=zf (S1:=S++[.dK BP]) (S2:=S++[.dK BP]) rfl rfl (eg S (.dK BP)) v;refine(au rfl).trans ((Uh bC (?_:_=some (.rt (.list ((jq f).map .str)),S++[.dK BP]))).trans rfl);refine(af (δ':=δ) (S':=S++[.dK BP]) (aQ rfl rfl)).trans (cg ?_);have c:dS [W.str "p", .str "x", .str "q"] none (some ((lT f:Nat):Int))=(jq f).map .str:=by
  have:=EL [W.str "p", .str "x", .str "q"] 0 (lT f);unfold jq;rw[Wa];exact this
 have a:aa (aP (bW #[!"p",!"x",!"q"])) δ (S++[.dK BP])=some (.ok (.list [W.str "p", .str "x", .str "q"]),S++[.dK BP]):=rfl;simp only[Lv,aq,a,g,gX,TZ,Gw];rw[c]
noncomputable abbrev fX(NL:List (Fin 6)):List W:=NL.map λf=>.str (bP f)
noncomputable def N0(a:Fin 5)(p:Nat):List (Fin 6):=(([0,1,2,3,4]:List (Fin 6)).take (a.1+1)).take p++[5]++(([0,1,2,3,4]:List (Fin 6)).take (a.1+1)).drop p
theorem L4:∀(a:Fin 5)(p:Fin 6),p.1<a.1+2->decide ((N0 a p.1).Nodup)=true/\(N0 a p.1).length=a.1+2/\decide (5∈N0 a p.1)=true/\(N0 a p.1).any (λx=>decide (x≠5))=true:=by decide +kernel
structure BJ(NL:List (Fin 6)):Prop where
 nd:NL.Nodup
 l2:2<=NL.length
 l6:NL.length<=6
 m:5∈NL
 o:∃x∈NL,x≠5
theorem yB(l:List W)(n:Nat):dS l none (some ((n:Nat):Int))=l.take n:=by
 have e:dS l none (some ((n:Nat):Int))=dS l (some ((0:Nat):Int)) (some ((n:Nat):Int)):=rfl;rw[e,EL];simp
theorem CW(c:Int):∃NL,BJ NL/\dm [.int c]=some (.list (fX NL)):=by
 have h5:=eX c (j:=5) (by decide);obtain⟨a,ha⟩:∃a:Fin 5,c.fmod 5=a.1:=⟨⟨(c.fmod 5).toNat,by omega⟩,by simp;omega⟩
 have hp:=eX (c.fdiv 5) (j:=2+(a.1:Int)) (by omega);obtain⟨p,hp'⟩:∃p:Fin 6,(c.fdiv 5).fmod (2+(a.1:Int))=p.1:=⟨⟨((c.fdiv 5).fmod (2+(a.1:Int))).toNat,by omega⟩,by simp;omega⟩
 have lt:p.1<a.1+2:=by omega
 obtain⟨k1,k2,k3,k4⟩:=L4 a p lt;refine⟨N0 a p.1,⟨UN k1,by omega,by omega,UN k3,by obtain⟨x,h1,h2⟩:=V0.mp k4;exact⟨x,h1,UN h2⟩⟩,?_⟩;let s0:Sl:=.val (.int c);let A:List W:=[W.str "f", .str "ff", .str "g", .str "main", .str "zz", .str "fg"]
 let B:List W:=fX [0,1,2,3,4];let m:W:=.int (2+(a.1:Int));let C:List W:=B.take (a.1+1);refine cw rfl (bb (δ1:=[s0,.val (.list A),.no,.no,.no]) rfl ?_);refine bb (δ1:=[s0,.val (.list A),.val m,.no,.no]) (aR (d:=m) (dO (a:=.int 2) rfl (dO (a:=.int c) rfl rfl (ip (eh (by decide)))) (by rw[ha];rfl)) rfl) ?_;refine bb (δ1:=[s0,.val (.list A),.val m,.val (.list C),.no]) (aR (d:=.list C) ?_ rfl) ?_
 . have e1:aP (cf [none] (aI (ao 1)) (ae 0) (aw ng (ao 0) !"main") (ac 0)) [s0,.val (.list A),.val m,.no,.no]=some (.list B):=by kernel_rfl
   have e2:b9 (aF gSub' (ao 2) !1) [s0,.val (.list A),.val m,.no,.no]=some (some ((a.1+1:Nat):Int)):=by
    show some (some (2+(a.1:Int)-1))=_;congr 2;omega
   have e3:b8 [s0,.val (.list A),.val m,.no,.no]=some none:=rfl;simp only[aP,fQ]at e1 ⊢;rw[e1];simp only[TZ,gX,e2,e3,Ue,yB];rfl
 refine bb (δ1:=[s0,.val (.list A),.val m,.val (.list C),.val (.int p.1)]) (aR (d:=.int p.1) (dO (b:=m) (dO (a:=.int c) rfl rfl (oh (iG (by decide) (by decide)))) rfl ((ip (eh (by omega))).trans (by rw[hp']))) rfl) ?_;let δ:DS:=[s0,.val (.list A),.val m,.val (.list C),.val (.int p.1)]
 have f1:aP (fQ (ao 3) b8 (b9 (ac 4))) δ=some (.list (C.take p.1)):=by
  show some (W.list (dS C none (some (p.1:Int))))=_;rw[yB]
 have f2:aP (fQ (ao 3) (b9 (ac 4)) b8) δ=some (.list (C.drop p.1)):=by
  show some (W.list (dS C (some (p.1:Int)) none))=_;rw[Az]
 have lc:C.length<=6:=by simp[C,B];omega
 have z1:(C.take p.1).length+[W.str "main"].length<=sizeLine:=sz _ (by simp;omega);have z2:(C.take p.1++[W.str "main"]).length+(C.drop p.1).length<=sizeLine:=sz _ (by simp;omega);refine bt (dO (dO f1 (b:=.list [W.str "main"]) rfl (iw z1)) f2 ((iw z2).trans ?_));simp only[fX,N0,UX,Wa,List.map_drop,C,B,Uk,V6];rfl
noncomputable def uP(NL:List (Fin 6))(f:Fin 6)(o:Nat):Ln->Prop
 | .df _=>False | .call _ g as=>f5 g∈NL/\as.length=lT (f5 g) | .ret _=>f≠5 | .iff _=>o<5 | .fin=>0<o | .tell _=>True
theorem DD:∀NL:List (Fin 6),ba (ae 0) (aw ng (ao 0) !"main") (ac 0) [.no] (fX NL)=some (fX (NL.filter λx=>decide (x≠5)))
 | []=>rfl
 | f::NL=>by
  have ih:=DD NL;have c:aw ng (ao 0) (!"main") [.val (.str (bP f))]=some (decide (f≠5)):=by
   refine(jU (a:=.str (bP f)) (b:=.str "main") (r:=!decide (bP f=Str.ofString "main")) rfl rfl rfl).trans ?_;congr 1;have:∀f:Fin 6,(!decide (bP f=Str.ofString "main"))=decide (f≠5):=by decide +kernel
   exact this f
  have g:ae 0 (.str (bP f)) [.no]=some [.val (.str (bP f))]:=rfl;have v:ac 0 [.val (.str (bP f))]=some (.str (bP f)):=rfl;simp only[fX]at ih;simp only[fX,Uk,ba,g,c,v,TZ,ih];by_cases h:f=5 <;> simp[h]
theorem zS(s:Sl)(x:Int):∀(n lo:Nat)(S:ai),aF iZ (ao 0) (!5) [s,.no]=some (.int x)->∃as:List Lf,as.length=n/\ck (ae 1) (aa cb) (aa (bz b0 #[aF bp (aF iZ (ao 0) !5) (aF lQ (!4) (ac 1))])) [s,.no] ((List.range' lo n).map λi=>.int (i:Nat)) S=some (.ok (as.map λa=>.str (dR a)),S)
 | 0,lo,S,_=>⟨[],rfl,rfl⟩
 | n+1,lo,S,h=>by
  obtain⟨as,h1,h2⟩:=zS s x n (lo+1) S h;obtain⟨a,ha⟩:=zI (x+4*(lo:Int));have h':aF iZ (ao 0) (!5) [s,.val (.int (lo:Nat))]=some (.int x):=h;refine⟨a::as,by simp[h1],?_⟩;rw[Vh,Uk];exact Qo (δ2:=[s,.val (.int (lo:Nat))]) rfl (aj (De (gT (dO h' (dO (c:=lQ) (a:=.int 4) (b:=.int (lo:Nat)) rfl rfl (rq (uQ (by decide) (by decide)))) rfl) rfl) ha)) h2
theorem Oi:∀i:Fin 2,OM (jC [W.str "w", .str "x"] (i.1:Int)) (oN i)=true:=by decide +kernel
theorem Su{f:DS->Option (List W)}{δ:DS}{l:List W}(h:f δ=some l)(hl:l.length<=9000):aP (bW f) δ=some (.list l):=by
 have z:=sz _ hl;unfold aP bW;rw[h];simp only[TZ,Ul z,Ue]
theorem qT{c:DS->Option Bool}{g:DS->Option i5}{k:DS->ai->SO}{δ:DS}{S:ai}{d:W}(h1:c δ=some true)(h2:g δ=some (.rt d)):ak (ag (cA c g ay)) k δ S=some (.rt d,S):=by
 have:cA c g ay δ=some (.rt d):=bq h1 h2;unfold ak ag;rw[this];rfl
theorem qF{c:DS->Option Bool}{g:DS->Option i5}{k:DS->ai->SO}{δ:DS}{S:ai}(h1:c δ=some false):ak (ag (cA c g ay)) k δ S=k δ S:=af (aA (bq h1 rfl))
theorem HV(c:Int)(f:Fin 6){NL:List (Fin 6)}(k:BJ NL)(o:Nat)(S:ai)(hc:0<=c):∃l R,eQ [.int c,.str (bP f),.list (fX NL),.int o] S=some (.ok (.list ((fH l).map .str)),S++R)/\uP NL f o l:=by
 have h7:=eX c (j:=7) (by decide);let K:Int:=c.fmod 7;let r:Int:=c.fdiv 7;let a0:Sl:=.val (.int c);let a1:Sl:=.val (.str (bP f));let a2:Sl:=.val (.list (fX NL));let a3:Sl:=.val (.int o);let δ:DS:=[a0,a1,a2,a3,.val (.int K),.val (.int r),.no,.no,.no]
 have l2:zB (.int ((fX NL).length:Int)) (.int 1)=some true:=by
  show some (decide ((1:Int)<((fX NL).length:Int)))=_;rw[Uq (by have:=k.l2;simp;omega)]
 have ln:cp bw (ao 2) δ=some (.int ((fX NL).length:Int)):=bX (a:=.list (fX NL)) rfl rfl;have tail:∀{o':wz×ai}{g:DS->ai->SO},g δ S=some o'->ak (ag (bo (aF ij (ao 0) !7) (ae 4))) (ak (ag (bo (aF iZ (ao 0) !7) (ae 5))) g) [a0,a1,a2,a3,.no,.no,.no,.no,.no] S=some o':=λh=>by
  refine(af (δ':=[a0,a1,a2,a3,.val (.int K),.no,.no,.no,.no]) (S':=S) (aA (aR (dO (a:=.int c) rfl rfl (ip (eh (by decide)))) rfl))).trans ?_;exact(af (δ':=δ) (S':=S) (aA (aR (dO (a:=.int c) rfl rfl (oh (iG (by decide) (by decide)))) rfl))).trans h
 have t0:aa (lj (aw BM (ao 4) !2) (aw zB (cp bw (ao 2)) !1)) δ S=some (.ok (decide (K<2)),S):=by
  have c0:aw BM (ao 4) (!2) δ=some (decide (K<2)):=jU (a:=.int K) rfl rfl rfl;refine aj ?_;by_cases hk:K<2
  . rw[Uq hk]at c0 ⊢;exact dA c0 (jU ln rfl l2)
  . rw[Up hk]at c0 ⊢;exact Q3 c0
 obtain⟨a,ha⟩:=zI r;have lf:∀w:Str,aP (bW #[dC (.str w),bz b0 #[ac 5]]) δ=some (.list [.str w,.str (dR a)]):=λw=>Su (gT rfl (gT (De (ds:=[.int r]) rfl ha) rfl)) (by simp);by_cases hk:K<2
 . rw[Uq hk]at t0;let oth:=NL.filter λx=>decide (x≠5);obtain⟨x,x1,x2⟩:=k.o;have lo:0<oth.length:=List.length_pos_of_mem (Vy.mpr ⟨x1,Uq x2⟩);have l6:oth.length<=6:=UF (US _ _) k.l6;have hr:=eX r (j:=(oth.length:Int)) (by omega);obtain⟨j,hj⟩:∃j:Nat,r.fmod (oth.length:Int)=j:=⟨(r.fmod (oth.length:Int)).toNat,by omega⟩
   have jl:j<oth.length:=by omega
   obtain⟨g1,g2⟩:=Vy.mp (Vs jl);have g3:oth[j]≠5:=UN g2;obtain⟨g,hg⟩:∃g:Fin 5,f5 g=oth[j]:=⟨⟨(oth[j]).1,by have:=(oth[j]).2;have:(oth[j]).1≠5:=λe=>g3 (Fin.ext e);omega⟩,rfl⟩
   obtain⟨R,hR⟩:=rn (f5 g) S;have hdv:aF iZ (ao 0) (!5) [.val (.int r),.no]=some (.int (r.fdiv 5)):=dO (a:=.int r) rfl rfl (oh (iG (by decide) (by decide)));obtain⟨as,as1,as2⟩:=zS (.val (.int r)) (r.fdiv 5) (lT (f5 g)) 0 (S++R) hdv;have hi:=eX (r.fdiv 5) (j:=2) (by decide);obtain⟨i,hi'⟩:∃i:Fin 2,(r.fdiv 5).fmod 2=i.1:=⟨⟨((r.fdiv 5).fmod 2).toNat,by omega⟩,by simp;omega⟩
   have a3l:=(jw (f5 g)).1;refine⟨.call i g as,R,(au rfl).trans ((Uh bC (tail (o':=(.rt (.list ((fH (.call i g as)).map .str)),S++R)) ?_)).trans rfl),hg▸g1,as1⟩;refine gE ((eZ t0).trans ?_);let δ1:DS:=[a0,a1,a2,a3,.val (.int K),.val (.int r),.val (.list (fX oth)),.no,.no]
   let δ2:DS:=[a0,a1,a2,a3,.val (.int K),.val (.int r),.val (.list (fX oth)),.val (.str (bP (f5 g))),.no]
   let δ3:DS:=[a0,a1,a2,a3,.val (.int K),.val (.int r),.val (.list (fX oth)),.val (.str (bP (f5 g))),.val (.list (as.map λa=>.str (dR a)))]
   refine(af (δ':=δ1) (S':=S) (aA (aR (CT (ds:=fX NL) rfl (by have:=k.l6;simp;omega) (DD NL)) rfl))).trans ?_;have ol:(fX oth).length=oth.length:=by simp
   refine(af (δ':=δ2) (S':=S) (aA (aR (d:=.str (bP (f5 g))) (dO (c:=aW) (a:=.list (fX oth)) rfl (dO (a:=.int r) (b:=.int ((fX oth).length:Int)) rfl (bX (a:=.list (fX oth)) rfl rfl) (ip (eh (by rw[ol];omega)))) ?_) rfl))).trans ?_
   . rw[ol,hj,j3,Cr _ _ (by rw[ol];exact jl),hg];try simp[jl]
   have pl:((jq (f5 g)).map W.str).length=lT (f5 g):=by rw[Uj,(uT _).2]
   have rg:rB (aK (ly (aM bN (aa #[ac 7]))) dX) δ2 S=some (.ok (kC 0 (lT (f5 g))),S++R):=by
    have e1:=NI (aB (f:=bN) (fa:=aa #[ac 7]) (δ:=δ2) (S1:=S) (ds:=[.str (bP (f5 g))]) rfl hR);rw[pl]at e1;have e2:=ax e1 (rfl:dX δ2 (S++R)=some (.ok [],S++R));simp only[rB,aq,e2,iD];rw[Gp (by omega) (by omega)];rfl
   have co:gK [some 5,none] (rB (aK (ly (aM bN (aa #[ac 7]))) dX)) (ae 1) (aa cb) (aa (bz b0 #[aF bp (aF iZ (ao 0) !5) (aF lQ (!4) (ac 1))])) δ2 S=some (.ok (.list (as.map λa=>.str (dR a))),S++R):=by
    have z:(kC 0 (lT (f5 g))).length<=sizeLine:=sz _ (by simp[kC];omega);have er:kC 0 (lT (f5 g))=(List.range' 0 (lT (f5 g))).map λi=>.int (i:Nat):=by simp[kC,List.range_eq_range']
    have lft:c9 [some 5,none] δ2=[.val (.int r),.no]:=rfl;simp only[gK,aq,rg,Ul z,lft];rw[er,as2]
   refine(af (δ':=δ3) (S':=S++R) (aQ co rfl)).trans ?_;have z:[W.str "call", .str (oN i),.str (bP (f5 g))].length+(as.map λa=>W.str (dR a)).length<=sizeLine:=sz _ (by simp;omega);have wx:aF aW (aP (bW #[!"w",!"x"])) (aF ij (aF iZ (ao 5) !5) !2) δ3=some (.str (oN i)):=dO (c:=aW) (a:=.list [W.str "w", .str "x"]) rfl (dO (dO (a:=.int r) rfl rfl (oh (iG (by decide) (by decide)))) rfl (ip (eh (by decide)))) (by rw[hi',j3];exact xI (Oi i));have rt:aF bp (aP (bW #[!"call",aF aW (aP (bW #[!"w",!"x"])) (aF ij (aF iZ (ao 5) !5) !2),ac 7])) (ac 8) δ3=some (.list ((fH (.call i g as)).map .str)):=by
    refine dO (Su (gT rfl (gT wx (gT rfl rfl))) (by simp)) rfl ((iw z).trans ?_);simp[fH,cj,kA]
   exact cX (bt rt)
 . rw[Up hk]at t0;refine(?_:∃l,∃R:List Ob,_);have go:∀{l:Ln},uP NL f o l->ak (ag (cA (lj (aw bM (ao 4) !2) (aw ng (ao 1) !"main"))
    (aO (aP (bW #[!"return",bz b0 #[ac 5]])))
    ay)) _ δ S=some (.rt (.list ((fH l).map .str)),S)->∃l R,eQ [.int c,.str (bP f),.list (fX NL),.int o] S=some (.ok (.list ((fH l).map .str)),S++R)/\uP NL f o l:=λ{l} h q=>⟨l,[],(au rfl).trans ((Uh bC (tail (o':=(.rt (.list ((fH l).map .str)),S)) ((af (δ':=δ) (S':=S) ((aY t0).trans rfl)).trans q))).trans (by rw[UK];rfl)),h⟩
   have nm:aw ng (ao 1) (!"main") δ=some (decide (f≠5)):=by
    refine(jU (a:=.str (bP f)) (b:=.str "main") (r:=!decide (bP f=Str.ofString "main")) rfl rfl rfl).trans ?_;congr 1;have:∀f:Fin 6,(!decide (bP f=Str.ofString "main"))=decide (f≠5):=by decide +kernel
    exact this f
   have kd:∀n:Int,aw bM (ao 4) (dC (.int n)) δ=some (decide (K=n)):=λn=>jU (a:=.int K) rfl rfl rfl;have k2:=kd 2;have k3:=kd 3;have k4:=kd 4;have o3:aw BM (ao 3) (!5) δ=some (decide (((o:Nat):Int)<5)):=jU (a:=.int o) rfl rfl rfl;have o4:aw zB (ao 3) (!0) δ=some (decide (0<((o:Nat):Int))):=jU (a:=.int o) rfl rfl rfl;by_cases e2:K=2/\f≠5
   . rw[Uq e2.1]at k2;rw[Uq e2.2]at nm;exact go (l:=.ret a) e2.2 (qT (dA k2 nm) (bt (lf _)))
   have n2:lj (aw bM (ao 4) !2) (aw ng (ao 1) !"main") δ=some false:=by
    by_cases e:K=2
    . rw[Uq e]at k2;rw[Up λz=>e2 ⟨e,z⟩]at nm;exact dA k2 nm
    . rw[Up e]at k2;exact Q3 k2
   by_cases e3:K=3/\o<5
   . rw[Uq e3.1]at k3;rw[Uq (by omega)]at o3;exact go (l:=.iff a) e3.2 ((qF n2).trans (qT (dA k3 o3) (bt (lf _))))
   have n3:lj (aw bM (ao 4) !3) (aw BM (ao 3) !5) δ=some false:=by
    by_cases e:K=3
    . rw[Uq e]at k3;rw[Up (by omega)]at o3;exact dA k3 o3
    . rw[Up e]at k3;exact Q3 k3
   by_cases e4:K=4/\0<o
   . rw[Uq e4.1]at k4;rw[Uq (by omega)]at o4;exact go (l:=.fin) e4.2 ((qF n2).trans ((qF n3).trans (qT (dA k4 o4) rfl)))
   have n4:lj (aw bM (ao 4) !4) (aw zB (ao 3) !0) δ=some false:=by
    by_cases e:K=4
    . rw[Uq e]at k4;rw[Up (by omega)]at o4;exact dA k4 o4
    . rw[Up e]at k4;exact Q3 k4
   exact go (l:=.tell a) trivial ((qF n2).trans ((qF n3).trans ((qF n4).trans (cX (bt (lf _))))))
noncomputable def bY(l:Ln):W:=.list ((fH l).map .str)
noncomputable def GB(o:Nat):Ln->Nat
 | .iff _=>o+1 | .fin=>o-1 | _=>o
noncomputable def Vl(NL:List (Fin 6))(f:Fin 6):Nat->List Ln->Nat->Prop
 | o,[],o'=>o=o'
 | o,l::Ls,o'=>uP NL f o l/\Vl NL f (GB o l) Ls o'
noncomputable def okF(NL:List (Fin 6))(f:Fin 6):Ln->Prop
 | .df _=>False | .call _ g as=>f5 g∈NL/\as.length=lT (f5 g) | .ret _=>f≠5 | _=>True
section
variable{NL:List (Fin 6)}{f:Fin 6}
theorem Vl.okF:∀{Ls:List Ln}{o o':Nat},Vl NL f o Ls o'->∀l∈Ls,okF NL f l
 | l::Ls,o,o',h,x,hx=>by
  rcases Ub.mp hx with rfl | hx
  . have:=h.1;cases x <;> first | exact this | trivial
  . exact Vl.okF h.2 x hx
theorem Vl.le:∀{Ls:List Ln}{o o':Nat},Vl NL f o Ls o'->o<=5->o'<=5
 | [],o,o',h,ho=>by cases h;exact ho
 | l::Ls,o,o',h,ho=>by
  refine Vl.le h.2 ?_;have:=h.1;cases l <;> simp only[GB,uP]at this ⊢ <;> omega
noncomputable def jn:List Bd->List Ln
 | []=>[]
 | b::tl=>.fin::(av b++jn tl)
noncomputable def Dp:Nat->List Bd->Prop
 | _,[]=>True
 | o,b::tl=>i6 b<=6-o/\Dp (o-1) tl
theorem E3:∀o,jn (List.replicate o .nil)=List.replicate o .fin
 | 0=>rfl
 | o+1=>by simp[List.replicate_succ,jn,av,E3 o]
theorem Dm:∀o k,Dp k (List.replicate o .nil)
 | 0,_=>trivial
 | o+1,k=>by
  rw[List.replicate_succ];exact⟨by simp[i6],Dm o _⟩
theorem tf:∀(Ls:List Ln)(o o':Nat),Vl NL f o Ls o'->o<=5->∃(b:Bd) (tl:List Bd),tl.length=o/\Ls++List.replicate o' .fin=av b++jn tl/\i6 b<=5-o/\Dp o tl
 | [],o,o',h,ho=>by
  cases h;exact⟨.nil,List.replicate o .nil,by simp,by simp[av,E3],by simp[i6],Dm _ _⟩
 | l::Ls,o,o',h,ho=>by
  obtain⟨h1,h2⟩:=h;cases l with
  | df _=>exact h1.elim
  | tell a=>
   obtain⟨b,tl,e1,e2,e3,e4⟩:=tf Ls o o' h2 ho;exact⟨.tell a b,tl,e1,by simp[av,e2],e3,e4⟩
  | ret a=>
   obtain⟨b,tl,e1,e2,e3,e4⟩:=tf Ls o o' h2 ho;exact⟨.ret a b,tl,e1,by simp[av,e2],e3,e4⟩
  | call i g as=>
   obtain⟨b,tl,e1,e2,e3,e4⟩:=tf Ls o o' h2 ho;exact⟨.call i g as b,tl,e1,by simp[av,e2],e3,e4⟩
  | iff a=>
   simp only[uP]at h1;obtain⟨b,tl,e1,e2,e3,e4⟩:=tf Ls (o+1) o' h2 (by omega);obtain _ | ⟨c,tl⟩:=tl
   . cases e1
   . refine⟨.iff a b c,tl,by simpa using e1,by simp[av,e2,jn],?_,by simpa using e4.2⟩;have:=e4.1;simp only[i6];omega
  | fin=>
   simp only[uP]at h1;obtain⟨b,tl,e1,e2,e3,e4⟩:=tf Ls (o-1) o' h2 (by omega);refine⟨.nil,b::tl,by simp[e1];omega,by simp[av,jn,e2],by simp[i6],⟨by omega,e4⟩⟩
end
theorem Pb(l:Ln){δ:DS}(h:ao 7 δ=some (bY l)):7[0]! δ=some (.str (cj l)):=Ep (l:=.str (cj l)::(kA l).map .str) h rfl (BU _ _)
theorem Ei{c:DS->Option Bool}{δ:DS}{b:Bool}(h:c δ=some b):pD (dB c) δ=some (.int (if b then 1 else 0)):=by
 simp only[pD,dB,h,Ue,TZ,JO]
noncomputable def cn(m k j n:Nat):Nat:=((List.range' j n).filter λi:Nat=>decide ((i:Int).fmod (m:Nat)=k)).length
theorem mN(m k j n:Nat):cn m k j (n+1)=(if(j:Int).fmod (m:Nat)=k then 1 else 0)+cn m k (j+1) n:=by
 unfold cn;rw[Vh,VJ];by_cases h:(j:Int).fmod (m:Nat)=k
 . simp only[h,decide_true,U5,Ud];omega
 . simp only[h,V5,UR,V4];omega
theorem Js(m k j n:Nat):cn m k j n<=n:=by
 have:=US (λi:Nat=>decide ((i:Int).fmod (m:Nat)=k)) (List.range' j n);unfold cn;simpa using this
theorem yW(m k:Nat):∀(n p j:Nat),cn m k j n<=cn m k j (n+p)
 | 0,p,j=>by simp[cn]
 | n+1,p,j=>by
  have:=yW m k n p (j+1);rw[mN,show n+1+p=(n+p)+1 by omega,mN];omega
theorem CZ(r:Nat):∀(c lo:Nat),((List.range' lo c).map λk=>if r=k then 1 else 0).sum<=if r<lo then 0 else 1
 | 0,lo=>by simp
 | c+1,lo=>by
  have ih:=CZ r c (lo+1);rw[Vh,Uk,VO];split at ih <;> split <;> split <;> omega
theorem EI{m:Nat}(hm:0<m):∀(n j:Nat),((List.range' 0 m).map λk=>cn m k j n).sum<=n
 | 0,j=>by
  have s:∀l:List Nat,(l.map λk=>cn m k j 0).sum=0:=λl=>by
   induction l with
   | nil=>rfl
   | cons x l ih=>rw[Uk,VO,ih];simp[cn]
  rw[s];omega
 | n+1,j=>by
  have ih:=EI hm n (j+1);have f:=eX (j:Int) (j:=(m:Int)) (by omega);obtain⟨r,hr⟩:∃r:Nat,(j:Int).fmod (m:Nat)=r:=⟨((j:Int).fmod (m:Nat)).toNat,by omega⟩
  have i1:=CZ r m 0;rw[UE (by omega)]at i1;have e:((List.range' 0 m).map λk=>cn m k j (n+1))=(List.range' 0 m).map λk=>(if r=k then 1 else 0)+cn m k (j+1) n:=by
   refine List.map_congr_left λk _=>?_;rw[mN,hr];congr 1;by_cases h:r=k <;> simp[h] <;> omega
  rw[e];have s:∀l:List Nat,(l.map λk=>(if r=k then 1 else 0)+cn m k (j+1) n).sum=(l.map λk=>if r=k then 1 else 0).sum+(l.map λk=>cn m k (j+1) n).sum:=λl=>by
   induction l with
   | nil=>rfl
   | cons x l ih=>simp only[Uk,VO,ih];omega
  rw[s];omega
theorem vO{NL:List (Fin 6)}(g:BJ NL){k:Nat}(hk:k<NL.length){s0:Sl}:∀(ms:List Int)(j o:Nat)(acc:List W)(S:ai)(s5 s6 s7:Sl),j+ms.length<=8000->acc.length+ms.length<8000->o<=5->∃Ls o' R t5 t6 t7,bc (cW 2 (aD (ae 5) (aD (ae 6) db))) jf (nz j (ms.map .int)) [s0,.val (.int k),.val (.list (fX NL)),.own acc,.val (.int o),s5,s6,s7] S=some (.nx [s0,.val (.int k),.val (.list (fX NL)),.own (acc++Ls.map bY),.val (.int (o':Nat)),t5,t6,t7],S++R)/\Ls.length<=cn NL.length k j ms.length/\Vl NL (NL[k]) o Ls o'
 | [],j,o,acc,S,s5,s6,s7,_,_,_=>⟨[],o,[],s5,s6,s7,by simp[nz,bc],by simp,rfl⟩
 | c::ms,j,o,acc,S,s5,s6,s7,hj,ha,ho=>by
  simp only[Ud]at hj ha;let δ:DS:=[s0,.val (.int k),.val (.list (fX NL)),.own acc,.val (.int o),.val (.int j),.val (.int c),s7]
  have ln:cp bw (ao 2) δ=some (.int (NL.length:Nat)):=bX (a:=.list (fX NL)) rfl (by show some (W.int ((fX NL).length:Int))=_;simp);have tt:aa (aw bM (aF ij (ao 5) (cp bw (ao 2))) (ao 1)) δ S=some (.ok (decide ((j:Int).fmod (NL.length:Nat)=k)),S):=aj (jU (dO (a:=.int j) rfl ln (ip (eh (by have:=g.l2;omega)))) rfl rfl);by_cases h:(j:Int).fmod (NL.length:Nat)=k
  . rw[Uq h]at tt;obtain⟨m,hm,m0⟩:=Bk c j (by omega);obtain⟨l,R1,e1,ok⟩:=HV m (NL[k]) g o S m0;have nk:aF aW (ao 2) (ac 1) δ=some (.str (bP NL[k])):=dO (c:=aW) (a:=.list (fX NL)) (b:=.int k) rfl rfl (by rw[j3,Cr _ _ (by simpa using hk)];simp[hk]);let δ1:DS:=[s0,.val (.int k),.val (.list (fX NL)),.own acc,.val (.int o),.val (.int j),.val (.int c),.val (bY l)]
    let δ2:DS:=[s0,.val (.int k),.val (.list (fX NL)),.own acc,.val (.int (GB o l:Nat)),.val (.int j),.val (.int c),.val (bY l)]
    let δ3:DS:=[s0,.val (.int k),.val (.list (fX NL)),.own (acc++[bY l]),.val (.int (GB o l:Nat)),.val (.int j),.val (.int c),.val (bY l)]
    have o5:GB o l<=5:=by cases l <;> simp only[GB,uP]at ok ⊢ <;> omega
    obtain⟨Ls,o',R,t5,t6,t7,e2,l2,v2⟩:=vO g hk ms (j+1) (GB o l) (acc++[bY l]) (S++R1) (.val (.int j)) (.val (.int c)) (.val (bY l)) (by omega) (by simp;omega) o5;refine⟨l::Ls,o',R1++R,t5,t6,t7,?_,by rw[Ud,Ud,mN,Ul h];omega,ok,v2⟩;have b:jf δ S=some (.nx δ3,S++R1):=by
     refine(eZ tt).trans ?_;refine(af (δ':=δ1) (S':=S++R1) (aQ (aB (S1:=S) (ds:=[.int m,.str (bP NL[k]),.list (fX NL),.int o]) (aj (gT (De (ds:=[.int c,.int j]) rfl hm) (gT nk rfl))) e1) rfl)).trans ?_;have q1:=Ei (tD (b:=Str.ofString "if") (Pb (δ:=δ1) l rfl));have q2:=Ei (tD (b:=Str.ofString "end") (Pb (δ:=δ1) l rfl));rw[(kq l).2.2.2.2.1]at q1;rw[(kq l).2.2.1]at q2;refine(af (δ':=δ2) (S':=S++R1) (aA (aR (d:=.int (GB o l:Nat)) (dO (dO (a:=.int o) rfl q1 rfl) q2 ?_) rfl))).trans ?_
     . show some (W.int (((o:Nat):Int)+_-_))=_;cases l <;> simp only[GB,uP]at ok ⊢ <;> congr 2 <;> simp <;> omega
     . exact aA (PN (ds:=acc) rfl rfl (by omega))
    refine(aL (δ2:=δ) rfl b).trans (e2.trans ?_);simp
  . rw[Up h]at tt;obtain⟨Ls,o',R,t5,t6,t7,e2,l2,v2⟩:=vO g hk ms (j+1) o acc S (.val (.int j)) (.val (.int c)) s7 (by omega) (by omega) ho;exact⟨Ls,o',R,t5,t6,t7,(aL (δ2:=δ) rfl ((aY tt).trans rfl)).trans e2,by rw[Ud,mN,UE h];omega,v2⟩
theorem Iy{NL:List (Fin 6)}(g:BJ NL){k:Nat}(hk:k<NL.length)(ns:List Int)(hn:ns.length<=63)(S:ai):∃(b:Bd) (R:List Ob),gC [.list (ns.map .int),.int k,.list (fX NL)] S=some (.ok (.list ((fU (NL[k],b)).map bY)),S++R)/\i6 b<=5/\(av b).length<=cn NL.length k 0 63+5/\∀l∈av b,l=.fin∨okF NL (NL[k]) l:=by
 obtain⟨ms,m1,m2⟩:=FX ns (some 1) (some 101);obtain⟨R1,e1⟩:=rn (NL[k]) S;let s0:Sl:=.val (.list (ns.map .int));let s1:Sl:=.val (.int k);let s2:Sl:=.val (.list (fX NL));obtain⟨Ls,o',R,t5,t6,t7,e2,l2,v2⟩:=vO g hk (s0:=s0) ms 0 0 [bY (.df NL[k])] (S++R1) .no .no .no (by omega) (by simp;omega) (by omega);obtain⟨b,tl,b1,b2,b3,b4⟩:=tf Ls 0 o' v2 (by omega);obtain rfl:tl=[]:=List.length_eq_zero_iff.mp b1;have ob:=v2.le (by omega);simp only[jn,UK]at b2;have fl:(av b).length=Ls.length+o':=by rw[<-b2];simp
 have mo:=yW NL.length k ms.length (63-ms.length) 0;rw[show ms.length+(63-ms.length)=63 by omega]at mo;have c63:=Js NL.length k 0 63;refine⟨b,R1++R,?_,b3,by omega,λl hl=>?_⟩
 . have dl:(fU (NL[k],b)).map bY=([bY (.df NL[k])]++Ls.map bY)++List.replicate (o'+1) (bY .fin):=by
    have:fU (NL[k],b)=[.df NL[k]]++Ls++(List.replicate o' .fin++[.fin]):=by simp[fU,<-b2]
    rw[this,<-List.replicate_succ'];simp
   let X:List W:=[bY (.df NL[k])]++Ls.map bY;refine(au rfl).trans ((Uh bC (?_:_=some (.rt (.list ((fU (NL[k],b)).map bY)),S++R1++R))).trans (by simp[bC]));let δ0:DS:=[s0,s1,s2,.no,.no,.no,.no,.no]
   have nk:aF aW (ao 2) (ac 1) δ0=some (.str (bP NL[k])):=dO (c:=aW) (a:=.list (fX NL)) (b:=.int k) rfl rfl (by rw[j3,Cr _ _ (by simpa using hk)];simp[hk]);have pl:=(uT NL[k]).2;have al:=(jw NL[k]).1;have z:[W.str "def", .str (bP NL[k])].length+((jq NL[k]).map W.str).length<=sizeLine:=sz _ (by simp;omega);have a1:sZ bp (aa (aP (bW #[!"def",aF aW (ao 2) (ac 1)]))) (aM bN (aa #[aF aW (ao 2) (ac 1)])) δ0 S=some (.ok (bY (.df NL[k])),S++R1):=JJ (aj (Su (gT rfl (gT nk rfl)) (by simp))) (aB (S1:=S) (ds:=[.str (bP NL[k])]) (aj (gT nk rfl)) e1) ((iw z).trans (by simp[bY,fH,cj,kA]));have a2:zD 3 (aK (sZ bp (aa (aP (bW #[!"def",aF aW (ao 2) (ac 1)]))) (aM bN (aa #[aF aW (ao 2) (ac 1)]))) dX) δ0 S=some (.nx [s0,s1,s2,.own [bY (.df NL[k])],.no,.no,.no,.no],S++R1):=by
    have c:=ax a1 (rfl:dX δ0 (S++R1)=some (.ok [],S++R1));have z1:[bY (.df NL[k])].length<=sizeLine:=sz 1 (by decide);simp only[zD,jz,c,Ul z1];rfl
   refine(af a2).trans ?_;let δ1:DS:=[s0,s1,s2,.own [bY (.df NL[k])],.val (.int 0),.no,.no,.no]
   refine(af (δ':=δ1) (S':=S++R1) rfl).trans ?_;have en:jS #[aP (fQ (ao 0) (b9 !1) (b9 !101))] δ1=some (nz 0 (ms.map .int)):=by
    have:aP (fQ (ao 0) (b9 !1) (b9 !101)) δ1=some (.list (ms.map .int)):=by
     show some (W.list (dS (ns.map .int) (some 1) (some 101)))=_;rw[m2]
    have c2:#[aP (fQ (ao 0) (b9 !1) (b9 !101))] δ1=some [.list (ms.map .int)]:=gT this rfl;simp only[jS,c2,TZ,sw]
   refine(af ((cc (S1:=S++R1) (ds:=nz 0 (ms.map .int)) (aj en)).trans e2)).trans ?_;let δ2:DS:=[s0,s1,s2,.own X,.val (.int (o':Nat)),t5,t6,t7]
   have rp:aP (Hq (bW #[aP (bW #[!"end"])]) (aF bp (ao 4) !1)) δ2=some (.list (List.replicate (o'+1) (bY .fin))):=by
    have l1:bW #[aP (bW #[!"end"])] δ2=some [bY .fin]:=rfl;have l3:aF bp (ao 4) (!1) δ2=some (.int ((o'+1:Nat):Int)):=rfl;have c:(decide (0<=(((o'+1:Nat)):Int))&&decide ((((o'+1:Nat)):Int)<=1000)&&decide ([bY .fin].length<=1000))=true:=by simp;omega
    simp only[aP,Hq,l1,l3,TZ,Gw,Ul c,Ue,Int.toNat_natCast];congr 2;simp[List.flatten_replicate_singleton]
   have xl:X.length<=200:=by simp[X];omega
   have zz:X.length+(List.replicate (o'+1) (bY .fin)).length<=sizeLine:=sz _ (by simp only[List.length_replicate];omega);exact cX (bt (dO (a:=.list X) rfl rp ((iw zz).trans (by rw[dl]))))
 . rw[<-b2]at hl;rcases Us.mp hl with hl | hl
   . exact .inr (v2.okF l hl)
   . exact .inl (List.mem_replicate.mp hl).2
noncomputable def mw(w:Str):Bool:=decide (w=Str.ofString "x")||decide (w=Str.ofString "q")||decide (w=Str.ofString "w")||decide (w=Str.ofString "p")
theorem CA:∀a:Lf,mw (dR a)=decide (20<=a.1):=by decide +kernel
theorem EX:∀f:Fin 6,mw (bP f)=false/\(jq f).all mw=true:=by decide +kernel
theorem Mx:∀i:Fin 2,mw (oN i)=true:=by decide +kernel
noncomputable def wg:Ln->List Str
 | .df f=>jq f | .call i _ as=>oN i::as.flatMap iP | .ret a=>iP a | .iff a=>iP a | .tell a=>iP a | .fin=>[]
noncomputable def B5:Ln->List Str
 | .df f=>jq f | l=>kA l
theorem ut(a:Lf)(r:List Str):(dR a::r).filter mw=iP a++r.filter mw:=by
 unfold iP;rw[VJ,CA];by_cases h:20<=a.1 <;> simp[h]
theorem Fw:∀as:List Lf,(as.map dR).filter mw=as.flatMap iP
 | []=>rfl
 | a::as=>by rw[Uk,ut,Fw as];rfl
theorem y1(l:Ln):(B5 l).filter mw=wg l:=by
 cases l with
 | df f=>exact List.filter_eq_self.mpr λx hx=>UI.mp (EX f).2 x hx
 | call i f as=>
  show(oN i::bP (f5 f)::as.map dR).filter mw=_;rw[VJ,Mx,Ul rfl,VJ,(EX _).1,Fw];rfl
 | ret a=>exact(ut a []).trans (by simp[wg])
 | iff a=>exact(ut a []).trans (by simp[wg])
 | tell a=>exact(ut a []).trans (by simp[wg])
 | fin=>rfl
theorem lK:∀b:Bd,(av b).flatMap wg=iE b
 | .nil=>rfl
 | .tell a r=>by simp[av,iE,wg,lK r]
 | .ret a r=>by simp[av,iE,wg,lK r]
 | .call i f as r=>by simp[av,iE,wg,lK r]
 | .iff a b r=>by simp[av,iE,wg,lK b,lK r]
theorem Dl(d:Df):(fU d).flatMap wg=jq d.1++iE d.2:=by simp[fU,wg,lK]
theorem yN:∀(a acc b:List Str),dd acc (a++b)=dd (dd acc a) b
 | [],acc,b=>rfl
 | x::a,acc,b=>by simp only[U7,dd,yN a]
theorem u1:∀(acc:List Str),w6 (acc.map .str)=some (acc.map V.str)
 | []=>rfl
 | x::acc=>by
  show((some (V.str x)).bind λv=>(w6 (acc.map .str)).map (v::·))=_;rw[u1 acc];rfl
theorem yf(x:Str):∀(acc:List Str),IN (.str x) (acc.map V.str)=decide (x∈acc)
 | []=>rfl
 | y::acc=>by
  have ih:=yf x acc;unfold IN at ih ⊢;rw[Uk,V9,ih];have:yR (V.str y) (V.str x)=decide (y=x):=by
   show(y==x)=_;by_cases h:y=x <;> simp[h]
  rw[this];by_cases h:y=x
  . subst h;simp
  . have h':¬ x=y:=λz=>h z.symm;simp[h,h']
theorem Ef{S:ai}{l:Nat}{acc:List Str}(h:S[l]?=some (.lst (acc.map .str)))(x:Str):M9 (.str x) (.ref l) S=some (decide (x∈acc)):=by
 have e1:EA (.ref l) S=some (acc.map .str):=by simp[EA,iq h]
 simp only[M9,e1,TZ,JF,u1,Ue,yf]
theorem Ll(w:Str):iS (.str w) (.tuple [.str "x", .str "q", .str "w", .str "p"])=some (mw w):=by
 have e1:wV (.tuple (([Str.ofString "x", Str.ofString "q", Str.ofString "w", Str.ofString "p"]:List Str).map .str))=some (([Str.ofString "x", Str.ofString "q", Str.ofString "w", Str.ofString "p"]:List Str).map .str):=rfl;have e2:iS (.str w) (.tuple (([Str.ofString "x", Str.ofString "q", Str.ofString "w", Str.ofString "p"]:List Str).map .str))=some (decide (w∈([Str.ofString "x", Str.ofString "q", Str.ofString "w", Str.ofString "p"]:List Str))):=by
  simp only[iS,e1,TZ,JF,u1,Ue,yf]
 refine e2.trans (Uh some ?_);simp[mw,Ub,Bool.decide_or,Bool.or_assoc]
section
variable{S:ai}{l:Nat}{acc:List Str}
theorem CK(h:S[l]?=some (.lst (acc.map .str)))(hl:acc.length<9000)(w:Str):jD [.str w,.ref l] S=some (.ok .none,S.set l (.lst ((dd acc ([w].filter mw)).map .str))):=by
 let δ:DS:=[.val (.str w),.val (.ref l)]
 have t1:aa (aw iS (ao 0) (bJ #[!"x",!"q",!"w",!"p"])) δ S=some (.ok (mw w),S):=aj (jU rfl (Em rfl rfl rfl rfl) (Ll w));have t2:xh true (aa (ac 0)) (aa (ac 1)) δ S=some (.ok (!decide (w∈acc)),S):=by
  have a:aa (ac 0) δ S=some (.ok (.str w),S):=rfl;have b:aa (ac 1) δ S=some (.ok (.ref l),S):=rfl;simp only[xh,aq,a,b,Ef h,iD,Ue,U5]
 cases hv:mw w with
 | false=>
  rw[hv]at t1;have e:[w].filter mw=[]:=by simp[hv]
  rw[e,dd,fK h];refine(au rfl).trans ((Uh bC (?_:_=some (.nx δ,S))).trans rfl);exact(aY (rh t1)).trans rfl
 | true=>
  rw[hv]at t1;have e:[w].filter mw=[w]:=by simp[hv]
  rw[e];by_cases hw:w∈acc
  . rw[Uq hw]at t2;have e2:dd acc [w]=acc:=by simp[dd,hw]
    rw[e2,fK h];refine(au rfl).trans ((Uh bC (?_:_=some (.nx δ,S))).trans rfl);exact(aY (se t1 t2)).trans rfl
  . rw[Up hw]at t2;have e2:dd acc [w]=acc++[w]:=by simp[dd,hw]
    rw[e2,UX];refine(au rfl).trans ((Uh bC (?_:_=some (.nx δ,S.set l (.lst (acc.map .str++[.str w]))))).trans rfl);exact(eZ (se t1 t2)).trans (GV (S1:=S) (S2:=S) rfl h rfl h (by simpa using hl))
end
theorem w5{s0 s2:Sl}{l:Nat}:∀(ws acc:List Str)(S:ai)(s3:Sl),S[l]?=some (.lst (acc.map .str))->acc.length+ws.length<9000->∃t3,bc (ae 3) jM (ws.map .str) [s0,.val (.ref l),s2,s3] S=some (.nx [s0,.val (.ref l),s2,t3],S.set l (.lst ((dd acc (ws.filter mw)).map .str)))
 | [],acc,S,s3,h,hl=>⟨s3,by simp only[List.filter_nil,dd];rw[fK h];rfl⟩
 | w::ws,acc,S,s3,h,hl=>by
  simp only[Ud]at hl;have dl:=vA ([w].filter mw) acc;have fl:([w].filter mw).length<=1:=US _ _;obtain⟨t3,e⟩:=w5 (s0:=s0) (s2:=s2) ws (dd acc ([w].filter mw)) _ (.val (.str w)) (gN (x:=.lst ((dd acc ([w].filter mw)).map .str)) h) (by omega);rw[wQ,<-yN,<-List.filter_append]at e;exact⟨t3,(aL (δ2:=[s0,.val (.ref l),s2,.val (.str w)]) rfl (aX (aB (S1:=S) (ds:=[.str w,.ref l]) rfl (CK h (by omega) w)))).trans e⟩
theorem Ku(l:Ln):dS ((fH l).map W.str) (some (1+(if(match l with | .df _=>true | _=>false) then 1 else 0))) none=(B5 l).map .str:=by
 cases l with
 | df f=>exact(Az _ 2).trans rfl
 | _=>exact(Az _ 1).trans rfl
theorem xo{s0:Sl}{l:Nat}:∀(Ls:List Ln)(acc:List Str)(S:ai)(s2 s3:Sl),S[l]?=some (.lst (acc.map .str))->(∀x∈Ls,(B5 x).length<=10)->acc.length+10*Ls.length<9000->∃t2 t3,bc (ae 2) ka (Ls.map bY) [s0,.val (.ref l),s2,s3] S=some (.nx [s0,.val (.ref l),t2,t3],S.set l (.lst ((dd acc (Ls.flatMap wg)).map .str)))
 | [],acc,S,s2,s3,h,_,hl=>⟨s2,s3,by simp only[List.flatMap_nil,dd];rw[fK h];rfl⟩
 | x::Ls,acc,S,s2,s3,h,hx,hl=>by
  simp only[Ud]at hl;have x10:=hx x Ua;obtain⟨u3,e1⟩:=w5 (s0:=s0) (s2:=.val (bY x)) (B5 x) acc S s3 h (by omega);rw[y1]at e1;have dl:=vA (wg x) acc;have nl:(wg x).length<=10:=by rw[<-y1];exact UF (US _ _) x10
  obtain⟨t2,t3,e2⟩:=xo (s0:=s0) Ls (dd acc (wg x)) _ (.val (bY x)) u3 (gN (x:=.lst ((dd acc (wg x)).map .str)) h) (λy hy=>hx y (TY _ hy)) (by omega);rw[wQ,<-yN]at e2;refine⟨t2,t3,(aL (δ2:=[s0,.val (.ref l),.val (bY x),s3]) rfl ?_).trans e2⟩;let δ:DS:=[s0,.val (.ref l),.val (bY x),s3]
  have hd:2[0]! δ=some (.str (cj x)):=Ep (l:=.str (cj x)::(kA x).map .str) rfl rfl (BU _ _);have q:=Ei (tD (b:=Str.ofString "def") hd);rw[(kq x).1]at q;have pt:b9 (aF bp (!1) (pD (dB (aw bM 2[0]! !"def")))) δ=some (some (1+(if(match x with | .df _=>true | _=>false) then 1 else 0))):=by
   have:=dO (c:=bp) (f:=dC (.int 1)) (δ:=δ) rfl q rfl;simp only[b9,this];rfl
  have sq:aI (aP (fQ (ao 2) (b9 (aF bp (!1) (pD (dB (aw bM 2[0]! !"def"))))) b8)) δ=some ((B5 x).map .str):=by
   have p2:ao 2 δ=some (bY x):=rfl;have p3:b8 δ=some none:=rfl;simp only[aI,aP,fQ,p2,pt,p3,TZ,bY,gX,Ue,Ku];rfl
  exact(cc (S1:=S) (ds:=(B5 x).map .str) (aj sq)).trans e1
theorem Bp{d:Df}(hd:∀x∈fU d,(B5 x).length<=10)(hl:(fU d).length<=200)(S:ai):jh [.list ((fU d).map bY)] S=some (.ok (.ref S.length),S++[.lst ((yH d).map .str)]):=by
 let T:=S++[.lst []];obtain⟨t2,t3,e⟩:=xo (s0:=.val (.list ((fU d).map bY))) (l:=S.length) (fU d) [] T .no .no (eg S _) hd (by simp;omega);rw[Dl]at e;have eT:T.set S.length (.lst ((dd [] (jq d.1++iE d.2)).map .str))=S++[.lst ((yH d).map .str)]:=by have:=aS S [.lst []] 0 (.lst ((dd [] (jq d.1++iE d.2)).map .str));simpa[T,yH] using this
 rw[eT]at e;let δ:DS:=[.val (.list ((fU d).map bY)),.val (.ref S.length),.no,.no]
 refine(au rfl).trans ((Uh bC (?_:_=some (.rt (.ref S.length),S++[.lst ((yH d).map .str)]))).trans rfl);refine(af (δ':=δ) (S':=T) (aQ (d:=.ref S.length) (by simp[kT,aq,aa,ah,T]) rfl)).trans ?_;exact(af ((cc (S1:=T) (ds:=(fU d).map bY) rfl).trans e)).trans rfl
theorem CS:∀(N:List Str)(x:Str),x∈N->(N.map V.str).findIdx? (λz=>yR z (.str x))=some (N.idxOf x)
 | y::N,x,h=>by
  have eq1:yR (V.str y) (V.str x)=decide (y=x):=by
   show(y==x)=_;by_cases h:y=x <;> simp[h]
  by_cases e:y=x
  . subst e;simp[List.findIdx?_cons,eq1]
  . have ih:=CS N x ((Ub.mp h).resolve_left λz=>e z.symm);have b:(y==x)=false:=by simpa using e
    simp[List.findIdx?_cons,eq1,e,ih,List.idxOf_cons,b]
theorem MS:∀a:Lf,0<a.1->a.1<20->QP (vZ (.str (dR a))) (JR a)=true:=by decide +kernel
theorem Lo:∀a:Lf,decide (dR a=Str.ofString "lane")=decide (a.1=0):=by decide +kernel
section
variable{S:ai}{sl:Nat}{N:List Str}
theorem DP(hn:S[sl]?=some (.lst (N.map .str))){fk fo:DS->Option W}{δ:DS}{x:Str}(hx:x∈N)(h1:fo δ=some (.ref sl))(h2:fk δ=some (.str x)):sZ bp (nN (aa fo) (aa fk)) (aa !1) δ S=some (.ok (Jj N x),S):=by
 have lo:oq (.ref sl) S=some (N.map .str):=by simp[oq,iq hn]
 have gi:yq (.ref sl) (.str x) S=some (.int (N.idxOf x:Nat)):=by simp only[yq,lo,TZ,JF,u1,CS N x hx,Ue]
 have a:nN (aa fo) (aa fk) δ S=some (.ok (.int (N.idxOf x:Nat)),S):=by
  simp only[nN,aq,aj (S:=S) h1,aj (S:=S) h2,lo,Vj,U5,gi,iD,Ue]
 exact JJ a rfl rfl
theorem DU(hn:S[sl]?=some (.lst (N.map .str)))(hv:∀x∈N,mw x=true)(n k:Nat)(a:Lf)(ha:∀x∈iP a,x∈N):fZ [.str (dR a),.int n,.int k,.ref sl] S=some (.ok (lO N n k a),S):=by
 let δ:DS:=[.val (.str (dR a)),.val (.int n),.val (.int k),.val (.ref sl)]
 have tl:aw bM (ao 0) (!"lane") δ=some (decide (a.1=0)):=(tD (a:=dR a) rfl).trans (by rw[Lo]);have ti:xh false (aa (ac 0)) (aa (ac 3)) δ S=some (.ok (decide (dR a∈N)),S):=by
  have x:aa (ac 0) δ S=some (.ok (.str (dR a)),S):=rfl;have y:aa (ac 3) δ S=some (.ok (.ref sl),S):=rfl;simp only[xh,aq,x,y,Ef hn,iD,Ue,UR,V4]
 refine(au rfl).trans ((Uh bC (?_:_=some (.rt (lO N n k a),S))).trans rfl);by_cases h0:a.1=0
 . rw[Uq h0]at tl;have:lO N n k a=.tuple [.str "sign", .int n,.int k,.str "lane"]:=Ul h0;rw[this];exact qT tl (bt (Em rfl rfl rfl rfl))
 . rw[Up h0]at tl;refine(qF tl).trans ?_;by_cases h1:a.1<20
   . have ni:dR a∉N:=λz=>by
      have:=hv _ z;rw[CA,Up (by omega)]at this;cases this
     rw[Up ni]at ti;have:lO N n k a=.tuple [.str "num", .int n,.int k,.int (JR a)]:=by unfold lO;rw[UE h0,Ul h1]
     rw[this];exact(af (δ':=δ) (S':=S) ((aY ti).trans rfl)).trans (cX (bt (Em rfl rfl rfl (bX (a:=.str (dR a)) rfl (C4 (MS a (by omega) h1))))))
   . have mi:dR a∈N:=ha _ (by unfold iP;rw[Ul (by omega)];exact Ua);rw[Uq mi]at ti;have:lO N n k a=.tuple [.str "copy", .int n,.int k,Jj N (dR a)]:=by unfold lO;rw[UE h0,UE h1]
     rw[this];exact gE ((eZ ti).trans (cg (pI (ax rfl (ax rfl (ax rfl (ax (DP hn mi rfl rfl) rfl)))) (by simp))))
theorem z8(hn:S[sl]?=some (.lst (N.map .str)))(hv:∀x∈N,mw x=true){n:Nat}{s0 s3 s4 s7:Sl}:∀(as:List Lf)(i:Nat)(acc:List W)(s8 s9:Sl),(∀a∈as,∀x∈iP a,x∈N)->acc.length+as.length<9000->∃t8 t9,bc (cW 2 (aD (ae 8) (aD (ae 9) db))) gQ (nz i (as.map λa=>.str (dR a))) [s0,.val (.int n),.val (.ref sl),s3,s4,.val (.int (N.length+1:Nat)),.own acc,s7,s8,s9] S=some (.nx [s0,.val (.int n),.val (.ref sl),s3,s4,.val (.int (N.length+1:Nat)),.own (acc++oA N n (N.length+1+i) as),s7,t8,t9],S)
 | [],i,acc,s8,s9,_,_=>⟨s8,s9,by simp[nz,bc,oA]⟩
 | a::as,i,acc,s8,s9,ha,hl=>by
  simp only[Ud]at hl;obtain⟨t8,t9,e⟩:=z8 hn hv (n:=n) (s0:=s0) (s3:=s3) (s4:=s4) (s7:=s7) as (i+1) (acc++[lO N n (N.length+1+i) a]) (.val (.int i)) (.val (.str (dR a))) (λx hx=>ha x (TY _ hx)) (by simp;omega);refine⟨t8,t9,(aL (δ2:=[s0,.val (.int n),.val (.ref sl),s3,s4,.val (.int (N.length+1:Nat)),.own acc,s7,.val (.int i),.val (.str (dR a))]) rfl (m7 (ds:=acc) rfl (aB (S1:=S) (ds:=[.str (dR a),.int n,.int (N.length+1+i:Nat),.ref sl]) rfl (DU hn hv n (N.length+1+i) a (ha a Ua))) (by omega))).trans (e.trans ?_)⟩;simp[oA,Vg]
noncomputable def L6(N:List Str)(bg:List (bD×W))(dq:Fin 5->W):Ln->Prop
 | .df _=>False | .fin=>False
 | .call i g as=>oN i∈N/\(∀a∈as,∀x∈iP a,x∈N)/\as.length<100/\aU bg (.inr (bP (f5 g)))=some (dq g)
 | .ret a=>∀x∈iP a,x∈N | .iff a=>∀x∈iP a,x∈N | .tell a=>∀x∈iP a,x∈N
theorem LW{c:DS->Option Bool}{f g:DS->Option i5}{δ:DS}{o:Option i5}(h1:c δ=some true)(h2:f δ=o):cA c f g δ=o:=by
 subst h2;simp only[cA,h1,TZ,U5]
theorem kc:∀l:Ln,decide (cj l=Str.ofString "call")=(match l with | .call _ _ _=>true | _=>false)/\decide (cj l=Str.ofString "tell")=(match l with | .tell _=>true | _=>false):=by
 intro l;cases l <;> exact⟨by kernel_rfl,by kernel_rfl⟩
theorem GX(hn:S[sl]?=some (.lst (N.map .str)))(hv:∀x∈N,mw x=true){bg:Nat}{kvs:List (bD×W)}(hb:S[bg]?=some (.dK kvs)){dq:Fin 5->W}{l:Ln}(n:Nat)(lq:W)(ok:L6 N kvs dq l):dF [bY l,.int n,.ref sl,.ref bg,lq] S=some (.ok (.list (kD N dq lq n l)),S):=by
 let s0:Sl:=.val (bY l);let s1:Sl:=.val (.int n);let s2:Sl:=.val (.ref sl);let s3:Sl:=.val (.ref bg);let s4:Sl:=.val lq;let fv:Sl:=.val (.int (N.length+1:Nat));let δ1:DS:=[s0,s1,s2,s3,s4,fv,.no,.no,.no,.no]
 let δ2:DS:=[s0,s1,s2,s3,s4,fv,.own [vp n],.no,.no,.no]
 have hd:∀δ:DS,ao 0 δ=some (bY l)->0[0]! δ=some (.str (cj l)):=λδ h=>Ep (l:=.str (cj l)::(kA l).map .str) h rfl (BU _ _);have ex:(∀a∈iI l,∀x∈iP a,x∈N)/\(iI l).length<101:=by
  cases l with
  | call i g as=>exact⟨ok.2.1,by have:=ok.2.2.1;simp only[iI];omega⟩
  | tell a=>exact⟨λb hb=>by rw[UB.mp hb];exact ok,by simp[iI]⟩
  | ret a=>exact⟨λb hb=>by rw[UB.mp hb];exact ok,by simp[iI]⟩
  | iff a=>exact⟨λb hb=>by rw[UB.mp hb];exact ok,by simp[iI]⟩
  | df _=>exact ok.elim
  | fin=>exact ok.elim
 let X:List W:=(iI l).map λa=>.str (dR a);let δ4:DS:=[s0,s1,s2,s3,s4,fv,.own [vp n],.val (.list X),.no,.no]
 obtain⟨t8,t9,e⟩:=z8 hn hv (n:=n) (s0:=s0) (s3:=s3) (s4:=s4) (s7:=.val (.list X)) (iI l) 0 [vp n] .no .no ex.1 (by simp;omega);let Y:List W:=[vp n]++oA N n (N.length+1+0) (iI l);let δ5:DS:=[s0,s1,s2,s3,s4,fv,.own Y,.val (.list X),t8,t9]
 let Z:List W:=kD N dq lq n l;have yz:Z=Y++wu N dq lq n l:=by simp[Z,Y,kD]
 have yl:Y.length<200:=by simp[Y,gY];omega
 let δ6:DS:=[s0,s1,s2,s3,s4,fv,.own Z,.val (.list X),t8,t9]
 refine(au rfl).trans ((Uh bC (?_:_=some (.rt (.list Z),S))).trans rfl);have ln:=M3 (fo:=aa (ac 2)) (δ:=[s0,s1,s2,s3,s4,.no,.no,.no,.no,.no]) rfl hn;rw[Uj]at ln;refine(af (δ':=δ1) (S':=S) (aQ (d:=.int (N.length+1:Nat)) (JJ ln rfl rfl) rfl)).trans ?_;refine(af (δ':=δ2) (S':=S) rfl).trans ?_;let δ3:DS:=[s0,s1,s2,s3,s4,fv,.own [vp n],.val (.list ((kA l).map .str)),.no,.no]
 refine(af (δ':=δ3) (S':=S) (aA (aR (d:=.list ((kA l).map .str)) (by show some (W.list (dS (.str (cj l)::(kA l).map W.str) (some 1) none))=_;rw[IJ]) rfl))).trans ?_;have c3:=tD (b:=Str.ofString "call") (hd δ3 rfl);rw[(kc l).1]at c3;have g4:ag (cA (aw bM 0[0]! !"call")
  (bo (aP (fQ (ao 0) (b9 !3) b8)) (ae 7))
  ay) δ3 S=some (.nx δ4,S):=by
  cases l with
  | call i g as=>exact aA (bq c3 (aR (d:=.list X) (by show some (W.list (dS ((fH (.call i g as)).map W.str) (some ((3:Nat):Int)) none))=_;rw[Az];simp[fH,kA,X,iI]) rfl))
  | tell a=>exact aA (bq c3 rfl)
  | ret a=>exact aA (bq c3 rfl)
  | iff a=>exact aA (bq c3 rfl)
  | df _=>exact ok.elim
  | fin=>exact ok.elim
 refine(af g4).trans ?_;have en:jS #[ac 7] δ4=some (nz 0 X):=by
  have c2:#[ac 7] δ4=some [.list X]:=rfl;simp only[jS,c2,TZ,sw]
 refine(af ((cc (S1:=S) (ds:=nz 0 X) (aj en)).trans e)).trans ?_;have c5:=tD (b:=Str.ofString "call") (hd δ5 rfl);rw[(kc l).1]at c5;have r5:=tD (b:=Str.ofString "return") (hd δ5 rfl);have t5:=tD (b:=Str.ofString "tell") (hd δ5 rfl);have r6:=tD (b:=Str.ofString "return") (hd δ6 rfl);have t6:=tD (b:=Str.ofString "tell") (hd δ6 rfl);rw[(kq l).2.2.2.1]at r5 r6;rw[(kc l).2]at t5 t6;cases l with
 | call i g as=>
  have xl:cp bw (ao 7) δ5=some (.int as.length):=bX (a:=.list X) rfl (by show some (W.int (X.length:Int))=_;simp[X,iI]);have w1:0[1]! δ5=some (.str (oN i)):=Ep (l:=.str (cj (.call i g as))::(kA (.call i g as)).map .str) rfl rfl (SQ _ _ _);have w2:0[2]! δ5=some (.str (bP (f5 g))):=Ep (l:=.str (cj (.call i g as))::(kA (.call i g as)).map .str) rfl rfl (SL _ _ _ _);have bgv:gB (aa (ac 3)) (aa 0[2]!) δ5 S=some (.ok (dq g),S):=zf (S1:=S) (S2:=S) rfl (aj w2) hb ok.2.2.2;refine(af (δ':=δ6) (S':=S) ((eZ (aj c5)).trans ((m7 (ds:=Y) rfl (pI (ax rfl (ax rfl (ax (DP hn ok.1 rfl w1) (ax rfl (ax (aj xl) (ax bgv rfl)))))) (by simp)) (by omega)).trans ?_))).trans ?_
  . rw[show δ6=[s0,s1,s2,s3,s4,fv,.own Z,.val (.list X),t8,t9] from rfl,yz];rfl
  . exact(qF r6).trans ((qF t6).trans rfl)
 | tell a=>
  refine(af (δ':=δ5) (S':=S) ((aY (aj c5)).trans rfl)).trans ((qF r5).trans ?_);refine(af (δ':=δ6) (S':=S) (aA (LW t5 ((PN (ds:=Y) rfl (Nv rfl rfl rfl) (by omega)).trans ?_)))).trans rfl;rw[show δ6=[s0,s1,s2,s3,s4,fv,.own Z,.val (.list X),t8,t9] from rfl,yz];rfl
 | ret a=>
  refine(af (δ':=δ5) (S':=S) ((aY (aj c5)).trans rfl)).trans ?_;let δr:DS:=[s0,s1,s2,s3,s4,fv,.own (Y++[.tuple [.str "copy", .int n,.int 0,vh N]]),.val (.list X),t8,t9]
  refine(af (δ':=δ6) (S':=S) (aA (LW r5 (bb (δ1:=δr) (PN (ds:=Y) rfl (Em rfl rfl rfl rfl) (by omega)) ((PN (ds:=Y++[.tuple [.str "copy", .int n,.int 0,vh N]]) rfl (Nv rfl rfl rfl) (by simp;omega)).trans ?_))))).trans ((qF t6).trans rfl);rw[show δ6=[s0,s1,s2,s3,s4,fv,.own Z,.val (.list X),t8,t9] from rfl,yz];simp[δr,wu]
 | iff a=>
  have zy:Z=Y:=by rw[yz];simp[wu]
  refine(af (δ':=δ5) (S':=S) ((aY (aj c5)).trans rfl)).trans ((qF r5).trans ((qF t5).trans ?_));rw[zy];rfl
 | df _=>exact ok.elim
 | fin=>exact ok.elim
end
theorem zX:∀(a b:List W)(i:Nat),nz i (a++b)=nz i a++nz (i+a.length) b
 | [],b,i=>rfl
 | x::a,b,i=>by simp[nz,zX a b (i+1),Vg,Wd 1]
noncomputable abbrev Jg:W->DS->Option DS:=cW 2 (aD (ae 8) (aD (ae 9) db))
section
variable{N:List Str}{kvs:List (bD×W)}{dq:Fin 5->W}{sl bg w:Nat}{s0 s3':Sl}{bgn ln:Nat}{lq:W}
theorem wF{S:ai}(hn:S[sl]?=some (.lst (N.map .str)))(hv:∀x∈N,mw x=true)(hb:S[bg]?=some (.dK kvs)){l:Ln}{i:Nat}(ok:L6 N kvs dq l){acc:List W}{s7 s10 s11 s12:Sl}(ha:acc.length+(kD N dq lq (ln+1+i) l).length<=9000)(hf:decide (cj l=Str.ofString "end")=false):
 bh (aa (aw bM 9[0]! !"end"))
  (ak (bH (AC (aa (ac 7))) (cW 3 (aD (ae 10) (aD (ae 11) (aD (ae 12) db)))))
 (ag (qC 6 (ac 10) (bJ #[!"split",ac 11,ac 12,aF bp (ao 1) (cp bw (ao 6))]))))
  (qX 6 (aM dF (aa #[ac 9,aF bp (aF bp (ao 2) !1) (ac 8),ac 4,ac 3,ac 5]))) [s0,.val (.int bgn),.val (.int ln),.val (.ref bg),.val (.ref sl),.val lq,.own acc,s7,.val (.int i),.val (bY l),s10,s11,s12] S
  = some (.nx [s0,.val (.int bgn),.val (.int ln),.val (.ref bg),.val (.ref sl),.val lq,.own (acc++kD N dq lq (ln+1+i) l),s7,.val (.int i),.val (bY l),s10,s11,s12],S):=by
 let δ:DS:=[s0,.val (.int bgn),.val (.int ln),.val (.ref bg),.val (.ref sl),.val lq,.own acc,s7,.val (.int i),.val (bY l),s10,s11,s12]
 have hd:9[0]! δ=some (.str (cj l)):=Ep (l:=.str (cj l)::(kA l).map .str) rfl rfl (BU _ _);refine(aY (sF hd hf)).trans ?_;exact Ii (ds:=acc) rfl (aB (S1:=S) (ds:=[bY l,.int (ln+1+i:Nat),.ref sl,.ref bg,lq]) rfl (GX hn hv hb (ln+1+i) lq ok)) ha
theorem vP{S:ai}(hn:S[sl]?=some (.lst (N.map .str)))(hv:∀x∈N,mw x=true)(hb:S[bg]?=some (.dK kvs)){l:Ln}{i:Nat}(ok:L6 N kvs dq l){acc:List W}{s7 s10 s11 s12:Sl}(ha:acc.length+(kD N dq lq (ln+1+i) l).length<=9000)(hf:decide (cj l=Str.ofString "end")=false)(hi:decide (cj l=Str.ofString "if")=false):
 d7 [s0,.val (.int bgn),.val (.int ln),.val (.ref bg),.val (.ref sl),.val lq,.own acc,s7,.val (.int i),.val (bY l),s10,s11,s12] S=some (.nx [s0,.val (.int bgn),.val (.int ln),.val (.ref bg),.val (.ref sl),.val lq,.own (acc++kD N dq lq (ln+1+i) l),s7,.val (.int i),.val (bY l),s10,s11,s12],S):=by
 refine(af (wF hn hv hb ok ha hf)).trans ?_;refine(aY (sF (Ep (l:=.str (cj l)::(kA l).map .str) rfl rfl (BU _ _)) hi)).trans rfl
noncomputable def Qb(N:List Str)(a n:Nat):W:=.tuple [.int a,.int n,vh N]
theorem NA{S:ai}(hn:S[sl]?=some (.lst (N.map .str)))(hv:∀x∈N,mw x=true)(hb:S[bg]?=some (.dK kvs)){a:Lf}{i:Nat}(ok:∀x∈iP a,x∈N){acc wt:List W}{s10 s11 s12:Sl}(ha:acc.length<8000)(hw:S[w]?=some (.lst wt))(hwl:wt.length<9000):
 d7 [s0,.val (.int bgn),.val (.int ln),.val (.ref bg),.val (.ref sl),.val lq,.own acc,.val (.ref w),.val (.int i),.val (bY (.iff a)),s10,s11,s12] S=some (.nx [s0,.val (.int bgn),.val (.int ln),.val (.ref bg),.val (.ref sl),.val lq,.own (acc++[vp (ln+1+i),lO N (ln+1+i) (N.length+1) a]++[.tuple [.str "split", .int 0,.int 0,.int 0]]),.val (.ref w),.val (.int i),.val (bY (.iff a)),s10,s11,s12],S.set w (.lst (wt++[Qb N (acc.length+2) (ln+1+i)]))):=by
 have st:kD N (λ_=>W.none) lq (ln+1+i) (.iff a)=[vp (ln+1+i),lO N (ln+1+i) (N.length+1) a]:=by simp[kD,iI,oA,wu]
 have e:=wF (s0:=s0) (bgn:=bgn) (ln:=ln) (lq:=lq) (dq:=λ_=>W.none) (s7:=.val (.ref w)) (s10:=s10) (s11:=s11) (s12:=s12) hn hv hb (l:=.iff a) (i:=i) ok (acc:=acc) (by rw[st];simp;omega) (by kernel_rfl);rw[st]at e;refine(af e).trans ?_;let Y:List W:=acc++[vp (ln+1+i),lO N (ln+1+i) (N.length+1) a];have yl:Y.length=acc.length+2:=by simp[Y]
 let δ:DS:=[s0,.val (.int bgn),.val (.int ln),.val (.ref bg),.val (.ref sl),.val lq,.own Y,.val (.ref w),.val (.int i),.val (bY (.iff a)),s10,s11,s12]
 have hd:9[0]! δ=some (.str "if"):=Ep (l:=.str "if" :: (kA (.iff a)).map .str) rfl rfl (BU _ _);refine(eZ (sT hd)).trans ?_;have sL:=M3 (fo:=aa (ac 4)) (δ:=δ) rfl hn;rw[Uj]at sL;have l6:cp bw (ao 6) δ=some (.int (acc.length+2:Nat)):=bX (a:=.list Y) rfl (by show some (W.int (Y.length:Int))=_;rw[yl]);refine(af (δ':=δ) (S':=S.set w (.lst (wt++[Qb N (acc.length+2) (ln+1+i)]))) (GV (S1:=S) (S2:=S) rfl hw (pI (ax (aj l6) (ax rfl (ax (JJ sL rfl rfl) rfl))) (by simp)) hw hwl)).trans ?_;exact aA (PN (ds:=Y) rfl (Em rfl rfl rfl rfl) (by rw[yl];omega))
theorem Mz{S:ai}{i n a:Nat}{acc wt:List W}{s10 s11 s12:Sl}(hw:S[w]?=some (.lst (wt++[Qb N a n])))(ha:a<acc.length):
 d7 [s0,.val (.int bgn),.val (.int ln),.val (.ref bg),.val (.ref sl),.val lq,.own acc,.val (.ref w),.val (.int i),.val (bY .fin),s10,s11,s12] S=some (.nx [s0,.val (.int bgn),.val (.int ln),.val (.ref bg),.val (.ref sl),.val lq,.own (acc.set a (BK N n (.int (bgn+acc.length:Nat)))),.val (.ref w),.val (.int i),.val (bY .fin),.val (.int a),.val (.int n),.val (vh N)],S.set w (.lst wt)):=by
 let δ:DS:=[s0,.val (.int bgn),.val (.int ln),.val (.ref bg),.val (.ref sl),.val lq,.own acc,.val (.ref w),.val (.int i),.val (bY .fin),s10,s11,s12]
 let δ1:DS:=[s0,.val (.int bgn),.val (.int ln),.val (.ref bg),.val (.ref sl),.val lq,.own acc,.val (.ref w),.val (.int i),.val (bY .fin),.val (.int a),.val (.int n),.val (vh N)]
 let δ2:DS:=[s0,.val (.int bgn),.val (.int ln),.val (.ref bg),.val (.ref sl),.val lq,.own (acc.set a (BK N n (.int (bgn+acc.length:Nat)))),.val (.ref w),.val (.int i),.val (bY .fin),.val (.int a),.val (.int n),.val (vh N)]
 have hd:∀δ:DS,ao 9 δ=some (bY .fin)->9[0]! δ=some (.str "end"):=λδ h=>Ep (l:=.str "end" :: (kA .fin).map .str) h rfl (BU _ _);refine(af (δ':=δ2) (S':=S.set w (.lst wt)) ((eZ (sT (hd δ rfl))).trans ?_)).trans ((aY (sF (hd δ2 rfl) (by decide +kernel))).trans rfl);refine(af (δ':=δ1) (S':=S.set w (.lst wt)) (aQ (Ox (S1:=S) rfl hw) rfl)).trans (aA ?_);have l6:cp bw (ao 6) δ1=some (.int acc.length):=bX (a:=.list acc) rfl rfl;have v:bJ #[!"split",ac 11,ac 12,aF bp (ao 1) (cp bw (ao 6))] δ1=some (BK N n (.int (bgn+acc.length:Nat))):=Em rfl rfl rfl (dO rfl l6 rfl);have o:gR 6 δ1=some acc:=rfl;have x:ac 10 δ1=some (.int a):=rfl;have ix:xS acc.length (a:Int)=some a:=by rw[MD (by omega) (by omega)];simp
 simp only[qC,v,o,x,TZ,ix,Ue];rfl
end
section
variable{N:List Str}{kvs:List (bD×W)}{dq:Fin 5->W}{sl bg w:Nat}{s0:Sl}{bgn ln:Nat}{lq:W}
theorem kr(hv:∀x∈N,mw x=true)(w1:w≠sl)(w2:w≠bg):∀(b:Bd)(i:Nat)(acc wt:List W)(S:ai)(s8 s9 s10 s11 s12:Sl),S[sl]?=some (.lst (N.map .str))->S[bg]?=some (.dK kvs)->S[w]?=some (.lst wt)->(∀l∈av b,l=.fin∨L6 N kvs dq l)->acc.length+eG b<8000->wt.length+i6 b<9000->
 ∃t8 t9 t10 t11 t12,∀k,bc Jg d7 (nz i ((av b).map bY)++k) [s0,.val (.int bgn),.val (.int ln),.val (.ref bg),.val (.ref sl),.val lq,.own acc,.val (.ref w),s8,s9,s10,s11,s12] S=bc Jg d7 k [s0,.val (.int bgn),.val (.int ln),.val (.ref bg),.val (.ref sl),.val lq,.own (acc++d8 N qP dq lq (bgn+acc.length) (ln+1+i) b),.val (.ref w),t8,t9,t10,t11,t12] S
 | .nil,i,acc,wt,S,s8,s9,s10,s11,s12,hn,hb,hw,ok,ha,hd=>⟨s8,s9,s10,s11,s12,λk=>by simp[av,nz,d8]⟩
 | .tell a r,i,acc,wt,S,s8,s9,s10,s11,s12,hn,hb,hw,ok,ha,hd=>by
  simp only[eG]at ha;have ok1:=(ok (.tell a) Ua).resolve_left nofun
  have sz3:(kD N dq lq (ln+1+i) (.tell a)).length=3:=by simp[kD,iI,oA,wu]
  obtain⟨t8,t9,t10,t11,t12,e⟩:=kr hv w1 w2 r (i+1) (acc++kD N dq lq (ln+1+i) (.tell a)) wt S (.val (.int i)) (.val (bY (.tell a))) s10 s11 s12 hn hb hw (λl hl=>ok l (TY _ hl)) (by rw[Ur,sz3];omega) hd;refine⟨t8,t9,t10,t11,t12,λk=>(aL rfl (vP hn hv hb (l:=.tell a) ok1 (by rw[sz3];omega) (by kernel_rfl) (by kernel_rfl))).trans ((e k).trans ?_)⟩;rw[Ur,sz3];simp[d8,Vg]
 | .ret a r,i,acc,wt,S,s8,s9,s10,s11,s12,hn,hb,hw,ok,ha,hd=>by
  simp only[eG]at ha;have ok1:=(ok (.ret a) Ua).resolve_left nofun
  have sz3:(kD N dq lq (ln+1+i) (.ret a)).length=4:=by simp[kD,iI,oA,wu]
  obtain⟨t8,t9,t10,t11,t12,e⟩:=kr hv w1 w2 r (i+1) (acc++kD N dq lq (ln+1+i) (.ret a)) wt S (.val (.int i)) (.val (bY (.ret a))) s10 s11 s12 hn hb hw (λl hl=>ok l (TY _ hl)) (by rw[Ur,sz3];omega) hd;refine⟨t8,t9,t10,t11,t12,λk=>(aL rfl (vP hn hv hb (l:=.ret a) ok1 (by rw[sz3];omega) (by kernel_rfl) (by kernel_rfl))).trans ((e k).trans ?_)⟩;rw[Ur,sz3];simp[d8,Vg]
 | .call c g as r,i,acc,wt,S,s8,s9,s10,s11,s12,hn,hb,hw,ok,ha,hd=>by
  simp only[eG]at ha;have ok1:=(ok (.call c g as) Ua).resolve_left nofun
  have sz3:(kD N dq lq (ln+1+i) (.call c g as)).length=2+as.length:=by simp[kD,iI,gY,wu];omega
  obtain⟨t8,t9,t10,t11,t12,e⟩:=kr hv w1 w2 r (i+1) (acc++kD N dq lq (ln+1+i) (.call c g as)) wt S (.val (.int i)) (.val (bY (.call c g as))) s10 s11 s12 hn hb hw (λl hl=>ok l (TY _ hl)) (by rw[Ur,sz3];omega) hd;refine⟨t8,t9,t10,t11,t12,λk=>(aL rfl (vP hn hv hb (l:=.call c g as) ok1 (by rw[sz3];omega) (by kernel_rfl) (by kernel_rfl))).trans ((e k).trans ?_)⟩;rw[Ur,sz3];simp[d8,Vg]
 | .iff a b r,i,acc,wt,S,s8,s9,s10,s11,s12,hn,hb,hw,ok,ha,hd=>by
  simp only[eG]at ha;simp only[i6]at hd;have ok1:=(ok (.iff a) Ua).resolve_left nofun
  have okb:∀l∈av b,l=.fin∨L6 N kvs dq l:=λl hl=>ok l (TY _ (UM _ hl));have okr:∀l∈av r,l=.fin∨L6 N kvs dq l:=λl hl=>ok l (TY _ (Uo _ (TY _ hl)));let n:=ln+1+i;let eE:W:=.tuple [.str "split", .int 0,.int 0,.int 0];let A2:List W:=acc++[vp n,lO N n (N.length+1) a]++[eE];have a2l:A2.length=acc.length+3:=by simp[A2]
  let S1:ai:=S.set w (.lst (wt++[Qb N (acc.length+2) n]));have e1:=NA (s0:=s0) (bgn:=bgn) (ln:=ln) (lq:=lq) (s10:=s10) (s11:=s11) (s12:=s12) hn hv hb (a:=a) (i:=i) ok1 (acc:=acc) (by omega) hw (by omega);obtain⟨u8,u9,u10,u11,u12,e2⟩:=kr hv w1 w2 b (i+1) A2 (wt++[Qb N (acc.length+2) n]) S1 (.val (.int i)) (.val (bY (.iff a))) s10 s11 s12 ((gO (VB w1)).trans hn) ((gO (VB w2)).trans hb) (gN hw) okb (by omega) (by simp;omega);rw[a2l]at e2;let A3:List W:=A2++d8 N qP dq lq (bgn+(acc.length+3)) (ln+1+(i+1)) b;have a3l:A3.length=acc.length+3+eG b:=by simp only[A3,Ur,eA,a2l]
  have e3:=Mz (s0:=s0) (bgn:=bgn) (ln:=ln) (bg:=bg) (sl:=sl) (lq:=lq) (w:=w) (i:=i+1+(av b).length) (s10:=u10) (s11:=u11) (s12:=u12) (S:=S1) (acc:=A3) (wt:=wt) (N:=N) (a:=acc.length+2) (n:=n) (gN hw) (by omega);rw[show S1.set w (.lst wt)=S from(wQ ..).trans (fK hw),a3l]at e3;let A4:List W:=A3.set (acc.length+2) (BK N n (.int (bgn+(acc.length+3+eG b):Nat)));have a4l:A4.length=acc.length+3+eG b:=by simp only[A4,U1,a3l]
  have a4:A4=acc++([vp n,lO N n (N.length+1) a,BK N n (.int (bgn+(acc.length+3+eG b):Nat))]++d8 N qP dq lq (bgn+(acc.length+3)) (ln+1+(i+1)) b):=by
   have q:A3=(acc++[vp n,lO N n (N.length+1) a])++(eE::d8 N qP dq lq (bgn+(acc.length+3)) (ln+1+(i+1)) b):=by simp[A3,A2]
   show A3.set _ _=_;rw[q,List.set_append_right _ _ (by simp)];simp
  obtain⟨t8,t9,t10,t11,t12,e4⟩:=kr hv w1 w2 r (i+1+(av b).length+1) A4 wt S (.val (.int (i+1+(av b).length:Nat))) (.val (bY .fin)) (.val (.int (acc.length+2:Nat))) (.val (.int n)) (.val (vh N)) hn hb hw okr (by omega) (by omega);refine⟨t8,t9,t10,t11,t12,λk=>?_⟩;have sp:nz i ((av (.iff a b r)).map bY)++k=.tuple [.int i,bY (.iff a)]::(nz (i+1) ((av b).map bY)++(.tuple [.int (i+1+(av b).length:Nat),bY .fin]::(nz (i+1+(av b).length+1) ((av r).map bY)++k))):=by
   simp only[av,Uk,UX,nz,zX,Uj,U7,Va]
  rw[sp];refine(aL rfl e1).trans ((e2 _).trans ((aL rfl e3).trans ((e4 k).trans ?_)));rw[a4l,a4];have n1:bgn+(acc.length+3+eG b)=bgn+acc.length+3+eG b:=by omega
  have n2:bgn+(acc.length+3)=bgn+acc.length+3:=by omega
  have n3:ln+1+(i+1+(av b).length+1)=ln+1+i+(av b).length+2:=by omega
  have n4:ln+1+(i+1)=ln+1+i+1:=by omega
  rw[n1,n2,n3,n4];simp only[d8,n,qP,Va,U7,UL]
end
noncomputable def va:Ln->Nat
 | .df _=>0 | .fin=>0 | .call _ _ as=>2+as.length | .ret _=>4 | .iff _=>3 | .tell _=>3
theorem BC(l:Ln):c6 [bY l]=some (.int (va l)):=by
 have hd:∀δ:DS,ao 0 δ=some (bY l)->0[0]! δ=some (.str (cj l)):=λδ h=>Ep (l:=.str (cj l)::(kA l).map .str) h rfl (BU _ _);let δ:DS:=[.val (bY l)]
 have h1:=tD (b:=Str.ofString "def") (hd δ rfl);have h2:=tD (b:=Str.ofString "end") (hd δ rfl);have h3:=tD (b:=Str.ofString "call") (hd δ rfl);have h4:=tD (b:=Str.ofString "return") (hd δ rfl);rw[(kq l).1]at h1;rw[(kq l).2.2.1]at h2;rw[(kc l).1]at h3;rw[(kq l).2.2.2.1]at h4;have o:FE (aw bM 0[0]! !"def") (aw bM 0[0]! !"end") δ=some ((match l with | .df _=>true | _=>false)||(match l with | .fin=>true | _=>false)):=by
  simp only[FE,h1,h2,TZ];cases l <;> rfl
 refine cw rfl ?_;cases l with
 | df f=>exact g9 (LW o rfl)
 | fin=>exact g9 (LW o rfl)
 | call i g as=>
  refine bb (bq (b:=false) o rfl) (g9 (LW h3 (bt (dO (a:=.int ((fH (.call i g as)).length:Nat)) (bX (a:=bY (.call i g as)) rfl ?_) rfl ?_))))
  . show some (W.int (((fH (.call i g as)).map W.str).length:Int))=_;rw[Uj]
  . show some (W.int (((fH (.call i g as)).length:Int)-1))=_;congr 2;simp[fH,kA,va];omega
 | ret a=>exact bb (bq (b:=false) o rfl) (bb (bq (b:=false) h3 rfl) (g9 (LW h4 rfl)))
 | iff a=>exact bb (bq (b:=false) o rfl) (bb (bq (b:=false) h3 rfl) (bb (bq (b:=false) h4 rfl) rfl))
 | tell a=>exact bb (bq (b:=false) o rfl) (bb (bq (b:=false) h3 rfl) (bb (bq (b:=false) h4 rfl) rfl))
theorem F2(δ:DS)(hl:δ=[.no]):∀Ls:List Ln,ba (ae 0) cb (bz c6 #[ac 0]) δ (Ls.map bY)=some ((Ls.map va).map λn=>.int (n:Nat))
 | []=>rfl
 | l::Ls=>by
  subst hl;have ih:=F2 [.no] rfl Ls;have g:ae 0 (bY l) [.no]=some [.val (bY l)]:=rfl;have v:bz c6 #[ac 0] [.val (bY l)]=some (.int (va l)):=De (ds:=[bY l]) rfl (BC l);have y:cb [.val (bY l)]=some true:=rfl;simp only[Uk,ba,g,v,y,TZ,ih,U5,Ue]
theorem nY:∀b:Bd,((av b).map va).sum=eG b
 | .nil=>rfl
 | .tell a r=>by simp[av,va,eG,nY r]
 | .ret a r=>by simp[av,va,eG,nY r]
 | .call i g as r=>by simp[av,va,eG,nY r]
 | .iff a b r=>by simp[av,va,eG,nY b,nY r];omega
theorem xX(d:Df):((fU d).map va).sum=eG d.2:=by simp[fU,va,nY]
theorem wS:∀ns:List Nat,xt (ns.map λn=>.int (n:Nat))=some (ns.map λn=>((n:Nat):Int))
 | []=>rfl
 | n::ns=>by
  show((some ((n:Nat):Int)).bind λi=>(xt (ns.map λn=>W.int (n:Nat))).map (i::·))=_;rw[wS ns];rfl
theorem xa:∀ns:List Nat,(ns.map λn=>((n:Nat):Int)).sum=((ns.sum:Nat):Int)
 | []=>rfl
 | n::ns=>by simp[xa ns]
theorem vK{ns:List Nat}(h:∀n∈ns,n<100000)(hl:ns.length<9000):vd (.list (ns.map λn=>.int (n:Nat)))=some (.int (ns.sum:Nat)):=by
 have f:DV (ns.map λn=>((n:Nat):Int))=true:=by
  simp only[DV,Uz,UI,UC];refine⟨λn hn=>?_,by simp;omega⟩;obtain⟨m,hm,rfl⟩:=Vf.mp hn;have:=h m hm;simp;omega
 simp only[vd,gX,TZ,wS,f,U5,xa]
theorem HF(x z:W)(ys:List W):dS (x::(ys++[z])) (some 1) (some (-1))=ys:=by
 have n1:HT.sIx (x::(ys++[z])).length 0 (some 1)=1:=by
  show HT.sIx _ 0 (some ((1:Nat):Int))=1;rw[HT.sIx_nat];simp
 have n2:HT.sIx (x::(ys++[z])).length (x::(ys++[z])).length (some (-1))=ys.length+1:=by
  have e:∀n:Nat,HT.sIx n n (some (-1))=((-1:Int)+(n:Int)).toNat:=λn=>rfl;rw[e];simp;omega
 unfold dS;rw[n1,n2];simp
theorem Fu:∀(l acc:List Str)(x:Str),x∈dd acc l->x∈acc∨x∈l
 | [],acc,x,h=>.inl h
 | y::l,acc,x,h=>by
  rcases Fu l _ x h with h | h
  . split at h
    . exact .inl h
    . rcases Us.mp h with h | h
      . exact .inl h
      . exact .inr (by rw[UB.mp h];exact Ua)
  . exact .inr (TY _ h)
theorem PQ(d:Df):∀x∈yH d,mw x=true:=λx hx=>by
 have h:=(Fu _ _ x hx).resolve_left U6;rw[<-Dl]at h;obtain⟨l,_,hl⟩:=V1.mp h;rw[<-y1]at hl;exact(Vy.mp hl).2
theorem x9{b:Bd}{l:Ln}(h:l∈av b){x:Str}(hx:x∈wg l)(f:Fin 6):x∈yH (f,b):=xQ _ _ x (.inr (Us.mpr (.inr (by rw[<-lK];exact V1.mpr ⟨l,h,hx⟩))))
theorem Nf{NL:List (Fin 6)}{f:Fin 6}{b:Bd}{kvs:List (bD×W)}{dq:Fin 5->W}(hq:∀g:Fin 5,f5 g∈NL->aU kvs (.inr (bP (f5 g)))=some (dq g)){l:Ln}(h:l∈av b)(ok:l=.fin∨okF NL f l):l=.fin∨L6 (yH (f,b)) kvs dq l:=by
 rcases ok with rfl | ok
 . exact .inl rfl
 . cases l with
   | df _=>exact ok.elim
   | fin=>exact .inl rfl
   | tell a=>exact .inr λx hx=>x9 h hx f
   | ret a=>exact .inr λx hx=>x9 h hx f
   | iff a=>exact .inr λx hx=>x9 h hx f
   | call i g as=>exact .inr ⟨x9 h Ua f,λa ha x hx=>x9 h (TY _ (V1.mpr ⟨a,ha,hx⟩)) f,by have:=(jw (f5 g)).1;have:=ok.2;omega,hq g ok.1⟩
structure GL(NL:List (Fin 6))(d:Df):Prop where
 h:i6 d.2<=5
 l:(av d.2).length<=68
 k:∀l∈av d.2,l=.fin∨okF NL d.1 l
theorem rC{NL:List (Fin 6)}{d:Df}(g:GL NL d):∀l∈fU d,(B5 l).length<=10/\va l<=5:=λl hl=>by
 rcases Ub.mp hl with rfl | hl
 . have:=jw d.1;exact⟨by show(jq d.1).length<=10;omega,by simp[va]⟩
 rcases Us.mp hl with hl | hl
 . rcases g.k l hl with rfl | ok
   . exact⟨by simp[B5,kA],by simp[va]⟩
   . cases l with
     | df _=>exact ok.elim
     | call i g as=>
      have a3:=(jw (f5 g)).1;have e:=ok.2;exact⟨by simp[B5,kA];omega,by simp only[va];omega⟩
     | _=>exact⟨by simp[B5,kA],by simp[va]⟩
 . rw[UB.mp hl];exact⟨by simp[B5,kA],by simp[va]⟩
theorem Ch:∀(ls:List Ln),(∀l∈ls,va l<=5)->(ls.map va).sum<=5*ls.length
 | [],_=>by simp
 | l::ls,h=>by
  have:=Ch ls λx hx=>h x (TY _ hx);have:=h l Ua;simp;omega
theorem y7{NL:List (Fin 6)}{d:Df}(g:GL NL d):eG d.2<=350:=by
 have:=Ch (fU d) λl hl=>(rC g l hl).2;rw[xX,gv]at this;have:=g.l;omega
theorem Nc{NL:List (Fin 6)}{d:Df}(g:GL NL d)(i:Nat){δ:DS}(hi:aI (ao i) δ=some ((fU d).map bY))(hl:c9 [none] δ=[.no]):cp vd (aP (cf [none] (aI (ao i)) (ae 0) cb (bz c6 #[ac 0]))) δ=some (.int (eG d.2)):=by
 have l:=gv d;have gl:=g.l;refine bX (CT hi (by rw[Uj];omega) (F2 _ hl _)) ((vK (λn hn=>?_) (by rw[Uj];omega)).trans (by rw[xX]));obtain⟨x,hx,rfl⟩:=Vf.mp hn;have:=(rC g x hx).2;omega
theorem Gd{NL:List (Fin 6)}{d:Df}(g:GL NL d){S:ai}{bg bgn ln:Nat}{kvs:List (bD×W)}{dq:Fin 5->W}(hb:S[bg]?=some (.dK kvs))(hq:∀g:Fin 5,f5 g∈NL->aU kvs (.inr (bP (f5 g)))=some (dq g)):∃R,lS [.list ((fU d).map bY),.int bgn,.int ln,.ref bg] S=some (.ok (.list (Ct qP dq (λ_=>.int (bgn+eG d.2:Nat)) bgn (ln,d))),S++R):=by
 obtain⟨f,b⟩:=d;have gl:(av b).length<=68:=g.l;have gs:eG b<=350:=y7 g;let Ws:List W:=(fU (f,b)).map bY;let N:=yH (f,b);let S1:ai:=S++[.lst (N.map .str)];let S2:ai:=S1++[.lst []];have l1:S1.length=S.length+1:=by simp[S1]
 have lb:=(oG hb).1;have n2:S2[S.length]?=some (.lst (N.map .str)):=cq (eg S _);have b2:S2[bg]?=some (.dK kvs):=cq (cq hb);have w2:S2[S.length+1]?=some (.lst []):=by rw[<-l1];exact eg S1 _
 have dl:(fU (f,b)).length=(av b).length+2:=gv _;have e1:=Bp (d:=(f,b)) (λl hl=>(rC g l hl).1) (by omega) S;let lq:W:=.int (bgn+eG b:Nat);obtain⟨t8,t9,t10,t11,t12,e⟩:=kr (s0:=.val (.list Ws)) (bgn:=bgn) (ln:=ln) (lq:=lq) (dq:=dq) (N:=N) (kvs:=kvs) (sl:=S.length) (bg:=bg) (w:=S.length+1) (PQ _) (by omega) (by omega) b 0 [] [] S2 .no .no .no .no .no n2 b2 w2 (λl hl=>Nf hq hl (g.k l hl)) (by simp;omega) (by have:=g.h;simp only[VA];dsimp only at this;omega);have e':=e [];rw[UK,UL,VA,VI,VI]at e';let Y:List W:=d8 N qP dq lq bgn (ln+1) b;refine⟨[.lst (N.map .str)]++[.lst []],?_⟩;have eS:S++([.lst (N.map .str)]++[.lst []])=S2:=by simp[S2,S1]
 rw[eS];let X:List W:=Ct qP dq (λ_=>lq) bgn (ln,(f,b));let s0:Sl:=.val (.list Ws);let s1:Sl:=.val (.int bgn);let s2:Sl:=.val (.int ln);let s3:Sl:=.val (.ref bg);let s4:Sl:=.val (.ref S.length);refine(au rfl).trans ((Uh bC (?_:_=some (.rt (.list X),S2))).trans rfl);refine(af (δ':=[s0,s1,s2,s3,s4,.no,.no,.no,.no,.no,.no,.no,.no]) (S':=S1) (aQ (aB (S1:=S) (ds:=[.list Ws]) rfl e1) rfl)).trans ?_;refine(af (δ':=[s0,s1,s2,s3,s4,.val lq,.no,.no,.no,.no,.no,.no,.no]) (S':=S1) (aA (aR (d:=lq) (dO (a:=.int bgn) rfl (Nc g 0 (δ:=[s0,s1,s2,s3,s4,.no,.no,.no,.no,.no,.no,.no,.no]) rfl rfl) rfl) rfl))).trans ?_;refine(af (δ':=[s0,s1,s2,s3,s4,.val lq,.own [],.no,.no,.no,.no,.no,.no]) (S':=S1) rfl).trans ?_;let δ:DS:=[s0,s1,s2,s3,s4,.val lq,.own [],.val (.ref (S.length+1)),.no,.no,.no,.no,.no]
 refine(af (δ':=δ) (S':=S2) (aQ (d:=.ref (S.length+1)) (by rw[<-l1];simp[kT,aq,aa,ah,S2]) rfl)).trans ?_;have en:jS #[aP (fQ (ao 0) (b9 !1) (b9 (FJ pJ !1)))] δ=some (nz 0 ((av b).map bY)):=by
  have:aP (fQ (ao 0) (b9 !1) (b9 (FJ pJ !1))) δ=some (.list ((av b).map bY)):=by
   show some (W.list (dS Ws (some 1) (some (-1))))=_;have:Ws=bY (.df f)::((av b).map bY++[bY .fin]):=by simp[Ws,fU]
   rw[this,HF]
  have c2:#[aP (fQ (ao 0) (b9 !1) (b9 (FJ pJ !1)))] δ=some [.list ((av b).map bY)]:=gT this rfl;simp only[jS,c2,TZ,sw]
 refine(af ((cc (S1:=S2) (ds:=nz 0 ((av b).map bY)) (aj en)).trans (e'.trans rfl))).trans ?_;let δ2:DS:=[s0,s1,s2,s3,s4,.val lq,.own Y,.val (.ref (S.length+1)),t8,t9,t10,t11,t12]
 have yl:Y.length<=350:=by rw[eA];exact gs
 have z:Y.length+[Of (ln+(av b).length+1)].length<=sizeLine:=sz _ (by simp;omega);have Sb:cp bw (ao 0) δ2=some (.int ((av b).length+2:Nat)):=bX (a:=.list Ws) rfl (by show some (W.int (Ws.length:Int))=_;rw[Uj,dl]);have bk:aP (bW #[bJ #[!"back",aF gSub' (aF bp (ao 2) (cp bw (ao 0))) !1]]) δ2=some (.list [Of (ln+(av b).length+1)]):=by
  refine PX ((xB rfl (dO (dO (a:=.int ln) rfl Sb rfl) rfl rfl)).trans ?_);show some (W.tuple [_,W.int ((ln:Int)+(((av b).length+2:Nat):Int)-1)])=_;rw[show(ln:Int)+(((av b).length+2:Nat):Int)-1=((ln+(av b).length+1:Nat):Int) by omega];rfl
 exact cX (bt (dO (a:=.list Y) rfl bk (iw z)))
noncomputable abbrev kK(d:Df):W:=.list ((fU d).map bY)
theorem Jq{NL:List (Fin 6)}(g:BJ NL)(ns:List Int)(hn:ns.length<=63):∀(n lo:Nat)(S:ai),lo+n=NL.length->∃(ps:List Df) (R:List Ob),ck (ae 2) (aa cb) (aM gC (aa #[ac 0,ac 2,ac 1])) [.val (.list (ns.map .int)),.val (.list (fX NL)),.no] ((List.range' lo n).map λi=>.int (i:Nat)) S=some (.ok (ps.map kK),S++R)/\ps.map (·.1)=NL.drop lo/\(∀d∈ps,GL NL d)/\(lP ps).length<=((List.range' lo n).map λk=>cn NL.length k 0 63).sum+7*n
 | 0,lo,S,h=>⟨[],[],by simp[ck],by simp;omega,nofun,by simp[lP]⟩
 | n+1,lo,S,h=>by
  have hk:lo<NL.length:=by omega
  obtain⟨b,R1,e1,b1,b2,b3⟩:=Iy g hk ns hn S;obtain⟨ps,R,e2,p1,p2,p3⟩:=Jq g ns hn n (lo+1) (S++R1) (by omega);have c63:=Js NL.length lo 0 63;refine⟨(NL[lo],b)::ps,R1++R,?_,?_,λd hd=>?_,?_⟩
  . rw[Vh,Uk,<-Va];exact Qo (δ2:=[.val (.list (ns.map .int)),.val (.list (fX NL)),.val (.int (lo:Nat))]) rfl (aB (S1:=S) (ds:=[.list (ns.map .int),.int (lo:Nat),.list (fX NL)]) rfl e1) e2
  . rw[Uk,p1,U0 hk]
  . rcases Ub.mp hd with rfl | hd
    . exact⟨b1,by dsimp only;omega,b3⟩
    . exact p2 d hd
  . rw[lP,Ur,gv,Vh,Uk,VO];dsimp only;omega
theorem v7:∀(ps:List Df)(n:Nat),(ja n ps).length=ps.length
 | [],_=>rfl
 | d::ps,n=>by simp[ja,v7 ps]
theorem z9:∀(ps:List Df)(n k:Nat)(h:k<ps.length),(ja n ps)[k]?=some (n+((ps.take k).map λd=>(fU d).length).sum,ps[k])
 | d::ps,n,0,h=>by simp[ja]
 | d::ps,n,k+1,h=>by
  have ih:=z9 ps (n+(av d.2).length+2) k (by simpa using h);simp only[ja,Vt,ih,List.take_succ_cons,Uk,VO,gv,List.getElem_cons_succ];congr 2;omega
noncomputable abbrev FG(lo n:Nat):List W:=(List.range' lo n).map λi=>.int (i:Nat)
theorem Jk(n:Nat):kC 0 n=FG 0 n:=by simp[kC,FG,List.range_eq_range']
theorem ES{h:W->DS->Option DS}{fe:DS->Option W}{δ:DS}{F:Nat->W}:∀(n lo:Nat),(∀k,lo<=k->k<lo+n->∃δ2,h (.int (k:Nat)) δ=some δ2/\fe δ2=some (F k))->ba h cb fe δ (FG lo n)=some ((List.range' lo n).map F)
 | 0,lo,_=>rfl
 | n+1,lo,hk=>by
  obtain⟨δ2,h1,h2⟩:=hk lo (Ug _) (by omega);have ih:=ES n (lo+1) λk a b=>hk k (by omega) (by omega);have y:cb δ2=some true:=rfl;rw[FG,Vh,Uk,Uk];simp only[ba,h1,h2,y,TZ,U5,ih,Ue]
theorem EF{h:W->DS->Option DS}{c:DS->Option Bool}{δ:DS}{fe:DS->Option W}{p:Nat->Bool}:∀(n lo:Nat),(∀k,lo<=k->k<lo+n->∃δ2,h (.int (k:Nat)) δ=some δ2/\c δ2=some (p k)/\fe δ2=some (.int (k:Nat)))->ba h c fe δ (FG lo n)=some (((List.range' lo n).filter p).map λk=>.int (k:Nat))
 | 0,lo,_=>rfl
 | n+1,lo,hk=>by
  obtain⟨δ2,h1,h2,h3⟩:=hk lo (Ug _) (by omega);have ih:=EF (h:=h) (c:=c) (δ:=δ) (fe:=fe) (p:=p) n (lo+1) λk a b=>hk k (by omega) (by omega);rw[FG,Vh,Uk,VJ];simp only[ba,h1,h2,TZ];cases e:p lo with
  | true=>simp only[U5,h3,TZ,ih,Ue,Uk]
  | false=>simp only[UR,V4,ih]
section
variable{NL:List (Fin 6)}{ps:List Df}{s0 s1 s4:Sl}
theorem yV{δ:DS}{k i:Nat}(hi:ao i δ=some (.list (fX NL))){fk:DS->Option W}(hk:fk δ=some (.int (k:Nat)))(h:k<NL.length):aF aW (ao i) fk δ=some (.str (bP NL[k])):=dO (c:=aW) hi hk (by rw[j3,Cr _ _ (by simpa using h)];simp[h])
theorem J8{δ:DS}{k i:Nat}(hi:ao i δ=some (.list (ps.map kK))){fk:DS->Option W}(hk:fk δ=some (.int (k:Nat)))(h:k<ps.length):aF aW (ao i) fk δ=some (kK ps[k]):=dO (c:=aW) hi hk (by rw[j3,Cr _ _ (by simpa using h)];simp[h])
theorem JN(δ:DS)(hl:δ=[.no]):∀ps:List Df,ba (ae 0) cb (cp bw (ao 0)) δ (ps.map kK)=some ((ps.map λd=>(fU d).length).map λn=>.int (n:Nat))
 | []=>rfl
 | d::ps=>by
  subst hl;have ih:=JN [.no] rfl ps;have g:ae 0 (kK d) [.no]=some [.val (kK d)]:=rfl;have v:cp bw (ao 0) [.val (kK d)]=some (.int (fU d).length):=bX (a:=kK d) rfl (by show some (W.int (((fU d).map bY).length:Int))=_;rw[Uj]);have y:cb [.val (kK d)]=some true:=rfl;simp only[Uk,ba,g,v,y,TZ,ih,U5,Ue]
noncomputable def xE(ps:List Df)(k:Nat):Nat:=1+((ps.take k).map λd=>(fU d).length).sum
theorem nF{k:Nat}(hl:∀d∈ps,(fU d).length<100000)(h6:ps.length<=6):aF bp (!1) (cp vd (aP (cf [none] (aI (aP (fQ (ao 0) b8 (b9 (ac 1))))) (ae 0) cb (cp bw (ao 0))))) [.val (.list (ps.map kK)),.val (.int (k:Nat))]=some (.int (xE ps k:Nat)):=by
 let δ:DS:=[.val (.list (ps.map kK)),.val (.int (k:Nat))]
 have sq:aI (aP (fQ (ao 0) b8 (b9 (ac 1)))) δ=some ((ps.take k).map kK):=by
  have:aP (fQ (ao 0) b8 (b9 (ac 1))) δ=some (.list ((ps.take k).map kK)):=by
   show some (W.list (dS (ps.map kK) none (some ((k:Nat):Int))))=_;rw[yB,Wa]
  simp only[aI,this];rfl
 have lt:(ps.take k).length<=6:=by rw[List.length_take];omega
 refine dO rfl (bX (CT sq (by rw[Uj];omega) (JN _ rfl _)) (vK (λn hn=>?_) (by rw[Uj];omega))) rfl;obtain⟨d,hd,rfl⟩:=Vf.mp hn;exact hl d (List.mem_of_mem_take hd)
end
noncomputable def BL:W->Bool
 | .str s=>PyData.strOk s
 | .int _=>true
 | _=>false
noncomputable def uO(x:W):Prop:=∃l,x=.tuple l/\l.all BL=true/\l.length<=10
theorem rk{s:Str}{l:List W}(hs:PyData.strOk s=true)(h:l.all BL=true)(hl:l.length<=9):uO (.tuple (.str s::l)):=⟨_,rfl,by simp only[V8,BL,hs,h,Bool.and_self],by simp;omega⟩
theorem GM(i:Int):cO [.int i]=some (.bool true):=by first | rfl | simp![cO,uD]
theorem yT:∀(xs:List W),xs.all BL=true->ba (ae 0) cb (AO (cp (lM "str") (ac 0)) (bz cO #[ac 0])) [.no] xs=some ((xs.map λ_=>true).map .bool)
 | [],_=>rfl
 | x::xs,h=>by
  have h':BL x=true/\xs.all BL=true:=by simpa using h
  have ih:=yT xs h'.2;cases x with
  | str s=>simp![ba,uD,ih,Uk]
  | int i=>
   have is:lM "str" (.int i)=some (.bool false):=rfl;first | rfl | simp![ba,uD,ih,GM,Uk,is]
  | _=>simp[BL]at h'
theorem Cp:∀(l:List W),l.all BL=true->fu l=true/\ca l=0
 | [],_=>⟨rfl,rfl⟩
 | x::l,h=>by
  have h':BL x=true/\l.all BL=true:=by simpa using h
  obtain⟨a,b⟩:=Cp l h'.2;cases x with
  | str s=>exact⟨by simp[fu,li,a];exact h'.1,by simp[ca,fA,b]⟩
  | int i=>exact⟨by simp[fu,li,a],by simp[ca,fA,b]⟩
  | _=>simp[BL]at h'
theorem DH{x:W}(h:uO x):hU [x,x]=some (.bool true):=by
 obtain⟨l,rfl,ha,hl⟩:=h;obtain⟨o,d⟩:=Cp l ha;have ne:=E8 (d:=.tuple l) (by simpa[li] using o) (by simp[fA,d]);have z:l.length<=sizeLine:=sz _ (by omega);have al:=yT l ha;have ga:=Fi l;refine cw rfl ?_;refine bb (δ1:=[.val (.tuple l),.val (.tuple l)]) (bq (b:=false) (by first | rfl | simp![uD,f6,ne]) rfl) (bt ?_);have hc:cf [none] (aI (ao 0)) (ae 0) cb (AO (cp (lM "str") (ac 0)) (bz cO #[ac 0])) [.val (.tuple l),.val (.tuple l)]=some ((l.map λ_=>true).map .bool):=by
  show(if l.length<=sizeLine then _ else _)=_;rw[Ul z];exact al
 show(((cf [none] (aI (ao 0)) (ae 0) cb (AO (cp (lM "str") (ac 0)) (bz cO #[ac 0])) [.val (.tuple l),.val (.tuple l)]).map W.list).bind wT)=_;rw[hc];first | rfl | simp only[Ue,TZ,ga]
theorem J5(N:List Str)(n k:Nat)(a:Lf):uO (lO N n k a):=by
 unfold lO;split
 . exact rk (by decide +kernel) (by simp only[V8,BL,List.all_nil,Bool.true_and,Bool.and_true];decide +kernel) (by simp)
 . split
   . exact rk (by decide +kernel) rfl (by simp)
   . exact rk (by decide +kernel) rfl (by simp)
theorem JQ(N:List Str)(n:Nat):∀(as:List Lf)(k:Nat),∀x∈oA N n k as,uO x
 | [],_,x,h=>nomatch h
 | a::as,k,x,h=>by
  rcases Ub.mp h with rfl | h
  . exact J5 _ _ _ _
  . exact JQ N n as _ x h
theorem Qf(N:List Str){dq:Fin 5->W}{lq:W}(hd:∀g,∃i:Int,dq g=.int i)(hl:∃i:Int,lq=.int i)(n:Nat)(l:Ln):∀x∈wu N dq lq n l,uO x:=by
 intro x hx;obtain⟨j,rfl⟩:=hl;cases l with
 | tell a=>rw[UB.mp hx];exact rk (by decide +kernel) rfl (by simp)
 | call i g as=>
  obtain⟨m,e⟩:=hd g;rw[UB.mp hx,e];exact rk (by decide +kernel) rfl (by simp)
 | ret a=>
  rcases Ub.mp hx with rfl | hx
  . exact rk (by decide +kernel) rfl (by simp)
  . rw[UB.mp hx];exact rk (by decide +kernel) rfl (by simp)
 | _=>cases hx
theorem Ff(N:List Str){dq:Fin 5->W}{lq:W}(hd:∀g,∃i:Int,dq g=.int i)(hl:∃i:Int,lq=.int i)(n:Nat)(l:Ln):∀x∈kD N dq lq n l,uO x:=λx hx=>by
 rcases Ub.mp hx with rfl | hx
 . exact rk (by decide +kernel) rfl (by simp)
 rcases Us.mp hx with hx | hx
 . exact JQ _ _ _ _ x hx
 . exact Qf N hd hl n l x hx
theorem tV(N:List Str){dq:Fin 5->W}{lq:W}(hd:∀g,∃i:Int,dq g=.int i)(hl:∃i:Int,lq=.int i):∀(b:Bd)(j n:Nat),∀x∈d8 N qP dq lq j n b,uO x
 | .nil,_,_,x,h=>nomatch h
 | .tell a r,j,n,x,h=>(Us.mp h).elim (Ff N hd hl n _ x) (tV N hd hl r _ _ x)
 | .ret a r,j,n,x,h=>(Us.mp h).elim (Ff N hd hl n _ x) (tV N hd hl r _ _ x)
 | .call i g as r,j,n,x,h=>(Us.mp h).elim (Ff N hd hl n _ x) (tV N hd hl r _ _ x)
 | .iff a b r,j,n,x,h=>by
  rcases Ub.mp h with rfl | h
  . exact rk (by decide +kernel) rfl (by simp)
  rcases Ub.mp h with rfl | h
  . exact J5 _ _ _ _
  rcases Ub.mp h with rfl | h
  . exact rk (by decide +kernel) rfl (by simp)
  . exact(Us.mp h).elim (tV N hd hl b _ _ x) (tV N hd hl r _ _ x)
theorem Jt{dq:Fin 5->W}(hd:∀g,∃i:Int,dq g=.int i):∀(L:List Nd)(j:Nat),∀x∈xC qP dq Fn j L,uO x
 | [],_,x,h=>nomatch h
 | q::L,j,x,h=>by
  rcases Us.mp h with h | h
  . rcases Us.mp h with h | h
    . exact tV _ hd ⟨_,rfl⟩ _ _ _ x h
    . rw[UB.mp h];exact rk (by decide +kernel) rfl (by simp)
  . exact Jt hd L _ x h
theorem Pz{R:List W}(hR:∀x∈R,uO x):ba (ae 2) cb (bz hU #[aF aW (ao 0) (ac 2),aF aW (ao 1) (ac 2)]) [.val (.list R),.val (.list R),.no] (FG 0 R.length)=some ((R.map λ_=>true).map .bool):=by
 have e:(R.map λ_=>true).map W.bool=(List.range' 0 R.length).map λ_=>W.bool true:=List.ext_getElem (by simp) (by simp);rw[e];refine ES (F:=λ_=>.bool true) _ 0 λk _ hk=>⟨[.val (.list R),.val (.list R),.val (.int (k:Nat))],rfl,?_⟩
 have hk':k<R.length:=by omega
 have x0:aF aW (ao 0) (ac 2) [.val (.list R),.val (.list R),.val (.int (k:Nat))]=some R[k]:=dO (c:=aW) (a:=.list R) (b:=.int (k:Nat)) rfl rfl (by rw[j3,Cr _ _ hk',Uu hk']);have x1:aF aW (ao 1) (ac 2) [.val (.list R),.val (.list R),.val (.int (k:Nat))]=some R[k]:=dO (c:=aW) (a:=.list R) (b:=.int (k:Nat)) rfl rfl (by rw[j3,Cr _ _ hk',Uu hk']);exact De (Tk x0 x1) (DH (hR _ (Vs hk')))
theorem qG:∀a:Lf,li (cG a)=true/\fA (cG a)<=1:=by
 intro a;unfold cG;split
 . exact⟨by kernel_rfl,by simp[fA,ca]⟩
 . split
   . exact⟨by simp[li,fu];decide +kernel,by simp[fA,ca]⟩
   . exact⟨by simp[li,fu,Mp];decide +kernel,by simp[fA,ca]⟩
theorem BZ:∀as:List Lf,fu (as.map cG)=true/\ca (as.map cG)<=1
 | []=>⟨rfl,by simp[ca]⟩
 | a::as=>by
  have h:=qG a;have ih:=BZ as;refine⟨by simp[fu,h.1,ih.1],?_⟩;simp only[Uk,ca];omega
theorem zJ:∀ws:List Str,ws.all PyData.strOk=true->fu (ws.map .str)=true/\ca (ws.map .str)=0
 | [],_=>⟨rfl,rfl⟩
 | w::ws,h=>by
  have h':PyData.strOk w=true/\ws.all PyData.strOk=true:=by simpa using h
  have ih:=zJ ws h'.2;exact⟨by simp[fu,li,h'.1,ih.1],by simp[ca,fA,ih.2]⟩
theorem DQ:∀f:Fin 6,PyData.strOk (bP f)=true/\(jq f).all PyData.strOk=true:=by decide +kernel
theorem OT:∀i:Fin 2,PyData.strOk (oN i)=true:=by decide +kernel
theorem O2:∀l:Ln,PyData.strOk (cj l)=true:=by
 intro l;cases l <;> kernel_rfl
theorem xV(n:Nat)(l:Ln)(hf:∀f,l≠.df f):li (dg n l)=true/\fA (dg n l)<=3:=by
 have k:=O2 l;cases l with
 | df f=>exact absurd rfl (hf f)
 | fin=>exact⟨by simp[dg,li,fu,qk,k],by simp[dg,fA,ca,qk]⟩
 | call i f as=>
  have h:=BZ as;exact⟨by simp[dg,li,fu,qk,k,OT,(DQ _).1,h.1],by simp only[dg,fA,ca,qk];omega⟩
 | tell a=>have h:=qG a;exact⟨by simp[dg,li,fu,qk,k,h.1],by simp only[dg,fA,ca,qk];omega⟩
 | ret a=>have h:=qG a;exact⟨by simp[dg,li,fu,qk,k,h.1],by simp only[dg,fA,ca,qk];omega⟩
 | iff a=>have h:=qG a;exact⟨by simp[dg,li,fu,qk,k,h.1],by simp only[dg,fA,ca,qk];omega⟩
theorem n6:∀(b:Bd)(n:Nat),fu (cS n b)=true/\ca (cS n b)<=3+2*i6 b
 | .nil,_=>⟨rfl,by simp[cS,ca]⟩
 | .tell a r,n=>by
  have h:=xV n (.tell a) nofun
  have ih:=n6 r (n+1);exact⟨by simp[cS,fu,h.1,ih.1],by simp only[cS,ca,i6];omega⟩
 | .ret a r,n=>by
  have h:=xV n (.ret a) nofun
  have ih:=n6 r (n+1);exact⟨by simp[cS,fu,h.1,ih.1],by simp only[cS,ca,i6];omega⟩
 | .call i f as r,n=>by
  have h:=xV n (.call i f as) nofun
  have ih:=n6 r (n+1);exact⟨by simp[cS,fu,h.1,ih.1],by simp only[cS,ca,i6];omega⟩
 | .iff a b r,n=>by
  have h:=qG a;have hb:=n6 b (n+1);have hr:=n6 r (n+(av b).length+2);have k:PyData.strOk (Str.ofString "if")=true:=O2 (.iff a);exact⟨by simp[cS,fu,li,h.1,hb.1,hr.1,k],by simp only[cS,ca,fA,i6];omega⟩
theorem Ea:∀(ps:List Df)(n:Nat),(∀d∈ps,i6 d.2<=5)->fu (nu n ps)=true/\ca (nu n ps)<=15
 | [],_,_=>⟨rfl,by simp[nu,ca]⟩
 | d::ps,n,h=>by
  have hb:=n6 d.2 (n+1);have ih:=Ea ps (n+(av d.2).length+2) λx hx=>h x (TY _ hx);have hd:=h d Ua;have hp:=zJ (jq d.1) (DQ d.1).2;exact⟨by simp[nu,Ju,fu,li,(DQ d.1).1,hp.1,hb.1,ih.1],by simp only[nu,Ju,ca,fA,hp.2];omega⟩
theorem FV(S:ai){ps:List Df}(h:∀d∈ps,i6 d.2<=5):qZ true (.list (nu 1 ps)) (.list (nu 1 ps)) S=some false:=by
 have k:=Ea ps 1 h;exact Es true (by simpa[li] using k.1) (by simp only[fA];omega)
noncomputable def dh(ps:List Df)(k:Nat):Nd:=(xE ps k,ps.getD k (5,.nil))
theorem NY(ps:List Df):ja 1 ps=(List.range' 0 ps.length).map (dh ps):=by
 refine List.ext_getElem? λk=>?_;by_cases h:k<ps.length
 . rw[z9 ps 1 k h];simp[h,dh,xE]
 . rw[List.getElem?_eq_none (by rw[v7];omega),List.getElem?_eq_none (by simp;omega)]
noncomputable def xA(ps:List Df):List Nat:=(List.range' 0 ps.length).filter (λk=>nh (dh ps k))++(List.range' 0 ps.length).filter (λk=>!nh (dh ps k))
theorem vo(ps:List Df):q9 (ja 1 ps)=(xA ps).map (dh ps):=by
 rw[q9,NY,xA,UX,List.filter_map,List.filter_map];rfl
theorem Jn(ps:List Df):∀k∈xA ps,k<ps.length:=λk h=>by
 rcases Us.mp h with h | h <;> have:=(Vy.mp h).1 <;> simp at this <;> omega
theorem vk{NL:List (Fin 6)}{ps:List Df}(e:ps.map (·.1)=NL){k:Nat}(h:k<ps.length):∃h2:k<NL.length,(dh ps k).2.1=NL[k]/\(dh ps k).2=ps[k]:=by
 subst e;exact⟨by simpa using h,by simp[dh,h],by simp[dh,h]⟩
theorem sz_sum'{NL:List (Fin 6)}{d:Df}(g:GL NL d){fi:DS->Option (List W)}{δ:DS}(hi:fi δ=some ((fU d).map bY))(hl:c9 [none] δ=[.no]):cp vd (aP (cf [none] fi (ae 0) cb (bz c6 #[ac 0]))) δ=some (.int (eG d.2)):=by
 have l:=gv d;have gl:=g.l;refine bX (CT hi (by rw[Uj];omega) (F2 _ hl _)) ((vK (λn hn=>?_) (by rw[Uj];omega)).trans (by rw[xX]));obtain⟨x,hx,rfl⟩:=Vf.mp hn;have:=(rC g x hx).2;omega
noncomputable def Ia(ps:List Df)(k:Nat):bD:=.inr (bP (dh ps k).2.1)
noncomputable def BG(ps:List Df)(kvs:List (bD×W)):Nat->List Nat->Prop
 | _,[]=>True
 | j,k::ks=>aU kvs (Ia ps k)=some (.int j)/\BG ps kvs (j+x5 (dh ps k)) ks
theorem IZ{ps:List Df}{kvs:List (bD×W)}{f:Fin 6}:∀(ks:List Nat)(j:Nat),BG ps kvs j ks->f∈(ks.map (dh ps)).map (·.2.1)->aU kvs (.inr (bP f))=some (.int (No j (ks.map (dh ps)) f:Nat))
 | k::ks,j,h,hf=>by
  rw[Uk];unfold No;by_cases e:(dh ps k).2.1=f
  . rw[Ul e,<-e];exact h.1
  . rw[UE e];exact IZ ks _ h.2 ((Ub.mp hf).resolve_left λz=>e z.symm)
section
variable{NL:List (Fin 6)}{ps:List Df}{s0 s1 s4 s5 s9 s10 s11 s12 s13 s14:Sl}{bg:Nat}
theorem zC(e:ps.map (·.1)=NL)(g:∀d∈ps,GL NL d):∀(ks:List Nat)(j:Nat)(kv:List (bD×W))(S:ai)(s8:Sl),(∀k∈ks,k<ps.length)->ks.Pairwise (λa b=>Ia ps a≠Ia ps b)->S[bg]?=some (.dK kv)->kv.length+ks.length<9000->
 ∃kv' j' t8,bc (ae 8) zc (ks.map λk=>.int (k:Nat)) [s0,s1,.val (.list (fX NL)),.val (.list (ps.map kK)),s4,s5,.val (.ref bg),.val (.int (j:Nat)),s8,s9,s10,s11,s12,s13,s14] S=some (.nx [s0,s1,.val (.list (fX NL)),.val (.list (ps.map kK)),s4,s5,.val (.ref bg),.val (.int (j':Nat)),t8,s9,s10,s11,s12,s13,s14],S.set bg (.dK kv'))/\BG ps kv' j ks/\∀x,(∀k∈ks,Ia ps k≠x)->aU kv' x=aU kv x
 | [],j,kv,S,s8,_,_,h,_=>⟨kv,j,s8,by rw[fK h];rfl,trivial,λ_ _=>rfl⟩
 | k::ks,j,kv,S,s8,lt,pw,h,hl=>by
  simp only[Ud]at hl;obtain⟨pk,pw⟩:=List.pairwise_cons.mp pw;have kl:=lt k Ua;obtain⟨k2,f1,f2⟩:=vk e kl;have gd:=g ps[k] (Vs kl);have pl:=bS kv (Ia ps k) (.int (j:Nat));obtain⟨kv',j',t8,e1,b1,q1⟩:=zC e g ks (j+x5 (dh ps k)) (bL kv (Ia ps k) (.int (j:Nat))) _ (.val (.int (k:Nat))) (λx hx=>lt x (TY _ hx)) pw (gN (x:=.dK (bL kv (Ia ps k) (.int (j:Nat)))) h) (by omega);rw[wQ]at e1;refine⟨kv',j',t8,(aL (δ2:=[s0,s1,.val (.list (fX NL)),.val (.list (ps.map kK)),s4,s5,.val (.ref bg),.val (.int (j:Nat)),.val (.int (k:Nat)),s9,s10,s11,s12,s13,s14]) rfl ?_).trans e1,⟨?_,b1⟩,λx hx=>?_⟩
  . let δ:DS:=[s0,s1,.val (.list (fX NL)),.val (.list (ps.map kK)),s4,s5,.val (.ref bg),.val (.int (j:Nat)),.val (.int (k:Nat)),s9,s10,s11,s12,s13,s14]
    have nm:aF aW (ao 2) (ac 8) δ=some (.str (bP (dh ps k).2.1)):=by rw[f1];exact yV rfl rfl k2
    refine(af (Jz (S1:=S) (S2:=S) (S3:=S) (d:=.int (j:Nat)) rfl rfl (aj nm) h (by omega))).trans ?_;have sq:aI (aF aW (ao 3) (ac 8)) δ=some ((fU ps[k]).map bY):=by
     have:aF aW (ao 3) (ac 8) δ=some (kK ps[k]):=J8 rfl rfl kl;simp only[aI,this];rfl
    refine aA (aR (d:=.int (j+x5 (dh ps k):Nat)) (dO (dO (a:=.int (j:Nat)) rfl rfl rfl) (sz_sum' gd sq rfl) ?_) rfl);show some (W.int ((j:Int)+1+(eG ps[k].2:Nat)))=_;rw[x5,f2];congr 2;omega
  . rw[q1 _ λx hx=>(pk x hx).symm,cB,Ul rfl]
  . rw[q1 x λy hy=>hx y (TY _ hy),cB,UE λz=>hx k Ua z.symm]
theorem zM(e:ps.map (·.1)=NL)(g:∀d∈ps,GL NL d){kvs:List (bD×W)}{dq:Fin 5->W}(hq:∀g:Fin 5,f5 g∈NL->aU kvs (.inr (bP (f5 g)))=some (dq g)){s7:Sl}:∀(ks:List Nat)(j:Nat)(acc:List W)(S:ai)(s8:Sl),(∀k∈ks,k<ps.length)->BG ps kvs j ks->S[bg]?=some (.dK kvs)->acc.length+400*ks.length<9000->
 ∃R t8,bc (ae 8) zZ (ks.map λk=>.int (k:Nat)) [s0,s1,.val (.list (fX NL)),.val (.list (ps.map kK)),.val (.list ((List.range' 0 ps.length).map λk=>.int (xE ps k:Nat))),s5,.val (.ref bg),s7,s8,s9,s10,s11,s12,s13,.val (.list acc)] S=some (.nx [s0,s1,.val (.list (fX NL)),.val (.list (ps.map kK)),.val (.list ((List.range' 0 ps.length).map λk=>.int (xE ps k:Nat))),s5,.val (.ref bg),s7,t8,s9,s10,s11,s12,s13,.val (.list (acc++xC qP dq Fn j (ks.map (dh ps))))],S++R)
 | [],j,acc,S,s8,_,_,h,_=>⟨[],s8,by simp[xC,bc]⟩
 | k::ks,j,acc,S,s8,lt,b,h,hl=>by
  simp only[Ud]at hl;have kl:=lt k Ua;obtain⟨k2,f1,f2⟩:=vk e kl;have gd:=g ps[k] (Vs kl);obtain⟨R1,e1⟩:=Gd gd (S:=S) (bg:=bg) (bgn:=j) (ln:=xE ps k) (dq:=dq) h hq;have nd:dh ps k=(xE ps k,ps[k]):=by rw[<-f2];rfl
  have rw1:Ct qP dq (λ_=>.int (j+eG ps[k].2:Nat)) j (xE ps k,ps[k])=Ct qP dq (λ_=>Fn j (dh ps k)) j (dh ps k):=by rw[nd];rfl
  rw[rw1]at e1;have rl:=u7 qP dq (λ_=>Fn j (dh ps k)) j (dh ps k);have sr:=y7 gd;have sd:x5 (dh ps k)<=351:=by rw[x5,f2];omega
  obtain⟨R,t8,e2⟩:=zM e g hq (s7:=s7) ks (j+x5 (dh ps k)) (acc++Ct qP dq (λ_=>Fn j (dh ps k)) j (dh ps k)) (S++R1) (.val (.int (k:Nat))) (λx hx=>lt x (TY _ hx)) b.2 (by rw[UA (oG h).1];exact h) (by rw[Ur,rl];omega);let δ:DS:=[s0,s1,.val (.list (fX NL)),.val (.list (ps.map kK)),.val (.list ((List.range' 0 ps.length).map λk=>.int (xE ps k:Nat))),s5,.val (.ref bg),s7,.val (.int (k:Nat)),s9,s10,s11,s12,s13,.val (.list acc)]
  refine⟨R1++R,t8,(aL (δ2:=δ) rfl ?_).trans (e2.trans ?_)⟩
  . have nm:aF aW (ao 2) (ac 8) δ=some (.str (bP (dh ps k).2.1)):=by rw[f1];exact yV rfl rfl k2
    have bv:gB (aa (ac 6)) (aa (aF aW (ao 2) (ac 8))) δ S=some (.ok (.int (j:Nat)),S):=zf (S1:=S) (S2:=S) rfl (aj nm) h b.1;have pt:aF aW (ao 3) (ac 8) δ=some (kK ps[k]):=J8 rfl rfl kl;have st:aF aW (ao 4) (ac 8) δ=some (.int (xE ps k:Nat)):=dO (c:=aW) (a:=.list ((List.range' 0 ps.length).map λk=>.int (xE ps k:Nat))) (b:=.int (k:Nat)) rfl rfl (by rw[j3,Cr _ _ (by simpa using kl)];simp[kl]);have z:acc.length+(Ct qP dq (λ_=>Fn j (dh ps k)) j (dh ps k)).length<=sizeLine:=sz _ (by rw[rl];omega);exact aQ (JJ (T:=S) (T1:=S) rfl (aB (S1:=S) (ds:=[kK ps[k],.int (j:Nat),.int (xE ps k:Nat),.ref bg]) (ax (aj pt) (ax bv (ax (aj st) (ax (S1:=S) rfl (rfl:dX δ S=some (.ok [],S)))))) e1) (iw z)) rfl
  . simp[xC]
end
theorem HR{w:Str}(h:FI w=true):w.length<=8:=by
 simp only[FI,Uz,UC]at h;exact h.2
theorem NO{NL:List (Fin 6)}{d:Df}(g:GL NL d){l:Ln}(hl:l∈fU d):mJ (Str.ofString " ") (bY l)=some (.str (pQ l)):=by
 have r:=(rC g l hl).1;have k:(fH l).length<=12:=by cases l <;> simp only[fH,kA,B5,Ud]at r ⊢ <;> omega
 have jo:JoinOk (ch 32) (fH l)=true:=CU (m:=8) (λw hw=>HR (ur l w hw)) (by omega);show((mS ((fH l).map .str)).bind λws=>if JoinOk (ch 32) ws=true then some (W.str (Txt.join (ch 32) ws)) else none)=_;rw[ko];simp only[TZ,Ul jo,zR]
theorem JC{NL:List (Fin 6)}{d:Df}(g:GL NL d)(δ:DS)(hl:δ=[.no]):∀Ls:List Ln,(∀l∈Ls,l∈fU d)->ba (ae 0) cb (BN mJ (!" ") (ao 0)) δ (Ls.map bY)=some (Ls.map λl=>.str (pQ l))
 | [],_=>rfl
 | l::Ls,h=>by
  subst hl;have ih:=JC g [.no] rfl Ls λx hx=>h x (TY _ hx);have gg:ae 0 (bY l) [.no]=some [.val (bY l)]:=rfl;have v:BN mJ (!" ") (ao 0) [.val (bY l)]=some (.str (pQ l)):=vL rfl rfl (NO g (h l Ua));have y:cb [.val (bY l)]=some true:=rfl;simp only[Uk,ba,gg,v,y,TZ,ih,U5,Ue]
theorem Ai{NL:List (Fin 6)}{s0 s1 s2 s3 s4 s5 s6 s7 s8 s11 s12 s13 s14:Sl}:∀(ps:List Df)(acc:List W)(s10:Sl),(∀d∈ps,GL NL d)->acc.length+100*ps.length<9000->∃t10,bZ (ae 10) pZ (ps.map kK) [s0,s1,s2,s3,s4,s5,s6,s7,s8,.own acc,s10,s11,s12,s13,s14]=some (.nx [s0,s1,s2,s3,s4,s5,s6,s7,s8,.own (acc++pN (lP ps)),t10,s11,s12,s13,s14])
 | [],acc,s10,_,_=>⟨s10,by simp[bZ,lP,pN]⟩
 | d::ps,acc,s10,g,hl=>by
  simp only[Ud]at hl;have gd:=g d Ua;have dl:=gv d;have gl:=gd.l;obtain⟨t10,e⟩:=Ai (NL:=NL) (s0:=s0) (s1:=s1) (s2:=s2) (s3:=s3) (s4:=s4) (s5:=s5) (s6:=s6) (s7:=s7) (s8:=s8) (s11:=s11) (s12:=s12) (s13:=s13) (s14:=s14) ps (acc++(fU d).map λl=>.str (pQ l)) (.val (kK d)) (λx hx=>g x (TY _ hx)) (by simp;omega);let δ:DS:=[s0,s1,s2,s3,s4,s5,s6,s7,s8,.own acc,.val (kK d),s11,s12,s13,s14]
  have sq:aI (ao 10) δ=some ((fU d).map bY):=rfl;have z1:((fU d).map bY).length<=sizeLine:=sz _ (by rw[Uj];omega);have z2:acc.length+((fU d).map λl=>W.str (pQ l)).length<=sizeLine:=sz _ (by rw[Uj];omega);have o:gR 9 δ=some acc:=rfl;have c:ba (ae 0) cb (BN mJ (!" ") (ao 0)) (c9 [none] δ) ((fU d).map bY)=_:=JC gd _ rfl (fU d) λ_ h=>h;have st:pZ δ=some (.nx [s0,s1,s2,s3,s4,s5,s6,s7,s8,.own (acc++(fU d).map λl=>.str (pQ l)),.val (kK d),s11,s12,s13,s14]):=by
   simp only[pZ,kg,cf,o,sq,TZ,Ul z1,c,Ul z2];rfl
  refine⟨t10,(jZ (δ2:=δ) rfl st e).trans ?_⟩;simp[lP,pN]
theorem rA:∀(b:Bd),∀q∈y3 b,∃i,Ln.call i q.1 q.2∈av b
 | .tell a r,q,h=>by obtain⟨i,e⟩:=rA r q h;exact⟨i,TY _ e⟩
 | .ret a r,q,h=>by obtain⟨i,e⟩:=rA r q h;exact⟨i,TY _ e⟩
 | .call i f as r,q,h=>by
  rcases Ub.mp h with rfl | h
  . exact⟨i,Ua⟩
  . obtain⟨i,e⟩:=rA r q h;exact⟨i,TY _ e⟩
 | .iff a b r,q,h=>by
  rcases Us.mp h with h | h
  . obtain⟨i,e⟩:=rA b q h;exact⟨i,TY _ (UM _ e)⟩
  . obtain⟨i,e⟩:=rA r q h;exact⟨i,TY _ (Uo _ (TY _ e))⟩
theorem wE:∀(b:Bd),rt b=true->∃a,Ln.ret a∈av b
 | .tell a r,h=>by obtain⟨i,e⟩:=wE r h;exact⟨i,TY _ e⟩
 | .ret a r,_=>⟨a,Ua⟩
 | .call i f as r,h=>by obtain⟨i,e⟩:=wE r h;exact⟨i,TY _ e⟩
 | .iff a b r,h=>by
  simp only[rt,VQ]at h;rcases h with h | h
  . obtain⟨i,e⟩:=wE b h;exact⟨i,TY _ (UM _ e)⟩
  . obtain⟨i,e⟩:=wE r h;exact⟨i,TY _ (Uo _ (TY _ e))⟩
theorem Hn{NL:List (Fin 6)}(k:BJ NL){ps:List Df}(e:ps.map (·.1)=NL)(g:∀d∈ps,GL NL d):GO ps/\(∀d∈ps,d.1=5->rt d.2=false)/\ps.length<=6:=by
 have l6:ps.length<=6:=by have:=Uh List.length e;rw[Uj]at this;have:=k.l6;omega
 refine⟨⟨e▸k.nd,l6,e▸k.m,λd hd=>⟨(g d hd).h,by have:=(g d hd).l;omega,λq hq=>?_⟩⟩,λd hd h5=>?_,l6⟩
 . obtain⟨i,hi⟩:=rA d.2 q hq;have:=((g d hd).k _ hi).resolve_left nofun
   exact⟨e▸this.1,this.2⟩
 . cases h:rt d.2 with
   | false=>rfl
   | true=>
    obtain⟨a,ha⟩:=wE d.2 h;exact absurd h5 (((g d hd).k _ ha).resolve_left nofun)
theorem oo:∀(b:Bd),(∀q∈y3 b,q.2.length<=3)->qi b<=4*(av b).length
 | .nil,_=>by simp[qi]
 | .tell a r,h=>by have:=oo r h;simp[qi,av];omega
 | .ret a r,h=>by have:=oo r h;simp[qi,av];omega
 | .call i f as r,h=>by have:=oo r λq hq=>h q (TY _ hq);have:=h (f,as) Ua;simp[qi,av]at *;omega
 | .iff a b r,h=>by have:=oo b λq hq=>h q (UM _ hq);have:=oo r λq hq=>h q (Uo _ hq);simp[qi,av];omega
theorem Jp{NL:List (Fin 6)}{d:Df}(g:GL NL d):GD d:=by
 have l:=g.l;have r:=y7 g;have b:=oo d.2 λq hq=>by
  obtain⟨i,hi⟩:=rA d.2 q hq;have h:=((g.k _ hi).resolve_left nofun).2;have:=(jw (f5 q.1)).1;omega
 exact⟨g.h,by omega,by omega,by omega⟩
theorem NX{ps:List Df}(h:(ps.map (·.1)).Nodup):(xA ps).Pairwise (λa b=>Ia ps a≠Ia ps b):=by
 have pL:(q9 (ja 1 ps)).Perm (ja 1 ps):=U3 nh _;have pw:(q9 (ja 1 ps)).Pairwise dj:=(pL.pairwise_iff λh=>dj.symm h).mpr (xK ps 1 h);rw[vo,List.pairwise_map]at pw;exact pw.imp λ{a b} d e=>d.2 (ss _ _ (Sum.inr.inj e))
theorem Ml{ps:List Df}{f:Fin 6}(h:f∈ps.map (·.1)):f∈((xA ps).map (dh ps)).map (·.2.1):=by
 rw[<-vo];have pL:(q9 (ja 1 ps)).Perm (ja 1 ps):=U3 nh _;have e:(q9 (ja 1 ps)).map (·.2.1)=((q9 (ja 1 ps)).map (·.2)).map (·.1):=by simp
 rw[e];have p2:(((q9 (ja 1 ps)).map (·.2)).map (·.1)).Perm (ps.map (·.1)):=((pL.map (·.2)).trans (by rw[jp])).map _;exact p2.mem_iff.mpr h
theorem Eb(ps:List Df):(xA ps).length=ps.length:=by
 have pL:(xA ps).Perm (List.range' 0 ps.length):=U3 _ _;rw[pL.length_eq];simp
theorem Gf{ix:List (Option Nat)}{fi:DS->ai->SM (List W)}{h:W->DS->Option DS}{fe:DS->ai->SM W}{δ δ':DS}{S S1 S2:ai}{ds es:List W}(h1:fi δ S=some (.ok ds,S1))(hl:ds.length<=9000)(h2:c9 ix δ=δ')(h3:ck h (aa cb) fe δ' ds S1=some (.ok es,S2)):gK ix fi h (aa cb) fe δ S=some (.ok (.list es),S2):=by
 have z:=sz _ hl;simp only[gK,aq,h1,Ul z,h2,h3]
theorem Di(ns:List Int)(h:ns.length<=63):∃S,Fo [.list (ns.map .int)] []=some (.ok (.bool true),S):=by
 let sc:W:=.list (ns.map .int);let s0:Sl:=.val sc;obtain⟨c,hc⟩:∃c:Int,ag (cA (aw zB (cp bw (ao 0)) !0) (bo 0[0]! (ae 1)) ay) [s0,.val (.int 0),.no,.no,.no,.no,.no,.no,.no,.no,.no,.no,.no,.no,.no] []=some (.nx [s0,.val (.int c),.no,.no,.no,.no,.no,.no,.no,.no,.no,.no,.no,.no,.no],[]):=by
  cases ns with
  | nil=>exact⟨0,aA (bq (b:=false) rfl rfl)⟩
  | cons c ns=>
   refine⟨c,aA (LW (jU (b:=.int 0) (bX (a:=sc) (r:=.int (((c::ns).map W.int).length:Int)) rfl rfl) rfl ?_) (aR (Ep (l:=(c::ns).map .int) rfl rfl (BU _ _)) rfl))⟩;show some (decide ((0:Int)<(((c::ns).map W.int).length:Int)))=_;rw[Uq (by simp <;> omega)]
 obtain⟨NL,k,eN⟩:=CW c;obtain⟨ps,R3,e3,p1,g,p3⟩:=Jq k ns h NL.length 0 [] (by omega);rw[List.drop_zero]at p1;obtain⟨ok,hr,l6⟩:=Hn k p1 g;have lN:NL.length=ps.length:=by rw[<-p1,Uj]
 have tl:(lP ps).length<=200:=by
  have:=EI (m:=NL.length) (by have:=k.l2;omega) 63 0;have:=k.l6;omega
 rw[UL]at e3;let S6:ai:=R3++[.dK []];obtain⟨kv,j',t8,e6,b6,q6⟩:=zC (s0:=s0) (s1:=.val (.int c)) (s4:=.val (.list ((List.range' 0 ps.length).map λk=>.int (xE ps k:Nat)))) (s5:=.val (.list ((xA ps).map λk=>.int (k:Nat)))) (s9:=.no) (s10:=.no) (s11:=.no) (s12:=.no) (s13:=.no) (s14:=.no) (bg:=R3.length) p1 g (xA ps) 0 [] S6 .no (Jn ps) (NX ok.1) (eg R3 _) (by rw[Eb];simp;omega);let S7:ai:=S6.set R3.length (.dK kv);have b7:S7[R3.length]?=some (.dK kv):=gN (eg R3 (.dK []));obtain⟨t10,e9⟩:=Ai (NL:=NL) (s0:=s0) (s1:=.val (.int c)) (s2:=.val (.list (fX NL))) (s3:=.val (.list (ps.map kK))) (s4:=.val (.list ((List.range' 0 ps.length).map λk=>.int (xE ps k:Nat)))) (s5:=.val (.list ((xA ps).map λk=>.int (k:Nat)))) (s6:=.val (.ref R3.length)) (s7:=.val (.int (j':Nat))) (s8:=t8) (s11:=.no) (s12:=.no) (s13:=.no) (s14:=.no) ps [] .no g (by simp;omega);rw[UL]at e9;obtain⟨R12,e12⟩:=xq ok hr tl S7;obtain⟨S13,e13,k13⟩:=Ft ok (λd hd=>Jp (g d hd)) (S7++R12);have b12:(S7++R12)[R3.length]?=some (.dK kv):=by rw[UA (oG b7).1];exact b7
 have b13:=k13 _ _ b12;have hq:∀g:Fin 5,f5 g∈NL->aU kv (.inr (bP (f5 g)))=some (GR (q9 (ja 1 ps)) g):=λg hg=>by
  rw[IZ (xA ps) 0 b6 (Ml (p1▸hg)),GR,vo]
 let P:W:=.list (nu 1 ps);let Rw:=xC qP (GR (q9 (ja 1 ps))) Fn 0 (q9 (ja 1 ps));let tx:W:=.str (Sd (lP ps));obtain⟨R17,u8,e17⟩:=zM (s0:=s0) (s1:=.val (.int c)) (s5:=.val (.list ((xA ps).map λk=>.int (k:Nat)))) (s7:=.val (.int (j':Nat))) (s9:=.own (pN (lP ps))) (s10:=t10) (s11:=.val tx) (s12:=.val P) (s13:=.val (.list Rw)) p1 g hq (xA ps) 0 [] S13 t8 (Jn ps) b6 b13 (by rw[Eb];simp;omega);rw[UL,<-vo]at e17;obtain⟨R18,e18⟩:=xq ok hr tl (S13++R17);let S18:ai:=S13++R17++R18;refine⟨S18,(au rfl).trans ((Uh bC (?_:_=some (.rt (.bool true),S18))).trans rfl)⟩;let cv:Sl:=.val (.int c);let nl:Sl:=.val (.list (fX NL));let pt:Sl:=.val (.list (ps.map kK));let st:Sl:=.val (.list ((List.range' 0 ps.length).map λk=>.int (xE ps k:Nat)));let od:Sl:=.val (.list ((xA ps).map λk=>.int (k:Nat)));let bg:Sl:=.val (.ref R3.length);refine(af (δ':=[s0,.val (.int 0),.no,.no,.no,.no,.no,.no,.no,.no,.no,.no,.no,.no,.no]) (S':=[]) rfl).trans ?_;refine(af hc).trans ?_;refine(af (δ':=[s0,cv,nl,.no,.no,.no,.no,.no,.no,.no,.no,.no,.no,.no,.no]) (S':=[]) (aA (aR (De (ds:=[.int c]) rfl eN) rfl))).trans ?_;have rl:∀{δ:DS},ao 2 δ=some (.list (fX NL))->iC #[cp bw (ao 2)] δ=some (FG 0 NL.length):=λ{δ} hδ=>by
  have e:#[cp bw (ao 2)] δ=some [.int (NL.length:Nat)]:=gT (bX hδ (by show some (W.int ((fX NL).length:Int))=_;simp)) rfl;rw[wI e (by omega),Jk]
 have zr:(FG 0 NL.length).length<=9000:=by simp;omega
 have co:gK [some 0,some 2,none] (aa (iC #[cp bw (ao 2)])) (ae 2) (aa cb) (aM gC (aa #[ac 0,ac 2,ac 1])) [s0,cv,nl,.no,.no,.no,.no,.no,.no,.no,.no,.no,.no,.no,.no] []=some (.ok (.list (ps.map kK)),R3):=Gf (aj (rl rfl)) zr rfl e3;refine(af (δ':=[s0,cv,nl,pt,.no,.no,.no,.no,.no,.no,.no,.no,.no,.no,.no]) (S':=R3) (aQ co rfl)).trans ?_;refine(af (δ':=[s0,cv,nl,pt,st,.no,.no,.no,.no,.no,.no,.no,.no,.no,.no]) (S':=R3) (aA (aR (CT (rl rfl) zr (ES (F:=λk=>.int (xE ps k:Nat)) _ 0 λk _ _=>⟨[pt,.val (.int (k:Nat))],rfl,nF (λd hd=>by have:=(g d hd).l;rw[gv];omega) l6⟩)) (by rw[lN];rfl)))).trans ?_;have cm:∀k,k<NL.length->aw bM (aF aW (ao 0) (ac 1)) (!"main") [nl,.val (.int (k:Nat))]=some (nh (dh ps k)):=λk hk=>by
  obtain⟨k2,f1,f2⟩:=vk p1 (lN▸hk);refine(tD (yV rfl rfl hk)).trans ?_;rw[nh,f1]
 have c1:=EF (h:=ae 1) (c:=aw bM (aF aW (ao 0) (ac 1)) !"main") (δ:=[nl,.no]) (fe:=ac 1) (p:=λk=>nh (dh ps k)) NL.length 0 λk _ hk=>⟨[nl,.val (.int (k:Nat))],rfl,cm k (by omega),rfl⟩
 have c2:=EF (h:=ae 1) (c:=aw ng (aF aW (ao 0) (ac 1)) !"main") (δ:=[nl,.no]) (fe:=ac 1) (p:=λk=>!nh (dh ps k)) NL.length 0 λk _ hk=>⟨[nl,.val (.int (k:Nat))],rfl,by
  obtain⟨k2,f1,f2⟩:=vk p1 (lN▸(show k<NL.length by omega));refine(jU (yV rfl rfl (show k<NL.length by omega)) rfl rfl).trans ?_;rw[nh,f1],rfl⟩
 rw[lN]at c1 c2 rl zr;have dv:∀{δ:DS},ao 2 δ=some (.list (fX NL))->c9 [some 2,none] δ=[nl,.no]->aF bp (aP (cf [some 2,none] (iC #[cp bw (ao 2)]) (ae 1) (aw bM (aF aW (ao 0) (ac 1)) !"main") (ac 1))) (aP (cf [some 2,none] (iC #[cp bw (ao 2)]) (ae 1) (aw ng (aF aW (ao 0) (ac 1)) !"main") (ac 1))) δ=some (.list ((xA ps).map λk=>.int (k:Nat))):=λ{δ} h1 h2=>by
  have a1:=US (λk=>nh (dh ps k)) (List.range' 0 ps.length);have a2:=US (λk=>!nh (dh ps k)) (List.range' 0 ps.length);rw[List.length_range']at a1 a2;refine dO (CT (rl h1) zr (by rw[h2];exact c1)) (CT (rl h1) zr (by rw[h2];exact c2)) ((iw (sz _ (by rw[Uj,Uj];omega))).trans ?_);rw[<-UX];rfl
 refine(af (δ':=[s0,cv,nl,pt,st,od,.no,.no,.no,.no,.no,.no,.no,.no,.no]) (S':=R3) (aA (aR (dv rfl rfl) rfl))).trans ?_;refine(af (δ':=[s0,cv,nl,pt,st,od,bg,.no,.no,.no,.no,.no,.no,.no,.no]) (S':=S6) rfl).trans ?_;refine(af (δ':=[s0,cv,nl,pt,st,od,bg,.val (.int (0:Nat)),.no,.no,.no,.no,.no,.no,.no]) (S':=S6) rfl).trans ?_;refine(af ((cc (S1:=S6) (ds:=(xA ps).map λk=>.int (k:Nat)) rfl).trans e6)).trans ?_;refine(af (δ':=[s0,cv,nl,pt,st,od,bg,.val (.int (j':Nat)),t8,.own [],.no,.no,.no,.no,.no]) (S':=S7) rfl).trans ?_;refine(af (aA (mz (ds:=ps.map kK) rfl e9))).trans ?_;have jt:mJ (Str.ofString "\n") (.list (pN (lP ps)))=some tx:=by
  have m:pN (lP ps)=((lP ps).map pQ).map .str:=by simp[pN]
  have okl:∀l∈lP ps,qO l:=Fv ps λd hd q hq=>((ok.2.2.2 d hd).2.2 q hq).2;have jo:JoinOk (ch 10) ((lP ps).map pQ)=true:=CU (m:=54) (λw hw=>by
   obtain⟨l,hl,rfl⟩:=Vf.mp hw;exact(xR l (okl l hl)).1) (by rw[Uj];omega)
  show((mS (pN (lP ps))).bind λws=>if JoinOk (ch 10) ws=true then some (W.str (Txt.join (ch 10) ws)) else none)=_;rw[m,ko];simp only[TZ,Ul jo,zR];rfl
 let ow:Sl:=.own (pN (lP ps));let j7:Sl:=.val (.int (j':Nat));refine(af (δ':=[s0,cv,nl,pt,st,od,bg,j7,t8,ow,t10,.val tx,.no,.no,.no]) (S':=S7) (aA (aR (vL rfl rfl jt) rfl))).trans ?_;refine(af (δ':=[s0,cv,nl,pt,st,od,bg,j7,t8,ow,t10,.val tx,.val P,.no,.no]) (S':=S7++R12) (aQ (aB (S1:=S7) (ds:=[tx]) rfl e12) rfl)).trans ?_;refine(af (δ':=[s0,cv,nl,pt,st,od,bg,j7,t8,ow,t10,.val tx,.val P,.val (.list Rw),.no]) (S':=S13) (aQ (aB (S1:=S7++R12) (ds:=[P]) rfl e13) rfl)).trans ?_;refine(af (δ':=[s0,cv,nl,pt,st,od,bg,j7,t8,ow,t10,.val tx,.val P,.val (.list Rw),.val (.list [])]) (S':=S13) rfl).trans ?_;refine(af ((cc (S1:=S13) (ds:=(xA ps).map λk=>.int (k:Nat)) rfl).trans e17)).trans ?_;let δ:DS:=[s0,cv,nl,pt,st,od,bg,j7,u8,ow,t10,.val tx,.val P,.val (.list Rw),.val (.list Rw)]
 have q1:uf true (aa (ac 12)) (aM lA (aa #[ac 11])) δ (S13++R17)=some (.ok false,S18):=by
  have a:aa (ac 12) δ (S13++R17)=some (.ok P,S13++R17):=rfl;have b:aM lA (aa #[ac 11]) δ (S13++R17)=some (.ok P,S18):=aB (S1:=S13++R17) (ds:=[tx]) rfl e18;have e:qZ true P P S18=some false:=FV S18 λd hd=>(g d hd).h;simp only[uf,aq,a,b,e,iD,Ue]
 have q2:aa (pH (lE (cp (oR "list") (ac 13)))) δ S18=some (.ok false,S18):=rfl;have q3:aa (aw ng (cp bw (ao 13)) (cp bw (ao 14))) δ S18=some (.ok false,S18):=aj (jU (bX (a:=.list Rw) (r:=.int (Rw.length:Int)) rfl rfl) (bX (a:=.list Rw) (r:=.int (Rw.length:Int)) rfl rfl) (by show some (!decide ((Rw.length:Int)=Rw.length))=_;rw[Uq rfl];rfl));have q:FH (uf true (aa (ac 12)) (aM lA (aa #[ac 11]))) (FH (aa (pH (lE (cp (oR "list") (ac 13))))) (aa (aw ng (cp bw (ao 13)) (cp bw (ao 14))))) δ (S13++R17)=some (.ok false,S18):=by
  simp only[FH,aq,q1,q2,q3,UR,V4]
 refine(af (δ':=δ) (S':=S18) ((aY q).trans rfl)).trans ?_;have rk:=Jt (dq:=GR (q9 (ja 1 ps))) (λg=>⟨_,rfl⟩) (q9 (ja 1 ps)) 0;have lR:Rw.length<=9000:=by
  have:=vq qP (GR (q9 (ja 1 ps))) Fn (q9 (ja 1 ps)) 0 λq hq=>by
   have pL:(q9 (ja 1 ps)).Perm (ja 1 ps):=U3 nh _;have m:=VN (f:=(·.2)) (pL.mem_iff.mp hq);rw[jp]at m;exact Jp (g _ m)
  have l:(q9 (ja 1 ps)).length=ps.length:=by
   have pL:(q9 (ja 1 ps)).Perm (ja 1 ps):=U3 nh _;rw[pL.length_eq,v7]
  rw[l]at this;show(xC qP (GR (q9 (ja 1 ps))) Fn 0 (q9 (ja 1 ps))).length<=9000;omega
 have rr:iC #[cp bw (ao 14)] δ=some (FG 0 Rw.length):=by
  have e:#[cp bw (ao 14)] δ=some [.int (Rw.length:Nat)]:=gT (bX (a:=.list Rw) rfl rfl) rfl;rw[wI e (by omega),Jk]
 exact cX (bt (bX (CT rr (by simp;omega) (Pz rk)) (Fi _)))
theorem Fg{α:Type}{P:List α->Prop}{n:Nat}(h:∀a us,us.length=n->P (a::us)):∀us:List α,us.length=n+1->P us:=λus hl=>by
 cases us with
 | nil=>cases hl
 | cons a us=>exact h a us (Nat.succ.inj hl)
theorem Sb{α:Type}{P:List α->Prop}(h:P []):∀us:List α,us.length=0->P us:=λus hl=>by
 cases us with
 | nil=>exact h
 | cons a us=>cases hl
theorem jB{α:Type}{P:List α->Prop}(h:∀a0,P [a0]):∀us:List α,us.length=1->P us:=Fg λa us hl=>Sb (P:=λl=>P (a::l)) (h a) us hl
theorem sL{α:Type}{P:List α->Prop}(h:∀a0 a1,P [a0,a1]):∀us:List α,us.length=2->P us:=Fg λa us hl=>jB (P:=λl=>P (a::l)) (h a) us hl
theorem Nz{α:Type}{P:List α->Prop}(h:∀a0 a1 a2,P [a0,a1,a2]):∀us:List α,us.length=3->P us:=Fg λa us hl=>sL (P:=λl=>P (a::l)) (h a) us hl
theorem P9{α:Type}{P:List α->Prop}(h:∀a0 a1 a2 a3,P [a0,a1,a2,a3]):∀us:List α,us.length=4->P us:=Fg λa us hl=>Nz (P:=λl=>P (a::l)) (h a) us hl
theorem TH{α:Type}{P:List α->Prop}(h:∀a0 a1 a2 a3 a4,P [a0,a1,a2,a3,a4]):∀us:List α,us.length=5->P us:=Fg λa us hl=>P9 (P:=λl=>P (a::l)) (h a) us hl
set_option maxHeartbeats 0 in
theorem all_mk{l:PySem.W.OpenLaw}{w:World}{K:Frag}{h:Heap}{mg:Str->Option Value}{fa:Addr}(X:K.In h)(G:h.Ns mainGlobals mg)(hfa:mg "law" = some (.ref fa)){c_Walk:Addr}{c_Nest:Addr}{c_Sheet:Addr}{PB:Addr}{oT1:Obj}{nT1:Nat}{a_FORMS:Addr}{es_FORMS:Array DictEntry}{n_FORMS:Nat}{a_KEPT:Addr}{o_KEPT:Obj}{tLN:Tok}{tMD:Tok}{tMF:Tok}{tML:Tok}{tMP:Tok}{tMR:Tok}{a_SIGNS:Addr}{o_SIGNS:Obj}{a_WORKINGS:Addr}{o_WORKINGS:Obj}
 (mm_Walk:PySem.W.nsIn K mainGlobals "Walk" = some (some (.ref c_Walk)))
 (mm_Nest:PySem.W.nsIn K mainGlobals "Nest" = some (some (.ref c_Nest)))
 (mm_Sheet:PySem.W.nsIn K mainGlobals "Sheet" = some (some (.ref c_Sheet)))
 (a0:An K "bodies_of" pF .none)
 (a1:An K "placed" rG (.ref PB))
 (lT1:K.lookup PB=some oT1)
 (hT1:oT1.data=.seq (List.toArray [.none]) nT1)
 (a2:An K "expressions_of" iB .none)
 (a3:An K "given_by" qz .none)
 (a4:An K "is_letter" pB .none)
 (a5:An K "is_figure" oF .none)
 (a6:An K "is_name" tS .none)
 (a7:An K "read_number" kM .none)
 (a8:An K "leaves_of" pv .none)
 (a9:Am K c_Walk "__init__" "Walk.__init__" jv)
 (a10:Am K c_Walk "is_over" "Walk.is_over" jI)
 (a11:Am K c_Walk "before" "Walk.before" kY)
 (a12:Am K c_Walk "taken" "Walk.taken" mm)
 (a13:An K "words_of" sk .none)
 (a14:An K "word_from" oZ .none)
 (a15:An K "check_over" m6 .none)
 (a16:An K "name_from" pC .none)
 (a17:An K "part_from" pE .none)
 (a18:An K "expression_from" gZ .none)
 (a19:An K "several" tz .none)
 (a20:An K "read_part" ox .none)
 (a21:An K "read_line" oE .none)
 (a22:Am K c_Nest "__init__" "Nest.__init__" j8)
 (a23:Am K c_Nest "check_def" "Nest.check_def" i8)
 (a24:Am K c_Nest "check_block" "Nest.check_block" gH)
 (a25:Am K c_Nest "check" "Nest.check" mQ)
 (a26:An K "check_nests" kW .none)
 (a27:An K "other_from" jk .none)
 (a28:An K "statement_from" fz .none)
 (a29:An K "body_from" jF .none)
 (a30:An K "def_from" rW .none)
 (a31:An K "check_calls" kH .none)
 (a32:An K "check_names" kS .none)
 (a33:An K "read" BV .none)
 (a34:Am K c_Sheet "__init__" "Sheet.__init__" iH)
 (a35:Am K c_Sheet "lay" "Sheet.lay" pz)
 (a36:Am K c_Sheet "begin" "Sheet.begin" lg)
 (a37:Am K c_Sheet "add" "Sheet.add" oV)
 (a38:Am K c_Sheet "free" "Sheet.free" mE)
 (a39:An K "settled" uo .none)
 (a40:An K "names_within" kh .none)
 (a41:An K "slots_of" ql .none)
 (a42:An K "make_expression" gU .none)
 (a43:An K "make_rest" p0 .none)
 (a44:An K "make_if" nJ .none)
 (a45:An K "make_statement" f8 .none)
 (a46:An K "make_body" kb .none)
 (a47:An K "made" CF .none)
 (a48:An K "_law_whole" mH .none)
 (a49:An K "_law_names_of_defs" fN .none)
 (a50:An K "_law_params" kJ .none)
 (a51:An K "_law_mixed" mr .none)
 (a52:An K "_law_leaf_by" jY .none)
 (a53:An K "_law_line_by" jP .none)
 (a54:An K "_law_def" qr .none)
 (a55:An K "_law_note" oS .none)
 (a56:An K "_law_slots" mh .none)
 (a57:An K "_law_leaf_row" j0 .none)
 (a58:An K "_law_statement" i9 .none)
 (a59:An K "_law_sizes" m8 .none)
 (a60:An K "_law_due" qE .none)
 (a61:An K "_law_same" oH .none)
 (a62:An K "law" vV .none)
 (s_Walk:Qc K c_Walk/\NoAttr K c_Walk "row" /\ NoAttr K c_Walk "at")
 (s_Nest:Qc K c_Nest/\NoAttr K c_Nest "opened" /\ NoAttr K c_Nest "in_main")
 (s_Sheet:Qc K c_Sheet/\NoAttr K c_Sheet "rows" /\ NoAttr K c_Sheet "spots" /\ NoAttr K c_Sheet "name" /\ NoAttr K c_Sheet "slots")
 (zz_all:PySem.W.nsIn K mainGlobals "all" = some none)
 (zz_bool:PySem.W.nsIn K mainGlobals "bool" = some none)
 (zz_enumerate:PySem.W.nsIn K mainGlobals "enumerate" = some none)
 (zz_int:PySem.W.nsIn K mainGlobals "int" = some none)
 (zz_isinstance:PySem.W.nsIn K mainGlobals "isinstance" = some none)
 (zz_len:PySem.W.nsIn K mainGlobals "len" = some none)
 (zz_list:PySem.W.nsIn K mainGlobals "list" = some none)
 (zz_range:PySem.W.nsIn K mainGlobals "range" = some none)
 (zz_set:PySem.W.nsIn K mainGlobals "set" = some none)
 (zz_str:PySem.W.nsIn K mainGlobals "str" = some none)
 (zz_sum:PySem.W.nsIn K mainGlobals "sum" = some none)
 (zz_tuple:PySem.W.nsIn K mainGlobals "tuple" = some none)
 (mm_FORMS:PySem.W.nsIn K mainGlobals "FORMS" = some (some (.ref a_FORMS)))
 (lk_FORMS:K.lookup a_FORMS=some ⟨.type "dict", none,.dict es_FORMS n_FORMS,(List.toArray [])⟩)
 (ly_FORMS:PySem.W.KeysLit w.params es_FORMS.toList)
 (lt_FORMS:Jh K a_FORMS d9=true)
 (lo_FORMS:(a_FORMS==sysModules)=false)
 (mm_KEPT:PySem.W.nsIn K mainGlobals "KEPT" = some (some (.ref a_KEPT)))
 (lk_KEPT:K.lookup a_KEPT=some o_KEPT)
 (lc_KEPT:o_KEPT.cls=.type "tuple")
 (lt_KEPT:l7 o_KEPT [(Str.ofString "def"),(Str.ofString "set"),(Str.ofString "put"),(Str.ofString "tell"),(Str.ofString "if"),(Str.ofString "else"),(Str.ofString "while"),(Str.ofString "end"),(Str.ofString "break"),(Str.ofString "again"),(Str.ofString "call"),(Str.ofString "return"),(Str.ofString "stop"),(Str.ofString "join"),(Str.ofString "meet"),(Str.ofString "lane"),(Str.ofString "lanes"),(Str.ofString "mine"),(Str.ofString "box"),(Str.ofString "div"),(Str.ofString "rem"),(Str.ofString "sum"),(Str.ofString "most"),(Str.ofString "least"),(Str.ofString "ahead")]=true)
 (mm_LONGEST_NAME:PySem.W.nsIn K mainGlobals "LONGEST_NAME" = some (some (.int 8 tLN)))
 (mm_MOST_DEEP:PySem.W.nsIn K mainGlobals "MOST_DEEP" = some (some (.int 6 tMD)))
 (mm_MOST_FIGURES:PySem.W.nsIn K mainGlobals "MOST_FIGURES" = some (some (.int 9 tMF)))
 (mm_MOST_LINES:PySem.W.nsIn K mainGlobals "MOST_LINES" = some (some (.int 200 tML)))
 (mm_MOST_PARTS:PySem.W.nsIn K mainGlobals "MOST_PARTS" = some (some (.int 6 tMP)))
 (mm_MOST_ROUND:PySem.W.nsIn K mainGlobals "MOST_ROUND" = some (some (.int 5 tMR)))
 (mm_SIGNS:PySem.W.nsIn K mainGlobals "SIGNS" = some (some (.ref a_SIGNS)))
 (lk_SIGNS:K.lookup a_SIGNS=some o_SIGNS)
 (lc_SIGNS:o_SIGNS.cls=.type "tuple")
 (lt_SIGNS:l7 o_SIGNS [(Str.ofString "lane"),(Str.ofString "lanes"),(Str.ofString "mine")]=true)
 (mm_WORKINGS:PySem.W.nsIn K mainGlobals "WORKINGS" = some (some (.ref a_WORKINGS)))
 (lk_WORKINGS:K.lookup a_WORKINGS=some o_WORKINGS)
 (lc_WORKINGS:o_WORKINGS.cls=.type "tuple")
 (lt_WORKINGS:l7 o_WORKINGS [(Str.ofString "+"),(Str.ofString "-"),(Str.ofString "*"),(Str.ofString "div"),(Str.ofString "rem"),(Str.ofString "<"),(Str.ofString "=")]=true):
 ∃fd:FuncData,(∀(s:Shared)(v:Value),BindsTo s fd ⟨[v],[]⟩ [("_law_script", v)])/\∀base:Heap,K.In base->base.Ns mainGlobals mg->eW l.prog w K mg base FN 26 fa fd ["_law_script"] (vB K):=by
 obtain⟨cl,rfl,rfl,rfl⟩:=TJ c_Walk c_Nest c_Sheet;obtain⟨f1,_,_,_,_,_,_,_,_,_,m1,l1,c1,k1⟩:=a1;have D_placed:qf (MU K mg "placed" ["body", "around"] [.none]) K "placed" "placed" rG:=⟨_,_,mn l1 c1 k1,UH X G m1,k1,(λs us Xs hl=>sL (P:=λus=>BindsTo s _ ⟨us,[]⟩ (List.zip _ (us++_))) (λ_ _=>PySem.W.binds_K Xs rfl lT1 hT1 rfl rfl) us (by simpa using hl)),(λs us Xs hl=>jB (P:=λus=>BindsTo s _ ⟨us,[]⟩ (List.zip _ (us++_))) (λ_=>PySem.W.binds_K Xs rfl lT1 hT1 rfl rfl) us (by simpa using hl))⟩
 have q_Walk:eY K mg cl:=⟨UH X G mm_Walk,s_Walk.1.cls,s_Walk.2⟩
 have q_Nest:nQ K mg cl:=⟨UH X G mm_Nest,s_Nest.1.cls,s_Nest.2⟩
 have q_Sheet:eR K mg cl:=⟨UH X G mm_Sheet,s_Sheet.1.cls,s_Sheet.2⟩
 have z_all:=UJ X G zz_all;have z_bool:=UJ X G zz_bool;have z_enumerate:=UJ X G zz_enumerate;have z_int:=UJ X G zz_int;have z_isinstance:=UJ X G zz_isinstance;have z_len:=UJ X G zz_len;have z_list:=UJ X G zz_list;have z_range:=UJ X G zz_range;have z_set:=UJ X G zz_set;have z_str:=UJ X G zz_str;have z_sum:=UJ X G zz_sum;have z_tuple:=UJ X G zz_tuple;have m_FORMS:=UH X G mm_FORMS;have g_FORMS:vD K w.params a_FORMS d9:=⟨⟨_,_,lk_FORMS,ly_FORMS⟩,lt_FORMS,lo_FORMS⟩
 have m_KEPT:=UH X G mm_KEPT;have g_KEPT:pU K a_KEPT ([(Str.ofString "def"),(Str.ofString "set"),(Str.ofString "put"),(Str.ofString "tell"),(Str.ofString "if"),(Str.ofString "else"),(Str.ofString "while"),(Str.ofString "end"),(Str.ofString "break"),(Str.ofString "again"),(Str.ofString "call"),(Str.ofString "return"),(Str.ofString "stop"),(Str.ofString "join"),(Str.ofString "meet"),(Str.ofString "lane"),(Str.ofString "lanes"),(Str.ofString "mine"),(Str.ofString "box"),(Str.ofString "div"),(Str.ofString "rem"),(Str.ofString "sum"),(Str.ofString "most"),(Str.ofString "least"),(Str.ofString "ahead")]):=λ_=>kx lk_KEPT lc_KEPT lt_KEPT;have m_LONGEST_NAME:=UH X G mm_LONGEST_NAME;have g_LONGEST_NAME:∀ρ G,Dw K ρ G (.int 8) ((.int 8)):=λρ G=>Dw.int _;have m_MOST_DEEP:=UH X G mm_MOST_DEEP;have g_MOST_DEEP:∀ρ G,Dw K ρ G (.int 6) ((.int 6)):=λρ G=>Dw.int _;have m_MOST_FIGURES:=UH X G mm_MOST_FIGURES;have g_MOST_FIGURES:∀ρ G,Dw K ρ G (.int 9) ((.int 9)):=λρ G=>Dw.int _;have m_MOST_LINES:=UH X G mm_MOST_LINES;have g_MOST_LINES:∀ρ G,Dw K ρ G (.int 200) ((.int 200)):=λρ G=>Dw.int _;have m_MOST_PARTS:=UH X G mm_MOST_PARTS;have g_MOST_PARTS:∀ρ G,Dw K ρ G (.int 6) ((.int 6)):=λρ G=>Dw.int _;have m_MOST_ROUND:=UH X G mm_MOST_ROUND;have g_MOST_ROUND:∀ρ G,Dw K ρ G (.int 5) ((.int 5)):=λρ G=>Dw.int _;have m_SIGNS:=UH X G mm_SIGNS;have g_SIGNS:pU K a_SIGNS ([(Str.ofString "lane"),(Str.ofString "lanes"),(Str.ofString "mine")]):=λ_=>kx lk_SIGNS lc_SIGNS lt_SIGNS;have m_WORKINGS:=UH X G mm_WORKINGS;have g_WORKINGS:pU K a_WORKINGS ([(Str.ofString "+"),(Str.ofString "-"),(Str.ofString "*"),(Str.ofString "div"),(Str.ofString "rem"),(Str.ofString "<"),(Str.ofString "=")]):=λ_=>kx lk_WORKINGS lc_WORKINGS lt_WORKINGS;obtain⟨y_expression_from,_,_,_,_,_,_,_,_,_,my_expression_from,_⟩:=id a18;have fa_expression_from:N5 K mg "expression_from" y_expression_from:=⟨my_expression_from,UH X G my_expression_from⟩
 obtain⟨y_name_from,_,_,_,_,_,_,_,_,_,my_name_from,_⟩:=id a16;have fa_name_from:N5 K mg "name_from" y_name_from:=⟨my_name_from,UH X G my_name_from⟩
 have nsmg:Ie K mg:=λ_ _ m=>UH X G m;obtain⟨_,_,_,kV,dc,pm,an,cd,ct,_,ml,ll,cL,kL⟩:=a62;cases hfa.symm.trans (UH X G ml);refine⟨PySem.W.fnOf "law" "law" (dH vV) (cM vV) (bf vV) .none kV dc pm an cd ct,λs v=>.of_eq rfl,λbase _ _=>?_⟩;have C_bodies_of:=uu (P:=l.prog) (w:=w) (base:=base) (a0.dn X G (λ_ _ _ _ _ _=>jB λ_=>rfl));have C_placed:=B1 D_placed C_bodies_of;have C_expressions_of:=mW (P:=l.prog) (w:=w) (base:=base) (a2.dn X G (λ_ _ _ _ _ _=>jB λ_=>rfl)) z_list;have C_given_by:=wY (P:=l.prog) (w:=w) (base:=base) (a3.dn X G (λ_ _ _ _ _ _=>jB λ_=>rfl));have C_is_letter:=uH (P:=l.prog) (w:=w) (base:=base) (a4.dn X G (λ_ _ _ _ _ _=>jB λ_=>rfl));have C_is_figure:=ve (P:=l.prog) (w:=w) (base:=base) (a5.dn X G (λ_ _ _ _ _ _=>jB λ_=>rfl));have C_is_name:=xN (a6.dn X G (λ_ _ _ _ _ _=>jB λ_=>rfl)) C_is_letter z_len z_all m_LONGEST_NAME g_LONGEST_NAME m_KEPT g_KEPT;have C_read_number:=qu (a7.dn X G (λ_ _ _ _ _ _=>jB λ_=>rfl)) C_is_figure z_all z_len z_int m_MOST_FIGURES g_MOST_FIGURES;have C_leaves_of:=vi (P:=l.prog) (w:=w) (base:=base) (a8.dn X G (λ_ _ _ _ _ _=>jB λ_=>rfl)) m_WORKINGS g_WORKINGS;have C_Walk___init__:=nP (P:=l.prog) (w:=w) (base:=base) (cl:=cl) (a9.mk s_Walk.1 (λ_ _ _ _ _ _=>sL λ_ _=>rfl)) q_Walk;have C_Walk_is_over:=pS (P:=l.prog) (w:=w) (base:=base) (cl:=cl) (a10.dn (λ_ _ _ _ _ _=>jB λ_=>rfl)) q_Walk z_len;have C_Walk_before:=sh (P:=l.prog) (w:=w) (base:=base) (cl:=cl) (a11.dn (λ_ _ _ _ _ _=>jB λ_=>rfl)) q_Walk;have C_Walk_taken:=sR (P:=l.prog) (w:=w) (base:=base) (cl:=cl) (a12.dn (λ_ _ _ _ _ _=>jB λ_=>rfl)) q_Walk;have C_words_of:=wn (cl:=cl) (a13.dn X G (λ_ _ _ _ _ _=>jB λ_=>rfl)) C_Walk___init__ q_Walk;have C_word_from:=uV (cl:=cl) (a14.dn X G (λ_ _ _ _ _ _=>jB λ_=>rfl)) C_Walk_is_over C_Walk_taken q_Walk;have C_check_over:=sO (cl:=cl) (a15.dn X G (λ_ _ _ _ _ _=>jB λ_=>rfl)) C_Walk_is_over q_Walk;have C_name_from:=vj (cl:=cl) (a16.dn X G (λ_ _ _ _ _ _=>jB λ_=>rfl)) C_word_from C_is_name;have C_part_from:=uJ (cl:=cl) (a17.dn X G (λ_ _ _ _ _ _=>sL λ_ _=>rfl)) C_word_from C_is_name C_read_number m_WORKINGS g_WORKINGS m_SIGNS g_SIGNS;have C_expression_from:=lC (cl:=cl) (a18.dn X G (λ_ _ _ _ _ _=>jB λ_=>rfl)) C_part_from m_MOST_DEEP g_MOST_DEEP;have C_several:=xZ (cl:=cl) (a19.dn X G (λ_ _ _ _ _ _=>sL λ_ _=>rfl)) C_Walk_is_over C_name_from C_expression_from q_Walk z_len nsmg m_MOST_PARTS g_MOST_PARTS;have C_read_part:=vw (cl:=cl) (a20.dn X G (λ_ _ _ _ _ _=>sL λ_ _=>rfl)) C_several C_name_from C_expression_from fa_name_from fa_expression_from;have C_read_line:=v6 (cl:=cl) (a21.dn X G (λ_ _ _ _ _ _=>jB λ_=>rfl)) C_words_of C_word_from C_read_part C_check_over z_tuple m_FORMS g_FORMS;have C_Nest___init__:=nW (P:=l.prog) (w:=w) (base:=base) (cl:=cl) (a22.mk s_Nest.1 (λ_ _ _ _ _ _=>jB λ_=>rfl)) q_Nest;have C_Nest_check_def:=mG (P:=l.prog) (w:=w) (base:=base) (cl:=cl) (a23.dn (λ_ _ _ _ _ _=>sL λ_ _=>rfl)) q_Nest;have C_Nest_check_block:=kB (P:=l.prog) (w:=w) (base:=base) (cl:=cl) (a24.dn (λ_ _ _ _ _ _=>sL λ_ _=>rfl)) q_Nest z_len m_MOST_ROUND g_MOST_ROUND;have C_Nest_check:=sD (cl:=cl) (a25.dn (λ_ _ _ _ _ _=>sL λ_ _=>rfl)) C_Nest_check_def C_Nest_check_block q_Nest;have C_check_nests:=rY (cl:=cl) (a26.dn X G (λ_ _ _ _ _ _=>jB λ_=>rfl)) C_Nest___init__ C_Nest_check q_Nest;have D_other_from:fB K mg "other_from" ["lines"] [] jk:=a27.dn X G (λ_ _ _ _ _ _=>jB λ_=>rfl);have D_statement_from:fB K mg "statement_from" ["lines"] [] fz:=a28.dn X G (λ_ _ _ _ _ _=>jB λ_=>rfl);have D_body_from:fB K mg "body_from" ["lines"] [] jF:=a29.dn X G (λ_ _ _ _ _ _=>jB λ_=>rfl);have R_body_from:∀n,hX l.prog w K mg base cl n (1+3*n):=by
  intro n;induction n with
  | zero=>exact uC D_body_from λ_ _=>rfl
  | succ n ih=>
   have C_other_from:=sK (cl:=cl) (n:=n) (k:=1+3*n) (by omega) D_other_from C_Walk_taken q_Walk;have C_statement_from:=my (cl:=cl) (n:=n) (k:=1+3*n) (by omega) D_statement_from C_Walk_taken C_other_from ih q_Walk;exact uz (cl:=cl) (n:=n) (k:=1+3*n) (by omega) D_body_from C_Walk_before C_statement_from q_Walk
 have C_body_from:=R_body_from 7;have C_def_from:=xj (cl:=cl) (a30.dn X G (λ_ _ _ _ _ _=>jB λ_=>rfl)) C_Walk_taken C_body_from q_Walk;have C_check_calls:=sy (cl:=cl) (a31.dn X G (λ_ _ _ _ _ _=>sL λ_ _=>rfl)) C_placed z_len;have C_check_names:=rM (cl:=cl) (a32.dn X G (λ_ _ _ _ _ _=>jB λ_=>rfl)) C_check_calls z_len z_set;have C_read:=GK (cl:=cl) (a33.dn X G (λ_ _ _ _ _ _=>jB λ_=>rfl)) C_read_line C_check_nests C_Walk___init__ C_Walk_is_over C_def_from C_check_names q_Walk z_len m_MOST_LINES g_MOST_LINES;have C_Sheet___init__:=lV (P:=l.prog) (w:=w) (base:=base) (cl:=cl) (a34.mk s_Sheet.1 (λ_ _ _ _ _ _=>jB λ_=>rfl)) q_Sheet;have C_Sheet_lay:=uI (P:=l.prog) (w:=w) (base:=base) (cl:=cl) (a35.dn (λ_ _ _ _ _ _=>sL λ_ _=>rfl)) q_Sheet z_len;have C_Sheet_begin:=rO (cl:=cl) (a36.dn (λ_ _ _ _ _ _=>Nz λ_ _ _=>rfl)) C_Sheet_lay q_Sheet;have C_Sheet_add:=uU (P:=l.prog) (w:=w) (base:=base) (cl:=cl) (a37.dn (λ_ _ _ _ _ _=>sL λ_ _=>rfl)) q_Sheet;have C_Sheet_free:=sP (P:=l.prog) (w:=w) (base:=base) (cl:=cl) (a38.dn (λ_ _ _ _ _ _=>jB λ_=>rfl)) q_Sheet z_len;have C_settled:=yh (P:=l.prog) (w:=w) (base:=base) (cl:=cl) (a39.dn X G (λ_ _ _ _ _ _=>sL λ_ _=>rfl));have C_names_within:=pW (a40.dn X G (λ_ _ _ _ _ _=>jB λ_=>rfl)) C_placed C_given_by C_expressions_of C_leaves_of;have C_slots_of:=wv (cl:=cl) (a41.dn X G (λ_ _ _ _ _ _=>sL λ_ _=>rfl)) C_names_within z_len;have C_make_expression:=lu (cl:=cl) (a42.dn X G (λ_ _ _ _ _ _=>P9 λ_ _ _ _=>rfl)) C_Sheet_add q_Sheet m_SIGNS g_SIGNS;have C_make_rest:=uE (cl:=cl) (a43.dn X G (λ_ _ _ _ _ _=>sL λ_ _=>rfl)) C_Sheet_free C_Sheet_add q_Sheet z_len;have D_make_if:fB K mg "make_if" ["sheet", "statement", "loop"] [] nJ:=a44.dn X G (λ_ _ _ _ _ _=>Nz λ_ _ _=>rfl);have D_make_statement:fB K mg "make_statement" ["sheet", "statement", "loop"] [] f8:=a45.dn X G (λ_ _ _ _ _ _=>Nz λ_ _ _=>rfl);have D_make_body:fB K mg "make_body" ["sheet", "body", "loop"] [] kb:=a46.dn X G (λ_ _ _ _ _ _=>Nz λ_ _ _=>rfl);have R_make_body:∀n,ib l.prog w K mg base cl n (3+3*n):=by
  intro n;induction n with
  | zero=>exact uC D_make_body λ_ _=>rfl
  | succ n ih=>
   have C_make_if:=y6 (cl:=cl) (n:=n) (k:=3+3*n) (by omega) D_make_if C_Sheet_add C_Sheet_free ih C_Sheet_lay q_Sheet;have C_make_statement:=mY (cl:=cl) (n:=n) (k:=3+3*n) (by omega) D_make_statement C_Sheet_lay C_Sheet_add C_make_expression C_expressions_of C_Sheet_free C_make_if C_make_rest q_Sheet z_enumerate;exact vg (cl:=cl) (n:=n) (k:=3+3*n) (by omega) D_make_body C_make_statement
 have C_make_body:=R_make_body 7;have C_made:=HA (cl:=cl) (a47.dn X G (λ_ _ _ _ _ _=>jB λ_=>rfl)) C_Sheet___init__ C_Sheet_begin C_slots_of C_make_body C_Sheet_lay C_Sheet_add C_settled q_Sheet;have C__law_whole:=sY (P:=l.prog) (w:=w) (base:=base) (a48.dn X G (λ_ _ _ _ _ _=>jB λ_=>rfl)) z_isinstance z_bool z_int;have C__law_names_of_defs:=j9 (P:=l.prog) (w:=w) (base:=base) (a49.dn X G (λ_ _ _ _ _ _=>jB λ_=>rfl));have C__law_params:=rm (P:=l.prog) (w:=w) (base:=base) (cl:=cl) (a50.dn X G (λ_ _ _ _ _ _=>jB λ_=>rfl));have C__law_mixed:=sW (P:=l.prog) (w:=w) (base:=base) (a51.dn X G (λ_ _ _ _ _ _=>sL λ_ _=>rfl));have C__law_leaf_by:=pP (P:=l.prog) (w:=w) (base:=base) (a52.dn X G (λ_ _ _ _ _ _=>jB λ_=>rfl)) z_str;have C__law_line_by:=pK (cl:=cl) (a53.dn X G (λ_ _ _ _ _ _=>P9 λ_ _ _ _=>rfl)) C__law_params C__law_leaf_by z_len z_range;have C__law_def:=vY (cl:=cl) (a54.dn X G (λ_ _ _ _ _ _=>Nz λ_ _ _=>rfl)) C__law_params C__law_line_by C__law_mixed z_len z_int z_enumerate;have C__law_note:=vM (P:=l.prog) (w:=w) (base:=base) (cl:=cl) (a55.dn X G (λ_ _ _ _ _ _=>sL λ_ _=>rfl));have C__law_slots:=sN (cl:=cl) (a56.dn X G (λ_ _ _ _ _ _=>jB λ_=>rfl)) C__law_note z_int;have C__law_leaf_row:=nB (P:=l.prog) (w:=w) (base:=base) (cl:=cl) (a57.dn X G (λ_ _ _ _ _ _=>P9 λ_ _ _ _=>rfl)) z_int;have C__law_statement:=lZ (cl:=cl) (a58.dn X G (λ_ _ _ _ _ _=>TH λ_ _ _ _ _=>rfl)) C__law_leaf_row z_len z_enumerate;have C__law_sizes:=sU (P:=l.prog) (w:=w) (base:=base) (a59.dn X G (λ_ _ _ _ _ _=>jB λ_=>rfl)) z_len;have C__law_due:=wW (cl:=cl) (a60.dn X G (λ_ _ _ _ _ _=>P9 λ_ _ _ _=>rfl)) C__law_slots C__law_sizes C__law_statement z_sum z_len z_enumerate;have C__law_same:=vv (a61.dn X G (λ_ _ _ _ _ _=>sL λ_ _=>rfl)) C__law_whole z_isinstance z_tuple z_all z_str;obtain⟨_,_,⟨rfl,rfl⟩,F⟩:=K8 (cl:=cl) (R:=λg gd=>g=fa/\gd=_) Di ⟨_,_,mn ll cL kL,rfl,rfl⟩ C__law_names_of_defs C__law_def C__law_sizes C_read C_made C__law_due C__law_same z_len z_range z_sum z_isinstance z_list z_all;exact F
theorem walk{l:PySem.W.OpenLaw}{q:Program}{loose:List Str}{XP:(Str->Option Value)->Heap->Prop}{YP:World->Heap->Prop}{d:DefRec}{K:Params->Frag}(hn:l.most=some 63)(hdf:d.params.defaults=[])
 (hY:∀(w:World)(h:Heap),YP w h->(K w.params).In h)
 (F:∀(w:World)(mg:Str->Option Value)(fa:Addr)(h:Heap),(K w.params).In h->h.Ns mainGlobals mg->mg d.name=some (.ref fa)->
  ∃fd:FuncData,(∀(s:Shared)(u:Value),BindsTo s fd ⟨[u],[]⟩ [("_law_script", u)])/\∀base:Heap,(K w.params).In base->base.Ns mainGlobals mg->eW l.prog w (K w.params) mg base FN 26 fa fd ["_law_script"] (vB (K w.params))):
 PySem.W.WalkO q loose XP YP l.row.toRowW d [] (λf vs=>PySem.call f vs):=
 L2.walk_of (n:=63) (k:=26) (x := "_law_script") (CX:=λ_=>FN) (sp:=λw=>(vB (K w.params))) hn (by decide) hdf ⟨rfl,by decide,by decide,rfl⟩ hY F (λ_ _ a ns hl _ hS=>⟨a,ns,rfl,hS,hl,λ_=>rfl⟩) λ_ _ _ _ _ z=>z
theorem toX{q:Program}{loose:List Str}{XP:(Str->Option Value)->Heap->Prop}{r:PySem.W.RowW}{d:DefRec}{kwd:List (Str×Expr)}{run:Value->List Value->Sem Value}{K:Params->Frag}{as:List Addr}{n t:Nat}(e:∀P,as=(K P).map (·.1))
 (h:PySem.W.WalkO q loose XP (λw h=>(K w.params).In h) r d kwd run):PySem.W.WalkX q loose XP (PySem.W.X.obsZ as) (PySem.W.X.valZ K n t) r d kwd run:=
 λw s0 s1 mg mb G y a o pm cd doc dV kV h1 h2 h3 h4 h5 h6 args vals as' L hp hl hr hw ho=>h w s0 s1 mg mb G (PySem.W.InK.keeps w s0.heap s1.heap (PySem.W.X.z_facts e y).2.1 L.keeps) a o pm cd doc dV kV h1 h2 h3 h4 h5 h6 args vals as' hp hl hr hw ho
end My
open PySem PySem.W PyProof.Rows
def Sp.k {α : Type} (x : α) (t : True) : α := x
local macro_rules
 | `(command| universe $z) => do
  let F (s : String) (n : Lean.Name) := Lean.mkIdent (`PySem.W.Fast ++ .mkSimple s!"{s}{n.hash}")
  let mut a := #[]
  let mut b := #[]
  let p := Lean.mkIdent `PySem.Challenge.pw_widelanes_k24_rows_of_defs
  for k in [0:81] do
   let c := .mkStr2 "Sp" s!"c{k}"
   let C := Lean.mkIdent c
   let (T, e) <- if k < 80 then pure (<- `(Stmt), <- `(($p).main.body.getD $(Lean.quote k) (.Pass ⟨0, 0, 0, 0⟩))) else pure (<- `(Scope), <- `(($p).main.scope))
   a := ((a.push (<- `(command| def $C : $T := $e))).push (<- `(command| noncomputable def $(F "tw" c) : $T := by
    refine Sp.k ?x ?t
    case t =>
     have h : $C = ?x := by conv => lhs; whnf
     exact trivial))).push (<- `(command| theorem $(F "te" c) : $C = $(F "tw" c) := by kernel_rfl))
   b := b.push C
  for (i, j) in ([(1120,1720)] : List (Nat × Nat)) do
   for k in [i:j] do
    a := a.push (<- `(command| theorem $(F "tw" (`PySem.Challenge.cw_widelanes_k24_rows_of_defs_holds ++ .mkSimple s!"o_{k}")) : True := trivial))
  let q := b.pop
  let s := b.back!
  return Lean.mkNullNode (a.push (<- `(command| def $(Lean.mkIdent `Sp.p) : Program := { main := { body := [$q,*], scope := $s, futureAnnotations := false, file := "/claim/cut.py", more := [] }, modules := [], parses := [], absent := [], harvested := [], given := { argv := [], stdin := [], environ := (some [([76, 67, 95, 65, 76, 76], [67, 46, 85, 84, 70, 45, 56])]) } })))
universe u
set_option maxRecDepth 100000 in
set_option maxHeartbeats 0 in
theorem PySem.Challenge.cw_widelanes_k24_rows_of_defs_holds : PySem.Challenge.rw_widelanes_k24_rows_of_defs.Holds := by
 show OpenLaw.Holds { prog := Sp.p, name := "law", about := ["made"], foot := 15, most := some 63, bound := none, writes := false }
 w_on; o_law;z_head;(case hw=>w_witness2)
 refine My.toX (λ _=>rfl) (My.walk (l:={ prog := Sp.p, name := "law", about := ["made"], foot := 15, most := some 63, bound := none, writes := false }) rfl rfl (λ w h Y=>Y) ?F)
 case F=>
  intro w mg fa h KX G hmg;refine' My.all_mk KX G hmg ?mm_Walk ?mm_Nest ?mm_Sheet ?a0 ?a1 ?lT1 ?hT1 ?a2 ?a3 ?a4 ?a5 ?a6 ?a7 ?a8 ?a9 ?a10 ?a11 ?a12 ?a13 ?a14 ?a15 ?a16 ?a17 ?a18 ?a19 ?a20 ?a21 ?a22 ?a23 ?a24 ?a25 ?a26 ?a27 ?a28 ?a29 ?a30 ?a31 ?a32 ?a33 ?a34 ?a35 ?a36 ?a37 ?a38 ?a39 ?a40 ?a41 ?a42 ?a43 ?a44 ?a45 ?a46 ?a47 ?a48 ?a49 ?a50 ?a51 ?a52 ?a53 ?a54 ?a55 ?a56 ?a57 ?a58 ?a59 ?a60 ?a61 ?a62 ?s_Walk ?s_Nest ?s_Sheet ?zz_all ?zz_bool ?zz_enumerate ?zz_int ?zz_isinstance ?zz_len ?zz_list ?zz_range ?zz_set ?zz_str ?zz_sum ?zz_tuple ?mm_FORMS ?lk_FORMS ?ly_FORMS ?lt_FORMS ?lo_FORMS ?mm_KEPT ?lk_KEPT ?lc_KEPT ?lt_KEPT ?mm_LONGEST_NAME ?mm_MOST_DEEP ?mm_MOST_FIGURES ?mm_MOST_LINES ?mm_MOST_PARTS ?mm_MOST_ROUND ?mm_SIGNS ?lk_SIGNS ?lc_SIGNS ?lt_SIGNS ?mm_WORKINGS ?lk_WORKINGS ?lc_WORKINGS ?lt_WORKINGS
  (case mm_Walk | mm_Nest | mm_Sheet | zz_all | zz_bool | zz_enumerate | zz_int | zz_isinstance | zz_len | zz_list | zz_range | zz_set | zz_str | zz_sum | zz_tuple | mm_FORMS | lk_FORMS | mm_KEPT | lk_KEPT | mm_LONGEST_NAME | mm_MOST_DEEP | mm_MOST_FIGURES | mm_MOST_LINES | mm_MOST_PARTS | mm_MOST_ROUND | mm_SIGNS | lk_SIGNS | mm_WORKINGS | lk_WORKINGS=>k_is)
  (case a0 | a1 | a2 | a3 | a4 | a5 | a6 | a7 | a8 | a13 | a14 | a15 | a16 | a17 | a18 | a19 | a20 | a21 | a26 | a27 | a28 | a29 | a30 | a31 | a32 | a33 | a39 | a40 | a41 | a42 | a43 | a44 | a45 | a46 | a47 | a48 | a49 | a50 | a51 | a52 | a53 | a54 | a55 | a56 | a57 | a58 | a59 | a60 | a61 | a62=>exact ⟨_,_,_,_,_,_,_,_,_,_,by k_is,by k_is,by k_is,by k_is⟩)
  (case a9 | a10 | a11 | a12 | a22 | a23 | a24 | a25 | a34 | a35 | a36 | a37 | a38=>exact ⟨_,_,_,_,_,_,_,_,_,_,by k_is,by k_is,by k_is,by k_is,by k_is⟩)
  (case s_Walk | s_Nest | s_Sheet=>(repeat' apply And.intro) <;> first | k_is | (unfold L2.NoAttr;k_is))
  (case ly_FORMS=>((repeat refine ⟨⟨_,_,rfl,rfl⟩,?_⟩);exact trivial))
  (case lt_FORMS | lt_KEPT | lt_SIGNS | lt_WORKINGS=>kernel_rfl)
  (case lo_FORMS | lc_KEPT | lc_SIGNS | lc_WORKINGS=>rfl)
  (case lT1=>k_is)
  (case hT1=>rfl)
